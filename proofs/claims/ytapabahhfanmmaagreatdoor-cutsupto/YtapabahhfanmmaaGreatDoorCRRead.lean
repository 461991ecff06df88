import Derived.Test.YtapabahhfanmmaaGreatDoorCROrd
namespace Go.Proofs.YtapabahhfanmmaaGreatDoor
open Go.RowKit List Go.Proofs.Tryz
set_option maxHeartbeats 8000000
set_option maxRecDepth 100000
variable {l:List UInt8} {a:Nat} {t:T}
structure RRP (l:List UInt8) (w:World) (e:Ending) (w':World):Prop where
 h:(PL l/\∃gb pb cap,e=.returned (.tuple #[pt gb,ii 0])/\RG w' gb pb cap (bS l)/\w.heap.size<=gb/\w.heap.size<=pb)\/(¬PL l/\e=.returned (.tuple #[.pointer none,ii 2]))
 fr:Fr [] w w'
theorem Kl(b:t.us.length<=a):t.qU a=t:=by simp_all[T.qU,take_of_length_le]
theorem WJ(c:GOk t)(d:OS t):∀a∈t.us,dZ t a:=λa b=>⟨(c.all a b).od,d a b⟩
theorem Dd(a:PL l):∀b∈(bS l).us,dZ (bS l) b:=WJ a.ok a.os
theorem Gb(c:List UInt8)(b:T)(u:World)(hl:c.length<=2000000)(ht:b=bS c):Cs 104 #[.string ⟨c.toArray⟩] u λd w=>RRP c u d w:=by
 have O:Hi (∀{w0:World} {h i be:Nat} {t':T} {I:Value} {dn:Prop} {u:World} (ab:Int),(0<=ab/\ab<=1000000000)->((aM c false (be+1)).2=true\/ab<aD c false be->¬PL c)->RQ w0 c h i be t' I dn u->h≠i->Cs 138 #[pt h,ii ab] u λd w=>∃C,d=.returned (ii C)/\RV w0 c h i be t' I dn ab C w):=λab hm hR l hn=>l.num hn hl ab hm hR;have f:=(show Hi _ from ht);have fe:=aA hl;obtain⟨v,ad⟩:=nm ((u.alloc (.cells #[.string ⟨c.toArray⟩,ii 0,.bool false] 232)).alloc (.cells zeroCells131 131));have ce:Fr [] u v:=by rw[ad];exact((r0 _ _).alloc _).alloc _
 have ds:v.heap[u.heap.size]?=some (.cells #[.string ⟨c.toArray⟩,ii 0,.bool false] 232):=by rw[ad,dW]
 have dp:v.heap[u.heap.size+1]?=some (.cells zeroCells131 131):=by rw[ad,cZ]
 have j0:RQ v c u.heap.size (u.heap.size+1) 0 (eC b 0 0) (.slice none 0 0) True v:=⟨⟨0,false,eC b 0 0,⟨ds,Z3 _⟩,.inl ⟨rfl,rfl⟩,by rw[dp,Ky,XA (bS []) b],λ_=>⟨rfl,p8⟩⟩,r0 _ _⟩;have dl:=(show Hi _ from ad);have ej:v.heap.size=u.heap.size+2:=by rw[ad];simp
 clear ht ad ds dp
 delta Cs;go_in
 go_wp2_with (refine mB rfl 131 rfl zeroCells131 RY ?_)
 rw[<-dl.o];obtain⟨h,bz⟩:=nm u.heap.size;obtain⟨i,hA⟩:=nm (u.heap.size+1);rw[<-hA,<-bz]at j0 |-;have m:h≠i:=qo;have P:Hi (h=u.heap.size/\i=u.heap.size+1/\v.heap.size=u.heap.size+2):=⟨bz,hA,ej⟩;clear bz hA ej dl;refine cm (O.o 1000000000 qo (qM qo) j0 m) ?_;rintro d w3 ⟨v0,rfl,r1⟩;obtain⟨c0,fq⟩:=r1.cell (k:=0) qo;have z0:=r1.fz 0;clear j0
 go_wp2_with fail
 have j2:=r1.put m 0 qo (t2:=eC b 1 0) (by rw[<-WU,f.o];rfl) True (λ_ _=>p8);obtain⟨w4,ep⟩:=nm (w3.setCell ⟨i,0,none⟩ (ii v0));rw[<-ep]at j2 |-;clear ep fq z0 r1;refine cm (O.o 1000000000 qo (qM qo) j2 m) ?_;rintro d w5 ⟨wn,rfl,r2⟩;have j3:=r2.keep;clear j2 r2
 go_wp2_with fail
 have J3:=(show Hi _ from j3.drew);clear j3
 go_region_with (first|(go_at_call 138;refine cm (O.o 1000000000 qo (qM qo) J3.o m) ?_;rintro d w6 ⟨v2,rfl,r3⟩;obtain⟨c2,fs⟩:=r3.cell (k:=145) qo;have z2:=r3.fz 145))
 have j4:=r3.put m 145 qo (t2:=eC b 2 0) (by rw[<-WV,f.o];rfl) (wn=aD c false 1) (λl _=>l.2.1);obtain⟨w7,cf⟩:=nm (w6.setCell ⟨i,145,none⟩ (ii v2));rw[<-cf]at j4
 go_wp2_with fail
 rw[<-cf];clear cf fs z2 r3;have J4:=(show Hi _ from j4.drew);clear j4
 go_region_with (first|(go_at_call 138;refine cm (O.o 1000000000 qo (qM qo) J4.o m) ?_;rintro d w8 ⟨v3,rfl,r4⟩;obtain⟨c3,ft⟩:=r4.cell (k:=146) qo;have z3:=r4.fz 146))
 have j5:=r4.put m 146 qo (t2:=eC b 3 0) (by rw[<-WW,f.o];rfl) (wn=aD c false 1) (λl _=>l);obtain⟨w9,cg⟩:=nm (w8.setCell ⟨i,146,none⟩ (ii v3));rw[<-cg]at j5
 go_wp2_with fail
 rw[<-cg];clear cg ft z3 r4;refine cm (O.o 1000000000 qo (qM qo) j5 m) ?_;rintro d hy ⟨v4,rfl,r5⟩;obtain⟨c4,fu⟩:=r5.cell (k:=147) qo;have z4:=r5.fz 147;clear j5
 go_wp2_with fail
 have j6:=r5.put m 147 qo (t2:=eC b 4 0) (by rw[<-WX,f.o];rfl) (wn=aD c false 1/\∀j,j<0*12->aD c false (5+j)<=10) (λl _=>⟨l,λj J=>by omega⟩);obtain⟨Zu,em⟩:=nm (hy.setCell ⟨i,147,none⟩ (ii v4));rw[<-em]at j6 |-;clear em fu z4 r5
 go_loopw [7] (fun n wr=>∃e:Nat,e<=12/\n=ii e/\RQ v c h i (5+e*12) (eC b 4 (e*12)) (.slice none 0 0) (wn=aD c false 1/\∀j,j<e*12->aD c false (5+j)<=10) wr) (fun n _=>12-(intOf n).toNat)
 ·exact⟨0,by omega,rfl,j6⟩
 obtain⟨e,ie,rfl,hJ⟩:=hrel;clear j6
 by_cases hh:e<12
 ·have ho:(e:Int)<12:=qo;have HJ:=(show Hi _ from hJ);clear hJ
  go_wp2_with fail
  obtain⟨wo,er⟩:=nm wr;rw[<-er]at HJ |-;clear er
  go_loopw [8] (fun n wr=>∃r:Nat,r<=12/\n=ii r/\RQ v c h i (5+(e*12+r)) (eC b 4 (e*12+r)) (.slice none 0 0) (wn=aD c false 1/\∀j,j<e*12+r->aD c false (5+j)<=10) wr) (fun n _=>12-(intOf n).toNat)
  ·exact⟨0,by omega,rfl,HJ.o⟩
  obtain⟨r,ic,rfl,Zr⟩:=hrel
  by_cases hc:r<12
  ·have hd:(r:Int)<12:=qo;have fb:=(show Hi _ from Zr.drew);clear Zr;go_wp2
   go_region_with (first|(go_at_call 138;refine cm (O.o 10 qo (Db qo) fb.o m) ?_;rintro d w3 ⟨vb,rfl,rb⟩;obtain⟨cb,fw⟩:=rb.cell (k:=1+(e*12+r)) qo;have zb:=rb.fz (1+(e*12+r));rw[<-Y0]at fw zb))
   all_goals
    go_wp2;go_roundw
    ·refine⟨r+1,hc,by go_num,?_⟩;rw[show 1+e*12+r=1+(e*12+r) by omega];exact rb.put m (1+(e*12+r)) qo (t2:=eC b 4 (e*12+(r+1))) (by
      rw[<-Y0 (e*12) r 1,<-WZ b (e*12+r) qo,f.o,oZ c qo]) _ (λl hm=>⟨l.1,λj J=>by
       by_cases gm:j<e*12+r
       ·exact l.2 j gm
       have:j=e*12+r:=qo;subst this;exact hm⟩)
    simp[intOf];omega
  have hd:¬(r:Int)<12:=qo;have es:r=12:=qo;have HX:=(show Hi _ from es);have fc:=(show Hi _ from Zr);clear es Zr;go_wp2;go_roundw
  ·exact⟨e+1,hh,by go_num,by have l:=fc.o;rw[HX.o,show e*12+12=(e+1)*12 by omega]at l;exact l⟩
  simp[intOf];omega
 have ho:¬(e:Int)<12:=qo;have he:e=12:=qo;subst he;have HJ:=(show Hi _ from hJ);clear hJ
 go_wp2_with fail
 refine cm (O.o 100 qo Dc HJ.o m) ?_;rintro d cj ⟨dm,rfl,rn⟩;clear O HJ;obtain⟨⟨S,fm,tt,D,az,bx,br⟩,gc,au⟩:=rn;cases fm;rotate_left
 ·have x:Hi (¬PL c):=by
   obtain⟨d,_⟩|⟨_,l⟩:=az
   ·cases d
   exact l
  have cb:ca cj h 2 (.bool true):=aB D.all;have en:=ce.trans au (by simp;have:=P.o;omega);clear D az bx br au;go_wp2
  go_loopw [12] (fun n wr=>n=ii 0/\cj=wr) (fun _ _=>0)
  ·exact⟨rfl,rfl⟩
  obtain⟨rfl,rfl⟩:=hrel
  by_cases hN:0<dm
  ·go_wp2;go_ret2;exact⟨.inr ⟨x.o,rfl⟩,en⟩
  go_wp2;go_ret2;exact⟨.inr ⟨x.o,rfl⟩,en⟩
 obtain⟨gz,⟨eq,dw⟩,dq,gb⟩:=br rfl;have L:aM c false 150=(c.drop S,false):=by
  obtain⟨_,l⟩|⟨d,_⟩:=az
  ·exact l
  cases d
 have gq:(b.us.length:Int)=dm:=by rw[f.o,tB c,dq]
 subst gq;have ac:b.us.length<=100:=qo;subst gz;have jl:RLP v c b h i 0 (.slice none 0 0) cj:=⟨⟨S,D,L⟩,by rw[bx,WY],⟨rfl,.inl ⟨rfl,rfl⟩⟩,λ_=>rfl,λj _ J=>by omega,au⟩;have fa:Hi (∀j,j<144->b.bd j<=10):=λj J=>by rw[f.o,oZ c J];exact dw j J
 have dk:=(show Hi _ from eq);have M:Hi (i<v.heap.size):=by have:=P.o;show _<_;omega
 have N:Hi (h<v.heap.size):=by have:=P.o;show _<_;omega
 obtain⟨ew,dz,et,eu,ev⟩:=Z2 jU;clear D az bx br au dw eq dq gb L gc;go_wp2
 go_loopw [10,11,12] (fun la ba n wr=>∃(k:Nat) (I:Value),k<=b.us.length/\la=ii (gD b.us k)/\ba=ii ((b.us.take k).countP (fun a=>a.kind==1):Nat)/\n=ii k/\RLP v c b h i k I wr) (fun _ _ n _=>b.us.length-(intOf n).toNat)
 ·exact⟨0,_,by omega,rfl,rfl,rfl,jl⟩
 obtain⟨k,I,hk,rfl,rfl,rfl,B⟩:=hrel;clear jl;obtain⟨S,D,L⟩:=B.ex;have cb:ca wr h 2 (.bool false):=aB D.all;have y:=(show Hi _ from B);obtain⟨la,Y⟩:=nn (gD b.us k);obtain⟨bc,Q⟩:=nn ((b.us.take k).countP (λa=>a.kind==1));have ge:bc<=1000:=by have:=Zk1 (p:=λa:U=>a.kind==1) (l:=b.us.take k);rw[Qz8]at this;omega
 rw[Y,Q]
 by_cases aa:k<b.us.length
 ·have ec:(k:Int)<(b.us.length:Int):=qo;obtain⟨C,H⟩:∃C,b.us[k]?=some C:=⟨b.us[k],Y2 aa⟩;have dg:=aA (Hd (¬PL c) h c (150+11*k) S false wr D (.inl ⟨rfl,L⟩) fe.o (Df (by rw[<-f.o];exact aa)));have dd:=aA (λa w W=>B.stands hk ac M.o N.o m a la w W);have bg:=aA (λhw w W=>B.base hk ac M.o N.o m hw w W);have aq:=aA (λt=>by have an:=H;rw[f.o]at an;have:=De t an;rw[<-f.o,Y]at this;exact this)
  have di:Hi (iF (λfx=>aD c false (150+11*k+fx))=C):=by have an:=H;rw[f.o]at an;exact sZ c an
  have ah:=(show Hi _ from H);have cs:=(show Hi _ from Y);have cn:=(show Hi _ from Q);have gh:=ce.trans B.fr (by simp;have:=P.o;omega);clear B D L H Y Q
  go_wp2_with fail
  refine cm dg.o ?_;rintro d bf ⟨a,k',Zt,rfl,cc,eg,ek,_,dx⟩;have ei:=cc.le;have eh:=cc.all;have df:=(show Hi _ from ek);have bk:=(show Hi _ from eg);clear cc ek eg cb
  go_wp2_with fail
  have bw:Fr [h] wr (bf.alloc (.cells a.arr 85)):=dx.alloc _;refine cm (dd.o a _ bw) ?_;rintro d q ⟨ok,rfl,ed,av⟩;have bj:=(show Hi _ from ed);have aw:=bw.qT av;have bb:=av.qH (((r0 [] bf).alloc (.cells a.arr 85)).qH eh);have z:=av.qH (aC bf (.cells a.arr 85));have cb:ca q h 2 (.bool Zt):=aB bb;obtain⟨o,el⟩:=nm bf.heap.size;rw[<-el]at z |-;obtain⟨u0,u1,u2,u3,u4,u5,u6,u7,u8,u9,u10⟩:q.cell? ⟨o,0,none⟩=some (ii a.id)/\q.cell? ⟨o,1,none⟩=some (ii a.owner)/\q.cell? ⟨o,2,none⟩=some (ii a.kind)/\q.cell? ⟨o,3,none⟩=some (ii a.x)/\q.cell? ⟨o,4,none⟩=some (ii a.y)/\q.cell? ⟨o,5,none⟩=some (ii a.life)/\q.cell? ⟨o,6,none⟩=some (ii a.load)/\q.cell? ⟨o,7,none⟩=some (ii a.what)/\q.cell? ⟨o,8,none⟩=some (ii a.tox)/\q.cell? ⟨o,9,none⟩=some (ii a.toy)/\q.cell? ⟨o,10,none⟩=some (ii a.target):=⟨aB z,aB z,aB z,aB z,aB z,aB z,aB z,aB z,aB z,aB z,aB z⟩;have R:=gh.trans aw (by simp;have:=P.o;omega);clear ed av dx bw eh el;cases Zt;rotate_left
  ·have x:Hi (¬PL c):=by
    obtain⟨d,_⟩|⟨_,l⟩:=bk.o
    ·cases d
    exact l
   go_wp2;go_ret2;exact⟨.inr ⟨x.o,rfl⟩,R⟩
  have ha:=(df.o rfl).trans di.o;subst ha;cases ok
  ·have x:Hi (¬PL c):=λt=>by have:=bj.o.2 (aq.o t).1;cases this
   go_wp2;go_ret2;exact⟨.inr ⟨x.o,rfl⟩,R⟩
  have da:Hi (aM c false (150+11*k+11)=(c.drop k',false)):=by
   obtain⟨_,l⟩|⟨d,_⟩:=bk.o
   ·exact l
   cases d
  have ar:=aA (bj.o.1 rfl);have de:Hi (b.us.take (k+1)=b.us.take k++[a]):=by
   show _=_
   obtain⟨gp,h2⟩:=gs.1 ah.o;rw[Qj7 gp,h2]
  clear dg dd di df bk bj
  by_cases af:(a.kind==1)=true
  ·have bh:Hi ((b.us.take (k+1)).countP (λa=>a.kind==1)=bc+1):=by
    show _=_
    rw[de.o,countP_append,cn.o];simp[af]
   have fd:Hi (a.kind=1):=by show _=_;simpa using af
   go_wp2_with fail
   refine cm (bg.o a.owner _ aw) ?_;rintro d s ⟨rfl,aj⟩;have gk:=aw.qT aj;have gx:=aj.qH bb;have E:=aj.qH z;have gi:=R.qT aj;clear u0 u1 u2 u3 u4 u5 u6 u7 u8 u9 u10;obtain⟨u0,u1,u2,u3,u4,u5,u6,u7,u8,u9,u10⟩:s.cell? ⟨o,0,none⟩=some (ii a.id)/\s.cell? ⟨o,1,none⟩=some (ii a.owner)/\s.cell? ⟨o,2,none⟩=some (ii a.kind)/\s.cell? ⟨o,3,none⟩=some (ii a.x)/\s.cell? ⟨o,4,none⟩=some (ii a.y)/\s.cell? ⟨o,5,none⟩=some (ii a.life)/\s.cell? ⟨o,6,none⟩=some (ii a.load)/\s.cell? ⟨o,7,none⟩=some (ii a.what)/\s.cell? ⟨o,8,none⟩=some (ii a.tox)/\s.cell? ⟨o,9,none⟩=some (ii a.toy)/\s.cell? ⟨o,10,none⟩=some (ii a.target):=⟨aB E,aB E,aB E,aB E,aB E,aB E,aB E,aB E,aB E,aB E,aB E⟩;obtain⟨bo,bs⟩:=nn (dK (b.us.take k) a.owner);rw[bs];have co:=(show Hi _ from bs);clear bs bb z aj bg cb;obtain _|n:=bo
   ·have ax:fJ none = -1:=rfl;rw[ax];have bm:Hi (eE (b.qU k) a (gD b.us k)/\(a.kind=1->dK (b.us.take k) a.owner=none)):=⟨by rw[cs.o];exact ar.o,λ_=>co.o⟩;clear ax aq ar;have bl:=(show Hi _ from(⟨gx,ei⟩:SC s h c k' false));have A:=aA gk;have ai:=y.o.cell A.o (by simp;exact λd=>m d.symm) (j:=148) qo;have bt:ca s i 148 I:=ai;have fy:=aI bt;have hs:s.frozen? ⟨i,148,none⟩=false:=aV (A.o.heap y.o.g (by simp;exact λd=>m d.symm));have bi:Hi ((s.drew.alloc (.cells a.arr 85)).ownsRow v.heap.size 85 11 I k ((b.us.take k).flatMap U.cells)):=aF y.o.own ((A.o.drew).alloc _) (λbn hb d=>(y.o.off M.o N.o).2 (by simp at d;subst d;simp[hb]));clear ai;go_wp2
    go_region_law (first
     |(refine pJ rfl (.tmp 114) (.tmp 116) 82 rfl v.heap.size 85 ew zeroU.val 11 88 Qq8 dz et eu ev rfl qd I k ((b.us.take k).flatMap U.cells) (by simp[Act.eval]) bi.o ⟨s.heap.size,0,none⟩ 1 1 a.cells (by simp[Act.eval]) rfl (JG a s.drew) qc qm qo (by have:=(A.o.size);have:=y.o.fr.size;simp;omega) ?_;intro v' w4 am ak bq;obtain⟨g',fo,rfl⟩:=bK am qo;obtain⟨gg,hr⟩:=y.o.grown ((A.o.drew).alloc _) ak M.o N.o m))
    all_goals
     go_wp2;go_roundw
     ·have hX:Fr [h] wr (s.drew.alloc (.cells a.arr 85)):=(A.o.drew).alloc _;have cd:SC (s.drew.alloc (.cells a.arr 85)) h c k' false:=SC.fr bl.o (((r0 [] s).drew).alloc _) qs;refine⟨k+1,_,aa,?_,?_,by go_num,RLP.push y.o hX cd da.o ak am ah.o bm.o M.o N.o m⟩
      ·rw[nI aa,(gs.1 ah.o).2]
      rw[bh.o];go_num
     simp[intOf];omega
   have ax:fJ (some n)=(n:Int):=rfl;rw[ax];have ia:0<=(n:Int):=qo;have x:Hi (¬PL c):=λt=>by have:=(aq.o t).2 fd.o;rw[co.o]at this;cases this
   go_wp2;go_ret2;exact⟨.inr ⟨x.o,rfl⟩,gi⟩
  simp only[Bool.not_eq_true]at af;have bh:Hi ((b.us.take (k+1)).countP (λa=>a.kind==1)=bc):=by
   show _=_
   rw[de.o,countP_append,cn.o];simp[af]
  have bm:Hi (eE (b.qU k) a (gD b.us k)/\(a.kind=1->dK (b.us.take k) a.owner=none)):=⟨by rw[cs.o];exact ar.o,λd=>by rw[d]at af;cases af⟩;clear aq ar bg;have bl:=(show Hi _ from(⟨bb,ei⟩:SC q h c k' false));have A:=aA aw;have ai:=y.o.cell A.o (by simp;exact λd=>m d.symm) (j:=148) qo;have bt:ca q i 148 I:=ai;have fy:=aI bt;have hs:q.frozen? ⟨i,148,none⟩=false:=aV (A.o.heap y.o.g (by simp;exact λd=>m d.symm));have bi:Hi ((q.drew.alloc (.cells a.arr 85)).ownsRow v.heap.size 85 11 I k ((b.us.take k).flatMap U.cells)):=aF y.o.own ((A.o.drew).alloc _) (λbn hb d=>(y.o.off M.o N.o).2 (by simp at d;subst d;simp[hb]));clear ai;go_wp2
  go_region_law (first
   |(refine pJ rfl (.tmp 114) (.tmp 116) 82 rfl v.heap.size 85 ew zeroU.val 11 88 Qq8 dz et eu ev rfl qd I k ((b.us.take k).flatMap U.cells) (by simp[Act.eval]) bi.o ⟨q.heap.size,0,none⟩ 1 1 a.cells (by simp[Act.eval]) rfl (JG a q.drew) qc qm qo (by have:=(A.o.size);have:=y.o.fr.size;simp;omega) ?_;intro v' w4 am ak bq;obtain⟨g',fo,rfl⟩:=bK am qo;obtain⟨gg,hr⟩:=y.o.grown ((A.o.drew).alloc _) ak M.o N.o m))
  all_goals
   go_wp2;go_roundw
   ·have hX:Fr [h] wr (q.drew.alloc (.cells a.arr 85)):=(A.o.drew).alloc _;have cd:SC (q.drew.alloc (.cells a.arr 85)) h c k' false:=SC.fr bl.o (((r0 [] q).drew).alloc _) qs;refine⟨k+1,_,aa,?_,?_,by go_num,RLP.push y.o hX cd da.o ak am ah.o bm.o M.o N.o m⟩
    ·rw[nI aa,(gs.1 ah.o).2]
    rw[bh.o]
   simp[intOf];omega
 have ec:¬(k:Int)<(b.us.length:Int):=qo;have X:k=b.us.length:=qo;have fp:ca wr h 1 (ii S):=aB D.all;have R:=ce.trans B.fr (by simp;have:=P.o;omega);have cy:Hi (PL c->¬S<c.length):=λt=>by
  have h1:=t.ne;rw[<-f.o,<-X,L]at h1;have h2:(c.drop S).length=0:=by rw[(Prod.mk.inj h1).1];rfl
  rw[Qz2]at h2;omega
 have cw:Hi (PL c->0<bc):=λt=>by have:=Da t;rw[<-f.o]at this;rw[X,Zq1]at Q;omega
 have gy:(⟨c.toArray⟩:ByteArray).size=c.length:=by simp[ByteArray.size]
 by_cases bq:(S:Int)<(c.length:Int)
 ·have x:Hi (¬PL c):=λt=>cy.o t qo;clear B D L Y Q X;go_wp2;go_ret2;exact⟨.inr ⟨x.o,rfl⟩,R⟩
 by_cases du:bc=0
 ·have x:Hi (¬PL c):=λt=>by have:=cw.o t;omega
  subst du;clear B D L Y Q X;go_wp2;go_ret2;exact⟨.inr ⟨x.o,rfl⟩,R⟩
 have gd:((bc:Int)==0)=false:=qt;have ap:Hi (0<b.us.countP (λa=>a.kind==1)):=by
  show 0<_
  rw[X,Zq1]at Q;omega
 have go:=Z1 ap.o Zk1;obtain⟨pb,bp,gu,gt,ay⟩:=B.rg hk ac qo M.o N.o m;rw[Kl qo]at ay;have db:=(show Hi _ from ay);obtain⟨⟨ef,ea⟩,eb,dy⟩:=WI (t:=b) (by rw[f.o];exact tA c (by rw[<-f.o];exact ac)) fa.o (λj C H=>B.st j C (by have:=(gs.1 H).1;omega) H) ap.o;have Zq:=aA (zM (BG ap.o (λa F=>by obtain⟨n,hi⟩:=Zx5 F;have a3:=(B.st n a (by have:=(gs.1 hi).1;omega) hi).1.2.2.1;have a0:=((tA c (by rw[<-f.o];exact ac)).us a (by rw[<-f.o];exact F)).1;omega)))
 have dc:=(show Hi _ from ef);have cq:=(show Hi _ from ea);have cr:=(show Hi _ from eb);have cp:=(show Hi _ from dy);have ct:Hi (aM c false (150+11*b.us.length)=([],false)):=by
  show _=_
  rw[<-X,L,Z6 qo]
 have dt:=λw (W:Fr [] wr w)=>pF i pb bp b.us w (ay w W.qO).gv;have dj:=(show Hi _ from dt);have fh:Hi (u.heap.size<=pb):=by have:=P.o;show _<=_;omega
 clear B D L Y Q ef ea eb dy ay dt y
 go_wp2_with fail
 refine cm (dj.o _ (r0 _ _)) ?_;rintro d ck ⟨rfl,bv⟩;obtain⟨ey,Zs⟩:=nn (fL b.us);rw[Zs]at Zq |-;have fk:=(show Hi _ from Zs);have bu:=R.qT bv;clear Zs
 by_cases ch:wn=ey
 rotate_left
 ·have ib:(wn !=ey)=true:=by simpa using ch
  have x:Hi (¬PL c):=λt=>by have h1:=t.win;rw[<-f.o,<-Zq.o,<-dk.o]at h1;exact ch h1
  go_wp2;go_ret2;exact⟨.inr ⟨x.o,rfl⟩,bu⟩
 subst ch;have cx:Hi ((∀a∈b.us,dZ b a)->PL c):=λl=>by
  have hg:=cp.o l;have h3:aD c false 149<=100:=by rw[xQ,<-f.o];exact ac
  refine⟨h3,?_,?_,?_,?_⟩
  ·rw[<-dk.o,Zq.o,f.o]
  ·rw[<-f.o];exact ct.o
  ·rw[<-f.o];exact hg.1
  rw[<-f.o];exact hg.2
 have ag:=db.o ck bv.qO;have fj:=(show Hi _ from ag);have cu:Hi (∀a∈b.us,∀w,Fr [] ck w->Cs 141 #[pt i,a.val] w λd hx=>BP (dZ b a) w d hx):=λa F w W=>by rw[<-propext (Ca dc.o cq.o)];exact Fy i pb bp b a w (ag.qF W) (cr.o a F)
 have cz:Hi (PL c->∀a∈b.us,dZ b a):=λt=>by rw[f.o];exact Dd t
 obtain⟨OR,dr⟩:∃fl:U->Prop,fl=dZ b:=⟨_,rfl⟩;rw[<-dr]at cu cx cz;clear dr;have fi:=aA ag.row.ppl;have gf:=ag.qA;have ga:=ag.lt;clear ag db dj cp
 go_wp2_with fail
 clear X gu du gd bq fp cb gy ec ge cy cw ap Zq fk ct cq dc cr go hk aa gt bv R
 go_loopw [15] (fun n wr=>∃k:Nat,k<=b.us.length/\n=ii k/\Hi (∀j C,j<k->b.us[j]?=some C->OR C)/\Fr [] ck wr) (fun n _=>b.us.length-(intOf n).toNat)
 ·exact⟨0,by omega,rfl,(show Hi _ from λj _ J=>by omega),r0 _ _⟩
 obtain⟨V,hq,rfl,HI,ae⟩:=hrel;have hz:=(ae.cell _ _ ga qs).trans gf
 by_cases ee:V<b.us.length
 ·have gw:(V:Int)<(b.us.length:Int):=qo;obtain⟨a,F⟩:∃a,b.us[V]?=some a:=⟨b.us[V],Y2 ee⟩;obtain⟨c0,c1,c2,c3,c4,c5,c6,c7,c8,c9,fn⟩:=(Ppl.fr fi.o ae qs).at F;have fg:=(show Hi _ from cu.o a (Q8 F));have dh:=(show Hi _ from F);clear F
  go_wp2_with fail
  clear c0 c1 c2 c3 c4 c5 c6 c7 c8 c9 fn;refine cm (fg.o _ ae) ?_;rintro d ig ⟨bn,rfl,dv,gj⟩;have ao:=(show Hi _ from dv);clear dv;have eo:=ae.qT gj;cases bn
  ·have x:Hi (¬PL c):=λt=>by have:=ao.o.2 (cz.o t a (Q8 dh.o));cases this
   clear ao;go_wp2;go_ret2;exact⟨.inr ⟨x.o,rfl⟩,bu.qT eo⟩
  have ff:=aA (ao.o.1 rfl);clear ao;go_wp2;go_roundw
  ·exact⟨V+1,ee,by go_num,(show Hi _ from fun j C J H=>by
   by_cases gn:j<V
   ·exact HI.o j C gn H
   have:j=V:=qo;subst this;rw[dh.o]at H;cases H;exact ff.o),eo⟩
  simp[intOf];omega
 have gw:¬(V:Int)<(b.us.length:Int):=qo;have ez:Hi (∀a∈b.us,OR a):=λa F=>by obtain⟨j,J⟩:=Zx5 F;exact HI.o j a (by have:=(gs.1 J).1;omega) J
 clear HI;go_wp2;go_ret2;exact⟨.inl ⟨cx.o ez.o,i,pb,bp,rfl,by rw[<-f.o];exact fj.o.qF ae,by have:=P.o;omega,fh.o⟩,bu.qT ae⟩
theorem Ga(a:List UInt8)(b:World)(i:a.length<=2000000):Cs 104 #[.string ⟨a.toArray⟩] b λd g=>((PL a/\∃c f h,d=.returned (.tuple #[pt c,ii 0])/\RG g c f h (bS a)/\b.heap.size<=c/\b.heap.size<=f)\/(¬PL a/\d=.returned (.tuple #[.pointer none,ii 2])))/\Fr [] b g:=
 (Gb a _ b i rfl).mono λ_ _ e=>⟨e.h,e.fr⟩
