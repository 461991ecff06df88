import Derived.Test.YtapabahhfanmmaaGreatDoorCBookU
namespace Go.Proofs.YtapabahhfanmmaaGreatDoor
open Go.RowKit List Go.Proofs.Tryz
set_option maxHeartbeats 8000000
set_option maxRecDepth 100000
variable {n p:Int} {X:List U} {a b c:Nat} {t:T} {C:U} {v:Value} {w:World}
theorem AG(a:C.what=4):eS t C=cY (eF t C).2 (eF t C).1:=by grind[eS,dJ]
theorem PRow.owns(c:PRow w a b X):w.ownsRow 0 85 11 (.slice (so a) X.length b) X.length (X.flatMap U.cells):=by obtain⟨d,e,f,g⟩:=c.h;exact⟨pV X,.inr ⟨a,b,d,rfl,Z3 _,e,c.le,c.cap,f,g⟩⟩
theorem RG.relist'(h:∀d,d<149->w.cell? ⟨a,d,none⟩=some (cW t v d))(j:∀d,w.frozen? ⟨a,d,none⟩=false)(g:PRow w b c X)(f:a≠b)(e:X.length<=1000):RG (w.setCell ⟨a,148,none⟩ (.slice (so b) X.length c)) a b c {t with us:=X}:=by refine⟨λd i=>?_,λd=>by simp_all,g.fr (S:=[a]) ((r0 _ _).setCell _ _ (.inl qs)) qg,e,f⟩;grind[eA,cE,cW]
theorem PG{i:Program}(a:World){k:Oper}{j:Act}{K:Act->World->Prop}{v:Exit->Act->World->Prop}(t u:Operand)(l:TypeId)(z:k.op=.call {callee:=.builtin .append,args:=#[t,u],argTypes:=#[l,l]})(base:Nat)(c:TypeId)(d:TypeInfo)(q:Value)(size bytes:Nat)(D:i.underlying l=some (.slice c))(x:i.info? c=some d)(F:d.zero=some q)(hsize:d.size=size)(hby:d.bytes=bytes)(hzs:q.cells.size=size)(C:0<size)(g:Value)(e:Nat)(p:List Value)(B:j.eval t=g)(hown:a.ownsRow base c size g e p)(o:Addr)(b r:Nat)(f:List Value)(E:j.eval u=.slice (some o) b r)(y:f.length=b*size)(hnews:∀s m,f[s]?=some m->a.cell? (o.add s)=some m)(w:∀m∈f,m.oneCell'=true)(h63:e+b<=maxLen)(hbytes:(e+b)*bytes<=140737488355328)(hbase:base<=a.heap.size)(H:∀h n,n.ownsRow base c size h (e+b) (p++f)->a.grownBy n g.ownBlock->(h.ownBlock=g.ownBlock\/h.ownBlock=some a.heap.size)->K (j.put k.dst h) n):k.wp i j a K v:=by obtain⟨h,n,A,I,J,L,M⟩:=run_append_own_at (P:=i) a base l k.type c d q size bytes D x F hsize hby hzs C g e p hown o b r f y hnews w h63 hbytes hbase;unfold Oper.wp execOp;simp only[z,resolve,invoke,builtin,Sem.run_bind,Sem.run_pure,Result.andThen_ok,map_toArray,map_cons,map_nil,B,E,A];simp only[Oper.upon];grind
theorem LD(l:TOk t)(i:t.us[a]?=some C)(b:T)(h:b.us=t.us)(e d f g c:Int):cY (b.added e d f g c) C.idle={b.added e d f g c with us:=t.us.set a C.idle++[bD b.next e d f g c]}:=by
 have j:=xW l.rise i rfl;have k:=(gs.1 i).1;have m:bI (b.added e d f g c).us C.idle.id=some a:=by
  show bI (b.us++[bD b.next e d f g c]) C.id=some a
  rw[h];unfold bI at j |-;rw[findIdx?_append,j];rfl
 unfold cY;rw[m];dsimp only
 show{b.added e d f g c with us:=(b.us++[bD b.next e d f g c]).set a C.idle}=_
 rw[h,set_append_left _ _ k]
theorem ED(e:TOk t):(aL n p).find? (λa=>cR (bN t.held) t.bd a.1 a.2)=(aL n p).find? (λa=>cH t.us t.bd a):=by
 have c:∀(b:List Cl),(∀a∈b,aE a.1 a.2=true)->b.find? (λa=>cR (bN t.held) t.bd a.1 a.2)=b.find? (λa=>cH t.us t.bd a):=by
  intro b
  induction b with
  |nil=>grind
  |cons d b f=>grind[EV]
 exact c _ (nL n p)
theorem EC{d:Nat->Int}{c:Int×Int}(j:sds[a]?=some c)(h:∀b∈bC n p a,cH X d b=false)(g:cH X d (n+c.1,p+c.2)=true):(aL n p).find? (λb=>cH X d b)=some (n+c.1,p+c.2):=by
 have o:=EW _ g;obtain⟨m,l⟩:=gs.1 j;have i:sds=sds.take a++c::sds.drop (a+1):=by grind[getElem_cons_drop,take_append_drop]
 unfold aL;rw[i,Qx9,filter_append,find?_append];have k:(((sds.take a).map λe=>(n+e.1,p+e.2)).filter λb=>aE b.1 b.2).find? (λb=>cH X d b)=none:=by rw[find?_eq_none];intro b f;simp[h b f]
 grind[find?_cons_of_pos]
theorem refBuild_01(e j n:Nat)(a:T)(x:Nat)(b:U)(g:World)(u:RG g e j n a)(hi:a.us[x]?=some b)(ax:TOk a)(hw:b.what=4)(bo:Int)(J:bo=0\/bo=1)(ac:b.owner=bo):Cs 183 #[pt e,ii x] g λr c=>r=.returned (.tuple #[])/\RStep g e j (eS a b) c:=by
 rw[AG hw];obtain⟨ag,hR⟩:∃ag:T,ag=cY (eF a b).2 (eF a b).1:=⟨_,rfl⟩;rw[<-hR];have HR:=aA hR;have hu:=ax.all b (mem_of_getElem? hi);have co:b.tox=2\/b.tox=3:=by have:=hu.od;unfold kH at this;omega
 obtain⟨t,au⟩:=nn (gB b.tox);have HC:Hi (∀E:World,Cs 215 #[ii b.tox] E (R1 E (ii t))):=λE=>by rw[<-au];exact MG b.tox co E
 have am:=aA au;have ej:0<=t/\t<=8:=by rw[<-au];obtain r|r:=co<;>rw[r]<;>decide
 obtain⟨f,O⟩:=nn (a.qK b.owner);obtain rfl|rfl:=J
 all_goals
  first
   |(have az:a.s0=f:=by rw[ac]at O;simpa[T.qK]using O)
   |(have az:a.s1=f:=by rw[ac]at O;simpa[T.qK]using O)
  have dt:=tV ax b.owner;rw[O]at dt;have en:=u.len;have el:=(gs.1 hi).1;have em:(x:Int)<(a.us.length:Int):=qo;obtain⟨p0,p1,p2,p3⟩:=bX.1 hu.on;have s:=u.qA;obtain⟨c0,c1,c2,c3,c4,c5,c6,c7,c8,c9,aq⟩:=u.gv.p.at hi;obtain⟨y,ce,av,ba⟩:=al g (.cells b.arr 85);have dg:=aA ce;have ed:=(show Hi _ from u.qF av)
  first
   |(have w:(λc:World=>c.cell? ⟨g.heap.size,1,none⟩=some (ii 0)/\c.cell? ⟨e,145,none⟩=some (ii f)/\c.cell? ⟨e,148,none⟩=some (.slice (so j) a.us.length n)/\c.cell? ⟨e,147,none⟩=some (ii a.next)) y.drew:=by have A:=u.qF (av.qT ((r0 [] y).drew));have z:=A.c145;rw[az]at z;have B:ca y.drew g.heap.size 1 (ii b.owner):=aB (((r0 [] y).drew).qH ba);rw[ac]at B;exact⟨B,z,A.qA,A.c147⟩)
   |(have w:(λc:World=>c.cell? ⟨g.heap.size,1,none⟩=some (ii 1)/\c.cell? ⟨e,146,none⟩=some (ii f)/\c.cell? ⟨e,148,none⟩=some (.slice (so j) a.us.length n)/\c.cell? ⟨e,147,none⟩=some (ii a.next)) y.drew:=by have A:=u.qF (av.qT ((r0 [] y).drew));have z:=A.c146;rw[az]at z;have B:ca y.drew g.heap.size 1 (ii b.owner):=aB (((r0 [] y).drew).qH ba);rw[ac]at B;exact⟨B,z,A.qA,A.c147⟩)
  have ec:ca y g.heap.size 8 (ii b.tox):=aB ba;have ao:=aA ax;have HI:=aA hi;have HH:=aA u;have R:=aA O;have o:=aA ac;clear ax hi u ce hR hw O au ac az
  delta Cs;go_in
  go_wp2_with fail
  rw[<-dg.o];obtain⟨M,H⟩:∃M:Bool,(decide (f<t)||(decide (100<=(a.us.length:Int))||decide (1000000000<=a.next)))=M:=⟨_,rfl⟩;have HB:=aA H
  go_cut [43] (fun eb wx=>eb=.bool M/\Fr [] y wx)
  ·by_cases F:f<t
   ·have af:Hi (M=true):=by show _=_;rw[<-H];simp[F]
    clear H c0 c1 c2 c3 c4 c5 c6 c7 c8 c9 aq s
    first
     |(refine wp_region_held_drew (S:=λc:World=>cl c g.heap.size 1 0/\cl c e 145 f/\ca c e 148 (.slice (so j) a.us.length n)/\cl c e 147 a.next) qk w (λd=>?_))
     |(refine wp_region_held_drew (S:=λc:World=>cl c g.heap.size 1 1/\cl c e 146 f/\ca c e 148 (.slice (so j) a.us.length n)/\cl c e 147 a.next) qk w (λd=>?_))
    refine(show wpAnyH prog Region.Mode.any _ _ _ 25 (Array.replicate 25 false) _ _ from ?_)
    iterate 8 refine tn 25 d ?_
    refine rd 8 fun K hK=>?_;go_simp;refine cm (HC.o _) ?_;rintro r w2 ⟨rfl,rfl⟩;refine hK.out _ _ w (fun d=>?_);clear hK K;try simp only[Act.put,Z]
    iterate 16 refine tn 25 d ?_
    refine wpAnyH_done qk ?_ _
    go_wp2_with fail
    go_meet
    exact⟨by rw[af.o],(r0 _ _).drew⟩
   have dh:=decide_eq_false F
   by_cases X:100<=(a.us.length:Int)
   ·have af:Hi (M=true):=by show _=_;rw[<-H];simp[X]
    clear H c0 c1 c2 c3 c4 c5 c6 c7 c8 c9 aq s F
    first
      |(refine wp_region_held_drew (S:=λc:World=>cl c g.heap.size 1 0/\cl c e 145 f/\ca c e 148 (.slice (so j) a.us.length n)/\cl c e 147 a.next) qk w (λd=>?_))
      |(refine wp_region_held_drew (S:=λc:World=>cl c g.heap.size 1 1/\cl c e 146 f/\ca c e 148 (.slice (so j) a.us.length n)/\cl c e 147 a.next) qk w (λd=>?_))
    refine(show wpAnyH prog Region.Mode.any _ _ _ 25 (Array.replicate 25 false) _ _ from ?_)
    iterate 8 refine tn 25 d ?_
    refine rd 8 fun K hK=>?_;go_simp;refine cm (HC.o _) ?_;rintro r w2 ⟨rfl,rfl⟩;refine hK.out _ _ w (fun d=>?_);clear hK K;try simp only[Act.put,Z]
    iterate 16 refine tn 25 d ?_
    refine wpAnyH_done qk ?_ _
    go_wp2_with fail
    go_meet
    exact⟨by rw[af.o],(r0 _ _).drew⟩
   have di:=decide_eq_false X;have af:Hi (M=decide (1000000000<=a.next)):=by show _=_;rw[<-H,dh,di];rfl
   clear H c0 c1 c2 c3 c4 c5 c6 c7 c8 c9 aq s F X
   first
     |(refine wp_region_held_drew (S:=λc:World=>cl c g.heap.size 1 0/\cl c e 145 f/\ca c e 148 (.slice (so j) a.us.length n)/\cl c e 147 a.next) qk w (λd=>?_))
     |(refine wp_region_held_drew (S:=λc:World=>cl c g.heap.size 1 1/\cl c e 146 f/\ca c e 148 (.slice (so j) a.us.length n)/\cl c e 147 a.next) qk w (λd=>?_))
   refine(show wpAnyH prog Region.Mode.any _ _ _ 25 (Array.replicate 25 false) _ _ from ?_)
   iterate 8 refine tn 25 d ?_
   refine rd 8 fun K hK=>?_;go_simp;refine cm (HC.o _) ?_;rintro r w2 ⟨rfl,rfl⟩;refine hK.out _ _ w (fun d=>?_);clear hK K;try simp only[Act.put,Z]
   iterate 16 refine tn 25 d ?_
   refine wpAnyH_done qk ?_ _
   go_wp2_with fail
   go_meet
   exact⟨by rw[af.o],(r0 _ _).drew⟩
  obtain⟨rfl,cj⟩:=hcut;have bb:=av.qT cj;have bs:=(show Hi _ from HH.o.qF bb);have bw:Hi (eF a b=(b,a)->ag=a):=λr=>by rw[HR.o,r];exact lW ao.o.rise HI.o
  clear H c0 c1 c2 c3 c4 c5 c6 c7 c8 c9 aq s w ec;cases M
  ·have ar:=HB.o;have HX:Hi (eF a b=match(aL b.x b.y).find? (λk=>cH a.us a.bd k) with|none=>(b,a)|some k=>(b.idle,T.added {a.qS b.owner (a.qK b.owner-gB b.tox)with held:=λl=>if l=k then some a.next else a.held l} b.owner b.tox k.1 k.2 (dE b.tox))):=by
    simp at ar
    show _=_
    unfold eF;rw[R.o,am.o,if_neg qo,if_neg qo,if_neg qo,ED ao.o];cases(aL b.x b.y).find? (λk=>cH a.us a.bd k)<;>rfl
   clear ar;have cy:=cj.qH ba;go_wp2
   go_loopw [6] (fun l wr=>∃m:Nat,m<=4/\l=ii m/\(∀k∈bC b.x b.y m,cH a.us a.bd k=false)/\Fr [] wc wr) (fun l _=>4-(intOf l).toNat)
   ·exact⟨0,by omega,rfl,λk s=>by simp[bC]at s,r0 _ _⟩
   obtain⟨m,hn,rfl,cs,aj⟩:=hrel;have an:=aA cs;clear cs
   by_cases cp:m<4
   · have dq:(m:Int)<4:=qo
     obtain⟨D,P⟩:∃f,sds[m]?=some f:=⟨_,getElem?_eq_getElem (show m<sds.length from cp)⟩;have ds:-1<=D.1/\D.1<=1 /\ -1<=D.2/\D.2<=1:=by have h5:m=0\/m=1\/m=2\/m=3:=qo;obtain rfl|rfl|rfl|rfl:=h5<;>(simp[sds]at P;subst P;decide)
     have bv:=(show Hi _ from λE:World=>tN b.x b.y m D E P qo qo qo qo);have bx:=aA (λJ=>mP b.x b.y m D P J);have bu:=aA (λJ=>mO b.x b.y m D P J);have be:=aA (λC=>EC P an.o C);obtain⟨ae,hz⟩:=nn (b.x+D.1);obtain⟨ad,hv⟩:=nn (b.y+D.2);rw[hz,hv]at bv bx bu be;have cx:=aj.qH cy;have ux:ca wr g.heap.size 3 (ii b.x):=aB cx;have uy:ca wr g.heap.size 4 (ii b.y):=aB cx;clear hz hv P ds
     go_wp2_with fail
     refine cm (bv.o _) ?_;rintro r w3 ⟨rfl,rfl⟩;have bg:=tL e j n a ae ad wr (bs.o.qF aj);obtain⟨dj,C⟩:=nn (cH a.us a.bd (ae,ad));rw[C]at bg be;have da:=aA C;clear C
     go_wp2_with fail
     refine cm bg ?_;rintro r v ⟨rfl,cg⟩;clear bg ux uy;cases dj
     ·have dd:Hi (∀k∈bC b.x b.y (m+1),cH a.us a.bd k=false):=λk s=>by
       by_cases J:aE ae ad=true
       ·rw[bx.o J]at s;obtain s|s:=mem_append.1 s
        · exact an.o k s
        have:k=(ae,ad):=by simpa using s
        rw[this];exact da.o
       rw[bu.o (qu J)]at s;exact an.o k s
      go_wp2;go_roundw
      ·exact⟨m+1,cp,by go_num,dd.o,aj.qT cg⟩
      simp[intOf];omega
     have ck:=be.o rfl;have db:=aA ck;have bj:=aj.qT cg;have bm:=bj.qH cy;have ab:=bs.o.qF bj
     first
      |(have uo:v.cell? ⟨g.heap.size,1,none⟩=some (ii 0):=by have:v.cell? ⟨g.heap.size,1,none⟩=some (ii b.owner):=aB bm;rwa[o.o]at this
        have Zr:v.cell? ⟨e,145,none⟩=some (ii f):=by have:=ab.c145;rwa[show a.s0=f by have:=R.o;rw[o.o]at this;simpa[T.qK]using this]at this
        have cb:=ab.fz 145;have d:(λc:World=>c.cell? ⟨g.heap.size,1,none⟩=some (ii 0)/\c.cell? ⟨e,145,none⟩=some (ii f)) v.drew:=⟨by simpa using uo,by simpa using Zr⟩)
      |(have uo:v.cell? ⟨g.heap.size,1,none⟩=some (ii 1):=by have:v.cell? ⟨g.heap.size,1,none⟩=some (ii b.owner):=aB bm;rwa[o.o]at this
        have Zr:v.cell? ⟨e,146,none⟩=some (ii f):=by have:=ab.c146;rwa[show a.s1=f by have:=R.o;rw[o.o]at this;simpa[T.qK]using this]at this
        have cb:=ab.fz 146;have d:(λc:World=>c.cell? ⟨g.heap.size,1,none⟩=some (ii 1)/\c.cell? ⟨e,146,none⟩=some (ii f)) v.drew:=⟨by simpa using uo,by simpa using Zr⟩)
     have bt:=aA ab;clear ck ab
     go_wp2_with fail
     first
      |(
        refine TwoFree.region (λc:World=>c.cell? ⟨g.heap.size,1,none⟩=some (ii 0)/\c.cell? ⟨e,145,none⟩=some (ii f)) 16 qk ?_;refine(show TwoFree prog Region.Mode.any _ _ _ 16 17 (Array.replicate 17 false) _ _ from ?_);refine TwoFree.takeW (i:=0) (v:=?_) (by simp only[G];rfl) qk qk qk qd (by exact λ_ _ _ u=>u) (.inl ⟨by rfl,?_⟩) (λ_=>d) ?_)
      |(
        refine TwoFree.region (λc:World=>c.cell? ⟨g.heap.size,1,none⟩=some (ii 1)/\c.cell? ⟨e,146,none⟩=some (ii f)) 16 qk ?_;refine(show TwoFree prog Region.Mode.any _ _ _ 16 17 (Array.replicate 17 false) _ _ from ?_);refine TwoFree.takeW (i:=0) (v:=?_) (by simp only[G];rfl) qk qk qk qd (by exact λ_ _ _ u=>u) (.inl ⟨by rfl,?_⟩) (λ_=>d) ?_)
     skip;rotate_left;(focus intro g u;go_simp;first|with_reducible rfl|done);try simp only[Act.put,Z]
     refine tw 1 (fun _=>d) ?_;refine tt 2 d ?_;refine tw 3 (fun _=>d) ?_;refine tw 4 (fun _=>d) ?_;refine tt 5 d ?_;refine tw 6 (fun _=>d) ?_;refine tw 7 (fun _=>d) ?_;refine tw 8 (fun _=>d) ?_;refine tt 9 d ?_;refine tw 10 (fun _=>d) ?_;refine tw 13 (fun _=>d) ?_;refine tw 14 (fun _=>d) ?_;refine t1 11 fun q i=>?_;have h:=aA i;clear i;go_simp;refine cm (HC.o _) ?_;rintro r w5 ⟨rfl,rfl⟩;refine h.o _ _ ⟨fun _ _=>d,?_⟩;clear h q;try simp only[Act.put,Z]
     refine tw 12 (fun _=>d) ?_;refine t1 15 fun q i=>?_;have h:=aA i;clear i;go_simp;refine h.o _ _ ⟨fun _ _=>d,?_⟩;clear h q;try simp only[Act.put,Z]
     refine t1 16 fun q i=>?_;have h:=aA i;clear i;go_simp;refine h.o _ _ ⟨fun h6=>absurd rfl h6,TwoFree.done qk ?_ _⟩;clear h q;rw[show IntKind.i64.wrap (f-t)=f-t by rw[IntKind.wrap_i64];omega]
     first
      |(
        obtain⟨V,I⟩:=nm ((v.setCell ⟨e,145,none⟩ (ii (f-t))).drew);have bi:Fr [e] v V:=by rw[I];exact((r0 _ _).setCell _ _ (.inl qs)).drew
        have bk:RG V e j n {a with s0:=f-t}:=by rw[I];exact(bt.o.setS0 (f-t)).qF ((r0 _ _).drew)
        rw[<-I])
      |(
        obtain⟨V,I⟩:=nm ((v.setCell ⟨e,146,none⟩ (ii (f-t))).drew);have bi:Fr [e] v V:=by rw[I];exact((r0 _ _).setCell _ _ (.inl qs)).drew
        have bk:RG V e j n {a with s1:=f-t}:=by rw[I];exact(bt.o.setS1 (f-t)).qF ((r0 _ _).drew)
        rw[<-I])
     have ek:=HH.o.lt;have ep:=HH.o.pl;have du:=bi.heap bm qt;clear I d uo Zr cb
     go_wp2_with fail
     refine cm (qT e j n _ x b V bk HI.o) ?_;rintro r L ⟨rfl,Y,ch⟩;dsimp only at Y |-;have dv:=ch.heap du qt;have cz:=(((bb.qT bj).qO (S:=[e,j])).trans bi qs).trans ch qs;have ap:∀c,Fr [j] L c->(λc:World=>c.cell? ⟨e,148,none⟩=some (.slice (so j) a.us.length n)/\c.cell? ⟨e,147,none⟩=some (ii a.next)/\c.cell? ⟨g.heap.size,1,none⟩=some (ii b.owner)) c:=λc C=>by have z:=Y.qA;have B:=Y.c147;have h3:ca L g.heap.size 1 (ii b.owner):=aB dv;dsimp only at z B;rw[length_set]at z;have N:=Y.ne;exact⟨(C.cell _ _ (aI z) (qu N)).trans z,(C.cell _ _ (aI B) (qu N)).trans B,(C.cell _ _ (aI h3) qt).trans h3⟩
     have d:=ap L.drew ((r0 _ _).drew);have dc:=aA (λE=>pE b.tox E);have Q:=aA Y;clear bk Y
     go_wp2_with fail
     refine TwoFree.region (fun c:World=>c.cell? ⟨e,148,none⟩=some (.slice (so j) a.us.length n)/\c.cell? ⟨e,147,none⟩=some (ii a.next)/\c.cell? ⟨g.heap.size,1,none⟩=some (ii b.owner)) 21 qk ?_;refine(show TwoFree prog Region.Mode.any _ _ _ 21 22 (Array.replicate 22 false) _ _ from ?_);refine tw 0 (fun _=>d) ?_;refine tw 1 (fun _=>d) ?_;refine tw 2 (fun _=>d) ?_;refine tw 3 (fun _=>d) ?_;refine tt 4 d ?_;refine tw 5 (fun _=>d) ?_;refine tw 6 (fun _=>d) ?_;refine tw 7 (fun _=>d) ?_;refine tt 8 d ?_;refine tw 9 (fun _=>d) ?_;refine tt 10 d ?_;refine tw 11 (fun _=>d) ?_;refine tw 12 (fun _=>d) ?_;refine tw 13 (fun _=>d) ?_;refine tw 14 (fun _=>d) ?_;refine t1 15 fun q i=>?_;have h:=aA i;clear i;go_simp;refine cm (dc.o _) ?_;rintro r w7 ⟨rfl,rfl⟩;refine h.o _ _ ⟨fun _ _=>d,?_⟩;clear h q;try simp only[Act.put,Z]
     refine tw 16 (fun _=>d) ?_;refine t1 17 fun q i=>?_;have h:=aA i;clear i;go_simp;obtain⟨nU,cr⟩:∃bc:U,bc=⟨a.next,b.owner,b.tox,ae,ad,dE b.tox,0,0,0,0,0⟩:=⟨_,rfl⟩;obtain⟨W,Zq⟩:=nm ((L.alloc (.cells #[ii a.next,ii b.owner,ii b.tox,ii ae,ii ad,ii (dE b.tox),ii 0,ii 0,ii 0,ii 0,ii 0] 85)).drew);rw[<-Zq];have ai:Fr [] L W:=by rw[Zq];exact((r0 _ _).alloc _).drew
     have cq:W.heap[L.heap.size]?=some (.cells nU.arr 85):=by rw[Zq,rT,cr];exact aC _ _
     have cc:=ap W ai.qO;clear d;have d:=cc;clear cc Zq;refine h.o _ _ ⟨λ_ _=>d,?_⟩;clear h q;try simp only[Act.put,Z]
     have dn:=Q.o.qF ai;have ay:=dn.row.owns;dsimp only at ay;rw[length_set]at ay;have ct:∀(bn:Nat) (bp:Value),nU.cells[bn]?=some bp->W.cell? ((⟨L.heap.size,0,none⟩:Addr).add bn)=some bp:=by intro bn bp hy;rw[Addr.add_lit,Nat.zero_add,aB cq];simpa using hy
     obtain⟨ea,dp,dx,dy,dz⟩:=info_parts jU;have eh:=ai.size;refine t1 18 λq i=>?_;have h:=aA i;clear i;rw[if_pos (by rfl)];refine PG _ _ _ 82 rfl 0 85 ea zeroU.val 11 88 underlying82 dp dx dy dz rfl qd (.slice (so j) a.us.length n) a.us.length _ rfl ay ⟨L.heap.size,0,none⟩ 1 1 nU.cells rfl rfl ct qc qm qo (Nat.zero_le _) ?_;intro y' w8 bl cn cf;have dl:Fr [j] W w8:=(r0 _ _).grow cn (λeg A=>.inl (by simp[Value.ownBlock]at A;simp[A]));have ah:=(ai.qO (S:=[j])).trans dl qs;have cd:=ap w8 ah;have bz:(a.us.set x b.idle).flatMap U.cells++nU.cells=(a.us.set x b.idle++[nU]).flatMap U.cells:=qs;rw[bz]at bl;obtain⟨ak,Zs,rfl,ei,cw⟩:=PRow.qW bl qs qo;have cu:ak=j\/ak=W.heap.size:=by simpa[Value.ownBlock]using cf
     clear cf;have N:=Q.o.ne;have aw:=Q.o.lt
     first
      |(have bq:Hi (∀l,l<149->w8.cell? ⟨e,l,none⟩=some (cW {a with s0:=f-t,us:=a.us.set x b.idle} (.slice (so j) (a.us.set x b.idle).length n) l)):=λl hk=>(ah.cell _ _ aw (qu N)).trans (Q.o.cell l hk))
      |(have bq:Hi (∀l,l<149->w8.cell? ⟨e,l,none⟩=some (cW {a with s1:=f-t,us:=a.us.set x b.idle} (.slice (so j) (a.us.set x b.idle).length n) l)):=λl hk=>(ah.cell _ _ aw (qu N)).trans (Q.o.cell l hk))
     have br:=aA (λl=>(ah.frozen _ _ aw (qu N)).trans (Q.o.fz l));have ee:=br.o 148;have df:=aA cw;clear d;have d:=cd;clear cd;refine h.o _ _ ⟨λ_ _=>d,?_⟩;clear h q ay ct cn bl cw bz ap cq;try simp only[Act.put,Z]
     refine t1 19 fun q i=>?_;have h:=aA i;clear i;go_simp;refine h.o _ _ ⟨fun _ _=>d,?_⟩;clear h q;try simp only[Act.put,Z]
     refine t1 20 fun q i=>?_;have h:=aA i;clear i;go_simp;refine h.o _ _ ⟨fun _ _=>d,?_⟩;clear h q;try simp only[Act.put,Z]
     refine t1 21 fun q i=>?_;have h:=aA i;clear i;go_simp;refine h.o _ _ ⟨fun h6=>absurd rfl h6,TwoFree.done qk ?_ _⟩;clear h q;have Zt:e≠ak:=by
      obtain r|r:=cu
      ·exact λbc=>N (bc.trans r)
      have:=aw;have:=ai.size;omega
     have aa:=RG.relist' bq.o br.o df.o Zt (by have ar:=HB.o;simp at ar;simp;omega);rw[show(a.us.set x b.idle++[nU]).length=a.us.length+1 by simp]at aa;obtain⟨W9,bh⟩:=nm (w8.setCell ⟨e,148,none⟩ (.slice (so ak) (a.us.length+1) Zs));rw[<-bh]at aa |-;have dm:Fr [e] w8 W9:=by rw[bh];exact(r0 _ _).setCell _ _ (.inl qs)
     have dr:=aa.c147;dsimp only at dr;have ef:=aa.fz 147;have eo:=ao.o.nx;have bf:=aA aa;have dw:=cz.trans ah qs;have eq:=cz.size;clear bh aa d
     go_wp2_with fail
     refine bodyPost_ret (v:=.tuple #[]) (results_none rfl _ _ _) rfl ⟨rfl,ak,Zs,?_,((dw.trans dm qs).setCell _ _ (.inl qs)),cu.imp id (λbc=>by omega)⟩;rw[HR.o,HX.o,db.o];dsimp only;rw[LD ao.o HI.o _ (by rw[o.o];rfl)];rw[cr]at bf
     first
      |(exact(bf.o.setNx (a.next+1)).of (by rw[o.o];rfl) (by rw[o.o];rfl) (by rw[R.o,am.o,o.o];rfl) (by rw[o.o];rfl) (by rw[o.o];rfl) (by rw[o.o];rfl))
      |(exact(bf.o.setNx (a.next+1)).of (by rw[o.o];rfl) (by rw[o.o];rfl) (by rw[o.o];rfl) (by rw[R.o,am.o,o.o];rfl) (by rw[o.o];rfl) (by rw[o.o];rfl))
   have dq:¬(m:Int)<4:=qo;have de:Hi (m=4):=by show _=_;omega
   have HE:Hi (ag=a):=by
    refine bw.o ?_;rw[HX.o];have:(aL b.x b.y).find? (λk=>cH a.us a.bd k)=none:=by rw[find?_eq_none];intro k s;have:=an.o k (by rw[de.o,sS];exact s);simp[this]
    rw[this]
   go_wp2;exact bodyPost_end (v:=.tuple #[]) (results_none rfl _ _ _) rfl ⟨rfl,by rw[HE.o];exact RStep.same HH.o (bb.qT aj)⟩
  have HE:Hi (ag=a):=by
   refine bw.o ?_;have dk:=HB.o;simp at dk;unfold eF;rw[R.o,am.o]
   by_cases F:f<t
   · rw[if_pos F]
   by_cases X:100<=a.us.length
   ·rw[if_neg F,if_pos X]
   rw[if_neg F,if_neg X,if_pos qo]
  go_wp2;exact bodyPost_ret (v:=.tuple #[]) (results_none rfl _ _ _) rfl ⟨rfl,by rw[HE.o];exact RStep.same HH.o bb⟩
theorem uU:pN:=by intro d i c j h b k e f a _ g;exact refBuild_01 d i c j h b k e f a g _ (a.all b qg).ow rfl
