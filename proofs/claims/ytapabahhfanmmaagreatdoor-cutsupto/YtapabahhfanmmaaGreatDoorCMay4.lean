import Derived.Test.YtapabahhfanmmaaGreatDoorCParseP
namespace Go.Proofs.YtapabahhfanmmaaGreatDoor
open Go.RowKit List Go.Proofs.Tryz
set_option maxHeartbeats 8000000
set_option maxRecDepth 100000
theorem BJ(l:Nat)(e:T)(h:World)(I:h.rangeAt l 4 (dH e.bd)):Cs 173 #[pt l] h λQ Y=>BP (∀c,c<144->e.bd c<=10) h Q Y:=by
 have j:=aA (MY e.bd);have i:=aA (Gx e.bd);have x:Hi (∀a,(eK e.bd a).length=12/\(eK e.bd a).toArray.all (·.oneCell')=true):=λa=>⟨MS _ _,MT _ _⟩;obtain⟨A,n⟩:=nm (dH e.bd);have O:Hi ((prog.info? 88).map (·.size)=some A.length):=by
  show _=_
  rw[oK,n,lA]
 obtain⟨X,L⟩:=nm (eK e.bd);rw[<-n]at I j;rw[<-L]at j i x;obtain⟨k,C⟩:=nm e.bd;rw[<-C]at i |-;clear n L C
 delta Cs;go_in
 go_wp2_with (refine wpList_load_mid rfl 88 _ rfl l 4 rfl A _ I Qk0 rfl O.o ?_)
 go_loopw [11] (fun c wr=>∃a:Nat,a<=12/\c=ii a/\Hi (∀d,d<a*12->k d<=10)/\Fr [] h wr) (fun c _=>12-(intOf c).toNat)
 ·exact⟨0,by omega,rfl,(show Hi _ from λd E=>by omega),r0 _ _⟩
 obtain⟨a,ac,rfl,s,p⟩:=hrel
 by_cases F:a<12
 ·have V:(a:Int)<12:=qo;have H:=j.o a F;have g:=i.o a;obtain⟨J,r⟩:=x.o a;obtain⟨f,q⟩:=nn (X a);rw[q]at H J r;simp only[q]at g;have w:=aA r;have HI:Hi ((prog.info? 86).map (·.size)=some f.toArray.size):=by grind[wI]
  have y:Hi (zero12.size=f.toArray.size):=qa;have v:Hi (((wr.alloc (.cells zero12 86)).setRow wr.heap.size f.toArray).heap[wr.heap.size]?=some (.cells f.toArray 86)):=(by grind[setRow_heap,aC]);have N:=aA g;clear J r g q
  go_wp2_with (first|(refine wpList_store_row rfl 86 _ _ rfl wr.heap.size f.toArray rfl rfl 86 zero12 (aC wr _) HI.o y.o w.o ?_)|(refine wpList_load_row rfl 86 _ rfl wr.heap.size rfl 86 f.toArray (0,0) _ v.o underlying86 rfl HI.o ?_))
  obtain⟨z,B⟩:=nm ((wr.alloc (.cells zero12 86)).setRow wr.heap.size f.toArray);have D:Fr [] wr z:=by simp_all[Fr.setRow,Fr.alloc,r0]
  rw[<-B];clear B v HI y w H
  go_loopw [15] (fun c wx=>∃b:Nat,b<=12/\c=ii b/\Hi (∀d,d<a*12+b->k d<=10)/\z=wx) (fun c _=>12-(intOf c).toNat)
  ·exact⟨0,by omega,rfl,s,rfl⟩
  obtain⟨b,ab,rfl,t,rfl⟩:=hrel
  by_cases M:b<12
  ·have W:(b:Int)<12:=qo;have g:=N.o b M;obtain⟨P,m⟩:=nn (k (a*12+b));rw[m]at g;have u:=(show Hi _ from m);clear m
   by_cases aa:10<P
   ·go_wp2;go_ret;exact⟨false,rfl,⟨qa,λR=>(by have:=R (a*12+b) qo;rw[u.o]at this;omega)⟩,p.qT D⟩
   go_wp2;go_roundw
   ·exact⟨b+1,M,by go_num,(show Hi _ from fun d E=>by
    by_cases S:d<a*12+b
    ·exact t.o d S
    have:d=a*12+b:=qo;subst this;rw[u.o];omega),p8⟩
   simp[intOf];omega
  have W:¬(b:Int)<12:=qo;go_wp2;go_roundw
  ·exact⟨a+1,F,by go_num,(show Hi _ from fun d E=>t.o d qo),p.qT D⟩
  simp[intOf];omega
 have V:¬(a:Int)<12:=qo;go_wp2;go_ret;exact⟨true,rfl,⟨λ_ c hi=>s.o c qo,λ_=>rfl⟩,p⟩
def mE(a:List U)(d:Int):Prop:=(∀b c,a[b]?=some c->gD a b<c.id)/\gD a a.length<d
theorem XG(p N C:Nat)(i:T)(m:World)(d:GS m p N C i):Cs 174 #[pt p] m λD O=>BP (mE i.us i.next) m D O:=by
 have E:=d.gv.c;have v:m.cell? ⟨p,1,none⟩=some (ii i.next):=by grind[GS.cell,aK]
 have I:=d.len;have L:=d.ne;have t:=aA d.row.ppl;have x:=d.lt;obtain⟨b,z⟩:=nm i.us;rw[<-z]at E I L t |-;obtain⟨M,y⟩:=nm i.next;rw[<-y]at v |-;clear d z y
 delta Cs;go_in
 go_wp2
 go_loopw [3,11] (fun g r wr=>∃a:Nat,a<=b.length/\r=ii a/\g=ii (gD b a)/\Hi (∀e g,e<a->b[e]?=some g->gD b e<g.id)/\Fr [] m wr) (fun _ r _=>b.length-(intOf r).toNat)
 ·exact⟨0,by omega,rfl,rfl,(show Hi _ from λe _ H=>by omega),r0 _ _⟩
 obtain⟨a,hk,rfl,rfl,A,h⟩:=hrel
 by_cases x:a<b.length
 ·have J:(a:Int)<(b.length:Int):=qo;obtain⟨j,q⟩:∃j,b[a]?=some j:=qa;obtain⟨P,Q,S,V,W,X,Y,c7,c8,c9,R⟩:=(Ppl.fr t.o h qs).at q;have B:Hi (gD b (a+1)=j.id):=by show(b[a]?.map U.id).getD 0=j.id;grind
  obtain⟨s,f⟩:=nn (gD b a);have u:=aA q;have k:=aA f;rw[f];clear q f
  by_cases ac:j.id<=s
  ·go_wp2;go_ret;exact⟨false,rfl,⟨λd=>(by cases d),λd=>(by have:=d.1 a j u.o;rw[k.o]at this;omega)⟩,h.alloc _⟩
  go_wp2;go_roundw
  ·exact⟨a+1,x,by go_num,by rw[B.o],(show Hi _ from fun e g H l=>by
   by_cases ab:e<a
   ·grind[Hi.o]
   have:e=a:=qo;subst this;rw[u.o]at l;cases l;rw[k.o];omega),h.alloc _⟩
  simp[intOf];omega
 have J:¬(a:Int)<(b.length:Int):=qo;have w:a=b.length:=qo;have n:=aA w;obtain⟨s,f⟩:=nn (gD b a);have k:=aA f;rw[f];have aa:=(h.cell _ _ qo qs).trans v;clear f w
 by_cases F:s<M
 ·go_wp2;go_ret;exact⟨true,rfl,⟨λ_=>⟨λe g l=>A.o e g (by have:=(gs.1 l).1;have:=n.o;omega) l,by rw[<-n.o,k.o];exact F⟩,λ_=>rfl⟩,h⟩
 go_wp2;go_ret;exact⟨false,rfl,⟨qa,λd=>(by have:=d.2;rw[<-n.o,k.o]at this;omega)⟩,h⟩
theorem QU(w M E:Nat)(j:T)(f:World)(e:GS f w M E j)(z:∀d∈j.us,d.owner=0\/d.owner=1):Cs 176 #[pt w] f λR w'=>BP (j.us.countP (aG 0)<=1/\j.us.countP (aG 1)<=1/\1<=j.us.countP (aG 0)+j.us.countP (aG 1)) f R w':=by
 have F:=e.gv.c;have W:=e.len;have C:=aA e.row.ppl;have S:=e.lt;obtain⟨a,L⟩:=nm j.us;rw[<-L]at F W C z |-;have O:=aA z;clear e z L;obtain⟨v,x⟩:∃v:Prop,v=(a.countP (aG 0)<=1/\a.countP (aG 1)<=1/\1<=a.countP (aG 0)+a.countP (aG 1)):=⟨_,rfl⟩;rw[<-x];have HQ:=aA x;clear x;have ad:(f.alloc (.cells #[ii 0,ii 0] 54)).cell? ⟨w,148,none⟩=some (.slice (so M) a.length E):=(((r0 [] f).alloc _).cell _ _ S qs).trans F
 delta Cs;go_in
 go_wp2
 go_loopw [11] (fun B wr=>∃b:Nat,b<=a.length/\B=ii b/\wr.heap[f.heap.size]?=some (.cells #[ii ((a.take b).countP (aG 0):Nat),ii ((a.take b).countP (aG 1):Nat)] 54)/\Fr [] f wr) (fun B _=>a.length-(intOf B).toNat)
 ·exact⟨0,by omega,rfl,aC _ _,(r0 _ _).alloc _⟩
 obtain⟨b,hk,rfl,g,h⟩:=hrel;have P:ca wr f.heap.size 0 (ii ((a.take b).countP (aG 0):Nat)):=aB g;have Q:ca wr f.heap.size 1 (ii ((a.take b).countP (aG 1):Nat)):=aB g;have z0:wr.frozen? ⟨f.heap.size,0,none⟩=false:=aV g;have z1:wr.frozen? ⟨f.heap.size,1,none⟩=false:=aV g;have Y:=aH g;have aa:(a.take b).countP (aG 0)<=1000:=Y3 (Zk1) qg;have ab:(a.take b).countP (aG 1)<=1000:=Y3 (Zk1) qg;obtain⟨p,m⟩:=nn ((a.take b).countP (aG 0));obtain⟨q,n⟩:=nn ((a.take b).countP (aG 1));rw[m]at P g aa;rw[n]at Q g ab;have s:=aA g
 by_cases y:b<a.length
 ·have X:(b:Int)<(a.length:Int):=qo;obtain⟨d,J⟩:∃d,a[b]?=some d:=qa;obtain⟨c0,D,c2,c3,c4,c5,c6,c7,c8,c9,ac⟩:=(Ppl.fr C.o h qs).at J;have I:=O.o d qg;have A:∀r,(a.take (b+1)).countP (aG r)=(a.take b).countP (aG r)+(if aG r d=true then 1 else 0):=λr=>by grind[take_succ_eq_append_getElem]
  have t:=(show Hi _ from(A 0).trans (by rw[m]));have u:=(show Hi _ from(A 1).trans (by rw[n]));clear J A m n g
  by_cases V:(d.kind==1)=true
  ·obtain i|i:=I
   ·have N:=aA i;have k:Hi (aG 0 d=true):=by grind[aG]
    have l:Hi (aG 1 d=false):=by grind[aG]
    rw[i]at D;clear i;go_wp2;go_roundw
    ·refine⟨b+1,y,by go_num,?_,(h.setCell _ _ qg).alloc _⟩;rw[eL _ _ _ qa,lY s.o,t.o,u.o,k.o,l.o];rfl
    simp[intOf];omega
   have N:=aA i;have k:Hi (aG 0 d=false):=by grind[aG]
   have l:Hi (aG 1 d=true):=by grind[aG]
   rw[i]at D;clear i;go_wp2;go_roundw
   ·refine⟨b+1,y,by go_num,?_,(h.setCell _ _ qg).alloc _⟩;rw[eL _ _ _ qa,lY s.o,t.o,u.o,k.o,l.o];rfl
   simp[intOf];omega
  simp only[Bool.not_eq_true]at V;have k:Hi (aG 0 d=false):=by show aG 0 d=false;grind[aG]
  have l:Hi (aG 1 d=false):=by grind[aG]
  clear I;go_wp2;go_roundw
  ·refine⟨b+1,y,by go_num,?_,h.alloc _⟩;rw[eL _ _ _ Y,s.o,t.o,u.o,k.o,l.o];rfl
  simp[intOf];omega
 have X:¬(b:Int)<(a.length:Int):=qo;have H:a.take b=a:=qg;rw[H]at m n;have o:Hi (v↔p<=1/\q<=1/\1<=p+q):=qg;clear H m n g
 by_cases b0:(p:Int)<=1
 ·by_cases b1:(q:Int)<=1
  ·by_cases b2:1<=(p:Int)+(q:Int)
   ·go_wp2_with fail
    all_goals
     go_ret;exact⟨true,rfl,⟨λ_=>o.o.2 qo,λ_=>rfl⟩,h⟩
   go_wp2_with fail
   all_goals
    go_ret;exact⟨false,rfl,⟨qa,λe=>(qh (o.o.1 e))⟩,h⟩
  go_wp2_with fail
  all_goals
   go_ret;exact⟨false,rfl,⟨qa,λe=>(qh (o.o.1 e))⟩,h⟩
 go_wp2_with fail
 all_goals
  go_ret;exact⟨false,rfl,⟨qa,λe=>(qh (o.o.1 e))⟩,h⟩
def kP(a:Int):Array Value:=if a=1 then kc1 else if a=2 then kc2 else if a=3 then kc3 else kz
def nJ(a:Int):Int:=if a=1 then 40 else if a=2 then 8 else if a=3 then 12 else 0
def pZ(a:Int):Int:=if a=2 then 5 else 0
theorem YC(a:Int):(kP a)[0]?=some (ii (nJ a)):=by unfold kP nJ;grind
theorem YD(a:Int):(kP a)[2]?=some (ii (pZ a)):=by
 unfold kP pZ
 by_cases b:a=1
 ·grind
 rw[Z0 b]
 by_cases c:a=2
 ·grind
 grind
theorem YF(a:Int):(kP a).size=24:=by unfold kP;split;rfl;split;rfl;split<;>rfl
theorem As:kz.all (·.oneCell')=true:=qc
theorem YE(a:Int):(kP a).all (·.oneCell')=true:=by unfold kP;split;exact JN;split;exact xL;split;exact xM;exact As
theorem YH(a:Int)(b:World):Cs 121 #[ii a] b (R0 b (.agg (kP a))):=by
 unfold kP
 by_cases c:a=1
 ·grind[oM]
 by_cases d:a=2
 ·grind[lU]
 by_cases e:a=3
 ·grind[nH]
 grind[GN]
def kY(b:Nat->Int)(a:U):Prop:=a.owner<=1/\1<=a.life/\a.life<=nJ a.kind/\a.load<=pZ a.kind/\aE a.x a.y=true/\b (ci a.x a.y)=0
theorem RM(q:Nat)(a:U)(z:Nat->Int)(c:World)(ak:BdAt c q z)(am:q<c.heap.size):Cs 210 #[pt q,a.val] c λm b=>BP (kY z a) c m b:=by
 have X:=(show Hi _ from YH a.kind);have R:=YC a.kind;have V:=YD a.kind;have Q:=YF a.kind;have ag:=YE a.kind;obtain⟨ab,hQ⟩:∃ab:Prop,ab=kY z a:=⟨_,rfl⟩;rw[<-hQ];obtain⟨w,ad⟩:=nm (pZ a.kind);obtain⟨v,ac⟩:=nm (nJ a.kind);obtain⟨B,ao⟩:=nm (kP a.kind);rw[<-ao]at X R V Q ag;rw[<-ad]at V;rw[<-ac]at R;have p:Hi (ab↔(a.owner<=1/\1<=a.life/\a.life<=v/\a.load<=w/\aE a.x a.y=true/\z (ci a.x a.y)=0)):=by show _↔_;rw[hQ,ad,ac];rfl
 clear hQ ad ac ao;have ai:=aA ak;clear ak
 delta Cs;go_in
 go_wp2_with fail
 refine cm (X.o _) ?_;rintro m t ⟨rfl,ae⟩;have HI:Hi ((prog.info? 220).map (·.size)=some B.size):=by show _=_;rw[iZ,Q]
 have C:Hi (kz.size=B.size):=by show 24=B.size;rw[Q]
 have HO:=aA ag;clear Q ag X
 go_wp2_with (refine wpList_store_row rfl 220 _ _ rfl t.heap.size B rfl rfl 220 kz (aC t _) HI.o C.o HO.o ?_)
 obtain⟨i,O⟩:=nm ((t.alloc (.cells kz 220)).setRow t.heap.size B);rw[<-O];have af:Fr [] t i:=by rw[O];exact((r0 _ _).alloc _).setRow _ _ (.inr (Q9 _))
 have P:i.heap[t.heap.size]?=some (.cells B 220):=by rw[O];exact Qz4 _ _ _ _ _ _ (aC _ _)
 have aj:=ae.qH (aC c (.cells a.arr 85));have k:=af.qH aj;have l:=(((r0 [] c).alloc _).qT ae).qT af;have Zq:Hi (BdAt i q z):=λau hi=>(l.cell _ _ am qs).trans (ai.o au hi);have Zr:=aA (Z1 am l.size);have k0:=(aB P).trans R;have k2:=(aB P).trans V;have ah:=aH P;obtain⟨n,an⟩:=nm t.heap.size;rw[<-an]at k0 k2 ah |-;have f:∀b,Fr [] i b->(λb:World=>((cl b c.heap.size 0 a.id/\cl b c.heap.size 1 a.owner/\cl b c.heap.size 2 a.kind/\cl b c.heap.size 3 a.x/\cl b c.heap.size 4 a.y/\cl b c.heap.size 5 a.life/\cl b c.heap.size 6 a.load/\cl b c.heap.size 7 a.what/\cl b c.heap.size 8 a.tox/\cl b c.heap.size 9 a.toy/\cl b c.heap.size 10 a.target)/\(cl b n 0 v/\cl b n 2 w))/\Fr [] i b) b:=λb g=>⟨⟨⟨aB (g.qH k),aB (g.qH k),aB (g.qH k),aB (g.qH k),aB (g.qH k),aB (g.qH k),aB (g.qH k),aB (g.qH k),aB (g.qH k),aB (g.qH k),aB (g.qH k)⟩,(g.cell _ _ ah qs).trans k0,(g.cell _ _ ah qs).trans k2⟩,g⟩
 clear O P aj ae af an R V HI C HO k0 k2 ai
 by_cases h0:a.owner<=1
 ·skip
  by_cases h1:1<=a.life
  ·skip
   by_cases h2:a.life<=v
   ·skip
    by_cases h3:a.load<=w
    ·skip
     cases A:aE a.x a.y
     ·skip
      have u:=aA A;clear A;have j:=f _ (r0 [] i).drew;refine rg 41 f j λd=>?_
      iterate 24 refine tn 41 d ?_
      refine rd 24 fun K hK=>?_;have h:=aA hK;clear hK;go_simp;refine cm (iH a _) ?_;rintro m aq ⟨rfl,E⟩;have H:=d.2.qT E;clear d;refine h.o _ _ (f _ H) (fun d=>?_);clear h K;try simp only[Act.put,Z]
      refine rd 25 fun K hK=>?_;have h:=aA hK;clear hK;go_simp;refine cm (kR _ _ _ _ u.o) ?_;rintro m ar ⟨rfl,F⟩;have I:=d.2.qT F;clear d;refine h.o _ _ (f _ I) (fun d=>?_);clear h K;try simp only[Act.put,Z]
      iterate 15 refine tn 41 d ?_
      refine wpAnyH_done qk ?_ _;go_wp2;go_ret;exact⟨false,rfl,⟨λe=>(by cases e),λe=>(by obtain⟨J,L,M,N,r,s⟩:=p.o.1 e;rw[u.o]at r;cases r)⟩,l.qT d.2⟩
     skip
     obtain⟨o1,o2,o3,o4⟩:=bX.1 A;have D:=Zq.o _ (eN A);obtain⟨W,hz⟩:=nn (z (ci a.x a.y));rw[hz]at D;have C:=aA hz;unfold ci at D;rw[<-Y0]at D;have u:=aA A;clear A hz;have Y:∀b,Fr [] i b->(λb:World=>((ca b c.heap.size 0 (ii a.id)/\ca b c.heap.size 1 (ii a.owner)/\ca b c.heap.size 2 (ii a.kind)/\ca b c.heap.size 3 (ii a.x)/\ca b c.heap.size 4 (ii a.y)/\ca b c.heap.size 5 (ii a.life)/\ca b c.heap.size 6 (ii a.load)/\ca b c.heap.size 7 (ii a.what)/\ca b c.heap.size 8 (ii a.tox)/\ca b c.heap.size 9 (ii a.toy)/\ca b c.heap.size 10 (ii a.target))/\(ca b n 0 (ii v)/\ca b n 2 (ii w))/\ca b q (4+a.y.toNat*12+a.x.toNat) (ii W))/\Fr [] i b) b:=λb g=>⟨⟨(f b g).1.1,(f b g).1.2,(g.cell _ _ Zr.o qs).trans D⟩,g⟩;have j:=Y _ (r0 [] i).drew;clear D f;have f:=Y;clear Y;cases ap:(W==0)
     ·skip
      have aa:=aA ap;refine wp_region_held_drew (S:=λb:World=>((cl b c.heap.size 0 a.id/\cl b c.heap.size 1 a.owner/\cl b c.heap.size 2 a.kind/\cl b c.heap.size 3 a.x/\cl b c.heap.size 4 a.y/\cl b c.heap.size 5 a.life/\cl b c.heap.size 6 a.load/\cl b c.heap.size 7 a.what/\cl b c.heap.size 8 a.tox/\cl b c.heap.size 9 a.toy/\cl b c.heap.size 10 a.target)/\(cl b n 0 v/\cl b n 2 w)/\ca b q (4+a.y.toNat*12+a.x.toNat) (ii W))/\Fr [] i b) qk j (λd=>?_);refine(show wpAnyH prog Region.Mode.any _ _ _ 41 (Array.replicate 41 false) _ _ from ?_)
      iterate 24 refine tn 41 d ?_
      refine rd 24 fun K hK=>?_;have h:=aA hK;clear hK;go_simp;refine cm (iH a _) ?_;rintro m aq ⟨rfl,E⟩;have H:=d.2.qT E;clear d;refine h.o _ _ (f _ H) (fun d=>?_);clear h K;try simp only[Act.put,Z]
      refine rd 25 fun K hK=>?_;have h:=aA hK;clear hK;go_simp;refine cm (kR _ _ _ _ u.o) ?_;rintro m ar ⟨rfl,F⟩;have I:=d.2.qT F;clear d;refine h.o _ _ (f _ I) (fun d=>?_);clear h K;try simp only[Act.put,Z]
      iterate 15 refine tn 41 d ?_
      refine wpAnyH_done qk ?_ _;go_wp2;go_ret;exact⟨false,rfl,⟨λe=>(by cases e),λe=>(by obtain⟨J,L,M,N,r,s⟩:=p.o.1 e;rw[C.o]at s;have:=aa.o;simp[s]at this)⟩,l.qT d.2⟩
     skip
     have aa:=aA ap;refine wp_region_held_drew (S:=λb:World=>((cl b c.heap.size 0 a.id/\cl b c.heap.size 1 a.owner/\cl b c.heap.size 2 a.kind/\cl b c.heap.size 3 a.x/\cl b c.heap.size 4 a.y/\cl b c.heap.size 5 a.life/\cl b c.heap.size 6 a.load/\cl b c.heap.size 7 a.what/\cl b c.heap.size 8 a.tox/\cl b c.heap.size 9 a.toy/\cl b c.heap.size 10 a.target)/\(cl b n 0 v/\cl b n 2 w)/\ca b q (4+a.y.toNat*12+a.x.toNat) (ii W))/\Fr [] i b) qk j (λd=>?_);refine(show wpAnyH prog Region.Mode.any _ _ _ 41 (Array.replicate 41 false) _ _ from ?_)
     iterate 24 refine tn 41 d ?_
     refine rd 24 fun K hK=>?_;have h:=aA hK;clear hK;go_simp;refine cm (iH a _) ?_;rintro m aq ⟨rfl,E⟩;have H:=d.2.qT E;clear d;refine h.o _ _ (f _ H) (fun d=>?_);clear h K;try simp only[Act.put,Z]
     refine rd 25 fun K hK=>?_;have h:=aA hK;clear hK;go_simp;refine cm (kR _ _ _ _ u.o) ?_;rintro m ar ⟨rfl,F⟩;have I:=d.2.qT F;clear d;refine h.o _ _ (f _ I) (fun d=>?_);clear h K;try simp only[Act.put,Z]
     iterate 15 refine tn 41 d ?_
     refine wpAnyH_done qk ?_ _;go_wp2;go_ret;exact⟨true,rfl,⟨λ_=>p.o.2 ⟨h0,h1,h2,h3,u.o,by rw[C.o];simpa using aa.o⟩,λ_=>rfl⟩,l.qT d.2⟩
    skip
    have j:=f _ (r0 [] i).drew;refine rg 41 f j λd=>?_
    iterate 41 refine tn 41 d ?_
    refine wpAnyH_done qk ?_ _;go_wp2;go_ret;exact⟨false,rfl,⟨λe=>(by cases e),λe=>(by obtain⟨J,L,M,N,r,s⟩:=p.o.1 e;omega)⟩,l.qT d.2⟩
   skip
   have j:=f _ (r0 [] i).drew;refine rg 41 f j λd=>?_
   iterate 41 refine tn 41 d ?_
   refine wpAnyH_done qk ?_ _;go_wp2;go_ret;exact⟨false,rfl,⟨λe=>(by cases e),λe=>(by obtain⟨J,L,M,N,r,s⟩:=p.o.1 e;omega)⟩,l.qT d.2⟩
  skip
  have j:=f _ (r0 [] i).drew;refine rg 41 f j λd=>?_
  iterate 41 refine tn 41 d ?_
  refine wpAnyH_done qk ?_ _;go_wp2;go_ret;exact⟨false,rfl,⟨λe=>(by cases e),λe=>(by obtain⟨J,L,M,N,r,s⟩:=p.o.1 e;omega)⟩,l.qT d.2⟩
 skip
 have j:=f _ (r0 [] i).drew;refine rg 41 f j λd=>?_
 iterate 41 refine tn 41 d ?_
 refine wpAnyH_done qk ?_ _;go_wp2;go_ret;exact⟨false,rfl,⟨λe=>(by cases e),λe=>(by obtain⟨J,L,M,N,r,s⟩:=p.o.1 e;omega)⟩,l.qT d.2⟩
