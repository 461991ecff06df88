import Derived.Test.YtapabahhfanmmaaGreatDoorCRNil
namespace Go.Proofs.YtapabahhfanmmaaGreatDoor
open Go.RowKit List Go.Proofs.Tryz
set_option maxHeartbeats 4000000
set_option maxRecDepth 100000
def uB(a b:U):Bool:=decide (a.id=b.id/\a.owner=b.owner/\a.kind=b.kind/\a.x=b.x/\a.y=b.y/\a.life=b.life/\a.load=b.load/\a.what=b.what/\a.tox=b.tox/\a.toy=b.toy/\a.target=b.target)
theorem lL(a b:U):uB a b=true↔a=b:=by obtain⟨c,d,f,g,h,i,j,k,l,m,e⟩:=a;obtain⟨n,o,q,r,s,t,u,v,w,x,p⟩:=b;simp[uB]
theorem WO(d e:Operand)(b c:U)(a:World):(eqGuard BinOp.eql 85 d e b.val c.val).run prog a=.ok () a:=qk
theorem VA(a:U)(b:World):(binOp BinOp.eql 85 a.val a.val).run prog b=.ok (.bool true) b:=by simp[go_sem]
theorem UZ(g h:U)(m:World):(binOp BinOp.eql 85 g.val h.val).run prog m=.ok (.bool (uB g h)) m:=by
 by_cases L:g=h
 ·grind[lL,VA]
 rw[show uB g h=false from by grind[lL]];obtain⟨n,o,q,r,s,t,u,v,w,x,p⟩:=g;obtain⟨y,z,B,C,D,E,F,H,I,J,A⟩:=h;simp only[U.mk.injEq]at L
 by_cases a:n=y
 ·by_cases b:o=z
  ·by_cases c:q=B
   ·by_cases d:r=C
    ·by_cases e:s=D
     ·by_cases f:t=E
      ·by_cases i:u=F
       ·by_cases j:v=H
        ·by_cases k:w=I
         ·by_cases l:x=J
          ·have M:¬p=A:=qo;simp[go_sem,a,b,c,d,e,f,i,j,k,l,M]
          simp[go_sem,a,b,c,d,e,f,i,j,k,l]
         simp[go_sem,a,b,c,d,e,f,i,j,k]
        simp[go_sem,a,b,c,d,e,f,i,j]
       simp[go_sem,a,b,c,d,e,f,i]
      simp[go_sem,a,b,c,d,e,f]
     simp[go_sem,a,b,c,d,e]
    simp[go_sem,a,b,c,d]
   simp[go_sem,a,b,c]
  simp[go_sem,a,b]
 simp[go_sem,a]
theorem Fy(y pb X:Nat)(m:T)(a:U)(z:World)(g:RG z y pb X m)(ax:a.kind=1\/a.kind=2\/a.kind=3):Cs 141 #[pt y,a.val] z λQ b=>BP (fV m a=true/\kF a a.cm=a) z Q b:=by
 obtain⟨W,hQ⟩:∃W:Prop,W=(fV m a=true/\kF a a.cm=a):=⟨_,rfl⟩;rw[<-hQ];obtain⟨e,ad⟩:=nm (kF a a.cm);obtain⟨H,af⟩:=nn (bZ m a a.cm);have HO:Hi (∀b,Fr [] z b->Cs 178 #[pt y,a.val,a.cm.val] b (R0 b (.tuple #[e.val,.bool H]))):=λb c=>by rw[ad,<-af];exact MK y pb X m a a.cm b (g.qF c) ax
 have HF:=aA (λb c=>Fk y pb X m.us a.target b (g.qF c).gv);have I:=aA (λb (c:Fr [] z b)=>(g.qF c).c147);have ai:=aA (λay (hj:ay<144) b (c:Fr [] z b)=>(g.qF c).bd hj);have s:Hi (W↔(fV m a=true/\e=a)):=by show _↔_;rw[hQ,ad]
 have aj:=aA af;have bc:=UZ e a;have be:=λ(az ba:Operand) (w0:World)=>WO az ba e a w0;clear g hQ ad af
 delta Cs;go_in
 go_wp2_with fail
 obtain⟨W2,R⟩:=nm ((z.alloc (.cells a.arr 85)).alloc (.cells #[ii a.id,ii a.what,ii a.tox,ii a.toy,ii a.target] 81));rw[<-R];have ag:Fr [] z W2:=by rw[R];exact((r0 _ _).alloc _).alloc _
 have ak:W2.heap[z.heap.size]?=some (.cells a.arr 85):=by rw[R];exact(eL _ _ _ qs).trans (aC _ _)
 clear R;refine cm (HO.o _ ag) ?_;rintro Q w ⟨rfl,ab⟩;have Zq:=ag.qT ab;have u:=ab.qH ak;obtain⟨d,an⟩:=nm z.heap.size;rw[<-an]at u |-;have ae:=aH u;obtain⟨t,N⟩:=nm (w.alloc (.cells e.arr 85));have v:Fr [] z t:=by rw[N];exact Zq.alloc _
 have j:t.heap[d]?=some (.cells a.arr 85):=by rw[N];exact(eL _ _ _ ae).trans u
 have h:t.heap[w.heap.size]?=some (.cells e.arr 85):=by rw[N];exact aC _ _
 obtain⟨k0,k1,k2,k3,k4,k5,k6,k7,k8,k9,Zr⟩:w.cell? ⟨d,0,none⟩=some (ii a.id)/\w.cell? ⟨d,1,none⟩=some (ii a.owner)/\w.cell? ⟨d,2,none⟩=some (ii a.kind)/\w.cell? ⟨d,3,none⟩=some (ii a.x)/\w.cell? ⟨d,4,none⟩=some (ii a.y)/\w.cell? ⟨d,5,none⟩=some (ii a.life)/\w.cell? ⟨d,6,none⟩=some (ii a.load)/\w.cell? ⟨d,7,none⟩=some (ii a.what)/\w.cell? ⟨d,8,none⟩=some (ii a.tox)/\w.cell? ⟨d,9,none⟩=some (ii a.toy)/\w.cell? ⟨d,10,none⟩=some (ii a.target):=⟨aB u,aB u,aB u,aB u,aB u,aB u,aB u,aB u,aB u,aB u,aB u⟩;obtain⟨f,ar⟩:=nm w.heap.size;have J:=aA ar;have L:=aA N;clear ak ag HO ab an ar N Zq u
 by_cases C:a.what=2
 ·have aw:(a.what==2)=true:=by simpa using C
  have bb:(a.what==3)=false:=by rw[C];rfl
  have r:Hi (fV m a=(a.kind==2&&(aE a.tox a.toy&&m.bd (ci a.tox a.toy)!=10))):=by show _=_;unfold fV;rw[Q7 C]
  clear C
  go_wp2_with (first|(go_at_call 185;refine(fC _ _ _).mono ?_;rintro Q w5 ⟨rfl,rfl⟩))
  rw[<-L.o,<-J.o];rw[<-J.o]at h;clear k0 k1 k2 k3 k4 k5 k6 k7 k8 k9 Zr;obtain⟨ob,ac⟩:=nn (aE a.tox a.toy);rw[ac]at r |-;have V:=aA ac;clear ac ae
  by_cases A:a.kind=2
  ·have B:(a.kind==2)=true:=by simpa using A
   clear A;cases ob
   ·have p:Hi (fV m a=false):=by show _=_;rw[r.o];simp
    clear r;have q:∀b,Fr [] t b->(λb:World=>((cl b d 0 a.id/\cl b d 1 a.owner/\cl b d 2 a.kind/\cl b d 3 a.x/\cl b d 4 a.y/\cl b d 5 a.life/\cl b d 6 a.load/\cl b d 7 a.what/\cl b d 8 a.tox/\cl b d 9 a.toy/\cl b d 10 a.target)/\(cl b f 0 e.id/\cl b f 1 e.owner/\cl b f 2 e.kind/\cl b f 3 e.x/\cl b f 4 e.y/\cl b f 5 e.life/\cl b f 6 e.load/\cl b f 7 e.what/\cl b f 8 e.tox/\cl b f 9 e.toy/\cl b f 10 e.target)/\cl b y 147 m.next)/\Fr [] t b) b:=λb c=>⟨⟨⟨aB (c.qH j),aB (c.qH j),aB (c.qH j),aB (c.qH j),aB (c.qH j),aB (c.qH j),aB (c.qH j),aB (c.qH j),aB (c.qH j),aB (c.qH j),aB (c.qH j)⟩,⟨aB (c.qH h),aB (c.qH h),aB (c.qH h),aB (c.qH h),aB (c.qH h),aB (c.qH h),aB (c.qH h),aB (c.qH h),aB (c.qH h),aB (c.qH h),aB (c.qH h)⟩,I.o _ (v.qT c)⟩,c⟩;have x:=q _ (r0 [] t).drew;refine rg 20 q x λn=>?_
    iterate 20 refine tn 20 n ?_
    refine wpAnyH_done qk ?_ _;go_wp2;go_ret;exact⟨false,rfl,⟨λg=>(by cases g),λg=>(by have:=(s.o.1 g).1;rw[p.o]at this;cases this)⟩,v.qT n.2⟩
   obtain⟨p0,p1,p2,p3⟩:=bX.1 V.o;have ap:=eN V.o;obtain⟨M,ao⟩:=nn (m.bd (ci a.tox a.toy));have P:=(show Hi _ from ai.o _ ap);rw[ao]at P r;rw[show 1+ci a.tox a.toy=1+a.toy.toNat*12+a.tox.toNat by unfold ci;omega]at P;clear ap ao V ai
   by_cases Y:M=10
   ·have aa:(M !=10)=false:=by simpa using Y
    have p:Hi (fV m a=false):=by show _=_;rw[r.o,aa];simp
    clear r Y;have q:∀b,Fr [] t b->(λb:World=>((cl b d 0 a.id/\cl b d 1 a.owner/\cl b d 2 a.kind/\cl b d 3 a.x/\cl b d 4 a.y/\cl b d 5 a.life/\cl b d 6 a.load/\cl b d 7 a.what/\cl b d 8 a.tox/\cl b d 9 a.toy/\cl b d 10 a.target)/\(cl b f 0 e.id/\cl b f 1 e.owner/\cl b f 2 e.kind/\cl b f 3 e.x/\cl b f 4 e.y/\cl b f 5 e.life/\cl b f 6 e.load/\cl b f 7 e.what/\cl b f 8 e.tox/\cl b f 9 e.toy/\cl b f 10 e.target)/\cl b y 147 m.next/\ca b y (1+a.toy.toNat*12+a.tox.toNat) (ii M))/\Fr [] t b) b:=λb c=>⟨⟨⟨aB (c.qH j),aB (c.qH j),aB (c.qH j),aB (c.qH j),aB (c.qH j),aB (c.qH j),aB (c.qH j),aB (c.qH j),aB (c.qH j),aB (c.qH j),aB (c.qH j)⟩,⟨aB (c.qH h),aB (c.qH h),aB (c.qH h),aB (c.qH h),aB (c.qH h),aB (c.qH h),aB (c.qH h),aB (c.qH h),aB (c.qH h),aB (c.qH h),aB (c.qH h)⟩,I.o _ (v.qT c),P.o _ (v.qT c)⟩,c⟩;have x:=q _ (r0 [] t).drew;refine rg 20 q x λn=>?_
    iterate 20 refine tn 20 n ?_
    refine wpAnyH_done qk ?_ _;go_wp2;go_ret;exact⟨false,rfl,⟨λg=>(by cases g),λg=>(by have:=(s.o.1 g).1;rw[p.o]at this;cases this)⟩,v.qT n.2⟩
   have aa:(M !=10)=true:=by simpa using Y
   have p:Hi (fV m a=true):=by show _=_;rw[r.o,aa,B];rfl
   clear r;have q:∀b,Fr [] t b->(λb:World=>((cl b d 0 a.id/\cl b d 1 a.owner/\cl b d 2 a.kind/\cl b d 3 a.x/\cl b d 4 a.y/\cl b d 5 a.life/\cl b d 6 a.load/\cl b d 7 a.what/\cl b d 8 a.tox/\cl b d 9 a.toy/\cl b d 10 a.target)/\(cl b f 0 e.id/\cl b f 1 e.owner/\cl b f 2 e.kind/\cl b f 3 e.x/\cl b f 4 e.y/\cl b f 5 e.life/\cl b f 6 e.load/\cl b f 7 e.what/\cl b f 8 e.tox/\cl b f 9 e.toy/\cl b f 10 e.target)/\cl b y 147 m.next/\ca b y (1+a.toy.toNat*12+a.tox.toNat) (ii M))/\Fr [] t b) b:=λb c=>⟨⟨⟨aB (c.qH j),aB (c.qH j),aB (c.qH j),aB (c.qH j),aB (c.qH j),aB (c.qH j),aB (c.qH j),aB (c.qH j),aB (c.qH j),aB (c.qH j),aB (c.qH j)⟩,⟨aB (c.qH h),aB (c.qH h),aB (c.qH h),aB (c.qH h),aB (c.qH h),aB (c.qH h),aB (c.qH h),aB (c.qH h),aB (c.qH h),aB (c.qH h),aB (c.qH h)⟩,I.o _ (v.qT c),P.o _ (v.qT c)⟩,c⟩;have x:=q _ (r0 [] t).drew;refine rg 20 q x λn=>?_
   iterate 20 refine tn 20 n ?_
   refine wpAnyH_done qk ?_ _;go_wp2;go_ret;exact⟨uB e a,rfl,⟨λg=>s.o.2 ⟨p.o,(lL _ _).1 g⟩,λg=>(lL _ _).2 (s.o.1 g).2⟩,v.qT n.2⟩
  have B:(a.kind==2)=false:=by simpa using A
  have p:Hi (fV m a=false):=by show _=_;rw[r.o,B];rfl
  clear r A;have q:∀b,Fr [] t b->(λb:World=>((cl b d 0 a.id/\cl b d 1 a.owner/\cl b d 2 a.kind/\cl b d 3 a.x/\cl b d 4 a.y/\cl b d 5 a.life/\cl b d 6 a.load/\cl b d 7 a.what/\cl b d 8 a.tox/\cl b d 9 a.toy/\cl b d 10 a.target)/\(cl b f 0 e.id/\cl b f 1 e.owner/\cl b f 2 e.kind/\cl b f 3 e.x/\cl b f 4 e.y/\cl b f 5 e.life/\cl b f 6 e.load/\cl b f 7 e.what/\cl b f 8 e.tox/\cl b f 9 e.toy/\cl b f 10 e.target)/\cl b y 147 m.next)/\Fr [] t b) b:=λb c=>⟨⟨⟨aB (c.qH j),aB (c.qH j),aB (c.qH j),aB (c.qH j),aB (c.qH j),aB (c.qH j),aB (c.qH j),aB (c.qH j),aB (c.qH j),aB (c.qH j),aB (c.qH j)⟩,⟨aB (c.qH h),aB (c.qH h),aB (c.qH h),aB (c.qH h),aB (c.qH h),aB (c.qH h),aB (c.qH h),aB (c.qH h),aB (c.qH h),aB (c.qH h),aB (c.qH h)⟩,I.o _ (v.qT c)⟩,c⟩;have x:=q _ (r0 [] t).drew;refine rg 20 q x λn=>?_
  iterate 20 refine tn 20 n ?_
  refine wpAnyH_done qk ?_ _;go_wp2;go_ret;exact⟨false,rfl,⟨λg=>(by cases g),λg=>(by have:=(s.o.1 g).1;rw[p.o]at this;cases this)⟩,v.qT n.2⟩
 have aw:(a.what==2)=false:=by simpa using C
 rw[<-J.o]at h
 by_cases F:a.what=3
 ·have av:(a.what==3)=true:=by simpa using F
  have r:Hi (fV m a=if bI m.us a.target=none then a.kind==3&&(decide (1<=a.target)&&decide (a.target<m.next))else H):=by show _=_;unfold fV;rw[Z0 C,aj.o];simp only[F,true_and]
  clear C F
  go_wp2_with fail
  rw[<-L.o,<-J.o];refine cm (HF.o _ v) ?_;rintro Q w5 ⟨rfl,S⟩;have E:=v.qT S;have k:=S.qH j;have l:=S.qH h;clear j h v ae k0 k1 k2 k3 k4 k5 k6 k7 k8 k9 Zr J L;obtain⟨i,am⟩:=nm w5;rw[<-am]at E k l |-;clear am S;obtain⟨po,aq⟩:=nn (bI m.us a.target);rw[aq]at r |-;clear aq;obtain _|ah:=po
  ·have D:Hi (fV m a=(a.kind==3&&(decide (1<=a.target)&&decide (a.target<m.next)))):=by show _=_;rw[r.o,Q7 rfl]
   have O:fJ none = -1:=rfl;rw[O];clear r O;have q:∀b,Fr [] i b->(λb:World=>((cl b d 0 a.id/\cl b d 1 a.owner/\cl b d 2 a.kind/\cl b d 3 a.x/\cl b d 4 a.y/\cl b d 5 a.life/\cl b d 6 a.load/\cl b d 7 a.what/\cl b d 8 a.tox/\cl b d 9 a.toy/\cl b d 10 a.target)/\(cl b f 0 e.id/\cl b f 1 e.owner/\cl b f 2 e.kind/\cl b f 3 e.x/\cl b f 4 e.y/\cl b f 5 e.life/\cl b f 6 e.load/\cl b f 7 e.what/\cl b f 8 e.tox/\cl b f 9 e.toy/\cl b f 10 e.target)/\cl b y 147 m.next)/\Fr [] i b) b:=λb c=>⟨⟨⟨aB (c.qH k),aB (c.qH k),aB (c.qH k),aB (c.qH k),aB (c.qH k),aB (c.qH k),aB (c.qH k),aB (c.qH k),aB (c.qH k),aB (c.qH k),aB (c.qH k)⟩,⟨aB (c.qH l),aB (c.qH l),aB (c.qH l),aB (c.qH l),aB (c.qH l),aB (c.qH l),aB (c.qH l),aB (c.qH l),aB (c.qH l),aB (c.qH l),aB (c.qH l)⟩,I.o _ (E.qT c)⟩,c⟩;obtain⟨u0,u1,u2,u3,u4,u5,u6,u7,u8,u9,u10⟩:i.cell? ⟨d,0,none⟩=some (ii a.id)/\i.cell? ⟨d,1,none⟩=some (ii a.owner)/\i.cell? ⟨d,2,none⟩=some (ii a.kind)/\i.cell? ⟨d,3,none⟩=some (ii a.x)/\i.cell? ⟨d,4,none⟩=some (ii a.y)/\i.cell? ⟨d,5,none⟩=some (ii a.life)/\i.cell? ⟨d,6,none⟩=some (ii a.load)/\i.cell? ⟨d,7,none⟩=some (ii a.what)/\i.cell? ⟨d,8,none⟩=some (ii a.tox)/\i.cell? ⟨d,9,none⟩=some (ii a.toy)/\i.cell? ⟨d,10,none⟩=some (ii a.target):=⟨aB k,aB k,aB k,aB k,aB k,aB k,aB k,aB k,aB k,aB k,aB k⟩;obtain⟨v0,v1,v2,v3,v4,v5,v6,v7,v8,v9,au⟩:i.cell? ⟨f,0,none⟩=some (ii e.id)/\i.cell? ⟨f,1,none⟩=some (ii e.owner)/\i.cell? ⟨f,2,none⟩=some (ii e.kind)/\i.cell? ⟨f,3,none⟩=some (ii e.x)/\i.cell? ⟨f,4,none⟩=some (ii e.y)/\i.cell? ⟨f,5,none⟩=some (ii e.life)/\i.cell? ⟨f,6,none⟩=some (ii e.load)/\i.cell? ⟨f,7,none⟩=some (ii e.what)/\i.cell? ⟨f,8,none⟩=some (ii e.tox)/\i.cell? ⟨f,9,none⟩=some (ii e.toy)/\i.cell? ⟨f,10,none⟩=some (ii e.target):=⟨aB l,aB l,aB l,aB l,aB l,aB l,aB l,aB l,aB l,aB l,aB l⟩;have x:=q _ (r0 [] i).drew
   go_wp2_with fail
   clear u0 u1 u2 u3 u4 u5 u6 u7 u8 u9 u10 v0 v1 v2 v3 v4 v5 v6 v7 v8 v9 au
   by_cases A:a.kind=3
   ·have B:(a.kind==3)=true:=by simpa using A
    clear A
    by_cases t1:1<=a.target
    ·skip
     by_cases t2:a.target<m.next
     ·have p:Hi (fV m a=true):=by show _=_;rw[D.o,B];simp[t1,t2]
      clear D;refine rg 18 q x λn=>?_
      iterate 18 refine tn 18 n ?_
      refine wpAnyH_done qk ?_ _;go_wp2;go_ret;exact⟨uB e a,rfl,⟨λg=>s.o.2 ⟨p.o,(lL _ _).1 g⟩,λg=>(lL _ _).2 (s.o.1 g).2⟩,E.qT n.2⟩
     have p:Hi (fV m a=false):=by show _=_;rw[D.o,B];simp[t2]
     clear D;refine rg 18 q x λn=>?_
     iterate 18 refine tn 18 n ?_
     refine wpAnyH_done qk ?_ _;go_wp2;go_ret;exact⟨false,rfl,⟨λg=>(by cases g),λg=>(by have:=(s.o.1 g).1;rw[p.o]at this;cases this)⟩,E.qT n.2⟩
    have p:Hi (fV m a=false):=by show _=_;rw[D.o,B];simp[t1]
    clear D;refine rg 18 q x λn=>?_
    iterate 18 refine tn 18 n ?_
    refine wpAnyH_done qk ?_ _;go_wp2;go_ret;exact⟨false,rfl,⟨λg=>(by cases g),λg=>(by have:=(s.o.1 g).1;rw[p.o]at this;cases this)⟩,E.qT n.2⟩
   have B:(a.kind==3)=false:=by simpa using A
   have p:Hi (fV m a=false):=by show _=_;rw[D.o,B];rfl
   clear D A;refine rg 18 q x λn=>?_
   iterate 18 refine tn 18 n ?_
   refine wpAnyH_done qk ?_ _;go_wp2;go_ret;exact⟨false,rfl,⟨λg=>(by cases g),λg=>(by have:=(s.o.1 g).1;rw[p.o]at this;cases this)⟩,E.qT n.2⟩
  have p:Hi (fV m a=H):=by show _=_;rw[r.o,Z0 qs]
  have O:fJ (some ah)=(ah:Int):=rfl;rw[O];clear r O;have bf:¬(ah:Int)<0:=qo;obtain⟨u0,u1,u2,u3,u4,u5,u6,u7,u8,u9,u10⟩:i.cell? ⟨d,0,none⟩=some (ii a.id)/\i.cell? ⟨d,1,none⟩=some (ii a.owner)/\i.cell? ⟨d,2,none⟩=some (ii a.kind)/\i.cell? ⟨d,3,none⟩=some (ii a.x)/\i.cell? ⟨d,4,none⟩=some (ii a.y)/\i.cell? ⟨d,5,none⟩=some (ii a.life)/\i.cell? ⟨d,6,none⟩=some (ii a.load)/\i.cell? ⟨d,7,none⟩=some (ii a.what)/\i.cell? ⟨d,8,none⟩=some (ii a.tox)/\i.cell? ⟨d,9,none⟩=some (ii a.toy)/\i.cell? ⟨d,10,none⟩=some (ii a.target):=⟨aB k,aB k,aB k,aB k,aB k,aB k,aB k,aB k,aB k,aB k,aB k⟩;obtain⟨v0,v1,v2,v3,v4,v5,v6,v7,v8,v9,au⟩:i.cell? ⟨f,0,none⟩=some (ii e.id)/\i.cell? ⟨f,1,none⟩=some (ii e.owner)/\i.cell? ⟨f,2,none⟩=some (ii e.kind)/\i.cell? ⟨f,3,none⟩=some (ii e.x)/\i.cell? ⟨f,4,none⟩=some (ii e.y)/\i.cell? ⟨f,5,none⟩=some (ii e.life)/\i.cell? ⟨f,6,none⟩=some (ii e.load)/\i.cell? ⟨f,7,none⟩=some (ii e.what)/\i.cell? ⟨f,8,none⟩=some (ii e.tox)/\i.cell? ⟨f,9,none⟩=some (ii e.toy)/\i.cell? ⟨f,10,none⟩=some (ii e.target):=⟨aB l,aB l,aB l,aB l,aB l,aB l,aB l,aB l,aB l,aB l,aB l⟩;cases H
  ·skip
   go_wp2;go_ret;exact⟨false,rfl,⟨λg=>(by cases g),λg=>(by have:=(s.o.1 g).1;rw[p.o]at this;cases this)⟩,E⟩
  skip
  go_wp2;go_ret;exact⟨uB e a,rfl,⟨λg=>s.o.2 ⟨p.o,(lL _ _).1 g⟩,λg=>(lL _ _).2 (s.o.1 g).2⟩,E⟩
 have av:(a.what==3)=false:=by simpa using F
 have p:Hi (fV m a=H):=by show _=_;unfold fV;rw[Z0 C,Z0 (λg=>F g.1),aj.o]
 clear C F
 skip
 cases H
 ·skip
  go_wp2;go_ret;rw[<-L.o];exact⟨false,rfl,⟨λg=>(by cases g),λg=>(by have:=(s.o.1 g).1;rw[p.o]at this;cases this)⟩,v⟩
 skip
 go_wp2;go_ret;rw[<-L.o];exact⟨uB e a,rfl,⟨λg=>s.o.2 ⟨p.o,(lL _ _).1 g⟩,λg=>(lL _ _).2 (s.o.1 g).2⟩,v⟩
