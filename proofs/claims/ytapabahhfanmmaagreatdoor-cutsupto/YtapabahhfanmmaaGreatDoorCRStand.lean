import Derived.Test.YtapabahhfanmmaaGreatDoorCRefO
namespace Go.Proofs.YtapabahhfanmmaaGreatDoor
open Go.RowKit List Go.Proofs.Tryz
set_option maxHeartbeats 8000000
set_option maxRecDepth 100000
def eE(b:T)(a:U)(c:Int):Prop:=
  c<a.id/\a.id<b.next/\a.owner<=1/\1<=a.kind/\a.kind<=3/\cH b.us b.bd (a.x,a.y)=true/\1<=a.life/\a.life<=dE a.kind/\a.load<=5/\(a.load=0\/a.kind=2)
theorem qS(a:Int)(b:World):Cs 93 #[ii a] b λc d=>c=.returned (ii (dE a))/\Fr [] b d:=
  Qx1 (pE a b) (by grind[r0])
theorem MN(r:Nat)(i:T)(c:U)(n:Int)(j:World)(I:∀e,Fr [] j e->e.cell? ⟨r,147,none⟩=some (ii i.next))(H:∀e,Fr [] j e->Cs 184 #[pt r,ii c.x,ii c.y] e (R0 e (.bool (cH i.us i.bd (c.x,c.y))))):Cs 140 #[pt r,c.val,ii n] j λm e=>BP (eE i c n) j m e:=by
 obtain⟨p,F,s,t⟩:=al j (.cells c.arr 85);have N:ca p j.heap.size 3 (ii c.x):=aB t;have O:ca p j.heap.size 4 (ii c.y):=aB t;have d:∀e,Fr [] p e->(λe:World=>(cl e j.heap.size 0 c.id/\cl e j.heap.size 1 c.owner/\cl e j.heap.size 2 c.kind/\cl e j.heap.size 5 c.life/\cl e j.heap.size 6 c.load/\cl e r 147 i.next)/\Fr [] p e) e:=λe B=>by have q:=B.qH t;exact⟨⟨aB q,aB q,aB q,aB q,aB q,I _ (s.qT B)⟩,B⟩
 have D:=(show Hi _ from H p s);clear t
 delta Cs;go_in
 go_wp2_with fail
 rw[<-F];clear F;refine cm D.o ?_;rintro m w2 ⟨rfl,Q⟩;obtain⟨P,C⟩:=nn (cH i.us i.bd (c.x,c.y));rw[C];have z:=aA C;have h:=aA s;clear C s I H N O D
 go_wp2_with fail
 have f:=d _ Q.drew
 by_cases V:c.id<=n
 ·skip
  refine rg 32 d f λa=>?_
  iterate 32 refine tn 32 a ?_
  refine wpAnyH_done qk ?_ _;go_wp2;go_ret;exact⟨false,rfl,⟨λb=>(by cases b),λb=>(by unfold eE at b;omega)⟩,h.o.qT a.2⟩
 skip
 by_cases W:i.next<=c.id
 ·skip
  refine rg 32 d f λa=>?_
  iterate 32 refine tn 32 a ?_
  refine wpAnyH_done qk ?_ _;go_wp2;go_ret;exact⟨false,rfl,⟨λb=>(by cases b),λb=>(by unfold eE at b;omega)⟩,h.o.qT a.2⟩
 skip
 by_cases X:1<c.owner
 ·skip
  refine rg 32 d f λa=>?_
  iterate 32 refine tn 32 a ?_
  refine wpAnyH_done qk ?_ _;go_wp2;go_ret;exact⟨false,rfl,⟨λb=>(by cases b),λb=>(by unfold eE at b;omega)⟩,h.o.qT a.2⟩
 skip
 by_cases Y:c.kind<1
 ·skip
  refine rg 32 d f λa=>?_
  iterate 32 refine tn 32 a ?_
  refine wpAnyH_done qk ?_ _;go_wp2;go_ret;exact⟨false,rfl,⟨λb=>(by cases b),λb=>(by unfold eE at b;omega)⟩,h.o.qT a.2⟩
 skip
 by_cases h4:3<c.kind
 ·skip
  refine rg 32 d f λa=>?_
  iterate 32 refine tn 32 a ?_
  refine wpAnyH_done qk ?_ _;go_wp2;go_ret;exact⟨false,rfl,⟨λb=>(by cases b),λb=>(by unfold eE at b;omega)⟩,h.o.qT a.2⟩
 skip
 cases P
 ·skip
  refine rg 32 d f λa=>?_
  iterate 32 refine tn 32 a ?_
  refine wpAnyH_done qk ?_ _;go_wp2;go_ret;exact⟨false,rfl,⟨λb=>(by cases b),λb=>(by unfold eE at b;rw[z.o]at b;simp at b)⟩,h.o.qT a.2⟩
 skip
 refine rg 32 d f λa=>?_
 iterate 32 refine tn 32 a ?_
 refine wpAnyH_done qk ?_ _;have E:=a.2;clear f a;have f:=d _ E.drew;clear E
 go_wp2_with fail
 by_cases J:1<=c.life
 ·skip
  by_cases L:c.life<=dE c.kind
  ·skip
   by_cases M:c.load<=5
   ·skip
    by_cases u:c.load=0
    ·have R:(c.load==0)=true:=by simpa using u
     have A:Hi (eE i c n):=by show eE i c n;unfold eE;rw[z.o];exact⟨by omega,by omega,by omega,by omega,by omega,rfl,J,L,M,.inl u⟩
     clear u;refine rg 27 d f λa=>?_
     iterate 8 refine tn 27 a ?_
     refine rd 8 fun K hK=>?_;have g:=aA hK;clear hK;go_simp;refine cm (qS c.kind _) ?_;rintro m w ⟨rfl,k⟩;have l:=a.2.qT k;clear a;refine g.o _ _ (d _ l) (fun a=>?_);clear g K;try simp only[Act.put,Z]
     iterate 18 refine tn 27 a ?_
     refine wpAnyH_done qk ?_ _;go_wp2;go_ret;exact⟨true,rfl,⟨λ_=>A.o,λ_=>rfl⟩,h.o.qT a.2⟩
    have R:(c.load==0)=false:=by simpa using u
    by_cases v:c.kind=2
    ·have S:(c.kind==2)=true:=by simpa using v
     have A:Hi (eE i c n):=by show eE i c n;unfold eE;rw[z.o];exact⟨by omega,by omega,by omega,by omega,by omega,rfl,J,L,M,.inr v⟩
     clear v;refine rg 27 d f λa=>?_
     iterate 8 refine tn 27 a ?_
     refine rd 8 fun K hK=>?_;have g:=aA hK;clear hK;go_simp;refine cm (qS c.kind _) ?_;rintro m w ⟨rfl,k⟩;have l:=a.2.qT k;clear a;refine g.o _ _ (d _ l) (fun a=>?_);clear g K;try simp only[Act.put,Z]
     iterate 18 refine tn 27 a ?_
     refine wpAnyH_done qk ?_ _;go_wp2;go_ret;exact⟨true,rfl,⟨λ_=>A.o,λ_=>rfl⟩,h.o.qT a.2⟩
    have S:(c.kind==2)=false:=by simpa using v
    refine rg 27 d f λa=>?_
    iterate 8 refine tn 27 a ?_
    refine rd 8 fun K hK=>?_;have g:=aA hK;clear hK;go_simp;refine cm (qS c.kind _) ?_;rintro m w ⟨rfl,k⟩;have l:=a.2.qT k;clear a;refine g.o _ _ (d _ l) (fun a=>?_);clear g K;try simp only[Act.put,Z]
    iterate 18 refine tn 27 a ?_
    refine wpAnyH_done qk ?_ _;go_wp2;go_ret;exact⟨false,rfl,⟨λb=>(by cases b),λb=>(by unfold eE at b;omega)⟩,h.o.qT a.2⟩
   skip
   refine rg 27 d f λa=>?_
   iterate 8 refine tn 27 a ?_
   refine rd 8 fun K hK=>?_;have g:=aA hK;clear hK;go_simp;refine cm (qS c.kind _) ?_;rintro m w ⟨rfl,k⟩;have l:=a.2.qT k;clear a;refine g.o _ _ (d _ l) (fun a=>?_);clear g K;try simp only[Act.put,Z]
   iterate 18 refine tn 27 a ?_
   refine wpAnyH_done qk ?_ _;go_wp2;go_ret;exact⟨false,rfl,⟨λb=>(by cases b),λb=>(by unfold eE at b;omega)⟩,h.o.qT a.2⟩
  skip
  refine rg 27 d f λa=>?_
  iterate 8 refine tn 27 a ?_
  refine rd 8 fun K hK=>?_;have g:=aA hK;clear hK;go_simp;refine cm (qS c.kind _) ?_;rintro m w ⟨rfl,k⟩;have l:=a.2.qT k;clear a;refine g.o _ _ (d _ l) (fun a=>?_);clear g K;try simp only[Act.put,Z]
  iterate 18 refine tn 27 a ?_
  refine wpAnyH_done qk ?_ _;go_wp2;go_ret;exact⟨false,rfl,⟨λb=>(by cases b),λb=>(by unfold eE at b;omega)⟩,h.o.qT a.2⟩
 skip
 refine rg 27 d f λa=>?_
 iterate 27 refine tn 27 a ?_
 refine wpAnyH_done qk ?_ _;go_wp2;go_ret;exact⟨false,rfl,⟨λb=>(by cases b),λb=>(by unfold eE at b;omega)⟩,h.o.qT a.2⟩
theorem Gd(b j h:Nat)(c:T)(a:U)(f:Int)(d:World)(i:RG d b j h c):Cs 140 #[pt b,a.val,ii f] d λk g=>BP (eE c a f) d k g:=
 MN b c a f d (λ_ e=>(i.qF e).c147) (λg e=>tL b j h c a.x a.y g (i.qF e))
