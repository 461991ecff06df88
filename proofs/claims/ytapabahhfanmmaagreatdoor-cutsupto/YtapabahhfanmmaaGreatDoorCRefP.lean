import Derived.Test.YtapabahhfanmmaaGreatDoorCRefO
namespace Go.Proofs.YtapabahhfanmmaaGreatDoor
open Go.RowKit List Go.Proofs.Tryz
set_option maxHeartbeats 2000000
set_option maxRecDepth 100000
theorem pD(n I C:Nat)(a:List U)(id:Int)(h:World)(i:GV h n I C a):Cs 177 #[pt n,ii id] h (R1 h (ii (fJ (bI a id)))):=by
 have O:=i.len;have E:=i.c;have L:=aI E
 delta Cs;go_in
 go_wp2
 go_loopw [5] (fun l wr=>∃b:Nat,b<=a.length/\l=ii b/\(∀e,e<b->∀(D:e<a.length),(a[e].id==id)=false)/\h=wr) (fun l _=>a.length-(intOf l).toNat)
 ·exact⟨0,Z3 _,rfl,λe D=>by omega,rfl⟩
 obtain⟨b,N,rfl,g,rfl⟩:=hrel;have q:=i;have M:=q.c
 by_cases r:b<a.length
 ·have H:(b:Int)<(a.length:Int):=qo;obtain⟨d,k⟩:∃d,a[b]?=some d:=⟨a[b],Y2 r⟩;obtain⟨J,s,u,v,w,x,y,z,A,B,t⟩:=q.p.at k;have m:=(show Hi (a[b]?=some d)from k);have f:=aA g;clear k g s u v w x y z A B t
  by_cases j:(d.id==id)=true
  ·go_wp2;go_ret;exact⟨by unfold bI;rw[sJ (p:=λd:U=>d.id==id) m.o j f.o];rfl,rfl⟩
  simp only[Bool.not_eq_true]at j;go_wp2;go_roundw
  ·exact⟨b+1,r,by go_num,mQ (p:=fun d:U=>d.id==id) m.o j f.o,p8⟩
  simp[intOf];omega
 have H:¬(b:Int)<(a.length:Int):=qo;have f:=aA g;clear g;go_wp2;go_ret;exact⟨by unfold bI;rw[sI (p:=λd:U=>d.id==id) (λe F=>f.o e qo F)];rfl,rfl⟩
theorem Bd(t:Nat)(s a b r d g h i e f F D E C:Int)(c:World):Cs 178 #[pt t,(⟨d,g,1,h,i,e,f,F,D,E,C⟩:U).val,(⟨s,2,a,b,r⟩:Cm).val] c (R0 c (.tuple #[(⟨d,g,1,h,i,e,f,2,a,b,0⟩:U).val,.bool false])):=by
 delta Cs;go_in
 go_wp2_with (first|(go_at_call 185;refine(fC _ _ _).mono ?_;rintro I M ⟨rfl,rfl⟩))
 refine gR λl B n m z J L=>?_;have k:=λj (o:Fr [c.heap.size+1+1] l j)=>by exact gO (o.heap n qt) (o.heap m qs)
 have q:=k _ (r0 _ l).drew;clear n m;refine wp_region_held_drew (S:=λj:World=>gF c.heap.size d g 1 h i e f 2 a b 0 a b j) qk q (λx=>?_);refine(show wpAnyH prog Region.Mode.any _ _ _ 35 (Array.replicate 35 false) _ _ from ?_)
 iterate 33 refine tn 35 x ?_
 refine rd 33 fun K hK=>?_;go_simp;refine gQ (u:=zeroU) z fun H p w=>?_;have A:=k _ p;refine hK.out _ _ A (fun y=>?_);clear hK K;try simp only[Act.put,Z]
 refine ta 34 y ?_;refine wpAnyH_done qk ?_ _;go_wp2;exact Zq8 (v:=.tuple #[(⟨d,g,1,h,i,e,f,2,a,b,0⟩:U).val,.bool false]) (cD Zz3 _ _ (c.heap.size+1+1) 85 _ (0,0) _ _ rfl rfl w Q3 rfl aS) rfl ⟨rfl,B.trans p qt⟩
theorem Bh(t:Nat)(s a b r d g h i e f F D E C:Int)(c:World):Cs 178 #[pt t,(⟨d,g,3,h,i,e,f,F,D,E,C⟩:U).val,(⟨s,2,a,b,r⟩:Cm).val] c (R0 c (.tuple #[(⟨d,g,3,h,i,e,f,2,a,b,0⟩:U).val,.bool false])):=by
 delta Cs;go_in
 go_wp2_with (first|(go_at_call 185;refine(fC _ _ _).mono ?_;rintro I M ⟨rfl,rfl⟩))
 refine gR λl B n m z J L=>?_;have k:=λj (o:Fr [c.heap.size+1+1] l j)=>by exact gO (o.heap n qt) (o.heap m qs)
 have q:=k _ (r0 _ l).drew;clear n m;refine wp_region_held_drew (S:=λj:World=>gF c.heap.size d g 3 h i e f 2 a b 0 a b j) qk q (λx=>?_);refine(show wpAnyH prog Region.Mode.any _ _ _ 35 (Array.replicate 35 false) _ _ from ?_)
 iterate 33 refine tn 35 x ?_
 refine rd 33 fun K hK=>?_;go_simp;refine gQ (u:=zeroU) z fun H p w=>?_;have A:=k _ p;refine hK.out _ _ A (fun y=>?_);clear hK K;try simp only[Act.put,Z]
 refine ta 34 y ?_;refine wpAnyH_done qk ?_ _;go_wp2;exact Zq8 (v:=.tuple #[(⟨d,g,3,h,i,e,f,2,a,b,0⟩:U).val,.bool false]) (cD Zz3 _ _ (c.heap.size+1+1) 85 _ (0,0) _ _ rfl rfl w Q3 rfl aS) rfl ⟨rfl,B.trans p qt⟩
theorem Be(t:Nat)(s a b r d g h i e f F D E C:Int)(c:World)(J:aE a b=false):Cs 178 #[pt t,(⟨d,g,2,h,i,e,f,F,D,E,C⟩:U).val,(⟨s,2,a,b,r⟩:Cm).val] c (R0 c (.tuple #[(⟨d,g,2,h,i,e,f,2,a,b,0⟩:U).val,.bool false])):=by
 delta Cs;go_in
 go_wp2_with (first|(go_at_call 185;refine(fC _ _ _).mono ?_;rintro I N ⟨rfl,rfl⟩))
 refine gR λl B n m z L M=>?_;have k:=λj (o:Fr [c.heap.size+1+1] l j)=>by exact gO (o.heap n qt) (o.heap m qs)
 have q:=k _ (r0 _ l).drew;clear n m;refine wp_region_held_drew (S:=λj:World=>gF c.heap.size d g 2 h i e f 2 a b 0 a b j) qk q (λx=>?_);refine(show wpAnyH prog Region.Mode.any _ _ _ 35 (Array.replicate 35 false) _ _ from ?_)
 iterate 33 refine tn 35 x ?_
 refine rd 33 fun K hK=>?_;go_simp;refine gQ (u:=zeroU) z fun H p w=>?_;have A:=k _ p;refine hK.out _ _ A (fun y=>?_);clear hK K;try simp only[Act.put,Z]
 refine ta 34 y ?_;refine wpAnyH_done qk ?_ _;go_wp2;exact Zq8 (v:=.tuple #[(⟨d,g,2,h,i,e,f,2,a,b,0⟩:U).val,.bool false]) (cD Zz3 _ _ (c.heap.size+1+1) 85 _ (0,0) _ _ rfl rfl w Q3 rfl aS) rfl ⟨rfl,B.trans p qt⟩
theorem Bg(f I x:Nat)(v:T)(z b c y g j k l h i N L M J:Int)(d:World)(p:RG d f I x v)(H:aE b c=true)(m:Int)(V:v.bd (ci b c)=m)(W:decide (0<m)=false):Cs 178 #[pt f,(⟨g,j,2,k,l,h,i,N,L,M,J⟩:U).val,(⟨z,2,b,c,y⟩:Cm).val] d (R0 d (.tuple #[(⟨g,j,2,k,l,h,i,2,b,c,0⟩:U).val,.bool false])):=by
 delta Cs;go_in
 go_wp2_with (first|(go_at_call 185;refine(fC _ _ _).mono ?_;rintro P w1 ⟨rfl,rfl⟩))
 refine gR λo s r q D R S=>?_;obtain⟨X,Y,p2,p3⟩:=bX.1 H;have F:∀a,Fr [d.heap.size+1+1] o a->a.cell? ⟨f,1+c.toNat*12+b.toNat,none⟩=some (ii m):=λa e=>by have Q:=(p.qF s).fr e (by have:=p.lt;simp;omega) (by have:=p.pl;simp;omega);grind[RG.bd,eN,ci]
 have n:∀a,Fr [d.heap.size+1+1] o a->(λa:World=>ca a f (1+c.toNat*12+b.toNat) (ii m)/\gF d.heap.size g j 2 k l h i 2 b c 0 b c a) a:=λa e=>by exact⟨F a e,gO (e.heap r qt) (e.heap q qs)⟩
 have w:=n _ (r0 _ o).drew;clear r q;refine rg 35 n w λB=>?_
 iterate 33 refine tn 35 B ?_
 refine rd 33 fun K hK=>?_;go_simp;refine gQ (u:=zeroU) D fun O t A=>?_;have E:=n _ t;refine hK.out _ _ E (fun C=>?_);clear hK K;try simp only[Act.put,Z]
 refine ta 34 C ?_;refine wpAnyH_done qk ?_ _;go_wp2;exact Zq8 (v:=.tuple #[(⟨g,j,2,k,l,h,i,2,b,c,0⟩:U).val,.bool false]) (cD Zz3 _ _ (d.heap.size+1+1) 85 _ (0,0) _ _ rfl rfl A Q3 rfl aS) rfl ⟨rfl,s.trans t qt⟩
theorem Bf(g I x:Nat)(v:T)(z b c y h k l m i j N L M J:Int)(d:World)(p:RG d g I x v)(H:aE b c=true)(e:Int)(V:v.bd (ci b c)=e)(W:0<e):Cs 178 #[pt g,(⟨h,k,2,l,m,i,j,N,L,M,J⟩:U).val,(⟨z,2,b,c,y⟩:Cm).val] d (R0 d (.tuple #[(⟨h,k,2,l,m,i,j,2,b,c,0⟩:U).val,.bool (decide (e<10))])):=by
 delta Cs;go_in
 go_wp2_with (first|(go_at_call 185;refine(fC _ _ _).mono ?_;rintro P w1 ⟨rfl,rfl⟩))
 refine gR λo s r q D R S=>?_;obtain⟨X,Y,p2,p3⟩:=bX.1 H;have F:∀a,Fr [d.heap.size+1+1] o a->a.cell? ⟨g,1+c.toNat*12+b.toNat,none⟩=some (ii e):=λa f=>by have Q:=(p.qF s).fr f (by have:=p.lt;simp;omega) (by have:=p.pl;simp;omega);grind[RG.bd,eN,ci]
 have n:∀a,Fr [d.heap.size+1+1] o a->(λa:World=>ca a g (1+c.toNat*12+b.toNat) (ii e)/\gF d.heap.size h k 2 l m i j 2 b c 0 b c a) a:=λa f=>by exact⟨F a f,gO (f.heap r qt) (f.heap q qs)⟩
 have w:=n _ (r0 _ o).drew;clear r q;refine rg 35 n w λB=>?_
 iterate 33 refine tn 35 B ?_
 refine rd 33 fun K hK=>?_;go_simp;refine gQ (u:=zeroU) D fun O t A=>?_;have E:=n _ t;refine hK.out _ _ E (fun C=>?_);clear hK K;try simp only[Act.put,Z]
 refine ta 34 C ?_;refine wpAnyH_done qk ?_ _;go_wp2;exact Zq8 (v:=.tuple #[(⟨h,k,2,l,m,i,j,2,b,c,0⟩:U).val,.bool (decide (e<10))]) (cD Zz3 _ _ (d.heap.size+1+1) 85 _ (0,0) _ _ rfl rfl A Q3 rfl aS) rfl ⟨rfl,s.trans t qt⟩
