import Derived.Test.YtapabahhfanmmaaGreatDoorCRefG
namespace Go.Proofs.YtapabahhfanmmaaGreatDoor
open Go.RowKit List
set_option maxHeartbeats 2000000
set_option maxRecDepth 100000
theorem nR (w:World):w.drew.heap=w.heap:=rfl
abbrev eX (z:Nat)(c d e f g h i j k l b x y:Int)(a:World):Prop:=a.cell? ⟨z,0,none⟩=some (ii c)/\a.cell? ⟨z,1,none⟩=some (ii d)/\a.cell? ⟨z,2,none⟩=some (ii e)/\a.cell? ⟨z,3,none⟩=some (ii f)/\a.cell? ⟨z,4,none⟩=some (ii g)/\a.cell? ⟨z,5,none⟩=some (ii h)/\a.cell? ⟨z,6,none⟩=some (ii i)/\a.cell? ⟨z,7,none⟩=some (ii j)/\a.cell? ⟨z,8,none⟩=some (ii k)/\a.cell? ⟨z,9,none⟩=some (ii l)/\a.cell? ⟨z,10,none⟩=some (ii b)/\a.cell? ⟨z+1,2,none⟩=some (ii x)/\a.cell? ⟨z+1,3,none⟩=some (ii y)
theorem fM {z:Nat}{d e f g h i j k l m b o p x y q:Int}{s t:TypeId}{c:World}(a:c.heap[z]?=some (.cells #[ii d,ii e,ii f,ii g,ii h,ii i,ii j,ii k,ii l,ii m,ii b] s))(n:c.heap[z+1]?=some (.cells #[ii o,ii p,ii x,ii y,ii q] t)):eX z d e f g h i j k l m b x y c :=
  ⟨aB a,aB a,aB a,aB a,aB a,aB a,aB a,aB a,aB a,aB a,aB a,aB n,aB n⟩
theorem fO {M:World->Prop}{w:World}{a b:Obj}{c:Array Value}{d:TypeId}(h:∀ W,Fr [] w W->W.heap[w.heap.size]?=some a->W.heap[w.heap.size+1]?=some b->W.heap[w.heap.size+1+1]?=some (.cells c d)->(∀ j,W.cell? ⟨w.heap.size+1+1,j,none⟩=c[j]?)->(∀ j,W.frozen? ⟨w.heap.size+1+1,j,none⟩=false)->M W):M (((w.alloc a).alloc b).alloc (.cells c d)):=by
 have e:(((w.alloc a).alloc b).alloc (.cells c d)).heap[w.heap.size+1+1]?=some (.cells c d):=iI _ _ _ _
 exact h _ ((((r0 _ _).alloc _).alloc _).alloc _) (by rw [fD _ _ _ (by simp;omega),dD]) (by rw [fD _ _ _ (by simp),cR]) e (fun j=>aB e) (fun j=>bI e)
theorem fN {M:World->Prop}{W:World}{z:Nat}{u:U}{b c d e f g i j k l a:Int}{ty:TypeId}(n:W.heap[z]?=some (.cells u.arr ty))(h:∀ m,Fr [z] W m->m.heap[z]?=some (.cells (⟨b,c,d,e,f,g,i,j,k,l,a⟩:U).arr ty)->M m) :
  M (((((((((((W.setCell ⟨z,0,none⟩ (.int .i64 b)).setCell ⟨z,1,none⟩ (.int .i64 c)).setCell ⟨z,2,none⟩ (.int .i64 d)).setCell ⟨z,3,none⟩ (.int .i64 e)).setCell ⟨z,4,none⟩ (.int .i64 f)).setCell ⟨z,5,none⟩ (.int .i64 g)).setCell ⟨z,6,none⟩ (.int .i64 i)).setCell ⟨z,7,none⟩ (.int .i64 j)).setCell ⟨z,8,none⟩ (.int .i64 k)).setCell ⟨z,9,none⟩ (.int .i64 l)).setCell ⟨z,10,none⟩ (.int .i64 a)).drew :=
 h _ (((r0 _ _).set11 z ⟨b,c,d,e,f,g,i,j,k,l,a⟩ (.inl (by simp))).drew) (by rw [nR];exact set11 (z:=u) (v:=⟨b,c,d,e,f,g,i,j,k,l,a⟩) n)
def lO (u:U)(c:Cm):U:={ u with what:=c.what,tox:=if c.what=1\/c.what=2\/c.what=4 then c.x else 0,toy:=if c.what=1\/c.what=2 then c.y else 0,target:=if c.what=3 then c.target else 0 }
theorem xV (E:Nat)(D g h C a d j k b c t r s q:Int)(w:World) :
  Cs 178 #[.pointer (so E),(⟨a,d,1,j,k,b,c,t,r,s,q⟩:U).val,(⟨D,1,g,h,C⟩:Cm).val] w fun e f=>e=.returned (.tuple #[(⟨a,d,1,j,k,b,c,1,g,h,0⟩:U).val,.bool false])/\Fr [] w f:=by
 go_enter Tryz.func178,Tryz.ntmps178
 go_wp2_with (first|(go_at_call 185;refine (eF _ _ _).mono ?_;rintro e M ⟨rfl,rfl⟩))
 refine fO fun x p z y H I J=>?_
 have l:∀ f,Fr [w.heap.size+1+1] x f->(fun f:World=>eX w.heap.size a d 1 j k b c 1 g h 0 g h f) f:=fun f A=>by
  exact fM (A.heap z (by simp;omega)) (A.heap y (by simp))
 have B:=l _ (r0 _ x).drew
 clear z y
 refine rg 22 l B fun F=>?_
 iterate 20 (refine tn 22 F ?_;try simp only [Act.put,Z])
 refine rd 20 fun K hK=>?_
 go_simp
 refine fN (u:=zeroU) H fun L i m=>?_
 have o:=l _ i
 refine hK.out _ _ o (fun n=>?_)
 clear hK K;try simp only [Act.put,Z]
 refine ta 21 n ?_;try simp only [Act.put,Z]
 refine wpAnyH_done (by kernel_rfl) ?_ _
 go_wp2_with fail
 exact bodyPost_ret (v:=.tuple #[(⟨a,d,1,j,k,b,c,1,g,h,0⟩:U).val,.bool false]) (cJ Tryz.results178 _ _ (w.heap.size+1+1) 85 _ (0,0) _ _ rfl rfl m Tryz.underlying85 rfl aL) rfl ⟨rfl,p.trans i (by simp;omega)⟩
theorem MR (E:Nat)(D g h C a d j k b c t r s q:Int)(w:World)(I:aD g h=false) :
  Cs 178 #[.pointer (so E),(⟨a,d,2,j,k,b,c,t,r,s,q⟩:U).val,(⟨D,1,g,h,C⟩:Cm).val] w fun e f=>e=.returned (.tuple #[(⟨a,d,2,j,k,b,c,1,g,h,0⟩:U).val,.bool false])/\Fr [] w f:=by
 go_enter Tryz.func178,Tryz.ntmps178
 go_wp2_with (first|(go_at_call 185;refine (eF _ _ _).mono ?_;rintro e N ⟨rfl,rfl⟩))
 refine fO fun x p z y H J L=>?_
 have l:∀ f,Fr [w.heap.size+1+1] x f->(fun f:World=>eX w.heap.size a d 2 j k b c 1 g h 0 g h f) f:=fun f A=>by
  exact fM (A.heap z (by simp;omega)) (A.heap y (by simp))
 have B:=l _ (r0 _ x).drew
 clear z y
 refine rg 22 l B fun F=>?_
 iterate 20 (refine tn 22 F ?_;try simp only [Act.put,Z])
 refine rd 20 fun K hK=>?_
 go_simp
 refine fN (u:=zeroU) H fun M i m=>?_
 have o:=l _ i
 refine hK.out _ _ o (fun n=>?_)
 clear hK K;try simp only [Act.put,Z]
 refine ta 21 n ?_;try simp only [Act.put,Z]
 refine wpAnyH_done (by kernel_rfl) ?_ _
 go_wp2_with fail
 exact bodyPost_ret (v:=.tuple #[(⟨a,d,2,j,k,b,c,1,g,h,0⟩:U).val,.bool false]) (cJ Tryz.results178 _ _ (w.heap.size+1+1) 85 _ (0,0) _ _ rfl rfl m Tryz.underlying85 rfl aL) rfl ⟨rfl,p.trans i (by simp;omega)⟩
theorem MS (n S s:Nat)(t:T)(L b c J d i o p f g E C D B:Int)(w:World)(h:RG w n S s t)(m:aD b c=true)(v:Int)(R:t.bd (ci b c)=v) :
  Cs 178 #[.pointer (so n),(⟨d,i,2,o,p,f,g,E,C,D,B⟩:U).val,(⟨L,1,b,c,J⟩:Cm).val] w fun e a=>e=.returned (.tuple #[(⟨d,i,2,o,p,f,g,1,b,c,0⟩:U).val,.bool (v != 10)])/\Fr [] w a:=by
 go_enter Tryz.func178,Tryz.ntmps178
 go_wp2_with (first|(go_at_call 185;refine (eF _ _ _).mono ?_;rintro e w1 ⟨rfl,rfl⟩))
 refine fO fun r k H F N P Q=>?_
 obtain ⟨W,X,Y,p3⟩:=bM.1 m
 have A:∀ a,Fr [w.heap.size+1+1] r a->a.cell? ⟨n,1+c.toNat*12+b.toNat,none⟩=some (ii v):=fun a j=>by
  have O:=(h.fr0 k).fr j (by have:=h.lt;simp;omega) (by have:=h.pl;simp;omega)
  have:=O.bd (eK m)
  rwa [show 1+ci b c=1+c.toNat*12+b.toNat by unfold ci;omega,R] at this
 have q:∀ a,Fr [w.heap.size+1+1] r a->(fun a:World=>ca a n (1+c.toNat*12+b.toNat) (ii v)/\eX w.heap.size d i 2 o p f g 1 b c 0 b c a) a:=fun a j=>by
  exact ⟨A a j,fM (j.heap H (by simp;omega)) (j.heap F (by simp))⟩
 have I:=q _ (r0 _ r).drew
 clear H F
 refine rg 22 q I fun M=>?_
 iterate 20 (refine tn 22 M ?_;try simp only [Act.put,Z])
 refine rd 20 fun K hK=>?_
 go_simp
 refine fN (u:=zeroU) N fun V l x=>?_
 have z:=q _ l
 refine hK.out _ _ z (fun y=>?_)
 clear hK K;try simp only [Act.put,Z]
 refine ta 21 y ?_;try simp only [Act.put,Z]
 refine wpAnyH_done (by kernel_rfl) ?_ _
 go_wp2_with fail
 exact bodyPost_ret (v:=.tuple #[(⟨d,i,2,o,p,f,g,1,b,c,0⟩:U).val,.bool (v != 10)]) (cJ Tryz.results178 _ _ (w.heap.size+1+1) 85 _ (0,0) _ _ rfl rfl x Tryz.underlying85 rfl aL) rfl ⟨rfl,k.trans l (by simp;omega)⟩
theorem MT (E:Nat)(D g h C a d j k b c t r s q:Int)(w:World)(I:aD g h=false) :
  Cs 178 #[.pointer (so E),(⟨a,d,3,j,k,b,c,t,r,s,q⟩:U).val,(⟨D,1,g,h,C⟩:Cm).val] w fun e f=>e=.returned (.tuple #[(⟨a,d,3,j,k,b,c,1,g,h,0⟩:U).val,.bool false])/\Fr [] w f:=by
 go_enter Tryz.func178,Tryz.ntmps178
 go_wp2_with (first|(go_at_call 185;refine (eF _ _ _).mono ?_;rintro e N ⟨rfl,rfl⟩))
 refine fO fun x p z y H J L=>?_
 have l:∀ f,Fr [w.heap.size+1+1] x f->(fun f:World=>eX w.heap.size a d 3 j k b c 1 g h 0 g h f) f:=fun f A=>by
  exact fM (A.heap z (by simp;omega)) (A.heap y (by simp))
 have B:=l _ (r0 _ x).drew
 clear z y
 refine rg 22 l B fun F=>?_
 iterate 20 (refine tn 22 F ?_;try simp only [Act.put,Z])
 refine rd 20 fun K hK=>?_
 go_simp
 refine fN (u:=zeroU) H fun M i m=>?_
 have o:=l _ i
 refine hK.out _ _ o (fun n=>?_)
 clear hK K;try simp only [Act.put,Z]
 refine ta 21 n ?_;try simp only [Act.put,Z]
 refine wpAnyH_done (by kernel_rfl) ?_ _
 go_wp2_with fail
 exact bodyPost_ret (v:=.tuple #[(⟨a,d,3,j,k,b,c,1,g,h,0⟩:U).val,.bool false]) (cJ Tryz.results178 _ _ (w.heap.size+1+1) 85 _ (0,0) _ _ rfl rfl m Tryz.underlying85 rfl aL) rfl ⟨rfl,p.trans i (by simp;omega)⟩
theorem MU (n S s:Nat)(t:T)(L b c J d i o p f g E C D B:Int)(w:World)(h:RG w n S s t)(m:aD b c=true)(v:Int)(R:t.bd (ci b c)=v) :
  Cs 178 #[.pointer (so n),(⟨d,i,3,o,p,f,g,E,C,D,B⟩:U).val,(⟨L,1,b,c,J⟩:Cm).val] w fun e a=>e=.returned (.tuple #[(⟨d,i,3,o,p,f,g,1,b,c,0⟩:U).val,.bool (v != 10)])/\Fr [] w a:=by
 go_enter Tryz.func178,Tryz.ntmps178
 go_wp2_with (first|(go_at_call 185;refine (eF _ _ _).mono ?_;rintro e w1 ⟨rfl,rfl⟩))
 refine fO fun r k H F N P Q=>?_
 obtain ⟨W,X,Y,p3⟩:=bM.1 m
 have A:∀ a,Fr [w.heap.size+1+1] r a->a.cell? ⟨n,1+c.toNat*12+b.toNat,none⟩=some (ii v):=fun a j=>by
  have O:=(h.fr0 k).fr j (by have:=h.lt;simp;omega) (by have:=h.pl;simp;omega)
  have:=O.bd (eK m)
  rwa [show 1+ci b c=1+c.toNat*12+b.toNat by unfold ci;omega,R] at this
 have q:∀ a,Fr [w.heap.size+1+1] r a->(fun a:World=>ca a n (1+c.toNat*12+b.toNat) (ii v)/\eX w.heap.size d i 3 o p f g 1 b c 0 b c a) a:=fun a j=>by
  exact ⟨A a j,fM (j.heap H (by simp;omega)) (j.heap F (by simp))⟩
 have I:=q _ (r0 _ r).drew
 clear H F
 refine rg 22 q I fun M=>?_
 iterate 20 (refine tn 22 M ?_;try simp only [Act.put,Z])
 refine rd 20 fun K hK=>?_
 go_simp
 refine fN (u:=zeroU) N fun V l x=>?_
 have z:=q _ l
 refine hK.out _ _ z (fun y=>?_)
 clear hK K;try simp only [Act.put,Z]
 refine ta 21 y ?_;try simp only [Act.put,Z]
 refine wpAnyH_done (by kernel_rfl) ?_ _
 go_wp2_with fail
 exact bodyPost_ret (v:=.tuple #[(⟨d,i,3,o,p,f,g,1,b,c,0⟩:U).val,.bool (v != 10)]) (cJ Tryz.results178 _ _ (w.heap.size+1+1) 85 _ (0,0) _ _ rfl rfl x Tryz.underlying85 rfl aL) rfl ⟨rfl,k.trans l (by simp;omega)⟩
theorem NI (E:Nat)(D g x C a d i j b c s q r p:Int)(w:World) :
  Cs 178 #[.pointer (so E),(⟨a,d,2,i,j,b,c,s,q,r,p⟩:U).val,(⟨D,4,g,x,C⟩:Cm).val] w fun e f=>e=.returned (.tuple #[(⟨a,d,2,i,j,b,c,4,g,0,0⟩:U).val,.bool false])/\Fr [] w f:=by
 go_enter Tryz.func178,Tryz.ntmps178
 go_wp2_with (first|(go_at_call 185;refine (eF _ _ _).mono ?_;rintro e M ⟨rfl,rfl⟩))
 refine fO fun t o z y H I J=>?_
 have k:∀ f,Fr [w.heap.size+1+1] t f->(fun f:World=>eX w.heap.size a d 2 i j b c 4 g 0 0 g x f) f:=fun f A=>by
  exact fM (A.heap z (by simp;omega)) (A.heap y (by simp))
 have B:=k _ (r0 _ t).drew
 clear z y
 refine rg 16 k B fun F=>?_
 iterate 14 (refine tn 16 F ?_;try simp only [Act.put,Z])
 refine rd 14 fun K hK=>?_
 go_simp
 refine fN (u:=zeroU) H fun L h l=>?_
 have n:=k _ h
 refine hK.out _ _ n (fun m=>?_)
 clear hK K;try simp only [Act.put,Z]
 refine ta 15 m ?_;try simp only [Act.put,Z]
 refine wpAnyH_done (by kernel_rfl) ?_ _
 go_wp2_with fail
 exact bodyPost_ret (v:=.tuple #[(⟨a,d,2,i,j,b,c,4,g,0,0⟩:U).val,.bool false]) (cJ Tryz.results178 _ _ (w.heap.size+1+1) 85 _ (0,0) _ _ rfl rfl l Tryz.underlying85 rfl aL) rfl ⟨rfl,o.trans h (by simp;omega)⟩
theorem NJ (E:Nat)(D g x C a d i j b c s q r p:Int)(w:World) :
  Cs 178 #[.pointer (so E),(⟨a,d,3,i,j,b,c,s,q,r,p⟩:U).val,(⟨D,4,g,x,C⟩:Cm).val] w fun e f=>e=.returned (.tuple #[(⟨a,d,3,i,j,b,c,4,g,0,0⟩:U).val,.bool false])/\Fr [] w f:=by
 go_enter Tryz.func178,Tryz.ntmps178
 go_wp2_with (first|(go_at_call 185;refine (eF _ _ _).mono ?_;rintro e M ⟨rfl,rfl⟩))
 refine fO fun t o z y H I J=>?_
 have k:∀ f,Fr [w.heap.size+1+1] t f->(fun f:World=>eX w.heap.size a d 3 i j b c 4 g 0 0 g x f) f:=fun f A=>by
  exact fM (A.heap z (by simp;omega)) (A.heap y (by simp))
 have B:=k _ (r0 _ t).drew
 clear z y
 refine rg 16 k B fun F=>?_
 iterate 14 (refine tn 16 F ?_;try simp only [Act.put,Z])
 refine rd 14 fun K hK=>?_
 go_simp
 refine fN (u:=zeroU) H fun L h l=>?_
 have n:=k _ h
 refine hK.out _ _ n (fun m=>?_)
 clear hK K;try simp only [Act.put,Z]
 refine ta 15 m ?_;try simp only [Act.put,Z]
 refine wpAnyH_done (by kernel_rfl) ?_ _
 go_wp2_with fail
 exact bodyPost_ret (v:=.tuple #[(⟨a,d,3,i,j,b,c,4,g,0,0⟩:U).val,.bool false]) (cJ Tryz.results178 _ _ (w.heap.size+1+1) 85 _ (0,0) _ _ rfl rfl l Tryz.underlying85 rfl aL) rfl ⟨rfl,o.trans h (by simp;omega)⟩
theorem NH (D:Nat)(C t B a d h i b c r p q o:Int)(w:World) :
  Cs 178 #[.pointer (so D),(⟨a,d,1,h,i,b,c,r,p,q,o⟩:U).val,(⟨C,4,2,t,B⟩:Cm).val] w fun e f=>e=.returned (.tuple #[(⟨a,d,1,h,i,b,c,4,2,0,0⟩:U).val,.bool true])/\Fr [] w f:=by
 go_enter Tryz.func178,Tryz.ntmps178
 go_wp2_with (first|(go_at_call 185;refine (eF _ _ _).mono ?_;rintro e L ⟨rfl,rfl⟩))
 refine fO fun s n y x F H I=>?_
 have j:∀ f,Fr [w.heap.size+1+1] s f->(fun f:World=>eX w.heap.size a d 1 h i b c 4 2 0 0 2 t f) f:=fun f z=>by
  exact fM (z.heap y (by simp;omega)) (z.heap x (by simp))
 have A:=j _ (r0 _ s).drew
 clear y x
 refine rg 16 j A fun E=>?_
 iterate 14 (refine tn 16 E ?_;try simp only [Act.put,Z])
 refine rd 14 fun K hK=>?_
 go_simp
 refine fN (u:=zeroU) F fun J g k=>?_
 have m:=j _ g
 refine hK.out _ _ m (fun l=>?_)
 clear hK K;try simp only [Act.put,Z]
 refine ta 15 l ?_;try simp only [Act.put,Z]
 refine wpAnyH_done (by kernel_rfl) ?_ _
 go_wp2_with fail
 exact bodyPost_ret (v:=.tuple #[(⟨a,d,1,h,i,b,c,4,2,0,0⟩:U).val,.bool true]) (cJ Tryz.results178 _ _ (w.heap.size+1+1) 85 _ (0,0) _ _ rfl rfl k Tryz.underlying85 rfl aL) rfl ⟨rfl,n.trans g (by simp;omega)⟩
theorem NG (E:Nat)(D f x C a d i j b c s q r p:Int)(w:World)(M:(f==2)=false) :
  Cs 178 #[.pointer (so E),(⟨a,d,1,i,j,b,c,s,q,r,p⟩:U).val,(⟨D,4,f,x,C⟩:Cm).val] w fun e g=>e=.returned (.tuple #[(⟨a,d,1,i,j,b,c,4,f,0,0⟩:U).val,.bool (f==3)])/\Fr [] w g:=by
 go_enter Tryz.func178,Tryz.ntmps178
 go_wp2_with (first|(go_at_call 185;refine (eF _ _ _).mono ?_;rintro e N ⟨rfl,rfl⟩))
 refine fO fun t o z y H I J=>?_
 have k:∀ g,Fr [w.heap.size+1+1] t g->(fun g:World=>eX w.heap.size a d 1 i j b c 4 f 0 0 f x g) g:=fun g A=>by
  exact fM (A.heap z (by simp;omega)) (A.heap y (by simp))
 have B:=k _ (r0 _ t).drew
 clear z y
 refine rg 16 k B fun F=>?_
 iterate 14 (refine tn 16 F ?_;try simp only [Act.put,Z])
 refine rd 14 fun K hK=>?_
 go_simp
 refine fN (u:=zeroU) H fun L h l=>?_
 have n:=k _ h
 refine hK.out _ _ n (fun m=>?_)
 clear hK K;try simp only [Act.put,Z]
 refine ta 15 m ?_;try simp only [Act.put,Z]
 refine wpAnyH_done (by kernel_rfl) ?_ _
 go_wp2_with fail
 exact bodyPost_ret (v:=.tuple #[(⟨a,d,1,i,j,b,c,4,f,0,0⟩:U).val,.bool (f==3)]) (cJ Tryz.results178 _ _ (w.heap.size+1+1) 85 _ (0,0) _ _ rfl rfl l Tryz.underlying85 rfl aL) rfl ⟨rfl,o.trans h (by simp;omega)⟩
