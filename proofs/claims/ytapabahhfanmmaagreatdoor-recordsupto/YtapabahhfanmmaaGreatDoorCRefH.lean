import Derived.Test.YtapabahhfanmmaaGreatDoorCRefO
namespace Go.Proofs.YtapabahhfanmmaaGreatDoor
open Go.RowKit List
set_option maxRecDepth 100000
set_option maxHeartbeats 2000000
set_option maxRecDepth 100000
theorem lN (b K q:Nat)(us:List U)(id:Int)(w:World)(r:GV w b K q us) :
  Cs 177 #[.pointer (so b),.int .i64 id] w fun e L=>e=.returned (.int .i64 (gH (bQ us id)))/\w=L:=by
 have v:=r.len
 have H:=r.c
 have hb:=aI H
 go_enter Tryz.func177,Tryz.ntmps177
 go_wp2_with fail
 go_loopw [5] (fun i wr=>∃ k:Nat,k<=us.length/\i=.int .i64 k/\(∀ j,j < k->∀ (h:j < us.length),(us[j].id==id)=false)/\w=wr) (fun i _=>us.length - (intOf i).toNat)
 case atStart=>exact ⟨0,Nat.zero_le _,rfl,fun j h=>by omega,rfl⟩
 obtain ⟨k,N,rfl,a,rfl⟩:=hrel
 have f:=r
 have I:=f.c
 by_cases g:k < us.length
 ·have l:(k:Int) < (us.length:Int):=by omega
  obtain ⟨u,s⟩:∃ u,us[k]?=some u:=⟨us[k],getElem?_eq_getElem g⟩
  obtain ⟨M,x,y,z,A,B,C,D,E,F,n⟩:=f.p.at s
  have t:=(show Hi (us[k]?=some u) from s)
  have m:=aA a
  clear s a x y z A B C D E F n
  by_cases d:(u.id==id)=true
  ·go_wp2_with fail
   go_ret
   exact ⟨by unfold bQ;rw [qY (p:=fun u:U=>u.id==id) t.o d m.o];rfl,rfl⟩
  simp only [Bool.not_eq_true] at d
  go_wp2_with fail
  go_roundw
  case rel=>exact ⟨k+1,g,by go_num,kK (p:=fun u:U=>u.id==id) t.o d m.o,trivial⟩
  case measure=>simp [intOf];omega
 have l:¬ (k:Int) < (us.length:Int):=by omega
 have m:=aA a
 clear a
 go_wp2_with fail
 go_ret
 exact ⟨by unfold bQ;rw [qX (p:=fun u:U=>u.id==id) (fun j J=>m.o j (by omega) J)];rfl,rfl⟩
theorem MV (E:Nat)(D g h C a d j k b c t r s q:Int)(w:World) :
  Cs 178 #[.pointer (so E),(⟨a,d,1,j,k,b,c,t,r,s,q⟩:U).val,(⟨D,2,g,h,C⟩:Cm).val] w fun e f=>e=.returned (.tuple #[(⟨a,d,1,j,k,b,c,2,g,h,0⟩:U).val,.bool false])/\Fr [] w f:=by
 go_enter Tryz.func178,Tryz.ntmps178
 go_wp2_with (first|(go_at_call 185;refine (eF _ _ _).mono ?_;rintro e M ⟨rfl,rfl⟩))
 refine fO fun x p z y H I J=>?_
 have l:∀ f,Fr [w.heap.size+1+1] x f->(fun f:World=>eX w.heap.size a d 1 j k b c 2 g h 0 g h f) f:=fun f A=>by
  exact fM (A.heap z (by simp;omega)) (A.heap y (by simp))
 have B:=l _ (r0 _ x).drew
 clear z y
 refine rg 35 l B fun F=>?_
 iterate 33 (refine tn 35 F ?_;try simp only [Act.put,Z])
 refine rd 33 fun K hK=>?_
 go_simp
 refine fN (u:=zeroU) H fun L i m=>?_
 have o:=l _ i
 refine hK.out _ _ o (fun n=>?_)
 clear hK K;try simp only [Act.put,Z]
 refine ta 34 n ?_;try simp only [Act.put,Z]
 refine wpAnyH_done (by kernel_rfl) ?_ _
 go_wp2_with fail
 exact bodyPost_ret (v:=.tuple #[(⟨a,d,1,j,k,b,c,2,g,h,0⟩:U).val,.bool false]) (cJ Tryz.results178 _ _ (w.heap.size+1+1) 85 _ (0,0) _ _ rfl rfl m Tryz.underlying85 rfl aL) rfl ⟨rfl,p.trans i (by simp;omega)⟩
theorem MZ (E:Nat)(D g h C a d j k b c t r s q:Int)(w:World) :
  Cs 178 #[.pointer (so E),(⟨a,d,3,j,k,b,c,t,r,s,q⟩:U).val,(⟨D,2,g,h,C⟩:Cm).val] w fun e f=>e=.returned (.tuple #[(⟨a,d,3,j,k,b,c,2,g,h,0⟩:U).val,.bool false])/\Fr [] w f:=by
 go_enter Tryz.func178,Tryz.ntmps178
 go_wp2_with (first|(go_at_call 185;refine (eF _ _ _).mono ?_;rintro e M ⟨rfl,rfl⟩))
 refine fO fun x p z y H I J=>?_
 have l:∀ f,Fr [w.heap.size+1+1] x f->(fun f:World=>eX w.heap.size a d 3 j k b c 2 g h 0 g h f) f:=fun f A=>by
  exact fM (A.heap z (by simp;omega)) (A.heap y (by simp))
 have B:=l _ (r0 _ x).drew
 clear z y
 refine rg 35 l B fun F=>?_
 iterate 33 (refine tn 35 F ?_;try simp only [Act.put,Z])
 refine rd 33 fun K hK=>?_
 go_simp
 refine fN (u:=zeroU) H fun L i m=>?_
 have o:=l _ i
 refine hK.out _ _ o (fun n=>?_)
 clear hK K;try simp only [Act.put,Z]
 refine ta 34 n ?_;try simp only [Act.put,Z]
 refine wpAnyH_done (by kernel_rfl) ?_ _
 go_wp2_with fail
 exact bodyPost_ret (v:=.tuple #[(⟨a,d,3,j,k,b,c,2,g,h,0⟩:U).val,.bool false]) (cJ Tryz.results178 _ _ (w.heap.size+1+1) 85 _ (0,0) _ _ rfl rfl m Tryz.underlying85 rfl aL) rfl ⟨rfl,p.trans i (by simp;omega)⟩
theorem MW (E:Nat)(D g h C a d j k b c t r s q:Int)(w:World)(I:aD g h=false) :
  Cs 178 #[.pointer (so E),(⟨a,d,2,j,k,b,c,t,r,s,q⟩:U).val,(⟨D,2,g,h,C⟩:Cm).val] w fun e f=>e=.returned (.tuple #[(⟨a,d,2,j,k,b,c,2,g,h,0⟩:U).val,.bool false])/\Fr [] w f:=by
 go_enter Tryz.func178,Tryz.ntmps178
 go_wp2_with (first|(go_at_call 185;refine (eF _ _ _).mono ?_;rintro e N ⟨rfl,rfl⟩))
 refine fO fun x p z y H J L=>?_
 have l:∀ f,Fr [w.heap.size+1+1] x f->(fun f:World=>eX w.heap.size a d 2 j k b c 2 g h 0 g h f) f:=fun f A=>by
  exact fM (A.heap z (by simp;omega)) (A.heap y (by simp))
 have B:=l _ (r0 _ x).drew
 clear z y
 refine rg 35 l B fun F=>?_
 iterate 33 (refine tn 35 F ?_;try simp only [Act.put,Z])
 refine rd 33 fun K hK=>?_
 go_simp
 refine fN (u:=zeroU) H fun M i m=>?_
 have o:=l _ i
 refine hK.out _ _ o (fun n=>?_)
 clear hK K;try simp only [Act.put,Z]
 refine ta 34 n ?_;try simp only [Act.put,Z]
 refine wpAnyH_done (by kernel_rfl) ?_ _
 go_wp2_with fail
 exact bodyPost_ret (v:=.tuple #[(⟨a,d,2,j,k,b,c,2,g,h,0⟩:U).val,.bool false]) (cJ Tryz.results178 _ _ (w.heap.size+1+1) 85 _ (0,0) _ _ rfl rfl m Tryz.underlying85 rfl aL) rfl ⟨rfl,p.trans i (by simp;omega)⟩
theorem MY (n V s:Nat)(t:T)(L b c J d i o p f g E C D B:Int)(w:World)(h:RG w n V s t)(m:aD b c=true)(v:Int)(R:t.bd (ci b c)=v)(S:decide (0 < v)=false) :
  Cs 178 #[.pointer (so n),(⟨d,i,2,o,p,f,g,E,C,D,B⟩:U).val,(⟨L,2,b,c,J⟩:Cm).val] w fun e a=>e=.returned (.tuple #[(⟨d,i,2,o,p,f,g,2,b,c,0⟩:U).val,.bool false])/\Fr [] w a:=by
 go_enter Tryz.func178,Tryz.ntmps178
 go_wp2_with (first|(go_at_call 185;refine (eF _ _ _).mono ?_;rintro e w1 ⟨rfl,rfl⟩))
 refine fO fun r k H F N P Q=>?_
 obtain ⟨X,Y,p2,p3⟩:=bM.1 m
 have A:∀ a,Fr [w.heap.size+1+1] r a->a.cell? ⟨n,1+c.toNat*12+b.toNat,none⟩=some (ii v):=fun a j=>by
  have O:=(h.fr0 k).fr j (by have:=h.lt;simp;omega) (by have:=h.pl;simp;omega)
  have:=O.bd (eK m)
  rwa [show 1+ci b c=1+c.toNat*12+b.toNat by unfold ci;omega,R] at this
 have q:∀ a,Fr [w.heap.size+1+1] r a->(fun a:World=>ca a n (1+c.toNat*12+b.toNat) (ii v)/\eX w.heap.size d i 2 o p f g 2 b c 0 b c a) a:=fun a j=>by
  exact ⟨A a j,fM (j.heap H (by simp;omega)) (j.heap F (by simp))⟩
 have I:=q _ (r0 _ r).drew
 clear H F
 refine rg 35 q I fun M=>?_
 iterate 33 (refine tn 35 M ?_;try simp only [Act.put,Z])
 refine rd 33 fun K hK=>?_
 go_simp
 refine fN (u:=zeroU) N fun W l x=>?_
 have z:=q _ l
 refine hK.out _ _ z (fun y=>?_)
 clear hK K;try simp only [Act.put,Z]
 refine ta 34 y ?_;try simp only [Act.put,Z]
 refine wpAnyH_done (by kernel_rfl) ?_ _
 go_wp2_with fail
 exact bodyPost_ret (v:=.tuple #[(⟨d,i,2,o,p,f,g,2,b,c,0⟩:U).val,.bool false]) (cJ Tryz.results178 _ _ (w.heap.size+1+1) 85 _ (0,0) _ _ rfl rfl x Tryz.underlying85 rfl aL) rfl ⟨rfl,k.trans l (by simp;omega)⟩
theorem MX (n V s:Nat)(t:T)(L b c J d i o p f g E C D B:Int)(w:World)(h:RG w n V s t)(m:aD b c=true)(v:Int)(R:t.bd (ci b c)=v)(S:0 < v) :
  Cs 178 #[.pointer (so n),(⟨d,i,2,o,p,f,g,E,C,D,B⟩:U).val,(⟨L,2,b,c,J⟩:Cm).val] w fun e a=>e=.returned (.tuple #[(⟨d,i,2,o,p,f,g,2,b,c,0⟩:U).val,.bool (decide (v < 10))])/\Fr [] w a:=by
 go_enter Tryz.func178,Tryz.ntmps178
 go_wp2_with (first|(go_at_call 185;refine (eF _ _ _).mono ?_;rintro e w1 ⟨rfl,rfl⟩))
 refine fO fun r k H F N P Q=>?_
 obtain ⟨X,Y,p2,p3⟩:=bM.1 m
 have A:∀ a,Fr [w.heap.size+1+1] r a->a.cell? ⟨n,1+c.toNat*12+b.toNat,none⟩=some (ii v):=fun a j=>by
  have O:=(h.fr0 k).fr j (by have:=h.lt;simp;omega) (by have:=h.pl;simp;omega)
  have:=O.bd (eK m)
  rwa [show 1+ci b c=1+c.toNat*12+b.toNat by unfold ci;omega,R] at this
 have q:∀ a,Fr [w.heap.size+1+1] r a->(fun a:World=>ca a n (1+c.toNat*12+b.toNat) (ii v)/\eX w.heap.size d i 2 o p f g 2 b c 0 b c a) a:=fun a j=>by
  exact ⟨A a j,fM (j.heap H (by simp;omega)) (j.heap F (by simp))⟩
 have I:=q _ (r0 _ r).drew
 clear H F
 refine rg 35 q I fun M=>?_
 iterate 33 (refine tn 35 M ?_;try simp only [Act.put,Z])
 refine rd 33 fun K hK=>?_
 go_simp
 refine fN (u:=zeroU) N fun W l x=>?_
 have z:=q _ l
 refine hK.out _ _ z (fun y=>?_)
 clear hK K;try simp only [Act.put,Z]
 refine ta 34 y ?_;try simp only [Act.put,Z]
 refine wpAnyH_done (by kernel_rfl) ?_ _
 go_wp2_with fail
 exact bodyPost_ret (v:=.tuple #[(⟨d,i,2,o,p,f,g,2,b,c,0⟩:U).val,.bool (decide (v < 10))]) (cJ Tryz.results178 _ _ (w.heap.size+1+1) 85 _ (0,0) _ _ rfl rfl x Tryz.underlying85 rfl aL) rfl ⟨rfl,k.trans l (by simp;omega)⟩
theorem RG.of {w:World}{k q j:Nat}{t i:T}(h:RG w k q j t)(h1:i.turn=t.turn)(l:i.next=t.next)(m:i.s0=t.s0)(n:i.s1=t.s1)(o:i.bd=t.bd)(p:i.us=t.us):RG w k q j i:=by
 obtain ⟨a,b,c,d,e,f,g⟩:=t
 obtain ⟨r,s,c',u,v,f',x⟩:=i
 dsimp only at h1 l m n o p
 subst h1 l m n o p
 exact ⟨h.cell,h.fz,h.row,h.len,h.ne⟩
theorem RG.relist {w:World}{i o l:Nat}{t:T}(h:RG w i o l t){c a:Nat}{d:List U}(n:PRow w c a d)(hn:i≠c)(hl:d.length<=1000):RG (w.setCell ⟨i,148,none⟩ (.slice (so c) d.length a)) i c a { t with us:=d }:=by
 refine ⟨fun k m=>?_,fun k=>by rw [World.frozen?_setCell];exact h.fz k,n.fr (S:=[i]) ((r0 _ _).setCell _ _ (.inl (by simp))) (by simpa using fun e=>hn e.symm),hl,hn⟩
 by_cases e:k=148
 ·subst e
  rw [dO _ _ _ _ _ h.c148]
  rfl
 rw [cA _ _ _ _ _ _ (.inr (fun x=>e x.symm)),h.cell k m]
 unfold dF
 dsimp only
 by_cases b:k=0
 ·rw [if_pos b,if_pos b]
 by_cases f:k < 145
 ·rw [if_neg b,if_neg b,if_pos f,if_pos f]
 by_cases g:k=145
 ·rw [if_neg b,if_neg b,if_neg f,if_neg f,if_pos g,if_pos g]
 by_cases j:k=146
 ·rw [if_neg b,if_neg b,if_neg f,if_neg f,if_neg g,if_neg g,if_pos j,if_pos j]
 rw [if_neg b,if_neg b,if_neg f,if_neg f,if_neg g,if_neg g,if_neg j,if_neg j,if_pos (by omega),if_pos (by omega)]
structure RStep (w:World) (gb pb:Nat) (R:T) (w':World):Prop where
  h:∃ pb' cap',RG w' gb pb' cap' R/\Fr [gb,pb] w w'/\(pb'=pb\/w.heap.size<=pb')
theorem pU (a b c d:Int):aY a b c d=aY c d a b:=by
 unfold aY
 rw [Bool.eq_iff_iff]
 simp
 omega
theorem RG.went {w:World} {e f a:Nat} {t:T} (b:TOk t) {i:Nat} {u:U} (hi:t.us[i]?=some u) {x y:Int} {onto:Bool} {ends:Cl->Bool} (j:∀ c:Cl,ends c=dV x y onto c) (d:dV x y onto (u.x,u.y)=false) {F:Cl->Nat} (g:FarX (cH t.us t.bd) (dV x y onto) F)
  (h:RG w e f a { t with us:=t.us.set i (u.to (dJ F (aG u.x u.y) (0,(u.x,u.y))).2) }):RG w e f a (cD (t.moved u (cE t u ends)) (u.to (cE t u ends))):=by
 rw [UU b (mem_of_getElem? hi) (fun c _=>j c) d g] at h
 rw [iM (t:=t.moved u (cE t u ends)) (u:=u) (u':=u.to (cE t u ends)) b.rise hi rfl]
 exact h.of rfl rfl rfl rfl rfl rfl
theorem RG.idled {w:World}{c d a:Nat}{t:T}(b:TOk t){i:Nat}{u:U}(hi:t.us[i]?=some u)(h:RG w c d a { t with us:=t.us.set i u.idle }):RG w c d a (cD t u.idle):=by
 rw [iM (u':=u.idle) b.rise hi rfl]
 exact h
theorem CZ {t:T}{u:U}(hw:u.what=3):dN t u=cD (eC t u).2 (eC t u).1:=by unfold dN cK;simp [hw]
theorem IW {t:T}(a:TOk t)(g:bD t.us=false){i j:Nat}{u v:U}(hi:t.us[i]?=some u)(b:t.us[j]?=some v)(c:aY u.x u.y v.x v.y=true):cD (t.harm j) u=t.harm j:=by
 have f:=tG c
 have d:i≠j:=fun e=>by
  subst e
  rw [hi] at b
  cases b
  exact f rfl
 have l:=a.all v (mem_of_getElem? b)
 unfold T.harm
 rw [b]
 dsimp only
 split
 ·have h:=a.gone b g
  obtain ⟨m,hm⟩:=getElem?_of_mem (mem_eraseIdx_iff_getElem?.2 ⟨i,d,hi⟩)
  exact jI h.rise hm
 have k:Rise (t.us.set j { v with life:=v.life - 3 }):=a.rise.set b rfl
 have hm:(t.us.set j { v with life:=v.life - 3 })[i]?=some u:=by rw [getElem?_set_ne (fun e=>d e.symm)];exact hi
 exact jI k hm
def eE (us:List U)(j k:Nat):List U:=us.take (min j k) ++ (us.take k).drop (j+1)
theorem EN (us:List U)(j:Nat):eE us j 0=[]:=by simp [eE]
theorem EK {us:List U}{j:Nat}(a:j < us.length):eE us j us.length=us.eraseIdx j:=by
 unfold eE
 rw [take_length,Nat.min_eq_left (by omega),eraseIdx_eq_take_drop_succ]
theorem EM {us:List U}{j:Nat}:eE us j (j+1)=eE us j j:=by
 unfold eE
 rw [Nat.min_eq_left (by omega),Nat.min_eq_left (by omega),drop_of_length_le (by rw [length_take];omega),drop_of_length_le (by rw [length_take];omega)]
theorem EL {us:List U}{j k:Nat}{u:U}(b:us[k]?=some u)(c:k≠j):eE us j (k+1)=eE us j k ++ [u]:=by
 have hl:=(gs.1 b).1
 have ht:us.take (k+1)=us.take k ++ [u]:=BG b
 have a:(us.take k).length=k:=by rw [length_take];omega
 unfold eE
 by_cases h:k < j
 ·rw [Nat.min_eq_right (by omega),Nat.min_eq_right (by omega),ht,drop_of_length_le (by rw [length_append,a];simp;omega),drop_of_length_le (by rw [a];omega)]
  simp
 rw [Nat.min_eq_left (by omega),Nat.min_eq_left (by omega),ht,drop_append_of_le_length (by rw [a];omega),append_assoc]
theorem NY {w:World}{base n:Nat}{e:TypeId}{size:Nat}{v:Value}{xs:List Value}(h:w.ownsRow base e size v n xs){b:Nat}(hb:v.ownBlock=some b):base<=b:=cG h hb
theorem QF (r f m:Nat)(t:T)(i:Nat)(u:U)(w:World)(h:RG w r f m t)(hi:t.us[i]?=some u)(ah:TOk t)(ax:bD t.us=false)(hw:u.what=3) :
  Cs 182 #[.pointer (so r),.int .i64 i] w fun e O=>e=.returned (.tuple #[])/\RStep w r f (dN t u) O:=by
 rw [CZ hw]
 clear hw
 obtain ⟨R,hR⟩:∃ R:T,R=cD (eC t u).2 (eC t u).1:=⟨_,rfl⟩
 rw [<- hR]
 have HR:=aA hR
 clear hR
 have cj:=h.len
 have cs:=(gs.1 hi).1
 have cg:(i:Int) < (t.us.length:Int):=by omega
 have hu:=ah.all u (mem_of_getElem? hi)
 obtain ⟨p0,p1,p2,p3⟩:=bM.1 hu.on
 have hc:=h.c148
 obtain ⟨c0,c1,c2,c3,c4,c5,c6,c7,c8,c9,co⟩:=h.gv.p.at hi
 obtain ⟨E,P⟩:∃ W,W=w.alloc (.cells u.arr 85):=⟨_,rfl⟩
 have ad:Fr [] w E:=by rw [P];exact (r0 _ _).alloc _
 have s:E.heap[w.heap.size]?=some (.cells u.arr 85):=by rw [P];exact aC _ _
 have ap:=aA P
 have V:=h.fr0 ad
 have H:=aA V
 have J:=aA ah
 have HI:=aA hi
 have HH:=aA h
 clear ah hi h P
 go_enter Tryz.func182,Tryz.ntmps182
 go_wp2_with fail
 rw [<- ap.o]
 clear c0 c1 c2 c3 c4 c5 c6 c7 c8 c9 hc
 have bx:ca E w.heap.size 10 (ii u.target):=aB s
 cases hp:bQ t.us u.target with
 | none =>
  have HA:Hi (eC t u=(u.idle,t)):=by show _=_;unfold eC;rw [hp]
  have hF:=lN r f m t.us u.target E H.o.gv
  rw [hp] at hF
  refine Calls.mono hF ?_
  rintro e w2 ⟨rfl,rfl⟩
  dsimp only [gH]
  clear hF
  go_wp2_with fail
  refine Calls.mono (mV r f m t i u _ H.o HI.o) ?_
  rintro e w3 ⟨rfl,bq,bo⟩
  go_wp2_with fail
  refine bodyPost_ret (v:=.tuple #[]) (results_none rfl _ _ _) rfl ⟨rfl,f,m,by rw [HR.o,HA.o];exact RG.idled J.o HI.o bq,(ad.of0 (S:=[r,f])).trans bo (by simp),.inl rfl⟩
 | some j =>
  obtain ⟨v,hj,-⟩:=iV hp
  have bu:=(gs.1 hj).1
  have ch:(j:Int) < (t.us.length:Int):=by omega
  have ct:¬ (j:Int) < 0:=by omega
  have ba:=J.o.all v (mem_of_getElem? hj)
  obtain ⟨q0,q1,q2,q3⟩:=bM.1 ba.on
  have cw:-1000<=v.life/\v.life<=1000:=by have:=ba.lf;have:=wR v.kind;omega
  have HA:Hi (eC t u=if aY u.x u.y v.x v.y=true then (u,t.harm j) else (u.to (cE t u fun c=>aY v.x v.y c.1 c.2),t.moved u (cE t u fun c=>aY v.x v.y c.1 c.2))):=by show _=_;unfold eC;rw [hp];dsimp only;rw [hj]
  have hF:=lN r f m t.us u.target E H.o.gv
  rw [hp] at hF
  have bn:=H.o.c148
  obtain ⟨d0,d1,d2,d3,d4,d5,d6,d7,d8,d9,bl⟩:=H.o.gv.p.at hj
  obtain ⟨A,L⟩:∃ W,W=E.alloc (.cells v.arr 85):=⟨_,rfl⟩
  have ae:Fr [] w A:=by rw [L];exact ad.alloc _
  have aj:A.heap[w.heap.size]?=some (.cells u.arr 85):=by rw [L,fD _ _ _ (aH s)];exact s
  have N:A.heap[E.heap.size]?=some (.cells v.arr 85):=by rw [L];exact aC _ _
  have bj:=aA L
  have HJ:=aA hj
  have ay:E.heap.size=w.heap.size+1:=by rw [ap.o];simp
  obtain ⟨vb,al⟩:∃ x,x=E.heap.size:=⟨_,rfl⟩
  have bi:=aA al
  have bh:=aA ay
  have ce:ca E w.heap.size 3 (ii u.x):=aB s
  have cf:ca E w.heap.size 4 (ii u.y):=aB s
  have cx:w.heap.size < E.heap.size:=aH s
  clear L hp hj ay
  refine Calls.mono hF ?_
  rintro e w2 ⟨rfl,rfl⟩
  dsimp only [gH]
  clear hF
  go_wp2_with fail
  rw [<- bj.o]
  clear d0 d1 d2 d3 d4 d6 d7 d8 d9 bl bn
  rw [<- al] at N |-
  clear al
  have ux:ca A w.heap.size 3 (ii u.x):=aB aj
  have uy:ca A w.heap.size 4 (ii u.y):=aB aj
  have vx:ca A vb 3 (ii v.x):=aB N
  have vy:ca A vb 4 (ii v.y):=aB N
  have vl:ca A vb 5 (ii v.life):=aB N
  have B:=HH.o.fr0 ae
  have an:=aA B
  clear ce cf
  refine Calls.mono (oU u.x u.y v.x v.y _ (by omega) (by omega) (by omega) (by omega) (by omega) (by omega) (by omega) (by omega)) ?_
  rintro e w3 ⟨rfl,rfl⟩
  cases n:aY u.x u.y v.x v.y
  ·rw [n] at HA
   go_wp2_with fail
   refine Calls.mono (mW r f m t i u v.x v.y false _ an.o HI.o hu.on (by omega) (by omega) (by omega) (by omega)) ?_
   rintro e w4 ⟨rfl,F,hX,C,af⟩
   go_wp2_with fail
   refine bodyPost_ret (v:=.tuple #[]) (results_none rfl _ _ _) rfl ⟨rfl,f,m,?_,(ae.of0 (S:=[r,f])).trans af (by simp),.inl rfl⟩
   rw [HR.o,HA.o,if_neg (by simp)]
   exact RG.went (x:=v.x) (y:=v.y) (onto:=false) J.o HI.o (fun c=>pU _ _ _ _) n hX C
  rw [n] at HA
  have cm:=aA n
  have ac:=B.c148
  have fz:=B.frz (j*11+5)
  obtain ⟨_,_,_,_,_,d5,_,_,_,_,_⟩:=B.gv.p.at HJ.o
  have aw:=B.ne
  have ck:¬ f=r:=fun e=>aw e.symm
  have cu:=HH.o.pl
  have az:¬ vb=f:=by have:=bi.o;have:=bh.o;omega
  clear B ux uy vx vy
  have HS:∀ O,Fr [f] A O->(fun O:World=>ca O r 148 (.slice (so f) t.us.length m)/\cl O vb 5 v.life) O:=fun O hf=>⟨(hf.cell _ _ (aI ac) (by simpa using aw)).trans ac,(hf.cell _ _ (aI vl) (by simpa using az)).trans vl⟩
  have KF:Fr [f] A A.drew:=(r0 _ _).drew
  have K0:=HS _ KF
  go_wp2_with fail
  go_region_held (fun O:World=>ca O r 148 (.slice (so f) t.us.length m)/\ca O vb 5 (ii v.life)) (first|with_reducible exact K0|(refine HS _ (Fr.drew ?_);exact (r0 _ _).setCell _ _ (.inl (by simp)))|(refine HS _ ?_;exact KF.setCell _ _ (.inl (by simp)))) (fail)
  obtain ⟨v',ak⟩:∃ v':U,v'={ v with life:=v.life - 3 }:=⟨_,rfl⟩
  obtain ⟨K,Q⟩:∃ W,W=(A.setCell ⟨f,j*11+5,none⟩ (.int .i64 (v.life - 3))).drew:=⟨_,rfl⟩
  have C:RG K r f m { t with us:=t.us.set j v' }:=by
   have h5:=an.o.setC (u':={ v with life:=v.life - 3 }) (v:=ii (v.life - 3)) HJ.o (j:=5) (by omega) rfl
   rw [Q,ak]
   exact h5.fr0 ((r0 _ _).drew)
  have af:Fr [f] A K:=by rw [Q];exact ((r0 _ _).setCell _ _ (.inl (by simp))).drew
  have HV:=(show Hi _ from ak)
  have bk:=aA Q
  clear Q K0 KF HS vl ac d5 fz ak
  rw [show IntKind.i64.wrap (v.life - 3)=v.life - 3 by rw [IntKind.wrap_i64];omega,<- bk.o]
  have ar:=C.c148
  have e5:(t.us.set j v').length=t.us.length:=length_set
  dsimp only at ar
  rw [e5] at ar
  obtain ⟨_,_,_,_,_,d5,_,_,_,_,_⟩:=C.gv.p.at (aV HJ.o)
  rw [show v'.life=v.life - 3 by rw [HV.o]] at d5
  have be:=(show Hi _ from IW J.o ax HI.o HJ.o n)
  have ao:Hi (R=t.harm j):=by show _=_;rw [HR.o,HA.o];simpa using be.o
  have am:Fr [f] w K:=(ae.of0 (S:=[f])).trans af (by simp)
  have I:=aA C
  clear C aj N s bx
  by_cases hd:v.life - 3<=0
  ·have ab:Hi (t.harm j={ t with us:=t.us.eraseIdx j,held:=fun k=>if k=(v.x,v.y) then none else t.held k }):=by
    show _=_
    unfold T.harm
    rw [HJ.o]
    dsimp only
    rw [if_pos hd]
   obtain ⟨d,q⟩:∃ l,l=t.us.set j v':=⟨_,rfl⟩
   have bc:Hi (d.eraseIdx j=t.us.eraseIdx j):=by show _=_;rw [q,eraseIdx_set_eq]
   have z:Hi (d.length=t.us.length):=by show _=_;rw [q];exact e5
   have cn:Hi (Ppl K f d):=by rw [q];exact I.o.gv.p
   rw [<- q] at I
   have V:=J.o.gone HJ.o ax
   have br:0 < (t.us.eraseIdx j).length:=by
    have h1:=V.bs
    dsimp only at h1
    cases he:t.us.eraseIdx j with
    | nil=>rw [he] at h1;simp at h1
    | cons a b=>simp
   clear q e5 V
   obtain ⟨cc,bt,Zs,bz,cb⟩:=info_parts iT
   go_wp2_with fail
   go_loopw [8,9] (fun l i wr=>∃ k:Nat,k<=t.us.length/\i=.int .i64 k/\wr.ownsRow K.heap.size 85 11 l (eE d j k).length ((eE d j k).flatMap U.cells)/\Fr [] K wr) (fun _ i _=>t.us.length - (intOf i).toNat)
   case atStart=>exact ⟨0,Nat.zero_le _,rfl,by rw [EN];exact ⟨rfl,.inl ⟨rfl,rfl⟩⟩,r0 _ _⟩
   obtain ⟨k,hk,rfl,hown,M⟩:=hrel
   have D:=I.o.fr0 M
   have Zq:=D.c148
   dsimp only at Zq
   rw [z.o] at Zq
   by_cases X:k < t.us.length
   ·have av:(k:Int) < (t.us.length:Int):=by omega
    by_cases Zr:k=j
    ·have au:((k:Int) != (j:Int))=false:=by simp;omega
     have aa:Hi (eE d j (k+1)=eE d j k):=by show _=_;rw [Zr];exact EM
     go_wp2_with fail
     go_roundw
     case rel=>exact ⟨k+1,X,by go_num,by rw [aa.o];exact hown,M⟩
     case measure=>simp [intOf];omega
    have au:((k:Int) != (j:Int))=true:=by simp;omega
    obtain ⟨x,hx⟩:∃ x,d[k]?=some x:=⟨d[k]'(by rw [z.o];exact X),getElem?_eq_getElem (by rw [z.o];exact X)⟩
    have aa:Hi (eE d j (k+1)=eE d j k ++ [x]):=EL hx Zr
    have cp:(eE d j k).length<=1000:=by
     unfold eE
     rw [length_append,length_take,length_drop,length_take,z.o]
     omega
    obtain ⟨x0,x1,x2,x3,x4,x5,x6,x7,x8,x9,cz⟩:=(D.gv.p).at hx
    have HN:Hi (∀ (W:World) (j:Nat) (y:Value),x.cells[j]?=some y->(W.alloc (.cells x.arr 85)).cell? ((⟨W.heap.size,0,none⟩:Addr).add j)=some y):=by
     intro W j y hy
     rw [Addr.add_lit,Nat.zero_add,aB (aC W _)]
     simpa using hy
    have bb:Hi (∀ b,u8.ownBlock=some b->K.heap.size<=b):=fun b hb=>NY hown hb
    have bf:Hi ((wr.alloc (.cells x.arr 85)).ownsRow K.heap.size 85 11 u8 (eE d j k).length ((eE d j k).flatMap U.cells)):=aF hown ((r0 [] wr).alloc _) (by simp)
    have cy:=M.size
    clear hown D hx
    go_wp2_with (at_builtin;refine wpList_append_own _ rfl _ _ 82 rfl K.heap.size 85 cc zeroU.val 11 88 Tryz.underlying82 bt Zs bz cb rfl (by decide) u8 (eE d j k).length ((eE d j k).flatMap U.cells) rfl bf.o ⟨wr.heap.size,0,none⟩ 1 1 x.cells rfl rfl (HN.o wr) (by simp [Value.oneCell']) (by unfold maxLen;omega) (by omega) (by simp;omega) ?_;intro y' w5 ai ag bw)
    have bp:Fr [] K w5:=(M.alloc _).grow ag (fun g hg=>.inr (bb.o g hg))
    go_roundw
    case rel =>
     refine ⟨k+1,X,by go_num,?_,bp⟩
     rw [aa.o,length_append,flatMap_append]
     simpa using ai
    case measure=>simp [intOf];omega
   have av:¬ (k:Int) < (t.us.length:Int):=by omega
   have bv:k=d.length:=by rw [z.o];omega
   rw [bv,EK (by rw [z.o];exact bu),bc.o] at hown
   obtain ⟨cd,aq,rfl,bm,Y⟩:=PRow.of_owns hown rfl br
   have cq:=D.fz 148
   have cr:r < K.heap.size:=I.o.lt
   have bd:=aA D
   have bg:=aA Y
   clear D hown Y
   go_wp2_with fail
   refine bodyPost_end (v:=.tuple #[]) (results_none rfl _ _ _) rfl ⟨rfl,cd,aq,?_,?_,.inr (Nat.le_trans am.size bm)⟩
   ·rw [ao.o,ab.o]
    exact (bd.o.relist bg.o (by omega) (by have:=length_eraseIdx_le t.us j;omega)).of rfl rfl rfl rfl rfl rfl
   exact ((am.mono (S':=[r,f]) (by simp)).then0 M).setCell _ _ (.inl (by simp))
  have ab:Hi (t.harm j={ t with us:=t.us.set j { v with life:=v.life - 3 } }):=by
   show _=_
   unfold T.harm
   rw [HJ.o]
   dsimp only
   rw [if_neg hd]
  go_wp2_with fail
  refine bodyPost_end (v:=.tuple #[]) (results_none rfl _ _ _) rfl ⟨rfl,f,m,?_,am.mono (by simp),.inl rfl⟩
  rw [ao.o,ab.o,<- HV.o]
  exact I.o
