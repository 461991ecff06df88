import Derived.Test.YtapabahhfanmmaaGreatDoorCSkill
namespace Go.Proofs.YtapabahhfanmmaaGreatDoor
open Go.RowKit List
set_option maxRecDepth 100000
set_option maxHeartbeats 400000
def Ppl (w:World)(b:Nat)(us:List U):Prop:=∀ (i:Nat) (h:i < us.length),w.rangeAt b (i*11) us[i].cells
theorem Ppl.fr {S:List Nat}{w a:World}{b:Nat}{us:List U}(h:Ppl w b us)(c:Fr S w a)(hn:b∉S):Ppl a b us:=fun i hi j v d=>by
 have h1:=h i hi j v d
 rw [c.cell b _ (aI h1) hn];exact h1
theorem Ppl.at {w:World}{b k:Nat}{us:List U}{u:U}(h:Ppl w b us)(a:us[k]?=some u) :
  w.cell? ⟨b,k*11,none⟩=some (ii u.id)/\w.cell? ⟨b,k*11+1,none⟩=some (ii u.owner)/\w.cell? ⟨b,k*11+2,none⟩=some (ii u.kind)/\w.cell? ⟨b,k*11+3,none⟩=some (ii u.x) /\
  w.cell? ⟨b,k*11+4,none⟩=some (ii u.y)/\w.cell? ⟨b,k*11+5,none⟩=some (ii u.life)/\w.cell? ⟨b,k*11+6,none⟩=some (ii u.load)/\w.cell? ⟨b,k*11+7,none⟩=some (ii u.what) /\
  w.cell? ⟨b,k*11+8,none⟩=some (ii u.tox)/\w.cell? ⟨b,k*11+9,none⟩=some (ii u.toy)/\w.cell? ⟨b,k*11+10,none⟩=some (ii u.target):=by
 obtain ⟨hl,rfl⟩:=gs.1 a
 have:=h k hl
 exact ⟨this 0 _ rfl,this 1 _ rfl,this 2 _ rfl,this 3 _ rfl,this 4 _ rfl,this 5 _ rfl,this 6 _ rfl,this 7 _ rfl,this 8 _ rfl,this 9 _ rfl,this 10 _ rfl⟩
def aT (o:Int)(u:U):Bool:=u.kind==1&&u.owner==o
def bT (us:List U)(o:Int):Option U:=us.find? (aT o)
abbrev zeroU:U:=⟨0,0,0,0,0,0,0,0,0,0,0⟩
theorem aL:(Tryz.prog.info? 85).map (·.size)=some 11:=by kernel_rfl
theorem DN (b B z:Nat)(us:List U)(o:Int)(w:World)(R:w.cell? ⟨b,148,none⟩=some (.slice (so B) us.length z))(D:Ppl w B us)(s:us.length<=maxLen)(hb:b < w.heap.size) :
  Cs 92 #[.pointer (so b),.int .i64 o] w fun e E=>e=.returned (.tuple #[((bT us o).getD zeroU).val,.bool (bT us o).isSome])/\Fr [] w E:=by
 unfold maxLen at s
 go_enter Tryz.func92,Tryz.ntmps92
 go_wp2
 go_loopw [13] (fun i wr=>∃ k:Nat,k<=us.length/\i=.int .i64 k/\(∀ j (h:j < k) (Q:j < us.length),aT o us[j]=false)/\Fr [] (w.alloc (.cells #[ii 0,ii 0,ii 0,ii 0,ii 0,ii 0,ii 0,ii 0,ii 0,ii 0,ii 0] 85)) wr) (fun i _=>us.length - (intOf i).toNat)
 case atStart=>exact ⟨0,Nat.zero_le _,rfl,fun j h=>by omega,r0 _ _⟩
 obtain ⟨k,S,rfl,c,d⟩:=hrel
 by_cases a:k < us.length
 ·obtain ⟨u,A⟩:∃ u,us[k]?=some u:=⟨us[k],getElem?_eq_getElem a⟩
  obtain ⟨F,H,I,J,K,L,M,N,O,P,C⟩:=((D.fr ((r0 [] w).alloc _) (by simp)).fr d (by simp)).at A
  have y:=(show Hi (us[k]?=some u) from A)
  clear A
  have t:w.heap.size < wr.heap.size:=by have:=d.size;simp at this;omega
  have q:=d.heap0 (aC w _)
  by_cases m:(u.kind==1)=true
  ·by_cases n:(u.owner==o)=true
   ·have p:Hi (aT o u=true):=by simp [Hi,aT,m,n]
    go_wp2_with (refine wpList_store_row rfl 85 _ _ rfl w.heap.size u.arr rfl rfl 85 _ ((fD _ _ _ t).trans q) aL rfl u.one ?_)
    have f:bT us o=some u:=by
     unfold bT
     rw [find?_eq_some_iff_getElem]
     refine ⟨p.o,k,a,?_,fun j r=>by simp [c j r (by omega)]⟩
     have:=y.o;rw [getElem?_eq_getElem a] at this;exact Option.some.inj this
    rw [f]
    exact bodyPost_ret (v:=.tuple #[u.val,.bool true]) (cJ Tryz.results92 _ _ w.heap.size 85 u.arr (0,0) _ _ rfl rfl (setRow_heap _ _ _ u.arr _ _ ((fD _ _ _ t).trans q)) Tryz.underlying85 rfl aL) rfl ⟨rfl,((((r0 _ _).alloc _).then0 d).alloc _).setRow _ _ (.inr (Nat.le_refl _))⟩
   simp only [Bool.not_eq_true] at n
   have p:Hi (aT o u=false):=by simp [Hi,aT,n]
   go_wp2
   go_roundw
   case rel =>
    refine ⟨k+1,a,by go_num,fun j r g=>?_,d.alloc _⟩
    rcases Nat.lt_or_ge j k with h|h
    ·exact c j h g
    have l:j=k:=by omega
    subst l
    have:=y.o;rw [getElem?_eq_getElem a] at this;rw [Option.some.inj this];exact p.o
   case measure=>simp [intOf];omega
  simp only [Bool.not_eq_true] at m
  have p:Hi (aT o u=false):=by simp [Hi,aT,m]
  go_wp2
  go_roundw
  case rel =>
   refine ⟨k+1,a,by go_num,fun j r g=>?_,d.alloc _⟩
   rcases Nat.lt_or_ge j k with h|h
   ·exact c j h g
   have l:j=k:=by omega
   subst l
   have:=y.o;rw [getElem?_eq_getElem a] at this;rw [Option.some.inj this];exact p.o
  case measure=>simp [intOf];omega
 have q:=d.heap0 (aC w _)
 go_wp2_with (refine wpList_store_row rfl 85 _ _ rfl w.heap.size zeroU.arr rfl rfl 85 _ q aL rfl zeroU.one ?_)
 have f:bT us o=none:=by
  unfold bT
  rw [find?_eq_none]
  intro x hx
  obtain ⟨j,r,rfl⟩:=mem_iff_getElem.1 hx
  simp [c j (by omega) r]
 rw [f]
 exact bodyPost_ret (v:=.tuple #[zeroU.val,.bool false]) (cJ Tryz.results92 _ _ w.heap.size 85 zeroU.arr (0,0) _ _ rfl rfl (setRow_heap _ _ _ zeroU.arr _ _ q) Tryz.underlying85 rfl aL) rfl ⟨rfl,(((r0 _ _).alloc _).then0 d).setRow _ _ (.inr (Nat.le_refl _))⟩
structure GV (w:World) (b pb cap:Nat) (us:List U):Prop where
 c:w.cell? ⟨b,148,none⟩=some (.slice (so pb) us.length cap)
 p:Ppl w pb us
 len:us.length<=1000
theorem GV.fr {S:List Nat}{w f:World}{b d a:Nat}{us:List U}(h:GV w b d a us)(e:Fr S w f)(h1:b∉S)(g:d∉S):GV f b d a us :=
  ⟨by rw [e.cell b _ (aI h.c) h1];exact h.c,h.p.fr e g,h.len⟩
theorem GV.fr0 {w d:World}{b c a:Nat}{us:List U}(h:GV w b c a us)(e:Fr [] w d):GV d b c a us:=h.fr e (by simp) (by simp)
theorem lZ (b f a:Nat)(us:List U)(o:Int)(w:World)(d:GV w b f a us) :
  Cs 92 #[.pointer (so b),.int .i64 o] w fun e g=>e=.returned (.tuple #[((bT us o).getD zeroU).val,.bool (bT us o).isSome])/\Fr [] w g :=
 DN b f a us o w d.c d.p (Nat.le_trans d.len (by decide)) (aI d.c)
set_option maxRecDepth 100000
def bD (us:List U):Bool := !(bT us 0).isSome || !(bT us 1).isSome
def eA (us:List U):Int:=if (bT us 0).isSome=(bT us 1).isSome then 0 else if (bT us 0).isSome then 1 else 2
theorem mQ (b j a:Nat)(us:List U)(w:World)(k:GV w b j a us) :
  Cs 116 #[.pointer (so b)] w fun e m=>e=.returned (.bool (bD us))/\Fr [] w m:=by
 go_enter Tryz.func116,Tryz.ntmps116
 go_wp2_with fail
 refine (lZ b j a us 0 _ k).mono ?_
 rintro e p ⟨rfl,f⟩
 obtain ⟨u0,g⟩:∃ u,u=(bT us 0).getD zeroU:=⟨_,rfl⟩
 rw [<- g]
 clear g
 go_wp2_with fail
 refine (lZ b j a us 1 _ (k.fr0 (f.alloc _))).mono ?_
 rintro e q ⟨rfl,i⟩
 obtain ⟨n,h⟩:∃ u,u=(bT us 1).getD zeroU:=⟨_,rfl⟩
 rw [<- h]
 clear h
 generalize c:(bT us 0).isSome=b0
 generalize d:(bT us 1).isSome=b1
 have l:Hi (bD us=(!b0 || !b1)):=by simp [Hi,bD,c,d]
 clear c d
 cases b0 <;> cases b1
 all_goals
  go_wp2
  go_ret
  exact ⟨by rw [l.o];rfl,((f.alloc _).then0 i).alloc _⟩
theorem BQ (b j a:Nat)(us:List U)(w:World)(k:GV w b j a us) :
  Cs 50 #[.pointer (so b)] w fun e m=>e=.returned (.int .i64 (eA us))/\Fr [] w m:=by
 go_enter Tryz.func50,Tryz.ntmps50
 go_wp2_with fail
 refine (lZ b j a us 0 _ k).mono ?_
 rintro e p ⟨rfl,f⟩
 obtain ⟨u0,g⟩:∃ u,u=(bT us 0).getD zeroU:=⟨_,rfl⟩
 rw [<- g]
 clear g
 go_wp2_with fail
 refine (lZ b j a us 1 _ (k.fr0 (f.alloc _))).mono ?_
 rintro e q ⟨rfl,i⟩
 obtain ⟨n,h⟩:∃ u,u=(bT us 1).getD zeroU:=⟨_,rfl⟩
 rw [<- h]
 clear h
 generalize c:(bT us 0).isSome=b0
 generalize d:(bT us 1).isSome=b1
 have l:Hi (eA us=(if b0=b1 then 0 else if b0 then 1 else 2)):=by simp [Hi,eA,c,d]
 clear c d
 cases b0 <;> cases b1
 all_goals
  go_wp2
  go_ret
  exact ⟨by rw [l.o];rfl,((f.alloc _).then0 i).alloc _⟩
