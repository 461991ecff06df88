import Derived.Test.YtapabahhfanmmaaGreatDoorCNew2
namespace Go.Proofs.YtapabahhfanmmaaGreatDoor
open Go.RowKit
def xz1 (v:U):Prop:=v.what=0/\v.tox=0/\v.toy=0/\v.target=0
def SameO (v v':U):Prop:=v'.id=v.id/\v'.owner=v.owner/\v'.what=v.what/\v'.tox=v.tox/\v'.toy=v.toy/\v'.target=v.target
theorem SameO.refl (v:U):SameO v v:=⟨rfl,rfl,rfl,rfl,rfl,rfl⟩
def OrdS (t:T)(u:U):Prop :=
 xz1 u\/((u.what=1\/u.what=2)/\onB u.tox u.toy=true/\t.bd (ci u.tox u.toy)≠10/\u.target=0) \/
 (u.what=3/\u.tox=0/\u.toy=0/\1<=u.target/\u.target < t.next/\∀ v∈t.us,v.id=u.target->v.owner≠u.owner) \/
 (u.what=4/\u.toy=0/\u.target=0)
def OS (t:T):Prop:=∀ u∈t.us,OrdS t u
structure Ord1 (t t':T):Prop where
 bd:∀ i,t.bd i≠10->t'.bd i≠10
 us:∀ v'∈t'.us,xz1 v'\/∃ v∈t.us,SameO v v'
theorem Ord1.refl (t:T):Ord1 t t:=⟨fun _ h=>h,fun v h=>Or.inr ⟨v,h,SameO.refl v⟩⟩
theorem OS.of {t t':T}{P:Int->Prop}(h:OS t)(hg:Good t P t')(ho:Ord1 t t'):OS t':=by
 intro u' hu'
 rcases ho.us u' hu' with hi|⟨v,hv,e1,e2,e3,e4,e5,e6⟩
 ·exact Or.inl hi
 ·rcases h v hv with ⟨a1,a2,a3,a4⟩|⟨a1,a2,a3,a4⟩|⟨a1,a2,a3,a4,a5,a6⟩|⟨a1,a2,a3⟩
  ·exact Or.inl ⟨e3.trans a1,e4.trans a2,e5.trans a3,e6.trans a4⟩
  ·exact Or.inr (Or.inl ⟨by rw [e3];exact a1,by rw [e4,e5];exact a2,by rw [e4,e5];exact ho.bd _ a3,e6.trans a4⟩)
  ·refine Or.inr (Or.inr (Or.inl ⟨e3.trans a1,e4.trans a2,e5.trans a3,by rw [e6];exact a4,by rw [e6];exact Int.lt_of_lt_of_le a5 hg.nx,?_⟩))
   intro x' hx' hid
   rw [e6] at hid
   rcases hg.rel x' hx' with hnx|⟨x,hx,hn⟩
   ·omega
   ·rw [hn.owner,e2]
    exact a6 x hx (by rw [<- hid,hn.id])
  ·exact Or.inr (Or.inr (Or.inr ⟨e3.trans a1,e5.trans a2,e6.trans a3⟩))
structure OrdA (t:T) (u:U) (q:U×T):Prop where
 bd:∀ i,t.bd i≠10->q.2.bd i≠10
 us:∀ v'∈q.2.us,xz1 v'\/∃ v∈t.us,SameO v v'
 me:xz1 q.1\/SameO u q.1
theorem kk5 (u:U):xz1 u.idle:=⟨rfl,rfl,rfl,rfl⟩
theorem OrdA.same {t t':T}{u u':U}(hb:t'.bd=t.bd)(hu:t'.us=t.us)(hm:xz1 u'\/SameO u u'):OrdA t u (u',t') :=
  ⟨fun i h=>by show t'.bd i≠10;rw [hb];exact h,fun v hv=>Or.inr ⟨v,by have hv':v∈t'.us:=hv;rw [hu] at hv';exact hv',SameO.refl v⟩,hm⟩
theorem gz4 (t:T)(o v:Int):(t.setStock o v).bd=t.bd:=by unfold T.setStock;split <;> rfl
theorem gz5 (t:T)(o v:Int):(t.setStock o v).us=t.us:=by unfold T.setStock;split <;> rfl
theorem fv8 (t:T)(u:U):OrdA t u (qw6 t u):=by
 unfold qw6
 split
 ·exact OrdA.same rfl rfl (Or.inl (kk5 u))
 ·exact OrdA.same rfl rfl (Or.inr (SameO.refl u))
theorem gk7 (t:T)(u:U):OrdA t u (qk3 t u):=by
 unfold qk3
 split
 ·exact OrdA.same rfl rfl (Or.inr (SameO.refl u))
 ·split
  ·exact OrdA.same (gz4 _ _ _) (gz5 _ _ _) (Or.inr (SameO.refl u))
  ·exact OrdA.same rfl rfl (Or.inr (SameO.refl u))
theorem fv7 (t:T)(u:U):OrdA t u (qv1 t u):=by
 unfold qv1
 split
 ·exact gk7 t u
 ·split
  ·rename_i ho
   split
   ·refine ⟨fun i h=>?_,fun v hv=>Or.inr ⟨v,hv,SameO.refl v⟩,Or.inr (SameO.refl u)⟩
    have ho':0 < t.bd (ci u.tox u.toy)/\t.bd (ci u.tox u.toy) < 10:=by simpa [yx9] using ho
    show (if i=ci u.tox u.toy then t.bd (ci u.tox u.toy) - min (t.bd (ci u.tox u.toy)) 5 else t.bd i)≠10
    split
    ·omega
    ·exact h
   ·exact OrdA.same rfl rfl (Or.inr (SameO.refl u))
  ·exact OrdA.same rfl rfl (Or.inl (kk5 u))
theorem qqj5 {t:T}{i:Nat}:(t.harm i).bd=t.bd/\∀ v'∈(t.harm i).us,∃ v∈t.us,SameO v v':=by
 unfold T.harm
 split
 ·exact ⟨rfl,fun v hv=>⟨v,hv,SameO.refl v⟩⟩
 ·rename_i u hu
  split
  ·exact ⟨rfl,fun v hv=>⟨v,List.mem_of_mem_eraseIdx hv,SameO.refl v⟩⟩
  ·refine ⟨rfl,fun v hv=>?_⟩
   rcases zv9 hv with rfl|⟨j,_,hj⟩
   ·exact ⟨u,List.mem_of_getElem? hu,rfl,rfl,rfl,rfl,rfl,rfl⟩
   ·exact ⟨v,List.mem_of_getElem? hj,SameO.refl v⟩
theorem dv7 (t:T)(u:U):OrdA t u (qy0 t u):=by
 unfold qy0
 split
 ·exact OrdA.same rfl rfl (Or.inl (kk5 u))
 ·split
  ·exact OrdA.same rfl rfl (Or.inl (kk5 u))
  ·split
   ·obtain ⟨h1,h2⟩:=@qqj5 t ‹_›
    exact ⟨fun i h=>by dsimp only;rw [h1];exact h,fun v hv=>Or.inr (h2 v hv),Or.inr (SameO.refl u)⟩
   ·exact OrdA.same rfl rfl (Or.inr (SameO.refl u))
theorem gk8 (t:T)(u:U):OrdA t u (qj7 t u):=by
 unfold qj7
 split
 ·exact OrdA.same rfl rfl (Or.inr (SameO.refl u))
 ·split
  ·exact OrdA.same rfl rfl (Or.inr (SameO.refl u))
  ·split
   ·exact OrdA.same rfl rfl (Or.inr (SameO.refl u))
   ·split
    ·exact OrdA.same rfl rfl (Or.inr (SameO.refl u))
    ·refine ⟨fun i h=>?_,fun v hv=>?_,Or.inl (kk5 u)⟩
     ·show (t.setStock _ _).bd i≠10
      rw [gz4];exact h
     ·have hv':v∈(t.setStock u.owner (t.stock u.owner - zq6 u.tox)).us ++ [qk4 (t.setStock u.owner (t.stock u.owner - zq6 u.tox)).next u.owner u.tox _ _ (qx9 u.tox)]:=hv
      rw [gz5] at hv'
      rcases List.mem_append.1 hv' with hv'|hv'
      ·exact Or.inr ⟨v,hv',SameO.refl v⟩
      ·rw [List.mem_singleton.1 hv']
       exact Or.inl ⟨rfl,rfl,rfl,rfl⟩
theorem qzz2 (t:T)(u:U):OrdA t u (qv9 t u):=by
 unfold qv9
 split
 ·exact fv8 t u
 ·split
  ·exact fv7 t u
  ·split
   ·exact dv7 t u
   ·split
    ·exact gk8 t u
    ·exact OrdA.same rfl rfl (Or.inr (SameO.refl u))
theorem OrdA.put {t:T}{u:U}{q:U×T}(h:OrdA t u q)(hu:u∈t.us):Ord1 t (qj4 q.2 q.1):=by
 unfold qj4
 split
 ·refine ⟨h.bd,fun v hv=>?_⟩
  rcases zv9 hv with rfl|⟨j,_,hj⟩
  ·rcases h.me with hm|hm
   ·exact Or.inl hm
   ·exact Or.inr ⟨u,hu,hm⟩
  ·exact h.us v (List.mem_of_getElem? hj)
 ·exact ⟨h.bd,h.us⟩
theorem kz3 {t:T}(h:TOk t)(ho:OS t)(hno:qx3 t.us=false)(v:U):OS (zw6 t v):=by
 have hg:=yj3 h hno v
 refine ho.of hg ?_
 unfold zw6
 split
 ·exact Ord1.refl t
 ·split
  ·exact Ord1.refl t
  ·rename_i u hu
   exact (qzz2 t u).put (List.mem_of_getElem? hu)
theorem xz4:∀ (l:List U) {t:T},TOk t->OS t->qx3 t.us=false->OS (zq5 l t)
 | [],t,_,h,_=>h
 | v :: l,t,hk,h,hno=>by
  have h1:=yj3 hk hno v
  have h2:=kz3 hk h hno v
  unfold zq5
  split
  ·exact h2
  ·rename_i ho
   exact xz4 l h1.ok h2 (by simpa using ho)
theorem qzj9 {t:T}(h:TOk t)(ho:OS t)(p:Int)(c:Cm):OS (zj1 t p c).2:=by
 unfold zj1
 cases hp:qz0 t.us c.unit with
 | none=>exact ho
 | some i =>
  dsimp only
  cases hi:t.us[i]? with
  | none=>exact ho
  | some u =>
   dsimp only
   split
   ·rename_i hc
    have hmem:∀ (k:Cm) (v':U),v'∈t.us.set i (u.ordered k)->∃ v∈t.us,v'.id=v.id/\v'.owner=v.owner:=fun k v' hv'=>by
     rcases zv9 hv' with rfl|⟨j,_,hj⟩
     ·exact ⟨u,List.mem_of_getElem? hi,rfl,rfl⟩
     ·exact ⟨v',List.mem_of_getElem? hj,rfl,rfl⟩
    intro v hv
    rcases zv9 hv with rfl|⟨j,_,hj⟩
    ·have hb:=hc.2
     unfold qj3 at hb
     unfold zx3
     by_cases c0:c.what=0
     ·simp only [c0,if_pos];exact Or.inl ⟨rfl,rfl,rfl,rfl⟩
     ·rw [if_neg c0] at hb |-
      by_cases c1:c.what=1
      ·rw [if_pos c1] at hb
       rw [if_neg (by omega),if_neg (by omega)]
       simp at hb
       exact Or.inr (Or.inl ⟨Or.inl c1,hb.2.1,hb.2.2,rfl⟩)
      ·rw [if_neg c1] at hb
       by_cases c2:c.what=2
       ·rw [if_pos c2] at hb
        rw [if_neg (by omega),if_neg (by omega)]
        simp [yx9] at hb
        exact Or.inr (Or.inl ⟨Or.inr c2,hb.2.1,by show t.bd (ci c.x c.y)≠10;omega,rfl⟩)
       ·rw [if_neg c2] at hb
        by_cases c3:c.what=3
        ·rw [if_pos c3] at hb |-
         simp at hb
         have hh:=hb.2
         unfold jy9 at hh
         cases hl:look t.us c.target with
         | none=>rw [hl] at hh;cases hh
         | some x =>
          rw [hl] at hh
          have hne:x.owner≠u.owner:=by simpa using hh
          unfold look at hl
          have hxm:=List.mem_of_find?_eq_some hl
          have hxi:x.id=c.target:=by simpa using List.find?_some hl
          have hxo:=(h.all x hxm).id
          refine Or.inr (Or.inr (Or.inl ⟨c3,rfl,rfl,by show 1<=c.target;omega,by show c.target < t.next;omega,?_⟩))
          intro y hy hid
          obtain ⟨z,hz,e1,e2⟩:=hmem _ y hy
          have hid':y.id=c.target:=hid
          show y.owner≠u.owner
          rw [e2]
          have:z=x:=by
           obtain ⟨jz,hjz⟩:=List.getElem?_of_mem hz
           obtain ⟨jx,hjx⟩:=List.getElem?_of_mem hxm
           by_cases e:jz=jx
           ·subst e;rw [hjz] at hjx;exact Option.some.inj hjx
           ·have:=h.rise.ne hjz hjx e;omega
          rw [this];exact hne
        ·rw [if_neg c3] at hb |-
         by_cases c4:c.what=4
         ·rw [if_pos c4]
          exact Or.inr (Or.inr (Or.inr ⟨c4,rfl,rfl⟩))
         ·rw [if_neg c4] at hb;cases hb
    ·rcases ho v (List.mem_of_getElem? hj) with a|a|⟨a1,a2,a3,a4,a5,a6⟩|a
     ·exact Or.inl a
     ·exact Or.inr (Or.inl a)
     ·refine Or.inr (Or.inr (Or.inl ⟨a1,a2,a3,a4,a5,fun y hy hid=>?_⟩))
      obtain ⟨z,hz,e1,e2⟩:=hmem _ y hy
      rw [e2]
      exact a6 z hz (by rw [<- e1];exact hid)
     ·exact Or.inr (Or.inr (Or.inr a))
   ·exact ho
theorem vj9 (p:Int):∀ (l:List Cm) (k:Nat) {t:T},TOk t->OS t->OS (qz6 p k l t).2
 | [],_,_,_,ho=>ho
 | c :: l,k,_,h,ho=>vj9 p l (k+1) (vz1 h p c (fun _=>False)).1.ok (qzj9 h ho p c)
theorem qzz8 {t:T}(h:GOk t)(ho:OS t)(first second:List Cm):OS (qk6 t first second).1:=by
 unfold qk6
 split
 ·exact ho
 ·have hb:TOk (qk7 t):=h
  split
  ·exact ho
  ·rename_i hno
   dsimp only
   have hno':qx3 (qk7 t).us=false:=by show qx3 t.us=false;simpa using hno
   obtain ⟨g0,o0⟩:=jx7 0 (fun _=>False) first 0 hb (fun _ e=>e)
   obtain ⟨g1,o1⟩:=jx7 1 (fun _=>False) second 0 g0.ok (fun _ e=>e)
   have hs:=vj9 1 second 0 g0.ok (vj9 0 first 0 hb ho)
   exact xz4 _ g1.ok hs (by rw [o1,o0];exact hno')
end Go.Proofs.YtapabahhfanmmaaGreatDoor
