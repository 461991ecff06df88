import Derived.Test.YtapabahhfanmmaaGreatDoorCStart
import Derived.Test.YtapabahhfanmmaaGreatDoorCReadU
import Derived.Test.YtapabahhfanmmaaGreatDoorCFrames
import Derived.Test.YtapabahhfanmmaaGreatDoorCPlayT
import Derived.Test.YtapabahhfanmmaaGreatDoorCFrame
import Derived.Test.YtapabahhfanmmaaGreatDoorCStoreH
/- Orders: they are such as may be told and read. -/
namespace Go.Proofs.YtapabahhfanmmaaGreatDoor
open Go.RowKit

def IdleU (v : U) : Prop := v.what = 0 ∧ v.tox = 0 ∧ v.toy = 0 ∧ v.target = 0
def SameO (v v' : U) : Prop := v'.id = v.id ∧ v'.owner = v.owner ∧ v'.what = v.what ∧ v'.tox = v.tox ∧ v'.toy = v.toy ∧ v'.target = v.target
theorem SameO.refl (v : U) : SameO v v := ⟨rfl, rfl, rfl, rfl, rfl, rfl⟩
def OrdS (t : T) (u : U) : Prop :=
  IdleU u ∨ ((u.what = 1 ∨ u.what = 2) ∧ onB u.tox u.toy = true ∧ t.bd (ci u.tox u.toy) ≠ 10 ∧ u.target = 0) ∨
  (u.what = 3 ∧ u.tox = 0 ∧ u.toy = 0 ∧ 1 ≤ u.target ∧ u.target < t.next ∧ ∀ v ∈ t.us, v.id = u.target → v.owner ≠ u.owner) ∨
  (u.what = 4 ∧ u.toy = 0 ∧ u.target = 0)
def OS (t : T) : Prop := ∀ u ∈ t.us, OrdS t u
structure Ord1 (t t' : T) : Prop where
  bd : ∀ i, t.bd i ≠ 10 → t'.bd i ≠ 10
  us : ∀ v' ∈ t'.us, IdleU v' ∨ ∃ v ∈ t.us, SameO v v'
theorem Ord1.refl (t : T) : Ord1 t t := ⟨fun _ h => h, fun v h => Or.inr ⟨v, h, SameO.refl v⟩⟩
theorem OS.of {t t' : T} {P : Int → Prop} (h : OS t) (hg : Good t P t') (ho : Ord1 t t') : OS t' := by
  intro u' hu'
  rcases ho.us u' hu' with hi | ⟨v, hv, e1, e2, e3, e4, e5, e6⟩
  · exact Or.inl hi
  · rcases h v hv with ⟨a1, a2, a3, a4⟩ | ⟨a1, a2, a3, a4⟩ | ⟨a1, a2, a3, a4, a5, a6⟩ | ⟨a1, a2, a3⟩
    · exact Or.inl ⟨e3.trans a1, e4.trans a2, e5.trans a3, e6.trans a4⟩
    · exact Or.inr (Or.inl ⟨by rw [e3]; exact a1, by rw [e4, e5]; exact a2, by rw [e4, e5]; exact ho.bd _ a3, e6.trans a4⟩)
    · refine Or.inr (Or.inr (Or.inl ⟨e3.trans a1, e4.trans a2, e5.trans a3, by rw [e6]; exact a4, by rw [e6]; exact Int.lt_of_lt_of_le a5 hg.nx, ?_⟩))
      intro x' hx' hid
      rw [e6] at hid
      rcases hg.rel x' hx' with hnx | ⟨x, hx, hn⟩
      · omega
      · rw [hn.owner, e2]
        exact a6 x hx (by rw [← hid, hn.id])
    · exact Or.inr (Or.inr (Or.inr ⟨e3.trans a1, e5.trans a2, e6.trans a3⟩))
/-- What one does: the orders of all others stay; the own one, or none. -/
structure OrdA (t : T) (u : U) (q : U × T) : Prop where
  bd : ∀ i, t.bd i ≠ 10 → q.2.bd i ≠ 10
  us : ∀ v' ∈ q.2.us, IdleU v' ∨ ∃ v ∈ t.us, SameO v v'
  me : IdleU q.1 ∨ SameO u q.1
theorem idleU (u : U) : IdleU u.idle := ⟨rfl, rfl, rfl, rfl⟩
theorem OrdA.same {t t' : T} {u u' : U} (hb : t'.bd = t.bd) (hu : t'.us = t.us) (hm : IdleU u' ∨ SameO u u') : OrdA t u (u', t') :=
  ⟨fun i h => by show t'.bd i ≠ 10; rw [hb]; exact h, fun v hv => Or.inr ⟨v, by have hv' : v ∈ t'.us := hv; rw [hu] at hv'; exact hv', SameO.refl v⟩, hm⟩
theorem stock_bd (t : T) (o v : Int) : (t.setStock o v).bd = t.bd := by unfold T.setStock; split <;> rfl
theorem stock_us (t : T) (o v : Int) : (t.setStock o v).us = t.us := by unfold T.setStock; split <;> rfl
theorem ordA_move (t : T) (u : U) : OrdA t u (actMove t u) := by
  unfold actMove
  split
  · exact OrdA.same rfl rfl (Or.inl (idleU u))
  · exact OrdA.same rfl rfl (Or.inr (SameO.refl u))
theorem ordA_bring (t : T) (u : U) : OrdA t u (actBring t u) := by
  unfold actBring
  split
  · exact OrdA.same rfl rfl (Or.inr (SameO.refl u))
  · split
    · exact OrdA.same (stock_bd _ _ _) (stock_us _ _ _) (Or.inr (SameO.refl u))
    · exact OrdA.same rfl rfl (Or.inr (SameO.refl u))
theorem ordA_mine (t : T) (u : U) : OrdA t u (actMine t u) := by
  unfold actMine
  split
  · exact ordA_bring t u
  · split
    · rename_i ho
      split
      · refine ⟨fun i h => ?_, fun v hv => Or.inr ⟨v, hv, SameO.refl v⟩, Or.inr (SameO.refl u)⟩
        have ho' : 0 < t.bd (ci u.tox u.toy) ∧ t.bd (ci u.tox u.toy) < 10 := by simpa [oreB] using ho
        show (if i = ci u.tox u.toy then t.bd (ci u.tox u.toy) - min (t.bd (ci u.tox u.toy)) 5 else t.bd i) ≠ 10
        split
        · omega
        · exact h
      · exact OrdA.same rfl rfl (Or.inr (SameO.refl u))
    · exact OrdA.same rfl rfl (Or.inl (idleU u))
theorem harm_us {t : T} {i : Nat} : (t.harm i).bd = t.bd ∧ ∀ v' ∈ (t.harm i).us, ∃ v ∈ t.us, SameO v v' := by
  unfold T.harm
  split
  · exact ⟨rfl, fun v hv => ⟨v, hv, SameO.refl v⟩⟩
  · rename_i u hu
    split
    · exact ⟨rfl, fun v hv => ⟨v, List.mem_of_mem_eraseIdx hv, SameO.refl v⟩⟩
    · refine ⟨rfl, fun v hv => ?_⟩
      rcases mem_set' hv with rfl | ⟨j, _, hj⟩
      · exact ⟨u, List.mem_of_getElem? hu, rfl, rfl, rfl, rfl, rfl, rfl⟩
      · exact ⟨v, List.mem_of_getElem? hj, SameO.refl v⟩
theorem ordA_hit (t : T) (u : U) : OrdA t u (actHit t u) := by
  unfold actHit
  split
  · exact OrdA.same rfl rfl (Or.inl (idleU u))
  · split
    · exact OrdA.same rfl rfl (Or.inl (idleU u))
    · split
      · obtain ⟨h1, h2⟩ := @harm_us t ‹_›
        exact ⟨fun i h => by dsimp only; rw [h1]; exact h, fun v hv => Or.inr (h2 v hv), Or.inr (SameO.refl u)⟩
      · exact OrdA.same rfl rfl (Or.inr (SameO.refl u))
theorem ordA_build (t : T) (u : U) : OrdA t u (actBuild t u) := by
  unfold actBuild
  split
  · exact OrdA.same rfl rfl (Or.inr (SameO.refl u))
  · split
    · exact OrdA.same rfl rfl (Or.inr (SameO.refl u))
    · split
      · exact OrdA.same rfl rfl (Or.inr (SameO.refl u))
      · split
        · exact OrdA.same rfl rfl (Or.inr (SameO.refl u))
        · refine ⟨fun i h => ?_, fun v hv => ?_, Or.inl (idleU u)⟩
          · show (t.setStock _ _).bd i ≠ 10
            rw [stock_bd]; exact h
          · have hv' : v ∈ (t.setStock u.owner (t.stock u.owner - costOf u.tox)).us ++ [newU (t.setStock u.owner (t.stock u.owner - costOf u.tox)).next u.owner u.tox _ _ (lifeOf u.tox)] := hv
            rw [stock_us] at hv'
            rcases List.mem_append.1 hv' with hv' | hv'
            · exact Or.inr ⟨v, hv', SameO.refl v⟩
            · rw [List.mem_singleton.1 hv']
              exact Or.inl ⟨rfl, rfl, rfl, rfl⟩
theorem ordA_of (t : T) (u : U) : OrdA t u (actOf t u) := by
  unfold actOf
  split
  · exact ordA_move t u
  · split
    · exact ordA_mine t u
    · split
      · exact ordA_hit t u
      · split
        · exact ordA_build t u
        · exact OrdA.same rfl rfl (Or.inr (SameO.refl u))
theorem OrdA.put {t : T} {u : U} {q : U × T} (h : OrdA t u q) (hu : u ∈ t.us) : Ord1 t (putBack q.2 q.1) := by
  unfold putBack
  split
  · refine ⟨h.bd, fun v hv => ?_⟩
    rcases mem_set' hv with rfl | ⟨j, _, hj⟩
    · rcases h.me with hm | hm
      · exact Or.inl hm
      · exact Or.inr ⟨u, hu, hm⟩
    · exact h.us v (List.mem_of_getElem? hj)
  · exact ⟨h.bd, h.us⟩
theorem actAt_os {t : T} (h : TOk t) (ho : OS t) (hno : overB t.us = false) (v : U) : OS (actAt t v) := by
  have hg := actAt_ok h hno v
  refine ho.of hg ?_
  unfold actAt
  split
  · exact Ord1.refl t
  · split
    · exact Ord1.refl t
    · rename_i u hu
      exact (ordA_of t u).put (List.mem_of_getElem? hu)
theorem actAll_os : ∀ (l : List U) {t : T}, TOk t → OS t → overB t.us = false → OS (actAll l t)
  | [], t, _, h, _ => h
  | v :: l, t, hk, h, hno => by
    have h1 := actAt_ok hk hno v
    have h2 := actAt_os hk h hno v
    unfold actAll
    split
    · exact h2
    · rename_i ho
      exact actAll_os l h1.ok h2 (by simpa using ho)
theorem take_os {t : T} (h : TOk t) (ho : OS t) (p : Int) (c : Cm) : OS (takeT t p c).2 := by
  unfold takeT
  cases hp : placeOf t.us c.unit with
  | none => exact ho
  | some i =>
    dsimp only
    cases hi : t.us[i]? with
    | none => exact ho
    | some u =>
      dsimp only
      split
      · rename_i hc
        have hmem : ∀ (k : Cm) (v' : U), v' ∈ t.us.set i (u.ordered k) → ∃ v ∈ t.us, v'.id = v.id ∧ v'.owner = v.owner := fun k v' hv' => by
          rcases mem_set' hv' with rfl | ⟨j, _, hj⟩
          · exact ⟨u, List.mem_of_getElem? hi, rfl, rfl⟩
          · exact ⟨v', List.mem_of_getElem? hj, rfl, rfl⟩
        intro v hv
        rcases mem_set' hv with rfl | ⟨j, _, hj⟩
        · have hb := hc.2
          unfold takesB at hb
          unfold keptC
          by_cases c0 : c.what = 0
          · simp only [c0, if_pos]; exact Or.inl ⟨rfl, rfl, rfl, rfl⟩
          · rw [if_neg c0] at hb ⊢
            by_cases c1 : c.what = 1
            · rw [if_pos c1] at hb
              rw [if_neg (by omega), if_neg (by omega)]
              simp at hb
              exact Or.inr (Or.inl ⟨Or.inl c1, hb.2.1, hb.2.2, rfl⟩)
            · rw [if_neg c1] at hb
              by_cases c2 : c.what = 2
              · rw [if_pos c2] at hb
                rw [if_neg (by omega), if_neg (by omega)]
                simp [oreB] at hb
                exact Or.inr (Or.inl ⟨Or.inr c2, hb.2.1, by show t.bd (ci c.x c.y) ≠ 10; omega, rfl⟩)
              · rw [if_neg c2] at hb
                by_cases c3 : c.what = 3
                · rw [if_pos c3] at hb ⊢
                  simp at hb
                  have hh := hb.2
                  unfold hitB at hh
                  cases hl : look t.us c.target with
                  | none => rw [hl] at hh; cases hh
                  | some x =>
                    rw [hl] at hh
                    have hne : x.owner ≠ u.owner := by simpa using hh
                    unfold look at hl
                    have hxm := List.mem_of_find?_eq_some hl
                    have hxi : x.id = c.target := by simpa using List.find?_some hl
                    have hxo := (h.all x hxm).id
                    refine Or.inr (Or.inr (Or.inl ⟨c3, rfl, rfl, by show 1 ≤ c.target; omega, by show c.target < t.next; omega, ?_⟩))
                    intro y hy hid
                    obtain ⟨z, hz, e1, e2⟩ := hmem _ y hy
                    have hid' : y.id = c.target := hid
                    show y.owner ≠ u.owner
                    rw [e2]
                    have : z = x := by
                      obtain ⟨jz, hjz⟩ := List.getElem?_of_mem hz
                      obtain ⟨jx, hjx⟩ := List.getElem?_of_mem hxm
                      by_cases e : jz = jx
                      · subst e; rw [hjz] at hjx; exact Option.some.inj hjx
                      · have := h.rise.ne hjz hjx e; omega
                    rw [this]; exact hne
                · rw [if_neg c3] at hb ⊢
                  by_cases c4 : c.what = 4
                  · rw [if_pos c4]
                    exact Or.inr (Or.inr (Or.inr ⟨c4, rfl, rfl⟩))
                  · rw [if_neg c4] at hb; cases hb
        · rcases ho v (List.mem_of_getElem? hj) with a | a | ⟨a1, a2, a3, a4, a5, a6⟩ | a
          · exact Or.inl a
          · exact Or.inr (Or.inl a)
          · refine Or.inr (Or.inr (Or.inl ⟨a1, a2, a3, a4, a5, fun y hy hid => ?_⟩))
            obtain ⟨z, hz, e1, e2⟩ := hmem _ y hy
            rw [e2]
            exact a6 z hz (by rw [← e1]; exact hid)
          · exact Or.inr (Or.inr (Or.inr a))
      · exact ho
theorem cmd_os (p : Int) : ∀ (l : List Cm) (k : Nat) {t : T}, TOk t → OS t → OS (cmdAll p k l t).2
  | [], _, _, _, ho => ho
  | c :: l, k, _, h, ho => cmd_os p l (k + 1) (take_ok h p c (fun _ => False)).1.ok (take_os h ho p c)
theorem play_os {t : T} (h : GOk t) (ho : OS t) (first second : List Cm) : OS (playT t first second).1 := by
  unfold playT
  split
  · exact ho
  · have hb : TOk (beginT t) := h
    split
    · exact ho
    · rename_i hno
      dsimp only
      have hno' : overB (beginT t).us = false := by show overB t.us = false; simpa using hno
      obtain ⟨g0, o0⟩ := cmd_ok 0 (fun _ => False) first 0 hb (fun _ e => e)
      obtain ⟨g1, o1⟩ := cmd_ok 1 (fun _ => False) second 0 g0.ok (fun _ e => e)
      have hs := cmd_os 1 second 0 g0.ok (cmd_os 0 first 0 hb ho)
      exact actAll_os _ g1.ok hs (by rw [o1, o0]; exact hno')
theorem start_os (cs : List Int) : OS (startT cs) := by
  intro u hu
  have hu' : u ∈ [newU 1 0 1 0 0 40, newU 2 1 1 11 11 40] := hu
  simp at hu'
  rcases hu' with rfl | rfl <;> exact Or.inl ⟨rfl, rfl, rfl, rfl⟩
end Go.Proofs.YtapabahhfanmmaaGreatDoor
/- A state in bytes, plainly. -/
namespace Go.Proofs.YtapabahhfanmmaaGreatDoor
open Go.RowKit

abbrev U.nums (u : U) : List Int := [u.id, u.owner, u.kind, u.x, u.y, u.life, u.load, u.what, u.tox, u.toy, u.target]
def headN (t : T) : List Int := [t.turn, winI t.us, t.s0, t.s1, t.next]
def boardN (t : T) : List Int := (List.range 144).map t.bd
def peopleN (us : List U) : List Int := us.flatMap U.nums
def numsOf (t : T) : List Int := headN t ++ (boardN t ++ ((t.us.length : Int) :: peopleN t.us))
def tellB (t : T) : List UInt8 := flatB (numsOf t)
theorem boardN_len (t : T) : (boardN t).length = 144 := by simp [boardN]
theorem peopleN_len : ∀ us : List U, (peopleN us).length = 11 * us.length
  | [] => rfl
  | u :: us => by
    show (u.nums ++ peopleN us).length = _
    rw [List.length_append, peopleN_len us]
    simp
    omega
theorem numsOf_len (t : T) : (numsOf t).length = 150 + 11 * t.us.length := by
  unfold numsOf
  rw [List.length_append, List.length_append, boardN_len, List.length_cons, peopleN_len]
  show 5 + _ = _
  omega
theorem people_at : ∀ (us : List U) (i f : Nat) (u : U), us[i]? = some u → f < 11 → (peopleN us)[11 * i + f]? = u.nums[f]?
  | [], _, _, _, h, _ => by simp at h
  | v :: us, 0, f, u, h, hf => by
    have hv : v = u := by simpa using h
    subst hv
    show (v.nums ++ peopleN us)[11 * 0 + f]? = _
    rw [List.getElem?_append_left (by simp; omega), Nat.mul_zero, Nat.zero_add]
  | v :: us, i + 1, f, u, h, hf => by
    show (v.nums ++ peopleN us)[11 * (i + 1) + f]? = _
    rw [List.getElem?_append_right (by simp; omega)]
    have : 11 * (i + 1) + f - v.nums.length = 11 * i + f := by simp; omega
    rw [this]
    exact people_at us i f u (by simpa using h) hf
theorem win_bd (us : List U) : 0 ≤ winI us ∧ winI us ≤ 2 := by
  unfold winI
  split
  · omega
  · split <;> omega
theorem unit_bd {t : T} (h : GOk t) (ho : OS t) {u : U} (hu : u ∈ t.us) : ∀ x ∈ u.nums, 0 ≤ x ∧ x ≤ 1000000000 := by
  have k := h.all u hu
  have hnx := h.nx
  have hid := k.id
  have how := k.ow
  have hkd := k.kd
  have hlf := k.lf
  have hld := k.ld
  have hod := k.od
  obtain ⟨o1, o2, o3, o4⟩ := onB_iff.1 k.on
  have hll : lifeOf u.kind ≤ 40 := by unfold lifeOf; split; omega; split <;> omega
  dsimp only at hid hnx
  have hor : (0 ≤ u.what ∧ u.what ≤ 4) ∧ (0 ≤ u.tox ∧ u.tox ≤ 1000000000) ∧ (0 ≤ u.toy ∧ u.toy ≤ 1000000000) ∧ (0 ≤ u.target ∧ u.target ≤ 1000000000) := by
    unfold OrdOk at hod
    rcases ho u hu with ⟨a1, a2, a3, a4⟩ | ⟨a1, a2, a3, a4⟩ | ⟨a1, a2, a3, a4, a5, a6⟩ | ⟨a1, a2, a3⟩
    · omega
    · obtain ⟨b1, b2, b3, b4⟩ := onB_iff.1 a2
      omega
    · omega
    · omega
  intro x hx
  simp only [List.mem_cons, List.not_mem_nil, or_false] at hx
  rcases hx with rfl | rfl | rfl | rfl | rfl | rfl | rfl | rfl | rfl | rfl | rfl <;> omega
theorem nums_bd {t : T} (h : GOk t) (ho : OS t) (ht : 0 ≤ t.turn ∧ t.turn ≤ 1000000000) : ∀ x ∈ numsOf t, 0 ≤ x ∧ x ≤ 1000000000 := by
  have hnx := h.nx
  have hst := h.st
  have hwn := win_bd t.us
  have hln := h.len
  dsimp only at hnx hst hln
  intro x hx
  unfold numsOf at hx
  rcases List.mem_append.1 hx with hx | hx
  · unfold headN at hx
    simp only [List.mem_cons, List.not_mem_nil, or_false] at hx
    rcases hx with rfl | rfl | rfl | rfl | rfl <;> omega
  · rcases List.mem_append.1 hx with hx | hx
    · obtain ⟨j, hj, rfl⟩ := List.mem_map.1 hx
      have := h.bd j (List.mem_range.1 hj)
      dsimp only at this
      omega
    · rcases List.mem_cons.1 hx with rfl | hx
      · omega
      · obtain ⟨u, hu, hx⟩ := List.mem_flatMap.1 hx
        exact unit_bd h ho hu x hx
/-- What a reader reads of a text, number by number. -/
structure Reads (l : List UInt8) (t : T) : Prop where
  n0 : nth l false 0 = t.turn
  n1 : nth l false 1 = winI t.us
  n2 : nth l false 2 = t.s0
  n3 : nth l false 3 = t.s1
  n4 : nth l false 4 = t.next
  nb : ∀ j, j < 144 → nth l false (5 + j) = t.bd j
  nl : nth l false 149 = t.us.length
  nu : ∀ i u, t.us[i]? = some u → unitOf (fun f => nth l false (150 + 11 * i + f)) = u
  ne : rdN l false (150 + 11 * t.us.length) = ([], false)
theorem nth_is {ns : List Int} (hb : ∀ x ∈ ns, 0 ≤ x ∧ x ≤ 1000000000) {n : Nat} {x : Int} (h : ns[n]? = some x) : nth (flatB ns) false n = x := by
  obtain ⟨hl, rfl⟩ := List.getElem?_eq_some_iff.1 h
  have := nth_flat n ns [] hl hb
  rwa [List.append_nil] at this
theorem nums_unit {t : T} {i f : Nat} {u : U} (h : t.us[i]? = some u) (hf : f < 11) : (numsOf t)[150 + 11 * i + f]? = u.nums[f]? := by
  unfold numsOf
  have h5 : (headN t).length = 5 := rfl
  rw [List.getElem?_append_right (by omega), List.getElem?_append_right (by rw [boardN_len]; omega), boardN_len, h5, show 150 + 11 * i + f - 5 - 144 = (11 * i + f) + 1 by omega, List.getElem?_cons_succ]
  exact people_at t.us i f u h hf
theorem reads_tell {t : T} (h : GOk t) (ho : OS t) (ht : 0 ≤ t.turn ∧ t.turn ≤ 1000000000) : Reads (tellB t) t := by
  have hb := nums_bd h ho ht
  have h5 : (headN t).length = 5 := rfl
  have hh : ∀ k x, (headN t)[k]? = some x → nth (tellB t) false k = x := fun k x hk => nth_is hb (by
    unfold numsOf
    rw [List.getElem?_append_left (by rw [h5]; exact (List.getElem?_eq_some_iff.1 hk).1)]
    exact hk)
  refine ⟨hh 0 _ rfl, hh 1 _ rfl, hh 2 _ rfl, hh 3 _ rfl, hh 4 _ rfl, fun j hj => nth_is hb ?_, nth_is hb ?_, fun i u hu => ?_, ?_⟩
  · unfold numsOf
    rw [List.getElem?_append_right (by omega), h5, show 5 + j - 5 = j by omega, List.getElem?_append_left (by rw [boardN_len]; exact hj)]
    simp [boardN, List.getElem?_range hj]
  · unfold numsOf
    rw [List.getElem?_append_right (by omega), List.getElem?_append_right (by rw [boardN_len]; omega), boardN_len, h5]
    rfl
  · have hu' : ∀ f x, f < 11 → u.nums[f]? = some x → nth (tellB t) false (150 + 11 * i + f) = x := fun f x hf hx => nth_is hb (by rw [nums_unit hu hf]; exact hx)
    show U.mk (nth (tellB t) false (150 + 11 * i + 0)) (nth (tellB t) false (150 + 11 * i + 1)) (nth (tellB t) false (150 + 11 * i + 2)) (nth (tellB t) false (150 + 11 * i + 3)) (nth (tellB t) false (150 + 11 * i + 4)) (nth (tellB t) false (150 + 11 * i + 5)) (nth (tellB t) false (150 + 11 * i + 6)) (nth (tellB t) false (150 + 11 * i + 7)) (nth (tellB t) false (150 + 11 * i + 8)) (nth (tellB t) false (150 + 11 * i + 9)) (nth (tellB t) false (150 + 11 * i + 10)) = u
    rw [hu' 0 _ (by omega) rfl, hu' 1 _ (by omega) rfl, hu' 2 _ (by omega) rfl, hu' 3 _ (by omega) rfl, hu' 4 _ (by omega) rfl, hu' 5 _ (by omega) rfl, hu' 6 _ (by omega) rfl, hu' 7 _ (by omega) rfl, hu' 8 _ (by omega) rfl, hu' 9 _ (by omega) rfl, hu' 10 _ (by omega) rfl]
  · have := rdN_flat (150 + 11 * t.us.length) (numsOf t) [] (by rw [numsOf_len]; exact Nat.le_refl _) hb
    rw [List.append_nil, List.append_nil, List.drop_of_length_le (by rw [numsOf_len]; exact Nat.le_refl _)] at this
    exact this
theorem tell_len {t : T} (h : GOk t) (ho : OS t) (ht : 0 ≤ t.turn ∧ t.turn ≤ 1000000000) : (tellB t).length ≤ 100000 := by
  have := flatB_len (numsOf t) (fun n hn => (nums_bd h ho ht n hn).2)
  have hl := h.len
  dsimp only at hl
  rw [numsOf_len] at this
  unfold tellB
  omega
end Go.Proofs.YtapabahhfanmmaaGreatDoor
/- A log, plainly. -/
namespace Go.Proofs.YtapabahhfanmmaaGreatDoor
open Go.RowKit

/-- The commands of a turn. -/
abbrev Tn := List Cm × List Cm
/-- What a record plays: the commands as they were written. -/
def playW (t : T) (p : Tn) : T := (playT t (p.1.map writeC) (p.2.map writeC)).1
def turnFr (t : T) (p : Tn) : List UInt8 := frameB 1 (turnB t.turn p.1 p.2)
def playsT : T → List Tn → T
  | t, [] => t
  | t, p :: l => playsT (playW t p) l
def turnsB : T → List Tn → List UInt8
  | _, [] => []
  | t, p :: l => turnFr t p ++ turnsB (playW t p) l
def logB (t : T) (l : List Tn) : List UInt8 := frameB 2 (tellB t) ++ turnsB t l
/-- What is found in turns that are cut off behind some bytes: the game, and what is left. -/
def cutT : T → List Tn → Nat → T × List UInt8
  | t, [], _ => (t, [])
  | t, p :: l, k => if k < (turnFr t p).length then (t, (turnFr t p).take k) else cutT (playW t p) l (k - (turnFr t p).length)
theorem plays_app : ∀ (t : T) (l m : List Tn), playsT t (l ++ m) = playsT (playsT t l) m
  | _, [], _ => rfl
  | t, p :: l, m => plays_app (playW t p) l m
theorem turns_app : ∀ (t : T) (l m : List Tn), turnsB t (l ++ m) = turnsB t l ++ turnsB (playsT t l) m
  | _, [], _ => rfl
  | t, p :: l, m => by
    show turnFr t p ++ turnsB (playW t p) (l ++ m) = _
    rw [turns_app (playW t p) l m, ← List.append_assoc]
    rfl
theorem turns_one (t : T) (p : Tn) : turnsB t [p] = turnFr t p := by
  show turnFr t p ++ [] = _
  rw [List.append_nil]
theorem log_snoc (t : T) (l : List Tn) (p : Tn) : logB t (l ++ [p]) = logB t l ++ turnFr (playsT t l) p := by
  unfold logB
  rw [turns_app, turns_one, List.append_assoc]
theorem plays_snoc (t : T) (l : List Tn) (p : Tn) : playsT t (l ++ [p]) = playW (playsT t l) p := by rw [plays_app]; rfl
theorem log_take (t : T) (l : List Tn) (i : Nat) : logB t (l.take i) ++ turnsB (playsT t (l.take i)) (l.drop i) = logB t l := by
  unfold logB
  rw [List.append_assoc, ← turns_app, List.take_append_drop]
theorem turns_le (t : T) (l : List Tn) (i : Nat) : (turnsB t (l.take i)).length ≤ (turnsB t l).length := by
  have := turns_app t (l.take i) (l.drop i)
  rw [List.take_append_drop] at this
  rw [this, List.length_append]
  omega
/-- What is found is a game that was: some of the turns are played, at least those that are whole. -/
theorem cut_found : ∀ (l : List Tn) (t : T) (k : Nat), ∃ j, j ≤ l.length ∧ (cutT t l k).1 = playsT t (l.take j) ∧ ∀ i, i ≤ l.length → (turnsB t (l.take i)).length ≤ k → i ≤ j
  | [], t, k => ⟨0, Nat.le_refl _, rfl, fun i hi _ => by simpa using hi⟩
  | p :: l, t, k => by
    unfold cutT
    split
    · rename_i h
      refine ⟨0, Nat.zero_le _, rfl, fun i hi hk => ?_⟩
      cases i with
      | zero => exact Nat.le_refl _
      | succ i =>
        have : (turnFr t p ++ turnsB (playW t p) (l.take i)).length ≤ k := hk
        rw [List.length_append] at this
        omega
    · rename_i h
      obtain ⟨j, h1, h2, h3⟩ := cut_found l (playW t p) (k - (turnFr t p).length)
      refine ⟨j + 1, by simp; omega, h2, fun i hi hk => ?_⟩
      cases i with
      | zero => omega
      | succ i =>
        have : (turnFr t p ++ turnsB (playW t p) (l.take i)).length ≤ k := hk
        rw [List.length_append] at this
        have := h3 i (by simpa using hi) (by omega)
        omega
/-- A game as it may be told, read and played. -/
structure GG (t : T) : Prop where
  ok : GOk t
  os : OS t
  t0 : 0 ≤ t.turn
theorem GG.play {t : T} (h : GG t) (p : Tn) (ht : t.turn < 1000000000) : GG (playW t p) ∧ (playW t p).turn = t.turn + 1 := by
  have k := play_ok h.ok (p.1.map writeC) (p.2.map writeC) ht
  have htn : (playW t p).turn = t.turn + 1 := k.tn
  exact ⟨⟨k.ok, play_os h.ok h.os _ _, by have := h.t0; omega⟩, htn⟩
theorem GG.plays : ∀ (l : List Tn) {t : T}, GG t → t.turn + l.length ≤ 1000000000 → GG (playsT t l) ∧ (playsT t l).turn = t.turn + l.length
  | [], t, h, _ => ⟨h, by simp [playsT]⟩
  | p :: l, t, h, hb => by
    have hb' : t.turn + (l.length + 1 : Nat) ≤ 1000000000 := hb
    obtain ⟨h1, h2⟩ := h.play p (by omega)
    obtain ⟨h3, h4⟩ := GG.plays l h1 (by omega)
    refine ⟨h3, ?_⟩
    show (playsT (playW t p) l).turn = t.turn + (l.length + 1 : Nat)
    omega
/-- Lists of commands that are short. -/
def Short (l : List Tn) : Prop := ∀ p ∈ l, p.1.length ≤ 2 ∧ p.2.length ≤ 2
theorem turnB_len (n : Int) (p : Tn) (hn : n ≤ 1000000000) (h : p.1.length ≤ 2 ∧ p.2.length ≤ 2) : (turnB n p.1 p.2).length ≤ 115 := by
  have h1 := cmdsB_len p.1 (by omega)
  have h2 := cmdsB_len p.2 (by omega)
  have h3 := numB_len 5 n.toNat (by omega) (by omega)
  unfold turnB turnN
  rw [flatB_cons, flatB_append, List.length_append, List.length_append]
  omega
theorem turnFr_len (t : T) (p : Tn) (hn : t.turn ≤ 1000000000) (h : p.1.length ≤ 2 ∧ p.2.length ≤ 2) : (turnFr t p).length ≤ 126 ∧ 0 < (turnFr t p).length := by
  have h1 := turnB_len t.turn p hn h
  have h2 := frameB_len 1 (turnB t.turn p.1 p.2) (by omega)
  unfold turnFr
  omega
theorem turns_len : ∀ (l : List Tn) {t : T}, GG t → t.turn + l.length ≤ 1000000000 → Short l → (turnsB t l).length ≤ 126 * l.length
  | [], _, _, _, _ => by simp [turnsB]
  | p :: l, t, h, hb, hs => by
    have hb' : t.turn + (l.length + 1 : Nat) ≤ 1000000000 := hb
    obtain ⟨h1, h2⟩ := h.play p (by omega)
    have h3 := turns_len l h1 (by omega) (fun q hq => hs q (by simp [hq]))
    have h4 := turnFr_len t p (by omega) (hs p (by simp))
    show (turnFr t p ++ turnsB (playW t p) l).length ≤ 126 * (l.length + 1)
    rw [List.length_append]
    omega
theorem tellB_len {t : T} (h : GG t) (ht : t.turn ≤ 1000000000) : (tellB t).length ≤ 20000 := by
  have := flatB_len (numsOf t) (fun n hn => (nums_bd h.ok h.os ⟨h.t0, ht⟩ n hn).2)
  have hl := h.ok.len
  dsimp only at hl
  rw [numsOf_len] at this
  unfold tellB
  omega
theorem cut_none (s : UInt8) (c : List UInt8) (k : Nat) (hc : c.length ≤ 40000) (hk : k < (frameB s c).length) : cutF s ((frameB s c).take k) = none := cut_short s c k hc hk
/-- One round over a log that is cut off. -/
theorem round_short (t : T) (p : Tn) (l : List Tn) (k : Nat) (hn : t.turn ≤ 1000000000) (h : p.1.length ≤ 2 ∧ p.2.length ≤ 2) (hk : k < (turnFr t p).length) : cutF 1 ((turnsB t (p :: l)).take k) = none ∧ (turnsB t (p :: l)).take k = (turnFr t p).take k := by
  have e : (turnsB t (p :: l)).take k = (turnFr t p).take k := by
    show (turnFr t p ++ turnsB (playW t p) l).take k = _
    rw [List.take_append_of_le_length (by omega)]
  refine ⟨?_, e⟩
  rw [e]
  have := turnB_len t.turn p hn h
  exact cut_short 1 _ k (by omega) hk
theorem round_whole (t : T) (p : Tn) (l : List Tn) (k : Nat) (hn : t.turn ≤ 1000000000) (h : p.1.length ≤ 2 ∧ p.2.length ≤ 2) (hk : ¬ k < (turnFr t p).length) : cutF 1 ((turnsB t (p :: l)).take k) = some (turnB t.turn p.1 p.2, (turnsB (playW t p) l).take (k - (turnFr t p).length)) := by
  have e : (turnsB t (p :: l)).take k = turnFr t p ++ (turnsB (playW t p) l).take (k - (turnFr t p).length) := by
    show (turnFr t p ++ turnsB (playW t p) l).take k = _
    rw [List.take_append, List.take_of_length_le (by omega)]
  rw [e]
  have := turnB_len t.turn p hn h
  exact cut_whole 1 _ _ (by omega)
theorem head_cut (t : T) (l : List Tn) (k : Nat) (h : (tellB t).length ≤ 40000) (hk : (frameB 2 (tellB t)).length ≤ k) : cutF 2 ((logB t l).take k) = some (tellB t, (turnsB t l).take (k - (frameB 2 (tellB t)).length)) := by
  unfold logB
  rw [List.take_append, List.take_of_length_le hk]
  exact cut_whole 2 _ _ h
end Go.Proofs.YtapabahhfanmmaaGreatDoor
/- Files and the steps that are done with them, plainly. -/
namespace Go.Proofs.YtapabahhfanmmaaGreatDoor
open Go.RowKit

def atTo (l : List Fl) (n : List UInt8) : Nat → Int
  | 0 => -1
  | k + 1 => if (l[k]?).map Fl.name = some n then (k : Int) else atTo l n k
def atOf (l : List Fl) (n : List UInt8) : Int := atTo l n l.length
def othersTo (l : List Fl) (a : Int) (s : Stp) : Nat → List Fl
  | 0 => []
  | k + 1 => othersTo l a s k ++ (match l[k]? with | some f => if (k : Int) ≠ a ∧ (s.what = 4 ∨ f.name ≠ s.to) then [f] else [] | none => [])
def dstep (l : List Fl) (s : Stp) : List Fl :=
  if s.what = 1 then
    if atOf l s.name < 0 then l ++ [⟨s.name, s.data, 0⟩] else l.modify (atOf l s.name).toNat fun f => { f with data := f.data ++ s.data }
  else if s.what = 2 ∧ 0 ≤ atOf l s.name then l.modify (atOf l s.name).toNat fun f => { f with safe := f.data.length }
  else if (s.what = 3 ∨ s.what = 4) ∧ 0 ≤ atOf l s.name then
    othersTo l (atOf l s.name) s l.length ++ (match l[(atOf l s.name).toNat]? with | some f => if s.what = 3 then [⟨s.to, f.data, f.safe⟩] else [] | none => [])
  else l
def disk (l : List Stp) : List Fl := l.foldl dstep []
theorem disk_snoc (l : List Stp) (s : Stp) : disk (l ++ [s]) = dstep (disk l) s := by
  unfold disk
  rw [List.foldl_append]
  rfl

theorem ne01 : ¬ LOG = LOG1 := by decide
theorem ne10 : ¬ LOG1 = LOG := by decide
theorem dkat1 (d : List UInt8) (s : Nat) : atOf [⟨LOG, d, s⟩] LOG = 0 := by simp [atOf, atTo]
theorem dkat1n (d : List UInt8) (s : Nat) : atOf [⟨LOG, d, s⟩] LOG1 = -1 := by simp [atOf, atTo, ne01]
theorem dkat11 (d : List UInt8) (s : Nat) : atOf [⟨LOG1, d, s⟩] LOG1 = 0 := by simp [atOf, atTo]
theorem dkat2 (d d1 : List UInt8) (s s1 : Nat) : atOf [⟨LOG, d, s⟩, ⟨LOG1, d1, s1⟩] LOG1 = 1 := by simp [atOf, atTo]
theorem st_first (x : List UInt8) : dstep (dstep (dstep [] (sApp LOG1 x)) (sSync LOG1)) (sRen LOG1 LOG) = [⟨LOG, x, x.length⟩] := by
  have h1 : dstep [] (sApp LOG1 x) = [⟨LOG1, x, 0⟩] := by simp [dstep, atOf, atTo]
  have h2 : dstep [⟨LOG1, x, 0⟩] (sSync LOG1) = [⟨LOG1, x, x.length⟩] := by simp [dstep, dkat11]
  have h3 : dstep [⟨LOG1, x, x.length⟩] (sRen LOG1 LOG) = [⟨LOG, x, x.length⟩] := by simp [dstep, dkat11, othersTo]
  rw [h1, h2, h3]
theorem st_app (d x : List UInt8) (s : Nat) : dstep [⟨LOG, d, s⟩] (sApp LOG x) = [⟨LOG, d ++ x, s⟩] := by simp [dstep, dkat1]
theorem st_sync (d : List UInt8) (s : Nat) : dstep [⟨LOG, d, s⟩] (sSync LOG) = [⟨LOG, d, d.length⟩] := by simp [dstep, dkat1]
theorem st_fold1 (d x : List UInt8) (s : Nat) : dstep [⟨LOG, d, s⟩] (sApp LOG1 x) = [⟨LOG, d, s⟩, ⟨LOG1, x, 0⟩] := by simp [dstep, dkat1n]
theorem st_fold2 (d x : List UInt8) (s : Nat) : dstep [⟨LOG, d, s⟩, ⟨LOG1, x, 0⟩] (sSync LOG1) = [⟨LOG, d, s⟩, ⟨LOG1, x, x.length⟩] := by simp [dstep, dkat2]
theorem st_fold3 (d x : List UInt8) (s : Nat) : dstep [⟨LOG, d, s⟩, ⟨LOG1, x, x.length⟩] (sRen LOG1 LOG) = [⟨LOG, x, x.length⟩] := by simp [dstep, dkat2, othersTo]

/-- How many calls are over at a place. -/
def dkOf (ends : List Nat) (c : Nat) : Nat := (ends.takeWhile (fun e => decide (e ≤ c))).length
theorem dkOf_old {ends : List Nat} {e c : Nat} (h : c < e) : dkOf (ends ++ [e]) c = dkOf ends c := by
  unfold dkOf
  rw [List.takeWhile_append]
  split
  · rename_i hl
    simp [show ¬ e ≤ c by omega, hl]
  · rfl
theorem dkOf_all {ends : List Nat} {c : Nat} (h : ∀ x ∈ ends, x ≤ c) : dkOf ends c = ends.length := by
  unfold dkOf
  congr 1
  induction ends with
  | nil => rfl
  | cons a l ih => rw [List.takeWhile_cons_of_pos (by simpa using h a (by simp)), ih (fun x hx => h x (by simp [hx]))]
theorem dkOf_le (ends : List Nat) (c : Nat) : dkOf ends c ≤ ends.length := by
  unfold dkOf
  exact List.Sublist.length_le (List.takeWhile_sublist _)
def leastOf (safes : List Int) (k : Nat) : Int := (safes[k - 1]?).getD 0

/-- What lies in the log at a place: the state t0, turns, of which so many are safe. -/
structure LogIs (told : List (List UInt8)) (k : Nat) (least : Int) (t0 : T) (l : List Tn) (ns : Nat) : Prop where
  gg : GG t0
  bd : t0.turn + l.length ≤ 1000
  sh : Short l
  nsl : ns ≤ l.length
  least : least ≤ t0.turn + ns
  told : ∀ j, ns ≤ j → j ≤ l.length → tellB (playsT t0 (l.take j)) ∈ told.take (k + 1)
def fileOf (t0 : T) (l : List Tn) (ns : Nat) : Fl := ⟨LOG, logB t0 l, (logB t0 (l.take ns)).length⟩
def CutOk (told : List (List UInt8)) (k : Nat) (least : Int) (D : List Fl) : Prop :=
  ∃ t0 l ns, LogIs told k least t0 l ns ∧ (D = [fileOf t0 l ns] ∨ ∃ d1 s1, D = [fileOf t0 l ns, ⟨LOG1, d1, s1⟩] ∧ s1 ≤ d1.length ∧ d1.length ≤ 30000)
theorem LogIs.mono {told told' : List (List UInt8)} {k k' : Nat} {least : Int} {t0 : T} {l : List Tn} {ns : Nat} (h : LogIs told k least t0 l ns) (hm : ∀ x ∈ told.take (k + 1), x ∈ told'.take (k' + 1)) : LogIs told' k' least t0 l ns :=
  { h with told := fun j h1 h2 => hm _ (h.told j h1 h2) }
theorem CutOk.mono {told told' : List (List UInt8)} {k k' : Nat} {least : Int} {D : List Fl} (h : CutOk told k least D) (hm : ∀ x ∈ told.take (k + 1), x ∈ told'.take (k' + 1)) : CutOk told' k' least D := by
  obtain ⟨t0, l, ns, h1, h2⟩ := h
  exact ⟨t0, l, ns, h1.mono hm, h2⟩
structure INV (steps : List Stp) (told : List (List UInt8)) (ends : List Nat) (safes : List Int) (safe : Int) (now : T) (data : List UInt8) : Prop where
  l1 : ends.length = told.length
  l2 : safes.length = told.length
  pos : 0 < told.length
  le : ∀ x ∈ ends, x ≤ steps.length
  three : 3 ≤ steps.length
  cut : ∀ c, 3 ≤ c → c ≤ steps.length → CutOk told (dkOf ends c) (leastOf safes (dkOf ends c)) (disk (steps.take c))
  last : ∃ t0 l ns, LogIs told told.length safe t0 l ns ∧ playsT t0 l = now ∧ logB t0 l = data ∧ disk steps = [fileOf t0 l ns]
theorem take_mem {α : Type} {l : List α} {y : α} {k : Nat} : ∀ x ∈ l.take k, x ∈ (l ++ [y]).take k := fun x hx => by
  rw [List.take_append]
  exact List.mem_append_left _ hx
theorem least_old {safes : List Int} {s : Int} {k : Nat} (hk : k ≤ safes.length) (h0 : 0 < safes.length) : leastOf (safes ++ [s]) k = leastOf safes k := by
  unfold leastOf
  rw [List.getElem?_append_left (by omega)]
theorem least_new {safes : List Int} {s : Int} {k : Nat} (hk : k = safes.length + 1) : leastOf (safes ++ [s]) k = s := by
  unfold leastOf
  rw [hk, Nat.add_sub_cancel, List.getElem?_append_right (Nat.le_refl _)]
  simp
/-- One call more. -/
theorem INV.more {steps : List Stp} {told : List (List UInt8)} {ends : List Nat} {safes : List Int} {safe : Int} {now : T} {data : List UInt8} (h : INV steps told ends safes safe now data) (xs : List Stp) (tl : List UInt8) (safe' : Int) (now' : T) (data' : List UInt8) (hx : 0 < xs.length)
    (hmid : ∀ c, steps.length < c → c < steps.length + xs.length → CutOk told told.length (leastOf safes told.length) (disk ((steps ++ xs).take c)))
    (hlast : ∃ t0 l ns, LogIs (told ++ [tl]) (told.length + 1) safe' t0 l ns ∧ playsT t0 l = now' ∧ logB t0 l = data' ∧ disk (steps ++ xs) = [fileOf t0 l ns]) :
    INV (steps ++ xs) (told ++ [tl]) (ends ++ [steps.length + xs.length]) (safes ++ [safe']) safe' now' data' := by
  have hl1 := h.l1
  have hl2 := h.l2
  have hp := h.pos
  refine ⟨by simp [hl1], by simp [hl2], by simp, ?_, by rw [List.length_append]; have := h.three; omega, ?_, ?_⟩
  · intro x hxm
    rw [List.length_append]
    rcases List.mem_append.1 hxm with hx1 | hx1
    · have := h.le x hx1; omega
    · have : x = steps.length + xs.length := by simpa using hx1
      omega
  · intro c h3 hc
    rw [List.length_append] at hc
    by_cases h1 : c ≤ steps.length
    · rw [dkOf_old (by omega), least_old (by have := dkOf_le ends c; omega) (by omega), List.take_append_of_le_length h1]
      exact (h.cut c h3 h1).mono take_mem
    · have hall : dkOf ends c = ends.length := dkOf_all (fun x hx => by have := h.le x hx; omega)
      by_cases h2 : c < steps.length + xs.length
      · rw [dkOf_old h2, hall, hl1, least_old (by omega) (by omega)]
        exact (hmid c (by omega) h2).mono take_mem
      · obtain rfl : c = steps.length + xs.length := by omega
        have hall2 : dkOf (ends ++ [steps.length + xs.length]) (steps.length + xs.length) = told.length + 1 := by
          rw [dkOf_all]
          · simp [hl1]
          · intro x hxm
            rcases List.mem_append.1 hxm with hx1 | hx1
            · have := h.le x hx1; omega
            · have : x = steps.length + xs.length := by simpa using hx1
              omega
        rw [hall2, least_new (by omega), List.take_of_length_le (by rw [List.length_append]; omega)]
        obtain ⟨t0, l, ns, g1, _, _, g4⟩ := hlast
        exact ⟨t0, l, ns, g1, Or.inl g4⟩
  · obtain ⟨t0, l, ns, g1, g2, g3, g4⟩ := hlast
    exact ⟨t0, l, ns, g1.mono (fun x hx => by
      rw [List.take_of_length_le (by simp)] at hx ⊢
      exact hx), g2, g3, g4⟩
theorem take_all {α : Type} {l : List α} {k : Nat} (h : l.length ≤ k) : ∀ x ∈ l, x ∈ l.take k := fun x hx => by rwa [List.take_of_length_le h]
theorem INV.play {steps : List Stp} {told : List (List UInt8)} {ends : List Nat} {safes : List Int} {safe : Int} {now : T} {data : List UInt8} (h : INV steps told ends safes safe now data) (p : Tn) (hp : p.1.length ≤ 2 ∧ p.2.length ≤ 2) (hn : now.turn < 1000) :
    INV (steps ++ [sApp LOG (turnFr now p)]) (told ++ [tellB (playW now p)]) (ends ++ [steps.length + 1]) (safes ++ [safe]) safe (playW now p) (data ++ turnFr now p) := by
  refine h.more [sApp LOG (turnFr now p)] _ safe _ _ (by simp) (fun c h1 h2 => by simp at h2; omega) ?_
  obtain ⟨t0, l, ns, g1, rfl, rfl, g4⟩ := h.last
  have hbd := g1.bd
  obtain ⟨k1, k2⟩ := g1.gg.plays l (by omega)
  have hns := g1.nsl
  refine ⟨t0, l ++ [p], ns, ⟨g1.gg, ?_, ?_, by simp; omega, g1.least, ?_⟩, plays_snoc t0 l p, log_snoc t0 l p, ?_⟩
  · rw [List.length_append]; simp; omega
  · intro q hq
    rcases List.mem_append.1 hq with hq | hq
    · exact g1.sh q hq
    · have : q = p := by simpa using hq
      rw [this]; exact hp
  · intro j h1 h2
    rw [List.take_of_length_le (by simp)]
    by_cases hj : j ≤ l.length
    · rw [List.take_append_of_le_length hj]
      have := g1.told j h1 hj
      exact List.mem_append_left _ (List.mem_of_mem_take this)
    · have : j = (l ++ [p]).length := by simp at h2 ⊢; omega
      rw [this, List.take_length, plays_snoc]
      simp
  · rw [disk_snoc, g4]
    unfold fileOf
    rw [st_app, log_snoc, List.take_append_of_le_length g1.nsl]
theorem INV.sync {steps : List Stp} {told : List (List UInt8)} {ends : List Nat} {safes : List Int} {safe : Int} {now : T} {data : List UInt8} (h : INV steps told ends safes safe now data) :
    INV (steps ++ [sSync LOG]) (told ++ [tellB now]) (ends ++ [steps.length + 1]) (safes ++ [now.turn]) now.turn now data := by
  refine h.more [sSync LOG] _ now.turn _ _ (by simp) (fun c h1 h2 => by simp at h2; omega) ?_
  obtain ⟨t0, l, ns, g1, rfl, rfl, g4⟩ := h.last
  have hbd := g1.bd
  obtain ⟨k1, k2⟩ := g1.gg.plays l (by omega)
  refine ⟨t0, l, l.length, ⟨g1.gg, g1.bd, g1.sh, Nat.le_refl _, by omega, fun j h1 h2 => ?_⟩, rfl, rfl, ?_⟩
  · have : j = l.length := by omega
    rw [this, List.take_length, List.take_of_length_le (by simp)]
    simp
  · rw [disk_snoc, g4]
    unfold fileOf
    rw [st_sync, List.take_length]
theorem INV.fold {steps : List Stp} {told : List (List UInt8)} {ends : List Nat} {safes : List Int} {safe : Int} {now : T} {data : List UInt8} (h : INV steps told ends safes safe now data) (hs : leastOf safes told.length ≤ safe) :
    INV (steps ++ [sApp LOG1 (frameB 2 (tellB now)), sSync LOG1, sRen LOG1 LOG]) (told ++ [tellB now]) (ends ++ [steps.length + 3]) (safes ++ [now.turn]) now.turn now (frameB 2 (tellB now)) := by
  obtain ⟨t0, l, ns, g1, g2, g3, g4⟩ := h.last
  have hbd := g1.bd
  obtain ⟨k1, k2⟩ := g1.gg.plays l (by omega)
  rw [g2] at k1 k2
  have htl := tellB_len k1 (by omega)
  have hfl := frameB_len 2 (tellB now) (by omega)
  have e1 : disk (steps ++ [sApp LOG1 (frameB 2 (tellB now))]) = [fileOf t0 l ns, ⟨LOG1, frameB 2 (tellB now), 0⟩] := by
    rw [disk_snoc, g4]; exact st_fold1 _ _ _
  have e2 : disk (steps ++ [sApp LOG1 (frameB 2 (tellB now)), sSync LOG1]) = [fileOf t0 l ns, ⟨LOG1, frameB 2 (tellB now), (frameB 2 (tellB now)).length⟩] := by
    rw [show steps ++ [sApp LOG1 (frameB 2 (tellB now)), sSync LOG1] = (steps ++ [sApp LOG1 (frameB 2 (tellB now))]) ++ [sSync LOG1] by simp, disk_snoc, e1]; exact st_fold2 _ _ _
  have e3 : disk (steps ++ [sApp LOG1 (frameB 2 (tellB now)), sSync LOG1, sRen LOG1 LOG]) = [⟨LOG, frameB 2 (tellB now), (frameB 2 (tellB now)).length⟩] := by
    rw [show steps ++ [sApp LOG1 (frameB 2 (tellB now)), sSync LOG1, sRen LOG1 LOG] = (steps ++ [sApp LOG1 (frameB 2 (tellB now)), sSync LOG1]) ++ [sRen LOG1 LOG] by simp, disk_snoc, e2]; exact st_fold3 _ _ _
  have g1' : LogIs told told.length (leastOf safes told.length) t0 l ns := { g1 with least := by have := g1.least; omega }
  refine h.more [sApp LOG1 (frameB 2 (tellB now)), sSync LOG1, sRen LOG1 LOG] _ now.turn _ _ (by simp) (fun c h1 h2 => ?_) ?_
  · have : c = steps.length + 1 ∨ c = steps.length + 2 := by simp at h2; omega
    rcases this with rfl | rfl
    · have : (steps ++ [sApp LOG1 (frameB 2 (tellB now)), sSync LOG1, sRen LOG1 LOG]).take (steps.length + 1) = steps ++ [sApp LOG1 (frameB 2 (tellB now))] := by
        rw [List.take_length_add_append]; rfl
      rw [this, e1]
      exact ⟨t0, l, ns, g1', Or.inr ⟨_, _, rfl, Nat.zero_le _, by omega⟩⟩
    · have : (steps ++ [sApp LOG1 (frameB 2 (tellB now)), sSync LOG1, sRen LOG1 LOG]).take (steps.length + 2) = steps ++ [sApp LOG1 (frameB 2 (tellB now)), sSync LOG1] := by
        rw [List.take_length_add_append]; rfl
      rw [this, e2]
      exact ⟨t0, l, ns, g1', Or.inr ⟨_, _, rfl, Nat.le_refl _, by omega⟩⟩
  · refine ⟨now, [], 0, ⟨k1, by simp; omega, fun q hq => by simp at hq, Nat.le_refl _, by simp, fun j h1 h2 => ?_⟩, rfl, by unfold logB turnsB; rw [List.append_nil], ?_⟩
    · rw [List.take_of_length_le (by simp)]
      simp [playsT]
    · rw [e3]
      unfold fileOf logB
      simp [turnsB]
theorem INV.first {t : T} (h : GG t) (h0 : t.turn = 0) : INV [sApp LOG1 (frameB 2 (tellB t)), sSync LOG1, sRen LOG1 LOG] [tellB t] [3] [0] 0 t (frameB 2 (tellB t)) := by
  have hd : disk [sApp LOG1 (frameB 2 (tellB t)), sSync LOG1, sRen LOG1 LOG] = [fileOf t [] 0] := by
    unfold disk
    simp only [List.foldl_cons, List.foldl_nil]
    rw [st_first]
    unfold fileOf logB
    simp [turnsB]
  have hl : ∀ k, LogIs [tellB t] k 0 t [] 0 := fun k => ⟨h, by simp; omega, fun q hq => by simp at hq, Nat.le_refl _, by simp; omega, fun j h1 h2 => by simp [playsT]⟩
  refine ⟨rfl, rfl, by simp, by simp, by simp, fun c h3 hc => ?_, ⟨t, [], 0, hl _, rfl, by unfold logB turnsB; rw [List.append_nil], hd⟩⟩
  have : c = 3 := by simp at hc; omega
  subst this
  have hk : dkOf [3] 3 = 1 := by decide
  rw [hk]
  have hls : leastOf [0] 1 = 0 := by decide
  rw [hls]
  exact ⟨t, [], 0, hl 1, Or.inl (by rw [List.take_of_length_le (by simp)]; exact hd)⟩
/-- What is opened: a game that was, at no earlier turn than was safe. -/
theorem CutOk.found {told : List (List UInt8)} {k : Nat} {least : Int} {t0 : T} {l : List Tn} {ns : Nat} (h : LogIs told k least t0 l ns) (n : Nat) (hn : (logB t0 (l.take ns)).length ≤ n) :
    (frameB 2 (tellB t0)).length ≤ n ∧ ∃ t1, t1 = (cutT t0 l (n - (frameB 2 (tellB t0)).length)).1 ∧ GG t1 ∧ t1.turn ≤ 1000 ∧ tellB t1 ∈ told.take (k + 1) ∧ least ≤ t1.turn := by
  unfold logB at hn
  rw [List.length_append] at hn
  obtain ⟨j, h1, h2, h3⟩ := cut_found l t0 (n - (frameB 2 (tellB t0)).length)
  have hj := h3 ns h.nsl (by omega)
  have hbd := h.bd
  have hjl : (l.take j).length = j := by rw [List.length_take]; omega
  obtain ⟨k1, k2⟩ := h.gg.plays (l.take j) (by omega)
  refine ⟨by omega, _, rfl, ?_⟩
  rw [h2]
  have hl := h.least
  exact ⟨k1, by omega, h.told j hj h1, by omega⟩
end Go.Proofs.YtapabahhfanmmaaGreatDoor
/- Rows of files that are cut: what is read and written in them. -/
namespace Go.Proofs.YtapabahhfanmmaaGreatDoor
open Go.RowKit

abbrev Fl.fc (f : Fl) : List Value := [sv f.name, sv f.data]
theorem rows_at {w : World} {base n : Nat} {e : TypeId} {size : Nat} {v : Value} {xs : List Value} (h : w.ownsRow base e size v n xs) {j : Nat} {u : Value} (hu : xs[j]? = some u) (hx : xs.length = n * size) : ∃ g cap, v = .slice (some ⟨g, 0, none⟩) n cap ∧ base ≤ g ∧ g < w.heap.size ∧ w.cell? ⟨g, j, none⟩ = some u ∧ w.frozen? ⟨g, j, none⟩ = false := by
  have hj : j < xs.length := (List.getElem?_eq_some_iff.1 hu).1
  rcases h.2 with ⟨rfl, h0⟩ | ⟨g, cap, cur, rfl, hb, hg, h1, h2, h3, h4⟩
  · rw [h0] at hx; omega
  · refine ⟨g, cap, rfl, hb, lt_of_heap hg, ?_, frozen_of_heap hg⟩
    rw [cell_of_heap hg, ← Array.getElem?_toList]
    rw [← h4, List.getElem?_take_of_lt (by omega)] at hu
    exact hu
theorem rows_set {w : World} {base n : Nat} {e : TypeId} {size : Nat} {g cap : Nat} {xs : List Value} (h : w.ownsRow base e size (.slice (some ⟨g, 0, none⟩) n cap) n xs) (j : Nat) (u : Value) : (w.setCell ⟨g, j, none⟩ u).ownsRow base e size (.slice (some ⟨g, 0, none⟩) n cap) n (xs.set j u) := by
  rcases h.2 with ⟨h1, h0⟩ | ⟨g', cap', cur, h1, hb, hg, h5, h2, h3, h4⟩
  · cases h1
  · obtain ⟨rfl, rfl⟩ : g = g' ∧ cap = cap' := by simpa using h1
    refine ⟨by rw [List.length_set]; exact h.1, Or.inr ⟨g, cap, cur.setIfInBounds j u, rfl, hb, setCell_heap hg u, h5, h2, by simpa using h3, ?_⟩⟩
    rw [Array.toList_setIfInBounds, List.take_set, h4]
theorem fc_len (l : List Fl) : (l.flatMap Fl.fc).length = l.length * 2 := by
  induction l with
  | nil => rfl
  | cons a l ih => rw [List.flatMap_cons, List.length_append, ih]; simp; omega
theorem fc_at : ∀ (l : List Fl) (i : Nat) (f : Fl), l[i]? = some f → (l.flatMap Fl.fc)[i * 2]? = some (sv f.name) ∧ (l.flatMap Fl.fc)[i * 2 + 1]? = some (sv f.data)
  | [], _, _, h => by simp at h
  | a :: l, 0, f, h => by
    have : a = f := by simpa using h
    subst this
    simp
  | a :: l, i + 1, f, h => by
    obtain ⟨h1, h2⟩ := fc_at l i f (by simpa using h)
    rw [List.flatMap_cons, List.getElem?_append_right (by simp; omega), List.getElem?_append_right (by simp; omega)]
    have e1 : (i + 1) * 2 - a.fc.length = i * 2 := by simp; omega
    have e2 : (i + 1) * 2 + 1 - a.fc.length = i * 2 + 1 := by simp; omega
    rw [e1, e2]
    exact ⟨h1, h2⟩
theorem fc_set : ∀ (l : List Fl) (i : Nat) (d : List UInt8), i < l.length → (l.flatMap Fl.fc).set (i * 2 + 1) (sv d) = (l.modify i fun f => { f with data := d }).flatMap Fl.fc
  | [], _, _, h => by simp at h
  | a :: l, 0, d, _ => by simp
  | a :: l, i + 1, d, h => by
    have ih := fc_set l i d (by simpa using h)
    rw [List.modify_succ_cons, List.flatMap_cons, List.flatMap_cons, ← ih, List.set_append_right _ _ (by simp; omega)]
    congr 2
    simp
    omega
theorem fc_same : ∀ (l : List Fl) (i : Nat) (n : Nat), (l.modify i fun f => { f with safe := n }).flatMap Fl.fc = l.flatMap Fl.fc
  | [], _, _ => by simp
  | a :: l, 0, n => by simp
  | a :: l, i + 1, n => by rw [List.modify_succ_cons, List.flatMap_cons, List.flatMap_cons, fc_same l i n]
theorem sf_set : ∀ (l : List Fl) (i : Nat) (n : Nat), (l.map fun f => ii (f.safe : Int)).set i (ii (n : Int)) = (l.modify i fun f => { f with safe := n }).map fun f => ii (f.safe : Int)
  | [], _, _ => by simp
  | a :: l, 0, n => by simp
  | a :: l, i + 1, n => by
    have ih := sf_set l i n
    rw [List.modify_succ_cons, List.map_cons, List.map_cons, List.set_cons_succ, ih]
theorem sf_same : ∀ (l : List Fl) (i : Nat) (d : List UInt8), (l.modify i fun f => { f with data := d }).map (fun f => ii (f.safe : Int)) = l.map fun f => ii (f.safe : Int)
  | [], _, _ => by simp
  | a :: l, 0, d => by simp
  | a :: l, i + 1, d => by rw [List.modify_succ_cons, List.map_cons, List.map_cons, sf_same l i d]
/-- The files and how many bytes of each are safe, in memory. -/
structure DK (w : World) (lv zv : Value) (fl : List Fl) (wr : World) : Prop where
  l : wr.ownsRow w.heap.size 115 2 lv fl.length (fl.flatMap Fl.fc)
  s : wr.ownsRow w.heap.size 3 1 zv fl.length (fl.map fun f => ii (f.safe : Int))
  ne : ∀ b, lv.ownBlock = some b → zv.ownBlock ≠ some b
  fr : Fr [] w wr
theorem DK.fr0 {w : World} {lv zv : Value} {fl : List Fl} {wr w' : World} (h : DK w lv zv fl wr) (hf : Fr [] wr w') : DK w lv zv fl w' := ⟨rows_fr h.l hf (by simp), rows_fr h.s hf (by simp), h.ne, h.fr.then0 hf⟩
theorem DK.file {w : World} {lv zv : Value} {fl : List Fl} {wr : World} (h : DK w lv zv fl wr) {i : Nat} {f : Fl} (hi : fl[i]? = some f) : ∃ g cap, lv = .slice (some ⟨g, 0, none⟩) fl.length cap ∧ w.heap.size ≤ g ∧ g < wr.heap.size ∧ wr.cell? ⟨g, i * 2, none⟩ = some (sv f.name) ∧ wr.cell? ⟨g, i * 2 + 1, none⟩ = some (sv f.data) ∧ wr.frozen? ⟨g, i * 2 + 1, none⟩ = false := by
  obtain ⟨h1, h2⟩ := fc_at fl i f hi
  obtain ⟨g, cap, rfl, hb, hg, c1, _⟩ := rows_at h.l h1 (fc_len fl)
  obtain ⟨g', cap', e, _, _, c2, z2⟩ := rows_at h.l h2 (fc_len fl)
  obtain ⟨rfl, rfl⟩ : g = g' ∧ cap = cap' := by simpa using e
  exact ⟨g, cap, rfl, hb, hg, c1, c2, z2⟩
theorem DK.safe {w : World} {lv zv : Value} {fl : List Fl} {wr : World} (h : DK w lv zv fl wr) {i : Nat} {f : Fl} (hi : fl[i]? = some f) : ∃ g cap, zv = .slice (some ⟨g, 0, none⟩) fl.length cap ∧ w.heap.size ≤ g ∧ g < wr.heap.size ∧ wr.cell? ⟨g, i, none⟩ = some (ii (f.safe : Int)) ∧ wr.frozen? ⟨g, i, none⟩ = false := by
  have h1 : (fl.map fun f => ii (f.safe : Int))[i]? = some (ii (f.safe : Int)) := by simp [hi]
  obtain ⟨g, cap, rfl, hb, hg, c1, z1⟩ := rows_at h.s h1 (by simp)
  exact ⟨g, cap, rfl, hb, hg, c1, z1⟩
theorem DK.setData {w : World} {g cap : Nat} {n : Nat} {zv : Value} {fl : List Fl} {wr : World} (h : DK w (.slice (some ⟨g, 0, none⟩) n cap) zv fl wr) (hn : n = fl.length) (i : Nat) (hi : i < fl.length) (d : List UInt8) : DK w (.slice (some ⟨g, 0, none⟩) n cap) zv (fl.modify i fun f => { f with data := d }) (wr.setCell ⟨g, i * 2 + 1, none⟩ (sv d)) := by
  subst hn
  have hb := (rows_lt h.l (b := g) rfl).1
  refine ⟨?_, ?_, h.ne, h.fr.setCell _ _ (Or.inr hb)⟩
  · rw [← fc_set fl i d hi, List.length_modify]
    exact rows_set h.l (i * 2 + 1) (sv d)
  · rw [sf_same, List.length_modify]
    exact rows_fr h.s ((Fr.refl [g] wr).setCell _ _ (Or.inl (by simp))) (fun b hb' e => by
      have : b = g := by simpa using e
      subst this
      exact h.ne b rfl hb')
theorem DK.setSafe {w : World} {g cap : Nat} {n : Nat} {lv : Value} {fl : List Fl} {wr : World} (h : DK w lv (.slice (some ⟨g, 0, none⟩) n cap) fl wr) (hn : n = fl.length) (i : Nat) (m : Nat) : DK w lv (.slice (some ⟨g, 0, none⟩) n cap) (fl.modify i fun f => { f with safe := m }) (wr.setCell ⟨g, i, none⟩ (ii (m : Int))) := by
  subst hn
  have hb := (rows_lt h.s (b := g) rfl).1
  refine ⟨?_, ?_, h.ne, h.fr.setCell _ _ (Or.inr hb)⟩
  · rw [fc_same, List.length_modify]
    exact rows_fr h.l ((Fr.refl [g] wr).setCell _ _ (Or.inl (by simp))) (fun b hb' e => by
      have : b = g := by simpa using e
      subst this
      exact h.ne b hb' rfl)
  · rw [← sf_set, List.length_modify]
    exact rows_set h.s i (ii (m : Int))
theorem atTo_spec (l : List Fl) (n : List UInt8) : ∀ k, k ≤ l.length → atTo l n k = -1 ∨ ∃ a f, a < k ∧ atTo l n k = (a : Int) ∧ l[a]? = some f ∧ f.name = n
  | 0, _ => Or.inl rfl
  | k + 1, h => by
    unfold atTo
    split
    · rename_i e
      obtain ⟨f, hf⟩ : ∃ f, l[k]? = some f := ⟨l[k], List.getElem?_eq_getElem (by omega)⟩
      rw [hf] at e
      exact Or.inr ⟨k, f, by omega, rfl, hf, by simpa using e⟩
    · rcases atTo_spec l n k (by omega) with h1 | ⟨a, f, h1, h2, h3, h4⟩
      · exact Or.inl h1
      · exact Or.inr ⟨a, f, by omega, h2, h3, h4⟩
/-- A file is put behind. -/
theorem DK.add {w : World} {lv zv lv' zv' : Value} {fl : List Fl} {W W1 w2 W3 w4 : World} (h : DK w lv zv fl W) (h1 : Fr [] W W1) (nm dt : List UInt8) (ho : w2.ownsRow w.heap.size 115 2 lv' (fl.length + 1) (fl.flatMap Fl.fc ++ [sv nm, sv dt])) (hg : W1.grownBy w2 lv.ownBlock) (hat : lv'.ownBlock = lv.ownBlock ∨ lv'.ownBlock = some W1.heap.size)
    (h3 : Fr [] w2 W3) (ho2 : w4.ownsRow w.heap.size 3 1 zv' (fl.length + 1) ((fl.map fun f => ii (f.safe : Int)) ++ [ii 0])) (hg2 : W3.grownBy w4 zv.ownBlock) (hat2 : zv'.ownBlock = zv.ownBlock ∨ zv'.ownBlock = some W3.heap.size) : DK w lv' zv' (fl ++ [⟨nm, dt, 0⟩]) w4 := by
  have hf2 : Fr lv.ownBlock.toList W1 w2 := fr_grown (Fr.refl _ _) hg (fun b hb => Or.inl (by simp [hb]))
  have hf4 : Fr zv.ownBlock.toList W3 w4 := fr_grown (Fr.refl _ _) hg2 (fun b hb => Or.inl (by simp [hb]))
  have s1 := h1.size
  have s2 := hf2.size
  have s3 := h3.size
  have hlv : ∀ b, lv'.ownBlock = some b → zv.ownBlock ≠ some b := fun b hb e => by
    rcases hat with e1 | e1
    · exact h.ne b (e1 ▸ hb) e
    · rw [e1] at hb
      have := Option.some.inj hb
      have := (rows_lt h.s e).2
      omega
  refine ⟨?_, ?_, fun b hb e => ?_, ?_⟩
  · have := rows_fr (rows_fr ho h3 (by simp)) hf4 (fun b hb e => hlv b hb (by simpa using e))
    rw [List.flatMap_append, List.length_append]
    simpa using this
  · rw [List.map_append, List.length_append]
    exact ho2
  · rcases hat2 with e2 | e2
    · exact hlv b hb (e2 ▸ e)
    · rw [e2] at e
      have := Option.some.inj e
      have := (rows_lt ho hb).2
      omega
  · have a1 : Fr [] w w2 := (h.fr.then0 h1).trans hf2 (fun b hb => Or.inr (rows_lt h.l (by simpa using hb)).1)
    exact (a1.then0 h3).trans hf4 (fun b hb => Or.inr (rows_lt h.s (by simpa using hb)).1)
/-- One file alone, new. -/
theorem DK.one {w : World} {lv zv : Value} {W w2 W3 w4 : World} (h0 : Fr [] w W) (nm dt : List UInt8) (n : Nat) (ho : w2.ownsRow W.heap.size 115 2 lv 1 [sv nm, sv dt]) (hf2 : Fr [] W w2) (h3 : Fr [] w2 W3) (ho2 : w4.ownsRow W3.heap.size 3 1 zv 1 [ii (n : Int)]) (hf4 : Fr [] W3 w4) : DK w lv zv [⟨nm, dt, n⟩] w4 := by
  have s1 := h0.size
  have s2 := hf2.size
  have s3 := h3.size
  refine ⟨?_, ?_, fun b hb e => ?_, ((h0.then0 hf2).then0 h3).then0 hf4⟩
  · have := rows_fr (rows_fr ho h3 (by simp)) hf4 (by simp)
    refine ⟨this.1, ?_⟩
    rcases this.2 with h | ⟨g, cap, cur, e1, e2, r⟩
    · exact Or.inl h
    · exact Or.inr ⟨g, cap, cur, e1, by omega, r⟩
  · refine ⟨ho2.1, ?_⟩
    rcases ho2.2 with h | ⟨g, cap, cur, e1, e2, r⟩
    · exact Or.inl h
    · exact Or.inr ⟨g, cap, cur, e1, by omega, r⟩
  · have := (rows_lt ho hb).2
    have := (rows_lt ho2 e).1
    omega
theorem modify_data {l : List Fl} {a : Nat} {f : Fl} (h : l[a]? = some f) (dt : List UInt8) : (l.modify a fun x => { x with data := x.data ++ dt }) = l.modify a fun x => { x with data := f.data ++ dt } := by
  apply List.ext_getElem?
  intro i
  rw [List.getElem?_modify, List.getElem?_modify]
  by_cases e : a = i
  · subst e; rw [h]; simp
  · simp [e]
theorem modify_safe {l : List Fl} {a : Nat} {f : Fl} (h : l[a]? = some f) : (l.modify a fun x => { x with safe := x.data.length }) = l.modify a fun x => { x with safe := f.data.length } := by
  apply List.ext_getElem?
  intro i
  rw [List.getElem?_modify, List.getElem?_modify]
  by_cases e : a = i
  · subst e; rw [h]; simp
  · simp [e]
/-- Steps as a record does them. -/
def StepOk (fl : List Fl) (s : Stp) : Prop := s.what = 1 ∨ (s.what = 2 ∧ 0 ≤ atOf fl s.name) ∨ (s.what = 3 ∧ 0 ≤ atOf fl s.name ∧ ∀ (k : Nat) (f : Fl), fl[k]? = some f → (k : Int) = atOf fl s.name ∨ f.name = s.to)
theorem others_nil {fl : List Fl} {a : Int} {s : Stp} (hw : s.what ≠ 4) (h : ∀ (k : Nat) (f : Fl), fl[k]? = some f → (k : Int) = a ∨ f.name = s.to) : ∀ k, othersTo fl a s k = []
  | 0 => rfl
  | k + 1 => by
    unfold othersTo
    rw [others_nil hw h k, List.nil_append]
    cases hk : fl[k]? with
    | none => rfl
    | some f =>
      dsimp only
      rw [if_neg]
      rintro ⟨h1, h2⟩
      rcases h k f hk with h3 | h3
      · exact h1 h3
      · rcases h2 with h2 | h2
        · exact hw h2
        · exact h2 h3
/-- Some files are cut, the others are not yet. -/
structure TR (fl fl' : List Fl) (q : Nat) : Prop where
  len : fl'.length = fl.length
  each : ∀ (i : Nat) (f f' : Fl), fl[i]? = some f → fl'[i]? = some f' → f'.name = f.name ∧ f'.safe = f.safe ∧ (∃ n, f.safe ≤ n ∧ f'.data = f.data.take n) ∧ (q ≤ i → f'.data = f.data)
theorem TR.start (fl : List Fl) (h : ∀ f ∈ fl, f.safe ≤ f.data.length) : TR fl fl 0 := ⟨rfl, fun i f f' h1 h2 => by
  obtain rfl : f = f' := Option.some.inj (h1.symm.trans h2)
  exact ⟨rfl, rfl, ⟨f.data.length, h f (List.mem_of_getElem? h1), by rw [List.take_length]⟩, fun _ => rfl⟩⟩
theorem TR.next {fl fl' : List Fl} {q : Nat} (h : TR fl fl' q) {f : Fl} (hf : fl[q]? = some f) (n : Nat) (hn : f.safe ≤ n) : TR fl (fl'.modify q fun x => { x with data := f.data.take n }) (q + 1) := by
  refine ⟨by rw [List.length_modify]; exact h.len, fun i g g' h1 h2 => ?_⟩
  rw [List.getElem?_modify] at h2
  by_cases e : q = i
  · subst e
    obtain rfl : f = g := Option.some.inj (hf.symm.trans h1)
    cases hx : fl'[q]? with
    | none => rw [hx] at h2; simp at h2
    | some x =>
      rw [hx] at h2
      have h3 : { x with data := f.data.take n } = g' := by simpa using h2
      subst h3
      obtain ⟨a1, a2, _, _⟩ := h.each q f x h1 hx
      exact ⟨a1, a2, ⟨n, hn, rfl⟩, fun hh => by omega⟩
  · have h3 : fl'[i]? = some g' := by simpa [e] using h2
    obtain ⟨a1, a2, a3, a4⟩ := h.each i g g' h1 h3
    exact ⟨a1, a2, a3, fun hh => a4 (by omega)⟩
end Go.Proofs.YtapabahhfanmmaaGreatDoor
/- Torn, plainly: what is handed to cutOff, and what comes out. -/
namespace Go.Proofs.YtapabahhfanmmaaGreatDoor
open Go.RowKit

theorem LogIs.lens {told : List (List UInt8)} {k : Nat} {least : Int} {t0 : T} {l : List Tn} {ns : Nat} (h : LogIs told k least t0 l ns) : (logB t0 l).length ≤ 200000 ∧ (logB t0 (l.take ns)).length ≤ (logB t0 l).length := by
  have hbd := h.bd
  have h0 := h.gg.t0
  have htl := tellB_len h.gg (by omega)
  have hfl := frameB_len 2 (tellB t0) (by omega)
  have hln := turns_len l h.gg (by omega) h.sh
  have hle := turns_le t0 l ns
  unfold logB
  rw [List.length_append, List.length_append]
  omega
structure BdG (D : List Fl) : Prop where
  len : D.length ≤ 2
  each : ∀ f ∈ D, f.data.length ≤ 1000000 ∧ f.safe ≤ f.data.length
theorem CutOk.bd {told : List (List UInt8)} {k : Nat} {least : Int} {D : List Fl} (h : CutOk told k least D) : BdG D := by
  obtain ⟨t0, l, ns, h1, h2⟩ := h
  obtain ⟨a1, a2⟩ := h1.lens
  have hf : ∀ f, f = fileOf t0 l ns → f.data.length ≤ 1000000 ∧ f.safe ≤ f.data.length := fun f e => by
    subst e
    unfold fileOf
    dsimp only
    omega
  rcases h2 with rfl | ⟨d1, s1, rfl, h3, h4⟩
  · exact ⟨by simp, fun f hf' => hf f (by simpa using hf')⟩
  · refine ⟨by simp, fun f hf' => ?_⟩
    rcases List.mem_cons.1 hf' with e | e
    · exact hf f e
    · have : f = ⟨LOG1, d1, s1⟩ := by simpa using e
      subst this
      dsimp only
      omega
/-- The steps that Torn's record does. -/
structure Tidy (steps : List Stp) : Prop where
  ok : ∀ (k : Nat) (s : Stp), steps[k]? = some s → StepOk (disk (steps.take k)) s ∧ s.data.length ≤ 1000000
  bd : ∀ k, k ≤ steps.length → BdG (disk (steps.take k))
theorem Tidy.more {steps : List Stp} (h : Tidy steps) (s : Stp) (h1 : StepOk (disk steps) s) (h2 : s.data.length ≤ 1000000) (h3 : BdG (disk (steps ++ [s]))) : Tidy (steps ++ [s]) := by
  refine ⟨fun k x hk => ?_, fun k hk => ?_⟩
  · rcases Nat.lt_or_ge k steps.length with hl | hl
    · rw [List.getElem?_append_left hl] at hk
      rw [List.take_append_of_le_length (by omega)]
      exact h.ok k x hk
    · have hl2 := (List.getElem?_eq_some_iff.1 hk).1
      rw [List.length_append] at hl2
      have hke : k = steps.length := by simp at hl2; omega
      subst hke
      have hx : s = x := by
        rw [List.getElem?_append_right (Nat.le_refl _), Nat.sub_self] at hk
        simpa using hk
      subst hx
      rw [List.take_append_of_le_length (Nat.le_refl _), List.take_length]
      exact ⟨h1, h2⟩
  · rcases Nat.lt_or_ge steps.length k with hl | hl
    · rw [List.length_append] at hk
      rw [List.take_of_length_le (by rw [List.length_append]; simp at hk ⊢; omega)]
      exact h3
    · rw [List.take_append_of_le_length hl]
      exact h.bd k hl
theorem Tidy.nil : Tidy [] := ⟨fun k s h => by simp at h, fun k _ => ⟨by simp [disk], fun f hf => by simp [disk] at hf⟩⟩
theorem BdG.one {f : Fl} (h1 : f.data.length ≤ 1000000) (h2 : f.safe ≤ f.data.length) : BdG [f] := by
  refine ⟨by simp, fun g hg => ?_⟩
  have : g = f := by simpa using hg
  subst this
  exact ⟨h1, h2⟩
theorem Tidy.first (x : List UInt8) (hx : x.length ≤ 1000000) : Tidy [sApp LOG1 x, sSync LOG1, sRen LOG1 LOG] := by
  have d1 : disk [sApp LOG1 x] = [⟨LOG1, x, 0⟩] := by simp [disk, dstep, atOf, atTo]
  have d2 : disk [sApp LOG1 x, sSync LOG1] = [⟨LOG1, x, x.length⟩] := by
    rw [show [sApp LOG1 x, sSync LOG1] = [sApp LOG1 x] ++ [sSync LOG1] from rfl, disk_snoc, d1]
    simp [dstep, dkat11]
  have d3 : disk [sApp LOG1 x, sSync LOG1, sRen LOG1 LOG] = [⟨LOG, x, x.length⟩] := by
    unfold disk
    simp only [List.foldl_cons, List.foldl_nil]
    exact st_first x
  have t1 : Tidy ([] ++ [sApp LOG1 x]) := Tidy.nil.more _ (Or.inl rfl) hx (by rw [List.nil_append, d1]; exact BdG.one hx (Nat.zero_le _))
  rw [List.nil_append] at t1
  have t2 : Tidy ([sApp LOG1 x] ++ [sSync LOG1]) := t1.more _ (Or.inr (Or.inl ⟨rfl, by rw [d1, dkat11]; omega⟩)) (by simp) (by
    rw [show [sApp LOG1 x] ++ [sSync LOG1] = [sApp LOG1 x, sSync LOG1] from rfl, d2]
    exact BdG.one hx (Nat.le_refl _))
  have t3 : Tidy ([sApp LOG1 x, sSync LOG1] ++ [sRen LOG1 LOG]) := by
    refine Tidy.more t2 _ (Or.inr (Or.inr ⟨rfl, ?_, ?_⟩)) (by simp) ?_
    · show 0 ≤ atOf (disk ([sApp LOG1 x] ++ [sSync LOG1])) LOG1
      rw [show [sApp LOG1 x] ++ [sSync LOG1] = [sApp LOG1 x, sSync LOG1] from rfl, d2, dkat11]
      omega
    · intro k f hk
      rw [show [sApp LOG1 x] ++ [sSync LOG1] = [sApp LOG1 x, sSync LOG1] from rfl, d2] at hk ⊢
      left
      rw [dkat11]
      have : k < 1 := by simpa using (List.getElem?_eq_some_iff.1 hk).1
      omega
    · rw [show [sApp LOG1 x] ++ [sSync LOG1] ++ [sRen LOG1 LOG] = [sApp LOG1 x, sSync LOG1, sRen LOG1 LOG] from rfl, d3]
      exact BdG.one hx (Nat.le_refl _)
  exact t3
theorem Tidy.play {steps : List Stp} {told : List (List UInt8)} {ends : List Nat} {safes : List Int} {safe : Int} {now : T} {data : List UInt8} (ht : Tidy steps) (h : INV steps told ends safes safe now data) (p : Tn) (hp : p.1.length ≤ 2 ∧ p.2.length ≤ 2) (hn : now.turn < 1000) : Tidy (steps ++ [sApp LOG (turnFr now p)]) := by
  have h2 := h.play p hp hn
  have hb := (h2.cut (steps ++ [sApp LOG (turnFr now p)]).length (by have := h.three; rw [List.length_append]; omega) (Nat.le_refl _)).bd
  rw [List.take_length] at hb
  have := turnFr_len now p (by omega) hp
  exact ht.more _ (Or.inl rfl) (by show (turnFr now p).length ≤ 1000000; omega) hb
theorem Tidy.sync {steps : List Stp} {told : List (List UInt8)} {ends : List Nat} {safes : List Int} {safe : Int} {now : T} {data : List UInt8} (ht : Tidy steps) (h : INV steps told ends safes safe now data) : Tidy (steps ++ [sSync LOG]) := by
  have h2 := h.sync
  have hb := (h2.cut (steps ++ [sSync LOG]).length (by have := h.three; rw [List.length_append]; omega) (Nat.le_refl _)).bd
  rw [List.take_length] at hb
  obtain ⟨t0, l, ns, _, _, _, g4⟩ := h.last
  refine ht.more _ (Or.inr (Or.inl ⟨rfl, ?_⟩)) (by simp) hb
  rw [g4]
  show 0 ≤ atOf [fileOf t0 l ns] LOG
  unfold fileOf
  rw [dkat1]
  omega
theorem Tidy.fold {steps : List Stp} {told : List (List UInt8)} {ends : List Nat} {safes : List Int} {safe : Int} {now : T} {data : List UInt8} (ht : Tidy steps) (h : INV steps told ends safes safe now data) (hs : leastOf safes told.length ≤ safe) : Tidy (steps ++ [sApp LOG1 (frameB 2 (tellB now)), sSync LOG1, sRen LOG1 LOG]) := by
  have h2 := h.fold hs
  have h3 := h.three
  obtain ⟨t0, l, ns, g1, g2, g3, g4⟩ := h.last
  have hbd := g1.bd
  obtain ⟨k1, k2⟩ := g1.gg.plays l (by omega)
  rw [g2] at k1 k2
  have htl := tellB_len k1 (by omega)
  have hfl := frameB_len 2 (tellB now) (by omega)
  have len3 : (steps ++ [sApp LOG1 (frameB 2 (tellB now)), sSync LOG1, sRen LOG1 LOG]).length = steps.length + 3 := by simp
  have b1 := (h2.cut (steps.length + 1) (by omega) (by omega)).bd
  have b2 := (h2.cut (steps.length + 2) (by omega) (by omega)).bd
  have b3 := (h2.cut (steps.length + 3) (by omega) (by omega)).bd
  rw [List.take_length_add_append] at b1 b2 b3
  have e1 : disk (steps ++ [sApp LOG1 (frameB 2 (tellB now))]) = [fileOf t0 l ns, ⟨LOG1, frameB 2 (tellB now), 0⟩] := by
    rw [disk_snoc, g4]; exact st_fold1 _ _ _
  have e2 : disk (steps ++ [sApp LOG1 (frameB 2 (tellB now)), sSync LOG1]) = [fileOf t0 l ns, ⟨LOG1, frameB 2 (tellB now), (frameB 2 (tellB now)).length⟩] := by
    rw [show steps ++ [sApp LOG1 (frameB 2 (tellB now)), sSync LOG1] = (steps ++ [sApp LOG1 (frameB 2 (tellB now))]) ++ [sSync LOG1] by simp, disk_snoc, e1]; exact st_fold2 _ _ _
  have t1 := ht.more (sApp LOG1 (frameB 2 (tellB now))) (Or.inl rfl) (by show (frameB 2 (tellB now)).length ≤ 1000000; omega) b1
  have t2 := t1.more (sSync LOG1) (Or.inr (Or.inl ⟨rfl, by rw [e1]; show 0 ≤ atOf [fileOf t0 l ns, _] LOG1; unfold fileOf; rw [dkat2]; omega⟩)) (by simp) (by
    rw [List.append_assoc]; exact b2)
  have t3 := t2.more (sRen LOG1 LOG) (Or.inr (Or.inr ⟨rfl, by
      rw [List.append_assoc, List.singleton_append, e2]
      show 0 ≤ atOf [fileOf t0 l ns, _] LOG1
      unfold fileOf
      rw [dkat2]
      omega, fun k f hk => by
      rw [List.append_assoc, List.singleton_append, e2] at hk ⊢
      have hk2 : k < 2 := by simpa using (List.getElem?_eq_some_iff.1 hk).1
      have : k = 0 ∨ k = 1 := by omega
      rcases this with rfl | rfl
      · right
        have : fileOf t0 l ns = f := by simpa using hk
        rw [← this]
        rfl
      · left
        show (1 : Int) = atOf [fileOf t0 l ns, _] LOG1
        unfold fileOf
        rw [dkat2]⟩)) (by simp) (by
    rw [List.append_assoc, List.append_assoc]; exact b3)
  rw [List.append_assoc, List.append_assoc] at t3
  exact t3
end Go.Proofs.YtapabahhfanmmaaGreatDoor
/- Torn's loop, plainly: how far it is. -/
namespace Go.Proofs.YtapabahhfanmmaaGreatDoor
open Go.RowKit

theorem INV.gg {steps : List Stp} {told : List (List UInt8)} {ends : List Nat} {safes : List Int} {safe : Int} {now : T} {data : List UInt8} (h : INV steps told ends safes safe now data) : GG now ∧ data.length ≤ 200000 := by
  obtain ⟨t0, l, ns, g1, g2, g3, g4⟩ := h.last
  have hbd := g1.bd
  obtain ⟨k1, k2⟩ := g1.gg.plays l (by omega)
  rw [g2] at k1
  refine ⟨k1, ?_⟩
  have := g1.lens.1
  rw [g3] at this
  exact this
/-- After k turns; s: how many more may be told of this one. -/
structure TL (s k : Nat) (now : T) (data : List UInt8) (steps : List Stp) (told : List (List UInt8)) (ends : List Nat) (safes : List Int) (safe : Int) : Prop where
  inv : INV steps told ends safes safe now data
  tidy : Tidy steps
  tn : now.turn = k
  ls : leastOf safes told.length ≤ safe
  sk : 0 ≤ safe ∧ safe ≤ k
  len : told.length + s ≤ 2 * k + 1
  st : steps.length + 3 * s ≤ 4 * k + 3
  each : ∀ x ∈ safes, 0 ≤ x ∧ x ≤ k
  tl : ∀ x ∈ told, x.length ≤ 20000
theorem TL.first {t : T} (h : GG t) (h0 : t.turn = 0) : TL 0 0 t (frameB 2 (tellB t)) [sApp LOG1 (frameB 2 (tellB t)), sSync LOG1, sRen LOG1 LOG] [tellB t] [3] [0] 0 := by
  have htl := tellB_len h (by omega)
  have hfl := frameB_len 2 (tellB t) (by omega)
  refine ⟨INV.first h h0, Tidy.first _ (by omega), by rw [h0]; rfl, (by show leastOf [0] 1 ≤ 0; decide), by omega, by simp, by simp, by simp, fun x hx => ?_⟩
  have : x = tellB t := by simpa using hx
  rw [this]
  exact htl
theorem TL.play {k : Nat} {now : T} {data : List UInt8} {steps : List Stp} {told : List (List UInt8)} {ends : List Nat} {safes : List Int} {safe : Int} (h : TL 0 k now data steps told ends safes safe) (hk : k < 300) (p : Tn) (hp : p.1.length ≤ 2 ∧ p.2.length ≤ 2) : TL 1 (k + 1) (playW now p) (data ++ turnFr now p) (steps ++ [sApp LOG (turnFr now p)]) (told ++ [tellB (playW now p)]) (ends ++ [steps.length + 1]) (safes ++ [safe]) safe := by
  have htn := h.tn
  have hi := h.inv.play p hp (by omega)
  have hgg := hi.gg.1
  have hg0 := h.inv.gg.1
  have ht2 : (playW now p).turn = now.turn + 1 := (play_ok hg0.ok (p.1.map writeC) (p.2.map writeC) (by omega)).tn
  have hl := h.len
  have hs := h.st
  have hsk := h.sk
  refine ⟨hi, h.tidy.play h.inv p hp (by omega), by rw [ht2, htn]; push_cast; rfl, ?_, by omega, by rw [List.length_append]; simp; omega, by rw [List.length_append]; simp; omega, fun x hx => ?_, fun x hx => ?_⟩
  · rw [least_new (by rw [List.length_append, h.inv.l2]; rfl)]
    omega
  · rcases List.mem_append.1 hx with e | e
    · have := h.each x e
      omega
    · have : x = safe := by simpa using e
      omega
  · rcases List.mem_append.1 hx with e | e
    · exact h.tl x e
    · have : x = tellB (playW now p) := by simpa using e
      rw [this]
      exact tellB_len hgg (by omega)
theorem TL.on {k : Nat} {now : T} {data : List UInt8} {steps : List Stp} {told : List (List UInt8)} {ends : List Nat} {safes : List Int} {safe : Int} (h : TL 1 k now data steps told ends safes safe) : TL 0 k now data steps told ends safes safe := by
  have hl := h.len
  have hs := h.st
  exact { h with len := by omega, st := by omega }
theorem TL.sync {k : Nat} {now : T} {data : List UInt8} {steps : List Stp} {told : List (List UInt8)} {ends : List Nat} {safes : List Int} {safe : Int} (h : TL 1 k now data steps told ends safes safe) (hk : k ≤ 300) : TL 0 k now data (steps ++ [sSync LOG]) (told ++ [tellB now]) (ends ++ [steps.length + 1]) (safes ++ [now.turn]) now.turn := by
  have htn := h.tn
  have hl := h.len
  have hs := h.st
  have hg0 := h.inv.gg.1
  refine ⟨h.inv.sync, h.tidy.sync h.inv, htn, ?_, by omega, by rw [List.length_append]; simp; omega, by rw [List.length_append]; simp; omega, fun x hx => ?_, fun x hx => ?_⟩
  · rw [least_new (by rw [List.length_append, h.inv.l2]; rfl)]
    omega
  · rcases List.mem_append.1 hx with e | e
    · exact h.each x e
    · have : x = now.turn := by simpa using e
      omega
  · rcases List.mem_append.1 hx with e | e
    · exact h.tl x e
    · have : x = tellB now := by simpa using e
      rw [this]
      exact tellB_len hg0 (by omega)
theorem TL.fold {k : Nat} {now : T} {data : List UInt8} {steps : List Stp} {told : List (List UInt8)} {ends : List Nat} {safes : List Int} {safe : Int} (h : TL 1 k now data steps told ends safes safe) (hk : k ≤ 300) : TL 0 k now (frameB 2 (tellB now)) (steps ++ [sApp LOG1 (frameB 2 (tellB now)), sSync LOG1, sRen LOG1 LOG]) (told ++ [tellB now]) (ends ++ [steps.length + 3]) (safes ++ [now.turn]) now.turn := by
  have htn := h.tn
  have hl := h.len
  have hs := h.st
  have hg0 := h.inv.gg.1
  refine ⟨h.inv.fold h.ls, h.tidy.fold h.inv h.ls, htn, ?_, by omega, by rw [List.length_append]; simp; omega, by rw [List.length_append]; simp; omega, fun x hx => ?_, fun x hx => ?_⟩
  · rw [least_new (by rw [List.length_append, h.inv.l2]; rfl)]
    omega
  · rcases List.mem_append.1 hx with e | e
    · exact h.each x e
    · have : x = now.turn := by simpa using e
      omega
  · rcases List.mem_append.1 hx with e | e
    · exact h.tl x e
    · have : x = tellB now := by simpa using e
      rw [this]
      exact tellB_len hg0 (by omega)
end Go.Proofs.YtapabahhfanmmaaGreatDoor
