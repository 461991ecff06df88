import Derived.Test.YtapabahhfanmmaaDoorCActA
/- One acts, whatever they were told. -/
namespace Go.Proofs.YtapabahhfanmmaaDoor
open Go.RowKit

theorem putBack_ids (t : T) (u : U) : (putBack t u).us.map U.id = t.us.map U.id := by
  unfold putBack
  cases hp : placeOf t.us u.id with
  | none => rfl
  | some i =>
    obtain ⟨v, hv, he⟩ := placeOf_get hp
    exact map_set_same U.id _ i v u hv he.symm
theorem actOf_rise {t : T} (h : TOk t) {i : Nat} {u : U} (hi : t.us[i]? = some u) (hno : overB t.us = false) : Rise (actOf t u).2.us := by
  have h1 := (actOne_ok h hi hno).ok.rise
  rw [rise_ids] at h1 ⊢
  unfold actOne at h1
  rwa [putBack_ids] at h1
theorem stock_ok {t : T} (h : TOk t) (o : Int) : 0 ≤ t.stock o ∧ t.stock o ≤ 1000000000 := by
  unfold T.stock
  split
  · exact h.st.1
  · exact h.st.2
theorem fld2 : FieldSays 8 (ii 5) (ii 5) (.bool true) (fv 77) (fv 77) (fv 78) (fv 79) (fv 67) (fv 67) (fv 68) (fv 69) (fv 70) (fv 71) (fv 68) (fv 72) .nilFunc .nilFunc .nilFunc .nilFunc .nilFunc .nilFunc .nilFunc .nilFunc := fun w => by kernel_rfl
theorem fld3 : FieldSays 12 (ii 8) (ii 0) (.bool true) (fv 77) (fv 77) (fv 78) (fv 79) (fv 67) (fv 67) (fv 68) (fv 69) .nilFunc .nilFunc .nilFunc .nilFunc (fv 73) (fv 74) (fv 75) (fv 76) .nilFunc .nilFunc .nilFunc .nilFunc := fun w => by kernel_rfl

theorem actOne_any (tb pb cap hb bb : Nat) (t : T) (i : Nat) (u : U) (w : World) (h : TS w tb pb cap hb bb t) (hsd : Sd w) (hok : TOk t) (hi : t.us[i]? = some u) (hno : overB t.us = false) :
    Calls Tryd.prog 47 #[.pointer (some ⟨tb, 0, none⟩), u.val] w fun e w' =>
      e = .returned (.tuple #[]) ∧ ∃ pb' cap', Fr [tb, pb, hb, bb] w w' ∧ TS w' tb pb' cap' hb bb (actOne t u) ∧ (pb' = pb ∨ w.heap.size ≤ pb') := by
  have hu := hok.all u (List.mem_of_getElem? hi)
  have hri := actOf_rise hok hi hno
  have hbon : ∀ b, baseOf t.us u.owner = some b → onB b.x b.y = true := fun b hb => (hok.all b (List.mem_of_find?_eq_some hb)).on
  have hst := stock_ok hok u.owner
  unfold actOne
  have rest : u.what = 0 → ∀ w', Fr [] w w' → Calls Tryd.prog 79 #[.pointer (some ⟨tb, 0, none⟩), u.val] w' fun e w'' => e = .returned (actOf t u).1.val ∧ ∃ pb' cap', Fr [tb, pb, hb, bb] w' w'' ∧ TS w'' tb pb' cap' hb bb (actOf t u).2 ∧ (pb' = pb ∨ w'.heap.size ≤ pb') := by
    intro e w' hf
    have : actOf t u = (u, t) := by unfold actOf; simp [e]
    rw [this]
    exact (rest_any _ u w').mono fun e w'' ⟨h1, h2⟩ => ⟨h1, pb, cap, h2.of0, (h.fr0 hf).fr0 h2, Or.inl rfl⟩
  have move : u.what = 1 → ∀ w', Fr [] w w' → Calls Tryd.prog 69 #[.pointer (some ⟨tb, 0, none⟩), u.val] w' fun e w'' => e = .returned (actOf t u).1.val ∧ ∃ pb' cap', Fr [tb, pb, hb, bb] w' w'' ∧ TS w'' tb pb' cap' hb bb (actOf t u).2 ∧ (pb' = pb ∨ w'.heap.size ≤ pb') := by
    intro e w' hf
    have : actOf t u = actMove t u := by unfold actOf; simp [e]
    rw [this]
    exact (move_any tb pb cap hb bb t u w' (h.fr0 hf) (hsd.fr0 hf) hu.on).mono fun e w'' ⟨h1, h2, h3⟩ => ⟨h1, pb, cap, h2.mono (by simp), h3, Or.inl rfl⟩
  rcases hu.od with e | ⟨e, ek⟩ | ⟨e, ek, e3⟩ | ⟨e, ek⟩ | ⟨e, ek, e2⟩
  · have rest := rest e
    rcases hu.kd with ek | ek | ek
    · exact actOne_gen tb pb cap hb bb t u kind1 77 77 78 79 (actOf t u) w h (fun w => by rw [ek]; exact kindOf_1 w) (fun w => by rw [e]; exact skill_10 w) rest hri (fun _ _ => by kernel_rfl)
    · exact actOne_gen tb pb cap hb bb t u kind2 77 77 78 79 (actOf t u) w h (fun w => by rw [ek]; exact kindOf_2 w) (fun w => by rw [e]; exact skill_20 w) rest hri (fun _ _ => by kernel_rfl)
    · exact actOne_gen tb pb cap hb bb t u kind3 77 77 78 79 (actOf t u) w h (fun w => by rw [ek]; exact kindOf_3 w) (fun w => by rw [e]; exact skill_30 w) rest hri (fun _ _ => by kernel_rfl)
  · have move := move e
    rcases ek with ek | ek
    · exact actOne_gen tb pb cap hb bb t u kind2 67 67 68 69 (actOf t u) w h (fun w => by rw [ek]; exact kindOf_2 w) (fun w => by rw [e]; exact skill_21 w) move hri (fun _ _ => by kernel_rfl)
    · exact actOne_gen tb pb cap hb bb t u kind3 67 67 68 69 (actOf t u) w h (fun w => by rw [ek]; exact kindOf_3 w) (fun w => by rw [e]; exact skill_31 w) move hri (fun _ _ => by kernel_rfl)
  · refine actOne_gen tb pb cap hb bb t u kind2 70 71 68 72 (actOf t u) w h (fun w => by rw [ek]; exact kindOf_2 w) (fun w => by rw [e]; exact skill_22 w) ?_ hri (fun _ _ => by kernel_rfl)
    intro w' hf
    have : actOf t u = actMine t u := by unfold actOf; simp [e]
    rw [this]
    exact (mine_any tb pb cap hb bb t u w' (h.fr0 hf) (hsd.fr0 hf) hu.on e3 hu.ow hbon hst ⟨hu.ld.1, hu.ld.2.1⟩ ek).mono fun e w'' ⟨h1, h2, h3⟩ => ⟨h1, pb, cap, h2.mono (by simp), h3, Or.inl rfl⟩
  · refine actOne_gen tb pb cap hb bb t u kind3 73 74 75 76 (actOf t u) w h (fun w => by rw [ek]; exact kindOf_3 w) (fun w => by rw [e]; exact skill_33 w) ?_ hri (fun _ _ => by kernel_rfl)
    intro w' hf
    have : actOf t u = actHit t u := by unfold actOf; simp [e]
    rw [this]
    exact (hit_any tb pb cap hb bb t u w' (h.fr0 hf) (hsd.fr0 hf) hok.rise hu.on (fun v hv => ⟨(hok.all v hv).on, by have := (hok.all v hv).lf; omega, by have h1 := (hok.all v hv).lf; have h2 := lifeOf_le v.kind; omega⟩)).mono fun e w'' ⟨h1, h2, h3⟩ => ⟨h1, pb, cap, h2, h3, Or.inl rfl⟩
  · refine actOne_gen tb pb cap hb bb t u kind1 64 64 65 66 (actOf t u) w h (fun w => by rw [ek]; exact kindOf_1 w) (fun w => by rw [e]; exact skill_14 w) ?_ hri (fun _ _ => by kernel_rfl)
    intro w' hf
    have : actOf t u = actBuild t u := by unfold actOf; simp [e]
    rw [this]
    have hnx : 0 ≤ t.next := by have := hok.nx.1; omega
    rcases e2 with e2 | e2
    · exact build_any tb pb cap hb bb t u 8 5 _ _ _ _ _ _ _ _ _ _ _ _ _ _ _ _ _ _ _ _ _ _ w' (fun w => by rw [e2]; exact kindOf_2 w) fld2 (by rw [e2]; rfl) (by rw [e2]; rfl) (h.fr0 hf) (hsd.fr0 hf) hu.on hu.ow hnx hst (by omega) one2
    · exact build_any tb pb cap hb bb t u 12 8 _ _ _ _ _ _ _ _ _ _ _ _ _ _ _ _ _ _ _ _ _ _ w' (fun w => by rw [e2]; exact kindOf_3 w) fld3 (by rw [e2]; rfl) (by rw [e2]; rfl) (h.fr0 hf) (hsd.fr0 hf) hu.on hu.ow hnx hst (by omega) one3
end Go.Proofs.YtapabahhfanmmaaDoor
