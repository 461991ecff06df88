import Derived.Test.YtapabahhfanmmaaDoorCTakes
import Derived.Test.YtapabahhfanmmaaDoorCCells
import Derived.Deep.RegionHeld
/- Which commands are taken: those that ask the board. -/
namespace Go.Proofs.YtapabahhfanmmaaDoor
open Go.RowKit

/-- The board lies in block b, from its fourth cell on. -/
def BdAt (w : World) (b : Nat) (bd : Nat → Int) : Prop := ∀ i, i < 144 → w.cell? ⟨b, 4 + i, none⟩ = some (.int .i64 (bd i))
theorem BdAt.fr {S : List Nat} {w w' : World} {b : Nat} {bd : Nat → Int} (h : BdAt w b bd) (hf : Fr S w w') (hn : b ∉ S) : BdAt w' b bd := fun i hi => by
  have h1 := h i hi
  rw [hf.cell b _ (lt_of_cell h1) hn]; exact h1
/-- The number of a cell. -/
def ci (x y : Int) : Nat := y.toNat * 12 + x.toNat
theorem ci_lt {x y : Int} (h : onB x y = true) : ci x y < 144 := by rw [onB_iff] at h; unfold ci; omega

theorem onBoard_is (x y : Int) (w : World) (B : Bool) (h : onB x y = B) :
    Calls Tryd.prog 81 #[cv x y] w fun e w' => e = .returned (.bool B) ∧ Fr [] w w' := h ▸ onBoard_any x y w
set_option maxRecDepth 100000 in
set_option maxHeartbeats 400000 in
theorem takesMove_in (b : Nat) (bd : Nat → Int) (u : U) (c : Cm) (w : World) (hbd : BdAt w b bd) (hb : b < w.heap.size) (hin : onB c.x c.y = true) :
    Calls Tryd.prog 67 #[.pointer (some ⟨b, 0, none⟩), u.val, c.val] w fun e w' => e = .returned (.bool (bd (ci c.x c.y) != 10)) ∧ Fr [] w w' := by
  have hlt := ci_lt hin
  obtain ⟨hx0, hx1, hy0, hy1⟩ := onB_iff.1 hin
  have hcell := hbd _ hlt
  obtain ⟨v, hv⟩ : ∃ v, v = bd (ci c.x c.y) := ⟨_, rfl⟩
  rw [← hv] at hcell ⊢
  clear hbd hv
  unfold ci at hcell
  rw [← Nat.add_assoc] at hcell
  go_enter Tryd.func67, Tryd.ntmps67
  go_wp2
  go_region_held (fun w' => w'.cell? ⟨w.heap.size + 1, 2, none⟩ = some (ii c.x) ∧ w'.cell? ⟨w.heap.size + 1, 3, none⟩ = some (ii c.y) ∧ w'.cell? ⟨b, 4 + c.y.toNat * 12 + c.x.toNat, none⟩ = some (ii v)) (first | (go_keep; done) | (refine ⟨?_, ?_, ?_⟩ <;> (rw [hc _ _ (by first | (simp; done) | (simp; omega))]; simp [*])))
    (first | (go_at_call 81; refine (onBoard_is _ _ _ _ hin).mono ?_; rintro e w1 ⟨rfl, hf⟩; obtain ⟨hc, hz⟩ := hf.cells0))
  go_wp2
  go_ret
  exact ⟨rfl, ((((Fr.refl _ _).alloc _).alloc _).drew).then0 hf⟩

set_option maxRecDepth 100000 in
set_option maxHeartbeats 400000 in
theorem takesMove_out (b : Nat) (u : U) (c : Cm) (w : World) (hin : onB c.x c.y = false) :
    Calls Tryd.prog 67 #[.pointer (some ⟨b, 0, none⟩), u.val, c.val] w fun e w' => e = .returned (.bool false) ∧ Fr [] w w' := by
  go_enter Tryd.func67, Tryd.ntmps67
  go_wp2
  refine wp_region_held (S := fun w' => w'.cell? ⟨w.heap.size + 1, 2, none⟩ = some (ii c.x) ∧ w'.cell? ⟨w.heap.size + 1, 3, none⟩ = some (ii c.y)) (by kernel_rfl) ?_
  have hS : (fun w' : World => w'.cell? ⟨w.heap.size + 1, 2, none⟩ = some (ii c.x) ∧ w'.cell? ⟨w.heap.size + 1, 3, none⟩ = some (ii c.y)) ((w.alloc (.cells u.arr 44)).alloc (.cells #[ii c.unit, ii c.what, ii c.x, ii c.y, ii c.target] 47)).drew := by
    simp
  refine wpAnyH_take (i := 0) (oi := _) (v := .pointer (some ⟨w.heap.size + 1, 2, none⟩)) rfl (by kernel_rfl) (by kernel_rfl) (by kernel_rfl) (fun _ _ _ h => h) (Or.inl ⟨by kernel_rfl, ?_⟩) hS ?_
  · intro w0 hw0; obtain ⟨hw1, hw2⟩ := hw0; go_simp
  simp only [Act.put]
  refine wpAnyH_take (i := 1) (oi := _) (v := ii c.x) rfl (by kernel_rfl) (by kernel_rfl) (by kernel_rfl) (fun _ _ _ h => h) (Or.inl ⟨by kernel_rfl, ?_⟩) hS ?_
  · intro w0 hw0; obtain ⟨hw1, hw2⟩ := hw0; go_simp
  simp only [Act.put]
  refine wpAnyH_take (i := 2) (oi := _) (v := .pointer (some ⟨w.heap.size + 1, 3, none⟩)) rfl (by kernel_rfl) (by kernel_rfl) (by kernel_rfl) (fun _ _ _ h => h) (Or.inl ⟨by kernel_rfl, ?_⟩) hS ?_
  · intro w0 hw0; obtain ⟨hw1, hw2⟩ := hw0; go_simp
  simp only [Act.put]
  refine wpAnyH_take (i := 3) (oi := _) (v := ii c.y) rfl (by kernel_rfl) (by kernel_rfl) (by kernel_rfl) (fun _ _ _ h => h) (Or.inl ⟨by kernel_rfl, ?_⟩) hS ?_
  · intro w0 hw0; obtain ⟨hw1, hw2⟩ := hw0; go_simp
  simp only [Act.put]
  refine wpAnyH_take (i := 4) (oi := _) (v := .agg #[ii c.x, ii c.y]) rfl (by kernel_rfl) (by kernel_rfl) (by kernel_rfl) (fun _ _ _ h => h) (Or.inl ⟨by kernel_rfl, ?_⟩) hS ?_
  · intro w0 hw0; obtain ⟨hw1, hw2⟩ := hw0; go_simp
  simp only [Act.put]
  refine wpAnyH_ready (rs := [5]) (by kernel_rfl) (by simp) ?_
  refine AllReadyH.cons rfl (fun K hK => ?_) AllReadyH.nil
  rw [if_pos (by rfl)]
  go_wp2_with (go_at_call 81; refine (onBoard_is _ _ _ _ hin).mono ?_; rintro e w1 ⟨rfl, hf⟩)
  have hS2 : (fun w' : World => w'.cell? ⟨w.heap.size + 1, 2, none⟩ = some (ii c.x) ∧ w'.cell? ⟨w.heap.size + 1, 3, none⟩ = some (ii c.y)) w1 := by
    exact ⟨(hf.cell (w.heap.size + 1) 2 (by simp) (by simp)).trans hS.1, (hf.cell (w.heap.size + 1) 3 (by simp) (by simp)).trans hS.2⟩
  refine hK.out _ _ hS2 (fun _ => ?_)
  clear hK hS
  refine wpAnyH_take (i := 6) (oi := _) (v := .bool false) rfl (by kernel_rfl) (by kernel_rfl) (by kernel_rfl) (fun _ _ _ h => h) (Or.inl ⟨by kernel_rfl, ?_⟩) hS2 ?_
  · intro w0 hw0; obtain ⟨hw1, hw2⟩ := hw0; go_simp
  simp only [Act.put]
  refine wpAnyH_take (i := 7) (oi := _) (v := undef) rfl (by kernel_rfl) (by kernel_rfl) (by kernel_rfl) (fun _ _ _ h => h) (Or.inr ⟨by kernel_rfl, rfl⟩) hS2 ?_
  simp only [Act.put]
  refine wpAnyH_take (i := 8) (oi := _) (v := undef) rfl (by kernel_rfl) (by kernel_rfl) (by kernel_rfl) (fun _ _ _ h => h) (Or.inr ⟨by kernel_rfl, rfl⟩) hS2 ?_
  simp only [Act.put]
  refine wpAnyH_take (i := 9) (oi := _) (v := undef) rfl (by kernel_rfl) (by kernel_rfl) (by kernel_rfl) (fun _ _ _ h => h) (Or.inr ⟨by kernel_rfl, rfl⟩) hS2 ?_
  simp only [Act.put]
  refine wpAnyH_take (i := 10) (oi := _) (v := undef) rfl (by kernel_rfl) (by kernel_rfl) (by kernel_rfl) (fun _ _ _ h => h) (Or.inr ⟨by kernel_rfl, rfl⟩) hS2 ?_
  simp only [Act.put]
  refine wpAnyH_take (i := 11) (oi := _) (v := undef) rfl (by kernel_rfl) (by kernel_rfl) (by kernel_rfl) (fun _ _ _ h => h) (Or.inr ⟨by kernel_rfl, rfl⟩) hS2 ?_
  simp only [Act.put]
  refine wpAnyH_take (i := 12) (oi := _) (v := undef) rfl (by kernel_rfl) (by kernel_rfl) (by kernel_rfl) (fun _ _ _ h => h) (Or.inr ⟨by kernel_rfl, rfl⟩) hS2 ?_
  simp only [Act.put]
  refine wpAnyH_take (i := 13) (oi := _) (v := undef) rfl (by kernel_rfl) (by kernel_rfl) (by kernel_rfl) (fun _ _ _ h => h) (Or.inr ⟨by kernel_rfl, rfl⟩) hS2 ?_
  simp only [Act.put]
  refine wpAnyH_take (i := 14) (oi := _) (v := undef) rfl (by kernel_rfl) (by kernel_rfl) (by kernel_rfl) (fun _ _ _ h => h) (Or.inr ⟨by kernel_rfl, rfl⟩) hS2 ?_
  simp only [Act.put]
  refine wpAnyH_take (i := 15) (oi := _) (v := undef) rfl (by kernel_rfl) (by kernel_rfl) (by kernel_rfl) (fun _ _ _ h => h) (Or.inr ⟨by kernel_rfl, rfl⟩) hS2 ?_
  simp only [Act.put]
  refine wpAnyH_take (i := 16) (oi := _) (v := undef) rfl (by kernel_rfl) (by kernel_rfl) (by kernel_rfl) (fun _ _ _ h => h) (Or.inr ⟨by kernel_rfl, rfl⟩) hS2 ?_
  simp only [Act.put]
  refine wpAnyH_take (i := 17) (oi := _) (v := undef) rfl (by kernel_rfl) (by kernel_rfl) (by kernel_rfl) (fun _ _ _ h => h) (Or.inr ⟨by kernel_rfl, rfl⟩) hS2 ?_
  simp only [Act.put]
  refine wpAnyH_take (i := 18) (oi := _) (v := .bool false) rfl (by kernel_rfl) (by kernel_rfl) (by kernel_rfl) (fun _ _ _ h => h) (Or.inl ⟨by kernel_rfl, ?_⟩) hS2 ?_
  · intro w0 hw0; obtain ⟨hw1, hw2⟩ := hw0; go_simp
  simp only [Act.put]
  refine wpAnyH_take (i := 19) (oi := _) (v := .bool false) rfl (by kernel_rfl) (by kernel_rfl) (by kernel_rfl) (fun _ _ _ h => h) (Or.inl ⟨by kernel_rfl, ?_⟩) hS2 ?_
  · intro w0 hw0; obtain ⟨hw1, hw2⟩ := hw0; go_simp
  simp only [Act.put]
  refine wpAnyH_done (by kernel_rfl) ?_ _
  go_wp2
  go_ret
  exact ⟨rfl, ((((Fr.refl _ _).alloc _).alloc _).drew).then0 hf⟩

theorem takesMove_any (b : Nat) (bd : Nat → Int) (u : U) (c : Cm) (w : World) (hbd : BdAt w b bd) (hb : b < w.heap.size) :
    Calls Tryd.prog 67 #[.pointer (some ⟨b, 0, none⟩), u.val, c.val] w fun e w' => e = .returned (.bool (onB c.x c.y && (bd (ci c.x c.y) != 10))) ∧ Fr [] w w' := by
  cases h : onB c.x c.y
  · simpa [h] using takesMove_out b u c w h
  · simpa [h] using takesMove_in b bd u c w hbd hb h

set_option maxRecDepth 100000 in
set_option maxHeartbeats 400000 in
theorem takesMine_in (b : Nat) (bd : Nat → Int) (u : U) (c : Cm) (w : World) (hbd : BdAt w b bd) (hb : b < w.heap.size) (hin : onB c.x c.y = true) :
    Calls Tryd.prog 70 #[.pointer (some ⟨b, 0, none⟩), u.val, c.val] w fun e w' => e = .returned (.bool (decide (0 < bd (ci c.x c.y)) && decide (bd (ci c.x c.y) < 10))) ∧ Fr [] w w' := by
  have hlt := ci_lt hin
  obtain ⟨hx0, hx1, hy0, hy1⟩ := onB_iff.1 hin
  have hcell := hbd _ hlt
  obtain ⟨v, hv⟩ : ∃ v, v = bd (ci c.x c.y) := ⟨_, rfl⟩
  rw [← hv] at hcell ⊢
  clear hbd hv
  unfold ci at hcell
  rw [← Nat.add_assoc] at hcell
  go_enter Tryd.func70, Tryd.ntmps70
  go_wp2
  go_region_held (fun w' => w'.cell? ⟨w.heap.size + 1, 2, none⟩ = some (ii c.x) ∧ w'.cell? ⟨w.heap.size + 1, 3, none⟩ = some (ii c.y) ∧ w'.cell? ⟨b, 4 + c.y.toNat * 12 + c.x.toNat, none⟩ = some (ii v)) (first | (go_keep; done) | (refine ⟨?_, ?_, ?_⟩ <;> (rw [hc _ _ (by first | (simp; done) | (simp; omega))]; simp [*])))
    (first | (go_at_call 81; refine (onBoard_is _ _ _ _ hin).mono ?_; rintro e w1 ⟨rfl, hf⟩; obtain ⟨hc, hz⟩ := hf.cells0) | (go_at_call 87; refine (isOre_any _ _).mono ?_; rintro e w1 ⟨rfl, rfl⟩))
  go_wp2
  go_ret
  exact ⟨rfl, ((((Fr.refl _ _).alloc _).alloc _).drew).then0 hf⟩

set_option maxRecDepth 100000 in
set_option maxHeartbeats 400000 in
theorem takesMine_out (b : Nat) (u : U) (c : Cm) (w : World) (hin : onB c.x c.y = false) :
    Calls Tryd.prog 70 #[.pointer (some ⟨b, 0, none⟩), u.val, c.val] w fun e w' => e = .returned (.bool false) ∧ Fr [] w w' := by
  go_enter Tryd.func70, Tryd.ntmps70
  go_wp2
  refine wp_region_held (S := fun w' => w'.cell? ⟨w.heap.size + 1, 2, none⟩ = some (ii c.x) ∧ w'.cell? ⟨w.heap.size + 1, 3, none⟩ = some (ii c.y)) (by kernel_rfl) ?_
  have hS : (fun w' : World => w'.cell? ⟨w.heap.size + 1, 2, none⟩ = some (ii c.x) ∧ w'.cell? ⟨w.heap.size + 1, 3, none⟩ = some (ii c.y)) ((w.alloc (.cells u.arr 44)).alloc (.cells #[ii c.unit, ii c.what, ii c.x, ii c.y, ii c.target] 47)).drew := by
    simp
  refine wpAnyH_take (i := 0) (oi := _) (v := .pointer (some ⟨w.heap.size + 1, 2, none⟩)) rfl (by kernel_rfl) (by kernel_rfl) (by kernel_rfl) (fun _ _ _ h => h) (Or.inl ⟨by kernel_rfl, ?_⟩) hS ?_
  · intro w0 hw0; obtain ⟨hw1, hw2⟩ := hw0; go_simp
  simp only [Act.put]
  refine wpAnyH_take (i := 1) (oi := _) (v := ii c.x) rfl (by kernel_rfl) (by kernel_rfl) (by kernel_rfl) (fun _ _ _ h => h) (Or.inl ⟨by kernel_rfl, ?_⟩) hS ?_
  · intro w0 hw0; obtain ⟨hw1, hw2⟩ := hw0; go_simp
  simp only [Act.put]
  refine wpAnyH_take (i := 2) (oi := _) (v := .pointer (some ⟨w.heap.size + 1, 3, none⟩)) rfl (by kernel_rfl) (by kernel_rfl) (by kernel_rfl) (fun _ _ _ h => h) (Or.inl ⟨by kernel_rfl, ?_⟩) hS ?_
  · intro w0 hw0; obtain ⟨hw1, hw2⟩ := hw0; go_simp
  simp only [Act.put]
  refine wpAnyH_take (i := 3) (oi := _) (v := ii c.y) rfl (by kernel_rfl) (by kernel_rfl) (by kernel_rfl) (fun _ _ _ h => h) (Or.inl ⟨by kernel_rfl, ?_⟩) hS ?_
  · intro w0 hw0; obtain ⟨hw1, hw2⟩ := hw0; go_simp
  simp only [Act.put]
  refine wpAnyH_take (i := 4) (oi := _) (v := .agg #[ii c.x, ii c.y]) rfl (by kernel_rfl) (by kernel_rfl) (by kernel_rfl) (fun _ _ _ h => h) (Or.inl ⟨by kernel_rfl, ?_⟩) hS ?_
  · intro w0 hw0; obtain ⟨hw1, hw2⟩ := hw0; go_simp
  simp only [Act.put]
  refine wpAnyH_ready (rs := [5]) (by kernel_rfl) (by simp) ?_
  refine AllReadyH.cons rfl (fun K hK => ?_) AllReadyH.nil
  rw [if_pos (by rfl)]
  go_wp2_with (go_at_call 81; refine (onBoard_is _ _ _ _ hin).mono ?_; rintro e w1 ⟨rfl, hf⟩)
  have hS2 : (fun w' : World => w'.cell? ⟨w.heap.size + 1, 2, none⟩ = some (ii c.x) ∧ w'.cell? ⟨w.heap.size + 1, 3, none⟩ = some (ii c.y)) w1 := by
    exact ⟨(hf.cell (w.heap.size + 1) 2 (by simp) (by simp)).trans hS.1, (hf.cell (w.heap.size + 1) 3 (by simp) (by simp)).trans hS.2⟩
  refine hK.out _ _ hS2 (fun _ => ?_)
  clear hK hS
  refine wpAnyH_take (i := 6) (oi := _) (v := .bool false) rfl (by kernel_rfl) (by kernel_rfl) (by kernel_rfl) (fun _ _ _ h => h) (Or.inl ⟨by kernel_rfl, ?_⟩) hS2 ?_
  · intro w0 hw0; obtain ⟨hw1, hw2⟩ := hw0; go_simp
  simp only [Act.put]
  refine wpAnyH_take (i := 7) (oi := _) (v := undef) rfl (by kernel_rfl) (by kernel_rfl) (by kernel_rfl) (fun _ _ _ h => h) (Or.inr ⟨by kernel_rfl, rfl⟩) hS2 ?_
  simp only [Act.put]
  refine wpAnyH_take (i := 8) (oi := _) (v := undef) rfl (by kernel_rfl) (by kernel_rfl) (by kernel_rfl) (fun _ _ _ h => h) (Or.inr ⟨by kernel_rfl, rfl⟩) hS2 ?_
  simp only [Act.put]
  refine wpAnyH_take (i := 9) (oi := _) (v := undef) rfl (by kernel_rfl) (by kernel_rfl) (by kernel_rfl) (fun _ _ _ h => h) (Or.inr ⟨by kernel_rfl, rfl⟩) hS2 ?_
  simp only [Act.put]
  refine wpAnyH_take (i := 10) (oi := _) (v := undef) rfl (by kernel_rfl) (by kernel_rfl) (by kernel_rfl) (fun _ _ _ h => h) (Or.inr ⟨by kernel_rfl, rfl⟩) hS2 ?_
  simp only [Act.put]
  refine wpAnyH_take (i := 11) (oi := _) (v := undef) rfl (by kernel_rfl) (by kernel_rfl) (by kernel_rfl) (fun _ _ _ h => h) (Or.inr ⟨by kernel_rfl, rfl⟩) hS2 ?_
  simp only [Act.put]
  refine wpAnyH_take (i := 12) (oi := _) (v := undef) rfl (by kernel_rfl) (by kernel_rfl) (by kernel_rfl) (fun _ _ _ h => h) (Or.inr ⟨by kernel_rfl, rfl⟩) hS2 ?_
  simp only [Act.put]
  refine wpAnyH_take (i := 13) (oi := _) (v := undef) rfl (by kernel_rfl) (by kernel_rfl) (by kernel_rfl) (fun _ _ _ h => h) (Or.inr ⟨by kernel_rfl, rfl⟩) hS2 ?_
  simp only [Act.put]
  refine wpAnyH_take (i := 14) (oi := _) (v := undef) rfl (by kernel_rfl) (by kernel_rfl) (by kernel_rfl) (fun _ _ _ h => h) (Or.inr ⟨by kernel_rfl, rfl⟩) hS2 ?_
  simp only [Act.put]
  refine wpAnyH_take (i := 15) (oi := _) (v := undef) rfl (by kernel_rfl) (by kernel_rfl) (by kernel_rfl) (fun _ _ _ h => h) (Or.inr ⟨by kernel_rfl, rfl⟩) hS2 ?_
  simp only [Act.put]
  refine wpAnyH_take (i := 16) (oi := _) (v := undef) rfl (by kernel_rfl) (by kernel_rfl) (by kernel_rfl) (fun _ _ _ h => h) (Or.inr ⟨by kernel_rfl, rfl⟩) hS2 ?_
  simp only [Act.put]
  refine wpAnyH_take (i := 17) (oi := _) (v := undef) rfl (by kernel_rfl) (by kernel_rfl) (by kernel_rfl) (fun _ _ _ h => h) (Or.inr ⟨by kernel_rfl, rfl⟩) hS2 ?_
  simp only [Act.put]
  refine wpAnyH_take (i := 18) (oi := _) (v := .bool false) rfl (by kernel_rfl) (by kernel_rfl) (by kernel_rfl) (fun _ _ _ h => h) (Or.inl ⟨by kernel_rfl, ?_⟩) hS2 ?_
  · intro w0 hw0; obtain ⟨hw1, hw2⟩ := hw0; go_simp
  simp only [Act.put]
  refine wpAnyH_take (i := 19) (oi := _) (v := .bool false) rfl (by kernel_rfl) (by kernel_rfl) (by kernel_rfl) (fun _ _ _ h => h) (Or.inl ⟨by kernel_rfl, ?_⟩) hS2 ?_
  · intro w0 hw0; obtain ⟨hw1, hw2⟩ := hw0; go_simp
  simp only [Act.put]
  refine wpAnyH_done (by kernel_rfl) ?_ _
  go_wp2
  go_ret
  exact ⟨rfl, ((((Fr.refl _ _).alloc _).alloc _).drew).then0 hf⟩

theorem takesMine_any (b : Nat) (bd : Nat → Int) (u : U) (c : Cm) (w : World) (hbd : BdAt w b bd) (hb : b < w.heap.size) :
    Calls Tryd.prog 70 #[.pointer (some ⟨b, 0, none⟩), u.val, c.val] w fun e w' => e = .returned (.bool (onB c.x c.y && (decide (0 < bd (ci c.x c.y)) && decide (bd (ci c.x c.y) < 10)))) ∧ Fr [] w w' := by
  cases h : onB c.x c.y
  · simpa [h] using takesMine_out b u c w h
  · simpa [h] using takesMine_in b bd u c w hbd hb h

end Go.Proofs.YtapabahhfanmmaaDoor
