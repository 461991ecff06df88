import Derived.Test.YtapabahhfanmmaaGreatDoorCMaybe3
import Derived.Test.YtapabahhfanmmaaGreatDoorCTornL
/- May one of the people be: the order. -/
namespace Go.Proofs.YtapabahhfanmmaaGreatDoor
open Go.RowKit

abbrev U.cm (u : U) : Cm := ⟨u.id, u.what, u.tox, u.toy, u.target⟩
theorem eqCmd (c : Cm) (w : World) : (binOp BinOp.eql 81 c.val c.val).run Tryz.prog w = .ok (.bool true) w := by
  simp [go_sem]
theorem guardCmd (x y : Operand) (c d : Cm) (w : World) : (eqGuard BinOp.eql 81 x y c.val d.val).run Tryz.prog w = .ok () w := by kernel_rfl
structure Stands (gb : Nat) (u : U) (w : World) (K : Value) (n1 n0 n2 n3 : Nat) : Prop where
  hs : ∀ w, Calls Tryz.prog 193 #[K, .int .i64 u.what] w fun e w' => e = .returned (.tuple #[.agg #[fv n1, fv n0, fv n2, fv n3], .bool true]) ∧ Fr [] w w'
  h0 : ∀ w', Fr [] w w' → Calls Tryz.prog n0 #[.pointer (some ⟨gb, 0, none⟩), u.val, u.cm.val] w' fun e w'' => e = .returned (.bool true) ∧ Fr [] w' w''
  h2 : ∀ w', Calls Tryz.prog n2 #[u.cm.val] w' fun e w'' => e = .returned u.cm.val ∧ Fr [] w' w''
  f0 : ∀ (args : Array Value) (w : World), (callFunc n0 args).run Tryz.prog w = .ok (.enter n0 args) w
  f2 : ∀ (args : Array Value) (w : World), (callFunc n2 args).run Tryz.prog w = .ok (.enter n2 args) w

set_option maxRecDepth 100000 in
set_option maxHeartbeats 8000000 in
theorem orderMay_gen (gb : Nat) (u : U) (n1 n0 n2 n3 : Nat) (K : Value) (w : World) (hk : ∀ w, Calls Tryz.prog 121 #[.int .i64 u.kind] w fun e w' => e = .returned K ∧ Fr [] w w') (hst : Stands gb u w K n1 n0 n2 n3) :
    Calls Tryz.prog 211 #[.pointer (some ⟨gb, 0, none⟩), u.val] w fun e w' => e = .returned (.bool true) ∧ Fr [] w w' := by
  obtain ⟨hs, h0, h2, f0, f2⟩ := hst
  have heq := eqCmd u.cm
  have hgd := fun (x y : Operand) (w0 : World) => guardCmd x y u.cm u.cm w0
  go_enter Tryz.func211, Tryz.ntmps211
  go_wp2_with fail
  obtain ⟨W2, hW2⟩ : ∃ W, W = (w.alloc (.cells u.arr 85)).alloc (.cells #[ii u.id, ii u.what, ii u.tox, ii u.toy, ii u.target] 81) := ⟨_, rfl⟩
  rw [← hW2]
  have hw2 : Fr [] w W2 := by rw [hW2]; exact ((Fr.refl _ _).alloc _).alloc _
  have hU2 : W2.heap[w.heap.size]? = some (.cells u.arr 85) := by rw [hW2]; exact (hp_old _ _ _ (by simp)).trans (hp_new _ _)
  have hC2 : W2.heap[w.heap.size + 1]? = some (.cells #[ii u.id, ii u.what, ii u.tox, ii u.toy, ii u.target] 81) := by rw [hW2]; exact hp_new2 _ _ _
  obtain ⟨b2, hb2⟩ : ∃ b, b = w.heap.size := ⟨_, rfl⟩
  rw [← hb2] at hU2 hC2 ⊢
  obtain ⟨cb, hcb⟩ : ∃ b, b = b2 + 1 := ⟨_, rfl⟩
  rw [← hcb] at hC2 ⊢
  have hs2 : cb < W2.heap.size := lt_of_heap hC2
  have hs2b : b2 < W2.heap.size := lt_of_heap hU2
  clear hW2 hb2 hcb
  have HS : ∀ w', Fr [] W2 w' → (fun w' : World => w'.cell? ⟨b2, 2, none⟩ = some (ii u.kind) ∧ w'.cell? ⟨b2, 7, none⟩ = some (ii u.what) ∧ Fr [] W2 w') w' := fun w' hf => ⟨cell_of_heap (hf.heap0 hU2), cell_of_heap (hf.heap0 hU2), hf⟩
  have KF : Fr [] W2 W2.drew := (Fr.refl _ _).drew
  have K0 := HS _ KF
  go_cut [6, 7] (fun s6 s7 wx => ∃ g : Nat, s6 = .pointer (some ⟨g, 0, none⟩) ∧ s7 = .bool true ∧ wx.heap[g]? = some (.cells #[fv n1, fv n0, fv n2, fv n3] 217) ∧ Fr [] W2 wx)
  case first =>
    go_region_held (fun w' : World => w'.cell? ⟨b2, 2, none⟩ = some (ii u.kind) ∧ w'.cell? ⟨b2, 7, none⟩ = some (ii u.what) ∧ Fr [] W2 w')
      (first | exact K0 | exact HS _ hfr2 | exact HS _ (hfr2.alloc _) | exact HS _ hfr1 | exact HS _ (hfr1.alloc _) | exact HS _ (KF.alloc _) | exact HS _ ((((hfr2.setCell _ _ (Or.inr (by first | exact Nat.le_refl _ | exact hfr1.size))).setCell _ _ (Or.inr (by first | exact Nat.le_refl _ | exact hfr1.size))).setCell _ _ (Or.inr (by first | exact Nat.le_refl _ | exact hfr1.size))).setCell _ _ (Or.inr (by first | exact Nat.le_refl _ | exact hfr1.size))))
      (first | (go_at_call 121; refine (hk _).mono ?_; rintro e w1 ⟨rfl, hf1⟩; obtain ⟨hc1, hz1⟩ := hf1.cells0; have q1 : b2 < w1.heap.size := (by have := hf1.size; simp at this; omega); (first | (have q2 : W2.heap.size < w1.heap.size := (by have := hf1.size; simp at this; omega)) | skip); have hfr1 : Fr [] W2 w1 := Fr.then0 (And.right (And.right (by assumption))) hf1) | (go_at_call 193; refine (hs _).mono ?_; rintro e w2 ⟨rfl, hf2⟩; obtain ⟨hc2, hz2⟩ := hf2.cells0; have q3 := hf2.size; have hfr2 : Fr [] W2 w2 := Fr.then0 (And.right (And.right (by assumption))) hf2))
    all_goals
      go_wp2_with fail
      go_meet
      refine ⟨_, rfl, rfl, ?_, ?_⟩
      · first
        | with_reducible exact hp_new _ _
        | exact set4 (hf2.heap0 (hp_new w1 _)) _ _ _ _
        | exact set4 (hf2.heap0 (hf1.heap0 (hp_new W2 _))) _ _ _ _
      · first
        | with_reducible exact hfr2.alloc _
        | exact (((hfr2.setCell _ _ (Or.inr (by first | exact Nat.le_refl _ | exact hfr1.size))).setCell _ _ (Or.inr (by first | exact Nat.le_refl _ | exact hfr1.size))).setCell _ _ (Or.inr (by first | exact Nat.le_refl _ | exact hfr1.size))).setCell _ _ (Or.inr (by first | exact Nat.le_refl _ | exact hfr1.size))
  case rest =>
    obtain ⟨g, rfl, rfl, hg, hf3⟩ := hcut
    clear HS K0 KF hk hs
    have hU3 := hf3.heap0 hU2
    have hC3 := hf3.heap0 hC2
    have hw3 := hw2.then0 hf3
    obtain ⟨W3, hW3⟩ : ∃ W, W = wc := ⟨_, rfl⟩
    rw [← hW3] at hU3 hC3 hw3 hg ⊢
    clear hW3 hf3 hU2 hC2 hw2
    have HS : ∀ w', Fr [] W3 w' → (fun w' : World => (w'.cell? ⟨g, 1, none⟩ = some (fv n0) ∧ w'.cell? ⟨g, 2, none⟩ = some (fv n2)) ∧ (w'.cell? ⟨b2, 0, none⟩ = some (ii u.id) ∧ w'.cell? ⟨b2, 1, none⟩ = some (ii u.owner) ∧ w'.cell? ⟨b2, 2, none⟩ = some (ii u.kind) ∧ w'.cell? ⟨b2, 3, none⟩ = some (ii u.x) ∧ w'.cell? ⟨b2, 4, none⟩ = some (ii u.y) ∧ w'.cell? ⟨b2, 5, none⟩ = some (ii u.life) ∧ w'.cell? ⟨b2, 6, none⟩ = some (ii u.load) ∧ w'.cell? ⟨b2, 7, none⟩ = some (ii u.what) ∧ w'.cell? ⟨b2, 8, none⟩ = some (ii u.tox) ∧ w'.cell? ⟨b2, 9, none⟩ = some (ii u.toy) ∧ w'.cell? ⟨b2, 10, none⟩ = some (ii u.target)) ∧ (w'.cell? ⟨cb, 0, none⟩ = some (ii u.id) ∧ w'.cell? ⟨cb, 1, none⟩ = some (ii u.what) ∧ w'.cell? ⟨cb, 2, none⟩ = some (ii u.tox) ∧ w'.cell? ⟨cb, 3, none⟩ = some (ii u.toy) ∧ w'.cell? ⟨cb, 4, none⟩ = some (ii u.target)) ∧ Fr [] W3 w') w' := fun w' hf => ⟨⟨cell_of_heap (hf.heap0 hg), cell_of_heap (hf.heap0 hg)⟩, ⟨cell_of_heap (hf.heap0 hU3), cell_of_heap (hf.heap0 hU3), cell_of_heap (hf.heap0 hU3), cell_of_heap (hf.heap0 hU3), cell_of_heap (hf.heap0 hU3), cell_of_heap (hf.heap0 hU3), cell_of_heap (hf.heap0 hU3), cell_of_heap (hf.heap0 hU3), cell_of_heap (hf.heap0 hU3), cell_of_heap (hf.heap0 hU3), cell_of_heap (hf.heap0 hU3)⟩, ⟨cell_of_heap (hf.heap0 hC3), cell_of_heap (hf.heap0 hC3), cell_of_heap (hf.heap0 hC3), cell_of_heap (hf.heap0 hC3), cell_of_heap (hf.heap0 hC3)⟩, hf⟩
    have KF : Fr [] W3 W3.drew := (Fr.refl _ _).drew
    have K0 := HS _ KF
    go_wp2_with fail
    go_region_held (fun w' : World => (w'.cell? ⟨g, 1, none⟩ = some (fv n0) ∧ w'.cell? ⟨g, 2, none⟩ = some (fv n2)) ∧ (w'.cell? ⟨b2, 0, none⟩ = some (ii u.id) ∧ w'.cell? ⟨b2, 1, none⟩ = some (ii u.owner) ∧ w'.cell? ⟨b2, 2, none⟩ = some (ii u.kind) ∧ w'.cell? ⟨b2, 3, none⟩ = some (ii u.x) ∧ w'.cell? ⟨b2, 4, none⟩ = some (ii u.y) ∧ w'.cell? ⟨b2, 5, none⟩ = some (ii u.life) ∧ w'.cell? ⟨b2, 6, none⟩ = some (ii u.load) ∧ w'.cell? ⟨b2, 7, none⟩ = some (ii u.what) ∧ w'.cell? ⟨b2, 8, none⟩ = some (ii u.tox) ∧ w'.cell? ⟨b2, 9, none⟩ = some (ii u.toy) ∧ w'.cell? ⟨b2, 10, none⟩ = some (ii u.target)) ∧ (w'.cell? ⟨cb, 0, none⟩ = some (ii u.id) ∧ w'.cell? ⟨cb, 1, none⟩ = some (ii u.what) ∧ w'.cell? ⟨cb, 2, none⟩ = some (ii u.tox) ∧ w'.cell? ⟨cb, 3, none⟩ = some (ii u.toy) ∧ w'.cell? ⟨cb, 4, none⟩ = some (ii u.target)) ∧ Fr [] W3 w')
      (first | with_reducible exact K0 | with_reducible exact HS _ hfr1 | with_reducible exact HS _ hfr2)
      (first | (refine Calls.mono (h0 _ (hw3.then0 (And.right (And.right (And.right (by assumption)))))) ?_; rintro e w2 ⟨rfl, hf2⟩; have hfr2 : Fr [] W3 w2 := Fr.then0 (And.right (And.right (And.right (by assumption)))) hf2) | (refine Calls.mono (h2 _) ?_; rintro e w1 ⟨rfl, hf1⟩; have hfr1 : Fr [] W3 w1 := Fr.then0 (And.right (And.right (And.right (by assumption)))) hf1))
    all_goals
      go_wp2_with fail
      go_ret
      exact ⟨rfl, hw3.then0 hfr2⟩
end Go.Proofs.YtapabahhfanmmaaGreatDoor
