import Derived.Test.YtapabahhfanmmaaDoorCOrders
import Derived.Test.YtapabahhfanmmaaDoorCSlow
import Derived.Test.YtapabahhfanmmaaDoorCReadG
/- The law's own orders: they lie in new memory. -/
namespace Go.Proofs.YtapabahhfanmmaaDoor
open Go.RowKit

/-- A list of commands in new memory. -/
def CmdN (w0 w : World) (v : Value) (l : List Cm) : Prop := ∃ lb lc, v = .slice (some ⟨lb, 0, none⟩) l.length lc ∧ Cmds w lb l ∧ lb < w.heap.size ∧ w0.heap.size ≤ lb
theorem CmdN.v {w0 w : World} {v : Value} {l : List Cm} (h : CmdN w0 w v l) : CmdV w v l := by
  obtain ⟨lb, lc, h1, h2, h3, _⟩ := h
  exact Or.inr ⟨lb, lc, h1, h2, h3⟩
theorem CmdN.fr {S : List Nat} {w0 w w' : World} {v : Value} {l : List Cm} (h : CmdN w0 w v l) (hf : Fr S w w') (hs : ∀ i ∈ S, i < w0.heap.size) : CmdN w0 w' v l := by
  obtain ⟨lb, lc, h1, h2, h3, h4⟩ := h
  exact ⟨lb, lc, h1, h2.fr hf (fun hm => by have := hs lb hm; omega), Nat.lt_of_lt_of_le h3 hf.size, h4⟩
theorem cmdn_of {w0 w : World} {b : Nat} {c1 c2 : Cm} {ty : TypeId} (h : w.heap[b]? = some (.cells #[ii c1.unit, ii c1.what, ii c1.x, ii c1.y, ii c1.target, ii c2.unit, ii c2.what, ii c2.x, ii c2.y, ii c2.target] ty)) (lc : Nat) (hle : w0.heap.size ≤ b) : CmdN w0 w (.slice (some ⟨b, 0, none⟩) 2 lc) [c1, c2] := by
  rcases cmds_of h lc with ⟨_, _, _, h0⟩ | ⟨lb, lc', h1, h2, h3⟩
  · cases h0
  · have e : lb = b := by
      have := congrArg (fun v : Value => match v with | .slice (some a) _ _ => a.block | _ => 0) h1
      exact this.symm
    subst e
    exact ⟨lb, lc, rfl, h2, h3, hle⟩

set_option maxRecDepth 100000 in
set_option maxHeartbeats 2000000 in
theorem orders_new (gb pb cap : Nat) (t : T) (f : Nat → Int) (w : World) (h : GS w gb pb cap t) (hl : t.us.length ≤ 100) (hf : ∀ i, i < 20 → I64 (f i)) :
    Calls Tryd.prog 9 #[.pointer (some ⟨gb, 0, none⟩), .agg #[ii (f 0), ii (f 1), ii (f 2), ii (f 3), ii (f 4), ii (f 5), ii (f 6), ii (f 7), ii (f 8), ii (f 9), ii (f 10), ii (f 11), ii (f 12), ii (f 13), ii (f 14), ii (f 15), ii (f 16), ii (f 17), ii (f 18), ii (f 19)]] w fun e w' =>
      ∃ v1 v2, e = .returned (.tuple #[v1, v2]) ∧ (∃ c1 c2, CmdN w w' v1 [c1, c2]) ∧ (∃ c3 c4, CmdN w w' v2 [c3, c4]) ∧ Fr [] w w' := by
  have h0 := hf 0 (by omega)
  have h1 := hf 1 (by omega)
  have h2 := hf 2 (by omega)
  have h3 := hf 3 (by omega)
  have h4 := hf 4 (by omega)
  have h5 := hf 5 (by omega)
  have h6 := hf 6 (by omega)
  have h7 := hf 7 (by omega)
  have h8 := hf 8 (by omega)
  have h9 := hf 9 (by omega)
  have h10 := hf 10 (by omega)
  have h11 := hf 11 (by omega)
  have h12 := hf 12 (by omega)
  have h13 := hf 13 (by omega)
  have h14 := hf 14 (by omega)
  have h15 := hf 15 (by omega)
  have h16 := hf 16 (by omega)
  have h17 := hf 17 (by omega)
  have h18 := hf 18 (by omega)
  have h19 := hf 19 (by omega)
  clear hf
  go_enter Tryd.func9, Tryd.ntmps9
  go_wp2_with fail
  obtain ⟨W0, hW0⟩ : ∃ W, W = w.alloc (.cells #[ii (f 0), ii (f 1), ii (f 2), ii (f 3), ii (f 4), ii (f 5), ii (f 6), ii (f 7), ii (f 8), ii (f 9), ii (f 10), ii (f 11), ii (f 12), ii (f 13), ii (f 14), ii (f 15), ii (f 16), ii (f 17), ii (f 18), ii (f 19)] 33) := ⟨_, rfl⟩
  rw [← hW0]
  have hw0 : Fr [] w W0 := by rw [hW0]; exact (Fr.refl _ _).alloc _
  have hB0 : W0.heap[w.heap.size]? = some (.cells #[ii (f 0), ii (f 1), ii (f 2), ii (f 3), ii (f 4), ii (f 5), ii (f 6), ii (f 7), ii (f 8), ii (f 9), ii (f 10), ii (f 11), ii (f 12), ii (f 13), ii (f 14), ii (f 15), ii (f 16), ii (f 17), ii (f 18), ii (f 19)] 33) := by rw [hW0]; exact hp_new _ _
  clear hW0
  have HB : ∀ W, Fr [] W0 W → W.cell? ⟨w.heap.size, 5, none⟩ = some (ii (f 5)) ∧ W.cell? ⟨w.heap.size, 6, none⟩ = some (ii (f 6)) ∧ W.cell? ⟨w.heap.size, 7, none⟩ = some (ii (f 7)) ∧ W.cell? ⟨w.heap.size, 8, none⟩ = some (ii (f 8)) ∧ W.cell? ⟨w.heap.size, 9, none⟩ = some (ii (f 9)) ∧ W.cell? ⟨w.heap.size, 10, none⟩ = some (ii (f 10)) ∧ W.cell? ⟨w.heap.size, 11, none⟩ = some (ii (f 11)) ∧ W.cell? ⟨w.heap.size, 12, none⟩ = some (ii (f 12)) ∧ W.cell? ⟨w.heap.size, 13, none⟩ = some (ii (f 13)) ∧ W.cell? ⟨w.heap.size, 14, none⟩ = some (ii (f 14)) ∧ W.cell? ⟨w.heap.size, 15, none⟩ = some (ii (f 15)) ∧ W.cell? ⟨w.heap.size, 16, none⟩ = some (ii (f 16)) ∧ W.cell? ⟨w.heap.size, 17, none⟩ = some (ii (f 17)) ∧ W.cell? ⟨w.heap.size, 18, none⟩ = some (ii (f 18)) ∧ W.cell? ⟨w.heap.size, 19, none⟩ = some (ii (f 19)) := fun W hf =>
    have k := hf.heap0 hB0
    ⟨cell_of_heap k, cell_of_heap k, cell_of_heap k, cell_of_heap k, cell_of_heap k, cell_of_heap k, cell_of_heap k, cell_of_heap k, cell_of_heap k, cell_of_heap k, cell_of_heap k, cell_of_heap k, cell_of_heap k, cell_of_heap k, cell_of_heap k⟩
  have HBB := (show Hid _ from HB)
  clear HB hB0
  refine Calls.mono (lawCommand_any gb pb cap t 0 (f 0) (f 1) (f 2) (f 3) (f 4) _ (h.fr hw0 (by simp) (by simp)) hl h0 h1 h2 h3 h4) ?_
  rintro e w1 ⟨a1, rfl, hf1⟩
  dsimp only
  have hl0 : w.heap.size < W0.heap.size := lt_of_cell (HBB.out W0 (Fr.refl _ _)).1
  obtain ⟨W1, hW1⟩ : ∃ W, W = w1.alloc (.cells #[ii a1.unit, ii a1.what, ii a1.x, ii a1.y, ii a1.target] 47) := ⟨_, rfl⟩
  have hF1 : Fr [] W0 W1 := by rw [hW1]; exact hf1.alloc _
  have hA1 : W1.heap[w1.heap.size]? = some (.cells #[ii a1.unit, ii a1.what, ii a1.x, ii a1.y, ii a1.target] 47) := by rw [hW1]; exact hp_new _ _
  obtain ⟨b5, b6, b7, b8, b9, b10, b11, b12, b13, b14, b15, b16, b17, b18, b19⟩ := HBB.out W1 hF1
  rw [hW1] at b5 b6 b7 b8 b9
  have HC2 := (show Hid _ from lawCommand_any gb pb cap t 0 (f 5) (f 6) (f 7) (f 8) (f 9) W1 (h.fr (hw0.then0 hF1) (by simp) (by simp)) hl h5 h6 h7 h8 h9)
  rw [hW1] at HC2
  clear b10 b11 b12 b13 b14 b15 b16 b17 b18 b19
  go_wp2_with fail
  refine Calls.mono HC2.out ?_
  rintro e w2 ⟨a2, rfl, hf2⟩
  dsimp only
  rw [← hW1] at hf2
  clear b5 b6 b7 b8 b9 HC2 hW1
  have hA2 := hf2.heap0 hA1
  have hF2 := hF1.then0 hf2
  obtain ⟨W2, hW2⟩ : ∃ W, W = w2.alloc (.cells #[ii a2.unit, ii a2.what, ii a2.x, ii a2.y, ii a2.target] 47) := ⟨_, rfl⟩
  have hF2' : Fr [] W0 W2 := by rw [hW2]; exact hF2.alloc _
  have hG2 : Fr [] w2 W2 := by rw [hW2]; exact (Fr.refl _ _).alloc _
  have hB2 : W2.heap[w2.heap.size]? = some (.cells #[ii a2.unit, ii a2.what, ii a2.x, ii a2.y, ii a2.target] 47) := by rw [hW2]; exact hp_new _ _
  obtain ⟨b5, b6, b7, b8, b9, b10, b11, b12, b13, b14, b15, b16, b17, b18, b19⟩ := HBB.out W2 hF2'
  rw [hW2] at b10 b11 b12 b13 b14
  have HC3 := (show Hid _ from lawCommand_any gb pb cap t 1 (f 10) (f 11) (f 12) (f 13) (f 14) W2 (h.fr (hw0.then0 hF2') (by simp) (by simp)) hl h10 h11 h12 h13 h14)
  rw [hW2] at HC3
  clear b5 b6 b7 b8 b9 b15 b16 b17 b18 b19
  go_wp2_with fail
  refine Calls.mono HC3.out ?_
  rintro e w3 ⟨a3, rfl, hf3⟩
  dsimp only
  rw [← hW2] at hf3
  clear b10 b11 b12 b13 b14 HC3 hW2
  have hA3 := hf3.heap0 (hG2.heap0 hA2)
  have hB3 := hf3.heap0 hB2
  have hF3 := hF2'.then0 hf3
  obtain ⟨W3, hW3⟩ : ∃ W, W = w3.alloc (.cells #[ii a3.unit, ii a3.what, ii a3.x, ii a3.y, ii a3.target] 47) := ⟨_, rfl⟩
  have hF3' : Fr [] W0 W3 := by rw [hW3]; exact hF3.alloc _
  have hG3 : Fr [] w3 W3 := by rw [hW3]; exact (Fr.refl _ _).alloc _
  have hC3 : W3.heap[w3.heap.size]? = some (.cells #[ii a3.unit, ii a3.what, ii a3.x, ii a3.y, ii a3.target] 47) := by rw [hW3]; exact hp_new _ _
  obtain ⟨b5, b6, b7, b8, b9, b10, b11, b12, b13, b14, b15, b16, b17, b18, b19⟩ := HBB.out W3 hF3'
  rw [hW3] at b15 b16 b17 b18 b19
  have HC4 := (show Hid _ from lawCommand_any gb pb cap t 1 (f 15) (f 16) (f 17) (f 18) (f 19) W3 (h.fr (hw0.then0 hF3') (by simp) (by simp)) hl h15 h16 h17 h18 h19)
  rw [hW3] at HC4
  clear b5 b6 b7 b8 b9 b10 b11 b12 b13 b14
  go_wp2_with fail
  refine Calls.mono HC4.out ?_
  rintro e w4 ⟨a4, rfl, hf4⟩
  dsimp only
  rw [← hW3] at hf4
  clear b15 b16 b17 b18 b19 HC4 hW3
  have hA4 := hf4.heap0 (hG3.heap0 hA3)
  have hB4 := hf4.heap0 (hG3.heap0 hB3)
  have hC4 := hf4.heap0 hC3
  have hF4 := hF3'.then0 hf4
  go_wp2_with fail
  obtain ⟨W4, hW4⟩ : ∃ W, W = w4.alloc (.cells #[ii a4.unit, ii a4.what, ii a4.x, ii a4.y, ii a4.target] 47) := ⟨_, rfl⟩
  rw [← hW4]
  have hG4 : Fr [] w4 W4 := by rw [hW4]; exact (Fr.refl _ _).alloc _
  have hF5 : Fr [] W0 W4 := hF4.then0 hG4
  have hA5 := hG4.heap0 hA4
  have hB5 := hG4.heap0 hB4
  have hC5 := hG4.heap0 hC4
  have hD5 : W4.heap[w4.heap.size]? = some (.cells #[ii a4.unit, ii a4.what, ii a4.x, ii a4.y, ii a4.target] 47) := by rw [hW4]; exact hp_new _ _
  have HS : ∀ w', Fr [] W4 w' → (fun w' : World => Fr [] W4 w' ∧ w'.cell? ⟨w1.heap.size, 0, none⟩ = some (ii a1.unit) ∧ w'.cell? ⟨w1.heap.size, 1, none⟩ = some (ii a1.what) ∧ w'.cell? ⟨w1.heap.size, 2, none⟩ = some (ii a1.x) ∧ w'.cell? ⟨w1.heap.size, 3, none⟩ = some (ii a1.y) ∧ w'.cell? ⟨w1.heap.size, 4, none⟩ = some (ii a1.target) ∧ w'.cell? ⟨w2.heap.size, 0, none⟩ = some (ii a2.unit) ∧ w'.cell? ⟨w2.heap.size, 1, none⟩ = some (ii a2.what) ∧ w'.cell? ⟨w2.heap.size, 2, none⟩ = some (ii a2.x) ∧ w'.cell? ⟨w2.heap.size, 3, none⟩ = some (ii a2.y) ∧ w'.cell? ⟨w2.heap.size, 4, none⟩ = some (ii a2.target) ∧ w'.cell? ⟨w3.heap.size, 0, none⟩ = some (ii a3.unit) ∧ w'.cell? ⟨w3.heap.size, 1, none⟩ = some (ii a3.what) ∧ w'.cell? ⟨w3.heap.size, 2, none⟩ = some (ii a3.x) ∧ w'.cell? ⟨w3.heap.size, 3, none⟩ = some (ii a3.y) ∧ w'.cell? ⟨w3.heap.size, 4, none⟩ = some (ii a3.target) ∧ w'.cell? ⟨w4.heap.size, 0, none⟩ = some (ii a4.unit) ∧ w'.cell? ⟨w4.heap.size, 1, none⟩ = some (ii a4.what) ∧ w'.cell? ⟨w4.heap.size, 2, none⟩ = some (ii a4.x) ∧ w'.cell? ⟨w4.heap.size, 3, none⟩ = some (ii a4.y) ∧ w'.cell? ⟨w4.heap.size, 4, none⟩ = some (ii a4.target)) w' := fun w' hf => ⟨hf, cell_of_heap (hf.heap0 hA5), cell_of_heap (hf.heap0 hA5), cell_of_heap (hf.heap0 hA5), cell_of_heap (hf.heap0 hA5), cell_of_heap (hf.heap0 hA5), cell_of_heap (hf.heap0 hB5), cell_of_heap (hf.heap0 hB5), cell_of_heap (hf.heap0 hB5), cell_of_heap (hf.heap0 hB5), cell_of_heap (hf.heap0 hB5), cell_of_heap (hf.heap0 hC5), cell_of_heap (hf.heap0 hC5), cell_of_heap (hf.heap0 hC5), cell_of_heap (hf.heap0 hC5), cell_of_heap (hf.heap0 hC5), cell_of_heap (hf.heap0 hD5), cell_of_heap (hf.heap0 hD5), cell_of_heap (hf.heap0 hD5), cell_of_heap (hf.heap0 hD5), cell_of_heap (hf.heap0 hD5)⟩
  have KF : Fr [] W4 W4.drew := (Fr.refl _ _).drew
  have K0 := HS _ KF
  have KA : ∀ o, Fr [] W4 (W4.alloc o).drew := fun o => ((Fr.refl _ _).alloc o).drew
  have KB : ∀ o p, Fr [] W4 ((W4.alloc o).alloc p).drew := fun o p => (((Fr.refl _ _).alloc o).alloc p).drew
  have HF5 := (show Hid _ from hF5)
  have HLE : Hid (w.heap.size ≤ W4.heap.size) := (hw0.then0 hF5).size
  clear hW4 hA1 hA2 hA3 hA4 hB2 hB3 hB4 hC3 hC4 hA5 hB5 hC5 hD5 hF1 hF2 hF3 hF4 hF5 hF2' hF3' hG2 hG3 hG4 hf1 hf2 hf3 hf4 h HBB
  go_region_held (fun w' : World => Fr [] W4 w' ∧ w'.cell? ⟨w1.heap.size, 0, none⟩ = some (ii a1.unit) ∧ w'.cell? ⟨w1.heap.size, 1, none⟩ = some (ii a1.what) ∧ w'.cell? ⟨w1.heap.size, 2, none⟩ = some (ii a1.x) ∧ w'.cell? ⟨w1.heap.size, 3, none⟩ = some (ii a1.y) ∧ w'.cell? ⟨w1.heap.size, 4, none⟩ = some (ii a1.target) ∧ w'.cell? ⟨w2.heap.size, 0, none⟩ = some (ii a2.unit) ∧ w'.cell? ⟨w2.heap.size, 1, none⟩ = some (ii a2.what) ∧ w'.cell? ⟨w2.heap.size, 2, none⟩ = some (ii a2.x) ∧ w'.cell? ⟨w2.heap.size, 3, none⟩ = some (ii a2.y) ∧ w'.cell? ⟨w2.heap.size, 4, none⟩ = some (ii a2.target) ∧ w'.cell? ⟨w3.heap.size, 0, none⟩ = some (ii a3.unit) ∧ w'.cell? ⟨w3.heap.size, 1, none⟩ = some (ii a3.what) ∧ w'.cell? ⟨w3.heap.size, 2, none⟩ = some (ii a3.x) ∧ w'.cell? ⟨w3.heap.size, 3, none⟩ = some (ii a3.y) ∧ w'.cell? ⟨w3.heap.size, 4, none⟩ = some (ii a3.target) ∧ w'.cell? ⟨w4.heap.size, 0, none⟩ = some (ii a4.unit) ∧ w'.cell? ⟨w4.heap.size, 1, none⟩ = some (ii a4.what) ∧ w'.cell? ⟨w4.heap.size, 2, none⟩ = some (ii a4.x) ∧ w'.cell? ⟨w4.heap.size, 3, none⟩ = some (ii a4.y) ∧ w'.cell? ⟨w4.heap.size, 4, none⟩ = some (ii a4.target))
    (first | with_reducible exact K0 | with_reducible exact HS _ (KA _) | with_reducible exact HS _ (KB _ _))
    (fail)
  all_goals
    go_wp2_with fail
    first
    | exact bodyPost_ret (v := .tuple #[.slice (some ⟨W4.heap.size, 0, none⟩) 2 2, .slice (some ⟨W4.heap.size + 1, 0, none⟩) 2 2]) (by simp [results, Tryd.results9, go_sem]) rfl ⟨_, _, rfl, ⟨a1, a2, cmdn_of (hp_old2 W4 _ _) 2 HLE.out⟩, ⟨a3, a4, cmdn_of (hp_new2 W4 _ _) 2 (Nat.le_succ_of_le HLE.out)⟩, (hw0.then0 HF5.out).then0 (KB _ _)⟩
    | exact bodyPost_ret (v := .tuple #[.slice (some ⟨W4.heap.size + 1, 0, none⟩) 2 2, .slice (some ⟨W4.heap.size, 0, none⟩) 2 2]) (by simp [results, Tryd.results9, go_sem]) rfl ⟨_, _, rfl, ⟨a1, a2, cmdn_of (hp_new2 W4 _ _) 2 (Nat.le_succ_of_le HLE.out)⟩, ⟨a3, a4, cmdn_of (hp_old2 W4 _ _) 2 HLE.out⟩, (hw0.then0 HF5.out).then0 (KB _ _)⟩


theorem turn_row2 (gb : Nat) (t : T) (e : Nat → Int) (W : World) (lb o : Nat) (hc : ∀ j, j < 20 → W.cell? ⟨lb, o + j, none⟩ = some (ii (e j))) (hi : ∀ j, j < 20 → I64 (e j)) (hl : t.us.length ≤ 100) :
    ∃ tl : List Value, tl.length = 20 ∧ (∀ w', Fr [] W w' → w'.rangeAt lb o tl) ∧ ∀ pb cap w', GS w' gb pb cap t → Calls Tryd.prog 9 #[.pointer (some ⟨gb, 0, none⟩), .agg tl.toArray] w' fun e w'' => ∃ v1 v2, e = .returned (.tuple #[v1, v2]) ∧ (∃ c1 c2, CmdN w' w'' v1 [c1, c2]) ∧ (∃ c3 c4, CmdN w' w'' v2 [c3, c4]) ∧ Fr [] w' w'' := by
  refine ⟨[ii (e 0), ii (e 1), ii (e 2), ii (e 3), ii (e 4), ii (e 5), ii (e 6), ii (e 7), ii (e 8), ii (e 9), ii (e 10), ii (e 11), ii (e 12), ii (e 13), ii (e 14), ii (e 15), ii (e 16), ii (e 17), ii (e 18), ii (e 19)], rfl, ?_, fun pb cap w' hg => orders_new gb pb cap t e w' hg hl hi⟩
  intro w' hf j v hv
  have hj : j < 20 := by simpa using (List.getElem?_eq_some_iff.1 hv).1
  have h1 := hc j hj
  rw [(hf.cell _ _ (lt_of_cell h1) (by simp)).trans h1, ← hv]
  have h20 : j = 0 ∨ j = 1 ∨ j = 2 ∨ j = 3 ∨ j = 4 ∨ j = 5 ∨ j = 6 ∨ j = 7 ∨ j = 8 ∨ j = 9 ∨ j = 10 ∨ j = 11 ∨ j = 12 ∨ j = 13 ∨ j = 14 ∨ j = 15 ∨ j = 16 ∨ j = 17 ∨ j = 18 ∨ j = 19 := by omega
  rcases h20 with rfl | rfl | rfl | rfl | rfl | rfl | rfl | rfl | rfl | rfl | rfl | rfl | rfl | rfl | rfl | rfl | rfl | rfl | rfl | rfl <;> rfl

end Go.Proofs.YtapabahhfanmmaaDoor
/- Alike. -/
namespace Go.Proofs.YtapabahhfanmmaaDoor
open Go.RowKit

theorem IntsV.fr0 {w w' : World} {v : Value} {l : List Int} (h : IntsV w v l) (hf : Fr [] w w') : IntsV w' v l := by
  rcases h with h | ⟨lb, lo, lc, h1, h2, h3⟩
  · exact Or.inl h
  · exact Or.inr ⟨lb, lo, lc, h1, fun i hi => (hf.cell _ _ (lt_of_cell (h2 i hi)) (by simp)).trans (h2 i hi), h3⟩
theorem loop_ne (bs : ByteArray) : ∀ (n i : Nat) (r : List UInt8), bs.size - i = n → r ≠ [] → ByteArray.toList.loop bs i r ≠ []
  | 0, i, r, h, hr => by
    rw [ByteArray.toList.loop, if_neg (by omega)]
    simpa using hr
  | n + 1, i, r, h, hr => by
    rw [ByteArray.toList.loop, if_pos (by omega)]
    exact loop_ne bs n (i + 1) _ (by omega) (by simp)
theorem toList_ne (bs : ByteArray) (h : bs.size ≠ 0) : ¬ bs.toList = [] := by
  unfold ByteArray.toList
  rw [ByteArray.toList.loop, if_pos (by omega)]
  exact loop_ne bs _ _ _ rfl (by simp)
theorem tell_pos (t : T) : (tellB t).length ≠ 0 := by
  have := numB_len_pos t.turn.toNat
  unfold tellB numsOf headN
  rw [List.cons_append, flatB_cons, List.length_append]
  omega
/-- Two games that are alike. -/
structure AI (W : World) (gb hb : Nat) (k : Nat) (t : T) (wr : World) : Prop where
  g : ∃ pb cap, GS wr gb pb cap t ∧ pb ≠ hb
  h : ∃ pb cap, GS wr hb pb cap t ∧ pb ≠ gb
  ne : gb ≠ hb
  ok : GOk t
  os : OS t
  tn : t.turn = k
  fr : Fr [] W wr
  lg : W.heap.size ≤ gb
  lh : W.heap.size ≤ hb
theorem AI.fr0 {W : World} {gb hb k : Nat} {t : T} {w w' : World} (h : AI W gb hb k t w) (hf : Fr [] w w') : AI W gb hb k t w' := by
  obtain ⟨pb, cap, hg, n1⟩ := h.g
  obtain ⟨pb2, cap2, hh, n2⟩ := h.h
  exact { h with g := ⟨pb, cap, hg.fr hf (by simp) (by simp), n1⟩, h := ⟨pb2, cap2, hh.fr hf (by simp) (by simp), n2⟩, fr := h.fr.then0 hf }
theorem AI.bd {W : World} {gb hb k : Nat} {t : T} {w : World} (h : AI W gb hb k t w) (hk : k ≤ 300) : 0 ≤ t.turn ∧ t.turn ≤ 1000000000 := by have := h.tn; omega
theorem AI.tellG {W : World} {gb hb k : Nat} {t : T} {w : World} (h : AI W gb hb k t w) (hk : k ≤ 300) : Calls Tryd.prog 18 #[.pointer (some ⟨gb, 0, none⟩)] w fun e w' => e = .returned (.string ⟨(tellB t).toArray⟩) ∧ Fr [] w w' := by
  obtain ⟨pb, cap, hg, n1⟩ := h.g
  exact tell_any gb pb cap t w hg (nums_bd h.ok h.os (h.bd hk)) h.ok.len
theorem AI.tellH {W : World} {gb hb k : Nat} {t : T} {w : World} (h : AI W gb hb k t w) (hk : k ≤ 300) : Calls Tryd.prog 18 #[.pointer (some ⟨hb, 0, none⟩)] w fun e w' => e = .returned (.string ⟨(tellB t).toArray⟩) ∧ Fr [] w w' := by
  obtain ⟨pb, cap, hh, n1⟩ := h.h
  exact tell_any hb pb cap t w hh (nums_bd h.ok h.os (h.bd hk)) h.ok.len
theorem AI.lookG {W : World} {gb hb k : Nat} {t : T} {w : World} (h : AI W gb hb k t w) : Calls Tryd.prog 10 #[.pointer (some ⟨gb, 0, none⟩)] w fun e w' => e = .returned (.agg #[ii t.turn, ii (winI t.us), ii t.s0, ii t.s1]) ∧ Fr [] w w' := by
  obtain ⟨pb, cap, hg, n1⟩ := h.g
  exact look_any gb pb cap t w hg
theorem AI.lookH {W : World} {gb hb k : Nat} {t : T} {w : World} (h : AI W gb hb k t w) : Calls Tryd.prog 10 #[.pointer (some ⟨hb, 0, none⟩)] w fun e w' => e = .returned (.agg #[ii t.turn, ii (winI t.us), ii t.s0, ii t.s1]) ∧ Fr [] w w' := by
  obtain ⟨pb, cap, hh, n1⟩ := h.h
  exact look_any hb pb cap t w hh
theorem AI.read {W : World} {gb hb k : Nat} {t : T} {w : World} (h : AI W gb hb k t w) (hk : k ≤ 300) : Calls Tryd.prog 17 #[.string ⟨(tellB t).toArray⟩] w fun e w' => ∃ hb', e = .returned (.tuple #[.pointer (some ⟨hb', 0, none⟩), .int .i64 0]) ∧ AI W gb hb' k t w' := by
  obtain ⟨pb, cap, hg, n1⟩ := h.g
  have hgl := hg.lt
  have hpl := hg.row.lt
  have hl := tell_len h.ok h.os (h.bd hk)
  refine Calls.mono (read_ok t (tellB t) w (reads_tell h.ok h.os (h.bd hk)) (by omega) h.ok h.os (by omega)) ?_
  rintro e w1 ⟨hb', pb', cap', rfl, hgs, h1, h2, hf⟩
  have hs := h.fr.size
  exact ⟨hb', rfl, ⟨pb, cap, hg.fr hf (by simp) (by simp), by omega⟩, ⟨pb', cap', hgs, by omega⟩, by omega, h.ok, h.os, h.tn, h.fr.then0 hf, h.lg, by omega⟩
/-- Both play the same. -/
theorem AI.playG {W : World} {gb hb k : Nat} {t : T} {w w0 : World} (h : AI W gb hb k t w) (hk : k < 300) (hsd : Sd W) (c1 c2 c3 c4 : Cm) (v1 v2 : Value) (h1 : CmdN w0 w v1 [c1, c2]) (h2 : CmdN w0 w v2 [c3, c4]) :
    Calls Tryd.prog 11 #[.pointer (some ⟨gb, 0, none⟩), v1, v2] w fun e w' => ∃ v pb' cap', e = .returned v ∧ Fr [gb] w w' ∧ GS w' gb pb' cap' (playT t [c1, c2] [c3, c4]).1 ∧ pb' ≠ hb ∧ Refs w' w.heap.size v (playT t [c1, c2] [c3, c4]).2.1 (playT t [c1, c2] [c3, c4]).2.2 := by
  obtain ⟨pb, cap, hg, n1⟩ := h.g
  obtain ⟨pb2, cap2, hh, n2⟩ := h.h
  have hhl := hh.lt
  refine Calls.mono (gamePlay_any gb pb cap t [c1, c2] [c3, c4] v1 v2 w hg (hsd.fr0 h.fr) h.ok (by have := h.tn; omega) h1.v h2.v (by simp) (by simp)) ?_
  rintro e w1 ⟨v, pb', cap', rfl, hf, hgs, hp, hr⟩
  exact ⟨v, pb', cap', rfl, hf, hgs, by omega, hr⟩

theorem AI.playH {W : World} {gb hb k : Nat} {t : T} {w w1 w0 : World} (h : AI W gb hb k t w) (hk : k < 300) (hsd : Sd W) (c1 c2 c3 c4 : Cm) (v1 v2 : Value) (hf : Fr [gb] w w1) {pb' cap' : Nat} (hg1 : GS w1 gb pb' cap' (playT t [c1, c2] [c3, c4]).1) (hp : pb' ≠ hb) (h1 : CmdN w0 w1 v1 [c1, c2]) (h2 : CmdN w0 w1 v2 [c3, c4]) :
    Calls Tryd.prog 11 #[.pointer (some ⟨hb, 0, none⟩), v1, v2] w1 fun e w' => ∃ v, e = .returned v ∧ AI W gb hb (k + 1) (playT t [c1, c2] [c3, c4]).1 w' ∧ Fr [hb] w1 w' ∧ Refs w' w1.heap.size v (playT t [c1, c2] [c3, c4]).2.1 (playT t [c1, c2] [c3, c4]).2.2 := by
  obtain ⟨pb2, cap2, hh, n2⟩ := h.h
  have hfw : Fr [] W w1 := h.fr.trans hf (by simp; exact h.lg)
  have hh1 := hh.fr hf (by simp; exact fun e => h.ne e.symm) (by simp; exact n2)
  have hgl := hg1.lt
  have hs := h.fr.size
  have htn := h.tn
  refine Calls.mono (gamePlay_any hb pb2 cap2 t [c1, c2] [c3, c4] v1 v2 w1 hh1 (hsd.fr0 hfw) h.ok (by omega) h1.v h2.v (by simp) (by simp)) ?_
  rintro e w2 ⟨v, pb3, cap3, rfl, hf2, hgs, hp3, hr⟩
  have hpo := play_ok h.ok [c1, c2] [c3, c4] (by omega)
  refine ⟨v, rfl, ⟨⟨pb', cap', hg1.fr hf2 (by simp; exact h.ne) (by simp; exact hp), hp⟩, ⟨pb3, cap3, hgs, by omega⟩, h.ne, hpo.ok, play_os h.ok h.os _ _, by rw [hpo.tn, htn]; push_cast; rfl, hfw.trans hf2 (by simp; exact h.lh), h.lg, h.lh⟩, hf2, hr⟩

theorem eqTwo (c d : Int) (w : World) : (Op.equalIn 9999 34 (.agg #[ii c, ii d]) (.agg #[ii c, ii d])).run Tryd.prog w = .ok true w := by
  have u3 := Tryd.underlying3
  rw [show (9999 : Nat) = 9998 + 1 from rfl, Op.equalIn]
  simp only [Sem.run_bind, run_underlying Tryd.underlying34, Result.andThen_ok]
  simp only [Std.Legacy.Range.forIn_eq_forIn_range', Std.Legacy.Range.size, Nat.sub_zero, Nat.add_sub_cancel, Nat.div_one, List.range'_succ, List.range'_zero, List.forIn_cons, List.forIn_nil]
  go_simp
theorem neqState (a b c d : Int) (w : World) : (binOp BinOp.neq 36 (.agg #[ii a, ii b, ii c, ii d]) (.agg #[ii a, ii b, ii c, ii d])).run Tryd.prog w = .ok (.bool false) w := by
  have h2 := eqTwo c d w
  simp [go_sem, h2]
theorem guardState (x y : Operand) (a b c d : Int) (w : World) : (eqGuard BinOp.neq 36 x y (.agg #[ii a, ii b, ii c, ii d]) (.agg #[ii a, ii b, ii c, ii d])).run Tryd.prog w = .ok () w := by kernel_rfl

set_option maxRecDepth 100000 in
set_option maxHeartbeats 8000000 in
theorem alike_walk (W : World) (v0 v1 : Value) (cs : List Int) (n : Nat) (f : Nat → Int) (at_ : Int) (hv0 : IntsV W v0 cs) (hv1 : TurnsV W v1 n f) (hat : I64 at_) (hsd : Sd W) : Calls Tryd.prog 6 #[v0, v1, .int .i64 at_] W fun e W' => e = .returned (.bool true) ∧ Fr [] W W' := by
  obtain ⟨a1, lc, rfl⟩ : ∃ a1 lc, v1 = .slice a1 n lc := by
    rcases hv1 with ⟨ao, lc, rfl, rfl⟩ | ⟨lb, lo, lc, rfl, _⟩
    · exact ⟨_, _, rfl⟩
    · exact ⟨_, _, rfl⟩
  have HT := (show Hid _ from hv1)
  have hbg := begun_any v0 cs W hv0 hsd
  have HB2 : Hid (∀ w', Fr [] W w' → Calls Tryd.prog 7 #[v0] w' fun e w'' => ∃ gb pb cap, e = .returned (.pointer (some ⟨gb, 0, none⟩)) ∧ GS w'' gb pb cap (startT cs) ∧ w'.heap.size ≤ gb ∧ w'.heap.size ≤ pb ∧ Fr [] w' w'') := fun w' hf => begun_any v0 cs w' (hv0.fr0 hf) (hsd.fr0 hf)
  obtain ⟨q, hq⟩ : ∃ q, pk at_ 20 = q := ⟨_, rfl⟩
  have P1 : Hid (∀ W : World, Calls Tryd.prog 14 #[.int .i64 at_, .int .i64 20] W fun e w' => e = .returned (.int .i64 q) ∧ W = w') := fun W : World => hq ▸ pick_any at_ 20 W (by omega) hat.1 hat.2
  clear hv1 hv0 hq
  go_enter Tryd.func6, Tryd.ntmps6
  go_wp2_with fail
  refine Calls.mono hbg ?_
  rintro e w1 ⟨gb, pb, cap, rfl, hg1, hgl, hpl, hf1⟩
  dsimp only
  clear hbg
  go_wp2_with fail
  refine Calls.mono (HB2.out w1 hf1) ?_
  rintro e w2 ⟨hb, pb2, cap2, rfl, hg2, hgl2, hpl2, hf2⟩
  dsimp only
  have hai : AI W gb hb 0 (startT cs) w2 := by
    have a1 := hg1.lt
    have a2 := hg1.row.lt
    have a3 := hf1.size
    exact ⟨⟨pb, cap, hg1.fr hf2 (by simp) (by simp), by omega⟩, ⟨pb2, cap2, hg2, by omega⟩, by omega, start_ok cs, start_os cs, rfl, hf1.then0 hf2, hgl, by omega⟩
  have HAI := (show Hid _ from hai)
  clear hai hg1 hg2 hf1 hf2 hgl hpl hgl2 hpl2 HB2
  go_wp2_with fail
  go_loopw [8, 9] (fun h i wr => ∃ (k hb : Nat) (t : T), k ≤ n ∧ k ≤ 300 ∧ i = .int .i64 k ∧ h = .pointer (some ⟨hb, 0, none⟩) ∧ AI W gb hb k t wr) (fun _ i _ => 300 - (intOf i).toNat)
  case atStart => exact ⟨0, hb, startT cs, Nat.zero_le _, by omega, rfl, rfl, HAI.out⟩
  case round =>
    obtain ⟨k, hb, t, hk, hk3, rfl, rfl, hA⟩ := hrel
    clear HAI
    by_cases hlt : k < n
    · have hlti : (k : Int) < (n : Int) := by omega
      by_cases h300 : k < 300
      · have h300i : (k : Int) < 300 := by omega
        have HA := (show Hid _ from hA)
        clear hA
        obtain ⟨B, hB⟩ : ∃ B, ((k : Int) == q) = B := ⟨_, rfl⟩
        go_upto_if 39 with (go_at_call 14; with_reducible refine Calls.mono (P1.out _) ?_; rintro e w3 ⟨rfl, rfl⟩)
        clear hB
        go_cut [8] (fun s8 wx => ∃ hb', s8 = .pointer (some ⟨hb', 0, none⟩) ∧ AI W gb hb' k t wx)
        case first =>
          cases B
          · go_wp2_with fail
            go_meet
            exact ⟨hb, rfl, HA.out⟩
          · go_wp2_with fail
            refine Calls.mono (HA.out.tellH (by omega)) ?_
            rintro e w4 ⟨rfl, hf4⟩
            dsimp only
            have ha4 := HA.out.fr0 hf4
            have hrd := ha4.read (by omega)
            obtain ⟨L, hL⟩ : ∃ L, L = tellB t := ⟨_, rfl⟩
            rw [← hL] at hrd ⊢
            clear hL
            go_wp2_with fail
            refine Calls.mono hrd ?_
            rintro e w5 ⟨hb', rfl, ha5⟩
            dsimp only
            have HA5 := (show Hid _ from ha5)
            clear hrd ha4 ha5
            go_wp2_with fail
            go_meet
            exact ⟨hb', rfl, HA5.out⟩
        case rest =>
          obtain ⟨hb', rfl, hA2⟩ := hcut
          clear HA
          obtain ⟨lb, lo, e, rfl, hc⟩ : ∃ (lb lo : Nat) (e : Nat → Int), a1 = some ⟨lb, lo, none⟩ ∧ ∀ j, j < 20 → W.cell? ⟨lb, lo + k * 20 + j, none⟩ = some (ii (e j)) ∧ I64 (e j) := by
            rcases HT.out with ⟨ao, lc', e1, e2⟩ | ⟨lb, lo, lc', e1, hcc, _⟩
            · omega
            · refine ⟨lb, lo, fun j => f (k * 20 + j), by simpa using congrArg (fun v : Value => match v with | .slice a _ _ => a | _ => none) e1, fun j hj => ?_⟩
              have := hcc (k * 20 + j) (by omega)
              rw [← Nat.add_assoc] at this
              exact this
          have hlen : t.us.length ≤ 100 := hA2.ok.len
          obtain ⟨tl, htl, hrg, hor⟩ := turn_row2 gb t e W lb (lo + k * 20) (fun j hj => (hc j hj).1) (fun j hj => (hc j hj).2) hlen
          have hrg1 := hrg wc hA2.fr
          obtain ⟨pg, cg, hgs, hpg⟩ := hA2.g
          have HOR := (show Hid _ from hor pg cg wc hgs)
          have HTL : Hid ((Tryd.prog.info? 33).map (·.size) = some tl.length) := by show _ = _; rw [htl]; exact infoTurn
          have HA2 := (show Hid _ from hA2)
          clear hc htl hrg hor hA2 hgs
          go_wp2_with (refine wpList_load_mid rfl 33 _ rfl lb (lo + k * 20) rfl tl _ hrg1 Tryd.underlying33 rfl HTL.out ?_)
          refine Calls.mono HOR.out ?_
          rintro e w3 ⟨x1, x2, rfl, ⟨c1, c2, hx1⟩, ⟨c3, c4, hx2⟩, hf3⟩
          dsimp only
          have ha3 := HA2.out.fr0 hf3
          have hwcg : gb < wc.heap.size := by obtain ⟨_, _, hgs, _⟩ := HA2.out.g; exact hgs.lt
          have hwch : hb' < wc.heap.size := by obtain ⟨_, _, hgs, _⟩ := HA2.out.h; exact hgs.lt
          have hpg3 := ha3.playG h300 hsd c1 c2 c3 c4 x1 x2 hx1 hx2
          have HA3 := (show Hid _ from ha3)
          have HX1 : Hid (CmdN wc w3 x1 [c1, c2]) := hx1
          have HX2 : Hid (CmdN wc w3 x2 [c3, c4]) := hx2
          clear hrg1 HOR HTL ha3 hx1 hx2
          go_wp2_with fail
          refine Calls.mono hpg3 ?_
          rintro e w4 ⟨v4, pb4, cap4, rfl, hf4, hg4, hpb4, hr4⟩
          dsimp only
          have hph := HA3.out.playH h300 hsd c1 c2 c3 c4 x1 x2 hf4 hg4 hpb4 (HX1.out.fr hf4 (by simp; omega)) (HX2.out.fr hf4 (by simp; omega))
          have HR4 := (show Hid _ from hr4)
          clear hpg3 hr4
          go_wp2_with fail
          refine Calls.mono hph ?_
          rintro e w5 ⟨v5, rfl, ha5, hf5, hr5⟩
          dsimp only
          clear hph
          obtain ⟨rb4, rc4, ao4, ac4, bo4, bc4, rfl, r40, r41, hrb4⟩ := (show Refs _ _ _ _ _ from HR4.out).see
          obtain ⟨rb5, rc5, ao5, ac5, bo5, bc5, rfl, r50, r51, hrb5⟩ := hr5.see
          obtain ⟨la, hla⟩ : ∃ x, (playT t [c1, c2] [c3, c4]).2.1.length = x := ⟨_, rfl⟩
          obtain ⟨lb_, hlb⟩ : ∃ x, (playT t [c1, c2] [c3, c4]).2.2.length = x := ⟨_, rfl⟩
          rw [hla] at r40 r50
          rw [hlb] at r41 r51
          have hs34 := hf3.size
          have hn4 : rb4 ≠ hb' := by omega
          have q40 := (hf5.cell rb4 0 (lt_of_cell r40) (by simp; exact hn4)).trans r40
          have q41 := (hf5.cell rb4 1 (lt_of_cell r41) (by simp; exact hn4)).trans r41
          have TG : Hid (∀ w', Fr [] w5 w' → Calls Tryd.prog 18 #[.pointer (some ⟨gb, 0, none⟩)] w' fun e w'' => e = .returned (.string ⟨(tellB (playT t [c1, c2] [c3, c4]).1).toArray⟩) ∧ Fr [] w' w'') := fun w' hf => (ha5.fr0 hf).tellG (by omega)
          have TH : Hid (∀ w', Fr [] w5 w' → Calls Tryd.prog 18 #[.pointer (some ⟨hb', 0, none⟩)] w' fun e w'' => e = .returned (.string ⟨(tellB (playT t [c1, c2] [c3, c4]).1).toArray⟩) ∧ Fr [] w' w'') := fun w' hf => (ha5.fr0 hf).tellH (by omega)
          have LG : Hid (∀ w', Fr [] w5 w' → Calls Tryd.prog 10 #[.pointer (some ⟨gb, 0, none⟩)] w' fun e w'' => e = .returned (.agg #[ii (playT t [c1, c2] [c3, c4]).1.turn, ii (winI (playT t [c1, c2] [c3, c4]).1.us), ii (playT t [c1, c2] [c3, c4]).1.s0, ii (playT t [c1, c2] [c3, c4]).1.s1]) ∧ Fr [] w' w'') := fun w' hf => (ha5.fr0 hf).lookG
          have LH : Hid (∀ w', Fr [] w5 w' → Calls Tryd.prog 10 #[.pointer (some ⟨hb', 0, none⟩)] w' fun e w'' => e = .returned (.agg #[ii (playT t [c1, c2] [c3, c4]).1.turn, ii (winI (playT t [c1, c2] [c3, c4]).1.us), ii (playT t [c1, c2] [c3, c4]).1.s0, ii (playT t [c1, c2] [c3, c4]).1.s1]) ∧ Fr [] w' w'') := fun w' hf => (ha5.fr0 hf).lookH
          have HA5 := (show Hid _ from ha5)
          clear r40 r41 HR4 hr5 ha5 hla hlb HX1 HX2 HA3 HA2 hg4 hpb4
          generalize (playT t [c1, c2] [c3, c4]).1 = t' at *
          obtain ⟨L, hL⟩ : ∃ L : ByteArray, L = ⟨(tellB t').toArray⟩ := ⟨_, rfl⟩
          rw [← hL] at TG TH
          obtain ⟨z0, z1, z2, z3, hz⟩ : ∃ z0 z1 z2 z3 : Int, z0 = t'.turn ∧ z1 = winI t'.us ∧ z2 = t'.s0 ∧ z3 = t'.s1 := ⟨_, _, _, _, rfl, rfl, rfl, rfl⟩
          obtain ⟨hz0, hz1, hz2, hz3⟩ := hz
          rw [← hz0, ← hz1, ← hz2, ← hz3] at LG LH
          have hnq := neqState z0 z1 z2 z3
          have hgq := fun (x y : Operand) (w0 : World) => guardState x y z0 z1 z2 z3 w0
          clear hL hz0 hz1 hz2 hz3
          have HS : ∀ w', Fr [] w5 w' → (fun w' : World => (w'.cell? ⟨rb4, 0, none⟩ = some (.slice ao4 la ac4) ∧ w'.cell? ⟨rb4, 1, none⟩ = some (.slice bo4 lb_ bc4)) ∧ (w'.cell? ⟨rb5, 0, none⟩ = some (.slice ao5 la ac5) ∧ w'.cell? ⟨rb5, 1, none⟩ = some (.slice bo5 lb_ bc5)) ∧ Fr [] w5 w') w' := fun w' hf => ⟨⟨(hf.cell _ _ (lt_of_cell q40) (by simp)).trans q40, (hf.cell _ _ (lt_of_cell q41) (by simp)).trans q41⟩, ⟨(hf.cell _ _ (lt_of_cell r50) (by simp)).trans r50, (hf.cell _ _ (lt_of_cell r51) (by simp)).trans r51⟩, hf⟩
          have K0 := HS _ (Fr.refl [] w5).drew
          clear q40 q41 r50 r51
          go_wp2_with fail
          go_cut [113] (fun s113 wx => s113 = .bool false ∧ Fr [] w5 wx)
          case first =>
            go_region_held (fun w' : World => (w'.cell? ⟨rb4, 0, none⟩ = some (.slice ao4 la ac4) ∧ w'.cell? ⟨rb4, 1, none⟩ = some (.slice bo4 lb_ bc4)) ∧ (w'.cell? ⟨rb5, 0, none⟩ = some (.slice ao5 la ac5) ∧ w'.cell? ⟨rb5, 1, none⟩ = some (.slice bo5 lb_ bc5)) ∧ Fr [] w5 w')
              (first | with_reducible exact K0 | with_reducible exact HS _ hfr1 | with_reducible exact HS _ hfr2 | with_reducible exact HS _ hfr3 | with_reducible exact HS _ hfr4)
              (first
                | (go_at_call 18; first | (with_reducible refine Calls.mono (TG.out _ (And.right (And.right (by assumption)))) ?_; rintro e w6 ⟨rfl, hf6⟩; have hfr1 : Fr [] w5 w6 := Fr.then0 (And.right (And.right (by assumption))) hf6) | (with_reducible refine Calls.mono (TH.out _ (And.right (And.right (by assumption)))) ?_; rintro e w7 ⟨rfl, hf7⟩; have hfr2 : Fr [] w5 w7 := Fr.then0 (And.right (And.right (by assumption))) hf7))
                | (go_at_call 10; first | (with_reducible refine Calls.mono (LG.out _ (And.right (And.right (by assumption)))) ?_; rintro e w8 ⟨rfl, hf8⟩; have hfr3 : Fr [] w5 w8 := Fr.then0 (And.right (And.right (by assumption))) hf8) | (with_reducible refine Calls.mono (LH.out _ (And.right (And.right (by assumption)))) ?_; rintro e w9 ⟨rfl, hf9⟩; have hfr4 : Fr [] w5 w9 := Fr.then0 (And.right (And.right (by assumption))) hf9)))
            all_goals
              go_wp2_with fail
              go_meet
              exact ⟨rfl, hfr4⟩
          case rest =>
            obtain ⟨rfl, hf10⟩ := hcut
            clear HS K0 TG TH LG LH
            go_wp2_with fail
            go_roundw
            case rel => exact ⟨k + 1, hb', t', hlt, by omega, by go_num, rfl, HA5.out.fr0 hf10⟩
            case measure => simp [intOf]; omega
      · have h300i : ¬ (k : Int) < 300 := by omega
        have TG : Hid (∀ w', Fr [] wr w' → Calls Tryd.prog 18 #[.pointer (some ⟨gb, 0, none⟩)] w' fun e w'' => e = .returned (.string ⟨(tellB t).toArray⟩) ∧ Fr [] w' w'') := fun w' hf => (hA.fr0 hf).tellG hk3
        have TH : Hid (∀ w', Fr [] wr w' → Calls Tryd.prog 18 #[.pointer (some ⟨hb, 0, none⟩)] w' fun e w'' => e = .returned (.string ⟨(tellB t).toArray⟩) ∧ Fr [] w' w'') := fun w' hf => (hA.fr0 hf).tellH hk3
        have hfw := hA.fr
        have hpos : (tellB t).length ≠ 0 := tell_pos t
        obtain ⟨L, hL⟩ : ∃ L : ByteArray, L = ⟨(tellB t).toArray⟩ := ⟨_, rfl⟩
        have hLs : L.size ≠ 0 := by rw [hL]; exact hpos
        have hLe := toList_ne L hLs
        rw [← hL] at TG TH
        clear hL hpos hA hLs
        go_wp2_with fail
        refine Calls.mono (TG.out _ (Fr.refl _ _)) ?_
        rintro e w6 ⟨rfl, hf6⟩
        dsimp only
        go_wp2_with fail
        refine Calls.mono (TG.out _ hf6) ?_
        rintro e w7 ⟨rfl, hf7⟩
        dsimp only
        have hf7' := hf6.then0 hf7
        go_wp2_with fail
        refine Calls.mono (TH.out _ hf7') ?_
        rintro e w8 ⟨rfl, hf8⟩
        dsimp only
        go_wp2_with fail
        go_ret
        exact ⟨by simp; exact hLe, hfw.then0 (hf7'.then0 hf8)⟩
    · have hlti : ¬ (k : Int) < (n : Int) := by omega
      have TG : Hid (∀ w', Fr [] wr w' → Calls Tryd.prog 18 #[.pointer (some ⟨gb, 0, none⟩)] w' fun e w'' => e = .returned (.string ⟨(tellB t).toArray⟩) ∧ Fr [] w' w'') := fun w' hf => (hA.fr0 hf).tellG hk3
      have TH : Hid (∀ w', Fr [] wr w' → Calls Tryd.prog 18 #[.pointer (some ⟨hb, 0, none⟩)] w' fun e w'' => e = .returned (.string ⟨(tellB t).toArray⟩) ∧ Fr [] w' w'') := fun w' hf => (hA.fr0 hf).tellH hk3
      have hfw := hA.fr
      have hpos : (tellB t).length ≠ 0 := tell_pos t
      obtain ⟨L, hL⟩ : ∃ L : ByteArray, L = ⟨(tellB t).toArray⟩ := ⟨_, rfl⟩
      have hLs : L.size ≠ 0 := by rw [hL]; exact hpos
      have hLe := toList_ne L hLs
      rw [← hL] at TG TH
      clear hL hpos hA hLs
      go_wp2_with fail
      refine Calls.mono (TG.out _ (Fr.refl _ _)) ?_
      rintro e w6 ⟨rfl, hf6⟩
      dsimp only
      go_wp2_with fail
      refine Calls.mono (TG.out _ hf6) ?_
      rintro e w7 ⟨rfl, hf7⟩
      dsimp only
      have hf7' := hf6.then0 hf7
      go_wp2_with fail
      refine Calls.mono (TH.out _ hf7') ?_
      rintro e w8 ⟨rfl, hf8⟩
      dsimp only
      go_wp2_with fail
      go_ret
      exact ⟨by simp; exact hLe, hfw.then0 (hf7'.then0 hf8)⟩
end Go.Proofs.YtapabahhfanmmaaDoor
