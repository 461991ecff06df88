import Derived.Test.YtapabahhfanmmaaGreatDoorCCommand
import Derived.Test.YtapabahhfanmmaaGreatDoorCCmds2
/- The law's own orders. -/
namespace Go.Proofs.YtapabahhfanmmaaGreatDoor
open Go.RowKit

set_option maxRecDepth 100000 in
set_option maxHeartbeats 2000000 in
theorem orders_any (gb pb cap : Nat) (t : T) (f : Nat → Int) (w : World) (h : GS w gb pb cap t) (hl : t.us.length ≤ 100) (hf : ∀ i, i < 20 → I64 (f i)) :
    Calls Tryz.prog 16 #[.pointer (some ⟨gb, 0, none⟩), .agg #[ii (f 0), ii (f 1), ii (f 2), ii (f 3), ii (f 4), ii (f 5), ii (f 6), ii (f 7), ii (f 8), ii (f 9), ii (f 10), ii (f 11), ii (f 12), ii (f 13), ii (f 14), ii (f 15), ii (f 16), ii (f 17), ii (f 18), ii (f 19)]] w fun e w' =>
      ∃ v1 v2, e = .returned (.tuple #[v1, v2]) ∧ (∃ c1 c2, CmdV w' v1 [c1, c2]) ∧ (∃ c3 c4, CmdV w' v2 [c3, c4]) ∧ Fr [] w w' := by
  have h0 := hf 0 (by omega)
  have h1 := hf 1 (by omega)
  have h2 := hf 2 (by omega)
  have h3 := hf 3 (by omega)
  have h4 := hf 4 (by omega)
  have h5 := hf 5 (by omega)
  have h6 := hf 6 (by omega)
  have h7 := hf 7 (by omega)
  have h8 := hf 8 (by omega)
  have h9 := hf 9 (by omega)
  have h10 := hf 10 (by omega)
  have h11 := hf 11 (by omega)
  have h12 := hf 12 (by omega)
  have h13 := hf 13 (by omega)
  have h14 := hf 14 (by omega)
  have h15 := hf 15 (by omega)
  have h16 := hf 16 (by omega)
  have h17 := hf 17 (by omega)
  have h18 := hf 18 (by omega)
  have h19 := hf 19 (by omega)
  clear hf
  go_enter Tryz.func16, Tryz.ntmps16
  go_wp2_with fail
  obtain ⟨W0, hW0⟩ : ∃ W, W = w.alloc (.cells #[ii (f 0), ii (f 1), ii (f 2), ii (f 3), ii (f 4), ii (f 5), ii (f 6), ii (f 7), ii (f 8), ii (f 9), ii (f 10), ii (f 11), ii (f 12), ii (f 13), ii (f 14), ii (f 15), ii (f 16), ii (f 17), ii (f 18), ii (f 19)] 45) := ⟨_, rfl⟩
  rw [← hW0]
  have hw0 : Fr [] w W0 := by rw [hW0]; exact (Fr.refl _ _).alloc _
  have hB0 : W0.heap[w.heap.size]? = some (.cells #[ii (f 0), ii (f 1), ii (f 2), ii (f 3), ii (f 4), ii (f 5), ii (f 6), ii (f 7), ii (f 8), ii (f 9), ii (f 10), ii (f 11), ii (f 12), ii (f 13), ii (f 14), ii (f 15), ii (f 16), ii (f 17), ii (f 18), ii (f 19)] 45) := by rw [hW0]; exact hp_new _ _
  clear hW0
  have HB : ∀ W, Fr [] W0 W → W.cell? ⟨w.heap.size, 5, none⟩ = some (ii (f 5)) ∧ W.cell? ⟨w.heap.size, 6, none⟩ = some (ii (f 6)) ∧ W.cell? ⟨w.heap.size, 7, none⟩ = some (ii (f 7)) ∧ W.cell? ⟨w.heap.size, 8, none⟩ = some (ii (f 8)) ∧ W.cell? ⟨w.heap.size, 9, none⟩ = some (ii (f 9)) ∧ W.cell? ⟨w.heap.size, 10, none⟩ = some (ii (f 10)) ∧ W.cell? ⟨w.heap.size, 11, none⟩ = some (ii (f 11)) ∧ W.cell? ⟨w.heap.size, 12, none⟩ = some (ii (f 12)) ∧ W.cell? ⟨w.heap.size, 13, none⟩ = some (ii (f 13)) ∧ W.cell? ⟨w.heap.size, 14, none⟩ = some (ii (f 14)) ∧ W.cell? ⟨w.heap.size, 15, none⟩ = some (ii (f 15)) ∧ W.cell? ⟨w.heap.size, 16, none⟩ = some (ii (f 16)) ∧ W.cell? ⟨w.heap.size, 17, none⟩ = some (ii (f 17)) ∧ W.cell? ⟨w.heap.size, 18, none⟩ = some (ii (f 18)) ∧ W.cell? ⟨w.heap.size, 19, none⟩ = some (ii (f 19)) := fun W hf =>
    have k := hf.heap0 hB0
    ⟨cell_of_heap k, cell_of_heap k, cell_of_heap k, cell_of_heap k, cell_of_heap k, cell_of_heap k, cell_of_heap k, cell_of_heap k, cell_of_heap k, cell_of_heap k, cell_of_heap k, cell_of_heap k, cell_of_heap k, cell_of_heap k, cell_of_heap k⟩
  have HBB := (show Hid _ from HB)
  clear HB hB0
  refine Calls.mono (lawCommand_any gb pb cap t 0 (f 0) (f 1) (f 2) (f 3) (f 4) _ (h.fr hw0 (by simp) (by simp)) hl h0 h1 h2 h3 h4) ?_
  rintro e w1 ⟨a1, rfl, hf1⟩
  dsimp only
  have hl0 : w.heap.size < W0.heap.size := lt_of_cell (HBB.out W0 (Fr.refl _ _)).1
  obtain ⟨W1, hW1⟩ : ∃ W, W = w1.alloc (.cells #[ii a1.unit, ii a1.what, ii a1.x, ii a1.y, ii a1.target] 81) := ⟨_, rfl⟩
  have hF1 : Fr [] W0 W1 := by rw [hW1]; exact hf1.alloc _
  have hA1 : W1.heap[w1.heap.size]? = some (.cells #[ii a1.unit, ii a1.what, ii a1.x, ii a1.y, ii a1.target] 81) := by rw [hW1]; exact hp_new _ _
  obtain ⟨b5, b6, b7, b8, b9, b10, b11, b12, b13, b14, b15, b16, b17, b18, b19⟩ := HBB.out W1 hF1
  rw [hW1] at b5 b6 b7 b8 b9
  have HC2 := (show Hid _ from lawCommand_any gb pb cap t 0 (f 5) (f 6) (f 7) (f 8) (f 9) W1 (h.fr (hw0.then0 hF1) (by simp) (by simp)) hl h5 h6 h7 h8 h9)
  rw [hW1] at HC2
  clear b10 b11 b12 b13 b14 b15 b16 b17 b18 b19
  go_wp2_with fail
  refine Calls.mono HC2.out ?_
  rintro e w2 ⟨a2, rfl, hf2⟩
  dsimp only
  rw [← hW1] at hf2
  clear b5 b6 b7 b8 b9 HC2 hW1
  have hA2 := hf2.heap0 hA1
  have hF2 := hF1.then0 hf2
  obtain ⟨W2, hW2⟩ : ∃ W, W = w2.alloc (.cells #[ii a2.unit, ii a2.what, ii a2.x, ii a2.y, ii a2.target] 81) := ⟨_, rfl⟩
  have hF2' : Fr [] W0 W2 := by rw [hW2]; exact hF2.alloc _
  have hG2 : Fr [] w2 W2 := by rw [hW2]; exact (Fr.refl _ _).alloc _
  have hB2 : W2.heap[w2.heap.size]? = some (.cells #[ii a2.unit, ii a2.what, ii a2.x, ii a2.y, ii a2.target] 81) := by rw [hW2]; exact hp_new _ _
  obtain ⟨b5, b6, b7, b8, b9, b10, b11, b12, b13, b14, b15, b16, b17, b18, b19⟩ := HBB.out W2 hF2'
  rw [hW2] at b10 b11 b12 b13 b14
  have HC3 := (show Hid _ from lawCommand_any gb pb cap t 1 (f 10) (f 11) (f 12) (f 13) (f 14) W2 (h.fr (hw0.then0 hF2') (by simp) (by simp)) hl h10 h11 h12 h13 h14)
  rw [hW2] at HC3
  clear b5 b6 b7 b8 b9 b15 b16 b17 b18 b19
  go_wp2_with fail
  refine Calls.mono HC3.out ?_
  rintro e w3 ⟨a3, rfl, hf3⟩
  dsimp only
  rw [← hW2] at hf3
  clear b10 b11 b12 b13 b14 HC3 hW2
  have hA3 := hf3.heap0 (hG2.heap0 hA2)
  have hB3 := hf3.heap0 hB2
  have hF3 := hF2'.then0 hf3
  obtain ⟨W3, hW3⟩ : ∃ W, W = w3.alloc (.cells #[ii a3.unit, ii a3.what, ii a3.x, ii a3.y, ii a3.target] 81) := ⟨_, rfl⟩
  have hF3' : Fr [] W0 W3 := by rw [hW3]; exact hF3.alloc _
  have hG3 : Fr [] w3 W3 := by rw [hW3]; exact (Fr.refl _ _).alloc _
  have hC3 : W3.heap[w3.heap.size]? = some (.cells #[ii a3.unit, ii a3.what, ii a3.x, ii a3.y, ii a3.target] 81) := by rw [hW3]; exact hp_new _ _
  obtain ⟨b5, b6, b7, b8, b9, b10, b11, b12, b13, b14, b15, b16, b17, b18, b19⟩ := HBB.out W3 hF3'
  rw [hW3] at b15 b16 b17 b18 b19
  have HC4 := (show Hid _ from lawCommand_any gb pb cap t 1 (f 15) (f 16) (f 17) (f 18) (f 19) W3 (h.fr (hw0.then0 hF3') (by simp) (by simp)) hl h15 h16 h17 h18 h19)
  rw [hW3] at HC4
  clear b5 b6 b7 b8 b9 b10 b11 b12 b13 b14
  go_wp2_with fail
  refine Calls.mono HC4.out ?_
  rintro e w4 ⟨a4, rfl, hf4⟩
  dsimp only
  rw [← hW3] at hf4
  clear b15 b16 b17 b18 b19 HC4 hW3
  have hA4 := hf4.heap0 (hG3.heap0 hA3)
  have hB4 := hf4.heap0 (hG3.heap0 hB3)
  have hC4 := hf4.heap0 hC3
  have hF4 := hF3'.then0 hf4
  go_wp2_with fail
  obtain ⟨W4, hW4⟩ : ∃ W, W = w4.alloc (.cells #[ii a4.unit, ii a4.what, ii a4.x, ii a4.y, ii a4.target] 81) := ⟨_, rfl⟩
  rw [← hW4]
  have hG4 : Fr [] w4 W4 := by rw [hW4]; exact (Fr.refl _ _).alloc _
  have hF5 : Fr [] W0 W4 := hF4.then0 hG4
  have hA5 := hG4.heap0 hA4
  have hB5 := hG4.heap0 hB4
  have hC5 := hG4.heap0 hC4
  have hD5 : W4.heap[w4.heap.size]? = some (.cells #[ii a4.unit, ii a4.what, ii a4.x, ii a4.y, ii a4.target] 81) := by rw [hW4]; exact hp_new _ _
  have HS : ∀ w', Fr [] W4 w' → (fun w' : World => Fr [] W4 w' ∧ w'.cell? ⟨w1.heap.size, 0, none⟩ = some (ii a1.unit) ∧ w'.cell? ⟨w1.heap.size, 1, none⟩ = some (ii a1.what) ∧ w'.cell? ⟨w1.heap.size, 2, none⟩ = some (ii a1.x) ∧ w'.cell? ⟨w1.heap.size, 3, none⟩ = some (ii a1.y) ∧ w'.cell? ⟨w1.heap.size, 4, none⟩ = some (ii a1.target) ∧ w'.cell? ⟨w2.heap.size, 0, none⟩ = some (ii a2.unit) ∧ w'.cell? ⟨w2.heap.size, 1, none⟩ = some (ii a2.what) ∧ w'.cell? ⟨w2.heap.size, 2, none⟩ = some (ii a2.x) ∧ w'.cell? ⟨w2.heap.size, 3, none⟩ = some (ii a2.y) ∧ w'.cell? ⟨w2.heap.size, 4, none⟩ = some (ii a2.target) ∧ w'.cell? ⟨w3.heap.size, 0, none⟩ = some (ii a3.unit) ∧ w'.cell? ⟨w3.heap.size, 1, none⟩ = some (ii a3.what) ∧ w'.cell? ⟨w3.heap.size, 2, none⟩ = some (ii a3.x) ∧ w'.cell? ⟨w3.heap.size, 3, none⟩ = some (ii a3.y) ∧ w'.cell? ⟨w3.heap.size, 4, none⟩ = some (ii a3.target) ∧ w'.cell? ⟨w4.heap.size, 0, none⟩ = some (ii a4.unit) ∧ w'.cell? ⟨w4.heap.size, 1, none⟩ = some (ii a4.what) ∧ w'.cell? ⟨w4.heap.size, 2, none⟩ = some (ii a4.x) ∧ w'.cell? ⟨w4.heap.size, 3, none⟩ = some (ii a4.y) ∧ w'.cell? ⟨w4.heap.size, 4, none⟩ = some (ii a4.target)) w' := fun w' hf => ⟨hf, cell_of_heap (hf.heap0 hA5), cell_of_heap (hf.heap0 hA5), cell_of_heap (hf.heap0 hA5), cell_of_heap (hf.heap0 hA5), cell_of_heap (hf.heap0 hA5), cell_of_heap (hf.heap0 hB5), cell_of_heap (hf.heap0 hB5), cell_of_heap (hf.heap0 hB5), cell_of_heap (hf.heap0 hB5), cell_of_heap (hf.heap0 hB5), cell_of_heap (hf.heap0 hC5), cell_of_heap (hf.heap0 hC5), cell_of_heap (hf.heap0 hC5), cell_of_heap (hf.heap0 hC5), cell_of_heap (hf.heap0 hC5), cell_of_heap (hf.heap0 hD5), cell_of_heap (hf.heap0 hD5), cell_of_heap (hf.heap0 hD5), cell_of_heap (hf.heap0 hD5), cell_of_heap (hf.heap0 hD5)⟩
  have KF : Fr [] W4 W4.drew := (Fr.refl _ _).drew
  have K0 := HS _ KF
  have KA : ∀ o, Fr [] W4 (W4.alloc o).drew := fun o => ((Fr.refl _ _).alloc o).drew
  have KB : ∀ o p, Fr [] W4 ((W4.alloc o).alloc p).drew := fun o p => (((Fr.refl _ _).alloc o).alloc p).drew
  have HF5 := (show Hid _ from hF5)
  clear hW4 hA1 hA2 hA3 hA4 hB2 hB3 hB4 hC3 hC4 hA5 hB5 hC5 hD5 hF1 hF2 hF3 hF4 hF5 hF2' hF3' hG2 hG3 hG4 hf1 hf2 hf3 hf4 h HBB
  go_region_held (fun w' : World => Fr [] W4 w' ∧ w'.cell? ⟨w1.heap.size, 0, none⟩ = some (ii a1.unit) ∧ w'.cell? ⟨w1.heap.size, 1, none⟩ = some (ii a1.what) ∧ w'.cell? ⟨w1.heap.size, 2, none⟩ = some (ii a1.x) ∧ w'.cell? ⟨w1.heap.size, 3, none⟩ = some (ii a1.y) ∧ w'.cell? ⟨w1.heap.size, 4, none⟩ = some (ii a1.target) ∧ w'.cell? ⟨w2.heap.size, 0, none⟩ = some (ii a2.unit) ∧ w'.cell? ⟨w2.heap.size, 1, none⟩ = some (ii a2.what) ∧ w'.cell? ⟨w2.heap.size, 2, none⟩ = some (ii a2.x) ∧ w'.cell? ⟨w2.heap.size, 3, none⟩ = some (ii a2.y) ∧ w'.cell? ⟨w2.heap.size, 4, none⟩ = some (ii a2.target) ∧ w'.cell? ⟨w3.heap.size, 0, none⟩ = some (ii a3.unit) ∧ w'.cell? ⟨w3.heap.size, 1, none⟩ = some (ii a3.what) ∧ w'.cell? ⟨w3.heap.size, 2, none⟩ = some (ii a3.x) ∧ w'.cell? ⟨w3.heap.size, 3, none⟩ = some (ii a3.y) ∧ w'.cell? ⟨w3.heap.size, 4, none⟩ = some (ii a3.target) ∧ w'.cell? ⟨w4.heap.size, 0, none⟩ = some (ii a4.unit) ∧ w'.cell? ⟨w4.heap.size, 1, none⟩ = some (ii a4.what) ∧ w'.cell? ⟨w4.heap.size, 2, none⟩ = some (ii a4.x) ∧ w'.cell? ⟨w4.heap.size, 3, none⟩ = some (ii a4.y) ∧ w'.cell? ⟨w4.heap.size, 4, none⟩ = some (ii a4.target))
    (first | with_reducible exact K0 | with_reducible exact HS _ (KA _) | with_reducible exact HS _ (KB _ _))
    (fail)
  all_goals
    go_wp2_with fail
    first
    | exact bodyPost_ret (v := .tuple #[.slice (some ⟨W4.heap.size, 0, none⟩) 2 2, .slice (some ⟨W4.heap.size + 1, 0, none⟩) 2 2]) (by simp [results, Tryz.results16, go_sem]) rfl ⟨_, _, rfl, ⟨a1, a2, cmds_of (hp_old2 W4 _ _) 2⟩, ⟨a3, a4, cmds_of (hp_new2 W4 _ _) 2⟩, (hw0.then0 HF5.out).then0 (KB _ _)⟩
    | exact bodyPost_ret (v := .tuple #[.slice (some ⟨W4.heap.size + 1, 0, none⟩) 2 2, .slice (some ⟨W4.heap.size, 0, none⟩) 2 2]) (by simp [results, Tryz.results16, go_sem]) rfl ⟨_, _, rfl, ⟨a1, a2, cmds_of (hp_new2 W4 _ _) 2⟩, ⟨a3, a4, cmds_of (hp_old2 W4 _ _) 2⟩, (hw0.then0 HF5.out).then0 (KB _ _)⟩
end Go.Proofs.YtapabahhfanmmaaGreatDoor
/- The law's own orders: they lie in new memory. -/
namespace Go.Proofs.YtapabahhfanmmaaGreatDoor
open Go.RowKit

/-- A list of commands in new memory. -/
def CmdN (w0 w : World) (v : Value) (l : List Cm) : Prop := ∃ lb lc, v = .slice (some ⟨lb, 0, none⟩) l.length lc ∧ Cmds w lb l ∧ lb < w.heap.size ∧ w0.heap.size ≤ lb
theorem CmdN.v {w0 w : World} {v : Value} {l : List Cm} (h : CmdN w0 w v l) : CmdV w v l := by
  obtain ⟨lb, lc, h1, h2, h3, _⟩ := h
  exact Or.inr ⟨lb, lc, h1, h2, h3⟩
theorem CmdN.fr {S : List Nat} {w0 w w' : World} {v : Value} {l : List Cm} (h : CmdN w0 w v l) (hf : Fr S w w') (hs : ∀ i ∈ S, i < w0.heap.size) : CmdN w0 w' v l := by
  obtain ⟨lb, lc, h1, h2, h3, h4⟩ := h
  exact ⟨lb, lc, h1, h2.fr hf (fun hm => by have := hs lb hm; omega), Nat.lt_of_lt_of_le h3 hf.size, h4⟩
theorem cmdn_of {w0 w : World} {b : Nat} {c1 c2 : Cm} {ty : TypeId} (h : w.heap[b]? = some (.cells #[ii c1.unit, ii c1.what, ii c1.x, ii c1.y, ii c1.target, ii c2.unit, ii c2.what, ii c2.x, ii c2.y, ii c2.target] ty)) (lc : Nat) (hle : w0.heap.size ≤ b) : CmdN w0 w (.slice (some ⟨b, 0, none⟩) 2 lc) [c1, c2] := by
  rcases cmds_of h lc with ⟨_, _, _, h0⟩ | ⟨lb, lc', h1, h2, h3⟩
  · cases h0
  · have e : lb = b := by
      have := congrArg (fun v : Value => match v with | .slice (some a) _ _ => a.block | _ => 0) h1
      exact this.symm
    subst e
    exact ⟨lb, lc, rfl, h2, h3, hle⟩

set_option maxRecDepth 100000 in
set_option maxHeartbeats 2000000 in
theorem orders_new (gb pb cap : Nat) (t : T) (f : Nat → Int) (w : World) (h : GS w gb pb cap t) (hl : t.us.length ≤ 100) (hf : ∀ i, i < 20 → I64 (f i)) :
    Calls Tryz.prog 16 #[.pointer (some ⟨gb, 0, none⟩), .agg #[ii (f 0), ii (f 1), ii (f 2), ii (f 3), ii (f 4), ii (f 5), ii (f 6), ii (f 7), ii (f 8), ii (f 9), ii (f 10), ii (f 11), ii (f 12), ii (f 13), ii (f 14), ii (f 15), ii (f 16), ii (f 17), ii (f 18), ii (f 19)]] w fun e w' =>
      ∃ v1 v2, e = .returned (.tuple #[v1, v2]) ∧ (∃ c1 c2, CmdN w w' v1 [c1, c2]) ∧ (∃ c3 c4, CmdN w w' v2 [c3, c4]) ∧ Fr [] w w' := by
  have h0 := hf 0 (by omega)
  have h1 := hf 1 (by omega)
  have h2 := hf 2 (by omega)
  have h3 := hf 3 (by omega)
  have h4 := hf 4 (by omega)
  have h5 := hf 5 (by omega)
  have h6 := hf 6 (by omega)
  have h7 := hf 7 (by omega)
  have h8 := hf 8 (by omega)
  have h9 := hf 9 (by omega)
  have h10 := hf 10 (by omega)
  have h11 := hf 11 (by omega)
  have h12 := hf 12 (by omega)
  have h13 := hf 13 (by omega)
  have h14 := hf 14 (by omega)
  have h15 := hf 15 (by omega)
  have h16 := hf 16 (by omega)
  have h17 := hf 17 (by omega)
  have h18 := hf 18 (by omega)
  have h19 := hf 19 (by omega)
  clear hf
  go_enter Tryz.func16, Tryz.ntmps16
  go_wp2_with fail
  obtain ⟨W0, hW0⟩ : ∃ W, W = w.alloc (.cells #[ii (f 0), ii (f 1), ii (f 2), ii (f 3), ii (f 4), ii (f 5), ii (f 6), ii (f 7), ii (f 8), ii (f 9), ii (f 10), ii (f 11), ii (f 12), ii (f 13), ii (f 14), ii (f 15), ii (f 16), ii (f 17), ii (f 18), ii (f 19)] 45) := ⟨_, rfl⟩
  rw [← hW0]
  have hw0 : Fr [] w W0 := by rw [hW0]; exact (Fr.refl _ _).alloc _
  have hB0 : W0.heap[w.heap.size]? = some (.cells #[ii (f 0), ii (f 1), ii (f 2), ii (f 3), ii (f 4), ii (f 5), ii (f 6), ii (f 7), ii (f 8), ii (f 9), ii (f 10), ii (f 11), ii (f 12), ii (f 13), ii (f 14), ii (f 15), ii (f 16), ii (f 17), ii (f 18), ii (f 19)] 45) := by rw [hW0]; exact hp_new _ _
  clear hW0
  have HB : ∀ W, Fr [] W0 W → W.cell? ⟨w.heap.size, 5, none⟩ = some (ii (f 5)) ∧ W.cell? ⟨w.heap.size, 6, none⟩ = some (ii (f 6)) ∧ W.cell? ⟨w.heap.size, 7, none⟩ = some (ii (f 7)) ∧ W.cell? ⟨w.heap.size, 8, none⟩ = some (ii (f 8)) ∧ W.cell? ⟨w.heap.size, 9, none⟩ = some (ii (f 9)) ∧ W.cell? ⟨w.heap.size, 10, none⟩ = some (ii (f 10)) ∧ W.cell? ⟨w.heap.size, 11, none⟩ = some (ii (f 11)) ∧ W.cell? ⟨w.heap.size, 12, none⟩ = some (ii (f 12)) ∧ W.cell? ⟨w.heap.size, 13, none⟩ = some (ii (f 13)) ∧ W.cell? ⟨w.heap.size, 14, none⟩ = some (ii (f 14)) ∧ W.cell? ⟨w.heap.size, 15, none⟩ = some (ii (f 15)) ∧ W.cell? ⟨w.heap.size, 16, none⟩ = some (ii (f 16)) ∧ W.cell? ⟨w.heap.size, 17, none⟩ = some (ii (f 17)) ∧ W.cell? ⟨w.heap.size, 18, none⟩ = some (ii (f 18)) ∧ W.cell? ⟨w.heap.size, 19, none⟩ = some (ii (f 19)) := fun W hf =>
    have k := hf.heap0 hB0
    ⟨cell_of_heap k, cell_of_heap k, cell_of_heap k, cell_of_heap k, cell_of_heap k, cell_of_heap k, cell_of_heap k, cell_of_heap k, cell_of_heap k, cell_of_heap k, cell_of_heap k, cell_of_heap k, cell_of_heap k, cell_of_heap k, cell_of_heap k⟩
  have HBB := (show Hid _ from HB)
  clear HB hB0
  refine Calls.mono (lawCommand_any gb pb cap t 0 (f 0) (f 1) (f 2) (f 3) (f 4) _ (h.fr hw0 (by simp) (by simp)) hl h0 h1 h2 h3 h4) ?_
  rintro e w1 ⟨a1, rfl, hf1⟩
  dsimp only
  have hl0 : w.heap.size < W0.heap.size := lt_of_cell (HBB.out W0 (Fr.refl _ _)).1
  obtain ⟨W1, hW1⟩ : ∃ W, W = w1.alloc (.cells #[ii a1.unit, ii a1.what, ii a1.x, ii a1.y, ii a1.target] 81) := ⟨_, rfl⟩
  have hF1 : Fr [] W0 W1 := by rw [hW1]; exact hf1.alloc _
  have hA1 : W1.heap[w1.heap.size]? = some (.cells #[ii a1.unit, ii a1.what, ii a1.x, ii a1.y, ii a1.target] 81) := by rw [hW1]; exact hp_new _ _
  obtain ⟨b5, b6, b7, b8, b9, b10, b11, b12, b13, b14, b15, b16, b17, b18, b19⟩ := HBB.out W1 hF1
  rw [hW1] at b5 b6 b7 b8 b9
  have HC2 := (show Hid _ from lawCommand_any gb pb cap t 0 (f 5) (f 6) (f 7) (f 8) (f 9) W1 (h.fr (hw0.then0 hF1) (by simp) (by simp)) hl h5 h6 h7 h8 h9)
  rw [hW1] at HC2
  clear b10 b11 b12 b13 b14 b15 b16 b17 b18 b19
  go_wp2_with fail
  refine Calls.mono HC2.out ?_
  rintro e w2 ⟨a2, rfl, hf2⟩
  dsimp only
  rw [← hW1] at hf2
  clear b5 b6 b7 b8 b9 HC2 hW1
  have hA2 := hf2.heap0 hA1
  have hF2 := hF1.then0 hf2
  obtain ⟨W2, hW2⟩ : ∃ W, W = w2.alloc (.cells #[ii a2.unit, ii a2.what, ii a2.x, ii a2.y, ii a2.target] 81) := ⟨_, rfl⟩
  have hF2' : Fr [] W0 W2 := by rw [hW2]; exact hF2.alloc _
  have hG2 : Fr [] w2 W2 := by rw [hW2]; exact (Fr.refl _ _).alloc _
  have hB2 : W2.heap[w2.heap.size]? = some (.cells #[ii a2.unit, ii a2.what, ii a2.x, ii a2.y, ii a2.target] 81) := by rw [hW2]; exact hp_new _ _
  obtain ⟨b5, b6, b7, b8, b9, b10, b11, b12, b13, b14, b15, b16, b17, b18, b19⟩ := HBB.out W2 hF2'
  rw [hW2] at b10 b11 b12 b13 b14
  have HC3 := (show Hid _ from lawCommand_any gb pb cap t 1 (f 10) (f 11) (f 12) (f 13) (f 14) W2 (h.fr (hw0.then0 hF2') (by simp) (by simp)) hl h10 h11 h12 h13 h14)
  rw [hW2] at HC3
  clear b5 b6 b7 b8 b9 b15 b16 b17 b18 b19
  go_wp2_with fail
  refine Calls.mono HC3.out ?_
  rintro e w3 ⟨a3, rfl, hf3⟩
  dsimp only
  rw [← hW2] at hf3
  clear b10 b11 b12 b13 b14 HC3 hW2
  have hA3 := hf3.heap0 (hG2.heap0 hA2)
  have hB3 := hf3.heap0 hB2
  have hF3 := hF2'.then0 hf3
  obtain ⟨W3, hW3⟩ : ∃ W, W = w3.alloc (.cells #[ii a3.unit, ii a3.what, ii a3.x, ii a3.y, ii a3.target] 81) := ⟨_, rfl⟩
  have hF3' : Fr [] W0 W3 := by rw [hW3]; exact hF3.alloc _
  have hG3 : Fr [] w3 W3 := by rw [hW3]; exact (Fr.refl _ _).alloc _
  have hC3 : W3.heap[w3.heap.size]? = some (.cells #[ii a3.unit, ii a3.what, ii a3.x, ii a3.y, ii a3.target] 81) := by rw [hW3]; exact hp_new _ _
  obtain ⟨b5, b6, b7, b8, b9, b10, b11, b12, b13, b14, b15, b16, b17, b18, b19⟩ := HBB.out W3 hF3'
  rw [hW3] at b15 b16 b17 b18 b19
  have HC4 := (show Hid _ from lawCommand_any gb pb cap t 1 (f 15) (f 16) (f 17) (f 18) (f 19) W3 (h.fr (hw0.then0 hF3') (by simp) (by simp)) hl h15 h16 h17 h18 h19)
  rw [hW3] at HC4
  clear b5 b6 b7 b8 b9 b10 b11 b12 b13 b14
  go_wp2_with fail
  refine Calls.mono HC4.out ?_
  rintro e w4 ⟨a4, rfl, hf4⟩
  dsimp only
  rw [← hW3] at hf4
  clear b15 b16 b17 b18 b19 HC4 hW3
  have hA4 := hf4.heap0 (hG3.heap0 hA3)
  have hB4 := hf4.heap0 (hG3.heap0 hB3)
  have hC4 := hf4.heap0 hC3
  have hF4 := hF3'.then0 hf4
  go_wp2_with fail
  obtain ⟨W4, hW4⟩ : ∃ W, W = w4.alloc (.cells #[ii a4.unit, ii a4.what, ii a4.x, ii a4.y, ii a4.target] 81) := ⟨_, rfl⟩
  rw [← hW4]
  have hG4 : Fr [] w4 W4 := by rw [hW4]; exact (Fr.refl _ _).alloc _
  have hF5 : Fr [] W0 W4 := hF4.then0 hG4
  have hA5 := hG4.heap0 hA4
  have hB5 := hG4.heap0 hB4
  have hC5 := hG4.heap0 hC4
  have hD5 : W4.heap[w4.heap.size]? = some (.cells #[ii a4.unit, ii a4.what, ii a4.x, ii a4.y, ii a4.target] 81) := by rw [hW4]; exact hp_new _ _
  have HS : ∀ w', Fr [] W4 w' → (fun w' : World => Fr [] W4 w' ∧ w'.cell? ⟨w1.heap.size, 0, none⟩ = some (ii a1.unit) ∧ w'.cell? ⟨w1.heap.size, 1, none⟩ = some (ii a1.what) ∧ w'.cell? ⟨w1.heap.size, 2, none⟩ = some (ii a1.x) ∧ w'.cell? ⟨w1.heap.size, 3, none⟩ = some (ii a1.y) ∧ w'.cell? ⟨w1.heap.size, 4, none⟩ = some (ii a1.target) ∧ w'.cell? ⟨w2.heap.size, 0, none⟩ = some (ii a2.unit) ∧ w'.cell? ⟨w2.heap.size, 1, none⟩ = some (ii a2.what) ∧ w'.cell? ⟨w2.heap.size, 2, none⟩ = some (ii a2.x) ∧ w'.cell? ⟨w2.heap.size, 3, none⟩ = some (ii a2.y) ∧ w'.cell? ⟨w2.heap.size, 4, none⟩ = some (ii a2.target) ∧ w'.cell? ⟨w3.heap.size, 0, none⟩ = some (ii a3.unit) ∧ w'.cell? ⟨w3.heap.size, 1, none⟩ = some (ii a3.what) ∧ w'.cell? ⟨w3.heap.size, 2, none⟩ = some (ii a3.x) ∧ w'.cell? ⟨w3.heap.size, 3, none⟩ = some (ii a3.y) ∧ w'.cell? ⟨w3.heap.size, 4, none⟩ = some (ii a3.target) ∧ w'.cell? ⟨w4.heap.size, 0, none⟩ = some (ii a4.unit) ∧ w'.cell? ⟨w4.heap.size, 1, none⟩ = some (ii a4.what) ∧ w'.cell? ⟨w4.heap.size, 2, none⟩ = some (ii a4.x) ∧ w'.cell? ⟨w4.heap.size, 3, none⟩ = some (ii a4.y) ∧ w'.cell? ⟨w4.heap.size, 4, none⟩ = some (ii a4.target)) w' := fun w' hf => ⟨hf, cell_of_heap (hf.heap0 hA5), cell_of_heap (hf.heap0 hA5), cell_of_heap (hf.heap0 hA5), cell_of_heap (hf.heap0 hA5), cell_of_heap (hf.heap0 hA5), cell_of_heap (hf.heap0 hB5), cell_of_heap (hf.heap0 hB5), cell_of_heap (hf.heap0 hB5), cell_of_heap (hf.heap0 hB5), cell_of_heap (hf.heap0 hB5), cell_of_heap (hf.heap0 hC5), cell_of_heap (hf.heap0 hC5), cell_of_heap (hf.heap0 hC5), cell_of_heap (hf.heap0 hC5), cell_of_heap (hf.heap0 hC5), cell_of_heap (hf.heap0 hD5), cell_of_heap (hf.heap0 hD5), cell_of_heap (hf.heap0 hD5), cell_of_heap (hf.heap0 hD5), cell_of_heap (hf.heap0 hD5)⟩
  have KF : Fr [] W4 W4.drew := (Fr.refl _ _).drew
  have K0 := HS _ KF
  have KA : ∀ o, Fr [] W4 (W4.alloc o).drew := fun o => ((Fr.refl _ _).alloc o).drew
  have KB : ∀ o p, Fr [] W4 ((W4.alloc o).alloc p).drew := fun o p => (((Fr.refl _ _).alloc o).alloc p).drew
  have HF5 := (show Hid _ from hF5)
  have HLE : Hid (w.heap.size ≤ W4.heap.size) := (hw0.then0 hF5).size
  clear hW4 hA1 hA2 hA3 hA4 hB2 hB3 hB4 hC3 hC4 hA5 hB5 hC5 hD5 hF1 hF2 hF3 hF4 hF5 hF2' hF3' hG2 hG3 hG4 hf1 hf2 hf3 hf4 h HBB
  go_region_held (fun w' : World => Fr [] W4 w' ∧ w'.cell? ⟨w1.heap.size, 0, none⟩ = some (ii a1.unit) ∧ w'.cell? ⟨w1.heap.size, 1, none⟩ = some (ii a1.what) ∧ w'.cell? ⟨w1.heap.size, 2, none⟩ = some (ii a1.x) ∧ w'.cell? ⟨w1.heap.size, 3, none⟩ = some (ii a1.y) ∧ w'.cell? ⟨w1.heap.size, 4, none⟩ = some (ii a1.target) ∧ w'.cell? ⟨w2.heap.size, 0, none⟩ = some (ii a2.unit) ∧ w'.cell? ⟨w2.heap.size, 1, none⟩ = some (ii a2.what) ∧ w'.cell? ⟨w2.heap.size, 2, none⟩ = some (ii a2.x) ∧ w'.cell? ⟨w2.heap.size, 3, none⟩ = some (ii a2.y) ∧ w'.cell? ⟨w2.heap.size, 4, none⟩ = some (ii a2.target) ∧ w'.cell? ⟨w3.heap.size, 0, none⟩ = some (ii a3.unit) ∧ w'.cell? ⟨w3.heap.size, 1, none⟩ = some (ii a3.what) ∧ w'.cell? ⟨w3.heap.size, 2, none⟩ = some (ii a3.x) ∧ w'.cell? ⟨w3.heap.size, 3, none⟩ = some (ii a3.y) ∧ w'.cell? ⟨w3.heap.size, 4, none⟩ = some (ii a3.target) ∧ w'.cell? ⟨w4.heap.size, 0, none⟩ = some (ii a4.unit) ∧ w'.cell? ⟨w4.heap.size, 1, none⟩ = some (ii a4.what) ∧ w'.cell? ⟨w4.heap.size, 2, none⟩ = some (ii a4.x) ∧ w'.cell? ⟨w4.heap.size, 3, none⟩ = some (ii a4.y) ∧ w'.cell? ⟨w4.heap.size, 4, none⟩ = some (ii a4.target))
    (first | with_reducible exact K0 | with_reducible exact HS _ (KA _) | with_reducible exact HS _ (KB _ _))
    (fail)
  all_goals
    go_wp2_with fail
    first
    | exact bodyPost_ret (v := .tuple #[.slice (some ⟨W4.heap.size, 0, none⟩) 2 2, .slice (some ⟨W4.heap.size + 1, 0, none⟩) 2 2]) (by simp [results, Tryz.results16, go_sem]) rfl ⟨_, _, rfl, ⟨a1, a2, cmdn_of (hp_old2 W4 _ _) 2 HLE.out⟩, ⟨a3, a4, cmdn_of (hp_new2 W4 _ _) 2 (Nat.le_succ_of_le HLE.out)⟩, (hw0.then0 HF5.out).then0 (KB _ _)⟩
    | exact bodyPost_ret (v := .tuple #[.slice (some ⟨W4.heap.size + 1, 0, none⟩) 2 2, .slice (some ⟨W4.heap.size, 0, none⟩) 2 2]) (by simp [results, Tryz.results16, go_sem]) rfl ⟨_, _, rfl, ⟨a1, a2, cmdn_of (hp_new2 W4 _ _) 2 (Nat.le_succ_of_le HLE.out)⟩, ⟨a3, a4, cmdn_of (hp_old2 W4 _ _) 2 HLE.out⟩, (hw0.then0 HF5.out).then0 (KB _ _)⟩


theorem turn_row2 (gb : Nat) (t : T) (e : Nat → Int) (W : World) (lb o : Nat) (hc : ∀ j, j < 20 → W.cell? ⟨lb, o + j, none⟩ = some (ii (e j))) (hi : ∀ j, j < 20 → I64 (e j)) (hl : t.us.length ≤ 100) :
    ∃ tl : List Value, tl.length = 20 ∧ (∀ w', Fr [] W w' → w'.rangeAt lb o tl) ∧ ∀ pb cap w', GS w' gb pb cap t → Calls Tryz.prog 16 #[.pointer (some ⟨gb, 0, none⟩), .agg tl.toArray] w' fun e w'' => ∃ v1 v2, e = .returned (.tuple #[v1, v2]) ∧ (∃ c1 c2, CmdN w' w'' v1 [c1, c2]) ∧ (∃ c3 c4, CmdN w' w'' v2 [c3, c4]) ∧ Fr [] w' w'' := by
  refine ⟨[ii (e 0), ii (e 1), ii (e 2), ii (e 3), ii (e 4), ii (e 5), ii (e 6), ii (e 7), ii (e 8), ii (e 9), ii (e 10), ii (e 11), ii (e 12), ii (e 13), ii (e 14), ii (e 15), ii (e 16), ii (e 17), ii (e 18), ii (e 19)], rfl, ?_, fun pb cap w' hg => orders_new gb pb cap t e w' hg hl hi⟩
  intro w' hf j v hv
  have hj : j < 20 := by simpa using (List.getElem?_eq_some_iff.1 hv).1
  have h1 := hc j hj
  rw [(hf.cell _ _ (lt_of_cell h1) (by simp)).trans h1, ← hv]
  have h20 : j = 0 ∨ j = 1 ∨ j = 2 ∨ j = 3 ∨ j = 4 ∨ j = 5 ∨ j = 6 ∨ j = 7 ∨ j = 8 ∨ j = 9 ∨ j = 10 ∨ j = 11 ∨ j = 12 ∨ j = 13 ∨ j = 14 ∨ j = 15 ∨ j = 16 ∨ j = 17 ∨ j = 18 ∨ j = 19 := by omega
  rcases h20 with rfl | rfl | rfl | rfl | rfl | rfl | rfl | rfl | rfl | rfl | rfl | rfl | rfl | rfl | rfl | rfl | rfl | rfl | rfl | rfl <;> rfl

end Go.Proofs.YtapabahhfanmmaaGreatDoor
