import Derived.Test.YtapabahhfanmmaaDoorCSign
/- The neighbours of a cell, as a list in new memory. -/
namespace Go.Proofs.YtapabahhfanmmaaDoor
open Go.RowKit

theorem Fr.grown {S : List Nat} {a b c : World} {row : Option Nat} (h : Fr S a b) (hg : b.grownBy c row) (hr : ∀ k, row = some k → k ∈ S ∨ a.heap.size ≤ k) : Fr S a c :=
  ⟨hg.os.trans h.os, hg.tape.trans h.tape, hg.output.trans h.output, Nat.le_trans h.size hg.size, fun i hi hn =>
    (hg.block i (Nat.lt_of_lt_of_le hi h.size) (fun e => by rcases hr i e.symm with h1 | h1; exact hn h1; omega)).trans (h.block i hi hn)⟩
theorem ownsRow_fr {S : List Nat} {w w' : World} {base : Nat} {e : TypeId} {size : Nat} {v : Value} {n : Nat} {xs : List Value} (h : w.ownsRow base e size v n xs) (hf : Fr S w w') (hn : ∀ g, v.ownBlock = some g → g ∉ S) : w'.ownsRow base e size v n xs := by
  obtain ⟨h1, h2⟩ := h
  refine ⟨h1, ?_⟩
  rcases h2 with h2 | ⟨g, cap, cur, rfl, hb, hg, r⟩
  · exact Or.inl h2
  · exact Or.inr ⟨g, cap, cur, rfl, hb, hf.heap hg (hn g rfl), r⟩
theorem ownsRow_base {w : World} {base : Nat} {e : TypeId} {size : Nat} {v : Value} {n : Nat} {xs : List Value} (h : w.ownsRow base e size v n xs) : ∀ k, v.ownBlock = some k → base ≤ k := by
  obtain ⟨_, h2⟩ := h
  rcases h2 with ⟨rfl, _⟩ | ⟨g, cap, cur, rfl, hb, _⟩
  · intro k hk; simp [Value.ownBlock] at hk
  · intro k hk; simp [Value.ownBlock] at hk; omega
theorem cells_new (w : World) (cs : List Value) (t : TypeId) (b : Nat) (hb : w.heap.size = b) : ∀ j u, cs[j]? = some u → (w.alloc (.cells cs.toArray t)).cell? ((⟨b, 0, none⟩ : Addr).add j) = some u := by
  intro j u hu
  subst hb
  have : ((⟨w.heap.size, 0, none⟩ : Addr).add j) = ⟨w.heap.size, j, none⟩ := by unfold Addr.add; split <;> simp_all
  rw [this, cell_of_heap (hp_new w _)]
  simpa using hu

def sds : List (Int × Int) := [(0, -1), (1, 0), (0, 1), (-1, 0)]
def nbrs (x y : Int) : List (Int × Int) := (sds.map fun s => (x + s.1, y + s.2)).filter fun c => onB c.1 c.2
abbrev ccells (l : List (Int × Int)) : List Value := l.flatMap fun c => [ii c.1, ii c.2]

theorem infoCell : (Tryd.prog.info? 96).map (fun i => (i.zero, i.size, i.bytes)) = some (some (cv 0 0), 2, 16) := by kernel_rfl

/-- The first k sides, tried. -/
def nbrTo (x y : Int) (k : Nat) : List (Int × Int) := ((sds.take k).map fun s => (x + s.1, y + s.2)).filter fun c => onB c.1 c.2
theorem nbrTo_4 (x y : Int) : nbrTo x y 4 = nbrs x y := rfl
theorem nbrTo_len (x y : Int) (k : Nat) : (nbrTo x y k).length ≤ k := by
  unfold nbrTo
  exact Nat.le_trans (List.length_filter_le _ _) (by simp; omega)
theorem nbrTo_yes (x y : Int) (k : Nat) (s : Int × Int) (h : sds[k]? = some s) (hb : onB (x + s.1) (y + s.2) = true) : nbrTo x y (k + 1) = nbrTo x y k ++ [(x + s.1, y + s.2)] := by
  obtain ⟨hl, he⟩ := List.getElem?_eq_some_iff.1 h
  unfold nbrTo
  rw [List.take_succ_eq_append_getElem hl, List.map_append, List.filter_append, he]
  simp [hb]
theorem nbrTo_no (x y : Int) (k : Nat) (s : Int × Int) (h : sds[k]? = some s) (hb : onB (x + s.1) (y + s.2) = false) : nbrTo x y (k + 1) = nbrTo x y k := by
  obtain ⟨hl, he⟩ := List.getElem?_eq_some_iff.1 h
  unfold nbrTo
  rw [List.take_succ_eq_append_getElem hl, List.map_append, List.filter_append, he]
  simp [hb]

set_option maxRecDepth 100000 in
set_option maxHeartbeats 1000000 in
theorem neighbours_any (x y : Int) (w : World) (hsd : Sd w) (h1 : -1000 ≤ x) (h2 : x ≤ 1000) (h3 : -1000 ≤ y) (h4 : y ≤ 1000) :
    Calls Tryd.prog 82 #[cv x y] w fun e w' => ∃ v, e = .returned v ∧ Fr [] w w' ∧ w'.ownsRow (w.heap.size + 1) 96 2 v (nbrs x y).length (ccells (nbrs x y)) := by
  obtain ⟨s0, s1, s2, s3, s4, s5, s6, s7⟩ := hsd.cells
  have hpos := hsd.pos
  obtain ⟨inf, hi, hz0, hz1, hz2⟩ := info_parts infoCell
  go_enter Tryd.func82, Tryd.ntmps82
  go_wp2
  go_loopw [3, 8] (fun v i wr => ∃ k : Nat, k ≤ 4 ∧ i = .int .i64 k ∧ Fr [] (w.alloc (.cells #[ii x, ii y] 96)) wr ∧ wr.ownsRow (w.heap.size + 1) 96 2 v (nbrTo x y k).length (ccells (nbrTo x y k))) (fun _ i _ => 4 - (intOf i).toNat)
  case atStart => exact ⟨0, by omega, rfl, Fr.refl _ _, rfl, Or.inl ⟨rfl, rfl⟩⟩
  case round =>
    obtain ⟨k, hk, rfl, hf, hown⟩ := hrel
    have hh := hf.heap0 (hp_new w _)
    have d0 : wr.cell? ⟨w.heap.size, 0, none⟩ = some (ii x) := cell_of_heap hh
    have d1 : wr.cell? ⟨w.heap.size, 1, none⟩ = some (ii y) := cell_of_heap hh
    have hsz : w.heap.size < wr.heap.size := lt_of_heap hh
    clear hh
    have i0 := sideI0
    have i1 := sideI1
    have i2 := sideI2
    have i3 := sideI3
    rcases (show k = 0 ∨ k = 1 ∨ k = 2 ∨ k = 3 ∨ k = 4 by omega) with rfl | rfl | rfl | rfl | rfl
    · obtain ⟨B, hB⟩ : ∃ B, onB x (y + -1) = B := ⟨_, rfl⟩
      have HB := (show Hid _ from hB)
      clear hB
      have hlen := nbrTo_len x y 0
      go_wp2_with fail
      refine (onBoard_is _ _ _ B HB.out).mono ?_
      rintro e w1 ⟨rfl, hf1⟩
      have hff := ((hf.alloc _).alloc _).then0 hf1
      have hown1 := ownsRow_fr hown (((Fr.refl [] wr).alloc _).alloc _ |>.then0 hf1) (by simp)
      have hh1 := hf1.heap0 (hp_new2 wr _ _)
      have e0 : w1.cell? ⟨wr.heap.size + 1, 0, none⟩ = some (ii x) := cell_of_heap hh1
      have e1 : w1.cell? ⟨wr.heap.size + 1, 1, none⟩ = some (ii (y + -1)) := cell_of_heap hh1
      have hb1 : w.heap.size + 1 ≤ w1.heap.size := by have := hff.size; simp at this; omega
      have H1 := (show Hid _ from hh1)
      clear hh1
      cases B
      · have hn : nbrTo x y (0 + 1) = nbrTo x y 0 := nbrTo_no x y 0 (0, (-1)) rfl (by simpa using HB.out)
        have HN := (show Hid _ from hn)
        clear hn
        go_wp2
        go_roundw
        case rel => exact ⟨0 + 1, by omega, rfl, hff, by rw [HN.out]; exact hown1⟩
        case measure => simp [intOf]
      · have hn : nbrTo x y (0 + 1) = nbrTo x y 0 ++ [(x, (y + -1))] := by
          rw [nbrTo_yes x y 0 (0, (-1)) rfl (by simpa using HB.out)]; simp
        have HN := (show Hid _ from hn)
        clear hn
        go_wp2_with (first
          | (at_builtin; refine wpList_append_own _ rfl _ _ 134 rfl (w.heap.size + 1) 96 inf (cv 0 0) 2 16 Tryd.underlying134 hi hz0 hz1 hz2 rfl (by decide) _ _ _ rfl (ownsRow_fr hown1 ((Fr.refl [] w1).alloc _) (by simp)) ⟨w1.heap.size, 0, none⟩ 1 1 [ii x, ii (y + -1)] rfl rfl (cells_new w1 [ii x, ii (y + -1)] _ _ rfl) (by simp [Value.oneCell']) (by unfold maxLen; omega) (by omega) (by simp; omega) ?_; intro v' w2 hown' hgrow hnil)
          | fail)
        go_roundw
        case rel => exact ⟨0 + 1, by omega, rfl, (hff.alloc _).grown hgrow (fun q hq => Or.inr (by have := ownsRow_base hown1 q hq; simp; omega)), by rw [HN.out]; simpa [ccells] using hown'⟩
        case measure => simp [intOf]
    · obtain ⟨B, hB⟩ : ∃ B, onB (x + 1) y = B := ⟨_, rfl⟩
      have HB := (show Hid _ from hB)
      clear hB
      have hlen := nbrTo_len x y 1
      go_wp2_with fail
      refine (onBoard_is _ _ _ B HB.out).mono ?_
      rintro e w1 ⟨rfl, hf1⟩
      have hff := ((hf.alloc _).alloc _).then0 hf1
      have hown1 := ownsRow_fr hown (((Fr.refl [] wr).alloc _).alloc _ |>.then0 hf1) (by simp)
      have hh1 := hf1.heap0 (hp_new2 wr _ _)
      have e0 : w1.cell? ⟨wr.heap.size + 1, 0, none⟩ = some (ii (x + 1)) := cell_of_heap hh1
      have e1 : w1.cell? ⟨wr.heap.size + 1, 1, none⟩ = some (ii y) := cell_of_heap hh1
      have hb1 : w.heap.size + 1 ≤ w1.heap.size := by have := hff.size; simp at this; omega
      have H1 := (show Hid _ from hh1)
      clear hh1
      cases B
      · have hn : nbrTo x y (1 + 1) = nbrTo x y 1 := nbrTo_no x y 1 (1, 0) rfl (by simpa using HB.out)
        have HN := (show Hid _ from hn)
        clear hn
        go_wp2
        go_roundw
        case rel => exact ⟨1 + 1, by omega, rfl, hff, by rw [HN.out]; exact hown1⟩
        case measure => simp [intOf]
      · have hn : nbrTo x y (1 + 1) = nbrTo x y 1 ++ [((x + 1), y)] := by
          rw [nbrTo_yes x y 1 (1, 0) rfl (by simpa using HB.out)]; simp
        have HN := (show Hid _ from hn)
        clear hn
        go_wp2_with (first
          | (at_builtin; refine wpList_append_own _ rfl _ _ 134 rfl (w.heap.size + 1) 96 inf (cv 0 0) 2 16 Tryd.underlying134 hi hz0 hz1 hz2 rfl (by decide) _ _ _ rfl (ownsRow_fr hown1 ((Fr.refl [] w1).alloc _) (by simp)) ⟨w1.heap.size, 0, none⟩ 1 1 [ii (x + 1), ii y] rfl rfl (cells_new w1 [ii (x + 1), ii y] _ _ rfl) (by simp [Value.oneCell']) (by unfold maxLen; omega) (by omega) (by simp; omega) ?_; intro v' w2 hown' hgrow hnil)
          | fail)
        go_roundw
        case rel => exact ⟨1 + 1, by omega, rfl, (hff.alloc _).grown hgrow (fun q hq => Or.inr (by have := ownsRow_base hown1 q hq; simp; omega)), by rw [HN.out]; simpa [ccells] using hown'⟩
        case measure => simp [intOf]
    · obtain ⟨B, hB⟩ : ∃ B, onB x (y + 1) = B := ⟨_, rfl⟩
      have HB := (show Hid _ from hB)
      clear hB
      have hlen := nbrTo_len x y 2
      go_wp2_with fail
      refine (onBoard_is _ _ _ B HB.out).mono ?_
      rintro e w1 ⟨rfl, hf1⟩
      have hff := ((hf.alloc _).alloc _).then0 hf1
      have hown1 := ownsRow_fr hown (((Fr.refl [] wr).alloc _).alloc _ |>.then0 hf1) (by simp)
      have hh1 := hf1.heap0 (hp_new2 wr _ _)
      have e0 : w1.cell? ⟨wr.heap.size + 1, 0, none⟩ = some (ii x) := cell_of_heap hh1
      have e1 : w1.cell? ⟨wr.heap.size + 1, 1, none⟩ = some (ii (y + 1)) := cell_of_heap hh1
      have hb1 : w.heap.size + 1 ≤ w1.heap.size := by have := hff.size; simp at this; omega
      have H1 := (show Hid _ from hh1)
      clear hh1
      cases B
      · have hn : nbrTo x y (2 + 1) = nbrTo x y 2 := nbrTo_no x y 2 (0, 1) rfl (by simpa using HB.out)
        have HN := (show Hid _ from hn)
        clear hn
        go_wp2
        go_roundw
        case rel => exact ⟨2 + 1, by omega, rfl, hff, by rw [HN.out]; exact hown1⟩
        case measure => simp [intOf]
      · have hn : nbrTo x y (2 + 1) = nbrTo x y 2 ++ [(x, (y + 1))] := by
          rw [nbrTo_yes x y 2 (0, 1) rfl (by simpa using HB.out)]; simp
        have HN := (show Hid _ from hn)
        clear hn
        go_wp2_with (first
          | (at_builtin; refine wpList_append_own _ rfl _ _ 134 rfl (w.heap.size + 1) 96 inf (cv 0 0) 2 16 Tryd.underlying134 hi hz0 hz1 hz2 rfl (by decide) _ _ _ rfl (ownsRow_fr hown1 ((Fr.refl [] w1).alloc _) (by simp)) ⟨w1.heap.size, 0, none⟩ 1 1 [ii x, ii (y + 1)] rfl rfl (cells_new w1 [ii x, ii (y + 1)] _ _ rfl) (by simp [Value.oneCell']) (by unfold maxLen; omega) (by omega) (by simp; omega) ?_; intro v' w2 hown' hgrow hnil)
          | fail)
        go_roundw
        case rel => exact ⟨2 + 1, by omega, rfl, (hff.alloc _).grown hgrow (fun q hq => Or.inr (by have := ownsRow_base hown1 q hq; simp; omega)), by rw [HN.out]; simpa [ccells] using hown'⟩
        case measure => simp [intOf]
    · obtain ⟨B, hB⟩ : ∃ B, onB (x + -1) y = B := ⟨_, rfl⟩
      have HB := (show Hid _ from hB)
      clear hB
      have hlen := nbrTo_len x y 3
      go_wp2_with fail
      refine (onBoard_is _ _ _ B HB.out).mono ?_
      rintro e w1 ⟨rfl, hf1⟩
      have hff := ((hf.alloc _).alloc _).then0 hf1
      have hown1 := ownsRow_fr hown (((Fr.refl [] wr).alloc _).alloc _ |>.then0 hf1) (by simp)
      have hh1 := hf1.heap0 (hp_new2 wr _ _)
      have e0 : w1.cell? ⟨wr.heap.size + 1, 0, none⟩ = some (ii (x + -1)) := cell_of_heap hh1
      have e1 : w1.cell? ⟨wr.heap.size + 1, 1, none⟩ = some (ii y) := cell_of_heap hh1
      have hb1 : w.heap.size + 1 ≤ w1.heap.size := by have := hff.size; simp at this; omega
      have H1 := (show Hid _ from hh1)
      clear hh1
      cases B
      · have hn : nbrTo x y (3 + 1) = nbrTo x y 3 := nbrTo_no x y 3 ((-1), 0) rfl (by simpa using HB.out)
        have HN := (show Hid _ from hn)
        clear hn
        go_wp2
        go_roundw
        case rel => exact ⟨3 + 1, by omega, rfl, hff, by rw [HN.out]; exact hown1⟩
        case measure => simp [intOf]
      · have hn : nbrTo x y (3 + 1) = nbrTo x y 3 ++ [((x + -1), y)] := by
          rw [nbrTo_yes x y 3 ((-1), 0) rfl (by simpa using HB.out)]; simp
        have HN := (show Hid _ from hn)
        clear hn
        go_wp2_with (first
          | (at_builtin; refine wpList_append_own _ rfl _ _ 134 rfl (w.heap.size + 1) 96 inf (cv 0 0) 2 16 Tryd.underlying134 hi hz0 hz1 hz2 rfl (by decide) _ _ _ rfl (ownsRow_fr hown1 ((Fr.refl [] w1).alloc _) (by simp)) ⟨w1.heap.size, 0, none⟩ 1 1 [ii (x + -1), ii y] rfl rfl (cells_new w1 [ii (x + -1), ii y] _ _ rfl) (by simp [Value.oneCell']) (by unfold maxLen; omega) (by omega) (by simp; omega) ?_; intro v' w2 hown' hgrow hnil)
          | fail)
        go_roundw
        case rel => exact ⟨3 + 1, by omega, rfl, (hff.alloc _).grown hgrow (fun q hq => Or.inr (by have := ownsRow_base hown1 q hq; simp; omega)), by rw [HN.out]; simpa [ccells] using hown'⟩
        case measure => simp [intOf]
    · go_wp2
      go_ret
      exact ⟨_, rfl, ((Fr.refl _ _).alloc _).then0 hf, hown⟩
end Go.Proofs.YtapabahhfanmmaaDoor
