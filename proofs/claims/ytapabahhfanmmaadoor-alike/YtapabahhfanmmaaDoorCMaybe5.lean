import Derived.Test.YtapabahhfanmmaaDoorCMaybe2
import Derived.Test.YtapabahhfanmmaaDoorCTakeB
import Derived.Test.YtapabahhfanmmaaDoorCTellT
import Derived.Test.YtapabahhfanmmaaDoorCCellsOf
import Derived.Deep.RegionWith
/- May one of the people be: the body. -/
namespace Go.Proofs.YtapabahhfanmmaaDoor
open Go.RowKit

/-- What a kind's cells say of life and load. -/
def kcOf (u : U) : Array Value := if u.kind = 1 then kc1 else if u.kind = 2 then kc2 else kc3
theorem kOf_agg (u : U) : kOf u = .agg (kcOf u) := by unfold kOf kcOf; split; rfl; split <;> rfl
theorem kc_life (u : U) (hkd : u.kind = 1 ∨ u.kind = 2 ∨ u.kind = 3) : (kcOf u)[0]? = some (ii (lifeOf u.kind)) := by
  unfold kcOf lifeOf
  rcases hkd with e | e | e <;> simp [e]
theorem kc_load (u : U) (hkd : u.kind = 1 ∨ u.kind = 2 ∨ u.kind = 3) : (kcOf u)[2]? = some (ii (if u.kind = 2 then 5 else 0)) := by
  unfold kcOf
  rcases hkd with e | e | e <;> simp [e]
theorem kc_size (u : U) : (kcOf u).size = 24 := by unfold kcOf; split; rfl; split <;> rfl
theorem kc_one (u : U) : (kcOf u).all (·.oneCell') = true := by unfold kcOf; split; exact one1; split; exact one2; exact one3

set_option maxRecDepth 100000 in
set_option maxHeartbeats 4000000 in
theorem bodyMay_any (gb : Nat) (u : U) (bd : Nat → Int) (w : World) (hbd : BdAt w gb bd) (hgl : gb < w.heap.size) (hkd : u.kind = 1 ∨ u.kind = 2 ∨ u.kind = 3) (how : u.owner ≤ 1) (hlf : 1 ≤ u.life ∧ u.life ≤ lifeOf u.kind) (hld : u.load ≤ 5 ∧ (0 < u.load → u.kind = 2)) (hon : onB u.x u.y = true) (hgr : bd (ci u.x u.y) = 0) :
    Calls Tryd.prog 62 #[.pointer (some ⟨gb, 0, none⟩), u.val] w fun e w' => e = .returned (.bool true) ∧ Fr [] w w' := by
  have hk := kOf_any u hkd
  rw [kOf_agg] at hk
  have hl1 := kc_life u hkd
  have hl2 := kc_load u hkd
  have hks := kc_size u
  have hko := kc_one u
  have hld2 : u.load ≤ (if u.kind = 2 then 5 else 0) := by
    by_cases e : u.kind = 2
    · rw [if_pos e]; exact hld.1
    · rw [if_neg e]
      by_cases h0 : 0 < u.load
      · exact absurd (hld.2 h0) e
      · omega
  obtain ⟨LL, hLL⟩ : ∃ x, x = (if u.kind = 2 then (5 : Int) else 0) := ⟨_, rfl⟩
  obtain ⟨LF, hLF⟩ : ∃ x, x = lifeOf u.kind := ⟨_, rfl⟩
  obtain ⟨kc, hkc⟩ : ∃ x, x = kcOf u := ⟨_, rfl⟩
  rw [← hkc] at hk hl1 hl2 hks hko
  rw [← hLL] at hl2 hld2
  rw [← hLF] at hl1 hlf
  have hcell := hbd _ (ci_lt hon)
  rw [hgr] at hcell
  obtain ⟨o1, o2, o3, o4⟩ := onB_iff.1 hon
  unfold ci at hcell
  rw [← Nat.add_assoc] at hcell
  have HK := (show Hid _ from hk)
  have HON := (show Hid _ from hon)
  clear hk hkc hLL hLF hbd hgr hld hkd hon
  go_enter Tryd.func62, Tryd.ntmps62
  go_wp2_with fail
  refine Calls.mono (HK.out _) ?_
  rintro e w1 ⟨rfl, hf1⟩
  dsimp only
  have HI : Hid ((Tryd.prog.info? 122).map (·.size) = some kc.size) := by show _ = _; rw [infoKind, hks]
  have HZ : Hid (kz.size = kc.size) := by show 24 = kc.size; rw [hks]
  have HO := (show Hid _ from hko)
  clear hks hko HK
  go_wp2_with (refine wpList_store_row rfl 122 _ _ rfl w1.heap.size kc rfl rfl 122 kz (hp_new w1 _) HI.out HZ.out HO.out ?_)
  obtain ⟨W2, hW2⟩ : ∃ W, W = (w1.alloc (.cells kz 122)).setRow w1.heap.size kc := ⟨_, rfl⟩
  rw [← hW2]
  have hf2 : Fr [] w1 W2 := by rw [hW2]; exact ((Fr.refl _ _).alloc _).setRow _ _ (Or.inr (Nat.le_refl _))
  have hh2 : W2.heap[w1.heap.size]? = some (.cells kc 122) := by rw [hW2]; exact setRow_heap _ _ _ _ _ _ (hp_new _ _)
  have hU1 := hf1.heap0 (hp_new w (.cells u.arr 44))
  have hU2 := hf2.heap0 hU1
  have hf02 : Fr [] w W2 := (((Fr.refl [] w).alloc _).then0 hf1).then0 hf2
  have hb2 := (hf02.cell _ _ hgl (by simp)).trans hcell
  have hwl : w.heap.size < W2.heap.size := lt_of_heap hU2
  have hw1l : w1.heap.size < W2.heap.size := lt_of_heap hh2
  have k0 : W2.cell? ⟨w1.heap.size, 0, none⟩ = some (ii LF) := (cell_of_heap hh2).trans hl1
  have k2 : W2.cell? ⟨w1.heap.size, 2, none⟩ = some (ii LL) := (cell_of_heap hh2).trans hl2
  obtain ⟨kb, hkb⟩ : ∃ x, x = w1.heap.size := ⟨_, rfl⟩
  rw [← hkb] at k0 k2 hw1l ⊢
  clear hW2 hh2 hU1 hf1 hf2 hkb hl1 hl2 HI HZ HO hcell
  have d1 : decide (u.owner ≤ 1) = true := by simpa using how
  have d2 : decide (1 ≤ u.life) = true := by simpa using hlf.1
  have d3 : decide (u.life ≤ LF) = true := by simpa using hlf.2
  have d4 : decide (u.load ≤ LL) = true := by simpa using hld2
  have HS : ∀ w', Fr [] W2 w' → (fun w' : World => (w'.cell? ⟨w.heap.size, 0, none⟩ = some (ii u.id) ∧ w'.cell? ⟨w.heap.size, 1, none⟩ = some (ii u.owner) ∧ w'.cell? ⟨w.heap.size, 2, none⟩ = some (ii u.kind) ∧ w'.cell? ⟨w.heap.size, 3, none⟩ = some (ii u.x) ∧ w'.cell? ⟨w.heap.size, 4, none⟩ = some (ii u.y) ∧ w'.cell? ⟨w.heap.size, 5, none⟩ = some (ii u.life) ∧ w'.cell? ⟨w.heap.size, 6, none⟩ = some (ii u.load) ∧ w'.cell? ⟨w.heap.size, 7, none⟩ = some (ii u.what) ∧ w'.cell? ⟨w.heap.size, 8, none⟩ = some (ii u.tox) ∧ w'.cell? ⟨w.heap.size, 9, none⟩ = some (ii u.toy) ∧ w'.cell? ⟨w.heap.size, 10, none⟩ = some (ii u.target)) ∧ w'.cell? ⟨kb, 0, none⟩ = some (ii LF) ∧ w'.cell? ⟨kb, 2, none⟩ = some (ii LL) ∧ w'.cell? ⟨gb, 4 + u.y.toNat * 12 + u.x.toNat, none⟩ = some (ii 0) ∧ Fr [] W2 w') w' := fun w' hf =>
    ⟨⟨cell_of_heap (hf.heap0 hU2), cell_of_heap (hf.heap0 hU2), cell_of_heap (hf.heap0 hU2), cell_of_heap (hf.heap0 hU2), cell_of_heap (hf.heap0 hU2), cell_of_heap (hf.heap0 hU2), cell_of_heap (hf.heap0 hU2), cell_of_heap (hf.heap0 hU2), cell_of_heap (hf.heap0 hU2), cell_of_heap (hf.heap0 hU2), cell_of_heap (hf.heap0 hU2)⟩, (hf.cell _ _ hw1l (by simp)).trans k0, (hf.cell _ _ hw1l (by simp)).trans k2, (hf.cell _ _ (lt_of_cell hb2) (by simp)).trans hb2, hf⟩
  have K0 := HS _ (Fr.refl [] W2).drew
  clear how hlf hld2 k0 k2 hb2
  go_region_held (fun w' : World => (w'.cell? ⟨w.heap.size, 0, none⟩ = some (ii u.id) ∧ w'.cell? ⟨w.heap.size, 1, none⟩ = some (ii u.owner) ∧ w'.cell? ⟨w.heap.size, 2, none⟩ = some (ii u.kind) ∧ w'.cell? ⟨w.heap.size, 3, none⟩ = some (ii u.x) ∧ w'.cell? ⟨w.heap.size, 4, none⟩ = some (ii u.y) ∧ w'.cell? ⟨w.heap.size, 5, none⟩ = some (ii u.life) ∧ w'.cell? ⟨w.heap.size, 6, none⟩ = some (ii u.load) ∧ w'.cell? ⟨w.heap.size, 7, none⟩ = some (ii u.what) ∧ w'.cell? ⟨w.heap.size, 8, none⟩ = some (ii u.tox) ∧ w'.cell? ⟨w.heap.size, 9, none⟩ = some (ii u.toy) ∧ w'.cell? ⟨w.heap.size, 10, none⟩ = some (ii u.target)) ∧ w'.cell? ⟨kb, 0, none⟩ = some (ii LF) ∧ w'.cell? ⟨kb, 2, none⟩ = some (ii LL) ∧ w'.cell? ⟨gb, 4 + u.y.toNat * 12 + u.x.toNat, none⟩ = some (ii 0) ∧ Fr [] W2 w')
    (first | with_reducible exact K0 | with_reducible exact HS _ hfr2 | with_reducible exact HS _ hfr3)
    (first | (go_at_call 56; refine (cellOf_any u _).mono ?_; rintro e w3 ⟨rfl, hf3⟩; have hfr2 : Fr [] W2 w3 := Fr.then0 (And.right (And.right (And.right (And.right (by assumption))))) hf3) | (go_at_call 81; refine (onBoard_is _ _ _ _ HON.out).mono ?_; rintro e w4 ⟨rfl, hf4⟩; have hfr3 : Fr [] W2 w4 := Fr.then0 (And.right (And.right (And.right (And.right (by assumption))))) hf4))
  all_goals
    go_wp2_with fail
    go_ret
    exact ⟨rfl, hf02.then0 hfr3⟩
end Go.Proofs.YtapabahhfanmmaaDoor
/- May one of the people be: the order. -/
namespace Go.Proofs.YtapabahhfanmmaaDoor
open Go.RowKit

abbrev U.cm (u : U) : Cm := ⟨u.id, u.what, u.tox, u.toy, u.target⟩
theorem eqCmd (c : Cm) (w : World) : (binOp BinOp.eql 47 c.val c.val).run Tryd.prog w = .ok (.bool true) w := by
  simp [go_sem]
theorem guardCmd (x y : Operand) (c d : Cm) (w : World) : (eqGuard BinOp.eql 47 x y c.val d.val).run Tryd.prog w = .ok () w := by kernel_rfl
structure Stands (gb : Nat) (u : U) (w : World) (K : Value) (n1 n0 n2 n3 : Nat) : Prop where
  hs : ∀ w, Calls Tryd.prog 57 #[K, .int .i64 u.what] w fun e w' => e = .returned (.tuple #[.agg #[fv n1, fv n0, fv n2, fv n3], .bool true]) ∧ Fr [] w w'
  h0 : ∀ w', Fr [] w w' → Calls Tryd.prog n0 #[.pointer (some ⟨gb, 0, none⟩), u.val, u.cm.val] w' fun e w'' => e = .returned (.bool true) ∧ Fr [] w' w''
  h2 : ∀ w', Calls Tryd.prog n2 #[u.cm.val] w' fun e w'' => e = .returned u.cm.val ∧ Fr [] w' w''
  f0 : ∀ (args : Array Value) (w : World), (callFunc n0 args).run Tryd.prog w = .ok (.enter n0 args) w
  f2 : ∀ (args : Array Value) (w : World), (callFunc n2 args).run Tryd.prog w = .ok (.enter n2 args) w

set_option maxRecDepth 100000 in
set_option maxHeartbeats 8000000 in
theorem orderMay_gen (gb : Nat) (u : U) (n1 n0 n2 n3 : Nat) (K : Value) (w : World) (hk : ∀ w, Calls Tryd.prog 55 #[.int .i64 u.kind] w fun e w' => e = .returned K ∧ Fr [] w w') (hst : Stands gb u w K n1 n0 n2 n3) :
    Calls Tryd.prog 63 #[.pointer (some ⟨gb, 0, none⟩), u.val] w fun e w' => e = .returned (.bool true) ∧ Fr [] w w' := by
  obtain ⟨hs, h0, h2, f0, f2⟩ := hst
  have heq := eqCmd u.cm
  have hgd := fun (x y : Operand) (w0 : World) => guardCmd x y u.cm u.cm w0
  go_enter Tryd.func63, Tryd.ntmps63
  go_wp2_with fail
  obtain ⟨W2, hW2⟩ : ∃ W, W = (w.alloc (.cells u.arr 44)).alloc (.cells #[ii u.id, ii u.what, ii u.tox, ii u.toy, ii u.target] 47) := ⟨_, rfl⟩
  rw [← hW2]
  have hw2 : Fr [] w W2 := by rw [hW2]; exact ((Fr.refl _ _).alloc _).alloc _
  have hU2 : W2.heap[w.heap.size]? = some (.cells u.arr 44) := by rw [hW2]; exact (hp_old _ _ _ (by simp)).trans (hp_new _ _)
  have hC2 : W2.heap[w.heap.size + 1]? = some (.cells #[ii u.id, ii u.what, ii u.tox, ii u.toy, ii u.target] 47) := by rw [hW2]; exact hp_new2 _ _ _
  obtain ⟨b2, hb2⟩ : ∃ b, b = w.heap.size := ⟨_, rfl⟩
  rw [← hb2] at hU2 hC2 ⊢
  obtain ⟨cb, hcb⟩ : ∃ b, b = b2 + 1 := ⟨_, rfl⟩
  rw [← hcb] at hC2 ⊢
  have hs2 : cb < W2.heap.size := lt_of_heap hC2
  have hs2b : b2 < W2.heap.size := lt_of_heap hU2
  clear hW2 hb2 hcb
  have HS : ∀ w', Fr [] W2 w' → (fun w' : World => w'.cell? ⟨b2, 2, none⟩ = some (ii u.kind) ∧ w'.cell? ⟨b2, 7, none⟩ = some (ii u.what) ∧ Fr [] W2 w') w' := fun w' hf => ⟨cell_of_heap (hf.heap0 hU2), cell_of_heap (hf.heap0 hU2), hf⟩
  have KF : Fr [] W2 W2.drew := (Fr.refl _ _).drew
  have K0 := HS _ KF
  go_cut [6, 7] (fun s6 s7 wx => ∃ g : Nat, s6 = .pointer (some ⟨g, 0, none⟩) ∧ s7 = .bool true ∧ wx.heap[g]? = some (.cells #[fv n1, fv n0, fv n2, fv n3] 119) ∧ Fr [] W2 wx)
  case first =>
    go_region_held (fun w' : World => w'.cell? ⟨b2, 2, none⟩ = some (ii u.kind) ∧ w'.cell? ⟨b2, 7, none⟩ = some (ii u.what) ∧ Fr [] W2 w')
      (first | exact K0 | exact HS _ hfr2 | exact HS _ (hfr2.alloc _) | exact HS _ hfr1 | exact HS _ (hfr1.alloc _) | exact HS _ (KF.alloc _) | exact HS _ ((((hfr2.setCell _ _ (Or.inr (by first | exact Nat.le_refl _ | exact hfr1.size))).setCell _ _ (Or.inr (by first | exact Nat.le_refl _ | exact hfr1.size))).setCell _ _ (Or.inr (by first | exact Nat.le_refl _ | exact hfr1.size))).setCell _ _ (Or.inr (by first | exact Nat.le_refl _ | exact hfr1.size))))
      (first | (go_at_call 55; refine (hk _).mono ?_; rintro e w1 ⟨rfl, hf1⟩; obtain ⟨hc1, hz1⟩ := hf1.cells0; have q1 : b2 < w1.heap.size := (by have := hf1.size; simp at this; omega); (first | (have q2 : W2.heap.size < w1.heap.size := (by have := hf1.size; simp at this; omega)) | skip); have hfr1 : Fr [] W2 w1 := Fr.then0 (And.right (And.right (by assumption))) hf1) | (go_at_call 57; refine (hs _).mono ?_; rintro e w2 ⟨rfl, hf2⟩; obtain ⟨hc2, hz2⟩ := hf2.cells0; have q3 := hf2.size; have hfr2 : Fr [] W2 w2 := Fr.then0 (And.right (And.right (by assumption))) hf2))
    all_goals
      go_wp2_with fail
      go_meet
      refine ⟨_, rfl, rfl, ?_, ?_⟩
      · first
        | with_reducible exact hp_new _ _
        | exact set4 (hf2.heap0 (hp_new w1 _)) _ _ _ _
        | exact set4 (hf2.heap0 (hf1.heap0 (hp_new W2 _))) _ _ _ _
      · first
        | with_reducible exact hfr2.alloc _
        | exact (((hfr2.setCell _ _ (Or.inr (by first | exact Nat.le_refl _ | exact hfr1.size))).setCell _ _ (Or.inr (by first | exact Nat.le_refl _ | exact hfr1.size))).setCell _ _ (Or.inr (by first | exact Nat.le_refl _ | exact hfr1.size))).setCell _ _ (Or.inr (by first | exact Nat.le_refl _ | exact hfr1.size))
  case rest =>
    obtain ⟨g, rfl, rfl, hg, hf3⟩ := hcut
    clear HS K0 KF hk hs
    have hU3 := hf3.heap0 hU2
    have hC3 := hf3.heap0 hC2
    have hw3 := hw2.then0 hf3
    obtain ⟨W3, hW3⟩ : ∃ W, W = wc := ⟨_, rfl⟩
    rw [← hW3] at hU3 hC3 hw3 hg ⊢
    clear hW3 hf3 hU2 hC2 hw2
    have HS : ∀ w', Fr [] W3 w' → (fun w' : World => (w'.cell? ⟨g, 1, none⟩ = some (fv n0) ∧ w'.cell? ⟨g, 2, none⟩ = some (fv n2)) ∧ (w'.cell? ⟨b2, 0, none⟩ = some (ii u.id) ∧ w'.cell? ⟨b2, 1, none⟩ = some (ii u.owner) ∧ w'.cell? ⟨b2, 2, none⟩ = some (ii u.kind) ∧ w'.cell? ⟨b2, 3, none⟩ = some (ii u.x) ∧ w'.cell? ⟨b2, 4, none⟩ = some (ii u.y) ∧ w'.cell? ⟨b2, 5, none⟩ = some (ii u.life) ∧ w'.cell? ⟨b2, 6, none⟩ = some (ii u.load) ∧ w'.cell? ⟨b2, 7, none⟩ = some (ii u.what) ∧ w'.cell? ⟨b2, 8, none⟩ = some (ii u.tox) ∧ w'.cell? ⟨b2, 9, none⟩ = some (ii u.toy) ∧ w'.cell? ⟨b2, 10, none⟩ = some (ii u.target)) ∧ (w'.cell? ⟨cb, 0, none⟩ = some (ii u.id) ∧ w'.cell? ⟨cb, 1, none⟩ = some (ii u.what) ∧ w'.cell? ⟨cb, 2, none⟩ = some (ii u.tox) ∧ w'.cell? ⟨cb, 3, none⟩ = some (ii u.toy) ∧ w'.cell? ⟨cb, 4, none⟩ = some (ii u.target)) ∧ Fr [] W3 w') w' := fun w' hf => ⟨⟨cell_of_heap (hf.heap0 hg), cell_of_heap (hf.heap0 hg)⟩, ⟨cell_of_heap (hf.heap0 hU3), cell_of_heap (hf.heap0 hU3), cell_of_heap (hf.heap0 hU3), cell_of_heap (hf.heap0 hU3), cell_of_heap (hf.heap0 hU3), cell_of_heap (hf.heap0 hU3), cell_of_heap (hf.heap0 hU3), cell_of_heap (hf.heap0 hU3), cell_of_heap (hf.heap0 hU3), cell_of_heap (hf.heap0 hU3), cell_of_heap (hf.heap0 hU3)⟩, ⟨cell_of_heap (hf.heap0 hC3), cell_of_heap (hf.heap0 hC3), cell_of_heap (hf.heap0 hC3), cell_of_heap (hf.heap0 hC3), cell_of_heap (hf.heap0 hC3)⟩, hf⟩
    have KF : Fr [] W3 W3.drew := (Fr.refl _ _).drew
    have K0 := HS _ KF
    go_wp2_with fail
    go_region_held (fun w' : World => (w'.cell? ⟨g, 1, none⟩ = some (fv n0) ∧ w'.cell? ⟨g, 2, none⟩ = some (fv n2)) ∧ (w'.cell? ⟨b2, 0, none⟩ = some (ii u.id) ∧ w'.cell? ⟨b2, 1, none⟩ = some (ii u.owner) ∧ w'.cell? ⟨b2, 2, none⟩ = some (ii u.kind) ∧ w'.cell? ⟨b2, 3, none⟩ = some (ii u.x) ∧ w'.cell? ⟨b2, 4, none⟩ = some (ii u.y) ∧ w'.cell? ⟨b2, 5, none⟩ = some (ii u.life) ∧ w'.cell? ⟨b2, 6, none⟩ = some (ii u.load) ∧ w'.cell? ⟨b2, 7, none⟩ = some (ii u.what) ∧ w'.cell? ⟨b2, 8, none⟩ = some (ii u.tox) ∧ w'.cell? ⟨b2, 9, none⟩ = some (ii u.toy) ∧ w'.cell? ⟨b2, 10, none⟩ = some (ii u.target)) ∧ (w'.cell? ⟨cb, 0, none⟩ = some (ii u.id) ∧ w'.cell? ⟨cb, 1, none⟩ = some (ii u.what) ∧ w'.cell? ⟨cb, 2, none⟩ = some (ii u.tox) ∧ w'.cell? ⟨cb, 3, none⟩ = some (ii u.toy) ∧ w'.cell? ⟨cb, 4, none⟩ = some (ii u.target)) ∧ Fr [] W3 w')
      (first | with_reducible exact K0 | with_reducible exact HS _ hfr1 | with_reducible exact HS _ hfr2)
      (first | (refine Calls.mono (h0 _ (hw3.then0 (And.right (And.right (And.right (by assumption)))))) ?_; rintro e w2 ⟨rfl, hf2⟩; have hfr2 : Fr [] W3 w2 := Fr.then0 (And.right (And.right (And.right (by assumption)))) hf2) | (refine Calls.mono (h2 _) ?_; rintro e w1 ⟨rfl, hf1⟩; have hfr1 : Fr [] W3 w1 := Fr.then0 (And.right (And.right (And.right (by assumption)))) hf1))
    all_goals
      go_wp2_with fail
      go_ret
      exact ⟨rfl, hw3.then0 hfr2⟩
end Go.Proofs.YtapabahhfanmmaaDoor
/- May a game be? -/
namespace Go.Proofs.YtapabahhfanmmaaDoor
open Go.RowKit

theorem nodup_len {α : Type} [DecidableEq α] : ∀ (a b : List α), a.Nodup → (∀ x ∈ a, x ∈ b) → a.length ≤ b.length
  | [], _, _, _ => Nat.zero_le _
  | x :: a, b, hn, hs => by
    rw [List.nodup_cons] at hn
    have hx := hs x (by simp)
    have ih := nodup_len a (b.erase x) hn.2 (fun y hy => (List.mem_erase_of_ne (fun e => hn.1 (by rw [← e]; exact hy))).2 (hs y (by simp [hy])))
    rw [List.length_erase_of_mem hx] at ih
    have := List.length_pos_of_mem hx
    simp only [List.length_cons]
    omega
theorem MapF.count {w : World} {r : Nat} {f : Int × Int → Option Value} (h : MapF w r f) (cs : List (Int × Int)) (hnd : cs.Nodup) (hf : ∀ c, (f c).isSome = true ↔ c ∈ cs) (t e ty : TypeId) (ht : Tryd.prog.underlying t = some (.map 96 e)) :
    (Builtin.len_ #[t] ty #[.map (some r)]).run Tryd.prog w = .ok (.int .i64 cs.length) w := by
  obtain ⟨l, es, clock, hb, he, hn, hk⟩ := h
  have h1 : es.size = l.length := by
    have := congrArg List.length he
    simpa using this
  have hm : ∀ c, c ∈ l.map (·.1) ↔ c ∈ cs := fun c => by
    rw [← hf c, ← hk c, Option.isSome_map, List.find?_isSome]
    constructor
    · intro hc
      obtain ⟨p, hp, rfl⟩ := List.mem_map.1 hc
      exact ⟨p, hp, by simp⟩
    · rintro ⟨p, hp, hc⟩
      exact List.mem_map.2 ⟨p, hp, by simpa using hc⟩
  have h2 : l.length = cs.length := by
    have a1 := nodup_len (l.map (·.1)) cs hn (fun x hx => (hm x).1 hx)
    have a2 := nodup_len cs (l.map (·.1)) hnd (fun x hx => (hm x).2 hx)
    rw [List.length_map] at a1 a2
    omega
  rw [← h2, ← h1]
  simp [Builtin.len_, run_underlying ht, MapKept.run_getObj_map hb, goInt, Result.andThen]
theorem cells_nodup {t : T} (h : GOk t) : (t.us.map (fun u => (u.x, u.y))).Nodup := by
  rw [List.Nodup, List.pairwise_map, List.pairwise_iff_getElem]
  intro i j hi hj hij e
  have h1 := (h.all _ (List.getElem_mem hi)).hd
  have h2 := (h.all _ (List.getElem_mem hj)).hd
  have e' : ((t.us[i]'hi).x, (t.us[i]'hi).y) = ((t.us[j]'hj).x, (t.us[j]'hj).y) := e
  rw [e', h2] at h1
  have hr : (t.us[i]'hi).id < (t.us[j]'hj).id := List.pairwise_iff_getElem.1 h.rise i j hi hj hij
  have := Option.some.inj h1
  omega
theorem cells_held {t : T} (h : GOk t) (c : Int × Int) : (heldV (heldOf t.us) c).isSome = true ↔ c ∈ t.us.map (fun u => (u.x, u.y)) := by
  show ((heldOf t.us c).map fun i => ii i).isSome = true ↔ _
  rw [Option.isSome_map]
  constructor
  · intro hc
    obtain ⟨i, hi⟩ := Option.isSome_iff_exists.1 hc
    obtain ⟨u, hu, _, e⟩ := h.hel c i hi
    exact List.mem_map.2 ⟨u, hu, e⟩
  · intro hc
    obtain ⟨u, hu, rfl⟩ := List.mem_map.1 hc
    have := (h.all u hu).hd
    dsimp only at this
    rw [this]
    rfl
/-- An order that stands. -/
theorem stands_ok (gb pb cap : Nat) (t : T) (u : U) (w : World) (h : GS w gb pb cap t) (hok : GOk t) (hu : u ∈ t.us) (hos : OrdS t u) : ∃ n1 n0 n2 n3, Stands gb u w (kOf u) n1 n0 n2 n3 := by
  have huo := hok.all u hu
  have hbd : BdAt w gb t.bd := fun i hi => by
    have := h.cell (4 + i) (by omega)
    rw [this]
    unfold tcell
    rw [if_neg (by omega), if_neg (by omega), if_neg (by omega), if_neg (by omega), if_pos (by omega), show 4 + i - 4 = i by omega]
  have hgl := h.lt
  have hnx : w.cell? ⟨gb, 1, none⟩ = some (ii t.next) := by have := h.cell 1 (by omega); simpa [tcell] using this
  have hkd := huo.kd
  have any0 : ∀ w', Fr [] w w' → Calls Tryd.prog 77 #[.pointer (some ⟨gb, 0, none⟩), u.val, u.cm.val] w' fun e w'' => e = .returned (.bool true) ∧ Fr [] w' w'' := fun w' _ => takesAny_any _ u u.cm w'
  have mv : ∀ (_ : onB u.tox u.toy = true) (_ : t.bd (ci u.tox u.toy) ≠ 10) (w' : World), Fr [] w w' → Calls Tryd.prog 67 #[.pointer (some ⟨gb, 0, none⟩), u.val, u.cm.val] w' fun e w'' => e = .returned (.bool true) ∧ Fr [] w' w'' := fun h1 h2 w' hf => by
    have := takesMove_any gb t.bd u u.cm w' (hbd.fr hf (by simp)) (Nat.lt_of_lt_of_le hgl hf.size)
    have e : (onB u.cm.x u.cm.y && (t.bd (ci u.cm.x u.cm.y) != 10)) = true := by show (onB u.tox u.toy && (t.bd (ci u.tox u.toy) != 10)) = true; simp [h1, h2]
    rw [e] at this
    exact this
  rcases hos with ⟨a1, a2, a3, a4⟩ | ⟨a1, a2, a3, a4⟩ | ⟨a1, a2, a3, a4, a5, a6⟩ | ⟨a1, a2, a3⟩
  · have k0 : ∀ w', Calls Tryd.prog 78 #[u.cm.val] w' fun e w'' => e = .returned u.cm.val ∧ Fr [] w' w'' := fun w' => by
      have := keepsNothing_any u.cm w'
      have e : (⟨u.cm.unit, u.cm.what, 0, 0, 0⟩ : Cm) = u.cm := by show (⟨u.id, u.what, 0, 0, 0⟩ : Cm) = ⟨u.id, u.what, u.tox, u.toy, u.target⟩; rw [a2, a3, a4]
      rw [e] at this
      exact this
    unfold kOf
    rcases hkd with ek | ek | ek
    · rw [if_pos ek]; exact ⟨_, _, _, _, ⟨fun w => by rw [a1]; exact skill_10 w, any0, k0, fun _ _ => by kernel_rfl, fun _ _ => by kernel_rfl⟩⟩
    · rw [if_neg (by omega), if_pos ek]; exact ⟨_, _, _, _, ⟨fun w => by rw [a1]; exact skill_20 w, any0, k0, fun _ _ => by kernel_rfl, fun _ _ => by kernel_rfl⟩⟩
    · rw [if_neg (by omega), if_neg (by omega)]; exact ⟨_, _, _, _, ⟨fun w => by rw [a1]; exact skill_30 w, any0, k0, fun _ _ => by kernel_rfl, fun _ _ => by kernel_rfl⟩⟩
  · have kc : ∀ w', Calls Tryd.prog 68 #[u.cm.val] w' fun e w'' => e = .returned u.cm.val ∧ Fr [] w' w'' := fun w' => by
      have := keepsCell_any u.cm w'
      have e : (⟨u.cm.unit, u.cm.what, u.cm.x, u.cm.y, 0⟩ : Cm) = u.cm := by show (⟨u.id, u.what, u.tox, u.toy, 0⟩ : Cm) = ⟨u.id, u.what, u.tox, u.toy, u.target⟩; rw [a4]
      rw [e] at this
      exact this
    have hod := huo.od
    unfold OrdOk at hod
    unfold kOf
    rcases a1 with e | e
    · rcases (show u.kind = 2 ∨ u.kind = 3 by omega) with ek | ek
      · rw [if_neg (by omega), if_pos ek]; exact ⟨_, _, _, _, ⟨fun w => by rw [e]; exact skill_21 w, mv a2 a3, kc, fun _ _ => by kernel_rfl, fun _ _ => by kernel_rfl⟩⟩
      · rw [if_neg (by omega), if_neg (by omega)]; exact ⟨_, _, _, _, ⟨fun w => by rw [e]; exact skill_31 w, mv a2 a3, kc, fun _ _ => by kernel_rfl, fun _ _ => by kernel_rfl⟩⟩
    · have ek : u.kind = 2 := by omega
      rw [if_neg (by omega), if_pos ek]
      refine ⟨_, _, _, _, ⟨fun w => by rw [e]; exact skill_22 w, fun w' hf => ?_, kc, fun _ _ => by kernel_rfl, fun _ _ => by kernel_rfl⟩⟩
      have := standsMine_any gb t.bd u u.cm w' (hbd.fr hf (by simp)) (Nat.lt_of_lt_of_le hgl hf.size)
      have e : (onB u.cm.x u.cm.y && (t.bd (ci u.cm.x u.cm.y) != 10)) = true := by show (onB u.tox u.toy && (t.bd (ci u.tox u.toy) != 10)) = true; simp [a2, a3]
      rw [e] at this
      exact this
  · have hod := huo.od
    unfold OrdOk at hod
    have ek : u.kind = 3 := by omega
    unfold kOf
    rw [if_neg (by omega), if_neg (by omega)]
    refine ⟨_, _, _, _, ⟨fun w => by rw [a1]; exact skill_33 w, fun w' hf => ?_, fun w' => ?_, fun _ _ => by kernel_rfl, fun _ _ => by kernel_rfl⟩⟩
    · exact standsHit_any gb pb cap t.us u u.cm t.next w' (h.gv.fr0 hf) hok.rise ((hf.cell _ _ hgl (by simp)).trans hnx) a4 a5 a6
    · have := keepsTarget_any u.cm w'
      have e : (⟨u.cm.unit, u.cm.what, 0, 0, u.cm.target⟩ : Cm) = u.cm := by show (⟨u.id, u.what, 0, 0, u.target⟩ : Cm) = ⟨u.id, u.what, u.tox, u.toy, u.target⟩; rw [a2, a3]
      rw [e] at this
      exact this
  · have hod := huo.od
    unfold OrdOk at hod
    have ek : u.kind = 1 := by omega
    unfold kOf
    rw [if_pos ek]
    refine ⟨_, _, _, _, ⟨fun w => by rw [a1]; exact skill_14 w, fun w' _ => ?_, fun w' => ?_, fun _ _ => by kernel_rfl, fun _ _ => by kernel_rfl⟩⟩
    · have := takesBuild_any (.pointer (some ⟨gb, 0, none⟩)) u u.cm w'
      have e : (u.cm.x == 2 || u.cm.x == 3) = true := by show (u.tox == 2 || u.tox == 3) = true; simp; omega
      rw [e] at this
      exact this
    · have := keepsKind_any u.cm w'
      have e : (⟨u.cm.unit, u.cm.what, u.cm.x, 0, 0⟩ : Cm) = u.cm := by show (⟨u.id, u.what, u.tox, 0, 0⟩ : Cm) = ⟨u.id, u.what, u.tox, u.toy, u.target⟩; rw [a2, a3]
      rw [e] at this
      exact this
theorem order_ok (gb pb cap : Nat) (t : T) (u : U) (w : World) (h : GS w gb pb cap t) (hok : GOk t) (hu : u ∈ t.us) (hos : OrdS t u) :
    Calls Tryd.prog 63 #[.pointer (some ⟨gb, 0, none⟩), u.val] w fun e w' => e = .returned (.bool true) ∧ Fr [] w w' := by
  obtain ⟨n1, n0, n2, n3, hst⟩ := stands_ok gb pb cap t u w h hok hu hos
  exact orderMay_gen gb u n1 n0 n2 n3 (kOf u) w (kOf_any u (hok.all u hu).kd) hst
theorem body_ok (gb pb cap : Nat) (t : T) (u : U) (w : World) (h : GS w gb pb cap t) (hok : GOk t) (hu : u ∈ t.us) :
    Calls Tryd.prog 62 #[.pointer (some ⟨gb, 0, none⟩), u.val] w fun e w' => e = .returned (.bool true) ∧ Fr [] w w' := by
  have huo := hok.all u hu
  have hbd : BdAt w gb t.bd := fun i hi => by
    have := h.cell (4 + i) (by omega)
    rw [this]
    unfold tcell
    rw [if_neg (by omega), if_neg (by omega), if_neg (by omega), if_neg (by omega), if_pos (by omega), show 4 + i - 4 = i by omega]
  exact bodyMay_any gb u t.bd w hbd h.lt huo.kd (by have := huo.ow; omega) huo.lf ⟨huo.ld.2.1, huo.ld.2.2⟩ huo.on huo.gr

set_option maxRecDepth 100000 in
set_option maxHeartbeats 4000000 in
theorem peopleMay_any (gb pb cap : Nat) (t : T) (w : World) (h : GS w gb pb cap t) (hok : GOk t) (hos : OS t) :
    Calls Tryd.prog 52 #[.pointer (some ⟨gb, 0, none⟩)] w fun e w' => e = .returned (.bool true) ∧ Fr [] w w' := by
  have hc := h.gv.c
  have hlen := h.len
  have hgl := h.lt
  have HP : Hid (Ppl w pb t.us) := h.row.ppl
  have HB : Hid (∀ u ∈ t.us, ∀ w', Fr [] w w' → Calls Tryd.prog 62 #[.pointer (some ⟨gb, 0, none⟩), u.val] w' fun e w'' => e = .returned (.bool true) ∧ Fr [] w' w'') := fun u hu w' hf => body_ok gb pb cap t u w' (h.fr hf (by simp) (by simp)) hok hu
  have HO : Hid (∀ u ∈ t.us, ∀ w', Fr [] w w' → Calls Tryd.prog 63 #[.pointer (some ⟨gb, 0, none⟩), u.val] w' fun e w'' => e = .returned (.bool true) ∧ Fr [] w' w'') := fun u hu w' hf => order_ok gb pb cap t u w' (h.fr hf (by simp) (by simp)) hok hu (hos u hu)
  have HCE : Hid (∀ w', Fr [] w w' → Calls Tryd.prog 43 #[.slice (some ⟨pb, 0, none⟩) t.us.length cap] w' fun e w'' => ∃ hb, e = .returned (.map (some hb)) ∧ MapF w'' hb (heldV (heldOf t.us)) ∧ Fr [] w' w'') := fun w' hf => by
    refine Calls.mono (cellsOf_any pb cap t.us w' (h.row.fr hf (by simp)) h.len) ?_
    rintro e w1 ⟨hb, rfl, _, hm, hf1⟩
    exact ⟨hb, rfl, hm, hf1⟩
  have HN : Hid (∀ w' hb, MapF w' hb (heldV (heldOf t.us)) → ∀ ty, (Builtin.len_ #[84] ty #[.map (some hb)]).run Tryd.prog w' = .ok (.int .i64 t.us.length) w') := fun w' hb hm ty => by
    have := hm.count (t.us.map (fun u => (u.x, u.y))) (cells_nodup hok) (cells_held hok) 84 3 ty Tryd.underlying84
    rw [List.length_map] at this
    exact this
  obtain ⟨us, hus⟩ : ∃ us, us = t.us := ⟨_, rfl⟩
  rw [← hus] at hc hlen HP HB HO HCE HN
  clear h hok hos hus
  go_enter Tryd.func52, Tryd.ntmps52
  go_wp2_with fail
  go_loopw [10] (fun i wr => ∃ k : Nat, k ≤ us.length ∧ i = .int .i64 k ∧ Fr [] w wr) (fun i _ => us.length - (intOf i).toNat)
  case atStart => exact ⟨0, by omega, rfl, Fr.refl _ _⟩
  case round =>
    obtain ⟨k, hk, rfl, hfr⟩ := hrel
    by_cases hlt : k < us.length
    · have hlti : (k : Int) < (us.length : Int) := by omega
      obtain ⟨u, hu⟩ : ∃ u, us[k]? = some u := ⟨us[k], List.getElem?_eq_getElem hlt⟩
      obtain ⟨c0, c1, c2, c3, c4, c5, c6, c7, c8, c9, c10⟩ := (Ppl.fr HP.out hfr (by simp)).at hu
      have hb1 := HB.out u (List.mem_of_getElem? hu)
      have ho1 := HO.out u (List.mem_of_getElem? hu)
      have HB1 := (show Hid _ from hb1)
      have HO1 := (show Hid _ from ho1)
      clear hu hb1 ho1
      go_wp2_with fail
      refine Calls.mono (HB1.out _ (hfr.alloc _)) ?_
      rintro e w1 ⟨rfl, hf1⟩
      dsimp only
      have hw1 := (hfr.alloc (.cells u.arr 44)).then0 hf1
      have hU1 := hf1.heap0 (hp_new wr (.cells u.arr 44))
      obtain ⟨a0, a1, a2, a3, a4, a5, a6, a7, a8, a9, a10⟩ : w1.cell? ⟨wr.heap.size, 0, none⟩ = some (ii u.id) ∧ w1.cell? ⟨wr.heap.size, 1, none⟩ = some (ii u.owner) ∧ w1.cell? ⟨wr.heap.size, 2, none⟩ = some (ii u.kind) ∧ w1.cell? ⟨wr.heap.size, 3, none⟩ = some (ii u.x) ∧ w1.cell? ⟨wr.heap.size, 4, none⟩ = some (ii u.y) ∧ w1.cell? ⟨wr.heap.size, 5, none⟩ = some (ii u.life) ∧ w1.cell? ⟨wr.heap.size, 6, none⟩ = some (ii u.load) ∧ w1.cell? ⟨wr.heap.size, 7, none⟩ = some (ii u.what) ∧ w1.cell? ⟨wr.heap.size, 8, none⟩ = some (ii u.tox) ∧ w1.cell? ⟨wr.heap.size, 9, none⟩ = some (ii u.toy) ∧ w1.cell? ⟨wr.heap.size, 10, none⟩ = some (ii u.target) :=
        ⟨cell_of_heap hU1, cell_of_heap hU1, cell_of_heap hU1, cell_of_heap hU1, cell_of_heap hU1, cell_of_heap hU1, cell_of_heap hU1, cell_of_heap hU1, cell_of_heap hU1, cell_of_heap hU1, cell_of_heap hU1⟩
      clear hU1 c0 c1 c2 c3 c4 c5 c6 c7 c8 c9 c10
      go_wp2_with fail
      refine Calls.mono (HO1.out _ hw1) ?_
      rintro e w2 ⟨rfl, hf2⟩
      dsimp only
      go_wp2_with fail
      go_roundw
      case rel => exact ⟨k + 1, hlt, by go_num, hw1.then0 hf2⟩
      case measure => simp [intOf]; omega
    · have hlti : ¬ (k : Int) < (us.length : Int) := by omega
      have hcr := (hfr.cell _ _ hgl (by simp)).trans hc
      have hgr : gb < wr.heap.size := Nat.lt_of_lt_of_le hgl hfr.size
      clear HB HO HP
      go_wp2_with fail
      go_region_with (first | (go_at_call 43; refine Calls.mono (HCE.out _ ?_) ?_; exact hfr.drew; rintro e w1 ⟨hb, rfl, hm, hf1⟩; have hln := HN.out w1 hb hm; have hc1 := ((hfr.drew.then0 hf1).cell _ _ hgl (by simp)).trans hc))
      all_goals
        go_wp2_with fail
        go_ret
        exact ⟨rfl, hfr.drew.then0 hf1⟩

set_option maxRecDepth 100000 in
set_option maxHeartbeats 4000000 in
theorem mayBe_any (gb pb cap : Nat) (t : T) (w : World) (h : GS w gb pb cap t) (hok : GOk t) (hos : OS t) :
    Calls Tryd.prog 39 #[.pointer (some ⟨gb, 0, none⟩)] w fun e w' => e = .returned (.bool true) ∧ Fr [] w w' := by
  have H1 : Hid (∀ w', Fr [] w w' → Calls Tryd.prog 50 #[.pointer (some ⟨gb, 0, none⟩)] w' fun e w'' => e = .returned (.bool true) ∧ Fr [] w' w'') := fun w' hf => boardMay_any gb pb cap t w' (h.fr hf (by simp) (by simp)) (fun i hi => (hok.bd i hi).2)
  have H2 : Hid (∀ w', Fr [] w w' → Calls Tryd.prog 51 #[.pointer (some ⟨gb, 0, none⟩)] w' fun e w'' => e = .returned (.bool true) ∧ Fr [] w' w'') := fun w' hf => idsMay_any gb pb cap t w' (h.fr hf (by simp) (by simp)) hok.rise (fun u hu => (hok.all u hu).id)
  have H3 : Hid (∀ w', Fr [] w w' → Calls Tryd.prog 52 #[.pointer (some ⟨gb, 0, none⟩)] w' fun e w'' => e = .returned (.bool true) ∧ Fr [] w' w'') := fun w' hf => peopleMay_any gb pb cap t w' (h.fr hf (by simp) (by simp)) hok hos
  have H4 : Hid (∀ w', Fr [] w w' → Calls Tryd.prog 53 #[.pointer (some ⟨gb, 0, none⟩)] w' fun e w'' => e = .returned (.bool true) ∧ Fr [] w' w'') := fun w' hf => basesMay_any gb pb cap t w' (h.fr hf (by simp) (by simp)) (fun u hu => (hok.all u hu).ow) hok.b0 hok.b1 hok.bs
  clear h hok hos
  go_enter Tryd.func39, Tryd.ntmps39
  go_wp2_with fail
  refine Calls.mono (H1.out _ (Fr.refl _ _)) ?_
  rintro e w1 ⟨rfl, hf1⟩
  dsimp only
  go_wp2_with fail
  refine Calls.mono (H2.out _ hf1) ?_
  rintro e w2 ⟨rfl, hf2⟩
  dsimp only
  have hw2 := hf1.then0 hf2
  go_wp2_with fail
  refine Calls.mono (H3.out _ hw2) ?_
  rintro e w3 ⟨rfl, hf3⟩
  dsimp only
  have hw3 := hw2.then0 hf3
  go_wp2_with fail
  refine Calls.mono (H4.out _ hw3) ?_
  rintro e w4 ⟨rfl, hf4⟩
  dsimp only
  go_wp2_with fail
  go_ret
  exact ⟨rfl, hw3.then0 hf4⟩
end Go.Proofs.YtapabahhfanmmaaDoor
