import Derived.Test.YtapabahhfanmmaaDoorCSkill
/- The list of people in memory; looking somebody up. -/
namespace Go.Proofs.YtapabahhfanmmaaDoor
open Go.RowKit

/-- The people lie in block b, one behind the other. -/
def Ppl (w : World) (b : Nat) (us : List U) : Prop := ∀ (i : Nat) (h : i < us.length), w.rangeAt b (i * 11) us[i].cells
theorem Ppl.fr {S : List Nat} {w w' : World} {b : Nat} {us : List U} (h : Ppl w b us) (hf : Fr S w w') (hn : b ∉ S) : Ppl w' b us := fun i hi j v hv => by
  have h1 := h i hi j v hv
  rw [hf.cell b _ (lt_of_cell h1) hn]; exact h1

theorem Ppl.at {w : World} {b k : Nat} {us : List U} {u : U} (h : Ppl w b us) (hk : us[k]? = some u) :
    w.cell? ⟨b, k * 11, none⟩ = some (ii u.id) ∧ w.cell? ⟨b, k * 11 + 1, none⟩ = some (ii u.owner) ∧ w.cell? ⟨b, k * 11 + 2, none⟩ = some (ii u.kind) ∧ w.cell? ⟨b, k * 11 + 3, none⟩ = some (ii u.x) ∧
    w.cell? ⟨b, k * 11 + 4, none⟩ = some (ii u.y) ∧ w.cell? ⟨b, k * 11 + 5, none⟩ = some (ii u.life) ∧ w.cell? ⟨b, k * 11 + 6, none⟩ = some (ii u.load) ∧ w.cell? ⟨b, k * 11 + 7, none⟩ = some (ii u.what) ∧
    w.cell? ⟨b, k * 11 + 8, none⟩ = some (ii u.tox) ∧ w.cell? ⟨b, k * 11 + 9, none⟩ = some (ii u.toy) ∧ w.cell? ⟨b, k * 11 + 10, none⟩ = some (ii u.target) := by
  obtain ⟨hl, rfl⟩ := List.getElem?_eq_some_iff.1 hk
  have := h k hl
  exact ⟨this 0 _ rfl, this 1 _ rfl, this 2 _ rfl, this 3 _ rfl, this 4 _ rfl, this 5 _ rfl, this 6 _ rfl, this 7 _ rfl, this 8 _ rfl, this 9 _ rfl, this 10 _ rfl⟩

def isBase (o : Int) (u : U) : Bool := u.kind == 1 && u.owner == o
def baseOf (us : List U) (o : Int) : Option U := us.find? (isBase o)
abbrev zeroU : U := ⟨0, 0, 0, 0, 0, 0, 0, 0, 0, 0, 0⟩

theorem infoUnit : (Tryd.prog.info? 44).map (·.size) = some 11 := by kernel_rfl

set_option maxRecDepth 100000 in
set_option maxHeartbeats 400000 in
theorem base_any (b pb cap : Nat) (us : List U) (o : Int) (w : World) (hc : w.cell? ⟨b, 148, none⟩ = some (.slice (some ⟨pb, 0, none⟩) us.length cap)) (hp : Ppl w pb us) (hlen : us.length ≤ maxLen) (hb : b < w.heap.size) :
    Calls Tryd.prog 29 #[.pointer (some ⟨b, 0, none⟩), .int .i64 o] w fun e w' => e = .returned (.tuple #[((baseOf us o).getD zeroU).val, .bool (baseOf us o).isSome]) ∧ Fr [] w w' := by
  unfold maxLen at hlen
  go_enter Tryd.func29, Tryd.ntmps29
  go_wp2
  go_loopw [13] (fun i wr => ∃ k : Nat, k ≤ us.length ∧ i = .int .i64 k ∧ (∀ j (h : j < k) (h' : j < us.length), isBase o us[j] = false) ∧ Fr [] (w.alloc (.cells #[ii 0, ii 0, ii 0, ii 0, ii 0, ii 0, ii 0, ii 0, ii 0, ii 0, ii 0] 44)) wr) (fun i _ => us.length - (intOf i).toNat)
  case atStart => exact ⟨0, Nat.zero_le _, rfl, fun j h => by omega, Fr.refl _ _⟩
  case round =>
    obtain ⟨k, hk, rfl, hno, hf⟩ := hrel
    by_cases hlt : k < us.length
    · obtain ⟨u, hu⟩ : ∃ u, us[k]? = some u := ⟨us[k], List.getElem?_eq_getElem hlt⟩
      obtain ⟨c0, c1, c2, c3, c4, c5, c6, c7, c8, c9, c10⟩ := ((hp.fr ((Fr.refl [] w).alloc _) (by simp)).fr hf (by simp)).at hu
      have HU := (show Hid (us[k]? = some u) from hu)
      clear hu
      have hsz : w.heap.size < wr.heap.size := by have := hf.size; simp at this; omega
      have hh := hf.heap0 (hp_new w _)
      by_cases hk1 : (u.kind == 1) = true
      · by_cases ho1 : (u.owner == o) = true
        · have HB : Hid (isBase o u = true) := by simp [Hid, isBase, hk1, ho1]
          go_wp2_with (refine wpList_store_row rfl 44 _ _ rfl w.heap.size u.arr rfl rfl 44 _ ((hp_old _ _ _ hsz).trans hh) infoUnit rfl u.one ?_)
          have hbo : baseOf us o = some u := by
            unfold baseOf
            rw [List.find?_eq_some_iff_getElem]
            refine ⟨HB.out, k, hlt, ?_, fun j hj => by simp [hno j hj (by omega)]⟩
            have := HU.out; rw [List.getElem?_eq_getElem hlt] at this; exact Option.some.inj this
          rw [hbo]
          exact bodyPost_ret (v := .tuple #[u.val, .bool true]) (results_cell_tmp Tryd.results29 _ _ w.heap.size 44 u.arr (0, 0) _ _ rfl rfl (setRow_heap _ _ _ u.arr _ _ ((hp_old _ _ _ hsz).trans hh)) Tryd.underlying44 rfl infoUnit) rfl ⟨rfl, ((((Fr.refl _ _).alloc _).then0 hf).alloc _).setRow _ _ (Or.inr (Nat.le_refl _))⟩
        · simp only [Bool.not_eq_true] at ho1
          have HB : Hid (isBase o u = false) := by simp [Hid, isBase, ho1]
          go_wp2
          go_roundw
          case rel =>
            refine ⟨k + 1, hlt, by go_num, fun j hj hj' => ?_, hf.alloc _⟩
            rcases Nat.lt_or_ge j k with h | h
            · exact hno j h hj'
            · have hjk : j = k := by omega
              subst hjk
              have := HU.out; rw [List.getElem?_eq_getElem hlt] at this; rw [Option.some.inj this]; exact HB.out
          case measure => simp [intOf]; omega
      · simp only [Bool.not_eq_true] at hk1
        have HB : Hid (isBase o u = false) := by simp [Hid, isBase, hk1]
        go_wp2
        go_roundw
        case rel =>
          refine ⟨k + 1, hlt, by go_num, fun j hj hj' => ?_, hf.alloc _⟩
          rcases Nat.lt_or_ge j k with h | h
          · exact hno j h hj'
          · have hjk : j = k := by omega
            subst hjk
            have := HU.out; rw [List.getElem?_eq_getElem hlt] at this; rw [Option.some.inj this]; exact HB.out
        case measure => simp [intOf]; omega
    · have hh := hf.heap0 (hp_new w _)
      go_wp2_with (refine wpList_store_row rfl 44 _ _ rfl w.heap.size zeroU.arr rfl rfl 44 _ hh infoUnit rfl zeroU.one ?_)
      have hbo : baseOf us o = none := by
        unfold baseOf
        rw [List.find?_eq_none]
        intro x hx
        obtain ⟨j, hj, rfl⟩ := List.mem_iff_getElem.1 hx
        simp [hno j (by omega) hj]
      rw [hbo]
      exact bodyPost_ret (v := .tuple #[zeroU.val, .bool false]) (results_cell_tmp Tryd.results29 _ _ w.heap.size 44 zeroU.arr (0, 0) _ _ rfl rfl (setRow_heap _ _ _ zeroU.arr _ _ hh) Tryd.underlying44 rfl infoUnit) rfl ⟨rfl, (((Fr.refl _ _).alloc _).then0 hf).setRow _ _ (Or.inr (Nat.le_refl _))⟩

/-- A game's people can be read: its list lies in block pb; at most a thousand; Ids rise. -/
structure GV (w : World) (b pb cap : Nat) (us : List U) : Prop where
  c : w.cell? ⟨b, 148, none⟩ = some (.slice (some ⟨pb, 0, none⟩) us.length cap)
  p : Ppl w pb us
  len : us.length ≤ 1000
theorem GV.fr {S : List Nat} {w w' : World} {b pb cap : Nat} {us : List U} (h : GV w b pb cap us) (hf : Fr S w w') (h1 : b ∉ S) (h2 : pb ∉ S) : GV w' b pb cap us :=
  ⟨by rw [hf.cell b _ (lt_of_cell h.c) h1]; exact h.c, h.p.fr hf h2, h.len⟩
theorem GV.fr0 {w w' : World} {b pb cap : Nat} {us : List U} (h : GV w b pb cap us) (hf : Fr [] w w') : GV w' b pb cap us := h.fr hf (by simp) (by simp)
theorem base_g (b pb cap : Nat) (us : List U) (o : Int) (w : World) (hg : GV w b pb cap us) :
    Calls Tryd.prog 29 #[.pointer (some ⟨b, 0, none⟩), .int .i64 o] w fun e w' => e = .returned (.tuple #[((baseOf us o).getD zeroU).val, .bool (baseOf us o).isSome]) ∧ Fr [] w w' :=
  base_any b pb cap us o w hg.c hg.p (Nat.le_trans hg.len (by decide)) (lt_of_cell hg.c)
end Go.Proofs.YtapabahhfanmmaaDoor
