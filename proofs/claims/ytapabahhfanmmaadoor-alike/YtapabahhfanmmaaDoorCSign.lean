import Derived.Test.YtapabahhfanmmaaDoorCTakes2
import Derived.Deep.QuietTactic
import Derived.BigQuiet
import Derived.Test.YtapabahhfanmmaaDoorCCells
/- Hit: the target is there, and another's. -/
namespace Go.Proofs.YtapabahhfanmmaaDoor
open Go.RowKit

def look (us : List U) (id : Int) : Option U := us.find? (fun u => u.id == id)
theorem look_none {us : List U} {id : Int} (h : ∀ u ∈ us, u.id ≠ id) : look us id = none := by
  unfold look; rw [List.find?_eq_none]; intro u hu; simp [h u hu]
theorem look_some {us : List U} (hs : Rise us) {i : Nat} {u : U} (hi : us[i]? = some u) : look us u.id = some u := by
  unfold look
  obtain ⟨hl, he⟩ := List.getElem?_eq_some_iff.1 hi
  rw [List.find?_eq_some_iff_getElem]
  refine ⟨by simp, i, hl, he, fun j hj => ?_⟩
  have := hs.lt (List.getElem?_eq_getElem (show j < us.length by omega)) hi hj
  simp; omega
def hitB (us : List U) (o : Int) (id : Int) : Bool := match look us id with | some t => t.owner != o | none => false

set_option maxRecDepth 100000 in
set_option maxHeartbeats 400000 in
theorem takesHit_any (b pb cap : Nat) (us : List U) (u : U) (c : Cm) (w : World) (hg : GV w b pb cap us) (hs : Rise us) :
    Calls Tryd.prog 73 #[.pointer (some ⟨b, 0, none⟩), u.val, c.val] w fun e w' => e = .returned (.bool (hitB us u.owner c.target)) ∧ Fr [] w w' := by
  go_enter Tryd.func73, Tryd.ntmps73
  go_wp2_with fail
  refine (find_any b pb cap us c.target _ (hg.fr0 (((Fr.refl _ _).alloc _).alloc _)) hs).mono ?_
  rintro e w1 ⟨i, f, rfl, hf, hr⟩
  have hff := (((Fr.refl [] w).alloc _).alloc _).then0 hf
  have hg1 := hg.fr0 hff
  have hown : w1.cell? ⟨w.heap.size, 1, none⟩ = some (ii u.owner) := cell_of_heap (hf.heap0 (hp_old2 w _ _))
  have hc := hg1.c
  have hlen := hg.len
  rcases hr with ⟨rfl, t, ht, hid⟩ | ⟨rfl, hno⟩
  · have HL : Hid (hitB us u.owner c.target = (t.owner != u.owner)) := by
      show hitB _ _ _ = _
      unfold hitB; rw [← hid, look_some hs ht]
    have hil : i < us.length := (List.getElem?_eq_some_iff.1 ht).1
    obtain ⟨c0, c1, c2, c3, c4, c5, c6, c7, c8, c9, c10⟩ := hg1.p.at ht
    clear hid ht
    go_wp2_with fail
    go_quiet (fail)
    go_wp2
    go_ret
    exact ⟨by rw [HL.out]; rfl, hff.drewN _⟩
  · have HL : Hid (hitB us u.owner c.target = false) := by
      show hitB _ _ _ = _
      unfold hitB; rw [look_none hno]
    clear hno
    go_wp2_with fail
    go_quiet (fail)
    go_wp2
    go_ret
    exact ⟨by rw [HL.out]; rfl, hff.drewN _⟩
end Go.Proofs.YtapabahhfanmmaaDoor
/- The signs of a map; a goal's own cell; no ways yet. -/
namespace Go.Proofs.YtapabahhfanmmaaDoor
open Go.RowKit

/-- What a sign says: ground, owner, known. -/
def sign (s : Int) : Int × Int × Bool :=
  if s = 46 then (0, -1, true) else if s = 35 then (10, -1, true) else if 49 ≤ s ∧ s ≤ 57 then (s - 48, -1, true) else if s = 65 then (0, 0, true) else if s = 66 then (0, 1, true) else (0, -1, false)

set_option maxRecDepth 100000 in
set_option maxHeartbeats 400000 in
theorem readSign_any (s : Int) (w : World) (h0 : 0 ≤ s) (h1 : s ≤ 255) :
    Calls Tryd.prog 54 #[.int .u8 s] w fun e w' => e = .returned (.tuple #[.int .i64 (sign s).1, .int .i64 (sign s).2.1, .bool (sign s).2.2]) ∧ w = w' := by
  by_cases a : s = 46
  · subst a
    go_enter Tryd.func54, Tryd.ntmps54
    go_wp2
    go_ret3
    exact ⟨rfl, rfl⟩
  by_cases b : s = 35
  · subst b
    go_enter Tryd.func54, Tryd.ntmps54
    go_wp2
    go_ret3
    exact ⟨rfl, rfl⟩
  have ha : (s == 46) = false := by simp [a]
  have hb : (s == 35) = false := by simp [b]
  by_cases c : 49 ≤ s ∧ s ≤ 57
  · have HS : Hid (sign s = (s - 48, -1, true)) := by show sign s = _; unfold sign; rw [if_neg a, if_neg b, if_pos c]
    obtain ⟨c1, c2⟩ := c
    clear a b
    go_enter Tryd.func54, Tryd.ntmps54
    go_wp2
    go_ret3
    exact ⟨by rw [HS.out]; rfl, rfl⟩
  by_cases d : s = 65
  · subst d
    go_enter Tryd.func54, Tryd.ntmps54
    go_wp2
    go_ret3
    exact ⟨rfl, rfl⟩
  by_cases e : s = 66
  · subst e
    go_enter Tryd.func54, Tryd.ntmps54
    go_wp2
    go_ret3
    exact ⟨rfl, rfl⟩
  have hd : (s == 65) = false := by simp [d]
  have he : (s == 66) = false := by simp [e]
  have HS : Hid (sign s = (0, -1, false)) := by show sign s = _; unfold sign; rw [if_neg a, if_neg b, if_neg c, if_neg d, if_neg e]
  by_cases f : 49 ≤ s
  · have f2 : ¬ s ≤ 57 := by omega
    clear a b c d e
    go_enter Tryd.func54, Tryd.ntmps54
    go_wp2
    go_ret3
    exact ⟨by rw [HS.out]; rfl, rfl⟩
  · clear a b c d e
    go_enter Tryd.func54, Tryd.ntmps54
    go_wp2
    go_ret3
    exact ⟨by rw [HS.out]; rfl, rfl⟩

set_option maxRecDepth 100000 in
set_option maxHeartbeats 400000 in
theorem goal_any (x y gx gy : Int) (gb : Nat) (w : World) (hx : w.cell? ⟨gb, 0, none⟩ = some (ii gx)) (hy : w.cell? ⟨gb, 1, none⟩ = some (ii gy)) :
    Calls Tryd.prog 86 #[cv x y, .pointer (some ⟨gb, 0, none⟩)] w fun e w' => e = .returned (.bool (x == gx && y == gy)) ∧ Fr [] w w' := by
  have hgb := lt_of_cell hx
  obtain ⟨B, hB⟩ : ∃ B, (x == gx && y == gy) = B := ⟨_, rfl⟩
  have HB := (show Hid _ from hB)
  rw [hB]
  clear hB
  go_enter Tryd.func86, Tryd.ntmps86
  go_wp2_with (refine wpList_eqlCell rfl _ _ _ _ rfl rfl x y gx gy rfl rfl B HB.out ?_)
  go_ret
  exact ⟨rfl, (Fr.refl _ _).alloc _⟩

set_option maxHeartbeats 400000 in
theorem newWays_any (w : World) :
    Calls Tryd.prog 44 #[] w fun e w' => e = .returned (.agg #[.map (some (w.heap.size + 1))]) ∧ (w.alloc (.cells #[.map (some (w.heap.size + 1))] 87)).alloc (.map #[] 0) = w' := by
  have hmm := @run_makeMap Tryd.prog
  go_enter Tryd.func44, Tryd.ntmps44
  go_wp2
  exact bodyPost_ret (v := .agg #[.map (some (w.heap.size + 1))]) (by simp [results, Tryd.results44, go_sem]) rfl ⟨rfl, rfl⟩
end Go.Proofs.YtapabahhfanmmaaDoor
