import Derived.Test.YtapabahhfanmmaaDoorCStepA
import Derived.Laws.CopyOwn
import Derived.Test.YtapabahhfanmmaaDoorCNbr
import Derived.Test.YtapabahhfanmmaaDoorCTakes
/- A turn that is being played, in memory. -/
namespace Go.Proofs.YtapabahhfanmmaaDoor
open Go.RowKit

/-- A turn: the game, and who holds which cell. -/
structure T where
  turn : Int
  next : Int
  s0 : Int
  s1 : Int
  bd : Nat → Int
  us : List U
  held : Cl → Option Int

abbrev heldV (h : Cl → Option Int) : Int × Int → Option Value := fun k => (h k).map fun i => ii i

/-- The cell of a turn's block at an offset. -/
def tcell (t : T) (pv : Value) (hb bb : Nat) (k : Nat) : Value :=
  if k = 0 then ii t.turn else if k = 1 then ii t.next else if k = 2 then ii t.s0 else if k = 3 then ii t.s1 else if k < 148 then ii (t.bd (k - 4)) else if k = 148 then pv else if k = 149 then .map (some hb) else .map (some bb)

/-- The people's row: block pb has room for cap of them. -/
structure PRow (w : World) (pb cap : Nat) (us : List U) : Prop where
  h : ∃ cur : Array Value, w.heap[pb]? = some (.cells cur 44 (0, 0)) ∧ cur.size = cap * 11 ∧ cur.toList.take (us.length * 11) = us.flatMap U.cells
  le : us.length ≤ cap
  cap : cap ≤ maxLen

structure TS (w : World) (tb pb cap hb bb : Nat) (t : T) : Prop where
  cell : ∀ k, k < 151 → w.cell? ⟨tb, k, none⟩ = some (tcell t (.slice (some ⟨pb, 0, none⟩) t.us.length cap) hb bb k)
  fz : ∀ k, w.frozen? ⟨tb, k, none⟩ = false
  row : PRow w pb cap t.us
  len : t.us.length ≤ 1000
  held : MapF w hb (heldV t.held)
  ways : MapF w bb (fun _ => none)
  n1 : tb ≠ pb
  n2 : tb ≠ hb
  n3 : tb ≠ bb
  n4 : pb ≠ hb
  n5 : pb ≠ bb
  n6 : hb ≠ bb
  z : 0 < tb ∧ 0 < pb ∧ 0 < hb ∧ 0 < bb

theorem flat_at {us : List U} {i : Nat} {u : U} (h : us[i]? = some u) (j : Nat) (hj : j < 11) : (us.flatMap U.cells)[i * 11 + j]? = u.cells[j]? := by
  induction us generalizing i with
  | nil => simp at h
  | cons a us ih =>
    cases i with
    | zero =>
      simp at h
      subst h
      rw [List.flatMap_cons, List.getElem?_append_left (by simp; omega)]
      simp
    | succ i =>
      have := ih (i := i) (by simpa using h)
      rw [List.flatMap_cons, List.getElem?_append_right (by simp; omega)]
      rw [← this]
      congr 1
      simp
      omega
theorem PRow.ppl {w : World} {pb cap : Nat} {us : List U} (h : PRow w pb cap us) : Ppl w pb us := by
  obtain ⟨cur, hh, hs, ht⟩ := h.h
  intro i hi j v hv
  have hj : j < 11 := by have := (List.getElem?_eq_some_iff.1 hv).1; simpa using this
  have h1 := flat_at (List.getElem?_eq_getElem hi) j hj
  rw [← ht, List.getElem?_take_of_lt (by omega), hv] at h1
  rw [cell_of_heap hh]
  simpa using h1
theorem PRow.fr {S : List Nat} {w w' : World} {pb cap : Nat} {us : List U} (h : PRow w pb cap us) (hf : Fr S w w') (hn : pb ∉ S) : PRow w' pb cap us := by
  obtain ⟨⟨cur, hh, r⟩, h2, h3⟩ := h
  exact ⟨⟨cur, hf.heap hh hn, r⟩, h2, h3⟩
theorem PRow.lt {w : World} {pb cap : Nat} {us : List U} (h : PRow w pb cap us) : pb < w.heap.size := by
  obtain ⟨cur, hh, _⟩ := h.h
  exact lt_of_heap hh
theorem TS.lt {w : World} {tb pb cap hb bb : Nat} {t : T} (h : TS w tb pb cap hb bb t) : tb < w.heap.size := lt_of_cell (h.cell 0 (by omega))
theorem TS.fr {S : List Nat} {w w' : World} {tb pb cap hb bb : Nat} {t : T} (h : TS w tb pb cap hb bb t) (hf : Fr S w w') (h1 : tb ∉ S) (h2 : pb ∉ S) (h3 : hb ∉ S) (h4 : bb ∉ S) : TS w' tb pb cap hb bb t :=
  { h with
    cell := fun k hk => by rw [hf.cell tb k h.lt h1]; exact h.cell k hk
    fz := fun k => by rw [hf.frozen tb k h.lt h1]; exact h.fz k
    row := h.row.fr hf h2
    held := h.held.fr hf h3
    ways := h.ways.fr hf h4 }
theorem TS.fr0 {w w' : World} {tb pb cap hb bb : Nat} {t : T} (h : TS w tb pb cap hb bb t) (hf : Fr [] w w') : TS w' tb pb cap hb bb t := h.fr hf (by simp) (by simp) (by simp) (by simp)
theorem TS.gv {w : World} {tb pb cap hb bb : Nat} {t : T} (h : TS w tb pb cap hb bb t) : GV w tb pb cap t.us :=
  ⟨by have := h.cell 148 (by omega); simpa [tcell] using this, h.row.ppl, h.len⟩
theorem TS.tv {w : World} {tb pb cap hb bb : Nat} {t : T} (h : TS w tb pb cap hb bb t) : TV w tb hb (heldV t.held) t.bd :=
  ⟨by have := h.cell 149 (by omega); simpa [tcell] using this, h.held, fun i hi => by
    have := h.cell (4 + i) (by omega)
    rw [this]
    unfold tcell
    rw [if_neg (by omega), if_neg (by omega), if_neg (by omega), if_neg (by omega), if_pos (by omega), show 4 + i - 4 = i by omega]⟩
theorem TS.c150 {w : World} {tb pb cap hb bb : Nat} {t : T} (h : TS w tb pb cap hb bb t) : w.cell? ⟨tb, 150, none⟩ = some (.map (some bb)) := by
  have := h.cell 150 (by omega); simpa [tcell] using this
end Go.Proofs.YtapabahhfanmmaaDoor
/- A copy of the people's list. -/
namespace Go.Proofs.YtapabahhfanmmaaDoor
open Go.RowKit

theorem infoU : (Tryd.prog.info? 44).map (fun i => (i.zero, i.size, i.bytes)) = some (some zeroU.val, 11, 88) := by kernel_rfl
theorem flat_len (us : List U) : (us.flatMap U.cells).length = us.length * 11 := by
  induction us with
  | nil => rfl
  | cons a us ih => rw [List.flatMap_cons, List.length_append, ih]; simp; omega
theorem flat_one (us : List U) : ∀ v ∈ us.flatMap U.cells, v.oneCell' = true := by
  intro v hv
  obtain ⟨u, _, hu⟩ := List.mem_flatMap.1 hv
  simp at hu
  rcases hu with rfl | rfl | rfl | rfl | rfl | rfl | rfl | rfl | rfl | rfl | rfl <;> rfl
theorem PRow.of_owns {w : World} {base n : Nat} {v : Value} {us : List U} (h : w.ownsRow base 44 11 v n (us.flatMap U.cells)) (hn : n = us.length) (hp : 0 < n) : ∃ pb cap, v = .slice (some ⟨pb, 0, none⟩) us.length cap ∧ base ≤ pb ∧ PRow w pb cap us := by
  subst hn
  obtain ⟨_, h2⟩ := h
  rcases h2 with ⟨_, h3⟩ | ⟨g, cap, cur, rfl, hb, hg, h4, h5, h6, h7⟩
  · omega
  · exact ⟨g, cap, rfl, hb, ⟨⟨cur, hg, h6, h7⟩, h4, h5⟩⟩

set_option maxRecDepth 100000 in
set_option maxHeartbeats 1000000 in
theorem clone_any (pb cap : Nat) (us : List U) (w : World) (hp : PRow w pb cap us) (hlen : us.length ≤ 1000) (hne : 0 < us.length) :
    Calls Tryd.prog 25 #[.slice (some ⟨pb, 0, none⟩) us.length cap] w fun e w' => ∃ pb' cap', e = .returned (.slice (some ⟨pb', 0, none⟩) us.length cap') ∧ w.heap.size ≤ pb' ∧ PRow w' pb' cap' us ∧ Fr [] w w' := by
  obtain ⟨inf, hi, hz0, hz1, hz2⟩ := info_parts infoU
  have hnil : ∀ w0 : World, (binOp BinOp.eql 41 (.slice (some ⟨pb, 0, none⟩) us.length cap) (.slice none 0 0)).run Tryd.prog w0 = .ok (.bool false) w0 := fun w0 => by kernel_rfl
  obtain ⟨cur, hh, hs, ht⟩ := hp.h
  have hnews : ∀ (W : World), W.heap[pb]? = w.heap[pb]? → ∀ j u, (us.flatMap U.cells)[j]? = some u → W.cell? ((⟨pb, 0, none⟩ : Addr).add j) = some u := by
    intro W hW j u hu
    have hadd : ((⟨pb, 0, none⟩ : Addr).add j) = ⟨pb, j, none⟩ := by unfold Addr.add; split <;> simp_all
    have hj : j < us.length * 11 := by rw [← flat_len us]; exact (List.getElem?_eq_some_iff.1 hu).1
    rw [hadd, cell_of_heap (hW.trans hh)]
    rw [← ht, List.getElem?_take_of_lt hj] at hu
    simpa using hu
  have HN := (show Hid _ from hnews)
  have hpl := lt_of_heap hh
  clear hnews hh hs ht
  have hown0 : (w.alloc (.cells #[] 44)).ownsRow w.heap.size 44 11 (.slice (some ⟨w.heap.size, 0, none⟩) 0 0) 0 [] := ⟨rfl, Or.inr ⟨_, 0, #[], rfl, Nat.le_refl _, hp_new _ _, Nat.le_refl _, by decide, rfl, rfl⟩⟩
  go_enter Tryd.func25, Tryd.ntmps25
  go_wp2_with (first
    | (at_builtin; refine wpList_append_own _ rfl _ _ 41 rfl w.heap.size 44 inf zeroU.val 11 88 Tryd.underlying41 hi hz0 hz1 hz2 rfl (by decide) (.slice (some ⟨w.heap.size, 0, none⟩) 0 0) 0 [] rfl hown0 ⟨pb, 0, none⟩ us.length cap (us.flatMap U.cells) rfl (flat_len us) (HN.out _ (hp_old _ _ _ hpl)) (flat_one us) (by unfold maxLen; omega) (by omega) (by simp) ?_; intro v' w2 hown2 hgrow hnil2)
    | fail)
  go_ret
  simp only [Nat.zero_add, List.nil_append] at hown2
  obtain ⟨pb', cap', hv, hb, hrow⟩ := PRow.of_owns hown2 rfl hne
  refine ⟨pb', cap', ?_, hb, hrow, ?_⟩
  · rw [← hv]; rfl
  · exact ((Fr.refl [] w).alloc _).grown hgrow (fun k hk => Or.inr (by simp [Value.ownBlock] at hk; omega))
end Go.Proofs.YtapabahhfanmmaaDoor
/- A game in memory; what can be asked of it. -/
namespace Go.Proofs.YtapabahhfanmmaaDoor
open Go.RowKit

structure GS (w : World) (gb pb cap : Nat) (t : T) : Prop where
  cell : ∀ k, k < 149 → w.cell? ⟨gb, k, none⟩ = some (tcell t (.slice (some ⟨pb, 0, none⟩) t.us.length cap) 0 0 k)
  fz : ∀ k, w.frozen? ⟨gb, k, none⟩ = false
  row : PRow w pb cap t.us
  len : t.us.length ≤ 1000
  ne : 0 < t.us.length
  n1 : gb ≠ pb
  z : 0 < gb ∧ 0 < pb
theorem GS.lt {w : World} {gb pb cap : Nat} {t : T} (h : GS w gb pb cap t) : gb < w.heap.size := lt_of_cell (h.cell 0 (by omega))
theorem GS.fr {S : List Nat} {w w' : World} {gb pb cap : Nat} {t : T} (h : GS w gb pb cap t) (hf : Fr S w w') (h1 : gb ∉ S) (h2 : pb ∉ S) : GS w' gb pb cap t :=
  { h with
    cell := fun k hk => by rw [hf.cell gb k h.lt h1]; exact h.cell k hk
    fz := fun k => by rw [hf.frozen gb k h.lt h1]; exact h.fz k
    row := h.row.fr hf h2 }
theorem GS.gv {w : World} {gb pb cap : Nat} {t : T} (h : GS w gb pb cap t) : GV w gb pb cap t.us :=
  ⟨by have := h.cell 148 (by omega); simpa [tcell] using this, h.row.ppl, h.len⟩

set_option maxHeartbeats 400000 in
theorem there_any (gb : Nat) (w : World) :
    Calls Tryd.prog 22 #[.pointer (some ⟨gb, 0, none⟩)] w fun e w' => e = .returned (.pointer (some ⟨gb, 0, none⟩)) ∧ w = w' := by
  go_enter Tryd.func22, Tryd.ntmps22
  go_wp2
  go_ret
  exact ⟨rfl, rfl⟩

set_option maxHeartbeats 400000 in
theorem people_any (gb pb cap : Nat) (t : T) (w : World) (h : GS w gb pb cap t) :
    Calls Tryd.prog 13 #[.pointer (some ⟨gb, 0, none⟩)] w fun e w' => ∃ pb' cap', e = .returned (.slice (some ⟨pb', 0, none⟩) t.us.length cap') ∧ w.heap.size ≤ pb' ∧ PRow w' pb' cap' t.us ∧ Fr [] w w' := by
  have hc := h.gv.c
  go_enter Tryd.func13, Tryd.ntmps13
  go_wp2_with (first | (go_at_call 22; refine (there_any gb _).mono ?_; rintro e w1 ⟨rfl, rfl⟩) | (go_at_call 25; refine (clone_any pb cap t.us _ h.row h.len h.ne).mono ?_; rintro e w1 ⟨pb', cap', rfl, hb, hr, hf⟩))
  go_ret
  exact ⟨pb', cap', rfl, hb, hr, hf⟩
end Go.Proofs.YtapabahhfanmmaaDoor
