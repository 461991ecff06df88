import Derived.Test.YtapabahhfanmmaaDoorCGame
import Derived.Deep.RegionLaw
import Derived.Lib.SliceRun
import Derived.Test.YtapabahhfanmmaaDoorCMine
import Derived.Deep.MidRow
/- One of the people taken out of the list. -/
namespace Go.Proofs.YtapabahhfanmmaaDoor
open Go.RowKit

theorem step_append_row {P : Program} {ops : Array Oper} {o : Oper} {a : Act} {w : World} {K : Act → World → Prop} {Q : Exit → Act → World → Prop} {E : Prop}
    (hg : o.guard = none) (s x : Operand) (t : TypeId) (hop : o.op = Op.call { callee := Callee.builtin Builtin.append, args := #[s, x], argTypes := #[t, t] })
    (e : TypeId) (i : TypeInfo) (size : Nat) (h1 : P.underlying t = some (.slice e)) (h2 : P.info? e = some i) (h4 : i.size = size)
    (b n cap : Nat) (cur : Array Value) (hb : w.heap[b]? = some (.cells cur e (0, 0))) (hs : a.eval s = .slice (some ⟨b, 0, none⟩) n cap)
    (ad : Addr) (m c : Nat) (news : List Value) (hx : a.eval x = .slice (some ad) m c) (hn : news.length = m * size) (hc : ∀ j u, news[j]? = some u → w.cell? (ad.add j) = some u) (h1c : ∀ u ∈ news, u.oneCell' = true)
    (hroom : n + m ≤ cap) (hfit : n * size + news.length ≤ cur.size)
    (hK : K (a.put o.dst (.slice (some ⟨b, 0, none⟩) (n + m) cap)) (w.setRow b (cur.toList.take (n * size) ++ news ++ cur.toList.drop (n * size + news.length)).toArray)) :
    if Region.wanted o (yielded ops a.tmps) = true then Oper.wp P o a w K Q else E := by
  have hw : Region.wanted o (yielded ops a.tmps) = true := by simp [Region.wanted, hg]
  rw [if_pos hw]
  subst h4
  have hrun := run_append_room (P := P) w t o.type e i h1 h2 b n cap cur hb ad m c news hn hc h1c hroom hfit
  unfold Oper.wp
  simp only [execOp, hop, resolve, invoke, builtin, Sem.run_bind, Sem.run_pure, Result.andThen_ok, List.map_toArray, List.map_cons, List.map_nil, hs, hx, hrun]
  exact hK

theorem flat_take (us : List U) (i : Nat) : (us.take i).flatMap U.cells = (us.flatMap U.cells).take (i * 11) := by
  induction us generalizing i with
  | nil => simp
  | cons a us ih =>
    cases i with
    | zero => simp
    | succ i =>
      have h : (a.cells).length = 11 := rfl
      rw [List.take_succ_cons, List.flatMap_cons, List.flatMap_cons, ih, List.take_append, List.take_of_length_le (l := a.cells) (by omega), h, show (i + 1) * 11 - 11 = i * 11 by omega]
theorem flat_drop (us : List U) (i : Nat) : (us.drop i).flatMap U.cells = (us.flatMap U.cells).drop (i * 11) := by
  induction us generalizing i with
  | nil => simp
  | cons a us ih =>
    cases i with
    | zero => simp
    | succ i =>
      have h : (a.cells).length = 11 := rfl
      rw [List.drop_succ_cons, List.flatMap_cons, ih, List.drop_append, List.drop_of_length_le (l := a.cells) (by omega), List.nil_append, h, show (i + 1) * 11 - 11 = i * 11 by omega]
theorem zeros11 : (Builtin.zeroCells zeroU.val.cells 1).toList = zeroU.cells := by kernel_rfl
theorem run_clear_one (w : World) (ty : TypeId) (b o c : Nat) (cur : Array Value) (hb : w.heap[b]? = some (.cells cur 44 (0, 0))) (ho : o + 11 ≤ cur.size) :
    (Builtin.clear_ #[41] ty #[.slice (some ⟨b, o, none⟩) 1 c]).run Tryd.prog w = .ok (.tuple #[]) (w.setRow b (cur.toList.take o ++ zeroU.cells ++ cur.toList.drop (o + 11)).toArray) := by
  have hst := run_storeCells_at Tryd.prog b o 44 zeroU.cells 0 cur w hb (by simpa using ho) (by simp [Value.oneCell'])
  simp only [Nat.add_zero] at hst
  have hz := zeros11
  simp [Builtin.clear_, run_underlying Tryd.underlying41, Tryd.zeroValue44, hz, hst]

set_option maxRecDepth 100000 in
set_option maxHeartbeats 1000000 in
theorem delete_any (pb cap i : Nat) (us : List U) (w : World) (hp : PRow w pb cap us) (hlen : us.length ≤ 1000) (hi : i < us.length) :
    Calls Tryd.prog 92 #[.slice (some ⟨pb, 0, none⟩) us.length cap, .int .i64 i, .int .i64 (i + 1 : Nat)] w fun e w' => e = .returned (.slice (some ⟨pb, 0, none⟩) (us.length - 1) cap) ∧ PRow w' pb cap (us.eraseIdx i) ∧ Fr [pb] w w' := by
  obtain ⟨inf, hi0, hz0, hz1, hz2⟩ := info_parts infoU
  obtain ⟨cur, hh, hs, ht⟩ := hp.h
  have hle := hp.le
  have hcm := hp.cap
  unfold maxLen at hcm
  have hpl := lt_of_heap hh
  obtain ⟨news, hnews⟩ : ∃ news, news = (us.flatMap U.cells).drop ((i + 1) * 11) := ⟨_, rfl⟩
  have hnl : news.length = (us.length - (i + 1)) * 11 := by rw [hnews, List.length_drop, flat_len, Nat.sub_mul]
  have hsrc : ∀ j v, news[j]? = some v → w.cell? ⟨pb, (i + 1) * 11 + j, none⟩ = some v := by
    intro j v hv
    have hj : j < (us.length - (i + 1)) * 11 := by rw [← hnl]; exact (List.getElem?_eq_some_iff.1 hv).1
    rw [hnews, List.getElem?_drop, ← ht, List.getElem?_take_of_lt (by omega)] at hv
    rw [cell_of_heap hh]
    simpa using hv
  obtain ⟨A, hA, hsr⟩ : ∃ A : Addr, (if cap = i + 1 then some (⟨pb, 0, none⟩ : Addr) else some ⟨pb, (i + 1) * 11, none⟩) = some A ∧ Hid (∀ t v, news[t]? = some v → w.drew.cell? (A.add t) = some v) := by
    by_cases h : cap = i + 1
    · refine ⟨⟨pb, 0, none⟩, by simp [h], fun t u hu => ?_⟩
      have h0 : news.length = 0 := by rw [hnl]; omega
      rw [List.length_eq_zero_iff.1 h0] at hu
      simp at hu
    · refine ⟨⟨pb, (i + 1) * 11, none⟩, by simp [h], fun t u hu => ?_⟩
      rw [Addr.add_lit]
      exact hsrc t u hu
  have s1 : Hid (news.length = (us.length - (i + 1)) * 11) := hnl
  have s2 : Hid (∀ u ∈ news, u.oneCell' = true) := by
    intro u hu
    rw [hnews] at hu
    exact flat_one us u (List.mem_of_mem_drop hu)
  obtain ⟨cur1, hc1⟩ : ∃ c, c = (cur.toList.take (i * 11) ++ news ++ cur.toList.drop (i * 11 + news.length)).toArray := ⟨_, rfl⟩
  have hz1s : cur1.size = cap * 11 := by rw [hc1]; simp [hs]; omega
  obtain ⟨W1, hW1⟩ : ∃ W1, W1 = w.drew.setRow pb cur1 := ⟨_, rfl⟩
  have hb1 : W1.heap[pb]? = some (.cells cur1 44 (0, 0)) := by rw [hW1]; exact setRow_heap _ _ _ _ _ _ hh
  have hn1 : i + (us.length - (i + 1)) = us.length - 1 := by omega
  have hn2 : us.length - (i + (us.length - (i + 1))) = 1 := by omega
  have hcl : ∀ ty, (Builtin.clear_ #[41] ty #[.slice (some ⟨pb, (i + (us.length - (i + 1))) * 11, none⟩) (us.length - (i + (us.length - (i + 1)))) (cap - (i + (us.length - (i + 1))))]).run Tryd.prog W1 = .ok (.tuple #[]) (W1.setRow pb (cur1.toList.take ((us.length - 1) * 11) ++ zeroU.cells ++ cur1.toList.drop ((us.length - 1) * 11 + 11)).toArray) :=
    fun ty => by rw [hn2, hn1]; exact run_clear_one W1 ty pb _ _ cur1 hb1 (by omega)
  clear hn1 hn2
  have HF : Hid (i * 11 + news.length ≤ cur.size) := by show _ ≤ _; omega
  have HH := (show Hid _ from hh)
  have HW : Hid (W1 = w.drew.setRow pb (cur.toList.take (i * 11) ++ news ++ cur.toList.drop (i * 11 + news.length)).toArray) := by show _ = _; rw [hW1, hc1]
  have HHW : Hid (W1 = w.drew.setRow pb cur1) := hW1
  have HC := (show Hid _ from hc1)
  have HB1 := (show Hid _ from hb1)
  have HT := (show Hid _ from ht)
  have HS := (show Hid _ from hs)
  have HZ := (show Hid _ from hz1s)
  have HN := (show Hid _ from hnews)
  clear hW1 hc1 hb1 hnews hsrc ht hs hz1s hnl
  have hic : i ≤ cap := by omega
  have hjc : i + 1 ≤ cap := by omega
  have hjn : i + 1 ≤ us.length := hi
  have hq1 : (0 : Int) ≤ (i : Int) + 1 := by omega
  have hq2 : (i : Int) + 1 ≤ (us.length : Int) := by omega
  go_enter Tryd.func92, Tryd.ntmps92
  go_wp2_with fail
  go_region_law (refine step_append_row rfl (.tmp 22) (.tmp 25) 41 rfl 44 inf 11 Tryd.underlying41 hi0 hz1 pb i cap cur HH.out (by simp [Act.eval, Act.put]) A (us.length - (i + 1)) (cap - (i + 1)) news (by simp [Act.eval, Act.put]) s1.out hsr.out s2.out (by omega) HF.out ?_; rw [← HW.out])
  go_wp2_with fail
  go_ret
  have hel : (us.eraseIdx i).length = us.length - 1 := by rw [List.length_eraseIdx]; simp [hi]
  refine ⟨by rw [show us.length - 1 = i + (us.length - (i + 1)) by omega]; rfl, ⟨⟨_, setRow_heap _ _ _ _ _ _ HB1.out, ?_, ?_⟩, by omega, hp.cap⟩, ?_⟩
  · have := HZ.out
    simp
    omega
  · have h1 := HZ.out
    have h2 := HC.out
    have h3 := HT.out
    have h4 := HN.out
    have h5 := s1.out
    have h6 := HS.out
    have e1 : (us.eraseIdx i).flatMap U.cells = cur.toList.take (i * 11) ++ news := by
      rw [List.eraseIdx_eq_take_drop_succ, List.flatMap_append, h4]
      rw [flat_take, flat_drop, ← h3, List.take_take]
      congr 2
      omega
    rw [hel, e1]
    have e2 : (cur.toList.take (i * 11) ++ news).length = (us.length - 1) * 11 := by
      simp [h5, h6]; omega
    show List.take _ (_ ++ _) = _
    rw [List.take_append_of_le_length (by simp [h1]; omega), List.take_take, Nat.min_self, h2]
    show List.take _ (_ ++ _ ++ _) = _
    rw [List.take_append_of_le_length (by omega), List.take_of_length_le (by omega)]
  · rw [HHW.out]
    exact (((Fr.refl _ _).drew).setRow _ _ (by simp)).setRow _ _ (by simp)
end Go.Proofs.YtapabahhfanmmaaDoor
/- Writing into the people's row. -/
namespace Go.Proofs.YtapabahhfanmmaaDoor
open Go.RowKit

theorem take_set_succ {α : Type} : ∀ (l : List α) (o : Nat) (v : α), o < l.length → (l.set o v).take (o + 1) = l.take o ++ [v]
  | [], _, _, h => by simp at h
  | a :: l, 0, v, _ => by simp
  | a :: l, o + 1, v, h => by simp [take_set_succ l o v (by simpa using h)]
theorem drop_set_gt {α : Type} : ∀ (l : List α) (o n : Nat) (v : α), o < n → (l.set o v).drop n = l.drop n
  | [], _, _, _, _ => by simp
  | a :: l, 0, n + 1, v, _ => by simp
  | a :: l, o + 1, n + 1, v, h => by simp [drop_set_gt l o n v (by omega)]
theorem set_cells_heap (b : Nat) (t : TypeId) : ∀ (vs : List Value) (o : Nat) (cur : Array Value) (w : World), w.heap[b]? = some (.cells cur t) → o + vs.length ≤ cur.size → (w.setCells b o vs).heap[b]? = some (.cells (cur.toList.take o ++ vs ++ cur.toList.drop (o + vs.length)).toArray t)
  | [], o, cur, w, h, _ => by
    show w.heap[b]? = _
    rw [h]
    simp
  | v :: r, o, cur, w, h, hl => by
    have h1 := set_arr h o v
    simp only [List.length_cons] at hl
    have h2 := set_cells_heap b t r (o + 1) _ _ h1 (by rw [Array.size_setIfInBounds]; omega)
    show ((w.setCell ⟨b, o, none⟩ v).setCells b (o + 1) r).heap[b]? = _
    rw [h2]
    congr 2
    have ho : o < cur.toList.length := by rw [Array.length_toList]; omega
    rw [Array.toList_setIfInBounds, take_set_succ _ _ _ ho, drop_set_gt _ _ _ _ (by omega), List.length_cons, show o + 1 + r.length = o + (r.length + 1) by omega]
    simp
theorem Fr.setCells {S : List Nat} {a : World} (b : Nat) : ∀ (vs : List Value) (o : Nat) (c : World), Fr S a c → (b ∈ S ∨ a.heap.size ≤ b) → Fr S a (c.setCells b o vs)
  | [], _, _, h, _ => h
  | v :: r, o, _, h, hb => Fr.setCells b r (o + 1) _ (h.setCell ⟨b, o, none⟩ v hb) hb
theorem flat_put (us : List U) (i : Nat) (u' : U) (hi : i < us.length) : (us.set i u').flatMap U.cells = (us.flatMap U.cells).take (i * 11) ++ u'.cells ++ (us.flatMap U.cells).drop (i * 11 + 11) := by
  rw [List.set_eq_take_append_cons_drop, if_pos hi, List.flatMap_append, List.flatMap_cons, flat_take, flat_drop, List.append_assoc, show (i + 1) * 11 = i * 11 + 11 by omega]
theorem PRow.there {w : World} {pb cap i : Nat} {us : List U} (h : PRow w pb cap us) (hi : i < us.length) : w.there pb (i * 11) 11 := by
  obtain ⟨cur, hh, hs, ht⟩ := h.h
  have hle := h.le
  intro j hj
  refine ⟨?_, frozen_of_heap hh⟩
  rw [cell_of_heap hh, Array.getElem?_eq_getElem (by omega)]
  rfl
theorem PRow.put {w : World} {pb cap i : Nat} {us : List U} (h : PRow w pb cap us) (hi : i < us.length) (u' : U) : PRow (w.setCells pb (i * 11) u'.cells) pb cap (us.set i u') := by
  obtain ⟨cur, hh, hs, ht⟩ := h.h
  have hle := h.le
  have hcl : u'.cells.length = 11 := rfl
  refine ⟨⟨_, set_cells_heap pb _ u'.cells (i * 11) cur w hh (by omega), ?_, ?_⟩, by simpa using hle, h.cap⟩
  · simp; omega
  · rw [flat_put us i u' hi, List.length_set, ← ht]
    show List.take _ (_ ++ _ ++ _) = _
    rw [hcl, List.take_take, Nat.min_eq_left (by omega), List.drop_take]
    have e : (List.take (i * 11) cur.toList ++ u'.cells).length = i * 11 + 11 := by
      rw [List.length_append, List.length_take, hcl, Array.length_toList]; omega
    rw [List.take_append, e, List.take_of_length_le (by omega)]
theorem flat_set1 (v : Int) : ∀ (us : List U) (i : Nat) (u : U), us[i]? = some u → (us.flatMap U.cells).set (i * 11 + 5) (.int .i64 v) = (us.set i { u with life := v }).flatMap U.cells
  | [], i, u, h => by simp at h
  | a :: us, 0, u, h => by
    simp at h
    subst h
    simp
  | a :: us, i + 1, u, h => by
    have hl : (a.cells).length = 11 := rfl
    have ih := flat_set1 v us i u (by simpa using h)
    rw [List.set_cons_succ, List.flatMap_cons, List.flatMap_cons, ← ih, List.set_append, if_neg (by omega), hl, show (i + 1) * 11 + 5 - 11 = i * 11 + 5 by omega]
theorem PRow.life {w : World} {pb cap i : Nat} {us : List U} {u : U} (h : PRow w pb cap us) (hi : us[i]? = some u) (v : Int) : PRow (w.setCell ⟨pb, i * 11 + 5, none⟩ (.int .i64 v)) pb cap (us.set i { u with life := v }) := by
  obtain ⟨cur, hh, hs, ht⟩ := h.h
  refine ⟨⟨_, set_arr hh (i * 11 + 5) _, ?_, ?_⟩, by simpa using h.le, h.cap⟩
  · rw [Array.size_setIfInBounds]; exact hs
  · rw [List.length_set, ← flat_set1 v us i u hi, ← ht, Array.toList_setIfInBounds, List.take_set]
theorem PRow.fz {w : World} {pb cap : Nat} {us : List U} (h : PRow w pb cap us) (o : Nat) : w.frozen? ⟨pb, o, none⟩ = false := by
  obtain ⟨cur, hh, hs, ht⟩ := h.h
  exact frozen_of_heap hh
end Go.Proofs.YtapabahhfanmmaaDoor
