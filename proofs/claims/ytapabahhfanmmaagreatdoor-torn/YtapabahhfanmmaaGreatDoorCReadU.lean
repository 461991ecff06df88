import Derived.Test.YtapabahhfanmmaaGreatDoorCFrame
import Derived.Deep.RegionLaw
import Derived.Test.YtapabahhfanmmaaGreatDoorCOver
/- A reader of numbers. -/
namespace Go.Proofs.YtapabahhfanmmaaGreatDoor
open Go.RowKit

/-- A reader lies in memory: what is behind, and whether something was wrong. -/
structure RdAt (w : World) (rb : Nat) (l : List UInt8) (bad : Bool) : Prop where
  all : w.heap[rb]? = some (.cells #[.string ⟨l.toArray⟩, .bool bad] 252)
theorem RdAt.fr {S : List Nat} {w w' : World} {rb : Nat} {l : List UInt8} {bad : Bool} (h : RdAt w rb l bad) (hf : Fr S w w') (hn : rb ∉ S) : RdAt w' rb l bad := ⟨hf.heap h.all hn⟩
theorem RdAt.lt {w : World} {rb : Nat} {l : List UInt8} {bad : Bool} (h : RdAt w rb l bad) : rb < w.heap.size := lt_of_heap h.all
theorem fst_le : ∀ (f i s : Nat) (l : List UInt8), (fstT f i s l).2 ≤ i + l.length ∧ ((fstT f i s l).2 = 0 ∨ i < (fstT f i s l).2) ∧ (fstT f i s l).1 ≤ 1000000000
  | 0, _, _, _ => ⟨Nat.zero_le _, Or.inl rfl, Nat.zero_le _⟩
  | _ + 1, _, _, [] => ⟨Nat.zero_le _, Or.inl rfl, Nat.zero_le _⟩
  | f + 1, i, s, b :: l => by
    unfold fstT
    split
    · obtain ⟨h1, h2, h3⟩ := fst_le f (i + 1) (s + b.toNat % 128 * 128 ^ i) l
      refine ⟨by simp only [List.length_cons]; omega, by omega, h3⟩
    · split
      · exact ⟨Nat.zero_le _, Or.inl rfl, Nat.zero_le _⟩
      · refine ⟨by simp only [List.length_cons]; omega, Or.inr (by dsimp only; omega), by dsimp only; omega⟩
theorem first_le (l : List UInt8) : (firstT l).2 ≤ l.length ∧ (firstT l).1 ≤ 1000000000 := by
  obtain ⟨h1, _, h3⟩ := fst_le 5 0 0 l
  exact ⟨by have := h1; unfold firstT; omega, h3⟩
theorem str_drop (l : List UInt8) (n : Nat) : Value.string ((⟨l.toArray⟩ : ByteArray).extract n l.length) = .string ⟨(l.drop n).toArray⟩ := by
  congr 1
  apply ByteArray.ext
  simp [ByteArray.data_extract]
  exact List.take_of_length_le (by simp)

theorem set_arrR {w : World} {b : Nat} {cs : Array Value} {t : TypeId} (h : w.heap[b]? = some (.cells cs t)) (i : Nat) (x : Value) : (w.setCell ⟨b, i, none⟩ x).heap[b]? = some (.cells (cs.setIfInBounds i x) t) := by
  rw [setCell_eq_setRow w b i cs t (0, 0) x h]
  exact setRow_heap w b cs _ t (0, 0) h

set_option maxRecDepth 100000 in
set_option maxHeartbeats 2000000 in
theorem newReader_any (l : List UInt8) (w : World) :
    Calls Tryz.prog 123 #[.string ⟨l.toArray⟩] w fun e w' => ∃ rb, e = .returned (.pointer (some ⟨rb, 0, none⟩)) ∧ w.heap.size ≤ rb ∧ RdAt w' rb l false ∧ Fr [] w w' := by
  go_enter Tryz.func123, Tryz.ntmps123
  go_wp2_with fail
  go_ret
  exact ⟨_, rfl, Nat.le_refl _, ⟨hp_new _ _⟩, (Fr.refl _ _).alloc _⟩

set_option maxRecDepth 100000 in
set_option maxHeartbeats 2000000 in
theorem right_any (rb : Nat) (l : List UInt8) (bad : Bool) (w : World) (h : RdAt w rb l bad) :
    Calls Tryz.prog 131 #[.pointer (some ⟨rb, 0, none⟩)] w fun e w' => e = .returned (.bool (!bad)) ∧ Fr [] w w' := by
  have c1 : w.cell? ⟨rb, 1, none⟩ = some (.bool bad) := cell_of_heap h.all
  go_enter Tryz.func131, Tryz.ntmps131
  go_wp2_with fail
  go_ret
  exact ⟨rfl, Fr.refl _ _⟩

set_option maxRecDepth 100000 in
set_option maxHeartbeats 2000000 in
theorem next_any (rb : Nat) (l : List UInt8) (bad : Bool) (w : World) (h : RdAt w rb l bad) (hl : l.length ≤ 1000000) :
    Calls Tryz.prog 124 #[.pointer (some ⟨rb, 0, none⟩)] w fun e w' => e = .returned (.int .i64 (firstT l).1) ∧ RdAt w' rb (l.drop (firstT l).2) (bad || (firstT l).2 == 0) ∧ Fr [rb] w w' := by
  have c0 : w.cell? ⟨rb, 0, none⟩ = some (.string ⟨l.toArray⟩) := cell_of_heap h.all
  have c1 : w.cell? ⟨rb, 1, none⟩ = some (.bool bad) := cell_of_heap h.all
  have z0 : w.frozen? ⟨rb, 0, none⟩ = false := frozen_of_heap h.all
  have z1 : w.frozen? ⟨rb, 1, none⟩ = false := frozen_of_heap h.all
  obtain ⟨h1, h2⟩ := first_le l
  have hst := str_drop l (firstT l).2
  have hfi := first_any l w hl
  obtain ⟨⟨n, sz⟩, hF⟩ : ∃ F, firstT l = F := ⟨_, rfl⟩
  rw [hF] at h1 h2 hst hfi ⊢
  dsimp only at h1 h2 hst hfi ⊢
  have HL := h.lt
  have HA := (show Hid _ from h.all)
  clear h hF
  cases bad
  all_goals
    go_enter Tryz.func124, Tryz.ntmps124
    go_wp2_with (go_at_call 170; refine Calls.mono hfi ?_; rintro e w1 ⟨rfl, hf1⟩; obtain ⟨hc1, hz1⟩ := hf1.cells0)
    go_ret
    refine ⟨rfl, ⟨?_⟩, (hf1.of0.setCell _ _ (by simp)).setCell _ _ (by simp)⟩
    rw [set_arrR (set_arrR (hf1.heap0 HA.out) _ _) _ _]
    first | rfl | (cases sz <;> rfl)

set_option maxRecDepth 100000 in
set_option maxHeartbeats 2000000 in
theorem done_any (rb : Nat) (l : List UInt8) (bad : Bool) (w : World) (h : RdAt w rb l bad) :
    Calls Tryz.prog 126 #[.pointer (some ⟨rb, 0, none⟩)] w fun e w' => e = .returned (.bool (!bad && l.isEmpty)) ∧ Fr [] w w' := by
  have hr := right_any rb l bad w h
  have hlt := h.lt
  have c0 : w.cell? ⟨rb, 0, none⟩ = some (.string ⟨l.toArray⟩) := cell_of_heap h.all
  clear h
  cases bad
  · cases l with
    | nil =>
      go_enter Tryz.func126, Tryz.ntmps126
      go_wp2_with (go_at_call 131; refine Calls.mono hr ?_; rintro e w1 ⟨rfl, hf1⟩; obtain ⟨hc1, hz1⟩ := hf1.cells0)
      go_ret
      exact ⟨rfl, hf1⟩
    | cons b l =>
      go_enter Tryz.func126, Tryz.ntmps126
      go_wp2_with (go_at_call 131; refine Calls.mono hr ?_; rintro e w1 ⟨rfl, hf1⟩; obtain ⟨hc1, hz1⟩ := hf1.cells0)
      go_ret
      exact ⟨rfl, hf1⟩
  · go_enter Tryz.func126, Tryz.ntmps126
    go_wp2_with (go_at_call 131; refine Calls.mono hr ?_; rintro e w1 ⟨rfl, hf1⟩; obtain ⟨hc1, hz1⟩ := hf1.cells0)
    go_ret
    exact ⟨rfl, hf1⟩
end Go.Proofs.YtapabahhfanmmaaGreatDoor
/- Is a text the front of another? -/
namespace Go.Proofs.YtapabahhfanmmaaGreatDoor
open Go.RowKit

theorem loop_eq (bs : ByteArray) : ∀ (n i : Nat) (r : List UInt8), bs.size - i = n → ByteArray.toList.loop bs i r = r.reverse ++ bs.data.toList.drop i
  | 0, i, r, h => by
    have hs : bs.data.toList.length = bs.size := by rw [Array.length_toList]; rfl
    rw [ByteArray.toList.loop, if_neg (by omega), List.drop_eq_nil_of_le (by omega), List.append_nil]
  | n + 1, i, r, h => by
    have hs : bs.data.toList.length = bs.size := by rw [Array.length_toList]; rfl
    have hi : i < bs.data.toList.length := by omega
    rw [ByteArray.toList.loop, if_pos (by omega), loop_eq bs n (i + 1) _ (by omega), List.drop_eq_getElem_cons hi]
    have : bs.get! i = bs.data.toList[i] := by
      show bs.data[i]! = _
      rw [getElem!_pos bs.data i (by simpa using hi)]
      simp
    rw [this]
    simp
theorem toList_mk (l : List UInt8) : (⟨l.toArray⟩ : ByteArray).toList = l := by
  unfold ByteArray.toList
  rw [loop_eq _ _ _ _ rfl]
  simp
def isPre (q l : List UInt8) : Bool := decide (l.take q.length = q)
theorem str_take (l : List UInt8) (n : Nat) : Value.string ((⟨l.toArray⟩ : ByteArray).extract 0 n) = .string ⟨(l.take n).toArray⟩ := by
  congr 1
  apply ByteArray.ext
  simp [ByteArray.data_extract]
theorem bytes_beq (l q : List UInt8) : (((⟨l.toArray⟩ : ByteArray).extract 0 q.length).toList == (⟨q.toArray⟩ : ByteArray).toList) = decide (l.take q.length = q) := by
  have h1 : (⟨l.toArray⟩ : ByteArray).extract 0 q.length = ⟨(l.take q.length).toArray⟩ := by
    apply ByteArray.ext
    simp [ByteArray.data_extract]
  rw [h1, toList_mk, toList_mk]
  by_cases h : l.take q.length = q
  · rw [h]; simp
  · rw [decide_eq_false h]
    apply Bool.eq_false_iff.2
    intro e
    exact h (by simpa using e)

set_option maxRecDepth 100000 in
set_option maxHeartbeats 2000000 in
theorem hasPrefix_any (l q : List UInt8) (w : World) :
    Calls Tryz.prog 209 #[.string ⟨l.toArray⟩, .string ⟨q.toArray⟩] w fun e w' => e = .returned (.bool (isPre q l)) ∧ w = w' := by
  have hbe := bytes_beq l q
  have HB : Hid (isPre q l = decide (l.take q.length = q)) := rfl
  have HN : Hid (¬ q.length ≤ l.length → isPre q l = false) := fun h => by
    unfold isPre
    rw [decide_eq_false]
    intro e
    have := congrArg List.length e
    rw [List.length_take] at this
    omega
  obtain ⟨tq, htq⟩ : ∃ x : ByteArray, x = ⟨q.toArray⟩ := ⟨_, rfl⟩
  have hqs : tq.size = q.length := by rw [htq]; rfl
  rw [← htq] at hbe ⊢
  obtain ⟨B, hB⟩ : ∃ B, decide (l.take q.length = q) = B := ⟨_, rfl⟩
  rw [hB] at hbe HB
  clear htq hB
  by_cases hle : q.length ≤ l.length
  · have hlei : (q.length : Int) ≤ (l.length : Int) := by omega
    clear HN
    go_enter Tryz.func209, Tryz.ntmps209
    go_wp2_with fail
    go_ret
    exact ⟨by rw [HB.out]; rfl, rfl⟩
  · have hlei : ¬ (q.length : Int) ≤ (l.length : Int) := by omega
    have HN2 := (show Hid _ from HN.out hle)
    clear HN HB hbe
    go_enter Tryz.func209, Tryz.ntmps209
    go_wp2_with fail
    go_ret
    exact ⟨by rw [HN2.out]; rfl, rfl⟩

set_option maxRecDepth 100000 in
set_option maxHeartbeats 2000000 in
theorem liteCut_any (l q : List UInt8) (w : World) :
    Calls Tryz.prog 172 #[.string ⟨l.toArray⟩, .string ⟨q.toArray⟩] w fun e w' => e = .returned (.tuple #[.string ⟨(if isPre q l = true then l.drop q.length else l).toArray⟩, .bool (isPre q l)]) ∧ w = w' := by
  have hp := hasPrefix_any l q w
  have hst := str_drop l q.length
  have HLE : Hid (isPre q l = true → q.length ≤ l.length) := fun h => by
    unfold isPre at h
    have := congrArg List.length (of_decide_eq_true h)
    rw [List.length_take] at this
    omega
  obtain ⟨dl, hdl⟩ : ∃ x : ByteArray, x = ⟨(l.drop q.length).toArray⟩ := ⟨_, rfl⟩
  rw [← hdl] at hst
  have HDL := (show Hid _ from hdl)
  obtain ⟨tq, htq⟩ : ∃ x : ByteArray, x = ⟨q.toArray⟩ := ⟨_, rfl⟩
  have hqs : tq.size = q.length := by rw [htq]; rfl
  rw [← htq] at hp ⊢
  obtain ⟨B, hB⟩ : ∃ B, isPre q l = B := ⟨_, rfl⟩
  rw [hB] at hp HLE ⊢
  clear htq hB hdl
  cases B
  · go_enter Tryz.func172, Tryz.ntmps172
    go_wp2_with (go_at_call 209; refine Calls.mono hp ?_; rintro e w1 ⟨rfl, rfl⟩)
    go_ret2
    exact ⟨rfl, rfl⟩
  · have hle := HLE.out rfl
    have hlei : (q.length : Int) ≤ (l.length : Int) := by omega
    clear HLE
    go_enter Tryz.func172, Tryz.ntmps172
    go_wp2_with (go_at_call 209; refine Calls.mono hp ?_; rintro e w1 ⟨rfl, rfl⟩)
    go_ret2
    exact ⟨by rw [← HDL.out]; rfl, rfl⟩

set_option maxRecDepth 100000 in
set_option maxHeartbeats 2000000 in
theorem cutPrefix_any (l q : List UInt8) (w : World) :
    Calls Tryz.prog 129 #[.string ⟨l.toArray⟩, .string ⟨q.toArray⟩] w fun e w' => e = .returned (.tuple #[.string ⟨(if isPre q l = true then l.drop q.length else l).toArray⟩, .bool (isPre q l)]) ∧ w = w' := by
  have hp := liteCut_any l q w
  obtain ⟨R, hR⟩ : ∃ x : ByteArray, x = ⟨(if isPre q l = true then l.drop q.length else l).toArray⟩ := ⟨_, rfl⟩
  rw [← hR] at hp ⊢
  obtain ⟨B, hB⟩ : ∃ B, isPre q l = B := ⟨_, rfl⟩
  rw [hB] at hp ⊢
  clear hR hB
  go_enter Tryz.func129, Tryz.ntmps129
  go_wp2_with (go_at_call 172; refine Calls.mono hp ?_; rintro e w1 ⟨rfl, rfl⟩)
  go_ret2
  exact ⟨rfl, rfl⟩
end Go.Proofs.YtapabahhfanmmaaGreatDoor
/- A call as one step of a region that draws. -/
namespace Go.Proofs.YtapabahhfanmmaaGreatDoor
open Go.RowKit

theorem step_call1 {ops : Array Oper} {op : Oper} {a : Act} {w : World} {K : Act → World → Prop} {Q : Exit → Act → World → Prop} {E : Prop}
    (hg : op.guard = none) (n : Nat) (x : Nat) (ty : TypeId) (hop : op.op = Op.call { callee := Callee.value (Operand.func n), args := #[.tmp x], argTypes := #[ty] })
    (v : Value) (hx : a.tmps[x]?.getD undef = v) (hen : ∀ w, (callFunc n #[v]).run Tryz.prog w = .ok (.enter n #[v]) w) {R : Value → World → Prop} (h : Calls Tryz.prog n #[v] w fun e w' => ∃ r, e = .returned r ∧ R r w')
    (hK : ∀ r w', R r w' → K (a.put op.dst r) w') :
    if Region.wanted op (yielded ops a.tmps) = true then Oper.wp Tryz.prog op a w K Q else E := by
  have hw : Region.wanted op (yielded ops a.tmps) = true := by simp [Region.wanted, hg]
  rw [if_pos hw]
  unfold Oper.wp
  simp [execOp, hop, resolve, invoke, hx, hen, go_sem]
  refine Calls.mono h ?_
  rintro e w' ⟨r, rfl, hr⟩
  exact hK r w' hr
end Go.Proofs.YtapabahhfanmmaaGreatDoor
/- One of the people is read. -/
namespace Go.Proofs.YtapabahhfanmmaaGreatDoor
open Go.RowKit

/-- A reader after some numbers. -/
def rdN (l : List UInt8) (bad : Bool) : Nat → List UInt8 × Bool
  | 0 => (l, bad)
  | n + 1 => ((rdN l bad n).1.drop (firstT (rdN l bad n).1).2, (rdN l bad n).2 || (firstT (rdN l bad n).1).2 == 0)
def nth (l : List UInt8) (bad : Bool) (n : Nat) : Int := (firstT (rdN l bad n).1).1
theorem rdN_add (l : List UInt8) (bad : Bool) (m : Nat) : ∀ n, rdN (rdN l bad m).1 (rdN l bad m).2 n = rdN l bad (m + n)
  | 0 => rfl
  | n + 1 => by
    have ih := rdN_add l bad m n
    show (_, _) = rdN l bad (m + n + 1)
    rw [ih]
    rfl
theorem nth_add (l : List UInt8) (bad : Bool) (m n : Nat) : nth (rdN l bad m).1 (rdN l bad m).2 n = nth l bad (m + n) := by
  unfold nth
  rw [rdN_add]
theorem rdN_len (l : List UInt8) (bad : Bool) : ∀ n, (rdN l bad n).1.length ≤ l.length
  | 0 => Nat.le_refl _
  | n + 1 => by
    have := rdN_len l bad n
    show ((rdN l bad n).1.drop _).length ≤ _
    rw [List.length_drop]
    omega
theorem nth_bd (l : List UInt8) (bad : Bool) (n : Nat) : 0 ≤ nth l bad n ∧ nth l bad n ≤ 1000000000 := by
  have := (first_le (rdN l bad n).1).2
  unfold nth
  omega
/-- What is read of a text of numbers. -/
theorem rdN_flat : ∀ (n : Nat) (ns : List Int) (rest : List UInt8), n ≤ ns.length → (∀ x ∈ ns, 0 ≤ x ∧ x ≤ 1000000000) → rdN (flatB ns ++ rest) false n = (flatB (ns.drop n) ++ rest, false)
  | 0, _, _, _, _ => rfl
  | n + 1, ns, rest, h, hb => by
    have ih := rdN_flat n ns rest (by omega) hb
    have hx := List.drop_eq_getElem_cons (show n < ns.length by omega)
    have hbx := hb _ (List.getElem_mem (show n < ns.length by omega))
    have hf : firstT (flatB (ns.drop n) ++ rest) = (ns[n].toNat, (numB ns[n].toNat).length) := by
      rw [hx, flatB_cons, List.append_assoc]
      exact first_num _ _ (by omega)
    show (_, _) = _
    rw [ih]
    dsimp only
    rw [hf]
    dsimp only
    have hp := numB_len_pos ns[n].toNat
    rw [hx, flatB_cons, List.append_assoc, List.drop_left]
    have hne : ((numB ns[n].toNat).length == 0) = false := by simp; intro h; rw [h] at hp; simp at hp
    rw [hne]
    rfl
theorem nth_flat (n : Nat) (ns : List Int) (rest : List UInt8) (h : n < ns.length) (hb : ∀ x ∈ ns, 0 ≤ x ∧ x ≤ 1000000000) : nth (flatB ns ++ rest) false n = ns[n] := by
  unfold nth
  rw [rdN_flat n ns rest (by omega) hb]
  have hbx := hb _ (List.getElem_mem h)
  rw [List.drop_eq_getElem_cons h, flatB_cons, List.append_assoc, first_num _ _ (by omega)]
  dsimp only
  omega
theorem next_nth (rb : Nat) (l : List UInt8) (bad : Bool) (n : Nat) (w : World) (h : RdAt w rb (rdN l bad n).1 (rdN l bad n).2) (hl : l.length ≤ 1000000) :
    Calls Tryz.prog 124 #[.pointer (some ⟨rb, 0, none⟩)] w fun e w' => e = .returned (.int .i64 (nth l bad n)) ∧ RdAt w' rb (rdN l bad (n + 1)).1 (rdN l bad (n + 1)).2 ∧ Fr [rb] w w' :=
  next_any rb _ _ w h (Nat.le_trans (rdN_len l bad n) hl)
abbrev unitOf (f : Nat → Int) : U := ⟨f 0, f 1, f 2, f 3, f 4, f 5, f 6, f 7, f 8, f 9, f 10⟩

set_option maxRecDepth 100000 in
set_option maxHeartbeats 2000000 in
theorem readUnit_any (rb : Nat) (l : List UInt8) (bad : Bool) (w : World) (h : RdAt w rb l bad) (hl : l.length ≤ 1000000) :
    Calls Tryz.prog 132 #[.pointer (some ⟨rb, 0, none⟩)] w fun e w' => e = .returned (unitOf (nth l bad)).val ∧ RdAt w' rb (rdN l bad 11).1 (rdN l bad 11).2 ∧ Fr [rb] w w' := by
  have P := fun n w (h : RdAt w rb (rdN l bad n).1 (rdN l bad n).2) => next_nth rb l bad n w h hl
  have h0 : RdAt w rb (rdN l bad 0).1 (rdN l bad 0).2 := h
  have hlt := h.lt
  have hne : rb ≠ w.heap.size := by omega
  obtain ⟨J, hJ⟩ : ∃ J : Nat → World → Prop, J = fun n w' => RdAt w' rb (rdN l bad n).1 (rdN l bad n).2 ∧ w'.heap[w.heap.size]? = some (.cells zeroU.arr 85) ∧ Fr [rb] w w' := ⟨_, rfl⟩
  have PJ : ∀ n w', J n w' → Calls Tryz.prog 124 #[.pointer (some ⟨rb, 0, none⟩)] w' fun e w'' => e = .returned (.int .i64 (nth l bad n)) ∧ J (n + 1) w'' := fun n w' hj => by
    rw [hJ] at hj ⊢
    obtain ⟨j1, j2, j3⟩ := hj
    refine Calls.mono (P n w' j1) ?_
    rintro e w2 ⟨rfl, h1, h2⟩
    exact ⟨rfl, h1, h2.heap j2 (by simp; exact fun e => hne e.symm), j3.trans h2 (by simp)⟩
  have hj0 : J 0 (w.alloc (.cells zeroU.arr 85)) := by
    rw [hJ]
    exact ⟨h0.fr ((Fr.refl [] w).alloc _) (by simp), hp_new _ _, (Fr.refl _ _).alloc _⟩
  have hjh : ∀ n w', J n w' → w'.heap[w.heap.size]? = some (.cells zeroU.arr 85) := fun n w' hj => by rw [hJ] at hj; exact hj.2.1
  have HE : Hid (∀ w', J 11 w' → RdAt w' rb (rdN l bad 11).1 (rdN l bad 11).2 ∧ Fr [rb] w w') := fun w' hj => by rw [hJ] at hj; exact ⟨hj.1, hj.2.2⟩
  have PJ := (show Hid _ from PJ)
  have HJH := (show Hid _ from hjh)
  have HNE := (show Hid _ from hne)
  clear h h0 P hJ hjh hlt hne
  generalize rdN l bad = R at *
  generalize nth l bad = N at *
  have HI : Hid ((Tryz.prog.info? 85).map (·.size) = some (unitOf N).arr.size) := by show _ = some 11; kernel_rfl
  have HO : Hid ((unitOf N).arr.all (·.oneCell') = true) := by show _ = _; simp [Value.oneCell']
  have HZ : Hid (zeroU.arr.size = (unitOf N).arr.size) := by show _ = _; rfl
  go_enter Tryz.func132, Tryz.ntmps132
  go_wp2_with (first | (go_at_call 124; with_reducible refine Calls.mono (PJ.out _ _ (by first | assumption | exact hj0)) ?_; rintro e w1 ⟨rfl, hj1⟩) | (refine wpList_store_row rfl 85 _ _ rfl w.heap.size (unitOf N).arr rfl rfl 85 zeroU.arr (HJH.out _ _ hj1) HI.out HZ.out HO.out ?_))
  obtain ⟨e1, e2⟩ := HE.out _ hj1
  refine bodyPost_ret (v := (unitOf N).val) (results_cell_row Tryz.results132 _ _ w.heap.size 85 (unitOf N).arr (0, 0) _ rfl (setRow_heap _ _ _ _ _ _ (HJH.out _ _ hj1)) Tryz.underlying85 rfl HI.out) rfl ⟨rfl, ?_, ?_⟩
  · exact ⟨by rw [setRow_other _ _ _ _ HNE.out]; exact e1.all⟩
  · exact e2.setRow _ _ (Or.inr (Nat.le_refl _))
end Go.Proofs.YtapabahhfanmmaaGreatDoor
