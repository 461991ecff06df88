import Derived.Test.YtapabahhfanmmaaDoorCMap
import Derived.Test.YtapabahhfanmmaaDoorCCmds2
/- A game begins. -/
namespace Go.Proofs.YtapabahhfanmmaaDoor
open Go.RowKit

def startT (cs : List Int) : T := { turn := 0, next := 3, s0 := 10, s1 := 10, bd := bdOf cs, us := [newU 1 0 1 0 0 40, newU 2 1 1 11 11 40], held := fun _ => none }

theorem gameF : fieldsOf Tryd.prog 64 = some [(0, 1), (1, 1), (2, 2), (4, 144), (148, 1)] := by kernel_rfl
theorem gameZ : (Tryd.prog.info? 64).map (fun i => i.zero.map (·.cells)) = some (some (ii 0 :: ii 0 :: ii 0 :: ii 0 :: ((List.range 144).map (fun _ => ii 0) ++ [Value.slice none 0 0])).toArray) := by kernel_rfl
theorem built_at (t : TypeId) (places : List (Nat × Nat)) (zs : Array Value) (hf : fieldsOf Tryd.prog t = some places) (hz : (Tryd.prog.info? t).map (fun i => i.zero.map (·.cells)) = some (some zs)) (parts : List (Nat × Value)) (cells : Array Value) (h : Instr.fill (places.toArray[·]?) zs parts = some cells) : Tryd.prog.built t parts = some cells := by
  unfold Program.built
  unfold fieldsOf at hf
  cases hi : Tryd.prog.info? t with
  | none => rw [hi] at hz; simp at hz
  | some it =>
    rw [hi] at hz
    cases hzz : it.zero with
    | none => simp [hzz] at hz
    | some z =>
      simp [hzz] at hz
      cases hu : Tryd.prog.underlying t with
      | none => rw [hu] at hf; simp at hf
      | some d =>
        rw [hu] at hf
        cases d <;> try (simp at hf; done)
        dsimp only at hf ⊢
        rw [hzz, hf]
        dsimp only
        rw [hz]
        exact h
theorem built_game (B : List Value) (hB : B.length = 144) : Tryd.prog.built 64 [(1, ii 1), (2, .agg #[ii 10, ii 10]), (3, .agg B.toArray)] = some (ii 0 :: ii 1 :: ii 10 :: ii 10 :: (B ++ [Value.slice none 0 0])).toArray := by
  refine built_at _ _ _ gameF gameZ _ _ ?_
  obtain ⟨Z, hZ⟩ : ∃ Z, Z = (List.range 144).map (fun _ => ii 0) := ⟨_, rfl⟩
  have hZl : Z.length = 144 := by rw [hZ]; simp
  rw [← hZ]
  clear hZ
  rw [fill_cons _ _ _ _ _ 1 1 rfl rfl (by simp)]
  rw [show (((ii 0 :: ii 0 :: ii 0 :: ii 0 :: (Z ++ [Value.slice none 0 0])).toArray.toList.take 1 ++ (ii 1).cells.toList ++ (ii 0 :: ii 0 :: ii 0 :: ii 0 :: (Z ++ [Value.slice none 0 0])).toArray.toList.drop (1 + 1)).toArray) = (ii 0 :: ii 1 :: ii 0 :: ii 0 :: (Z ++ [Value.slice none 0 0])).toArray from rfl]
  rw [fill_cons _ _ _ _ _ 2 2 rfl rfl (by simp)]
  rw [show (((ii 0 :: ii 1 :: ii 0 :: ii 0 :: (Z ++ [Value.slice none 0 0])).toArray.toList.take 2 ++ (Value.agg #[ii 10, ii 10]).cells.toList ++ (ii 0 :: ii 1 :: ii 0 :: ii 0 :: (Z ++ [Value.slice none 0 0])).toArray.toList.drop (2 + 2)).toArray) = (ii 0 :: ii 1 :: ii 10 :: ii 10 :: (Z ++ [Value.slice none 0 0])).toArray from rfl]
  have hBs : (Value.agg B.toArray).cells.size = 144 := by show B.toArray.size = 144; simpa using hB
  rw [fill_cons _ _ _ _ _ 4 144 rfl hBs (by simp; omega)]
  have e1 : (Value.agg B.toArray).cells.toList = B := rfl
  have e2 : (ii 0 :: ii 1 :: ii 10 :: ii 10 :: (Z ++ [Value.slice none 0 0])).toArray.toList.drop (4 + 144) = [Value.slice none 0 0] := by
    show (Z ++ [Value.slice none 0 0]).drop 144 = _
    rw [← hZl, List.drop_left]
  rw [e1, e2]
  rfl

theorem wpList_build3 {ops : Array Oper} {rest : List Oper} {o : Oper} {a : Act} {w : World} {Q : Exit → Act → World → Prop} (hg : o.guard = none) (t : TypeId) (i1 i2 i3 : Nat) (x1 x2 x3 : Operand) (ho : o.op = .build t #[(i1, x1), (i2, x2), (i3, x3)])
    (v1 v2 v3 : Value) (h1 : a.eval x1 = v1) (h2 : a.eval x2 = v2) (h3 : a.eval x3 = v3) (cells : Array Value)
    (hc : Tryd.prog.built t [(i1, v1), (i2, v2), (i3, v3)] = some cells) (h : wpList Tryd.prog ops Q rest (a.put o.dst (.agg cells)) w) : wpList Tryd.prog ops Q (o :: rest) a w :=
  wpList_plain hg fun _ hK => by
    have hc' : Tryd.prog.built t ((#[(i1, x1), (i2, x2), (i3, x3)] : Array (Nat × Operand)).map fun (i, x) => (i, a.eval x)).toList = some cells := by
      simp [h1, h2, h3, hc]
    unfold Oper.wp execOp
    simp only [ho, Sem.run_bind, run_build w t _ cells hc', Result.andThen_ok]
    exact hK _ _ h
theorem fld1 : ∀ w, (Instr.field 122 kind1 0).run Tryd.prog w = .ok (ii 40) w := fun w => by kernel_rfl
def baseU (k : Nat) : U := newU ((k : Int) + 1) k 1 (if k = 0 then 0 else 11) (if k = 0 then 0 else 11) 40
structure NewI (Wg : World) (gb : Nat) (k : Nat) (wr : World) : Prop where
  ex : ∃ v, wr.cell? ⟨gb, 148, none⟩ = some v ∧ wr.ownsRow Wg.heap.size 44 11 v k (((List.range k).map baseU).flatMap U.cells)
  nx : wr.cell? ⟨gb, 1, none⟩ = some (ii ((k : Int) + 1))
  fr : Fr [gb] Wg wr
  ot : ∀ j, j ≠ 1 → j ≠ 148 → wr.cell? ⟨gb, j, none⟩ = Wg.cell? ⟨gb, j, none⟩
  fz : ∀ j, wr.frozen? ⟨gb, j, none⟩ = Wg.frozen? ⟨gb, j, none⟩
theorem add_new (Wg : World) (gb k : Nat) (wr w0 : World) (h : NewI Wg gb k wr) (hf : Fr [] wr w0) (hgb : gb < Wg.heap.size) (hk : k < 2) (hz : ∀ j, Wg.frozen? ⟨gb, j, none⟩ = false) (x y : Int) (hx : x = if k = 0 then 0 else 11) (hy : y = if k = 0 then 0 else 11) :
    Calls Tryd.prog 42 #[.pointer (some ⟨gb, 0, none⟩), .int .i64 (k : Int), .int .i64 1, cv x y] w0 fun e w' => e = .returned (.tuple #[]) ∧ NewI Wg gb (k + 1) w' := by
  obtain ⟨⟨v, hv, hown⟩, hnx, hfr, hot, hfz⟩ := h
  have hl : ((List.range k).map baseU).length = k := by simp
  have hgr : gb < wr.heap.size := Nat.lt_of_lt_of_le hgb hfr.size
  have hg0 : gb < w0.heap.size := Nat.lt_of_lt_of_le hgr hf.size
  have c : ∀ j, w0.cell? ⟨gb, j, none⟩ = wr.cell? ⟨gb, j, none⟩ := fun j => hf.cell gb j hgr (by simp)
  have f : ∀ j, w0.frozen? ⟨gb, j, none⟩ = wr.frozen? ⟨gb, j, none⟩ := fun j => hf.frozen gb j hgr (by simp)
  have hown' : w0.ownsRow Wg.heap.size 44 11 v ((List.range k).map baseU).length (((List.range k).map baseU).flatMap U.cells) := by rw [hl]; exact owns_fr hown hf (by simp)
  refine (add_own gb Wg.heap.size ((k : Int) + 1) k 1 x y 40 _ _ _ _ _ _ _ _ _ _ _ _ _ _ _ _ _ _ _ _ _ _ _ v ((List.range k).map baseU) w0 (fun w => kindOf_1 w) fld1 hg0 ((c 1).trans hnx) (by rw [f, hfz]; exact hz 1) ((c 148).trans hv) (by rw [f, hfz]; exact hz 148) hown' (fun e => by have := own_base hown e; omega) (by rw [hl]; omega) (by omega) (Nat.le_trans hfr.size hf.size)).mono ?_
  rintro e w' ⟨rfl, v', q1, q2, q3, _, q5, q6, q7⟩
  refine ⟨rfl, ⟨v', q1, ?_⟩, ?_, ?_, ?_, ?_⟩
  · rw [hl] at q3
    have : (List.range (k + 1)).map baseU = (List.range k).map baseU ++ [newU ((k : Int) + 1) k 1 x y 40] := by rw [List.range_succ, List.map_append, hx, hy]; rfl
    rw [this]
    exact q3
  · rw [q2]; simp
  · refine (hfr.then0 hf).trans q5 (fun b hb => ?_)
    rcases List.mem_cons.1 hb with rfl | hb
    · simp
    · exact Or.inr (own_base hown (by simpa using hb))
  · intro j h1 h2
    rw [q6 j h1 h2, c, hot j h1 h2]
  · intro j
    rw [q7, f, hfz]
theorem at0 (w : World) : (Instr.index 97 (.agg #[ii 0, ii 0, ii 11, ii 11]) (.int .i64 0)).run Tryd.prog w = .ok (cv 0 0) w := by kernel_rfl
theorem at1 (w : World) : (Instr.index 97 (.agg #[ii 0, ii 0, ii 11, ii 11]) (.int .i64 1)).run Tryd.prog w = .ok (cv 11 11) w := by kernel_rfl
theorem infoMap : (Tryd.prog.info? 99).map (·.size) = some 148 := by kernel_rfl
theorem boardTo_len (cs : List Int) (n : Nat) : (boardTo cs n).length = 144 := by simp [boardTo]
theorem map_one (cs : List Int) : (boardTo cs 144 ++ [ii 0, ii 0, ii 11, ii 11]).toArray.all (·.oneCell') = true := by
  apply all_oneCell_toArray
  intro v hv
  rcases List.mem_append.1 hv with hv | hv
  · obtain ⟨j, _, rfl⟩ := List.mem_map.1 hv
    by_cases hj : j < 144
    · rw [if_pos hj]; rfl
    · rw [if_neg hj]; rfl
  · simp only [List.mem_cons, List.not_mem_nil, or_false] at hv
    rcases hv with rfl | rfl | rfl | rfl <;> rfl

set_option maxRecDepth 100000 in
set_option maxHeartbeats 1000000 in
theorem rulesNew_any (cs : List Int) (w : World) :
    Calls Tryd.prog 28 #[.string ⟨(textTo cs 144).toArray⟩] w fun e w' => ∃ pb cap, e = .returned (.tuple #[.agg (gameL (startT cs) (.slice (some ⟨pb, 0, none⟩) 2 cap)).toArray, .bool true]) ∧ PRow w' pb cap (startT cs).us ∧ w.heap.size ≤ pb ∧ Fr [] w w' := by
  have hmap := readMap_any cs
  obtain ⟨L, hL⟩ : ∃ L, L = textTo cs 144 := ⟨_, rfl⟩
  obtain ⟨B, hB⟩ : ∃ B, B = boardTo cs 144 := ⟨_, rfl⟩
  have hBl : B.length = 144 := by rw [hB]; exact boardTo_len cs 144
  have hm1 := map_one cs
  rw [← hL, ← hB] at hmap
  rw [← hL]
  rw [← hB] at hm1
  have hms : (B ++ [ii 0, ii 0, ii 11, ii 11]).toArray.size = 148 := by simp [hBl]
  have hbld := built_game B hBl
  obtain ⟨ma, hma⟩ : ∃ x, x = (B ++ [ii 0, ii 0, ii 11, ii 11]).toArray := ⟨_, rfl⟩
  rw [← hma] at hm1 hms
  simp only [← hma] at hmap
  have HMAP := (show Hid _ from hmap)
  have HMA := (show Hid _ from hma)
  have HB := (show Hid _ from hB)
  have HBL := (show Hid _ from hBl)
  have HM1 := (show Hid _ from hm1)
  have HI3 : Hid ((Tryd.prog.info? 99).map (·.size) = some ma.size) := by
    show _ = _
    rw [hms]; exact infoMap
  have HZ3 : Hid (Tryd.zeroCells99.size = ma.size) := by
    show _ = _
    rw [hms, zcMap]; simp
  clear hL hma hB hBl hmap hm1 hms
  go_enter Tryd.func28, Tryd.ntmps28
  go_wp2_with fail
  refine Calls.mono (HMAP.out _) ?_
  rintro e w1 ⟨rfl, hf1⟩
  dsimp only
  have hw1 : Fr [] w w1 := ((Fr.refl [] w).alloc (.cells Tryd.zeroCells64 64)).then0 hf1
  have hRes : w1.heap[w.heap.size]? = some (.cells Tryd.zeroCells64 64) := hf1.heap0 (hp_new _ _)
  have HR := (show Hid _ from hRes)
  clear HMAP hRes hf1
  have HF2 : Hid (Fr [] w ((w1.alloc (.cells Tryd.zeroCells99 99)).setRow w1.heap.size ma)) := (hw1.alloc _).setRow _ _ (Or.inr hw1.size)
  have HMM : Hid (((w1.alloc (.cells Tryd.zeroCells99 99)).setRow w1.heap.size ma).heap[w1.heap.size]? = some (.cells ma 99)) := setRow_heap _ _ _ _ _ _ (hp_new _ _)
  have HRG : Hid (((w1.alloc (.cells Tryd.zeroCells99 99)).setRow w1.heap.size ma).rangeAt w1.heap.size 0 B) := fun j v hv => by
    rw [Nat.zero_add, cell_of_heap HMM.out, HMA.out]
    simp only [List.getElem?_toArray]
    rw [List.getElem?_append_left (List.getElem?_eq_some_iff.1 hv).1]
    exact hv
  have HI5 : Hid ((Tryd.prog.info? 50).map (·.size) = some B.length) := by
    show _ = _
    rw [infoBoard, HBL.out]
  obtain ⟨G0, hG0⟩ : ∃ x, x = (ii 0 :: ii 1 :: ii 10 :: ii 10 :: (B ++ [Value.slice none 0 0])).toArray := ⟨_, rfl⟩
  rw [← hG0] at hbld
  have HBLD := (show Hid _ from hbld)
  clear hbld
  have HG0 := (show Hid _ from hG0)
  have HIG : Hid ((Tryd.prog.info? 64).map (·.size) = some G0.size) := by
    show _ = _
    rw [infoGame, hG0]; simp [HBL.out]
  have HZG : Hid (Tryd.zeroCells64.size = G0.size) := by
    show _ = _
    rw [zcGame, hG0]; simp [HBL.out]
  have HOG : Hid (G0.all (·.oneCell') = true) := by
    show _ = _
    rw [hG0]
    apply all_oneCell_toArray
    intro v hv
    simp only [List.mem_cons, List.mem_append, List.not_mem_nil, or_false] at hv
    rcases hv with rfl | rfl | rfl | rfl | hv | rfl
    · rfl
    · rfl
    · rfl
    · rfl
    · rw [HB.out] at hv
      obtain ⟨j, _, rfl⟩ := List.mem_map.1 hv
      by_cases hj : j < 144
      · rw [if_pos hj]; rfl
      · rw [if_neg hj]; rfl
    · rfl
  have HGP : Hid ((((w1.alloc (.cells Tryd.zeroCells99 99)).setRow w1.heap.size ma).alloc (.cells Tryd.zeroCells64 64)).heap[w1.heap.size + 1]? = some (.cells Tryd.zeroCells64 64)) := hp_at _ _ _ (by simp)
  clear hG0
  have hq : ∀ k v, [ii 0, ii 0, ii 11, ii 11][k]? = some v → ((((w1.alloc (.cells Tryd.zeroCells99 99)).setRow w1.heap.size ma).alloc (.cells Tryd.zeroCells64 64)).setRow (w1.heap.size + 1) G0).cell? ⟨w1.heap.size, 144 + k, none⟩ = some v := fun k v hk => by
    have h1 : ((((w1.alloc (.cells Tryd.zeroCells99 99)).setRow w1.heap.size ma).alloc (.cells Tryd.zeroCells64 64)).setRow (w1.heap.size + 1) G0).heap[w1.heap.size]? = some (.cells ma 99) := by
      rw [setRow_other _ _ _ _ (by omega)]
      exact ((Fr.refl [] _).alloc _).heap0 HMM.out
    rw [cell_of_heap h1, HMA.out]
    simp only [List.getElem?_toArray]
    rw [List.getElem?_append_right (by rw [HBL.out]; omega), HBL.out, Nat.add_sub_cancel_left]
    exact hk
  have b4 := hq 0 _ rfl
  have b5 := hq 1 _ rfl
  have b6 := hq 2 _ rfl
  have b7 := hq 3 _ rfl
  clear hq
  go_wp2_with (first | (refine wpList_build3 rfl 64 1 2 3 (.const (.int .i64 1)) (.tmp 17) (.tmp 19) rfl (ii 1) (.agg #[ii 10, ii 10]) (.agg B.toArray) rfl rfl rfl G0 HBLD.out ?_) | (refine wpList_store_row rfl 99 _ _ rfl w1.heap.size ma rfl rfl 99 Tryd.zeroCells99 (hp_new w1 _) HI3.out HZ3.out HM1.out ?_) | (refine wpList_load_mid rfl 50 _ rfl w1.heap.size 0 rfl B _ HRG.out Tryd.underlying50 rfl HI5.out ?_) | (refine wpList_store_row rfl 64 _ _ rfl (w1.heap.size + 1) G0 rfl rfl 64 Tryd.zeroCells64 HGP.out HIG.out HZG.out HOG.out ?_))
  obtain ⟨Wg, hWg⟩ : ∃ W, W = (((w1.alloc (.cells Tryd.zeroCells99 99)).setRow w1.heap.size ma).alloc (.cells Tryd.zeroCells64 64)).setRow (w1.heap.size + 1) G0 := ⟨_, rfl⟩
  rw [← hWg]
  have hgG : Wg.heap[w1.heap.size + 1]? = some (.cells G0 64) := by rw [hWg]; exact setRow_heap _ _ _ _ _ _ HGP.out
  have hwg : Fr [] w Wg := by rw [hWg]; exact (HF2.out.alloc _).setRow _ _ (Or.inr (by have := hw1.size; omega))
  have hRg : Wg.heap[w.heap.size]? = some (.cells Tryd.zeroCells64 64) := by
    have hlt := lt_of_heap HR.out
    have f1 : Fr [] w1 Wg := by rw [hWg]; exact ((((Fr.refl [] w1).alloc _).setRow _ _ (Or.inr (Nat.le_refl _))).alloc _).setRow _ _ (Or.inr (by omega))
    exact f1.heap0 HR.out
  obtain ⟨gb, hgb⟩ : ∃ x, x = w1.heap.size + 1 := ⟨_, rfl⟩
  have hrg : w.heap.size < gb := by have := hw1.size; omega
  rw [← hgb] at hgG ⊢
  have hc148 : Wg.cell? ⟨gb, 148, none⟩ = some (.slice none 0 0) := by
    rw [cell_of_heap hgG, HG0.out]
    simp only [List.getElem?_toArray, List.getElem?_cons_succ]
    rw [List.getElem?_append_right (by rw [HBL.out]; omega), HBL.out]
    rfl
  have hc1 : Wg.cell? ⟨gb, 1, none⟩ = some (ii 1) := by rw [cell_of_heap hgG, HG0.out]; rfl
  have hzg : ∀ j, Wg.frozen? ⟨gb, j, none⟩ = false := fun j => frozen_of_heap hgG
  have hgl := lt_of_heap hgG
  have hN0 : NewI Wg gb 0 Wg := ⟨⟨_, hc148, ⟨rfl, Or.inl ⟨rfl, rfl⟩⟩⟩, hc1, Fr.refl _ _, fun _ _ _ => rfl, fun _ => rfl⟩
  have HN0 := (show Hid _ from hN0)
  have HZG := (show Hid _ from hzg)
  have HGG := (show Hid _ from hgG)
  have HRG2 := (show Hid _ from hRg)
  clear hWg hgb b4 b5 b6 b7 hgG hRg hc148 hc1 hzg hN0 HMM HRG HF2 HGP
  go_loopw [23] (fun i wr => ∃ k : Nat, k ≤ 2 ∧ i = .int .i64 k ∧ NewI Wg gb k wr) (fun i _ => 2 - (intOf i).toNat)
  case atStart => exact ⟨0, by omega, rfl, HN0.out⟩
  case round =>
    obtain ⟨k, hk, rfl, hI⟩ := hrel
    have HI := (show Hid _ from hI)
    clear hI
    have hks : k = 0 ∨ k = 1 ∨ k = 2 := by omega
    rcases hks with rfl | rfl | rfl
    · have hat := at0
      have HAD : Hid (∀ w0, Fr [] wr w0 → Calls Tryd.prog 42 #[.pointer (some ⟨gb, 0, none⟩), .int .i64 0, .int .i64 1, cv 0 0] w0 fun e w' => e = .returned (.tuple #[]) ∧ NewI Wg gb 1 w') := fun w0 hf => add_new Wg gb 0 wr w0 HI.out hf hgl (by omega) HZG.out 0 0 rfl rfl
      go_wp2_with (go_at_call 42; refine Calls.mono (HAD.out _ ((Fr.refl _ _).alloc _)) ?_; rintro e w2 ⟨rfl, hN⟩)
      go_roundw
      case rel => exact ⟨1, by omega, by go_num, hN⟩
      case measure => simp [intOf]
    · have hat := at1
      have HAD : Hid (∀ w0, Fr [] wr w0 → Calls Tryd.prog 42 #[.pointer (some ⟨gb, 0, none⟩), .int .i64 1, .int .i64 1, cv 11 11] w0 fun e w' => e = .returned (.tuple #[]) ∧ NewI Wg gb 2 w') := fun w0 hf => add_new Wg gb 1 wr w0 HI.out hf hgl (by omega) HZG.out 11 11 rfl rfl
      go_wp2_with (go_at_call 42; refine Calls.mono (HAD.out _ ((Fr.refl _ _).alloc _)) ?_; rintro e w2 ⟨rfl, hN⟩)
      go_roundw
      case rel => exact ⟨2, by omega, by go_num, hN⟩
      case measure => simp [intOf]
    · obtain ⟨⟨v, hv, hown⟩, hnx, hfr, hot, hfz⟩ := HI.out
      obtain ⟨pb, cap, hvv, hpb, hrow⟩ := PRow.of_owns (us := (startT cs).us) hown rfl (by omega)
      have hvv' : v = .slice (some ⟨pb, 0, none⟩) 2 cap := hvv
      have hrng : wr.rangeAt gb 0 (gameL (startT cs) (.slice (some ⟨pb, 0, none⟩) 2 cap)) := by
        intro j u hu
        have hj : j < 149 := by have := (List.getElem?_eq_some_iff.1 hu).1; rwa [gameL_len] at this
        unfold gameL at hu
        rw [List.getElem?_map, List.getElem?_range hj] at hu
        simp only [Option.map_some, Option.some.injEq] at hu
        rw [← hu, Nat.zero_add]
        by_cases j8 : j = 148
        · subst j8
          rw [hv, hvv']
          rfl
        · by_cases j1 : j = 1
          · subst j1
            rw [hnx]
            rfl
          · rw [hot j j1 j8, cell_of_heap HGG.out, HG0.out]
            unfold tcell
            by_cases j0 : j = 0
            · subst j0; rfl
            · by_cases j2 : j = 2
              · subst j2; rfl
              · by_cases j3 : j = 3
                · subst j3; rfl
                · obtain ⟨i, rfl⟩ : ∃ i, j = i + 4 := ⟨j - 4, by omega⟩
                  simp only [List.getElem?_toArray, List.getElem?_cons_succ]
                  rw [if_neg j0, if_neg j1, if_neg j2, if_neg j3, if_pos (by omega), List.getElem?_append_left (by rw [HBL.out]; omega), HB.out]
                  unfold boardTo
                  rw [List.getElem?_map, List.getElem?_range (by omega)]
                  simp only [Option.map_some]
                  rw [if_pos (by omega)]
                  rfl
      obtain ⟨gl, hgle⟩ : ∃ x, x = gameL (startT cs) (.slice (some ⟨pb, 0, none⟩) 2 cap) := ⟨_, rfl⟩
      have hll : gl.length = 149 := by rw [hgle]; exact gameL_len _ _
      have ho1 : gl.toArray.all (·.oneCell') = true := by rw [hgle]; exact gameL_one _ _ _ _
      rw [← hgle] at hrng
      have HRN := (show Hid _ from hrng)
      have HGE := (show Hid _ from hgle)
      have HO := (show Hid _ from ho1)
      have HL1 : Hid ((Tryd.prog.info? 64).map (·.size) = some gl.length) := by
        show _ = _
        rw [infoGame, hll]
      have HL2 : Hid ((Tryd.prog.info? 64).map (·.size) = some gl.toArray.size) := by
        show _ = _
        rw [infoGame, List.size_toArray, hll]
      have HL3 : Hid (Tryd.zeroCells64.size = gl.toArray.size) := by
        show _ = _
        exact zcGame.trans (by simp [hll])
      have hR := hfr.heap HRG2.out (by simp; omega)
      have HR3 := (show Hid _ from hR)
      clear hgle hll ho1 hrng hvv hvv' hv hown hnx hot hfz hR
      go_wp2_with (first | (refine wpList_load_mid rfl 64 _ rfl gb 0 rfl gl _ HRN.out Tryd.underlying64 rfl HL1.out ?_) | (refine wpList_store_row rfl 64 _ _ rfl w.heap.size gl.toArray rfl rfl 64 Tryd.zeroCells64 HR3.out HL2.out HL3.out HO.out ?_))
      have hF : Fr [w.heap.size] wr (wr.setRow w.heap.size gl.toArray) := (Fr.refl _ _).setRow _ _ (by simp)
      have hs := hwg.size
      refine bodyPost_ret (v := .tuple #[.agg gl.toArray, .bool true]) (results_cell_tmp Tryd.results28 _ _ w.heap.size 64 gl.toArray (0, 0) _ _ rfl rfl (setRow_heap _ _ _ _ _ _ HR3.out) Tryd.underlying64 rfl HL2.out) rfl ⟨pb, cap, by rw [HGE.out], hrow.fr hF (by simp; omega), by omega, ?_⟩
      exact (hwg.trans hfr (by simp; omega)).setRow _ _ (Or.inr (Nat.le_refl _))
end Go.Proofs.YtapabahhfanmmaaDoor
