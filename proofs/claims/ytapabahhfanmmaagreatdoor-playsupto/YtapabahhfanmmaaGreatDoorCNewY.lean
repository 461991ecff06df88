import Derived.Test.YtapabahhfanmmaaGreatDoorCMapX
import Derived.Test.YtapabahhfanmmaaGreatDoorCOrds
namespace Go.Proofs.YtapabahhfanmmaaGreatDoor
open Go.RowKit
def baseX (p q r s : Int) (k : Nat) : U := newU ((k : Int) + 1) k 1 (if k = 0 then p else r) (if k = 0 then q else s) 40
structure NewX (p q r s : Int) (Wg : World) (gb : Nat) (k : Nat) (wr : World) : Prop where
 ex : ∃ v, wr.cell? ⟨gb, 148, none⟩ = some v ∧ wr.ownsRow Wg.heap.size 85 11 v k (((List.range k).map (baseX p q r s)).flatMap U.cells)
 nx : wr.cell? ⟨gb, 1, none⟩ = some (ii ((k : Int) + 1))
 fr : Fr [gb] Wg wr
 ot : ∀ j, j ≠ 1 → j ≠ 148 → wr.cell? ⟨gb, j, none⟩ = Wg.cell? ⟨gb, j, none⟩
 fz : ∀ j, wr.frozen? ⟨gb, j, none⟩ = Wg.frozen? ⟨gb, j, none⟩
theorem add_newX (p q r s : Int) (Wg : World) (gb k : Nat) (wr w0 : World) (h : NewX p q r s Wg gb k wr) (hf : Fr [] wr w0) (hgb : gb < Wg.heap.size) (hk : k < 2) (hz : ∀ j, Wg.frozen? ⟨gb, j, none⟩ = false) (x y : Int) (hx : x = if k = 0 then p else r) (hy : y = if k = 0 then q else s) :
  Calls Tryz.prog 77 #[.pointer (some ⟨gb, 0, none⟩), .int .i64 (k : Int), .int .i64 1, cv x y] w0 fun e w' => e = .returned (.tuple #[]) ∧ NewX p q r s Wg gb (k + 1) w' := by
 obtain ⟨⟨v, hv, hown⟩, hnx, hfr, hot, hfz⟩ := h
 have hl : ((List.range k).map (baseX p q r s)).length = k := by simp
 have hgr : gb < wr.heap.size := Nat.lt_of_lt_of_le hgb hfr.size
 have hg0 : gb < w0.heap.size := Nat.lt_of_lt_of_le hgr hf.size
 have c : ∀ j, w0.cell? ⟨gb, j, none⟩ = wr.cell? ⟨gb, j, none⟩ := fun j => hf.cell gb j hgr (by simp)
 have f : ∀ j, w0.frozen? ⟨gb, j, none⟩ = wr.frozen? ⟨gb, j, none⟩ := fun j => hf.frozen gb j hgr (by simp)
 have hown' : w0.ownsRow Wg.heap.size 85 11 v ((List.range k).map (baseX p q r s)).length (((List.range k).map (baseX p q r s)).flatMap U.cells) := by rw [hl]; exact owns_fr hown hf (by simp)
 refine (add_own gb Wg.heap.size ((k : Int) + 1) k 1 x y 40 _ _ _ _ _ _ _ _ _ _ _ _ _ _ _ _ _ _ _ _ _ _ _ v ((List.range k).map (baseX p q r s)) w0 (fun w => kindOf_1 w) fld1 hg0 ((c 1).trans hnx) (by rw [f, hfz]; exact hz 1) ((c 148).trans hv) (by rw [f, hfz]; exact hz 148) hown' (fun e => by have := own_base hown e; omega) (by rw [hl]; omega) (by omega) (Nat.le_trans hfr.size hf.size)).mono ?_
 rintro e w' ⟨rfl, v', q1, q2, q3, _, q5, q6, q7⟩
 refine ⟨rfl, ⟨v', q1, ?_⟩, ?_, ?_, ?_, ?_⟩
 ·rw [hl] at q3
  have : (List.range (k + 1)).map (baseX p q r s) = (List.range k).map (baseX p q r s) ++ [newU ((k : Int) + 1) k 1 x y 40] := by rw [List.range_succ, List.map_append, hx, hy]; rfl
  rw [this]
  exact q3
 ·rw [q2]; simp
 ·refine (hfr.then0 hf).trans q5 (fun b hb => ?_)
  rcases List.mem_cons.1 hb with rfl | hb
  ·simp
  ·exact Or.inr (own_base hown (by simpa using hb))
 ·intro j h1 h2
  rw [q6 j h1 h2, c, hot j h1 h2]
 ·intro j
  rw [q7, f, hfz]
theorem atX0 (p q r s : Int) (w : World) : (Instr.index 160 (.agg #[ii p, ii q, ii r, ii s]) (.int .i64 0)).run Tryz.prog w = .ok (cv p q) w := by kernel_rfl
theorem atX1 (p q r s : Int) (w : World) : (Instr.index 160 (.agg #[ii p, ii q, ii r, ii s]) (.int .i64 1)).run Tryz.prog w = .ok (cv r s) w := by kernel_rfl
def mapT (tx : ByteArray) : T := { turn := 0, next := 3, s0 := 10, s1 := 10, bd := gr tx, us := [newU 1 0 1 ((pos tx 0 144 % 12 : Nat) : Int) ((pos tx 0 144 / 12 : Nat) : Int) 40, newU 2 1 1 ((pos tx 1 144 % 12 : Nat) : Int) ((pos tx 1 144 / 12 : Nat) : Int) 40], held := fun _ => none }
theorem zIG : (Tryz.prog.info? 90).map (·.size) = some Tryz.zeroCells90.size := by kernel_rfl
theorem zOG : Tryz.zeroCells90.all (·.oneCell') = true := by kernel_rfl
set_option maxRecDepth 100000 in
set_option maxHeartbeats 1000000 in
theorem rulesNew_all (tx : ByteArray) (w : World) :
  Calls Tryz.prog 35 #[.string tx] w fun e w' => ((MapOk tx ∧ ∃ pb cap, e = .returned (.tuple #[.agg (gameL (mapT tx) (.slice (some ⟨pb, 0, none⟩) 2 cap)).toArray, .bool true]) ∧ PRow w' pb cap (mapT tx).us ∧ w.heap.size ≤ pb) ∨ (¬ MapOk tx ∧ e = .returned (.tuple #[.agg Tryz.zeroCells90, .bool false]))) ∧ Fr [] w w' := by
 obtain ⟨OK, hOK⟩ : ∃ p : Prop, p = MapOk tx := ⟨_, rfl⟩
 have hmap := readMap_all tx
 rw [← hOK]
 simp only [← hOK] at hmap
 clear hOK
 obtain ⟨B, hB⟩ : ∃ B, B = boardF (gr tx) 144 := ⟨_, rfl⟩
 have hBl : B.length = 144 := by rw [hB]; exact boardF_len _ 144
 have hm1 := mapF_one (gr tx) 144 (pos tx 0 144) (pos tx 1 144)
 have hTD : (mapT tx).us = [newU 1 0 1 ((pos tx 0 144 % 12 : Nat) : Int) ((pos tx 0 144 / 12 : Nat) : Int) 40, newU 2 1 1 ((pos tx 1 144 % 12 : Nat) : Int) ((pos tx 1 144 / 12 : Nat) : Int) 40] := rfl
 rw [← hB] at hm1
 simp only [← hB, basesF] at hmap
 unfold basesF at hm1
 obtain ⟨p, hp⟩ : ∃ p, p = ((pos tx 0 144 % 12 : Nat) : Int) := ⟨_, rfl⟩
 obtain ⟨q, hq⟩ : ∃ p, p = ((pos tx 0 144 / 12 : Nat) : Int) := ⟨_, rfl⟩
 obtain ⟨r, hr⟩ : ∃ p, p = ((pos tx 1 144 % 12 : Nat) : Int) := ⟨_, rfl⟩
 obtain ⟨s, hs⟩ : ∃ p, p = ((pos tx 1 144 / 12 : Nat) : Int) := ⟨_, rfl⟩
 rw [← hp, ← hq, ← hr, ← hs] at hm1 hTD
 simp only [← hp, ← hq, ← hr, ← hs] at hmap
 clear hp hq hr hs
 have HTD := (show Hid _ from hTD)
 clear hTD
 have hms : (B ++ [ii p, ii q, ii r, ii s]).toArray.size = 148 := by simp [hBl]
 have hbld := built_game B hBl
 obtain ⟨ma, hma⟩ : ∃ x, x = (B ++ [ii p, ii q, ii r, ii s]).toArray := ⟨_, rfl⟩
 rw [← hma] at hm1 hms
 simp only [← hma] at hmap
 have HMAP := (show Hid _ from hmap)
 have HMA := (show Hid _ from hma)
 have HB := (show Hid _ from hB)
 have HBL := (show Hid _ from hBl)
 have HM1 := (show Hid _ from hm1)
 have HI3 : Hid ((Tryz.prog.info? 162).map (·.size) = some ma.size) := by
  show _ = _
  rw [hms]; exact infoMap
 have HZ3 : Hid (Tryz.zeroCells162.size = ma.size) := by
  show _ = _
  rw [hms, zcMap]; simp
 clear hma hB hBl hmap hm1 hms
 go_enter Tryz.func35, Tryz.ntmps35
 go_wp2_with fail
 refine Calls.mono (HMAP.out _) ?_
 rintro e w1 ⟨⟨hok, rfl⟩ | ⟨hno, rfl⟩, hf1⟩
 rotate_left
 ·have HNO := (show Hid _ from hno)
  have HRes : Hid (((w1.alloc (.cells Tryz.zeroCells162 162)).setRow w1.heap.size Tryz.zeroCells162).heap[w.heap.size]? = some (.cells Tryz.zeroCells90 90)) := by
   show _ = _
   have h0 := hf1.heap0 (hp_new w (.cells Tryz.zeroCells90 90))
   exact (((Fr.refl [] w1).alloc _).setRow _ _ (Or.inr (Nat.le_refl _))).heap0 h0
  have hw1 : Fr [] w w1 := ((Fr.refl [] w).alloc (.cells Tryz.zeroCells90 90)).then0 hf1
  have HF2 : Hid (Fr [] w ((w1.alloc (.cells Tryz.zeroCells162 162)).setRow w1.heap.size Tryz.zeroCells162)) := (hw1.alloc _).setRow _ _ (Or.inr hw1.size)
  clear hno hf1 HMAP hw1
  dsimp only
  go_wp2_with (first | (refine wpList_store_row rfl 162 _ _ rfl w1.heap.size Tryz.zeroCells162 rfl rfl 162 Tryz.zeroCells162 (hp_new w1 _) zI zS zO ?_) | (refine wpList_store_row rfl 90 _ _ rfl w.heap.size Tryz.zeroCells90 rfl rfl 90 Tryz.zeroCells90 HRes.out zIG rfl zOG ?_))
  refine bodyPost_ret (v := .tuple #[.agg Tryz.zeroCells90, .bool false]) (results_cell_tmp Tryz.results35 _ _ w.heap.size 90 Tryz.zeroCells90 (0, 0) _ _ rfl rfl (setRow_heap _ _ _ _ _ _ HRes.out) Tryz.underlying90 rfl zIG) rfl ⟨Or.inr ⟨HNO.out, rfl⟩, HF2.out.setRow _ _ (Or.inr (Nat.le_refl _))⟩
 have HOK := (show Hid _ from hok)
 clear hok
 dsimp only
 have hw1 : Fr [] w w1 := ((Fr.refl [] w).alloc (.cells Tryz.zeroCells90 90)).then0 hf1
 have hRes : w1.heap[w.heap.size]? = some (.cells Tryz.zeroCells90 90) := hf1.heap0 (hp_new _ _)
 have HR := (show Hid _ from hRes)
 clear HMAP hRes hf1
 have HF2 : Hid (Fr [] w ((w1.alloc (.cells Tryz.zeroCells162 162)).setRow w1.heap.size ma)) := (hw1.alloc _).setRow _ _ (Or.inr hw1.size)
 have HMM : Hid (((w1.alloc (.cells Tryz.zeroCells162 162)).setRow w1.heap.size ma).heap[w1.heap.size]? = some (.cells ma 162)) := setRow_heap _ _ _ _ _ _ (hp_new _ _)
 have HRG : Hid (((w1.alloc (.cells Tryz.zeroCells162 162)).setRow w1.heap.size ma).rangeAt w1.heap.size 0 B) := fun j v hv => by
  rw [Nat.zero_add, cell_of_heap HMM.out, HMA.out]
  simp only [List.getElem?_toArray]
  rw [List.getElem?_append_left (List.getElem?_eq_some_iff.1 hv).1]
  exact hv
 have HI5 : Hid ((Tryz.prog.info? 88).map (·.size) = some B.length) := by
  show _ = _
  rw [infoBoard, HBL.out]
 obtain ⟨G0, hG0⟩ : ∃ x, x = (ii 0 :: ii 1 :: ii 10 :: ii 10 :: (B ++ [Value.slice none 0 0])).toArray := ⟨_, rfl⟩
 rw [← hG0] at hbld
 have HBLD := (show Hid _ from hbld)
 clear hbld
 have HG0 := (show Hid _ from hG0)
 have HIG : Hid ((Tryz.prog.info? 90).map (·.size) = some G0.size) := by
  show _ = _
  rw [infoGame, hG0]; simp [HBL.out]
 have HZG : Hid (Tryz.zeroCells90.size = G0.size) := by
  show _ = _
  rw [zcGame, hG0]; simp [HBL.out]
 have HOG : Hid (G0.all (·.oneCell') = true) := by
  show _ = _
  rw [hG0]
  apply all_oneCell_toArray
  intro v hv
  simp only [List.mem_cons, List.mem_append, List.not_mem_nil, or_false] at hv
  rcases hv with rfl | rfl | rfl | rfl | hv | rfl
  ·rfl
  ·rfl
  ·rfl
  ·rfl
  ·rw [HB.out] at hv
   obtain ⟨j, _, rfl⟩ := List.mem_map.1 hv
   by_cases hj : j < 144
   ·rw [if_pos hj]; rfl
   ·rw [if_neg hj]; rfl
  ·rfl
 have HGP : Hid ((((w1.alloc (.cells Tryz.zeroCells162 162)).setRow w1.heap.size ma).alloc (.cells Tryz.zeroCells90 90)).heap[w1.heap.size + 1]? = some (.cells Tryz.zeroCells90 90)) := hp_at _ _ _ (by simp)
 clear hG0
 have hq : ∀ k v, [ii p, ii q, ii r, ii s][k]? = some v → ((((w1.alloc (.cells Tryz.zeroCells162 162)).setRow w1.heap.size ma).alloc (.cells Tryz.zeroCells90 90)).setRow (w1.heap.size + 1) G0).cell? ⟨w1.heap.size, 144 + k, none⟩ = some v := fun k v hk => by
  have h1 : ((((w1.alloc (.cells Tryz.zeroCells162 162)).setRow w1.heap.size ma).alloc (.cells Tryz.zeroCells90 90)).setRow (w1.heap.size + 1) G0).heap[w1.heap.size]? = some (.cells ma 162) := by
   rw [setRow_other _ _ _ _ (by omega)]
   exact ((Fr.refl [] _).alloc _).heap0 HMM.out
  rw [cell_of_heap h1, HMA.out]
  simp only [List.getElem?_toArray]
  rw [List.getElem?_append_right (by rw [HBL.out]; omega), HBL.out, Nat.add_sub_cancel_left]
  exact hk
 have b4 := hq 0 _ rfl
 have b5 := hq 1 _ rfl
 have b6 := hq 2 _ rfl
 have b7 := hq 3 _ rfl
 clear hq
 go_wp2_with (first | (refine wpList_build3 rfl 90 1 2 3 (.const (.int .i64 1)) (.tmp 17) (.tmp 19) rfl (ii 1) (.agg #[ii 10, ii 10]) (.agg B.toArray) rfl rfl rfl G0 HBLD.out ?_) | (refine wpList_store_row rfl 162 _ _ rfl w1.heap.size ma rfl rfl 162 Tryz.zeroCells162 (hp_new w1 _) HI3.out HZ3.out HM1.out ?_) | (refine wpList_load_mid rfl 88 _ rfl w1.heap.size 0 rfl B _ HRG.out Tryz.underlying88 rfl HI5.out ?_) | (refine wpList_store_row rfl 90 _ _ rfl (w1.heap.size + 1) G0 rfl rfl 90 Tryz.zeroCells90 HGP.out HIG.out HZG.out HOG.out ?_))
 obtain ⟨Wg, hWg⟩ : ∃ W, W = (((w1.alloc (.cells Tryz.zeroCells162 162)).setRow w1.heap.size ma).alloc (.cells Tryz.zeroCells90 90)).setRow (w1.heap.size + 1) G0 := ⟨_, rfl⟩
 rw [← hWg]
 have hgG : Wg.heap[w1.heap.size + 1]? = some (.cells G0 90) := by rw [hWg]; exact setRow_heap _ _ _ _ _ _ HGP.out
 have hwg : Fr [] w Wg := by rw [hWg]; exact (HF2.out.alloc _).setRow _ _ (Or.inr (by have := hw1.size; omega))
 have hRg : Wg.heap[w.heap.size]? = some (.cells Tryz.zeroCells90 90) := by
  have hlt := lt_of_heap HR.out
  have f1 : Fr [] w1 Wg := by rw [hWg]; exact ((((Fr.refl [] w1).alloc _).setRow _ _ (Or.inr (Nat.le_refl _))).alloc _).setRow _ _ (Or.inr (by omega))
  exact f1.heap0 HR.out
 obtain ⟨gb, hgb⟩ : ∃ x, x = w1.heap.size + 1 := ⟨_, rfl⟩
 have hrg : w.heap.size < gb := by have := hw1.size; omega
 rw [← hgb] at hgG ⊢
 have hc148 : Wg.cell? ⟨gb, 148, none⟩ = some (.slice none 0 0) := by
  rw [cell_of_heap hgG, HG0.out]
  simp only [List.getElem?_toArray, List.getElem?_cons_succ]
  rw [List.getElem?_append_right (by rw [HBL.out]; omega), HBL.out]
  rfl
 have hc1 : Wg.cell? ⟨gb, 1, none⟩ = some (ii 1) := by rw [cell_of_heap hgG, HG0.out]; rfl
 have hzg : ∀ j, Wg.frozen? ⟨gb, j, none⟩ = false := fun j => frozen_of_heap hgG
 have hgl := lt_of_heap hgG
 have hN0 : NewX p q r s Wg gb 0 Wg := ⟨⟨_, hc148, ⟨rfl, Or.inl ⟨rfl, rfl⟩⟩⟩, hc1, Fr.refl _ _, fun _ _ _ => rfl, fun _ => rfl⟩
 have HN0 := (show Hid _ from hN0)
 have HZG := (show Hid _ from hzg)
 have HGG := (show Hid _ from hgG)
 have HRG2 := (show Hid _ from hRg)
 clear hWg hgb b4 b5 b6 b7 hgG hRg hc148 hc1 hzg hN0 HMM HRG HF2 HGP
 go_loopw [23] (fun i wr => ∃ k : Nat, k ≤ 2 ∧ i = .int .i64 k ∧ NewX p q r s Wg gb k wr) (fun i _ => 2 - (intOf i).toNat)
 case atStart => exact ⟨0, by omega, rfl, HN0.out⟩
 case round =>
  obtain ⟨k, hk, rfl, hI⟩ := hrel
  have HI := (show Hid _ from hI)
  clear hI
  have hks : k = 0 ∨ k = 1 ∨ k = 2 := by omega
  rcases hks with rfl | rfl | rfl
  ·have hat := atX0 p q r s
   have HAD : Hid (∀ w0, Fr [] wr w0 → Calls Tryz.prog 77 #[.pointer (some ⟨gb, 0, none⟩), .int .i64 0, .int .i64 1, cv p q] w0 fun e w' => e = .returned (.tuple #[]) ∧ NewX p q r s Wg gb 1 w') := fun w0 hf => add_newX p q r s Wg gb 0 wr w0 HI.out hf hgl (by omega) HZG.out p q rfl rfl
   go_wp2_with (go_at_call 77; refine Calls.mono (HAD.out _ ((Fr.refl _ _).alloc _)) ?_; rintro e w2 ⟨rfl, hN⟩)
   go_roundw
   case rel => exact ⟨1, by omega, by go_num, hN⟩
   case measure => simp [intOf]
  ·have hat := atX1 p q r s
   have HAD : Hid (∀ w0, Fr [] wr w0 → Calls Tryz.prog 77 #[.pointer (some ⟨gb, 0, none⟩), .int .i64 1, .int .i64 1, cv r s] w0 fun e w' => e = .returned (.tuple #[]) ∧ NewX p q r s Wg gb 2 w') := fun w0 hf => add_newX p q r s Wg gb 1 wr w0 HI.out hf hgl (by omega) HZG.out r s rfl rfl
   go_wp2_with (go_at_call 77; refine Calls.mono (HAD.out _ ((Fr.refl _ _).alloc _)) ?_; rintro e w2 ⟨rfl, hN⟩)
   go_roundw
   case rel => exact ⟨2, by omega, by go_num, hN⟩
   case measure => simp [intOf]
  ·obtain ⟨⟨v, hv, hown⟩, hnx, hfr, hot, hfz⟩ := HI.out
   have hown' : wr.ownsRow Wg.heap.size 85 11 v 2 ((mapT tx).us.flatMap U.cells) := by rw [HTD.out]; exact hown
   obtain ⟨pb, cap, hvv, hpb, hrow⟩ := PRow.of_owns (us := (mapT tx).us) hown' rfl (by omega)
   have hvv' : v = .slice (some ⟨pb, 0, none⟩) 2 cap := hvv
   have hrng : wr.rangeAt gb 0 (gameL (mapT tx) (.slice (some ⟨pb, 0, none⟩) 2 cap)) := by
    intro j u hu
    have hj : j < 149 := by have := (List.getElem?_eq_some_iff.1 hu).1; rwa [gameL_len] at this
    unfold gameL at hu
    rw [List.getElem?_map, List.getElem?_range hj] at hu
    simp only [Option.map_some, Option.some.injEq] at hu
    rw [← hu, Nat.zero_add]
    by_cases j8 : j = 148
    ·subst j8
     rw [hv, hvv']
     rfl
    ·by_cases j1 : j = 1
     ·subst j1
      rw [hnx]
      rfl
     ·rw [hot j j1 j8, cell_of_heap HGG.out, HG0.out]
      unfold tcell
      by_cases j0 : j = 0
      ·subst j0; rfl
      ·by_cases j2 : j = 2
       ·subst j2; rfl
       ·by_cases j3 : j = 3
        ·subst j3; rfl
        ·obtain ⟨i, rfl⟩ : ∃ i, j = i + 4 := ⟨j - 4, by omega⟩
         simp only [List.getElem?_toArray, List.getElem?_cons_succ]
         rw [if_neg j0, if_neg j1, if_neg j2, if_neg j3, if_pos (by omega), List.getElem?_append_left (by rw [HBL.out]; omega), HB.out]
         unfold boardF
         rw [List.getElem?_map, List.getElem?_range (by omega)]
         simp only [Option.map_some]
         rw [if_pos (by omega)]
         rfl
   obtain ⟨gl, hgle⟩ : ∃ x, x = gameL (mapT tx) (.slice (some ⟨pb, 0, none⟩) 2 cap) := ⟨_, rfl⟩
   have hll : gl.length = 149 := by rw [hgle]; exact gameL_len _ _
   have ho1 : gl.toArray.all (·.oneCell') = true := by rw [hgle]; exact gameL_one _ _ _ _
   rw [← hgle] at hrng
   have HRN := (show Hid _ from hrng)
   have HGE := (show Hid _ from hgle)
   have HO := (show Hid _ from ho1)
   have HL1 : Hid ((Tryz.prog.info? 90).map (·.size) = some gl.length) := by
    show _ = _
    rw [infoGame, hll]
   have HL2 : Hid ((Tryz.prog.info? 90).map (·.size) = some gl.toArray.size) := by
    show _ = _
    rw [infoGame, List.size_toArray, hll]
   have HL3 : Hid (Tryz.zeroCells90.size = gl.toArray.size) := by
    show _ = _
    exact zcGame.trans (by simp [hll])
   have hR := hfr.heap HRG2.out (by simp; omega)
   have HR3 := (show Hid _ from hR)
   clear hgle hll ho1 hrng hvv hvv' hv hown hown' hnx hot hfz hR
   go_wp2_with (first | (refine wpList_load_mid rfl 90 _ rfl gb 0 rfl gl _ HRN.out Tryz.underlying90 rfl HL1.out ?_) | (refine wpList_store_row rfl 90 _ _ rfl w.heap.size gl.toArray rfl rfl 90 Tryz.zeroCells90 HR3.out HL2.out HL3.out HO.out ?_))
   have hF : Fr [w.heap.size] wr (wr.setRow w.heap.size gl.toArray) := (Fr.refl _ _).setRow _ _ (by simp)
   have hsz := hwg.size
   refine bodyPost_ret (v := .tuple #[.agg gl.toArray, .bool true]) (results_cell_tmp Tryz.results35 _ _ w.heap.size 90 gl.toArray (0, 0) _ _ rfl rfl (setRow_heap _ _ _ _ _ _ HR3.out) Tryz.underlying90 rfl HL2.out) rfl ⟨Or.inl ⟨HOK.out, pb, cap, by rw [HGE.out], hrow.fr hF (by simp; omega), by omega⟩, ?_⟩
   exact (hwg.trans hfr (by simp; omega)).setRow _ _ (Or.inr (Nat.le_refl _))
set_option maxRecDepth 100000 in
set_option maxHeartbeats 1000000 in
theorem new_all (tx : ByteArray) (w : World) (hw : 0 < w.heap.size) :
  Calls Tryz.prog 32 #[.string tx] w fun e w' => ((MapOk tx ∧ ∃ gb pb cap, e = .returned (.tuple #[.pointer (some ⟨gb, 0, none⟩), .int .i64 0]) ∧ GS w' gb pb cap (mapT tx) ∧ w.heap.size ≤ gb ∧ w.heap.size ≤ pb) ∨ (¬ MapOk tx ∧ e = .returned (.tuple #[.pointer none, .int .i64 1]))) ∧ Fr [] w w' := by
 obtain ⟨OK, hOK⟩ : ∃ p : Prop, p = MapOk tx := ⟨_, rfl⟩
 have hnew := rulesNew_all tx
 rw [← hOK]
 simp only [← hOK] at hnew
 clear hOK
 have HNEW := (show Hid _ from hnew)
 clear hnew
 go_enter Tryz.func32, Tryz.ntmps32
 go_wp2_with fail
 refine Calls.mono (HNEW.out _) ?_
 rintro e w1 ⟨⟨hok, pb, cap, rfl, hrow, hpb⟩ | ⟨hno, rfl⟩, hf1⟩
 rotate_left
 ·have HNO := (show Hid _ from hno)
  have HF2 : Hid (Fr [] w ((w1.alloc (.cells Tryz.zeroCells90 90)).setRow w1.heap.size Tryz.zeroCells90)) := (hf1.alloc _).setRow _ _ (Or.inr hf1.size)
  clear hno hf1 HNEW
  dsimp only
  go_wp2_with (refine wpList_store_row rfl 90 _ _ rfl w1.heap.size Tryz.zeroCells90 rfl rfl 90 Tryz.zeroCells90 (hp_new w1 _) zIG rfl zOG ?_)
  refine bodyPost_ret (v := .tuple #[.pointer none, .int .i64 1]) (by simp [results, Tryz.results32, go_sem]) rfl ⟨Or.inr ⟨HNO.out, rfl⟩, HF2.out⟩
 have HOK := (show Hid _ from hok)
 clear hok
 dsimp only
 obtain ⟨gl, hgl⟩ : ∃ x, x = gameL (mapT tx) (.slice (some ⟨pb, 0, none⟩) 2 cap) := ⟨_, rfl⟩
 rw [← hgl]
 have hll : gl.length = 149 := by rw [hgl]; exact gameL_len _ _
 have HO : Hid (gl.toArray.all (·.oneCell') = true) := by
  show _ = _
  rw [hgl]; exact gameL_one _ _ _ _
 have HGE := (show Hid _ from hgl)
 have HL2 : Hid ((Tryz.prog.info? 90).map (·.size) = some gl.toArray.size) := by
  show _ = _
  rw [infoGame, List.size_toArray, hll]
 have HL3 : Hid (Tryz.zeroCells90.size = gl.toArray.size) := by
  show _ = _
  exact zcGame.trans (by simp [hll])
 have HBS : Hid (Tryz.prog.built 100 [(0, .agg gl.toArray)] = some gl.toArray) := built_sk _ (by simp [hll])
 have HH : Hid (((w1.alloc (.cells Tryz.zeroCells90 90)).setRow w1.heap.size gl.toArray).heap[w1.heap.size]? = some (.cells gl.toArray 90)) := setRow_heap _ _ _ _ _ _ (hp_new _ _)
 clear hgl hll HNEW
 go_wp2_with (first | (refine wpList_store_row rfl 90 _ _ rfl w1.heap.size gl.toArray rfl rfl 90 Tryz.zeroCells90 (hp_new w1 _) HL2.out HL3.out HO.out ?_) | (refine wpList_load_row rfl 90 _ rfl w1.heap.size rfl 90 gl.toArray (0, 0) _ HH.out Tryz.underlying90 rfl HL2.out ?_) | (refine wpList_build1 rfl 100 0 (.tmp 13) rfl (.agg gl.toArray) rfl gl.toArray HBS.out ?_))
 have hs1 := hf1.size
 have hF : Fr [] w (((w1.alloc (.cells Tryz.zeroCells90 90)).setRow w1.heap.size gl.toArray).alloc (.cells gl.toArray 100)) := ((hf1.alloc _).setRow _ _ (Or.inr hs1)).alloc _
 have h1F : Fr [] w1 (((w1.alloc (.cells Tryz.zeroCells90 90)).setRow w1.heap.size gl.toArray).alloc (.cells gl.toArray 100)) := (((Fr.refl _ _).alloc _).setRow _ _ (Or.inr (Nat.le_refl _))).alloc _
 have hh : (((w1.alloc (.cells Tryz.zeroCells90 90)).setRow w1.heap.size gl.toArray).alloc (.cells gl.toArray 100)).heap[w1.heap.size + 1]? = some (.cells gl.toArray 100) := hp_at _ _ _ (by simp)
 have hpl := hrow.lt
 refine bodyPost_ret (v := .tuple #[.pointer (some ⟨w1.heap.size + 1, 0, none⟩), .int .i64 0]) (by simp [results, Tryz.results32, go_sem]) rfl ⟨Or.inl ⟨HOK.out, w1.heap.size + 1, pb, cap, rfl, ⟨fun k hk => ?_, fun k => frozen_of_heap hh, hrow.fr h1F (by simp), by show 2 ≤ 1000; omega, by show 0 < 2; omega, by omega, by omega, by omega⟩, by omega, hpb⟩, hF⟩
 rw [cell_of_heap hh, HGE.out]
 simp only [List.getElem?_toArray]
 unfold gameL
 rw [List.getElem?_map, List.getElem?_range hk]
 rfl
theorem map_apart (tx : ByteArray) (h : MapOk tx) : pos tx 0 144 < 144 ∧ pos tx 1 144 < 144 ∧ gr tx (pos tx 0 144) = 0 ∧ gr tx (pos tx 1 144) = 0 ∧ pos tx 0 144 ≠ pos tx 1 144 := by
 obtain ⟨a1, a2⟩ := pos_is tx 0 144 (by rw [h.2.2.2.1]; decide)
 obtain ⟨b1, b2⟩ := pos_is tx 1 144 (by rw [h.2.2.2.2]; decide)
 refine ⟨a1, b1, gr_base tx _ (Or.inl a2), gr_base tx _ (Or.inr b2), fun e => ?_⟩
 rw [e, b2] at a2
 exact absurd a2 (by decide)
theorem held_two (a b c d : Int) (e : Cl) : heldOf [newU 1 0 1 a b 40, newU 2 1 1 c d 40] e = if e = (c, d) then some 2 else if e = (a, b) then some 1 else none := rfl
theorem map_ok (tx : ByteArray) (hm : MapOk tx) : GOk (mapT tx) := by
 obtain ⟨p1, q1, p2, q2, hne⟩ := map_apart tx hm
 obtain ⟨p, hp⟩ : ∃ p, p = pos tx 0 144 := ⟨_, rfl⟩
 obtain ⟨q, hq⟩ : ∃ p, p = pos tx 1 144 := ⟨_, rfl⟩
 have hus : (mapT tx).us = [newU 1 0 1 ((p % 12 : Nat) : Int) ((p / 12 : Nat) : Int) 40, newU 2 1 1 ((q % 12 : Nat) : Int) ((q / 12 : Nat) : Int) 40] := by rw [hp, hq]; rfl
 rw [← hp, ← hq] at hne
 rw [← hp] at p1 p2
 rw [← hq] at q1 q2
 have onX : ∀ n, n < 144 → onB ((n % 12 : Nat) : Int) ((n / 12 : Nat) : Int) = true := fun n hn => by
  simp [onB]
  omega
 have ciX : ∀ n, n < 144 → ci ((n % 12 : Nat) : Int) ((n / 12 : Nat) : Int) = n := fun n hn => by
  unfold ci
  omega
 have hpq : ¬ ((((p % 12 : Nat) : Int), ((p / 12 : Nat) : Int)) : Cl) = (((q % 12 : Nat) : Int), ((q / 12 : Nat) : Int)) := by
  intro e
  have e1 := congrArg Prod.fst e
  have e2 := congrArg Prod.snd e
  dsimp only at e1 e2
  omega
 refine ⟨?_, ?_, ?_, by simp [mapT], by simp [mapT], fun i _ => gr_le tx i, by simp [mapT], by simp [mapT, isBase], by simp [mapT, isBase], by simp [mapT, isBase]⟩
 ·show Rise (mapT tx).us
  rw [hus]
  unfold Rise
  simp
 ·intro u hu
  have hu' : u ∈ (mapT tx).us := hu
  show UOk (gr tx) (heldOf (mapT tx).us) 3 u
  rw [hus] at hu' ⊢
  have hu2 : u = newU 1 0 1 ((p % 12 : Nat) : Int) ((p / 12 : Nat) : Int) 40 ∨ u = newU 2 1 1 ((q % 12 : Nat) : Int) ((q / 12 : Nat) : Int) 40 := by simpa using hu'
  rcases hu2 with rfl | rfl
  ·exact ⟨onX p p1, (congrArg (gr tx) (ciX p p1)).trans p2, by rw [held_two]; exact (if_neg hpq).trans (if_pos rfl), Or.inl rfl, Or.inl rfl, by simp [lifeOf], by simp, by simp, Or.inl rfl⟩
  ·exact ⟨onX q q1, (congrArg (gr tx) (ciX q q1)).trans q2, by rw [held_two]; exact if_pos rfl, Or.inr rfl, Or.inl rfl, by simp [lifeOf], by simp, by simp, Or.inl rfl⟩
 ·intro c i h
  have h' : heldOf (mapT tx).us c = some i := h
  show ∃ u ∈ (mapT tx).us, u.id = i ∧ (u.x, u.y) = c
  rw [hus] at h' ⊢
  rw [held_two] at h'
  by_cases h1 : c = (((q % 12 : Nat) : Int), ((q / 12 : Nat) : Int))
  ·rw [if_pos h1] at h'
   cases h'
   exact ⟨newU 2 1 1 ((q % 12 : Nat) : Int) ((q / 12 : Nat) : Int) 40, by simp, rfl, h1.symm⟩
  ·rw [if_neg h1] at h'
   by_cases h2 : c = (((p % 12 : Nat) : Int), ((p / 12 : Nat) : Int))
   ·rw [if_pos h2] at h'
    cases h'
    exact ⟨newU 1 0 1 ((p % 12 : Nat) : Int) ((p / 12 : Nat) : Int) 40, by simp, rfl, h2.symm⟩
   ·rw [if_neg h2] at h'
    cases h'
theorem map_os (tx : ByteArray) : OS (mapT tx) := by
 intro u hu
 have hu' : u ∈ [newU 1 0 1 ((pos tx 0 144 % 12 : Nat) : Int) ((pos tx 0 144 / 12 : Nat) : Int) 40, newU 2 1 1 ((pos tx 1 144 % 12 : Nat) : Int) ((pos tx 1 144 / 12 : Nat) : Int) 40] := hu
 simp at hu'
 rcases hu' with rfl | rfl <;> exact Or.inl ⟨rfl, rfl, rfl, rfl⟩
end Go.Proofs.YtapabahhfanmmaaGreatDoor
