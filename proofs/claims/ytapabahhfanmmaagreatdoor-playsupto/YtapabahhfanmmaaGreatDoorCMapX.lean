import Derived.Test.YtapabahhfanmmaaGreatDoorCStart
namespace Go.Proofs.YtapabahhfanmmaaGreatDoor
open Go.RowKit
def sgn (tx : ByteArray) (j : Nat) : Nat := ((tx.data[(j / 12) * 13 + j % 12]?).map UInt8.toNat).getD 0
def nlAt (tx : ByteArray) (y : Nat) : Nat := ((tx.data[y * 13 + 12]?).map UInt8.toNat).getD 0
def gr (tx : ByteArray) (j : Nat) : Int := (sign (sgn tx j)).1
def ow (tx : ByteArray) (j : Nat) : Int := (sign (sgn tx j)).2.1
def kn (tx : ByteArray) (j : Nat) : Bool := (sign (sgn tx j)).2.2
def cnt (tx : ByteArray) (o : Int) : Nat → Int
  | 0 => 0
  | n + 1 => if ow tx n = o then cnt tx o n + 1 else cnt tx o n
def pos (tx : ByteArray) (o : Int) : Nat → Nat
  | 0 => 0
  | n + 1 => if ow tx n = o then n else pos tx o n
def MapOk (tx : ByteArray) : Prop := tx.size = 156 ∧ (∀ y, y < 12 → nlAt tx y = 10) ∧ (∀ j, j < 144 → kn tx j = true) ∧ cnt tx 0 144 = 1 ∧ cnt tx 1 144 = 1
theorem cnt_le (tx : ByteArray) (o : Int) : ∀ n, 0 ≤ cnt tx o n ∧ cnt tx o n ≤ n
 | 0 => ⟨by simp [cnt], by simp [cnt]⟩
 | n + 1 => by
  have := cnt_le tx o n
  unfold cnt
  split <;> omega
theorem sgn_is (tx : ByteArray) (y x : Nat) (hx : x < 12) (h : y * 13 + x < tx.size) : (tx[y * 13 + x]'h).toNat = sgn tx (y * 12 + x) := by
 unfold sgn
 rw [show (y * 12 + x) / 12 * 13 + (y * 12 + x) % 12 = y * 13 + x by omega]
 have h' : y * 13 + x < tx.data.size := h
 rw [Array.getElem?_eq_getElem h']
 rfl
theorem nl_is (tx : ByteArray) (y : Nat) (h : y * 13 + 12 < tx.size) : (tx[y * 13 + 12]'h).toNat = nlAt tx y := by
 unfold nlAt
 have h' : y * 13 + 12 < tx.data.size := h
 rw [Array.getElem?_eq_getElem h']
 rfl
theorem sgn_le (tx : ByteArray) (j : Nat) : sgn tx j ≤ 255 := by
 unfold sgn
 cases tx.data[(j / 12) * 13 + j % 12]? with
 | none => simp
 | some b => have := b.toNat_lt; simp; omega
theorem nl_le (tx : ByteArray) (j : Nat) : nlAt tx j ≤ 255 := by
 unfold nlAt
 cases tx.data[j * 13 + 12]? with
 | none => simp
 | some b => have := b.toNat_lt; simp; omega
theorem sign_is (s : Nat) : (sign s = (0, -1, false)) ∨ (∃ g, sign s = (g, -1, true) ∧ 0 ≤ g ∧ g ≤ 10) ∨ sign s = (0, 0, true) ∨ sign s = (0, 1, true) := by
 unfold sign
 by_cases a : (s : Int) = 46
 ·rw [if_pos a]; exact Or.inr (Or.inl ⟨0, rfl, by omega, by omega⟩)
 rw [if_neg a]
 by_cases b : (s : Int) = 35
 ·rw [if_pos b]; exact Or.inr (Or.inl ⟨10, rfl, by omega, by omega⟩)
 rw [if_neg b]
 by_cases c : (49 : Int) ≤ s ∧ (s : Int) ≤ 57
 ·rw [if_pos c]; exact Or.inr (Or.inl ⟨_, rfl, by omega, by omega⟩)
 rw [if_neg c]
 by_cases d : (s : Int) = 65
 ·rw [if_pos d]; exact Or.inr (Or.inr (Or.inl rfl))
 rw [if_neg d]
 by_cases e : (s : Int) = 66
 ·rw [if_pos e]; exact Or.inr (Or.inr (Or.inr rfl))
 rw [if_neg e]
 exact Or.inl rfl
theorem gr_le (tx : ByteArray) (j : Nat) : 0 ≤ gr tx j ∧ gr tx j ≤ 10 := by
  unfold gr
  rcases sign_is (sgn tx j) with h | ⟨g, h, h1, h2⟩ | h | h <;> rw [h] <;> dsimp only <;> omega
theorem gr_base (tx : ByteArray) (j : Nat) (h : ow tx j = 0 ∨ ow tx j = 1) : gr tx j = 0 := by
  unfold ow at h
  unfold gr
  rcases sign_is (sgn tx j) with e | ⟨g, e, _, _⟩ | e | e <;> rw [e] at h ⊢ <;> simp at h ⊢
theorem pos_is (tx : ByteArray) (o : Int) : ∀ n, 0 < cnt tx o n → pos tx o n < n ∧ ow tx (pos tx o n) = o
 | 0, h => by simp [cnt] at h
 | n + 1, h => by
  unfold cnt at h
  unfold pos
  by_cases e : ow tx n = o
  ·rw [if_pos e]; exact ⟨by omega, e⟩
  ·rw [if_neg e] at h ⊢
   obtain ⟨h1, h2⟩ := pos_is tx o n h
   exact ⟨by omega, h2⟩
def boardF (f : Nat → Int) (n : Nat) : List Value := (List.range 144).map fun j => if j < n then ii (f j) else ii 0
def basesF (p q : Nat) : List Value := [ii ((p % 12 : Nat) : Int), ii ((p / 12 : Nat) : Int), ii ((q % 12 : Nat) : Int), ii ((q / 12 : Nat) : Int)]
theorem boardF_len (f : Nat → Int) (n : Nat) : (boardF f n).length = 144 := by simp [boardF]
theorem boardF_set (f : Nat → Int) (n : Nat) (l : List Value) (hn : n < 144) : (boardF f n ++ l).toArray.setIfInBounds n (ii (f n)) = (boardF f (n + 1) ++ l).toArray := by
 apply Array.ext_getElem?
 intro i
 rw [Array.getElem?_setIfInBounds]
 have hl := boardF_len f
 by_cases e : n = i
 ·subst e
  rw [if_pos rfl, if_pos (by simp [hl]; omega)]
  simp only [List.getElem?_toArray]
  rw [List.getElem?_append_left (by rw [hl]; omega)]
  unfold boardF
  rw [List.getElem?_map, List.getElem?_range hn]
  simp
 ·rw [if_neg e]
  simp only [List.getElem?_toArray]
  by_cases hi : i < 144
  ·rw [List.getElem?_append_left (by rw [hl]; omega), List.getElem?_append_left (by rw [hl]; omega)]
   unfold boardF
   rw [List.getElem?_map, List.getElem?_map, List.getElem?_range hi]
   simp only [Option.map_some, Option.some.injEq]
   by_cases h1 : i < n
   ·rw [if_pos h1, if_pos (by omega)]
   ·rw [if_neg h1, if_neg (by omega)]
  ·rw [List.getElem?_append_right (by rw [hl]; omega), List.getElem?_append_right (by rw [hl]; omega), hl, hl]
theorem appF_set (f : Nat → Int) (n j : Nat) (l : List Value) (v : Value) : (boardF f n ++ l).toArray.setIfInBounds (144 + j) v = (boardF f n ++ l.set j v).toArray := by
 apply Array.toList_inj.1
 rw [Array.toList_setIfInBounds]
 have hl := boardF_len f n
 simp only []
 rw [List.set_append_right _ _ (by omega), hl, Nat.add_sub_cancel_left]
theorem mapF_one (f : Nat → Int) (n p q : Nat) : (boardF f n ++ basesF p q).toArray.all (·.oneCell') = true := by
 apply all_oneCell_toArray
 intro v hv
 rcases List.mem_append.1 hv with hv | hv
 ·obtain ⟨j, _, rfl⟩ := List.mem_map.1 hv
  by_cases hj : j < n
  ·rw [if_pos hj]; rfl
  ·rw [if_neg hj]; rfl
 ·simp only [basesF, List.mem_cons, List.not_mem_nil, or_false] at hv
  rcases hv with rfl | rfl | rfl | rfl <;> rfl
structure MapJ (tx : ByteArray) (A : Nat) (W3 : World) (n : Nat) (wr : World) : Prop where
 fr : Fr [A + 1, A + 1 + 1] W3 wr
 m : wr.heap[A + 1]? = some (.cells (boardF (gr tx) n ++ basesF (pos tx 0 n) (pos tx 1 n)).toArray 162)
 b : wr.heap[A + 1 + 1]? = some (.cells #[ii (cnt tx 0 n), ii (cnt tx 1 n)] 54)
 k : ∀ j, j < n → kn tx j = true
theorem zI : (Tryz.prog.info? 162).map (·.size) = some Tryz.zeroCells162.size := by kernel_rfl
theorem zS : Tryz.zeroCells162.size = Tryz.zeroCells162.size := rfl
theorem zO : Tryz.zeroCells162.all (·.oneCell') = true := by kernel_rfl
theorem boardF_0 (f : Nat → Int) : boardF f 0 = (List.range 144).map (fun _ => ii 0) := by
 unfold boardF
 apply List.map_congr_left
 intro j _
 rw [if_neg (by omega)]
theorem eqTwoX (a b : Int) (w : World) : (Op.equalIn 10000 54 (.agg #[ii a, ii b]) (.agg #[ii 1, ii 1])).run Tryz.prog w = .ok (a == 1 && b == 1) w := by
 have u3 := Tryz.underlying3
 rw [show (10000 : Nat) = 9999 + 1 from rfl, Op.equalIn]
 simp only [Sem.run_bind, run_underlying Tryz.underlying54, Result.andThen_ok]
 simp only [Std.Legacy.Range.forIn_eq_forIn_range', Std.Legacy.Range.size, Nat.sub_zero, Nat.add_sub_cancel, Nat.div_one, List.range'_succ, List.range'_zero, List.forIn_cons, List.forIn_nil]
 by_cases h1 : a = 1 <;> by_cases h2 : b = 1 <;> simp [go_sem, u3, h1, h2]
theorem neq22 (a b : Int) (w : World) : (binOp BinOp.neq 54 (.agg #[ii a, ii b]) (.agg #[ii 1, ii 1])).run Tryz.prog w = .ok (.bool (!(a == 1 && b == 1))) w := by
  have h2 := eqTwoX a b w
  simp [go_sem, h2]
set_option maxRecDepth 100000 in
set_option maxHeartbeats 1000000 in
theorem readMap_all (tx : ByteArray) (w : World) :
  Calls Tryz.prog 76 #[.string tx] w fun e w' => ((MapOk tx ∧ e = .returned (.tuple #[.agg (boardF (gr tx) 144 ++ basesF (pos tx 0 144) (pos tx 1 144)).toArray, .bool true])) ∨ (¬ MapOk tx ∧ e = .returned (.tuple #[.agg Tryz.zeroCells162, .bool false]))) ∧ Fr [] w w' := by
 obtain ⟨OK, hOK⟩ : ∃ p : Prop, p = MapOk tx := ⟨_, rfl⟩
 rw [← hOK]
 have HOK := (show Hid _ from hOK)
 clear hOK
 by_cases hsz : tx.size = 156
 ·have HNL : Hid (∀ y (h : y < 12), (tx[y * 13 + 12]'(by omega)).toNat = nlAt tx y) := fun y h => nl_is tx y (by omega)
  have HSN : Hid (∀ y x (h : y < 12) (h' : x < 12), (tx[y * 13 + x]'(by omega)).toNat = sgn tx (y * 12 + x)) := fun y x h h' => sgn_is tx y x h' (by omega)
  go_enter Tryz.func76, Tryz.ntmps76
  go_wp2_with fail
  obtain ⟨W3, hW3⟩ : ∃ W, W = ((w.alloc (.cells Tryz.zeroCells162 162)).alloc (.cells Tryz.zeroCells162 162)).alloc (.cells #[ii 0, ii 0] 54) := ⟨_, rfl⟩
  rw [← hW3]
  have h03 : Fr [] w W3 := by rw [hW3]; exact (((Fr.refl _ _).alloc _).alloc _).alloc _
  have hA : W3.heap[w.heap.size]? = some (.cells Tryz.zeroCells162 162) := by rw [hW3]; exact ((Fr.refl [] _).alloc _).heap0 (hp_old2 _ _ _)
  have hI0 : MapJ tx w.heap.size W3 0 W3 := by
   refine ⟨Fr.refl _ _, ?_, ?_, fun j hj => by omega⟩
   ·rw [hW3]
    have := ((Fr.refl [] _).alloc (.cells #[ii 0, ii 0] 54)).heap0 (hp_new2 w (.cells Tryz.zeroCells162 162) (.cells Tryz.zeroCells162 162))
    rw [this, zcMap, boardF_0]
    simp [basesF, pos]
   ·rw [hW3]; exact hp_at _ _ _ (by simp)
  clear hW3
  obtain ⟨A, hAA⟩ : ∃ x, x = w.heap.size := ⟨_, rfl⟩
  rw [← hAA] at hA hI0 ⊢
  have hAw : w.heap.size ≤ A := by omega
  clear hAA
  go_loopw [15] (fun i wr => ∃ y : Nat, y ≤ 12 ∧ i = .int .i64 y ∧ MapJ tx A W3 (y * 12) wr ∧ ∀ k, k < y → nlAt tx k = 10) (fun i _ => 12 - (intOf i).toNat)
  case atStart => exact ⟨0, Nat.zero_le _, rfl, hI0, fun k hk => by omega⟩
  case round =>
   obtain ⟨y, hy, rfl, hI, hyn⟩ := hrel
   have HYN := (show Hid _ from hyn)
   clear hyn
   by_cases hlt : y < 12
   ·have hlti : (y : Int) < 12 := by omega
    have hnl : (tx[y * 13 + 12]'(by omega)).toNat = nlAt tx y := HNL.out y hlt
    have hnb := nl_le tx y
    have HI := (show Hid _ from hI)
    clear hI
    by_cases hnn : nlAt tx y = 10
    ·rw [hnn] at hnl
     have HNN := (show Hid _ from hnn)
     clear hnn hnb
     go_wp2_with fail
     obtain ⟨wo, hwo⟩ : ∃ x, x = wr := ⟨_, rfl⟩
     rw [← hwo] at HI ⊢
     clear hwo hnl
     go_loopw [25] (fun i wr => ∃ x : Nat, x ≤ 12 ∧ i = .int .i64 x ∧ MapJ tx A W3 (y * 12 + x) wr) (fun i _ => 12 - (intOf i).toNat)
     case atStart => exact ⟨0, Nat.zero_le _, rfl, HI.out⟩
     case round =>
      obtain ⟨x, hx, rfl, hI⟩ := hrel
      by_cases hxt : x < 12
      ·have hxti : (x : Int) < 12 := by omega
       have hsg : (tx[y * 13 + x]'(by omega)).toNat = sgn tx (y * 12 + x) := HSN.out y x hlt hxt
       have hm := hI.m
       have hbb := hI.b
       have hcm : ∀ k, k < 148 → (wr.cell? ⟨A + 1, k, none⟩).isSome = true := fun k hk => by
        rw [cell_of_heap hm]
        simp [boardF, basesF]
        omega
       have hzm : ∀ k, wr.frozen? ⟨A + 1, k, none⟩ = false := fun k => frozen_of_heap hm
       obtain ⟨old, hold⟩ := Option.isSome_iff_exists.1 (hcm (y * 12 + x) (by omega))
       have hzo := hzm (y * 12 + x)
       have HM := (show Hid _ from hm)
       have HBB := (show Hid _ from hbb)
       have HI2 := (show Hid _ from hI)
       have hsle := sgn_le tx (y * 12 + x)
       have hbs := boardF_set (gr tx) (y * 12 + x) (basesF (pos tx 0 (y * 12 + x)) (pos tx 1 (y * 12 + x))) (by omega)
       have HBS := (show Hid _ from hbs)
       obtain ⟨j, hj⟩ : ∃ j, y * 12 + x = j := ⟨_, rfl⟩
       have HKJ := (show Hid _ from hI.k)
       have hc0 := cnt_le tx 0 j
       have hc1 := cnt_le tx 1 j
       rw [hj] at hsg HM HBB HI2 hsle HBS HKJ
       have HJ := (show Hid _ from hj)
       have hj144 : j < 144 := by omega
       have hjd : ((j % 12 : Nat) : Int) = x ∧ ((j / 12 : Nat) : Int) = y := by omega
       have HJD := (show Hid _ from hjd)
       clear hjd
       rcases sign_is (sgn tx j) with hsv | ⟨g, hsv, hg0, hg1⟩ | hsv | hsv
       ·have HNO : Hid (¬ OK) := by
         show ¬ OK
         rw [HOK.out]
         intro h
         have := h.2.2.1 j hj144
         unfold kn at this
         rw [hsv] at this
         cases this
        have HSV := (show Hid _ from hsv)
        have HFR := HI2.out.fr
        have HAA := HFR.heap hA (by simp; omega)
        clear hI HI hm hbb hcm hzm hsv hbs hj
        have HAZ := (show Hid _ from HAA)
        go_wp2_with (first | (go_at_call 120; refine (readSign_any _ _ (by omega) (by omega)).mono ?_; rintro e w1 ⟨rfl, rfl⟩; rw [HSV.out]) | (refine wpList_store_row rfl 162 _ _ rfl A Tryz.zeroCells162 rfl rfl 162 Tryz.zeroCells162 HAZ.out zI zS zO ?_))
        refine bodyPost_ret (v := .tuple #[.agg Tryz.zeroCells162, .bool false]) (results_cell_tmp Tryz.results76 _ _ A 162 Tryz.zeroCells162 (0, 0) _ _ rfl rfl (setRow_heap _ _ _ _ _ _ HAZ.out) Tryz.underlying162 rfl zI) rfl ⟨Or.inr ⟨HNO.out, rfl⟩, (h03.trans HFR (by simp; omega)).setRow _ _ (Or.inr hAw)⟩
       ·have e1 : gr tx j = g := by unfold gr; rw [hsv]
        have e2 : ow tx j = -1 := by unfold ow; rw [hsv]
        have HK2 : Hid (kn tx j = true) := by show kn tx j = true; unfold kn; rw [hsv]
        have HG1 := (show Hid _ from e1)
        have HO1 := (show Hid _ from e2)
        have HSV := (show Hid _ from hsv)
        clear hI HI hm hbb hcm hzm hsv hbs hj e1 e2
        go_wp2_with (go_at_call 120; refine (readSign_any _ _ (by omega) (by omega)).mono ?_; rintro e w1 ⟨rfl, rfl⟩; rw [HSV.out])
        go_roundw
        case rel =>
         refine ⟨x + 1, hxt, by go_num, ?_⟩
         rw [show y * 12 + (x + 1) = j + 1 by have := HJ.out; omega]
         have p0 : pos tx 0 (j + 1) = pos tx 0 j ∧ pos tx 1 (j + 1) = pos tx 1 j := by unfold pos; rw [HO1.out, if_neg (by decide), if_neg (by decide)]; exact ⟨by cases j <;> rfl, by cases j <;> rfl⟩
         have p1 : cnt tx 0 (j + 1) = cnt tx 0 j ∧ cnt tx 1 (j + 1) = cnt tx 1 j := by unfold cnt; rw [HO1.out, if_neg (by decide), if_neg (by decide)]; exact ⟨by cases j <;> rfl, by cases j <;> rfl⟩
         refine ⟨HI2.out.fr.setCell _ _ (by simp), ?_, ?_, ?_⟩
         ·rw [HJ.out, set_arr HM.out, p0.1, p0.2, ← HBS.out, HG1.out]
         ·rw [Below.heap_setCell _ _ _ _ (by simp), HBB.out, p1.1, p1.2]
         ·intro k hk
          by_cases e : k = j
          ·rw [e]; exact HK2.out
          ·exact HKJ.out k (by omega)
        case measure => simp [intOf]; omega
       ·have e1 : gr tx j = 0 := by unfold gr; rw [hsv]
        have e2 : ow tx j = 0 := by unfold ow; rw [hsv]
        have HK2 : Hid (kn tx j = true) := by show kn tx j = true; unfold kn; rw [hsv]
        have HG1 := (show Hid _ from e1)
        have HO1 := (show Hid _ from e2)
        have HSV := (show Hid _ from hsv)
        obtain ⟨o4, ho4⟩ := Option.isSome_iff_exists.1 (hcm 144 (by omega))
        obtain ⟨o5, ho5⟩ := Option.isSome_iff_exists.1 (hcm 145 (by omega))
        have hz4 := hzm 144
        have hz5 := hzm 145
        have hk0 : wr.cell? ⟨A + 1 + 1, 0, none⟩ = some (ii (cnt tx 0 j)) := by rw [cell_of_heap HBB.out]; rfl
        have hkz : wr.frozen? ⟨A + 1 + 1, 0, none⟩ = false := frozen_of_heap hbb
        have j1 : ¬ y * 12 + x = 144 := by omega
        have j2 : ¬ y * 12 + x = 145 := by omega
        have j3 : ¬ 144 = y * 12 + x := by omega
        have j4 : ¬ 145 = y * 12 + x := by omega
        clear hI HI hm hbb hcm hzm hsv hbs hj e1 e2
        go_wp2_with (go_at_call 120; refine (readSign_any _ _ (by omega) (by omega)).mono ?_; rintro e w1 ⟨rfl, rfl⟩; rw [HSV.out])
        go_roundw
        case rel =>
         refine ⟨x + 1, hxt, by go_num, ?_⟩
         rw [show y * 12 + (x + 1) = j + 1 by have := HJ.out; omega]
         have p0 : pos tx 0 (j + 1) = j ∧ pos tx 1 (j + 1) = pos tx 1 j := ⟨by unfold pos; rw [HO1.out, if_pos rfl], by unfold pos; rw [HO1.out, if_neg (by decide)]; cases j <;> rfl⟩
         have p1 : cnt tx 0 (j + 1) = cnt tx 0 j + 1 ∧ cnt tx 1 (j + 1) = cnt tx 1 j := ⟨by rw [cnt, HO1.out, if_pos rfl], by rw [cnt, HO1.out, if_neg (by decide)]⟩
         refine ⟨(((HI2.out.fr.setCell _ _ (by simp)).setCell _ _ (by simp)).setCell _ _ (by simp)).setCell _ _ (by simp), ?_, ?_, ?_⟩
         ·rw [HJ.out, Below.heap_setCell _ _ _ _ (by simp), set_arr (set_arr (set_arr HM.out _ _) _ _) _ _]
          have e1 := HBS.out
          rw [HG1.out] at e1
          have e2 := appF_set (gr tx) (j + 1) 0 (basesF (pos tx 0 j) (pos tx 1 j)) (ii x)
          have e3 := appF_set (gr tx) (j + 1) 1 ((basesF (pos tx 0 j) (pos tx 1 j)).set 0 (ii x)) (ii y)
          have e4 : ((basesF (pos tx 0 j) (pos tx 1 j)).set 0 (ii x)).set 1 (ii y) = basesF (pos tx 0 (j + 1)) (pos tx 1 (j + 1)) := by
           rw [p0.1, p0.2]
           unfold basesF
           rw [HJD.out.1, HJD.out.2]
           rfl
          rw [e4] at e3
          exact congrArg (fun a => some (Obj.cells a 162)) ((congrArg (fun a => (a.setIfInBounds 144 (ii x)).setIfInBounds 145 (ii y)) e1).trans ((congrArg (fun a => a.setIfInBounds 145 (ii y)) e2).trans e3))
         ·refine (set_arr ((Below.heap_setCell _ _ _ _ (by simp)).trans ((Below.heap_setCell _ _ _ _ (by simp)).trans ((Below.heap_setCell _ _ _ _ (by simp)).trans HBB.out))) _ _).trans ?_
          rw [p1.1, p1.2]
          rfl
         ·intro k hk
          by_cases e : k = j
          ·rw [e]; exact HK2.out
          ·exact HKJ.out k (by omega)
        case measure => simp [intOf]; omega
       ·have e1 : gr tx j = 0 := by unfold gr; rw [hsv]
        have e2 : ow tx j = 1 := by unfold ow; rw [hsv]
        have HK2 : Hid (kn tx j = true) := by show kn tx j = true; unfold kn; rw [hsv]
        have HG1 := (show Hid _ from e1)
        have HO1 := (show Hid _ from e2)
        have HSV := (show Hid _ from hsv)
        obtain ⟨o4, ho4⟩ := Option.isSome_iff_exists.1 (hcm 146 (by omega))
        obtain ⟨o5, ho5⟩ := Option.isSome_iff_exists.1 (hcm 147 (by omega))
        have hz4 := hzm 146
        have hz5 := hzm 147
        have hk0 : wr.cell? ⟨A + 1 + 1, 1, none⟩ = some (ii (cnt tx 1 j)) := by rw [cell_of_heap HBB.out]; rfl
        have hkz : wr.frozen? ⟨A + 1 + 1, 1, none⟩ = false := frozen_of_heap hbb
        have j1 : ¬ y * 12 + x = 146 := by omega
        have j2 : ¬ y * 12 + x = 147 := by omega
        have j3 : ¬ 146 = y * 12 + x := by omega
        have j4 : ¬ 147 = y * 12 + x := by omega
        clear hI HI hm hbb hcm hzm hsv hbs hj e1 e2
        go_wp2_with (go_at_call 120; refine (readSign_any _ _ (by omega) (by omega)).mono ?_; rintro e w1 ⟨rfl, rfl⟩; rw [HSV.out])
        go_roundw
        case rel =>
         refine ⟨x + 1, hxt, by go_num, ?_⟩
         rw [show y * 12 + (x + 1) = j + 1 by have := HJ.out; omega]
         have p0 : pos tx 1 (j + 1) = j ∧ pos tx 0 (j + 1) = pos tx 0 j := ⟨by unfold pos; rw [HO1.out, if_pos rfl], by unfold pos; rw [HO1.out, if_neg (by decide)]; cases j <;> rfl⟩
         have p1 : cnt tx 1 (j + 1) = cnt tx 1 j + 1 ∧ cnt tx 0 (j + 1) = cnt tx 0 j := ⟨by rw [cnt, HO1.out, if_pos rfl], by rw [cnt, HO1.out, if_neg (by decide)]⟩
         refine ⟨(((HI2.out.fr.setCell _ _ (by simp)).setCell _ _ (by simp)).setCell _ _ (by simp)).setCell _ _ (by simp), ?_, ?_, ?_⟩
         ·rw [HJ.out, Below.heap_setCell _ _ _ _ (by simp), set_arr (set_arr (set_arr HM.out _ _) _ _) _ _]
          have e1 := HBS.out
          rw [HG1.out] at e1
          have e2 := appF_set (gr tx) (j + 1) 2 (basesF (pos tx 0 j) (pos tx 1 j)) (ii x)
          have e3 := appF_set (gr tx) (j + 1) 3 ((basesF (pos tx 0 j) (pos tx 1 j)).set 2 (ii x)) (ii y)
          have e4 : ((basesF (pos tx 0 j) (pos tx 1 j)).set 2 (ii x)).set 3 (ii y) = basesF (pos tx 0 (j + 1)) (pos tx 1 (j + 1)) := by
           rw [p0.1, p0.2]
           unfold basesF
           rw [HJD.out.1, HJD.out.2]
           rfl
          rw [e4] at e3
          exact congrArg (fun a => some (Obj.cells a 162)) ((congrArg (fun a => (a.setIfInBounds 146 (ii x)).setIfInBounds 147 (ii y)) e1).trans ((congrArg (fun a => a.setIfInBounds 147 (ii y)) e2).trans e3))
         ·refine (set_arr ((Below.heap_setCell _ _ _ _ (by simp)).trans ((Below.heap_setCell _ _ _ _ (by simp)).trans ((Below.heap_setCell _ _ _ _ (by simp)).trans HBB.out))) _ _).trans ?_
          rw [p1.1, p1.2]
          rfl
         ·intro k hk
          by_cases e : k = j
          ·rw [e]; exact HK2.out
          ·exact HKJ.out k (by omega)
        case measure => simp [intOf]; omega
      ·have hx12 : x = 12 := by omega
       subst hx12
       go_wp2_with fail
       go_roundw
       case rel =>
        refine ⟨y + 1, hlt, by go_num, by rw [show (y + 1) * 12 = y * 12 + 12 by omega]; exact hI, fun k hk => ?_⟩
        by_cases e : k = y
        ·rw [e]; exact HNN.out
        ·exact HYN.out k (by omega)
       case measure => simp [intOf]; omega
    ·have HNO : Hid (¬ OK) := by
      show ¬ OK
      rw [HOK.out]
      intro h
      exact hnn (h.2.1 y hlt)
     have HFR := HI.out.fr
     have HAA := HFR.heap hA (by simp; omega)
     have hnv : ¬ ((nlAt tx y : Nat) : Int) = 10 := by omega
     clear hnn
     have HAZ := (show Hid _ from HAA)
     go_wp2_with (refine wpList_store_row rfl 162 _ _ rfl A Tryz.zeroCells162 rfl rfl 162 Tryz.zeroCells162 HAZ.out zI zS zO ?_)
     refine bodyPost_ret (v := .tuple #[.agg Tryz.zeroCells162, .bool false]) (results_cell_tmp Tryz.results76 _ _ A 162 Tryz.zeroCells162 (0, 0) _ _ rfl rfl (setRow_heap _ _ _ _ _ _ HAZ.out) Tryz.underlying162 rfl zI) rfl ⟨Or.inr ⟨HNO.out, rfl⟩, (h03.trans HFR (by simp; omega)).setRow _ _ (Or.inr hAw)⟩
   ·have hy12 : y = 12 := by omega
    subst hy12
    have hm := hI.m
    have hbb := hI.b
    obtain ⟨n0, hn0⟩ : ∃ x, cnt tx 0 144 = x := ⟨_, rfl⟩
    obtain ⟨n1, hn1⟩ : ∃ x, cnt tx 1 144 = x := ⟨_, rfl⟩
    have hb0 : wr.cell? ⟨A + 1 + 1, 0, none⟩ = some (ii n0) := by rw [cell_of_heap hbb, ← hn0]; rfl
    have hb1 : wr.cell? ⟨A + 1 + 1, 1, none⟩ = some (ii n1) := by rw [cell_of_heap hbb, ← hn1]; rfl
    have HM := (show Hid _ from hm)
    have hI2 := hI.fr
    have HKJ := (show Hid _ from hI.k)
    clear hI hm hbb
    have hon := neq22 n0 n1
    have hA2 := hI2.heap hA (by simp; omega)
    by_cases hnn : n0 = 1 ∧ n1 = 1
    ·obtain ⟨rfl, rfl⟩ := hnn
     have HYES : Hid OK := by
      show OK
      rw [HOK.out]
      exact ⟨hsz, HYN.out, HKJ.out, hn0, hn1⟩
     obtain ⟨ma, hma⟩ : ∃ x, x = (boardF (gr tx) 144 ++ basesF (pos tx 0 144) (pos tx 1 144)).toArray := ⟨_, rfl⟩
     have hM : wr.heap[A + 1]? = some (.cells ma 162) := by rw [hma]; exact HM.out
     have hms : ma.size = 148 := by rw [hma]; simp [boardF, basesF]
     have hm1 : ma.all (·.oneCell') = true := by rw [hma]; exact mapF_one _ _ _ _
     have HMA := (show Hid _ from hma)
     have HI3 : Hid ((Tryz.prog.info? 162).map (·.size) = some ma.size) := by
      show _ = _
      rw [hms]; kernel_rfl
     have HZ3 : Hid (Tryz.zeroCells162.size = ma.size) := by
      show _ = _
      rw [hms, zcMap]; simp
     have HO3 := (show Hid _ from hm1)
     have HA2 := (show Hid _ from hA2)
     have HM3 := (show Hid _ from hM)
     clear hma hms hm1 hA2 hM hn0 hn1
     go_wp2_with (first | (refine wpList_load_row rfl 162 _ rfl (A + 1) rfl 162 ma (0, 0) _ HM3.out Tryz.underlying162 rfl HI3.out ?_) | (refine wpList_store_row rfl 162 _ _ rfl A ma rfl rfl 162 Tryz.zeroCells162 HA2.out HI3.out HZ3.out HO3.out ?_))
     refine bodyPost_ret (v := .tuple #[.agg ma, .bool true]) (results_cell_tmp Tryz.results76 _ _ A 162 ma (0, 0) _ _ rfl rfl (setRow_heap _ _ _ _ _ _ HA2.out) Tryz.underlying162 rfl HI3.out) rfl ⟨Or.inl ⟨HYES.out, by rw [HMA.out]⟩, ?_⟩
     exact (h03.trans hI2 (by simp; omega)).setRow _ _ (Or.inr hAw)
    ·have HNO : Hid (¬ OK) := by
      show ¬ OK
      rw [HOK.out]
      intro h
      exact hnn ⟨hn0.symm.trans h.2.2.2.1, hn1.symm.trans h.2.2.2.2⟩
     have hbv : (!(n0 == 1 && n1 == 1)) = true := by
      simp only [Bool.not_eq_true', Bool.and_eq_false_iff, beq_eq_false_iff_ne]
      omega
     simp only [hbv] at hon
     clear hn0 hn1 hnn
     have HAZ := (show Hid _ from hA2)
     go_wp2_with (refine wpList_store_row rfl 162 _ _ rfl A Tryz.zeroCells162 rfl rfl 162 Tryz.zeroCells162 HAZ.out zI zS zO ?_)
     refine bodyPost_ret (v := .tuple #[.agg Tryz.zeroCells162, .bool false]) (results_cell_tmp Tryz.results76 _ _ A 162 Tryz.zeroCells162 (0, 0) _ _ rfl rfl (setRow_heap _ _ _ _ _ _ HAZ.out) Tryz.underlying162 rfl zI) rfl ⟨Or.inr ⟨HNO.out, rfl⟩, (h03.trans hI2 (by simp; omega)).setRow _ _ (Or.inr hAw)⟩
 ·have HNO : Hid (¬ OK) := by
   show ¬ OK
   rw [HOK.out]
   intro h
   exact hsz h.1
  have hszi : ¬ (tx.size : Int) = 156 := by omega
  clear hsz
  have HAW := hp_new w (.cells Tryz.zeroCells162 162)
  go_enter Tryz.func76, Tryz.ntmps76
  have HAZ := (show Hid _ from HAW)
  go_wp2_with (refine wpList_store_row rfl 162 _ _ rfl w.heap.size Tryz.zeroCells162 rfl rfl 162 Tryz.zeroCells162 HAZ.out zI zS zO ?_)
  refine bodyPost_ret (v := .tuple #[.agg Tryz.zeroCells162, .bool false]) (results_cell_tmp Tryz.results76 _ _ w.heap.size 162 Tryz.zeroCells162 (0, 0) _ _ rfl rfl (setRow_heap _ _ _ _ _ _ HAZ.out) Tryz.underlying162 rfl zI) rfl ⟨Or.inr ⟨HNO.out, rfl⟩, ((Fr.refl [] w).alloc _).setRow _ _ (Or.inr (Nat.le_refl _))⟩
end Go.Proofs.YtapabahhfanmmaaGreatDoor
