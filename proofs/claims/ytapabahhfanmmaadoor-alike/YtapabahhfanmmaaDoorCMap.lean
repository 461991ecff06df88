import Derived.Test.YtapabahhfanmmaaDoorCText
import Derived.Test.YtapabahhfanmmaaDoorCSign
import Derived.Test.YtapabahhfanmmaaDoorCBegin
/- A map is read. -/
namespace Go.Proofs.YtapabahhfanmmaaDoor
open Go.RowKit

/-- What a byte of a map says of the ground. -/
def groundOf (c : UInt8) : Int := if c = 35 then 10 else if 49 ≤ c ∧ c ≤ 57 then (c.toNat : Int) - 48 else 0
theorem sign_cases (cs : List Int) (j : Nat) : (j = 0 ∧ signOf cs j = 65) ∨ (j = 143 ∧ signOf cs j = 66) ∨ (j ≠ 0 ∧ j ≠ 143 ∧ (signOf cs j = 46 ∨ signOf cs j = 35 ∨ signOf cs j = 50 ∨ signOf cs j = 53 ∨ signOf cs j = 55 ∨ signOf cs j = 57)) := by
  unfold signOf
  by_cases h0 : j = 0
  · exact Or.inl ⟨h0, by rw [if_pos h0]⟩
  · by_cases h1 : j = 143
    · exact Or.inr (Or.inl ⟨h1, by rw [if_neg h0, if_pos h1]⟩)
    · refine Or.inr (Or.inr ⟨h0, h1, ?_⟩)
      rw [if_neg h0, if_neg h1]
      cases cs[j]? with
      | none => exact Or.inl rfl
      | some c =>
        dsimp only
        repeat' split
        all_goals simp
theorem textTo_pos (cs : List Int) : ∀ n, (textTo cs n).length = n + n / 12 ∧ ∀ j, j < n → (textTo cs n)[j + j / 12]? = some (signOf cs j) ∧ (j % 12 = 11 → (textTo cs n)[j + j / 12 + 1]? = some 10)
  | 0 => ⟨rfl, fun j h => by omega⟩
  | n + 1 => by
    obtain ⟨h1, h2⟩ := textTo_pos cs n
    by_cases hm : n % 12 = 11
    · rw [← text_mid1 rfl hm]
      refine ⟨by simp [h1]; omega, fun j hj => ?_⟩
      by_cases hjn : j < n
      · obtain ⟨q1, q2⟩ := h2 j hjn
        rw [List.append_assoc]
        refine ⟨by rw [List.getElem?_append_left (by omega)]; exact q1, fun h => ?_⟩
        rw [List.getElem?_append_left (by omega)]; exact q2 h
      · have : j = n := by omega
        subst this
        rw [List.append_assoc]
        refine ⟨?_, fun _ => ?_⟩
        · rw [List.getElem?_append_right (by omega), h1, Nat.sub_self]; rfl
        · rw [List.getElem?_append_right (by omega), h1, show j + j / 12 + 1 - (j + j / 12) = 1 by omega]; rfl
    · rw [← text_mid2 rfl hm]
      refine ⟨by simp [h1]; omega, fun j hj => ?_⟩
      by_cases hjn : j < n
      · obtain ⟨q1, q2⟩ := h2 j hjn
        refine ⟨by rw [List.getElem?_append_left (by omega)]; exact q1, fun h => ?_⟩
        rw [List.getElem?_append_left (by omega)]; exact q2 h
      · have : j = n := by omega
        subst this
        refine ⟨?_, fun h => absurd h hm⟩
        rw [List.getElem?_append_right (by omega), h1, Nat.sub_self]; rfl
theorem text_len (cs : List Int) : (textTo cs 144).length = 156 := (textTo_pos cs 144).1
theorem text_sign (cs : List Int) (y x : Nat) (hy : y < 12) (hx : x < 12) : (textTo cs 144)[y * 13 + x]? = some (signOf cs (y * 12 + x)) := by
  have := ((textTo_pos cs 144).2 (y * 12 + x) (by omega)).1
  rwa [show y * 12 + x + (y * 12 + x) / 12 = y * 13 + x by omega] at this
theorem text_nl (cs : List Int) (y : Nat) (hy : y < 12) : (textTo cs 144)[y * 13 + 12]? = some 10 := by
  have := ((textTo_pos cs 144).2 (y * 12 + 11) (by omega)).2 (by omega)
  rwa [show y * 12 + 11 + (y * 12 + 11) / 12 + 1 = y * 13 + 12 by omega] at this

/-- The board of a map's text. -/
def bdOf (cs : List Int) (j : Nat) : Int := groundOf (signOf cs j)
def boardTo (cs : List Int) (n : Nat) : List Value := (List.range 144).map fun j => if j < n then ii (bdOf cs j) else ii 0

def basesTo (n : Nat) : List Value := [ii 0, ii 0, if 143 < n then ii 11 else ii 0, if 143 < n then ii 11 else ii 0]
def countTo (n : Nat) : List Value := [if 0 < n then ii 1 else ii 0, if 143 < n then ii 1 else ii 0]
structure MapI (cs : List Int) (A : Nat) (W3 : World) (n : Nat) (wr : World) : Prop where
  fr : Fr [A + 1, A + 1 + 1] W3 wr
  m : wr.heap[A + 1]? = some (.cells (boardTo cs n ++ basesTo n).toArray 99)
  b : wr.heap[A + 1 + 1]? = some (.cells (countTo n).toArray 34)
theorem zcMap : Tryd.zeroCells99 = ((List.range 144).map (fun _ => ii 0) ++ [ii 0, ii 0, ii 0, ii 0]).toArray := by kernel_rfl

theorem board_set (cs : List Int) (n : Nat) (l : List Value) (hn : n < 144) : (boardTo cs n ++ l).toArray.setIfInBounds n (ii (bdOf cs n)) = (boardTo cs (n + 1) ++ l).toArray := by
  apply Array.ext_getElem?
  intro i
  rw [Array.getElem?_setIfInBounds]
  have hl : ∀ m, (boardTo cs m).length = 144 := fun m => by simp [boardTo]
  by_cases e : n = i
  · subst e
    rw [if_pos rfl, if_pos (by simp [hl]; omega)]
    simp only [List.getElem?_toArray]
    rw [List.getElem?_append_left (by rw [hl]; omega)]
    unfold boardTo
    rw [List.getElem?_map, List.getElem?_range hn]
    simp
  · rw [if_neg e]
    simp only [List.getElem?_toArray]
    by_cases hi : i < 144
    · rw [List.getElem?_append_left (by rw [hl]; omega), List.getElem?_append_left (by rw [hl]; omega)]
      unfold boardTo
      rw [List.getElem?_map, List.getElem?_map, List.getElem?_range hi]
      simp only [Option.map_some, Option.some.injEq]
      by_cases h1 : i < n
      · rw [if_pos h1, if_pos (by omega)]
      · rw [if_neg h1, if_neg (by omega)]
    · rw [List.getElem?_append_right (by rw [hl]; omega), List.getElem?_append_right (by rw [hl]; omega), hl, hl]
theorem board_in (cs : List Int) (n k : Nat) (l : List Value) (hk : k < 144) : (boardTo cs n ++ l).toArray[k]? = some (if k < n then ii (bdOf cs k) else ii 0) := by
  simp only [List.getElem?_toArray]
  rw [List.getElem?_append_left (by simp [boardTo]; omega)]
  unfold boardTo
  rw [List.getElem?_map, List.getElem?_range hk]
  rfl
theorem app_set (cs : List Int) (n j : Nat) (l : List Value) (v : Value) : (boardTo cs n ++ l).toArray.setIfInBounds (144 + j) v = (boardTo cs n ++ l.set j v).toArray := by
  apply Array.toList_inj.1
  rw [Array.toList_setIfInBounds]
  have hl : (boardTo cs n).length = 144 := by simp [boardTo]
  simp only []
  rw [List.set_append_right _ _ (by omega), hl, Nat.add_sub_cancel_left]
theorem ones (w : World) : (binOp BinOp.neq 34 (.agg #[ii 1, ii 1]) (.agg #[ii 1, ii 1])).run Tryd.prog w = .ok (.bool false) w := by kernel_rfl
theorem sign_of (cs : List Int) (n : Nat) (h0 : n ≠ 0) (h1 : n ≠ 143) : sign ((signOf cs n).toNat : Int) = (bdOf cs n, -1, true) := by
  unfold bdOf
  rcases sign_cases cs n with ⟨h, _⟩ | ⟨h, _⟩ | ⟨_, _, h⟩
  · exact absurd h h0
  · exact absurd h h1
  · rcases h with h | h | h | h | h | h <;> rw [h] <;> rfl
theorem byte_at (L : List UInt8) (tx : ByteArray) (h : tx = ⟨L.toArray⟩) (k : Nat) (hk : k < tx.size) (b : UInt8) (hb : L[k]? = some b) : (tx[k]'hk).toNat = b.toNat := by
  subst h
  obtain ⟨h1, h2⟩ := List.getElem?_eq_some_iff.1 hb
  rw [← h2]
  rfl

set_option maxRecDepth 100000 in
set_option maxHeartbeats 1000000 in
theorem readMap_any (cs : List Int) (w : World) :
    Calls Tryd.prog 41 #[.string ⟨(textTo cs 144).toArray⟩] w fun e w' => e = .returned (.tuple #[.agg (boardTo cs 144 ++ [ii 0, ii 0, ii 11, ii 11]).toArray, .bool true]) ∧ Fr [] w w' := by
  have hln := text_len cs
  have hnl := text_nl cs
  have hsn := text_sign cs
  obtain ⟨L, hL⟩ : ∃ L, L = textTo cs 144 := ⟨_, rfl⟩
  rw [← hL] at hln ⊢
  simp only [← hL] at hnl hsn
  clear hL
  have hsz : (⟨L.toArray⟩ : ByteArray).size = 156 := by simp [ByteArray.size, hln]
  obtain ⟨tx, htx⟩ : ∃ tx : ByteArray, tx = ⟨L.toArray⟩ := ⟨_, rfl⟩
  rw [← htx] at hsz ⊢
  have HNL : Hid (∀ y (h : y < 12), (tx[y * 13 + 12]'(by omega)).toNat = 10) := fun y h => byte_at L tx htx _ _ _ (hnl y h)
  have HSN : Hid (∀ y x (h : y < 12) (h' : x < 12), (tx[y * 13 + x]'(by omega)).toNat = (signOf cs (y * 12 + x)).toNat) := fun y x h h' => byte_at L tx htx _ _ _ (hsn y x h h')
  clear htx hln hnl hsn
  go_enter Tryd.func41, Tryd.ntmps41
  go_wp2_with fail
  obtain ⟨W3, hW3⟩ : ∃ W, W = ((w.alloc (.cells Tryd.zeroCells99 99)).alloc (.cells Tryd.zeroCells99 99)).alloc (.cells #[ii 0, ii 0] 34) := ⟨_, rfl⟩
  rw [← hW3]
  have h03 : Fr [] w W3 := by rw [hW3]; exact (((Fr.refl _ _).alloc _).alloc _).alloc _
  have hA : W3.heap[w.heap.size]? = some (.cells Tryd.zeroCells99 99) := by rw [hW3]; exact ((Fr.refl [] _).alloc _).heap0 (hp_old2 _ _ _)
  have hI0 : MapI cs w.heap.size W3 0 W3 := by
    refine ⟨Fr.refl _ _, ?_, ?_⟩
    · rw [hW3]
      have := ((Fr.refl [] _).alloc (.cells #[ii 0, ii 0] 34)).heap0 (hp_new2 w (.cells Tryd.zeroCells99 99) (.cells Tryd.zeroCells99 99))
      rw [this, zcMap]
      rfl
    · rw [hW3]; exact hp_at _ _ _ (by simp)
  clear hW3
  obtain ⟨A, hAA⟩ : ∃ x, x = w.heap.size := ⟨_, rfl⟩
  rw [← hAA] at hA hI0 ⊢
  have hAw : w.heap.size ≤ A := by omega
  clear hAA
  go_loopw [15] (fun i wr => ∃ y : Nat, y ≤ 12 ∧ i = .int .i64 y ∧ MapI cs A W3 (y * 12) wr) (fun i _ => 12 - (intOf i).toNat)
  case atStart => exact ⟨0, Nat.zero_le _, rfl, hI0⟩
  case round =>
    obtain ⟨y, hy, rfl, hI⟩ := hrel
    by_cases hlt : y < 12
    · have hlti : (y : Int) < 12 := by omega
      have hnl : (tx[y * 13 + 12]'(by omega)).toNat = 10 := HNL.out y hlt
      have HI := (show Hid _ from hI)
      clear hI
      go_wp2_with fail
      obtain ⟨wo, hwo⟩ : ∃ x, x = wr := ⟨_, rfl⟩
      rw [← hwo] at HI ⊢
      clear hwo hnl
      go_loopw [25] (fun i wr => ∃ x : Nat, x ≤ 12 ∧ i = .int .i64 x ∧ MapI cs A W3 (y * 12 + x) wr) (fun i _ => 12 - (intOf i).toNat)
      case atStart => exact ⟨0, Nat.zero_le _, rfl, HI.out⟩
      case round =>
        obtain ⟨x, hx, rfl, hI⟩ := hrel
        by_cases hxt : x < 12
        · have hxti : (x : Int) < 12 := by omega
          have hsg : (tx[y * 13 + x]'(by omega)).toNat = (signOf cs (y * 12 + x)).toNat := HSN.out y x hlt hxt
          have hm := hI.m
          have hbb := hI.b
          have hcm : ∀ k, k < 148 → (wr.cell? ⟨A + 1, k, none⟩).isSome = true := fun k hk => by
            rw [cell_of_heap hm]
            simp [boardTo, basesTo]
            omega
          have hzm : ∀ k, wr.frozen? ⟨A + 1, k, none⟩ = false := fun k => frozen_of_heap hm
          obtain ⟨old, hold⟩ := Option.isSome_iff_exists.1 (hcm (y * 12 + x) (by omega))
          have hzo := hzm (y * 12 + x)
          have HM := (show Hid _ from hm)
          have HBB := (show Hid _ from hbb)
          have HI2 := (show Hid _ from hI)
          by_cases h0 : y = 0 ∧ x = 0
          · have hsv : sign ((signOf cs (y * 12 + x)).toNat : Int) = (0, 0, true) := by rw [show y * 12 + x = 0 by omega, show signOf cs 0 = 65 from rfl]; rfl
            obtain ⟨o4, ho4⟩ := Option.isSome_iff_exists.1 (hcm 144 (by omega))
            obtain ⟨o5, ho5⟩ := Option.isSome_iff_exists.1 (hcm 145 (by omega))
            have hz4 := hzm 144
            have hz5 := hzm 145
            have hk0 : wr.cell? ⟨A + 1 + 1, 0, none⟩ = some (ii 0) := by rw [cell_of_heap hbb, show y * 12 + x = 0 by omega]; rfl
            have hkz : wr.frozen? ⟨A + 1 + 1, 0, none⟩ = false := frozen_of_heap hbb
            have HSV := (show Hid _ from hsv)
            have HZ := (show Hid _ from h0)
            have j1 : ¬ y * 12 + x = 144 := by omega
            have j2 : ¬ y * 12 + x = 145 := by omega
            have j3 : ¬ 144 = y * 12 + x := by omega
            have j4 : ¬ 145 = y * 12 + x := by omega
            clear hI HI hm hbb hcm hzm hsv h0
            go_wp2_with (go_at_call 54; refine (readSign_any _ _ (by omega) (by have := (signOf cs (y * 12 + x)).toNat_lt; omega)).mono ?_; rintro e w1 ⟨rfl, rfl⟩; rw [HSV.out])
            go_roundw
            case rel =>
              obtain ⟨rfl, rfl⟩ := HZ.out
              refine ⟨0 + 1, hxt, by go_num, (((HI2.out.fr.setCell _ _ (by simp)).setCell _ _ (by simp)).setCell _ _ (by simp)).setCell _ _ (by simp), ?_, ?_⟩
              · rw [Below.heap_setCell _ _ _ _ (by simp), set_arr (set_arr (set_arr HM.out _ _) _ _) _ _]
                have e1 := board_set cs 0 (basesTo 0) (by omega)
                have e2 := app_set cs (0 + 1) 0 (basesTo 0) (ii 0)
                have e3 := app_set cs (0 + 1) 1 ((basesTo 0).set 0 (ii 0)) (ii 0)
                have e0 : bdOf cs 0 = 0 := rfl
                rw [e0] at e1
                exact congrArg (fun a => some (Obj.cells a 99)) ((congrArg (fun a => (a.setIfInBounds 144 (ii 0)).setIfInBounds 145 (ii 0)) e1).trans ((congrArg (fun a => a.setIfInBounds 145 (ii 0)) e2).trans e3))
              · have hb2 : ((((wr.setCell ⟨A + 1, 0 * 12 + 0, none⟩ (.int .i64 0)).setCell ⟨A + 1, 144, none⟩ (.int .i64 ((0 : Nat) : Int))).setCell ⟨A + 1, 145, none⟩ (.int .i64 ((0 : Nat) : Int)))).heap[A + 1 + 1]? = some (.cells (countTo 0).toArray 34) := by
                  rw [Below.heap_setCell _ _ _ _ (by simp), Below.heap_setCell _ _ _ _ (by simp), Below.heap_setCell _ _ _ _ (by simp)]; exact HBB.out
                rw [set_arr hb2]
                rfl
            case measure => simp [intOf]; omega
          · by_cases h1 : y = 11 ∧ x = 11
            · have hsv : sign ((signOf cs (y * 12 + x)).toNat : Int) = (0, 1, true) := by rw [show y * 12 + x = 143 by omega, show signOf cs 143 = 66 from rfl]; rfl
              obtain ⟨o4, ho4⟩ := Option.isSome_iff_exists.1 (hcm 146 (by omega))
              obtain ⟨o5, ho5⟩ := Option.isSome_iff_exists.1 (hcm 147 (by omega))
              have hz4 := hzm 146
              have hz5 := hzm 147
              have hk0 : wr.cell? ⟨A + 1 + 1, 1, none⟩ = some (ii 0) := by rw [cell_of_heap hbb, show y * 12 + x = 143 by omega]; rfl
              have hkz : wr.frozen? ⟨A + 1 + 1, 1, none⟩ = false := frozen_of_heap hbb
              have HSV := (show Hid _ from hsv)
              have HZ := (show Hid _ from h1)
              have j1 : ¬ y * 12 + x = 146 := by omega
              have j2 : ¬ y * 12 + x = 147 := by omega
              have j3 : ¬ 146 = y * 12 + x := by omega
              have j4 : ¬ 147 = y * 12 + x := by omega
              clear hI HI hm hbb hcm hzm hsv h1
              go_wp2_with (go_at_call 54; refine (readSign_any _ _ (by omega) (by have := (signOf cs (y * 12 + x)).toNat_lt; omega)).mono ?_; rintro e w1 ⟨rfl, rfl⟩; rw [HSV.out])
              go_roundw
              case rel =>
                obtain ⟨rfl, rfl⟩ := HZ.out
                refine ⟨11 + 1, hxt, by go_num, (((HI2.out.fr.setCell _ _ (by simp)).setCell _ _ (by simp)).setCell _ _ (by simp)).setCell _ _ (by simp), ?_, ?_⟩
                · rw [Below.heap_setCell _ _ _ _ (by simp), set_arr (set_arr (set_arr HM.out _ _) _ _) _ _]
                  have e1 := board_set cs 143 (basesTo 143) (by omega)
                  have e2 := app_set cs (143 + 1) 2 (basesTo 143) (ii 11)
                  have e3 := app_set cs (143 + 1) 3 ((basesTo 143).set 2 (ii 11)) (ii 11)
                  have e0 : bdOf cs 143 = 0 := rfl
                  rw [e0] at e1
                  exact congrArg (fun a => some (Obj.cells a 99)) ((congrArg (fun a => (a.setIfInBounds 146 (ii 11)).setIfInBounds 147 (ii 11)) e1).trans ((congrArg (fun a => a.setIfInBounds 147 (ii 11)) e2).trans e3))
                · have hb2 : ((((wr.setCell ⟨A + 1, 11 * 12 + 11, none⟩ (.int .i64 0)).setCell ⟨A + 1, 146, none⟩ (.int .i64 ((11 : Nat) : Int))).setCell ⟨A + 1, 147, none⟩ (.int .i64 ((11 : Nat) : Int)))).heap[A + 1 + 1]? = some (.cells (countTo 143).toArray 34) := by
                    rw [Below.heap_setCell _ _ _ _ (by simp), Below.heap_setCell _ _ _ _ (by simp), Below.heap_setCell _ _ _ _ (by simp)]; exact HBB.out
                  rw [set_arr hb2]
                  rfl
              case measure => simp [intOf]; omega
            · have hsv := sign_of cs (y * 12 + x) (by omega) (by omega)
              obtain ⟨g, hg⟩ : ∃ g, bdOf cs (y * 12 + x) = g := ⟨_, rfl⟩
              rw [hg] at hsv
              have HGG := (show Hid _ from hg)
              have HN : Hid (y * 12 + x ≠ 0 ∧ y * 12 + x ≠ 143) := ⟨by omega, by omega⟩
              have HSV := (show Hid _ from hsv)
              clear hI HI hm hbb hcm hzm hg hsv h0 h1
              go_wp2_with (go_at_call 54; refine (readSign_any _ _ (by omega) (by have := (signOf cs (y * 12 + x)).toNat_lt; omega)).mono ?_; rintro e w1 ⟨rfl, rfl⟩; rw [HSV.out])
              go_roundw
              case rel =>
                refine ⟨x + 1, hxt, by go_num, HI2.out.fr.setCell _ _ (by simp), ?_, ?_⟩
                · rw [set_arr HM.out, ← HGG.out]
                  have hb : basesTo (y * 12 + (x + 1)) = basesTo (y * 12 + x) := by have := HN.out; unfold basesTo; rw [if_neg (by omega), if_neg (by omega)]
                  rw [hb, show y * 12 + (x + 1) = y * 12 + x + 1 by omega, ← board_set cs (y * 12 + x) _ (by omega)]
                · rw [Below.heap_setCell _ _ _ _ (by simp), HBB.out]
                  have hb : countTo (y * 12 + (x + 1)) = countTo (y * 12 + x) := by have := HN.out; unfold countTo; rw [if_pos (by omega), if_neg (by omega), if_pos (by omega), if_neg (by omega)]
                  rw [hb]
              case measure => simp [intOf]; omega
        · have hx12 : x = 12 := by omega
          subst hx12
          go_wp2_with fail
          go_roundw
          case rel => exact ⟨y + 1, hlt, by go_num, by rw [show (y + 1) * 12 = y * 12 + 12 by omega]; exact hI⟩
          case measure => simp [intOf]; omega
    · have hy12 : y = 12 := by omega
      subst hy12
      have hm := hI.m
      have hbb := hI.b
      have hb0 : wr.cell? ⟨A + 1 + 1, 0, none⟩ = some (ii 1) := by rw [cell_of_heap hbb]; rfl
      have hb1 : wr.cell? ⟨A + 1 + 1, 1, none⟩ = some (ii 1) := by rw [cell_of_heap hbb]; rfl
      have HM := (show Hid _ from hm)
      have hI2 := hI.fr
      clear hI hm hbb
      have hon := ones
      have hA2 := hI2.heap hA (by simp; omega)
      obtain ⟨ma, hma⟩ : ∃ x, x = (boardTo cs 144 ++ [ii 0, ii 0, ii 11, ii 11]).toArray := ⟨_, rfl⟩
      have hM : wr.heap[A + 1]? = some (.cells ma 99) := by rw [hma]; exact HM.out
      have hms : ma.size = 148 := by rw [hma]; simp [boardTo]
      have hm1 : ma.all (·.oneCell') = true := by
        rw [hma]
        apply all_oneCell_toArray
        intro v hv
        rcases List.mem_append.1 hv with hv | hv
        · obtain ⟨j, _, rfl⟩ := List.mem_map.1 hv
          by_cases hj : j < 144
          · rw [if_pos hj]; rfl
          · rw [if_neg hj]; rfl
        · simp only [List.mem_cons, List.not_mem_nil, or_false] at hv
          rcases hv with rfl | rfl | rfl | rfl <;> rfl
      have HMA := (show Hid _ from hma)
      have HI3 : Hid ((Tryd.prog.info? 99).map (·.size) = some ma.size) := by
        show _ = _
        rw [hms]; kernel_rfl
      have HZ3 : Hid (Tryd.zeroCells99.size = ma.size) := by
        show _ = _
        rw [hms, zcMap]; simp
      have HO3 := (show Hid _ from hm1)
      have HA2 := (show Hid _ from hA2)
      have HM3 := (show Hid _ from hM)
      clear hma hms hm1 hA2 hM
      go_wp2_with (first | (refine wpList_load_row rfl 99 _ rfl (A + 1) rfl 99 ma (0, 0) _ HM3.out Tryd.underlying99 rfl HI3.out ?_) | (refine wpList_store_row rfl 99 _ _ rfl A ma rfl rfl 99 Tryd.zeroCells99 HA2.out HI3.out HZ3.out HO3.out ?_))
      refine bodyPost_ret (v := .tuple #[.agg ma, .bool true]) (results_cell_tmp Tryd.results41 _ _ A 99 ma (0, 0) _ _ rfl rfl (setRow_heap _ _ _ _ _ _ HA2.out) Tryd.underlying99 rfl HI3.out) rfl ⟨by rw [HMA.out], ?_⟩
      exact (h03.trans hI2 (by simp; omega)).setRow _ _ (Or.inr hAw)
end Go.Proofs.YtapabahhfanmmaaDoor
