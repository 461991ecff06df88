import Derived.Test.YtapabahhfanmmaaGreatDoorCText
import Derived.Test.YtapabahhfanmmaaGreatDoorCSign
import Derived.Test.YtapabahhfanmmaaGreatDoorCPlay
import Derived.Test.YtapabahhfanmmaaGreatDoorCCmds2
/- A map is read. -/
namespace Go.Proofs.YtapabahhfanmmaaGreatDoor
open Go.RowKit

/-- What a byte of a map says of the ground. -/
def groundOf (c : UInt8) : Int := if c = 35 then 10 else if 49 ≤ c ∧ c ≤ 57 then (c.toNat : Int) - 48 else 0
theorem sign_cases (cs : List Int) (j : Nat) : (j = 0 ∧ signOf cs j = 65) ∨ (j = 143 ∧ signOf cs j = 66) ∨ (j ≠ 0 ∧ j ≠ 143 ∧ (signOf cs j = 46 ∨ signOf cs j = 35 ∨ signOf cs j = 50 ∨ signOf cs j = 53 ∨ signOf cs j = 55 ∨ signOf cs j = 57)) := by
  unfold signOf
  by_cases h0 : j = 0
  · exact Or.inl ⟨h0, by rw [if_pos h0]⟩
  · by_cases h1 : j = 143
    · exact Or.inr (Or.inl ⟨h1, by rw [if_neg h0, if_pos h1]⟩)
    · refine Or.inr (Or.inr ⟨h0, h1, ?_⟩)
      rw [if_neg h0, if_neg h1]
      cases cs[j]? with
      | none => exact Or.inl rfl
      | some c =>
        dsimp only
        repeat' split
        all_goals simp
theorem textTo_pos (cs : List Int) : ∀ n, (textTo cs n).length = n + n / 12 ∧ ∀ j, j < n → (textTo cs n)[j + j / 12]? = some (signOf cs j) ∧ (j % 12 = 11 → (textTo cs n)[j + j / 12 + 1]? = some 10)
  | 0 => ⟨rfl, fun j h => by omega⟩
  | n + 1 => by
    obtain ⟨h1, h2⟩ := textTo_pos cs n
    by_cases hm : n % 12 = 11
    · rw [← text_mid1 rfl hm]
      refine ⟨by simp [h1]; omega, fun j hj => ?_⟩
      by_cases hjn : j < n
      · obtain ⟨q1, q2⟩ := h2 j hjn
        rw [List.append_assoc]
        refine ⟨by rw [List.getElem?_append_left (by omega)]; exact q1, fun h => ?_⟩
        rw [List.getElem?_append_left (by omega)]; exact q2 h
      · have : j = n := by omega
        subst this
        rw [List.append_assoc]
        refine ⟨?_, fun _ => ?_⟩
        · rw [List.getElem?_append_right (by omega), h1, Nat.sub_self]; rfl
        · rw [List.getElem?_append_right (by omega), h1, show j + j / 12 + 1 - (j + j / 12) = 1 by omega]; rfl
    · rw [← text_mid2 rfl hm]
      refine ⟨by simp [h1]; omega, fun j hj => ?_⟩
      by_cases hjn : j < n
      · obtain ⟨q1, q2⟩ := h2 j hjn
        refine ⟨by rw [List.getElem?_append_left (by omega)]; exact q1, fun h => ?_⟩
        rw [List.getElem?_append_left (by omega)]; exact q2 h
      · have : j = n := by omega
        subst this
        refine ⟨?_, fun h => absurd h hm⟩
        rw [List.getElem?_append_right (by omega), h1, Nat.sub_self]; rfl
theorem text_len (cs : List Int) : (textTo cs 144).length = 156 := (textTo_pos cs 144).1
theorem text_sign (cs : List Int) (y x : Nat) (hy : y < 12) (hx : x < 12) : (textTo cs 144)[y * 13 + x]? = some (signOf cs (y * 12 + x)) := by
  have := ((textTo_pos cs 144).2 (y * 12 + x) (by omega)).1
  rwa [show y * 12 + x + (y * 12 + x) / 12 = y * 13 + x by omega] at this
theorem text_nl (cs : List Int) (y : Nat) (hy : y < 12) : (textTo cs 144)[y * 13 + 12]? = some 10 := by
  have := ((textTo_pos cs 144).2 (y * 12 + 11) (by omega)).2 (by omega)
  rwa [show y * 12 + 11 + (y * 12 + 11) / 12 + 1 = y * 13 + 12 by omega] at this

/-- The board of a map's text. -/
def bdOf (cs : List Int) (j : Nat) : Int := groundOf (signOf cs j)
def boardTo (cs : List Int) (n : Nat) : List Value := (List.range 144).map fun j => if j < n then ii (bdOf cs j) else ii 0

def basesTo (n : Nat) : List Value := [ii 0, ii 0, if 143 < n then ii 11 else ii 0, if 143 < n then ii 11 else ii 0]
def countTo (n : Nat) : List Value := [if 0 < n then ii 1 else ii 0, if 143 < n then ii 1 else ii 0]
structure MapI (cs : List Int) (A : Nat) (W3 : World) (n : Nat) (wr : World) : Prop where
  fr : Fr [A + 1, A + 1 + 1] W3 wr
  m : wr.heap[A + 1]? = some (.cells (boardTo cs n ++ basesTo n).toArray 162)
  b : wr.heap[A + 1 + 1]? = some (.cells (countTo n).toArray 54)
theorem zcMap : Tryz.zeroCells162 = ((List.range 144).map (fun _ => ii 0) ++ [ii 0, ii 0, ii 0, ii 0]).toArray := by kernel_rfl

theorem board_set (cs : List Int) (n : Nat) (l : List Value) (hn : n < 144) : (boardTo cs n ++ l).toArray.setIfInBounds n (ii (bdOf cs n)) = (boardTo cs (n + 1) ++ l).toArray := by
  apply Array.ext_getElem?
  intro i
  rw [Array.getElem?_setIfInBounds]
  have hl : ∀ m, (boardTo cs m).length = 144 := fun m => by simp [boardTo]
  by_cases e : n = i
  · subst e
    rw [if_pos rfl, if_pos (by simp [hl]; omega)]
    simp only [List.getElem?_toArray]
    rw [List.getElem?_append_left (by rw [hl]; omega)]
    unfold boardTo
    rw [List.getElem?_map, List.getElem?_range hn]
    simp
  · rw [if_neg e]
    simp only [List.getElem?_toArray]
    by_cases hi : i < 144
    · rw [List.getElem?_append_left (by rw [hl]; omega), List.getElem?_append_left (by rw [hl]; omega)]
      unfold boardTo
      rw [List.getElem?_map, List.getElem?_map, List.getElem?_range hi]
      simp only [Option.map_some, Option.some.injEq]
      by_cases h1 : i < n
      · rw [if_pos h1, if_pos (by omega)]
      · rw [if_neg h1, if_neg (by omega)]
    · rw [List.getElem?_append_right (by rw [hl]; omega), List.getElem?_append_right (by rw [hl]; omega), hl, hl]
theorem board_in (cs : List Int) (n k : Nat) (l : List Value) (hk : k < 144) : (boardTo cs n ++ l).toArray[k]? = some (if k < n then ii (bdOf cs k) else ii 0) := by
  simp only [List.getElem?_toArray]
  rw [List.getElem?_append_left (by simp [boardTo]; omega)]
  unfold boardTo
  rw [List.getElem?_map, List.getElem?_range hk]
  rfl
theorem app_set (cs : List Int) (n j : Nat) (l : List Value) (v : Value) : (boardTo cs n ++ l).toArray.setIfInBounds (144 + j) v = (boardTo cs n ++ l.set j v).toArray := by
  apply Array.toList_inj.1
  rw [Array.toList_setIfInBounds]
  have hl : (boardTo cs n).length = 144 := by simp [boardTo]
  simp only []
  rw [List.set_append_right _ _ (by omega), hl, Nat.add_sub_cancel_left]
theorem ones (w : World) : (binOp BinOp.neq 54 (.agg #[ii 1, ii 1]) (.agg #[ii 1, ii 1])).run Tryz.prog w = .ok (.bool false) w := by kernel_rfl
theorem sign_of (cs : List Int) (n : Nat) (h0 : n ≠ 0) (h1 : n ≠ 143) : sign ((signOf cs n).toNat : Int) = (bdOf cs n, -1, true) := by
  unfold bdOf
  rcases sign_cases cs n with ⟨h, _⟩ | ⟨h, _⟩ | ⟨_, _, h⟩
  · exact absurd h h0
  · exact absurd h h1
  · rcases h with h | h | h | h | h | h <;> rw [h] <;> rfl
theorem byte_at (L : List UInt8) (tx : ByteArray) (h : tx = ⟨L.toArray⟩) (k : Nat) (hk : k < tx.size) (b : UInt8) (hb : L[k]? = some b) : (tx[k]'hk).toNat = b.toNat := by
  subst h
  obtain ⟨h1, h2⟩ := List.getElem?_eq_some_iff.1 hb
  rw [← h2]
  rfl

set_option maxRecDepth 100000 in
set_option maxHeartbeats 1000000 in
theorem readMap_any (cs : List Int) (w : World) :
    Calls Tryz.prog 76 #[.string ⟨(textTo cs 144).toArray⟩] w fun e w' => e = .returned (.tuple #[.agg (boardTo cs 144 ++ [ii 0, ii 0, ii 11, ii 11]).toArray, .bool true]) ∧ Fr [] w w' := by
  have hln := text_len cs
  have hnl := text_nl cs
  have hsn := text_sign cs
  obtain ⟨L, hL⟩ : ∃ L, L = textTo cs 144 := ⟨_, rfl⟩
  rw [← hL] at hln ⊢
  simp only [← hL] at hnl hsn
  clear hL
  have hsz : (⟨L.toArray⟩ : ByteArray).size = 156 := by simp [ByteArray.size, hln]
  obtain ⟨tx, htx⟩ : ∃ tx : ByteArray, tx = ⟨L.toArray⟩ := ⟨_, rfl⟩
  rw [← htx] at hsz ⊢
  have HNL : Hid (∀ y (h : y < 12), (tx[y * 13 + 12]'(by omega)).toNat = 10) := fun y h => byte_at L tx htx _ _ _ (hnl y h)
  have HSN : Hid (∀ y x (h : y < 12) (h' : x < 12), (tx[y * 13 + x]'(by omega)).toNat = (signOf cs (y * 12 + x)).toNat) := fun y x h h' => byte_at L tx htx _ _ _ (hsn y x h h')
  clear htx hln hnl hsn
  go_enter Tryz.func76, Tryz.ntmps76
  go_wp2_with fail
  obtain ⟨W3, hW3⟩ : ∃ W, W = ((w.alloc (.cells Tryz.zeroCells162 162)).alloc (.cells Tryz.zeroCells162 162)).alloc (.cells #[ii 0, ii 0] 54) := ⟨_, rfl⟩
  rw [← hW3]
  have h03 : Fr [] w W3 := by rw [hW3]; exact (((Fr.refl _ _).alloc _).alloc _).alloc _
  have hA : W3.heap[w.heap.size]? = some (.cells Tryz.zeroCells162 162) := by rw [hW3]; exact ((Fr.refl [] _).alloc _).heap0 (hp_old2 _ _ _)
  have hI0 : MapI cs w.heap.size W3 0 W3 := by
    refine ⟨Fr.refl _ _, ?_, ?_⟩
    · rw [hW3]
      have := ((Fr.refl [] _).alloc (.cells #[ii 0, ii 0] 54)).heap0 (hp_new2 w (.cells Tryz.zeroCells162 162) (.cells Tryz.zeroCells162 162))
      rw [this, zcMap]
      rfl
    · rw [hW3]; exact hp_at _ _ _ (by simp)
  clear hW3
  obtain ⟨A, hAA⟩ : ∃ x, x = w.heap.size := ⟨_, rfl⟩
  rw [← hAA] at hA hI0 ⊢
  have hAw : w.heap.size ≤ A := by omega
  clear hAA
  go_loopw [15] (fun i wr => ∃ y : Nat, y ≤ 12 ∧ i = .int .i64 y ∧ MapI cs A W3 (y * 12) wr) (fun i _ => 12 - (intOf i).toNat)
  case atStart => exact ⟨0, Nat.zero_le _, rfl, hI0⟩
  case round =>
    obtain ⟨y, hy, rfl, hI⟩ := hrel
    by_cases hlt : y < 12
    · have hlti : (y : Int) < 12 := by omega
      have hnl : (tx[y * 13 + 12]'(by omega)).toNat = 10 := HNL.out y hlt
      have HI := (show Hid _ from hI)
      clear hI
      go_wp2_with fail
      obtain ⟨wo, hwo⟩ : ∃ x, x = wr := ⟨_, rfl⟩
      rw [← hwo] at HI ⊢
      clear hwo hnl
      go_loopw [25] (fun i wr => ∃ x : Nat, x ≤ 12 ∧ i = .int .i64 x ∧ MapI cs A W3 (y * 12 + x) wr) (fun i _ => 12 - (intOf i).toNat)
      case atStart => exact ⟨0, Nat.zero_le _, rfl, HI.out⟩
      case round =>
        obtain ⟨x, hx, rfl, hI⟩ := hrel
        by_cases hxt : x < 12
        · have hxti : (x : Int) < 12 := by omega
          have hsg : (tx[y * 13 + x]'(by omega)).toNat = (signOf cs (y * 12 + x)).toNat := HSN.out y x hlt hxt
          have hm := hI.m
          have hbb := hI.b
          have hcm : ∀ k, k < 148 → (wr.cell? ⟨A + 1, k, none⟩).isSome = true := fun k hk => by
            rw [cell_of_heap hm]
            simp [boardTo, basesTo]
            omega
          have hzm : ∀ k, wr.frozen? ⟨A + 1, k, none⟩ = false := fun k => frozen_of_heap hm
          obtain ⟨old, hold⟩ := Option.isSome_iff_exists.1 (hcm (y * 12 + x) (by omega))
          have hzo := hzm (y * 12 + x)
          have HM := (show Hid _ from hm)
          have HBB := (show Hid _ from hbb)
          have HI2 := (show Hid _ from hI)
          by_cases h0 : y = 0 ∧ x = 0
          · have hsv : sign ((signOf cs (y * 12 + x)).toNat : Int) = (0, 0, true) := by rw [show y * 12 + x = 0 by omega, show signOf cs 0 = 65 from rfl]; rfl
            obtain ⟨o4, ho4⟩ := Option.isSome_iff_exists.1 (hcm 144 (by omega))
            obtain ⟨o5, ho5⟩ := Option.isSome_iff_exists.1 (hcm 145 (by omega))
            have hz4 := hzm 144
            have hz5 := hzm 145
            have hk0 : wr.cell? ⟨A + 1 + 1, 0, none⟩ = some (ii 0) := by rw [cell_of_heap hbb, show y * 12 + x = 0 by omega]; rfl
            have hkz : wr.frozen? ⟨A + 1 + 1, 0, none⟩ = false := frozen_of_heap hbb
            have HSV := (show Hid _ from hsv)
            have HZ := (show Hid _ from h0)
            have j1 : ¬ y * 12 + x = 144 := by omega
            have j2 : ¬ y * 12 + x = 145 := by omega
            have j3 : ¬ 144 = y * 12 + x := by omega
            have j4 : ¬ 145 = y * 12 + x := by omega
            clear hI HI hm hbb hcm hzm hsv h0
            go_wp2_with (go_at_call 120; refine (readSign_any _ _ (by omega) (by have := (signOf cs (y * 12 + x)).toNat_lt; omega)).mono ?_; rintro e w1 ⟨rfl, rfl⟩; rw [HSV.out])
            go_roundw
            case rel =>
              obtain ⟨rfl, rfl⟩ := HZ.out
              refine ⟨0 + 1, hxt, by go_num, (((HI2.out.fr.setCell _ _ (by simp)).setCell _ _ (by simp)).setCell _ _ (by simp)).setCell _ _ (by simp), ?_, ?_⟩
              · rw [Below.heap_setCell _ _ _ _ (by simp), set_arr (set_arr (set_arr HM.out _ _) _ _) _ _]
                have e1 := board_set cs 0 (basesTo 0) (by omega)
                have e2 := app_set cs (0 + 1) 0 (basesTo 0) (ii 0)
                have e3 := app_set cs (0 + 1) 1 ((basesTo 0).set 0 (ii 0)) (ii 0)
                have e0 : bdOf cs 0 = 0 := rfl
                rw [e0] at e1
                exact congrArg (fun a => some (Obj.cells a 162)) ((congrArg (fun a => (a.setIfInBounds 144 (ii 0)).setIfInBounds 145 (ii 0)) e1).trans ((congrArg (fun a => a.setIfInBounds 145 (ii 0)) e2).trans e3))
              · have hb2 : ((((wr.setCell ⟨A + 1, 0 * 12 + 0, none⟩ (.int .i64 0)).setCell ⟨A + 1, 144, none⟩ (.int .i64 ((0 : Nat) : Int))).setCell ⟨A + 1, 145, none⟩ (.int .i64 ((0 : Nat) : Int)))).heap[A + 1 + 1]? = some (.cells (countTo 0).toArray 54) := by
                  rw [Below.heap_setCell _ _ _ _ (by simp), Below.heap_setCell _ _ _ _ (by simp), Below.heap_setCell _ _ _ _ (by simp)]; exact HBB.out
                rw [set_arr hb2]
                rfl
            case measure => simp [intOf]; omega
          · by_cases h1 : y = 11 ∧ x = 11
            · have hsv : sign ((signOf cs (y * 12 + x)).toNat : Int) = (0, 1, true) := by rw [show y * 12 + x = 143 by omega, show signOf cs 143 = 66 from rfl]; rfl
              obtain ⟨o4, ho4⟩ := Option.isSome_iff_exists.1 (hcm 146 (by omega))
              obtain ⟨o5, ho5⟩ := Option.isSome_iff_exists.1 (hcm 147 (by omega))
              have hz4 := hzm 146
              have hz5 := hzm 147
              have hk0 : wr.cell? ⟨A + 1 + 1, 1, none⟩ = some (ii 0) := by rw [cell_of_heap hbb, show y * 12 + x = 143 by omega]; rfl
              have hkz : wr.frozen? ⟨A + 1 + 1, 1, none⟩ = false := frozen_of_heap hbb
              have HSV := (show Hid _ from hsv)
              have HZ := (show Hid _ from h1)
              have j1 : ¬ y * 12 + x = 146 := by omega
              have j2 : ¬ y * 12 + x = 147 := by omega
              have j3 : ¬ 146 = y * 12 + x := by omega
              have j4 : ¬ 147 = y * 12 + x := by omega
              clear hI HI hm hbb hcm hzm hsv h1
              go_wp2_with (go_at_call 120; refine (readSign_any _ _ (by omega) (by have := (signOf cs (y * 12 + x)).toNat_lt; omega)).mono ?_; rintro e w1 ⟨rfl, rfl⟩; rw [HSV.out])
              go_roundw
              case rel =>
                obtain ⟨rfl, rfl⟩ := HZ.out
                refine ⟨11 + 1, hxt, by go_num, (((HI2.out.fr.setCell _ _ (by simp)).setCell _ _ (by simp)).setCell _ _ (by simp)).setCell _ _ (by simp), ?_, ?_⟩
                · rw [Below.heap_setCell _ _ _ _ (by simp), set_arr (set_arr (set_arr HM.out _ _) _ _) _ _]
                  have e1 := board_set cs 143 (basesTo 143) (by omega)
                  have e2 := app_set cs (143 + 1) 2 (basesTo 143) (ii 11)
                  have e3 := app_set cs (143 + 1) 3 ((basesTo 143).set 2 (ii 11)) (ii 11)
                  have e0 : bdOf cs 143 = 0 := rfl
                  rw [e0] at e1
                  exact congrArg (fun a => some (Obj.cells a 162)) ((congrArg (fun a => (a.setIfInBounds 146 (ii 11)).setIfInBounds 147 (ii 11)) e1).trans ((congrArg (fun a => a.setIfInBounds 147 (ii 11)) e2).trans e3))
                · have hb2 : ((((wr.setCell ⟨A + 1, 11 * 12 + 11, none⟩ (.int .i64 0)).setCell ⟨A + 1, 146, none⟩ (.int .i64 ((11 : Nat) : Int))).setCell ⟨A + 1, 147, none⟩ (.int .i64 ((11 : Nat) : Int)))).heap[A + 1 + 1]? = some (.cells (countTo 143).toArray 54) := by
                    rw [Below.heap_setCell _ _ _ _ (by simp), Below.heap_setCell _ _ _ _ (by simp), Below.heap_setCell _ _ _ _ (by simp)]; exact HBB.out
                  rw [set_arr hb2]
                  rfl
              case measure => simp [intOf]; omega
            · have hsv := sign_of cs (y * 12 + x) (by omega) (by omega)
              obtain ⟨g, hg⟩ : ∃ g, bdOf cs (y * 12 + x) = g := ⟨_, rfl⟩
              rw [hg] at hsv
              have HGG := (show Hid _ from hg)
              have HN : Hid (y * 12 + x ≠ 0 ∧ y * 12 + x ≠ 143) := ⟨by omega, by omega⟩
              have HSV := (show Hid _ from hsv)
              clear hI HI hm hbb hcm hzm hg hsv h0 h1
              go_wp2_with (go_at_call 120; refine (readSign_any _ _ (by omega) (by have := (signOf cs (y * 12 + x)).toNat_lt; omega)).mono ?_; rintro e w1 ⟨rfl, rfl⟩; rw [HSV.out])
              go_roundw
              case rel =>
                refine ⟨x + 1, hxt, by go_num, HI2.out.fr.setCell _ _ (by simp), ?_, ?_⟩
                · rw [set_arr HM.out, ← HGG.out]
                  have hb : basesTo (y * 12 + (x + 1)) = basesTo (y * 12 + x) := by have := HN.out; unfold basesTo; rw [if_neg (by omega), if_neg (by omega)]
                  rw [hb, show y * 12 + (x + 1) = y * 12 + x + 1 by omega, ← board_set cs (y * 12 + x) _ (by omega)]
                · rw [Below.heap_setCell _ _ _ _ (by simp), HBB.out]
                  have hb : countTo (y * 12 + (x + 1)) = countTo (y * 12 + x) := by have := HN.out; unfold countTo; rw [if_pos (by omega), if_neg (by omega), if_pos (by omega), if_neg (by omega)]
                  rw [hb]
              case measure => simp [intOf]; omega
        · have hx12 : x = 12 := by omega
          subst hx12
          go_wp2_with fail
          go_roundw
          case rel => exact ⟨y + 1, hlt, by go_num, by rw [show (y + 1) * 12 = y * 12 + 12 by omega]; exact hI⟩
          case measure => simp [intOf]; omega
    · have hy12 : y = 12 := by omega
      subst hy12
      have hm := hI.m
      have hbb := hI.b
      have hb0 : wr.cell? ⟨A + 1 + 1, 0, none⟩ = some (ii 1) := by rw [cell_of_heap hbb]; rfl
      have hb1 : wr.cell? ⟨A + 1 + 1, 1, none⟩ = some (ii 1) := by rw [cell_of_heap hbb]; rfl
      have HM := (show Hid _ from hm)
      have hI2 := hI.fr
      clear hI hm hbb
      have hon := ones
      have hA2 := hI2.heap hA (by simp; omega)
      obtain ⟨ma, hma⟩ : ∃ x, x = (boardTo cs 144 ++ [ii 0, ii 0, ii 11, ii 11]).toArray := ⟨_, rfl⟩
      have hM : wr.heap[A + 1]? = some (.cells ma 162) := by rw [hma]; exact HM.out
      have hms : ma.size = 148 := by rw [hma]; simp [boardTo]
      have hm1 : ma.all (·.oneCell') = true := by
        rw [hma]
        apply all_oneCell_toArray
        intro v hv
        rcases List.mem_append.1 hv with hv | hv
        · obtain ⟨j, _, rfl⟩ := List.mem_map.1 hv
          by_cases hj : j < 144
          · rw [if_pos hj]; rfl
          · rw [if_neg hj]; rfl
        · simp only [List.mem_cons, List.not_mem_nil, or_false] at hv
          rcases hv with rfl | rfl | rfl | rfl <;> rfl
      have HMA := (show Hid _ from hma)
      have HI3 : Hid ((Tryz.prog.info? 162).map (·.size) = some ma.size) := by
        show _ = _
        rw [hms]; kernel_rfl
      have HZ3 : Hid (Tryz.zeroCells162.size = ma.size) := by
        show _ = _
        rw [hms, zcMap]; simp
      have HO3 := (show Hid _ from hm1)
      have HA2 := (show Hid _ from hA2)
      have HM3 := (show Hid _ from hM)
      clear hma hms hm1 hA2 hM
      go_wp2_with (first | (refine wpList_load_row rfl 162 _ rfl (A + 1) rfl 162 ma (0, 0) _ HM3.out Tryz.underlying162 rfl HI3.out ?_) | (refine wpList_store_row rfl 162 _ _ rfl A ma rfl rfl 162 Tryz.zeroCells162 HA2.out HI3.out HZ3.out HO3.out ?_))
      refine bodyPost_ret (v := .tuple #[.agg ma, .bool true]) (results_cell_tmp Tryz.results76 _ _ A 162 ma (0, 0) _ _ rfl rfl (setRow_heap _ _ _ _ _ _ HA2.out) Tryz.underlying162 rfl HI3.out) rfl ⟨by rw [HMA.out], ?_⟩
      exact (h03.trans hI2 (by simp; omega)).setRow _ _ (Or.inr hAw)
end Go.Proofs.YtapabahhfanmmaaGreatDoor
/- A game begins. -/
namespace Go.Proofs.YtapabahhfanmmaaGreatDoor
open Go.RowKit

def startT (cs : List Int) : T := { turn := 0, next := 3, s0 := 10, s1 := 10, bd := bdOf cs, us := [newU 1 0 1 0 0 40, newU 2 1 1 11 11 40], held := fun _ => none }

theorem gameF : fieldsOf Tryz.prog 90 = some [(0, 1), (1, 1), (2, 2), (4, 144), (148, 1)] := by kernel_rfl
theorem gameZ : (Tryz.prog.info? 90).map (fun i => i.zero.map (·.cells)) = some (some (ii 0 :: ii 0 :: ii 0 :: ii 0 :: ((List.range 144).map (fun _ => ii 0) ++ [Value.slice none 0 0])).toArray) := by kernel_rfl
theorem built_at (t : TypeId) (places : List (Nat × Nat)) (zs : Array Value) (hf : fieldsOf Tryz.prog t = some places) (hz : (Tryz.prog.info? t).map (fun i => i.zero.map (·.cells)) = some (some zs)) (parts : List (Nat × Value)) (cells : Array Value) (h : Instr.fill (places.toArray[·]?) zs parts = some cells) : Tryz.prog.built t parts = some cells := by
  unfold Program.built
  unfold fieldsOf at hf
  cases hi : Tryz.prog.info? t with
  | none => rw [hi] at hz; simp at hz
  | some it =>
    rw [hi] at hz
    cases hzz : it.zero with
    | none => simp [hzz] at hz
    | some z =>
      simp [hzz] at hz
      cases hu : Tryz.prog.underlying t with
      | none => rw [hu] at hf; simp at hf
      | some d =>
        rw [hu] at hf
        cases d <;> try (simp at hf; done)
        dsimp only at hf ⊢
        rw [hzz, hf]
        dsimp only
        rw [hz]
        exact h
theorem built_game (B : List Value) (hB : B.length = 144) : Tryz.prog.built 90 [(1, ii 1), (2, .agg #[ii 10, ii 10]), (3, .agg B.toArray)] = some (ii 0 :: ii 1 :: ii 10 :: ii 10 :: (B ++ [Value.slice none 0 0])).toArray := by
  refine built_at _ _ _ gameF gameZ _ _ ?_
  obtain ⟨Z, hZ⟩ : ∃ Z, Z = (List.range 144).map (fun _ => ii 0) := ⟨_, rfl⟩
  have hZl : Z.length = 144 := by rw [hZ]; simp
  rw [← hZ]
  clear hZ
  rw [fill_cons _ _ _ _ _ 1 1 rfl rfl (by simp)]
  rw [show (((ii 0 :: ii 0 :: ii 0 :: ii 0 :: (Z ++ [Value.slice none 0 0])).toArray.toList.take 1 ++ (ii 1).cells.toList ++ (ii 0 :: ii 0 :: ii 0 :: ii 0 :: (Z ++ [Value.slice none 0 0])).toArray.toList.drop (1 + 1)).toArray) = (ii 0 :: ii 1 :: ii 0 :: ii 0 :: (Z ++ [Value.slice none 0 0])).toArray from rfl]
  rw [fill_cons _ _ _ _ _ 2 2 rfl rfl (by simp)]
  rw [show (((ii 0 :: ii 1 :: ii 0 :: ii 0 :: (Z ++ [Value.slice none 0 0])).toArray.toList.take 2 ++ (Value.agg #[ii 10, ii 10]).cells.toList ++ (ii 0 :: ii 1 :: ii 0 :: ii 0 :: (Z ++ [Value.slice none 0 0])).toArray.toList.drop (2 + 2)).toArray) = (ii 0 :: ii 1 :: ii 10 :: ii 10 :: (Z ++ [Value.slice none 0 0])).toArray from rfl]
  have hBs : (Value.agg B.toArray).cells.size = 144 := by show B.toArray.size = 144; simpa using hB
  rw [fill_cons _ _ _ _ _ 4 144 rfl hBs (by simp; omega)]
  have e1 : (Value.agg B.toArray).cells.toList = B := rfl
  have e2 : (ii 0 :: ii 1 :: ii 10 :: ii 10 :: (Z ++ [Value.slice none 0 0])).toArray.toList.drop (4 + 144) = [Value.slice none 0 0] := by
    show (Z ++ [Value.slice none 0 0]).drop 144 = _
    rw [← hZl, List.drop_left]
  rw [e1, e2]
  rfl

theorem wpList_build3 {ops : Array Oper} {rest : List Oper} {o : Oper} {a : Act} {w : World} {Q : Exit → Act → World → Prop} (hg : o.guard = none) (t : TypeId) (i1 i2 i3 : Nat) (x1 x2 x3 : Operand) (ho : o.op = .build t #[(i1, x1), (i2, x2), (i3, x3)])
    (v1 v2 v3 : Value) (h1 : a.eval x1 = v1) (h2 : a.eval x2 = v2) (h3 : a.eval x3 = v3) (cells : Array Value)
    (hc : Tryz.prog.built t [(i1, v1), (i2, v2), (i3, v3)] = some cells) (h : wpList Tryz.prog ops Q rest (a.put o.dst (.agg cells)) w) : wpList Tryz.prog ops Q (o :: rest) a w :=
  wpList_plain hg fun _ hK => by
    have hc' : Tryz.prog.built t ((#[(i1, x1), (i2, x2), (i3, x3)] : Array (Nat × Operand)).map fun (i, x) => (i, a.eval x)).toList = some cells := by
      simp [h1, h2, h3, hc]
    unfold Oper.wp execOp
    simp only [ho, Sem.run_bind, run_build w t _ cells hc', Result.andThen_ok]
    exact hK _ _ h
theorem fld1 : ∀ w, (Instr.field 220 kind1 0).run Tryz.prog w = .ok (ii 40) w := fun w => by kernel_rfl
def baseU (k : Nat) : U := newU ((k : Int) + 1) k 1 (if k = 0 then 0 else 11) (if k = 0 then 0 else 11) 40
structure NewI (Wg : World) (gb : Nat) (k : Nat) (wr : World) : Prop where
  ex : ∃ v, wr.cell? ⟨gb, 148, none⟩ = some v ∧ wr.ownsRow Wg.heap.size 85 11 v k (((List.range k).map baseU).flatMap U.cells)
  nx : wr.cell? ⟨gb, 1, none⟩ = some (ii ((k : Int) + 1))
  fr : Fr [gb] Wg wr
  ot : ∀ j, j ≠ 1 → j ≠ 148 → wr.cell? ⟨gb, j, none⟩ = Wg.cell? ⟨gb, j, none⟩
  fz : ∀ j, wr.frozen? ⟨gb, j, none⟩ = Wg.frozen? ⟨gb, j, none⟩
theorem add_new (Wg : World) (gb k : Nat) (wr w0 : World) (h : NewI Wg gb k wr) (hf : Fr [] wr w0) (hgb : gb < Wg.heap.size) (hk : k < 2) (hz : ∀ j, Wg.frozen? ⟨gb, j, none⟩ = false) (x y : Int) (hx : x = if k = 0 then 0 else 11) (hy : y = if k = 0 then 0 else 11) :
    Calls Tryz.prog 77 #[.pointer (some ⟨gb, 0, none⟩), .int .i64 (k : Int), .int .i64 1, cv x y] w0 fun e w' => e = .returned (.tuple #[]) ∧ NewI Wg gb (k + 1) w' := by
  obtain ⟨⟨v, hv, hown⟩, hnx, hfr, hot, hfz⟩ := h
  have hl : ((List.range k).map baseU).length = k := by simp
  have hgr : gb < wr.heap.size := Nat.lt_of_lt_of_le hgb hfr.size
  have hg0 : gb < w0.heap.size := Nat.lt_of_lt_of_le hgr hf.size
  have c : ∀ j, w0.cell? ⟨gb, j, none⟩ = wr.cell? ⟨gb, j, none⟩ := fun j => hf.cell gb j hgr (by simp)
  have f : ∀ j, w0.frozen? ⟨gb, j, none⟩ = wr.frozen? ⟨gb, j, none⟩ := fun j => hf.frozen gb j hgr (by simp)
  have hown' : w0.ownsRow Wg.heap.size 85 11 v ((List.range k).map baseU).length (((List.range k).map baseU).flatMap U.cells) := by rw [hl]; exact owns_fr hown hf (by simp)
  refine (add_own gb Wg.heap.size ((k : Int) + 1) k 1 x y 40 _ _ _ _ _ _ _ _ _ _ _ _ _ _ _ _ _ _ _ _ _ _ _ v ((List.range k).map baseU) w0 (fun w => kindOf_1 w) fld1 hg0 ((c 1).trans hnx) (by rw [f, hfz]; exact hz 1) ((c 148).trans hv) (by rw [f, hfz]; exact hz 148) hown' (fun e => by have := own_base hown e; omega) (by rw [hl]; omega) (by omega) (Nat.le_trans hfr.size hf.size)).mono ?_
  rintro e w' ⟨rfl, v', q1, q2, q3, _, q5, q6, q7⟩
  refine ⟨rfl, ⟨v', q1, ?_⟩, ?_, ?_, ?_, ?_⟩
  · rw [hl] at q3
    have : (List.range (k + 1)).map baseU = (List.range k).map baseU ++ [newU ((k : Int) + 1) k 1 x y 40] := by rw [List.range_succ, List.map_append, hx, hy]; rfl
    rw [this]
    exact q3
  · rw [q2]; simp
  · refine (hfr.then0 hf).trans q5 (fun b hb => ?_)
    rcases List.mem_cons.1 hb with rfl | hb
    · simp
    · exact Or.inr (own_base hown (by simpa using hb))
  · intro j h1 h2
    rw [q6 j h1 h2, c, hot j h1 h2]
  · intro j
    rw [q7, f, hfz]
theorem at0 (w : World) : (Instr.index 160 (.agg #[ii 0, ii 0, ii 11, ii 11]) (.int .i64 0)).run Tryz.prog w = .ok (cv 0 0) w := by kernel_rfl
theorem at1 (w : World) : (Instr.index 160 (.agg #[ii 0, ii 0, ii 11, ii 11]) (.int .i64 1)).run Tryz.prog w = .ok (cv 11 11) w := by kernel_rfl
theorem infoMap : (Tryz.prog.info? 162).map (·.size) = some 148 := by kernel_rfl
theorem boardTo_len (cs : List Int) (n : Nat) : (boardTo cs n).length = 144 := by simp [boardTo]
theorem map_one (cs : List Int) : (boardTo cs 144 ++ [ii 0, ii 0, ii 11, ii 11]).toArray.all (·.oneCell') = true := by
  apply all_oneCell_toArray
  intro v hv
  rcases List.mem_append.1 hv with hv | hv
  · obtain ⟨j, _, rfl⟩ := List.mem_map.1 hv
    by_cases hj : j < 144
    · rw [if_pos hj]; rfl
    · rw [if_neg hj]; rfl
  · simp only [List.mem_cons, List.not_mem_nil, or_false] at hv
    rcases hv with rfl | rfl | rfl | rfl <;> rfl

set_option maxRecDepth 100000 in
set_option maxHeartbeats 1000000 in
theorem rulesNew_any (cs : List Int) (w : World) :
    Calls Tryz.prog 35 #[.string ⟨(textTo cs 144).toArray⟩] w fun e w' => ∃ pb cap, e = .returned (.tuple #[.agg (gameL (startT cs) (.slice (some ⟨pb, 0, none⟩) 2 cap)).toArray, .bool true]) ∧ PRow w' pb cap (startT cs).us ∧ w.heap.size ≤ pb ∧ Fr [] w w' := by
  have hmap := readMap_any cs
  obtain ⟨L, hL⟩ : ∃ L, L = textTo cs 144 := ⟨_, rfl⟩
  obtain ⟨B, hB⟩ : ∃ B, B = boardTo cs 144 := ⟨_, rfl⟩
  have hBl : B.length = 144 := by rw [hB]; exact boardTo_len cs 144
  have hm1 := map_one cs
  rw [← hL, ← hB] at hmap
  rw [← hL]
  rw [← hB] at hm1
  have hms : (B ++ [ii 0, ii 0, ii 11, ii 11]).toArray.size = 148 := by simp [hBl]
  have hbld := built_game B hBl
  obtain ⟨ma, hma⟩ : ∃ x, x = (B ++ [ii 0, ii 0, ii 11, ii 11]).toArray := ⟨_, rfl⟩
  rw [← hma] at hm1 hms
  simp only [← hma] at hmap
  have HMAP := (show Hid _ from hmap)
  have HMA := (show Hid _ from hma)
  have HB := (show Hid _ from hB)
  have HBL := (show Hid _ from hBl)
  have HM1 := (show Hid _ from hm1)
  have HI3 : Hid ((Tryz.prog.info? 162).map (·.size) = some ma.size) := by
    show _ = _
    rw [hms]; exact infoMap
  have HZ3 : Hid (Tryz.zeroCells162.size = ma.size) := by
    show _ = _
    rw [hms, zcMap]; simp
  clear hL hma hB hBl hmap hm1 hms
  go_enter Tryz.func35, Tryz.ntmps35
  go_wp2_with fail
  refine Calls.mono (HMAP.out _) ?_
  rintro e w1 ⟨rfl, hf1⟩
  dsimp only
  have hw1 : Fr [] w w1 := ((Fr.refl [] w).alloc (.cells Tryz.zeroCells90 90)).then0 hf1
  have hRes : w1.heap[w.heap.size]? = some (.cells Tryz.zeroCells90 90) := hf1.heap0 (hp_new _ _)
  have HR := (show Hid _ from hRes)
  clear HMAP hRes hf1
  have HF2 : Hid (Fr [] w ((w1.alloc (.cells Tryz.zeroCells162 162)).setRow w1.heap.size ma)) := (hw1.alloc _).setRow _ _ (Or.inr hw1.size)
  have HMM : Hid (((w1.alloc (.cells Tryz.zeroCells162 162)).setRow w1.heap.size ma).heap[w1.heap.size]? = some (.cells ma 162)) := setRow_heap _ _ _ _ _ _ (hp_new _ _)
  have HRG : Hid (((w1.alloc (.cells Tryz.zeroCells162 162)).setRow w1.heap.size ma).rangeAt w1.heap.size 0 B) := fun j v hv => by
    rw [Nat.zero_add, cell_of_heap HMM.out, HMA.out]
    simp only [List.getElem?_toArray]
    rw [List.getElem?_append_left (List.getElem?_eq_some_iff.1 hv).1]
    exact hv
  have HI5 : Hid ((Tryz.prog.info? 88).map (·.size) = some B.length) := by
    show _ = _
    rw [infoBoard, HBL.out]
  obtain ⟨G0, hG0⟩ : ∃ x, x = (ii 0 :: ii 1 :: ii 10 :: ii 10 :: (B ++ [Value.slice none 0 0])).toArray := ⟨_, rfl⟩
  rw [← hG0] at hbld
  have HBLD := (show Hid _ from hbld)
  clear hbld
  have HG0 := (show Hid _ from hG0)
  have HIG : Hid ((Tryz.prog.info? 90).map (·.size) = some G0.size) := by
    show _ = _
    rw [infoGame, hG0]; simp [HBL.out]
  have HZG : Hid (Tryz.zeroCells90.size = G0.size) := by
    show _ = _
    rw [zcGame, hG0]; simp [HBL.out]
  have HOG : Hid (G0.all (·.oneCell') = true) := by
    show _ = _
    rw [hG0]
    apply all_oneCell_toArray
    intro v hv
    simp only [List.mem_cons, List.mem_append, List.not_mem_nil, or_false] at hv
    rcases hv with rfl | rfl | rfl | rfl | hv | rfl
    · rfl
    · rfl
    · rfl
    · rfl
    · rw [HB.out] at hv
      obtain ⟨j, _, rfl⟩ := List.mem_map.1 hv
      by_cases hj : j < 144
      · rw [if_pos hj]; rfl
      · rw [if_neg hj]; rfl
    · rfl
  have HGP : Hid ((((w1.alloc (.cells Tryz.zeroCells162 162)).setRow w1.heap.size ma).alloc (.cells Tryz.zeroCells90 90)).heap[w1.heap.size + 1]? = some (.cells Tryz.zeroCells90 90)) := hp_at _ _ _ (by simp)
  clear hG0
  have hq : ∀ k v, [ii 0, ii 0, ii 11, ii 11][k]? = some v → ((((w1.alloc (.cells Tryz.zeroCells162 162)).setRow w1.heap.size ma).alloc (.cells Tryz.zeroCells90 90)).setRow (w1.heap.size + 1) G0).cell? ⟨w1.heap.size, 144 + k, none⟩ = some v := fun k v hk => by
    have h1 : ((((w1.alloc (.cells Tryz.zeroCells162 162)).setRow w1.heap.size ma).alloc (.cells Tryz.zeroCells90 90)).setRow (w1.heap.size + 1) G0).heap[w1.heap.size]? = some (.cells ma 162) := by
      rw [setRow_other _ _ _ _ (by omega)]
      exact ((Fr.refl [] _).alloc _).heap0 HMM.out
    rw [cell_of_heap h1, HMA.out]
    simp only [List.getElem?_toArray]
    rw [List.getElem?_append_right (by rw [HBL.out]; omega), HBL.out, Nat.add_sub_cancel_left]
    exact hk
  have b4 := hq 0 _ rfl
  have b5 := hq 1 _ rfl
  have b6 := hq 2 _ rfl
  have b7 := hq 3 _ rfl
  clear hq
  go_wp2_with (first | (refine wpList_build3 rfl 90 1 2 3 (.const (.int .i64 1)) (.tmp 17) (.tmp 19) rfl (ii 1) (.agg #[ii 10, ii 10]) (.agg B.toArray) rfl rfl rfl G0 HBLD.out ?_) | (refine wpList_store_row rfl 162 _ _ rfl w1.heap.size ma rfl rfl 162 Tryz.zeroCells162 (hp_new w1 _) HI3.out HZ3.out HM1.out ?_) | (refine wpList_load_mid rfl 88 _ rfl w1.heap.size 0 rfl B _ HRG.out Tryz.underlying88 rfl HI5.out ?_) | (refine wpList_store_row rfl 90 _ _ rfl (w1.heap.size + 1) G0 rfl rfl 90 Tryz.zeroCells90 HGP.out HIG.out HZG.out HOG.out ?_))
  obtain ⟨Wg, hWg⟩ : ∃ W, W = (((w1.alloc (.cells Tryz.zeroCells162 162)).setRow w1.heap.size ma).alloc (.cells Tryz.zeroCells90 90)).setRow (w1.heap.size + 1) G0 := ⟨_, rfl⟩
  rw [← hWg]
  have hgG : Wg.heap[w1.heap.size + 1]? = some (.cells G0 90) := by rw [hWg]; exact setRow_heap _ _ _ _ _ _ HGP.out
  have hwg : Fr [] w Wg := by rw [hWg]; exact (HF2.out.alloc _).setRow _ _ (Or.inr (by have := hw1.size; omega))
  have hRg : Wg.heap[w.heap.size]? = some (.cells Tryz.zeroCells90 90) := by
    have hlt := lt_of_heap HR.out
    have f1 : Fr [] w1 Wg := by rw [hWg]; exact ((((Fr.refl [] w1).alloc _).setRow _ _ (Or.inr (Nat.le_refl _))).alloc _).setRow _ _ (Or.inr (by omega))
    exact f1.heap0 HR.out
  obtain ⟨gb, hgb⟩ : ∃ x, x = w1.heap.size + 1 := ⟨_, rfl⟩
  have hrg : w.heap.size < gb := by have := hw1.size; omega
  rw [← hgb] at hgG ⊢
  have hc148 : Wg.cell? ⟨gb, 148, none⟩ = some (.slice none 0 0) := by
    rw [cell_of_heap hgG, HG0.out]
    simp only [List.getElem?_toArray, List.getElem?_cons_succ]
    rw [List.getElem?_append_right (by rw [HBL.out]; omega), HBL.out]
    rfl
  have hc1 : Wg.cell? ⟨gb, 1, none⟩ = some (ii 1) := by rw [cell_of_heap hgG, HG0.out]; rfl
  have hzg : ∀ j, Wg.frozen? ⟨gb, j, none⟩ = false := fun j => frozen_of_heap hgG
  have hgl := lt_of_heap hgG
  have hN0 : NewI Wg gb 0 Wg := ⟨⟨_, hc148, ⟨rfl, Or.inl ⟨rfl, rfl⟩⟩⟩, hc1, Fr.refl _ _, fun _ _ _ => rfl, fun _ => rfl⟩
  have HN0 := (show Hid _ from hN0)
  have HZG := (show Hid _ from hzg)
  have HGG := (show Hid _ from hgG)
  have HRG2 := (show Hid _ from hRg)
  clear hWg hgb b4 b5 b6 b7 hgG hRg hc148 hc1 hzg hN0 HMM HRG HF2 HGP
  go_loopw [23] (fun i wr => ∃ k : Nat, k ≤ 2 ∧ i = .int .i64 k ∧ NewI Wg gb k wr) (fun i _ => 2 - (intOf i).toNat)
  case atStart => exact ⟨0, by omega, rfl, HN0.out⟩
  case round =>
    obtain ⟨k, hk, rfl, hI⟩ := hrel
    have HI := (show Hid _ from hI)
    clear hI
    have hks : k = 0 ∨ k = 1 ∨ k = 2 := by omega
    rcases hks with rfl | rfl | rfl
    · have hat := at0
      have HAD : Hid (∀ w0, Fr [] wr w0 → Calls Tryz.prog 77 #[.pointer (some ⟨gb, 0, none⟩), .int .i64 0, .int .i64 1, cv 0 0] w0 fun e w' => e = .returned (.tuple #[]) ∧ NewI Wg gb 1 w') := fun w0 hf => add_new Wg gb 0 wr w0 HI.out hf hgl (by omega) HZG.out 0 0 rfl rfl
      go_wp2_with (go_at_call 77; refine Calls.mono (HAD.out _ ((Fr.refl _ _).alloc _)) ?_; rintro e w2 ⟨rfl, hN⟩)
      go_roundw
      case rel => exact ⟨1, by omega, by go_num, hN⟩
      case measure => simp [intOf]
    · have hat := at1
      have HAD : Hid (∀ w0, Fr [] wr w0 → Calls Tryz.prog 77 #[.pointer (some ⟨gb, 0, none⟩), .int .i64 1, .int .i64 1, cv 11 11] w0 fun e w' => e = .returned (.tuple #[]) ∧ NewI Wg gb 2 w') := fun w0 hf => add_new Wg gb 1 wr w0 HI.out hf hgl (by omega) HZG.out 11 11 rfl rfl
      go_wp2_with (go_at_call 77; refine Calls.mono (HAD.out _ ((Fr.refl _ _).alloc _)) ?_; rintro e w2 ⟨rfl, hN⟩)
      go_roundw
      case rel => exact ⟨2, by omega, by go_num, hN⟩
      case measure => simp [intOf]
    · obtain ⟨⟨v, hv, hown⟩, hnx, hfr, hot, hfz⟩ := HI.out
      obtain ⟨pb, cap, hvv, hpb, hrow⟩ := PRow.of_owns (us := (startT cs).us) hown rfl (by omega)
      have hvv' : v = .slice (some ⟨pb, 0, none⟩) 2 cap := hvv
      have hrng : wr.rangeAt gb 0 (gameL (startT cs) (.slice (some ⟨pb, 0, none⟩) 2 cap)) := by
        intro j u hu
        have hj : j < 149 := by have := (List.getElem?_eq_some_iff.1 hu).1; rwa [gameL_len] at this
        unfold gameL at hu
        rw [List.getElem?_map, List.getElem?_range hj] at hu
        simp only [Option.map_some, Option.some.injEq] at hu
        rw [← hu, Nat.zero_add]
        by_cases j8 : j = 148
        · subst j8
          rw [hv, hvv']
          rfl
        · by_cases j1 : j = 1
          · subst j1
            rw [hnx]
            rfl
          · rw [hot j j1 j8, cell_of_heap HGG.out, HG0.out]
            unfold tcell
            by_cases j0 : j = 0
            · subst j0; rfl
            · by_cases j2 : j = 2
              · subst j2; rfl
              · by_cases j3 : j = 3
                · subst j3; rfl
                · obtain ⟨i, rfl⟩ : ∃ i, j = i + 4 := ⟨j - 4, by omega⟩
                  simp only [List.getElem?_toArray, List.getElem?_cons_succ]
                  rw [if_neg j0, if_neg j1, if_neg j2, if_neg j3, if_pos (by omega), List.getElem?_append_left (by rw [HBL.out]; omega), HB.out]
                  unfold boardTo
                  rw [List.getElem?_map, List.getElem?_range (by omega)]
                  simp only [Option.map_some]
                  rw [if_pos (by omega)]
                  rfl
      obtain ⟨gl, hgle⟩ : ∃ x, x = gameL (startT cs) (.slice (some ⟨pb, 0, none⟩) 2 cap) := ⟨_, rfl⟩
      have hll : gl.length = 149 := by rw [hgle]; exact gameL_len _ _
      have ho1 : gl.toArray.all (·.oneCell') = true := by rw [hgle]; exact gameL_one _ _ _ _
      rw [← hgle] at hrng
      have HRN := (show Hid _ from hrng)
      have HGE := (show Hid _ from hgle)
      have HO := (show Hid _ from ho1)
      have HL1 : Hid ((Tryz.prog.info? 90).map (·.size) = some gl.length) := by
        show _ = _
        rw [infoGame, hll]
      have HL2 : Hid ((Tryz.prog.info? 90).map (·.size) = some gl.toArray.size) := by
        show _ = _
        rw [infoGame, List.size_toArray, hll]
      have HL3 : Hid (Tryz.zeroCells90.size = gl.toArray.size) := by
        show _ = _
        exact zcGame.trans (by simp [hll])
      have hR := hfr.heap HRG2.out (by simp; omega)
      have HR3 := (show Hid _ from hR)
      clear hgle hll ho1 hrng hvv hvv' hv hown hnx hot hfz hR
      go_wp2_with (first | (refine wpList_load_mid rfl 90 _ rfl gb 0 rfl gl _ HRN.out Tryz.underlying90 rfl HL1.out ?_) | (refine wpList_store_row rfl 90 _ _ rfl w.heap.size gl.toArray rfl rfl 90 Tryz.zeroCells90 HR3.out HL2.out HL3.out HO.out ?_))
      have hF : Fr [w.heap.size] wr (wr.setRow w.heap.size gl.toArray) := (Fr.refl _ _).setRow _ _ (by simp)
      have hs := hwg.size
      refine bodyPost_ret (v := .tuple #[.agg gl.toArray, .bool true]) (results_cell_tmp Tryz.results35 _ _ w.heap.size 90 gl.toArray (0, 0) _ _ rfl rfl (setRow_heap _ _ _ _ _ _ HR3.out) Tryz.underlying90 rfl HL2.out) rfl ⟨pb, cap, by rw [HGE.out], hrow.fr hF (by simp; omega), by omega, ?_⟩
      exact (hwg.trans hfr (by simp; omega)).setRow _ _ (Or.inr (Nat.le_refl _))
end Go.Proofs.YtapabahhfanmmaaGreatDoor
/- A game is begun. -/
namespace Go.Proofs.YtapabahhfanmmaaGreatDoor
open Go.RowKit

theorem skF : fieldsOf Tryz.prog 100 = some [(0, 149)] := by kernel_rfl
theorem skZ : zerosOf Tryz.prog 100 = some (some 149) := by kernel_rfl
theorem built_sk (gs : Array Value) (hg : gs.size = 149) : Tryz.prog.built 100 [(0, .agg gs)] = some gs := by
  refine built_is _ _ _ skF skZ _ _ (fun z hz => ?_)
  rw [fill_cons _ _ _ _ _ 0 149 rfl (by exact hg) (by omega)]
  have e : z.toList.drop (0 + 149) = [] := List.drop_of_length_le (by simp [hz])
  rw [e]
  show some (([] ++ gs.toList ++ []).toArray) = some gs
  simp
theorem wpList_build1 {ops : Array Oper} {rest : List Oper} {o : Oper} {a : Act} {w : World} {Q : Exit → Act → World → Prop} (hg : o.guard = none) (t : TypeId) (i1 : Nat) (x1 : Operand) (ho : o.op = .build t #[(i1, x1)])
    (v1 : Value) (h1 : a.eval x1 = v1) (cells : Array Value)
    (hc : Tryz.prog.built t [(i1, v1)] = some cells) (h : wpList Tryz.prog ops Q rest (a.put o.dst (.agg cells)) w) : wpList Tryz.prog ops Q (o :: rest) a w :=
  wpList_plain hg fun _ hK => by
    have hc' : Tryz.prog.built t ((#[(i1, x1)] : Array (Nat × Operand)).map fun (i, x) => (i, a.eval x)).toList = some cells := by
      simp [h1, hc]
    unfold Oper.wp execOp
    simp only [ho, Sem.run_bind, run_build w t _ cells hc', Result.andThen_ok]
    exact hK _ _ h

set_option maxRecDepth 100000 in
set_option maxHeartbeats 1000000 in
theorem new_any (cs : List Int) (w : World) (hw : 0 < w.heap.size) :
    Calls Tryz.prog 32 #[.string ⟨(textTo cs 144).toArray⟩] w fun e w' => ∃ gb pb cap, e = .returned (.tuple #[.pointer (some ⟨gb, 0, none⟩), .int .i64 0]) ∧ GS w' gb pb cap (startT cs) ∧ w.heap.size ≤ gb ∧ w.heap.size ≤ pb ∧ Fr [] w w' := by
  have hnew := rulesNew_any cs
  obtain ⟨L, hL⟩ : ∃ L, L = textTo cs 144 := ⟨_, rfl⟩
  rw [← hL]
  simp only [← hL] at hnew
  clear hL
  have HNEW := (show Hid _ from hnew)
  clear hnew
  go_enter Tryz.func32, Tryz.ntmps32
  go_wp2_with fail
  refine Calls.mono (HNEW.out _) ?_
  rintro e w1 ⟨pb, cap, rfl, hrow, hpb, hf1⟩
  dsimp only
  obtain ⟨gl, hgl⟩ : ∃ x, x = gameL (startT cs) (.slice (some ⟨pb, 0, none⟩) 2 cap) := ⟨_, rfl⟩
  rw [← hgl]
  have hll : gl.length = 149 := by rw [hgl]; exact gameL_len _ _
  have HO : Hid (gl.toArray.all (·.oneCell') = true) := by
    show _ = _
    rw [hgl]; exact gameL_one _ _ _ _
  have HGE := (show Hid _ from hgl)
  have HL2 : Hid ((Tryz.prog.info? 90).map (·.size) = some gl.toArray.size) := by
    show _ = _
    rw [infoGame, List.size_toArray, hll]
  have HL3 : Hid (Tryz.zeroCells90.size = gl.toArray.size) := by
    show _ = _
    exact zcGame.trans (by simp [hll])
  have HBS : Hid (Tryz.prog.built 100 [(0, .agg gl.toArray)] = some gl.toArray) := built_sk _ (by simp [hll])
  have HH : Hid (((w1.alloc (.cells Tryz.zeroCells90 90)).setRow w1.heap.size gl.toArray).heap[w1.heap.size]? = some (.cells gl.toArray 90)) := setRow_heap _ _ _ _ _ _ (hp_new _ _)
  clear hgl hll HNEW
  go_wp2_with (first | (refine wpList_store_row rfl 90 _ _ rfl w1.heap.size gl.toArray rfl rfl 90 Tryz.zeroCells90 (hp_new w1 _) HL2.out HL3.out HO.out ?_) | (refine wpList_load_row rfl 90 _ rfl w1.heap.size rfl 90 gl.toArray (0, 0) _ HH.out Tryz.underlying90 rfl HL2.out ?_) | (refine wpList_build1 rfl 100 0 (.tmp 13) rfl (.agg gl.toArray) rfl gl.toArray HBS.out ?_))
  have hs1 := hf1.size
  have hF : Fr [] w (((w1.alloc (.cells Tryz.zeroCells90 90)).setRow w1.heap.size gl.toArray).alloc (.cells gl.toArray 100)) := ((hf1.alloc _).setRow _ _ (Or.inr hs1)).alloc _
  have h1F : Fr [] w1 (((w1.alloc (.cells Tryz.zeroCells90 90)).setRow w1.heap.size gl.toArray).alloc (.cells gl.toArray 100)) := (((Fr.refl _ _).alloc _).setRow _ _ (Or.inr (Nat.le_refl _))).alloc _
  have hh : (((w1.alloc (.cells Tryz.zeroCells90 90)).setRow w1.heap.size gl.toArray).alloc (.cells gl.toArray 100)).heap[w1.heap.size + 1]? = some (.cells gl.toArray 100) := hp_at _ _ _ (by simp)
  have hpl := hrow.lt
  refine bodyPost_ret (v := .tuple #[.pointer (some ⟨w1.heap.size + 1, 0, none⟩), .int .i64 0]) (by simp [results, Tryz.results32, go_sem]) rfl ⟨w1.heap.size + 1, pb, cap, rfl, ⟨fun k hk => ?_, fun k => frozen_of_heap hh, hrow.fr h1F (by simp), by show 2 ≤ 1000; omega, by show 0 < 2; omega, by omega, by omega, by omega⟩, by omega, hpb, hF⟩
  rw [cell_of_heap hh, HGE.out]
  simp only [List.getElem?_toArray]
  unfold gameL
  rw [List.getElem?_map, List.getElem?_range hk]
  rfl
end Go.Proofs.YtapabahhfanmmaaGreatDoor
/- How a game begins, plainly. -/
namespace Go.Proofs.YtapabahhfanmmaaGreatDoor
open Go.RowKit

theorem ground_le (c : UInt8) : 0 ≤ groundOf c ∧ groundOf c ≤ 10 := by
  unfold groundOf
  split
  · omega
  · split
    · rename_i h
      have h1 : 49 ≤ c.toNat := by simpa using UInt8.le_iff_toNat_le.1 h.1
      have h2 : c.toNat ≤ 57 := by simpa using UInt8.le_iff_toNat_le.1 h.2
      omega
    · omega
theorem bd_start (cs : List Int) (i : Nat) : 0 ≤ bdOf cs i ∧ bdOf cs i ≤ 10 := ground_le _
theorem held_start (c : Cl) : heldOf [newU 1 0 1 0 0 40, newU 2 1 1 11 11 40] c = if c = (11, 11) then some 2 else if c = (0, 0) then some 1 else none := rfl
theorem start_ok (cs : List Int) : GOk (startT cs) := by
  have h00 : bdOf cs 0 = 0 := rfl
  have h11 : bdOf cs 143 = 0 := rfl
  refine ⟨?_, ?_, ?_, by simp [startT], by simp [startT], fun i _ => bd_start cs i, by simp [startT], by simp [startT, isBase], by simp [startT, isBase], by simp [startT, isBase]⟩
  · show Rise [newU 1 0 1 0 0 40, newU 2 1 1 11 11 40]
    unfold Rise
    simp
  · intro u hu
    have hu' : u = newU 1 0 1 0 0 40 ∨ u = newU 2 1 1 11 11 40 := by simpa [startT] using hu
    rcases hu' with rfl | rfl
    · exact ⟨by rfl, h00, by rfl, Or.inl rfl, Or.inl rfl, by simp [lifeOf], by simp, by simp [startT], Or.inl rfl⟩
    · exact ⟨by rfl, h11, by rfl, Or.inr rfl, Or.inl rfl, by simp [lifeOf], by simp, by simp [startT], Or.inl rfl⟩
  · intro c i h
    have h' : (if c = (11, 11) then some (2 : Int) else if c = (0, 0) then some 1 else none) = some i := h
    by_cases h1 : c = (11, 11)
    · rw [if_pos h1] at h'
      cases h'
      exact ⟨newU 2 1 1 11 11 40, by simp [startT], rfl, h1.symm⟩
    · rw [if_neg h1] at h'
      by_cases h2 : c = (0, 0)
      · rw [if_pos h2] at h'
        cases h'
        exact ⟨newU 1 0 1 0 0 40, by simp [startT], rfl, h2.symm⟩
      · rw [if_neg h2] at h'
        cases h'

/- The first turn of a game without rocks or ore. -/
def firstCmds : List Cm := [⟨1, 4, 2, 0, 0⟩, ⟨2, 4, 2, 0, 0⟩]
theorem first_turn : (playT (startT []) firstCmds []).1.us.map (fun u => (u.id, u.x, u.y)) = [(1, 0, 0), (2, 11, 11), (3, 1, 0)] ∧ (playT (startT []) firstCmds []).2 = ([1], []) ∧ (playT (startT []) firstCmds []).1.s0 = 5 := by
  decide
end Go.Proofs.YtapabahhfanmmaaGreatDoor
