import Derived.Test.YtapabahhfanmmaaGreatDoorCLeaf
import Derived.Laws.Concat
/- A map's text. -/
namespace Go.Proofs.YtapabahhfanmmaaGreatDoor
open Go.RowKit

/-- Raw numbers in memory, as a call is given them. -/
def IntV (w : World) (v : Value) (l : List Int) : Prop := (∃ ao lc, v = .slice ao 0 lc ∧ l = []) ∨ ∃ lb lo lc, v = .slice (some ⟨lb, lo, none⟩) l.length lc ∧ (∀ (i : Nat) (h : i < l.length), w.cell? ⟨lb, lo + i, none⟩ = some (ii l[i])) ∧ lb < w.heap.size
def signOf (cs : List Int) (j : Nat) : UInt8 :=
  if j = 0 then 65 else if j = 143 then 66 else
    match cs[j]? with
    | none => 46
    | some c => if pk c 16 = 0 then 35 else if pk c 16 = 1 then 50 else if pk c 16 = 2 then 53 else if pk c 16 = 3 then 55 else if pk c 16 = 4 then 57 else 46
def textTo (cs : List Int) : Nat → List UInt8
  | 0 => []
  | n + 1 => textTo cs n ++ [signOf cs n] ++ (if n % 12 = 11 then [10] else [])
theorem textTo_len (cs : List Int) : ∀ n, (textTo cs n).length ≤ 2 * n
  | 0 => by simp [textTo]
  | n + 1 => by
    have := textTo_len cs n
    unfold textTo
    split <;> simp <;> omega

theorem text_mid1 {cs : List Int} {k : Nat} {b : UInt8} (h : signOf cs k = b) (hm : k % 12 = 11) : textTo cs k ++ [b] ++ [10] = textTo cs (k + 1) := by rw [textTo, h, if_pos hm]
theorem text_mid2 {cs : List Int} {k : Nat} {b : UInt8} (h : signOf cs k = b) (hm : k % 12 ≠ 11) : textTo cs k ++ [b] = textTo cs (k + 1) := by rw [textTo, h, if_neg hm]; simp
theorem str_add {x y z : List UInt8} (h : x ++ y = z) : Value.string ((⟨x.toArray⟩ : ByteArray) ++ ⟨y.toArray⟩) = .string ⟨z.toArray⟩ := by rw [ByteArray.mk_append_mk, ← h]
theorem str_add2 {x y y' z : List UInt8} (h : x ++ y ++ y' = z) : Value.string ((⟨x.toArray⟩ : ByteArray) ++ ⟨y.toArray⟩ ++ ⟨y'.toArray⟩) = .string ⟨z.toArray⟩ := by rw [ByteArray.mk_append_mk, ByteArray.mk_append_mk, ← h]

set_option maxRecDepth 100000 in
set_option maxHeartbeats 2000000 in
theorem text_nil (ao : Option Addr) (lc : Nat) (w : World) :
    Calls Tryz.prog 12 #[.slice ao 0 lc] w fun e w' => e = .returned (.string ⟨(textTo [] 144).toArray⟩) ∧ Fr [] w w' := by
  go_enter Tryz.func12, Tryz.ntmps12
  go_wp2_with fail
  go_loopw [3, 4] (fun s i wr => ∃ k : Nat, k ≤ 144 ∧ i = .int .i64 k ∧ s = .string ⟨(textTo [] k).toArray⟩ ∧ w = wr) (fun _ i _ => 144 - (intOf i).toNat)
  case atStart => exact ⟨0, Nat.zero_le _, rfl, rfl, rfl⟩
  case round =>
    obtain ⟨k, hk, rfl, rfl, rfl⟩ := hrel
    by_cases hlt : k < 144
    · have hlti : (k : Int) < 144 := by omega
      have hln := textTo_len [] k
      have hks : k = 0 ∨ k = 143 ∨ (k ≠ 0 ∧ k ≠ 143 ∧ k % 12 = 11) ∨ (k ≠ 0 ∧ k ≠ 143 ∧ k % 12 ≠ 11) := by omega
      rcases hks with rfl | e143 | ⟨n1, n2, n3⟩ | ⟨n1, n2, n3⟩
      · go_wp2_with (fail)
        go_roundw
        case rel => exact ⟨1, by omega, by go_num, str_add (y := [65]) (by simp [textTo, signOf]), trivial⟩
        case measure => simp [intOf]
      · have n0 : k ≠ 0 := by omega
        have m1 : ¬ (k : Int) = 0 := by omega
        have m4 : ((k : Int) == 0) = false := by simp; omega
        have m5 : ((k : Int) == 143) = true := by simp; omega
        have m3 : (k : Int) % 12 = 11 := by omega
        have E143 := (show Hid _ from e143)
        clear e143
        go_wp2_with (fail)
        go_roundw
        case rel => exact ⟨k + 1, by have := E143.out; omega, by go_num, str_add2 (y := [66]) (y' := [10]) (text_mid1 (by simp [signOf, E143.out]) (by have := E143.out; omega)), trivial⟩
        case measure => simp [intOf]; omega
      · have m1 : ¬ (k : Int) = 0 := by omega
        have m2 : ¬ (k : Int) = 143 := by omega
        have m3 : (k : Int) % 12 = 11 := by omega
        have m4 : ((k : Int) == 0) = false := by simp; omega
        have m5 : ((k : Int) == 143) = false := by simp; omega
        go_wp2_with (fail)
        go_roundw
        case rel => exact ⟨k + 1, by omega, by go_num, str_add2 (y := [46]) (y' := [10]) (text_mid1 (by simp [signOf, n1, n2]) n3), trivial⟩
        case measure => simp [intOf]; omega
      · have m1 : ¬ (k : Int) = 0 := by omega
        have m2 : ¬ (k : Int) = 143 := by omega
        have m3 : ¬ (k : Int) % 12 = 11 := by omega
        have m4 : ((k : Int) == 0) = false := by simp; omega
        have m5 : ((k : Int) == 143) = false := by simp; omega
        go_wp2_with (fail)
        go_roundw
        case rel => exact ⟨k + 1, by omega, by go_num, str_add (y := [46]) (text_mid2 (by simp [signOf, n1, n2]) n3), trivial⟩
        case measure => simp [intOf]; omega
    · have : k = 144 := by omega
      subst this
      go_wp2_with fail
      go_ret
      exact ⟨rfl, Fr.refl _ _⟩

set_option maxRecDepth 100000 in
set_option maxHeartbeats 4000000 in
theorem text_blk (lb lo lc : Nat) (cs : List Int) (w : World) (hc : ∀ (i : Nat) (h : i < cs.length), w.cell? ⟨lb, lo + i, none⟩ = some (ii (cs[i]'h))) (hb : ∀ c ∈ cs, -9223372036854775808 ≤ c ∧ c ≤ 9223372036854775807) :
    Calls Tryz.prog 12 #[.slice (some ⟨lb, lo, none⟩) cs.length lc] w fun e w' => e = .returned (.string ⟨(textTo cs 144).toArray⟩) ∧ Fr [] w w' := by
  go_enter Tryz.func12, Tryz.ntmps12
  go_wp2_with fail
  go_loopw [3, 4] (fun s i wr => ∃ k : Nat, k ≤ 144 ∧ i = .int .i64 k ∧ s = .string ⟨(textTo cs k).toArray⟩ ∧ w = wr) (fun _ i _ => 144 - (intOf i).toNat)
  case atStart => exact ⟨0, Nat.zero_le _, rfl, rfl, rfl⟩
  case round =>
    obtain ⟨k, hk, rfl, rfl, rfl⟩ := hrel
    by_cases hlt : k < 144
    · have hlti : (k : Int) < 144 := by omega
      have hln := textTo_len cs k
      have hks : k = 0 ∨ k = 143 ∨ (k ≠ 0 ∧ k ≠ 143 ∧ k % 12 = 11) ∨ (k ≠ 0 ∧ k ≠ 143 ∧ k % 12 ≠ 11) := by omega
      by_cases hl : k < cs.length
      · have hli : (k : Int) < (cs.length : Int) := by omega
        have hcell := hc k hl
        obtain ⟨c, hcc⟩ : ∃ c, cs[k] = c := ⟨_, rfl⟩
        have hget : cs[k]? = some c := by rw [List.getElem?_eq_getElem hl, hcc]
        rw [hcc] at hcell
        obtain ⟨hb1, hb2⟩ := hb c (List.mem_of_getElem? hget)
        have hp0 : 0 ≤ pk c 16 := by unfold pk; omega
        have hp1 : pk c 16 < 16 := by unfold pk; omega
        clear hcc hb hc
        have hq : pk c 16 = 0 ∨ pk c 16 = 1 ∨ pk c 16 = 2 ∨ pk c 16 = 3 ∨ pk c 16 = 4 ∨ 5 ≤ pk c 16 := by omega
        rcases hq with hq | hq | hq | hq | hq | hq
        · skip
          rcases hks with rfl | e143 | ⟨n1, n2, n3⟩ | ⟨n1, n2, n3⟩
          · rw [Nat.add_zero] at hcell
            go_wp2_with (go_at_call 18; refine (pick_any c 16 _ (by omega) hb1 hb2).mono ?_; rintro e w1 ⟨rfl, rfl⟩; rw [hq])
            go_roundw
            case rel => exact ⟨1, by omega, by go_num, str_add (y := [65]) (by simp [textTo, signOf]), trivial⟩
            case measure => simp [intOf]
          · have n0 : k ≠ 0 := by omega
            have m1 : ¬ (k : Int) = 0 := by omega
            have m4 : ((k : Int) == 0) = false := by simp; omega
            have m5 : ((k : Int) == 143) = true := by simp; omega
            have m3 : (k : Int) % 12 = 11 := by omega
            have E143 := (show Hid _ from e143)
            clear e143
            go_wp2_with (go_at_call 18; refine (pick_any c 16 _ (by omega) hb1 hb2).mono ?_; rintro e w1 ⟨rfl, rfl⟩; rw [hq])
            go_roundw
            case rel => exact ⟨k + 1, by have := E143.out; omega, by go_num, str_add2 (y := [66]) (y' := [10]) (text_mid1 (by simp [signOf, E143.out]) (by have := E143.out; omega)), trivial⟩
            case measure => simp [intOf]; omega
          · have m1 : ¬ (k : Int) = 0 := by omega
            have m2 : ¬ (k : Int) = 143 := by omega
            have m3 : (k : Int) % 12 = 11 := by omega
            have m4 : ((k : Int) == 0) = false := by simp; omega
            have m5 : ((k : Int) == 143) = false := by simp; omega
            go_wp2_with (go_at_call 18; refine (pick_any c 16 _ (by omega) hb1 hb2).mono ?_; rintro e w1 ⟨rfl, rfl⟩; rw [hq])
            go_roundw
            case rel => exact ⟨k + 1, by omega, by go_num, str_add2 (y := [35]) (y' := [10]) (text_mid1 (by simp [signOf, n1, n2, hget, hq]) n3), trivial⟩
            case measure => simp [intOf]; omega
          · have m1 : ¬ (k : Int) = 0 := by omega
            have m2 : ¬ (k : Int) = 143 := by omega
            have m3 : ¬ (k : Int) % 12 = 11 := by omega
            have m4 : ((k : Int) == 0) = false := by simp; omega
            have m5 : ((k : Int) == 143) = false := by simp; omega
            go_wp2_with (go_at_call 18; refine (pick_any c 16 _ (by omega) hb1 hb2).mono ?_; rintro e w1 ⟨rfl, rfl⟩; rw [hq])
            go_roundw
            case rel => exact ⟨k + 1, by omega, by go_num, str_add (y := [35]) (text_mid2 (by simp [signOf, n1, n2, hget, hq]) n3), trivial⟩
            case measure => simp [intOf]; omega
        · skip
          rcases hks with rfl | e143 | ⟨n1, n2, n3⟩ | ⟨n1, n2, n3⟩
          · rw [Nat.add_zero] at hcell
            go_wp2_with (go_at_call 18; refine (pick_any c 16 _ (by omega) hb1 hb2).mono ?_; rintro e w1 ⟨rfl, rfl⟩; rw [hq])
            go_roundw
            case rel => exact ⟨1, by omega, by go_num, str_add (y := [65]) (by simp [textTo, signOf]), trivial⟩
            case measure => simp [intOf]
          · have n0 : k ≠ 0 := by omega
            have m1 : ¬ (k : Int) = 0 := by omega
            have m4 : ((k : Int) == 0) = false := by simp; omega
            have m5 : ((k : Int) == 143) = true := by simp; omega
            have m3 : (k : Int) % 12 = 11 := by omega
            have E143 := (show Hid _ from e143)
            clear e143
            go_wp2_with (go_at_call 18; refine (pick_any c 16 _ (by omega) hb1 hb2).mono ?_; rintro e w1 ⟨rfl, rfl⟩; rw [hq])
            go_roundw
            case rel => exact ⟨k + 1, by have := E143.out; omega, by go_num, str_add2 (y := [66]) (y' := [10]) (text_mid1 (by simp [signOf, E143.out]) (by have := E143.out; omega)), trivial⟩
            case measure => simp [intOf]; omega
          · have m1 : ¬ (k : Int) = 0 := by omega
            have m2 : ¬ (k : Int) = 143 := by omega
            have m3 : (k : Int) % 12 = 11 := by omega
            have m4 : ((k : Int) == 0) = false := by simp; omega
            have m5 : ((k : Int) == 143) = false := by simp; omega
            go_wp2_with (go_at_call 18; refine (pick_any c 16 _ (by omega) hb1 hb2).mono ?_; rintro e w1 ⟨rfl, rfl⟩; rw [hq])
            go_roundw
            case rel => exact ⟨k + 1, by omega, by go_num, str_add2 (y := [50]) (y' := [10]) (text_mid1 (by simp [signOf, n1, n2, hget, hq]) n3), trivial⟩
            case measure => simp [intOf]; omega
          · have m1 : ¬ (k : Int) = 0 := by omega
            have m2 : ¬ (k : Int) = 143 := by omega
            have m3 : ¬ (k : Int) % 12 = 11 := by omega
            have m4 : ((k : Int) == 0) = false := by simp; omega
            have m5 : ((k : Int) == 143) = false := by simp; omega
            go_wp2_with (go_at_call 18; refine (pick_any c 16 _ (by omega) hb1 hb2).mono ?_; rintro e w1 ⟨rfl, rfl⟩; rw [hq])
            go_roundw
            case rel => exact ⟨k + 1, by omega, by go_num, str_add (y := [50]) (text_mid2 (by simp [signOf, n1, n2, hget, hq]) n3), trivial⟩
            case measure => simp [intOf]; omega
        · skip
          rcases hks with rfl | e143 | ⟨n1, n2, n3⟩ | ⟨n1, n2, n3⟩
          · rw [Nat.add_zero] at hcell
            go_wp2_with (go_at_call 18; refine (pick_any c 16 _ (by omega) hb1 hb2).mono ?_; rintro e w1 ⟨rfl, rfl⟩; rw [hq])
            go_roundw
            case rel => exact ⟨1, by omega, by go_num, str_add (y := [65]) (by simp [textTo, signOf]), trivial⟩
            case measure => simp [intOf]
          · have n0 : k ≠ 0 := by omega
            have m1 : ¬ (k : Int) = 0 := by omega
            have m4 : ((k : Int) == 0) = false := by simp; omega
            have m5 : ((k : Int) == 143) = true := by simp; omega
            have m3 : (k : Int) % 12 = 11 := by omega
            have E143 := (show Hid _ from e143)
            clear e143
            go_wp2_with (go_at_call 18; refine (pick_any c 16 _ (by omega) hb1 hb2).mono ?_; rintro e w1 ⟨rfl, rfl⟩; rw [hq])
            go_roundw
            case rel => exact ⟨k + 1, by have := E143.out; omega, by go_num, str_add2 (y := [66]) (y' := [10]) (text_mid1 (by simp [signOf, E143.out]) (by have := E143.out; omega)), trivial⟩
            case measure => simp [intOf]; omega
          · have m1 : ¬ (k : Int) = 0 := by omega
            have m2 : ¬ (k : Int) = 143 := by omega
            have m3 : (k : Int) % 12 = 11 := by omega
            have m4 : ((k : Int) == 0) = false := by simp; omega
            have m5 : ((k : Int) == 143) = false := by simp; omega
            go_wp2_with (go_at_call 18; refine (pick_any c 16 _ (by omega) hb1 hb2).mono ?_; rintro e w1 ⟨rfl, rfl⟩; rw [hq])
            go_roundw
            case rel => exact ⟨k + 1, by omega, by go_num, str_add2 (y := [53]) (y' := [10]) (text_mid1 (by simp [signOf, n1, n2, hget, hq]) n3), trivial⟩
            case measure => simp [intOf]; omega
          · have m1 : ¬ (k : Int) = 0 := by omega
            have m2 : ¬ (k : Int) = 143 := by omega
            have m3 : ¬ (k : Int) % 12 = 11 := by omega
            have m4 : ((k : Int) == 0) = false := by simp; omega
            have m5 : ((k : Int) == 143) = false := by simp; omega
            go_wp2_with (go_at_call 18; refine (pick_any c 16 _ (by omega) hb1 hb2).mono ?_; rintro e w1 ⟨rfl, rfl⟩; rw [hq])
            go_roundw
            case rel => exact ⟨k + 1, by omega, by go_num, str_add (y := [53]) (text_mid2 (by simp [signOf, n1, n2, hget, hq]) n3), trivial⟩
            case measure => simp [intOf]; omega
        · skip
          rcases hks with rfl | e143 | ⟨n1, n2, n3⟩ | ⟨n1, n2, n3⟩
          · rw [Nat.add_zero] at hcell
            go_wp2_with (go_at_call 18; refine (pick_any c 16 _ (by omega) hb1 hb2).mono ?_; rintro e w1 ⟨rfl, rfl⟩; rw [hq])
            go_roundw
            case rel => exact ⟨1, by omega, by go_num, str_add (y := [65]) (by simp [textTo, signOf]), trivial⟩
            case measure => simp [intOf]
          · have n0 : k ≠ 0 := by omega
            have m1 : ¬ (k : Int) = 0 := by omega
            have m4 : ((k : Int) == 0) = false := by simp; omega
            have m5 : ((k : Int) == 143) = true := by simp; omega
            have m3 : (k : Int) % 12 = 11 := by omega
            have E143 := (show Hid _ from e143)
            clear e143
            go_wp2_with (go_at_call 18; refine (pick_any c 16 _ (by omega) hb1 hb2).mono ?_; rintro e w1 ⟨rfl, rfl⟩; rw [hq])
            go_roundw
            case rel => exact ⟨k + 1, by have := E143.out; omega, by go_num, str_add2 (y := [66]) (y' := [10]) (text_mid1 (by simp [signOf, E143.out]) (by have := E143.out; omega)), trivial⟩
            case measure => simp [intOf]; omega
          · have m1 : ¬ (k : Int) = 0 := by omega
            have m2 : ¬ (k : Int) = 143 := by omega
            have m3 : (k : Int) % 12 = 11 := by omega
            have m4 : ((k : Int) == 0) = false := by simp; omega
            have m5 : ((k : Int) == 143) = false := by simp; omega
            go_wp2_with (go_at_call 18; refine (pick_any c 16 _ (by omega) hb1 hb2).mono ?_; rintro e w1 ⟨rfl, rfl⟩; rw [hq])
            go_roundw
            case rel => exact ⟨k + 1, by omega, by go_num, str_add2 (y := [55]) (y' := [10]) (text_mid1 (by simp [signOf, n1, n2, hget, hq]) n3), trivial⟩
            case measure => simp [intOf]; omega
          · have m1 : ¬ (k : Int) = 0 := by omega
            have m2 : ¬ (k : Int) = 143 := by omega
            have m3 : ¬ (k : Int) % 12 = 11 := by omega
            have m4 : ((k : Int) == 0) = false := by simp; omega
            have m5 : ((k : Int) == 143) = false := by simp; omega
            go_wp2_with (go_at_call 18; refine (pick_any c 16 _ (by omega) hb1 hb2).mono ?_; rintro e w1 ⟨rfl, rfl⟩; rw [hq])
            go_roundw
            case rel => exact ⟨k + 1, by omega, by go_num, str_add (y := [55]) (text_mid2 (by simp [signOf, n1, n2, hget, hq]) n3), trivial⟩
            case measure => simp [intOf]; omega
        · skip
          rcases hks with rfl | e143 | ⟨n1, n2, n3⟩ | ⟨n1, n2, n3⟩
          · rw [Nat.add_zero] at hcell
            go_wp2_with (go_at_call 18; refine (pick_any c 16 _ (by omega) hb1 hb2).mono ?_; rintro e w1 ⟨rfl, rfl⟩; rw [hq])
            go_roundw
            case rel => exact ⟨1, by omega, by go_num, str_add (y := [65]) (by simp [textTo, signOf]), trivial⟩
            case measure => simp [intOf]
          · have n0 : k ≠ 0 := by omega
            have m1 : ¬ (k : Int) = 0 := by omega
            have m4 : ((k : Int) == 0) = false := by simp; omega
            have m5 : ((k : Int) == 143) = true := by simp; omega
            have m3 : (k : Int) % 12 = 11 := by omega
            have E143 := (show Hid _ from e143)
            clear e143
            go_wp2_with (go_at_call 18; refine (pick_any c 16 _ (by omega) hb1 hb2).mono ?_; rintro e w1 ⟨rfl, rfl⟩; rw [hq])
            go_roundw
            case rel => exact ⟨k + 1, by have := E143.out; omega, by go_num, str_add2 (y := [66]) (y' := [10]) (text_mid1 (by simp [signOf, E143.out]) (by have := E143.out; omega)), trivial⟩
            case measure => simp [intOf]; omega
          · have m1 : ¬ (k : Int) = 0 := by omega
            have m2 : ¬ (k : Int) = 143 := by omega
            have m3 : (k : Int) % 12 = 11 := by omega
            have m4 : ((k : Int) == 0) = false := by simp; omega
            have m5 : ((k : Int) == 143) = false := by simp; omega
            go_wp2_with (go_at_call 18; refine (pick_any c 16 _ (by omega) hb1 hb2).mono ?_; rintro e w1 ⟨rfl, rfl⟩; rw [hq])
            go_roundw
            case rel => exact ⟨k + 1, by omega, by go_num, str_add2 (y := [57]) (y' := [10]) (text_mid1 (by simp [signOf, n1, n2, hget, hq]) n3), trivial⟩
            case measure => simp [intOf]; omega
          · have m1 : ¬ (k : Int) = 0 := by omega
            have m2 : ¬ (k : Int) = 143 := by omega
            have m3 : ¬ (k : Int) % 12 = 11 := by omega
            have m4 : ((k : Int) == 0) = false := by simp; omega
            have m5 : ((k : Int) == 143) = false := by simp; omega
            go_wp2_with (go_at_call 18; refine (pick_any c 16 _ (by omega) hb1 hb2).mono ?_; rintro e w1 ⟨rfl, rfl⟩; rw [hq])
            go_roundw
            case rel => exact ⟨k + 1, by omega, by go_num, str_add (y := [57]) (text_mid2 (by simp [signOf, n1, n2, hget, hq]) n3), trivial⟩
            case measure => simp [intOf]; omega
        · obtain ⟨P, hP⟩ : ∃ P, pk c 16 = P := ⟨_, rfl⟩
          rw [hP] at hp0 hp1 hq
          have z0 : ¬ P = 0 := by omega
          have z1 : ¬ P = 1 := by omega
          have z2 : ¬ P = 2 := by omega
          have z3 : ¬ P = 3 := by omega
          have z4 : ¬ P = 4 := by omega
          have z5 : ¬ P ≤ 4 := by omega
          have z6 : 1 ≤ P := by omega
          have z7 : (P == 0) = false := by simp; omega
          rcases hks with rfl | e143 | ⟨n1, n2, n3⟩ | ⟨n1, n2, n3⟩
          · rw [Nat.add_zero] at hcell
            go_wp2_with (go_at_call 18; refine (pick_any c 16 _ (by omega) hb1 hb2).mono ?_; rintro e w1 ⟨rfl, rfl⟩; rw [hP])
            go_roundw
            case rel => exact ⟨1, by omega, by go_num, str_add (y := [65]) (by simp [textTo, signOf]), trivial⟩
            case measure => simp [intOf]
          · have n0 : k ≠ 0 := by omega
            have m1 : ¬ (k : Int) = 0 := by omega
            have m4 : ((k : Int) == 0) = false := by simp; omega
            have m5 : ((k : Int) == 143) = true := by simp; omega
            have m3 : (k : Int) % 12 = 11 := by omega
            have E143 := (show Hid _ from e143)
            clear e143
            go_wp2_with (go_at_call 18; refine (pick_any c 16 _ (by omega) hb1 hb2).mono ?_; rintro e w1 ⟨rfl, rfl⟩; rw [hP])
            go_roundw
            case rel => exact ⟨k + 1, by have := E143.out; omega, by go_num, str_add2 (y := [66]) (y' := [10]) (text_mid1 (by simp [signOf, E143.out]) (by have := E143.out; omega)), trivial⟩
            case measure => simp [intOf]; omega
          · have m1 : ¬ (k : Int) = 0 := by omega
            have m2 : ¬ (k : Int) = 143 := by omega
            have m3 : (k : Int) % 12 = 11 := by omega
            have m4 : ((k : Int) == 0) = false := by simp; omega
            have m5 : ((k : Int) == 143) = false := by simp; omega
            go_wp2_with (go_at_call 18; refine (pick_any c 16 _ (by omega) hb1 hb2).mono ?_; rintro e w1 ⟨rfl, rfl⟩; rw [hP])
            go_roundw
            case rel => exact ⟨k + 1, by omega, by go_num, str_add2 (y := [46]) (y' := [10]) (text_mid1 (by simp [signOf, n1, n2, hget, hP, z0, z1, z2, z3, z4]) n3), trivial⟩
            case measure => simp [intOf]; omega
          · have m1 : ¬ (k : Int) = 0 := by omega
            have m2 : ¬ (k : Int) = 143 := by omega
            have m3 : ¬ (k : Int) % 12 = 11 := by omega
            have m4 : ((k : Int) == 0) = false := by simp; omega
            have m5 : ((k : Int) == 143) = false := by simp; omega
            go_wp2_with (go_at_call 18; refine (pick_any c 16 _ (by omega) hb1 hb2).mono ?_; rintro e w1 ⟨rfl, rfl⟩; rw [hP])
            go_roundw
            case rel => exact ⟨k + 1, by omega, by go_num, str_add (y := [46]) (text_mid2 (by simp [signOf, n1, n2, hget, hP, z0, z1, z2, z3, z4]) n3), trivial⟩
            case measure => simp [intOf]; omega
      · have hli : ¬ (k : Int) < (cs.length : Int) := by omega
        have hget : cs[k]? = none := List.getElem?_eq_none (by omega)
        rcases hks with rfl | e143 | ⟨n1, n2, n3⟩ | ⟨n1, n2, n3⟩
        · go_wp2_with (fail)
          go_roundw
          case rel => exact ⟨1, by omega, by go_num, str_add (y := [65]) (by simp [textTo, signOf]), trivial⟩
          case measure => simp [intOf]
        · have n0 : k ≠ 0 := by omega
          have m1 : ¬ (k : Int) = 0 := by omega
          have m4 : ((k : Int) == 0) = false := by simp; omega
          have m5 : ((k : Int) == 143) = true := by simp; omega
          have m3 : (k : Int) % 12 = 11 := by omega
          have E143 := (show Hid _ from e143)
          clear e143
          go_wp2_with (fail)
          go_roundw
          case rel => exact ⟨k + 1, by have := E143.out; omega, by go_num, str_add2 (y := [66]) (y' := [10]) (text_mid1 (by simp [signOf, E143.out]) (by have := E143.out; omega)), trivial⟩
          case measure => simp [intOf]; omega
        · have m1 : ¬ (k : Int) = 0 := by omega
          have m2 : ¬ (k : Int) = 143 := by omega
          have m3 : (k : Int) % 12 = 11 := by omega
          have m4 : ((k : Int) == 0) = false := by simp; omega
          have m5 : ((k : Int) == 143) = false := by simp; omega
          go_wp2_with (fail)
          go_roundw
          case rel => exact ⟨k + 1, by omega, by go_num, str_add2 (y := [46]) (y' := [10]) (text_mid1 (by simp [signOf, n1, n2, hget]) n3), trivial⟩
          case measure => simp [intOf]; omega
        · have m1 : ¬ (k : Int) = 0 := by omega
          have m2 : ¬ (k : Int) = 143 := by omega
          have m3 : ¬ (k : Int) % 12 = 11 := by omega
          have m4 : ((k : Int) == 0) = false := by simp; omega
          have m5 : ((k : Int) == 143) = false := by simp; omega
          go_wp2_with (fail)
          go_roundw
          case rel => exact ⟨k + 1, by omega, by go_num, str_add (y := [46]) (text_mid2 (by simp [signOf, n1, n2, hget]) n3), trivial⟩
          case measure => simp [intOf]; omega
    · have : k = 144 := by omega
      subst this
      go_wp2_with fail
      go_ret
      exact ⟨rfl, Fr.refl _ _⟩
end Go.Proofs.YtapabahhfanmmaaGreatDoor
