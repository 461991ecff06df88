import Derived.Test.YtapabahhfanmmaaDoorCLeaf
import Derived.Laws.Bits64b
import Derived.Deep.RegionLaw
import Derived.Test.YtapabahhfanmmaaDoorCPeople
import Derived.Test.YtapabahhfanmmaaDoorCCellsOf
import Derived.Maps.AppendAt
import Derived.Test.YtapabahhfanmmaaDoorCStart
/- Numbers in bytes. -/
namespace Go.Proofs.YtapabahhfanmmaaDoor
open Go.RowKit

def numF : Nat → Nat → List UInt8
 | 0, _ => []
 | f + 1, n => if n < 128 then [UInt8.ofNat n] else UInt8.ofNat (n % 128 + 128) :: numF f (n / 128)
def numB (n : Nat) : List UInt8 := numF (n + 1) n
theorem numF_is : ∀ f g n, n < f → n < g → numF f n = numF g n
 | f + 1, g + 1, n, hf, hg => by
  unfold numF
  split
  · rfl
  · rw [numF_is f g (n / 128) (by omega) (by omega)]
theorem numB_small {n : Nat} (h : n < 128) : numB n = [UInt8.ofNat n] := by rw [numB, numF, if_pos h]
theorem numB_big {n : Nat} (h : ¬ n < 128) : numB n = UInt8.ofNat (n % 128 + 128) :: numB (n / 128) := by rw [numB, numF, if_neg h, numF_is n (n / 128 + 1) _ (by omega) (by omega), numB]
def fstT : Nat → Nat → Nat → List UInt8 → Nat × Nat
  | 0, _, _, _ => (0, 0)
  | _ + 1, _, _, [] => (0, 0)
  | f + 1, i, s, b :: l =>
    if 128 ≤ b.toNat then fstT f (i + 1) (s + b.toNat % 128 * 128 ^ i) l
    else if (b.toNat = 0 ∧ 0 < i) ∨ 1000000000 < s + b.toNat % 128 * 128 ^ i then (0, 0) else (s + b.toNat % 128 * 128 ^ i, i + 1)
def firstT (l : List UInt8) : Nat × Nat := fstT 5 0 0 l
theorem fst_num (l : List UInt8) : ∀ (f i s n : Nat), 0 < f → n < 128 ^ f → (0 < i → 0 < n) → s + n * 128 ^ i ≤ 1000000000 → fstT f i s (numB n ++ l) = (s + n * 128 ^ i, i + (numB n).length)
  | 0, _, _, _, h, _, _, _ => by omega
  | f + 1, i, s, n, _, h, hi, hs => by
    by_cases hn : n < 128
    · rw [numB_small hn]
      have hb : (UInt8.ofNat n).toNat = n := by simp [UInt8.toNat_ofNat']; omega
      show (if 128 ≤ (UInt8.ofNat n).toNat then _ else _) = _
      rw [hb, if_neg (by omega), Nat.mod_eq_of_lt hn, if_neg]
      · rfl
      · intro hh
        rcases hh with ⟨a, b⟩ | a
        · have := hi b; omega
        · omega
    · rw [numB_big hn]
      have hb : (UInt8.ofNat (n % 128 + 128)).toNat = n % 128 + 128 := by simp [UInt8.toNat_ofNat']; omega
      show (if 128 ≤ (UInt8.ofNat (n % 128 + 128)).toNat then _ else _) = _
      rw [hb, if_pos (by omega)]
      have e : n % 128 * 128 ^ i + n / 128 * 128 ^ (i + 1) = n * 128 ^ i := by
        rw [Nat.pow_succ, Nat.mul_comm (128 ^ i) 128, ← Nat.mul_assoc, ← Nat.add_mul]
        congr 1
        omega
      have hm : (n % 128 + 128) % 128 = n % 128 := by omega
      have h2 : n / 128 < 128 ^ f := by rw [Nat.pow_succ] at h; omega
      have h3 : 0 < f := by
        rcases Nat.eq_zero_or_pos f with e0 | e0
        · subst e0; simp at h2; omega
        · exact e0
      rw [hm]
      show fstT f (i + 1) (s + n % 128 * 128 ^ i) (numB (n / 128) ++ l) = _
      rw [fst_num l f (i + 1) (s + n % 128 * 128 ^ i) (n / 128) h3 h2 (fun _ => by omega) (by omega)]
      apply Prod.ext
      · dsimp only; omega
      · simp only [List.length_cons]; omega
theorem first_num (n : Nat) (l : List UInt8) (h : n ≤ 1000000000) : firstT (numB n ++ l) = (n, (numB n).length) := by
  have := fst_num l 5 0 0 n (by omega) (by omega) (by omega) (by omega)
  simpa [firstT] using this
theorem numB_len_pos (n : Nat) : 0 < (numB n).length := by
  by_cases h : n < 128
  · rw [numB_small h]; simp
  · rw [numB_big h]; simp
theorem numB_len : ∀ (f n : Nat), n < 128 ^ f → 0 < f → (numB n).length ≤ f
  | 0, _, _, h => by omega
  | f + 1, n, h, _ => by
    by_cases hn : n < 128
    · rw [numB_small hn]; simp
    · rw [numB_big hn]
      have h2 : n / 128 < 128 ^ f := by rw [Nat.pow_succ] at h; omega
      have : 0 < f := by
        rcases Nat.eq_zero_or_pos f with e | e
        · subst e; simp at h2; omega
        · exact e
      have := numB_len f (n / 128) h2 this
      simp; omega
/-- A number that is cut off is none. -/
theorem fst_cut : ∀ (f i s n k : Nat), k < (numB n).length → fstT f i s ((numB n).take k) = (0, 0)
  | 0, _, _, _, _, _ => rfl
  | f + 1, i, s, n, k, h => by
    by_cases hn : n < 128
    · rw [numB_small hn] at h ⊢
      have : k = 0 := by simpa using h
      subst this
      rfl
    · rw [numB_big hn] at h ⊢
      cases k with
      | zero => rfl
      | succ k =>
        have hb : (UInt8.ofNat (n % 128 + 128)).toNat = n % 128 + 128 := by simp [UInt8.toNat_ofNat']; omega
        rw [List.take_succ_cons]
        show (if 128 ≤ (UInt8.ofNat (n % 128 + 128)).toNat then _ else _) = _
        rw [hb, if_pos (by omega)]
        exact fst_cut f (i + 1) _ (n / 128) k (by simpa using h)

/-- A list of numbers in bytes. -/
def flatB (ns : List Int) : List UInt8 := ns.flatMap fun n => numB n.toNat
theorem flatB_nil : flatB [] = [] := rfl
theorem flatB_cons (n : Int) (ns : List Int) : flatB (n :: ns) = numB n.toNat ++ flatB ns := rfl
theorem flatB_append (a b : List Int) : flatB (a ++ b) = flatB a ++ flatB b := List.flatMap_append
theorem flatB_len : ∀ ns : List Int, (∀ n ∈ ns, n ≤ 1000000000) → (flatB ns).length ≤ 5 * ns.length
  | [], _ => by simp [flatB]
  | n :: ns, h => by
    have h1 := flatB_len ns (fun m hm => h m (by simp [hm]))
    have h2 := numB_len 5 n.toNat (by have := h n (by simp); omega) (by omega)
    rw [flatB_cons, List.length_append, List.length_cons]
    omega
/-- Bytes as cells of memory. -/
def byteV (b : UInt8) : Value := .int .u8 (b.toNat : Int)
def bytesV (l : List UInt8) : List Value := l.map byteV
theorem bytesV_append (a b : List UInt8) : bytesV (a ++ b) = bytesV a ++ bytesV b := List.map_append
theorem or128 (x : Nat) (h : x < 128) : bits .or .u8 (x : Int) 128 = ((x + 128 : Nat) : Int) := by
  have : ∀ x : Fin 128, bits .or .u8 ((x.val : Nat) : Int) 128 = ((x.val + 128 : Nat) : Int) := by decide
  exact this ⟨x, h⟩
theorem byte_more (n : Nat) : byteV (UInt8.ofNat (n % 128 + 128)) = .int .u8 ((n % 128 + 128 : Nat) : Int) := by
  unfold byteV
  have hb : (UInt8.ofNat (n % 128 + 128)).toNat = n % 128 + 128 := by simp [UInt8.toNat_ofNat']; omega
  rw [hb]
theorem byte_last (n : Nat) (h : n < 128) : byteV (UInt8.ofNat n) = .int .u8 (n : Int) := by
  unfold byteV
  have hb : (UInt8.ofNat n).toNat = n := by simp [UInt8.toNat_ofNat']; omega
  rw [hb]
theorem or_shift (s x i : Nat) (hs : s < 128 ^ i) (hx : x < 128) (hi : i < 5) : bits .or .u64 (s : Int) ((x * 128 ^ i : Nat) : Int) = ((s + x * 128 ^ i : Nat) : Int) := by
  have hp : 128 ^ i ≤ 128 ^ 4 := Nat.pow_le_pow_right (by omega) (by omega)
  have h1 : x * 128 ^ i ≤ 127 * 128 ^ 4 := Nat.mul_le_mul (by omega) hp
  rw [bits_or_u64_nat _ _ (by omega) (by omega)]
  congr 1
  have h2 : 128 ^ i = 2 ^ (7 * i) := by rw [Nat.pow_mul]
  rw [h2] at hs ⊢
  rw [← Nat.shiftLeft_eq, Nat.or_comm, ← Nat.shiftLeft_add_eq_or_of_lt hs, Nat.add_comm]
end Go.Proofs.YtapabahhfanmmaaDoor
/- The number that a text begins with. -/
namespace Go.Proofs.YtapabahhfanmmaaDoor
open Go.RowKit

theorem fst_more {l : List UInt8} {k S b : Nat} (h1 : k < l.length) (h2 : k < 5) (hb : (l[k]'h1).toNat = b) (hm : 128 ≤ b) : fstT (5 - k) k S (l.drop k) = fstT (5 - (k + 1)) (k + 1) (S + b % 128 * 128 ^ k) (l.drop (k + 1)) := by
  rw [List.drop_eq_getElem_cons h1, show 5 - k = (5 - (k + 1)) + 1 by omega]
  show (if 128 ≤ (l[k]'h1).toNat then _ else _) = _
  rw [hb, if_pos hm]
theorem fst_last {l : List UInt8} {k S b : Nat} (h1 : k < l.length) (h2 : k < 5) (hb : (l[k]'h1).toNat = b) (hm : ¬ 128 ≤ b) : fstT (5 - k) k S (l.drop k) = if (b = 0 ∧ 0 < k) ∨ 1000000000 < S + b * 128 ^ k then (0, 0) else (S + b * 128 ^ k, k + 1) := by
  rw [List.drop_eq_getElem_cons h1, show 5 - k = (5 - (k + 1)) + 1 by omega]
  show (if 128 ≤ (l[k]'h1).toNat then _ else if ((l[k]'h1).toNat = 0 ∧ 0 < k) ∨ _ then _ else _) = _
  rw [hb, if_neg hm, Nat.mod_eq_of_lt (by omega)]
theorem fst_end {l : List UInt8} {k S : Nat} (h : ¬ (k < l.length ∧ k < 5)) : fstT (5 - k) k S (l.drop k) = (0, 0) := by
  by_cases h5 : k < 5
  · rw [List.drop_eq_nil_of_le (by omega), show 5 - k = (5 - (k + 1)) + 1 by omega]; rfl
  · rw [show 5 - k = 0 by omega]; rfl
theorem or_wrap (S b k : Nat) (hS : S < 128 ^ k) (hk : k < 5) : bits .or .u64 (S : Int) (IntKind.u64.wrap ((b : Int) % 128 * 2 ^ (7 * k))) = ((S + b % 128 * 128 ^ k : Nat) : Int) := by
  have h2 : (128 ^ k : Nat) = 2 ^ (7 * k) := by rw [Nat.pow_mul]
  have hp : 128 ^ k ≤ 128 ^ 4 := Nat.pow_le_pow_right (by omega) (by omega)
  have h3 : b % 128 * 128 ^ k ≤ 127 * 128 ^ 4 := Nat.mul_le_mul (by omega) hp
  have h4 : ((b : Int) % 128 * 2 ^ (7 * k)) = ((b % 128 * 128 ^ k : Nat) : Int) := by rw [h2]; push_cast; rfl
  rw [h4, IntKind.wrap_u64, Int.emod_eq_of_lt (by omega) (by omega)]
  exact or_shift S (b % 128) k hS (by omega) hk
theorem sum_bd {S b k : Nat} (hS : S < 128 ^ k) (hk : k < 5) : S + b % 128 * 128 ^ k < 128 ^ (k + 1) ∧ S + b % 128 * 128 ^ k < 34359738368 := by
  have hp : 128 ^ (k + 1) ≤ 128 ^ 5 := Nat.pow_le_pow_right (by omega) (by omega)
  have h3 : b % 128 * 128 ^ k ≤ 127 * 128 ^ k := Nat.mul_le_mul (by omega) (Nat.le_refl _)
  rw [Nat.pow_succ] at hp ⊢
  omega

set_option maxRecDepth 100000 in
set_option maxHeartbeats 2000000 in
theorem first_any (l : List UInt8) (w : World) (hl : l.length ≤ 1000000) :
    Calls Tryd.prog 48 #[.string ⟨l.toArray⟩] w fun e w' =>
      e = .returned (.tuple #[.int .i64 (firstT l).1, .int .i64 (firstT l).2]) ∧ Fr [] w w' := by
  obtain ⟨tx, htx⟩ : ∃ tx : ByteArray, tx = ⟨l.toArray⟩ := ⟨_, rfl⟩
  have hsz : tx.size = l.length := by rw [htx]; rfl
  have HG : Hid (∀ k (h1 : k < l.length) (h2 : k < tx.size), (tx[k]'h2).toNat = (l[k]'h1).toNat) := fun k h1 h2 => by subst htx; rfl
  rw [← htx]
  obtain ⟨F, hF⟩ : ∃ F, firstT l = F := ⟨_, rfl⟩
  rw [hF]
  have HF0 := (show Hid _ from hF)
  clear htx hF
  go_enter Tryd.func48, Tryd.ntmps48
  go_wp2_with fail
  all_goals
    go_loopw [4, 10] (fun s i wr => ∃ k S : Nat, k ≤ 5 ∧ k ≤ l.length ∧ i = .int .i64 k ∧ s = .int .u64 S ∧ S < 128 ^ k ∧ Hid (F = fstT (5 - k) k S (l.drop k)) ∧ w = wr) (fun _ i _ => 5 - (intOf i).toNat)
    case atStart => exact ⟨0, 0, by omega, by omega, rfl, rfl, by omega, HF0.out.symm, rfl⟩
    case round =>
      obtain ⟨k, S, hk5, hkl, rfl, rfl, hS, HF, rfl⟩ := hrel
      by_cases hlt : k < l.length ∧ k < 5
      · obtain ⟨h1, h2⟩ := hlt
        have h1t : k < tx.size := by omega
        obtain ⟨b, hb'⟩ : ∃ b : Nat, (l[k]'h1).toNat = b := ⟨_, rfl⟩
        have hb : (tx[k]'h1t).toNat = b := (HG.out k h1 h1t).trans hb'
        have hb2 : b < 256 := by rw [← hb']; exact (l[k]'h1).toNat_lt
        have hor := or_wrap S b k hS h2
        have hsb := sum_bd (b := b) hS h2
        obtain ⟨S', hS'⟩ : ∃ S' : Nat, S' = S + b % 128 * 128 ^ k := ⟨_, rfl⟩
        rw [← hS'] at hor hsb
        have HB := (show Hid _ from hb')
        have HS' := (show Hid _ from hS')
        clear hb' hS'
        by_cases hmore : 128 ≤ b
        · have hmi : ¬ (b : Int) < 128 := by omega
          go_wp2_with fail
          go_roundw
          case rel => exact ⟨k + 1, S', by omega, by omega, by go_num, rfl, hsb.1, (show Hid _ from by show _ = _; rw [HF.out, fst_more h1 h2 HB.out hmore, HS'.out]), trivial⟩
          case measure => simp [intOf]; omega
        · have hmi : (b : Int) < 128 := by omega
          have HL := fst_last (S := S) h1 h2 HB.out hmore
          have hS2 : S' = S + b * 128 ^ k := by rw [HS'.out, Nat.mod_eq_of_lt (by omega)]
          rw [← HF.out, ← hS2] at HL
          have HL := (show Hid _ from HL)
          clear hS2
          by_cases hbig : 1000000000 < S'
          · have hbi : (1000000000 : Int) < (S' : Int) := by omega
            have hF0 : F = (0, 0) := by rw [HL.out, if_pos (Or.inr hbig)]
            subst hF0
            go_wp2_with fail
            all_goals
              go_ret2
              exact ⟨rfl, Fr.refl _ _⟩
          · have hbi : ¬ (1000000000 : Int) < (S' : Int) := by omega
            by_cases hb0 : b = 0
            · by_cases hk0 : k = 0
              · have hF0 : F = (S', k + 1) := by rw [HL.out, if_neg (by omega)]
                have hki : ¬ (0 : Int) < (k : Int) := by omega
                have hbt : ((b : Int) == 0) = true := by simpa using hb0
                subst hF0
                clear hb0 hk0
                go_wp2_with fail
                go_ret2
                exact ⟨rfl, Fr.refl _ _⟩
              · have hF0 : F = (0, 0) := by rw [HL.out, if_pos (Or.inl ⟨hb0, by omega⟩)]
                have hki : (0 : Int) < (k : Int) := by omega
                have hbt : ((b : Int) == 0) = true := by simpa using hb0
                subst hF0
                clear hb0
                go_wp2_with fail
                go_ret2
                exact ⟨rfl, Fr.refl _ _⟩
            · have hF0 : F = (S', k + 1) := by rw [HL.out, if_neg (by omega)]
              have hb0b : ((b : Int) == 0) = false := by simpa using hb0
              have hb0i : ¬ (b : Int) = 0 := by omega
              subst hF0
              go_wp2_with fail
              go_ret2
              exact ⟨by first | rfl | (congr 3; push_cast; rfl), Fr.refl _ _⟩
      · have hF0 : F = (0, 0) := by rw [HF.out]; exact fst_end hlt
        subst hF0
        go_wp2_with fail
        go_ret2
        exact ⟨rfl, Fr.refl _ _⟩
end Go.Proofs.YtapabahhfanmmaaDoor
/- A reader of numbers. -/
namespace Go.Proofs.YtapabahhfanmmaaDoor
open Go.RowKit

/-- A reader lies in memory: what is behind, and whether something was wrong. -/
structure RdAt (w : World) (rb : Nat) (l : List UInt8) (bad : Bool) : Prop where
  all : w.heap[rb]? = some (.cells #[.string ⟨l.toArray⟩, .bool bad] 110)
theorem RdAt.fr {S : List Nat} {w w' : World} {rb : Nat} {l : List UInt8} {bad : Bool} (h : RdAt w rb l bad) (hf : Fr S w w') (hn : rb ∉ S) : RdAt w' rb l bad := ⟨hf.heap h.all hn⟩
theorem RdAt.lt {w : World} {rb : Nat} {l : List UInt8} {bad : Bool} (h : RdAt w rb l bad) : rb < w.heap.size := lt_of_heap h.all
theorem fst_le : ∀ (f i s : Nat) (l : List UInt8), (fstT f i s l).2 ≤ i + l.length ∧ ((fstT f i s l).2 = 0 ∨ i < (fstT f i s l).2) ∧ (fstT f i s l).1 ≤ 1000000000
  | 0, _, _, _ => ⟨Nat.zero_le _, Or.inl rfl, Nat.zero_le _⟩
  | _ + 1, _, _, [] => ⟨Nat.zero_le _, Or.inl rfl, Nat.zero_le _⟩
  | f + 1, i, s, b :: l => by
    unfold fstT
    split
    · obtain ⟨h1, h2, h3⟩ := fst_le f (i + 1) (s + b.toNat % 128 * 128 ^ i) l
      refine ⟨by simp only [List.length_cons]; omega, by omega, h3⟩
    · split
      · exact ⟨Nat.zero_le _, Or.inl rfl, Nat.zero_le _⟩
      · refine ⟨by simp only [List.length_cons]; omega, Or.inr (by dsimp only; omega), by dsimp only; omega⟩
theorem first_le (l : List UInt8) : (firstT l).2 ≤ l.length ∧ (firstT l).1 ≤ 1000000000 := by
  obtain ⟨h1, _, h3⟩ := fst_le 5 0 0 l
  exact ⟨by have := h1; unfold firstT; omega, h3⟩
theorem str_drop (l : List UInt8) (n : Nat) : Value.string ((⟨l.toArray⟩ : ByteArray).extract n l.length) = .string ⟨(l.drop n).toArray⟩ := by
  congr 1
  apply ByteArray.ext
  simp [ByteArray.data_extract]
  exact List.take_of_length_le (by simp)

theorem set_arrR {w : World} {b : Nat} {cs : Array Value} {t : TypeId} (h : w.heap[b]? = some (.cells cs t)) (i : Nat) (x : Value) : (w.setCell ⟨b, i, none⟩ x).heap[b]? = some (.cells (cs.setIfInBounds i x) t) := by
  rw [setCell_eq_setRow w b i cs t (0, 0) x h]
  exact setRow_heap w b cs _ t (0, 0) h

set_option maxRecDepth 100000 in
set_option maxHeartbeats 2000000 in
theorem newReader_any (l : List UInt8) (w : World) :
    Calls Tryd.prog 35 #[.string ⟨l.toArray⟩] w fun e w' => ∃ rb, e = .returned (.pointer (some ⟨rb, 0, none⟩)) ∧ w.heap.size ≤ rb ∧ RdAt w' rb l false ∧ Fr [] w w' := by
  go_enter Tryd.func35, Tryd.ntmps35
  go_wp2_with fail
  go_ret
  exact ⟨_, rfl, Nat.le_refl _, ⟨hp_new _ _⟩, (Fr.refl _ _).alloc _⟩

set_option maxRecDepth 100000 in
set_option maxHeartbeats 2000000 in
theorem right_any (rb : Nat) (l : List UInt8) (bad : Bool) (w : World) (h : RdAt w rb l bad) :
    Calls Tryd.prog 49 #[.pointer (some ⟨rb, 0, none⟩)] w fun e w' => e = .returned (.bool (!bad)) ∧ Fr [] w w' := by
  have c1 : w.cell? ⟨rb, 1, none⟩ = some (.bool bad) := cell_of_heap h.all
  go_enter Tryd.func49, Tryd.ntmps49
  go_wp2_with fail
  go_ret
  exact ⟨rfl, Fr.refl _ _⟩

set_option maxRecDepth 100000 in
set_option maxHeartbeats 2000000 in
theorem next_any (rb : Nat) (l : List UInt8) (bad : Bool) (w : World) (h : RdAt w rb l bad) (hl : l.length ≤ 1000000) :
    Calls Tryd.prog 36 #[.pointer (some ⟨rb, 0, none⟩)] w fun e w' => e = .returned (.int .i64 (firstT l).1) ∧ RdAt w' rb (l.drop (firstT l).2) (bad || (firstT l).2 == 0) ∧ Fr [rb] w w' := by
  have c0 : w.cell? ⟨rb, 0, none⟩ = some (.string ⟨l.toArray⟩) := cell_of_heap h.all
  have c1 : w.cell? ⟨rb, 1, none⟩ = some (.bool bad) := cell_of_heap h.all
  have z0 : w.frozen? ⟨rb, 0, none⟩ = false := frozen_of_heap h.all
  have z1 : w.frozen? ⟨rb, 1, none⟩ = false := frozen_of_heap h.all
  obtain ⟨h1, h2⟩ := first_le l
  have hst := str_drop l (firstT l).2
  have hfi := first_any l w hl
  obtain ⟨⟨n, sz⟩, hF⟩ : ∃ F, firstT l = F := ⟨_, rfl⟩
  rw [hF] at h1 h2 hst hfi ⊢
  dsimp only at h1 h2 hst hfi ⊢
  have HL := h.lt
  have HA := (show Hid _ from h.all)
  clear h hF
  cases bad
  all_goals
    go_enter Tryd.func36, Tryd.ntmps36
    go_wp2_with (go_at_call 48; refine Calls.mono hfi ?_; rintro e w1 ⟨rfl, hf1⟩; obtain ⟨hc1, hz1⟩ := hf1.cells0)
    go_ret
    refine ⟨rfl, ⟨?_⟩, (hf1.of0.setCell _ _ (by simp)).setCell _ _ (by simp)⟩
    rw [set_arrR (set_arrR (hf1.heap0 HA.out) _ _) _ _]
    first | rfl | (cases sz <;> rfl)

set_option maxRecDepth 100000 in
set_option maxHeartbeats 2000000 in
theorem done_any (rb : Nat) (l : List UInt8) (bad : Bool) (w : World) (h : RdAt w rb l bad) :
    Calls Tryd.prog 38 #[.pointer (some ⟨rb, 0, none⟩)] w fun e w' => e = .returned (.bool (!bad && l.isEmpty)) ∧ Fr [] w w' := by
  have hr := right_any rb l bad w h
  have hlt := h.lt
  have c0 : w.cell? ⟨rb, 0, none⟩ = some (.string ⟨l.toArray⟩) := cell_of_heap h.all
  clear h
  cases bad
  · cases l with
    | nil =>
      go_enter Tryd.func38, Tryd.ntmps38
      go_wp2_with (go_at_call 49; refine Calls.mono hr ?_; rintro e w1 ⟨rfl, hf1⟩; obtain ⟨hc1, hz1⟩ := hf1.cells0)
      go_ret
      exact ⟨rfl, hf1⟩
    | cons b l =>
      go_enter Tryd.func38, Tryd.ntmps38
      go_wp2_with (go_at_call 49; refine Calls.mono hr ?_; rintro e w1 ⟨rfl, hf1⟩; obtain ⟨hc1, hz1⟩ := hf1.cells0)
      go_ret
      exact ⟨rfl, hf1⟩
  · go_enter Tryd.func38, Tryd.ntmps38
    go_wp2_with (go_at_call 49; refine Calls.mono hr ?_; rintro e w1 ⟨rfl, hf1⟩; obtain ⟨hc1, hz1⟩ := hf1.cells0)
    go_ret
    exact ⟨rfl, hf1⟩
end Go.Proofs.YtapabahhfanmmaaDoor
/- A call as one step of a region that draws. -/
namespace Go.Proofs.YtapabahhfanmmaaDoor
open Go.RowKit

theorem step_call1 {ops : Array Oper} {op : Oper} {a : Act} {w : World} {K : Act → World → Prop} {Q : Exit → Act → World → Prop} {E : Prop}
    (hg : op.guard = none) (n : Nat) (x : Nat) (ty : TypeId) (hop : op.op = Op.call { callee := Callee.value (Operand.func n), args := #[.tmp x], argTypes := #[ty] })
    (v : Value) (hx : a.tmps[x]?.getD undef = v) (hen : ∀ w, (callFunc n #[v]).run Tryd.prog w = .ok (.enter n #[v]) w) {R : Value → World → Prop} (h : Calls Tryd.prog n #[v] w fun e w' => ∃ r, e = .returned r ∧ R r w')
    (hK : ∀ r w', R r w' → K (a.put op.dst r) w') :
    if Region.wanted op (yielded ops a.tmps) = true then Oper.wp Tryd.prog op a w K Q else E := by
  have hw : Region.wanted op (yielded ops a.tmps) = true := by simp [Region.wanted, hg]
  rw [if_pos hw]
  unfold Oper.wp
  simp [execOp, hop, resolve, invoke, hx, hen, go_sem]
  refine Calls.mono h ?_
  rintro e w' ⟨r, rfl, hr⟩
  exact hK r w' hr
end Go.Proofs.YtapabahhfanmmaaDoor
/- One of the people is read. -/
namespace Go.Proofs.YtapabahhfanmmaaDoor
open Go.RowKit

/-- A reader after some numbers. -/
def rdN (l : List UInt8) (bad : Bool) : Nat → List UInt8 × Bool
  | 0 => (l, bad)
  | n + 1 => ((rdN l bad n).1.drop (firstT (rdN l bad n).1).2, (rdN l bad n).2 || (firstT (rdN l bad n).1).2 == 0)
def nth (l : List UInt8) (bad : Bool) (n : Nat) : Int := (firstT (rdN l bad n).1).1
theorem rdN_add (l : List UInt8) (bad : Bool) (m : Nat) : ∀ n, rdN (rdN l bad m).1 (rdN l bad m).2 n = rdN l bad (m + n)
  | 0 => rfl
  | n + 1 => by
    have ih := rdN_add l bad m n
    show (_, _) = rdN l bad (m + n + 1)
    rw [ih]
    rfl
theorem nth_add (l : List UInt8) (bad : Bool) (m n : Nat) : nth (rdN l bad m).1 (rdN l bad m).2 n = nth l bad (m + n) := by
  unfold nth
  rw [rdN_add]
theorem rdN_len (l : List UInt8) (bad : Bool) : ∀ n, (rdN l bad n).1.length ≤ l.length
  | 0 => Nat.le_refl _
  | n + 1 => by
    have := rdN_len l bad n
    show ((rdN l bad n).1.drop _).length ≤ _
    rw [List.length_drop]
    omega
theorem nth_bd (l : List UInt8) (bad : Bool) (n : Nat) : 0 ≤ nth l bad n ∧ nth l bad n ≤ 1000000000 := by
  have := (first_le (rdN l bad n).1).2
  unfold nth
  omega
/-- What is read of a text of numbers. -/
theorem rdN_flat : ∀ (n : Nat) (ns : List Int) (rest : List UInt8), n ≤ ns.length → (∀ x ∈ ns, 0 ≤ x ∧ x ≤ 1000000000) → rdN (flatB ns ++ rest) false n = (flatB (ns.drop n) ++ rest, false)
  | 0, _, _, _, _ => rfl
  | n + 1, ns, rest, h, hb => by
    have ih := rdN_flat n ns rest (by omega) hb
    have hx := List.drop_eq_getElem_cons (show n < ns.length by omega)
    have hbx := hb _ (List.getElem_mem (show n < ns.length by omega))
    have hf : firstT (flatB (ns.drop n) ++ rest) = (ns[n].toNat, (numB ns[n].toNat).length) := by
      rw [hx, flatB_cons, List.append_assoc]
      exact first_num _ _ (by omega)
    show (_, _) = _
    rw [ih]
    dsimp only
    rw [hf]
    dsimp only
    have hp := numB_len_pos ns[n].toNat
    rw [hx, flatB_cons, List.append_assoc, List.drop_left]
    have hne : ((numB ns[n].toNat).length == 0) = false := by simp; intro h; rw [h] at hp; simp at hp
    rw [hne]
    rfl
theorem nth_flat (n : Nat) (ns : List Int) (rest : List UInt8) (h : n < ns.length) (hb : ∀ x ∈ ns, 0 ≤ x ∧ x ≤ 1000000000) : nth (flatB ns ++ rest) false n = ns[n] := by
  unfold nth
  rw [rdN_flat n ns rest (by omega) hb]
  have hbx := hb _ (List.getElem_mem h)
  rw [List.drop_eq_getElem_cons h, flatB_cons, List.append_assoc, first_num _ _ (by omega)]
  dsimp only
  omega
theorem next_nth (rb : Nat) (l : List UInt8) (bad : Bool) (n : Nat) (w : World) (h : RdAt w rb (rdN l bad n).1 (rdN l bad n).2) (hl : l.length ≤ 1000000) :
    Calls Tryd.prog 36 #[.pointer (some ⟨rb, 0, none⟩)] w fun e w' => e = .returned (.int .i64 (nth l bad n)) ∧ RdAt w' rb (rdN l bad (n + 1)).1 (rdN l bad (n + 1)).2 ∧ Fr [rb] w w' :=
  next_any rb _ _ w h (Nat.le_trans (rdN_len l bad n) hl)
abbrev unitOf (f : Nat → Int) : U := ⟨f 0, f 1, f 2, f 3, f 4, f 5, f 6, f 7, f 8, f 9, f 10⟩

set_option maxRecDepth 100000 in
set_option maxHeartbeats 2000000 in
theorem readUnit_any (rb : Nat) (l : List UInt8) (bad : Bool) (w : World) (h : RdAt w rb l bad) (hl : l.length ≤ 1000000) :
    Calls Tryd.prog 37 #[.pointer (some ⟨rb, 0, none⟩)] w fun e w' => e = .returned (unitOf (nth l bad)).val ∧ RdAt w' rb (rdN l bad 11).1 (rdN l bad 11).2 ∧ Fr [rb] w w' := by
  have P := fun n w (h : RdAt w rb (rdN l bad n).1 (rdN l bad n).2) => next_nth rb l bad n w h hl
  have h0 : RdAt w rb (rdN l bad 0).1 (rdN l bad 0).2 := h
  have hlt := h.lt
  have hne : rb ≠ w.heap.size := by omega
  obtain ⟨J, hJ⟩ : ∃ J : Nat → World → Prop, J = fun n w' => RdAt w' rb (rdN l bad n).1 (rdN l bad n).2 ∧ w'.heap[w.heap.size]? = some (.cells zeroU.arr 44) ∧ Fr [rb] w w' := ⟨_, rfl⟩
  have PJ : ∀ n w', J n w' → Calls Tryd.prog 36 #[.pointer (some ⟨rb, 0, none⟩)] w' fun e w'' => e = .returned (.int .i64 (nth l bad n)) ∧ J (n + 1) w'' := fun n w' hj => by
    rw [hJ] at hj ⊢
    obtain ⟨j1, j2, j3⟩ := hj
    refine Calls.mono (P n w' j1) ?_
    rintro e w2 ⟨rfl, h1, h2⟩
    exact ⟨rfl, h1, h2.heap j2 (by simp; exact fun e => hne e.symm), j3.trans h2 (by simp)⟩
  have hj0 : J 0 (w.alloc (.cells zeroU.arr 44)) := by
    rw [hJ]
    exact ⟨h0.fr ((Fr.refl [] w).alloc _) (by simp), hp_new _ _, (Fr.refl _ _).alloc _⟩
  have hjh : ∀ n w', J n w' → w'.heap[w.heap.size]? = some (.cells zeroU.arr 44) := fun n w' hj => by rw [hJ] at hj; exact hj.2.1
  have HE : Hid (∀ w', J 11 w' → RdAt w' rb (rdN l bad 11).1 (rdN l bad 11).2 ∧ Fr [rb] w w') := fun w' hj => by rw [hJ] at hj; exact ⟨hj.1, hj.2.2⟩
  have PJ := (show Hid _ from PJ)
  have HJH := (show Hid _ from hjh)
  have HNE := (show Hid _ from hne)
  clear h h0 P hJ hjh hlt hne
  generalize rdN l bad = R at *
  generalize nth l bad = N at *
  have HI : Hid ((Tryd.prog.info? 44).map (·.size) = some (unitOf N).arr.size) := by show _ = some 11; kernel_rfl
  have HO : Hid ((unitOf N).arr.all (·.oneCell') = true) := by show _ = _; simp [Value.oneCell']
  have HZ : Hid (zeroU.arr.size = (unitOf N).arr.size) := by show _ = _; rfl
  go_enter Tryd.func37, Tryd.ntmps37
  go_wp2_with (first | (go_at_call 36; with_reducible refine Calls.mono (PJ.out _ _ (by first | assumption | exact hj0)) ?_; rintro e w1 ⟨rfl, hj1⟩) | (refine wpList_store_row rfl 44 _ _ rfl w.heap.size (unitOf N).arr rfl rfl 44 zeroU.arr (HJH.out _ _ hj1) HI.out HZ.out HO.out ?_))
  obtain ⟨e1, e2⟩ := HE.out _ hj1
  refine bodyPost_ret (v := (unitOf N).val) (results_cell_row Tryd.results37 _ _ w.heap.size 44 (unitOf N).arr (0, 0) _ rfl (setRow_heap _ _ _ _ _ _ (HJH.out _ _ hj1)) Tryd.underlying44 rfl HI.out) rfl ⟨rfl, ?_, ?_⟩
  · exact ⟨by rw [setRow_other _ _ _ _ HNE.out]; exact e1.all⟩
  · exact e2.setRow _ _ (Or.inr (Nat.le_refl _))
end Go.Proofs.YtapabahhfanmmaaDoor
/- Numbers are put behind a text. -/
namespace Go.Proofs.YtapabahhfanmmaaDoor
open Go.RowKit

theorem infoB : (Tryd.prog.info? 5).map (fun i => (i.zero, i.size, i.bytes)) = some (some (.int .u8 0), 1, 1) := by kernel_rfl
abbrev ob (v : Value) : List Nat := v.ownBlock.toList
/-- A text under way: bytes in memory of one's own. -/
structure Txt (w : World) (base : Nat) (v : Value) (l : List UInt8) : Prop where
  own : w.ownsRow base 5 1 v l.length (bytesV l)
structure ApI (w : World) (base : Nat) (tv : Value) (l : List UInt8) (v : Value) (wr : World) : Prop where
  own : wr.ownsRow base 5 1 v l.length (bytesV l)
  fr : Fr (ob tv) w wr
  blk : v.ownBlock = tv.ownBlock ∨ ∃ b, v.ownBlock = some b ∧ w.heap.size ≤ b
theorem ApI.start {w : World} {base : Nat} {tv : Value} {l : List UInt8} (h : w.ownsRow base 5 1 tv l.length (bytesV l)) : ApI w base tv l tv w := ⟨h, Fr.refl _ _, Or.inl rfl⟩
theorem ApI.next {w : World} {base : Nat} {tv : Value} {l m : List UInt8} {v v' : Value} {wr w2 w3 : World} (h : ApI w base tv l v wr) (hf : Fr [] wr w2) (hown : w3.ownsRow base 5 1 v' (l ++ m).length (bytesV (l ++ m))) (hg : w2.grownBy w3 v.ownBlock)
    (hb : v'.ownBlock = v.ownBlock ∨ v'.ownBlock = some w2.heap.size) : ApI w base tv (l ++ m) v' w3 := by
  have hs := h.fr.size
  have hs2 := hf.size
  refine ⟨hown, (h.fr.then0 hf).grow hg (fun g hg => ?_), ?_⟩
  · rcases h.blk with e | ⟨b, e, hb⟩
    · exact Or.inl (by rw [e] at hg; simp [ob, hg])
    · rw [e] at hg; cases hg; exact Or.inr hb
  · rcases hb with e | e
    · rw [e]; exact h.blk
    · exact Or.inr ⟨_, e, by omega⟩

theorem new_byte (x : Int) (W : World) (j : Nat) (u : Value) (hu : [Value.int .u8 x][j]? = some u) : (W.alloc (.cells #[.int .u8 x] 5)).cell? ((⟨W.heap.size, 0, none⟩ : Addr).add j) = some u := by
  have hj : j = 0 := by
    have := (List.getElem?_eq_some_iff.1 hu).1
    simp at this
    exact this
  subst hj
  rw [Addr.add_lit, cell_of_heap (hp_new W _)]
  simpa using hu
theorem own_byte {w : World} {base : Nat} {v : Value} {l : List UInt8} {x : Int} {b : UInt8} (h : w.ownsRow base 5 1 v (l.length + 1) (bytesV l ++ [.int .u8 x])) (hb : byteV b = .int .u8 x) : w.ownsRow base 5 1 v (l ++ [b]).length (bytesV (l ++ [b])) := by
  rw [bytesV_append]
  show w.ownsRow base 5 1 v (l ++ [b]).length (bytesV l ++ [byteV b])
  rw [hb, List.length_append]
  exact h

set_option maxRecDepth 100000 in
set_option maxHeartbeats 2000000 in
theorem append_any (base nb no nc : Nat) (tv : Value) (l : List UInt8) (ns : List Int) (w : World) (hown : w.ownsRow base 5 1 tv l.length (bytesV l)) (hns : ∀ n ∈ ns, 0 ≤ n ∧ n ≤ 1000000000) (hc : ∀ j (h : j < ns.length), w.cell? ⟨nb, no + j, none⟩ = some (ii ns[j]))
    (hnb : tv.ownBlock ≠ some nb) (hl : l.length ≤ 100000) (hnl : ns.length ≤ 10000) (hbw : base ≤ w.heap.size) (hnw : nb < w.heap.size) :
    Calls Tryd.prog 40 #[tv, .slice (some ⟨nb, no, none⟩) ns.length nc] w fun e w' =>
      ∃ v, e = .returned v ∧ ApI w base tv (l ++ flatB ns) v w' := by
  obtain ⟨inf, hi0, hz0, hz1, hz2⟩ := info_parts infoB
  have HC := (show Hid _ from hc)
  have HNS := (show Hid _ from hns)
  have HOW := (show Hid _ from hown)
  clear hc hns hown
  have HBW := (show Hid _ from hbw)
  have HNB : Hid (∀ (wr : World) (v : Value) (m : List UInt8), ApI w base tv m v wr → ∀ j (h : j < ns.length), wr.cell? ⟨nb, no + j, none⟩ = some (ii ns[j])) := fun wr v m hA j hj => by
    rw [hA.fr.cell nb _ hnw (by simp [ob]; exact hnb)]
    exact HC.out j hj
  go_enter Tryd.func40, Tryd.ntmps40
  go_wp2_with fail
  go_loopw [0, 9] (fun v i wr => ∃ k : Nat, k ≤ ns.length ∧ i = .int .i64 k ∧ ApI w base tv (l ++ flatB (ns.take k)) v wr) (fun _ i _ => ns.length - (intOf i).toNat)
  case atStart => exact ⟨0, Nat.zero_le _, rfl, by rw [List.take_zero, flatB_nil, List.append_nil]; exact ApI.start HOW.out⟩
  case round =>
    obtain ⟨k, hk, rfl, hA⟩ := hrel
    by_cases hlt : k < ns.length
    · have hlti : (k : Int) < (ns.length : Int) := by omega
      have hcell := HNB.out wr _ _ hA k hlt
      obtain ⟨n0, hn0, hn1⟩ : ∃ n0 : Nat, ns[k] = (n0 : Int) ∧ n0 ≤ 1000000000 := by
        have := HNS.out ns[k] (List.getElem_mem hlt)
        exact ⟨ns[k].toNat, by omega, by omega⟩
      have hlen : (l ++ flatB (ns.take k)).length ≤ 150000 := by
        have := flatB_len (ns.take k) (fun n hn => (HNS.out n (List.mem_of_mem_take hn)).2)
        rw [List.length_append]
        simp at this
        omega
      have HFL : Hid (l ++ flatB (ns.take (k + 1)) = (l ++ flatB (ns.take k)) ++ numB n0) := by
        show _ = _
        rw [List.take_succ_eq_append_getElem hlt, flatB_append, hn0, List.append_assoc]
        simp [flatB]
      rw [hn0] at hcell
      obtain ⟨L, hL⟩ : ∃ L, L = l ++ flatB (ns.take k) := ⟨_, rfl⟩
      rw [← hL] at hA hlen HFL
      have HA := (show Hid _ from hA)
      clear hL hn0 hA
      go_wp2_with fail
      obtain ⟨wo, hwo⟩ : ∃ x, x = wr := ⟨_, rfl⟩
      rw [← hwo] at HA ⊢
      clear hwo hcell
      go_loopw [0, 6] (fun v i wr => ∃ (m : Nat) (pre : List UInt8), i = .int .i64 m ∧ m ≤ 1000000000 ∧ pre.length ≤ 10 ∧ Hid (pre ++ numB m = numB n0) ∧ ApI w base tv (L ++ pre) v wr) (fun _ i _ => (intOf i).toNat)
      case atStart => exact ⟨n0, [], rfl, hn1, by simp, rfl, by rw [List.append_nil]; exact HA.out⟩
      case round =>
        obtain ⟨m, pre, rfl, hm, hpl, hpre, hA⟩ := hrel
        by_cases hbig : 128 ≤ m
        · have hbi : ¬ (m : Int) < 128 := by omega
          have hbj : (128 : Int) ≤ (m : Int) := by omega
          obtain ⟨q, hq⟩ : ∃ q : Nat, (m : Int) % 128 = q := ⟨m % 128, by omega⟩
          have hq2 : q < 128 := by omega
          have hor := or128 q hq2
          have HA := (show Hid _ from hA)
          clear hA
          have HO2 : Hid ((wr.alloc (.cells #[.int .u8 ((q : Int) + 128)] 5)).ownsRow base 5 1 u0 (L ++ pre).length (bytesV (L ++ pre))) := owns_fr HA.out.own ((Fr.refl [] wr).alloc _) (by simp)
          have hws := HA.out.fr.size
          have hlp : (L ++ pre).length ≤ 160000 := by rw [List.length_append]; omega
          have HQ := (show Hid _ from hq)
          go_wp2_with (at_builtin; refine wpList_append_own_at _ rfl _ _ 93 rfl base 5 inf (.int .u8 0) 1 1 Tryd.underlying93 hi0 hz0 hz1 hz2 rfl (by decide) u0 (L ++ pre).length (bytesV (L ++ pre)) rfl HO2.out ⟨wr.heap.size, 0, none⟩ 1 1 [.int .u8 ((q : Int) + 128)] rfl rfl (new_byte _ wr) (by simp [Value.oneCell']) (by unfold maxLen; omega) (by omega) (by simp; omega) ?_; intro v' w3 hown3 hgrow hnil3 hat3)
          go_roundw
          case rel =>
            have hqm : q = m % 128 := by have := HQ.out; omega
            refine ⟨m / 128, pre ++ [UInt8.ofNat (q + 128)], by go_num, by omega, ?_, ?_, ?_⟩
            · have h1 : (pre ++ numB m).length ≤ 5 := by rw [hpre.out]; exact numB_len 5 n0 (by omega) (by omega)
              have h2 := numB_len_pos m
              rw [List.length_append] at h1 ⊢
              simp
              omega
            · show pre ++ [UInt8.ofNat (q + 128)] ++ numB (m / 128) = numB n0
              rw [← hpre.out, numB_big (n := m) (by omega), hqm, List.append_assoc]
              rfl
            · rw [← List.append_assoc]
              exact HA.out.next ((Fr.refl [] wr).alloc _) (own_byte hown3 (by rw [hqm, byte_more]; rfl)) hgrow hat3
          case measure => simp [intOf]; omega
        · have hbi : (m : Int) < 128 := by omega
          have HA := (show Hid _ from hA)
          clear hA
          have HO2 : Hid ((wr.alloc (.cells #[.int .u8 (m : Int)] 5)).ownsRow base 5 1 u0 (L ++ pre).length (bytesV (L ++ pre))) := owns_fr HA.out.own ((Fr.refl [] wr).alloc _) (by simp)
          have hws := HA.out.fr.size
          have hlp : (L ++ pre).length ≤ 160000 := by rw [List.length_append]; omega
          go_wp2_with (at_builtin; refine wpList_append_own_at _ rfl _ _ 93 rfl base 5 inf (.int .u8 0) 1 1 Tryd.underlying93 hi0 hz0 hz1 hz2 rfl (by decide) u0 (L ++ pre).length (bytesV (L ++ pre)) rfl HO2.out ⟨wr.heap.size, 0, none⟩ 1 1 [.int .u8 (m : Int)] rfl rfl (new_byte _ wr) (by simp [Value.oneCell']) (by unfold maxLen; omega) (by omega) (by simp; omega) ?_; intro v' w3 hown3 hgrow hnil3 hat3)
          go_roundw
          case rel =>
            refine ⟨k + 1, hlt, by go_num, ?_⟩
            rw [HFL.out]
            have h1 : numB n0 = pre ++ [UInt8.ofNat m] := by rw [← hpre.out, numB_small (by omega)]
            rw [h1, ← List.append_assoc]
            exact HA.out.next ((Fr.refl [] wr).alloc _) (own_byte hown3 (byte_last m (by omega))) hgrow hat3
          case measure => simp [intOf]; omega
    · have hlti : ¬ (k : Int) < (ns.length : Int) := by omega
      rw [List.take_of_length_le (by omega)] at hA
      have HA := (show Hid _ from hA)
      clear hA
      go_wp2_with fail
      go_ret
      exact ⟨_, rfl, HA.out⟩
end Go.Proofs.YtapabahhfanmmaaDoor
/- Orders: they are such as may be told and read. -/
namespace Go.Proofs.YtapabahhfanmmaaDoor
open Go.RowKit

def IdleU (v : U) : Prop := v.what = 0 ∧ v.tox = 0 ∧ v.toy = 0 ∧ v.target = 0
def SameO (v v' : U) : Prop := v'.id = v.id ∧ v'.owner = v.owner ∧ v'.what = v.what ∧ v'.tox = v.tox ∧ v'.toy = v.toy ∧ v'.target = v.target
theorem SameO.refl (v : U) : SameO v v := ⟨rfl, rfl, rfl, rfl, rfl, rfl⟩
def OrdS (t : T) (u : U) : Prop :=
  IdleU u ∨ ((u.what = 1 ∨ u.what = 2) ∧ onB u.tox u.toy = true ∧ t.bd (ci u.tox u.toy) ≠ 10 ∧ u.target = 0) ∨
  (u.what = 3 ∧ u.tox = 0 ∧ u.toy = 0 ∧ 1 ≤ u.target ∧ u.target < t.next ∧ ∀ v ∈ t.us, v.id = u.target → v.owner ≠ u.owner) ∨
  (u.what = 4 ∧ u.toy = 0 ∧ u.target = 0)
def OS (t : T) : Prop := ∀ u ∈ t.us, OrdS t u
structure Ord1 (t t' : T) : Prop where
  bd : ∀ i, t.bd i ≠ 10 → t'.bd i ≠ 10
  us : ∀ v' ∈ t'.us, IdleU v' ∨ ∃ v ∈ t.us, SameO v v'
theorem Ord1.refl (t : T) : Ord1 t t := ⟨fun _ h => h, fun v h => Or.inr ⟨v, h, SameO.refl v⟩⟩
theorem OS.of {t t' : T} {P : Int → Prop} (h : OS t) (hg : Good t P t') (ho : Ord1 t t') : OS t' := by
  intro u' hu'
  rcases ho.us u' hu' with hi | ⟨v, hv, e1, e2, e3, e4, e5, e6⟩
  · exact Or.inl hi
  · rcases h v hv with ⟨a1, a2, a3, a4⟩ | ⟨a1, a2, a3, a4⟩ | ⟨a1, a2, a3, a4, a5, a6⟩ | ⟨a1, a2, a3⟩
    · exact Or.inl ⟨e3.trans a1, e4.trans a2, e5.trans a3, e6.trans a4⟩
    · exact Or.inr (Or.inl ⟨by rw [e3]; exact a1, by rw [e4, e5]; exact a2, by rw [e4, e5]; exact ho.bd _ a3, e6.trans a4⟩)
    · refine Or.inr (Or.inr (Or.inl ⟨e3.trans a1, e4.trans a2, e5.trans a3, by rw [e6]; exact a4, by rw [e6]; exact Int.lt_of_lt_of_le a5 hg.nx, ?_⟩))
      intro x' hx' hid
      rw [e6] at hid
      rcases hg.rel x' hx' with hnx | ⟨x, hx, hn⟩
      · omega
      · rw [hn.owner, e2]
        exact a6 x hx (by rw [← hid, hn.id])
    · exact Or.inr (Or.inr (Or.inr ⟨e3.trans a1, e5.trans a2, e6.trans a3⟩))
/-- What one does: the orders of all others stay; the own one, or none. -/
structure OrdA (t : T) (u : U) (q : U × T) : Prop where
  bd : ∀ i, t.bd i ≠ 10 → q.2.bd i ≠ 10
  us : ∀ v' ∈ q.2.us, IdleU v' ∨ ∃ v ∈ t.us, SameO v v'
  me : IdleU q.1 ∨ SameO u q.1
theorem idleU (u : U) : IdleU u.idle := ⟨rfl, rfl, rfl, rfl⟩
theorem OrdA.same {t t' : T} {u u' : U} (hb : t'.bd = t.bd) (hu : t'.us = t.us) (hm : IdleU u' ∨ SameO u u') : OrdA t u (u', t') :=
  ⟨fun i h => by show t'.bd i ≠ 10; rw [hb]; exact h, fun v hv => Or.inr ⟨v, by have hv' : v ∈ t'.us := hv; rw [hu] at hv'; exact hv', SameO.refl v⟩, hm⟩
theorem stock_bd (t : T) (o v : Int) : (t.setStock o v).bd = t.bd := by unfold T.setStock; split <;> rfl
theorem stock_us (t : T) (o v : Int) : (t.setStock o v).us = t.us := by unfold T.setStock; split <;> rfl
theorem ordA_move (t : T) (u : U) : OrdA t u (actMove t u) := by
  unfold actMove
  split
  · exact OrdA.same rfl rfl (Or.inl (idleU u))
  · exact OrdA.same rfl rfl (Or.inr (SameO.refl u))
theorem ordA_bring (t : T) (u : U) : OrdA t u (actBring t u) := by
  unfold actBring
  split
  · exact OrdA.same rfl rfl (Or.inr (SameO.refl u))
  · split
    · exact OrdA.same (stock_bd _ _ _) (stock_us _ _ _) (Or.inr (SameO.refl u))
    · exact OrdA.same rfl rfl (Or.inr (SameO.refl u))
theorem ordA_mine (t : T) (u : U) : OrdA t u (actMine t u) := by
  unfold actMine
  split
  · exact ordA_bring t u
  · split
    · rename_i ho
      split
      · refine ⟨fun i h => ?_, fun v hv => Or.inr ⟨v, hv, SameO.refl v⟩, Or.inr (SameO.refl u)⟩
        have ho' : 0 < t.bd (ci u.tox u.toy) ∧ t.bd (ci u.tox u.toy) < 10 := by simpa [oreB] using ho
        show (if i = ci u.tox u.toy then t.bd (ci u.tox u.toy) - min (t.bd (ci u.tox u.toy)) 5 else t.bd i) ≠ 10
        split
        · omega
        · exact h
      · exact OrdA.same rfl rfl (Or.inr (SameO.refl u))
    · exact OrdA.same rfl rfl (Or.inl (idleU u))
theorem harm_us {t : T} {i : Nat} : (t.harm i).bd = t.bd ∧ ∀ v' ∈ (t.harm i).us, ∃ v ∈ t.us, SameO v v' := by
  unfold T.harm
  split
  · exact ⟨rfl, fun v hv => ⟨v, hv, SameO.refl v⟩⟩
  · rename_i u hu
    split
    · exact ⟨rfl, fun v hv => ⟨v, List.mem_of_mem_eraseIdx hv, SameO.refl v⟩⟩
    · refine ⟨rfl, fun v hv => ?_⟩
      rcases mem_set' hv with rfl | ⟨j, _, hj⟩
      · exact ⟨u, List.mem_of_getElem? hu, rfl, rfl, rfl, rfl, rfl, rfl⟩
      · exact ⟨v, List.mem_of_getElem? hj, SameO.refl v⟩
theorem ordA_hit (t : T) (u : U) : OrdA t u (actHit t u) := by
  unfold actHit
  split
  · exact OrdA.same rfl rfl (Or.inl (idleU u))
  · split
    · exact OrdA.same rfl rfl (Or.inl (idleU u))
    · split
      · obtain ⟨h1, h2⟩ := @harm_us t ‹_›
        exact ⟨fun i h => by dsimp only; rw [h1]; exact h, fun v hv => Or.inr (h2 v hv), Or.inr (SameO.refl u)⟩
      · exact OrdA.same rfl rfl (Or.inr (SameO.refl u))
theorem ordA_build (t : T) (u : U) : OrdA t u (actBuild t u) := by
  unfold actBuild
  split
  · exact OrdA.same rfl rfl (Or.inr (SameO.refl u))
  · split
    · exact OrdA.same rfl rfl (Or.inr (SameO.refl u))
    · split
      · exact OrdA.same rfl rfl (Or.inr (SameO.refl u))
      · split
        · exact OrdA.same rfl rfl (Or.inr (SameO.refl u))
        · refine ⟨fun i h => ?_, fun v hv => ?_, Or.inl (idleU u)⟩
          · show (t.setStock _ _).bd i ≠ 10
            rw [stock_bd]; exact h
          · have hv' : v ∈ (t.setStock u.owner (t.stock u.owner - costOf u.tox)).us ++ [newU (t.setStock u.owner (t.stock u.owner - costOf u.tox)).next u.owner u.tox _ _ (lifeOf u.tox)] := hv
            rw [stock_us] at hv'
            rcases List.mem_append.1 hv' with hv' | hv'
            · exact Or.inr ⟨v, hv', SameO.refl v⟩
            · rw [List.mem_singleton.1 hv']
              exact Or.inl ⟨rfl, rfl, rfl, rfl⟩
theorem ordA_of (t : T) (u : U) : OrdA t u (actOf t u) := by
  unfold actOf
  split
  · exact ordA_move t u
  · split
    · exact ordA_mine t u
    · split
      · exact ordA_hit t u
      · split
        · exact ordA_build t u
        · exact OrdA.same rfl rfl (Or.inr (SameO.refl u))
theorem OrdA.put {t : T} {u : U} {q : U × T} (h : OrdA t u q) (hu : u ∈ t.us) : Ord1 t (putBack q.2 q.1) := by
  unfold putBack
  split
  · refine ⟨h.bd, fun v hv => ?_⟩
    rcases mem_set' hv with rfl | ⟨j, _, hj⟩
    · rcases h.me with hm | hm
      · exact Or.inl hm
      · exact Or.inr ⟨u, hu, hm⟩
    · exact h.us v (List.mem_of_getElem? hj)
  · exact ⟨h.bd, h.us⟩
theorem actAt_os {t : T} (h : TOk t) (ho : OS t) (hno : overB t.us = false) (v : U) : OS (actAt t v) := by
  have hg := actAt_ok h hno v
  refine ho.of hg ?_
  unfold actAt
  split
  · exact Ord1.refl t
  · split
    · exact Ord1.refl t
    · rename_i u hu
      exact (ordA_of t u).put (List.mem_of_getElem? hu)
theorem actAll_os : ∀ (l : List U) {t : T}, TOk t → OS t → overB t.us = false → OS (actAll l t)
  | [], t, _, h, _ => h
  | v :: l, t, hk, h, hno => by
    have h1 := actAt_ok hk hno v
    have h2 := actAt_os hk h hno v
    unfold actAll
    split
    · exact h2
    · rename_i ho
      exact actAll_os l h1.ok h2 (by simpa using ho)
theorem take_os {t : T} (h : TOk t) (ho : OS t) (p : Int) (c : Cm) : OS (takeT t p c).2 := by
  unfold takeT
  cases hp : placeOf t.us c.unit with
  | none => exact ho
  | some i =>
    dsimp only
    cases hi : t.us[i]? with
    | none => exact ho
    | some u =>
      dsimp only
      split
      · rename_i hc
        have hmem : ∀ (k : Cm) (v' : U), v' ∈ t.us.set i (u.ordered k) → ∃ v ∈ t.us, v'.id = v.id ∧ v'.owner = v.owner := fun k v' hv' => by
          rcases mem_set' hv' with rfl | ⟨j, _, hj⟩
          · exact ⟨u, List.mem_of_getElem? hi, rfl, rfl⟩
          · exact ⟨v', List.mem_of_getElem? hj, rfl, rfl⟩
        intro v hv
        rcases mem_set' hv with rfl | ⟨j, _, hj⟩
        · have hb := hc.2
          unfold takesB at hb
          unfold keptC
          by_cases c0 : c.what = 0
          · simp only [c0, if_pos]; exact Or.inl ⟨rfl, rfl, rfl, rfl⟩
          · rw [if_neg c0] at hb ⊢
            by_cases c1 : c.what = 1
            · rw [if_pos c1] at hb
              rw [if_neg (by omega), if_neg (by omega)]
              simp at hb
              exact Or.inr (Or.inl ⟨Or.inl c1, hb.2.1, hb.2.2, rfl⟩)
            · rw [if_neg c1] at hb
              by_cases c2 : c.what = 2
              · rw [if_pos c2] at hb
                rw [if_neg (by omega), if_neg (by omega)]
                simp [oreB] at hb
                exact Or.inr (Or.inl ⟨Or.inr c2, hb.2.1, by show t.bd (ci c.x c.y) ≠ 10; omega, rfl⟩)
              · rw [if_neg c2] at hb
                by_cases c3 : c.what = 3
                · rw [if_pos c3] at hb ⊢
                  simp at hb
                  have hh := hb.2
                  unfold hitB at hh
                  cases hl : look t.us c.target with
                  | none => rw [hl] at hh; cases hh
                  | some x =>
                    rw [hl] at hh
                    have hne : x.owner ≠ u.owner := by simpa using hh
                    unfold look at hl
                    have hxm := List.mem_of_find?_eq_some hl
                    have hxi : x.id = c.target := by simpa using List.find?_some hl
                    have hxo := (h.all x hxm).id
                    refine Or.inr (Or.inr (Or.inl ⟨c3, rfl, rfl, by show 1 ≤ c.target; omega, by show c.target < t.next; omega, ?_⟩))
                    intro y hy hid
                    obtain ⟨z, hz, e1, e2⟩ := hmem _ y hy
                    have hid' : y.id = c.target := hid
                    show y.owner ≠ u.owner
                    rw [e2]
                    have : z = x := by
                      obtain ⟨jz, hjz⟩ := List.getElem?_of_mem hz
                      obtain ⟨jx, hjx⟩ := List.getElem?_of_mem hxm
                      by_cases e : jz = jx
                      · subst e; rw [hjz] at hjx; exact Option.some.inj hjx
                      · have := h.rise.ne hjz hjx e; omega
                    rw [this]; exact hne
                · rw [if_neg c3] at hb ⊢
                  by_cases c4 : c.what = 4
                  · rw [if_pos c4]
                    exact Or.inr (Or.inr (Or.inr ⟨c4, rfl, rfl⟩))
                  · rw [if_neg c4] at hb; cases hb
        · rcases ho v (List.mem_of_getElem? hj) with a | a | ⟨a1, a2, a3, a4, a5, a6⟩ | a
          · exact Or.inl a
          · exact Or.inr (Or.inl a)
          · refine Or.inr (Or.inr (Or.inl ⟨a1, a2, a3, a4, a5, fun y hy hid => ?_⟩))
            obtain ⟨z, hz, e1, e2⟩ := hmem _ y hy
            rw [e2]
            exact a6 z hz (by rw [← e1]; exact hid)
          · exact Or.inr (Or.inr (Or.inr a))
      · exact ho
theorem cmd_os (p : Int) : ∀ (l : List Cm) (k : Nat) {t : T}, TOk t → OS t → OS (cmdAll p k l t).2
  | [], _, _, _, ho => ho
  | c :: l, k, _, h, ho => cmd_os p l (k + 1) (take_ok h p c (fun _ => False)).1.ok (take_os h ho p c)
theorem play_os {t : T} (h : GOk t) (ho : OS t) (first second : List Cm) : OS (playT t first second).1 := by
  unfold playT
  split
  · exact ho
  · have hb : TOk (beginT t) := h
    split
    · exact ho
    · rename_i hno
      dsimp only
      have hno' : overB (beginT t).us = false := by show overB t.us = false; simpa using hno
      obtain ⟨g0, o0⟩ := cmd_ok 0 (fun _ => False) first 0 hb (fun _ e => e)
      obtain ⟨g1, o1⟩ := cmd_ok 1 (fun _ => False) second 0 g0.ok (fun _ e => e)
      have hs := cmd_os 1 second 0 g0.ok (cmd_os 0 first 0 hb ho)
      exact actAll_os _ g1.ok hs (by rw [o1, o0]; exact hno')
theorem start_os (cs : List Int) : OS (startT cs) := by
  intro u hu
  have hu' : u ∈ [newU 1 0 1 0 0 40, newU 2 1 1 11 11 40] := hu
  simp at hu'
  rcases hu' with rfl | rfl <;> exact Or.inl ⟨rfl, rfl, rfl, rfl⟩
end Go.Proofs.YtapabahhfanmmaaDoor
/- A state in bytes, plainly. -/
namespace Go.Proofs.YtapabahhfanmmaaDoor
open Go.RowKit

abbrev U.nums (u : U) : List Int := [u.id, u.owner, u.kind, u.x, u.y, u.life, u.load, u.what, u.tox, u.toy, u.target]
def headN (t : T) : List Int := [t.turn, winI t.us, t.s0, t.s1, t.next]
def boardN (t : T) : List Int := (List.range 144).map t.bd
def peopleN (us : List U) : List Int := us.flatMap U.nums
def numsOf (t : T) : List Int := headN t ++ (boardN t ++ ((t.us.length : Int) :: peopleN t.us))
def tellB (t : T) : List UInt8 := flatB (numsOf t)
theorem boardN_len (t : T) : (boardN t).length = 144 := by simp [boardN]
theorem peopleN_len : ∀ us : List U, (peopleN us).length = 11 * us.length
  | [] => rfl
  | u :: us => by
    show (u.nums ++ peopleN us).length = _
    rw [List.length_append, peopleN_len us]
    simp
    omega
theorem numsOf_len (t : T) : (numsOf t).length = 150 + 11 * t.us.length := by
  unfold numsOf
  rw [List.length_append, List.length_append, boardN_len, List.length_cons, peopleN_len]
  show 5 + _ = _
  omega
theorem people_at : ∀ (us : List U) (i f : Nat) (u : U), us[i]? = some u → f < 11 → (peopleN us)[11 * i + f]? = u.nums[f]?
  | [], _, _, _, h, _ => by simp at h
  | v :: us, 0, f, u, h, hf => by
    have hv : v = u := by simpa using h
    subst hv
    show (v.nums ++ peopleN us)[11 * 0 + f]? = _
    rw [List.getElem?_append_left (by simp; omega), Nat.mul_zero, Nat.zero_add]
  | v :: us, i + 1, f, u, h, hf => by
    show (v.nums ++ peopleN us)[11 * (i + 1) + f]? = _
    rw [List.getElem?_append_right (by simp; omega)]
    have : 11 * (i + 1) + f - v.nums.length = 11 * i + f := by simp; omega
    rw [this]
    exact people_at us i f u (by simpa using h) hf
theorem win_bd (us : List U) : 0 ≤ winI us ∧ winI us ≤ 2 := by
  unfold winI
  split
  · omega
  · split <;> omega
theorem unit_bd {t : T} (h : GOk t) (ho : OS t) {u : U} (hu : u ∈ t.us) : ∀ x ∈ u.nums, 0 ≤ x ∧ x ≤ 1000000000 := by
  have k := h.all u hu
  have hnx := h.nx
  have hid := k.id
  have how := k.ow
  have hkd := k.kd
  have hlf := k.lf
  have hld := k.ld
  have hod := k.od
  obtain ⟨o1, o2, o3, o4⟩ := onB_iff.1 k.on
  have hll : lifeOf u.kind ≤ 40 := by unfold lifeOf; split; omega; split <;> omega
  dsimp only at hid hnx
  have hor : (0 ≤ u.what ∧ u.what ≤ 4) ∧ (0 ≤ u.tox ∧ u.tox ≤ 1000000000) ∧ (0 ≤ u.toy ∧ u.toy ≤ 1000000000) ∧ (0 ≤ u.target ∧ u.target ≤ 1000000000) := by
    unfold OrdOk at hod
    rcases ho u hu with ⟨a1, a2, a3, a4⟩ | ⟨a1, a2, a3, a4⟩ | ⟨a1, a2, a3, a4, a5, a6⟩ | ⟨a1, a2, a3⟩
    · omega
    · obtain ⟨b1, b2, b3, b4⟩ := onB_iff.1 a2
      omega
    · omega
    · omega
  intro x hx
  simp only [List.mem_cons, List.not_mem_nil, or_false] at hx
  rcases hx with rfl | rfl | rfl | rfl | rfl | rfl | rfl | rfl | rfl | rfl | rfl <;> omega
theorem nums_bd {t : T} (h : GOk t) (ho : OS t) (ht : 0 ≤ t.turn ∧ t.turn ≤ 1000000000) : ∀ x ∈ numsOf t, 0 ≤ x ∧ x ≤ 1000000000 := by
  have hnx := h.nx
  have hst := h.st
  have hwn := win_bd t.us
  have hln := h.len
  dsimp only at hnx hst hln
  intro x hx
  unfold numsOf at hx
  rcases List.mem_append.1 hx with hx | hx
  · unfold headN at hx
    simp only [List.mem_cons, List.not_mem_nil, or_false] at hx
    rcases hx with rfl | rfl | rfl | rfl | rfl <;> omega
  · rcases List.mem_append.1 hx with hx | hx
    · obtain ⟨j, hj, rfl⟩ := List.mem_map.1 hx
      have := h.bd j (List.mem_range.1 hj)
      dsimp only at this
      omega
    · rcases List.mem_cons.1 hx with rfl | hx
      · omega
      · obtain ⟨u, hu, hx⟩ := List.mem_flatMap.1 hx
        exact unit_bd h ho hu x hx
/-- What a reader reads of a text, number by number. -/
structure Reads (l : List UInt8) (t : T) : Prop where
  n0 : nth l false 0 = t.turn
  n1 : nth l false 1 = winI t.us
  n2 : nth l false 2 = t.s0
  n3 : nth l false 3 = t.s1
  n4 : nth l false 4 = t.next
  nb : ∀ j, j < 144 → nth l false (5 + j) = t.bd j
  nl : nth l false 149 = t.us.length
  nu : ∀ i u, t.us[i]? = some u → unitOf (fun f => nth l false (150 + 11 * i + f)) = u
  ne : rdN l false (150 + 11 * t.us.length) = ([], false)
theorem nth_is {ns : List Int} (hb : ∀ x ∈ ns, 0 ≤ x ∧ x ≤ 1000000000) {n : Nat} {x : Int} (h : ns[n]? = some x) : nth (flatB ns) false n = x := by
  obtain ⟨hl, rfl⟩ := List.getElem?_eq_some_iff.1 h
  have := nth_flat n ns [] hl hb
  rwa [List.append_nil] at this
theorem nums_unit {t : T} {i f : Nat} {u : U} (h : t.us[i]? = some u) (hf : f < 11) : (numsOf t)[150 + 11 * i + f]? = u.nums[f]? := by
  unfold numsOf
  have h5 : (headN t).length = 5 := rfl
  rw [List.getElem?_append_right (by omega), List.getElem?_append_right (by rw [boardN_len]; omega), boardN_len, h5, show 150 + 11 * i + f - 5 - 144 = (11 * i + f) + 1 by omega, List.getElem?_cons_succ]
  exact people_at t.us i f u h hf
theorem reads_tell {t : T} (h : GOk t) (ho : OS t) (ht : 0 ≤ t.turn ∧ t.turn ≤ 1000000000) : Reads (tellB t) t := by
  have hb := nums_bd h ho ht
  have h5 : (headN t).length = 5 := rfl
  have hh : ∀ k x, (headN t)[k]? = some x → nth (tellB t) false k = x := fun k x hk => nth_is hb (by
    unfold numsOf
    rw [List.getElem?_append_left (by rw [h5]; exact (List.getElem?_eq_some_iff.1 hk).1)]
    exact hk)
  refine ⟨hh 0 _ rfl, hh 1 _ rfl, hh 2 _ rfl, hh 3 _ rfl, hh 4 _ rfl, fun j hj => nth_is hb ?_, nth_is hb ?_, fun i u hu => ?_, ?_⟩
  · unfold numsOf
    rw [List.getElem?_append_right (by omega), h5, show 5 + j - 5 = j by omega, List.getElem?_append_left (by rw [boardN_len]; exact hj)]
    simp [boardN, List.getElem?_range hj]
  · unfold numsOf
    rw [List.getElem?_append_right (by omega), List.getElem?_append_right (by rw [boardN_len]; omega), boardN_len, h5]
    rfl
  · have hu' : ∀ f x, f < 11 → u.nums[f]? = some x → nth (tellB t) false (150 + 11 * i + f) = x := fun f x hf hx => nth_is hb (by rw [nums_unit hu hf]; exact hx)
    show U.mk (nth (tellB t) false (150 + 11 * i + 0)) (nth (tellB t) false (150 + 11 * i + 1)) (nth (tellB t) false (150 + 11 * i + 2)) (nth (tellB t) false (150 + 11 * i + 3)) (nth (tellB t) false (150 + 11 * i + 4)) (nth (tellB t) false (150 + 11 * i + 5)) (nth (tellB t) false (150 + 11 * i + 6)) (nth (tellB t) false (150 + 11 * i + 7)) (nth (tellB t) false (150 + 11 * i + 8)) (nth (tellB t) false (150 + 11 * i + 9)) (nth (tellB t) false (150 + 11 * i + 10)) = u
    rw [hu' 0 _ (by omega) rfl, hu' 1 _ (by omega) rfl, hu' 2 _ (by omega) rfl, hu' 3 _ (by omega) rfl, hu' 4 _ (by omega) rfl, hu' 5 _ (by omega) rfl, hu' 6 _ (by omega) rfl, hu' 7 _ (by omega) rfl, hu' 8 _ (by omega) rfl, hu' 9 _ (by omega) rfl, hu' 10 _ (by omega) rfl]
  · have := rdN_flat (150 + 11 * t.us.length) (numsOf t) [] (by rw [numsOf_len]; exact Nat.le_refl _) hb
    rw [List.append_nil, List.append_nil, List.drop_of_length_le (by rw [numsOf_len]; exact Nat.le_refl _)] at this
    exact this
theorem tell_len {t : T} (h : GOk t) (ho : OS t) (ht : 0 ≤ t.turn ∧ t.turn ≤ 1000000000) : (tellB t).length ≤ 100000 := by
  have := flatB_len (numsOf t) (fun n hn => (nums_bd h ho ht n hn).2)
  have hl := h.len
  dsimp only at hl
  rw [numsOf_len] at this
  unfold tellB
  omega
end Go.Proofs.YtapabahhfanmmaaDoor
