import Derived.Test.YtapabahhfanmmaaGreatDoorCLeaf
import Derived.Laws.Bits64b
import Derived.Maps.AppendAt
import Derived.ArgAppend
import Derived.Lib.AppendStr
import Derived.Laws.IdiomCopy
import Derived.Laws.IdiomStrings
import Derived.Lib.ConvBytes
import Derived.Deep.RegionHeld
/- Numbers in bytes. -/
namespace Go.Proofs.YtapabahhfanmmaaGreatDoor
open Go.RowKit

def numF : Nat → Nat → List UInt8
 | 0, _ => []
 | f + 1, n => if n < 128 then [UInt8.ofNat n] else UInt8.ofNat (n % 128 + 128) :: numF f (n / 128)
def numB (n : Nat) : List UInt8 := numF (n + 1) n
theorem numF_is : ∀ f g n, n < f → n < g → numF f n = numF g n
 | f + 1, g + 1, n, hf, hg => by
  unfold numF
  split
  · rfl
  · rw [numF_is f g (n / 128) (by omega) (by omega)]
theorem numB_small {n : Nat} (h : n < 128) : numB n = [UInt8.ofNat n] := by rw [numB, numF, if_pos h]
theorem numB_big {n : Nat} (h : ¬ n < 128) : numB n = UInt8.ofNat (n % 128 + 128) :: numB (n / 128) := by rw [numB, numF, if_neg h, numF_is n (n / 128 + 1) _ (by omega) (by omega), numB]
def fstT : Nat → Nat → Nat → List UInt8 → Nat × Nat
  | 0, _, _, _ => (0, 0)
  | _ + 1, _, _, [] => (0, 0)
  | f + 1, i, s, b :: l =>
    if 128 ≤ b.toNat then fstT f (i + 1) (s + b.toNat % 128 * 128 ^ i) l
    else if (b.toNat = 0 ∧ 0 < i) ∨ 1000000000 < s + b.toNat % 128 * 128 ^ i then (0, 0) else (s + b.toNat % 128 * 128 ^ i, i + 1)
def firstT (l : List UInt8) : Nat × Nat := fstT 5 0 0 l
theorem fst_num (l : List UInt8) : ∀ (f i s n : Nat), 0 < f → n < 128 ^ f → (0 < i → 0 < n) → s + n * 128 ^ i ≤ 1000000000 → fstT f i s (numB n ++ l) = (s + n * 128 ^ i, i + (numB n).length)
  | 0, _, _, _, h, _, _, _ => by omega
  | f + 1, i, s, n, _, h, hi, hs => by
    by_cases hn : n < 128
    · rw [numB_small hn]
      have hb : (UInt8.ofNat n).toNat = n := by simp [UInt8.toNat_ofNat']; omega
      show (if 128 ≤ (UInt8.ofNat n).toNat then _ else _) = _
      rw [hb, if_neg (by omega), Nat.mod_eq_of_lt hn, if_neg]
      · rfl
      · intro hh
        rcases hh with ⟨a, b⟩ | a
        · have := hi b; omega
        · omega
    · rw [numB_big hn]
      have hb : (UInt8.ofNat (n % 128 + 128)).toNat = n % 128 + 128 := by simp [UInt8.toNat_ofNat']; omega
      show (if 128 ≤ (UInt8.ofNat (n % 128 + 128)).toNat then _ else _) = _
      rw [hb, if_pos (by omega)]
      have e : n % 128 * 128 ^ i + n / 128 * 128 ^ (i + 1) = n * 128 ^ i := by
        rw [Nat.pow_succ, Nat.mul_comm (128 ^ i) 128, ← Nat.mul_assoc, ← Nat.add_mul]
        congr 1
        omega
      have hm : (n % 128 + 128) % 128 = n % 128 := by omega
      have h2 : n / 128 < 128 ^ f := by rw [Nat.pow_succ] at h; omega
      have h3 : 0 < f := by
        rcases Nat.eq_zero_or_pos f with e0 | e0
        · subst e0; simp at h2; omega
        · exact e0
      rw [hm]
      show fstT f (i + 1) (s + n % 128 * 128 ^ i) (numB (n / 128) ++ l) = _
      rw [fst_num l f (i + 1) (s + n % 128 * 128 ^ i) (n / 128) h3 h2 (fun _ => by omega) (by omega)]
      apply Prod.ext
      · dsimp only; omega
      · simp only [List.length_cons]; omega
theorem first_num (n : Nat) (l : List UInt8) (h : n ≤ 1000000000) : firstT (numB n ++ l) = (n, (numB n).length) := by
  have := fst_num l 5 0 0 n (by omega) (by omega) (by omega) (by omega)
  simpa [firstT] using this
theorem numB_len_pos (n : Nat) : 0 < (numB n).length := by
  by_cases h : n < 128
  · rw [numB_small h]; simp
  · rw [numB_big h]; simp
theorem numB_len : ∀ (f n : Nat), n < 128 ^ f → 0 < f → (numB n).length ≤ f
  | 0, _, _, h => by omega
  | f + 1, n, h, _ => by
    by_cases hn : n < 128
    · rw [numB_small hn]; simp
    · rw [numB_big hn]
      have h2 : n / 128 < 128 ^ f := by rw [Nat.pow_succ] at h; omega
      have : 0 < f := by
        rcases Nat.eq_zero_or_pos f with e | e
        · subst e; simp at h2; omega
        · exact e
      have := numB_len f (n / 128) h2 this
      simp; omega
/-- A number that is cut off is none. -/
theorem fst_cut : ∀ (f i s n k : Nat), k < (numB n).length → fstT f i s ((numB n).take k) = (0, 0)
  | 0, _, _, _, _, _ => rfl
  | f + 1, i, s, n, k, h => by
    by_cases hn : n < 128
    · rw [numB_small hn] at h ⊢
      have : k = 0 := by simpa using h
      subst this
      rfl
    · rw [numB_big hn] at h ⊢
      cases k with
      | zero => rfl
      | succ k =>
        have hb : (UInt8.ofNat (n % 128 + 128)).toNat = n % 128 + 128 := by simp [UInt8.toNat_ofNat']; omega
        rw [List.take_succ_cons]
        show (if 128 ≤ (UInt8.ofNat (n % 128 + 128)).toNat then _ else _) = _
        rw [hb, if_pos (by omega)]
        exact fst_cut f (i + 1) _ (n / 128) k (by simpa using h)

/-- A list of numbers in bytes. -/
def flatB (ns : List Int) : List UInt8 := ns.flatMap fun n => numB n.toNat
theorem flatB_nil : flatB [] = [] := rfl
theorem flatB_cons (n : Int) (ns : List Int) : flatB (n :: ns) = numB n.toNat ++ flatB ns := rfl
theorem flatB_append (a b : List Int) : flatB (a ++ b) = flatB a ++ flatB b := List.flatMap_append
theorem flatB_len : ∀ ns : List Int, (∀ n ∈ ns, n ≤ 1000000000) → (flatB ns).length ≤ 5 * ns.length
  | [], _ => by simp [flatB]
  | n :: ns, h => by
    have h1 := flatB_len ns (fun m hm => h m (by simp [hm]))
    have h2 := numB_len 5 n.toNat (by have := h n (by simp); omega) (by omega)
    rw [flatB_cons, List.length_append, List.length_cons]
    omega
/-- Bytes as cells of memory. -/
def byteV (b : UInt8) : Value := .int .u8 (b.toNat : Int)
def bytesV (l : List UInt8) : List Value := l.map byteV
theorem bytesV_append (a b : List UInt8) : bytesV (a ++ b) = bytesV a ++ bytesV b := List.map_append
theorem or128 (x : Nat) (h : x < 128) : bits .or .u8 (x : Int) 128 = ((x + 128 : Nat) : Int) := by
  have : ∀ x : Fin 128, bits .or .u8 ((x.val : Nat) : Int) 128 = ((x.val + 128 : Nat) : Int) := by decide
  exact this ⟨x, h⟩
theorem byte_more (n : Nat) : byteV (UInt8.ofNat (n % 128 + 128)) = .int .u8 ((n % 128 + 128 : Nat) : Int) := by
  unfold byteV
  have hb : (UInt8.ofNat (n % 128 + 128)).toNat = n % 128 + 128 := by simp [UInt8.toNat_ofNat']; omega
  rw [hb]
theorem byte_last (n : Nat) (h : n < 128) : byteV (UInt8.ofNat n) = .int .u8 (n : Int) := by
  unfold byteV
  have hb : (UInt8.ofNat n).toNat = n := by simp [UInt8.toNat_ofNat']; omega
  rw [hb]
theorem or_shift (s x i : Nat) (hs : s < 128 ^ i) (hx : x < 128) (hi : i < 5) : bits .or .u64 (s : Int) ((x * 128 ^ i : Nat) : Int) = ((s + x * 128 ^ i : Nat) : Int) := by
  have hp : 128 ^ i ≤ 128 ^ 4 := Nat.pow_le_pow_right (by omega) (by omega)
  have h1 : x * 128 ^ i ≤ 127 * 128 ^ 4 := Nat.mul_le_mul (by omega) hp
  rw [bits_or_u64_nat _ _ (by omega) (by omega)]
  congr 1
  have h2 : 128 ^ i = 2 ^ (7 * i) := by rw [Nat.pow_mul]
  rw [h2] at hs ⊢
  rw [← Nat.shiftLeft_eq, Nat.or_comm, ← Nat.shiftLeft_add_eq_or_of_lt hs, Nat.add_comm]
end Go.Proofs.YtapabahhfanmmaaGreatDoor
/- Bytes in memory of one's own, whatever mark their row bears. -/
namespace Go.Proofs.YtapabahhfanmmaaGreatDoor
open Go.RowKit Go.Lib

theorem infoB8 : (Tryz.prog.info? 5).map (fun i => (i.zero, i.size, i.bytes)) = some (some (.int .u8 0), 1, 1) := by kernel_rfl
theorem info8 : ∃ i, Tryz.prog.info? 5 = some i ∧ i.zero = some (.int .u8 0) ∧ i.size = 1 ∧ i.bytes = 1 := by
  have h := infoB8
  cases e : Tryz.prog.info? 5 with
  | none => rw [e] at h; cases h
  | some i =>
    rw [e] at h
    simp at h
    exact ⟨i, rfl, h.1, h.2.1, h.2.2⟩
/-- v's row, from block base on, holds these bytes; behind them there is room up to its capacity. -/
def ownM (w : World) (base : Nat) (v : Value) (l : List UInt8) : Prop :=
  (v = .slice none 0 0 ∧ l = []) ∨ ∃ g cap, v = .slice (some ⟨g, 0, none⟩) l.length cap ∧ base ≤ g ∧ g < w.heap.size ∧ l.length ≤ cap ∧ cap ≤ maxLen ∧
    (∀ j, j < cap → (w.cell? ⟨g, j, none⟩).isSome = true ∧ w.frozen? ⟨g, j, none⟩ = false) ∧ (∀ j (h : j < l.length), w.cell? ⟨g, j, none⟩ = some (byteV l[j]))
theorem ownM_nil (w : World) (base : Nat) : ownM w base (.slice none 0 0) [] := Or.inl ⟨rfl, rfl⟩
theorem ownM_of {w : World} {base : Nat} {v : Value} {l : List UInt8} (h : w.ownsRow base 5 1 v l.length (bytesV l)) : ownM w base v l := by
  rcases h.2 with ⟨h1, h2⟩ | ⟨g, cap, cur, rfl, hb, hg, h1, h2, h3, h4⟩
  · exact Or.inl ⟨h1, List.eq_nil_of_length_eq_zero h2⟩
  · refine Or.inr ⟨g, cap, rfl, hb, lt_of_heap hg, h1, h2, fun j hj => ⟨?_, frozen_of_heap hg⟩, fun j hj => ?_⟩
    · rw [cell_of_heap hg, Array.getElem?_eq_getElem (by omega)]
      rfl
    · rw [cell_of_heap hg]
      have := congrArg (fun x : List Value => x[j]?) h4
      simp only [List.getElem?_take_of_lt (show j < l.length * 1 by omega)] at this
      rw [← Array.getElem?_toList, this]
      simp [bytesV, hj]
theorem ownM.base {w : World} {base : Nat} {v : Value} {l : List UInt8} (h : ownM w base v l) {b : Nat} (hb : v.ownBlock = some b) : base ≤ b ∧ b < w.heap.size := by
  rcases h with ⟨rfl, _⟩ | ⟨g, cap, rfl, h1, h2, _⟩
  · simp [Value.ownBlock] at hb
  · simp [Value.ownBlock] at hb
    subst hb
    exact ⟨h1, h2⟩
theorem ownM.fr {S : List Nat} {w w' : World} {base : Nat} {v : Value} {l : List UInt8} (h : ownM w base v l) (hf : Fr S w w') (hn : ∀ b, v.ownBlock = some b → b ∉ S) : ownM w' base v l := by
  rcases h with h | ⟨g, cap, rfl, h1, h2, h3, h4, h5, h6⟩
  · exact Or.inl h
  · have hg : g ∉ S := hn g rfl
    exact Or.inr ⟨g, cap, rfl, h1, Nat.lt_of_lt_of_le h2 hf.size, h3, h4, fun j hj => by rw [hf.cell g j h2 hg, hf.frozen g j h2 hg]; exact h5 j hj, fun j hj => by rw [hf.cell g j h2 hg]; exact h6 j hj⟩
theorem ownM.string {w : World} {base : Nat} {v : Value} {l : List UInt8} (h : ownM w base v l) : (convert 168 9 v).run Tryz.prog w = .ok (.string ⟨l.toArray⟩) w := by
  rcases h with ⟨rfl, rfl⟩ | ⟨g, cap, rfl, h1, h2, h3, h4, h5, h6⟩
  · rw [run_convert_bytes_string w 168 9 5 none 0 0 Tryz.underlying168 Tryz.underlying5 Tryz.underlying9]
    simp [Conv.bytesToString]
    rfl
  · refine run_convert_bytes_back w 168 9 5 ⟨g, 0, none⟩ cap l Tryz.underlying168 Tryz.underlying5 Tryz.underlying9 (fun j hj => ?_)
    rw [Addr.add_lit, Nat.zero_add]
    exact h6 j hj
theorem fr_setCells {S : List Nat} {a : World} (b : Nat) : ∀ (vs : List Value) (o : Nat) (c : World), Fr S a c → (b ∈ S ∨ a.heap.size ≤ b) → Fr S a (c.setCells b o vs)
  | [], _, _, h, _ => h
  | v :: r, o, _, h, hb => fr_setCells b r (o + 1) _ (h.setCell ⟨b, o, none⟩ v hb) hb
theorem grown_setCells (w : World) (g o : Nat) (vs : List Value) : w.grownBy (w.setCells g o vs) (some g) := by
  have hf := fr_setCells (S := [g]) g vs o w (Fr.refl _ _) (by simp)
  exact ⟨hf.os, hf.tape, hf.output, hf.size, fun k hk hn => hf.block k hk (by simp; exact fun e => hn (by rw [e]))⟩
/-- Room: the bytes are put behind. -/
theorem ownM_put {w : World} {base g cap : Nat} {l m : List UInt8} (hb : base ≤ g) (hg : g < w.heap.size) (h4 : cap ≤ maxLen) (h5 : ∀ j, j < cap → (w.cell? ⟨g, j, none⟩).isSome = true ∧ w.frozen? ⟨g, j, none⟩ = false) (h6 : ∀ j (h : j < l.length), w.cell? ⟨g, j, none⟩ = some (byteV l[j])) (hroom : l.length + m.length ≤ cap) :
    ownM (w.setCells g l.length (bytesV m)) base (.slice (some ⟨g, 0, none⟩) (l.length + m.length) cap) (l ++ m) := by
  have hml : (bytesV m).length = m.length := by simp [bytesV]
  refine Or.inr ⟨g, cap, by rw [List.length_append], hb, Nat.lt_of_lt_of_le hg (grown_setCells w g l.length (bytesV m)).size, by rw [List.length_append]; exact hroom, h4, fun j hj => ⟨?_, ?_⟩, fun j hj => ?_⟩
  · by_cases hin : l.length ≤ j ∧ j < l.length + m.length
    · have := World.cell?_setCells_in g (bytesV m) l.length w (fun i hi => (h5 _ (by omega)).1) (j - l.length) (by omega)
      rw [show l.length + (j - l.length) = j by omega] at this
      rw [this]
      rfl
    · rw [World.cell?_setCells_out g (bytesV m) l.length w ⟨g, j, none⟩ (fun _ _ => by dsimp only; omega)]
      exact (h5 j hj).1
  · rw [World.frozen?_setCells]
    exact (h5 j hj).2
  · rw [List.length_append] at hj
    by_cases hin : j < l.length
    · rw [World.cell?_setCells_out g (bytesV m) l.length w ⟨g, j, none⟩ (fun _ _ => by dsimp only; omega), List.getElem_append_left hin]
      exact h6 j hin
    · have := World.cell?_setCells_in g (bytesV m) l.length w (fun i hi => (h5 _ (by omega)).1) (j - l.length) (by omega)
      rw [show l.length + (j - l.length) = j by omega] at this
      rw [this, List.getElem_append_right (by omega)]
      simp [bytesV]
theorem bytes_one (m : List UInt8) : ∀ u ∈ bytesV m, u.oneCell' = true := fun u hu => by
  obtain ⟨b, _, rfl⟩ := List.mem_map.1 hu
  rfl
theorem bytesV_len (m : List UInt8) : (bytesV m).length = m.length := by simp [bytesV]
theorem ownM.weak {w : World} {base base' : Nat} {v : Value} {l : List UInt8} (h : ownM w base v l) (hb : base' ≤ base) : ownM w base' v l := by
  rcases h with h | ⟨g, cap, h0, h1, r⟩
  · exact Or.inl h
  · exact Or.inr ⟨g, cap, h0, Nat.le_trans hb h1, r⟩
theorem grown_weak {w w' : World} (h : w.grownBy w' none) (row : Option Nat) : w.grownBy w' row := ⟨h.os, h.tape, h.output, h.size, fun k hk _ => h.block k hk (by simp)⟩
theorem own_new {w : World} {base n : Nat} {e : TypeId} {size : Nat} {v : Value} {xs : List Value} (h : w.ownsRow base e size v n xs) (hn : 0 < n) : ∃ b, v.ownBlock = some b ∧ base ≤ b := by
  rcases h.2 with ⟨_, h0⟩ | ⟨g', cap', cur, rfl, hb, _⟩
  · omega
  · exact ⟨g', rfl, hb⟩
/-- append of a slice of bytes. -/
theorem run_appendM (w : World) (base : Nat) (ty : TypeId) (v : Value) (l m : List UInt8) (hown : ownM w base v l) (a : Addr) (c : Nat) (hnews : ∀ j u, (bytesV m)[j]? = some u → w.cell? (a.add j) = some u) (hlen : l.length + m.length ≤ 1000000000) (hbase : base ≤ w.heap.size) :
    ∃ v' w', (Builtin.append_ #[168, 168] ty #[v, .slice (some a) m.length c]).run Tryz.prog w = .ok v' w' ∧ ownM w' base v' (l ++ m) ∧ w.grownBy w' v.ownBlock ∧ (v'.ownBlock = v.ownBlock ∨ ∃ b, v'.ownBlock = some b ∧ w.heap.size ≤ b) := by
  obtain ⟨i, hi, hz, hs, hby⟩ := info8
  have hmx : l.length + m.length ≤ maxLen := by unfold maxLen; omega
  rcases hown with ⟨rfl, rfl⟩ | ⟨g, cap, rfl, h1, h2, h3, h4, h5, h6⟩
  · obtain ⟨v', w', hr, hown, hg, _, hat⟩ := run_append_own_at (P := Tryz.prog) w base 168 ty 5 i (.int .u8 0) 1 1 Tryz.underlying168 hi hz hs hby rfl (by omega) (.slice none 0 0) 0 [] ⟨rfl, Or.inl ⟨rfl, rfl⟩⟩ a m.length c (bytesV m) (by simp [bytesV]) hnews (bytes_one m) (by simpa using hmx) (by simp at hlen; omega) hbase
    refine ⟨v', w', hr, ownM_of ?_, hg, hat.imp_right (fun e => ⟨_, e, Nat.le_refl _⟩)⟩
    rw [List.nil_append] at hown ⊢
    rwa [Nat.zero_add] at hown
  · by_cases hroom : l.length + m.length ≤ cap
    · have hr := run_append_room_cells (P := Tryz.prog) w 168 ty 5 i Tryz.underlying168 hi g 0 l.length cap a m.length c (bytesV m) (by rw [hs]; simp [bytesV]) hnews (bytes_one m) hroom (fun j hj => by rw [hs]; rw [bytesV_len] at hj; exact (h5 _ (by omega)).1) (fun j hj => by rw [hs]; rw [bytesV_len] at hj; exact (h5 _ (by omega)).2)
      rw [hs, Nat.zero_add, Nat.mul_one] at hr
      exact ⟨_, _, hr, ownM_put h1 h2 h4 h5 h6 hroom, grown_setCells _ _ _ _, Or.inl rfl⟩
    · obtain ⟨v', w', hr, hown, hg⟩ := run_append_arg_grows (P := Tryz.prog) w 168 ty 5 i (.int .u8 0) 1 1 Tryz.underlying168 hi hz hs hby rfl (by omega) ⟨g, 0, none⟩ l.length cap (bytesV l) (by simp [bytesV]) (fun j u hu => by
          have hj : j < l.length := by have := (List.getElem?_eq_some_iff.1 hu).1; rwa [bytesV_len] at this
          rw [Addr.add_lit, Nat.zero_add, h6 j hj, ← hu]
          simp [bytesV, hj]) a m.length c (bytesV m) (by simp [bytesV]) hnews (by omega) hmx (by omega)
      have hown' : w'.ownsRow w.heap.size 5 1 v' (l ++ m).length (bytesV (l ++ m)) := by rw [bytesV_append, List.length_append]; exact hown
      exact ⟨v', w', hr, (ownM_of hown').weak hbase, grown_weak hg _, Or.inr (own_new hown (by omega))⟩
theorem str_bytes (m : List UInt8) : strCells (⟨m.toArray⟩ : ByteArray) = bytesV m := rfl
/-- append of a string's bytes. -/
theorem run_appendS (w : World) (base : Nat) (ty : TypeId) (v : Value) (l m : List UInt8) (hown : ownM w base v l) (hlen : l.length + m.length ≤ 1000000000) (hbase : base ≤ w.heap.size) :
    ∃ v' w', (Builtin.append_ #[168, 9] ty #[v, .string ⟨m.toArray⟩]).run Tryz.prog w = .ok v' w' ∧ ownM w' base v' (l ++ m) ∧ w.grownBy w' v.ownBlock ∧ (v'.ownBlock = v.ownBlock ∨ ∃ b, v'.ownBlock = some b ∧ w.heap.size ≤ b) := by
  obtain ⟨i, hi, hz, hs, hby⟩ := info8
  have hmx : l.length + m.length ≤ maxLen := by unfold maxLen; omega
  have hsz : (⟨m.toArray⟩ : ByteArray).size = m.length := rfl
  rcases hown with ⟨rfl, rfl⟩ | ⟨g, cap, rfl, h1, h2, h3, h4, h5, h6⟩
  · by_cases h0 : m = []
    · subst h0
      refine ⟨.slice none 0 0, w, ?_, Or.inl ⟨rfl, rfl⟩, ⟨rfl, rfl, rfl, Nat.le_refl _, fun _ _ _ => rfl⟩, Or.inl rfl⟩
      simp [Builtin.append_, run_underlying Tryz.underlying168, run_underlying Tryz.underlying9, sizeOf, typeInfo, hi, Builtin.lenOf, Builtin.firstCells]
      rw [if_pos (show ({ data := #[] } : ByteArray) = ByteArray.empty from rfl)]
      rfl
    · obtain ⟨v', w', hr, hown, hg, hnil⟩ := run_append_own_string (P := Tryz.prog) w w.heap.size 168 9 ty 5 i Tryz.underlying168 Tryz.underlying9 hi hz hs hby (.slice none 0 0) 0 [] ⟨rfl, Or.inl ⟨rfl, rfl⟩⟩ ⟨m.toArray⟩ (by rw [hsz]; simpa using hmx) (by rw [hsz]; simp at hlen; omega) (Nat.le_refl _)
      rw [hsz, str_bytes, List.nil_append, Nat.zero_add] at hown
      have hpos : 0 < m.length := by cases m with | nil => exact absurd rfl h0 | cons a b => simp
      exact ⟨v', w', hr, by rw [List.nil_append]; exact (ownM_of hown).weak hbase, hg, Or.inr (own_new hown hpos)⟩
  · by_cases hroom : l.length + m.length ≤ cap
    · have hf := run_firstCells_string (P := Tryz.prog) w 1 ⟨m.toArray⟩
      have hst := run_storeCells_cells (P := Tryz.prog) g l.length (bytesV m) 0 w (fun j hj => by rw [bytesV_len] at hj; exact (h5 _ (by omega)).1) (fun j hj => by rw [bytesV_len] at hj; exact (h5 _ (by omega)).2) (bytes_one m)
      rw [hsz, str_bytes] at hf
      simp only [Nat.add_zero] at hst
      refine ⟨_, _, ?_, ownM_put h1 h2 h4 h5 h6 hroom, grown_setCells _ _ _ _, Or.inl rfl⟩
      simp [Builtin.append_, run_underlying Tryz.underlying168, run_underlying Tryz.underlying9, sizeOf, typeInfo, hi, hs, hsz, Builtin.lenOf, hroom, hf, Addr.add_lit, hst]
    · have hr := run_append_grow_string (P := Tryz.prog) w 168 9 ty 5 i (.int .u8 0) Tryz.underlying168 Tryz.underlying9 hi hz ⟨g, 0, none⟩ l.length cap (bytesV l) (by rw [hs]; simp [bytesV]) (fun j u hu => by
          have hj : j < l.length := by have := (List.getElem?_eq_some_iff.1 hu).1; rwa [bytesV_len] at this
          rw [Addr.add_lit, Nat.zero_add, h6 j hj, ← hu]
          simp [bytesV, hj]) ⟨m.toArray⟩ (by rw [hsz]; omega) (by rw [hsz]; omega) (by rw [hsz]; exact growslice_fits (by omega) (by rw [hby]; omega))
      rw [hsz, str_bytes] at hr
      refine ⟨_, _, hr, ?_, ?_, Or.inr ⟨w.heap.size, rfl, Nat.le_refl _⟩⟩
      rotate_left
      · refine grown_weak ?_ _
        exact ⟨rfl, rfl, rfl, by simp, fun k hk _ => Below.heap_alloc w.drew _ k hk⟩
      have hge := grownCap_ge w (l.length + m.length) cap 5
      have hcm : grownCap w (l.length + m.length) cap 5 ≤ maxLen := grownCap_le_maxLen w (l.length + m.length) cap 5 hmx
      have hO : (w.drew.alloc (.cells ((bytesV l).toArray ++ (bytesV m).toArray ++ Builtin.zeroCells (Value.int .u8 0).cells (grownCap w (l.length + m.length) cap 5 - (l.length + m.length))) 5)).ownsRow w.heap.size 5 1 (.slice (some ⟨w.heap.size, 0, none⟩) (l.length + m.length) (grownCap w (l.length + m.length) cap 5)) (l ++ m).length (bytesV (l ++ m)) := by
        rw [bytesV_append, List.length_append]
        refine ⟨by simp [bytesV], .inr ⟨w.heap.size, _, _, rfl, Nat.le_refl _, Go.heap_alloc_new w.drew _, hge, hcm, ?_, ?_⟩⟩
        · simp only [Array.size_append, List.size_toArray, size_zeroCells, bytesV_len]
          show l.length + m.length + _ * 1 = _
          omega
        · simp only [Array.toList_append, List.append_assoc]
          rw [← List.append_assoc, show (l.length + m.length) * 1 = (bytesV l ++ bytesV m).length by simp [bytesV]]
          exact List.take_left
      exact (ownM_of hO).weak hbase
theorem wpList_appendM {ops : Array Oper} {rest : List Oper} {o : Oper} {a : Act} {w : World} {Q : Exit → Act → World → Prop} (hgd : o.guard = none) (s x : Operand)
    (ho : o.op = .call { callee := .builtin .append, args := #[s, x], argTypes := #[168, 168] })
    (base : Nat) (v : Value) (l m : List UInt8) (hs : a.eval s = v) (hown : ownM w base v l) (ad : Addr) (c : Nat) (hx : a.eval x = .slice (some ad) m.length c) (hnews : ∀ j u, (bytesV m)[j]? = some u → w.cell? (ad.add j) = some u)
    (hlen : l.length + m.length ≤ 1000000000) (hbase : base ≤ w.heap.size)
    (h : ∀ v' w', ownM w' base v' (l ++ m) → w.grownBy w' v.ownBlock → (v'.ownBlock = v.ownBlock ∨ ∃ b, v'.ownBlock = some b ∧ w.heap.size ≤ b) → wpList Tryz.prog ops Q rest (a.put o.dst v') w') : wpList Tryz.prog ops Q (o :: rest) a w := by
  refine wpList_plain hgd fun K hK => ?_
  obtain ⟨v', w', hr, h2, h3, h4⟩ := run_appendM w base o.type v l m hown ad c hnews hlen hbase
  unfold Oper.wp execOp
  simp only [ho, resolve, invoke, builtin, Sem.run_bind, Sem.run_pure, Result.andThen_ok, List.map_toArray, List.map_cons, List.map_nil, hs, hx, hr]
  exact hK _ _ (h v' w' h2 h3 h4)
theorem wpList_appendS {ops : Array Oper} {rest : List Oper} {o : Oper} {a : Act} {w : World} {Q : Exit → Act → World → Prop} (hgd : o.guard = none) (s x : Operand)
    (ho : o.op = .call { callee := .builtin .append, args := #[s, x], argTypes := #[168, 9] })
    (base : Nat) (v : Value) (l m : List UInt8) (hs : a.eval s = v) (hown : ownM w base v l) (hx : a.eval x = .string ⟨m.toArray⟩)
    (hlen : l.length + m.length ≤ 1000000000) (hbase : base ≤ w.heap.size)
    (h : ∀ v' w', ownM w' base v' (l ++ m) → w.grownBy w' v.ownBlock → (v'.ownBlock = v.ownBlock ∨ ∃ b, v'.ownBlock = some b ∧ w.heap.size ≤ b) → wpList Tryz.prog ops Q rest (a.put o.dst v') w') : wpList Tryz.prog ops Q (o :: rest) a w := by
  refine wpList_plain hgd fun K hK => ?_
  obtain ⟨v', w', hr, h2, h3, h4⟩ := run_appendS w base o.type v l m hown hlen hbase
  unfold Oper.wp execOp
  simp only [ho, resolve, invoke, builtin, Sem.run_bind, Sem.run_pure, Result.andThen_ok, List.map_toArray, List.map_cons, List.map_nil, hs, hx, hr]
  exact hK _ _ (h v' w' h2 h3 h4)
end Go.Proofs.YtapabahhfanmmaaGreatDoor
/- Steps and files, plainly. -/
namespace Go.Proofs.YtapabahhfanmmaaGreatDoor
open Go.RowKit

structure Stp where
  what : Int
  name : List UInt8
  to : List UInt8
  data : List UInt8
structure Fl where
  name : List UInt8
  data : List UInt8
  safe : Nat
def LOG : List UInt8 := [108, 111, 103]
def LOG1 : List UInt8 := [108, 111, 103, 46, 49]
def LOG2 : List UInt8 := [108, 111, 103, 46, 50]
abbrev sApp (n d : List UInt8) : Stp := ⟨1, n, [], d⟩
abbrev sSync (n : List UInt8) : Stp := ⟨2, n, [], []⟩
abbrev sRen (n t : List UInt8) : Stp := ⟨3, n, t, []⟩
end Go.Proofs.YtapabahhfanmmaaGreatDoor
/- Numbers are put behind a text, whatever mark its row bears. -/
namespace Go.Proofs.YtapabahhfanmmaaGreatDoor
open Go.RowKit

abbrev obM (v : Value) : List Nat := v.ownBlock.toList
theorem fr_grown {S : List Nat} {a b c : World} {row : Option Nat} (h : Fr S a b) (k : b.grownBy c row) (hs : ∀ g, row = some g → g ∈ S ∨ a.heap.size ≤ g) : Fr S a c :=
  ⟨k.os.trans h.os, k.tape.trans h.tape, k.output.trans h.output, Nat.le_trans h.size k.size, fun i hi hn => (k.block i (Nat.lt_of_lt_of_le hi h.size) (fun e => by
    rcases hs i e.symm with h1 | h1
    · exact hn h1
    · omega)).trans (h.block i hi hn)⟩
structure ApM (w : World) (base : Nat) (tv : Value) (l : List UInt8) (v : Value) (wr : World) : Prop where
  own : ownM wr base v l
  fr : Fr (obM tv) w wr
  blk : v.ownBlock = tv.ownBlock ∨ ∃ b, v.ownBlock = some b ∧ w.heap.size ≤ b
theorem ApM.start {w : World} {base : Nat} {tv : Value} {l : List UInt8} (h : ownM w base tv l) : ApM w base tv l tv w := ⟨h, Fr.refl _ _, Or.inl rfl⟩
theorem ApM.next {w : World} {base : Nat} {tv : Value} {l m : List UInt8} {v v' : Value} {wr w2 w3 : World} (h : ApM w base tv l v wr) (hf : Fr [] wr w2) (hown : ownM w3 base v' (l ++ m)) (hg : w2.grownBy w3 v.ownBlock)
    (hb : v'.ownBlock = v.ownBlock ∨ ∃ b, v'.ownBlock = some b ∧ w2.heap.size ≤ b) : ApM w base tv (l ++ m) v' w3 := by
  have hs := h.fr.size
  have hs2 := hf.size
  refine ⟨hown, fr_grown (h.fr.then0 hf) hg (fun g hg => ?_), ?_⟩
  · rcases h.blk with e | ⟨b, e, hb⟩
    · exact Or.inl (by rw [e] at hg; simp [obM, hg])
    · rw [e] at hg; cases hg; exact Or.inr hb
  · rcases hb with e | ⟨b, e, hb⟩
    · rw [e]; exact h.blk
    · exact Or.inr ⟨b, e, by omega⟩
theorem new_byteM (x : Int) (b : UInt8) (hb : byteV b = .int .u8 x) (W : World) (j : Nat) (u : Value) (hu : (bytesV [b])[j]? = some u) : (W.alloc (.cells #[.int .u8 x] 5)).cell? ((⟨W.heap.size, 0, none⟩ : Addr).add j) = some u := by
  have hj : j = 0 := by
    have := (List.getElem?_eq_some_iff.1 hu).1
    simp [bytesV] at this
    exact this
  subst hj
  rw [Addr.add_lit, cell_of_heap (hp_new W _), ← hb]
  simpa [bytesV] using hu

set_option maxRecDepth 100000 in
set_option maxHeartbeats 2000000 in
theorem appendM_any (base nb no nc : Nat) (tv : Value) (l : List UInt8) (ns : List Int) (w : World) (hown : ownM w base tv l) (hns : ∀ n ∈ ns, 0 ≤ n ∧ n ≤ 1000000000) (hc : ∀ j (h : j < ns.length), w.cell? ⟨nb, no + j, none⟩ = some (ii ns[j]))
    (hnb : tv.ownBlock ≠ some nb) (hl : l.length ≤ 100000) (hnl : ns.length ≤ 10000) (hbw : base ≤ w.heap.size) (hnw : nb < w.heap.size) :
    Calls Tryz.prog 79 #[tv, .slice (some ⟨nb, no, none⟩) ns.length nc] w fun e w' =>
      ∃ v, e = .returned v ∧ ApM w base tv (l ++ flatB ns) v w' := by
  have HC := (show Hid _ from hc)
  have HNS := (show Hid _ from hns)
  have HOW : Hid (ownM w base tv l) := hown
  clear hc hns hown
  have HBW := (show Hid _ from hbw)
  have HNB : Hid (∀ (wr : World) (v : Value) (m : List UInt8), ApM w base tv m v wr → ∀ j (h : j < ns.length), wr.cell? ⟨nb, no + j, none⟩ = some (ii ns[j])) := fun wr v m hA j hj => by
    rw [hA.fr.cell nb _ hnw (by simp [obM]; exact hnb)]
    exact HC.out j hj
  go_enter Tryz.func79, Tryz.ntmps79
  go_wp2_with fail
  go_loopw [0, 9] (fun v i wr => ∃ k : Nat, k ≤ ns.length ∧ i = .int .i64 k ∧ ApM w base tv (l ++ flatB (ns.take k)) v wr) (fun _ i _ => ns.length - (intOf i).toNat)
  case atStart => exact ⟨0, Nat.zero_le _, rfl, by rw [List.take_zero, flatB_nil, List.append_nil]; exact ApM.start HOW.out⟩
  case round =>
    obtain ⟨k, hk, rfl, hA⟩ := hrel
    by_cases hlt : k < ns.length
    · have hlti : (k : Int) < (ns.length : Int) := by omega
      have hcell := HNB.out wr _ _ hA k hlt
      obtain ⟨n0, hn0, hn1⟩ : ∃ n0 : Nat, ns[k] = (n0 : Int) ∧ n0 ≤ 1000000000 := by
        have := HNS.out ns[k] (List.getElem_mem hlt)
        exact ⟨ns[k].toNat, by omega, by omega⟩
      have hlen : (l ++ flatB (ns.take k)).length ≤ 150000 := by
        have := flatB_len (ns.take k) (fun n hn => (HNS.out n (List.mem_of_mem_take hn)).2)
        rw [List.length_append]
        simp at this
        omega
      have HFL : Hid (l ++ flatB (ns.take (k + 1)) = (l ++ flatB (ns.take k)) ++ numB n0) := by
        show _ = _
        rw [List.take_succ_eq_append_getElem hlt, flatB_append, hn0, List.append_assoc]
        simp [flatB]
      rw [hn0] at hcell
      obtain ⟨L, hL⟩ : ∃ L, L = l ++ flatB (ns.take k) := ⟨_, rfl⟩
      rw [← hL] at hA hlen HFL
      have HA := (show Hid _ from hA)
      clear hL hn0 hA
      go_wp2_with fail
      obtain ⟨wo, hwo⟩ : ∃ x, x = wr := ⟨_, rfl⟩
      rw [← hwo] at HA ⊢
      clear hwo hcell
      go_loopw [0, 6] (fun v i wr => ∃ (m : Nat) (pre : List UInt8), i = .int .i64 m ∧ m ≤ 1000000000 ∧ pre.length ≤ 10 ∧ Hid (pre ++ numB m = numB n0) ∧ ApM w base tv (L ++ pre) v wr) (fun _ i _ => (intOf i).toNat)
      case atStart => exact ⟨n0, [], rfl, hn1, by simp, rfl, by rw [List.append_nil]; exact HA.out⟩
      case round =>
        obtain ⟨m, pre, rfl, hm, hpl, hpre, hA⟩ := hrel
        by_cases hbig : 128 ≤ m
        · have hbi : ¬ (m : Int) < 128 := by omega
          have hbj : (128 : Int) ≤ (m : Int) := by omega
          obtain ⟨q, hq⟩ : ∃ q : Nat, (m : Int) % 128 = q := ⟨m % 128, by omega⟩
          have hq2 : q < 128 := by omega
          have hor := or128 q hq2
          have HA := (show Hid _ from hA)
          clear hA
          have HO2 : Hid (ownM (wr.alloc (.cells #[.int .u8 ((q : Int) + 128)] 5)) base u0 (L ++ pre)) := HA.out.own.fr ((Fr.refl [] wr).alloc _) (by simp)
          have HBV : Hid (byteV (UInt8.ofNat (q + 128)) = .int .u8 ((q : Int) + 128)) := by show _ = _; rw [show q = m % 128 by omega, byte_more]; push_cast; rfl
          have hws := HA.out.fr.size
          have hlp : (L ++ pre).length ≤ 160000 := by rw [List.length_append]; omega
          have HQ := (show Hid _ from hq)
          go_wp2_with (at_builtin; refine wpList_appendM rfl _ _ rfl base u0 (L ++ pre) [UInt8.ofNat (q + 128)] rfl HO2.out ⟨wr.heap.size, 0, none⟩ 1 rfl (new_byteM _ _ HBV.out wr) (by simp; omega) (by simp; omega) ?_; intro v' w3 hown3 hgrow hat3)
          go_roundw
          case rel =>
            have hqm : q = m % 128 := by have := HQ.out; omega
            refine ⟨m / 128, pre ++ [UInt8.ofNat (q + 128)], by go_num, by omega, ?_, ?_, ?_⟩
            · have h1 : (pre ++ numB m).length ≤ 5 := by rw [hpre.out]; exact numB_len 5 n0 (by omega) (by omega)
              have h2 := numB_len_pos m
              rw [List.length_append] at h1 ⊢
              simp
              omega
            · show pre ++ [UInt8.ofNat (q + 128)] ++ numB (m / 128) = numB n0
              rw [← hpre.out, numB_big (n := m) (by omega), hqm, List.append_assoc]
              rfl
            · rw [← List.append_assoc]
              exact HA.out.next ((Fr.refl [] wr).alloc _) hown3 hgrow hat3
          case measure => simp [intOf]; omega
        · have hbi : (m : Int) < 128 := by omega
          have HA := (show Hid _ from hA)
          clear hA
          have HO2 : Hid (ownM (wr.alloc (.cells #[.int .u8 (m : Int)] 5)) base u0 (L ++ pre)) := HA.out.own.fr ((Fr.refl [] wr).alloc _) (by simp)
          have HBV : Hid (byteV (UInt8.ofNat m) = .int .u8 (m : Int)) := byte_last m (by omega)
          have hws := HA.out.fr.size
          have hlp : (L ++ pre).length ≤ 160000 := by rw [List.length_append]; omega
          go_wp2_with (at_builtin; refine wpList_appendM rfl _ _ rfl base u0 (L ++ pre) [UInt8.ofNat m] rfl HO2.out ⟨wr.heap.size, 0, none⟩ 1 rfl (new_byteM _ _ HBV.out wr) (by simp; omega) (by simp; omega) ?_; intro v' w3 hown3 hgrow hat3)
          go_roundw
          case rel =>
            refine ⟨k + 1, hlt, by go_num, ?_⟩
            rw [HFL.out]
            have h1 : numB n0 = pre ++ [UInt8.ofNat m] := by rw [← hpre.out, numB_small (by omega)]
            rw [h1, ← List.append_assoc]
            exact HA.out.next ((Fr.refl [] wr).alloc _) hown3 hgrow hat3
          case measure => simp [intOf]; omega
    · have hlti : ¬ (k : Int) < (ns.length : Int) := by omega
      rw [List.take_of_length_le (by omega)] at hA
      have HA := (show Hid _ from hA)
      clear hA
      go_wp2_with fail
      go_ret
      exact ⟨_, rfl, HA.out⟩
end Go.Proofs.YtapabahhfanmmaaGreatDoor
/- The number that a text begins with. -/
namespace Go.Proofs.YtapabahhfanmmaaGreatDoor
open Go.RowKit

theorem fst_more {l : List UInt8} {k S b : Nat} (h1 : k < l.length) (h2 : k < 5) (hb : (l[k]'h1).toNat = b) (hm : 128 ≤ b) : fstT (5 - k) k S (l.drop k) = fstT (5 - (k + 1)) (k + 1) (S + b % 128 * 128 ^ k) (l.drop (k + 1)) := by
  rw [List.drop_eq_getElem_cons h1, show 5 - k = (5 - (k + 1)) + 1 by omega]
  show (if 128 ≤ (l[k]'h1).toNat then _ else _) = _
  rw [hb, if_pos hm]
theorem fst_last {l : List UInt8} {k S b : Nat} (h1 : k < l.length) (h2 : k < 5) (hb : (l[k]'h1).toNat = b) (hm : ¬ 128 ≤ b) : fstT (5 - k) k S (l.drop k) = if (b = 0 ∧ 0 < k) ∨ 1000000000 < S + b * 128 ^ k then (0, 0) else (S + b * 128 ^ k, k + 1) := by
  rw [List.drop_eq_getElem_cons h1, show 5 - k = (5 - (k + 1)) + 1 by omega]
  show (if 128 ≤ (l[k]'h1).toNat then _ else if ((l[k]'h1).toNat = 0 ∧ 0 < k) ∨ _ then _ else _) = _
  rw [hb, if_neg hm, Nat.mod_eq_of_lt (by omega)]
theorem fst_end {l : List UInt8} {k S : Nat} (h : ¬ (k < l.length ∧ k < 5)) : fstT (5 - k) k S (l.drop k) = (0, 0) := by
  by_cases h5 : k < 5
  · rw [List.drop_eq_nil_of_le (by omega), show 5 - k = (5 - (k + 1)) + 1 by omega]; rfl
  · rw [show 5 - k = 0 by omega]; rfl
theorem or_wrap (S b k : Nat) (hS : S < 128 ^ k) (hk : k < 5) : bits .or .u64 (S : Int) (IntKind.u64.wrap ((b : Int) % 128 * 2 ^ (7 * k))) = ((S + b % 128 * 128 ^ k : Nat) : Int) := by
  have h2 : (128 ^ k : Nat) = 2 ^ (7 * k) := by rw [Nat.pow_mul]
  have hp : 128 ^ k ≤ 128 ^ 4 := Nat.pow_le_pow_right (by omega) (by omega)
  have h3 : b % 128 * 128 ^ k ≤ 127 * 128 ^ 4 := Nat.mul_le_mul (by omega) hp
  have h4 : ((b : Int) % 128 * 2 ^ (7 * k)) = ((b % 128 * 128 ^ k : Nat) : Int) := by rw [h2]; push_cast; rfl
  rw [h4, IntKind.wrap_u64, Int.emod_eq_of_lt (by omega) (by omega)]
  exact or_shift S (b % 128) k hS (by omega) hk
theorem sum_bd {S b k : Nat} (hS : S < 128 ^ k) (hk : k < 5) : S + b % 128 * 128 ^ k < 128 ^ (k + 1) ∧ S + b % 128 * 128 ^ k < 34359738368 := by
  have hp : 128 ^ (k + 1) ≤ 128 ^ 5 := Nat.pow_le_pow_right (by omega) (by omega)
  have h3 : b % 128 * 128 ^ k ≤ 127 * 128 ^ k := Nat.mul_le_mul (by omega) (Nat.le_refl _)
  rw [Nat.pow_succ] at hp ⊢
  omega

set_option maxRecDepth 100000 in
set_option maxHeartbeats 2000000 in
theorem first_any (l : List UInt8) (w : World) (hl : l.length ≤ 1000000) :
    Calls Tryz.prog 170 #[.string ⟨l.toArray⟩] w fun e w' =>
      e = .returned (.tuple #[.int .i64 (firstT l).1, .int .i64 (firstT l).2]) ∧ Fr [] w w' := by
  obtain ⟨tx, htx⟩ : ∃ tx : ByteArray, tx = ⟨l.toArray⟩ := ⟨_, rfl⟩
  have hsz : tx.size = l.length := by rw [htx]; rfl
  have HG : Hid (∀ k (h1 : k < l.length) (h2 : k < tx.size), (tx[k]'h2).toNat = (l[k]'h1).toNat) := fun k h1 h2 => by subst htx; rfl
  rw [← htx]
  obtain ⟨F, hF⟩ : ∃ F, firstT l = F := ⟨_, rfl⟩
  rw [hF]
  have HF0 := (show Hid _ from hF)
  clear htx hF
  go_enter Tryz.func170, Tryz.ntmps170
  go_wp2_with fail
  all_goals
    go_loopw [4, 10] (fun s i wr => ∃ k S : Nat, k ≤ 5 ∧ k ≤ l.length ∧ i = .int .i64 k ∧ s = .int .u64 S ∧ S < 128 ^ k ∧ Hid (F = fstT (5 - k) k S (l.drop k)) ∧ w = wr) (fun _ i _ => 5 - (intOf i).toNat)
    case atStart => exact ⟨0, 0, by omega, by omega, rfl, rfl, by omega, HF0.out.symm, rfl⟩
    case round =>
      obtain ⟨k, S, hk5, hkl, rfl, rfl, hS, HF, rfl⟩ := hrel
      by_cases hlt : k < l.length ∧ k < 5
      · obtain ⟨h1, h2⟩ := hlt
        have h1t : k < tx.size := by omega
        obtain ⟨b, hb'⟩ : ∃ b : Nat, (l[k]'h1).toNat = b := ⟨_, rfl⟩
        have hb : (tx[k]'h1t).toNat = b := (HG.out k h1 h1t).trans hb'
        have hb2 : b < 256 := by rw [← hb']; exact (l[k]'h1).toNat_lt
        have hor := or_wrap S b k hS h2
        have hsb := sum_bd (b := b) hS h2
        obtain ⟨S', hS'⟩ : ∃ S' : Nat, S' = S + b % 128 * 128 ^ k := ⟨_, rfl⟩
        rw [← hS'] at hor hsb
        have HB := (show Hid _ from hb')
        have HS' := (show Hid _ from hS')
        clear hb' hS'
        by_cases hmore : 128 ≤ b
        · have hmi : ¬ (b : Int) < 128 := by omega
          go_wp2_with fail
          go_roundw
          case rel => exact ⟨k + 1, S', by omega, by omega, by go_num, rfl, hsb.1, (show Hid _ from by show _ = _; rw [HF.out, fst_more h1 h2 HB.out hmore, HS'.out]), trivial⟩
          case measure => simp [intOf]; omega
        · have hmi : (b : Int) < 128 := by omega
          have HL := fst_last (S := S) h1 h2 HB.out hmore
          have hS2 : S' = S + b * 128 ^ k := by rw [HS'.out, Nat.mod_eq_of_lt (by omega)]
          rw [← HF.out, ← hS2] at HL
          have HL := (show Hid _ from HL)
          clear hS2
          by_cases hbig : 1000000000 < S'
          · have hbi : (1000000000 : Int) < (S' : Int) := by omega
            have hF0 : F = (0, 0) := by rw [HL.out, if_pos (Or.inr hbig)]
            subst hF0
            go_wp2_with fail
            all_goals
              go_ret2
              exact ⟨rfl, Fr.refl _ _⟩
          · have hbi : ¬ (1000000000 : Int) < (S' : Int) := by omega
            by_cases hb0 : b = 0
            · by_cases hk0 : k = 0
              · have hF0 : F = (S', k + 1) := by rw [HL.out, if_neg (by omega)]
                have hki : ¬ (0 : Int) < (k : Int) := by omega
                have hbt : ((b : Int) == 0) = true := by simpa using hb0
                subst hF0
                clear hb0 hk0
                go_wp2_with fail
                go_ret2
                exact ⟨rfl, Fr.refl _ _⟩
              · have hF0 : F = (0, 0) := by rw [HL.out, if_pos (Or.inl ⟨hb0, by omega⟩)]
                have hki : (0 : Int) < (k : Int) := by omega
                have hbt : ((b : Int) == 0) = true := by simpa using hb0
                subst hF0
                clear hb0
                go_wp2_with fail
                go_ret2
                exact ⟨rfl, Fr.refl _ _⟩
            · have hF0 : F = (S', k + 1) := by rw [HL.out, if_neg (by omega)]
              have hb0b : ((b : Int) == 0) = false := by simpa using hb0
              have hb0i : ¬ (b : Int) = 0 := by omega
              subst hF0
              go_wp2_with fail
              go_ret2
              exact ⟨by first | rfl | (congr 3; push_cast; rfl), Fr.refl _ _⟩
      · have hF0 : F = (0, 0) := by rw [HF.out]; exact fst_end hlt
        subst hF0
        go_wp2_with fail
        go_ret2
        exact ⟨rfl, Fr.refl _ _⟩
end Go.Proofs.YtapabahhfanmmaaGreatDoor
/- The check of a text. -/
namespace Go.Proofs.YtapabahhfanmmaaGreatDoor
open Go.RowKit

theorem u32_bd (op : BinOp) (a b : Int) : 0 ≤ bits op .u32 a b ∧ bits op .u32 a b ≤ 4294967295 := by
  have : ∃ x, bits op .u32 a b = IntKind.u32.wrap x := ⟨_, rfl⟩
  obtain ⟨x, hx⟩ := this
  rw [hx, IntKind.wrap_u32]
  omega
/-- One bit. -/
def crc1 (Z : Int) : Int := bits .xor .u32 (Z / 2) (3988292384 * bits .and .u32 Z 1 % 4294967296)
def crcN : Nat → Int → Int
  | 0, Z => Z
  | n + 1, Z => crc1 (crcN n Z)
theorem crcN_bd : ∀ (n : Nat) (Z : Int), 0 ≤ Z ∧ Z ≤ 4294967295 → 0 ≤ crcN n Z ∧ crcN n Z ≤ 4294967295
  | 0, _, h => h
  | n + 1, Z, _ => by show 0 ≤ crc1 (crcN n Z) ∧ crc1 (crcN n Z) ≤ 4294967295; unfold crc1; exact u32_bd _ _ _
/-- The bytes of a text, one after the other. -/
def crcTo (l : List UInt8) : Nat → Int
  | 0 => 4294967295
  | k + 1 => crcN 8 (bits .xor .u32 (crcTo l k) (((l[k]?.map UInt8.toNat).getD 0 : Nat) : Int))
theorem crcTo_bd (l : List UInt8) : ∀ k, 0 ≤ crcTo l k ∧ crcTo l k ≤ 4294967295
  | 0 => by show (0 : Int) ≤ 4294967295 ∧ (4294967295 : Int) ≤ 4294967295; omega
  | k + 1 => crcN_bd 8 _ (u32_bd _ _ _)
def crcI (l : List UInt8) : Int := bits .xor .u32 IntKind.u32.max (crcTo l l.length)
def crcB (l : List UInt8) : List UInt8 := [UInt8.ofNat (crcI l % 256).toNat, UInt8.ofNat (crcI l / 256 % 256).toNat, UInt8.ofNat (crcI l / 65536 % 256).toNat, UInt8.ofNat (crcI l / 16777216 % 256).toNat]
theorem crcB_len (l : List UInt8) : (crcB l).length = 4 := rfl
theorem byte_of (c : Int) : Value.int .u8 (c % 256) = .int .u8 ((UInt8.ofNat (c % 256).toNat).toNat : Int) := by
  have : (UInt8.ofNat (c % 256).toNat).toNat = (c % 256).toNat := by simp [UInt8.toNat_ofNat']; omega
  rw [this]
  congr 1
  omega
theorem four_bytes (c0 c1 c2 c3 : Int) (W : World) : (convert 168 9 (.slice (some ⟨W.heap.size, 0, none⟩) 4 4)).run Tryz.prog (W.alloc (.cells #[.int .u8 (c0 % 256), .int .u8 (c1 % 256), .int .u8 (c2 % 256), .int .u8 (c3 % 256)] 5)) =
    .ok (.string ⟨[UInt8.ofNat (c0 % 256).toNat, UInt8.ofNat (c1 % 256).toNat, UInt8.ofNat (c2 % 256).toNat, UInt8.ofNat (c3 % 256).toNat].toArray⟩) (W.alloc (.cells #[.int .u8 (c0 % 256), .int .u8 (c1 % 256), .int .u8 (c2 % 256), .int .u8 (c3 % 256)] 5)) := by
  refine run_convert_bytes_back _ 168 9 5 ⟨W.heap.size, 0, none⟩ 4 [UInt8.ofNat (c0 % 256).toNat, UInt8.ofNat (c1 % 256).toNat, UInt8.ofNat (c2 % 256).toNat, UInt8.ofNat (c3 % 256).toNat] Tryz.underlying168 Tryz.underlying5 Tryz.underlying9 (fun j hj => ?_)
  rw [Addr.add_lit, Nat.zero_add, cell_of_heap (hp_new W _)]
  have : j = 0 ∨ j = 1 ∨ j = 2 ∨ j = 3 := by simp at hj; omega
  rcases this with rfl | rfl | rfl | rfl
  · exact congrArg some (byte_of c0)
  · exact congrArg some (byte_of c1)
  · exact congrArg some (byte_of c2)
  · exact congrArg some (byte_of c3)

set_option maxRecDepth 100000 in
set_option maxHeartbeats 2000000 in
theorem check_any (l : List UInt8) (w : World) (hl : l.length ≤ 1000000) :
    Calls Tryz.prog 84 #[.string ⟨l.toArray⟩] w fun e w' => e = .returned (.string ⟨(crcB l).toArray⟩) ∧ Fr [] w w' := by
  obtain ⟨tx, htx⟩ : ∃ tx : ByteArray, tx = ⟨l.toArray⟩ := ⟨_, rfl⟩
  have hsz : tx.size = l.length := by rw [htx]; rfl
  have HG : Hid (∀ k (h1 : k < l.length) (h2 : k < tx.size), (tx[k]'h2).toNat = (l[k]'h1).toNat) := fun k h1 h2 => by subst htx; rfl
  rw [← htx]
  clear htx
  go_enter Tryz.func84, Tryz.ntmps84
  go_wp2_with fail
  go_loopw [3, 7] (fun s i wr => ∃ (k : Nat) (S : Int), k ≤ l.length ∧ i = .int .i64 k ∧ s = .int .u32 S ∧ (0 ≤ S ∧ S ≤ 4294967295) ∧ Hid (S = crcTo l k) ∧ w = wr) (fun _ i _ => l.length - (intOf i).toNat)
  case atStart => exact ⟨0, 4294967295, by omega, rfl, rfl, by omega, rfl, rfl⟩
  case round =>
    obtain ⟨k, S, hk, rfl, rfl, hS, HSE, rfl⟩ := hrel
    by_cases hlt : k < l.length
    · have h1t : k < tx.size := by omega
      obtain ⟨b, hb'⟩ : ∃ b : Nat, (l[k]'hlt).toNat = b := ⟨_, rfl⟩
      have hb : (tx[k]'h1t).toNat = b := (HG.out k hlt h1t).trans hb'
      have hb2 : b < 256 := by rw [← hb']; exact (l[k]'hlt).toNat_lt
      have HNX : Hid (crcTo l (k + 1) = crcN 8 (bits .xor .u32 S (b : Int))) := by
        show crcN 8 (bits .xor .u32 (crcTo l k) (((l[k]?.map UInt8.toNat).getD 0 : Nat) : Int)) = _
        rw [List.getElem?_eq_getElem hlt, ← HSE.out]
        show crcN 8 (bits .xor .u32 S (((l[k]'hlt).toNat : Nat) : Int)) = _
        rw [hb']
      clear hb'
      go_wp2_with fail
      go_loopw [3, 16] (fun s i wr => ∃ (j : Nat) (Z : Int), j ≤ 8 ∧ i = .int .i64 j ∧ s = .int .u32 Z ∧ (0 ≤ Z ∧ Z ≤ 4294967295) ∧ Hid (Z = crcN j (bits .xor .u32 S (b : Int))) ∧ w = wr) (fun _ i _ => 8 - (intOf i).toNat)
      case atStart => exact ⟨0, _, by omega, rfl, rfl, u32_bd _ _ _, rfl, rfl⟩
      case round =>
        obtain ⟨j, Z, hj, rfl, rfl, hZ, HZE, rfl⟩ := hrel
        by_cases hj8 : j < 8
        · have hj8i : (j : Int) < 8 := by omega
          go_wp2_with fail
          go_roundw
          case rel => exact ⟨j + 1, crc1 Z, by omega, by go_num, rfl, u32_bd _ _ _, (by show crc1 Z = crc1 (crcN j _); rw [HZE.out]), trivial⟩
          case measure => simp [intOf]; omega
        · have hj8i : ¬ (j : Int) < 8 := by omega
          have hj9 : j = 8 := by omega
          have HJ := (show Hid _ from hj9)
          clear hj9
          go_wp2_with fail
          go_roundw
          case rel => exact ⟨k + 1, Z, hlt, by go_num, rfl, hZ, (by show Z = _; rw [HNX.out, HZE.out, HJ.out]), trivial⟩
          case measure => simp [intOf]; omega
    · have hke : k = l.length := by omega
      have HC : Hid (crcI l = bits .xor .u32 IntKind.u32.max S) := by show bits .xor .u32 IntKind.u32.max (crcTo l l.length) = _; rw [HSE.out, hke]
      have hc4 := four_bytes (bits .xor .u32 IntKind.u32.max S) (bits .xor .u32 IntKind.u32.max S / 256) (bits .xor .u32 IntKind.u32.max S / 65536) (bits .xor .u32 IntKind.u32.max S / 16777216) w
      clear hke
      go_wp2_with fail
      go_ret
      exact ⟨by unfold crcB; rw [HC.out]; rfl, (Fr.refl _ _).alloc _⟩
end Go.Proofs.YtapabahhfanmmaaGreatDoor
/- A frame. -/
namespace Go.Proofs.YtapabahhfanmmaaGreatDoor
open Go.RowKit

theorem two_bytes (c0 c1 : UInt8) (W : World) : (convert 168 9 (.slice (some ⟨W.heap.size, 0, none⟩) 2 2)).run Tryz.prog (W.alloc (.cells #[.int .u8 c0.toNat, .int .u8 c1.toNat] 5)) =
    .ok (.string ⟨[c0, c1].toArray⟩) (W.alloc (.cells #[.int .u8 c0.toNat, .int .u8 c1.toNat] 5)) := by
  refine run_convert_bytes_back _ 168 9 5 ⟨W.heap.size, 0, none⟩ 2 [c0, c1] Tryz.underlying168 Tryz.underlying5 Tryz.underlying9 (fun j hj => ?_)
  rw [Addr.add_lit, Nat.zero_add, cell_of_heap (hp_new W _)]
  have : j = 0 ∨ j = 1 := by simp at hj; omega
  rcases this with rfl | rfl <;> rfl

set_option maxRecDepth 100000 in
set_option maxHeartbeats 2000000 in
theorem head_any (s : UInt8) (w : World) :
    Calls Tryz.prog 83 #[.int .u8 s.toNat] w fun e w' => e = .returned (.string ⟨[75, s].toArray⟩) ∧ Fr [] w w' := by
  have h2 := two_bytes 75 s w
  have h75 : ((75 : UInt8).toNat : Int) = 75 := rfl
  rw [h75] at h2
  clear h75
  go_enter Tryz.func83, Tryz.ntmps83
  go_wp2_with fail
  go_ret
  exact ⟨rfl, (Fr.refl _ _).alloc _⟩
/-- '[]byte(s)'. -/
theorem conv_own (l : List UInt8) (w : World) (hl : l.length ≤ 1000000000) : ∃ v w', (convert 9 168 (.string ⟨l.toArray⟩)).run Tryz.prog w = .ok v w' ∧ ownM w' w.heap.size v l ∧ v.ownBlock = some w.heap.size ∧ Fr [] w w' := by
  have hr := Lib.run_convert_string_bytes (P := Tryz.prog) w 9 168 5 ⟨l.toArray⟩ Tryz.underlying9 Tryz.underlying168 Tryz.underlying5
  have hn := Lib.bytesWorld_at_new w 5 ⟨l.toArray⟩
  have hsz : (⟨l.toArray⟩ : ByteArray).size = l.length := rfl
  have hge := grownCap_ge w l.length 0 5
  have hcm : grownCap w l.length 0 5 ≤ maxLen := grownCap_le_maxLen w l.length 0 5 (by unfold maxLen; omega)
  have hcs : (Lib.bytesCells w 5 ⟨l.toArray⟩).size = grownCap w l.length 0 5 := by
    simp [Lib.bytesCells, hsz]
    omega
  refine ⟨_, _, hr, Or.inr ⟨w.heap.size, grownCap w l.length 0 5, rfl, Nat.le_refl _, by rw [Lib.bytesWorld_size]; omega, hge, hcm, fun j hj => ⟨?_, ?_⟩, fun j hj => ?_⟩, rfl, ⟨rfl, rfl, rfl, by rw [Lib.bytesWorld_size]; omega, fun i hi _ => Lib.bytesWorld_at_old w _ _ i hi⟩⟩
  · simp only [World.cell?, hn]
    rw [Array.getElem?_eq_getElem (by rw [hcs]; exact hj)]
    rfl
  · simp only [World.frozen?, hn, hcs]
    simp
    omega
  · have := Lib.bytesWorld_cell w 5 ⟨l.toArray⟩ j (by rw [hsz]; exact hj)
    rw [this]
    simp [byteV, List.getD_eq_getElem?_getD, hj]
/-- A frame's bytes. -/
def preB (s : UInt8) (c : List UInt8) : List UInt8 := [75, s] ++ numB c.length ++ c
def frameB (s : UInt8) (c : List UInt8) : List UInt8 := preB s c ++ crcB (preB s c)

set_option maxRecDepth 100000 in
set_option maxHeartbeats 2000000 in
theorem frameTell_any (s : UInt8) (c : List UInt8) (w : World) (hc : c.length ≤ 100000) :
    Calls Tryz.prog 44 #[.int .u8 s.toNat, .string ⟨c.toArray⟩] w fun e w' => e = .returned (.string ⟨(frameB s c).toArray⟩) ∧ Fr [] w w' := by
  obtain ⟨cx, hcx⟩ : ∃ cx : ByteArray, cx = ⟨c.toArray⟩ := ⟨_, rfl⟩
  have hsz : cx.size = c.length := by rw [hcx]; rfl
  rw [← hcx]
  have HCX := (show Hid _ from hcx)
  clear hcx
  go_enter Tryz.func44, Tryz.ntmps44
  go_wp2_with fail
  refine Calls.mono (head_any s w) ?_
  rintro e w1 ⟨rfl, hf1⟩
  dsimp only
  obtain ⟨v2, w2, hcv, hown2, hb2, hf2⟩ := conv_own [75, s] w1 (by simp)
  obtain ⟨hd, hhd⟩ : ∃ hd : ByteArray, hd = ⟨[75, s].toArray⟩ := ⟨_, rfl⟩
  rw [← hhd] at hcv ⊢
  clear hhd
  have HO2 : Hid (ownM w2 w1.heap.size v2 [75, s]) := hown2
  clear hown2
  have hs12 : w1.heap.size < w2.heap.size := (HO2.out.base hb2).2
  go_wp2_with fail
  have hAp := appendM_any w1.heap.size w2.heap.size 0 1 v2 [75, s] [(c.length : Int)] (w2.alloc (.cells #[ii (c.length : Int)] 3)) (HO2.out.fr ((Fr.refl [] w2).alloc _) (by simp)) (fun n hn => by
      have : n = (c.length : Int) := by simpa using hn
      omega)
    (fun j hj => by
      have hj' : j = 0 := by simpa using hj
      subst hj'
      rw [cell_of_heap (hp_new w2 _)]
      rfl)
    (by rw [hb2]; intro e; have := Option.some.inj e; omega) (by simp) (by simp) (by simp; omega) (by simp)
  refine Calls.mono hAp ?_
  rintro e w3 ⟨v3, rfl, hA3⟩
  dsimp only
  clear hAp
  have hf3 : Fr [] w1 w3 := (hf2.alloc _).trans hA3.fr (fun i hi => Or.inr (by
    have : v2.ownBlock = some i := by simpa [obM] using hi
    rw [hb2] at this
    have := Option.some.inj this
    omega))
  have hfl : flatB [(c.length : Int)] = numB c.length := by simp [flatB]
  have hO3 := hA3.own
  rw [hfl] at hO3
  have hln : ([75, s] ++ numB c.length).length ≤ 10 := by
    have := numB_len 5 c.length (by omega) (by omega)
    rw [List.length_append]
    show 2 + _ ≤ _
    omega
  have HO3 : Hid (ownM w3 w1.heap.size v3 ([75, s] ++ numB c.length)) := hO3
  have hs13 := hf3.size
  clear hA3 hO3 hfl
  go_wp2_with (at_builtin; refine wpList_appendS rfl _ _ rfl w1.heap.size v3 ([75, s] ++ numB c.length) c rfl HO3.out (show Value.string cx = _ by rw [HCX.out]) (by omega) hs13 ?_; intro v4 w4 hown4 hgrow4 hat4)
  have hO4 : ownM w4 w1.heap.size v4 (preB s c) := hown4
  have hf4 : Fr [] w1 w4 := fr_grown hf3 hgrow4 (fun g hg => Or.inr (HO3.out.base hg).1)
  have hlp : (preB s c).length ≤ 200000 := by unfold preB; rw [List.length_append]; omega
  have hck := fun w' => check_any (preB s c) w' (by omega)
  have hcb := crcB_len (preB s c)
  have HFB : Hid (frameB s c = preB s c ++ crcB (preB s c)) := rfl
  obtain ⟨P, hP⟩ : ∃ P, P = preB s c := ⟨_, rfl⟩
  rw [← hP] at hO4 hck hcb hlp HFB
  obtain ⟨C, hC⟩ : ∃ C, C = crcB P := ⟨_, rfl⟩
  rw [← hC] at hck hcb HFB
  have HS : ∀ w', Fr [] w4 w' → (fun w' : World => (convert 168 9 v4).run Tryz.prog w' = .ok (.string ⟨P.toArray⟩) w' ∧ Fr [] w4 w') w' := fun w' hf => ⟨(hO4.fr hf (by simp)).string, hf⟩
  have K0 := HS _ (Fr.refl [] w4).drew
  have hPs : (⟨P.toArray⟩ : ByteArray).size = P.length := rfl
  have hCs : (⟨C.toArray⟩ : ByteArray).size = 4 := hcb
  have HCK := (show Hid _ from hck)
  clear hP hC hO4 hown4 hgrow4 hat4 HO3 HO2 hcv hck hb2 hln
  go_region_held (fun w' : World => (convert 168 9 v4).run Tryz.prog w' = .ok (.string ⟨P.toArray⟩) w' ∧ Fr [] w4 w')
    (first | with_reducible exact K0 | with_reducible exact HS _ hfr5)
    (first | (go_at_call 84; refine Calls.mono (HCK.out _) ?_; rintro e w5 ⟨rfl, hf5⟩; have hfr5 : Fr [] w4 w5 := Fr.then0 (And.right (by assumption)) hf5))
  all_goals
    go_wp2_with fail
    go_ret
    refine ⟨?_, (hf1.then0 hf4).then0 hfr5⟩
    rw [HFB.out]
    show Ending.returned (.string (⟨P.toArray⟩ ++ ⟨C.toArray⟩)) = _
    rw [ByteArray.mk_append_mk]
end Go.Proofs.YtapabahhfanmmaaGreatDoor
