import Derived.Test.YtapabahhfanmmaaDoorCNumA
import Derived.Test.YtapabahhfanmmaaDoorCGame2
import Derived.Test.YtapabahhfanmmaaDoorCAdd
import Derived.Test.YtapabahhfanmmaaDoorCTellT
import Derived.Test.YtapabahhfanmmaaDoorCMaybe5
import Derived.Test.YtapabahhfanmmaaDoorCPlay
import Derived.Test.YtapabahhfanmmaaDoorCStart
/- A state is read. -/
namespace Go.Proofs.YtapabahhfanmmaaDoor
open Go.RowKit

def zeroT : T := ⟨0, 0, 0, 0, fun _ => 0, [], fun _ => none⟩
/-- The game as far as it has been read: s numbers of the head, m cells of the board, k people. -/
def rdT (t : T) (s m k : Nat) : T := ⟨if 0 < s then t.turn else 0, if 3 < s then t.next else 0, if 1 < s then t.s0 else 0, if 2 < s then t.s1 else 0, fun j => if j < m then t.bd j else 0, t.us.take k, fun _ => none⟩
theorem zc_game : Tryd.zeroCells64 = (gameL zeroT (.slice none 0 0)).toArray := by kernel_rfl
theorem rd_zero (t : T) (pv : Value) : gameL zeroT pv = gameL (rdT t 0 0 0) pv := by
  unfold gameL
  apply List.map_congr_left
  intro j _
  unfold tcell rdT zeroT
  simp
theorem rd_put (t : T) (s s' m m' : Nat) (pv : Value) (k : Nat) (h : ∀ j, j < 149 → j ≠ k → tcell (rdT t s m 0) pv 0 0 j = tcell (rdT t s' m' 0) pv 0 0 j) : ∀ j, j < 149 → j ≠ k → tcell (rdT t s m 0) pv 0 0 j = tcell (rdT t s' m' 0) pv 0 0 j := h
theorem rd_p0 (t : T) (pv : Value) : ∀ j, j < 149 → j ≠ 0 → tcell (rdT t 0 0 0) pv 0 0 j = tcell (rdT t 1 0 0) pv 0 0 j := fun j _ hn => by
  unfold tcell rdT; simp [hn]
theorem rd_p2 (t : T) (pv : Value) : ∀ j, j < 149 → j ≠ 2 → tcell (rdT t 1 0 0) pv 0 0 j = tcell (rdT t 2 0 0) pv 0 0 j := fun j _ hn => by
  unfold tcell rdT; simp [hn]
theorem rd_p3 (t : T) (pv : Value) : ∀ j, j < 149 → j ≠ 3 → tcell (rdT t 2 0 0) pv 0 0 j = tcell (rdT t 3 0 0) pv 0 0 j := fun j _ hn => by
  unfold tcell rdT; simp [hn]
theorem rd_p1 (t : T) (pv : Value) : ∀ j, j < 149 → j ≠ 1 → tcell (rdT t 3 0 0) pv 0 0 j = tcell (rdT t 4 0 0) pv 0 0 j := fun j _ hn => by
  unfold tcell rdT; simp [hn]
theorem rd_pb (t : T) (pv : Value) (m : Nat) : ∀ j, j < 149 → j ≠ 4 + m → tcell (rdT t 4 m 0) pv 0 0 j = tcell (rdT t 4 (m + 1) 0) pv 0 0 j := fun j _ hn => by
  unfold tcell rdT
  simp only
  split; rfl
  split; rfl
  split; rfl
  split; rfl
  split
  · by_cases h : j - 4 < m
    · rw [if_pos h, if_pos (by omega)]
    · rw [if_neg h, if_neg (by omega)]
  · rfl
theorem rd_pp (t : T) (pv pv' : Value) (k k' : Nat) : ∀ j, j < 149 → j ≠ 148 → tcell (rdT t 4 144 k) pv 0 0 j = tcell (rdT t 4 144 k') pv' 0 0 j := fun j _ hn => by
  unfold tcell rdT
  simp [hn]
theorem rd_end (t : T) (pv : Value) (k : Nat) : ∀ j, j < 149 → tcell (rdT t 4 144 k) pv 0 0 j = tcell t pv 0 0 j := fun j hj => by
  unfold tcell rdT
  simp only
  split; rfl
  split; rfl
  split; rfl
  split; rfl
  split
  · rw [if_pos (by omega)]
  · rfl
theorem gameL_set (t t' : T) (pv pv' : Value) (k : Nat) (v : Value) (hk : k < 149) (he : ∀ j, j < 149 → j ≠ k → tcell t pv 0 0 j = tcell t' pv' 0 0 j) (hv : tcell t' pv' 0 0 k = v) : (gameL t pv).toArray.setIfInBounds k v = (gameL t' pv').toArray := by
  apply Array.ext_getElem?
  intro i
  rw [Array.getElem?_setIfInBounds]
  by_cases e : k = i
  · subst e
    rw [if_pos rfl, if_pos (by simp [gameL]; omega)]
    simp [gameL, List.getElem?_range hk, hv]
  · rw [if_neg e]
    simp only [gameL, List.getElem?_toArray, List.getElem?_map]
    by_cases hi : i < 149
    · rw [List.getElem?_range hi]
      simp only [Option.map_some]
      rw [he i hi (fun h => e h.symm)]
    · rw [List.getElem?_eq_none (by simp; omega)]
      rfl
structure RJ (w0 : World) (l : List UInt8) (rb A : Nat) (n : Nat) (t : T) (pv : Value) (w : World) : Prop where
  rd : RdAt w rb (rdN l false n).1 (rdN l false n).2
  g : w.heap[A]? = some (.cells (gameL t pv).toArray 64)
  fr : Fr [rb, A] w0 w
theorem RJ.cell {w0 : World} {l : List UInt8} {rb A n : Nat} {t : T} {pv : Value} {w : World} (h : RJ w0 l rb A n t pv w) (k : Nat) (hk : k < 149) : w.cell? ⟨A, k, none⟩ = some (tcell t pv 0 0 k) := by
  rw [cell_of_heap h.g]
  simp [gameL, List.getElem?_range hk]
theorem RJ.fz {w0 : World} {l : List UInt8} {rb A n : Nat} {t : T} {pv : Value} {w : World} (h : RJ w0 l rb A n t pv w) (k : Nat) : w.frozen? ⟨A, k, none⟩ = false := frozen_of_heap h.g
theorem RJ.put {w0 : World} {l : List UInt8} {rb A n : Nat} {t t' : T} {pv pv' : Value} {w : World} (h : RJ w0 l rb A n t pv w) (hn : rb ≠ A) (k : Nat) (v : Value) (hk : k < 149) (he : ∀ j, j < 149 → j ≠ k → tcell t pv 0 0 j = tcell t' pv' 0 0 j) (hv : tcell t' pv' 0 0 k = v) : RJ w0 l rb A n t' pv' (w.setCell ⟨A, k, none⟩ v) := by
  refine ⟨⟨?_⟩, ?_, h.fr.setCell _ _ (by simp)⟩
  · rw [Below.heap_setCell _ _ _ _ hn]; exact h.rd.all
  · rw [set_arrR h.g, gameL_set t t' pv pv' k v hk he hv]
theorem RJ.next {w0 : World} {l : List UInt8} {rb A n : Nat} {t : T} {pv : Value} {w : World} (h : RJ w0 l rb A n t pv w) (hn : rb ≠ A) (hl : l.length ≤ 1000000) :
    Calls Tryd.prog 36 #[.pointer (some ⟨rb, 0, none⟩)] w fun e w' => e = .returned (.int .i64 (nth l false n)) ∧ RJ w0 l rb A (n + 1) t pv w' := by
  refine Calls.mono (next_nth rb l false n w h.rd hl) ?_
  rintro e w1 ⟨rfl, h1, h2⟩
  exact ⟨rfl, h1, h2.heap h.g (by simp; exact fun e => hn e.symm), h.fr.trans h2 (by simp)⟩

theorem RJ.unit {w0 : World} {l : List UInt8} {rb A n : Nat} {t : T} {pv : Value} {w : World} (h : RJ w0 l rb A n t pv w) (hn : rb ≠ A) (hl : l.length ≤ 1000000) {u : U} (hu : unitOf (fun f => nth l false (n + f)) = u) :
    Calls Tryd.prog 37 #[.pointer (some ⟨rb, 0, none⟩)] w fun e w' => e = .returned u.val ∧ RJ w0 l rb A (n + 11) t pv w' ∧ Fr [rb] w w' := by
  refine Calls.mono (readUnit_any rb _ _ w h.rd (Nat.le_trans (rdN_len l false n) hl)) ?_
  rintro e w1 ⟨rfl, h1, h2⟩
  rw [rdN_add] at h1
  refine ⟨?_, ⟨h1, h2.heap h.g (by simp; exact fun e => hn e.symm), h.fr.trans h2 (by simp)⟩, h2⟩
  rw [show nth (rdN l false n).1 (rdN l false n).2 = fun f => nth l false (n + f) from funext fun f => nth_add l false n f, hu]
theorem RJ.at148 {w0 : World} {l : List UInt8} {rb A n : Nat} {t : T} {pv : Value} {w : World} (h : RJ w0 l rb A n t pv w) : w.cell? ⟨A, 148, none⟩ = some pv := by
  have := h.cell 148 (by omega)
  simpa [tcell] using this
theorem new_cells (u : U) (W : World) (j : Nat) (v : Value) (hu : u.cells[j]? = some v) : (W.alloc (.cells u.arr 44)).cell? ((⟨W.heap.size, 0, none⟩ : Addr).add j) = some v := by
  rw [Addr.add_lit, Nat.zero_add, cell_of_heap (hp_new W _)]
  simpa using hu

set_option maxRecDepth 100000 in
set_option maxHeartbeats 8000000 in
theorem readState_ok (t : T) (l : List UInt8) (w : World) (hrd : Reads l t) (hl : l.length ≤ 1000000) (hok : GOk t) (hos : OS t) (hw0 : 0 < w.heap.size) :
    Calls Tryd.prog 26 #[.string ⟨l.toArray⟩] w fun e w' => ∃ pb cap, e = .returned (.tuple #[.agg (gameL t (.slice (some ⟨pb, 0, none⟩) t.us.length cap)).toArray, .bool true]) ∧ PRow w' pb cap t.us ∧ w.heap.size ≤ pb ∧ Fr [] w w' := by
  have HNX : Hid (∀ {w0 : World} {rb A n : Nat} {t : T} {pv : Value} {w : World} (x : Int), nth l false n = x → RJ w0 l rb A n t pv w → rb ≠ A → Calls Tryd.prog 36 #[.pointer (some ⟨rb, 0, none⟩)] w fun e w' => e = .returned (.int .i64 x) ∧ RJ w0 l rb A (n + 1) t pv w') := fun x hx h hn => hx ▸ h.next hn hl
  have HRD := (show Hid _ from hrd)
  clear hrd
  go_enter Tryd.func26, Tryd.ntmps26
  go_wp2_with fail
  have hwa : Fr [] w (w.alloc (.cells Tryd.zeroCells64 64)) := (Fr.refl _ _).alloc _
  have hwr := hp_new w (.cells Tryd.zeroCells64 64)
  refine Calls.mono (newReader_any l _) ?_
  rintro e w1 ⟨rb, rfl, hrb, hrd, hf1⟩
  dsimp only
  have hw1 := hwa.then0 hf1
  have hR1 := hf1.heap0 hwr
  have hrl := hrd.lt
  go_wp2_with fail
  obtain ⟨W2, hW2⟩ : ∃ W, W = w1.alloc (.cells Tryd.zeroCells64 64) := ⟨_, rfl⟩
  rw [← hW2]
  obtain ⟨A, hA⟩ : ∃ A, A = w1.heap.size := ⟨_, rfl⟩
  rw [← hA]
  have hne : rb ≠ A := by omega
  have hf2 : Fr [] w1 W2 := by rw [hW2]; exact (Fr.refl _ _).alloc _
  have j0 : RJ W2 l rb A 0 (rdT t 0 0 0) (.slice none 0 0) W2 := ⟨hrd.fr hf2 (by simp), by rw [hA, hW2, hp_new, zc_game, rd_zero t], Fr.refl _ _⟩
  have hR2 := hf2.heap0 hR1
  have hw2 := hw1.then0 hf2
  have hwA : w.heap.size < A := by have := hf1.size; simp at this; omega
  have hwrb : w.heap.size < rb := by simp at hrb; omega
  have HA := (show Hid _ from hA)
  have HRL : Hid (rb < w1.heap.size) := hrl
  have HAL : Hid (w1.heap.size < W2.heap.size) := by show w1.heap.size < W2.heap.size; rw [hW2]; simp
  clear hW2 hA hrb hrd hf1 hwr hR1 hrl hf2 hw1 hwa
  refine Calls.mono (HNX.out _ HRD.out.n0 j0 hne) ?_
  rintro e w3 ⟨rfl, j1⟩
  dsimp only
  have c0 := j1.cell 0 (by omega)
  have z0 := j1.fz 0
  clear j0
  go_wp2_with fail
  have j2 := j1.put (t' := rdT t 1 0 0) (pv' := .slice none 0 0) hne 0 (.int .i64 t.turn) (by omega) (rd_p0 t _) rfl
  obtain ⟨w4, hw4⟩ : ∃ W, W = w3.setCell ⟨A, 0, none⟩ (.int .i64 t.turn) := ⟨_, rfl⟩
  rw [← hw4] at j2 ⊢
  clear hw4 c0 z0 j1
  refine Calls.mono (HNX.out _ HRD.out.n1 j2 hne) ?_
  rintro e w5 ⟨rfl, j3⟩
  dsimp only
  clear j2
  go_wp2_with fail
  refine Calls.mono (HNX.out _ HRD.out.n2 j3 hne) ?_
  rintro e w6 ⟨rfl, j4⟩
  dsimp only
  clear j3
  go_wp2_with fail
  refine Calls.mono (HNX.out _ HRD.out.n3 j4 hne) ?_
  rintro e w7 ⟨rfl, j5⟩
  dsimp only
  clear j4
  have c2 := j5.cell 2 (by omega)
  have c3 := j5.cell 3 (by omega)
  have z2 := j5.fz 2
  have z3 := j5.fz 3
  go_wp2_with fail
  have j6 := (j5.put (t' := rdT t 2 0 0) (pv' := .slice none 0 0) hne 2 (.int .i64 t.s0) (by omega) (rd_p2 t _) rfl).put (t' := rdT t 3 0 0) (pv' := .slice none 0 0) hne 3 (.int .i64 t.s1) (by omega) (rd_p3 t _) rfl
  obtain ⟨w8, hw8⟩ : ∃ W, W = (w7.setCell ⟨A, 2, none⟩ (.int .i64 t.s0)).setCell ⟨A, 3, none⟩ (.int .i64 t.s1) := ⟨_, rfl⟩
  rw [← hw8] at j6 ⊢
  clear hw8 c2 c3 z2 z3 j5
  refine Calls.mono (HNX.out _ HRD.out.n4 j6 hne) ?_
  rintro e w9 ⟨rfl, j7⟩
  dsimp only
  clear j6
  have c1 := j7.cell 1 (by omega)
  have z1 := j7.fz 1
  go_wp2_with fail
  have j8 := j7.put (t' := rdT t 4 0 0) (pv' := .slice none 0 0) hne 1 (.int .i64 t.next) (by omega) (rd_p1 t _) rfl
  obtain ⟨w10, hw10⟩ : ∃ W, W = w9.setCell ⟨A, 1, none⟩ (.int .i64 t.next) := ⟨_, rfl⟩
  rw [← hw10] at j8 ⊢
  clear hw10 c1 z1 j7
  go_loopw [26] (fun i wr => ∃ y : Nat, y ≤ 12 ∧ i = .int .i64 y ∧ RJ W2 l rb A (5 + y * 12) (rdT t 4 (y * 12) 0) (.slice none 0 0) wr) (fun i _ => 12 - (intOf i).toNat)
  case atStart => exact ⟨0, by omega, rfl, j8⟩
  case round =>
    obtain ⟨y, hy12, rfl, hJ⟩ := hrel
    clear j8
    by_cases hyt : y < 12
    · have hyti : (y : Int) < 12 := by omega
      have HJ := (show Hid _ from hJ)
      clear hJ
      go_wp2_with fail
      obtain ⟨wo, hwo⟩ : ∃ x, x = wr := ⟨_, rfl⟩
      rw [← hwo] at HJ ⊢
      clear hwo
      go_loopw [29] (fun i wr => ∃ x : Nat, x ≤ 12 ∧ i = .int .i64 x ∧ RJ W2 l rb A (5 + (y * 12 + x)) (rdT t 4 (y * 12 + x) 0) (.slice none 0 0) wr) (fun i _ => 12 - (intOf i).toNat)
      case atStart => exact ⟨0, by omega, rfl, HJ.out⟩
      case round =>
        obtain ⟨x, hx12, rfl, hJx⟩ := hrel
        by_cases hxt : x < 12
        · have hxti : (x : Int) < 12 := by omega
          have hJd : RJ W2 l rb A (5 + (y * 12 + x)) (rdT t 4 (y * 12 + x) 0) (.slice none 0 0) wr.drew := ⟨⟨hJx.rd.all⟩, hJx.g, hJx.fr.drew⟩
          have HJD := (show Hid _ from hJd)
          have hnb := HRD.out.nb (y * 12 + x) (by omega)
          have HNB := (show Hid _ from hnb)
          clear hJx hJd hnb
          go_wp2_with fail
          go_region_with (first | (go_at_call 36; refine Calls.mono (HNX.out _ HNB.out HJD.out hne) ?_; rintro e w3 ⟨rfl, jn⟩; have cn := jn.cell (4 + (y * 12 + x)) (by omega); have zn := jn.fz (4 + (y * 12 + x)); rw [← Nat.add_assoc] at cn zn))
          all_goals
            go_wp2_with fail
            go_roundw
            case rel =>
              refine ⟨x + 1, hxt, by go_num, ?_⟩
              rw [show 4 + y * 12 + x = 4 + (y * 12 + x) by omega]
              exact jn.put hne (4 + (y * 12 + x)) _ (by omega) (rd_pb t _ _) (by
                unfold tcell rdT
                rw [if_neg (by omega), if_neg (by omega), if_neg (by omega), if_neg (by omega), if_pos (by omega)]
                dsimp only
                rw [if_pos (by omega), show 4 + (y * 12 + x) - 4 = y * 12 + x by omega])
            case measure => simp [intOf]; omega
        · have hxti : ¬ (x : Int) < 12 := by omega
          have hx2 : x = 12 := by omega
          have HX := (show Hid _ from hx2)
          clear hx2
          go_wp2_with fail
          go_roundw
          case rel => exact ⟨y + 1, hyt, by go_num, by have := HX.out; rw [this, show y * 12 + 12 = (y + 1) * 12 by omega] at hJx; exact hJx⟩
          case measure => simp [intOf]; omega
    · have hyti : ¬ (y : Int) < 12 := by omega
      have hy2 : y = 12 := by omega
      rw [hy2] at hJ
      have HY := (show Hid _ from hy2)
      clear hy2
      go_wp2_with fail
      refine Calls.mono (HNX.out _ HRD.out.nl hJ hne) ?_
      rintro e w11 ⟨rfl, jl⟩
      dsimp only
      have hlen := hok.len
      dsimp only at hlen
      have hlei : ¬ (100 : Int) < (t.us.length : Int) := by omega
      clear hJ
      go_wp2_with fail
      obtain ⟨inf, hi0, hz0, hz1, hz2⟩ := info_parts infoU
      have hAl : A < W2.heap.size := by
        rw [HA.out]
        exact HAL.out
      have hrl : rb < W2.heap.size := by have := HRL.out; have := HAL.out; omega
      have hnA : ∀ v : Value, (∀ b, v.ownBlock = some b → W2.heap.size ≤ b) → v.ownBlock ≠ some A ∧ v.ownBlock ≠ some rb := fun v hv => ⟨fun e => by have := hv A e; omega, fun e => by have := hv rb e; omega⟩
      have HnA := (show Hid _ from hnA)
      have HOK := (show Hid _ from hok)
      have HOS := (show Hid _ from hos)
      have HHA := (show Hid _ from hAl)
      clear hnA hok hos
      go_loopw [47] (fun i wr => ∃ (k : Nat) (pv : Value), k ≤ t.us.length ∧ i = .int .i64 k ∧ RJ W2 l rb A (150 + 11 * k) (rdT t 4 144 k) pv wr ∧ wr.ownsRow W2.heap.size 44 11 pv k ((t.us.take k).flatMap U.cells)) (fun i _ => t.us.length - (intOf i).toNat)
      case atStart => exact ⟨0, .slice none 0 0, by omega, rfl, jl, ⟨rfl, Or.inl ⟨rfl, rfl⟩⟩⟩
      case round =>
        obtain ⟨k, pv, hk, rfl, hJ, hown⟩ := hrel
        clear jl
        by_cases hlt : k < t.us.length
        · have hlti : (k : Int) < (t.us.length : Int) := by omega
          obtain ⟨u, hu⟩ : ∃ u, t.us[k]? = some u := ⟨t.us[k], List.getElem?_eq_getElem hlt⟩
          have hnu := HRD.out.nu k u hu
          have hJd : RJ W2 l rb A (150 + 11 * k) (rdT t 4 144 k) pv wr.drew := ⟨⟨hJ.rd.all⟩, hJ.g, hJ.fr.drew⟩
          have HUN : Hid (Calls Tryd.prog 37 #[.pointer (some ⟨rb, 0, none⟩)] wr.drew fun e w' => ∃ r, e = .returned r ∧ (r = u.val ∧ RJ W2 l rb A (150 + 11 * k + 11) (rdT t 4 144 k) pv w' ∧ Fr [rb] wr.drew w')) := Calls.mono (hJd.unit hne hl hnu) (fun e w' h => ⟨u.val, h.1, rfl, h.2⟩)
          have HTK : Hid ((t.us.take (k + 1)).flatMap U.cells = (t.us.take k).flatMap U.cells ++ u.cells) := by
            show _ = _
            obtain ⟨hl', rfl⟩ := List.getElem?_eq_some_iff.1 hu
            rw [List.take_succ_eq_append_getElem hl', List.flatMap_append]
            simp
          have hob : ∀ b, pv.ownBlock = some b → W2.heap.size ≤ b := fun b hb => own_base hown hb
          have HOB := (show Hid _ from hob)
          have HOW : Hid (wr.ownsRow W2.heap.size 44 11 pv k ((t.us.take k).flatMap U.cells)) := hown
          have hc := hJ.at148
          have hgA : A < wr.heap.size := lt_of_heap hJ.g
          clear hJ hJd hown hob hu hnu
          go_wp2_with fail
          go_region_law (first
            | (refine step_append_own rfl (.tmp 50) (.tmp 53) 41 rfl W2.heap.size 44 inf zeroU.val 11 88 Tryd.underlying41 hi0 hz0 hz1 hz2 rfl (by decide) pv k ((t.us.take k).flatMap U.cells) (by simp [Act.eval]) HO2.out ⟨w3.heap.size, 0, none⟩ 1 1 u.cells (by simp [Act.eval]) rfl (new_cells u w3) (by simp [Value.oneCell']) (by unfold maxLen; omega) (by omega) (by simp; omega) ?_; intro v' w4 hown' hgrow hat; obtain ⟨g', cap', rfl⟩ := own_shape hown' (by omega); have hgf := Fr.grow (S := pv.ownBlock.toList) (Fr.refl _ _) hgrow (fun g hg => Or.inl (by simp [hg])); have hc4 : w4.cell? ⟨A, 148, none⟩ = some pv := (hgf.cell A 148 (by simp; omega) (by have := (HnA.out pv HOB.out).1; simp; exact this)).trans ((((Fr.refl [] w3).alloc _).cell A 148 hA3 (by simp)).trans hc3); have hz4 : w4.frozen? ⟨A, 148, none⟩ = false := (hgf.frozen A 148 (by simp; omega) (by have := (HnA.out pv HOB.out).1; simp; exact this)).trans ((((Fr.refl [] w3).alloc _).frozen A 148 hA3 (by simp)).trans hz3))
            | (refine step_call1 rfl 37 51 90 rfl (.pointer (some ⟨rb, 0, none⟩)) rfl (fun _ => by kernel_rfl) HUN.out ?_; rintro r w3 ⟨rfl, ju, hfu⟩; have hc3 := ju.at148; have hz3 := ju.fz 148; have hA3 : A < w3.heap.size := lt_of_heap ju.g; have hs3 := ju.fr.size; have HO2 : Hid ((w3.alloc (.cells u.arr 44)).ownsRow W2.heap.size 44 11 pv k ((t.us.take k).flatMap U.cells)) := owns_fr HOW.out (Fr.alloc (S := [rb]) (Fr.trans (Fr.drew (Fr.refl [rb] wr)) hfu (by simp)) _) (fun b hb => by have := HOB.out b hb; simp; omega)))
          all_goals
            go_wp2_with fail
            go_roundw
            case rel =>
              obtain ⟨nA, nR⟩ := HnA.out pv HOB.out
              have hg1 : W2.heap.size ≤ g' := own_base hown' rfl
              have j4 : RJ W2 l rb A (150 + 11 * k + 11) (rdT t 4 144 k) pv w4 := by
                refine ⟨⟨?_⟩, ?_, (ju.fr.alloc _).grow hgrow (fun g hg => Or.inr (HOB.out g hg))⟩
                · exact hgf.heap (((Fr.refl [] w3).alloc _).heap0 ju.rd.all) (by simp; exact nR)
                · exact hgf.heap (((Fr.refl [] w3).alloc _).heap0 ju.g) (by simp; exact nA)
              refine ⟨k + 1, _, hlt, by go_num, j4.put (t' := rdT t 4 144 (k + 1)) (pv' := .slice (some ⟨g', 0, none⟩) (k + 1) cap') hne 148 _ (by omega) (rd_pp t _ _ _ _) rfl, ?_⟩
              rw [HTK.out]
              refine owns_fr hown' ((Fr.refl [A] w4).setCell _ _ (by simp)) (fun b hb => ?_)
              simp [Value.ownBlock] at hb
              have := HHA.out
              simp
              omega
            case measure => simp [intOf]; omega
        · have hlti : ¬ (k : Int) < (t.us.length : Int) := by omega
          have hke : k = t.us.length := by omega
          subst hke
          rw [List.take_length] at hown
          have hne0 : 0 < t.us.length := by
            have := HOK.out.bs
            dsimp only at this
            rcases Nat.eq_zero_or_pos t.us.length with e | e
            · rw [List.length_eq_zero_iff] at e
              rw [e] at this
              simp at this
            · exact e
          obtain ⟨pb, cap, rfl, hrow⟩ : ∃ pb cap, pv = .slice (some ⟨pb, 0, none⟩) t.us.length cap ∧ PRow wr pb cap t.us := by
            obtain ⟨pb, cap, h1, h2⟩ := PRow.of_owns hown rfl hne0
            exact ⟨pb, cap, h1, h2.2⟩
          have hpbl : W2.heap.size ≤ pb := own_base hown rfl
          have hgs : GS wr A pb cap t := by
            refine ⟨fun j hj => ?_, fun j => hJ.fz j, hrow, by omega, hne0, ?_, ?_⟩
            · rw [hJ.cell j hj, rd_end t _ _ j hj]
            · have := HHA.out; omega
            · have := HHA.out; omega
          have hdn := done_any rb _ _ wr hJ.rd
          rw [HRD.out.ne] at hdn
          have HDN := (show Hid _ from hdn)
          have HMB : Hid (∀ w', Fr [] wr w' → Calls Tryd.prog 39 #[.pointer (some ⟨A, 0, none⟩)] w' fun e w'' => e = .returned (.bool true) ∧ Fr [] w' w'') := fun w' hf => mayBe_any A pb cap t w' (hgs.fr hf (by simp) (by simp)) HOK.out HOS.out
          have HWN : Hid (∀ w', Fr [] wr w' → Calls Tryd.prog 23 #[.pointer (some ⟨A, 0, none⟩)] w' fun e w'' => e = .returned (.int .i64 (winI t.us)) ∧ Fr [] w' w'') := fun w' hf => winner_any A pb cap t.us w' (hgs.gv.fr0 hf)
          have hwr2 : Fr [rb, A] W2 wr := hJ.fr
          have HGL : Hid (wr.heap[A]? = some (.cells (gameL t (.slice (some ⟨pb, 0, none⟩) t.us.length cap)).toArray 64)) := by
            show _ = _
            rw [hJ.g]
            have : gameL (rdT t 4 144 t.us.length) (.slice (some ⟨pb, 0, none⟩) t.us.length cap) = gameL t (.slice (some ⟨pb, 0, none⟩) t.us.length cap) := by
              unfold gameL
              apply List.map_congr_left
              intro j hj
              exact rd_end t _ _ j (List.mem_range.1 hj)
            rw [this]
          clear hJ hown hdn hgs HNX HnA HOK HOS
          go_wp2_with fail
          refine Calls.mono HDN.out ?_
          rintro e w12 ⟨rfl, hf12⟩
          dsimp only
          go_wp2_with fail
          refine Calls.mono (HMB.out _ hf12) ?_
          rintro e w13 ⟨rfl, hf13⟩
          dsimp only
          have hf13' := hf12.then0 hf13
          go_wp2_with fail
          refine Calls.mono (HWN.out _ hf13') ?_
          rintro e w14 ⟨rfl, hf14⟩
          dsimp only
          have hf14' := hf13'.then0 hf14
          obtain ⟨gl, hgl⟩ : ∃ x, x = gameL t (.slice (some ⟨pb, 0, none⟩) t.us.length cap) := ⟨_, rfl⟩
          have hll : gl.length = 149 := by rw [hgl]; exact gameL_len _ _
          have HO : Hid (gl.toArray.all (·.oneCell') = true) := by
            show _ = _
            rw [hgl]; exact gameL_one _ _ _ _
          have HI : Hid ((Tryd.prog.info? 64).map (·.size) = some gl.toArray.size) := by
            show _ = _
            rw [infoGame, List.size_toArray, hll]
          have HZ : Hid (Tryd.zeroCells64.size = gl.toArray.size) := by
            show _ = _
            exact zcGame.trans (by simp [hll])
          have hga := HGL.out
          rw [← hgl] at hga
          have HG14 : Hid (w14.heap[A]? = some (.cells gl.toArray 64)) := hf14'.heap0 hga
          have HR14 : Hid (w14.heap[w.heap.size]? = some (.cells Tryd.zeroCells64 64)) := hf14'.heap0 (hwr2.heap hR2 (by simp; omega))
          have HGE := (show Hid _ from hgl)
          clear hll hga hgl HGL
          go_wp2_with (first | (refine wpList_load_row rfl 64 _ rfl A rfl 64 gl.toArray (0, 0) _ HG14.out Tryd.underlying64 rfl HI.out ?_) | (refine wpList_store_row rfl 64 _ _ rfl w.heap.size gl.toArray rfl rfl 64 Tryd.zeroCells64 HR14.out HI.out HZ.out HO.out ?_))
          have hend : Fr [] w w14 := (hw2.trans hwr2 (by simp; omega)).then0 hf14'
          have hpw : w.heap.size ≤ pb := by have := hw2.size; omega
          refine bodyPost_ret (v := .tuple #[.agg gl.toArray, .bool true]) (results_cell_tmp Tryd.results26 _ _ w.heap.size 64 gl.toArray (0, 0) _ _ rfl rfl (setRow_heap _ _ _ _ _ _ HR14.out) Tryd.underlying64 rfl HI.out) rfl ⟨pb, cap, by rw [HGE.out], ?_, hpw, hend.setRow _ _ (Or.inr (Nat.le_refl _))⟩
          have hp14 := hrow.fr hf14' (by simp)
          exact hp14.fr (((Fr.refl [w.heap.size] w14).setRow _ _ (Or.inl (by simp)))) (by simp; have := HHA.out; omega)
end Go.Proofs.YtapabahhfanmmaaDoor
/- A game is read. -/
namespace Go.Proofs.YtapabahhfanmmaaDoor
open Go.RowKit

set_option maxRecDepth 100000 in
set_option maxHeartbeats 2000000 in
theorem read_ok (t : T) (l : List UInt8) (w : World) (hrd : Reads l t) (hl : l.length ≤ 1000000) (hok : GOk t) (hos : OS t) (hw0 : 0 < w.heap.size) :
    Calls Tryd.prog 17 #[.string ⟨l.toArray⟩] w fun e w' => ∃ gb pb cap, e = .returned (.tuple #[.pointer (some ⟨gb, 0, none⟩), .int .i64 0]) ∧ GS w' gb pb cap t ∧ w.heap.size ≤ gb ∧ w.heap.size ≤ pb ∧ Fr [] w w' := by
  have HRS : Hid (∀ w', 0 < w'.heap.size → Calls Tryd.prog 26 #[.string ⟨l.toArray⟩] w' fun e w'' => ∃ pb cap, e = .returned (.tuple #[.agg (gameL t (.slice (some ⟨pb, 0, none⟩) t.us.length cap)).toArray, .bool true]) ∧ PRow w'' pb cap t.us ∧ w'.heap.size ≤ pb ∧ Fr [] w' w'') := fun w' h0 => readState_ok t l w' hrd hl hok hos h0
  have hlen : t.us.length ≤ 100 := hok.len
  have hne : 0 < t.us.length := by
    have := hok.bs
    dsimp only at this
    rcases Nat.eq_zero_or_pos t.us.length with e | e
    · rw [List.length_eq_zero_iff] at e
      rw [e] at this
      simp at this
    · exact e
  clear hrd hok hos
  go_enter Tryd.func17, Tryd.ntmps17
  go_wp2_with fail
  refine Calls.mono (HRS.out _ hw0) ?_
  rintro e w1 ⟨pb, cap, rfl, hrow, hpb, hf1⟩
  dsimp only
  obtain ⟨gl, hgl⟩ : ∃ x, x = gameL t (.slice (some ⟨pb, 0, none⟩) t.us.length cap) := ⟨_, rfl⟩
  rw [← hgl]
  have hll : gl.length = 149 := by rw [hgl]; exact gameL_len _ _
  have HO : Hid (gl.toArray.all (·.oneCell') = true) := by
    show _ = _
    rw [hgl]; exact gameL_one _ _ _ _
  have HGE := (show Hid _ from hgl)
  have HL2 : Hid ((Tryd.prog.info? 64).map (·.size) = some gl.toArray.size) := by
    show _ = _
    rw [infoGame, List.size_toArray, hll]
  have HL3 : Hid (Tryd.zeroCells64.size = gl.toArray.size) := by
    show _ = _
    exact zcGame.trans (by simp [hll])
  have HBS : Hid (Tryd.prog.built 66 [(0, .agg gl.toArray)] = some gl.toArray) := built_sk _ (by simp [hll])
  have HH : Hid (((w1.alloc (.cells Tryd.zeroCells64 64)).setRow w1.heap.size gl.toArray).heap[w1.heap.size]? = some (.cells gl.toArray 64)) := setRow_heap _ _ _ _ _ _ (hp_new _ _)
  clear hgl hll HRS
  go_wp2_with (first | (refine wpList_store_row rfl 64 _ _ rfl w1.heap.size gl.toArray rfl rfl 64 Tryd.zeroCells64 (hp_new w1 _) HL2.out HL3.out HO.out ?_) | (refine wpList_load_row rfl 64 _ rfl w1.heap.size rfl 64 gl.toArray (0, 0) _ HH.out Tryd.underlying64 rfl HL2.out ?_) | (refine wpList_build1 rfl 66 0 (.tmp 13) rfl (.agg gl.toArray) rfl gl.toArray HBS.out ?_))
  have hs1 := hf1.size
  have hF : Fr [] w (((w1.alloc (.cells Tryd.zeroCells64 64)).setRow w1.heap.size gl.toArray).alloc (.cells gl.toArray 66)) := ((hf1.alloc _).setRow _ _ (Or.inr hs1)).alloc _
  have h1F : Fr [] w1 (((w1.alloc (.cells Tryd.zeroCells64 64)).setRow w1.heap.size gl.toArray).alloc (.cells gl.toArray 66)) := (((Fr.refl _ _).alloc _).setRow _ _ (Or.inr (Nat.le_refl _))).alloc _
  have hh : (((w1.alloc (.cells Tryd.zeroCells64 64)).setRow w1.heap.size gl.toArray).alloc (.cells gl.toArray 66)).heap[w1.heap.size + 1]? = some (.cells gl.toArray 66) := hp_at _ _ _ (by simp)
  have hpl := hrow.lt
  refine bodyPost_ret (v := .tuple #[.pointer (some ⟨w1.heap.size + 1, 0, none⟩), .int .i64 0]) (by simp [results, Tryd.results17, go_sem]) rfl ⟨w1.heap.size + 1, pb, cap, rfl, ⟨fun k hk => ?_, fun k => frozen_of_heap hh, hrow.fr h1F (by simp), by omega, hne, by omega, by omega, by omega⟩, by omega, hpb, hF⟩
  rw [cell_of_heap hh, HGE.out]
  simp only [List.getElem?_toArray]
  unfold gameL
  rw [List.getElem?_map, List.getElem?_range hk]
  rfl
end Go.Proofs.YtapabahhfanmmaaDoor
