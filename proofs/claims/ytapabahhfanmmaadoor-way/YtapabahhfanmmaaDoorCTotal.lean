import Derived.Test.YtapabahhfanmmaaDoorCStart
/- The ore in a game. -/
namespace Go.Proofs.YtapabahhfanmmaaDoor
open Go.RowKit

def totalOf (t : T) : Int := t.s0 + t.s1 + oreSum t.bd + (t.us.map U.load).sum

def oreTo (bd : Nat → Int) (k : Nat) : Int := ((List.range k).map (oreOf bd)).sum
theorem oreTo_succ (bd : Nat → Int) (k : Nat) : oreTo bd (k + 1) = oreTo bd k + oreOf bd k := by
  unfold oreTo
  rw [List.range_succ, List.map_append, List.sum_append]
  simp
theorem oreTo_le (bd : Nat → Int) (h : ∀ i, i < 144 → 0 ≤ bd i ∧ bd i ≤ 10) : ∀ k, k ≤ 144 → 0 ≤ oreTo bd k ∧ oreTo bd k ≤ 10 * k
  | 0, _ => by simp [oreTo]
  | k + 1, hk => by
    have h1 := oreTo_le bd h k (by omega)
    have h2 := h k (by omega)
    rw [oreTo_succ]
    unfold oreOf
    split <;> omega

def loadTo (us : List U) (k : Nat) : Int := ((us.take k).map U.load).sum
theorem loadTo_succ {us : List U} {k : Nat} {u : U} (h : us[k]? = some u) : loadTo us (k + 1) = loadTo us k + u.load := by
  unfold loadTo
  obtain ⟨hl, rfl⟩ := List.getElem?_eq_some_iff.1 h
  rw [List.take_succ_eq_append_getElem hl, List.map_append, List.sum_append]
  simp
theorem loadTo_le (us : List U) (h : ∀ u ∈ us, 0 ≤ u.load ∧ u.load ≤ 5) : ∀ k, k ≤ us.length → 0 ≤ loadTo us k ∧ loadTo us k ≤ 5 * k
  | 0, _ => by simp [loadTo]
  | k + 1, hk => by
    have h1 := loadTo_le us h k (by omega)
    have hg : us[k]? = some us[k] := List.getElem?_eq_getElem (by omega)
    have h2 := h _ (List.mem_of_getElem? hg)
    rw [loadTo_succ hg]
    omega

set_option maxRecDepth 100000 in
set_option maxHeartbeats 1000000 in
theorem total_any (gb pb cap : Nat) (t : T) (w : World) (h : GS w gb pb cap t) (hok : GOk t) :
    Calls Tryd.prog 8 #[.pointer (some ⟨gb, 0, none⟩)] w fun e w' => e = .returned (.int .i64 (totalOf t)) ∧ Fr [] w w' := by
  have hst := hok.st
  have hlk := look_any gb pb cap t
  have hce := cells_any gb pb cap t
  have HLK := (show Hid _ from hlk)
  have HCE := (show Hid _ from hce)
  clear hlk hce
  go_enter Tryd.func8, Tryd.ntmps8
  go_wp2_with fail
  refine Calls.mono (HLK.out w h) ?_
  rintro e w1 ⟨rfl, hf1⟩
  dsimp only
  go_wp2_with fail
  have h1 := h.fr hf1 (by simp) (by simp)
  refine Calls.mono (HCE.out _ (h1.fr ((Fr.refl [] _).alloc _) (by simp) (by simp))) ?_
  rintro e w2 ⟨rfl, hf2⟩
  dsimp only
  have hw2 : Fr [] w w2 := (hf1.alloc _).then0 hf2
  obtain ⟨bl, hbl⟩ : ∃ x, x = boardL t.bd := ⟨_, rfl⟩
  rw [← hbl]
  have hbll : bl.length = 144 := by rw [hbl]; exact boardL_len _
  have HO : Hid (bl.toArray.all (·.oneCell') = true) := by
    show _ = _
    rw [hbl]; exact boardL_one _
  have HI : Hid ((Tryd.prog.info? 50).map (·.size) = some bl.toArray.size) := by
    show _ = _
    rw [infoBoard, List.size_toArray, hbll]
  have HZ : Hid (Tryd.zeroCells50.size = bl.toArray.size) := by
    show _ = _
    exact zcBoard.trans (by simp [hbll])
  have HBL := (show Hid _ from hbl)
  clear hbl hbll HLK HCE
  go_wp2_with (refine wpList_store_row rfl 50 _ _ rfl w2.heap.size bl.toArray rfl rfl 50 Tryd.zeroCells50 (hp_new w2 _) HI.out HZ.out HO.out ?_)
  obtain ⟨W, hW⟩ : ∃ W, W = (w2.alloc (.cells Tryd.zeroCells50 50)).setRow w2.heap.size bl.toArray := ⟨_, rfl⟩
  rw [← hW]
  have hWh : W.heap[w2.heap.size]? = some (.cells bl.toArray 50) := by rw [hW]; exact setRow_heap _ _ _ _ _ _ (hp_new _ _)
  have hWf : Fr [] w W := by rw [hW]; exact (hw2.alloc _).setRow _ _ (Or.inr hw2.size)
  obtain ⟨bk, hbk⟩ : ∃ x, x = w2.heap.size := ⟨_, rfl⟩
  rw [← hbk] at hWh ⊢
  have hcell : ∀ k, k < 144 → W.cell? ⟨bk, k, none⟩ = some (ii (t.bd k)) := fun k hk => by
    rw [cell_of_heap hWh, HBL.out]
    simp only [List.getElem?_toArray]
    unfold boardL
    rw [List.getElem?_map, List.getElem?_range hk]
    rfl
  have hore := oreTo_le t.bd hok.bd
  have HC := (show Hid _ from hcell)
  have HOR := (show Hid _ from hore)
  have HF := (show Hid _ from hWf)
  clear hW hbk hcell hore hWh hWf hf1 hf2 hw2 h1 HO HI HZ HBL
  obtain ⟨S, hS⟩ : ∃ S, S = t.s0 + t.s1 := ⟨_, rfl⟩
  rw [← hS]
  have hSb : 0 ≤ S ∧ S ≤ 2000000000 := by
    have := hok.st
    dsimp only at this
    omega
  have HS := (show Hid _ from hS)
  clear hS hst
  go_loopw [4, 6] (fun n i wr => ∃ y : Nat, y ≤ 12 ∧ i = .int .i64 y ∧ n = .int .i64 (S + oreTo t.bd (y * 12)) ∧ W = wr) (fun _ i _ => 12 - (intOf i).toNat)
  case atStart => exact ⟨0, by omega, rfl, by simp [oreTo], rfl⟩
  case round =>
    obtain ⟨y, hy, rfl, rfl, rfl⟩ := hrel
    by_cases hlt : y < 12
    · have hlti : (y : Int) < 12 := by omega
      go_wp2_with fail
      go_loopw [4, 7] (fun n i wr => ∃ x : Nat, x ≤ 12 ∧ i = .int .i64 x ∧ n = .int .i64 (S + oreTo t.bd (y * 12 + x)) ∧ W = wr) (fun _ i _ => 12 - (intOf i).toNat)
      case atStart => exact ⟨0, by omega, rfl, rfl, rfl⟩
      case round =>
        obtain ⟨x, hx, rfl, rfl, rfl⟩ := hrel
        by_cases hxt : x < 12
        · have hxti : (x : Int) < 12 := by omega
          have hc := HC.out (y * 12 + x) (by omega)
          have hb := HOR.out (y * 12 + x) (by omega)
          have hbd := hok.bd (y * 12 + x) (by omega)
          have hsu := oreTo_succ t.bd (y * 12 + x)
          dsimp only at hbd
          unfold oreOf at hsu
          by_cases h10 : t.bd (y * 12 + x) < 10
          · rw [if_pos h10] at hsu
            have HSU := (show Hid _ from hsu)
            clear hsu
            go_wp2_with fail
            go_roundw
            case rel => exact ⟨x + 1, hxt, by go_num, by rw [show y * 12 + (x + 1) = y * 12 + x + 1 by omega, HSU.out, Int.add_assoc], trivial⟩
            case measure => simp [intOf]; omega
          · rw [if_neg h10] at hsu
            have HSU := (show Hid _ from hsu)
            clear hsu
            go_wp2_with fail
            go_roundw
            case rel => exact ⟨x + 1, hxt, by go_num, by rw [show y * 12 + (x + 1) = y * 12 + x + 1 by omega, HSU.out, Int.add_zero], trivial⟩
            case measure => simp [intOf]; omega
        · have hx12 : x = 12 := by omega
          subst hx12
          go_wp2_with fail
          go_roundw
          case rel => exact ⟨y + 1, hlt, by go_num, by rw [show (y + 1) * 12 = y * 12 + 12 by omega], trivial⟩
          case measure => simp [intOf]; omega
    · have hy12 : y = 12 := by omega
      subst hy12
      go_wp2_with fail
      refine Calls.mono (people_any gb pb cap t W (h.fr HF.out (by simp) (by simp))) ?_
      rintro e w3 ⟨pb2, cap2, rfl, hb2, hrow2, hf3⟩
      dsimp only
      have hlen : t.us.length ≤ 100 := hok.len
      obtain ⟨N, hN⟩ : ∃ N, N = S + oreTo t.bd (12 * 12) := ⟨_, rfl⟩
      have hNb : 0 ≤ N ∧ N ≤ 2000002000 := by
        have := HOR.out 144 (by omega)
        have e : oreTo t.bd (12 * 12) = oreTo t.bd 144 := rfl
        omega
      rw [← hN]
      have HN := (show Hid _ from hN)
      have hpp := hrow2.ppl
      have HF3 := (show Hid _ from HF.out.then0 hf3)
      clear hN HC HOR
      have HLD := (show Hid _ from loadTo_le t.us (fun u hu => ⟨(hok.all u hu).ld.1, (hok.all u hu).ld.2.1⟩))
      go_wp2_with fail
      go_loopw [4, 9] (fun n i wr => ∃ k : Nat, k ≤ t.us.length ∧ i = .int .i64 k ∧ n = .int .i64 (N + loadTo t.us k) ∧ w3 = wr) (fun _ i _ => t.us.length - (intOf i).toNat)
      case atStart => exact ⟨0, by omega, rfl, by simp [loadTo], rfl⟩
      case round =>
        obtain ⟨k, hk, rfl, rfl, rfl⟩ := hrel
        have hb := HLD.out k hk
        by_cases hkt : k < t.us.length
        · obtain ⟨u, hu⟩ : ∃ u, t.us[k]? = some u := ⟨t.us[k], List.getElem?_eq_getElem hkt⟩
          obtain ⟨c0, c1, c2, c3, c4, c5, c6, c7, c8, c9, c10⟩ := hpp.at hu
          have hul := (hok.all u (List.mem_of_getElem? hu)).ld
          have hsu := loadTo_succ hu
          have HSU := (show Hid _ from hsu)
          clear hsu hu
          go_wp2_with fail
          go_roundw
          case rel => exact ⟨k + 1, hkt, by go_num, by rw [HSU.out, Int.add_assoc], trivial⟩
          case measure => simp [intOf]; omega
        · have hke : k = t.us.length := by omega
          go_wp2_with fail
          go_ret
          refine ⟨ret_int ?_, HF3.out⟩
          rw [HN.out, HS.out, hke]
          unfold totalOf loadTo
          rw [List.take_length]
          rfl
end Go.Proofs.YtapabahhfanmmaaDoor
