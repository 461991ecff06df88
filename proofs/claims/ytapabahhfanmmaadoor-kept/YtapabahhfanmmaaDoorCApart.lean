import Derived.Test.YtapabahhfanmmaaDoorCTotal
import Derived.BigQuiet
/- Are all people as they may be? -/
namespace Go.Proofs.YtapabahhfanmmaaDoor
open Go.RowKit

theorem zcTk : Tryd.zeroCells72 = Array.replicate 144 (.bool false) := by kernel_rfl
def takenAt (us : List U) (k j : Nat) : Bool := (us.take k).any (fun u => ci u.x u.y == j)
def kindsTo (us : List U) (k : Nat) : Nat := (us.take k).countP (fun u => u.kind == 1)
theorem kindsTo_succ {us : List U} {k : Nat} {u : U} (h : us[k]? = some u) : kindsTo us (k + 1) = kindsTo us k + (if u.kind = 1 then 1 else 0) := by
  unfold kindsTo
  obtain ⟨hl, rfl⟩ := List.getElem?_eq_some_iff.1 h
  rw [List.take_succ_eq_append_getElem hl, List.countP_append]
  by_cases e : us[k].kind = 1 <;> simp [e]
theorem takenAt_succ {us : List U} {k : Nat} {u : U} (h : us[k]? = some u) (j : Nat) : takenAt us (k + 1) j = (takenAt us k j || (ci u.x u.y == j)) := by
  unfold takenAt
  obtain ⟨hl, rfl⟩ := List.getElem?_eq_some_iff.1 h
  rw [List.take_succ_eq_append_getElem hl, List.any_append]
  simp
theorem ci_inj {x y x' y' : Int} (h : onB x y = true) (h' : onB x' y' = true) (e : ci x y = ci x' y') : (x, y) = (x', y') := by
  obtain ⟨a1, a2, a3, a4⟩ := onB_iff.1 h
  obtain ⟨b1, b2, b3, b4⟩ := onB_iff.1 h'
  unfold ci at e
  have e1 : x = x' := by omega
  have e2 : y = y' := by omega
  rw [e1, e2]
theorem not_taken {t : T} (hok : GOk t) {k : Nat} {u : U} (h : t.us[k]? = some u) : takenAt t.us k (ci u.x u.y) = false := by
  apply Bool.eq_false_iff.2
  intro ht
  unfold takenAt at ht
  obtain ⟨v, hv, e⟩ := List.any_eq_true.1 ht
  obtain ⟨i, hi, rfl⟩ := List.mem_iff_getElem.1 hv
  have hi' : i < k ∧ i < t.us.length := by rw [List.length_take] at hi; omega
  rw [List.getElem_take] at e
  have hm := List.mem_of_getElem? h
  have hvm : t.us[i] ∈ t.us := List.getElem_mem hi'.2
  have ok1 := hok.all u hm
  have ok2 := hok.all _ hvm
  have hcc := ci_inj ok2.on ok1.on (by simpa using e)
  have h1 := ok1.hd
  have h2 := ok2.hd
  rw [hcc, h1] at h2
  have hid : u.id = (t.us[i]'hi'.2).id := Option.some.inj h2
  obtain ⟨hk, rfl⟩ := List.getElem?_eq_some_iff.1 h
  have hr : (t.us[i]'hi'.2).id < (t.us[k]'hk).id := List.pairwise_iff_getElem.1 hok.rise i k hi'.2 hk hi'.1
  omega

theorem count_split : ∀ us : List U, (∀ u ∈ us, u.owner = 0 ∨ u.owner = 1) → us.countP (fun u => u.kind == 1) = us.countP (isBase 0) + us.countP (isBase 1)
  | [], _ => rfl
  | u :: us, h => by
    have ih := count_split us (fun v hv => h v (by simp [hv]))
    rw [List.countP_cons, List.countP_cons, List.countP_cons, ih]
    have ho := h u (by simp)
    by_cases hk : u.kind = 1
    · rcases ho with e | e <;> simp [isBase, hk, e] <;> omega
    · simp [isBase, hk]
theorem base_some {us : List U} {o : Int} : (baseOf us o).isSome = decide (0 < us.countP (isBase o)) := by
  unfold baseOf
  rw [Bool.eq_iff_iff, List.find?_isSome, decide_eq_true_iff, List.countP_pos_iff]
theorem bases_win {t : T} (hok : GOk t) : (kindsTo t.us t.us.length = 2 ∧ winI t.us = 0) ∨ (kindsTo t.us t.us.length = 1 ∧ 0 < winI t.us) := by
  have h0 : t.us.countP (isBase 0) ≤ 1 := hok.b0
  have h1 : t.us.countP (isBase 1) ≤ 1 := hok.b1
  have h2 : 1 ≤ t.us.countP (isBase 0) + t.us.countP (isBase 1) := hok.bs
  have hs := count_split t.us (fun u hu => (hok.all u hu).ow)
  unfold kindsTo winI
  rw [List.take_length, hs, base_some, base_some]
  have hc : (t.us.countP (isBase 0) = 1 ∧ t.us.countP (isBase 1) = 1) ∨ (t.us.countP (isBase 0) = 1 ∧ t.us.countP (isBase 1) = 0) ∨ (t.us.countP (isBase 0) = 0 ∧ t.us.countP (isBase 1) = 1) := by omega
  rcases hc with ⟨e1, e2⟩ | ⟨e1, e2⟩ | ⟨e1, e2⟩ <;> rw [e1, e2] <;> decide

structure ApI (us : List U) (tkb : Nat) (W : World) (k : Nat) (b : Value) (wr : World) : Prop where
  tk : ∀ j, j < 144 → wr.cell? ⟨tkb, j, none⟩ = some (.bool (takenAt us k j))
  fz : ∀ j, wr.frozen? ⟨tkb, j, none⟩ = false
  fr : Fr [tkb] W wr
  bs : b = .int .i64 (kindsTo us k : Nat)

set_option maxRecDepth 100000 in
set_option maxHeartbeats 4000000 in
theorem apart_any (gb pb cap : Nat) (t : T) (w : World) (h : GS w gb pb cap t) (hok : GOk t) :
    Calls Tryd.prog 12 #[.pointer (some ⟨gb, 0, none⟩)] w fun e w' => e = .returned (.bool true) ∧ Fr [] w w' := by
  have hce := cells_any gb pb cap t
  have HCE := (show Hid _ from hce)
  clear hce
  go_enter Tryd.func12, Tryd.ntmps12
  go_wp2_with fail
  refine Calls.mono (HCE.out w h) ?_
  rintro e w2 ⟨rfl, hf2⟩
  dsimp only
  obtain ⟨bl, hbl⟩ : ∃ x, x = boardL t.bd := ⟨_, rfl⟩
  rw [← hbl]
  have hbll : bl.length = 144 := by rw [hbl]; exact boardL_len _
  have HO : Hid (bl.toArray.all (·.oneCell') = true) := by
    show _ = _
    rw [hbl]; exact boardL_one _
  have HI : Hid ((Tryd.prog.info? 50).map (·.size) = some bl.toArray.size) := by
    show _ = _
    rw [infoBoard, List.size_toArray, hbll]
  have HZ : Hid (Tryd.zeroCells50.size = bl.toArray.size) := by
    show _ = _
    exact zcBoard.trans (by simp [hbll])
  have HBL := (show Hid _ from hbl)
  clear hbl hbll HCE
  go_wp2_with (refine wpList_store_row rfl 50 _ _ rfl w2.heap.size bl.toArray rfl rfl 50 Tryd.zeroCells50 (hp_new w2 _) HI.out HZ.out HO.out ?_)
  obtain ⟨W, hW⟩ : ∃ W, W = (w2.alloc (.cells Tryd.zeroCells50 50)).setRow w2.heap.size bl.toArray := ⟨_, rfl⟩
  rw [← hW]
  have hWh : W.heap[w2.heap.size]? = some (.cells bl.toArray 50) := by rw [hW]; exact setRow_heap _ _ _ _ _ _ (hp_new _ _)
  have hWf : Fr [] w W := by rw [hW]; exact (hf2.alloc _).setRow _ _ (Or.inr hf2.size)
  obtain ⟨bk, hbk⟩ : ∃ x, x = w2.heap.size := ⟨_, rfl⟩
  rw [← hbk] at hWh ⊢
  have hcell : ∀ k, k < 144 → W.cell? ⟨bk, k, none⟩ = some (ii (t.bd k)) := fun k hk => by
    rw [cell_of_heap hWh, HBL.out]
    simp only [List.getElem?_toArray]
    unfold boardL
    rw [List.getElem?_map, List.getElem?_range hk]
    rfl
  have hbkl := lt_of_heap hWh
  have HC := (show Hid _ from hcell)
  have HF := (show Hid _ from hWf)
  clear hW hbk hcell hWh hWf HO HI HZ HBL
  refine Calls.mono (people_any gb pb cap t W (h.fr HF.out (by simp) (by simp))) ?_
  rintro e w3 ⟨pb2, cap2, rfl, hb2, hrow2, hf3⟩
  dsimp only
  have hlen : t.us.length ≤ 100 := hok.len
  go_wp2_with fail
  obtain ⟨W4, hW4⟩ : ∃ W, W = w3.alloc (.cells Tryd.zeroCells72 72) := ⟨_, rfl⟩
  rw [← hW4]
  have hw4 : Fr [] w3 W4 := by rw [hW4]; exact (Fr.refl _ _).alloc _
  have htk0 : W4.heap[w3.heap.size]? = some (.cells (Array.replicate 144 (.bool false)) 72) := by rw [hW4, hp_new, zcTk]
  obtain ⟨tkb, htkb⟩ : ∃ x, x = w3.heap.size := ⟨_, rfl⟩
  rw [← htkb] at htk0 ⊢
  have hi0 : ApI t.us tkb W4 0 (.int .i64 0) W4 := by
    refine ⟨fun j hj => ?_, fun j => frozen_of_heap htk0, Fr.refl _ _, ?_⟩
    · rw [cell_of_heap htk0]
      simp [takenAt, hj]
    · simp [kindsTo]
  have hsz4 : tkb < W4.heap.size := lt_of_heap htk0
  have hpb4 : pb2 < tkb := by rw [htkb]; exact hrow2.lt
  have hbk4 : bk < tkb := by rw [htkb]; have := hf3.size; omega
  have hwt : w.heap.size ≤ tkb := by rw [htkb]; have := (HF.out.then0 hf3).size; omega
  have hpp4 := (hrow2.fr hw4 (by simp)).ppl
  have hbd4 : ∀ k, k < 144 → W4.cell? ⟨bk, k, none⟩ = some (ii (t.bd k)) := fun k hk => ((hf3.then0 hw4).cell _ _ hbkl (by simp)).trans (HC.out k hk)
  have HB4 := (show Hid _ from hbd4)
  have HPP := (show Hid _ from hpp4)
  have HW4 := (show Hid _ from (HF.out.then0 hf3).then0 hw4)
  have HG := (show Hid _ from h)
  clear hW4 htk0 htkb hbd4 hpp4 HC hrow2 hw4 hf3 hf2 h HF
  go_loopw [6, 7] (fun b i wr => ∃ k : Nat, k ≤ t.us.length ∧ i = .int .i64 k ∧ ApI t.us tkb W4 k b wr) (fun _ i _ => t.us.length - (intOf i).toNat)
  case atStart => exact ⟨0, Nat.zero_le _, rfl, hi0⟩
  case round =>
    obtain ⟨k, hk, rfl, hap⟩ := hrel
    have hbs := hap.bs
    subst hbs
    have hble : kindsTo t.us k ≤ 100 := by unfold kindsTo; exact Nat.le_trans List.countP_le_length (by rw [List.length_take]; omega)
    by_cases hlt : k < t.us.length
    · have hlti : (k : Int) < (t.us.length : Int) := by omega
      obtain ⟨u, hu⟩ : ∃ u, t.us[k]? = some u := ⟨t.us[k], List.getElem?_eq_getElem hlt⟩
      have hp := Ppl.fr HPP.out hap.fr (by simp; omega)
      obtain ⟨c0, c1, c2, c3, c4, c5, c6, c7, c8, c9, c10⟩ := hp.at hu
      have uok := hok.all u (List.mem_of_getElem? hu)
      obtain ⟨o1, o2, o3, o4⟩ := onB_iff.1 uok.on
      have hci : ci u.x u.y < 144 := ci_lt uok.on
      have hb0 := (hap.fr.cell _ _ (show bk < W4.heap.size by omega) (by simp; omega)).trans (HB4.out _ hci)
      have hgr : t.bd (ci u.x u.y) = 0 := uok.gr
      rw [hgr] at hb0
      have ht0 := hap.tk _ hci
      rw [not_taken hok hu] at ht0
      have hz0 := hap.fz (ci u.x u.y)
      unfold ci at hb0 ht0 hz0
      have HU := (show Hid _ from hu)
      have HAP := (show Hid _ from hap)
      have HUK := (show Hid _ from uok)
      clear hu hap uok hgr hci hp
      have hszr := HAP.out.fr.size
      go_wp2_with fail
      obtain ⟨WA, hWA⟩ : ∃ W, W = wr.alloc (.cells u.arr 44) := ⟨_, rfl⟩
      rw [← hWA]
      have hfa : Fr [] wr WA := by rw [hWA]; exact (Fr.refl _ _).alloc _
      have hUA : WA.heap[wr.heap.size]? = some (.cells u.arr 44) := by rw [hWA]; exact hp_new _ _
      have HUA := (show Hid _ from hUA)
      have hb1 := (hfa.cell _ _ (lt_of_cell hb0) (by simp)).trans hb0
      have ht1 := (hfa.cell _ _ (lt_of_cell ht0) (by simp)).trans ht0
      have hlt0 := lt_of_cell ht0
      have k0 : WA.cell? ⟨wr.heap.size, 0, none⟩ = some (ii u.id) := cell_of_heap hUA
      have k3 : WA.cell? ⟨wr.heap.size, 3, none⟩ = some (ii u.x) := cell_of_heap hUA
      have k4 : WA.cell? ⟨wr.heap.size, 4, none⟩ = some (ii u.y) := cell_of_heap hUA
      have HCP : Hid (∀ m : Nat, k = m + 1 → ∃ pid : Int, WA.cell? ⟨pb2, m * 11, none⟩ = some (ii pid) ∧ pid < u.id) := by
        intro m hm
        obtain ⟨v, hv⟩ : ∃ v, t.us[m]? = some v := ⟨t.us[m], List.getElem?_eq_getElem (by omega)⟩
        have hp := Ppl.fr HPP.out HAP.out.fr (by simp; omega)
        have h0 := (hp.at hv).1
        refine ⟨v.id, (hfa.cell _ _ (lt_of_cell h0) (by simp)).trans h0, ?_⟩
        obtain ⟨h1, rfl⟩ := List.getElem?_eq_some_iff.1 hv
        obtain ⟨h2, e2⟩ := List.getElem?_eq_some_iff.1 HU.out
        have := List.pairwise_iff_getElem.1 hok.rise m k h1 h2 (by omega)
        rw [← e2]
        exact this
      clear hWA c0 c1 c2 c3 c4 c5 c6 c7 c8 c9 c10 hb0 ht0 hUA
      go_cut [76] (fun s76 wx => s76 = .bool false ∧ Fr [] WA wx)
      case first =>
        by_cases hk0 : k = 0
        · have hk0i : ¬ (0 < (k : Int)) := by omega
          have g1 : ¬ (u.x < 0) := by omega
          have g2 : ¬ (12 ≤ u.x) := by omega
          have g3 : ¬ (u.y < 0) := by omega
          have g4 : ¬ (12 ≤ u.y) := by omega
          have g1b : decide (u.x < 0) = false := by simpa using o1
          have g2b : decide (12 ≤ u.x) = false := by simpa using o2
          have g3b : decide (u.y < 0) = false := by simpa using o3
          have g4b : decide (12 ≤ u.y) = false := by simpa using o4
          have hk0b : decide (0 < (k : Int)) = false := by simpa using hk0i
          have hkn : ¬ (0 < k) := by omega
          have hknb : decide (0 < k) = false := by simpa using hkn
          have hkg : decide ((k : Int) > 0) = false := by simpa using hk0i
          clear hk0
          go_big_region
          go_wp2_with fail
          go_meet
          exact ⟨rfl, (Fr.refl _ _).drew⟩
        · obtain ⟨m, hm⟩ : ∃ m, k = m + 1 := ⟨k - 1, by omega⟩
          obtain ⟨pid, hc, hpid⟩ := HCP.out m hm
          have hkm : (k : Int) - 1 = (m : Int) := by omega
          have hk0i : 0 < (k : Int) := by omega
          have hmn : m < t.us.length := by omega
          have hmi : (m : Int) < (t.us.length : Int) := by omega
          have hpid2 : ¬ (u.id ≤ pid) := by omega
          have g1 : ¬ (u.x < 0) := by omega
          have g2 : ¬ (12 ≤ u.x) := by omega
          have g3 : ¬ (u.y < 0) := by omega
          have g4 : ¬ (12 ≤ u.y) := by omega
          have g1b : decide (u.x < 0) = false := by simpa using o1
          have g2b : decide (12 ≤ u.x) = false := by simpa using o2
          have g3b : decide (u.y < 0) = false := by simpa using o3
          have g4b : decide (12 ≤ u.y) = false := by simpa using o4
          have hkn : 0 < k := by omega
          clear hm hk0
          go_big_region
          go_wp2_with fail
          go_meet
          exact ⟨rfl, (Fr.refl _ _).drew⟩
      case rest =>
        obtain ⟨rfl, hfx⟩ := hcut
        have ht2 := (hfx.cell _ _ (lt_of_cell ht1) (by simp)).trans ht1
        have hz2 := (hfx.frozen _ _ (lt_of_cell ht1) (by simp)).trans ((hfa.frozen _ _ hlt0 (by simp)).trans hz0)
        have k3 : wc.cell? ⟨wr.heap.size, 3, none⟩ = some (ii u.x) := cell_of_heap (hfx.heap0 HUA.out)
        have k4 : wc.cell? ⟨wr.heap.size, 4, none⟩ = some (ii u.y) := cell_of_heap (hfx.heap0 HUA.out)
        have hfw : Fr [] wr wc := hfa.then0 hfx
        have HTK : Hid (∀ j, j < 144 → wc.cell? ⟨tkb, j, none⟩ = some (.bool (takenAt t.us k j))) := fun j hj => (hfw.cell _ _ hlt0 (by simp)).trans (HAP.out.tk j hj)
        have HTF : Hid (∀ j, wc.frozen? ⟨tkb, j, none⟩ = false) := fun j => (hfw.frozen _ _ hlt0 (by simp)).trans (HAP.out.fz j)
        have HWC := (show Hid _ from hfx.heap0 HUA.out)
        have hne : wr.heap.size ≠ tkb := by omega
        clear HCP HUA hb1 ht1 hz0 hfx hfa
        go_wp2_with fail
        go_cut [] (fun wx => Fr [tkb] wc wx ∧ (∀ j, j < 144 → wx.cell? ⟨tkb, j, none⟩ = some (.bool (takenAt t.us (k + 1) j))) ∧ ∀ j, wx.frozen? ⟨tkb, j, none⟩ = false)
        case first =>
          go_region
          go_wp2_with fail
          go_meet
          refine ⟨((Fr.refl _ _).setCell _ _ (Or.inl (by simp))).drew, fun j hj => ?_, fun j => ?_⟩
          · show (wc.setCell ⟨tkb, u.y.toNat * 12 + u.x.toNat, none⟩ (.bool true)).cell? ⟨tkb, j, none⟩ = _
            rw [takenAt_succ HU.out]
            by_cases e : j = u.y.toNat * 12 + u.x.toNat
            · subst e
              rw [cell_same _ _ _ _ _ ht2]
              simp [ci]
            · rw [cell_other _ tkb (u.y.toNat * 12 + u.x.toNat) tkb j _ (Or.inr (fun h => e h.symm)), HTK.out j hj]
              have : (ci u.x u.y == j) = false := by unfold ci; simpa using fun h => e h.symm
              rw [this, Bool.or_false]
          · show (wc.setCell ⟨tkb, u.y.toNat * 12 + u.x.toNat, none⟩ (.bool true)).frozen? ⟨tkb, j, none⟩ = _
            rw [World.frozen?_setCell]
            exact HTF.out j
        case rest =>
          obtain ⟨hfd, htd, hzd⟩ := hcut
          have hUd := hfd.heap HWC.out (by simp; exact hne)
          have HTD := (show Hid _ from htd)
          have HZD := (show Hid _ from hzd)
          have hfinal : Fr [tkb] W4 wc := (HAP.out.fr.then0 hfw).trans hfd (by simp)
          have HFN := (show Hid _ from hfinal)
          have HSU := (show Hid _ from kindsTo_succ HU.out)
          have k2 : wc.cell? ⟨wr.heap.size, 2, none⟩ = some (ii u.kind) := cell_of_heap hUd
          have k5 : wc.cell? ⟨wr.heap.size, 5, none⟩ = some (ii u.life) := cell_of_heap hUd
          have k6 : wc.cell? ⟨wr.heap.size, 6, none⟩ = some (ii u.load) := cell_of_heap hUd
          have hlf := HUK.out.lf
          have hld := HUK.out.ld
          obtain ⟨kd, hkd⟩ : ∃ x, u.kind = x := ⟨_, rfl⟩
          have hkk := HUK.out.kd
          rw [hkd] at k2 hlf hld hkk
          have HKD := (show Hid _ from hkd)
          obtain ⟨lf, hlfe⟩ : ∃ x, u.life = x := ⟨_, rfl⟩
          obtain ⟨ld, hlde⟩ : ∃ x, u.load = x := ⟨_, rfl⟩
          rw [hlfe] at k5 hlf
          rw [hlde] at k6 hld
          obtain ⟨l1, l2⟩ := hlf
          obtain ⟨d1, d2, d3⟩ := hld
          clear hkd hlfe hlde hUd htd hzd hfinal hfd hfw ht2 hz2 k3 k4
          have q1 : ¬ (lf < 1) := by omega
          have q1b : decide (lf < 1) = false := by simpa using l1
          have q3 : ¬ (ld < 0) := by omega
          have q3b : decide (ld < 0) = false := by simpa using d1
          have q4 : ¬ (5 < ld) := by omega
          have q4b : decide (5 < ld) = false := by simpa using d2
          have hcs : (kd = 1 ∧ ld = 0) ∨ (kd = 2 ∧ ld = 0) ∨ (kd = 2 ∧ 0 < ld) ∨ (kd = 3 ∧ ld = 0) := by omega
          have fin : ∀ (b : Value) (w9 : World), b = .int .i64 (kindsTo t.us (k + 1) : Nat) → Fr [] wc w9 → ApI t.us tkb W4 (k + 1) b w9 := fun b w9 e hf => ⟨fun j hj => (hf.cell _ _ (lt_of_cell (HTD.out j hj)) (by simp)).trans (HTD.out j hj), fun j => (hf.frozen _ _ (lt_of_cell (HTD.out 0 (by omega))) (by simp)).trans (HZD.out j), HFN.out.then0 hf, e⟩
          have FIN := (show Hid _ from fin)
          clear hkk fin
          rcases hcs with ⟨rfl, rfl⟩ | ⟨rfl, rfl⟩ | ⟨rfl, hpos⟩ | ⟨rfl, rfl⟩
          · have l3 : lf ≤ 40 := l2
            have q2 : ¬ (40 < lf) := by omega
            have q2b : decide (40 < lf) = false := by simpa using l3
            clear l2 d3
            go_wp2_with fail
            go_roundw
            case rel => exact ⟨k + 1, hlt, by go_num, FIN.out _ _ (by rw [HSU.out, HKD.out]; simp) (Fr.refl _ _)⟩
            case measure => simp [intOf]; omega
          · have l3 : lf ≤ 8 := l2
            have q2 : ¬ (8 < lf) := by omega
            have q2b : decide (8 < lf) = false := by simpa using l3
            clear l2 d3
            go_wp2_with fail
            go_roundw
            case rel => exact ⟨k + 1, hlt, by go_num, FIN.out _ _ (by rw [HSU.out, HKD.out]; simp) (Fr.refl _ _)⟩
            case measure => simp [intOf]; omega
          · have l3 : lf ≤ 8 := l2
            have q2 : ¬ (8 < lf) := by omega
            have q2b : decide (8 < lf) = false := by simpa using l3
            clear l2 d3
            go_wp2_with fail
            go_roundw
            case rel => exact ⟨k + 1, hlt, by go_num, FIN.out _ _ (by rw [HSU.out, HKD.out]; simp) (Fr.refl _ _)⟩
            case measure => simp [intOf]; omega
          · have l3 : lf ≤ 12 := l2
            have q2 : ¬ (12 < lf) := by omega
            have q2b : decide (12 < lf) = false := by simpa using l3
            clear l2 d3
            go_wp2_with fail
            go_roundw
            case rel => exact ⟨k + 1, hlt, by go_num, FIN.out _ _ (by rw [HSU.out, HKD.out]; simp) (Fr.refl _ _)⟩
            case measure => simp [intOf]; omega
    · have hlti : ¬ (k : Int) < (t.us.length : Int) := by omega
      have hfd : ∀ (a b c d : Int) (w : World), (Instr.field 36 (.agg #[ii a, ii b, ii c, ii d]) 1).run Tryd.prog w = .ok (ii b) w := fun a b c d w => by kernel_rfl
      have hke : k = t.us.length := by omega
      have hbw := bases_win hok
      rw [← hke] at hbw
      have hgr := HG.out.fr (HW4.out.trans hap.fr (by simp; omega)) (by simp) (by simp)
      have hall := HW4.out.trans hap.fr (S := []) (by simp; omega)
      have hlk := look_any gb pb cap t wr hgr
      obtain ⟨wn, hwn⟩ : ∃ x, x = winI t.us := ⟨_, rfl⟩
      obtain ⟨kb, hkb⟩ : ∃ x, x = kindsTo t.us k := ⟨_, rfl⟩
      rw [← hwn] at hlk hbw
      rw [← hkb] at hbw hble ⊢
      have HLK := (show Hid _ from hlk)
      clear hlk hwn hkb hke hap
      rcases hbw with ⟨rfl, rfl⟩ | ⟨rfl, hw0⟩
      all_goals
        go_wp2_with (go_at_call 10; refine Calls.mono HLK.out ?_; rintro e w9 ⟨rfl, hf9⟩)
        go_ret
        exact ⟨rfl, hall.then0 hf9⟩
end Go.Proofs.YtapabahhfanmmaaDoor
