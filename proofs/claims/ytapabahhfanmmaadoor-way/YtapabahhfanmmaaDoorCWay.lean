import Derived.Test.YtapabahhfanmmaaDoorCWayP
import Derived.Test.YtapabahhfanmmaaDoorCBegun
import Derived.Test.YtapabahhfanmmaaDoorCCommand
/- Way. -/
namespace Go.Proofs.YtapabahhfanmmaaDoor
open Go.RowKit Classical

def rockAt (rs : List Int) (i : Nat) : Int := match rs[i]? with | some x => if pk x 3 = 0 then 0 else 9 | none => 9
def rockL (rs : List Int) : List Int := (List.range 144).map (rockAt rs)

def rockTo (rs : List Int) (k j : Nat) : Int := if j < k then rockAt rs j else 0
theorem rockTo_succ (rs : List Int) (k j : Nat) : rockTo rs (k + 1) j = if j = k then rockAt rs k else rockTo rs k j := by
  unfold rockTo
  by_cases e : j = k
  · subst e; simp
  · rw [if_neg e]
    by_cases h : j < k
    · rw [if_pos (by omega), if_pos h]
    · rw [if_neg (by omega), if_neg h]
theorem rockAt_bd (rs : List Int) (i : Nat) : rockAt rs i = 0 ∨ rockAt rs i = 9 := by
  unfold rockAt
  split
  · split
    · exact Or.inl rfl
    · exact Or.inr rfl
  · exact Or.inr rfl
theorem made144 : (madeCells (ii 0).cells (144 * 1)).toList = List.replicate 144 (ii 0) := by kernel_rfl
theorem far_of_own {w : World} {base g n : Nat} (h : w.ownsRow base 3 1 (.slice (some ⟨g, 0, none⟩) 144 n) 144 (List.replicate 144 (ii 0))) : FarAt w g (fun _ => 0) := by
  rcases h.2 with ⟨h1, _⟩ | ⟨g', cap, cur, e, hg, hh, hc, hm, hs, hq⟩
  · cases h1
  · simp at e
    obtain ⟨rfl, rfl⟩ := e
    refine ⟨fun j hj => ?_, fun j => frozen_of_heap hh⟩
    rw [cell_of_heap hh]
    have := congrArg (fun l : List Value => l[j]?) hq
    simp only [List.getElem?_take_of_lt (show j < 144 * 1 by omega)] at this
    rw [← Array.getElem?_toList, this, List.getElem?_replicate, if_pos hj]

theorem zcFar : Tryd.zeroCells49 = Array.replicate 144 (ii 0) := by kernel_rfl
theorem built_cases (cs : List Int) : ((∃ a : Cl, (playT (startT cs) [⟨1, 4, 2, 0, 0⟩] []).1.us = [bas0, bas1, wk a 0 (0, 0)] ∧ onB a.1 a.2 = true ∧ grd (bdOf cs) a = true) ∨ (playT (startT cs) [⟨1, 4, 2, 0, 0⟩] []).1.us.length = 2) ∧ (playT (startT cs) [⟨1, 4, 2, 0, 0⟩] []).1.bd = bdOf cs ∧ (playT (startT cs) [⟨1, 4, 2, 0, 0⟩] []).1.turn = 1 := by
  obtain ⟨hd, h⟩ := play_build cs
  rw [h]
  by_cases e1 : bdOf cs 1 = 0
  · rw [if_pos e1]
    refine ⟨Or.inl ⟨(1, 0), rfl, by decide, ?_⟩, rfl, rfl⟩
    show (bdOf cs 1 == 0 && decide (((1, 0) : Cl) ≠ (0, 0)) && decide (((1, 0) : Cl) ≠ (11, 11))) = true
    rw [e1]
    decide
  · rw [if_neg e1]
    by_cases e2 : bdOf cs 12 = 0
    · rw [if_pos e2]
      refine ⟨Or.inl ⟨(0, 1), rfl, by decide, ?_⟩, rfl, rfl⟩
      show (bdOf cs 12 == 0 && decide (((0, 1) : Cl) ≠ (0, 0)) && decide (((0, 1) : Cl) ≠ (11, 11))) = true
      rw [e2]
      decide
    · rw [if_neg e2]
      exact ⟨Or.inr rfl, rfl, rfl⟩

set_option maxRecDepth 100000 in
set_option maxHeartbeats 4000000 in
theorem way_walk (W : World) (v0 : Value) (rs : List Int) (x y : Int) (hv0 : IntsV W v0 rs) (hx : I64 x) (hy : I64 y) (hsd : Sd W) : Calls Tryd.prog 5 #[v0, .int .i64 x, .int .i64 y] W fun e W' => e = .returned (.bool true) ∧ Fr [] W W' := by
  obtain ⟨a0, lc, rfl⟩ : ∃ a0 lc, v0 = .slice a0 rs.length lc := by
    rcases hv0 with ⟨ao, lc, rfl, rfl⟩ | ⟨lb, lo, lc, rfl, _⟩
    · exact ⟨_, _, rfl⟩
    · exact ⟨_, _, rfl⟩
  have HV := (show Hid _ from hv0)
  clear hv0
  obtain ⟨inf, hi0, hz0, hz1, hz2⟩ := info_parts infoI
  obtain ⟨w1, hrun, hown, hgrow⟩ := run_makeSlice_full (P := Tryd.prog) (w := W) W.heap.size 22 3 inf (ii 0) 1 Tryd.underlying22 hi0 hz0 hz1 .i64 .i64 144 (by omega) (by rw [hz2]; omega) (by unfold maxLen; omega) (Nat.le_refl _)
  rw [made144] at hown
  have hf1 : Fr [] W w1 := Fr.grow (Fr.refl _ _) hgrow (fun g hg => by cases hg)
  have hfar0 := far_of_own hown
  have hrun' : (Instr.makeSlice 22 (.int .i64 144) (.int .i64 144)).run Tryd.prog W = .ok (.slice (some ⟨W.heap.size, 0, none⟩) 144 144) w1 := hrun
  obtain ⟨cb, hcb⟩ : ∃ x, x = W.heap.size := ⟨_, rfl⟩
  rw [← hcb] at hrun' hfar0
  have HCB := (show Hid _ from hcb)
  clear hrun hown hgrow hcb hi0 hz0 hz1 hz2
  go_enter Tryd.func5, Tryd.ntmps5
  go_wp2_with fail
  clear hrun'
  go_loopw [8] (fun i wr => ∃ k : Nat, k ≤ 144 ∧ i = .int .i64 k ∧ Fr [] W wr ∧ FarAt wr cb (rockTo rs k)) (fun i _ => 144 - (intOf i).toNat)
  case atStart => exact ⟨0, by omega, rfl, hf1, hfar0.same (fun j => by simp [rockTo])⟩
  case round =>
    obtain ⟨k, hk, rfl, hfr, hfar⟩ := hrel
    by_cases hlt : k < 144
    · have hlti : (k : Int) < 144 := by omega
      have hcell := hfar.cell k hlt
      have hfz := hfar.fz k
      by_cases hrl : k < rs.length
      · have hrli : (k : Int) < (rs.length : Int) := by omega
        obtain ⟨lb, lo, rfl, hcc, hbd⟩ : ∃ lb lo, a0 = some ⟨lb, lo, none⟩ ∧ W.cell? ⟨lb, lo + k, none⟩ = some (ii rs[k]) ∧ I64 rs[k] := by
          rcases HV.out with ⟨ao, lc', e1, e2⟩ | ⟨lb, lo, lc', e1, hcc, hb⟩
          · rw [e2] at hrl; simp at hrl
          · exact ⟨lb, lo, by simpa using congrArg (fun v : Value => match v with | .slice a _ _ => a | _ => none) e1, hcc k hrl, hb _ (List.getElem_mem hrl)⟩
        have hlb : lb < cb := by rw [HCB.out]; exact lt_of_cell hcc
        have hcr := (hfr.cell _ _ (lt_of_cell hcc) (by simp)).trans hcc
        obtain ⟨v, hv⟩ : ∃ v, rs[k] = v := ⟨_, rfl⟩
        rw [hv] at hcr hbd
        have HGV : Hid (rs[k]? = some v) := by show _ = _; rw [List.getElem?_eq_getElem hrl, hv]
        have n1 : ¬ cb = lb := by omega
        have n2 : ¬ lb = cb := by omega
        obtain ⟨q, hq⟩ : ∃ q, pk v 3 = q := ⟨_, rfl⟩
        have P1 := (show Hid _ from fun W : World => hq ▸ pick_any v 3 W (by omega) hbd.1 hbd.2)
        have HQ := (show Hid _ from hq)
        clear hv hcc hq
        by_cases hq0 : q = 0
        · subst hq0
          go_wp2_with (go_at_call 14; with_reducible refine Calls.mono (P1.out _) ?_; rintro e w2 ⟨rfl, rfl⟩)
          have HR : Hid (rockAt rs k = 0) := by show _ = _; unfold rockAt; rw [HGV.out]; show (if pk v 3 = 0 then (0 : Int) else 9) = 0; rw [HQ.out]; rfl
          go_roundw
          case rel => exact ⟨k + 1, hlt, by go_num, (hfr.setCell _ _ (Or.inr (by show W.heap.size ≤ cb; rw [HCB.out]; exact Nat.le_refl _))).setCell _ _ (Or.inr (by show W.heap.size ≤ cb; rw [HCB.out]; exact Nat.le_refl _)), (hfar.set k hlt 9 (G := fun j => if j = k then 9 else rockTo rs k j) (fun j => rfl)).set k hlt 0 (fun j => by
            rw [rockTo_succ, HR.out]
            by_cases e : j = k
            · rw [if_pos e, if_pos e]
            · rw [if_neg e, if_neg e]; show _ = if j = k then 9 else rockTo rs k j; rw [if_neg e])⟩
          case measure => simp [intOf]; omega
        · have hq0b : (q == 0) = false := by simpa using hq0
          go_wp2_with (go_at_call 14; with_reducible refine Calls.mono (P1.out _) ?_; rintro e w2 ⟨rfl, rfl⟩)
          have HR : Hid (rockAt rs k = 9) := by show _ = _; unfold rockAt; rw [HGV.out]; show (if pk v 3 = 0 then (0 : Int) else 9) = 9; rw [HQ.out, if_neg hq0]
          go_roundw
          case rel => exact ⟨k + 1, hlt, by go_num, hfr.setCell _ _ (Or.inr (by show W.heap.size ≤ cb; rw [HCB.out]; exact Nat.le_refl _)), hfar.set k hlt 9 (fun j => by rw [rockTo_succ, HR.out])⟩
          case measure => simp [intOf]; omega
      · have hrli : ¬ (k : Int) < (rs.length : Int) := by omega
        have hrlb : decide ((k : Int) < (rs.length : Int)) = false := by simpa using hrl
        have HR : Hid (rockAt rs k = 9) := by show _ = _; unfold rockAt; rw [List.getElem?_eq_none (by omega)]
        go_wp2_with fail
        go_roundw
        case rel => exact ⟨k + 1, hlt, by go_num, hfr.setCell _ _ (Or.inr (by show W.heap.size ≤ cb; rw [HCB.out]; exact Nat.le_refl _)), hfar.set k hlt 9 (fun j => by rw [rockTo_succ, HR.out])⟩
        case measure => simp [intOf]; omega
    · have hlti : ¬ (k : Int) < 144 := by omega
      have hk4 : k = 144 := by omega
      have hiv : IntsV wr (.slice (some ⟨cb, 0, none⟩) 144 144) (rockL rs) := by
        refine Or.inr ⟨cb, 0, 144, by simp [rockL], fun i hi => ?_, fun c hc => ?_⟩
        · have hi' : i < 144 := by simpa [rockL] using hi
          rw [Nat.zero_add, hfar.cell i hi']
          unfold rockTo
          rw [if_pos (by omega)]
          simp [rockL]
        · obtain ⟨i, _, rfl⟩ := List.mem_map.1 hc
          unfold I64
          rcases rockAt_bd rs i with h | h <;> rw [h] <;> omega
      have hsdr := hsd.fr0 hfr
      have hbg := begun_any _ (rockL rs) wr hiv hsdr
      obtain ⟨hbt, hbb, htt⟩ := built_cases (rockL rs)
      have hok0 := start_ok (rockL rs)
      have hs0 : (startT (rockL rs)).turn = 0 := rfl
      obtain ⟨t0, ht0⟩ : ∃ t0, t0 = startT (rockL rs) := ⟨_, rfl⟩
      rw [← ht0] at hbg hbt hbb htt hok0 hs0
      clear hiv hfar ht0 hfar0 hf1 hk4
      go_wp2_with fail
      refine Calls.mono hbg ?_
      rintro e w2 ⟨gb, pb, cap, rfl, hg2, hgl, hpl, hf2⟩
      dsimp only
      clear hbg
      have hw2 := hfr.then0 hf2
      go_wp2_with fail
      obtain ⟨W3, hW3⟩ : ∃ W, W = w2.alloc (.cells #[ii 1, ii 4, ii 2, ii 0, ii 0] 47) := ⟨_, rfl⟩
      rw [← hW3]
      have hw23 : Fr [] w2 W3 := by rw [hW3]; exact (Fr.refl _ _).alloc _
      have hcm : CmdV W3 (.slice (some ⟨w2.heap.size, 0, none⟩) 1 1) [⟨1, 4, 2, 0, 0⟩] := cmds_one (c1 := ⟨1, 4, 2, 0, 0⟩) (by rw [hW3]; exact hp_new _ _) 1
      have hw3 := hw2.then0 hw23
      have hpl3 := gamePlay_any gb pb cap t0 [⟨1, 4, 2, 0, 0⟩] [] _ _ W3 (hg2.fr hw23 (by simp) (by simp)) (hsd.fr0 hw3) hok0 ⟨by omega, by omega⟩ hcm cmds_nil (by simp) (by simp)
      have hpo := play_ok hok0 [⟨1, 4, 2, 0, 0⟩] [] (by omega)
      obtain ⟨t1, ht1⟩ : ∃ t1, t1 = (playT t0 [⟨1, 4, 2, 0, 0⟩] []).1 := ⟨_, rfl⟩
      rw [← ht1] at hpl3 hpo hbt hbb htt
      have hok1 := hpo.ok
      have hgW : W.heap.size ≤ gb := by have := hfr.size; omega
      clear hW3 hcm ht1 hpo hok0 hs0 hg2
      refine Calls.mono hpl3 ?_
      rintro e w4 ⟨v4, pb4, cap4, rfl, hf4, hg4, _, _⟩
      dsimp only
      have hw4 : Fr [] W w4 := hw3.trans hf4 (by simp; omega)
      clear hpl3
      go_wp2_with fail
      refine Calls.mono (people_any gb pb4 cap4 t1 w4 hg4) ?_
      rintro e w5 ⟨pb5, cap5, rfl, hb5, hrow5, hf5⟩
      dsimp only
      have hw5 := hw4.then0 hf5
      have hg5 := hg4.fr hf5 (by simp) (by simp)
      rcases hbt with ⟨a, hus, hona, hgra⟩ | hlen2
      · have hl3 : t1.us.length = 3 := by rw [hus]; rfl
        have hc3 := hrow5.ppl.at (u := wk a 0 (0, 0)) (k := 2) (by rw [hus]; rfl)
        obtain ⟨_, _, _, c3, c4, _, _, _, _, _, _⟩ := hc3
        have HUS := (show Hid _ from hus)
        rw [hl3]
        clear hl3 hus
        have hce := cells_any gb pb4 cap4 t1 w5 hg5
        rw [hbb] at hce
        obtain ⟨bd, hbd⟩ : ∃ bd, bd = bdOf (rockL rs) := ⟨_, rfl⟩
        rw [← hbd] at hce hbb hgra
        obtain ⟨toX, htx⟩ : ∃ n : Nat, pk x 12 = n := ⟨(pk x 12).toNat, by have := (pk_bd x 12 (by omega)).1; omega⟩
        obtain ⟨toY, hty⟩ : ∃ n : Nat, pk y 12 = n := ⟨(pk y 12).toNat, by have := (pk_bd y 12 (by omega)).1; omega⟩
        have hxl : toX < 12 := by have := (pk_bd x 12 (by omega)).2; omega
        have hyl : toY < 12 := by have := (pk_bd y 12 (by omega)).2; omega
        have P1 := (show Hid _ from fun W : World => htx ▸ pick_any x 12 W (by omega) hx.1 hx.2)
        have P2 := (show Hid _ from fun W : World => hty ▸ pick_any y 12 W (by omega) hy.1 hy.2)
        have HRW := (show Hid _ from hrow5)
        clear htx hty hrow5 c3 c4
        go_wp2_with fail
        refine Calls.mono hce ?_
        rintro e w6 ⟨rfl, hf6⟩
        dsimp only
        obtain ⟨bl, hbl⟩ : ∃ x, x = boardL bd := ⟨_, rfl⟩
        rw [← hbl]
        have hbll : bl.length = 144 := by rw [hbl]; exact boardL_len _
        have HO : Hid (bl.toArray.all (·.oneCell') = true) := by
          show _ = _
          rw [hbl]; exact boardL_one _
        have HI : Hid ((Tryd.prog.info? 50).map (·.size) = some bl.toArray.size) := by
          show _ = _
          rw [infoBoard, List.size_toArray, hbll]
        have HZ : Hid (Tryd.zeroCells50.size = bl.toArray.size) := by
          show _ = _
          exact zcBoard.trans (by simp [hbll])
        have HBL := (show Hid _ from hbl)
        have hw6 := hw5.then0 hf6
        have hrw6 := HRW.out.fr hf6 (by simp)
        clear hbl hbll hce
        go_wp2_with (first | (refine wpList_store_row rfl 50 _ _ rfl w6.heap.size bl.toArray rfl rfl 50 Tryd.zeroCells50 (hp_new w6 _) HI.out HZ.out HO.out ?_) | (go_at_call 14; first | (with_reducible refine Calls.mono (P1.out _) ?_; rintro e w2 ⟨rfl, rfl⟩) | (with_reducible refine Calls.mono (P2.out _) ?_; rintro e w2 ⟨rfl, rfl⟩)))
        obtain ⟨W6, hW6⟩ : ∃ W, W = (w6.alloc (.cells Tryd.zeroCells50 50)).setRow w6.heap.size bl.toArray := ⟨_, rfl⟩
        rw [← hW6]
        have hb6 : W6.heap[w6.heap.size]? = some (.cells bl.toArray 50) := by rw [hW6]; exact setRow_heap _ _ _ _ _ _ (hp_new _ _)
        have hf66 : Fr [] w6 W6 := by rw [hW6]; exact ((Fr.refl _ _).alloc _).setRow _ _ (Or.inr (Nat.le_refl _))
        have hs6 : W6.heap.size = w6.heap.size + 1 := by rw [hW6]; simp [World.setRow]
        obtain ⟨bk, hbk⟩ : ∃ x, x = w6.heap.size := ⟨_, rfl⟩
        rw [← hbk] at hb6 hs6 ⊢
        clear hW6
        obtain ⟨W7, hW7⟩ : ∃ W, W = W6.alloc (.cells Tryd.zeroCells49 49) := ⟨_, rfl⟩
        rw [← hW7]
        have hf67 : Fr [] W6 W7 := by rw [hW7]; exact (Fr.refl _ _).alloc _
        have hh7 : W7.heap[W6.heap.size]? = some (.cells (Array.replicate 144 (ii 0)) 49) := by rw [hW7, hp_new, zcFar]
        obtain ⟨fb, hfb⟩ : ∃ x, x = bk + 1 := ⟨_, rfl⟩
        rw [hs6, ← hfb] at hh7
        rw [← hfb]
        have hfar7 : FarAt W7 fb (fun _ => 0) := ⟨fun j hj => by rw [cell_of_heap hh7]; simp [hj], fun j => frozen_of_heap hh7⟩
        have hw67 : Fr [] w6 W7 := hf66.then0 hf67
        obtain ⟨_, _, _, c3, c4, _, _, _, _, _, _⟩ := (hrw6.fr hw67 (by simp)).ppl.at (u := wk a 0 (0, 0)) (k := 2) (by rw [HUS.out]; rfl)
        obtain ⟨o1, o2, o3, o4⟩ := onB_iff.1 hona
        have hcia : ci a.1 a.2 < 144 := ci_lt hona
        have hfc := hfar7.cell _ hcia
        have hfz7 := hfar7.fz (ci a.1 a.2)
        unfold ci at hfc hfz7
        have HF7 := (show Hid _ from hfar7)
        have HBK := (show Hid _ from hbk)
        have HFB := (show Hid _ from hfb)
        clear hW7 hh7 hfar7 hbk hfb hs6
        go_cut [] (fun wx => Fr [fb] W7 wx ∧ FarAt wx fb (fun j => if j = ci a.1 a.2 then 1 else 0))
        case first =>
          go_region
          go_wp2_with fail
          go_meet
          have hset := HF7.out.set (ci a.1 a.2) hcia 1 (G := fun j => if j = ci a.1 a.2 then 1 else 0) (fun j => rfl)
          exact ⟨((Fr.refl [fb] W7).setCell _ _ (Or.inl (by simp))).drew, ⟨fun j hj => hset.cell j hj, fun j => hset.fz j⟩⟩
        case rest =>
          obtain ⟨hf8, hfar8⟩ := hcut
          have hlb7 : bk < W7.heap.size := Nat.lt_of_lt_of_le (lt_of_heap hb6) hf67.size
          have hb7 := hf67.heap0 hb6
          have hnb : bk ≠ fb := by rw [HFB.out]; omega
          have HIB : Hid ((Tryd.prog.info? 50).map (·.size) = some bl.length) := by show _ = _; have := HI.out; rwa [List.size_toArray] at this
          have HRG : Hid (∀ w', Fr [fb] W7 w' → w'.rangeAt bk 0 bl) := fun w' hf j v hv => by
            rw [Nat.zero_add, cell_of_heap (hf.heap hb7 (by simp; exact hnb))]
            simpa using hv
          have hfar9 : FarAt wc fb (farM bd a 1 0) := hfar8.same (fun j => farM_first bd a hona j)
          clear hfar8 c3 c4 hfc hfz7 HF7 hb6 hb7
          go_wp2_with fail
          go_loopw [15] (fun i wr => ∃ m : Nat, 0 < m ∧ m ≤ 145 ∧ i = .int .i64 m ∧ Fr [fb] W7 wr ∧ FarAt wr fb (farM bd a m 0)) (fun i _ => 145 - (intOf i).toNat)
          case atStart => exact ⟨1, by omega, by omega, rfl, hf8, hfar9⟩
          case round =>
            obtain ⟨m, hm0, hm, rfl, hfm, hfarm⟩ := hrel
            by_cases hml : m ≤ 144
            · have hmli : (m : Int) ≤ 144 := by omega
              go_wp2_with fail
              go_loopw [16] (fun i wr => ∃ yy : Nat, yy ≤ 12 ∧ i = .int .i64 yy ∧ Fr [fb] W7 wr ∧ FarAt wr fb (farM bd a m (yy * 12))) (fun i _ => 12 - (intOf i).toNat)
              case atStart => exact ⟨0, by omega, rfl, hfm, by rw [Nat.zero_mul]; exact hfarm⟩
              case round =>
                obtain ⟨yy, hy12, rfl, hfy, hfary⟩ := hrel
                by_cases hyt : yy < 12
                · have hyti : (yy : Int) < 12 := by omega
                  go_wp2_with fail
                  go_loopw [17] (fun i wr => ∃ xx : Nat, xx ≤ 12 ∧ i = .int .i64 xx ∧ Fr [fb] W7 wr ∧ FarAt wr fb (farM bd a m (yy * 12 + xx))) (fun i _ => 12 - (intOf i).toNat)
                  case atStart => exact ⟨0, by omega, rfl, hfy, hfary⟩
                  case round =>
                    obtain ⟨xx, hx12, rfl, hfx, hfarx⟩ := hrel
                    by_cases hxt : xx < 12
                    · have hxti : (xx : Int) < 12 := by omega
                      have hp : yy * 12 + xx < 144 := by omega
                      have hcl := hfarx.cell _ hp
                      obtain ⟨g, hg⟩ : ∃ g, farM bd a m (yy * 12 + xx) (yy * 12 + xx) = g := ⟨_, rfl⟩
                      rw [hg] at hcl
                      have HGG := (show Hid _ from hg)
                      clear hg
                      by_cases hgm : g = m
                      · subst hgm
                        have hsp := spread_any fb (farM bd a m (yy * 12 + xx)) bd yy xx ((m : Int) + 1) _ hyt hxt hfarx
                        rw [← HBL.out] at hsp
                        have HSP := (show Hid _ from hsp)
                        have hrg := HRG.out _ hfx
                        clear hsp
                        go_wp2_with (refine wpList_load_mid rfl 50 _ rfl bk 0 rfl bl _ hrg Tryd.underlying50 rfl HIB.out ?_)
                        refine Calls.mono HSP.out ?_
                        rintro e w9 ⟨rfl, hf9, hfar10⟩
                        dsimp only
                        go_wp2_with fail
                        go_roundw
                        case rel => exact ⟨xx + 1, hxt, by go_num, hfx.trans hf9 (by simp), hfar10.same (fun j => by
                          have hcp : cel (yy * 12 + xx) = ((xx : Int), (yy : Int)) := by unfold cel; apply Prod.ext <;> dsimp only <;> omega
                          have := farM_ask bd a hm0 hp HGG.out j
                          rw [hcp] at this
                          exact this)⟩
                        case measure => simp [intOf]; omega
                      · have hgb : (g == (m : Int)) = false := by simpa using hgm
                        go_wp2_with fail
                        go_roundw
                        case rel => exact ⟨xx + 1, hxt, by go_num, hfx, hfarx.same (fun j => farM_skip bd a hm0 hp (by rw [HGG.out]; exact hgm) j)⟩
                        case measure => simp [intOf]; omega
                    · have hxti : ¬ (xx : Int) < 12 := by omega
                      have hxe : xx = 12 := by omega
                      have HXE := (show Hid _ from hxe)
                      clear hxe
                      go_wp2_with fail
                      go_roundw
                      case rel => exact ⟨yy + 1, hyt, by go_num, hfx, by have := HXE.out; rw [this, show yy * 12 + 12 = (yy + 1) * 12 by omega] at hfarx; exact hfarx⟩
                      case measure => simp [intOf]; omega
                · have hyti : ¬ (yy : Int) < 12 := by omega
                  have hye : yy = 12 := by omega
                  have HYE := (show Hid _ from hye)
                  clear hye
                  go_wp2_with fail
                  go_roundw
                  case rel => exact ⟨m + 1, by omega, by omega, by go_num, hfy, hfary.same (fun j => by rw [HYE.out]; exact farM_next bd a hona hm0 j)⟩
                  case measure => simp [intOf]; omega
            · have hmli : ¬ (m : Int) ≤ 144 := by omega
              have hme : m = 145 := by omega
              have HME := (show Hid _ from hme)
              clear hme
              have hp : toY * 12 + toX < 144 := by omega
              have hfv := hfarm.cell _ hp
              obtain ⟨fv, hfve⟩ : ∃ v, farM bd a m 0 (toY * 12 + toX) = v := ⟨_, rfl⟩
              rw [hfve] at hfv
              have hfvb := farM_le bd a m 0 (toY * 12 + toX)
              rw [hfve] at hfvb
              have HFV := (show Hid _ from hfve)
              have hbc := HRG.out _ hfm (toY * 12 + toX) (ii (bd (toY * 12 + toX))) (by rw [HBL.out]; unfold boardL; rw [List.getElem?_map, List.getElem?_range hp]; rfl)
              rw [Nat.zero_add] at hbc
              have hg6 := (hg5.fr hf6 (by simp) (by simp)).fr hw67 (by simp) (by simp)
              have hgl6 := hg5.lt
              have hpl6 := hg5.row.lt
              have hs66 := hf6.size
              have hgbk : gb < bk := by rw [HBK.out]; omega
              have hfbl : w6.heap.size < fb := by rw [HFB.out, HBK.out]; omega
              have hg10 := hg6.fr hfm (by simp; omega) (by simp; omega)
              have hw10 : Fr [] W (wr) := (hw6.then0 hw67).trans hfm (by simp; have := hw6.size; omega)
              obtain ⟨bv, hbve⟩ : ∃ v, bd (toY * 12 + toX) = v := ⟨_, rfl⟩
              rw [hbve] at hbc
              have HBV := (show Hid _ from hbve)
              clear hfve hbve hg6 hfarm HRG HIB hgl6 hpl6
              have hf145 : (m : Int) + 1 ≤ 1000 := by omega
              go_wp2_with fail
              obtain ⟨W11, hW11⟩ : ∃ W, W = wr.alloc (.cells #[ii 3, ii 1, ii (toX : Int), ii (toY : Int), ii 0] 47) := ⟨_, rfl⟩
              rw [← hW11]
              have hf11 : Fr [] wr W11 := by rw [hW11]; exact (Fr.refl _ _).alloc _
              have hcm : CmdV W11 (.slice (some ⟨wr.heap.size, 0, none⟩) 1 1) [⟨3, 1, toX, toY, 0⟩] := cmds_one (c1 := ⟨3, 1, toX, toY, 0⟩) (by rw [hW11]; exact hp_new _ _) 1
              have hw11 := hw10.then0 hf11
              have hpl11 := gamePlay_any gb pb4 cap4 t1 [⟨3, 1, toX, toY, 0⟩] [] _ _ W11 (hg10.fr hf11 (by simp) (by simp)) (hsd.fr0 hw11) hok1 ⟨by omega, by omega⟩ hcm cmds_nil (by simp) (by simp)
              have hpo11 := play_ok hok1 [⟨3, 1, toX, toY, 0⟩] [] (by omega)
              have hbkl : bk < wr.heap.size := lt_of_cell hbc
              clear hW11 hcm
              by_cases hrock : bv = 10
              · have hciT : ci (toX : Int) (toY : Int) = toY * 12 + toX := by unfold ci; omega
                have hbT : t1.bd (ci (toX : Int) (toY : Int)) = 10 := by rw [hbb, hciT, HBV.out, hrock]
                have hpr := play_rock t1 a ((toX : Int), (toY : Int)) HUS.out (by omega) hbT
                have hpr' : (playT t1 [⟨3, 1, toX, toY, 0⟩] []).2 = ([0], []) := hpr
                rw [hpr'] at hpl11
                subst hrock
                clear hpr hpr' hpo11 hciT hbT
                refine Calls.mono hpl11 ?_
                rintro e w12 ⟨v12, pb12, cap12, rfl, hf12, hg12, _, hrefs⟩
                dsimp only
                obtain ⟨rb, rc, ao, ac, bo, bc, rfl, r0, r1, hrb⟩ := hrefs.see
                have hbc12 := (hf12.cell _ _ (Nat.lt_of_lt_of_le hbkl hf11.size) (by simp; omega)).trans ((hf11.cell _ _ hbkl (by simp)).trans hbc)
                have hw12 : Fr [] W w12 := hw11.trans hf12 (by simp; omega)
                clear hpl11 hrefs
                go_wp2_with fail
                go_ret
                exact ⟨rfl, hw12⟩
              · have hgo := go_first t1 bd a toX toY fv HUS.out (by omega) hona hxl hyl hbb (by rw [HBV.out]; exact hrock) (by rw [← HME.out]; exact HFV.out)
                obtain ⟨hd, s1, wh1, g1, hpe, hgo1⟩ := hgo
                have hpe' : playT t1 [⟨3, 1, toX, toY, 0⟩] [] = _ := hpe
                obtain ⟨t2, ht2⟩ : ∃ t2 : T, t2 = { t1 with turn := t1.turn + 1, us := [bas0, bas1, wk s1 wh1 g1], held := hd } := ⟨_, rfl⟩
                rw [← ht2] at hpe'
                rw [hpe'] at hpl11 hpo11
                have hus2 : t2.us = [bas0, bas1, wk s1 wh1 g1] := by rw [ht2]
                have hbd2 : t2.bd = bd := by rw [ht2]; exact hbb
                have htn2 : t2.turn = 2 := by rw [ht2]; show t1.turn + 1 = 2; omega
                have hok2 := hpo11.ok
                have hrk : (bv == 10) = false := by simpa using hrock
                clear hpe hpe' hpo11 ht2
                refine Calls.mono hpl11 ?_
                rintro e w12 ⟨v12, pb12, cap12, rfl, hf12, hg12, _, hrefs⟩
                dsimp only
                obtain ⟨rb, rc, ao, ac, bo, bc, rfl, r0, r1, hrb⟩ := hrefs.see
                have hbc12 := (hf12.cell _ _ (Nat.lt_of_lt_of_le hbkl hf11.size) (by simp; omega)).trans ((hf11.cell _ _ hbkl (by simp)).trans hbc)
                have hw12 : Fr [] W w12 := hw11.trans hf12 (by simp; omega)
                have hgl12 := hg12.lt
                have hp5 := HRW.out.lt
                have hg4l := hg4.lt
                have hrow12 := (((HRW.out.fr hf6 (by simp)).fr hw67 (by simp)).fr hfm (by simp; omega)).fr hf11 (by simp)
                have hrow12 := hrow12.fr hf12 (by simp; omega)
                have HR12 := (show Hid _ from hrow12)
                have hgrb : gb < rb := by have := hf11.size; omega
                have HR0 := (show Hid _ from r0)
                have hgp5 : pb5 ≠ gb := by omega
                have hp12 : pb5 < w12.heap.size := hrow12.lt
                have hrbl : rb < w12.heap.size := lt_of_cell r0
                clear hpl11 hrefs hrow12 r0 r1 HRW HME HBV HFV hbkl hbc
                go_wp2_with fail
                go_loopw [20] (fun i wr => ∃ (n : Nat) (t : T) (pb cap : Nat) (s : Cl) (wh : Int) (g' : Cl), 0 < n ∧ n ≤ 200 ∧ i = .int .i64 n ∧ GS wr gb pb cap t ∧ GOk t ∧ t.us = [bas0, bas1, wk s wh g'] ∧ t.bd = bd ∧ t.turn = (n : Int) + 1 ∧ Goes bd a ((toX : Int), (toY : Int)) fv n s wh g' ∧ Fr [gb] w12 wr) (fun i _ => 300 - (intOf i).toNat)
                case atStart => exact ⟨1, t2, pb12, cap12, s1, wh1, g1, by omega, by omega, rfl, hg12, hok2, hus2, hbd2, by rw [htn2]; rfl, hgo1, Fr.refl _ _⟩
                case round =>
                  obtain ⟨n, t, pbn, capn, s, wh, g', hn0, hn200, rfl, hgn, hokn, husn, hbdn, htnn, hgon, hfn⟩ := hrel
                  have hwn : Fr [] W wr := hw12.trans hfn (by simp; omega)
                  have hpe := people_any gb pbn capn t wr hgn
                  have hl3 : t.us.length = 3 := by rw [husn]; rfl
                  have HPE := (show Hid _ from hpe)
                  clear hpe
                  by_cases hnw : (n : Int) < fv - 1
                  · obtain ⟨hne, hd', s', hpn, hgo'⟩ := go_next t bd a s ((toX : Int), (toY : Int)) g' wh fv n husn (by omega) hbdn hgon hnw
                    go_wp2_with fail
                    refine Calls.mono HPE.out ?_
                    rintro e w14 ⟨pb14, cap14, rfl, hb14, hrow14, hf14⟩
                    dsimp only
                    rw [hl3]
                    obtain ⟨_, _, _, c3, c4, _, _, _, _, _, _⟩ := hrow14.ppl.at (u := wk s wh g') (k := 2) (by rw [husn]; rfl)
                    have hw14 := hwn.then0 hf14
                    have hg14 := hgn.fr hf14 (by simp) (by simp)
                    have hpl14 := gamePlay_any gb pbn capn t [] [] _ _ w14 hg14 (hsd.fr0 hw14) hokn ⟨by omega, by omega⟩ cmds_nil cmds_nil (by simp) (by simp)
                    have hpo14 := play_ok hokn [] [] (by omega)
                    rw [hpn] at hpl14 hpo14
                    obtain ⟨t', ht'⟩ : ∃ t' : T, t' = { t with turn := t.turn + 1, us := [bas0, bas1, wk s' 1 ((toX : Int), (toY : Int))], held := hd' } := ⟨_, rfl⟩
                    rw [← ht'] at hpl14 hpo14
                    have hus' : t'.us = [bas0, bas1, wk s' 1 ((toX : Int), (toY : Int))] := by rw [ht']
                    have hbd' : t'.bd = bd := by rw [ht']; exact hbdn
                    have htn' : t'.turn = (n : Int) + 1 + 1 := by rw [ht']; show t.turn + 1 = _; rw [htnn]
                    have HPL := (show Hid _ from hpl14)
                    have hokn' := hpo14.ok
                    obtain ⟨sx, sy⟩ := s
                    dsimp only at c3 c4
                    have hxy : ¬ (sx = (toX : Int) ∧ sy = (toY : Int)) := fun h => hne (Prod.ext h.1 h.2)
                    clear hpl14 hpo14 ht' hpn hrow14 hne husn hokn hgn hgon
                    by_cases hx1 : sx = (toX : Int)
                    · have hy1 : (sy == (toY : Int)) = false := by
                        simp
                        intro h
                        exact hxy ⟨hx1, h⟩
                      rw [hx1] at c3
                      clear hxy hx1
                      go_wp2_with fail
                      refine Calls.mono HPL.out ?_
                      rintro e w15 ⟨v15, pb15, cap15, rfl, hf15, hg15, _, _⟩
                      dsimp only
                      go_wp2_with fail
                      go_roundw
                      case rel => exact ⟨n + 1, t', pb15, cap15, s', 1, ((toX : Int), (toY : Int)), by omega, by omega, by go_num, hg15, hokn', hus', hbd', by rw [htn']; push_cast; rfl, hgo', (hfn.then0 hf14).trans hf15 (by simp)⟩
                      case measure => simp [intOf]; omega
                    · have hx1b : (sx == (toX : Int)) = false := by simpa using hx1
                      clear hxy hx1
                      go_wp2_with fail
                      refine Calls.mono HPL.out ?_
                      rintro e w15 ⟨v15, pb15, cap15, rfl, hf15, hg15, _, _⟩
                      dsimp only
                      go_wp2_with fail
                      go_roundw
                      case rel => exact ⟨n + 1, t', pb15, cap15, s', 1, ((toX : Int), (toY : Int)), by omega, by omega, by go_num, hg15, hokn', hus', hbd', by rw [htn']; push_cast; rfl, hgo', (hfn.then0 hf14).trans hf15 (by simp)⟩
                      case measure => simp [intOf]; omega
                  · have hend := go_end hgon hnw
                    go_wp2_with fail
                    refine Calls.mono HPE.out ?_
                    rintro e w14 ⟨pb14, cap14, rfl, hb14, hrow14, hf14⟩
                    dsimp only
                    rw [hl3]
                    obtain ⟨_, _, _, c3, c4, _, _, _, _, _, _⟩ := hrow14.ppl.at (u := wk s wh g') (k := 2) (by rw [husn]; rfl)
                    have hf1214 := hfn.then0 hf14
                    have hw14 := hwn.then0 hf14
                    rcases hend with ⟨hf0, hsa⟩ | ⟨hf1, hsg⟩
                    · subst hsa
                      subst hf0
                      obtain ⟨_, _, _, d3, d4, _, _, _, _, _, _⟩ := (HR12.out.fr hf1214 (by simp; exact hgp5)).ppl.at (u := wk s 0 (0, 0)) (k := 2) (by rw [HUS.out]; rfl)
                      obtain ⟨sx, sy⟩ := s
                      dsimp only at c3 c4 d3 d4
                      clear hrow14 hgon hgn husn hnw
                      go_wp2_with fail
                      go_region
                      all_goals
                        go_wp2_with fail
                        go_ret
                        exact ⟨rfl, hw14.drewN _⟩
                    · have hf1' : ¬ fv - 1 < 0 := by omega
                      have e0 := (hf1214.cell rb 0 hrbl (by simp; omega)).trans HR0.out
                      subst hsg
                      dsimp only at c3 c4
                      clear hrow14 hgon hgn husn hnw
                      go_wp2_with fail
                      go_ret
                      exact ⟨rfl, hw14⟩
      · rw [hlen2]
        clear hlen2
        go_wp2_with fail
        go_ret
        exact ⟨rfl, hw5⟩
end Go.Proofs.YtapabahhfanmmaaDoor
