import Derived.Test.YtapabahhfanmmaaDoorCBegin
import Derived.Test.YtapabahhfanmmaaDoorCAct
/- A turn is played. -/
namespace Go.Proofs.YtapabahhfanmmaaDoor
open Go.RowKit

/-- A list of commands, as a call is given it. -/
def CmdV (w : World) (v : Value) (l : List Cm) : Prop := (∃ ao lc, v = .slice ao 0 lc ∧ l = []) ∨ ∃ lb lc, v = .slice (some ⟨lb, 0, none⟩) l.length lc ∧ Cmds w lb l ∧ lb < w.heap.size
theorem CmdV.fr0 {w w' : World} {v : Value} {l : List Cm} (h : CmdV w v l) (hf : Fr [] w w') : CmdV w' v l := by
  rcases h with h | ⟨lb, lc, h1, h2, h3⟩
  · exact Or.inl h
  · exact Or.inr ⟨lb, lc, h1, h2.fr hf (by simp), Nat.lt_of_lt_of_le h3 hf.size⟩
theorem command_v (tb pb cap hb bb : Nat) (t : T) (p : Int) (l : List Cm) (lv : Value) (w0 w : World) (h : TS w tb pb cap hb bb t) (hok : TOk t) (hl : CmdV w0 lv l) (hf : Fr [] w0 w) (hlen : l.length ≤ 1000) (hpb : w0.heap.size ≤ pb) :
    Calls Tryd.prog 33 #[.pointer (some ⟨tb, 0, none⟩), .int .i64 p, lv] w fun e w' =>
      ∃ v, e = .returned v ∧ Fr [pb] w w' ∧ TS w' tb pb cap hb bb (cmdAll p 0 l t).2 ∧ w'.ownsRow w.heap.size 3 1 v (cmdAll p 0 l t).1.length (ints (cmdAll p 0 l t).1) := by
  rcases hl with ⟨ao, lc, rfl, rfl⟩ | ⟨lb, lc, rfl, h2, h3⟩
  · exact command_nil tb pb cap hb bb t p ao lc w h
  · exact command_any tb pb cap hb bb lb lc t p l w h hok (h2.fr hf (by simp)) (Nat.lt_of_lt_of_le h3 hf.size) (by omega) hlen
theorem places_v (l : List Cm) (lv : Value) (w0 w : World) (hl : CmdV w0 lv l) (hlen : l.length ≤ 1000) :
    Calls Tryd.prog 30 #[lv] w fun e w' => ∃ v, e = .returned v ∧ Fr [] w w' ∧ w'.ownsRow w.heap.size 3 1 v (List.range l.length).length (ints (List.range l.length)) := by
  rw [List.length_range]
  rcases hl with ⟨ao, lc, rfl, rfl⟩ | ⟨lb, lc, rfl, h2, h3⟩
  · exact places_any ao 0 lc w (by omega)
  · exact places_any _ l.length lc w hlen

/-- The places that were refused, as a call tells them. -/
def Refs (w : World) (base : Nat) (v : Value) (a b : List Nat) : Prop := ∃ rb rc v0 v1, v = .slice (some ⟨rb, 0, none⟩) 2 rc ∧ w.heap[rb]? = some (.cells #[v0, v1] 22) ∧ base ≤ rb ∧ w.ownsRow base 3 1 v0 a.length (ints a) ∧ w.ownsRow base 3 1 v1 b.length (ints b)

theorem own_val {w : World} {base n : Nat} {e : TypeId} {size : Nat} {v : Value} {xs : List Value} (h : w.ownsRow base e size v n xs) : ∃ ao k c, v = .slice ao k c := by
  rcases h.2 with ⟨h1, _⟩ | ⟨g, cap, cur, rfl, _⟩
  · exact ⟨_, _, _, h1⟩
  · exact ⟨_, _, _, rfl⟩
theorem own_keep {w w' : World} {base n : Nat} {e : TypeId} {size : Nat} {v : Value} {xs : List Value} (h : w.ownsRow base e size v n xs) {x : Nat} (hf : Fr [x] w w') (hx : x < base) : w'.ownsRow base e size v n xs := owns_fr h hf (fun b hb => by have := own_base h hb; simp; omega)
theorem own_up {w : World} {base base' n : Nat} {e : TypeId} {size : Nat} {v : Value} {xs : List Value} (h : w.ownsRow base e size v n xs) (hb : base' ≤ base) : w.ownsRow base' e size v n xs := by
  refine ⟨h.1, ?_⟩
  rcases h.2 with h2 | ⟨g, cap, cur, h1, h2, r⟩
  · exact Or.inl h2
  · exact Or.inr ⟨g, cap, cur, h1, Nat.le_trans hb h2, r⟩
theorem gameL_turn (t : T) (n : Int) (pv : Value) : (gameL t pv).toArray.setIfInBounds 0 (ii n) = (gameL { t with turn := n } pv).toArray := by
  apply Array.ext_getElem?
  intro i
  rw [Array.getElem?_setIfInBounds]
  have hl : (gameL t pv).toArray.size = 149 := by simp [gameL]
  by_cases h0 : 0 = i
  · subst h0
    rw [if_pos rfl, if_pos (by omega)]
    simp [gameL, tcell]
  · rw [if_neg h0]
    simp only [List.getElem?_toArray, gameL, List.getElem?_map]
    by_cases hi : i < 149
    · rw [List.getElem?_range hi]
      simp only [Option.map_some, Option.some.injEq]
      have h0' : ¬ i = 0 := fun e => h0 e.symm
      unfold tcell
      simp only [h0', if_false]
    · rw [List.getElem?_eq_none (by simp; omega)]
      rfl
theorem zcGame : Tryd.zeroCells64.size = 149 := by kernel_rfl
theorem gameL_one (t : T) (ao : Option Addr) (n c : Nat) : (gameL t (.slice ao n c)).toArray.all (·.oneCell') = true := by
  apply all_oneCell_toArray
  intro v hv
  obtain ⟨i, hi, rfl⟩ := List.mem_map.1 hv
  have := List.mem_range.1 hi
  unfold tcell
  by_cases h8 : i < 148
  · by_cases h0 : i = 0
    · rw [if_pos h0]; rfl
    · by_cases h1 : i = 1
      · rw [if_neg h0, if_pos h1]; rfl
      · by_cases h2 : i = 2
        · rw [if_neg h0, if_neg h1, if_pos h2]; rfl
        · by_cases h3 : i = 3
          · rw [if_neg h0, if_neg h1, if_neg h2, if_pos h3]; rfl
          · rw [if_neg h0, if_neg h1, if_neg h2, if_neg h3, if_pos h8]; rfl
  · have : i = 148 := by omega
    subst this
    rfl

set_option maxRecDepth 100000 in
set_option maxHeartbeats 1000000 in
theorem play_over (pb cap : Nat) (t : T) (l1 l2 : List Cm) (lv1 lv2 : Value) (w : World) (hrow : PRow w pb cap t.us) (hlen : t.us.length ≤ 1000) (ht : 0 ≤ t.turn ∧ t.turn < 1000000000) (h1 : CmdV w lv1 l1) (h2 : CmdV w lv2 l2) (hl1 : l1.length ≤ 1000) (hl2 : l2.length ≤ 1000) (hov : overB t.us = true) :
    Calls Tryd.prog 24 #[.agg (gameL t (.slice (some ⟨pb, 0, none⟩) t.us.length cap)).toArray, lv1, lv2] w fun e w' =>
      ∃ v, e = .returned (.tuple #[.agg (gameL { t with turn := t.turn + 1 } (.slice (some ⟨pb, 0, none⟩) t.us.length cap)).toArray, v]) ∧ Fr [] w w' ∧ Refs w' w.heap.size v (List.range l1.length) (List.range l2.length) := by
  obtain ⟨gs, hgs⟩ : ∃ gs, gs = (gameL t (.slice (some ⟨pb, 0, none⟩) t.us.length cap)).toArray := ⟨_, rfl⟩
  have hg : gs.size = 149 := by rw [hgs]; simp [gameL]
  have HGS := (show Hid _ from hgs)
  have hg0 : gs[0]? = some (ii t.turn) := by rw [hgs]; simp [gameL, tcell]
  have hg148 : gs[148]? = some (.slice (some ⟨pb, 0, none⟩) t.us.length cap) := by rw [hgs]; simp [gameL, tcell]
  rw [← hgs]
  have HG := (show Hid _ from hg)
  clear hgs hg
  obtain ⟨W2, hW2⟩ : ∃ W, W = (w.alloc (.cells gs 64)).alloc (.cells Tryd.zeroCells64 64) := ⟨_, rfl⟩
  have h02 : Fr [] w W2 := by rw [hW2]; exact ((Fr.refl _ _).alloc _).alloc _
  have hG2 : W2.heap[w.heap.size]? = some (.cells gs 64) := by rw [hW2, hp_old2]
  have hR2 : W2.heap[w.heap.size + 1]? = some (.cells Tryd.zeroCells64 64) := by rw [hW2, hp_new2]
  have hgv : GV W2 w.heap.size pb cap t.us := ⟨by rw [cell_of_heap hG2]; exact hg148, (hrow.fr h02 (by simp)).ppl, hlen⟩
  have hgv' := hgv
  rw [hW2] at hgv'
  have HV := (show Hid _ from hgv')
  have HW := (show Hid _ from hW2)
  clear hW2 hgv'
  go_enter Tryd.func24, Tryd.ntmps24
  go_wp2_with (go_at_call 31; refine (over_any w.heap.size pb cap t.us _ HV.out).mono ?_; rintro e w3 ⟨rfl, hf3⟩; rw [hov]; rw [← HW.out] at hf3; have hG3 := hf3.heap0 hG2; have hG30 : w3.cell? ⟨w.heap.size, 0, none⟩ = some (ii t.turn) := (cell_of_heap hG3).trans hg0; have hG3z : w3.frozen? ⟨w.heap.size, 0, none⟩ = false := frozen_of_heap hG3)
  obtain ⟨W4, hW4⟩ : ∃ W, W = w3.setCell ⟨w.heap.size, 0, none⟩ (.int .i64 (t.turn + 1)) := ⟨_, rfl⟩
  rw [← hW4]
  have hw4 : Fr [] w W4 := by rw [hW4]; exact (h02.then0 hf3).setCell _ _ (Or.inr (Nat.le_refl _))
  have hG4 : W4.heap[w.heap.size]? = some (.cells (gs.setIfInBounds 0 (ii (t.turn + 1))) 64) := by rw [hW4]; exact set_arr hG3 0 _
  have hR4 : W4.heap[w.heap.size + 1]? = some (.cells Tryd.zeroCells64 64) := by rw [hW4, Below.heap_setCell _ _ _ _ (by simp)]; exact hf3.heap0 hR2
  obtain ⟨g2, hg2⟩ : ∃ g, g = gs.setIfInBounds 0 (ii (t.turn + 1)) := ⟨_, rfl⟩
  rw [← hg2] at hG4
  have hgl : g2 = (gameL { t with turn := t.turn + 1 } (.slice (some ⟨pb, 0, none⟩) t.us.length cap)).toArray := by rw [hg2, HGS.out, gameL_turn]
  have hg2s : g2.size = 149 := by rw [hgl]; simp [gameL]
  have hg21 : g2.all (·.oneCell') = true := by rw [hgl]; exact gameL_one _ _ _ _
  have HGL := (show Hid _ from hgl)
  have HRR : ∀ w', Fr [w.heap.size + 1] W4 w' → w'.rangeAt w.heap.size 0 g2.toList := fun w' hf j v hv => by
    rw [Nat.zero_add, cell_of_heap (hf.heap hG4 (by simp))]
    simpa using hv
  have hi149 : (Tryd.prog.info? 64).map (·.size) = some g2.toList.length := by rw [infoGame]; simp [hg2s]
  have hrl := lt_of_heap hR4
  clear hW4 hgl hg2 hG3 hG30 hG3z hG2 hR2 hg0 hg148 hgv HV HW HGS
  have KF : Fr [] W4 W4.drew := (Fr.refl _ _).drew
  refine wp_region_held (S := fun w' => Fr [w.heap.size + 1] W4 w') (by kernel_rfl) ?_
  refine wpAnyH_take (i := 0) (oi := _) (v := .agg g2.toList.toArray) rfl (by kernel_rfl) (by kernel_rfl) (by kernel_rfl) (fun _ _ _ h => h) (yieldsIf_load_mid (by kernel_rfl) 64 (.tmp 3) rfl w.heap.size 0 rfl g2.toList _ HRR Tryd.underlying64 rfl hi149) KF.of0 ?_
  simp only [Act.put, Array.toArray_toList]
  refine wpAnyH_take (i := 1) (oi := _) (v := lv1) rfl (by kernel_rfl) (by kernel_rfl) (by kernel_rfl) (fun _ _ _ h => h) (Or.inl ⟨by kernel_rfl, fun w0 _ => by go_simp⟩) KF.of0 ?_
  simp only [Act.put]
  refine wpAnyH_take (i := 3) (oi := _) (v := lv2) rfl (by kernel_rfl) (by kernel_rfl) (by kernel_rfl) (fun _ _ _ h => h) (Or.inl ⟨by kernel_rfl, fun w0 _ => by go_simp⟩) KF.of0 ?_
  simp only [Act.put]
  refine wpAnyH_ready (rs := [2]) (by kernel_rfl) (by simp) ?_
  refine AllReadyH.cons rfl (fun K hK => ?_) AllReadyH.nil
  rw [if_pos (by rfl)]
  go_wp2_with (go_at_call 30; refine (places_v l1 lv1 w _ h1 hl1).mono ?_; rintro e w5 ⟨v0, rfl, hf5, hown0⟩)
  have hfr5 : Fr [] W4 w5 := KF.then0 hf5
  refine hK.out _ _ hfr5.of0 (fun _ => ?_)
  clear hK
  refine wpAnyH_ready (rs := [4]) (by kernel_rfl) (by simp) ?_
  refine AllReadyH.cons rfl (fun K hK => ?_) AllReadyH.nil
  rw [if_pos (by rfl)]
  go_wp2_with (go_at_call 30; refine (places_v l2 lv2 w _ h2 hl2).mono ?_; rintro e w6 ⟨v1, rfl, hf6, hown1⟩)
  have hfr6 : Fr [] W4 w6 := hfr5.then0 hf6
  refine hK.out _ _ hfr6.of0 (fun _ => ?_)
  clear hK
  obtain ⟨a0, n0, c0, rfl⟩ := own_val hown0
  obtain ⟨a1, n1, c1, rfl⟩ := own_val hown1
  have hs4 := hw4.size
  have hs5 := hfr5.size
  have hs6 := hfr6.size
  have hR6 := hfr6.heap0 hR4
  refine wpAnyH_ready (rs := [5, 6]) (by kernel_rfl) (by simp) ?_
  refine AllReadyH.cons rfl (fun K hK => ?_) (AllReadyH.cons rfl (fun K hK => ?_) AllReadyH.nil)
  · rw [if_pos (by rfl)]
    go_wp2_with fail
    refine hK.out _ _ (hfr6.alloc _).of0 (fun _ => ?_)
    clear hK
    refine wpAnyH_ready (rs := [6]) (by kernel_rfl) (by simp) ?_
    refine AllReadyH.cons rfl (fun K hK => ?_) AllReadyH.nil
    rw [if_pos (by rfl)]
    have hR7 : (w6.alloc (.cells #[.slice a0 n0 c0, .slice a1 n1 c1] 22)).heap[w.heap.size + 1]? = some (.cells Tryd.zeroCells64 64) := ((Fr.refl [] w6).alloc _).heap0 hR6
    refine wp_store_row 64 (.tmp 6) (.tmp 24) rfl (w.heap.size + 1) g2 rfl rfl 64 _ hR7 (by rw [infoGame, hg2s]) (by rw [hg2s]; exact zcGame) hg21 ?_
    have hff : Fr [w.heap.size + 1] W4 ((w6.alloc (.cells #[.slice a0 n0 c0, .slice a1 n1 c1] 22)).setRow (w.heap.size + 1) g2) := (hfr6.alloc _).of0.setRow _ _ (by simp)
    have hfb : Fr [w.heap.size + 1] w6 ((w6.alloc (.cells #[.slice a0 n0 c0, .slice a1 n1 c1] 22)).setRow (w.heap.size + 1) g2) := ((Fr.refl _ _).alloc _).setRow _ _ (by simp)
    have hrowF : ((w6.alloc (.cells #[.slice a0 n0 c0, .slice a1 n1 c1] 22)).setRow (w.heap.size + 1) g2).heap[w.heap.size + 1]? = some (.cells g2 64) := setRow_heap _ _ _ _ _ _ hR7
    have hblkF : ((w6.alloc (.cells #[.slice a0 n0 c0, .slice a1 n1 c1] 22)).setRow (w.heap.size + 1) g2).heap[w6.heap.size]? = some (.cells #[.slice a0 n0 c0, .slice a1 n1 c1] 22) := by rw [setRow_other _ _ _ _ (by omega)]; exact hp_new _ _
    refine hK.out _ _ hff (fun _ => ?_)
    clear hK
    simp only [Act.put]
    refine wpAnyH_take (i := 7) (oi := _) (v := .slice (some ⟨w6.heap.size, 0, none⟩) 2 2) rfl (by kernel_rfl) (by kernel_rfl) (by kernel_rfl) (fun _ _ _ h => h) (Or.inl ⟨by kernel_rfl, fun w0 _ => by go_simp⟩) hff ?_
    refine wpAnyH_done (by kernel_rfl) ?_ _
    go_wp2_with fail
    have hq0 : W4.drew.heap.size = W4.heap.size := rfl
    rw [hq0] at hown0
    refine bodyPost_ret (v := .tuple #[.agg g2, .slice (some ⟨w6.heap.size, 0, none⟩) 2 2]) (results_cell_tmp Tryd.results24 _ _ (w.heap.size + 1) 64 g2 (0, 0) _ _ rfl rfl hrowF Tryd.underlying64 rfl (by rw [infoGame, hg2s])) rfl ⟨_, by rw [HGL.out], ?_, w6.heap.size, 2, _, _, rfl, hblkF, by omega, ?_, ?_⟩
    · exact hw4.trans hff (by simp)
    · exact own_up (own_keep (owns_fr hown0 hf6 (by simp)) hfb (by omega)) (by omega)
    · exact own_up (own_keep hown1 hfb (by omega)) (by omega)
  · rw [if_pos (by rfl)]
    refine wp_store_row 64 (.tmp 6) (.tmp 24) rfl (w.heap.size + 1) g2 rfl rfl 64 _ hR6 (by rw [infoGame, hg2s]) (by rw [hg2s]; exact zcGame) hg21 ?_
    have hff0 : Fr [w.heap.size + 1] W4 (w6.setRow (w.heap.size + 1) g2) := hfr6.of0.setRow _ _ (by simp)
    refine hK.out _ _ hff0 (fun _ => ?_)
    clear hK
    simp only [Act.put]
    refine wpAnyH_ready (rs := [5]) (by kernel_rfl) (by simp) ?_
    refine AllReadyH.cons rfl (fun K hK => ?_) AllReadyH.nil
    rw [if_pos (by rfl)]
    go_wp2_with fail
    have hff : Fr [w.heap.size + 1] W4 ((w6.setRow (w.heap.size + 1) g2).alloc (.cells #[.slice a0 n0 c0, .slice a1 n1 c1] 22)) := hff0.alloc _
    have hfb : Fr [w.heap.size + 1] w6 ((w6.setRow (w.heap.size + 1) g2).alloc (.cells #[.slice a0 n0 c0, .slice a1 n1 c1] 22)) := ((Fr.refl _ _).setRow _ _ (by simp)).alloc _
    have hrowF : ((w6.setRow (w.heap.size + 1) g2).alloc (.cells #[.slice a0 n0 c0, .slice a1 n1 c1] 22)).heap[w.heap.size + 1]? = some (.cells g2 64) := ((Fr.refl [] _).alloc _).heap0 (setRow_heap _ _ _ _ _ _ hR6)
    have hblkF : ((w6.setRow (w.heap.size + 1) g2).alloc (.cells #[.slice a0 n0 c0, .slice a1 n1 c1] 22)).heap[w6.heap.size]? = some (.cells #[.slice a0 n0 c0, .slice a1 n1 c1] 22) := hp_at _ _ _ (by simp)
    refine hK.out _ _ hff (fun _ => ?_)
    clear hK
    refine wpAnyH_take (i := 7) (oi := _) (v := .slice (some ⟨w6.heap.size, 0, none⟩) 2 2) rfl (by kernel_rfl) (by kernel_rfl) (by kernel_rfl) (fun _ _ _ h => h) (Or.inl ⟨by kernel_rfl, fun w0 _ => by go_simp⟩) hff ?_
    refine wpAnyH_done (by kernel_rfl) ?_ _
    go_wp2_with fail
    have hq0 : W4.drew.heap.size = W4.heap.size := rfl
    rw [hq0] at hown0
    refine bodyPost_ret (v := .tuple #[.agg g2, .slice (some ⟨w6.heap.size, 0, none⟩) 2 2]) (results_cell_tmp Tryd.results24 _ _ (w.heap.size + 1) 64 g2 (0, 0) _ _ rfl rfl hrowF Tryd.underlying64 rfl (by rw [infoGame, hg2s])) rfl ⟨_, by rw [HGL.out], ?_, w6.heap.size, 2, _, _, rfl, hblkF, by omega, ?_, ?_⟩
    · exact hw4.trans hff (by simp)
    · exact own_up (own_keep (owns_fr hown0 hf6 (by simp)) hfb (by omega)) (by omega)
    · exact own_up (own_keep hown1 hfb (by omega)) (by omega)
end Go.Proofs.YtapabahhfanmmaaDoor
