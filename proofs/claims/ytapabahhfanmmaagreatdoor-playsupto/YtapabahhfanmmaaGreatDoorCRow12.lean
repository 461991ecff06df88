import Derived.Test.YtapabahhfanmmaaGreatDoorCDelete
import Derived.Test.YtapabahhfanmmaaGreatDoorCBring
import Derived.Deep.RegionHeld
namespace Go.Proofs.YtapabahhfanmmaaGreatDoor
open Go.RowKit
set_option maxRecDepth 100000
def boardL (bd : Nat → Int) : List Value := (List.range 144).map fun i => ii (bd i)
theorem boardL_len (bd : Nat → Int) : (boardL bd).length = 144 := by simp [boardL]
theorem boardL_one (bd : Nat → Int) : (boardL bd).toArray.all (·.oneCell') = true := by
 apply all_oneCell_toArray
 intro v hv
 obtain ⟨i, _, rfl⟩ := List.mem_map.1 hv
 rfl
theorem infoBoard : (Tryz.prog.info? 88).map (·.size) = some 144 := by kernel_rfl
theorem infoState : (Tryz.prog.info? 56).map (·.size) = some 4 := by kernel_rfl
theorem zcBoard : Tryz.zeroCells88.size = 144 := by kernel_rfl
theorem GS.board {w : World} {gb pb cap : Nat} {t : T} (h : GS w gb pb cap t) : w.rangeAt gb 4 (boardL t.bd) := by
 intro j v hv
 have hj : j < 144 := by have := (List.getElem?_eq_some_iff.1 hv).1; rwa [boardL_len] at this
 rw [h.cell (4 + j) (by omega)]
 unfold boardL at hv
 rw [List.getElem?_map, List.getElem?_range hj] at hv
 simp only [Option.map_some, Option.some.injEq] at hv
 rw [← hv]
 unfold tcell
 rw [if_neg (by omega), if_neg (by omega), if_neg (by omega), if_neg (by omega), if_pos (by omega), show 4 + j - 4 = j by omega]
set_option maxHeartbeats 400000 in
theorem cells_any (gb pb cap : Nat) (t : T) (w : World) (h : GS w gb pb cap t) :
  Calls Tryz.prog 55 #[.pointer (some ⟨gb, 0, none⟩)] w fun e w' => e = .returned (.agg (boardL t.bd).toArray) ∧ Fr [] w w' := by
 have hgl := h.lt
 have hr : ∀ o, (w.alloc o).rangeAt gb 4 (boardL t.bd) := fun o => (h.fr ((Fr.refl [] w).alloc o) (by simp) (by simp)).board
 have HR := (show Hid _ from hr)
 have hsz : (Tryz.prog.info? 88).map (·.size) = some (boardL t.bd).length := by rw [boardL_len]; exact infoBoard
 have hsz2 : (Tryz.prog.info? 88).map (·.size) = some (boardL t.bd).toArray.size := by rw [List.size_toArray]; exact hsz
 have H1 := (show Hid _ from hsz)
 have H2 := (show Hid _ from hsz2)
 have H3 : Hid (Tryz.zeroCells88.size = (boardL t.bd).toArray.size) := by show _ = _; rw [zcBoard, List.size_toArray, boardL_len]
 clear hr hsz hsz2
 go_enter Tryz.func55, Tryz.ntmps55
 go_wp2_with (first
  | (go_at_call 39; refine (there_any gb _).mono ?_; rintro e w1 ⟨rfl, rfl⟩)
  | (refine wpList_load_mid rfl 88 _ rfl gb 4 rfl (boardL t.bd) _ (HR.out _) Tryz.underlying88 rfl H1.out ?_)
  | (refine wpList_store_row rfl 88 _ _ rfl w.heap.size (boardL t.bd).toArray rfl rfl 88 Tryz.zeroCells88 (hp_new w _) H2.out H3.out (boardL_one _) ?_))
 exact bodyPost_ret (v := .agg (boardL t.bd).toArray) (results_cell_row Tryz.results55 _ _ w.heap.size 88 _ (0, 0) _ rfl (setRow_heap _ _ _ _ _ _ (hp_new w _)) Tryz.underlying88 rfl H2.out) rfl ⟨rfl, ((Fr.refl _ _).alloc _).setRow _ _ (Or.inr (Nat.le_refl _))⟩
set_option maxHeartbeats 1000000 in
theorem look_any (gb pb cap : Nat) (t : T) (w : World) (h : GS w gb pb cap t) :
  Calls Tryz.prog 23 #[.pointer (some ⟨gb, 0, none⟩)] w fun e w' => e = .returned (.agg #[ii t.turn, ii (winI t.us), ii t.s0, ii t.s1]) ∧ Fr [] w w' := by
 have hgl := h.lt
 obtain ⟨W1, hW1⟩ : ∃ W, W = w.alloc (.cells #[ii 0, ii 0, ii 0, ii 0] 56) := ⟨_, rfl⟩
 have h01 : Fr [] w W1 := by rw [hW1]; exact (Fr.refl _ _).alloc _
 have hR : W1.heap[w.heap.size]? = some (.cells #[ii 0, ii 0, ii 0, ii 0] 56) := by rw [hW1]; exact hp_new w _
 have KF : Fr [] W1 (w.alloc (.cells #[ii 0, ii 0, ii 0, ii 0] 56)).drew := by rw [hW1]; exact (Fr.refl _ _).drew
 have hs1 : W1.heap.size = w.heap.size + 1 := by rw [hW1]; simp
 have HS : ∀ w', Fr [] w w' → (fun w' : World => w'.cell? ⟨gb, 0, none⟩ = some (ii t.turn) ∧ w'.cell? ⟨gb, 2, none⟩ = some (ii t.s0) ∧ w'.cell? ⟨gb, 3, none⟩ = some (ii t.s1)) w' := by
  intro w' hf
  have h' := h.fr hf (by simp) (by simp)
  refine ⟨?_, ?_, ?_⟩
  ·have := h'.cell 0 (by omega); simpa [tcell] using this
  ·have := h'.cell 2 (by omega); simpa [tcell] using this
  ·have := h'.cell 3 (by omega); simpa [tcell] using this
 have K0 := HS _ (h01.then0 KF)
 clear hW1
 go_enter Tryz.func23, Tryz.ntmps23
 go_wp2_with (go_at_call 39; refine (there_any gb _).mono ?_; rintro e w1 ⟨rfl, rfl⟩)
 go_region_held (fun w' : World => w'.cell? ⟨gb, 0, none⟩ = some (ii t.turn) ∧ w'.cell? ⟨gb, 2, none⟩ = some (ii t.s0) ∧ w'.cell? ⟨gb, 3, none⟩ = some (ii t.s1))
  (first | with_reducible exact K0 | with_reducible exact HS _ hfk | (refine HS _ ?_; with_reducible exact (((hfk.setCell _ _ (Or.inr (Nat.le_refl _))).setCell _ _ (Or.inr (Nat.le_refl _))).setCell _ _ (Or.inr (Nat.le_refl _))).setCell _ _ (Or.inr (Nat.le_refl _))))
  (first | (go_at_call 50; refine (winner_any gb pb cap t.us _ (h.gv.fr0 (h01.then0 KF))).mono ?_; rintro e w1 ⟨rfl, hf1⟩; have hfk : Fr [] w w1 := (h01.then0 KF).then0 hf1; have hr1 := (KF.then0 hf1).heap0 hR; have hrc : ∀ j, w1.cell? ⟨w.heap.size, j, none⟩ = #[ii 0, ii 0, ii 0, ii 0][j]? := (fun j => cell_of_heap hr1); have hrf : ∀ j, w1.frozen? ⟨w.heap.size, j, none⟩ = false := (fun j => frozen_of_heap hr1)))
 all_goals
  go_wp2_with fail
  have h0 := set_arr hr1 0 (ii t.turn)
  have h1 := set_arr h0 1 (ii (winI t.us))
  have h2 := set_arr h1 2 (ii t.s0)
  have h3 := set_arr h2 3 (ii t.s1)
  have hh : ((((w1.setCell ⟨w.heap.size, 0, none⟩ (ii t.turn)).setCell ⟨w.heap.size, 1, none⟩ (ii (winI t.us))).setCell ⟨w.heap.size, 2, none⟩ (ii t.s0)).setCell ⟨w.heap.size, 3, none⟩ (ii t.s1)).heap[w.heap.size]? = some (.cells #[ii t.turn, ii (winI t.us), ii t.s0, ii t.s1] 56) := by simpa using h3
  exact bodyPost_ret (v := .agg #[ii t.turn, ii (winI t.us), ii t.s0, ii t.s1]) (results_cell_row Tryz.results23 _ _ w.heap.size 56 _ (0, 0) _ rfl hh Tryz.underlying56 rfl infoState) rfl ⟨rfl, (((hfk.setCell _ _ (Or.inr (Nat.le_refl _))).setCell _ _ (Or.inr (Nat.le_refl _))).setCell _ _ (Or.inr (Nat.le_refl _))).setCell _ _ (Or.inr (Nat.le_refl _))⟩
def rowL (bd : Nat → Int) (y : Nat) : List Value := (List.range 12).map fun x => ii (bd (y * 12 + x))
theorem infoRow : (Tryz.prog.info? 86).map (·.size) = some 12 := by kernel_rfl
theorem sizeRow : Tryz.t86.size = 12 := by kernel_rfl
theorem board_part (bd : Nat → Int) (y : Nat) (hy : y < 12) : (boardL bd).toArray.extract (y * 12) (y * 12 + 12) = (rowL bd y).toArray := by
 apply Array.ext_getElem?
 intro i
 simp only [boardL, rowL, Array.getElem?_extract, List.getElem?_toArray, List.getElem?_map]
 by_cases hi : i < 12
 ·rw [if_pos (by simp; omega), List.getElem?_range (by omega), List.getElem?_range hi]
  rfl
 ·rw [if_neg (by simp; omega), List.getElem?_eq_none (by simp; omega)]
  rfl
end Go.Proofs.YtapabahhfanmmaaGreatDoor
