import Derived.Test.YtapabahhfanmmaaGreatDoorCRow12
import Derived.ChangeKeysEq
import Derived.Test.YtapabahhfanmmaaGreatDoorCRefD
import Derived.Test.YtapabahhfanmmaaGreatDoorCInv3
import Derived.Test.YtapabahhfanmmaaGreatDoorCFolkG
namespace Go.Proofs.YtapabahhfanmmaaGreatDoor
open Go.RowKit
theorem items_same {d c : Nat} {e : TypeId} {xs : Array Value} {w : World} : ∀ (is : List Nat), (∀ i ∈ is, ∃ a, (part e xs (i * c)).run Tryz.prog w = .ok a w ∧ (Op.equalIn d e a a).run Tryz.prog w = .ok true w) → (Op.eqItems d e c xs xs is).run Tryz.prog w = .ok true w
 | [], _ => by simp [Op.eqItems]
 | i :: is, h => by
  obtain ⟨a, h1, h2⟩ := h i (by simp)
  have ih := items_same is (fun j hj => h j (by simp [hj]))
  simp only [Op.eqItems, Sem.run_bind, h1, h2, Result.andThen_ok]
  exact ih
theorem infoI1 : (Tryz.prog.info? 3).map (·.size) = some 1 := by kernel_rfl
theorem cellsI : Tryz.prog.cellsOf 3 = 1 := by kernel_rfl
theorem cellsR : Tryz.prog.cellsOf 86 = 12 := by kernel_rfl
theorem eqRow (bd : Nat → Int) (y : Nat) (d : Nat) (w : World) : (Op.equalIn (d + 2) 86 (.agg (rowL bd y).toArray) (.agg (rowL bd y).toArray)).run Tryz.prog w = .ok true w := by
 obtain ⟨inf, hi, _⟩ := Option.map_eq_some_iff.1 infoI1
 rw [show d + 2 = (d + 1) + 1 from rfl, run_equalIn_array w (d + 1) _ _ Tryz.underlying86 hi, cellsI]
 refine items_same _ (fun x hx => ?_)
 have hx' : x < 12 := List.mem_range.1 hx
 have hc : (rowL bd y).toArray[x]? = some (ii (bd (y * 12 + x))) := by simp [rowL, List.getElem?_range hx']
 refine ⟨ii (bd (y * 12 + x)), ?_, ?_⟩
 ·rw [Nat.mul_one]
  simp [part, isAgg, run_underlying Tryz.underlying3, hc]
 ·rw [run_equalIn_int w d 3 .i64 .i64 _ _ Tryz.underlying3]
  simp
theorem eqBoard (bd : Nat → Int) (d : Nat) (w : World) : (Op.equalIn (d + 3) 88 (.agg (boardL bd).toArray) (.agg (boardL bd).toArray)).run Tryz.prog w = .ok true w := by
 obtain ⟨inf, hi, _⟩ := Option.map_eq_some_iff.1 infoRow
 rw [show d + 3 = (d + 2) + 1 from rfl, run_equalIn_array w (d + 2) _ _ Tryz.underlying88 hi, cellsR]
 refine items_same _ (fun y hy => ?_)
 have hy' : y < 12 := List.mem_range.1 hy
 refine ⟨.agg (rowL bd y).toArray, ?_, eqRow bd y d w⟩
 have hb := board_part bd y hy'
 rw [← hb]
 simp [part, isAgg, run_underlying Tryz.underlying86, sizeOf, sizeRow]
theorem board_eql (bd : Nat → Int) (w : World) : (binOp BinOp.eql 88 (.agg (boardL bd).toArray) (.agg (boardL bd).toArray)).run Tryz.prog w = .ok (.bool true) w := by
  rw [run_eql_struct, eqBoard bd 9997 w]
  rfl
theorem board_guard (x y : Operand) (B : Array Value) (w : World) : (eqGuard BinOp.eql 88 x y (.agg B) (.agg B)).run Tryz.prog w = .ok () w := by kernel_rfl
theorem eqTwoS (c d : Int) (w : World) : (Op.equalIn 9999 54 (.agg #[ii c, ii d]) (.agg #[ii c, ii d])).run Tryz.prog w = .ok true w := by
 have u3 := Tryz.underlying3
 rw [show (9999 : Nat) = 9998 + 1 from rfl, Op.equalIn]
 simp only [Sem.run_bind, run_underlying Tryz.underlying54, Result.andThen_ok]
 simp only [Std.Legacy.Range.forIn_eq_forIn_range', Std.Legacy.Range.size, Nat.sub_zero, Nat.add_sub_cancel, Nat.div_one, List.range'_succ, List.range'_zero, List.forIn_cons, List.forIn_nil]
 go_simp
theorem state_eql (a b c d : Int) (w : World) : (binOp BinOp.eql 56 (.agg #[ii a, ii b, ii c, ii d]) (.agg #[ii a, ii b, ii c, ii d])).run Tryz.prog w = .ok (.bool true) w := by
  have h2 := eqTwoS c d w
  simp [go_sem, h2]
theorem state_guard (x y : Operand) (a b c d : Int) (w : World) : (eqGuard BinOp.eql 56 x y (.agg #[ii a, ii b, ii c, ii d]) (.agg #[ii a, ii b, ii c, ii d])).run Tryz.prog w = .ok () w := by kernel_rfl
set_option maxRecDepth 100000 in
set_option maxHeartbeats 1000000 in
theorem refLook_any (gb pb cap : Nat) (t : T) (w : World) (h : RG w gb pb cap t) :
  Calls Tryz.prog 54 #[.pointer (some ⟨gb, 0, none⟩)] w fun e w' => e = .returned (.agg #[ii t.turn, ii (refWin t.us), ii t.s0, ii t.s1]) ∧ Fr [] w w' := by
 have hgl := h.lt
 obtain ⟨W1, hW1⟩ : ∃ W, W = w.alloc (.cells #[ii 0, ii 0, ii 0, ii 0] 56) := ⟨_, rfl⟩
 have h01 : Fr [] w W1 := by rw [hW1]; exact (Fr.refl _ _).alloc _
 have hR : W1.heap[w.heap.size]? = some (.cells #[ii 0, ii 0, ii 0, ii 0] 56) := by rw [hW1]; exact hp_new w _
 have KF : Fr [] W1 (w.alloc (.cells #[ii 0, ii 0, ii 0, ii 0] 56)).drew := by rw [hW1]; exact (Fr.refl _ _).drew
 have hs1 : W1.heap.size = w.heap.size + 1 := by rw [hW1]; simp
 have HS : ∀ w', Fr [] w w' → (fun w' : World => w'.cell? ⟨gb, 0, none⟩ = some (ii t.turn) ∧ w'.cell? ⟨gb, 145, none⟩ = some (ii t.s0) ∧ w'.cell? ⟨gb, 146, none⟩ = some (ii t.s1)) w' := by
  intro w' hf
  have h' := h.fr hf (by simp) (by simp)
  exact ⟨h'.c0, h'.c145, h'.c146⟩
 have K0 := HS _ (h01.then0 KF)
 clear hW1
 go_enter Tryz.func54, Tryz.ntmps54
 go_wp2_with fail
 go_region_held (fun w' : World => w'.cell? ⟨gb, 0, none⟩ = some (ii t.turn) ∧ w'.cell? ⟨gb, 145, none⟩ = some (ii t.s0) ∧ w'.cell? ⟨gb, 146, none⟩ = some (ii t.s1))
  (first | with_reducible exact K0 | with_reducible exact HS _ hfk | (refine HS _ ?_; with_reducible exact (((hfk.setCell _ _ (Or.inr (Nat.le_refl _))).setCell _ _ (Or.inr (Nat.le_refl _))).setCell _ _ (Or.inr (Nat.le_refl _))).setCell _ _ (Or.inr (Nat.le_refl _))))
  (first | (go_at_call 99; refine (refWinner_any gb pb cap t.us _ (h.gv.fr0 (h01.then0 KF))).mono ?_; rintro e w1 ⟨rfl, hf1⟩; have hfk : Fr [] w w1 := (h01.then0 KF).then0 hf1; have hr1 := (KF.then0 hf1).heap0 hR; have hrc : ∀ j, w1.cell? ⟨w.heap.size, j, none⟩ = #[ii 0, ii 0, ii 0, ii 0][j]? := (fun j => cell_of_heap hr1); have hrf : ∀ j, w1.frozen? ⟨w.heap.size, j, none⟩ = false := (fun j => frozen_of_heap hr1)))
 all_goals
  go_wp2_with fail
  have h0 := set_arr hr1 0 (ii t.turn)
  have h1 := set_arr h0 1 (ii (refWin t.us))
  have h2 := set_arr h1 2 (ii t.s0)
  have h3 := set_arr h2 3 (ii t.s1)
  have hh : ((((w1.setCell ⟨w.heap.size, 0, none⟩ (ii t.turn)).setCell ⟨w.heap.size, 1, none⟩ (ii (refWin t.us))).setCell ⟨w.heap.size, 2, none⟩ (ii t.s0)).setCell ⟨w.heap.size, 3, none⟩ (ii t.s1)).heap[w.heap.size]? = some (.cells #[ii t.turn, ii (refWin t.us), ii t.s0, ii t.s1] 56) := by simpa using h3
  exact bodyPost_ret (v := .agg #[ii t.turn, ii (refWin t.us), ii t.s0, ii t.s1]) (results_cell_row Tryz.results54 _ _ w.heap.size 56 _ (0, 0) _ rfl hh Tryz.underlying56 rfl infoState) rfl ⟨rfl, (((hfk.setCell _ _ (Or.inr (Nat.le_refl _))).setCell _ _ (Or.inr (Nat.le_refl _))).setCell _ _ (Or.inr (Nat.le_refl _))).setCell _ _ (Or.inr (Nat.le_refl _))⟩
theorem some_anyB {us : List U} (o : Int) : (baseI us o).isSome = us.any (isBase o) := by
  unfold baseI
  rw [List.findIdx?_isSome]
theorem find_anyB {us : List U} (o : Int) : (baseOf us o).isSome = us.any (isBase o) := by
 have : ∀ us : List U, (us.find? (isBase o)).isSome = us.any (isBase o) := fun us => by
  induction us with
  | nil => rfl
  | cons a us ih =>
   rw [List.find?_cons, List.any_cons]
   cases h : isBase o a with
   | true => simp
   | false => simpa using ih
 exact this us
theorem win_same {us : List U} (h : 1 ≤ us.countP (isBase 0) + us.countP (isBase 1)) : refWin us = winI us := by
 have c : ∀ o, us.any (isBase o) = false → us.countP (isBase o) = 0 := fun o ho => by
  rw [List.countP_eq_zero]
  intro u hu
  have := List.any_eq_false.1 ho u hu
  simpa using this
 unfold refWin winI
 rw [some_anyB, some_anyB, find_anyB, find_anyB]
 have c0 := c 0
 have c1 := c 1
 cases h0 : us.any (isBase 0) <;> cases h1 : us.any (isBase 1)
 ·have := c0 h0; have := c1 h1; omega
 ·rfl
 ·rfl
 ·rfl
theorem RG.rng {w : World} {gb pb cap : Nat} {t : T} (h : RG w gb pb cap t) : w.rangeAt gb 1 (boardL t.bd) := by
 intro j v hv
 have hj : j < 144 := by have := (List.getElem?_eq_some_iff.1 hv).1; rwa [boardL_len] at this
 rw [h.bd hj]
 unfold boardL at hv
 rw [List.getElem?_map, List.getElem?_range hj] at hv
 exact hv
structure Asked (w1 : World) (sb gb rb : Nat) (z0 z1 z2 z3 : Int) (BL : List Value) : Prop where
 lg : ∀ w', Fr [] w1 w' → Calls Tryz.prog 23 #[.pointer (some ⟨gb, 0, none⟩)] w' fun e w'' => e = .returned (.agg #[ii z0, ii z1, ii z2, ii z3]) ∧ Fr [] w' w''
 lr : ∀ w', Fr [] w1 w' → Calls Tryz.prog 54 #[.pointer (some ⟨rb, 0, none⟩)] w' fun e w'' => e = .returned (.agg #[ii z0, ii z1, ii z2, ii z3]) ∧ Fr [] w' w''
 cg : ∀ w', Fr [] w1 w' → Calls Tryz.prog 55 #[.pointer (some ⟨gb, 0, none⟩)] w' fun e w'' => e = .returned (.agg BL.toArray) ∧ Fr [] w' w''
 rr : ∀ w', Fr [] w1 w' → w'.rangeAt rb 1 BL
 sz : (Tryz.prog.info? 88).map (·.size) = some BL.length
 c0 : ∀ w', Fr [] w1 w' → w'.cell? ⟨sb, 0, none⟩ = some (.pointer (some ⟨gb, 0, none⟩))
 c1 : ∀ w', Fr [] w1 w' → w'.cell? ⟨sb, 1, none⟩ = some (.pointer (some ⟨rb, 0, none⟩))
 eq : ∀ w', (binOp BinOp.eql 88 (.agg BL.toArray) (.agg BL.toArray)).run Tryz.prog w' = .ok (.bool true) w'
theorem Gm.asked {w : World} {g : Value} {L : List Nat} {t : T} (h : Gm w g L t) : ∃ sb gb rb z0 z1 z2 z3 BL, g = .pointer (some ⟨sb, 0, none⟩) ∧ Asked w sb gb rb z0 z1 z2 z3 BL := by
 have hbs : 1 ≤ t.us.countP (isBase 0) + t.us.countP (isBase 1) := h.ok.bs
 obtain ⟨⟨sb, gb, pb, cap, rb, qb, cap2, rfl, rfl, hx, hy, hgs, hrg⟩, _⟩ := h
 refine ⟨sb, gb, rb, t.turn, winI t.us, t.s0, t.s1, boardL t.bd, rfl, ⟨fun w' hf => look_any gb pb cap t w' (hgs.fr hf (by simp) (by simp)), fun w' hf => ?_, fun w' hf => cells_any gb pb cap t w' (hgs.fr hf (by simp) (by simp)), fun w' hf => (hrg.fr0 hf).rng, ?_, fun w' hf => (hf.cell sb 0 (lt_of_cell hx) (by simp)).trans hx, fun w' hf => (hf.cell sb 1 (lt_of_cell hy) (by simp)).trans hy, fun w' => board_eql t.bd w'⟩⟩
 ·have := refLook_any rb qb cap2 t w' (hrg.fr0 hf)
  rw [win_same hbs] at this
  exact this
 ·rw [boardL_len]; exact infoBoard
set_option maxRecDepth 100000 in
set_option maxHeartbeats 2000000 in
theorem standG_any (g : Value) (L K : List Nat) (t : T) (bb N : Nat) (w : World) (hG : Gm w g L t) (hB : Bk w bb K N) (hA : ∀ x ∈ L, x ≠ bb ∧ x ∉ K) (hN : N ≤ 2000000) :
  Calls Tryz.prog 28 #[g, .pointer (some ⟨bb, 0, none⟩)] w fun e w' => e = .returned (.bool true) ∧ SR w bb L K N t.turn g w' := by
 have C1 := folkG_any g L K t bb N w hG hB hA hN
 obtain ⟨sb, _, _, _, _, _, _, _, hg0, _⟩ := hG.asked
 subst hg0
 clear hG hB hA
 go_enter Tryz.func28, Tryz.ntmps28
 go_wp2_with fail
 refine Calls.mono C1 ?_
 rintro e w1 ⟨rfl, hsr⟩
 dsimp only
 obtain ⟨L', t', K', hG1, _⟩ := hsr.ex
 obtain ⟨sb1, gb, rb, z0, z1, z2, z3, BL, hg, hq⟩ := hG1.asked
 cases hg
 have LG := (show Hid (∀ w', Fr [] w1 w' → Calls Tryz.prog 23 #[.pointer (some ⟨gb, 0, none⟩)] w' fun e w'' => e = .returned (.agg #[ii z0, ii z1, ii z2, ii z3]) ∧ Fr [] w' w'') from hq.lg)
 have LR := (show Hid (∀ w', Fr [] w1 w' → Calls Tryz.prog 54 #[.pointer (some ⟨rb, 0, none⟩)] w' fun e w'' => e = .returned (.agg #[ii z0, ii z1, ii z2, ii z3]) ∧ Fr [] w' w'') from hq.lr)
 have CG := (show Hid (∀ w', Fr [] w1 w' → Calls Tryz.prog 55 #[.pointer (some ⟨gb, 0, none⟩)] w' fun e w'' => e = .returned (.agg BL.toArray) ∧ Fr [] w' w'') from hq.cg)
 have HRR : Hid (∀ w', (w'.cell? ⟨sb, 0, none⟩ = some (.pointer (some ⟨gb, 0, none⟩)) ∧ w'.cell? ⟨sb, 1, none⟩ = some (.pointer (some ⟨rb, 0, none⟩)) ∧ Fr [] w1 w') → w'.rangeAt rb 1 BL) := fun w' h => hq.rr w' h.2.2
 have HSZ := (show Hid _ from hq.sz)
 have HS : ∀ w', Fr [] w1 w' → (fun w' : World => w'.cell? ⟨sb, 0, none⟩ = some (.pointer (some ⟨gb, 0, none⟩)) ∧ w'.cell? ⟨sb, 1, none⟩ = some (.pointer (some ⟨rb, 0, none⟩)) ∧ Fr [] w1 w') w' := fun w' hf => ⟨hq.c0 w' hf, hq.c1 w' hf, hf⟩
 have K0 := HS w1.drew ((Fr.refl _ _).drew)
 have hbe := hq.eq
 have hbg := fun (x y : Operand) (w0 : World) => board_guard x y BL.toArray w0
 have hse := state_eql z0 z1 z2 z3
 have hsg := fun (x y : Operand) (w0 : World) => state_guard x y z0 z1 z2 z3 w0
 have HSR := (show Hid _ from hsr)
 clear hsr hG1 hq C1
 go_wp2_with fail
 refine wp_region_held_drew (S := fun w' : World => w'.cell? ⟨sb, 0, none⟩ = some (.pointer (some ⟨gb, 0, none⟩)) ∧ w'.cell? ⟨sb, 1, none⟩ = some (.pointer (some ⟨rb, 0, none⟩)) ∧ Fr [] w1 w') (by kernel_rfl) K0 (fun hH => ?_)
 refine (show wpAnyH Tryz.prog Region.Mode.any _ _ _ 30 (Array.replicate 30 false) _ _ from ?_)
 refine tk 0 ?_ (by simp only [G]; rfl) (by kernel_rfl) (by exact fun _ _ _ h => h) (Or.inl ⟨by rfl, ?_⟩) hH ?_; rotate_left; (focus intro w h; go_simp; first | with_reducible rfl | done); try simp only [Act.put, Z]
 refine tk 1 ?_ (by simp only [G]; rfl) (by kernel_rfl) (by exact fun _ _ _ h => h) (Or.inl ⟨by rfl, ?_⟩) hH ?_; rotate_left; (focus intro w h; go_simp; first | with_reducible rfl | done); try simp only [Act.put, Z]
 refine tk 2 ?_ (by simp only [G]; rfl) (by kernel_rfl) (by exact fun _ _ _ h => h) (Or.inl ⟨by rfl, ?_⟩) hH ?_; rotate_left; (focus intro w h; go_simp; first | with_reducible rfl | done); try simp only [Act.put, Z]
 refine tk 3 ?_ (by simp only [G]; rfl) (by kernel_rfl) (by exact fun _ _ _ h => h) (Or.inl ⟨by rfl, ?_⟩) hH ?_; rotate_left; (focus intro w h; go_simp; first | with_reducible rfl | done); try simp only [Act.put, Z]
 refine tk 4 ?_ (by simp only [G]; rfl) (by kernel_rfl) (by exact fun _ _ _ h => h) (Or.inl ⟨by rfl, ?_⟩) hH ?_; rotate_left; (focus intro w h; go_simp; first | with_reducible rfl | done); try simp only [Act.put, Z]
 refine tk 5 ?_ (by simp only [G]; rfl) (by kernel_rfl) (by exact fun _ _ _ h => h) (Or.inl ⟨by rfl, ?_⟩) hH ?_; rotate_left; (focus intro w h; go_simp; first | with_reducible rfl | done); try simp only [Act.put, Z]
 refine tk 7 ?_ (by simp only [G]; rfl) (by kernel_rfl) (by exact fun _ _ _ h => h) (Or.inl ⟨by rfl, ?_⟩) hH ?_; rotate_left; (focus intro w h; go_simp; first | with_reducible rfl | done); try simp only [Act.put, Z]
 refine tk 8 ?_ (by simp only [G]; rfl) (by kernel_rfl) (by exact fun _ _ _ h => h) (Or.inl ⟨by rfl, ?_⟩) hH ?_; rotate_left; (focus intro w h; go_simp; first | with_reducible rfl | done); try simp only [Act.put, Z]
 refine tk 9 ?_ (by simp only [G]; rfl) (by kernel_rfl) (by exact fun _ _ _ h => h) (Or.inl ⟨by rfl, ?_⟩) hH ?_; rotate_left; (focus intro w h; go_simp; first | with_reducible rfl | done); try simp only [Act.put, Z]
 refine tk 10 ?_ (by simp only [G]; rfl) (by kernel_rfl) (by exact fun _ _ _ h => h) (Or.inl ⟨by rfl, ?_⟩) hH ?_; rotate_left; (focus intro w h; go_simp; first | with_reducible rfl | done); try simp only [Act.put, Z]
 refine wpAnyH_ready (rs := [6]) (by kernel_rfl) (by simp) ?_
 refine AllReadyH.cons (by simp only [G]; rfl) (fun K hK => ?_) AllReadyH.nil
 have HKK := (show Hid _ from hK)
 clear hK
 go_simp
 refine Calls.mono (LG.out _ hH.2.2) ?_
 rintro e wc6 ⟨rfl, hfc6⟩
 dsimp only
 have hfr6 := hH.2.2.then0 hfc6
 clear hH
 refine HKK.out _ _ (HS _ hfr6) (fun hH => ?_)
 clear HKK K; try simp only [Act.put, Z]
 refine wpAnyH_ready (rs := [11]) (by kernel_rfl) (by simp) ?_
 refine AllReadyH.cons (by simp only [G]; rfl) (fun K hK => ?_) AllReadyH.nil
 have HKK := (show Hid _ from hK)
 clear hK
 go_simp
 refine Calls.mono (LR.out _ hH.2.2) ?_
 rintro e wc11 ⟨rfl, hfc11⟩
 dsimp only
 have hfr11 := hH.2.2.then0 hfc11
 clear hH
 refine HKK.out _ _ (HS _ hfr11) (fun hH => ?_)
 clear HKK K; try simp only [Act.put, Z]
 refine tk 12 ?_ (by simp only [G]; rfl) (by kernel_rfl) (by exact fun _ _ _ h => h) (Or.inl ⟨by rfl, ?_⟩) hH ?_; rotate_left; (focus intro w h; go_simp; first | with_reducible rfl | done); try simp only [Act.put, Z]
 refine tk 13 ?_ (by simp only [G]; rfl) (by kernel_rfl) (by exact fun _ _ _ h => h) (Or.inl ⟨by rfl, ?_⟩) hH ?_; rotate_left; (focus intro w h; go_simp; first | with_reducible rfl | done); try simp only [Act.put, Z]
 refine tk 14 ?_ (by simp only [G]; rfl) (by kernel_rfl) (by exact fun _ _ _ h => h) (Or.inl ⟨by rfl, ?_⟩) hH ?_; rotate_left; (focus intro w h; go_simp; first | with_reducible rfl | done); try simp only [Act.put, Z]
 refine tk 15 ?_ (by simp only [G]; rfl) (by kernel_rfl) (by exact fun _ _ _ h => h) (Or.inl ⟨by rfl, ?_⟩) hH ?_; rotate_left; (focus intro w h; go_simp; first | with_reducible rfl | done); try simp only [Act.put, Z]
 refine tk 16 ?_ (by simp only [G]; rfl) (by kernel_rfl) (by exact fun _ _ _ h => h) (Or.inl ⟨by rfl, ?_⟩) hH ?_; rotate_left; (focus intro w h; go_simp; first | with_reducible rfl | done); try simp only [Act.put, Z]
 refine tk 17 ?_ (by simp only [G]; rfl) (by kernel_rfl) (by exact fun _ _ _ h => h) (Or.inl ⟨by rfl, ?_⟩) hH ?_; rotate_left; (focus intro w h; go_simp; first | with_reducible rfl | done); try simp only [Act.put, Z]
 refine tk 18 ?_ (by simp only [G]; rfl) (by kernel_rfl) (by exact fun _ _ _ h => h) (Or.inl ⟨by rfl, ?_⟩) hH ?_; rotate_left; (focus intro w h; go_simp; first | with_reducible rfl | done); try simp only [Act.put, Z]
 refine tk 20 ?_ (by simp only [G]; rfl) (by kernel_rfl) (by exact fun _ _ _ h => h) (Or.inl ⟨by rfl, ?_⟩) hH ?_; rotate_left; (focus intro w h; go_simp; first | with_reducible rfl | done); try simp only [Act.put, Z]
 refine tk 21 ?_ (by simp only [G]; rfl) (by kernel_rfl) (by exact fun _ _ _ h => h) (Or.inl ⟨by rfl, ?_⟩) hH ?_; rotate_left; (focus intro w h; go_simp; first | with_reducible rfl | done); try simp only [Act.put, Z]
 refine tk 22 ?_ (by simp only [G]; rfl) (by kernel_rfl) (by exact fun _ _ _ h => h) (Or.inl ⟨by rfl, ?_⟩) hH ?_; rotate_left; (focus intro w h; go_simp; first | with_reducible rfl | done); try simp only [Act.put, Z]
 refine tk 23 ?_ (by simp only [G]; rfl) (by kernel_rfl) (by exact fun _ _ _ h => h) (Or.inl ⟨by rfl, ?_⟩) hH ?_; rotate_left; (focus intro w h; go_simp; first | with_reducible rfl | done); try simp only [Act.put, Z]
 refine tk 24 ?_ (by simp only [G]; rfl) (by kernel_rfl) (by exact fun _ _ _ h => h) (Or.inl ⟨by rfl, ?_⟩) hH ?_; rotate_left; (focus intro w h; go_simp; first | with_reducible rfl | done); try simp only [Act.put, Z]
 refine tk 25 ?_ (by simp only [G]; rfl) (by kernel_rfl) (by exact fun _ _ _ h => h) (Or.inl ⟨by rfl, ?_⟩) hH ?_; rotate_left; (focus intro w h; go_simp; first | with_reducible rfl | done); try simp only [Act.put, Z]
 refine wpAnyH_take (i := 26) (oi := _) (v := .agg BL.toArray) (by simp only [G]; rfl) (by kernel_rfl) (by kernel_rfl) (by kernel_rfl) (by exact fun _ _ _ h => h) (yieldsIf_load_mid (by kernel_rfl) 88 (.tmp 34) rfl rb 1 rfl BL _ HRR.out Tryz.underlying88 rfl HSZ.out) hH ?_; try simp only [Act.put, Z]
 refine wpAnyH_ready (rs := [19]) (by kernel_rfl) (by simp) ?_
 refine AllReadyH.cons (by simp only [G]; rfl) (fun K hK => ?_) AllReadyH.nil
 have HKK := (show Hid _ from hK)
 clear hK
 go_simp
 refine Calls.mono (CG.out _ hH.2.2) ?_
 rintro e wc19 ⟨rfl, hfc19⟩
 dsimp only
 have hfr19 := hH.2.2.then0 hfc19
 clear hH
 refine HKK.out _ _ (HS _ hfr19) (fun hH => ?_)
 clear HKK K; try simp only [Act.put, Z]
 refine tk 27 ?_ (by simp only [G]; rfl) (by kernel_rfl) (by exact fun _ _ _ h => h) (Or.inl ⟨by rfl, ?_⟩) hH ?_; rotate_left; (focus intro w h; go_simp; first | with_reducible rfl | done); try simp only [Act.put, Z]
 refine tk 28 ?_ (by simp only [G]; rfl) (by kernel_rfl) (by exact fun _ _ _ h => h) (Or.inl ⟨by rfl, ?_⟩) hH ?_; rotate_left; (focus intro w h; go_simp; first | with_reducible rfl | done); try simp only [Act.put, Z]
 refine tk 29 ?_ (by simp only [G]; rfl) (by kernel_rfl) (by exact fun _ _ _ h => h) (Or.inl ⟨by rfl, ?_⟩) hH ?_; rotate_left; (focus intro w h; go_simp; first | with_reducible rfl | done); try simp only [Act.put, Z]
 refine wpAnyH_done (by kernel_rfl) ?_ _
 go_wp2_with fail
 go_ret
 exact ⟨rfl, SR.after HSR.out hH.2.2⟩
end Go.Proofs.YtapabahhfanmmaaGreatDoor
