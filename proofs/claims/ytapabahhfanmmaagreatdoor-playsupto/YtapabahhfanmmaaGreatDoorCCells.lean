import Derived.Test.YtapabahhfanmmaaGreatDoorCLeaf
import Derived.RegionTactic
import Derived.BigRegion
import Derived.Deep.MidRow
namespace Go.Proofs.YtapabahhfanmmaaGreatDoor
open Go.RowKit
abbrev U.ordered (u : U) (c : Cm) : U := { u with what := c.what, tox := c.x, toy := c.y, target := c.target }
abbrev U.idle (u : U) : U := { u with what := 0, tox := 0, toy := 0, target := 0 }
set_option maxHeartbeats 400000 in
theorem ordered_any (u : U) (c : Cm) (w : World) :
  Calls Tryz.prog 194 #[u.val, c.val] w fun e w' => e = .returned (u.ordered c).val ∧ Fr [] w w' := by
 go_enter Tryz.func194, Tryz.ntmps194
 go_wp2
 go_region
 go_wp2
 exact bodyPost_ret (v := (u.ordered c).val) (by simp [results, Tryz.results194, go_sem]) rfl ⟨rfl, ((((Fr.refl _ _).alloc _).alloc _).alloc _).drew⟩
set_option maxHeartbeats 400000 in
theorem rest_any (t : Value) (u : U) (w : World) :
  Calls Tryz.prog 169 #[t, u.val] w fun e w' => e = .returned u.val ∧ Fr [] w w' := by
 go_enter Tryz.func169, Tryz.ntmps169
 go_wp2
 exact bodyPost_ret (v := u.val) (by simp [results, Tryz.results169, go_sem]) rfl ⟨rfl, ((Fr.refl _ _).alloc _).alloc _⟩
set_option maxHeartbeats 400000 in
theorem keepsNothing_any (c : Cm) (w : World) :
  Calls Tryz.prog 168 #[c.val] w fun e w' => e = .returned (Cm.mk c.unit c.what 0 0 0).val ∧ Fr [] w w' := by
 go_enter Tryz.func168, Tryz.ntmps168
 go_wp2
 exact bodyPost_ret (v := (Cm.mk c.unit c.what 0 0 0).val) (by simp [results, Tryz.results168, go_sem]) rfl ⟨rfl, ((Fr.refl _ _).alloc _).alloc _⟩
set_option maxHeartbeats 400000 in
theorem keepsCell_any (c : Cm) (w : World) :
  Calls Tryz.prog 158 #[c.val] w fun e w' => e = .returned (Cm.mk c.unit c.what c.x c.y 0).val ∧ Fr [] w w' := by
 go_enter Tryz.func158, Tryz.ntmps158
 go_wp2
 exact bodyPost_ret (v := (Cm.mk c.unit c.what c.x c.y 0).val) (by simp [results, Tryz.results158, go_sem]) rfl ⟨rfl, ((Fr.refl _ _).alloc _).alloc _⟩
set_option maxHeartbeats 400000 in
theorem keepsTarget_any (c : Cm) (w : World) :
  Calls Tryz.prog 165 #[c.val] w fun e w' => e = .returned (Cm.mk c.unit c.what 0 0 c.target).val ∧ Fr [] w w' := by
 go_enter Tryz.func165, Tryz.ntmps165
 go_wp2
 exact bodyPost_ret (v := (Cm.mk c.unit c.what 0 0 c.target).val) (by simp [results, Tryz.results165, go_sem]) rfl ⟨rfl, ((Fr.refl _ _).alloc _).alloc _⟩
set_option maxHeartbeats 400000 in
theorem keepsKind_any (c : Cm) (w : World) :
  Calls Tryz.prog 155 #[c.val] w fun e w' => e = .returned (Cm.mk c.unit c.what c.x 0 0).val ∧ Fr [] w w' := by
 go_enter Tryz.func155, Tryz.ntmps155
 go_wp2
 exact bodyPost_ret (v := (Cm.mk c.unit c.what c.x 0 0).val) (by simp [results, Tryz.results155, go_sem]) rfl ⟨rfl, ((Fr.refl _ _).alloc _).alloc _⟩
set_option maxHeartbeats 400000 in
theorem takesAny_any (g : Value) (u : U) (c : Cm) (w : World) :
  Calls Tryz.prog 167 #[g, u.val, c.val] w fun e w' => e = .returned (.bool true) ∧ Fr [] w w' := by
 go_enter Tryz.func167, Tryz.ntmps167
 go_wp2
 go_ret
 exact ⟨rfl, ((Fr.refl _ _).alloc _).alloc _⟩
set_option maxHeartbeats 400000 in
theorem isNaN_any (a : Int) (w : World) :
  Calls Tryz.prog 219 #[.int .i64 a] w fun e w' => e = .returned (.bool false) ∧ w = w' := by
 go_enter Tryz.func219, Tryz.ntmps219
 go_wp2
 go_ret
 exact ⟨by simp, rfl⟩
def cmpI (a b : Int) : Int := if a < b then -1 else if b < a then 1 else 0
set_option maxHeartbeats 400000 in
theorem compare_any (a b : Int) (w : World) :
  Calls Tryz.prog 197 #[.int .i64 a, .int .i64 b] w fun e w' => e = .returned (.int .i64 (cmpI a b)) ∧ w = w' := by
 go_enter Tryz.func197, Tryz.ntmps197
 go_wp2_with (go_at_call 219; refine (isNaN_any _ _).mono ?_; rintro e w' ⟨rfl, rfl⟩)
 all_goals
  go_ret
  exact ⟨ret_int (by simp [cmpI, *] <;> omega), rfl⟩
set_option maxHeartbeats 400000 in
theorem idle_any (u : U) (w : World) :
  Calls Tryz.prog 200 #[u.val] w fun e w' => e = .returned u.idle.val ∧ Fr [] w w' := by
 go_enter Tryz.func200, Tryz.ntmps200
 go_wp2_with (go_at_call 194; refine (ordered_any u (Cm.mk 0 0 0 0 0) _).mono ?_; rintro e w1 ⟨rfl, hf⟩; obtain ⟨hc, hz⟩ := hf.cells0)
 refine bodyPost_ret (v := u.idle.val) (by simp [results, Tryz.results200, go_sem, hc]) rfl ⟨rfl, ?_⟩
 repeat (refine Fr.setCell ?_ _ _ (Or.inr (by simp)))
 exact (((Fr.refl _ _).alloc _).alloc _).then0 hf
set_option maxHeartbeats 400000 in
theorem findOne_any (u : U) (id : Int) (w : World) :
  Calls Tryz.prog 196 #[u.val, .int .i64 id] w fun e w' => e = .returned (.int .i64 (cmpI u.id id)) ∧ Fr [] w w' := by
 go_enter Tryz.func196, Tryz.ntmps196
 go_wp2_with (go_at_call 197; refine (compare_any _ _ _).mono ?_; rintro e w1 ⟨rfl, rfl⟩)
 go_ret
 exact ⟨rfl, (Fr.refl _ _).alloc _⟩
abbrev fv (n : Nat) : Value := .func (.func n) #[] #[]
abbrev kind1 : Value := .agg #[.int .i64 40, .int .i64 0, .int .i64 0, .bool false, fv 167, fv 167, fv 168, fv 169, .nilFunc, .nilFunc, .nilFunc, .nilFunc, .nilFunc, .nilFunc, .nilFunc, .nilFunc, .nilFunc, .nilFunc, .nilFunc, .nilFunc, fv 154, fv 154, fv 155, fv 156]
abbrev kind2 : Value := .agg #[.int .i64 8, .int .i64 5, .int .i64 5, .bool true, fv 167, fv 167, fv 168, fv 169, fv 157, fv 157, fv 158, fv 159, fv 160, fv 161, fv 158, fv 162, .nilFunc, .nilFunc, .nilFunc, .nilFunc, .nilFunc, .nilFunc, .nilFunc, .nilFunc]
abbrev kind3 : Value := .agg #[.int .i64 12, .int .i64 8, .int .i64 0, .bool true, fv 167, fv 167, fv 168, fv 169, fv 157, fv 157, fv 158, fv 159, .nilFunc, .nilFunc, .nilFunc, .nilFunc, fv 163, fv 164, fv 165, fv 166, .nilFunc, .nilFunc, .nilFunc, .nilFunc]
abbrev kind0 : Value := .agg #[.int .i64 0, .int .i64 0, .int .i64 0, .bool false, .nilFunc, .nilFunc, .nilFunc, .nilFunc, .nilFunc, .nilFunc, .nilFunc, .nilFunc, .nilFunc, .nilFunc, .nilFunc, .nilFunc, .nilFunc, .nilFunc, .nilFunc, .nilFunc, .nilFunc, .nilFunc, .nilFunc, .nilFunc]
abbrev sideL : List Value := [ii 0, ii (-1), ii 1, ii 0, ii 0, ii 1, ii (-1), ii 0]
abbrev sideA : Value := .agg #[ii 0, ii (-1), ii 1, ii 0, ii 0, ii 1, ii (-1), ii 0]
def Sd (w : World) : Prop := w.rangeAt 0 0 sideL
theorem Sd.fr {S : List Nat} {w w' : World} (h : Sd w) (hf : Fr S w w') (hn : 0 ∉ S) : Sd w' := fun j v hv => by
  have h1 := h j v hv
  rw [hf.cell 0 _ (lt_of_cell h1) hn]; exact h1
theorem Sd.fr0 {w w' : World} (h : Sd w) (hf : Fr [] w w') : Sd w' := h.fr hf (by simp)
theorem Sd.cells {w : World} (h : Sd w) : w.cell? ⟨0, 0, none⟩ = some (ii 0) ∧ w.cell? ⟨0, 1, none⟩ = some (ii (-1)) ∧ w.cell? ⟨0, 2, none⟩ = some (ii 1) ∧ w.cell? ⟨0, 3, none⟩ = some (ii 0) ∧
    w.cell? ⟨0, 4, none⟩ = some (ii 0) ∧ w.cell? ⟨0, 5, none⟩ = some (ii 1) ∧ w.cell? ⟨0, 6, none⟩ = some (ii (-1)) ∧ w.cell? ⟨0, 7, none⟩ = some (ii 0) :=
  ⟨h 0 _ rfl, h 1 _ rfl, h 2 _ rfl, h 3 _ rfl, h 4 _ rfl, h 5 _ rfl, h 6 _ rfl, h 7 _ rfl⟩
theorem Sd.pos {w : World} (h : Sd w) : 0 < w.heap.size := lt_of_cell (h 0 _ rfl)
theorem sideI0 (w : World) : (Instr.index 284 sideA (.int .i64 0)).run Tryz.prog w = .ok (cv 0 (-1)) w := by kernel_rfl
theorem sideI1 (w : World) : (Instr.index 284 sideA (.int .i64 1)).run Tryz.prog w = .ok (cv 1 0) w := by kernel_rfl
theorem sideI2 (w : World) : (Instr.index 284 sideA (.int .i64 2)).run Tryz.prog w = .ok (cv 0 1) w := by kernel_rfl
theorem sideI3 (w : World) : (Instr.index 284 sideA (.int .i64 3)).run Tryz.prog w = .ok (cv (-1) 0) w := by kernel_rfl
theorem eqCell (a b c d : Int) (w : World) : (binOp BinOp.eql 159 (cv a b) (cv c d)).run Tryz.prog w = .ok (.bool (a == c && b == d)) w := by
  by_cases h1 : a = c <;> by_cases h2 : b = d <;> simp [go_sem, h1, h2]
theorem guardCell (x y : Operand) (a b c d : Int) (w : World) : (eqGuard BinOp.eql 159 x y (cv a b) (cv c d)).run Tryz.prog w = .ok () w := by kernel_rfl
theorem wpList_eqlCell {ops : Array Oper} {rest : List Oper} {o : Oper} {act : Act} {w : World} {Q : Exit → Act → World → Prop} (hgd : o.guard = none) (x y : Operand) (t t' : TypeId) (ho : o.op = .binOp .eql t x y t') (ht : t = 159)
  (a b c d : Int) (hx : act.eval x = cv a b) (hy : act.eval y = cv c d) (B : Bool) (hB : (a == c && b == d) = B)
  (h : wpList Tryz.prog ops Q rest (act.put o.dst (.bool B)) w) : wpList Tryz.prog ops Q (o :: rest) act w := by
 subst ht hB
 refine wpList_plain hgd fun _ hK => ?_
 unfold Oper.wp
 simp [execOp, ho, hx, hy, eqCell, guardCell, Result.andThen]
 exact hK _ _ h
theorem hp_new3 (w : World) (A B C : Obj) : (((w.alloc A).alloc B).alloc C).heap[w.heap.size + 1 + 1]? = some C := by
  have h := hp_new2 (w.alloc A) B C
  rwa [show (w.alloc A).heap.size = w.heap.size + 1 by simp] at h
def adjB (x y x' y' : Int) : Bool := (x' - x == 0 && y' - y == -1) || (x' - x == 1 && y' - y == 0) || (x' - x == 0 && y' - y == 1) || (x' - x == -1 && y' - y == 0)
set_option maxRecDepth 100000 in
set_option maxHeartbeats 400000 in
theorem adjacent_any (x y x' y' : Int) (w : World) (hsd : Sd w) (h1 : -1000 ≤ x) (h2 : x ≤ 1000) (h3 : -1000 ≤ y) (h4 : y ≤ 1000) (h5 : -1000 ≤ x') (h6 : x' ≤ 1000) (h7 : -1000 ≤ y') (h8 : y' ≤ 1000) :
  Calls Tryz.prog 206 #[cv x y, cv x' y'] w fun e w' => e = .returned (.bool (adjB x y x' y')) ∧ Fr [] w w' := by
 obtain ⟨s0, s1, s2, s3, s4, s5, s6, s7⟩ := hsd.cells
 have hpos := hsd.pos
 go_enter Tryz.func206, Tryz.ntmps206
 go_wp2_with fail
 go_loopw [20] (fun i wr => ∃ k : Nat, k ≤ 4 ∧ i = .int .i64 k ∧ (0 < k → (x' - x == 0 && y' - y == -1) = false) ∧ (1 < k → (x' - x == 1 && y' - y == 0) = false) ∧ (2 < k → (x' - x == 0 && y' - y == 1) = false) ∧ (3 < k → (x' - x == -1 && y' - y == 0) = false) ∧
   Fr [] (((w.alloc (.cells #[ii x, ii y] 159)).alloc (.cells #[ii x', ii y'] 159)).alloc (.cells #[ii (x' - x), ii (y' - y)] 159)) wr) (fun i _ => 4 - (intOf i).toNat)
 case atStart => exact ⟨0, by omega, rfl, by omega, by omega, by omega, by omega, Fr.refl _ _⟩
 case round =>
  obtain ⟨k, hk, rfl, n0, n1, n2, n3, hf⟩ := hrel
  have hh := hf.heap0 (hp_new3 w _ _ _)
  have d0 : wr.cell? ⟨w.heap.size + 1 + 1, 0, none⟩ = some (ii (x' - x)) := cell_of_heap hh
  have d1 : wr.cell? ⟨w.heap.size + 1 + 1, 1, none⟩ = some (ii (y' - y)) := cell_of_heap hh
  have hsz : w.heap.size + 1 + 1 < wr.heap.size := lt_of_heap hh
  clear hh
  have i0 := sideI0
  have i1 := sideI1
  have i2 := sideI2
  have i3 := sideI3
  rcases (show k = 0 ∨ k = 1 ∨ k = 2 ∨ k = 3 ∨ k = 4 by omega) with rfl | rfl | rfl | rfl | rfl
  ·obtain ⟨B, hB⟩ : ∃ B, (x' - x == 0 && y' - y == (-1)) = B := ⟨_, rfl⟩
   have HB := (show Hid _ from hB)
   clear hB
   cases B
   ·go_wp2_with (refine wpList_eqlCell rfl _ _ _ _ rfl rfl (x' - x) (y' - y) 0 (-1) rfl rfl _ HB.out ?_)
    go_roundw
    case rel => exact ⟨1, by omega, rfl, fun _ => HB.out, by omega, by omega, by omega, hf.alloc _⟩
    case measure => simp [intOf]
   ·go_wp2_with (refine wpList_eqlCell rfl _ _ _ _ rfl rfl (x' - x) (y' - y) 0 (-1) rfl rfl _ HB.out ?_)
    go_ret
    exact ⟨ret_bool (by unfold adjB; rw [HB.out]; simp), ((((Fr.refl _ _).alloc _).alloc _).alloc _).then0 (hf.alloc _)⟩
  ·obtain ⟨B, hB⟩ : ∃ B, (x' - x == 1 && y' - y == 0) = B := ⟨_, rfl⟩
   have HB := (show Hid _ from hB)
   clear hB
   cases B
   ·go_wp2_with (refine wpList_eqlCell rfl _ _ _ _ rfl rfl (x' - x) (y' - y) 1 0 rfl rfl _ HB.out ?_)
    go_roundw
    case rel => exact ⟨2, by omega, rfl, fun _ => n0 (by omega), fun _ => HB.out, by omega, by omega, hf.alloc _⟩
    case measure => simp [intOf]
   ·go_wp2_with (refine wpList_eqlCell rfl _ _ _ _ rfl rfl (x' - x) (y' - y) 1 0 rfl rfl _ HB.out ?_)
    go_ret
    exact ⟨ret_bool (by unfold adjB; rw [HB.out]; simp), ((((Fr.refl _ _).alloc _).alloc _).alloc _).then0 (hf.alloc _)⟩
  ·obtain ⟨B, hB⟩ : ∃ B, (x' - x == 0 && y' - y == 1) = B := ⟨_, rfl⟩
   have HB := (show Hid _ from hB)
   clear hB
   cases B
   ·go_wp2_with (refine wpList_eqlCell rfl _ _ _ _ rfl rfl (x' - x) (y' - y) 0 1 rfl rfl _ HB.out ?_)
    go_roundw
    case rel => exact ⟨3, by omega, rfl, fun _ => n0 (by omega), fun _ => n1 (by omega), fun _ => HB.out, by omega, hf.alloc _⟩
    case measure => simp [intOf]
   ·go_wp2_with (refine wpList_eqlCell rfl _ _ _ _ rfl rfl (x' - x) (y' - y) 0 1 rfl rfl _ HB.out ?_)
    go_ret
    exact ⟨ret_bool (by unfold adjB; rw [HB.out]; simp), ((((Fr.refl _ _).alloc _).alloc _).alloc _).then0 (hf.alloc _)⟩
  ·obtain ⟨B, hB⟩ : ∃ B, (x' - x == (-1) && y' - y == 0) = B := ⟨_, rfl⟩
   have HB := (show Hid _ from hB)
   clear hB
   cases B
   ·go_wp2_with (refine wpList_eqlCell rfl _ _ _ _ rfl rfl (x' - x) (y' - y) (-1) 0 rfl rfl _ HB.out ?_)
    go_roundw
    case rel => exact ⟨4, by omega, rfl, fun _ => n0 (by omega), fun _ => n1 (by omega), fun _ => n2 (by omega), fun _ => HB.out, hf.alloc _⟩
    case measure => simp [intOf]
   ·go_wp2_with (refine wpList_eqlCell rfl _ _ _ _ rfl rfl (x' - x) (y' - y) (-1) 0 rfl rfl _ HB.out ?_)
    go_ret
    exact ⟨ret_bool (by unfold adjB; rw [HB.out]; simp), ((((Fr.refl _ _).alloc _).alloc _).alloc _).then0 (hf.alloc _)⟩
  ·go_wp2
   go_ret
   exact ⟨ret_bool (by unfold adjB; rw [n0 (by omega), n1 (by omega), n2 (by omega), n3 (by omega)]; rfl), ((((Fr.refl _ _).alloc _).alloc _).alloc _).then0 hf⟩
end Go.Proofs.YtapabahhfanmmaaGreatDoor
