import Derived.Test.YtapabahhfanmmaaDoorCLeaf
import Derived.RegionTactic
import Derived.BigRegion
/- More leaves. -/
namespace Go.Proofs.YtapabahhfanmmaaDoor
open Go.RowKit

abbrev U.ordered (u : U) (c : Cm) : U := { u with what := c.what, tox := c.x, toy := c.y, target := c.target }
abbrev U.idle (u : U) : U := { u with what := 0, tox := 0, toy := 0, target := 0 }

set_option maxHeartbeats 400000 in
theorem ordered_any (u : U) (c : Cm) (w : World) :
    Calls Tryd.prog 58 #[u.val, c.val] w fun e w' => e = .returned (u.ordered c).val ∧ Fr [] w w' := by
  go_enter Tryd.func58, Tryd.ntmps58
  go_wp2
  go_region
  go_wp2
  exact bodyPost_ret (v := (u.ordered c).val) (by simp [results, Tryd.results58, go_sem]) rfl ⟨rfl, ((((Fr.refl _ _).alloc _).alloc _).alloc _).drew⟩

set_option maxHeartbeats 400000 in
theorem rest_any (t : Value) (u : U) (w : World) :
    Calls Tryd.prog 79 #[t, u.val] w fun e w' => e = .returned u.val ∧ Fr [] w w' := by
  go_enter Tryd.func79, Tryd.ntmps79
  go_wp2
  exact bodyPost_ret (v := u.val) (by simp [results, Tryd.results79, go_sem]) rfl ⟨rfl, ((Fr.refl _ _).alloc _).alloc _⟩

set_option maxHeartbeats 400000 in
theorem keepsNothing_any (c : Cm) (w : World) :
    Calls Tryd.prog 78 #[c.val] w fun e w' => e = .returned (Cm.mk c.unit c.what 0 0 0).val ∧ Fr [] w w' := by
  go_enter Tryd.func78, Tryd.ntmps78
  go_wp2
  exact bodyPost_ret (v := (Cm.mk c.unit c.what 0 0 0).val) (by simp [results, Tryd.results78, go_sem]) rfl ⟨rfl, ((Fr.refl _ _).alloc _).alloc _⟩

set_option maxHeartbeats 400000 in
theorem keepsCell_any (c : Cm) (w : World) :
    Calls Tryd.prog 68 #[c.val] w fun e w' => e = .returned (Cm.mk c.unit c.what c.x c.y 0).val ∧ Fr [] w w' := by
  go_enter Tryd.func68, Tryd.ntmps68
  go_wp2
  exact bodyPost_ret (v := (Cm.mk c.unit c.what c.x c.y 0).val) (by simp [results, Tryd.results68, go_sem]) rfl ⟨rfl, ((Fr.refl _ _).alloc _).alloc _⟩

set_option maxHeartbeats 400000 in
theorem keepsTarget_any (c : Cm) (w : World) :
    Calls Tryd.prog 75 #[c.val] w fun e w' => e = .returned (Cm.mk c.unit c.what 0 0 c.target).val ∧ Fr [] w w' := by
  go_enter Tryd.func75, Tryd.ntmps75
  go_wp2
  exact bodyPost_ret (v := (Cm.mk c.unit c.what 0 0 c.target).val) (by simp [results, Tryd.results75, go_sem]) rfl ⟨rfl, ((Fr.refl _ _).alloc _).alloc _⟩

set_option maxHeartbeats 400000 in
theorem keepsKind_any (c : Cm) (w : World) :
    Calls Tryd.prog 65 #[c.val] w fun e w' => e = .returned (Cm.mk c.unit c.what c.x 0 0).val ∧ Fr [] w w' := by
  go_enter Tryd.func65, Tryd.ntmps65
  go_wp2
  exact bodyPost_ret (v := (Cm.mk c.unit c.what c.x 0 0).val) (by simp [results, Tryd.results65, go_sem]) rfl ⟨rfl, ((Fr.refl _ _).alloc _).alloc _⟩

set_option maxHeartbeats 400000 in
theorem takesAny_any (g : Value) (u : U) (c : Cm) (w : World) :
    Calls Tryd.prog 77 #[g, u.val, c.val] w fun e w' => e = .returned (.bool true) ∧ Fr [] w w' := by
  go_enter Tryd.func77, Tryd.ntmps77
  go_wp2
  go_ret
  exact ⟨rfl, ((Fr.refl _ _).alloc _).alloc _⟩

set_option maxHeartbeats 400000 in
theorem isNaN_any (a : Int) (w : World) :
    Calls Tryd.prog 80 #[.int .i64 a] w fun e w' => e = .returned (.bool false) ∧ w = w' := by
  go_enter Tryd.func80, Tryd.ntmps80
  go_wp2
  go_ret
  exact ⟨by simp, rfl⟩

def cmpI (a b : Int) : Int := if a < b then -1 else if b < a then 1 else 0
set_option maxHeartbeats 400000 in
theorem compare_any (a b : Int) (w : World) :
    Calls Tryd.prog 61 #[.int .i64 a, .int .i64 b] w fun e w' => e = .returned (.int .i64 (cmpI a b)) ∧ w = w' := by
  go_enter Tryd.func61, Tryd.ntmps61
  go_wp2_with (go_at_call 80; refine (isNaN_any _ _).mono ?_; rintro e w' ⟨rfl, rfl⟩)
  all_goals
    go_ret
    exact ⟨ret_int (by simp [cmpI, *] <;> omega), rfl⟩

end Go.Proofs.YtapabahhfanmmaaDoor
