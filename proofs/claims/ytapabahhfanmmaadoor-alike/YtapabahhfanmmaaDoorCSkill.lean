import Derived.Test.YtapabahhfanmmaaDoorCKinds
/- What a kind can do, by orders. -/
namespace Go.Proofs.YtapabahhfanmmaaDoor
open Go.RowKit
theorem neqF (n : Nat) (w : World) : (binOp BinOp.neq 117 (.func (.func n) #[] #[]) .nilFunc).run Tryd.prog w = .ok (.bool true) w := by kernel_rfl
theorem neqN (w : World) : (binOp BinOp.neq 117 .nilFunc .nilFunc).run Tryd.prog w = .ok (.bool false) w := by kernel_rfl
abbrev sk0 : Value := .agg #[.nilFunc, .nilFunc, .nilFunc, .nilFunc]
set_option maxRecDepth 100000 in
set_option maxHeartbeats 400000 in
theorem skill_out (v : Array Value) (what : Int) (w : World) (h : what < 0 ∨ 5 ≤ what) :
    Calls Tryd.prog 57 #[.agg v, .int .i64 what] w fun e w' => e = .returned (.tuple #[sk0, .bool false]) ∧ Fr [] w w' := by
  rcases h with h | h
  · go_enter Tryd.func57, Tryd.ntmps57
    go_wp2
    exact bodyPost_ret (v := .tuple #[sk0, .bool false]) (by simp [results, Tryd.results57, go_sem]) rfl ⟨rfl, ((Fr.refl _ _).alloc _).alloc _⟩
  · have h0 : ¬ what < 0 := by omega
    go_enter Tryd.func57, Tryd.ntmps57
    go_wp2
    exact bodyPost_ret (v := .tuple #[sk0, .bool false]) (by simp [results, Tryd.results57, go_sem]) rfl ⟨rfl, ((Fr.refl _ _).alloc _).alloc _⟩

set_option maxRecDepth 100000 in
set_option maxHeartbeats 400000 in
theorem skill_10 (w : World) :
    Calls Tryd.prog 57 #[kind1, .int .i64 0] w fun e w' => e = .returned (.tuple #[.agg #[fv 77, fv 77, fv 78, fv 79], .bool true]) ∧ Fr [] w w' := by
  go_enter Tryd.func57, Tryd.ntmps57
  have hn1 := neqF
  have hn2 := neqN
  go_wp2
  go_region
  go_wp2
  exact bodyPost_ret (v := .tuple #[.agg #[fv 77, fv 77, fv 78, fv 79], .bool true]) (by simp [results, Tryd.results57, go_sem]) rfl ⟨rfl, ((((Fr.refl _ _).alloc _).alloc _).alloc _).drew⟩

set_option maxRecDepth 100000 in
set_option maxHeartbeats 400000 in
theorem skill_11 (w : World) :
    Calls Tryd.prog 57 #[kind1, .int .i64 1] w fun e w' => e = .returned (.tuple #[.agg #[.nilFunc, .nilFunc, .nilFunc, .nilFunc], .bool false]) ∧ Fr [] w w' := by
  go_enter Tryd.func57, Tryd.ntmps57
  have hn1 := neqF
  have hn2 := neqN
  go_wp2
  go_region
  go_wp2
  exact bodyPost_ret (v := .tuple #[.agg #[.nilFunc, .nilFunc, .nilFunc, .nilFunc], .bool false]) (by simp [results, Tryd.results57, go_sem]) rfl ⟨rfl, ((((Fr.refl _ _).alloc _).alloc _).alloc _).drew⟩

set_option maxRecDepth 100000 in
set_option maxHeartbeats 400000 in
theorem skill_12 (w : World) :
    Calls Tryd.prog 57 #[kind1, .int .i64 2] w fun e w' => e = .returned (.tuple #[.agg #[.nilFunc, .nilFunc, .nilFunc, .nilFunc], .bool false]) ∧ Fr [] w w' := by
  go_enter Tryd.func57, Tryd.ntmps57
  have hn1 := neqF
  have hn2 := neqN
  go_wp2
  go_region
  go_wp2
  exact bodyPost_ret (v := .tuple #[.agg #[.nilFunc, .nilFunc, .nilFunc, .nilFunc], .bool false]) (by simp [results, Tryd.results57, go_sem]) rfl ⟨rfl, ((((Fr.refl _ _).alloc _).alloc _).alloc _).drew⟩

set_option maxRecDepth 100000 in
set_option maxHeartbeats 400000 in
theorem skill_13 (w : World) :
    Calls Tryd.prog 57 #[kind1, .int .i64 3] w fun e w' => e = .returned (.tuple #[.agg #[.nilFunc, .nilFunc, .nilFunc, .nilFunc], .bool false]) ∧ Fr [] w w' := by
  go_enter Tryd.func57, Tryd.ntmps57
  have hn1 := neqF
  have hn2 := neqN
  go_wp2
  go_region
  go_wp2
  exact bodyPost_ret (v := .tuple #[.agg #[.nilFunc, .nilFunc, .nilFunc, .nilFunc], .bool false]) (by simp [results, Tryd.results57, go_sem]) rfl ⟨rfl, ((((Fr.refl _ _).alloc _).alloc _).alloc _).drew⟩

set_option maxRecDepth 100000 in
set_option maxHeartbeats 400000 in
theorem skill_14 (w : World) :
    Calls Tryd.prog 57 #[kind1, .int .i64 4] w fun e w' => e = .returned (.tuple #[.agg #[fv 64, fv 64, fv 65, fv 66], .bool true]) ∧ Fr [] w w' := by
  go_enter Tryd.func57, Tryd.ntmps57
  have hn1 := neqF
  have hn2 := neqN
  go_wp2
  go_region
  go_wp2
  exact bodyPost_ret (v := .tuple #[.agg #[fv 64, fv 64, fv 65, fv 66], .bool true]) (by simp [results, Tryd.results57, go_sem]) rfl ⟨rfl, ((((Fr.refl _ _).alloc _).alloc _).alloc _).drew⟩

set_option maxRecDepth 100000 in
set_option maxHeartbeats 400000 in
theorem skill_20 (w : World) :
    Calls Tryd.prog 57 #[kind2, .int .i64 0] w fun e w' => e = .returned (.tuple #[.agg #[fv 77, fv 77, fv 78, fv 79], .bool true]) ∧ Fr [] w w' := by
  go_enter Tryd.func57, Tryd.ntmps57
  have hn1 := neqF
  have hn2 := neqN
  go_wp2
  go_region
  go_wp2
  exact bodyPost_ret (v := .tuple #[.agg #[fv 77, fv 77, fv 78, fv 79], .bool true]) (by simp [results, Tryd.results57, go_sem]) rfl ⟨rfl, ((((Fr.refl _ _).alloc _).alloc _).alloc _).drew⟩

set_option maxRecDepth 100000 in
set_option maxHeartbeats 400000 in
theorem skill_21 (w : World) :
    Calls Tryd.prog 57 #[kind2, .int .i64 1] w fun e w' => e = .returned (.tuple #[.agg #[fv 67, fv 67, fv 68, fv 69], .bool true]) ∧ Fr [] w w' := by
  go_enter Tryd.func57, Tryd.ntmps57
  have hn1 := neqF
  have hn2 := neqN
  go_wp2
  go_region
  go_wp2
  exact bodyPost_ret (v := .tuple #[.agg #[fv 67, fv 67, fv 68, fv 69], .bool true]) (by simp [results, Tryd.results57, go_sem]) rfl ⟨rfl, ((((Fr.refl _ _).alloc _).alloc _).alloc _).drew⟩

set_option maxRecDepth 100000 in
set_option maxHeartbeats 400000 in
theorem skill_22 (w : World) :
    Calls Tryd.prog 57 #[kind2, .int .i64 2] w fun e w' => e = .returned (.tuple #[.agg #[fv 70, fv 71, fv 68, fv 72], .bool true]) ∧ Fr [] w w' := by
  go_enter Tryd.func57, Tryd.ntmps57
  have hn1 := neqF
  have hn2 := neqN
  go_wp2
  go_region
  go_wp2
  exact bodyPost_ret (v := .tuple #[.agg #[fv 70, fv 71, fv 68, fv 72], .bool true]) (by simp [results, Tryd.results57, go_sem]) rfl ⟨rfl, ((((Fr.refl _ _).alloc _).alloc _).alloc _).drew⟩

set_option maxRecDepth 100000 in
set_option maxHeartbeats 400000 in
theorem skill_23 (w : World) :
    Calls Tryd.prog 57 #[kind2, .int .i64 3] w fun e w' => e = .returned (.tuple #[.agg #[.nilFunc, .nilFunc, .nilFunc, .nilFunc], .bool false]) ∧ Fr [] w w' := by
  go_enter Tryd.func57, Tryd.ntmps57
  have hn1 := neqF
  have hn2 := neqN
  go_wp2
  go_region
  go_wp2
  exact bodyPost_ret (v := .tuple #[.agg #[.nilFunc, .nilFunc, .nilFunc, .nilFunc], .bool false]) (by simp [results, Tryd.results57, go_sem]) rfl ⟨rfl, ((((Fr.refl _ _).alloc _).alloc _).alloc _).drew⟩

set_option maxRecDepth 100000 in
set_option maxHeartbeats 400000 in
theorem skill_24 (w : World) :
    Calls Tryd.prog 57 #[kind2, .int .i64 4] w fun e w' => e = .returned (.tuple #[.agg #[.nilFunc, .nilFunc, .nilFunc, .nilFunc], .bool false]) ∧ Fr [] w w' := by
  go_enter Tryd.func57, Tryd.ntmps57
  have hn1 := neqF
  have hn2 := neqN
  go_wp2
  go_region
  go_wp2
  exact bodyPost_ret (v := .tuple #[.agg #[.nilFunc, .nilFunc, .nilFunc, .nilFunc], .bool false]) (by simp [results, Tryd.results57, go_sem]) rfl ⟨rfl, ((((Fr.refl _ _).alloc _).alloc _).alloc _).drew⟩

set_option maxRecDepth 100000 in
set_option maxHeartbeats 400000 in
theorem skill_30 (w : World) :
    Calls Tryd.prog 57 #[kind3, .int .i64 0] w fun e w' => e = .returned (.tuple #[.agg #[fv 77, fv 77, fv 78, fv 79], .bool true]) ∧ Fr [] w w' := by
  go_enter Tryd.func57, Tryd.ntmps57
  have hn1 := neqF
  have hn2 := neqN
  go_wp2
  go_region
  go_wp2
  exact bodyPost_ret (v := .tuple #[.agg #[fv 77, fv 77, fv 78, fv 79], .bool true]) (by simp [results, Tryd.results57, go_sem]) rfl ⟨rfl, ((((Fr.refl _ _).alloc _).alloc _).alloc _).drew⟩

set_option maxRecDepth 100000 in
set_option maxHeartbeats 400000 in
theorem skill_31 (w : World) :
    Calls Tryd.prog 57 #[kind3, .int .i64 1] w fun e w' => e = .returned (.tuple #[.agg #[fv 67, fv 67, fv 68, fv 69], .bool true]) ∧ Fr [] w w' := by
  go_enter Tryd.func57, Tryd.ntmps57
  have hn1 := neqF
  have hn2 := neqN
  go_wp2
  go_region
  go_wp2
  exact bodyPost_ret (v := .tuple #[.agg #[fv 67, fv 67, fv 68, fv 69], .bool true]) (by simp [results, Tryd.results57, go_sem]) rfl ⟨rfl, ((((Fr.refl _ _).alloc _).alloc _).alloc _).drew⟩

set_option maxRecDepth 100000 in
set_option maxHeartbeats 400000 in
theorem skill_32 (w : World) :
    Calls Tryd.prog 57 #[kind3, .int .i64 2] w fun e w' => e = .returned (.tuple #[.agg #[.nilFunc, .nilFunc, .nilFunc, .nilFunc], .bool false]) ∧ Fr [] w w' := by
  go_enter Tryd.func57, Tryd.ntmps57
  have hn1 := neqF
  have hn2 := neqN
  go_wp2
  go_region
  go_wp2
  exact bodyPost_ret (v := .tuple #[.agg #[.nilFunc, .nilFunc, .nilFunc, .nilFunc], .bool false]) (by simp [results, Tryd.results57, go_sem]) rfl ⟨rfl, ((((Fr.refl _ _).alloc _).alloc _).alloc _).drew⟩

set_option maxRecDepth 100000 in
set_option maxHeartbeats 400000 in
theorem skill_33 (w : World) :
    Calls Tryd.prog 57 #[kind3, .int .i64 3] w fun e w' => e = .returned (.tuple #[.agg #[fv 73, fv 74, fv 75, fv 76], .bool true]) ∧ Fr [] w w' := by
  go_enter Tryd.func57, Tryd.ntmps57
  have hn1 := neqF
  have hn2 := neqN
  go_wp2
  go_region
  go_wp2
  exact bodyPost_ret (v := .tuple #[.agg #[fv 73, fv 74, fv 75, fv 76], .bool true]) (by simp [results, Tryd.results57, go_sem]) rfl ⟨rfl, ((((Fr.refl _ _).alloc _).alloc _).alloc _).drew⟩

set_option maxRecDepth 100000 in
set_option maxHeartbeats 400000 in
theorem skill_34 (w : World) :
    Calls Tryd.prog 57 #[kind3, .int .i64 4] w fun e w' => e = .returned (.tuple #[.agg #[.nilFunc, .nilFunc, .nilFunc, .nilFunc], .bool false]) ∧ Fr [] w w' := by
  go_enter Tryd.func57, Tryd.ntmps57
  have hn1 := neqF
  have hn2 := neqN
  go_wp2
  go_region
  go_wp2
  exact bodyPost_ret (v := .tuple #[.agg #[.nilFunc, .nilFunc, .nilFunc, .nilFunc], .bool false]) (by simp [results, Tryd.results57, go_sem]) rfl ⟨rfl, ((((Fr.refl _ _).alloc _).alloc _).alloc _).drew⟩

end Go.Proofs.YtapabahhfanmmaaDoor
