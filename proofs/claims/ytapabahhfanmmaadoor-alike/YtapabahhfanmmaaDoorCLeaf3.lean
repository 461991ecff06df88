import Derived.Test.YtapabahhfanmmaaDoorCLeaf2
/- Kinds of people, signs of a map. -/
namespace Go.Proofs.YtapabahhfanmmaaDoor
open Go.RowKit

set_option maxHeartbeats 400000 in
theorem idle_any (u : U) (w : World) :
    Calls Tryd.prog 84 #[u.val] w fun e w' => e = .returned u.idle.val ∧ Fr [] w w' := by
  go_enter Tryd.func84, Tryd.ntmps84
  go_wp2_with (go_at_call 58; refine (ordered_any u (Cm.mk 0 0 0 0 0) _).mono ?_; rintro e w1 ⟨rfl, hf⟩; obtain ⟨hc, hz⟩ := hf.cells0)
  refine bodyPost_ret (v := u.idle.val) (by simp [results, Tryd.results84, go_sem, hc]) rfl ⟨rfl, ?_⟩
  repeat (refine Fr.setCell ?_ _ _ (Or.inr (by simp)))
  exact (((Fr.refl _ _).alloc _).alloc _).then0 hf

set_option maxHeartbeats 400000 in
theorem findOne_any (u : U) (id : Int) (w : World) :
    Calls Tryd.prog 60 #[u.val, .int .i64 id] w fun e w' => e = .returned (.int .i64 (cmpI u.id id)) ∧ Fr [] w w' := by
  go_enter Tryd.func60, Tryd.ntmps60
  go_wp2_with (go_at_call 61; refine (compare_any _ _ _).mono ?_; rintro e w1 ⟨rfl, rfl⟩)
  go_ret
  exact ⟨rfl, (Fr.refl _ _).alloc _⟩

abbrev fv (n : Nat) : Value := .func (.func n) #[] #[]
abbrev kind1 : Value := .agg #[.int .i64 40, .int .i64 0, .int .i64 0, .bool false, fv 77, fv 77, fv 78, fv 79, .nilFunc, .nilFunc, .nilFunc, .nilFunc, .nilFunc, .nilFunc, .nilFunc, .nilFunc, .nilFunc, .nilFunc, .nilFunc, .nilFunc, fv 64, fv 64, fv 65, fv 66]
abbrev kind2 : Value := .agg #[.int .i64 8, .int .i64 5, .int .i64 5, .bool true, fv 77, fv 77, fv 78, fv 79, fv 67, fv 67, fv 68, fv 69, fv 70, fv 71, fv 68, fv 72, .nilFunc, .nilFunc, .nilFunc, .nilFunc, .nilFunc, .nilFunc, .nilFunc, .nilFunc]
abbrev kind3 : Value := .agg #[.int .i64 12, .int .i64 8, .int .i64 0, .bool true, fv 77, fv 77, fv 78, fv 79, fv 67, fv 67, fv 68, fv 69, .nilFunc, .nilFunc, .nilFunc, .nilFunc, fv 73, fv 74, fv 75, fv 76, .nilFunc, .nilFunc, .nilFunc, .nilFunc]
abbrev kind0 : Value := .agg #[.int .i64 0, .int .i64 0, .int .i64 0, .bool false, .nilFunc, .nilFunc, .nilFunc, .nilFunc, .nilFunc, .nilFunc, .nilFunc, .nilFunc, .nilFunc, .nilFunc, .nilFunc, .nilFunc, .nilFunc, .nilFunc, .nilFunc, .nilFunc, .nilFunc, .nilFunc, .nilFunc, .nilFunc]

end Go.Proofs.YtapabahhfanmmaaDoor
