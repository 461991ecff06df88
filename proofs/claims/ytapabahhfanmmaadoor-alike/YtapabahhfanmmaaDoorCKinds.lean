import Derived.Test.YtapabahhfanmmaaDoorCLeaf3
import Derived.Deep.MidRow
import Derived.Laws.CopyRow
import Derived.Laws.EntriesVeiled
namespace Go.Proofs.YtapabahhfanmmaaDoor
open Go.RowKit
theorem infoKind : (Tryd.prog.info? 122).map (·.size) = some 24 := by kernel_rfl
theorem infoSkill : (Tryd.prog.info? 119).map (·.size) = some 4 := by kernel_rfl

theorem setRow_top (w : World) (cs cs' : Array Value) (t : TypeId) (fr : Nat × Nat) : (w.alloc (.cells cs t fr)).setRow w.heap.size cs' = w.alloc (.cells cs' t fr) := by
  unfold World.setRow World.alloc
  congr 1
  apply Array.ext_getElem?
  intro i
  rw [Array.getElem?_modify]
  by_cases h : w.heap.size = i
  · subst h; simp
  · rw [if_neg h, Array.getElem?_push, Array.getElem?_push, if_neg (by omega), if_neg (by omega)]

/-- A store of a whole value into the newest block, at an offset. -/
theorem wpList_store_top {P : Program} {ops : Array Oper} {rest : List Oper} {op : Oper} {a : Act} {w0 : World} {Q : Exit → Act → World → Prop} (hgd : op.guard = none) (ty : TypeId) (x y : Operand) (ho : op.op = .store ty x y)
    (b o : Nat) (vs cs cs' : Array Value) (t : TypeId) (hb : w0.heap.size = b) (hx : a.eval x = .pointer (some ⟨b, o, none⟩)) (hy : a.eval y = .agg vs)
    (hi : (P.info? ty).map (·.size) = some vs.size) (h1 : vs.all (·.oneCell') = true) (hfit : o + vs.size ≤ cs.size)
    (hcs : (cs.toList.take o ++ vs.toList ++ cs.toList.drop (o + vs.size)).toArray = cs')
    (h : wpList P ops Q rest (a.put op.dst undef) (w0.alloc (.cells cs' t))) : wpList P ops Q (op :: rest) a (w0.alloc (.cells cs t)) := by
  subst hb
  refine wpList_plain hgd fun _ hK => ?_
  have hst := run_storeCells_at P w0.heap.size o t vs.toList 0 cs (w0.alloc (.cells cs t)) (hp_new _ _) (by simpa using hfit) (fun v hv => (Array.all_eq_true_iff_forall_mem.1 h1) v (by simpa using hv))
  simp only [Nat.add_zero, Array.length_toList, hcs, setRow_top] at hst
  unfold Oper.wp execOp
  cases hq : P.info? ty with
  | none => simp [hq] at hi
  | some i =>
    have hs : vs.size = i.size := by simp [hq] at hi; omega
    have hsv : (storeVar ty ⟨w0.heap.size, o, none⟩ (.agg vs)).run P (w0.alloc (.cells cs t)) = .ok () (w0.alloc (.cells cs' t)) := by
      simp [storeVar, sizeOf, typeInfo, hq, Value.cells, hs, hst]
    simp only [ho, hx, hy, Instr.storeAt, Instr.sureAddr, Sem.run_bind, Sem.run_pure, Result.andThen_ok, hsv]
    exact hK _ _ h

abbrev kz : Array Value := #[.int .i64 0, .int .i64 0, .int .i64 0, .bool false, .nilFunc, .nilFunc, .nilFunc, .nilFunc, .nilFunc, .nilFunc, .nilFunc, .nilFunc, .nilFunc, .nilFunc, .nilFunc, .nilFunc, .nilFunc, .nilFunc, .nilFunc, .nilFunc, .nilFunc, .nilFunc, .nilFunc, .nilFunc]
set_option maxHeartbeats 400000 in
theorem kindOf_0 (n : Int) (w : World) (h1 : (n == 1) = false) (h2 : (n == 2) = false) (h3 : (n == 3) = false) :
    Calls Tryd.prog 55 #[.int .i64 n] w fun e w' => e = .returned kind0 ∧ Fr [] w w' := by
  go_enter Tryd.func55, Tryd.ntmps55
  iterate 65 (first | go_values | go_skip | go_guarded | go_step | go_upon)
  refine wpList_load_row rfl 122 _ rfl (w.heap.size + 1) rfl 122 kz (0, 0) _ (hp_new2 w _ _) Tryd.underlying122 rfl infoKind ?_
  refine wpList_store_row rfl 122 _ _ rfl w.heap.size kz rfl rfl 122 kz (hp_old2 w _ _) infoKind rfl (by simp [Value.oneCell']) ?_
  go_wp2
  exact bodyPost_ret (v := kind0) (results_cell_row Tryd.results55 _ _ w.heap.size 122 kz (0, 0) _ rfl (setRow_heap _ _ kz kz _ _ (hp_old2 w _ _)) Tryd.underlying122 rfl infoKind) rfl ⟨rfl, (((Fr.refl _ _).alloc _).alloc _).setRow _ _ (Or.inr (Nat.le_refl _))⟩

abbrev kc1 : Array Value := #[.int .i64 40, .int .i64 0, .int .i64 0, .bool false, fv 77, fv 77, fv 78, fv 79, .nilFunc, .nilFunc, .nilFunc, .nilFunc, .nilFunc, .nilFunc, .nilFunc, .nilFunc, .nilFunc, .nilFunc, .nilFunc, .nilFunc, fv 64, fv 64, fv 65, fv 66]
theorem one1 : kc1.all (·.oneCell') = true := by simp [Value.oneCell']
set_option maxRecDepth 100000 in
set_option maxHeartbeats 400000 in
theorem kindOf_1 (w : World) :
    Calls Tryd.prog 55 #[.int .i64 1] w fun e w' => e = .returned kind1 ∧ Fr [] w w' := by
  go_enter Tryd.func55, Tryd.ntmps55
  go_wp2_with (first
    | (refine wpList_load_row rfl 122 _ rfl (w.heap.size + 1) rfl 122 kc1 (0, 0) _ (hp_new2 w _ _) Tryd.underlying122 rfl infoKind ?_)
    | (refine wpList_store_row rfl 122 _ _ rfl w.heap.size kc1 rfl rfl 122 kz (hp_old2 w _ _) infoKind rfl one1 ?_))
  exact bodyPost_ret (v := kind1) (results_cell_row Tryd.results55 _ _ w.heap.size 122 kc1 (0, 0) _ rfl (setRow_heap _ _ kz kc1 _ _ (hp_old2 w _ _)) Tryd.underlying122 rfl infoKind) rfl ⟨rfl, (((Fr.refl _ _).alloc _).alloc _).setRow _ _ (Or.inr (Nat.le_refl _))⟩

abbrev kc2 : Array Value := #[.int .i64 8, .int .i64 5, .int .i64 5, .bool true, fv 77, fv 77, fv 78, fv 79, fv 67, fv 67, fv 68, fv 69, fv 70, fv 71, fv 68, fv 72, .nilFunc, .nilFunc, .nilFunc, .nilFunc, .nilFunc, .nilFunc, .nilFunc, .nilFunc]
theorem one2 : kc2.all (·.oneCell') = true := by simp [Value.oneCell']
set_option maxRecDepth 100000 in
set_option maxHeartbeats 400000 in
theorem kindOf_2 (w : World) :
    Calls Tryd.prog 55 #[.int .i64 2] w fun e w' => e = .returned kind2 ∧ Fr [] w w' := by
  go_enter Tryd.func55, Tryd.ntmps55
  go_wp2_with (first
    | (refine wpList_load_row rfl 122 _ rfl (w.heap.size + 1) rfl 122 kc2 (0, 0) _ (hp_new2 w _ _) Tryd.underlying122 rfl infoKind ?_)
    | (refine wpList_store_row rfl 122 _ _ rfl w.heap.size kc2 rfl rfl 122 kz (hp_old2 w _ _) infoKind rfl one2 ?_))
  exact bodyPost_ret (v := kind2) (results_cell_row Tryd.results55 _ _ w.heap.size 122 kc2 (0, 0) _ rfl (setRow_heap _ _ kz kc2 _ _ (hp_old2 w _ _)) Tryd.underlying122 rfl infoKind) rfl ⟨rfl, (((Fr.refl _ _).alloc _).alloc _).setRow _ _ (Or.inr (Nat.le_refl _))⟩

abbrev kc3 : Array Value := #[.int .i64 12, .int .i64 8, .int .i64 0, .bool true, fv 77, fv 77, fv 78, fv 79, fv 67, fv 67, fv 68, fv 69, .nilFunc, .nilFunc, .nilFunc, .nilFunc, fv 73, fv 74, fv 75, fv 76, .nilFunc, .nilFunc, .nilFunc, .nilFunc]
theorem one3 : kc3.all (·.oneCell') = true := by simp [Value.oneCell']
set_option maxRecDepth 100000 in
set_option maxHeartbeats 400000 in
theorem kindOf_3 (w : World) :
    Calls Tryd.prog 55 #[.int .i64 3] w fun e w' => e = .returned kind3 ∧ Fr [] w w' := by
  go_enter Tryd.func55, Tryd.ntmps55
  go_wp2_with (first
    | (refine wpList_load_row rfl 122 _ rfl (w.heap.size + 1) rfl 122 kc3 (0, 0) _ (hp_new2 w _ _) Tryd.underlying122 rfl infoKind ?_)
    | (refine wpList_store_row rfl 122 _ _ rfl w.heap.size kc3 rfl rfl 122 kz (hp_old2 w _ _) infoKind rfl one3 ?_))
  exact bodyPost_ret (v := kind3) (results_cell_row Tryd.results55 _ _ w.heap.size 122 kc3 (0, 0) _ rfl (setRow_heap _ _ kz kc3 _ _ (hp_old2 w _ _)) Tryd.underlying122 rfl infoKind) rfl ⟨rfl, (((Fr.refl _ _).alloc _).alloc _).setRow _ _ (Or.inr (Nat.le_refl _))⟩

end Go.Proofs.YtapabahhfanmmaaDoor
