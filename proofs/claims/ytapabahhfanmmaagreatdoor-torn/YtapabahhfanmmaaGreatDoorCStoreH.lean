import Derived.Test.YtapabahhfanmmaaGreatDoorCFrame
import Derived.Test.YtapabahhfanmmaaGreatDoorCSign
import Derived.Lib.BufferWrite
import Derived.Lib.UnsafeStr
import Derived.Laws.MakeOwn
import Derived.Test.YtapabahhfanmmaaGreatDoorCBfs
import Derived.Carry
import Derived.Deep.RegionHeld
import Derived.Maps.AppendAt
import Derived.Deep.DeepCutAuto
/- A copy of a text; a small number as a text. -/
namespace Go.Proofs.YtapabahhfanmmaaGreatDoor
open Go.RowKit

theorem ptr8 : Tryz.prog.underlying 255 = some (.pointer 5) := by kernel_rfl
theorem inf8 : (Tryz.prog.info? 5).map (fun i => (i.zero, i.size, i.bytes)) = some (some (.int .u8 0), 1, 1) := by kernel_rfl

set_option maxRecDepth 100000 in
set_option maxHeartbeats 4000000 in
theorem liteClone_any (l : List UInt8) (w : World) (hl : l.length ≤ 1000000000) :
    Calls Tryz.prog 128 #[.string ⟨l.toArray⟩] w fun e w' => e = .returned (.string ⟨l.toArray⟩) ∧ Fr [] w w' := by
  obtain ⟨s, hs⟩ : ∃ s : ByteArray, s = ⟨l.toArray⟩ := ⟨_, rfl⟩
  have hsz : s.size = l.length := by rw [hs]; rfl
  have hsl : s.data.toList = l := by rw [hs]
  rw [← hs]
  clear hs
  by_cases h0 : s.size = 0
  · have hs : s = ⟨#[]⟩ := by
      apply ByteArray.ext
      exact Array.eq_empty_of_size_eq_zero h0
    subst hs
    clear hsz hsl
    go_enter Tryz.func128, Tryz.ntmps128
    go_wp2_with fail
    go_ret
    exact ⟨rfl, Fr.refl _ _⟩
  · obtain ⟨i0, hi, hz0, hz1, hz2⟩ := info_parts inf8
    have hinfo : (Tryz.prog.info? 5).map (·.size) = some 1 := by rw [hi]; simp [hz1]
    have hco : Tryz.prog.cellsOf 5 = 1 := by simp [Program.cellsOf, hi, hz1]
    obtain ⟨M, hM⟩ : ∃ M, M = madeCells (Value.int .u8 0).cells (((s.size : Nat) : Int).toNat * i0.size) := ⟨_, rfl⟩
    have hMs : M.size = s.size := by rw [hM, size_madeCells, hz1]; simp
    have hmk : ∀ W : World, (Instr.makeSlice 168 (.int .i64 (s.size : Int)) (.int .i64 (s.size : Int))).run Tryz.prog W = .ok (.slice (some ⟨W.heap.size, 0, none⟩) s.size s.size) (W.alloc (.cells M 5)) := fun W => by
      have h := run_make (P := Tryz.prog) W 168 5 i0 (.int .u8 0) Tryz.underlying168 hi hz0 .i64 .i64 (s.size : Int) (s.size : Int) (by omega) (by omega) (by rw [hz2]; omega) (by omega)
      rw [← hM] at h
      simpa using h
    clear hM
    have hcp := Lib.run_copy_row_string (P := Tryz.prog) (w.alloc (.cells M 5)) 168 9 3 5 w.heap.size 0 s.size s.size s M 5 Tryz.underlying168 hinfo (hp_new w _) (Nat.le_refl _) (by omega)
    obtain ⟨Y, hY⟩ : ∃ Y, Y = (M.toList.take 0 ++ Lib.byteCells s.data.toList ++ M.toList.drop (0 + s.size)).toArray := ⟨_, rfl⟩
    rw [← hY] at hcp
    have hYl : Y.toList = Lib.byteCells s.data.toList := by
      rw [hY, List.toList_toArray, List.take_zero, List.nil_append, List.drop_of_length_le (by rw [Array.length_toList]; omega), List.append_nil]
    have hYs : Y.size = s.size := by rw [← Array.length_toList, hYl, Lib.byteCells_length, ← Lib.size_eq]
    have hgY : ((w.alloc (.cells M 5)).setRow w.heap.size Y).heap[w.heap.size]? = some (.cells Y 5 (0, 0)) := setRow_heap _ _ M _ 5 (0, 0) (hp_new w _)
    have hne : s.data.toList ≠ [] := fun e => h0 (by rw [Lib.size_eq, e]; rfl)
    have hUS := Lib.run_unsafeString_row (P := Tryz.prog) ((w.alloc (.cells M 5)).setRow w.heap.size Y) 255 3 9 5 ptr8 hco w.heap.size Y.size (by unfold World.shape?; rw [hgY]) s.data.toList hne (by rw [← Lib.size_eq]; omega) (by rw [← Lib.size_eq]; omega)
      (fun j x hx => Lib.cells_of_row hgY Y.size j _ (by rw [List.take_of_length_le (by rw [Array.length_toList]; exact Nat.le_refl _), hYl]; simp [Lib.byteCells, hx]))
    rw [← Lib.size_eq] at hUS
    clear hY hsz hsl
    go_enter Tryz.func128, Tryz.ntmps128
    go_wp2_with fail
    go_ret
    have hb1 : Below w.heap.size w (w.alloc (.cells M 5)) := (Below.refl _ w).alloc (Nat.le_refl _) _
    have hb2 : Below w.heap.size (w.alloc (.cells M 5)) ((w.alloc (.cells M 5)).setRow w.heap.size Y) := ⟨rfl, rfl, rfl, by simp, fun k hk => setRow_other _ _ _ _ (by omega)⟩
    exact ⟨rfl, Fr.of_below (Lib.below_freeze (hb1.trans hb2) (p := ⟨w.heap.size, 0, none⟩) (Nat.le_refl _) _)⟩

set_option maxRecDepth 100000 in
set_option maxHeartbeats 4000000 in
theorem strClone_any (l : List UInt8) (w : World) (hl : l.length ≤ 1000000000) :
    Calls Tryz.prog 88 #[.string ⟨l.toArray⟩] w fun e w' => e = .returned (.string ⟨l.toArray⟩) ∧ Fr [] w w' := by
  have h := liteClone_any l w hl
  obtain ⟨s, hs⟩ : ∃ s : ByteArray, s = ⟨l.toArray⟩ := ⟨_, rfl⟩
  rw [← hs] at h ⊢
  clear hs
  go_enter Tryz.func88, Tryz.ntmps88
  go_wp2_with fail
  refine Calls.mono h ?_
  rintro e w1 ⟨rfl, hf⟩
  dsimp only
  go_wp2_with fail
  go_ret
  exact ⟨rfl, hf⟩

set_option maxRecDepth 100000 in
set_option maxHeartbeats 4000000 in
theorem itoa_one (w : World) : Calls Tryz.prog 127 #[.int .i64 1] w fun e w' => e = .returned (.string ⟨[49].toArray⟩) ∧ w = w' := by
  go_enter Tryz.func127, Tryz.ntmps127
  go_wp2
  go_ret
  exact ⟨rfl, rfl⟩

set_option maxRecDepth 100000 in
set_option maxHeartbeats 4000000 in
theorem itoa_two (w : World) : Calls Tryz.prog 127 #[.int .i64 2] w fun e w' => e = .returned (.string ⟨[50].toArray⟩) ∧ w = w' := by
  go_enter Tryz.func127, Tryz.ntmps127
  go_wp2
  go_ret
  exact ⟨rfl, rfl⟩
end Go.Proofs.YtapabahhfanmmaaGreatDoor
/- Files in memory. -/
namespace Go.Proofs.YtapabahhfanmmaaGreatDoor
open Go.RowKit

theorem rows_fr {S : List Nat} {w w' : World} {base n : Nat} {e : TypeId} {size : Nat} {v : Value} {xs : List Value} (h : w.ownsRow base e size v n xs) (hf : Fr S w w') (hn : ∀ b, v.ownBlock = some b → b ∉ S) : w'.ownsRow base e size v n xs := by
  refine ⟨h.1, ?_⟩
  rcases h.2 with h2 | ⟨g, cap, cur, rfl, hb, hg, r⟩
  · exact Or.inl h2
  · exact Or.inr ⟨g, cap, cur, rfl, hb, hf.heap hg (hn g rfl), r⟩
theorem rows_lt {w : World} {base n : Nat} {e : TypeId} {size : Nat} {v : Value} {xs : List Value} (h : w.ownsRow base e size v n xs) {b : Nat} (hb : v.ownBlock = some b) : base ≤ b ∧ b < w.heap.size := by
  rcases h.2 with ⟨h1, _⟩ | ⟨g, cap, cur, rfl, h1, hg, _⟩
  · rw [h1] at hb; simp [Value.ownBlock] at hb
  · simp [Value.ownBlock] at hb
    subst hb
    exact ⟨h1, lt_of_heap hg⟩
theorem rows_slice {w : World} {base n : Nat} {e : TypeId} {size : Nat} {v : Value} {xs : List Value} (h : w.ownsRow base e size v n xs) : ∃ ao lc, v = .slice ao n lc := by
  rcases h.2 with ⟨rfl, rfl⟩ | ⟨g, cap, cur, rfl, _⟩
  · exact ⟨_, _, rfl⟩
  · exact ⟨_, _, rfl⟩
abbrev Nm := List UInt8
abbrev Stp.cells (s : Stp) : List Value := [ii s.what, sv s.name, sv s.to, sv s.data]
def MapO (w : World) (mv : Value) (f : Nm → Option Value) : Prop := (mv = .map none ∧ ∀ k, f k = none) ∨ ∃ r, mv = .map (some r) ∧ MapS w r f
def mapBlock (v : Value) : Option Nat := match v with | .map r => r | _ => none
abbrev fileV (p : Value × List UInt8) : Value := .agg #[p.1]
/-- Files (all but those of some names) and steps, in blocks of S. -/
structure SVE (E : Nm → Prop) (w : World) (mv stv : Value) (S : List Nat) (g : Nm → Option (Value × List UInt8)) (steps : List Stp) : Prop where
  map : MapO w mv (fun k => (g k).map fileV)
  own : ∀ k p, ¬ E k → g k = some p → ownM w 0 p.1 p.2
  blk : ∀ k p b, ¬ E k → g k = some p → p.1.ownBlock = some b → b ∈ S ∧ mapBlock mv ≠ some b ∧ stv.ownBlock ≠ some b ∧ ∀ k' p', ¬ E k' → g k' = some p' → p'.1.ownBlock = some b → k' = k
  mb : ∀ b, mapBlock mv = some b → b ∈ S ∧ stv.ownBlock ≠ some b
  st : w.ownsRow 0 113 4 stv steps.length (steps.flatMap Stp.cells)
  sb : ∀ b, stv.ownBlock = some b → b ∈ S
  lt : ∀ b ∈ S, b < w.heap.size
theorem MapO.fr {S : List Nat} {w w' : World} {mv : Value} {f : Nm → Option Value} (h : MapO w mv f) (hf : Fr S w w') (hn : ∀ b, mapBlock mv = some b → b ∉ S) : MapO w' mv f := by
  rcases h with h | ⟨r, rfl, h⟩
  · exact Or.inl h
  · exact Or.inr ⟨r, rfl, h.fr hf (hn r rfl)⟩
theorem SVE.fr {E : Nm → Prop} {S' : List Nat} {w w' : World} {mv stv : Value} {S : List Nat} {g : Nm → Option (Value × List UInt8)} {steps : List Stp} (h : SVE E w mv stv S g steps) (hf : Fr S' w w') (hd : ∀ b ∈ S, b ∉ S') : SVE E w' mv stv S g steps :=
  ⟨h.map.fr hf (fun b hb => hd b (h.mb b hb).1), fun k p he hk => (h.own k p he hk).fr hf (fun b hb => hd b (h.blk k p b he hk hb).1), h.blk, h.mb, rows_fr h.st hf (fun b hb => hd b (h.sb b hb)), h.sb, fun b hb => Nat.lt_of_lt_of_le (h.lt b hb) hf.size⟩
theorem SVE.fr0 {E : Nm → Prop} {w w' : World} {mv stv : Value} {S : List Nat} {g : Nm → Option (Value × List UInt8)} {steps : List Stp} (h : SVE E w mv stv S g steps) (hf : Fr [] w w') : SVE E w' mv stv S g steps := h.fr hf (by simp)
theorem SVE.weak {E E' : Nm → Prop} {w : World} {mv stv : Value} {S : List Nat} {g : Nm → Option (Value × List UInt8)} {steps : List Stp} (h : SVE E w mv stv S g steps) (he : ∀ k, E k → E' k) : SVE E' w mv stv S g steps :=
  ⟨h.map, fun k p hn hk => h.own k p (fun e => hn (he k e)) hk, fun k p b hn hk hb => by
    obtain ⟨h1, h2, h3, h4⟩ := h.blk k p b (fun e => hn (he k e)) hk hb
    exact ⟨h1, h2, h3, fun k' p' hn' => h4 k' p' (fun e => hn' (he k' e))⟩, h.mb, h.st, h.sb, h.lt⟩
theorem SVE.mono {E : Nm → Prop} {w : World} {mv stv : Value} {S S' : List Nat} {g : Nm → Option (Value × List UInt8)} {steps : List Stp} (h : SVE E w mv stv S g steps) (hs : ∀ b ∈ S, b ∈ S') (hl : ∀ b ∈ S', b < w.heap.size) : SVE E w mv stv S' g steps :=
  ⟨h.map, h.own, fun k p b he hk hb => by
    obtain ⟨h1, h2⟩ := h.blk k p b he hk hb
    exact ⟨hs b h1, h2⟩, fun b hb => ⟨hs b (h.mb b hb).1, (h.mb b hb).2⟩, h.st, fun b hb => hs b (h.sb b hb), hl⟩
/-- A store lies behind some cells of a block. -/
def SB (w : World) (sb : Nat) (pre : List Value) (ty : TypeId) (mv stv : Value) : Prop := w.heap[sb]? = some (.cells (pre ++ [mv, stv]).toArray ty)
theorem SB.c0 {w : World} {sb : Nat} {pre : List Value} {ty : TypeId} {mv stv : Value} (h : SB w sb pre ty mv stv) : w.cell? ⟨sb, pre.length, none⟩ = some mv := by
  rw [cell_of_heap h]
  simp
theorem SB.c1 {w : World} {sb : Nat} {pre : List Value} {ty : TypeId} {mv stv : Value} (h : SB w sb pre ty mv stv) : w.cell? ⟨sb, pre.length + 1, none⟩ = some stv := by
  rw [cell_of_heap h]
  simp
theorem SB.fz {w : World} {sb : Nat} {pre : List Value} {ty : TypeId} {mv stv : Value} (h : SB w sb pre ty mv stv) (o : Nat) : w.frozen? ⟨sb, o, none⟩ = false := frozen_of_heap h
theorem SB.lt {w : World} {sb : Nat} {pre : List Value} {ty : TypeId} {mv stv : Value} (h : SB w sb pre ty mv stv) : sb < w.heap.size := lt_of_heap h
theorem SB.fr {S : List Nat} {w w' : World} {sb : Nat} {pre : List Value} {ty : TypeId} {mv stv : Value} (h : SB w sb pre ty mv stv) (hf : Fr S w w') (hn : sb ∉ S) : SB w' sb pre ty mv stv := hf.heap h hn
theorem setCell_heap {w : World} {b o : Nat} {cs : Array Value} {ty : TypeId} {fz : Nat × Nat} (h : w.heap[b]? = some (.cells cs ty fz)) (v : Value) : (w.setCell ⟨b, o, none⟩ v).heap[b]? = some (.cells (cs.setIfInBounds o v) ty fz) := by
  rw [setCell_eq_setRow w b o cs ty fz v h]
  exact setRow_heap w b cs _ ty fz h
theorem SB.set0 {w : World} {sb : Nat} {pre : List Value} {ty : TypeId} {mv stv : Value} (h : SB w sb pre ty mv stv) (v : Value) : SB (w.setCell ⟨sb, pre.length, none⟩ v) sb pre ty v stv := by
  unfold SB
  rw [setCell_heap h]
  congr 2
  apply Array.ext_getElem?
  intro i
  rw [Array.getElem?_setIfInBounds]
  by_cases e : pre.length = i
  · subst e
    simp
  · rw [if_neg e]
    rcases Nat.lt_or_ge i pre.length with hi | hi
    · simp [List.getElem?_append_left hi]
    · obtain ⟨j, rfl⟩ : ∃ j, i = pre.length + (j + 1) := ⟨i - pre.length - 1, by omega⟩
      simp only [List.getElem?_toArray]
      rw [List.getElem?_append_right (by omega), List.getElem?_append_right (by omega), Nat.add_sub_cancel_left]
      rfl
theorem SB.set1 {w : World} {sb : Nat} {pre : List Value} {ty : TypeId} {mv stv : Value} (h : SB w sb pre ty mv stv) (v : Value) : SB (w.setCell ⟨sb, pre.length + 1, none⟩ v) sb pre ty mv v := by
  unfold SB
  rw [setCell_heap h]
  congr 2
  apply Array.ext_getElem?
  intro i
  rw [Array.getElem?_setIfInBounds]
  by_cases e : pre.length + 1 = i
  · subst e
    simp
  · rw [if_neg e]
    rcases Nat.lt_or_ge i pre.length with hi | hi
    · simp [List.getElem?_append_left hi]
    · obtain ⟨j, rfl⟩ : ∃ j, i = pre.length + j := ⟨i - pre.length, by omega⟩
      cases j with
      | zero => simp
      | succ j =>
        cases j with
        | zero => omega
        | succ j =>
          simp only [List.getElem?_toArray]
          rw [List.getElem?_append_right (by omega), List.getElem?_append_right (by omega), Nat.add_sub_cancel_left]
          rfl
end Go.Proofs.YtapabahhfanmmaaGreatDoor
/- Files: asked and put. -/
namespace Go.Proofs.YtapabahhfanmmaaGreatDoor
open Go.RowKit

abbrev zeroFile : Value := .agg #[.slice none 0 0]
theorem zvFile (w : World) : (zeroValue 174).run Tryz.prog w = .ok zeroFile w := by kernel_rfl
theorem MapO.look {w : World} {mv : Value} {f : Nm → Option Value} (h : MapO w mv f) (x : Nm) : (Instr.lookup 93 mv (sv x) true).run Tryz.prog w = .ok (.tuple #[(f x).getD zeroFile, .bool (f x).isSome]) w := by
  rcases h with ⟨rfl, h⟩ | ⟨r, rfl, h⟩
  · rw [h x]
    simp [Instr.lookup, run_underlying Tryz.underlying93, ckKeyS, Instr.findKey, run_underlying Tryz.underlying9, Instr.findNow]
  · exact h.look _ 174 Tryz.underlying93 zeroFile (zvFile w) x
theorem MapO.look1 {w : World} {mv : Value} {f : Nm → Option Value} (h : MapO w mv f) (x : Nm) : (Instr.lookup 93 mv (sv x) false).run Tryz.prog w = .ok ((f x).getD zeroFile) w := by
  rcases h with ⟨rfl, h⟩ | ⟨r, rfl, h⟩
  · rw [h x]
    simp [Instr.lookup, run_underlying Tryz.underlying93, ckKeyS, Instr.findKey, run_underlying Tryz.underlying9, Instr.findNow]
  · exact h.look1 _ 174 Tryz.underlying93 zeroFile (zvFile w) x

theorem ownM.slice {w : World} {base : Nat} {v : Value} {l : List UInt8} (h : ownM w base v l) : ∃ ao lc, v = .slice ao l.length lc := by
  rcases h with ⟨rfl, rfl⟩ | ⟨g, cap, rfl, _⟩
  · exact ⟨_, _, rfl⟩
  · exact ⟨_, _, rfl⟩
theorem fieldFile (v : Value) (w : World) : (Instr.field 174 (.agg #[v]) 0).run Tryz.prog w = .ok v w := by kernel_rfl
abbrev Gf := Nm → Option (Value × List UInt8)
/-- The bytes' slice of a file; none, if it is not there. -/
def fiv (g : Gf) (n : Nm) : Value := match g n with | some p => p.1 | none => .slice none 0 0
def fid (g : Gf) (n : Nm) : List UInt8 := match g n with | some p => p.2 | none => []
theorem fiv_is (g : Gf) (n : Nm) : ((g n).map fileV).getD zeroFile = .agg #[fiv g n] := by
  unfold fiv
  cases g n <;> rfl
theorem MapO.lookG {w : World} {mv : Value} {g : Gf} (h : MapO w mv (fun k => (g k).map fileV)) (x : Nm) : (Instr.lookup 93 mv (sv x) true).run Tryz.prog w = .ok (.tuple #[.agg #[fiv g x], .bool (g x).isSome]) w := by
  rw [h.look x, fiv_is]
  simp
theorem MapO.lookG1 {w : World} {mv : Value} {g : Gf} (h : MapO w mv (fun k => (g k).map fileV)) (x : Nm) : (Instr.lookup 93 mv (sv x) false).run Tryz.prog w = .ok (.agg #[fiv g x]) w := by
  rw [h.look1 x, fiv_is]

set_option maxRecDepth 100000 in
set_option maxHeartbeats 1000000 in
theorem has_any (sb o : Nat) (mv : Value) (g : Gf) (n : Nm) (w : World) (hc : w.cell? ⟨sb, o, none⟩ = some mv) (hm : MapO w mv (fun k => (g k).map fileV)) (hone : ∃ ao ln lc, fiv g n = .slice ao ln lc) :
    Calls Tryz.prog 87 #[.pointer (some ⟨sb, o, none⟩), sv n] w fun e w' => e = .returned (.bool (g n).isSome) ∧ Fr [] w w' := by
  have hl := hm.lookG n
  obtain ⟨tx, htx⟩ : ∃ x : ByteArray, x = ⟨n.toArray⟩ := ⟨_, rfl⟩
  rw [sv, ← htx] at hl ⊢
  obtain ⟨z, hz⟩ : ∃ z, z = fiv g n := ⟨_, rfl⟩
  obtain ⟨B, hB⟩ : ∃ z, z = (g n).isSome := ⟨_, rfl⟩
  rw [← hz, ← hB] at hl
  obtain ⟨ao, ln, lc, hsl⟩ := hone
  rw [← hz] at hsl
  subst hsl
  rw [← hB]
  clear hz hB htx hm
  go_enter Tryz.func87, Tryz.ntmps87
  go_wp2_with fail
  go_ret
  exact ⟨rfl, (Fr.refl _ _).alloc _⟩

set_option maxRecDepth 100000 in
set_option maxHeartbeats 1000000 in
theorem data_any (sb o : Nat) (mv : Value) (g : Gf) (n : Nm) (w : World) (hc : w.cell? ⟨sb, o, none⟩ = some mv) (hm : MapO w mv (fun k => (g k).map fileV)) (ho : ownM w 0 (fiv g n) (fid g n)) :
    Calls Tryz.prog 49 #[.pointer (some ⟨sb, o, none⟩), sv n] w fun e w' => e = .returned (sv (fid g n)) ∧ w = w' := by
  have hl := hm.lookG1 n
  have hs := ho.string
  obtain ⟨tx, htx⟩ : ∃ x : ByteArray, x = ⟨n.toArray⟩ := ⟨_, rfl⟩
  rw [sv, ← htx] at hl ⊢
  obtain ⟨dx, hdx⟩ : ∃ x : ByteArray, x = ⟨(fid g n).toArray⟩ := ⟨_, rfl⟩
  rw [← hdx] at hs
  rw [sv, ← hdx]
  obtain ⟨z, hz⟩ : ∃ z, z = fiv g n := ⟨_, rfl⟩
  obtain ⟨ao, lc, hsl⟩ := ho.slice
  rw [← hz] at hl hs hsl
  subst hsl
  clear htx hm hdx ho hz
  have hff := fieldFile (.slice ao (fid g n).length lc) w
  go_enter Tryz.func49, Tryz.ntmps49
  go_wp2_with fail
  go_ret
  exact ⟨rfl, rfl⟩
end Go.Proofs.YtapabahhfanmmaaGreatDoor
/- Files: one is put. -/
namespace Go.Proofs.YtapabahhfanmmaaGreatDoor
open Go.RowKit

theorem supd_ex {w : World} {r : Nat} {f : Nm → Option Value} (h : MapS w r f) (x : Nm) (v : Value) :
    ∃ w', (Instr.mapUpdate 93 (.map (some r)) (sv x) v).run Tryz.prog w = .ok () w' ∧ MapS w' r (fun k => if k = x then some v else f k) ∧ Fr [r] w w' := by
  obtain ⟨o, h1, h2⟩ := h.update 93 174 Tryz.underlying93 x v
  exact ⟨_, h1, h2, (Fr.refl [r] w).setObj r o (Or.inl (by simp))⟩
theorem SVE.put {E : Nm → Prop} {w w' : World} {r : Nat} {stv : Value} {S : List Nat} {g : Gf} {steps : List Stp} (h : SVE E w (.map (some r)) stv S g steps) (n : Nm) (v : Value) (d : List UInt8) (hv : ownM w 0 v d)
    (hvb : ∀ b, v.ownBlock = some b → b ∈ S ∧ r ≠ b ∧ stv.ownBlock ≠ some b ∧ ∀ k p, ¬ E k → g k = some p → p.1.ownBlock = some b → k = n)
    (hm : MapS w' r (fun k => if k = n then some (.agg #[v]) else (g k).map fileV)) (hf : Fr [r] w w') :
    SVE (fun k => E k ∧ k ≠ n) w' (.map (some r)) stv S (fun k => if k = n then some (v, d) else g k) steps := by
  have hrs : ∀ b, stv.ownBlock = some b → b ∉ [r] := fun b hb hm => by
    have : b = r := by simpa using hm
    subst this
    exact (h.mb b rfl).2 hb
  refine ⟨Or.inr ⟨r, rfl, hm.congr (fun k => ?_)⟩, ?_, ?_, h.mb, rows_fr h.st hf hrs, h.sb, fun b hb => Nat.lt_of_lt_of_le (h.lt b hb) hf.size⟩
  · by_cases e : k = n <;> simp [e]
  · intro k p hE hk
    by_cases e : k = n
    · rw [if_pos e] at hk
      cases hk
      exact hv.fr hf (fun b hb hm => (hvb b hb).2.1 (by simpa using hm : b = r).symm)
    · rw [if_neg e] at hk
      exact (h.own k p (fun hh => hE ⟨hh, e⟩) hk).fr hf (fun b hb hm => (h.blk k p b (fun hh => hE ⟨hh, e⟩) hk hb).2.1 (by simp [mapBlock]; exact (by simpa using hm : b = r).symm))
  · intro k p b hE hk hb
    by_cases e : k = n
    · rw [if_pos e] at hk
      cases hk
      obtain ⟨h1, h2, h3, h4⟩ := hvb b hb
      refine ⟨h1, by simp [mapBlock]; exact h2, h3, fun k' p' hE' hk' hb' => ?_⟩
      by_cases e' : k' = n
      · rw [e', e]
      · rw [if_neg e'] at hk'
        rw [h4 k' p' (fun hh => hE' ⟨hh, e'⟩) hk' hb', e]
    · rw [if_neg e] at hk
      have hEk : ¬ E k := fun hh => hE ⟨hh, e⟩
      obtain ⟨h1, h2, h3, h4⟩ := h.blk k p b hEk hk hb
      refine ⟨h1, h2, h3, fun k' p' hE' hk' hb' => ?_⟩
      by_cases e' : k' = n
      · rw [if_pos e'] at hk'
        cases hk'
        exact absurd ((hvb b hb').2.2.2 k p hEk hk hb) e
      · rw [if_neg e'] at hk'
        exact h4 k' p' (fun hh => hE' ⟨hh, e'⟩) hk' hb'
/-- What a call makes of a store. -/
structure SPost (w : World) (sb : Nat) (pre : List Value) (ty : TypeId) (S : List Nat) (E : Nm → Prop) (g : Gf) (steps : List Stp) (w' : World) (mv' stv' : Value) (S' : List Nat) : Prop where
  bl : SB w' sb pre ty mv' stv'
  sve : SVE E w' mv' stv' S' g steps
  fr : Fr (sb :: S) w w'
  old : ∀ b ∈ S', b ∈ S ∨ w.heap.size ≤ b
  nsb : sb ∉ S'

set_option maxRecDepth 100000 in
set_option maxHeartbeats 2000000 in
theorem put_any (sb : Nat) (pre : List Value) (ty : TypeId) (E : Nm → Prop) (mv stv : Value) (S : List Nat) (g : Gf) (steps : List Stp) (n : Nm) (v : Value) (d : List UInt8) (w : World)
    (hb : SB w sb pre ty mv stv) (hs : SVE E w mv stv S g steps) (hsb : sb ∉ S) (hv : ownM w 0 v d)
    (hvb : ∀ b, v.ownBlock = some b → b ∈ S ∧ mapBlock mv ≠ some b ∧ stv.ownBlock ≠ some b ∧ ∀ k p, ¬ E k → g k = some p → p.1.ownBlock = some b → k = n) :
    Calls Tryz.prog 82 #[.pointer (some ⟨sb, pre.length, none⟩), sv n, .agg #[v]] w fun e w' => e = .returned (.tuple #[]) ∧ ∃ mv' S', SPost w sb pre ty S (fun k => E k ∧ k ≠ n) (fun k => if k = n then some (v, d) else g k) steps w' mv' stv S' := by
  have hmm := @run_makeMap Tryz.prog
  have hc0 := hb.c0
  have hfz := hb.fz pre.length
  have hlt := hb.lt
  obtain ⟨o, ho⟩ : ∃ o, o = pre.length := ⟨_, rfl⟩
  rw [← ho] at hc0 hfz ⊢
  have HO := (show Hid _ from ho)
  clear ho
  obtain ⟨tx, htx⟩ : ∃ x : ByteArray, x = ⟨n.toArray⟩ := ⟨_, rfl⟩
  have HTX := (show Hid _ from htx)
  rw [sv, ← htx]
  clear htx
  obtain ⟨ao, lc, rfl⟩ := hv.slice
  obtain ⟨W0, hW0⟩ : ∃ W, W = w.alloc (.cells #[.slice ao d.length lc] 174) := ⟨_, rfl⟩
  have hw0 : Fr [] w W0 := by rw [hW0]; exact (Fr.refl _ _).alloc _
  have hsz0 : W0.heap.size = w.heap.size + 1 := by rw [hW0]; simp
  have hA0 : W0.heap[w.heap.size]? = some (.cells #[.slice ao d.length lc] 174) := by rw [hW0]; exact hp_new _ _
  have hs0 := hs.fr0 hw0
  have hb0 := hb.fr hw0 (by simp)
  have hv0 := hv.fr hw0 (by simp)
  rcases hs.map with ⟨rfl, hnone⟩ | ⟨r, rfl, hms⟩
  · obtain ⟨W1, hW1⟩ : ∃ W, W = W0.alloc (.map #[] 0) := ⟨_, rfl⟩
    obtain ⟨W2, hW2⟩ : ∃ W, W = W1.setCell ⟨sb, o, none⟩ (.map (some W0.heap.size)) := ⟨_, rfl⟩
    have hw1 : Fr [] W0 W1 := by rw [hW1]; exact (Fr.refl _ _).alloc _
    have hw2 : Fr [sb] W1 W2 := by rw [hW2]; exact (Fr.refl _ _).setCell _ _ (Or.inl (by simp))
    have hsz1 : W1.heap.size = W0.heap.size + 1 := by rw [hW1]; simp
    have hsz2 := hw2.size
    have hm2 : MapS W2 W0.heap.size (fun k => (g k).map fileV) := (MapS.fr (MapS.made (clock := 0) (by rw [hW1]; exact hp_new _ _)) hw2 (by simp; omega)).congr (fun k => (hnone k).symm)
    have hb2 : SB W2 sb pre ty (.map (some W0.heap.size)) stv := by rw [hW2, HO.out]; exact (hb0.fr hw1 (by simp)).set0 _
    have hA2 : W2.heap[w.heap.size]? = some (.cells #[.slice ao d.length lc] 174) := (hw2.heap (hw1.heap0 hA0) (by simp; omega))
    have hwd : Fr [] W2 W2.drew := (Fr.refl _ _).drew
    obtain ⟨W3, hup, hm3, hf3⟩ := supd_ex (hm2.fr hwd (by simp)) n (.agg #[.slice ao d.length lc])
    rw [sv, ← HTX.out] at hup
    have hs2 : SVE E W2 (.map (some W0.heap.size)) stv (W0.heap.size :: S) g steps := by
      have h1 := (hs0.fr0 hw1).fr hw2 (fun b hb e => hsb ((show b = sb by simpa using e) ▸ hb))
      have hgn : ∀ k, g k = none := fun k => by have := hnone k; simpa using this
      refine ⟨Or.inr ⟨_, rfl, hm2⟩, fun k p _ hk => absurd ((hgn k).symm.trans hk) (by simp), fun k p b _ hk _ => absurd ((hgn k).symm.trans hk) (by simp), fun b hb => ?_, h1.st, fun b hb => by simp [h1.sb b hb], fun b hb => ?_⟩
      · have hbe : W0.heap.size = b := by simpa [mapBlock] using hb
        subst hbe
        refine ⟨by simp, fun e => ?_⟩
        have := (rows_lt hs0.st e).2
        omega
      · rcases List.mem_cons.1 hb with rfl | hb
        · omega
        · exact h1.lt b hb
    have hv2 : ownM W2 0 (.slice ao d.length lc) d := (hv0.fr hw1 (by simp)).fr hw2 (fun b hb e => hsb ((show b = sb by simpa using e) ▸ (hvb b hb).1))
    have hput := (hs2.fr0 hwd).put n _ d (hv2.fr hwd (by simp)) (fun b hb' => by
      obtain ⟨h1, h2, h3, h4⟩ := hvb b hb'
      have := hs.lt b h1
      exact ⟨by simp [h1], by omega, h3, h4⟩) hm3 hf3
    have hfin : SPost w sb pre ty S (fun k => E k ∧ k ≠ n) (fun k => if k = n then some (.slice ao d.length lc, d) else g k) steps W3 (.map (some W0.heap.size)) stv (W0.heap.size :: S) :=
      ⟨(hb2.fr hwd (by simp)).fr hf3 (by simp; omega), hput, (((((hw0.of0 (S := sb :: S)).then0 hw1).trans hw2 (by simp)).then0 hwd).trans hf3 (by simp; omega)), fun b hb => by
        rcases List.mem_cons.1 hb with rfl | hb
        · exact Or.inr (by omega)
        · exact Or.inl hb, fun hm => by
        rcases List.mem_cons.1 hm with e | hm
        · omega
        · exact hsb hm⟩
    have HF := (show Hid _ from hfin)
    have heq : ∀ w, (binOp BinOp.eql 93 (.map none) (.map none)).run Tryz.prog w = .ok (.bool true) w := fun w => by kernel_rfl
    have a0 : W0.cell? ⟨w.heap.size, 0, none⟩ = some (.slice ao d.length lc) := cell_of_heap hA0
    have a2 : W2.cell? ⟨w.heap.size, 0, none⟩ = some (.slice ao d.length lc) := cell_of_heap hA2
    have b0 : W0.cell? ⟨sb, o, none⟩ = some (.map none) := by rw [HO.out]; exact hb0.c0
    have b2 : W2.cell? ⟨sb, o, none⟩ = some (.map (some W0.heap.size)) := by rw [HO.out]; exact hb2.c0
    have a3 : W3.cell? ⟨w.heap.size, 0, none⟩ = some (.slice ao d.length lc) := (hf3.cell _ _ (lt_of_cell (show W2.drew.cell? ⟨w.heap.size, 0, none⟩ = _ from a2)) (by simp; omega)).trans a2
    have b3 : W3.cell? ⟨sb, o, none⟩ = some (.map (some W0.heap.size)) := (hf3.cell _ _ (lt_of_cell (show W2.drew.cell? ⟨sb, o, none⟩ = _ from b2)) (by simp; omega)).trans b2
    have K2 : (fun w' : World => w'.cell? ⟨sb, o, none⟩ = some (.map (some W0.heap.size)) ∧ w'.cell? ⟨w.heap.size, 0, none⟩ = some (.slice ao d.length lc)) W2.drew := ⟨b2, a2⟩
    have K3 : (fun w' : World => w'.cell? ⟨sb, o, none⟩ = some (.map (some W0.heap.size)) ∧ w'.cell? ⟨w.heap.size, 0, none⟩ = some (.slice ao d.length lc)) W3 := ⟨b3, a3⟩
    have HW2 : Hid (W2 = (((w.setCell ⟨sb, o, none⟩ (.map (some (w.heap.size + 1)))).alloc (.cells #[.slice ao d.length lc] 174)).alloc (.map #[] 0))) := by
      show _ = _
      rw [hW2, hsz0, hW1, hW0, World.setCell_alloc_past (hn := by simp; omega), World.setCell_alloc_past (hn := hlt)]
    rw [hW0] at b0 a0
    rw [hsz0] at K2 K3 hup HF
    clear hput hs hv hvb hb hm3 hfin hs0 hb0 hv0 hw0 hw1 hw2 hm2 hb2 hA0 hA2 hs2 hv2 hnone hsz1 hsz2 hf3 hW2 hW1 hW0 a2 b2 a3 b3 hwd hsz0
    go_enter Tryz.func82, Tryz.ntmps82
    go_wp2_with fail
    rw [← HW2.out]
    clear a0 b0 hc0 hfz
    go_region_held (fun w' : World => w'.cell? ⟨sb, o, none⟩ = some (.map (some (w.heap.size + 1))) ∧ w'.cell? ⟨w.heap.size, 0, none⟩ = some (.slice ao d.length lc))
      (first | exact K2 | exact K3)
      (fail)
    all_goals
      go_wp2_with fail
      refine bodyPost_end (v := .tuple #[]) (results_none rfl _ _ _) rfl ⟨rfl, _, _, HF.out⟩
  · have hwd : Fr [] W0 W0.drew := (Fr.refl _ _).drew
    obtain ⟨w1, hup, hm1, hf1⟩ := supd_ex ((hms.fr hw0 (by simp)).fr hwd (by simp)) n (.agg #[.slice ao d.length lc])
    rw [sv, ← HTX.out] at hup
    have hput := (hs0.fr0 hwd).put n _ d (hv0.fr hwd (by simp)) (fun b hb' => by
      obtain ⟨h1, h2, h3, h4⟩ := hvb b hb'
      exact ⟨h1, fun e => h2 (by simp [mapBlock, e]), h3, h4⟩) hm1 hf1
    have hrS := (hs.mb r rfl).1
    have hne : sb ≠ r := fun e => hsb (e ▸ hrS)
    have hfin : SPost w sb pre ty S (fun k => E k ∧ k ≠ n) (fun k => if k = n then some (.slice ao d.length lc, d) else g k) steps w1 (.map (some r)) stv S :=
      ⟨(hb0.fr hwd (by simp)).fr hf1 (by simpa using hne), hput, ((hw0.of0 (S := sb :: S)).then0 hwd).trans hf1 (by simp [hrS]), fun b hb => Or.inl hb, hsb⟩
    have HF := (show Hid _ from hfin)
    have heq : ∀ w, (binOp BinOp.eql 93 (.map (some r)) (.map none)).run Tryz.prog w = .ok (.bool false) w := fun w => by kernel_rfl
    have a0 : W0.cell? ⟨w.heap.size, 0, none⟩ = some (.slice ao d.length lc) := cell_of_heap hA0
    have b0 : W0.cell? ⟨sb, o, none⟩ = some (.map (some r)) := by rw [HO.out]; exact hb0.c0
    have hrl : r < w.heap.size := hs.lt r hrS
    have a1 : w1.cell? ⟨w.heap.size, 0, none⟩ = some (.slice ao d.length lc) := (hf1.cell _ _ (lt_of_cell (show W0.drew.cell? ⟨w.heap.size, 0, none⟩ = _ from a0)) (by simp; omega)).trans a0
    have b1 : w1.cell? ⟨sb, o, none⟩ = some (.map (some r)) := (hf1.cell _ _ (lt_of_cell (show W0.drew.cell? ⟨sb, o, none⟩ = _ from b0)) (by simpa using hne)).trans b0
    have K2 : (fun w' : World => w'.cell? ⟨sb, o, none⟩ = some (.map (some r)) ∧ w'.cell? ⟨w.heap.size, 0, none⟩ = some (.slice ao d.length lc)) W0.drew := ⟨b0, a0⟩
    have K3 : (fun w' : World => w'.cell? ⟨sb, o, none⟩ = some (.map (some r)) ∧ w'.cell? ⟨w.heap.size, 0, none⟩ = some (.slice ao d.length lc)) w1 := ⟨b1, a1⟩
    have HW0 := (show Hid _ from hW0)
    rw [hW0] at a0 b0
    clear hmm hput hs hv hvb hms hb hm1 hfin hs0 hb0 hv0 hw0 hA0 hwd hf1 a1 b1 hW0 hsz0 hrl
    go_enter Tryz.func82, Tryz.ntmps82
    go_wp2_with fail
    rw [← HW0.out]
    clear a0 b0 hc0 hfz
    go_region_held (fun w' : World => w'.cell? ⟨sb, o, none⟩ = some (.map (some r)) ∧ w'.cell? ⟨w.heap.size, 0, none⟩ = some (.slice ao d.length lc))
      (first | exact K2 | exact K3)
      (fail)
    all_goals
      go_wp2_with fail
      refine bodyPost_end (v := .tuple #[]) (results_none rfl _ _ _) rfl ⟨rfl, _, _, HF.out⟩
end Go.Proofs.YtapabahhfanmmaaGreatDoor
/- Files: a step is noted; one is synced. -/
namespace Go.Proofs.YtapabahhfanmmaaGreatDoor
open Go.RowKit

theorem infoSt : (Tryz.prog.info? 113).map (fun i => (i.zero, i.size, i.bytes)) = some (some (.agg #[ii 0, .string ⟨#[]⟩, .string ⟨#[]⟩, .string ⟨#[]⟩]), 4, 56) := by kernel_rfl
theorem step_flat (steps : List Stp) (s : Stp) : (steps ++ [s]).flatMap Stp.cells = steps.flatMap Stp.cells ++ s.cells := by
  rw [List.flatMap_append]
  simp
theorem SVE.step {E : Nm → Prop} {w w' : World} {mv stv v' : Value} {S : List Nat} {g : Gf} {steps : List Stp} (h : SVE E w mv stv S g steps) (s : Stp) (hown : w'.ownsRow 0 113 4 v' (steps.length + 1) (steps.flatMap Stp.cells ++ s.cells)) (hg : w.grownBy w' stv.ownBlock)
    (hat : v'.ownBlock = stv.ownBlock ∨ ∃ b, v'.ownBlock = some b ∧ w.heap.size ≤ b) : SVE E w' mv v' (v'.ownBlock.toList ++ S) g (steps ++ [s]) := by
  have hf : Fr stv.ownBlock.toList w w' := fr_grown (Fr.refl _ _) hg (fun b hb => Or.inl (by simp [hb]))
  have hnew : ∀ b, b ∈ S → stv.ownBlock ≠ some b → v'.ownBlock ≠ some b := fun b hb hn e => by
    rcases hat with e' | ⟨b', e', hl⟩
    · exact hn (e' ▸ e)
    · rw [e'] at e
      have := h.lt b hb
      have : b' = b := Option.some.inj e
      omega
  refine ⟨h.map.fr hf (fun b hb e => (h.mb b hb).2 (by simpa using e)), fun k p he hk => (h.own k p he hk).fr hf (fun b hb e => (h.blk k p b he hk hb).2.2.1 (by simpa using e)), ?_, ?_, ?_, ?_, ?_⟩
  · intro k p b he hk hb
    obtain ⟨h1, h2, h3, h4⟩ := h.blk k p b he hk hb
    exact ⟨by simp [h1], h2, hnew b h1 h3, h4⟩
  · intro b hb
    obtain ⟨h1, h2⟩ := h.mb b hb
    exact ⟨by simp [h1], hnew b h1 h2⟩
  · rw [step_flat, List.length_append]
    exact hown
  · intro b hb
    simp [hb]
  · intro b hb
    rcases List.mem_append.1 hb with hb | hb
    · exact (rows_lt hown (by simpa using hb)).2
    · exact Nat.lt_of_lt_of_le (h.lt b hb) hf.size
/-- A step has been put behind the steps. -/
theorem SPost.keeps {w : World} {sb : Nat} {pre : List Value} {ty : TypeId} {S : List Nat} {E : Nm → Prop} {g : Gf} {steps : List Stp} {w4 W5 w8 : World} {mv stv : Value} {S4 : List Nat} (h : SPost w sb pre ty S E g steps w4 mv stv S4) (h5 : Fr [] w4 W5) (hg : W5.grownBy w8 stv.ownBlock) : SB w8 sb pre ty mv stv :=
  (h.bl.fr h5 (by simp)).fr (fr_grown (Fr.refl stv.ownBlock.toList W5) hg (fun b hb => Or.inl (by simp [hb]))) (fun e => h.nsb (h.sve.sb _ (by simpa using e)))
theorem SPost.note {w : World} {sb : Nat} {pre : List Value} {ty : TypeId} {S : List Nat} {E : Nm → Prop} {g : Gf} {steps : List Stp} {w4 W5 w8 : World} {mv stv v' : Value} {S4 : List Nat} (h : SPost w sb pre ty S E g steps w4 mv stv S4) (h5 : Fr [] w4 W5) (s : Stp)
    (hown : w8.ownsRow 0 113 4 v' (steps.length + 1) (steps.flatMap Stp.cells ++ s.cells)) (hg : W5.grownBy w8 stv.ownBlock) (hat : v'.ownBlock = stv.ownBlock ∨ v'.ownBlock = some W5.heap.size) (hlt : sb < w.heap.size) :
    SPost w sb pre ty S E g (steps ++ [s]) (w8.setCell ⟨sb, pre.length + 1, none⟩ v') mv v' (v'.ownBlock.toList ++ S4) := by
  have hw4 := h.fr.size
  have hsz5 := h5.size
  have hs8 := (h.sve.fr0 h5).step s hown hg (hat.imp_right (fun e => ⟨_, e, Nat.le_refl _⟩))
  have hb8 := h.keeps h5 hg
  have hnb : sb ∉ v'.ownBlock.toList ++ S4 := fun hm => by
    rcases List.mem_append.1 hm with hm | hm
    · rcases hat with e | e
      · exact h.nsb (h.sve.sb _ (by rw [← e]; simpa using hm))
      · rw [e] at hm
        simp at hm
        omega
    · exact h.nsb hm
  have hF8 : Fr (sb :: S) w w8 := fr_grown (h.fr.then0 h5) hg (fun b hb => by
    rcases h.old b (h.sve.sb b hb) with h1 | h1
    · exact Or.inl (by simp [h1])
    · exact Or.inr h1)
  refine ⟨hb8.set1 v', hs8.fr ((Fr.refl [sb] w8).setCell _ _ (Or.inl (by simp))) (fun b hb e => hnb ((show b = sb by simpa using e) ▸ hb)), hF8.setCell _ _ (Or.inl (by simp)), fun b hb => ?_, hnb⟩
  rcases List.mem_append.1 hb with hb | hb
  · have hb' : v'.ownBlock = some b := by simpa using hb
    rcases hat with e | e
    · exact h.old b (h.sve.sb b (by rw [← e]; exact hb'))
    · rw [e] at hb'
      have := Option.some.inj hb'
      exact Or.inr (by omega)
  · exact h.old b hb
theorem new_step (s : Stp) (W : World) (j : Nat) (v : Value) (hu : s.cells[j]? = some v) : (W.alloc (.cells #[ii s.what, sv s.name, sv s.to, sv s.data] 113)).cell? ((⟨W.heap.size, 0, none⟩ : Addr).add j) = some v := by
  rw [Addr.add_lit, Nat.zero_add, cell_of_heap (hp_new W _)]
  simpa using hu

set_option maxRecDepth 100000 in
set_option maxHeartbeats 2000000 in
theorem syncS_any (sb : Nat) (pre : List Value) (ty : TypeId) (E : Nm → Prop) (mv stv : Value) (S : List Nat) (g : Gf) (steps : List Stp) (n : Nm) (w : World)
    (hb : SB w sb pre ty mv stv) (hs : SVE E w mv stv S g steps) (hsb : sb ∉ S) (hl : steps.length ≤ 10000000) :
    Calls Tryz.prog 45 #[.pointer (some ⟨sb, pre.length, none⟩), sv n] w fun e w' => e = .returned (.tuple #[]) ∧ ∃ stv' S', SPost w sb pre ty S E g (steps ++ [sSync n]) w' mv stv' S' := by
  obtain ⟨inf, hi0, hz0, hz1, hz2⟩ := info_parts infoSt
  have hc1 := hb.c1
  have hfz := hb.fz (pre.length + 1)
  have hlt := hb.lt
  obtain ⟨o, ho⟩ : ∃ o, o = pre.length := ⟨_, rfl⟩
  rw [← ho] at hc1 hfz ⊢
  have HO := (show Hid _ from ho)
  clear ho
  obtain ⟨tx, htx⟩ : ∃ x : ByteArray, x = ⟨n.toArray⟩ := ⟨_, rfl⟩
  have HTX := (show Hid _ from htx)
  rw [sv, ← htx]
  have hsx : (sSync n).cells = [ii 2, .string tx, .string ⟨#[]⟩, .string ⟨#[]⟩] := by rw [htx]
  clear htx
  obtain ⟨W0, hW0⟩ : ∃ W, W = w.alloc (.cells #[ii 2, .string tx, .string ⟨#[]⟩, .string ⟨#[]⟩] 113) := ⟨_, rfl⟩
  have hw0 : Fr [] w W0 := by rw [hW0]; exact (Fr.refl _ _).alloc _
  have HS : Hid (SVE E W0 mv stv S g steps) := hs.fr0 hw0
  have HB : Hid (SB W0 sb pre ty mv stv) := hb.fr hw0 (by simp)
  have HOW : Hid (W0.ownsRow 0 113 4 stv steps.length (steps.flatMap Stp.cells)) := HS.out.st
  have HN : Hid (∀ (j : Nat) (x : Value), ([ii 2, .string tx, .string ⟨#[]⟩, .string ⟨#[]⟩] : List Value)[j]? = some x → W0.cell? ((⟨w.heap.size, 0, none⟩ : Addr).add j) = some x) := by
    intro j x hx
    rw [Addr.add_lit, Nat.zero_add, hW0, cell_of_heap (hp_new w _)]
    simpa using hx
  have HSX := (show Hid _ from hsx)
  have HSB : Hid (∀ w8, W0.grownBy w8 stv.ownBlock → SB w8 sb pre ty mv stv) := fun w8 hg => HB.out.fr (fr_grown (Fr.refl stv.ownBlock.toList W0) hg (fun b hb => Or.inl (by simp [hb]))) (fun e => hsb (HS.out.sb _ (by simpa using e)))
  have HC8 : Hid (∀ w8, W0.grownBy w8 stv.ownBlock → w8.cell? ⟨sb, o + 1, none⟩ = some stv ∧ w8.frozen? ⟨sb, o + 1, none⟩ = false) := fun w8 hg => ⟨by rw [HO.out]; exact (HSB.out w8 hg).c1, (HSB.out w8 hg).fz _⟩
  rw [hW0] at HOW HN
  have HW0 := (show Hid _ from hW0)
  clear hb hs hW0 hsx
  go_enter Tryz.func45, Tryz.ntmps45
  go_wp2_with (at_builtin; refine wpList_append_own_at _ rfl _ _ 34 rfl 0 113 inf (.agg #[ii 0, .string ⟨#[]⟩, .string ⟨#[]⟩, .string ⟨#[]⟩]) 4 56 Tryz.underlying34 hi0 hz0 hz1 hz2 rfl (by decide) stv steps.length (steps.flatMap Stp.cells) rfl HOW.out ⟨w.heap.size, 0, none⟩ 1 1 [ii 2, .string tx, .string ⟨#[]⟩, .string ⟨#[]⟩] rfl rfl HN.out (by simp [Value.oneCell']) (by unfold maxLen; omega) (by omega) (Nat.zero_le _) ?_; intro v' w8 hown8 hgrow8 hnil8 hat8; rw [← HW0.out] at hgrow8 hat8; obtain ⟨hc8, hz8⟩ := HC8.out w8 hgrow8; obtain ⟨ao8, lc8, rfl⟩ := rows_slice hown8)
  obtain ⟨v', hv'⟩ : ∃ v', v' = Value.slice ao8 (steps.length + 1) lc8 := ⟨_, rfl⟩
  rw [← hv'] at hown8 hat8 ⊢
  have hb8 := HSB.out w8 hgrow8
  have hs8 := HS.out.step (sSync n) (by rw [HSX.out]; exact hown8) hgrow8 (hat8.imp_right (fun e => ⟨_, e, Nat.le_refl _⟩))
  have hnb : sb ∉ v'.ownBlock.toList ++ S := fun hm => by
    rcases List.mem_append.1 hm with hm | hm
    · rcases hat8 with e | e
      · exact hsb (HS.out.sb _ (by rw [← e]; simpa using hm))
      · rw [e] at hm
        have := hw0.size
        simp at hm
        omega
    · exact hsb hm
  have hF8 : Fr (sb :: S) w w8 := fr_grown (hw0.of0 (S := sb :: S)) hgrow8 (fun b hb => Or.inl (by simp [HS.out.sb b hb]))
  refine bodyPost_end (v := .tuple #[]) (results_none rfl _ _ _) rfl ⟨rfl, v', v'.ownBlock.toList ++ S, ?_, ?_, hF8.setCell _ _ (Or.inl (by simp)), fun b hb => ?_, hnb⟩
  · rw [HO.out]; exact hb8.set1 v'
  · exact hs8.fr ((Fr.refl [sb] w8).setCell _ _ (Or.inl (by simp))) (fun b hb e => hnb ((show b = sb by simpa using e) ▸ hb))
  · rcases List.mem_append.1 hb with hb | hb
    · have hb' : v'.ownBlock = some b := by simpa using hb
      rcases hat8 with e | e
      · exact Or.inl (HS.out.sb b (by rw [← e]; exact hb'))
      · rw [e] at hb'
        have := hw0.size
        have := Option.some.inj hb'
        exact Or.inr (by omega)
    · exact Or.inl hb
end Go.Proofs.YtapabahhfanmmaaGreatDoor
/- Files: bytes are put behind one. -/
namespace Go.Proofs.YtapabahhfanmmaaGreatDoor
open Go.RowKit

theorem SVE.fiv_own {E : Nm → Prop} {w : World} {mv stv : Value} {S : List Nat} {g : Gf} {steps : List Stp} (h : SVE E w mv stv S g steps) (n : Nm) (hE : ¬ E n) : ownM w 0 (fiv g n) (fid g n) := by
  unfold fiv fid
  cases hg : g n with
  | none => exact Or.inl ⟨rfl, rfl⟩
  | some p => exact h.own n p hE hg
theorem SVE.fiv_blk {E : Nm → Prop} {w : World} {mv stv : Value} {S : List Nat} {g : Gf} {steps : List Stp} (h : SVE E w mv stv S g steps) (n : Nm) (hE : ¬ E n) {b : Nat} (hb : (fiv g n).ownBlock = some b) : b ∈ S ∧ mapBlock mv ≠ some b ∧ stv.ownBlock ≠ some b ∧ ∀ k p, ¬ E k → g k = some p → p.1.ownBlock = some b → k = n := by
  unfold fiv at hb
  cases hg : g n with
  | none => rw [hg] at hb; simp [Value.ownBlock] at hb
  | some p => rw [hg] at hb; exact h.blk n p b hE hg hb
/-- One file's bytes may have turned. -/
theorem SVE.hole {E : Nm → Prop} {w w' : World} {mv stv : Value} {S : List Nat} {g : Gf} {steps : List Stp} (h : SVE E w mv stv S g steps) (n : Nm) (hE : ¬ E n) (hf : Fr (fiv g n).ownBlock.toList w w') : SVE (fun k => E k ∨ k = n) w' mv stv S g steps := by
  have key : ∀ b, b ∈ (fiv g n).ownBlock.toList → b ∈ S ∧ mapBlock mv ≠ some b ∧ stv.ownBlock ≠ some b ∧ ∀ k p, ¬ E k → g k = some p → p.1.ownBlock = some b → k = n := fun b hb => h.fiv_blk n hE (by simpa using hb)
  refine ⟨h.map.fr hf (fun b hb e => (key b e).2.1 hb), fun k p he hk => (h.own k p (fun e => he (Or.inl e)) hk).fr hf (fun b hb e => he (Or.inr ((key b e).2.2.2 k p (fun e => he (Or.inl e)) hk hb))), fun k p b he hk hb => ?_, h.mb, rows_fr h.st hf (fun b hb e => (key b e).2.2.1 hb), h.sb, fun b hb => Nat.lt_of_lt_of_le (h.lt b hb) hf.size⟩
  obtain ⟨h1, h2, h3, h4⟩ := h.blk k p b (fun e => he (Or.inl e)) hk hb
  exact ⟨h1, h2, h3, fun k' p' he' => h4 k' p' (fun e => he' (Or.inl e))⟩

set_option maxRecDepth 100000 in
set_option maxHeartbeats 4000000 in
theorem appendS_any (sb : Nat) (pre : List Value) (ty : TypeId) (E : Nm → Prop) (mv stv : Value) (S : List Nat) (g : Gf) (steps : List Stp) (n : Nm) (x : List UInt8) (w : World)
    (hb : SB w sb pre ty mv stv) (hs : SVE E w mv stv S g steps) (hsb : sb ∉ S) (hE : ¬ E n) (hl : steps.length ≤ 10000000) (hx : (fid g n).length + x.length ≤ 1000000000) :
    Calls Tryz.prog 43 #[.pointer (some ⟨sb, pre.length, none⟩), sv n, sv x] w fun e w' => e = .returned (.tuple #[]) ∧ ∃ v' mv' stv' S', SPost w sb pre ty S E (fun k => if k = n then some (v', fid g n ++ x) else g k) (steps ++ [sApp n x]) w' mv' stv' S' := by
  obtain ⟨inf, hi0, hz0, hz1, hz2⟩ := info_parts infoSt
  have hc0 := hb.c0
  have hlt := hb.lt
  have hlk := hs.map.lookG1 n
  have hown := hs.fiv_own n hE
  obtain ⟨ao, lc, hsl⟩ := hown.slice
  rw [hsl] at hlk
  obtain ⟨o, ho⟩ : ∃ o, o = pre.length := ⟨_, rfl⟩
  rw [← ho] at hc0 ⊢
  have HO := (show Hid _ from ho)
  clear ho
  obtain ⟨tx, htx⟩ : ∃ x : ByteArray, x = ⟨n.toArray⟩ := ⟨_, rfl⟩
  obtain ⟨dx, hdx⟩ : ∃ y : ByteArray, y = ⟨x.toArray⟩ := ⟨_, rfl⟩
  have HTX := (show Hid _ from htx)
  have HDX := (show Hid _ from hdx)
  rw [sv, ← htx] at hlk ⊢
  rw [sv, ← hdx]
  have HSX : Hid ((sApp n x).cells = [ii 1, .string tx, .string ⟨#[]⟩, .string dx]) := by show _ = _; rw [htx, hdx]
  clear htx hdx
  obtain ⟨W0, hW0⟩ : ∃ W, W = w.alloc (.cells #[.slice ao (fid g n).length lc] 174) := ⟨_, rfl⟩
  have hw0 : Fr [] w W0 := by rw [hW0]; exact (Fr.refl _ _).alloc _
  have HOW : Hid (ownM W0 0 (.slice ao (fid g n).length lc) (fid g n)) := by have := hown.fr hw0 (by simp); rw [hsl] at this; exact this
  have HA0 : Hid (W0.heap[w.heap.size]? = some (.cells #[.slice ao (fid g n).length lc] 174)) := by show _ = _; rw [hW0]; exact hp_new _ _
  have HSL := (show Hid _ from hsl)
  have HS := (show Hid _ from hs)
  have HB := (show Hid _ from hb)
  have HA9 : Hid (∀ w2, W0.grownBy w2 (Value.slice ao (fid g n).length lc).ownBlock → w2.cell? ⟨w.heap.size, 0, none⟩ = some (.slice ao (fid g n).length lc) ∧ w2.frozen? ⟨w.heap.size, 0, none⟩ = false) := fun w2 hg => by
    have hf : Fr (Value.slice ao (fid g n).length lc).ownBlock.toList W0 w2 := fr_grown (Fr.refl _ _) hg (fun b hb => Or.inl (by simp [hb]))
    have hn : w.heap.size ∉ (Value.slice ao (fid g n).length lc).ownBlock.toList := fun e => by
      have := (hown.base (b := w.heap.size) (by rw [hsl]; simpa using e)).2
      omega
    have := hf.heap HA0.out hn
    exact ⟨cell_of_heap this, frozen_of_heap this⟩
  rw [hW0] at HOW HA9
  have HW0 := (show Hid _ from hW0)
  clear hb hs hown hsl hW0 hc0
  have hc0 : w.cell? ⟨sb, o, none⟩ = some mv := by rw [HO.out]; exact (show SB _ _ _ _ _ _ from HB.out).c0
  go_enter Tryz.func43, Tryz.ntmps43
  go_wp2_with (at_builtin; refine wpList_appendS rfl _ _ rfl 0 (.slice ao (fid g n).length lc) (fid g n) x rfl HOW.out (show Value.string dx = _ by rw [HDX.out]) hx (Nat.zero_le _) ?_; intro v2 w2 hown2 hgrow2 hat2; obtain ⟨hc2, hz2'⟩ := HA9.out w2 hgrow2; obtain ⟨ao2, lc2, rfl⟩ := hown2.slice)
  rw [← HW0.out] at hgrow2 hat2
  have hsl2 : Value.slice ao2 (fid g n ++ x).length lc2 = .slice ao2 ((fid g n).length + x.length) lc2 := by rw [List.length_append]
  rw [hsl2] at hown2 hat2
  obtain ⟨v2, hv2⟩ : ∃ v2, v2 = Value.slice ao2 ((fid g n).length + x.length) lc2 := ⟨_, rfl⟩
  have HV2 := (show Hid _ from hv2)
  rw [← hv2] at hown2 hat2 ⊢
  clear hsl2 hv2 HA9
  have hg2 : W0.grownBy w2 (fiv g n).ownBlock := by rw [HSL.out]; exact hgrow2
  have hf2 : Fr (fiv g n).ownBlock.toList W0 w2 := fr_grown (Fr.refl _ _) hg2 (fun b hb => Or.inl (by simp [hb]))
  have hbS : ∀ b, (fiv g n).ownBlock = some b → b ∈ S := fun b hb => (HS.out.fiv_blk n hE hb).1
  have hA2 : w2.heap[w.heap.size]? = some (.cells #[.slice ao (fid g n).length lc] 174) := hf2.heap HA0.out (fun e => by have := HS.out.lt _ (hbS _ (by simpa using e)); omega)
  obtain ⟨W3, hW3⟩ : ∃ W, W = w2.setCell ⟨w.heap.size, 0, none⟩ v2 := ⟨_, rfl⟩
  have hf3 : Fr [w.heap.size] w2 W3 := by rw [hW3]; exact (Fr.refl _ _).setCell _ _ (Or.inl (by simp))
  have hsz02 : w.heap.size < w2.heap.size := lt_of_heap hA2
  have hA3 : W3.heap[w.heap.size]? = some (.cells #[v2] 174) := by rw [hW3, setCell_heap hA2]; rfl
  have hs2 : SVE (fun k => E k ∨ k = n) w2 mv stv S g steps := (HS.out.fr0 hw0).hole n hE hf2
  have hs3 : SVE (fun k => E k ∨ k = n) W3 mv stv S g steps := hs2.fr hf3 (fun b hb e => Nat.lt_irrefl _ ((show b = w.heap.size by simpa using e) ▸ HS.out.lt b hb))
  have hsz3 := hf3.size
  have hbk2 : ∀ b, v2.ownBlock = some b → b ∈ S ∨ w.heap.size ≤ b := fun b hb => by
    rcases hat2 with e | ⟨b', e, hl'⟩
    · exact Or.inl (hbS b (by rw [HSL.out, ← e]; exact hb))
    · rw [e] at hb
      have := Option.some.inj hb
      have := hw0.size
      exact Or.inr (by omega)
  have hbA : ∀ b, v2.ownBlock = some b → b ≠ w.heap.size := fun b hb e => by
    rcases hat2 with e' | ⟨b', e', hl'⟩
    · have := HS.out.lt b (hbS b (by rw [HSL.out, ← e']; exact hb)); omega
    · rw [e'] at hb
      have := Option.some.inj hb
      have := lt_of_heap HA0.out
      omega
  have hown3 : ownM W3 0 v2 (fid g n ++ x) := hown2.fr hf3 (fun b hb e => hbA b hb (by simpa using e))
  have hs3' : SVE (fun k => E k ∨ k = n) W3 mv stv (v2.ownBlock.toList ++ S) g steps := hs3.mono (fun b hb => by simp [hb]) (fun b hb => by
    rcases List.mem_append.1 hb with hb | hb
    · exact (hown3.base (by simpa using hb)).2
    · exact hs3.lt b hb)
  have hw3 : Fr (sb :: S) w W3 := ((hw0.of0 (S := sb :: S)).trans hf2 (fun b hb => Or.inl (by simp [hbS b (by simpa using hb)]))).trans hf3 (by simp)
  have hb3 : SB W3 sb pre ty mv stv := ((show SB w sb pre ty mv stv from HB.out).fr hw0 (by simp)).fr (hf2.mono (S' := w.heap.size :: S) (fun b hb => Or.inl (by simp [hbS b (by simpa using hb)]))) (by simp; exact ⟨by omega, hsb⟩) |>.fr hf3 (by simp; omega)
  have hnb3 : sb ∉ v2.ownBlock.toList ++ S := fun hm => by
    rcases List.mem_append.1 hm with hm | hm
    · rcases hbk2 sb (by simpa using hm) with h1 | h1
      · exact hsb h1
      · omega
    · exact hsb hm
  have hput := put_any sb pre ty (fun k => E k ∨ k = n) mv stv (v2.ownBlock.toList ++ S) g steps n v2 (fid g n ++ x) W3 hb3 hs3' hnb3 hown3 (fun b hb => by
    refine ⟨by simp [hb], fun e => ?_, fun e => ?_, fun k p hk hg hpb => ?_⟩
    · rcases hat2 with e' | ⟨b', e', hl'⟩
      · exact (HS.out.fiv_blk n hE (by rw [HSL.out, ← e']; exact hb)).2.1 e
      · rw [e'] at hb
        have := Option.some.inj hb
        have := HS.out.lt b (HS.out.mb b e).1
        have := hw0.size
        omega
    · rcases hat2 with e' | ⟨b', e', hl'⟩
      · exact (HS.out.fiv_blk n hE (by rw [HSL.out, ← e']; exact hb)).2.2.1 e
      · rw [e'] at hb
        have := Option.some.inj hb
        have := HS.out.lt b (HS.out.sb b e)
        have := hw0.size
        omega
    · rcases hat2 with e' | ⟨b', e', hl'⟩
      · exact (HS.out.fiv_blk n hE (by rw [HSL.out, ← e']; exact hb)).2.2.2 k p (fun e => hk (Or.inl e)) hg hpb
      · rw [e'] at hb
        have := Option.some.inj hb
        have := HS.out.lt b (HS.out.blk k p b (fun e => hk (Or.inl e)) hg hpb).1
        have := hw0.size
        omega)
  rw [← HO.out, sv, ← HTX.out] at hput
  rw [← hW3]
  clear hA2 hs2 hs3 hs3' hb3 hf2 hgrow2 hat2 hown2 hown3 hW3
  refine Calls.mono hput ?_
  rintro e w4 ⟨rfl, mv4, S4, hp4⟩
  dsimp only
  clear hput
  have hP : SPost w sb pre ty S E (fun k => if k = n then some (v2, fid g n ++ x) else g k) steps w4 mv4 stv S4 := ⟨hp4.bl, hp4.sve.weak (fun k hk => hk.1.resolve_right hk.2), hw3.trans hp4.fr (fun b hb => by
      rcases List.mem_cons.1 hb with rfl | hb
      · exact Or.inl (by simp)
      · rcases List.mem_append.1 hb with hb | hb
        · rcases hbk2 b (by simpa using hb) with h1 | h1
          · exact Or.inl (by simp [h1])
          · exact Or.inr h1
        · exact Or.inl (by simp [hb])), fun b hb => by
      rcases hp4.old b hb with h1 | h1
      · rcases List.mem_append.1 h1 with h1 | h1
        · exact hbk2 b (by simpa using h1)
        · exact Or.inl h1
      · exact Or.inr (by omega), hp4.nsb⟩
  have HP := (show Hid _ from hP)
  clear hp4 hP hbk2 hbA hbS hA3 hw3 hnb3 HS HB HSL HOW HA0 HW0 hc0 hf3 hg2 hw0 hlk
  obtain ⟨W5, hW5⟩ : ∃ W, W = w4.alloc (.cells #[ii 1, .string tx, .string ⟨#[]⟩, .string dx] 113) := ⟨_, rfl⟩
  have hw5 : Fr [] w4 W5 := by rw [hW5]; exact (Fr.refl _ _).alloc _
  have hc4 : w4.cell? ⟨sb, o + 1, none⟩ = some stv := by rw [HO.out]; exact HP.out.bl.c1
  have hc5 : W5.cell? ⟨sb, o + 1, none⟩ = some stv := by rw [HO.out]; exact (HP.out.bl.fr hw5 (by simp)).c1
  have HOW : Hid (W5.ownsRow 0 113 4 stv steps.length (steps.flatMap Stp.cells)) := (HP.out.sve.fr0 hw5).st
  have HN : Hid (∀ (j : Nat) (y : Value), ([ii 1, .string tx, .string ⟨#[]⟩, .string dx] : List Value)[j]? = some y → W5.cell? ((⟨w4.heap.size, 0, none⟩ : Addr).add j) = some y) := by
    intro j y hy
    rw [Addr.add_lit, Nat.zero_add, hW5, cell_of_heap (hp_new w4 _)]
    simpa using hy
  have HC8 : Hid (∀ w8, W5.grownBy w8 stv.ownBlock → w8.cell? ⟨sb, o + 1, none⟩ = some stv ∧ w8.frozen? ⟨sb, o + 1, none⟩ = false) := fun w8 hg => ⟨by rw [HO.out]; exact (HP.out.keeps hw5 hg).c1, (HP.out.keeps hw5 hg).fz _⟩
  rw [hW5] at HOW HN hc5
  have HW5 := (show Hid _ from hW5)
  clear hW5
  have hlt4 : sb < w4.heap.size := HP.out.bl.lt
  go_wp2_with (at_builtin; refine wpList_append_own_at _ rfl _ _ 34 rfl 0 113 inf (.agg #[ii 0, .string ⟨#[]⟩, .string ⟨#[]⟩, .string ⟨#[]⟩]) 4 56 Tryz.underlying34 hi0 hz0 hz1 hz2 rfl (by decide) stv steps.length (steps.flatMap Stp.cells) rfl HOW.out ⟨w4.heap.size, 0, none⟩ 1 1 [ii 1, .string tx, .string ⟨#[]⟩, .string dx] rfl rfl HN.out (by simp [Value.oneCell']) (by unfold maxLen; omega) (by omega) (Nat.zero_le _) ?_; intro v' w8 hown8 hgrow8 hnil8 hat8; rw [← HW5.out] at hgrow8 hat8; obtain ⟨hc8, hz8⟩ := HC8.out w8 hgrow8; obtain ⟨ao8, lc8, rfl⟩ := rows_slice hown8)
  have hfin := HP.out.note hw5 (sApp n x) (by rw [HSX.out]; exact hown8) hgrow8 hat8 hlt
  rw [← HO.out] at hfin
  exact bodyPost_end (v := .tuple #[]) (results_none rfl _ _ _) rfl ⟨rfl, _, _, _, _, hfin⟩
end Go.Proofs.YtapabahhfanmmaaGreatDoor
/- Files: one gets another name. -/
namespace Go.Proofs.YtapabahhfanmmaaGreatDoor
open Go.RowKit

theorem sdel_ex {w : World} {r : Nat} {f : Nm → Option Value} (h : MapS w r f) (ty t2 : TypeId) (x : Nm) :
    ∃ w', (Builtin.delete_ #[93, t2] ty #[.map (some r), sv x]).run Tryz.prog w = .ok (.tuple #[]) w' ∧ MapS w' r (fun k => if k = x then none else f k) ∧ Fr [r] w w' := by
  obtain ⟨o, h1, h2⟩ := h.del 93 ty t2 174 Tryz.underlying93 x
  exact ⟨_, h1, h2, (Fr.refl [r] w).setObj r o (Or.inl (by simp))⟩
theorem SVE.del {E : Nm → Prop} {w w' : World} {r : Nat} {stv : Value} {S : List Nat} {g : Gf} {steps : List Stp} (h : SVE E w (.map (some r)) stv S g steps) (n : Nm)
    (hm : MapS w' r (fun k => if k = n then none else (g k).map fileV)) (hf : Fr [r] w w') :
    SVE (fun k => E k ∧ k ≠ n) w' (.map (some r)) stv S (fun k => if k = n then none else g k) steps := by
  have hrs : ∀ b, stv.ownBlock = some b → b ∉ [r] := fun b hb hm => by
    have : b = r := by simpa using hm
    subst this
    exact (h.mb b rfl).2 hb
  refine ⟨Or.inr ⟨r, rfl, hm.congr (fun k => ?_)⟩, ?_, ?_, h.mb, rows_fr h.st hf hrs, h.sb, fun b hb => Nat.lt_of_lt_of_le (h.lt b hb) hf.size⟩
  · by_cases e : k = n <;> simp [e]
  · intro k p hE hk
    by_cases e : k = n
    · rw [if_pos e] at hk; cases hk
    · rw [if_neg e] at hk
      exact (h.own k p (fun hh => hE ⟨hh, e⟩) hk).fr hf (fun b hb hm => (h.blk k p b (fun hh => hE ⟨hh, e⟩) hk hb).2.1 (by simp [mapBlock]; exact (by simpa using hm : b = r).symm))
  · intro k p b hE hk hb
    by_cases e : k = n
    · rw [if_pos e] at hk; cases hk
    · rw [if_neg e] at hk
      obtain ⟨h1, h2, h3, h4⟩ := h.blk k p b (fun hh => hE ⟨hh, e⟩) hk hb
      refine ⟨h1, h2, h3, fun k' p' hE' hk' hb' => ?_⟩
      by_cases e' : k' = n
      · rw [if_pos e'] at hk'; cases hk'
      · rw [if_neg e'] at hk'
        exact h4 k' p' (fun hh => hE' ⟨hh, e'⟩) hk' hb'

abbrev NoE : Nm → Prop := fun _ => False
set_option maxRecDepth 100000 in
set_option maxHeartbeats 4000000 in
theorem rename_any (sb : Nat) (pre : List Value) (ty : TypeId) (mv stv : Value) (S : List Nat) (g : Gf) (steps : List Stp) (n m : Nm) (w : World)
    (hb : SB w sb pre ty mv stv) (hs : SVE NoE w mv stv S g steps) (hsb : sb ∉ S) (hl : steps.length ≤ 10000000) :
    Calls Tryz.prog 86 #[.pointer (some ⟨sb, pre.length, none⟩), sv n, sv m] w fun e w' => e = .returned (.tuple #[]) ∧ ∃ mv' stv' S', SPost w sb pre ty S NoE (fun k => if k = n then none else if k = m then some (fiv g n, fid g n) else g k) (steps ++ [sRen n m]) w' mv' stv' S' := by
  obtain ⟨inf, hi0, hz0, hz1, hz2⟩ := info_parts infoSt
  have hlt := hb.lt
  have hlk := hs.map.lookG1 n
  have hown := hs.fiv_own n (by simp)
  obtain ⟨ao, lc, hsl⟩ := hown.slice
  have hput := put_any sb pre ty (fun k => k = m ∨ k = n) mv stv S g steps m (fiv g n) (fid g n) w hb (hs.weak (fun k hk => hk.elim)) hsb hown (fun b hb' => by
    obtain ⟨h1, h2, h3, h4⟩ := hs.fiv_blk n (by simp) hb'
    exact ⟨h1, h2, h3, fun k p hk hg hpb => absurd (h4 k p (by simp) hg hpb) (fun e => hk (Or.inr e))⟩)
  have hc0 := hb.c0
  obtain ⟨o, ho⟩ : ∃ o, o = pre.length := ⟨_, rfl⟩
  rw [← ho] at hc0 hput ⊢
  have HO := (show Hid _ from ho)
  clear ho
  obtain ⟨tx, htx⟩ : ∃ x : ByteArray, x = ⟨n.toArray⟩ := ⟨_, rfl⟩
  obtain ⟨dx, hdx⟩ : ∃ y : ByteArray, y = ⟨m.toArray⟩ := ⟨_, rfl⟩
  have HTX := (show Hid _ from htx)
  have HDX := (show Hid _ from hdx)
  rw [sv, ← htx] at hlk ⊢
  rw [sv, ← hdx] at hput ⊢
  have HSX : Hid ((sRen n m).cells = [ii 3, .string tx, .string dx, .string ⟨#[]⟩]) := by show _ = _; rw [htx, hdx]
  clear htx hdx
  rw [hsl] at hlk
  have hput' := hput
  rw [show Value.agg #[fiv g n] = .agg #[.slice ao (fid g n).length lc] by rw [hsl]] at hput'
  have HSL := (show Hid _ from hsl)
  clear hb hs hown hsl hput
  go_enter Tryz.func86, Tryz.ntmps86
  go_wp2_with fail
  refine Calls.mono hput' ?_
  rintro e w4 ⟨rfl, mv4, S4, hp4⟩
  dsimp only
  clear hput'
  obtain ⟨r, rfl, hms⟩ : ∃ r, mv4 = .map (some r) ∧ MapS w4 r (fun k => ((if k = m then some (fiv g n, fid g n) else g k : Option (Value × List UInt8))).map fileV) := by
    rcases hp4.sve.map with ⟨_, h2⟩ | ⟨r, h1, h2⟩
    · have := h2 m
      simp at this
    · exact ⟨r, h1, h2⟩
  have hcm4 : w4.cell? ⟨sb, o, none⟩ = some (.map (some r)) := by rw [HO.out]; exact hp4.bl.c0
  obtain ⟨w5, hdel, hm5, hf5⟩ := sdel_ex hms 0 9 n
  rw [sv, ← HTX.out] at hdel
  have hrS : r ∈ S4 := (hp4.sve.mb r rfl).1
  have hP : SPost w sb pre ty S NoE (fun k => if k = n then none else if k = m then some (fiv g n, fid g n) else g k) steps w5 (.map (some r)) stv S4 :=
    ⟨hp4.bl.fr hf5 (fun e => hp4.nsb ((show sb = r by simpa using e) ▸ hrS)), (hp4.sve.del n hm5 hf5).weak (fun k hk => hk.2 (hk.1.1.resolve_left hk.1.2)), hp4.fr.trans hf5 (fun b hb => by
      have : b = r := by simpa using hb
      subst this
      rcases hp4.old b hrS with h1 | h1
      · exact Or.inl (by simp [h1])
      · exact Or.inr h1), hp4.old, hp4.nsb⟩
  have HP := (show Hid _ from hP)
  clear hp4 hP hms hm5 hf5 hrS hlk hc0
  obtain ⟨W5, hW5⟩ : ∃ W, W = w5.alloc (.cells #[ii 3, .string tx, .string dx, .string ⟨#[]⟩] 113) := ⟨_, rfl⟩
  have hw5 : Fr [] w5 W5 := by rw [hW5]; exact (Fr.refl _ _).alloc _
  have hc4 : w5.cell? ⟨sb, o + 1, none⟩ = some stv := by rw [HO.out]; exact HP.out.bl.c1
  have hc5 : W5.cell? ⟨sb, o + 1, none⟩ = some stv := by rw [HO.out]; exact (HP.out.bl.fr hw5 (by simp)).c1
  have HOW : Hid (W5.ownsRow 0 113 4 stv steps.length (steps.flatMap Stp.cells)) := (HP.out.sve.fr0 hw5).st
  have HN : Hid (∀ (j : Nat) (y : Value), ([ii 3, .string tx, .string dx, .string ⟨#[]⟩] : List Value)[j]? = some y → W5.cell? ((⟨w5.heap.size, 0, none⟩ : Addr).add j) = some y) := by
    intro j y hy
    rw [Addr.add_lit, Nat.zero_add, hW5, cell_of_heap (hp_new w5 _)]
    simpa using hy
  have HC8 : Hid (∀ w8, W5.grownBy w8 stv.ownBlock → w8.cell? ⟨sb, o + 1, none⟩ = some stv ∧ w8.frozen? ⟨sb, o + 1, none⟩ = false) := fun w8 hg => ⟨by rw [HO.out]; exact (HP.out.keeps hw5 hg).c1, (HP.out.keeps hw5 hg).fz _⟩
  rw [hW5] at HOW HN hc5
  have HW5 := (show Hid _ from hW5)
  clear hW5
  have hlt4 : sb < w5.heap.size := HP.out.bl.lt
  go_wp2_with (at_builtin; refine wpList_append_own_at _ rfl _ _ 34 rfl 0 113 inf (.agg #[ii 0, .string ⟨#[]⟩, .string ⟨#[]⟩, .string ⟨#[]⟩]) 4 56 Tryz.underlying34 hi0 hz0 hz1 hz2 rfl (by decide) stv steps.length (steps.flatMap Stp.cells) rfl HOW.out ⟨w5.heap.size, 0, none⟩ 1 1 [ii 3, .string tx, .string dx, .string ⟨#[]⟩] rfl rfl HN.out (by simp [Value.oneCell']) (by unfold maxLen; omega) (by omega) (Nat.zero_le _) ?_; intro v' w8 hown8 hgrow8 hnil8 hat8; rw [← HW5.out] at hgrow8 hat8; obtain ⟨hc8, hz8⟩ := HC8.out w8 hgrow8; obtain ⟨ao8, lc8, rfl⟩ := rows_slice hown8)
  have hfin := HP.out.note hw5 (sRen n m) (by rw [HSX.out]; exact hown8) hgrow8 hat8 hlt
  rw [← HO.out] at hfin
  exact bodyPost_end (v := .tuple #[]) (results_none rfl _ _ _) rfl ⟨rfl, _, _, _, hfin⟩
end Go.Proofs.YtapabahhfanmmaaGreatDoor
/- Files: one is written anew. -/
namespace Go.Proofs.YtapabahhfanmmaaGreatDoor
open Go.RowKit

/-- The name that no file has. -/
def otherOf (g : Gf) : Nm := if (g LOG1).isSome = true then LOG2 else LOG1
theorem cat1 : Value.string ((⟨LOG.toArray⟩ : ByteArray) ++ ⟨#[46]⟩ ++ ⟨[49].toArray⟩) = sv LOG1 := rfl
theorem cat2 : Value.string ((⟨LOG.toArray⟩ : ByteArray) ++ ⟨#[46]⟩ ++ ⟨[50].toArray⟩) = sv LOG2 := rfl

set_option maxRecDepth 100000 in
set_option maxHeartbeats 4000000 in
theorem unused_any (sb o : Nat) (mv : Value) (g : Gf) (w : World) (hc : w.cell? ⟨sb, o, none⟩ = some mv) (hm : MapO w mv (fun k => (g k).map fileV)) (hone : ∀ n, ∃ ao ln lc, fiv g n = .slice ao ln lc) (h2 : (g LOG1).isSome = true → g LOG2 = none) (hsb : sb < w.heap.size) :
    Calls Tryz.prog 85 #[.pointer (some ⟨sb, o, none⟩), sv LOG] w fun e w' => e = .returned (sv (otherOf g)) ∧ Fr [] w w' := by
  have HH : Hid (∀ (w' : World) (n : Nm), Fr [] w w' → Calls Tryz.prog 87 #[.pointer (some ⟨sb, o, none⟩), sv n] w' fun e w'' => e = .returned (.bool (g n).isSome) ∧ Fr [] w' w'') := fun w' n hf => has_any sb o mv g n w' ((hf.cell _ _ hsb (by simp)).trans hc) (hm.fr hf (by simp)) (hone n)
  obtain ⟨tx, htx⟩ : ∃ x : ByteArray, x = ⟨LOG.toArray⟩ := ⟨_, rfl⟩
  have c1 := cat1
  have c2 := cat2
  have hsz : tx.size = 3 := by rw [htx]; rfl
  rw [← htx] at c1 c2
  rw [sv, ← htx]
  clear htx hm hone hc
  go_enter Tryz.func85, Tryz.ntmps85
  go_wp2_with fail
  go_loopw [5] (fun i wr => (i = .int .i64 1 ∨ (i = .int .i64 2 ∧ (g LOG1).isSome = true)) ∧ Fr [] w wr) (fun i _ => 3 - (intOf i).toNat)
  case atStart => exact ⟨Or.inl rfl, Fr.refl _ _⟩
  case round =>
    obtain ⟨hi, hf⟩ := hrel
    rcases hi with rfl | ⟨rfl, h1⟩
    · go_wp2_with (go_at_call 127; refine Calls.mono (itoa_one _) ?_; rintro e w1 ⟨rfl, rfl⟩)
      have hh := HH.out wr LOG1 hf
      have HO1 : Hid (otherOf g = if (g LOG1).isSome = true then LOG2 else LOG1) := rfl
      obtain ⟨B, hB⟩ : ∃ B, B = (g LOG1).isSome := ⟨_, rfl⟩
      rw [← hB] at hh HO1
      obtain ⟨L1, hL1⟩ : ∃ L, L = LOG1 := ⟨_, rfl⟩
      rw [← hL1] at hh HO1 ⊢
      refine Calls.mono hh ?_
      rintro e w2 ⟨rfl, hf2⟩
      dsimp only
      have HB := (show Hid _ from hB)
      clear hB hL1 hh c1 c2 h2
      cases B
      · go_wp2_with fail
        go_ret
        exact ⟨by rw [HO1.out]; rfl, hf.then0 hf2⟩
      · go_wp2_with fail
        go_roundw
        case rel => exact ⟨Or.inr ⟨rfl, HB.out.symm⟩, hf.then0 hf2⟩
        case measure => simp [intOf]
    · go_wp2_with (go_at_call 127; refine Calls.mono (itoa_two _) ?_; rintro e w1 ⟨rfl, rfl⟩)
      have hh := HH.out wr LOG2 hf
      have HO1 : Hid (otherOf g = LOG2) := by show _ = _; unfold otherOf; rw [if_pos h1]
      rw [h2 h1] at hh
      obtain ⟨L1, hL1⟩ : ∃ L, L = LOG2 := ⟨_, rfl⟩
      rw [← hL1] at hh HO1 ⊢
      refine Calls.mono hh ?_
      rintro e w2 ⟨rfl, hf2⟩
      dsimp only
      clear hL1 hh c1 c2 h2 h1
      go_wp2_with fail
      go_ret
      exact ⟨by rw [HO1.out]; rfl, hf.then0 hf2⟩
theorem SPost.refl {w : World} {sb : Nat} {pre : List Value} {ty : TypeId} {E : Nm → Prop} {mv stv : Value} {S : List Nat} {g : Gf} {steps : List Stp} (hb : SB w sb pre ty mv stv) (hs : SVE E w mv stv S g steps) (hsb : sb ∉ S) : SPost w sb pre ty S E g steps w mv stv S := ⟨hb, hs, Fr.refl _ _, fun _ hb => Or.inl hb, hsb⟩
theorem SPost.then0 {w : World} {sb : Nat} {pre : List Value} {ty : TypeId} {S : List Nat} {E : Nm → Prop} {g : Gf} {steps : List Stp} {w1 w2 : World} {mv stv : Value} {S1 : List Nat} (h : SPost w sb pre ty S E g steps w1 mv stv S1) (hf : Fr [] w1 w2) : SPost w sb pre ty S E g steps w2 mv stv S1 :=
  ⟨h.bl.fr hf (by simp), h.sve.fr0 hf, h.fr.then0 hf, h.old, h.nsb⟩
theorem SPost.trans {w : World} {sb : Nat} {pre : List Value} {ty : TypeId} {S : List Nat} {E E' : Nm → Prop} {g g' : Gf} {steps steps' : List Stp} {w1 w2 : World} {mv stv mv' stv' : Value} {S1 S2 : List Nat} (h : SPost w sb pre ty S E g steps w1 mv stv S1) (k : SPost w1 sb pre ty S1 E' g' steps' w2 mv' stv' S2) : SPost w sb pre ty S E' g' steps' w2 mv' stv' S2 := by
  have hs := h.fr.size
  refine ⟨k.bl, k.sve, h.fr.trans k.fr (fun b hb => ?_), fun b hb => ?_, k.nsb⟩
  · rcases List.mem_cons.1 hb with rfl | hb
    · exact Or.inl (by simp)
    · rcases h.old b hb with h1 | h1
      · exact Or.inl (by simp [h1])
      · exact Or.inr h1
  · rcases k.old b hb with h1 | h1
    · exact h.old b h1
    · exact Or.inr (by omega)
/-- A store, as it can be gone on with. -/
theorem SVE.ones {w : World} {mv stv : Value} {S : List Nat} {g : Gf} {steps : List Stp} (h : SVE NoE w mv stv S g steps) (n : Nm) : ∃ ao ln lc, fiv g n = .slice ao ln lc := by
  obtain ⟨ao, lc, e⟩ := (h.fiv_own n (by simp)).slice
  exact ⟨_, _, _, e⟩
theorem ne_other (g : Gf) : LOG ≠ otherOf g := by
  unfold otherOf
  split <;> decide
theorem other_none {g : Gf} (h2 : (g LOG1).isSome = true → g LOG2 = none) : g (otherOf g) = none := by
  unfold otherOf
  split
  · rename_i h; exact h2 h
  · rename_i h; simpa using h

set_option maxRecDepth 100000 in
set_option maxHeartbeats 4000000 in
theorem replace_any (sb : Nat) (pre : List Value) (ty : TypeId) (mv stv : Value) (S : List Nat) (g : Gf) (steps : List Stp) (x : List UInt8) (w : World)
    (hb : SB w sb pre ty mv stv) (hs : SVE NoE w mv stv S g steps) (hsb : sb ∉ S) (h2 : (g LOG1).isSome = true → g LOG2 = none) (hl : steps.length ≤ 9999990) (hx : x.length ≤ 1000000000) :
    Calls Tryz.prog 46 #[.pointer (some ⟨sb, pre.length, none⟩), sv LOG, sv x] w fun e w' => e = .returned (.tuple #[]) ∧ ∃ v' mv' stv' S', SPost w sb pre ty S NoE (fun k => if k = otherOf g then none else if k = LOG then some (v', x) else g k) (steps ++ [sApp (otherOf g) x, sSync (otherOf g), sRen (otherOf g) LOG]) w' mv' stv' S' := by
  have hun := unused_any sb pre.length mv g w hb.c0 hs.map hs.ones h2 hb.lt
  have hg0 := other_none h2
  have hne := ne_other g
  obtain ⟨N, hN⟩ : ∃ N, N = otherOf g := ⟨_, rfl⟩
  rw [← hN] at hun hg0 hne ⊢
  have hfid : fid g N = [] := by unfold fid; rw [hg0]
  clear hN
  obtain ⟨L, hL⟩ : ∃ L, L = LOG := ⟨_, rfl⟩
  rw [← hL] at hun hne ⊢
  clear hL
  have HA : Hid (∀ w1, Fr [] w w1 → Calls Tryz.prog 43 #[.pointer (some ⟨sb, pre.length, none⟩), sv N, sv x] w1 fun e w' => e = .returned (.tuple #[]) ∧ ∃ v' mv' stv' S', SPost w1 sb pre ty S NoE (fun k => if k = N then some (v', fid g N ++ x) else g k) (steps ++ [sApp N x]) w' mv' stv' S') := fun w1 hf => appendS_any sb pre ty NoE mv stv S g steps N x w1 (hb.fr hf (by simp)) (hs.fr0 hf) hsb (by simp) (by omega) (by rw [hfid]; simpa using hx)
  have HR := (show Hid _ from SPost.refl hb hs hsb)
  clear hb hs
  go_enter Tryz.func46, Tryz.ntmps46
  go_wp2_with fail
  refine Calls.mono hun ?_
  rintro e w1 ⟨rfl, hf1⟩
  dsimp only
  clear hun
  go_wp2_with fail
  refine Calls.mono (HA.out w1 hf1) ?_
  rintro e w2 ⟨rfl, v2, mv2, stv2, S2, hp2⟩
  dsimp only
  have hP2 := (HR.out.then0 hf1).trans hp2
  rw [hfid, List.nil_append] at hP2
  have hsy := syncS_any sb pre ty NoE mv2 stv2 S2 _ _ N w2 hP2.bl hP2.sve hP2.nsb (by rw [List.length_append]; simp; omega)
  have HP2 := (show Hid _ from hP2)
  clear hp2 hP2 HA HR
  go_wp2_with fail
  refine Calls.mono hsy ?_
  rintro e w3 ⟨rfl, stv3, S3, hp3⟩
  dsimp only
  have hP3 := HP2.out.trans hp3
  have hrn := rename_any sb pre ty mv2 stv3 S3 _ _ N L w3 hP3.bl hP3.sve hP3.nsb (by rw [List.length_append, List.length_append]; simp; omega)
  have HP3 := (show Hid _ from hP3)
  clear hp3 hP3 hsy HP2
  go_wp2_with fail
  refine Calls.mono hrn ?_
  rintro e w4 ⟨rfl, mv4, stv4, S4, hp4⟩
  dsimp only
  have hP4 := HP3.out.trans hp4
  have HP4 := (show Hid _ from hP4)
  clear hp4 hP4 hrn HP3
  go_wp2_with fail
  refine bodyPost_end (v := .tuple #[]) (results_none rfl _ _ _) rfl ⟨rfl, v2, mv4, stv4, S4, ?_⟩
  have h := HP4.out
  have e1 : steps ++ [sApp N x] ++ [sSync N] ++ [sRen N L] = steps ++ [sApp N x, sSync N, sRen N L] := by simp
  rw [e1] at h
  have e2 : (fun k => if k = N then none else if k = L then some (fiv (fun k => if k = N then some (v2, x) else g k) N, fid (fun k => if k = N then some (v2, x) else g k) N) else if k = N then some (v2, x) else g k) = (fun k => if k = N then none else if k = L then some (v2, x) else g k) := by
    funext k
    by_cases e : k = N
    · simp [e]
    · simp [e, fiv, fid]
  rw [e2] at h
  exact h
end Go.Proofs.YtapabahhfanmmaaGreatDoor
/- Steps are told. -/
namespace Go.Proofs.YtapabahhfanmmaaGreatDoor
open Go.RowKit

theorem sflat_len (l : List Stp) : (l.flatMap Stp.cells).length = l.length * 4 := by
  induction l with
  | nil => rfl
  | cons a l ih => rw [List.flatMap_cons, List.length_append, ih]; simp; omega
theorem sflat_one (l : List Stp) : ∀ v ∈ l.flatMap Stp.cells, v.oneCell' = true := by
  intro v hv
  obtain ⟨u, _, hu⟩ := List.mem_flatMap.1 hv
  simp at hu
  rcases hu with rfl | rfl | rfl | rfl <;> rfl

set_option maxRecDepth 100000 in
set_option maxHeartbeats 1000000 in
theorem stepClone_any (v : Value) (l : List Stp) (w : World) (hown : w.ownsRow 0 113 4 v l.length (l.flatMap Stp.cells)) (hlen : l.length ≤ 10000000) (hne : 0 < l.length) :
    Calls Tryz.prog 78 #[v] w fun e w' => ∃ v', e = .returned v' ∧ w'.ownsRow w.heap.size 113 4 v' l.length (l.flatMap Stp.cells) ∧ Fr [] w w' := by
  obtain ⟨inf, hi, hz0, hz1, hz2⟩ := info_parts infoSt
  obtain ⟨pb, cap, cur, rfl, _, hh, hlc, hcm, hs, ht⟩ : ∃ g cap cur, v = .slice (some ⟨g, 0, none⟩) l.length cap ∧ 0 ≤ g ∧ w.heap[g]? = some (.cells cur 113) ∧ l.length ≤ cap ∧ cap ≤ maxLen ∧ cur.size = cap * 4 ∧ cur.toList.take (l.length * 4) = l.flatMap Stp.cells := by
    rcases hown.2 with ⟨_, h0⟩ | ⟨g, cap, cur, h1, h2, h3, h4, h5, h6, h7⟩
    · omega
    · exact ⟨g, cap, cur, h1, h2, h3, h4, h5, h6, h7⟩
  have hnil : ∀ w0 : World, (binOp BinOp.eql 34 (.slice (some ⟨pb, 0, none⟩) l.length cap) (.slice none 0 0)).run Tryz.prog w0 = .ok (.bool false) w0 := fun w0 => by kernel_rfl
  have hnews : ∀ (W : World), W.heap[pb]? = w.heap[pb]? → ∀ j u, (l.flatMap Stp.cells)[j]? = some u → W.cell? ((⟨pb, 0, none⟩ : Addr).add j) = some u := by
    intro W hW j u hu
    have hj : j < l.length * 4 := by rw [← sflat_len l]; exact (List.getElem?_eq_some_iff.1 hu).1
    rw [Addr.add_lit, Nat.zero_add, cell_of_heap (hW.trans hh)]
    rw [← ht, List.getElem?_take_of_lt hj] at hu
    simpa using hu
  have HN := (show Hid _ from hnews)
  have hpl := lt_of_heap hh
  clear hnews hh hs ht hown
  have hown0 : (w.alloc (.cells #[] 113)).ownsRow w.heap.size 113 4 (.slice (some ⟨w.heap.size, 0, none⟩) 0 0) 0 [] := ⟨rfl, Or.inr ⟨_, 0, #[], rfl, Nat.le_refl _, hp_new _ _, Nat.le_refl _, by decide, rfl, rfl⟩⟩
  go_enter Tryz.func78, Tryz.ntmps78
  go_wp2_with (at_builtin; refine wpList_append_own _ rfl _ _ 34 rfl w.heap.size 113 inf (.agg #[ii 0, .string ⟨#[]⟩, .string ⟨#[]⟩, .string ⟨#[]⟩]) 4 56 Tryz.underlying34 hi hz0 hz1 hz2 rfl (by decide) (.slice (some ⟨w.heap.size, 0, none⟩) 0 0) 0 [] rfl hown0 ⟨pb, 0, none⟩ l.length cap (l.flatMap Stp.cells) rfl (sflat_len l) (HN.out _ (hp_old _ _ _ hpl)) (sflat_one l) (by unfold maxLen; omega) (by omega) (by simp) ?_; intro v' w2 hown2 hgrow hnil2)
  go_ret
  simp only [Nat.zero_add, List.nil_append] at hown2
  exact ⟨v', rfl, hown2, fr_grown ((Fr.refl [] w).alloc _) hgrow (fun k hk => Or.inr (by simp [Value.ownBlock] at hk; omega))⟩

set_option maxRecDepth 100000 in
set_option maxHeartbeats 1000000 in
theorem storeSteps_any (sb : Nat) (pre : List Value) (ty : TypeId) (mv stv : Value) (l : List Stp) (w : World) (hb : SB w sb pre ty mv stv) (hown : w.ownsRow 0 113 4 stv l.length (l.flatMap Stp.cells)) (hlen : l.length ≤ 10000000) (hne : 0 < l.length) :
    Calls Tryz.prog 37 #[.pointer (some ⟨sb, pre.length, none⟩)] w fun e w' => ∃ v', e = .returned v' ∧ w'.ownsRow w.heap.size 113 4 v' l.length (l.flatMap Stp.cells) ∧ Fr [] w w' := by
  have hc := hb.c1
  have hk := stepClone_any stv l w hown hlen hne
  obtain ⟨o, ho⟩ : ∃ o, o = pre.length := ⟨_, rfl⟩
  rw [← ho] at hc ⊢
  clear ho hown hb
  go_enter Tryz.func37, Tryz.ntmps37
  go_wp2_with fail
  refine Calls.mono hk ?_
  rintro e w1 ⟨v', rfl, ho', hf'⟩
  dsimp only
  go_wp2_with fail
  go_ret
  exact ⟨v', rfl, ho', hf'⟩
end Go.Proofs.YtapabahhfanmmaaGreatDoor
/- Files that came in are held. -/
namespace Go.Proofs.YtapabahhfanmmaaGreatDoor
open Go.RowKit

abbrev Pf := List UInt8 × List UInt8
def FilesV (w : World) (v : Value) (l : List Pf) : Prop := (∃ ao lc, v = .slice ao 0 lc ∧ l = []) ∨ ∃ lb lo lc, v = .slice (some ⟨lb, lo, none⟩) l.length lc ∧ lb < w.heap.size ∧ ∀ i p, l[i]? = some p → w.cell? ⟨lb, lo + i * 2, none⟩ = some (sv p.1) ∧ w.cell? ⟨lb, lo + i * 2 + 1, none⟩ = some (sv p.2)
theorem FilesV.fr {S : List Nat} {w w' : World} {v : Value} {l : List Pf} (h : FilesV w v l) (hf : Fr S w w') (hs : ∀ b ∈ S, w.heap.size ≤ b) : FilesV w' v l := by
  rcases h with h | ⟨lb, lo, lc, h1, h2, h3⟩
  · exact Or.inl h
  · have hn : lb ∉ S := fun e => by have := hs lb e; omega
    exact Or.inr ⟨lb, lo, lc, h1, Nat.lt_of_lt_of_le h2 hf.size, fun i p hi => ⟨(hf.cell _ _ h2 hn).trans (h3 i p hi).1, (hf.cell _ _ h2 hn).trans (h3 i p hi).2⟩⟩
def lookF (l : List Pf) (n : Nm) : Option (List UInt8) := (l.find? (fun p => p.1 == n)).map (·.2)
theorem lookF_none {l : List Pf} {k : Nat} {p : Pf} (hd : (l.map (·.1)).Nodup) (h : l[k]? = some p) : lookF (l.take k) p.1 = none := by
  unfold lookF
  rw [Option.map_eq_none_iff, List.find?_eq_none]
  intro q hq
  simp only [beq_iff_eq]
  intro e
  obtain ⟨j, hj⟩ := List.getElem?_of_mem hq
  have hjk : j < k := by
    have := (List.getElem?_eq_some_iff.1 hj).1
    rw [List.length_take] at this
    omega
  rw [List.getElem?_take_of_lt hjk] at hj
  obtain ⟨h1, e1⟩ := List.getElem?_eq_some_iff.1 hj
  obtain ⟨h2, e2⟩ := List.getElem?_eq_some_iff.1 h
  have := List.pairwise_iff_getElem.1 hd j k (by simpa using h1) (by simpa using h2) hjk
  rw [List.getElem_map, List.getElem_map, e1, e2] at this
  exact this e
theorem lookF_succ {l : List Pf} {k : Nat} {p : Pf} (hd : (l.map (·.1)).Nodup) (h : l[k]? = some p) (n : Nm) : lookF (l.take (k + 1)) n = if n = p.1 then some p.2 else lookF (l.take k) n := by
  obtain ⟨hl, e⟩ := List.getElem?_eq_some_iff.1 h
  have h0 := lookF_none hd h
  unfold lookF at h0 ⊢
  rw [List.take_succ_eq_append_getElem hl, e, List.find?_append]
  by_cases hn : n = p.1
  · subst hn
    rw [if_pos rfl]
    rw [Option.map_eq_none_iff] at h0
    rw [h0]
    simp
  · rw [if_neg hn]
    have : ([p] : List Pf).find? (fun q => q.1 == n) = none := by simp; exact fun e => hn e.symm
    rw [this, Option.or_none]
/-- '[]byte(s)', in whatever world. -/
theorem conv_is (l : List UInt8) (hl : l.length ≤ 1000000000) : ∃ (BW : World → World) (CB : World → Nat), (∀ W, (convert 9 168 (.string ⟨l.toArray⟩)).run Tryz.prog W = .ok (.slice (some ⟨W.heap.size, 0, none⟩) l.length (CB W)) (BW W)) ∧ (∀ W, ownM (BW W) W.heap.size (.slice (some ⟨W.heap.size, 0, none⟩) l.length (CB W)) l) ∧ ∀ W, Fr [] W (BW W) := by
  have key : ∀ W : World, ∃ (c : Nat) (W' : World), (convert 9 168 (.string ⟨l.toArray⟩)).run Tryz.prog W = .ok (.slice (some ⟨W.heap.size, 0, none⟩) l.length c) W' ∧ ownM W' W.heap.size (.slice (some ⟨W.heap.size, 0, none⟩) l.length c) l ∧ Fr [] W W' := fun W => by
    obtain ⟨v, W', h1, h2, h3, h4⟩ := conv_own l W hl
    obtain ⟨c, rfl⟩ : ∃ c, v = .slice (some ⟨W.heap.size, 0, none⟩) l.length c := by
      rcases h2 with ⟨rfl, _⟩ | ⟨g, cap, rfl, _⟩
      · simp [Value.ownBlock] at h3
      · simp [Value.ownBlock] at h3
        subst h3
        exact ⟨_, rfl⟩
    exact ⟨c, W', h1, h2, h4⟩
  exact ⟨fun W => Classical.choose (Classical.choose_spec (key W)), fun W => Classical.choose (key W), fun W => (Classical.choose_spec (Classical.choose_spec (key W))).1, fun W => (Classical.choose_spec (Classical.choose_spec (key W))).2.1, fun W => (Classical.choose_spec (Classical.choose_spec (key W))).2.2⟩
theorem SVE.empty (w : World) : SVE NoE w (.map none) (.slice none 0 0) [] (fun _ => none) [] := by
  refine ⟨Or.inl ⟨rfl, fun _ => rfl⟩, fun k p _ h => ?_, fun k p b _ h => ?_, fun b hb => ?_, ⟨rfl, Or.inl ⟨rfl, rfl⟩⟩, fun b hb => ?_, by simp⟩
  · simp at h
  · simp at h
  · simp [mapBlock] at hb
  · simp [Value.ownBlock] at hb
structure OfI (w : World) (sb : Nat) (l : List Pf) (k : Nat) (wr : World) : Prop where
  ex : ∃ mv S g, SB wr sb [] 95 mv (.slice none 0 0) ∧ SVE NoE wr mv (.slice none 0 0) S g [] ∧ (∀ n, (g n).map (·.2) = lookF (l.take k) n) ∧ (∀ b ∈ S, w.heap.size + 2 ≤ b) ∧ sb ∉ S
  fr : Fr [] w wr

set_option maxRecDepth 100000 in
set_option maxHeartbeats 4000000 in
theorem storeOf_any (v : Value) (l : List Pf) (w : World) (hv : FilesV w v l) (hd : (l.map (·.1)).Nodup) (hl : ∀ p ∈ l, p.1.length ≤ 1000000000 ∧ p.2.length ≤ 1000000000) (hll : l.length ≤ 1000000000) :
    Calls Tryz.prog 47 #[v] w fun e w' => ∃ mv S g, e = .returned (.tuple #[.agg #[mv, .slice none 0 0], .bool true]) ∧ SVE NoE w' mv (.slice none 0 0) S g [] ∧ (∀ n, (g n).map (·.2) = lookF l n) ∧ (∀ b ∈ S, w.heap.size ≤ b) ∧ Fr [] w w' := by
  obtain ⟨a1, lc, rfl⟩ : ∃ a1 lc, v = .slice a1 l.length lc := by
    rcases hv with ⟨ao, lc, rfl, rfl⟩ | ⟨lb, lo, lc, rfl, _⟩
    · exact ⟨_, _, rfl⟩
    · exact ⟨_, _, rfl⟩
  have HV := (show Hid _ from hv)
  clear hv
  go_enter Tryz.func47, Tryz.ntmps47
  go_wp2_with fail
  obtain ⟨W1, hW1⟩ : ∃ W, W = (w.alloc (.cells #[.map none, .slice none 0 0] 95)).alloc (.cells #[.map none, .slice none 0 0] 95) := ⟨_, rfl⟩
  rw [← hW1]
  have hw1 : Fr [] w W1 := by rw [hW1]; exact ((Fr.refl _ _).alloc _).alloc _
  have hA1 : W1.heap[w.heap.size]? = some (.cells #[.map none, .slice none 0 0] 95) := by rw [hW1]; exact hp_old2 _ _ _
  have hB1 : SB W1 (w.heap.size + 1) [] 95 (.map none) (.slice none 0 0) := by show W1.heap[w.heap.size + 1]? = _; rw [hW1]; exact hp_new2 _ _ _
  have hO1 : OfI w (w.heap.size + 1) l 0 W1 := ⟨⟨.map none, [], fun _ => none, hB1, SVE.empty W1, fun n => rfl, by simp, by simp⟩, hw1⟩
  have HO1 := (show Hid _ from hO1)
  clear hB1 hO1 hW1
  go_loopw [9] (fun i wr => ∃ k : Nat, k ≤ l.length ∧ i = .int .i64 k ∧ OfI w (w.heap.size + 1) l k wr ∧ wr.heap[w.heap.size]? = some (.cells #[.map none, .slice none 0 0] 95)) (fun i _ => l.length - (intOf i).toNat)
  case atStart => exact ⟨0, Nat.zero_le _, rfl, HO1.out, hA1⟩
  case round =>
    obtain ⟨k, hk, rfl, hI, hA⟩ := hrel
    clear HO1
    by_cases hlt : k < l.length
    · have hlti : (k : Int) < (l.length : Int) := by omega
      obtain ⟨p, hp⟩ : ∃ p, l[k]? = some p := ⟨l[k], List.getElem?_eq_getElem hlt⟩
      obtain ⟨lb, lo, rfl, hc0, hc1⟩ : ∃ lb lo, a1 = some ⟨lb, lo, none⟩ ∧ wr.cell? ⟨lb, lo + k * 2, none⟩ = some (sv p.1) ∧ wr.cell? ⟨lb, lo + k * 2 + 1, none⟩ = some (sv p.2) := by
        have hv : FilesV w (.slice a1 l.length lc) l := HV.out
        rcases (hv.fr hI.fr (by simp)) with ⟨ao, lc', e1, e2⟩ | ⟨lb, lo, lc', e1, h1, h2⟩
        · rw [e2] at hlt; simp at hlt
        · exact ⟨lb, lo, by simpa using congrArg (fun v : Value => match v with | .slice a _ _ => a | _ => none) e1, h2 k p hp⟩
      obtain ⟨mv, S, g, hb, hs, hg, hS, hsb⟩ := hI.ex
      have hpl := hl p (List.mem_of_getElem? hp)
      have hgn : g p.1 = none := by
        have := hg p.1
        rw [lookF_none hd hp] at this
        simpa using this
      have hbc := hb.c0
      have hfr := hI.fr
      have hblt := hb.lt
      obtain ⟨tx, htx⟩ : ∃ x : ByteArray, x = ⟨p.1.toArray⟩ := ⟨_, rfl⟩
      obtain ⟨dx, hdx⟩ : ∃ x : ByteArray, x = ⟨p.2.toArray⟩ := ⟨_, rfl⟩
      rw [sv, ← htx] at hc0
      rw [sv, ← hdx] at hc1
      obtain ⟨W2, hW2⟩ : ∃ W, W = wr.alloc (.cells #[.string tx, .string dx] 115) := ⟨_, rfl⟩
      have hw2 : Fr [] wr W2 := by rw [hW2]; exact (Fr.refl _ _).alloc _
      have hF2 : W2.heap[wr.heap.size]? = some (.cells #[.string tx, .string dx] 115) := by rw [hW2]; exact hp_new _ _
      have f0 : W2.cell? ⟨wr.heap.size, 0, none⟩ = some (.string tx) := cell_of_heap hF2
      have f1 : W2.cell? ⟨wr.heap.size, 1, none⟩ = some (.string dx) := cell_of_heap hF2
      have hhas := has_any (w.heap.size + 1) 0 mv g p.1 W2 (hb.fr hw2 (by simp)).c0 (hs.fr0 hw2).map (hs.ones p.1)
      rw [hgn, sv, ← htx] at hhas
      have HCL : Hid (∀ W, Calls Tryz.prog 88 #[.string tx] W fun e w' => e = .returned (.string tx) ∧ Fr [] W w') := fun W => by rw [htx]; exact strClone_any p.1 W hpl.1
      obtain ⟨BW, CB, hcv, hco, hcf⟩ := conv_is p.2 hpl.2
      rw [← hdx] at hcv
      have HPUT : Hid (∀ W W', Fr [] W2 W → Fr [] (BW W) W' → Calls Tryz.prog 82 #[.pointer (some ⟨w.heap.size + 1, 0, none⟩), .string tx, .agg #[.slice (some ⟨W.heap.size, 0, none⟩) p.2.length (CB W)]] W' fun e w' => e = .returned (.tuple #[]) ∧ OfI w (w.heap.size + 1) l (k + 1) w' ∧ w'.heap[w.heap.size]? = some (.cells #[.map none, .slice none 0 0] 95) ∧ w'.heap[wr.heap.size]? = some (.cells #[.string tx, .string dx] 115)) := fun W W' h0 h2 => by
        have h1 : Fr [] wr W := hw2.then0 h0
        have h3 : Fr [] wr W' := (h1.then0 (hcf W)).then0 h2
        have hszW := h0.size
        have hltW : wr.heap.size < W2.heap.size := lt_of_heap hF2
        have ho := (hco W).fr h2 (by simp)
        have hsz1 := h1.size
        have hsz2 := hfr.size
        have hsv := (hs.fr0 h3).mono (S' := W.heap.size :: S) (fun b hb => by simp [hb]) (fun b hb => by
          rcases List.mem_cons.1 hb with rfl | hb
          · exact (ho.base (b := W.heap.size) rfl).2
          · exact (hs.fr0 h3).lt b hb)
        have hns : w.heap.size + 1 ∉ W.heap.size :: S := fun e => by
          rcases List.mem_cons.1 e with e | e
          · omega
          · exact hsb e
        have hput := put_any (w.heap.size + 1) [] 95 NoE mv (.slice none 0 0) (W.heap.size :: S) g [] p.1 _ p.2 W' (hb.fr h3 (by simp)) hsv hns (ho.weak (Nat.zero_le _)) (fun b hb' => by
          have hbe : W.heap.size = b := by simpa [Value.ownBlock] using hb'
          subst hbe
          refine ⟨by simp, fun e => ?_, by simp [Value.ownBlock], fun k' p' _ hg' hpb => ?_⟩
          · have := hs.lt _ (hs.mb _ e).1; omega
          · have := hs.lt _ (hs.blk k' p' _ (by simp) hg' hpb).1; omega)
        rw [sv, ← htx] at hput
        refine Calls.mono hput ?_
        rintro e w' ⟨rfl, mv', S', hp'⟩
        refine ⟨rfl, ⟨⟨mv', S', _, hp'.bl, hp'.sve.weak (fun _ h => h.1), fun n => ?_, fun b hb' => ?_, hp'.nsb⟩, ?_⟩, ?_, hp'.fr.heap (((h0.then0 (hcf W)).then0 h2).heap0 hF2) (fun e => ?_)⟩
        · rw [lookF_succ hd hp n, ← hg n]
          by_cases e : n = p.1 <;> simp [e]
        · rcases hp'.old b hb' with h4 | h4
          · rcases List.mem_cons.1 h4 with rfl | h4
            · omega
            · exact hS b h4
          · have := h3.size; omega
        · exact (hfr.then0 h3).trans hp'.fr (fun b hb' => by
            rcases List.mem_cons.1 hb' with rfl | hb'
            · exact Or.inr (by omega)
            · rcases List.mem_cons.1 hb' with rfl | hb'
              · exact Or.inr (by omega)
              · exact Or.inr (by have := hS b hb'; omega))
        · refine hp'.fr.heap (h3.heap0 hA) (fun e => ?_)
          rcases List.mem_cons.1 e with e | e
          · omega
          · rcases List.mem_cons.1 e with e | e
            · omega
            · have := hS _ e
              omega
        · rcases List.mem_cons.1 e with e | e
          · omega
          · rcases List.mem_cons.1 e with e | e
            · omega
            · have := hs.lt _ e
              omega
      clear htx hdx hb hs hg hS hsb hgn hco hI hbc hp
      rw [hW2] at f0 f1 hhas
      have HW2 := (show Hid _ from hW2)
      have HHA := (show Hid _ from hhas)
      have HCV := (show Hid _ from hcv)
      clear hW2 hhas hcv
      go_wp2_with fail
      refine Calls.mono HHA.out ?_
      rintro e w3 ⟨rfl, hf3⟩
      dsimp only
      rw [← HW2.out] at hf3
      have hF3 := hf3.heap0 hF2
      have hd3 : Fr [] W2 w3.drew := hf3.drew
      have HJ : ∀ w', w'.heap[wr.heap.size]? = some (.cells #[.string tx, .string dx] 115) → (fun w' : World => w'.cell? ⟨wr.heap.size, 0, none⟩ = some (.string tx) ∧ w'.cell? ⟨wr.heap.size, 1, none⟩ = some (.string dx)) w' := fun w' h => ⟨cell_of_heap h, cell_of_heap h⟩
      have K0 := HJ w3.drew hF3
      have HBJ : ∀ W, W.heap[wr.heap.size]? = some (.cells #[.string tx, .string dx] 115) → (BW W).heap[wr.heap.size]? = some (.cells #[.string tx, .string dx] 115) := fun W h => (hcf W).heap0 h
      have K1 := HJ (BW w3.drew) (HBJ _ hF3)
      have HP2 : Hid (∀ W', Fr [] (BW w3.drew) W' → Calls Tryz.prog 82 #[.pointer (some ⟨w.heap.size + 1, 0, none⟩), .string tx, .agg #[.slice (some ⟨w3.heap.size, 0, none⟩) p.2.length (CB w3.drew)]] W' fun e w' => e = .returned (.tuple #[]) ∧ OfI w (w.heap.size + 1) l (k + 1) w' ∧ w'.heap[w.heap.size]? = some (.cells #[.map none, .slice none 0 0] 95) ∧ w'.heap[wr.heap.size]? = some (.cells #[.string tx, .string dx] 115)) := fun W' h => HPUT.out w3.drew W' hd3 h
      have hcv := HCV.out
      clear f0 f1 HHA HCV hc0 hc1 HW2
      go_wp2_with fail
      go_region_held (fun w' : World => w'.cell? ⟨wr.heap.size, 0, none⟩ = some (.string tx) ∧ w'.cell? ⟨wr.heap.size, 1, none⟩ = some (.string dx))
        (first | with_reducible exact K0 | with_reducible exact K1 | with_reducible exact K5 | with_reducible exact K6 | with_reducible exact K7)
        (first
          | (go_at_call 88; refine Calls.mono (HCL.out _) ?_; rintro e w5 ⟨rfl, hf5⟩; have hF5 : w5.heap[wr.heap.size]? = some (.cells #[.string tx, .string dx] 115) := (by first | exact hf5.heap0 (show w3.drew.heap[wr.heap.size]? = _ from hF3) | exact hf5.heap0 (HBJ _ (show w3.drew.heap[wr.heap.size]? = _ from hF3))); have K5 := HJ w5 hF5; have K6 := HJ (BW w5) (HBJ w5 hF5))
          | (go_at_call 82; first | (with_reducible refine Calls.mono (HPUT.out _ _ (hd3.then0 hf5) (Fr.refl _ _)) ?_; rintro e w7 ⟨rfl, hO7, hA7, hF7⟩; have K7 := HJ w7 hF7) | (with_reducible refine Calls.mono (HP2.out _ hf5) ?_; rintro e w7 ⟨rfl, hO7, hA7, hF7⟩; have K7 := HJ w7 hF7)))
      all_goals
        clear hcv
        go_wp2_with fail
        go_roundw
        case rel => exact ⟨k + 1, hlt, by go_num, hO7, hA7⟩
        case measure => simp [intOf]; omega
    · have hlti : ¬ (k : Int) < (l.length : Int) := by omega
      have hke : k = l.length := by omega
      obtain ⟨mv, S, g, hb, hs, hg, hS, hsb⟩ := hI.ex
      obtain ⟨rr, rfl⟩ : ∃ rr, mv = .map rr := by
        rcases hs.map with ⟨rfl, _⟩ | ⟨r, rfl, _⟩
        · exact ⟨_, rfl⟩
        · exact ⟨_, rfl⟩
      have c0 : wr.cell? ⟨w.heap.size + 1, 0, none⟩ = some (.map rr) := hb.c0
      have c1 : wr.cell? ⟨w.heap.size + 1, 1, none⟩ = some (.slice none 0 0) := hb.c1
      have a0 : wr.cell? ⟨w.heap.size, 0, none⟩ = some (.map none) := cell_of_heap hA
      have a1' : wr.cell? ⟨w.heap.size, 1, none⟩ = some (.slice none 0 0) := cell_of_heap hA
      have z0 : wr.frozen? ⟨w.heap.size, 0, none⟩ = false := frozen_of_heap hA
      have z1 : wr.frozen? ⟨w.heap.size, 1, none⟩ = false := frozen_of_heap hA
      have HFR : Hid (Fr [] w wr) := hI.fr
      have HS := (show Hid _ from hs)
      have HG : Hid (∀ n, (g n).map (·.2) = lookF l n) := fun n => by have := hg n; rwa [hke, List.take_length] at this
      have HSS := (show Hid _ from hS)
      clear hI hb hs hg hS hsb
      go_wp2_with fail
      have hfs : Fr [w.heap.size] wr ((wr.setCell ⟨w.heap.size, 0, none⟩ (.map rr)).setCell ⟨w.heap.size, 1, none⟩ (.slice none 0 0)) := ((Fr.refl _ _).setCell _ _ (Or.inl (by simp))).setCell _ _ (Or.inl (by simp))
      have hh : ((wr.setCell ⟨w.heap.size, 0, none⟩ (.map rr)).setCell ⟨w.heap.size, 1, none⟩ (.slice none 0 0)).heap[w.heap.size]? = some (.cells #[.map rr, .slice none 0 0] 95) := by
        rw [setCell_heap (setCell_heap hA _)]
        rfl
      refine bodyPost_ret (v := .tuple #[.agg #[.map rr, .slice none 0 0], .bool true]) (results_cell_tmp Tryz.results47 _ _ w.heap.size 95 #[.map rr, .slice none 0 0] (0, 0) _ _ rfl rfl hh Tryz.underlying95 rfl (by kernel_rfl)) rfl ⟨_, rfl, _, _, HS.out.fr hfs (fun b hb e => ?_), HG.out, fun b hb => ?_, HFR.out.trans hfs (by simp)⟩
      · have := HSS.out b hb
        have : b = w.heap.size := by simpa using e
        omega
      · have := HSS.out b hb
        omega
end Go.Proofs.YtapabahhfanmmaaGreatDoor
