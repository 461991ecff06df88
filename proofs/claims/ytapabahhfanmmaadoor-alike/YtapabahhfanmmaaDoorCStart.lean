import Derived.Test.YtapabahhfanmmaaDoorCNew
/- A game is begun. -/
namespace Go.Proofs.YtapabahhfanmmaaDoor
open Go.RowKit

theorem skF : fieldsOf Tryd.prog 66 = some [(0, 149)] := by kernel_rfl
theorem skZ : zerosOf Tryd.prog 66 = some (some 149) := by kernel_rfl
theorem built_sk (gs : Array Value) (hg : gs.size = 149) : Tryd.prog.built 66 [(0, .agg gs)] = some gs := by
  refine built_is _ _ _ skF skZ _ _ (fun z hz => ?_)
  rw [fill_cons _ _ _ _ _ 0 149 rfl (by exact hg) (by omega)]
  have e : z.toList.drop (0 + 149) = [] := List.drop_of_length_le (by simp [hz])
  rw [e]
  show some (([] ++ gs.toList ++ []).toArray) = some gs
  simp
theorem wpList_build1 {ops : Array Oper} {rest : List Oper} {o : Oper} {a : Act} {w : World} {Q : Exit → Act → World → Prop} (hg : o.guard = none) (t : TypeId) (i1 : Nat) (x1 : Operand) (ho : o.op = .build t #[(i1, x1)])
    (v1 : Value) (h1 : a.eval x1 = v1) (cells : Array Value)
    (hc : Tryd.prog.built t [(i1, v1)] = some cells) (h : wpList Tryd.prog ops Q rest (a.put o.dst (.agg cells)) w) : wpList Tryd.prog ops Q (o :: rest) a w :=
  wpList_plain hg fun _ hK => by
    have hc' : Tryd.prog.built t ((#[(i1, x1)] : Array (Nat × Operand)).map fun (i, x) => (i, a.eval x)).toList = some cells := by
      simp [h1, hc]
    unfold Oper.wp execOp
    simp only [ho, Sem.run_bind, run_build w t _ cells hc', Result.andThen_ok]
    exact hK _ _ h

set_option maxRecDepth 100000 in
set_option maxHeartbeats 1000000 in
theorem new_any (cs : List Int) (w : World) (hw : 0 < w.heap.size) :
    Calls Tryd.prog 19 #[.string ⟨(textTo cs 144).toArray⟩] w fun e w' => ∃ gb pb cap, e = .returned (.tuple #[.pointer (some ⟨gb, 0, none⟩), .int .i64 0]) ∧ GS w' gb pb cap (startT cs) ∧ w.heap.size ≤ gb ∧ w.heap.size ≤ pb ∧ Fr [] w w' := by
  have hnew := rulesNew_any cs
  obtain ⟨L, hL⟩ : ∃ L, L = textTo cs 144 := ⟨_, rfl⟩
  rw [← hL]
  simp only [← hL] at hnew
  clear hL
  have HNEW := (show Hid _ from hnew)
  clear hnew
  go_enter Tryd.func19, Tryd.ntmps19
  go_wp2_with fail
  refine Calls.mono (HNEW.out _) ?_
  rintro e w1 ⟨pb, cap, rfl, hrow, hpb, hf1⟩
  dsimp only
  obtain ⟨gl, hgl⟩ : ∃ x, x = gameL (startT cs) (.slice (some ⟨pb, 0, none⟩) 2 cap) := ⟨_, rfl⟩
  rw [← hgl]
  have hll : gl.length = 149 := by rw [hgl]; exact gameL_len _ _
  have HO : Hid (gl.toArray.all (·.oneCell') = true) := by
    show _ = _
    rw [hgl]; exact gameL_one _ _ _ _
  have HGE := (show Hid _ from hgl)
  have HL2 : Hid ((Tryd.prog.info? 64).map (·.size) = some gl.toArray.size) := by
    show _ = _
    rw [infoGame, List.size_toArray, hll]
  have HL3 : Hid (Tryd.zeroCells64.size = gl.toArray.size) := by
    show _ = _
    exact zcGame.trans (by simp [hll])
  have HBS : Hid (Tryd.prog.built 66 [(0, .agg gl.toArray)] = some gl.toArray) := built_sk _ (by simp [hll])
  have HH : Hid (((w1.alloc (.cells Tryd.zeroCells64 64)).setRow w1.heap.size gl.toArray).heap[w1.heap.size]? = some (.cells gl.toArray 64)) := setRow_heap _ _ _ _ _ _ (hp_new _ _)
  clear hgl hll HNEW
  go_wp2_with (first | (refine wpList_store_row rfl 64 _ _ rfl w1.heap.size gl.toArray rfl rfl 64 Tryd.zeroCells64 (hp_new w1 _) HL2.out HL3.out HO.out ?_) | (refine wpList_load_row rfl 64 _ rfl w1.heap.size rfl 64 gl.toArray (0, 0) _ HH.out Tryd.underlying64 rfl HL2.out ?_) | (refine wpList_build1 rfl 66 0 (.tmp 13) rfl (.agg gl.toArray) rfl gl.toArray HBS.out ?_))
  have hs1 := hf1.size
  have hF : Fr [] w (((w1.alloc (.cells Tryd.zeroCells64 64)).setRow w1.heap.size gl.toArray).alloc (.cells gl.toArray 66)) := ((hf1.alloc _).setRow _ _ (Or.inr hs1)).alloc _
  have h1F : Fr [] w1 (((w1.alloc (.cells Tryd.zeroCells64 64)).setRow w1.heap.size gl.toArray).alloc (.cells gl.toArray 66)) := (((Fr.refl _ _).alloc _).setRow _ _ (Or.inr (Nat.le_refl _))).alloc _
  have hh : (((w1.alloc (.cells Tryd.zeroCells64 64)).setRow w1.heap.size gl.toArray).alloc (.cells gl.toArray 66)).heap[w1.heap.size + 1]? = some (.cells gl.toArray 66) := hp_at _ _ _ (by simp)
  have hpl := hrow.lt
  refine bodyPost_ret (v := .tuple #[.pointer (some ⟨w1.heap.size + 1, 0, none⟩), .int .i64 0]) (by simp [results, Tryd.results19, go_sem]) rfl ⟨w1.heap.size + 1, pb, cap, rfl, ⟨fun k hk => ?_, fun k => frozen_of_heap hh, hrow.fr h1F (by simp), by show 2 ≤ 1000; omega, by show 0 < 2; omega, by omega, by omega, by omega⟩, by omega, hpb, hF⟩
  rw [cell_of_heap hh, HGE.out]
  simp only [List.getElem?_toArray]
  unfold gameL
  rw [List.getElem?_map, List.getElem?_range hk]
  rfl
end Go.Proofs.YtapabahhfanmmaaDoor
/- How a game begins, plainly. -/
namespace Go.Proofs.YtapabahhfanmmaaDoor
open Go.RowKit

theorem ground_le (c : UInt8) : 0 ≤ groundOf c ∧ groundOf c ≤ 10 := by
  unfold groundOf
  split
  · omega
  · split
    · rename_i h
      have h1 : 49 ≤ c.toNat := by simpa using UInt8.le_iff_toNat_le.1 h.1
      have h2 : c.toNat ≤ 57 := by simpa using UInt8.le_iff_toNat_le.1 h.2
      omega
    · omega
theorem bd_start (cs : List Int) (i : Nat) : 0 ≤ bdOf cs i ∧ bdOf cs i ≤ 10 := ground_le _
theorem held_start (c : Cl) : heldOf [newU 1 0 1 0 0 40, newU 2 1 1 11 11 40] c = if c = (11, 11) then some 2 else if c = (0, 0) then some 1 else none := rfl
theorem start_ok (cs : List Int) : GOk (startT cs) := by
  have h00 : bdOf cs 0 = 0 := rfl
  have h11 : bdOf cs 143 = 0 := rfl
  refine ⟨?_, ?_, ?_, by simp [startT], by simp [startT], fun i _ => bd_start cs i, by simp [startT], by simp [startT, isBase], by simp [startT, isBase], by simp [startT, isBase]⟩
  · show Rise [newU 1 0 1 0 0 40, newU 2 1 1 11 11 40]
    unfold Rise
    simp
  · intro u hu
    have hu' : u = newU 1 0 1 0 0 40 ∨ u = newU 2 1 1 11 11 40 := by simpa [startT] using hu
    rcases hu' with rfl | rfl
    · exact ⟨by rfl, h00, by rfl, Or.inl rfl, Or.inl rfl, by simp [lifeOf], by simp, by simp [startT], Or.inl rfl⟩
    · exact ⟨by rfl, h11, by rfl, Or.inr rfl, Or.inl rfl, by simp [lifeOf], by simp, by simp [startT], Or.inl rfl⟩
  · intro c i h
    have h' : (if c = (11, 11) then some (2 : Int) else if c = (0, 0) then some 1 else none) = some i := h
    by_cases h1 : c = (11, 11)
    · rw [if_pos h1] at h'
      cases h'
      exact ⟨newU 2 1 1 11 11 40, by simp [startT], rfl, h1.symm⟩
    · rw [if_neg h1] at h'
      by_cases h2 : c = (0, 0)
      · rw [if_pos h2] at h'
        cases h'
        exact ⟨newU 1 0 1 0 0 40, by simp [startT], rfl, h2.symm⟩
      · rw [if_neg h2] at h'
        cases h'

/- The first turn of a game without rocks or ore. -/
def firstCmds : List Cm := [⟨1, 4, 2, 0, 0⟩, ⟨2, 4, 2, 0, 0⟩]
theorem first_turn : (playT (startT []) firstCmds []).1.us.map (fun u => (u.id, u.x, u.y)) = [(1, 0, 0), (2, 11, 11), (3, 1, 0)] ∧ (playT (startT []) firstCmds []).2 = ([1], []) ∧ (playT (startT []) firstCmds []).1.s0 = 5 := by
  decide
end Go.Proofs.YtapabahhfanmmaaDoor
