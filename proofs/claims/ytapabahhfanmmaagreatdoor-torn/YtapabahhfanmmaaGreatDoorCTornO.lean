import Derived.Test.YtapabahhfanmmaaGreatDoorCRecC
import Derived.Test.YtapabahhfanmmaaGreatDoorCReadS
import Derived.Test.YtapabahhfanmmaaGreatDoorCTornL
import Derived.Test.YtapabahhfanmmaaGreatDoorCOrders2
/- A log is read. -/
namespace Go.Proofs.YtapabahhfanmmaaGreatDoor
open Go.RowKit

set_option maxRecDepth 100000 in
set_option maxHeartbeats 4000000 in
theorem readLog_any (t : T) (l : List Tn) (k : Nat) (w : World) (hsd : Sd w) (hgg : GG t) (hb : t.turn + l.length ≤ 1000) (hsh : Short l) (hk : (frameB 2 (tellB t)).length ≤ k) :
    Calls Tryz.prog 48 #[sv ((logB t l).take k)] w fun e w' => ∃ pb cap, e = .returned (.tuple #[.agg (gl (cutT t l (k - (frameB 2 (tellB t)).length)).1 pb cap).toArray, .bool (decide ((cutT t l (k - (frameB 2 (tellB t)).length)).2 = [])), .bool true]) ∧ PRow w' pb cap (cutT t l (k - (frameB 2 (tellB t)).length)).1.us ∧ w.heap.size ≤ pb ∧ Fr [] w w' := by
  have htl := tellB_len hgg (by omega)
  have hfl := frameB_len 2 (tellB t) (by omega)
  have hln := turns_len l hgg (by omega) hsh
  have hlb : l.length ≤ 1000 := by have := hgg.t0; omega
  have hll : ((logB t l).take k).length ≤ 1000000 := by
    rw [List.length_take]
    unfold logB
    rw [List.length_append]
    omega
  have hcut' : ∀ w', Calls Tryz.prog 89 #[sv ((logB t l).take k), .int .u8 2] w' fun e w'' => e = .returned (.tuple #[.string ⟨(tellB t).toArray⟩, .string ⟨((turnsB t l).take (k - (frameB 2 (tellB t)).length)).toArray⟩, .bool true]) ∧ Fr [] w' w'' := fun w' => by
    have hcut := frameCut_any 2 ((logB t l).take k) w' hll
    rw [head_cut t l k (by omega) hk] at hcut
    exact hcut
  have hpos := hsd.pos
  have HRS : Hid (∀ w', Fr [] w w' → Calls Tryz.prog 90 #[.string ⟨(tellB t).toArray⟩] w' fun e w'' => ∃ pb cap, e = .returned (.tuple #[.agg (gl t pb cap).toArray, .bool true]) ∧ PRow w'' pb cap t.us ∧ w'.heap.size ≤ pb ∧ Fr [] w' w'') := fun w' hf => readState_ok t (tellB t) w' (reads_tell hgg.ok hgg.os ⟨hgg.t0, by omega⟩) (by omega) hgg.ok hgg.os (by have := hf.size; omega)
  obtain ⟨k2, hk2⟩ : ∃ x, x = k - (frameB 2 (tellB t)).length := ⟨_, rfl⟩
  rw [← hk2] at hcut' ⊢
  have HPL : Hid (∀ pb cap w', Fr [] w w' → PRow w' pb cap t.us → Calls Tryz.prog 91 #[.agg (gl t pb cap).toArray, sv ((turnsB t l).take k2)] w' fun e w'' => ∃ pb' cap', e = .returned (.tuple #[.agg (gl (cutT t l k2).1 pb' cap').toArray, sv (cutT t l k2).2]) ∧ PRow w'' pb' cap' (cutT t l k2).1.us ∧ (pb' = pb ∨ w'.heap.size ≤ pb') ∧ Fr [] w' w'') := fun pb cap w' hf hr => playLog_any pb cap t l k2 w' (hsd.fr0 hf) hgg hb hsh hr
  obtain ⟨tx, htx⟩ : ∃ x : ByteArray, x = ⟨((logB t l).take k).toArray⟩ := ⟨_, rfl⟩
  obtain ⟨SB1, hSB1⟩ : ∃ x : ByteArray, x = ⟨(tellB t).toArray⟩ := ⟨_, rfl⟩
  obtain ⟨RB1, hRB1⟩ : ∃ x : ByteArray, x = ⟨((turnsB t l).take k2).toArray⟩ := ⟨_, rfl⟩
  simp only [sv, ← htx, ← hSB1, ← hRB1] at hcut'
  rw [← hSB1] at HRS
  rw [sv, ← hRB1] at HPL
  rw [sv, ← htx]
  clear htx hSB1 hRB1 hk2 hk hll hln hlb hfl htl hsd hgg hb hsh
  go_enter Tryz.func48, Tryz.ntmps48
  go_wp2_with fail
  refine Calls.mono (hcut' _) ?_
  rintro e w1 ⟨rfl, hf1⟩
  dsimp only
  have hw1 : Fr [] w w1 := ((Fr.refl _ _).alloc _).then0 hf1
  have hA1 := hf1.heap0 (hp_new w (.cells Tryz.zeroCells90 90))
  clear hcut'
  go_wp2_with fail
  refine Calls.mono (HRS.out _ hw1) ?_
  rintro e w2 ⟨pb, cap, rfl, hrow, hpb, hf2⟩
  dsimp only
  obtain ⟨g2, hg2⟩ : ∃ x, x = gl t pb cap := ⟨_, rfl⟩
  have hl2 : g2.length = 149 := by rw [hg2]; exact gameL_len _ _
  have HI2 : Hid ((Tryz.prog.info? 90).map (·.size) = some g2.toArray.size) := by
    show _ = _
    rw [infoGame, List.size_toArray, hl2]
  have HZ2 : Hid (Tryz.zeroCells90.size = g2.toArray.size) := by
    show _ = _
    exact zcGame.trans (by simp [hl2])
  have HO2 : Hid (g2.toArray.all (·.oneCell') = true) := by
    show _ = _
    rw [hg2]; exact gameL_one _ _ _ _
  have HA2 := (show Hid _ from hf2.heap0 hA1)
  have hw2 := hw1.then0 hf2
  have hlt2 : w.heap.size < w2.heap.size := lt_of_heap HA2.out
  obtain ⟨W3, hW3⟩ : ∃ W, W = w2.setRow w.heap.size g2.toArray := ⟨_, rfl⟩
  have hf3 : Fr [w.heap.size] w2 W3 := by rw [hW3]; exact (Fr.refl _ _).setRow _ _ (Or.inl (by simp))
  have HA3 : Hid (W3.heap[w.heap.size]? = some (.cells g2.toArray 90)) := by show _ = _; rw [hW3]; exact setRow_heap _ _ _ _ _ _ HA2.out
  have hw3 : Fr [] w W3 := hw2.trans hf3 (by simp)
  have hs1 := hw1.size
  have hlt1 : w.heap.size < w1.heap.size := lt_of_heap hA1
  have hpl := HPL.out pb cap W3 hw3 (hrow.fr hf3 (by simp; omega))
  rw [← hg2] at hpl ⊢
  have HPL2 := (show Hid _ from hpl)
  have HW3 := (show Hid _ from hW3)
  clear hg2 hl2 hW3 hf3 hrow hA1 hpl HPL HRS
  go_wp2_with (first | (refine wpList_store_row rfl 90 _ _ rfl w.heap.size g2.toArray rfl rfl 90 Tryz.zeroCells90 HA2.out HI2.out HZ2.out HO2.out ?_; rw [← HW3.out]) | (refine wpList_load_row rfl 90 _ rfl w.heap.size rfl 90 g2.toArray (0, 0) _ HA3.out Tryz.underlying90 rfl HI2.out ?_))
  refine Calls.mono HPL2.out ?_
  rintro e w4 ⟨pb4, cap4, rfl, hrow4, hpb4, hf4⟩
  dsimp only
  obtain ⟨g4, hg4⟩ : ∃ x, x = gl (cutT t l k2).1 pb4 cap4 := ⟨_, rfl⟩
  have hl4 : g4.length = 149 := by rw [hg4]; exact gameL_len _ _
  have HI4 : Hid ((Tryz.prog.info? 90).map (·.size) = some g4.toArray.size) := by
    show _ = _
    rw [infoGame, List.size_toArray, hl4]
  have HZ4 : Hid (g2.toArray.size = g4.toArray.size) := by
    show _ = _
    have h1 := HI2.out
    have h2 := HI4.out
    rw [h1] at h2
    exact Option.some.inj h2
  have HO4 : Hid (g4.toArray.all (·.oneCell') = true) := by
    show _ = _
    rw [hg4]; exact gameL_one _ _ _ _
  have HG4 := (show Hid _ from hg4)
  rw [← hg4]
  have HA4 := (show Hid _ from hf4.heap0 HA3.out)
  have hw4 := hw3.then0 hf4
  obtain ⟨W5, hW5⟩ : ∃ W, W = w4.setRow w.heap.size g4.toArray := ⟨_, rfl⟩
  have hf5 : Fr [w.heap.size] w4 W5 := by rw [hW5]; exact (Fr.refl _ _).setRow _ _ (Or.inl (by simp))
  have HA5 : Hid (W5.heap[w.heap.size]? = some (.cells g4.toArray 90)) := by show _ = _; rw [hW5]; exact setRow_heap _ _ _ _ _ _ HA4.out
  have HZ5 : Hid (g4.toArray.size = g4.toArray.size) := rfl
  obtain ⟨R4, hR4⟩ : ∃ x, x = (cutT t l k2).2 := ⟨_, rfl⟩
  rw [← hR4]
  have hpb4' : w.heap.size < pb4 := by
    rcases hpb4 with e | e
    · omega
    · have := hw3.size; have := lt_of_heap HA3.out; omega
  have HROW := (show Hid _ from hrow4)
  have HR4 := (show Hid _ from hR4)
  have HW5 := (show Hid _ from hW5)
  obtain ⟨RX, hRX⟩ : ∃ x : ByteArray, x = ⟨R4.toArray⟩ := ⟨_, rfl⟩
  have HBE : Hid (RX.toList.isEmpty = decide (R4 = [])) := by
    show _ = _
    rw [hRX, toList_mk]
    cases R4 <;> simp
  rw [sv, ← hRX]
  clear hg4 hl4 hW5 hR4 hrow4 hpb4 HPL2 hRX
  go_wp2_with (first | (refine wpList_store_row rfl 90 _ _ rfl w.heap.size g4.toArray rfl rfl 90 g2.toArray HA4.out HI4.out HZ4.out HO4.out ?_; rw [← HW5.out]) | (refine wpList_load_row rfl 90 _ rfl w.heap.size rfl 90 g4.toArray (0, 0) _ HA5.out Tryz.underlying90 rfl HI4.out ?_) | (refine wpList_store_row rfl 90 _ _ rfl w.heap.size g4.toArray rfl rfl 90 g4.toArray HA5.out HI4.out HZ5.out HO4.out ?_))
  have hf6 : Fr [w.heap.size] w4 (W5.setRow w.heap.size g4.toArray) := hf5.setRow _ _ (Or.inl (by simp))
  refine bodyPost_ret (v := .tuple #[.agg g4.toArray, .bool RX.toList.isEmpty, .bool true]) (results_cell_two Tryz.results48 _ _ w.heap.size 90 g4.toArray (0, 0) _ _ _ rfl rfl rfl (setRow_heap _ _ _ _ _ _ HA5.out) Tryz.underlying90 rfl HI4.out) rfl ⟨pb4, cap4, ?_, PRow.fr HROW.out hf6 (by simp; omega), by omega, hw4.trans hf6 (by simp)⟩
  rw [HBE.out, HR4.out, HG4.out]
end Go.Proofs.YtapabahhfanmmaaGreatDoor
/- A record is begun. -/
namespace Go.Proofs.YtapabahhfanmmaaGreatDoor
open Go.RowKit

def zerosT (P : Program) (t : TypeId) (m : Nat) : Option (Option (Nat × List Value)) := (P.info? t).map (fun i => i.zero.map (fun z => (z.cells.size, z.cells.toList.drop m)))
theorem built_tail (t : TypeId) (places : List (Nat × Nat)) (n m : Nat) (tail : List Value) (hf : fieldsOf Tryz.prog t = some places) (hz : zerosT Tryz.prog t m = some (some (n, tail))) (parts : List (Nat × Value)) (cells : Array Value) (h : ∀ z : Array Value, z.size = n → z.toList.drop m = tail → Instr.fill (places.toArray[·]?) z parts = some cells) : Tryz.prog.built t parts = some cells := by
  unfold Program.built
  unfold fieldsOf at hf
  unfold zerosT at hz
  cases hi : Tryz.prog.info? t with
  | none => rw [hi] at hz; simp at hz
  | some it =>
    rw [hi] at hz
    cases hzz : it.zero with
    | none => simp [hzz] at hz
    | some z =>
      simp only [hzz, Option.map_some, Option.some.injEq, Prod.mk.injEq] at hz
      cases hu : Tryz.prog.underlying t with
      | none => rw [hu] at hf; simp at hf
      | some d =>
        rw [hu] at hf
        cases d <;> try (simp at hf; done)
        dsimp only at hf ⊢
        rw [hzz, hf]
        exact h z.cells hz.1 hz.2
theorem recF : fieldsOf Tryz.prog 97 = some [(0, 149), (149, 2)] := by kernel_rfl
theorem recZ : zerosT Tryz.prog 97 149 = some (some (151, [.map none, .slice none 0 0])) := by kernel_rfl
theorem built_rec1 (gs : List Value) (hg : gs.length = 149) : Tryz.prog.built 97 [(0, .agg gs.toArray)] = some (gs ++ [Value.map none, Value.slice none 0 0]).toArray := by
  refine built_tail _ _ _ _ _ recF recZ _ _ (fun z hz ht => ?_)
  rw [fill_cons _ _ _ _ _ 0 149 rfl (by show gs.toArray.size = 149; simp [hg]) (by omega)]
  show some _ = _
  congr 2
  show z.toList.take 0 ++ gs.toArray.toList ++ z.toList.drop (0 + 149) = _
  rw [Nat.zero_add, ht, List.take_zero, List.nil_append, List.toList_toArray]
theorem built_rec2 (gs : List Value) (hg : gs.length = 149) (mv stv : Value) : Tryz.prog.built 97 [(0, .agg gs.toArray), (1, .agg #[mv, stv])] = some (gs ++ [mv, stv]).toArray := by
  refine built_tail _ _ _ _ _ recF recZ _ _ (fun z hz ht => ?_)
  rw [fill_cons _ _ _ _ _ 0 149 rfl (by show gs.toArray.size = 149; simp [hg]) (by omega)]
  have e1 : (z.toList.take 0 ++ (Value.agg gs.toArray).cells.toList ++ z.toList.drop (0 + 149)).toArray = (gs ++ [Value.map none, Value.slice none 0 0]).toArray := by
    congr 1
    show z.toList.take 0 ++ gs.toArray.toList ++ z.toList.drop (0 + 149) = _
    rw [Nat.zero_add, ht, List.take_zero, List.nil_append, List.toList_toArray]
  rw [e1, fill_cons _ _ _ _ _ 149 2 rfl rfl (by simp [hg])]
  show some _ = _
  congr 2
  show (gs ++ [Value.map none, .slice none 0 0]).take 149 ++ [mv, stv] ++ (gs ++ [Value.map none, .slice none 0 0]).drop (149 + 2) = _
  rw [List.take_append_of_le_length (by omega), List.take_of_length_le (by omega), List.drop_of_length_le (by simp [hg]), List.append_nil]

set_option maxRecDepth 100000 in
set_option maxHeartbeats 4000000 in
theorem recBegin_any (cs : List Int) (w : World) (hw : 0 < w.heap.size) :
    Calls Tryz.prog 11 #[.string ⟨(textTo cs 144).toArray⟩] w fun e w' => ∃ rb pb cap S mv stv v', e = .returned (.tuple #[.pointer (some ⟨rb, 0, none⟩), .int .i64 0]) ∧ RS w' rb pb cap S (startT cs) mv stv (fun k => if k = LOG then some (v', frameB 2 (tellB (startT cs))) else none) [sApp LOG1 (frameB 2 (tellB (startT cs))), sSync LOG1, sRen LOG1 LOG] ∧ w.heap.size ≤ rb ∧ w.heap.size ≤ pb ∧ (∀ b ∈ S, w.heap.size ≤ b) ∧ Fr [] w w' := by
  obtain ⟨T0, hT0⟩ : ∃ x, x = startT cs := ⟨_, rfl⟩
  have hgg : GG T0 := by rw [hT0]; exact ⟨start_ok cs, start_os cs, by show (0 : Int) ≤ 0; omega⟩
  have hul : T0.us.length = 2 := by rw [hT0]; rfl
  have htn : T0.turn = 0 := by rw [hT0]; rfl
  have HNEW : Hid (∀ w : World, Calls Tryz.prog 35 #[.string ⟨(textTo cs 144).toArray⟩] w fun e w' => ∃ pb cap, e = .returned (.tuple #[.agg (gl T0 pb cap).toArray, .bool true]) ∧ PRow w' pb cap T0.us ∧ w.heap.size ≤ pb ∧ Fr [] w w') := by rw [hT0]; exact rulesNew_any cs
  rw [← hT0]
  clear hT0
  obtain ⟨L, hL⟩ : ∃ L, L = textTo cs 144 := ⟨_, rfl⟩
  rw [← hL] at HNEW ⊢
  clear hL
  have htl := tellB_len hgg (by omega)
  go_enter Tryz.func11, Tryz.ntmps11
  go_wp2_with fail
  refine Calls.mono (HNEW.out _) ?_
  rintro e w1 ⟨pb, cap, rfl, hrow, hpb, hf1⟩
  dsimp only
  obtain ⟨gs, hgs⟩ : ∃ x, x = gl T0 pb cap := ⟨_, rfl⟩
  rw [← hgs]
  have hll : gs.length = 149 := by rw [hgs]; exact gameL_len _ _
  have HO : Hid (gs.toArray.all (·.oneCell') = true) := by
    show _ = _
    rw [hgs]; exact gameL_one _ _ _ _
  have HGE := (show Hid _ from hgs)
  have HL2 : Hid ((Tryz.prog.info? 90).map (·.size) = some gs.toArray.size) := by
    show _ = _
    rw [infoGame, List.size_toArray, hll]
  have HL3 : Hid (Tryz.zeroCells90.size = gs.toArray.size) := by
    show _ = _
    exact zcGame.trans (by simp [hll])
  have HBS : Hid (Tryz.prog.built 97 [(0, .agg gs.toArray)] = some (gs ++ [Value.map none, Value.slice none 0 0]).toArray) := built_rec1 gs hll
  have HH : Hid (((w1.alloc (.cells Tryz.zeroCells90 90)).setRow w1.heap.size gs.toArray).heap[w1.heap.size]? = some (.cells gs.toArray 90)) := setRow_heap _ _ _ _ _ _ (hp_new _ _)
  obtain ⟨W2, hW2⟩ : ∃ W, W = ((w1.alloc (.cells Tryz.zeroCells90 90)).setRow w1.heap.size gs.toArray).alloc (.cells (gs ++ [Value.map none, Value.slice none 0 0]).toArray 97) := ⟨_, rfl⟩
  have hw12 : Fr [] w1 W2 := by rw [hW2]; exact (((Fr.refl _ _).alloc _).setRow _ _ (Or.inr (Nat.le_refl _))).alloc _
  have hh : W2.heap[w1.heap.size + 1]? = some (.cells (gs ++ [Value.map none, Value.slice none 0 0]).toArray 97) := by rw [hW2]; exact hp_at _ _ _ (by simp)
  have hs1 := hf1.size
  have hpl := hrow.lt
  have hR2 : RS W2 (w1.heap.size + 1) pb cap [] T0 (.map none) (.slice none 0 0) (fun _ => none) [] := ⟨by show _ = _; rw [hh, HGE.out], SVE.empty W2, hrow.fr hw12 (by simp), by simp, by simp, by omega, by omega, by omega, by omega, by omega⟩
  have hfo := recFold_any W2 hR2 (by simp) (by simp) (nums_bd hgg.ok hgg.os ⟨hgg.t0, by omega⟩) (by omega) (by omega)
  have HFO := (show Hid _ from hfo)
  have hw2 := hf1.then0 hw12
  have hsz2 := hw12.size
  have HW2 := (show Hid _ from hW2)
  clear hgs hll HNEW hfo hR2 hW2 hrow
  go_wp2_with (first | (refine wpList_store_row rfl 90 _ _ rfl w1.heap.size gs.toArray rfl rfl 90 Tryz.zeroCells90 (hp_new w1 _) HL2.out HL3.out HO.out ?_) | (refine wpList_load_row rfl 90 _ rfl w1.heap.size rfl 90 gs.toArray (0, 0) _ HH.out Tryz.underlying90 rfl HL2.out ?_) | (refine wpList_build1 rfl 97 0 (.tmp 14) rfl (.agg gs.toArray) rfl (gs ++ [Value.map none, Value.slice none 0 0]).toArray HBS.out ?_))
  rw [← HW2.out]
  refine Calls.mono HFO.out ?_
  rintro e w3 ⟨rfl, v', mv', stv', S', hP⟩
  dsimp only
  have HP := (show Hid _ from hP)
  clear HFO hP
  go_wp2_with fail
  refine bodyPost_ret (v := .tuple #[.pointer (some ⟨w1.heap.size + 1, 0, none⟩), .int .i64 0]) (by simp [results, Tryz.results11, go_sem]) rfl ⟨w1.heap.size + 1, pb, cap, S', mv', stv', v', rfl, ?_, by omega, hpb, fun b hb => ?_, hw2.trans HP.out.fr (by simp; omega)⟩
  · have h := HP.out.rs
    have e1 : otherOf (fun _ => none) = LOG1 := rfl
    rw [e1, List.nil_append] at h
    have e2 : (fun k => if k = LOG1 then none else if k = LOG then some (v', frameB 2 (tellB T0)) else none) = (fun k => if k = LOG then some (v', frameB 2 (tellB T0)) else (none : Option (Value × List UInt8))) := by
      funext k
      by_cases e : k = LOG1
      · rw [if_pos e, if_neg (by rw [e]; decide)]
      · rw [if_neg e]
    rw [e2] at h
    exact h
  · rcases HP.out.old b hb with h1 | h1
    · simp at h1
    · have := hw2.size; omega
end Go.Proofs.YtapabahhfanmmaaGreatDoor
/- A record is opened. -/
namespace Go.Proofs.YtapabahhfanmmaaGreatDoor
open Go.RowKit

theorem wpList_build2 {ops : Array Oper} {rest : List Oper} {o : Oper} {a : Act} {w : World} {Q : Exit → Act → World → Prop} (hg : o.guard = none) (t : TypeId) (i1 i2 : Nat) (x1 x2 : Operand) (ho : o.op = .build t #[(i1, x1), (i2, x2)])
    (v1 v2 : Value) (h1 : a.eval x1 = v1) (h2 : a.eval x2 = v2) (cells : Array Value)
    (hc : Tryz.prog.built t [(i1, v1), (i2, v2)] = some cells) (h : wpList Tryz.prog ops Q rest (a.put o.dst (.agg cells)) w) : wpList Tryz.prog ops Q (o :: rest) a w :=
  wpList_plain hg fun _ hK => by
    have hc' : Tryz.prog.built t ((#[(i1, x1), (i2, x2)] : Array (Nat × Operand)).map fun (i, x) => (i, a.eval x)).toList = some cells := by
      simp [h1, h2, hc]
    unfold Oper.wp execOp
    simp only [ho, Sem.run_bind, run_build w t _ cells hc', Result.andThen_ok]
    exact hK _ _ h
theorem fid_of {g : Gf} {n : Nm} {d : List UInt8} (h : (g n).map (·.2) = some d) : fid g n = d := by
  unfold fid
  cases e : g n with
  | none => rw [e] at h; simp at h
  | some p => rw [e] at h; simpa using h
theorem none_of {g : Gf} {n : Nm} (h : (g n).map (·.2) = none) : g n = none := by simpa using h

set_option maxRecDepth 100000 in
set_option maxHeartbeats 4000000 in
theorem recOpen_any (v : Value) (fs : List Pf) (t : T) (l : List Tn) (k : Nat) (w : World) (hv : FilesV w v fs) (hd : (fs.map (·.1)).Nodup) (hl : ∀ p ∈ fs, p.1.length ≤ 1000000000 ∧ p.2.length ≤ 1000000000) (hll : fs.length ≤ 1000000000)
    (hlog : lookF fs LOG = some ((logB t l).take k)) (h12 : (lookF fs LOG1).isSome = true → lookF fs LOG2 = none) (hsd : Sd w) (hgg : GG t) (hb : t.turn + l.length ≤ 1000) (hsh : Short l) (hk : (frameB 2 (tellB t)).length ≤ k) :
    Calls Tryz.prog 22 #[v] w fun e w' => ∃ rb pb cap S mv stv g steps, e = .returned (.tuple #[.pointer (some ⟨rb, 0, none⟩), .int .i64 0]) ∧ RS w' rb pb cap S (cutT t l (k - (frameB 2 (tellB t)).length)).1 mv stv g steps ∧ steps.length ≤ 3 ∧ (fid g LOG).length ≤ 1000000 ∧ w.heap.size ≤ rb ∧ w.heap.size ≤ pb ∧ (∀ b ∈ S, w.heap.size ≤ b) ∧ Fr [] w w' := by
  obtain ⟨k2, hk2⟩ : ∃ x, x = k - (frameB 2 (tellB t)).length := ⟨_, rfl⟩
  have HRL : Hid (∀ w', Fr [] w w' → Calls Tryz.prog 48 #[sv ((logB t l).take k)] w' fun e w'' => ∃ pb cap, e = .returned (.tuple #[.agg (gl (cutT t l k2).1 pb cap).toArray, .bool (decide ((cutT t l k2).2 = [])), .bool true]) ∧ PRow w'' pb cap (cutT t l k2).1.us ∧ w'.heap.size ≤ pb ∧ Fr [] w' w'') := fun w' hf => by rw [hk2]; exact readLog_any t l k w' (hsd.fr0 hf) hgg hb hsh hk
  have hof := storeOf_any v fs w hv hd hl hll
  have HLEN : Hid (((logB t l).take k).length ≤ 200000) := by
    show _ ≤ _
    have htl := tellB_len hgg (by omega)
    have hfl := frameB_len 2 (tellB t) (by omega)
    have hln := turns_len l hgg (by omega) hsh
    have hlb : l.length ≤ 1000 := by have := hgg.t0; omega
    rw [List.length_take]
    unfold logB
    rw [List.length_append]
    omega
  obtain ⟨j, hj1, hj2, hj3⟩ := cut_found l t k2
  have HG1 : Hid (GG (cutT t l k2).1 ∧ (cutT t l k2).1.turn ≤ 1000) := by
    show _ ∧ _
    rw [hj2]
    have hjl : (l.take j).length = j := by rw [List.length_take]; omega
    obtain ⟨a1, a2⟩ := hgg.plays (l.take j) (by omega)
    exact ⟨a1, by omega⟩
  rw [← hk2]
  obtain ⟨T1, hT1⟩ : ∃ x, x = (cutT t l k2).1 := ⟨_, rfl⟩
  obtain ⟨R1, hR1⟩ : ∃ x, x = (cutT t l k2).2 := ⟨_, rfl⟩
  rw [← hT1] at HRL HG1 ⊢
  rw [← hR1] at HRL
  obtain ⟨LT, hLT⟩ : ∃ x, x = (logB t l).take k := ⟨_, rfl⟩
  rw [← hLT] at HRL HLEN hlog
  obtain ⟨ao, ln, lc, rfl⟩ : ∃ ao ln lc, v = .slice ao ln lc := by
    rcases hv with ⟨ao, lc, rfl, _⟩ | ⟨lb, lo, lc, rfl, _⟩
    · exact ⟨_, _, _, rfl⟩
    · exact ⟨_, _, _, rfl⟩
  have HLOG := (show Hid _ from hlog)
  have H12 := (show Hid _ from h12)
  clear hT1 hR1 hk2 hLT hk hj3 hj2 hj1 hlog h12 hv hd hl hll hsd hgg hb hsh
  go_enter Tryz.func22, Tryz.ntmps22
  go_wp2_with fail
  refine Calls.mono hof ?_
  rintro e w1 ⟨mv, S, g, rfl, hsv, hg, hS, hf1⟩
  dsimp only
  obtain ⟨rr, rfl⟩ : ∃ rr, mv = .map rr := by
    rcases hsv.map with ⟨rfl, _⟩ | ⟨r, rfl, _⟩
    · exact ⟨_, rfl⟩
    · exact ⟨_, rfl⟩
  obtain ⟨W2, hW2⟩ : ∃ W, W = w1.alloc (.cells #[.map rr, .slice none 0 0] 95) := ⟨_, rfl⟩
  have hw12 : Fr [] w1 W2 := by rw [hW2]; exact (Fr.refl _ _).alloc _
  have hK2 : W2.heap[w1.heap.size]? = some (.cells #[.map rr, .slice none 0 0] 95) := by rw [hW2]; exact hp_new _ _
  have hfd : fid g LOG = LT := fid_of ((hg LOG).trans HLOG.out)
  have hdat := data_any w1.heap.size 0 (.map rr) g LOG W2 (cell_of_heap hK2) (hsv.fr0 hw12).map ((hsv.fr0 hw12).fiv_own LOG (by simp))
  rw [hfd] at hdat
  have hdat' : Calls Tryz.prog 49 #[.pointer (some ⟨w1.heap.size, 0, none⟩), .string ⟨#[108, 111, 103]⟩] W2 fun e w' => e = .returned (sv LT) ∧ W2 = w' := hdat
  rw [hW2] at hdat'
  have HW2 := (show Hid _ from hW2)
  clear hof hdat hW2
  go_wp2_with fail
  refine Calls.mono hdat' ?_
  rintro e w2 ⟨rfl, rfl⟩
  dsimp only
  rw [← HW2.out]
  have hw2 := hf1.then0 hw12
  have hrl := HRL.out W2 hw2
  obtain ⟨LX, hLX⟩ : ∃ x : ByteArray, x = ⟨LT.toArray⟩ := ⟨_, rfl⟩
  rw [sv, ← hLX] at hrl
  rw [sv, ← hLX]
  clear hdat' HRL hLX
  go_wp2_with fail
  refine Calls.mono hrl ?_
  rintro e w3 ⟨pb, cap, rfl, hrow, hpb, hf3⟩
  dsimp only
  obtain ⟨gs, hgs⟩ : ∃ x, x = gl T1 pb cap := ⟨_, rfl⟩
  rw [← hgs]
  have hll : gs.length = 149 := by rw [hgs]; exact gameL_len _ _
  have HO : Hid (gs.toArray.all (·.oneCell') = true) := by
    show _ = _
    rw [hgs]; exact gameL_one _ _ _ _
  have HGE := (show Hid _ from hgs)
  have HL2 : Hid ((Tryz.prog.info? 90).map (·.size) = some gs.toArray.size) := by
    show _ = _
    rw [infoGame, List.size_toArray, hll]
  have HL3 : Hid (Tryz.zeroCells90.size = gs.toArray.size) := by
    show _ = _
    exact zcGame.trans (by simp [hll])
  have HBS : Hid (Tryz.prog.built 97 [(0, .agg gs.toArray), (1, .agg #[.map rr, .slice none 0 0])] = some (gs ++ [Value.map rr, Value.slice none 0 0]).toArray) := built_rec2 gs hll _ _
  obtain ⟨W4, hW4⟩ : ∃ W, W = (w3.alloc (.cells Tryz.zeroCells90 90)).setRow w3.heap.size gs.toArray := ⟨_, rfl⟩
  have HH : Hid (W4.heap[w3.heap.size]? = some (.cells gs.toArray 90)) := by show _ = _; rw [hW4]; exact setRow_heap _ _ _ _ _ _ (hp_new _ _)
  have hw34 : Fr [] w3 W4 := by rw [hW4]; exact ((Fr.refl _ _).alloc _).setRow _ _ (Or.inr (Nat.le_refl _))
  have hsz4 : W4.heap.size = w3.heap.size + 1 := by rw [hW4]; simp
  have hK4 := (hf3.then0 hw34).heap0 hK2
  have k0 : W4.cell? ⟨w1.heap.size, 0, none⟩ = some (.map rr) := cell_of_heap hK4
  have k1 : W4.cell? ⟨w1.heap.size, 1, none⟩ = some (.slice none 0 0) := cell_of_heap hK4
  obtain ⟨W5, hW5⟩ : ∃ W, W = W4.alloc (.cells (gs ++ [Value.map rr, Value.slice none 0 0]).toArray 97) := ⟨_, rfl⟩
  have hw45 : Fr [] W4 W5 := by rw [hW5]; exact (Fr.refl _ _).alloc _
  have hh : W5.heap[W4.heap.size]? = some (.cells (gs ++ [Value.map rr, Value.slice none 0 0]).toArray 97) := by rw [hW5]; exact hp_new _ _
  have hs1 := hf1.size
  have hs12 := hw12.size
  have hs3 := hf3.size
  have hpl := hrow.lt
  have hgg := HG1.out.1
  have htn := HG1.out.2
  have hul : T1.us.length ≤ 100 := hgg.ok.len
  have hw15 : Fr [] w1 W5 := ((hw12.then0 hf3).then0 hw34).then0 hw45
  have hw5 := hf1.then0 hw15
  have hR5 : RS W5 W4.heap.size pb cap S T1 (.map rr) (.slice none 0 0) g [] := by
    have hlt := hsv.lt
    exact ⟨by show _ = _; rw [hh, HGE.out], hsv.fr0 hw15, (hrow.fr hw34 (by simp)).fr hw45 (by simp), fun e => by have := hlt _ e; omega, fun e => by have := hlt _ e; omega, by omega, by omega, gok_ne hgg.ok, by omega, by have := lt_of_heap hK2; omega⟩
  have htl := tellB_len hgg (by omega)
  have hg12 : (g LOG1).isSome = true → g LOG2 = none := fun h => none_of ((hg LOG2).trans (H12.out (by rw [← hg LOG1]; simpa using h)))
  have HSY := (show Hid _ from recSync_any W5 hR5 (by simp))
  have HFO := (show Hid _ from recFold_any W5 hR5 (by simp) hg12 (nums_bd hgg.ok hgg.os ⟨hgg.t0, by omega⟩) hul (by omega))
  have HFD : Hid (∀ v', fid (fun k => if k = otherOf g then none else if k = LOG then some (v', frameB 2 (tellB T1)) else g k) LOG = frameB 2 (tellB T1)) := fun v' => by
    unfold fid
    dsimp only
    rw [if_neg (ne_other g), if_pos rfl]
  have HFL : Hid ((frameB 2 (tellB T1)).length ≤ 1000000) := by
    show _ ≤ _
    have := frameB_len 2 (tellB T1) (by omega)
    omega
  have HFG : Hid (fid g LOG = LT) := hfd
  have hs5 := hw5.size
  have hrb5 : w.heap.size ≤ W4.heap.size := by omega
  have hpbw : w.heap.size ≤ pb := by omega
  have HSS := (show Hid _ from hS)
  have HW4 := (show Hid _ from hW4)
  have HW5 := (show Hid _ from hW5)
  obtain ⟨B, hB⟩ : ∃ B, B = decide (R1 = []) := ⟨_, rfl⟩
  rw [← hB]
  clear hgs hll hW4 hW5 hR5 hrow hK2 hK4 hh hsv hg hS hB hrl HG1 hg12 hfd hw15 hw34 hw45 htl hul hsz4
  cases B
  · go_wp2_with (first | (refine wpList_store_row rfl 90 _ _ rfl w3.heap.size gs.toArray rfl rfl 90 Tryz.zeroCells90 (hp_new w3 _) HL2.out HL3.out HO.out ?_; rw [← HW4.out]) | (refine wpList_load_row rfl 90 _ rfl w3.heap.size rfl 90 gs.toArray (0, 0) _ HH.out Tryz.underlying90 rfl HL2.out ?_) | (refine wpList_build2 rfl 97 0 1 (.tmp 24) (.tmp 25) rfl (.agg gs.toArray) (.agg #[.map rr, .slice none 0 0]) rfl rfl (gs ++ [Value.map rr, Value.slice none 0 0]).toArray HBS.out ?_))
    rw [← HW5.out]
    refine Calls.mono HFO.out ?_
    rintro e w6 ⟨rfl, v', mv', stv', S', hP⟩
    dsimp only
    have HP := (show Hid _ from hP)
    clear HFO hP HSY HW4 HW5 HBS HH HL2 HL3 HO
    go_wp2_with fail
    refine bodyPost_ret (v := .tuple #[.pointer (some ⟨W4.heap.size, 0, none⟩), .int .i64 0]) (by simp [results, Tryz.results22, go_sem]) rfl ⟨W4.heap.size, pb, cap, S', mv', stv', _, _, rfl, HP.out.rs, by simp, by rw [HFD.out]; exact HFL.out, hrb5, hpbw, fun b hb => ?_, hw5.trans HP.out.fr (fun b hb => ?_)⟩
    · rcases HP.out.old b hb with h1 | h1
      · exact HSS.out b h1
      · omega
    · rcases List.mem_cons.1 hb with rfl | hb
      · exact Or.inr hrb5
      · exact Or.inr (HSS.out b hb)
  · go_wp2_with (first | (refine wpList_store_row rfl 90 _ _ rfl w3.heap.size gs.toArray rfl rfl 90 Tryz.zeroCells90 (hp_new w3 _) HL2.out HL3.out HO.out ?_; rw [← HW4.out]) | (refine wpList_load_row rfl 90 _ rfl w3.heap.size rfl 90 gs.toArray (0, 0) _ HH.out Tryz.underlying90 rfl HL2.out ?_) | (refine wpList_build2 rfl 97 0 1 (.tmp 24) (.tmp 25) rfl (.agg gs.toArray) (.agg #[.map rr, .slice none 0 0]) rfl rfl (gs ++ [Value.map rr, Value.slice none 0 0]).toArray HBS.out ?_))
    rw [← HW5.out]
    refine Calls.mono HSY.out ?_
    rintro e w6 ⟨rfl, stv', S', hP⟩
    dsimp only
    have HP := (show Hid _ from hP)
    clear HFO hP HSY HW4 HW5 HBS HH HL2 HL3 HO
    go_wp2_with fail
    refine bodyPost_ret (v := .tuple #[.pointer (some ⟨W4.heap.size, 0, none⟩), .int .i64 0]) (by simp [results, Tryz.results22, go_sem]) rfl ⟨W4.heap.size, pb, cap, S', _, stv', _, _, rfl, HP.out.rs, by simp, by rw [HFG.out]; have := HLEN.out; omega, hrb5, hpbw, fun b hb => ?_, hw5.trans HP.out.fr (fun b hb => ?_)⟩
    · rcases HP.out.old b hb with h1 | h1
      · exact HSS.out b h1
      · omega
    · rcases List.mem_cons.1 hb with rfl | hb
      · exact Or.inr hrb5
      · exact Or.inr (HSS.out b hb)
end Go.Proofs.YtapabahhfanmmaaGreatDoor
/- What Torn's loop holds: the record, its rows, and the game that it looks at. -/
namespace Go.Proofs.YtapabahhfanmmaaGreatDoor
open Go.RowKit

/-- A value's own block is none of these. -/
def Far (v : Value) (S : List Nat) : Prop := ∀ b, v.ownBlock = some b → b ∉ S
theorem Far.sub {v : Value} {S S' : List Nat} (h : Far v S) (hs : ∀ b ∈ S', b ∈ S) : Far v S' := fun b hb hm => h b hb (hs b hm)
theorem Far.toList {v : Value} {S : List Nat} (h : Far v S) {b : Nat} (hb : b ∈ S) : b ∉ v.ownBlock.toList := fun hm => by
  cases hv : v.ownBlock with
  | none => rw [hv] at hm; simp at hm
  | some c =>
    rw [hv] at hm
    have : b = c := by simpa using hm
    subst this
    exact h b hv hb
theorem Far.old {v v' : Value} {S : List Nat} {w : World} (h : Far v S) (hat : v'.ownBlock = v.ownBlock ∨ v'.ownBlock = some w.heap.size) (hl : ∀ b ∈ S, b < w.heap.size) : Far v' S := fun b hb hm => by
  rcases hat with e | e
  · exact h b (by rw [← e]; exact hb) hm
  · rw [e] at hb
    have : w.heap.size = b := by simpa using hb
    have := hl b hm
    omega
/-- Two values do not share a block. -/
def Two (u v : Value) : Prop := ∀ b, u.ownBlock = some b → v.ownBlock ≠ some b
theorem Two.symm {u v : Value} (h : Two u v) : Two v u := fun b h1 h2 => h b h2 h1
theorem Two.far {u v : Value} (h : Two u v) : ∀ b, v.ownBlock = some b → b ∉ u.ownBlock.toList := fun b hb hm => h b (by simpa using hm) hb
theorem Two.old {u u' v : Value} {w : World} (h : Two u v) (hat : u'.ownBlock = u.ownBlock ∨ u'.ownBlock = some w.heap.size) (hl : ∀ b, v.ownBlock = some b → b < w.heap.size) : Two u' v := fun b hb hv => by
  rcases hat with e | e
  · exact h b (by rw [← e]; exact hb) hv
  · rw [e] at hb
    have : w.heap.size = b := by simpa using hb
    have := hl b hv
    omega
/-- The record and the rows. -/
structure TJ (W : World) (rb pb cap : Nat) (S : List Nat) (now : T) (data : List UInt8) (steps : List Stp) (told : List (List UInt8)) (ends : List Nat) (safes : List Int) (tv ev zv : Value) (w : World) : Prop where
  rc : ∃ mv stv g, RS w rb pb cap S now mv stv g steps ∧ (∀ n, n ≠ LOG → g n = none) ∧ fid g LOG = data
  up : ∀ b ∈ rb :: pb :: S, W.heap.size ≤ b
  ft : Far tv (rb :: pb :: S)
  fe : Far ev (rb :: pb :: S)
  fz : Far zv (rb :: pb :: S)
  told : w.ownsRow W.heap.size 9 1 tv told.length (told.map sv)
  ends : w.ownsRow W.heap.size 3 1 ev ends.length (ends.map fun x : Nat => ii (x : Int))
  safes : w.ownsRow W.heap.size 3 1 zv safes.length (safes.map fun x : Int => ii x)
  te : Two tv ev
  tz : Two tv zv
  ez : Two ev zv
  fr : Fr [] W w
/-- The game. -/
structure GJ (W : World) (rb gb pb cap : Nat) (S : List Nat) (now : T) (tv ev zv : Value) (w : World) : Prop where
  gs : GS w gb pb cap now
  ng : gb ∉ rb :: S
  up : W.heap.size ≤ gb
  ft : Far tv [gb]
  fe : Far ev [gb]
  fz : Far zv [gb]

theorem RS.blocks {w : World} {rb pb cap : Nat} {S : List Nat} {t : T} {mv stv : Value} {g : Gf} {steps : List Stp} (h : RS w rb pb cap S t mv stv g steps) : ∀ b ∈ rb :: pb :: S, b < w.heap.size := by
  intro b hb
  rcases List.mem_cons.1 hb with rfl | hb
  · exact h.lt
  rcases List.mem_cons.1 hb with rfl | hb
  · exact h.row.lt
  · exact h.sve.lt b hb
theorem TJ.fr0 {W : World} {rb pb cap : Nat} {S : List Nat} {now : T} {data : List UInt8} {steps : List Stp} {told : List (List UInt8)} {ends : List Nat} {safes : List Int} {tv ev zv : Value} {w w' : World} (h : TJ W rb pb cap S now data steps told ends safes tv ev zv w) (hf : Fr [] w w') : TJ W rb pb cap S now data steps told ends safes tv ev zv w' := by
  obtain ⟨mv, stv, g, h1, h2, h3⟩ := h.rc
  exact { h with rc := ⟨mv, stv, g, h1.fr0 hf, h2, h3⟩, told := rows_fr h.told hf (by simp), ends := rows_fr h.ends hf (by simp), safes := rows_fr h.safes hf (by simp), fr := h.fr.then0 hf }
theorem GJ.fr0 {W : World} {rb gb pb cap : Nat} {S : List Nat} {now : T} {tv ev zv : Value} {w w' : World} (h : GJ W rb gb pb cap S now tv ev zv w) (hf : Fr [] w w') : GJ W rb gb pb cap S now tv ev zv w' := { h with gs := h.gs.fr hf (by simp) (by simp) }
theorem own_toList {v : Value} {b : Nat} (h : b ∈ v.ownBlock.toList) : v.ownBlock = some b := by simpa using h
/-- One more told. -/
theorem TJ.addT {W : World} {rb pb cap : Nat} {S : List Nat} {now : T} {data : List UInt8} {steps : List Stp} {told : List (List UInt8)} {ends : List Nat} {safes : List Int} {tv ev zv tv' : Value} {w w' : World} (h : TJ W rb pb cap S now data steps told ends safes tv ev zv w) (x : List UInt8) (ho : w'.ownsRow W.heap.size 9 1 tv' (told.length + 1) (told.map sv ++ [sv x])) (hg : w.grownBy w' tv.ownBlock) (hat : tv'.ownBlock = tv.ownBlock ∨ tv'.ownBlock = some w.heap.size) : TJ W rb pb cap S now data steps (told ++ [x]) ends safes tv' ev zv w' := by
  obtain ⟨mv, stv, g, h1, h2, h3⟩ := h.rc
  have hf : Fr tv.ownBlock.toList w w' := fr_grown (Fr.refl _ _) hg (fun b hb => Or.inl (by simp [hb]))
  have hf0 : Fr [] W w' := h.fr.trans hf (fun b hb => Or.inr (rows_lt h.told (own_toList hb)).1)
  refine { h with rc := ⟨mv, stv, g, h1.fr hf (h.ft.toList (by simp)) (h.ft.toList (by simp)) (fun b hb => h.ft.toList (by simp [hb])), h2, h3⟩, ft := h.ft.old hat h1.blocks, told := ?_, ends := rows_fr h.ends hf h.te.far, safes := rows_fr h.safes hf h.tz.far, te := h.te.old hat (fun b hb => (rows_lt h.ends hb).2), tz := h.tz.old hat (fun b hb => (rows_lt h.safes hb).2), fr := hf0 }
  rw [List.length_append, List.map_append]
  exact ho
theorem TJ.addE {W : World} {rb pb cap : Nat} {S : List Nat} {now : T} {data : List UInt8} {steps : List Stp} {told : List (List UInt8)} {ends : List Nat} {safes : List Int} {tv ev zv ev' : Value} {w w' : World} (h : TJ W rb pb cap S now data steps told ends safes tv ev zv w) (x : Nat) (ho : w'.ownsRow W.heap.size 3 1 ev' (ends.length + 1) ((ends.map fun x : Nat => ii (x : Int)) ++ [ii (x : Int)])) (hg : w.grownBy w' ev.ownBlock) (hat : ev'.ownBlock = ev.ownBlock ∨ ev'.ownBlock = some w.heap.size) : TJ W rb pb cap S now data steps told (ends ++ [x]) safes tv ev' zv w' := by
  obtain ⟨mv, stv, g, h1, h2, h3⟩ := h.rc
  have hf : Fr ev.ownBlock.toList w w' := fr_grown (Fr.refl _ _) hg (fun b hb => Or.inl (by simp [hb]))
  have hf0 : Fr [] W w' := h.fr.trans hf (fun b hb => Or.inr (rows_lt h.ends (own_toList hb)).1)
  refine { h with rc := ⟨mv, stv, g, h1.fr hf (h.fe.toList (by simp)) (h.fe.toList (by simp)) (fun b hb => h.fe.toList (by simp [hb])), h2, h3⟩, fe := h.fe.old hat h1.blocks, ends := ?_, told := rows_fr h.told hf h.te.symm.far, safes := rows_fr h.safes hf h.ez.far, te := (h.te.symm.old hat (fun b hb => (rows_lt h.told hb).2)).symm, ez := h.ez.old hat (fun b hb => (rows_lt h.safes hb).2), fr := hf0 }
  rw [List.length_append, List.map_append]
  exact ho
theorem TJ.addZ {W : World} {rb pb cap : Nat} {S : List Nat} {now : T} {data : List UInt8} {steps : List Stp} {told : List (List UInt8)} {ends : List Nat} {safes : List Int} {tv ev zv zv' : Value} {w w' : World} (h : TJ W rb pb cap S now data steps told ends safes tv ev zv w) (x : Int) (ho : w'.ownsRow W.heap.size 3 1 zv' (safes.length + 1) ((safes.map fun x : Int => ii x) ++ [ii x])) (hg : w.grownBy w' zv.ownBlock) (hat : zv'.ownBlock = zv.ownBlock ∨ zv'.ownBlock = some w.heap.size) : TJ W rb pb cap S now data steps told ends (safes ++ [x]) tv ev zv' w' := by
  obtain ⟨mv, stv, g, h1, h2, h3⟩ := h.rc
  have hf : Fr zv.ownBlock.toList w w' := fr_grown (Fr.refl _ _) hg (fun b hb => Or.inl (by simp [hb]))
  have hf0 : Fr [] W w' := h.fr.trans hf (fun b hb => Or.inr (rows_lt h.safes (own_toList hb)).1)
  refine { h with rc := ⟨mv, stv, g, h1.fr hf (h.fz.toList (by simp)) (h.fz.toList (by simp)) (fun b hb => h.fz.toList (by simp [hb])), h2, h3⟩, fz := h.fz.old hat h1.blocks, safes := ?_, told := rows_fr h.told hf h.tz.symm.far, ends := rows_fr h.ends hf h.ez.symm.far, tz := (h.tz.symm.old hat (fun b hb => (rows_lt h.told hb).2)).symm, ez := (h.ez.symm.old hat (fun b hb => (rows_lt h.ends hb).2)).symm, fr := hf0 }
  rw [List.length_append, List.map_append]
  exact ho
theorem GJ.addT {W : World} {rb gb pb cap : Nat} {S : List Nat} {now : T} {tv ev zv tv' : Value} {w w' : World} (h : GJ W rb gb pb cap S now tv ev zv w) (hp : Far tv [pb]) (hg : w.grownBy w' tv.ownBlock) (hat : tv'.ownBlock = tv.ownBlock ∨ tv'.ownBlock = some w.heap.size) : GJ W rb gb pb cap S now tv' ev zv w' := by
  have hf : Fr tv.ownBlock.toList w w' := fr_grown (Fr.refl _ _) hg (fun b hb => Or.inl (by simp [hb]))
  have hgl := h.gs.lt
  have h3 : ∀ b ∈ [gb], b < w.heap.size := fun b hb => by simp at hb; omega
  exact { h with gs := h.gs.fr hf (h.ft.toList (by simp)) (hp.toList (by simp)), ft := h.ft.old hat h3 }
theorem GJ.addE {W : World} {rb gb pb cap : Nat} {S : List Nat} {now : T} {tv ev zv ev' : Value} {w w' : World} (h : GJ W rb gb pb cap S now tv ev zv w) (hp : Far ev [pb]) (hg : w.grownBy w' ev.ownBlock) (hat : ev'.ownBlock = ev.ownBlock ∨ ev'.ownBlock = some w.heap.size) : GJ W rb gb pb cap S now tv ev' zv w' := by
  have hf : Fr ev.ownBlock.toList w w' := fr_grown (Fr.refl _ _) hg (fun b hb => Or.inl (by simp [hb]))
  have hgl := h.gs.lt
  have h3 : ∀ b ∈ [gb], b < w.heap.size := fun b hb => by simp at hb; omega
  exact { h with gs := h.gs.fr hf (h.fe.toList (by simp)) (hp.toList (by simp)), fe := h.fe.old hat h3 }
theorem GJ.addZ {W : World} {rb gb pb cap : Nat} {S : List Nat} {now : T} {tv ev zv zv' : Value} {w w' : World} (h : GJ W rb gb pb cap S now tv ev zv w) (hp : Far zv [pb]) (hg : w.grownBy w' zv.ownBlock) (hat : zv'.ownBlock = zv.ownBlock ∨ zv'.ownBlock = some w.heap.size) : GJ W rb gb pb cap S now tv ev zv' w' := by
  have hf : Fr zv.ownBlock.toList w w' := fr_grown (Fr.refl _ _) hg (fun b hb => Or.inl (by simp [hb]))
  have hgl := h.gs.lt
  have h3 : ∀ b ∈ [gb], b < w.heap.size := fun b hb => by simp at hb; omega
  exact { h with gs := h.gs.fr hf (h.fz.toList (by simp)) (hp.toList (by simp)), fz := h.fz.old hat h3 }
theorem fid_if {g : Gf} {v : Value} {d : List UInt8} : fid (fun k => if k = LOG then some (v, d) else g k) LOG = d := by
  unfold fid
  simp
/-- The record has gone on. -/
theorem TJ.went {W : World} {rb pb cap : Nat} {S : List Nat} {now : T} {data : List UInt8} {steps : List Stp} {told : List (List UInt8)} {ends : List Nat} {safes : List Int} {tv ev zv : Value} {w w' : World} (h : TJ W rb pb cap S now data steps told ends safes tv ev zv w) {now' : T} {data' : List UInt8} {steps' : List Stp} {g' : Gf} {pb' cap' : Nat} {mv' stv' : Value} {S' : List Nat} (hp : RPost w rb S now' g' steps' w' pb' cap' mv' stv' S') (hb : pb' = pb ∨ w.heap.size ≤ pb') (hn : ∀ n, n ≠ LOG → g' n = none) (hd : fid g' LOG = data') : TJ W rb pb' cap' S' now' data' steps' told ends safes tv ev zv w' := by
  have hsz := h.fr.size
  have hsub : ∀ b ∈ rb :: pb' :: S', b ∈ rb :: pb :: S ∨ w.heap.size ≤ b := by
    intro b hm
    rcases List.mem_cons.1 hm with rfl | hm
    · exact Or.inl (by simp)
    rcases List.mem_cons.1 hm with rfl | hm
    · exact hb.imp_left (fun e => by simp [e])
    · exact (hp.old b hm).imp_left (fun e => by simp [e])
  have far : ∀ (v : Value) (n : Nat) (xs : List Value) (e : TypeId) (sz : Nat), Far v (rb :: pb :: S) → w.ownsRow W.heap.size e sz v n xs → Far v (rb :: pb' :: S') := fun v n xs e sz hv hr b hb hm => by
    rcases hsub b hm with h1 | h1
    · exact hv b hb h1
    · have := (rows_lt hr hb).2
      omega
  have farS : ∀ (v : Value), Far v (rb :: pb :: S) → ∀ b, v.ownBlock = some b → b ∉ rb :: S := fun v hv b hb hm => hv b hb (by
    rcases List.mem_cons.1 hm with rfl | hm
    · simp
    · simp [hm])
  exact { rc := ⟨mv', stv', g', hp.rs, hn, hd⟩
          up := fun b hm => (hsub b hm).elim (h.up b) (fun e => Nat.le_trans hsz e)
          ft := far tv _ _ _ _ h.ft h.told
          fe := far ev _ _ _ _ h.fe h.ends
          fz := far zv _ _ _ _ h.fz h.safes
          told := rows_fr h.told hp.fr (farS tv h.ft)
          ends := rows_fr h.ends hp.fr (farS ev h.fe)
          safes := rows_fr h.safes hp.fr (farS zv h.fz)
          te := h.te
          tz := h.tz
          ez := h.ez
          fr := h.fr.trans hp.fr (fun b hm => Or.inr (h.up b (by
            rcases List.mem_cons.1 hm with rfl | hm
            · simp
            · simp [hm]))) }
theorem TJ.game {W : World} {rb pb cap : Nat} {S : List Nat} {now : T} {data : List UInt8} {steps : List Stp} {told : List (List UInt8)} {ends : List Nat} {safes : List Int} {tv ev zv : Value} {w : World} (h : TJ W rb pb cap S now data steps told ends safes tv ev zv w) :
    Calls Tryz.prog 14 #[.pointer (some ⟨rb, 0, none⟩)] w fun e w' => ∃ gb, e = .returned (.pointer (some ⟨gb, 0, none⟩)) ∧ TJ W rb pb cap S now data steps told ends safes tv ev zv w' ∧ GJ W rb gb pb cap S now tv ev zv w' ∧ Fr [] w w' := by
  obtain ⟨mv, stv, g, h1, h2, h3⟩ := h.rc
  refine Calls.mono (recGame_any w h1) ?_
  rintro e w' ⟨gb, rfl, hgb, hgs, hf⟩
  have hsz := h.fr.size
  have hlt := h1.blocks
  refine ⟨gb, rfl, h.fr0 hf, ⟨hgs, fun hm => ?_, by omega, fun b hb hm => ?_, fun b hb hm => ?_, fun b hb hm => ?_⟩, hf⟩
  · have := hlt gb (by
      rcases List.mem_cons.1 hm with e | e
      · simp [e]
      · simp [e])
    omega
  · have := (rows_lt h.told hb).2
    simp at hm
    omega
  · have := (rows_lt h.ends hb).2
    simp at hm
    omega
  · have := (rows_lt h.safes hb).2
    simp at hm
    omega
theorem TJ.play {W : World} {rb pb cap : Nat} {S : List Nat} {now : T} {data : List UInt8} {steps : List Stp} {told : List (List UInt8)} {ends : List Nat} {safes : List Int} {tv ev zv : Value} {w : World} (h : TJ W rb pb cap S now data steps told ends safes tv ev zv w) (l1 l2 : List Cm) (lv1 lv2 : Value) (hsd : Sd w) (hgg : GG now) (ht : now.turn < 1000000000) (h1 : CmdV w lv1 l1) (h2 : CmdV w lv2 l2) (hl1 : l1.length ≤ 2) (hl2 : l2.length ≤ 2) (hlen : steps.length ≤ 10000000) (hfd : data.length ≤ 999000000) :
    Calls Tryz.prog 17 #[.pointer (some ⟨rb, 0, none⟩), lv1, lv2] w fun e w' => ∃ v a b, e = .returned (.tuple #[v, .int .i64 0]) ∧ Refs w' w.heap.size v a b ∧ ∃ pb' cap' S', TJ W rb pb' cap' S' (playW now (l1, l2)) (data ++ turnFr now (l1, l2)) (steps ++ [sApp LOG (turnFr now (l1, l2))]) told ends safes tv ev zv w' := by
  obtain ⟨mv, stv, g, r1, r2, r3⟩ := h.rc
  refine Calls.mono (recPlay_any w l1 l2 lv1 lv2 r1 hsd hgg ht h1 h2 hl1 hl2 hlen (by rw [r3]; exact hfd)) ?_
  rintro e w' ⟨v, a, b, rfl, hr, v', pb', cap', mv', stv', S', hpb, hp⟩
  refine ⟨v, a, b, rfl, hr, pb', cap', S', h.went hp hpb (fun n hn => ?_) ?_⟩
  · simp only [hn, if_false]
    exact r2 n hn
  · rw [fid_if, r3]
theorem GJ.went {W : World} {rb gb pb cap : Nat} {S : List Nat} {now : T} {tv ev zv : Value} {w w' : World} {mv stv mv' stv' : Value} {g g' : Gf} {steps steps' : List Stp} {S' : List Nat} (hg : GJ W rb gb pb cap S now tv ev zv w) (r1 : RS w rb pb cap S now mv stv g steps) (hp : RPost w rb S now g' steps' w' pb cap mv' stv' S') : GJ W rb gb pb cap S' now tv ev zv w' := by
  have hgl := hg.gs.lt
  have h1 : pb ∉ rb :: S := fun hm => by
    rcases List.mem_cons.1 hm with e | e
    · exact r1.np e
    · exact r1.npb e
  have h2 : gb ∉ rb :: S' := fun hm => by
    rcases List.mem_cons.1 hm with e | e
    · exact hg.ng (by simp [e])
    · rcases hp.old _ e with e | e
      · exact hg.ng (by simp [e])
      · omega
  exact { hg with gs := hg.gs.fr hp.fr hg.ng h1, ng := h2 }
theorem TJ.sync {W : World} {rb gb pb cap : Nat} {S : List Nat} {now : T} {data : List UInt8} {steps : List Stp} {told : List (List UInt8)} {ends : List Nat} {safes : List Int} {tv ev zv : Value} {w : World} (h : TJ W rb pb cap S now data steps told ends safes tv ev zv w) (hg : GJ W rb gb pb cap S now tv ev zv w) (hlen : steps.length ≤ 10000000) :
    Calls Tryz.prog 19 #[.pointer (some ⟨rb, 0, none⟩)] w fun e w' => e = .returned (.int .i64 now.turn) ∧ ∃ S', TJ W rb pb cap S' now data (steps ++ [sSync LOG]) told ends safes tv ev zv w' ∧ GJ W rb gb pb cap S' now tv ev zv w' := by
  obtain ⟨mv, stv, g, r1, r2, r3⟩ := h.rc
  refine Calls.mono (recSync_any w r1 hlen) ?_
  rintro e w' ⟨rfl, stv', S', hp⟩
  refine ⟨rfl, S', h.went hp (Or.inl rfl) r2 r3, ?_⟩
  exact hg.went r1 hp
theorem TJ.fold {W : World} {rb gb pb cap : Nat} {S : List Nat} {now : T} {data : List UInt8} {steps : List Stp} {told : List (List UInt8)} {ends : List Nat} {safes : List Int} {tv ev zv : Value} {w : World} (h : TJ W rb pb cap S now data steps told ends safes tv ev zv w) (hg : GJ W rb gb pb cap S now tv ev zv w) (hlen : steps.length ≤ 9999990) (hgg : GG now) (ht : now.turn ≤ 1000) :
    Calls Tryz.prog 20 #[.pointer (some ⟨rb, 0, none⟩)] w fun e w' => e = .returned (.tuple #[]) ∧ ∃ S', TJ W rb pb cap S' now (frameB 2 (tellB now)) (steps ++ [sApp LOG1 (frameB 2 (tellB now)), sSync LOG1, sRen LOG1 LOG]) told ends safes tv ev zv w' ∧ GJ W rb gb pb cap S' now tv ev zv w' := by
  obtain ⟨mv, stv, g, r1, r2, r3⟩ := h.rc
  have hg1 : g LOG1 = none := r2 _ (fun e => ne10 e)
  have hoth : otherOf g = LOG1 := by unfold otherOf; simp [hg1]
  have htl := tellB_len hgg (by omega)
  have hlen2 := hgg.ok.len
  refine Calls.mono (recFold_any w r1 hlen (fun e => by rw [hg1] at e; simp at e) (nums_bd hgg.ok hgg.os ⟨hgg.t0, by omega⟩) (by omega) (by omega)) ?_
  rintro e w' ⟨rfl, v', mv', stv', S', hp⟩
  rw [hoth] at hp
  refine ⟨rfl, S', h.went hp (Or.inl rfl) (fun n hn => ?_) ?_, ?_⟩
  · by_cases e : n = LOG1
    · simp [e]
    · simp only [e, if_false, hn]
      exact r2 n hn
  · unfold fid
    simp [ne01]
  exact hg.went r1 hp
end Go.Proofs.YtapabahhfanmmaaGreatDoor
/- What is opened after the cut. -/
namespace Go.Proofs.YtapabahhfanmmaaGreatDoor
open Go.RowKit

theorem fm_at : ∀ (fs : List Pf) (i : Nat) (p : Pf), fs[i]? = some p → (fs.flatMap fun p : Pf => [sv p.1, sv p.2])[i * 2]? = some (sv p.1) ∧ (fs.flatMap fun p : Pf => [sv p.1, sv p.2])[i * 2 + 1]? = some (sv p.2)
  | [], i, p, h => by simp at h
  | q :: fs, 0, p, h => by
    have : q = p := by simpa using h
    subst this
    simp
  | q :: fs, i + 1, p, h => by
    have h' : fs[i]? = some p := by simpa using h
    have ih := fm_at fs i p h'
    rw [List.flatMap_cons, show (i + 1) * 2 = i * 2 + 2 by omega, show i * 2 + 2 + 1 = (i * 2 + 1) + 2 by omega]
    exact ih
theorem fm_len (fs : List Pf) : (fs.flatMap fun p : Pf => [sv p.1, sv p.2]).length = fs.length * 2 := by
  induction fs with
  | nil => rfl
  | cons a l ih => rw [List.flatMap_cons, List.length_append, ih]; simp; omega
theorem files_of {w : World} {base : Nat} {v : Value} {fs : List Pf} (h : w.ownsRow base 115 2 v fs.length (fs.flatMap fun p : Pf => [sv p.1, sv p.2])) : FilesV w v fs := by
  cases fs with
  | nil =>
    obtain ⟨ao, lc, rfl⟩ := rows_slice h
    exact Or.inl ⟨ao, lc, rfl, rfl⟩
  | cons p l =>
    obtain ⟨a1, a2⟩ := fm_at (p :: l) 0 p rfl
    obtain ⟨g, cap, hv, _, hl, _, _⟩ := rows_at h a1 (fm_len _)
    refine Or.inr ⟨g, 0, cap, hv, hl, fun i q hq => ?_⟩
    obtain ⟨b1, b2⟩ := fm_at (p :: l) i q hq
    obtain ⟨g1, c1, hv1, _, _, hc1, _⟩ := rows_at h b1 (fm_len _)
    obtain ⟨g2, c2, hv2, _, _, hc2, _⟩ := rows_at h b2 (fm_len _)
    obtain ⟨rfl, _⟩ : g1 = g ∧ c1 = cap := by rw [hv] at hv1; simpa [eq_comm] using hv1
    obtain ⟨rfl, _⟩ : g2 = g1 ∧ c2 = cap := by rw [hv] at hv2; simpa [eq_comm] using hv2
    rw [Nat.zero_add]
    exact ⟨hc1, hc2⟩
/-- The files that are left. -/
theorem open_cut {k : Nat} {now : T} {data : List UInt8} {steps : List Stp} {told : List (List UInt8)} {ends : List Nat} {safes : List Int} {safe : Int} (hL : TL 0 k now data steps told ends safes safe) (c : Nat) (h3 : 3 ≤ c) (hc : c ≤ steps.length) (w : World) (base : Nat) (v : Value) (fs : List Pf) (hsd : Sd w)
    (hown : w.ownsRow base 115 2 v fs.length (fs.flatMap fun p : Pf => [sv p.1, sv p.2])) (hlen : fs.length = (disk (steps.take c)).length) (hfs : ∀ (i : Nat) (f : Fl) (p : Pf), (disk (steps.take c))[i]? = some f → fs[i]? = some p → p.1 = f.name ∧ ∃ n, f.safe ≤ n ∧ p.2 = f.data.take n) :
    Calls Tryz.prog 22 #[v] w fun e w' => ∃ rb pb cap S mv stv g st t1, e = .returned (.tuple #[.pointer (some ⟨rb, 0, none⟩), .int .i64 0]) ∧ RS w' rb pb cap S t1 mv stv g st ∧ st.length ≤ 3 ∧ (fid g LOG).length ≤ 1000000 ∧ w.heap.size ≤ rb ∧ w.heap.size ≤ pb ∧ (∀ b ∈ S, w.heap.size ≤ b) ∧ Fr [] w w' ∧ GG t1 ∧ t1.turn ≤ 1000 ∧ tellB t1 ∈ told.take (dkOf ends c + 1) ∧ leastOf safes (dkOf ends c) ≤ t1.turn := by
  obtain ⟨t0, l, ns, hi, hD⟩ := hL.inv.cut c h3 hc
  obtain ⟨ln1, ln2⟩ := hi.lens
  have hbd := hi.bd
  have hlog3 : LOG.length = 3 := by decide
  have hlog4 : LOG1.length ≤ 10 := by decide
  have n02 : ¬ LOG = LOG2 := by decide
  have n12 : ¬ LOG1 = LOG2 := by decide
  obtain ⟨n, hn, he⟩ : ∃ n, (logB t0 (l.take ns)).length ≤ n ∧ (fs = [(LOG, (logB t0 l).take n)] ∨ ∃ d, d.length ≤ 30000 ∧ fs = [(LOG, (logB t0 l).take n), (LOG1, d)]) := by
    rcases hD with hD | ⟨d1, s1, hD, hs1, hd1⟩
    · rw [hD] at hlen hfs
      match fs, hlen with
      | [p], _ =>
        obtain ⟨e1, n, h1, h2⟩ := hfs 0 _ p rfl rfl
        exact ⟨n, h1, Or.inl (by rw [show p = (p.1, p.2) from rfl, e1, h2]; rfl)⟩
    · rw [hD] at hlen hfs
      match fs, hlen with
      | [p, q], _ =>
        obtain ⟨e1, n, h1, h2⟩ := hfs 0 _ p rfl rfl
        obtain ⟨f1, m, g1, g2⟩ := hfs 1 _ q rfl rfl
        refine ⟨n, h1, Or.inr ⟨q.2, by rw [g2, List.length_take]; exact Nat.le_trans (Nat.min_le_right _ _) hd1, ?_⟩⟩
        rw [show p = (p.1, p.2) from rfl, e1, h2, show q = (q.1, q.2) from rfl, f1]
        rfl
  obtain ⟨hk, t1, ht1, hg1, hg2, hg3, hg4⟩ := CutOk.found hi n hn
  have htk : ((logB t0 l).take n).length ≤ 200000 := by rw [List.length_take]; exact Nat.le_trans (Nat.min_le_right _ _) ln1
  have hop := recOpen_any v fs t0 l n w (files_of hown) (by
      rcases he with rfl | ⟨d, hd, rfl⟩
      · simp
      · simp [ne01]) (fun p hp => by
      rcases he with rfl | ⟨d, hd, rfl⟩
      · have : p = (LOG, (logB t0 l).take n) := by simpa using hp
        subst this
        dsimp only
        omega
      · rcases List.mem_cons.1 hp with e | e
        · subst e
          dsimp only
          omega
        · have : p = (LOG1, d) := by simpa using e
          subst this
          dsimp only
          omega) (by
      rcases he with rfl | ⟨d, hd, rfl⟩
      · simp
      · simp) (by
      rcases he with rfl | ⟨d, hd, rfl⟩
      · simp [lookF]
      · simp [lookF]) (by
      rcases he with rfl | ⟨d, hd, rfl⟩
      · intro _; simp [lookF, n02]
      · intro _; simp [lookF, n02, n12]) hsd hi.gg hbd hi.sh hk
  refine Calls.mono hop ?_
  rintro e w' ⟨rb, pb, cap, S, mv, stv, g, st, rfl, hrs, r1, r2, r3, r4, r5, hf⟩
  rw [← ht1] at hrs
  exact ⟨rb, pb, cap, S, mv, stv, g, st, t1, rfl, hrs, r1, r2, r3, r4, r5, hf, hg1, hg2, hg3, hg4⟩
theorem dk_lt : ∀ (ends : List Nat) (c j : Nat), j < dkOf ends c → ∃ e, ends[j]? = some e ∧ e ≤ c
  | [], c, j, h => by simp [dkOf] at h
  | x :: l, c, j, h => by
    by_cases hx : x ≤ c
    · cases j with
      | zero => exact ⟨x, rfl, hx⟩
      | succ j =>
        have : j < dkOf l c := by
          unfold dkOf at h ⊢
          rw [List.takeWhile_cons_of_pos (by simpa using hx), List.length_cons] at h
          omega
        obtain ⟨e, h1, h2⟩ := dk_lt l c j this
        exact ⟨e, by simpa using h1, h2⟩
    · unfold dkOf at h
      rw [List.takeWhile_cons_of_neg (by simpa using hx)] at h
      simp at h
theorem dk_end : ∀ (ends : List Nat) (c j : Nat), j = dkOf ends c → j < ends.length → ∃ e, ends[j]? = some e ∧ c < e
  | [], c, j, _, h => by simp at h
  | x :: l, c, j, hj, h => by
    by_cases hx : x ≤ c
    · unfold dkOf at hj
      rw [List.takeWhile_cons_of_pos (by simpa using hx), List.length_cons] at hj
      subst hj
      obtain ⟨e, h1, h2⟩ := dk_end l c _ rfl (by simpa [dkOf] using h)
      exact ⟨e, by simpa [dkOf] using h1, h2⟩
    · unfold dkOf at hj
      rw [List.takeWhile_cons_of_neg (by simpa using hx)] at hj
      subst hj
      exact ⟨x, rfl, by omega⟩
def leastTo (safes : List Int) (j : Nat) : Int := if j = 0 then 0 else leastOf safes j
theorem leastTo_next {safes : List Int} {j : Nat} {s : Int} (h : safes[j]? = some s) : leastTo safes (j + 1) = s := by
  unfold leastTo leastOf
  rw [if_neg (by omega), Nat.add_sub_cancel, h]
  rfl
end Go.Proofs.YtapabahhfanmmaaGreatDoor
