import Derived.Test.YtapabahhfanmmaaGreatDoorCStart
import Derived.Test.YtapabahhfanmmaaGreatDoorCLift
import Derived.Test.YtapabahhfanmmaaGreatDoorCCmds2
/- A game is begun. -/
namespace Go.Proofs.YtapabahhfanmmaaGreatDoor
open Go.RowKit

set_option maxRecDepth 100000 in
set_option maxHeartbeats 2000000 in
theorem begun_any (v : Value) (cs : List Int) (w : World) (hv : IntsV w v cs) (hsd : Sd w) :
    Calls Tryz.prog 10 #[v] w fun e w' => ∃ gb pb cap, e = .returned (.pointer (some ⟨gb, 0, none⟩)) ∧ GS w' gb pb cap (startT cs) ∧ w.heap.size ≤ gb ∧ w.heap.size ≤ pb ∧ Fr [] w w' := by
  have hpos := hsd.pos
  obtain ⟨T0, hT0⟩ : ∃ x, x = startT [] := ⟨_, rfl⟩
  have HT0 := (show Hid _ from hT0)
  have hok0 : GOk T0 := by rw [hT0]; exact start_ok []
  have ht0 : T0.turn = 0 := by rw [hT0]; rfl
  obtain ⟨L0, hL0⟩ : ∃ x, x = textTo [] 144 := ⟨_, rfl⟩
  have HN0 : Hid (∀ w : World, 0 < w.heap.size → Calls Tryz.prog 32 #[.string ⟨L0.toArray⟩] w fun e w' => ∃ gb pb cap, e = .returned (.tuple #[.pointer (some ⟨gb, 0, none⟩), .int .i64 0]) ∧ GS w' gb pb cap T0 ∧ w.heap.size ≤ gb ∧ w.heap.size ≤ pb ∧ Fr [] w w') := by
    intro w hw; rw [hL0, hT0]; exact new_any [] w hw
  have HX0 : Hid (∀ w : World, Calls Tryz.prog 12 #[.slice none 0 0] w fun e w' => e = .returned (.string ⟨L0.toArray⟩) ∧ Fr [] w w') := by
    intro w; rw [hL0]; exact text_nil none 0 w
  clear hT0 hL0
  go_enter Tryz.func10, Tryz.ntmps10
  go_wp2_with (first | (go_at_call 12; refine Calls.mono (HX0.out _) ?_; rintro e w1 ⟨rfl, hf1⟩) | (go_at_call 32; refine Calls.mono (HN0.out _ (by have := hf1.size; omega)) ?_; rintro e w2 ⟨gb0, pb0, cap0, rfl, hg0, hl0, hp0, hf2⟩))
  have hw2 : Fr [] w w2 := hf1.then0 hf2
  obtain ⟨W3, hW3⟩ : ∃ W, W = w2.alloc (.cells #[ii 1, ii 4, ii 2, ii 0, ii 0, ii 2, ii 4, ii 2, ii 0, ii 0] 81) := ⟨_, rfl⟩
  rw [← hW3]
  have hw3 : Fr [] w W3 := by rw [hW3]; exact hw2.alloc _
  have hg3 : GS W3 gb0 pb0 cap0 T0 := hg0.fr (by rw [hW3]; exact (Fr.refl [] w2).alloc _) (by simp) (by simp)
  have hcm : CmdV W3 (.slice (some ⟨w2.heap.size, 0, none⟩) 2 2) firstCmds := cmds_of (c1 := ⟨1, 4, 2, 0, 0⟩) (c2 := ⟨2, 4, 2, 0, 0⟩) (by rw [hW3]; exact hp_new _ _) 2
  have hsz2 := hw2.size
  have hsz3 := hw3.size
  have hsd3 := hsd.fr0 hw3
  obtain ⟨f1, f2, f3⟩ := first_turn
  obtain ⟨T1, hT1⟩ : ∃ x, x = (playT T0 firstCmds []).1 := ⟨_, rfl⟩
  have hpl := gamePlay_any gb0 pb0 cap0 T0 firstCmds [] _ _ W3 hg3 hsd3 hok0 ⟨by omega, by omega⟩ hcm cmds_nil (by decide) (by decide)
  have hpo := play_ok hok0 firstCmds [] (by omega)
  rw [← HT0.out] at f1 f2 f3
  rw [← hT1] at f1 f3 hpl hpo
  rw [f2] at hpl
  clear hW3 f2 hT1 hcm
  refine Calls.mono hpl ?_
  rintro e w4 ⟨v4, pb4, cap4, rfl, hf4, hg4, _, hrefs⟩
  dsimp only
  obtain ⟨rb, rc, g, ac, bo, bc, rfl, r0, r1, r2, hrb, hgb⟩ := hrefs.one
  clear hrefs
  obtain ⟨u1, u2, u3, hus⟩ : ∃ u1 u2 u3, T1.us = [u1, u2, u3] := by
    have := congrArg List.length f1
    simp at this
    match hx : T1.us, this with
    | [a, b, c], _ => exact ⟨a, b, c, rfl⟩
  rw [hus] at f1
  simp at f1
  obtain ⟨_, _, i3, x3, y3⟩ := f1
  have hs1 := hf1.size
  have hw4 : Fr [] w w4 := hw3.trans hf4 (by simp; omega)
  have hlrb := lt_of_cell r0
  have hlg := lt_of_cell r2
  have hlk := look_any gb0 pb4 cap4 T1
  rw [f3] at hlk
  have HLK := (show Hid _ from hlk)
  have HX1 : Hid (∀ W : World, Fr [] w W → Calls Tryz.prog 12 #[v] W fun e w' => e = .returned (.string ⟨(textTo cs 144).toArray⟩) ∧ Fr [] W w') := by
    intro W hW
    rcases hv with ⟨ao, lc, rfl, rfl⟩ | ⟨lb, lo, lc, rfl, hcs, hbd⟩
    · exact text_nil ao lc W
    · exact text_blk lb lo lc cs W (fun i hi => (hW.cell _ _ (lt_of_cell (hcs i hi)) (by simp)).trans (hcs i hi)) hbd
  have HN1 : Hid (∀ w : World, 0 < w.heap.size → Calls Tryz.prog 32 #[.string ⟨(textTo cs 144).toArray⟩] w fun e w' => ∃ gb pb cap, e = .returned (.tuple #[.pointer (some ⟨gb, 0, none⟩), .int .i64 0]) ∧ GS w' gb pb cap (startT cs) ∧ w.heap.size ≤ gb ∧ w.heap.size ≤ pb ∧ Fr [] w w') := fun w hw => new_any cs w hw
  obtain ⟨L1, hL1⟩ : ∃ x, x = textTo cs 144 := ⟨_, rfl⟩
  rw [← hL1] at HX1 HN1
  have HUS := (show Hid _ from hus)
  have hlen3 : T1.us.length = 3 := by rw [hus]; rfl
  have hppl := people_any gb0 pb4 cap4 T1
  rw [hlen3] at hppl
  have HPP := (show Hid _ from hppl)
  have HSZ : Hid (w.heap.size ≤ w1.heap.size) := hf1.size
  clear hlk hL1 hus hlen3 hppl hok0 ht0 hpo hpl hg3 hsd3 hv f3 hg0 hl0 hp0 hs1 HN0 HX0 hf1
  go_wp2_with (go_at_call 34; refine Calls.mono (HPP.out _ hg4) ?_; rintro e w5 ⟨pb5, cap5, rfl, hb5, hrow5, hf5⟩; have q0 := (hf5.cell rb 0 hlrb (by simp)).trans r0; have q1 := (hf5.cell rb 1 hlrb (by simp)).trans r1; have q2 := (hf5.cell g 0 hlg (by simp)).trans r2; obtain ⟨c0, c1, c2, c3, c4, c5, c6, c7, c8, c9, c10⟩ := hrow5.ppl.at (u := u3) (k := 2) (by rw [HUS.out]; rfl); rw [i3] at c0; rw [x3] at c3; rw [y3] at c4; have hg5 := hg4.fr hf5 (by simp) (by simp); have hw5 := hw4.then0 hf5; clear r0 r1 r2 hrow5 hf5 c1 c2 c5 c6 c7 c8 c9 c10)
  have hfs : ∀ (a b c d : Int) (w : World), (Instr.field 56 (.agg #[ii a, ii b, ii c, ii d]) 2).run Tryz.prog w = .ok (.agg #[ii c, ii d]) w := fun a b c d w => by kernel_rfl
  have hix : ∀ (a b : Int) (w : World), (Instr.index 54 (.agg #[ii a, ii b]) (.int .i64 0)).run Tryz.prog w = .ok (ii a) w := fun a b w => by kernel_rfl
  refine Calls.mono (HLK.out _ hg5) ?_
  rintro e w6 ⟨rfl, hf6⟩
  dsimp only
  have hw6 := hw5.then0 hf6
  have h6p : 0 < w6.heap.size := by have := hw6.size; omega
  clear c0 c3 c4 q0 q1 q2 hg5
  go_wp2_with (first | (go_at_call 12; refine Calls.mono (HX1.out _ hw6) ?_; rintro e w7 ⟨rfl, hf7⟩; have hw7 := hw6.then0 hf7; have h7p : 0 < w7.heap.size := Nat.lt_of_lt_of_le h6p hf7.size) | (go_at_call 32; refine Calls.mono (HN1.out _ h7p) ?_; rintro e w8 ⟨gb8, pb8, cap8, rfl, hg8, hl8, hp8, hf8⟩))
  go_ret
  have h7s := hw7.size
  exact ⟨gb8, pb8, cap8, rfl, hg8, by omega, by omega, hw7.then0 hf8⟩
end Go.Proofs.YtapabahhfanmmaaGreatDoor
