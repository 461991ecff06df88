import Derived.Test.YtapabahhfanmmaaGreatDoorCTornO
import Derived.Test.YtapabahhfanmmaaGreatDoorCTornL
import Derived.Test.YtapabahhfanmmaaGreatDoorCBegun
import Derived.Test.YtapabahhfanmmaaGreatDoorCLift
import Derived.Deep.CutBlock
/- Torn. -/
namespace Go.Proofs.YtapabahhfanmmaaGreatDoor
open Go.RowKit

theorem IntsV.fr00 {w w' : World} {v : Value} {l : List Int} (h : IntsV w v l) (hf : Fr [] w w') : IntsV w' v l := by
  rcases h with h | ⟨lb, lo, lc, h1, h2, h3⟩
  · exact Or.inl h
  · exact Or.inr ⟨lb, lo, lc, h1, fun i hi => (hf.cell _ _ (lt_of_cell (h2 i hi)) (by simp)).trans (h2 i hi), h3⟩
theorem text_of (v : Value) (cs : List Int) (w : World) (h : IntsV w v cs) : Calls Tryz.prog 12 #[v] w fun e w' => e = .returned (.string ⟨(textTo cs 144).toArray⟩) ∧ Fr [] w w' := by
  rcases h with ⟨ao, lc, rfl, rfl⟩ | ⟨lb, lo, lc, rfl, h2, h3⟩
  · exact text_nil ao lc w
  · exact text_blk lb lo lc cs w h2 h3
theorem rows_low {w : World} {base base' n : Nat} {e : TypeId} {size : Nat} {v : Value} {xs : List Value} (h : w.ownsRow base e size v n xs) (hb : base' ≤ base) : w.ownsRow base' e size v n xs :=
  ⟨h.1, h.2.imp id (fun ⟨g, cap, cur, a, b, c⟩ => ⟨g, cap, cur, a, Nat.le_trans hb b, c⟩)⟩
/-- What cutOff is to do: shown in the text CutO. -/
def CutOffOk : Prop := ∀ (v gv : Value) (steps : List Stp) (gone : List Int) (cut : Nat) (w : World), w.ownsRow 0 113 4 v steps.length (steps.flatMap Stp.cells) → cut ≤ steps.length → steps.length ≤ 10000000 → IntsV w gv gone → Tidy steps →
    Calls Tryz.prog 21 #[v, .int .i64 cut, gv] w fun e w' => ∃ (lv : Value) (fs : List Pf), e = .returned lv ∧ w'.ownsRow w.heap.size 115 2 lv fs.length (fs.flatMap fun p : Pf => [sv p.1, sv p.2]) ∧ fs.length = (disk (steps.take cut)).length ∧ (∀ (i : Nat) (f : Fl) (p : Pf), (disk (steps.take cut))[i]? = some f → fs[i]? = some p → p.1 = f.name ∧ ∃ n, f.safe ≤ n ∧ p.2 = f.data.take n) ∧ Fr [] w w'
theorem infoTurnK : (Tryz.prog.info? 45).map (·.size) = some 20 := by kernel_rfl

theorem infoStr : (Tryz.prog.info? 9).map (fun i => (i.zero, i.size, i.bytes)) = some (some (.string ⟨#[]⟩), 1, 16) := by kernel_rfl
theorem infoIn8 : (Tryz.prog.info? 3).map (fun i => (i.zero, i.size, i.bytes)) = some (some (ii 0), 1, 8) := by kernel_rfl
theorem TJ.steps {W : World} {rb pb cap : Nat} {S : List Nat} {now : T} {data : List UInt8} {steps : List Stp} {told : List (List UInt8)} {ends : List Nat} {safes : List Int} {tv ev zv : Value} {w : World} (h : TJ W rb pb cap S now data steps told ends safes tv ev zv w) (hl : steps.length ≤ 10000000) (h0 : 0 < steps.length) :
    Calls Tryz.prog 13 #[.pointer (some ⟨rb, 0, none⟩)] w fun e w' => ∃ so sc, e = .returned (.slice so steps.length sc) ∧ w'.ownsRow w.heap.size 113 4 (.slice so steps.length sc) steps.length (steps.flatMap Stp.cells) ∧ Fr [] w w' := by
  obtain ⟨mv, stv, g, r1, r2, r3⟩ := h.rc
  refine Calls.mono (recSteps_any w r1 hl h0) ?_
  rintro e w' ⟨v, rfl, ho, hf⟩
  obtain ⟨so, sc, rfl⟩ := rows_slice ho
  exact ⟨so, sc, rfl, ho, hf⟩
theorem new_one (W : World) (x : Value) (ty : TypeId) : ∀ (q : Nat) (y : Value), ([x] : List Value)[q]? = some y → (W.alloc (.cells #[x] ty)).cell? ((⟨W.heap.size, 0, none⟩ : Addr).add q) = some y := by
  intro q y hy
  rw [Addr.add_lit, Nat.zero_add, cell_of_heap (hp_new W _)]
  simpa using hy
theorem own_lit {w : World} {base b : Nat} {x : Value} {ty : TypeId} (h : w.heap[b]? = some (.cells #[x] ty)) (hb : base ≤ b) : w.ownsRow base ty 1 (.slice (some ⟨b, 0, none⟩) 1 1) 1 [x] :=
  ⟨rfl, Or.inr ⟨b, 1, #[x], rfl, hb, h, Nat.le_refl _, by unfold maxLen; omega, rfl, rfl⟩⟩
/-- What the loop holds at its head. -/
def TIn (W : World) (rb n : Nat) (g tv ev zv sf i : Value) (wr : World) : Prop :=
  ∃ (k gb pb cap : Nat) (S : List Nat) (now : T) (data : List UInt8) (steps : List Stp) (told : List (List UInt8)) (ends : List Nat) (safes : List Int) (safe : Int), k ≤ n ∧ k ≤ 300 ∧ g = .pointer (some ⟨gb, 0, none⟩) ∧ sf = ii safe ∧ i = .int .i64 k ∧ TJ W rb pb cap S now data steps told ends safes tv ev zv wr ∧ GJ W rb gb pb cap S now tv ev zv wr ∧ TL 0 k now data steps told ends safes safe
theorem tin_start {W w3 w6 : World} {rb pb cap gb n : Nat} {S : List Nat} {T0 : T} {mv stv v' : Value} (hrs : RS w6 rb pb cap S T0 mv stv (fun k => if k = LOG then some (v', frameB 2 (tellB T0)) else none) [sApp LOG1 (frameB 2 (tellB T0)), sSync LOG1, sRen LOG1 LOG]) (hgs : GS w6 gb pb cap T0) (hgg : GG T0) (h0 : T0.turn = 0) (hF : Fr [] W w6) (hlt : ∀ b ∈ rb :: pb :: S, b < w3.heap.size) (hgb : w3.heap.size ≤ gb) (hw3 : W.heap.size ≤ w3.heap.size) (hup : ∀ b ∈ rb :: pb :: S, W.heap.size ≤ b) :
    TIn W rb n (.pointer (some ⟨gb, 0, none⟩)) (.slice (some ⟨w6.heap.size, 0, none⟩) 1 1) (.slice (some ⟨w6.heap.size + 1, 0, none⟩) 1 1) (.slice (some ⟨w6.heap.size + 1 + 1, 0, none⟩) 1 1) (ii 0) (.int .i64 0) (((w6.alloc (.cells #[sv (tellB T0)] 9)).alloc (.cells #[ii 3] 3)).alloc (.cells #[ii 0] 3)) := by
  obtain ⟨W3, hW3⟩ : ∃ x, x = ((w6.alloc (.cells #[sv (tellB T0)] 9)).alloc (.cells #[ii 3] 3)).alloc (.cells #[ii 0] 3) := ⟨_, rfl⟩
  have hf : Fr [] w6 W3 := by rw [hW3]; exact (((Fr.refl _ _).alloc _).alloc _).alloc _
  have hbl := hrs.blocks
  have hsz := hF.size
  have hgl := hgs.lt
  have e0 : W3.heap[w6.heap.size]? = some (.cells #[sv (tellB T0)] 9) := by rw [hW3, hp_old _ _ _ (by simp; omega), hp_old2]
  have e1 : W3.heap[w6.heap.size + 1]? = some (.cells #[ii 3] 3) := by rw [hW3, hp_old _ _ _ (by simp), hp_new2]
  have e2 : W3.heap[w6.heap.size + 1 + 1]? = some (.cells #[ii 0] 3) := by
    rw [hW3, ← show ((w6.alloc (.cells #[sv (tellB T0)] 9)).alloc (.cells #[ii 3] 3)).heap.size = w6.heap.size + 1 + 1 by simp]
    exact hp_new _ _
  rw [← hW3]
  have far : ∀ (x c : Nat) (m : Nat) (L : List Nat), w6.heap.size ≤ x → (∀ b ∈ L, b < w6.heap.size) → Far (.slice (some ⟨x, 0, none⟩) m c) L := fun x c m L hx hL b hb hm => by
    have e : x = b := by simpa [Value.ownBlock] using hb
    have := hL b hm
    omega
  have two : ∀ (x y c d m l : Nat), x ≠ y → Two (.slice (some ⟨x, 0, none⟩) m c) (.slice (some ⟨y, 0, none⟩) l d) := fun x y c d m l hxy b h1 h2 => by
    have e1 : x = b := by simpa [Value.ownBlock] using h1
    have e2 : y = b := by simpa [Value.ownBlock] using h2
    omega
  have hg1 : ∀ b ∈ [gb], b < w6.heap.size := fun b hb => by simp at hb; omega
  refine ⟨0, gb, pb, cap, S, T0, _, _, [tellB T0], [3], [0], 0, Nat.zero_le _, by omega, rfl, rfl, rfl, ?_, ?_, TL.first hgg h0⟩
  · exact { rc := ⟨mv, stv, _, hrs.fr0 hf, fun m hm => by simp [hm], fid_if (g := fun _ => none)⟩
            up := hup
            ft := far _ _ _ _ (Nat.le_refl _) hbl
            fe := far _ _ _ _ (by omega) hbl
            fz := far _ _ _ _ (by omega) hbl
            told := own_lit e0 hsz
            ends := own_lit e1 (by omega)
            safes := own_lit e2 (by omega)
            te := two _ _ _ _ _ _ (by omega)
            tz := two _ _ _ _ _ _ (by omega)
            ez := two _ _ _ _ _ _ (by omega)
            fr := hF.then0 hf }
  · refine ⟨hgs.fr hf (by simp) (by simp), fun hm => ?_, by omega, far _ _ _ _ (Nat.le_refl _) hg1, far _ _ _ _ (by omega) hg1, far _ _ _ _ (by omega) hg1⟩
    have := hlt gb (by
      rcases List.mem_cons.1 hm with e | e
      · simp [e]
      · simp [e])
    omega

set_option maxRecDepth 100000 in
set_option maxHeartbeats 8000000 in
theorem torn_walk (hco : CutOffOk) (W : World) (v0 v1 v2 v4 : Value) (cs : List Int) (n : Nat) (f : Nat → Int) (sy : List Int) (place : Int) (gone : List Int) (hv0 : IntsV W v0 cs) (hv1 : TurnsV W v1 n f) (hv2 : IntsV W v2 sy) (hpl : I64 place) (hv4 : IntsV W v4 gone) (hsd : Sd W) (hW : 0 < W.heap.size) : Calls Tryz.prog 7 #[v0, v1, v2, .int .i64 place, v4] W fun e W' => e = .returned (.bool true) ∧ Fr [] W W' := by
  obtain ⟨a1, lc, rfl⟩ : ∃ a1 lc, v1 = .slice a1 n lc := by
    rcases hv1 with ⟨ao, lc, rfl, rfl⟩ | ⟨lb, lo, lc, rfl, _⟩
    · exact ⟨_, _, rfl⟩
    · exact ⟨_, _, rfl⟩
  obtain ⟨a2, lc2, rfl⟩ : ∃ a2 lc2, v2 = .slice a2 sy.length lc2 := by
    rcases hv2 with ⟨ao, lc, rfl, rfl⟩ | ⟨lb, lo, lc, rfl, _⟩
    · exact ⟨_, _, rfl⟩
    · exact ⟨_, _, rfl⟩
  have HT := (show Hid _ from hv1)
  have HCO := (show Hid _ from hco)
  clear hco
  have hbg := begun_any v0 cs W hv0 hsd
  have HV0 := (show Hid _ from hv0)
  have HV2 := (show Hid _ from hv2)
  have HV4 := (show Hid _ from hv4)
  clear hv0 hv1 hv2 hv4
  go_enter Tryz.func7, Tryz.ntmps7
  go_wp2_with fail
  refine Calls.mono hbg ?_
  rintro e w1 ⟨ob, opb, ocap, rfl, _, _, _, hf1⟩
  dsimp only
  clear hbg
  have htx := text_of v0 cs w1 (IntsV.fr00 HV0.out hf1)
  go_wp2_with fail
  refine Calls.mono htx ?_
  rintro e w2 ⟨rfl, hf2⟩
  dsimp only
  have hF2 := hf1.then0 hf2
  have hbn := recBegin_any cs w2 (by have := hF2.size; omega)
  obtain ⟨TX, hTX⟩ : ∃ x : ByteArray, x = ⟨(textTo cs 144).toArray⟩ := ⟨_, rfl⟩
  rw [← hTX] at hbn ⊢
  clear htx hTX hf1 hf2
  go_wp2_with fail
  refine Calls.mono hbn ?_
  rintro e w3 ⟨rb, pb, cap, S, mv, stv, v', rfl, hrs, hrb, hpb, hS, hf3⟩
  dsimp only
  have hF3 := hF2.then0 hf3
  have hsz2 := hF2.size
  have hgg : GG (startT cs) := ⟨start_ok cs, start_os cs, by show (0 : Int) ≤ 0; omega⟩
  have hst := recSteps_any w3 hrs (by simp) (by simp)
  obtain ⟨T0, hT0⟩ : ∃ x, x = startT cs := ⟨_, rfl⟩
  have htn0 : T0.turn = 0 := by rw [hT0]; rfl
  rw [← hT0] at hgg hrs
  have HST := (show Hid _ from hst)
  have HRS := (show Hid _ from hrs)
  clear hbn hT0 hst hrs
  go_wp2_with fail
  refine Calls.mono HST.out ?_
  rintro e w4 ⟨sv4, rfl, hown4, hf4⟩
  dsimp only
  obtain ⟨so4, sc4, rfl⟩ := rows_slice hown4
  clear hown4 HST
  have hrs4 := HRS.out.fr0 hf4
  have HGM := (show Hid _ from recGame_any w4 hrs4)
  clear hrs4
  go_wp2_with fail
  refine Calls.mono HGM.out ?_
  rintro e w5 ⟨gb, rfl, hgb5, hgs5, hf5⟩
  dsimp only
  clear HGM
  have HTL := (show Hid _ from tell_any gb pb cap T0 w5 hgs5 (nums_bd hgg.ok hgg.os (by omega)) hgg.ok.len)
  have HGS := (show Hid _ from hgs5)
  clear hgs5
  go_wp2_with fail
  refine Calls.mono HTL.out ?_
  rintro e w6 ⟨rfl, hf6⟩
  dsimp only
  have HIN : Hid (TIn W rb n (.pointer (some ⟨gb, 0, none⟩)) (.slice (some ⟨w6.heap.size, 0, none⟩) 1 1) (.slice (some ⟨w6.heap.size + 1, 0, none⟩) 1 1) (.slice (some ⟨w6.heap.size + 1 + 1, 0, none⟩) 1 1) (ii 0) (.int .i64 0) (((w6.alloc (.cells #[sv (tellB T0)] 9)).alloc (.cells #[ii 3] 3)).alloc (.cells #[ii 0] 3))) := by
    have hbl := HRS.out.blocks
    have h3 := hF3.size
    have h34 := hf4.size
    have hF6 : Fr [] w3 w6 := (hf4.then0 hf5).then0 hf6
    exact tin_start (HRS.out.fr0 hF6) (HGS.out.fr hf6 (by simp) (by simp)) hgg htn0 (hF3.then0 hF6) hbl (by omega) h3 (fun b hb => by
      rcases List.mem_cons.1 hb with rfl | hb
      · omega
      rcases List.mem_cons.1 hb with rfl | hb
      · omega
      · have := hS b hb
        omega)
  clear HTL HGS HRS hgg htn0
  go_wp2_with fail
  go_loopw [15, 16, 17, 18, 19, 20] (fun g tv ev zv sf i wr => TIn W rb n g tv ev zv sf i wr) (fun _ _ _ _ _ i _ => 300 - (intOf i).toNat)
  case atStart => exact HIN.out
  case round =>
    obtain ⟨k, gb, pb, cap, S, now, data, steps, told, ends, safes, safe, hk, hk3, rfl, rfl, rfl, hJ, hG, hL⟩ := hrel
    clear HIN
    by_cases hgo : k < n ∧ k < 300
    · obtain ⟨hlt, h300⟩ := hgo
      have hlti : (k : Int) < (n : Int) := by omega
      have h300i : (k : Int) < 300 := by omega
      obtain ⟨lb, lo, e, rfl, hc⟩ : ∃ (lb lo : Nat) (e : Nat → Int), a1 = some ⟨lb, lo, none⟩ ∧ ∀ j, j < 20 → W.cell? ⟨lb, lo + k * 20 + j, none⟩ = some (ii (e j)) ∧ I64 (e j) := by
        rcases HT.out with ⟨ao, lc', e1, e2⟩ | ⟨lb, lo, lc', e1, hcc, _⟩
        · omega
        · refine ⟨lb, lo, fun j => f (k * 20 + j), by simpa using congrArg (fun v : Value => match v with | .slice a _ _ => a | _ => none) e1, fun j hj => ?_⟩
          have := hcc (k * 20 + j) (by omega)
          rw [← Nat.add_assoc] at this
          exact this
      have hgg := hL.inv.gg.1
      have hdl := hL.inv.gg.2
      have htn := hL.tn
      obtain ⟨tl, htl, hrg, hor⟩ := turn_row2 gb now e W lb (lo + k * 20) (fun j hj => (hc j hj).1) (fun j hj => (hc j hj).2) hgg.ok.len
      have hrg1 := hrg wr hJ.fr
      have HOR := (show Hid _ from hor pb cap wr hG.gs)
      have HTL : Hid ((Tryz.prog.info? 45).map (·.size) = some tl.length) := by show _ = _; rw [htl]; exact infoTurnK
      have HJ := (show Hid _ from hJ)
      have HG := (show Hid _ from hG)
      have HL := (show Hid _ from hL)
      clear hc htl hrg hor hJ hG hL
      go_wp2_with (refine wpList_load_mid rfl 45 _ rfl lb (lo + k * 20) rfl tl _ hrg1 Tryz.underlying45 rfl HTL.out ?_)
      refine Calls.mono HOR.out ?_
      rintro e w7 ⟨x1, x2, rfl, ⟨c1, c2, hx1⟩, ⟨c3, c4, hx2⟩, hf7⟩
      dsimp only
      have hst := HL.out.st
      have hsd7 : Sd w7 := hsd.fr0 (HJ.out.fr.then0 hf7)
      have HPL := (show Hid _ from (HJ.out.fr0 hf7).play [c1, c2] [c3, c4] x1 x2 hsd7 hgg (by omega) hx1.v hx2.v (by simp) (by simp) (by omega) (by omega))
      have HL1 := (show Hid _ from HL.out.play h300 ([c1, c2], [c3, c4]) (by simp))
      clear hrg1 HOR HTL HJ HG HL hx1 hx2 hsd7 hdl
      go_wp2_with fail
      refine Calls.mono HPL.out ?_
      rintro e w8 ⟨v8, x8, y8, rfl, hr8, pb8, cap8, S8, hJ8⟩
      dsimp only
      obtain ⟨rb8, rc8, z0, z1, rfl, _⟩ := hr8
      obtain ⟨ta, tc, rfl⟩ := rows_slice hJ8.told
      obtain ⟨eo, ec, rfl⟩ := rows_slice hJ8.ends
      obtain ⟨zo, zc, rfl⟩ := rows_slice hJ8.safes
      have HJ8 := (show Hid _ from hJ8)
      have HGM := (show Hid _ from hJ8.game)
      clear HPL hJ8
      go_wp2_with fail
      refine Calls.mono HGM.out ?_
      rintro e w9 ⟨gb9, rfl, hJ9, hG9, hf9⟩
      dsimp only
      clear HGM HJ8
      obtain ⟨N8, hN8⟩ : ∃ x, x = playW now ([c1, c2], [c3, c4]) := ⟨_, rfl⟩
      obtain ⟨D8, hD8⟩ : ∃ x, x = data ++ turnFr now ([c1, c2], [c3, c4]) := ⟨_, rfl⟩
      obtain ⟨P8, hP8⟩ : ∃ x, x = steps ++ [sApp LOG (turnFr now ([c1, c2], [c3, c4]))] := ⟨_, rfl⟩
      have hpl8 : P8.length = steps.length + 1 := by rw [hP8]; simp
      rw [← hN8, ← hD8, ← hP8] at hJ9 HL1
      rw [← hN8] at hG9
      have hg8 := HL1.out.inv.gg.1
      have ht8 := HL1.out.tn
      have htl8 := HL1.out.len
      have hst8 := HL1.out.st
      have hl8a := HL1.out.inv.l1
      have hl8b := HL1.out.inv.l2
      have HTE := (show Hid _ from tell_any gb9 pb8 cap8 N8 w9 hG9.gs (nums_bd hg8.ok hg8.os ⟨hg8.t0, by omega⟩) hg8.ok.len)
      have HJ9 := (show Hid _ from hJ9)
      have HG9 := (show Hid _ from hG9)
      clear hN8 hD8 hP8 hJ9 hG9 hgg htn
      go_wp2_with fail
      refine Calls.mono HTE.out ?_
      rintro e w10 ⟨rfl, hf10⟩
      dsimp only
      have HJ10 := (show Hid _ from HJ9.out.fr0 hf10)
      have HG10 := (show Hid _ from HG9.out.fr0 hf10)
      have hw10 := HJ10.out.fr.size
      have htll : told.length ≤ 1000 := by rw [List.length_append] at htl8; simp at htl8; omega
      obtain ⟨B8, hB8⟩ : ∃ x, x = tellB N8 := ⟨_, rfl⟩
      rw [← hB8] at HL1 ⊢
      obtain ⟨X8, hX8⟩ : ∃ x : ByteArray, x = ⟨B8.toArray⟩ := ⟨_, rfl⟩
      rw [← hX8]
      have HX8 : Hid (Value.string X8 = sv B8) := by show _ = _; rw [hX8, sv]
      have HB8 := (show Hid _ from hB8)
      clear hB8 hX8 HTE HJ9 HG9
      have HJT : Hid (TJ W rb pb8 cap8 S8 N8 D8 P8 told ends safes (.slice ta told.length tc) (.slice eo ends.length ec) (.slice zo safes.length zc) (w10.alloc (.cells #[.string X8] 9))) := HJ10.out.fr0 ((Fr.refl [] w10).alloc _)
      have HFA := (show Hid _ from HJT.out.told)
      obtain ⟨ins, hi0, hz0, hz1, hz2⟩ := info_parts infoStr
      go_wp2_with (first
        | (at_builtin; refine wpList_append_own_at _ rfl _ _ 38 rfl W.heap.size 9 ins (.string ⟨#[]⟩) 1 16 Tryz.underlying38 hi0 hz0 hz1 hz2 rfl (by decide) (.slice ta told.length tc) told.length (told.map sv) rfl HFA.out ⟨w10.heap.size, 0, none⟩ 1 1 [.string X8] rfl rfl (new_one w10 (.string X8) _) (by simp [Value.oneCell']) (by unfold maxLen; omega) (by omega) (by simp; omega) ?_; intro v11 w11 hown11 hgrow11 hnil11 hat11))
      have HJ11 : Hid (TJ W rb pb8 cap8 S8 N8 D8 P8 (told ++ [B8]) ends safes v11 (.slice eo ends.length ec) (.slice zo safes.length zc) w11) := HJT.out.addT B8 (by rw [← HX8.out]; exact hown11) hgrow11 hat11
      have HG11 : Hid (GJ W rb gb9 pb8 cap8 S8 N8 v11 (.slice eo ends.length ec) (.slice zo safes.length zc) w11) := GJ.addT (GJ.fr0 HG10.out ((Fr.refl [] w10).alloc _)) (HJT.out.ft.sub (by simp)) hgrow11 hat11
      obtain ⟨ta, tc, rfl⟩ := rows_slice hown11
      have HSP := (show Hid _ from HJ11.out.steps (by omega) (by omega))
      have hlen1 : ends.length ≤ 1000 := by simp at hl8a; omega
      have hlen2 : safes.length ≤ 1000 := by simp at hl8b; omega
      have hpl9 : P8.length ≤ 2000 := by omega
      have hpl0 : 3 ≤ P8.length := HL1.out.inv.three
      have HPL8 := (show Hid _ from hpl8)
      clear hpl8
      clear hown11 hgrow11 hnil11 hat11 HJT HFA HJ10 HG10 hi0 hz0 hz1 hz2 hw10
      refine Calls.mono HSP.out ?_
      rintro e w12 ⟨so, sc, rfl, _, hf12⟩
      dsimp only
      have HJ12 := (show Hid _ from HJ11.out.fr0 hf12)
      have HG12 := (show Hid _ from HG11.out.fr0 hf12)
      have hw12 := HJ12.out.fr.size
      clear HSP HJ11 HG11
      obtain ⟨ini, hj0, hy0, hy1, hy2⟩ := info_parts infoIn8
      have HJE : Hid (TJ W rb pb8 cap8 S8 N8 D8 P8 (told ++ [B8]) ends safes (.slice ta (told.length + 1) tc) (.slice eo ends.length ec) (.slice zo safes.length zc) (w12.alloc (.cells #[ii (P8.length : Int)] 3))) := HJ12.out.fr0 ((Fr.refl [] w12).alloc _)
      have HEA := (show Hid _ from HJE.out.ends)
      go_upto_if 123 with (first
        | (at_builtin
           refine wpList_append_own_at _ rfl _ _ 25 rfl W.heap.size 3 ini (ii 0) 1 8 Tryz.underlying25 hj0 hy0 hy1 hy2 rfl (by decide) (.slice eo ends.length ec) ends.length (ends.map fun x : Nat => ii (x : Int)) rfl HEA.out ⟨w12.heap.size, 0, none⟩ 1 1 [ii (P8.length : Int)] rfl rfl (new_one w12 (ii (P8.length : Int)) _) (by simp [Value.oneCell']) (by unfold maxLen; omega) (by omega) (by simp; omega) ?_
           intro v13 w13 hown13 hgrow13 hnil13 hat13
           have HJ13 : Hid (TJ W rb pb8 cap8 S8 N8 D8 P8 (told ++ [B8]) (ends ++ [P8.length]) safes (.slice ta (told.length + 1) tc) v13 (.slice zo safes.length zc) w13) := HJE.out.addE P8.length hown13 hgrow13 hat13
           have HG13 : Hid (GJ W rb gb9 pb8 cap8 S8 N8 (.slice ta (told.length + 1) tc) v13 (.slice zo safes.length zc) w13) := GJ.addE (GJ.fr0 HG12.out ((Fr.refl [] w12).alloc _)) (HJE.out.fe.sub (by simp)) hgrow13 hat13
           obtain ⟨eo, ec, rfl⟩ := rows_slice hown13
           have hw13 := HJ13.out.fr.size
           have HJZ : Hid (TJ W rb pb8 cap8 S8 N8 D8 P8 (told ++ [B8]) (ends ++ [P8.length]) safes (.slice ta (told.length + 1) tc) (.slice eo (ends.length + 1) ec) (.slice zo safes.length zc) (w13.alloc (.cells #[ii safe] 3))) := HJ13.out.fr0 ((Fr.refl [] w13).alloc _)
           have HZA := (show Hid _ from HJZ.out.safes))
        | (at_builtin; refine wpList_append_own_at _ rfl _ _ 25 rfl W.heap.size 3 ini (ii 0) 1 8 Tryz.underlying25 hj0 hy0 hy1 hy2 rfl (by decide) (.slice zo safes.length zc) safes.length (safes.map fun x : Int => ii x) rfl HZA.out ⟨w13.heap.size, 0, none⟩ 1 1 [ii safe] rfl rfl (new_one w13 (ii safe) _) (by simp [Value.oneCell']) (by unfold maxLen; omega) (by omega) (by simp; omega) ?_; intro v14 w14 hown14 hgrow14 hnil14 hat14))
      have HJ14 : Hid (TJ W rb pb8 cap8 S8 N8 D8 P8 (told ++ [B8]) (ends ++ [P8.length]) (safes ++ [safe]) (.slice ta (told.length + 1) tc) (.slice eo (ends.length + 1) ec) v14 w14) := HJZ.out.addZ safe hown14 hgrow14 hat14
      have HG14 : Hid (GJ W rb gb9 pb8 cap8 S8 N8 (.slice ta (told.length + 1) tc) (.slice eo (ends.length + 1) ec) v14 w14) := GJ.addZ (GJ.fr0 HG13.out ((Fr.refl [] w13).alloc _)) (HJZ.out.fz.sub (by simp)) hgrow14 hat14
      obtain ⟨zo, zc, rfl⟩ := rows_slice hown14
      rw [← HPL8.out] at HL1
      clear hown14 hgrow14 hnil14 hat14 HJZ HZA HJ13 HG13 hown13 hgrow13 hnil13 hat13 HJE HEA HJ12 HG12
      go_cut [25] (fun s25 wx => ∃ q : Int, s25 = .int .i64 q ∧ 0 ≤ q ∧ q ≤ 4 ∧ Fr [] w14 wx)
      case first =>
        by_cases hks : k < sy.length
        · have hksi : (k : Int) < (sy.length : Int) := by omega
          obtain ⟨sb, so', rfl, hsc, hsi⟩ : ∃ sb so', a2 = some ⟨sb, so', none⟩ ∧ w14.cell? ⟨sb, so' + k, none⟩ = some (ii sy[k]) ∧ I64 sy[k] := by
            rcases HV2.out with ⟨ao, lc', e1, e2⟩ | ⟨b, o, lc', e1, h2, h3⟩
            · rw [e2] at hks; simp at hks
            · have hc1 := h2 k hks
              exact ⟨b, o, by simpa using congrArg (fun v : Value => match v with | .slice a _ _ => a | _ => none) e1, (HJ14.out.fr.cell _ _ (lt_of_cell hc1) (by simp)).trans hc1, h3 _ (List.getElem_mem _)⟩
          obtain ⟨Y, hY⟩ : ∃ Y, Y = sy[k] := ⟨_, rfl⟩
          rw [← hY] at hsc hsi
          have hqb := pk_bd Y 5 (by omega)
          have HPK : Hid (∀ W : World, Calls Tryz.prog 18 #[.int .i64 Y, .int .i64 5] W fun e w' => e = .returned (.int .i64 (pk Y 5)) ∧ W = w') := fun W => pick_any Y 5 W (by omega) hsi.1 hsi.2
          clear hY
          go_wp2_with (go_at_call 18; with_reducible refine Calls.mono (HPK.out _) ?_; rintro e w3 ⟨rfl, rfl⟩)
          go_meet
          exact ⟨_, rfl, by omega, by omega, Fr.refl _ _⟩
        · have hksi : ¬ (k : Int) < (sy.length : Int) := by omega
          go_wp2_with fail
          go_meet
          exact ⟨2, rfl, by omega, by omega, Fr.refl _ _⟩
      case rest =>
        obtain ⟨q, rfl, hq0, hq4, hfc⟩ := hcut
        have HJc := (show Hid _ from HJ14.out.fr0 hfc)
        have HGc := (show Hid _ from HG14.out.fr0 hfc)
        clear HJ14 HG14 hfc
        by_cases hq2 : q < 2
        · have HSY : Hid (TL 0 (k + 1) N8 D8 (P8 ++ [sSync LOG]) (told ++ [B8] ++ [B8]) (ends ++ [P8.length] ++ [(P8 ++ [sSync LOG]).length]) (safes ++ [safe] ++ [((k : Int) + 1)]) ((k : Int) + 1)) := by
            have h := HL1.out.sync (by omega)
            rw [ht8, ← HB8.out, show P8.length + 1 = (P8 ++ [sSync LOG]).length by simp] at h
            show TL _ _ _ _ _ _ _ _ _
            simpa using h
          have HFO : Hid (∃ D P, P = P8 ++ [sApp LOG1 (frameB 2 (tellB N8)), sSync LOG1, sRen LOG1 LOG] ∧ D = frameB 2 (tellB N8) ∧ TL 0 (k + 1) N8 D P (told ++ [B8] ++ [B8]) (ends ++ [P8.length] ++ [P.length]) (safes ++ [safe] ++ [((k : Int) + 1)]) ((k : Int) + 1)) := by
            have h := HL1.out.fold (by omega)
            rw [ht8, show P8.length + 3 = (P8 ++ [sApp LOG1 (frameB 2 (tellB N8)), sSync LOG1, sRen LOG1 LOG]).length by simp] at h
            refine ⟨_, _, rfl, rfl, ?_⟩
            rw [← HB8.out] at h ⊢
            simpa using h
          go_upto_if 130 with fail
          go_cut [19] (fun s19 wx => (q = 0 ∧ s19 = ii ((k : Int) + 1) ∧ ∃ S', TJ W rb pb8 cap8 S' N8 D8 (P8 ++ [sSync LOG]) (told ++ [B8]) (ends ++ [P8.length]) (safes ++ [safe]) (.slice ta (told.length + 1) tc) (.slice eo (ends.length + 1) ec) (.slice zo (safes.length + 1) zc) wx ∧ GJ W rb gb9 pb8 cap8 S' N8 (.slice ta (told.length + 1) tc) (.slice eo (ends.length + 1) ec) (.slice zo (safes.length + 1) zc) wx) ∨ (q = 1 ∧ s19 = ii safe ∧ wx = wc))
          case first =>
            by_cases hqz : q = 0
            · have HSN := (show Hid _ from HJc.out.sync HGc.out (by omega))
              subst hqz
              go_wp2_with fail
              refine Calls.mono HSN.out ?_
              rintro e w15 ⟨rfl, S15, hJ15, hG15⟩
              dsimp only
              have HJ15 := (show Hid _ from hJ15)
              have HG15 := (show Hid _ from hG15)
              clear hJ15 hG15 HSN
              go_wp2_with fail
              go_meet
              exact Or.inl ⟨by trivial, by go_num, S15, HJ15.out, HG15.out⟩
            · have hqo : q = 1 := by omega
              subst hqo
              go_wp2_with fail
              go_meet
              exact Or.inr ⟨by trivial, rfl, rfl⟩
          case rest =>
            have HC := (show Hid _ from hcut)
            clear hcut
            go_upto_if 136 with fail
            go_cut [19] (fun s19 wx => s19 = ii ((k : Int) + 1) ∧ ∃ S' D P, TJ W rb pb8 cap8 S' N8 D P (told ++ [B8]) (ends ++ [P8.length]) (safes ++ [safe]) (.slice ta (told.length + 1) tc) (.slice eo (ends.length + 1) ec) (.slice zo (safes.length + 1) zc) wx ∧ GJ W rb gb9 pb8 cap8 S' N8 (.slice ta (told.length + 1) tc) (.slice eo (ends.length + 1) ec) (.slice zo (safes.length + 1) zc) wx ∧ TL 0 (k + 1) N8 D P (told ++ [B8] ++ [B8]) (ends ++ [P8.length] ++ [P.length]) (safes ++ [safe] ++ [((k : Int) + 1)]) ((k : Int) + 1))
            case first =>
              rcases HC.out with ⟨hqe, rfl, S', hJ', hG'⟩ | ⟨hqe, rfl, rfl⟩
              · have HJ' := (show Hid _ from hJ')
                have HG' := (show Hid _ from hG')
                clear hJ' hG' HC
                subst hqe
                go_wp2_with fail
                go_meet
                exact ⟨rfl, S', D8, _, HJ'.out, HG'.out, HSY.out⟩
              · have HFN := (show Hid _ from HJc.out.fold HGc.out (by omega) hg8 (by omega))
                clear HC
                subst hqe
                go_wp2_with fail
                refine Calls.mono HFN.out ?_
                rintro e w16 ⟨rfl, S16, hJ16, hG16⟩
                dsimp only
                obtain ⟨D, P, hP, hD, hTL⟩ := HFO.out
                rw [← hP, ← hD] at hJ16
                have HJ16 := (show Hid _ from hJ16)
                have HG16 := (show Hid _ from hG16)
                have HTL16 := (show Hid _ from hTL)
                clear hJ16 hG16 HFN hP hD hTL
                go_wp2_with fail
                go_meet
                exact ⟨by go_num, S16, D, P, HJ16.out, HG16.out, HTL16.out⟩
            case rest =>
              obtain ⟨rfl, S', D, P, hJ', hG', hTL⟩ := hcut
              obtain ⟨tg, tcc, htv, _, htgl, htc, _⟩ := rows_at hJ'.told (j := told.length) (u := sv B8) (by simp) (by simp)
              obtain ⟨rfl, rfl⟩ : ta = some ⟨tg, 0, none⟩ ∧ tc = tcc := by simpa using htv
              rw [← HX8.out] at htc
              have hpst := hTL.st
              have hp3 := hTL.inv.three
              have hwc := hJ'.fr.size
              have HJ17 : Hid (TJ W rb pb8 cap8 S' N8 D P (told ++ [B8]) (ends ++ [P8.length]) (safes ++ [safe]) (.slice (some ⟨tg, 0, none⟩) (told.length + 1) tc) (.slice eo (ends.length + 1) ec) (.slice zo (safes.length + 1) zc) (wc.alloc (.cells #[.string X8] 9))) := hJ'.fr0 ((Fr.refl [] wc).alloc _)
              have HG17 : Hid (GJ W rb gb9 pb8 cap8 S' N8 (.slice (some ⟨tg, 0, none⟩) (told.length + 1) tc) (.slice eo (ends.length + 1) ec) (.slice zo (safes.length + 1) zc) (wc.alloc (.cells #[.string X8] 9))) := hG'.fr0 ((Fr.refl [] wc).alloc _)
              have HFA : Hid ((wc.alloc (.cells #[.string X8] 9)).ownsRow W.heap.size 9 1 (.slice (some ⟨tg, 0, none⟩) (told.length + 1) tc) (told.length + 1) ((told ++ [B8]).map sv)) := by
                have h := HJ17.out.told
                rw [List.length_append] at h
                exact h
              have HTL17 := (show Hid _ from hTL)
              obtain ⟨ins, hi0, hz0, hz1, hz2⟩ := info_parts infoStr
              clear hJ' hG' hTL htv HC HSY HFO HJc HGc HL1
              go_wp2_with (first
                | (at_builtin
                   refine wpList_append_own_at _ rfl _ _ 38 rfl W.heap.size 9 ins (.string ⟨#[]⟩) 1 16 Tryz.underlying38 hi0 hz0 hz1 hz2 rfl (by decide) (.slice (some ⟨tg, 0, none⟩) (told.length + 1) tc) (told.length + 1) ((told ++ [B8]).map sv) rfl HFA.out ⟨wc.heap.size, 0, none⟩ 1 1 [.string X8] rfl rfl (new_one wc (.string X8) _) (by simp [Value.oneCell']) (by unfold maxLen; omega) (by omega) (by simp; omega) ?_
                   intro v18 w18 hown18 hgrow18 hnil18 hat18))
              have HJ18 : Hid (TJ W rb pb8 cap8 S' N8 D P (told ++ [B8] ++ [B8]) (ends ++ [P8.length]) (safes ++ [safe]) v18 (.slice eo (ends.length + 1) ec) (.slice zo (safes.length + 1) zc) w18) := HJ17.out.addT B8 (by rw [List.length_append, ← HX8.out]; exact hown18) hgrow18 hat18
              have HG18 : Hid (GJ W rb gb9 pb8 cap8 S' N8 v18 (.slice eo (ends.length + 1) ec) (.slice zo (safes.length + 1) zc) w18) := GJ.addT HG17.out (HJ17.out.ft.sub (by simp)) hgrow18 hat18
              obtain ⟨ta, tc, rfl⟩ := rows_slice hown18
              have HSP := (show Hid _ from HJ18.out.steps (by omega) (by omega))
              clear hown18 hgrow18 hnil18 hat18 HJ17 HG17 HFA hi0 hz0 hz1 hz2 htc htgl hwc
              refine Calls.mono HSP.out ?_
              rintro e w19 ⟨so2, sc2, rfl, _, hf19⟩
              dsimp only
              have HJ19 := (show Hid _ from HJ18.out.fr0 hf19)
              have HG19 := (show Hid _ from HG18.out.fr0 hf19)
              have hw19 := HJ19.out.fr.size
              clear HSP HJ18 HG18
              have HJE : Hid (TJ W rb pb8 cap8 S' N8 D P (told ++ [B8] ++ [B8]) (ends ++ [P8.length]) (safes ++ [safe]) (.slice ta (told.length + 1 + 1) tc) (.slice eo (ends.length + 1) ec) (.slice zo (safes.length + 1) zc) (w19.alloc (.cells #[ii (P.length : Int)] 3))) := HJ19.out.fr0 ((Fr.refl [] w19).alloc _)
              have HEA : Hid ((w19.alloc (.cells #[ii (P.length : Int)] 3)).ownsRow W.heap.size 3 1 (.slice eo (ends.length + 1) ec) (ends.length + 1) ((ends ++ [P8.length]).map fun x : Nat => ii (x : Int))) := by
                have h := HJE.out.ends
                rw [List.length_append] at h
                exact h
              go_wp2_with (first
                | (at_builtin
                   refine wpList_append_own_at _ rfl _ _ 25 rfl W.heap.size 3 ini (ii 0) 1 8 Tryz.underlying25 hj0 hy0 hy1 hy2 rfl (by decide) (.slice eo (ends.length + 1) ec) (ends.length + 1) ((ends ++ [P8.length]).map fun x : Nat => ii (x : Int)) rfl HEA.out ⟨w19.heap.size, 0, none⟩ 1 1 [ii (P.length : Int)] rfl rfl (new_one w19 (ii (P.length : Int)) _) (by simp [Value.oneCell']) (by unfold maxLen; omega) (by omega) (by simp; omega) ?_
                   intro v20 w20 hown20 hgrow20 hnil20 hat20
                   have HJ20 : Hid (TJ W rb pb8 cap8 S' N8 D P (told ++ [B8] ++ [B8]) (ends ++ [P8.length] ++ [P.length]) (safes ++ [safe]) (.slice ta (told.length + 1 + 1) tc) v20 (.slice zo (safes.length + 1) zc) w20) := HJE.out.addE P.length (by rw [List.length_append]; exact hown20) hgrow20 hat20
                   have HG20 : Hid (GJ W rb gb9 pb8 cap8 S' N8 (.slice ta (told.length + 1 + 1) tc) v20 (.slice zo (safes.length + 1) zc) w20) := GJ.addE (GJ.fr0 HG19.out ((Fr.refl [] w19).alloc _)) (HJE.out.fe.sub (by simp)) hgrow20 hat20
                   obtain ⟨eo, ec, rfl⟩ := rows_slice hown20
                   have hw20 := HJ20.out.fr.size
                   have HJZ : Hid (TJ W rb pb8 cap8 S' N8 D P (told ++ [B8] ++ [B8]) (ends ++ [P8.length] ++ [P.length]) (safes ++ [safe]) (.slice ta (told.length + 1 + 1) tc) (.slice eo (ends.length + 1 + 1) ec) (.slice zo (safes.length + 1) zc) (w20.alloc (.cells #[ii ((k : Int) + 1)] 3))) := HJ20.out.fr0 ((Fr.refl [] w20).alloc _)
                   have HZA : Hid ((w20.alloc (.cells #[ii ((k : Int) + 1)] 3)).ownsRow W.heap.size 3 1 (.slice zo (safes.length + 1) zc) (safes.length + 1) ((safes ++ [safe]).map fun x : Int => ii x)) := by
                     have h := HJZ.out.safes
                     rw [List.length_append] at h
                     exact h)
                | (at_builtin
                   refine wpList_append_own_at _ rfl _ _ 25 rfl W.heap.size 3 ini (ii 0) 1 8 Tryz.underlying25 hj0 hy0 hy1 hy2 rfl (by decide) (.slice zo (safes.length + 1) zc) (safes.length + 1) ((safes ++ [safe]).map fun x : Int => ii x) rfl HZA.out ⟨w20.heap.size, 0, none⟩ 1 1 [ii ((k : Int) + 1)] rfl rfl (new_one w20 (ii ((k : Int) + 1)) _) (by simp [Value.oneCell']) (by unfold maxLen; omega) (by omega) (by simp; omega) ?_
                   intro v21 w21 hown21 hgrow21 hnil21 hat21
                   have HJ21 : Hid (TJ W rb pb8 cap8 S' N8 D P (told ++ [B8] ++ [B8]) (ends ++ [P8.length] ++ [P.length]) (safes ++ [safe] ++ [((k : Int) + 1)]) (.slice ta (told.length + 1 + 1) tc) (.slice eo (ends.length + 1 + 1) ec) v21 w21) := HJZ.out.addZ ((k : Int) + 1) (by rw [List.length_append]; exact hown21) hgrow21 hat21
                   have HG21 : Hid (GJ W rb gb9 pb8 cap8 S' N8 (.slice ta (told.length + 1 + 1) tc) (.slice eo (ends.length + 1 + 1) ec) v21 w21) := GJ.addZ (GJ.fr0 HG20.out ((Fr.refl [] w20).alloc _)) (HJZ.out.fz.sub (by simp)) hgrow21 hat21))
              go_roundw
              case rel => exact ⟨k + 1, gb9, pb8, cap8, S', N8, D, P, told ++ [B8] ++ [B8], ends ++ [P8.length] ++ [P.length], safes ++ [safe] ++ [((k : Int) + 1)], (k : Int) + 1, hlt, h300, rfl, rfl, by go_num, HJ21.out, HG21.out, HTL17.out⟩
              case measure => simp [intOf]; omega
        · have hqa : ¬ q = 0 := by omega
          have hqb : ¬ q = 1 := by omega
          go_wp2_with fail
          go_roundw
          case rel => exact ⟨k + 1, gb9, pb8, cap8, S8, N8, D8, P8, told ++ [B8], ends ++ [P8.length], safes ++ [safe], safe, hlt, h300, rfl, rfl, by go_num, by simpa using HJc.out, by simpa using HGc.out, HL1.out.on⟩
          case measure => simp [intOf]; omega
    · have hx : (¬ (k : Int) < (n : Int)) ∨ ((k : Int) < (n : Int) ∧ ¬ (k : Int) < 300) := by omega
      have hg8 := hL.inv.gg.1
      have ht8 := hL.tn
      have htl8 := hL.len
      have hst8 := hL.st
      have hp3 := hL.inv.three
      obtain ⟨ta, tc, rfl⟩ := rows_slice hJ.told
      obtain ⟨eo, ec, rfl⟩ := rows_slice hJ.ends
      obtain ⟨zo, zc, rfl⟩ := rows_slice hJ.safes
      have HSP := (show Hid _ from hJ.steps (by omega) (by omega))
      have HJ := (show Hid _ from hJ)
      have HL := (show Hid _ from hL)
      have hpl8 : steps.length ≤ 2000 := by omega
      clear hJ hG hL hgo
      rcases hx with hx | ⟨hx, hx2⟩
      all_goals
        go_wp2_with fail
        refine Calls.mono HSP.out ?_
        rintro e w7 ⟨so, sc, rfl, hown7, hf7⟩
        dsimp only
        have HO7 := (show Hid _ from hown7)
        have HJ7 := (show Hid _ from HJ.out.fr0 hf7)
        clear hown7 HSP
        have hpb := pk_bd place ((steps.length : Int) - 3 + 1) (by omega)
        have HPK : Hid (∀ W : World, Calls Tryz.prog 18 #[.int .i64 place, .int .i64 ((steps.length : Int) - 3 + 1)] W fun e w' => e = .returned (.int .i64 (pk place ((steps.length : Int) - 3 + 1))) ∧ W = w') := fun W => pick_any place _ W (by omega) hpl.1 hpl.2
        obtain ⟨c, hc, hc3, hcl⟩ : ∃ c : Nat, pk place ((steps.length : Int) - 3 + 1) = (c : Int) - 3 ∧ 3 ≤ c ∧ c ≤ steps.length := ⟨(pk place ((steps.length : Int) - 3 + 1)).toNat + 3, by omega, by omega, by omega⟩
        rw [hc] at HPK
        clear hc hpb
        go_wp2_with (first | (go_at_call 18; with_reducible refine Calls.mono (HPK.out _) ?_; rintro e w8 ⟨rfl, rfl⟩))
        have HCU := (show Hid _ from HCO.out (.slice so steps.length sc) v4 steps gone c w7 (rows_low HO7.out (Nat.zero_le _)) hcl (by omega) (IntsV.fr00 HV4.out HJ7.out.fr) HL.out.tidy)
        rw [show (3 : Int) + ((c : Int) - 3) = (c : Int) by omega]
        clear HPK HO7
        refine Calls.mono HCU.out ?_
        rintro e w8 ⟨lv, fs, rfl, hown8, hlen8, hfs8, hf8⟩
        dsimp only
        have HJ8 := (show Hid _ from HJ7.out.fr0 hf8)
        have HOP := (show Hid _ from open_cut HL.out c hc3 hcl w8 _ lv fs (hsd.fr0 HJ8.out.fr) hown8 hlen8 hfs8)
        obtain ⟨lo, lcap, rfl⟩ := rows_slice hown8
        clear hown8 hlen8 hfs8 HCU HJ7
        go_wp2_with fail
        refine Calls.mono HOP.out ?_
        rintro e w9 ⟨xb, xpb, xcap, xS, xmv, xstv, xg, xst, t1, rfl, hrs9, hx1, hx2, hx3, hx4, hx5, hf9, hg1, ht1, htold, hleast⟩
        dsimp only
        have HJ9 := (show Hid _ from HJ8.out.fr0 hf9)
        have HX := (show Hid _ from hrs9)
        have HTD := (show Hid _ from htold)
        have HLS := (show Hid _ from hleast)
        have hw8 := HJ8.out.fr.size
        clear HOP HJ8 hrs9 htold hleast
        have HLA : Hid (ends.length = told.length) := HL.out.inv.l1
        have HLB : Hid (safes.length = told.length) := HL.out.inv.l2
        have HLE : Hid (∀ x ∈ ends, x ≤ steps.length) := HL.out.inv.le
        have hdk := dkOf_le ends c
        have htlen := HL.out.len
        have HDK : Hid (∀ j, j < dkOf ends c → ∃ e, ends[j]? = some e ∧ e ≤ c) := dk_lt ends c
        have HDE : Hid (∀ j, j = dkOf ends c → j < ends.length → ∃ e, ends[j]? = some e ∧ c < e) := dk_end ends c
        have HSF : Hid (∀ x ∈ safes, 0 ≤ x ∧ x ≤ (k : Int)) := HL.out.each
        obtain ⟨dk, hdke⟩ : ∃ x, x = dkOf ends c := ⟨_, rfl⟩
        rw [← hdke] at hdk HDK HDE HTD HLS
        clear hdke
        have hdkb : dk ≤ 1000 := by have a := HLA.out; omega
        have htlb : told.length ≤ 1000 := by omega
        go_upto_block 2 with fail
        go_cut [31, 32] (fun s31 s32 wx => s31 = ii (leastTo safes dk) ∧ s32 = .int .i64 dk ∧ Fr [] w9 wx)
        case rest =>
          obtain ⟨rfl, rfl, hfc⟩ := hcut
          have HX2 := (show Hid _ from HX.out.fr0 hfc)
          have HJ10 := (show Hid _ from HJ9.out.fr0 hfc)
          have HGA := (show Hid _ from recGame_any wc HX2.out)
          have HNB : Hid (∀ x ∈ numsOf t1, 0 ≤ x ∧ x ≤ 1000000000) := nums_bd hg1.ok hg1.os ⟨hg1.t0, by omega⟩
          clear HX HJ9 HDK HDE HSF HLE HL hdk
          go_wp2_with fail
          refine Calls.mono HGA.out ?_
          rintro e w11 ⟨y1, rfl, hy1, hgs1, hf11⟩
          dsimp only
          have HTA := (show Hid _ from tell_any y1 xpb xcap t1 w11 hgs1 HNB.out hg1.ok.len)
          clear HGA hgs1
          go_wp2_with fail
          refine Calls.mono HTA.out ?_
          rintro e w12 ⟨rfl, hf12⟩
          dsimp only
          have hF12 := hf11.then0 hf12
          have HGB := (show Hid _ from recGame_any w12 (HX2.out.fr0 hF12))
          obtain ⟨X1, hX1⟩ : ∃ x : ByteArray, x = ⟨(tellB t1).toArray⟩ := ⟨_, rfl⟩
          rw [← hX1]
          have HX1 := (show Hid _ from hX1)
          clear HTA hX1
          go_wp2_with fail
          refine Calls.mono HGB.out ?_
          rintro e w13 ⟨y2, rfl, hy2, hgs2, hf13⟩
          dsimp only
          have HLK := (show Hid _ from look_any y2 xpb xcap t1 w13 hgs2)
          clear HGB hgs2
          go_wp2_with fail
          refine Calls.mono HLK.out ?_
          rintro e w14 ⟨rfl, hf14⟩
          dsimp only
          clear HLK
          have hfd : ∀ (a b c d : Int) (w : World), (Instr.field 56 (.agg #[ii a, ii b, ii c, ii d]) 0).run Tryz.prog w = .ok (ii a) w := fun a b c d w => by kernel_rfl
          have HF14 := (show Hid _ from (hF12.then0 hf13).then0 hf14)
          go_upto_block 4 with fail
          go_cut [35, 36] (fun s35 s36 wx => s35 = .bool true ∧ Fr [] w14 wx)
          case first =>
            go_wp2_with fail
            go_loopw [35, 36] (fun fd i wr => ∃ (j : Nat) (B : Bool), j ≤ dk + 1 ∧ j ≤ told.length ∧ i = .int .i64 j ∧ fd = .bool B ∧ (tellB t1 ∈ told.take j → B = true) ∧ Fr [] w14 wr) (fun _ i _ => told.length - (intOf i).toNat)
            case atStart => exact ⟨0, false, Nat.zero_le _, Nat.zero_le _, rfl, rfl, fun h => by simp at h, Fr.refl _ _⟩
            case round =>
              obtain ⟨j, B, hj1, hj2, rfl, rfl, hB, hfr⟩ := hrel
              have HB := (show Hid _ from hB)
              clear hB
              by_cases hjg : j ≤ dk ∧ j < told.length
              · obtain ⟨hjd, hjl⟩ := hjg
                have hjdi : (j : Int) ≤ (dk : Int) := by omega
                have hjli : (j : Int) < (told.length : Int) := by omega
                have hJr := HJ10.out.fr0 (HF14.out.then0 hfr)
                obtain ⟨x, hx0⟩ : ∃ x, told[j]? = some x := ⟨told[j], List.getElem?_eq_getElem hjl⟩
                obtain ⟨tg, tcc, htv, _, _, hct, _⟩ := rows_at hJr.told (j := j) (u := sv x) (by rw [List.getElem?_map, hx0]; rfl) (by simp)
                obtain ⟨rfl, rfl⟩ : ta = some ⟨tg, 0, none⟩ ∧ tc = tcc := by simpa using htv
                obtain ⟨fx, hfx⟩ : ∃ y : ByteArray, y = ⟨x.toArray⟩ := ⟨_, rfl⟩
                rw [sv, ← hfx] at hct
                have hbe : (fx.toList == X1.toList) = decide (x = tellB t1) := by
                  rw [hfx, HX1.out, toList_mk, toList_mk]
                  by_cases e : x = tellB t1 <;> simp [e]
                obtain ⟨E, hE⟩ : ∃ E, E = decide (x = tellB t1) := ⟨_, rfl⟩
                rw [← hE] at hbe
                have HNX : Hid (tellB t1 ∈ told.take (j + 1) → (B || E) = true) := fun hm => by
                  rw [List.take_add_one, hx0, List.mem_append] at hm
                  rcases hm with hm | hm
                  · rw [HB.out hm]; rfl
                  · have : tellB t1 = x := by simpa using hm
                    rw [hE, this]
                    simp
                clear hE hfx htv hJr hx0
                cases B
                · go_wp2_with fail
                  go_roundw
                  case rel => exact ⟨j + 1, E, by omega, hjl, by go_num, rfl, fun h => by simpa using HNX.out h, hfr⟩
                  case measure => simp [intOf]; omega
                · go_wp2_with fail
                  go_roundw
                  case rel => exact ⟨j + 1, true, by omega, hjl, by go_num, rfl, fun _ => rfl, hfr⟩
                  case measure => simp [intOf]; omega
              · have HBT : Hid (B = true) := HB.out (by
                  have h := HTD.out
                  rcases Nat.lt_or_ge dk j with h1 | h1
                  · rw [show j = dk + 1 by omega]; exact h
                  · have : told.length ≤ j := by omega
                    rw [List.take_of_length_le this]
                    exact List.mem_of_mem_take h)
                have hx7 : (¬ (j : Int) ≤ (dk : Int)) ∨ ((j : Int) ≤ (dk : Int) ∧ ¬ (j : Int) < (told.length : Int)) := by omega
                clear hjg
                rcases hx7 with hx7 | ⟨hx7, hx8⟩
                all_goals
                  go_wp2_with fail
                  go_meet
                  exact ⟨by rw [HBT.out], hfr⟩
          case rest =>
            obtain ⟨rfl, hfd14⟩ := hcut
            have hXc := HX2.out.fr0 (HF14.out.then0 hfd14)
            have hFW : Fr [] W wc := (HJ10.out.fr.then0 HF14.out).then0 hfd14
            have HPN := (show Hid _ from recPlay_any wc [] [] (.slice none 0 0) (.slice none 0 0) hXc (hsd.fr0 hFW) hg1 (by omega) (Or.inl ⟨none, 0, rfl, rfl⟩) (Or.inl ⟨none, 0, rfl, rfl⟩) (by simp) (by simp) (by omega) (by omega))
            have hge : leastTo safes dk ≤ t1.turn := by
              unfold leastTo
              split
              · exact hg1.t0
              · exact HLS.out
            have hgt0 := hg1.t0
            have htn20 : (playW t1 ([], [])).turn = t1.turn + 1 := (hg1.play ([], []) (by omega)).2
            clear hXc HX2 HJ10 HTD HLS
            go_wp2_with fail
            refine Calls.mono HPN.out ?_
            rintro e w20 ⟨v20, p20, q20, rfl, hr20, v21, pb20, cap20, mv20, stv20, S20, hpb20, hp20⟩
            dsimp only
            obtain ⟨rb20, rc20, z0, z1, rfl, _⟩ := hr20
            have hxup : ∀ b ∈ xb :: xS, W.heap.size ≤ b := fun b hb => by
              rcases List.mem_cons.1 hb with rfl | hb
              · omega
              · have := hx5 b hb
                omega
            have hFW20 : Fr [] W w20 := hFW.trans hp20.fr (fun b hb => Or.inr (hxup b hb))
            have hold := hp20.old
            have hszc := hFW.size
            have HSN := (show Hid _ from recSync_any w20 hp20.rs (by simp; omega))
            rw [htn20] at HSN
            have HFIN : Hid (∀ w21 stv21 S21, RPost w20 xb S20 (playW t1 ([], [])) (fun k => if k = LOG then some (v21, fid xg LOG ++ turnFr t1 ([], [])) else xg k) (xst ++ [sApp LOG (turnFr t1 ([], []))] ++ [sSync LOG]) w21 pb20 cap20 mv20 stv21 S21 → Fr [] W w21) := fun w21 stv21 S21 h => hFW20.trans h.fr (fun b hb => Or.inr (by
              rcases List.mem_cons.1 hb with e | hb
              · rw [e]; exact hxup _ (by simp)
              · rcases hold b hb with e | e
                · exact hxup b (by simp [e])
                · omega))
            clear HPN hp20 hold htn20 hpb20
            go_wp2_with (first | (go_at_call 19; refine Calls.mono HSN.out ?_; rintro e w21 ⟨rfl, stv21, S21, hp21⟩))
            go_ret
            exact ⟨rfl, HFIN.out _ _ _ hp21⟩
        case first =>
        go_wp2_with fail
        go_loopw [31, 32] (fun ls i wr => ∃ j : Nat, j ≤ dk ∧ i = .int .i64 j ∧ ls = ii (leastTo safes j) ∧ Fr [] w9 wr) (fun _ i _ => dk - (intOf i).toNat)
        case atStart => exact ⟨0, Nat.zero_le _, rfl, rfl, Fr.refl _ _⟩
        case round =>
          obtain ⟨j, hj, rfl, rfl, hfr⟩ := hrel
          by_cases hjd : j < dk
          · obtain ⟨e, he, hec⟩ := HDK.out j hjd
            have hjb : j ≤ 1000 := by omega
            have hjl : j < ends.length := by omega
            have hjli : (j : Int) < (ends.length : Int) := by omega
            have hjsl : j < safes.length := by have a := HLA.out; have b := HLB.out; omega
            have hjls : (j : Int) < (safes.length : Int) := by omega
            have hJr := HJ9.out.fr0 hfr
            have hel := HLE.out e (List.mem_of_getElem? he)
            obtain ⟨s0, hs0⟩ : ∃ s0, safes[j]? = some s0 := ⟨safes[j]'(by omega), List.getElem?_eq_getElem (by omega)⟩
            have hsb := HSF.out s0 (List.mem_of_getElem? hs0)
            obtain ⟨eg, ecc, hev, _, _, hce, _⟩ := rows_at hJr.ends (j := j) (u := ii (e : Int)) (by rw [List.getElem?_map, he]; rfl) (by simp)
            obtain ⟨zg, zcc, hzv, _, _, hcz, _⟩ := rows_at hJr.safes (j := j) (u := ii s0) (by rw [List.getElem?_map, hs0]; rfl) (by simp)
            obtain ⟨rfl, rfl⟩ : eo = some ⟨eg, 0, none⟩ ∧ ec = ecc := by simpa using hev
            obtain ⟨rfl, rfl⟩ : zo = some ⟨zg, 0, none⟩ ∧ zc = zcc := by simpa using hzv
            have hlt' := leastTo_next hs0
            have hei : (e : Int) ≤ (c : Int) := by omega
            have HNX := (show Hid _ from hlt')
            have hel2 : (e : Int) ≤ 2000 := by omega
            clear hev hzv hlt' hJr he hs0
            go_wp2_with fail
            go_roundw
            case rel => exact ⟨j + 1, hjd, by go_num, by rw [HNX.out], hfr⟩
            case measure => simp [intOf]; omega
          · have hje : j = dk := by omega
            subst hje
            by_cases hjl : j < ends.length
            · obtain ⟨e, he, hec⟩ := HDE.out j rfl hjl
              have hjli : (j : Int) < (ends.length : Int) := by omega
              have hJr := HJ9.out.fr0 hfr
              have hel := HLE.out e (List.mem_of_getElem? he)
              obtain ⟨eg, ecc, hev, _, _, hce, _⟩ := rows_at hJr.ends (j := j) (u := ii (e : Int)) (by rw [List.getElem?_map, he]; rfl) (by simp)
              obtain ⟨rfl, rfl⟩ : eo = some ⟨eg, 0, none⟩ ∧ ec = ecc := by simpa using hev
              have hei : ¬ (e : Int) ≤ (c : Int) := by omega
              have hel2 : (e : Int) ≤ 2000 := by omega
              clear hev hJr he
              go_wp2_with fail
              go_meet
              exact ⟨rfl, rfl, hfr⟩
            · have hjli : ¬ (j : Int) < (ends.length : Int) := by omega
              go_wp2_with fail
              go_meet
              exact ⟨rfl, rfl, hfr⟩
end Go.Proofs.YtapabahhfanmmaaGreatDoor
