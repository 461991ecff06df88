import Derived.Test.YtapabahhfanmmaaDoorCTellG
import Derived.Test.YtapabahhfanmmaaDoorCReadG
import Derived.Test.YtapabahhfanmmaaDoorCOrders2
/- Alike. -/
namespace Go.Proofs.YtapabahhfanmmaaDoor
open Go.RowKit

theorem IntsV.fr0 {w w' : World} {v : Value} {l : List Int} (h : IntsV w v l) (hf : Fr [] w w') : IntsV w' v l := by
  rcases h with h | ⟨lb, lo, lc, h1, h2, h3⟩
  · exact Or.inl h
  · exact Or.inr ⟨lb, lo, lc, h1, fun i hi => (hf.cell _ _ (lt_of_cell (h2 i hi)) (by simp)).trans (h2 i hi), h3⟩
theorem loop_ne (bs : ByteArray) : ∀ (n i : Nat) (r : List UInt8), bs.size - i = n → r ≠ [] → ByteArray.toList.loop bs i r ≠ []
  | 0, i, r, h, hr => by
    rw [ByteArray.toList.loop, if_neg (by omega)]
    simpa using hr
  | n + 1, i, r, h, hr => by
    rw [ByteArray.toList.loop, if_pos (by omega)]
    exact loop_ne bs n (i + 1) _ (by omega) (by simp)
theorem toList_ne (bs : ByteArray) (h : bs.size ≠ 0) : ¬ bs.toList = [] := by
  unfold ByteArray.toList
  rw [ByteArray.toList.loop, if_pos (by omega)]
  exact loop_ne bs _ _ _ rfl (by simp)
theorem tell_pos (t : T) : (tellB t).length ≠ 0 := by
  have := numB_len_pos t.turn.toNat
  unfold tellB numsOf headN
  rw [List.cons_append, flatB_cons, List.length_append]
  omega
/-- Two games that are alike. -/
structure AI (W : World) (gb hb : Nat) (k : Nat) (t : T) (wr : World) : Prop where
  g : ∃ pb cap, GS wr gb pb cap t ∧ pb ≠ hb
  h : ∃ pb cap, GS wr hb pb cap t ∧ pb ≠ gb
  ne : gb ≠ hb
  ok : GOk t
  os : OS t
  tn : t.turn = k
  fr : Fr [] W wr
  lg : W.heap.size ≤ gb
  lh : W.heap.size ≤ hb
theorem AI.fr0 {W : World} {gb hb k : Nat} {t : T} {w w' : World} (h : AI W gb hb k t w) (hf : Fr [] w w') : AI W gb hb k t w' := by
  obtain ⟨pb, cap, hg, n1⟩ := h.g
  obtain ⟨pb2, cap2, hh, n2⟩ := h.h
  exact { h with g := ⟨pb, cap, hg.fr hf (by simp) (by simp), n1⟩, h := ⟨pb2, cap2, hh.fr hf (by simp) (by simp), n2⟩, fr := h.fr.then0 hf }
theorem AI.bd {W : World} {gb hb k : Nat} {t : T} {w : World} (h : AI W gb hb k t w) (hk : k ≤ 300) : 0 ≤ t.turn ∧ t.turn ≤ 1000000000 := by have := h.tn; omega
theorem AI.tellG {W : World} {gb hb k : Nat} {t : T} {w : World} (h : AI W gb hb k t w) (hk : k ≤ 300) : Calls Tryd.prog 18 #[.pointer (some ⟨gb, 0, none⟩)] w fun e w' => e = .returned (.string ⟨(tellB t).toArray⟩) ∧ Fr [] w w' := by
  obtain ⟨pb, cap, hg, n1⟩ := h.g
  exact tell_any gb pb cap t w hg (nums_bd h.ok h.os (h.bd hk)) h.ok.len
theorem AI.tellH {W : World} {gb hb k : Nat} {t : T} {w : World} (h : AI W gb hb k t w) (hk : k ≤ 300) : Calls Tryd.prog 18 #[.pointer (some ⟨hb, 0, none⟩)] w fun e w' => e = .returned (.string ⟨(tellB t).toArray⟩) ∧ Fr [] w w' := by
  obtain ⟨pb, cap, hh, n1⟩ := h.h
  exact tell_any hb pb cap t w hh (nums_bd h.ok h.os (h.bd hk)) h.ok.len
theorem AI.lookG {W : World} {gb hb k : Nat} {t : T} {w : World} (h : AI W gb hb k t w) : Calls Tryd.prog 10 #[.pointer (some ⟨gb, 0, none⟩)] w fun e w' => e = .returned (.agg #[ii t.turn, ii (winI t.us), ii t.s0, ii t.s1]) ∧ Fr [] w w' := by
  obtain ⟨pb, cap, hg, n1⟩ := h.g
  exact look_any gb pb cap t w hg
theorem AI.lookH {W : World} {gb hb k : Nat} {t : T} {w : World} (h : AI W gb hb k t w) : Calls Tryd.prog 10 #[.pointer (some ⟨hb, 0, none⟩)] w fun e w' => e = .returned (.agg #[ii t.turn, ii (winI t.us), ii t.s0, ii t.s1]) ∧ Fr [] w w' := by
  obtain ⟨pb, cap, hh, n1⟩ := h.h
  exact look_any hb pb cap t w hh
theorem AI.read {W : World} {gb hb k : Nat} {t : T} {w : World} (h : AI W gb hb k t w) (hk : k ≤ 300) : Calls Tryd.prog 17 #[.string ⟨(tellB t).toArray⟩] w fun e w' => ∃ hb', e = .returned (.tuple #[.pointer (some ⟨hb', 0, none⟩), .int .i64 0]) ∧ AI W gb hb' k t w' := by
  obtain ⟨pb, cap, hg, n1⟩ := h.g
  have hgl := hg.lt
  have hpl := hg.row.lt
  have hl := tell_len h.ok h.os (h.bd hk)
  refine Calls.mono (read_ok t (tellB t) w (reads_tell h.ok h.os (h.bd hk)) (by omega) h.ok h.os (by omega)) ?_
  rintro e w1 ⟨hb', pb', cap', rfl, hgs, h1, h2, hf⟩
  have hs := h.fr.size
  exact ⟨hb', rfl, ⟨pb, cap, hg.fr hf (by simp) (by simp), by omega⟩, ⟨pb', cap', hgs, by omega⟩, by omega, h.ok, h.os, h.tn, h.fr.then0 hf, h.lg, by omega⟩
/-- Both play the same. -/
theorem AI.playG {W : World} {gb hb k : Nat} {t : T} {w w0 : World} (h : AI W gb hb k t w) (hk : k < 300) (hsd : Sd W) (c1 c2 c3 c4 : Cm) (v1 v2 : Value) (h1 : CmdN w0 w v1 [c1, c2]) (h2 : CmdN w0 w v2 [c3, c4]) :
    Calls Tryd.prog 11 #[.pointer (some ⟨gb, 0, none⟩), v1, v2] w fun e w' => ∃ v pb' cap', e = .returned v ∧ Fr [gb] w w' ∧ GS w' gb pb' cap' (playT t [c1, c2] [c3, c4]).1 ∧ pb' ≠ hb ∧ Refs w' w.heap.size v (playT t [c1, c2] [c3, c4]).2.1 (playT t [c1, c2] [c3, c4]).2.2 := by
  obtain ⟨pb, cap, hg, n1⟩ := h.g
  obtain ⟨pb2, cap2, hh, n2⟩ := h.h
  have hhl := hh.lt
  refine Calls.mono (gamePlay_any gb pb cap t [c1, c2] [c3, c4] v1 v2 w hg (hsd.fr0 h.fr) h.ok (by have := h.tn; omega) h1.v h2.v (by simp) (by simp)) ?_
  rintro e w1 ⟨v, pb', cap', rfl, hf, hgs, hp, hr⟩
  exact ⟨v, pb', cap', rfl, hf, hgs, by omega, hr⟩

theorem AI.playH {W : World} {gb hb k : Nat} {t : T} {w w1 w0 : World} (h : AI W gb hb k t w) (hk : k < 300) (hsd : Sd W) (c1 c2 c3 c4 : Cm) (v1 v2 : Value) (hf : Fr [gb] w w1) {pb' cap' : Nat} (hg1 : GS w1 gb pb' cap' (playT t [c1, c2] [c3, c4]).1) (hp : pb' ≠ hb) (h1 : CmdN w0 w1 v1 [c1, c2]) (h2 : CmdN w0 w1 v2 [c3, c4]) :
    Calls Tryd.prog 11 #[.pointer (some ⟨hb, 0, none⟩), v1, v2] w1 fun e w' => ∃ v, e = .returned v ∧ AI W gb hb (k + 1) (playT t [c1, c2] [c3, c4]).1 w' ∧ Fr [hb] w1 w' ∧ Refs w' w1.heap.size v (playT t [c1, c2] [c3, c4]).2.1 (playT t [c1, c2] [c3, c4]).2.2 := by
  obtain ⟨pb2, cap2, hh, n2⟩ := h.h
  have hfw : Fr [] W w1 := h.fr.trans hf (by simp; exact h.lg)
  have hh1 := hh.fr hf (by simp; exact fun e => h.ne e.symm) (by simp; exact n2)
  have hgl := hg1.lt
  have hs := h.fr.size
  have htn := h.tn
  refine Calls.mono (gamePlay_any hb pb2 cap2 t [c1, c2] [c3, c4] v1 v2 w1 hh1 (hsd.fr0 hfw) h.ok (by omega) h1.v h2.v (by simp) (by simp)) ?_
  rintro e w2 ⟨v, pb3, cap3, rfl, hf2, hgs, hp3, hr⟩
  have hpo := play_ok h.ok [c1, c2] [c3, c4] (by omega)
  refine ⟨v, rfl, ⟨⟨pb', cap', hg1.fr hf2 (by simp; exact h.ne) (by simp; exact hp), hp⟩, ⟨pb3, cap3, hgs, by omega⟩, h.ne, hpo.ok, play_os h.ok h.os _ _, by rw [hpo.tn, htn]; push_cast; rfl, hfw.trans hf2 (by simp; exact h.lh), h.lg, h.lh⟩, hf2, hr⟩

theorem eqTwo (c d : Int) (w : World) : (Op.equalIn 9999 34 (.agg #[ii c, ii d]) (.agg #[ii c, ii d])).run Tryd.prog w = .ok true w := by
  have u3 := Tryd.underlying3
  rw [show (9999 : Nat) = 9998 + 1 from rfl, Op.equalIn]
  simp only [Sem.run_bind, run_underlying Tryd.underlying34, Result.andThen_ok]
  simp only [Std.Legacy.Range.forIn_eq_forIn_range', Std.Legacy.Range.size, Nat.sub_zero, Nat.add_sub_cancel, Nat.div_one, List.range'_succ, List.range'_zero, List.forIn_cons, List.forIn_nil]
  go_simp
theorem neqState (a b c d : Int) (w : World) : (binOp BinOp.neq 36 (.agg #[ii a, ii b, ii c, ii d]) (.agg #[ii a, ii b, ii c, ii d])).run Tryd.prog w = .ok (.bool false) w := by
  have h2 := eqTwo c d w
  simp [go_sem, h2]
theorem guardState (x y : Operand) (a b c d : Int) (w : World) : (eqGuard BinOp.neq 36 x y (.agg #[ii a, ii b, ii c, ii d]) (.agg #[ii a, ii b, ii c, ii d])).run Tryd.prog w = .ok () w := by kernel_rfl

set_option maxRecDepth 100000 in
set_option maxHeartbeats 8000000 in
theorem alike_walk (W : World) (v0 v1 : Value) (cs : List Int) (n : Nat) (f : Nat → Int) (at_ : Int) (hv0 : IntsV W v0 cs) (hv1 : TurnsV W v1 n f) (hat : I64 at_) (hsd : Sd W) : Calls Tryd.prog 6 #[v0, v1, .int .i64 at_] W fun e W' => e = .returned (.bool true) ∧ Fr [] W W' := by
  obtain ⟨a1, lc, rfl⟩ : ∃ a1 lc, v1 = .slice a1 n lc := by
    rcases hv1 with ⟨ao, lc, rfl, rfl⟩ | ⟨lb, lo, lc, rfl, _⟩
    · exact ⟨_, _, rfl⟩
    · exact ⟨_, _, rfl⟩
  have HT := (show Hid _ from hv1)
  have hbg := begun_any v0 cs W hv0 hsd
  have HB2 : Hid (∀ w', Fr [] W w' → Calls Tryd.prog 7 #[v0] w' fun e w'' => ∃ gb pb cap, e = .returned (.pointer (some ⟨gb, 0, none⟩)) ∧ GS w'' gb pb cap (startT cs) ∧ w'.heap.size ≤ gb ∧ w'.heap.size ≤ pb ∧ Fr [] w' w'') := fun w' hf => begun_any v0 cs w' (hv0.fr0 hf) (hsd.fr0 hf)
  obtain ⟨q, hq⟩ : ∃ q, pk at_ 20 = q := ⟨_, rfl⟩
  have P1 : Hid (∀ W : World, Calls Tryd.prog 14 #[.int .i64 at_, .int .i64 20] W fun e w' => e = .returned (.int .i64 q) ∧ W = w') := fun W : World => hq ▸ pick_any at_ 20 W (by omega) hat.1 hat.2
  clear hv1 hv0 hq
  go_enter Tryd.func6, Tryd.ntmps6
  go_wp2_with fail
  refine Calls.mono hbg ?_
  rintro e w1 ⟨gb, pb, cap, rfl, hg1, hgl, hpl, hf1⟩
  dsimp only
  clear hbg
  go_wp2_with fail
  refine Calls.mono (HB2.out w1 hf1) ?_
  rintro e w2 ⟨hb, pb2, cap2, rfl, hg2, hgl2, hpl2, hf2⟩
  dsimp only
  have hai : AI W gb hb 0 (startT cs) w2 := by
    have a1 := hg1.lt
    have a2 := hg1.row.lt
    have a3 := hf1.size
    exact ⟨⟨pb, cap, hg1.fr hf2 (by simp) (by simp), by omega⟩, ⟨pb2, cap2, hg2, by omega⟩, by omega, start_ok cs, start_os cs, rfl, hf1.then0 hf2, hgl, by omega⟩
  have HAI := (show Hid _ from hai)
  clear hai hg1 hg2 hf1 hf2 hgl hpl hgl2 hpl2 HB2
  go_wp2_with fail
  go_loopw [8, 9] (fun h i wr => ∃ (k hb : Nat) (t : T), k ≤ n ∧ k ≤ 300 ∧ i = .int .i64 k ∧ h = .pointer (some ⟨hb, 0, none⟩) ∧ AI W gb hb k t wr) (fun _ i _ => 300 - (intOf i).toNat)
  case atStart => exact ⟨0, hb, startT cs, Nat.zero_le _, by omega, rfl, rfl, HAI.out⟩
  case round =>
    obtain ⟨k, hb, t, hk, hk3, rfl, rfl, hA⟩ := hrel
    clear HAI
    by_cases hlt : k < n
    · have hlti : (k : Int) < (n : Int) := by omega
      by_cases h300 : k < 300
      · have h300i : (k : Int) < 300 := by omega
        have HA := (show Hid _ from hA)
        clear hA
        obtain ⟨B, hB⟩ : ∃ B, ((k : Int) == q) = B := ⟨_, rfl⟩
        go_upto_if 39 with (go_at_call 14; with_reducible refine Calls.mono (P1.out _) ?_; rintro e w3 ⟨rfl, rfl⟩)
        clear hB
        go_cut [8] (fun s8 wx => ∃ hb', s8 = .pointer (some ⟨hb', 0, none⟩) ∧ AI W gb hb' k t wx)
        case first =>
          cases B
          · go_wp2_with fail
            go_meet
            exact ⟨hb, rfl, HA.out⟩
          · go_wp2_with fail
            refine Calls.mono (HA.out.tellH (by omega)) ?_
            rintro e w4 ⟨rfl, hf4⟩
            dsimp only
            have ha4 := HA.out.fr0 hf4
            have hrd := ha4.read (by omega)
            obtain ⟨L, hL⟩ : ∃ L, L = tellB t := ⟨_, rfl⟩
            rw [← hL] at hrd ⊢
            clear hL
            go_wp2_with fail
            refine Calls.mono hrd ?_
            rintro e w5 ⟨hb', rfl, ha5⟩
            dsimp only
            have HA5 := (show Hid _ from ha5)
            clear hrd ha4 ha5
            go_wp2_with fail
            go_meet
            exact ⟨hb', rfl, HA5.out⟩
        case rest =>
          obtain ⟨hb', rfl, hA2⟩ := hcut
          clear HA
          obtain ⟨lb, lo, e, rfl, hc⟩ : ∃ (lb lo : Nat) (e : Nat → Int), a1 = some ⟨lb, lo, none⟩ ∧ ∀ j, j < 20 → W.cell? ⟨lb, lo + k * 20 + j, none⟩ = some (ii (e j)) ∧ I64 (e j) := by
            rcases HT.out with ⟨ao, lc', e1, e2⟩ | ⟨lb, lo, lc', e1, hcc, _⟩
            · omega
            · refine ⟨lb, lo, fun j => f (k * 20 + j), by simpa using congrArg (fun v : Value => match v with | .slice a _ _ => a | _ => none) e1, fun j hj => ?_⟩
              have := hcc (k * 20 + j) (by omega)
              rw [← Nat.add_assoc] at this
              exact this
          have hlen : t.us.length ≤ 100 := hA2.ok.len
          obtain ⟨tl, htl, hrg, hor⟩ := turn_row2 gb t e W lb (lo + k * 20) (fun j hj => (hc j hj).1) (fun j hj => (hc j hj).2) hlen
          have hrg1 := hrg wc hA2.fr
          obtain ⟨pg, cg, hgs, hpg⟩ := hA2.g
          have HOR := (show Hid _ from hor pg cg wc hgs)
          have HTL : Hid ((Tryd.prog.info? 33).map (·.size) = some tl.length) := by show _ = _; rw [htl]; exact infoTurn
          have HA2 := (show Hid _ from hA2)
          clear hc htl hrg hor hA2 hgs
          go_wp2_with (refine wpList_load_mid rfl 33 _ rfl lb (lo + k * 20) rfl tl _ hrg1 Tryd.underlying33 rfl HTL.out ?_)
          refine Calls.mono HOR.out ?_
          rintro e w3 ⟨x1, x2, rfl, ⟨c1, c2, hx1⟩, ⟨c3, c4, hx2⟩, hf3⟩
          dsimp only
          have ha3 := HA2.out.fr0 hf3
          have hwcg : gb < wc.heap.size := by obtain ⟨_, _, hgs, _⟩ := HA2.out.g; exact hgs.lt
          have hwch : hb' < wc.heap.size := by obtain ⟨_, _, hgs, _⟩ := HA2.out.h; exact hgs.lt
          have hpg3 := ha3.playG h300 hsd c1 c2 c3 c4 x1 x2 hx1 hx2
          have HA3 := (show Hid _ from ha3)
          have HX1 : Hid (CmdN wc w3 x1 [c1, c2]) := hx1
          have HX2 : Hid (CmdN wc w3 x2 [c3, c4]) := hx2
          clear hrg1 HOR HTL ha3 hx1 hx2
          go_wp2_with fail
          refine Calls.mono hpg3 ?_
          rintro e w4 ⟨v4, pb4, cap4, rfl, hf4, hg4, hpb4, hr4⟩
          dsimp only
          have hph := HA3.out.playH h300 hsd c1 c2 c3 c4 x1 x2 hf4 hg4 hpb4 (HX1.out.fr hf4 (by simp; omega)) (HX2.out.fr hf4 (by simp; omega))
          have HR4 := (show Hid _ from hr4)
          clear hpg3 hr4
          go_wp2_with fail
          refine Calls.mono hph ?_
          rintro e w5 ⟨v5, rfl, ha5, hf5, hr5⟩
          dsimp only
          clear hph
          obtain ⟨rb4, rc4, ao4, ac4, bo4, bc4, rfl, r40, r41, hrb4⟩ := (show Refs _ _ _ _ _ from HR4.out).see
          obtain ⟨rb5, rc5, ao5, ac5, bo5, bc5, rfl, r50, r51, hrb5⟩ := hr5.see
          obtain ⟨la, hla⟩ : ∃ x, (playT t [c1, c2] [c3, c4]).2.1.length = x := ⟨_, rfl⟩
          obtain ⟨lb_, hlb⟩ : ∃ x, (playT t [c1, c2] [c3, c4]).2.2.length = x := ⟨_, rfl⟩
          rw [hla] at r40 r50
          rw [hlb] at r41 r51
          have hs34 := hf3.size
          have hn4 : rb4 ≠ hb' := by omega
          have q40 := (hf5.cell rb4 0 (lt_of_cell r40) (by simp; exact hn4)).trans r40
          have q41 := (hf5.cell rb4 1 (lt_of_cell r41) (by simp; exact hn4)).trans r41
          have TG : Hid (∀ w', Fr [] w5 w' → Calls Tryd.prog 18 #[.pointer (some ⟨gb, 0, none⟩)] w' fun e w'' => e = .returned (.string ⟨(tellB (playT t [c1, c2] [c3, c4]).1).toArray⟩) ∧ Fr [] w' w'') := fun w' hf => (ha5.fr0 hf).tellG (by omega)
          have TH : Hid (∀ w', Fr [] w5 w' → Calls Tryd.prog 18 #[.pointer (some ⟨hb', 0, none⟩)] w' fun e w'' => e = .returned (.string ⟨(tellB (playT t [c1, c2] [c3, c4]).1).toArray⟩) ∧ Fr [] w' w'') := fun w' hf => (ha5.fr0 hf).tellH (by omega)
          have LG : Hid (∀ w', Fr [] w5 w' → Calls Tryd.prog 10 #[.pointer (some ⟨gb, 0, none⟩)] w' fun e w'' => e = .returned (.agg #[ii (playT t [c1, c2] [c3, c4]).1.turn, ii (winI (playT t [c1, c2] [c3, c4]).1.us), ii (playT t [c1, c2] [c3, c4]).1.s0, ii (playT t [c1, c2] [c3, c4]).1.s1]) ∧ Fr [] w' w'') := fun w' hf => (ha5.fr0 hf).lookG
          have LH : Hid (∀ w', Fr [] w5 w' → Calls Tryd.prog 10 #[.pointer (some ⟨hb', 0, none⟩)] w' fun e w'' => e = .returned (.agg #[ii (playT t [c1, c2] [c3, c4]).1.turn, ii (winI (playT t [c1, c2] [c3, c4]).1.us), ii (playT t [c1, c2] [c3, c4]).1.s0, ii (playT t [c1, c2] [c3, c4]).1.s1]) ∧ Fr [] w' w'') := fun w' hf => (ha5.fr0 hf).lookH
          have HA5 := (show Hid _ from ha5)
          clear r40 r41 HR4 hr5 ha5 hla hlb HX1 HX2 HA3 HA2 hg4 hpb4
          generalize (playT t [c1, c2] [c3, c4]).1 = t' at *
          obtain ⟨L, hL⟩ : ∃ L : ByteArray, L = ⟨(tellB t').toArray⟩ := ⟨_, rfl⟩
          rw [← hL] at TG TH
          obtain ⟨z0, z1, z2, z3, hz⟩ : ∃ z0 z1 z2 z3 : Int, z0 = t'.turn ∧ z1 = winI t'.us ∧ z2 = t'.s0 ∧ z3 = t'.s1 := ⟨_, _, _, _, rfl, rfl, rfl, rfl⟩
          obtain ⟨hz0, hz1, hz2, hz3⟩ := hz
          rw [← hz0, ← hz1, ← hz2, ← hz3] at LG LH
          have hnq := neqState z0 z1 z2 z3
          have hgq := fun (x y : Operand) (w0 : World) => guardState x y z0 z1 z2 z3 w0
          clear hL hz0 hz1 hz2 hz3
          have HS : ∀ w', Fr [] w5 w' → (fun w' : World => (w'.cell? ⟨rb4, 0, none⟩ = some (.slice ao4 la ac4) ∧ w'.cell? ⟨rb4, 1, none⟩ = some (.slice bo4 lb_ bc4)) ∧ (w'.cell? ⟨rb5, 0, none⟩ = some (.slice ao5 la ac5) ∧ w'.cell? ⟨rb5, 1, none⟩ = some (.slice bo5 lb_ bc5)) ∧ Fr [] w5 w') w' := fun w' hf => ⟨⟨(hf.cell _ _ (lt_of_cell q40) (by simp)).trans q40, (hf.cell _ _ (lt_of_cell q41) (by simp)).trans q41⟩, ⟨(hf.cell _ _ (lt_of_cell r50) (by simp)).trans r50, (hf.cell _ _ (lt_of_cell r51) (by simp)).trans r51⟩, hf⟩
          have K0 := HS _ (Fr.refl [] w5).drew
          clear q40 q41 r50 r51
          go_wp2_with fail
          go_cut [113] (fun s113 wx => s113 = .bool false ∧ Fr [] w5 wx)
          case first =>
            go_region_held (fun w' : World => (w'.cell? ⟨rb4, 0, none⟩ = some (.slice ao4 la ac4) ∧ w'.cell? ⟨rb4, 1, none⟩ = some (.slice bo4 lb_ bc4)) ∧ (w'.cell? ⟨rb5, 0, none⟩ = some (.slice ao5 la ac5) ∧ w'.cell? ⟨rb5, 1, none⟩ = some (.slice bo5 lb_ bc5)) ∧ Fr [] w5 w')
              (first | with_reducible exact K0 | with_reducible exact HS _ hfr1 | with_reducible exact HS _ hfr2 | with_reducible exact HS _ hfr3 | with_reducible exact HS _ hfr4)
              (first
                | (go_at_call 18; first | (with_reducible refine Calls.mono (TG.out _ (And.right (And.right (by assumption)))) ?_; rintro e w6 ⟨rfl, hf6⟩; have hfr1 : Fr [] w5 w6 := Fr.then0 (And.right (And.right (by assumption))) hf6) | (with_reducible refine Calls.mono (TH.out _ (And.right (And.right (by assumption)))) ?_; rintro e w7 ⟨rfl, hf7⟩; have hfr2 : Fr [] w5 w7 := Fr.then0 (And.right (And.right (by assumption))) hf7))
                | (go_at_call 10; first | (with_reducible refine Calls.mono (LG.out _ (And.right (And.right (by assumption)))) ?_; rintro e w8 ⟨rfl, hf8⟩; have hfr3 : Fr [] w5 w8 := Fr.then0 (And.right (And.right (by assumption))) hf8) | (with_reducible refine Calls.mono (LH.out _ (And.right (And.right (by assumption)))) ?_; rintro e w9 ⟨rfl, hf9⟩; have hfr4 : Fr [] w5 w9 := Fr.then0 (And.right (And.right (by assumption))) hf9)))
            all_goals
              go_wp2_with fail
              go_meet
              exact ⟨rfl, hfr4⟩
          case rest =>
            obtain ⟨rfl, hf10⟩ := hcut
            clear HS K0 TG TH LG LH
            go_wp2_with fail
            go_roundw
            case rel => exact ⟨k + 1, hb', t', hlt, by omega, by go_num, rfl, HA5.out.fr0 hf10⟩
            case measure => simp [intOf]; omega
      · have h300i : ¬ (k : Int) < 300 := by omega
        have TG : Hid (∀ w', Fr [] wr w' → Calls Tryd.prog 18 #[.pointer (some ⟨gb, 0, none⟩)] w' fun e w'' => e = .returned (.string ⟨(tellB t).toArray⟩) ∧ Fr [] w' w'') := fun w' hf => (hA.fr0 hf).tellG hk3
        have TH : Hid (∀ w', Fr [] wr w' → Calls Tryd.prog 18 #[.pointer (some ⟨hb, 0, none⟩)] w' fun e w'' => e = .returned (.string ⟨(tellB t).toArray⟩) ∧ Fr [] w' w'') := fun w' hf => (hA.fr0 hf).tellH hk3
        have hfw := hA.fr
        have hpos : (tellB t).length ≠ 0 := tell_pos t
        obtain ⟨L, hL⟩ : ∃ L : ByteArray, L = ⟨(tellB t).toArray⟩ := ⟨_, rfl⟩
        have hLs : L.size ≠ 0 := by rw [hL]; exact hpos
        have hLe := toList_ne L hLs
        rw [← hL] at TG TH
        clear hL hpos hA hLs
        go_wp2_with fail
        refine Calls.mono (TG.out _ (Fr.refl _ _)) ?_
        rintro e w6 ⟨rfl, hf6⟩
        dsimp only
        go_wp2_with fail
        refine Calls.mono (TG.out _ hf6) ?_
        rintro e w7 ⟨rfl, hf7⟩
        dsimp only
        have hf7' := hf6.then0 hf7
        go_wp2_with fail
        refine Calls.mono (TH.out _ hf7') ?_
        rintro e w8 ⟨rfl, hf8⟩
        dsimp only
        go_wp2_with fail
        go_ret
        exact ⟨by simp; exact hLe, hfw.then0 (hf7'.then0 hf8)⟩
    · have hlti : ¬ (k : Int) < (n : Int) := by omega
      have TG : Hid (∀ w', Fr [] wr w' → Calls Tryd.prog 18 #[.pointer (some ⟨gb, 0, none⟩)] w' fun e w'' => e = .returned (.string ⟨(tellB t).toArray⟩) ∧ Fr [] w' w'') := fun w' hf => (hA.fr0 hf).tellG hk3
      have TH : Hid (∀ w', Fr [] wr w' → Calls Tryd.prog 18 #[.pointer (some ⟨hb, 0, none⟩)] w' fun e w'' => e = .returned (.string ⟨(tellB t).toArray⟩) ∧ Fr [] w' w'') := fun w' hf => (hA.fr0 hf).tellH hk3
      have hfw := hA.fr
      have hpos : (tellB t).length ≠ 0 := tell_pos t
      obtain ⟨L, hL⟩ : ∃ L : ByteArray, L = ⟨(tellB t).toArray⟩ := ⟨_, rfl⟩
      have hLs : L.size ≠ 0 := by rw [hL]; exact hpos
      have hLe := toList_ne L hLs
      rw [← hL] at TG TH
      clear hL hpos hA hLs
      go_wp2_with fail
      refine Calls.mono (TG.out _ (Fr.refl _ _)) ?_
      rintro e w6 ⟨rfl, hf6⟩
      dsimp only
      go_wp2_with fail
      refine Calls.mono (TG.out _ hf6) ?_
      rintro e w7 ⟨rfl, hf7⟩
      dsimp only
      have hf7' := hf6.then0 hf7
      go_wp2_with fail
      refine Calls.mono (TH.out _ hf7') ?_
      rintro e w8 ⟨rfl, hf8⟩
      dsimp only
      go_wp2_with fail
      go_ret
      exact ⟨by simp; exact hLe, hfw.then0 (hf7'.then0 hf8)⟩
end Go.Proofs.YtapabahhfanmmaaDoor
