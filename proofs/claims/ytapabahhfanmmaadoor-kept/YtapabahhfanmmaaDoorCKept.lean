import Derived.Test.YtapabahhfanmmaaDoorCSlow
import Derived.Test.YtapabahhfanmmaaDoorCApart
/- Kept. -/
namespace Go.Proofs.YtapabahhfanmmaaDoor
open Go.RowKit

def spentTo (us : List U) (k : Nat) : Int := ((us.take k).map (fun u => costOf u.kind)).sum
theorem spentTo_succ {us : List U} {k : Nat} {u : U} (h : us[k]? = some u) : spentTo us (k + 1) = spentTo us k + costOf u.kind := by
  unfold spentTo
  obtain ⟨hl, rfl⟩ := List.getElem?_eq_some_iff.1 h
  rw [List.take_succ_eq_append_getElem hl, List.map_append, List.sum_append]
  simp
theorem spentTo_le (us : List U) : ∀ k, k ≤ us.length → 0 ≤ spentTo us k ∧ spentTo us k ≤ 8 * k
  | 0, _ => by simp [spentTo]
  | k + 1, hk => by
    have h1 := spentTo_le us k (by omega)
    rw [spentTo_succ (List.getElem?_eq_getElem (show k < us.length by omega))]
    unfold costOf
    split
    · omega
    · split <;> omega
theorem worth_sum : ∀ us : List U, (us.map worth).sum = (us.map U.load).sum + (us.map (fun u => costOf u.kind)).sum
  | [] => rfl
  | u :: us => by
    have ih := worth_sum us
    simp only [List.map_cons, List.sum_cons, ih]
    unfold worth
    omega
theorem wealth_is (t : T) : wealth t = totalOf t + spentTo t.us t.us.length := by
  unfold wealth totalOf spentTo
  rw [worth_sum, List.take_length]
  omega
theorem total_le {t : T} (hok : GOk t) : 0 ≤ totalOf t ∧ totalOf t ≤ 2000002000 := by
  have h1 := oreTo_le t.bd hok.bd 144 (by omega)
  have h2 := loadTo_le t.us (fun u hu => ⟨(hok.all u hu).ld.1, (hok.all u hu).ld.2.1⟩) t.us.length (Nat.le_refl _)
  have h3 : (0 ≤ t.s0 ∧ t.s0 ≤ 1000000000) ∧ (0 ≤ t.s1 ∧ t.s1 ≤ 1000000000) := hok.st
  have h4 : t.us.length ≤ 100 := hok.len
  unfold totalOf
  unfold loadTo at h2
  rw [List.take_length] at h2
  have h5 : oreSum t.bd = oreTo t.bd 144 := rfl
  omega
theorem wealth_start (cs : List Int) : wealth (startT cs) = totalOf (startT cs) := by
  rw [wealth_is]
  have : spentTo (startT cs).us (startT cs).us.length = 0 := by
    show spentTo [newU 1 0 1 0 0 40, newU 2 1 1 11 11 40] 2 = 0
    decide
  omega

structure KI (W : World) (gb : Nat) (A : Int) (k : Nat) (wr : World) : Prop where
  ex : ∃ pb cap t, GS wr gb pb cap t ∧ GOk t ∧ t.turn = k ∧ wealth t ≤ A
  fr : Fr [] W wr

set_option maxRecDepth 100000 in
set_option maxHeartbeats 4000000 in
theorem kept_walk (W : World) (v0 v1 : Value) (cs : List Int) (n : Nat) (f : Nat → Int) (hv0 : IntsV W v0 cs) (hv1 : TurnsV W v1 n f) (hsd : Sd W) : Calls Tryd.prog 3 #[v0, v1] W fun e W' => e = .returned (.bool true) ∧ Fr [] W W' := by
  obtain ⟨a1, lc, rfl⟩ : ∃ a1 lc, v1 = .slice a1 n lc := by
    rcases hv1 with ⟨ao, lc, rfl, rfl⟩ | ⟨lb, lo, lc, rfl, _⟩
    · exact ⟨_, _, rfl⟩
    · exact ⟨_, _, rfl⟩
  have HT := (show Hid _ from hv1)
  have hbg := begun_any v0 cs W hv0 hsd
  clear hv1 hv0
  go_enter Tryd.func3, Tryd.ntmps3
  go_wp2_with fail
  refine Calls.mono hbg ?_
  rintro e w1 ⟨gb, pb, cap, rfl, hg1, hgl, hpl, hf1⟩
  dsimp only
  have hwst := wealth_start cs
  have hok1 := start_ok cs
  have htr1 : (startT cs).turn = 0 := rfl
  have hAb := total_le hok1
  obtain ⟨t0, ht0⟩ : ∃ t0, t0 = startT cs := ⟨_, rfl⟩
  rw [← ht0] at hg1 hwst hok1 htr1 hAb
  have hto := total_any gb pb cap t0 w1 hg1 hok1
  obtain ⟨A, hA⟩ : ∃ A, A = totalOf t0 := ⟨_, rfl⟩
  rw [← hA] at hto hwst hAb
  clear hbg ht0 hA
  go_wp2_with fail
  refine Calls.mono hto ?_
  rintro e w2 ⟨rfl, hf2⟩
  dsimp only
  have hw2 := hf1.then0 hf2
  have hg2 := hg1.fr hf2 (by simp) (by simp)
  clear hto
  go_wp2_with fail
  go_loopw [7] (fun i wr => ∃ k : Nat, k ≤ n ∧ k ≤ 300 ∧ i = .int .i64 k ∧ KI W gb A k wr) (fun i _ => 300 - (intOf i).toNat)
  case atStart => exact ⟨0, Nat.zero_le _, by omega, rfl, ⟨pb, cap, t0, hg2, hok1, htr1, by omega⟩, hw2⟩
  case round =>
    obtain ⟨k, hk, hk3, rfl, ⟨pb1, cap1, t, hg, hok, htn, hwe⟩, hfr⟩ := hrel
    clear hg1 hg2 hok1 htr1 hwst hf1 hf2 hw2
    by_cases hlt : k < n
    · have hlti : (k : Int) < (n : Int) := by omega
      by_cases h300 : k < 300
      · have h300i : (k : Int) < 300 := by omega
        obtain ⟨lb, lo, e, rfl, hc⟩ : ∃ (lb lo : Nat) (e : Nat → Int), a1 = some ⟨lb, lo, none⟩ ∧ ∀ j, j < 20 → W.cell? ⟨lb, lo + k * 20 + j, none⟩ = some (ii (e j)) ∧ I64 (e j) := by
          rcases HT.out with ⟨ao, lc', e1, e2⟩ | ⟨lb, lo, lc', e1, hcc, _⟩
          · omega
          · refine ⟨lb, lo, fun j => f (k * 20 + j), by simpa using congrArg (fun v : Value => match v with | .slice a _ _ => a | _ => none) e1, fun j hj => ?_⟩
            have := hcc (k * 20 + j) (by omega)
            rw [← Nat.add_assoc] at this
            exact this
        have hlen : t.us.length ≤ 100 := hok.len
        have hgbl := hg.lt
        obtain ⟨tl, htl, hrg, hor⟩ := turn_row gb t e W lb (lo + k * 20) (fun j hj => (hc j hj).1) (fun j hj => (hc j hj).2) hlen
        have hrg1 := hrg wr hfr
        have HOR := (show Hid _ from hor)
        have HTL : Hid ((Tryd.prog.info? 33).map (·.size) = some tl.length) := by show _ = _; rw [htl]; exact infoTurn
        have HN := (show Hid _ from htn)
        have hfd : ∀ (a b c d : Int) (w : World), (Instr.field 36 (.agg #[ii a, ii b, ii c, ii d]) 0).run Tryd.prog w = .ok (ii a) w := fun a b c d w => by kernel_rfl
        clear hc htl hrg hor
        go_wp2_with (refine wpList_load_mid rfl 33 _ rfl lb (lo + k * 20) rfl tl _ hrg1 Tryd.underlying33 rfl HTL.out ?_)
        refine Calls.mono (HOR.out pb1 cap1 wr hg) ?_
        rintro e w3 ⟨x1, x2, rfl, ⟨c1, c2, hx1⟩, ⟨c3, c4, hx2⟩, hf3⟩
        dsimp only
        have hw3 := hfr.then0 hf3
        have hg3 := hg.fr hf3 (by simp) (by simp)
        clear hrg1 HOR HTL
        go_wp2_with fail
        refine Calls.mono (look_any gb pb1 cap1 t w3 hg3) ?_
        rintro e w4 ⟨rfl, hf4⟩
        dsimp only
        have hw4 := hw3.then0 hf4
        have hg4 := hg3.fr hf4 (by simp) (by simp)
        have htu : 0 ≤ t.turn ∧ t.turn < 1000000000 := by have := HN.out; omega
        have hpo := play_ok hok [c1, c2] [c3, c4] htu.2
        have hpl := gamePlay_any gb pb1 cap1 t [c1, c2] [c3, c4] x1 x2 w4 hg4 (hsd.fr0 hw4) hok htu (hx1.fr0 hf4) (hx2.fr0 hf4) (by simp) (by simp)
        obtain ⟨t', ht'⟩ : ∃ t', t' = (playT t [c1, c2] [c3, c4]).1 := ⟨_, rfl⟩
        rw [← ht'] at hpl hpo
        clear ht'
        go_wp2_with fail
        refine Calls.mono hpl ?_
        rintro e w5 ⟨v5, pb5, cap5, rfl, hf5, hg5, _, _⟩
        dsimp only
        have hw5 : Fr [] W w5 := hw4.trans hf5 (by simp; omega)
        clear hpl
        go_wp2_with fail
        refine Calls.mono (apart_any gb pb5 cap5 t' w5 hg5 hpo.ok) ?_
        rintro e w6 ⟨rfl, hf6⟩
        dsimp only
        have hw6 := hw5.then0 hf6
        have hg6 := hg5.fr hf6 (by simp) (by simp)
        go_wp2_with fail
        refine Calls.mono (people_any gb pb5 cap5 t' w6 hg6) ?_
        rintro e w7 ⟨pb7, cap7, rfl, hb7, hrow7, hf7⟩
        dsimp only
        have hw7 := hw6.then0 hf7
        have hg7 := hg6.fr hf7 (by simp) (by simp)
        have hpp := hrow7.ppl
        have hlen' : t'.us.length ≤ 100 := hpo.ok.len
        have htt : t'.turn = t.turn + 1 := hpo.tn
        have hwe' : wealth t' ≤ A := by have := hpo.we; omega
        have hsl := spentTo_le t'.us
        have HSL := (show Hid _ from hsl)
        have HPO := (show Hid _ from hpo)
        have hto := total_any gb pb5 cap5 t' w7 hg7 hpo.ok
        have htl2 := total_le hpo.ok
        have hwi := wealth_is t'
        obtain ⟨N, hN⟩ : ∃ N, N = totalOf t' := ⟨_, rfl⟩
        rw [← hN] at hto htl2 hwi
        have HTO := (show Hid _ from hto)
        have HWE := (show Hid _ from hwe')
        have HWI := (show Hid _ from hwi)
        clear hto hN hwi hwe' hsl hpo hrow7 hf3 hf4 hf5 hf6 hf7 hg hg3 hg4 hg5 hg6 hw3 hw4 hw5 hw6 hx1 hx2
        go_wp2_with fail
        go_loopw [12, 14] (fun s i w8 => ∃ p : Nat, p ≤ t'.us.length ∧ i = .int .i64 p ∧ s = .int .i64 (spentTo t'.us p) ∧ w7 = w8) (fun _ i _ => t'.us.length - (intOf i).toNat)
        case atStart => exact ⟨0, Nat.zero_le _, rfl, by simp [spentTo], rfl⟩
        case round =>
          obtain ⟨p, hp, rfl, rfl, rfl⟩ := hrel
          have hsp := HSL.out p hp
          by_cases hpt : p < t'.us.length
          · have hpti : (p : Int) < (t'.us.length : Int) := by omega
            obtain ⟨u, hu⟩ : ∃ u, t'.us[p]? = some u := ⟨t'.us[p], List.getElem?_eq_getElem hpt⟩
            obtain ⟨c0, c1, c2, c3, c4, c5, c6, c7, c8, c9, c10⟩ := hpp.at hu
            have hkk := (HPO.out.ok.all u (List.mem_of_getElem? hu)).kd
            have hsu := spentTo_succ hu
            obtain ⟨kd, hkd⟩ : ∃ x, u.kind = x := ⟨_, rfl⟩
            rw [hkd] at c2 hkk hsu
            clear c0 c1 c3 c4 c5 c6 c7 c8 c9 c10 hu hkd
            rcases hkk with rfl | rfl | rfl
            all_goals
              simp only [costOf] at hsu
              have HSU := (show Hid _ from hsu)
              clear hsu
              go_wp2_with fail
              go_roundw
              case rel => exact ⟨p + 1, hpt, by go_num, by rw [HSU.out]; simp, trivial⟩
              case measure => simp [intOf]; omega
          · have hpti : ¬ (p : Int) < (t'.us.length : Int) := by omega
            have hpe : p = t'.us.length := by omega
            obtain ⟨sp, hspe⟩ : ∃ x, x = spentTo t'.us p := ⟨_, rfl⟩
            rw [← hspe] at hsp ⊢
            have hle : ¬ (A < N + sp) := by have h1 := HWE.out; have h2 := HWI.out; rw [hspe, hpe]; omega
            have hleb : decide (A < N + sp) = false := by simpa using hle
            have htt' : (t'.turn == t.turn + 1) = true := by simpa using htt
            clear hspe hpe
            go_wp2_with (first | (go_at_call 8; refine Calls.mono HTO.out ?_; rintro e w8 ⟨rfl, hf8⟩; have hg8 := hg7.fr hf8 (by simp) (by simp)) | (go_at_call 10; refine Calls.mono (look_any gb pb5 cap5 t' _ hg8) ?_; rintro e w9 ⟨rfl, hf9⟩))
            go_roundw
            case rel => exact ⟨k + 1, hlt, h300, by go_num, ⟨pb5, cap5, t', hg8.fr hf9 (by simp) (by simp), HPO.out.ok, by have := HN.out; omega, HWE.out⟩, (hw7.then0 hf8).then0 hf9⟩
            case measure => simp [intOf]; omega
      · have hk4 : k = 300 := by omega
        have h300i : ¬ (k : Int) < 300 := by omega
        clear hk4
        go_wp2_with fail
        go_ret
        exact ⟨rfl, hfr⟩
    · have hlti : ¬ (k : Int) < (n : Int) := by omega
      go_wp2_with fail
      go_ret
      exact ⟨rfl, hfr⟩
end Go.Proofs.YtapabahhfanmmaaDoor
