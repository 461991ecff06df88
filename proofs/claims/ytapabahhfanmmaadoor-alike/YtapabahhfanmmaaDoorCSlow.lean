import Derived.Test.YtapabahhfanmmaaDoorCOrders
import Derived.Test.YtapabahhfanmmaaDoorCBegun
/- Slow. -/
namespace Go.Proofs.YtapabahhfanmmaaDoor
open Go.RowKit

theorem rise_inj {us : List U} (h : Rise us) {u v : U} (hu : u ∈ us) (hv : v ∈ us) (e : u.id = v.id) : u = v := by
  obtain ⟨i, hi, rfl⟩ := List.mem_iff_getElem.1 hu
  obtain ⟨j, hj, rfl⟩ := List.mem_iff_getElem.1 hv
  have hp := List.pairwise_iff_getElem.1 h
  by_cases hij : i < j
  · have := hp i j hi hj hij
    omega
  · by_cases hji : j < i
    · have := hp j i hj hi hji
      omega
    · have : i = j := by omega
      subst this
      rfl
theorem sq_le {a b : Int} (h : a * a + b * b ≤ 1) : -1 ≤ a ∧ a ≤ 1 := by
  have hb : 0 ≤ b * b := by
    by_cases h0 : 0 ≤ b
    · exact Int.mul_nonneg h0 h0
    · have := Int.mul_nonneg (show 0 ≤ -b by omega) (show 0 ≤ -b by omega)
      rwa [Int.neg_mul_neg] at this
  constructor
  · apply Classical.byContradiction
    intro h1
    have := Int.mul_le_mul_of_nonneg_right (show 2 ≤ -a by omega) (show 0 ≤ -a by omega)
    rw [Int.neg_mul_neg] at this
    omega
  · apply Classical.byContradiction
    intro h1
    have := Int.mul_le_mul_of_nonneg_right (show 2 ≤ a by omega) (show 0 ≤ a by omega)
    omega
theorem sq_cases {a b : Int} (h : a * a + b * b ≤ 1) : (a = 0 ∧ b = 0) ∨ (a = 1 ∧ b = 0) ∨ (a = -1 ∧ b = 0) ∨ (a = 0 ∧ b = 1) ∨ (a = 0 ∧ b = -1) := by
  have h1 := sq_le h
  have h2 := sq_le (a := b) (b := a) (by omega)
  have ha : a = -1 ∨ a = 0 ∨ a = 1 := by omega
  have hb : b = -1 ∨ b = 0 ∨ b = 1 := by omega
  rcases ha with rfl | rfl | rfl <;> rcases hb with rfl | rfl | rfl <;> simp_all
theorem played_near {t t' : T} (h : Played t t') (hok : GOk t) {u u' : U} (hu : u ∈ t.us) (hu' : u' ∈ t'.us) (e : u'.id = u.id) : Near1 (fun _ => True) u u' := by
  rcases h.rel u' hu' with h1 | ⟨v, hv, hn⟩
  · have := (hok.all u hu).id
    have h2 : u.id < t.next := this.2
    omega
  · have : v = u := rise_inj hok.rise hv hu (by have := hn.id; omega)
    rw [← this]
    exact hn

theorem infoTurn : (Tryd.prog.info? 33).map (·.size) = some 20 := by kernel_rfl
/-- A raw turn's row, and what its orders are. -/
theorem turn_row (gb : Nat) (t : T) (e : Nat → Int) (W : World) (lb o : Nat) (hc : ∀ j, j < 20 → W.cell? ⟨lb, o + j, none⟩ = some (ii (e j))) (hi : ∀ j, j < 20 → I64 (e j)) (hl : t.us.length ≤ 100) :
    ∃ tl : List Value, tl.length = 20 ∧ (∀ w', Fr [] W w' → w'.rangeAt lb o tl) ∧ ∀ pb cap w', GS w' gb pb cap t → Calls Tryd.prog 9 #[.pointer (some ⟨gb, 0, none⟩), .agg tl.toArray] w' fun e w'' => ∃ v1 v2, e = .returned (.tuple #[v1, v2]) ∧ (∃ c1 c2, CmdV w'' v1 [c1, c2]) ∧ (∃ c3 c4, CmdV w'' v2 [c3, c4]) ∧ Fr [] w' w'' := by
  refine ⟨[ii (e 0), ii (e 1), ii (e 2), ii (e 3), ii (e 4), ii (e 5), ii (e 6), ii (e 7), ii (e 8), ii (e 9), ii (e 10), ii (e 11), ii (e 12), ii (e 13), ii (e 14), ii (e 15), ii (e 16), ii (e 17), ii (e 18), ii (e 19)], rfl, ?_, fun pb cap w' hg => orders_any gb pb cap t e w' hg hl hi⟩
  intro w' hf j v hv
  have hj : j < 20 := by simpa using (List.getElem?_eq_some_iff.1 hv).1
  have h1 := hc j hj
  rw [(hf.cell _ _ (lt_of_cell h1) (by simp)).trans h1, ← hv]
  have h20 : j = 0 ∨ j = 1 ∨ j = 2 ∨ j = 3 ∨ j = 4 ∨ j = 5 ∨ j = 6 ∨ j = 7 ∨ j = 8 ∨ j = 9 ∨ j = 10 ∨ j = 11 ∨ j = 12 ∨ j = 13 ∨ j = 14 ∨ j = 15 ∨ j = 16 ∨ j = 17 ∨ j = 18 ∨ j = 19 := by omega
  rcases h20 with rfl | rfl | rfl | rfl | rfl | rfl | rfl | rfl | rfl | rfl | rfl | rfl | rfl | rfl | rfl | rfl | rfl | rfl | rfl | rfl <;> rfl

structure LI (W : World) (gb : Nat) (k : Nat) (wr : World) : Prop where
  ex : ∃ pb cap t, GS wr gb pb cap t ∧ GOk t ∧ t.turn = k
  fr : Fr [] W wr

set_option maxRecDepth 100000 in
set_option maxHeartbeats 4000000 in
theorem slow_walk (W : World) (v0 v1 : Value) (cs : List Int) (n : Nat) (f : Nat → Int) (hv0 : IntsV W v0 cs) (hv1 : TurnsV W v1 n f) (hsd : Sd W) : Calls Tryd.prog 4 #[v0, v1] W fun e W' => e = .returned (.bool true) ∧ Fr [] W W' := by
  obtain ⟨a1, lc, rfl⟩ : ∃ a1 lc, v1 = .slice a1 n lc := by
    rcases hv1 with ⟨ao, lc, rfl, rfl⟩ | ⟨lb, lo, lc, rfl, _⟩
    · exact ⟨_, _, rfl⟩
    · exact ⟨_, _, rfl⟩
  have HT := (show Hid _ from hv1)
  have hbg := begun_any v0 cs W hv0 hsd
  clear hv1 hv0
  go_enter Tryd.func4, Tryd.ntmps4
  go_wp2_with fail
  refine Calls.mono hbg ?_
  rintro e w1 ⟨gb, pb, cap, rfl, hg1, hgl, hpl, hf1⟩
  dsimp only
  clear hbg
  go_wp2_with fail
  go_loopw [6] (fun i wr => ∃ k : Nat, k ≤ n ∧ k ≤ 300 ∧ i = .int .i64 k ∧ LI W gb k wr) (fun i _ => 300 - (intOf i).toNat)
  case atStart => exact ⟨0, Nat.zero_le _, by omega, rfl, ⟨pb, cap, startT cs, hg1, start_ok cs, rfl⟩, hf1⟩
  case round =>
    obtain ⟨k, hk, hk3, rfl, ⟨pb1, cap1, t, hg, hok, htn⟩, hfr⟩ := hrel
    by_cases hlt : k < n
    · have hlti : (k : Int) < (n : Int) := by omega
      by_cases h300 : k < 300
      · have h300i : (k : Int) < 300 := by omega
        obtain ⟨lb, lo, e, rfl, hc⟩ : ∃ (lb lo : Nat) (e : Nat → Int), a1 = some ⟨lb, lo, none⟩ ∧ ∀ j, j < 20 → W.cell? ⟨lb, lo + k * 20 + j, none⟩ = some (ii (e j)) ∧ I64 (e j) := by
          rcases HT.out with ⟨ao, lc', e1, e2⟩ | ⟨lb, lo, lc', e1, hcc, _⟩
          · omega
          · refine ⟨lb, lo, fun j => f (k * 20 + j), by simpa using congrArg (fun v : Value => match v with | .slice a _ _ => a | _ => none) e1, fun j hj => ?_⟩
            have := hcc (k * 20 + j) (by omega)
            rw [← Nat.add_assoc] at this
            exact this
        have hlen : t.us.length ≤ 100 := hok.len
        have hgbl := hg.lt
        have HCW : ∀ w', Fr [] W w' → ∀ j, j < 20 → w'.cell? ⟨lb, lo + k * 20 + j, none⟩ = some (ii (e j)) := fun w' hf j hj => (hf.cell _ _ (lt_of_cell (hc j hj).1) (by simp)).trans (hc j hj).1
        obtain ⟨tl, htl, hrg, hor⟩ := turn_row gb t e W lb (lo + k * 20) (fun j hj => (hc j hj).1) (fun j hj => (hc j hj).2) hlen
        have HRG := (show Hid _ from hrg)
        have HOR := (show Hid _ from hor)
        have HTL : Hid ((Tryd.prog.info? 33).map (·.size) = some tl.length) := by show _ = _; rw [htl]; exact infoTurn
        have HN := (show Hid _ from htn)
        clear hc HCW htn htl hrg hor
        go_wp2_with fail
        refine Calls.mono (people_any gb pb1 cap1 t _ hg) ?_
        rintro e w2 ⟨pb2, cap2, rfl, hb2, hrow2, hf2⟩
        dsimp only
        have hw2 := hfr.then0 hf2
        have hg2 := hg.fr hf2 (by simp) (by simp)
        have hrg2 := HRG.out w2 hw2
        go_wp2_with (refine wpList_load_mid rfl 33 _ rfl lb (lo + k * 20) rfl tl _ hrg2 Tryd.underlying33 rfl HTL.out ?_)
        refine Calls.mono (HOR.out pb1 cap1 w2 hg2) ?_
        rintro e w3 ⟨x1, x2, rfl, ⟨c1, c2, hx1⟩, ⟨c3, c4, hx2⟩, hf3⟩
        dsimp only
        have hw3 := hw2.then0 hf3
        have hg3 := hg2.fr hf3 (by simp) (by simp)
        have hrow3 := hrow2.fr hf3 (by simp)
        have htu : 0 ≤ t.turn ∧ t.turn < 1000000000 := by have := HN.out; omega
        have hpo := play_ok hok [c1, c2] [c3, c4] htu.2
        have hpl := gamePlay_any gb pb1 cap1 t [c1, c2] [c3, c4] x1 x2 w3 hg3 (hsd.fr0 hw3) hok htu hx1 hx2 (by simp) (by simp)
        obtain ⟨t', ht'⟩ : ∃ t', t' = (playT t [c1, c2] [c3, c4]).1 := ⟨_, rfl⟩
        rw [← ht'] at hpl hpo
        clear ht'
        go_wp2_with fail
        refine Calls.mono hpl ?_
        rintro e w4 ⟨v4, pb4, cap4, rfl, hf4, hg4, _, _⟩
        dsimp only
        have hw4 : Fr [] W w4 := hw3.trans hf4 (by simp; omega)
        have hrow4 := hrow3.fr hf4 (by simp; omega)
        clear hpl
        go_wp2_with fail
        refine Calls.mono (people_any gb pb4 cap4 t' _ hg4) ?_
        rintro e w5 ⟨pb5, cap5, rfl, hb5, hrow5, hf5⟩
        dsimp only
        have hw5 := hw4.then0 hf5
        have hg5 := hg4.fr hf5 (by simp) (by simp)
        have hpb := (hrow4.fr hf5 (by simp)).ppl
        have hpa := hrow5.ppl
        have hlen' : t'.us.length ≤ 100 := hpo.ok.len
        have htn' : t'.turn = (k : Int) + 1 := by have := hpo.tn; have := HN.out; omega
        have HG5 := (show Hid _ from hg5)
        have HN5 := (show Hid _ from htn')
        clear hrow2 hrow3 hrow4 hrow5 hf2 hf3 hf4 hf5 hg hg2 hg3 hg4 hg5 htn' HRG HOR HTL hrg2 hx1 hx2 hw2 hw3 hw4 htu
        go_wp2_with fail
        go_loopw [11] (fun i w6 => ∃ p : Nat, p ≤ t'.us.length ∧ i = .int .i64 p ∧ Fr [] w5 w6) (fun i _ => t'.us.length - (intOf i).toNat)
        case atStart => exact ⟨0, Nat.zero_le _, rfl, Fr.refl _ _⟩
        case round =>
          obtain ⟨p, hp, rfl, hf6⟩ := hrel
          by_cases hpt : p < t'.us.length
          · have hpti : (p : Int) < (t'.us.length : Int) := by omega
            obtain ⟨u', hu'⟩ : ∃ u, t'.us[p]? = some u := ⟨t'.us[p], List.getElem?_eq_getElem hpt⟩
            have hm' := List.mem_of_getElem? hu'
            obtain ⟨o1, o2, o3, o4⟩ := onB_iff.1 (hpo.ok.all u' hm').on
            have HU' := (show Hid _ from hu')
            clear hu'
            go_wp2_with fail
            go_loopw [12] (fun i w6 => ∃ q : Nat, q ≤ t.us.length ∧ i = .int .i64 q ∧ Fr [] w5 w6) (fun i _ => t.us.length - (intOf i).toNat)
            case atStart => exact ⟨0, Nat.zero_le _, rfl, hf6⟩
            case round =>
              obtain ⟨q, hq, rfl, hf7⟩ := hrel
              by_cases hqt : q < t.us.length
              · have hqti : (q : Int) < (t.us.length : Int) := by omega
                obtain ⟨u, hu⟩ : ∃ u, t.us[q]? = some u := ⟨t.us[q], List.getElem?_eq_getElem hqt⟩
                have hm := List.mem_of_getElem? hu
                obtain ⟨c0, c1, c2, c3, c4, c5, c6, c7, c8, c9, c10⟩ := (hpa.fr hf7 (by simp)).at HU'.out
                obtain ⟨e0, e1, e2, e3, e4, e5, e6, e7, e8, e9, e10⟩ := (hpb.fr hf7 (by simp)).at hu
                obtain ⟨r1, r2, r3, r4⟩ := onB_iff.1 (hok.all u hm).on
                clear e6 e7 e8 e9 e10 c6 c7 c8 c9 c10 hu
                by_cases hid : u'.id = u.id
                · have hn := played_near hpo hok hm hm' hid
                  have hk' := hn.kind
                  have ho' := hn.owner
                  have hl' := hn.life
                  have hsq := sq_cases hn.near
                  clear hn hm hm'
                  rw [hid] at c0
                  rw [hk'] at c2
                  rw [ho'] at c1
                  have hl2 : ¬ (u'.life > u.life) := by omega
                  clear hid hk' ho' hl'
                  rcases hsq with ⟨s1, s2⟩ | ⟨s1, s2⟩ | ⟨s1, s2⟩ | ⟨s1, s2⟩ | ⟨s1, s2⟩
                  all_goals
                    go_wp2_with fail
                    go_region
                    go_wp2_with fail
                    go_region
                    go_wp2_with fail
                    go_region
                    go_wp2_with fail
                    go_roundw
                    case rel => exact ⟨q + 1, hqt, by go_num, hf7.then0 ((Fr.refl _ _).drew.drew.drew)⟩
                    case measure => simp [intOf]; omega
                · have hid' : (u'.id == u.id) = false := by simpa using hid
                  clear hm hm'
                  go_wp2_with fail
                  go_region
                  go_wp2_with fail
                  go_region
                  go_wp2_with fail
                  go_region
                  go_wp2_with fail
                  go_roundw
                  case rel => exact ⟨q + 1, hqt, by go_num, hf7.then0 ((Fr.refl _ _).drew.drew.drew)⟩
                  case measure => simp [intOf]; omega
              · have hqti : ¬ (q : Int) < (t.us.length : Int) := by omega
                go_wp2_with fail
                go_roundw
                case rel => exact ⟨p + 1, hpt, by go_num, hf7⟩
                case measure => simp [intOf]; omega
          · have hpti : ¬ (p : Int) < (t'.us.length : Int) := by omega
            go_wp2_with fail
            go_roundw
            case rel => exact ⟨k + 1, hlt, h300, by go_num, ⟨pb4, cap4, t', HG5.out.fr hf6 (by simp) (by simp), hpo.ok, by have := HN5.out; omega⟩, hw5.then0 hf6⟩
            case measure => simp [intOf]; omega
      · have hk4 : k = 300 := by omega
        have h300i : ¬ (k : Int) < 300 := by omega
        clear hk4
        go_wp2_with fail
        go_ret
        exact ⟨rfl, hfr⟩
    · have hlti : ¬ (k : Int) < (n : Int) := by omega
      go_wp2_with fail
      go_ret
      exact ⟨rfl, hfr⟩
end Go.Proofs.YtapabahhfanmmaaDoor
