import Derived.Test.YtapabahhfanmmaaDoorCTotal
import Derived.Test.YtapabahhfanmmaaDoorCWayT
import Derived.BigQuiet
/- The law's own spreading. -/
namespace Go.Proofs.YtapabahhfanmmaaDoor
open Go.RowKit

def farTo (F : Nat → Int) (bd : Nat → Int) (c r : Int) (n : Int) (k : Nat) (j : Nat) : Int := if F j = 0 ∧ ∃ q ∈ nbrTo c r k, ci q.1 q.2 = j ∧ grd bd q = true then n else F j
structure FarAt (w : World) (fb : Nat) (F : Nat → Int) : Prop where
  cell : ∀ j, j < 144 → w.cell? ⟨fb, j, none⟩ = some (ii (F j))
  fz : ∀ j, w.frozen? ⟨fb, j, none⟩ = false

theorem nbrTo_succ (c r : Int) (k : Nat) (X Y : Int) (hk : k < 4) (hX : X = c + (if k = 1 then 1 else if k = 3 then -1 else 0)) (hY : Y = r + (if k = 0 then -1 else if k = 2 then 1 else 0)) : nbrTo c r (k + 1) = nbrTo c r k ++ (if onB X Y = true then [(X, Y)] else []) := by
  have h4 : k = 0 ∨ k = 1 ∨ k = 2 ∨ k = 3 := by omega
  rcases h4 with rfl | rfl | rfl | rfl <;> simp at hX hY <;> subst hX <;> subst hY <;> (unfold nbrTo sds; simp only [List.take_succ_cons, List.take_zero, List.map_cons, List.map_nil, List.filter_cons, List.filter_nil, Int.add_zero]; (repeat' split) <;> simp_all)
theorem far_step (F bd : Nat → Int) (c r : Int) (n : Int) (k : Nat) (X Y : Int) (hk : k < 4) (hX : X = c + (if k = 1 then 1 else if k = 3 then -1 else 0)) (hY : Y = r + (if k = 0 then -1 else if k = 2 then 1 else 0)) (j : Nat) :
    farTo F bd c r n (k + 1) j = if onB X Y = true ∧ grd bd (X, Y) = true ∧ ci X Y = j ∧ farTo F bd c r n k j = 0 then n else farTo F bd c r n k j := by
  have hN := nbrTo_succ c r k X Y hk hX hY
  by_cases hall : onB X Y = true ∧ grd bd (X, Y) = true ∧ ci X Y = j
  · obtain ⟨h1, h2, h3⟩ := hall
    by_cases hF : F j = 0
    · have e1 : farTo F bd c r n (k + 1) j = n := by
        unfold farTo
        rw [if_pos ⟨hF, (X, Y), by rw [hN, if_pos h1]; simp, h3, h2⟩]
      rw [e1]
      by_cases e : farTo F bd c r n k j = 0
      · rw [if_pos ⟨h1, h2, h3, e⟩]
      · rw [if_neg (fun h => e h.2.2.2)]
        unfold farTo at e ⊢
        split at e
        · rename_i hh; rw [if_pos hh]
        · exact absurd hF e
    · have e1 : ∀ m, farTo F bd c r n m j = F j := fun m => by unfold farTo; rw [if_neg (fun h => hF h.1)]
      rw [e1, e1, if_neg (fun h => hF h.2.2.2)]
  · rw [if_neg (fun h => hall ⟨h.1, h.2.1, h.2.2.1⟩)]
    unfold farTo
    have hiff : (∃ q ∈ nbrTo c r (k + 1), ci q.1 q.2 = j ∧ grd bd q = true) ↔ ∃ q ∈ nbrTo c r k, ci q.1 q.2 = j ∧ grd bd q = true := by
      rw [hN]
      constructor
      · rintro ⟨q, hq, e, hg⟩
        rcases List.mem_append.1 hq with hq | hq
        · exact ⟨q, hq, e, hg⟩
        · split at hq
          · rename_i ho
            simp at hq
            subst hq
            exact absurd ⟨ho, hg, e⟩ hall
          · simp at hq
      · rintro ⟨q, hq, e, hg⟩
        exact ⟨q, List.mem_append_left _ hq, e, hg⟩
    simp only [hiff]
theorem FarAt.same {w : World} {fb : Nat} {F G : Nat → Int} (h : FarAt w fb F) (e : ∀ j, G j = F j) : FarAt w fb G := ⟨fun j hj => by rw [e]; exact h.cell j hj, h.fz⟩
theorem FarAt.set {w : World} {fb : Nat} {F G : Nat → Int} (h : FarAt w fb F) (i : Nat) (hi : i < 144) (n : Int) (e : ∀ j, G j = if j = i then n else F j) : FarAt (w.setCell ⟨fb, i, none⟩ (.int .i64 n)) fb G := by
  refine ⟨fun j hj => ?_, fun j => by rw [World.frozen?_setCell]; exact h.fz j⟩
  rw [e]
  by_cases hji : j = i
  · subst hji
    rw [cell_same _ _ _ _ _ (h.cell j hj), if_pos rfl]
  · rw [cell_other _ fb i fb j _ (Or.inr (fun x => hji x.symm)), if_neg hji]
    exact h.cell j hj

set_option maxRecDepth 100000 in
set_option maxHeartbeats 4000000 in
theorem spread_any (fb : Nat) (F bd : Nat → Int) (r c : Nat) (n : Int) (w : World) (hr : r < 12) (hc : c < 12) (hF : FarAt w fb F) :
    Calls Tryd.prog 16 #[.pointer (some ⟨fb, 0, none⟩), .agg (boardL bd).toArray, .int .i64 r, .int .i64 c, .int .i64 n] w fun e w' => e = .returned (.tuple #[]) ∧ Fr [fb] w w' ∧ FarAt w' fb (farTo F bd c r n 4) := by
  obtain ⟨bl, hbl⟩ : ∃ x, x = boardL bd := ⟨_, rfl⟩
  rw [← hbl]
  have HBL := (show Hid _ from hbl)
  clear hbl
  go_enter Tryd.func16, Tryd.ntmps16
  go_wp2_with fail
  obtain ⟨W0, hW0⟩ : ∃ W, W = w.alloc (.cells bl.toArray 50) := ⟨_, rfl⟩
  rw [← hW0]
  have hw0 : Fr [] w W0 := by rw [hW0]; exact (Fr.refl _ _).alloc _
  have hbh : W0.heap[w.heap.size]? = some (.cells bl.toArray 50) := by rw [hW0]; exact hp_new _ _
  have hfl : fb < w.heap.size := lt_of_cell (hF.cell 0 (by omega))
  have HB : Hid (∀ w', Fr [fb] W0 w' → ∀ j, j < 144 → w'.cell? ⟨w.heap.size, j, none⟩ = some (ii (bd j))) := fun w' hf j hj => by
    rw [cell_of_heap (hf.heap hbh (by simp; omega)), HBL.out]
    simp only [List.getElem?_toArray]
    unfold boardL
    rw [List.getElem?_map, List.getElem?_range hj]
    rfl
  have hF0 : FarAt W0 fb (farTo F bd c r n 0) := by
    refine ⟨fun j hj => ?_, fun j => ?_⟩
    · rw [hw0.cell _ _ hfl (by simp), hF.cell j hj]
      unfold farTo
      rw [if_neg (by rintro ⟨_, q, hq, _⟩; simp [nbrTo] at hq)]
    · rw [hw0.frozen _ _ hfl (by simp)]; exact hF.fz j
  clear hW0 hbh
  go_loopw [10] (fun i wr => ∃ k : Nat, k ≤ 4 ∧ i = .int .i64 k ∧ Fr [fb] W0 wr ∧ FarAt wr fb (farTo F bd c r n k)) (fun i _ => 4 - (intOf i).toNat)
  case atStart => exact ⟨0, by omega, rfl, Fr.refl _ _, hF0⟩
  case round =>
    obtain ⟨k, hk, rfl, hfr, hfar⟩ := hrel
    by_cases hlt : k < 4
    · have hlti : (k : Int) < 4 := by omega
      obtain ⟨X, hX⟩ : ∃ X : Int, X = (c : Int) + (if k = 1 then 1 else if k = 3 then -1 else 0) := ⟨_, rfl⟩
      obtain ⟨Y, hY⟩ : ∃ Y : Int, Y = (r : Int) + (if k = 0 then -1 else if k = 2 then 1 else 0) := ⟨_, rfl⟩
      have hcases : (k = 0 ∧ X = (c : Int) ∧ Y = (r : Int) - 1) ∨ (k = 1 ∧ X = (c : Int) + 1 ∧ Y = (r : Int)) ∨ (k = 2 ∧ X = (c : Int) ∧ Y = (r : Int) + 1) ∨ (k = 3 ∧ X = (c : Int) - 1 ∧ Y = (r : Int)) := by
        have : k = 0 ∨ k = 1 ∨ k = 2 ∨ k = 3 := by omega
        rcases this with rfl | rfl | rfl | rfl <;> simp at hX hY <;> omega
      have HXY := (show Hid _ from And.intro hX hY)
      clear hX hY
      rcases hcases with ⟨hk0, hX, hY⟩ | ⟨hk0, hX, hY⟩ | ⟨hk0, hX, hY⟩ | ⟨hk0, hX, hY⟩
      · have m0 : ((k : Int) == 0) = true := by simp; omega
        have HK := (show Hid _ from And.intro hk0 (And.intro hX hY))
        clear hX hk0
        go_upto_region 14 with (fail)
        rw [← hY]
        clear hY
        obtain ⟨b1, hb1⟩ : ∃ b, ((c : Int) == 0) = b := ⟨_, rfl⟩
        obtain ⟨b2, hb2⟩ : ∃ b, (Y == 0) = b := ⟨_, rfl⟩
        obtain ⟨b3, hb3⟩ : ∃ b, ((c : Int) == 11) = b := ⟨_, rfl⟩
        obtain ⟨b4, hb4⟩ : ∃ b, (Y == 11) = b := ⟨_, rfl⟩
        go_cut [11, 12, 13] (fun y x cr wx => y = .int .i64 Y ∧ x = .int .i64 (c : Int) ∧ cr = .bool ((b1 && b2) || (b3 && b4)) ∧ wr = wx)
        case first =>
          cases b1 <;> cases b2 <;> cases b3 <;> cases b4
          all_goals
            go_wp2_with fail
            go_meet
            exact ⟨rfl, rfl, rfl, rfl⟩
        case rest =>
          obtain ⟨rfl, rfl, rfl, rfl⟩ := hcut
          have HST := (show Hid _ from fun j => far_step F bd c r n k X Y hlt HXY.out.1 HXY.out.2 j)
          have HCO : Hid (((b1 && b2) || (b3 && b4)) = true ↔ ((X, Y) = ((0, 0) : Cl) ∨ (X, Y) = ((11, 11) : Cl))) := by
            have h1 := HK.out.2.1
            have h2 := HK.out.2.2
            show _ ↔ _
            rw [← hb1, ← hb2, ← hb3, ← hb4]
            simp [Prod.ext_iff]
            try omega
          clear hb1 hb2 hb3 hb4
          by_cases hon : onB X Y = true
          · obtain ⟨p0, p1, p2, p3⟩ := onB_iff.1 hon
            have hci : ci X Y = Y.toNat * 12 + c := by
              have h1 := HK.out.2.1
              have h2 := HK.out.2.2
              unfold ci
              omega
            have hcl : Y.toNat * 12 + c < 144 := by rw [← hci]; exact ci_lt hon
            have hbv := HB.out wr hfr _ hcl
            have hfv := hfar.cell _ hcl
            have hfz := hfar.fz (Y.toNat * 12 + c)
            obtain ⟨v, hv⟩ : ∃ v, bd (Y.toNat * 12 + c) = v := ⟨_, rfl⟩
            obtain ⟨g, hg⟩ : ∃ g, farTo F bd c r n k (Y.toNat * 12 + c) = g := ⟨_, rfl⟩
            rw [hv] at hbv
            rw [hg] at hfv
            have HV := (show Hid _ from hv)
            have HG := (show Hid _ from hg)
            have HCI := (show Hid _ from hci)
            have HON := (show Hid _ from hon)
            obtain ⟨cr, hcr⟩ : ∃ b, ((b1 && b2) || (b3 && b4)) = b := ⟨_, rfl⟩
            rw [hcr] at HCO ⊢
            have q1 : Y < 12 := by assumption
            have q2 : 0 ≤ Y := by assumption
            clear hv hg hci hon hcr
            cases cr
            · by_cases hv0 : v = 0
              · subst hv0
                by_cases hg0 : g = 0
                · subst hg0
                  have HGR : Hid (grd bd (X, Y) = true) := by
                    have h1 : ¬ ((X, Y) = ((0, 0) : Cl)) := fun h => by have := HCO.out.2 (Or.inl h); cases this
                    have h2 : ¬ ((X, Y) = ((11, 11) : Cl)) := fun h => by have := HCO.out.2 (Or.inr h); cases this
                    show grd bd (X, Y) = true
                    unfold grd
                    show (bd (ci X Y) == 0 && decide ((X, Y) ≠ ((0, 0) : Cl)) && decide ((X, Y) ≠ ((11, 11) : Cl))) = true
                    rw [HCI.out, HV.out, decide_eq_true h1, decide_eq_true h2]
                    rfl
                  go_wp2_with fail
                  go_roundw
                  case rel => exact ⟨k + 1, hlt, by go_num, hfr.setCell _ _ (Or.inl (by simp)), hfar.set _ hcl n (fun j => by
                    rw [HST.out j]
                    by_cases e : j = Y.toNat * 12 + c
                    · subst e
                      rw [if_pos ⟨HON.out, HGR.out, HCI.out, HG.out⟩, if_pos rfl]
                    · rw [if_neg (fun h => e (h.2.2.1.symm.trans HCI.out)), if_neg e])⟩
                  case measure => simp [intOf]; omega
                · have hg0b : (g == 0) = false := by simpa using hg0
                  go_wp2_with fail
                  go_roundw
                  case rel => exact ⟨k + 1, hlt, by go_num, hfr, hfar.same (fun j => by
                    rw [HST.out j, if_neg (fun h => ?_)]
                    have e := h.2.2.1
                    rw [HCI.out] at e
                    have h4 := h.2.2.2
                    rw [← e, HG.out] at h4
                    exact hg0 h4)⟩
                  case measure => simp [intOf]; omega
              · have hv0b : (v == 0) = false := by simpa using hv0
                go_wp2_with fail
                go_roundw
                case rel => exact ⟨k + 1, hlt, by go_num, hfr, hfar.same (fun j => by
                  rw [HST.out j, if_neg (fun h => ?_)]
                  have h2 : (bd (ci X Y) == 0 && decide ((X, Y) ≠ ((0, 0) : Cl)) && decide ((X, Y) ≠ ((11, 11) : Cl))) = true := h.2.1
                  rw [HCI.out, HV.out, hv0b] at h2
                  simp at h2)⟩
                case measure => simp [intOf]; omega
            · go_wp2_with fail
              go_roundw
              case rel => exact ⟨k + 1, hlt, by go_num, hfr, hfar.same (fun j => by
                rw [HST.out j, if_neg (fun h => ?_)]
                have h2 := h.2.1
                unfold grd at h2
                have h3 := HCO.out.1 rfl
                rcases h3 with h3 | h3 <;> simp [h3] at h2)⟩
              case measure => simp [intOf]; omega
          · have hoff : decide (0 ≤ Y) = false := by
              have h1 := HK.out.2.1
              have h2 := HK.out.2.2
              apply decide_eq_false
              intro h3
              apply hon
              apply onB_iff.2
              omega
            go_wp2_with fail
            go_roundw
            case rel => exact ⟨k + 1, hlt, by go_num, hfr, hfar.same (fun j => by rw [HST.out j, if_neg (fun h => hon h.1)])⟩
            case measure => simp [intOf]; omega
      · have m0 : ((k : Int) == 0) = false := by simp; omega
        have m1 : ((k : Int) == 1) = true := by simp; omega
        have HK := (show Hid _ from And.intro hk0 (And.intro hX hY))
        clear hY hk0
        go_upto_region 14 with (fail)
        rw [← hX]
        clear hX
        obtain ⟨b1, hb1⟩ : ∃ b, (X == 0) = b := ⟨_, rfl⟩
        obtain ⟨b2, hb2⟩ : ∃ b, ((r : Int) == 0) = b := ⟨_, rfl⟩
        obtain ⟨b3, hb3⟩ : ∃ b, (X == 11) = b := ⟨_, rfl⟩
        obtain ⟨b4, hb4⟩ : ∃ b, ((r : Int) == 11) = b := ⟨_, rfl⟩
        go_cut [11, 12, 13] (fun y x cr wx => y = .int .i64 (r : Int) ∧ x = .int .i64 X ∧ cr = .bool ((b1 && b2) || (b3 && b4)) ∧ wr = wx)
        case first =>
          cases b1 <;> cases b2 <;> cases b3 <;> cases b4
          all_goals
            go_wp2_with fail
            go_meet
            exact ⟨rfl, rfl, rfl, rfl⟩
        case rest =>
          obtain ⟨rfl, rfl, rfl, rfl⟩ := hcut
          have HST := (show Hid _ from fun j => far_step F bd c r n k X Y hlt HXY.out.1 HXY.out.2 j)
          have HCO : Hid (((b1 && b2) || (b3 && b4)) = true ↔ ((X, Y) = ((0, 0) : Cl) ∨ (X, Y) = ((11, 11) : Cl))) := by
            have h1 := HK.out.2.1
            have h2 := HK.out.2.2
            show _ ↔ _
            rw [← hb1, ← hb2, ← hb3, ← hb4]
            simp [Prod.ext_iff]
            try omega
          clear hb1 hb2 hb3 hb4
          by_cases hon : onB X Y = true
          · obtain ⟨p0, p1, p2, p3⟩ := onB_iff.1 hon
            have hci : ci X Y = r * 12 + X.toNat := by
              have h1 := HK.out.2.1
              have h2 := HK.out.2.2
              unfold ci
              omega
            have hcl : r * 12 + X.toNat < 144 := by rw [← hci]; exact ci_lt hon
            have hbv := HB.out wr hfr _ hcl
            have hfv := hfar.cell _ hcl
            have hfz := hfar.fz (r * 12 + X.toNat)
            obtain ⟨v, hv⟩ : ∃ v, bd (r * 12 + X.toNat) = v := ⟨_, rfl⟩
            obtain ⟨g, hg⟩ : ∃ g, farTo F bd c r n k (r * 12 + X.toNat) = g := ⟨_, rfl⟩
            rw [hv] at hbv
            rw [hg] at hfv
            have HV := (show Hid _ from hv)
            have HG := (show Hid _ from hg)
            have HCI := (show Hid _ from hci)
            have HON := (show Hid _ from hon)
            obtain ⟨cr, hcr⟩ : ∃ b, ((b1 && b2) || (b3 && b4)) = b := ⟨_, rfl⟩
            rw [hcr] at HCO ⊢
            have q1 : X < 12 := by assumption
            have q2 : 0 ≤ X := by assumption
            clear hv hg hci hon hcr
            cases cr
            · by_cases hv0 : v = 0
              · subst hv0
                by_cases hg0 : g = 0
                · subst hg0
                  have HGR : Hid (grd bd (X, Y) = true) := by
                    have h1 : ¬ ((X, Y) = ((0, 0) : Cl)) := fun h => by have := HCO.out.2 (Or.inl h); cases this
                    have h2 : ¬ ((X, Y) = ((11, 11) : Cl)) := fun h => by have := HCO.out.2 (Or.inr h); cases this
                    show grd bd (X, Y) = true
                    unfold grd
                    show (bd (ci X Y) == 0 && decide ((X, Y) ≠ ((0, 0) : Cl)) && decide ((X, Y) ≠ ((11, 11) : Cl))) = true
                    rw [HCI.out, HV.out, decide_eq_true h1, decide_eq_true h2]
                    rfl
                  go_wp2_with fail
                  go_roundw
                  case rel => exact ⟨k + 1, hlt, by go_num, hfr.setCell _ _ (Or.inl (by simp)), hfar.set _ hcl n (fun j => by
                    rw [HST.out j]
                    by_cases e : j = r * 12 + X.toNat
                    · subst e
                      rw [if_pos ⟨HON.out, HGR.out, HCI.out, HG.out⟩, if_pos rfl]
                    · rw [if_neg (fun h => e (h.2.2.1.symm.trans HCI.out)), if_neg e])⟩
                  case measure => simp [intOf]; omega
                · have hg0b : (g == 0) = false := by simpa using hg0
                  go_wp2_with fail
                  go_roundw
                  case rel => exact ⟨k + 1, hlt, by go_num, hfr, hfar.same (fun j => by
                    rw [HST.out j, if_neg (fun h => ?_)]
                    have e := h.2.2.1
                    rw [HCI.out] at e
                    have h4 := h.2.2.2
                    rw [← e, HG.out] at h4
                    exact hg0 h4)⟩
                  case measure => simp [intOf]; omega
              · have hv0b : (v == 0) = false := by simpa using hv0
                go_wp2_with fail
                go_roundw
                case rel => exact ⟨k + 1, hlt, by go_num, hfr, hfar.same (fun j => by
                  rw [HST.out j, if_neg (fun h => ?_)]
                  have h2 : (bd (ci X Y) == 0 && decide ((X, Y) ≠ ((0, 0) : Cl)) && decide ((X, Y) ≠ ((11, 11) : Cl))) = true := h.2.1
                  rw [HCI.out, HV.out, hv0b] at h2
                  simp at h2)⟩
                case measure => simp [intOf]; omega
            · go_wp2_with fail
              go_roundw
              case rel => exact ⟨k + 1, hlt, by go_num, hfr, hfar.same (fun j => by
                rw [HST.out j, if_neg (fun h => ?_)]
                have h2 := h.2.1
                unfold grd at h2
                have h3 := HCO.out.1 rfl
                rcases h3 with h3 | h3 <;> simp [h3] at h2)⟩
              case measure => simp [intOf]; omega
          · have hoff : decide (X < 12) = false := by
              have h1 := HK.out.2.1
              have h2 := HK.out.2.2
              apply decide_eq_false
              intro h3
              apply hon
              apply onB_iff.2
              omega
            have hp : 0 ≤ X := by have := HK.out.2.1; omega
            go_wp2_with fail
            go_roundw
            case rel => exact ⟨k + 1, hlt, by go_num, hfr, hfar.same (fun j => by rw [HST.out j, if_neg (fun h => hon h.1)])⟩
            case measure => simp [intOf]; omega
      · have m0 : ((k : Int) == 0) = false := by simp; omega
        have m1 : ((k : Int) == 1) = false := by simp; omega
        have m2 : ((k : Int) == 2) = true := by simp; omega
        have HK := (show Hid _ from And.intro hk0 (And.intro hX hY))
        clear hX hk0
        go_upto_region 14 with (fail)
        rw [← hY]
        clear hY
        obtain ⟨b1, hb1⟩ : ∃ b, ((c : Int) == 0) = b := ⟨_, rfl⟩
        obtain ⟨b2, hb2⟩ : ∃ b, (Y == 0) = b := ⟨_, rfl⟩
        obtain ⟨b3, hb3⟩ : ∃ b, ((c : Int) == 11) = b := ⟨_, rfl⟩
        obtain ⟨b4, hb4⟩ : ∃ b, (Y == 11) = b := ⟨_, rfl⟩
        go_cut [11, 12, 13] (fun y x cr wx => y = .int .i64 Y ∧ x = .int .i64 (c : Int) ∧ cr = .bool ((b1 && b2) || (b3 && b4)) ∧ wr = wx)
        case first =>
          cases b1 <;> cases b2 <;> cases b3 <;> cases b4
          all_goals
            go_wp2_with fail
            go_meet
            exact ⟨rfl, rfl, rfl, rfl⟩
        case rest =>
          obtain ⟨rfl, rfl, rfl, rfl⟩ := hcut
          have HST := (show Hid _ from fun j => far_step F bd c r n k X Y hlt HXY.out.1 HXY.out.2 j)
          have HCO : Hid (((b1 && b2) || (b3 && b4)) = true ↔ ((X, Y) = ((0, 0) : Cl) ∨ (X, Y) = ((11, 11) : Cl))) := by
            have h1 := HK.out.2.1
            have h2 := HK.out.2.2
            show _ ↔ _
            rw [← hb1, ← hb2, ← hb3, ← hb4]
            simp [Prod.ext_iff]
            try omega
          clear hb1 hb2 hb3 hb4
          by_cases hon : onB X Y = true
          · obtain ⟨p0, p1, p2, p3⟩ := onB_iff.1 hon
            have hci : ci X Y = Y.toNat * 12 + c := by
              have h1 := HK.out.2.1
              have h2 := HK.out.2.2
              unfold ci
              omega
            have hcl : Y.toNat * 12 + c < 144 := by rw [← hci]; exact ci_lt hon
            have hbv := HB.out wr hfr _ hcl
            have hfv := hfar.cell _ hcl
            have hfz := hfar.fz (Y.toNat * 12 + c)
            obtain ⟨v, hv⟩ : ∃ v, bd (Y.toNat * 12 + c) = v := ⟨_, rfl⟩
            obtain ⟨g, hg⟩ : ∃ g, farTo F bd c r n k (Y.toNat * 12 + c) = g := ⟨_, rfl⟩
            rw [hv] at hbv
            rw [hg] at hfv
            have HV := (show Hid _ from hv)
            have HG := (show Hid _ from hg)
            have HCI := (show Hid _ from hci)
            have HON := (show Hid _ from hon)
            obtain ⟨cr, hcr⟩ : ∃ b, ((b1 && b2) || (b3 && b4)) = b := ⟨_, rfl⟩
            rw [hcr] at HCO ⊢
            have q1 : Y < 12 := by assumption
            have q2 : 0 ≤ Y := by assumption
            clear hv hg hci hon hcr
            cases cr
            · by_cases hv0 : v = 0
              · subst hv0
                by_cases hg0 : g = 0
                · subst hg0
                  have HGR : Hid (grd bd (X, Y) = true) := by
                    have h1 : ¬ ((X, Y) = ((0, 0) : Cl)) := fun h => by have := HCO.out.2 (Or.inl h); cases this
                    have h2 : ¬ ((X, Y) = ((11, 11) : Cl)) := fun h => by have := HCO.out.2 (Or.inr h); cases this
                    show grd bd (X, Y) = true
                    unfold grd
                    show (bd (ci X Y) == 0 && decide ((X, Y) ≠ ((0, 0) : Cl)) && decide ((X, Y) ≠ ((11, 11) : Cl))) = true
                    rw [HCI.out, HV.out, decide_eq_true h1, decide_eq_true h2]
                    rfl
                  go_wp2_with fail
                  go_roundw
                  case rel => exact ⟨k + 1, hlt, by go_num, hfr.setCell _ _ (Or.inl (by simp)), hfar.set _ hcl n (fun j => by
                    rw [HST.out j]
                    by_cases e : j = Y.toNat * 12 + c
                    · subst e
                      rw [if_pos ⟨HON.out, HGR.out, HCI.out, HG.out⟩, if_pos rfl]
                    · rw [if_neg (fun h => e (h.2.2.1.symm.trans HCI.out)), if_neg e])⟩
                  case measure => simp [intOf]; omega
                · have hg0b : (g == 0) = false := by simpa using hg0
                  go_wp2_with fail
                  go_roundw
                  case rel => exact ⟨k + 1, hlt, by go_num, hfr, hfar.same (fun j => by
                    rw [HST.out j, if_neg (fun h => ?_)]
                    have e := h.2.2.1
                    rw [HCI.out] at e
                    have h4 := h.2.2.2
                    rw [← e, HG.out] at h4
                    exact hg0 h4)⟩
                  case measure => simp [intOf]; omega
              · have hv0b : (v == 0) = false := by simpa using hv0
                go_wp2_with fail
                go_roundw
                case rel => exact ⟨k + 1, hlt, by go_num, hfr, hfar.same (fun j => by
                  rw [HST.out j, if_neg (fun h => ?_)]
                  have h2 : (bd (ci X Y) == 0 && decide ((X, Y) ≠ ((0, 0) : Cl)) && decide ((X, Y) ≠ ((11, 11) : Cl))) = true := h.2.1
                  rw [HCI.out, HV.out, hv0b] at h2
                  simp at h2)⟩
                case measure => simp [intOf]; omega
            · go_wp2_with fail
              go_roundw
              case rel => exact ⟨k + 1, hlt, by go_num, hfr, hfar.same (fun j => by
                rw [HST.out j, if_neg (fun h => ?_)]
                have h2 := h.2.1
                unfold grd at h2
                have h3 := HCO.out.1 rfl
                rcases h3 with h3 | h3 <;> simp [h3] at h2)⟩
              case measure => simp [intOf]; omega
          · have hoff : decide (Y < 12) = false := by
              have h1 := HK.out.2.1
              have h2 := HK.out.2.2
              apply decide_eq_false
              intro h3
              apply hon
              apply onB_iff.2
              omega
            have hp : 0 ≤ Y := by have := HK.out.2.2; omega
            go_wp2_with fail
            go_roundw
            case rel => exact ⟨k + 1, hlt, by go_num, hfr, hfar.same (fun j => by rw [HST.out j, if_neg (fun h => hon h.1)])⟩
            case measure => simp [intOf]; omega
      · have m0 : ((k : Int) == 0) = false := by simp; omega
        have m1 : ((k : Int) == 1) = false := by simp; omega
        have m2 : ((k : Int) == 2) = false := by simp; omega
        have HK := (show Hid _ from And.intro hk0 (And.intro hX hY))
        clear hY hk0
        go_upto_region 14 with (fail)
        rw [← hX]
        clear hX
        obtain ⟨b1, hb1⟩ : ∃ b, (X == 0) = b := ⟨_, rfl⟩
        obtain ⟨b2, hb2⟩ : ∃ b, ((r : Int) == 0) = b := ⟨_, rfl⟩
        obtain ⟨b3, hb3⟩ : ∃ b, (X == 11) = b := ⟨_, rfl⟩
        obtain ⟨b4, hb4⟩ : ∃ b, ((r : Int) == 11) = b := ⟨_, rfl⟩
        go_cut [11, 12, 13] (fun y x cr wx => y = .int .i64 (r : Int) ∧ x = .int .i64 X ∧ cr = .bool ((b1 && b2) || (b3 && b4)) ∧ wr = wx)
        case first =>
          cases b1 <;> cases b2 <;> cases b3 <;> cases b4
          all_goals
            go_wp2_with fail
            go_meet
            exact ⟨rfl, rfl, rfl, rfl⟩
        case rest =>
          obtain ⟨rfl, rfl, rfl, rfl⟩ := hcut
          have HST := (show Hid _ from fun j => far_step F bd c r n k X Y hlt HXY.out.1 HXY.out.2 j)
          have HCO : Hid (((b1 && b2) || (b3 && b4)) = true ↔ ((X, Y) = ((0, 0) : Cl) ∨ (X, Y) = ((11, 11) : Cl))) := by
            have h1 := HK.out.2.1
            have h2 := HK.out.2.2
            show _ ↔ _
            rw [← hb1, ← hb2, ← hb3, ← hb4]
            simp [Prod.ext_iff]
            try omega
          clear hb1 hb2 hb3 hb4
          by_cases hon : onB X Y = true
          · obtain ⟨p0, p1, p2, p3⟩ := onB_iff.1 hon
            have hci : ci X Y = r * 12 + X.toNat := by
              have h1 := HK.out.2.1
              have h2 := HK.out.2.2
              unfold ci
              omega
            have hcl : r * 12 + X.toNat < 144 := by rw [← hci]; exact ci_lt hon
            have hbv := HB.out wr hfr _ hcl
            have hfv := hfar.cell _ hcl
            have hfz := hfar.fz (r * 12 + X.toNat)
            obtain ⟨v, hv⟩ : ∃ v, bd (r * 12 + X.toNat) = v := ⟨_, rfl⟩
            obtain ⟨g, hg⟩ : ∃ g, farTo F bd c r n k (r * 12 + X.toNat) = g := ⟨_, rfl⟩
            rw [hv] at hbv
            rw [hg] at hfv
            have HV := (show Hid _ from hv)
            have HG := (show Hid _ from hg)
            have HCI := (show Hid _ from hci)
            have HON := (show Hid _ from hon)
            obtain ⟨cr, hcr⟩ : ∃ b, ((b1 && b2) || (b3 && b4)) = b := ⟨_, rfl⟩
            rw [hcr] at HCO ⊢
            have q1 : X < 12 := by assumption
            have q2 : 0 ≤ X := by assumption
            clear hv hg hci hon hcr
            cases cr
            · by_cases hv0 : v = 0
              · subst hv0
                by_cases hg0 : g = 0
                · subst hg0
                  have HGR : Hid (grd bd (X, Y) = true) := by
                    have h1 : ¬ ((X, Y) = ((0, 0) : Cl)) := fun h => by have := HCO.out.2 (Or.inl h); cases this
                    have h2 : ¬ ((X, Y) = ((11, 11) : Cl)) := fun h => by have := HCO.out.2 (Or.inr h); cases this
                    show grd bd (X, Y) = true
                    unfold grd
                    show (bd (ci X Y) == 0 && decide ((X, Y) ≠ ((0, 0) : Cl)) && decide ((X, Y) ≠ ((11, 11) : Cl))) = true
                    rw [HCI.out, HV.out, decide_eq_true h1, decide_eq_true h2]
                    rfl
                  go_wp2_with fail
                  go_roundw
                  case rel => exact ⟨k + 1, hlt, by go_num, hfr.setCell _ _ (Or.inl (by simp)), hfar.set _ hcl n (fun j => by
                    rw [HST.out j]
                    by_cases e : j = r * 12 + X.toNat
                    · subst e
                      rw [if_pos ⟨HON.out, HGR.out, HCI.out, HG.out⟩, if_pos rfl]
                    · rw [if_neg (fun h => e (h.2.2.1.symm.trans HCI.out)), if_neg e])⟩
                  case measure => simp [intOf]; omega
                · have hg0b : (g == 0) = false := by simpa using hg0
                  go_wp2_with fail
                  go_roundw
                  case rel => exact ⟨k + 1, hlt, by go_num, hfr, hfar.same (fun j => by
                    rw [HST.out j, if_neg (fun h => ?_)]
                    have e := h.2.2.1
                    rw [HCI.out] at e
                    have h4 := h.2.2.2
                    rw [← e, HG.out] at h4
                    exact hg0 h4)⟩
                  case measure => simp [intOf]; omega
              · have hv0b : (v == 0) = false := by simpa using hv0
                go_wp2_with fail
                go_roundw
                case rel => exact ⟨k + 1, hlt, by go_num, hfr, hfar.same (fun j => by
                  rw [HST.out j, if_neg (fun h => ?_)]
                  have h2 : (bd (ci X Y) == 0 && decide ((X, Y) ≠ ((0, 0) : Cl)) && decide ((X, Y) ≠ ((11, 11) : Cl))) = true := h.2.1
                  rw [HCI.out, HV.out, hv0b] at h2
                  simp at h2)⟩
                case measure => simp [intOf]; omega
            · go_wp2_with fail
              go_roundw
              case rel => exact ⟨k + 1, hlt, by go_num, hfr, hfar.same (fun j => by
                rw [HST.out j, if_neg (fun h => ?_)]
                have h2 := h.2.1
                unfold grd at h2
                have h3 := HCO.out.1 rfl
                rcases h3 with h3 | h3 <;> simp [h3] at h2)⟩
              case measure => simp [intOf]; omega
          · have hoff : decide (0 ≤ X) = false := by
              have h1 := HK.out.2.1
              have h2 := HK.out.2.2
              apply decide_eq_false
              intro h3
              apply hon
              apply onB_iff.2
              omega
            go_wp2_with fail
            go_roundw
            case rel => exact ⟨k + 1, hlt, by go_num, hfr, hfar.same (fun j => by rw [HST.out j, if_neg (fun h => hon h.1)])⟩
            case measure => simp [intOf]; omega
    · have hlti : ¬ (k : Int) < 4 := by omega
      have hk4 : k = 4 := by omega
      have HK4 := (show Hid _ from hk4)
      clear hk4
      go_wp2_with fail
      refine bodyPost_end (v := .tuple #[]) (results_none rfl _ _ _) rfl ⟨rfl, (hw0.of0 (S := [fb])).trans hfr (by simp), ?_⟩
      have h4 := HK4.out
      subst h4
      exact hfar
end Go.Proofs.YtapabahhfanmmaaDoor
