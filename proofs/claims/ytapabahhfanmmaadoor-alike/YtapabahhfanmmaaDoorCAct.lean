import Derived.Test.YtapabahhfanmmaaDoorCActB
import Derived.Test.YtapabahhfanmmaaDoorCInv3
import Derived.Test.YtapabahhfanmmaaDoorCGame
/- All act. -/
namespace Go.Proofs.YtapabahhfanmmaaDoor
open Go.RowKit

structure ActI (w : World) (tb pb hb bb : Nat) (t : T) (cl ccap k : Nat) (wr : World) : Prop where
  ex : ∃ pb' cap' t', TS wr tb pb' cap' hb bb t' ∧ TOk t' ∧ overB t'.us = false ∧ actAll (t.us.drop k) t' = actAll t.us t ∧ (pb' = pb ∨ w.heap.size ≤ pb') ∧ pb' ≠ cl
  fr : Fr [tb, pb, hb, bb] w wr
  row : PRow wr cl ccap t.us
theorem actAll_cons (v : U) (l : List U) (t : T) : actAll (v :: l) t = if overB (actAt t v).us = true then actAt t v else actAll l (actAt t v) := rfl
theorem actAt_none {t : T} {v : U} (h : placeOf t.us v.id = none) : actAt t v = t := by unfold actAt; rw [h]
theorem actAt_some {t : T} {v u : U} {i : Nat} (h : placeOf t.us v.id = some i) (hi : t.us[i]? = some u) : actAt t v = actOne t u := by unfold actAt; rw [h]; dsimp only; rw [hi]

set_option maxRecDepth 100000 in
set_option maxHeartbeats 2000000 in
theorem act_any (tb pb cap hb bb : Nat) (t : T) (w : World) (h : TS w tb pb cap hb bb t) (hsd : Sd w) (hok : TOk t) (hno : overB t.us = false) (hne : 0 < t.us.length) :
    Calls Tryd.prog 34 #[.pointer (some ⟨tb, 0, none⟩)] w fun e w' =>
      e = .returned (.tuple #[]) ∧ ∃ pb' cap', Fr [tb, pb, hb, bb] w w' ∧ TS w' tb pb' cap' hb bb (actAll t.us t) ∧ (pb' = pb ∨ w.heap.size ≤ pb') := by
  have hz := h.z
  have hbl := h.ways.lt
  have hhl := h.held.lt
  have htl := h.lt
  have hpl := h.row.lt
  have hc := h.gv.c
  have hlen := h.len
  go_enter Tryd.func34, Tryd.ntmps34
  go_wp2_with (first | (go_at_call 25; refine (clone_any pb cap t.us _ h.row h.len hne).mono ?_; rintro e w1 ⟨cl, ccap, rfl, hcl, hrow, hf1⟩))
  clear hc
  go_loopw [13] (fun i wr => ∃ k : Nat, k ≤ t.us.length ∧ i = .int .i64 k ∧ ActI w tb pb hb bb t cl ccap k wr) (fun i _ => t.us.length - (intOf i).toNat)
  case atStart => exact ⟨0, Nat.zero_le _, rfl, ⟨pb, cap, t, h.fr0 hf1, hok, hno, rfl, Or.inl rfl, by omega⟩, hf1.of0, hrow⟩
  case round =>
    obtain ⟨k, hk, rfl, hI⟩ := hrel
    obtain ⟨⟨pb', cap', t', ht, hok', hno', hall, hpp, hpc⟩, hfr, hcr⟩ := hI
    by_cases hlt : k < t.us.length
    · obtain ⟨v, hv⟩ : ∃ u, t.us[k]? = some u := ⟨t.us[k], List.getElem?_eq_getElem hlt⟩
      have hdrop : t.us.drop k = v :: t.us.drop (k + 1) := by
        rw [List.drop_eq_getElem_cons hlt]
        congr 1
        rw [List.getElem?_eq_getElem hlt] at hv
        exact Option.some.inj hv
      rw [hdrop] at hall
      rw [actAll_cons] at hall
      obtain ⟨c0, c1, c2, c3, c4, c5, c6, c7, c8, c9, c10⟩ := hcr.ppl.at hv
      have htl' := ht.lt
      have hpl' := ht.row.lt
      have hhl' := ht.held.lt
      have hbl' := ht.ways.lt
      have hcl' := hcr.lt
      have HT := (show Hid _ from ht)
      have HALL := (show Hid _ from hall)
      have HCR := (show Hid _ from hcr)
      have HF := (show Hid _ from hfr)
      clear ht hall hdrop hv hcr hfr
      go_wp2_with fail
      obtain ⟨WA, hWA⟩ : ∃ W, W = wr.alloc (.cells v.arr 44) := ⟨_, rfl⟩
      rw [← hWA]
      have hfa : Fr [] wr WA := by rw [hWA]; exact (Fr.refl _ _).alloc _
      have hva : WA.heap[wr.heap.size]? = some (.cells v.arr 44) := by rw [hWA]; exact hp_new _ _
      clear hWA c0 c1 c2 c3 c4 c5 c6 c7 c8 c9 c10
      have HS : ∀ w', Fr [] WA w' → (fun w' : World => w'.cell? ⟨wr.heap.size, 0, none⟩ = some (ii v.id) ∧ Fr [] WA w') w' := fun w' hf => ⟨cell_of_heap (hf.heap0 hva), hf⟩
      have K0 := HS WA.drew ((Fr.refl _ _).drew)
      go_cut [4, 5] (fun s4 s5 wx => ∃ (i : Nat) (f : Bool), s4 = .int .i64 i ∧ s5 = .bool f ∧ placeOf t'.us v.id = (if f = true then some i else none) ∧ Fr [] WA wx)
      case first =>
        go_region_held (fun w' : World => w'.cell? ⟨wr.heap.size, 0, none⟩ = some (ii v.id) ∧ Fr [] WA w')
          (first | with_reducible exact K0 | with_reducible exact HS _ hfr1)
          (first | (go_at_call 46; refine (find_pl tb pb' cap' t'.us v.id _ (HT.out.gv.fr0 (hfa.then0 (And.right (by assumption)))) hok'.rise).mono ?_; rintro e w1 ⟨i, f, rfl, hf1, hpl1⟩; have hfr1 : Fr [] WA w1 := Fr.then0 (And.right (by assumption)) hf1))
        all_goals
          go_wp2_with fail
          go_meet
          exact ⟨i, f, rfl, rfl, hpl1, hfr1⟩
      case rest =>
        obtain ⟨i, f, rfl, rfl, hplace, hfx⟩ := hcut
        have hwx : Fr [] wr wc := hfa.then0 hfx
        have htx := HT.out.fr0 hwx
        clear HS K0 hva
        cases f
        · have hat : actAt t' v = t' := actAt_none (by simpa using hplace)
          have hall := HALL.out
          rw [hat, hno', if_neg (by simp)] at hall
          go_wp2_with (first | (go_at_call 31; refine (over_any tb pb' cap' t'.us _ htx.gv).mono ?_; rintro e w3 ⟨rfl, hf3⟩; rw [hno']))
          go_roundw
          case rel => exact ⟨k + 1, hlt, by go_num, ⟨pb', cap', t', htx.fr0 hf3, hok', hno', hall, hpp, hpc⟩, (HF.out.then0 hwx).then0 hf3, (HCR.out.fr hwx (by simp)).fr hf3 (by simp)⟩
          case measure => simp [intOf]; omega
        · rw [if_pos rfl] at hplace
          obtain ⟨u, hu, huid⟩ := placeOf_get hplace
          have hat := actAt_some hplace hu
          have hall := HALL.out
          rw [hat] at hall
          have hgood := actOne_ok hok' hu hno'
          have hcx := htx.gv.c
          have hil : i < t'.us.length := (List.getElem?_eq_some_iff.1 hu).1
          have hlen' := htx.len
          obtain ⟨c0, c1, c2, c3, c4, c5, c6, c7, c8, c9, c10⟩ := htx.row.ppl.at hu
          have hsx : Sd wc := (hsd.fr HF.out (by simp; omega)).fr0 hwx
          have hcall := actOne_any tb pb' cap' hb bb t' i u wc htx hsx hok' hu hno'
          obtain ⟨t2, ht2⟩ : ∃ x, actOne t' u = x := ⟨_, rfl⟩
          rw [ht2] at hgood hall hcall
          have HC := (show Hid _ from hcall)
          have HL := (show Hid _ from hall)
          have HG := (show Hid _ from hgood)
          obtain ⟨B, hB⟩ : ∃ B, overB t2.us = B := ⟨_, rfl⟩
          have HB := (show Hid _ from hB)
          have hwl := hwx.size
          clear hu hall HALL hplace hat hB hcall hgood ht2 huid htx
          go_wp2_with fail
          refine Calls.mono HC.out ?_
          rintro e w2 ⟨rfl, pb2, cap2, hf2, ht2, hp2⟩
          dsimp only
          have hw2 : Fr [tb, pb, hb, bb] w w2 := (HF.out.then0 hwx).trans hf2 (by
            intro x hx
            simp at hx
            rcases hx with rfl | rfl | rfl | rfl
            · simp
            · rcases hpp with e | e
              · simp [e]
              · exact Or.inr e
            · simp
            · simp)
          have hwl2 := HF.out.size
          have hpp2 : pb2 = pb ∨ w.heap.size ≤ pb2 := by
            rcases hp2 with e | e
            · rw [e]; exact hpp
            · exact Or.inr (by omega)
          have hpc2 : pb2 ≠ cl := by
            rcases hp2 with e | e
            · rw [e]; exact hpc
            · omega
          have hcr2 : PRow w2 cl ccap t.us := (HCR.out.fr hwx (by simp)).fr hf2 (by simp; omega)
          have hl := HL.out
          cases B
          · rw [HB.out, if_neg (by simp)] at hl
            go_wp2_with (first | (go_at_call 31; refine (over_any tb pb2 cap2 t2.us _ ht2.gv).mono ?_; rintro e w3 ⟨rfl, hf3⟩; rw [HB.out]))
            go_roundw
            case rel => exact ⟨k + 1, hlt, by go_num, ⟨pb2, cap2, t2, ht2.fr0 hf3, HG.out.ok, HB.out, hl, hpp2, hpc2⟩, hw2.then0 hf3, hcr2.fr hf3 (by simp)⟩
            case measure => simp [intOf]; omega
          · rw [HB.out, if_pos rfl] at hl
            go_wp2_with (first | (go_at_call 31; refine (over_any tb pb2 cap2 t2.us _ ht2.gv).mono ?_; rintro e w3 ⟨rfl, hf3⟩; rw [HB.out]))
            refine bodyPost_ret (v := .tuple #[]) (results_none rfl _ _ _) rfl ⟨rfl, pb2, cap2, hw2.then0 hf3, ?_, hpp2⟩
            rw [← hl]
            exact ht2.fr0 hf3
    · have hall' := hall
      rw [List.drop_of_length_le (by omega)] at hall'
      go_wp2_with fail
      refine bodyPost_end (v := .tuple #[]) (results_none rfl _ _ _) rfl ⟨rfl, pb', cap', hfr, ?_, hpp⟩
      rw [← hall']
      exact ht
end Go.Proofs.YtapabahhfanmmaaDoor
