import Derived.Test.YtapabahhfanmmaaGreatDoorCRefD
import Derived.Test.YtapabahhfanmmaaGreatDoorCStoreP
namespace Go.Proofs.YtapabahhfanmmaaGreatDoor
open Go.RowKit
theorem flat_set : ∀ (us : List U) (i j : Nat) (u u' : U) (v : Value), us[i]? = some u → j < 11 → u'.cells = u.cells.set j v → (us.flatMap U.cells).set (i * 11 + j) v = (us.set i u').flatMap U.cells
 | [], i, _, _, _, _, h, _, _ => by simp at h
 | a :: l, 0, j, u, u', v, h, hj, hc => by
  have : a = u := by simpa using h
  subst this
  rw [List.set_cons_zero, List.flatMap_cons, List.flatMap_cons, hc, Nat.zero_mul, Nat.zero_add, List.set_append_left _ _ (by simpa using hj)]
 | a :: l, i + 1, j, u, u', v, h, hj, hc => by
  have ih := flat_set l i j u u' v (by simpa using h) hj hc
  rw [List.set_cons_succ, List.flatMap_cons, List.flatMap_cons, ← ih, List.set_append_right _ _ (by simp; omega)]
  congr 2
  simp
  omega
theorem PRow.setC {w : World} {pb cap : Nat} {us : List U} (h : PRow w pb cap us) {i j : Nat} {u u' : U} {v : Value} (hi : us[i]? = some u) (hj : j < 11) (hc : u'.cells = u.cells.set j v) : PRow (w.setCell ⟨pb, i * 11 + j, none⟩ v) pb cap (us.set i u') := by
  obtain ⟨cur, h1, h2, h3⟩ := h.h
  refine ⟨⟨cur.setIfInBounds (i * 11 + j) v, setCell_heap h1 v, by simpa using h2, ?_⟩, by rw [List.length_set]; exact h.le, h.cap⟩
  rw [List.length_set, Array.toList_setIfInBounds, List.take_set, h3, flat_set us i j u u' v hi hj hc]
theorem RG.setC {w : World} {gb pb cap : Nat} {t : T} (h : RG w gb pb cap t) {i j : Nat} {u u' : U} {v : Value} (hi : t.us[i]? = some u) (hj : j < 11) (hc : u'.cells = u.cells.set j v) : RG (w.setCell ⟨pb, i * 11 + j, none⟩ v) gb pb cap { t with us := t.us.set i u' } := by
 refine ⟨fun k hk => ?_, fun k => by rw [World.frozen?_setCell]; exact h.fz k, h.row.setC hi hj hc, by simpa using h.len, h.ne⟩
 rw [cell_other _ _ _ _ _ _ (Or.inl (fun e => h.ne e.symm)), h.cell k hk]
 show _ = some (rcell { t with us := t.us.set i u' } (.slice (some ⟨pb, 0, none⟩) (t.us.set i u').length cap) k)
 rw [List.length_set]
 rfl
theorem RG.frz {w : World} {gb pb cap : Nat} {t : T} (h : RG w gb pb cap t) (k : Nat) : w.frozen? ⟨pb, k, none⟩ = false := by
  obtain ⟨cur, h1, _⟩ := h.row.h
  exact frozen_of_heap h1
theorem RG.pl {w : World} {gb pb cap : Nat} {t : T} (h : RG w gb pb cap t) : pb < w.heap.size := by
  obtain ⟨cur, h1, _⟩ := h.row.h
  exact lt_of_heap h1
theorem set_at {us : List U} {i : Nat} {u u' : U} (hi : us[i]? = some u) : (us.set i u')[i]? = some u' := by
  rw [List.getElem?_set_self (List.getElem?_eq_some_iff.1 hi).1]
theorem RG.idle {w : World} {gb pb cap : Nat} {t : T} (h : RG w gb pb cap t) {i : Nat} {u : U} (hi : t.us[i]? = some u) : RG ((((w.setCell ⟨pb, i * 11 + 7, none⟩ (ii 0)).setCell ⟨pb, i * 11 + 8, none⟩ (ii 0)).setCell ⟨pb, i * 11 + 9, none⟩ (ii 0)).setCell ⟨pb, i * 11 + 10, none⟩ (ii 0)) gb pb cap { t with us := t.us.set i u.idle } := by
 have h1 := h.setC (u' := { u with what := 0 }) (v := ii 0) hi (j := 7) (by omega) rfl
 have h2 := h1.setC (u' := { u with what := 0, tox := 0 }) (v := ii 0) (i := i) (set_at hi) (j := 8) (by omega) rfl
 have h3 := h2.setC (u' := { u with what := 0, tox := 0, toy := 0 }) (v := ii 0) (i := i) (set_at (set_at hi)) (j := 9) (by omega) rfl
 have h4 := h3.setC (u' := u.idle) (v := ii 0) (i := i) (set_at (set_at (set_at hi))) (j := 10) (by omega) rfl
 simp only [List.set_set] at h4
 exact h4
set_option maxRecDepth 100000 in
set_option maxHeartbeats 800000 in
theorem refRest_any (gb pb cap : Nat) (t : T) (i : Nat) (u : U) (w : World) (h : RG w gb pb cap t) (hi : t.us[i]? = some u) :
  Calls Tryz.prog 179 #[.pointer (some ⟨gb, 0, none⟩), .int .i64 i] w fun e w' => e = .returned (.tuple #[]) ∧ RG w' gb pb cap { t with us := t.us.set i u.idle } ∧ Fr [pb] w w' := by
 have hlen := h.len
 have hil := (List.getElem?_eq_some_iff.1 hi).1
 have hili : (i : Int) < (t.us.length : Int) := by omega
 have hc := h.c148
 have hne := h.ne
 have f7 := h.frz (i * 11 + 7)
 have f8 := h.frz (i * 11 + 8)
 have f9 := h.frz (i * 11 + 9)
 have f10 := h.frz (i * 11 + 10)
 obtain ⟨_, _, _, _, _, _, _, c7, c8, c9, c10⟩ := h.gv.p.at hi
 have hne2 : ¬ pb = gb := fun e => hne e.symm
 obtain ⟨P, hP⟩ : ∃ P : World → Prop, P = fun w' => RG w' gb pb cap { t with us := t.us.set i u.idle } := ⟨_, rfl⟩
 have HG : Hid (P ((((w.setCell ⟨pb, i * 11 + 7, none⟩ (ii 0)).setCell ⟨pb, i * 11 + 8, none⟩ (ii 0)).setCell ⟨pb, i * 11 + 9, none⟩ (ii 0)).setCell ⟨pb, i * 11 + 10, none⟩ (ii 0))) := by rw [hP]; exact h.idle hi
 have e : ∀ w', P w' ↔ RG w' gb pb cap { t with us := t.us.set i u.idle } := fun w' => by rw [hP]
 refine Calls.mono (R := fun e w' => e = .returned (.tuple #[]) ∧ P w' ∧ Fr [pb] w w') ?_ (fun e' w' ⟨a, b, c⟩ => ⟨a, (e w').1 b, c⟩)
 clear hi h e hP
 go_enter Tryz.func179, Tryz.ntmps179
 go_wp2_with fail
 exact bodyPost_end (v := .tuple #[]) (results_none rfl _ _ _) rfl ⟨rfl, HG.out, ((((Fr.refl _ _).setCell _ _ (Or.inl (by simp))).setCell _ _ (Or.inl (by simp))).setCell _ _ (Or.inl (by simp))).setCell _ _ (Or.inl (by simp))⟩
theorem pickN_snoc (d : Cl → Nat) (n : Cl) : ∀ (l : List Cl) (s : Nat × Cl), pickN d (l ++ [n]) s = if 0 < d n ∧ ((pickN d l s).1 = 0 ∨ d n < (pickN d l s).1) then (d n, n) else pickN d l s
 | [], (b, r) => rfl
 | a :: l, (b, r) => by
  rw [List.cons_append]
  unfold pickN
  split
  ·exact pickN_snoc d n l _
  ·exact pickN_snoc d n l _
theorem RG.to {w : World} {gb pb cap : Nat} {t : T} {i : Nat} {u : U} {c : Cl} (h : RG w gb pb cap { t with us := t.us.set i (u.to c) }) (hi : t.us[i]? = some u) (z v : Int) : RG ((w.setCell ⟨pb, i * 11 + 3, none⟩ (ii z)).setCell ⟨pb, i * 11 + 4, none⟩ (ii v)) gb pb cap { t with us := t.us.set i (u.to (z, v)) } := by
 have h1 := h.setC (u' := { u.to c with x := z }) (v := ii z) (i := i) (set_at hi) (j := 3) (by omega) rfl
 have h2 := h1.setC (u' := u.to (z, v)) (v := ii v) (i := i) (set_at (set_at hi)) (j := 4) (by omega) rfl
 simp only [List.set_set] at h2
 exact h2
set_option maxRecDepth 100000 in
set_option maxHeartbeats 2000000 in
theorem refStep_any (gb pb cap : Nat) (t : T) (i : Nat) (u : U) (x y : Int) (onto : Bool) (w : World) (h : RG w gb pb cap t) (hi : t.us[i]? = some u) (hon : onB u.x u.y = true) (h1 : -1000 ≤ x) (h2 : x ≤ 1000) (h3 : -1000 ≤ y) (h4 : y ≤ 1000) :
  Calls Tryz.prog 180 #[.pointer (some ⟨gb, 0, none⟩), .int .i64 i, .int .i64 x, .int .i64 y, .bool onto] w fun e w' => e = .returned (.tuple #[]) ∧ ∃ F : Cl → Nat, FarX (freeR t.us t.bd) (endsR x y onto) F ∧ RG w' gb pb cap { t with us := t.us.set i (u.to (pickN F (nbrs u.x u.y) (0, (u.x, u.y))).2) } ∧ Fr [pb] w w' := by
 have hlen := h.len
 have hil := (List.getElem?_eq_some_iff.1 hi).1
 have hili : (i : Int) < (t.us.length : Int) := by omega
 obtain ⟨p0, p1, p2, p3⟩ := onB_iff.1 hon
 go_enter Tryz.func180, Tryz.ntmps180
 go_wp2_with fail
 refine Calls.mono (refFar_any gb pb cap t x y onto _ h h1 h2 h3 h4) ?_
 rintro e w1 ⟨F, hX, hle, rfl, hf1⟩
 dsimp only
 have HX := (show Hid _ from hX)
 have HT1 := (show Hid _ from tabL_one F)
 have HT := (show Hid _ from tabL_len F)
 obtain ⟨tl, htl⟩ : ∃ tl, tl = tabL F := ⟨_, rfl⟩
 rw [← htl] at HT HT1 ⊢
 have HTL := (show Hid _ from htl)
 have HI2 : Hid ((Tryz.prog.info? 87).map (·.size) = some tl.toArray.size) := by show _ = _; rw [List.size_toArray, HT.out]; exact infoTab
 have HZ : Hid (Tryz.zeroCells87.size = tl.toArray.size) := by
  have e : tl.toArray.size = 144 := by rw [List.size_toArray, HT.out]
  show _ = _
  rw [e]
  rfl
 obtain ⟨W2, hW2⟩ : ∃ W, W = (w1.alloc (.cells Tryz.zeroCells87 87)).setRow w1.heap.size tl.toArray := ⟨_, rfl⟩
 have hf2 : Fr [] w W2 := by rw [hW2]; exact (hf1.alloc _).setRow _ _ (Or.inr hf1.size)
 have hd2 : W2.heap[w1.heap.size]? = some (.cells tl.toArray 87) := by rw [hW2]; exact setRow_heap _ _ _ _ _ _ (hp_new w1 _)
 have hs2 : W2.heap.size = w1.heap.size + 1 := by rw [hW2]; simp [World.setRow]
 have hg2 := h.fr0 hf2
 have hc2 := hg2.c148
 obtain ⟨c0, c1, c2, c3, c4, c5, c6, c7, c8, c9, c10⟩ := hg2.gv.p.at hi
 have HW2 := (show Hid _ from hW2)
 have HS2 := (show Hid _ from hs2)
 clear hX htl hW2 hs2
 go_wp2_with (refine wpList_store_row rfl 87 _ _ rfl w1.heap.size tl.toArray rfl rfl 87 Tryz.zeroCells87 (hp_new w1 _) HI2.out HZ.out HT1.out ?_; rw [← HW2.out])
 obtain ⟨W3, hW3⟩ : ∃ W, W = W2.alloc (.cells u.arr 85) := ⟨_, rfl⟩
 rw [← hW3]
 obtain ⟨db, hdb⟩ : ∃ d, d = w1.heap.size := ⟨_, rfl⟩
 obtain ⟨ub, hub⟩ : ∃ d, d = W2.heap.size := ⟨_, rfl⟩
 rw [← hdb] at hd2 ⊢
 rw [← hub]
 have hs2 := HS2.out
 have hgl := h.lt
 have hpl := h.pl
 have hs1 := hf1.size
 have n1 : db ≠ pb := by omega
 have n2 : ub ≠ pb := by omega
 have hf3 : Fr [] w W3 := by rw [hW3]; exact hf2.alloc _
 have hu3 : W3.heap[ub]? = some (.cells u.arr 85) := by rw [hW3, hub]; exact hp_new _ _
 have hd3 : W3.heap[db]? = some (.cells tl.toArray 87) := by rw [hW3, hp_old _ _ _ (by omega)]; exact hd2
 have HD : Hid (∀ W, Fr [pb] W3 W → DAt W db F) := fun W hf => by
  have h5 := hf.heap hd3 (by simpa using n1)
  refine ⟨fun j hj => ?_, fun j => frozen_of_heap h5⟩
  rw [cell_of_heap h5, HTL.out]
  simp [tabL, hj]
 have HU : Hid (∀ W, Fr [pb] W3 W → W.heap[ub]? = some (.cells u.arr 85)) := fun W hf => hf.heap hu3 (by simpa using n2)
 have HG3 : Hid (RG W3 gb pb cap { t with us := t.us.set i (u.to (pickN F (nbrTo u.x u.y 0) (0, (u.x, u.y))).2) }) := by
  have h5 := h.fr0 hf3
  have e : t.us.set i (u.to (u.x, u.y)) = t.us := set_same t.us i u hi
  show RG W3 gb pb cap { t with us := t.us.set i (u.to (u.x, u.y)) }
  rw [e]
  exact h5
 have HI := (show Hid _ from hi)
 have HLE := (show Hid _ from hle)
 clear hW3 hu3 hd3 hd2 HW2 c0 c1 c2 c3 c4 c5 c6 c7 c8 c9 c10 hc2 hg2 hs2 HS2 h hi hdb hub hle
 go_loopw [12, 13] (fun b k wr => ∃ n : Nat, n ≤ 4 ∧ k = .int .i64 n ∧ b = .int .i64 ((pickN F (nbrTo u.x u.y n) (0, (u.x, u.y))).1 : Nat) ∧ Fr [pb] W3 wr ∧ RG wr gb pb cap { t with us := t.us.set i (u.to (pickN F (nbrTo u.x u.y n) (0, (u.x, u.y))).2) }) (fun _ k _ => 4 - (intOf k).toNat)
 case atStart => exact ⟨0, by omega, rfl, rfl, Fr.refl _ _, HG3.out⟩
 case round =>
  obtain ⟨n, hn, rfl, rfl, hfk, hgk⟩ := hrel
  have HGK := (show Hid _ from hgk)
  have hck := hgk.c148
  have e5 : (t.us.set i (u.to (pickN F (nbrTo u.x u.y n) (0, (u.x, u.y))).2)).length = t.us.length := List.length_set
  dsimp only at hck
  rw [e5] at hck
  have fz3 := hgk.frz (i * 11 + 3)
  have fz4 := hgk.frz (i * 11 + 4)
  obtain ⟨_, _, _, c3, c4, _, _, _, _, _, _⟩ := hgk.gv.p.at (set_at HI.out)
  have hne := hgk.ne
  clear hgk HG3
  by_cases hn4 : n < 4
  ·have hn4i : (n : Int) < 4 := by omega
   obtain ⟨s, hs⟩ : ∃ s, sds[n]? = some s := ⟨_, List.getElem?_eq_getElem (show n < sds.length from hn4)⟩
   have hsb : -1 ≤ s.1 ∧ s.1 ≤ 1 ∧ -1 ≤ s.2 ∧ s.2 ≤ 1 := by
    have h5 : n = 0 ∨ n = 1 ∨ n = 2 ∨ n = 3 := by omega
    rcases h5 with rfl | rfl | rfl | rfl <;> (simp [sds] at hs; subst hs; decide)
   have HSD := (show Hid _ from fun W : World => refSide_any u.x u.y n s W hs (by omega) (by omega) (by omega) (by omega))
   have HYES : Hid (onB (u.x + s.1) (u.y + s.2) = true → nbrTo u.x u.y (n + 1) = nbrTo u.x u.y n ++ [(u.x + s.1, u.y + s.2)]) := fun ho => nbrTo_yes u.x u.y n s hs ho
   have HNO : Hid (onB (u.x + s.1) (u.y + s.2) = false → nbrTo u.x u.y (n + 1) = nbrTo u.x u.y n) := fun ho => nbrTo_no u.x u.y n s hs ho
   obtain ⟨z, hz⟩ : ∃ z, u.x + s.1 = z := ⟨_, rfl⟩
   obtain ⟨v, hv⟩ : ∃ z, u.y + s.2 = z := ⟨_, rfl⟩
   rw [hz, hv] at HSD HYES HNO
   have hzb : -1 ≤ z ∧ z ≤ 12 ∧ -1 ≤ v ∧ v ≤ 12 := by omega
   have hub := HU.out _ hfk
   have ux : wr.cell? ⟨ub, 3, none⟩ = some (ii u.x) := cell_of_heap hub
   have uy : wr.cell? ⟨ub, 4, none⟩ = some (ii u.y) := cell_of_heap hub
   obtain ⟨l, hl⟩ : ∃ l, pickN F (nbrTo u.x u.y n) (0, (u.x, u.y)) = l := ⟨_, rfl⟩
   have HPS : Hid (∀ q : Cl, pickN F (nbrTo u.x u.y n ++ [q]) (0, (u.x, u.y)) = if 0 < F q ∧ (l.1 = 0 ∨ F q < l.1) then (F q, q) else l) := fun q => by rw [pickN_snoc, hl]
   have HL := (show Hid _ from hl)
   rw [hl] at HGK c3 c4 ⊢
   have hne2 : ¬ pb = gb := fun e => hne e.symm
   clear hz hv hs hsb hub hl e5
   go_wp2_with fail
   refine Calls.mono (HSD.out _) ?_
   rintro e w4 ⟨rfl, rfl⟩
   dsimp only
   go_wp2_with fail
   refine Calls.mono (refOn_any z v _) ?_
   rintro e w5 ⟨rfl, rfl⟩
   dsimp only
   obtain ⟨l1, hl1⟩ : ∃ x, l.1 = x := ⟨_, rfl⟩
   rw [hl1] at HPS ⊢
   cases hzo : onB z v
   ·have HE := (show Hid _ from HNO.out hzo)
    go_wp2_with fail
    go_roundw
    case rel => exact ⟨n + 1, hn4, by go_num, by rw [HE.out, HL.out, hl1], hfk, by rw [HE.out, HL.out]; exact HGK.out⟩
    case measure => simp [intOf]; omega
   ·obtain ⟨q0, q1, q2, q3⟩ := onB_iff.1 hzo
    have hcz := (HD.out _ hfk).at (c := (z, v)) hzo
    have hcie : ci z v = v.toNat * 12 + z.toNat := by unfold ci; omega
    dsimp only at hcz
    rw [hcie] at hcz
    have HE := (show Hid _ from HYES.out hzo)
    have HPQ := (show Hid _ from HPS.out (z, v))
    have hgb := HLE.out (z, v)
    obtain ⟨g, hg⟩ : ∃ g, F (z, v) = g := ⟨_, rfl⟩
    rw [hg] at hcz HPQ hgb
    clear hzo hcie hg
    have HKEEP : Hid (¬ (0 < g ∧ (l1 = 0 ∨ g < l1)) → pickN F (nbrTo u.x u.y (n + 1)) (0, (u.x, u.y)) = l) := fun hc => by rw [HE.out, HPQ.out, if_neg hc]
    have HSET : Hid ((0 < g ∧ (l1 = 0 ∨ g < l1)) → pickN F (nbrTo u.x u.y (n + 1)) (0, (u.x, u.y)) = (g, (z, v))) := fun hc => by rw [HE.out, HPQ.out, if_pos hc]
    clear HE HPQ
    by_cases hg0 : 0 < g
    ·have hg0i : 0 < (g : Int) := by omega
     by_cases hl0 : l1 = 0
     ·have HS := (show Hid _ from HSET.out ⟨hg0, Or.inl hl0⟩)
      have hl0b : ((l1 : Int) == 0) = true := by simp; omega
      go_wp2_with fail
      go_roundw
      case rel => exact ⟨n + 1, hn4, by go_num, by rw [HS.out], (hfk.setCell _ _ (Or.inl (by simp))).setCell _ _ (Or.inl (by simp)), by rw [HS.out]; exact RG.to HGK.out HI.out z v⟩
      case measure => simp [intOf]; omega
     ·have hl0b : ((l1 : Int) == 0) = false := by simp; omega
      by_cases hlt : g < l1
      ·have HS := (show Hid _ from HSET.out ⟨hg0, Or.inr hlt⟩)
       have hlti : (g : Int) < (l1 : Int) := by omega
       go_wp2_with fail
       go_roundw
       case rel => exact ⟨n + 1, hn4, by go_num, by rw [HS.out], (hfk.setCell _ _ (Or.inl (by simp))).setCell _ _ (Or.inl (by simp)), by rw [HS.out]; exact RG.to HGK.out HI.out z v⟩
       case measure => simp [intOf]; omega
      ·have HS := (show Hid _ from HKEEP.out (fun hc => by omega))
       have hlti : ¬ (g : Int) < (l1 : Int) := by omega
       go_wp2_with fail
       go_roundw
       case rel => exact ⟨n + 1, hn4, by go_num, by rw [HS.out, hl1], hfk, by rw [HS.out]; exact HGK.out⟩
       case measure => simp [intOf]; omega
    ·have HS := (show Hid _ from HKEEP.out (fun hc => hg0 hc.1))
     have hg0i : ¬ 0 < (g : Int) := by omega
     go_wp2_with fail
     go_roundw
     case rel => exact ⟨n + 1, hn4, by go_num, by rw [HS.out, hl1], hfk, by rw [HS.out]; exact HGK.out⟩
     case measure => simp [intOf]; omega
  ·have hn4i : ¬ (n : Int) < 4 := by omega
   have HN4 : Hid (n = 4) := by show _ = _; omega
   go_wp2_with fail
   refine bodyPost_end (v := .tuple #[]) (results_none rfl _ _ _) rfl ⟨rfl, F, HX.out, ?_, hf3.of0.trans hfk (by simp)⟩
   have := HGK.out
   rw [HN4.out, nbrTo_4] at this
   exact this
end Go.Proofs.YtapabahhfanmmaaGreatDoor
