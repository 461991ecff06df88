import Derived.Test.YtapabahhfanmmaaGreatDoorCOrds
import Derived.Test.YtapabahhfanmmaaGreatDoorCAct
import Derived.Test.YtapabahhfanmmaaGreatDoorCRefD
namespace Go.Proofs.YtapabahhfanmmaaGreatDoor
open Go.RowKit
def actId (t : T) (id : Int) : T :=
 match placeOf t.us id with
 | none => t
 | some i => match t.us[i]? with | none => t | some u => actOne t u
theorem actAt_id (t : T) (v : U) : actAt t v = actId t v.id := rfl
theorem actId_ok {t : T} (h : TOk t) (hno : overB t.us = false) (id : Int) : Good t (· = id) (actId t id) := actAt_ok h hno ⟨id, 0, 0, 0, 0, 0, 0, 0, 0, 0, 0⟩
theorem actId_os {t : T} (h : TOk t) (ho : OS t) (hno : overB t.us = false) (id : Int) : OS (actId t id) := actAt_os h ho hno ⟨id, 0, 0, 0, 0, 0, 0, 0, 0, 0, 0⟩
def aboveTo (id : Int) : List U → Int → Int
  | [], b => b
  | u :: us, b => aboveTo id us (if id < u.id ∧ u.id < b then u.id else b)
theorem above_spec (id : Int) : ∀ (us : List U) (b : Int), aboveTo id us b ≤ b ∧ (∀ u ∈ us, id < u.id → aboveTo id us b ≤ u.id) ∧ (aboveTo id us b = b ∨ ∃ u ∈ us, u.id = aboveTo id us b ∧ id < u.id)
 | [], b => ⟨Int.le_refl _, by simp, Or.inl rfl⟩
 | u :: us, b => by
  obtain ⟨h1, h2, h3⟩ := above_spec id us (if id < u.id ∧ u.id < b then u.id else b)
  unfold aboveTo
  by_cases hc : id < u.id ∧ u.id < b
  ·rw [if_pos hc] at h1 h2 h3 ⊢
   refine ⟨by omega, fun v hv hi => ?_, ?_⟩
   ·rcases List.mem_cons.1 hv with rfl | hv
    ·exact h1
    ·exact h2 v hv hi
   ·rcases h3 with h3 | ⟨v, hv, h4⟩
    ·exact Or.inr ⟨u, by simp, h3.symm, hc.1⟩
    ·exact Or.inr ⟨v, by simp [hv], h4⟩
  ·rw [if_neg hc] at h1 h2 h3 ⊢
   refine ⟨h1, fun v hv hi => ?_, ?_⟩
   ·rcases List.mem_cons.1 hv with rfl | hv
    ·omega
    ·exact h2 v hv hi
   ·rcases h3 with h3 | ⟨v, hv, h4⟩
    ·exact Or.inl h3
    ·exact Or.inr ⟨v, by simp [hv], h4⟩
theorem actAll_skip (t : T) (hno : overB t.us = false) (m : Int) : ∀ (l : List U), (∀ v ∈ l, v.id < m → placeOf t.us v.id = none) → (l.map U.id).Pairwise (· < ·) → actAll l t = actAll (l.filter fun v => decide (m ≤ v.id)) t
 | [], _, _ => rfl
 | v :: l, h, hp => by
  rw [List.map_cons, List.pairwise_cons] at hp
  by_cases hm : m ≤ v.id
  ·have e : (v :: l).filter (fun v => decide (m ≤ v.id)) = v :: l := by
    rw [List.filter_eq_self]
    intro x hx
    rcases List.mem_cons.1 hx with rfl | hx
    ·simpa using hm
    ·have := hp.1 x.id (List.mem_map_of_mem hx)
     simp
     omega
   rw [e]
  ·have hn := h v (by simp) (by omega)
   rw [List.filter_cons_of_neg (by simpa using hm), actAll_cons, actAt_none hn, if_neg (by rw [hno]; simp)]
   exact actAll_skip t hno m l (fun x hx hxm => h x (by simp [hx]) hxm) hp.2
structure RH (tf : T) (n0 id : Int) (t : T) : Prop where
 ok : TOk t
 os : OS t
 nx : n0 ≤ t.next
 fin : (overB t.us = true ∧ tf = t) ∨ (overB t.us = false ∧ ∃ l : List U, (l.map U.id).Pairwise (· < ·) ∧ (∀ v ∈ l, id ≤ v.id ∧ v.id < n0) ∧ (∀ u ∈ t.us, id ≤ u.id → u.id < n0 → u.id ∈ l.map U.id) ∧ tf = actAll l t)
theorem RH.first {t : T} (h : TOk t) (ho : OS t) (hno : overB t.us = false) : RH (actAll t.us t) t.next 1 t :=
  ⟨h, ho, Int.le_refl _, Or.inr ⟨hno, t.us, rise_ids.1 h.rise, fun v hv => (h.all v hv).id, fun _ hu _ _ => List.mem_map_of_mem hu, rfl⟩⟩
theorem RH.over {t : T} (h : TOk t) (ho : OS t) (hov : overB t.us = true) : RH t t.next 1 t := ⟨h, ho, Int.le_refl _, Or.inl ⟨hov, rfl⟩⟩
theorem RH.last {tf t : T} {n0 id : Int} (h : RH tf n0 id t) (hid : n0 ≤ id) : tf = t := by
 rcases h.fin with ⟨_, h1⟩ | ⟨_, l, _, h2, _, h4⟩
 ·exact h1
 ·have : l = [] := by
   cases l with
   | nil => rfl
   | cons v l => have := h2 v (by simp); omega
  subst this
  exact h4
def actStep (t : T) (id : Int) : T := if overB t.us = true then t else actId t id
theorem RH.next {tf t : T} {n0 id : Int} (h : RH tf n0 id t) (hid : id < n0) : RH tf n0 (aboveTo id (actStep t id).us (actStep t id).next) (actStep t id) ∧ id < aboveTo id (actStep t id).us (actStep t id).next := by
 have hgt : ∀ t' : T, n0 ≤ t'.next → id < aboveTo id t'.us t'.next := fun t' hn => by
  obtain ⟨_, _, h3⟩ := above_spec id t'.us t'.next
  rcases h3 with h3 | ⟨u, _, h4, h5⟩ <;> omega
 unfold actStep
 rcases h.fin with ⟨ho, h1⟩ | ⟨ho, l, l1, l2, l3, l4⟩
 ·rw [if_pos ho]
  exact ⟨⟨h.ok, h.os, h.nx, Or.inl ⟨ho, h1⟩⟩, hgt t h.nx⟩
 ·rw [if_neg (by rw [ho]; simp)]
  have hG := actId_ok h.ok ho id
  have hOS := actId_os h.ok h.os ho id
  have hnx : n0 ≤ (actId t id).next := Int.le_trans h.nx hG.nx
  refine ⟨⟨hG.ok, hOS, hnx, ?_⟩, hgt _ hnx⟩
  by_cases ho2 : overB (actId t id).us = true
  ·
   refine Or.inl ⟨ho2, ?_⟩
   have hin : id ∈ l.map U.id := by
    apply Classical.byContradiction
    intro hni
    have hp : placeOf t.us id = none := placeOf_none (fun u hu e => hni (by rw [← e]; exact l3 u hu (by omega) (by omega)))
    have e : actId t id = t := by unfold actId; rw [hp]
    rw [e, ho] at ho2
    cases ho2
   cases l with
   | nil => simp at hin
   | cons v l =>
    have hv : v.id = id := by
     rw [List.map_cons, List.pairwise_cons] at l1
     rcases List.mem_cons.1 hin with e | e
     ·exact e.symm
     ·have := l1.1 id e
      have := (l2 v (by simp)).1
      omega
    rw [l4, actAll_cons, actAt_id, hv, if_pos ho2]
  ·have ho3 : overB (actId t id).us = false := by simpa using ho2
   refine Or.inr ⟨ho3, ?_⟩
   obtain ⟨a1, a2, a3⟩ := above_spec id (actId t id).us (actId t id).next
   obtain ⟨l', m1, m2, m3, m4⟩ : ∃ l' : List U, (l'.map U.id).Pairwise (· < ·) ∧ (∀ v ∈ l', id < v.id ∧ v.id < n0) ∧ (∀ u ∈ t.us, id < u.id → u.id < n0 → u.id ∈ l'.map U.id) ∧ tf = actAll l' (actId t id) := by
    by_cases hin : id ∈ l.map U.id
    ·cases l with
     | nil => simp at hin
     | cons v l =>
      rw [List.map_cons, List.pairwise_cons] at l1
      have hv : v.id = id := by
       rcases List.mem_cons.1 hin with e | e
       ·exact e.symm
       ·have := l1.1 id e
        have := (l2 v (by simp)).1
        omega
      refine ⟨l, l1.2, fun x hx => ⟨by have := l1.1 x.id (List.mem_map_of_mem hx); omega, (l2 x (by simp [hx])).2⟩, fun u hu h1 h2 => ?_, ?_⟩
      ·have := l3 u hu (by omega) h2
       rw [List.map_cons] at this
       rcases List.mem_cons.1 this with e | e
       ·omega
       ·exact e
      ·rw [l4, actAll_cons, actAt_id, hv, if_neg ho2]
    ·have hp : placeOf t.us id = none := placeOf_none (fun u hu e => hin (by rw [← e]; exact l3 u hu (by omega) (by omega)))
     have e : actId t id = t := by unfold actId; rw [hp]
     refine ⟨l, l1, fun v hv => ⟨?_, (l2 v hv).2⟩, fun u hu h1 h2 => l3 u hu (by omega) h2, by rw [e]; exact l4⟩
     have h1 := (l2 v hv).1
     rcases Int.lt_or_eq_of_le h1 with h2 | h2
     ·exact h2
     ·exact absurd (by rw [h2]; exact List.mem_map_of_mem hv) hin
   have hcov : ∀ u ∈ (actId t id).us, id < u.id → u.id < n0 → u.id ∈ l'.map U.id := fun u hu h1 h2 => by
    rcases hG.rel u hu with h3 | ⟨v, hv, hn⟩
    ·have := h.nx; omega
    ·rw [hn.id] at h1 h2 ⊢
     exact m3 v hv h1 h2
   refine ⟨l'.filter fun v => decide (aboveTo id (actId t id).us (actId t id).next ≤ v.id), ?_, ?_, ?_, ?_⟩
   ·exact m1.sublist ((List.filter_sublist).map _)
   ·intro v hv
    obtain ⟨hv1, hv2⟩ := List.mem_filter.1 hv
    exact ⟨by simpa using hv2, (m2 v hv1).2⟩
   ·intro u hu h1 h2
    have hiu : id < u.id := by
     rcases a3 with a3 | ⟨x, _, a4, a5⟩ <;> omega
    obtain ⟨v, hv, e⟩ := List.mem_map.1 (hcov u hu hiu h2)
    rw [← e]
    refine List.mem_map_of_mem (List.mem_filter.2 ⟨hv, ?_⟩)
    rw [e]
    simpa using h1
   ·rw [m4]
    refine actAll_skip _ ho3 _ l' (fun v hv hlt => placeOf_none (fun u hu e => ?_)) m1
    have h1 := (m2 v hv).1
    have := a2 u hu (by omega)
    omega
theorem above_snoc (id : Int) (u : U) : ∀ (us : List U) (b : Int), aboveTo id (us ++ [u]) b = if id < u.id ∧ u.id < aboveTo id us b then u.id else aboveTo id us b
 | [], b => rfl
 | v :: us, b => by
  rw [List.cons_append]
  unfold aboveTo
  exact above_snoc id u us _
theorem take_snoc {us : List U} {k : Nat} {u : U} (hu : us[k]? = some u) : us.take (k + 1) = us.take k ++ [u] := by
  rw [List.take_add_one, hu]
  rfl
set_option maxRecDepth 100000 in
set_option maxHeartbeats 400000 in
theorem refAbove_any (gb pb cap : Nat) (t : T) (id : Int) (w : World) (h : RG w gb pb cap t) :
  Calls Tryz.prog 136 #[.pointer (some ⟨gb, 0, none⟩), .int .i64 id] w fun e w' => e = .returned (.int .i64 (aboveTo id t.us t.next)) ∧ Fr [] w w' := by
 have hlen := h.len
 have hg := h.gv
 have hc := hg.c
 have hn := h.c147
 go_enter Tryz.func136, Tryz.ntmps136
 go_wp2_with fail
 go_loopw [5, 6] (fun b i wr => ∃ k : Nat, k ≤ t.us.length ∧ i = .int .i64 k ∧ b = .int .i64 (aboveTo id (t.us.take k) t.next) ∧ Fr [] w wr) (fun _ i _ => t.us.length - (intOf i).toNat)
 case atStart => exact ⟨0, Nat.zero_le _, rfl, rfl, Fr.refl _ _⟩
 case round =>
  obtain ⟨k, hk, rfl, rfl, hf⟩ := hrel
  have hg2 := hg.fr0 hf
  have hc2 := hg2.c
  by_cases hlt : k < t.us.length
  ·have hlti : (k : Int) < (t.us.length : Int) := by omega
   obtain ⟨u, hu⟩ : ∃ u, t.us[k]? = some u := ⟨t.us[k], List.getElem?_eq_getElem hlt⟩
   obtain ⟨c0, c1, c2, c3, c4, c5, c6, c7, c8, c9, c10⟩ := hg2.p.at hu
   have HS : Hid (aboveTo id (t.us.take (k + 1)) t.next = if id < u.id ∧ u.id < aboveTo id (t.us.take k) t.next then u.id else aboveTo id (t.us.take k) t.next) := by
    show _ = _
    rw [take_snoc hu, above_snoc]
   obtain ⟨b, hb⟩ : ∃ b, aboveTo id (t.us.take k) t.next = b := ⟨_, rfl⟩
   rw [hb] at HS ⊢
   clear hu hb c1 c2 c3 c4 c5 c6 c7 c8 c9 c10
   by_cases h1 : id < u.id
   ·by_cases h2 : u.id < b
    ·go_wp2_with fail
     go_roundw
     case rel => exact ⟨k + 1, hlt, by go_num, by rw [HS.out, if_pos ⟨h1, h2⟩], hf⟩
     case measure => simp [intOf]; omega
    ·go_wp2_with fail
     go_roundw
     case rel => exact ⟨k + 1, hlt, by go_num, by rw [HS.out, if_neg (fun x => h2 x.2)], hf⟩
     case measure => simp [intOf]; omega
   ·go_wp2_with fail
    go_roundw
    case rel => exact ⟨k + 1, hlt, by go_num, by rw [HS.out, if_neg (fun x => h1 x.1)], hf⟩
    case measure => simp [intOf]; omega
  ·have hlti : ¬ (k : Int) < (t.us.length : Int) := by omega
   have hke : k = t.us.length := by omega
   have HK : Hid (aboveTo id (t.us.take k) t.next = aboveTo id t.us t.next) := by
    show _ = _
    rw [hke, List.take_length]
   obtain ⟨b, hb⟩ : ∃ b, aboveTo id (t.us.take k) t.next = b := ⟨_, rfl⟩
   rw [hb] at HK ⊢
   clear hb hke
   go_wp2_with fail
   go_ret
   exact ⟨by rw [← HK.out]; rfl, hf⟩
set_option maxHeartbeats 400000 in
theorem refLife_any (k : Int) (w : World) : Calls Tryz.prog 93 #[.int .i64 k] w fun e w' => e = .returned (.int .i64 (lifeOf k)) ∧ w = w' := by
 by_cases h1 : k = 1
 ·subst h1
  go_enter Tryz.func93, Tryz.ntmps93
  go_wp2_with fail
  go_ret
  exact ⟨rfl, rfl⟩
 ·by_cases h2 : k = 2
  ·subst h2
   go_enter Tryz.func93, Tryz.ntmps93
   go_wp2_with fail
   go_ret
   exact ⟨rfl, rfl⟩
  ·have e1 : (k == 1) = false := by simpa using h1
   have e2 : (k == 2) = false := by simpa using h2
   go_enter Tryz.func93, Tryz.ntmps93
   go_wp2_with fail
   go_ret
   exact ⟨ret_int (by unfold lifeOf; rw [if_neg h1, if_neg h2]), rfl⟩
set_option maxHeartbeats 400000 in
theorem refCost_any (k : Int) (hk : k = 2 ∨ k = 3) (w : World) : Calls Tryz.prog 215 #[.int .i64 k] w fun e w' => e = .returned (.int .i64 (costOf k)) ∧ w = w' := by
  rcases hk with rfl | rfl <;> (go_enter Tryz.func215, Tryz.ntmps215; go_wp2_with fail; go_ret; exact ⟨rfl, rfl⟩)
end Go.Proofs.YtapabahhfanmmaaGreatDoor
