import Derived.Test.YtapabahhfanmmaaDoorCPeople
/- Looking somebody up by the Id. -/
namespace Go.Proofs.YtapabahhfanmmaaDoor
open Go.RowKit

/-- Ids rise. -/
def Rise (us : List U) : Prop := us.Pairwise (fun a b => a.id < b.id)
theorem Rise.lt {us : List U} (h : Rise us) {i j : Nat} {a b : U} (hi : us[i]? = some a) (hj : us[j]? = some b) (hij : i < j) : a.id < b.id := by
  obtain ⟨h1, rfl⟩ := List.getElem?_eq_some_iff.1 hi
  obtain ⟨h2, rfl⟩ := List.getElem?_eq_some_iff.1 hj
  exact List.pairwise_iff_getElem.1 h i j h1 h2 hij

set_option maxRecDepth 100000 in
set_option maxHeartbeats 800000 in
theorem binSearch_any (pb cap : Nat) (us : List U) (id : Int) (w : World) (hp : Ppl w pb us) (hs : Rise us) (hlen : us.length ≤ 1000) :
    Calls Tryd.prog 59 #[.slice (some ⟨pb, 0, none⟩) us.length cap, .int .i64 id, fv 60] w fun e w' => ∃ (i : Nat) (f : Bool), e = .returned (.tuple #[.int .i64 i, .bool f]) ∧ Fr [] w w' ∧
      (f = true ∧ (∃ u, us[i]? = some u ∧ u.id = id) ∨ f = false ∧ ∀ u ∈ us, u.id ≠ id) := by
  go_enter Tryd.func59, Tryd.ntmps59
  go_wp2
  go_loopw [9, 10] (fun a b wr => ∃ i j : Nat, i ≤ j ∧ j ≤ us.length ∧ a = .int .i64 i ∧ b = .int .i64 j ∧ (∀ k u, us[k]? = some u → k < i → u.id < id) ∧ (∀ k u, us[k]? = some u → j ≤ k → id ≤ u.id) ∧ Fr [] w wr) (fun a b _ => ((intOf b) - (intOf a)).toNat)
  case atStart => exact ⟨0, us.length, Nat.zero_le _, Nat.le_refl _, rfl, rfl, fun k u _ h => by omega, fun k u hk h => by have := (List.getElem?_eq_some_iff.1 hk).1; omega, Fr.refl _ _⟩
  case round =>
    obtain ⟨i, j, hij, hj, rfl, rfl, hlo, hhi, hf⟩ := hrel
    by_cases hlt : i < j
    · have hm : (i + j) / 2 < us.length := by omega
      obtain ⟨u, hu⟩ : ∃ u, us[(i + j) / 2]? = some u := ⟨us[(i + j) / 2], List.getElem?_eq_getElem hm⟩
      obtain ⟨c0, c1, c2, c3, c4, c5, c6, c7, c8, c9, c10⟩ := (hp.fr hf (by simp)).at hu
      have HU := (show Hid (us[(i + j) / 2]? = some u) from hu)
      clear hu
      go_wp2_with fail
      refine (findOne_any u id _).mono ?_
      rintro e w1 ⟨rfl, hf1⟩
      by_cases hc : u.id < id
      · have hci : cmpI u.id id = -1 := by simp [cmpI, hc]
        rw [hci]
        clear hci
        go_wp2
        go_roundw
        case rel =>
          refine ⟨(i + j) / 2 + 1, j, by omega, hj, by go_num, rfl, fun k v hk hlt' => ?_, hhi, hf.then0 hf1⟩
          rcases Nat.lt_or_ge k ((i + j) / 2) with h | h
          · exact Int.lt_trans (hs.lt hk HU.out h) hc
          · have hkm : k = (i + j) / 2 := by omega
            subst hkm
            have := HU.out; rw [hk] at this; rw [Option.some.inj this]; exact hc
        case measure => simp [intOf]; omega
      · have hci : (cmpI u.id id < 0) = False := by
          simp only [cmpI, if_neg hc, eq_iff_iff, iff_false]; split <;> omega
        generalize cmpI u.id id = q at hci ⊢
        have hq : ¬ q < 0 := by simp [hci]
        clear hci
        go_wp2
        go_roundw
        case rel =>
          refine ⟨i, (i + j) / 2, by omega, by omega, rfl, by go_num, hlo, fun k v hk hle => ?_, hf.then0 hf1⟩
          rcases Nat.lt_or_ge ((i + j) / 2) k with h | h
          · have := hs.lt HU.out hk h; omega
          · have hkm : k = (i + j) / 2 := by omega
            subst hkm
            have := HU.out; rw [hk] at this; rw [Option.some.inj this]; omega
        case measure => simp [intOf]; omega
    · have hij' : i = j := by omega
      subst hij'
      by_cases hend : i < us.length
      · obtain ⟨u, hu⟩ : ∃ u, us[i]? = some u := ⟨us[i], List.getElem?_eq_getElem hend⟩
        obtain ⟨c0, c1, c2, c3, c4, c5, c6, c7, c8, c9, c10⟩ := (hp.fr hf (by simp)).at hu
        have HU := (show Hid (us[i]? = some u) from hu)
        clear hu
        go_wp2_with fail
        refine (findOne_any u id _).mono ?_
        rintro e w1 ⟨rfl, hf1⟩
        have hle := hhi i u HU.out (Nat.le_refl _)
        by_cases hc : u.id = id
        · have hci : cmpI u.id id = 0 := by simp [cmpI, hc]
          rw [hci]
          clear hci
          go_wp2
          go_ret2
          exact ⟨i, true, rfl, hf.then0 hf1, Or.inl ⟨rfl, u, HU.out, hc⟩⟩
        · have hci : (cmpI u.id id == 0) = false := by
            have h1 : ¬ u.id < id := by omega
            have h2 : id < u.id := by omega
            simp [cmpI, h1, h2]
          generalize cmpI u.id id = q at hci ⊢
          go_wp2
          go_ret2
          refine ⟨i, false, rfl, hf.then0 hf1, Or.inr ⟨rfl, fun v hv => ?_⟩⟩
          obtain ⟨k, hk, rfl⟩ := List.mem_iff_getElem.1 hv
          have hk' : us[k]? = some us[k] := List.getElem?_eq_getElem hk
          rcases Nat.lt_trichotomy k i with h | h | h
          · have := hlo k _ hk' h; omega
          · subst h; have := HU.out; rw [hk'] at this; rw [Option.some.inj this]; exact hc
          · have := hs.lt HU.out hk' h; omega
      · go_wp2
        go_ret2
        refine ⟨i, false, rfl, hf, Or.inr ⟨rfl, fun v hv => ?_⟩⟩
        obtain ⟨k, hk, rfl⟩ := List.mem_iff_getElem.1 hv
        have := hlo k _ (List.getElem?_eq_getElem hk) (by omega)
        omega
end Go.Proofs.YtapabahhfanmmaaDoor
/- Whose base is left. -/
namespace Go.Proofs.YtapabahhfanmmaaDoor
open Go.RowKit

def overB (us : List U) : Bool := !(baseOf us 0).isSome || !(baseOf us 1).isSome
def winI (us : List U) : Int := if (baseOf us 0).isSome = (baseOf us 1).isSome then 0 else if (baseOf us 0).isSome then 1 else 2

set_option maxRecDepth 100000 in
set_option maxHeartbeats 400000 in
theorem over_any (b pb cap : Nat) (us : List U) (w : World) (hg : GV w b pb cap us) :
    Calls Tryd.prog 31 #[.pointer (some ⟨b, 0, none⟩)] w fun e w' => e = .returned (.bool (overB us)) ∧ Fr [] w w' := by
  go_enter Tryd.func31, Tryd.ntmps31
  go_wp2_with fail
  refine (base_g b pb cap us 0 _ hg).mono ?_
  rintro e w1 ⟨rfl, hf1⟩
  obtain ⟨u0, hu0⟩ : ∃ u, u = (baseOf us 0).getD zeroU := ⟨_, rfl⟩
  rw [← hu0]
  clear hu0
  go_wp2_with fail
  refine (base_g b pb cap us 1 _ (hg.fr0 (hf1.alloc _))).mono ?_
  rintro e w2 ⟨rfl, hf2⟩
  obtain ⟨u1, hu1⟩ : ∃ u, u = (baseOf us 1).getD zeroU := ⟨_, rfl⟩
  rw [← hu1]
  clear hu1
  generalize hb0 : (baseOf us 0).isSome = b0
  generalize hb1 : (baseOf us 1).isSome = b1
  have HO : Hid (overB us = (!b0 || !b1)) := by simp [Hid, overB, hb0, hb1]
  clear hb0 hb1
  cases b0 <;> cases b1
  all_goals
    go_wp2
    go_ret
    exact ⟨by rw [HO.out]; rfl, ((hf1.alloc _).then0 hf2).alloc _⟩

set_option maxRecDepth 100000 in
set_option maxHeartbeats 400000 in
theorem winner_any (b pb cap : Nat) (us : List U) (w : World) (hg : GV w b pb cap us) :
    Calls Tryd.prog 23 #[.pointer (some ⟨b, 0, none⟩)] w fun e w' => e = .returned (.int .i64 (winI us)) ∧ Fr [] w w' := by
  go_enter Tryd.func23, Tryd.ntmps23
  go_wp2_with fail
  refine (base_g b pb cap us 0 _ hg).mono ?_
  rintro e w1 ⟨rfl, hf1⟩
  obtain ⟨u0, hu0⟩ : ∃ u, u = (baseOf us 0).getD zeroU := ⟨_, rfl⟩
  rw [← hu0]
  clear hu0
  go_wp2_with fail
  refine (base_g b pb cap us 1 _ (hg.fr0 (hf1.alloc _))).mono ?_
  rintro e w2 ⟨rfl, hf2⟩
  obtain ⟨u1, hu1⟩ : ∃ u, u = (baseOf us 1).getD zeroU := ⟨_, rfl⟩
  rw [← hu1]
  clear hu1
  generalize hb0 : (baseOf us 0).isSome = b0
  generalize hb1 : (baseOf us 1).isSome = b1
  have HO : Hid (winI us = (if b0 = b1 then 0 else if b0 then 1 else 2)) := by simp [Hid, winI, hb0, hb1]
  clear hb0 hb1
  cases b0 <;> cases b1
  all_goals
    go_wp2
    go_ret
    exact ⟨by rw [HO.out]; rfl, ((hf1.alloc _).then0 hf2).alloc _⟩
end Go.Proofs.YtapabahhfanmmaaDoor
/- find; which commands are taken. -/
namespace Go.Proofs.YtapabahhfanmmaaDoor
open Go.RowKit

set_option maxRecDepth 100000 in
set_option maxHeartbeats 400000 in
theorem find_any (b pb cap : Nat) (us : List U) (id : Int) (w : World) (hg : GV w b pb cap us) (hs : Rise us) :
    Calls Tryd.prog 46 #[.pointer (some ⟨b, 0, none⟩), .int .i64 id] w fun e w' => ∃ (i : Nat) (f : Bool), e = .returned (.tuple #[.int .i64 i, .bool f]) ∧ Fr [] w w' ∧
      (f = true ∧ (∃ u, us[i]? = some u ∧ u.id = id) ∨ f = false ∧ ∀ u ∈ us, u.id ≠ id) := by
  have hc := hg.c
  go_enter Tryd.func46, Tryd.ntmps46
  go_wp2_with fail
  refine (binSearch_any pb cap us id _ hg.p hs hg.len).mono ?_
  rintro e w1 ⟨i, f, rfl, hf, hr⟩
  have HR := (show Hid _ from hr)
  clear hr
  go_wp2
  go_ret2
  exact ⟨i, f, rfl, hf, HR.out⟩

theorem raised1 (w : World) : (Instr.field 122 kind1 3).run Tryd.prog w = .ok (.bool false) w := by kernel_rfl
theorem raised2 (w : World) : (Instr.field 122 kind2 3).run Tryd.prog w = .ok (.bool true) w := by kernel_rfl
theorem raised3 (w : World) : (Instr.field 122 kind3 3).run Tryd.prog w = .ok (.bool true) w := by kernel_rfl
theorem raised0 (w : World) : (Instr.field 122 kind0 3).run Tryd.prog w = .ok (.bool false) w := by kernel_rfl
set_option maxRecDepth 100000 in
set_option maxHeartbeats 400000 in
theorem takesBuild_any (g : Value) (u : U) (c : Cm) (w : World) :
    Calls Tryd.prog 64 #[g, u.val, c.val] w fun e w' => e = .returned (.bool (c.x == 2 || c.x == 3)) ∧ Fr [] w w' := by
  obtain ⟨cu, cw, cx, cy, ct⟩ := c
  have r0 := raised0
  have r1 := raised1
  have r2 := raised2
  have r3 := raised3
  by_cases h1 : cx = 1
  · subst h1
    go_enter Tryd.func64, Tryd.ntmps64
    go_wp2_with (go_at_call 55; refine (kindOf_1 _).mono ?_; rintro e w1 ⟨rfl, hf⟩)
    go_ret
    exact ⟨rfl, (((Fr.refl _ _).alloc _).alloc _).then0 hf⟩
  by_cases h2 : cx = 2
  · subst h2
    go_enter Tryd.func64, Tryd.ntmps64
    go_wp2_with (go_at_call 55; refine (kindOf_2 _).mono ?_; rintro e w1 ⟨rfl, hf⟩)
    go_ret
    exact ⟨rfl, (((Fr.refl _ _).alloc _).alloc _).then0 hf⟩
  by_cases h3 : cx = 3
  · subst h3
    go_enter Tryd.func64, Tryd.ntmps64
    go_wp2_with (go_at_call 55; refine (kindOf_3 _).mono ?_; rintro e w1 ⟨rfl, hf⟩)
    go_ret
    exact ⟨rfl, (((Fr.refl _ _).alloc _).alloc _).then0 hf⟩
  have H1 : Hid ((cx == 1) = false) := by simp [Hid, h1]
  have H2 : Hid ((cx == 2) = false) := by simp [Hid, h2]
  have H3 : Hid ((cx == 3) = false) := by simp [Hid, h3]
  clear h1 h2 h3
  go_enter Tryd.func64, Tryd.ntmps64
  go_wp2_with (go_at_call 55; refine (kindOf_0 cx _ H1.out H2.out H3.out).mono ?_; rintro e w1 ⟨rfl, hf⟩)
  go_ret
  exact ⟨ret_bool (by have a := H2.out; have b := H3.out; rw [a, b]; rfl), (((Fr.refl _ _).alloc _).alloc _).then0 hf⟩
end Go.Proofs.YtapabahhfanmmaaDoor
