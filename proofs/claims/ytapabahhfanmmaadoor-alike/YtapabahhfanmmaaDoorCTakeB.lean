import Derived.Test.YtapabahhfanmmaaDoorCTake
/- A command is taken, or not: whatever it says. -/
namespace Go.Proofs.YtapabahhfanmmaaDoor
open Go.RowKit

def canB (u : U) (c : Cm) : Bool := c.what == 0 || (c.what == 1 && (u.kind == 2 || u.kind == 3)) || (c.what == 2 && u.kind == 2) || (c.what == 3 && u.kind == 3) || (c.what == 4 && u.kind == 1)
def sOf (t : T) (c : Cm) (u : U) : Option (Bool × Cm) := if canB u c = true then some (takesB t u c, keptC c) else none
def kOf (u : U) : Value := if u.kind = 1 then kind1 else if u.kind = 2 then kind2 else kind3

theorem takeBy_is (t : T) (p : Int) (c : Cm) : takeBy t p c (sOf t c) = takeT t p c := by
  unfold takeBy takeT
  cases placeOf t.us c.unit with
  | none => rfl
  | some i =>
    dsimp only
    cases t.us[i]? with
    | none => rfl
    | some u =>
      dsimp only
      by_cases ho : u.owner = p
      · simp only [ho, if_true, true_and]
        unfold sOf
        by_cases hc : canB u c = true
        · rw [if_pos hc]
          cases takesB t u c <;> rfl
        · rw [if_neg hc]
          have : takesB t u c = false := by
            unfold takesB
            unfold canB at hc
            simp at hc
            split
            · rename_i e; exact absurd e hc.1.1.1.1
            · split
              · rename_i e; simp; intro h; have := hc.1.1.1.2 e; omega
              · split
                · rename_i e; simp; intro h; exact absurd h (hc.1.1.2 e)
                · split
                  · rename_i e; simp; intro h; exact absurd h (hc.1.2 e)
                  · split
                    · rename_i e; simp; intro h; exact absurd h (hc.2 e)
                    · rfl
          rw [this]
          simp
      · simp [ho]

theorem what_cases (x : Int) : x < 0 ∨ 5 ≤ x ∨ x = 0 ∨ x = 1 ∨ x = 2 ∨ x = 3 ∨ x = 4 := by omega

theorem says_any (tb pb cap hb bb : Nat) (t : T) (c : Cm) (u : U) (w : World) (h : TS w tb pb cap hb bb t) (hri : Rise t.us) (hkd : u.kind = 1 ∨ u.kind = 2 ∨ u.kind = 3) : Says tb u c w (kOf u) (sOf t c u) := by
  have hbd : BdAt w tb t.bd := h.tv.b
  have htl := h.lt
  have any0 : c.what = 0 → ∀ w', Fr [] w w' → Calls Tryd.prog 77 #[.pointer (some ⟨tb, 0, none⟩), u.val, c.val] w' fun e w'' => e = .returned (.bool (takesB t u c)) ∧ Fr [] w' w'' := fun e w' _ => by
    have : takesB t u c = true := by unfold takesB; rw [if_pos e]
    rw [this]
    exact takesAny_any _ u c w'
  have mv : c.what = 1 → (u.kind = 2 ∨ u.kind = 3) → ∀ w', Fr [] w w' → Calls Tryd.prog 67 #[.pointer (some ⟨tb, 0, none⟩), u.val, c.val] w' fun e w'' => e = .returned (.bool (takesB t u c)) ∧ Fr [] w' w'' := fun e ek w' hf => by
    have : takesB t u c = (onB c.x c.y && (t.bd (ci c.x c.y) != 10)) := by
      unfold takesB
      rw [if_neg (by omega), if_pos e]
      rcases ek with ek | ek <;> simp [ek]
    rw [this]
    exact takesMove_any tb t.bd u c w' (hbd.fr hf (by simp)) (Nat.lt_of_lt_of_le htl hf.size)
  have k0 : c.what = 0 → ∀ w', Calls Tryd.prog 78 #[c.val] w' fun e w'' => e = .returned (keptC c).val ∧ Fr [] w' w'' := fun e w' => by
    have : keptC c = ⟨c.unit, c.what, 0, 0, 0⟩ := by unfold keptC; rw [if_pos e]
    rw [this]
    exact keepsNothing_any c w'
  have kc : c.what = 1 ∨ c.what = 2 → ∀ w', Calls Tryd.prog 68 #[c.val] w' fun e w'' => e = .returned (keptC c).val ∧ Fr [] w' w'' := fun e w' => by
    have : keptC c = ⟨c.unit, c.what, c.x, c.y, 0⟩ := by unfold keptC; rw [if_neg (by omega), if_neg (by omega), if_neg (by omega)]
    rw [this]
    exact keepsCell_any c w'
  have out : (c.what < 0 ∨ 5 ≤ c.what) → canB u c = false := fun e => by
    have e0 : (c.what == 0) = false := by simp; omega
    have e1 : (c.what == 1) = false := by simp; omega
    have e2 : (c.what == 2) = false := by simp; omega
    have e3 : (c.what == 3) = false := by simp; omega
    have e4 : (c.what == 4) = false := by simp; omega
    unfold canB
    simp [e0, e1, e2, e3, e4]
  unfold kOf sOf
  rcases hkd with ek | ek | ek
  · rw [if_pos ek]
    rcases what_cases c.what with e | e | e | e | e | e | e
    · rw [out (Or.inl e), if_neg (by simp)]; exact Or.inl ⟨rfl, fun w => skill_out _ c.what w (Or.inl e)⟩
    · rw [out (Or.inr e), if_neg (by simp)]; exact Or.inl ⟨rfl, fun w => skill_out _ c.what w (Or.inr e)⟩
    · rw [if_pos (by simp [canB, e])]
      exact Or.inr ⟨77, 77, 78, 79, _, _, rfl, fun w => by rw [e]; exact skill_10 w, any0 e, k0 e, fun _ _ => by kernel_rfl, fun _ _ => by kernel_rfl⟩
    · rw [if_neg (by simp [canB, e, ek])]; exact Or.inl ⟨rfl, fun w => by rw [e]; exact skill_11 w⟩
    · rw [if_neg (by simp [canB, e, ek])]; exact Or.inl ⟨rfl, fun w => by rw [e]; exact skill_12 w⟩
    · rw [if_neg (by simp [canB, e, ek])]; exact Or.inl ⟨rfl, fun w => by rw [e]; exact skill_13 w⟩
    · rw [if_pos (by simp [canB, e, ek])]
      refine Or.inr ⟨64, 64, 65, 66, _, _, rfl, fun w => by rw [e]; exact skill_14 w, fun w' _ => ?_, fun w' => ?_, fun _ _ => by kernel_rfl, fun _ _ => by kernel_rfl⟩
      · have : takesB t u c = (c.x == 2 || c.x == 3) := by
          unfold takesB
          rw [if_neg (by omega), if_neg (by omega), if_neg (by omega), if_neg (by omega), if_pos e]
          simp [ek]
        rw [this]
        exact takesBuild_any _ u c w'
      · have : keptC c = ⟨c.unit, c.what, c.x, 0, 0⟩ := by unfold keptC; rw [if_neg (by omega), if_neg (by omega), if_pos e]
        rw [this]
        exact keepsKind_any c w'
  · rw [if_neg (by omega), if_pos ek]
    rcases what_cases c.what with e | e | e | e | e | e | e
    · rw [out (Or.inl e), if_neg (by simp)]; exact Or.inl ⟨rfl, fun w => skill_out _ c.what w (Or.inl e)⟩
    · rw [out (Or.inr e), if_neg (by simp)]; exact Or.inl ⟨rfl, fun w => skill_out _ c.what w (Or.inr e)⟩
    · rw [if_pos (by simp [canB, e])]
      exact Or.inr ⟨77, 77, 78, 79, _, _, rfl, fun w => by rw [e]; exact skill_20 w, any0 e, k0 e, fun _ _ => by kernel_rfl, fun _ _ => by kernel_rfl⟩
    · rw [if_pos (by simp [canB, e, ek])]
      exact Or.inr ⟨67, 67, 68, 69, _, _, rfl, fun w => by rw [e]; exact skill_21 w, mv e (Or.inl ek), kc (Or.inl e), fun _ _ => by kernel_rfl, fun _ _ => by kernel_rfl⟩
    · rw [if_pos (by simp [canB, e, ek])]
      refine Or.inr ⟨70, 71, 68, 72, _, _, rfl, fun w => by rw [e]; exact skill_22 w, fun w' hf => ?_, kc (Or.inr e), fun _ _ => by kernel_rfl, fun _ _ => by kernel_rfl⟩
      have : takesB t u c = (onB c.x c.y && (decide (0 < t.bd (ci c.x c.y)) && decide (t.bd (ci c.x c.y) < 10))) := by
        unfold takesB oreB
        rw [if_neg (by omega), if_neg (by omega), if_pos e]
        simp [ek]
      rw [this]
      exact takesMine_any tb t.bd u c w' (hbd.fr hf (by simp)) (Nat.lt_of_lt_of_le htl hf.size)
    · rw [if_neg (by simp [canB, e, ek])]; exact Or.inl ⟨rfl, fun w => by rw [e]; exact skill_23 w⟩
    · rw [if_neg (by simp [canB, e, ek])]; exact Or.inl ⟨rfl, fun w => by rw [e]; exact skill_24 w⟩
  · rw [if_neg (by omega), if_neg (by omega)]
    rcases what_cases c.what with e | e | e | e | e | e | e
    · rw [out (Or.inl e), if_neg (by simp)]; exact Or.inl ⟨rfl, fun w => skill_out _ c.what w (Or.inl e)⟩
    · rw [out (Or.inr e), if_neg (by simp)]; exact Or.inl ⟨rfl, fun w => skill_out _ c.what w (Or.inr e)⟩
    · rw [if_pos (by simp [canB, e])]
      exact Or.inr ⟨77, 77, 78, 79, _, _, rfl, fun w => by rw [e]; exact skill_30 w, any0 e, k0 e, fun _ _ => by kernel_rfl, fun _ _ => by kernel_rfl⟩
    · rw [if_pos (by simp [canB, e, ek])]
      exact Or.inr ⟨67, 67, 68, 69, _, _, rfl, fun w => by rw [e]; exact skill_31 w, mv e (Or.inr ek), kc (Or.inl e), fun _ _ => by kernel_rfl, fun _ _ => by kernel_rfl⟩
    · rw [if_neg (by simp [canB, e, ek])]; exact Or.inl ⟨rfl, fun w => by rw [e]; exact skill_32 w⟩
    · rw [if_pos (by simp [canB, e, ek])]
      refine Or.inr ⟨73, 74, 75, 76, _, _, rfl, fun w => by rw [e]; exact skill_33 w, fun w' hf => ?_, fun w' => ?_, fun _ _ => by kernel_rfl, fun _ _ => by kernel_rfl⟩
      · have : takesB t u c = hitB t.us u.owner c.target := by
          unfold takesB
          rw [if_neg (by omega), if_neg (by omega), if_neg (by omega), if_pos e]
          simp [ek]
        rw [this]
        exact takesHit_any tb pb cap t.us u c w' (h.fr0 hf).gv hri
      · have : keptC c = ⟨c.unit, c.what, 0, 0, c.target⟩ := by unfold keptC; rw [if_neg (by omega), if_pos e]
        rw [this]
        exact keepsTarget_any c w'
    · rw [if_neg (by simp [canB, e, ek])]; exact Or.inl ⟨rfl, fun w => by rw [e]; exact skill_34 w⟩
theorem kOf_any (u : U) (hkd : u.kind = 1 ∨ u.kind = 2 ∨ u.kind = 3) (w : World) : Calls Tryd.prog 55 #[.int .i64 u.kind] w fun e w' => e = .returned (kOf u) ∧ Fr [] w w' := by
  unfold kOf
  rcases hkd with ek | ek | ek
  · rw [ek, if_pos rfl]; exact kindOf_1 w
  · rw [ek, if_neg (by omega), if_pos rfl]; exact kindOf_2 w
  · rw [ek, if_neg (by omega), if_neg (by omega)]; exact kindOf_3 w
theorem take_any (tb pb cap hb bb : Nat) (t : T) (p : Int) (c : Cm) (w : World) (h : TS w tb pb cap hb bb t) (hok : TOk t) :
    Calls Tryd.prog 45 #[.pointer (some ⟨tb, 0, none⟩), .int .i64 p, c.val] w fun e w' =>
      e = .returned (.bool (takeT t p c).1) ∧ Fr [pb] w w' ∧ TS w' tb pb cap hb bb (takeT t p c).2 := by
  rw [← takeBy_is]
  exact take_gen tb pb cap hb bb t p c (sOf t c) kOf w h hok.rise (fun u hu => kOf_any u (hok.all u hu).kd) (fun u hu => says_any tb pb cap hb bb t c u w h hok.rise (hok.all u hu).kd)
end Go.Proofs.YtapabahhfanmmaaDoor
