import Derived.Test.YtapabahhfanmmaaDoorCDist
/- A level's round, cell by cell. -/
namespace Go.Proofs.YtapabahhfanmmaaDoor
open Go.RowKit

theorem lvlMid_is {free : Cl → Bool} {a : Cl} {n : Nat} (hn : 0 < n) (p : Nat) (c : Cl) : lvlMid free a n p c = n ↔ lvl free a n c = n := by
  unfold lvlMid
  constructor
  · intro h
    split at h
    · exact h
    · split at h <;> omega
  · intro h
    rw [if_pos (by omega), h]
theorem mid_skip {free : Cl → Bool} {a : Cl} {n : Nat} (hn : 0 < n) {p : Nat} {q : Cl} (hq : onB q.1 q.2 = true) (hqp : ci q.1 q.2 = p) (h : lvlMid free a n p q ≠ n) (hinj : ∀ x : Cl, onB x.1 x.2 = true → ci x.1 x.2 = p → x = q) (c : Cl) : lvlMid free a n (p + 1) c = lvlMid free a n p c := by
  have h1 : lvl free a n q ≠ n := fun e => h ((lvlMid_is hn p q).2 e)
  have hiff : (free c = true ∧ ∃ x, ci x.1 x.2 < p + 1 ∧ onB x.1 x.2 = true ∧ lvl free a n x = n ∧ c ∈ nbrs x.1 x.2) ↔ (free c = true ∧ ∃ x, ci x.1 x.2 < p ∧ onB x.1 x.2 = true ∧ lvl free a n x = n ∧ c ∈ nbrs x.1 x.2) := by
    constructor
    · rintro ⟨hf, x, hx, ho, hl, hm⟩
      refine ⟨hf, x, ?_, ho, hl, hm⟩
      by_cases e : ci x.1 x.2 = p
      · have := hinj x ho e
        subst this
        exact absurd hl h1
      · omega
    · rintro ⟨hf, x, hx, ho, hl, hm⟩
      exact ⟨hf, x, by omega, ho, hl, hm⟩
  unfold lvlMid
  by_cases h0 : lvl free a n c ≠ 0
  · rw [if_pos h0, if_pos h0]
  · rw [if_neg h0, if_neg h0]
    by_cases hc : free c = true ∧ ∃ x, ci x.1 x.2 < p ∧ onB x.1 x.2 = true ∧ lvl free a n x = n ∧ c ∈ nbrs x.1 x.2
    · rw [if_pos hc, if_pos (hiff.2 hc)]
    · rw [if_neg hc, if_neg (fun x => hc (hiff.1 x))]
theorem mid_ask {free : Cl → Bool} {a : Cl} {n : Nat} (hn : 0 < n) {p : Nat} {q : Cl} (hq : onB q.1 q.2 = true) (hqp : ci q.1 q.2 = p) (h : lvlMid free a n p q = n) (hinj : ∀ x : Cl, onB x.1 x.2 = true → ci x.1 x.2 = p → x = q) (c : Cl) :
    (free c = true ∧ c ∈ nbrs q.1 q.2 → lvlMid free a n p c = 0 → lvlMid free a n (p + 1) c = n + 1) ∧ (¬ (free c = true ∧ c ∈ nbrs q.1 q.2) ∨ lvlMid free a n p c ≠ 0 → lvlMid free a n (p + 1) c = lvlMid free a n p c) := by
  have h1 : lvl free a n q = n := (lvlMid_is hn p q).1 h
  constructor
  · rintro ⟨hf, hm⟩ h0
    have hl0 : lvl free a n c = 0 := by
      unfold lvlMid at h0
      split at h0
      · exact h0
      · omega
    unfold lvlMid
    rw [if_neg (by omega), if_pos ⟨hf, q, by omega, hq, h1, hm⟩]
  · intro hor
    unfold lvlMid at hor ⊢
    by_cases hl0 : lvl free a n c ≠ 0
    · rw [if_pos hl0, if_pos hl0]
    · rw [if_neg hl0] at hor ⊢
      rw [if_neg hl0]
      by_cases hc : free c = true ∧ ∃ x, ci x.1 x.2 < p ∧ onB x.1 x.2 = true ∧ lvl free a n x = n ∧ c ∈ nbrs x.1 x.2
      · rw [if_pos hc]
        obtain ⟨hf, x, hx, ho, hl, hm⟩ := hc
        rw [if_pos ⟨hf, x, by omega, ho, hl, hm⟩]
      · rw [if_neg hc] at hor ⊢
        rw [if_neg]
        rintro ⟨hf, x, hx, ho, hl, hm⟩
        by_cases e : ci x.1 x.2 = p
        · have := hinj x ho e
          subst this
          rcases hor with hor | hor
          · exact hor ⟨hf, hm⟩
          · exact hor rfl
        · exact hc ⟨hf, x, by omega, ho, hl, hm⟩
end Go.Proofs.YtapabahhfanmmaaDoor
