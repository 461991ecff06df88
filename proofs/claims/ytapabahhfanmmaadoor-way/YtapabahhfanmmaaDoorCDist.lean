import Derived.Test.YtapabahhfanmmaaDoorCShort
/- How far the cells are: level by level. -/
namespace Go.Proofs.YtapabahhfanmmaaDoor
open Go.RowKit

theorem Path.append {free : Cl → Bool} {a b : Cl} {i : Nat} (h1 : Path free a i b) {j : Nat} {c : Cl} (h2 : Path free b j c) : Path free a (i + j) c := by
  induction h2 with
  | nil => exact h1
  | snoc _ hn hf ih => exact .snoc ih hn hf
theorem Path.free_end {free : Cl → Bool} {a : Cl} {k : Nat} {c : Cl} (h : Path free a (k + 1) c) : free c = true := by
  cases h with
  | snoc _ _ hf => exact hf
/-- The level of a cell below n: how far it is, and one; 0: it is no nearer than n. -/
noncomputable def lvl (free : Cl → Bool) (a : Cl) : Nat → Cl → Nat
  | 0, _ => 0
  | n + 1, c => open Classical in if lvl free a n c ≠ 0 then lvl free a n c else if Path free a n c then n + 1 else 0
theorem lvl_zero {free : Cl → Bool} {a : Cl} : ∀ {n : Nat} {c : Cl}, lvl free a n c = 0 ↔ ∀ m, m < n → ¬ Path free a m c
  | 0, c => by simp [lvl]
  | n + 1, c => by
    have ih := @lvl_zero free a n c
    unfold lvl
    constructor
    · intro h m hm hp
      split at h
      · rename_i h1; exact h1 h
      · rename_i h1
        have h0 : lvl free a n c = 0 := by omega
        split at h
        · omega
        · rename_i h2
          by_cases e : m = n
          · subst e; exact h2 hp
          · exact ih.1 h0 m (by omega) hp
    · intro h
      have h0 : lvl free a n c = 0 := ih.2 (fun m hm => h m (by omega))
      rw [if_neg (by omega), if_neg (h n (by omega))]
theorem lvl_some {free : Cl → Bool} {a : Cl} : ∀ {n : Nat} {c : Cl} {k : Nat}, lvl free a n c = k + 1 ↔ k < n ∧ Path free a k c ∧ ∀ m, m < k → ¬ Path free a m c
  | 0, c, k => by simp [lvl]
  | n + 1, c, k => by
    have ih := @lvl_some free a n c k
    have hz := @lvl_zero free a n c
    unfold lvl
    constructor
    · intro h
      split at h
      · obtain ⟨h1, h2, h3⟩ := ih.1 h
        exact ⟨by omega, h2, h3⟩
      · rename_i h1
        split at h
        · rename_i h2
          have : k = n := by omega
          subst this
          exact ⟨by omega, h2, hz.1 (by omega)⟩
        · omega
    · rintro ⟨h1, h2, h3⟩
      by_cases e : k < n
      · have := ih.2 ⟨e, h2, h3⟩
        rw [if_pos (by omega), this]
      · have : k = n := by omega
        subst this
        rw [if_neg (by have := hz.2 h3; omega), if_pos h2]
theorem lvl_le {free : Cl → Bool} {a : Cl} (n : Nat) (c : Cl) : lvl free a n c ≤ n := by
  cases h : lvl free a n c with
  | zero => omega
  | succ k => have := lvl_some.1 h; omega
/-- One level more: who has not been met, is free, and beside one of the last level. -/
theorem lvl_step {free : Cl → Bool} {a : Cl} {n : Nat} (hn : 0 < n) {c : Cl} (h : lvl free a n c = 0) : lvl free a (n + 1) c = n + 1 ↔ free c = true ∧ ∃ q, lvl free a n q = n ∧ c ∈ nbrs q.1 q.2 := by
  obtain ⟨m, rfl⟩ : ∃ m, n = m + 1 := ⟨n - 1, by omega⟩
  have hz := lvl_zero.1 h
  constructor
  · intro h1
    obtain ⟨_, h2, _⟩ := lvl_some.1 h1
    cases h2 with
    | snoc hp hm hf =>
      rename_i q
      refine ⟨hf, q, ?_, hm⟩
      apply lvl_some.2
      refine ⟨by omega, hp, fun i hi hq => ?_⟩
      exact hz (i + 1) (by omega) (.snoc hq hm hf)
  · rintro ⟨hf, q, hq, hm⟩
    obtain ⟨_, hp, _⟩ := lvl_some.1 hq
    apply lvl_some.2
    exact ⟨by omega, .snoc hp hm hf, hz⟩
theorem lvl_keep {free : Cl → Bool} {a : Cl} {n : Nat} {c : Cl} (h : lvl free a n c ≠ 0) : lvl free a (n + 1) c = lvl free a n c := by
  show (if lvl free a n c ≠ 0 then lvl free a n c else _) = _
  rw [if_pos h]
theorem lvl_not {free : Cl → Bool} {a : Cl} {n : Nat} {c : Cl} (h : lvl free a n c = 0) (h1 : lvl free a (n + 1) c ≠ n + 1) : lvl free a (n + 1) c = 0 := by
  cases e : lvl free a (n + 1) c with
  | zero => rfl
  | succ k =>
    obtain ⟨hk, hp, _⟩ := lvl_some.1 e
    by_cases hkn : k = n
    · subst hkn; exact absurd e h1
    · exact absurd hp (lvl_zero.1 h k (by omega))
/-- In the midst of a level's round: the cells before p have been asked. -/
noncomputable def lvlMid (free : Cl → Bool) (a : Cl) (n p : Nat) (c : Cl) : Nat :=
  open Classical in if lvl free a n c ≠ 0 then lvl free a n c else if free c = true ∧ ∃ q, ci q.1 q.2 < p ∧ onB q.1 q.2 = true ∧ lvl free a n q = n ∧ c ∈ nbrs q.1 q.2 then n + 1 else 0
theorem lvlMid_start {free : Cl → Bool} {a : Cl} (n : Nat) (c : Cl) : lvlMid free a n 0 c = lvl free a n c := by
  unfold lvlMid
  split
  · rfl
  · rename_i h
    rw [if_neg (by rintro ⟨_, q, h1, _⟩; omega)]
    omega
theorem path_on {free : Cl → Bool} {a : Cl} (ha : onB a.1 a.2 = true) {k : Nat} {c : Cl} (h : Path free a k c) : onB c.1 c.2 = true := by
  cases h with
  | nil => exact ha
  | snoc _ hm _ =>
    unfold nbrs at hm
    exact (List.mem_filter.1 hm).2
theorem lvlMid_end {free : Cl → Bool} {a : Cl} (ha : onB a.1 a.2 = true) {n : Nat} (hn : 0 < n) (c : Cl) : lvlMid free a n 144 c = lvl free a (n + 1) c := by
  unfold lvlMid
  split
  · rename_i h
    rw [lvl_keep h]
  · rename_i h
    have h0 : lvl free a n c = 0 := by omega
    split
    · rename_i h1
      obtain ⟨hf, q, _, _, hq, hm⟩ := h1
      exact ((lvl_step hn h0).2 ⟨hf, q, hq, hm⟩).symm
    · rename_i h1
      refine (lvl_not h0 (fun e => ?_)).symm
      obtain ⟨hf, q, hq, hm⟩ := (lvl_step hn h0).1 e
      have hqn : ∃ m, n = m + 1 := ⟨n - 1, by omega⟩
      obtain ⟨m, rfl⟩ := hqn
      have hon := path_on ha (lvl_some.1 hq).2.1
      exact h1 ⟨hf, q, ci_lt hon, hon, hq, hm⟩
/-- A walk that never comes back to its start: shortest ones do not. -/
theorem path_avoid {free : Cl → Bool} {a : Cl} {k : Nat} {c : Cl} (h : Path free a k c) (hmin : ∀ j, j < k → ¬ Path free a j c) : Path (fun x => free x && decide (x ≠ a)) a k c := by
  induction h with
  | nil => exact .nil
  | snoc hp hm hf ih =>
    rename_i k q n
    refine .snoc (ih (fun j hj hq => hmin (j + 1) (by omega) (.snoc hq hm hf))) hm ?_
    have : n ≠ a := fun e => hmin 0 (by omega) (by rw [e]; exact .nil)
    simp [hf, this]
theorem path_mono {f g : Cl → Bool} (h : ∀ x, f x = true → g x = true) {a : Cl} {k : Nat} {c : Cl} (hp : Path f a k c) : Path g a k c := by
  induction hp with
  | nil => exact .nil
  | snoc _ hm hf ih => exact .snoc ih hm (h _ hf)
/-- A step that a search finds leads one nearer. -/
theorem found_step {free ends : Cl → Bool} {a r : Cl} {T : Cl} (hends : ∀ x, ends x = true ↔ x = T) (hF : Found (fun x => free x && decide (x ≠ a)) ends a r) {d : Nat} (hp : Path free a (d + 1) T) (hmin : ∀ j, j < d + 1 → ¬ Path free a j T) :
    r ∈ nbrs a.1 a.2 ∧ free r = true ∧ r ≠ a ∧ Path free r d T ∧ ∀ j, j < d → ¬ Path free r j T := by
  have hpa := path_avoid hp hmin
  rcases hF with ⟨h1, h2, k, n, _, hn, hpk, hk⟩ | ⟨_, hno⟩
  · have hnT := (hends n).1 hn
    subst hnT
    have hr : free r = true ∧ r ≠ a := by simpa using h2
    have hk1 := hk (d + 1) n ((hends n).2 rfl) hpa
    have hpk' : Path free r k n := path_mono (fun x hx => by simp at hx; exact hx.1) hpk
    have hkd : k = d := by
      by_cases e : k < d
      · exact absurd (Path.cons h1 hr.1 hpk') (hmin (k + 1) (by omega))
      · omega
    subst hkd
    refine ⟨h1, hr.1, hr.2, hpk', fun j hj hq => ?_⟩
    exact hmin (j + 1) (by omega) (Path.cons h1 hr.1 hq)
  · exact absurd hpa (hno _ _ ((hends T).2 rfl))
/-- No way: one stays. -/
theorem found_none {free ends : Cl → Bool} {a r : Cl} {T : Cl} (hends : ∀ x, ends x = true ↔ x = T) (hF : Found (fun x => free x && decide (x ≠ a)) ends a r) (hno : ∀ j, ¬ Path free a j T) : r = a := by
  rcases hF with ⟨h1, h2, k, n, _, hn, hpk, _⟩ | ⟨h, _⟩
  · have hnT := (hends n).1 hn
    subst hnT
    have hr : free r = true ∧ r ≠ a := by simpa using h2
    exact absurd (Path.cons h1 hr.1 (path_mono (fun x hx => by simp at hx; exact hx.1) hpk)) (hno _)
  · exact h
end Go.Proofs.YtapabahhfanmmaaDoor
