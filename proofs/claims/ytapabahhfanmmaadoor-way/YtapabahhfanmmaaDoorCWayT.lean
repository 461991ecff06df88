import Derived.Test.YtapabahhfanmmaaDoorCShort
import Derived.Test.YtapabahhfanmmaaDoorCStart
/- How far the cells are: level by level. -/
namespace Go.Proofs.YtapabahhfanmmaaDoor
open Go.RowKit Classical

theorem Path.append {free : Cl → Bool} {a b : Cl} {i : Nat} (h1 : Path free a i b) {j : Nat} {c : Cl} (h2 : Path free b j c) : Path free a (i + j) c := by
  induction h2 using Path.ind with
  | nil => exact h1
  | snoc _ hn hf ih => exact .snoc ih hn hf
theorem Path.free_end {free : Cl → Bool} {a : Cl} {k : Nat} {c : Cl} (h : Path free a (k + 1) c) : free c = true := by
  obtain ⟨_, _, _, hf⟩ := h
  exact hf
/-- The level of a cell below n: how far it is, and one; 0: it is no nearer than n. -/
def lvl [∀ p:Prop,Decidable p] (free : Cl → Bool) (a : Cl) : Nat → Cl → Nat
  | 0, _ => 0
  | n + 1, c => if lvl free a n c ≠ 0 then lvl free a n c else if Path free a n c then n + 1 else 0
theorem lvl_zero {free : Cl → Bool} {a : Cl} : ∀ {n : Nat} {c : Cl}, lvl free a n c = 0 ↔ ∀ m, m < n → ¬ Path free a m c
  | 0, c => by simp [lvl]
  | n + 1, c => by
    have ih := @lvl_zero free a n c
    unfold lvl
    constructor
    · intro h m hm hp
      split at h
      · rename_i h1; exact h1 h
      · rename_i h1
        have h0 : lvl free a n c = 0 := by omega
        split at h
        · omega
        · rename_i h2
          by_cases e : m = n
          · subst e; exact h2 hp
          · exact ih.1 h0 m (by omega) hp
    · intro h
      have h0 : lvl free a n c = 0 := ih.2 (fun m hm => h m (by omega))
      rw [if_neg (by omega), if_neg (h n (by omega))]
theorem lvl_some {free : Cl → Bool} {a : Cl} : ∀ {n : Nat} {c : Cl} {k : Nat}, lvl free a n c = k + 1 ↔ k < n ∧ Path free a k c ∧ ∀ m, m < k → ¬ Path free a m c
  | 0, c, k => by simp [lvl]
  | n + 1, c, k => by
    have ih := @lvl_some free a n c k
    have hz := @lvl_zero free a n c
    unfold lvl
    constructor
    · intro h
      split at h
      · obtain ⟨h1, h2, h3⟩ := ih.1 h
        exact ⟨by omega, h2, h3⟩
      · rename_i h1
        split at h
        · rename_i h2
          have : k = n := by omega
          subst this
          exact ⟨by omega, h2, hz.1 (by omega)⟩
        · omega
    · rintro ⟨h1, h2, h3⟩
      by_cases e : k < n
      · have := ih.2 ⟨e, h2, h3⟩
        rw [if_pos (by omega), this]
      · have : k = n := by omega
        subst this
        rw [if_neg (by have := hz.2 h3; omega), if_pos h2]
theorem lvl_le {free : Cl → Bool} {a : Cl} (n : Nat) (c : Cl) : lvl free a n c ≤ n := by
  cases h : lvl free a n c with
  | zero => omega
  | succ k => have := lvl_some.1 h; omega
/-- One level more: who has not been met, is free, and beside one of the last level. -/
theorem lvl_step {free : Cl → Bool} {a : Cl} {n : Nat} (hn : 0 < n) {c : Cl} (h : lvl free a n c = 0) : lvl free a (n + 1) c = n + 1 ↔ free c = true ∧ ∃ q, lvl free a n q = n ∧ c ∈ nbrs q.1 q.2 := by
  obtain ⟨m, rfl⟩ : ∃ m, n = m + 1 := ⟨n - 1, by omega⟩
  have hz := lvl_zero.1 h
  constructor
  · intro h1
    obtain ⟨_, h2, _⟩ := lvl_some.1 h1
    obtain ⟨_, hp, hm, hf⟩ := h2
    rename_i q
    refine ⟨hf, q, ?_, hm⟩
    apply lvl_some.2
    refine ⟨by omega, hp, fun i hi hq => ?_⟩
    exact hz (i + 1) (by omega) (.snoc hq hm hf)
  · rintro ⟨hf, q, hq, hm⟩
    obtain ⟨_, hp, _⟩ := lvl_some.1 hq
    apply lvl_some.2
    exact ⟨by omega, .snoc hp hm hf, hz⟩
theorem lvl_keep {free : Cl → Bool} {a : Cl} {n : Nat} {c : Cl} (h : lvl free a n c ≠ 0) : lvl free a (n + 1) c = lvl free a n c := by
  rw [lvl, if_pos h]
theorem lvl_not {free : Cl → Bool} {a : Cl} {n : Nat} {c : Cl} (h : lvl free a n c = 0) (h1 : lvl free a (n + 1) c ≠ n + 1) : lvl free a (n + 1) c = 0 := by
  cases e : lvl free a (n + 1) c with
  | zero => rfl
  | succ k =>
    obtain ⟨hk, hp, _⟩ := lvl_some.1 e
    by_cases hkn : k = n
    · subst hkn; exact absurd e h1
    · exact absurd hp (lvl_zero.1 h k (by omega))
/-- In the midst of a level's round: the cells before p have been asked. -/
def lvlMid [∀ p:Prop,Decidable p] (free : Cl → Bool) (a : Cl) (n p : Nat) (c : Cl) : Nat :=
  if lvl free a n c ≠ 0 then lvl free a n c else if free c = true ∧ ∃ q, ci q.1 q.2 < p ∧ onB q.1 q.2 = true ∧ lvl free a n q = n ∧ c ∈ nbrs q.1 q.2 then n + 1 else 0
theorem lvlMid_start {free : Cl → Bool} {a : Cl} (n : Nat) (c : Cl) : lvlMid free a n 0 c = lvl free a n c := by
  unfold lvlMid
  split
  · rfl
  · rename_i h
    rw [if_neg (by rintro ⟨_, q, h1, _⟩; omega)]
    omega
theorem path_on {free : Cl → Bool} {a : Cl} (ha : onB a.1 a.2 = true) {k : Nat} {c : Cl} (h : Path free a k c) : onB c.1 c.2 = true := by
  induction h using Path.ind with
  | nil => exact ha
  | snoc _ hm _ _ =>
    unfold nbrs at hm
    exact (List.mem_filter.1 hm).2
theorem lvlMid_end {free : Cl → Bool} {a : Cl} (ha : onB a.1 a.2 = true) {n : Nat} (hn : 0 < n) (c : Cl) : lvlMid free a n 144 c = lvl free a (n + 1) c := by
  unfold lvlMid
  split
  · rename_i h
    rw [lvl_keep h]
  · rename_i h
    have h0 : lvl free a n c = 0 := by omega
    split
    · rename_i h1
      obtain ⟨hf, q, _, _, hq, hm⟩ := h1
      exact ((lvl_step hn h0).2 ⟨hf, q, hq, hm⟩).symm
    · rename_i h1
      refine (lvl_not h0 (fun e => ?_)).symm
      obtain ⟨hf, q, hq, hm⟩ := (lvl_step hn h0).1 e
      have hqn : ∃ m, n = m + 1 := ⟨n - 1, by omega⟩
      obtain ⟨m, rfl⟩ := hqn
      have hon := path_on ha (lvl_some.1 hq).2.1
      exact h1 ⟨hf, q, ci_lt hon, hon, hq, hm⟩
/-- A walk that never comes back to its start: shortest ones do not. -/
theorem path_avoid {free : Cl → Bool} {a : Cl} {k : Nat} {c : Cl} (h : Path free a k c) (hmin : ∀ j, j < k → ¬ Path free a j c) : Path (fun x => free x && decide (x ≠ a)) a k c := by
  induction h using Path.ind with
  | nil => exact .nil
  | snoc hp hm hf ih =>
    rename_i k q n
    refine .snoc (ih (fun j hj hq => hmin (j + 1) (by omega) (.snoc hq hm hf))) hm ?_
    have : n ≠ a := fun e => hmin 0 (by omega) (by rw [e]; exact .nil)
    simp [hf, this]
theorem path_mono {f g : Cl → Bool} (h : ∀ x, f x = true → g x = true) {a : Cl} {k : Nat} {c : Cl} (hp : Path f a k c) : Path g a k c := by
  induction hp using Path.ind with
  | nil => exact .nil
  | snoc _ hm hf ih => exact .snoc ih hm (h _ hf)
/-- A step that a search finds leads one nearer. -/
theorem found_step {free ends : Cl → Bool} {a r : Cl} {T : Cl} (hends : ∀ x, ends x = true ↔ x = T) (hF : Found (fun x => free x && decide (x ≠ a)) ends a r) {d : Nat} (hp : Path free a (d + 1) T) (hmin : ∀ j, j < d + 1 → ¬ Path free a j T) :
    r ∈ nbrs a.1 a.2 ∧ free r = true ∧ r ≠ a ∧ Path free r d T ∧ ∀ j, j < d → ¬ Path free r j T := by
  have hpa := path_avoid hp hmin
  rcases hF with ⟨h1, h2, k, n, _, hn, hpk, hk⟩ | ⟨_, hno⟩
  · have hnT := (hends n).1 hn
    subst hnT
    have hr : free r = true ∧ r ≠ a := by simpa using h2
    have hk1 := hk (d + 1) n ((hends n).2 rfl) hpa
    have hpk' : Path free r k n := path_mono (fun x hx => by simp at hx; exact hx.1) hpk
    have hkd : k = d := by
      by_cases e : k < d
      · exact absurd (Path.cons h1 hr.1 hpk') (hmin (k + 1) (by omega))
      · omega
    subst hkd
    refine ⟨h1, hr.1, hr.2, hpk', fun j hj hq => ?_⟩
    exact hmin (j + 1) (by omega) (Path.cons h1 hr.1 hq)
  · exact absurd hpa (hno _ _ ((hends T).2 rfl))
/-- No way: one stays. -/
theorem found_none {free ends : Cl → Bool} {a r : Cl} {T : Cl} (hends : ∀ x, ends x = true ↔ x = T) (hF : Found (fun x => free x && decide (x ≠ a)) ends a r) (hno : ∀ j, ¬ Path free a j T) : r = a := by
  rcases hF with ⟨h1, h2, k, n, _, hn, hpk, _⟩ | ⟨h, _⟩
  · have hnT := (hends n).1 hn
    subst hnT
    have hr : free r = true ∧ r ≠ a := by simpa using h2
    exact absurd (Path.cons h1 hr.1 (path_mono (fun x hx => by simp at hx; exact hx.1) hpk)) (hno _)
  · exact h
end Go.Proofs.YtapabahhfanmmaaDoor
/- A level's round, cell by cell. -/
namespace Go.Proofs.YtapabahhfanmmaaDoor
open Go.RowKit Classical

theorem lvlMid_is {free : Cl → Bool} {a : Cl} {n : Nat} (hn : 0 < n) (p : Nat) (c : Cl) : lvlMid free a n p c = n ↔ lvl free a n c = n := by
  unfold lvlMid
  constructor
  · intro h
    split at h
    · exact h
    · split at h <;> omega
  · intro h
    rw [if_pos (by omega), h]
theorem mid_skip {free : Cl → Bool} {a : Cl} {n : Nat} (hn : 0 < n) {p : Nat} {q : Cl} (hq : onB q.1 q.2 = true) (hqp : ci q.1 q.2 = p) (h : lvlMid free a n p q ≠ n) (hinj : ∀ x : Cl, onB x.1 x.2 = true → ci x.1 x.2 = p → x = q) (c : Cl) : lvlMid free a n (p + 1) c = lvlMid free a n p c := by
  have h1 : lvl free a n q ≠ n := fun e => h ((lvlMid_is hn p q).2 e)
  have hiff : (free c = true ∧ ∃ x, ci x.1 x.2 < p + 1 ∧ onB x.1 x.2 = true ∧ lvl free a n x = n ∧ c ∈ nbrs x.1 x.2) ↔ (free c = true ∧ ∃ x, ci x.1 x.2 < p ∧ onB x.1 x.2 = true ∧ lvl free a n x = n ∧ c ∈ nbrs x.1 x.2) := by
    constructor
    · rintro ⟨hf, x, hx, ho, hl, hm⟩
      refine ⟨hf, x, ?_, ho, hl, hm⟩
      by_cases e : ci x.1 x.2 = p
      · have := hinj x ho e
        subst this
        exact absurd hl h1
      · omega
    · rintro ⟨hf, x, hx, ho, hl, hm⟩
      exact ⟨hf, x, by omega, ho, hl, hm⟩
  unfold lvlMid
  by_cases h0 : lvl free a n c ≠ 0
  · rw [if_pos h0, if_pos h0]
  · rw [if_neg h0, if_neg h0]
    by_cases hc : free c = true ∧ ∃ x, ci x.1 x.2 < p ∧ onB x.1 x.2 = true ∧ lvl free a n x = n ∧ c ∈ nbrs x.1 x.2
    · rw [if_pos hc, if_pos (hiff.2 hc)]
    · rw [if_neg hc, if_neg (fun x => hc (hiff.1 x))]
theorem mid_ask {free : Cl → Bool} {a : Cl} {n : Nat} (hn : 0 < n) {p : Nat} {q : Cl} (hq : onB q.1 q.2 = true) (hqp : ci q.1 q.2 = p) (h : lvlMid free a n p q = n) (hinj : ∀ x : Cl, onB x.1 x.2 = true → ci x.1 x.2 = p → x = q) (c : Cl) :
    (free c = true ∧ c ∈ nbrs q.1 q.2 → lvlMid free a n p c = 0 → lvlMid free a n (p + 1) c = n + 1) ∧ (¬ (free c = true ∧ c ∈ nbrs q.1 q.2) ∨ lvlMid free a n p c ≠ 0 → lvlMid free a n (p + 1) c = lvlMid free a n p c) := by
  have h1 : lvl free a n q = n := (lvlMid_is hn p q).1 h
  constructor
  · rintro ⟨hf, hm⟩ h0
    have hl0 : lvl free a n c = 0 := by
      unfold lvlMid at h0
      split at h0
      · exact h0
      · omega
    unfold lvlMid
    rw [if_neg (by omega), if_pos ⟨hf, q, by omega, hq, h1, hm⟩]
  · intro hor
    unfold lvlMid at hor ⊢
    by_cases hl0 : lvl free a n c ≠ 0
    · rw [if_pos hl0, if_pos hl0]
    · rw [if_neg hl0] at hor ⊢
      rw [if_neg hl0]
      by_cases hc : free c = true ∧ ∃ x, ci x.1 x.2 < p ∧ onB x.1 x.2 = true ∧ lvl free a n x = n ∧ c ∈ nbrs x.1 x.2
      · rw [if_pos hc]
        obtain ⟨hf, x, hx, ho, hl, hm⟩ := hc
        rw [if_pos ⟨hf, x, by omega, ho, hl, hm⟩]
      · rw [if_neg hc] at hor ⊢
        rw [if_neg]
        rintro ⟨hf, x, hx, ho, hl, hm⟩
        by_cases e : ci x.1 x.2 = p
        · have := hinj x ho e
          subst this
          rcases hor with hor | hor
          · exact hor ⟨hf, hm⟩
          · exact hor rfl
        · exact hc ⟨hf, x, by omega, ho, hl, hm⟩
end Go.Proofs.YtapabahhfanmmaaDoor
/- The games of the law Way: two bases, and a worker that goes. -/
namespace Go.Proofs.YtapabahhfanmmaaDoor
open Go.RowKit Classical

abbrev bas0 : U := newU 1 0 1 0 0 40
abbrev bas1 : U := newU 2 1 1 11 11 40
abbrev wk (s : Cl) (what : Int) (g : Cl) : U := { id := 3, owner := 0, kind := 2, x := s.1, y := s.2, life := 8, load := 0, what := what, tox := g.1, toy := g.2, target := 0 }
def grd (bd : Nat → Int) (c : Cl) : Bool := bd (ci c.1 c.2) == 0 && decide (c ≠ (0, 0)) && decide (c ≠ (11, 11))
theorem held_three (s : Cl) (what : Int) (g c : Cl) : heldOf [bas0, bas1, wk s what g] c = if c = s then some 3 else if c = (11, 11) then some 2 else if c = (0, 0) then some 1 else none := by
  show (if c = (s.1, s.2) then some 3 else if c = (11, 11) then some 2 else if c = (0, 0) then some 1 else none) = _
  rfl
theorem free_three (bd : Nat → Int) (s : Cl) (what : Int) (g : Cl) : (fun c : Cl => freeB (heldV (heldOf [bas0, bas1, wk s what g])) bd c.1 c.2) = fun c => grd bd c && decide (c ≠ s) := by
  funext c
  unfold freeB grd heldV
  rw [show ((c.1, c.2) : Cl) = c from rfl, held_three]
  by_cases h1 : c = s
  · simp [h1]
  · rw [if_neg h1]
    by_cases h2 : c = (11, 11)
    · rw [if_pos h2]; simp [h2]
    · rw [if_neg h2]
      by_cases h3 : c = (0, 0)
      · rw [if_pos h3]; simp [h3]
      · rw [if_neg h3]; simp [h1, h2, h3]
/-- All act: the bases have nothing to do. -/
theorem act_three (t : T) (s g : Cl) (hus : t.us = [bas0, bas1, wk s 1 g]) (hh : t.held = heldOf t.us) (hne : s ≠ g) :
    ∃ hd, actAll t.us t = { t with us := [bas0, bas1, wk (bfs (fun c => grd t.bd c && decide (c ≠ s)) (fun c => c.1 == g.1 && c.2 == g.2) s) 1 g], held := hd } := by
  obtain ⟨tn, nx, s0, s1, bd, us, hd0⟩ := t
  dsimp only at hus hh ⊢
  subst hus
  subst hh
  have hov : ∀ s w g, overB [bas0, bas1, wk s w g] = false := fun _ _ _ => rfl
  have hpos : ¬ ((s.1 == g.1 && s.2 == g.2) = true) := by
    intro h
    simp at h
    exact hne (Prod.ext h.1 h.2)
  obtain ⟨t0, ht0⟩ : ∃ t0 : T, t0 = ⟨tn, nx, s0, s1, bd, [bas0, bas1, wk s 1 g], heldOf [bas0, bas1, wk s 1 g]⟩ := ⟨_, rfl⟩
  have a0 : actAt t0 bas0 = t0 := by subst ht0; rfl
  have a1 : actAt t0 bas1 = t0 := by subst ht0; rfl
  have a2 : actAt t0 (wk s 1 g) = putBack (actMove t0 (wk s 1 g)).2 (actMove t0 (wk s 1 g)).1 := by subst ht0; rfl
  have hf := free_three bd s 1 g
  have a3 : actMove t0 (wk s 1 g) = ((wk s 1 g).to (bfs (fun c => grd bd c && decide (c ≠ s)) (fun c => c.1 == g.1 && c.2 == g.2) s), t0.moved (wk s 1 g) (bfs (fun c => grd bd c && decide (c ≠ s)) (fun c => c.1 == g.1 && c.2 == g.2) s)) := by
    unfold actMove
    rw [if_neg hpos]
    have : wayTo t0 (wk s 1 g) (fun c => c.1 == (wk s 1 g).tox && c.2 == (wk s 1 g).toy) = bfs (fun c => grd bd c && decide (c ≠ s)) (fun c => c.1 == g.1 && c.2 == g.2) s := by
      rw [← hf]
      subst ht0
      rfl
    rw [this]
  rw [← ht0]
  have ho0 : overB t0.us = false := by subst ht0; exact hov _ _ _
  unfold actAll
  rw [a0, ho0, if_neg (by simp)]
  unfold actAll
  rw [a1, ho0, if_neg (by simp)]
  unfold actAll
  rw [a2, a3]
  generalize bfs (fun c => grd bd c && decide (c ≠ s)) (fun c => c.1 == g.1 && c.2 == g.2) s = r
  subst ht0
  refine ⟨fun k => if k = r then some 3 else if k = (s.1, s.2) then none else heldOf [bas0, bas1, wk s 1 g] k, ?_⟩
  split <;> rfl
theorem play_walk (t : T) (s g : Cl) (hus : t.us = [bas0, bas1, wk s 1 g]) (ht : t.turn < 1000000000) (hne : s ≠ g) :
    ∃ hd, playT t [] [] = ({ t with turn := t.turn + 1, us := [bas0, bas1, wk (bfs (fun c => grd t.bd c && decide (c ≠ s)) (fun c => c.1 == g.1 && c.2 == g.2) s) 1 g], held := hd }, [], []) := by
  have hov : overB t.us = false := by rw [hus]; rfl
  obtain ⟨hd, ha⟩ := act_three (beginT t) s g hus rfl hne
  refine ⟨hd, ?_⟩
  unfold playT
  rw [if_neg (by omega), hov, if_neg (by simp)]
  show ({ (actAll (beginT t).us (beginT t)) with turn := (actAll (beginT t).us (beginT t)).turn + 1 }, [], []) = _
  rw [ha]
  rfl
theorem act_there (t : T) (s : Cl) (hus : t.us = [bas0, bas1, wk s 1 s]) : actAll t.us t = { t with us := [bas0, bas1, wk s 0 (0, 0)] } := by
  obtain ⟨tn, nx, s0, s1, bd, us, hd0⟩ := t
  dsimp only at hus ⊢
  subst hus
  have hov : ∀ s w g, overB [bas0, bas1, wk s w g] = false := fun _ _ _ => rfl
  obtain ⟨t0, ht0⟩ : ∃ t0 : T, t0 = ⟨tn, nx, s0, s1, bd, [bas0, bas1, wk s 1 s], hd0⟩ := ⟨_, rfl⟩
  have a0 : actAt t0 bas0 = t0 := by subst ht0; rfl
  have a1 : actAt t0 bas1 = t0 := by subst ht0; rfl
  have a2 : actAt t0 (wk s 1 s) = putBack (actMove t0 (wk s 1 s)).2 (actMove t0 (wk s 1 s)).1 := by subst ht0; rfl
  have a3 : actMove t0 (wk s 1 s) = ((wk s 1 s).idle, t0) := by
    unfold actMove
    rw [if_pos (by simp)]
  rw [← ht0]
  have ho0 : overB t0.us = false := by subst ht0; exact hov _ _ _
  unfold actAll
  rw [a0, ho0, if_neg (by simp)]
  unfold actAll
  rw [a1, ho0, if_neg (by simp)]
  unfold actAll
  rw [a2, a3]
  subst ht0
  split <;> rfl
/-- The worker is told to go. -/
theorem take_go (t : T) (s g : Cl) (hus : t.us = [bas0, bas1, wk s 0 (0, 0)]) : takeT t 0 ⟨3, 1, g.1, g.2, 0⟩ = if (onB g.1 g.2 && t.bd (ci g.1 g.2) != 10) = true then (true, { t with us := [bas0, bas1, wk s 1 g] }) else (false, t) := by
  obtain ⟨tn, nx, s0, s1, bd, us, hd0⟩ := t
  dsimp only at hus ⊢
  subst hus
  have hp : placeOf [bas0, bas1, wk s 0 (0, 0)] 3 = some 2 := rfl
  unfold takeT
  dsimp only
  rw [hp]
  dsimp only [List.getElem?_cons_succ, List.getElem?_cons_zero]
  have ht : takesB ⟨tn, nx, s0, s1, bd, [bas0, bas1, wk s 0 (0, 0)], hd0⟩ (wk s 0 (0, 0)) ⟨3, 1, g.1, g.2, 0⟩ = (onB g.1 g.2 && bd (ci g.1 g.2) != 10) := by
    unfold takesB
    simp
  rw [ht]
  by_cases h : (onB g.1 g.2 && bd (ci g.1 g.2) != 10) = true
  · rw [if_pos ⟨rfl, h⟩, if_pos h]; rfl
  · rw [if_neg (fun x => h x.2), if_neg h]
theorem play_go (t : T) (s g : Cl) (hus : t.us = [bas0, bas1, wk s 0 (0, 0)]) (ht : t.turn < 1000000000) (hg : onB g.1 g.2 = true) (hbd : t.bd (ci g.1 g.2) ≠ 10) :
    ∃ hd, playT t [⟨3, 1, g.1, g.2, 0⟩] [] = ({ t with turn := t.turn + 1, us := [bas0, bas1, if s = g then wk s 0 (0, 0) else wk (bfs (fun c => grd t.bd c && decide (c ≠ s)) (fun c => c.1 == g.1 && c.2 == g.2) s) 1 g], held := hd }, [], []) := by
  have hov : overB t.us = false := by rw [hus]; rfl
  have htk := take_go (beginT t) s g hus
  rw [if_pos (by rw [hg]; simpa [beginT] using hbd)] at htk
  have hq : cmdAll 0 0 [⟨3, 1, g.1, g.2, 0⟩] (beginT t) = ([], { beginT t with us := [bas0, bas1, wk s 1 g] }) := by
    unfold cmdAll
    rw [htk]
    rfl
  have hheld : heldOf t.us = heldOf [bas0, bas1, wk s 1 g] := by rw [hus]; rfl
  obtain ⟨t1, ht1⟩ : ∃ t1 : T, t1 = { beginT t with us := [bas0, bas1, wk s 1 g] } := ⟨_, rfl⟩
  have hu1 : t1.us = [bas0, bas1, wk s 1 g] := by rw [ht1]
  have hh1 : t1.held = heldOf t1.us := by rw [ht1]; exact hheld
  have hp : playT t [⟨3, 1, g.1, g.2, 0⟩] [] = ({ (actAll t1.us t1) with turn := (actAll t1.us t1).turn + 1 }, [], []) := by
    unfold playT
    rw [if_neg (by omega), hov, if_neg (by simp), hq, ← ht1]
    rfl
  rw [hp]
  by_cases e : s = g
  · subst e
    refine ⟨heldOf t.us, ?_⟩
    rw [act_there t1 s hu1, if_pos rfl, ht1]
    rfl
  · obtain ⟨hd, ha⟩ := act_three t1 s g hu1 hh1 e
    refine ⟨hd, ?_⟩
    rw [ha, if_neg e, ht1]
    rfl
theorem play_rock (t : T) (s g : Cl) (hus : t.us = [bas0, bas1, wk s 0 (0, 0)]) (ht : t.turn < 1000000000) (hbd : t.bd (ci g.1 g.2) = 10) : (playT t [⟨3, 1, g.1, g.2, 0⟩] []).2 = ([0], []) := by
  have hov : overB t.us = false := by rw [hus]; rfl
  have htk := take_go (beginT t) s g hus
  rw [if_neg (by simp [beginT, hbd])] at htk
  unfold playT
  rw [if_neg (by omega), hov, if_neg (by simp)]
  show ((cmdAll 0 0 [⟨3, 1, g.1, g.2, 0⟩] (beginT t)).1, _) = _
  have : (cmdAll 0 0 [⟨3, 1, g.1, g.2, 0⟩] (beginT t)).1 = [0] := by
    unfold cmdAll
    rw [htk]
    rfl
  rw [this]
  rfl
/-- The worker is built: to the right of the base, or below, or not at all. -/
theorem build_at (bd : Nat → Int) : (nbrs 0 0).find? (fun c => freeB (heldV (heldOf [bas0, bas1])) bd c.1 c.2) = if bd 1 = 0 then some (1, 0) else if bd 12 = 0 then some (0, 1) else none := by
  have h0 : nbrs 0 0 = [(1, 0), (0, 1)] := by decide
  have h1 : freeB (heldV (heldOf [bas0, bas1])) bd 1 0 = (bd 1 == 0) := rfl
  have h2 : freeB (heldV (heldOf [bas0, bas1])) bd 0 1 = (bd 12 == 0) := rfl
  rw [h0]
  simp only [List.find?_cons, h1, h2, List.find?_nil]
  by_cases e1 : bd 1 = 0
  · simp [e1]
  · have b1 : (bd 1 == 0) = false := by simpa using e1
    by_cases e2 : bd 12 = 0
    · rw [b1, if_neg e1, if_pos e2]; simp [e2]
    · have b2 : (bd 12 == 0) = false := by simpa using e2
      rw [b1, b2, if_neg e1, if_neg e2]
abbrev basB : U := { bas0 with what := 4, tox := 2 }
theorem act_build (bd : Nat → Int) : actAll [basB, bas1] ⟨0, 3, 10, 10, bd, [basB, bas1], heldOf [bas0, bas1]⟩ =
    (if bd 1 = 0 then ⟨0, 4, 5, 10, bd, [bas0, bas1, wk (1, 0) 0 (0, 0)], fun k => if k = (1, 0) then some 3 else heldOf [bas0, bas1] k⟩
    else if bd 12 = 0 then ⟨0, 4, 5, 10, bd, [bas0, bas1, wk (0, 1) 0 (0, 0)], fun k => if k = (0, 1) then some 3 else heldOf [bas0, bas1] k⟩
    else ⟨0, 3, 10, 10, bd, [basB, bas1], heldOf [bas0, bas1]⟩) := by
  have hb := build_at bd
  obtain ⟨t0, ht0⟩ : ∃ t0 : T, t0 = ⟨0, 3, 10, 10, bd, [basB, bas1], heldOf [bas0, bas1]⟩ := ⟨_, rfl⟩
  have a0 : actAt t0 basB = putBack (actBuild t0 basB).2 (actBuild t0 basB).1 := by subst ht0; rfl
  have a1 : actBuild t0 basB = match (nbrs 0 0).find? (fun c => freeB (heldV (heldOf [bas0, bas1])) bd c.1 c.2) with
    | none => (basB, t0)
    | some c => (basB.idle, T.added { t0.setStock 0 5 with held := fun k => if k = c then some 3 else heldOf [bas0, bas1] k } 0 2 c.1 c.2 8) := by
    subst ht0
    unfold actBuild
    have h1 : ¬ (T.stock (⟨0, 3, 10, 10, bd, [basB, bas1], heldOf [bas0, bas1]⟩ : T) basB.owner < costOf basB.tox) := show ¬ ((10 : Int) < 5) by decide
    have h2 : ¬ (100 ≤ (⟨0, 3, 10, 10, bd, [basB, bas1], heldOf [bas0, bas1]⟩ : T).us.length) := show ¬ (100 ≤ 2) by decide
    have h3 : ¬ (1000000000 ≤ (⟨0, 3, 10, 10, bd, [basB, bas1], heldOf [bas0, bas1]⟩ : T).next) := show ¬ ((1000000000 : Int) ≤ 3) by decide
    rw [if_neg h1, if_neg h2, if_neg h3]
    rfl
  rw [← ht0]
  unfold actAll
  rw [a0, a1, hb]
  by_cases e1 : bd 1 = 0
  · rw [if_pos e1, if_pos e1]
    subst ht0
    rfl
  · rw [if_neg e1, if_neg e1]
    by_cases e2 : bd 12 = 0
    · rw [if_pos e2, if_pos e2]
      subst ht0
      rfl
    · rw [if_neg e2, if_neg e2]
      subst ht0
      rfl
theorem play_build (cs : List Int) : ∃ hd, (playT (startT cs) [⟨1, 4, 2, 0, 0⟩] []).1 =
    (if bdOf cs 1 = 0 then { turn := 1, next := 4, s0 := 5, s1 := 10, bd := bdOf cs, us := [bas0, bas1, wk (1, 0) 0 (0, 0)], held := hd }
    else if bdOf cs 12 = 0 then { turn := 1, next := 4, s0 := 5, s1 := 10, bd := bdOf cs, us := [bas0, bas1, wk (0, 1) 0 (0, 0)], held := hd }
    else { turn := 1, next := 3, s0 := 10, s1 := 10, bd := bdOf cs, us := [basB, bas1], held := hd }) := by
  have hq : cmdAll 0 0 [⟨1, 4, 2, 0, 0⟩] (beginT (startT cs)) = ([], ⟨0, 3, 10, 10, bdOf cs, [basB, bas1], heldOf [bas0, bas1]⟩) := rfl
  have hp : (playT (startT cs) [⟨1, 4, 2, 0, 0⟩] []).1 = { (actAll [basB, bas1] ⟨0, 3, 10, 10, bdOf cs, [basB, bas1], heldOf [bas0, bas1]⟩) with turn := (actAll [basB, bas1] ⟨0, 3, 10, 10, bdOf cs, [basB, bas1], heldOf [bas0, bas1]⟩).turn + 1 } := by
    unfold playT
    have h1 : ¬ (1000000000 ≤ (startT cs).turn) := show ¬ ((1000000000 : Int) ≤ 0) by decide
    have h2 : ¬ (overB (startT cs).us = true) := show ¬ (overB [bas0, bas1] = true) by decide
    rw [if_neg h1, if_neg h2, hq]
    rfl
  rw [hp, act_build]
  by_cases e1 : bdOf cs 1 = 0
  · simp only [if_pos e1]
    exact ⟨_, rfl⟩
  · simp only [if_neg e1]
    by_cases e2 : bdOf cs 12 = 0
    · simp only [if_pos e2]
      exact ⟨_, rfl⟩
    · simp only [if_neg e2]
      exact ⟨_, rfl⟩
end Go.Proofs.YtapabahhfanmmaaDoor
