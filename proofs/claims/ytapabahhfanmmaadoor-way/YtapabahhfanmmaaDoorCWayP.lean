import Derived.Test.YtapabahhfanmmaaDoorCWayT
import Derived.Test.YtapabahhfanmmaaDoorCSpread
/- What spreading does to the levels. -/
namespace Go.Proofs.YtapabahhfanmmaaDoor
open Go.RowKit Classical

def cel (j : Nat) : Cl := (((j % 12 : Nat) : Int), ((j / 12 : Nat) : Int))
theorem cel_on {j : Nat} (h : j < 144) : onB (cel j).1 (cel j).2 = true := by
  apply onB_iff.2
  unfold cel
  dsimp only
  omega
theorem ci_cel {j : Nat} : ci (cel j).1 (cel j).2 = j := by
  unfold ci cel
  dsimp only
  omega
theorem cel_ci {c : Cl} (h : onB c.1 c.2 = true) : cel (ci c.1 c.2) = c := by
  obtain ⟨h1, h2, h3, h4⟩ := onB_iff.1 h
  unfold cel ci
  apply Prod.ext
  · dsimp only; omega
  · dsimp only; omega
theorem FarAt.same' {w : World} {fb : Nat} {F G : Nat → Int} (h : FarAt w fb F) (e : ∀ j, j < 144 → G j = F j) : FarAt w fb G := ⟨fun j hj => by rw [e j hj]; exact h.cell j hj, h.fz⟩
def farM [∀ p:Prop,Decidable p] (bd : Nat → Int) (a : Cl) (n p j : Nat) : Int := (lvlMid (grd bd) a n p (cel j) : Nat)
theorem farM_first (bd : Nat → Int) (a : Cl) (ha : onB a.1 a.2 = true) (j : Nat) : farM bd a 1 0 j = if j = ci a.1 a.2 then 1 else 0 := by
  unfold farM
  rw [lvlMid_start]
  have hp : ∀ c : Cl, Path (grd bd) a 0 c ↔ c = a := fun c => ⟨fun h => by cases h; rfl, fun h => by rw [h]; exact .nil⟩
  by_cases e : j = ci a.1 a.2
  · rw [if_pos e]
    have : lvl (grd bd) a 1 (cel j) = 0 + 1 := lvl_some.2 ⟨by omega, (hp _).2 (by rw [e]; exact cel_ci ha), fun m hm => by omega⟩
    rw [this]; rfl
  · rw [if_neg e]
    have : lvl (grd bd) a 1 (cel j) = 0 := lvl_zero.2 (fun m hm h => by
      have : m = 0 := by omega
      subst this
      apply e
      rw [← (hp _).1 h, ci_cel])
    rw [this]; rfl
theorem farM_next (bd : Nat → Int) (a : Cl) (ha : onB a.1 a.2 = true) {n : Nat} (hn : 0 < n) (j : Nat) : farM bd a (n + 1) 0 j = farM bd a n 144 j := by
  unfold farM
  rw [lvlMid_start, lvlMid_end ha hn]
theorem inj_p {p : Nat} : ∀ x : Cl, onB x.1 x.2 = true → ci x.1 x.2 = p → x = cel p := fun x ho e => by rw [← e, cel_ci ho]
theorem farM_skip (bd : Nat → Int) (a : Cl) {n : Nat} (hn : 0 < n) {p : Nat} (hp : p < 144) (h : farM bd a n p p ≠ n) (j : Nat) : farM bd a n (p + 1) j = farM bd a n p j := by
  unfold farM at h ⊢
  rw [mid_skip hn (cel_on hp) ci_cel (fun e => h (by rw [e])) inj_p]
theorem farM_ask (bd : Nat → Int) (a : Cl) {n : Nat} (hn : 0 < n) {p : Nat} (hp : p < 144) (h : farM bd a n p p = n) (j : Nat) : farM bd a n (p + 1) j = farTo (farM bd a n p) bd (cel p).1 (cel p).2 ((n : Int) + 1) 4 j := by
  have h1 : lvlMid (grd bd) a n p (cel p) = n := by unfold farM at h; omega
  obtain ⟨m1, m2⟩ := mid_ask hn (cel_on hp) ci_cel h1 inj_p (cel j)
  have hnb : nbrTo (cel p).1 (cel p).2 4 = nbrs (cel p).1 (cel p).2 := rfl
  unfold farTo
  rw [hnb]
  by_cases hc : farM bd a n p j = 0 ∧ ∃ q ∈ nbrs (cel p).1 (cel p).2, ci q.1 q.2 = j ∧ grd bd q = true
  · rw [if_pos hc]
    obtain ⟨h0, q, hq, e, hg⟩ := hc
    have hqo : onB q.1 q.2 = true := by unfold nbrs at hq; exact (List.mem_filter.1 hq).2
    have hqc : cel j = q := by rw [← e, cel_ci hqo]
    unfold farM at h0 ⊢
    rw [m1 ⟨by rw [hqc]; exact hg, by rw [hqc]; exact hq⟩ (by omega)]
    omega
  · rw [if_neg hc]
    unfold farM
    rw [m2]
    by_cases h0 : lvlMid (grd bd) a n p (cel j) = 0
    · refine Or.inl (fun hx => hc ⟨?_, cel j, hx.2, ci_cel, hx.1⟩)
      unfold farM
      rw [h0]; rfl
    · exact Or.inr h0
theorem farM_le (bd : Nat → Int) (a : Cl) (n p j : Nat) : 0 ≤ farM bd a n p j ∧ farM bd a n p j ≤ (n : Int) + 1 := by
  unfold farM lvlMid
  have := lvl_le (free := grd bd) (a := a) n (cel j)
  split
  · omega
  · split <;> omega
end Go.Proofs.YtapabahhfanmmaaDoor
/- The worker's way, as plain data. -/
namespace Go.Proofs.YtapabahhfanmmaaDoor
open Go.RowKit Classical

structure Nigh (bd : Nat → Int) (s : Cl) (k : Nat) (g : Cl) : Prop where
  on : onB s.1 s.2 = true
  path : Path (grd bd) s k g
  min : ∀ j, j < k → ¬ Path (grd bd) s j g
theorem Nigh.there {bd : Nat → Int} {s g : Cl} (h : Nigh bd s 0 g) : s = g := by
  have := h.path
  cases this
  rfl
theorem Nigh.not {bd : Nat → Int} {s g : Cl} {k : Nat} (h : Nigh bd s (k + 1) g) : s ≠ g := fun e => h.min 0 (by omega) (by rw [e]; exact .nil)
theorem found_no {free ends : Cl → Bool} {a r : Cl} {T : Cl} (hends : ∀ x, ends x = true ↔ x = T) (hF : Found (fun x => free x && decide (x ≠ a)) ends a r) (hno : ∀ j, j < 145 → ¬ Path free a j T) : r = a := by
  rcases hF with ⟨h1, h2, k, n, hk, hn, hpk, _⟩ | ⟨h, _⟩
  · have hnT := (hends n).1 hn
    subst hnT
    have hr : free r = true ∧ r ≠ a := by simpa using h2
    exact absurd (Path.cons h1 hr.1 (path_mono (fun x hx => by simp at hx; exact hx.1) hpk)) (hno _ (by omega))
  · exact h
theorem ends_is (g : Cl) : ∀ x : Cl, (fun c : Cl => c.1 == g.1 && c.2 == g.2) x = true ↔ x = g := fun x => by
  simp
  exact ⟨fun h => Prod.ext h.1 h.2, fun h => by rw [h]; exact ⟨rfl, rfl⟩⟩
abbrev stepTo (bd : Nat → Int) (s g : Cl) : Cl := bfs (fun c => grd bd c && decide (c ≠ s)) (fun c => c.1 == g.1 && c.2 == g.2) s
theorem step_found (bd : Nat → Int) (s g : Cl) (ho : onB s.1 s.2 = true) (hne : s ≠ g) : Found (fun c => grd bd c && decide (c ≠ s)) (fun c => c.1 == g.1 && c.2 == g.2) s (stepTo bd s g) := by
  refine bfs_short (by simp) ho ?_
  cases h : (s.1 == g.1 && s.2 == g.2)
  · rfl
  · exact absurd ((ends_is g s).1 h) hne
theorem Nigh.step {bd : Nat → Int} {s g : Cl} {k : Nat} (h : Nigh bd s (k + 1) g) : Nigh bd (stepTo bd s g) k g := by
  obtain ⟨h1, h2, h3, h4, h5⟩ := found_step (ends_is g) (step_found bd s g h.on h.not) h.path h.min
  refine ⟨?_, h4, h5⟩
  exact path_on (free := grd bd) h.on (.snoc .nil h1 h2)
theorem step_no {bd : Nat → Int} {s g : Cl} (ho : onB s.1 s.2 = true) (hno : ∀ j, j < 145 → ¬ Path (grd bd) s j g) : stepTo bd s g = s :=
  found_no (ends_is g) (step_found bd s g ho (fun e => hno 0 (by omega) (by rw [e]; exact .nil))) hno
theorem way_far (bd : Nat → Int) (a : Cl) (ha : onB a.1 a.2 = true) (x y : Nat) (hx : x < 12) {fv : Int} (h : farM bd a 145 0 (y * 12 + x) = fv) :
    (fv = 0 ∧ ∀ j, j < 145 → ¬ Path (grd bd) a j ((x : Int), (y : Int))) ∨ ∃ k : Nat, fv = (k : Int) + 1 ∧ k < 145 ∧ Nigh bd a k ((x : Int), (y : Int)) := by
  have hc : cel (y * 12 + x) = ((x : Int), (y : Int)) := by unfold cel; apply Prod.ext <;> dsimp only <;> omega
  unfold farM at h
  rw [hc, lvlMid_start] at h
  obtain ⟨l, hl⟩ : ∃ l, lvl (grd bd) a 145 ((x : Int), (y : Int)) = l := ⟨_, rfl⟩
  rw [hl] at h
  cases l with
  | zero => exact Or.inl ⟨by simpa using h.symm, lvl_zero.1 hl⟩
  | succ k =>
    obtain ⟨h1, h2, h3⟩ := lvl_some.1 hl
    exact Or.inr ⟨k, by rw [← h]; push_cast; rfl, h1, ha, h2, h3⟩

/-- How it stands with the worker: n turns after it was told to go, fv being how far it was (and one). -/
def Goes (bd : Nat → Int) (a g : Cl) (fv : Int) (n : Nat) (s : Cl) (w : Int) (g' : Cl) : Prop :=
  (fv = 0 ∧ n = 1 ∧ s = a) ∨ (fv = 1 ∧ n = 1 ∧ s = g) ∨ ∃ k : Nat, fv = ((k + n : Nat) : Int) + 1 ∧ w = 1 ∧ g' = g ∧ Nigh bd s k g
theorem go_first (t : T) (bd : Nat → Int) (a : Cl) (x y : Nat) (fv : Int) (hus : t.us = [bas0, bas1, wk a 0 (0, 0)]) (ht : t.turn < 1000000000) (ha : onB a.1 a.2 = true) (hx : x < 12) (hy : y < 12) (hbt : t.bd = bd) (hbd : bd (y * 12 + x) ≠ 10) (hf : farM bd a 145 0 (y * 12 + x) = fv) :
    ∃ hd s w g', playT t [⟨3, 1, x, y, 0⟩] [] = ({ t with turn := t.turn + 1, us := [bas0, bas1, wk s w g'], held := hd }, [], []) ∧ Goes bd a ((x : Int), (y : Int)) fv 1 s w g' := by
  have hci : ci (x : Int) (y : Int) = y * 12 + x := by unfold ci; omega
  have hon : onB (x : Int) (y : Int) = true := onB_iff.2 (by omega)
  obtain ⟨hd, hp⟩ := play_go t a ((x : Int), (y : Int)) hus ht hon (by dsimp only; rw [hci, hbt]; exact hbd)
  rcases way_far bd a ha x y hx hf with ⟨h0, hno⟩ | ⟨k, hk, _, hn⟩
  · have hne : a ≠ ((x : Int), (y : Int)) := fun e => hno 0 (by omega) (by rw [← e]; exact .nil)
    rw [if_neg hne] at hp
    refine ⟨hd, _, _, _, hp, Or.inl ⟨h0, rfl, ?_⟩⟩
    rw [hbt]
    exact step_no ha hno
  · cases k with
    | zero =>
      have := hn.there
      rw [if_pos this] at hp
      exact ⟨hd, _, _, _, hp, Or.inr (Or.inl ⟨by simpa using hk, rfl, this⟩)⟩
    | succ k =>
      rw [if_neg hn.not] at hp
      refine ⟨hd, _, _, _, hp, Or.inr (Or.inr ⟨k, by rw [hk], rfl, rfl, ?_⟩)⟩
      rw [hbt]
      exact hn.step
theorem go_next (t : T) (bd : Nat → Int) (a s g g' : Cl) (w : Int) (fv : Int) (n : Nat) (hus : t.us = [bas0, bas1, wk s w g']) (ht : t.turn < 1000000000) (hbt : t.bd = bd) (hg : Goes bd a g fv n s w g') (hn : (n : Int) < fv - 1) :
    s ≠ g ∧ ∃ hd s', playT t [] [] = ({ t with turn := t.turn + 1, us := [bas0, bas1, wk s' 1 g], held := hd }, [], []) ∧ Goes bd a g fv (n + 1) s' 1 g := by
  rcases hg with ⟨h0, h1, _⟩ | ⟨h0, h1, _⟩ | ⟨k, hk, rfl, rfl, hnn⟩
  · omega
  · omega
  · cases k with
    | zero => omega
    | succ k =>
      obtain ⟨hd, hp⟩ := play_walk t s g' hus ht hnn.not
      refine ⟨hnn.not, hd, _, hp, Or.inr (Or.inr ⟨k, by rw [hk]; push_cast; omega, rfl, rfl, ?_⟩)⟩
      rw [hbt]
      exact hnn.step
theorem go_end {bd : Nat → Int} {a s g g' : Cl} {w : Int} {fv : Int} {n : Nat} (hg : Goes bd a g fv n s w g') (hn : ¬ (n : Int) < fv - 1) : (fv = 0 ∧ s = a) ∨ (1 ≤ fv ∧ s = g) := by
  rcases hg with ⟨h0, h1, h2⟩ | ⟨h0, h1, h2⟩ | ⟨k, hk, rfl, rfl, hnn⟩
  · exact Or.inl ⟨h0, h2⟩
  · exact Or.inr ⟨by omega, h2⟩
  · have : k = 0 := by omega
    subst this
    exact Or.inr ⟨by omega, hnn.there⟩
end Go.Proofs.YtapabahhfanmmaaDoor
