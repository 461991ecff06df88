import Derived.Test.YtapabahhfanmmaaDoorCDist2
import Derived.Test.YtapabahhfanmmaaDoorCSpread
/- What spreading does to the levels. -/
namespace Go.Proofs.YtapabahhfanmmaaDoor
open Go.RowKit

def cel (j : Nat) : Cl := (((j % 12 : Nat) : Int), ((j / 12 : Nat) : Int))
theorem cel_on {j : Nat} (h : j < 144) : onB (cel j).1 (cel j).2 = true := by
  apply onB_iff.2
  unfold cel
  dsimp only
  omega
theorem ci_cel {j : Nat} : ci (cel j).1 (cel j).2 = j := by
  unfold ci cel
  dsimp only
  omega
theorem cel_ci {c : Cl} (h : onB c.1 c.2 = true) : cel (ci c.1 c.2) = c := by
  obtain ⟨h1, h2, h3, h4⟩ := onB_iff.1 h
  unfold cel ci
  apply Prod.ext
  · dsimp only; omega
  · dsimp only; omega
theorem FarAt.same' {w : World} {fb : Nat} {F G : Nat → Int} (h : FarAt w fb F) (e : ∀ j, j < 144 → G j = F j) : FarAt w fb G := ⟨fun j hj => by rw [e j hj]; exact h.cell j hj, h.fz⟩
noncomputable def farM (bd : Nat → Int) (a : Cl) (n p j : Nat) : Int := (lvlMid (grd bd) a n p (cel j) : Nat)
theorem farM_first (bd : Nat → Int) (a : Cl) (ha : onB a.1 a.2 = true) (j : Nat) : farM bd a 1 0 j = if j = ci a.1 a.2 then 1 else 0 := by
  unfold farM
  rw [lvlMid_start]
  have hp : ∀ c : Cl, Path (grd bd) a 0 c ↔ c = a := fun c => ⟨fun h => by cases h; rfl, fun h => by rw [h]; exact .nil⟩
  by_cases e : j = ci a.1 a.2
  · rw [if_pos e]
    have : lvl (grd bd) a 1 (cel j) = 0 + 1 := lvl_some.2 ⟨by omega, (hp _).2 (by rw [e]; exact cel_ci ha), fun m hm => by omega⟩
    rw [this]; rfl
  · rw [if_neg e]
    have : lvl (grd bd) a 1 (cel j) = 0 := lvl_zero.2 (fun m hm h => by
      have : m = 0 := by omega
      subst this
      apply e
      rw [← (hp _).1 h, ci_cel])
    rw [this]; rfl
theorem farM_next (bd : Nat → Int) (a : Cl) (ha : onB a.1 a.2 = true) {n : Nat} (hn : 0 < n) (j : Nat) : farM bd a (n + 1) 0 j = farM bd a n 144 j := by
  unfold farM
  rw [lvlMid_start, lvlMid_end ha hn]
theorem inj_p {p : Nat} : ∀ x : Cl, onB x.1 x.2 = true → ci x.1 x.2 = p → x = cel p := fun x ho e => by rw [← e, cel_ci ho]
theorem farM_skip (bd : Nat → Int) (a : Cl) {n : Nat} (hn : 0 < n) {p : Nat} (hp : p < 144) (h : farM bd a n p p ≠ n) (j : Nat) : farM bd a n (p + 1) j = farM bd a n p j := by
  unfold farM at h ⊢
  rw [mid_skip hn (cel_on hp) ci_cel (fun e => h (by rw [e])) inj_p]
theorem farM_ask (bd : Nat → Int) (a : Cl) {n : Nat} (hn : 0 < n) {p : Nat} (hp : p < 144) (h : farM bd a n p p = n) (j : Nat) : farM bd a n (p + 1) j = farTo (farM bd a n p) bd (cel p).1 (cel p).2 ((n : Int) + 1) 4 j := by
  have h1 : lvlMid (grd bd) a n p (cel p) = n := by unfold farM at h; omega
  obtain ⟨m1, m2⟩ := mid_ask hn (cel_on hp) ci_cel h1 inj_p (cel j)
  have hnb : nbrTo (cel p).1 (cel p).2 4 = nbrs (cel p).1 (cel p).2 := rfl
  unfold farTo
  rw [hnb]
  by_cases hc : farM bd a n p j = 0 ∧ ∃ q ∈ nbrs (cel p).1 (cel p).2, ci q.1 q.2 = j ∧ grd bd q = true
  · rw [if_pos hc]
    obtain ⟨h0, q, hq, e, hg⟩ := hc
    have hqo : onB q.1 q.2 = true := by unfold nbrs at hq; exact (List.mem_filter.1 hq).2
    have hqc : cel j = q := by rw [← e, cel_ci hqo]
    unfold farM at h0 ⊢
    rw [m1 ⟨by rw [hqc]; exact hg, by rw [hqc]; exact hq⟩ (by omega)]
    omega
  · rw [if_neg hc]
    unfold farM
    rw [m2]
    by_cases h0 : lvlMid (grd bd) a n p (cel j) = 0
    · refine Or.inl (fun hx => hc ⟨?_, cel j, hx.2, ci_cel, hx.1⟩)
      unfold farM
      rw [h0]; rfl
    · exact Or.inr h0
theorem farM_le (bd : Nat → Int) (a : Cl) (n p j : Nat) : 0 ≤ farM bd a n p j ∧ farM bd a n p j ≤ (n : Int) + 1 := by
  unfold farM lvlMid
  have := lvl_le (free := grd bd) (a := a) n (cel j)
  split
  · omega
  · split <;> omega
end Go.Proofs.YtapabahhfanmmaaDoor
