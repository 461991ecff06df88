import Derived.Test.YtapabahhfanmmaaDoorCInv3
/- A search finds a shortest way. -/
namespace Go.Proofs.YtapabahhfanmmaaDoor
open Go.RowKit

def Path (free : Cl → Bool) (a : Cl) : Nat → Cl → Prop
 | 0, c => c = a
 | k + 1, n => ∃ c, Path free a k c ∧ n ∈ nbrs c.1 c.2 ∧ free n = true
theorem Path.nil {free : Cl → Bool} {a : Cl} : Path free a 0 a := rfl
theorem Path.snoc {free : Cl → Bool} {a : Cl} {k : Nat} {c n : Cl} (h : Path free a k c) (h1 : n ∈ nbrs c.1 c.2) (h2 : free n = true) : Path free a (k + 1) n := ⟨c, h, h1, h2⟩
theorem Path.ind {free : Cl → Bool} {a : Cl} {M : ∀ k c, Path free a k c → Prop} (nil : M 0 a .nil) (snoc : ∀ {k : Nat} {c n : Cl} (h : Path free a k c) (h1 : n ∈ nbrs c.1 c.2) (h2 : free n = true), M k c h → M (k + 1) n (.snoc h h1 h2)) : ∀ {k : Nat} {c : Cl} (h : Path free a k c), M k c h
 | 0, _, rfl => nil
 | _ + 1, _, ⟨_, h, h1, h2⟩ => snoc h h1 h2 (Path.ind nil snoc h)
theorem Path.cons {free : Cl → Bool} {a f : Cl} (h1 : f ∈ nbrs a.1 a.2) (h2 : free f = true) {k : Nat} {c : Cl} (h : Path free f k c) : Path free a (k + 1) c := by
  induction h using Path.ind with
  | nil => exact .snoc .nil h1 h2
  | snoc _ hn hf ih => exact .snoc ih hn hf

structure Lev (free ends : Cl → Bool) (a : Cl) (s : Bs) (lv : Cl → Nat) (m : Nat) : Prop where
  inv : BInv a s
  a0 : lv a = 0
  path : ∀ c ∈ s.q, Path free a (lv c) c
  fst : ∀ c f, s.g c = some f → f ∈ nbrs a.1 a.2 ∧ free f = true ∧ ∃ k, lv c = k + 1 ∧ Path free f k c
  noend : ∀ c ∈ s.q, ends c = false
  mono : ∀ (j k : Nat) (c d : Cl), j ≤ k → s.q[j]? = some c → s.q[k]? = some d → lv c ≤ lv d
  top : ∀ c ∈ s.q, lv c ≤ m + 1
  idx : ∀ (j : Nat) (c : Cl), s.q[j]? = some c → lv c ≤ j

theorem bIn_lev {free ends : Cl → Bool} {a : Cl} {i : Nat} {cur : Cl} (hfa : free a = false) : ∀ (ns : List Cl) (s : Bs) (lv : Cl → Nat), Lev free ends a s lv (lv cur) → s.q[i]? = some cur → (∀ n ∈ ns, n ∈ nbrs cur.1 cur.2) →
    (∀ f, bIn free ends i cur ns s = .inl f → f ∈ nbrs a.1 a.2 ∧ free f = true ∧ ∃ n, ends n = true ∧ Path free f (lv cur) n) ∧
    (∀ s', bIn free ends i cur ns s = .inr s' → ∃ lv', Lev free ends a s' lv' (lv cur) ∧ (∀ c ∈ s.q, lv' c = lv c) ∧ (∃ m, s'.q = s.q ++ m) ∧ ∀ n ∈ ns, free n = true → n ∈ s'.q ∧ lv' n ≤ lv cur + 1)
  | [], s, lv, h, _, _ => by
    unfold bIn
    refine ⟨fun f h => (by cases h), fun s' hs => ?_⟩
    cases hs
    exact ⟨lv, h, fun _ _ => rfl, ⟨[], by simp⟩, fun n hn => absurd hn (by simp)⟩
  | n :: ns, s, lv, h, hi, hns => by
    obtain ⟨l, b1, b2, b3, b4⟩ := h.inv
    have hcur : cur ∈ s.q := List.mem_of_getElem? hi
    have hnn := hns n (by simp)
    have hfst : free n = true → (if 0 < i then (s.g cur).getD (0, 0) else n) ∈ nbrs a.1 a.2 ∧ free (if 0 < i then (s.g cur).getD (0, 0) else n) = true ∧ Path free (if 0 < i then (s.g cur).getD (0, 0) else n) (lv cur) n := by
      intro hf
      by_cases h0 : 0 < i
      · rw [if_pos h0]
        have hl : cur ∈ l := by
          rw [b1] at hi
          obtain ⟨j, rfl⟩ : ∃ j, i = j + 1 := ⟨i - 1, by omega⟩
          exact List.mem_of_getElem? (by simpa using hi)
        obtain ⟨f, hfg⟩ := Option.isSome_iff_exists.1 ((b4 cur).2 hl)
        obtain ⟨p1, p2, k, p3, p4⟩ := h.fst cur f hfg
        rw [hfg, p3]
        exact ⟨p1, p2, .snoc p4 hnn hf⟩
      · rw [if_neg h0]
        have : cur = a := by
          have e : i = 0 := by omega
          subst e
          rw [b1] at hi
          simpa using hi.symm
        subst this
        rw [h.a0]
        exact ⟨hnn, hf, .nil⟩
    unfold bIn
    split
    · rename_i hc
      obtain ⟨ih1, ih2⟩ := bIn_lev hfa (i := i) ns s lv h hi (fun m hm => hns m (by simp [hm]))
      refine ⟨ih1, fun s' hs => ?_⟩
      obtain ⟨lv', q1, q2, q3, q4⟩ := ih2 s' hs
      refine ⟨lv', q1, q2, q3, fun m hm hf => ?_⟩
      rcases List.mem_cons.1 hm with rfl | hm
      · have hs : (s.g m).isSome = true := by
          rw [hf] at hc
          simpa using hc
        have hq : m ∈ s.q := by rw [b1]; exact List.mem_cons_of_mem _ ((b4 m).1 hs)
        obtain ⟨x, hx⟩ := q3
        exact ⟨by rw [hx]; exact List.mem_append_left _ hq, by rw [q2 m hq]; exact h.top m hq⟩
      · exact q4 m hm hf
    · rename_i hc
      have hf : free n = true := by
        cases h : free n with
        | true => rfl
        | false => simp [h] at hc
      have hg : (s.g n).isSome = false := by
        cases h : (s.g n).isSome with
        | false => rfl
        | true => simp [h] at hc
      have hnl : n ∉ l := fun hl => by have := (b4 n).2 hl; rw [hg] at this; cases this
      have hna : n ≠ a := fun e => by rw [e, hfa] at hf; cases hf
      have hnq : n ∉ s.q := by rw [b1]; simp; exact ⟨hna, hnl⟩
      obtain ⟨f1, f2, f3⟩ := hfst hf
      split
      · rename_i he
        refine ⟨fun f hh => ?_, fun s' hh => (by cases hh)⟩
        cases hh
        exact ⟨f1, f2, n, he, f3⟩
      · rename_i he
        have hne : cur ≠ n := fun e => hnq (e ▸ hcur)
        obtain ⟨lv1, hlv⟩ : ∃ x : Cl → Nat, x = fun c => if c = n then lv cur + 1 else lv c := ⟨_, rfl⟩
        have e1 : lv1 n = lv cur + 1 := by rw [hlv]; simp
        have e2 : ∀ c, c ≠ n → lv1 c = lv c := fun c hc => by rw [hlv]; simp [hc]
        have e3 : ∀ c ∈ s.q, lv1 c = lv c := fun c hc => e2 c (fun e => hnq (e ▸ hc))
        have ec : lv1 cur = lv cur := e2 cur hne
        have hlen : i < s.q.length := (List.getElem?_eq_some_iff.1 hi).1
        have L1 : Lev free ends a ⟨s.q ++ [n], fun k => if k = n then some (if 0 < i then (s.g cur).getD (0, 0) else n) else s.g k⟩ lv1 (lv1 cur) := by
          refine ⟨h.inv.add n _ hg (nbrs_on _ _ n hnn), by rw [e2 a (fun e => hna e.symm)]; exact h.a0, ?_, ?_, ?_, ?_, ?_, ?_⟩
          · intro c hc
            rcases List.mem_append.1 hc with hc | hc
            · rw [e3 c hc]; exact h.path c hc
            · simp at hc; subst hc; rw [e1]; exact .snoc (h.path cur hcur) hnn hf
          · intro c f hcf
            dsimp only at hcf
            by_cases e : c = n
            · rw [if_pos e] at hcf
              cases hcf
              subst e
              exact ⟨f1, f2, lv cur, e1, f3⟩
            · rw [if_neg e] at hcf
              rw [e2 c e]
              exact h.fst c f hcf
          · intro c hc
            rcases List.mem_append.1 hc with hc | hc
            · exact h.noend c hc
            · simp at hc; subst hc; simpa using he
          · intro j k c d hjk hj hk
            dsimp only at hj hk
            by_cases hkl : k < s.q.length
            · rw [List.getElem?_append_left hkl] at hk
              rw [List.getElem?_append_left (by omega)] at hj
              rw [e3 c (List.mem_of_getElem? hj), e3 d (List.mem_of_getElem? hk)]
              exact h.mono j k c d hjk hj hk
            · rw [List.getElem?_append_right (by omega)] at hk
              have hd : d = n := by
                have := List.mem_of_getElem? hk
                simpa using this
              rw [hd, e1]
              have hc : c ∈ s.q ++ [n] := List.mem_of_getElem? hj
              rcases List.mem_append.1 hc with hc | hc
              · rw [e3 c hc]; exact h.top c hc
              · simp at hc; subst hc; rw [e1]; exact Nat.le_refl _
          · intro c hc
            rw [ec]
            rcases List.mem_append.1 hc with hc | hc
            · rw [e3 c hc]; exact h.top c hc
            · simp at hc; subst hc; rw [e1]; exact Nat.le_refl _
          · intro j c hj
            dsimp only at hj
            by_cases hjl : j < s.q.length
            · rw [List.getElem?_append_left hjl] at hj
              rw [e3 c (List.mem_of_getElem? hj)]
              exact h.idx j c hj
            · rw [List.getElem?_append_right (by omega)] at hj
              have hd : c = n := by
                have := List.mem_of_getElem? hj
                simpa using this
              rw [hd, e1]
              have := h.idx i cur hi
              omega
        obtain ⟨ih1, ih2⟩ := bIn_lev hfa (i := i) (cur := cur) ns _ lv1 L1 (by dsimp only; rw [List.getElem?_append_left hlen]; exact hi) (fun m hm => hns m (by simp [hm]))
        rw [ec] at ih1 ih2
        refine ⟨ih1, fun s' hs => ?_⟩
        obtain ⟨lv', q1, q2, ⟨x, hx⟩, q4⟩ := ih2 s' hs
        dsimp only at q2 hx
        refine ⟨lv', q1, fun c hc => by rw [q2 c (List.mem_append_left _ hc), e3 c hc], ⟨n :: x, by rw [hx]; simp⟩, fun m hm hfm => ?_⟩
        rcases List.mem_cons.1 hm with rfl | hm
        · exact ⟨by rw [hx]; simp, by rw [q2 m (by simp), e1]; exact Nat.le_refl _⟩
        · exact q4 m hm hfm

/-- Where all of a queue has been asked. -/
theorem lev_all {free ends : Cl → Bool} {a : Cl} {i : Nat} {s : Bs} {lv : Cl → Nat} {m : Nat} (h : Lev free ends a s lv m) (hex : ∀ j c, j < i → s.q[j]? = some c → ∀ n ∈ nbrs c.1 c.2, free n = true → n ∈ s.q ∧ lv n ≤ lv c + 1) {k : Nat} {c : Cl} (hp : Path free a k c) :
    (c ∈ s.q ∧ lv c ≤ k) ∨ ∃ j d, i ≤ j ∧ s.q[j]? = some d ∧ lv d + 1 ≤ k := by
  induction hp using Path.ind with
  | nil =>
    obtain ⟨l, b1, _⟩ := h.inv
    exact Or.inl ⟨by rw [b1]; simp, by rw [h.a0]; exact Nat.le_refl _⟩
  | snoc hp hn hf ih =>
    rename_i k c n
    rcases ih with ⟨hc, hl⟩ | ⟨j, d, h1, h2, h3⟩
    · obtain ⟨j, hj⟩ := List.getElem?_of_mem hc
      by_cases hji : j < i
      · obtain ⟨p1, p2⟩ := hex j c hji hj n hn hf
        exact Or.inl ⟨p1, by omega⟩
      · exact Or.inr ⟨j, c, by omega, hj, by omega⟩
    · exact Or.inr ⟨j, d, h1, h2, by omega⟩

theorem lev_len {free ends : Cl → Bool} {a : Cl} {s : Bs} {lv : Cl → Nat} {m : Nat} (h : Lev free ends a s lv m) (ha : onB a.1 a.2 = true) : s.q.length ≤ 144 := by
  obtain ⟨l, h1, h2, h3, h4⟩ := h.inv
  have hal : a ∉ l := fun hl => by
    obtain ⟨f, hf⟩ := Option.isSome_iff_exists.1 ((h4 a).2 hl)
    obtain ⟨_, _, k, hk, _⟩ := h.fst a f hf
    rw [h.a0] at hk
    omega
  have hon := h.inv.on ha
  have hnd : s.q.Nodup := by rw [h1, List.nodup_cons]; exact ⟨hal, h2⟩
  have : (s.q.map (fun c => ci c.1 c.2)).length ≤ 144 := by
    apply nodup_lt_len
    · rw [List.Nodup, List.pairwise_map]
      apply List.Pairwise.imp_of_mem _ hnd
      intro c d hc hd hne e
      apply hne
      have h5 := onB_iff.1 (hon c hc)
      have h6 := onB_iff.1 (hon d hd)
      unfold ci at e
      apply Prod.ext <;> omega
    · intro x hx
      obtain ⟨c, hc, rfl⟩ := List.mem_map.1 hx
      exact ci_lt (hon c hc)
  simpa using this

def Found (free ends : Cl → Bool) (a r : Cl) : Prop :=
  (r ∈ nbrs a.1 a.2 ∧ free r = true ∧ ∃ k n, k ≤ 143 ∧ ends n = true ∧ Path free r k n ∧ ∀ j m, ends m = true → Path free a j m → k + 1 ≤ j) ∨ (r = a ∧ ∀ j m, ends m = true → ¬ Path free a j m)
theorem bOut_lev {free ends : Cl → Bool} {a : Cl} (hfa : free a = false) (ha : onB a.1 a.2 = true) : ∀ (fuel i : Nat) (s : Bs) (lv : Cl → Nat) (m : Nat), fuel + i = 146 → Lev free ends a s lv m → (∀ c, s.q[i]? = some c → m ≤ lv c) →
    (∀ j c, j < i → s.q[j]? = some c → ∀ n ∈ nbrs c.1 c.2, free n = true → n ∈ s.q ∧ lv n ≤ lv c + 1) → Found free ends a (bOut free ends a fuel i s)
  | 0, i, s, lv, m, hfu, h, _, hex => by
    unfold bOut
    refine Or.inr ⟨rfl, fun j n hn hp => ?_⟩
    have hl := lev_len h ha
    rcases lev_all h hex hp with ⟨h1, _⟩ | ⟨k, d, h1, h2, _⟩
    · rw [h.noend n h1] at hn; cases hn
    · have := (List.getElem?_eq_some_iff.1 h2).1
      omega
  | fuel + 1, i, s, lv, m, hfu, h, hm, hex => by
    unfold bOut
    cases hq : s.q[i]? with
    | none =>
      refine Or.inr ⟨rfl, fun j n hn hp => ?_⟩
      rcases lev_all h hex hp with ⟨h1, _⟩ | ⟨k, d, h1, h2, _⟩
      · rw [h.noend n h1] at hn; cases hn
      · have h3 := (List.getElem?_eq_some_iff.1 h2).1
        have h4 := List.getElem?_eq_none_iff.1 hq
        omega
    | some cur =>
      dsimp only
      have h' : Lev free ends a s lv (lv cur) := { h with top := fun c hc => Nat.le_trans (h.top c hc) (by have := hm cur hq; omega) }
      obtain ⟨r1, r2⟩ := bIn_lev hfa (i := i) (cur := cur) (nbrs cur.1 cur.2) s lv h' hq (fun _ hn => hn)
      cases hr : bIn free ends i cur (nbrs cur.1 cur.2) s with
      | inl f =>
        obtain ⟨g1, g2, n, g3, g4⟩ := r1 f hr
        have hl := lev_len h ha
        have hil := (List.getElem?_eq_some_iff.1 hq).1
        have hii := h.idx i cur hq
        refine Or.inl ⟨g1, g2, lv cur, n, by omega, g3, g4, fun j x hx hp => ?_⟩
        rcases lev_all h hex hp with ⟨h1, _⟩ | ⟨k, d, h1, h2, h3⟩
        · rw [h.noend x h1] at hx; cases hx
        · have := h.mono i k cur d h1 hq h2
          omega
      | inr s' =>
        dsimp only
        obtain ⟨lv', q1, q2, ⟨x, hx⟩, q4⟩ := r2 s' hr
        have hil := (List.getElem?_eq_some_iff.1 hq).1
        have hcur : cur ∈ s.q := List.mem_of_getElem? hq
        have hq' : s'.q[i]? = some cur := by rw [hx, List.getElem?_append_left hil]; exact hq
        refine bOut_lev hfa ha fuel (i + 1) s' lv' (lv cur) (by omega) q1 (fun c hc => ?_) ?_
        · have := q1.mono i (i + 1) cur c (by omega) hq' hc
          rw [q2 cur hcur] at this
          exact this
        · intro j c hj hc n hn hf
          rw [hx, List.getElem?_append_left (by omega)] at hc
          by_cases e : j = i
          · subst e
            rw [hq] at hc
            cases hc
            rw [q2 cur hcur]
            exact q4 n hn hf
          · obtain ⟨p1, p2⟩ := hex j c (by omega) hc n hn hf
            rw [q2 c (List.mem_of_getElem? hc), q2 n p1]
            exact ⟨by rw [hx]; exact List.mem_append_left _ p1, p2⟩
theorem bfs_short {free ends : Cl → Bool} {a : Cl} (hfa : free a = false) (ha : onB a.1 a.2 = true) (hea : ends a = false) : Found free ends a (bfs free ends a) := by
  unfold bfs
  refine bOut_lev hfa ha 146 0 _ (fun _ => 0) 0 rfl ⟨BInv.start a, rfl, ?_, ?_, ?_, ?_, ?_, ?_⟩ (fun _ _ => Nat.le_refl _) (fun j _ hj => by omega)
  · intro c hc; simp at hc; subst hc; exact .nil
  · intro c f h; cases h
  · intro c hc; simp at hc; subst hc; exact hea
  · intro j k c d _ _ _; exact Nat.le_refl _
  · intro c _; omega
  · intro j c _; omega
end Go.Proofs.YtapabahhfanmmaaDoor
