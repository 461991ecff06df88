import Derived.Test.YtapabahhfanmmaaGreatDoorCBookL
import Derived.Test.YtapabahhfanmmaaGreatDoorCDelete
import Derived.Test.YtapabahhfanmmaaGreatDoorCRefD
import Derived.Test.YtapabahhfanmmaaGreatDoorCOrds
import Derived.Test.YtapabahhfanmmaaGreatDoorCBookU
namespace Go.Proofs.YtapabahhfanmmaaGreatDoor
open Go.RowKit
structure Gm (w : World) (g : Value) (L : List Nat) (t : T) : Prop where
 ex : ∃ sb gb pb cap rb qb cap2, g = .pointer (some ⟨sb, 0, none⟩) ∧ L = [sb, gb, pb, rb, qb] ∧ w.cell? ⟨sb, 0, none⟩ = some (.pointer (some ⟨gb, 0, none⟩)) ∧ w.cell? ⟨sb, 1, none⟩ = some (.pointer (some ⟨rb, 0, none⟩)) ∧ GS w gb pb cap t ∧ RG w rb qb cap2 t
 nd : L.Nodup
 ok : GOk t
 os : OS t
 tn : 0 ≤ t.turn
theorem Gm.lt {w : World} {g : Value} {L : List Nat} {t : T} (h : Gm w g L t) : ∀ b ∈ L, b < w.heap.size := by
 obtain ⟨sb, gb, pb, cap, rb, qb, cap2, _, rfl, h3, h4, h5, h6⟩ := h.ex
 intro b hb
 simp only [List.mem_cons, List.not_mem_nil, or_false] at hb
 rcases hb with rfl | rfl | rfl | rfl | rfl
 ·exact lt_of_cell h3
 ·exact h5.lt
 ·exact h5.row.lt
 ·exact h6.lt
 ·exact h6.row.lt
theorem Gm.fr {S : List Nat} {w w' : World} {g : Value} {L : List Nat} {t : T} (h : Gm w g L t) (hf : Fr S w w') (hs : ∀ b ∈ L, b ∉ S) : Gm w' g L t := by
 have hlt := h.lt
 obtain ⟨⟨sb, gb, pb, cap, rb, qb, cap2, h1, rfl, h3, h4, h5, h6⟩, hnd, hok, hos, htn⟩ := h
 refine ⟨⟨sb, gb, pb, cap, rb, qb, cap2, h1, rfl, ?_, ?_, h5.fr hf (hs gb (by simp)) (hs pb (by simp)), h6.fr hf (hs rb (by simp)) (hs qb (by simp))⟩, hnd, hok, hos, htn⟩
 ·rw [hf.cell sb 0 (hlt sb (by simp)) (hs sb (by simp))]; exact h3
 ·rw [hf.cell sb 1 (hlt sb (by simp)) (hs sb (by simp))]; exact h4
theorem Gm.fr0 {w w' : World} {g : Value} {L : List Nat} {t : T} (h : Gm w g L t) (hf : Fr [] w w') : Gm w' g L t := h.fr hf (by simp)
structure SR (w : World) (bb : Nat) (L K : List Nat) (N : Nat) (tn : Int) (g' : Value) (w' : World) : Prop where
  ex : ∃ L' t' K', Gm w' g' L' t' ∧ Bk w' bb K' (N + 1) ∧ (∀ x ∈ L', x ∈ L ∨ w.heap.size ≤ x) ∧ (∀ x ∈ K', x ∈ K ∨ w.heap.size ≤ x) ∧ (∀ x ∈ L', x ≠ bb ∧ x ∉ K') ∧ t'.turn ≤ tn + 1
  fr : Fr (bb :: (L ++ K)) w w'
structure PI (w0 : World) (bb N : Nat) (g h : Value) (wr : World) : Prop where
  ex : ∃ L1 L2 t1 t2 K, Gm wr g L1 t1 ∧ Gm wr h L2 t2 ∧ Bk wr bb K N ∧ (∀ x ∈ L1, x ∉ L2) ∧ (∀ x ∈ L1, x ≠ bb ∧ x ∉ K) ∧ (∀ x ∈ L2, x ≠ bb ∧ x ∉ K) ∧ t1.turn ≤ N ∧ t2.turn ≤ N ∧ (∀ x ∈ L1, w0.heap.size ≤ x) ∧ (∀ x ∈ L2, w0.heap.size ≤ x) ∧ (∀ x ∈ K, w0.heap.size ≤ x) ∧ w0.heap.size ≤ bb
  fr : Fr [] w0 wr
theorem PI.swap {w0 : World} {bb N : Nat} {g h : Value} {wr : World} (H : PI w0 bb N g h wr) : PI w0 bb N h g wr := by
  obtain ⟨⟨L1, L2, t1, t2, K, a, b, c, d, e, f, i, j, k, l, m, n⟩, hf⟩ := H
  exact ⟨⟨L2, L1, t2, t1, K, b, a, c, fun x h1 h2 => d x h2 h1, f, e, j, i, l, k, m, n⟩, hf⟩
theorem PI.more {w0 : World} {bb N M : Nat} {g h : Value} {wr : World} (H : PI w0 bb N g h wr) (hm : N ≤ M) : PI w0 bb M g h wr := by
  obtain ⟨⟨L1, L2, t1, t2, K, a, b, c, d, e, f, i, j, k, l, m, n⟩, hf⟩ := H
  exact ⟨⟨L1, L2, t1, t2, K, a, b, c.more hm, d, e, f, by omega, by omega, k, l, m, n⟩, hf⟩
theorem PI.then0 {w0 : World} {bb N : Nat} {g h : Value} {wr w' : World} (H : PI w0 bb N g h wr) (h2 : Fr [] wr w') : PI w0 bb N g h w' := by
  obtain ⟨⟨L1, L2, t1, t2, K, a, b, c, d, e, f, r⟩, hf⟩ := H
  exact ⟨⟨L1, L2, t1, t2, K, a.fr0 h2, b.fr0 h2, c.fr0 h2, d, e, f, r⟩, hf.then0 h2⟩
theorem PI.step {w0 : World} {bb N : Nat} {g h g' : Value} {wr w' : World} (H : PI w0 bb N g h wr) (HS : ∀ L t K, Gm wr g L t → Bk wr bb K N → (∀ x ∈ L, x ≠ bb ∧ x ∉ K) → t.turn ≤ N → SR wr bb L K N N g' w') : PI w0 bb (N + 1) g' h w' := by
 obtain ⟨⟨L1, L2, t1, t2, K, a, b, c, d, e, f, i, j, k, l, m, n⟩, hf⟩ := H
 obtain ⟨⟨L', t', K', q1, q2, q3, q4, q5, q6⟩, hf2⟩ := HS L1 t1 K a c e i
 have hs := hf.size
 have h2 := b.lt
 have h2n : ∀ x ∈ L2, x ∉ bb :: (L1 ++ K) := fun x hx hm => by
  rcases List.mem_cons.1 hm with h1 | h1
  ·exact (f x hx).1 h1
  ·rcases List.mem_append.1 h1 with h1 | h1
   ·exact d x h1 hx
   ·exact (f x hx).2 h1
 refine ⟨⟨L', L2, t', t2, K', q1, b.fr hf2 h2n, q2, fun x hx h2x => ?_, q5, fun x hx => ⟨(f x hx).1, fun hk => ?_⟩, by omega, by omega, fun x hx => ?_, l, fun x hx => ?_, n⟩, ?_⟩
 ·rcases q3 x hx with h1 | h1
  ·exact d x h1 h2x
  ·have := h2 x h2x; omega
 ·rcases q4 x hk with h1 | h1
  ·exact (f x hx).2 h1
  ·have := h2 x hx; omega
 ·rcases q3 x hx with h1 | h1
  ·exact k x h1
  ·omega
 ·rcases q4 x hx with h1 | h1
  ·exact m x h1
  ·omega
 ·refine hf.trans hf2 (fun x hx => Or.inr ?_)
  rcases List.mem_cons.1 hx with rfl | h1
  ·exact n
  ·rcases List.mem_append.1 h1 with h1 | h1
   ·exact k x h1
   ·exact m x h1
theorem SR.same {w w' : World} {bb N : Nat} {L K : List Nat} {tn : Int} {g : Value} {t : T} (h : Gm w g L t) (hb : Bk w bb K N) (ha : ∀ x ∈ L, x ≠ bb ∧ x ∉ K) (ht : t.turn ≤ tn) (hf : Fr [] w w') : SR w bb L K N tn g w' :=
  ⟨⟨L, t, K, h.fr0 hf, (hb.fr0 hf).more (by omega), fun x hx => Or.inl hx, fun x hx => Or.inl hx, ha, by omega⟩, hf.of0⟩
theorem SR.new {w w' : World} {bb N : Nat} {L K L' : List Nat} {tn : Int} {g' : Value} {t' : T} (hb : Bk w bb K N) (h : Gm w' g' L' t') (hn : ∀ x ∈ L', w.heap.size ≤ x) (ht : t'.turn ≤ tn + 1) (hf : Fr [] w w') : SR w bb L K N tn g' w' :=
  ⟨⟨L', t', K, h, (hb.fr0 hf).more (by omega), fun x hx => Or.inr (hn x hx), fun x hx => Or.inl hx, fun x hx => ⟨by have := hn x hx; have := hb.lt; omega, fun e => by have := hn x hx; have := hb.kl x e; omega⟩, ht⟩, hf.of0⟩
theorem unit_eql (u : U) (w : World) : (binOp BinOp.eql 85 u.val u.val).run Tryz.prog w = .ok (.bool true) w := by
  simp [go_sem]
theorem SR.owned {w w2 w3 : World} {bb N : Nat} {L K D : List Nat} {tn : Int} {g : Value} {t : T} (hG : Gm w g L t) (hA : ∀ x ∈ L, x ≠ bb ∧ x ∉ K) (ht : t.turn ≤ tn) (hf : Fr [] w w2) (hO : OwnP w2 bb N K D w3) (hD : ∀ x ∈ D, w.heap.size ≤ x) : SR w bb L K N tn g w3 := by
 have hlt := hG.lt
 obtain ⟨⟨K', hK1, hK2⟩, hF⟩ := hO
 have hs := hf.size
 have hn : ∀ x ∈ L, x ∉ bb :: (K ++ D) := fun x hx hm => by
  rcases List.mem_cons.1 hm with q | q
  ·exact (hA x hx).1 q
  ·rcases List.mem_append.1 q with q | q
   ·exact (hA x hx).2 q
   ·have := hD x q; have := hlt x hx; omega
 refine ⟨⟨L, t, K', (hG.fr0 hf).fr hF hn, hK1, fun x hx => Or.inl hx, fun x hx => ?_, fun x hx => ⟨(hA x hx).1, fun hm => ?_⟩, by omega⟩, (hf.of0 (S := bb :: (L ++ K))).trans hF (fun b hb => ?_)⟩
 ·rcases hK2 x hx with q | q | q
  ·exact Or.inl q
  ·exact Or.inr (hD x q)
  ·exact Or.inr (by omega)
 ·rcases hK2 x hm with q | q | q
  ·exact (hA x hx).2 q
  ·have := hD x q; have := hlt x hx; omega
  ·have := hlt x hx; omega
 ·rcases List.mem_cons.1 hb with q | q
  ·exact Or.inl (by simp [q])
  ·rcases List.mem_append.1 q with q | q
   ·exact Or.inl (by simp [q])
   ·exact Or.inr (hD b q)
theorem SR.after {w w2 w3 : World} {bb N : Nat} {L K : List Nat} {tn : Int} {g : Value} (h : SR w bb L K N tn g w2) (hf : Fr [] w2 w3) : SR w bb L K N tn g w3 := by
  obtain ⟨⟨L', t', K', q1, q2, q3, q4, q5, q6⟩, hF⟩ := h
  exact ⟨⟨L', t', K', q1.fr0 hf, q2.fr0 hf, q3, q4, q5, q6⟩, hF.then0 hf⟩
set_option maxRecDepth 100000 in
set_option maxHeartbeats 1000000 in
theorem folkG_any (g : Value) (L K : List Nat) (t : T) (bb N : Nat) (w : World) (hG : Gm w g L t) (hB : Bk w bb K N) (hA : ∀ x ∈ L, x ≠ bb ∧ x ∉ K) (hN : N ≤ 2000000) :
  Calls Tryz.prog 56 #[g, .pointer (some ⟨bb, 0, none⟩)] w fun e w' => e = .returned (.bool true) ∧ SR w bb L K N t.turn g w' := by
 have HG := (show Hid _ from hG)
 have HB := (show Hid _ from hB)
 have HA := (show Hid _ from hA)
 have hbl := hB.lt
 have HKL := (show Hid _ from hB.kl)
 have hul : t.us.length ≤ 100 := hG.ok.len
 have hlt := hG.lt
 obtain ⟨⟨sb, gb, pb, cap, rb, qb, cap2, rfl, rfl, hx, hy, hgs, hrg⟩, _⟩ := hG
 have hsl := hlt sb (by simp)
 have hrl := hlt rb (by simp)
 have hql := hlt qb (by simp)
 have C1 := people_any gb pb cap t w hgs
 have HRG := (show Hid _ from hrg)
 clear hgs hrg hB hA hlt
 go_enter Tryz.func56, Tryz.ntmps56
 go_wp2_with fail
 refine Calls.mono C1 ?_
 rintro e w1 ⟨lb, lc, rfl, hlb, hrow, hf1⟩
 dsimp only
 have hs1 := hf1.size
 obtain ⟨us, hus⟩ : ∃ us, t.us = us := ⟨_, rfl⟩
 have hrg1 := HRG.out.fr0 hf1
 have HC : Hid (∀ W, Fr [] w1 W → W.cell? ⟨sb, 1, none⟩ = some (.pointer (some ⟨rb, 0, none⟩)) ∧ W.cell? ⟨rb, 148, none⟩ = some (.slice (some ⟨qb, 0, none⟩) us.length cap2) ∧ PRow W lb lc us ∧ PRow W qb cap2 us) := fun W hf => by
  have h1 := hrg1.fr0 hf
  have h2 := h1.c148
  have h3 := h1.row
  rw [hus] at h2 h3
  refine ⟨((hf1.then0 hf).cell sb 1 hsl (by simp)).trans hy, h2, ?_, h3⟩
  rw [← hus]
  exact hrow.fr hf (by simp)
 rw [hus] at hul hrow ⊢
 have HUS := (show Hid _ from hus)
 have HROW := (show Hid _ from hrow)
 obtain ⟨k1, k2, _, _⟩ := HC.out w1 (Fr.refl _ _)
 clear C1 hrg1 hus hrow hx hy
 go_wp2_with fail
 clear k1 k2
 go_loopw [6, 7] (fun s i wr => s = .bool true ∧ ∃ k : Nat, k ≤ us.length ∧ i = .int .i64 k ∧ Fr [] w1 wr) (fun _ i _ => us.length - (intOf i).toNat)
 case atStart => exact ⟨rfl, 0, Nat.zero_le _, rfl, Fr.refl _ _⟩
 case round =>
  obtain ⟨rfl, k, hk, rfl, hf⟩ := hrel
  by_cases hlt : k < us.length
  ·have hlti : (k : Int) < (us.length : Int) := by omega
   obtain ⟨k1, k2, k3, k4⟩ := HC.out wr hf
   obtain ⟨u, hu⟩ : ∃ u, us[k]? = some u := ⟨us[k], List.getElem?_eq_getElem hlt⟩
   obtain ⟨c0, c1, c2, c3, c4, c5, c6, c7, c8, c9, c10⟩ := k3.ppl.at hu
   obtain ⟨d0, d1, d2, d3, d4, d5, d6, d7, d8, d9, d10⟩ := k4.ppl.at hu
   have heq := unit_eql u
   clear k3 k4 hu
   go_wp2_with fail
   go_quiet (fail)
   go_wp2_with fail
   go_roundw
   case rel => exact ⟨rfl, k + 1, hlt, by go_num, hf.drewN _⟩
   case measure => simp [intOf]; omega
  ·have hlti : ¬ (k : Int) < (us.length : Int) := by omega
   have C2 := ownsPeople_any bb N lb lc w.heap.size K us wr ((HB.out.fr0 hf1).fr0 hf) hN (HC.out wr hf).2.2.1 (by omega) hlb hbl HKL.out
   have HC2 := (show Hid (Calls Tryz.prog 100 #[.pointer (some ⟨bb, 0, none⟩), .slice (some ⟨lb, 0, none⟩) us.length lc] wr fun e w' => e = .returned (.tuple #[]) ∧ OwnP wr bb N K [lb] w') from C2)
   clear C2
   go_wp2_with (go_at_call 100; refine Calls.mono HC2.out ?_; rintro e w3 ⟨rfl, hown⟩; have HOWN := (show Hid _ from hown); clear hown)
   go_ret
   exact ⟨rfl, SR.owned HG.out HA.out (Int.le_refl _) (hf1.then0 hf) HOWN.out (by simp; exact hlb)⟩
end Go.Proofs.YtapabahhfanmmaaGreatDoor
