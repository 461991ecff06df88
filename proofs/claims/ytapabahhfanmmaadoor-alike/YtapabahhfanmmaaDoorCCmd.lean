import Derived.Test.YtapabahhfanmmaaDoorCTakeB
import Derived.Test.YtapabahhfanmmaaDoorCAdd
/- A player's commands. -/
namespace Go.Proofs.YtapabahhfanmmaaDoor
open Go.RowKit

/-- A list of commands in memory. -/
def Cmds (w : World) (b : Nat) (l : List Cm) : Prop := ∀ (i : Nat) (h : i < l.length), w.rangeAt b (i * 5) (l[i]'h).cells
theorem Cmds.fr {S : List Nat} {w w' : World} {b : Nat} {l : List Cm} (h : Cmds w b l) (hf : Fr S w w') (hn : b ∉ S) : Cmds w' b l := fun i hi j v hv => by
  have h1 := h i hi j v hv
  rw [hf.cell b _ (lt_of_cell h1) hn]; exact h1
theorem Cmds.at {w : World} {b k : Nat} {l : List Cm} {c : Cm} (h : Cmds w b l) (hk : l[k]? = some c) :
    w.cell? ⟨b, k * 5, none⟩ = some (ii c.unit) ∧ w.cell? ⟨b, k * 5 + 1, none⟩ = some (ii c.what) ∧ w.cell? ⟨b, k * 5 + 2, none⟩ = some (ii c.x) ∧ w.cell? ⟨b, k * 5 + 3, none⟩ = some (ii c.y) ∧ w.cell? ⟨b, k * 5 + 4, none⟩ = some (ii c.target) := by
  obtain ⟨hl, rfl⟩ := List.getElem?_eq_some_iff.1 hk
  have h1 := h k hl
  exact ⟨h1 0 _ rfl, h1 1 _ rfl, h1 2 _ rfl, h1 3 _ rfl, h1 4 _ rfl⟩
abbrev ints (l : List Nat) : List Value := l.map fun (n : Nat) => ii (n : Int)
theorem infoI : (Tryd.prog.info? 3).map (fun i => (i.zero, i.size, i.bytes)) = some (some (ii 0), 1, 8) := by kernel_rfl
theorem own_base {w : World} {base n : Nat} {e : TypeId} {size : Nat} {v : Value} {xs : List Value} (h : w.ownsRow base e size v n xs) {b : Nat} (hb : v.ownBlock = some b) : base ≤ b := by
  rcases h.2 with ⟨h1, _⟩ | ⟨g, cap, cur, rfl, h1, _⟩
  · rw [h1] at hb; simp [Value.ownBlock] at hb
  · simp [Value.ownBlock] at hb; omega
theorem cmdAll_cons (p : Int) (k : Nat) (c : Cm) (l : List Cm) (t : T) : cmdAll p k (c :: l) t = (if (takeT t p c).1 = true then (cmdAll p (k + 1) l (takeT t p c).2).1 else k :: (cmdAll p (k + 1) l (takeT t p c).2).1, (cmdAll p (k + 1) l (takeT t p c).2).2) := rfl

structure CmdI (w : World) (tb pb cap hb bb : Nat) (p : Int) (t : T) (l : List Cm) (k : Nat) (v : Value) (wr : World) : Prop where
  ex : ∃ t' rs, TS wr tb pb cap hb bb t' ∧ TOk t' ∧ rs.length ≤ k ∧ wr.ownsRow w.heap.size 3 1 v rs.length (ints rs) ∧ (rs ++ (cmdAll p k (l.drop k) t').1, (cmdAll p k (l.drop k) t').2) = cmdAll p 0 l t
  fr : Fr [pb] w wr

set_option maxRecDepth 100000 in
set_option maxHeartbeats 2000000 in
theorem command_any (tb pb cap hb bb lb lc : Nat) (t : T) (p : Int) (l : List Cm) (w : World) (h : TS w tb pb cap hb bb t) (hok : TOk t) (hl : Cmds w lb l) (hlb : lb < w.heap.size) (hlp : lb ≠ pb) (hlen : l.length ≤ 1000) :
    Calls Tryd.prog 33 #[.pointer (some ⟨tb, 0, none⟩), .int .i64 p, .slice (some ⟨lb, 0, none⟩) l.length lc] w fun e w' =>
      ∃ v, e = .returned v ∧ Fr [pb] w w' ∧ TS w' tb pb cap hb bb (cmdAll p 0 l t).2 ∧ w'.ownsRow w.heap.size 3 1 v (cmdAll p 0 l t).1.length (ints (cmdAll p 0 l t).1) := by
  obtain ⟨inf, hi0, hz0, hz1, hz2⟩ := info_parts infoI
  have hpl := h.row.lt
  go_enter Tryd.func33, Tryd.ntmps33
  go_wp2_with fail
  go_loopw [7, 12] (fun v i wr => ∃ k : Nat, k ≤ l.length ∧ i = .int .i64 k ∧ CmdI w tb pb cap hb bb p t l k v wr) (fun _ i _ => l.length - (intOf i).toNat)
  case atStart => exact ⟨0, Nat.zero_le _, rfl, ⟨t, [], h, hok, Nat.le_refl _, ⟨rfl, Or.inl ⟨rfl, rfl⟩⟩, by simp⟩, Fr.refl _ _⟩
  case round =>
    obtain ⟨k, hk, rfl, hI⟩ := hrel
    obtain ⟨⟨t', rs, ht, hok', hrl, hown, hall⟩, hfr⟩ := hI
    by_cases hlt : k < l.length
    · obtain ⟨c, hc⟩ : ∃ c, l[k]? = some c := ⟨l[k], List.getElem?_eq_getElem hlt⟩
      have hdrop : l.drop k = c :: l.drop (k + 1) := by
        rw [List.drop_eq_getElem_cons hlt]
        congr 1
        rw [List.getElem?_eq_getElem hlt] at hc
        exact Option.some.inj hc
      rw [hdrop, cmdAll_cons] at hall
      obtain ⟨c0, c1, c2, c3, c4⟩ := (hl.fr hfr (by simp; exact hlp)).at hc
      have htake := take_any tb pb cap hb bb t' p c (wr.alloc (.cells #[ii c.unit, ii c.what, ii c.x, ii c.y, ii c.target] 47)) (ht.fr0 ((Fr.refl _ _).alloc _)) hok'
      have hgood := (take_ok hok' p c (fun _ => True)).1.ok
      have hlbl : lb < wr.heap.size := Nat.lt_of_lt_of_le hlb hfr.size
      obtain ⟨B, hB⟩ : ∃ B, (takeT t' p c).1 = B := ⟨_, rfl⟩
      obtain ⟨t2, ht2⟩ : ∃ x, (takeT t' p c).2 = x := ⟨_, rfl⟩
      rw [hB, ht2] at htake hall
      rw [ht2] at hgood
      have HT := (show Hid _ from htake)
      have HO := (show Hid _ from hown)
      have HALL := (show Hid _ from hall)
      have HF := (show Hid _ from hfr)
      clear ht hall hdrop hc hfr htake hB ht2 hown hok' hl
      have hwr := HF.out.size
      have HN : Hid (∀ (W : World) (j : Nat) (u : Value), [ii (k : Int)][j]? = some u → (W.alloc (.cells #[.int .i64 k] 3)).cell? ((⟨W.heap.size, 0, none⟩ : Addr).add j) = some u) := by
        intro W j u hu
        have hj : j = 0 := by
          have := (List.getElem?_eq_some_iff.1 hu).1
          simp at this
          exact this
        subst hj
        rw [Addr.add_lit, cell_of_heap (hp_new W _)]
        simpa using hu
      have hb1 : ∀ b, u7.ownBlock = some b → w.heap.size ≤ b := fun b hb => own_base HO.out hb
      have HB1 := (show Hid _ from hb1)
      have HOW : Hid (∀ w2, Fr [pb] (wr.alloc (.cells #[ii c.unit, ii c.what, ii c.x, ii c.y, ii c.target] 47)) w2 → (w2.alloc (.cells #[.int .i64 k] 3)).ownsRow w.heap.size 3 1 u7 rs.length (ints rs)) := fun w2 hf => owns_fr (owns_fr (owns_fr HO.out ((Fr.refl [] wr).alloc _) (by simp)) hf (fun b hb => by have := hb1 b hb; simp; omega)) ((Fr.refl [] w2).alloc _) (by simp)
      clear hb1
      cases B
      · go_wp2_with (first | (go_at_call 45; refine Calls.mono HT.out ?_; rintro e w2 ⟨rfl, hf2, hts2⟩) | (at_builtin; refine wpList_append_own _ rfl _ _ 22 rfl w.heap.size 3 inf (ii 0) 1 8 Tryd.underlying22 hi0 hz0 hz1 hz2 rfl (by decide) u7 rs.length (ints rs) rfl (HOW.out _ hf2) ⟨w2.heap.size, 0, none⟩ 1 1 [ii (k : Int)] rfl rfl (HN.out w2) (by simp [Value.oneCell']) (by unfold maxLen; omega) (by omega) (by have := hf2.size; simp at this ⊢; omega) ?_; intro v' w3 hown3 hgrow hnil3))
        have hf3 : Fr u7.ownBlock.toList w2 w3 := ((Fr.refl _ _).alloc _).grow hgrow (fun g hg => Or.inl (by simp [hg]))
        have hw2 : Fr [pb] w w2 := (HF.out.alloc _).trans hf2 (by simp)
        have hw3 : Fr [pb] w w3 := hw2.trans hf3 (fun b hb => Or.inr (HB1.out b (by simpa using hb)))
        have htl := h.lt
        have hhl := h.held.lt
        have hbl := h.ways.lt
        have hno : ∀ b, b < w.heap.size → b ∉ u7.ownBlock.toList := fun b hb hm => by
          have := HB1.out b (by simpa using hm)
          omega
        go_roundw
        case rel =>
          refine ⟨k + 1, hlt, by go_num, ⟨t2, rs ++ [k], hts2.fr hf3 (hno _ htl) (hno _ hpl) (hno _ hhl) (hno _ hbl), hgood, by simp; omega, ?_, ?_⟩, hw3⟩
          · simpa using hown3
          · have := HALL.out
            simpa using this
        case measure => simp [intOf]; omega
      · go_wp2_with (first | (go_at_call 45; refine Calls.mono HT.out ?_; rintro e w2 ⟨rfl, hf2, hts2⟩))
        have hw2 : Fr [pb] w w2 := (HF.out.alloc _).trans hf2 (by simp)
        go_roundw
        case rel =>
          refine ⟨k + 1, hlt, by go_num, ⟨t2, rs, hts2, hgood, by omega, ?_, ?_⟩, hw2⟩
          · exact owns_fr (owns_fr HO.out ((Fr.refl [] wr).alloc _) (by simp)) hf2 (fun b hb => by have := HB1.out b hb; simp; omega)
          · have := HALL.out
            simpa using this
        case measure => simp [intOf]; omega
    · have hall' := hall
      rw [List.drop_of_length_le (by omega)] at hall'
      go_wp2_with fail
      go_ret
      have hall2 : (rs, t') = cmdAll p 0 l t := by simpa [cmdAll] using hall'
      refine ⟨u7, rfl, hfr, ?_, ?_⟩
      · rw [← hall2]; exact ht
      · rw [← hall2]; exact hown
end Go.Proofs.YtapabahhfanmmaaDoor
