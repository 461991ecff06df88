import Derived.Test.YtapabahhfanmmaaDoorCRowset
/- Harming somebody. -/
namespace Go.Proofs.YtapabahhfanmmaaDoor
open Go.RowKit

theorem take_set_le {α : Type} : ∀ (l : List α) (o n : Nat) (v : α), n ≤ o → (l.set o v).take n = l.take n
  | [], _, _, _, _ => by simp
  | _ :: _, _, 0, _, _ => by simp
  | a :: l, o + 1, n + 1, v, h => by simp [take_set_le l o n v (by omega)]
theorem tcell_pv (t : T) (p q : Value) (hb bb k : Nat) (hk : k ≠ 148) : tcell t p hb bb k = tcell t q hb bb k := by
  unfold tcell
  simp [hk]
theorem MapF.of_eq {w : World} {r : Nat} {f g : Int × Int → Option Value} (h : MapF w r f) (e : ∀ k, f k = g k) : MapF w r g := by
  have : f = g := funext e
  rw [← this]; exact h
def T.harm (t : T) (i : Nat) : T :=
  match t.us[i]? with
  | none => t
  | some u => if u.life - 3 ≤ 0 then { t with us := t.us.eraseIdx i, held := fun k => if k = (u.x, u.y) then none else t.held k } else { t with us := t.us.set i { u with life := u.life - 3 } }

theorem delete_any' (pb cap i : Nat) (us : List U) (w : World) (hp : PRow w pb cap us) (hlen : us.length ≤ 1000) (hi : i < us.length) :
    Calls Tryd.prog 92 #[.slice (some ⟨pb, 0, none⟩) us.length cap, .int .i64 i, .int .i64 ((i : Int) + 1)] w fun e w' => e = .returned (.slice (some ⟨pb, 0, none⟩) (us.length - 1) cap) ∧ PRow w' pb cap (us.eraseIdx i) ∧ Fr [pb] w w' := delete_any pb cap i us w hp hlen hi

set_option maxRecDepth 100000 in
set_option maxHeartbeats 2000000 in
theorem harm_any (tb pb cap hb bb : Nat) (t : T) (i : Nat) (u : U) (w : World) (h : TS w tb pb cap hb bb t) (hi : t.us[i]? = some u) (hlf : -1000 ≤ u.life ∧ u.life ≤ 1000) :
    Calls Tryd.prog 90 #[.pointer (some ⟨tb, 0, none⟩), .int .i64 i] w fun e w' =>
      e = .returned (.tuple #[]) ∧ Fr [tb, pb, hb] w w' ∧ TS w' tb pb cap hb bb (t.harm i) := by
  have hz := h.z
  have hbl := h.ways.lt
  have hhl := h.held.lt
  have htl := h.lt
  have hpl := h.row.lt
  have hil : i < t.us.length := (List.getElem?_eq_some_iff.1 hi).1
  have hlen := h.len
  have hc := h.gv.c
  have hcz := h.fz 148
  obtain ⟨c0, c1, c2, c3, c4, c5, c6, c7, c8, c9, c10⟩ := h.row.ppl.at hi
  have z5 := h.row.fz (i * 11 + 5)
  have HI := (show Hid _ from hi)
  by_cases hd : u.life - 3 ≤ 0
  · have hact : t.harm i = { t with us := t.us.eraseIdx i, held := fun k => if k = (u.x, u.y) then none else t.held k } := by unfold T.harm; rw [hi]; exact if_pos hd
    have HA := (show Hid _ from hact)
    obtain ⟨W1, hW1⟩ : ∃ W, W = w.setCell ⟨pb, i * 11 + 5, none⟩ (.int .i64 (u.life - 3)) := ⟨_, rfl⟩
    have hrow1 : PRow W1 pb cap (t.us.set i { u with life := u.life - 3 }) := by rw [hW1]; exact h.row.life hi _
    have hi1 : (t.us.set i { u with life := u.life - 3 })[i]? = some { u with life := u.life - 3 } := by rw [List.getElem?_set_self hil]
    have h01 : Fr [pb] w W1 := by rw [hW1]; exact (Fr.refl _ _).setCell _ _ (by simp)
    have hs1 : W1.heap.size = w.heap.size := by rw [hW1]; simp [World.setCell]
    have hm1 : MapF W1 hb (heldV t.held) := h.held.fr h01 (by simp; exact fun e => h.n4 e.symm)
    have HS : ∀ w', Fr [hb] W1 w' → (fun w' : World => w'.cell? ⟨pb, i * 11, none⟩ = some (ii u.id) ∧ w'.cell? ⟨pb, i * 11 + 1, none⟩ = some (ii u.owner) ∧ w'.cell? ⟨pb, i * 11 + 2, none⟩ = some (ii u.kind) ∧ w'.cell? ⟨pb, i * 11 + 3, none⟩ = some (ii u.x) ∧ w'.cell? ⟨pb, i * 11 + 4, none⟩ = some (ii u.y) ∧ w'.cell? ⟨pb, i * 11 + 5, none⟩ = some (ii (u.life - 3)) ∧ w'.cell? ⟨pb, i * 11 + 6, none⟩ = some (ii u.load) ∧ w'.cell? ⟨pb, i * 11 + 7, none⟩ = some (ii u.what) ∧ w'.cell? ⟨pb, i * 11 + 8, none⟩ = some (ii u.tox) ∧ w'.cell? ⟨pb, i * 11 + 9, none⟩ = some (ii u.toy) ∧ w'.cell? ⟨pb, i * 11 + 10, none⟩ = some (ii u.target) ∧ w'.cell? ⟨tb, 149, none⟩ = some (.map (some hb)) ∧ Fr [hb] W1 w') w' := by
      intro w' hf
      obtain ⟨d0, d1, d2, d3, d4, d5, d6, d7, d8, d9, d10⟩ := (hrow1.fr hf (by simp; exact h.n4)).ppl.at hi1
      refine ⟨d0, d1, d2, d3, d4, d5, d6, d7, d8, d9, d10, ?_, hf⟩
      rw [hf.cell tb 149 (by omega) (by simp; exact h.n2), h01.cell tb 149 htl (by simp; exact h.n1)]
      exact h.tv.c
    have KF : Fr [hb] W1 (w.setCell ⟨pb, i * 11 + 5, none⟩ (.int .i64 (u.life - 3))).drew := by rw [hW1]; exact (Fr.refl _ _).drew
    have K0 := HS _ KF
    have hn2 := h.n2
    have HT := (show Hid _ from h)
    clear hi hact hi1 h
    go_enter Tryd.func90, Tryd.ntmps90
    go_wp2_with fail
    go_cut [] (fun wx => Fr [hb] W1 wx ∧ MapF wx hb (fun k => if k = (u.x, u.y) then none else heldV t.held k))
    case first =>
      go_region_held (fun w' : World => w'.cell? ⟨pb, i * 11, none⟩ = some (ii u.id) ∧ w'.cell? ⟨pb, i * 11 + 1, none⟩ = some (ii u.owner) ∧ w'.cell? ⟨pb, i * 11 + 2, none⟩ = some (ii u.kind) ∧ w'.cell? ⟨pb, i * 11 + 3, none⟩ = some (ii u.x) ∧ w'.cell? ⟨pb, i * 11 + 4, none⟩ = some (ii u.y) ∧ w'.cell? ⟨pb, i * 11 + 5, none⟩ = some (ii (u.life - 3)) ∧ w'.cell? ⟨pb, i * 11 + 6, none⟩ = some (ii u.load) ∧ w'.cell? ⟨pb, i * 11 + 7, none⟩ = some (ii u.what) ∧ w'.cell? ⟨pb, i * 11 + 8, none⟩ = some (ii u.tox) ∧ w'.cell? ⟨pb, i * 11 + 9, none⟩ = some (ii u.toy) ∧ w'.cell? ⟨pb, i * 11 + 10, none⟩ = some (ii u.target) ∧ w'.cell? ⟨tb, 149, none⟩ = some (.map (some hb)) ∧ Fr [hb] W1 w')
        (first | with_reducible exact K0 | with_reducible exact HS _ hfk | with_reducible exact HS _ hfm)
        (first | (go_at_call 56; refine (cellOf_any { u with life := u.life - 3 } _).mono ?_; rintro e w1 ⟨rfl, hf1⟩; have hfk : Fr [hb] W1 w1 := KF.then0 hf1; obtain ⟨wd, hdel, hmd, hfd⟩ := del_ex (hm1.fr (Fr.then0 (S := []) (by rw [hW1]; exact (Fr.refl _ _).drew) hf1) (by simp)) 84 0 96 3 Tryd.underlying84 u.x u.y; have hfm : Fr [hb] W1 wd := hfk.trans hfd (by simp)))
      all_goals
        go_wp2_with fail
        go_meet
        exact ⟨hfm, hmd⟩
    case rest =>
      obtain ⟨hfx, hmx⟩ := hcut
      have h := HT.out
      have hn1 := h.n1
      have hn4 := h.n4
      have hcx : wc.cell? ⟨tb, 148, none⟩ = some (.slice (some ⟨pb, 0, none⟩) t.us.length cap) := by
        rw [hfx.cell tb 148 (by omega) (by simp; exact h.n2), h01.cell tb 148 htl (by simp; exact h.n1)]; exact hc
      have hzx : wc.frozen? ⟨tb, 148, none⟩ = false := by
        rw [hfx.frozen tb 148 (by omega) (by simp; exact h.n2), h01.frozen tb 148 htl (by simp; exact h.n1)]; exact hcz
      have hrx := hrow1.fr hfx (by simp; exact h.n4)
      have hlx : (t.us.set i { u with life := u.life - 3 }).length = t.us.length := List.length_set
      have HC := delete_any' pb cap i _ wc hrx (by omega) (by omega)
      rw [hlx] at HC
      have htx : tb < wc.heap.size := by have := hfx.size; omega
      have HX := (show Hid _ from hfx)
      have HL := (show Hid _ from hlx)
      clear HS K0 KF hW1 hrx hrow1 hc c0 c1 c2 c3 c4 c5 c6 c7 c8 c9 c10 z5 hcz hlx hfx
      go_wp2_with (go_at_call 92; refine HC.mono ?_; rintro e w2 ⟨rfl, hrow2, hf2⟩; have hc2 := (hf2.cell tb 148 htx (by simp; exact hn1)).trans hcx; have hz2 := (hf2.frozen tb 148 htx (by simp; exact hn1)).trans hzx)
      have hfx := HX.out
      have hc2' : w2.cell? ⟨tb, 148, none⟩ = some (.slice (some ⟨pb, 0, none⟩) t.us.length cap) := hc2
      have e1 : (t.us.set i { u with life := u.life - 3 }).eraseIdx i = t.us.eraseIdx i := by
        rw [List.eraseIdx_eq_take_drop_succ, List.eraseIdx_eq_take_drop_succ, take_set_le _ _ _ _ (Nat.le_refl _), drop_set_gt _ _ _ _ (Nat.lt_succ_self _)]
      have e2 : (t.us.eraseIdx i).length = t.us.length - 1 := by rw [List.length_eraseIdx]; simp [hil]
      have hall : Fr [tb, pb, hb] w (w2.setCell ⟨tb, 148, none⟩ (.slice (some ⟨pb, 0, none⟩) (t.us.length - 1) cap)) :=
        ((((h01.mono (S' := [tb, pb, hb]) (by simp)).trans hfx (by simp)).trans hf2 (by simp)).setCell _ _ (by simp))
      have hf3 : Fr [tb] w2 (w2.setCell ⟨tb, 148, none⟩ (.slice (some ⟨pb, 0, none⟩) (t.us.length - 1) cap)) := (Fr.refl _ _).setCell _ _ (by simp)
      refine bodyPost_end (v := .tuple #[]) (results_none rfl _ _ _) rfl ⟨rfl, hall, ?_⟩
      rw [HA.out]
      rw [e1] at hrow2
      refine { h with cell := ?_, fz := ?_, row := ?_, held := ?_, ways := ?_, len := ?_ }
      · intro k hk
        show _ = some (tcell t (.slice (some ⟨pb, 0, none⟩) (t.us.eraseIdx i).length cap) hb bb k)
        rw [e2]
        by_cases h148 : k = 148
        · subst h148
          rw [cell_same _ _ _ _ _ hc2']
          simp [tcell]
        · rw [cell_other _ tb 148 tb k _ (Or.inr (by omega)), hf2.cell tb k htx (by simp; exact hn1), hfx.cell tb k (by omega) (by simp; exact hn2), h01.cell tb k htl (by simp; exact hn1), h.cell k hk]
          exact congrArg some (tcell_pv t _ _ hb bb k h148)
      · intro k
        rw [World.frozen?_setCell, hf2.frozen tb k htx (by simp; exact hn1), hfx.frozen tb k (by omega) (by simp; exact hn2), h01.frozen tb k htl (by simp; exact hn1)]
        exact h.fz k
      · exact hrow2.fr hf3 (by simp; exact fun e => hn1 e.symm)
      · show (t.us.eraseIdx i).length ≤ 1000
        omega
      · refine ((hmx.fr hf2 (by simp; exact fun e => hn4 e.symm)).fr hf3 (by simp; exact fun e => hn2 e.symm)).of_eq ?_
        intro k
        show _ = Option.map _ (if k = (u.x, u.y) then none else t.held k)
        by_cases hk : k = (u.x, u.y)
        · rw [if_pos hk, if_pos hk]; rfl
        · rw [if_neg hk, if_neg hk]
      · exact ((((h.ways.fr h01 (by simp; exact fun e => h.n5 e.symm)).fr hfx (by simp; exact fun e => h.n6 e.symm)).fr hf2 (by simp; exact fun e => h.n5 e.symm)).fr hf3 (by simp; exact fun e => h.n3 e.symm))
  · have hact : t.harm i = { t with us := t.us.set i { u with life := u.life - 3 } } := by unfold T.harm; rw [hi]; exact if_neg hd
    have HA := (show Hid _ from hact)
    have HT := (show Hid _ from h)
    clear hi hact h
    go_enter Tryd.func90, Tryd.ntmps90
    go_wp2_with fail
    have h := HT.out
    have hf1 : Fr [pb] w (w.setCell ⟨pb, i * 11 + 5, none⟩ (.int .i64 (u.life - 3))) := (Fr.refl _ _).setCell _ _ (by simp)
    refine bodyPost_end (v := .tuple #[]) (results_none rfl _ _ _) rfl ⟨rfl, hf1.mono (by simp), ?_⟩
    rw [HA.out]
    refine { h with cell := ?_, fz := ?_, row := ?_, held := ?_, ways := ?_, len := ?_ }
    · intro k hk
      show _ = some (tcell t (.slice (some ⟨pb, 0, none⟩) (t.us.set i _).length cap) hb bb k)
      rw [List.length_set, hf1.cell tb k htl (by simp; exact h.n1)]
      exact h.cell k hk
    · intro k
      rw [hf1.frozen tb k htl (by simp; exact h.n1)]
      exact h.fz k
    · exact h.row.life HI.out _
    · show (t.us.set i _).length ≤ 1000
      rw [List.length_set]; exact hlen
    · exact h.held.fr hf1 (by simp; exact fun e => h.n4 e.symm)
    · exact h.ways.fr hf1 (by simp; exact fun e => h.n5 e.symm)
end Go.Proofs.YtapabahhfanmmaaDoor
