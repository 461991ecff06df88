import Derived.Test.YtapabahhfanmmaaDoorCInv3
import Derived.Test.YtapabahhfanmmaaDoorCSkill
import Derived.Test.YtapabahhfanmmaaDoorCRowset
/- One acts. -/
namespace Go.Proofs.YtapabahhfanmmaaDoor
open Go.RowKit

theorem set4 {w : World} {b : Nat} {x y z z' : Value} {t : TypeId} (h : w.heap[b]? = some (.cells #[x, y, z, z'] t)) (p q r r' : Value) : ((((w.setCell ⟨b, 0, none⟩ p).setCell ⟨b, 1, none⟩ q).setCell ⟨b, 2, none⟩ r).setCell ⟨b, 3, none⟩ r').heap[b]? = some (.cells #[p, q, r, r'] t) := by
  have h0 := set_arr h 0 p
  have h1 := set_arr h0 1 q
  have h2 := set_arr h1 2 r
  have h3 := set_arr h2 3 r'
  simpa using h3

theorem TS.putU {w : World} {tb pb cap hb bb : Nat} {t : T} (h : TS w tb pb cap hb bb t) {i : Nat} (hi : i < t.us.length) (u' : U) : TS (w.setCells pb (i * 11) u'.cells) tb pb cap hb bb { t with us := t.us.set i u' } := by
  have hf : Fr [pb] w (w.setCells pb (i * 11) u'.cells) := Fr.setCells pb _ _ _ (Fr.refl _ _) (Or.inl (by simp))
  have hl : (t.us.set i u').length = t.us.length := List.length_set
  refine { h with cell := fun k hk => ?_, fz := fun k => ?_, row := h.row.put hi u', len := ?_, held := ?_, ways := ?_ }
  · rw [hf.cell tb k h.lt (by simp; exact h.n1), h.cell k hk]
    show some (tcell t _ hb bb k) = some (tcell { t with us := t.us.set i u' } _ hb bb k)
    simp only [hl]
    rfl
  · rw [hf.frozen tb k h.lt (by simp; exact h.n1)]; exact h.fz k
  · show (t.us.set i u').length ≤ 1000
    rw [hl]; exact h.len
  · exact h.held.fr hf (by simp; exact fun e => h.n4 e.symm)
  · exact h.ways.fr hf (by simp; exact fun e => h.n5 e.symm)
theorem unit_cells {w : World} {b : Nat} {u : U} {t : TypeId} (h : w.heap[b]? = some (.cells u.arr t)) : w.cell? ⟨b, 0, none⟩ = some (ii u.id) ∧ w.cell? ⟨b, 1, none⟩ = some (ii u.owner) ∧ w.cell? ⟨b, 2, none⟩ = some (ii u.kind) ∧ w.cell? ⟨b, 3, none⟩ = some (ii u.x) ∧ w.cell? ⟨b, 4, none⟩ = some (ii u.y) ∧ w.cell? ⟨b, 5, none⟩ = some (ii u.life) ∧ w.cell? ⟨b, 6, none⟩ = some (ii u.load) ∧ w.cell? ⟨b, 7, none⟩ = some (ii u.what) ∧ w.cell? ⟨b, 8, none⟩ = some (ii u.tox) ∧ w.cell? ⟨b, 9, none⟩ = some (ii u.toy) ∧ w.cell? ⟨b, 10, none⟩ = some (ii u.target) :=
  ⟨cell_of_heap h, cell_of_heap h, cell_of_heap h, cell_of_heap h, cell_of_heap h, cell_of_heap h, cell_of_heap h, cell_of_heap h, cell_of_heap h, cell_of_heap h, cell_of_heap h⟩

set_option maxRecDepth 100000 in
set_option maxHeartbeats 2000000 in
theorem actOne_gen (tb pb cap hb bb : Nat) (t : T) (u : U) (K : Value) (n1 n0 n2 n : Nat) (r : U × T) (w : World) (h : TS w tb pb cap hb bb t)
    (hk : ∀ w, Calls Tryd.prog 55 #[.int .i64 u.kind] w fun e w' => e = .returned K ∧ Fr [] w w')
    (hs : ∀ w, Calls Tryd.prog 57 #[K, .int .i64 u.what] w fun e w' => e = .returned (.tuple #[.agg #[fv n1, fv n0, fv n2, fv n], .bool true]) ∧ Fr [] w w')
    (ha : ∀ w', Fr [] w w' → Calls Tryd.prog n #[.pointer (some ⟨tb, 0, none⟩), u.val] w' fun e w'' => e = .returned r.1.val ∧ ∃ pb' cap', Fr [tb, pb, hb, bb] w' w'' ∧ TS w'' tb pb' cap' hb bb r.2 ∧ (pb' = pb ∨ w'.heap.size ≤ pb'))
    (hri : Rise r.2.us) (hcf : ∀ (args : Array Value) (w : World), (callFunc n args).run Tryd.prog w = .ok (.enter n args) w) :
    Calls Tryd.prog 47 #[.pointer (some ⟨tb, 0, none⟩), u.val] w fun e w' =>
      e = .returned (.tuple #[]) ∧ ∃ pb' cap', Fr [tb, pb, hb, bb] w w' ∧ TS w' tb pb' cap' hb bb (putBack r.2 r.1) ∧ (pb' = pb ∨ w.heap.size ≤ pb') := by
  have hz := h.z
  have hbl := h.ways.lt
  have hhl := h.held.lt
  have htl := h.lt
  have hpl := h.row.lt
  obtain ⟨W1, hW1⟩ : ∃ W, W = w.alloc (.cells u.arr 44) := ⟨_, rfl⟩
  have hs1 : W1.heap.size = w.heap.size + 1 := by rw [hW1]; simp
  have h01 : Fr [] w W1 := by rw [hW1]; exact (Fr.refl _ _).alloc _
  have hU : W1.heap[w.heap.size]? = some (.cells u.arr 44) := by rw [hW1, hp_new]
  have HS : ∀ w', Fr [] W1 w' → (fun w' : World => w'.cell? ⟨w.heap.size, 2, none⟩ = some (ii u.kind) ∧ w'.cell? ⟨w.heap.size, 7, none⟩ = some (ii u.what) ∧ Fr [] W1 w') w' := fun w' hf => ⟨cell_of_heap (hf.heap0 hU), cell_of_heap (hf.heap0 hU), hf⟩
  have KF : Fr [] W1 (w.alloc (.cells u.arr 44)).drew := by rw [hW1]; exact (Fr.refl _ _).drew
  have K0 := HS _ KF
  clear hW1
  go_enter Tryd.func47, Tryd.ntmps47
  go_wp2_with fail
  go_cut [4, 5] (fun s4 s5 wx => ∃ g : Nat, s4 = .pointer (some ⟨g, 0, none⟩) ∧ s5 = .bool true ∧ wx.heap[g]? = some (.cells #[fv n1, fv n0, fv n2, fv n] 119) ∧ w.heap.size < g ∧ Fr [] W1 wx)
  case first =>
    go_region_held (fun w' : World => w'.cell? ⟨w.heap.size, 2, none⟩ = some (ii u.kind) ∧ w'.cell? ⟨w.heap.size, 7, none⟩ = some (ii u.what) ∧ Fr [] W1 w')
      (first | exact K0 | exact HS _ hfr2 | exact HS _ (hfr2.alloc _) | exact HS _ hfr1 | exact HS _ (hfr1.alloc _) | exact HS _ (KF.alloc _) | exact HS _ ((((hfr2.setCell _ _ (Or.inr (by simp; omega))).setCell _ _ (Or.inr (by simp; omega))).setCell _ _ (Or.inr (by simp; omega))).setCell _ _ (Or.inr (by simp; omega))))
      (first | (go_at_call 55; refine (hk _).mono ?_; rintro e w1 ⟨rfl, hf1⟩; obtain ⟨hc1, hz1⟩ := hf1.cells0; have q1 : w.heap.size < w1.heap.size := (by have := hf1.size; simp at this; omega); (first | (have q2 : w.heap.size + 1 < w1.heap.size := (by have := hf1.size; simp at this; omega)) | skip); have hfr1 : Fr [] W1 w1 := Fr.then0 (And.right (And.right (by assumption))) hf1) | (go_at_call 57; refine (hs _).mono ?_; rintro e w2 ⟨rfl, hf2⟩; obtain ⟨hc2, hz2⟩ := hf2.cells0; have q3 := hf2.size; have hfr2 : Fr [] W1 w2 := Fr.then0 (And.right (And.right (by assumption))) hf2))
    all_goals
      go_wp2_with fail
      go_meet
      refine ⟨_, rfl, rfl, ?_, ?_, ?_⟩
      · first
        | with_reducible exact hp_new _ _
        | exact set4 (hf2.heap0 (hp_new w1 _)) _ _ _ _
        | exact set4 (hf2.heap0 (hf1.heap0 (hp_new2 w _ _))) _ _ _ _
      · have := hfr2.size
        omega
      · first
        | with_reducible exact hfr2.alloc _
        | exact (((hfr2.setCell _ _ (Or.inr (by simp; omega))).setCell _ _ (Or.inr (by simp; omega))).setCell _ _ (Or.inr (by simp; omega))).setCell _ _ (Or.inr (by simp; omega))
  case rest =>
    obtain ⟨g, rfl, rfl, hg, hlg, hfx⟩ := hcut
    have hux := hfx.heap0 hU
    have hwx := h01.then0 hfx
    have hgc : wc.cell? ⟨g, 3, none⟩ = some (fv n) := cell_of_heap hg
    have hul := lt_of_heap hux
    clear K0 HS KF hk hs
    go_wp2_with (refine wpList_load_row rfl 44 _ rfl w.heap.size rfl 44 u.arr (0, 0) _ hux Tryd.underlying44 rfl infoUnit ?_)
    refine (ha _ hwx).mono ?_
    rintro e w5 ⟨rfl, pb', cap', hf5, ht5, hpp⟩
    have hu5 := hf5.heap hux (by simp; omega)
    dsimp only
    clear hux hgc hg ha hcf
    go_wp2_with (refine wpList_store_row rfl 44 _ _ rfl w.heap.size r.1.arr rfl rfl 44 _ hu5 infoUnit rfl (U.one _) ?_)
    rw [show ∀ a : Act, a.put none undef = a from fun _ => rfl]
    obtain ⟨W6, hW6⟩ : ∃ W, W = w5.setRow w.heap.size r.1.arr := ⟨_, rfl⟩
    have hf6 : Fr [w.heap.size] w5 W6 := by rw [hW6]; exact (Fr.refl _ _).setRow _ _ (by simp)
    have hU6 : W6.heap[w.heap.size]? = some (.cells r.1.arr 44) := by rw [hW6]; exact setRow_heap _ _ _ _ _ _ hu5
    have hw5 : Fr [tb, pb, hb, bb] w w5 := (hwx.mono (by simp)).trans hf5 (by simp)
    have hw6 : Fr [tb, pb, hb, bb] w W6 := by rw [hW6]; exact hw5.setRow _ _ (Or.inr (Nat.le_refl _))
    have hxs := hwx.size
    have hp6 : pb' ≠ w.heap.size := by rcases hpp with e | e <;> omega
    have hpw : pb' = pb ∨ w.heap.size ≤ pb' := by rcases hpp with e | e; exact Or.inl e; exact Or.inr (by omega)
    have ht6 : TS W6 tb pb' cap' hb bb r.2 := ht5.fr hf6 (by simp; omega) (by simp; omega) (by simp; omega) (by simp; omega)
    rw [← hW6]
    have HS6 : ∀ w', Fr [] W6 w' → (fun w' : World => w'.cell? ⟨w.heap.size, 0, none⟩ = some (ii r.1.id) ∧ Fr [] W6 w') w' := fun w' hf => ⟨cell_of_heap (hf.heap0 hU6), hf⟩
    have K6 := HS6 W6.drew ((Fr.refl _ _).drew)
    clear hW6 hu5 ht5 hf5 hw5 hf6
    go_cut [6, 7] (fun s6 s7 wx => ∃ (i : Nat) (f : Bool), s6 = .int .i64 i ∧ s7 = .bool f ∧ placeOf r.2.us r.1.id = (if f = true then some i else none) ∧ Fr [] W6 wx)
    case first =>
      go_region_held (fun w' : World => w'.cell? ⟨w.heap.size, 0, none⟩ = some (ii r.1.id) ∧ Fr [] W6 w')
        (first | with_reducible exact K6 | with_reducible exact HS6 _ hfr1)
        (first | (go_at_call 46; refine (find_pl tb pb' cap' r.2.us r.1.id _ (ht6.gv.fr0 (And.right (by assumption))) hri).mono ?_; rintro e w1 ⟨i, f, rfl, hf1, hpl1⟩; have hfr1 : Fr [] W6 w1 := Fr.then0 (And.right (by assumption)) hf1))
      all_goals
        go_wp2_with fail
        go_meet
        exact ⟨i, f, rfl, rfl, hpl1, hfr1⟩
    case rest =>
      obtain ⟨i, f, rfl, rfl, hplace, hf7⟩ := hcut
      have hU7 := hf7.heap0 hU6
      have ht7 := ht6.fr0 hf7
      have hw7 : Fr [tb, pb, hb, bb] w wc := hw6.then0 hf7
      clear K6 HS6
      cases f
      · go_wp2_with fail
        refine bodyPost_end (v := .tuple #[]) (results_none rfl _ _ _) rfl ⟨rfl, pb', cap', hw7, ?_, hpw⟩
        have : putBack r.2 r.1 = r.2 := by unfold putBack; rw [hplace]; rfl
        rw [this]
        exact ht7
      · rw [if_pos rfl] at hplace
        obtain ⟨v, hv, hvid⟩ := placeOf_get hplace
        have hil : i < r.2.us.length := (List.getElem?_eq_some_iff.1 hv).1
        have hlen := ht7.len
        have hcx := ht7.gv.c
        obtain ⟨c0, c1, c2, c3, c4, c5, c6, c7, c8, c9, c10⟩ := ht7.row.ppl.at hv
        obtain ⟨d0, d1, d2, d3, d4, d5, d6, d7, d8, d9, d10⟩ := unit_cells hU7
        have hfz := ht7.row.fz
        go_wp2_with fail
        go_region
        all_goals
          refine bodyPost_end (v := .tuple #[]) (results_none rfl _ _ _) rfl ⟨rfl, pb', cap', ?_, ?_, hpw⟩
          · show Fr _ _ (wc.setCells pb' (i * 11) r.1.cells).drew
            exact (Fr.setCells pb' _ _ _ hw7 (by rcases hpw with e | e; exact Or.inl (by simp [e]); exact Or.inr e)).drew
          · show TS (wc.setCells pb' (i * 11) r.1.cells).drew _ _ _ _ _ _
            rw [putBack_at hri hv hvid.symm]
            exact (ht7.putU hil r.1).fr0 ((Fr.refl _ _).drew)
end Go.Proofs.YtapabahhfanmmaaDoor
