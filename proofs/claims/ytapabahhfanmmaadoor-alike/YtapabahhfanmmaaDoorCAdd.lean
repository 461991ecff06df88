import Derived.Test.YtapabahhfanmmaaDoorCHit
import Derived.Maps.AppendAt
/- Somebody new. -/
namespace Go.Proofs.YtapabahhfanmmaaDoor
open Go.RowKit

theorem step_append_own {P : Program} {ops : Array Oper} {op : Oper} {a : Act} {w : World} {K : Act → World → Prop} {Q : Exit → Act → World → Prop} {E : Prop}
    (hg : op.guard = none) (s x : Operand) (t : TypeId) (hop : op.op = Op.call { callee := Callee.builtin Builtin.append, args := #[s, x], argTypes := #[t, t] })
    (base : Nat) (e : TypeId) (i : TypeInfo) (z : Value) (size bytes : Nat) (ht : P.underlying t = some (.slice e)) (hi : P.info? e = some i) (hz : i.zero = some z)
    (hsize : i.size = size) (hby : i.bytes = bytes) (hzs : z.cells.size = size) (hsz : 0 < size)
    (v : Value) (n : Nat) (xs : List Value) (hs : a.eval s = v) (hown : w.ownsRow base e size v n xs)
    (ad : Addr) (m c : Nat) (news : List Value) (hx : a.eval x = .slice (some ad) m c) (hl : news.length = m * size) (hnews : ∀ j u, news[j]? = some u → w.cell? (ad.add j) = some u) (h1 : ∀ u ∈ news, u.oneCell' = true)
    (h63 : n + m ≤ maxLen) (hbytes : (n + m) * bytes ≤ 140737488355328) (hbase : base ≤ w.heap.size)
    (hK : ∀ v' w', w'.ownsRow base e size v' (n + m) (xs ++ news) → w.grownBy w' v.ownBlock → (v'.ownBlock = v.ownBlock ∨ v'.ownBlock = some w.heap.size) → K (a.put op.dst v') w') :
    if Region.wanted op (yielded ops a.tmps) = true then Oper.wp P op a w K Q else E := by
  have hw : Region.wanted op (yielded ops a.tmps) = true := by simp [Region.wanted, hg]
  rw [if_pos hw]
  obtain ⟨v', w', hr, h2, h3, _, h5⟩ := run_append_own_at (P := P) w base t op.type e i z size bytes ht hi hz hsize hby hzs hsz v n xs hown ad m c news hl hnews h1 h63 hbytes hbase
  unfold Oper.wp
  simp only [execOp, hop, resolve, invoke, builtin, Sem.run_bind, Sem.run_pure, Result.andThen_ok, List.map_toArray, List.map_cons, List.map_nil, hs, hx, hr]
  exact hK v' w' h2 h3 h5
theorem owns_fr {S : List Nat} {w w' : World} {base n : Nat} {e : TypeId} {size : Nat} {v : Value} {xs : List Value} (h : w.ownsRow base e size v n xs) (hf : Fr S w w') (hn : ∀ b, v.ownBlock = some b → b ∉ S) : w'.ownsRow base e size v n xs := by
  refine ⟨h.1, ?_⟩
  rcases h.2 with h2 | ⟨g, cap, cur, rfl, hb, hg, r⟩
  · exact Or.inl h2
  · exact Or.inr ⟨g, cap, cur, rfl, hb, hf.heap hg (hn g rfl), r⟩
theorem own_shape {w : World} {base n : Nat} {e : TypeId} {size : Nat} {v : Value} {xs : List Value} (h : w.ownsRow base e size v n xs) (hn : 0 < n) : ∃ g cap, v = .slice (some ⟨g, 0, none⟩) n cap := by
  rcases h.2 with ⟨_, h2⟩ | ⟨g, cap, cur, rfl, _⟩
  · omega
  · exact ⟨g, cap, rfl⟩
theorem Fr.grow {S : List Nat} {a b c : World} {row : Option Nat} (h : Fr S a b) (k : b.grownBy c row) (hs : ∀ g, row = some g → g ∈ S ∨ a.heap.size ≤ g) : Fr S a c := h.grown k hs
abbrev KindSays (k L : Int) (a1 a2 a3 a4 a5 a6 a7 a8 a9 a10 a11 a12 a13 a14 a15 a16 a17 a18 a19 a20 a21 a22 a23 : Value) : Prop := ∀ w, Calls Tryd.prog 55 #[.int .i64 k] w fun e w' => e = .returned (.agg #[ii L, a1, a2, a3, a4, a5, a6, a7, a8, a9, a10, a11, a12, a13, a14, a15, a16, a17, a18, a19, a20, a21, a22, a23]) ∧ Fr [] w w'
abbrev newU (id o k x y L : Int) : U := ⟨id, o, k, x, y, L, 0, 0, 0, 0, 0⟩

set_option maxRecDepth 100000 in
set_option maxHeartbeats 2000000 in
theorem add_own (gb base : Nat) (next o k x y L : Int) (a1 a2 a3 a4 a5 a6 a7 a8 a9 a10 a11 a12 a13 a14 a15 a16 a17 a18 a19 a20 a21 a22 a23 v : Value) (us : List U) (w : World) (hk : KindSays k L a1 a2 a3 a4 a5 a6 a7 a8 a9 a10 a11 a12 a13 a14 a15 a16 a17 a18 a19 a20 a21 a22 a23) (hfld : ∀ w, (Instr.field 122 (Value.agg #[ii L, a1, a2, a3, a4, a5, a6, a7, a8, a9, a10, a11, a12, a13, a14, a15, a16, a17, a18, a19, a20, a21, a22, a23]) 0).run Tryd.prog w = .ok (ii L) w) (hgb : gb < w.heap.size)
    (hn : w.cell? ⟨gb, 1, none⟩ = some (ii next)) (hzn : w.frozen? ⟨gb, 1, none⟩ = false) (hv : w.cell? ⟨gb, 148, none⟩ = some v) (hzv : w.frozen? ⟨gb, 148, none⟩ = false) (hown : w.ownsRow base 44 11 v us.length (us.flatMap U.cells)) (hne : v.ownBlock ≠ some gb)
    (hlen : us.length < 1000) (hnx : 0 ≤ next ∧ next ≤ 1000000000) (hbs : base ≤ w.heap.size) :
    Calls Tryd.prog 42 #[.pointer (some ⟨gb, 0, none⟩), .int .i64 o, .int .i64 k, cv x y] w fun e w' =>
      e = .returned (.tuple #[]) ∧ ∃ v', w'.cell? ⟨gb, 148, none⟩ = some v' ∧ w'.cell? ⟨gb, 1, none⟩ = some (ii (next + 1)) ∧ w'.ownsRow base 44 11 v' (us.length + 1) ((us ++ [newU next o k x y L]).flatMap U.cells) ∧
        (v'.ownBlock = v.ownBlock ∨ ∃ b, v'.ownBlock = some b ∧ w.heap.size ≤ b) ∧ Fr (gb :: v.ownBlock.toList) w w' ∧ (∀ j, j ≠ 1 → j ≠ 148 → w'.cell? ⟨gb, j, none⟩ = w.cell? ⟨gb, j, none⟩) ∧ (∀ j, w'.frozen? ⟨gb, j, none⟩ = w.frozen? ⟨gb, j, none⟩) := by
  obtain ⟨W1, hW1⟩ : ∃ W, W = w.alloc (.cells #[ii x, ii y] 96) := ⟨_, rfl⟩
  have hs1 : W1.heap.size = w.heap.size + 1 := by rw [hW1]; simp
  have h01 : Fr [] w W1 := by rw [hW1]; exact (Fr.refl _ _).alloc _
  have hC : W1.heap[w.heap.size]? = some (.cells #[ii x, ii y] 96) := by rw [hW1, hp_new]
  have HS : ∀ w', Fr [] W1 w' → (fun w' : World => w'.cell? ⟨gb, 1, none⟩ = some (ii next) ∧ w'.cell? ⟨w.heap.size, 0, none⟩ = some (ii x) ∧ w'.cell? ⟨w.heap.size, 1, none⟩ = some (ii y) ∧ Fr [] W1 w') w' := fun w' hf => ⟨((h01.then0 hf).cell gb 1 hgb (by simp)).trans hn, cell_of_heap (hf.heap0 hC), cell_of_heap (hf.heap0 hC), hf⟩
  have KF : Fr [] W1 (w.alloc (.cells #[ii x, ii y] 96)).drew := by rw [hW1]; exact (Fr.refl _ _).drew
  have KA : Fr [] W1 ((w.alloc (.cells #[ii x, ii y] 96)).alloc (.cells zeroU.arr 44)).drew := by rw [hW1]; exact ((Fr.refl _ _).alloc _).drew
  have K0 := HS _ KF
  clear hW1
  go_enter Tryd.func42, Tryd.ntmps42
  go_wp2_with fail
  go_cut [8] (fun s8 wx => ∃ b8 : Nat, s8 = .pointer (some ⟨b8, 0, none⟩) ∧ wx.heap[b8]? = some (.cells (newU next o k x y L).arr 44) ∧ w.heap.size < b8 ∧ Fr [] W1 wx)
  case first =>
    go_region_held (fun w' : World => w'.cell? ⟨gb, 1, none⟩ = some (ii next) ∧ w'.cell? ⟨w.heap.size, 0, none⟩ = some (ii x) ∧ w'.cell? ⟨w.heap.size, 1, none⟩ = some (ii y) ∧ Fr [] W1 w')
      (first | with_reducible exact K0 | with_reducible exact HS _ hfr1 | with_reducible exact HS _ (hfr1.alloc _) | with_reducible exact HS _ KA | with_reducible exact HS _ (hfr1.set11 (w.heap.size + 1) (newU next o k x y L) (Or.inr (by omega))))
      (first | (go_at_call 55; refine (hk _).mono ?_; rintro e w1 ⟨rfl, hf1⟩; have hfr1 : Fr [] W1 w1 := Fr.then0 (And.right (And.right (And.right (by assumption)))) hf1; obtain ⟨hc1, hz1⟩ := hf1.cells0; have q4 : w.heap.size + 1 ≤ w1.heap.size := (by have := hfr1.size; omega); (first | (have q3 : w.heap.size + 1 < w1.heap.size := (by have := hf1.size; simp at this; omega)) | skip)))
    all_goals
      go_wp2_with fail
      go_meet
      (first | (have hb0 : w1.heap[w.heap.size + 1]? = some (.cells zeroU.arr 44) := hf1.heap0 (by exact hp_new2 w _ _)) | skip)
      refine ⟨_, rfl, ?_, by omega, ?_⟩
      · first
        | with_reducible exact hp_new _ _
        | exact set11 (v := newU next o k x y L) hb0
      · first
        | with_reducible exact hfr1.alloc _
        | exact hfr1.set11 (w.heap.size + 1) (newU next o k x y L) (Or.inr (by omega))
  case rest =>
    obtain ⟨b8, rfl, hb8, hlt8, hfx⟩ := hcut
    have hwx := h01.then0 hfx
    have hbx : gb < wc.heap.size := Nat.lt_of_lt_of_le hgb hwx.size
    have hvx : wc.cell? ⟨gb, 148, none⟩ = some v := (hwx.cell gb 148 hgb (by simp)).trans hv
    have hzx : wc.frozen? ⟨gb, 148, none⟩ = false := (hwx.frozen gb 148 hgb (by simp)).trans hzv
    have hnx1 : wc.cell? ⟨gb, 1, none⟩ = some (ii next) := (hwx.cell gb 1 hgb (by simp)).trans hn
    have hnz1 : wc.frozen? ⟨gb, 1, none⟩ = false := (hwx.frozen gb 1 hgb (by simp)).trans hzn
    clear HS K0 KF KA
    have e0 : wc.cell? ⟨b8, 0, none⟩ = some (ii next) := cell_of_heap hb8
    have e1 : wc.cell? ⟨b8, 1, none⟩ = some (ii o) := cell_of_heap hb8
    have e2 : wc.cell? ⟨b8, 2, none⟩ = some (ii k) := cell_of_heap hb8
    have e3 : wc.cell? ⟨b8, 3, none⟩ = some (ii x) := cell_of_heap hb8
    have e4 : wc.cell? ⟨b8, 4, none⟩ = some (ii y) := cell_of_heap hb8
    have e5 : wc.cell? ⟨b8, 5, none⟩ = some (ii L) := cell_of_heap hb8
    have e6 : wc.cell? ⟨b8, 6, none⟩ = some (ii 0) := cell_of_heap hb8
    have e7 : wc.cell? ⟨b8, 7, none⟩ = some (ii 0) := cell_of_heap hb8
    have e8 : wc.cell? ⟨b8, 8, none⟩ = some (ii 0) := cell_of_heap hb8
    have e9 : wc.cell? ⟨b8, 9, none⟩ = some (ii 0) := cell_of_heap hb8
    have e10 : wc.cell? ⟨b8, 10, none⟩ = some (ii 0) := cell_of_heap hb8
    obtain ⟨inf, hi0, hz0, hz1, hz2⟩ := info_parts infoU
    have hF2 : Fr [] w (wc.drew.alloc (.cells (newU next o k x y L).arr 44)) := (hwx.drew).alloc _
    have hown2 : (wc.drew.alloc (.cells (newU next o k x y L).arr 44)).ownsRow base 44 11 v us.length (us.flatMap U.cells) := owns_fr hown hF2 (by simp)
    have hsrc : ∀ j u, (newU next o k x y L).cells[j]? = some u → (wc.drew.alloc (.cells (newU next o k x y L).arr 44)).cell? ((⟨wc.heap.size, 0, none⟩ : Addr).add j) = some u := by
      intro j u hu
      rw [Addr.add_lit, Nat.zero_add, cell_of_heap (show (wc.drew.alloc (.cells (newU next o k x y L).arr 44)).heap[wc.heap.size]? = _ from hp_new wc.drew _)]
      simpa using hu
    have HS := (show Hid _ from hsrc)
    have HO := (show Hid _ from hown2)
    have HOW := (show Hid _ from hown)
    have HB8 := (show Hid _ from hb8)
    have HFX := (show Hid _ from hfx)
    have HF2 := (show Hid _ from hF2)
    have HN2 : Hid (v.ownBlock ≠ some gb) := hne
    have HN : Hid (gb ∉ v.ownBlock.toList) := by show _ ∉ _; intro h; apply hne; simpa using h
    clear hsrc hown2 hown hb8 hfx hF2
    go_wp2_with fail
    go_cut [] (fun wx => ∃ v', wx.cell? ⟨gb, 148, none⟩ = some v' ∧ wx.cell? ⟨gb, 1, none⟩ = some (ii next) ∧ wx.ownsRow base 44 11 v' (us.length + 1) ((us ++ [newU next o k x y L]).flatMap U.cells) ∧
        (v'.ownBlock = v.ownBlock ∨ ∃ b, v'.ownBlock = some b ∧ w.heap.size ≤ b) ∧ Fr (gb :: v.ownBlock.toList) w wx ∧ (∀ j, j ≠ 1 → j ≠ 148 → wx.cell? ⟨gb, j, none⟩ = w.cell? ⟨gb, j, none⟩) ∧ (∀ j, wx.frozen? ⟨gb, j, none⟩ = w.frozen? ⟨gb, j, none⟩))
    case first =>
      go_region_law (refine step_append_own rfl (.tmp 27) (.tmp 29) 41 rfl base 44 inf zeroU.val 11 88 Tryd.underlying41 hi0 hz0 hz1 hz2 rfl (by decide) v us.length (us.flatMap U.cells) (by simp [Act.eval]) HO.out ⟨wc.heap.size, 0, none⟩ 1 1 (newU next o k x y L).cells (by simp [Act.eval]) rfl HS.out (by simp [Value.oneCell']) (by unfold maxLen; omega) (by omega) (by have := hwx.size; simp; omega) ?_; intro v' w2 hown' hgrow hat; obtain ⟨g', cap', rfl⟩ := own_shape hown' (by omega); have hgf := Fr.grow (S := v.ownBlock.toList) (Fr.refl _ _) hgrow (fun g hg => Or.inl (by simp [hg])); have hv2 : w2.cell? ⟨gb, 148, none⟩ = some v := (hgf.cell gb 148 (by simp; omega) HN.out).trans ((Fr.cell (Fr.alloc ((Fr.refl [] wc).drew) _) gb 148 hbx (by simp)).trans hvx); have hz2' : w2.frozen? ⟨gb, 148, none⟩ = false := (hgf.frozen gb 148 (by simp; omega) HN.out).trans ((Fr.frozen (Fr.alloc ((Fr.refl [] wc).drew) _) gb 148 hbx (by simp)).trans hzx))
      all_goals
        go_wp2_with fail
        go_meet
        have hF3 := (HF2.out.of0 (S := gb :: v.ownBlock.toList)).grow hgrow (fun g hg => Or.inl (by simp [hg]))
        have hF4 := hF3.setCell ⟨gb, 148, none⟩ (.slice (some ⟨g', 0, none⟩) (us.length + 1) cap') (Or.inl (by simp))
        have hne2 : g' ≠ gb := by
          rcases hat with h1 | h1
          · intro e; subst e; exact HN2.out h1.symm
          · intro e; subst e; simp [Value.ownBlock] at h1; omega
        have hcj : ∀ j, w2.cell? ⟨gb, j, none⟩ = w.cell? ⟨gb, j, none⟩ := fun j => (hgf.cell gb j (by simp; omega) HN.out).trans (HF2.out.cell gb j hgb (by simp))
        have hfj : ∀ j, w2.frozen? ⟨gb, j, none⟩ = w.frozen? ⟨gb, j, none⟩ := fun j => (hgf.frozen gb j (by simp; omega) HN.out).trans (HF2.out.frozen gb j hgb (by simp))
        refine ⟨.slice (some ⟨g', 0, none⟩) (us.length + 1) cap', cell_same _ _ _ _ _ hv2, ?_, ?_, ?_, hF4, ?_, ?_⟩
        · rw [cell_other _ gb 148 gb 1 _ (Or.inr (by omega)), hcj]; exact hn
        · rw [List.flatMap_append, List.flatMap_cons, List.flatMap_nil, List.append_nil]
          exact owns_fr hown' ((Fr.refl [gb] w2).setCell _ _ (by simp)) (by intro b hb; simp [Value.ownBlock] at hb; subst hb; simpa using hne2)
        · rcases hat with h1 | h1
          · exact Or.inl h1
          · refine Or.inr ⟨_, h1, ?_⟩
            have := hwx.size
            simp
            omega
        · intro j hj1 hj2
          rw [cell_other _ gb 148 gb j _ (Or.inr (by omega)), hcj]
        · intro j
          rw [World.frozen?_setCell]; exact hfj j
    case rest =>
      obtain ⟨v', hv', hn', hown', hat, hfy, hcj, hfj⟩ := hcut
      have hzn' : wc.frozen? ⟨gb, 1, none⟩ = false := (hfj 1).trans hzn
      have hnn : next ≤ 1000000000 := hnx.2
      have hnn' : 0 ≤ next := hnx.1
      have HN' := (show Hid _ from hv')
      have HO' := (show Hid _ from hown')
      clear hv' hown'
      go_wp2_with fail
      refine bodyPost_end (v := .tuple #[]) (results_none rfl _ _ _) rfl ⟨rfl, v', ?_, ?_, ?_, hat, hfy.setCell _ _ (Or.inl (by simp)), ?_, ?_⟩
      · rw [cell_other _ gb 1 gb 148 _ (Or.inr (by omega))]; exact HN'.out
      · exact cell_same _ _ _ _ _ hn'
      · refine owns_fr HO'.out ((Fr.refl [gb] wc).setCell _ _ (by simp)) ?_
        intro b hb
        simp
        rcases hat with h1 | ⟨b', h1, h2⟩
        · intro e; subst e; exact hne (h1.symm.trans hb)
        · rw [hb] at h1; cases h1; omega
      · intro j h1 h2
        rw [cell_other _ gb 1 gb j _ (Or.inr (by omega))]; exact hcj j h1 h2
      · intro j
        rw [World.frozen?_setCell]; exact hfj j
end Go.Proofs.YtapabahhfanmmaaDoor
