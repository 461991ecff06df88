import Derived.Test.YtapabahhfanmmaaGreatDoorCAct
import Derived.Test.YtapabahhfanmmaaGreatDoorCInv3
import Derived.Test.YtapabahhfanmmaaGreatDoorCBuild
/- A command is taken, or not. -/
namespace Go.Proofs.YtapabahhfanmmaaGreatDoor
open Go.RowKit

/-- What a kind says of a command: it can't; or what its functions answer. -/
structure CanS (tb : Nat) (u : U) (c : Cm) (w : World) (K : Value) (n1 n0 n2 n3 : Nat) (B : Bool) (c' : Cm) : Prop where
  hs : ∀ w, Calls Tryz.prog 193 #[K, .int .i64 c.what] w fun e w' => e = .returned (.tuple #[.agg #[fv n1, fv n0, fv n2, fv n3], .bool true]) ∧ Fr [] w w'
  h1 : ∀ w', Fr [] w w' → Calls Tryz.prog n1 #[.pointer (some ⟨tb, 0, none⟩), u.val, c.val] w' fun e w'' => e = .returned (.bool B) ∧ Fr [] w' w''
  h2 : ∀ w', Calls Tryz.prog n2 #[c.val] w' fun e w'' => e = .returned c'.val ∧ Fr [] w' w''
  f1 : ∀ (args : Array Value) (w : World), (callFunc n1 args).run Tryz.prog w = .ok (.enter n1 args) w
  f2 : ∀ (args : Array Value) (w : World), (callFunc n2 args).run Tryz.prog w = .ok (.enter n2 args) w
def Says (tb : Nat) (u : U) (c : Cm) (w : World) (K : Value) (r : Option (Bool × Cm)) : Prop :=
  (r = none ∧ ∀ w, Calls Tryz.prog 193 #[K, .int .i64 c.what] w fun e w' => e = .returned (.tuple #[sk0, .bool false]) ∧ Fr [] w w') ∨ ∃ n1 n0 n2 n3 B c', r = some (B, c') ∧ CanS tb u c w K n1 n0 n2 n3 B c'
def takeBy (t : T) (p : Int) (c : Cm) (s : U → Option (Bool × Cm)) : Bool × T :=
  match placeOf t.us c.unit with
  | none => (false, t)
  | some i =>
    match t.us[i]? with
    | none => (false, t)
    | some u => if u.owner = p then (match s u with | some (true, c') => (true, { t with us := t.us.set i (u.ordered c') }) | _ => (false, t)) else (false, t)

set_option maxRecDepth 100000 in
set_option maxHeartbeats 8000000 in
theorem take_gen (tb pb cap hb bb : Nat) (t : T) (p : Int) (c : Cm) (s : U → Option (Bool × Cm)) (K : U → Value) (w : World) (h : TS w tb pb cap hb bb t) (hri : Rise t.us)
    (hk : ∀ u ∈ t.us, ∀ w, Calls Tryz.prog 121 #[.int .i64 u.kind] w fun e w' => e = .returned (K u) ∧ Fr [] w w')
    (hs : ∀ u ∈ t.us, Says tb u c w (K u) (s u)) :
    Calls Tryz.prog 151 #[.pointer (some ⟨tb, 0, none⟩), .int .i64 p, c.val] w fun e w' =>
      e = .returned (.bool (takeBy t p c s).1) ∧ Fr [pb] w w' ∧ TS w' tb pb cap hb bb (takeBy t p c s).2 := by
  have hz := h.z
  have hbl := h.ways.lt
  have hhl := h.held.lt
  have htl := h.lt
  have hpl := h.row.lt
  obtain ⟨W1, hW1⟩ : ∃ W, W = w.alloc (.cells #[ii c.unit, ii c.what, ii c.x, ii c.y, ii c.target] 81) := ⟨_, rfl⟩
  have hs1 : W1.heap.size = w.heap.size + 1 := by rw [hW1]; simp
  have h01 : Fr [] w W1 := by rw [hW1]; exact (Fr.refl _ _).alloc _
  have hC : W1.heap[w.heap.size]? = some (.cells #[ii c.unit, ii c.what, ii c.x, ii c.y, ii c.target] 81) := by rw [hW1, hp_new]
  have HS : ∀ w', Fr [] W1 w' → (fun w' : World => w'.cell? ⟨w.heap.size, 0, none⟩ = some (ii c.unit) ∧ Fr [] W1 w') w' := fun w' hf => ⟨cell_of_heap (hf.heap0 hC), hf⟩
  have KF : Fr [] W1 (w.alloc (.cells #[ii c.unit, ii c.what, ii c.x, ii c.y, ii c.target] 81)).drew := by rw [hW1]; exact (Fr.refl _ _).drew
  have K0 := HS _ KF
  clear hW1
  go_enter Tryz.func151, Tryz.ntmps151
  go_wp2_with fail
  go_cut [7, 8] (fun s7 s8 wx => ∃ (i : Nat) (f : Bool), s7 = .int .i64 i ∧ s8 = .bool f ∧ placeOf t.us c.unit = (if f = true then some i else none) ∧ Fr [] W1 wx)
  case first =>
    go_region_held (fun w' : World => w'.cell? ⟨w.heap.size, 0, none⟩ = some (ii c.unit) ∧ Fr [] W1 w')
      (first | with_reducible exact K0 | with_reducible exact HS _ hfr1)
      (first | (go_at_call 152; refine (find_pl tb pb cap t.us c.unit _ (h.gv.fr0 (h01.then0 (And.right (by assumption)))) hri).mono ?_; rintro e w1 ⟨i, f, rfl, hf1, hpl1⟩; have hfr1 : Fr [] W1 w1 := Fr.then0 (And.right (by assumption)) hf1))
    all_goals
      go_wp2_with fail
      go_meet
      exact ⟨i, f, rfl, rfl, hpl1, hfr1⟩
  case rest =>
    obtain ⟨i, f, rfl, rfl, hplace, hfx⟩ := hcut
    have hwx : Fr [] w wc := h01.then0 hfx
    have htx := h.fr0 hwx
    have hcx := hfx.heap0 hC
    clear HS K0 KF
    cases f
    · have hres : takeBy t p c s = (false, t) := by unfold takeBy; rw [hplace]; rfl
      have HRES := (show Hid _ from hres)
      clear hres hplace hk hs
      go_wp2_with fail
      go_ret
      rw [HRES.out]
      exact ⟨rfl, hwx.of0, htx⟩
    · rw [if_pos rfl] at hplace
      obtain ⟨u, hu, huid⟩ := placeOf_get hplace
      have hil : i < t.us.length := (List.getElem?_eq_some_iff.1 hu).1
      have hlen := h.len
      have hcc := htx.gv.c
      obtain ⟨c0, c1, c2, c3, c4, c5, c6, c7, c8, c9, c10⟩ := htx.row.ppl.at hu
      have hres : takeBy t p c s = if u.owner = p then (match s u with | some (true, c') => (true, { t with us := t.us.set i (u.ordered c') }) | _ => (false, t)) else (false, t) := by
        unfold takeBy; rw [hplace]; dsimp only; rw [hu]
      by_cases hop : (u.owner == p) = true
      · rw [if_pos (by simpa using hop)] at hres
        have hku := hk u (List.mem_of_getElem? hu)
        have hsu := hs u (List.mem_of_getElem? hu)
        have HU := (show Hid _ from hu)
        have HRES := (show Hid _ from hres)
        clear hu hk hs hres hplace huid
        go_wp2_with fail
        obtain ⟨W2, hW2⟩ : ∃ W, W = wc.alloc (.cells u.arr 85) := ⟨_, rfl⟩
        rw [← hW2]
        have hf2 : Fr [] wc W2 := by rw [hW2]; exact (Fr.refl _ _).alloc _
        have hU2 : W2.heap[wc.heap.size]? = some (.cells u.arr 85) := by rw [hW2]; exact hp_new _ _
        have hs2 : wc.heap.size < W2.heap.size := by rw [hW2]; simp
        have hC2 := hf2.heap0 hcx
        have ht2 := htx.fr0 hf2
        have hw2 := hwx.then0 hf2
        have hwcl := hwx.size
        have hcl := lt_of_heap hcx
        clear hs1 hW2 hcx htx hfx hcc c0 c1 c2 c3 c4 c5 c6 c7 c8 c9 c10 hwx hC h01 hop
        obtain ⟨b2, hb2⟩ : ∃ b, b = wc.heap.size := ⟨_, rfl⟩
        rw [← hb2] at hU2 hs2 hcl hwcl ⊢
        clear hb2 hf2
        obtain ⟨su, hsu'⟩ : ∃ x, s u = x := ⟨_, rfl⟩
        have HSU := (show Hid _ from hsu')
        rw [hsu'] at hsu
        clear hsu'
        have HS : ∀ w', Fr [] W2 w' → (fun w' : World => w'.cell? ⟨b2, 2, none⟩ = some (ii u.kind) ∧ w'.cell? ⟨w.heap.size, 1, none⟩ = some (ii c.what) ∧ Fr [] W2 w') w' := fun w' hf => ⟨cell_of_heap (hf.heap0 hU2), cell_of_heap (hf.heap0 hC2), hf⟩
        have KF : Fr [] W2 W2.drew := (Fr.refl _ _).drew
        have K0 := HS _ KF
        rcases hsu with ⟨rfl, hs⟩ | ⟨n1, n0, n2, n3, B, c', rfl, hs, h1, h2, f1, f2⟩
        · go_cut [11] (fun s11 wx => s11 = .bool false ∧ Fr [] W2 wx)
          case first =>
            go_region_held (fun w' : World => w'.cell? ⟨b2, 2, none⟩ = some (ii u.kind) ∧ w'.cell? ⟨w.heap.size, 1, none⟩ = some (ii c.what) ∧ Fr [] W2 w')
              (first | exact K0 | exact HS _ hfr2 | exact HS _ (hfr2.alloc _) | exact HS _ hfr1 | exact HS _ (hfr1.alloc _) | exact HS _ (KF.alloc _) | exact HS _ ((((hfr2.setCell _ _ (Or.inr (by first | exact Nat.le_refl _ | exact hfr1.size))).setCell _ _ (Or.inr (by first | exact Nat.le_refl _ | exact hfr1.size))).setCell _ _ (Or.inr (by first | exact Nat.le_refl _ | exact hfr1.size))).setCell _ _ (Or.inr (by first | exact Nat.le_refl _ | exact hfr1.size))))
              (first | (go_at_call 121; refine (hku _).mono ?_; rintro e w1 ⟨rfl, hf1⟩; obtain ⟨hc1, hz1⟩ := hf1.cells0; have q1 : b2 < w1.heap.size := (by have := hf1.size; simp at this; omega); (first | (have q2 : W2.heap.size < w1.heap.size := (by have := hf1.size; simp at this; omega)) | skip); have hfr1 : Fr [] W2 w1 := Fr.then0 (And.right (And.right (by assumption))) hf1) | (go_at_call 193; refine (hs _).mono ?_; rintro e w2 ⟨rfl, hf2⟩; obtain ⟨hc2, hz2⟩ := hf2.cells0; have q3 := hf2.size; have hfr2 : Fr [] W2 w2 := Fr.then0 (And.right (And.right (by assumption))) hf2))
            all_goals
              go_wp2_with fail
              go_meet
              refine ⟨rfl, ?_⟩
              first
              | with_reducible exact hfr2.alloc _
              | exact (((hfr2.setCell _ _ (Or.inr (by first | exact Nat.le_refl _ | exact hfr1.size))).setCell _ _ (Or.inr (by first | exact Nat.le_refl _ | exact hfr1.size))).setCell _ _ (Or.inr (by first | exact Nat.le_refl _ | exact hfr1.size))).setCell _ _ (Or.inr (by first | exact Nat.le_refl _ | exact hfr1.size))
          case rest =>
            obtain ⟨rfl, hf3⟩ := hcut
            clear HS K0 KF hku hs
            go_wp2_with fail
            go_cut [65] (fun s65 wx => s65 = .bool true ∧ Fr [] W2 wx)
            case first =>
              go_quiet (fail)
              go_wp2_with fail
              go_meet
              exact ⟨rfl, hf3.drewN _⟩
            case rest =>
              obtain ⟨rfl, hf4⟩ := hcut
              go_wp2_with fail
              go_ret
              have hres : takeBy t p c s = (false, t) := by rw [HRES.out, HSU.out]
              rw [hres]
              exact ⟨rfl, (hw2.then0 hf4).of0, ht2.fr0 hf4⟩
        · go_cut [10, 11] (fun s10 s11 wx => ∃ g : Nat, s10 = .pointer (some ⟨g, 0, none⟩) ∧ s11 = .bool true ∧ wx.heap[g]? = some (.cells #[fv n1, fv n0, fv n2, fv n3] 217) ∧ b2 < g ∧ Fr [] W2 wx)
          case first =>
            go_region_held (fun w' : World => w'.cell? ⟨b2, 2, none⟩ = some (ii u.kind) ∧ w'.cell? ⟨w.heap.size, 1, none⟩ = some (ii c.what) ∧ Fr [] W2 w')
              (first | exact K0 | exact HS _ hfr2 | exact HS _ (hfr2.alloc _) | exact HS _ hfr1 | exact HS _ (hfr1.alloc _) | exact HS _ (KF.alloc _) | exact HS _ ((((hfr2.setCell _ _ (Or.inr (by first | exact Nat.le_refl _ | exact hfr1.size))).setCell _ _ (Or.inr (by first | exact Nat.le_refl _ | exact hfr1.size))).setCell _ _ (Or.inr (by first | exact Nat.le_refl _ | exact hfr1.size))).setCell _ _ (Or.inr (by first | exact Nat.le_refl _ | exact hfr1.size))))
              (first | (go_at_call 121; refine (hku _).mono ?_; rintro e w1 ⟨rfl, hf1⟩; obtain ⟨hc1, hz1⟩ := hf1.cells0; have q1 : b2 < w1.heap.size := (by have := hf1.size; simp at this; omega); (first | (have q2 : W2.heap.size < w1.heap.size := (by have := hf1.size; simp at this; omega)) | skip); have hfr1 : Fr [] W2 w1 := Fr.then0 (And.right (And.right (by assumption))) hf1) | (go_at_call 193; refine (hs _).mono ?_; rintro e w2 ⟨rfl, hf2⟩; obtain ⟨hc2, hz2⟩ := hf2.cells0; have q3 := hf2.size; have hfr2 : Fr [] W2 w2 := Fr.then0 (And.right (And.right (by assumption))) hf2))
            all_goals
              go_wp2_with fail
              go_meet
              refine ⟨_, rfl, rfl, ?_, ?_, ?_⟩
              · first
                | with_reducible exact hp_new _ _
                | exact set4 (hf2.heap0 (hp_new w1 _)) _ _ _ _
                | exact set4 (hf2.heap0 (hf1.heap0 (hp_new W2 _))) _ _ _ _
              · have := hfr2.size
                omega
              · first
                | with_reducible exact hfr2.alloc _
                | exact (((hfr2.setCell _ _ (Or.inr (by first | exact Nat.le_refl _ | exact hfr1.size))).setCell _ _ (Or.inr (by first | exact Nat.le_refl _ | exact hfr1.size))).setCell _ _ (Or.inr (by first | exact Nat.le_refl _ | exact hfr1.size))).setCell _ _ (Or.inr (by first | exact Nat.le_refl _ | exact hfr1.size))
          case rest =>
            obtain ⟨g, rfl, rfl, hg, hlg, hf3⟩ := hcut
            clear HS K0 KF hku hs
            have hU3 := hf3.heap0 hU2
            have hC3 := hf3.heap0 hC2
            have ht3 := ht2.fr0 hf3
            have hw3 := hw2.then0 hf3
            obtain ⟨W3, hW3⟩ : ∃ W, W = wc := ⟨_, rfl⟩
            rw [← hW3] at hU3 hC3 ht3 hw3 hg ⊢
            clear hW3 hf3 hU2 hC2 ht2 hw2
            have HS : ∀ w', Fr [] W3 w' → (fun w' : World => w'.cell? ⟨g, 0, none⟩ = some (fv n1) ∧ w'.cell? ⟨b2, 0, none⟩ = some (ii u.id) ∧ w'.cell? ⟨b2, 1, none⟩ = some (ii u.owner) ∧ w'.cell? ⟨b2, 2, none⟩ = some (ii u.kind) ∧ w'.cell? ⟨b2, 3, none⟩ = some (ii u.x) ∧ w'.cell? ⟨b2, 4, none⟩ = some (ii u.y) ∧ w'.cell? ⟨b2, 5, none⟩ = some (ii u.life) ∧ w'.cell? ⟨b2, 6, none⟩ = some (ii u.load) ∧ w'.cell? ⟨b2, 7, none⟩ = some (ii u.what) ∧ w'.cell? ⟨b2, 8, none⟩ = some (ii u.tox) ∧ w'.cell? ⟨b2, 9, none⟩ = some (ii u.toy) ∧ w'.cell? ⟨b2, 10, none⟩ = some (ii u.target) ∧ w'.cell? ⟨w.heap.size, 0, none⟩ = some (ii c.unit) ∧ w'.cell? ⟨w.heap.size, 1, none⟩ = some (ii c.what) ∧ w'.cell? ⟨w.heap.size, 2, none⟩ = some (ii c.x) ∧ w'.cell? ⟨w.heap.size, 3, none⟩ = some (ii c.y) ∧ w'.cell? ⟨w.heap.size, 4, none⟩ = some (ii c.target) ∧ Fr [] W3 w') w' := fun w' hf => ⟨cell_of_heap (hf.heap0 hg), cell_of_heap (hf.heap0 hU3), cell_of_heap (hf.heap0 hU3), cell_of_heap (hf.heap0 hU3), cell_of_heap (hf.heap0 hU3), cell_of_heap (hf.heap0 hU3), cell_of_heap (hf.heap0 hU3), cell_of_heap (hf.heap0 hU3), cell_of_heap (hf.heap0 hU3), cell_of_heap (hf.heap0 hU3), cell_of_heap (hf.heap0 hU3), cell_of_heap (hf.heap0 hU3), cell_of_heap (hf.heap0 hC3), cell_of_heap (hf.heap0 hC3), cell_of_heap (hf.heap0 hC3), cell_of_heap (hf.heap0 hC3), cell_of_heap (hf.heap0 hC3), hf⟩
            have KF : Fr [] W3 W3.drew := (Fr.refl _ _).drew
            have K0 := HS _ KF
            go_wp2_with fail
            go_cut [65] (fun s65 wx => s65 = .bool (!B) ∧ Fr [] W3 wx)
            case first =>
              go_region_held (fun w' : World => w'.cell? ⟨g, 0, none⟩ = some (fv n1) ∧ w'.cell? ⟨b2, 0, none⟩ = some (ii u.id) ∧ w'.cell? ⟨b2, 1, none⟩ = some (ii u.owner) ∧ w'.cell? ⟨b2, 2, none⟩ = some (ii u.kind) ∧ w'.cell? ⟨b2, 3, none⟩ = some (ii u.x) ∧ w'.cell? ⟨b2, 4, none⟩ = some (ii u.y) ∧ w'.cell? ⟨b2, 5, none⟩ = some (ii u.life) ∧ w'.cell? ⟨b2, 6, none⟩ = some (ii u.load) ∧ w'.cell? ⟨b2, 7, none⟩ = some (ii u.what) ∧ w'.cell? ⟨b2, 8, none⟩ = some (ii u.tox) ∧ w'.cell? ⟨b2, 9, none⟩ = some (ii u.toy) ∧ w'.cell? ⟨b2, 10, none⟩ = some (ii u.target) ∧ w'.cell? ⟨w.heap.size, 0, none⟩ = some (ii c.unit) ∧ w'.cell? ⟨w.heap.size, 1, none⟩ = some (ii c.what) ∧ w'.cell? ⟨w.heap.size, 2, none⟩ = some (ii c.x) ∧ w'.cell? ⟨w.heap.size, 3, none⟩ = some (ii c.y) ∧ w'.cell? ⟨w.heap.size, 4, none⟩ = some (ii c.target) ∧ Fr [] W3 w')
                (first | with_reducible exact K0 | with_reducible exact HS _ hfr1)
                (first | (refine Calls.mono (h1 _ (hw3.then0 (And.right (And.right (And.right (And.right (And.right (And.right (And.right (And.right (And.right (And.right (And.right (And.right (And.right (And.right (And.right (And.right (And.right (by assumption)))))))))))))))))))) ?_; rintro e w1 ⟨rfl, hf1⟩; have hfr1 : Fr [] W3 w1 := Fr.then0 (And.right (And.right (And.right (And.right (And.right (And.right (And.right (And.right (And.right (And.right (And.right (And.right (And.right (And.right (And.right (And.right (And.right (by assumption)))))))))))))))))) hf1))
              all_goals
                go_wp2_with fail
                go_meet
                exact ⟨rfl, hfr1⟩
            case rest =>
              obtain ⟨rfl, hf4⟩ := hcut
              clear HS K0 KF h1 f1
              have hU4 := hf4.heap0 hU3
              have hC4 := hf4.heap0 hC3
              have ht4 := ht3.fr0 hf4
              have hw4 := hw3.then0 hf4
              have hg4 := hf4.heap0 hg
              obtain ⟨W4, hW4⟩ : ∃ W, W = wc := ⟨_, rfl⟩
              rw [← hW4] at hU4 hC4 ht4 hw4 hg4 ⊢
              clear hW4 hf4 hU3 hC3 ht3 hw3 hg
              cases B
              · have hres : takeBy t p c s = (false, t) := by rw [HRES.out, HSU.out]
                have HR := (show Hid _ from hres)
                clear hres HRES HSU
                go_wp2_with fail
                go_ret
                rw [HR.out]
                exact ⟨rfl, hw4.of0, ht4⟩
              · have hres : takeBy t p c s = (true, { t with us := t.us.set i (u.ordered c') }) := by rw [HRES.out, HSU.out]
                have HR := (show Hid _ from hres)
                clear hres HRES HSU
                have HS : ∀ w', Fr [pb] W4 w' → (fun w' : World => w'.cell? ⟨tb, 148, none⟩ = some (.slice (some ⟨pb, 0, none⟩) t.us.length cap) ∧ w'.cell? ⟨g, 2, none⟩ = some (fv n2) ∧ w'.cell? ⟨b2, 0, none⟩ = some (ii u.id) ∧ w'.cell? ⟨b2, 1, none⟩ = some (ii u.owner) ∧ w'.cell? ⟨b2, 2, none⟩ = some (ii u.kind) ∧ w'.cell? ⟨b2, 3, none⟩ = some (ii u.x) ∧ w'.cell? ⟨b2, 4, none⟩ = some (ii u.y) ∧ w'.cell? ⟨b2, 5, none⟩ = some (ii u.life) ∧ w'.cell? ⟨b2, 6, none⟩ = some (ii u.load) ∧ w'.cell? ⟨b2, 7, none⟩ = some (ii u.what) ∧ w'.cell? ⟨b2, 8, none⟩ = some (ii u.tox) ∧ w'.cell? ⟨b2, 9, none⟩ = some (ii u.toy) ∧ w'.cell? ⟨b2, 10, none⟩ = some (ii u.target) ∧ w'.cell? ⟨w.heap.size, 0, none⟩ = some (ii c.unit) ∧ w'.cell? ⟨w.heap.size, 1, none⟩ = some (ii c.what) ∧ w'.cell? ⟨w.heap.size, 2, none⟩ = some (ii c.x) ∧ w'.cell? ⟨w.heap.size, 3, none⟩ = some (ii c.y) ∧ w'.cell? ⟨w.heap.size, 4, none⟩ = some (ii c.target) ∧ Fr [pb] W4 w') w' := fun w' hf => ⟨(hf.cell tb 148 ht4.lt (by simp; exact ht4.n1)).trans ht4.gv.c, cell_of_heap (hf.heap hg4 (by simp; omega)), cell_of_heap (hf.heap hU4 (by simp; omega)), cell_of_heap (hf.heap hU4 (by simp; omega)), cell_of_heap (hf.heap hU4 (by simp; omega)), cell_of_heap (hf.heap hU4 (by simp; omega)), cell_of_heap (hf.heap hU4 (by simp; omega)), cell_of_heap (hf.heap hU4 (by simp; omega)), cell_of_heap (hf.heap hU4 (by simp; omega)), cell_of_heap (hf.heap hU4 (by simp; omega)), cell_of_heap (hf.heap hU4 (by simp; omega)), cell_of_heap (hf.heap hU4 (by simp; omega)), cell_of_heap (hf.heap hU4 (by simp; omega)), cell_of_heap (hf.heap hC4 (by simp; omega)), cell_of_heap (hf.heap hC4 (by simp; omega)), cell_of_heap (hf.heap hC4 (by simp; omega)), cell_of_heap (hf.heap hC4 (by simp; omega)), cell_of_heap (hf.heap hC4 (by simp; omega)), hf⟩
                have KF : Fr [] W4 W4.drew := (Fr.refl _ _).drew
                have K0 := HS _ KF.of0
                have hpm : pb ∈ [pb] ∨ W4.heap.size ≤ pb := Or.inl (by simp)
                go_wp2_with fail
                go_cut [] (fun wx => Fr [pb] w wx ∧ TS wx tb pb cap hb bb { t with us := t.us.set i (u.ordered c') })
                case first =>
                  go_region_held (fun w' : World => w'.cell? ⟨tb, 148, none⟩ = some (.slice (some ⟨pb, 0, none⟩) t.us.length cap) ∧ w'.cell? ⟨g, 2, none⟩ = some (fv n2) ∧ w'.cell? ⟨b2, 0, none⟩ = some (ii u.id) ∧ w'.cell? ⟨b2, 1, none⟩ = some (ii u.owner) ∧ w'.cell? ⟨b2, 2, none⟩ = some (ii u.kind) ∧ w'.cell? ⟨b2, 3, none⟩ = some (ii u.x) ∧ w'.cell? ⟨b2, 4, none⟩ = some (ii u.y) ∧ w'.cell? ⟨b2, 5, none⟩ = some (ii u.life) ∧ w'.cell? ⟨b2, 6, none⟩ = some (ii u.load) ∧ w'.cell? ⟨b2, 7, none⟩ = some (ii u.what) ∧ w'.cell? ⟨b2, 8, none⟩ = some (ii u.tox) ∧ w'.cell? ⟨b2, 9, none⟩ = some (ii u.toy) ∧ w'.cell? ⟨b2, 10, none⟩ = some (ii u.target) ∧ w'.cell? ⟨w.heap.size, 0, none⟩ = some (ii c.unit) ∧ w'.cell? ⟨w.heap.size, 1, none⟩ = some (ii c.what) ∧ w'.cell? ⟨w.heap.size, 2, none⟩ = some (ii c.x) ∧ w'.cell? ⟨w.heap.size, 3, none⟩ = some (ii c.y) ∧ w'.cell? ⟨w.heap.size, 4, none⟩ = some (ii c.target) ∧ Fr [pb] W4 w')
                    (first | with_reducible exact K0 | with_reducible exact hS1 | with_reducible exact hS2 | (with_reducible refine HS _ ?_; with_reducible exact (((((((((((hfr2p.setCell _ _ hpm).setCell _ _ hpm).setCell _ _ hpm).setCell _ _ hpm).setCell _ _ hpm).setCell _ _ hpm).setCell _ _ hpm).setCell _ _ hpm).setCell _ _ hpm).setCell _ _ hpm).setCell _ _ hpm)))
                    (first | (go_at_call 194; refine (ordered_any u c' _).mono ?_; rintro e w2 ⟨rfl, hf2⟩; have hfr2 : Fr [] W4 w2 := hfr1.then0 hf2; have hfr2p : Fr [pb] W4 w2 := hfr2.of0; have hS2 := HS w2 hfr2p; have ht5 := ht4.fr0 hfr2; obtain ⟨c0, c1, c2, c3, c4, c5, c6, c7, c8, c9, c10⟩ := ht5.row.ppl.at HU.out; have hfz := ht5.row.fz) | (refine Calls.mono (h2 _) ?_; rintro e w1 ⟨rfl, hf1⟩; have hfr1 : Fr [] W4 w1 := KF.then0 hf1; have hS1 := HS w1 hfr1.of0))
                  all_goals
                    go_wp2_with fail
                    go_meet
                    have hw5 : Fr [pb] w w2 := (hw4.then0 hfr2).of0
                    refine ⟨?_, ?_⟩
                    · with_reducible exact (((((((((((hw5.setCell _ _ (Or.inl (by simp))).setCell _ _ (Or.inl (by simp))).setCell _ _ (Or.inl (by simp))).setCell _ _ (Or.inl (by simp))).setCell _ _ (Or.inl (by simp))).setCell _ _ (Or.inl (by simp))).setCell _ _ (Or.inl (by simp))).setCell _ _ (Or.inl (by simp))).setCell _ _ (Or.inl (by simp))).setCell _ _ (Or.inl (by simp))).setCell _ _ (Or.inl (by simp)))
                    · exact ht5.putU hil (u.ordered c')
                case rest =>
                  obtain ⟨hf5, ht5⟩ := hcut
                  go_wp2_with fail
                  go_ret
                  rw [HR.out]
                  exact ⟨rfl, hf5, ht5⟩
      · have hop' : (u.owner == p) = false := by simpa using hop
        rw [if_neg (by simpa using hop)] at hres
        have HRES := (show Hid _ from hres)
        clear hres hplace hk hs hu hop
        go_wp2_with fail
        go_ret
        rw [HRES.out]
        exact ⟨rfl, hwx.of0, htx⟩
end Go.Proofs.YtapabahhfanmmaaGreatDoor
/- A command is taken, or not: whatever it says. -/
namespace Go.Proofs.YtapabahhfanmmaaGreatDoor
open Go.RowKit

def canB (u : U) (c : Cm) : Bool := c.what == 0 || (c.what == 1 && (u.kind == 2 || u.kind == 3)) || (c.what == 2 && u.kind == 2) || (c.what == 3 && u.kind == 3) || (c.what == 4 && u.kind == 1)
def sOf (t : T) (c : Cm) (u : U) : Option (Bool × Cm) := if canB u c = true then some (takesB t u c, keptC c) else none
def kOf (u : U) : Value := if u.kind = 1 then kind1 else if u.kind = 2 then kind2 else kind3

theorem takeBy_is (t : T) (p : Int) (c : Cm) : takeBy t p c (sOf t c) = takeT t p c := by
  unfold takeBy takeT
  cases placeOf t.us c.unit with
  | none => rfl
  | some i =>
    dsimp only
    cases t.us[i]? with
    | none => rfl
    | some u =>
      dsimp only
      by_cases ho : u.owner = p
      · simp only [ho, if_true, true_and]
        unfold sOf
        by_cases hc : canB u c = true
        · rw [if_pos hc]
          cases takesB t u c <;> rfl
        · rw [if_neg hc]
          have : takesB t u c = false := by
            unfold takesB
            unfold canB at hc
            simp at hc
            split
            · rename_i e; exact absurd e hc.1.1.1.1
            · split
              · rename_i e; simp; intro h; have := hc.1.1.1.2 e; omega
              · split
                · rename_i e; simp; intro h; exact absurd h (hc.1.1.2 e)
                · split
                  · rename_i e; simp; intro h; exact absurd h (hc.1.2 e)
                  · split
                    · rename_i e; simp; intro h; exact absurd h (hc.2 e)
                    · rfl
          rw [this]
          simp
      · simp [ho]

theorem what_cases (x : Int) : x < 0 ∨ 5 ≤ x ∨ x = 0 ∨ x = 1 ∨ x = 2 ∨ x = 3 ∨ x = 4 := by omega

theorem says_any (tb pb cap hb bb : Nat) (t : T) (c : Cm) (u : U) (w : World) (h : TS w tb pb cap hb bb t) (hri : Rise t.us) (hkd : u.kind = 1 ∨ u.kind = 2 ∨ u.kind = 3) : Says tb u c w (kOf u) (sOf t c u) := by
  have hbd : BdAt w tb t.bd := h.tv.b
  have htl := h.lt
  have any0 : c.what = 0 → ∀ w', Fr [] w w' → Calls Tryz.prog 167 #[.pointer (some ⟨tb, 0, none⟩), u.val, c.val] w' fun e w'' => e = .returned (.bool (takesB t u c)) ∧ Fr [] w' w'' := fun e w' _ => by
    have : takesB t u c = true := by unfold takesB; rw [if_pos e]
    rw [this]
    exact takesAny_any _ u c w'
  have mv : c.what = 1 → (u.kind = 2 ∨ u.kind = 3) → ∀ w', Fr [] w w' → Calls Tryz.prog 157 #[.pointer (some ⟨tb, 0, none⟩), u.val, c.val] w' fun e w'' => e = .returned (.bool (takesB t u c)) ∧ Fr [] w' w'' := fun e ek w' hf => by
    have : takesB t u c = (onB c.x c.y && (t.bd (ci c.x c.y) != 10)) := by
      unfold takesB
      rw [if_neg (by omega), if_pos e]
      rcases ek with ek | ek <;> simp [ek]
    rw [this]
    exact takesMove_any tb t.bd u c w' (hbd.fr hf (by simp)) (Nat.lt_of_lt_of_le htl hf.size)
  have k0 : c.what = 0 → ∀ w', Calls Tryz.prog 168 #[c.val] w' fun e w'' => e = .returned (keptC c).val ∧ Fr [] w' w'' := fun e w' => by
    have : keptC c = ⟨c.unit, c.what, 0, 0, 0⟩ := by unfold keptC; rw [if_pos e]
    rw [this]
    exact keepsNothing_any c w'
  have kc : c.what = 1 ∨ c.what = 2 → ∀ w', Calls Tryz.prog 158 #[c.val] w' fun e w'' => e = .returned (keptC c).val ∧ Fr [] w' w'' := fun e w' => by
    have : keptC c = ⟨c.unit, c.what, c.x, c.y, 0⟩ := by unfold keptC; rw [if_neg (by omega), if_neg (by omega), if_neg (by omega)]
    rw [this]
    exact keepsCell_any c w'
  have out : (c.what < 0 ∨ 5 ≤ c.what) → canB u c = false := fun e => by
    have e0 : (c.what == 0) = false := by simp; omega
    have e1 : (c.what == 1) = false := by simp; omega
    have e2 : (c.what == 2) = false := by simp; omega
    have e3 : (c.what == 3) = false := by simp; omega
    have e4 : (c.what == 4) = false := by simp; omega
    unfold canB
    simp [e0, e1, e2, e3, e4]
  unfold kOf sOf
  rcases hkd with ek | ek | ek
  · rw [if_pos ek]
    rcases what_cases c.what with e | e | e | e | e | e | e
    · rw [out (Or.inl e), if_neg (by simp)]; exact Or.inl ⟨rfl, fun w => skill_out _ c.what w (Or.inl e)⟩
    · rw [out (Or.inr e), if_neg (by simp)]; exact Or.inl ⟨rfl, fun w => skill_out _ c.what w (Or.inr e)⟩
    · rw [if_pos (by simp [canB, e])]
      exact Or.inr ⟨167, 167, 168, 169, _, _, rfl, fun w => by rw [e]; exact skill_10 w, any0 e, k0 e, fun _ _ => by kernel_rfl, fun _ _ => by kernel_rfl⟩
    · rw [if_neg (by simp [canB, e, ek])]; exact Or.inl ⟨rfl, fun w => by rw [e]; exact skill_11 w⟩
    · rw [if_neg (by simp [canB, e, ek])]; exact Or.inl ⟨rfl, fun w => by rw [e]; exact skill_12 w⟩
    · rw [if_neg (by simp [canB, e, ek])]; exact Or.inl ⟨rfl, fun w => by rw [e]; exact skill_13 w⟩
    · rw [if_pos (by simp [canB, e, ek])]
      refine Or.inr ⟨154, 154, 155, 156, _, _, rfl, fun w => by rw [e]; exact skill_14 w, fun w' _ => ?_, fun w' => ?_, fun _ _ => by kernel_rfl, fun _ _ => by kernel_rfl⟩
      · have : takesB t u c = (c.x == 2 || c.x == 3) := by
          unfold takesB
          rw [if_neg (by omega), if_neg (by omega), if_neg (by omega), if_neg (by omega), if_pos e]
          simp [ek]
        rw [this]
        exact takesBuild_any _ u c w'
      · have : keptC c = ⟨c.unit, c.what, c.x, 0, 0⟩ := by unfold keptC; rw [if_neg (by omega), if_neg (by omega), if_pos e]
        rw [this]
        exact keepsKind_any c w'
  · rw [if_neg (by omega), if_pos ek]
    rcases what_cases c.what with e | e | e | e | e | e | e
    · rw [out (Or.inl e), if_neg (by simp)]; exact Or.inl ⟨rfl, fun w => skill_out _ c.what w (Or.inl e)⟩
    · rw [out (Or.inr e), if_neg (by simp)]; exact Or.inl ⟨rfl, fun w => skill_out _ c.what w (Or.inr e)⟩
    · rw [if_pos (by simp [canB, e])]
      exact Or.inr ⟨167, 167, 168, 169, _, _, rfl, fun w => by rw [e]; exact skill_20 w, any0 e, k0 e, fun _ _ => by kernel_rfl, fun _ _ => by kernel_rfl⟩
    · rw [if_pos (by simp [canB, e, ek])]
      exact Or.inr ⟨157, 157, 158, 159, _, _, rfl, fun w => by rw [e]; exact skill_21 w, mv e (Or.inl ek), kc (Or.inl e), fun _ _ => by kernel_rfl, fun _ _ => by kernel_rfl⟩
    · rw [if_pos (by simp [canB, e, ek])]
      refine Or.inr ⟨160, 161, 158, 162, _, _, rfl, fun w => by rw [e]; exact skill_22 w, fun w' hf => ?_, kc (Or.inr e), fun _ _ => by kernel_rfl, fun _ _ => by kernel_rfl⟩
      have : takesB t u c = (onB c.x c.y && (decide (0 < t.bd (ci c.x c.y)) && decide (t.bd (ci c.x c.y) < 10))) := by
        unfold takesB oreB
        rw [if_neg (by omega), if_neg (by omega), if_pos e]
        simp [ek]
      rw [this]
      exact takesMine_any tb t.bd u c w' (hbd.fr hf (by simp)) (Nat.lt_of_lt_of_le htl hf.size)
    · rw [if_neg (by simp [canB, e, ek])]; exact Or.inl ⟨rfl, fun w => by rw [e]; exact skill_23 w⟩
    · rw [if_neg (by simp [canB, e, ek])]; exact Or.inl ⟨rfl, fun w => by rw [e]; exact skill_24 w⟩
  · rw [if_neg (by omega), if_neg (by omega)]
    rcases what_cases c.what with e | e | e | e | e | e | e
    · rw [out (Or.inl e), if_neg (by simp)]; exact Or.inl ⟨rfl, fun w => skill_out _ c.what w (Or.inl e)⟩
    · rw [out (Or.inr e), if_neg (by simp)]; exact Or.inl ⟨rfl, fun w => skill_out _ c.what w (Or.inr e)⟩
    · rw [if_pos (by simp [canB, e])]
      exact Or.inr ⟨167, 167, 168, 169, _, _, rfl, fun w => by rw [e]; exact skill_30 w, any0 e, k0 e, fun _ _ => by kernel_rfl, fun _ _ => by kernel_rfl⟩
    · rw [if_pos (by simp [canB, e, ek])]
      exact Or.inr ⟨157, 157, 158, 159, _, _, rfl, fun w => by rw [e]; exact skill_31 w, mv e (Or.inr ek), kc (Or.inl e), fun _ _ => by kernel_rfl, fun _ _ => by kernel_rfl⟩
    · rw [if_neg (by simp [canB, e, ek])]; exact Or.inl ⟨rfl, fun w => by rw [e]; exact skill_32 w⟩
    · rw [if_pos (by simp [canB, e, ek])]
      refine Or.inr ⟨163, 164, 165, 166, _, _, rfl, fun w => by rw [e]; exact skill_33 w, fun w' hf => ?_, fun w' => ?_, fun _ _ => by kernel_rfl, fun _ _ => by kernel_rfl⟩
      · have : takesB t u c = hitB t.us u.owner c.target := by
          unfold takesB
          rw [if_neg (by omega), if_neg (by omega), if_neg (by omega), if_pos e]
          simp [ek]
        rw [this]
        exact takesHit_any tb pb cap t.us u c w' (h.fr0 hf).gv hri
      · have : keptC c = ⟨c.unit, c.what, 0, 0, c.target⟩ := by unfold keptC; rw [if_neg (by omega), if_pos e]
        rw [this]
        exact keepsTarget_any c w'
    · rw [if_neg (by simp [canB, e, ek])]; exact Or.inl ⟨rfl, fun w => by rw [e]; exact skill_34 w⟩
theorem kOf_any (u : U) (hkd : u.kind = 1 ∨ u.kind = 2 ∨ u.kind = 3) (w : World) : Calls Tryz.prog 121 #[.int .i64 u.kind] w fun e w' => e = .returned (kOf u) ∧ Fr [] w w' := by
  unfold kOf
  rcases hkd with ek | ek | ek
  · rw [ek, if_pos rfl]; exact kindOf_1 w
  · rw [ek, if_neg (by omega), if_pos rfl]; exact kindOf_2 w
  · rw [ek, if_neg (by omega), if_neg (by omega)]; exact kindOf_3 w
theorem take_any (tb pb cap hb bb : Nat) (t : T) (p : Int) (c : Cm) (w : World) (h : TS w tb pb cap hb bb t) (hok : TOk t) :
    Calls Tryz.prog 151 #[.pointer (some ⟨tb, 0, none⟩), .int .i64 p, c.val] w fun e w' =>
      e = .returned (.bool (takeT t p c).1) ∧ Fr [pb] w w' ∧ TS w' tb pb cap hb bb (takeT t p c).2 := by
  rw [← takeBy_is]
  exact take_gen tb pb cap hb bb t p c (sOf t c) kOf w h hok.rise (fun u hu => kOf_any u (hok.all u hu).kd) (fun u hu => says_any tb pb cap hb bb t c u w h hok.rise (hok.all u hu).kd)
end Go.Proofs.YtapabahhfanmmaaGreatDoor
/- A player's commands. -/
namespace Go.Proofs.YtapabahhfanmmaaGreatDoor
open Go.RowKit

/-- A list of commands in memory. -/
def Cmds (w : World) (b : Nat) (l : List Cm) : Prop := ∀ (i : Nat) (h : i < l.length), w.rangeAt b (i * 5) (l[i]'h).cells
theorem Cmds.fr {S : List Nat} {w w' : World} {b : Nat} {l : List Cm} (h : Cmds w b l) (hf : Fr S w w') (hn : b ∉ S) : Cmds w' b l := fun i hi j v hv => by
  have h1 := h i hi j v hv
  rw [hf.cell b _ (lt_of_cell h1) hn]; exact h1
theorem Cmds.at {w : World} {b k : Nat} {l : List Cm} {c : Cm} (h : Cmds w b l) (hk : l[k]? = some c) :
    w.cell? ⟨b, k * 5, none⟩ = some (ii c.unit) ∧ w.cell? ⟨b, k * 5 + 1, none⟩ = some (ii c.what) ∧ w.cell? ⟨b, k * 5 + 2, none⟩ = some (ii c.x) ∧ w.cell? ⟨b, k * 5 + 3, none⟩ = some (ii c.y) ∧ w.cell? ⟨b, k * 5 + 4, none⟩ = some (ii c.target) := by
  obtain ⟨hl, rfl⟩ := List.getElem?_eq_some_iff.1 hk
  have h1 := h k hl
  exact ⟨h1 0 _ rfl, h1 1 _ rfl, h1 2 _ rfl, h1 3 _ rfl, h1 4 _ rfl⟩
abbrev ints (l : List Nat) : List Value := l.map fun (n : Nat) => ii (n : Int)
theorem infoI : (Tryz.prog.info? 3).map (fun i => (i.zero, i.size, i.bytes)) = some (some (ii 0), 1, 8) := by kernel_rfl
theorem own_base {w : World} {base n : Nat} {e : TypeId} {size : Nat} {v : Value} {xs : List Value} (h : w.ownsRow base e size v n xs) {b : Nat} (hb : v.ownBlock = some b) : base ≤ b := by
  rcases h.2 with ⟨h1, _⟩ | ⟨g, cap, cur, rfl, h1, _⟩
  · rw [h1] at hb; simp [Value.ownBlock] at hb
  · simp [Value.ownBlock] at hb; omega
theorem cmdAll_cons (p : Int) (k : Nat) (c : Cm) (l : List Cm) (t : T) : cmdAll p k (c :: l) t = (if (takeT t p c).1 = true then (cmdAll p (k + 1) l (takeT t p c).2).1 else k :: (cmdAll p (k + 1) l (takeT t p c).2).1, (cmdAll p (k + 1) l (takeT t p c).2).2) := rfl

structure CmdI (w : World) (tb pb cap hb bb : Nat) (p : Int) (t : T) (l : List Cm) (k : Nat) (v : Value) (wr : World) : Prop where
  ex : ∃ t' rs, TS wr tb pb cap hb bb t' ∧ TOk t' ∧ rs.length ≤ k ∧ wr.ownsRow w.heap.size 3 1 v rs.length (ints rs) ∧ (rs ++ (cmdAll p k (l.drop k) t').1, (cmdAll p k (l.drop k) t').2) = cmdAll p 0 l t
  fr : Fr [pb] w wr

set_option maxRecDepth 100000 in
set_option maxHeartbeats 2000000 in
theorem command_any (tb pb cap hb bb lb lc : Nat) (t : T) (p : Int) (l : List Cm) (w : World) (h : TS w tb pb cap hb bb t) (hok : TOk t) (hl : Cmds w lb l) (hlb : lb < w.heap.size) (hlp : lb ≠ pb) (hlen : l.length ≤ 1000) :
    Calls Tryz.prog 118 #[.pointer (some ⟨tb, 0, none⟩), .int .i64 p, .slice (some ⟨lb, 0, none⟩) l.length lc] w fun e w' =>
      ∃ v, e = .returned v ∧ Fr [pb] w w' ∧ TS w' tb pb cap hb bb (cmdAll p 0 l t).2 ∧ w'.ownsRow w.heap.size 3 1 v (cmdAll p 0 l t).1.length (ints (cmdAll p 0 l t).1) := by
  obtain ⟨inf, hi0, hz0, hz1, hz2⟩ := info_parts infoI
  have hpl := h.row.lt
  go_enter Tryz.func118, Tryz.ntmps118
  go_wp2_with fail
  go_loopw [7, 12] (fun v i wr => ∃ k : Nat, k ≤ l.length ∧ i = .int .i64 k ∧ CmdI w tb pb cap hb bb p t l k v wr) (fun _ i _ => l.length - (intOf i).toNat)
  case atStart => exact ⟨0, Nat.zero_le _, rfl, ⟨t, [], h, hok, Nat.le_refl _, ⟨rfl, Or.inl ⟨rfl, rfl⟩⟩, by simp⟩, Fr.refl _ _⟩
  case round =>
    obtain ⟨k, hk, rfl, hI⟩ := hrel
    obtain ⟨⟨t', rs, ht, hok', hrl, hown, hall⟩, hfr⟩ := hI
    by_cases hlt : k < l.length
    · obtain ⟨c, hc⟩ : ∃ c, l[k]? = some c := ⟨l[k], List.getElem?_eq_getElem hlt⟩
      have hdrop : l.drop k = c :: l.drop (k + 1) := by
        rw [List.drop_eq_getElem_cons hlt]
        congr 1
        rw [List.getElem?_eq_getElem hlt] at hc
        exact Option.some.inj hc
      rw [hdrop, cmdAll_cons] at hall
      obtain ⟨c0, c1, c2, c3, c4⟩ := (hl.fr hfr (by simp; exact hlp)).at hc
      have htake := take_any tb pb cap hb bb t' p c (wr.alloc (.cells #[ii c.unit, ii c.what, ii c.x, ii c.y, ii c.target] 81)) (ht.fr0 ((Fr.refl _ _).alloc _)) hok'
      have hgood := (take_ok hok' p c (fun _ => True)).1.ok
      have hlbl : lb < wr.heap.size := Nat.lt_of_lt_of_le hlb hfr.size
      obtain ⟨B, hB⟩ : ∃ B, (takeT t' p c).1 = B := ⟨_, rfl⟩
      obtain ⟨t2, ht2⟩ : ∃ x, (takeT t' p c).2 = x := ⟨_, rfl⟩
      rw [hB, ht2] at htake hall
      rw [ht2] at hgood
      have HT := (show Hid _ from htake)
      have HO := (show Hid _ from hown)
      have HALL := (show Hid _ from hall)
      have HF := (show Hid _ from hfr)
      clear ht hall hdrop hc hfr htake hB ht2 hown hok' hl
      have hwr := HF.out.size
      have HN : Hid (∀ (W : World) (j : Nat) (u : Value), [ii (k : Int)][j]? = some u → (W.alloc (.cells #[.int .i64 k] 3)).cell? ((⟨W.heap.size, 0, none⟩ : Addr).add j) = some u) := by
        intro W j u hu
        have hj : j = 0 := by
          have := (List.getElem?_eq_some_iff.1 hu).1
          simp at this
          exact this
        subst hj
        rw [Addr.add_lit, cell_of_heap (hp_new W _)]
        simpa using hu
      have hb1 : ∀ b, u7.ownBlock = some b → w.heap.size ≤ b := fun b hb => own_base HO.out hb
      have HB1 := (show Hid _ from hb1)
      have HOW : Hid (∀ w2, Fr [pb] (wr.alloc (.cells #[ii c.unit, ii c.what, ii c.x, ii c.y, ii c.target] 81)) w2 → (w2.alloc (.cells #[.int .i64 k] 3)).ownsRow w.heap.size 3 1 u7 rs.length (ints rs)) := fun w2 hf => owns_fr (owns_fr (owns_fr HO.out ((Fr.refl [] wr).alloc _) (by simp)) hf (fun b hb => by have := hb1 b hb; simp; omega)) ((Fr.refl [] w2).alloc _) (by simp)
      clear hb1
      cases B
      · go_wp2_with (first | (go_at_call 151; refine Calls.mono HT.out ?_; rintro e w2 ⟨rfl, hf2, hts2⟩) | (at_builtin; refine wpList_append_own _ rfl _ _ 25 rfl w.heap.size 3 inf (ii 0) 1 8 Tryz.underlying25 hi0 hz0 hz1 hz2 rfl (by decide) u7 rs.length (ints rs) rfl (HOW.out _ hf2) ⟨w2.heap.size, 0, none⟩ 1 1 [ii (k : Int)] rfl rfl (HN.out w2) (by simp [Value.oneCell']) (by unfold maxLen; omega) (by omega) (by have := hf2.size; simp at this ⊢; omega) ?_; intro v' w3 hown3 hgrow hnil3))
        have hf3 : Fr u7.ownBlock.toList w2 w3 := ((Fr.refl _ _).alloc _).grow hgrow (fun g hg => Or.inl (by simp [hg]))
        have hw2 : Fr [pb] w w2 := (HF.out.alloc _).trans hf2 (by simp)
        have hw3 : Fr [pb] w w3 := hw2.trans hf3 (fun b hb => Or.inr (HB1.out b (by simpa using hb)))
        have htl := h.lt
        have hhl := h.held.lt
        have hbl := h.ways.lt
        have hno : ∀ b, b < w.heap.size → b ∉ u7.ownBlock.toList := fun b hb hm => by
          have := HB1.out b (by simpa using hm)
          omega
        go_roundw
        case rel =>
          refine ⟨k + 1, hlt, by go_num, ⟨t2, rs ++ [k], hts2.fr hf3 (hno _ htl) (hno _ hpl) (hno _ hhl) (hno _ hbl), hgood, by simp; omega, ?_, ?_⟩, hw3⟩
          · simpa using hown3
          · have := HALL.out
            simpa using this
        case measure => simp [intOf]; omega
      · go_wp2_with (first | (go_at_call 151; refine Calls.mono HT.out ?_; rintro e w2 ⟨rfl, hf2, hts2⟩))
        have hw2 : Fr [pb] w w2 := (HF.out.alloc _).trans hf2 (by simp)
        go_roundw
        case rel =>
          refine ⟨k + 1, hlt, by go_num, ⟨t2, rs, hts2, hgood, by omega, ?_, ?_⟩, hw2⟩
          · exact owns_fr (owns_fr HO.out ((Fr.refl [] wr).alloc _) (by simp)) hf2 (fun b hb => by have := HB1.out b hb; simp; omega)
          · have := HALL.out
            simpa using this
        case measure => simp [intOf]; omega
    · have hall' := hall
      rw [List.drop_of_length_le (by omega)] at hall'
      go_wp2_with fail
      go_ret
      have hall2 : (rs, t') = cmdAll p 0 l t := by simpa [cmdAll] using hall'
      refine ⟨u7, rfl, hfr, ?_, ?_⟩
      · rw [← hall2]; exact ht
      · rw [← hall2]; exact hown
end Go.Proofs.YtapabahhfanmmaaGreatDoor
