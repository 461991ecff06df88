import Derived.Test.YtapabahhfanmmaaGreatDoorCCells
import Derived.Test.YtapabahhfanmmaaGreatDoorRows
import Derived.ProofKit
import Derived.LaidMore
import Derived.OpenShut
import Derived.Carry
import Derived.Stop.Joined
import Derived.Deep.Slices
/- From a law's walk to its row. -/
namespace Go.Proofs.YtapabahhfanmmaaGreatDoor
open Go.ChangeShapes Go.WideShapes Go.ChangeAt Go.WideMaps Go.WideElems Go.RowKit

abbrev laidS : List (String × DataW Unit) := [("skirmish/land.sides", Rows.laid_skirmish_land_sides)]
theorem ownK : ownKnob Tryz.prog.godebug = none := by kernel_rfl
theorem gSides : Tryz.prog.globalNamed "skirmish/land.sides" = some 0 := by kernel_rfl
theorem tSides : (Tryz.prog.globals[0]?).map (·.type) = some 284 := by kernel_rfl
theorem laidOutT : laidOutB Tryz.prog = true := by kernel_rfl

theorem eight_of {l : List Value} (h : l.length = 8) : ∃ a0 a1 a2 a3 a4 a5 a6 a7, l = [a0, a1, a2, a3, a4, a5, a6, a7] := by
  match l, h with
  | [a0, a1, a2, a3, a4, a5, a6, a7], _ => exact ⟨a0, a1, a2, a3, a4, a5, a6, a7, rfl⟩

set_option maxRecDepth 100000 in
theorem of_laid {W : World} (h : laidMetH Tryz.prog laidS W) : Sd W := by
  rw [MakeChecks.laidMetH_plain _ _ _ (by kernel_rfl)] at h
  obtain ⟨ps, ⟨g0, t0, cs0, f0, p0, q0, hg0, ht0, hv0, hd0, _, _⟩, _, _⟩ := h
  obtain rfl := Option.some.inj (gSides.symm.trans hg0)
  obtain rfl := Option.some.inj (tSides.symm.trans ht0)
  obtain ⟨xs, m1, rfl, hx1, hlen, hn4, hel⟩ := DataW.trod_array Tryz.underlying284 hd0
  have cC : Tryz.prog.cellsOf 159 = 2 := by kernel_rfl
  have cI : Tryz.prog.cellsOf 3 = 1 := by kernel_rfl
  have cS : Tryz.prog.cellsOf 284 = 8 := by kernel_rfl
  rw [cS] at hlen
  obtain ⟨l0⟩ := cs0
  obtain ⟨a0, a1, a2, a3, a4, a5, a6, a7, rfl⟩ := eight_of hlen
  clear hlen
  clear hd0
  · dsimp only at hel
    have each : ∀ i, i < 4 → ∃ p q : Int, xs[i]?.map (·.1) = some (.agg [.lit (.int .i64 p), .lit (.int .i64 q)]) ∧ ([a0, a1, a2, a3, a4, a5, a6, a7].drop (i * 2)).take 2 = [.int .i64 p, .int .i64 q] := by
      intro i hi
      have h1 := hel i hi
      rw [cC] at h1
      obtain ⟨x, hx⟩ : ∃ x, xs[i]? = some x := ⟨_, List.getElem?_eq_getElem (by omega)⟩
      rw [hx] at h1
      obtain ⟨y0, y1, n, rfl, _, e0, e1⟩ := trod_struct2 Tryz.underlying159 h1
      obtain ⟨p, ep, rfl, _⟩ := DataW.trod_int Tryz.underlying3 e0
      obtain ⟨q, eq, rfl, _⟩ := DataW.trod_int Tryz.underlying3 e1
      refine ⟨p, q, by rw [hx]; rfl, ?_⟩
      rw [cI] at ep eq
      have hi4 : i = 0 ∨ i = 1 ∨ i = 2 ∨ i = 3 := by omega
      rcases hi4 with rfl | rfl | rfl | rfl <;> simp at ep eq ⊢ <;> exact ⟨ep, eq⟩
    obtain ⟨p0, q0, x0, y0⟩ := each 0 (by omega)
    obtain ⟨p1, q1, x1, y1⟩ := each 1 (by omega)
    obtain ⟨p2, q2, x2, y2⟩ := each 2 (by omega)
    obtain ⟨p3, q3, x3, y3⟩ := each 3 (by omega)
    have hxs : xs.map (·.1) = [.agg [.lit (.int .i64 p0), .lit (.int .i64 q0)], .agg [.lit (.int .i64 p1), .lit (.int .i64 q1)], .agg [.lit (.int .i64 p2), .lit (.int .i64 q2)], .agg [.lit (.int .i64 p3), .lit (.int .i64 q3)]] := by
      match xs, hn4, x0, x1, x2, x3 with
      | [z0, z1, z2, z3], _, x0, x1, x2, x3 =>
        simp at x0 x1 x2 x3 ⊢
        exact ⟨x0, x1, x2, x3⟩
    rw [hxs] at hx1
    simp only [Rows.laid_skirmish_land_sides, Prod.mk.injEq, DataW.agg.injEq, List.cons.injEq, DataW.lit.injEq, Lit.int.injEq] at hx1
    simp at y0 y1 y2 y3
    obtain ⟨⟨⟨⟨_, rfl⟩, ⟨_, rfl⟩, _⟩, ⟨⟨_, rfl⟩, ⟨_, rfl⟩, _⟩, ⟨⟨_, rfl⟩, ⟨_, rfl⟩, _⟩, ⟨⟨_, rfl⟩, ⟨_, rfl⟩, _⟩, _⟩, _⟩ := hx1
    obtain ⟨rfl, rfl⟩ := y0
    obtain ⟨rfl, rfl⟩ := y1
    obtain ⟨rfl, rfl⟩ := y2
    obtain ⟨rfl, rfl⟩ := y3
    intro j v hv
    have := World.var?_cell hg0 hv0 j
    rw [Nat.zero_add, this]
    simpa using hv

/-- The call has left all that was there as it was: what came in reads as it did. -/
theorem post_fr {H : Type} {enc : TypeId × Value → H} {P : Program} {f : Func} {s : ChangeSpec} {apart fresh handsOn again : Bool} {W W' : World} {args : Array Value} {v : Value} {ds gs : List (DataW H)} {before pa pv : List MemPlace}
    (hW : DataW.Whole enc P f.params.toList s.vars apart W args.toList ds gs before)
    (hres : ∀ (b : Nat) (sp : Nat → Bool) (hd : Bool), DataW.TrodAll enc P W' b sp hd f.resultTypes.toList (v.resultList f.resultTypes.size) (s.fn H (ds ++ gs)).results [])
    (hargs : ∀ sp : Nat → Bool, (∀ p ∈ before, sp p.block = true) → DataW.TrodAll enc P W' 0 sp true f.params.toList args.toList (s.fn H (ds ++ gs)).args pa)
    (hvars : ∀ sp : Nat → Bool, (∀ p ∈ before, sp p.block = true) → DataW.TrodVars enc P W' sp s.vars (s.fn H (ds ++ gs)).vars pv)
    (hps : before = pa ++ pv) (hk : Fr [] W W')
    (hok : ∀ (j : Nat) (t : TypeId) (r : Value), f.resultTypes[j]? = some t → (v.resultList f.resultTypes.size)[j]? = some r → Value.okWide P W' .any 0 t r) :
    s.post enc P f apart fresh handsOn again W args v W' := by
  have hold : ∀ p ∈ before, (fun b => decide (b < W.heap.size)) p.block = true := fun p hp => by simpa using hW.lt p hp
  have hWlt := hW.lt
  refine ⟨ds, gs, before, [], pa, pv, hW, hres _ _ _, hargs _ hold, hvars _ hold, hk.below.frame _, fun _ => ?_⟩
  obtain ⟨_, _, _, _, _, hz, hn⟩ := hW
  refine ⟨hok, _, _, ([] ++ pa) ++ pv, ⟨[] ++ pa, pv, trodAll_append (hargs _ (fun _ _ => rfl)) (hres _ _ _), hvars _ (fun _ _ => rfl), rfl, ?_, ?_⟩, ?_⟩
  · intro b off hp
    have hb : MemPlace.cell b off ∈ before := by rw [hps]; simpa using hp
    rw [hk.below.frozen (hWlt _ hb)]
    exact hz b off hb
  · intro ha
    have := hn ha
    rw [hps] at this
    simpa using this
  · intro p hp _
    rw [hps]
    simpa using hp

def I64 (n : Int) : Prop := -9223372036854775808 ≤ n ∧ n ≤ 9223372036854775807
/-- A list of whole numbers that came in. -/
def IntsV (w : World) (v : Value) (l : List Int) : Prop := (∃ ao lc, v = .slice ao 0 lc ∧ l = []) ∨ ∃ lb lo lc, v = .slice (some ⟨lb, lo, none⟩) l.length lc ∧ (∀ (i : Nat) (h : i < l.length), w.cell? ⟨lb, lo + i, none⟩ = some (ii l[i])) ∧ (∀ c ∈ l, I64 c)
/-- A list of raw turns that came in: twenty whole numbers each. -/
def TurnsV (w : World) (v : Value) (n : Nat) (f : Nat → Int) : Prop := (∃ ao lc, v = .slice ao 0 lc ∧ n = 0) ∨ ∃ lb lo lc, v = .slice (some ⟨lb, lo, none⟩) n lc ∧ (∀ i, i < n * 20 → w.cell? ⟨lb, lo + i, none⟩ = some (ii (f i)) ∧ I64 (f i)) ∧ n ≤ maxLen

theorem add_none {w : World} {a : Addr} {i : Nat} {v : Value} (h : w.cell? (a.add 0) = some v) : a.add i = ⟨a.block, a.off + i, none⟩ := by
  obtain ⟨b, o, sp⟩ := a
  have : sp = none := by
    cases sp with
    | none => rfl
    | some x =>
      unfold Addr.add World.cell? at h
      simp at h
      split at h <;> simp_all
  subst this
  rw [Addr.add_lit]
theorem open_cells {H : Type} {enc : TypeId × Value → H} {w : World} {base : Nat} {spare : Nat → Bool} {held : Bool} {a0 : Option Addr} {len0 cap0 : Nat} {d : DataW H} {ps : List MemPlace} (h : DataW.Trod enc Tryz.prog w base spare held 25 (.slice a0 len0 cap0) d ps) : ∃ l, IntsV w (.slice a0 len0 cap0) l := by
  obtain ⟨fuel, h⟩ := h
  rcases open_ints Tryz.underlying25 Tryz.underlying3 (by kernel_rfl) h with ⟨h1, _⟩ | ⟨a, len, cap, zs, h1, _, hlc, _, hl, _, hc, hw⟩
  · simp [Value.cells] at h1
    obtain ⟨rfl, rfl, rfl⟩ := h1
    exact ⟨[], Or.inl ⟨none, 0, rfl, rfl⟩⟩
  · simp [Value.cells] at h1
    obtain ⟨rfl, rfl, rfl⟩ := h1
    have hle : len0 ≤ zs.length := by rw [hl]; split <;> omega
    by_cases h0 : len0 = 0
    · subst h0
      exact ⟨[], Or.inl ⟨_, _, rfl, rfl⟩⟩
    · have hz := hc 0 (by omega)
      refine ⟨zs.take len0, Or.inr ⟨a.block, a.off, cap0, ?_, ?_, ?_⟩⟩
      · have e := add_none (i := 0) hz
        rw [Nat.add_zero] at e
        have : a.add 0 = a := by simp [Addr.add]
        rw [this] at e
        rw [List.length_take, Nat.min_eq_left hle, ← e]
      · intro i hi
        rw [List.length_take, Nat.min_eq_left hle] at hi
        have := hc i (by omega)
        rw [add_none (i := i) hz] at this
        rw [this]
        simp [List.getD, List.getElem?_eq_getElem (show i < zs.length by omega)]
      · intro c hcm
        exact bounds_i64 (hw c (List.mem_of_mem_take hcm))
theorem order_ints {H : Type} {enc : TypeId × Value → H} {w : World} {base : Nat} {spare : Nat → Bool} {held : Bool} {fuel : Nat} {cs : List Value} {x : DataW H × List MemPlace} (h : DataW.trod enc Tryz.prog w base spare held fuel 43 cs = some x) : cs.length = 5 ∧ ∀ j, j < 5 → ∃ n, cs[j]? = some (ii n) ∧ I64 n := by
  obtain ⟨xs, n, _, rfl, hl, hlen, hf⟩ := DataW.trod_struct Tryz.underlying43 h
  have c1 : Tryz.prog.cellsOf 3 = 1 := by kernel_rfl
  have c5 : Tryz.prog.cellsOf 43 = 5 := by kernel_rfl
  rw [c5] at hl
  refine ⟨hl, fun j hj => ?_⟩
  have key : ∀ (o : Nat) (y : DataW H × List MemPlace) (m : Nat), DataW.trod enc Tryz.prog w base spare held m 3 ((cs.drop o).take (Tryz.prog.cellsOf 3)) = some y → ∃ n, cs[o]? = some (ii n) ∧ I64 n := by
    intro o y m hy
    obtain ⟨k, e, _, hw⟩ := DataW.trod_int Tryz.underlying3 hy
    rw [c1] at e
    refine ⟨k, ?_, bounds_i64 hw⟩
    have := congrArg (fun l : List Value => l[0]?) e
    simpa using this
  have hx : ∀ i, i < xs.length → ∃ y, xs[i]? = some y := fun i hi => ⟨_, List.getElem?_eq_getElem hi⟩
  have hlen' : xs.length = 5 := by simpa using hlen
  obtain ⟨y, hy⟩ := hx j (by omega)
  have hj5 : j = 0 ∨ j = 1 ∨ j = 2 ∨ j = 3 ∨ j = 4 := by omega
  rcases hj5 with rfl | rfl | rfl | rfl | rfl
  · exact key 0 y n ((hf 0 _ rfl).trans hy)
  · exact key 1 y n ((hf 1 _ rfl).trans hy)
  · exact key 2 y n ((hf 2 _ rfl).trans hy)
  · exact key 3 y n ((hf 3 _ rfl).trans hy)
  · exact key 4 y n ((hf 4 _ rfl).trans hy)
theorem turn_ints {H : Type} {enc : TypeId × Value → H} {w : World} {base : Nat} {spare : Nat → Bool} {held : Bool} {fuel : Nat} {cs : List Value} {x : DataW H × List MemPlace} (h : DataW.trod enc Tryz.prog w base spare held fuel 45 cs = some x) : cs.length = 20 ∧ ∀ j, j < 20 → ∃ n, cs[j]? = some (ii n) ∧ I64 n := by
  obtain ⟨xs, n, _, rfl, hl, hlen, hf⟩ := DataW.trod_struct Tryz.underlying45 h
  have c5 : Tryz.prog.cellsOf 43 = 5 := by kernel_rfl
  have c20 : Tryz.prog.cellsOf 45 = 20 := by kernel_rfl
  rw [c20] at hl
  refine ⟨hl, fun j hj => ?_⟩
  have key : ∀ (o : Nat) (y : DataW H × List MemPlace) (m : Nat), DataW.trod enc Tryz.prog w base spare held m 43 ((cs.drop o).take (Tryz.prog.cellsOf 43)) = some y → ∀ i, i < 5 → ∃ n, cs[o + i]? = some (ii n) ∧ I64 n := by
    intro o y m hy i hi
    obtain ⟨_, h2⟩ := order_ints hy
    obtain ⟨n, e, hn⟩ := h2 i hi
    rw [c5, List.getElem?_take_of_lt hi, List.getElem?_drop] at e
    exact ⟨n, e, hn⟩
  have hx : ∀ i, i < xs.length → ∃ y, xs[i]? = some y := fun i hi => ⟨_, List.getElem?_eq_getElem hi⟩
  have hlen' : xs.length = 4 := by simpa using hlen
  obtain ⟨y0, hy0⟩ := hx 0 (by omega)
  obtain ⟨y1, hy1⟩ := hx 1 (by omega)
  obtain ⟨y2, hy2⟩ := hx 2 (by omega)
  obtain ⟨y3, hy3⟩ := hx 3 (by omega)
  have hj5 : j < 5 ∨ (5 ≤ j ∧ j < 10) ∨ (10 ≤ j ∧ j < 15) ∨ 15 ≤ j := by omega
  rcases hj5 with h5 | h5 | h5 | h5
  · simpa using key 0 y0 n ((hf 0 _ rfl).trans hy0) j h5
  · have := key 5 y1 n ((hf 1 _ rfl).trans hy1) (j - 5) (by omega)
    rwa [show 5 + (j - 5) = j by omega] at this
  · have := key 10 y2 n ((hf 2 _ rfl).trans hy2) (j - 10) (by omega)
    rwa [show 10 + (j - 10) = j by omega] at this
  · have := key 15 y3 n ((hf 3 _ rfl).trans hy3) (j - 15) (by omega)
    rwa [show 15 + (j - 15) = j by omega] at this
theorem open_turns {H : Type} {enc : TypeId × Value → H} {w : World} {base : Nat} {spare : Nat → Bool} {held : Bool} {a0 : Option Addr} {len0 cap0 : Nat} {d : DataW H} {ps : List MemPlace} (h : DataW.Trod enc Tryz.prog w base spare held 26 (.slice a0 len0 cap0) d ps) : ∃ n f, TurnsV w (.slice a0 len0 cap0) n f := by
  obtain ⟨fuel, h⟩ := h
  rcases Deep.open_slice Tryz.underlying26 h with ⟨h1, _⟩ | ⟨a, len, cap, m, n, D, Pl, h1, _, hlc, hcap, hm, _, hc⟩
  · simp [Value.cells] at h1
    obtain ⟨rfl, rfl, rfl⟩ := h1
    exact ⟨0, fun _ => 0, Or.inl ⟨none, 0, rfl, rfl⟩⟩
  · simp [Value.cells] at h1
    obtain ⟨rfl, rfl, rfl⟩ := h1
    have hle : len0 ≤ m := by rw [hm]; split <;> omega
    have c20 : Tryz.prog.cellsOf 45 = 20 := by kernel_rfl
    by_cases h0 : len0 = 0
    · subst h0
      exact ⟨0, fun _ => 0, Or.inl ⟨_, _, rfl, rfl⟩⟩
    · rw [c20] at hc
      have each : ∀ i, i < m → ∀ j, j < 20 → ∃ n, w.cell? ((a.add (i * 20)).add j) = some (ii n) ∧ I64 n := by
        intro i hi j hj
        obtain ⟨cs', h2, h3⟩ := hc i hi
        obtain ⟨hl, hj2⟩ := turn_ints h3
        obtain ⟨n, e, hn⟩ := hj2 j hj
        refine ⟨n, ?_, hn⟩
        rw [(World.cells?_some h2).2.2 j (by omega)]
        exact e
      obtain ⟨z0, hz0, _⟩ := each 0 (by omega) 0 (by omega)
      have e00 : (a.add (0 * 20)).add 0 = a.add 0 := by simp [Addr.add]
      rw [e00] at hz0
      have hall : ∀ i, i < len0 * 20 → ∃ n, w.cell? ⟨a.block, a.off + i, none⟩ = some (ii n) ∧ I64 n := by
        intro i hi
        obtain ⟨n, e, hn⟩ := each (i / 20) (by omega) (i % 20) (by omega)
        rw [add_none (i := i / 20 * 20) hz0, Addr.add_lit] at e
        rw [show a.off + i / 20 * 20 + i % 20 = a.off + i by omega] at e
        exact ⟨n, e, hn⟩
      refine ⟨len0, fun i => if hi : i < len0 * 20 then Classical.choose (hall i hi) else 0, Or.inr ⟨a.block, a.off, cap0, ?_, ?_, by omega⟩⟩
      · have e := add_none (i := 0) hz0
        have : a.add 0 = a := by simp [Addr.add]
        rw [this, Nat.add_zero] at e
        rw [← e]
      · intro i hi
        dsimp only
        rw [dif_pos hi]
        exact Classical.choose_spec (hall i hi)
end Go.Proofs.YtapabahhfanmmaaGreatDoor
