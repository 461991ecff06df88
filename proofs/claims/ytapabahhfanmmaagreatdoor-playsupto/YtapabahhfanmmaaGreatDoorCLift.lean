import Derived.Test.YtapabahhfanmmaaGreatDoorCCells
import Derived.Test.YtapabahhfanmmaaGreatDoorRows
import Derived.ProofKit
import Derived.LaidMore
import Derived.OpenShut
import Derived.Carry
import Derived.Stop.Joined
import Derived.Deep.Slices
namespace Go.Proofs.YtapabahhfanmmaaGreatDoor
open Go.ChangeShapes Go.WideShapes Go.ChangeAt Go.WideMaps Go.WideElems Go.RowKit
abbrev laidS : List (String × DataW Unit) := [("skirmish/land.sides", Rows.laid_skirmish_land_sides)]
theorem ownK : ownKnob Tryz.prog.godebug = none := by kernel_rfl
theorem gSides : Tryz.prog.globalNamed "skirmish/land.sides" = some 0 := by kernel_rfl
theorem tSides : (Tryz.prog.globals[0]?).map (·.type) = some 284 := by kernel_rfl
theorem laidOutT : laidOutB Tryz.prog = true := by kernel_rfl
theorem eight_of {l : List Value} (h : l.length = 8) : ∃ a0 a1 a2 a3 a4 a5 a6 a7, l = [a0, a1, a2, a3, a4, a5, a6, a7] := by
  match l, h with
  | [a0, a1, a2, a3, a4, a5, a6, a7], _ => exact ⟨a0, a1, a2, a3, a4, a5, a6, a7, rfl⟩
set_option maxRecDepth 100000 in
theorem of_laid {W : World} (h : laidMetH Tryz.prog laidS W) : Sd W := by
 rw [MakeChecks.laidMetH_plain _ _ _ (by kernel_rfl)] at h
 obtain ⟨ps, ⟨g0, t0, cs0, f0, p0, q0, hg0, ht0, hv0, hd0, _, _⟩, _, _⟩ := h
 obtain rfl := Option.some.inj (gSides.symm.trans hg0)
 obtain rfl := Option.some.inj (tSides.symm.trans ht0)
 obtain ⟨xs, m1, rfl, hx1, hlen, hn4, hel⟩ := DataW.trod_array Tryz.underlying284 hd0
 have cC : Tryz.prog.cellsOf 159 = 2 := by kernel_rfl
 have cI : Tryz.prog.cellsOf 3 = 1 := by kernel_rfl
 have cS : Tryz.prog.cellsOf 284 = 8 := by kernel_rfl
 rw [cS] at hlen
 obtain ⟨l0⟩ := cs0
 obtain ⟨a0, a1, a2, a3, a4, a5, a6, a7, rfl⟩ := eight_of hlen
 clear hlen
 clear hd0
 ·dsimp only at hel
  have each : ∀ i, i < 4 → ∃ p q : Int, xs[i]?.map (·.1) = some (.agg [.lit (.int .i64 p), .lit (.int .i64 q)]) ∧ ([a0, a1, a2, a3, a4, a5, a6, a7].drop (i * 2)).take 2 = [.int .i64 p, .int .i64 q] := by
   intro i hi
   have h1 := hel i hi
   rw [cC] at h1
   obtain ⟨x, hx⟩ : ∃ x, xs[i]? = some x := ⟨_, List.getElem?_eq_getElem (by omega)⟩
   rw [hx] at h1
   obtain ⟨y0, y1, n, rfl, _, e0, e1⟩ := trod_struct2 Tryz.underlying159 h1
   obtain ⟨p, ep, rfl, _⟩ := DataW.trod_int Tryz.underlying3 e0
   obtain ⟨q, eq, rfl, _⟩ := DataW.trod_int Tryz.underlying3 e1
   refine ⟨p, q, by rw [hx]; rfl, ?_⟩
   rw [cI] at ep eq
   have hi4 : i = 0 ∨ i = 1 ∨ i = 2 ∨ i = 3 := by omega
   rcases hi4 with rfl | rfl | rfl | rfl <;> simp at ep eq ⊢ <;> exact ⟨ep, eq⟩
  obtain ⟨p0, q0, x0, y0⟩ := each 0 (by omega)
  obtain ⟨p1, q1, x1, y1⟩ := each 1 (by omega)
  obtain ⟨p2, q2, x2, y2⟩ := each 2 (by omega)
  obtain ⟨p3, q3, x3, y3⟩ := each 3 (by omega)
  have hxs : xs.map (·.1) = [.agg [.lit (.int .i64 p0), .lit (.int .i64 q0)], .agg [.lit (.int .i64 p1), .lit (.int .i64 q1)], .agg [.lit (.int .i64 p2), .lit (.int .i64 q2)], .agg [.lit (.int .i64 p3), .lit (.int .i64 q3)]] := by
   match xs, hn4, x0, x1, x2, x3 with
   | [z0, z1, z2, z3], _, x0, x1, x2, x3 =>
    simp at x0 x1 x2 x3 ⊢
    exact ⟨x0, x1, x2, x3⟩
  rw [hxs] at hx1
  simp only [Rows.laid_skirmish_land_sides, Prod.mk.injEq, DataW.agg.injEq, List.cons.injEq, DataW.lit.injEq, Lit.int.injEq] at hx1
  simp at y0 y1 y2 y3
  obtain ⟨⟨⟨⟨_, rfl⟩, ⟨_, rfl⟩, _⟩, ⟨⟨_, rfl⟩, ⟨_, rfl⟩, _⟩, ⟨⟨_, rfl⟩, ⟨_, rfl⟩, _⟩, ⟨⟨_, rfl⟩, ⟨_, rfl⟩, _⟩, _⟩, _⟩ := hx1
  obtain ⟨rfl, rfl⟩ := y0
  obtain ⟨rfl, rfl⟩ := y1
  obtain ⟨rfl, rfl⟩ := y2
  obtain ⟨rfl, rfl⟩ := y3
  intro j v hv
  have := World.var?_cell hg0 hv0 j
  rw [Nat.zero_add, this]
  simpa using hv
theorem post_fr {H : Type} {enc : TypeId × Value → H} {P : Program} {f : Func} {s : ChangeSpec} {apart fresh handsOn again : Bool} {W W' : World} {args : Array Value} {v : Value} {ds gs : List (DataW H)} {before pa pv : List MemPlace}
  (hW : DataW.Whole enc P f.params.toList s.vars apart W args.toList ds gs before)
  (hres : ∀ (b : Nat) (sp : Nat → Bool) (hd : Bool), DataW.TrodAll enc P W' b sp hd f.resultTypes.toList (v.resultList f.resultTypes.size) (s.fn H (ds ++ gs)).results [])
  (hargs : ∀ sp : Nat → Bool, (∀ p ∈ before, sp p.block = true) → DataW.TrodAll enc P W' 0 sp true f.params.toList args.toList (s.fn H (ds ++ gs)).args pa)
  (hvars : ∀ sp : Nat → Bool, (∀ p ∈ before, sp p.block = true) → DataW.TrodVars enc P W' sp s.vars (s.fn H (ds ++ gs)).vars pv)
  (hps : before = pa ++ pv) (hk : Fr [] W W')
  (hok : ∀ (j : Nat) (t : TypeId) (r : Value), f.resultTypes[j]? = some t → (v.resultList f.resultTypes.size)[j]? = some r → Value.okWide P W' .any 0 t r) :
  s.post enc P f apart fresh handsOn again W args v W' := by
 have hold : ∀ p ∈ before, (fun b => decide (b < W.heap.size)) p.block = true := fun p hp => by simpa using hW.lt p hp
 have hWlt := hW.lt
 refine ⟨ds, gs, before, [], pa, pv, hW, hres _ _ _, hargs _ hold, hvars _ hold, hk.below.frame _, fun _ => ?_⟩
 obtain ⟨_, _, _, _, _, hz, hn⟩ := hW
 refine ⟨hok, _, _, ([] ++ pa) ++ pv, ⟨[] ++ pa, pv, trodAll_append (hargs _ (fun _ _ => rfl)) (hres _ _ _), hvars _ (fun _ _ => rfl), rfl, ?_, ?_⟩, ?_⟩
 ·intro b off hp
  have hb : MemPlace.cell b off ∈ before := by rw [hps]; simpa using hp
  rw [hk.below.frozen (hWlt _ hb)]
  exact hz b off hb
 ·intro ha
  have := hn ha
  rw [hps] at this
  simpa using this
 ·intro p hp _
  rw [hps]
  simpa using hp
theorem add_none {w : World} {a : Addr} {i : Nat} {v : Value} (h : w.cell? (a.add 0) = some v) : a.add i = ⟨a.block, a.off + i, none⟩ := by
 obtain ⟨b, o, sp⟩ := a
 have : sp = none := by
  cases sp with
  | none => rfl
  | some x =>
   unfold Addr.add World.cell? at h
   simp at h
   split at h <;> simp_all
 subst this
 rw [Addr.add_lit]
end Go.Proofs.YtapabahhfanmmaaGreatDoor
