import Derived.Test.YtapabahhfanmmaaGreatDoorCLeaf
import Derived.Deep.MidRow
import Derived.Test.YtapabahhfanmmaaGreatDoorCBuild
import Derived.BigQuiet
import Derived.Laws.IdiomCopy
import Derived.Test.YtapabahhfanmmaaGreatDoorCHit
import Derived.Test.YtapabahhfanmmaaGreatDoorCPlay3
import Derived.Test.YtapabahhfanmmaaGreatDoorCBookL
import Derived.Test.YtapabahhfanmmaaGreatDoorCRefK
namespace Go.Proofs.YtapabahhfanmmaaGreatDoor
open Go.RowKit
def CmdR (w : World) (v : Value) (l : List Cm) : Prop := (∃ ao lc, v = .slice ao 0 lc ∧ l = []) ∨ ∃ lb lo lc, v = .slice (some ⟨lb, lo, none⟩) l.length lc ∧ lb < w.heap.size ∧ ∀ (i : Nat) (h : i < l.length), w.rangeAt lb (lo + i * 5) (l[i]'h).cells
theorem CmdR.fr0 {w w' : World} {v : Value} {l : List Cm} (h : CmdR w v l) (hf : Fr [] w w') : CmdR w' v l := by
 rcases h with h | ⟨lb, lo, lc, h1, h2, h3⟩
 ·exact Or.inl h
 ·refine Or.inr ⟨lb, lo, lc, h1, Nat.lt_of_lt_of_le h2 hf.size, fun i hi j u hu => ?_⟩
  rw [hf.cell lb _ h2 (by simp)]
  exact h3 i hi j u hu
structure OpD where
 kind : Int
 fa : Option Addr
 fn : Nat
 fc : Nat
 sa : Option Addr
 sn : Nat
 sc : Nat
 tx : ByteArray
 ia : Option Addr
 il : Nat
 ic : Nat
 n : Int
 ga : Option Addr
 gl : Nat
 gc : Nat
 fst : List Cm
 snd : List Cm
abbrev OpD.f (d : OpD) : Value := .slice d.fa d.fn d.fc
abbrev OpD.s (d : OpD) : Value := .slice d.sa d.sn d.sc
abbrev OpD.cells (d : OpD) : List Value := [ii d.kind, .slice d.fa d.fn d.fc, .slice d.sa d.sn d.sc, .string d.tx, .slice d.ia d.il d.ic, ii d.n, .slice d.ga d.gl d.gc]
structure OpV (w : World) (d : OpD) : Prop where
 f : CmdR w d.f d.fst
 s : CmdR w d.s d.snd
 fl : d.fst.length ≤ 2000000
 sl : d.snd.length ≤ 2000000
def OpsV (w : World) (v : Value) (l : List OpD) : Prop := (∃ ao lc, v = .slice ao 0 lc ∧ l = []) ∨ ∃ lb lo lc, v = .slice (some ⟨lb, lo, none⟩) l.length lc ∧ lb < w.heap.size ∧ ∀ (i : Nat) (h : i < l.length), w.rangeAt lb (lo + i * 7) (l[i]'h).cells ∧ OpV w (l[i]'h)
set_option maxRecDepth 100000
abbrev Cm.arr (c : Cm) : Array Value := #[.int .i64 c.unit, .int .i64 c.what, .int .i64 c.x, .int .i64 c.y, .int .i64 c.target]
theorem infoC : (Tryz.prog.info? 81).map (fun i => (i.zero, i.size, i.bytes)) = some (some (Cm.val ⟨0, 0, 0, 0, 0⟩), 5, 40) := by kernel_rfl
theorem Cm.one (c : Cm) : ∀ u ∈ c.cells, u.oneCell' = true := by simp [Value.oneCell']
structure CopI (w : World) (l : List Cm) (k : Nat) (v : Value) (wr : World) : Prop where
  own : wr.ownsRow w.heap.size 81 5 v k ((l.take k).flatMap Cm.cells)
  fr : Fr [] w wr
set_option maxHeartbeats 1000000 in
theorem copied_any (l : List Cm) (v : Value) (w : World) (h : CmdR w v l) (hlen : l.length ≤ 2000000) :
  Calls Tryz.prog 94 #[v] w fun e w' => ∃ v', e = .returned v' ∧ w'.ownsRow w.heap.size 81 5 v' l.length (l.flatMap Cm.cells) ∧ Fr [] w w' := by
 obtain ⟨inf, hi0, hz0, hz1, hz2⟩ := info_parts infoC
 obtain ⟨ao, lc, rfl⟩ : ∃ ao lc, v = .slice ao l.length lc := by
  rcases h with ⟨ao, lc, rfl, rfl⟩ | ⟨lb, lo, lc, rfl, _⟩
  ·exact ⟨_, _, rfl⟩
  ·exact ⟨_, _, rfl⟩
 have HL := (show Hid _ from h)
 clear h
 go_enter Tryz.func94, Tryz.ntmps94
 go_wp2_with fail
 go_loopw [3, 4] (fun v i wr => ∃ k : Nat, k ≤ l.length ∧ i = .int .i64 k ∧ CopI w l k v wr) (fun _ i _ => l.length - (intOf i).toNat)
 case atStart => exact ⟨0, Nat.zero_le _, rfl, ⟨rfl, Or.inl ⟨rfl, rfl⟩⟩, Fr.refl _ _⟩
 case round =>
  obtain ⟨k, hk, rfl, hown, hfr⟩ := hrel
  by_cases hlt : k < l.length
  ·have hlti : (k : Int) < (l.length : Int) := by omega
   obtain ⟨c, hc⟩ : ∃ c, l[k]? = some c := ⟨l[k], List.getElem?_eq_getElem hlt⟩
   obtain ⟨lb, lo, rfl, hlbl, hcs⟩ : ∃ lb lo, ao = some ⟨lb, lo, none⟩ ∧ lb < w.heap.size ∧ w.rangeAt lb (lo + k * 5) c.cells := by
    rcases HL.out with ⟨ao, lc', e1, e2⟩ | ⟨lb, lo, lc', e1, h2, h3⟩
    ·rw [e2] at hlt; simp at hlt
    ·refine ⟨lb, lo, by simpa using congrArg (fun v : Value => match v with | .slice a _ _ => a | _ => none) e1, h2, ?_⟩
     have := h3 k hlt
     rw [List.getElem?_eq_getElem hlt] at hc
     rw [Option.some.inj hc] at this
     exact this
   have hcc : ∀ j, wr.cell? ⟨lb, j, none⟩ = w.cell? ⟨lb, j, none⟩ := fun j => hfr.cell _ _ hlbl (by simp)
   have c0 : wr.cell? ⟨lb, lo + k * 5, none⟩ = some (ii c.unit) := (hcc _).trans (hcs 0 _ rfl)
   have c1 : wr.cell? ⟨lb, lo + k * 5 + 1, none⟩ = some (ii c.what) := (hcc _).trans (hcs 1 _ rfl)
   have c2 : wr.cell? ⟨lb, lo + k * 5 + 2, none⟩ = some (ii c.x) := (hcc _).trans (hcs 2 _ rfl)
   have c3 : wr.cell? ⟨lb, lo + k * 5 + 3, none⟩ = some (ii c.y) := (hcc _).trans (hcs 3 _ rfl)
   have c4 : wr.cell? ⟨lb, lo + k * 5 + 4, none⟩ = some (ii c.target) := (hcc _).trans (hcs 4 _ rfl)
   have HN : Hid (∀ (j : Nat) (u : Value), c.cells[j]? = some u → (wr.alloc (.cells c.arr 81)).cell? ((⟨wr.heap.size, 0, none⟩ : Addr).add j) = some u) := by
    intro j u hu
    rw [Addr.add_lit, Nat.zero_add, cell_of_heap (hp_new wr _)]
    simpa using hu
   have HB1 : Hid (∀ b, u3.ownBlock = some b → w.heap.size ≤ b) := fun b hb => (hown.lt b hb).1
   have HOW : Hid ((wr.alloc (.cells c.arr 81)).ownsRow w.heap.size 81 5 u3 k ((l.take k).flatMap Cm.cells)) := owns_fr hown ((Fr.refl [] wr).alloc _) (by simp)
   have hwr := hfr.size
   have HTK : Hid ((l.take (k + 1)).flatMap Cm.cells = (l.take k).flatMap Cm.cells ++ c.cells) := by
    show _ = _
    rw [List.take_add_one, hc]
    simp
   have HONE := (show Hid _ from Cm.one c)
   clear hown hcs hcc hc
   go_wp2_with (at_builtin; refine wpList_append_own _ rfl _ _ 39 rfl w.heap.size 81 inf (Cm.val ⟨0, 0, 0, 0, 0⟩) 5 40 Tryz.underlying39 hi0 hz0 hz1 hz2 rfl (by decide) u3 k ((l.take k).flatMap Cm.cells) rfl HOW.out ⟨wr.heap.size, 0, none⟩ 1 1 c.cells rfl rfl HN.out HONE.out (by unfold maxLen; omega) (by omega) (by simp; omega) ?_; intro v' w3 hown3 hgrow hnil3)
   have hf3 : Fr [] w w3 := (hfr.alloc _).grow hgrow (fun g hg => Or.inr (HB1.out g hg))
   go_roundw
   case rel => exact ⟨k + 1, hlt, by go_num, by rw [HTK.out]; exact hown3, hf3⟩
   case measure => simp [intOf]; omega
  ·have : k = l.length := by omega
   subst this
   have hlti : ¬ (l.length : Int) < (l.length : Int) := by omega
   rw [List.take_length] at hown
   go_wp2_with fail
   go_ret
   exact ⟨u3, rfl, hown, hfr⟩
theorem flat5 : ∀ (l : List Cm) (i j : Nat) (h : i < l.length), j < 5 → (l.flatMap Cm.cells)[i * 5 + j]? = (l[i]'h).cells[j]?
 | [], i, j, h, _ => by simp at h
 | c :: l, 0, j, h, hj => by
  rw [List.flatMap_cons, List.getElem?_append_left (by simp; omega), Nat.zero_mul, Nat.zero_add]
  rfl
 | c :: l, i + 1, j, h, hj => by
  rw [List.flatMap_cons, List.getElem?_append_right (by simp; omega)]
  have := flat5 l i j (by simpa using h) hj
  rw [show (i + 1) * 5 + j - c.cells.length = i * 5 + j by simp; omega]
  exact this
structure KepI (w : World) (gb : Nat) (l : List Cm) (k : Nat) (wr : World) : Prop where
 cs : ∀ (i : Nat) (h : i < l.length), k ≤ i → wr.rangeAt gb (i * 5) (l[i]'h).cells
 th : ∀ i, i < l.length * 5 → (wr.cell? ⟨gb, i, none⟩).isSome = true ∧ wr.frozen? ⟨gb, i, none⟩ = false
 fr : Fr [gb] w wr
theorem cmd_eq (c : Cm) (w : World) : (binOp BinOp.eql 81 c.val c.val).run Tryz.prog w = .ok (.bool true) w := by
  simp [go_sem]
theorem KepI.drewN {w : World} {gb : Nat} {l : List Cm} {k : Nat} {wr : World} (h : KepI w gb l k wr) (n : Nat) : KepI w gb l k (wr.drewN n) := ⟨h.cs, h.th, h.fr.drewN n⟩
theorem KepI.put {w : World} {gb : Nat} {l : List Cm} {k : Nat} {wr : World} (h : KepI w gb l k wr) (hk : k < l.length) (c : Cm) : KepI w gb l (k + 1) (wr.setCells gb (k * 5) c.cells) := by
 refine ⟨fun i hi hki j u hu => ?_, fun i hi => ?_, Fr.setCells gb _ _ _ h.fr (Or.inl (by simp))⟩
 ·have hj : j < 5 := (List.getElem?_eq_some_iff.1 hu).1
  rw [World.cell?_setCells_out _ _ _ _ _ (fun _ _ => by simp; omega)]
  exact h.cs i hi (by omega) j u hu
 ·rw [World.frozen?_setCells]
  refine ⟨?_, (h.th i hi).2⟩
  by_cases hik : i < k * 5 ∨ k * 5 + 5 ≤ i
  ·rw [World.cell?_setCells_out _ _ _ _ _ (fun _ _ => by simpa using hik)]
   exact (h.th i hi).1
  ·have := World.cell?_setCells_in gb c.cells (k * 5) wr (fun j hj => (h.th (k * 5 + j) (by simp at hj; omega)).1) (i - k * 5) (by simp; omega)
   rw [show k * 5 + (i - k * 5) = i by omega] at this
   rw [this]
   rfl
set_option maxHeartbeats 1000000 in
theorem kept_any (base : Nat) (l : List Cm) (v g : Value) (w0 w : World) (h : CmdR w0 v l) (hf0 : Fr [] w0 w) (hb0 : w0.heap.size ≤ base) (hown : w.ownsRow base 81 5 g l.length (l.flatMap Cm.cells)) (hlen : l.length ≤ 2000000) :
  Calls Tryz.prog 97 #[g, v] w fun e w' => e = .returned (.bool true) ∧ Fr g.ownBlock.toList w w' := by
 obtain ⟨ao, lc, rfl⟩ : ∃ ao lc, v = .slice ao l.length lc := by
  rcases h with ⟨ao, lc, rfl, rfl⟩ | ⟨lb, lo, lc, rfl, _⟩
  ·exact ⟨_, _, rfl⟩
  ·exact ⟨_, _, rfl⟩
 have HL := (show Hid _ from h)
 clear h
 by_cases hz : l.length = 0
 ·rw [hz]
  go_enter Tryz.func97, Tryz.ntmps97
  go_wp2_with fail
  go_loopw [5, 6] (fun b i wr => b = .bool true ∧ i = .int .i64 0 ∧ w = wr) (fun _ _ _ => 0)
  case atStart => exact ⟨rfl, rfl, rfl⟩
  case round =>
   obtain ⟨rfl, rfl, rfl⟩ := hrel
   go_wp2_with fail
   go_ret
   exact ⟨rfl, Fr.refl _ _⟩
 ·obtain ⟨gb, gcap, cur, rfl, hgb, hgh, hgc, _, hgs, hgt⟩ : ∃ gb cap cur, g = .slice (some ⟨gb, 0, none⟩) l.length cap ∧ base ≤ gb ∧ w.heap[gb]? = some (.cells cur 81 (0, 0)) ∧ l.length ≤ cap ∧ cap ≤ maxLen ∧ cur.size = cap * 5 ∧ cur.toList.take (l.length * 5) = l.flatMap Cm.cells := by
   rcases hown.2 with ⟨_, h2⟩ | h2
   ·exact absurd h2 hz
   ·exact h2
  have hst : KepI w gb l 0 w := by
   refine ⟨fun i hi _ j u hu => ?_, fun i hi => ⟨?_, frozen_of_heap hgh⟩, Fr.refl _ _⟩
   ·have hj : j < 5 := (List.getElem?_eq_some_iff.1 hu).1
    have e : (l.flatMap Cm.cells)[i * 5 + j]? = some u := (flat5 l i j hi hj).trans hu
    rw [cell_of_heap hgh]
    rw [← hgt, List.getElem?_take_of_lt (by omega)] at e
    simpa using e
   ·rw [cell_of_heap hgh, Array.getElem?_eq_getElem (by omega)]
    rfl
  have HST := (show Hid _ from hst)
  clear hst hgt hgh hown
  go_enter Tryz.func97, Tryz.ntmps97
  go_wp2_with fail
  go_loopw [5, 6] (fun b i wr => b = .bool true ∧ ∃ k : Nat, k ≤ l.length ∧ i = .int .i64 k ∧ KepI w gb l k wr) (fun _ i _ => l.length - (intOf i).toNat)
  case atStart => exact ⟨rfl, 0, Nat.zero_le _, rfl, HST.out⟩
  case round =>
   obtain ⟨rfl, k, hk, rfl, hI⟩ := hrel
   by_cases hlt : k < l.length
   ·have hlti : (k : Int) < (l.length : Int) := by omega
    obtain ⟨c, hc⟩ : ∃ c, l[k]? = some c := ⟨l[k], List.getElem?_eq_getElem hlt⟩
    have hck : l[k] = c := by rw [List.getElem?_eq_getElem hlt] at hc; exact Option.some.inj hc
    obtain ⟨lb, lo, rfl, hlbl, hcs⟩ : ∃ lb lo, ao = some ⟨lb, lo, none⟩ ∧ lb < w0.heap.size ∧ w0.rangeAt lb (lo + k * 5) c.cells := by
     rcases HL.out with ⟨ao, lc', e1, e2⟩ | ⟨lb, lo, lc', e1, h2, h3⟩
     ·rw [e2] at hlt; simp at hlt
     ·refine ⟨lb, lo, by simpa using congrArg (fun v : Value => match v with | .slice a _ _ => a | _ => none) e1, h2, ?_⟩
      have := h3 k hlt
      rw [hck] at this
      exact this
    have hs0 := hf0.size
    have hcc : ∀ j, wr.cell? ⟨lb, j, none⟩ = w0.cell? ⟨lb, j, none⟩ := fun j => (hI.fr.cell _ _ (by omega) (by simp; omega)).trans (hf0.cell _ _ hlbl (by simp))
    have c0 : wr.cell? ⟨lb, lo + k * 5, none⟩ = some (ii c.unit) := (hcc _).trans (hcs 0 _ rfl)
    have c1 : wr.cell? ⟨lb, lo + k * 5 + 1, none⟩ = some (ii c.what) := (hcc _).trans (hcs 1 _ rfl)
    have c2 : wr.cell? ⟨lb, lo + k * 5 + 2, none⟩ = some (ii c.x) := (hcc _).trans (hcs 2 _ rfl)
    have c3 : wr.cell? ⟨lb, lo + k * 5 + 3, none⟩ = some (ii c.y) := (hcc _).trans (hcs 3 _ rfl)
    have c4 : wr.cell? ⟨lb, lo + k * 5 + 4, none⟩ = some (ii c.target) := (hcc _).trans (hcs 4 _ rfl)
    have hg := hI.cs k hlt (Nat.le_refl _)
    rw [hck] at hg
    have d0 : wr.cell? ⟨gb, k * 5, none⟩ = some (ii c.unit) := hg 0 _ rfl
    have d1 : wr.cell? ⟨gb, k * 5 + 1, none⟩ = some (ii c.what) := hg 1 _ rfl
    have d2 : wr.cell? ⟨gb, k * 5 + 2, none⟩ = some (ii c.x) := hg 2 _ rfl
    have d3 : wr.cell? ⟨gb, k * 5 + 3, none⟩ = some (ii c.y) := hg 3 _ rfl
    have d4 : wr.cell? ⟨gb, k * 5 + 4, none⟩ = some (ii c.target) := hg 4 _ rfl
    have z0 := (hI.th (k * 5) (by omega)).2
    have z1 := (hI.th (k * 5 + 1) (by omega)).2
    have z2 := (hI.th (k * 5 + 2) (by omega)).2
    have z3 := (hI.th (k * 5 + 3) (by omega)).2
    have z4 := (hI.th (k * 5 + 4) (by omega)).2
    have HP : Hid (∀ n, KepI w gb l (k + 1) ((wr.drewN n).setCells gb (k * 5) (Cm.cells ⟨-9, -9, 0, 0, 0⟩))) := fun n => (hI.drewN n).put hlt ⟨-9, -9, 0, 0, 0⟩
    have heq := cmd_eq c
    clear hI hg hcc hcs hc hck
    go_wp2_with fail
    go_quiet (fail)
    go_wp2_with fail
    go_roundw
    case rel => exact ⟨rfl, k + 1, hlt, by go_num, HP.out _⟩
    case measure => simp [intOf]; omega
   ·have hlti : ¬ (k : Int) < (l.length : Int) := by omega
    go_wp2_with fail
    go_ret
    exact ⟨rfl, hI.fr⟩
def pickL (a b : List Nat) (i : Nat) : List Nat := if i = 0 then a else b
theorem ints_at {l : List Nat} {k : Nat} (h : k < l.length) : (ints l)[k]? = some (ii ((l[k]'h : Nat) : Int)) := by
  unfold ints
  rw [List.getElem?_map, List.getElem?_eq_getElem h]
  rfl
theorem row_ints {w : World} {base : Nat} {v : Value} {l : List Nat} (h : w.ownsRow base 3 1 v l.length (ints l)) : ∃ ao c, v = .slice ao l.length c ∧ ∀ k (hk : k < l.length), ∃ g, ao = some ⟨g, 0, none⟩ ∧ w.cell? ⟨g, k, none⟩ = some (ii ((l[k]'hk : Nat) : Int)) := by
 obtain ⟨ao, c, rfl⟩ := own_len h
 refine ⟨ao, c, rfl, fun k hk => ?_⟩
 obtain ⟨g, cap, e⟩ := own_shape h (by omega)
 cases e
 refine ⟨g, rfl, ?_⟩
 have := h.cells (g := g) rfl k _ (ints_at hk)
 rwa [Addr.add_lit, Nat.zero_add] at this
theorem Refs.rows {w : World} {base : Nat} {v : Value} {a b : List Nat} (h : Refs w base v a b) : ∃ rb rc, v = .slice (some ⟨rb, 0, none⟩) 2 rc ∧ ∀ i, i < 2 → ∃ ao c, w.cell? ⟨rb, i, none⟩ = some (.slice ao (pickL a b i).length c) ∧ ∀ k (hk : k < (pickL a b i).length), ∃ g, ao = some ⟨g, 0, none⟩ ∧ w.cell? ⟨g, k, none⟩ = some (ii (((pickL a b i)[k]'hk : Nat) : Int)) := by
 obtain ⟨rb, rc, v0, v1, rfl, hh, _, h0, h1⟩ := h
 refine ⟨rb, rc, rfl, fun i hi => ?_⟩
 have : i = 0 ∨ i = 1 := by omega
 rcases this with rfl | rfl
 ·obtain ⟨ao, c, rfl, q⟩ := row_ints h0
  exact ⟨ao, c, by rw [cell_of_heap hh]; rfl, q⟩
 ·obtain ⟨ao, c, rfl, q⟩ := row_ints h1
  exact ⟨ao, c, by rw [cell_of_heap hh]; rfl, q⟩
set_option maxRecDepth 100000 in
set_option maxHeartbeats 1000000 in
theorem samePlaces_any (base base' : Nat) (a b : List Nat) (v v' : Value) (w : World) (h : Refs w base v a b) (h' : Refs w base' v' a b) (ha : a.length ≤ 2000000) (hb : b.length ≤ 2000000) :
  Calls Tryz.prog 96 #[v, v'] w fun e w' => e = .returned (.bool true) ∧ Fr [] w w' := by
 obtain ⟨rb, rc, rfl, hr⟩ := h.rows
 obtain ⟨rb', rc', rfl, hr'⟩ := h'.rows
 have HR := (show Hid _ from hr)
 have HR' := (show Hid _ from hr')
 have HLE : Hid (∀ i, (pickL a b i).length ≤ 2000000) := fun i => by unfold pickL; split <;> assumption
 have HC : Hid (∀ i, i < 2 → ∃ (l : List Nat) (ao : Option Addr) (c : Nat) (ao' : Option Addr) (c' : Nat), l.length ≤ 2000000 ∧ w.cell? ⟨rb, i, none⟩ = some (.slice ao l.length c) ∧ w.cell? ⟨rb', i, none⟩ = some (.slice ao' l.length c') ∧ (∀ k (hk : k < l.length), ∃ g, ao = some ⟨g, 0, none⟩ ∧ w.cell? ⟨g, k, none⟩ = some (ii ((l[k]'hk : Nat) : Int))) ∧ (∀ k (hk : k < l.length), ∃ g, ao' = some ⟨g, 0, none⟩ ∧ w.cell? ⟨g, k, none⟩ = some (ii ((l[k]'hk : Nat) : Int)))) := fun i hi => by
  obtain ⟨ao, c, q1, q2⟩ := HR.out i hi
  obtain ⟨ao', c', q3, q4⟩ := HR'.out i hi
  exact ⟨pickL a b i, ao, c, ao', c', HLE.out i, q1, q3, q2, q4⟩
 clear h h' hr hr' HR HR' HLE
 go_enter Tryz.func96, Tryz.ntmps96
 go_wp2_with fail
 go_loopw [5] (fun i wr => ∃ k : Nat, k ≤ 2 ∧ i = .int .i64 k ∧ Fr [] w wr) (fun i _ => 2 - (intOf i).toNat)
 case atStart => exact ⟨0, Nat.zero_le _, rfl, Fr.refl _ _⟩
 case round =>
  obtain ⟨i, hi, rfl, hf⟩ := hrel
  by_cases hlt : i < 2
  ·have hlti : (i : Int) < 2 := by omega
   obtain ⟨l, ao, c, ao', c', hle, e1, e1', e2, e2'⟩ := HC.out i hlt
   have f1 : wr.cell? ⟨rb, i, none⟩ = some (.slice ao l.length c) := (hf.cell _ _ (lt_of_cell e1) (by simp)).trans e1
   have f1' : wr.cell? ⟨rb', i, none⟩ = some (.slice ao' l.length c') := (hf.cell _ _ (lt_of_cell e1') (by simp)).trans e1'
   have HE := (show Hid _ from e2)
   have HE' := (show Hid _ from e2')
   clear e2 e2'
   go_wp2_with fail
   go_quiet (fail)
   go_wp2_with fail
   go_loopw [6] (fun j wr => ∃ k : Nat, k ≤ l.length ∧ j = .int .i64 k ∧ Fr [] w wr) (fun j _ => l.length - (intOf j).toNat)
   case atStart => exact ⟨0, Nat.zero_le _, rfl, hf.drewN _⟩
   case round =>
    clear f1 f1' hf
    obtain ⟨k, hk, rfl, hf⟩ := hrel
    have f1 : wr.cell? ⟨rb, i, none⟩ = some (.slice ao l.length c) := (hf.cell _ _ (lt_of_cell e1) (by simp)).trans e1
    have f1' : wr.cell? ⟨rb', i, none⟩ = some (.slice ao' l.length c') := (hf.cell _ _ (lt_of_cell e1') (by simp)).trans e1'
    by_cases hlt2 : k < l.length
    ·have hlti2 : (k : Int) < (l.length : Int) := by omega
     obtain ⟨g, rfl, q⟩ := HE.out k hlt2
     obtain ⟨g', rfl, q'⟩ := HE'.out k hlt2
     obtain ⟨x, hx⟩ : ∃ x : Nat, l[k] = x := ⟨_, rfl⟩
     rw [hx] at q q'
     have f2 := (hf.cell _ _ (lt_of_cell q) (by simp)).trans q
     have f2' := (hf.cell _ _ (lt_of_cell q') (by simp)).trans q'
     clear q q' hx e1 e1'
     go_wp2_with fail
     go_quiet (fail)
     go_wp2_with fail
     go_roundw
     case rel => exact ⟨k + 1, hlt2, by go_num, hf.drewN _⟩
     case measure => simp [intOf]; omega
    ·have hlti2 : ¬ (k : Int) < (l.length : Int) := by omega
     clear e1 e1'
     go_wp2_with fail
     go_roundw
     case rel => exact ⟨i + 1, hlt, by go_num, hf⟩
     case measure => simp [intOf]; omega
  ·have hlti : ¬ (i : Int) < 2 := by omega
   go_wp2_with fail
   go_ret
   exact ⟨rfl, hf⟩
theorem CmdR.at {w w' : World} {v : Value} {l : List Cm} {pb : Nat} (h : CmdR w v l) (hf : Fr [] w w') (hp : w.heap.size ≤ pb) : CmdW w' v l pb := by
 have h' := h.fr0 hf
 rcases h with h | ⟨lb, lo, lc, h1, h2, h3⟩
 ·exact Or.inl h
 ·rcases h' with h' | ⟨lb', lo', lc', q1, q2, q3⟩
  ·exact Or.inl h'
  ·rw [h1] at q1
   cases q1
   exact Or.inr ⟨lb, lo, lc, h1, by omega, q3⟩
end Go.Proofs.YtapabahhfanmmaaGreatDoor
