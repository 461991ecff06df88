import Derived.OrdersHeld
import Derived.Deep.RegionHeld
import Derived.Test.YtapabahhfanmmaaGreatDoorCTornL
import Derived.Test.YtapabahhfanmmaaGreatDoorCLift
import Derived.Test.YtapabahhfanmmaaGreatDoorCCommand
import Derived.Deep.DeepCutAuto
/- A region whose last operation alone may turn what the others read: S is asked behind every operation but z. -/
namespace Go.Proofs.YtapabahhfanmmaaGreatDoor
open Go

section
variable {P : Program} {ops : Array Oper} {Q : Exit → Act → World → Prop} {md : Region.Mode} {S : World → Prop} {z : Nat}
/-- In whatever order; behind each operation but z the world meets S. -/
def OneFree (P : Program) (md : Region.Mode) (ops : Array Oper) (Q : Exit → Act → World → Prop) (S : World → Prop) (z : Nat) : Nat → Array Bool → Act → World → Prop
  | 0, li, a, w => Region.ready md ops li = [] ∧ Q .normal a w
  | n + 1, li, a, w => (Region.ready md ops li = [] → Q .normal a w) ∧ ∀ i ∈ Region.ready md ops li, wpOp P ops Q i (fun a' w' => (i ≠ z → S w') ∧ OneFree P md ops Q S z n (li.setIfInBounds i true) a' w') a w
theorem OneFree.plain : ∀ (n : Nat) (li : Array Bool) (a : Act) (w : World), OneFree P md ops Q S z n li a w → wpAny P md ops Q n li a w
  | 0, _, _, _, h => h
  | n + 1, _, _, _, h => ⟨h.1, fun i hi => wpOp_mono (fun a' w' k => OneFree.plain n _ a' w' k.2) (h.2 i hi)⟩
/-- z waits for i. -/
def waits (md : Region.Mode) (ops : Array Oper) (z i : Nat) : Bool := match ops[z]? with
  | some o => o.after.any fun e => Region.binds md e && e.on == i
  | none => false
theorem waits_not {li : Array Bool} {i : Nat} (hw : waits md ops z i = true) (hi : i ∈ Region.ready md ops li) : z ∉ Region.ready md ops li := fun hz => by
  obtain ⟨_, oz, hoz, hall⟩ := mem_ready.1 hz
  unfold waits at hw
  rw [hoz] at hw
  obtain ⟨e, he, hb⟩ := Array.any_eq_true'.1 hw
  have hb' : Region.binds md e = true ∧ e.on = i := by simpa using hb
  have h1 := hall e he hb'.1
  have h0 := (mem_ready.1 hi).1
  rw [hb'.2] at h1
  rcases Nat.lt_or_ge i li.size with h' | h'
  · simp [h'] at h0 h1
    rw [h0] at h1
    cases h1
  · simp [Array.getElem?_eq_none h'] at h1
/-- An operation that z waits for may be taken first, if it yields its value in every world that meets S. -/
theorem OneFree.ahead {i : Nat} {o : Oper} {v : Value} (ho : ops[i]? = some o) (hns : ∀ (j : Nat) (x : Oper) cs b, ops[j]? = some x → x.op ≠ .select cs b) (hw : waits md ops z i = true) (hzi : i ≠ z)
    (hQ : ∀ c a w, Q (.panic c) (a.put o.dst v) w → Q (.panic c) a w) : ∀ (n : Nat) (li : Array Bool) (a : Act) (w : World),
      (∀ j x, ops[j]? = some x → j ≠ i → li.getD j true = false → (∀ e ∈ x.after, Region.binds md e = true → e.on ≠ i) → o.apart ops x = true) →
      i ∈ Region.ready md ops li → YieldsIf P ops S o v a → S w →
      OneFree P md ops Q S z n (li.setIfInBounds i true) (a.put o.dst v) w → OneFree P md ops Q S z (n + 1) li a w
  | n, li, a, w, hfree, hr, hy, hS, H => by
    refine ⟨fun h => absurd (h ▸ hr) (by simp), fun j hj => ?_⟩
    by_cases hji : j = i
    · subst hji
      exact hy.wpOp ho hS ⟨fun _ => hS, H⟩
    have hjz : j ≠ z := fun e => waits_not hw hr (e ▸ hj)
    match n, H with
    | 0, H =>
      have h1 := ready_mono hj hji
      rw [H.1] at h1
      cases h1
    | n + 1, H =>
      have h1 := H.2 j (ready_mono hj hji)
      obtain ⟨hun, x, hx, hall⟩ := mem_ready.1 hj
      have hnot : ∀ e ∈ x.after, Region.binds md e = true → e.on ≠ i := fun e he hb heq => by
        have k1 := hall e he hb
        have k0 := (mem_ready.1 hr).1
        rw [heq] at k1
        rcases Nat.lt_or_ge i li.size with h' | h'
        · simp [h'] at k0 k1
          rw [k0] at k1
          cases k1
        · simp [Array.getElem?_eq_none h'] at k1
      have h2 := wpOp_putIf hx (hfree j x hx hji hun hnot) (fun cs b => hns i o cs b ho) (fun cs b => hns j x cs b hx) hQ hy h1
      refine wpOp_mono (fun a' w' h3 => ?_) h2
      have hS' := h3.2.1 hjz
      refine ⟨fun _ => hS', OneFree.ahead ho hns hw hzi hQ n (li.setIfInBounds j true) a' w' (fun q y hq hqi hu hno => hfree q y hq hqi ?_ hno) (ready_mono hr (Ne.symm hji)) h3.1 hS' ?_⟩
      · by_cases hjq : j = q
        · subst hjq
          exact hun
        · rw [getD_set_ne true hjq] at hu
          exact hu
      · rw [Array.setIfInBounds_comm _ _ hji]
        exact h3.2.2
theorem OneFree.take {i : Nat} {o : Oper} {v : Value} {n : Nat} {li : Array Bool} {a : Act} {w : World} (ho : ops[i]? = some o) (hs : Region.noSelect ops = true) (hf : Region.free md ops li i = true) (hr : (Region.ready md ops li).contains i = true) (hw : waits md ops z i = true) (hzi : i ≠ z)
    (hQ : ∀ c a w, Q (.panic c) (a.put o.dst v) w → Q (.panic c) a w) (hy : YieldsIf P ops S o v a) (hS : S w) (h : OneFree P md ops Q S z n (li.setIfInBounds i true) (a.put o.dst v) w) : OneFree P md ops Q S z (n + 1) li a w :=
  OneFree.ahead ho (Region.noSelect_spec hs) hw hzi hQ n li a w (Region.free_spec ho hf) (by simpa using hr) hy hS h
/-- One alone may come up. -/
theorem OneFree.one {i : Nat} {n : Nat} {li : Array Bool} {a : Act} {w : World} (hr : Region.ready md ops li = [i]) (h : wpOp P ops Q i (fun a' w' => (i ≠ z → S w') ∧ OneFree P md ops Q S z n (li.setIfInBounds i true) a' w') a w) : OneFree P md ops Q S z (n + 1) li a w := by
  refine ⟨fun h0 => by rw [hr] at h0; simp at h0, fun j hj => ?_⟩
  rw [hr] at hj
  have : j = i := by simpa using hj
  rw [this]
  exact h
theorem OneFree.done {li : Array Bool} {a : Act} {w : World} (hr : Region.ready md ops li = []) (h : Q .normal a w) : ∀ n, OneFree P md ops Q S z n li a w
  | 0 => ⟨hr, h⟩
  | _ + 1 => ⟨fun _ => h, by rw [hr]; simp⟩
theorem OneFree.region (S : World → Prop) (z : Nat) {id : Nat} {a : Act} {w : World} (hm : P.follows .mixedOrders = true) (h : OneFree P .any ops Q S z ops.size (Array.replicate ops.size false) a w.drew) : (Code.region id ops true).wp P Q a w :=
  wp_region_any hm (OneFree.plain _ _ _ _ h)
end
end Go.Proofs.YtapabahhfanmmaaGreatDoor
/- The files as the first steps make them. -/
namespace Go.Proofs.YtapabahhfanmmaaGreatDoor
open Go.RowKit

theorem infoFl : (Tryz.prog.info? 115).map (fun i => (i.zero, i.size, i.bytes)) = some (some (.agg #[.string ⟨#[]⟩, .string ⟨#[]⟩]), 2, 32) := by kernel_rfl
theorem infoI8 : (Tryz.prog.info? 3).map (fun i => (i.zero, i.size, i.bytes)) = some (some (ii 0), 1, 8) := by kernel_rfl
theorem steps_at : ∀ (l : List Stp) (i : Nat) (s : Stp), l[i]? = some s → (l.flatMap Stp.cells)[i * 4]? = some (ii s.what) ∧ (l.flatMap Stp.cells)[i * 4 + 1]? = some (sv s.name) ∧ (l.flatMap Stp.cells)[i * 4 + 2]? = some (sv s.to) ∧ (l.flatMap Stp.cells)[i * 4 + 3]? = some (sv s.data)
  | [], _, _, h => by simp at h
  | a :: l, 0, s, h => by
    have : a = s := by simpa using h
    subst this
    simp
  | a :: l, i + 1, s, h => by
    obtain ⟨h1, h2, h3, h4⟩ := steps_at l i s (by simpa using h)
    rw [List.flatMap_cons]
    have e : ∀ j, (a.cells ++ l.flatMap Stp.cells)[(i + 1) * 4 + j]? = (l.flatMap Stp.cells)[i * 4 + j]? := fun j => by
      rw [List.getElem?_append_right (by simp; omega)]
      congr 1
      simp
      omega
    have e0 := e 0
    rw [Nat.add_zero, Nat.add_zero] at e0
    rw [e0, e 1, e 2, e 3]
    exact ⟨h1, h2, h3, h4⟩
/-- A step that came in, in its own block. -/
structure SBk (b : Nat) (s : Stp) (w : World) : Prop where
  h : w.heap[b]? = some (.cells #[ii s.what, sv s.name, sv s.to, sv s.data] 113)
theorem SBk.c {b : Nat} {s : Stp} {w : World} (h : SBk b s w) : w.cell? ⟨b, 0, none⟩ = some (ii s.what) ∧ w.cell? ⟨b, 1, none⟩ = some (sv s.name) ∧ w.cell? ⟨b, 2, none⟩ = some (sv s.to) ∧ w.cell? ⟨b, 3, none⟩ = some (sv s.data) := ⟨cell_of_heap h.h, cell_of_heap h.h, cell_of_heap h.h, cell_of_heap h.h⟩
structure BdF (fl : List Fl) : Prop where
  len : fl.length ≤ 2
  data : ∀ f ∈ fl, f.data.length ≤ 1000000

set_option maxRecDepth 100000 in
set_option maxHeartbeats 8000000 in
theorem cutOff_any (v gv : Value) (steps : List Stp) (gone : List Int) (cut : Nat) (w : World) (hown : w.ownsRow 0 113 4 v steps.length (steps.flatMap Stp.cells)) (hc : cut ≤ steps.length) (hll : steps.length ≤ 10000000) (hgv : IntsV w gv gone)
    (hok : ∀ k s, k < cut → steps[k]? = some s → StepOk (disk (steps.take k)) s ∧ s.data.length ≤ 1000000) (hbd : ∀ k, k ≤ cut → BdF (disk (steps.take k))) (hsf : ∀ f ∈ disk (steps.take cut), f.safe ≤ f.data.length) :
    Calls Tryz.prog 21 #[v, .int .i64 cut, gv] w fun e w' => ∃ (lv : Value) (fs : List Pf), e = .returned lv ∧ w'.ownsRow w.heap.size 115 2 lv fs.length (fs.flatMap fun p : Pf => [sv p.1, sv p.2]) ∧ fs.length = (disk (steps.take cut)).length ∧ (∀ (i : Nat) (f : Fl) (p : Pf), (disk (steps.take cut))[i]? = some f → fs[i]? = some p → p.1 = f.name ∧ ∃ n, f.safe ≤ n ∧ p.2 = f.data.take n) ∧ Fr [] w w' := by
  obtain ⟨ao, lc, rfl⟩ := rows_slice hown
  obtain ⟨ga, gc, rfl⟩ : ∃ ga gc, gv = .slice ga gone.length gc := by
    rcases hgv with ⟨a, c, rfl, rfl⟩ | ⟨lb, lo, c, rfl, _⟩
    · exact ⟨_, _, rfl⟩
    · exact ⟨_, _, rfl⟩
  have HOWN := (show Hid _ from hown)
  have HGV := (show Hid _ from hgv)
  have HOK := (show Hid _ from hok)
  have HBD := (show Hid _ from hbd)
  have HSF := (show Hid _ from hsf)
  clear hok hbd hsf
  go_enter Tryz.func21, Tryz.ntmps21
  go_wp2_with fail
  go_loopw [7, 8, 9] (fun lv zv i wr => ∃ k : Nat, k ≤ cut ∧ i = .int .i64 k ∧ DK w lv zv (disk (steps.take k)) wr) (fun _ _ i _ => cut - (intOf i).toNat)
  case atStart => exact ⟨0, Nat.zero_le _, rfl, ⟨⟨rfl, Or.inl ⟨rfl, rfl⟩⟩, ⟨rfl, Or.inl ⟨rfl, rfl⟩⟩, fun b hb => by simp [Value.ownBlock] at hb, Fr.refl _ _⟩⟩
  case round =>
    obtain ⟨k, hk, rfl, hD⟩ := hrel
    by_cases hlt : k < cut
    · have hlti : (k : Int) < (cut : Int) := by omega
      obtain ⟨s, hs⟩ : ∃ s, steps[k]? = some s := ⟨steps[k], List.getElem?_eq_getElem (by omega)⟩
      obtain ⟨hst, hsd⟩ := HOK.out k s hlt hs
      have hbf := HBD.out k (by omega)
      have hsh := hbf.len
      have HNX : Hid (disk (steps.take (k + 1)) = dstep (disk (steps.take k)) s) := by
        show _ = _
        obtain ⟨hl, e⟩ := List.getElem?_eq_some_iff.1 hs
        rw [List.take_succ_eq_append_getElem hl, disk_snoc, e]
      obtain ⟨fl, hfl⟩ : ∃ fl, fl = disk (steps.take k) := ⟨_, rfl⟩
      rw [← hfl] at hD hst hbf HNX hsh
      clear hfl
      obtain ⟨h0, h1, h2, h3⟩ := steps_at steps k s hs
      have hxl := sflat_len steps
      obtain ⟨g, cap, hsl, _, hgl, c0, _⟩ := rows_at HOWN.out h0 hxl
      obtain ⟨_, _, e1, _, _, c1, _⟩ := rows_at HOWN.out h1 hxl
      obtain ⟨_, _, e2, _, _, c2, _⟩ := rows_at HOWN.out h2 hxl
      obtain ⟨_, _, e3, _, _, c3, _⟩ := rows_at HOWN.out h3 hxl
      have e1' := hsl.symm.trans e1
      have e2' := hsl.symm.trans e2
      have e3' := hsl.symm.trans e3
      simp only [Value.slice.injEq, Option.some.injEq, Addr.mk.injEq, and_true, true_and] at e1' e2' e3'
      obtain ⟨rfl, rfl⟩ := e1'
      obtain ⟨rfl, rfl⟩ := e2'
      obtain ⟨rfl, rfl⟩ := e3'
      obtain ⟨rfl, rfl⟩ : ao = some ⟨g, 0, none⟩ ∧ lc = cap := by simpa using hsl
      have hfw := hD.fr
      have d0 := (hfw.cell _ _ hgl (by simp)).trans c0
      have d1 := (hfw.cell _ _ hgl (by simp)).trans c1
      have d2 := (hfw.cell _ _ hgl (by simp)).trans c2
      have d3 := (hfw.cell _ _ hgl (by simp)).trans c3
      obtain ⟨wt, nm, tt, dt⟩ := s
      dsimp only at d0 d1 d2 d3 hsd hst HNX
      obtain ⟨nx, hnx⟩ : ∃ x : ByteArray, x = ⟨nm.toArray⟩ := ⟨_, rfl⟩
      obtain ⟨tx, htx⟩ : ∃ x : ByteArray, x = ⟨tt.toArray⟩ := ⟨_, rfl⟩
      obtain ⟨dx, hdx⟩ : ∃ x : ByteArray, x = ⟨dt.toArray⟩ := ⟨_, rfl⟩
      rw [sv, ← hnx] at d1
      rw [sv, ← htx] at d2
      rw [sv, ← hdx] at d3
      have HNM := (show Hid _ from hnx)
      have HTT := (show Hid _ from htx)
      have HDT := (show Hid _ from hdx)
      have hdsz : dx.size = dt.length := by rw [hdx]; rfl
      obtain ⟨lo, lcap, rfl⟩ := rows_slice hD.l
      obtain ⟨zo, zcap, rfl⟩ := rows_slice hD.s
      clear hnx htx hdx c0 c1 c2 c3 e1 e2 e3 h0 h1 h2 h3 hsl hs hxl
      have HD := (show Hid _ from hD)
      clear hD
      go_wp2_with fail
      obtain ⟨W1, hW1⟩ : ∃ W, W = wr.alloc (.cells #[ii wt, .string nx, .string tx, .string dx] 113) := ⟨_, rfl⟩
      rw [← hW1]
      have hw1 : Fr [] wr W1 := by rw [hW1]; exact (Fr.refl _ _).alloc _
      have hS1 : W1.heap[wr.heap.size]? = some (.cells #[ii wt, .string nx, .string tx, .string dx] 113) := by rw [hW1]; exact hp_new _ _
      have HD1 : Hid (DK w (.slice lo fl.length lcap) (.slice zo fl.length zcap) fl W1) := DK.fr0 HD.out hw1
      have HS1 := (show Hid _ from hS1)
      obtain ⟨A, hA⟩ : ∃ A, A = wr.heap.size := ⟨_, rfl⟩
      rw [← hA] at HS1 ⊢
      clear hW1 hS1 hA HD d0 d1 d2 d3 hw1 hfw
      go_loopw [11, 12] (fun a i wr => ∃ j : Nat, j ≤ fl.length ∧ i = .int .i64 j ∧ a = .int .i64 (atTo fl nm j) ∧ Fr [] W1 wr) (fun _ i _ => fl.length - (intOf i).toNat)
      case atStart => exact ⟨0, Nat.zero_le _, rfl, rfl, Fr.refl _ _⟩
      case round =>
        obtain ⟨j, hj, rfl, rfl, hf⟩ := hrel
        by_cases hjl : j < fl.length
        · have hjli : (j : Int) < (fl.length : Int) := by omega
          obtain ⟨f, hfj⟩ : ∃ f, fl[j]? = some f := ⟨fl[j], List.getElem?_eq_getElem hjl⟩
          obtain ⟨gl', gc', hlv, _, _, b0, _, _⟩ := (HD1.out.fr0 hf).file hfj
          obtain ⟨rfl, rfl⟩ : lo = some ⟨gl', 0, none⟩ ∧ lcap = gc' := by simpa using hlv
          have s1 : wr.cell? ⟨A, 1, none⟩ = some (.string nx) := cell_of_heap (hf.heap0 HS1.out)
          obtain ⟨fx, hfx⟩ : ∃ x : ByteArray, x = ⟨f.name.toArray⟩ := ⟨_, rfl⟩
          rw [sv, ← hfx] at b0
          have hbe : (fx.toList == nx.toList) = decide (f.name = nm) := by
            rw [hfx, HNM.out, toList_mk, toList_mk]
            by_cases e : f.name = nm <;> simp [e]
          have HSU : Hid (atTo fl nm (j + 1) = if f.name = nm then (j : Int) else atTo fl nm j) := by
            show _ = _
            rw [atTo, hfj]
            simp
          obtain ⟨B, hB⟩ : ∃ B, B = decide (f.name = nm) := ⟨_, rfl⟩
          rw [← hB] at hbe
          have HB := (show Hid _ from hB)
          clear hB hfx hlv hfj hst hbf
          go_wp2_with fail
          go_cut [42] (fun s42 wx => s42 = .bool B ∧ Fr [] wr wx)
          case first =>
            go_region
            all_goals
              go_wp2_with fail
              go_meet
              exact ⟨rfl, (Fr.refl _ _).drewN _⟩
          case rest =>
            obtain ⟨rfl, hf2⟩ := hcut
            cases B
            · have hne : ¬ f.name = nm := of_decide_eq_false HB.out.symm
              go_wp2_with fail
              go_roundw
              case rel => exact ⟨j + 1, hjl, by go_num, by rw [HSU.out, if_neg hne], hf.then0 hf2⟩
              case measure => simp [intOf]; omega
            · have hye : f.name = nm := of_decide_eq_true HB.out.symm
              go_wp2_with fail
              go_roundw
              case rel => exact ⟨j + 1, hjl, by go_num, by rw [HSU.out, if_pos hye], hf.then0 hf2⟩
              case measure => simp [intOf]; omega
        · have hjli : ¬ (j : Int) < (fl.length : Int) := by omega
          have hje : j = fl.length := by omega
          have hao : atTo fl nm j = atOf fl nm := by rw [hje]; rfl
          have hsp := atTo_spec fl nm j hj
          rw [hao] at hsp ⊢
          have HDR : Hid (DK w (.slice lo fl.length lcap) (.slice zo fl.length zcap) fl wr) := HD1.out.fr0 hf
          have hSr := hf.heap0 HS1.out
          have s0 : wr.cell? ⟨A, 0, none⟩ = some (ii wt) := cell_of_heap hSr
          have s1 : wr.cell? ⟨A, 1, none⟩ = some (.string nx) := cell_of_heap hSr
          have s2 : wr.cell? ⟨A, 2, none⟩ = some (.string tx) := cell_of_heap hSr
          have s3 : wr.cell? ⟨A, 3, none⟩ = some (.string dx) := cell_of_heap hSr
          have HSR := (show Hid _ from hSr)
          have HBF := (show Hid _ from hbf)
          clear hao HD1 HS1 hSr hje hbf
          rcases hst with hw1 | ⟨hw2, hat2⟩ | ⟨hw3, hat3, hot⟩
          · have hw1' : wt = 1 := hw1
            subst hw1'
            rcases hsp with hm1 | ⟨a, f, ha, hae, hfa, hfn⟩
            · have HDN : Hid (dstep fl ⟨1, nm, tt, dt⟩ = fl ++ [⟨nm, dt, 0⟩]) := by
                show _ = _
                unfold dstep
                rw [if_pos rfl, if_pos (show atOf fl nm < 0 by omega)]
              rw [hm1]
              obtain ⟨inf, hi0, hz0, hz1, hz2⟩ := info_parts infoFl
              obtain ⟨ini, hj0, hy0, hy1, hy2⟩ := info_parts infoI8
              have HFA : Hid ((wr.alloc (.cells #[.string nx, .string dx] 115)).ownsRow w.heap.size 115 2 (.slice lo fl.length lcap) fl.length (fl.flatMap Fl.fc)) := rows_fr HDR.out.l ((Fr.refl [] wr).alloc _) (by simp)
              have HNE : Hid (∀ (q : Nat) (y : Value), ([.string nx, .string dx] : List Value)[q]? = some y → (wr.alloc (.cells #[.string nx, .string dx] 115)).cell? ((⟨wr.heap.size, 0, none⟩ : Addr).add q) = some y) := by
                intro q y hy
                rw [Addr.add_lit, Nat.zero_add, cell_of_heap (hp_new wr _)]
                simpa using hy
              have hbw := HDR.out.fr.size
              have HSZ : Hid (∀ w5, (wr.alloc (.cells #[.string nx, .string dx] 115)).grownBy w5 (Value.slice lo fl.length lcap).ownBlock → (w5.alloc (.cells #[ii 0] 3)).ownsRow w.heap.size 3 1 (.slice zo fl.length zcap) fl.length (fl.map fun f => ii (f.safe : Int)) ∧ w.heap.size ≤ w5.heap.size) := fun w5 hg => by
                have h1 := rows_fr HDR.out.s ((Fr.refl [] wr).alloc (.cells #[.string nx, .string dx] 115)) (by simp)
                have h2 : Fr (Value.slice lo fl.length lcap).ownBlock.toList (wr.alloc (.cells #[.string nx, .string dx] 115)) w5 := fr_grown (Fr.refl _ _) hg (fun b hb => Or.inl (by simp [hb]))
                have h3 := rows_fr h1 h2 (fun b hb e => HDR.out.ne b (by simpa using e) hb)
                refine ⟨rows_fr h3 ((Fr.refl [] w5).alloc _) (by simp), ?_⟩
                have := h2.size
                simp at this
                omega
              have HNI : Hid (∀ (W : World) (q : Nat) (y : Value), ([ii 0] : List Value)[q]? = some y → (W.alloc (.cells #[ii 0] 3)).cell? ((⟨W.heap.size, 0, none⟩ : Addr).add q) = some y) := by
                intro W q y hy
                rw [Addr.add_lit, Nat.zero_add, cell_of_heap (hp_new W _)]
                simpa using hy
              clear s2
              go_wp2_with (first
                | (at_builtin; refine wpList_append_own_at _ rfl _ _ 51 rfl w.heap.size 115 inf (.agg #[.string ⟨#[]⟩, .string ⟨#[]⟩]) 2 32 Tryz.underlying51 hi0 hz0 hz1 hz2 rfl (by decide) (.slice lo fl.length lcap) fl.length (fl.flatMap Fl.fc) rfl HFA.out ⟨wr.heap.size, 0, none⟩ 1 1 [.string nx, .string dx] rfl rfl HNE.out (by simp [Value.oneCell']) (by unfold maxLen; omega) (by omega) (by simp; omega) ?_; intro v5 w5 hown5 hgrow5 hnil5 hat5; obtain ⟨hz5, hbw5⟩ := HSZ.out w5 hgrow5)
                | (at_builtin; refine wpList_append_own_at _ rfl _ _ 25 rfl w.heap.size 3 ini (ii 0) 1 8 Tryz.underlying25 hj0 hy0 hy1 hy2 rfl (by decide) (.slice zo fl.length zcap) fl.length (fl.map fun f => ii (f.safe : Int)) rfl hz5 ⟨w5.heap.size, 0, none⟩ 1 1 [ii 0] rfl rfl (HNI.out w5) (by simp [Value.oneCell']) (by unfold maxLen; omega) (by omega) (by simp; omega) ?_; intro v6 w6 hown6 hgrow6 hnil6 hat6))
              go_roundw
              case rel =>
                refine ⟨k + 1, hlt, by go_num, ?_⟩
                rw [HNX.out, HDN.out]
                refine DK.add HDR.out ((Fr.refl [] wr).alloc _) nm dt ?_ hgrow5 hat5 ((Fr.refl [] w5).alloc _) hown6 hgrow6 hat6
                rw [sv, ← HNM.out, sv, ← HDT.out]
                exact hown5
              case measure => simp [intOf]; omega
            · have HDN : Hid (dstep fl ⟨1, nm, tt, dt⟩ = fl.modify a fun x => { x with data := f.data ++ dt }) := by
                show _ = _
                unfold dstep
                rw [if_pos rfl, if_neg (show ¬ atOf fl nm < 0 by omega)]
                dsimp only
                rw [hae, Int.toNat_natCast, modify_data hfa]
              rw [hae]
              obtain ⟨gl', gc', hlv, _, hgl2, b0, b1, z1⟩ := HDR.out.file hfa
              obtain ⟨rfl, rfl⟩ : lo = some ⟨gl', 0, none⟩ ∧ lcap = gc' := by simpa using hlv
              obtain ⟨fx, hfx⟩ : ∃ x : ByteArray, x = ⟨f.data.toArray⟩ := ⟨_, rfl⟩
              rw [sv, ← hfx] at b1
              have hfs : fx.size = f.data.length := by rw [hfx]; rfl
              have hfb := HBF.out.data f (List.mem_of_getElem? hfa)
              have hal : a < fl.length := by omega
              have hali : (a : Int) < (fl.length : Int) := by omega
              have HFX := (show Hid _ from hfx)
              clear hfx s1 s2 b0 hlv hfn
              go_wp2_with fail
              go_region
              all_goals
                go_wp2_with fail
                go_roundw
                case rel =>
                  refine ⟨k + 1, hlt, by go_num, ?_⟩
                  rw [HNX.out, HDN.out]
                  have hd := (DK.fr0 HDR.out ((Fr.refl [] wr).drewN 1)).setData rfl a hal (f.data ++ dt)
                  have e : sv (f.data ++ dt) = .string (fx ++ dx) := by
                    rw [HFX.out, HDT.out, ByteArray.mk_append_mk]
                  rw [e] at hd
                  exact hd
                case measure => simp [intOf]; omega
          · have hw2' : wt = 2 := hw2
            subst hw2'
            rcases hsp with hm1 | ⟨a, f, ha, hae, hfa, hfn⟩
            · exact absurd hm1 (by have : 0 ≤ atOf fl nm := hat2; omega)
            · have HDN : Hid (dstep fl ⟨2, nm, tt, dt⟩ = fl.modify a fun x => { x with safe := f.data.length }) := by
                show _ = _
                unfold dstep
                rw [if_neg (show ¬ (2 : Int) = 1 by decide), if_pos ⟨rfl, hat2⟩]
                dsimp only
                rw [hae, Int.toNat_natCast, modify_safe hfa]
              rw [hae]
              obtain ⟨gl', gc', hlv, _, hgl2, b0, b1, z1⟩ := HDR.out.file hfa
              obtain ⟨rfl, rfl⟩ : lo = some ⟨gl', 0, none⟩ ∧ lcap = gc' := by simpa using hlv
              obtain ⟨gz', zc', hzv, _, hgz2, b2, z2⟩ := HDR.out.safe hfa
              obtain ⟨rfl, rfl⟩ : zo = some ⟨gz', 0, none⟩ ∧ zcap = zc' := by simpa using hzv
              obtain ⟨fx, hfx⟩ : ∃ x : ByteArray, x = ⟨f.data.toArray⟩ := ⟨_, rfl⟩
              rw [sv, ← hfx] at b1
              have hfs : fx.size = f.data.length := by rw [hfx]; rfl
              have hfb := HBF.out.data f (List.mem_of_getElem? hfa)
              have hal : a < fl.length := by omega
              have hali : (a : Int) < (fl.length : Int) := by omega
              clear hfx s1 s2 s3 b0 hlv hzv hfn
              go_wp2_with fail
              go_roundw
              case rel =>
                refine ⟨k + 1, hlt, by go_num, ?_⟩
                rw [HNX.out, HDN.out]
                exact DK.setSafe HDR.out rfl a f.data.length
              case measure => simp [intOf]; omega
          · have hw3' : wt = 3 := hw3
            subst hw3'
            rcases hsp with hm1 | ⟨a, f, ha, hae, hfa, hfn⟩
            · exact absurd hm1 (by have : 0 ≤ atOf fl nm := hat3; omega)
            · have HDN : Hid (dstep fl ⟨3, nm, tt, dt⟩ = [⟨tt, f.data, f.safe⟩]) := by
                show _ = _
                unfold dstep
                rw [if_neg (show ¬ (3 : Int) = 1 by decide), if_neg (fun h => absurd h.1 (show ¬ (3 : Int) = 2 by decide)), if_pos ⟨Or.inl rfl, hat3⟩, others_nil (show (3 : Int) ≠ 4 by decide) hot]
                dsimp only
                rw [hae, Int.toNat_natCast, hfa]
                rfl
              rw [hae]
              have hot' : ∀ (k : Nat) (f : Fl), fl[k]? = some f → k = a ∨ f.name = tt := fun k f h => by
                rcases hot k f h with h1 | h1
                · exact Or.inl (by have h2 : (k : Int) = atOf fl nm := h1; omega)
                · exact Or.inr h1
              obtain ⟨gl', gc', hlv, _, hgl2, b0, b1, z1⟩ := HDR.out.file hfa
              obtain ⟨rfl, rfl⟩ : lo = some ⟨gl', 0, none⟩ ∧ lcap = gc' := by simpa using hlv
              obtain ⟨gz', zc', hzv, _, hgz2, b2, z2⟩ := HDR.out.safe hfa
              obtain ⟨rfl, rfl⟩ : zo = some ⟨gz', 0, none⟩ ∧ zcap = zc' := by simpa using hzv
              obtain ⟨fx, hfx⟩ : ∃ x : ByteArray, x = ⟨f.data.toArray⟩ := ⟨_, rfl⟩
              obtain ⟨fn, hfnx⟩ : ∃ x : ByteArray, x = ⟨f.name.toArray⟩ := ⟨_, rfl⟩
              rw [sv, ← hfx] at b1
              rw [sv, ← hfnx] at b0
              have hal : a < fl.length := by omega
              have hali : (a : Int) < (fl.length : Int) := by omega
              have HFX := (show Hid _ from hfx)
              have HOT := (show Hid _ from hot')
              clear hfx hfnx s1 s3 hlv hzv hfn hot hot'
              go_wp2_with fail
              obtain ⟨W2, hW2⟩ : ∃ W, W = wr.alloc (.cells #[.string fn, .string fx] 115) := ⟨_, rfl⟩
              rw [← hW2]
              have hw2 : Fr [] wr W2 := by rw [hW2]; exact (Fr.refl _ _).alloc _
              have HX2 : Hid (W2.heap[wr.heap.size]? = some (.cells #[.string fn, .string fx] 115)) := by show _ = _; rw [hW2]; exact hp_new _ _
              have HS2 : Hid (W2.heap[A]? = some (.cells #[ii 3, .string nx, .string tx, .string dx] 113)) := hw2.heap0 HSR.out
              have HD2 : Hid (DK w (.slice (some ⟨gl', 0, none⟩) fl.length lcap) (.slice (some ⟨gz', 0, none⟩) fl.length zcap) fl W2) := DK.fr0 HDR.out hw2
              obtain ⟨X, hX⟩ : ∃ X, X = wr.heap.size := ⟨_, rfl⟩
              rw [← hX] at HX2 ⊢
              have HWW : Hid (Fr [] w W2) := HD2.out.fr
              have HXW : Hid (w.heap.size ≤ X) := by
                show _ ≤ _
                have := HDR.out.fr.size
                omega
              clear hW2 hX hw2 HDR HSR b0 b1 b2 z1 z2 s0 s2 hgl2 hgz2
              go_loopw [15, 16, 17] (fun m o i wr => ∃ q : Nat, q ≤ fl.length ∧ i = .int .i64 q ∧ m = .slice none 0 0 ∧ o = .slice none 0 0 ∧ Fr [] W2 wr) (fun _ _ i _ => fl.length - (intOf i).toNat)
              case atStart => exact ⟨0, Nat.zero_le _, rfl, rfl, rfl, Fr.refl _ _⟩
              case round =>
                obtain ⟨q, hq, rfl, rfl, rfl, hfq⟩ := hrel
                by_cases hql : q < fl.length
                · have hqli : (q : Int) < (fl.length : Int) := by omega
                  obtain ⟨f', hf'⟩ : ∃ f, fl[q]? = some f := ⟨fl[q], List.getElem?_eq_getElem hql⟩
                  obtain ⟨gl2, gc2, hlv2, _, _, b0, _, _⟩ := (HD2.out.fr0 hfq).file hf'
                  obtain ⟨rfl, rfl⟩ : gl' = gl2 ∧ lcap = gc2 := by simpa using hlv2
                  have s0 : wr.cell? ⟨A, 0, none⟩ = some (ii 3) := cell_of_heap (hfq.heap0 HS2.out)
                  have s2 : wr.cell? ⟨A, 2, none⟩ = some (.string tx) := cell_of_heap (hfq.heap0 HS2.out)
                  obtain ⟨fx', hfx'⟩ : ∃ x : ByteArray, x = ⟨f'.name.toArray⟩ := ⟨_, rfl⟩
                  rw [sv, ← hfx'] at b0
                  have hcase : q = a ∨ (fx'.toList == tx.toList) = true := by
                    rcases HOT.out q f' hf' with h1 | h1
                    · exact Or.inl h1
                    · right
                      rw [hfx', HTT.out, toList_mk, toList_mk, h1]
                      simp
                  clear hfx' hlv2 hf'
                  go_wp2_with fail
                  go_cut [140] (fun s140 wx => s140 = .bool false ∧ Fr [] wr wx)
                  case first =>
                    rcases hcase with hqa | hbe
                    · subst hqa
                      go_region
                      all_goals
                        go_wp2_with fail
                        go_meet
                        exact ⟨rfl, (Fr.refl _ _).drewN _⟩
                    · by_cases hqa : q = a
                      · subst hqa
                        go_region
                        all_goals
                          go_wp2_with fail
                          go_meet
                          exact ⟨rfl, (Fr.refl _ _).drewN _⟩
                      · have hqai : ¬ (q : Int) = (a : Int) := by omega
                        have hqb : decide ((q : Int) = (a : Int)) = false := by simpa using hqai
                        have hqn : decide (q = a) = false := by simpa using hqa
                        have hqe : ((q : Int) == (a : Int)) = false := by simpa using hqai
                        have hqf : ((q : Int) != (a : Int)) = true := by simpa using hqai
                        have hqg : (q == a) = false := by simpa using hqa
                        have hqh : (q != a) = true := by simpa using hqa
                        go_big_region
                        go_wp2_with fail
                        go_meet
                        exact ⟨rfl, (Fr.refl _ _).drew⟩
                  case rest =>
                    obtain ⟨rfl, hf2⟩ := hcut
                    clear s0 s2 b0 hcase
                    go_wp2_with fail
                    go_roundw
                    case rel => exact ⟨q + 1, hql, by go_num, rfl, rfl, hfq.then0 hf2⟩
                    case measure => simp [intOf]; omega
                · have hqli : ¬ (q : Int) < (fl.length : Int) := by omega
                  have hSr := hfq.heap0 HS2.out
                  have s0 : wr.cell? ⟨A, 0, none⟩ = some (ii 3) := cell_of_heap hSr
                  have s2 : wr.cell? ⟨A, 2, none⟩ = some (.string tx) := cell_of_heap hSr
                  have hXr := hfq.heap0 HX2.out
                  have x0 : wr.cell? ⟨X, 0, none⟩ = some (.string fn) := cell_of_heap hXr
                  have x1 : wr.cell? ⟨X, 1, none⟩ = some (.string fx) := cell_of_heap hXr
                  have zx : wr.frozen? ⟨X, 0, none⟩ = false := frozen_of_heap hXr
                  have hXw : w.heap.size ≤ X := HXW.out
                  obtain ⟨W5, hW5⟩ : ∃ W, W = wr.setCell ⟨X, 0, none⟩ (.string tx) := ⟨_, rfl⟩
                  have hw5 : Fr [] w W5 := by rw [hW5]; exact (HWW.out.then0 hfq).setCell _ _ (Or.inr hXw)
                  have hX5 : W5.heap[X]? = some (.cells #[.string tx, .string fx] 115) := by rw [hW5, setCell_heap hXr]; rfl
                  have y0 : W5.cell? ⟨X, 0, none⟩ = some (.string tx) := cell_of_heap hX5
                  have y1 : W5.cell? ⟨X, 1, none⟩ = some (.string fx) := cell_of_heap hX5
                  obtain ⟨inf, hi0, hz0, hz1, hz2⟩ := info_parts infoFl
                  obtain ⟨ini, hj0, hy0, hy1, hy2⟩ := info_parts infoI8
                  have hsz5 : W5.heap.size = wr.heap.size := by rw [hW5]; simp [World.setCell]
                  have HON : Hid ((W5.alloc (.cells #[.string tx, .string fx] 115)).ownsRow wr.heap.size 115 2 (.slice none 0 0) 0 []) := ⟨rfl, Or.inl ⟨rfl, rfl⟩⟩
                  have HNE : Hid (∀ (q : Nat) (y : Value), ([.string tx, .string fx] : List Value)[q]? = some y → (W5.alloc (.cells #[.string tx, .string fx] 115)).cell? ((⟨wr.heap.size, 0, none⟩ : Addr).add q) = some y) := by
                    intro q y hy
                    have hh := hp_new W5 (.cells #[.string tx, .string fx] 115)
                    rw [hsz5] at hh
                    rw [Addr.add_lit, Nat.zero_add, cell_of_heap hh]
                    simpa using hy
                  have HOI : Hid (∀ W : World, (W.alloc (.cells #[ii (f.safe : Int)] 3)).ownsRow W.heap.size 3 1 (.slice none 0 0) 0 []) := fun W => ⟨rfl, Or.inl ⟨rfl, rfl⟩⟩
                  have HNI : Hid (∀ (W : World) (q : Nat) (y : Value), ([ii (f.safe : Int)] : List Value)[q]? = some y → (W.alloc (.cells #[ii (f.safe : Int)] 3)).cell? ((⟨W.heap.size, 0, none⟩ : Addr).add q) = some y) := by
                    intro W q y hy
                    rw [Addr.add_lit, Nat.zero_add, cell_of_heap (hp_new W _)]
                    simpa using hy
                  have HW5 := (show Hid _ from hW5)
                  rw [hW5] at y0 y1 HON HNE
                  clear hW5 hXr hSr hX5 HOT HD2 HS2 HX2
                  go_wp2_with (first
                    | (at_builtin; refine wpList_append_own_at _ rfl _ _ 51 rfl wr.heap.size 115 inf (.agg #[.string ⟨#[]⟩, .string ⟨#[]⟩]) 2 32 Tryz.underlying51 hi0 hz0 hz1 hz2 rfl (by decide) (.slice none 0 0) 0 [] rfl HON.out ⟨wr.heap.size, 0, none⟩ 1 1 [.string tx, .string fx] rfl rfl HNE.out (by simp [Value.oneCell']) (by unfold maxLen; omega) (by omega) (by simp [World.setCell]) ?_; intro v5 w5 hown5 hgrow5 hnil5 hat5)
                    | (at_builtin; refine wpList_append_own_at _ rfl _ _ 25 rfl w5.heap.size 3 ini (ii 0) 1 8 Tryz.underlying25 hj0 hy0 hy1 hy2 rfl (by decide) (.slice none 0 0) 0 [] rfl (HOI.out w5) ⟨w5.heap.size, 0, none⟩ 1 1 [ii (f.safe : Int)] rfl rfl (HNI.out w5) (by simp [Value.oneCell']) (by unfold maxLen; omega) (by omega) (by simp) ?_; intro v6 w6 hown6 hgrow6 hnil6 hat6))
                  go_roundw
                  case rel =>
                    refine ⟨k + 1, hlt, by go_num, ?_⟩
                    rw [HNX.out, HDN.out]
                    rw [← HW5.out] at hgrow5
                    have hf5 : Fr [] W5 w5 := fr_grown ((Fr.refl [] W5).alloc _) hgrow5 (fun g hg => by simp [Value.ownBlock] at hg)
                    have hf6 : Fr [] w5 w6 := fr_grown ((Fr.refl [] w5).alloc _) hgrow6 (fun g hg => by simp [Value.ownBlock] at hg)
                    refine DK.one hw5 tt f.data f.safe ?_ hf5 (Fr.refl _ _) hown6 hf6
                    rw [hsz5, sv, ← HTT.out, sv, ← HFX.out]
                    exact hown5
                  case measure => simp [intOf]; omega
    · have hlti : ¬ (k : Int) < (cut : Int) := by omega
      obtain rfl : k = cut := by omega
      have hsf := HSF.out
      have hbf := HBD.out k (Nat.le_refl _)
      obtain ⟨fl, hfl⟩ : ∃ fl, fl = disk (steps.take k) := ⟨_, rfl⟩
      rw [← hfl] at hD hsf hbf
      have HFLE := (show Hid _ from hfl)
      clear hfl HSF HBD HOK HOWN
      obtain ⟨lo, lcap, rfl⟩ := rows_slice hD.l
      obtain ⟨zo, zcap, rfl⟩ := rows_slice hD.s
      have hsh := hbf.len
      have HD0 : Hid (∃ fl', DK w (.slice lo fl.length lcap) (.slice zo fl.length zcap) fl' wr ∧ TR fl fl' 0) := ⟨fl, hD, TR.start fl hsf⟩
      have hgl := HGV.out
      clear hD
      go_wp2_with fail
      go_loopw [18] (fun i wr => ∃ q : Nat, q ≤ fl.length ∧ i = .int .i64 q ∧ ∃ fl', DK w (.slice lo fl.length lcap) (.slice zo fl.length zcap) fl' wr ∧ TR fl fl' q) (fun i _ => fl.length - (intOf i).toNat)
      case atStart =>
        obtain ⟨fl', h1, h2⟩ := HD0.out
        exact ⟨0, Nat.zero_le _, rfl, fl', h1, h2⟩
      case round =>
        obtain ⟨q, hq, rfl, fl', hD, hT⟩ := hrel
        clear HD0
        have HFIN : Hid (∃ fs : List Pf, wr.ownsRow w.heap.size 115 2 (.slice lo fl.length lcap) fs.length (fs.flatMap fun p : Pf => [sv p.1, sv p.2]) ∧ fs.length = fl.length ∧ (∀ (i : Nat) (f : Fl) (p : Pf), fl[i]? = some f → fs[i]? = some p → p.1 = f.name ∧ ∃ n, f.safe ≤ n ∧ p.2 = f.data.take n) ∧ Fr [] w wr) := by
          refine ⟨fl'.map fun f => (f.name, f.data), ?_, by rw [List.length_map]; exact hT.len, fun i f p h1 h2 => ?_, hD.fr⟩
          · rw [List.length_map, List.flatMap_map]
            exact hD.l
          · rw [List.getElem?_map] at h2
            cases hx : fl'[i]? with
            | none => rw [hx] at h2; simp at h2
            | some x =>
              rw [hx] at h2
              have h3 : (x.name, x.data) = p := by simpa using h2
              subst h3
              obtain ⟨a1, _, a3, _⟩ := hT.each i f x h1 hx
              exact ⟨a1, a3⟩
        by_cases hql : q < fl.length
        · have hqli : (q : Int) < (fl.length : Int) := by omega
          by_cases hg0 : gone.length = 0
          · have hg0i : ¬ (0 : Int) < (gone.length : Int) := by omega
            clear hD hT
            go_wp2_with fail
            go_ret
            obtain ⟨fs, h1, h2, h3, h4⟩ := HFIN.out
            exact ⟨_, rfl, fs, h1, by rw [← HFLE.out]; exact h2, fun i f a b ha hb => h3 i f (a, b) (by rw [HFLE.out]; exact ha) hb, h4⟩
          · have hg0i : (0 : Int) < (gone.length : Int) := by omega
            obtain ⟨f, hf⟩ : ∃ f, fl[q]? = some f := ⟨fl[q], List.getElem?_eq_getElem hql⟩
            obtain ⟨f', hf'⟩ : ∃ f', fl'[q]? = some f' := ⟨fl'[q]'(by rw [hT.len]; exact hql), List.getElem?_eq_getElem (by rw [hT.len]; exact hql)⟩
            obtain ⟨_, hsafe, _, hdat⟩ := hT.each q f f' hf hf'
            have hdat' := hdat (Nat.le_refl _)
            have hfs := hsf f (List.mem_of_getElem? hf)
            have hfb := hbf.data f (List.mem_of_getElem? hf)
            obtain ⟨gl', gc', hlv, hglw, hgl2, _, b1, z1⟩ := hD.file hf'
            obtain ⟨rfl, hcp⟩ : lo = some ⟨gl', 0, none⟩ ∧ lcap = gc' := by
              have hlv' := hlv
              rw [hT.len] at hlv'
              simpa using hlv'
            obtain ⟨gz', zc', hzv, _, hgz2, b2, z2⟩ := hD.safe hf'
            obtain ⟨rfl, hcz⟩ : zo = some ⟨gz', 0, none⟩ ∧ zcap = zc' := by
              have hzv' := hzv
              rw [hT.len] at hzv'
              simpa using hzv'
            rw [hdat'] at b1
            rw [hsafe] at b2
            have hrm : q % gone.length < gone.length := Nat.mod_lt _ (by omega)
            obtain ⟨gb, go_, rfl, hgbw, hgc, hgi⟩ : ∃ gb go_, ga = some ⟨gb, go_, none⟩ ∧ gb < w.heap.size ∧ wr.cell? ⟨gb, go_ + q % gone.length, none⟩ = some (ii gone[q % gone.length]) ∧ I64 gone[q % gone.length] := by
              rcases hgv with ⟨a, c, e1, e2⟩ | ⟨lb, lo', c, e1, h1, h2⟩
              · rw [e2] at hg0; simp at hg0
              · have hc1 := h1 _ hrm
                exact ⟨lb, lo', by simpa using congrArg (fun v : Value => match v with | .slice a _ _ => a | _ => none) e1, lt_of_cell hc1, (hD.fr.cell _ _ (lt_of_cell hc1) (by simp)).trans hc1, h2 _ (List.getElem_mem _)⟩
            obtain ⟨G, hG⟩ : ∃ G, G = gone[q % gone.length] := ⟨_, rfl⟩
            rw [← hG] at hgc hgi
            have hpb := pk_bd G ((f.data.length - f.safe : Nat) + 1 : Int) (by omega)
            have HP : Hid (∀ W : World, Calls Tryz.prog 18 #[.int .i64 G, .int .i64 ((f.data.length : Int) - f.safe + 1)] W fun e w' => e = .returned (.int .i64 (pk G ((f.data.length - f.safe : Nat) + 1 : Int))) ∧ W = w') := fun W => by
              have := pick_any G ((f.data.length - f.safe : Nat) + 1 : Int) W (by omega) hgi.1 hgi.2
              rw [show ((f.data.length - f.safe : Nat) + 1 : Int) = (f.data.length : Int) - f.safe + 1 by omega] at this ⊢
              exact this
            obtain ⟨p, hp⟩ : ∃ p, p = pk G ((f.data.length - f.safe : Nat) + 1 : Int) := ⟨_, rfl⟩
            rw [← hp] at hpb HP
            obtain ⟨N, hNp, hNl, hNs⟩ : ∃ N : Nat, p = (f.data.length : Int) - (N : Int) ∧ N ≤ f.data.length ∧ f.safe ≤ N := ⟨f.data.length - p.toNat, by omega, by omega, by omega⟩
            subst hNp
            obtain ⟨fx, hfx⟩ : ∃ x : ByteArray, x = ⟨f.data.toArray⟩ := ⟨_, rfl⟩
            rw [sv, ← hfx] at b1
            have hfxs : fx.size = f.data.length := by rw [hfx]; rfl
            have hmod : ((q : Int).tmod (gone.length : Int)) = ((q % gone.length : Nat) : Int) := by
              rw [Int.tmod_eq_emod_of_nonneg (by omega)]
              omega
            have HFX := (show Hid _ from hfx)
            have HD := (show Hid _ from hD)
            have HT := (show Hid _ from hT)
            have hqs : q ≤ 2 := by omega
            clear hlv hzv hdat hdat' hsafe hG hp hfx hf' hD hT HFIN hgl
            go_wp2_with fail
            go_cut [19] (fun s19 wx => s19 = .int .i64 ((f.data.length : Int) - f.safe) ∧ Fr [] wr wx)
            case first =>
              go_region
              all_goals
                go_wp2_with fail
                go_meet
                exact ⟨by go_num, (Fr.refl _ _).drewN _⟩
            case rest =>
              obtain ⟨rfl, hf19⟩ := hcut
              have hD2 := HD.out.fr0 hf19
              have b1' := (hf19.cell _ _ (lt_of_cell b1) (by simp)).trans b1
              have z1' := (hf19.frozen _ (q * 2 + 1) (lt_of_cell b1) (by simp)).trans z1
              have hgc' := (hf19.cell _ _ (lt_of_cell hgc) (by simp)).trans hgc
              have HD2 := (show Hid _ from hD2)
              clear b1 z1 b2 z2 hgc HD hD2
              have hNl3 : (N : Int) ≤ (f.data.length : Int) := by omega
              have hNi : (f.data.length : Int) - ((f.data.length : Int) - (N : Int)) = (N : Int) := by omega
              have hNb : (N : Int) ≤ 1000000 := by omega
              have hwn : IntKind.i64.wrap (N : Int) = (N : Int) := by rw [IntKind.wrap_i64]; omega
              have HSTR : Hid (Value.string (fx.extract 0 N) = sv (f.data.take N)) := by show _ = _; rw [HFX.out, str_take]
              have hlq : (f.data.length : Int) - (f.safe : Int) + 1 ≤ 2000000 := by omega
              clear hpb
              go_wp2_with fail
              have hix : 0 ≤ (q : Int) % (gone.length : Int) ∧ (q : Int) % (gone.length : Int) < (gone.length : Int) := ⟨Int.emod_nonneg _ (by omega), Int.emod_lt_of_pos _ hg0i⟩
              have htn : ((q : Int) % (gone.length : Int)).toNat = q % gone.length := by omega
              have hHeld : (fun w' : World => w'.cell? ⟨gb, go_ + q % gone.length, none⟩ = some (ii G) ∧ w'.cell? ⟨gl', q * 2 + 1, none⟩ = some (.string fx)) wc.drew := ⟨by simpa using hgc', by simpa using b1'⟩
              refine OneFree.region (fun w' : World => w'.cell? ⟨gb, go_ + q % gone.length, none⟩ = some (ii G) ∧ w'.cell? ⟨gl', q * 2 + 1, none⟩ = some (.string fx)) 27 (by kernel_rfl) ?_
              refine (show OneFree Tryz.prog Region.Mode.any _ _ _ 27 28 (Array.replicate 28 false) _ _ from ?_)
              refine OneFree.take (i := 0) (v := ?_) (by simp only [List.getElem?_toArray, List.getElem?_cons_zero]; rfl) (by kernel_rfl) (by kernel_rfl) (by kernel_rfl) (by kernel_rfl) (by decide) (by exact fun _ _ _ h => h) (Or.inl ⟨by rfl, ?_⟩) hHeld ?_
              rotate_left
              focus (first | (intro w hSw; go_simp; with_reducible rfl) | (intro w hSw; go_simp; done))
              try simp only [Act.put, List.setIfInBounds_toArray, List.set_cons_zero, List.set_cons_succ]
              refine OneFree.take (i := 1) (v := ?_) (by simp only [List.getElem?_toArray, List.getElem?_cons_zero, List.getElem?_cons_succ]; rfl) (by kernel_rfl) (by kernel_rfl) (by kernel_rfl) (by kernel_rfl) (by decide) (by exact fun _ _ _ h => h) (Or.inl ⟨by rfl, ?_⟩) hHeld ?_
              rotate_left
              focus (first | (intro w hSw; go_simp; with_reducible rfl) | (intro w hSw; go_simp; done))
              try simp only [Act.put, List.setIfInBounds_toArray, List.set_cons_zero, List.set_cons_succ]
              refine OneFree.take (i := 2) (v := ?_) (by simp only [List.getElem?_toArray, List.getElem?_cons_zero, List.getElem?_cons_succ]; rfl) (by kernel_rfl) (by kernel_rfl) (by kernel_rfl) (by kernel_rfl) (by decide) (by exact fun _ _ _ h => h) (Or.inl ⟨by rfl, ?_⟩) hHeld ?_
              rotate_left
              focus (first | (intro w hSw; go_simp; with_reducible rfl) | (intro w hSw; go_simp; done))
              try simp only [Act.put, List.setIfInBounds_toArray, List.set_cons_zero, List.set_cons_succ]
              refine OneFree.take (i := 3) (v := ?_) (by simp only [List.getElem?_toArray, List.getElem?_cons_zero, List.getElem?_cons_succ]; rfl) (by kernel_rfl) (by kernel_rfl) (by kernel_rfl) (by kernel_rfl) (by decide) (by exact fun _ _ _ h => h) (Or.inl ⟨by rfl, ?_⟩) hHeld ?_
              rotate_left
              focus (first | (intro w hSw; go_simp; with_reducible rfl) | (intro w hSw; go_simp; done))
              try simp only [Act.put, List.setIfInBounds_toArray, List.set_cons_zero, List.set_cons_succ]
              refine OneFree.take (i := 4) (v := ?_) (by simp only [List.getElem?_toArray, List.getElem?_cons_zero, List.getElem?_cons_succ]; rfl) (by kernel_rfl) (by kernel_rfl) (by kernel_rfl) (by kernel_rfl) (by decide) (by exact fun _ _ _ h => h) (Or.inl ⟨by rfl, ?_⟩) hHeld ?_
              rotate_left
              focus (first | (intro w hSw; go_simp; with_reducible rfl) | (intro w hSw; go_simp; done))
              try simp only [Act.put, List.setIfInBounds_toArray, List.set_cons_zero, List.set_cons_succ]
              refine OneFree.take (i := 5) (v := ?_) (by simp only [List.getElem?_toArray, List.getElem?_cons_zero, List.getElem?_cons_succ]; rfl) (by kernel_rfl) (by kernel_rfl) (by kernel_rfl) (by kernel_rfl) (by decide) (by exact fun _ _ _ h => h) (Or.inl ⟨by rfl, ?_⟩) hHeld ?_
              rotate_left
              focus (first | (intro w hSw; go_simp; with_reducible rfl) | (intro w hSw; go_simp; done))
              try simp only [Act.put, List.setIfInBounds_toArray, List.set_cons_zero, List.set_cons_succ]
              refine OneFree.take (i := 6) (v := ?_) (by simp only [List.getElem?_toArray, List.getElem?_cons_zero, List.getElem?_cons_succ]; rfl) (by kernel_rfl) (by kernel_rfl) (by kernel_rfl) (by kernel_rfl) (by decide) (by exact fun _ _ _ h => h) (Or.inl ⟨by rfl, ?_⟩) hHeld ?_
              rotate_left
              focus (first | (intro w hSw; go_simp; with_reducible rfl) | (intro w hSw; go_simp; done))
              try simp only [Act.put, List.setIfInBounds_toArray, List.set_cons_zero, List.set_cons_succ]
              refine OneFree.take (i := 7) (v := ?_) (by simp only [List.getElem?_toArray, List.getElem?_cons_zero, List.getElem?_cons_succ]; rfl) (by kernel_rfl) (by kernel_rfl) (by kernel_rfl) (by kernel_rfl) (by decide) (by exact fun _ _ _ h => h) (Or.inl ⟨by rfl, ?_⟩) hHeld ?_
              rotate_left
              focus (first | (intro w hSw; go_simp; with_reducible rfl) | (intro w hSw; go_simp; done))
              try simp only [Act.put, List.setIfInBounds_toArray, List.set_cons_zero, List.set_cons_succ]
              refine OneFree.take (i := 8) (v := ?_) (by simp only [List.getElem?_toArray, List.getElem?_cons_zero, List.getElem?_cons_succ]; rfl) (by kernel_rfl) (by kernel_rfl) (by kernel_rfl) (by kernel_rfl) (by decide) (by exact fun _ _ _ h => h) (Or.inl ⟨by rfl, ?_⟩) hHeld ?_
              rotate_left
              focus (first | (intro w hSw; go_simp; with_reducible rfl) | (intro w hSw; go_simp; done))
              try simp only [Act.put, List.setIfInBounds_toArray, List.set_cons_zero, List.set_cons_succ]
              refine OneFree.take (i := 9) (v := ?_) (by simp only [List.getElem?_toArray, List.getElem?_cons_zero, List.getElem?_cons_succ]; rfl) (by kernel_rfl) (by kernel_rfl) (by kernel_rfl) (by kernel_rfl) (by decide) (by exact fun _ _ _ h => h) (Or.inl ⟨by rfl, ?_⟩) hHeld ?_
              rotate_left
              focus (first | (intro w hSw; go_simp; with_reducible rfl) | (intro w hSw; go_simp; done))
              try simp only [Act.put, List.setIfInBounds_toArray, List.set_cons_zero, List.set_cons_succ]
              refine OneFree.take (i := 10) (v := ?_) (by simp only [List.getElem?_toArray, List.getElem?_cons_zero, List.getElem?_cons_succ]; rfl) (by kernel_rfl) (by kernel_rfl) (by kernel_rfl) (by kernel_rfl) (by decide) (by exact fun _ _ _ h => h) (Or.inl ⟨by rfl, ?_⟩) hHeld ?_
              rotate_left
              focus (first | (intro w hSw; go_simp; with_reducible rfl) | (intro w hSw; go_simp; done))
              try simp only [Act.put, List.setIfInBounds_toArray, List.set_cons_zero, List.set_cons_succ]
              refine OneFree.take (i := 11) (v := ?_) (by simp only [List.getElem?_toArray, List.getElem?_cons_zero, List.getElem?_cons_succ]; rfl) (by kernel_rfl) (by kernel_rfl) (by kernel_rfl) (by kernel_rfl) (by decide) (by exact fun _ _ _ h => h) (Or.inl ⟨by rfl, ?_⟩) hHeld ?_
              rotate_left
              focus (first | (intro w hSw; go_simp; with_reducible rfl) | (intro w hSw; go_simp; done))
              try simp only [Act.put, List.setIfInBounds_toArray, List.set_cons_zero, List.set_cons_succ]
              refine OneFree.take (i := 12) (v := ?_) (by simp only [List.getElem?_toArray, List.getElem?_cons_zero, List.getElem?_cons_succ]; rfl) (by kernel_rfl) (by kernel_rfl) (by kernel_rfl) (by kernel_rfl) (by decide) (by exact fun _ _ _ h => h) (Or.inl ⟨by rfl, ?_⟩) hHeld ?_
              rotate_left
              focus (first | (intro w hSw; go_simp; with_reducible rfl) | (intro w hSw; go_simp; done))
              try simp only [Act.put, List.setIfInBounds_toArray, List.set_cons_zero, List.set_cons_succ]
              refine OneFree.take (i := 13) (v := ?_) (by simp only [List.getElem?_toArray, List.getElem?_cons_zero, List.getElem?_cons_succ]; rfl) (by kernel_rfl) (by kernel_rfl) (by kernel_rfl) (by kernel_rfl) (by decide) (by exact fun _ _ _ h => h) (Or.inl ⟨by rfl, ?_⟩) hHeld ?_
              rotate_left
              focus (first | (intro w hSw; go_simp; with_reducible rfl) | (intro w hSw; go_simp; done))
              try simp only [Act.put, List.setIfInBounds_toArray, List.set_cons_zero, List.set_cons_succ]
              refine OneFree.take (i := 14) (v := ?_) (by simp only [List.getElem?_toArray, List.getElem?_cons_zero, List.getElem?_cons_succ]; rfl) (by kernel_rfl) (by kernel_rfl) (by kernel_rfl) (by kernel_rfl) (by decide) (by exact fun _ _ _ h => h) (Or.inl ⟨by rfl, ?_⟩) hHeld ?_
              rotate_left
              focus (first | (intro w hSw; go_simp; with_reducible rfl) | (intro w hSw; go_simp; done))
              try simp only [Act.put, List.setIfInBounds_toArray, List.set_cons_zero, List.set_cons_succ]
              refine OneFree.take (i := 15) (v := ?_) (by simp only [List.getElem?_toArray, List.getElem?_cons_zero, List.getElem?_cons_succ]; rfl) (by kernel_rfl) (by kernel_rfl) (by kernel_rfl) (by kernel_rfl) (by decide) (by exact fun _ _ _ h => h) (Or.inl ⟨by rfl, ?_⟩) hHeld ?_
              rotate_left
              focus (first | (intro w hSw; go_simp; with_reducible rfl) | (intro w hSw; go_simp; done))
              try simp only [Act.put, List.setIfInBounds_toArray, List.set_cons_zero, List.set_cons_succ]
              refine OneFree.take (i := 16) (v := ?_) (by simp only [List.getElem?_toArray, List.getElem?_cons_zero, List.getElem?_cons_succ]; rfl) (by kernel_rfl) (by kernel_rfl) (by kernel_rfl) (by kernel_rfl) (by decide) (by exact fun _ _ _ h => h) (Or.inl ⟨by rfl, ?_⟩) hHeld ?_
              rotate_left
              focus (first | (intro w hSw; go_simp; with_reducible rfl) | (intro w hSw; go_simp; done))
              try simp only [Act.put, List.setIfInBounds_toArray, List.set_cons_zero, List.set_cons_succ]
              refine OneFree.take (i := 17) (v := ?_) (by simp only [List.getElem?_toArray, List.getElem?_cons_zero, List.getElem?_cons_succ]; rfl) (by kernel_rfl) (by kernel_rfl) (by kernel_rfl) (by kernel_rfl) (by decide) (by exact fun _ _ _ h => h) (Or.inl ⟨by rfl, ?_⟩) hHeld ?_
              rotate_left
              focus (first | (intro w hSw; go_simp; with_reducible rfl) | (intro w hSw; go_simp; done))
              try simp only [Act.put, List.setIfInBounds_toArray, List.set_cons_zero, List.set_cons_succ]
              refine OneFree.take (i := 18) (v := ?_) (by simp only [List.getElem?_toArray, List.getElem?_cons_zero, List.getElem?_cons_succ]; rfl) (by kernel_rfl) (by kernel_rfl) (by kernel_rfl) (by kernel_rfl) (by decide) (by exact fun _ _ _ h => h) (Or.inl ⟨by rfl, ?_⟩) hHeld ?_
              rotate_left
              focus (first | (intro w hSw; go_simp; with_reducible rfl) | (intro w hSw; go_simp; done))
              try simp only [Act.put, List.setIfInBounds_toArray, List.set_cons_zero, List.set_cons_succ]
              refine OneFree.take (i := 19) (v := ?_) (by simp only [List.getElem?_toArray, List.getElem?_cons_zero, List.getElem?_cons_succ]; rfl) (by kernel_rfl) (by kernel_rfl) (by kernel_rfl) (by kernel_rfl) (by decide) (by exact fun _ _ _ h => h) (Or.inl ⟨by rfl, ?_⟩) hHeld ?_
              rotate_left
              focus (first | (intro w hSw; go_simp; with_reducible rfl) | (intro w hSw; go_simp; done))
              try simp only [Act.put, List.setIfInBounds_toArray, List.set_cons_zero, List.set_cons_succ]
              refine OneFree.take (i := 20) (v := ?_) (by simp only [List.getElem?_toArray, List.getElem?_cons_zero, List.getElem?_cons_succ]; rfl) (by kernel_rfl) (by kernel_rfl) (by kernel_rfl) (by kernel_rfl) (by decide) (by exact fun _ _ _ h => h) (Or.inl ⟨by rfl, ?_⟩) hHeld ?_
              rotate_left
              focus (first | (intro w hSw; go_simp; with_reducible rfl) | (intro w hSw; go_simp; done))
              try simp only [Act.put, List.setIfInBounds_toArray, List.set_cons_zero, List.set_cons_succ]
              refine OneFree.take (i := 21) (v := ?_) (by simp only [List.getElem?_toArray, List.getElem?_cons_zero, List.getElem?_cons_succ]; rfl) (by kernel_rfl) (by kernel_rfl) (by kernel_rfl) (by kernel_rfl) (by decide) (by exact fun _ _ _ h => h) (Or.inl ⟨by rfl, ?_⟩) hHeld ?_
              rotate_left
              focus (first | (intro w hSw; go_simp; with_reducible rfl) | (intro w hSw; go_simp; done))
              try simp only [Act.put, List.setIfInBounds_toArray, List.set_cons_zero, List.set_cons_succ]
              refine OneFree.one (i := 22) (by kernel_rfl) ?_
              refine wpOp_step (by simp only [List.getElem?_toArray, List.getElem?_cons_zero, List.getElem?_cons_succ]; rfl) (fun K' hK0 => ?_)
              have HK := (show Hid _ from hK0)
              clear hK0
              go_simp
              rw [show IntKind.i64.wrap ((f.data.length : Int) - (f.safe : Int) + 1) = (f.data.length : Int) - (f.safe : Int) + 1 by rw [IntKind.wrap_i64]; omega]
              refine Calls.mono (HP.out _) ?_
              rintro e wz ⟨rfl, rfl⟩
              dsimp only
              refine HK.out _ _ ⟨fun _ => hHeld, ?_⟩
              clear HK K'
              try simp only [Act.put, List.setIfInBounds_toArray, List.set_cons_zero, List.set_cons_succ]
              refine OneFree.take (i := 23) (v := ?_) (by simp only [List.getElem?_toArray, List.getElem?_cons_zero, List.getElem?_cons_succ]; rfl) (by kernel_rfl) (by kernel_rfl) (by kernel_rfl) (by kernel_rfl) (by decide) (by exact fun _ _ _ h => h) (Or.inl ⟨by rfl, ?_⟩) hHeld ?_
              rotate_left
              focus (first | (intro w hSw; go_simp; with_reducible rfl) | (intro w hSw; go_simp; done))
              try simp only [Act.put, List.setIfInBounds_toArray, List.set_cons_zero, List.set_cons_succ]
              refine OneFree.take (i := 24) (v := ?_) (by simp only [List.getElem?_toArray, List.getElem?_cons_zero, List.getElem?_cons_succ]; rfl) (by kernel_rfl) (by kernel_rfl) (by kernel_rfl) (by kernel_rfl) (by decide) (by exact fun _ _ _ h => h) (Or.inl ⟨by rfl, ?_⟩) hHeld ?_
              rotate_left
              focus (first | (intro w hSw; go_simp; with_reducible rfl) | (intro w hSw; go_simp; done))
              try simp only [Act.put, List.setIfInBounds_toArray, List.set_cons_zero, List.set_cons_succ]
              refine OneFree.one (i := 25) (by kernel_rfl) ?_
              refine wpOp_step (by simp only [List.getElem?_toArray, List.getElem?_cons_zero, List.getElem?_cons_succ]; rfl) (fun K' hK0 => ?_)
              have HK := (show Hid _ from hK0)
              clear hK0
              go_simp
              refine HK.out _ _ ⟨fun _ => hHeld, ?_⟩
              clear HK K'
              try simp only [Act.put, List.setIfInBounds_toArray, List.set_cons_zero, List.set_cons_succ]
              refine OneFree.take (i := 26) (v := ?_) (by simp only [List.getElem?_toArray, List.getElem?_cons_zero, List.getElem?_cons_succ]; rfl) (by kernel_rfl) (by kernel_rfl) (by kernel_rfl) (by kernel_rfl) (by decide) (by exact fun _ _ _ h => h) (Or.inl ⟨by rfl, ?_⟩) hHeld ?_
              rotate_left
              focus (first | (intro w hSw; go_simp; with_reducible rfl) | (intro w hSw; go_simp; done))
              try simp only [Act.put, List.setIfInBounds_toArray, List.set_cons_zero, List.set_cons_succ]
              refine OneFree.one (i := 27) (by kernel_rfl) ?_
              refine wpOp_step (by simp only [List.getElem?_toArray, List.getElem?_cons_zero, List.getElem?_cons_succ]; rfl) (fun K' hK0 => ?_)
              have HK := (show Hid _ from hK0)
              clear hK0
              go_simp
              refine HK.out _ _ ⟨fun h6 => absurd rfl h6, OneFree.done (by kernel_rfl) ?_ _⟩
              clear HK K'
              all_goals
                go_wp2_with fail
                go_roundw
                case rel =>
                  refine ⟨q + 1, hql, by go_num, _, ?_, HT.out.next hf N hNs⟩
                  have hd := (HD2.out.setData HT.out.len.symm q (by rw [HT.out.len]; exact hql) (f.data.take N)).fr0 ((Fr.refl [] _).drew)
                  rw [← HSTR.out, hcp, hcz] at hd
                  exact hd
                case measure => simp [intOf]; omega
        · have hqli : ¬ (q : Int) < (fl.length : Int) := by omega
          clear hD hT
          go_wp2_with fail
          go_ret
          obtain ⟨fs, h1, h2, h3, h4⟩ := HFIN.out
          exact ⟨_, rfl, fs, h1, by rw [← HFLE.out]; exact h2, fun i f a b ha hb => h3 i f (a, b) (by rw [HFLE.out]; exact ha) hb, h4⟩
end Go.Proofs.YtapabahhfanmmaaGreatDoor
