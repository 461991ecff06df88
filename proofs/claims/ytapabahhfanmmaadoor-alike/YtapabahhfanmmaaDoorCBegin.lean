import Derived.Test.YtapabahhfanmmaaDoorCCellsOf
import Derived.Test.YtapabahhfanmmaaDoorCGame2
import Derived.Test.YtapabahhfanmmaaDoorCSign
/- A turn begins. -/
namespace Go.Proofs.YtapabahhfanmmaaDoor
open Go.RowKit

/-- A game as a value. -/
def gameL (t : T) (pv : Value) : List Value := (List.range 149).map (tcell t pv 0 0)
theorem gameL_len (t : T) (pv : Value) : (gameL t pv).length = 149 := by simp [gameL]
theorem fold_set (off : Nat) : ∀ (vs : List Value) (k : Nat) (cs : Array Value), off + k + vs.length ≤ cs.size → ((vs.zipIdx k).foldl (fun (cs : Array Value) p => cs.setIfInBounds (off + p.2) p.1) cs).toList = cs.toList.take (off + k) ++ vs ++ cs.toList.drop (off + k + vs.length)
  | [], k, cs, _ => by simp
  | v :: vs, k, cs, h => by
    rw [List.zipIdx_cons, List.foldl_cons, fold_set off vs (k + 1) _ (by simp at h ⊢; omega)]
    have hl : off + k < cs.toList.length := by simp at h ⊢; omega
    simp only [Array.toList_setIfInBounds, List.length_cons]
    rw [show off + (k + 1) = off + k + 1 by omega, take_set_succ _ _ _ hl, drop_set_gt _ _ _ _ (by omega), show off + k + 1 + vs.length = off + k + (vs.length + 1) by omega]
    simp
theorem fill_one (off : Nat) (v : Array Value) (cs : Array Value) (h : off + v.size ≤ cs.size) : v.zipIdx.foldl (fun (cs : Array Value) (c, j) => cs.setIfInBounds (off + j) c) cs = (cs.toList.take off ++ v.toList ++ cs.toList.drop (off + v.size)).toArray := by
  have := fold_set off v.toList 0 cs (by simpa using h)
  rw [← Array.foldl_toList, Array.toList_zipIdx]
  apply Array.toList_inj.1
  simpa using this
theorem fill_cons (place : Nat → Option (Nat × Nat)) (cs : Array Value) (i : Nat) (v : Value) (rest : List (Nat × Value)) (off size : Nat) (hp : place i = some (off, size)) (hv : v.cells.size = size) (hs : off + size ≤ cs.size) :
    Instr.fill place cs ((i, v) :: rest) = Instr.fill place (cs.toList.take off ++ v.cells.toList ++ cs.toList.drop (off + size)).toArray rest := by
  rw [Instr.fill, hp]
  dsimp only
  rw [if_neg (by simp [hv]; omega), fill_one off v.cells cs (by omega), hv]
def fieldsOf (P : Program) (t : TypeId) : Option (List (Nat × Nat)) := match P.underlying t with | some (.struct fs) => fs.toList.mapM (fun f => (P.info? f.type).map fun i => (f.offset, i.size)) | _ => none
def zerosOf (P : Program) (t : TypeId) : Option (Option Nat) := (P.info? t).map (fun i => i.zero.map (·.cells.size))
theorem built_is (t : TypeId) (places : List (Nat × Nat)) (n : Nat) (hf : fieldsOf Tryd.prog t = some places) (hz : zerosOf Tryd.prog t = some (some n)) (parts : List (Nat × Value)) (cells : Array Value) (h : ∀ z : Array Value, z.size = n → Instr.fill (places.toArray[·]?) z parts = some cells) : Tryd.prog.built t parts = some cells := by
  unfold Program.built
  unfold fieldsOf at hf
  unfold zerosOf at hz
  cases hi : Tryd.prog.info? t with
  | none => rw [hi] at hz; simp at hz
  | some it =>
    rw [hi] at hz
    cases hzz : it.zero with
    | none => simp [hzz] at hz
    | some z =>
      simp [hzz] at hz
      cases hu : Tryd.prog.underlying t with
      | none => rw [hu] at hf; simp at hf
      | some d =>
        rw [hu] at hf
        cases d <;> try (simp at hf; done)
        dsimp only at hf ⊢
        rw [hzz, hf]
        exact h z.cells hz
theorem turnF : fieldsOf Tryd.prog 89 = some [(0, 149), (149, 1), (150, 1)] := by kernel_rfl
theorem turnZ : zerosOf Tryd.prog 89 = some (some 151) := by kernel_rfl
theorem two_of {l : List Value} (h : l.length = 2) : ∃ x y, l = [x, y] := by
  match l, h with
  | [x, y], _ => exact ⟨x, y, rfl⟩
theorem built_turn (gs : Array Value) (hg : gs.size = 149) (a b : Option Nat) : Tryd.prog.built 89 [(0, .agg gs), (1, .map a), (2, .agg #[.map b])] = some (gs.toList ++ [Value.map a, Value.map b]).toArray := by
  refine built_is _ _ _ turnF turnZ _ _ (fun z hz => ?_)
  have hzl : z.toList.length = 151 := by simpa using hz
  obtain ⟨x, y, hxy⟩ := two_of (l := z.toList.drop 149) (by rw [List.length_drop]; omega)
  have hgl : gs.toList.length = 149 := by simpa using hg
  have e3 : (Value.agg gs).cells = gs := rfl
  have e4 : (Value.map a).cells.toList = [Value.map a] := rfl
  have e5 : (Value.agg #[.map b]).cells.toList = [Value.map b] := rfl
  have e1 : (gs.toList ++ [x, y]).take 149 = gs.toList := by rw [List.take_append_of_le_length (by omega), List.take_of_length_le (by omega)]
  have e2 : (gs.toList ++ [x, y]).drop 150 = [y] := by rw [List.drop_append, List.drop_of_length_le (by omega), hgl]; rfl
  have e6 : (gs.toList ++ [Value.map a, y]).take 150 = gs.toList ++ [Value.map a] := by rw [List.take_append, List.take_of_length_le (by omega), hgl]; rfl
  have e7 : (gs.toList ++ [Value.map a, y]).drop 151 = [] := List.drop_of_length_le (by simp; omega)
  rw [fill_cons _ _ _ _ _ 0 149 rfl (by exact hg) (by omega), e3]
  simp only [List.take_zero, List.nil_append, Nat.zero_add, hxy]
  rw [fill_cons _ _ _ _ _ 149 1 rfl rfl (by simp; omega), e4]
  simp only [Nat.reduceAdd]
  rw [e1, e2]
  simp only [List.append_assoc, List.cons_append, List.nil_append]
  rw [fill_cons _ _ _ _ _ 150 1 rfl rfl (by simp; omega), e5]
  simp only [Nat.reduceAdd]
  rw [e6, e7]
  simp [Instr.fill]

theorem yields_build {ops : Array Oper} {S : World → Prop} {op : Oper} {a : Act} (hw : Region.wanted op (yielded ops a.tmps) = true) (t : TypeId) (parts : Array (Nat × Operand)) (ho : op.op = .build t parts) (cells : Array Value)
    (hc : Tryd.prog.built t (parts.map fun (i, x) => (i, a.eval x)).toList = some cells) : YieldsIf Tryd.prog ops S op (.agg cells) a :=
  .inl ⟨hw, fun w _ => by
    unfold execOp
    simp only [ho, Sem.run_bind, run_build w t _ cells hc, Result.andThen_ok]
    rfl⟩
theorem hp_at (W : World) (o : Obj) (k : Nat) (h : W.heap.size = k) : (W.alloc o).heap[k]? = some o := by subst h; exact hp_new _ _
theorem infoGame : (Tryd.prog.info? 64).map (·.size) = some 149 := by kernel_rfl

set_option maxRecDepth 100000 in
set_option maxHeartbeats 1000000 in
theorem begin_any (pb cap : Nat) (t : T) (w : World) (hrow : PRow w pb cap t.us) (hne : 0 < t.us.length) (hlen : t.us.length ≤ 1000) :
    Calls Tryd.prog 32 #[.agg (gameL t (.slice (some ⟨pb, 0, none⟩) t.us.length cap)).toArray] w fun e w' =>
      ∃ tb pb' cap' hb bb, e = .returned (.pointer (some ⟨tb, 0, none⟩)) ∧ Fr [] w w' ∧ TS w' tb pb' cap' hb bb (beginT t) ∧ w.heap.size ≤ tb ∧ w.heap.size ≤ pb' ∧ w.heap.size ≤ hb ∧ w.heap.size ≤ bb := by
  obtain ⟨gs, hgs⟩ : ∃ gs, gs = (gameL t (.slice (some ⟨pb, 0, none⟩) t.us.length cap)).toArray := ⟨_, rfl⟩
  have hg : gs.size = 149 := by rw [hgs]; simp [gameL]
  have HGS := (show Hid _ from hgs)
  rw [← hgs]
  clear hgs
  obtain ⟨W1, hW1⟩ : ∃ W, W = w.alloc (.cells gs 64) := ⟨_, rfl⟩
  have h01 : Fr [] w W1 := by rw [hW1]; exact (Fr.refl _ _).alloc _
  have hG : W1.heap[w.heap.size]? = some (.cells gs 64) := by rw [hW1]; exact hp_new _ _
  have HR : ∀ w', Fr [] W1 w' → w'.rangeAt w.heap.size 0 gs.toList := fun w' hf j v hv => by
    rw [Nat.zero_add, cell_of_heap (hf.heap0 hG)]
    simpa using hv
  have hi149 : (Tryd.prog.info? 64).map (·.size) = some gs.toList.length := by rw [infoGame]; simp [hg]
  have hbuild : ∀ (a b : Option Nat) (w' : World), (Instr.build 89 #[(0, .agg gs), (1, .map a), (2, .agg #[.map b])]).run Tryd.prog w' = .ok (.agg (gs.toList ++ [Value.map a, Value.map b]).toArray) w' := fun a b w' => run_build w' _ _ _ (built_turn gs hg a b)
  have hmm := @run_makeMap Tryd.prog
  have KF : Fr [] W1 (w.alloc (.cells gs 64)).drew := by rw [hW1]; exact (Fr.refl _ _).drew
  clear hW1
  go_enter Tryd.func32, Tryd.ntmps32
  go_wp2_with fail
  have HCC : ∀ w', Fr [] W1 w' → w'.cell? ⟨w.heap.size, 148, none⟩ = some (.slice (some ⟨pb, 0, none⟩) t.us.length cap) := fun w' hf => by
    rw [cell_of_heap (hf.heap0 hG), HGS.out]
    simp [gameL, tcell]
  go_cut [3] (fun s3 wx => ∃ tb hb bb : Nat, s3 = .pointer (some ⟨tb, 0, none⟩) ∧ wx.heap[tb]? = some (.cells (gs.toList ++ [Value.map (some hb), Value.map (some bb)]).toArray 89) ∧ MapF wx hb (heldV (heldOf t.us)) ∧ wx.heap[bb]? = some (.map #[] 0) ∧ w.heap.size < tb ∧ w.heap.size < hb ∧ w.heap.size < bb ∧ hb ≠ bb ∧ Fr [] W1 wx)
  case first =>
    refine wp_region_held (S := fun w' => Fr [] W1 w') (by kernel_rfl) ?_
    refine wpAnyH_take (i := 0) (oi := _) (v := .agg gs.toList.toArray) rfl (by kernel_rfl) (by kernel_rfl) (by kernel_rfl) (fun _ _ _ h => h) (yieldsIf_load_mid (by kernel_rfl) 64 (.tmp 1) rfl w.heap.size 0 rfl gs.toList _ HR Tryd.underlying64 rfl hi149) KF ?_
    simp only [Act.put, Array.toArray_toList]
    refine wpAnyH_take (i := 1) (oi := _) (v := .pointer (some ⟨w.heap.size, 148, none⟩)) rfl (by kernel_rfl) (by kernel_rfl) (by kernel_rfl) (fun _ _ _ h => h) (Or.inl ⟨by kernel_rfl, fun w0 _ => by go_simp⟩) KF ?_
    simp only [Act.put]
    refine wpAnyH_take (i := 2) (oi := _) (v := .slice (some ⟨pb, 0, none⟩) t.us.length cap) rfl (by kernel_rfl) (by kernel_rfl) (by kernel_rfl) (fun _ _ _ h => h) (Or.inl ⟨by kernel_rfl, fun w0 hS => by have hc0 := HCC w0 hS; go_simp⟩) KF ?_
    simp only [Act.put]
    refine wpAnyH_ready (rs := [3]) (by kernel_rfl) (by simp) ?_
    refine AllReadyH.cons rfl (fun K hK => ?_) AllReadyH.nil
    rw [if_pos (by rfl)]
    go_wp2_with (go_at_call 43; refine Calls.mono (cellsOf_any pb cap t.us _ (hrow.fr (h01.then0 KF) (by simp)) hlen) ?_; rintro e w1 ⟨hb, rfl, hlb, hmap, hf1⟩)
    have hfr1 : Fr [] W1 w1 := KF.then0 hf1
    refine hK.out _ _ hfr1 (fun _ => ?_)
    clear hK
    refine wpAnyH_ready (rs := [4]) (by kernel_rfl) (by simp) ?_
    refine AllReadyH.cons rfl (fun K hK => ?_) AllReadyH.nil
    rw [if_pos (by rfl)]
    go_wp2_with (go_at_call 44; refine (newWays_any _).mono ?_; rintro e w2 ⟨rfl, hw2⟩)
    have hf2 : Fr [] w1 w2 := by rw [← hw2]; exact ((Fr.refl _ _).alloc _).alloc _
    have hfr2 : Fr [] W1 w2 := hfr1.then0 hf2
    refine hK.out _ _ hfr2 (fun _ => ?_)
    clear hK
    refine wpAnyH_take (i := 5) (oi := _) (v := .agg (gs.toList ++ [Value.map (some hb), Value.map (some (w1.heap.size + 1))]).toArray) rfl (by kernel_rfl) (by kernel_rfl) (by kernel_rfl) (fun _ _ _ h => h) (yields_build (by kernel_rfl) 89 #[(0, .tmp 4), (1, .tmp 7), (2, .tmp 8)] rfl _ (by simpa [Act.eval] using built_turn gs hg (some hb) (some (w1.heap.size + 1)))) hfr2 ?_
    simp only [Act.put]
    refine wpAnyH_ready (rs := [6]) (by kernel_rfl) (by simp) ?_
    refine AllReadyH.cons rfl (fun K hK => ?_) AllReadyH.nil
    rw [if_pos (by rfl)]
    go_wp2_with fail
    refine hK.out _ _ (Fr.alloc hfr2 _) (fun _ => ?_)
    clear hK
    refine wpAnyH_take (i := 7) (oi := _) (v := .pointer (some ⟨w2.heap.size, 0, none⟩)) rfl (by kernel_rfl) (by kernel_rfl) (by kernel_rfl) (fun _ _ _ h => h) (Or.inl ⟨by kernel_rfl, fun w0 _ => by go_simp⟩) (Fr.alloc hfr2 _) ?_
    refine wpAnyH_done (by kernel_rfl) ?_ _
    go_wp2_with fail
    go_meet
    have hsz : w2.heap.size = w1.heap.size + 1 + 1 := by rw [← hw2]; simp
    have hs1 := hf1.size
    have hlm := MapF.lt hmap
    have hlw : w.heap.size + 1 ≤ hb := by simpa using hlb
    have hs2 : w.heap.size + 1 ≤ w1.heap.size := by simpa using hs1
    have hbb : w2.heap[w1.heap.size + 1]? = some (.map #[] 0) := by rw [← hw2]; exact hp_at _ _ _ (by simp)
    exact ⟨w2.heap.size, hb, w1.heap.size + 1, rfl, hp_new _ _, MapF.fr (MapF.fr hmap hf2 (by simp)) ((Fr.refl [] w2).alloc _) (by simp), ((Fr.refl [] w2).alloc _).heap0 hbb, by omega, by omega, by omega, by omega, hfr2.alloc _⟩
  case rest =>
    obtain ⟨tb, hb, bb, rfl, hT, hH, hB, l1, l2, l3, n6, hfx⟩ := hcut
    have hgx := hfx.heap0 hG
    have hwx := h01.then0 hfx
    have hpv : gs[148]? = some (.slice (some ⟨pb, 0, none⟩) t.us.length cap) := by
      rw [HGS.out]
      simp [gameL, tcell]
    have hcg : wc.cell? ⟨w.heap.size, 148, none⟩ = some (.slice (some ⟨pb, 0, none⟩) t.us.length cap) := by rw [cell_of_heap hgx]; exact hpv
    have hpl := hrow.lt
    have hrx := hrow.fr hwx (by simp)
    have HT := (show Hid _ from hT)
    have HX := (show Hid _ from hgx)
    clear KF HR hi149 hbuild hmm hG hgx hT
    have hct : wc.cell? ⟨tb, 148, none⟩ = some (.slice (some ⟨pb, 0, none⟩) t.us.length cap) := by
      rw [cell_of_heap HT.out]
      simp only [List.getElem?_toArray]
      rw [List.getElem?_append_left (by simp [hg])]
      simpa using hpv
    have hcz : wc.frozen? ⟨tb, 148, none⟩ = false := frozen_of_heap HT.out
    clear hpv
    have htl := lt_of_heap HT.out
    have hwl := lt_of_heap HX.out
    have hn1 : ¬ w.heap.size = tb := by omega
    have hn2 : ¬ tb = w.heap.size := by omega
    go_wp2_with (go_at_call 25; refine (clone_any pb cap t.us _ hrx hlen hne).mono ?_; rintro e w2 ⟨pb', cap', rfl, hpb', hrow2, hf2⟩; obtain ⟨hc2, hz2⟩ := hf2.cells0)
    obtain ⟨W5, hW5⟩ : ∃ W, W = w2.setCell ⟨tb, 148, none⟩ (.slice (some ⟨pb', 0, none⟩) t.us.length cap') := ⟨_, rfl⟩
    rw [← hW5]
    have hf5 : Fr [tb] w2 W5 := by rw [hW5]; exact (Fr.refl _ _).setCell _ _ (by simp)
    have hT2 := hf2.heap0 HT.out
    have hHl := hH.lt
    have hHH : ∃ es clock, wc.heap[hb]? = some (.map es clock) := by obtain ⟨_, es, clock, h, _⟩ := hH; exact ⟨es, clock, h⟩
    obtain ⟨es, clock, hH'⟩ := hHH
    have hBl := lt_of_heap hB
    have n23 : tb ≠ hb ∧ tb ≠ bb := by
      have h1 := HT.out
      refine ⟨fun e => ?_, fun e => ?_⟩
      · rw [e, hH'] at h1; cases h1
      · rw [e, hB] at h1; cases h1
    have hts : TS W5 tb pb' cap' hb bb { t with held := heldOf t.us } := by
      refine ⟨fun k hk => ?_, fun k => ?_, hrow2.fr hf5 (by simp; omega), hlen, ?_, ?_, by omega, n23.1, n23.2, by omega, by omega, n6, by omega⟩
      · by_cases hk8 : k = 148
        · subst hk8
          rw [hW5, cell_same _ _ _ _ _ ((hc2 tb 148 htl).trans hct)]
          simp [tcell]
        · rw [hW5, cell_other _ _ _ _ _ _ (Or.inr (fun e => hk8 e.symm)), cell_of_heap hT2]
          simp only [List.getElem?_toArray]
          have hgl : gs.toList.length = 149 := by simpa using hg
          by_cases hk9 : k < 149
          · rw [List.getElem?_append_left (by omega)]
            have : gs.toList = gameL t (.slice (some ⟨pb, 0, none⟩) t.us.length cap) := by rw [HGS.out]
            rw [this]
            unfold gameL
            rw [List.getElem?_map, List.getElem?_range hk9]
            show some (tcell t _ 0 0 k) = some (tcell { t with held := heldOf t.us } _ hb bb k)
            unfold tcell
            have h149 : k ≠ 149 := by omega
            simp only [hk8, if_false]
            by_cases h0 : k = 0
            · simp [h0]
            · by_cases h1 : k = 1
              · simp [h1]
              · by_cases h2 : k = 2
                · simp [h2]
                · by_cases h3 : k = 3
                  · simp [h3]
                  · rw [if_neg h0, if_neg h1, if_neg h2, if_neg h3, if_pos (by omega), if_neg h0, if_neg h1, if_neg h2, if_neg h3, if_pos (by omega)]
          · rw [List.getElem?_append_right (by omega), hgl]
            have : k = 149 ∨ k = 150 := by omega
            rcases this with rfl | rfl <;> simp [tcell]
      · rw [hW5, World.frozen?_setCell]
        exact frozen_of_heap hT2
      · exact (MapF.fr (MapF.fr hH hf2 (by simp)) hf5 (by simp; exact fun e => n23.1 e.symm))
      · exact (MapF.made (hf2.heap0 hB)).fr hf5 (by simp; exact fun e => n23.2 e.symm)
    have hw5 : Fr [] w W5 := by rw [hW5]; exact (hwx.then0 hf2).setCell _ _ (Or.inr (by show w.heap.size ≤ tb; omega))
    clear hW5 hT2 hct hcz hcg hf5 hH hB hc2 hz2 hrow2 hrx
    have hsz5 := hw5.size
    go_wp2_with fail
    go_ret
    exact ⟨tb, pb', cap', hb, bb, rfl, hw5, hts, by omega, by omega, by omega, by omega⟩
end Go.Proofs.YtapabahhfanmmaaDoor
