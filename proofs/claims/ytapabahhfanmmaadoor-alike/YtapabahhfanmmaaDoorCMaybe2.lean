import Derived.Test.YtapabahhfanmmaaDoorCGame2
import Derived.Test.YtapabahhfanmmaaDoorCSign
import Derived.Test.YtapabahhfanmmaaDoorCTellT
import Derived.Test.YtapabahhfanmmaaDoorCTake
/- A row of the board. -/
namespace Go.Proofs.YtapabahhfanmmaaDoor
open Go.RowKit

abbrev zero12 : Array Value := #[ii 0, ii 0, ii 0, ii 0, ii 0, ii 0, ii 0, ii 0, ii 0, ii 0, ii 0, ii 0]
def rowL (bd : Nat → Int) (y : Nat) : List Value := (List.range 12).map fun x => ii (bd (y * 12 + x))
theorem rowL_len (bd : Nat → Int) (y : Nat) : (rowL bd y).length = 12 := by simp [rowL]
theorem rowL_one (bd : Nat → Int) (y : Nat) : (rowL bd y).toArray.all (·.oneCell') = true := by
  simp [rowL, Value.oneCell']
theorem infoRow : (Tryd.prog.info? 48).map (·.size) = some 12 := by kernel_rfl
theorem sizeRow : Tryd.t48.size = 12 := by kernel_rfl
theorem board_part (bd : Nat → Int) (y : Nat) (hy : y < 12) : (boardL bd).toArray.extract (y * 12) (y * 12 + 12) = (rowL bd y).toArray := by
  apply Array.ext_getElem?
  intro i
  simp only [boardL, rowL, Array.getElem?_extract, List.getElem?_toArray, List.getElem?_map]
  by_cases hi : i < 12
  · rw [if_pos (by simp; omega), List.getElem?_range (by omega), List.getElem?_range hi]
    rfl
  · rw [if_neg (by simp; omega), List.getElem?_eq_none (by simp; omega)]
    rfl
theorem sizeI1 : Tryd.t3.size = 1 := by kernel_rfl
theorem run_row (bd : Nat → Int) (y : Nat) (hy : y < 12) (w : World) : (Instr.index 50 (.agg (boardL bd).toArray) (.int .i64 y)).run Tryd.prog w = .ok (.agg (rowL bd y).toArray) w := by
  have hpt : (part 48 (boardL bd).toArray (y * 12)).run Tryd.prog w = .ok (.agg (rowL bd y).toArray) w := by
    have hb := board_part bd y hy
    rw [← hb]
    simp [part, isAgg, run_underlying Tryd.underlying48, sizeOf, sizeRow]
  simp [Instr.index, run_underlying Tryd.underlying50, asIntOf, sizeOf, sizeRow, hpt]
  omega
theorem run_at (bd : Nat → Int) (y x : Nat) (hx : x < 12) (w : World) : (Instr.index 48 (.agg (rowL bd y).toArray) (.int .i64 x)).run Tryd.prog w = .ok (ii (bd (y * 12 + x))) w := by
  have hc : (rowL bd y).toArray[x]? = some (ii (bd (y * 12 + x))) := by simp [rowL, List.getElem?_range hx]
  have hpt : (part 3 (rowL bd y).toArray x).run Tryd.prog w = .ok (ii (bd (y * 12 + x))) w := by
    simp [part, isAgg, run_underlying Tryd.underlying3, hc]
  simp [Instr.index, run_underlying Tryd.underlying48, asIntOf, sizeOf, sizeI1, hpt]
  omega
end Go.Proofs.YtapabahhfanmmaaDoor
/- May a board be? -/
namespace Go.Proofs.YtapabahhfanmmaaDoor
open Go.RowKit

set_option maxRecDepth 100000 in
set_option maxHeartbeats 2000000 in
theorem boardMay_any (gb pb cap : Nat) (t : T) (w : World) (h : GS w gb pb cap t) (hbd : ∀ i, i < 144 → t.bd i ≤ 10) :
    Calls Tryd.prog 50 #[.pointer (some ⟨gb, 0, none⟩)] w fun e w' => e = .returned (.bool true) ∧ Fr [] w w' := by
  have hrg := h.board
  have HRow : Hid (∀ (y : Nat) (_ : y < 12) (w : World), (Instr.index 50 (.agg (boardL t.bd).toArray) (.int .i64 y)).run Tryd.prog w = .ok (.agg (rowL t.bd y).toArray) w) := run_row t.bd
  have HAt : Hid (∀ (y x : Nat) (_ : x < 12) (w : World), (Instr.index 48 (.agg (rowL t.bd y).toArray) (.int .i64 x)).run Tryd.prog w = .ok (ii (t.bd (y * 12 + x))) w) := run_at t.bd
  have HRL : Hid (∀ y, (rowL t.bd y).length = 12 ∧ (rowL t.bd y).toArray.all (·.oneCell') = true) := fun y => ⟨rowL_len _ _, rowL_one _ _⟩
  obtain ⟨bl, hbl⟩ : ∃ x, x = boardL t.bd := ⟨_, rfl⟩
  have HIB : Hid ((Tryd.prog.info? 50).map (·.size) = some bl.length) := by
    show _ = _
    rw [infoBoard, hbl, boardL_len]
  have HBD := (show Hid _ from hbd)
  obtain ⟨rw_, hrw⟩ : ∃ f, f = rowL t.bd := ⟨_, rfl⟩
  rw [← hbl] at hrg HRow
  rw [← hrw] at HRow HAt HRL
  obtain ⟨bd, hbdd⟩ : ∃ b, b = t.bd := ⟨_, rfl⟩
  rw [← hbdd] at HAt HBD
  clear hbl hrw hbdd hbd h
  go_enter Tryd.func50, Tryd.ntmps50
  go_wp2_with (refine wpList_load_mid rfl 50 _ rfl gb 4 rfl bl _ hrg Tryd.underlying50 rfl HIB.out ?_)
  go_loopw [11] (fun i wr => ∃ y : Nat, y ≤ 12 ∧ i = .int .i64 y ∧ Fr [] w wr) (fun i _ => 12 - (intOf i).toNat)
  case atStart => exact ⟨0, by omega, rfl, Fr.refl _ _⟩
  case round =>
    obtain ⟨y, hy12, rfl, hfr⟩ := hrel
    by_cases hlt : y < 12
    · have hlti : (y : Int) < 12 := by omega
      have hr := HRow.out y hlt
      have ha := HAt.out y
      obtain ⟨hrl, hro⟩ := HRL.out y
      obtain ⟨r, hr'⟩ : ∃ r, rw_ y = r := ⟨_, rfl⟩
      rw [hr'] at hr hrl hro
      simp only [hr'] at ha
      have HO := (show Hid _ from hro)
      have HI : Hid ((Tryd.prog.info? 48).map (·.size) = some r.toArray.size) := by
        show _ = _
        rw [infoRow, List.size_toArray, hrl]
      have HZ : Hid (zero12.size = r.toArray.size) := by show 12 = r.toArray.size; rw [List.size_toArray, hrl]
      have HH : Hid (((wr.alloc (.cells zero12 48)).setRow wr.heap.size r.toArray).heap[wr.heap.size]? = some (.cells r.toArray 48)) := setRow_heap _ _ _ _ _ _ (hp_new _ _)
      have HA := (show Hid _ from ha)
      clear hrl hro ha hr'
      go_wp2_with (first | (refine wpList_store_row rfl 48 _ _ rfl wr.heap.size r.toArray rfl rfl 48 zero12 (hp_new wr _) HI.out HZ.out HO.out ?_) | (refine wpList_load_row rfl 48 _ rfl wr.heap.size rfl 48 r.toArray (0, 0) _ HH.out Tryd.underlying48 rfl HI.out ?_))
      obtain ⟨W2, hW2⟩ : ∃ W, W = (wr.alloc (.cells zero12 48)).setRow wr.heap.size r.toArray := ⟨_, rfl⟩
      have hf2 : Fr [] wr W2 := by rw [hW2]; exact ((Fr.refl _ _).alloc _).setRow _ _ (Or.inr (Nat.le_refl _))
      rw [← hW2]
      clear hW2 HH HI HZ HO hr
      go_loopw [15] (fun i wx => ∃ x : Nat, x ≤ 12 ∧ i = .int .i64 x ∧ W2 = wx) (fun i _ => 12 - (intOf i).toNat)
      case atStart => exact ⟨0, by omega, rfl, rfl⟩
      case round =>
        obtain ⟨x, hx12, rfl, rfl⟩ := hrel
        by_cases hxt : x < 12
        · have hxti : (x : Int) < 12 := by omega
          have ha := HA.out x hxt
          have hb := HBD.out (y * 12 + x) (by omega)
          obtain ⟨b, hb'⟩ : ∃ b, bd (y * 12 + x) = b := ⟨_, rfl⟩
          rw [hb'] at ha hb
          clear hb'
          have hnb : ¬ 10 < b := by omega
          go_wp2_with fail
          go_roundw
          case rel => exact ⟨x + 1, hxt, by go_num, trivial⟩
          case measure => simp [intOf]; omega
        · have hxti : ¬ (x : Int) < 12 := by omega
          go_wp2_with fail
          go_roundw
          case rel => exact ⟨y + 1, hlt, by go_num, hfr.then0 hf2⟩
          case measure => simp [intOf]; omega
    · have hlti : ¬ (y : Int) < 12 := by omega
      go_wp2_with fail
      go_ret
      exact ⟨rfl, hfr⟩

def lastId (us : List U) (k : Nat) : Int := match k with | 0 => 0 | k + 1 => (us[k]?.map U.id).getD 0
theorem last_lt {us : List U} (hri : Rise us) (hid : ∀ u ∈ us, 1 ≤ u.id) {k : Nat} {u : U} (hu : us[k]? = some u) : lastId us k < u.id := by
  cases k with
  | zero => have := hid u (List.mem_of_getElem? hu); show (0 : Int) < u.id; omega
  | succ j =>
    have hl : j + 1 < us.length := (List.getElem?_eq_some_iff.1 hu).1
    have hv : us[j]? = some (us[j]'(by omega)) := List.getElem?_eq_getElem (by omega)
    have := hri.lt hv hu (by omega)
    show (us[j]?.map U.id).getD 0 < u.id
    rw [hv]
    exact this

set_option maxRecDepth 100000 in
set_option maxHeartbeats 2000000 in
theorem idsMay_any (gb pb cap : Nat) (t : T) (w : World) (h : GS w gb pb cap t) (hri : Rise t.us) (hid : ∀ u ∈ t.us, 1 ≤ u.id ∧ u.id < t.next) :
    Calls Tryd.prog 51 #[.pointer (some ⟨gb, 0, none⟩)] w fun e w' => e = .returned (.bool true) ∧ Fr [] w w' := by
  have hc := h.gv.c
  have hcn : w.cell? ⟨gb, 1, none⟩ = some (ii t.next) := by have := h.cell 1 (by omega); simpa [tcell] using this
  have hlen := h.len
  have hne := h.ne
  have HP : Hid (Ppl w pb t.us) := h.row.ppl
  have hlt := h.lt
  have HL : Hid (∀ k u, t.us[k]? = some u → lastId t.us k < u.id) := fun k u hu => last_lt hri (fun v hv => (hid v hv).1) hu
  have HE : Hid (lastId t.us t.us.length < t.next) := by
    show lastId t.us t.us.length < t.next
    obtain ⟨n, hn⟩ : ∃ n, t.us.length = n + 1 := ⟨t.us.length - 1, by omega⟩
    have hv : t.us[n]? = some (t.us[n]'(by omega)) := List.getElem?_eq_getElem (by omega)
    rw [hn]
    show (t.us[n]?.map U.id).getD 0 < t.next
    rw [hv]
    exact (hid _ (List.getElem_mem (by omega))).2
  obtain ⟨us, hus⟩ : ∃ us, us = t.us := ⟨_, rfl⟩
  rw [← hus] at hc hlen hne HP HL HE
  obtain ⟨nx, hnx⟩ : ∃ n, n = t.next := ⟨_, rfl⟩
  rw [← hnx] at hcn HE
  clear h hri hid hus hnx
  go_enter Tryd.func51, Tryd.ntmps51
  go_wp2_with fail
  go_loopw [3, 11] (fun v i wr => ∃ k : Nat, k ≤ us.length ∧ i = .int .i64 k ∧ v = .int .i64 (lastId us k) ∧ Fr [] w wr) (fun _ i _ => us.length - (intOf i).toNat)
  case atStart => exact ⟨0, by omega, rfl, rfl, Fr.refl _ _⟩
  case round =>
    obtain ⟨k, hk, rfl, rfl, hfr⟩ := hrel
    by_cases hlt : k < us.length
    · have hlti : (k : Int) < (us.length : Int) := by omega
      obtain ⟨u, hu⟩ : ∃ u, us[k]? = some u := ⟨us[k], List.getElem?_eq_getElem hlt⟩
      obtain ⟨c0, c1, c2, c3, c4, c5, c6, c7, c8, c9, c10⟩ := (Ppl.fr HP.out hfr (by simp)).at hu
      have hl := HL.out k u hu
      have HN : Hid (lastId us (k + 1) = u.id) := by show (us[k]?.map U.id).getD 0 = u.id; rw [hu]; rfl
      obtain ⟨la, hla⟩ : ∃ x, lastId us k = x := ⟨_, rfl⟩
      rw [hla] at hl ⊢
      have hnl : ¬ u.id ≤ la := by omega
      clear hu hla
      go_wp2_with fail
      go_roundw
      case rel => exact ⟨k + 1, hlt, by go_num, by rw [HN.out], hfr.alloc _⟩
      case measure => simp [intOf]; omega
    · have hlti : ¬ (k : Int) < (us.length : Int) := by omega
      have hkl : k = us.length := by omega
      have hen := HE.out
      rw [← hkl] at hen
      obtain ⟨la, hla⟩ : ∃ x, lastId us k = x := ⟨_, rfl⟩
      rw [hla] at hen ⊢
      have hcr := (hfr.cell _ _ (by omega) (by simp)).trans hcn
      clear hla hkl
      go_wp2_with fail
      go_ret
      exact ⟨rfl, hfr⟩

set_option maxRecDepth 100000 in
set_option maxHeartbeats 2000000 in
theorem basesMay_any (gb pb cap : Nat) (t : T) (w : World) (h : GS w gb pb cap t) (how : ∀ u ∈ t.us, u.owner = 0 ∨ u.owner = 1) (h0 : t.us.countP (isBase 0) ≤ 1) (h1 : t.us.countP (isBase 1) ≤ 1) (h2 : 1 ≤ t.us.countP (isBase 0) + t.us.countP (isBase 1)) :
    Calls Tryd.prog 53 #[.pointer (some ⟨gb, 0, none⟩)] w fun e w' => e = .returned (.bool true) ∧ Fr [] w w' := by
  have hc := h.gv.c
  have hlen := h.len
  have HP : Hid (Ppl w pb t.us) := h.row.ppl
  have hgl := h.lt
  obtain ⟨us, hus⟩ : ∃ us, us = t.us := ⟨_, rfl⟩
  rw [← hus] at hc hlen HP how h0 h1 h2
  have HOW := (show Hid _ from how)
  have H0 := (show Hid _ from h0)
  have H1 := (show Hid _ from h1)
  have H2 := (show Hid _ from h2)
  clear h how hus h0 h1 h2
  have hc1 : (w.alloc (.cells #[ii 0, ii 0] 34)).cell? ⟨gb, 148, none⟩ = some (.slice (some ⟨pb, 0, none⟩) us.length cap) := (((Fr.refl [] w).alloc _).cell _ _ hgl (by simp)).trans hc
  go_enter Tryd.func53, Tryd.ntmps53
  go_wp2_with fail
  go_loopw [11] (fun i wr => ∃ k : Nat, k ≤ us.length ∧ i = .int .i64 k ∧ wr.heap[w.heap.size]? = some (.cells #[ii ((us.take k).countP (isBase 0) : Nat), ii ((us.take k).countP (isBase 1) : Nat)] 34) ∧ Fr [] w wr) (fun i _ => us.length - (intOf i).toNat)
  case atStart => exact ⟨0, by omega, rfl, hp_new _ _, (Fr.refl _ _).alloc _⟩
  case round =>
    obtain ⟨k, hk, rfl, hb, hfr⟩ := hrel
    have cb0 : wr.cell? ⟨w.heap.size, 0, none⟩ = some (ii ((us.take k).countP (isBase 0) : Nat)) := cell_of_heap hb
    have cb1 : wr.cell? ⟨w.heap.size, 1, none⟩ = some (ii ((us.take k).countP (isBase 1) : Nat)) := cell_of_heap hb
    have z0 : wr.frozen? ⟨w.heap.size, 0, none⟩ = false := frozen_of_heap hb
    have z1 : wr.frozen? ⟨w.heap.size, 1, none⟩ = false := frozen_of_heap hb
    have hsl : w.heap.size < wr.heap.size := lt_of_heap hb
    have ht0 : (us.take k).countP (isBase 0) ≤ 1000 := Nat.le_trans (List.countP_le_length) (by simp; omega)
    have ht1 : (us.take k).countP (isBase 1) ≤ 1000 := Nat.le_trans (List.countP_le_length) (by simp; omega)
    obtain ⟨n0, hn0⟩ : ∃ n, (us.take k).countP (isBase 0) = n := ⟨_, rfl⟩
    obtain ⟨n1, hn1⟩ : ∃ n, (us.take k).countP (isBase 1) = n := ⟨_, rfl⟩
    rw [hn0] at cb0 hb ht0
    rw [hn1] at cb1 hb ht1
    have HB := (show Hid _ from hb)
    by_cases hlt : k < us.length
    · have hlti : (k : Int) < (us.length : Int) := by omega
      obtain ⟨u, hu⟩ : ∃ u, us[k]? = some u := ⟨us[k], List.getElem?_eq_getElem hlt⟩
      obtain ⟨c0, c1, c2, c3, c4, c5, c6, c7, c8, c9, c10⟩ := (Ppl.fr HP.out hfr (by simp)).at hu
      have hou := HOW.out u (List.mem_of_getElem? hu)
      have hs : ∀ o, (us.take (k + 1)).countP (isBase o) = (us.take k).countP (isBase o) + (if isBase o u = true then 1 else 0) := fun o => by
        obtain ⟨hl, rfl⟩ := List.getElem?_eq_some_iff.1 hu
        rw [List.take_succ_eq_append_getElem hl, List.countP_append]
        simp [List.countP_cons]
      have HS0 := (show Hid _ from (hs 0).trans (by rw [hn0]))
      have HS1 := (show Hid _ from (hs 1).trans (by rw [hn1]))
      clear hu hs hn0 hn1 hb
      by_cases hkd : (u.kind == 1) = true
      · rcases hou with ho | ho
        · have HO := (show Hid _ from ho)
          have e0 : Hid (isBase 0 u = true) := by show isBase 0 u = true; unfold isBase; rw [hkd, ho]; rfl
          have e1 : Hid (isBase 1 u = false) := by show isBase 1 u = false; unfold isBase; rw [hkd, ho]; rfl
          rw [ho] at c1
          clear ho
          go_wp2_with fail
          go_roundw
          case rel =>
            refine ⟨k + 1, hlt, by go_num, ?_, (hfr.setCell _ _ (Or.inr (Nat.le_refl _))).alloc _⟩
            rw [hp_old _ _ _ (by simpa [World.setCell] using hsl), set_arrR HB.out, HS0.out, HS1.out, e0.out, e1.out]
            rfl
          case measure => simp [intOf]; omega
        · have HO := (show Hid _ from ho)
          have e0 : Hid (isBase 0 u = false) := by show isBase 0 u = false; unfold isBase; rw [hkd, ho]; rfl
          have e1 : Hid (isBase 1 u = true) := by show isBase 1 u = true; unfold isBase; rw [hkd, ho]; rfl
          rw [ho] at c1
          clear ho
          go_wp2_with fail
          go_roundw
          case rel =>
            refine ⟨k + 1, hlt, by go_num, ?_, (hfr.setCell _ _ (Or.inr (Nat.le_refl _))).alloc _⟩
            rw [hp_old _ _ _ (by simpa [World.setCell] using hsl), set_arrR HB.out, HS0.out, HS1.out, e0.out, e1.out]
            rfl
          case measure => simp [intOf]; omega
      · simp only [Bool.not_eq_true] at hkd
        have e0 : Hid (isBase 0 u = false) := by show isBase 0 u = false; unfold isBase; rw [hkd]; rfl
        have e1 : Hid (isBase 1 u = false) := by show isBase 1 u = false; unfold isBase; rw [hkd]; rfl
        clear hou
        go_wp2_with fail
        go_roundw
        case rel =>
          refine ⟨k + 1, hlt, by go_num, ?_, hfr.alloc _⟩
          rw [hp_old _ _ _ hsl, HB.out, HS0.out, HS1.out, e0.out, e1.out]
          rfl
        case measure => simp [intOf]; omega
    · have hlti : ¬ (k : Int) < (us.length : Int) := by omega
      have hkl : us.take k = us := List.take_of_length_le (by omega)
      rw [hkl] at hn0 hn1
      have a0 := H0.out
      have a1 := H1.out
      have a2 := H2.out
      rw [hn0] at a0 a2
      rw [hn1] at a1 a2
      have b0 : (n0 : Int) ≤ 1 := by omega
      have b1 : (n1 : Int) ≤ 1 := by omega
      have b2 : 1 ≤ (n0 : Int) + (n1 : Int) := by omega
      clear hkl hn0 hn1 hb H0 H1 H2
      go_wp2_with fail
      all_goals
        go_ret
        exact ⟨rfl, hfr⟩
end Go.Proofs.YtapabahhfanmmaaDoor
/- May one of the people be? -/
namespace Go.Proofs.YtapabahhfanmmaaDoor
open Go.RowKit

set_option maxRecDepth 100000 in
set_option maxHeartbeats 2000000 in
theorem standsMine_any (b : Nat) (bd : Nat → Int) (u : U) (c : Cm) (w : World) (hbd : BdAt w b bd) (hb : b < w.heap.size) :
    Calls Tryd.prog 71 #[.pointer (some ⟨b, 0, none⟩), u.val, c.val] w fun e w' => e = .returned (.bool (onB c.x c.y && (bd (ci c.x c.y) != 10))) ∧ Fr [] w w' := by
  have hf : Fr [] w ((w.alloc (.cells u.arr 44)).alloc (.cells #[ii c.unit, ii c.what, ii c.x, ii c.y, ii c.target] 47)) := ((Fr.refl _ _).alloc _).alloc _
  have ht := takesMove_any b bd u c _ (hbd.fr hf (by simp)) (Nat.lt_of_lt_of_le hb hf.size)
  have HT := (show Hid _ from ht)
  clear ht hbd
  go_enter Tryd.func71, Tryd.ntmps71
  go_wp2_with (go_at_call 67; refine Calls.mono HT.out ?_; rintro e w1 ⟨rfl, hf1⟩)
  go_ret
  exact ⟨rfl, hf.then0 hf1⟩

set_option maxRecDepth 100000 in
set_option maxHeartbeats 2000000 in
theorem standsHit_any (b pb cap : Nat) (us : List U) (u : U) (c : Cm) (nx : Int) (w : World) (hg : GV w b pb cap us) (hs : Rise us) (hn : w.cell? ⟨b, 1, none⟩ = some (ii nx)) (h1 : 1 ≤ c.target) (h2 : c.target < nx) (h3 : ∀ v ∈ us, v.id = c.target → v.owner ≠ u.owner) :
    Calls Tryd.prog 74 #[.pointer (some ⟨b, 0, none⟩), u.val, c.val] w fun e w' => e = .returned (.bool true) ∧ Fr [] w w' := by
  have hgl := lt_of_cell hg.c
  have hf0 : Fr [] w ((w.alloc (.cells u.arr 44)).alloc (.cells #[ii c.unit, ii c.what, ii c.x, ii c.y, ii c.target] 47)) := ((Fr.refl _ _).alloc _).alloc _
  have HG := (show Hid _ from hg)
  have H3 : Hid (∀ i : Nat, placeOf us c.target = some i → hitB us u.owner c.target = true) := fun i hi => by
    obtain ⟨v, hv, e⟩ := placeOf_get hi
    unfold hitB
    have : look us c.target = some v := by rw [← e]; exact look_some hs hv
    rw [this]
    simpa using h3 v (List.mem_of_getElem? hv) e
  have HF : Hid (∀ w', Fr [] w w' → Calls Tryd.prog 46 #[.pointer (some ⟨b, 0, none⟩), .int .i64 c.target] w' fun e w'' => ∃ (i : Nat) (f : Bool), e = .returned (.tuple #[.int .i64 i, .bool f]) ∧ Fr [] w' w'' ∧ placeOf us c.target = (if f = true then some i else none)) := fun w' hf => find_pl b pb cap us c.target w' (hg.fr0 hf) hs
  have HT : Hid (∀ w', Fr [] w w' → Calls Tryd.prog 73 #[.pointer (some ⟨b, 0, none⟩), u.val, c.val] w' fun e w'' => e = .returned (.bool (hitB us u.owner c.target)) ∧ Fr [] w' w'') := fun w' hf => takesHit_any b pb cap us u c w' (hg.fr0 hf) hs
  clear hg h3
  go_enter Tryd.func74, Tryd.ntmps74
  go_wp2_with fail
  refine Calls.mono (HF.out _ hf0) ?_
  rintro e w1 ⟨i, f, rfl, hf1, hpl⟩
  dsimp only
  have hw1 := hf0.then0 hf1
  have hU1 := hf1.heap0 (show ((w.alloc (.cells u.arr 44)).alloc (.cells #[ii c.unit, ii c.what, ii c.x, ii c.y, ii c.target] 47)).heap[w.heap.size]? = some (.cells u.arr 44) from (hp_old _ _ _ (by simp)).trans (hp_new _ _))
  have hC1 := hf1.heap0 (hp_new2 w (.cells u.arr 44) (.cells #[ii c.unit, ii c.what, ii c.x, ii c.y, ii c.target] 47))
  have ct : w1.cell? ⟨w.heap.size + 1, 4, none⟩ = some (ii c.target) := cell_of_heap hC1
  have hnx := (hw1.cell _ _ hgl (by simp)).trans hn
  cases f
  · have ht1 : (1 : Int) ≤ c.target := h1
    have ht2 : c.target < nx := h2
    clear hU1 hC1
    go_wp2_with fail
    go_region
    all_goals
      go_wp2_with fail
      go_ret
      exact ⟨rfl, hw1.drewN _⟩
  · rw [if_pos rfl] at hpl
    have ht := H3.out i hpl
    have HT1 := HT.out _ hw1
    rw [ht] at HT1
    obtain ⟨a0, a1, a2, a3, a4, a5, a6, a7, a8, a9, a10⟩ : w1.cell? ⟨w.heap.size, 0, none⟩ = some (ii u.id) ∧ w1.cell? ⟨w.heap.size, 1, none⟩ = some (ii u.owner) ∧ w1.cell? ⟨w.heap.size, 2, none⟩ = some (ii u.kind) ∧ w1.cell? ⟨w.heap.size, 3, none⟩ = some (ii u.x) ∧ w1.cell? ⟨w.heap.size, 4, none⟩ = some (ii u.y) ∧ w1.cell? ⟨w.heap.size, 5, none⟩ = some (ii u.life) ∧ w1.cell? ⟨w.heap.size, 6, none⟩ = some (ii u.load) ∧ w1.cell? ⟨w.heap.size, 7, none⟩ = some (ii u.what) ∧ w1.cell? ⟨w.heap.size, 8, none⟩ = some (ii u.tox) ∧ w1.cell? ⟨w.heap.size, 9, none⟩ = some (ii u.toy) ∧ w1.cell? ⟨w.heap.size, 10, none⟩ = some (ii u.target) :=
      ⟨cell_of_heap hU1, cell_of_heap hU1, cell_of_heap hU1, cell_of_heap hU1, cell_of_heap hU1, cell_of_heap hU1, cell_of_heap hU1, cell_of_heap hU1, cell_of_heap hU1, cell_of_heap hU1, cell_of_heap hU1⟩
    have d0 : w1.cell? ⟨w.heap.size + 1, 0, none⟩ = some (ii c.unit) := cell_of_heap hC1
    have d1 : w1.cell? ⟨w.heap.size + 1, 1, none⟩ = some (ii c.what) := cell_of_heap hC1
    have d2 : w1.cell? ⟨w.heap.size + 1, 2, none⟩ = some (ii c.x) := cell_of_heap hC1
    have d3 : w1.cell? ⟨w.heap.size + 1, 3, none⟩ = some (ii c.y) := cell_of_heap hC1
    clear hU1 hC1 hpl
    go_wp2_with fail
    refine Calls.mono HT1 ?_
    rintro e w2 ⟨rfl, hf2⟩
    dsimp only
    go_wp2_with fail
    go_ret
    exact ⟨rfl, hw1.then0 hf2⟩
end Go.Proofs.YtapabahhfanmmaaDoor
