import Derived.Test.YtapabahhfanmmaaGreatDoorCRow12
import Derived.Test.YtapabahhfanmmaaGreatDoorCSign
import Derived.Test.YtapabahhfanmmaaGreatDoorCReadU
import Derived.Test.YtapabahhfanmmaaGreatDoorCCmd
/- May a board be? -/
namespace Go.Proofs.YtapabahhfanmmaaGreatDoor
open Go.RowKit

set_option maxRecDepth 100000 in
set_option maxHeartbeats 2000000 in
theorem boardMay_any (gb pb cap : Nat) (t : T) (w : World) (h : GS w gb pb cap t) (hbd : ∀ i, i < 144 → t.bd i ≤ 10) :
    Calls Tryz.prog 173 #[.pointer (some ⟨gb, 0, none⟩)] w fun e w' => e = .returned (.bool true) ∧ Fr [] w w' := by
  have hrg := h.board
  have HRow : Hid (∀ (y : Nat) (_ : y < 12) (w : World), (Instr.index 88 (.agg (boardL t.bd).toArray) (.int .i64 y)).run Tryz.prog w = .ok (.agg (rowL t.bd y).toArray) w) := run_row t.bd
  have HAt : Hid (∀ (y x : Nat) (_ : x < 12) (w : World), (Instr.index 86 (.agg (rowL t.bd y).toArray) (.int .i64 x)).run Tryz.prog w = .ok (ii (t.bd (y * 12 + x))) w) := run_at t.bd
  have HRL : Hid (∀ y, (rowL t.bd y).length = 12 ∧ (rowL t.bd y).toArray.all (·.oneCell') = true) := fun y => ⟨rowL_len _ _, rowL_one _ _⟩
  obtain ⟨bl, hbl⟩ : ∃ x, x = boardL t.bd := ⟨_, rfl⟩
  have HIB : Hid ((Tryz.prog.info? 88).map (·.size) = some bl.length) := by
    show _ = _
    rw [infoBoard, hbl, boardL_len]
  have HBD := (show Hid _ from hbd)
  obtain ⟨rw_, hrw⟩ : ∃ f, f = rowL t.bd := ⟨_, rfl⟩
  rw [← hbl] at hrg HRow
  rw [← hrw] at HRow HAt HRL
  obtain ⟨bd, hbdd⟩ : ∃ b, b = t.bd := ⟨_, rfl⟩
  rw [← hbdd] at HAt HBD
  clear hbl hrw hbdd hbd h
  go_enter Tryz.func173, Tryz.ntmps173
  go_wp2_with (refine wpList_load_mid rfl 88 _ rfl gb 4 rfl bl _ hrg Tryz.underlying88 rfl HIB.out ?_)
  go_loopw [11] (fun i wr => ∃ y : Nat, y ≤ 12 ∧ i = .int .i64 y ∧ Fr [] w wr) (fun i _ => 12 - (intOf i).toNat)
  case atStart => exact ⟨0, by omega, rfl, Fr.refl _ _⟩
  case round =>
    obtain ⟨y, hy12, rfl, hfr⟩ := hrel
    by_cases hlt : y < 12
    · have hlti : (y : Int) < 12 := by omega
      have hr := HRow.out y hlt
      have ha := HAt.out y
      obtain ⟨hrl, hro⟩ := HRL.out y
      obtain ⟨r, hr'⟩ : ∃ r, rw_ y = r := ⟨_, rfl⟩
      rw [hr'] at hr hrl hro
      simp only [hr'] at ha
      have HO := (show Hid _ from hro)
      have HI : Hid ((Tryz.prog.info? 86).map (·.size) = some r.toArray.size) := by
        show _ = _
        rw [infoRow, List.size_toArray, hrl]
      have HZ : Hid (zero12.size = r.toArray.size) := by show 12 = r.toArray.size; rw [List.size_toArray, hrl]
      have HH : Hid (((wr.alloc (.cells zero12 86)).setRow wr.heap.size r.toArray).heap[wr.heap.size]? = some (.cells r.toArray 86)) := setRow_heap _ _ _ _ _ _ (hp_new _ _)
      have HA := (show Hid _ from ha)
      clear hrl hro ha hr'
      go_wp2_with (first | (refine wpList_store_row rfl 86 _ _ rfl wr.heap.size r.toArray rfl rfl 86 zero12 (hp_new wr _) HI.out HZ.out HO.out ?_) | (refine wpList_load_row rfl 86 _ rfl wr.heap.size rfl 86 r.toArray (0, 0) _ HH.out Tryz.underlying86 rfl HI.out ?_))
      obtain ⟨W2, hW2⟩ : ∃ W, W = (wr.alloc (.cells zero12 86)).setRow wr.heap.size r.toArray := ⟨_, rfl⟩
      have hf2 : Fr [] wr W2 := by rw [hW2]; exact ((Fr.refl _ _).alloc _).setRow _ _ (Or.inr (Nat.le_refl _))
      rw [← hW2]
      clear hW2 HH HI HZ HO hr
      go_loopw [15] (fun i wx => ∃ x : Nat, x ≤ 12 ∧ i = .int .i64 x ∧ W2 = wx) (fun i _ => 12 - (intOf i).toNat)
      case atStart => exact ⟨0, by omega, rfl, rfl⟩
      case round =>
        obtain ⟨x, hx12, rfl, rfl⟩ := hrel
        by_cases hxt : x < 12
        · have hxti : (x : Int) < 12 := by omega
          have ha := HA.out x hxt
          have hb := HBD.out (y * 12 + x) (by omega)
          obtain ⟨b, hb'⟩ : ∃ b, bd (y * 12 + x) = b := ⟨_, rfl⟩
          rw [hb'] at ha hb
          clear hb'
          have hnb : ¬ 10 < b := by omega
          go_wp2_with fail
          go_roundw
          case rel => exact ⟨x + 1, hxt, by go_num, trivial⟩
          case measure => simp [intOf]; omega
        · have hxti : ¬ (x : Int) < 12 := by omega
          go_wp2_with fail
          go_roundw
          case rel => exact ⟨y + 1, hlt, by go_num, hfr.then0 hf2⟩
          case measure => simp [intOf]; omega
    · have hlti : ¬ (y : Int) < 12 := by omega
      go_wp2_with fail
      go_ret
      exact ⟨rfl, hfr⟩

def lastId (us : List U) (k : Nat) : Int := match k with | 0 => 0 | k + 1 => (us[k]?.map U.id).getD 0
theorem last_lt {us : List U} (hri : Rise us) (hid : ∀ u ∈ us, 1 ≤ u.id) {k : Nat} {u : U} (hu : us[k]? = some u) : lastId us k < u.id := by
  cases k with
  | zero => have := hid u (List.mem_of_getElem? hu); show (0 : Int) < u.id; omega
  | succ j =>
    have hl : j + 1 < us.length := (List.getElem?_eq_some_iff.1 hu).1
    have hv : us[j]? = some (us[j]'(by omega)) := List.getElem?_eq_getElem (by omega)
    have := hri.lt hv hu (by omega)
    show (us[j]?.map U.id).getD 0 < u.id
    rw [hv]
    exact this

set_option maxRecDepth 100000 in
set_option maxHeartbeats 2000000 in
theorem idsMay_any (gb pb cap : Nat) (t : T) (w : World) (h : GS w gb pb cap t) (hri : Rise t.us) (hid : ∀ u ∈ t.us, 1 ≤ u.id ∧ u.id < t.next) :
    Calls Tryz.prog 174 #[.pointer (some ⟨gb, 0, none⟩)] w fun e w' => e = .returned (.bool true) ∧ Fr [] w w' := by
  have hc := h.gv.c
  have hcn : w.cell? ⟨gb, 1, none⟩ = some (ii t.next) := by have := h.cell 1 (by omega); simpa [tcell] using this
  have hlen := h.len
  have hne := h.ne
  have HP : Hid (Ppl w pb t.us) := h.row.ppl
  have hlt := h.lt
  have HL : Hid (∀ k u, t.us[k]? = some u → lastId t.us k < u.id) := fun k u hu => last_lt hri (fun v hv => (hid v hv).1) hu
  have HE : Hid (lastId t.us t.us.length < t.next) := by
    show lastId t.us t.us.length < t.next
    obtain ⟨n, hn⟩ : ∃ n, t.us.length = n + 1 := ⟨t.us.length - 1, by omega⟩
    have hv : t.us[n]? = some (t.us[n]'(by omega)) := List.getElem?_eq_getElem (by omega)
    rw [hn]
    show (t.us[n]?.map U.id).getD 0 < t.next
    rw [hv]
    exact (hid _ (List.getElem_mem (by omega))).2
  obtain ⟨us, hus⟩ : ∃ us, us = t.us := ⟨_, rfl⟩
  rw [← hus] at hc hlen hne HP HL HE
  obtain ⟨nx, hnx⟩ : ∃ n, n = t.next := ⟨_, rfl⟩
  rw [← hnx] at hcn HE
  clear h hri hid hus hnx
  go_enter Tryz.func174, Tryz.ntmps174
  go_wp2_with fail
  go_loopw [3, 11] (fun v i wr => ∃ k : Nat, k ≤ us.length ∧ i = .int .i64 k ∧ v = .int .i64 (lastId us k) ∧ Fr [] w wr) (fun _ i _ => us.length - (intOf i).toNat)
  case atStart => exact ⟨0, by omega, rfl, rfl, Fr.refl _ _⟩
  case round =>
    obtain ⟨k, hk, rfl, rfl, hfr⟩ := hrel
    by_cases hlt : k < us.length
    · have hlti : (k : Int) < (us.length : Int) := by omega
      obtain ⟨u, hu⟩ : ∃ u, us[k]? = some u := ⟨us[k], List.getElem?_eq_getElem hlt⟩
      obtain ⟨c0, c1, c2, c3, c4, c5, c6, c7, c8, c9, c10⟩ := (Ppl.fr HP.out hfr (by simp)).at hu
      have hl := HL.out k u hu
      have HN : Hid (lastId us (k + 1) = u.id) := by show (us[k]?.map U.id).getD 0 = u.id; rw [hu]; rfl
      obtain ⟨la, hla⟩ : ∃ x, lastId us k = x := ⟨_, rfl⟩
      rw [hla] at hl ⊢
      have hnl : ¬ u.id ≤ la := by omega
      clear hu hla
      go_wp2_with fail
      go_roundw
      case rel => exact ⟨k + 1, hlt, by go_num, by rw [HN.out], hfr.alloc _⟩
      case measure => simp [intOf]; omega
    · have hlti : ¬ (k : Int) < (us.length : Int) := by omega
      have hkl : k = us.length := by omega
      have hen := HE.out
      rw [← hkl] at hen
      obtain ⟨la, hla⟩ : ∃ x, lastId us k = x := ⟨_, rfl⟩
      rw [hla] at hen ⊢
      have hcr := (hfr.cell _ _ (by omega) (by simp)).trans hcn
      clear hla hkl
      go_wp2_with fail
      go_ret
      exact ⟨rfl, hfr⟩

set_option maxRecDepth 100000 in
set_option maxHeartbeats 2000000 in
theorem basesMay_any (gb pb cap : Nat) (t : T) (w : World) (h : GS w gb pb cap t) (how : ∀ u ∈ t.us, u.owner = 0 ∨ u.owner = 1) (h0 : t.us.countP (isBase 0) ≤ 1) (h1 : t.us.countP (isBase 1) ≤ 1) (h2 : 1 ≤ t.us.countP (isBase 0) + t.us.countP (isBase 1)) :
    Calls Tryz.prog 176 #[.pointer (some ⟨gb, 0, none⟩)] w fun e w' => e = .returned (.bool true) ∧ Fr [] w w' := by
  have hc := h.gv.c
  have hlen := h.len
  have HP : Hid (Ppl w pb t.us) := h.row.ppl
  have hgl := h.lt
  obtain ⟨us, hus⟩ : ∃ us, us = t.us := ⟨_, rfl⟩
  rw [← hus] at hc hlen HP how h0 h1 h2
  have HOW := (show Hid _ from how)
  have H0 := (show Hid _ from h0)
  have H1 := (show Hid _ from h1)
  have H2 := (show Hid _ from h2)
  clear h how hus h0 h1 h2
  have hc1 : (w.alloc (.cells #[ii 0, ii 0] 54)).cell? ⟨gb, 148, none⟩ = some (.slice (some ⟨pb, 0, none⟩) us.length cap) := (((Fr.refl [] w).alloc _).cell _ _ hgl (by simp)).trans hc
  go_enter Tryz.func176, Tryz.ntmps176
  go_wp2_with fail
  go_loopw [11] (fun i wr => ∃ k : Nat, k ≤ us.length ∧ i = .int .i64 k ∧ wr.heap[w.heap.size]? = some (.cells #[ii ((us.take k).countP (isBase 0) : Nat), ii ((us.take k).countP (isBase 1) : Nat)] 54) ∧ Fr [] w wr) (fun i _ => us.length - (intOf i).toNat)
  case atStart => exact ⟨0, by omega, rfl, hp_new _ _, (Fr.refl _ _).alloc _⟩
  case round =>
    obtain ⟨k, hk, rfl, hb, hfr⟩ := hrel
    have cb0 : wr.cell? ⟨w.heap.size, 0, none⟩ = some (ii ((us.take k).countP (isBase 0) : Nat)) := cell_of_heap hb
    have cb1 : wr.cell? ⟨w.heap.size, 1, none⟩ = some (ii ((us.take k).countP (isBase 1) : Nat)) := cell_of_heap hb
    have z0 : wr.frozen? ⟨w.heap.size, 0, none⟩ = false := frozen_of_heap hb
    have z1 : wr.frozen? ⟨w.heap.size, 1, none⟩ = false := frozen_of_heap hb
    have hsl : w.heap.size < wr.heap.size := lt_of_heap hb
    have ht0 : (us.take k).countP (isBase 0) ≤ 1000 := Nat.le_trans (List.countP_le_length) (by simp; omega)
    have ht1 : (us.take k).countP (isBase 1) ≤ 1000 := Nat.le_trans (List.countP_le_length) (by simp; omega)
    obtain ⟨n0, hn0⟩ : ∃ n, (us.take k).countP (isBase 0) = n := ⟨_, rfl⟩
    obtain ⟨n1, hn1⟩ : ∃ n, (us.take k).countP (isBase 1) = n := ⟨_, rfl⟩
    rw [hn0] at cb0 hb ht0
    rw [hn1] at cb1 hb ht1
    have HB := (show Hid _ from hb)
    by_cases hlt : k < us.length
    · have hlti : (k : Int) < (us.length : Int) := by omega
      obtain ⟨u, hu⟩ : ∃ u, us[k]? = some u := ⟨us[k], List.getElem?_eq_getElem hlt⟩
      obtain ⟨c0, c1, c2, c3, c4, c5, c6, c7, c8, c9, c10⟩ := (Ppl.fr HP.out hfr (by simp)).at hu
      have hou := HOW.out u (List.mem_of_getElem? hu)
      have hs : ∀ o, (us.take (k + 1)).countP (isBase o) = (us.take k).countP (isBase o) + (if isBase o u = true then 1 else 0) := fun o => by
        obtain ⟨hl, rfl⟩ := List.getElem?_eq_some_iff.1 hu
        rw [List.take_succ_eq_append_getElem hl, List.countP_append]
        simp [List.countP_cons]
      have HS0 := (show Hid _ from (hs 0).trans (by rw [hn0]))
      have HS1 := (show Hid _ from (hs 1).trans (by rw [hn1]))
      clear hu hs hn0 hn1 hb
      by_cases hkd : (u.kind == 1) = true
      · rcases hou with ho | ho
        · have HO := (show Hid _ from ho)
          have e0 : Hid (isBase 0 u = true) := by show isBase 0 u = true; unfold isBase; rw [hkd, ho]; rfl
          have e1 : Hid (isBase 1 u = false) := by show isBase 1 u = false; unfold isBase; rw [hkd, ho]; rfl
          rw [ho] at c1
          clear ho
          go_wp2_with fail
          go_roundw
          case rel =>
            refine ⟨k + 1, hlt, by go_num, ?_, (hfr.setCell _ _ (Or.inr (Nat.le_refl _))).alloc _⟩
            rw [hp_old _ _ _ (by simpa [World.setCell] using hsl), set_arrR HB.out, HS0.out, HS1.out, e0.out, e1.out]
            rfl
          case measure => simp [intOf]; omega
        · have HO := (show Hid _ from ho)
          have e0 : Hid (isBase 0 u = false) := by show isBase 0 u = false; unfold isBase; rw [hkd, ho]; rfl
          have e1 : Hid (isBase 1 u = true) := by show isBase 1 u = true; unfold isBase; rw [hkd, ho]; rfl
          rw [ho] at c1
          clear ho
          go_wp2_with fail
          go_roundw
          case rel =>
            refine ⟨k + 1, hlt, by go_num, ?_, (hfr.setCell _ _ (Or.inr (Nat.le_refl _))).alloc _⟩
            rw [hp_old _ _ _ (by simpa [World.setCell] using hsl), set_arrR HB.out, HS0.out, HS1.out, e0.out, e1.out]
            rfl
          case measure => simp [intOf]; omega
      · simp only [Bool.not_eq_true] at hkd
        have e0 : Hid (isBase 0 u = false) := by show isBase 0 u = false; unfold isBase; rw [hkd]; rfl
        have e1 : Hid (isBase 1 u = false) := by show isBase 1 u = false; unfold isBase; rw [hkd]; rfl
        clear hou
        go_wp2_with fail
        go_roundw
        case rel =>
          refine ⟨k + 1, hlt, by go_num, ?_, hfr.alloc _⟩
          rw [hp_old _ _ _ hsl, HB.out, HS0.out, HS1.out, e0.out, e1.out]
          rfl
        case measure => simp [intOf]; omega
    · have hlti : ¬ (k : Int) < (us.length : Int) := by omega
      have hkl : us.take k = us := List.take_of_length_le (by omega)
      rw [hkl] at hn0 hn1
      have a0 := H0.out
      have a1 := H1.out
      have a2 := H2.out
      rw [hn0] at a0 a2
      rw [hn1] at a1 a2
      have b0 : (n0 : Int) ≤ 1 := by omega
      have b1 : (n1 : Int) ≤ 1 := by omega
      have b2 : 1 ≤ (n0 : Int) + (n1 : Int) := by omega
      clear hkl hn0 hn1 hb H0 H1 H2
      go_wp2_with fail
      all_goals
        go_ret
        exact ⟨rfl, hfr⟩
end Go.Proofs.YtapabahhfanmmaaGreatDoor
/- May one of the people be? -/
namespace Go.Proofs.YtapabahhfanmmaaGreatDoor
open Go.RowKit

set_option maxRecDepth 100000 in
set_option maxHeartbeats 2000000 in
theorem standsMine_any (b : Nat) (bd : Nat → Int) (u : U) (c : Cm) (w : World) (hbd : BdAt w b bd) (hb : b < w.heap.size) :
    Calls Tryz.prog 161 #[.pointer (some ⟨b, 0, none⟩), u.val, c.val] w fun e w' => e = .returned (.bool (onB c.x c.y && (bd (ci c.x c.y) != 10))) ∧ Fr [] w w' := by
  have hf : Fr [] w ((w.alloc (.cells u.arr 85)).alloc (.cells #[ii c.unit, ii c.what, ii c.x, ii c.y, ii c.target] 81)) := ((Fr.refl _ _).alloc _).alloc _
  have ht := takesMove_any b bd u c _ (hbd.fr hf (by simp)) (Nat.lt_of_lt_of_le hb hf.size)
  have HT := (show Hid _ from ht)
  clear ht hbd
  go_enter Tryz.func161, Tryz.ntmps161
  go_wp2_with (go_at_call 157; refine Calls.mono HT.out ?_; rintro e w1 ⟨rfl, hf1⟩)
  go_ret
  exact ⟨rfl, hf.then0 hf1⟩

set_option maxRecDepth 100000 in
set_option maxHeartbeats 2000000 in
theorem standsHit_any (b pb cap : Nat) (us : List U) (u : U) (c : Cm) (nx : Int) (w : World) (hg : GV w b pb cap us) (hs : Rise us) (hn : w.cell? ⟨b, 1, none⟩ = some (ii nx)) (h1 : 1 ≤ c.target) (h2 : c.target < nx) (h3 : ∀ v ∈ us, v.id = c.target → v.owner ≠ u.owner) :
    Calls Tryz.prog 164 #[.pointer (some ⟨b, 0, none⟩), u.val, c.val] w fun e w' => e = .returned (.bool true) ∧ Fr [] w w' := by
  have hgl := lt_of_cell hg.c
  have hf0 : Fr [] w ((w.alloc (.cells u.arr 85)).alloc (.cells #[ii c.unit, ii c.what, ii c.x, ii c.y, ii c.target] 81)) := ((Fr.refl _ _).alloc _).alloc _
  have HG := (show Hid _ from hg)
  have H3 : Hid (∀ i : Nat, placeOf us c.target = some i → hitB us u.owner c.target = true) := fun i hi => by
    obtain ⟨v, hv, e⟩ := placeOf_get hi
    unfold hitB
    have : look us c.target = some v := by rw [← e]; exact look_some hs hv
    rw [this]
    simpa using h3 v (List.mem_of_getElem? hv) e
  have HF : Hid (∀ w', Fr [] w w' → Calls Tryz.prog 152 #[.pointer (some ⟨b, 0, none⟩), .int .i64 c.target] w' fun e w'' => ∃ (i : Nat) (f : Bool), e = .returned (.tuple #[.int .i64 i, .bool f]) ∧ Fr [] w' w'' ∧ placeOf us c.target = (if f = true then some i else none)) := fun w' hf => find_pl b pb cap us c.target w' (hg.fr0 hf) hs
  have HT : Hid (∀ w', Fr [] w w' → Calls Tryz.prog 163 #[.pointer (some ⟨b, 0, none⟩), u.val, c.val] w' fun e w'' => e = .returned (.bool (hitB us u.owner c.target)) ∧ Fr [] w' w'') := fun w' hf => takesHit_any b pb cap us u c w' (hg.fr0 hf) hs
  clear hg h3
  go_enter Tryz.func164, Tryz.ntmps164
  go_wp2_with fail
  refine Calls.mono (HF.out _ hf0) ?_
  rintro e w1 ⟨i, f, rfl, hf1, hpl⟩
  dsimp only
  have hw1 := hf0.then0 hf1
  have hU1 := hf1.heap0 (show ((w.alloc (.cells u.arr 85)).alloc (.cells #[ii c.unit, ii c.what, ii c.x, ii c.y, ii c.target] 81)).heap[w.heap.size]? = some (.cells u.arr 85) from (hp_old _ _ _ (by simp)).trans (hp_new _ _))
  have hC1 := hf1.heap0 (hp_new2 w (.cells u.arr 85) (.cells #[ii c.unit, ii c.what, ii c.x, ii c.y, ii c.target] 81))
  have ct : w1.cell? ⟨w.heap.size + 1, 4, none⟩ = some (ii c.target) := cell_of_heap hC1
  have hnx := (hw1.cell _ _ hgl (by simp)).trans hn
  cases f
  · have ht1 : (1 : Int) ≤ c.target := h1
    have ht2 : c.target < nx := h2
    clear hU1 hC1
    go_wp2_with fail
    go_region
    all_goals
      go_wp2_with fail
      go_ret
      exact ⟨rfl, hw1.drewN _⟩
  · rw [if_pos rfl] at hpl
    have ht := H3.out i hpl
    have HT1 := HT.out _ hw1
    rw [ht] at HT1
    obtain ⟨a0, a1, a2, a3, a4, a5, a6, a7, a8, a9, a10⟩ : w1.cell? ⟨w.heap.size, 0, none⟩ = some (ii u.id) ∧ w1.cell? ⟨w.heap.size, 1, none⟩ = some (ii u.owner) ∧ w1.cell? ⟨w.heap.size, 2, none⟩ = some (ii u.kind) ∧ w1.cell? ⟨w.heap.size, 3, none⟩ = some (ii u.x) ∧ w1.cell? ⟨w.heap.size, 4, none⟩ = some (ii u.y) ∧ w1.cell? ⟨w.heap.size, 5, none⟩ = some (ii u.life) ∧ w1.cell? ⟨w.heap.size, 6, none⟩ = some (ii u.load) ∧ w1.cell? ⟨w.heap.size, 7, none⟩ = some (ii u.what) ∧ w1.cell? ⟨w.heap.size, 8, none⟩ = some (ii u.tox) ∧ w1.cell? ⟨w.heap.size, 9, none⟩ = some (ii u.toy) ∧ w1.cell? ⟨w.heap.size, 10, none⟩ = some (ii u.target) :=
      ⟨cell_of_heap hU1, cell_of_heap hU1, cell_of_heap hU1, cell_of_heap hU1, cell_of_heap hU1, cell_of_heap hU1, cell_of_heap hU1, cell_of_heap hU1, cell_of_heap hU1, cell_of_heap hU1, cell_of_heap hU1⟩
    have d0 : w1.cell? ⟨w.heap.size + 1, 0, none⟩ = some (ii c.unit) := cell_of_heap hC1
    have d1 : w1.cell? ⟨w.heap.size + 1, 1, none⟩ = some (ii c.what) := cell_of_heap hC1
    have d2 : w1.cell? ⟨w.heap.size + 1, 2, none⟩ = some (ii c.x) := cell_of_heap hC1
    have d3 : w1.cell? ⟨w.heap.size + 1, 3, none⟩ = some (ii c.y) := cell_of_heap hC1
    clear hU1 hC1 hpl
    go_wp2_with fail
    refine Calls.mono HT1 ?_
    rintro e w2 ⟨rfl, hf2⟩
    dsimp only
    go_wp2_with fail
    go_ret
    exact ⟨rfl, hw1.then0 hf2⟩
end Go.Proofs.YtapabahhfanmmaaGreatDoor
/- May one of the people be: the body. -/
namespace Go.Proofs.YtapabahhfanmmaaGreatDoor
open Go.RowKit

/-- What a kind's cells say of life and load. -/
def kcOf (u : U) : Array Value := if u.kind = 1 then kc1 else if u.kind = 2 then kc2 else kc3
theorem kOf_agg (u : U) : kOf u = .agg (kcOf u) := by unfold kOf kcOf; split; rfl; split <;> rfl
theorem kc_life (u : U) (hkd : u.kind = 1 ∨ u.kind = 2 ∨ u.kind = 3) : (kcOf u)[0]? = some (ii (lifeOf u.kind)) := by
  unfold kcOf lifeOf
  rcases hkd with e | e | e <;> simp [e]
theorem kc_load (u : U) (hkd : u.kind = 1 ∨ u.kind = 2 ∨ u.kind = 3) : (kcOf u)[2]? = some (ii (if u.kind = 2 then 5 else 0)) := by
  unfold kcOf
  rcases hkd with e | e | e <;> simp [e]
theorem kc_size (u : U) : (kcOf u).size = 24 := by unfold kcOf; split; rfl; split <;> rfl
theorem kc_one (u : U) : (kcOf u).all (·.oneCell') = true := by unfold kcOf; split; exact one1; split; exact one2; exact one3

set_option maxRecDepth 100000 in
set_option maxHeartbeats 4000000 in
theorem bodyMay_any (gb : Nat) (u : U) (bd : Nat → Int) (w : World) (hbd : BdAt w gb bd) (hgl : gb < w.heap.size) (hkd : u.kind = 1 ∨ u.kind = 2 ∨ u.kind = 3) (how : u.owner ≤ 1) (hlf : 1 ≤ u.life ∧ u.life ≤ lifeOf u.kind) (hld : u.load ≤ 5 ∧ (0 < u.load → u.kind = 2)) (hon : onB u.x u.y = true) (hgr : bd (ci u.x u.y) = 0) :
    Calls Tryz.prog 210 #[.pointer (some ⟨gb, 0, none⟩), u.val] w fun e w' => e = .returned (.bool true) ∧ Fr [] w w' := by
  have hk := kOf_any u hkd
  rw [kOf_agg] at hk
  have hl1 := kc_life u hkd
  have hl2 := kc_load u hkd
  have hks := kc_size u
  have hko := kc_one u
  have hld2 : u.load ≤ (if u.kind = 2 then 5 else 0) := by
    by_cases e : u.kind = 2
    · rw [if_pos e]; exact hld.1
    · rw [if_neg e]
      by_cases h0 : 0 < u.load
      · exact absurd (hld.2 h0) e
      · omega
  obtain ⟨LL, hLL⟩ : ∃ x, x = (if u.kind = 2 then (5 : Int) else 0) := ⟨_, rfl⟩
  obtain ⟨LF, hLF⟩ : ∃ x, x = lifeOf u.kind := ⟨_, rfl⟩
  obtain ⟨kc, hkc⟩ : ∃ x, x = kcOf u := ⟨_, rfl⟩
  rw [← hkc] at hk hl1 hl2 hks hko
  rw [← hLL] at hl2 hld2
  rw [← hLF] at hl1 hlf
  have hcell := hbd _ (ci_lt hon)
  rw [hgr] at hcell
  obtain ⟨o1, o2, o3, o4⟩ := onB_iff.1 hon
  unfold ci at hcell
  rw [← Nat.add_assoc] at hcell
  have HK := (show Hid _ from hk)
  have HON := (show Hid _ from hon)
  clear hk hkc hLL hLF hbd hgr hld hkd hon
  go_enter Tryz.func210, Tryz.ntmps210
  go_wp2_with fail
  refine Calls.mono (HK.out _) ?_
  rintro e w1 ⟨rfl, hf1⟩
  dsimp only
  have HI : Hid ((Tryz.prog.info? 220).map (·.size) = some kc.size) := by show _ = _; rw [infoKind, hks]
  have HZ : Hid (kz.size = kc.size) := by show 24 = kc.size; rw [hks]
  have HO := (show Hid _ from hko)
  clear hks hko HK
  go_wp2_with (refine wpList_store_row rfl 220 _ _ rfl w1.heap.size kc rfl rfl 220 kz (hp_new w1 _) HI.out HZ.out HO.out ?_)
  obtain ⟨W2, hW2⟩ : ∃ W, W = (w1.alloc (.cells kz 220)).setRow w1.heap.size kc := ⟨_, rfl⟩
  rw [← hW2]
  have hf2 : Fr [] w1 W2 := by rw [hW2]; exact ((Fr.refl _ _).alloc _).setRow _ _ (Or.inr (Nat.le_refl _))
  have hh2 : W2.heap[w1.heap.size]? = some (.cells kc 220) := by rw [hW2]; exact setRow_heap _ _ _ _ _ _ (hp_new _ _)
  have hU1 := hf1.heap0 (hp_new w (.cells u.arr 85))
  have hU2 := hf2.heap0 hU1
  have hf02 : Fr [] w W2 := (((Fr.refl [] w).alloc _).then0 hf1).then0 hf2
  have hb2 := (hf02.cell _ _ hgl (by simp)).trans hcell
  have hwl : w.heap.size < W2.heap.size := lt_of_heap hU2
  have hw1l : w1.heap.size < W2.heap.size := lt_of_heap hh2
  have k0 : W2.cell? ⟨w1.heap.size, 0, none⟩ = some (ii LF) := (cell_of_heap hh2).trans hl1
  have k2 : W2.cell? ⟨w1.heap.size, 2, none⟩ = some (ii LL) := (cell_of_heap hh2).trans hl2
  obtain ⟨kb, hkb⟩ : ∃ x, x = w1.heap.size := ⟨_, rfl⟩
  rw [← hkb] at k0 k2 hw1l ⊢
  clear hW2 hh2 hU1 hf1 hf2 hkb hl1 hl2 HI HZ HO hcell
  have d1 : decide (u.owner ≤ 1) = true := by simpa using how
  have d2 : decide (1 ≤ u.life) = true := by simpa using hlf.1
  have d3 : decide (u.life ≤ LF) = true := by simpa using hlf.2
  have d4 : decide (u.load ≤ LL) = true := by simpa using hld2
  have HS : ∀ w', Fr [] W2 w' → (fun w' : World => (w'.cell? ⟨w.heap.size, 0, none⟩ = some (ii u.id) ∧ w'.cell? ⟨w.heap.size, 1, none⟩ = some (ii u.owner) ∧ w'.cell? ⟨w.heap.size, 2, none⟩ = some (ii u.kind) ∧ w'.cell? ⟨w.heap.size, 3, none⟩ = some (ii u.x) ∧ w'.cell? ⟨w.heap.size, 4, none⟩ = some (ii u.y) ∧ w'.cell? ⟨w.heap.size, 5, none⟩ = some (ii u.life) ∧ w'.cell? ⟨w.heap.size, 6, none⟩ = some (ii u.load) ∧ w'.cell? ⟨w.heap.size, 7, none⟩ = some (ii u.what) ∧ w'.cell? ⟨w.heap.size, 8, none⟩ = some (ii u.tox) ∧ w'.cell? ⟨w.heap.size, 9, none⟩ = some (ii u.toy) ∧ w'.cell? ⟨w.heap.size, 10, none⟩ = some (ii u.target)) ∧ w'.cell? ⟨kb, 0, none⟩ = some (ii LF) ∧ w'.cell? ⟨kb, 2, none⟩ = some (ii LL) ∧ w'.cell? ⟨gb, 4 + u.y.toNat * 12 + u.x.toNat, none⟩ = some (ii 0) ∧ Fr [] W2 w') w' := fun w' hf =>
    ⟨⟨cell_of_heap (hf.heap0 hU2), cell_of_heap (hf.heap0 hU2), cell_of_heap (hf.heap0 hU2), cell_of_heap (hf.heap0 hU2), cell_of_heap (hf.heap0 hU2), cell_of_heap (hf.heap0 hU2), cell_of_heap (hf.heap0 hU2), cell_of_heap (hf.heap0 hU2), cell_of_heap (hf.heap0 hU2), cell_of_heap (hf.heap0 hU2), cell_of_heap (hf.heap0 hU2)⟩, (hf.cell _ _ hw1l (by simp)).trans k0, (hf.cell _ _ hw1l (by simp)).trans k2, (hf.cell _ _ (lt_of_cell hb2) (by simp)).trans hb2, hf⟩
  have K0 := HS _ (Fr.refl [] W2).drew
  clear how hlf hld2 k0 k2 hb2
  go_region_held (fun w' : World => (w'.cell? ⟨w.heap.size, 0, none⟩ = some (ii u.id) ∧ w'.cell? ⟨w.heap.size, 1, none⟩ = some (ii u.owner) ∧ w'.cell? ⟨w.heap.size, 2, none⟩ = some (ii u.kind) ∧ w'.cell? ⟨w.heap.size, 3, none⟩ = some (ii u.x) ∧ w'.cell? ⟨w.heap.size, 4, none⟩ = some (ii u.y) ∧ w'.cell? ⟨w.heap.size, 5, none⟩ = some (ii u.life) ∧ w'.cell? ⟨w.heap.size, 6, none⟩ = some (ii u.load) ∧ w'.cell? ⟨w.heap.size, 7, none⟩ = some (ii u.what) ∧ w'.cell? ⟨w.heap.size, 8, none⟩ = some (ii u.tox) ∧ w'.cell? ⟨w.heap.size, 9, none⟩ = some (ii u.toy) ∧ w'.cell? ⟨w.heap.size, 10, none⟩ = some (ii u.target)) ∧ w'.cell? ⟨kb, 0, none⟩ = some (ii LF) ∧ w'.cell? ⟨kb, 2, none⟩ = some (ii LL) ∧ w'.cell? ⟨gb, 4 + u.y.toNat * 12 + u.x.toNat, none⟩ = some (ii 0) ∧ Fr [] W2 w')
    (first | with_reducible exact K0 | with_reducible exact HS _ hfr2 | with_reducible exact HS _ hfr3)
    (first | (go_at_call 192; refine (cellOf_any u _).mono ?_; rintro e w3 ⟨rfl, hf3⟩; have hfr2 : Fr [] W2 w3 := Fr.then0 (And.right (And.right (And.right (And.right (by assumption))))) hf3) | (go_at_call 201; refine (onBoard_is _ _ _ _ HON.out).mono ?_; rintro e w4 ⟨rfl, hf4⟩; have hfr3 : Fr [] W2 w4 := Fr.then0 (And.right (And.right (And.right (And.right (by assumption))))) hf4))
  all_goals
    go_wp2_with fail
    go_ret
    exact ⟨rfl, hf02.then0 hfr3⟩
end Go.Proofs.YtapabahhfanmmaaGreatDoor
