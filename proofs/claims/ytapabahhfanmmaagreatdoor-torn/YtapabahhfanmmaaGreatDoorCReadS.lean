import Derived.Test.YtapabahhfanmmaaGreatDoorCMaybe4
import Derived.Test.YtapabahhfanmmaaGreatDoorCPlay
import Derived.Deep.RegionWith
import Derived.Test.YtapabahhfanmmaaGreatDoorCReadU
import Derived.Test.YtapabahhfanmmaaGreatDoorCRow12
import Derived.Test.YtapabahhfanmmaaGreatDoorCBuild
import Derived.Test.YtapabahhfanmmaaGreatDoorCTornL
/- May a game be? -/
namespace Go.Proofs.YtapabahhfanmmaaGreatDoor
open Go.RowKit

theorem nodup_len {α : Type} [DecidableEq α] : ∀ (a b : List α), a.Nodup → (∀ x ∈ a, x ∈ b) → a.length ≤ b.length
  | [], _, _, _ => Nat.zero_le _
  | x :: a, b, hn, hs => by
    rw [List.nodup_cons] at hn
    have hx := hs x (by simp)
    have ih := nodup_len a (b.erase x) hn.2 (fun y hy => (List.mem_erase_of_ne (fun e => hn.1 (by rw [← e]; exact hy))).2 (hs y (by simp [hy])))
    rw [List.length_erase_of_mem hx] at ih
    have := List.length_pos_of_mem hx
    simp only [List.length_cons]
    omega
theorem MapF.count {w : World} {r : Nat} {f : Int × Int → Option Value} (h : MapF w r f) (cs : List (Int × Int)) (hnd : cs.Nodup) (hf : ∀ c, (f c).isSome = true ↔ c ∈ cs) (t e ty : TypeId) (ht : Tryz.prog.underlying t = some (.map 159 e)) :
    (Builtin.len_ #[t] ty #[.map (some r)]).run Tryz.prog w = .ok (.int .i64 cs.length) w := by
  obtain ⟨l, es, clock, hb, he, hn, hk⟩ := h
  have h1 : es.size = l.length := by
    have := congrArg List.length he
    simpa using this
  have hm : ∀ c, c ∈ l.map (·.1) ↔ c ∈ cs := fun c => by
    rw [← hf c, ← hk c, Option.isSome_map, List.find?_isSome]
    constructor
    · intro hc
      obtain ⟨p, hp, rfl⟩ := List.mem_map.1 hc
      exact ⟨p, hp, by simp⟩
    · rintro ⟨p, hp, hc⟩
      exact List.mem_map.2 ⟨p, hp, by simpa using hc⟩
  have h2 : l.length = cs.length := by
    have a1 := nodup_len (l.map (·.1)) cs hn (fun x hx => (hm x).1 hx)
    have a2 := nodup_len cs (l.map (·.1)) hnd (fun x hx => (hm x).2 hx)
    rw [List.length_map] at a1 a2
    omega
  rw [← h2, ← h1]
  simp [Builtin.len_, run_underlying ht, MapKept.run_getObj_map hb, goInt, Result.andThen]
theorem cells_nodup {t : T} (h : GOk t) : (t.us.map (fun u => (u.x, u.y))).Nodup := by
  rw [List.Nodup, List.pairwise_map, List.pairwise_iff_getElem]
  intro i j hi hj hij e
  have h1 := (h.all _ (List.getElem_mem hi)).hd
  have h2 := (h.all _ (List.getElem_mem hj)).hd
  have e' : ((t.us[i]'hi).x, (t.us[i]'hi).y) = ((t.us[j]'hj).x, (t.us[j]'hj).y) := e
  rw [e', h2] at h1
  have hr : (t.us[i]'hi).id < (t.us[j]'hj).id := List.pairwise_iff_getElem.1 h.rise i j hi hj hij
  have := Option.some.inj h1
  omega
theorem cells_held {t : T} (h : GOk t) (c : Int × Int) : (heldV (heldOf t.us) c).isSome = true ↔ c ∈ t.us.map (fun u => (u.x, u.y)) := by
  show ((heldOf t.us c).map fun i => ii i).isSome = true ↔ _
  rw [Option.isSome_map]
  constructor
  · intro hc
    obtain ⟨i, hi⟩ := Option.isSome_iff_exists.1 hc
    obtain ⟨u, hu, _, e⟩ := h.hel c i hi
    exact List.mem_map.2 ⟨u, hu, e⟩
  · intro hc
    obtain ⟨u, hu, rfl⟩ := List.mem_map.1 hc
    have := (h.all u hu).hd
    dsimp only at this
    rw [this]
    rfl
/-- An order that stands. -/
theorem stands_ok (gb pb cap : Nat) (t : T) (u : U) (w : World) (h : GS w gb pb cap t) (hok : GOk t) (hu : u ∈ t.us) (hos : OrdS t u) : ∃ n1 n0 n2 n3, Stands gb u w (kOf u) n1 n0 n2 n3 := by
  have huo := hok.all u hu
  have hbd : BdAt w gb t.bd := fun i hi => by
    have := h.cell (4 + i) (by omega)
    rw [this]
    unfold tcell
    rw [if_neg (by omega), if_neg (by omega), if_neg (by omega), if_neg (by omega), if_pos (by omega), show 4 + i - 4 = i by omega]
  have hgl := h.lt
  have hnx : w.cell? ⟨gb, 1, none⟩ = some (ii t.next) := by have := h.cell 1 (by omega); simpa [tcell] using this
  have hkd := huo.kd
  have any0 : ∀ w', Fr [] w w' → Calls Tryz.prog 167 #[.pointer (some ⟨gb, 0, none⟩), u.val, u.cm.val] w' fun e w'' => e = .returned (.bool true) ∧ Fr [] w' w'' := fun w' _ => takesAny_any _ u u.cm w'
  have mv : ∀ (_ : onB u.tox u.toy = true) (_ : t.bd (ci u.tox u.toy) ≠ 10) (w' : World), Fr [] w w' → Calls Tryz.prog 157 #[.pointer (some ⟨gb, 0, none⟩), u.val, u.cm.val] w' fun e w'' => e = .returned (.bool true) ∧ Fr [] w' w'' := fun h1 h2 w' hf => by
    have := takesMove_any gb t.bd u u.cm w' (hbd.fr hf (by simp)) (Nat.lt_of_lt_of_le hgl hf.size)
    have e : (onB u.cm.x u.cm.y && (t.bd (ci u.cm.x u.cm.y) != 10)) = true := by show (onB u.tox u.toy && (t.bd (ci u.tox u.toy) != 10)) = true; simp [h1, h2]
    rw [e] at this
    exact this
  rcases hos with ⟨a1, a2, a3, a4⟩ | ⟨a1, a2, a3, a4⟩ | ⟨a1, a2, a3, a4, a5, a6⟩ | ⟨a1, a2, a3⟩
  · have k0 : ∀ w', Calls Tryz.prog 168 #[u.cm.val] w' fun e w'' => e = .returned u.cm.val ∧ Fr [] w' w'' := fun w' => by
      have := keepsNothing_any u.cm w'
      have e : (⟨u.cm.unit, u.cm.what, 0, 0, 0⟩ : Cm) = u.cm := by show (⟨u.id, u.what, 0, 0, 0⟩ : Cm) = ⟨u.id, u.what, u.tox, u.toy, u.target⟩; rw [a2, a3, a4]
      rw [e] at this
      exact this
    unfold kOf
    rcases hkd with ek | ek | ek
    · rw [if_pos ek]; exact ⟨_, _, _, _, ⟨fun w => by rw [a1]; exact skill_10 w, any0, k0, fun _ _ => by kernel_rfl, fun _ _ => by kernel_rfl⟩⟩
    · rw [if_neg (by omega), if_pos ek]; exact ⟨_, _, _, _, ⟨fun w => by rw [a1]; exact skill_20 w, any0, k0, fun _ _ => by kernel_rfl, fun _ _ => by kernel_rfl⟩⟩
    · rw [if_neg (by omega), if_neg (by omega)]; exact ⟨_, _, _, _, ⟨fun w => by rw [a1]; exact skill_30 w, any0, k0, fun _ _ => by kernel_rfl, fun _ _ => by kernel_rfl⟩⟩
  · have kc : ∀ w', Calls Tryz.prog 158 #[u.cm.val] w' fun e w'' => e = .returned u.cm.val ∧ Fr [] w' w'' := fun w' => by
      have := keepsCell_any u.cm w'
      have e : (⟨u.cm.unit, u.cm.what, u.cm.x, u.cm.y, 0⟩ : Cm) = u.cm := by show (⟨u.id, u.what, u.tox, u.toy, 0⟩ : Cm) = ⟨u.id, u.what, u.tox, u.toy, u.target⟩; rw [a4]
      rw [e] at this
      exact this
    have hod := huo.od
    unfold OrdOk at hod
    unfold kOf
    rcases a1 with e | e
    · rcases (show u.kind = 2 ∨ u.kind = 3 by omega) with ek | ek
      · rw [if_neg (by omega), if_pos ek]; exact ⟨_, _, _, _, ⟨fun w => by rw [e]; exact skill_21 w, mv a2 a3, kc, fun _ _ => by kernel_rfl, fun _ _ => by kernel_rfl⟩⟩
      · rw [if_neg (by omega), if_neg (by omega)]; exact ⟨_, _, _, _, ⟨fun w => by rw [e]; exact skill_31 w, mv a2 a3, kc, fun _ _ => by kernel_rfl, fun _ _ => by kernel_rfl⟩⟩
    · have ek : u.kind = 2 := by omega
      rw [if_neg (by omega), if_pos ek]
      refine ⟨_, _, _, _, ⟨fun w => by rw [e]; exact skill_22 w, fun w' hf => ?_, kc, fun _ _ => by kernel_rfl, fun _ _ => by kernel_rfl⟩⟩
      have := standsMine_any gb t.bd u u.cm w' (hbd.fr hf (by simp)) (Nat.lt_of_lt_of_le hgl hf.size)
      have e : (onB u.cm.x u.cm.y && (t.bd (ci u.cm.x u.cm.y) != 10)) = true := by show (onB u.tox u.toy && (t.bd (ci u.tox u.toy) != 10)) = true; simp [a2, a3]
      rw [e] at this
      exact this
  · have hod := huo.od
    unfold OrdOk at hod
    have ek : u.kind = 3 := by omega
    unfold kOf
    rw [if_neg (by omega), if_neg (by omega)]
    refine ⟨_, _, _, _, ⟨fun w => by rw [a1]; exact skill_33 w, fun w' hf => ?_, fun w' => ?_, fun _ _ => by kernel_rfl, fun _ _ => by kernel_rfl⟩⟩
    · exact standsHit_any gb pb cap t.us u u.cm t.next w' (h.gv.fr0 hf) hok.rise ((hf.cell _ _ hgl (by simp)).trans hnx) a4 a5 a6
    · have := keepsTarget_any u.cm w'
      have e : (⟨u.cm.unit, u.cm.what, 0, 0, u.cm.target⟩ : Cm) = u.cm := by show (⟨u.id, u.what, 0, 0, u.target⟩ : Cm) = ⟨u.id, u.what, u.tox, u.toy, u.target⟩; rw [a2, a3]
      rw [e] at this
      exact this
  · have hod := huo.od
    unfold OrdOk at hod
    have ek : u.kind = 1 := by omega
    unfold kOf
    rw [if_pos ek]
    refine ⟨_, _, _, _, ⟨fun w => by rw [a1]; exact skill_14 w, fun w' _ => ?_, fun w' => ?_, fun _ _ => by kernel_rfl, fun _ _ => by kernel_rfl⟩⟩
    · have := takesBuild_any (.pointer (some ⟨gb, 0, none⟩)) u u.cm w'
      have e : (u.cm.x == 2 || u.cm.x == 3) = true := by show (u.tox == 2 || u.tox == 3) = true; simp; omega
      rw [e] at this
      exact this
    · have := keepsKind_any u.cm w'
      have e : (⟨u.cm.unit, u.cm.what, u.cm.x, 0, 0⟩ : Cm) = u.cm := by show (⟨u.id, u.what, u.tox, 0, 0⟩ : Cm) = ⟨u.id, u.what, u.tox, u.toy, u.target⟩; rw [a2, a3]
      rw [e] at this
      exact this
theorem order_ok (gb pb cap : Nat) (t : T) (u : U) (w : World) (h : GS w gb pb cap t) (hok : GOk t) (hu : u ∈ t.us) (hos : OrdS t u) :
    Calls Tryz.prog 211 #[.pointer (some ⟨gb, 0, none⟩), u.val] w fun e w' => e = .returned (.bool true) ∧ Fr [] w w' := by
  obtain ⟨n1, n0, n2, n3, hst⟩ := stands_ok gb pb cap t u w h hok hu hos
  exact orderMay_gen gb u n1 n0 n2 n3 (kOf u) w (kOf_any u (hok.all u hu).kd) hst
theorem body_ok (gb pb cap : Nat) (t : T) (u : U) (w : World) (h : GS w gb pb cap t) (hok : GOk t) (hu : u ∈ t.us) :
    Calls Tryz.prog 210 #[.pointer (some ⟨gb, 0, none⟩), u.val] w fun e w' => e = .returned (.bool true) ∧ Fr [] w w' := by
  have huo := hok.all u hu
  have hbd : BdAt w gb t.bd := fun i hi => by
    have := h.cell (4 + i) (by omega)
    rw [this]
    unfold tcell
    rw [if_neg (by omega), if_neg (by omega), if_neg (by omega), if_neg (by omega), if_pos (by omega), show 4 + i - 4 = i by omega]
  exact bodyMay_any gb u t.bd w hbd h.lt huo.kd (by have := huo.ow; omega) huo.lf ⟨huo.ld.2.1, huo.ld.2.2⟩ huo.on huo.gr

set_option maxRecDepth 100000 in
set_option maxHeartbeats 4000000 in
theorem peopleMay_any (gb pb cap : Nat) (t : T) (w : World) (h : GS w gb pb cap t) (hok : GOk t) (hos : OS t) :
    Calls Tryz.prog 175 #[.pointer (some ⟨gb, 0, none⟩)] w fun e w' => e = .returned (.bool true) ∧ Fr [] w w' := by
  have hc := h.gv.c
  have hlen := h.len
  have hgl := h.lt
  have HP : Hid (Ppl w pb t.us) := h.row.ppl
  have HB : Hid (∀ u ∈ t.us, ∀ w', Fr [] w w' → Calls Tryz.prog 210 #[.pointer (some ⟨gb, 0, none⟩), u.val] w' fun e w'' => e = .returned (.bool true) ∧ Fr [] w' w'') := fun u hu w' hf => body_ok gb pb cap t u w' (h.fr hf (by simp) (by simp)) hok hu
  have HO : Hid (∀ u ∈ t.us, ∀ w', Fr [] w w' → Calls Tryz.prog 211 #[.pointer (some ⟨gb, 0, none⟩), u.val] w' fun e w'' => e = .returned (.bool true) ∧ Fr [] w' w'') := fun u hu w' hf => order_ok gb pb cap t u w' (h.fr hf (by simp) (by simp)) hok hu (hos u hu)
  have HCE : Hid (∀ w', Fr [] w w' → Calls Tryz.prog 149 #[.slice (some ⟨pb, 0, none⟩) t.us.length cap] w' fun e w'' => ∃ hb, e = .returned (.map (some hb)) ∧ MapF w'' hb (heldV (heldOf t.us)) ∧ Fr [] w' w'') := fun w' hf => by
    refine Calls.mono (cellsOf_any pb cap t.us w' (h.row.fr hf (by simp)) h.len) ?_
    rintro e w1 ⟨hb, rfl, _, hm, hf1⟩
    exact ⟨hb, rfl, hm, hf1⟩
  have HN : Hid (∀ w' hb, MapF w' hb (heldV (heldOf t.us)) → ∀ ty, (Builtin.len_ #[205] ty #[.map (some hb)]).run Tryz.prog w' = .ok (.int .i64 t.us.length) w') := fun w' hb hm ty => by
    have := hm.count (t.us.map (fun u => (u.x, u.y))) (cells_nodup hok) (cells_held hok) 205 3 ty Tryz.underlying205
    rw [List.length_map] at this
    exact this
  obtain ⟨us, hus⟩ : ∃ us, us = t.us := ⟨_, rfl⟩
  rw [← hus] at hc hlen HP HB HO HCE HN
  clear h hok hos hus
  go_enter Tryz.func175, Tryz.ntmps175
  go_wp2_with fail
  go_loopw [10] (fun i wr => ∃ k : Nat, k ≤ us.length ∧ i = .int .i64 k ∧ Fr [] w wr) (fun i _ => us.length - (intOf i).toNat)
  case atStart => exact ⟨0, by omega, rfl, Fr.refl _ _⟩
  case round =>
    obtain ⟨k, hk, rfl, hfr⟩ := hrel
    by_cases hlt : k < us.length
    · have hlti : (k : Int) < (us.length : Int) := by omega
      obtain ⟨u, hu⟩ : ∃ u, us[k]? = some u := ⟨us[k], List.getElem?_eq_getElem hlt⟩
      obtain ⟨c0, c1, c2, c3, c4, c5, c6, c7, c8, c9, c10⟩ := (Ppl.fr HP.out hfr (by simp)).at hu
      have hb1 := HB.out u (List.mem_of_getElem? hu)
      have ho1 := HO.out u (List.mem_of_getElem? hu)
      have HB1 := (show Hid _ from hb1)
      have HO1 := (show Hid _ from ho1)
      clear hu hb1 ho1
      go_wp2_with fail
      refine Calls.mono (HB1.out _ (hfr.alloc _)) ?_
      rintro e w1 ⟨rfl, hf1⟩
      dsimp only
      have hw1 := (hfr.alloc (.cells u.arr 85)).then0 hf1
      have hU1 := hf1.heap0 (hp_new wr (.cells u.arr 85))
      obtain ⟨a0, a1, a2, a3, a4, a5, a6, a7, a8, a9, a10⟩ : w1.cell? ⟨wr.heap.size, 0, none⟩ = some (ii u.id) ∧ w1.cell? ⟨wr.heap.size, 1, none⟩ = some (ii u.owner) ∧ w1.cell? ⟨wr.heap.size, 2, none⟩ = some (ii u.kind) ∧ w1.cell? ⟨wr.heap.size, 3, none⟩ = some (ii u.x) ∧ w1.cell? ⟨wr.heap.size, 4, none⟩ = some (ii u.y) ∧ w1.cell? ⟨wr.heap.size, 5, none⟩ = some (ii u.life) ∧ w1.cell? ⟨wr.heap.size, 6, none⟩ = some (ii u.load) ∧ w1.cell? ⟨wr.heap.size, 7, none⟩ = some (ii u.what) ∧ w1.cell? ⟨wr.heap.size, 8, none⟩ = some (ii u.tox) ∧ w1.cell? ⟨wr.heap.size, 9, none⟩ = some (ii u.toy) ∧ w1.cell? ⟨wr.heap.size, 10, none⟩ = some (ii u.target) :=
        ⟨cell_of_heap hU1, cell_of_heap hU1, cell_of_heap hU1, cell_of_heap hU1, cell_of_heap hU1, cell_of_heap hU1, cell_of_heap hU1, cell_of_heap hU1, cell_of_heap hU1, cell_of_heap hU1, cell_of_heap hU1⟩
      clear hU1 c0 c1 c2 c3 c4 c5 c6 c7 c8 c9 c10
      go_wp2_with fail
      refine Calls.mono (HO1.out _ hw1) ?_
      rintro e w2 ⟨rfl, hf2⟩
      dsimp only
      go_wp2_with fail
      go_roundw
      case rel => exact ⟨k + 1, hlt, by go_num, hw1.then0 hf2⟩
      case measure => simp [intOf]; omega
    · have hlti : ¬ (k : Int) < (us.length : Int) := by omega
      have hcr := (hfr.cell _ _ hgl (by simp)).trans hc
      have hgr : gb < wr.heap.size := Nat.lt_of_lt_of_le hgl hfr.size
      clear HB HO HP
      go_wp2_with fail
      go_region_with (first | (go_at_call 149; refine Calls.mono (HCE.out _ ?_) ?_; exact hfr.drew; rintro e w1 ⟨hb, rfl, hm, hf1⟩; have hln := HN.out w1 hb hm; have hc1 := ((hfr.drew.then0 hf1).cell _ _ hgl (by simp)).trans hc))
      all_goals
        go_wp2_with fail
        go_ret
        exact ⟨rfl, hfr.drew.then0 hf1⟩

set_option maxRecDepth 100000 in
set_option maxHeartbeats 4000000 in
theorem mayBe_any (gb pb cap : Nat) (t : T) (w : World) (h : GS w gb pb cap t) (hok : GOk t) (hos : OS t) :
    Calls Tryz.prog 133 #[.pointer (some ⟨gb, 0, none⟩)] w fun e w' => e = .returned (.bool true) ∧ Fr [] w w' := by
  have H1 : Hid (∀ w', Fr [] w w' → Calls Tryz.prog 173 #[.pointer (some ⟨gb, 0, none⟩)] w' fun e w'' => e = .returned (.bool true) ∧ Fr [] w' w'') := fun w' hf => boardMay_any gb pb cap t w' (h.fr hf (by simp) (by simp)) (fun i hi => (hok.bd i hi).2)
  have H2 : Hid (∀ w', Fr [] w w' → Calls Tryz.prog 174 #[.pointer (some ⟨gb, 0, none⟩)] w' fun e w'' => e = .returned (.bool true) ∧ Fr [] w' w'') := fun w' hf => idsMay_any gb pb cap t w' (h.fr hf (by simp) (by simp)) hok.rise (fun u hu => (hok.all u hu).id)
  have H3 : Hid (∀ w', Fr [] w w' → Calls Tryz.prog 175 #[.pointer (some ⟨gb, 0, none⟩)] w' fun e w'' => e = .returned (.bool true) ∧ Fr [] w' w'') := fun w' hf => peopleMay_any gb pb cap t w' (h.fr hf (by simp) (by simp)) hok hos
  have H4 : Hid (∀ w', Fr [] w w' → Calls Tryz.prog 176 #[.pointer (some ⟨gb, 0, none⟩)] w' fun e w'' => e = .returned (.bool true) ∧ Fr [] w' w'') := fun w' hf => basesMay_any gb pb cap t w' (h.fr hf (by simp) (by simp)) (fun u hu => (hok.all u hu).ow) hok.b0 hok.b1 hok.bs
  clear h hok hos
  go_enter Tryz.func133, Tryz.ntmps133
  go_wp2_with fail
  refine Calls.mono (H1.out _ (Fr.refl _ _)) ?_
  rintro e w1 ⟨rfl, hf1⟩
  dsimp only
  go_wp2_with fail
  refine Calls.mono (H2.out _ hf1) ?_
  rintro e w2 ⟨rfl, hf2⟩
  dsimp only
  have hw2 := hf1.then0 hf2
  go_wp2_with fail
  refine Calls.mono (H3.out _ hw2) ?_
  rintro e w3 ⟨rfl, hf3⟩
  dsimp only
  have hw3 := hw2.then0 hf3
  go_wp2_with fail
  refine Calls.mono (H4.out _ hw3) ?_
  rintro e w4 ⟨rfl, hf4⟩
  dsimp only
  go_wp2_with fail
  go_ret
  exact ⟨rfl, hw3.then0 hf4⟩
end Go.Proofs.YtapabahhfanmmaaGreatDoor
/- A state is read. -/
namespace Go.Proofs.YtapabahhfanmmaaGreatDoor
open Go.RowKit

def zeroT : T := ⟨0, 0, 0, 0, fun _ => 0, [], fun _ => none⟩
/-- The game as far as it has been read: s numbers of the head, m cells of the board, k people. -/
def rdT (t : T) (s m k : Nat) : T := ⟨if 0 < s then t.turn else 0, if 3 < s then t.next else 0, if 1 < s then t.s0 else 0, if 2 < s then t.s1 else 0, fun j => if j < m then t.bd j else 0, t.us.take k, fun _ => none⟩
theorem zc_game : Tryz.zeroCells90 = (gameL zeroT (.slice none 0 0)).toArray := by kernel_rfl
theorem rd_zero (t : T) (pv : Value) : gameL zeroT pv = gameL (rdT t 0 0 0) pv := by
  unfold gameL
  apply List.map_congr_left
  intro j _
  unfold tcell rdT zeroT
  simp
theorem rd_put (t : T) (s s' m m' : Nat) (pv : Value) (k : Nat) (h : ∀ j, j < 149 → j ≠ k → tcell (rdT t s m 0) pv 0 0 j = tcell (rdT t s' m' 0) pv 0 0 j) : ∀ j, j < 149 → j ≠ k → tcell (rdT t s m 0) pv 0 0 j = tcell (rdT t s' m' 0) pv 0 0 j := h
theorem rd_p0 (t : T) (pv : Value) : ∀ j, j < 149 → j ≠ 0 → tcell (rdT t 0 0 0) pv 0 0 j = tcell (rdT t 1 0 0) pv 0 0 j := fun j _ hn => by
  unfold tcell rdT; simp [hn]
theorem rd_p2 (t : T) (pv : Value) : ∀ j, j < 149 → j ≠ 2 → tcell (rdT t 1 0 0) pv 0 0 j = tcell (rdT t 2 0 0) pv 0 0 j := fun j _ hn => by
  unfold tcell rdT; simp [hn]
theorem rd_p3 (t : T) (pv : Value) : ∀ j, j < 149 → j ≠ 3 → tcell (rdT t 2 0 0) pv 0 0 j = tcell (rdT t 3 0 0) pv 0 0 j := fun j _ hn => by
  unfold tcell rdT; simp [hn]
theorem rd_p1 (t : T) (pv : Value) : ∀ j, j < 149 → j ≠ 1 → tcell (rdT t 3 0 0) pv 0 0 j = tcell (rdT t 4 0 0) pv 0 0 j := fun j _ hn => by
  unfold tcell rdT; simp [hn]
theorem rd_pb (t : T) (pv : Value) (m : Nat) : ∀ j, j < 149 → j ≠ 4 + m → tcell (rdT t 4 m 0) pv 0 0 j = tcell (rdT t 4 (m + 1) 0) pv 0 0 j := fun j _ hn => by
  unfold tcell rdT
  simp only
  split; rfl
  split; rfl
  split; rfl
  split; rfl
  split
  · by_cases h : j - 4 < m
    · rw [if_pos h, if_pos (by omega)]
    · rw [if_neg h, if_neg (by omega)]
  · rfl
theorem rd_pp (t : T) (pv pv' : Value) (k k' : Nat) : ∀ j, j < 149 → j ≠ 148 → tcell (rdT t 4 144 k) pv 0 0 j = tcell (rdT t 4 144 k') pv' 0 0 j := fun j _ hn => by
  unfold tcell rdT
  simp [hn]
theorem rd_end (t : T) (pv : Value) (k : Nat) : ∀ j, j < 149 → tcell (rdT t 4 144 k) pv 0 0 j = tcell t pv 0 0 j := fun j hj => by
  unfold tcell rdT
  simp only
  split; rfl
  split; rfl
  split; rfl
  split; rfl
  split
  · rw [if_pos (by omega)]
  · rfl
theorem gameL_set (t t' : T) (pv pv' : Value) (k : Nat) (v : Value) (hk : k < 149) (he : ∀ j, j < 149 → j ≠ k → tcell t pv 0 0 j = tcell t' pv' 0 0 j) (hv : tcell t' pv' 0 0 k = v) : (gameL t pv).toArray.setIfInBounds k v = (gameL t' pv').toArray := by
  apply Array.ext_getElem?
  intro i
  rw [Array.getElem?_setIfInBounds]
  by_cases e : k = i
  · subst e
    rw [if_pos rfl, if_pos (by simp [gameL]; omega)]
    simp [gameL, List.getElem?_range hk, hv]
  · rw [if_neg e]
    simp only [gameL, List.getElem?_toArray, List.getElem?_map]
    by_cases hi : i < 149
    · rw [List.getElem?_range hi]
      simp only [Option.map_some]
      rw [he i hi (fun h => e h.symm)]
    · rw [List.getElem?_eq_none (by simp; omega)]
      rfl
structure RJ (w0 : World) (l : List UInt8) (rb A : Nat) (n : Nat) (t : T) (pv : Value) (w : World) : Prop where
  rd : RdAt w rb (rdN l false n).1 (rdN l false n).2
  g : w.heap[A]? = some (.cells (gameL t pv).toArray 90)
  fr : Fr [rb, A] w0 w
theorem RJ.cell {w0 : World} {l : List UInt8} {rb A n : Nat} {t : T} {pv : Value} {w : World} (h : RJ w0 l rb A n t pv w) (k : Nat) (hk : k < 149) : w.cell? ⟨A, k, none⟩ = some (tcell t pv 0 0 k) := by
  rw [cell_of_heap h.g]
  simp [gameL, List.getElem?_range hk]
theorem RJ.fz {w0 : World} {l : List UInt8} {rb A n : Nat} {t : T} {pv : Value} {w : World} (h : RJ w0 l rb A n t pv w) (k : Nat) : w.frozen? ⟨A, k, none⟩ = false := frozen_of_heap h.g
theorem RJ.put {w0 : World} {l : List UInt8} {rb A n : Nat} {t t' : T} {pv pv' : Value} {w : World} (h : RJ w0 l rb A n t pv w) (hn : rb ≠ A) (k : Nat) (v : Value) (hk : k < 149) (he : ∀ j, j < 149 → j ≠ k → tcell t pv 0 0 j = tcell t' pv' 0 0 j) (hv : tcell t' pv' 0 0 k = v) : RJ w0 l rb A n t' pv' (w.setCell ⟨A, k, none⟩ v) := by
  refine ⟨⟨?_⟩, ?_, h.fr.setCell _ _ (by simp)⟩
  · rw [Below.heap_setCell _ _ _ _ hn]; exact h.rd.all
  · rw [set_arrR h.g, gameL_set t t' pv pv' k v hk he hv]
theorem RJ.next {w0 : World} {l : List UInt8} {rb A n : Nat} {t : T} {pv : Value} {w : World} (h : RJ w0 l rb A n t pv w) (hn : rb ≠ A) (hl : l.length ≤ 1000000) :
    Calls Tryz.prog 124 #[.pointer (some ⟨rb, 0, none⟩)] w fun e w' => e = .returned (.int .i64 (nth l false n)) ∧ RJ w0 l rb A (n + 1) t pv w' := by
  refine Calls.mono (next_nth rb l false n w h.rd hl) ?_
  rintro e w1 ⟨rfl, h1, h2⟩
  exact ⟨rfl, h1, h2.heap h.g (by simp; exact fun e => hn e.symm), h.fr.trans h2 (by simp)⟩

theorem RJ.unit {w0 : World} {l : List UInt8} {rb A n : Nat} {t : T} {pv : Value} {w : World} (h : RJ w0 l rb A n t pv w) (hn : rb ≠ A) (hl : l.length ≤ 1000000) {u : U} (hu : unitOf (fun f => nth l false (n + f)) = u) :
    Calls Tryz.prog 132 #[.pointer (some ⟨rb, 0, none⟩)] w fun e w' => e = .returned u.val ∧ RJ w0 l rb A (n + 11) t pv w' ∧ Fr [rb] w w' := by
  refine Calls.mono (readUnit_any rb _ _ w h.rd (Nat.le_trans (rdN_len l false n) hl)) ?_
  rintro e w1 ⟨rfl, h1, h2⟩
  rw [rdN_add] at h1
  refine ⟨?_, ⟨h1, h2.heap h.g (by simp; exact fun e => hn e.symm), h.fr.trans h2 (by simp)⟩, h2⟩
  rw [show nth (rdN l false n).1 (rdN l false n).2 = fun f => nth l false (n + f) from funext fun f => nth_add l false n f, hu]
theorem RJ.at148 {w0 : World} {l : List UInt8} {rb A n : Nat} {t : T} {pv : Value} {w : World} (h : RJ w0 l rb A n t pv w) : w.cell? ⟨A, 148, none⟩ = some pv := by
  have := h.cell 148 (by omega)
  simpa [tcell] using this
theorem new_cells (u : U) (W : World) (j : Nat) (v : Value) (hu : u.cells[j]? = some v) : (W.alloc (.cells u.arr 85)).cell? ((⟨W.heap.size, 0, none⟩ : Addr).add j) = some v := by
  rw [Addr.add_lit, Nat.zero_add, cell_of_heap (hp_new W _)]
  simpa using hu

set_option maxRecDepth 100000 in
set_option maxHeartbeats 8000000 in
theorem readState_ok (t : T) (l : List UInt8) (w : World) (hrd : Reads l t) (hl : l.length ≤ 1000000) (hok : GOk t) (hos : OS t) (hw0 : 0 < w.heap.size) :
    Calls Tryz.prog 90 #[.string ⟨l.toArray⟩] w fun e w' => ∃ pb cap, e = .returned (.tuple #[.agg (gameL t (.slice (some ⟨pb, 0, none⟩) t.us.length cap)).toArray, .bool true]) ∧ PRow w' pb cap t.us ∧ w.heap.size ≤ pb ∧ Fr [] w w' := by
  have HNX : Hid (∀ {w0 : World} {rb A n : Nat} {t : T} {pv : Value} {w : World} (x : Int), nth l false n = x → RJ w0 l rb A n t pv w → rb ≠ A → Calls Tryz.prog 124 #[.pointer (some ⟨rb, 0, none⟩)] w fun e w' => e = .returned (.int .i64 x) ∧ RJ w0 l rb A (n + 1) t pv w') := fun x hx h hn => hx ▸ h.next hn hl
  have HRD := (show Hid _ from hrd)
  clear hrd
  go_enter Tryz.func90, Tryz.ntmps90
  go_wp2_with fail
  have hwa : Fr [] w (w.alloc (.cells Tryz.zeroCells90 90)) := (Fr.refl _ _).alloc _
  have hwr := hp_new w (.cells Tryz.zeroCells90 90)
  refine Calls.mono (newReader_any l _) ?_
  rintro e w1 ⟨rb, rfl, hrb, hrd, hf1⟩
  dsimp only
  have hw1 := hwa.then0 hf1
  have hR1 := hf1.heap0 hwr
  have hrl := hrd.lt
  go_wp2_with fail
  obtain ⟨W2, hW2⟩ : ∃ W, W = w1.alloc (.cells Tryz.zeroCells90 90) := ⟨_, rfl⟩
  rw [← hW2]
  obtain ⟨A, hA⟩ : ∃ A, A = w1.heap.size := ⟨_, rfl⟩
  rw [← hA]
  have hne : rb ≠ A := by omega
  have hf2 : Fr [] w1 W2 := by rw [hW2]; exact (Fr.refl _ _).alloc _
  have j0 : RJ W2 l rb A 0 (rdT t 0 0 0) (.slice none 0 0) W2 := ⟨hrd.fr hf2 (by simp), by rw [hA, hW2, hp_new, zc_game, rd_zero t], Fr.refl _ _⟩
  have hR2 := hf2.heap0 hR1
  have hw2 := hw1.then0 hf2
  have hwA : w.heap.size < A := by have := hf1.size; simp at this; omega
  have hwrb : w.heap.size < rb := by simp at hrb; omega
  have HA := (show Hid _ from hA)
  have HRL : Hid (rb < w1.heap.size) := hrl
  have HAL : Hid (w1.heap.size < W2.heap.size) := by show w1.heap.size < W2.heap.size; rw [hW2]; simp
  clear hW2 hA hrb hrd hf1 hwr hR1 hrl hf2 hw1 hwa
  refine Calls.mono (HNX.out _ HRD.out.n0 j0 hne) ?_
  rintro e w3 ⟨rfl, j1⟩
  dsimp only
  have c0 := j1.cell 0 (by omega)
  have z0 := j1.fz 0
  clear j0
  go_wp2_with fail
  have j2 := j1.put (t' := rdT t 1 0 0) (pv' := .slice none 0 0) hne 0 (.int .i64 t.turn) (by omega) (rd_p0 t _) rfl
  obtain ⟨w4, hw4⟩ : ∃ W, W = w3.setCell ⟨A, 0, none⟩ (.int .i64 t.turn) := ⟨_, rfl⟩
  rw [← hw4] at j2 ⊢
  clear hw4 c0 z0 j1
  refine Calls.mono (HNX.out _ HRD.out.n1 j2 hne) ?_
  rintro e w5 ⟨rfl, j3⟩
  dsimp only
  clear j2
  go_wp2_with fail
  refine Calls.mono (HNX.out _ HRD.out.n2 j3 hne) ?_
  rintro e w6 ⟨rfl, j4⟩
  dsimp only
  clear j3
  go_wp2_with fail
  refine Calls.mono (HNX.out _ HRD.out.n3 j4 hne) ?_
  rintro e w7 ⟨rfl, j5⟩
  dsimp only
  clear j4
  have c2 := j5.cell 2 (by omega)
  have c3 := j5.cell 3 (by omega)
  have z2 := j5.fz 2
  have z3 := j5.fz 3
  go_wp2_with fail
  have j6 := (j5.put (t' := rdT t 2 0 0) (pv' := .slice none 0 0) hne 2 (.int .i64 t.s0) (by omega) (rd_p2 t _) rfl).put (t' := rdT t 3 0 0) (pv' := .slice none 0 0) hne 3 (.int .i64 t.s1) (by omega) (rd_p3 t _) rfl
  obtain ⟨w8, hw8⟩ : ∃ W, W = (w7.setCell ⟨A, 2, none⟩ (.int .i64 t.s0)).setCell ⟨A, 3, none⟩ (.int .i64 t.s1) := ⟨_, rfl⟩
  rw [← hw8] at j6 ⊢
  clear hw8 c2 c3 z2 z3 j5
  refine Calls.mono (HNX.out _ HRD.out.n4 j6 hne) ?_
  rintro e w9 ⟨rfl, j7⟩
  dsimp only
  clear j6
  have c1 := j7.cell 1 (by omega)
  have z1 := j7.fz 1
  go_wp2_with fail
  have j8 := j7.put (t' := rdT t 4 0 0) (pv' := .slice none 0 0) hne 1 (.int .i64 t.next) (by omega) (rd_p1 t _) rfl
  obtain ⟨w10, hw10⟩ : ∃ W, W = w9.setCell ⟨A, 1, none⟩ (.int .i64 t.next) := ⟨_, rfl⟩
  rw [← hw10] at j8 ⊢
  clear hw10 c1 z1 j7
  go_loopw [26] (fun i wr => ∃ y : Nat, y ≤ 12 ∧ i = .int .i64 y ∧ RJ W2 l rb A (5 + y * 12) (rdT t 4 (y * 12) 0) (.slice none 0 0) wr) (fun i _ => 12 - (intOf i).toNat)
  case atStart => exact ⟨0, by omega, rfl, j8⟩
  case round =>
    obtain ⟨y, hy12, rfl, hJ⟩ := hrel
    clear j8
    by_cases hyt : y < 12
    · have hyti : (y : Int) < 12 := by omega
      have HJ := (show Hid _ from hJ)
      clear hJ
      go_wp2_with fail
      obtain ⟨wo, hwo⟩ : ∃ x, x = wr := ⟨_, rfl⟩
      rw [← hwo] at HJ ⊢
      clear hwo
      go_loopw [29] (fun i wr => ∃ x : Nat, x ≤ 12 ∧ i = .int .i64 x ∧ RJ W2 l rb A (5 + (y * 12 + x)) (rdT t 4 (y * 12 + x) 0) (.slice none 0 0) wr) (fun i _ => 12 - (intOf i).toNat)
      case atStart => exact ⟨0, by omega, rfl, HJ.out⟩
      case round =>
        obtain ⟨x, hx12, rfl, hJx⟩ := hrel
        by_cases hxt : x < 12
        · have hxti : (x : Int) < 12 := by omega
          have hJd : RJ W2 l rb A (5 + (y * 12 + x)) (rdT t 4 (y * 12 + x) 0) (.slice none 0 0) wr.drew := ⟨⟨hJx.rd.all⟩, hJx.g, hJx.fr.drew⟩
          have HJD := (show Hid _ from hJd)
          have hnb := HRD.out.nb (y * 12 + x) (by omega)
          have HNB := (show Hid _ from hnb)
          clear hJx hJd hnb
          go_wp2_with fail
          go_region_with (first | (go_at_call 124; refine Calls.mono (HNX.out _ HNB.out HJD.out hne) ?_; rintro e w3 ⟨rfl, jn⟩; have cn := jn.cell (4 + (y * 12 + x)) (by omega); have zn := jn.fz (4 + (y * 12 + x)); rw [← Nat.add_assoc] at cn zn))
          all_goals
            go_wp2_with fail
            go_roundw
            case rel =>
              refine ⟨x + 1, hxt, by go_num, ?_⟩
              rw [show 4 + y * 12 + x = 4 + (y * 12 + x) by omega]
              exact jn.put hne (4 + (y * 12 + x)) _ (by omega) (rd_pb t _ _) (by
                unfold tcell rdT
                rw [if_neg (by omega), if_neg (by omega), if_neg (by omega), if_neg (by omega), if_pos (by omega)]
                dsimp only
                rw [if_pos (by omega), show 4 + (y * 12 + x) - 4 = y * 12 + x by omega])
            case measure => simp [intOf]; omega
        · have hxti : ¬ (x : Int) < 12 := by omega
          have hx2 : x = 12 := by omega
          have HX := (show Hid _ from hx2)
          clear hx2
          go_wp2_with fail
          go_roundw
          case rel => exact ⟨y + 1, hyt, by go_num, by have := HX.out; rw [this, show y * 12 + 12 = (y + 1) * 12 by omega] at hJx; exact hJx⟩
          case measure => simp [intOf]; omega
    · have hyti : ¬ (y : Int) < 12 := by omega
      have hy2 : y = 12 := by omega
      rw [hy2] at hJ
      have HY := (show Hid _ from hy2)
      clear hy2
      go_wp2_with fail
      refine Calls.mono (HNX.out _ HRD.out.nl hJ hne) ?_
      rintro e w11 ⟨rfl, jl⟩
      dsimp only
      have hlen := hok.len
      dsimp only at hlen
      have hlei : ¬ (100 : Int) < (t.us.length : Int) := by omega
      clear hJ
      go_wp2_with fail
      obtain ⟨inf, hi0, hz0, hz1, hz2⟩ := info_parts infoU
      have hAl : A < W2.heap.size := by
        rw [HA.out]
        exact HAL.out
      have hrl : rb < W2.heap.size := by have := HRL.out; have := HAL.out; omega
      have hnA : ∀ v : Value, (∀ b, v.ownBlock = some b → W2.heap.size ≤ b) → v.ownBlock ≠ some A ∧ v.ownBlock ≠ some rb := fun v hv => ⟨fun e => by have := hv A e; omega, fun e => by have := hv rb e; omega⟩
      have HnA := (show Hid _ from hnA)
      have HOK := (show Hid _ from hok)
      have HOS := (show Hid _ from hos)
      have HHA := (show Hid _ from hAl)
      clear hnA hok hos
      go_loopw [47] (fun i wr => ∃ (k : Nat) (pv : Value), k ≤ t.us.length ∧ i = .int .i64 k ∧ RJ W2 l rb A (150 + 11 * k) (rdT t 4 144 k) pv wr ∧ wr.ownsRow W2.heap.size 85 11 pv k ((t.us.take k).flatMap U.cells)) (fun i _ => t.us.length - (intOf i).toNat)
      case atStart => exact ⟨0, .slice none 0 0, by omega, rfl, jl, ⟨rfl, Or.inl ⟨rfl, rfl⟩⟩⟩
      case round =>
        obtain ⟨k, pv, hk, rfl, hJ, hown⟩ := hrel
        clear jl
        by_cases hlt : k < t.us.length
        · have hlti : (k : Int) < (t.us.length : Int) := by omega
          obtain ⟨u, hu⟩ : ∃ u, t.us[k]? = some u := ⟨t.us[k], List.getElem?_eq_getElem hlt⟩
          have hnu := HRD.out.nu k u hu
          have hJd : RJ W2 l rb A (150 + 11 * k) (rdT t 4 144 k) pv wr.drew := ⟨⟨hJ.rd.all⟩, hJ.g, hJ.fr.drew⟩
          have HUN : Hid (Calls Tryz.prog 132 #[.pointer (some ⟨rb, 0, none⟩)] wr.drew fun e w' => ∃ r, e = .returned r ∧ (r = u.val ∧ RJ W2 l rb A (150 + 11 * k + 11) (rdT t 4 144 k) pv w' ∧ Fr [rb] wr.drew w')) := Calls.mono (hJd.unit hne hl hnu) (fun e w' h => ⟨u.val, h.1, rfl, h.2⟩)
          have HTK : Hid ((t.us.take (k + 1)).flatMap U.cells = (t.us.take k).flatMap U.cells ++ u.cells) := by
            show _ = _
            obtain ⟨hl', rfl⟩ := List.getElem?_eq_some_iff.1 hu
            rw [List.take_succ_eq_append_getElem hl', List.flatMap_append]
            simp
          have hob : ∀ b, pv.ownBlock = some b → W2.heap.size ≤ b := fun b hb => own_base hown hb
          have HOB := (show Hid _ from hob)
          have HOW : Hid (wr.ownsRow W2.heap.size 85 11 pv k ((t.us.take k).flatMap U.cells)) := hown
          have hc := hJ.at148
          have hgA : A < wr.heap.size := lt_of_heap hJ.g
          clear hJ hJd hown hob hu hnu
          go_wp2_with fail
          go_region_law (first
            | (refine step_append_own rfl (.tmp 50) (.tmp 53) 82 rfl W2.heap.size 85 inf zeroU.val 11 88 Tryz.underlying82 hi0 hz0 hz1 hz2 rfl (by decide) pv k ((t.us.take k).flatMap U.cells) (by simp [Act.eval]) HO2.out ⟨w3.heap.size, 0, none⟩ 1 1 u.cells (by simp [Act.eval]) rfl (new_cells u w3) (by simp [Value.oneCell']) (by unfold maxLen; omega) (by omega) (by simp; omega) ?_; intro v' w4 hown' hgrow hat; obtain ⟨g', cap', rfl⟩ := own_shape hown' (by omega); have hgf := Fr.grow (S := pv.ownBlock.toList) (Fr.refl _ _) hgrow (fun g hg => Or.inl (by simp [hg])); have hc4 : w4.cell? ⟨A, 148, none⟩ = some pv := (hgf.cell A 148 (by simp; omega) (by have := (HnA.out pv HOB.out).1; simp; exact this)).trans ((((Fr.refl [] w3).alloc _).cell A 148 hA3 (by simp)).trans hc3); have hz4 : w4.frozen? ⟨A, 148, none⟩ = false := (hgf.frozen A 148 (by simp; omega) (by have := (HnA.out pv HOB.out).1; simp; exact this)).trans ((((Fr.refl [] w3).alloc _).frozen A 148 hA3 (by simp)).trans hz3))
            | (refine step_call1 rfl 132 51 222 rfl (.pointer (some ⟨rb, 0, none⟩)) rfl (fun _ => by kernel_rfl) HUN.out ?_; rintro r w3 ⟨rfl, ju, hfu⟩; have hc3 := ju.at148; have hz3 := ju.fz 148; have hA3 : A < w3.heap.size := lt_of_heap ju.g; have hs3 := ju.fr.size; have HO2 : Hid ((w3.alloc (.cells u.arr 85)).ownsRow W2.heap.size 85 11 pv k ((t.us.take k).flatMap U.cells)) := owns_fr HOW.out (Fr.alloc (S := [rb]) (Fr.trans (Fr.drew (Fr.refl [rb] wr)) hfu (by simp)) _) (fun b hb => by have := HOB.out b hb; simp; omega)))
          all_goals
            go_wp2_with fail
            go_roundw
            case rel =>
              obtain ⟨nA, nR⟩ := HnA.out pv HOB.out
              have hg1 : W2.heap.size ≤ g' := own_base hown' rfl
              have j4 : RJ W2 l rb A (150 + 11 * k + 11) (rdT t 4 144 k) pv w4 := by
                refine ⟨⟨?_⟩, ?_, (ju.fr.alloc _).grow hgrow (fun g hg => Or.inr (HOB.out g hg))⟩
                · exact hgf.heap (((Fr.refl [] w3).alloc _).heap0 ju.rd.all) (by simp; exact nR)
                · exact hgf.heap (((Fr.refl [] w3).alloc _).heap0 ju.g) (by simp; exact nA)
              refine ⟨k + 1, _, hlt, by go_num, j4.put (t' := rdT t 4 144 (k + 1)) (pv' := .slice (some ⟨g', 0, none⟩) (k + 1) cap') hne 148 _ (by omega) (rd_pp t _ _ _ _) rfl, ?_⟩
              rw [HTK.out]
              refine owns_fr hown' ((Fr.refl [A] w4).setCell _ _ (by simp)) (fun b hb => ?_)
              simp [Value.ownBlock] at hb
              have := HHA.out
              simp
              omega
            case measure => simp [intOf]; omega
        · have hlti : ¬ (k : Int) < (t.us.length : Int) := by omega
          have hke : k = t.us.length := by omega
          subst hke
          rw [List.take_length] at hown
          have hne0 : 0 < t.us.length := by
            have := HOK.out.bs
            dsimp only at this
            rcases Nat.eq_zero_or_pos t.us.length with e | e
            · rw [List.length_eq_zero_iff] at e
              rw [e] at this
              simp at this
            · exact e
          obtain ⟨pb, cap, rfl, hrow⟩ : ∃ pb cap, pv = .slice (some ⟨pb, 0, none⟩) t.us.length cap ∧ PRow wr pb cap t.us := by
            obtain ⟨pb, cap, h1, h2⟩ := PRow.of_owns hown rfl hne0
            exact ⟨pb, cap, h1, h2.2⟩
          have hpbl : W2.heap.size ≤ pb := own_base hown rfl
          have hgs : GS wr A pb cap t := by
            refine ⟨fun j hj => ?_, fun j => hJ.fz j, hrow, by omega, hne0, ?_, ?_⟩
            · rw [hJ.cell j hj, rd_end t _ _ j hj]
            · have := HHA.out; omega
            · have := HHA.out; omega
          have hdn := done_any rb _ _ wr hJ.rd
          rw [HRD.out.ne] at hdn
          have HDN := (show Hid _ from hdn)
          have HMB : Hid (∀ w', Fr [] wr w' → Calls Tryz.prog 133 #[.pointer (some ⟨A, 0, none⟩)] w' fun e w'' => e = .returned (.bool true) ∧ Fr [] w' w'') := fun w' hf => mayBe_any A pb cap t w' (hgs.fr hf (by simp) (by simp)) HOK.out HOS.out
          have HWN : Hid (∀ w', Fr [] wr w' → Calls Tryz.prog 50 #[.pointer (some ⟨A, 0, none⟩)] w' fun e w'' => e = .returned (.int .i64 (winI t.us)) ∧ Fr [] w' w'') := fun w' hf => winner_any A pb cap t.us w' (hgs.gv.fr0 hf)
          have hwr2 : Fr [rb, A] W2 wr := hJ.fr
          have HGL : Hid (wr.heap[A]? = some (.cells (gameL t (.slice (some ⟨pb, 0, none⟩) t.us.length cap)).toArray 90)) := by
            show _ = _
            rw [hJ.g]
            have : gameL (rdT t 4 144 t.us.length) (.slice (some ⟨pb, 0, none⟩) t.us.length cap) = gameL t (.slice (some ⟨pb, 0, none⟩) t.us.length cap) := by
              unfold gameL
              apply List.map_congr_left
              intro j hj
              exact rd_end t _ _ j (List.mem_range.1 hj)
            rw [this]
          clear hJ hown hdn hgs HNX HnA HOK HOS
          go_wp2_with fail
          refine Calls.mono HDN.out ?_
          rintro e w12 ⟨rfl, hf12⟩
          dsimp only
          go_wp2_with fail
          refine Calls.mono (HMB.out _ hf12) ?_
          rintro e w13 ⟨rfl, hf13⟩
          dsimp only
          have hf13' := hf12.then0 hf13
          go_wp2_with fail
          refine Calls.mono (HWN.out _ hf13') ?_
          rintro e w14 ⟨rfl, hf14⟩
          dsimp only
          have hf14' := hf13'.then0 hf14
          obtain ⟨gl, hgl⟩ : ∃ x, x = gameL t (.slice (some ⟨pb, 0, none⟩) t.us.length cap) := ⟨_, rfl⟩
          have hll : gl.length = 149 := by rw [hgl]; exact gameL_len _ _
          have HO : Hid (gl.toArray.all (·.oneCell') = true) := by
            show _ = _
            rw [hgl]; exact gameL_one _ _ _ _
          have HI : Hid ((Tryz.prog.info? 90).map (·.size) = some gl.toArray.size) := by
            show _ = _
            rw [infoGame, List.size_toArray, hll]
          have HZ : Hid (Tryz.zeroCells90.size = gl.toArray.size) := by
            show _ = _
            exact zcGame.trans (by simp [hll])
          have hga := HGL.out
          rw [← hgl] at hga
          have HG14 : Hid (w14.heap[A]? = some (.cells gl.toArray 90)) := hf14'.heap0 hga
          have HR14 : Hid (w14.heap[w.heap.size]? = some (.cells Tryz.zeroCells90 90)) := hf14'.heap0 (hwr2.heap hR2 (by simp; omega))
          have HGE := (show Hid _ from hgl)
          clear hll hga hgl HGL
          go_wp2_with (first | (refine wpList_load_row rfl 90 _ rfl A rfl 90 gl.toArray (0, 0) _ HG14.out Tryz.underlying90 rfl HI.out ?_) | (refine wpList_store_row rfl 90 _ _ rfl w.heap.size gl.toArray rfl rfl 90 Tryz.zeroCells90 HR14.out HI.out HZ.out HO.out ?_))
          have hend : Fr [] w w14 := (hw2.trans hwr2 (by simp; omega)).then0 hf14'
          have hpw : w.heap.size ≤ pb := by have := hw2.size; omega
          refine bodyPost_ret (v := .tuple #[.agg gl.toArray, .bool true]) (results_cell_tmp Tryz.results90 _ _ w.heap.size 90 gl.toArray (0, 0) _ _ rfl rfl (setRow_heap _ _ _ _ _ _ HR14.out) Tryz.underlying90 rfl HI.out) rfl ⟨pb, cap, by rw [HGE.out], ?_, hpw, hend.setRow _ _ (Or.inr (Nat.le_refl _))⟩
          have hp14 := hrow.fr hf14' (by simp)
          exact hp14.fr (((Fr.refl [w.heap.size] w14).setRow _ _ (Or.inl (by simp)))) (by simp; have := HHA.out; omega)
end Go.Proofs.YtapabahhfanmmaaGreatDoor
