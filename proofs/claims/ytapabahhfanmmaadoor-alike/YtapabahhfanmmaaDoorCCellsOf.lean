import Derived.Test.YtapabahhfanmmaaDoorCCmd
import Derived.Test.YtapabahhfanmmaaDoorCGame2
import Derived.Test.YtapabahhfanmmaaDoorCInv3
/- All places; commands that are none. -/
namespace Go.Proofs.YtapabahhfanmmaaDoor
open Go.RowKit

set_option maxRecDepth 100000 in
set_option maxHeartbeats 1000000 in
theorem command_nil (tb pb cap hb bb : Nat) (t : T) (p : Int) (ao : Option Addr) (lc : Nat) (w : World) (h : TS w tb pb cap hb bb t) :
    Calls Tryd.prog 33 #[.pointer (some ⟨tb, 0, none⟩), .int .i64 p, .slice ao 0 lc] w fun e w' =>
      ∃ v, e = .returned v ∧ Fr [pb] w w' ∧ TS w' tb pb cap hb bb (cmdAll p 0 [] t).2 ∧ w'.ownsRow w.heap.size 3 1 v (cmdAll p 0 [] t).1.length (ints (cmdAll p 0 [] t).1) := by
  go_enter Tryd.func33, Tryd.ntmps33
  go_wp2_with fail
  go_loopw [7, 12] (fun v i wr => v = .slice none 0 0 ∧ i = .int .i64 0 ∧ w = wr) (fun _ _ _ => 0)
  case atStart => exact ⟨rfl, rfl, rfl⟩
  case round =>
    obtain ⟨rfl, rfl, rfl⟩ := hrel
    go_wp2_with fail
    go_ret
    exact ⟨_, rfl, Fr.refl _ _, h, ⟨rfl, Or.inl ⟨rfl, rfl⟩⟩⟩

structure PlI (w : World) (k : Nat) (v : Value) (wr : World) : Prop where
  own : wr.ownsRow w.heap.size 3 1 v k (ints (List.range k))
  fr : Fr [] w wr

set_option maxRecDepth 100000 in
set_option maxHeartbeats 1000000 in
theorem places_any (ao : Option Addr) (n lc : Nat) (w : World) (hlen : n ≤ 1000) :
    Calls Tryd.prog 30 #[.slice ao n lc] w fun e w' =>
      ∃ v, e = .returned v ∧ Fr [] w w' ∧ w'.ownsRow w.heap.size 3 1 v n (ints (List.range n)) := by
  obtain ⟨inf, hi0, hz0, hz1, hz2⟩ := info_parts infoI
  go_enter Tryd.func30, Tryd.ntmps30
  go_wp2_with fail
  go_loopw [3, 7] (fun v i wr => ∃ k : Nat, k ≤ n ∧ i = .int .i64 k ∧ PlI w k v wr) (fun _ i _ => n - (intOf i).toNat)
  case atStart => exact ⟨0, Nat.zero_le _, rfl, ⟨rfl, Or.inl ⟨rfl, rfl⟩⟩, Fr.refl _ _⟩
  case round =>
    obtain ⟨k, hk, rfl, hown, hfr⟩ := hrel
    by_cases hlt : k < n
    · have HN : Hid (∀ (W : World) (j : Nat) (u : Value), [ii (k : Int)][j]? = some u → (W.alloc (.cells #[.int .i64 k] 3)).cell? ((⟨W.heap.size, 0, none⟩ : Addr).add j) = some u) := by
        intro W j u hu
        have hj : j = 0 := by
          have := (List.getElem?_eq_some_iff.1 hu).1
          simp at this
          exact this
        subst hj
        rw [Addr.add_lit, cell_of_heap (hp_new W _)]
        simpa using hu
      have HB1 : Hid (∀ b, u3.ownBlock = some b → w.heap.size ≤ b) := fun b hb => own_base hown hb
      have HOW : Hid ((wr.alloc (.cells #[.int .i64 k] 3)).ownsRow w.heap.size 3 1 u3 k (ints (List.range k))) := owns_fr hown ((Fr.refl [] wr).alloc _) (by simp)
      have hwr := hfr.size
      clear hown
      go_wp2_with (at_builtin; refine wpList_append_own _ rfl _ _ 22 rfl w.heap.size 3 inf (ii 0) 1 8 Tryd.underlying22 hi0 hz0 hz1 hz2 rfl (by decide) u3 k (ints (List.range k)) rfl HOW.out ⟨wr.heap.size, 0, none⟩ 1 1 [ii (k : Int)] rfl rfl (HN.out wr) (by simp [Value.oneCell']) (by unfold maxLen; omega) (by omega) (by simp; omega) ?_; intro v' w3 hown3 hgrow hnil3)
      have hf3 : Fr [] w w3 := (hfr.alloc _).grow hgrow (fun g hg => Or.inr (HB1.out g hg))
      go_roundw
      case rel =>
        refine ⟨k + 1, hlt, by go_num, ?_, hf3⟩
        have : ints (List.range (k + 1)) = ints (List.range k) ++ [ii (k : Int)] := by unfold ints; rw [List.range_succ, List.map_append]; rfl
        rw [this]
        exact hown3
      case measure => simp [intOf]; omega
    · have : k = n := by omega
      subst this
      go_wp2_with fail
      go_ret
      exact ⟨u3, rfl, hfr, hown⟩
end Go.Proofs.YtapabahhfanmmaaDoor
/- Who stands where. -/
namespace Go.Proofs.YtapabahhfanmmaaDoor
open Go.RowKit

set_option maxRecDepth 100000 in
set_option maxHeartbeats 2000000 in
theorem cellsOf_any (pb cap : Nat) (us : List U) (w : World) (hrow : PRow w pb cap us) (hlen : us.length ≤ 1000) :
    Calls Tryd.prog 43 #[.slice (some ⟨pb, 0, none⟩) us.length cap] w fun e w' => ∃ hb, e = .returned (.map (some hb)) ∧ w.heap.size ≤ hb ∧ MapF w' hb (heldV (heldOf us)) ∧ Fr [] w w' := by
  have hmm := @run_makeMap Tryd.prog
  have hpl := hrow.lt
  go_enter Tryd.func43, Tryd.ntmps43
  go_wp2_with fail
  obtain ⟨hb, hhb⟩ : ∃ hb, hb = w.heap.size := ⟨_, rfl⟩
  rw [← hhb]
  obtain ⟨W5, hW5⟩ : ∃ W, W = w.alloc (.map #[] 0) := ⟨_, rfl⟩
  rw [← hW5]
  have hw5 : Fr [] w W5 := by rw [hW5]; exact (Fr.refl _ _).alloc _
  have hmd : MapF W5 hb (heldV (heldOf (us.take 0))) := by
    have : MapF W5 hb (fun _ => none) := MapF.made (clock := 0) (by rw [hW5, hhb]; exact hp_new _ _)
    exact this
  have hpx : Ppl W5 pb us := (hrow.fr hw5 (by simp)).ppl
  have hnb : pb ≠ hb := by omega
  have hsz5 : W5.heap.size = hb + 1 := by rw [hW5, hhb]; simp
  have HHB := (show Hid _ from hhb)
  clear hW5 hmm hhb
  go_loopw [9] (fun i wr => ∃ k : Nat, k ≤ us.length ∧ i = .int .i64 k ∧ MapF wr hb (heldV (heldOf (us.take k))) ∧ Fr [hb] W5 wr) (fun i _ => us.length - (intOf i).toNat)
  case atStart => exact ⟨0, Nat.zero_le _, rfl, hmd, Fr.refl _ _⟩
  case round =>
    obtain ⟨k, hk, rfl, hkt, hkf⟩ := hrel
    by_cases hlt : k < us.length
    · obtain ⟨v, hv⟩ : ∃ u, us[k]? = some u := ⟨us[k], List.getElem?_eq_getElem hlt⟩
      obtain ⟨c0, c1, c2, c3, c4, c5, c6, c7, c8, c9, c10⟩ := (hpx.fr hkf (by simp; omega)).at hv
      have hheld : heldOf (us.take (k + 1)) = fun c => if c = (v.x, v.y) then some v.id else heldOf (us.take k) c := by
        unfold heldOf
        rw [List.take_succ_eq_append_getElem hlt, List.foldl_append]
        rw [List.getElem?_eq_getElem hlt] at hv
        rw [Option.some.inj hv]
        rfl
      have HHE := (show Hid _ from hheld)
      have HKT := (show Hid _ from hkt)
      have hsz6 := hkf.size
      have hhl5 := hkt.lt
      clear hv hheld hkt
      go_wp2_with fail
      obtain ⟨WA, hWA⟩ : ∃ W, W = wr.alloc (.cells v.arr 44) := ⟨_, rfl⟩
      rw [← hWA]
      have hfa : Fr [] wr WA := by rw [hWA]; exact (Fr.refl _ _).alloc _
      have hva : WA.heap[wr.heap.size]? = some (.cells v.arr 44) := by rw [hWA]; exact hp_new _ _
      have hta : MapF WA hb (heldV (heldOf (us.take k))) := MapF.fr HKT.out hfa (by simp)
      clear hWA c0 c1 c2 c3 c4 c5 c6 c7 c8 c9 c10
      have HS : ∀ w', Fr [hb] WA w' → (fun w' : World => w'.cell? ⟨wr.heap.size, 0, none⟩ = some (ii v.id) ∧ w'.cell? ⟨wr.heap.size, 1, none⟩ = some (ii v.owner) ∧ w'.cell? ⟨wr.heap.size, 2, none⟩ = some (ii v.kind) ∧ w'.cell? ⟨wr.heap.size, 3, none⟩ = some (ii v.x) ∧ w'.cell? ⟨wr.heap.size, 4, none⟩ = some (ii v.y) ∧ w'.cell? ⟨wr.heap.size, 5, none⟩ = some (ii v.life) ∧ w'.cell? ⟨wr.heap.size, 6, none⟩ = some (ii v.load) ∧ w'.cell? ⟨wr.heap.size, 7, none⟩ = some (ii v.what) ∧ w'.cell? ⟨wr.heap.size, 8, none⟩ = some (ii v.tox) ∧ w'.cell? ⟨wr.heap.size, 9, none⟩ = some (ii v.toy) ∧ w'.cell? ⟨wr.heap.size, 10, none⟩ = some (ii v.target) ∧ Fr [hb] WA w') w' := fun w' hf => ⟨cell_of_heap (hf.heap hva (by simp; omega)), cell_of_heap (hf.heap hva (by simp; omega)), cell_of_heap (hf.heap hva (by simp; omega)), cell_of_heap (hf.heap hva (by simp; omega)), cell_of_heap (hf.heap hva (by simp; omega)), cell_of_heap (hf.heap hva (by simp; omega)), cell_of_heap (hf.heap hva (by simp; omega)), cell_of_heap (hf.heap hva (by simp; omega)), cell_of_heap (hf.heap hva (by simp; omega)), cell_of_heap (hf.heap hva (by simp; omega)), cell_of_heap (hf.heap hva (by simp; omega)), hf⟩
      have KF : Fr [] WA WA.drew := (Fr.refl _ _).drew
      have K0 := HS _ KF.of0
      go_region_held (fun w' : World => w'.cell? ⟨wr.heap.size, 0, none⟩ = some (ii v.id) ∧ w'.cell? ⟨wr.heap.size, 1, none⟩ = some (ii v.owner) ∧ w'.cell? ⟨wr.heap.size, 2, none⟩ = some (ii v.kind) ∧ w'.cell? ⟨wr.heap.size, 3, none⟩ = some (ii v.x) ∧ w'.cell? ⟨wr.heap.size, 4, none⟩ = some (ii v.y) ∧ w'.cell? ⟨wr.heap.size, 5, none⟩ = some (ii v.life) ∧ w'.cell? ⟨wr.heap.size, 6, none⟩ = some (ii v.load) ∧ w'.cell? ⟨wr.heap.size, 7, none⟩ = some (ii v.what) ∧ w'.cell? ⟨wr.heap.size, 8, none⟩ = some (ii v.tox) ∧ w'.cell? ⟨wr.heap.size, 9, none⟩ = some (ii v.toy) ∧ w'.cell? ⟨wr.heap.size, 10, none⟩ = some (ii v.target) ∧ Fr [hb] WA w')
        (first | with_reducible exact K0 | with_reducible exact hS3 | with_reducible exact hSu)
        (first | (go_at_call 56; refine (cellOf_any v _).mono ?_; rintro e w3 ⟨rfl, hf3⟩; have hfr3 : Fr [] WA w3 := KF.then0 hf3; have hS3 := HS w3 hfr3.of0; obtain ⟨wu, hup, hmu, hfu, hszu⟩ := upd_ex (MapF.fr hta hfr3 (by simp)) 84 3 Tryd.underlying84 v.x v.y (ii v.id); have hfru : Fr [hb] WA wu := hfr3.of0.trans hfu (by simp); have hSu := HS wu hfru))
      all_goals
        go_wp2_with fail
        go_roundw
        case rel =>
          refine ⟨k + 1, hlt, by go_num, ?_, (hkf.then0 hfa).trans hfru (by simp)⟩
          rw [HHE.out]
          refine hmu.of_eq (fun c => ?_)
          by_cases e : c = (v.x, v.y) <;> simp [heldV, e]
        case measure => simp [intOf]; omega
    · have hke : k = us.length := by omega
      subst hke
      rw [List.take_length] at hkt
      go_wp2_with fail
      go_ret
      exact ⟨hb, rfl, by have := HHB.out; omega, hkt, (hw5.of0 (S := [])).trans hkf (by simp; have := HHB.out; omega)⟩
end Go.Proofs.YtapabahhfanmmaaDoor
