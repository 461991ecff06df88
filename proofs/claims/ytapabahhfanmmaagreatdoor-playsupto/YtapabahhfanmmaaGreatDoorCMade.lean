import Derived.Test.YtapabahhfanmmaaGreatDoorCRNew
import Derived.Test.YtapabahhfanmmaaGreatDoorCFolkG
namespace Go.Proofs.YtapabahhfanmmaaGreatDoor
open Go.RowKit
set_option maxRecDepth 100000
set_option maxHeartbeats 400000 in
theorem num_any (e : Int) (w : World) : Calls Tryz.prog 52 #[.int .i64 e] w fun r w' => r = .returned (.int .i64 e) ∧ w = w' := by
 go_enter Tryz.func52, Tryz.ntmps52
 go_wp2_with fail
 go_ret
 exact ⟨rfl, rfl⟩
set_option maxHeartbeats 1000000 in
theorem made_any (tx : ByteArray) (w : World) (hw : 0 < w.heap.size) :
  Calls Tryz.prog 24 #[.string tx] w fun e w' => ((MapOk tx ∧ ∃ sb L, e = .returned (.tuple #[.pointer (some ⟨sb, 0, none⟩), .bool true]) ∧ Gm w' (.pointer (some ⟨sb, 0, none⟩)) L (mapT tx) ∧ ∀ x ∈ L, w.heap.size ≤ x) ∨ (¬ MapOk tx ∧ e = .returned (.tuple #[.pointer none, .bool true]))) ∧ Fr [] w w' := by
 have H1 : Hid (∀ w, 0 < w.heap.size → Calls Tryz.prog 32 #[.string tx] w fun e w' => ((MapOk tx ∧ ∃ gb pb cap, e = .returned (.tuple #[.pointer (some ⟨gb, 0, none⟩), .int .i64 0]) ∧ GS w' gb pb cap (mapT tx) ∧ w.heap.size ≤ gb ∧ w.heap.size ≤ pb) ∨ (¬ MapOk tx ∧ e = .returned (.tuple #[.pointer none, .int .i64 1]))) ∧ Fr [] w w') := fun w hw => new_all tx w hw
 have H2 : Hid (∀ w, Calls Tryz.prog 51 #[.string tx] w fun e w' => ((MapOk tx ∧ ∃ gb pb cap, e = .returned (.tuple #[.pointer (some ⟨gb, 0, none⟩), .int .i64 0]) ∧ RG w' gb pb cap (mapT tx) ∧ w.heap.size ≤ gb ∧ w.heap.size ≤ pb) ∨ (¬ MapOk tx ∧ e = .returned (.tuple #[.pointer none, .int .i64 1]))) ∧ Fr [] w w') := fun w => (refNew_all tx w).mono (fun e w' h => ⟨h.h, h.fr⟩)
 go_enter Tryz.func24, Tryz.ntmps24
 go_wp2_with fail
 refine Calls.mono (H1.out w hw) ?_
 rintro e w1 ⟨⟨hok, gb, pb, cap, rfl, hgs, q1, q2⟩ | ⟨hno, rfl⟩, hf1⟩
 ·dsimp only
  go_wp2_with fail
  refine Calls.mono (H2.out w1) ?_
  rintro e w2 ⟨⟨_, rb, qb, cap2, rfl, hrg, q3, q4⟩ | ⟨hno, _⟩, hf2⟩
  rotate_left
  ·exact absurd hok hno
  dsimp only
  have HGS := (show Hid _ from hgs)
  have HRG := (show Hid _ from hrg)
  have HOK := (show Hid _ from hok)
  clear hgs hrg hok
  go_wp2_with (go_at_call 52; refine (num_any _ _).mono ?_; rintro e w3 ⟨rfl, rfl⟩)
  go_ret2
  have hh := hp_new w2 (.cells #[.pointer (some ⟨gb, 0, none⟩), .pointer (some ⟨rb, 0, none⟩)] 127)
  have hs1 := hf1.size
  have hs2 := hf2.size
  have l1 := HGS.out.lt
  have l2 := HGS.out.row.lt
  have l3 := HRG.out.lt
  have l4 := HRG.out.row.lt
  have hn1 := HGS.out.n1
  have hn2 := HRG.out.ne
  have hf3 : Fr [] w2 (w2.alloc (.cells #[.pointer (some ⟨gb, 0, none⟩), .pointer (some ⟨rb, 0, none⟩)] 127)) := (Fr.refl _ _).alloc _
  refine ⟨Or.inl ⟨HOK.out, w2.heap.size, [w2.heap.size, gb, pb, rb, qb], rfl, ⟨⟨w2.heap.size, gb, pb, cap, rb, qb, cap2, rfl, rfl, by rw [cell_of_heap hh]; rfl, by rw [cell_of_heap hh]; rfl, (HGS.out.fr hf2 (by simp) (by simp)).fr hf3 (by simp) (by simp), HRG.out.fr0 hf3⟩, ?_, map_ok tx HOK.out, map_os tx, by simp [mapT]⟩, ?_⟩, (hf1.then0 hf2).then0 hf3⟩
  ·simp only [List.nodup_cons, List.mem_cons, List.not_mem_nil, or_false, not_or, List.nodup_nil, and_true, not_false_eq_true]
   omega
  ·intro x hx
   simp only [List.mem_cons, List.not_mem_nil, or_false] at hx
   omega
 ·dsimp only
  go_wp2_with fail
  refine Calls.mono (H2.out w1) ?_
  rintro e w2 ⟨⟨hok, _⟩ | ⟨_, rfl⟩, hf2⟩
  ·exact absurd hok hno
  dsimp only
  have HNO := (show Hid _ from hno)
  clear hno
  go_wp2_with (go_at_call 52; refine (num_any _ _).mono ?_; rintro e w3 ⟨rfl, rfl⟩)
  go_ret2
  exact ⟨Or.inr ⟨HNO.out, rfl⟩, hf1.then0 hf2⟩
def knownT : ByteArray := ⟨#[65, 46, 46, 46, 53, 46, 46, 46, 46, 46, 46, 46, 10, 46, 46, 46, 46, 46, 46, 46, 46, 46, 46, 46, 46, 10, 46, 46, 46, 46, 46, 46, 46, 46, 46, 46, 46, 46, 10, 46, 46, 46, 46, 46, 46, 46, 46, 46, 46, 46, 46, 10, 46, 46, 46, 46, 35, 35, 35, 35, 46, 46, 46, 46, 10, 46, 46, 46, 46, 46, 46, 46, 46, 46, 46, 46, 46, 10, 46, 46, 46, 46, 46, 46, 46, 46, 46, 46, 46, 46, 10, 46, 46, 46, 46, 46, 46, 46, 46, 46, 46, 46, 46, 10, 46, 46, 46, 46, 46, 46, 46, 46, 46, 46, 46, 46, 10, 46, 46, 46, 46, 46, 46, 46, 46, 46, 46, 46, 46, 10, 46, 46, 46, 46, 46, 46, 46, 46, 46, 46, 46, 46, 10, 46, 46, 46, 57, 46, 46, 46, 46, 46, 46, 46, 66, 10]⟩
theorem known_ok : MapOk knownT := ⟨by kernel_rfl, of_decide_eq_true (by kernel_rfl), of_decide_eq_true (by kernel_rfl), by kernel_rfl, by kernel_rfl⟩
set_option maxHeartbeats 1000000 in
theorem known_any (w : World) : Calls Tryz.prog 25 #[] w fun e w' => e = .returned (.string knownT) ∧ Fr [] w w' := by
 go_enter Tryz.func25, Tryz.ntmps25
 go_wp2_with fail
 go_ret
 exact ⟨by kernel_rfl, Fr.refl _ _⟩
end Go.Proofs.YtapabahhfanmmaaGreatDoor
