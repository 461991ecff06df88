import Derived.Test.YtapabahhfanmmaaDoorCGoA
/- Move. -/
namespace Go.Proofs.YtapabahhfanmmaaDoor
open Go.RowKit

def wayTo (t : T) (u : U) (ends : Cl → Bool) : Cl := bfs (fun c => freeB (heldV t.held) t.bd c.1 c.2) ends (u.x, u.y)
def actMove (t : T) (u : U) : U × T :=
  if (u.x == u.tox && u.y == u.toy) = true then (u.idle, t)
  else (u.to (wayTo t u fun c => c.1 == u.tox && c.2 == u.toy), t.moved u (wayTo t u fun c => c.1 == u.tox && c.2 == u.toy))

set_option maxRecDepth 100000 in
set_option maxHeartbeats 2000000 in
theorem move_any (tb pb cap hb bb : Nat) (t : T) (u : U) (w : World) (h : TS w tb pb cap hb bb t) (hsd : Sd w) (hon : onB u.x u.y = true) :
    Calls Tryd.prog 69 #[.pointer (some ⟨tb, 0, none⟩), u.val] w fun e w' =>
      e = .returned (actMove t u).1.val ∧ Fr [hb, bb] w w' ∧ TS w' tb pb cap hb bb (actMove t u).2 := by
  obtain ⟨B, hB⟩ : ∃ B, (u.x == u.tox && u.y == u.toy) = B := ⟨_, rfl⟩
  have hq : ∀ w0 : World, (binOp BinOp.eql 96 (cv u.x u.y) (cv u.tox u.toy)).run Tryd.prog w0 = .ok (.bool B) w0 := fun w0 => by rw [eqCell, hB]
  have hqg := fun (x y : Operand) (w0 : World) => guardCell x y u.x u.y u.tox u.toy w0
  have HB := (show Hid _ from hB)
  clear hB
  obtain ⟨W3, hW3⟩ : ∃ W, W = ((w.alloc (.cells u.arr 44)).alloc (.cells zeroU.arr 44)).alloc (.cells #[ii u.tox, ii u.toy] 96) := ⟨_, rfl⟩
  have hs3 : W3.heap.size = w.heap.size + 1 + 1 + 1 := by rw [hW3]; simp
  have h03 : Fr [] w W3 := by rw [hW3]; exact (((Fr.refl _ _).alloc _).alloc _).alloc _
  have hU : W3.heap[w.heap.size]? = some (.cells u.arr 44) := by rw [hW3, hp_old _ _ _ (by simp; omega), hp_old2]
  have hR : W3.heap[w.heap.size + 1]? = some (.cells zeroU.arr 44) := by rw [hW3, hp_old _ _ _ (by simp), hp_new2]
  have hG : W3.heap[w.heap.size + 1 + 1]? = some (.cells #[ii u.tox, ii u.toy] 96) := by rw [hW3, hp_new3]
  have HS : ∀ w', Fr [] W3 w' → (fun w' : World => w'.cell? ⟨w.heap.size, 0, none⟩ = some (ii u.id) ∧ w'.cell? ⟨w.heap.size, 1, none⟩ = some (ii u.owner) ∧ w'.cell? ⟨w.heap.size, 2, none⟩ = some (ii u.kind) ∧ w'.cell? ⟨w.heap.size, 3, none⟩ = some (ii u.x) ∧ w'.cell? ⟨w.heap.size, 4, none⟩ = some (ii u.y) ∧ w'.cell? ⟨w.heap.size, 5, none⟩ = some (ii u.life) ∧ w'.cell? ⟨w.heap.size, 6, none⟩ = some (ii u.load) ∧ w'.cell? ⟨w.heap.size, 7, none⟩ = some (ii u.what) ∧ w'.cell? ⟨w.heap.size, 8, none⟩ = some (ii u.tox) ∧ w'.cell? ⟨w.heap.size, 9, none⟩ = some (ii u.toy) ∧ w'.cell? ⟨w.heap.size, 10, none⟩ = some (ii u.target) ∧ w'.cell? ⟨w.heap.size + 1 + 1, 0, none⟩ = some (ii u.tox) ∧ w'.cell? ⟨w.heap.size + 1 + 1, 1, none⟩ = some (ii u.toy)) w' := by
    intro w' hf
    have hu := hf.heap0 hU
    have hg := hf.heap0 hG
    exact ⟨cell_of_heap hu, cell_of_heap hu, cell_of_heap hu, cell_of_heap hu, cell_of_heap hu, cell_of_heap hu, cell_of_heap hu, cell_of_heap hu, cell_of_heap hu, cell_of_heap hu, cell_of_heap hu, cell_of_heap hg, cell_of_heap hg⟩
  have KF : Fr [] W3 ((((w.alloc (.cells u.arr 44)).alloc (.cells zeroU.arr 44)).alloc (.cells #[ii u.tox, ii u.toy] 96)).drew) := by rw [hW3]; exact (Fr.refl _ _).drew
  have K0 := HS _ KF
  clear hW3
  go_enter Tryd.func69, Tryd.ntmps69
  go_wp2_with fail
  go_cut [14] (fun s14 wx => s14 = .bool B ∧ Fr [] W3 wx)
  case first =>
    go_region_held (fun w' : World => w'.cell? ⟨w.heap.size, 0, none⟩ = some (ii u.id) ∧ w'.cell? ⟨w.heap.size, 1, none⟩ = some (ii u.owner) ∧ w'.cell? ⟨w.heap.size, 2, none⟩ = some (ii u.kind) ∧ w'.cell? ⟨w.heap.size, 3, none⟩ = some (ii u.x) ∧ w'.cell? ⟨w.heap.size, 4, none⟩ = some (ii u.y) ∧ w'.cell? ⟨w.heap.size, 5, none⟩ = some (ii u.life) ∧ w'.cell? ⟨w.heap.size, 6, none⟩ = some (ii u.load) ∧ w'.cell? ⟨w.heap.size, 7, none⟩ = some (ii u.what) ∧ w'.cell? ⟨w.heap.size, 8, none⟩ = some (ii u.tox) ∧ w'.cell? ⟨w.heap.size, 9, none⟩ = some (ii u.toy) ∧ w'.cell? ⟨w.heap.size, 10, none⟩ = some (ii u.target) ∧ w'.cell? ⟨w.heap.size + 1 + 1, 0, none⟩ = some (ii u.tox) ∧ w'.cell? ⟨w.heap.size + 1 + 1, 1, none⟩ = some (ii u.toy))
      (first | exact K0 | exact HS _ hfr1)
      (first | (go_at_call 56; refine (cellOf_any u _).mono ?_; rintro e w1 ⟨rfl, hf1⟩; have hfr1 : Fr [] W3 w1 := KF.then0 hf1))
    all_goals
      go_wp2_with fail
      go_meet
      exact ⟨rfl, hfr1⟩
  case rest =>
    obtain ⟨rfl, hfx⟩ := hcut
    have hux := hfx.heap0 hU
    have hrx := hfx.heap0 hR
    have hgx := hfx.heap0 hG
    have hwx := h03.then0 hfx
    have hl := lt_of_heap hrx
    have HR := (show Hid _ from hrx)
    clear K0 HS hq hqg
    have hz := h.z
    have hbl := h.ways.lt
    have hhl := h.held.lt
    have hts := h.fr0 hwx
    have hsx := hsd.fr0 hwx
    cases B
    · have hact : actMove t u = (u.to (wayTo t u fun c => c.1 == u.tox && c.2 == u.toy), t.moved u (wayTo t u fun c => c.1 == u.tox && c.2 == u.toy)) := by unfold actMove; rw [HB.out]; rfl
      have HA := (show Hid _ from hact)
      clear hact hrx
      go_wp2_with (refine wpList_load_row rfl 44 _ rfl w.heap.size rfl 44 u.arr (0, 0) _ hux Tryd.underlying44 rfl infoUnit ?_)
      refine (goA_any tb pb cap hb bb (w.heap.size + 1 + 1) t u u.tox u.toy _ hts hsx hon (cell_of_heap hgx) (cell_of_heap hgx) (by omega)).mono ?_
      rintro e w5 ⟨rfl, hf5, ht5⟩
      have hr5 := hf5.heap HR.out (by simp; omega)
      obtain ⟨v, hv⟩ : ∃ v, v = u.to (bfs (fun c => freeB (heldV t.held) t.bd c.1 c.2) (fun c => c.1 == u.tox && c.2 == u.toy) (u.x, u.y)) := ⟨_, rfl⟩
      rw [← hv]
      have HV := (show Hid _ from hv)
      clear hv hux hgx
      go_wp2_with (refine wpList_store_row rfl 44 _ _ rfl (w.heap.size + 1) v.arr rfl rfl 44 _ hr5 infoUnit rfl (U.one _) ?_)
      have hall : Fr [hb, bb] w (w5.setRow (w.heap.size + 1) v.arr) := (hwx.of0.trans hf5 (by simp)).setRow _ _ (Or.inr (by omega))
      refine bodyPost_ret (v := v.val) (results_cell_row Tryd.results69 _ _ (w.heap.size + 1) 44 v.arr (0, 0) _ rfl (setRow_heap _ _ _ v.arr _ _ hr5) Tryd.underlying44 rfl infoUnit) rfl ⟨?_, hall, ?_⟩
      · rw [HA.out, HV.out]; rfl
      · rw [HA.out]
        exact ht5.fr ((Fr.refl [w.heap.size + 1] w5).setRow _ _ (by simp)) (by simp; have := h.lt; omega) (by simp; have := h.row.lt; omega) (by simp; omega) (by simp; omega)
    · have hact : actMove t u = (u.idle, t) := by unfold actMove; rw [HB.out]; rfl
      have HA := (show Hid _ from hact)
      clear hact hrx
      go_wp2_with (refine wpList_load_row rfl 44 _ rfl w.heap.size rfl 44 u.arr (0, 0) _ hux Tryd.underlying44 rfl infoUnit ?_)
      refine (idle_any u _).mono ?_
      rintro e w5 ⟨rfl, hf5⟩
      have hr5 := hf5.heap HR.out (by simp)
      clear hux hgx
      go_wp2_with (refine wpList_store_row rfl 44 _ _ rfl (w.heap.size + 1) u.idle.arr rfl rfl 44 _ hr5 infoUnit rfl (U.one _) ?_)
      have hall : Fr [hb, bb] w (w5.setRow (w.heap.size + 1) u.idle.arr) := (hwx.then0 hf5).of0.setRow _ _ (Or.inr (by omega))
      refine bodyPost_ret (v := u.idle.val) (results_cell_row Tryd.results69 _ _ (w.heap.size + 1) 44 u.idle.arr (0, 0) _ rfl (setRow_heap _ _ _ u.idle.arr _ _ hr5) Tryd.underlying44 rfl infoUnit) rfl ⟨?_, hall, ?_⟩
      · rw [HA.out]
      · rw [HA.out]
        exact (hts.fr0 hf5).fr ((Fr.refl [w.heap.size + 1] w5).setRow _ _ (by simp)) (by simp; have := h.lt; omega) (by simp; have := h.row.lt; omega) (by simp; omega) (by simp; omega)
end Go.Proofs.YtapabahhfanmmaaDoor
