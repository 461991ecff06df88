import Derived.Test.YtapabahhfanmmaaDoorCHarm
import Derived.Test.YtapabahhfanmmaaDoorCSign
/- Hitting somebody. -/
namespace Go.Proofs.YtapabahhfanmmaaDoor
open Go.RowKit

def placeOf (us : List U) (id : Int) : Option Nat := us.findIdx? (fun u => u.id == id)
theorem placeOf_some {us : List U} {id : Int} {i : Nat} {u : U} (hr : Rise us) (hi : us[i]? = some u) (hu : u.id = id) : placeOf us id = some i := by
  obtain ⟨hl, rfl⟩ := List.getElem?_eq_some_iff.1 hi
  unfold placeOf
  rw [List.findIdx?_eq_some_iff_getElem]
  refine ⟨hl, by simpa using hu, fun j hj => ?_⟩
  have := hr.lt (List.getElem?_eq_getElem (by omega : j < us.length)) hi hj
  simp
  omega
theorem placeOf_none {us : List U} {id : Int} (h : ∀ u ∈ us, u.id ≠ id) : placeOf us id = none := by
  unfold placeOf
  rw [List.findIdx?_eq_none_iff]
  intro x hx
  simpa using h x hx
theorem placeOf_get {us : List U} {id : Int} {i : Nat} (h : placeOf us id = some i) : ∃ u, us[i]? = some u ∧ u.id = id := by
  unfold placeOf at h
  rw [List.findIdx?_eq_some_iff_getElem] at h
  obtain ⟨hl, hu, _⟩ := h
  exact ⟨us[i], List.getElem?_eq_getElem hl, by simpa using hu⟩
theorem find_pl (b pb cap : Nat) (us : List U) (id : Int) (w : World) (hg : GV w b pb cap us) (hs : Rise us) :
    Calls Tryd.prog 46 #[.pointer (some ⟨b, 0, none⟩), .int .i64 id] w fun e w' => ∃ (i : Nat) (f : Bool), e = .returned (.tuple #[.int .i64 i, .bool f]) ∧ Fr [] w w' ∧
      placeOf us id = (if f = true then some i else none) := by
  refine (find_any b pb cap us id w hg hs).mono ?_
  rintro e w' ⟨i, f, he, hf, h⟩
  refine ⟨i, f, he, hf, ?_⟩
  rcases h with ⟨rfl, u, hu, hid⟩ | ⟨rfl, hn⟩
  · rw [if_pos rfl]; exact placeOf_some hs hu hid
  · rw [if_neg (by simp)]; exact placeOf_none hn
def actHit (t : T) (u : U) : U × T :=
  match placeOf t.us u.target with
  | none => (u.idle, t)
  | some i =>
    match t.us[i]? with
    | none => (u.idle, t)
    | some v =>
      if adjB u.x u.y v.x v.y = true then (u, t.harm i)
      else (u.to (wayTo t u fun c => adjB v.x v.y c.1 c.2), t.moved u (wayTo t u fun c => adjB v.x v.y c.1 c.2))

set_option maxRecDepth 100000 in
set_option maxHeartbeats 2000000 in
theorem hit_any (tb pb cap hb bb : Nat) (t : T) (u : U) (w : World) (h : TS w tb pb cap hb bb t) (hsd : Sd w) (hri : Rise t.us) (hon : onB u.x u.y = true) (hall : ∀ v ∈ t.us, onB v.x v.y = true ∧ -1000 ≤ v.life ∧ v.life ≤ 1000) :
    Calls Tryd.prog 76 #[.pointer (some ⟨tb, 0, none⟩), u.val] w fun e w' =>
      e = .returned (actHit t u).1.val ∧ Fr [tb, pb, hb, bb] w w' ∧ TS w' tb pb cap hb bb (actHit t u).2 := by
  have hz := h.z
  have hbl := h.ways.lt
  have hhl := h.held.lt
  have htl := h.lt
  have hpl := h.row.lt
  obtain ⟨W2, hW2⟩ : ∃ W, W = (w.alloc (.cells u.arr 44)).alloc (.cells zeroU.arr 44) := ⟨_, rfl⟩
  have hs2 : W2.heap.size = w.heap.size + 1 + 1 := by rw [hW2]; simp
  have h02 : Fr [] w W2 := by rw [hW2]; exact ((Fr.refl _ _).alloc _).alloc _
  have hU : W2.heap[w.heap.size]? = some (.cells u.arr 44) := by rw [hW2, hp_old2]
  have hR : W2.heap[w.heap.size + 1]? = some (.cells zeroU.arr 44) := by rw [hW2, hp_new2]
  have HS : ∀ w', Fr [] W2 w' → (fun w' : World => w'.cell? ⟨w.heap.size, 10, none⟩ = some (ii u.target) ∧ Fr [] W2 w') w' := fun w' hf => ⟨cell_of_heap (hf.heap0 hU), hf⟩
  have KF : Fr [] W2 (((w.alloc (.cells u.arr 44)).alloc (.cells zeroU.arr 44)).drew) := by rw [hW2]; exact (Fr.refl _ _).drew
  have K0 := HS _ KF
  clear hW2
  go_enter Tryd.func76, Tryd.ntmps76
  go_wp2_with fail
  go_cut [5, 6] (fun s5 s6 wx => ∃ (i : Nat) (f : Bool), s5 = .int .i64 i ∧ s6 = .bool f ∧ placeOf t.us u.target = (if f = true then some i else none) ∧ Fr [] W2 wx)
  case first =>
    go_region_held (fun w' : World => w'.cell? ⟨w.heap.size, 10, none⟩ = some (ii u.target) ∧ Fr [] W2 w')
      (first | with_reducible exact K0 | with_reducible exact HS _ hfr1)
      (first | (go_at_call 46; refine (find_pl tb pb cap t.us u.target _ (h.gv.fr0 (h02.then0 (And.right (by assumption)))) hri).mono ?_; rintro e w1 ⟨i, f, rfl, hf1, hpl1⟩; have hfr1 : Fr [] W2 w1 := Fr.then0 (And.right (by assumption)) hf1))
    all_goals
      go_wp2_with fail
      go_meet
      exact ⟨i, f, rfl, rfl, hpl1, hfr1⟩
  case rest =>
    obtain ⟨i, f, rfl, rfl, hplace, hfx⟩ := hcut
    have hux := hfx.heap0 hU
    have hrx := hfx.heap0 hR
    have hwx := h02.then0 hfx
    have hl := lt_of_heap hrx
    have HRX := (show Hid _ from hrx)
    have hts := h.fr0 hwx
    have hsx := hsd.fr0 hwx
    cases f
    · have hact : actHit t u = (u.idle, t) := by unfold actHit; rw [hplace]; rfl
      have HA := (show Hid _ from hact)
      clear hact hrx K0 HS KF hplace
      go_wp2_with (refine wpList_load_row rfl 44 _ rfl w.heap.size rfl 44 u.arr (0, 0) _ hux Tryd.underlying44 rfl infoUnit ?_)
      refine (idle_any u _).mono ?_
      rintro e w5 ⟨rfl, hf5⟩
      have hr5 := hf5.heap0 HRX.out
      go_wp2_with (refine wpList_store_row rfl 44 _ _ rfl (w.heap.size + 1) u.idle.arr rfl rfl 44 _ hr5 infoUnit rfl (U.one _) ?_)
      have hall : Fr [tb, pb, hb, bb] w (w5.setRow (w.heap.size + 1) u.idle.arr) := (hwx.then0 hf5).of0.setRow _ _ (Or.inr (by omega))
      refine bodyPost_ret (v := u.idle.val) (results_cell_row Tryd.results76 _ _ (w.heap.size + 1) 44 u.idle.arr (0, 0) _ rfl (setRow_heap _ _ _ u.idle.arr _ _ hr5) Tryd.underlying44 rfl infoUnit) rfl ⟨?_, hall, ?_⟩
      · rw [HA.out]
      · rw [HA.out]
        exact (hts.fr0 hf5).fr ((Fr.refl [w.heap.size + 1] w5).setRow _ _ (by simp)) (by simp; omega) (by simp; omega) (by simp; omega) (by simp; omega)
    · rw [if_pos rfl] at hplace
      obtain ⟨v, hv, hvid⟩ := placeOf_get hplace
      obtain ⟨hvon, hvl1, hvl2⟩ := hall v (List.mem_of_getElem? hv)
      have hil : i < t.us.length := (List.getElem?_eq_some_iff.1 hv).1
      have hlen := h.len
      have hcx := hts.gv.c
      obtain ⟨c0, c1, c2, c3, c4, c5, c6, c7, c8, c9, c10⟩ := hts.row.ppl.at hv
      have HV := (show Hid _ from hv)
      have HPL := (show Hid _ from hplace)
      clear hv hplace hrx K0 HS KF hall hvid
      go_wp2_with fail
      refine (cellOf_any v _).mono ?_
      rintro e w3 ⟨rfl, hf3⟩
      obtain ⟨p0, p1, p2, p3⟩ := onB_iff.1 hon
      obtain ⟨p4, p5, p6, p7⟩ := onB_iff.1 hvon
      go_wp2_with fail
      have hfg : Fr [] wc (w3.alloc (.cells #[ii v.x, ii v.y] 96)) := hf3.alloc _
      have hgg : (w3.alloc (.cells #[ii v.x, ii v.y] 96)).heap[w3.heap.size]? = some (.cells #[ii v.x, ii v.y] 96) := hp_new _ _
      have hlg : w.heap.size + 1 < w3.heap.size := Nat.lt_of_lt_of_le hl hf3.size
      obtain ⟨g, hg⟩ : ∃ g, g = w3.heap.size := ⟨_, rfl⟩
      obtain ⟨WG, hWG⟩ : ∃ W, W = w3.alloc (.cells #[ii v.x, ii v.y] 96) := ⟨_, rfl⟩
      rw [← hWG] at hfg hgg ⊢
      rw [← hg] at hgg hlg ⊢
      have hwg := hwx.then0 hfg
      have hug := hfg.heap0 hux
      have htg := hts.fr0 hfg
      have hsg := hsx.fr0 hfg
      have hrg := hfg.heap0 HRX.out
      have HRG := (show Hid _ from hrg)
      clear hWG hg hf3 hux hts hsx hrg hcx c0 c1 c2 c3 c4 c5 c6 c7 c8 c9 c10 HRX hfg hwx
      obtain ⟨A, hA⟩ : ∃ A, adjB u.x u.y v.x v.y = A := ⟨_, rfl⟩
      have HAA := (show Hid _ from hA)
      clear hA
      have HS7 : ∀ w', Fr [] WG w' → (fun w' : World => Fr [] WG w' ∧ w'.cell? ⟨w.heap.size, 0, none⟩ = some (ii u.id) ∧ w'.cell? ⟨w.heap.size, 1, none⟩ = some (ii u.owner) ∧ w'.cell? ⟨w.heap.size, 2, none⟩ = some (ii u.kind) ∧ w'.cell? ⟨w.heap.size, 3, none⟩ = some (ii u.x) ∧ w'.cell? ⟨w.heap.size, 4, none⟩ = some (ii u.y) ∧ w'.cell? ⟨w.heap.size, 5, none⟩ = some (ii u.life) ∧ w'.cell? ⟨w.heap.size, 6, none⟩ = some (ii u.load) ∧ w'.cell? ⟨w.heap.size, 7, none⟩ = some (ii u.what) ∧ w'.cell? ⟨w.heap.size, 8, none⟩ = some (ii u.tox) ∧ w'.cell? ⟨w.heap.size, 9, none⟩ = some (ii u.toy) ∧ w'.cell? ⟨w.heap.size, 10, none⟩ = some (ii u.target) ∧ w'.cell? ⟨g, 0, none⟩ = some (ii v.x) ∧ w'.cell? ⟨g, 1, none⟩ = some (ii v.y)) w' := fun w' hf => by
        have hu := hf.heap0 hug
        have hg := hf.heap0 hgg
        exact ⟨hf, cell_of_heap hu, cell_of_heap hu, cell_of_heap hu, cell_of_heap hu, cell_of_heap hu, cell_of_heap hu, cell_of_heap hu, cell_of_heap hu, cell_of_heap hu, cell_of_heap hu, cell_of_heap hu, cell_of_heap hg, cell_of_heap hg⟩
      have K7 := HS7 WG.drew ((Fr.refl [] WG).drew)
      go_cut [34] (fun s34 wx => s34 = .bool (!A) ∧ Fr [] WG wx)
      case first =>
        go_region_held (fun w' : World => Fr [] WG w' ∧ w'.cell? ⟨w.heap.size, 0, none⟩ = some (ii u.id) ∧ w'.cell? ⟨w.heap.size, 1, none⟩ = some (ii u.owner) ∧ w'.cell? ⟨w.heap.size, 2, none⟩ = some (ii u.kind) ∧ w'.cell? ⟨w.heap.size, 3, none⟩ = some (ii u.x) ∧ w'.cell? ⟨w.heap.size, 4, none⟩ = some (ii u.y) ∧ w'.cell? ⟨w.heap.size, 5, none⟩ = some (ii u.life) ∧ w'.cell? ⟨w.heap.size, 6, none⟩ = some (ii u.load) ∧ w'.cell? ⟨w.heap.size, 7, none⟩ = some (ii u.what) ∧ w'.cell? ⟨w.heap.size, 8, none⟩ = some (ii u.tox) ∧ w'.cell? ⟨w.heap.size, 9, none⟩ = some (ii u.toy) ∧ w'.cell? ⟨w.heap.size, 10, none⟩ = some (ii u.target) ∧ w'.cell? ⟨g, 0, none⟩ = some (ii v.x) ∧ w'.cell? ⟨g, 1, none⟩ = some (ii v.y))
          (first | with_reducible exact K7 | with_reducible exact HS7 _ hfk)
          (first | (go_at_call 56; refine (cellOf_any u _).mono ?_; rintro e w1 ⟨rfl, hf1⟩; have hfk : Fr [] WG w1 := Fr.then0 (And.left (by assumption)) hf1) | (go_at_call 89; refine (adjacent_any u.x u.y v.x v.y _ (hsg.fr0 (And.left (by assumption))) (by omega) (by omega) (by omega) (by omega) (by omega) (by omega) (by omega) (by omega)).mono ?_; rintro e w1 ⟨rfl, hf1⟩; rw [HAA.out]; have hfk : Fr [] WG w1 := Fr.then0 (And.left (by assumption)) hf1))
        all_goals
          go_wp2_with fail
          go_meet
          exact ⟨rfl, hfk⟩
      case rest =>
        obtain ⟨rfl, hfy⟩ := hcut
        have hwy := hwg.then0 hfy
        have huy := hfy.heap0 hug
        have hgy := hfy.heap0 hgg
        have hry := hfy.heap0 HRG.out
        have hty := htg.fr0 hfy
        have hsy := hsg.fr0 hfy
        have HRY := (show Hid _ from hry)
        clear hug hgg htg hsg HS7 K7 hry
        cases A
        · have hact : actHit t u = (u.to (wayTo t u fun c => adjB v.x v.y c.1 c.2), t.moved u (wayTo t u fun c => adjB v.x v.y c.1 c.2)) := by
            unfold actHit; rw [HPL.out]; simp only [HV.out]; rw [HAA.out]; rfl
          have HA := (show Hid _ from hact)
          clear hact
          have hmf : ∀ (fn : Fn) (first cap : Array Value) (w : World), (Instr.makeFunc fn first cap).run Tryd.prog w = .ok (.func fn first cap) w := fun _ _ _ _ => rfl
          go_wp2_with (first | (refine wpList_load_row rfl 44 _ rfl w.heap.size rfl 44 u.arr (0, 0) _ huy Tryd.underlying44 rfl infoUnit ?_) | (refine wpList_load_row rfl 96 _ rfl g rfl 96 #[ii v.x, ii v.y] (0, 0) _ hgy Tryd.underlying96 rfl infoCell2 ?_))
          refine (goB_any tb pb cap hb bb t u v.x v.y _ hty hsy hon hvon).mono ?_
          rintro e w5 ⟨rfl, hf5, ht5⟩
          have hr5 := hf5.heap HRY.out (by simp; omega)
          obtain ⟨q, hq⟩ : ∃ q, q = u.to (bfs (fun c => freeB (heldV t.held) t.bd c.1 c.2) (fun c => adjB v.x v.y c.1 c.2) (u.x, u.y)) := ⟨_, rfl⟩
          rw [← hq]
          have HQ := (show Hid _ from hq)
          clear hq
          go_wp2_with (refine wpList_store_row rfl 44 _ _ rfl (w.heap.size + 1) q.arr rfl rfl 44 _ hr5 infoUnit rfl (U.one _) ?_)
          have hall : Fr [tb, pb, hb, bb] w (w5.setRow (w.heap.size + 1) q.arr) := ((hwy.of0 (S := [tb, pb, hb, bb])).trans hf5 (by simp)).setRow _ _ (Or.inr (by omega))
          refine bodyPost_ret (v := q.val) (results_cell_row Tryd.results76 _ _ (w.heap.size + 1) 44 q.arr (0, 0) _ rfl (setRow_heap _ _ _ q.arr _ _ hr5) Tryd.underlying44 rfl infoUnit) rfl ⟨?_, hall, ?_⟩
          · rw [HA.out, HQ.out]; rfl
          · rw [HA.out]
            exact ht5.fr ((Fr.refl [w.heap.size + 1] w5).setRow _ _ (by simp)) (by simp; omega) (by simp; omega) (by simp; omega) (by simp; omega)
        · have hact : actHit t u = (u, t.harm i) := by
            unfold actHit; rw [HPL.out]; simp only [HV.out]; rw [HAA.out]; rfl
          have HA := (show Hid _ from hact)
          clear hact
          go_wp2_with (first | (go_at_call 90; refine (harm_any tb pb cap hb bb t i v _ hty HV.out ⟨hvl1, hvl2⟩).mono ?_; rintro e w5 ⟨rfl, hf5, ht5⟩; have hu5 := hf5.heap huy (by simp; omega); have hr5 := hf5.heap HRY.out (by simp; omega); have HR5 := (show Hid _ from hr5); clear hr5) | (refine wpList_load_row rfl 44 _ rfl w.heap.size rfl 44 u.arr (0, 0) _ hu5 Tryd.underlying44 rfl infoUnit ?_) | (refine wpList_store_row rfl 44 _ _ rfl (w.heap.size + 1) u.arr rfl rfl 44 _ HR5.out infoUnit rfl (U.one _) ?_))
          have hall : Fr [tb, pb, hb, bb] w (w5.setRow (w.heap.size + 1) u.arr) := ((hwy.of0 (S := [tb, pb, hb, bb])).trans hf5 (by simp)).setRow _ _ (Or.inr (by omega))
          refine bodyPost_ret (v := u.val) (results_cell_row Tryd.results76 _ _ (w.heap.size + 1) 44 u.arr (0, 0) _ rfl (setRow_heap _ _ _ u.arr _ _ HR5.out) Tryd.underlying44 rfl infoUnit) rfl ⟨?_, hall, ?_⟩
          · rw [HA.out]
          · rw [HA.out]
            exact ht5.fr ((Fr.refl [w.heap.size + 1] w5).setRow _ _ (by simp)) (by simp; omega) (by simp; omega) (by simp; omega) (by simp; omega)
end Go.Proofs.YtapabahhfanmmaaDoor
