import Derived.Test.YtapabahhfanmmaaGreatDoorCRow12
import Derived.Test.YtapabahhfanmmaaGreatDoorCLift
import Derived.Test.YtapabahhfanmmaaGreatDoorCBuild
/- The law's own commands. -/
namespace Go.Proofs.YtapabahhfanmmaaGreatDoor
open Go.RowKit


theorem own_base' {w : World} {base n : Nat} {e : TypeId} {size : Nat} {v : Value} {xs : List Value} (h : w.ownsRow base e size v n xs) {b : Nat} (hb : v.ownBlock = some b) : base ≤ b := by
  rcases h.2 with ⟨h1, _⟩ | ⟨g, cap, cur, rfl, h1, _⟩
  · rw [h1] at hb; simp [Value.ownBlock] at hb
  · simp [Value.ownBlock] at hb; omega
theorem own_len {w : World} {base n : Nat} {e : TypeId} {size : Nat} {v : Value} {xs : List Value} (h : w.ownsRow base e size v n xs) : ∃ ao c, v = .slice ao n c := by
  rcases h.2 with ⟨h1, h2⟩ | ⟨g, cap, cur, rfl, h1, _⟩
  · exact ⟨none, 0, by rw [h1, h2]⟩
  · exact ⟨_, _, rfl⟩
theorem infoCm : (Tryz.prog.info? 81).map (·.size) = some 5 := by kernel_rfl
theorem pk_bd (c n : Int) (h : 0 < n) : 0 ≤ pk c n ∧ pk c n < n := by
  unfold pk
  exact ⟨Int.emod_nonneg _ (by omega), Int.emod_lt_of_pos _ h⟩
structure MineI (w : World) (ms : List U) (v : Value) (wr : World) : Prop where
  own : wr.ownsRow w.heap.size 85 11 v ms.length (ms.flatMap U.cells)
  fr : Fr [] w wr

set_option maxRecDepth 100000 in
set_option maxHeartbeats 2000000 in
theorem lawCommand_any (gb pb cap : Nat) (t : T) (ow o1 o2 o3 o4 o5 : Int) (w : World) (h : GS w gb pb cap t) (hl : t.us.length ≤ 100) (h1 : I64 o1) (h2 : I64 o2) (h3 : I64 o3) (h4 : I64 o4) (h5 : I64 o5) :
    Calls Tryz.prog 40 #[.pointer (some ⟨gb, 0, none⟩), .int .i64 ow, .agg #[ii o1, ii o2, ii o3, ii o4, ii o5]] w fun e w' => ∃ c : Cm, e = .returned c.val ∧ Fr [] w w' := by
  go_enter Tryz.func40, Tryz.ntmps40
  go_wp2_with fail
  obtain ⟨W0, hW0⟩ : ∃ W, W = (w.alloc (.cells #[ii o1, ii o2, ii o3, ii o4, ii o5] 43)).alloc (.cells #[ii 0, ii 0, ii 0, ii 0, ii 0] 81) := ⟨_, rfl⟩
  rw [← hW0]
  have hs0 : W0.heap.size = w.heap.size + 1 + 1 := by rw [hW0]; simp
  have h00 : Fr [] w W0 := by rw [hW0]; exact ((Fr.refl _ _).alloc _).alloc _
  have hO : W0.heap[w.heap.size]? = some (.cells #[ii o1, ii o2, ii o3, ii o4, ii o5] 43) := by rw [hW0, hp_old2]
  have hR : W0.heap[w.heap.size + 1]? = some (.cells #[ii 0, ii 0, ii 0, ii 0, ii 0] 81) := by rw [hW0, hp_new2]
  clear hW0
  refine Calls.mono (people_any gb pb cap t _ (h.fr h00 (by simp) (by simp))) ?_
  rintro e w1 ⟨pb', cap', rfl, hb', hrow', hf1⟩
  dsimp only
  go_wp2_with fail
  obtain ⟨inf, hi0, hz0, hz1, hz2⟩ := info_parts infoU
  go_loopw [8, 9] (fun v i wr => ∃ k : Nat, k ≤ t.us.length ∧ i = .int .i64 k ∧ ∃ ms : List U, MineI w1 ms v wr ∧ ms.length ≤ k) (fun _ i _ => t.us.length - (intOf i).toNat)
  case atStart => exact ⟨0, Nat.zero_le _, rfl, [], ⟨⟨rfl, Or.inl ⟨rfl, rfl⟩⟩, Fr.refl _ _⟩, Nat.le_refl _⟩
  case round =>
    obtain ⟨k, hk, rfl, ms, ⟨hown, hfr⟩, hmk⟩ := hrel
    have hrw := hrow'.fr hfr (by simp)
    by_cases hlt : k < t.us.length
    · obtain ⟨u, hu⟩ : ∃ u, t.us[k]? = some u := ⟨t.us[k], List.getElem?_eq_getElem hlt⟩
      obtain ⟨c0, c1, c2, c3, c4, c5, c6, c7, c8, c9, c10⟩ := hrw.ppl.at hu
      by_cases how : u.owner = ow
      · have HN : Hid (∀ (W : World) (j : Nat) (x : Value), u.cells[j]? = some x → (W.alloc (.cells u.arr 85)).cell? ((⟨W.heap.size, 0, none⟩ : Addr).add j) = some x) := by
          intro W j x hx
          rw [Addr.add_lit, Nat.zero_add, cell_of_heap (hp_new W _)]
          simpa using hx
        have HB1 : Hid (∀ b, u8.ownBlock = some b → w1.heap.size ≤ b) := fun b hb => own_base' hown hb
        have HOW : Hid ((wr.alloc (.cells u.arr 85)).ownsRow w1.heap.size 85 11 u8 ms.length (ms.flatMap U.cells)) := owns_fr hown ((Fr.refl [] wr).alloc _) (by simp)
        have hwr := hfr.size
        clear hown
        subst how
        go_wp2_with (at_builtin; refine wpList_append_own _ rfl _ _ 82 rfl w1.heap.size 85 inf zeroU.val 11 88 Tryz.underlying82 hi0 hz0 hz1 hz2 rfl (by decide) u8 ms.length (ms.flatMap U.cells) rfl HOW.out ⟨wr.heap.size, 0, none⟩ 1 1 u.cells rfl rfl (HN.out wr) (by simp [Value.oneCell']) (by unfold maxLen; omega) (by omega) (by simp; omega) ?_; intro v' w3 hown3 hgrow hnil3)
        have hf3 : Fr [] w1 w3 := (hfr.alloc _).grow hgrow (fun g hg => Or.inr (HB1.out g hg))
        go_roundw
        case rel =>
          refine ⟨k + 1, hlt, by go_num, ms ++ [u], ⟨?_, hf3⟩, by simp; omega⟩
          rw [List.length_append, List.flatMap_append]
          simpa using hown3
        case measure => simp [intOf]; omega
      · have hne : (u.owner == ow) = false := by simpa using how
        go_wp2_with fail
        go_roundw
        case rel => exact ⟨k + 1, hlt, by go_num, ms, ⟨hown, hfr⟩, by omega⟩
        case measure => simp [intOf]; omega
    · have hke : k = t.us.length := by omega
      subst hke
      have hw1 : Fr [] W0 wr := hf1.then0 hfr
      have hO1 := hw1.heap0 hO
      have hR1 := hw1.heap0 hR
      have hwr : Fr [] w wr := h00.then0 hw1
      have hszr := hwr.size
      have HO1 := (show Hid _ from hO1)
      have HR1 := (show Hid _ from hR1)
      have HWR := (show Hid _ from hwr)
      clear hO hR hf1 hfr hO1 hR1 hwr
      by_cases hm0 : ms.length = 0
      · obtain ⟨ao, lc, rfl⟩ : ∃ ao lc, u8 = .slice ao 0 lc := by
          obtain ⟨ao, lc, e⟩ := own_len hown
          rw [hm0] at e
          exact ⟨ao, lc, e⟩
        clear hown
        have hR2 := HR1.out
        go_wp2_with (refine wpList_store_row rfl 81 _ _ rfl (w.heap.size + 1) #[ii 0, ii 0, ii 0, ii 0, ii 0] rfl rfl 81 _ hR2 infoCm rfl (by simp [Value.oneCell']) ?_)
        exact bodyPost_ret (v := Cm.val ⟨0, 0, 0, 0, 0⟩) (results_cell_row Tryz.results40 _ _ (w.heap.size + 1) 81 #[ii 0, ii 0, ii 0, ii 0, ii 0] (0, 0) _ rfl (setRow_heap _ _ _ _ _ _ hR2) Tryz.underlying81 rfl infoCm) rfl ⟨⟨0, 0, 0, 0, 0⟩, rfl, HWR.out.setRow _ _ (Or.inr (by omega))⟩
      · obtain ⟨mb, mc, rfl, hmb, hmrow⟩ := PRow.of_owns hown rfl (by omega)
        obtain ⟨jn, hj⟩ : ∃ jn : Nat, pk o1 ms.length = jn := ⟨(pk o1 ms.length).toNat, by have := (pk_bd o1 ms.length (by omega)).1; omega⟩
        have hjl : jn < ms.length := by have := (pk_bd o1 ms.length (by omega)).2; omega
        obtain ⟨u, hu⟩ : ∃ u, ms[jn]? = some u := ⟨ms[jn], List.getElem?_eq_getElem hjl⟩
        obtain ⟨ln, hln⟩ : ∃ ln : Nat, pk o5 t.us.length = ln := ⟨(pk o5 t.us.length).toNat, by have := (pk_bd o5 t.us.length (by omega)).1; omega⟩
        have hll : ln < t.us.length := by have := (pk_bd o5 t.us.length (by omega)).2; omega
        obtain ⟨x, hx⟩ : ∃ u, t.us[ln]? = some u := ⟨t.us[ln], List.getElem?_eq_getElem hll⟩
        obtain ⟨x2, hx2⟩ : ∃ x2, pk o3 2 = x2 := ⟨_, rfl⟩
        have hx2b : 0 ≤ x2 ∧ x2 < 2 := by rw [← hx2]; exact pk_bd o3 2 (by omega)
        obtain ⟨q2, hq2⟩ : ∃ x, pk o2 5 = x := ⟨_, rfl⟩
        obtain ⟨q3, hq3⟩ : ∃ x, pk o3 12 = x := ⟨_, rfl⟩
        obtain ⟨q4, hq4⟩ : ∃ x, pk o4 12 = x := ⟨_, rfl⟩
        obtain ⟨c0, c1, c2, c3, c4, c5, c6, c7, c8, c9, c10⟩ := hmrow.ppl.at hu
        have d0 := (hrw.ppl.at hx).1
        have b0 : wr.cell? ⟨w.heap.size, 0, none⟩ = some (ii o1) := cell_of_heap HO1.out
        have b1 : wr.cell? ⟨w.heap.size, 1, none⟩ = some (ii o2) := cell_of_heap HO1.out
        have b2 : wr.cell? ⟨w.heap.size, 2, none⟩ = some (ii o3) := cell_of_heap HO1.out
        have b3 : wr.cell? ⟨w.heap.size, 3, none⟩ = some (ii o4) := cell_of_heap HO1.out
        have b4 : wr.cell? ⟨w.heap.size, 4, none⟩ = some (ii o5) := cell_of_heap HO1.out
        have hmlt := hmrow.lt
        have hplt := hrw.lt
        have P1 := (show Hid _ from fun W : World => hj ▸ pick_any o1 ms.length W (by omega) h1.1 h1.2)
        have P2 := (show Hid _ from fun W : World => hq2 ▸ pick_any o2 5 W (by omega) h2.1 h2.2)
        have P3 := (show Hid _ from fun W : World => hq3 ▸ pick_any o3 12 W (by omega) h3.1 h3.2)
        have P4 := (show Hid _ from fun W : World => hq4 ▸ pick_any o4 12 W (by omega) h4.1 h4.2)
        have P5 := (show Hid _ from fun W : World => hln ▸ pick_any o5 t.us.length W (by omega) h5.1 h5.2)
        have P6 := (show Hid _ from fun W : World => hx2 ▸ pick_any o3 2 W (by omega) h3.1 h3.2)
        clear hown hj hln hx2 hq2 hq3 hq4 hu hx
        go_wp2_with (go_at_call 18; first | (with_reducible refine Calls.mono (P1.out _) ?_; rintro e w2 ⟨rfl, rfl⟩) | (with_reducible refine Calls.mono (P2.out _) ?_; rintro e w2 ⟨rfl, rfl⟩) | (with_reducible refine Calls.mono (P3.out _) ?_; rintro e w2 ⟨rfl, rfl⟩) | (with_reducible refine Calls.mono (P4.out _) ?_; rintro e w2 ⟨rfl, rfl⟩) | (with_reducible refine Calls.mono (P5.out _) ?_; rintro e w2 ⟨rfl, rfl⟩) | (with_reducible refine Calls.mono (P6.out _) ?_; rintro e w2 ⟨rfl, rfl⟩))
        obtain ⟨WA, hWA⟩ : ∃ W, W = wr.alloc (.cells u.arr 85) := ⟨_, rfl⟩
        rw [← hWA]
        have hfa : Fr [] wr WA := by rw [hWA]; exact (Fr.refl _ _).alloc _
        have hsa : WA.heap.size = wr.heap.size + 1 := by rw [hWA]; simp
        have hUA : WA.heap[wr.heap.size]? = some (.cells u.arr 85) := by rw [hWA]; exact hp_new _ _
        have hlo := lt_of_heap HO1.out
        have hlr := lt_of_heap HR1.out
        have HS : ∀ w', Fr [] WA w' → (fun w' : World => Fr [] WA w' ∧ w'.cell? ⟨wr.heap.size, 0, none⟩ = some (ii u.id) ∧ w'.cell? ⟨w.heap.size, 1, none⟩ = some (ii o2) ∧ w'.cell? ⟨w.heap.size, 2, none⟩ = some (ii o3) ∧ w'.cell? ⟨w.heap.size, 3, none⟩ = some (ii o4) ∧ w'.cell? ⟨w.heap.size, 4, none⟩ = some (ii o5) ∧ w'.cell? ⟨pb', ln * 11, none⟩ = some (ii x.id)) w' := fun w' hf => ⟨hf, cell_of_heap (hf.heap0 hUA), ((hfa.then0 hf).cell _ _ hlo (by simp)).trans b1, ((hfa.then0 hf).cell _ _ hlo (by simp)).trans b2, ((hfa.then0 hf).cell _ _ hlo (by simp)).trans b3, ((hfa.then0 hf).cell _ _ hlo (by simp)).trans b4, ((hfa.then0 hf).cell _ _ hplt (by simp)).trans d0⟩
        have KF : Fr [] WA WA.drew := (Fr.refl _ _).drew
        have K0 := HS _ KF
        have KA : ∀ o, Fr [] WA (WA.alloc o).drew := fun o => ((Fr.refl _ _).alloc o).drew
        clear hWA c0 c1 c2 c3 c4 c5 c6 c7 c8 c9 c10 b0 b1 b2 b3 b4 d0
        go_cut [11] (fun s11 wx => ∃ cb : Nat, s11 = .pointer (some ⟨cb, 0, none⟩) ∧ wx.heap[cb]? = some (.cells #[ii u.id, ii q2, ii q3, ii q4, ii x.id] 81) ∧ wr.heap.size < cb ∧ Fr [] WA wx)
        case first =>
          go_region_held (fun w' : World => Fr [] WA w' ∧ w'.cell? ⟨wr.heap.size, 0, none⟩ = some (ii u.id) ∧ w'.cell? ⟨w.heap.size, 1, none⟩ = some (ii o2) ∧ w'.cell? ⟨w.heap.size, 2, none⟩ = some (ii o3) ∧ w'.cell? ⟨w.heap.size, 3, none⟩ = some (ii o4) ∧ w'.cell? ⟨w.heap.size, 4, none⟩ = some (ii o5) ∧ w'.cell? ⟨pb', ln * 11, none⟩ = some (ii x.id))
            (first | with_reducible exact K0 | with_reducible exact HS _ (KA _))
            (first | (go_at_call 18; with_reducible refine Calls.mono (P2.out _) ?_; rintro e w2 ⟨rfl, rfl⟩) | (go_at_call 18; with_reducible refine Calls.mono (P3.out _) ?_; rintro e w2 ⟨rfl, rfl⟩) | (go_at_call 18; with_reducible refine Calls.mono (P4.out _) ?_; rintro e w2 ⟨rfl, rfl⟩) | (go_at_call 18; with_reducible refine Calls.mono (P5.out _) ?_; rintro e w2 ⟨rfl, rfl⟩))
          all_goals
            go_wp2_with fail
            go_meet
            exact ⟨wr.heap.size + 1, rfl, by rw [← hsa]; exact hp_new WA _, by omega, KA _⟩
        case rest =>
          obtain ⟨cb, rfl, hcb, hlcb, hfx⟩ := hcut
          have hwx : Fr [] wr wc := hfa.then0 hfx
          have ku : wc.cell? ⟨wr.heap.size, 2, none⟩ = some (ii u.kind) := cell_of_heap (hfx.heap0 hUA)
          have ko : wc.cell? ⟨w.heap.size, 2, none⟩ = some (ii o3) := cell_of_heap (hwx.heap0 HO1.out)
          have k0 : wc.cell? ⟨cb, 0, none⟩ = some (ii u.id) := cell_of_heap hcb
          have k1 : wc.cell? ⟨cb, 1, none⟩ = some (ii q2) := cell_of_heap hcb
          have k2 : wc.cell? ⟨cb, 2, none⟩ = some (ii q3) := cell_of_heap hcb
          have z1 : wc.frozen? ⟨cb, 1, none⟩ = false := frozen_of_heap hcb
          have z2 : wc.frozen? ⟨cb, 2, none⟩ = false := frozen_of_heap hcb
          have n1 : ¬ cb = w.heap.size := by omega
          have n2 : ¬ w.heap.size = cb := by omega
          have HRX := (show Hid _ from hwx.heap0 HR1.out)
          have HWX := (show Hid _ from HWR.out.then0 hwx)
          have HCB := (show Hid _ from hcb)
          have hlx := hwx.size
          clear HS K0 KA KF hcb hUA hfx hfa hwx P1 P2 P3 P4 P5 hrw hmrow hrow'
          obtain ⟨ty, hty⟩ : ∃ k : Int, u.kind = k := ⟨_, rfl⟩
          rw [hty] at ku
          clear hty
          by_cases hk1 : ty = 1
          · subst hk1
            have hUU : ((wc.setCell ⟨cb, 1, none⟩ (.int .i64 4)).setCell ⟨cb, 2, none⟩ (.int .i64 (2 + x2))).heap[cb]? = some (.cells #[ii u.id, ii 4, ii (2 + x2), ii q4, ii x.id] 81) := by
              have h1 := set_arr HCB.out 1 (.int .i64 4)
              have h2 := set_arr h1 2 (.int .i64 (2 + x2))
              simpa using h2
            have hRU : ((wc.setCell ⟨cb, 1, none⟩ (.int .i64 4)).setCell ⟨cb, 2, none⟩ (.int .i64 (2 + x2))).heap[w.heap.size + 1]? = some (.cells #[ii 0, ii 0, ii 0, ii 0, ii 0] 81) := by
              rw [Below.heap_setCell _ _ _ _ (by simp; omega), Below.heap_setCell _ _ _ _ (by simp; omega)]; exact HRX.out
            go_wp2_with (first | (go_at_call 18; with_reducible refine Calls.mono (P6.out _) ?_; rintro e w2 ⟨rfl, rfl⟩) | (refine wpList_load_row rfl 81 _ rfl cb rfl 81 #[ii u.id, ii 4, ii (2 + x2), ii q4, ii x.id] (0, 0) _ hUU Tryz.underlying81 rfl infoCm ?_) | (refine wpList_store_row rfl 81 _ _ rfl (w.heap.size + 1) #[ii u.id, ii 4, ii (2 + x2), ii q4, ii x.id] rfl rfl 81 _ hRU infoCm rfl (by simp [Value.oneCell']) ?_))
            exact bodyPost_ret (v := Cm.val ⟨u.id, 4, 2 + x2, q4, x.id⟩) (results_cell_row Tryz.results40 _ _ (w.heap.size + 1) 81 #[ii u.id, ii 4, ii (2 + x2), ii q4, ii x.id] (0, 0) _ rfl (setRow_heap _ _ _ _ _ _ hRU) Tryz.underlying81 rfl infoCm) rfl ⟨⟨u.id, 4, 2 + x2, q4, x.id⟩, rfl, ((HWX.out.setCell _ _ (Or.inr (by show w.heap.size ≤ cb; omega))).setCell _ _ (Or.inr (by show w.heap.size ≤ cb; omega))).setRow _ _ (Or.inr (by omega))⟩
          · have hk1' : (ty == 1) = false := by simpa using hk1
            have hc := HCB.out
            have hR3 := HRX.out
            obtain ⟨c, hcc⟩ : ∃ c : Cm, c = ⟨u.id, q2, q3, q4, x.id⟩ := ⟨_, rfl⟩
            have hc' : wc.heap[cb]? = some (.cells #[ii c.unit, ii c.what, ii c.x, ii c.y, ii c.target] 81) := by rw [hcc]; exact hc
            clear hc hcc k0 k1 k2 z1 z2 ko
            go_wp2_with (first | (refine wpList_load_row rfl 81 _ rfl cb rfl 81 #[ii c.unit, ii c.what, ii c.x, ii c.y, ii c.target] (0, 0) _ hc' Tryz.underlying81 rfl infoCm ?_) | (refine wpList_store_row rfl 81 _ _ rfl (w.heap.size + 1) #[ii c.unit, ii c.what, ii c.x, ii c.y, ii c.target] rfl rfl 81 _ hR3 infoCm rfl (by simp [Value.oneCell']) ?_))
            exact bodyPost_ret (v := c.val) (results_cell_row Tryz.results40 _ _ (w.heap.size + 1) 81 #[ii c.unit, ii c.what, ii c.x, ii c.y, ii c.target] (0, 0) _ rfl (setRow_heap _ _ _ _ _ _ hR3) Tryz.underlying81 rfl infoCm) rfl ⟨c, rfl, HWX.out.setRow _ _ (Or.inr (by omega))⟩
end Go.Proofs.YtapabahhfanmmaaGreatDoor
