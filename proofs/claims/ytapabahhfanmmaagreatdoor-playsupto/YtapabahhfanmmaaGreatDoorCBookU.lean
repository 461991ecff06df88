import Derived.Test.YtapabahhfanmmaaGreatDoorCBookW
import Derived.Test.YtapabahhfanmmaaGreatDoorCHit
import Derived.Test.YtapabahhfanmmaaGreatDoorCTwoFree
namespace Go.Proofs.YtapabahhfanmmaaGreatDoor
open Go.RowKit
theorem infoSU : (Tryz.prog.info? 82).map (fun i => (i.zero, i.size, i.bytes)) = some (some (.slice none 0 0), 1, 24) := by kernel_rfl
theorem rep_flat (m : Int) : ∀ n, (List.replicate n (markU m)).flatMap U.cells = pats 11 (patU m) n
 | 0 => rfl
 | n + 1 => by
  rw [List.replicate_succ', List.flatMap_append, rep_flat m n, ← pats_app (patU_per m) n 1, patsU_1]
  simp
theorem rep_set {α : Type} (x : α) (us : List α) (k : Nat) (hk : k < us.length) : (List.replicate k x ++ us.drop k).set k x = List.replicate (k + 1) x ++ us.drop (k + 1) := by
  rw [List.set_append_right _ _ (by simp), List.length_replicate, Nat.sub_self, List.drop_eq_getElem_cons hk, List.set_cons_zero, List.replicate_succ', List.append_assoc]
  rfl
structure FolkI (W : World) (pb cap : Nat) (us : List U) (m : Int) (k : Nat) (wr : World) : Prop where
  row : PRow wr pb cap (List.replicate k (markU m) ++ us.drop k)
  fr : Fr [pb] W wr
theorem FolkI.put {W : World} {pb cap : Nat} {us : List U} {m : Int} {k : Nat} {wr : World} (h : FolkI W pb cap us m k wr) (hk : k < us.length) : FolkI W pb cap us m (k + 1) (wr.setCells pb (k * 11) (markU m).cells) := by
 refine ⟨?_, Fr.setCells pb _ _ _ h.fr (Or.inl (by simp))⟩
 have := h.row.put (i := k) (by simp; omega) (markU m)
 rw [rep_set _ _ _ hk] at this
 exact this
set_option maxRecDepth 100000 in
set_option maxHeartbeats 2000000 in
theorem ownsPeople_any (bb N pb cap base : Nat) (K : List Nat) (us : List U) (w : World) (h : Bk w bb K N) (hN : N ≤ 2000000) (hrow : PRow w pb cap us) (hul : us.length ≤ 1000) (hpb : base ≤ pb) (hbb : bb < base) (hK : ∀ x ∈ K, x < base) :
    Calls Tryz.prog 100 #[.pointer (some ⟨bb, 0, none⟩), .slice (some ⟨pb, 0, none⟩) us.length cap] w fun e w' => e = .returned (.tuple #[]) ∧ OwnP w bb N K [pb] w' := by
  obtain ⟨infU, hu0, hv0, hv1, hv2⟩ := info_parts infoU
  obtain ⟨infI, hi0, hz0, hz1, hz2⟩ := info_parts infoI'
  obtain ⟨infS, hj0, hy0, hy1, hy2⟩ := info_parts infoSU
  have hpl := hrow.lt
  obtain ⟨⟨rv, xs, nx, KL, h1, h2, h3, h4, h5, h6, h7, h8, h9, h10, h11⟩, hnb, hkl⟩ := h
  have hnx := h1.nxt
  have hnz := h1.fz 9
  have hbl := h1.lt
  have hbp : bb ≠ pb := by omega
  obtain ⟨m, hm⟩ : ∃ m, m = nx - 1 := ⟨_, rfl⟩
  obtain ⟨W0, hW0⟩ : ∃ W, W = w.setCell ⟨bb, 9, none⟩ (.int .i64 m) := ⟨_, rfl⟩
  have hf00 : Fr [bb] w W0 := by rw [hW0]; exact (Fr.refl _ _).setCell _ _ (by simp)
  have HBR0 : Hid (BR W0 bb rv xs m) := by
    show BR W0 bb rv xs m
    rw [hW0]; exact h1.mark m
  have HBL0 : Hid (BL W0 KL xs) := h2.fr hf00 (fun b hb e => hnb (by have : b = bb := by simpa using e
                                                                     subst this; exact (h11 b hb).1))
  have HROW0 : Hid (PRow W0 pb cap us) := hrow.fr hf00 (by simp; omega)
  have HX := (show Hid _ from And.intro h3 (And.intro h4 (And.intro h5 (And.intro h6 (And.intro h7 (And.intro h10 h11))))))
  have HNB := (show Hid _ from hnb)
  have HKL := (show Hid _ from hkl)
  have hmb : -(3 * (N : Int)) - 1 ≤ m ∧ m ≤ 0 := by omega
  have HM := (show Hid _ from hm)
  have HF00 := (show Hid _ from hf00)
  have hs0 : w.heap.size = W0.heap.size := by rw [hW0]; simp [World.setCell]
  have HS0 := (show Hid _ from hs0)
  have hbl0 : bb < W0.heap.size := HBR0.out.lt
  have hm9 : W0.cell? ⟨bb, 9, none⟩ = some (ii m) := HBR0.out.nxt
  clear h1 h2 h3 h4 h5 h6 h7 h10 h11 hnb hkl hf00 hrow hs0
  go_enter Tryz.func100, Tryz.ntmps100
  go_wp2_with fail
  rw [← hm, ← hW0]
  clear hm hW0 hnx hnz
  go_cut [4] (fun s4 wx => ∃ xb : Nat, s4 = .pointer (some ⟨xb, 0, none⟩) ∧ wx.heap[xb]? = some (.cells (markU m).arr 85) ∧ W0.heap.size ≤ xb ∧ Fr [] W0 wx)
  case first =>
    go_region
    all_goals
      go_wp2_with fail
      go_meet
      exact ⟨_, rfl, hp_new W0 _, Nat.le_refl _, ((Fr.refl _ _).alloc _).drew⟩
  case rest =>
    obtain ⟨xb, rfl, hxh, hxl, hf01⟩ := hcut
    obtain ⟨W1, hW1⟩ : ∃ W, W = wc := ⟨_, rfl⟩
    rw [← hW1] at hxh hf01 ⊢
    clear hW1
    have HF01 := (show Hid _ from hf01)
    have HROW1 : Hid (PRow W1 pb cap us) := HROW0.out.fr hf01 (by simp)
    have HBR1 : Hid (BR W1 bb rv xs m) := HBR0.out.fr hf01 (by simp) (by simp)
    have HBL1 : Hid (BL W1 KL xs) := HBL0.out.fr hf01 (by simp)
    have hxl1 : xb < W1.heap.size := lt_of_heap hxh
    have hxp : xb ≠ pb := by have := HS0.out; omega
    have hxbb : xb ≠ bb := by omega
    have HXC : Hid (∀ W, Fr [pb] W1 W → W.cell? ⟨xb, 0, none⟩ = some (ii m) ∧ W.cell? ⟨xb, 1, none⟩ = some (ii 0) ∧ W.cell? ⟨xb, 2, none⟩ = some (ii 0) ∧ W.cell? ⟨xb, 3, none⟩ = some (ii 0) ∧ W.cell? ⟨xb, 4, none⟩ = some (ii 0) ∧ W.cell? ⟨xb, 5, none⟩ = some (ii m) ∧ W.cell? ⟨xb, 6, none⟩ = some (ii 0) ∧ W.cell? ⟨xb, 7, none⟩ = some (ii 0) ∧ W.cell? ⟨xb, 8, none⟩ = some (ii 0) ∧ W.cell? ⟨xb, 9, none⟩ = some (ii 0) ∧ W.cell? ⟨xb, 10, none⟩ = some (ii 0)) := fun W hf => by
      have hh := hf.heap hxh (by simp; omega)
      exact ⟨cell_of_heap hh, cell_of_heap hh, cell_of_heap hh, cell_of_heap hh, cell_of_heap hh, cell_of_heap hh, cell_of_heap hh, cell_of_heap hh, cell_of_heap hh, cell_of_heap hh, cell_of_heap hh⟩
    clear hf01 hxh hm9
    go_wp2_with fail
    go_loopw [5] (fun j wr => ∃ k : Nat, k ≤ us.length ∧ j = .int .i64 k ∧ FolkI W1 pb cap us m k wr) (fun j _ => us.length - (intOf j).toNat)
    case atStart => exact ⟨0, Nat.zero_le _, rfl, HROW1.out, Fr.refl _ _⟩
    case round =>
      obtain ⟨k, hk, rfl, hI⟩ := hrel
      obtain ⟨e0, e1, e2, e3, e4, e5, e6, e7, e8, e9, e10⟩ := HXC.out wr hI.fr
      by_cases hlt2 : k < us.length
      · have hlti2 : (k : Int) < (us.length : Int) := by omega
        have hth := hI.row.there (i := k) (by simp; omega)
        obtain ⟨o0, d0⟩ := Option.isSome_iff_exists.1 (hth 0 (by omega)).1
        obtain ⟨o1, d1⟩ := Option.isSome_iff_exists.1 (hth 1 (by omega)).1
        obtain ⟨o2, d2⟩ := Option.isSome_iff_exists.1 (hth 2 (by omega)).1
        obtain ⟨o3, d3⟩ := Option.isSome_iff_exists.1 (hth 3 (by omega)).1
        obtain ⟨o4, d4⟩ := Option.isSome_iff_exists.1 (hth 4 (by omega)).1
        obtain ⟨o5, d5⟩ := Option.isSome_iff_exists.1 (hth 5 (by omega)).1
        obtain ⟨o6, d6⟩ := Option.isSome_iff_exists.1 (hth 6 (by omega)).1
        obtain ⟨o7, d7⟩ := Option.isSome_iff_exists.1 (hth 7 (by omega)).1
        obtain ⟨o8, d8⟩ := Option.isSome_iff_exists.1 (hth 8 (by omega)).1
        obtain ⟨o9, d9⟩ := Option.isSome_iff_exists.1 (hth 9 (by omega)).1
        obtain ⟨o10, d10⟩ := Option.isSome_iff_exists.1 (hth 10 (by omega)).1
        have z0 := hI.row.fz (k * 11)
        have z1 := hI.row.fz (k * 11 + 1)
        have z2 := hI.row.fz (k * 11 + 2)
        have z3 := hI.row.fz (k * 11 + 3)
        have z4 := hI.row.fz (k * 11 + 4)
        have z5 := hI.row.fz (k * 11 + 5)
        have z6 := hI.row.fz (k * 11 + 6)
        have z7 := hI.row.fz (k * 11 + 7)
        have z8 := hI.row.fz (k * 11 + 8)
        have z9 := hI.row.fz (k * 11 + 9)
        have z10 := hI.row.fz (k * 11 + 10)
        simp only [Nat.add_zero] at d0
        have HP := (show Hid _ from hI.put hlt2)
        clear hI hth
        go_wp2_with fail
        go_roundw
        case rel => exact ⟨k + 1, hlt2, by go_num, HP.out⟩
        case measure => simp [intOf]; omega
      · have hlti2 : ¬ (k : Int) < (us.length : Int) := by omega
        have hkn : k = us.length := by omega
        obtain ⟨hr2, hf2⟩ := hI
        rw [hkn, List.drop_of_length_le (Nat.le_refl _), List.append_nil] at hr2
        have HO2 : Hid (wr.ownsRow base 85 11 (.slice (some ⟨pb, 0, none⟩) us.length cap) us.length (pats 11 (patU m) us.length)) := by
          obtain ⟨cur, hh, hs, ht⟩ := hr2.h
          rw [List.length_replicate, rep_flat] at ht
          have hle := hr2.le
          rw [List.length_replicate] at hle
          exact ⟨by rw [pats_len], Or.inr ⟨pb, cap, cur, rfl, hpb, hh, hle, hr2.cap, hs, ht⟩⟩
        clear hkn hr2
        obtain ⟨W2, hW2⟩ : ∃ W, W = wr := ⟨_, rfl⟩
        rw [← hW2] at HO2 hf2 e0 e1 e2 e3 e4 e5 e6 e7 e8 e9 e10 ⊢
        clear hW2
        have hb2 : base ≤ W2.heap.size := by have := hf2.size; have := HF01.out.size; have := HS0.out; omega
        have HF2 : Hid (Fr [pb] W1 W2) := hf2
        have HONE : Hid (∀ k, ∀ u ∈ pats 11 (patU m) k, u.oneCell' = true) := fun k u hu => by
          obtain ⟨j, _, rfl⟩ := List.mem_map.1 hu
          have hj : j % 11 < 11 := Nat.mod_lt _ (by omega)
          have : j % 11 = 0 ∨ j % 11 = 1 ∨ j % 11 = 2 ∨ j % 11 = 3 ∨ j % 11 = 4 ∨ j % 11 = 5 ∨ j % 11 = 6 ∨ j % 11 = 7 ∨ j % 11 = 8 ∨ j % 11 = 9 ∨ j % 11 = 10 := by omega
          unfold patU
          rcases this with e | e | e | e | e | e | e | e | e | e | e <;> (rw [e]; rfl)
        have HAL : Hid (∀ (W : World) (cs : Array Value), W.ownsRow base 85 11 (.slice (some ⟨pb, 0, none⟩) us.length cap) us.length (pats 11 (patU m) us.length) → (W.alloc (.cells cs 85)).ownsRow base 85 11 (.slice (some ⟨pb, 0, none⟩) us.length cap) us.length (pats 11 (patU m) us.length)) := fun W cs h => h.alloc _
        have HN1 : Hid (∀ (W : World) (j : Nat) (u : Value), (pats 11 (patU m) 1)[j]? = some u → (W.alloc (.cells #[Value.int IntKind.i64 m, .int .i64 0, .int .i64 0, .int .i64 0, .int .i64 0, .int .i64 m, .int .i64 0, .int .i64 0, .int .i64 0, .int .i64 0, .int .i64 0] 85)).cell? ((⟨W.heap.size, 0, none⟩ : Addr).add j) = some u) := fun W => news_of W (pats 11 (patU m) 1) 85
        have HN2 : Hid (∀ (W : World) (j : Nat) (u : Value), (pats 11 (patU m) 2)[j]? = some u → (W.alloc (.cells #[Value.int IntKind.i64 m, .int .i64 0, .int .i64 0, .int .i64 0, .int .i64 0, .int .i64 m, .int .i64 0, .int .i64 0, .int .i64 0, .int .i64 0, .int .i64 0, Value.int IntKind.i64 m, .int .i64 0, .int .i64 0, .int .i64 0, .int .i64 0, .int .i64 m, .int .i64 0, .int .i64 0, .int .i64 0, .int .i64 0, .int .i64 0] 85)).cell? ((⟨W.heap.size, 0, none⟩ : Addr).add j) = some u) := fun W => news_of W (pats 11 (patU m) 2) 85
        have HN3 : Hid (∀ (W : World) (j : Nat) (u : Value), (pats 11 (patU m) 3)[j]? = some u → (W.alloc (.cells #[Value.int IntKind.i64 m, .int .i64 0, .int .i64 0, .int .i64 0, .int .i64 0, .int .i64 m, .int .i64 0, .int .i64 0, .int .i64 0, .int .i64 0, .int .i64 0, Value.int IntKind.i64 m, .int .i64 0, .int .i64 0, .int .i64 0, .int .i64 0, .int .i64 m, .int .i64 0, .int .i64 0, .int .i64 0, .int .i64 0, .int .i64 0, Value.int IntKind.i64 m, .int .i64 0, .int .i64 0, .int .i64 0, .int .i64 0, .int .i64 m, .int .i64 0, .int .i64 0, .int .i64 0, .int .i64 0, .int .i64 0] 85)).cell? ((⟨W.heap.size, 0, none⟩ : Addr).add j) = some u) := fun W => news_of W (pats 11 (patU m) 3) 85
        have hs2 : W1.heap.size ≤ W2.heap.size := hf2.size
        obtain ⟨l3, hl3⟩ : ∃ l3, (xs 3).length = l3 := ⟨_, rfl⟩
        obtain ⟨a3, q3, hr3⟩ := own_len (HBR1.out.own 3 (by omega))
        rw [hl3] at hr3
        have hl3b : l3 ≤ 4 * N := by have := HX.out.2.2.2.2.1; omega
        have rowpb : ∀ k, k < 5 → (rv k).ownBlock ≠ some pb := fun k hk e => by
          have := hK pb (HX.out.2.2.2.2.2.1 k hk pb e)
          omega
        have HFC : Hid (∀ W, Fr [pb] W1 W → W.cell? ⟨bb, 3, none⟩ = some (.slice a3 l3 q3) ∧ W.frozen? ⟨bb, 3, none⟩ = false ∧ W.ownsRow 0 82 1 (.slice a3 l3 q3) l3 (xs 3) ∧ BR W bb rv xs m ∧ BL W KL xs) := fun W hf => by
          have hbr' := HBR1.out.fr hf (by simp; omega) (fun k hk g hg => by simp; intro e; subst e; exact rowpb k hk hg)
          have hkl : ∀ b ∈ KL, b ∉ [pb] := fun b hb e => by
            have e' : b = pb := by simpa using e
            subst e'
            have := hK b (HX.out.2.2.2.2.2.2 b hb).1
            omega
          refine ⟨by rw [hbr'.cell 3 (by omega), hr3], hbr'.fz 3, ?_, hbr', HBL1.out.fr hf hkl⟩
          have := hbr'.own 3 (by omega)
          rw [hr3, hl3] at this
          exact this
        have HB3N : Hid (bb ∉ (Value.ownBlock (.slice a3 l3 q3)).toList) := fun e => HBR1.out.nb 3 (by omega) (by rw [hr3]; simpa using e)
        have HR3 := (show Hid _ from hr3)
        have HL3 := (show Hid _ from hl3)
        have HRB := (show Hid _ from rowpb)
        clear hf2 hr3 hl3 rowpb
        go_wp2_with (first
            | (at_builtin
               refine wpList_append_keep rfl (.tmp 35) (.tmp 37) 82 rfl base 85 infU zeroU.val 11 88 Tryz.underlying82 hu0 hv0 hv1 hv2 rfl (.slice (some ⟨pb, 0, none⟩) us.length cap) us.length (pats 11 (patU m) us.length) rfl (HAL.out _ _ HO2.out) ⟨W2.heap.size, 0, none⟩ 1 1 (pats 11 (patU m) 1) rfl rfl (HN1.out W2) (HONE.out 1) (by unfold maxLen; omega) (by omega) (by simp; omega) (by omega) ?_
               intro v1 w3 ho1 hk1 ha1
               obtain ⟨g1, c1, rfl⟩ := own_shape ho1 (by omega)
               have HO3 := (show Hid _ from ho1)
               have HK3 := (show Hid _ from hk1)
               have HA3 : Hid (Kept2 (W2.alloc (.cells #[Value.int IntKind.i64 m, .int .i64 0, .int .i64 0, .int .i64 0, .int .i64 0, .int .i64 m, .int .i64 0, .int .i64 0, .int .i64 0, .int .i64 0, .int .i64 0] 85)) w3 (.slice (some ⟨pb, 0, none⟩) us.length cap) (.slice (some ⟨g1, 0, none⟩) (us.length + 1) c1)) := ha1
               have hF3 : Fr [pb] W1 w3 := (HF2.out.alloc _).trans (keep_fr ha1) (fun x hx => Or.inl hx)
               have HF3 := (show Hid _ from hF3)
               have hs3 : W2.heap.size ≤ w3.heap.size := (by have := (keep_fr ha1).size; simp at this; omega)
               obtain ⟨e0, e1, e2, e3, e4, e5, e6, e7, e8, e9, e10⟩ := HXC.out w3 hF3
               clear ho1 hk1 ha1 hF3)
            | (at_builtin
               refine wpList_append_keep rfl (.tmp 39) (.tmp 42) 82 rfl base 85 infU zeroU.val 11 88 Tryz.underlying82 hu0 hv0 hv1 hv2 rfl (.slice (some ⟨pb, 0, none⟩) us.length cap) us.length (pats 11 (patU m) us.length) rfl (HAL.out _ _ HK3.out) ⟨w3.heap.size, 0, none⟩ 2 2 (pats 11 (patU m) 2) rfl rfl (HN2.out w3) (HONE.out 2) (by unfold maxLen; omega) (by omega) (by simp; omega) (by omega) ?_
               intro v2 w4 ho1 hk1 ha1
               obtain ⟨g2, c2, rfl⟩ := own_shape ho1 (by omega)
               have HO4 := (show Hid _ from ho1)
               have HK4 := (show Hid _ from hk1)
               have HA4 : Hid (Kept2 (w3.alloc (.cells #[Value.int IntKind.i64 m, .int .i64 0, .int .i64 0, .int .i64 0, .int .i64 0, .int .i64 m, .int .i64 0, .int .i64 0, .int .i64 0, .int .i64 0, .int .i64 0, Value.int IntKind.i64 m, .int .i64 0, .int .i64 0, .int .i64 0, .int .i64 0, .int .i64 m, .int .i64 0, .int .i64 0, .int .i64 0, .int .i64 0, .int .i64 0] 85)) w4 (.slice (some ⟨pb, 0, none⟩) us.length cap) (.slice (some ⟨g2, 0, none⟩) (us.length + 2) c2)) := ha1
               have hF4 : Fr [pb] W1 w4 := (HF3.out.alloc _).trans (keep_fr ha1) (fun x hx => Or.inl hx)
               have HF4 := (show Hid _ from hF4)
               have hs4 : w3.heap.size ≤ w4.heap.size := (by have := (keep_fr ha1).size; simp at this; omega)
               obtain ⟨e0, e1, e2, e3, e4, e5, e6, e7, e8, e9, e10⟩ := HXC.out w4 hF4
               clear ho1 hk1 ha1 hF4)
            | (at_builtin
               refine wpList_append_keep rfl (.tmp 44) (.tmp 48) 82 rfl base 85 infU zeroU.val 11 88 Tryz.underlying82 hu0 hv0 hv1 hv2 rfl (.slice (some ⟨pb, 0, none⟩) us.length cap) us.length (pats 11 (patU m) us.length) rfl (HAL.out _ _ HK4.out) ⟨w4.heap.size, 0, none⟩ 3 3 (pats 11 (patU m) 3) rfl rfl (HN3.out w4) (HONE.out 3) (by unfold maxLen; omega) (by omega) (by simp; omega) (by omega) ?_
               intro v3 w5 ho1 hk1 ha1
               obtain ⟨g3, c3, rfl⟩ := own_shape ho1 (by omega)
               have HO5 := (show Hid _ from ho1)
               have HK5 := (show Hid _ from hk1)
               have HA5 : Hid (Kept2 (w4.alloc (.cells #[Value.int IntKind.i64 m, .int .i64 0, .int .i64 0, .int .i64 0, .int .i64 0, .int .i64 m, .int .i64 0, .int .i64 0, .int .i64 0, .int .i64 0, .int .i64 0, Value.int IntKind.i64 m, .int .i64 0, .int .i64 0, .int .i64 0, .int .i64 0, .int .i64 m, .int .i64 0, .int .i64 0, .int .i64 0, .int .i64 0, .int .i64 0, Value.int IntKind.i64 m, .int .i64 0, .int .i64 0, .int .i64 0, .int .i64 0, .int .i64 m, .int .i64 0, .int .i64 0, .int .i64 0, .int .i64 0, .int .i64 0] 85)) w5 (.slice (some ⟨pb, 0, none⟩) us.length cap) (.slice (some ⟨g3, 0, none⟩) (us.length + 3) c3)) := ha1
               have hF5 : Fr [pb] W1 w5 := (HF4.out.alloc _).trans (keep_fr ha1) (fun x hx => Or.inl hx)
               have HF5 := (show Hid _ from hF5)
               have hs5 : w4.heap.size ≤ w5.heap.size := (by have := (keep_fr ha1).size; simp at this; omega)
               obtain ⟨hc5, hz5, ho5, _, _⟩ := HFC.out w5 hF5
               have hbl5 : bb < w5.heap.size := lt_of_cell hc5
               have HO5B : Hid (w5.ownsRow 0 82 1 (.slice a3 l3 q3) l3 (xs 3)) := ho5
               clear ho5
               clear ho1 hk1 ha1 hF5)
            | (at_builtin
               have HOP : Hid ((w5.alloc (.cells #[Value.slice (some ⟨pb, 0, none⟩) us.length cap, .slice (some ⟨g1, 0, none⟩) (us.length + 1) c1, .slice (some ⟨g2, 0, none⟩) (us.length + 2) c2, .slice (some ⟨g3, 0, none⟩) (us.length + 3) c3] 82)).ownsRow 0 82 1 (.slice a3 l3 q3) l3 (xs 3)) := World.ownsRow.alloc HO5B.out _
               refine wpList_append_keep rfl (.tmp 54) (.tmp 59) 64 rfl 0 82 infS (.slice none 0 0) 1 24 Tryz.underlying64 hj0 hy0 hy1 hy2 rfl (.slice a3 l3 q3) l3 (xs 3) rfl HOP.out ⟨w5.heap.size, 0, none⟩ 4 4 [Value.slice (some ⟨pb, 0, none⟩) us.length cap, .slice (some ⟨g1, 0, none⟩) (us.length + 1) c1, .slice (some ⟨g2, 0, none⟩) (us.length + 2) c2, .slice (some ⟨g3, 0, none⟩) (us.length + 3) c3] rfl rfl (news_of w5 _ 82) (by simp [Value.oneCell']) (by unfold maxLen; omega) (by omega) (by simp) (by omega) ?_
               intro v6 w6 ho hk ha
               obtain ⟨g6, c6, rfl⟩ := own_shape ho (by omega)
               have hgf := keep_fr ha
               have hv2 : w6.cell? ⟨bb, 3, none⟩ = some (.slice a3 l3 q3) := (hgf.cell bb 3 (by simp; omega) HB3N.out).trans ((((Fr.refl [] w5).alloc _).cell bb 3 hbl5 (by simp)).trans hc5)
               have hz2' : w6.frozen? ⟨bb, 3, none⟩ = false := (hgf.frozen bb 3 (by simp; omega) HB3N.out).trans ((((Fr.refl [] w5).alloc _).frozen bb 3 hbl5 (by simp)).trans hz5)))
        obtain ⟨KS, hKS1, hKS2, hm0, hm1, hm2, hm3⟩ := marks3 (patU_per m) HO3.out HA3.out HK4.out HO4.out HA4.out HO5.out HA5.out
        obtain ⟨L4, hL4⟩ : ∃ L, L = [Value.slice (some ⟨pb, 0, none⟩) us.length cap, .slice (some ⟨g1, 0, none⟩) (us.length + 1) c1, .slice (some ⟨g2, 0, none⟩) (us.length + 2) c2, .slice (some ⟨g3, 0, none⟩) (us.length + 3) c3] := ⟨_, rfl⟩
        have HMK : Hid (∀ u ∈ L4, MkU w5 KS u m) := fun u hu => by
          rw [hL4] at hu
          simp only [List.mem_cons, List.not_mem_nil, or_false] at hu
          rcases hu with rfl | rfl | rfl | rfl
          · exact hm0.units (by omega)
          · exact hm1.units (by omega)
          · exact hm2.units (by omega)
          · exact hm3.units (by omega)
        have HKS1 : Hid (∀ b ∈ KS, b = pb ∨ W2.heap.size ≤ b) := fun b hb => by
          rcases hKS1 b hb with q | q
          · simp [Value.ownBlock] at q; exact Or.inl q.symm
          · exact Or.inr q
        have HKS2 := (show Hid _ from hKS2)
        obtain ⟨_, _, _, hB5, hL5⟩ := HFC.out w5 HF5.out
        have HL5 := (show Hid _ from hL5)
        have HROWS : Hid (∀ k, k < 5 → ∀ g, (rv k).ownBlock = some g → g < W1.heap.size) := fun k hk g hg => ((HBR1.out.own k hk).lt g hg).2
        have hFA : Fr [] w5 (w5.alloc (.cells #[Value.slice (some ⟨pb, 0, none⟩) us.length cap, .slice (some ⟨g1, 0, none⟩) (us.length + 1) c1, .slice (some ⟨g2, 0, none⟩) (us.length + 2) c2, .slice (some ⟨g3, 0, none⟩) (us.length + 3) c3] 82)) := (Fr.refl _ _).alloc _
        obtain ⟨hB7, hF7⟩ := (hB5.fr hFA (by simp) (by simp)).push 3 (by omega) (.slice (some ⟨g6, 0, none⟩) (l3 + 4) c6) L4 (by rw [hL4, HL3.out]; exact ho) (by rw [HR3.out]; exact ha)
        have F57 : Fr (bb :: (rv 3).ownBlock.toList) w5 (w6.setCell ⟨bb, 3, none⟩ (.slice (some ⟨g6, 0, none⟩) (l3 + 4) c6)) := hFA.of0.trans hF7 (fun x hx => Or.inl hx)
        have HIN7 : Hid (∀ g, Value.ownBlock (.slice (some ⟨g6, 0, none⟩) (l3 + 4) c6) = some g → (rv 3).ownBlock = some g ∨ w5.heap.size ≤ g) := fun g hg => by
          rcases keep_in ha g hg with q | q
          · exact Or.inl (by rw [HR3.out]; exact q)
          · simp at q; exact Or.inr (by omega)
        obtain ⟨W7, hW7⟩ : ∃ W, W = w6.setCell ⟨bb, 3, none⟩ (.slice (some ⟨g6, 0, none⟩) (l3 + 4) c6) := ⟨_, rfl⟩
        rw [← hW7] at hB7 F57 ⊢
        obtain ⟨v3, hv3⟩ : ∃ v, v = Value.slice (some ⟨g6, 0, none⟩) (l3 + 4) c6 := ⟨_, rfl⟩
        rw [← hv3] at hB7 HIN7
        obtain ⟨l4, hl4⟩ : ∃ l4, (xs 4).length = l4 := ⟨_, rfl⟩
        have e1 : upd xs 3 (xs 3 ++ L4) 4 = xs 4 := rfl
        have e2 : upd rv 3 v3 4 = rv 4 := rfl
        have ho7 := hB7.own 4 (by omega)
        rw [e1, e2, hl4] at ho7
        obtain ⟨a4, q4, hr4⟩ := own_len ho7
        rw [hr4] at ho7
        have hl4b : l4 ≤ 4 * N := by have := HX.out.2.2.2.2.1; have := HX.out.2.1; omega
        have hc4 : W7.cell? ⟨bb, 4, none⟩ = some (.slice a4 l4 q4) := by rw [hB7.cell 4 (by omega), e2, hr4]
        have hz4 : W7.frozen? ⟨bb, 4, none⟩ = false := hB7.fz 4
        have hc9 : W7.cell? ⟨bb, 9, none⟩ = some (ii m) := hB7.nxt
        have hbl7 : bb < W7.heap.size := hB7.lt
        have HO7 := (show Hid _ from ho7)
        have HB4N : Hid (bb ∉ (Value.ownBlock (.slice a4 l4 q4)).toList) := fun e => hB7.nb 4 (by omega) (by rw [e2, hr4]; simpa using e)
        have HB7 := (show Hid _ from hB7)
        have HF57 := (show Hid _ from F57)
        have HR4 := (show Hid _ from hr4)
        have HL4 := (show Hid _ from hl4)
        have HLL := (show Hid _ from hL4)
        clear hm0 hm1 hm2 hm3 hKS1 hKS2 hB5 hL5 hFA hB7 hF7 F57 hW7 hv3 e1 e2 ho7 hr4 hl4 hL4 ho hk ha hgf hv2 hz2' hc5 hz5 HO2 HO3 HO4 HO5 HK3 HK4 HK5 HA3 HA4 HA5 HN1 HN2 HN3 HAL
        have HS : Hid (∀ w', Fr [] W7 w' → w'.cell? ⟨bb, 4, none⟩ = some (.slice a4 l4 q4) ∧ w'.cell? ⟨bb, 9, none⟩ = some (ii m)) := fun w' hf => ⟨(hf.cell bb 4 hbl7 (by simp)).trans hc4, (hf.cell bb 9 hbl7 (by simp)).trans hc9⟩
        have hH := HS.out W7.drew ((Fr.refl _ _).drew)
        refine TwoFree.region (fun w' : World => w'.cell? ⟨bb, 4, none⟩ = some (.slice a4 l4 q4) ∧ w'.cell? ⟨bb, 9, none⟩ = some (ii m)) 25 (by kernel_rfl) ?_
        refine (show TwoFree Tryz.prog Region.Mode.any _ _ _ 25 26 (Array.replicate 26 false) _ _ from ?_)
        refine TwoFree.takeW (i := 0) (v := ?_) (by simp only [G]; rfl) (by kernel_rfl) (by kernel_rfl) (by kernel_rfl) (by decide) (by exact fun _ _ _ h => h) (Or.inl ⟨by rfl, ?_⟩) (fun _ => hH) ?_; rotate_left; (focus intro w h; go_simp; first | with_reducible rfl | done); try simp only [Act.put, Z]
        refine TwoFree.takeW (i := 1) (v := ?_) (by simp only [G]; rfl) (by kernel_rfl) (by kernel_rfl) (by kernel_rfl) (by decide) (by exact fun _ _ _ h => h) (Or.inl ⟨by rfl, ?_⟩) (fun _ => hH) ?_; rotate_left; (focus intro w h; go_simp; first | with_reducible rfl | done); try simp only [Act.put, Z]
        refine TwoFree.takeW (i := 2) (v := ?_) (by simp only [G]; rfl) (by kernel_rfl) (by kernel_rfl) (by kernel_rfl) (by decide) (by exact fun _ _ _ h => h) (Or.inl ⟨by rfl, ?_⟩) (fun _ => hH) ?_; rotate_left; (focus intro w h; go_simp; first | with_reducible rfl | done); try simp only [Act.put, Z]
        refine TwoFree.takeW (i := 3) (v := ?_) (by simp only [G]; rfl) (by kernel_rfl) (by kernel_rfl) (by kernel_rfl) (by decide) (by exact fun _ _ _ h => h) (Or.inl ⟨by rfl, ?_⟩) (fun _ => hH) ?_; rotate_left; (focus intro w h; go_simp; first | with_reducible rfl | done); try simp only [Act.put, Z]
        refine TwoFree.take (i := 4) (v := ?_) (by simp only [G]; rfl) (by kernel_rfl) (by kernel_rfl) (by kernel_rfl) (by kernel_rfl) (by decide) (by kernel_rfl) (by exact fun _ _ _ h => h) (Or.inl ⟨by rfl, ?_⟩) hH ?_; rotate_left; (focus intro w h; go_simp; first | with_reducible rfl | done); try simp only [Act.put, Z]
        refine TwoFree.takeW (i := 5) (v := ?_) (by simp only [G]; rfl) (by kernel_rfl) (by kernel_rfl) (by kernel_rfl) (by decide) (by exact fun _ _ _ h => h) (Or.inl ⟨by rfl, ?_⟩) (fun _ => hH) ?_; rotate_left; (focus intro w h; go_simp; first | with_reducible rfl | done); try simp only [Act.put, Z]
        refine TwoFree.takeW (i := 6) (v := ?_) (by simp only [G]; rfl) (by kernel_rfl) (by kernel_rfl) (by kernel_rfl) (by decide) (by exact fun _ _ _ h => h) (Or.inl ⟨by rfl, ?_⟩) (fun _ => hH) ?_; rotate_left; (focus intro w h; go_simp; first | with_reducible rfl | done); try simp only [Act.put, Z]
        refine TwoFree.takeW (i := 7) (v := ?_) (by simp only [G]; rfl) (by kernel_rfl) (by kernel_rfl) (by kernel_rfl) (by decide) (by exact fun _ _ _ h => h) (Or.inl ⟨by rfl, ?_⟩) (fun _ => hH) ?_; rotate_left; (focus intro w h; go_simp; first | with_reducible rfl | done); try simp only [Act.put, Z]
        refine TwoFree.take (i := 8) (v := ?_) (by simp only [G]; rfl) (by kernel_rfl) (by kernel_rfl) (by kernel_rfl) (by kernel_rfl) (by decide) (by kernel_rfl) (by exact fun _ _ _ h => h) (Or.inl ⟨by rfl, ?_⟩) hH ?_; rotate_left; (focus intro w h; go_simp; first | with_reducible rfl | done); try simp only [Act.put, Z]
        refine TwoFree.takeW (i := 9) (v := ?_) (by simp only [G]; rfl) (by kernel_rfl) (by kernel_rfl) (by kernel_rfl) (by decide) (by exact fun _ _ _ h => h) (Or.inl ⟨by rfl, ?_⟩) (fun _ => hH) ?_; rotate_left; (focus intro w h; go_simp; first | with_reducible rfl | done); try simp only [Act.put, Z]
        refine TwoFree.takeW (i := 10) (v := ?_) (by simp only [G]; rfl) (by kernel_rfl) (by kernel_rfl) (by kernel_rfl) (by decide) (by exact fun _ _ _ h => h) (Or.inl ⟨by rfl, ?_⟩) (fun _ => hH) ?_; rotate_left; (focus intro w h; go_simp; first | with_reducible rfl | done); try simp only [Act.put, Z]
        refine TwoFree.takeW (i := 11) (v := ?_) (by simp only [G]; rfl) (by kernel_rfl) (by kernel_rfl) (by kernel_rfl) (by decide) (by exact fun _ _ _ h => h) (Or.inl ⟨by rfl, ?_⟩) (fun _ => hH) ?_; rotate_left; (focus intro w h; go_simp; first | with_reducible rfl | done); try simp only [Act.put, Z]
        refine TwoFree.take (i := 12) (v := ?_) (by simp only [G]; rfl) (by kernel_rfl) (by kernel_rfl) (by kernel_rfl) (by kernel_rfl) (by decide) (by kernel_rfl) (by exact fun _ _ _ h => h) (Or.inl ⟨by rfl, ?_⟩) hH ?_; rotate_left; (focus intro w h; go_simp; first | with_reducible rfl | done); try simp only [Act.put, Z]
        refine TwoFree.takeW (i := 13) (v := ?_) (by simp only [G]; rfl) (by kernel_rfl) (by kernel_rfl) (by kernel_rfl) (by decide) (by exact fun _ _ _ h => h) (Or.inl ⟨by rfl, ?_⟩) (fun _ => hH) ?_; rotate_left; (focus intro w h; go_simp; first | with_reducible rfl | done); try simp only [Act.put, Z]
        refine TwoFree.takeW (i := 14) (v := ?_) (by simp only [G]; rfl) (by kernel_rfl) (by kernel_rfl) (by kernel_rfl) (by decide) (by exact fun _ _ _ h => h) (Or.inl ⟨by rfl, ?_⟩) (fun _ => hH) ?_; rotate_left; (focus intro w h; go_simp; first | with_reducible rfl | done); try simp only [Act.put, Z]
        refine TwoFree.takeW (i := 15) (v := ?_) (by simp only [G]; rfl) (by kernel_rfl) (by kernel_rfl) (by kernel_rfl) (by decide) (by exact fun _ _ _ h => h) (Or.inl ⟨by rfl, ?_⟩) (fun _ => hH) ?_; rotate_left; (focus intro w h; go_simp; first | with_reducible rfl | done); try simp only [Act.put, Z]
        refine TwoFree.take (i := 16) (v := ?_) (by simp only [G]; rfl) (by kernel_rfl) (by kernel_rfl) (by kernel_rfl) (by kernel_rfl) (by decide) (by kernel_rfl) (by exact fun _ _ _ h => h) (Or.inl ⟨by rfl, ?_⟩) hH ?_; rotate_left; (focus intro w h; go_simp; first | with_reducible rfl | done); try simp only [Act.put, Z]
        refine TwoFree.takeW (i := 17) (v := ?_) (by simp only [G]; rfl) (by kernel_rfl) (by kernel_rfl) (by kernel_rfl) (by decide) (by exact fun _ _ _ h => h) (Or.inl ⟨by rfl, ?_⟩) (fun _ => hH) ?_; rotate_left; (focus intro w h; go_simp; first | with_reducible rfl | done); try simp only [Act.put, Z]
        refine TwoFree.takeW (i := 18) (v := ?_) (by simp only [G]; rfl) (by kernel_rfl) (by kernel_rfl) (by kernel_rfl) (by decide) (by exact fun _ _ _ h => h) (Or.inl ⟨by rfl, ?_⟩) (fun _ => hH) ?_; rotate_left; (focus intro w h; go_simp; first | with_reducible rfl | done); try simp only [Act.put, Z]
        refine TwoFree.takeW (i := 19) (v := ?_) (by simp only [G]; rfl) (by kernel_rfl) (by kernel_rfl) (by kernel_rfl) (by decide) (by exact fun _ _ _ h => h) (Or.inl ⟨by rfl, ?_⟩) (fun _ => hH) ?_; rotate_left; (focus intro w h; go_simp; first | with_reducible rfl | done); try simp only [Act.put, Z]
        refine TwoFree.take (i := 20) (v := ?_) (by simp only [G]; rfl) (by kernel_rfl) (by kernel_rfl) (by kernel_rfl) (by kernel_rfl) (by decide) (by kernel_rfl) (by exact fun _ _ _ h => h) (Or.inl ⟨by rfl, ?_⟩) hH ?_; rotate_left; (focus intro w h; go_simp; first | with_reducible rfl | done); try simp only [Act.put, Z]
        refine TwoFree.one (i := 21) (by kernel_rfl) ?_
        refine wpOp_step (by simp only [G]; rfl) (fun K' hK0 => ?_)
        have HK := (show Hid _ from hK0)
        clear hK0
        go_simp
        obtain ⟨W8, hW8⟩ : ∃ W, W = (W7.alloc (.cells #[ii m, ii m, ii m, ii m] 3)).drew := ⟨_, rfl⟩
        rw [← hW8]
        have hf78 : Fr [] W7 W8 := by rw [hW8]; exact ((Fr.refl _ _).alloc _).drew
        have hnw : ∀ (j : Nat) (y : Value), [ii m, ii m, ii m, ii m][j]? = some y → W8.cell? ((⟨W7.heap.size, 0, none⟩ : Addr).add j) = some y := by rw [hW8]; exact news_of W7 [ii m, ii m, ii m, ii m] 3
        have hs78 := hf78.size
        have ho8 : W8.ownsRow 0 3 1 (.slice a4 l4 q4) l4 (xs 4) := owns_fr HO7.out hf78 (by simp)
        clear hW8
        clear hH
        have hH := HS.out W8 hf78
        refine HK.out _ _ ⟨fun _ _ => hH, ?_⟩
        clear HK K'; try simp only [Act.put, Z]
        refine TwoFree.one (i := 22) (by kernel_rfl) ?_
        refine wpOp_step (by simp only [G]; rfl) (fun K' hK0 => ?_)
        have HK := (show Hid _ from hK0)
        clear hK0
        rw [if_pos (by rfl)]
        refine wp_append_keep _ _ 25 rfl 0 3 infI (ii 0) 1 8 Tryz.underlying25 hi0 hz0 hz1 hz2 rfl (.slice a4 l4 q4) l4 (xs 4) rfl ho8 ⟨W7.heap.size, 0, none⟩ 4 4 [ii m, ii m, ii m, ii m] rfl rfl hnw (by simp [Value.oneCell']) (by unfold maxLen; omega) (by omega) (by omega) (by omega) ?_
        intro v9 w9 ho hk ha
        obtain ⟨g9, c9, rfl⟩ := own_shape ho (by omega)
        have hgf := keep_fr ha
        have hc94 : w9.cell? ⟨bb, 4, none⟩ = some (.slice a4 l4 q4) := (hgf.cell bb 4 (by omega) HB4N.out).trans hH.1
        have hc99 : w9.cell? ⟨bb, 9, none⟩ = some (ii m) := (hgf.cell bb 9 (by omega) HB4N.out).trans hH.2
        have hz94 : w9.frozen? ⟨bb, 4, none⟩ = false := (hgf.frozen bb 4 (by omega) HB4N.out).trans ((hf78.frozen bb 4 hbl7 (by simp)).trans hz4)
        clear hH
        have hH := And.intro hc94 hc99
        refine HK.out _ _ ⟨fun _ _ => hH, ?_⟩
        clear HK K' hnw ho8; try simp only [Act.put, Z]
        refine TwoFree.one (i := 23) (by kernel_rfl) ?_
        refine wpOp_step (by simp only [G]; rfl) (fun K' hK0 => ?_)
        have HK := (show Hid _ from hK0)
        clear hK0
        go_simp
        refine HK.out _ _ ⟨fun _ _ => hH, ?_⟩
        clear HK K'; try simp only [Act.put, Z]
        refine TwoFree.one (i := 24) (by kernel_rfl) ?_
        refine wpOp_step (by simp only [G]; rfl) (fun K' hK0 => ?_)
        have HK := (show Hid _ from hK0)
        clear hK0
        go_simp
        refine HK.out _ _ ⟨fun _ _ => hH, ?_⟩
        clear HK K'; try simp only [Act.put, Z]
        refine TwoFree.one (i := 25) (by kernel_rfl) ?_
        refine wpOp_step (by simp only [G]; rfl) (fun K' hK0 => ?_)
        have HK := (show Hid _ from hK0)
        clear hK0
        go_simp
        refine HK.out _ _ ⟨fun h6 => absurd rfl h6, TwoFree.done (by kernel_rfl) ?_ _⟩
        clear HK K'
        refine bodyPost_end (v := .tuple #[]) (results_none rfl _ _ _) rfl ⟨rfl, ?_⟩
        obtain ⟨x3, x4, x5, x6, x7, x10, x11⟩ := HX.out
        obtain ⟨hB10, hF10⟩ := (HB7.out.fr hf78 (by simp) (by simp)).push 4 (by omega) (.slice (some ⟨g9, 0, none⟩) (l4 + 4) c9) [ii m, ii m, ii m, ii m] (by rw [show upd xs 3 (xs 3 ++ L4) 4 = xs 4 from rfl, HL4.out]; exact ho) (by rw [show upd rv 3 v3 4 = rv 4 from rfl, HR4.out]; exact ha)
        rw [show upd rv 3 v3 4 = rv 4 from rfl] at hF10
        rw [show upd xs 3 (xs 3 ++ L4) 4 = xs 4 from rfl] at hB10
        have F510 : Fr (bb :: ((rv 3).ownBlock.toList ++ (rv 4).ownBlock.toList)) w5 (w9.setCell ⟨bb, 4, none⟩ (.slice (some ⟨g9, 0, none⟩) (l4 + 4) c9)) :=
          ((HF57.out.mono (fun x hx => Or.inl (by rcases List.mem_cons.1 hx with q | q <;> simp_all))).then0 hf78).trans hF10 (fun x hx => Or.inl (by rcases List.mem_cons.1 hx with q | q <;> simp_all))
        obtain ⟨WT, hWT⟩ : ∃ W, W = w9.setCell ⟨bb, 4, none⟩ (.slice (some ⟨g9, 0, none⟩) (l4 + 4) c9) := ⟨_, rfl⟩
        rw [← hWT] at hB10 F510 ⊢
        have hsz := F510.size
        have hrow := HROWS.out
        have hs1w : w.heap.size ≤ W1.heap.size := by have := HS0.out; have := HF01.out.size; omega
        have hs57 := HF57.out.size
        have hLl : L4.length = 4 := by rw [HLL.out]; rfl
        have hbl1 := HBR1.out.lt
        have hall : ∀ b ∈ KL ++ KS, b ≠ bb ∧ (∀ k, k < 5 → (rv k).ownBlock ≠ some b) ∧ (b ∈ K ∨ b ∈ [pb] ∨ w.heap.size ≤ b) ∧ b < w5.heap.size := fun b hb => by
          rcases List.mem_append.1 hb with q | q
          · obtain ⟨t1, t2⟩ := x11 b q
            exact ⟨fun e => HNB.out (e ▸ t1), t2, Or.inl t1, by have := HKL.out b t1; omega⟩
          · have hb5 := HKS2.out b q
            rcases HKS1.out b q with r | r
            · subst r
              exact ⟨fun e => hbp e.symm, HRB.out, Or.inr (Or.inl (by simp)), hb5⟩
            · exact ⟨by omega, fun k hk e => by have := hrow k hk b e; omega, Or.inr (Or.inr (by omega)), hb5⟩
        have n510 : ∀ b, b ≠ bb → (∀ k, k < 5 → (rv k).ownBlock ≠ some b) → b ∉ bb :: ((rv 3).ownBlock.toList ++ (rv 4).ownBlock.toList) := fun b h1 h2 hm => by
          rcases List.mem_cons.1 hm with q | q
          · exact h1 q
          · rcases List.mem_append.1 q with q | q
            · exact h2 3 (by omega) (by simpa using q)
            · exact h2 4 (by omega) (by simpa using q)
        have hBL : BL WT (KL ++ KS) (upd (upd xs 3 (xs 3 ++ L4)) 4 (xs 4 ++ [ii m, ii m, ii m, ii m])) := by
          have q := ((HL5.out.up (K' := KL ++ KS) (fun b hb => List.mem_append_left _ hb)).people x4 L4 m (fun u hu => (HMK.out u hu).up (fun b hb => List.mem_append_right _ hb))).fr F510 (fun b hb => n510 b (hall b hb).1 (hall b hb).2.1)
          rw [show (L4.map fun _ => ii m) = [ii m, ii m, ii m, ii m] by rw [HLL.out]; rfl] at q
          exact q
        have newrow : ∀ k, k < 5 → ∀ g, (upd (upd rv 3 v3) 4 (.slice (some ⟨g9, 0, none⟩) (l4 + 4) c9) k).ownBlock = some g → (∃ k', k' < 5 ∧ (rv k').ownBlock = some g) ∨ w5.heap.size ≤ g := fun k hk g hg => by
          by_cases k4 : k = 4
          · subst k4
            rw [upd_same] at hg
            rcases keep_in ha g hg with q | q
            · exact Or.inl ⟨4, by omega, by rw [HR4.out]; exact q⟩
            · exact Or.inr (by omega)
          · rw [upd_other _ _ k4] at hg
            by_cases k3 : k = 3
            · subst k3
              rw [upd_same] at hg
              rcases HIN7.out g hg with q | q
              · exact Or.inl ⟨3, by omega, q⟩
              · exact Or.inr q
            · rw [upd_other _ _ k3] at hg
              exact Or.inl ⟨k, hk, hg⟩
        have rows_in : ∀ b, b ∈ (List.range 5).filterMap (fun k => (upd (upd rv 3 v3) 4 (.slice (some ⟨g9, 0, none⟩) (l4 + 4) c9) k).ownBlock) → ∃ k, k < 5 ∧ (upd (upd rv 3 v3) 4 (.slice (some ⟨g9, 0, none⟩) (l4 + 4) c9) k).ownBlock = some b := fun b hb => by
          obtain ⟨k, hk, e⟩ := List.mem_filterMap.1 hb
          exact ⟨k, List.mem_range.1 hk, e⟩
        refine ⟨⟨(KL ++ KS) ++ (List.range 5).filterMap (fun k => (upd (upd rv 3 v3) 4 (.slice (some ⟨g9, 0, none⟩) (l4 + 4) c9) k).ownBlock), ⟨⟨_, _, m, KL ++ KS, hB10, hBL, x3, ?_, ?_, ?_, ?_, ?_, hmb.2, fun k hk g hg => ?_, fun b hb => ⟨List.mem_append_left _ hb, fun k hk e => ?_⟩⟩, fun hm => ?_, fun b hb => ?_⟩, fun b hb => ?_⟩, ?_⟩
        · show (xs 3 ++ L4).length = (xs 4 ++ [ii m, ii m, ii m, ii m]).length
          rw [List.length_append, List.length_append, hLl, x4]
          rfl
        · show (xs 0).length ≤ _
          omega
        · show (xs 2).length ≤ _
          omega
        · show (xs 3 ++ L4).length ≤ _
          rw [List.length_append, hLl]
          omega
        · omega
        · exact List.mem_append_right _ (List.mem_filterMap.2 ⟨k, List.mem_range.2 hk, hg⟩)
        · rcases newrow k hk b e with ⟨k', hk', q⟩ | q
          · exact (hall b hb).2.1 k' hk' q
          · have := (hall b hb).2.2.2; omega
        · rcases List.mem_append.1 hm with q | q
          · exact (hall bb q).1 rfl
          · obtain ⟨k, hk, e⟩ := rows_in bb q
            exact hB10.nb k hk e
        · rcases List.mem_append.1 hb with q | q
          · have := (hall b q).2.2.2; omega
          · obtain ⟨k, hk, e⟩ := rows_in b q
            exact ((hB10.own k hk).lt b e).2
        · rcases List.mem_append.1 hb with q | q
          · exact (hall b q).2.2.1
          · obtain ⟨k, hk, e⟩ := rows_in b q
            rcases newrow k hk b e with ⟨k', hk', r⟩ | r
            · exact Or.inl (x10 k' hk' b r)
            · exact Or.inr (Or.inr (by have := HF5.out.size; omega))
        · refine (((HF00.out.mono (fun x hx => Or.inl (by simp_all))).then0 HF01.out).trans HF5.out (fun b hb => Or.inl (by simp_all))).trans F510 (fun b hb => ?_)
          rcases List.mem_cons.1 hb with q | q
          · exact Or.inl (by simp [q])
          · rcases List.mem_append.1 q with q | q
            · exact Or.inl (by simp [x10 3 (by omega) b (by simpa using q)])
            · exact Or.inl (by simp [x10 4 (by omega) b (by simpa using q)])
end Go.Proofs.YtapabahhfanmmaaGreatDoor
