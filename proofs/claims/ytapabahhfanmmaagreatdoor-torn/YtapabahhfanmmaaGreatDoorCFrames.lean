import Derived.Test.YtapabahhfanmmaaGreatDoorCFrame
import Derived.Test.YtapabahhfanmmaaGreatDoorCReadU
import Derived.Deep.DeepCutAuto
/- A frame is cut off the front of a text. -/
namespace Go.Proofs.YtapabahhfanmmaaGreatDoor
open Go.RowKit

/-- A frame of this sort at the front of a text: its content, and what is behind it. -/
def cutF (s : UInt8) (l : List UInt8) : Option (List UInt8 × List UInt8) :=
  if isPre [75, s] l = true then
    if (firstT (l.drop 2)).2 = 0 ∨ 40000 < (firstT (l.drop 2)).1 ∨ ((l.drop 2).drop (firstT (l.drop 2)).2).length < (firstT (l.drop 2)).1 then none
    else
      if isPre (crcB (l.take (l.length - (((l.drop 2).drop (firstT (l.drop 2)).2).drop (firstT (l.drop 2)).1).length))) (((l.drop 2).drop (firstT (l.drop 2)).2).drop (firstT (l.drop 2)).1) = true then
        some (((l.drop 2).drop (firstT (l.drop 2)).2).take (firstT (l.drop 2)).1, (((l.drop 2).drop (firstT (l.drop 2)).2).drop (firstT (l.drop 2)).1).drop 4)
      else none
  else none
def cutV (o : Option (List UInt8 × List UInt8)) : Value := match o with
  | some (c, r) => .tuple #[.string ⟨c.toArray⟩, .string ⟨r.toArray⟩, .bool true]
  | none => .tuple #[.string ⟨#[]⟩, .string ⟨#[]⟩, .bool false]

set_option maxRecDepth 100000 in
set_option maxHeartbeats 2000000 in
theorem rdRest_any (rb : Nat) (l : List UInt8) (bad : Bool) (w : World) (h : RdAt w rb l bad) :
    Calls Tryz.prog 130 #[.pointer (some ⟨rb, 0, none⟩)] w fun e w' => e = .returned (.string ⟨l.toArray⟩) ∧ w = w' := by
  have c0 : w.cell? ⟨rb, 0, none⟩ = some (.string ⟨l.toArray⟩) := cell_of_heap h.all
  clear h
  go_enter Tryz.func130, Tryz.ntmps130
  go_wp2_with fail
  go_ret
  exact ⟨rfl, rfl⟩

set_option maxRecDepth 100000 in
set_option maxHeartbeats 4000000 in
theorem frameCut_any (s : UInt8) (l : List UInt8) (w : World) (hl : l.length ≤ 1000000) :
    Calls Tryz.prog 89 #[.string ⟨l.toArray⟩, .int .u8 s.toNat] w fun e w' => e = .returned (cutV (cutF s l)) ∧ Fr [] w w' := by
  obtain ⟨tx, htx⟩ : ∃ tx : ByteArray, tx = ⟨l.toArray⟩ := ⟨_, rfl⟩
  have hsz : tx.size = l.length := by rw [htx]; rfl
  have hcp := fun w => cutPrefix_any l [75, s] w
  rw [← htx] at hcp ⊢
  have HTX := (show Hid _ from htx)
  obtain ⟨hd, hhd⟩ : ∃ hd : ByteArray, hd = ⟨[75, s].toArray⟩ := ⟨_, rfl⟩
  have hh := head_any s w
  rw [← hhd] at hh
  simp only [← hhd] at hcp
  clear hhd htx
  by_cases hp : isPre [75, s] l = true
  · have HC : Hid (cutF s l = if (firstT (l.drop 2)).2 = 0 ∨ 40000 < (firstT (l.drop 2)).1 ∨ ((l.drop 2).drop (firstT (l.drop 2)).2).length < (firstT (l.drop 2)).1 then none
        else
          if isPre (crcB (l.take (l.length - (((l.drop 2).drop (firstT (l.drop 2)).2).drop (firstT (l.drop 2)).1).length))) (((l.drop 2).drop (firstT (l.drop 2)).2).drop (firstT (l.drop 2)).1) = true then
            some (((l.drop 2).drop (firstT (l.drop 2)).2).take (firstT (l.drop 2)).1, (((l.drop 2).drop (firstT (l.drop 2)).2).drop (firstT (l.drop 2)).1).drop 4)
          else none) := by show _ = _; unfold cutF; rw [if_pos hp]
    rw [hp] at hcp
    simp only [if_true] at hcp
    have hl2 : 2 ≤ l.length := by
      unfold isPre at hp
      have := congrArg List.length (of_decide_eq_true hp)
      rw [List.length_take] at this
      simp at this
      omega
    have hcp' : ∀ w, Calls Tryz.prog 129 #[.string tx, .string hd] w fun e w' => e = .returned (.tuple #[.string ⟨(l.drop 2).toArray⟩, .bool true]) ∧ w = w' := hcp
    obtain ⟨b1, hb1⟩ : ∃ b1, b1 = l.drop 2 := ⟨_, rfl⟩
    have hb1l : b1.length = l.length - 2 := by rw [hb1, List.length_drop]
    rw [← hb1] at HC
    simp only [← hb1] at hcp'
    have hfl := first_le b1
    obtain ⟨⟨n, sz⟩, hF⟩ : ∃ F, firstT b1 = F := ⟨_, rfl⟩
    rw [hF] at HC hfl
    dsimp only at HC hfl
    obtain ⟨b2, hb2⟩ : ∃ b2, b2 = b1.drop sz := ⟨_, rfl⟩
    have hb2l : b2.length = b1.length - sz := by rw [hb2, List.length_drop]
    rw [← hb2] at HC
    have HF := (show Hid _ from hF)
    have HB2 := (show Hid _ from hb2)
    have hb1b : b1.length ≤ 1000000 := by omega
    have hb2b : b2.length ≤ l.length := by omega
    have HB1L := (show Hid _ from hb1l)
    have HB2L := (show Hid _ from hb2l)
    clear hF hb1 hb2 hcp hp hb1l hb2l
    go_enter Tryz.func89, Tryz.ntmps89
    go_wp2_with fail
    refine Calls.mono hh ?_
    rintro e w1 ⟨rfl, hf1⟩
    dsimp only
    go_wp2_with (go_at_call 129; refine Calls.mono (hcp' _) ?_; rintro e w2 ⟨rfl, rfl⟩)
    refine Calls.mono (newReader_any b1 _) ?_
    rintro e w3 ⟨rb, rfl, hrb, hrd, hf3⟩
    dsimp only
    go_wp2_with fail
    refine Calls.mono (next_any rb b1 false w3 hrd hb1b) ?_
    rintro e w4 ⟨rfl, hrd4, hf4⟩
    dsimp only
    rw [HF.out] at hrd4 ⊢
    dsimp only at hrd4 ⊢
    rw [← HB2.out] at hrd4
    have hw4 : Fr [] w w4 := (hf1.then0 hf3).trans hf4 (by simp; have := hf1.size; omega)
    go_wp2_with (go_at_call 130; refine Calls.mono (rdRest_any rb b2 _ w4 hrd4) ?_; rintro e w5 ⟨rfl, rfl⟩)
    refine Calls.mono (right_any rb b2 _ w4 hrd4) ?_
    rintro e w5 ⟨rfl, hf5⟩
    dsimp only
    have hw5 := hw4.then0 hf5
    clear hrd hrd4 hh hcp' hf1 hf3 hf4 hf5 hw4
    by_cases hs0 : sz = 0
    · have HC2 : Hid (cutF s l = none) := by show _ = _; rw [HC.out, if_pos (Or.inl hs0)]
      subst hs0
      clear HC HB2 HF
      go_wp2_with fail
      exact bodyPost_ret (v := cutV none) (by simp [results, Tryz.results89, go_sem, cutV]) rfl ⟨by rw [HC2.out], hw5⟩
    · have hsb : (sz == 0) = false := by simpa using hs0
      by_cases hn4 : 40000 < n
      · have hn4i : (40000 : Int) < (n : Int) := by omega
        have HC2 : Hid (cutF s l = none) := by show _ = _; rw [HC.out, if_pos (Or.inr (Or.inl hn4))]
        clear HC HB2 HF
        go_wp2_with fail
        exact bodyPost_ret (v := cutV none) (by simp [results, Tryz.results89, go_sem, cutV]) rfl ⟨by rw [HC2.out], hw5⟩
      · have hn4i : ¬ (40000 : Int) < (n : Int) := by omega
        by_cases hnb : b2.length < n
        · have hnbi : (b2.length : Int) < (n : Int) := by omega
          have HC2 : Hid (cutF s l = none) := by show _ = _; rw [HC.out, if_pos (Or.inr (Or.inr hnb))]
          clear HC HB2 HF
          go_wp2_with fail
          exact bodyPost_ret (v := cutV none) (by simp [results, Tryz.results89, go_sem, cutV]) rfl ⟨by rw [HC2.out], hw5⟩
        · have hnbi : ¬ (b2.length : Int) < (n : Int) := by omega
          have hHC := HC.out
          rw [if_neg (by omega)] at hHC
          have hst1 := str_take b2 n
          have hst2 := str_drop b2 n
          obtain ⟨b3, hb3⟩ : ∃ b3, b3 = b2.drop n := ⟨_, rfl⟩
          have hb3l : b3.length = b2.length - n := by rw [hb3, List.length_drop]
          rw [← hb3] at hHC hst2
          obtain ⟨k, hk⟩ : ∃ k, k = l.length - b3.length := ⟨_, rfl⟩
          rw [← hk] at hHC
          have hb3b : b3.length ≤ l.length := by omega
          have hki : (l.length : Int) - (b3.length : Int) = (k : Int) := by omega
          have hkl : k ≤ l.length := by omega
          have hst3 := str_take l k
          rw [← HTX.out] at hst3
          have hck := fun w => check_any (l.take k) w (by rw [List.length_take]; omega)
          have hcc := crcB_len (l.take k)
          obtain ⟨tk, htk⟩ : ∃ x : List UInt8, x = l.take k := ⟨_, rfl⟩
          rw [← htk] at hHC hcc
          simp only [← htk] at hck hst3
          obtain ⟨C, hC⟩ : ∃ x, x = crcB tk := ⟨_, rfl⟩
          rw [← hC] at hHC hcc
          simp only [← hC] at hck
          have hcp3 := fun w => cutPrefix_any b3 C w
          rw [hcc] at hcp3
          have HC2 : Hid (cutF s l = if isPre C b3 = true then some (b2.take n, b3.drop 4) else none) := hHC
          obtain ⟨B, hB⟩ : ∃ B, isPre C b3 = B := ⟨_, rfl⟩
          rw [hB] at HC2
          simp only [hB] at hcp3
          have HCK := (show Hid _ from hck)
          have HCP := (show Hid _ from hcp3)
          clear HC HB2 HF hHC hb3 hk htk hC hB hck hcp3 hcc HTX hb3l
          go_wp2_with fail
          go_cut [4, 7] (fun s4 s7 wx => s4 = .string ⟨(b2.take n).toArray⟩ ∧ s7 = .string ⟨b3.toArray⟩ ∧ Fr [] w5 wx)
          case first =>
            go_region
            all_goals
              go_wp2_with fail
              go_meet
              exact ⟨rfl, rfl, (Fr.refl _ _).drewN _⟩
          case rest =>
            obtain ⟨rfl, rfl, hf6⟩ := hcut
            have hw6 := hw5.then0 hf6
            clear hst1 hst2
            cases B
            · go_wp2_with fail
              refine Calls.mono (HCK.out _) ?_
              rintro e w7 ⟨rfl, hf7⟩
              dsimp only
              go_wp2_with (go_at_call 129; refine Calls.mono (HCP.out _) ?_; rintro e w8 ⟨rfl, rfl⟩)
              exact bodyPost_ret (v := cutV none) (by simp [results, Tryz.results89, go_sem, cutV]) rfl ⟨by rw [HC2.out]; rfl, hw6.then0 hf7⟩
            · go_wp2_with fail
              refine Calls.mono (HCK.out _) ?_
              rintro e w7 ⟨rfl, hf7⟩
              dsimp only
              go_wp2_with (go_at_call 129; refine Calls.mono (HCP.out _) ?_; rintro e w8 ⟨rfl, rfl⟩)
              exact bodyPost_ret (v := cutV (some (b2.take n, b3.drop 4))) (by simp [results, Tryz.results89, go_sem, cutV]) rfl ⟨by rw [HC2.out]; rfl, hw6.then0 hf7⟩
  · have HC : Hid (cutF s l = none) := by show _ = _; unfold cutF; rw [if_neg hp]
    simp only [Bool.not_eq_true] at hp
    simp only [hp] at hcp
    go_enter Tryz.func89, Tryz.ntmps89
    go_wp2_with fail
    refine Calls.mono hh ?_
    rintro e w1 ⟨rfl, hf1⟩
    dsimp only
    go_wp2_with (go_at_call 129; refine Calls.mono (hcp _) ?_; rintro e w2 ⟨rfl, rfl⟩)
    exact bodyPost_ret (v := cutV none) (by simp [results, Tryz.results89, go_sem, cutV]) rfl ⟨by rw [HC.out], hf1⟩
end Go.Proofs.YtapabahhfanmmaaGreatDoor
/- Frames, plainly: a whole one is found, one that is cut off is not. -/
namespace Go.Proofs.YtapabahhfanmmaaGreatDoor
open Go.RowKit

theorem isPre_app (q r : List UInt8) : isPre q (q ++ r) = true := by
  unfold isPre
  simp
theorem isPre_short {q l : List UInt8} (h : l.length < q.length) : isPre q l = false := by
  unfold isPre
  rw [decide_eq_false]
  intro e
  have := congrArg List.length e
  rw [List.length_take] at this
  omega
theorem preB_is (s : UInt8) (c : List UInt8) : preB s c = 75 :: s :: (numB c.length ++ c) := by
  unfold preB
  simp
theorem cut_whole (s : UInt8) (c r : List UInt8) (hc : c.length ≤ 40000) : cutF s (frameB s c ++ r) = some (c, r) := by
  have hl : frameB s c ++ r = [75, s] ++ (numB c.length ++ (c ++ (crcB (preB s c) ++ r))) := by
    unfold frameB
    rw [preB_is]
    simp
  have hd : (frameB s c ++ r).drop 2 = numB c.length ++ (c ++ (crcB (preB s c) ++ r)) := by rw [hl]; rfl
  have hf := first_num c.length (c ++ (crcB (preB s c) ++ r)) (by omega)
  have hp := numB_len_pos c.length
  have hp1 : isPre [75, s] (frameB s c ++ r) = true := by rw [hl]; exact isPre_app _ _
  have hb2 : ((frameB s c ++ r).drop 2).drop (numB c.length).length = c ++ (crcB (preB s c) ++ r) := by rw [hd, List.drop_left]
  have hb3 : (c ++ (crcB (preB s c) ++ r)).drop c.length = crcB (preB s c) ++ r := List.drop_left
  have hpre : (frameB s c ++ r).take ((frameB s c ++ r).length - (crcB (preB s c) ++ r).length) = preB s c := by
    have : frameB s c ++ r = preB s c ++ (crcB (preB s c) ++ r) := by unfold frameB; rw [List.append_assoc]
    rw [this, List.length_append, Nat.add_sub_cancel, List.take_left]
  unfold cutF
  rw [if_pos hp1, hd, hf]
  dsimp only
  rw [List.drop_left, hb3, hpre, if_neg (by rw [List.length_append]; omega), if_pos (isPre_app _ _)]
  congr 2
  · exact List.take_left
theorem cut_short (s : UInt8) (c : List UInt8) (k : Nat) (hc : c.length ≤ 40000) (hk : k < (frameB s c).length) : cutF s ((frameB s c).take k) = none := by
  have hl : frameB s c = [75, s] ++ (numB c.length ++ (c ++ crcB (preB s c))) := by
    unfold frameB
    rw [preB_is]
    simp
  unfold cutF
  by_cases h2 : k < 2
  · rw [if_neg]
    rw [isPre_short (by rw [List.length_take]; show _ < 2; omega)]
    simp
  · obtain ⟨j, rfl⟩ : ∃ j, k = 2 + j := ⟨k - 2, by omega⟩
    have hd : ((frameB s c).take (2 + j)).drop 2 = (numB c.length ++ (c ++ crcB (preB s c))).take j := by
      rw [hl, List.drop_take]
      simp
    rw [hd]
    have hlen : (frameB s c).length = 2 + ((numB c.length).length + (c.length + 4)) := by
      rw [hl]
      simp only [List.length_append, crcB_len]
      rfl
    by_cases hp : isPre [75, s] ((frameB s c).take (2 + j)) = true
    · rw [if_pos hp]
      by_cases hn : j < (numB c.length).length
      · have ht : (numB c.length ++ (c ++ crcB (preB s c))).take j = (numB c.length).take j := List.take_append_of_le_length (by omega)
        have h0 : firstT ((numB c.length).take j) = (0, 0) := fst_cut 5 0 0 c.length j hn
        rw [ht, h0, if_pos (Or.inl rfl)]
      · obtain ⟨i, rfl⟩ : ∃ i, j = (numB c.length).length + i := ⟨j - (numB c.length).length, by omega⟩
        have ht : (numB c.length ++ (c ++ crcB (preB s c))).take ((numB c.length).length + i) = numB c.length ++ (c ++ crcB (preB s c)).take i := by
          rw [List.take_append, List.take_of_length_le (by omega)]
          congr 2
          omega
        have hf := first_num c.length ((c ++ crcB (preB s c)).take i) (by omega)
        have hp0 := numB_len_pos c.length
        rw [ht, hf]
        dsimp only
        rw [List.drop_left]
        by_cases hi : i < c.length
        · rw [if_pos (Or.inr (Or.inr (by rw [List.length_take]; omega)))]
        · rw [if_neg (by rw [List.length_take, List.length_append, crcB_len]; omega), if_neg]
          rw [isPre_short]
          · simp
          · rw [crcB_len, List.length_drop, List.length_take, List.length_append, crcB_len]
            omega
    · rw [if_neg hp]
/-- An empty text has no frame. -/
theorem cut_nil (s : UInt8) : cutF s [] = none := by
  unfold cutF
  rw [if_neg]
  rw [isPre_short (by simp)]
  simp
theorem frameB_len (s : UInt8) (c : List UInt8) (hc : c.length ≤ 40000) : (frameB s c).length ≤ c.length + 11 ∧ 0 < (frameB s c).length := by
  have := numB_len 5 c.length (by omega) (by omega)
  unfold frameB
  rw [preB_is, List.length_append, crcB_len]
  simp
  omega
end Go.Proofs.YtapabahhfanmmaaGreatDoor
