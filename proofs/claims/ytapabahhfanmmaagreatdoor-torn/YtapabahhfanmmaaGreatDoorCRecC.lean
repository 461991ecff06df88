import Derived.Test.YtapabahhfanmmaaGreatDoorCStoreH
import Derived.Test.YtapabahhfanmmaaGreatDoorCTellG
import Derived.Test.YtapabahhfanmmaaGreatDoorCStart
import Derived.Test.YtapabahhfanmmaaGreatDoorCFrame
import Derived.Test.YtapabahhfanmmaaGreatDoorCPlayT
import Derived.Test.YtapabahhfanmmaaGreatDoorCTornL
/- A record in memory; what can be asked of it. -/
namespace Go.Proofs.YtapabahhfanmmaaGreatDoor
open Go.RowKit

abbrev gl (t : T) (pb cap : Nat) : List Value := gameL t (.slice (some ⟨pb, 0, none⟩) t.us.length cap)
structure RS (w : World) (rb pb cap : Nat) (S : List Nat) (t : T) (mv stv : Value) (g : Gf) (steps : List Stp) : Prop where
  bl : SB w rb (gl t pb cap) 97 mv stv
  sve : SVE NoE w mv stv S g steps
  row : PRow w pb cap t.us
  nrb : rb ∉ S
  npb : pb ∉ S
  np : pb ≠ rb
  len : t.us.length ≤ 1000
  ne : 0 < t.us.length
  z : 0 < rb ∧ 0 < pb
theorem RS.lt {w : World} {rb pb cap : Nat} {S : List Nat} {t : T} {mv stv : Value} {g : Gf} {steps : List Stp} (h : RS w rb pb cap S t mv stv g steps) : rb < w.heap.size := h.bl.lt
theorem RS.fr {S' : List Nat} {w w' : World} {rb pb cap : Nat} {S : List Nat} {t : T} {mv stv : Value} {g : Gf} {steps : List Stp} (h : RS w rb pb cap S t mv stv g steps) (hf : Fr S' w w') (h1 : rb ∉ S') (h2 : pb ∉ S') (h3 : ∀ b ∈ S, b ∉ S') : RS w' rb pb cap S t mv stv g steps :=
  { h with bl := h.bl.fr hf h1, sve := h.sve.fr hf h3, row := h.row.fr hf h2 }
theorem RS.fr0 {w w' : World} {rb pb cap : Nat} {S : List Nat} {t : T} {mv stv : Value} {g : Gf} {steps : List Stp} (h : RS w rb pb cap S t mv stv g steps) (hf : Fr [] w w') : RS w' rb pb cap S t mv stv g steps := h.fr hf (by simp) (by simp) (by simp)
theorem RS.all {w : World} {rb pb cap : Nat} {S : List Nat} {t : T} {mv stv : Value} {g : Gf} {steps : List Stp} (h : RS w rb pb cap S t mv stv g steps) : w.rangeAt rb 0 (gl t pb cap) := by
  intro j v hv
  have hj : j < (gl t pb cap).length := (List.getElem?_eq_some_iff.1 hv).1
  rw [Nat.zero_add, cell_of_heap h.bl]
  simp only [List.getElem?_toArray]
  rw [List.getElem?_append_left hj]
  exact hv

set_option maxRecDepth 100000 in
set_option maxHeartbeats 1000000 in
theorem rthere_any (rb : Nat) (w : World) :
    Calls Tryz.prog 36 #[.pointer (some ⟨rb, 0, none⟩)] w fun e w' => e = .returned (.pointer (some ⟨rb, 0, none⟩)) ∧ w = w' := by
  go_enter Tryz.func36, Tryz.ntmps36
  go_wp2
  go_ret
  exact ⟨rfl, rfl⟩

set_option maxRecDepth 100000 in
set_option maxHeartbeats 1000000 in
theorem recSteps_any {rb pb cap : Nat} {S : List Nat} {t : T} {mv stv : Value} {g : Gf} {steps : List Stp} (w : World) (h : RS w rb pb cap S t mv stv g steps) (hlen : steps.length ≤ 10000000) (hne : 0 < steps.length) :
    Calls Tryz.prog 13 #[.pointer (some ⟨rb, 0, none⟩)] w fun e w' => ∃ v', e = .returned v' ∧ w'.ownsRow w.heap.size 113 4 v' steps.length (steps.flatMap Stp.cells) ∧ Fr [] w w' := by
  have hk := storeSteps_any rb (gl t pb cap) 97 mv stv steps w h.bl h.sve.st hlen hne
  rw [gameL_len] at hk
  clear h
  go_enter Tryz.func13, Tryz.ntmps13
  go_wp2_with (go_at_call 36; refine (rthere_any rb _).mono ?_; rintro e w1 ⟨rfl, rfl⟩)
  refine Calls.mono hk ?_
  rintro e w1 ⟨v', rfl, ho', hf'⟩
  dsimp only
  go_wp2_with fail
  go_ret
  exact ⟨v', rfl, ho', hf'⟩

set_option maxRecDepth 100000 in
set_option maxHeartbeats 2000000 in
theorem recGame_any {rb pb cap : Nat} {S : List Nat} {t : T} {mv stv : Value} {g : Gf} {steps : List Stp} (w : World) (h : RS w rb pb cap S t mv stv g steps) :
    Calls Tryz.prog 14 #[.pointer (some ⟨rb, 0, none⟩)] w fun e w' => ∃ gb, e = .returned (.pointer (some ⟨gb, 0, none⟩)) ∧ w.heap.size ≤ gb ∧ GS w' gb pb cap t ∧ Fr [] w w' := by
  have hall := h.all
  obtain ⟨gs, hgs⟩ : ∃ x, x = gl t pb cap := ⟨_, rfl⟩
  rw [← hgs] at hall
  have hll : gs.length = 149 := by rw [hgs]; exact gameL_len _ _
  have HI : Hid ((Tryz.prog.info? 90).map (·.size) = some gs.length) := by
    show _ = _
    rw [infoGame, hll]
  have HBS : Hid (Tryz.prog.built 100 [(0, .agg gs.toArray)] = some gs.toArray) := built_sk _ (by simp [hll])
  have HGE := (show Hid _ from hgs)
  have HR := (show Hid _ from h.row)
  have hlen := h.len
  have hne := h.ne
  have hpl := h.row.lt
  have hz := h.z
  clear hgs h
  go_enter Tryz.func14, Tryz.ntmps14
  go_wp2_with (first | (go_at_call 36; refine (rthere_any rb _).mono ?_; rintro e w1 ⟨rfl, rfl⟩) | (refine wpList_load_mid rfl 90 _ rfl rb 0 rfl gs _ hall Tryz.underlying90 rfl HI.out ?_) | (refine wpList_build1 rfl 100 0 (.tmp 7) rfl (.agg gs.toArray) rfl gs.toArray HBS.out ?_))
  have hF : Fr [] w (w.alloc (.cells gs.toArray 100)) := (Fr.refl _ _).alloc _
  have hh : (w.alloc (.cells gs.toArray 100)).heap[w.heap.size]? = some (.cells gs.toArray 100) := hp_new _ _
  refine bodyPost_ret (v := .pointer (some ⟨w.heap.size, 0, none⟩)) (by simp [results, Tryz.results14, go_sem]) rfl ⟨w.heap.size, rfl, Nat.le_refl _, ⟨fun k hk => ?_, fun k => frozen_of_heap hh, PRow.fr HR.out hF (by simp), hlen, hne, by omega, by omega, by omega⟩, hF⟩
  rw [cell_of_heap hh, HGE.out]
  simp only [List.getElem?_toArray]
  unfold gl gameL
  rw [List.getElem?_map, List.getElem?_range hk]
  rfl
/-- What a call makes of a record. -/
structure RPost (w : World) (rb : Nat) (S : List Nat) (t : T) (g : Gf) (steps : List Stp) (w' : World) (pb cap : Nat) (mv stv : Value) (S' : List Nat) : Prop where
  rs : RS w' rb pb cap S' t mv stv g steps
  fr : Fr (rb :: S) w w'
  old : ∀ b ∈ S', b ∈ S ∨ w.heap.size ≤ b
theorem RS.post {w w' : World} {rb pb cap : Nat} {S S' : List Nat} {t : T} {mv stv mv' stv' : Value} {g g' : Gf} {steps steps' : List Stp} (h : RS w rb pb cap S t mv stv g steps) (k : SPost w rb (gl t pb cap) 97 S NoE g' steps' w' mv' stv' S') : RPost w rb S t g' steps' w' pb cap mv' stv' S' := by
  have hpl := h.row.lt
  refine ⟨⟨k.bl, k.sve, h.row.fr k.fr ?_, k.nsb, fun hm => ?_, h.np, h.len, h.ne, h.z⟩, k.fr, k.old⟩
  · intro hm
    rcases List.mem_cons.1 hm with e | e
    · exact h.np e
    · exact h.npb e
  · rcases k.old pb hm with e | e
    · exact h.npb e
    · omega

set_option maxRecDepth 100000 in
set_option maxHeartbeats 1000000 in
theorem recSync_any {rb pb cap : Nat} {S : List Nat} {t : T} {mv stv : Value} {g : Gf} {steps : List Stp} (w : World) (h : RS w rb pb cap S t mv stv g steps) (hlen : steps.length ≤ 10000000) :
    Calls Tryz.prog 19 #[.pointer (some ⟨rb, 0, none⟩)] w fun e w' => e = .returned (.int .i64 t.turn) ∧ ∃ stv' S', RPost w rb S t g (steps ++ [sSync LOG]) w' pb cap mv stv' S' := by
  have hk := syncS_any rb (gl t pb cap) 97 NoE mv stv S g steps LOG w h.bl h.sve h.nrb hlen
  rw [gameL_len] at hk
  have HRP : Hid (∀ w' stv' S', SPost w rb (gl t pb cap) 97 S NoE g (steps ++ [sSync LOG]) w' mv stv' S' → RPost w rb S t g (steps ++ [sSync LOG]) w' pb cap mv stv' S') := fun w' stv' S' k => h.post k
  have HC : Hid (∀ w' stv' S', SPost w rb (gl t pb cap) 97 S NoE g (steps ++ [sSync LOG]) w' mv stv' S' → w'.cell? ⟨rb, 0, none⟩ = some (ii t.turn)) := fun w' stv' S' k => by
    have := (h.post k).rs.all 0 (ii t.turn) (by simp [gl, gameL, tcell])
    exact this
  obtain ⟨tx, htx⟩ : ∃ x : ByteArray, x = ⟨LOG.toArray⟩ := ⟨_, rfl⟩
  have htx' : tx = ⟨#[108, 111, 103]⟩ := htx
  rw [sv, ← htx, htx'] at hk
  clear h htx htx'
  go_enter Tryz.func19, Tryz.ntmps19
  go_wp2_with (go_at_call 36; refine (rthere_any rb _).mono ?_; rintro e w1 ⟨rfl, rfl⟩)
  refine Calls.mono hk ?_
  rintro e w1 ⟨rfl, stv', S', hp⟩
  dsimp only
  have c0 := HC.out w1 stv' S' hp
  have hP := HRP.out w1 stv' S' hp
  clear hk hp HC HRP
  have HP := (show Hid _ from hP)
  clear hP
  go_wp2_with fail
  go_ret
  exact ⟨rfl, stv', S', HP.out⟩

set_option maxRecDepth 100000 in
set_option maxHeartbeats 2000000 in
theorem recFold_any {rb pb cap : Nat} {S : List Nat} {t : T} {mv stv : Value} {g : Gf} {steps : List Stp} (w : World) (h : RS w rb pb cap S t mv stv g steps) (hlen : steps.length ≤ 9999990) (h2 : (g LOG1).isSome = true → g LOG2 = none) (hb : ∀ x ∈ numsOf t, 0 ≤ x ∧ x ≤ 1000000000) (hl : t.us.length ≤ 100) (htl : (tellB t).length ≤ 40000) :
    Calls Tryz.prog 20 #[.pointer (some ⟨rb, 0, none⟩)] w fun e w' => e = .returned (.tuple #[]) ∧ ∃ v' mv' stv' S', RPost w rb S t (fun k => if k = otherOf g then none else if k = LOG then some (v', frameB 2 (tellB t)) else g k) (steps ++ [sApp (otherOf g) (frameB 2 (tellB t)), sSync (otherOf g), sRen (otherOf g) LOG]) w' pb cap mv' stv' S' := by
  have HTS : Hid (∀ w', Fr [] w w' → Calls Tryz.prog 38 #[.agg (gl t pb cap).toArray] w' fun e w'' => e = .returned (.string ⟨(tellB t).toArray⟩) ∧ Fr [] w' w'') := fun w' hf => tellState_any pb cap t w' (h.row.fr hf (by simp)) hb hl
  have HFT : Hid (∀ w', Calls Tryz.prog 44 #[.int .u8 2, .string ⟨(tellB t).toArray⟩] w' fun e w'' => e = .returned (.string ⟨(frameB 2 (tellB t)).toArray⟩) ∧ Fr [] w' w'') := fun w' => frameTell_any 2 (tellB t) w' (by omega)
  have hfl : (frameB 2 (tellB t)).length ≤ 1000000000 := by
    have := numB_len 5 (tellB t).length (by omega) (by omega)
    unfold frameB preB
    rw [List.length_append, crcB_len, List.length_append, List.length_append]
    simp
    omega
  obtain ⟨gs, hgs⟩ : ∃ x, x = gl t pb cap := ⟨_, rfl⟩
  have hll : gs.length = 149 := by rw [hgs]; exact gameL_len _ _
  obtain ⟨L, hL⟩ : ∃ L, L = tellB t := ⟨_, rfl⟩
  obtain ⟨FB, hFB⟩ : ∃ F, F = frameB 2 (tellB t) := ⟨_, rfl⟩
  have HRE : Hid (∀ w', Fr [] w w' → Calls Tryz.prog 46 #[.pointer (some ⟨rb, 149, none⟩), .string ⟨#[108, 111, 103]⟩, .string ⟨FB.toArray⟩] w' fun e w'' => e = .returned (.tuple #[]) ∧ ∃ v' mv' stv' S', RPost w rb S t (fun k => if k = otherOf g then none else if k = LOG then some (v', FB) else g k) (steps ++ [sApp (otherOf g) FB, sSync (otherOf g), sRen (otherOf g) LOG]) w'' pb cap mv' stv' S' ∧ w''.rangeAt rb 0 gs) := fun w' hf => by
    have hR := h.fr0 hf
    have hk := replace_any rb (gl t pb cap) 97 mv stv S g steps FB w' hR.bl hR.sve hR.nrb h2 hlen (by rw [hFB]; exact hfl)
    rw [gameL_len] at hk
    refine Calls.mono hk ?_
    rintro e w2 ⟨rfl, v', mv', stv', S', hp⟩
    have hP := hR.post hp
    exact ⟨rfl, v', mv', stv', S', ⟨hP.rs, (hf.of0 (S := rb :: S)).trans hP.fr (fun b hb => Or.inl hb), fun b hb => (hP.old b hb).imp_right (fun e => Nat.le_trans hf.size e)⟩, by rw [hgs]; exact hP.rs.all⟩
  have hall := h.all
  rw [← hgs] at hall HTS
  rw [← hFB] at HFT ⊢
  rw [← hL] at HTS HFT
  have HI : Hid ((Tryz.prog.info? 90).map (·.size) = some gs.length) := by
    show _ = _
    rw [infoGame, hll]
  clear hgs hll h hL hb hFB hfl
  have HRG : ∀ w', Fr [] w w' → w'.rangeAt rb 0 gs := fun w' hf j v hv => by
    have h1 := hall j v hv
    exact (hf.cell _ _ (lt_of_cell h1) (by simp)).trans h1
  have hd : Fr [] w w.drew := (Fr.refl _ _).drew
  have KD := HRG _ hd
  go_enter Tryz.func20, Tryz.ntmps20
  go_wp2_with (go_at_call 36; refine (rthere_any rb _).mono ?_; rintro e w1 ⟨rfl, rfl⟩)
  refine wp_region_held (S := fun w' => w'.rangeAt rb 0 gs) (by kernel_rfl) ?_
  refine wpAnyH_take (i := 0) (oi := _) (v := .pointer (some ⟨rb, 0, none⟩)) rfl (by kernel_rfl) (by kernel_rfl) (by kernel_rfl) (fun _ _ _ h => h) (Or.inl ⟨by kernel_rfl, fun w0 _ => by go_simp⟩) KD ?_
  simp only [Act.put]
  refine wpAnyH_take (i := 1) (oi := _) (v := .pointer (some ⟨rb, 0, none⟩)) rfl (by kernel_rfl) (by kernel_rfl) (by kernel_rfl) (fun _ _ _ h => h) (Or.inl ⟨by kernel_rfl, fun w0 _ => by go_simp⟩) KD ?_
  simp only [Act.put]
  refine wpAnyH_take (i := 2) (oi := _) (v := .pointer (some ⟨rb, 149, none⟩)) rfl (by kernel_rfl) (by kernel_rfl) (by kernel_rfl) (fun _ _ _ h => h) (Or.inl ⟨by kernel_rfl, fun w0 _ => by go_simp⟩) KD ?_
  simp only [Act.put]
  refine wpAnyH_take (i := 3) (oi := _) (v := .pointer (some ⟨rb, 0, none⟩)) rfl (by kernel_rfl) (by kernel_rfl) (by kernel_rfl) (fun _ _ _ h => h) (Or.inl ⟨by kernel_rfl, fun w0 _ => by go_simp⟩) KD ?_
  simp only [Act.put]
  refine wpAnyH_take (i := 4) (oi := _) (v := .pointer (some ⟨rb, 0, none⟩)) rfl (by kernel_rfl) (by kernel_rfl) (by kernel_rfl) (fun _ _ _ h => h) (Or.inl ⟨by kernel_rfl, fun w0 _ => by go_simp⟩) KD ?_
  simp only [Act.put]
  refine wpAnyH_take (i := 5) (oi := _) (v := .pointer (some ⟨rb, 0, none⟩)) rfl (by kernel_rfl) (by kernel_rfl) (by kernel_rfl) (fun _ _ _ h => h) (Or.inl ⟨by kernel_rfl, fun w0 _ => by go_simp⟩) KD ?_
  simp only [Act.put]
  refine wpAnyH_take (i := 6) (oi := _) (v := .agg gs.toArray) rfl (by kernel_rfl) (by kernel_rfl) (by kernel_rfl) (fun _ _ _ h => h) (yieldsIf_load_mid (by kernel_rfl) 90 (.tmp 9) rfl rb 0 rfl gs _ (fun _ h => h) Tryz.underlying90 rfl HI.out) KD ?_
  simp only [Act.put]
  refine wpAnyH_ready (rs := [7]) (by kernel_rfl) (by simp) ?_
  refine AllReadyH.cons rfl (fun K hK => ?_) AllReadyH.nil
  rw [if_pos (by rfl)]
  go_wp2_with (go_at_call 38; refine Calls.mono (HTS.out _ hd) ?_; rintro e w1 ⟨rfl, hf1⟩)
  have hfr1 := hd.then0 hf1
  refine hK.out _ _ (HRG _ hfr1) (fun _ => ?_)
  clear hK
  refine wpAnyH_ready (rs := [8]) (by kernel_rfl) (by simp) ?_
  refine AllReadyH.cons rfl (fun K hK => ?_) AllReadyH.nil
  rw [if_pos (by rfl)]
  go_wp2_with (go_at_call 44; refine Calls.mono (HFT.out _) ?_; rintro e w2 ⟨rfl, hf2⟩)
  have hfr2 := hfr1.then0 hf2
  refine hK.out _ _ (HRG _ hfr2) (fun _ => ?_)
  clear hK
  refine wpAnyH_ready (rs := [9]) (by kernel_rfl) (by simp) ?_
  refine AllReadyH.cons rfl (fun K hK => ?_) AllReadyH.nil
  rw [if_pos (by rfl)]
  go_wp2_with (go_at_call 46; refine Calls.mono (HRE.out _ hfr2) ?_; rintro e w3 ⟨rfl, v', mv', stv', S', hP, hA⟩)
  refine hK.out _ _ hA (fun _ => ?_)
  clear hK
  refine wpAnyH_done (by kernel_rfl) ?_ _
  exact bodyPost_end (v := .tuple #[]) (results_none rfl _ _ _) rfl ⟨rfl, v', mv', stv', S', hP⟩
end Go.Proofs.YtapabahhfanmmaaGreatDoor
/- A record's turn. -/
namespace Go.Proofs.YtapabahhfanmmaaGreatDoor
open Go.RowKit

theorem setCells_heap {b : Nat} {ty : TypeId} {fz : Nat × Nat} : ∀ (vs : List Value) (o : Nat) (w : World) (cs : List Value), w.heap[b]? = some (.cells cs.toArray ty fz) → o + vs.length ≤ cs.length → (w.setCells b o vs).heap[b]? = some (.cells (cs.take o ++ vs ++ cs.drop (o + vs.length)).toArray ty fz)
  | [], o, w, cs, h, _ => by
    show w.heap[b]? = _
    rw [h]
    simp
  | v :: vs, o, w, cs, h, hl => by
    have hl' : o + (vs.length + 1) ≤ cs.length := hl
    have h1 := setCell_heap (o := o) h v
    have e : cs.toArray.setIfInBounds o v = (cs.take o ++ v :: cs.drop (o + 1)).toArray := by
      rw [List.setIfInBounds_toArray, List.set_eq_take_append_cons_drop, if_pos (by omega)]
    rw [e] at h1
    have ih := setCells_heap vs (o + 1) _ _ h1 (by simp; omega)
    show ((w.setCell ⟨b, o, none⟩ v).setCells b (o + 1) vs).heap[b]? = _
    rw [ih]
    congr 3
    have hto : (cs.take o).length = o := by rw [List.length_take]; omega
    have e1 : (cs.take o ++ v :: cs.drop (o + 1)).take (o + 1) = cs.take o ++ [v] := by
      rw [List.take_append, hto, List.take_of_length_le (by omega), show o + 1 - o = 1 by omega]
      rfl
    have e2 : (cs.take o ++ v :: cs.drop (o + 1)).drop (o + 1 + vs.length) = cs.drop (o + (vs.length + 1)) := by
      rw [List.drop_append, hto, List.drop_of_length_le (by omega), show o + 1 + vs.length - o = vs.length + 1 by omega, List.nil_append, List.drop_succ_cons, List.drop_drop]
      congr 1
      omega
    rw [e1, e2]
    simp

theorem gok_ne {t : T} (h : GOk t) : 0 < t.us.length := by
  have := h.bs
  dsimp only at this
  rcases Nat.eq_zero_or_pos t.us.length with e | e
  · rw [List.length_eq_zero_iff] at e
    rw [e] at this
    simp at this
  · exact e

set_option maxRecDepth 100000 in
set_option maxHeartbeats 4000000 in
theorem recPlay_any {rb pb cap : Nat} {S : List Nat} {t : T} {mv stv : Value} {g : Gf} {steps : List Stp} (w : World) (l1 l2 : List Cm) (lv1 lv2 : Value) (h : RS w rb pb cap S t mv stv g steps) (hsd : Sd w) (hgg : GG t) (ht : t.turn < 1000000000) (h1 : CmdV w lv1 l1) (h2 : CmdV w lv2 l2) (hl1 : l1.length ≤ 2) (hl2 : l2.length ≤ 2) (hlen : steps.length ≤ 10000000) (hfd : (fid g LOG).length ≤ 999000000) :
    Calls Tryz.prog 17 #[.pointer (some ⟨rb, 0, none⟩), lv1, lv2] w fun e w' => ∃ v a b, e = .returned (.tuple #[v, .int .i64 0]) ∧ Refs w' w.heap.size v a b ∧ ∃ v' pb' cap' mv' stv' S', (pb' = pb ∨ w.heap.size ≤ pb') ∧ RPost w rb S (playW t (l1, l2)) (fun k => if k = LOG then some (v', fid g LOG ++ turnFr t (l1, l2)) else g k) (steps ++ [sApp LOG (turnFr t (l1, l2))]) w' pb' cap' mv' stv' S' := by
  have hbd : t.turn ≤ 1000000000 := by omega
  have hfl := turnFr_len t (l1, l2) hbd ⟨hl1, hl2⟩
  have htb : (turnB t.turn l1 l2).length ≤ 115 := turnB_len t.turn (l1, l2) hbd ⟨hl1, hl2⟩
  have hall := h.all
  have c0 : w.cell? ⟨rb, 0, none⟩ = some (ii t.turn) := hall 0 _ (by simp [gl, gameL, tcell])
  obtain ⟨ao1, lc1, rfl⟩ := h1.shape
  obtain ⟨ao2, lc2, rfl⟩ := h2.shape
  have HTT : Hid (Calls Tryz.prog 41 #[.agg #[ii t.turn, .slice ao1 l1.length lc1, .slice ao2 l2.length lc2]] w fun e w' => e = .returned (.tuple #[.string ⟨(turnB t.turn l1 l2).toArray⟩, .bool true]) ∧ Fr [] w w') := tellTurn_any t.turn _ _ l1 l2 w ⟨hgg.t0, hbd⟩ h1 h2 (by omega) (by omega)
  have HPT : Hid (∀ w', Fr [] w w' → Calls Tryz.prog 42 #[.agg (gl t pb cap).toArray, .string ⟨(turnB t.turn l1 l2).toArray⟩] w' fun e w'' => ∃ v pb' cap', e = .returned (.tuple #[.agg (gl (playW t (l1, l2)) pb' cap').toArray, v, .bool true]) ∧ Fr [] w' w'' ∧ PRow w'' pb' cap' (playW t (l1, l2)).us ∧ (pb' = pb ∨ w'.heap.size ≤ pb') ∧ Refs w'' w'.heap.size v (playT t (l1.map writeC) (l2.map writeC)).2.1 (playT t (l1.map writeC) (l2.map writeC)).2.2) := fun w' hf => playTurn_ok pb cap t (l1.map writeC) (l2.map writeC) _ w' (hsd.fr0 hf) hgg.ok (h.row.fr hf (by simp)) ⟨hgg.t0, ht⟩ (reads_turn t.turn l1 l2 ⟨hgg.t0, hbd⟩ (by omega) (by omega)) (by omega) (by simp; omega) (by simp; omega)
  have HFT : Hid (∀ w', Calls Tryz.prog 44 #[.int .u8 1, .string ⟨(turnB t.turn l1 l2).toArray⟩] w' fun e w'' => e = .returned (.string ⟨(turnFr t (l1, l2)).toArray⟩) ∧ Fr [] w' w'') := fun w' => frameTell_any 1 (turnB t.turn l1 l2) w' (by omega)
  have ht2 : ¬ (1000000000 : Int) ≤ t.turn := by omega
  obtain ⟨gs, hgs⟩ : ∃ x, x = gl t pb cap := ⟨_, rfl⟩
  have hll : gs.length = 149 := by rw [hgs]; exact gameL_len _ _
  have HI : Hid ((Tryz.prog.info? 90).map (·.size) = some gs.length) := by
    show _ = _
    rw [infoGame, hll]
  rw [← hgs] at HPT hall
  obtain ⟨TB, hTB⟩ : ∃ x, x = turnB t.turn l1 l2 := ⟨_, rfl⟩
  rw [← hTB] at HTT HPT HFT
  obtain ⟨FB, hFB⟩ : ∃ x, x = turnFr t (l1, l2) := ⟨_, rfl⟩
  rw [← hFB] at HFT ⊢
  have HRG : Hid (∀ w', Fr [] w w' → w'.rangeAt rb 0 gs) := fun w' hf j v hv => by
    have h1 := hall j v hv
    exact (hf.cell _ _ (lt_of_cell h1) (by simp)).trans h1
  have HRS := (show Hid _ from h)
  have HGS := (show Hid _ from hgs)
  have HFB := (show Hid _ from hFB)
  clear h1 h2 hTB hsd hgs hFB
  go_enter Tryz.func17, Tryz.ntmps17
  go_wp2_with (first | (go_at_call 36; refine (rthere_any rb _).mono ?_; rintro e w1 ⟨rfl, rfl⟩))
  refine Calls.mono HTT.out ?_
  rintro e w1 ⟨rfl, hf1⟩
  dsimp only
  have hg1 := HRG.out w1 hf1
  clear hall c0 HTT h HRG
  go_wp2_with (refine wpList_load_mid rfl 90 _ rfl rb 0 rfl gs _ hg1 Tryz.underlying90 rfl HI.out ?_)
  refine Calls.mono (HPT.out _ hf1) ?_
  rintro e w2 ⟨v2, pb2, cap2, rfl, hf2, hrow2, hpb2, hr2⟩
  dsimp only
  obtain ⟨gn, hgn⟩ : ∃ x, x = gl (playW t (l1, l2)) pb2 cap2 := ⟨_, rfl⟩
  have hln : gn.length = 149 := by rw [hgn]; exact gameL_len _ _
  have HOn : Hid (gn.toArray.all (·.oneCell') = true) := by
    show _ = _
    rw [hgn]; exact gameL_one _ _ _ _
  have HON : Hid (∀ u ∈ gn, u.oneCell' = true) := fun u hu => by
    have := HOn.out
    rw [Array.all_eq_true'] at this
    exact this u (by simpa using hu)
  have HIN : Hid ((Tryz.prog.info? 90).map (·.size) = some gn.toArray.size) := by
    show _ = _
    rw [infoGame, List.size_toArray, hln]
  have HIL : Hid ((Tryz.prog.info? 90).map (·.size) = some gn.length) := by
    show _ = _
    rw [infoGame, hln]
  have HZN : Hid (Tryz.zeroCells90.size = gn.toArray.size) := by
    show _ = _
    exact zcGame.trans (by simp [hln])
  have HGN := (show Hid _ from hgn)
  rw [← hgn]
  have HLN := (show Hid _ from hln)
  obtain ⟨rb2, rc2, x0, x1, hv2, hr2'⟩ := hr2
  have HRF : Hid (Refs w2 w1.heap.size v2 (playT t (l1.map writeC) (l2.map writeC)).2.1 (playT t (l1.map writeC) (l2.map writeC)).2.2) := ⟨rb2, rc2, x0, x1, hv2, hr2'⟩
  subst hv2
  have HROW := (show Hid _ from hrow2)
  clear hgn hr2' hrow2 hg1 hln HPT
  obtain ⟨W3, hW3⟩ : ∃ W, W = (w2.alloc (.cells Tryz.zeroCells90 90)).setRow w2.heap.size gn.toArray := ⟨_, rfl⟩
  have hf3 : Fr [] w2 W3 := by rw [hW3]; exact ((Fr.refl _ _).alloc _).setRow _ _ (Or.inr (Nat.le_refl _))
  have HH3 : Hid (W3.heap[w2.heap.size]? = some (.cells gn.toArray 90)) := by show _ = _; rw [hW3]; exact setRow_heap _ _ _ _ _ _ (hp_new _ _)
  have hF3 : Fr [] w W3 := (hf1.then0 hf2).then0 hf3
  have hR3 : RS W3 rb pb cap S t mv stv g steps := RS.fr0 HRS.out hF3
  have hB3 : W3.heap[rb]? = some (.cells (gs ++ [mv, stv]).toArray 97) := by
    have := hR3.bl
    unfold SB at this
    rwa [← HGS.out] at this
  have HTH : Hid (W3.there rb 0 gn.toArray.size) := fun j hj => by
    have hj' : j < 149 := by rw [List.size_toArray, HLN.out] at hj; exact hj
    refine ⟨?_, frozen_of_heap hB3⟩
    rw [cell_of_heap hB3, Nat.zero_add, Array.getElem?_eq_getElem (by simp; omega)]
    rfl
  obtain ⟨W4, hW4⟩ : ∃ W, W = W3.setCells rb 0 gn := ⟨_, rfl⟩
  have hf4 : Fr [rb] W3 W4 := by rw [hW4]; exact fr_setCells rb gn 0 W3 (Fr.refl _ _) (Or.inl (by simp))
  have hB4 : W4.heap[rb]? = some (.cells (gn ++ [mv, stv]).toArray 97) := by
    rw [hW4, setCells_heap gn 0 W3 (gs ++ [mv, stv]) hB3 (by rw [List.length_append, hll, HLN.out]; omega)]
    rw [List.take_zero, List.nil_append, Nat.zero_add, HLN.out, List.drop_append, hll, Nat.sub_self, List.drop_zero, List.drop_of_length_le (by omega), List.nil_append]
  have hpbl := (show RS _ _ _ _ _ _ _ _ _ _ from HRS.out).row.lt
  have hrbl := (show RS _ _ _ _ _ _ _ _ _ _ from HRS.out).lt
  have hSl := (show RS _ _ _ _ _ _ _ _ _ _ from HRS.out).sve.lt
  have hs1 := hf1.size
  have hR4 : RS W4 rb pb2 cap2 S (playW t (l1, l2)) mv stv g steps := by
    have h0 := (show RS _ _ _ _ _ _ _ _ _ _ from HRS.out)
    have hk := play_ok hgg.ok (l1.map writeC) (l2.map writeC) ht
    have hlp : (playW t (l1, l2)).us.length ≤ 100 := hk.ok.len
    have hpp : 0 < (playW t (l1, l2)).us.length := gok_ne hk.ok
    have hnr : pb2 ≠ rb := by
      rcases hpb2 with e | e
      · rw [e]; exact h0.np
      · omega
    refine ⟨?_, hR3.sve.fr hf4 (fun b hb e => h0.nrb ((show b = rb by simpa using e) ▸ hb)), (HROW.out.fr hf3 (by simp)).fr hf4 (by simpa using hnr), h0.nrb, fun hm => ?_, hnr, by omega, hpp, h0.z.1, ?_⟩
    · show W4.heap[rb]? = _
      rw [hB4, HGN.out]
    · rcases hpb2 with e | e
      · rw [e] at hm; exact h0.npb hm
      · have := hSl _ hm; omega
    · rcases hpb2 with e | e
      · rw [e]; exact h0.z.2
      · omega
  have hF4 : Fr (rb :: S) w W4 := (hF3.of0 (S := rb :: S)).trans hf4 (by simp)
  have HRF4 : Hid (Refs W4 w.heap.size (.slice (some ⟨rb2, 0, none⟩) 2 rc2) (playT t (l1.map writeC) (l2.map writeC)).2.1 (playT t (l1.map writeC) (l2.map writeC)).2.2) := by
    have h1 : Refs W3 w1.heap.size (.slice (some ⟨rb2, 0, none⟩) 2 rc2) (playT t (l1.map writeC) (l2.map writeC)).2.1 (playT t (l1.map writeC) (l2.map writeC)).2.2 := Refs.fr HRF.out hf3 (by simp)
    exact (h1.fr hf4 (fun x hx => by
      have : x = rb := by simpa using hx
      omega)).low hs1
  have HAP : Hid (∀ w', Fr [] W4 w' → Calls Tryz.prog 43 #[.pointer (some ⟨rb, 149, none⟩), .string ⟨#[108, 111, 103]⟩, .string ⟨FB.toArray⟩] w' fun e w'' => e = .returned (.tuple #[]) ∧ Refs w'' w.heap.size (.slice (some ⟨rb2, 0, none⟩) 2 rc2) (playT t (l1.map writeC) (l2.map writeC)).2.1 (playT t (l1.map writeC) (l2.map writeC)).2.2 ∧ ∃ v' mv' stv' S', RPost w rb S (playW t (l1, l2)) (fun k => if k = LOG then some (v', fid g LOG ++ FB) else g k) (steps ++ [sApp LOG FB]) w'' pb2 cap2 mv' stv' S') := fun w' hf => by
    have hR := hR4.fr0 hf
    have hk := appendS_any rb (gl (playW t (l1, l2)) pb2 cap2) 97 NoE mv stv S g steps LOG FB w' hR.bl hR.sve hR.nrb (by simp) hlen (by have := HFB.out; rw [this]; omega)
    rw [gameL_len] at hk
    refine Calls.mono hk ?_
    rintro e w2 ⟨rfl, v', mv', stv', S', hp⟩
    have hP := hR.post hp
    have hsz4 := hF4.size
    refine ⟨rfl, ?_, v', mv', stv', S', hP.rs, (hF4.then0 hf).trans hP.fr (fun b hb => Or.inl hb), fun b hb => (hP.old b hb).imp_right (fun e => by have := hf.size; omega)⟩
    have h1 : Refs w' w.heap.size _ _ _ := Refs.fr HRF4.out hf (by simp)
    exact h1.fr hP.fr (fun x hx => by
      rcases List.mem_cons.1 hx with rfl | hx
      · exact hrbl
      · exact hSl x hx)
  have HPB : Hid (pb2 = pb ∨ w.heap.size ≤ pb2) := hpb2.imp_right (fun e => Nat.le_trans hs1 e)
  have HW3 := (show Hid _ from hW3)
  have HW4 := (show Hid _ from hW4)
  clear hW3 hW4 hB3 hB4 hR3 hR4 hf1 hf2 hf3 hf4 hF3 hF4 hpb2 hpbl hrbl hSl hs1 hll
  go_wp2_with (first | (refine wpList_store_row rfl 90 _ _ rfl w2.heap.size gn.toArray rfl rfl 90 Tryz.zeroCells90 (hp_new w2 _) HIN.out HZN.out HOn.out ?_; rw [← HW3.out]) | (refine wpList_load_row rfl 90 _ rfl w2.heap.size rfl 90 gn.toArray (0, 0) _ HH3.out Tryz.underlying90 rfl HIN.out ?_) | (refine wpList_store_mid rfl 90 _ _ rfl rb 0 gn.toArray rfl rfl HTH.out HIN.out HOn.out ?_; rw [List.toList_toArray, ← HW4.out]))
  simp only [Act.put]
  have hd4 : Fr [] W4 W4.drew := (Fr.refl _ _).drew
  clear HW3 HW4 HTH HIN HOn HON HIL HZN HH3 HRF HRF4 HROW HLN HI HRS HGN HGS
  go_region_held (fun _ : World => True)
    (exact trivial)
    (first | (go_at_call 44; refine Calls.mono (HFT.out _) ?_; rintro e w5 ⟨rfl, hf5⟩) | (go_at_call 43; refine Calls.mono (HAP.out _ (hd4.then0 hf5)) ?_; rintro e w6 ⟨rfl, hR6, v6, mv6, stv6, S6, hP6⟩))
  all_goals
    have HP6 := (show Hid _ from hP6)
    have HR6 := (show Hid _ from hR6)
    clear hP6 hR6 HAP HFT
    go_wp2_with fail
    exact bodyPost_ret (v := .tuple #[.slice (some ⟨rb2, 0, none⟩) 2 rc2, .int .i64 0]) (by simp [results, Tryz.results17, go_sem]) rfl ⟨_, _, _, rfl, HR6.out, v6, pb2, cap2, mv6, stv6, S6, HPB.out, HP6.out⟩
end Go.Proofs.YtapabahhfanmmaaGreatDoor
/- A log is played. -/
namespace Go.Proofs.YtapabahhfanmmaaGreatDoor
open Go.RowKit

def strLen (v : Value) : Nat := match v with | .string b => b.size | _ => 0
structure LI (w : World) (nb pb : Nat) (t : T) (l : List Tn) (k : Nat) (s : Value) (wr : World) : Prop where
  ex : ∃ t' l' k' pb' cap', s = sv ((turnsB t' l').take k') ∧ cutT t' l' k' = cutT t l k ∧ GG t' ∧ t'.turn + l'.length ≤ 1000 ∧ Short l' ∧ wr.heap[nb]? = some (.cells (gl t' pb' cap').toArray 90) ∧ PRow wr pb' cap' t'.us ∧ (pb' = pb ∨ w.heap.size ≤ pb') ∧ pb' ≠ nb ∧ pb' ≠ nb + 1
  fr : Fr [] w wr

set_option maxRecDepth 100000 in
set_option maxHeartbeats 4000000 in
theorem playLog_any (pb cap : Nat) (t : T) (l : List Tn) (k : Nat) (w : World) (hsd : Sd w) (hgg : GG t) (hb : t.turn + l.length ≤ 1000) (hsh : Short l) (hrow : PRow w pb cap t.us) :
    Calls Tryz.prog 91 #[.agg (gl t pb cap).toArray, sv ((turnsB t l).take k)] w fun e w' => ∃ pb' cap', e = .returned (.tuple #[.agg (gl (cutT t l k).1 pb' cap').toArray, sv (cutT t l k).2]) ∧ PRow w' pb' cap' (cutT t l k).1.us ∧ (pb' = pb ∨ w.heap.size ≤ pb') ∧ Fr [] w w' := by
  obtain ⟨gs, hgs⟩ : ∃ x, x = gl t pb cap := ⟨_, rfl⟩
  obtain ⟨tx, htx⟩ : ∃ x : ByteArray, x = ⟨((turnsB t l).take k).toArray⟩ := ⟨_, rfl⟩
  rw [sv, ← htx, ← hgs]
  have HGS := (show Hid _ from hgs)
  have HTX := (show Hid _ from htx)
  clear hgs htx
  go_enter Tryz.func91, Tryz.ntmps91
  go_wp2_with fail
  obtain ⟨W1, hW1⟩ : ∃ W, W = (w.alloc (.cells gs.toArray 90)).alloc (.cells Tryz.zeroCells90 90) := ⟨_, rfl⟩
  rw [← hW1]
  have hw1 : Fr [] w W1 := by rw [hW1]; exact ((Fr.refl _ _).alloc _).alloc _
  have hA1 : W1.heap[w.heap.size]? = some (.cells gs.toArray 90) := by rw [hW1]; exact hp_old2 _ _ _
  have hB1 : W1.heap[w.heap.size + 1]? = some (.cells Tryz.zeroCells90 90) := by rw [hW1]; exact hp_new2 _ _ _
  have hpl := hrow.lt
  have hLI : LI w w.heap.size pb t l k (.string tx) W1 := ⟨⟨t, l, k, pb, cap, by rw [HTX.out], rfl, hgg, hb, hsh, by rw [← HGS.out]; exact hA1, hrow.fr hw1 (by simp), Or.inl rfl, by omega, by omega⟩, hw1⟩
  have HLI := (show Hid _ from hLI)
  have HHB := (show Hid _ from hB1)
  clear hW1 hA1 hB1 hLI hgg hb hsh hrow HGS
  go_loopw [1] (fun s wr => LI w w.heap.size pb t l k s wr ∧ wr.heap[w.heap.size + 1]? = some (.cells Tryz.zeroCells90 90)) (fun s _ => strLen s)
  case atStart => exact ⟨HLI.out, HHB.out⟩
  case round =>
    obtain ⟨hI, hZ⟩ := hrel
    obtain ⟨t', l', k', pb', cap', rfl, hct, hgg, hb, hsh, hN, hrow, hpb, hpn, hpn1⟩ := hI.ex
    have hfr := hI.fr
    have hln := turns_len l' hgg (by omega) hsh
    have hl'b : l'.length ≤ 1000 := by have := hgg.t0; omega
    have hcut := frameCut_any 1 ((turnsB t' l').take k') wr (by rw [List.length_take]; omega)
    obtain ⟨gn, hgn⟩ : ∃ x, x = gl t' pb' cap' := ⟨_, rfl⟩
    have hlg : gn.length = 149 := by rw [hgn]; exact gameL_len _ _
    rw [← hgn] at hN
    have HIG : Hid ((Tryz.prog.info? 90).map (·.size) = some gn.toArray.size) := by
      show _ = _
      rw [infoGame, List.size_toArray, hlg]
    have HZG : Hid (Tryz.zeroCells90.size = gn.toArray.size) := by
      show _ = _
      exact zcGame.trans (by simp [hlg])
    have HOG : Hid (gn.toArray.all (·.oneCell') = true) := by
      show _ = _
      rw [hgn]; exact gameL_one _ _ _ _
    have HGN := (show Hid _ from hgn)
    have HROW := (show Hid _ from hrow)
    have HCT := (show Hid _ from hct)
    have HNB := (show Hid _ from hN)
    have HZB := (show Hid _ from hZ)
    clear hI HLI hgn hrow hct hN hZ HHB
    obtain ⟨tx', htx'⟩ : ∃ x : ByteArray, x = ⟨((turnsB t' l').take k').toArray⟩ := ⟨_, rfl⟩
    rw [← htx'] at hcut
    rw [sv, ← htx']
    have HTX' := (show Hid _ from htx')
    clear htx'
    by_cases hend : cutF 1 ((turnsB t' l').take k') = none
    · have HRES : Hid (cutT t l k = (t', (turnsB t' l').take k')) := by
        show _ = _
        rw [← HCT.out]
        cases l' with
        | nil => simp [cutT, turnsB]
        | cons p l' =>
          by_cases hk : k' < (turnFr t' p).length
          · rw [cutT, if_pos hk, (round_short t' p l' k' (by omega) (hsh p (by simp)) hk).2]
          · rw [round_whole t' p l' k' (by omega) (hsh p (by simp)) hk] at hend
            cases hend
      rw [hend] at hcut
      have hcut' : Calls Tryz.prog 89 #[.string tx', .int .u8 1] wr fun e w' => e = .returned (.tuple #[.string ⟨#[]⟩, .string ⟨#[]⟩, .bool false]) ∧ Fr [] wr w' := hcut
      clear hcut
      go_wp2_with fail
      refine Calls.mono hcut' ?_
      rintro e w2 ⟨rfl, hf2⟩
      dsimp only
      have HN2 := (show Hid _ from hf2.heap0 HNB.out)
      have HZ2 := (show Hid _ from hf2.heap0 HZB.out)
      clear hcut'
      go_wp2_with (first | (refine wpList_load_row rfl 90 _ rfl w.heap.size rfl 90 gn.toArray (0, 0) _ HN2.out Tryz.underlying90 rfl HIG.out ?_) | (refine wpList_store_row rfl 90 _ _ rfl (w.heap.size + 1) gn.toArray rfl rfl 90 Tryz.zeroCells90 HZ2.out HIG.out HZG.out HOG.out ?_))
      have hfs : Fr [w.heap.size + 1] w2 (w2.setRow (w.heap.size + 1) gn.toArray) := (Fr.refl _ _).setRow _ _ (Or.inl (by simp))
      have hz1 := lt_of_heap HZB.out
      refine bodyPost_ret (v := .tuple #[.agg gn.toArray, .string tx']) (results_cell_tmp Tryz.results91 _ _ (w.heap.size + 1) 90 gn.toArray (0, 0) _ _ rfl rfl (setRow_heap _ _ _ _ _ _ HZ2.out) Tryz.underlying90 rfl HIG.out) rfl ⟨pb', cap', ?_, ?_, hpb, (hfr.then0 hf2).trans hfs (by simp)⟩
      · rw [HRES.out, HGN.out, HTX'.out]
      · rw [HRES.out]
        refine (HROW.out.fr hf2 (by simp)).fr hfs (fun e => ?_)
        exact hpn1 (by simpa using e)
    · obtain ⟨p, l2, hl2⟩ : ∃ p l2, l' = p :: l2 := by
        cases l' with
        | nil => exact absurd (by simp [turnsB, cut_nil]) hend
        | cons p l2 => exact ⟨p, l2, rfl⟩
      subst hl2
      have hp2 := hsh p (by simp)
      have hk : ¬ k' < (turnFr t' p).length := fun hk => hend (round_short t' p l2 k' (by omega) hp2 hk).1
      have hrw := round_whole t' p l2 k' (by omega) hp2 hk
      rw [hrw] at hcut
      have hfl := turnFr_len t' p (by omega) hp2
      have hpl2 : t'.turn + (l2.length + 1 : Nat) ≤ 1000 := hb
      obtain ⟨g2, hg2t⟩ := hgg.play p (by omega)
      have HPT : Hid (∀ w', Fr [] wr w' → Calls Tryz.prog 42 #[.agg gn.toArray, .string ⟨(turnB t'.turn p.1 p.2).toArray⟩] w' fun e w'' => ∃ v pb2 cap2, e = .returned (.tuple #[.agg (gl (playW t' p) pb2 cap2).toArray, v, .bool true]) ∧ Fr [] w' w'' ∧ PRow w'' pb2 cap2 (playW t' p).us ∧ (pb2 = pb' ∨ w'.heap.size ≤ pb2) ∧ Refs w'' w'.heap.size v (playT t' (p.1.map writeC) (p.2.map writeC)).2.1 (playT t' (p.1.map writeC) (p.2.map writeC)).2.2) := fun w' hf => by
        have := turnB_len t'.turn p (by omega) hp2
        rw [HGN.out]
        exact playTurn_ok pb' cap' t' (p.1.map writeC) (p.2.map writeC) _ w' (hsd.fr0 (hfr.then0 hf)) hgg.ok (PRow.fr HROW.out hf (by simp)) ⟨hgg.t0, by omega⟩ (reads_turn t'.turn p.1 p.2 ⟨hgg.t0, by omega⟩ (by omega) (by omega)) (by omega) (by simp; omega) (by simp; omega)
      have HCT2 : Hid (cutT (playW t' p) l2 (k' - (turnFr t' p).length) = cutT t l k) := by
        show _ = _
        rw [← HCT.out, cutT, if_neg hk]
      have HLEN : Hid (((turnsB (playW t' p) l2).take (k' - (turnFr t' p).length)).length < tx'.size) := by
        show _ < _
        have e1 : tx'.size = ((turnsB t' (p :: l2)).take k').length := by rw [HTX'.out]; rfl
        have e2 : (turnsB t' (p :: l2)).length = (turnFr t' p).length + (turnsB (playW t' p) l2).length := by
          show (turnFr t' p ++ turnsB (playW t' p) l2).length = _
          rw [List.length_append]
        rw [e1, List.length_take, List.length_take, e2]
        omega
      obtain ⟨TB, hTB⟩ : ∃ x, x = turnB t'.turn p.1 p.2 := ⟨_, rfl⟩
      obtain ⟨RB, hRB⟩ : ∃ x, x = (turnsB (playW t' p) l2).take (k' - (turnFr t' p).length) := ⟨_, rfl⟩
      have hcut' : Calls Tryz.prog 89 #[.string tx', .int .u8 1] wr fun e w' => e = .returned (.tuple #[.string ⟨TB.toArray⟩, .string ⟨RB.toArray⟩, .bool true]) ∧ Fr [] wr w' := by rw [hTB, hRB]; exact hcut
      rw [← hTB] at HPT
      rw [← hRB] at HLEN
      have HRB := (show Hid _ from hRB)
      have hsh2 : Short l2 := fun q hq => hsh q (by simp [hq])
      have hpl1 := lt_of_heap HNB.out
      have hpl2' := lt_of_heap HZB.out
      clear hcut hrw hend hTB hRB hk hfl hsh hsd
      go_wp2_with fail
      refine Calls.mono hcut' ?_
      rintro e w2 ⟨rfl, hf2⟩
      dsimp only
      have HN2 := (show Hid _ from hf2.heap0 HNB.out)
      have hsz2 := hf2.size
      clear hcut'
      go_wp2_with (refine wpList_load_row rfl 90 _ rfl w.heap.size rfl 90 gn.toArray (0, 0) _ HN2.out Tryz.underlying90 rfl HIG.out ?_)
      refine Calls.mono (HPT.out _ hf2) ?_
      rintro e w3 ⟨v3, pb3, cap3, rfl, hf3, hrow3, hpb3, hr3⟩
      dsimp only
      obtain ⟨rb3, rc3, x0, x1, hv3, _⟩ := hr3
      subst hv3
      obtain ⟨g3, hg3⟩ : ∃ x, x = gl (playW t' p) pb3 cap3 := ⟨_, rfl⟩
      have hl3 : g3.length = 149 := by rw [hg3]; exact gameL_len _ _
      have HI3 : Hid ((Tryz.prog.info? 90).map (·.size) = some g3.toArray.size) := by
        show _ = _
        rw [infoGame, List.size_toArray, hl3]
      have HZ3 : Hid (Tryz.zeroCells90.size = g3.toArray.size) := by
        show _ = _
        exact zcGame.trans (by simp [hl3])
      have HO3 : Hid (g3.toArray.all (·.oneCell') = true) := by
        show _ = _
        rw [hg3]; exact gameL_one _ _ _ _
      have HG3 := (show Hid _ from hg3)
      rw [← hg3]
      obtain ⟨W4, hW4⟩ : ∃ W, W = (w3.alloc (.cells Tryz.zeroCells90 90)).setRow w3.heap.size g3.toArray := ⟨_, rfl⟩
      have hf4 : Fr [] w3 W4 := by rw [hW4]; exact ((Fr.refl _ _).alloc _).setRow _ _ (Or.inr (Nat.le_refl _))
      have HH4 : Hid (W4.heap[w3.heap.size]? = some (.cells g3.toArray 90)) := by show _ = _; rw [hW4]; exact setRow_heap _ _ _ _ _ _ (hp_new _ _)
      have hF4 : Fr [] wr W4 := (hf2.then0 hf3).then0 hf4
      have HN4 : Hid (W4.heap[w.heap.size]? = some (.cells gn.toArray 90)) := hF4.heap0 HNB.out
      have HZZ : Hid (gn.toArray.size = g3.toArray.size) := by show _ = _; simp [hlg, hl3]
      obtain ⟨W5, hW5⟩ : ∃ W, W = W4.setRow w.heap.size g3.toArray := ⟨_, rfl⟩
      have hf5 : Fr [w.heap.size] W4 W5 := by rw [hW5]; exact (Fr.refl _ _).setRow _ _ (Or.inl (by simp))
      have hN5 : W5.heap[w.heap.size]? = some (.cells g3.toArray 90) := by rw [hW5]; exact setRow_heap _ _ _ _ _ _ HN4.out
      have hsz3 := hf3.size
      have hfin : LI w w.heap.size pb t l k (.string ⟨RB.toArray⟩) W5 := by
        have hp3 : pb3 ≠ w.heap.size ∧ pb3 ≠ w.heap.size + 1 := by
          rcases hpb3 with e | e
          · rw [e]; exact ⟨hpn, hpn1⟩
          · omega
        refine ⟨⟨playW t' p, l2, k' - (turnFr t' p).length, pb3, cap3, by rw [HRB.out], HCT2.out, g2, by omega, hsh2, by rw [hN5, HG3.out], (hrow3.fr hf4 (by simp)).fr hf5 (by simpa using hp3.1), ?_, hp3.1, hp3.2⟩, (hfr.then0 hF4).trans hf5 (by simp)⟩
        rcases hpb3 with e | e
        · rw [e]; exact hpb
        · exact Or.inr (by have := hfr.size; omega)
      have hz5 : W5.heap[w.heap.size + 1]? = some (.cells Tryz.zeroCells90 90) := hf5.heap (hF4.heap0 HZB.out) (by simp)
      have HF5 := (show Hid _ from hfin)
      have HW4 := (show Hid _ from hW4)
      have HW5 := (show Hid _ from hW5)
      have HZ5 := (show Hid _ from hz5)
      clear hg3 hl3 hW4 hW5 hf4 hf5 hF4 hfin hz5 hN5 hrow3 HPT HCT2 HN2
      go_wp2_with (first | (refine wpList_store_row rfl 90 _ _ rfl w3.heap.size g3.toArray rfl rfl 90 Tryz.zeroCells90 (hp_new w3 _) HI3.out HZ3.out HO3.out ?_; rw [← HW4.out]) | (refine wpList_load_row rfl 90 _ rfl w3.heap.size rfl 90 g3.toArray (0, 0) _ HH4.out Tryz.underlying90 rfl HI3.out ?_) | (refine wpList_store_row rfl 90 _ _ rfl w.heap.size g3.toArray rfl rfl 90 gn.toArray HN4.out HI3.out HZZ.out HO3.out ?_; rw [← HW5.out]))
      exact ⟨⟨HF5.out, HZ5.out⟩, HLEN.out⟩
end Go.Proofs.YtapabahhfanmmaaGreatDoor
