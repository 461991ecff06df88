import Derived.Test.YtapabahhfanmmaaGreatDoorCTorn
import Derived.Test.YtapabahhfanmmaaGreatDoorCCutO
import Derived.Test.YtapabahhfanmmaaGreatDoorCLift
import Derived.Test.YtapabahhfanmmaaGreatDoorTie
import Derived.Test.YtapabahhfanmmaaGreatDoorCards
import Derived.SevenTiedAt
import Derived.LaidSub
/- Torn, whole. -/
namespace Go.Proofs.YtapabahhfanmmaaGreatDoor
open Go.RowKit

theorem cutOff_ok : CutOffOk := fun v gv steps gone cut w h1 h2 h3 h4 ht =>
  cutOff_any v gv steps gone cut w h1 h2 h3 h4 (fun k s _ hs => ht.ok k s hs) (fun k hk => ⟨(ht.bd k (Nat.le_trans hk h2)).len, fun f hf => ((ht.bd k (Nat.le_trans hk h2)).each f hf).1⟩) (fun f hf => ((ht.bd cut h2).each f hf).2)
end Go.Proofs.YtapabahhfanmmaaGreatDoor
/- Torn: from its walk to its card. -/
namespace Go.Proofs.YtapabahhfanmmaaGreatDoor
open Go.ChangeShapes Go.WideShapes Go.ChangeAt Go.WideMaps Go.WideElems Go.RowKit

section
variable {H : Type} {enc : TypeId × Value → H} {P : Program} {w : World} {base : Nat} {spare : Nat → Bool} {held : Bool}
theorem trodAll_five {t t' t'' t3 t4 : TypeId} {args : Array Value} {ds : List (DataW H)} {ps : List MemPlace} (h : DataW.TrodAll enc P w base spare held [t, t', t'', t3, t4] args.toList ds ps) :
    ∃ v v' v'' v3 v4 d d' d'' d3 d4 p p' p'' p3 p4, args = #[v, v', v'', v3, v4] ∧ ds = [d, d', d'', d3, d4] ∧ ps = p ++ p' ++ p'' ++ p3 ++ p4 ∧ DataW.Trod enc P w base spare held t v d p ∧ DataW.Trod enc P w base spare held t' v' d' p' ∧ DataW.Trod enc P w base spare held t'' v'' d'' p'' ∧ DataW.Trod enc P w base spare held t3 v3 d3 p3 ∧ DataW.Trod enc P w base spare held t4 v4 d4 p4 := by
  obtain ⟨v, vs, d, ds', p, q, hargs, rfl, rfl, hd, hrest⟩ := trodAll_cons h
  obtain ⟨v', vs', d', ds'', p', q', rfl, rfl, rfl, hd', hrest'⟩ := trodAll_cons hrest
  obtain ⟨v'', vs'', d'', ds''', p'', q'', rfl, rfl, rfl, hd'', hrest''⟩ := trodAll_cons hrest'
  obtain ⟨v3, vs3, d3, ds3, p3, q3, rfl, rfl, rfl, hd3, hrest3⟩ := trodAll_cons hrest''
  obtain ⟨v4, vs4, d4, ds4, p4, q4, rfl, rfl, rfl, hd4, hrest4⟩ := trodAll_cons hrest3
  obtain ⟨rfl, rfl, rfl⟩ := trodAll_nil hrest4
  exact ⟨v, v', v'', v3, v4, d, d', d'', d3, d4, p, p', p'', p3, p4, by cases args; simp_all, rfl, by simp, hd, hd', hd'', hd3, hd4⟩
theorem trodAll_mk5 {t t' t'' t3 t4 : TypeId} {v v' v'' v3 v4 : Value} {d d' d'' d3 d4 : DataW H} {p p' p'' p3 p4 : List MemPlace} (h : DataW.Trod enc P w base spare held t v d p) (h' : DataW.Trod enc P w base spare held t' v' d' p')
    (h'' : DataW.Trod enc P w base spare held t'' v'' d'' p'') (h3 : DataW.Trod enc P w base spare held t3 v3 d3 p3) (h4 : DataW.Trod enc P w base spare held t4 v4 d4 p4) : DataW.TrodAll enc P w base spare held [t, t', t'', t3, t4] [v, v', v'', v3, v4] [d, d', d'', d3, d4] (p ++ (p' ++ (p'' ++ (p3 ++ p4)))) := ⟨p, p' ++ (p'' ++ (p3 ++ p4)), h, trodAll_mk4 h' h'' h3 h4, rfl⟩
end

abbrev laidT : List (String × DataW Unit) := Rows.tornRow.laid
theorem of_laidT {W : World} (h : laidMetH Tryz.prog laidT W) : Sd W := by
  have h1 := h.filter (fun x => x.1 == "skirmish/land.sides")
  have e : laidT.filter (fun x => x.1 == "skirmish/land.sides") = laidS := by kernel_rfl
  rw [e] at h1
  exact of_laid h1
theorem door_metT (os : Os) (args : Array Value) : laidMetH Tryz.prog laidT ((World.doorLaid Tryz.prog 33 os).forCall (fun _ _ => 0) ⟨#[], args, []⟩).memory :=
  laidMetH_of_parts3 (fuel := 8) (laidMet_of_run' 8 (by kernel_rfl) (by kernel_rfl)) (by kernel_rfl) (by kernel_rfl)

set_option maxRecDepth 100000 in
theorem torn_lifted (os : Os) (started : os.Started) (H : Type) (enc : TypeId × Value → H) :
    ReturnsInHanded {} Tryz.checked os 7 .any (fun w args => (Rows.tornSpec.pre enc Tryz.prog Tryz.f7 [] false w args ∧ laidMetH Tryz.prog laidT w) ∧ sizedMet enc Tryz.prog Tryz.f7 (OpenSpec.ofChange Rows.tornSpec) false w args)
      (Rows.tornSpec.post enc Tryz.prog Tryz.f7 false true false false) := by
  refine returnsInHanded_of_change_and (C := Tryz.checked) (X := fun w _ => laidMetH Tryz.prog laidT w) (fun _ _ _ hh h => h.of_heap hh) ownK started (by kernel_rfl) Tryz.func7
    (ChangeSpec.witness_shaped (enc := enc) (C := Tryz.checked) (os := os) (X := fun w _ => laidMetH Tryz.prog laidT w) false (World.doorLaid Tryz.prog 33 os) #[.slice none 0 0, .slice none 0 0, .slice none 0 0, .int .i64 0, .slice none 0 0] 8 rfl (World.shaped_of_RefB (by kernel_rfl) (by kernel_rfl)) (by kernel_rfl) (by kernel_rfl) (by kernel_rfl) (door_metT os _)) ?_
  intro W base args ds gs before hval0 hW _ _ hL _
  have hval : ∀ (j : Nat) t v, Tryz.f7.params[j]? = some t → args[j]? = some v → Value.okWide Tryz.prog W .any base t v := hval0
  have hW' := hW
  obtain ⟨p, q, hA0, hV, rfl, hfz, hnd⟩ := hW
  have hA : DataW.TrodAll enc Tryz.prog W 0 (fun _ => true) true Tryz.f7.params.toList args.toList ds p := hA0
  rw [Tryz.params7] at hA hval
  obtain ⟨v0, v1, v2, v3, v4, d0, d1, d2, d3, d4, p0, p1, p2, p3, p4, rfl, rfl, rfl, h0, h1, h2, h3, h4⟩ := trodAll_five hA
  obtain ⟨rfl, rfl⟩ := trodVars_none hV
  obtain ⟨a0, len0, cap0, rfl⟩ := okWide_slice Tryz.underlying25 (hval 0 25 v0 rfl rfl)
  obtain ⟨a1, len1, cap1, rfl⟩ := okWide_slice Tryz.underlying26 (hval 1 26 v1 rfl rfl)
  obtain ⟨a2, len2, cap2, rfl⟩ := okWide_slice Tryz.underlying25 (hval 2 25 v2 rfl rfl)
  obtain ⟨y, rfl, rfl, rfl, wy⟩ := open_int Tryz.underlying3 (hval 3 3 v3 rfl rfl) h3
  obtain ⟨a4, len4, cap4, rfl⟩ := okWide_slice Tryz.underlying25 (hval 4 25 v4 rfl rfl)
  clear hA0 hval0
  simp only [List.append_nil] at hW'
  obtain ⟨cs, hcs⟩ := open_cells h0
  obtain ⟨n, f, hts⟩ := open_turns h1
  obtain ⟨sy, hsy⟩ := open_cells h2
  obtain ⟨gone, hgone⟩ := open_cells h4
  have hlt0 : ∀ z ∈ p0, z.block < W.heap.size := fun z hz => hW'.lt z (by simp [hz])
  have hlt1 : ∀ z ∈ p1, z.block < W.heap.size := fun z hz => hW'.lt z (by simp [hz])
  have hlt2 : ∀ z ∈ p2, z.block < W.heap.size := fun z hz => hW'.lt z (by simp [hz])
  have hlt4 : ∀ z ∈ p4, z.block < W.heap.size := fun z hz => hW'.lt z (by simp [hz])
  have hsd := of_laidT hL
  refine (torn_walk cutOff_ok W _ _ _ _ cs n f sy y gone hcs hts hsy (bounds_i64 wy) hgone hsd hsd.pos).mono fun e W' ⟨he, hF⟩ => ?_
  subst he
  refine ⟨_, rfl, post_fr (pa := p0 ++ (p1 ++ (p2 ++ p4))) (pv := []) hW' (fun _ _ _ => trodAll_mk1 (shut_bool Tryz.underlying4 _)) (fun sp hsp => ?_) (fun _ _ => rfl) (by simp) hF (ok_one (by kernel_rfl) rfl (okWide_bool_mk Tryz.underlying4 _))⟩
  have h3 := trodAll_mk5 (Trod_stays (sp' := sp) laidOutT (by kernel_rfl) (of_decide_eq_true (by kernel_rfl)) h0 (fun z hz => hF.below.same (hlt0 z hz)) (fun z hz => hsp z (by simp [hz]))) (Trod_stays (sp' := sp) laidOutT (by kernel_rfl) (of_decide_eq_true (by kernel_rfl)) h1 (fun z hz => hF.below.same (hlt1 z hz)) (fun z hz => hsp z (by simp [hz]))) (Trod_stays (sp' := sp) laidOutT (by kernel_rfl) (of_decide_eq_true (by kernel_rfl)) h2 (fun z hz => hF.below.same (hlt2 z hz)) (fun z hz => hsp z (by simp [hz]))) (shut_int (w := W') (spare := sp) (held := true) (base := 0) (enc := enc) Tryz.underlying3 wy) (Trod_stays (sp' := sp) laidOutT (by kernel_rfl) (of_decide_eq_true (by kernel_rfl)) h4 (fun z hz => hF.below.same (hlt4 z hz)) (fun z hz => hsp z (by simp [hz])))
  simp only [List.nil_append] at h3
  exact h3

theorem torn_row : Rows.TornSaid :=
  OpenClaim.holds_of_wide 7 Tryz.f7 rfl rfl rfl rfl rfl rfl rfl ⟨rfl, rfl, rfl, rfl, rfl⟩ rfl rfl rfl rfl rfl (by kernel_rfl) Tryz.func7 (by kernel_rfl)
    (of_decide_eq_true (by kernel_rfl)) (by unfold Func.isWrapper; first | (rw [if_pos (by decide +kernel)]; kernel_rfl) | (rw [if_neg (by decide +kernel)]; exact ⟨rfl, rfl⟩))
    (fun os started H enc _ => torn_lifted os started H enc)

theorem torn_card : Rows.TornCardSaid :=
  Claim7.holds_tied_plain_at .later [] [.data, .data, .data, .data] true Rows.tornCard.stood.harness false
    torn_row (fun _ h => by cases h) (by kernel_rfl) (fun _ h => by cases h) torn_row_tie rfl ⟨rfl, rfl⟩ (by kernel_rfl) rfl
    (fun f fn hf hfn => by
      obtain rfl : f = 7 := Option.some.inj ((show Tryz.prog.funcNamed "skirmish/skirmishkeep.Torn" = some 7 by kernel_rfl).symm.trans hf) |>.symm
      obtain rfl : fn = Tryz.f7 := (Option.some.inj (Tryz.func7.symm.trans hfn)).symm
      exact ⟨by kernel_rfl, fun j t ht => by
        rw [Tryz.params7] at ht
        have hm : t ∈ [25, 26, 25, 3, 25] := by simpa using Array.mem_of_getElem? ht
        have hall : ([25, 26, 25, 3, 25].all fun u => !Tryz.prog.wantsStandIn u) = true := by kernel_rfl
        exact (show Tryz.prog.wantsStandIn t = false by simpa using List.all_eq_true.1 hall t hm)⟩)
    (by kernel_rfl)
end Go.Proofs.YtapabahhfanmmaaGreatDoor
namespace Go.Proofs.YtapabahhfanmmaaGreatDoor
theorem torn_claim : Rows.TornCardSaid := torn_card
end Go.Proofs.YtapabahhfanmmaaGreatDoor
