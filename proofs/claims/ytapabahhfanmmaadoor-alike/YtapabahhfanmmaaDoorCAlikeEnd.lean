import Derived.Test.YtapabahhfanmmaaDoorCLiftKept
import Derived.Test.YtapabahhfanmmaaDoorTie
import Derived.Test.YtapabahhfanmmaaDoorCards
import Derived.SevenTiedAt
import Derived.Test.YtapabahhfanmmaaDoorCAlike
/- Alike: from its walk to its card. -/
namespace Go.Proofs.YtapabahhfanmmaaDoor
open Go.ChangeShapes Go.WideShapes Go.ChangeAt Go.WideMaps Go.WideElems Go.RowKit

def AlikeWalk : Prop := ∀ (W : World) (v0 v1 : Value) (cs : List Int) (n : Nat) (f : Nat → Int) (y : Int), IntsV W v0 cs → TurnsV W v1 n f → I64 y → Sd W → Calls Tryd.prog 6 #[v0, v1, .int .i64 y] W fun e W' => e = .returned (.bool true) ∧ Fr [] W W'

set_option maxRecDepth 100000 in
theorem alike_lifted (hwalk : AlikeWalk) (os : Os) (started : os.Started) (H : Type) (enc : TypeId × Value → H) :
    ReturnsInHanded {} Tryd.checked os 6 .any (fun w args => (Rows.alikeSpec.pre enc Tryd.prog Tryd.f6 [] false w args ∧ laidMetH Tryd.prog laidS w) ∧ sizedMet enc Tryd.prog Tryd.f6 (OpenSpec.ofChange Rows.alikeSpec) false w args)
      (Rows.alikeSpec.post enc Tryd.prog Tryd.f6 false true false false) := by
  refine returnsInHanded_of_change_and (C := Tryd.checked) (X := fun w _ => laidMetH Tryd.prog laidS w) (fun _ _ _ hh h => h.of_heap hh) ownK started (by kernel_rfl) Tryd.func6
    (ChangeSpec.witness_shaped (enc := enc) (C := Tryd.checked) (os := os) (X := fun w _ => laidMetH Tryd.prog laidS w) false (World.doorLaid Tryd.prog 18 os) #[.slice none 0 0, .slice none 0 0, .int .i64 0] 8 rfl (World.shaped_of_RefB (by kernel_rfl) (by kernel_rfl)) (by kernel_rfl) (by kernel_rfl) (by kernel_rfl) (door_met os _)) ?_
  intro W base args ds gs before hval0 hW _ _ hL _
  have hval : ∀ (j : Nat) t v, Tryd.f6.params[j]? = some t → args[j]? = some v → Value.okWide Tryd.prog W .any base t v := hval0
  have hW' := hW
  obtain ⟨p, q, hA0, hV, rfl, hfz, hnd⟩ := hW
  have hA : DataW.TrodAll enc Tryd.prog W 0 (fun _ => true) true Tryd.f6.params.toList args.toList ds p := hA0
  rw [Tryd.params6] at hA hval
  obtain ⟨v0, v1, v2, d0, d1, d2, p0, p1, p2, rfl, rfl, rfl, h0, h1, h2⟩ := trodAll_three hA
  obtain ⟨rfl, rfl⟩ := trodVars_none hV
  obtain ⟨a0, len0, cap0, rfl⟩ := okWide_slice Tryd.underlying22 (hval 0 22 v0 rfl rfl)
  obtain ⟨a1, len1, cap1, rfl⟩ := okWide_slice Tryd.underlying23 (hval 1 23 v1 rfl rfl)
  obtain ⟨y, rfl, rfl, rfl, wy⟩ := open_int Tryd.underlying3 (hval 2 3 v2 rfl rfl) h2
  clear hA0 hval0
  simp only [List.append_nil] at hW'
  obtain ⟨cs, hcs⟩ := open_cells h0
  obtain ⟨n, f, hts⟩ := open_turns h1
  have hlt0 : ∀ z ∈ p0, z.block < W.heap.size := fun z hz => hW'.lt z (by simp [hz])
  have hlt1 : ∀ z ∈ p1, z.block < W.heap.size := fun z hz => hW'.lt z (by simp [hz])
  refine (hwalk W _ _ cs n f y hcs hts (bounds_i64 wy) (of_laid hL)).mono fun e W' ⟨he, hF⟩ => ?_
  subst he
  refine ⟨_, rfl, post_fr (pa := p0 ++ p1) (pv := []) hW' (fun _ _ _ => trodAll_mk1 (shut_bool Tryd.underlying4 _)) (fun sp hsp => ?_) (fun _ _ => rfl) (by simp) hF (ok_one (by kernel_rfl) rfl (okWide_bool_mk Tryd.underlying4 _))⟩
  have h3 := trodAll_mk3 (Trod_stays (sp' := sp) laidOutT (by kernel_rfl) (of_decide_eq_true (by kernel_rfl)) h0 (fun z hz => hF.below.same (hlt0 z hz)) (fun z hz => hsp z (by simp [hz]))) (Trod_stays (sp' := sp) laidOutT (by kernel_rfl) (of_decide_eq_true (by kernel_rfl)) h1 (fun z hz => hF.below.same (hlt1 z hz)) (fun z hz => hsp z (by simp [hz]))) (shut_int (w := W') (spare := sp) (held := true) (base := 0) (enc := enc) Tryd.underlying3 wy)
  simp only [List.append_nil] at h3
  exact h3

theorem alike_row (hwalk : AlikeWalk) : Rows.AlikeSaid :=
  OpenClaim.holds_of_wide 6 Tryd.f6 rfl rfl rfl rfl rfl rfl rfl ⟨rfl, rfl, rfl, rfl, rfl⟩ rfl rfl rfl rfl rfl (by kernel_rfl) Tryd.func6 (by kernel_rfl)
    (of_decide_eq_true (by kernel_rfl)) (by unfold Func.isWrapper; first | (rw [if_pos (by decide +kernel)]; kernel_rfl) | (rw [if_neg (by decide +kernel)]; exact ⟨rfl, rfl⟩))
    (fun os started H enc _ => alike_lifted hwalk os started H enc)

theorem alike_card (hwalk : AlikeWalk) : Rows.AlikeCardSaid :=
  Claim7.holds_tied_plain_at .later [] [.data] true Rows.alikeCard.stood.harness false
    (alike_row hwalk) (fun _ h => by cases h) (by kernel_rfl) (fun _ h => by cases h) alike_row_tie rfl ⟨rfl, rfl⟩ (by kernel_rfl) rfl
    (fun f fn hf hfn => by
      obtain rfl : f = 6 := Option.some.inj ((show Tryd.prog.funcNamed "skirmish/skirmishkeep.Alike" = some 6 by kernel_rfl).symm.trans hf) |>.symm
      obtain rfl : fn = Tryd.f6 := (Option.some.inj (Tryd.func6.symm.trans hfn)).symm
      exact ⟨by kernel_rfl, fun j t ht => by
        rw [Tryd.params6] at ht
        have hm : t ∈ [22, 23, 3] := by simpa using Array.mem_of_getElem? ht
        have hall : ([22, 23, 3].all fun u => !Tryd.prog.wantsStandIn u) = true := by kernel_rfl
        exact (show Tryd.prog.wantsStandIn t = false by simpa using List.all_eq_true.1 hall t hm)⟩)
    (by kernel_rfl)
end Go.Proofs.YtapabahhfanmmaaDoor
/- Alike: the card. -/
namespace Go.Proofs.YtapabahhfanmmaaDoor
theorem alike_holds : Rows.AlikeCardSaid := alike_card (fun W v0 v1 cs n f y h0 h1 hy hs => alike_walk W v0 v1 cs n f y h0 h1 hy hs)
#print axioms alike_holds
end Go.Proofs.YtapabahhfanmmaaDoor
