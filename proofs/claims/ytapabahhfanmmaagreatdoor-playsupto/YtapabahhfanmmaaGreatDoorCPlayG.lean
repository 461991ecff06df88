import Derived.Test.YtapabahhfanmmaaGreatDoorCLaw2
import Derived.Test.YtapabahhfanmmaaGreatDoorCBookW
import Derived.Test.YtapabahhfanmmaaGreatDoorCFolkG
import Derived.Test.YtapabahhfanmmaaGreatDoorCRefN
namespace Go.Proofs.YtapabahhfanmmaaGreatDoor
open Go.RowKit
theorem cmdAll_len (p : Int) : ∀ (l : List Cm) (k : Nat) (t : T), (cmdAll p k l t).1.length ≤ l.length
 | [], k, t => by simp [cmdAll]
 | c :: l, k, t => by
  rw [cmdAll_cons]
  have := cmdAll_len p l (k + 1) (takeT t p c).2
  dsimp only
  split
  ·simp only [List.length_cons]; omega
  ·simp only [List.length_cons]; omega
theorem play_len (t : T) (l1 l2 : List Cm) : (playT t l1 l2).2.1.length ≤ l1.length ∧ (playT t l1 l2).2.2.length ≤ l2.length := by
 unfold playT
 split
 ·simp
 ·split
  ·simp
  ·exact ⟨cmdAll_len _ _ _ _, cmdAll_len _ _ _ _⟩
theorem own_cmdV {w : World} {base : Nat} {v : Value} {l : List Cm} (h : w.ownsRow base 81 5 v l.length (l.flatMap Cm.cells)) : CmdV w v l := by
 by_cases h0 : l.length = 0
 ·obtain ⟨ao, c, rfl⟩ := own_len h
  have : l = [] := List.eq_nil_of_length_eq_zero h0
  subst this
  exact Or.inl ⟨ao, c, rfl, rfl⟩
 ·obtain ⟨g, cap, rfl⟩ := own_shape h (by omega)
  have hc := h.cells (g := g) rfl
  refine Or.inr ⟨g, cap, rfl, fun i hi j u hu => ?_, (h.lt g rfl).2⟩
  have hj : j < 5 := (List.getElem?_eq_some_iff.1 hu).1
  have := hc (i * 5 + j) u ((flat5 l i j hi hj).trans hu)
  rwa [Addr.add_lit, Nat.zero_add] at this
theorem row_type {w : World} {b pb cap : Nat} {us : List U} {cs : Array Value} {e : TypeId} {fz : Nat × Nat} (h : PRow w pb cap us) (hb : w.heap[b]? = some (.cells cs e fz)) (he : e ≠ 85) : pb ≠ b := fun x => by
 subst x
 obtain ⟨cur, hh, _⟩ := h.h
 rw [hh] at hb
 cases hb
 exact he rfl
set_option maxRecDepth 100000 in
set_option maxHeartbeats 2000000 in
theorem playG_any (g : Value) (L K : List Nat) (t : T) (bb N : Nat) (l1 l2 : List Cm) (v1 v2 : Value) (w0 w : World) (hG : Gm w g L t) (hB : Bk w bb K N) (hA : ∀ x ∈ L, x ≠ bb ∧ x ∉ K) (hN : N ≤ 2000000) (hsd : Sd w) (h1 : CmdR w0 v1 l1) (h2 : CmdR w0 v2 l2) (hf0 : Fr [] w0 w)
  (hL0 : ∀ x ∈ L, w0.heap.size ≤ x) (hl1 : l1.length ≤ 2000000) (hl2 : l2.length ≤ 2000000) (ht : t.turn < 1000000000) :
  Calls Tryz.prog 53 #[g, .pointer (some ⟨bb, 0, none⟩), v1, v2] w fun e w' => e = .returned (.bool true) ∧ SR w bb L K N t.turn g w' := by
 have hlt := hG.lt
 obtain ⟨⟨sb, gb, pb, cap, rb, qb, cap2, rfl, rfl, hx, hy, hgs, hrg⟩, hnd, hok, hos, htn⟩ := hG
 simp only [List.nodup_cons, List.mem_cons, List.not_mem_nil, or_false, not_or, List.nodup_nil, and_true, not_false_eq_true] at hnd
 have hsl := hlt sb (by simp)
 have hgl := hlt gb (by simp)
 have hpl := hlt pb (by simp)
 have hrl := hlt rb (by simp)
 have hql := hlt qb (by simp)
 have hg0 := hL0 gb (by simp)
 have hr0 := hL0 rb (by simp)
 have hq0 := hL0 qb (by simp)
 have hAs := hA sb (by simp)
 have hAg := hA gb (by simp)
 have hAp := hA pb (by simp)
 have hAr := hA rb (by simp)
 have hAq := hA qb (by simp)
 have hbl := hB.lt
 have hkl := hB.kl
 have hpl2 := play_len t l1 l2
 have hpo := play_ok hok l1 l2 ht
 have hpos := play_os hok hos l1 l2
 have C1 := copied_any l1 v1 w (h1.fr0 hf0) hl1
 have HGS := (show Hid _ from hgs)
 have HRG := (show Hid _ from hrg)
 have HB := (show Hid _ from hB)
 have HOK := (show Hid _ from hok)
 have HOS := (show Hid _ from hos)
 have H1 := (show Hid _ from h1)
 have H2 := (show Hid _ from h2)
 have HPO := (show Hid _ from hpo)
 have HPS := (show Hid _ from hpos)
 have HSD := (show Hid _ from hsd)
 have HKL := (show Hid _ from hkl)
 have HF0 := (show Hid _ from hf0)
 clear hgs hrg hB hA hlt hL0 hok hos h1 h2 hpo hpos hsd hkl
 go_enter Tryz.func53, Tryz.ntmps53
 go_wp2_with fail
 refine Calls.mono C1 ?_
 rintro e w1 ⟨one, rfl, ho1, hf1⟩
 dsimp only
 have hs1 := hf1.size
 have C2 := copied_any l2 v2 w1 (CmdR.fr0 H2.out (HF0.out.then0 hf1)) hl2
 clear C1
 go_wp2_with fail
 refine Calls.mono C2 ?_
 rintro e w2 ⟨two, rfl, ho2, hf2⟩
 dsimp only
 have hs2 := hf2.size
 have hw2 : Fr [] w w2 := hf1.then0 hf2
 have hx2 : w2.cell? ⟨sb, 0, none⟩ = some (.pointer (some ⟨gb, 0, none⟩)) := (hw2.cell sb 0 hsl (by simp)).trans hx
 have ho12 := owns_fr ho1 hf2 (by simp)
 have C3 := gamePlay_all gb pb cap t l1 l2 one two w2 (HGS.out.fr hw2 (by simp) (by simp)) (Sd.fr0 HSD.out hw2) HOK.out ⟨htn, ht⟩ (own_cmdV ho12) (own_cmdV ho2) hl1 hl2
 have HO1 : Hid (w1.ownsRow w.heap.size 81 5 one l1.length (l1.flatMap Cm.cells)) := ho1
 have HO2 : Hid (w2.ownsRow w1.heap.size 81 5 two l2.length (l2.flatMap Cm.cells)) := ho2
 clear C2 ho1 ho2 ho12
 go_wp2_with fail
 refine Calls.mono C3 ?_
 rintro e w3 ⟨l, pb', cap', rfl, hf3, hgs3, hpp, hra⟩
 dsimp only
 have hs3 := hf3.size
 obtain ⟨t', ht'⟩ : ∃ x, (playT t l1 l2).1 = x := ⟨_, rfl⟩
 obtain ⟨ra, hra1⟩ : ∃ x, (playT t l1 l2).2.1 = x := ⟨_, rfl⟩
 obtain ⟨rc, hrc1⟩ : ∃ x, (playT t l1 l2).2.2 = x := ⟨_, rfl⟩
 have hw3 : Fr [gb] w w3 := (hw2.of0 (S := [gb])).trans hf3 (by simp)
 have h03 : Fr [] w0 w3 := HF0.out.trans hw3 (by simp; omega)
 have hrg3 : RG w3 rb qb cap2 t := HRG.out.fr hw3 (by simp; omega) (by simp; omega)
 have hy3 : w3.cell? ⟨sb, 1, none⟩ = some (.pointer (some ⟨rb, 0, none⟩)) := (hw3.cell sb 1 hsl (by simp; omega)).trans hy
 have C4 := refPlay_any build_ok rb qb cap2 t l1 l2 v1 v2 w3 hrg3 HOK.out HOS.out ⟨htn, ht⟩ (CmdR.at H1.out h03 hq0) (CmdR.at H2.out h03 hq0) hl1 hl2
 rw [ht', hra1, hrc1] at C4
 rw [hra1, hrc1] at hra
 rw [ht'] at hgs3
 rw [hra1, hrc1] at hpl2
 have HRA := (show Hid _ from hra)
 have HG3 := (show Hid _ from hgs3)
 clear C3 hra hgs3 hrg3 hra1 hrc1
 go_wp2_with fail
 refine Calls.mono C4 ?_
 rintro e w4 ⟨l', rfl, ⟨qb', cap2', hrg4, hf4, hqq⟩, hrf⟩
 dsimp only
 have hs4 := hf4.size
 have hra4 : RefsA w4 w2.heap.size l ra rc := RefsA.fr HRA.out hf4 (by simp; omega)
 have C5 := samePlaces_any _ _ ra rc l l' w4 hra4.refs hrf (by omega) (by omega)
 have HRG4 := (show Hid _ from hrg4)
 clear C4 hrg4 hrf
 go_wp2_with fail
 refine Calls.mono C5 ?_
 rintro e w5 ⟨rfl, hf5⟩
 dsimp only
 have hs5 := hf5.size
 have F25 : Fr [gb, rb, qb] w2 w5 := ((hf3.mono (fun x hx => Or.inl (by simp_all))).trans hf4 (fun x hx => Or.inl (by simp at hx; simp; omega))).then0 hf5
 have h05 : Fr [] w0 w5 := (HF0.out.then0 hw2).trans F25 (by simp; omega)
 have hb1 : ∀ b, one.ownBlock = some b → w.heap.size ≤ b ∧ b < w1.heap.size := fun b hb => World.ownsRow.lt HO1.out b hb
 have hb2 : ∀ b, two.ownBlock = some b → w1.heap.size ≤ b ∧ b < w2.heap.size := fun b hb => World.ownsRow.lt HO2.out b hb
 have ho15 : w5.ownsRow w.heap.size 81 5 one l1.length (l1.flatMap Cm.cells) := owns_fr (owns_fr HO1.out hf2 (by simp)) F25 (fun b hb => by have := hb1 b hb; simp; omega)
 have ho25 : w5.ownsRow w1.heap.size 81 5 two l2.length (l2.flatMap Cm.cells) := owns_fr HO2.out F25 (fun b hb => by have := hb2 b hb; simp; omega)
 have hs0 := HF0.out.size
 have C6 := kept_any w.heap.size l1 v1 one w0 w5 H1.out h05 hs0 ho15 hl1
 have HRA4 := (show Hid _ from hra4)
 clear C5 hra4 ho15
 go_wp2_with fail
 refine Calls.mono C6 ?_
 rintro e w6 ⟨rfl, hf6⟩
 dsimp only
 have hs6 := hf6.size
 have h06 : Fr [] w0 w6 := h05.trans hf6 (fun b hb => Or.inr (by have := hb1 b (by simpa using hb); omega))
 have ho26 : w6.ownsRow w1.heap.size 81 5 two l2.length (l2.flatMap Cm.cells) := owns_fr ho25 hf6 (fun b hb e => by have := hb2 b hb; have := hb1 b (by simpa using e); omega)
 have C7 := kept_any w1.heap.size l2 v2 two w0 w6 H2.out h06 (by omega) ho26 hl2
 clear C6 ho25 ho26
 go_wp2_with fail
 refine Calls.mono C7 ?_
 rintro e w7 ⟨rfl, hf7⟩
 dsimp only
 have hs7 := hf7.size
 obtain ⟨rb', x0, x1, hlv, hlh, hlb, hlo0, hlo1, hlap⟩ := (show RefsA w4 w2.heap.size l ra rc from HRA4.out)
 obtain ⟨D, hD⟩ : ∃ D, D = one.ownBlock.toList ++ two.ownBlock.toList := ⟨_, rfl⟩
 have hDb : ∀ b ∈ D, w.heap.size ≤ b ∧ b < w2.heap.size := fun b hb => by
  rw [hD] at hb
  rcases List.mem_append.1 hb with q | q
  ·have := hb1 b (by simpa using q); omega
  ·have := hb2 b (by simpa using q); omega
 have F47 : Fr D w4 w7 := (((hf5.of0 (S := D)).trans hf6 (fun b hb => Or.inl (by rw [hD]; exact List.mem_append_left _ hb))).trans hf7 (fun b hb => Or.inl (by rw [hD]; exact List.mem_append_right _ hb)))
 have hl7 : w7.heap[rb']? = some (.cells [x0, x1].toArray 25) := F47.heap hlh (fun e => by have := hDb _ e; omega)
 have ho70 := owns_fr hlo0 F47 (fun b hb e => by have := hDb b e; have := own_base hlo0 hb; omega)
 have ho71 := owns_fr hlo1 F47 (fun b hb e => by have := hDb b e; have := own_base hlo1 hb; omega)
 have hB7 : Bk w7 bb K N := by
  have fA : Fr [gb, rb, qb] w w4 := (hw3.mono (fun x hx => Or.inl (by simp_all))).trans hf4 (fun x hx => Or.inl (by simp at hx; simp; omega))
  refine (HB.out.fr fA (by simp; omega) (fun b hb e => ?_)).fr F47 (fun e => by have := hDb _ e; omega) (fun b hb e => by have := hDb _ e; have := HKL.out b hb; omega)
  simp at e
  rcases e with rfl | rfl | rfl
  ·exact hAg.2 hb
  ·exact hAr.2 hb
  ·exact hAq.2 hb
 have C8 := ownsPlaces_any bb N rb' w2.heap.size K [x0, x1] w7 hB7 hN (by simp) hl7 hlb (by omega) (fun x hx => by have := HKL.out x hx; omega) (fun j v hv => ?_) (fun i j v v' gg hij hv hv' hg => ?_)
 rotate_left
 ·have : j = 0 ∨ j = 1 := by have := (List.getElem?_eq_some_iff.1 hv).1; simp at this; omega
  rcases this with rfl | rfl
  ·cases hv; exact ⟨_, _, by omega, ho70⟩
  ·cases hv; exact ⟨_, _, by omega, ho71⟩
 ·have hi2 : i = 0 ∨ i = 1 := by have := (List.getElem?_eq_some_iff.1 hv).1; simp at this; omega
  have hj2 : j = 0 ∨ j = 1 := by have := (List.getElem?_eq_some_iff.1 hv').1; simp at this; omega
  rcases hi2 with rfl | rfl <;> rcases hj2 with rfl | rfl
  ·exact absurd rfl hij
  ·cases hv; cases hv'; exact hlap gg hg
  ·cases hv; cases hv'; exact fun e => hlap gg e hg
  ·exact absurd rfl hij
 subst hlv
 have HF47 := (show Hid _ from F47)
 have HLH := (show Hid _ from hlh)
 have HL0 : Hid (∀ b, x0.ownBlock = some b → w2.heap.size ≤ b ∧ b < w4.heap.size) := fun b hb => hlo0.lt b hb
 have HL1 : Hid (∀ b, x1.ownBlock = some b → w2.heap.size ≤ b ∧ b < w4.heap.size) := fun b hb => hlo1.lt b hb
 clear C7 hB7 hl7 F47 hlh
 go_wp2_with fail
 refine Calls.mono C8 ?_
 rintro e w8 ⟨rfl, hown⟩
 dsimp only
 have HOWN := (show Hid _ from hown)
 clear C8 hown
 go_wp2_with fail
 go_ret
 refine ⟨rfl, ?_⟩
 obtain ⟨⟨K', hK1, hK2⟩, hF8⟩ := HOWN.out
 have hpo := HPO.out
 have hps := HPS.out
 rw [ht'] at hpo hps
 have hrb4 : rb' < w4.heap.size := lt_of_heap HLH.out
 have hpl3 : pb' < w3.heap.size := HG3.out.row.lt
 have hql4 : qb' < w4.heap.size := HRG4.out.row.lt
 have hDD : ∀ b ∈ rb' :: blks [x0, x1], w2.heap.size ≤ b ∧ b < w4.heap.size := fun b hb => by
  rcases List.mem_cons.1 hb with q | q
  ·omega
  ·obtain ⟨u, hu, hub⟩ := List.mem_filterMap.1 q
   simp at hu
   rcases hu with rfl | rfl
   ·exact HL0.out b hub
   ·exact HL1.out b hub
 have hDp : ∀ b ∈ rb' :: blks [x0, x1], b ≠ pb' ∧ b < w3.heap.size := fun b hb => by
  obtain ⟨rb2, y0, y1, e1, e2, e3, e4, e5, _⟩ := (show RefsA w3 w2.heap.size _ ra rc from HRA.out)
  cases e1
  have hsame : w4.heap[rb']? = w3.heap[rb']? := hf4.block rb' (lt_of_heap e2) (by simp; omega)
  rw [HLH.out, e2] at hsame
  cases hsame
  rcases List.mem_cons.1 hb with q | q
  ·subst q
   exact ⟨fun e => row_type HG3.out.row e2 (by decide) e.symm, lt_of_heap e2⟩
  ·obtain ⟨u, hu, hub⟩ := List.mem_filterMap.1 q
   simp at hu
   have key : ∀ (v : Value) (n : Nat) (xs : List Value), w3.ownsRow w2.heap.size 3 1 v n xs → v.ownBlock = some b → b ≠ pb' ∧ b < w3.heap.size := fun v n xs ho hvb => by
    refine ⟨fun e => ?_, (ho.lt b hvb).2⟩
    rcases ho.2 with ⟨rfl, _⟩ | ⟨g, cap, cur, rfl, _, hh, _⟩
    ·cases hvb
    ·simp [Value.ownBlock] at hvb
     subst hvb
     exact row_type HG3.out.row hh (by decide) e.symm
   rcases hu with rfl | rfl
   ·exact key _ _ _ e4 hub
   ·exact key _ _ _ e5 hub
 have hpn : pb' ≠ bb ∧ pb' ∉ K := by
  rcases hpp with e | e
  ·rw [e]; exact hAp
  ·exact ⟨by omega, fun q => by have := HKL.out pb' q; omega⟩
 have hqn : qb' ≠ bb ∧ qb' ∉ K := by
  rcases hqq with e | e
  ·rw [e]; exact hAq
  ·exact ⟨by omega, fun q => by have := HKL.out qb' q; omega⟩
 have n8 : ∀ b, b ≠ bb → b ∉ K → b ∉ rb' :: blks [x0, x1] → b ∉ bb :: (K ++ rb' :: blks [x0, x1]) := fun b h1 h2 h3 hm => by
  rcases List.mem_cons.1 hm with q | q
  ·exact h1 q
  ·rcases List.mem_append.1 q with q | q
   ·exact h2 q
   ·exact h3 q
 have nlow : ∀ b, b < w.heap.size → b ∉ rb' :: blks [x0, x1] := fun b hb hm => by have := hDD b hm; omega
 have nD : ∀ b, b < w.heap.size ∨ w2.heap.size ≤ b → b ∉ D := fun b hb hm => by have := hDb b hm; omega
 have npD : pb' ∉ rb' :: blks [x0, x1] := fun hm => (hDp pb' hm).1 rfl
 have nqD : qb' ∉ rb' :: blks [x0, x1] := fun hm => by
  have := hDD qb' hm
  have := (hDp qb' hm).2
  rcases hqq with e | e <;> omega
 have hpw : pb' < w.heap.size ∨ w2.heap.size ≤ pb' := by rcases hpp with e | e <;> omega
 have hqw : qb' < w.heap.size ∨ w3.heap.size ≤ qb' := by rcases hqq with e | e <;> omega
 have hgs8 : GS w8 gb pb' cap' t' := ((HG3.out.fr hf4 (by simp; omega) (by simp; omega)).fr HF47.out (nD gb (by omega)) (nD pb' hpw)).fr hF8 (n8 gb hAg.1 hAg.2 (nlow gb hgl)) (n8 pb' hpn.1 hpn.2 npD)
 have hrg8 : RG w8 rb qb' cap2' t' := (HRG4.out.fr HF47.out (nD rb (by omega)) (nD qb' (by omega))).fr hF8 (n8 rb hAr.1 hAr.2 (nlow rb hrl)) (n8 qb' hqn.1 hqn.2 nqD)
 have F48 : Fr [gb, rb, qb] w w4 := (hw3.mono (fun x hx => Or.inl (by simp_all))).trans hf4 (fun x hx => Or.inl (by simp at hx; simp; omega))
 have sb8 : ∀ o, w8.cell? ⟨sb, o, none⟩ = w.cell? ⟨sb, o, none⟩ := fun o => by
  rw [hF8.cell sb o (by omega) (n8 sb hAs.1 hAs.2 (nlow sb hsl)), HF47.out.cell sb o (by omega) (nD sb (by omega)), F48.cell sb o hsl (by simp; omega)]
 refine ⟨⟨[sb, gb, pb', rb, qb'], t', K', ⟨⟨sb, gb, pb', cap', rb, qb', cap2', rfl, rfl, (sb8 0).trans hx, (sb8 1).trans hy, hgs8, hrg8⟩, ?_, hpo.ok, hps, by rw [hpo.tn]; omega⟩, hK1, ?_, ?_, ?_, by rw [hpo.tn]; omega⟩, ?_⟩
 ·simp only [List.nodup_cons, List.mem_cons, List.not_mem_nil, or_false, not_or, List.nodup_nil, and_true, not_false_eq_true]
  omega
 ·intro x hx
  simp only [List.mem_cons, List.not_mem_nil, or_false] at hx ⊢
  omega
 ·intro x hx
  rcases hK2 x hx with q | q | q
  ·exact Or.inl q
  ·exact Or.inr (by have := hDD x q; omega)
  ·exact Or.inr (by omega)
 ·intro x hx
  have hxK : x ≠ bb ∧ x ∉ K ∧ x ∉ rb' :: blks [x0, x1] ∧ x < w7.heap.size := by
   simp only [List.mem_cons, List.not_mem_nil, or_false] at hx
   rcases hx with rfl | rfl | rfl | rfl | rfl
   ·exact ⟨hAs.1, hAs.2, nlow _ hsl, by omega⟩
   ·exact ⟨hAg.1, hAg.2, nlow _ hgl, by omega⟩
   ·exact ⟨hpn.1, hpn.2, npD, by omega⟩
   ·exact ⟨hAr.1, hAr.2, nlow _ hrl, by omega⟩
   ·exact ⟨hqn.1, hqn.2, nqD, by omega⟩
  refine ⟨hxK.1, fun hm => ?_⟩
  rcases hK2 x hm with q | q | q
  ·exact hxK.2.1 q
  ·exact hxK.2.2.1 q
  ·omega
 ·refine ((F48.mono (S' := bb :: ([sb, gb, pb, rb, qb] ++ K)) (fun x hx => Or.inl ?_)).trans HF47.out (fun b hb => Or.inr (hDb b hb).1)).trans hF8 (fun b hb => ?_)
  ·simp only [List.mem_cons, List.not_mem_nil, or_false] at hx
   simp only [List.mem_cons, List.mem_append, List.not_mem_nil, or_false]
   omega
  ·rcases List.mem_cons.1 hb with q | q
   ·exact Or.inl (by simp [q])
   ·rcases List.mem_append.1 q with q | q
    ·exact Or.inl (by simp [q])
    ·exact Or.inr (by have := hDD b q; omega)
end Go.Proofs.YtapabahhfanmmaaGreatDoor
