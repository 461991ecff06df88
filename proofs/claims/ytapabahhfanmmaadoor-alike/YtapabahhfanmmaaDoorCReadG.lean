import Derived.Test.YtapabahhfanmmaaDoorCTellT
import Derived.Test.YtapabahhfanmmaaDoorCMaybe2
import Derived.Test.YtapabahhfanmmaaDoorCPlay
import Derived.Laws.IdiomStrings
import Derived.Test.YtapabahhfanmmaaDoorCGame2
import Derived.Test.YtapabahhfanmmaaDoorCAdd
import Derived.Test.YtapabahhfanmmaaDoorCMaybe5
import Derived.Test.YtapabahhfanmmaaDoorCStart
/- A state is told. -/
namespace Go.Proofs.YtapabahhfanmmaaDoor
open Go.RowKit

theorem own_string {w : World} {base : Nat} {v : Value} {l : List UInt8} (h : w.ownsRow base 5 1 v l.length (bytesV l)) (hl : 0 < l.length) : (convert 93 9 v).run Tryd.prog w = .ok (.string ⟨l.toArray⟩) w := by
  rcases h.2 with ⟨_, h2⟩ | ⟨g, cap, cur, rfl, hb, hg, h1, h2, h3, h4⟩
  · omega
  · refine run_convert_bytes_back w 93 9 5 ⟨g, 0, none⟩ cap l Tryd.underlying93 Tryd.underlying5 Tryd.underlying9 (fun j hj => ?_)
    rw [Addr.add_lit, Nat.zero_add, cell_of_heap hg]
    have := congrArg (fun x : List Value => x[j]?) h4
    simp only [List.getElem?_take_of_lt (show j < l.length * 1 by omega)] at this
    rw [← Array.getElem?_toList, this]
    simp [bytesV, byteV, hj]
theorem own_lt {w : World} {base n : Nat} {e : TypeId} {size : Nat} {v : Value} {xs : List Value} (h : w.ownsRow base e size v n xs) {b : Nat} (hb : v.ownBlock = some b) : b < w.heap.size := by
  rcases h.2 with ⟨h1, _⟩ | ⟨g, cap, cur, rfl, h1, hg, _⟩
  · rw [h1] at hb; simp [Value.ownBlock] at hb
  · simp [Value.ownBlock] at hb
    subst hb
    exact lt_of_heap hg
structure TxtI (W1 : World) (L : List UInt8) (v : Value) (w : World) : Prop where
  own : w.ownsRow W1.heap.size 5 1 v L.length (bytesV L)
  fr : Fr [] W1 w
theorem TxtI.fr0 {W1 : World} {L : List UInt8} {v : Value} {w w' : World} (h : TxtI W1 L v w) (hf : Fr [] w w') : TxtI W1 L v w' := ⟨owns_fr h.own hf (by simp), h.fr.then0 hf⟩
theorem TxtI.append {W1 : World} {L : List UInt8} {v : Value} {w : World} (h : TxtI W1 L v w) (nb no nc : Nat) (ns : List Int) (hns : ∀ n ∈ ns, 0 ≤ n ∧ n ≤ 1000000000) (hc : ∀ j (h : j < ns.length), w.cell? ⟨nb, no + j, none⟩ = some (ii ns[j])) (hnb : v.ownBlock ≠ some nb) (hl : L.length ≤ 100000) (hnl : ns.length ≤ 10000) (hnw : nb < w.heap.size) :
    Calls Tryd.prog 40 #[v, .slice (some ⟨nb, no, none⟩) ns.length nc] w fun e w' => ∃ v', e = .returned v' ∧ TxtI W1 (L ++ flatB ns) v' w' ∧ Fr (ob v) w w' := by
  refine Calls.mono (append_any W1.heap.size nb no nc v L ns w h.own hns hc hnb hl hnl h.fr.size hnw) ?_
  rintro e w1 ⟨v', rfl, hA⟩
  refine ⟨v', rfl, ⟨hA.own, h.fr.trans hA.fr (fun i hi => Or.inr ?_)⟩, hA.fr⟩
  have : v.ownBlock = some i := by simpa [ob] using hi
  exact own_base h.own this
theorem flat_le {ns : List Int} (h : ∀ x ∈ ns, 0 ≤ x ∧ x ≤ 1000000000) {k : Nat} : (flatB (ns.take k)).length ≤ 5 * ns.length := by
  have := flatB_len (ns.take k) (fun n hn => (h n (List.mem_of_mem_take hn)).2)
  have h2 : (ns.take k).length ≤ ns.length := by simp; omega
  omega
theorem nums_take_head (t : T) : (numsOf t).take 5 = headN t := by
  unfold numsOf
  rw [List.take_append_of_le_length (by show 5 ≤ 5; omega)]
  exact List.take_of_length_le (by show 5 ≤ 5; omega)
theorem nums_take_board (t : T) (m : Nat) (hm : m ≤ 144) : (numsOf t).take (5 + m) = headN t ++ (boardN t).take m := by
  unfold numsOf
  have h5 : (headN t).length = 5 := rfl
  rw [List.take_append, h5, show 5 + m - 5 = m by omega, List.take_of_length_le (by omega), List.take_append_of_le_length (by rw [boardN_len]; exact hm)]
theorem board_take (t : T) (m : Nat) (hm : m ≤ 144) : (boardN t).take m = (List.range m).map t.bd := by
  unfold boardN
  rw [← List.map_take, List.take_range, Nat.min_eq_left hm]
theorem nums_next_row (t : T) (y : Nat) (hy : y < 12) : (numsOf t).take (5 + (y + 1) * 12) = (numsOf t).take (5 + y * 12) ++ (List.range 12).map (fun x => t.bd (y * 12 + x)) := by
  rw [nums_take_board t _ (by omega), nums_take_board t _ (by omega), board_take t _ (by omega), board_take t _ (by omega), List.append_assoc, show (y + 1) * 12 = y * 12 + 12 by omega, List.range_add, List.map_append, List.map_map]
  rfl
theorem nums_take_people (t : T) (k : Nat) : (numsOf t).take (150 + 11 * k) = headN t ++ (boardN t ++ ((t.us.length : Int) :: (peopleN t.us).take (11 * k))) := by
  unfold numsOf
  have h5 : (headN t).length = 5 := rfl
  rw [List.take_append, h5, List.take_of_length_le (l := headN t) (by omega), List.take_append, boardN_len, List.take_of_length_le (l := boardN t) (by rw [boardN_len]; omega), show 150 + 11 * k - 5 - 144 = 11 * k + 1 by omega, List.take_succ_cons]
theorem people_take : ∀ (us : List U) (k : Nat) (u : U), us[k]? = some u → (peopleN us).take (11 * (k + 1)) = (peopleN us).take (11 * k) ++ u.nums
  | [], _, _, h => by simp at h
  | v :: us, 0, u, h => by
    have hv : v = u := by simpa using h
    subst hv
    show (v.nums ++ peopleN us).take (11 * (0 + 1)) = _
    rw [List.take_append_of_le_length (by simp)]
    simp
  | v :: us, k + 1, u, h => by
    have ih := people_take us k u (by simpa using h)
    have e1 : ∀ m, (v.nums ++ peopleN us).take (11 * (m + 1)) = v.nums ++ (peopleN us).take (11 * m) := fun m => by
      rw [List.take_append, List.take_of_length_le (by simp; omega)]
      congr 2
    show (v.nums ++ peopleN us).take (11 * (k + 1 + 1)) = (v.nums ++ peopleN us).take (11 * (k + 1)) ++ u.nums
    rw [e1, e1, ih, List.append_assoc]

theorem nums_next_len (t : T) : (numsOf t).take 150 = (numsOf t).take (5 + 12 * 12) ++ [(t.us.length : Int)] := by
  have := nums_take_people t 0
  rw [Nat.mul_zero, Nat.add_zero, List.take_zero] at this
  rw [this, nums_take_board t _ (by omega), List.take_of_length_le (by rw [boardN_len]; omega), List.append_assoc]
theorem nums_next_unit (t : T) (k : Nat) (u : U) (hu : t.us[k]? = some u) : (numsOf t).take (150 + 11 * (k + 1)) = ((numsOf t).take (150 + 11 * k) ++ [u.id, u.owner, u.kind, u.x, u.y, u.life, u.load]) ++ [u.what, u.tox, u.toy, u.target] := by
  rw [nums_take_people, nums_take_people, people_take t.us k u hu]
  simp
theorem unit_mem {t : T} {u : U} (hu : u ∈ t.us) {x : Int} (hx : x ∈ u.nums) : x ∈ numsOf t := by
  unfold numsOf
  exact List.mem_append_right _ (List.mem_append_right _ (List.mem_cons_of_mem _ (List.mem_flatMap.2 ⟨u, hu, hx⟩)))

set_option maxRecDepth 100000 in
set_option maxHeartbeats 8000000 in
theorem tellState_any (pb cap : Nat) (t : T) (w : World) (hrow : PRow w pb cap t.us) (hb : ∀ x ∈ numsOf t, 0 ≤ x ∧ x ≤ 1000000000) (hlen : t.us.length ≤ 100) :
    Calls Tryd.prog 27 #[.agg (gameL t (.slice (some ⟨pb, 0, none⟩) t.us.length cap)).toArray] w fun e w' => e = .returned (.string ⟨(tellB t).toArray⟩) ∧ Fr [] w w' := by
  obtain ⟨gl, hgl⟩ : ∃ x, x = gameL t (.slice (some ⟨pb, 0, none⟩) t.us.length cap) := ⟨_, rfl⟩
  rw [← hgl]
  obtain ⟨W1, hW1⟩ : ∃ W, W = w.alloc (.cells gl.toArray 64) := ⟨_, rfl⟩
  have hh1 : W1.heap[w.heap.size]? = some (.cells gl.toArray 64) := by rw [hW1]; exact hp_new _ _
  have hw1 : Fr [] w W1 := by rw [hW1]; exact (Fr.refl _ _).alloc _
  have hcg : ∀ w', Fr [] W1 w' → ∀ k, k < 149 → w'.cell? ⟨w.heap.size, k, none⟩ = some (tcell t (.slice (some ⟨pb, 0, none⟩) t.us.length cap) 0 0 k) := fun w' hf k hk => by
    rw [cell_of_heap (hf.heap0 hh1), hgl]
    simp [gameL, List.getElem?_range hk]
  have hrow1 := hrow.fr hw1 (by simp)
  have hne1 : w.heap.size < W1.heap.size := lt_of_heap hh1
  have HCG := (show Hid _ from hcg)
  have HWN : Hid (∀ w', Fr [] W1 w' → Calls Tryd.prog 23 #[.pointer (some ⟨w.heap.size, 0, none⟩)] w' fun e w'' => e = .returned (.int .i64 (winI t.us)) ∧ Fr [] w' w'') := fun w' hf => winner_any w.heap.size pb cap t.us w' ⟨by have := hcg w' hf 148 (by omega); simpa [tcell] using this, (hrow1.fr hf (by simp)).ppl, by omega⟩
  have HGE := (show Hid _ from hgl)
  have HW1 := (show Hid _ from hW1)
  have hlb := flat_le hb (k := 150 + 11 * t.us.length)
  rw [numsOf_len] at hlb
  have HLB : Hid (∀ k, (flatB ((numsOf t).take k)).length ≤ 10000) := fun k => by have := flat_le hb (k := k); rw [numsOf_len] at this; omega
  have HB := (show Hid _ from hb)
  have HPP : Hid (∀ w', Fr [] W1 w' → Ppl w' pb t.us) := fun w' hf => (hrow1.fr hf (by simp)).ppl
  have HTI : Hid (∀ {L : List UInt8} {v : Value} {w : World} (_ : TxtI W1 L v w) (nb no nc : Nat) (ns : List Int) (_ : ∀ n ∈ ns, 0 ≤ n ∧ n ≤ 1000000000) (_ : ∀ j (h : j < ns.length), w.cell? ⟨nb, no + j, none⟩ = some (ii ns[j])) (_ : v.ownBlock ≠ some nb) (_ : L.length ≤ 100000) (_ : ns.length ≤ 10000) (_ : nb < w.heap.size),
    Calls Tryd.prog 40 #[v, .slice (some ⟨nb, no, none⟩) ns.length nc] w fun e w' => ∃ v', e = .returned v' ∧ TxtI W1 (L ++ flatB ns) v' w' ∧ Fr (ob v) w w') := fun h nb no nc ns a b c d e f => h.append nb no nc ns a b c d e f
  clear hgl hW1 hb hlb hcg hrow hrow1
  go_enter Tryd.func27, Tryd.ntmps27
  go_wp2_with fail
  rw [← HW1.out]
  have HS : ∀ w', Fr [] W1 w' → (fun w' : World => w'.cell? ⟨w.heap.size, 0, none⟩ = some (ii t.turn) ∧ w'.cell? ⟨w.heap.size, 1, none⟩ = some (ii t.next) ∧ w'.cell? ⟨w.heap.size, 2, none⟩ = some (ii t.s0) ∧ w'.cell? ⟨w.heap.size, 3, none⟩ = some (ii t.s1) ∧ Fr [] W1 w') w' := fun w' hf => ⟨HCG.out w' hf 0 (by omega), HCG.out w' hf 1 (by omega), HCG.out w' hf 2 (by omega), HCG.out w' hf 3 (by omega), hf⟩
  have K0 := HS _ (Fr.refl [] W1).drew
  have HN5 : Hid (∀ n ∈ [t.turn, winI t.us, t.s0, t.s1, t.next], 0 ≤ n ∧ n ≤ 1000000000) := fun n hn => HB.out n (by have : n ∈ headN t := hn; unfold numsOf; exact List.mem_append_left _ this)
  have C5 : ∀ (W : World) (j : Nat) (h : j < [t.turn, winI t.us, t.s0, t.s1, t.next].length), (W.alloc (.cells #[ii t.turn, ii (winI t.us), ii t.s0, ii t.s1, ii t.next] 3)).cell? ⟨W.heap.size, 0 + j, none⟩ = some (ii [t.turn, winI t.us, t.s0, t.s1, t.next][j]) := fun W j h => by
    rw [cell_of_heap (hp_new W _), Nat.zero_add]
    have : j = 0 ∨ j = 1 ∨ j = 2 ∨ j = 3 ∨ j = 4 := by simp at h; omega
    rcases this with rfl | rfl | rfl | rfl | rfl <;> rfl
  go_cut [3] (fun s3 wx => TxtI W1 (flatB ((numsOf t).take 5)) s3 wx)
  case first =>
    go_region_held (fun w' : World => w'.cell? ⟨w.heap.size, 0, none⟩ = some (ii t.turn) ∧ w'.cell? ⟨w.heap.size, 1, none⟩ = some (ii t.next) ∧ w'.cell? ⟨w.heap.size, 2, none⟩ = some (ii t.s0) ∧ w'.cell? ⟨w.heap.size, 3, none⟩ = some (ii t.s1) ∧ Fr [] W1 w')
      (first | with_reducible exact K0 | with_reducible exact HS _ hfr1 | with_reducible exact HS _ (hfr1.alloc _) | with_reducible exact HS _ hti.fr)
      (first | (go_at_call 23; refine Calls.mono (HWN.out _ (And.right (And.right (And.right (And.right (by assumption)))))) ?_; rintro e w2 ⟨rfl, hf2⟩; have hfr1 : Fr [] W1 w2 := Fr.then0 (And.right (And.right (And.right (And.right (by assumption))))) hf2) | (go_at_call 40; refine Calls.mono (HTI.out (L := []) (v := .slice none 0 0) ⟨⟨rfl, Or.inl ⟨rfl, rfl⟩⟩, hfr1.alloc _⟩ w2.heap.size 0 5 [t.turn, winI t.us, t.s0, t.s1, t.next] HN5.out (C5 w2) (by simp [Value.ownBlock]) (by simp) (by simp) (by simp)) ?_; rintro e w3 ⟨v3, rfl, hti, hf3⟩))
    all_goals
      go_wp2_with fail
      go_meet
      rw [nums_take_head]
      exact hti
  case rest =>
    have hrg : ∀ w', Fr [] W1 w' → w'.rangeAt w.heap.size 4 (boardL t.bd) := fun w' hf j v hv => by
      have hj : j < 144 := by have := (List.getElem?_eq_some_iff.1 hv).1; rwa [boardL_len] at this
      rw [HCG.out w' hf (4 + j) (by omega)]
      unfold tcell
      rw [if_neg (by omega), if_neg (by omega), if_neg (by omega), if_neg (by omega), if_pos (by omega), show 4 + j - 4 = j by omega]
      unfold boardL at hv
      rw [List.getElem?_map, List.getElem?_range hj] at hv
      exact hv
    have hrgc := hrg _ hcut.fr
    have HRow : Hid (∀ (y : Nat) (_ : y < 12) (w : World), (Instr.index 50 (.agg (boardL t.bd).toArray) (.int .i64 y)).run Tryd.prog w = .ok (.agg (rowL t.bd y).toArray) w) := run_row t.bd
    have HRL : Hid (∀ y, (rowL t.bd y).length = 12 ∧ (rowL t.bd y).toArray.all (·.oneCell') = true) := fun y => ⟨rowL_len _ _, rowL_one _ _⟩
    obtain ⟨bl, hbl⟩ : ∃ x, x = boardL t.bd := ⟨_, rfl⟩
    have HIB : Hid ((Tryd.prog.info? 50).map (·.size) = some bl.length) := by
      show _ = _
      rw [infoBoard, hbl, boardL_len]
    rw [← hbl] at hrgc HRow
    have HTX := (show Hid _ from hcut)
    clear hbl hrg HS K0 C5 HN5 hcut
    go_wp2_with (refine wpList_load_mid rfl 50 _ rfl w.heap.size 4 rfl bl _ hrgc Tryd.underlying50 rfl HIB.out ?_)
    go_loopw [3, 23] (fun v i wr => ∃ y : Nat, y ≤ 12 ∧ i = .int .i64 y ∧ TxtI W1 (flatB ((numsOf t).take (5 + y * 12))) v wr) (fun _ i _ => 12 - (intOf i).toNat)
    case atStart => exact ⟨0, by omega, rfl, HTX.out⟩
    case round =>
      obtain ⟨y, hy12, rfl, hT⟩ := hrel
      by_cases hlt : y < 12
      · have hlti : (y : Int) < 12 := by omega
        have hr := HRow.out y hlt
        obtain ⟨hrl, hro⟩ := HRL.out y
        have hrv : ∀ j (h : j < 12), (rowL t.bd y)[j]? = some (ii (t.bd (y * 12 + j))) := fun j h => by simp [rowL, List.getElem?_range h]
        obtain ⟨r, hr'⟩ : ∃ r, rowL t.bd y = r := ⟨_, rfl⟩
        rw [hr'] at hr hrl hro
        simp only [hr'] at hrv
        have HO := (show Hid _ from hro)
        have HI : Hid ((Tryd.prog.info? 48).map (·.size) = some r.toArray.size) := by
          show _ = _
          rw [infoRow, List.size_toArray, hrl]
        have HZ : Hid (zero12.size = r.toArray.size) := by show 12 = r.toArray.size; rw [List.size_toArray, hrl]
        have HRV := (show Hid _ from hrv)
        have HT := (show Hid _ from hT)
        clear hrl hro hr' hrv hT
        go_wp2_with (refine wpList_store_row rfl 48 _ _ rfl wr.heap.size r.toArray rfl rfl 48 zero12 (hp_new wr _) HI.out HZ.out HO.out ?_)
        obtain ⟨W3, hW3⟩ : ∃ W, W = (wr.alloc (.cells zero12 48)).setRow wr.heap.size r.toArray := ⟨_, rfl⟩
        rw [← hW3]
        have hf3 : Fr [] wr W3 := by rw [hW3]; exact ((Fr.refl _ _).alloc _).setRow _ _ (Or.inr (Nat.le_refl _))
        have hh3 : W3.heap[wr.heap.size]? = some (.cells r.toArray 48) := by rw [hW3]; exact setRow_heap _ _ _ _ _ _ (hp_new _ _)
        have hAp := HTI.out (HT.out.fr0 hf3) wr.heap.size 0 12 ((List.range 12).map (fun x => t.bd (y * 12 + x))) (fun n hn => by
            obtain ⟨x, hx, rfl⟩ := List.mem_map.1 hn
            have hx12 := List.mem_range.1 hx
            refine HB.out _ ?_
            unfold numsOf
            refine List.mem_append_right _ (List.mem_append_left _ ?_)
            exact List.mem_map.2 ⟨y * 12 + x, List.mem_range.2 (by omega), rfl⟩)
          (fun j hj => by
            have hj' : j < 12 := by simpa using hj
            rw [cell_of_heap hh3, Nat.zero_add, List.getElem?_toArray, HRV.out j hj']
            simp)
          (fun e => by have := own_lt HT.out.own e; omega) (Nat.le_trans (HLB.out _) (by omega)) (by simp) (lt_of_heap hh3)
        have h12 : ((List.range 12).map (fun x => t.bd (y * 12 + x))).length = 12 := by simp
        rw [h12] at hAp
        have HNR := (show Hid _ from nums_next_row t y hlt)
        clear hW3 hh3
        refine Calls.mono hAp ?_
        rintro e w4 ⟨v4, rfl, hti, hf4⟩
        dsimp only
        clear hAp
        go_wp2_with fail
        go_roundw
        case rel => exact ⟨y + 1, hlt, by go_num, by rw [HNR.out, flatB_append]; exact hti⟩
        case measure => simp [intOf]; omega
      · have hlti : ¬ (y : Int) < 12 := by omega
        have hy : y = 12 := by omega
        subst hy
        have hcp : wr.cell? ⟨w.heap.size, 148, none⟩ = some (.slice (some ⟨pb, 0, none⟩) t.us.length cap) := by
          have := HCG.out wr hT.fr 148 (by omega)
          simpa [tcell] using this
        have HT := (show Hid _ from hT)
        clear hT HRow HRL HIB hrgc HTX
        go_wp2_with fail
        have hAp := HTI.out (HT.out.fr0 ((Fr.refl [] wr).alloc (.cells #[ii (t.us.length : Int)] 3))) wr.heap.size 0 1 [(t.us.length : Int)] (fun n hn => HB.out n (by
            have : n = (t.us.length : Int) := by simpa using hn
            subst this
            unfold numsOf
            exact List.mem_append_right _ (List.mem_append_right _ (by simp))))
          (fun j hj => by
            have hj' : j = 0 := by simpa using hj
            subst hj'
            rw [cell_of_heap (hp_new wr _)]
            rfl)
          (fun e => by have := own_lt HT.out.own e; omega) (Nat.le_trans (HLB.out _) (by omega)) (by simp) (by simp)
        refine Calls.mono hAp ?_
        rintro e w4 ⟨v4, rfl, hti, hf4⟩
        dsimp only
        rw [← flatB_append, ← nums_next_len] at hti
        have hcp4 : w4.cell? ⟨w.heap.size, 148, none⟩ = some (.slice (some ⟨pb, 0, none⟩) t.us.length cap) := by
          have := HCG.out w4 hti.fr 148 (by omega)
          simpa [tcell] using this
        have HT4 := (show Hid _ from hti)
        clear hAp hti HT hcp
        go_wp2_with fail
        go_loopw [3, 39] (fun v i wr => ∃ k : Nat, k ≤ t.us.length ∧ i = .int .i64 k ∧ TxtI W1 (flatB ((numsOf t).take (150 + 11 * k))) v wr) (fun _ i _ => t.us.length - (intOf i).toNat)
        case atStart => exact ⟨0, by omega, rfl, HT4.out⟩
        case round =>
          obtain ⟨k, hk, rfl, hT⟩ := hrel
          by_cases hkl : k < t.us.length
          · have hkli : (k : Int) < (t.us.length : Int) := by omega
            obtain ⟨u, hu⟩ : ∃ u, t.us[k]? = some u := ⟨t.us[k], List.getElem?_eq_getElem hkl⟩
            obtain ⟨c0, c1, c2, c3, c4, c5, c6, c7, c8, c9, c10⟩ := (HPP.out wr hT.fr).at hu
            have HNU := (show Hid _ from nums_next_unit t k u hu)
            have HUM : Hid (∀ x, x ∈ u.nums → 0 ≤ x ∧ x ≤ 1000000000) := fun x hx => HB.out x (unit_mem (List.mem_of_getElem? hu) hx)
            have HT := (show Hid _ from hT)
            clear hT hu
            go_wp2_with fail
            have h7f : Fr [] wr ((wr.alloc (.cells u.arr 44)).alloc (.cells #[ii u.id, ii u.owner, ii u.kind, ii u.x, ii u.y, ii u.life, ii u.load] 3)) := ((Fr.refl [] wr).alloc _).alloc _
            have hAp := HTI.out (HT.out.fr0 h7f) (wr.heap.size + 1) 0 7 [u.id, u.owner, u.kind, u.x, u.y, u.life, u.load] (fun n hn => HUM.out n (by
                simp only [List.mem_cons, List.not_mem_nil, or_false] at hn ⊢
                omega))
              (fun j hj => by
                rw [cell_of_heap (hp_new2 wr _ _), Nat.zero_add]
                have : j = 0 ∨ j = 1 ∨ j = 2 ∨ j = 3 ∨ j = 4 ∨ j = 5 ∨ j = 6 := by simp at hj; omega
                rcases this with rfl | rfl | rfl | rfl | rfl | rfl | rfl <;> rfl)
              (fun e => by have := own_lt HT.out.own e; omega) (Nat.le_trans (HLB.out _) (by omega)) (by simp) (by simp)
            refine Calls.mono hAp ?_
            rintro e w5 ⟨v5, rfl, ht5, hf5⟩
            dsimp only
            have hU5 : w5.heap[wr.heap.size]? = some (.cells u.arr 44) := hf5.heap ((hp_old _ _ _ (by simp)).trans (hp_new _ _)) (fun hm => by
              have := own_lt HT.out.own (show u3.ownBlock = some wr.heap.size by simpa [ob] using hm)
              omega)
            have e7 : w5.cell? ⟨wr.heap.size, 7, none⟩ = some (ii u.what) := cell_of_heap hU5
            have e8 : w5.cell? ⟨wr.heap.size, 8, none⟩ = some (ii u.tox) := cell_of_heap hU5
            have e9 : w5.cell? ⟨wr.heap.size, 9, none⟩ = some (ii u.toy) := cell_of_heap hU5
            have e10 : w5.cell? ⟨wr.heap.size, 10, none⟩ = some (ii u.target) := cell_of_heap hU5
            have hl5 : (flatB ((numsOf t).take (150 + 11 * k)) ++ flatB [u.id, u.owner, u.kind, u.x, u.y, u.life, u.load]).length ≤ 100000 := by
              have h1 := HLB.out (150 + 11 * k)
              have h2 := flatB_len [u.id, u.owner, u.kind, u.x, u.y, u.life, u.load] (fun n hn => (HUM.out n (by simp only [List.mem_cons, List.not_mem_nil, or_false] at hn ⊢; omega)).2)
              rw [List.length_append]
              simp at h2
              omega
            have HT5 := (show Hid _ from ht5)
            clear hAp ht5 hU5 c0 c1 c2 c3 c4 c5 c6 c7 c8 c9 c10
            go_wp2_with fail
            have hAq := HTI.out (HT5.out.fr0 ((Fr.refl [] w5).alloc (.cells #[ii u.what, ii u.tox, ii u.toy, ii u.target] 3))) w5.heap.size 0 4 [u.what, u.tox, u.toy, u.target] (fun n hn => HUM.out n (by
                simp only [List.mem_cons, List.not_mem_nil, or_false] at hn ⊢
                omega))
              (fun j hj => by
                rw [cell_of_heap (hp_new w5 _), Nat.zero_add]
                have : j = 0 ∨ j = 1 ∨ j = 2 ∨ j = 3 := by simp at hj; omega
                rcases this with rfl | rfl | rfl | rfl <;> rfl)
              (fun e => by have := own_lt HT5.out.own e; omega) hl5 (by simp) (by simp)
            refine Calls.mono hAq ?_
            rintro e w6 ⟨v6, rfl, ht6, hf6⟩
            dsimp only
            clear hAq
            go_wp2_with fail
            go_roundw
            case rel => exact ⟨k + 1, hkl, by go_num, by rw [HNU.out, flatB_append, flatB_append]; exact ht6⟩
            case measure => simp [intOf]; omega
          · have hkli : ¬ (k : Int) < (t.us.length : Int) := by omega
            have hke : k = t.us.length := by omega
            subst hke
            rw [List.take_of_length_le (by rw [numsOf_len]; exact Nat.le_refl _)] at hT
            have hpos : 0 < (flatB (numsOf t)).length := by
              have := numB_len_pos t.turn.toNat
              unfold numsOf headN
              rw [List.cons_append, flatB_cons, List.length_append]
              omega
            have hcv := own_string hT.own hpos
            have hfe := hw1.then0 hT.fr
            clear hT HT4
            go_wp2_with fail
            go_ret
            exact ⟨rfl, hfe⟩
end Go.Proofs.YtapabahhfanmmaaDoor
/- A game is told. -/
namespace Go.Proofs.YtapabahhfanmmaaDoor
open Go.RowKit

set_option maxRecDepth 100000 in
set_option maxHeartbeats 2000000 in
theorem tell_any (gb pb cap : Nat) (t : T) (w : World) (h : GS w gb pb cap t) (hb : ∀ x ∈ numsOf t, 0 ≤ x ∧ x ≤ 1000000000) (hlen : t.us.length ≤ 100) :
    Calls Tryd.prog 18 #[.pointer (some ⟨gb, 0, none⟩)] w fun e w' => e = .returned (.string ⟨(tellB t).toArray⟩) ∧ Fr [] w w' := by
  have HTS : Hid (Calls Tryd.prog 27 #[.agg (gameL t (.slice (some ⟨pb, 0, none⟩) t.us.length cap)).toArray] w fun e w' => e = .returned (.string ⟨(tellB t).toArray⟩) ∧ Fr [] w w') := tellState_any pb cap t w h.row hb hlen
  obtain ⟨gl, hgl⟩ : ∃ x, x = gameL t (.slice (some ⟨pb, 0, none⟩) t.us.length cap) := ⟨_, rfl⟩
  have hall := h.all
  rw [← hgl] at HTS hall
  have hll : gl.length = 149 := by rw [hgl]; exact gameL_len _ _
  have HI : Hid ((Tryd.prog.info? 64).map (·.size) = some gl.length) := by
    show _ = _
    rw [infoGame, hll]
  obtain ⟨L, hL⟩ : ∃ L, L = tellB t := ⟨_, rfl⟩
  rw [← hL] at HTS ⊢
  clear hgl hll h hL hb
  go_enter Tryd.func18, Tryd.ntmps18
  go_wp2_with (first | (go_at_call 22; refine (there_any gb _).mono ?_; rintro e w1 ⟨rfl, rfl⟩) | (refine wpList_load_mid rfl 64 _ rfl gb 0 rfl gl _ hall Tryd.underlying64 rfl HI.out ?_) | (go_at_call 27; refine Calls.mono HTS.out ?_; rintro e w2 ⟨rfl, hf2⟩))
  go_ret
  exact ⟨rfl, hf2⟩
end Go.Proofs.YtapabahhfanmmaaDoor
/- A state is read. -/
namespace Go.Proofs.YtapabahhfanmmaaDoor
open Go.RowKit

def zeroT : T := ⟨0, 0, 0, 0, fun _ => 0, [], fun _ => none⟩
/-- The game as far as it has been read: s numbers of the head, m cells of the board, k people. -/
def rdT (t : T) (s m k : Nat) : T := ⟨if 0 < s then t.turn else 0, if 3 < s then t.next else 0, if 1 < s then t.s0 else 0, if 2 < s then t.s1 else 0, fun j => if j < m then t.bd j else 0, t.us.take k, fun _ => none⟩
theorem zc_game : Tryd.zeroCells64 = (gameL zeroT (.slice none 0 0)).toArray := by kernel_rfl
theorem rd_zero (t : T) (pv : Value) : gameL zeroT pv = gameL (rdT t 0 0 0) pv := by
  unfold gameL
  apply List.map_congr_left
  intro j _
  unfold tcell rdT zeroT
  simp
theorem rd_put (t : T) (s s' m m' : Nat) (pv : Value) (k : Nat) (h : ∀ j, j < 149 → j ≠ k → tcell (rdT t s m 0) pv 0 0 j = tcell (rdT t s' m' 0) pv 0 0 j) : ∀ j, j < 149 → j ≠ k → tcell (rdT t s m 0) pv 0 0 j = tcell (rdT t s' m' 0) pv 0 0 j := h
theorem rd_p0 (t : T) (pv : Value) : ∀ j, j < 149 → j ≠ 0 → tcell (rdT t 0 0 0) pv 0 0 j = tcell (rdT t 1 0 0) pv 0 0 j := fun j _ hn => by
  unfold tcell rdT; simp [hn]
theorem rd_p2 (t : T) (pv : Value) : ∀ j, j < 149 → j ≠ 2 → tcell (rdT t 1 0 0) pv 0 0 j = tcell (rdT t 2 0 0) pv 0 0 j := fun j _ hn => by
  unfold tcell rdT; simp [hn]
theorem rd_p3 (t : T) (pv : Value) : ∀ j, j < 149 → j ≠ 3 → tcell (rdT t 2 0 0) pv 0 0 j = tcell (rdT t 3 0 0) pv 0 0 j := fun j _ hn => by
  unfold tcell rdT; simp [hn]
theorem rd_p1 (t : T) (pv : Value) : ∀ j, j < 149 → j ≠ 1 → tcell (rdT t 3 0 0) pv 0 0 j = tcell (rdT t 4 0 0) pv 0 0 j := fun j _ hn => by
  unfold tcell rdT; simp [hn]
theorem rd_pb (t : T) (pv : Value) (m : Nat) : ∀ j, j < 149 → j ≠ 4 + m → tcell (rdT t 4 m 0) pv 0 0 j = tcell (rdT t 4 (m + 1) 0) pv 0 0 j := fun j _ hn => by
  unfold tcell rdT
  simp only
  split; rfl
  split; rfl
  split; rfl
  split; rfl
  split
  · by_cases h : j - 4 < m
    · rw [if_pos h, if_pos (by omega)]
    · rw [if_neg h, if_neg (by omega)]
  · rfl
theorem rd_pp (t : T) (pv pv' : Value) (k k' : Nat) : ∀ j, j < 149 → j ≠ 148 → tcell (rdT t 4 144 k) pv 0 0 j = tcell (rdT t 4 144 k') pv' 0 0 j := fun j _ hn => by
  unfold tcell rdT
  simp [hn]
theorem rd_end (t : T) (pv : Value) (k : Nat) : ∀ j, j < 149 → tcell (rdT t 4 144 k) pv 0 0 j = tcell t pv 0 0 j := fun j hj => by
  unfold tcell rdT
  simp only
  split; rfl
  split; rfl
  split; rfl
  split; rfl
  split
  · rw [if_pos (by omega)]
  · rfl
theorem gameL_set (t t' : T) (pv pv' : Value) (k : Nat) (v : Value) (hk : k < 149) (he : ∀ j, j < 149 → j ≠ k → tcell t pv 0 0 j = tcell t' pv' 0 0 j) (hv : tcell t' pv' 0 0 k = v) : (gameL t pv).toArray.setIfInBounds k v = (gameL t' pv').toArray := by
  apply Array.ext_getElem?
  intro i
  rw [Array.getElem?_setIfInBounds]
  by_cases e : k = i
  · subst e
    rw [if_pos rfl, if_pos (by simp [gameL]; omega)]
    simp [gameL, List.getElem?_range hk, hv]
  · rw [if_neg e]
    simp only [gameL, List.getElem?_toArray, List.getElem?_map]
    by_cases hi : i < 149
    · rw [List.getElem?_range hi]
      simp only [Option.map_some]
      rw [he i hi (fun h => e h.symm)]
    · rw [List.getElem?_eq_none (by simp; omega)]
      rfl
structure RJ (w0 : World) (l : List UInt8) (rb A : Nat) (n : Nat) (t : T) (pv : Value) (w : World) : Prop where
  rd : RdAt w rb (rdN l false n).1 (rdN l false n).2
  g : w.heap[A]? = some (.cells (gameL t pv).toArray 64)
  fr : Fr [rb, A] w0 w
theorem RJ.cell {w0 : World} {l : List UInt8} {rb A n : Nat} {t : T} {pv : Value} {w : World} (h : RJ w0 l rb A n t pv w) (k : Nat) (hk : k < 149) : w.cell? ⟨A, k, none⟩ = some (tcell t pv 0 0 k) := by
  rw [cell_of_heap h.g]
  simp [gameL, List.getElem?_range hk]
theorem RJ.fz {w0 : World} {l : List UInt8} {rb A n : Nat} {t : T} {pv : Value} {w : World} (h : RJ w0 l rb A n t pv w) (k : Nat) : w.frozen? ⟨A, k, none⟩ = false := frozen_of_heap h.g
theorem RJ.put {w0 : World} {l : List UInt8} {rb A n : Nat} {t t' : T} {pv pv' : Value} {w : World} (h : RJ w0 l rb A n t pv w) (hn : rb ≠ A) (k : Nat) (v : Value) (hk : k < 149) (he : ∀ j, j < 149 → j ≠ k → tcell t pv 0 0 j = tcell t' pv' 0 0 j) (hv : tcell t' pv' 0 0 k = v) : RJ w0 l rb A n t' pv' (w.setCell ⟨A, k, none⟩ v) := by
  refine ⟨⟨?_⟩, ?_, h.fr.setCell _ _ (by simp)⟩
  · rw [Below.heap_setCell _ _ _ _ hn]; exact h.rd.all
  · rw [set_arrR h.g, gameL_set t t' pv pv' k v hk he hv]
theorem RJ.next {w0 : World} {l : List UInt8} {rb A n : Nat} {t : T} {pv : Value} {w : World} (h : RJ w0 l rb A n t pv w) (hn : rb ≠ A) (hl : l.length ≤ 1000000) :
    Calls Tryd.prog 36 #[.pointer (some ⟨rb, 0, none⟩)] w fun e w' => e = .returned (.int .i64 (nth l false n)) ∧ RJ w0 l rb A (n + 1) t pv w' := by
  refine Calls.mono (next_nth rb l false n w h.rd hl) ?_
  rintro e w1 ⟨rfl, h1, h2⟩
  exact ⟨rfl, h1, h2.heap h.g (by simp; exact fun e => hn e.symm), h.fr.trans h2 (by simp)⟩

theorem RJ.unit {w0 : World} {l : List UInt8} {rb A n : Nat} {t : T} {pv : Value} {w : World} (h : RJ w0 l rb A n t pv w) (hn : rb ≠ A) (hl : l.length ≤ 1000000) {u : U} (hu : unitOf (fun f => nth l false (n + f)) = u) :
    Calls Tryd.prog 37 #[.pointer (some ⟨rb, 0, none⟩)] w fun e w' => e = .returned u.val ∧ RJ w0 l rb A (n + 11) t pv w' ∧ Fr [rb] w w' := by
  refine Calls.mono (readUnit_any rb _ _ w h.rd (Nat.le_trans (rdN_len l false n) hl)) ?_
  rintro e w1 ⟨rfl, h1, h2⟩
  rw [rdN_add] at h1
  refine ⟨?_, ⟨h1, h2.heap h.g (by simp; exact fun e => hn e.symm), h.fr.trans h2 (by simp)⟩, h2⟩
  rw [show nth (rdN l false n).1 (rdN l false n).2 = fun f => nth l false (n + f) from funext fun f => nth_add l false n f, hu]
theorem RJ.at148 {w0 : World} {l : List UInt8} {rb A n : Nat} {t : T} {pv : Value} {w : World} (h : RJ w0 l rb A n t pv w) : w.cell? ⟨A, 148, none⟩ = some pv := by
  have := h.cell 148 (by omega)
  simpa [tcell] using this
theorem new_cells (u : U) (W : World) (j : Nat) (v : Value) (hu : u.cells[j]? = some v) : (W.alloc (.cells u.arr 44)).cell? ((⟨W.heap.size, 0, none⟩ : Addr).add j) = some v := by
  rw [Addr.add_lit, Nat.zero_add, cell_of_heap (hp_new W _)]
  simpa using hu

set_option maxRecDepth 100000 in
set_option maxHeartbeats 8000000 in
theorem readState_ok (t : T) (l : List UInt8) (w : World) (hrd : Reads l t) (hl : l.length ≤ 1000000) (hok : GOk t) (hos : OS t) (hw0 : 0 < w.heap.size) :
    Calls Tryd.prog 26 #[.string ⟨l.toArray⟩] w fun e w' => ∃ pb cap, e = .returned (.tuple #[.agg (gameL t (.slice (some ⟨pb, 0, none⟩) t.us.length cap)).toArray, .bool true]) ∧ PRow w' pb cap t.us ∧ w.heap.size ≤ pb ∧ Fr [] w w' := by
  have HNX : Hid (∀ {w0 : World} {rb A n : Nat} {t : T} {pv : Value} {w : World} (x : Int), nth l false n = x → RJ w0 l rb A n t pv w → rb ≠ A → Calls Tryd.prog 36 #[.pointer (some ⟨rb, 0, none⟩)] w fun e w' => e = .returned (.int .i64 x) ∧ RJ w0 l rb A (n + 1) t pv w') := fun x hx h hn => hx ▸ h.next hn hl
  have HRD := (show Hid _ from hrd)
  clear hrd
  go_enter Tryd.func26, Tryd.ntmps26
  go_wp2_with fail
  have hwa : Fr [] w (w.alloc (.cells Tryd.zeroCells64 64)) := (Fr.refl _ _).alloc _
  have hwr := hp_new w (.cells Tryd.zeroCells64 64)
  refine Calls.mono (newReader_any l _) ?_
  rintro e w1 ⟨rb, rfl, hrb, hrd, hf1⟩
  dsimp only
  have hw1 := hwa.then0 hf1
  have hR1 := hf1.heap0 hwr
  have hrl := hrd.lt
  go_wp2_with fail
  obtain ⟨W2, hW2⟩ : ∃ W, W = w1.alloc (.cells Tryd.zeroCells64 64) := ⟨_, rfl⟩
  rw [← hW2]
  obtain ⟨A, hA⟩ : ∃ A, A = w1.heap.size := ⟨_, rfl⟩
  rw [← hA]
  have hne : rb ≠ A := by omega
  have hf2 : Fr [] w1 W2 := by rw [hW2]; exact (Fr.refl _ _).alloc _
  have j0 : RJ W2 l rb A 0 (rdT t 0 0 0) (.slice none 0 0) W2 := ⟨hrd.fr hf2 (by simp), by rw [hA, hW2, hp_new, zc_game, rd_zero t], Fr.refl _ _⟩
  have hR2 := hf2.heap0 hR1
  have hw2 := hw1.then0 hf2
  have hwA : w.heap.size < A := by have := hf1.size; simp at this; omega
  have hwrb : w.heap.size < rb := by simp at hrb; omega
  have HA := (show Hid _ from hA)
  have HRL : Hid (rb < w1.heap.size) := hrl
  have HAL : Hid (w1.heap.size < W2.heap.size) := by show w1.heap.size < W2.heap.size; rw [hW2]; simp
  clear hW2 hA hrb hrd hf1 hwr hR1 hrl hf2 hw1 hwa
  refine Calls.mono (HNX.out _ HRD.out.n0 j0 hne) ?_
  rintro e w3 ⟨rfl, j1⟩
  dsimp only
  have c0 := j1.cell 0 (by omega)
  have z0 := j1.fz 0
  clear j0
  go_wp2_with fail
  have j2 := j1.put (t' := rdT t 1 0 0) (pv' := .slice none 0 0) hne 0 (.int .i64 t.turn) (by omega) (rd_p0 t _) rfl
  obtain ⟨w4, hw4⟩ : ∃ W, W = w3.setCell ⟨A, 0, none⟩ (.int .i64 t.turn) := ⟨_, rfl⟩
  rw [← hw4] at j2 ⊢
  clear hw4 c0 z0 j1
  refine Calls.mono (HNX.out _ HRD.out.n1 j2 hne) ?_
  rintro e w5 ⟨rfl, j3⟩
  dsimp only
  clear j2
  go_wp2_with fail
  refine Calls.mono (HNX.out _ HRD.out.n2 j3 hne) ?_
  rintro e w6 ⟨rfl, j4⟩
  dsimp only
  clear j3
  go_wp2_with fail
  refine Calls.mono (HNX.out _ HRD.out.n3 j4 hne) ?_
  rintro e w7 ⟨rfl, j5⟩
  dsimp only
  clear j4
  have c2 := j5.cell 2 (by omega)
  have c3 := j5.cell 3 (by omega)
  have z2 := j5.fz 2
  have z3 := j5.fz 3
  go_wp2_with fail
  have j6 := (j5.put (t' := rdT t 2 0 0) (pv' := .slice none 0 0) hne 2 (.int .i64 t.s0) (by omega) (rd_p2 t _) rfl).put (t' := rdT t 3 0 0) (pv' := .slice none 0 0) hne 3 (.int .i64 t.s1) (by omega) (rd_p3 t _) rfl
  obtain ⟨w8, hw8⟩ : ∃ W, W = (w7.setCell ⟨A, 2, none⟩ (.int .i64 t.s0)).setCell ⟨A, 3, none⟩ (.int .i64 t.s1) := ⟨_, rfl⟩
  rw [← hw8] at j6 ⊢
  clear hw8 c2 c3 z2 z3 j5
  refine Calls.mono (HNX.out _ HRD.out.n4 j6 hne) ?_
  rintro e w9 ⟨rfl, j7⟩
  dsimp only
  clear j6
  have c1 := j7.cell 1 (by omega)
  have z1 := j7.fz 1
  go_wp2_with fail
  have j8 := j7.put (t' := rdT t 4 0 0) (pv' := .slice none 0 0) hne 1 (.int .i64 t.next) (by omega) (rd_p1 t _) rfl
  obtain ⟨w10, hw10⟩ : ∃ W, W = w9.setCell ⟨A, 1, none⟩ (.int .i64 t.next) := ⟨_, rfl⟩
  rw [← hw10] at j8 ⊢
  clear hw10 c1 z1 j7
  go_loopw [26] (fun i wr => ∃ y : Nat, y ≤ 12 ∧ i = .int .i64 y ∧ RJ W2 l rb A (5 + y * 12) (rdT t 4 (y * 12) 0) (.slice none 0 0) wr) (fun i _ => 12 - (intOf i).toNat)
  case atStart => exact ⟨0, by omega, rfl, j8⟩
  case round =>
    obtain ⟨y, hy12, rfl, hJ⟩ := hrel
    clear j8
    by_cases hyt : y < 12
    · have hyti : (y : Int) < 12 := by omega
      have HJ := (show Hid _ from hJ)
      clear hJ
      go_wp2_with fail
      obtain ⟨wo, hwo⟩ : ∃ x, x = wr := ⟨_, rfl⟩
      rw [← hwo] at HJ ⊢
      clear hwo
      go_loopw [29] (fun i wr => ∃ x : Nat, x ≤ 12 ∧ i = .int .i64 x ∧ RJ W2 l rb A (5 + (y * 12 + x)) (rdT t 4 (y * 12 + x) 0) (.slice none 0 0) wr) (fun i _ => 12 - (intOf i).toNat)
      case atStart => exact ⟨0, by omega, rfl, HJ.out⟩
      case round =>
        obtain ⟨x, hx12, rfl, hJx⟩ := hrel
        by_cases hxt : x < 12
        · have hxti : (x : Int) < 12 := by omega
          have hJd : RJ W2 l rb A (5 + (y * 12 + x)) (rdT t 4 (y * 12 + x) 0) (.slice none 0 0) wr.drew := ⟨⟨hJx.rd.all⟩, hJx.g, hJx.fr.drew⟩
          have HJD := (show Hid _ from hJd)
          have hnb := HRD.out.nb (y * 12 + x) (by omega)
          have HNB := (show Hid _ from hnb)
          clear hJx hJd hnb
          go_wp2_with fail
          go_region_with (first | (go_at_call 36; refine Calls.mono (HNX.out _ HNB.out HJD.out hne) ?_; rintro e w3 ⟨rfl, jn⟩; have cn := jn.cell (4 + (y * 12 + x)) (by omega); have zn := jn.fz (4 + (y * 12 + x)); rw [← Nat.add_assoc] at cn zn))
          all_goals
            go_wp2_with fail
            go_roundw
            case rel =>
              refine ⟨x + 1, hxt, by go_num, ?_⟩
              rw [show 4 + y * 12 + x = 4 + (y * 12 + x) by omega]
              exact jn.put hne (4 + (y * 12 + x)) _ (by omega) (rd_pb t _ _) (by
                unfold tcell rdT
                rw [if_neg (by omega), if_neg (by omega), if_neg (by omega), if_neg (by omega), if_pos (by omega)]
                dsimp only
                rw [if_pos (by omega), show 4 + (y * 12 + x) - 4 = y * 12 + x by omega])
            case measure => simp [intOf]; omega
        · have hxti : ¬ (x : Int) < 12 := by omega
          have hx2 : x = 12 := by omega
          have HX := (show Hid _ from hx2)
          clear hx2
          go_wp2_with fail
          go_roundw
          case rel => exact ⟨y + 1, hyt, by go_num, by have := HX.out; rw [this, show y * 12 + 12 = (y + 1) * 12 by omega] at hJx; exact hJx⟩
          case measure => simp [intOf]; omega
    · have hyti : ¬ (y : Int) < 12 := by omega
      have hy2 : y = 12 := by omega
      rw [hy2] at hJ
      have HY := (show Hid _ from hy2)
      clear hy2
      go_wp2_with fail
      refine Calls.mono (HNX.out _ HRD.out.nl hJ hne) ?_
      rintro e w11 ⟨rfl, jl⟩
      dsimp only
      have hlen := hok.len
      dsimp only at hlen
      have hlei : ¬ (100 : Int) < (t.us.length : Int) := by omega
      clear hJ
      go_wp2_with fail
      obtain ⟨inf, hi0, hz0, hz1, hz2⟩ := info_parts infoU
      have hAl : A < W2.heap.size := by
        rw [HA.out]
        exact HAL.out
      have hrl : rb < W2.heap.size := by have := HRL.out; have := HAL.out; omega
      have hnA : ∀ v : Value, (∀ b, v.ownBlock = some b → W2.heap.size ≤ b) → v.ownBlock ≠ some A ∧ v.ownBlock ≠ some rb := fun v hv => ⟨fun e => by have := hv A e; omega, fun e => by have := hv rb e; omega⟩
      have HnA := (show Hid _ from hnA)
      have HOK := (show Hid _ from hok)
      have HOS := (show Hid _ from hos)
      have HHA := (show Hid _ from hAl)
      clear hnA hok hos
      go_loopw [47] (fun i wr => ∃ (k : Nat) (pv : Value), k ≤ t.us.length ∧ i = .int .i64 k ∧ RJ W2 l rb A (150 + 11 * k) (rdT t 4 144 k) pv wr ∧ wr.ownsRow W2.heap.size 44 11 pv k ((t.us.take k).flatMap U.cells)) (fun i _ => t.us.length - (intOf i).toNat)
      case atStart => exact ⟨0, .slice none 0 0, by omega, rfl, jl, ⟨rfl, Or.inl ⟨rfl, rfl⟩⟩⟩
      case round =>
        obtain ⟨k, pv, hk, rfl, hJ, hown⟩ := hrel
        clear jl
        by_cases hlt : k < t.us.length
        · have hlti : (k : Int) < (t.us.length : Int) := by omega
          obtain ⟨u, hu⟩ : ∃ u, t.us[k]? = some u := ⟨t.us[k], List.getElem?_eq_getElem hlt⟩
          have hnu := HRD.out.nu k u hu
          have hJd : RJ W2 l rb A (150 + 11 * k) (rdT t 4 144 k) pv wr.drew := ⟨⟨hJ.rd.all⟩, hJ.g, hJ.fr.drew⟩
          have HUN : Hid (Calls Tryd.prog 37 #[.pointer (some ⟨rb, 0, none⟩)] wr.drew fun e w' => ∃ r, e = .returned r ∧ (r = u.val ∧ RJ W2 l rb A (150 + 11 * k + 11) (rdT t 4 144 k) pv w' ∧ Fr [rb] wr.drew w')) := Calls.mono (hJd.unit hne hl hnu) (fun e w' h => ⟨u.val, h.1, rfl, h.2⟩)
          have HTK : Hid ((t.us.take (k + 1)).flatMap U.cells = (t.us.take k).flatMap U.cells ++ u.cells) := by
            show _ = _
            obtain ⟨hl', rfl⟩ := List.getElem?_eq_some_iff.1 hu
            rw [List.take_succ_eq_append_getElem hl', List.flatMap_append]
            simp
          have hob : ∀ b, pv.ownBlock = some b → W2.heap.size ≤ b := fun b hb => own_base hown hb
          have HOB := (show Hid _ from hob)
          have HOW : Hid (wr.ownsRow W2.heap.size 44 11 pv k ((t.us.take k).flatMap U.cells)) := hown
          have hc := hJ.at148
          have hgA : A < wr.heap.size := lt_of_heap hJ.g
          clear hJ hJd hown hob hu hnu
          go_wp2_with fail
          go_region_law (first
            | (refine step_append_own rfl (.tmp 50) (.tmp 53) 41 rfl W2.heap.size 44 inf zeroU.val 11 88 Tryd.underlying41 hi0 hz0 hz1 hz2 rfl (by decide) pv k ((t.us.take k).flatMap U.cells) (by simp [Act.eval]) HO2.out ⟨w3.heap.size, 0, none⟩ 1 1 u.cells (by simp [Act.eval]) rfl (new_cells u w3) (by simp [Value.oneCell']) (by unfold maxLen; omega) (by omega) (by simp; omega) ?_; intro v' w4 hown' hgrow hat; obtain ⟨g', cap', rfl⟩ := own_shape hown' (by omega); have hgf := Fr.grow (S := pv.ownBlock.toList) (Fr.refl _ _) hgrow (fun g hg => Or.inl (by simp [hg])); have hc4 : w4.cell? ⟨A, 148, none⟩ = some pv := (hgf.cell A 148 (by simp; omega) (by have := (HnA.out pv HOB.out).1; simp; exact this)).trans ((((Fr.refl [] w3).alloc _).cell A 148 hA3 (by simp)).trans hc3); have hz4 : w4.frozen? ⟨A, 148, none⟩ = false := (hgf.frozen A 148 (by simp; omega) (by have := (HnA.out pv HOB.out).1; simp; exact this)).trans ((((Fr.refl [] w3).alloc _).frozen A 148 hA3 (by simp)).trans hz3))
            | (refine step_call1 rfl 37 51 90 rfl (.pointer (some ⟨rb, 0, none⟩)) rfl (fun _ => by kernel_rfl) HUN.out ?_; rintro r w3 ⟨rfl, ju, hfu⟩; have hc3 := ju.at148; have hz3 := ju.fz 148; have hA3 : A < w3.heap.size := lt_of_heap ju.g; have hs3 := ju.fr.size; have HO2 : Hid ((w3.alloc (.cells u.arr 44)).ownsRow W2.heap.size 44 11 pv k ((t.us.take k).flatMap U.cells)) := owns_fr HOW.out (Fr.alloc (S := [rb]) (Fr.trans (Fr.drew (Fr.refl [rb] wr)) hfu (by simp)) _) (fun b hb => by have := HOB.out b hb; simp; omega)))
          all_goals
            go_wp2_with fail
            go_roundw
            case rel =>
              obtain ⟨nA, nR⟩ := HnA.out pv HOB.out
              have hg1 : W2.heap.size ≤ g' := own_base hown' rfl
              have j4 : RJ W2 l rb A (150 + 11 * k + 11) (rdT t 4 144 k) pv w4 := by
                refine ⟨⟨?_⟩, ?_, (ju.fr.alloc _).grow hgrow (fun g hg => Or.inr (HOB.out g hg))⟩
                · exact hgf.heap (((Fr.refl [] w3).alloc _).heap0 ju.rd.all) (by simp; exact nR)
                · exact hgf.heap (((Fr.refl [] w3).alloc _).heap0 ju.g) (by simp; exact nA)
              refine ⟨k + 1, _, hlt, by go_num, j4.put (t' := rdT t 4 144 (k + 1)) (pv' := .slice (some ⟨g', 0, none⟩) (k + 1) cap') hne 148 _ (by omega) (rd_pp t _ _ _ _) rfl, ?_⟩
              rw [HTK.out]
              refine owns_fr hown' ((Fr.refl [A] w4).setCell _ _ (by simp)) (fun b hb => ?_)
              simp [Value.ownBlock] at hb
              have := HHA.out
              simp
              omega
            case measure => simp [intOf]; omega
        · have hlti : ¬ (k : Int) < (t.us.length : Int) := by omega
          have hke : k = t.us.length := by omega
          subst hke
          rw [List.take_length] at hown
          have hne0 : 0 < t.us.length := by
            have := HOK.out.bs
            dsimp only at this
            rcases Nat.eq_zero_or_pos t.us.length with e | e
            · rw [List.length_eq_zero_iff] at e
              rw [e] at this
              simp at this
            · exact e
          obtain ⟨pb, cap, rfl, hrow⟩ : ∃ pb cap, pv = .slice (some ⟨pb, 0, none⟩) t.us.length cap ∧ PRow wr pb cap t.us := by
            obtain ⟨pb, cap, h1, h2⟩ := PRow.of_owns hown rfl hne0
            exact ⟨pb, cap, h1, h2.2⟩
          have hpbl : W2.heap.size ≤ pb := own_base hown rfl
          have hgs : GS wr A pb cap t := by
            refine ⟨fun j hj => ?_, fun j => hJ.fz j, hrow, by omega, hne0, ?_, ?_⟩
            · rw [hJ.cell j hj, rd_end t _ _ j hj]
            · have := HHA.out; omega
            · have := HHA.out; omega
          have hdn := done_any rb _ _ wr hJ.rd
          rw [HRD.out.ne] at hdn
          have HDN := (show Hid _ from hdn)
          have HMB : Hid (∀ w', Fr [] wr w' → Calls Tryd.prog 39 #[.pointer (some ⟨A, 0, none⟩)] w' fun e w'' => e = .returned (.bool true) ∧ Fr [] w' w'') := fun w' hf => mayBe_any A pb cap t w' (hgs.fr hf (by simp) (by simp)) HOK.out HOS.out
          have HWN : Hid (∀ w', Fr [] wr w' → Calls Tryd.prog 23 #[.pointer (some ⟨A, 0, none⟩)] w' fun e w'' => e = .returned (.int .i64 (winI t.us)) ∧ Fr [] w' w'') := fun w' hf => winner_any A pb cap t.us w' (hgs.gv.fr0 hf)
          have hwr2 : Fr [rb, A] W2 wr := hJ.fr
          have HGL : Hid (wr.heap[A]? = some (.cells (gameL t (.slice (some ⟨pb, 0, none⟩) t.us.length cap)).toArray 64)) := by
            show _ = _
            rw [hJ.g]
            have : gameL (rdT t 4 144 t.us.length) (.slice (some ⟨pb, 0, none⟩) t.us.length cap) = gameL t (.slice (some ⟨pb, 0, none⟩) t.us.length cap) := by
              unfold gameL
              apply List.map_congr_left
              intro j hj
              exact rd_end t _ _ j (List.mem_range.1 hj)
            rw [this]
          clear hJ hown hdn hgs HNX HnA HOK HOS
          go_wp2_with fail
          refine Calls.mono HDN.out ?_
          rintro e w12 ⟨rfl, hf12⟩
          dsimp only
          go_wp2_with fail
          refine Calls.mono (HMB.out _ hf12) ?_
          rintro e w13 ⟨rfl, hf13⟩
          dsimp only
          have hf13' := hf12.then0 hf13
          go_wp2_with fail
          refine Calls.mono (HWN.out _ hf13') ?_
          rintro e w14 ⟨rfl, hf14⟩
          dsimp only
          have hf14' := hf13'.then0 hf14
          obtain ⟨gl, hgl⟩ : ∃ x, x = gameL t (.slice (some ⟨pb, 0, none⟩) t.us.length cap) := ⟨_, rfl⟩
          have hll : gl.length = 149 := by rw [hgl]; exact gameL_len _ _
          have HO : Hid (gl.toArray.all (·.oneCell') = true) := by
            show _ = _
            rw [hgl]; exact gameL_one _ _ _ _
          have HI : Hid ((Tryd.prog.info? 64).map (·.size) = some gl.toArray.size) := by
            show _ = _
            rw [infoGame, List.size_toArray, hll]
          have HZ : Hid (Tryd.zeroCells64.size = gl.toArray.size) := by
            show _ = _
            exact zcGame.trans (by simp [hll])
          have hga := HGL.out
          rw [← hgl] at hga
          have HG14 : Hid (w14.heap[A]? = some (.cells gl.toArray 64)) := hf14'.heap0 hga
          have HR14 : Hid (w14.heap[w.heap.size]? = some (.cells Tryd.zeroCells64 64)) := hf14'.heap0 (hwr2.heap hR2 (by simp; omega))
          have HGE := (show Hid _ from hgl)
          clear hll hga hgl HGL
          go_wp2_with (first | (refine wpList_load_row rfl 64 _ rfl A rfl 64 gl.toArray (0, 0) _ HG14.out Tryd.underlying64 rfl HI.out ?_) | (refine wpList_store_row rfl 64 _ _ rfl w.heap.size gl.toArray rfl rfl 64 Tryd.zeroCells64 HR14.out HI.out HZ.out HO.out ?_))
          have hend : Fr [] w w14 := (hw2.trans hwr2 (by simp; omega)).then0 hf14'
          have hpw : w.heap.size ≤ pb := by have := hw2.size; omega
          refine bodyPost_ret (v := .tuple #[.agg gl.toArray, .bool true]) (results_cell_tmp Tryd.results26 _ _ w.heap.size 64 gl.toArray (0, 0) _ _ rfl rfl (setRow_heap _ _ _ _ _ _ HR14.out) Tryd.underlying64 rfl HI.out) rfl ⟨pb, cap, by rw [HGE.out], ?_, hpw, hend.setRow _ _ (Or.inr (Nat.le_refl _))⟩
          have hp14 := hrow.fr hf14' (by simp)
          exact hp14.fr (((Fr.refl [w.heap.size] w14).setRow _ _ (Or.inl (by simp)))) (by simp; have := HHA.out; omega)
end Go.Proofs.YtapabahhfanmmaaDoor
/- A game is read. -/
namespace Go.Proofs.YtapabahhfanmmaaDoor
open Go.RowKit

set_option maxRecDepth 100000 in
set_option maxHeartbeats 2000000 in
theorem read_ok (t : T) (l : List UInt8) (w : World) (hrd : Reads l t) (hl : l.length ≤ 1000000) (hok : GOk t) (hos : OS t) (hw0 : 0 < w.heap.size) :
    Calls Tryd.prog 17 #[.string ⟨l.toArray⟩] w fun e w' => ∃ gb pb cap, e = .returned (.tuple #[.pointer (some ⟨gb, 0, none⟩), .int .i64 0]) ∧ GS w' gb pb cap t ∧ w.heap.size ≤ gb ∧ w.heap.size ≤ pb ∧ Fr [] w w' := by
  have HRS : Hid (∀ w', 0 < w'.heap.size → Calls Tryd.prog 26 #[.string ⟨l.toArray⟩] w' fun e w'' => ∃ pb cap, e = .returned (.tuple #[.agg (gameL t (.slice (some ⟨pb, 0, none⟩) t.us.length cap)).toArray, .bool true]) ∧ PRow w'' pb cap t.us ∧ w'.heap.size ≤ pb ∧ Fr [] w' w'') := fun w' h0 => readState_ok t l w' hrd hl hok hos h0
  have hlen : t.us.length ≤ 100 := hok.len
  have hne : 0 < t.us.length := by
    have := hok.bs
    dsimp only at this
    rcases Nat.eq_zero_or_pos t.us.length with e | e
    · rw [List.length_eq_zero_iff] at e
      rw [e] at this
      simp at this
    · exact e
  clear hrd hok hos
  go_enter Tryd.func17, Tryd.ntmps17
  go_wp2_with fail
  refine Calls.mono (HRS.out _ hw0) ?_
  rintro e w1 ⟨pb, cap, rfl, hrow, hpb, hf1⟩
  dsimp only
  obtain ⟨gl, hgl⟩ : ∃ x, x = gameL t (.slice (some ⟨pb, 0, none⟩) t.us.length cap) := ⟨_, rfl⟩
  rw [← hgl]
  have hll : gl.length = 149 := by rw [hgl]; exact gameL_len _ _
  have HO : Hid (gl.toArray.all (·.oneCell') = true) := by
    show _ = _
    rw [hgl]; exact gameL_one _ _ _ _
  have HGE := (show Hid _ from hgl)
  have HL2 : Hid ((Tryd.prog.info? 64).map (·.size) = some gl.toArray.size) := by
    show _ = _
    rw [infoGame, List.size_toArray, hll]
  have HL3 : Hid (Tryd.zeroCells64.size = gl.toArray.size) := by
    show _ = _
    exact zcGame.trans (by simp [hll])
  have HBS : Hid (Tryd.prog.built 66 [(0, .agg gl.toArray)] = some gl.toArray) := built_sk _ (by simp [hll])
  have HH : Hid (((w1.alloc (.cells Tryd.zeroCells64 64)).setRow w1.heap.size gl.toArray).heap[w1.heap.size]? = some (.cells gl.toArray 64)) := setRow_heap _ _ _ _ _ _ (hp_new _ _)
  clear hgl hll HRS
  go_wp2_with (first | (refine wpList_store_row rfl 64 _ _ rfl w1.heap.size gl.toArray rfl rfl 64 Tryd.zeroCells64 (hp_new w1 _) HL2.out HL3.out HO.out ?_) | (refine wpList_load_row rfl 64 _ rfl w1.heap.size rfl 64 gl.toArray (0, 0) _ HH.out Tryd.underlying64 rfl HL2.out ?_) | (refine wpList_build1 rfl 66 0 (.tmp 13) rfl (.agg gl.toArray) rfl gl.toArray HBS.out ?_))
  have hs1 := hf1.size
  have hF : Fr [] w (((w1.alloc (.cells Tryd.zeroCells64 64)).setRow w1.heap.size gl.toArray).alloc (.cells gl.toArray 66)) := ((hf1.alloc _).setRow _ _ (Or.inr hs1)).alloc _
  have h1F : Fr [] w1 (((w1.alloc (.cells Tryd.zeroCells64 64)).setRow w1.heap.size gl.toArray).alloc (.cells gl.toArray 66)) := (((Fr.refl _ _).alloc _).setRow _ _ (Or.inr (Nat.le_refl _))).alloc _
  have hh : (((w1.alloc (.cells Tryd.zeroCells64 64)).setRow w1.heap.size gl.toArray).alloc (.cells gl.toArray 66)).heap[w1.heap.size + 1]? = some (.cells gl.toArray 66) := hp_at _ _ _ (by simp)
  have hpl := hrow.lt
  refine bodyPost_ret (v := .tuple #[.pointer (some ⟨w1.heap.size + 1, 0, none⟩), .int .i64 0]) (by simp [results, Tryd.results17, go_sem]) rfl ⟨w1.heap.size + 1, pb, cap, rfl, ⟨fun k hk => ?_, fun k => frozen_of_heap hh, hrow.fr h1F (by simp), by omega, hne, by omega, by omega, by omega⟩, by omega, hpb, hF⟩
  rw [cell_of_heap hh, HGE.out]
  simp only [List.getElem?_toArray]
  unfold gameL
  rw [List.getElem?_map, List.getElem?_range hk]
  rfl
end Go.Proofs.YtapabahhfanmmaaDoor
