import Derived.Test.YtapabahhfanmmaaGreatDoorCFrame
import Derived.Test.YtapabahhfanmmaaGreatDoorCCmd
import Derived.Test.YtapabahhfanmmaaGreatDoorCPlay
import Derived.Test.YtapabahhfanmmaaGreatDoorCReadU
import Derived.Test.YtapabahhfanmmaaGreatDoorCBuild
import Derived.Test.YtapabahhfanmmaaGreatDoorCCmds2
/- A command that is written. -/
namespace Go.Proofs.YtapabahhfanmmaaGreatDoor
open Go.RowKit

def minC (c : Cm) : Int := min (min (min (min c.unit c.what) c.x) c.y) c.target
def maxC (c : Cm) : Int := max (max (max (max c.unit c.what) c.x) c.y) c.target
/-- A command with a number that cannot be written becomes one of noughts. -/
def writeC (c : Cm) : Cm := if minC c < 0 ∨ 1000000000 < maxC c then ⟨0, 0, 0, 0, 0⟩ else c
theorem write_bd (c : Cm) : (0 ≤ (writeC c).unit ∧ (writeC c).unit ≤ 1000000000) ∧ (0 ≤ (writeC c).what ∧ (writeC c).what ≤ 1000000000) ∧ (0 ≤ (writeC c).x ∧ (writeC c).x ≤ 1000000000) ∧ (0 ≤ (writeC c).y ∧ (writeC c).y ≤ 1000000000) ∧ (0 ≤ (writeC c).target ∧ (writeC c).target ≤ 1000000000) := by
  unfold writeC
  split
  · simp
  · rename_i h
    unfold minC maxC at h
    omega
theorem run_min5 (ts : Array TypeId) (t : TypeId) (a b c d e : Int) (w : World) : (Builtin.min_ ts t #[.int .i64 a, .int .i64 b, .int .i64 c, .int .i64 d, .int .i64 e]).run Tryz.prog w = .ok (.int .i64 (min (min (min (min a b) c) d) e)) w := by
  have h : ∀ x y : Int, (if y < x then y else x) = min x y := fun x y => by omega
  simp [Builtin.min_, Builtin.min2, h]
theorem run_max5 (ts : Array TypeId) (t : TypeId) (a b c d e : Int) (w : World) : (Builtin.max_ ts t #[.int .i64 a, .int .i64 b, .int .i64 c, .int .i64 d, .int .i64 e]).run Tryz.prog w = .ok (.int .i64 (max (max (max (max a b) c) d) e)) w := by
  have h : ∀ x y : Int, (if x < y then y else x) = max x y := fun x y => by omega
  simp [Builtin.max_, Builtin.max2, h]
theorem wpList_min5 {ops : Array Oper} {rest : List Oper} {o : Oper} {act : Act} {w : World} {Q : Exit → Act → World → Prop} (hgd : o.guard = none) (x1 x2 x3 x4 x5 : Operand) (ts : Array TypeId) (ho : o.op = .call { callee := .builtin .min, args := #[x1, x2, x3, x4, x5], argTypes := ts })
    (a b c d e : Int) (h1 : act.eval x1 = .int .i64 a) (h2 : act.eval x2 = .int .i64 b) (h3 : act.eval x3 = .int .i64 c) (h4 : act.eval x4 = .int .i64 d) (h5 : act.eval x5 = .int .i64 e) (M : Int) (hM : min (min (min (min a b) c) d) e = M)
    (h : wpList Tryz.prog ops Q rest (act.put o.dst (.int .i64 M)) w) : wpList Tryz.prog ops Q (o :: rest) act w := by
  subst hM
  refine wpList_plain hgd fun K hK => ?_
  have hr := run_min5 ts o.type a b c d e w
  unfold Oper.wp execOp
  simp only [ho, resolve, invoke, builtin, Sem.run_bind, Sem.run_pure, Result.andThen_ok, List.map_toArray, List.map_cons, List.map_nil, h1, h2, h3, h4, h5, hr]
  exact hK _ _ h
theorem wpList_max5 {ops : Array Oper} {rest : List Oper} {o : Oper} {act : Act} {w : World} {Q : Exit → Act → World → Prop} (hgd : o.guard = none) (x1 x2 x3 x4 x5 : Operand) (ts : Array TypeId) (ho : o.op = .call { callee := .builtin .max, args := #[x1, x2, x3, x4, x5], argTypes := ts })
    (a b c d e : Int) (h1 : act.eval x1 = .int .i64 a) (h2 : act.eval x2 = .int .i64 b) (h3 : act.eval x3 = .int .i64 c) (h4 : act.eval x4 = .int .i64 d) (h5 : act.eval x5 = .int .i64 e) (M : Int) (hM : max (max (max (max a b) c) d) e = M)
    (h : wpList Tryz.prog ops Q rest (act.put o.dst (.int .i64 M)) w) : wpList Tryz.prog ops Q (o :: rest) act w := by
  subst hM
  refine wpList_plain hgd fun K hK => ?_
  have hr := run_max5 ts o.type a b c d e w
  unfold Oper.wp execOp
  simp only [ho, resolve, invoke, builtin, Sem.run_bind, Sem.run_pure, Result.andThen_ok, List.map_toArray, List.map_cons, List.map_nil, h1, h2, h3, h4, h5, hr]
  exact hK _ _ h
theorem infoCmd : (Tryz.prog.info? 81).map (·.size) = some 5 := by kernel_rfl

set_option maxRecDepth 100000 in
set_option maxHeartbeats 2000000 in
theorem writable_any (c : Cm) (w : World) :
    Calls Tryz.prog 122 #[c.val] w fun e w' => e = .returned (writeC c).val ∧ Fr [] w w' := by
  obtain ⟨mn, hmn⟩ : ∃ x, minC c = x := ⟨_, rfl⟩
  obtain ⟨mx, hmx⟩ : ∃ x, maxC c = x := ⟨_, rfl⟩
  have HMN : Hid (min (min (min (min c.unit c.what) c.x) c.y) c.target = mn) := hmn
  have HMX : Hid (max (max (max (max c.unit c.what) c.x) c.y) c.target = mx) := hmx
  have HW : Hid (writeC c = if mn < 0 ∨ 1000000000 < mx then ⟨0, 0, 0, 0, 0⟩ else c) := by show _ = _; unfold writeC; rw [hmn, hmx]
  clear hmn hmx
  by_cases h0 : mn < 0
  · have HR : Hid (writeC c = ⟨0, 0, 0, 0, 0⟩) := by show _ = _; rw [HW.out, if_pos (Or.inl h0)]
    go_enter Tryz.func122, Tryz.ntmps122
    go_wp2_with (first | (refine wpList_min5 rfl _ _ _ _ _ _ rfl c.unit c.what c.x c.y c.target rfl rfl rfl rfl rfl mn HMN.out ?_) | (refine wpList_max5 rfl _ _ _ _ _ _ rfl c.unit c.what c.x c.y c.target rfl rfl rfl rfl rfl mx HMX.out ?_))
    exact bodyPost_ret (v := Cm.val ⟨0, 0, 0, 0, 0⟩) (by simp [results, Tryz.results122, go_sem]) rfl ⟨by rw [HR.out], ((Fr.refl _ _).alloc _).alloc _⟩
  · by_cases h1 : 1000000000 < mx
    · have HR : Hid (writeC c = ⟨0, 0, 0, 0, 0⟩) := by show _ = _; rw [HW.out, if_pos (Or.inr h1)]
      go_enter Tryz.func122, Tryz.ntmps122
      go_wp2_with (first | (refine wpList_min5 rfl _ _ _ _ _ _ rfl c.unit c.what c.x c.y c.target rfl rfl rfl rfl rfl mn HMN.out ?_) | (refine wpList_max5 rfl _ _ _ _ _ _ rfl c.unit c.what c.x c.y c.target rfl rfl rfl rfl rfl mx HMX.out ?_))
      exact bodyPost_ret (v := Cm.val ⟨0, 0, 0, 0, 0⟩) (by simp [results, Tryz.results122, go_sem]) rfl ⟨by rw [HR.out], ((Fr.refl _ _).alloc _).alloc _⟩
    · have HR : Hid (writeC c = c) := by show _ = _; rw [HW.out, if_neg (by omega)]
      go_enter Tryz.func122, Tryz.ntmps122
      go_wp2_with (first | (refine wpList_min5 rfl _ _ _ _ _ _ rfl c.unit c.what c.x c.y c.target rfl rfl rfl rfl rfl mn HMN.out ?_) | (refine wpList_max5 rfl _ _ _ _ _ _ rfl c.unit c.what c.x c.y c.target rfl rfl rfl rfl rfl mx HMX.out ?_))
      exact bodyPost_ret (v := c.val) (by simp [results, Tryz.results122, go_sem]) rfl ⟨by rw [HR.out], ((Fr.refl _ _).alloc _).alloc _⟩
end Go.Proofs.YtapabahhfanmmaaGreatDoor
/- Commands are put behind a text. -/
namespace Go.Proofs.YtapabahhfanmmaaGreatDoor
open Go.RowKit

abbrev Cm.nums (c : Cm) : List Int := [c.unit, c.what, c.x, c.y, c.target]
def cmdsN (l : List Cm) : List Int := (l.length : Int) :: l.flatMap fun c => (writeC c).nums
theorem cmdsN_take (l : List Cm) (k : Nat) (c : Cm) (h : l[k]? = some c) : (l.take (k + 1)).flatMap (fun c => (writeC c).nums) = (l.take k).flatMap (fun c => (writeC c).nums) ++ (writeC c).nums := by
  obtain ⟨hl, rfl⟩ := List.getElem?_eq_some_iff.1 h
  rw [List.take_succ_eq_append_getElem hl, List.flatMap_append]
  simp
theorem write_mem (c : Cm) : ∀ n ∈ (writeC c).nums, 0 ≤ n ∧ n ≤ 1000000000 := by
  obtain ⟨h1, h2, h3, h4, h5⟩ := write_bd c
  intro n hn
  simp only [List.mem_cons, List.not_mem_nil, or_false] at hn
  rcases hn with rfl | rfl | rfl | rfl | rfl <;> assumption
theorem flat5_len : ∀ l : List Cm, (l.flatMap fun c => (writeC c).nums).length = 5 * l.length
  | [] => rfl
  | c :: l => by
    rw [List.flatMap_cons, List.length_append, flat5_len l]
    simp
    omega
theorem cmds_le (l : List Cm) (k : Nat) : (flatB ((l.take k).flatMap fun c => (writeC c).nums)).length ≤ 25 * l.length := by
  have h1 := flatB_len ((l.take k).flatMap fun c => (writeC c).nums) (fun n hn => by
    obtain ⟨c, _, hc⟩ := List.mem_flatMap.1 hn
    exact (write_mem c n hc).2)
  rw [flat5_len] at h1
  have h2 : (l.take k).length ≤ l.length := by simp; omega
  omega
/-- A list of commands that lies below the text. -/
def CmdB (w : World) (base : Nat) (v : Value) (l : List Cm) : Prop := (∃ ao lc, v = .slice ao 0 lc ∧ l = []) ∨ ∃ lb lc, v = .slice (some ⟨lb, 0, none⟩) l.length lc ∧ Cmds w lb l ∧ lb < base ∧ lb < w.heap.size
theorem ApM.trans {w : World} {base : Nat} {tv : Value} {l l' : List UInt8} {v v' : Value} {w1 w2 w3 : World} (h : ApM w base tv l v w1) (hf : Fr [] w1 w2) (k : ApM w2 base v l' v' w3) : ApM w base tv l' v' w3 := by
  have hs := h.fr.size
  have hs2 := hf.size
  refine ⟨k.own, (h.fr.then0 hf).trans k.fr (fun i hi => ?_), ?_⟩
  · have hi' : v.ownBlock = some i := by simpa [obM] using hi
    rcases h.blk with e | ⟨b, e, hb⟩
    · exact Or.inl (by rw [e] at hi'; simp [obM, hi'])
    · rw [e] at hi'; cases hi'; exact Or.inr hb
  · rcases k.blk with e | ⟨b, e, hb⟩
    · rw [e]; exact h.blk
    · exact Or.inr ⟨b, e, by omega⟩

set_option maxRecDepth 100000 in
set_option maxHeartbeats 4000000 in
theorem appendCmds_any (base : Nat) (tv lv : Value) (l : List UInt8) (cs : List Cm) (w : World) (hown : ownM w base tv l) (hcs : CmdB w base lv cs) (hl : l.length ≤ 30000) (hcl : cs.length ≤ 1000) (hbw : base ≤ w.heap.size) :
    Calls Tryz.prog 80 #[tv, lv] w fun e w' => ∃ v, e = .returned v ∧ ApM w base tv (l ++ flatB (cmdsN cs)) v w' := by
  obtain ⟨a1, lc, rfl⟩ : ∃ a1 lc, lv = .slice a1 cs.length lc := by
    rcases hcs with ⟨ao, lc, rfl, rfl⟩ | ⟨lb, lc, rfl, _⟩
    · exact ⟨_, _, rfl⟩
    · exact ⟨_, _, rfl⟩
  have HC : Hid (CmdB w base (.slice a1 cs.length lc) cs) := hcs
  have HOW : Hid (ownM w base tv l) := hown
  clear hcs hown
  go_enter Tryz.func80, Tryz.ntmps80
  go_wp2_with fail
  have hAp := appendM_any base w.heap.size 0 1 tv l [(cs.length : Int)] (w.alloc (.cells #[ii (cs.length : Int)] 3)) (HOW.out.fr ((Fr.refl [] w).alloc _) (by simp)) (fun n hn => by
      have : n = (cs.length : Int) := by simpa using hn
      omega)
    (fun j hj => by
      have hj' : j = 0 := by simpa using hj
      subst hj'
      rw [cell_of_heap (hp_new w _)]
      rfl)
    (fun e => by have := (HOW.out.base e).2; omega) (by omega) (by simp) (by simp; omega) (by simp)
  refine Calls.mono hAp ?_
  rintro e w1 ⟨v1, rfl, hA1⟩
  dsimp only
  have hA : ApM w base tv (l ++ flatB [(cs.length : Int)] ++ flatB ((cs.take 0).flatMap fun c => (writeC c).nums)) v1 w1 := by
    have := (ApM.start HOW.out).trans ((Fr.refl [] w).alloc _) hA1
    simpa [flatB] using this
  have HA1 := (show Hid _ from hA)
  clear hAp hA1 hA
  go_wp2_with fail
  go_loopw [0, 14] (fun v i wr => ∃ k : Nat, k ≤ cs.length ∧ i = .int .i64 k ∧ ApM w base tv (l ++ flatB [(cs.length : Int)] ++ flatB ((cs.take k).flatMap fun c => (writeC c).nums)) v wr) (fun _ i _ => cs.length - (intOf i).toNat)
  case atStart => exact ⟨0, by omega, rfl, HA1.out⟩
  case round =>
    obtain ⟨k, hk, rfl, hA⟩ := hrel
    clear HA1
    by_cases hlt : k < cs.length
    · have hlti : (k : Int) < (cs.length : Int) := by omega
      obtain ⟨c, hc⟩ : ∃ c, cs[k]? = some c := ⟨cs[k], List.getElem?_eq_getElem hlt⟩
      obtain ⟨lb, rfl, hcm⟩ : ∃ lb, a1 = some ⟨lb, 0, none⟩ ∧ Cmds wr lb cs := by
        rcases HC.out with ⟨ao, lc', e1, e2⟩ | ⟨lb, lc', e1, h1, h2, h3⟩
        · rw [e2] at hlt; simp at hlt
        · refine ⟨lb, by simpa using congrArg (fun v : Value => match v with | .slice a _ _ => a | _ => none) e1, h1.fr hA.fr (fun hm => ?_)⟩
          have : tv.ownBlock = some lb := by simpa [obM] using hm
          have := (HOW.out.base this).1
          omega
      obtain ⟨c0, c1, c2, c3, c4⟩ := hcm.at hc
      have HTK := (show Hid _ from cmdsN_take cs k c hc)
      have hfl := cmds_le cs k
      have HA := (show Hid _ from hA)
      clear hcm hc hA
      go_wp2_with fail
      refine Calls.mono (writable_any c _) ?_
      rintro e w2 ⟨rfl, hf2⟩
      dsimp only
      have hh := hf2.heap0 (hp_new wr (.cells #[ii c.unit, ii c.what, ii c.x, ii c.y, ii c.target] 81))
      have HWM := (show Hid _ from write_mem c)
      obtain ⟨d, hd⟩ : ∃ d, writeC c = d := ⟨_, rfl⟩
      rw [hd] at HTK HWM ⊢
      have HI : Hid ((Tryz.prog.info? 81).map (·.size) = some (#[ii d.unit, ii d.what, ii d.x, ii d.y, ii d.target] : Array Value).size) := by show _ = some 5; exact infoCmd
      have HO : Hid ((#[ii d.unit, ii d.what, ii d.x, ii d.y, ii d.target] : Array Value).all (·.oneCell') = true) := by show _ = _; simp [Value.oneCell']
      have HZ : Hid ((#[ii c.unit, ii c.what, ii c.x, ii c.y, ii c.target] : Array Value).size = (#[ii d.unit, ii d.what, ii d.x, ii d.y, ii d.target] : Array Value).size) := by show _ = _; rfl
      have HH := (show Hid _ from hh)
      have hwr : Fr [] wr w2 := ((Fr.refl [] wr).alloc _).then0 hf2
      have hbl : wr.heap.size < w2.heap.size := lt_of_heap hh
      clear hd hf2 hh c0 c1 c2 c3 c4
      obtain ⟨W3, hW3⟩ : ∃ W, W = w2.setRow wr.heap.size #[ii d.unit, ii d.what, ii d.x, ii d.y, ii d.target] := ⟨_, rfl⟩
      have h3 : W3.heap[wr.heap.size]? = some (.cells #[ii d.unit, ii d.what, ii d.x, ii d.y, ii d.target] 81) := by rw [hW3]; exact setRow_heap _ _ _ _ _ _ HH.out
      have hf3 : Fr [] wr W3 := by rw [hW3]; exact hwr.setRow _ _ (Or.inr (Nat.le_refl _))
      have e0 : W3.cell? ⟨wr.heap.size, 0, none⟩ = some (ii d.unit) := cell_of_heap h3
      have e1 : W3.cell? ⟨wr.heap.size, 1, none⟩ = some (ii d.what) := cell_of_heap h3
      have e2 : W3.cell? ⟨wr.heap.size, 2, none⟩ = some (ii d.x) := cell_of_heap h3
      have e3 : W3.cell? ⟨wr.heap.size, 3, none⟩ = some (ii d.y) := cell_of_heap h3
      have e4 : W3.cell? ⟨wr.heap.size, 4, none⟩ = some (ii d.target) := cell_of_heap h3
      rw [hW3] at e0 e1 e2 e3 e4
      have HW3 := (show Hid _ from hW3)
      clear hW3 h3
      go_wp2_with (refine wpList_store_row rfl 81 _ _ rfl wr.heap.size #[ii d.unit, ii d.what, ii d.x, ii d.y, ii d.target] rfl rfl 81 #[ii c.unit, ii c.what, ii c.x, ii c.y, ii c.target] HH.out HI.out HZ.out HO.out ?_)
      rw [← HW3.out]
      have hsz3 : w2.heap.size = W3.heap.size := by rw [HW3.out]; simp [World.setRow]
      rw [hsz3]
      have hO3 := HA.out.own.fr hf3 (by simp)
      have hlt3 : ∀ b, u0.ownBlock = some b → b < W3.heap.size := fun b hb => Nat.lt_of_lt_of_le (HA.out.own.base hb).2 hf3.size
      have hbw3 : base ≤ W3.heap.size := Nat.le_trans hbw (Nat.le_trans HA.out.fr.size hf3.size)
      have hll : (l ++ flatB [(cs.length : Int)] ++ flatB ((cs.take k).flatMap fun c => (writeC c).nums)).length ≤ 100000 := by
        have h1 := flatB_len [(cs.length : Int)] (fun n hn => by have : n = (cs.length : Int) := by simpa using hn
                                                                 omega)
        rw [List.length_append, List.length_append]
        simp at h1
        omega
      have hAp2 := appendM_any base W3.heap.size 0 5 u0 _ [d.unit, d.what, d.x, d.y, d.target] (W3.alloc (.cells #[ii d.unit, ii d.what, ii d.x, ii d.y, ii d.target] 3)) (hO3.fr ((Fr.refl [] W3).alloc _) (by simp)) HWM.out
        (fun j hj => by
          rw [cell_of_heap (hp_new W3 _), Nat.zero_add]
          have : j = 0 ∨ j = 1 ∨ j = 2 ∨ j = 3 ∨ j = 4 := by simp at hj; omega
          rcases this with rfl | rfl | rfl | rfl | rfl <;> rfl)
        (fun e => by have := hlt3 _ e; omega) hll (by simp) (by simp; omega) (by simp)
      refine Calls.mono hAp2 ?_
      rintro e w4 ⟨v4, rfl, hA4⟩
      dsimp only
      have hA5 := HA.out.trans (hf3.alloc _) hA4
      clear hAp2 hA4
      have HA5 := (show Hid _ from hA5)
      clear hA5
      go_wp2_with fail
      go_roundw
      case rel => exact ⟨k + 1, hlt, by go_num, by rw [HTK.out, flatB_append, ← List.append_assoc]; exact HA5.out⟩
      case measure => simp [intOf]; omega
    · have hlti : ¬ (k : Int) < (cs.length : Int) := by omega
      rw [List.take_of_length_le (by omega)] at hA
      have hE : l ++ flatB [(cs.length : Int)] ++ flatB (cs.flatMap fun c => (writeC c).nums) = l ++ flatB (cmdsN cs) := by
        unfold cmdsN
        rw [flatB_cons, List.append_assoc]
        simp [flatB]
      rw [hE] at hA
      have HA := (show Hid _ from hA)
      clear hA hE
      go_wp2_with fail
      go_ret
      exact ⟨_, rfl, HA.out⟩
end Go.Proofs.YtapabahhfanmmaaGreatDoor
/- A turn is told. -/
namespace Go.Proofs.YtapabahhfanmmaaGreatDoor
open Go.RowKit

def turnN (n : Int) (a b : List Cm) : List Int := n :: (cmdsN a ++ cmdsN b)
def turnB (n : Int) (a b : List Cm) : List UInt8 := flatB (turnN n a b)
theorem cmdsN_bd (l : List Cm) (hl : l.length ≤ 1000000000) : ∀ n ∈ cmdsN l, 0 ≤ n ∧ n ≤ 1000000000 := fun n hn => by
  unfold cmdsN at hn
  rcases List.mem_cons.1 hn with rfl | hn
  · omega
  · obtain ⟨c, _, hc⟩ := List.mem_flatMap.1 hn
    exact write_mem c n hc
theorem cmdsN_len (l : List Cm) : (cmdsN l).length = 1 + 5 * l.length := by
  unfold cmdsN
  rw [List.length_cons, flat5_len]
  omega
theorem cmdsB_len (l : List Cm) (hl : l.length ≤ 100) : (flatB (cmdsN l)).length ≤ 5 + 25 * l.length := by
  have := flatB_len (cmdsN l) (fun n hn => (cmdsN_bd l (by omega) n hn).2)
  rw [cmdsN_len] at this
  omega
theorem CmdV.low {w w' : World} {v : Value} {l : List Cm} (h : CmdV w v l) (hf : Fr [] w w') {base : Nat} (hb : w.heap.size ≤ base) : CmdB w' base v l := by
  rcases h with h | ⟨lb, lc, h1, h2, h3⟩
  · exact Or.inl h
  · exact Or.inr ⟨lb, lc, h1, h2.fr hf (by simp), by omega, Nat.lt_of_lt_of_le h3 hf.size⟩
theorem CmdB.fr {S : List Nat} {w w' : World} {v : Value} {l : List Cm} {base : Nat} (h : CmdB w base v l) (hf : Fr S w w') (hs : ∀ i ∈ S, base ≤ i) : CmdB w' base v l := by
  rcases h with h | ⟨lb, lc, h1, h2, h3, h4⟩
  · exact Or.inl h
  · exact Or.inr ⟨lb, lc, h1, h2.fr hf (fun hm => by have := hs lb hm; omega), h3, Nat.lt_of_lt_of_le h4 hf.size⟩
theorem CmdV.shape {w : World} {v : Value} {l : List Cm} (h : CmdV w v l) : ∃ ao lc, v = .slice ao l.length lc := by
  rcases h with ⟨ao, lc, rfl, rfl⟩ | ⟨lb, lc, rfl, _⟩
  · exact ⟨_, _, rfl⟩
  · exact ⟨_, _, rfl⟩

set_option maxRecDepth 100000 in
set_option maxHeartbeats 4000000 in
theorem tellTurn_any (n : Int) (lv1 lv2 : Value) (l1 l2 : List Cm) (w : World) (hn : 0 ≤ n ∧ n ≤ 1000000000) (h1 : CmdV w lv1 l1) (h2 : CmdV w lv2 l2) (hl1 : l1.length ≤ 100) (hl2 : l2.length ≤ 100) :
    Calls Tryz.prog 41 #[.agg #[ii n, lv1, lv2]] w fun e w' => e = .returned (.tuple #[.string ⟨(turnB n l1 l2).toArray⟩, .bool true]) ∧ Fr [] w w' := by
  obtain ⟨ao1, lc1, rfl⟩ := h1.shape
  obtain ⟨ao2, lc2, rfl⟩ := h2.shape
  obtain ⟨W1, hW1⟩ : ∃ W, W = w.alloc (.cells #[ii n, .slice ao1 l1.length lc1, .slice ao2 l2.length lc2] 106) := ⟨_, rfl⟩
  have hh1 : W1.heap[w.heap.size]? = some (.cells #[ii n, .slice ao1 l1.length lc1, .slice ao2 l2.length lc2] 106) := by rw [hW1]; exact hp_new _ _
  have hw1 : Fr [] w W1 := by rw [hW1]; exact (Fr.refl _ _).alloc _
  have hb1 := h1.low hw1 (base := W1.heap.size) hw1.size
  have hb2 := h2.low hw1 (base := W1.heap.size) hw1.size
  have HB1 : Hid (CmdB W1 W1.heap.size (.slice ao1 l1.length lc1) l1) := hb1
  have HB2 : Hid (CmdB W1 W1.heap.size (.slice ao2 l2.length lc2) l2) := hb2
  have HW1 := (show Hid _ from hW1)
  have hbl : w.heap.size < W1.heap.size := lt_of_heap hh1
  clear h1 h2 hb1 hb2 hW1
  go_enter Tryz.func41, Tryz.ntmps41
  go_wp2_with fail
  rw [← HW1.out]
  have hsz1 : w.heap.size + 1 = W1.heap.size := by rw [HW1.out]; simp
  rw [hsz1]
  have hAp := appendM_any W1.heap.size W1.heap.size 0 1 (.slice none 0 0) [] [n] (W1.alloc (.cells #[ii n] 3)) (ownM_nil _ _) (fun m hm => by
      have : m = n := by simpa using hm
      omega)
    (fun j hj => by
      have hj' : j = 0 := by simpa using hj
      subst hj'
      rw [cell_of_heap (hp_new W1 _)]
      rfl)
    (by simp [Value.ownBlock]) (by simp) (by simp) (by simp) (by simp)
  refine Calls.mono hAp ?_
  rintro e w2 ⟨v2, rfl, hA2⟩
  dsimp only
  have hf2 : Fr [] W1 w2 := ((Fr.refl [] W1).alloc _).trans hA2.fr (by simp [obM, Value.ownBlock])
  have hO2 : ownM w2 W1.heap.size v2 (flatB [n]) := hA2.own
  have hh2 := hf2.heap0 hh1
  have d1 : w2.cell? ⟨w.heap.size, 1, none⟩ = some (.slice ao1 l1.length lc1) := cell_of_heap hh2
  have hn1 : (flatB [n]).length ≤ 5 := by
    have := flatB_len [n] (fun m hm => by have : m = n := by simpa using hm
                                          omega)
    simpa using this
  have hAq := appendCmds_any W1.heap.size v2 (.slice ao1 l1.length lc1) (flatB [n]) l1 w2 hO2 (HB1.out.fr hf2 (by simp)) (by omega) (by omega) hf2.size
  have HO2 : Hid (ownM w2 W1.heap.size v2 (flatB [n])) := hO2
  have HQ := (show Hid _ from hAq)
  clear hAp hA2 hO2 hsz1 hAq
  go_wp2_with fail
  refine Calls.mono HQ.out ?_
  rintro e w3 ⟨v3, rfl, hA3⟩
  dsimp only
  have hge : ∀ i ∈ obM v2, W1.heap.size ≤ i := fun i hi => (HO2.out.base (show v2.ownBlock = some i by simpa [obM] using hi)).1
  have hf3 : Fr [] W1 w3 := hf2.trans hA3.fr (fun i hi => Or.inr (hge i hi))
  have hh3 := hf3.heap0 hh1
  have d2 : w3.cell? ⟨w.heap.size, 2, none⟩ = some (.slice ao2 l2.length lc2) := cell_of_heap hh3
  have hc1 := cmdsB_len l1 hl1
  have hAr := appendCmds_any W1.heap.size v3 (.slice ao2 l2.length lc2) (flatB [n] ++ flatB (cmdsN l1)) l2 w3 hA3.own (HB2.out.fr hf3 (by simp)) (by rw [List.length_append]; omega) (by omega) hf3.size
  have HO3 : Hid (ownM w3 W1.heap.size v3 (flatB [n] ++ flatB (cmdsN l1))) := hA3.own
  have HR := (show Hid _ from hAr)
  clear HQ hA3 hAr d1
  go_wp2_with fail
  refine Calls.mono HR.out ?_
  rintro e w4 ⟨v4, rfl, hA4⟩
  dsimp only
  have hge3 : ∀ i ∈ obM v3, W1.heap.size ≤ i := fun i hi => (HO3.out.base (show v3.ownBlock = some i by simpa [obM] using hi)).1
  have hf4 : Fr [] W1 w4 := hf3.trans hA4.fr (fun i hi => Or.inr (hge3 i hi))
  have hE : flatB [n] ++ flatB (cmdsN l1) ++ flatB (cmdsN l2) = turnB n l1 l2 := by
    unfold turnB turnN
    rw [flatB_cons n (cmdsN l1 ++ cmdsN l2), flatB_append, flatB_cons n [], flatB_nil, List.append_nil, List.append_assoc]
  have hO4 := hA4.own
  rw [hE] at hO4
  have hc2 := cmdsB_len l2 hl2
  have hlt : (turnB n l1 l2).length ≤ 40000 := by
    rw [← hE, List.length_append, List.length_append]
    omega
  have hstr := hO4.string
  obtain ⟨T_, hT⟩ : ∃ x, x = turnB n l1 l2 := ⟨_, rfl⟩
  rw [← hT] at hO4 hlt hstr
  have HT := (show Hid _ from hT)
  obtain ⟨a4, lc4, rfl⟩ : ∃ a4 lc4, v4 = .slice a4 T_.length lc4 := by
    rcases hO4 with ⟨rfl, h0⟩ | ⟨g, cap, rfl, _⟩
    · exact ⟨_, _, by rw [h0]; rfl⟩
    · exact ⟨_, _, rfl⟩
  have hlti : ¬ (40000 : Int) < (T_.length : Int) := by omega
  have hend := hw1.then0 hf4
  clear HR hA4 hE hT hO4 d2 hlt
  go_wp2_with fail
  go_ret2
  exact ⟨by rw [← HT.out]; rfl, hend⟩
end Go.Proofs.YtapabahhfanmmaaGreatDoor
/- A turn is read. -/
namespace Go.Proofs.YtapabahhfanmmaaGreatDoor
open Go.RowKit

theorem infoC : (Tryz.prog.info? 81).map (fun i => (i.zero, i.size, i.bytes)) = some (some (.agg #[ii 0, ii 0, ii 0, ii 0, ii 0]), 5, 40) := by kernel_rfl
structure CJ (W : World) (l : List UInt8) (rb m : Nat) (v : Value) (k : Nat) (xs : List Value) (w : World) : Prop where
  rd : RdAt w rb (rdN l false m).1 (rdN l false m).2
  own : w.ownsRow W.heap.size 81 5 v k xs
  fr : Fr [rb] W w
theorem CJ.next {W : World} {l : List UInt8} {rb m : Nat} {v : Value} {k : Nat} {xs : List Value} {w : World} (h : CJ W l rb m v k xs w) (hrb : rb < W.heap.size) (hl : l.length ≤ 1000000) :
    Calls Tryz.prog 124 #[.pointer (some ⟨rb, 0, none⟩)] w fun e w' => e = .returned (.int .i64 (nth l false m)) ∧ CJ W l rb (m + 1) v k xs w' := by
  refine Calls.mono (next_nth rb l false m w h.rd hl) ?_
  rintro e w1 ⟨rfl, h1, h2⟩
  exact ⟨rfl, h1, owns_fr h.own h2 (fun b hb => by have := own_base h.own hb; simp; omega), h.fr.trans h2 (by simp)⟩
theorem CJ.alloc {W : World} {l : List UInt8} {rb m : Nat} {v : Value} {k : Nat} {xs : List Value} {w : World} (h : CJ W l rb m v k xs w) (o : Obj) : CJ W l rb m v k xs (w.alloc o) :=
  ⟨h.rd.fr ((Fr.refl [] w).alloc o) (by simp), owns_fr h.own ((Fr.refl [] w).alloc o) (by simp), h.fr.alloc o⟩
theorem new_cmd (d : Cm) (W : World) (j : Nat) (v : Value) (hu : d.cells[j]? = some v) : (W.alloc (.cells #[ii d.unit, ii d.what, ii d.x, ii d.y, ii d.target] 81)).cell? ((⟨W.heap.size, 0, none⟩ : Addr).add j) = some v := by
  rw [Addr.add_lit, Nat.zero_add, cell_of_heap (hp_new W _)]
  simpa using hu

set_option maxRecDepth 100000 in
set_option maxHeartbeats 4000000 in
theorem readCmds_any (rb : Nat) (l : List UInt8) (n : Nat) (ds : List Cm) (w : World) (h : RdAt w rb (rdN l false n).1 (rdN l false n).2) (hl : l.length ≤ 1000000) (h0 : nth l false n = ds.length) (hlen : ds.length ≤ 1000)
    (hd : ∀ i d, ds[i]? = some d → nth l false (n + 1 + 5 * i) = d.unit ∧ nth l false (n + 1 + 5 * i + 1) = d.what ∧ nth l false (n + 1 + 5 * i + 1 + 1) = d.x ∧ nth l false (n + 1 + 5 * i + 1 + 1 + 1) = d.y ∧ nth l false (n + 1 + 5 * i + 1 + 1 + 1 + 1) = d.target)
    (hok : ∀ i, i ≤ ds.length → (rdN l false (n + 1 + 5 * i)).2 = false) :
    Calls Tryz.prog 125 #[.pointer (some ⟨rb, 0, none⟩)] w fun e w' => ∃ v, e = .returned v ∧ CJ w l rb (n + 1 + 5 * ds.length) v ds.length (ds.flatMap Cm.cells) w' := by
  obtain ⟨inf, hi0, hz0, hz1, hz2⟩ := info_parts infoC
  have hrb := h.lt
  have hj0 : CJ w l rb n (.slice none 0 0) 0 [] w := ⟨h, ⟨rfl, Or.inl ⟨rfl, rfl⟩⟩, Fr.refl _ _⟩
  have HD := (show Hid _ from hd)
  have HOK := (show Hid _ from hok)
  have hnx := hj0.next hrb hl
  rw [h0] at hnx
  clear h h0 hd hok hj0
  go_enter Tryz.func125, Tryz.ntmps125
  go_wp2_with fail
  refine Calls.mono hnx ?_
  rintro e w1 ⟨rfl, hj1⟩
  dsimp only
  have HJ1 := (show Hid _ from hj1)
  clear hnx hj1
  go_wp2_with fail
  go_loopw [3, 4] (fun v i wr => ∃ k : Nat, k ≤ ds.length ∧ i = .int .i64 ((ds.length : Int) - k) ∧ CJ w l rb (n + 1 + 5 * k) v k ((ds.take k).flatMap Cm.cells) wr) (fun _ i _ => (intOf i).toNat)
  case atStart => exact ⟨0, by omega, by go_num, HJ1.out⟩
  case round =>
    obtain ⟨k, hk, rfl, hJ⟩ := hrel
    clear HJ1
    have hok := HOK.out k hk
    have hrt := right_any rb _ _ wr hJ.rd
    rw [hok] at hrt
    have HRT := (show Hid _ from hrt)
    have HJ := (show Hid _ from hJ)
    clear hrt hJ
    by_cases hlt : k < ds.length
    · have hlti : (0 : Int) < (ds.length : Int) - k := by omega
      obtain ⟨d, hd'⟩ : ∃ d, ds[k]? = some d := ⟨ds[k], List.getElem?_eq_getElem hlt⟩
      obtain ⟨g0, g1, g2, g3, g4⟩ := HD.out k d hd'
      have HTK : Hid ((ds.take (k + 1)).flatMap Cm.cells = (ds.take k).flatMap Cm.cells ++ d.cells) := by
        show _ = _
        obtain ⟨hl', rfl⟩ := List.getElem?_eq_some_iff.1 hd'
        rw [List.take_succ_eq_append_getElem hl', List.flatMap_append]
        simp
      go_wp2_with fail
      refine Calls.mono HRT.out ?_
      rintro e w2 ⟨rfl, hf2⟩
      dsimp only
      have hj2 : CJ w l rb (n + 1 + 5 * k) u3 k ((ds.take k).flatMap Cm.cells) w2 := ⟨HJ.out.rd.fr hf2 (by simp), owns_fr HJ.out.own hf2 (by simp), HJ.out.fr.then0 hf2⟩
      have n0 := hj2.next hrb hl
      rw [g0] at n0
      have HN1 : Hid (∀ w', CJ w l rb (n + 1 + 5 * k + 1) u3 k ((ds.take k).flatMap Cm.cells) w' → Calls Tryz.prog 124 #[.pointer (some ⟨rb, 0, none⟩)] w' fun e w'' => e = .returned (.int .i64 d.what) ∧ CJ w l rb (n + 1 + 5 * k + 1 + 1) u3 k ((ds.take k).flatMap Cm.cells) w'') := fun w' hj => g1 ▸ hj.next hrb hl
      have HN2 : Hid (∀ w', CJ w l rb (n + 1 + 5 * k + 1 + 1) u3 k ((ds.take k).flatMap Cm.cells) w' → Calls Tryz.prog 124 #[.pointer (some ⟨rb, 0, none⟩)] w' fun e w'' => e = .returned (.int .i64 d.x) ∧ CJ w l rb (n + 1 + 5 * k + 1 + 1 + 1) u3 k ((ds.take k).flatMap Cm.cells) w'') := fun w' hj => g2 ▸ hj.next hrb hl
      have HN3 : Hid (∀ w', CJ w l rb (n + 1 + 5 * k + 1 + 1 + 1) u3 k ((ds.take k).flatMap Cm.cells) w' → Calls Tryz.prog 124 #[.pointer (some ⟨rb, 0, none⟩)] w' fun e w'' => e = .returned (.int .i64 d.y) ∧ CJ w l rb (n + 1 + 5 * k + 1 + 1 + 1 + 1) u3 k ((ds.take k).flatMap Cm.cells) w'') := fun w' hj => g3 ▸ hj.next hrb hl
      have HN4 : Hid (∀ w', CJ w l rb (n + 1 + 5 * k + 1 + 1 + 1 + 1) u3 k ((ds.take k).flatMap Cm.cells) w' → Calls Tryz.prog 124 #[.pointer (some ⟨rb, 0, none⟩)] w' fun e w'' => e = .returned (.int .i64 d.target) ∧ CJ w l rb (n + 1 + 5 * k + 1 + 1 + 1 + 1 + 1) u3 k ((ds.take k).flatMap Cm.cells) w'') := fun w' hj => g4 ▸ hj.next hrb hl
      have HN0 := (show Hid _ from n0)
      clear n0 g0 g1 g2 g3 g4 hj2 hd' HRT HD
      go_wp2_with fail
      refine Calls.mono HN0.out ?_
      rintro e w3 ⟨rfl, hj3⟩
      dsimp only
      go_wp2_with fail
      refine Calls.mono (HN1.out _ hj3) ?_
      rintro e w4 ⟨rfl, hj4⟩
      dsimp only
      go_wp2_with fail
      refine Calls.mono (HN2.out _ hj4) ?_
      rintro e w5 ⟨rfl, hj5⟩
      dsimp only
      go_wp2_with fail
      refine Calls.mono (HN3.out _ hj5) ?_
      rintro e w6 ⟨rfl, hj6⟩
      dsimp only
      go_wp2_with fail
      refine Calls.mono (HN4.out _ hj6) ?_
      rintro e w7 ⟨rfl, hj7⟩
      dsimp only
      have HJ7 : Hid (CJ w l rb (n + 1 + 5 * k + 1 + 1 + 1 + 1 + 1) u3 k ((ds.take k).flatMap Cm.cells) w7) := hj7
      have HO7 : Hid ((w7.alloc (.cells #[ii d.unit, ii d.what, ii d.x, ii d.y, ii d.target] 81)).ownsRow w.heap.size 81 5 u3 k ((ds.take k).flatMap Cm.cells)) := (hj7.alloc _).own
      have hs7 := hj7.fr.size
      clear hj3 hj4 hj5 hj6 hj7 HN0 HN1 HN2 HN3 HN4
      go_wp2_with (at_builtin; refine wpList_append_own_at _ rfl _ _ 39 rfl w.heap.size 81 inf (.agg #[ii 0, ii 0, ii 0, ii 0, ii 0]) 5 40 Tryz.underlying39 hi0 hz0 hz1 hz2 rfl (by decide) u3 k ((ds.take k).flatMap Cm.cells) rfl HO7.out ⟨w7.heap.size, 0, none⟩ 1 1 d.cells rfl rfl (new_cmd d w7) (by simp [Value.oneCell']) (by unfold maxLen; omega) (by omega) (by simp; omega) ?_; intro v' w8 hown8 hgrow8 hnil8 hat8)
      go_roundw
      case rel =>
        refine ⟨k + 1, hlt, by go_num, ?_, ?_, ?_⟩
        · rw [show n + 1 + 5 * (k + 1) = n + 1 + 5 * k + 1 + 1 + 1 + 1 + 1 by omega]
          have h7 := (HJ7.out.alloc (.cells #[ii d.unit, ii d.what, ii d.x, ii d.y, ii d.target] 81)).rd
          exact h7.fr (fr_grown (S := u3.ownBlock.toList) (Fr.refl _ _) hgrow8 (fun g hg => Or.inl (by simp [hg]))) (fun hm => by
            have hb := own_base HO7.out (show u3.ownBlock = some rb by simpa using hm)
            omega)
        · rw [HTK.out]
          exact hown8
        · exact fr_grown (HJ7.out.fr.alloc _) hgrow8 (fun g hg => Or.inr (own_base HO7.out hg))
      case measure => simp [intOf]; omega
    · have hlti : ¬ (0 : Int) < (ds.length : Int) - k := by omega
      have hke : k = ds.length := by omega
      have HKE := (show Hid _ from hke)
      clear hke HRT
      go_wp2_with fail
      go_ret
      refine ⟨_, rfl, ?_⟩
      have := HJ.out
      rw [HKE.out, List.take_length] at this
      exact this
end Go.Proofs.YtapabahhfanmmaaGreatDoor
/- A turn is read whole. -/
namespace Go.Proofs.YtapabahhfanmmaaGreatDoor
open Go.RowKit

/-- What a reader reads of a turn. -/
structure ReadsT (l : List UInt8) (n : Int) (a b : List Cm) : Prop where
  n0 : nth l false 0 = n
  na : nth l false 1 = a.length
  ca : ∀ i d, a[i]? = some d → nth l false (1 + 1 + 5 * i) = d.unit ∧ nth l false (1 + 1 + 5 * i + 1) = d.what ∧ nth l false (1 + 1 + 5 * i + 1 + 1) = d.x ∧ nth l false (1 + 1 + 5 * i + 1 + 1 + 1) = d.y ∧ nth l false (1 + 1 + 5 * i + 1 + 1 + 1 + 1) = d.target
  nb : nth l false (1 + 1 + 5 * a.length) = b.length
  cb : ∀ i d, b[i]? = some d → nth l false (1 + 1 + 5 * a.length + 1 + 5 * i) = d.unit ∧ nth l false (1 + 1 + 5 * a.length + 1 + 5 * i + 1) = d.what ∧ nth l false (1 + 1 + 5 * a.length + 1 + 5 * i + 1 + 1) = d.x ∧ nth l false (1 + 1 + 5 * a.length + 1 + 5 * i + 1 + 1 + 1) = d.y ∧ nth l false (1 + 1 + 5 * a.length + 1 + 5 * i + 1 + 1 + 1 + 1) = d.target
  ok : ∀ i, i ≤ 1 + 1 + 5 * a.length + 1 + 5 * b.length → (rdN l false i).2 = false
  ne : rdN l false (1 + 1 + 5 * a.length + 1 + 5 * b.length) = ([], false)
theorem nums5_at : ∀ (l : List Cm) (i f : Nat) (d : Cm), l[i]? = some d → f < 5 → (l.flatMap Cm.nums)[5 * i + f]? = d.nums[f]?
  | [], _, _, _, h, _ => by simp at h
  | v :: l, 0, f, d, h, hf => by
    have hv : v = d := by simpa using h
    subst hv
    rw [List.flatMap_cons, List.getElem?_append_left (by simp; omega), Nat.mul_zero, Nat.zero_add]
  | v :: l, i + 1, f, d, h, hf => by
    rw [List.flatMap_cons, List.getElem?_append_right (by simp; omega)]
    have : 5 * (i + 1) + f - v.nums.length = 5 * i + f := by simp; omega
    rw [this]
    exact nums5_at l i f d (by simpa using h) hf
theorem cmdsN_map (l : List Cm) : cmdsN l = ((l.map writeC).length : Int) :: (l.map writeC).flatMap Cm.nums := by
  unfold cmdsN
  rw [List.length_map, List.flatMap_map]
theorem nums5_len (l : List Cm) : (l.flatMap Cm.nums).length = 5 * l.length := by
  induction l with
  | nil => rfl
  | cons c l ih => rw [List.flatMap_cons, List.length_append, ih]; simp; omega
theorem reads_turn (n : Int) (a b : List Cm) (hn : 0 ≤ n ∧ n ≤ 1000000000) (ha : a.length ≤ 100) (hb : b.length ≤ 100) : ReadsT (turnB n a b) n (a.map writeC) (b.map writeC) := by
  have hbd : ∀ x ∈ turnN n a b, 0 ≤ x ∧ x ≤ 1000000000 := fun x hx => by
    unfold turnN at hx
    rcases List.mem_cons.1 hx with rfl | hx
    · exact hn
    · rcases List.mem_append.1 hx with hx | hx
      · exact cmdsN_bd a (by omega) x hx
      · exact cmdsN_bd b (by omega) x hx
  have hT : turnN n a b = n :: (((a.map writeC).length : Int) :: ((a.map writeC).flatMap Cm.nums ++ (((b.map writeC).length : Int) :: (b.map writeC).flatMap Cm.nums))) := by
    unfold turnN
    rw [cmdsN_map, cmdsN_map]
    rfl
  unfold turnB
  rw [hT] at hbd ⊢
  generalize a.map writeC = A at *
  generalize b.map writeC = B at *
  have hA := nums5_len A
  have hB := nums5_len B
  have hat : ∀ (k : Nat) (x : Int), (n :: ((A.length : Int) :: (A.flatMap Cm.nums ++ ((B.length : Int) :: B.flatMap Cm.nums))))[k]? = some x → nth (flatB (n :: ((A.length : Int) :: (A.flatMap Cm.nums ++ ((B.length : Int) :: B.flatMap Cm.nums))))) false k = x := fun k x hk => by
    obtain ⟨hl, rfl⟩ := List.getElem?_eq_some_iff.1 hk
    have := nth_flat k _ [] hl hbd
    rwa [List.append_nil] at this
  have pa : ∀ i d f x, A[i]? = some d → f < 5 → d.nums[f]? = some x → nth (flatB (n :: ((A.length : Int) :: (A.flatMap Cm.nums ++ ((B.length : Int) :: B.flatMap Cm.nums))))) false (1 + 1 + 5 * i + f) = x := fun i d f x hi hf hx => hat _ _ (by
    have hil := (List.getElem?_eq_some_iff.1 hi).1
    rw [show 1 + 1 + 5 * i + f = (5 * i + f) + 1 + 1 by omega, List.getElem?_cons_succ, List.getElem?_cons_succ, List.getElem?_append_left (by omega), nums5_at A i f d hi hf]
    exact hx)
  have pb : ∀ i d f x, B[i]? = some d → f < 5 → d.nums[f]? = some x → nth (flatB (n :: ((A.length : Int) :: (A.flatMap Cm.nums ++ ((B.length : Int) :: B.flatMap Cm.nums))))) false (1 + 1 + 5 * A.length + 1 + 5 * i + f) = x := fun i d f x hi hf hx => hat _ _ (by
    rw [show 1 + 1 + 5 * A.length + 1 + 5 * i + f = (5 * A.length + ((5 * i + f) + 1)) + 1 + 1 by omega, List.getElem?_cons_succ, List.getElem?_cons_succ, List.getElem?_append_right (by omega), hA, show 5 * A.length + (5 * i + f + 1) - 5 * A.length = (5 * i + f) + 1 by omega, List.getElem?_cons_succ, nums5_at B i f d hi hf]
    exact hx)
  have hfull : ∀ i, i ≤ 1 + 1 + 5 * A.length + 1 + 5 * B.length → rdN (flatB (n :: ((A.length : Int) :: (A.flatMap Cm.nums ++ ((B.length : Int) :: B.flatMap Cm.nums))))) false i = (flatB ((n :: ((A.length : Int) :: (A.flatMap Cm.nums ++ ((B.length : Int) :: B.flatMap Cm.nums)))).drop i), false) := fun i hi => by
    have := rdN_flat i (n :: ((A.length : Int) :: (A.flatMap Cm.nums ++ ((B.length : Int) :: B.flatMap Cm.nums)))) [] (by simp only [List.length_cons, List.length_append]; omega) hbd
    rwa [List.append_nil, List.append_nil] at this
  refine ⟨hat 0 _ rfl, hat 1 _ rfl, fun i d hi => ⟨pa i d 0 _ hi (by omega) rfl, pa i d 1 _ hi (by omega) rfl, pa i d 2 _ hi (by omega) rfl, pa i d 3 _ hi (by omega) rfl, pa i d 4 _ hi (by omega) rfl⟩, hat _ _ ?_, fun i d hi => ⟨pb i d 0 _ hi (by omega) rfl, pb i d 1 _ hi (by omega) rfl, pb i d 2 _ hi (by omega) rfl, pb i d 3 _ hi (by omega) rfl, pb i d 4 _ hi (by omega) rfl⟩, fun i hi => by rw [hfull i hi], ?_⟩
  · rw [show 1 + 1 + 5 * A.length = (5 * A.length) + 1 + 1 by omega, List.getElem?_cons_succ, List.getElem?_cons_succ, List.getElem?_append_right (by omega), hA, Nat.sub_self]
    rfl
  · rw [hfull _ (Nat.le_refl _), List.drop_of_length_le (by simp only [List.length_cons, List.length_append]; omega)]
    rfl
end Go.Proofs.YtapabahhfanmmaaGreatDoor
/- ReadTurn. -/
namespace Go.Proofs.YtapabahhfanmmaaGreatDoor
open Go.RowKit

theorem owns_weak {w : World} {base base' n : Nat} {e : TypeId} {size : Nat} {v : Value} {xs : List Value} (h : w.ownsRow base e size v n xs) (hb : base' ≤ base) : w.ownsRow base' e size v n xs := by
  refine ⟨h.1, ?_⟩
  rcases h.2 with h | ⟨g, cap, cur, h1, h2, r⟩
  · exact Or.inl h
  · exact Or.inr ⟨g, cap, cur, h1, Nat.le_trans hb h2, r⟩
theorem own_slice {w : World} {base n : Nat} {e : TypeId} {size : Nat} {v : Value} {xs : List Value} (h : w.ownsRow base e size v n xs) : ∃ ao lc, v = .slice ao n lc := by
  rcases h.2 with ⟨rfl, rfl⟩ | ⟨g, cap, cur, rfl, _⟩
  · exact ⟨_, _, rfl⟩
  · exact ⟨_, _, rfl⟩
abbrev zeroTurn : Array Value := #[ii 0, .slice none 0 0, .slice none 0 0]
theorem infoTurnC : (Tryz.prog.info? 106).map (·.size) = some 3 := by kernel_rfl

set_option maxRecDepth 100000 in
set_option maxHeartbeats 4000000 in
theorem readTurn_ok (n : Int) (a b : List Cm) (l : List UInt8) (w : World) (hr : ReadsT l n a b) (hl : l.length ≤ 1000000) (ha : a.length ≤ 1000) (hb : b.length ≤ 1000) :
    Calls Tryz.prog 81 #[.string ⟨l.toArray⟩] w fun e w' => ∃ v1 v2, e = .returned (.tuple #[.agg #[ii n, v1, v2], .bool true]) ∧ w'.ownsRow w.heap.size 81 5 v1 a.length (a.flatMap Cm.cells) ∧ w'.ownsRow w.heap.size 81 5 v2 b.length (b.flatMap Cm.cells) ∧ Fr [] w w' := by
  have HR := (show Hid _ from hr)
  clear hr
  go_enter Tryz.func81, Tryz.ntmps81
  go_wp2_with fail
  refine Calls.mono (newReader_any l _) ?_
  rintro e w1 ⟨rb, rfl, hrb, hrd, hf1⟩
  dsimp only
  have hrd0 : RdAt w1 rb (rdN l false 0).1 (rdN l false 0).2 := hrd
  have hn0 := next_nth rb l false 0 w1 hrd0 hl
  rw [HR.out.n0] at hn0
  go_wp2_with fail
  refine Calls.mono hn0 ?_
  rintro e w2 ⟨rfl, hrd2, hf2⟩
  dsimp only
  have hrc := readCmds_any rb l 1 a w2 hrd2 hl HR.out.na ha HR.out.ca (fun i hi => HR.out.ok _ (by omega))
  have HRC := (show Hid _ from hrc)
  have hR1 := hf1.heap0 (hp_new w (.cells zeroTurn 106))
  have hrbw : w.heap.size < rb := by simp at hrb; omega
  have hR2 := hf2.heap hR1 (by simp; omega)
  have hw2 : Fr [] w w2 := (((Fr.refl [] w).alloc _).then0 hf1).trans hf2 (by simp; omega)
  have hrl := hrd2.lt
  clear hn0 hrd hrd0 hrd2 hrc hR1 hf1 hf2
  go_wp2_with fail
  refine Calls.mono HRC.out ?_
  rintro e w3 ⟨v1, rfl, hj3⟩
  dsimp only
  have hrc2 := readCmds_any rb l (1 + 1 + 5 * a.length) b w3 hj3.rd hl HR.out.nb hb HR.out.cb (fun i hi => HR.out.ok _ (by omega))
  have HRC2 := (show Hid _ from hrc2)
  have hR3 := hj3.fr.heap hR2 (by simp; omega)
  have hw3 : Fr [] w w3 := hw2.trans hj3.fr (by simp; omega)
  have HO3 : Hid (w3.ownsRow w2.heap.size 81 5 v1 a.length (a.flatMap Cm.cells)) := hj3.own
  have hs23 := hj3.fr.size
  clear HRC hj3 hrc2 hR2
  go_wp2_with fail
  refine Calls.mono HRC2.out ?_
  rintro e w4 ⟨v2, rfl, hj4⟩
  dsimp only
  have hR4 := hj4.fr.heap hR3 (by simp; omega)
  have hw4 : Fr [] w w4 := hw3.trans hj4.fr (by simp; omega)
  have hs34 := hj4.fr.size
  have HO1 : Hid (w4.ownsRow w2.heap.size 81 5 v1 a.length (a.flatMap Cm.cells)) := owns_fr HO3.out hj4.fr (fun x hx => by have := own_base HO3.out hx; simp; omega)
  have HO2 : Hid (w4.ownsRow w3.heap.size 81 5 v2 b.length (b.flatMap Cm.cells)) := hj4.own
  have hlt2 : w.heap.size < w2.heap.size := by omega
  have hdn := fun (w' : World) (hf : Fr [] w4 w') => done_any rb _ _ w' (hj4.rd.fr hf (by simp))
  rw [HR.out.ne] at hdn
  have HDN := (show Hid _ from hdn)
  clear HRC2 hj4 hdn hR3
  obtain ⟨ao1, lc1, rfl⟩ := own_slice HO1.out
  obtain ⟨ao2, lc2, rfl⟩ := own_slice HO2.out
  clear HO3
  go_wp2_with fail
  refine Calls.mono (HDN.out _ ((Fr.refl [] w4).alloc _)) ?_
  rintro e w5 ⟨rfl, hf5⟩
  dsimp only
  have hf45 : Fr [] w4 w5 := ((Fr.refl [] w4).alloc _).then0 hf5
  have hT5 := hf5.heap0 (hp_new w4 (.cells #[ii n, .slice ao1 a.length lc1, .slice ao2 b.length lc2] 106))
  have hR5 := hf45.heap0 hR4
  have c0 : w5.cell? ⟨w4.heap.size, 0, none⟩ = some (ii n) := cell_of_heap hT5
  have c1 : w5.cell? ⟨w4.heap.size, 1, none⟩ = some (.slice ao1 a.length lc1) := cell_of_heap hT5
  have c2 : w5.cell? ⟨w4.heap.size, 2, none⟩ = some (.slice ao2 b.length lc2) := cell_of_heap hT5
  have HR5 := (show Hid _ from hR5)
  have HI : Hid ((Tryz.prog.info? 106).map (·.size) = some (#[ii n, .slice ao1 a.length lc1, .slice ao2 b.length lc2] : Array Value).size) := by show _ = some 3; exact infoTurnC
  have HO : Hid ((#[ii n, .slice ao1 a.length lc1, .slice ao2 b.length lc2] : Array Value).all (·.oneCell') = true) := by show _ = _; simp [Value.oneCell']
  have HZ : Hid (zeroTurn.size = (#[ii n, .slice ao1 a.length lc1, .slice ao2 b.length lc2] : Array Value).size) := by show _ = _; rfl
  clear hR4 hR5 hT5 HDN
  go_wp2_with (refine wpList_store_row rfl 106 _ _ rfl w.heap.size #[ii n, .slice ao1 a.length lc1, .slice ao2 b.length lc2] rfl rfl 106 zeroTurn HR5.out HI.out HZ.out HO.out ?_)
  have hw5 := hw4.then0 hf45
  have hR : Fr [w.heap.size] w5 (w5.setRow w.heap.size #[ii n, .slice ao1 a.length lc1, .slice ao2 b.length lc2]) := (Fr.refl _ _).setRow _ _ (Or.inl (by simp))
  refine bodyPost_ret (v := .tuple #[.agg #[ii n, .slice ao1 a.length lc1, .slice ao2 b.length lc2], .bool true]) (results_cell_tmp Tryz.results81 _ _ w.heap.size 106 #[ii n, .slice ao1 a.length lc1, .slice ao2 b.length lc2] (0, 0) _ _ rfl rfl (setRow_heap _ _ _ _ _ _ HR5.out) Tryz.underlying106 rfl HI.out) rfl ⟨_, _, rfl, ?_, ?_, hw5.setRow _ _ (Or.inr (Nat.le_refl _))⟩
  · exact owns_weak (owns_fr (owns_fr HO1.out hf45 (by simp)) hR (fun x hx => by have := own_base HO1.out hx; simp; omega)) hw2.size
  · exact owns_weak (owns_fr (owns_fr HO2.out hf45 (by simp)) hR (fun x hx => by have := own_base HO2.out hx; simp; omega)) hw3.size
end Go.Proofs.YtapabahhfanmmaaGreatDoor
/- A turn that was written is played. -/
namespace Go.Proofs.YtapabahhfanmmaaGreatDoor
open Go.RowKit

theorem results_cell_two {P : Program} {fn : Func} {p r s : Tmp} {ty : TypeId} (h : fn.results = #[.cell p ty, .tmp r, .tmp s]) (tmps : Array Value) (w : World) (g : Nat) (t : TypeId) (cs : Array Value) (fr : Nat × Nat) (d : TypeDesc) (v u : Value)
    (hp : tmps.getD p undef = .pointer (some ⟨g, 0, none⟩)) (hv : tmps.getD r undef = v) (hw : tmps.getD s undef = u) (hg : w.heap[g]? = some (.cells cs t fr))
    (hu : P.underlying ty = some d) (hd : (match d with | .struct _ | .array _ _ => true | _ => false) = true) (hi : (P.info? ty).map (·.size) = some cs.size) :
    (results fn tmps).run P w = .ok (.tuple #[.agg cs, v, u]) w := by
  have hp' : tmps[p]?.getD undef = .pointer (some ⟨g, 0, none⟩) := by simpa using hp
  have hv' : tmps[r]?.getD undef = v := by simpa using hv
  have hw' : tmps[s]?.getD undef = u := by simpa using hw
  simp [results, h, hp', hv', hw', asAddr, run_loadVar_row w g t ty cs fr d hg hu hd hi]
theorem cmds_owned {w : World} {base : Nat} {v : Value} {l : List Cm} (h : w.ownsRow base 81 5 v l.length (l.flatMap Cm.cells)) : CmdV w v l := by
  rcases h.2 with ⟨rfl, h0⟩ | ⟨g, cap, cur, rfl, hb, hg, h1, h2, h3, h4⟩
  · exact Or.inl ⟨_, _, rfl, List.eq_nil_of_length_eq_zero h0⟩
  · refine Or.inr ⟨g, cap, rfl, fun i hi j u hu => ?_, lt_of_heap hg⟩
    have hj : j < 5 := by simpa using (List.getElem?_eq_some_iff.1 hu).1
    rw [cell_of_heap hg]
    have := congrArg (fun x : List Value => x[i * 5 + j]?) h4
    simp only [List.getElem?_take_of_lt (show i * 5 + j < l.length * 5 by omega)] at this
    rw [← Array.getElem?_toList, this, ← hu]
    have hfl : ∀ (l : List Cm) (i : Nat) (h : i < l.length), (l.flatMap Cm.cells)[i * 5 + j]? = (l[i]'h).cells[j]? := by
      intro l
      induction l with
      | nil => intro i h; simp at h
      | cons c l ih =>
        intro i h
        cases i with
        | zero => rw [List.flatMap_cons, List.getElem?_append_left (by simp; omega)]; simp
        | succ i =>
          rw [List.flatMap_cons, List.getElem?_append_right (by simp; omega)]
          have e : (i + 1) * 5 + j - c.cells.length = i * 5 + j := by simp; omega
          rw [e, ih i (by simpa using h)]
          simp
    exact hfl l i hi

theorem Refs.low {w : World} {base base' : Nat} {v : Value} {a b : List Nat} (h : Refs w base v a b) (hb : base' ≤ base) : Refs w base' v a b := by
  obtain ⟨rb, rc, v0, v1, h1, h2, h3, h4, h5⟩ := h
  exact ⟨rb, rc, v0, v1, h1, h2, Nat.le_trans hb h3, owns_weak h4 hb, owns_weak h5 hb⟩

set_option maxRecDepth 100000 in
set_option maxHeartbeats 4000000 in
theorem playTurn_ok (pb cap : Nat) (t : T) (a b : List Cm) (l : List UInt8) (w : World) (hsd : Sd w) (hok : GOk t) (hrow : PRow w pb cap t.us) (ht : 0 ≤ t.turn ∧ t.turn < 1000000000) (hr : ReadsT l t.turn a b) (hl : l.length ≤ 1000000) (ha : a.length ≤ 1000) (hb : b.length ≤ 1000) :
    Calls Tryz.prog 42 #[.agg (gameL t (.slice (some ⟨pb, 0, none⟩) t.us.length cap)).toArray, .string ⟨l.toArray⟩] w fun e w' =>
      ∃ v pb' cap', e = .returned (.tuple #[.agg (gameL (playT t a b).1 (.slice (some ⟨pb', 0, none⟩) (playT t a b).1.us.length cap')).toArray, v, .bool true]) ∧ Fr [] w w' ∧ PRow w' pb' cap' (playT t a b).1.us ∧ (pb' = pb ∨ w.heap.size ≤ pb') ∧ Refs w' w.heap.size v (playT t a b).2.1 (playT t a b).2.2 := by
  have hlen : t.us.length ≤ 100 := hok.len
  have hne : 0 < t.us.length := by
    have := hok.bs
    dsimp only at this
    rcases Nat.eq_zero_or_pos t.us.length with e | e
    · rw [List.length_eq_zero_iff] at e
      rw [e] at this
      simp at this
    · exact e
  have HPL : Hid (∀ (w' : World) (v1 v2 : Value), Fr [] w w' → CmdV w' v1 a → CmdV w' v2 b → Calls Tryz.prog 74 #[.agg (gameL t (.slice (some ⟨pb, 0, none⟩) t.us.length cap)).toArray, v1, v2] w' fun e w'' =>
      ∃ v pb' cap', e = .returned (.tuple #[.agg (gameL (playT t a b).1 (.slice (some ⟨pb', 0, none⟩) (playT t a b).1.us.length cap')).toArray, v]) ∧ Fr [] w' w'' ∧ PRow w'' pb' cap' (playT t a b).1.us ∧ (pb' = pb ∨ w'.heap.size ≤ pb') ∧ Refs w'' w'.heap.size v (playT t a b).2.1 (playT t a b).2.2) :=
    fun w' v1 v2 hf h1 h2 => play_v pb cap t a b v1 v2 w' (hsd.fr0 hf) hok (hrow.fr hf (by simp)) (by omega) hne ht h1 h2 ha hb
  obtain ⟨gl, hgl⟩ : ∃ x, x = gameL t (.slice (some ⟨pb, 0, none⟩) t.us.length cap) := ⟨_, rfl⟩
  have hll : gl.length = 149 := by rw [hgl]; exact gameL_len _ _
  have hg0 : gl.toArray[0]? = some (ii t.turn) := by rw [hgl]; simp [gameL, tcell]
  rw [← hgl] at HPL ⊢
  have HIG : Hid ((Tryz.prog.info? 90).map (·.size) = some gl.toArray.size) := by
    show _ = _
    rw [infoGame, List.size_toArray, hll]
  have HR := (show Hid _ from hr)
  have HPBW : Hid (pb < w.heap.size) := hrow.lt
  clear hgl hll hr hrow hsd hok
  go_enter Tryz.func42, Tryz.ntmps42
  go_wp2_with fail
  obtain ⟨W2, hW2⟩ : ∃ W, W = (w.alloc (.cells gl.toArray 90)).alloc (.cells Tryz.zeroCells90 90) := ⟨_, rfl⟩
  rw [← hW2]
  have hw2 : Fr [] w W2 := by rw [hW2]; exact ((Fr.refl _ _).alloc _).alloc _
  have hG2 : W2.heap[w.heap.size]? = some (.cells gl.toArray 90) := by rw [hW2]; exact (hp_old _ _ _ (by simp)).trans (hp_new _ _)
  have hN2 : W2.heap[w.heap.size + 1]? = some (.cells Tryz.zeroCells90 90) := by rw [hW2]; exact hp_new2 _ _ _
  obtain ⟨G, hG⟩ : ∃ x, x = w.heap.size := ⟨_, rfl⟩
  obtain ⟨N, hN⟩ : ∃ x, x = w.heap.size + 1 := ⟨_, rfl⟩
  have hlw : w.heap.size + 1 < W2.heap.size := lt_of_heap hN2
  rw [← hG] at hG2 ⊢
  rw [← hG] at hN hlw hN2
  rw [← hN] at hlw hN2 ⊢
  have HG := (show Hid _ from hG)
  have HN := (show Hid _ from hN)
  clear hW2 hG hN
  refine Calls.mono (readTurn_ok t.turn a b l W2 HR.out hl ha hb) ?_
  rintro e w3 ⟨v1, v2, rfl, ho1, ho2, hf3⟩
  dsimp only
  have hw3 := hw2.then0 hf3
  have hG3 := hf3.heap0 hG2
  have hN3 := hf3.heap0 hN2
  have hc1 := cmds_owned ho1
  have hc2 := cmds_owned ho2
  obtain ⟨ao1, lc1, rfl⟩ := own_slice ho1
  obtain ⟨ao2, lc2, rfl⟩ := own_slice ho2
  have g0 : (w3.alloc (.cells #[ii t.turn, .slice ao1 a.length lc1, .slice ao2 b.length lc2] 106)).cell? ⟨G, 0, none⟩ = some (ii t.turn) := (((Fr.refl [] w3).alloc _).cell G 0 (lt_of_heap hG3) (by simp)).trans ((cell_of_heap hG3).trans hg0)
  have hGl := lt_of_heap hG3
  have HPL3 := HPL.out (w3.alloc (.cells #[ii t.turn, .slice ao1 a.length lc1, .slice ao2 b.length lc2] 106)) _ _ (hw3.alloc _) (hc1.fr0 ((Fr.refl [] w3).alloc _)) (hc2.fr0 ((Fr.refl [] w3).alloc _))
  have HP3 := (show Hid _ from HPL3)
  have HGR : Hid ((w3.alloc (.cells #[ii t.turn, .slice ao1 a.length lc1, .slice ao2 b.length lc2] 106)).heap[G]? = some (.cells gl.toArray 90)) := ((Fr.refl [] w3).alloc _).heap0 hG3
  have HNR := (show Hid _ from (((Fr.refl [] w3).alloc (.cells #[ii t.turn, .slice ao1 a.length lc1, .slice ao2 b.length lc2] 106)).heap0 hN3))
  clear HPL HPL3 ho1 ho2 hc1 hc2 hG2 hN2 hG3 hN3 hg0 HR
  have ht2 : ¬ (1000000000 : Int) ≤ t.turn := by omega
  go_wp2_with (refine wpList_load_row rfl 90 _ rfl G rfl 90 gl.toArray (0, 0) _ HGR.out Tryz.underlying90 rfl HIG.out ?_)
  refine Calls.mono HP3.out ?_
  rintro e w4 ⟨v4, pb4, cap4, rfl, hf4, hrow4, hpb4, hr4⟩
  dsimp only
  obtain ⟨gn, hgn⟩ : ∃ x, x = gameL (playT t a b).1 (.slice (some ⟨pb4, 0, none⟩) (playT t a b).1.us.length cap4) := ⟨_, rfl⟩
  have hln : gn.length = 149 := by rw [hgn]; exact gameL_len _ _
  have HOn : Hid (gn.toArray.all (·.oneCell') = true) := by
    show _ = _
    rw [hgn]; exact gameL_one _ _ _ _
  have HIN : Hid ((Tryz.prog.info? 90).map (·.size) = some gn.toArray.size) := by
    show _ = _
    rw [infoGame, List.size_toArray, hln]
  have HZN : Hid (Tryz.zeroCells90.size = gn.toArray.size) := by
    show _ = _
    exact zcGame.trans (by simp [hln])
  have HN4 := (show Hid _ from hf4.heap0 HNR.out)
  have HGE := (show Hid _ from hgn)
  rw [← hgn]
  obtain ⟨rb4, rc4, x0, x1, hv4, _⟩ := hr4
  have hr4' : Refs w4 (w3.alloc (.cells #[ii t.turn, .slice ao1 a.length lc1, .slice ao2 b.length lc2] 106)).heap.size v4 (playT t a b).2.1 (playT t a b).2.2 := ⟨rb4, rc4, x0, x1, hv4, by assumption⟩
  subst hv4
  have HRR := (show Hid _ from hr4')
  have hF4 : Fr [] w w4 := (hw3.alloc _).then0 hf4
  have hNw : w.heap.size < N := by have := HN.out; have := HG.out; omega
  have hs3 : w.heap.size ≤ (w3.alloc (.cells #[ii t.turn, .slice ao1 a.length lc1, .slice ao2 b.length lc2] 106)).heap.size := (hw3.alloc _).size
  have hN3 : N < w3.heap.size := by
    have := lt_of_heap HNR.out
    have h5 := hf3.size
    omega
  have HROW := (show Hid _ from hrow4)
  have hpbw : pb < w.heap.size := HPBW.out
  clear hgn hln hf4 HP3 hr4' hrow4 HNR HGR g0
  have HN5 : Hid ((w4.setRow N gn.toArray).heap[N]? = some (.cells gn.toArray 90)) := setRow_heap _ _ _ _ _ _ HN4.out
  have HZ5 : Hid (gn.toArray.size = gn.toArray.size) := rfl
  go_wp2_with (first | (refine wpList_store_row rfl 90 _ _ rfl N gn.toArray rfl rfl 90 Tryz.zeroCells90 HN4.out HIN.out HZN.out HOn.out ?_) | (refine wpList_load_row rfl 90 _ rfl N rfl 90 gn.toArray (0, 0) _ HN5.out Tryz.underlying90 rfl HIN.out ?_) | (refine wpList_store_row rfl 90 _ _ rfl N gn.toArray rfl rfl 90 gn.toArray HN5.out HIN.out HZ5.out HOn.out ?_))
  obtain ⟨W6, hW6⟩ : ∃ W, W = (w4.setRow N gn.toArray).setRow N gn.toArray := ⟨_, rfl⟩
  rw [← hW6]
  have hfs : Fr [N] w4 W6 := by rw [hW6]; exact ((Fr.refl _ _).setRow _ _ (Or.inl (by simp))).setRow _ _ (Or.inl (by simp))
  have hN6 : W6.heap[N]? = some (.cells gn.toArray 90) := by rw [hW6]; exact setRow_heap _ _ _ _ _ _ HN5.out
  refine bodyPost_ret (v := .tuple #[.agg gn.toArray, .slice (some ⟨rb4, 0, none⟩) 2 rc4, .bool true]) (results_cell_two Tryz.results42 _ _ N 90 gn.toArray (0, 0) _ _ _ rfl rfl rfl hN6 Tryz.underlying90 rfl HIN.out) rfl ⟨_, pb4, cap4, by rw [HGE.out], hF4.trans hfs (by simp; omega), ?_, ?_, ?_⟩
  · refine PRow.fr HROW.out hfs (fun e => ?_)
    have e' : pb4 = N := by simpa using e
    rcases hpb4 with h | h
    · omega
    · simp at h; omega
  · rcases hpb4 with h | h
    · exact Or.inl h
    · exact Or.inr (Nat.le_trans hs3 h)
  · have h := (show Refs _ _ _ _ _ from HRR.out)
    have h' := h.fr hfs (fun x hx => by
      have : x = N := by simpa using hx
      simp
      omega)
    exact h'.low hs3
end Go.Proofs.YtapabahhfanmmaaGreatDoor
