import Derived.OrdersHeld
import Derived.Deep.RegionHeld
namespace Go.Proofs.YtapabahhfanmmaaGreatDoor
open Go
section
variable {P : Program} {ops : Array Oper} {Q : Exit → Act → World → Prop} {md : Region.Mode} {S : World → Prop} {z : Nat}
def OneFree (P : Program) (md : Region.Mode) (ops : Array Oper) (Q : Exit → Act → World → Prop) (S : World → Prop) (z : Nat) : Nat → Array Bool → Act → World → Prop
  | 0, li, a, w => Region.ready md ops li = [] ∧ Q .normal a w
  | n + 1, li, a, w => (Region.ready md ops li = [] → Q .normal a w) ∧ ∀ i ∈ Region.ready md ops li, wpOp P ops Q i (fun a' w' => (i ≠ z → S w') ∧ OneFree P md ops Q S z n (li.setIfInBounds i true) a' w') a w
theorem OneFree.plain : ∀ (n : Nat) (li : Array Bool) (a : Act) (w : World), OneFree P md ops Q S z n li a w → wpAny P md ops Q n li a w
  | 0, _, _, _, h => h
  | n + 1, _, _, _, h => ⟨h.1, fun i hi => wpOp_mono (fun a' w' k => OneFree.plain n _ a' w' k.2) (h.2 i hi)⟩
def waits (md : Region.Mode) (ops : Array Oper) (z i : Nat) : Bool := match ops[z]? with
  | some o => o.after.any fun e => Region.binds md e && e.on == i
  | none => false
theorem waits_not {li : Array Bool} {i : Nat} (hw : waits md ops z i = true) (hi : i ∈ Region.ready md ops li) : z ∉ Region.ready md ops li := fun hz => by
 obtain ⟨_, oz, hoz, hall⟩ := mem_ready.1 hz
 unfold waits at hw
 rw [hoz] at hw
 obtain ⟨e, he, hb⟩ := Array.any_eq_true'.1 hw
 have hb' : Region.binds md e = true ∧ e.on = i := by simpa using hb
 have h1 := hall e he hb'.1
 have h0 := (mem_ready.1 hi).1
 rw [hb'.2] at h1
 rcases Nat.lt_or_ge i li.size with h' | h'
 ·simp [h'] at h0 h1
  rw [h0] at h1
  cases h1
 ·simp [Array.getElem?_eq_none h'] at h1
theorem OneFree.ahead {i : Nat} {o : Oper} {v : Value} (ho : ops[i]? = some o) (hns : ∀ (j : Nat) (x : Oper) cs b, ops[j]? = some x → x.op ≠ .select cs b) (hw : waits md ops z i = true) (hzi : i ≠ z)
  (hQ : ∀ c a w, Q (.panic c) (a.put o.dst v) w → Q (.panic c) a w) : ∀ (n : Nat) (li : Array Bool) (a : Act) (w : World),
   (∀ j x, ops[j]? = some x → j ≠ i → li.getD j true = false → (∀ e ∈ x.after, Region.binds md e = true → e.on ≠ i) → o.apart ops x = true) →
   i ∈ Region.ready md ops li → YieldsIf P ops S o v a → S w →
   OneFree P md ops Q S z n (li.setIfInBounds i true) (a.put o.dst v) w → OneFree P md ops Q S z (n + 1) li a w
 | n, li, a, w, hfree, hr, hy, hS, H => by
  refine ⟨fun h => absurd (h ▸ hr) (by simp), fun j hj => ?_⟩
  by_cases hji : j = i
  ·subst hji
   exact hy.wpOp ho hS ⟨fun _ => hS, H⟩
  have hjz : j ≠ z := fun e => waits_not hw hr (e ▸ hj)
  match n, H with
  | 0, H =>
   have h1 := ready_mono hj hji
   rw [H.1] at h1
   cases h1
  | n + 1, H =>
   have h1 := H.2 j (ready_mono hj hji)
   obtain ⟨hun, x, hx, hall⟩ := mem_ready.1 hj
   have hnot : ∀ e ∈ x.after, Region.binds md e = true → e.on ≠ i := fun e he hb heq => by
    have k1 := hall e he hb
    have k0 := (mem_ready.1 hr).1
    rw [heq] at k1
    rcases Nat.lt_or_ge i li.size with h' | h'
    ·simp [h'] at k0 k1
     rw [k0] at k1
     cases k1
    ·simp [Array.getElem?_eq_none h'] at k1
   have h2 := wpOp_putIf hx (hfree j x hx hji hun hnot) (fun cs b => hns i o cs b ho) (fun cs b => hns j x cs b hx) hQ hy h1
   refine wpOp_mono (fun a' w' h3 => ?_) h2
   have hS' := h3.2.1 hjz
   refine ⟨fun _ => hS', OneFree.ahead ho hns hw hzi hQ n (li.setIfInBounds j true) a' w' (fun q y hq hqi hu hno => hfree q y hq hqi ?_ hno) (ready_mono hr (Ne.symm hji)) h3.1 hS' ?_⟩
   ·by_cases hjq : j = q
    ·subst hjq
     exact hun
    ·rw [getD_set_ne true hjq] at hu
     exact hu
   ·rw [Array.setIfInBounds_comm _ _ hji]
    exact h3.2.2
theorem OneFree.take {i : Nat} {o : Oper} {v : Value} {n : Nat} {li : Array Bool} {a : Act} {w : World} (ho : ops[i]? = some o) (hs : Region.noSelect ops = true) (hf : Region.free md ops li i = true) (hr : (Region.ready md ops li).contains i = true) (hw : waits md ops z i = true) (hzi : i ≠ z)
    (hQ : ∀ c a w, Q (.panic c) (a.put o.dst v) w → Q (.panic c) a w) (hy : YieldsIf P ops S o v a) (hS : S w) (h : OneFree P md ops Q S z n (li.setIfInBounds i true) (a.put o.dst v) w) : OneFree P md ops Q S z (n + 1) li a w :=
  OneFree.ahead ho (Region.noSelect_spec hs) hw hzi hQ n li a w (Region.free_spec ho hf) (by simpa using hr) hy hS h
theorem OneFree.one {i : Nat} {n : Nat} {li : Array Bool} {a : Act} {w : World} (hr : Region.ready md ops li = [i]) (h : wpOp P ops Q i (fun a' w' => (i ≠ z → S w') ∧ OneFree P md ops Q S z n (li.setIfInBounds i true) a' w') a w) : OneFree P md ops Q S z (n + 1) li a w := by
 refine ⟨fun h0 => by rw [hr] at h0; simp at h0, fun j hj => ?_⟩
 rw [hr] at hj
 have : j = i := by simpa using hj
 rw [this]
 exact h
theorem OneFree.done {li : Array Bool} {a : Act} {w : World} (hr : Region.ready md ops li = []) (h : Q .normal a w) : ∀ n, OneFree P md ops Q S z n li a w
  | 0 => ⟨hr, h⟩
  | _ + 1 => ⟨fun _ => h, by rw [hr]; simp⟩
theorem OneFree.region (S : World → Prop) (z : Nat) {id : Nat} {a : Act} {w : World} (hm : P.follows .mixedOrders = true) (h : OneFree P .any ops Q S z ops.size (Array.replicate ops.size false) a w.drew) : (Code.region id ops true).wp P Q a w :=
  wp_region_any hm (OneFree.plain _ _ _ _ h)
end
end Go.Proofs.YtapabahhfanmmaaGreatDoor
namespace Go.Proofs.YtapabahhfanmmaaGreatDoor
open Go
section
variable {P : Program} {ops : Array Oper} {Q : Exit → Act → World → Prop} {md : Region.Mode} {S : World → Prop} {z : Nat}
def TwoFree (P : Program) (md : Region.Mode) (ops : Array Oper) (Q : Exit → Act → World → Prop) (S : World → Prop) (z : Nat) : Nat → Array Bool → Act → World → Prop
  | 0, li, a, w => Region.ready md ops li = [] ∧ Q .normal a w
  | n + 1, li, a, w => (Region.ready md ops li = [] → Q .normal a w) ∧ ∀ i ∈ Region.ready md ops li, wpOp P ops Q i (fun a' w' => (i ≠ z → li.getD z true = false → S w') ∧ TwoFree P md ops Q S z n (li.setIfInBounds i true) a' w') a w
theorem TwoFree.plain : ∀ (n : Nat) (li : Array Bool) (a : Act) (w : World), TwoFree P md ops Q S z n li a w → wpAny P md ops Q n li a w
  | 0, _, _, _, h => h
  | n + 1, _, _, _, h => ⟨h.1, fun i hi => wpOp_mono (fun a' w' k => TwoFree.plain n _ a' w' k.2) (h.2 i hi)⟩
theorem getD_at {li : Array Bool} {i : Nat} (hu : li.getD i true = false) : (li.setIfInBounds i true).getD i true = true := by
  rcases Nat.lt_or_ge i li.size with h | h
  · simp [h]
  · simp [Array.getElem?_eq_none h] at hu
theorem TwoFree.aheadW {i : Nat} {o : Oper} {v : Value} (ho : ops[i]? = some o) (hns : ∀ (j : Nat) (x : Oper) cs b, ops[j]? = some x → x.op ≠ .select cs b) (hiz : i ≠ z)
  (hQ : ∀ c a w, Q (.panic c) (a.put o.dst v) w → Q (.panic c) a w) : ∀ (n : Nat) (li : Array Bool) (a : Act) (w : World),
   (∀ j x, ops[j]? = some x → j ≠ i → li.getD j true = false → (∀ e ∈ x.after, Region.binds md e = true → e.on ≠ i) → o.apart ops x = true) →
   i ∈ Region.ready md ops li → YieldsIf P ops (fun _ => True) o v a → (li.getD z true = false → S w) →
   TwoFree P md ops Q S z n (li.setIfInBounds i true) (a.put o.dst v) w → TwoFree P md ops Q S z (n + 1) li a w
 | n, li, a, w, hfree, hr, hy, hS, H => by
  refine ⟨fun h => absurd (h ▸ hr) (by simp), fun j hj => ?_⟩
  by_cases hji : j = i
  ·subst hji
   exact hy.wpOp ho trivial ⟨fun _ => hS, H⟩
  match n, H with
  | 0, H =>
   have h1 := ready_mono hj hji
   rw [H.1] at h1
   cases h1
  | n + 1, H =>
   have h1 := H.2 j (ready_mono hj hji)
   obtain ⟨hun, x, hx, hall⟩ := mem_ready.1 hj
   have hnot : ∀ e ∈ x.after, Region.binds md e = true → e.on ≠ i := fun e he hb heq => by
    have k1 := hall e he hb
    have k0 := (mem_ready.1 hr).1
    rw [heq] at k1
    rcases Nat.lt_or_ge i li.size with h' | h'
    ·simp [h'] at k0 k1
     rw [k0] at k1
     cases k1
    ·simp [Array.getElem?_eq_none h'] at k1
   have h2 := wpOp_putIf hx (hfree j x hx hji hun hnot) (fun cs b => hns i o cs b ho) (fun cs b => hns j x cs b hx) hQ hy h1
   refine wpOp_mono (fun a' w' h3 => ?_) h2
   have hli : ∀ q, (li.setIfInBounds q true).getD z true = false → li.getD z true = false := fun q hq => by
    by_cases hqz : q = z
    ·subst hqz
     cases e : li.getD q true with
     | false => rfl
     | true =>
      rcases Nat.lt_or_ge q li.size with h' | h'
      ·simp [h'] at hq
      ·simp at hq
    ·rwa [getD_set_ne true hqz] at hq
   have hli2 : li.getD z true = false → i ≠ z → (li.setIfInBounds i true).getD z true = false := fun hq hiz => by rwa [getD_set_ne true hiz]
   have hS' : (li.setIfInBounds j true).getD z true = false → S w' := fun hq => by
    have hjz : j ≠ z := fun e => by
     subst e
     rw [getD_at hun] at hq
     cases hq
    exact h3.2.1 hjz (hli2 (hli j hq) hiz)
   refine ⟨fun hjz hq => ?_, TwoFree.aheadW ho hns hiz hQ n (li.setIfInBounds j true) a' w' (fun q y hq hqi hu hno => hfree q y hq hqi ?_ hno) (ready_mono hr (Ne.symm hji)) h3.1 hS' ?_⟩
   ·exact h3.2.1 hjz (hli2 hq hiz)
   ·by_cases hjq : j = q
    ·subst hjq
     exact hun
    ·rw [getD_set_ne true hjq] at hu
     exact hu
   ·rw [Array.setIfInBounds_comm _ _ hji]
    exact h3.2.2
theorem TwoFree.takeW {i : Nat} {o : Oper} {v : Value} {n : Nat} {li : Array Bool} {a : Act} {w : World} (ho : ops[i]? = some o) (hs : Region.noSelect ops = true) (hf : Region.free md ops li i = true) (hr : (Region.ready md ops li).contains i = true) (hzi : i ≠ z)
    (hQ : ∀ c a w, Q (.panic c) (a.put o.dst v) w → Q (.panic c) a w) (hy : YieldsIf P ops (fun _ => True) o v a) (hS : li.getD z true = false → S w) (h : TwoFree P md ops Q S z n (li.setIfInBounds i true) (a.put o.dst v) w) : TwoFree P md ops Q S z (n + 1) li a w :=
  TwoFree.aheadW ho (Region.noSelect_spec hs) hzi hQ n li a w (Region.free_spec ho hf) (by simpa using hr) hy hS h
theorem TwoFree.ahead {i : Nat} {o : Oper} {v : Value} (ho : ops[i]? = some o) (hns : ∀ (j : Nat) (x : Oper) cs b, ops[j]? = some x → x.op ≠ .select cs b) (hw : waits md ops z i = true) (hzi : i ≠ z)
  (hQ : ∀ c a w, Q (.panic c) (a.put o.dst v) w → Q (.panic c) a w) : ∀ (n : Nat) (li : Array Bool) (a : Act) (w : World),
   (∀ j x, ops[j]? = some x → j ≠ i → li.getD j true = false → (∀ e ∈ x.after, Region.binds md e = true → e.on ≠ i) → o.apart ops x = true) →
   i ∈ Region.ready md ops li → YieldsIf P ops S o v a → li.getD z true = false → S w →
   TwoFree P md ops Q S z n (li.setIfInBounds i true) (a.put o.dst v) w → TwoFree P md ops Q S z (n + 1) li a w
 | n, li, a, w, hfree, hr, hy, hz, hS, H => by
  refine ⟨fun h => absurd (h ▸ hr) (by simp), fun j hj => ?_⟩
  by_cases hji : j = i
  ·subst hji
   exact hy.wpOp ho hS ⟨fun _ _ => hS, H⟩
  have hjz : j ≠ z := fun e => waits_not hw hr (e ▸ hj)
  match n, H with
  | 0, H =>
   have h1 := ready_mono hj hji
   rw [H.1] at h1
   cases h1
  | n + 1, H =>
   have h1 := H.2 j (ready_mono hj hji)
   obtain ⟨hun, x, hx, hall⟩ := mem_ready.1 hj
   have hnot : ∀ e ∈ x.after, Region.binds md e = true → e.on ≠ i := fun e he hb heq => by
    have k1 := hall e he hb
    have k0 := (mem_ready.1 hr).1
    rw [heq] at k1
    rcases Nat.lt_or_ge i li.size with h' | h'
    ·simp [h'] at k0 k1
     rw [k0] at k1
     cases k1
    ·simp [Array.getElem?_eq_none h'] at k1
   have h2 := wpOp_putIf hx (hfree j x hx hji hun hnot) (fun cs b => hns i o cs b ho) (fun cs b => hns j x cs b hx) hQ hy h1
   refine wpOp_mono (fun a' w' h3 => ?_) h2
   have hS' := h3.2.1 hjz (by rw [getD_set_ne true hzi]; exact hz)
   refine ⟨fun _ _ => hS', TwoFree.ahead ho hns hw hzi hQ n (li.setIfInBounds j true) a' w' (fun q y hq hqi hu hno => hfree q y hq hqi ?_ hno) (ready_mono hr (Ne.symm hji)) h3.1 (by rw [getD_set_ne true hjz]; exact hz) hS' ?_⟩
   ·by_cases hjq : j = q
    ·subst hjq
     exact hun
    ·rw [getD_set_ne true hjq] at hu
     exact hu
   ·rw [Array.setIfInBounds_comm _ _ hji]
    exact h3.2.2
theorem TwoFree.take {i : Nat} {o : Oper} {v : Value} {n : Nat} {li : Array Bool} {a : Act} {w : World} (ho : ops[i]? = some o) (hs : Region.noSelect ops = true) (hf : Region.free md ops li i = true) (hr : (Region.ready md ops li).contains i = true) (hw : waits md ops z i = true) (hzi : i ≠ z) (hz : li.getD z true = false)
    (hQ : ∀ c a w, Q (.panic c) (a.put o.dst v) w → Q (.panic c) a w) (hy : YieldsIf P ops S o v a) (hS : S w) (h : TwoFree P md ops Q S z n (li.setIfInBounds i true) (a.put o.dst v) w) : TwoFree P md ops Q S z (n + 1) li a w :=
  TwoFree.ahead ho (Region.noSelect_spec hs) hw hzi hQ n li a w (Region.free_spec ho hf) (by simpa using hr) hy hz hS h
theorem TwoFree.one {i : Nat} {n : Nat} {li : Array Bool} {a : Act} {w : World} (hr : Region.ready md ops li = [i]) (h : wpOp P ops Q i (fun a' w' => (i ≠ z → li.getD z true = false → S w') ∧ TwoFree P md ops Q S z n (li.setIfInBounds i true) a' w') a w) : TwoFree P md ops Q S z (n + 1) li a w := by
 refine ⟨fun h0 => by rw [hr] at h0; simp at h0, fun j hj => ?_⟩
 rw [hr] at hj
 have : j = i := by simpa using hj
 rw [this]
 exact h
theorem TwoFree.done {li : Array Bool} {a : Act} {w : World} (hr : Region.ready md ops li = []) (h : Q .normal a w) : ∀ n, TwoFree P md ops Q S z n li a w
  | 0 => ⟨hr, h⟩
  | _ + 1 => ⟨fun _ => h, by rw [hr]; simp⟩
theorem TwoFree.region (S : World → Prop) (z : Nat) {id : Nat} {a : Act} {w : World} (hm : P.follows .mixedOrders = true) (h : TwoFree P .any ops Q S z ops.size (Array.replicate ops.size false) a w.drew) : (Code.region id ops true).wp P Q a w :=
  wp_region_any hm (TwoFree.plain _ _ _ _ h)
end
end Go.Proofs.YtapabahhfanmmaaGreatDoor
