import Derived.Test.YtapabahhfanmmaaGreatDoorRows
import Derived.WalkKit
import Derived.WalkSpells
import Derived.WalkLawsBesides
import Derived.OrdersHeld
import Derived.Deep.RegionHeld
import Derived.Laws.Concat
namespace Go.Proofs.YtapabahhfanmmaaGreatDoor
open Go.RowKit
set_option maxHeartbeats 400000
structure U where
 id:Int
 owner:Int
 kind:Int
 x:Int
 y:Int
 life:Int
 load:Int
 what:Int
 tox:Int
 toy:Int
 target:Int
structure Cm where
 unit:Int
 what:Int
 x:Int
 y:Int
 target:Int
abbrev ii (n:Int):Value:=.int .i64 n
abbrev U.val (u:U):Value:=.agg #[.int .i64 u.id,.int .i64 u.owner,.int .i64 u.kind,.int .i64 u.x,.int .i64 u.y,.int .i64 u.life,.int .i64 u.load,.int .i64 u.what,.int .i64 u.tox,.int .i64 u.toy,.int .i64 u.target]
abbrev U.arr (u:U):Array Value:=#[.int .i64 u.id,.int .i64 u.owner,.int .i64 u.kind,.int .i64 u.x,.int .i64 u.y,.int .i64 u.life,.int .i64 u.load,.int .i64 u.what,.int .i64 u.tox,.int .i64 u.toy,.int .i64 u.target]
abbrev U.cells (u:U):List Value:=[.int .i64 u.id,.int .i64 u.owner,.int .i64 u.kind,.int .i64 u.x,.int .i64 u.y,.int .i64 u.life,.int .i64 u.load,.int .i64 u.what,.int .i64 u.tox,.int .i64 u.toy,.int .i64 u.target]
abbrev Cm.val (c:Cm):Value:=.agg #[.int .i64 c.unit,.int .i64 c.what,.int .i64 c.x,.int .i64 c.y,.int .i64 c.target]
abbrev Cm.cells (c:Cm):List Value:=[.int .i64 c.unit,.int .i64 c.what,.int .i64 c.x,.int .i64 c.y,.int .i64 c.target]
abbrev cv (x y:Int):Value:=.agg #[.int .i64 x,.int .i64 y]
theorem U.one (u:U):u.arr.all (·.oneCell')=true:=by simp [Value.oneCell']
structure Fr (S:List Nat) (w w':World):Prop where
 os:w'.os=w.os
 tape:w'.tape=w.tape
 output:w'.output=w.output
 size:w.heap.size<=w'.heap.size
 block:∀ k,k < w.heap.size->k∉S->w'.heap[k]?=w.heap[k]?
theorem Fr.refl (S:List Nat)(w:World):Fr S w w:=⟨rfl,rfl,rfl,Nat.le_refl _,fun _ _ _=>rfl⟩
theorem Fr.trans {S S':List Nat}{a b c:World}(h:Fr S a b)(k:Fr S' b c)(hs:∀ i∈S',i∈S\/a.heap.size<=i):Fr S a c :=
 ⟨k.os.trans h.os,k.tape.trans h.tape,k.output.trans h.output,Nat.le_trans h.size k.size,fun i hi hn =>
  (k.block i (Nat.lt_of_lt_of_le hi h.size) (fun hm=>by rcases hs i hm with h1|h1;exact hn h1;omega)).trans (h.block i hi hn)⟩
theorem Fr.then0 {S:List Nat}{a b c:World}(h:Fr S a b)(k:Fr [] b c):Fr S a c:=h.trans k (by simp)
theorem Fr.mono {S S':List Nat}{a b:World}(h:Fr S a b)(hs:∀ i∈S,i∈S'\/a.heap.size<=i):Fr S' a b :=
  ⟨h.os,h.tape,h.output,h.size,fun i hi hn=>h.block i hi (fun hm=>by rcases hs i hm with h1|h1;exact hn h1;omega)⟩
theorem Fr.of0 {S:List Nat}{a b:World}(h:Fr [] a b):Fr S a b:=h.mono (by simp)
theorem Fr.alloc {S:List Nat}{a b:World}(h:Fr S a b)(o:Obj):Fr S a (b.alloc o) :=
 ⟨h.os,h.tape,h.output,Nat.le_trans h.size (by simp),fun i hi hn=>by
  rw [Below.heap_alloc _ _ _ (Nat.lt_of_lt_of_le hi h.size)];exact h.block i hi hn⟩
theorem Fr.drew {S:List Nat}{a b:World}(h:Fr S a b):Fr S a b.drew:=⟨h.os,h.tape,h.output,h.size,h.block⟩
theorem Fr.drewN {S:List Nat}{a b:World}(h:Fr S a b)(n:Nat):Fr S a (b.drewN n):=⟨h.os,h.tape,h.output,h.size,h.block⟩
theorem Fr.setCell {S:List Nat}{a b:World}(h:Fr S a b)(p:Addr)(u:Value)(hp:p.block∈S\/a.heap.size<=p.block):Fr S a (b.setCell p u) :=
 ⟨h.os,h.tape,h.output,Nat.le_trans h.size (by simp [World.setCell]),fun i hi hn=>by
  rw [Below.heap_setCell _ _ _ _ (fun e=>by rcases hp with h1|h1;exact hn (e ▸ h1);omega)];exact h.block i hi hn⟩
theorem Fr.below {w w':World}(h:Fr [] w w'):Below w.heap.size w w':=⟨h.os,h.tape,h.output,h.size,fun k hk=>h.block k hk (by simp)⟩
theorem Fr.cell {S:List Nat}{w w':World}(h:Fr S w w')(b o:Nat)(hb:b < w.heap.size)(hn:b∉S):w'.cell? ⟨b,o,none⟩=w.cell? ⟨b,o,none⟩ :=
  World.cell?_of_block (w:=w) (h.block b hb hn)
theorem Fr.frozen {S:List Nat}{w w':World}(h:Fr S w w')(b o:Nat)(hb:b < w.heap.size)(hn:b∉S):w'.frozen? ⟨b,o,none⟩=w.frozen? ⟨b,o,none⟩ :=
  World.frozen?_of_block (w:=w) (h.block b hb hn)
theorem Fr.cells0 {w w':World}(h:Fr [] w w'):(∀ b o,b < w.heap.size->w'.cell? ⟨b,o,none⟩=w.cell? ⟨b,o,none⟩)/\(∀ b o,b < w.heap.size->w'.frozen? ⟨b,o,none⟩=w.frozen? ⟨b,o,none⟩) :=
  ⟨fun b o hb=>h.cell b o hb (by simp),fun b o hb=>h.frozen b o hb (by simp)⟩
theorem Fr.heap0 {w w':World}(h:Fr [] w w'){k:Nat}{o:Obj}(hk:w.heap[k]?=some o):w'.heap[k]?=some o:=by
  rw [h.block k (Array.getElem?_eq_some_iff.1 hk).1 (by simp)];exact hk
theorem Fr.heap {S:List Nat}{w w':World}(h:Fr S w w'){k:Nat}{o:Obj}(hk:w.heap[k]?=some o)(hn:k∉S):w'.heap[k]?=some o:=by
  rw [h.block k (Array.getElem?_eq_some_iff.1 hk).1 hn];exact hk
theorem qq2 {w:World}{k:Nat}{o:Obj}(hk:w.heap[k]?=some o):k < w.heap.size:=(Array.getElem?_eq_some_iff.1 hk).1
theorem qq1 {w:World}{b o:Nat}{v:Value}(hk:w.cell? ⟨b,o,none⟩=some v):b < w.heap.size:=by
 unfold World.cell? at hk
 simp only at hk
 cases h:w.heap[b]? with
 | none=>simp [h] at hk
 | some x=>exact qq2 h
theorem j9 {w:World}{b o:Nat}{cs:Array Value}{t:TypeId}{fz:Nat×Nat}(h:w.heap[b]?=some (.cells cs t fz)):w.cell? ⟨b,o,none⟩=cs[o]?:=by
  simp [World.cell?,h]
theorem qq0 {w:World}{b o:Nat}{cs:Array Value}{t:TypeId}(h:w.heap[b]?=some (.cells cs t (0,0))):w.frozen? ⟨b,o,none⟩=false:=by
  simp [World.frozen?,h]
theorem qq6 (w:World)(o:Obj):(w.alloc o).heap[w.heap.size]?=some o:=by
 show (w.heap.push o)[w.heap.size]?=some o
 simp
theorem qz7 (w:World)(o:Obj)(k:Nat)(h:k < w.heap.size):(w.alloc o).heap[k]?=w.heap[k]?:=Below.heap_alloc w o k h
theorem qz4 (w:World)(A B:Obj):((w.alloc A).alloc B).heap[w.heap.size+1]?=some B:=by
 have h:=qq6 (w.alloc A) B
 rwa [show (w.alloc A).heap.size=w.heap.size+1 by simp] at h
theorem qz8 (w:World)(A B:Obj):((w.alloc A).alloc B).heap[w.heap.size]?=some A:=by
  rw [qz7 _ _ _ (by simp),qq6]
theorem Fr.setRow {S:List Nat}{a b:World}(h:Fr S a b)(g:Nat)(cs:Array Value)(hp:g∈S\/a.heap.size<=g):Fr S a (b.setRow g cs) :=
 ⟨h.os,h.tape,h.output,Nat.le_trans h.size (by simp),fun i hi hn=>by
  rw [setRow_other _ _ _ _ (fun e=>by rcases hp with h1|h1;exact hn (e ▸ h1);omega)];exact h.block i hi hn⟩
theorem qq3 {P:Program} {fn:Func} {p r:Tmp} {ty:TypeId} (h:fn.results=#[.cell p ty,.tmp r]) (tmps:Array Value) (w:World) (g:Nat) (t:TypeId) (cs:Array Value) (fr:Nat×Nat) (d:TypeDesc) (v:Value)
  (hp:tmps.getD p undef=.pointer (some ⟨g,0,none⟩)) (hv:tmps.getD r undef=v) (hg:w.heap[g]?=some (.cells cs t fr))
  (hu:P.underlying ty=some d) (hd:(match d with|.struct _|.array _ _=>true|_=>false)=true) (hi:(P.info? ty).map (·.size)=some cs.size) :
  (results fn tmps).run P w=.ok (.tuple #[.agg cs,v]) w:=by
 have hp':tmps[p]?.getD undef=.pointer (some ⟨g,0,none⟩):=by simpa using hp
 have hv':tmps[r]?.getD undef=v:=by simpa using hv
 simp [results,h,hp',hv',asAddr,run_loadVar_row w g t ty cs fr d hg hu hd hi]
theorem zx4 {a b:Bool}(h:a=b):Ending.returned (.bool a)=.returned (.bool b):=by rw [h]
theorem fj3 {k:IntKind}{a b:Int}(h:a=b):Ending.returned (.int k a)=.returned (.int k b):=by rw [h]
theorem tk {P:Program} {md:Region.Mode} {ops:Array Oper} {Q:Exit->Act->World->Prop} {S:World->Prop} (i:Nat) (v:Value) {oi:Oper} {fuel:Nat} {listed:Array Bool} {a:Act} {w:World} (hi:ops[i]?=some oi)
  (hb:(Region.noSelect ops&&(Region.free md ops listed i&&(Region.ready md ops listed).contains i))=true)
  (hQ:∀ c a w,Q (.panic c) (a.put oi.dst v) w->Q (.panic c) a w) (hy:YieldsIf P ops S oi v a) (hS:S w)
  (h:wpAnyH P md ops Q S fuel (listed.setIfInBounds i true) (a.put oi.dst v) w):wpAnyH P md ops Q S (fuel+1) listed a w:=by
 simp only [Bool.and_eq_true] at hb
 exact wpAnyH_take hi hb.1 hb.2.1 hb.2.2 hQ hy hS h
theorem tu {P:Program} {md:Region.Mode} {ops:Array Oper} {Q:Exit->Act->World->Prop} {S:World->Prop} (i:Nat) {oi:Oper} {fuel:Nat} {listed:Array Bool} {a:Act} {w:World} (hi:ops[i]?=some oi)
  (hb:(Region.noSelect ops&&(Region.free md ops listed i&&(Region.ready md ops listed).contains i))=true)
  (hQ:∀ c a w,Q (.panic c) (a.put oi.dst undef) w->Q (.panic c) a w) (hg:Region.wanted oi (yielded ops a.tmps)=false) (hS:S w)
  (h:wpAnyH P md ops Q S fuel (listed.setIfInBounds i true) (a.put oi.dst undef) w):wpAnyH P md ops Q S (fuel+1) listed a w :=
 tk i undef hi hb hQ (Or.inr ⟨hg,rfl⟩) hS h
theorem G {α:Type}:(∀ (l:List α) (i:Nat),l.toArray[i]?=l[i]?)/\(∀ (a:α) (l:List α),(a :: l)[0]?=some a)/\(∀ (a:α) (l:List α) (i:Nat),(a :: l)[i+1]?=l[i]?):=⟨fun _ _=>List.getElem?_toArray,fun _ _=>List.getElem?_cons_zero,fun _ _ _=>List.getElem?_cons_succ⟩
theorem Z {α:Type}:(∀ (l:List α) (i:Nat) (a:α),l.toArray.setIfInBounds i a=(l.set i a).toArray)/\(∀ (a b:α) (l:List α),(a :: l).set 0 b=b :: l)/\(∀ (a b:α) (l:List α) (i:Nat),(a :: l).set (i+1) b=a :: l.set i b):=⟨fun _ _ _=>by simp,fun _ _ _=>rfl,fun _ _ _ _=>rfl⟩
theorem ta {P:Program} {md:Region.Mode} {ops:Array Oper} {Q:Exit->Act->World->Prop} {S:World->Prop} (i:Nat) {v:Value} {oi:Oper} {fuel:Nat} {listed:Array Bool} {a:Act} {w:World} (hS:S w)
  (h:wpAnyH P md ops Q S fuel (listed.setIfInBounds i true) (a.put oi.dst v) w) (hi:ops[i]?=some oi:=by simp only [G];rfl)
  (hb:(Region.noSelect ops&&(Region.free md ops listed i&&(Region.ready md ops listed).contains i))=true:=by kernel_rfl)
  (hQ:∀ c a w,Q (.panic c) (a.put oi.dst v) w->Q (.panic c) a w:=by exact fun _ _ _ h=>h)
  (hy:YieldsIf P ops S oi v a:=by first|(refine Or.inl ⟨by rfl,?_⟩;intro w h;go_simp;first|with_reducible rfl|done|rw [if_neg (by omega)])|exact Or.inr ⟨by rfl,rfl⟩):wpAnyH P md ops Q S (fuel+1) listed a w :=
 tk i v hi hb hQ hy hS h
theorem tn {P:Program} {md:Region.Mode} {ops:Array Oper} {Q:Exit->Act->World->Prop} {S:World->Prop} (n:Nat) {i:Nat} {v:Value} {oi:Oper} {fuel:Nat} {listed:Array Bool} {a:Act} {w:World} (hS:S w)
  (h:wpAnyH P md ops Q S fuel (listed.setIfInBounds i true) (a.put oi.dst v) w) (hn:n - (fuel+1)=i:=by simp only [Nat.reduceAdd,Nat.reduceSub];rfl) (hi:ops[i]?=some oi:=by simp only [G];rfl)
  (hb:(Region.noSelect ops&&(Region.free md ops listed i&&(Region.ready md ops listed).contains i))=true:=by kernel_rfl)
  (hQ:∀ c a w,Q (.panic c) (a.put oi.dst v) w->Q (.panic c) a w:=by exact fun _ _ _ h=>h)
  (hy:YieldsIf P ops S oi v a:=by first|(refine Or.inl ⟨by rfl,?_⟩;intro w h;go_simp;first|with_reducible rfl|done|rw [if_neg (by omega)])|exact Or.inr ⟨by rfl,rfl⟩):wpAnyH P md ops Q S (fuel+1) listed a w:=by
 subst hn
 exact ta _ hS h hi hb hQ hy
theorem hid {P:Prop}(h:P):Hid P:=h
abbrev cl (w:World)(b o:Nat)(x:Int):Prop:=w.cell? ⟨b,o,none⟩=some (.int .i64 x)
end Go.Proofs.YtapabahhfanmmaaGreatDoor
namespace Go.Proofs.YtapabahhfanmmaaGreatDoor
open Go
section
variable {P:Program} {ops:Array Oper} {Q:Exit->Act->World->Prop} {md:Region.Mode} {S:World->Prop} {z:Nat}
def OneFree (P:Program)(md:Region.Mode)(ops:Array Oper)(Q:Exit->Act->World->Prop)(S:World->Prop)(z:Nat):Nat->Array Bool->Act->World->Prop
 | 0,li,a,w=>Region.ready md ops li=[]/\Q .normal a w
 | n+1,li,a,w=>(Region.ready md ops li=[]->Q .normal a w)/\∀ i∈Region.ready md ops li,wpOp P ops Q i (fun a' w'=>(i≠z->S w')/\OneFree P md ops Q S z n (li.setIfInBounds i true) a' w') a w
theorem OneFree.plain:∀ (n:Nat) (li:Array Bool) (a:Act) (w:World),OneFree P md ops Q S z n li a w->wpAny P md ops Q n li a w
 | 0,_,_,_,h=>h
 | n+1,_,_,_,h=>⟨h.1,fun i hi=>wpOp_mono (fun a' w' k=>OneFree.plain n _ a' w' k.2) (h.2 i hi)⟩
def yy9 (md:Region.Mode)(ops:Array Oper)(z i:Nat):Bool:=match ops[z]? with
 | some o=>o.after.any fun e=>Region.binds md e&&e.on==i
 | none=>false
theorem xv8 {li:Array Bool}{i:Nat}(hw:yy9 md ops z i=true)(hi:i∈Region.ready md ops li):z∉Region.ready md ops li:=fun hz=>by
 obtain ⟨_,oz,hoz,hall⟩:=mem_ready.1 hz
 unfold yy9 at hw
 rw [hoz] at hw
 obtain ⟨e,he,hb⟩:=Array.any_eq_true'.1 hw
 have hb':Region.binds md e=true/\e.on=i:=by simpa using hb
 have h1:=hall e he hb'.1
 have h0:=(mem_ready.1 hi).1
 rw [hb'.2] at h1
 rcases Nat.lt_or_ge i li.size with h'|h'
 ·simp [h'] at h0 h1
  rw [h0] at h1
  cases h1
 ·simp [Array.getElem?_eq_none h'] at h1
theorem OneFree.ahead {i:Nat} {o:Oper} {v:Value} (ho:ops[i]?=some o) (hns:∀ (j:Nat) (x:Oper) cs b,ops[j]?=some x->x.op≠.select cs b) (hw:yy9 md ops z i=true) (hzi:i≠z)
  (hQ:∀ c a w,Q (.panic c) (a.put o.dst v) w->Q (.panic c) a w):∀ (n:Nat) (li:Array Bool) (a:Act) (w:World),
   (∀ j x,ops[j]?=some x->j≠i->li.getD j true=false->(∀ e∈x.after,Region.binds md e=true->e.on≠i)->o.apart ops x=true) ->
   i∈Region.ready md ops li->YieldsIf P ops S o v a->S w ->
   OneFree P md ops Q S z n (li.setIfInBounds i true) (a.put o.dst v) w->OneFree P md ops Q S z (n+1) li a w
 | n,li,a,w,hfree,hr,hy,hS,H=>by
  refine ⟨fun h=>absurd (h ▸ hr) (by simp),fun j hj=>?_⟩
  by_cases hji:j=i
  ·subst hji
   exact hy.wpOp ho hS ⟨fun _=>hS,H⟩
  have hjz:j≠z:=fun e=>xv8 hw hr (e ▸ hj)
  match n,H with
  | 0,H =>
   have h1:=ready_mono hj hji
   rw [H.1] at h1
   cases h1
  | n+1,H =>
   have h1:=H.2 j (ready_mono hj hji)
   obtain ⟨hun,x,hx,hall⟩:=mem_ready.1 hj
   have hnot:∀ e∈x.after,Region.binds md e=true->e.on≠i:=fun e he hb heq=>by
    have k1:=hall e he hb
    have k0:=(mem_ready.1 hr).1
    rw [heq] at k1
    rcases Nat.lt_or_ge i li.size with h'|h'
    ·simp [h'] at k0 k1
     rw [k0] at k1
     cases k1
    ·simp [Array.getElem?_eq_none h'] at k1
   have h2:=wpOp_putIf hx (hfree j x hx hji hun hnot) (fun cs b=>hns i o cs b ho) (fun cs b=>hns j x cs b hx) hQ hy h1
   refine wpOp_mono (fun a' w' h3=>?_) h2
   have hS':=h3.2.1 hjz
   refine ⟨fun _=>hS',OneFree.ahead ho hns hw hzi hQ n (li.setIfInBounds j true) a' w' (fun q y hq hqi hu hno=>hfree q y hq hqi ?_ hno) (ready_mono hr (Ne.symm hji)) h3.1 hS' ?_⟩
   ·by_cases hjq:j=q
    ·subst hjq
     exact hun
    ·rw [getD_set_ne true hjq] at hu
     exact hu
   ·rw [Array.setIfInBounds_comm _ _ hji]
    exact h3.2.2
theorem OneFree.take {i:Nat} {o:Oper} {v:Value} {n:Nat} {li:Array Bool} {a:Act} {w:World} (ho:ops[i]?=some o) (hs:Region.noSelect ops=true) (hf:Region.free md ops li i=true) (hr:(Region.ready md ops li).contains i=true) (hw:yy9 md ops z i=true) (hzi:i≠z)
  (hQ:∀ c a w,Q (.panic c) (a.put o.dst v) w->Q (.panic c) a w) (hy:YieldsIf P ops S o v a) (hS:S w) (h:OneFree P md ops Q S z n (li.setIfInBounds i true) (a.put o.dst v) w):OneFree P md ops Q S z (n+1) li a w :=
 OneFree.ahead ho (Region.noSelect_spec hs) hw hzi hQ n li a w (Region.free_spec ho hf) (by simpa using hr) hy hS h
theorem OneFree.one {i:Nat}{n:Nat}{li:Array Bool}{a:Act}{w:World}(hr:Region.ready md ops li=[i])(h:wpOp P ops Q i (fun a' w'=>(i≠z->S w')/\OneFree P md ops Q S z n (li.setIfInBounds i true) a' w') a w):OneFree P md ops Q S z (n+1) li a w:=by
 refine ⟨fun h0=>by rw [hr] at h0;simp at h0,fun j hj=>?_⟩
 rw [hr] at hj
 have:j=i:=by simpa using hj
 rw [this]
 exact h
theorem OneFree.done {li:Array Bool}{a:Act}{w:World}(hr:Region.ready md ops li=[])(h:Q .normal a w):∀ n,OneFree P md ops Q S z n li a w
 | 0=>⟨hr,h⟩
 | _+1=>⟨fun _=>h,by rw [hr];simp⟩
theorem OneFree.region (S:World->Prop)(z:Nat){id:Nat}{a:Act}{w:World}(hm:P.follows .mixedOrders=true)(h:OneFree P .any ops Q S z ops.size (Array.replicate ops.size false) a w.drew):(Code.region id ops true).wp P Q a w :=
  wp_region_any hm (OneFree.plain _ _ _ _ h)
end
end Go.Proofs.YtapabahhfanmmaaGreatDoor
namespace Go.Proofs.YtapabahhfanmmaaGreatDoor
open Go
section
variable {P:Program} {ops:Array Oper} {Q:Exit->Act->World->Prop} {md:Region.Mode} {S:World->Prop} {z:Nat}
def TwoFree (P:Program)(md:Region.Mode)(ops:Array Oper)(Q:Exit->Act->World->Prop)(S:World->Prop)(z:Nat):Nat->Array Bool->Act->World->Prop
 | 0,li,a,w=>Region.ready md ops li=[]/\Q .normal a w
 | n+1,li,a,w=>(Region.ready md ops li=[]->Q .normal a w)/\∀ i∈Region.ready md ops li,wpOp P ops Q i (fun a' w'=>(i≠z->li.getD z true=false->S w')/\TwoFree P md ops Q S z n (li.setIfInBounds i true) a' w') a w
theorem TwoFree.plain:∀ (n:Nat) (li:Array Bool) (a:Act) (w:World),TwoFree P md ops Q S z n li a w->wpAny P md ops Q n li a w
 | 0,_,_,_,h=>h
 | n+1,_,_,_,h=>⟨h.1,fun i hi=>wpOp_mono (fun a' w' k=>TwoFree.plain n _ a' w' k.2) (h.2 i hi)⟩
theorem qqj2 {li:Array Bool}{i:Nat}(hu:li.getD i true=false):(li.setIfInBounds i true).getD i true=true:=by
 rcases Nat.lt_or_ge i li.size with h|h
 ·simp [h]
 ·simp [Array.getElem?_eq_none h] at hu
theorem TwoFree.aheadW {i:Nat} {o:Oper} {v:Value} (ho:ops[i]?=some o) (hns:∀ (j:Nat) (x:Oper) cs b,ops[j]?=some x->x.op≠.select cs b) (hiz:i≠z)
  (hQ:∀ c a w,Q (.panic c) (a.put o.dst v) w->Q (.panic c) a w):∀ (n:Nat) (li:Array Bool) (a:Act) (w:World),
   (∀ j x,ops[j]?=some x->j≠i->li.getD j true=false->(∀ e∈x.after,Region.binds md e=true->e.on≠i)->o.apart ops x=true) ->
   i∈Region.ready md ops li->YieldsIf P ops (fun _=>True) o v a->(li.getD z true=false->S w) ->
   TwoFree P md ops Q S z n (li.setIfInBounds i true) (a.put o.dst v) w->TwoFree P md ops Q S z (n+1) li a w
 | n,li,a,w,hfree,hr,hy,hS,H=>by
  refine ⟨fun h=>absurd (h ▸ hr) (by simp),fun j hj=>?_⟩
  by_cases hji:j=i
  ·subst hji
   exact hy.wpOp ho trivial ⟨fun _=>hS,H⟩
  match n,H with
  | 0,H =>
   have h1:=ready_mono hj hji
   rw [H.1] at h1
   cases h1
  | n+1,H =>
   have h1:=H.2 j (ready_mono hj hji)
   obtain ⟨hun,x,hx,hall⟩:=mem_ready.1 hj
   have hnot:∀ e∈x.after,Region.binds md e=true->e.on≠i:=fun e he hb heq=>by
    have k1:=hall e he hb
    have k0:=(mem_ready.1 hr).1
    rw [heq] at k1
    rcases Nat.lt_or_ge i li.size with h'|h'
    ·simp [h'] at k0 k1
     rw [k0] at k1
     cases k1
    ·simp [Array.getElem?_eq_none h'] at k1
   have h2:=wpOp_putIf hx (hfree j x hx hji hun hnot) (fun cs b=>hns i o cs b ho) (fun cs b=>hns j x cs b hx) hQ hy h1
   refine wpOp_mono (fun a' w' h3=>?_) h2
   have hli:∀ q,(li.setIfInBounds q true).getD z true=false->li.getD z true=false:=fun q hq=>by
    by_cases hqz:q=z
    ·subst hqz
     cases e:li.getD q true with
     | false=>rfl
     | true =>
      rcases Nat.lt_or_ge q li.size with h'|h'
      ·simp [h'] at hq
      ·simp at hq
    ·rwa [getD_set_ne true hqz] at hq
   have hli2:li.getD z true=false->i≠z->(li.setIfInBounds i true).getD z true=false:=fun hq hiz=>by rwa [getD_set_ne true hiz]
   have hS':(li.setIfInBounds j true).getD z true=false->S w':=fun hq=>by
    have hjz:j≠z:=fun e=>by
     subst e
     rw [qqj2 hun] at hq
     cases hq
    exact h3.2.1 hjz (hli2 (hli j hq) hiz)
   refine ⟨fun hjz hq=>?_,TwoFree.aheadW ho hns hiz hQ n (li.setIfInBounds j true) a' w' (fun q y hq hqi hu hno=>hfree q y hq hqi ?_ hno) (ready_mono hr (Ne.symm hji)) h3.1 hS' ?_⟩
   ·exact h3.2.1 hjz (hli2 hq hiz)
   ·by_cases hjq:j=q
    ·subst hjq
     exact hun
    ·rw [getD_set_ne true hjq] at hu
     exact hu
   ·rw [Array.setIfInBounds_comm _ _ hji]
    exact h3.2.2
theorem TwoFree.takeW {i:Nat} {o:Oper} {v:Value} {n:Nat} {li:Array Bool} {a:Act} {w:World} (ho:ops[i]?=some o) (hs:Region.noSelect ops=true) (hf:Region.free md ops li i=true) (hr:(Region.ready md ops li).contains i=true) (hzi:i≠z)
  (hQ:∀ c a w,Q (.panic c) (a.put o.dst v) w->Q (.panic c) a w) (hy:YieldsIf P ops (fun _=>True) o v a) (hS:li.getD z true=false->S w) (h:TwoFree P md ops Q S z n (li.setIfInBounds i true) (a.put o.dst v) w):TwoFree P md ops Q S z (n+1) li a w :=
 TwoFree.aheadW ho (Region.noSelect_spec hs) hzi hQ n li a w (Region.free_spec ho hf) (by simpa using hr) hy hS h
theorem TwoFree.ahead {i:Nat} {o:Oper} {v:Value} (ho:ops[i]?=some o) (hns:∀ (j:Nat) (x:Oper) cs b,ops[j]?=some x->x.op≠.select cs b) (hw:yy9 md ops z i=true) (hzi:i≠z)
  (hQ:∀ c a w,Q (.panic c) (a.put o.dst v) w->Q (.panic c) a w):∀ (n:Nat) (li:Array Bool) (a:Act) (w:World),
   (∀ j x,ops[j]?=some x->j≠i->li.getD j true=false->(∀ e∈x.after,Region.binds md e=true->e.on≠i)->o.apart ops x=true) ->
   i∈Region.ready md ops li->YieldsIf P ops S o v a->li.getD z true=false->S w ->
   TwoFree P md ops Q S z n (li.setIfInBounds i true) (a.put o.dst v) w->TwoFree P md ops Q S z (n+1) li a w
 | n,li,a,w,hfree,hr,hy,hz,hS,H=>by
  refine ⟨fun h=>absurd (h ▸ hr) (by simp),fun j hj=>?_⟩
  by_cases hji:j=i
  ·subst hji
   exact hy.wpOp ho hS ⟨fun _ _=>hS,H⟩
  have hjz:j≠z:=fun e=>xv8 hw hr (e ▸ hj)
  match n,H with
  | 0,H =>
   have h1:=ready_mono hj hji
   rw [H.1] at h1
   cases h1
  | n+1,H =>
   have h1:=H.2 j (ready_mono hj hji)
   obtain ⟨hun,x,hx,hall⟩:=mem_ready.1 hj
   have hnot:∀ e∈x.after,Region.binds md e=true->e.on≠i:=fun e he hb heq=>by
    have k1:=hall e he hb
    have k0:=(mem_ready.1 hr).1
    rw [heq] at k1
    rcases Nat.lt_or_ge i li.size with h'|h'
    ·simp [h'] at k0 k1
     rw [k0] at k1
     cases k1
    ·simp [Array.getElem?_eq_none h'] at k1
   have h2:=wpOp_putIf hx (hfree j x hx hji hun hnot) (fun cs b=>hns i o cs b ho) (fun cs b=>hns j x cs b hx) hQ hy h1
   refine wpOp_mono (fun a' w' h3=>?_) h2
   have hS':=h3.2.1 hjz (by rw [getD_set_ne true hzi];exact hz)
   refine ⟨fun _ _=>hS',TwoFree.ahead ho hns hw hzi hQ n (li.setIfInBounds j true) a' w' (fun q y hq hqi hu hno=>hfree q y hq hqi ?_ hno) (ready_mono hr (Ne.symm hji)) h3.1 (by rw [getD_set_ne true hjz];exact hz) hS' ?_⟩
   ·by_cases hjq:j=q
    ·subst hjq
     exact hun
    ·rw [getD_set_ne true hjq] at hu
     exact hu
   ·rw [Array.setIfInBounds_comm _ _ hji]
    exact h3.2.2
theorem TwoFree.take {i:Nat} {o:Oper} {v:Value} {n:Nat} {li:Array Bool} {a:Act} {w:World} (ho:ops[i]?=some o) (hs:Region.noSelect ops=true) (hf:Region.free md ops li i=true) (hr:(Region.ready md ops li).contains i=true) (hw:yy9 md ops z i=true) (hzi:i≠z) (hz:li.getD z true=false)
  (hQ:∀ c a w,Q (.panic c) (a.put o.dst v) w->Q (.panic c) a w) (hy:YieldsIf P ops S o v a) (hS:S w) (h:TwoFree P md ops Q S z n (li.setIfInBounds i true) (a.put o.dst v) w):TwoFree P md ops Q S z (n+1) li a w :=
 TwoFree.ahead ho (Region.noSelect_spec hs) hw hzi hQ n li a w (Region.free_spec ho hf) (by simpa using hr) hy hz hS h
theorem TwoFree.one {i:Nat}{n:Nat}{li:Array Bool}{a:Act}{w:World}(hr:Region.ready md ops li=[i])(h:wpOp P ops Q i (fun a' w'=>(i≠z->li.getD z true=false->S w')/\TwoFree P md ops Q S z n (li.setIfInBounds i true) a' w') a w):TwoFree P md ops Q S z (n+1) li a w:=by
 refine ⟨fun h0=>by rw [hr] at h0;simp at h0,fun j hj=>?_⟩
 rw [hr] at hj
 have:j=i:=by simpa using hj
 rw [this]
 exact h
theorem TwoFree.done {li:Array Bool}{a:Act}{w:World}(hr:Region.ready md ops li=[])(h:Q .normal a w):∀ n,TwoFree P md ops Q S z n li a w
 | 0=>⟨hr,h⟩
 | _+1=>⟨fun _=>h,by rw [hr];simp⟩
theorem TwoFree.region (S:World->Prop)(z:Nat){id:Nat}{a:Act}{w:World}(hm:P.follows .mixedOrders=true)(h:TwoFree P .any ops Q S z ops.size (Array.replicate ops.size false) a w.drew):(Code.region id ops true).wp P Q a w :=
  wp_region_any hm (TwoFree.plain _ _ _ _ h)
end
theorem tw {P:Program} {ops:Array Oper} {Q:Exit->Act->World->Prop} {md:Region.Mode} {S:World->Prop} {z:Nat} (i:Nat) {o:Oper} {v:Value} {n:Nat} {li:Array Bool} {a:Act} {w:World} (hS:li.getD z true=false->S w) (h:TwoFree P md ops Q S z n (li.setIfInBounds i true) (a.put o.dst v) w)
  (ho:ops[i]?=some o:=by simp only [G];rfl) (hs:Region.noSelect ops=true:=by kernel_rfl) (hf:Region.free md ops li i=true:=by kernel_rfl) (hr:(Region.ready md ops li).contains i=true:=by kernel_rfl) (hzi:i≠z:=by decide)
  (hQ:∀ c a w,Q (.panic c) (a.put o.dst v) w->Q (.panic c) a w:=by exact fun _ _ _ h=>h) (hy:YieldsIf P ops (fun _=>True) o v a:=by first|(refine Or.inl ⟨by rfl,?_⟩;intro w h;go_simp;first|with_reducible rfl|done)|exact Or.inr ⟨by rfl,rfl⟩):TwoFree P md ops Q S z (n+1) li a w :=
 TwoFree.takeW ho hs hf hr hzi hQ hy hS h
theorem tt {P:Program} {ops:Array Oper} {Q:Exit->Act->World->Prop} {md:Region.Mode} {S:World->Prop} {z:Nat} (i:Nat) {o:Oper} {v:Value} {n:Nat} {li:Array Bool} {a:Act} {w:World} (hS:S w) (h:TwoFree P md ops Q S z n (li.setIfInBounds i true) (a.put o.dst v) w)
  (ho:ops[i]?=some o:=by simp only [G];rfl) (hs:Region.noSelect ops=true:=by kernel_rfl) (hf:Region.free md ops li i=true:=by kernel_rfl) (hr:(Region.ready md ops li).contains i=true:=by kernel_rfl) (hw:yy9 md ops z i=true:=by kernel_rfl) (hzi:i≠z:=by decide) (hz:li.getD z true=false:=by kernel_rfl)
  (hQ:∀ c a w,Q (.panic c) (a.put o.dst v) w->Q (.panic c) a w:=by exact fun _ _ _ h=>h) (hy:YieldsIf P ops S o v a:=by first|(refine Or.inl ⟨by rfl,?_⟩;intro w h;go_simp;first|with_reducible rfl|done)|exact Or.inr ⟨by rfl,rfl⟩):TwoFree P md ops Q S z (n+1) li a w :=
 TwoFree.take ho hs hf hr hw hzi hz hQ hy hS h
theorem tv {P:Program} {ops:Array Oper} {Q:Exit->Act->World->Prop} {md:Region.Mode} {S:World->Prop} {z:Nat} (i:Nat) {o:Oper} {v:Value} {n:Nat} {li:Array Bool} {a:Act} {w:World} (hS:S w) (h:OneFree P md ops Q S z n (li.setIfInBounds i true) (a.put o.dst v) w)
  (ho:ops[i]?=some o:=by simp only [G];rfl) (hs:Region.noSelect ops=true:=by kernel_rfl) (hf:Region.free md ops li i=true:=by kernel_rfl) (hr:(Region.ready md ops li).contains i=true:=by kernel_rfl) (hw:yy9 md ops z i=true:=by kernel_rfl) (hzi:i≠z:=by decide)
  (hQ:∀ c a w,Q (.panic c) (a.put o.dst v) w->Q (.panic c) a w:=by exact fun _ _ _ h=>h) (hy:YieldsIf P ops S o v a:=by first|(refine Or.inl ⟨by rfl,?_⟩;intro w h;go_simp;first|with_reducible rfl|done)|exact Or.inr ⟨by rfl,rfl⟩):OneFree P md ops Q S z (n+1) li a w :=
 OneFree.take ho hs hf hr hw hzi hQ hy hS h
def onB (x y:Int):Bool:=decide (0<=x)&&(decide (x < 12)&&(decide (0<=y)&&decide (y < 12)))
theorem qz3 {x y:Int}:onB x y=true↔0<=x/\x < 12/\0<=y/\y < 12:=by simp [onB]
theorem kv9 (x y:Int)(w:World) :
  Calls Tryz.prog 201 #[cv x y] w fun e w'=>e=.returned (.bool (onB x y))/\Fr [] w w':=by
 go_enter Tryz.func201,Tryz.ntmps201
 go_wp2
 all_goals
  go_ret
  exact ⟨zx4 (by simp [onB, *] <;> omega),(Fr.refl _ _).alloc _⟩
theorem xx6 (x:Int)(w:World) :
  Calls Tryz.prog 204 #[.int .i64 x] w fun e w'=>e=.returned (.bool (decide (0 < x)&&decide (x < 10)))/\w=w':=by
 go_enter Tryz.func204,Tryz.ntmps204
 go_wp2
 all_goals
  go_ret
  exact ⟨zx4 (by simp [*] <;> omega),rfl⟩
theorem qv2 (u:U)(w:World) :
  Calls Tryz.prog 192 #[u.val] w fun e w'=>e=.returned (cv u.x u.y)/\Fr [] w w':=by
 go_enter Tryz.func192,Tryz.ntmps192
 go_wp2
 exact bodyPost_ret (v:=cv u.x u.y) (by simp [results,Tryz.results192,go_sem]) rfl ⟨rfl,((Fr.refl _ _).alloc _).alloc _⟩
end Go.Proofs.YtapabahhfanmmaaGreatDoor
