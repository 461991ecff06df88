import Derived.Test.YtapabahhfanmmaaGreatDoorRows
import Derived.WalkKit
import Derived.WalkSpells
import Derived.WalkLawsBesides
import Derived.OrdersHeld
import Derived.Deep.RegionHeld
namespace Go.Proofs.YtapabahhfanmmaaGreatDoor
open Go.RowKit List
set_option maxHeartbeats 400000
structure U where
 id:Int
 owner:Int
 kind:Int
 x:Int
 y:Int
 life:Int
 load:Int
 what:Int
 tox:Int
 toy:Int
 target:Int
structure Cm where
 unit:Int
 what:Int
 x:Int
 y:Int
 target:Int
abbrev ii (n:Int):Value:=.int .i64 n
abbrev U.val (u:U):Value:=.agg #[.int .i64 u.id,.int .i64 u.owner,.int .i64 u.kind,.int .i64 u.x,.int .i64 u.y,.int .i64 u.life,.int .i64 u.load,.int .i64 u.what,.int .i64 u.tox,.int .i64 u.toy,.int .i64 u.target]
abbrev U.arr (u:U):Array Value:=#[.int .i64 u.id,.int .i64 u.owner,.int .i64 u.kind,.int .i64 u.x,.int .i64 u.y,.int .i64 u.life,.int .i64 u.load,.int .i64 u.what,.int .i64 u.tox,.int .i64 u.toy,.int .i64 u.target]
abbrev U.cells (u:U):List Value:=[.int .i64 u.id,.int .i64 u.owner,.int .i64 u.kind,.int .i64 u.x,.int .i64 u.y,.int .i64 u.life,.int .i64 u.load,.int .i64 u.what,.int .i64 u.tox,.int .i64 u.toy,.int .i64 u.target]
abbrev Cm.val (c:Cm):Value:=.agg #[.int .i64 c.unit,.int .i64 c.what,.int .i64 c.x,.int .i64 c.y,.int .i64 c.target]
abbrev Cm.cells (c:Cm):List Value:=[.int .i64 c.unit,.int .i64 c.what,.int .i64 c.x,.int .i64 c.y,.int .i64 c.target]
abbrev cv (x y:Int):Value:=.agg #[.int .i64 x,.int .i64 y]
theorem U.one (u:U):u.arr.all (·.oneCell')=true:=by simp [Value.oneCell']
structure Fr (S:List Nat) (w w':World):Prop where
 os:w'.os=w.os
 tape:w'.tape=w.tape
 output:w'.output=w.output
 size:w.heap.size<=w'.heap.size
 block:∀ k,k < w.heap.size->k∉S->w'.heap[k]?=w.heap[k]?
theorem Fr.refl (S:List Nat)(w:World):Fr S w w:=⟨rfl,rfl,rfl,Nat.le_refl _,fun _ _ _=>rfl⟩
theorem Fr.trans {S S':List Nat}{a b c:World}(h:Fr S a b)(k:Fr S' b c)(hs:∀ i∈S',i∈S\/a.heap.size<=i):Fr S a c :=
 ⟨k.os.trans h.os,k.tape.trans h.tape,k.output.trans h.output,Nat.le_trans h.size k.size,fun i hi hn =>
  (k.block i (Nat.lt_of_lt_of_le hi h.size) (fun hm=>by rcases hs i hm with h1|h1;exact hn h1;omega)).trans (h.block i hi hn)⟩
theorem Fr.then0 {S:List Nat}{a b c:World}(h:Fr S a b)(k:Fr [] b c):Fr S a c:=h.trans k (by simp)
theorem Fr.mono {S S':List Nat}{a b:World}(h:Fr S a b)(hs:∀ i∈S,i∈S'\/a.heap.size<=i):Fr S' a b :=
  ⟨h.os,h.tape,h.output,h.size,fun i hi hn=>h.block i hi (fun hm=>by rcases hs i hm with h1|h1;exact hn h1;omega)⟩
theorem Fr.of0 {S:List Nat}{a b:World}(h:Fr [] a b):Fr S a b:=h.mono (by simp)
theorem Fr.alloc {S:List Nat}{a b:World}(h:Fr S a b)(o:Obj):Fr S a (b.alloc o) :=
 ⟨h.os,h.tape,h.output,Nat.le_trans h.size (by simp),fun i hi hn=>by
  rw [Below.heap_alloc _ _ _ (Nat.lt_of_lt_of_le hi h.size)];exact h.block i hi hn⟩
theorem Fr.drew {S:List Nat}{a b:World}(h:Fr S a b):Fr S a b.drew:=⟨h.os,h.tape,h.output,h.size,h.block⟩
theorem Fr.drewN {S:List Nat}{a b:World}(h:Fr S a b)(n:Nat):Fr S a (b.drewN n):=⟨h.os,h.tape,h.output,h.size,h.block⟩
theorem Fr.setCell {S:List Nat}{a b:World}(h:Fr S a b)(p:Addr)(u:Value)(c:p.block∈S\/a.heap.size<=p.block):Fr S a (b.setCell p u) :=
 ⟨h.os,h.tape,h.output,Nat.le_trans h.size (by simp [World.setCell]),fun i hi hn=>by
  rw [Below.heap_setCell _ _ _ _ (fun e=>by rcases c with h1|h1;exact hn (e ▸ h1);omega)];exact h.block i hi hn⟩
theorem Fr.below {w a:World}(h:Fr [] w a):Below w.heap.size w a:=⟨h.os,h.tape,h.output,h.size,fun k b=>h.block k b (by simp)⟩
theorem Fr.of_below {w a:World}(h:Below w.heap.size w a):Fr [] w a:=⟨h.os,h.tape,h.output,h.size,fun k b _=>h.block k b⟩
theorem Fr.cell {S:List Nat}{w a:World}(h:Fr S w a)(b o:Nat)(hb:b < w.heap.size)(hn:b∉S):a.cell? ⟨b,o,none⟩=w.cell? ⟨b,o,none⟩ :=
  World.cell?_of_block (w:=w) (h.block b hb hn)
theorem Fr.frozen {S:List Nat}{w a:World}(h:Fr S w a)(b o:Nat)(hb:b < w.heap.size)(hn:b∉S):a.frozen? ⟨b,o,none⟩=w.frozen? ⟨b,o,none⟩ :=
  World.frozen?_of_block (w:=w) (h.block b hb hn)
theorem Fr.cells0 {w a:World}(h:Fr [] w a):(∀ b o,b < w.heap.size->a.cell? ⟨b,o,none⟩=w.cell? ⟨b,o,none⟩)/\(∀ b o,b < w.heap.size->a.frozen? ⟨b,o,none⟩=w.frozen? ⟨b,o,none⟩) :=
  ⟨fun b o hb=>h.cell b o hb (by simp),fun b o hb=>h.frozen b o hb (by simp)⟩
theorem Fr.heap0 {w b:World}(h:Fr [] w b){k:Nat}{o:Obj}(a:w.heap[k]?=some o):b.heap[k]?=some o:=by
  rw [h.block k (Array.getElem?_eq_some_iff.1 a).1 (by simp)];exact a
theorem Fr.heap {S:List Nat}{w b:World}(h:Fr S w b){k:Nat}{o:Obj}(a:w.heap[k]?=some o)(hn:k∉S):b.heap[k]?=some o:=by
  rw [h.block k (Array.getElem?_eq_some_iff.1 a).1 hn];exact a
theorem aH {w:World}{k:Nat}{o:Obj}(a:w.heap[k]?=some o):k < w.heap.size:=(Array.getElem?_eq_some_iff.1 a).1
theorem aI {w:World}{b o:Nat}{v:Value}(a:w.cell? ⟨b,o,none⟩=some v):b < w.heap.size:=by
 unfold World.cell? at a
 simp only at a
 cases h:w.heap[b]? with
 | none=>simp [h] at a
 | some x=>exact aH h
theorem aB {w:World}{b o:Nat}{cs:Array Value}{t:TypeId}{fz:Nat×Nat}(h:w.heap[b]?=some (.cells cs t fz)):w.cell? ⟨b,o,none⟩=cs[o]?:=by
  simp [World.cell?,h]
theorem bI {w:World}{b o:Nat}{cs:Array Value}{t:TypeId}(h:w.heap[b]?=some (.cells cs t (0,0))):w.frozen? ⟨b,o,none⟩=false:=by
  simp [World.frozen?,h]
theorem aC (w:World)(o:Obj):(w.alloc o).heap[w.heap.size]?=some o:=by
 show (w.heap.push o)[w.heap.size]?=some o
 simp
theorem fD (w:World)(o:Obj)(k:Nat)(h:k < w.heap.size):(w.alloc o).heap[k]?=w.heap[k]?:=Below.heap_alloc w o k h
theorem cR (w:World)(A B:Obj):((w.alloc A).alloc B).heap[w.heap.size+1]?=some B:=by
 have h:=aC (w.alloc A) B
 rwa [show (w.alloc A).heap.size=w.heap.size+1 by simp] at h
theorem dD (w:World)(A B:Obj):((w.alloc A).alloc B).heap[w.heap.size]?=some A:=by
  rw [fD _ _ _ (by simp),aC]
theorem Fr.setRow {S:List Nat}{a b:World}(h:Fr S a b)(g:Nat)(cs:Array Value)(c:g∈S\/a.heap.size<=g):Fr S a (b.setRow g cs) :=
 ⟨h.os,h.tape,h.output,Nat.le_trans h.size (by simp),fun i hi hn=>by
  rw [setRow_other _ _ _ _ (fun e=>by rcases c with h1|h1;exact hn (e ▸ h1);omega)];exact h.block i hi hn⟩
theorem cJ {P:Program} {e:Func} {p r:Tmp} {ty:TypeId} (h:e.results=#[.cell p ty,.tmp r]) (a:Array Value) (w:World) (g:Nat) (t:TypeId) (cs:Array Value) (fr:Nat×Nat) (d:TypeDesc) (v:Value)
  (j:a.getD p undef=.pointer (some ⟨g,0,none⟩)) (l:a.getD r undef=v) (i:w.heap[g]?=some (.cells cs t fr))
  (k:P.underlying ty=some d) (f:(match d with|.struct _|.array _ _=>true|_=>false)=true) (hi:(P.info? ty).map (·.size)=some cs.size) :
  (results e a).run P w=.ok (.tuple #[.agg cs,v]) w:=by
 have b:a[p]?.getD undef=.pointer (some ⟨g,0,none⟩):=by simpa using j
 have c:a[r]?.getD undef=v:=by simpa using l
 simp [results,h,b,c,asAddr,run_loadVar_row w g t ty cs fr d i k f hi]
theorem iW {a b:Bool}(h:a=b):Ending.returned (.bool a)=.returned (.bool b):=by rw [h]
theorem zP {k:IntKind}{a b:Int}(h:a=b):Ending.returned (.int k a)=.returned (.int k b):=by rw [h]
def Hi (p:Prop):Prop:=p
theorem Hi.o {p:Prop}(h:Hi p):p:=h
abbrev so (b:Nat):Option Addr:=some ⟨b,0,none⟩
abbrev ca (w:World)(b k:Nat)(v:Value):Prop:=w.cell? ⟨b,k,none⟩=some v
abbrev Cs (f:FuncId)(a:Array Value)(w:World)(Q:Ending->World->Prop):Prop:=Calls Tryz.prog f a w Q
theorem rg {P:Program} {ops:Array Oper} {Q:Exit->Act->World->Prop} {S F:World->Prop} {id:Nat} {a:Act} {w:World} (n:Nat) (_:∀ w',F w'->S w') (hS:S w.drew)
  (h:S w.drew->wpAnyH P .any ops Q S n (Array.replicate n false) a w.drew) (hm:P.follows .mixedOrders=true:=by kernel_rfl) (hn:ops.size=n:=by kernel_rfl):(Code.region id ops true).wp P Q a w:=by
 subst hn
 exact wp_region_held_drew hm hS h
theorem gs {α:Type}{l:List α}{i:Nat}{a:α}:l[i]?=some a↔∃ h:i < l.length,l[i]=a:=List.getElem?_eq_some_iff
theorem r0 (S:List Nat)(w:World):Fr S w w:=Fr.refl S w
theorem tk {P:Program} {md:Region.Mode} {ops:Array Oper} {Q:Exit->Act->World->Prop} {S:World->Prop} (i:Nat) (v:Value) {oi:Oper} {fuel:Nat} {listed:Array Bool} {a:Act} {w:World} (hi:ops[i]?=some oi)
  (hb:(Region.noSelect ops&&(Region.free md ops listed i&&(Region.ready md ops listed).contains i))=true)
  (hQ:∀ c a w,Q (.panic c) (a.put oi.dst v) w->Q (.panic c) a w) (hy:YieldsIf P ops S oi v a) (hS:S w)
  (h:wpAnyH P md ops Q S fuel (listed.setIfInBounds i true) (a.put oi.dst v) w):wpAnyH P md ops Q S (fuel+1) listed a w:=by
 simp only [Bool.and_eq_true] at hb
 exact wpAnyH_take hi hb.1 hb.2.1 hb.2.2 hQ hy hS h
theorem tu {P:Program} {md:Region.Mode} {ops:Array Oper} {Q:Exit->Act->World->Prop} {S:World->Prop} (i:Nat) {oi:Oper} {fuel:Nat} {listed:Array Bool} {a:Act} {w:World} (hi:ops[i]?=some oi)
  (hb:(Region.noSelect ops&&(Region.free md ops listed i&&(Region.ready md ops listed).contains i))=true)
  (hQ:∀ c a w,Q (.panic c) (a.put oi.dst undef) w->Q (.panic c) a w) (hg:Region.wanted oi (yielded ops a.tmps)=false) (hS:S w)
  (h:wpAnyH P md ops Q S fuel (listed.setIfInBounds i true) (a.put oi.dst undef) w):wpAnyH P md ops Q S (fuel+1) listed a w :=
 tk i undef hi hb hQ (.inr ⟨hg,rfl⟩) hS h
theorem G {α:Type}:(∀ (l:List α) (i:Nat),l.toArray[i]?=l[i]?)/\(∀ (a:α) (l:List α),(a :: l)[0]?=some a)/\(∀ (a:α) (l:List α) (i:Nat),(a :: l)[i+1]?=l[i]?):=⟨fun _ _=>getElem?_toArray,fun _ _=>getElem?_cons_zero,fun _ _ _=>getElem?_cons_succ⟩
theorem Z {α:Type}:(∀ (l:List α) (i:Nat) (a:α),l.toArray.setIfInBounds i a=(l.set i a).toArray)/\(∀ (a b:α) (l:List α),(a :: l).set 0 b=b :: l)/\(∀ (a b:α) (l:List α) (i:Nat),(a :: l).set (i+1) b=a :: l.set i b):=⟨fun _ _ _=>by simp,fun _ _ _=>rfl,fun _ _ _ _=>rfl⟩
theorem ta {P:Program} {md:Region.Mode} {ops:Array Oper} {Q:Exit->Act->World->Prop} {S:World->Prop} (i:Nat) {v:Value} {oi:Oper} {fuel:Nat} {listed:Array Bool} {a:Act} {w:World} (hS:S w)
  (h:wpAnyH P md ops Q S fuel (listed.setIfInBounds i true) (a.put oi.dst v) w) (hi:ops[i]?=some oi:=by simp only [G];rfl)
  (hb:(Region.noSelect ops&&(Region.free md ops listed i&&(Region.ready md ops listed).contains i))=true:=by kernel_rfl)
  (hQ:∀ c a w,Q (.panic c) (a.put oi.dst v) w->Q (.panic c) a w:=by exact fun _ _ _ h=>h)
  (hy:YieldsIf P ops S oi v a:=by first|(refine .inl ⟨by rfl,?_⟩;intro w h;go_simp;first|with_reducible rfl|done|rw [if_neg (by omega)])|exact .inr ⟨by rfl,rfl⟩):wpAnyH P md ops Q S (fuel+1) listed a w :=
 tk i v hi hb hQ hy hS h
theorem tn {P:Program} {md:Region.Mode} {ops:Array Oper} {Q:Exit->Act->World->Prop} {S:World->Prop} (n:Nat) {i:Nat} {v:Value} {oi:Oper} {fuel:Nat} {listed:Array Bool} {a:Act} {w:World} (hS:S w)
  (h:wpAnyH P md ops Q S fuel (listed.setIfInBounds i true) (a.put oi.dst v) w) (hn:n - (fuel+1)=i:=by simp only [Nat.reduceAdd,Nat.reduceSub];rfl) (hi:ops[i]?=some oi:=by simp only [G];rfl)
  (hb:(Region.noSelect ops&&(Region.free md ops listed i&&(Region.ready md ops listed).contains i))=true:=by kernel_rfl)
  (hQ:∀ c a w,Q (.panic c) (a.put oi.dst v) w->Q (.panic c) a w:=by exact fun _ _ _ h=>h)
  (hy:YieldsIf P ops S oi v a:=by first|(refine .inl ⟨by rfl,?_⟩;intro w h;go_simp;first|with_reducible rfl|done|rw [if_neg (by omega)])|exact .inr ⟨by rfl,rfl⟩):wpAnyH P md ops Q S (fuel+1) listed a w:=by
 subst hn
 exact ta _ hS h hi hb hQ hy
theorem aA {P:Prop}(h:P):Hi P:=h
abbrev cl (w:World)(b o:Nat)(x:Int):Prop:=w.cell? ⟨b,o,none⟩=some (.int .i64 x)
end Go.Proofs.YtapabahhfanmmaaGreatDoor
namespace Go.Proofs.YtapabahhfanmmaaGreatDoor
open Go
section
variable {P:Program} {ops:Array Oper} {Q:Exit->Act->World->Prop} {md:Region.Mode} {S:World->Prop} {z:Nat}
def OneFree (P:Program)(md:Region.Mode)(ops:Array Oper)(Q:Exit->Act->World->Prop)(S:World->Prop)(z:Nat):Nat->Array Bool->Act->World->Prop
 | 0,b,a,w=>Region.ready md ops b=[]/\Q .normal a w
 | n+1,b,a,w=>(Region.ready md ops b=[]->Q .normal a w)/\∀ i∈Region.ready md ops b,wpOp P ops Q i (fun d c=>(i≠z->S c)/\OneFree P md ops Q S z n (b.setIfInBounds i true) d c) a w
theorem OneFree.plain:∀ (n:Nat) (b:Array Bool) (a:Act) (w:World),OneFree P md ops Q S z n b a w->wpAny P md ops Q n b a w
 | 0,_,_,_,h=>h
 | n+1,_,_,_,h=>⟨h.1,fun i hi=>wpOp_mono (fun c d k=>OneFree.plain n _ c d k.2) (h.2 i hi)⟩
def kC (md:Region.Mode)(ops:Array Oper)(z i:Nat):Bool:=match ops[z]? with
 | some o=>o.after.any fun e=>Region.binds md e&&e.on==i
 | none=>false
theorem BN {f:Array Bool}{i:Nat}(hw:kC md ops z i=true)(hi:i∈Region.ready md ops f):z∉Region.ready md ops f:=fun hz=>by
 obtain ⟨_,j,d,a⟩:=mem_ready.1 hz
 unfold kC at hw
 rw [d] at hw
 obtain ⟨e,h,hb⟩:=Array.any_eq_true'.1 hw
 have b:Region.binds md e=true/\e.on=i:=by simpa using hb
 have h1:=a e h b.1
 have g:=(mem_ready.1 hi).1
 rw [b.2] at h1
 rcases Nat.lt_or_ge i f.size with c|c
 ·simp [c] at g h1
  rw [g] at h1
  cases h1
 simp [Array.getElem?_eq_none c] at h1
theorem OneFree.ahead {i:Nat} {o:Oper} {v:Value} (ho:ops[i]?=some o) (g:∀ (j:Nat) (x:Oper) cs b,ops[j]?=some x->x.op≠.select cs b) (hw:kC md ops z i=true) (J:i≠z)
  (hQ:∀ c a w,Q (.panic c) (a.put o.dst v) w->Q (.panic c) a w):∀ (n:Nat) (k:Array Bool) (a:Act) (w:World),
   (∀ j x,ops[j]?=some x->j≠i->k.getD j true=false->(∀ e∈x.after,Region.binds md e=true->e.on≠i)->o.apart ops x=true) ->
   i∈Region.ready md ops k->YieldsIf P ops S o v a->S w ->
   OneFree P md ops Q S z n (k.setIfInBounds i true) (a.put o.dst v) w->OneFree P md ops Q S z (n+1) k a w
 | n,k,a,w,f,A,M,K,H=>by
  refine ⟨fun h=>absurd (h ▸ A) (by simp),fun j u=>?_⟩
  by_cases d:j=i
  ·subst d
   exact M.wpOp ho K ⟨fun _=>K,H⟩
  have E:j≠z:=fun e=>BN hw A (e ▸ u)
  match n,H with
  | 0,H =>
   have h1:=ready_mono u d
   rw [H.1] at h1
   cases h1
  | n+1,H =>
   have h1:=H.2 j (ready_mono u d)
   obtain ⟨s,x,hx,m⟩:=mem_ready.1 u
   have r:∀ e∈x.after,Region.binds md e=true->e.on≠i:=fun e V hb D=>by
    have t:=m e V hb
    have N:=(mem_ready.1 A).1
    rw [D] at t
    rcases Nat.lt_or_ge i k.size with B|B
    ·simp [B] at N t
     rw [N] at t
     cases t
    simp [Array.getElem?_eq_none B] at t
   have R:=wpOp_putIf hx (f j x hx d s r) (fun cs b=>g i o cs b ho) (fun cs b=>g j x cs b hx) hQ M h1
   refine wpOp_mono (fun O X C=>?_) R
   have l:=C.2.1 E
   refine ⟨fun _=>l,OneFree.ahead ho g hw J hQ n (k.setIfInBounds j true) O X (fun q y W I L F=>f q y W I ?_ F) (ready_mono A (Ne.symm d)) C.1 l ?_⟩
   ·by_cases p:j=q
    ·subst p
     exact s
    rw [getD_set_ne true p] at L
    exact L
   rw [Array.setIfInBounds_comm _ _ d]
   exact C.2.2
theorem OneFree.take {i:Nat} {o:Oper} {v:Value} {n:Nat} {b:Array Bool} {a:Act} {w:World} (ho:ops[i]?=some o) (hs:Region.noSelect ops=true) (f:Region.free md ops b i=true) (g:(Region.ready md ops b).contains i=true) (hw:kC md ops z i=true) (d:i≠z)
  (hQ:∀ c a w,Q (.panic c) (a.put o.dst v) w->Q (.panic c) a w) (j:YieldsIf P ops S o v a) (e:S w) (h:OneFree P md ops Q S z n (b.setIfInBounds i true) (a.put o.dst v) w):OneFree P md ops Q S z (n+1) b a w :=
 OneFree.ahead ho (Region.noSelect_spec hs) hw d hQ n b a w (Region.free_spec ho f) (by simpa using g) j e h
theorem OneFree.one {i:Nat}{n:Nat}{b:Array Bool}{a:Act}{w:World}(e:Region.ready md ops b=[i])(h:wpOp P ops Q i (fun g f=>(i≠z->S f)/\OneFree P md ops Q S z n (b.setIfInBounds i true) g f) a w):OneFree P md ops Q S z (n+1) b a w:=by
 refine ⟨fun c=>by rw [e] at c;simp at c,fun j d=>?_⟩
 rw [e] at d
 have:j=i:=by simpa using d
 rw [this]
 exact h
theorem OneFree.done {c:Array Bool}{a:Act}{w:World}(b:Region.ready md ops c=[])(h:Q .normal a w):∀ n,OneFree P md ops Q S z n c a w
 | 0=>⟨b,h⟩
 | _+1=>⟨fun _=>h,by rw [b];simp⟩
theorem OneFree.region (S:World->Prop)(z:Nat){id:Nat}{a:Act}{w:World}(hm:P.follows .mixedOrders=true)(h:OneFree P .any ops Q S z ops.size (Array.replicate ops.size false) a w.drew):(Code.region id ops true).wp P Q a w :=
  wp_region_any hm (OneFree.plain _ _ _ _ h)
end
end Go.Proofs.YtapabahhfanmmaaGreatDoor
namespace Go.Proofs.YtapabahhfanmmaaGreatDoor
open Go
section
variable {P:Program} {ops:Array Oper} {Q:Exit->Act->World->Prop} {md:Region.Mode} {S:World->Prop} {z:Nat}
def TwoFree (P:Program)(md:Region.Mode)(ops:Array Oper)(Q:Exit->Act->World->Prop)(S:World->Prop)(z:Nat):Nat->Array Bool->Act->World->Prop
 | 0,b,a,w=>Region.ready md ops b=[]/\Q .normal a w
 | n+1,b,a,w=>(Region.ready md ops b=[]->Q .normal a w)/\∀ i∈Region.ready md ops b,wpOp P ops Q i (fun d c=>(i≠z->b.getD z true=false->S c)/\TwoFree P md ops Q S z n (b.setIfInBounds i true) d c) a w
theorem TwoFree.plain:∀ (n:Nat) (b:Array Bool) (a:Act) (w:World),TwoFree P md ops Q S z n b a w->wpAny P md ops Q n b a w
 | 0,_,_,_,h=>h
 | n+1,_,_,_,h=>⟨h.1,fun i hi=>wpOp_mono (fun c d k=>TwoFree.plain n _ c d k.2) (h.2 i hi)⟩
theorem IM {a:Array Bool}{i:Nat}(b:a.getD i true=false):(a.setIfInBounds i true).getD i true=true:=by
 rcases Nat.lt_or_ge i a.size with h|h
 ·simp [h]
 simp [Array.getElem?_eq_none h] at b
theorem TwoFree.aheadW {i:Nat} {o:Oper} {v:Value} (ho:ops[i]?=some o) (r:∀ (j:Nat) (x:Oper) cs b,ops[j]?=some x->x.op≠.select cs b) (l:i≠z)
  (hQ:∀ c a w,Q (.panic c) (a.put o.dst v) w->Q (.panic c) a w):∀ (n:Nat) (d:Array Bool) (a:Act) (w:World),
   (∀ j x,ops[j]?=some x->j≠i->d.getD j true=false->(∀ e∈x.after,Region.binds md e=true->e.on≠i)->o.apart ops x=true) ->
   i∈Region.ready md ops d->YieldsIf P ops (fun _=>True) o v a->(d.getD z true=false->S w) ->
   TwoFree P md ops Q S z n (d.setIfInBounds i true) (a.put o.dst v) w->TwoFree P md ops Q S z (n+1) d a w
 | n,d,a,w,k,N,R,hS,H=>by
  refine ⟨fun h=>absurd (h ▸ N) (by simp),fun j J=>?_⟩
  by_cases f:j=i
  ·subst f
   exact R.wpOp ho trivial ⟨fun _=>hS,H⟩
  match n,H with
  | 0,H =>
   have h1:=ready_mono J f
   rw [H.1] at h1
   cases h1
  | n+1,H =>
   have h1:=H.2 j (ready_mono J f)
   obtain ⟨s,x,hx,u⟩:=mem_ready.1 J
   have B:∀ e∈x.after,Region.binds md e=true->e.on≠i:=fun e he hb I=>by
    have D:=u e he hb
    have V:=(mem_ready.1 N).1
    rw [I] at D
    rcases Nat.lt_or_ge i d.size with t|t
    ·simp [t] at V D
     rw [V] at D
     cases D
    simp [Array.getElem?_eq_none t] at D
   have Y:=wpOp_putIf hx (k j x hx f s B) (fun cs b=>r i o cs b ho) (fun cs b=>r j x cs b hx) hQ R h1
   refine wpOp_mono (fun X W E=>?_) Y
   have K:∀ q,(d.setIfInBounds q true).getD z true=false->d.getD z true=false:=fun q g=>by
    by_cases C:q=z
    ·subst C
     cases e:d.getD q true with
     | false=>rfl
     | true =>
      rcases Nat.lt_or_ge q d.size with t|t
      ·simp [t] at g
      simp at g
    rwa [getD_set_ne true C] at g
   have m:d.getD z true=false->i≠z->(d.setIfInBounds i true).getD z true=false:=fun g l=>by rwa [getD_set_ne true l]
   have F:(d.setIfInBounds j true).getD z true=false->S W:=fun g=>by
    have p:j≠z:=fun e=>by
     subst e
     rw [IM s] at g
     cases g
    exact E.2.1 p (m (K j g) l)
   refine ⟨fun p g=>?_,TwoFree.aheadW ho r l hQ n (d.setIfInBounds j true) X W (fun q y g M O L=>k q y g M ?_ L) (ready_mono N (Ne.symm f)) E.1 F ?_⟩
   ·exact E.2.1 p (m g l)
   ·by_cases A:j=q
    ·subst A
     exact s
    rw [getD_set_ne true A] at O
    exact O
   rw [Array.setIfInBounds_comm _ _ f]
   exact E.2.2
theorem TwoFree.takeW {i:Nat} {o:Oper} {v:Value} {n:Nat} {b:Array Bool} {a:Act} {w:World} (ho:ops[i]?=some o) (hs:Region.noSelect ops=true) (f:Region.free md ops b i=true) (g:(Region.ready md ops b).contains i=true) (d:i≠z)
  (hQ:∀ c a w,Q (.panic c) (a.put o.dst v) w->Q (.panic c) a w) (j:YieldsIf P ops (fun _=>True) o v a) (e:b.getD z true=false->S w) (h:TwoFree P md ops Q S z n (b.setIfInBounds i true) (a.put o.dst v) w):TwoFree P md ops Q S z (n+1) b a w :=
 TwoFree.aheadW ho (Region.noSelect_spec hs) d hQ n b a w (Region.free_spec ho f) (by simpa using g) j e h
theorem TwoFree.ahead {i:Nat} {o:Oper} {v:Value} (ho:ops[i]?=some o) (k:∀ (j:Nat) (x:Oper) cs b,ops[j]?=some x->x.op≠.select cs b) (hw:kC md ops z i=true) (u:i≠z)
  (hQ:∀ c a w,Q (.panic c) (a.put o.dst v) w->Q (.panic c) a w):∀ (n:Nat) (g:Array Bool) (a:Act) (w:World),
   (∀ j x,ops[j]?=some x->j≠i->g.getD j true=false->(∀ e∈x.after,Region.binds md e=true->e.on≠i)->o.apart ops x=true) ->
   i∈Region.ready md ops g->YieldsIf P ops S o v a->g.getD z true=false->S w ->
   TwoFree P md ops Q S z n (g.setIfInBounds i true) (a.put o.dst v) w->TwoFree P md ops Q S z (n+1) g a w
 | n,g,a,w,f,C,M,hz,K,H=>by
  refine ⟨fun h=>absurd (h ▸ C) (by simp),fun j B=>?_⟩
  by_cases d:j=i
  ·subst d
   exact M.wpOp ho K ⟨fun _ _=>K,H⟩
  have r:j≠z:=fun e=>BN hw C (e ▸ B)
  match n,H with
  | 0,H =>
   have h1:=ready_mono B d
   rw [H.1] at h1
   cases h1
  | n+1,H =>
   have h1:=H.2 j (ready_mono B d)
   obtain ⟨t,x,hx,m⟩:=mem_ready.1 B
   have s:∀ e∈x.after,Region.binds md e=true->e.on≠i:=fun e V hb F=>by
    have A:=m e V hb
    have N:=(mem_ready.1 C).1
    rw [F] at A
    rcases Nat.lt_or_ge i g.size with D|D
    ·simp [D] at N A
     rw [N] at A
     cases A
    simp [Array.getElem?_eq_none D] at A
   have R:=wpOp_putIf hx (f j x hx d t s) (fun cs b=>k i o cs b ho) (fun cs b=>k j x cs b hx) hQ M h1
   refine wpOp_mono (fun O X E=>?_) R
   have l:=E.2.1 r (by rw [getD_set_ne true u];exact hz)
   refine ⟨fun _ _=>l,TwoFree.ahead ho k hw u hQ n (g.setIfInBounds j true) O X (fun q y W J L I=>f q y W J ?_ I) (ready_mono C (Ne.symm d)) E.1 (by rw [getD_set_ne true r];exact hz) l ?_⟩
   ·by_cases p:j=q
    ·subst p
     exact t
    rw [getD_set_ne true p] at L
    exact L
   rw [Array.setIfInBounds_comm _ _ d]
   exact E.2.2
theorem TwoFree.take {i:Nat} {o:Oper} {v:Value} {n:Nat} {b:Array Bool} {a:Act} {w:World} (ho:ops[i]?=some o) (hs:Region.noSelect ops=true) (f:Region.free md ops b i=true) (g:(Region.ready md ops b).contains i=true) (hw:kC md ops z i=true) (d:i≠z) (hz:b.getD z true=false)
  (hQ:∀ c a w,Q (.panic c) (a.put o.dst v) w->Q (.panic c) a w) (j:YieldsIf P ops S o v a) (e:S w) (h:TwoFree P md ops Q S z n (b.setIfInBounds i true) (a.put o.dst v) w):TwoFree P md ops Q S z (n+1) b a w :=
 TwoFree.ahead ho (Region.noSelect_spec hs) hw d hQ n b a w (Region.free_spec ho f) (by simpa using g) j hz e h
theorem TwoFree.one {i:Nat}{n:Nat}{b:Array Bool}{a:Act}{w:World}(e:Region.ready md ops b=[i])(h:wpOp P ops Q i (fun g f=>(i≠z->b.getD z true=false->S f)/\TwoFree P md ops Q S z n (b.setIfInBounds i true) g f) a w):TwoFree P md ops Q S z (n+1) b a w:=by
 refine ⟨fun c=>by rw [e] at c;simp at c,fun j d=>?_⟩
 rw [e] at d
 have:j=i:=by simpa using d
 rw [this]
 exact h
theorem TwoFree.done {c:Array Bool}{a:Act}{w:World}(b:Region.ready md ops c=[])(h:Q .normal a w):∀ n,TwoFree P md ops Q S z n c a w
 | 0=>⟨b,h⟩
 | _+1=>⟨fun _=>h,by rw [b];simp⟩
theorem TwoFree.region (S:World->Prop)(z:Nat){id:Nat}{a:Act}{w:World}(hm:P.follows .mixedOrders=true)(h:TwoFree P .any ops Q S z ops.size (Array.replicate ops.size false) a w.drew):(Code.region id ops true).wp P Q a w :=
  wp_region_any hm (TwoFree.plain _ _ _ _ h)
end
theorem tw {P:Program} {ops:Array Oper} {Q:Exit->Act->World->Prop} {md:Region.Mode} {S:World->Prop} {z:Nat} (i:Nat) {o:Oper} {v:Value} {n:Nat} {li:Array Bool} {a:Act} {w:World} (hS:li.getD z true=false->S w) (h:TwoFree P md ops Q S z n (li.setIfInBounds i true) (a.put o.dst v) w)
  (ho:ops[i]?=some o:=by simp only [G];rfl) (hs:Region.noSelect ops=true:=by kernel_rfl) (hf:Region.free md ops li i=true:=by kernel_rfl) (hr:(Region.ready md ops li).contains i=true:=by kernel_rfl) (hzi:i≠z:=by decide)
  (hQ:∀ c a w,Q (.panic c) (a.put o.dst v) w->Q (.panic c) a w:=by exact fun _ _ _ h=>h) (hy:YieldsIf P ops (fun _=>True) o v a:=by first|(refine .inl ⟨by rfl,?_⟩;intro w h;go_simp;first|with_reducible rfl|done)|exact .inr ⟨by rfl,rfl⟩):TwoFree P md ops Q S z (n+1) li a w :=
 TwoFree.takeW ho hs hf hr hzi hQ hy hS h
theorem tt {P:Program} {ops:Array Oper} {Q:Exit->Act->World->Prop} {md:Region.Mode} {S:World->Prop} {z:Nat} (i:Nat) {o:Oper} {v:Value} {n:Nat} {li:Array Bool} {a:Act} {w:World} (hS:S w) (h:TwoFree P md ops Q S z n (li.setIfInBounds i true) (a.put o.dst v) w)
  (ho:ops[i]?=some o:=by simp only [G];rfl) (hs:Region.noSelect ops=true:=by kernel_rfl) (hf:Region.free md ops li i=true:=by kernel_rfl) (hr:(Region.ready md ops li).contains i=true:=by kernel_rfl) (hw:kC md ops z i=true:=by kernel_rfl) (hzi:i≠z:=by decide) (hz:li.getD z true=false:=by kernel_rfl)
  (hQ:∀ c a w,Q (.panic c) (a.put o.dst v) w->Q (.panic c) a w:=by exact fun _ _ _ h=>h) (hy:YieldsIf P ops S o v a:=by first|(refine .inl ⟨by rfl,?_⟩;intro w h;go_simp;first|with_reducible rfl|done)|exact .inr ⟨by rfl,rfl⟩):TwoFree P md ops Q S z (n+1) li a w :=
 TwoFree.take ho hs hf hr hw hzi hz hQ hy hS h
theorem tv {P:Program} {ops:Array Oper} {Q:Exit->Act->World->Prop} {md:Region.Mode} {S:World->Prop} {z:Nat} (i:Nat) {o:Oper} {v:Value} {n:Nat} {li:Array Bool} {a:Act} {w:World} (hS:S w) (h:OneFree P md ops Q S z n (li.setIfInBounds i true) (a.put o.dst v) w)
  (ho:ops[i]?=some o:=by simp only [G];rfl) (hs:Region.noSelect ops=true:=by kernel_rfl) (hf:Region.free md ops li i=true:=by kernel_rfl) (hr:(Region.ready md ops li).contains i=true:=by kernel_rfl) (hw:kC md ops z i=true:=by kernel_rfl) (hzi:i≠z:=by decide)
  (hQ:∀ c a w,Q (.panic c) (a.put o.dst v) w->Q (.panic c) a w:=by exact fun _ _ _ h=>h) (hy:YieldsIf P ops S o v a:=by first|(refine .inl ⟨by rfl,?_⟩;intro w h;go_simp;first|with_reducible rfl|done)|exact .inr ⟨by rfl,rfl⟩):OneFree P md ops Q S z (n+1) li a w :=
 OneFree.take ho hs hf hr hw hzi hQ hy hS h
section
variable {P:Program} {md:Region.Mode} {ops:Array Oper} {Q:Exit->Act->World->Prop} {S:World->Prop} {fuel:Nat} {listed:Array Bool} {a:Act} {w:World} {o:Oper}
theorem rd (i:Nat) (h:∀ K':Act->World->Prop,Shut (∀ a w,S w->(S w->wpAnyH P md ops Q S fuel (listed.setIfInBounds i true) a w)->K' a w)->if Region.wanted o (yielded ops a.tmps)=true then Oper.wp P o a w K' Q else K' (a.put o.dst undef) w)
    (b:Region.ready md ops listed=[i]:=by kernel_rfl) (ho:ops[i]?=some o:=by simp only [G];rfl):wpAnyH P md ops Q S (fuel+1) listed a w:=wpAnyH_ready b (by simp) (AllReadyH.cons ho h AllReadyH.nil)
theorem o1 (i:Nat) {z:Nat} (h:∀ K':Act->World->Prop,(∀ a w,((i≠z->S w)/\OneFree P md ops Q S z fuel (listed.setIfInBounds i true) a w)->K' a w)->if Region.wanted o (yielded ops a.tmps)=true then Oper.wp P o a w K' Q else K' (a.put o.dst undef) w)
    (b:Region.ready md ops listed=[i]:=by kernel_rfl) (ho:ops[i]?=some o:=by simp only [G];rfl):OneFree P md ops Q S z (fuel+1) listed a w:=OneFree.one b (wpOp_step ho h)
theorem t1 (i:Nat) {z:Nat} (h:∀ K':Act->World->Prop,(∀ a w,((i≠z->listed.getD z true=false->S w)/\TwoFree P md ops Q S z fuel (listed.setIfInBounds i true) a w)->K' a w)->if Region.wanted o (yielded ops a.tmps)=true then Oper.wp P o a w K' Q else K' (a.put o.dst undef) w)
    (b:Region.ready md ops listed=[i]:=by kernel_rfl) (ho:ops[i]?=some o:=by simp only [G];rfl):TwoFree P md ops Q S z (fuel+1) listed a w:=TwoFree.one b (wpOp_step ho h)
theorem tz (i:Nat) (b:S w) (h:wpAnyH P md ops Q S fuel (listed.setIfInBounds i true) (a.put o.dst undef) w) (hi:ops[i]?=some o:=by rfl)
  (hb:(Region.noSelect ops&&(Region.free md ops listed i&&(Region.ready md ops listed).contains i))=true:=by kernel_rfl)
  (hQ:∀ c a w,Q (.panic c) (a.put o.dst undef) w->Q (.panic c) a w:=by exact fun _ _ _ h=>h) (hw:Region.wanted o (yielded ops a.tmps)=false:=by kernel_rfl):wpAnyH P md ops Q S (fuel+1) listed a w :=
 tk i undef hi hb hQ (.inr ⟨hw,rfl⟩) b h
theorem ty (i:Nat) (v:Value) (hi:ops[i]?=some o) (p:∀ w,S w->(execOp a.eval o).run P w=.ok (.value v) w) (b:S w) (h:wpAnyH P md ops Q S fuel (listed.setIfInBounds i true) (a.put o.dst v) w)
  (hb:(Region.noSelect ops&&(Region.free md ops listed i&&(Region.ready md ops listed).contains i))=true:=by kernel_rfl)
  (hQ:∀ c a w,Q (.panic c) (a.put o.dst v) w->Q (.panic c) a w:=by exact fun _ _ _ h=>h) (hw:Region.wanted o (yielded ops a.tmps)=true:=by kernel_rfl):wpAnyH P md ops Q S (fuel+1) listed a w :=
 tk i v hi hb hQ (.inl ⟨hw,p⟩) b h
end
abbrev dC (b:Nat)(u:U)(w:World)(R:Prop):Prop:=w.cell? ⟨b,0,none⟩=some (ii u.id)/\w.cell? ⟨b,1,none⟩=some (ii u.owner)/\w.cell? ⟨b,2,none⟩=some (ii u.kind)/\w.cell? ⟨b,3,none⟩=some (ii u.x)/\w.cell? ⟨b,4,none⟩=some (ii u.y)/\w.cell? ⟨b,5,none⟩=some (ii u.life)/\w.cell? ⟨b,6,none⟩=some (ii u.load)/\w.cell? ⟨b,7,none⟩=some (ii u.what)/\w.cell? ⟨b,8,none⟩=some (ii u.tox)/\w.cell? ⟨b,9,none⟩=some (ii u.toy)/\w.cell? ⟨b,10,none⟩=some (ii u.target)/\R
def aD (x y:Int):Bool:=decide (0<=x)&&(decide (x < 12)&&(decide (0<=y)&&decide (y < 12)))
theorem bM {x y:Int}:aD x y=true↔0<=x/\x < 12/\0<=y/\y < 12:=by simp [aD]
theorem ML (x y:Int)(w:World) :
  Cs 201 #[cv x y] w fun e a=>e=.returned (.bool (aD x y))/\Fr [] w a:=by
 go_enter Tryz.func201,Tryz.ntmps201
 go_wp2
 all_goals
  go_ret
  exact ⟨iW (by simp [aD, *] <;> omega),(r0 _ _).alloc _⟩
theorem wM (x:Int)(w:World) :
  Cs 204 #[.int .i64 x] w fun e a=>e=.returned (.bool (decide (0 < x)&&decide (x < 10)))/\w=a:=by
 go_enter Tryz.func204,Tryz.ntmps204
 go_wp2
 all_goals
  go_ret
  exact ⟨iW (by simp [*] <;> omega),rfl⟩
theorem gU (u:U)(w:World) :
  Cs 192 #[u.val] w fun e a=>e=.returned (cv u.x u.y)/\Fr [] w a:=by
 go_enter Tryz.func192,Tryz.ntmps192
 go_wp2
 exact bodyPost_ret (v:=cv u.x u.y) (by simp [results,Tryz.results192,go_sem]) rfl ⟨rfl,((r0 _ _).alloc _).alloc _⟩
