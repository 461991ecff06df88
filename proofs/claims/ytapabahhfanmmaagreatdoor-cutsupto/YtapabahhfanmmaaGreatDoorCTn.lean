import Derived.Test.YtapabahhfanmmaaGreatDoorRows
import Derived.WalkKit
import Derived.WalkSpells
import Derived.WalkLawsBesides
import Derived.OrdersHeld
import Derived.Deep.RegionHeld
import Derived.Below
import Derived.Calls
import Derived.ChangeArms
import Derived.Deep.MidRow
import Derived.Laws.AppendOwn
import Derived.Laws.BitsLemmas
import Derived.Laws.Entries
import Derived.Laws.IdiomCopy
import Derived.Laws.IdiomStrings
import Derived.Laws.Rows
import Derived.Laws.Sem
import Derived.Laws.Strings
import Derived.Laws.Tables
import Derived.Laws.World
import Derived.Orders
import Derived.OwnWalk
import Derived.Tactics
namespace Go.Proofs.YtapabahhfanmmaaGreatDoor
open Go.RowKit List Go.Proofs.Tryz
structure U where
 id:Int
 owner:Int
 kind:Int
 x:Int
 y:Int
 life:Int
 load:Int
 what:Int
 tox:Int
 toy:Int
 target:Int
structure Cm where
 unit:Int
 what:Int
 x:Int
 y:Int
 target:Int
abbrev ii(a:Int):Value:=.int .i64 a
abbrev U.val(a:U):Value:=.agg #[.int .i64 a.id,.int .i64 a.owner,.int .i64 a.kind,.int .i64 a.x,.int .i64 a.y,.int .i64 a.life,.int .i64 a.load,.int .i64 a.what,.int .i64 a.tox,.int .i64 a.toy,.int .i64 a.target]
abbrev U.arr(a:U):Array Value:=#[.int .i64 a.id,.int .i64 a.owner,.int .i64 a.kind,.int .i64 a.x,.int .i64 a.y,.int .i64 a.life,.int .i64 a.load,.int .i64 a.what,.int .i64 a.tox,.int .i64 a.toy,.int .i64 a.target]
abbrev U.cells(a:U):List Value:=[.int .i64 a.id,.int .i64 a.owner,.int .i64 a.kind,.int .i64 a.x,.int .i64 a.y,.int .i64 a.life,.int .i64 a.load,.int .i64 a.what,.int .i64 a.tox,.int .i64 a.toy,.int .i64 a.target]
abbrev Cm.val(a:Cm):Value:=.agg #[.int .i64 a.unit,.int .i64 a.what,.int .i64 a.x,.int .i64 a.y,.int .i64 a.target]
abbrev Cm.cells(a:Cm):List Value:=[.int .i64 a.unit,.int .i64 a.what,.int .i64 a.x,.int .i64 a.y,.int .i64 a.target]
abbrev cv(a b:Int):Value:=.agg #[.int .i64 a,.int .i64 b]
theorem U.one(a:U):a.arr.all (·.oneCell')=true:=by simp[Value.oneCell']
structure Fr (S:List Nat) (w w':World):Prop where
 os:w'.os=w.os
 tape:w'.tape=w.tape
 output:w'.output=w.output
 size:w.heap.size<=w'.heap.size
 block:∀k,k<w.heap.size->k∉S->w'.heap[k]?=w.heap[k]?
theorem Fr.refl(b:List Nat)(a:World):Fr b a a:=⟨rfl,rfl,rfl,Nat.le_refl _,(by grind)⟩
theorem Fr.trans{S f:List Nat}{e b g:World}(a:Fr S e b)(d:Fr f b g)(j:∀c∈f,c∈S\/e.heap.size<=c):Fr S e g:=
 ⟨d.os.trans a.os,d.tape.trans a.tape,d.output.trans a.output,Nat.le_trans a.size d.size,λc h i=>(d.block c (Nat.lt_of_lt_of_le h a.size) (by grind)).trans (a.block c h i)⟩
theorem Fr.qT{S:List Nat}{a b c:World}(d:Fr S a b)(e:Fr [] b c):Fr S a c:=d.trans e (by simp)
theorem Fr.mono{c S':List Nat}{b d:World}(a:Fr c b d)(f:∀e∈c,e∈S'\/b.heap.size<=e):Fr S' b d:=
  ⟨a.os,a.tape,a.output,a.size,(by grind[Fr.block])⟩
theorem Fr.qO{S:List Nat}{a b:World}(c:Fr [] a b):Fr S a b:=c.mono (by simp)
theorem Fr.alloc{S:List Nat}{b c:World}(a:Fr S b c)(d:Obj):Fr S b (c.alloc d):=
  ⟨a.os,a.tape,a.output,Nat.le_trans a.size (by simp),(by grind[Below.heap_alloc,Nat.lt_of_lt_of_le,Fr.size,Fr.block])⟩
theorem Fr.drew{b:List Nat}{c d:World}(a:Fr b c d):Fr b c d.drew:=⟨a.os,a.tape,a.output,a.size,a.block⟩
theorem Fr.drewN{b:List Nat}{c d:World}(a:Fr b c d)(e:Nat):Fr b c (d.drewN e):=⟨a.os,a.tape,a.output,a.size,a.block⟩
theorem Fr.setCell{b:List Nat}{c e:World}(a:Fr b c e)(d:Addr)(f:Value)(g:d.block∈b\/c.heap.size<=d.block):Fr b c (e.setCell d f):=
  ⟨a.os,a.tape,a.output,Nat.le_trans a.size (by simp_all),(by grind[Below.heap_setCell,Fr.block])⟩
theorem Fr.below{b c:World}(a:Fr [] b c):Below b.heap.size b c:=⟨a.os,a.tape,a.output,a.size,(by grind[Fr.block])⟩
theorem Fr.of_below{b c:World}(a:Below b.heap.size b c):Fr [] b c:=⟨a.os,a.tape,a.output,a.size,λe d _=>a.block e d⟩
theorem Fr.cell{c:List Nat}{b e:World}(f:Fr c b e)(a d:Nat)(g:a<b.heap.size)(h:a∉c):e.cell? ⟨a,d,none⟩=b.cell? ⟨a,d,none⟩:=
  World.cell?_of_block (w:=b) (f.block a g h)
theorem Fr.frozen{c:List Nat}{b e:World}(f:Fr c b e)(a d:Nat)(g:a<b.heap.size)(h:a∉c):e.frozen? ⟨a,d,none⟩=b.frozen? ⟨a,d,none⟩:=
  World.frozen?_of_block (w:=b) (f.block a g h)
theorem Fr.qC{c d:World}(e:Fr [] c d):(∀a b,a<c.heap.size->d.cell? ⟨a,b,none⟩=c.cell? ⟨a,b,none⟩)/\(∀a b,a<c.heap.size->d.frozen? ⟨a,b,none⟩=c.frozen? ⟨a,b,none⟩):=
  (by grind[Fr.cell,Fr.frozen])
theorem Fr.qH{c d:World}(e:Fr [] c d){a:Nat}{b:Obj}(f:c.heap[a]?=some b):d.heap[a]?=some b:=by grind[Fr.block]
theorem Fr.heap{b:List Nat}{d e:World}(f:Fr b d e){a:Nat}{c:Obj}(g:d.heap[a]?=some c)(h:a∉b):e.heap[a]?=some c:=by grind[Fr.block]
theorem aH{b:World}{a:Nat}{c:Obj}(d:b.heap[a]?=some c):a<b.heap.size:=(by grind)
theorem aI{b:World}{a d:Nat}{e:Value}(c:b.cell? ⟨a,d,none⟩=some e):a<b.heap.size:=by
 unfold World.cell? at c
 grind
theorem aB{d:World}{a c:Nat}{b:Array Value}{g:TypeId}{e:Nat×Nat}(f:d.heap[a]?=some (.cells b g e)):d.cell? ⟨a,c,none⟩=b[c]?:=by simp[World.cell?,f]
theorem aV{b:World}{a e:Nat}{c:Array Value}{f:TypeId}(d:b.heap[a]?=some (.cells c f (0,0))):b.frozen? ⟨a,e,none⟩=false:=by simp[World.frozen?,d]
theorem aC(b:World)(a:Obj):(b.alloc a).heap[b.heap.size]?=some a:=by
 show(b.heap.push a)[b.heap.size]?=some a
 simp
theorem eL(b:World)(c:Obj)(a:Nat)(d:a<b.heap.size):(b.alloc c).heap[a]?=b.heap[a]?:=Below.heap_alloc b c a d
theorem cZ(b:World)(c a:Obj):((b.alloc c).alloc a).heap[b.heap.size+1]?=some a:=by
 have d:=aC (b.alloc c) a
 simp_all
theorem dW(b:World)(a c:Obj):((b.alloc a).alloc c).heap[b.heap.size]?=some a:=by grind[eL,aC]
theorem Fr.setRow{b:List Nat}{c e:World}(a:Fr b c e)(d:Nat)(f:Array Value)(g:d∈b\/c.heap.size<=d):Fr b c (e.setRow d f):=
  ⟨a.os,a.tape,a.output,Nat.le_trans a.size (by simp),(by grind[setRow_other,Fr.block])⟩
theorem cD{e:Program}{j:Func}{g h:Tmp}{ty:TypeId}(m:j.results=#[.cell g ty,.tmp h])(a:Array Value)(d:World)(c:Nat)(l:TypeId)(b:Array Value)(k:Nat×Nat)(f:TypeDesc)(i:Value)(t:a.getD g undef=.pointer (some ⟨c,0,none⟩))(u:a.getD h undef=i)(o:d.heap[c]?=some (.cells b l k))(r:e.underlying ty=some f)(n:(match f with|.struct _|.array _ _=>true|_=>false)=true)(p:(e.info? ty).map (·.size)=some b.size):(results j a).run e d=.ok (.tuple #[.agg b,i]) d:=by
 have q:a[g]?.getD undef=.pointer (some ⟨c,0,none⟩):=by simp_all
 have s:a[h]?.getD undef=i:=by simp_all
 simp[results,m,q,s,asAddr,run_loadVar_row d c l ty b k f o r n p]
theorem lG{a b:Bool}(c:a=b):Ending.returned (.bool a)=.returned (.bool b):=by rw[c]
theorem MR{c:IntKind}{a b:Int}(d:a=b):Ending.returned (.int c a)=.returned (.int c b):=by rw[d]
theorem hiq{a:Prop}(b:a):Hid a:=b
def Hi(p:Prop):Prop:=p
theorem Hi.o{p:Prop}(h:Hi p):p:=h
abbrev so(b:Nat):Option Addr:=some ⟨b,0,none⟩
abbrev ca(w:World)(b k:Nat)(v:Value):Prop:=w.cell? ⟨b,k,none⟩=some v
abbrev Cs(f:FuncId)(a:Array Value)(w:World)(Q:Ending->World->Prop):Prop:=Calls Tryz.prog f a w Q
theorem rg{P:Program}{ops:Array Oper}{Q:Exit->Act->World->Prop}{S F:World->Prop}{id:Nat}{a:Act}{w:World}(n:Nat)(_:∀w',F w'->S w')(hS:S w.drew)(h:S w.drew->wpAnyH P .any ops Q S n (Array.replicate n false) a w.drew)(hm:P.follows .mixedOrders=true:=by kernel_rfl)(hn:ops.size=n:=by kernel_rfl):(Code.region id ops true).wp P Q a w:=by
 subst hn
 exact wp_region_held_drew hm hS h
abbrev R0(w:World)(v:Value)(e:Ending)(w':World):Prop:=e=.returned v/\Fr [] w w'
abbrev R1(w:World)(v:Value)(e:Ending)(w':World):Prop:=e=.returned v/\w=w'
attribute [simp] R0 R1
abbrev pt(b:Nat):Value:=.pointer (some ⟨b,0,none⟩)
theorem qo{p:Prop}(h:p:=by omega):p:=h
theorem qs{p:Prop}(h:p:=by simp):p:=h
theorem qt{p:Prop}(h:p:=by simp;omega):p:=h
theorem qk{p:Prop}(h:p:=by kernel_rfl):p:=h
theorem qg{p:Prop}(h:p:=by grind):p:=h
theorem qa{p:Prop}(h:p:=by simp_all):p:=h
theorem qm{p:Prop}(h:p:=by unfold maxLen;omega):p:=h
theorem qc{p:Prop}(h:p:=by simp[Value.oneCell']):p:=h
theorem qd{p:Prop}(h:p:=by decide):p:=h
theorem qb{p:Prop}(h:p:=by assumption):p:=h
theorem qu{p q:Prop}(h:q)(k:q->p:=by intro h;simpa using h):p:=k h
theorem qh{p q:Prop}(h:q)(k:q->p:=by intro h;omega):p:=k h
theorem cm{P:Program}{f:FuncId}{a:Array Value}{w:World}{R Q:Ending->World->Prop}(h:Calls P f a w R)(k:∀e w',R e w'->Q e w'):Calls P f a w Q:=Calls.mono h k
theorem nm{α:Type}(a:α):∃x,x=a:=⟨a,rfl⟩
theorem nn{α:Type}(a:α):∃x,a=x:=⟨a,rfl⟩
theorem al(w:World)(o:Obj):∃W,W=w.alloc o/\Fr [] w W/\W.heap[w.heap.size]?=some o:=⟨_,rfl,(Fr.refl _ _).alloc _,aC _ _⟩
theorem gs{α:Type}{l:List α}{i:Nat}{a:α}:l[i]?=some a↔∃h:i<l.length,l[i]=a:=List.getElem?_eq_some_iff
theorem r0(S:List Nat)(w:World):Fr S w w:=Fr.refl S w
theorem tk{P:Program}{md:Region.Mode}{ops:Array Oper}{Q:Exit->Act->World->Prop}{S:World->Prop}(i:Nat)(v:Value){oi:Oper}{fuel:Nat}{listed:Array Bool}{a:Act}{w:World}(hi:ops[i]?=some oi)(hb:(Region.noSelect ops&&(Region.free md ops listed i&&(Region.ready md ops listed).contains i))=true)(hQ:∀c a w,Q (.panic c) (a.put oi.dst v) w->Q (.panic c) a w)(hy:YieldsIf P ops S oi v a)(hS:S w)(h:wpAnyH P md ops Q S fuel (listed.setIfInBounds i true) (a.put oi.dst v) w):wpAnyH P md ops Q S (fuel+1) listed a w:=by
 simp only[Bool.and_eq_true]at hb
 exact wpAnyH_take hi hb.1 hb.2.1 hb.2.2 hQ hy hS h
theorem tu{P:Program}{md:Region.Mode}{ops:Array Oper}{Q:Exit->Act->World->Prop}{S:World->Prop}(i:Nat){oi:Oper}{fuel:Nat}{listed:Array Bool}{a:Act}{w:World}(hi:ops[i]?=some oi)(hb:(Region.noSelect ops&&(Region.free md ops listed i&&(Region.ready md ops listed).contains i))=true)(hQ:∀c a w,Q (.panic c) (a.put oi.dst undef) w->Q (.panic c) a w)(hg:Region.wanted oi (yielded ops a.tmps)=false)(hS:S w)(h:wpAnyH P md ops Q S fuel (listed.setIfInBounds i true) (a.put oi.dst undef) w):wpAnyH P md ops Q S (fuel+1) listed a w:=
 tk i undef hi hb hQ (.inr ⟨hg,rfl⟩) hS h
theorem G{α:Type}:(∀(l:List α) (i:Nat),l.toArray[i]?=l[i]?)/\(∀(a:α) (l:List α),(a::l)[0]?=some a)/\(∀(a:α) (l:List α) (i:Nat),(a::l)[i+1]?=l[i]?):=⟨λ_ _=>getElem?_toArray,λ_ _=>getElem?_cons_zero,λ_ _ _=>getElem?_cons_succ⟩
theorem Z{α:Type}:(∀(l:List α) (i:Nat) (a:α),l.toArray.setIfInBounds i a=(l.set i a).toArray)/\(∀(a b:α) (l:List α),(a::l).set 0 b=b::l)/\(∀(a b:α) (l:List α) (i:Nat),(a::l).set (i+1) b=a::l.set i b):=⟨λ_ _ _=>by simp,λ_ _ _=>rfl,λ_ _ _ _=>rfl⟩
theorem ta{P:Program}{md:Region.Mode}{ops:Array Oper}{Q:Exit->Act->World->Prop}{S:World->Prop}(i:Nat){v:Value}{oi:Oper}{fuel:Nat}{listed:Array Bool}{a:Act}{w:World}{l':Array Bool}{a':Act}(hS:S w)(h:wpAnyH P md ops Q S fuel l' a' w)(hi:ops[i]?=some oi:=by simp only[G];rfl)(hb:(Region.noSelect ops&&(Region.free md ops listed i&&(Region.ready md ops listed).contains i))=true:=by kernel_rfl)(hQ:∀c a w,Q (.panic c) (a.put oi.dst v) w->Q (.panic c) a w:=by exact fun _ _ _ h=>h)(hy:YieldsIf P ops S oi v a:=by first|(refine .inl ⟨by rfl,?_⟩;intro w h;go_simp;first|with_reducible rfl|done|rw[if_neg (by omega)])|exact .inr ⟨by rfl,rfl⟩)(hl:l'=listed.setIfInBounds i true:=by first|(simp only[Act.put,Z];rfl)|rfl)(ha:a'=a.put oi.dst v:=by first|(simp only[Act.put,Z];rfl)|rfl):wpAnyH P md ops Q S (fuel+1) listed a w:=
 tk i v hi hb hQ hy hS (by subst hl ha;exact h)
theorem tn{P:Program}{md:Region.Mode}{ops:Array Oper}{Q:Exit->Act->World->Prop}{S:World->Prop}(n:Nat){i:Nat}{v:Value}{oi:Oper}{fuel:Nat}{listed:Array Bool}{a:Act}{w:World}{l':Array Bool}{a':Act}(hS:S w)(h:wpAnyH P md ops Q S fuel l' a' w)(hn:n-(fuel+1)=i:=by simp only[Nat.reduceAdd,Nat.reduceSub];rfl)(hi:ops[i]?=some oi:=by simp only[G];rfl)(hb:(Region.noSelect ops&&(Region.free md ops listed i&&(Region.ready md ops listed).contains i))=true:=by kernel_rfl)(hQ:∀c a w,Q (.panic c) (a.put oi.dst v) w->Q (.panic c) a w:=by exact fun _ _ _ h=>h)(hy:YieldsIf P ops S oi v a:=by first|(refine .inl ⟨by rfl,?_⟩;intro w h;go_simp;first|with_reducible rfl|done|rw[if_neg (by omega)])|exact .inr ⟨by rfl,rfl⟩)(hl:l'=listed.setIfInBounds i true:=by first|(simp only[Act.put,Z];rfl)|rfl)(ha:a'=a.put oi.dst v:=by first|(simp only[Act.put,Z];rfl)|rfl):wpAnyH P md ops Q S (fuel+1) listed a w:=by
 subst hn
 exact ta _ hS h hi hb hQ hy hl ha
theorem aA{P:Prop}(h:P):Hi P:=h
abbrev cl(w:World)(b o:Nat)(x:Int):Prop:=w.cell? ⟨b,o,none⟩=some (.int .i64 x)
end Go.Proofs.YtapabahhfanmmaaGreatDoor
namespace Go.Proofs.YtapabahhfanmmaaGreatDoor
open Go
section
variable {P:Program} {ops:Array Oper} {Q:Exit->Act->World->Prop} {md:Region.Mode} {S:World->Prop} {z:Nat}
def OneFree(P:Program)(md:Region.Mode)(ops:Array Oper)(Q:Exit->Act->World->Prop)(S:World->Prop)(z:Nat):Nat->Array Bool->Act->World->Prop
 |0,a,b,c=>Region.ready md ops a=[]/\Q .normal b c
 |f+1,a,b,c=>(Region.ready md ops a=[]->Q .normal b c)/\∀i∈Region.ready md ops a,wpOp P ops Q i (λe d=>(i≠z->S d)/\OneFree P md ops Q S z f (a.setIfInBounds i true) e d) b c
theorem OneFree.plain:∀(b:Nat) (d:Array Bool) (c:Act) (e:World),OneFree P md ops Q S z b d c e->wpAny P md ops Q b d c e
 |0,_,_,_,a=>a
 |b+1,_,_,_,a=>⟨a.1,λh g=>wpOp_mono (λf j i=>OneFree.plain b _ f j i.2) (a.2 h g)⟩
def mW(md:Region.Mode)(ops:Array Oper)(z b:Nat):Bool:=match ops[z]? with
 |some c=>c.after.any λa=>Region.binds md a&&a.on==b
 |none=>false
theorem PA{f:Array Bool}{b:Nat}(e:mW md ops z b=true)(l:b∈Region.ready md ops f):z∉Region.ready md ops f:=λn=>by
 obtain⟨_,o,m,i⟩:=mem_ready.1 n
 unfold mW at e
 rw[m]at e
 obtain⟨c,k,j⟩:=Array.any_eq_true'.1 e
 have h:Region.binds md c=true/\c.on=b:=by simpa using j
 have a:=i c k h.1
 have g:=(mem_ready.1 l).1
 rw[h.2]at a
 obtain d|d:=Nat.lt_or_ge b f.size
 ·simp[d]at g a
  rw[g]at a
  cases a
 simp[Array.getElem?_eq_none d]at a
theorem OneFree.ahead{b:Nat}{k:Oper}{w:Value}(u:ops[b]?=some k)(t:∀(a:Nat) (c:Oper) m l,ops[a]?=some c->c.op≠.select m l)(H:mW md ops z b=true)(ad:b≠z)(y:∀x e g,Q (.panic x) (e.put k.dst w) g->Q (.panic x) e g):∀(j:Nat) (f:Array Bool) (e:Act) (g:World),(∀a c,ops[a]?=some c->a≠b->f.getD a true=false->(∀d∈c.after,Region.binds md d=true->d.on≠b)->k.apart ops c=true) ->b∈Region.ready md ops f->YieldsIf P ops S k w e->S g ->OneFree P md ops Q S z j (f.setIfInBounds b true) (e.put k.dst w) g->OneFree P md ops Q S z (j+1) f e g
 |j,f,e,g,C,q,I,A,h=>by
  refine⟨λN=>absurd (N ▸ q) (by simp),λa p=>?_⟩
  by_cases i:a=b
  ·subst i
   exact I.wpOp u A ⟨λ_=>A,h⟩
  have Y:a≠z:=λd=>PA H q (d ▸ p)
  match j,h with
  |0,h=>
   have o:=ready_mono p i
   rw[h.1]at o
   cases o
  |j+1,h=>
   have o:=h.2 a (ready_mono p i)
   obtain⟨F,c,v,R⟩:=mem_ready.1 p
   have ab:∀d∈c.after,Region.binds md d=true->d.on≠b:=λd W V X=>by
    have n:=R d W V
    have J:=(mem_ready.1 q).1
    rw[X]at n
    obtain r|r:=Nat.lt_or_ge b f.size
    ·simp[r]at J n
     rw[J]at n
     cases n
    simp[Array.getElem?_eq_none r]at n
   have O:=wpOp_putIf v (C a c v i F ab) (λm l=>t b k m l u) (λm l=>t a c m l v) y I o
   refine wpOp_mono (λM w' s=>?_) O
   have B:=s.2.1 Y
   refine⟨λ_=>B,OneFree.ahead u t H ad y j (f.setIfInBounds a true) M w' (λL ae hq ac E aa=>C L ae hq ac ?_ aa) (ready_mono q (Ne.symm i)) s.1 B ?_⟩
   ·by_cases D:a=L
    ·subst D
     exact F
    rw[getD_set_ne true D]at E
    exact E
   rw[Array.setIfInBounds_comm _ _ i]
   exact s.2.2
theorem OneFree.take{i:Nat}{d:Oper}{v:Value}{e:Nat}{c:Array Bool}{a:Act}{b:World}(g:ops[i]?=some d)(n:Region.noSelect ops=true)(l:Region.free md ops c i=true)(m:(Region.ready md ops c).contains i=true)(o:mW md ops z i=true)(q:i≠z)(j:∀f a b,Q (.panic f) (a.put d.dst v) b->Q (.panic f) a b)(p:YieldsIf P ops S d v a)(k:S b)(h:OneFree P md ops Q S z e (c.setIfInBounds i true) (a.put d.dst v) b):OneFree P md ops Q S z (e+1) c a b:=
 OneFree.ahead g (Region.noSelect_spec n) o q j e c a b (Region.free_spec g l) (by simpa using m) p k h
theorem OneFree.one{a:Nat}{g:Nat}{b:Array Bool}{c:Act}{h:World}(f:Region.ready md ops b=[a])(k:wpOp P ops Q a (λj i=>(a≠z->S i)/\OneFree P md ops Q S z g (b.setIfInBounds a true) j i) c h):OneFree P md ops Q S z (g+1) b c h:=by
 refine⟨λd=>by rw[f]at d;simp at d,λl e=>?_⟩
 rw[f]at e
 have:l=a:=by simpa using e
 rw[this]
 exact k
theorem OneFree.done{d:Array Bool}{a:Act}{e:World}(c:Region.ready md ops d=[])(b:Q .normal a e):∀f,OneFree P md ops Q S z f d a e
 |0=>⟨c,b⟩
 |_+1=>⟨λ_=>b,by rw[c];simp⟩
theorem OneFree.region(S:World->Prop)(z:Nat){id:Nat}{a:Act}{b:World}(d:P.follows .mixedOrders=true)(c:OneFree P .any ops Q S z ops.size (Array.replicate ops.size false) a b.drew):(Code.region id ops true).wp P Q a b:=
  wp_region_any d (OneFree.plain _ _ _ _ c)
end
end Go.Proofs.YtapabahhfanmmaaGreatDoor
namespace Go.Proofs.YtapabahhfanmmaaGreatDoor
open Go
section
variable {P:Program} {ops:Array Oper} {Q:Exit->Act->World->Prop} {md:Region.Mode} {S:World->Prop} {z:Nat}
def TwoFree(P:Program)(md:Region.Mode)(ops:Array Oper)(Q:Exit->Act->World->Prop)(S:World->Prop)(z:Nat):Nat->Array Bool->Act->World->Prop
 |0,a,b,c=>Region.ready md ops a=[]/\Q .normal b c
 |f+1,a,b,c=>(Region.ready md ops a=[]->Q .normal b c)/\∀i∈Region.ready md ops a,wpOp P ops Q i (λe d=>(i≠z->a.getD z true=false->S d)/\TwoFree P md ops Q S z f (a.setIfInBounds i true) e d) b c
theorem TwoFree.plain:∀(b:Nat) (d:Array Bool) (c:Act) (e:World),TwoFree P md ops Q S z b d c e->wpAny P md ops Q b d c e
 |0,_,_,_,a=>a
 |b+1,_,_,_,a=>⟨a.1,λh g=>wpOp_mono (λf j i=>TwoFree.plain b _ f j i.2) (a.2 h g)⟩
theorem WC{c:Array Bool}{a:Nat}(d:c.getD a true=false):(c.setIfInBounds a true).getD a true=true:=by
 obtain b|b:=Nat.lt_or_ge a c.size
 ·simp[b]
 simp[Array.getElem?_eq_none b]at d
theorem TwoFree.aheadW{d:Nat}{n:Oper}{C:Value}(x:ops[d]?=some n)(w:∀(a:Nat) (f:Oper) p o,ops[a]?=some f->f.op≠.select p o)(q:d≠z)(E:∀D h i,Q (.panic D) (h.put n.dst C) i->Q (.panic D) h i):∀(m:Nat) (b:Array Bool) (h:Act) (i:World),(∀a f,ops[a]?=some f->a≠d->b.getD a true=false->(∀e∈f.after,Region.binds md e=true->e.on≠d)->n.apart ops f=true) ->d∈Region.ready md ops b->YieldsIf P ops (λ_=>True) n C h->(b.getD z true=false->S i) ->TwoFree P md ops Q S z m (b.setIfInBounds d true) (h.put n.dst C) i->TwoFree P md ops Q S z (m+1) b h i
 |m,b,h,i,F,y,M,X,j=>by
  refine⟨λV=>absurd (V ▸ y) (by simp),λa u=>?_⟩
  by_cases l:a=d
  ·subst l
   exact M.wpOp x trivial ⟨λ_=>X,j⟩
  match m,j with
  |0,j=>
   have s:=ready_mono u l
   rw[j.1]at s
   cases s
  |m+1,j=>
   have s:=j.2 a (ready_mono u l)
   obtain⟨A,f,B,aa⟩:=mem_ready.1 u
   have ae:∀e∈f.after,Region.binds md e=true->e.on≠d:=λe he hb ab=>by
    have r:=aa e he hb
    have N:=(mem_ready.1 y).1
    rw[ab]at r
    obtain k|k:=Nat.lt_or_ge d b.size
    ·simp[k]at N r
     rw[N]at r
     cases r
    simp[Array.getElem?_eq_none k]at r
   have W:=wpOp_putIf B (F a f B l A ae) (λp o=>w d n p o x) (λp o=>w a f p o B) E M s
   refine wpOp_mono (λR O t=>?_) W
   have ac:∀g,(b.setIfInBounds g true).getD z true=false->b.getD z true=false:=λg c=>by
    by_cases J:g=z
    ·subst J
     cases e:b.getD g true with
     |false=>rfl
     |true=>
      obtain k|k:=Nat.lt_or_ge g b.size
      ·simp[k]at c
      simp at c
    rwa[getD_set_ne true J]at c
   have I:b.getD z true=false->d≠z->(b.setIfInBounds d true).getD z true=false:=λc q=>by rwa[getD_set_ne true q]
   have Y:(b.setIfInBounds a true).getD z true=false->S O:=λc=>by
    have v:a≠z:=λe=>by
     subst e
     rw[WC A]at c
     cases c
    exact t.2.1 v (I (ac a c) q)
   refine⟨λv c=>?_,TwoFree.aheadW x w q E m (b.setIfInBounds a true) R O (λg ag c af L ad=>F g ag c af ?_ ad) (ready_mono y (Ne.symm l)) t.1 Y ?_⟩
   ·exact t.2.1 v (I c q)
   ·by_cases H:a=g
    ·subst H
     exact A
    rw[getD_set_ne true H]at L
    exact L
   rw[Array.setIfInBounds_comm _ _ l]
   exact t.2.2
theorem TwoFree.takeW{i:Nat}{d:Oper}{v:Value}{e:Nat}{c:Array Bool}{a:Act}{b:World}(g:ops[i]?=some d)(n:Region.noSelect ops=true)(l:Region.free md ops c i=true)(m:(Region.ready md ops c).contains i=true)(p:i≠z)(j:∀f a b,Q (.panic f) (a.put d.dst v) b->Q (.panic f) a b)(o:YieldsIf P ops (λ_=>True) d v a)(k:c.getD z true=false->S b)(h:TwoFree P md ops Q S z e (c.setIfInBounds i true) (a.put d.dst v) b):TwoFree P md ops Q S z (e+1) c a b:=
 TwoFree.aheadW g (Region.noSelect_spec n) p j e c a b (Region.free_spec g l) (by simpa using m) o k h
theorem TwoFree.ahead{b:Nat}{k:Oper}{w:Value}(u:ops[b]?=some k)(t:∀(a:Nat) (c:Oper) m l,ops[a]?=some c->c.op≠.select m l)(I:mW md ops z b=true)(M:b≠z)(y:∀x f g,Q (.panic x) (f.put k.dst w) g->Q (.panic x) f g):∀(j:Nat) (e:Array Bool) (f:Act) (g:World),(∀a c,ops[a]?=some c->a≠b->e.getD a true=false->(∀d∈c.after,Region.binds md d=true->d.on≠b)->k.apart ops c=true) ->b∈Region.ready md ops e->YieldsIf P ops S k w f->e.getD z true=false->S g ->TwoFree P md ops Q S z j (e.setIfInBounds b true) (f.put k.dst w) g->TwoFree P md ops Q S z (j+1) e f g
 |j,e,f,g,C,q,J,L,A,h=>by
  refine⟨λV=>absurd (V ▸ q) (by simp),λa p=>?_⟩
  by_cases i:a=b
  ·subst i
   exact J.wpOp u A ⟨λ_ _=>A,h⟩
  have E:a≠z:=λd=>PA I q (d ▸ p)
  match j,h with
  |0,h=>
   have o:=ready_mono p i
   rw[h.1]at o
   cases o
  |j+1,h=>
   have o:=h.2 a (ready_mono p i)
   obtain⟨H,c,v,X⟩:=mem_ready.1 p
   have ac:∀d∈c.after,Region.binds md d=true->d.on≠b:=λd he Y aa=>by
    have n:=X d he Y
    have N:=(mem_ready.1 q).1
    rw[aa]at n
    obtain r|r:=Nat.lt_or_ge b e.size
    ·simp[r]at N n
     rw[N]at n
     cases n
    simp[Array.getElem?_eq_none r]at n
   have W:=wpOp_putIf v (C a c v i H ac) (λm l=>t b k m l u) (λm l=>t a c m l v) y J o
   refine wpOp_mono (λR w' s=>?_) W
   have B:=s.2.1 E (by rw[getD_set_ne true M];exact L)
   refine⟨λ_ _=>B,TwoFree.ahead u t I M y j (e.setIfInBounds a true) R w' (λO ae hq ad F ab=>C O ae hq ad ?_ ab) (ready_mono q (Ne.symm i)) s.1 (by rw[getD_set_ne true E];exact L) B ?_⟩
   ·by_cases D:a=O
    ·subst D
     exact H
    rw[getD_set_ne true D]at F
    exact F
   rw[Array.setIfInBounds_comm _ _ i]
   exact s.2.2
theorem TwoFree.take{i:Nat}{d:Oper}{v:Value}{e:Nat}{c:Array Bool}{a:Act}{b:World}(g:ops[i]?=some d)(n:Region.noSelect ops=true)(l:Region.free md ops c i=true)(m:(Region.ready md ops c).contains i=true)(o:mW md ops z i=true)(r:i≠z)(q:c.getD z true=false)(j:∀f a b,Q (.panic f) (a.put d.dst v) b->Q (.panic f) a b)(p:YieldsIf P ops S d v a)(k:S b)(h:TwoFree P md ops Q S z e (c.setIfInBounds i true) (a.put d.dst v) b):TwoFree P md ops Q S z (e+1) c a b:=
 TwoFree.ahead g (Region.noSelect_spec n) o r j e c a b (Region.free_spec g l) (by simpa using m) p q k h
theorem TwoFree.one{a:Nat}{g:Nat}{b:Array Bool}{c:Act}{h:World}(f:Region.ready md ops b=[a])(k:wpOp P ops Q a (λj i=>(a≠z->b.getD z true=false->S i)/\TwoFree P md ops Q S z g (b.setIfInBounds a true) j i) c h):TwoFree P md ops Q S z (g+1) b c h:=by
 refine⟨λd=>by rw[f]at d;simp at d,λl e=>?_⟩
 rw[f]at e
 have:l=a:=by simpa using e
 rw[this]
 exact k
theorem TwoFree.done{d:Array Bool}{a:Act}{e:World}(c:Region.ready md ops d=[])(b:Q .normal a e):∀f,TwoFree P md ops Q S z f d a e
 |0=>⟨c,b⟩
 |_+1=>⟨λ_=>b,by rw[c];simp⟩
theorem TwoFree.region(S:World->Prop)(z:Nat){id:Nat}{a:Act}{b:World}(d:P.follows .mixedOrders=true)(c:TwoFree P .any ops Q S z ops.size (Array.replicate ops.size false) a b.drew):(Code.region id ops true).wp P Q a b:=
  wp_region_any d (TwoFree.plain _ _ _ _ c)
end
theorem tw{P:Program}{ops:Array Oper}{Q:Exit->Act->World->Prop}{md:Region.Mode}{S:World->Prop}{z:Nat}(i:Nat){o:Oper}{v:Value}{n:Nat}{li:Array Bool}{a:Act}{w:World}{l':Array Bool}{a':Act}(hS:li.getD z true=false->S w)(h:TwoFree P md ops Q S z n l' a' w)(ho:ops[i]?=some o:=by simp only[G];rfl)(hs:Region.noSelect ops=true:=by kernel_rfl)(hf:Region.free md ops li i=true:=by kernel_rfl)(hr:(Region.ready md ops li).contains i=true:=by kernel_rfl)(hzi:i≠z:=by decide)(hQ:∀c a w,Q (.panic c) (a.put o.dst v) w->Q (.panic c) a w:=by exact fun _ _ _ h=>h)(hy:YieldsIf P ops (fun _=>True) o v a:=by first|(refine .inl ⟨by rfl,?_⟩;intro w h;go_simp;first|with_reducible rfl|done)|exact .inr ⟨by rfl,rfl⟩)(hl:l'=li.setIfInBounds i true:=by first|(simp only[Act.put,Z];rfl)|rfl)(ha:a'=a.put o.dst v:=by first|(simp only[Act.put,Z];rfl)|rfl):TwoFree P md ops Q S z (n+1) li a w:=
 TwoFree.takeW ho hs hf hr hzi hQ hy hS (by subst hl ha;exact h)
theorem tt{P:Program}{ops:Array Oper}{Q:Exit->Act->World->Prop}{md:Region.Mode}{S:World->Prop}{z:Nat}(i:Nat){o:Oper}{v:Value}{n:Nat}{li:Array Bool}{a:Act}{w:World}{l':Array Bool}{a':Act}(hS:S w)(h:TwoFree P md ops Q S z n l' a' w)(ho:ops[i]?=some o:=by simp only[G];rfl)(hs:Region.noSelect ops=true:=by kernel_rfl)(hf:Region.free md ops li i=true:=by kernel_rfl)(hr:(Region.ready md ops li).contains i=true:=by kernel_rfl)(hw:mW md ops z i=true:=by kernel_rfl)(hzi:i≠z:=by decide)(hz:li.getD z true=false:=by kernel_rfl)(hQ:∀c a w,Q (.panic c) (a.put o.dst v) w->Q (.panic c) a w:=by exact fun _ _ _ h=>h)(hy:YieldsIf P ops S o v a:=by first|(refine .inl ⟨by rfl,?_⟩;intro w h;go_simp;first|with_reducible rfl|done)|exact .inr ⟨by rfl,rfl⟩)(hl:l'=li.setIfInBounds i true:=by first|(simp only[Act.put,Z];rfl)|rfl)(ha:a'=a.put o.dst v:=by first|(simp only[Act.put,Z];rfl)|rfl):TwoFree P md ops Q S z (n+1) li a w:=
 TwoFree.take ho hs hf hr hw hzi hz hQ hy hS (by subst hl ha;exact h)
theorem tv{P:Program}{ops:Array Oper}{Q:Exit->Act->World->Prop}{md:Region.Mode}{S:World->Prop}{z:Nat}(i:Nat){o:Oper}{v:Value}{n:Nat}{li:Array Bool}{a:Act}{w:World}{l':Array Bool}{a':Act}(hS:S w)(h:OneFree P md ops Q S z n l' a' w)(ho:ops[i]?=some o:=by simp only[G];rfl)(hs:Region.noSelect ops=true:=by kernel_rfl)(hf:Region.free md ops li i=true:=by kernel_rfl)(hr:(Region.ready md ops li).contains i=true:=by kernel_rfl)(hw:mW md ops z i=true:=by kernel_rfl)(hzi:i≠z:=by decide)(hQ:∀c a w,Q (.panic c) (a.put o.dst v) w->Q (.panic c) a w:=by exact fun _ _ _ h=>h)(hy:YieldsIf P ops S o v a:=by first|(refine .inl ⟨by rfl,?_⟩;intro w h;go_simp;first|with_reducible rfl|done)|exact .inr ⟨by rfl,rfl⟩)(hl:l'=li.setIfInBounds i true:=by first|(simp only[Act.put,Z];rfl)|rfl)(ha:a'=a.put o.dst v:=by first|(simp only[Act.put,Z];rfl)|rfl):OneFree P md ops Q S z (n+1) li a w:=
 OneFree.take ho hs hf hr hw hzi hQ hy hS (by subst hl ha;exact h)
section
variable {P:Program} {md:Region.Mode} {ops:Array Oper} {Q:Exit->Act->World->Prop} {S:World->Prop} {fuel:Nat} {listed:Array Bool} {a:Act} {w:World} {o:Oper}
theorem rd(c:Nat)(d:∀b:Act->World->Prop,Shut (∀a w,S w->(S w->wpAnyH P md ops Q S fuel (listed.setIfInBounds c true) a w)->b a w)->if Region.wanted o (yielded ops a.tmps)=true then Oper.wp P o a w b Q else b (a.put o.dst undef) w)(e:Region.ready md ops listed=[c]:=by kernel_rfl)(ho:ops[c]?=some o:=by simp only[G];rfl):wpAnyH P md ops Q S (fuel+1) listed a w:=wpAnyH_ready e (by simp) (AllReadyH.cons ho d AllReadyH.nil)
theorem o1(b:Nat){d:Nat}(e:∀c:Act->World->Prop,(∀a w,((b≠d->S w)/\OneFree P md ops Q S d fuel (listed.setIfInBounds b true) a w)->c a w)->if Region.wanted o (yielded ops a.tmps)=true then Oper.wp P o a w c Q else c (a.put o.dst undef) w)(f:Region.ready md ops listed=[b]:=by kernel_rfl)(ho:ops[b]?=some o:=by simp only[G];rfl):OneFree P md ops Q S d (fuel+1) listed a w:=OneFree.one f (wpOp_step ho e)
theorem t1(b:Nat){c:Nat}(e:∀d:Act->World->Prop,(∀a w,((b≠c->listed.getD c true=false->S w)/\TwoFree P md ops Q S c fuel (listed.setIfInBounds b true) a w)->d a w)->if Region.wanted o (yielded ops a.tmps)=true then Oper.wp P o a w d Q else d (a.put o.dst undef) w)(f:Region.ready md ops listed=[b]:=by kernel_rfl)(ho:ops[b]?=some o:=by simp only[G];rfl):TwoFree P md ops Q S c (fuel+1) listed a w:=TwoFree.one f (wpOp_step ho e)
theorem tz(b:Nat)(e:S w)(c:wpAnyH P md ops Q S fuel (listed.setIfInBounds b true) (a.put o.dst undef) w)(f:ops[b]?=some o:=by rfl)(hb:(Region.noSelect ops&&(Region.free md ops listed b&&(Region.ready md ops listed).contains b))=true:=by kernel_rfl)(hQ:∀d a w,Q (.panic d) (a.put o.dst undef) w->Q (.panic d) a w:=by exact λ_ _ _ c=>c)(hw:Region.wanted o (yielded ops a.tmps)=false:=by kernel_rfl):wpAnyH P md ops Q S (fuel+1) listed a w:=
 tk b undef f hb hQ (.inr ⟨hw,rfl⟩) e c
theorem ty(b:Nat)(c:Value)(h:ops[b]?=some o)(i:∀w,S w->(execOp a.eval o).run P w=.ok (.value c) w)(f:S w)(d:wpAnyH P md ops Q S fuel (listed.setIfInBounds b true) (a.put o.dst c) w)(g:(Region.noSelect ops&&(Region.free md ops listed b&&(Region.ready md ops listed).contains b))=true:=by kernel_rfl)(hQ:∀e a w,Q (.panic e) (a.put o.dst c) w->Q (.panic e) a w:=by exact λ_ _ _ d=>d)(hw:Region.wanted o (yielded ops a.tmps)=true:=by kernel_rfl):wpAnyH P md ops Q S (fuel+1) listed a w:=
 tk b c h g hQ (.inl ⟨hw,i⟩) f d
end
abbrev fM(b:Nat)(c:U)(w:World)(d:Prop):Prop:=w.cell? ⟨b,0,none⟩=some (ii c.id)/\w.cell? ⟨b,1,none⟩=some (ii c.owner)/\w.cell? ⟨b,2,none⟩=some (ii c.kind)/\w.cell? ⟨b,3,none⟩=some (ii c.x)/\w.cell? ⟨b,4,none⟩=some (ii c.y)/\w.cell? ⟨b,5,none⟩=some (ii c.life)/\w.cell? ⟨b,6,none⟩=some (ii c.load)/\w.cell? ⟨b,7,none⟩=some (ii c.what)/\w.cell? ⟨b,8,none⟩=some (ii c.tox)/\w.cell? ⟨b,9,none⟩=some (ii c.toy)/\w.cell? ⟨b,10,none⟩=some (ii c.target)/\d
open List Go.Proofs.Tryz
set_option linter.defProp false
def Q0:=@length_set
def Q1:=@And.right
def Q3:=@underlying85
def Q5:=@bodyPost_end
def Q6:=@results_none
def Q7:=@if_pos
def Q8:=@mem_of_getElem?
def Q9:=@Nat.le_refl
def Z0:=@if_neg
def Z1:=@Nat.lt_of_lt_of_le
def Z2:=@info_parts
def Z3:=@Nat.zero_le
def Z5:=@underlying25
def Z6:=@drop_of_length_le
def Z7:=@length_cons
def Z8:=@nil_append
def Z9:=@Nat.zero_add
def X0:=@append_assoc
def X1:=@cons_append
def X2:=@Go.Sem.run_bind
def X9:=@underlying90
def J1:=@Go.AllReadyH.cons
def J2:=@Go.AllReadyH.nil
def J6:=@getElem?_toArray
def J7:=@getElem?_append_left
def J8:=@getElem?_append_right
def J9:=@Go.World.frozen?_setCell
def Y0:=@Nat.add_assoc
def Y1:=@find?_eq_some_iff_getElem
def Y2:=@getElem?_eq_getElem
def Y3:=@Nat.le_trans
def Y4:=@underlying269
def Y5:=@map_cons
def Y8:=@underlying159
def V1:=@nodup_cons
def V2:=@Option.map_eq_some_iff
def V3:=@congrArg
def V4:=@getElem?_map
def V8:=@ext_getElem?
def V9:=@Array.getElem?_toList
def j9:=@underlying205
def p8:=@trivial
def p9:=@mem_filter
def m4:=@length_pos_of_mem
def m5:=@mem_append
def m7:=@underlying34
def m8:=@length_append
def m9:=@Option.some.inj
def n8:=@underlying93
def n9:=@ByteArray.ext
def l6:=@underlying168
def l8:=@take_of_length_le
def l9:=@flatMap_cons
def i6:=@mem_flatMap
def i7:=@Go.Addr.add_lit
def i8:=@Classical.choose_spec
def Qq0:=@mem_cons
def Qq1:=@length_map
def Qq2:=@Go.DataW.trod_int
def Qq3:=@underlying3
def Qq4:=@underlying9
def Qq5:=@underlying39
def Qq6:=@underlying51
def Qq8:=@underlying82
def Qz0:=@take_append
def Qz2:=@length_drop
def Qz3:=@getElem?_take_of_lt
def Qz4:=@setRow_heap
def Qz5:=@flatMap_append
def Qz6:=@take_append_of_le_length
def Qz8:=@length_take
def Qz9:=@Nat.mod_eq_of_lt
def Qx0:=@Int.tmod_eq_emod_of_nonneg
def Qx1:=@Go.Calls.mono
def Qx2:=@Go.RowKit.Below.heap_alloc
def Qx3:=@size_toArray
def Qx4:=@eq_nil_of_length_eq_zero
def Qx5:=@Nat.mul_le_mul_right
def Qx6:=@setRow_other
def Qx8:=@Go.Proofs.Tryz.underlying9
def Qx9:=@map_append
def Qj7:=@take_succ_eq_append_getElem
def Qj8:=@of_decide_eq_true
def Qk0:=@underlying88
def Qk2:=@underlying46
def Qk3:=@mem_append_left
def Qk4:=@mem_filterMap
def Qk5:=@mem_range
def Qk6:=@mem_append_right
def Qk7:=@mem_map
def Qk8:=@Go.ByteArray.toList_mk
def Qk9:=@mem_iff_getElem?
def Zq1:=@take_length
def Zq2:=@Go.IntKind.wrap_i64
def Zq3:=@Array.getElem?_eq_getElem
def Zq4:=@Option.isSome_iff_exists
def Zq6:=@append_nil
def Zq7:=@Go.World.ownsRow.alloc
def Zq8:=@bodyPost_ret
def Zz1:=@set_append_right
def Zz2:=@drop_eq_getElem_cons
def Zz3:=@results178
def Zz4:=@mem_cons_of_mem
def Zz5:=@getElem?_cons_succ
def Zz6:=@setCell_eq_setRow
def Zz7:=@Go.RowKit.Below.heap_setCell
def Zz8:=@results_cell_row
def Zz9:=@And.left
def Zx0:=@Nat.lt_or_ge
def Zx2:=@mem_eraseIdx_iff_getElem?
def Zx3:=@Int.le_refl
def Zx4:=@Int.le_trans
def Zx5:=@getElem?_of_mem
def Zx6:=@mem_of_find?_eq_some
def Zx7:=@Go.World.frozen?_of_block
def Zx9:=@mem_ready
def Zj1:=@ready_mono
def Zj2:=@getD_set_ne
def Zj3:=@Array.setIfInBounds_comm
def Zj4:=@underlying220
def Zj5:=@Go.World.cell?_setCells_in
def Zj6:=@Nat.eq_zero_or_pos
def Zj7:=@idxOf_lt_length_of_mem
def Zj8:=@Go.World.ownsRow.lt
def Zj9:=@pairwise_iff_getElem
def Zk0:=@Nat.zero_mul
def Zk1:=@countP_le_length
def Zk2:=@all_oneCell_toArray
def Zk3:=@Nat.add_sub_cancel_left
def Zk4:=@getElem?_range
def Zk5:=@mem_map_of_mem
def Zk6:=@underlying206
def Zk8:=@Array.ext_getElem?
def Zk9:=@Array.getElem?_setIfInBounds
def Xq1:=@Nat.pow_le_pow_right
def Xq2:=@underlying5
def Xq3:=@run_convert_bytes_back
def Xq4:=@drop_left
def Xq5:=@underlying162
def Xq7:=@results90
