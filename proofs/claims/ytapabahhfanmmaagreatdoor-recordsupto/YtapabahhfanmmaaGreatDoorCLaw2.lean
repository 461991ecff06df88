import Derived.Test.YtapabahhfanmmaaGreatDoorCBookL
import Derived.Test.YtapabahhfanmmaaGreatDoorCRefK
namespace Go.Proofs.YtapabahhfanmmaaGreatDoor
open Go.RowKit List
set_option maxRecDepth 100000
set_option maxHeartbeats 1000000
def CmdR (w:World)(v:Value)(l:List Cm):Prop:=(∃ d b,v=.slice d 0 b/\l=[])\/∃ a c b,v=.slice (some ⟨a,c,none⟩) l.length b/\a < w.heap.size/\∀ (i:Nat) (h:i < l.length),w.rangeAt a (c+i*5) (l[i]'h).cells
theorem CmdR.fr0 {w d:World}{v:Value}{l:List Cm}(h:CmdR w v l)(b:Fr [] w d):CmdR d v l:=by
 rcases h with h|⟨c,k,g,h1,a,e⟩
 ·exact .inl h
 refine .inr ⟨c,k,g,h1,Nat.lt_of_lt_of_le a b.size,fun i hi j u f=>?_⟩
 rw [b.cell c _ a (by simp)]
 exact e i hi j u f
structure OpD where
 kind:Int
 fa:Option Addr
 fn:Nat
 fc:Nat
 sa:Option Addr
 sn:Nat
 sc:Nat
 tx:ByteArray
 ia:Option Addr
 il:Nat
 ic:Nat
 n:Int
 ga:Option Addr
 gl:Nat
 gc:Nat
 fst:List Cm
 snd:List Cm
abbrev OpD.f (d:OpD):Value:=.slice d.fa d.fn d.fc
abbrev OpD.s (d:OpD):Value:=.slice d.sa d.sn d.sc
abbrev OpD.cells (d:OpD):List Value:=[ii d.kind,.slice d.fa d.fn d.fc,.slice d.sa d.sn d.sc,.string d.tx,.slice d.ia d.il d.ic,ii d.n,.slice d.ga d.gl d.gc]
structure OpV (w:World) (d:OpD):Prop where
 f:CmdR w d.f d.fst
 s:CmdR w d.s d.snd
 fl:d.fst.length<=2000000
 sl:d.snd.length<=2000000
 tl:d.tx.data.toList.length<=2000000
def pR (w:World)(v:Value)(l:List OpD):Prop:=(∃ d b,v=.slice d 0 b/\l=[])\/∃ a c b,v=.slice (some ⟨a,c,none⟩) l.length b/\a < w.heap.size/\∀ (i:Nat) (h:i < l.length),w.rangeAt a (c+i*7) (l[i]'h).cells/\OpV w (l[i]'h)
def lM (a b:List Nat)(i:Nat):List Nat:=if i=0 then a else b
theorem JT {l:List Nat}{k:Nat}(h:k < l.length):(ints l)[k]?=some (ii ((l[k]'h:Nat):Int)):=by
 unfold ints
 rw [getElem?_map,getElem?_eq_getElem h]
 rfl
theorem zR {w:World}{base:Nat}{v:Value}{l:List Nat}(h:w.ownsRow base 3 1 v l.length (ints l)):∃ a c,v=.slice a l.length c/\∀ k (b:k < l.length),∃ g,a=some ⟨g,0,none⟩/\w.cell? ⟨g,k,none⟩=some (ii ((l[k]'b:Nat):Int)):=by
 obtain ⟨a,c,rfl⟩:=fF h
 refine ⟨a,c,rfl,fun k b=>?_⟩
 obtain ⟨g,d,e⟩:=bK h (by omega)
 cases e
 refine ⟨g,rfl,?_⟩
 have:=h.cells (g:=g) rfl k _ (JT b)
 rwa [Addr.add_lit,Nat.zero_add] at this
theorem Refs.rows {w:World}{base:Nat}{v:Value}{a b:List Nat}(h:Refs w base v a b):∃ e f,v=.slice (so e) 2 f/\∀ i,i < 2->∃ d c,w.cell? ⟨e,i,none⟩=some (.slice d (lM a b i).length c)/\∀ k (m:k < (lM a b i).length),∃ g,d=some ⟨g,0,none⟩/\w.cell? ⟨g,k,none⟩=some (ii (((lM a b i)[k]'m:Nat):Int)):=by
 obtain ⟨e,f,n,o,rfl,j,_,l,h1⟩:=h
 refine ⟨e,f,rfl,fun i hi=>?_⟩
 have:i=0\/i=1:=by omega
 rcases this with rfl|rfl
 ·obtain ⟨d,c,rfl,q⟩:=zR l
  exact ⟨d,c,by rw [aB j];rfl,q⟩
 obtain ⟨d,c,rfl,q⟩:=zR h1
 exact ⟨d,c,by rw [aB j];rfl,q⟩
theorem zX (base r:Nat)(a b:List Nat)(v P:Value)(w:World)(h:Refs w base v a b)(N:Refs w r P a b)(ha:a.length<=2000000)(hb:b.length<=2000000) :
  Cs 96 #[v,P] w fun e w'=>e=.returned (.bool true)/\Fr [] w w':=by
 obtain ⟨J,rc,rfl,O⟩:=h.rows
 obtain ⟨t,aa,rfl,E⟩:=N.rows
 have K:=aA O
 have z:=(show Hi _ from E)
 have y:Hi (∀ i,(lM a b i).length<=2000000):=fun i=>by unfold lM;split <;> assumption
 have Q:Hi (∀ i,i < 2->∃ (l:List Nat) (p:Option Addr) (c:Nat) (d:Option Addr) (c':Nat),l.length<=2000000/\w.cell? ⟨J,i,none⟩=some (.slice p l.length c)/\w.cell? ⟨t,i,none⟩=some (.slice d l.length c')/\(∀ k (F:k < l.length),∃ g,p=some ⟨g,0,none⟩/\w.cell? ⟨g,k,none⟩=some (ii ((l[k]'F:Nat):Int)))/\(∀ k (F:k < l.length),∃ g,d=some ⟨g,0,none⟩/\w.cell? ⟨g,k,none⟩=some (ii ((l[k]'F:Nat):Int)))):=fun i hi=>by
  obtain ⟨p,c,W,X⟩:=K.o i hi
  obtain ⟨d,c',Y,q4⟩:=z.o i hi
  exact ⟨lM a b i,p,c,d,c',y.o i,W,Y,X,q4⟩
 clear h N O E K z y
 go_enter Tryz.func96,Tryz.ntmps96
 go_wp2_with fail
 go_loopw [5] (fun i wr=>∃ k:Nat,k<=2/\i=.int .i64 k/\Fr [] w wr) (fun i _=>2 - (intOf i).toNat)
 case atStart=>exact ⟨0,Nat.zero_le _,rfl,r0 _ _⟩
 obtain ⟨i,hi,rfl,m⟩:=hrel
 by_cases C:i < 2
 ·have D:(i:Int) < 2:=by omega
  obtain ⟨l,p,c,d,c',V,u,f,L,A⟩:=Q.o i C
  have M:wr.cell? ⟨J,i,none⟩=some (.slice p l.length c):=(m.cell _ _ (aI u) (by simp)).trans u
  have B:wr.cell? ⟨t,i,none⟩=some (.slice d l.length c'):=(m.cell _ _ (aI f) (by simp)).trans f
  have R:=aA L
  have I:=(show Hi _ from A)
  clear L A
  go_wp2_with fail
  go_quiet (fail)
  go_wp2_with fail
  go_loopw [6] (fun j wr=>∃ k:Nat,k<=l.length/\j=.int .i64 k/\Fr [] w wr) (fun j _=>l.length - (intOf j).toNat)
  case atStart=>exact ⟨0,Nat.zero_le _,rfl,m.drewN _⟩
  clear M B m
  obtain ⟨k,F,rfl,m⟩:=hrel
  have M:wr.cell? ⟨J,i,none⟩=some (.slice p l.length c):=(m.cell _ _ (aI u) (by simp)).trans u
  have B:wr.cell? ⟨t,i,none⟩=some (.slice d l.length c'):=(m.cell _ _ (aI f) (by simp)).trans f
  by_cases n:k < l.length
  ·have s:(k:Int) < (l.length:Int):=by omega
   obtain ⟨g,rfl,q⟩:=R.o k n
   obtain ⟨g',rfl,H⟩:=I.o k n
   obtain ⟨x,hx⟩:∃ x:Nat,l[k]=x:=⟨_,rfl⟩
   rw [hx] at q H
   have f2:=(m.cell _ _ (aI q) (by simp)).trans q
   have S:=(m.cell _ _ (aI H) (by simp)).trans H
   clear q H hx u f
   go_wp2_with fail
   go_quiet (fail)
   go_wp2_with fail
   go_roundw
   case rel=>exact ⟨k+1,n,by go_num,m.drewN _⟩
   case measure=>simp [intOf];omega
  have s:¬ (k:Int) < (l.length:Int):=by omega
  clear u f
  go_wp2_with fail
  go_roundw
  case rel=>exact ⟨i+1,C,by go_num,m⟩
  case measure=>simp [intOf];omega
 have D:¬ (i:Int) < 2:=by omega
 go_wp2_with fail
 go_ret
 exact ⟨rfl,m⟩
set_option maxRecDepth 100000
abbrev Cm.arr (c:Cm):Array Value:=#[.int .i64 c.unit,.int .i64 c.what,.int .i64 c.x,.int .i64 c.y,.int .i64 c.target]
theorem wB:(Tryz.prog.info? 81).map (fun i=>(i.zero,i.size,i.bytes))=some (some (Cm.val ⟨0,0,0,0,0⟩),5,40):=by kernel_rfl
theorem Cm.one (c:Cm):∀ u∈c.cells,u.oneCell'=true:=by simp [Value.oneCell']
structure CopI (w:World) (l:List Cm) (k:Nat) (v:Value) (wr:World):Prop where
 own:wr.ownsRow w.heap.size 81 5 v k ((l.take k).flatMap Cm.cells)
 fr:Fr [] w wr
theorem kY (l:List Cm)(v:Value)(w:World)(h:CmdR w v l)(S:l.length<=2000000) :
  Cs 94 #[v] w fun e V=>∃ Q,e=.returned Q/\V.ownsRow w.heap.size 81 5 Q l.length (l.flatMap Cm.cells)/\Fr [] w V:=by
 obtain ⟨O,J,L,M,N⟩:=info_parts wB
 obtain ⟨z,D,rfl⟩:∃ z D,v=.slice z l.length D:=by
  rcases h with ⟨z,D,rfl,rfl⟩|⟨d,p,D,rfl,_⟩
  ·exact ⟨_,_,rfl⟩
  exact ⟨_,_,rfl⟩
 have W:=aA h
 clear h
 go_enter Tryz.func94,Tryz.ntmps94
 go_wp2_with fail
 go_loopw [3,4] (fun v i wr=>∃ k:Nat,k<=l.length/\i=.int .i64 k/\CopI w l k v wr) (fun _ i _=>l.length - (intOf i).toNat)
 case atStart=>exact ⟨0,Nat.zero_le _,rfl,⟨rfl,.inl ⟨rfl,rfl⟩⟩,r0 _ _⟩
 obtain ⟨k,hk,rfl,hown,q⟩:=hrel
 by_cases n:k < l.length
 ·have B:(k:Int) < (l.length:Int):=by omega
  obtain ⟨c,C⟩:∃ c,l[k]?=some c:=⟨l[k],getElem?_eq_getElem n⟩
  obtain ⟨d,p,rfl,A,m⟩:∃ d p,z=some ⟨d,p,none⟩/\d < w.heap.size/\w.rangeAt d (p+k*5) c.cells:=by
   rcases W.o with ⟨z,P,R,Y⟩|⟨d,p,P,R,h2,h3⟩
   ·rw [Y] at n;simp at n
   refine ⟨d,p,by simpa using congrArg (fun v:Value=>match v with|.slice a _ _=>a|_=>none) R,h2,?_⟩
   have:=h3 k n
   rw [getElem?_eq_getElem n] at C
   rw [Option.some.inj C] at this
   exact this
  have f:∀ j,wr.cell? ⟨d,j,none⟩=w.cell? ⟨d,j,none⟩:=fun j=>q.cell _ _ A (by simp)
  have c0:ca wr d (p+k*5) (ii c.unit):=(f _).trans (m 0 _ rfl)
  have c1:ca wr d (p+k*5+1) (ii c.what):=(f _).trans (m 1 _ rfl)
  have c2:ca wr d (p+k*5+2) (ii c.x):=(f _).trans (m 2 _ rfl)
  have c3:ca wr d (p+k*5+3) (ii c.y):=(f _).trans (m 3 _ rfl)
  have c4:ca wr d (p+k*5+4) (ii c.target):=(f _).trans (m 4 _ rfl)
  have X:Hi (∀ (j:Nat) (u:Value),c.cells[j]?=some u->(wr.alloc (.cells c.arr 81)).cell? ((⟨wr.heap.size,0,none⟩:Addr).add j)=some u):=by
   intro j u hu
   rw [Addr.add_lit,Nat.zero_add,aB (aC wr _)]
   simpa using hu
  have E:Hi (∀ b,u3.ownBlock=some b->w.heap.size<=b):=fun b hb=>(hown.lt b hb).1
  have F:Hi ((wr.alloc (.cells c.arr 81)).ownsRow w.heap.size 81 5 u3 k ((l.take k).flatMap Cm.cells)):=aF hown ((r0 [] wr).alloc _) (by simp)
  have aa:=q.size
  have H:Hi ((l.take (k+1)).flatMap Cm.cells=(l.take k).flatMap Cm.cells ++ c.cells):=by
   show _=_
   rw [take_add_one,C]
   simp
  have t:=(show Hi _ from Cm.one c)
  clear hown m f C
  go_wp2_with (at_builtin;refine wpList_append_own _ rfl _ _ 39 rfl w.heap.size 81 O (Cm.val ⟨0,0,0,0,0⟩) 5 40 Tryz.underlying39 J L M N rfl (by decide) u3 k ((l.take k).flatMap Cm.cells) rfl F.o ⟨wr.heap.size,0,none⟩ 1 1 c.cells rfl rfl X.o t.o (by unfold maxLen;omega) (by omega) (by simp;omega) ?_;intro Q w3 s r K)
  have I:Fr [] w w3:=(q.alloc _).grow r (fun g hg=>.inr (E.o g hg))
  go_roundw
  case rel=>exact ⟨k+1,n,by go_num,by rw [H.o];exact s,I⟩
  case measure=>simp [intOf];omega
 have:k=l.length:=by omega
 subst this
 have B:¬ (l.length:Int) < (l.length:Int):=by omega
 rw [take_length] at hown
 go_wp2_with fail
 go_ret
 exact ⟨u3,rfl,hown,q⟩
theorem oA:∀ (l:List Cm) (i j:Nat) (h:i < l.length),j < 5->(l.flatMap Cm.cells)[i*5+j]?=(l[i]'h).cells[j]?
 | [],i,j,h,_=>by simp at h
 | c :: l,0,j,h,a=>by
  rw [flatMap_cons,getElem?_append_left (by simp;omega),Nat.zero_mul,Nat.zero_add]
  rfl
 | c :: l,i+1,j,h,a=>by
  rw [flatMap_cons,getElem?_append_right (by simp;omega)]
  have:=oA l i j (by simpa using h) a
  rw [show (i+1)*5+j - c.cells.length=i*5+j by simp;omega]
  exact this
structure KepI (w:World) (gb:Nat) (l:List Cm) (k:Nat) (wr:World):Prop where
 cs:∀ (i:Nat) (h:i < l.length),k<=i->wr.rangeAt gb (i*5) (l[i]'h).cells
 th:∀ i,i < l.length*5->(wr.cell? ⟨gb,i,none⟩).isSome=true/\wr.frozen? ⟨gb,i,none⟩=false
 fr:Fr [gb] w wr
theorem FA (c:Cm)(w:World):(binOp BinOp.eql 81 c.val c.val).run Tryz.prog w=.ok (.bool true) w:=by
  simp [go_sem]
theorem KepI.drewN {w:World}{a:Nat}{l:List Cm}{k:Nat}{wr:World}(h:KepI w a l k wr)(n:Nat):KepI w a l k (wr.drewN n):=⟨h.cs,h.th,h.fr.drewN n⟩
theorem KepI.put {w:World}{a:Nat}{l:List Cm}{k:Nat}{wr:World}(h:KepI w a l k wr)(g:k < l.length)(c:Cm):KepI w a l (k+1) (wr.setCells a (k*5) c.cells):=by
 refine ⟨fun i hi f j u e=>?_,fun i hi=>?_,Fr.setCells a _ _ _ h.fr (.inl (by simp))⟩
 ·have d:j < 5:=(gs.1 e).1
  rw [World.cell?_setCells_out _ _ _ _ _ (fun _ _=>by simp;omega)]
  exact h.cs i hi (by omega) j u e
 rw [World.frozen?_setCells]
 refine ⟨?_,(h.th i hi).2⟩
 by_cases b:i < k*5\/k*5+5<=i
 ·rw [World.cell?_setCells_out _ _ _ _ _ (fun _ _=>by simpa using b)]
  exact (h.th i hi).1
 have:=World.cell?_setCells_in a c.cells (k*5) wr (fun j d=>(h.th (k*5+j) (by simp at d;omega)).1) (i - k*5) (by simp;omega)
 rw [show k*5+(i - k*5)=i by omega] at this
 rw [this]
 rfl
theorem lA (base:Nat)(l:List Cm)(v g:Value)(w0 w:World)(h:CmdR w0 v l)(E:Fr [] w0 w)(Y:w0.heap.size<=base)(hown:w.ownsRow base 81 5 g l.length (l.flatMap Cm.cells))(Q:l.length<=2000000) :
  Cs 97 #[g,v] w fun e w'=>e=.returned (.bool true)/\Fr g.ownBlock.toList w w':=by
 obtain ⟨C,K,rfl⟩:∃ C K,v=.slice C l.length K:=by
  rcases h with ⟨C,K,rfl,rfl⟩|⟨f,r,K,rfl,_⟩
  ·exact ⟨_,_,rfl⟩
  exact ⟨_,_,rfl⟩
 have S:=aA h
 clear h
 by_cases hz:l.length=0
 ·rw [hz]
  go_enter Tryz.func97,Tryz.ntmps97
  go_wp2_with fail
  go_loopw [5,6] (fun b i wr=>b=.bool true/\i=.int .i64 0/\w=wr) (fun _ _ _=>0)
  case atStart=>exact ⟨rfl,rfl,rfl⟩
  obtain ⟨rfl,rfl,rfl⟩:=hrel
  go_wp2_with fail
  go_ret
  exact ⟨rfl,r0 _ _⟩
 obtain ⟨m,P,cur,rfl,ab,z,ac,_,ad,F⟩:∃ m t cur,g=.slice (so m) l.length t/\base<=m/\w.heap[m]?=some (.cells cur 81 (0,0))/\l.length<=t/\t<=maxLen/\cur.size=t*5/\cur.toList.take (l.length*5)=l.flatMap Cm.cells:=by
  rcases hown.2 with ⟨_,D⟩|D
  ·exact absurd D hz
  exact D
 have J:KepI w m l 0 w:=by
  refine ⟨fun i hi _ j u R=>?_,fun i hi=>⟨?_,bI z⟩,r0 _ _⟩
  ·have hj:j < 5:=(gs.1 R).1
   have e:(l.flatMap Cm.cells)[i*5+j]?=some u:=(oA l i j hi hj).trans R
   rw [aB z]
   rw [<- F,getElem?_take_of_lt (by omega)] at e
   simpa using e
  rw [aB z,Array.getElem?_eq_getElem (by omega)]
  rfl
 have L:=aA J
 clear J F z hown
 go_enter Tryz.func97,Tryz.ntmps97
 go_wp2_with fail
 go_loopw [5,6] (fun b i wr=>b=.bool true/\∃ k:Nat,k<=l.length/\i=.int .i64 k/\KepI w m l k wr) (fun _ i _=>l.length - (intOf i).toNat)
 case atStart=>exact ⟨rfl,0,Nat.zero_le _,rfl,L.o⟩
 obtain ⟨rfl,k,hk,rfl,s⟩:=hrel
 by_cases d:k < l.length
 ·have I:(k:Int) < (l.length:Int):=by omega
  obtain ⟨c,M⟩:∃ c,l[k]?=some c:=⟨l[k],getElem?_eq_getElem d⟩
  have A:l[k]=c:=by rw [getElem?_eq_getElem d] at M;exact Option.some.inj M
  obtain ⟨f,r,rfl,H,q⟩:∃ f r,C=some ⟨f,r,none⟩/\f < w0.heap.size/\w0.rangeAt f (r+k*5) c.cells:=by
   rcases S.o with ⟨C,N,O,W⟩|⟨f,r,N,O,D,X⟩
   ·rw [W] at d;simp at d
   refine ⟨f,r,by simpa using congrArg (fun v:Value=>match v with|.slice a _ _=>a|_=>none) O,D,?_⟩
   have:=X k d
   rw [A] at this
   exact this
  have ae:=E.size
  have p:∀ j,wr.cell? ⟨f,j,none⟩=w0.cell? ⟨f,j,none⟩:=fun j=>(s.fr.cell _ _ (by omega) (by simp;omega)).trans (E.cell _ _ H (by simp))
  have c0:ca wr f (r+k*5) (ii c.unit):=(p _).trans (q 0 _ rfl)
  have c1:ca wr f (r+k*5+1) (ii c.what):=(p _).trans (q 1 _ rfl)
  have c2:ca wr f (r+k*5+2) (ii c.x):=(p _).trans (q 2 _ rfl)
  have c3:ca wr f (r+k*5+3) (ii c.y):=(p _).trans (q 3 _ rfl)
  have c4:ca wr f (r+k*5+4) (ii c.target):=(p _).trans (q 4 _ rfl)
  have B:=s.cs k d (Nat.le_refl _)
  rw [A] at B
  have d0:ca wr m (k*5) (ii c.unit):=B 0 _ rfl
  have d1:ca wr m (k*5+1) (ii c.what):=B 1 _ rfl
  have d2:ca wr m (k*5+2) (ii c.x):=B 2 _ rfl
  have d3:ca wr m (k*5+3) (ii c.y):=B 3 _ rfl
  have d4:ca wr m (k*5+4) (ii c.target):=B 4 _ rfl
  have z0:=(s.th (k*5) (by omega)).2
  have z1:=(s.th (k*5+1) (by omega)).2
  have z2:=(s.th (k*5+2) (by omega)).2
  have z3:=(s.th (k*5+3) (by omega)).2
  have z4:=(s.th (k*5+4) (by omega)).2
  have V:Hi (∀ n,KepI w m l (k+1) ((wr.drewN n).setCells m (k*5) (Cm.cells ⟨-9,-9,0,0,0⟩))):=fun n=>(s.drewN n).put d ⟨-9,-9,0,0,0⟩
  have aa:=FA c
  clear s B p q M A
  go_wp2_with fail
  go_quiet (fail)
  go_wp2_with fail
  go_roundw
  case rel=>exact ⟨rfl,k+1,d,by go_num,V.o _⟩
  case measure=>simp [intOf];omega
 have I:¬ (k:Int) < (l.length:Int):=by omega
 go_wp2_with fail
 go_ret
 exact ⟨rfl,s.fr⟩
theorem CmdR.at {w d:World}{v:Value}{l:List Cm}{b:Nat}(h:CmdR w v l)(e:Fr [] w d)(q:w.heap.size<=b):CmdW d v l b:=by
 have a:=h.fr0 e
 rcases h with h|⟨f,k,i,h1,o,p⟩
 ·exact .inl h
 rcases a with a|⟨g,m,j,c,r,n⟩
 ·exact .inl a
 rw [h1] at c
 cases c
 exact .inr ⟨f,k,i,h1,by omega,n⟩
