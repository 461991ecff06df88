import Derived.Test.YtapabahhfanmmaaGreatDoorCAct
namespace Go.Proofs.YtapabahhfanmmaaGreatDoor
open Go.RowKit List
set_option maxRecDepth 100000
set_option maxHeartbeats 8000000
structure CanS (tb:Nat) (u:U) (c:Cm) (w:World) (K:Value) (n1 n0 n2 n3:Nat) (B:Bool) (c':Cm):Prop where
 hs:∀ w,Cs 193 #[K,.int .i64 c.what] w fun e w'=>e=.returned (.tuple #[.agg #[fv n1,fv n0,fv n2,fv n3],.bool true])/\Fr [] w w'
 h1:∀ w',Fr [] w w'->Cs n1 #[.pointer (so tb),u.val,c.val] w' fun e w''=>e=.returned (.bool B)/\Fr [] w' w''
 h2:∀ w',Cs n2 #[c.val] w' fun e w''=>e=.returned c'.val/\Fr [] w' w''
 f1:∀ (args:Array Value) (w:World),(callFunc n1 args).run Tryz.prog w=.ok (.enter n1 args) w
 f2:∀ (args:Array Value) (w:World),(callFunc n2 args).run Tryz.prog w=.ok (.enter n2 args) w
def Says (g:Nat)(u:U)(c:Cm)(w:World)(K:Value)(r:Option (Bool×Cm)):Prop :=
  (r=none/\∀ w,Cs 193 #[K,.int .i64 c.what] w fun e h=>e=.returned (.tuple #[pE,.bool false])/\Fr [] w h)\/∃ b a d f B c',r=some (B,c')/\CanS g u c w K b a d f B c'
def iO (t:T)(p:Int)(c:Cm)(s:U->Option (Bool×Cm)):Bool×T :=
 match bQ t.us c.unit with
 | none=>(false,t)
 | some i =>
  match t.us[i]? with
  | none=>(false,t)
  | some u=>if u.owner=p then (match s u with|some (true,c')=>(true,{ t with us:=t.us.set i (u.ordered c') })|_=>(false,t)) else (false,t)
theorem TN (tb J O hb bb:Nat) (t:T) (p:Int) (c:Cm) (s:U->Option (Bool×Cm)) (K:U->Value) (w:World) (h:TS w tb J O hb bb t) (bl:Rise t.us)
  (hk:∀ u∈t.us,∀ w,Cs 121 #[.int .i64 u.kind] w fun e a=>e=.returned (K u)/\Fr [] w a)
  (hs:∀ u∈t.us,Says tb u c w (K u) (s u)) :
  Cs 151 #[.pointer (so tb),.int .i64 p,c.val] w fun e a =>
   e=.returned (.bool (iO t p c s).1)/\Fr [J] w a/\TS a tb J O hb bb (iO t p c s).2:=by
 have hz:=h.z
 have bu:=h.ways.lt
 have bw:=h.held.lt
 have bz:=h.lt
 have Zs:=h.row.lt
 obtain ⟨W1,aa⟩:∃ W,W=w.alloc (.cells #[ii c.unit,ii c.what,ii c.x,ii c.y,ii c.target] 81):=⟨_,rfl⟩
 have bm:W1.heap.size=w.heap.size+1:=by rw [aa];simp
 have aj:Fr [] w W1:=by rw [aa];exact (r0 _ _).alloc _
 have hC:W1.heap[w.heap.size]?=some (.cells #[ii c.unit,ii c.what,ii c.x,ii c.y,ii c.target] 81):=by rw [aa,aC]
 have C:∀ a,Fr [] W1 a->(fun a:World=>cl a w.heap.size 0 c.unit/\Fr [] W1 a) a:=fun a l=>⟨aB (l.heap0 hC),l⟩
 have N:Fr [] W1 (w.alloc (.cells #[ii c.unit,ii c.what,ii c.x,ii c.y,ii c.target] 81)).drew:=by rw [aa];exact (r0 _ _).drew
 have X:=C _ N
 clear aa
 go_enter Tryz.func151,Tryz.ntmps151
 go_wp2_with fail
 go_cut [7,8] (fun s7 s8 V=>∃ (i:Nat) (f:Bool),s7=.int .i64 i/\s8=.bool f/\bQ t.us c.unit=(if f=true then some i else none)/\Fr [] W1 V)
 case first =>
  go_region_held (fun a:World=>ca a w.heap.size 0 (ii c.unit)/\Fr [] W1 a)
   (first|with_reducible exact X|with_reducible exact C _ d)
   (first|(go_at_call 152;refine (nY tb J O t.us c.unit _ (h.gv.fr0 (aj.then0 (And.right (by assumption)))) bl).mono ?_;rintro e M ⟨i,f,rfl,n,ay⟩;have d:Fr [] W1 M:=Fr.then0 (And.right (by assumption)) n))
  all_goals
   go_wp2_with fail
   go_meet
   exact ⟨i,f,rfl,rfl,ay,d⟩
 case rest =>
  obtain ⟨i,f,rfl,rfl,m,am⟩:=hcut
  have S:Fr [] w wc:=aj.then0 am
  have R:=h.fr0 S
  have al:=am.heap0 hC
  clear C X N
  cases f
  ·have j:iO t p c s=(false,t):=by unfold iO;rw [m];rfl
   have v:=aA j
   clear j m hk hs
   go_wp2_with fail
   go_ret
   rw [v.o]
   exact ⟨rfl,S.of0,R⟩
  rw [if_pos rfl] at m
  obtain ⟨u,hu,ba⟩:=iV m
  have bk:i < t.us.length:=(gs.1 hu).1
  have bs:=h.len
  have bh:=R.gv.c
  obtain ⟨c0,c1,c2,c3,c4,c5,c6,c7,c8,c9,Zr⟩:=R.row.ppl.at hu
  have j:iO t p c s=if u.owner=p then (match s u with|some (true,c')=>(true,{ t with us:=t.us.set i (u.ordered c') })|_=>(false,t)) else (false,t):=by
   unfold iO;rw [m];dsimp only;rw [hu]
  by_cases ad:(u.owner==p)=true
  ·rw [if_pos (by simpa using ad)] at j
   have ah:=hk u (mem_of_getElem? hu)
   have az:=hs u (mem_of_getElem? hu)
   have HU:=aA hu
   have v:=aA j
   clear hu hk hs j m ba
   go_wp2_with fail
   obtain ⟨F,ab⟩:∃ W,W=wc.alloc (.cells u.arr 85):=⟨_,rfl⟩
   rw [<- ab]
   have q:Fr [] wc F:=by rw [ab];exact (r0 _ _).alloc _
   have ag:F.heap[wc.heap.size]?=some (.cells u.arr 85):=by rw [ab];exact aC _ _
   have bn:wc.heap.size < F.heap.size:=by rw [ab];simp
   have ak:=q.heap0 al
   have an:=R.fr0 q
   have ap:=S.then0 q
   have bc:=S.size
   have bi:=aH al
   clear bm ab al R am bh c0 c1 c2 c3 c4 c5 c6 c7 c8 c9 Zr S hC aj ad
   obtain ⟨r,aw⟩:∃ b,b=wc.heap.size:=⟨_,rfl⟩
   rw [<- aw] at ag bn bi bc |-
   clear aw q
   obtain ⟨su,ae⟩:∃ x,s u=x:=⟨_,rfl⟩
   have Y:=(show Hi _ from ae)
   rw [ae] at az
   clear ae
   have C:∀ a,Fr [] F a->(fun a:World=>cl a r 2 u.kind/\cl a w.heap.size 1 c.what/\Fr [] F a) a:=fun a l=>⟨aB (l.heap0 ag),aB (l.heap0 ak),l⟩
   have N:Fr [] F F.drew:=(r0 _ _).drew
   have X:=C _ N
   rcases az with ⟨rfl,hs⟩|⟨n1,n0,n2,n3,B,c',rfl,hs,h1,h2,f1,f2⟩
   ·go_cut [11] (fun ar V=>ar=.bool false/\Fr [] F V)
    case first =>
     go_region_held (fun a:World=>ca a r 2 (ii u.kind)/\ca a w.heap.size 1 (ii c.what)/\Fr [] F a)
      (first|exact X|exact C _ k|exact C _ (k.alloc _)|exact C _ d|exact C _ (d.alloc _)|exact C _ (N.alloc _)|exact C _ ((((k.setCell _ _ (.inr (by first|exact Nat.le_refl _|exact d.size))).setCell _ _ (.inr (by first|exact Nat.le_refl _|exact d.size))).setCell _ _ (.inr (by first|exact Nat.le_refl _|exact d.size))).setCell _ _ (.inr (by first|exact Nat.le_refl _|exact d.size))))
      (first|(go_at_call 121;refine (ah _).mono ?_;rintro e M ⟨rfl,n⟩;obtain ⟨bf,bp⟩:=n.cells0;have q1:r < M.heap.size:=(by have:=n.size;simp at this;omega);(first|(have q2:F.heap.size < M.heap.size:=(by have:=n.size;simp at this;omega))|skip);have d:Fr [] F M:=Fr.then0 (And.right (And.right (by assumption))) n)|(go_at_call 193;refine (hs _).mono ?_;rintro e w2 ⟨rfl,q⟩;obtain ⟨bg,bq⟩:=q.cells0;have q3:=q.size;have k:Fr [] F w2:=Fr.then0 (And.right (And.right (by assumption))) q))
     all_goals
      go_wp2_with fail
      go_meet
      refine ⟨rfl,?_⟩
      first
      | with_reducible exact k.alloc _
      | exact (((k.setCell _ _ (.inr (by first|exact Nat.le_refl _|exact d.size))).setCell _ _ (.inr (by first|exact Nat.le_refl _|exact d.size))).setCell _ _ (.inr (by first|exact Nat.le_refl _|exact d.size))).setCell _ _ (.inr (by first|exact Nat.le_refl _|exact d.size))
    case rest =>
     obtain ⟨rfl,L⟩:=hcut
     clear C X N ah hs
     go_wp2_with fail
     go_cut [65] (fun Zq V=>Zq=.bool true/\Fr [] F V)
     case first =>
      go_quiet (fail)
      go_wp2_with fail
      go_meet
      exact ⟨rfl,L.drewN _⟩
     case rest =>
      obtain ⟨rfl,H⟩:=hcut
      go_wp2_with fail
      go_ret
      have j:iO t p c s=(false,t):=by rw [v.o,Y.o]
      rw [j]
      exact ⟨rfl,(ap.then0 H).of0,an.fr0 H⟩
   go_cut [10,11] (fun br ar V=>∃ g:Nat,br=.pointer (so g)/\ar=.bool true/\V.heap[g]?=some (.cells #[fv n1,fv n0,fv n2,fv n3] 217)/\r < g/\Fr [] F V)
   case first =>
    go_region_held (fun a:World=>ca a r 2 (ii u.kind)/\ca a w.heap.size 1 (ii c.what)/\Fr [] F a)
     (first|exact X|exact C _ k|exact C _ (k.alloc _)|exact C _ d|exact C _ (d.alloc _)|exact C _ (N.alloc _)|exact C _ ((((k.setCell _ _ (.inr (by first|exact Nat.le_refl _|exact d.size))).setCell _ _ (.inr (by first|exact Nat.le_refl _|exact d.size))).setCell _ _ (.inr (by first|exact Nat.le_refl _|exact d.size))).setCell _ _ (.inr (by first|exact Nat.le_refl _|exact d.size))))
     (first|(go_at_call 121;refine (ah _).mono ?_;rintro e M ⟨rfl,n⟩;obtain ⟨bf,bp⟩:=n.cells0;have q1:r < M.heap.size:=(by have:=n.size;simp at this;omega);(first|(have q2:F.heap.size < M.heap.size:=(by have:=n.size;simp at this;omega))|skip);have d:Fr [] F M:=Fr.then0 (And.right (And.right (by assumption))) n)|(go_at_call 193;refine (hs _).mono ?_;rintro e w2 ⟨rfl,q⟩;obtain ⟨bg,bq⟩:=q.cells0;have q3:=q.size;have k:Fr [] F w2:=Fr.then0 (And.right (And.right (by assumption))) q))
    all_goals
     go_wp2_with fail
     go_meet
     refine ⟨_,rfl,rfl,?_,?_,?_⟩
     ·first
      | with_reducible exact aC _ _
      | exact pC (q.heap0 (aC M _)) _ _ _ _
      | exact pC (q.heap0 (n.heap0 (aC F _))) _ _ _ _
     ·have:=k.size
      omega
     first
     | with_reducible exact k.alloc _
     | exact (((k.setCell _ _ (.inr (by first|exact Nat.le_refl _|exact d.size))).setCell _ _ (.inr (by first|exact Nat.le_refl _|exact d.size))).setCell _ _ (.inr (by first|exact Nat.le_refl _|exact d.size))).setCell _ _ (.inr (by first|exact Nat.le_refl _|exact d.size))
   case rest =>
    obtain ⟨g,rfl,rfl,hg,bx,L⟩:=hcut
    clear C X N ah hs
    have A:=L.heap0 ag
    have I:=L.heap0 ak
    have ao:=an.fr0 L
    have ai:=ap.then0 L
    obtain ⟨W3,au⟩:∃ W,W=wc:=⟨_,rfl⟩
    rw [<- au] at A I ao ai hg |-
    clear au L ag ak an ap
    have C:∀ a,Fr [] W3 a->(fun a:World=>ca a g 0 (fv n1)/\cl a r 0 u.id/\cl a r 1 u.owner/\cl a r 2 u.kind/\cl a r 3 u.x/\cl a r 4 u.y/\cl a r 5 u.life/\cl a r 6 u.load/\cl a r 7 u.what/\cl a r 8 u.tox/\cl a r 9 u.toy/\cl a r 10 u.target/\cl a w.heap.size 0 c.unit/\cl a w.heap.size 1 c.what/\cl a w.heap.size 2 c.x/\cl a w.heap.size 3 c.y/\cl a w.heap.size 4 c.target/\Fr [] W3 a) a:=fun a l=>⟨aB (l.heap0 hg),aB (l.heap0 A),aB (l.heap0 A),aB (l.heap0 A),aB (l.heap0 A),aB (l.heap0 A),aB (l.heap0 A),aB (l.heap0 A),aB (l.heap0 A),aB (l.heap0 A),aB (l.heap0 A),aB (l.heap0 A),aB (l.heap0 I),aB (l.heap0 I),aB (l.heap0 I),aB (l.heap0 I),aB (l.heap0 I),l⟩
    have N:Fr [] W3 W3.drew:=(r0 _ _).drew
    have X:=C _ N
    go_wp2_with fail
    go_cut [65] (fun Zq V=>Zq=.bool (!B)/\Fr [] W3 V)
    case first =>
     go_region_held (fun a:World=>ca a g 0 (fv n1)/\dC r u a (ca a w.heap.size 0 (ii c.unit)/\ca a w.heap.size 1 (ii c.what)/\ca a w.heap.size 2 (ii c.x)/\ca a w.heap.size 3 (ii c.y)/\ca a w.heap.size 4 (ii c.target)/\Fr [] W3 a))
      (first|with_reducible exact X|with_reducible exact C _ d)
      (first|(refine Calls.mono (h1 _ (ai.then0 (And.right (And.right (And.right (And.right (And.right (And.right (And.right (And.right (And.right (And.right (And.right (And.right (And.right (And.right (And.right (And.right (And.right (by assumption)))))))))))))))))))) ?_;rintro e M ⟨rfl,n⟩;have d:Fr [] W3 M:=Fr.then0 (And.right (And.right (And.right (And.right (And.right (And.right (And.right (And.right (And.right (And.right (And.right (And.right (And.right (And.right (And.right (And.right (And.right (by assumption)))))))))))))))))) n))
     all_goals
      go_wp2_with fail
      go_meet
      exact ⟨rfl,d⟩
    case rest =>
     obtain ⟨rfl,H⟩:=hcut
     clear C X N h1 f1
     have D:=H.heap0 A
     have P:=H.heap0 I
     have Q:=ao.fr0 H
     have aq:=ai.then0 H
     have ax:=H.heap0 hg
     obtain ⟨W4,av⟩:∃ W,W=wc:=⟨_,rfl⟩
     rw [<- av] at D P Q aq ax |-
     clear av H A I ao ai hg
     cases B
     ·have j:iO t p c s=(false,t):=by rw [v.o,Y.o]
      have HR:=aA j
      clear j v Y
      go_wp2_with fail
      go_ret
      rw [HR.o]
      exact ⟨rfl,aq.of0,Q⟩
     have j:iO t p c s=(true,{ t with us:=t.us.set i (u.ordered c') }):=by rw [v.o,Y.o]
     have HR:=aA j
     clear j v Y
     have C:∀ a,Fr [J] W4 a->(fun a:World=>ca a tb 148 (.slice (so J) t.us.length O)/\ca a g 2 (fv n2)/\cl a r 0 u.id/\cl a r 1 u.owner/\cl a r 2 u.kind/\cl a r 3 u.x/\cl a r 4 u.y/\cl a r 5 u.life/\cl a r 6 u.load/\cl a r 7 u.what/\cl a r 8 u.tox/\cl a r 9 u.toy/\cl a r 10 u.target/\cl a w.heap.size 0 c.unit/\cl a w.heap.size 1 c.what/\cl a w.heap.size 2 c.x/\cl a w.heap.size 3 c.y/\cl a w.heap.size 4 c.target/\Fr [J] W4 a) a:=fun a l=>⟨(l.cell tb 148 Q.lt (by simp;exact Q.n1)).trans Q.gv.c,aB (l.heap ax (by simp;omega)),aB (l.heap D (by simp;omega)),aB (l.heap D (by simp;omega)),aB (l.heap D (by simp;omega)),aB (l.heap D (by simp;omega)),aB (l.heap D (by simp;omega)),aB (l.heap D (by simp;omega)),aB (l.heap D (by simp;omega)),aB (l.heap D (by simp;omega)),aB (l.heap D (by simp;omega)),aB (l.heap D (by simp;omega)),aB (l.heap D (by simp;omega)),aB (l.heap P (by simp;omega)),aB (l.heap P (by simp;omega)),aB (l.heap P (by simp;omega)),aB (l.heap P (by simp;omega)),aB (l.heap P (by simp;omega)),l⟩
     have N:Fr [] W4 W4.drew:=(r0 _ _).drew
     have X:=C _ N.of0
     have E:J∈[J]\/W4.heap.size<=J:=.inl (by simp)
     go_wp2_with fail
     go_cut [] (fun V=>Fr [J] w V/\TS V tb J O hb bb { t with us:=t.us.set i (u.ordered c') })
     case first =>
      go_region_held (fun a:World=>ca a tb 148 (.slice (so J) t.us.length O)/\ca a g 2 (fv n2)/\dC r u a (ca a w.heap.size 0 (ii c.unit)/\ca a w.heap.size 1 (ii c.what)/\ca a w.heap.size 2 (ii c.x)/\ca a w.heap.size 3 (ii c.y)/\ca a w.heap.size 4 (ii c.target)/\Fr [J] W4 a))
       (first|with_reducible exact X|with_reducible exact bd|with_reducible exact be|(with_reducible refine C _ ?_;with_reducible exact (((((((((((ac.setCell _ _ E).setCell _ _ E).setCell _ _ E).setCell _ _ E).setCell _ _ E).setCell _ _ E).setCell _ _ E).setCell _ _ E).setCell _ _ E).setCell _ _ E).setCell _ _ E)))
       (first|(go_at_call 194;refine (xX u c' _).mono ?_;rintro e w2 ⟨rfl,q⟩;have k:Fr [] W4 w2:=d.then0 q;have ac:Fr [J] W4 w2:=k.of0;have be:=C w2 ac;have af:=Q.fr0 k;obtain ⟨c0,c1,c2,c3,c4,c5,c6,c7,c8,c9,Zr⟩:=af.row.ppl.at HU.o;have bv:=af.row.fz)|(refine Calls.mono (h2 _) ?_;rintro e M ⟨rfl,n⟩;have d:Fr [] W4 M:=N.then0 n;have bd:=C M d.of0))
      all_goals
       go_wp2_with fail
       go_meet
       have bo:Fr [J] w w2:=(aq.then0 k).of0
       refine ⟨?_,?_⟩
       ·with_reducible exact (((((((((((bo.setCell _ _ (.inl (by simp))).setCell _ _ (.inl (by simp))).setCell _ _ (.inl (by simp))).setCell _ _ (.inl (by simp))).setCell _ _ (.inl (by simp))).setCell _ _ (.inl (by simp))).setCell _ _ (.inl (by simp))).setCell _ _ (.inl (by simp))).setCell _ _ (.inl (by simp))).setCell _ _ (.inl (by simp))).setCell _ _ (.inl (by simp)))
       exact af.putU bk (u.ordered c')
     case rest =>
      obtain ⟨bj,af⟩:=hcut
      go_wp2_with fail
      go_ret
      rw [HR.o]
      exact ⟨rfl,bj,af⟩
  have bt:(u.owner==p)=false:=by simpa using ad
  rw [if_neg (by simpa using ad)] at j
  have v:=aA j
  clear j m hk hs hu ad
  go_wp2_with fail
  go_ret
  rw [v.o]
  exact ⟨rfl,S.of0,R⟩
