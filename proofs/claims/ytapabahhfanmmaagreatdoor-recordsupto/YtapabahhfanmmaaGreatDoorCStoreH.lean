import Derived.Laws.MakeOwn
import Derived.Lib.UnsafeStr
import Derived.Lib.BufferWrite
import Derived.Test.YtapabahhfanmmaaGreatDoorCRFrame
namespace Go.Proofs.YtapabahhfanmmaaGreatDoor
open Go.RowKit List
set_option maxRecDepth 100000
set_option maxHeartbeats 4000000
set_option maxRecDepth 100000
abbrev lS:Value:=.agg #[.slice none 0 0]
theorem CC (w:World):(zeroValue 174).run Tryz.prog w=.ok lS w:=by kernel_rfl
theorem MapO.look {w:World}{a:Value}{f:Nm->Option Value}(h:MapO w a f)(x:Nm):(Instr.lookup 93 a (sv x) true).run Tryz.prog w=.ok (.tuple #[(f x).getD lS,.bool (f x).isSome]) w:=by
 rcases h with ⟨rfl,h⟩|⟨r,rfl,h⟩
 ·rw [h x]
  simp [Instr.lookup,run_underlying Tryz.underlying93,jQ,Instr.findKey,run_underlying Tryz.underlying9,Instr.findNow]
 exact h.look _ 174 Tryz.underlying93 lS (CC w) x
theorem MapO.look1 {w:World}{a:Value}{f:Nm->Option Value}(h:MapO w a f)(x:Nm):(Instr.lookup 93 a (sv x) false).run Tryz.prog w=.ok ((f x).getD lS) w:=by
 rcases h with ⟨rfl,h⟩|⟨r,rfl,h⟩
 ·rw [h x]
  simp [Instr.lookup,run_underlying Tryz.underlying93,jQ,Instr.findKey,run_underlying Tryz.underlying9,Instr.findNow]
 exact h.look1 _ 174 Tryz.underlying93 lS (CC w) x
theorem ownM.slice {w:World}{base:Nat}{v:Value}{l:List UInt8}(h:ownM w base v l):∃ a c,v=.slice a l.length c:=by
 rcases h with ⟨rfl,rfl⟩|⟨g,b,rfl,_⟩
 ·exact ⟨_,_,rfl⟩
 exact ⟨_,_,rfl⟩
theorem GL (v:Value)(w:World):(Instr.field 174 (.agg #[v]) 0).run Tryz.prog w=.ok v w:=by kernel_rfl
abbrev Gf:=Nm->Option (Value×List UInt8)
def dG (g:Gf)(n:Nm):Value:=match g n with|some p=>p.1|none=>.slice none 0 0
def bR (g:Gf)(n:Nm):List UInt8:=match g n with|some p=>p.2|none=>[]
theorem vB (g:Gf)(n:Nm):((g n).map gF).getD lS=.agg #[dG g n]:=by
 unfold dG
 cases g n <;> rfl
theorem MapO.lookG {w:World}{a:Value}{g:Gf}(h:MapO w a (fun k=>(g k).map gF))(x:Nm):(Instr.lookup 93 a (sv x) true).run Tryz.prog w=.ok (.tuple #[.agg #[dG g x],.bool (g x).isSome]) w:=by
 rw [h.look x,vB]
 simp
theorem MapO.lookG1 {w:World}{a:Value}{g:Gf}(h:MapO w a (fun k=>(g k).map gF))(x:Nm):(Instr.lookup 93 a (sv x) false).run Tryz.prog w=.ok (.agg #[dG g x]) w:=by
  rw [h.look1 x,vB]
theorem IY (l o:Nat)(j:Value)(g:Gf)(n:Nm)(w:World)(p:w.cell? ⟨l,o,none⟩=some j)(hm:MapO w j (fun k=>(g k).map gF))(a:∃ f i h,dG g n=.slice f i h) :
  Cs 87 #[.pointer (some ⟨l,o,none⟩),sv n] w fun e m=>e=.returned (.bool (g n).isSome)/\Fr [] w m:=by
 have hl:=hm.lookG n
 obtain ⟨q,c⟩:∃ x:ByteArray,x=⟨n.toArray⟩:=⟨_,rfl⟩
 rw [sv,<- c] at hl |-
 obtain ⟨z,hz⟩:∃ z,z=dG g n:=⟨_,rfl⟩
 obtain ⟨B,d⟩:∃ z,z=(g n).isSome:=⟨_,rfl⟩
 rw [<- hz,<- d] at hl
 obtain ⟨f,i,h,b⟩:=a
 rw [<- hz] at b
 subst b
 rw [<- d]
 clear hz d c hm
 go_enter Tryz.func87,Tryz.ntmps87
 go_wp2_with fail
 go_ret
 exact ⟨rfl,(r0 _ _).alloc _⟩
theorem FN (f o:Nat)(d:Value)(g:Gf)(n:Nm)(w:World)(p:w.cell? ⟨f,o,none⟩=some d)(hm:MapO w d (fun k=>(g k).map gF))(ho:ownM w 0 (dG g n) (bR g n)) :
  Cs 49 #[.pointer (some ⟨f,o,none⟩),sv n] w fun e l=>e=.returned (sv (bR g n))/\w=l:=by
 have hl:=hm.lookG1 n
 have hs:=ho.string
 obtain ⟨q,c⟩:∃ x:ByteArray,x=⟨n.toArray⟩:=⟨_,rfl⟩
 rw [sv,<- c] at hl |-
 obtain ⟨m,a⟩:∃ x:ByteArray,x=⟨(bR g n).toArray⟩:=⟨_,rfl⟩
 rw [<- a] at hs
 rw [sv,<- a]
 obtain ⟨z,hz⟩:∃ z,z=dG g n:=⟨_,rfl⟩
 obtain ⟨h,j,b⟩:=ho.slice
 rw [<- hz] at hl hs b
 subst b
 clear c hm a ho hz
 have i:=GL (.slice h (bR g n).length j) w
 go_enter Tryz.func49,Tryz.ntmps49
 go_wp2_with fail
 go_ret
 exact ⟨rfl,rfl⟩
theorem BC {w:World}{r:Nat}{f:Nm->Option Value}(h:MapS w r f)(x:Nm)(v:Value) :
  ∃ a,(Instr.mapUpdate 93 (.map (some r)) (sv x) v).run Tryz.prog w=.ok () a/\MapS a r (fun k=>if k=x then some v else f k)/\Fr [r] w a:=by
 obtain ⟨o,h1,b⟩:=h.update 93 174 Tryz.underlying93 x v
 exact ⟨_,h1,b,(r0 [r] w).setObj r o (.inl (by simp))⟩
theorem SVE.put {E:Nm->Prop} {w D:World} {r:Nat} {l:Value} {S:List Nat} {g:Gf} {f:List Stp} (h:SVE E w (.map (some r)) l S g f) (n:Nm) (v:Value) (d:List UInt8) (F:ownM w 0 v d)
  (q:∀ b,v.ownBlock=some b->b∈S/\r≠b/\l.ownBlock≠some b/\∀ k p,¬ E k->g k=some p->p.1.ownBlock=some b->k=n)
  (hm:MapS D r (fun k=>if k=n then some (.agg #[v]) else (g k).map gF)) (x:Fr [r] w D) :
  SVE (fun k=>E k/\k≠n) D (.map (some r)) l S (fun k=>if k=n then some (v,d) else g k) f:=by
 have B:∀ b,l.ownBlock=some b->b∉[r]:=fun b hb hm=>by
  have:b=r:=by simpa using hm
  subst this
  exact (h.mb b rfl).2 hb
 refine ⟨.inr ⟨r,rfl,hm.congr (fun k=>?_)⟩,?_,?_,h.mb,fZ h.st x B,h.sb,fun b hb=>Nat.lt_of_lt_of_le (h.lt b hb) x.size⟩
 ·by_cases e:k=n <;> simp [e]
 ·intro k p u c
  by_cases e:k=n
  ·rw [if_pos e] at c
   cases c
   exact F.fr x (fun b hb hm=>(q b hb).2.1 (by simpa using hm:b=r).symm)
  rw [if_neg e] at c
  exact (h.own k p (fun j=>u ⟨j,e⟩) c).fr x (fun b hb hm=>(h.blk k p b (fun j=>u ⟨j,e⟩) c hb).2.1 (by simp [iC];exact (by simpa using hm:b=r).symm))
 intro k p b u c hb
 by_cases e:k=n
 ·rw [if_pos e] at c
  cases c
  obtain ⟨h1,y,z,A⟩:=q b hb
  refine ⟨h1,by simp [iC];exact y,z,fun t C o a i=>?_⟩
  by_cases m:t=n
  ·rw [m,e]
  rw [if_neg m] at a
  rw [A t C (fun j=>o ⟨j,m⟩) a i,e]
 rw [if_neg e] at c
 have s:¬ E k:=fun j=>u ⟨j,e⟩
 obtain ⟨h1,y,z,A⟩:=h.blk k p b s c hb
 refine ⟨h1,y,z,fun t C o a i=>?_⟩
 by_cases m:t=n
 ·rw [if_pos m] at a
  cases a
  exact absurd ((q b i).2.2.2 k p s c hb) e
 rw [if_neg m] at a
 exact A t C (fun j=>o ⟨j,m⟩) a i
structure SPost (w:World) (sb:Nat) (pre:List Value) (ty:TypeId) (S:List Nat) (E:Nm->Prop) (g:Gf) (steps:List Stp) (w':World) (mv' stv':Value) (S':List Nat):Prop where
 bl:SB w' sb pre ty mv' stv'
 sve:SVE E w' mv' stv' S' g steps
 fr:Fr (sb :: S) w w'
 old:∀ b∈S',b∈S\/w.heap.size<=b
 nsb:sb∉S'
theorem yT (a:Nat) (u:List Value) (ty:TypeId) (E:Nm->Prop) (mv y:Value) (S:List Nat) (g:Gf) (h:List Stp) (n:Nm) (v:Value) (d:List UInt8) (w:World)
  (hb:SB w a u ty mv y) (hs:SVE E w mv y S g h) (M:a∉S) (hv:ownM w 0 v d)
  (N:∀ b,v.ownBlock=some b->b∈S/\iC mv≠some b/\y.ownBlock≠some b/\∀ k p,¬ E k->g k=some p->p.1.ownBlock=some b->k=n) :
  Cs 82 #[.pointer (some ⟨a,u.length,none⟩),sv n,.agg #[v]] w fun e m=>e=.returned (.tuple #[])/\∃ ax S',SPost w a u ty S (fun k=>E k/\k≠n) (fun k=>if k=n then some (v,d) else g k) h m ax y S':=by
 have av:=@run_makeMap Tryz.prog
 have Y:=hb.c0
 have aa:=hb.fz u.length
 have au:=hb.lt
 obtain ⟨o,ho⟩:∃ o,o=u.length:=⟨_,rfl⟩
 rw [<- ho] at Y aa |-
 have HO:=aA ho
 clear ho
 obtain ⟨tx,ad⟩:∃ x:ByteArray,x=⟨n.toArray⟩:=⟨_,rfl⟩
 have ae:=aA ad
 rw [sv,<- ad]
 clear ad
 obtain ⟨i,j,rfl⟩:=hv.slice
 obtain ⟨c,l⟩:∃ W,W=w.alloc (.cells #[.slice i d.length j] 174):=⟨_,rfl⟩
 have t:Fr [] w c:=by rw [l];exact (r0 _ _).alloc _
 have C:c.heap.size=w.heap.size+1:=by rw [l];simp
 have J:c.heap[w.heap.size]?=some (.cells #[.slice i d.length j] 174):=by rw [l];exact aC _ _
 have L:=hs.fr0 t
 have D:=hb.fr t (by simp)
 have Q:=hv.fr t (by simp)
 rcases hs.map with ⟨rfl,z⟩|⟨r,rfl,aj⟩
 ·obtain ⟨W1,K⟩:∃ W,W=c.alloc (.map #[] 0):=⟨_,rfl⟩
  obtain ⟨B,O⟩:∃ W,W=W1.setCell ⟨a,o,none⟩ (.map (some c.heap.size)):=⟨_,rfl⟩
  have I:Fr [] c W1:=by rw [K];exact (r0 _ _).alloc _
  have A:Fr [a] W1 B:=by rw [O];exact (r0 _ _).setCell _ _ (.inl (by simp))
  have am:W1.heap.size=c.heap.size+1:=by rw [K];simp
  have an:=A.size
  have ab:MapS B c.heap.size (fun k=>(g k).map gF):=(MapS.fr (MapS.made (clock:=0) (by rw [K];exact aC _ _)) A (by simp;omega)).congr (fun k=>(z k).symm)
  have X:SB B a u ty (.map (some c.heap.size)) y:=by rw [O,HO.o];exact (D.fr I (by simp)).set0 _
  have af:B.heap[w.heap.size]?=some (.cells #[.slice i d.length j] 174):=(A.heap (I.heap0 J) (by simp;omega))
  have f:Fr [] B B.drew:=(r0 _ _).drew
  obtain ⟨W3,P,ai,H⟩:=BC (ab.fr f (by simp)) n (.agg #[.slice i d.length j])
  rw [sv,<- ae.o] at P
  have al:SVE E B (.map (some c.heap.size)) y (c.heap.size :: S) g h:=by
   have h1:=(L.fr0 I).fr A (fun b hb e=>M ((show b=a by simpa using e) ▸ hb))
   have ag:∀ k,g k=none:=fun k=>by have:=z k;simpa using this
   refine ⟨.inr ⟨_,rfl,ab⟩,fun k p _ hk=>absurd ((ag k).symm.trans hk) (by simp),fun k p b _ hk _=>absurd ((ag k).symm.trans hk) (by simp),fun b hb=>?_,h1.st,fun b hb=>by simp [h1.sb b hb],fun b hb=>?_⟩
   ·have Zq:c.heap.size=b:=by simpa [iC] using hb
    subst Zq
    refine ⟨by simp,fun e=>?_⟩
    have:=(zT L.st e).2
    omega
   rcases mem_cons.1 hb with rfl|hb
   ·omega
   exact h1.lt b hb
  have ap:ownM B 0 (.slice i d.length j) d:=(Q.fr I (by simp)).fr A (fun b hb e=>M ((show b=a by simpa using e) ▸ (N b hb).1))
  have s:=(al.fr0 f).put n _ d (ap.fr f (by simp)) (fun b V=>by
   obtain ⟨h1,h2,h3,h4⟩:=N b V
   have:=hs.lt b h1
   exact ⟨by simp [h1],by omega,h3,h4⟩) ai H
  have q:SPost w a u ty S (fun k=>E k/\k≠n) (fun k=>if k=n then some (.slice i d.length j,d) else g k) h W3 (.map (some c.heap.size)) y (c.heap.size :: S) :=
   ⟨(
    X.fr f (by simp)).fr H (by simp;omega),s,(((((t.of0 (S:=a :: S)).then0 I).trans A (by simp)).then0 f).trans H (by simp;omega)),fun b hb=>by
    rcases mem_cons.1 hb with rfl|hb
    ·exact .inr (by omega)
    ·exact .inl hb,fun hm=>by
    rcases mem_cons.1 hm with e|hm
    ·omega
    exact M hm⟩
  have HF:=aA q
  have Zr:∀ w,(binOp BinOp.eql 93 (.map none) (.map none)).run Tryz.prog w=.ok (.bool true) w:=fun w=>by kernel_rfl
  have R:ca c w.heap.size 0 (.slice i d.length j):=aB J
  have a2:ca B w.heap.size 0 (.slice i d.length j):=aB af
  have b0:c.cell? ⟨a,o,none⟩=some (.map none):=by rw [HO.o];exact D.c0
  have b2:B.cell? ⟨a,o,none⟩=some (.map (some c.heap.size)):=by rw [HO.o];exact X.c0
  have a3:W3.cell? ⟨w.heap.size,0,none⟩=some (.slice i d.length j):=(H.cell _ _ (aI (show B.drew.cell? ⟨w.heap.size,0,none⟩=_ from a2)) (by simp;omega)).trans a2
  have b3:W3.cell? ⟨a,o,none⟩=some (.map (some c.heap.size)):=(H.cell _ _ (aI (show B.drew.cell? ⟨a,o,none⟩=_ from b2)) (by simp;omega)).trans b2
  have K2:(fun m:World=>ca m a o (.map (some c.heap.size))/\ca m w.heap.size 0 (.slice i d.length j)) B.drew:=⟨b2,a2⟩
  have K3:(fun m:World=>ca m a o (.map (some c.heap.size))/\ca m w.heap.size 0 (.slice i d.length j)) W3:=⟨b3,a3⟩
  have ar:Hi (B=(((w.setCell ⟨a,o,none⟩ (.map (some (w.heap.size+1)))).alloc (.cells #[.slice i d.length j] 174)).alloc (.map #[] 0))):=by
   show _=_
   rw [O,C,K,l,World.setCell_alloc_past (hn:=by simp;omega),World.setCell_alloc_past (hn:=au)]
  rw [l] at b0 R
  rw [C] at K2 K3 P HF
  clear s hs hv N hb ai q L D Q t I A ab X J af al ap z am an H O K l a2 b2 a3 b3 f C
  go_enter Tryz.func82,Tryz.ntmps82
  go_wp2_with fail
  rw [<- ar.o]
  clear R b0 Y aa
  go_region_held (fun m:World=>ca m a o (.map (some (w.heap.size+1)))/\ca m w.heap.size 0 (.slice i d.length j))
   (first|exact K2|exact K3)
   (fail)
  all_goals
   go_wp2_with fail
   refine bodyPost_end (v:=.tuple #[]) (results_none rfl _ _ _) rfl ⟨rfl,_,_,HF.o⟩
 have f:Fr [] c c.drew:=(r0 _ _).drew
 obtain ⟨w1,P,ah,F⟩:=BC ((aj.fr t (by simp)).fr f (by simp)) n (.agg #[.slice i d.length j])
 rw [sv,<- ae.o] at P
 have s:=(L.fr0 f).put n _ d (Q.fr f (by simp)) (fun b V=>by
  obtain ⟨h1,h2,h3,h4⟩:=N b V
  exact ⟨h1,fun e=>h2 (by simp [iC,e]),h3,h4⟩) ah F
 have ac:=(hs.mb r rfl).1
 have ak:a≠r:=fun e=>M (e ▸ ac)
 have q:SPost w a u ty S (fun k=>E k/\k≠n) (fun k=>if k=n then some (.slice i d.length j,d) else g k) h w1 (.map (some r)) y S :=
  ⟨(D.fr f (by simp)).fr F (by simpa using ak),s,((t.of0 (S:=a :: S)).then0 f).trans F (by simp [ac]),fun b hb=>.inl hb,M⟩
 have HF:=aA q
 have Zr:∀ w,(binOp BinOp.eql 93 (.map (some r)) (.map none)).run Tryz.prog w=.ok (.bool false) w:=fun w=>by kernel_rfl
 have R:ca c w.heap.size 0 (.slice i d.length j):=aB J
 have b0:c.cell? ⟨a,o,none⟩=some (.map (some r)):=by rw [HO.o];exact D.c0
 have aw:r < w.heap.size:=hs.lt r ac
 have a1:w1.cell? ⟨w.heap.size,0,none⟩=some (.slice i d.length j):=(F.cell _ _ (aI (show c.drew.cell? ⟨w.heap.size,0,none⟩=_ from R)) (by simp;omega)).trans R
 have b1:w1.cell? ⟨a,o,none⟩=some (.map (some r)):=(F.cell _ _ (aI (show c.drew.cell? ⟨a,o,none⟩=_ from b0)) (by simpa using ak)).trans b0
 have K2:(fun m:World=>ca m a o (.map (some r))/\ca m w.heap.size 0 (.slice i d.length j)) c.drew:=⟨b0,R⟩
 have K3:(fun m:World=>ca m a o (.map (some r))/\ca m w.heap.size 0 (.slice i d.length j)) w1:=⟨b1,a1⟩
 have aq:=aA l
 rw [l] at R b0
 clear av s hs hv N aj hb ah q L D Q t J f F a1 b1 l C aw
 go_enter Tryz.func82,Tryz.ntmps82
 go_wp2_with fail
 rw [<- aq.o]
 clear R b0 Y aa
 go_region_held (fun m:World=>ca m a o (.map (some r))/\ca m w.heap.size 0 (.slice i d.length j))
  (first|exact K2|exact K3)
  (fail)
 all_goals
  go_wp2_with fail
  refine bodyPost_end (v:=.tuple #[]) (results_none rfl _ _ _) rfl ⟨rfl,_,_,HF.o⟩
theorem oE:(Tryz.prog.info? 113).map (fun i=>(i.zero,i.size,i.bytes))=some (some (.agg #[ii 0,.string ⟨#[]⟩,.string ⟨#[]⟩,.string ⟨#[]⟩]),4,56):=by kernel_rfl
theorem SX (a:List Stp)(s:Stp):(a ++ [s]).flatMap Stp.cells=a.flatMap Stp.cells ++ s.cells:=by
 rw [flatMap_append]
 simp
theorem SVE.step {E:Nm->Prop} {w l:World} {r c f:Value} {S:List Nat} {g:Gf} {a:List Stp} (h:SVE E w r c S g a) (s:Stp) (hown:l.ownsRow 0 113 4 f (a.length+1) (a.flatMap Stp.cells ++ s.cells)) (x:w.grownBy l c.ownBlock)
  (o:f.ownBlock=c.ownBlock\/∃ b,f.ownBlock=some b/\w.heap.size<=b):SVE E l r f (f.ownBlock.toList ++ S) g (a ++ [s]):=by
 have q:Fr c.ownBlock.toList w l:=gW (r0 _ _) x (fun b hb=>.inl (by simp [hb]))
 have d:∀ b,b∈S->c.ownBlock≠some b->f.ownBlock≠some b:=fun b hb hn e=>by
  rcases o with m|⟨t,m,hl⟩
  ·exact hn (m ▸ e)
  rw [m] at e
  have:=h.lt b hb
  have:t=b:=Option.some.inj e
  omega
 refine ⟨h.map.fr q (fun b hb e=>(h.mb b hb).2 (by simpa using e)),fun k p i j=>(h.own k p i j).fr q (fun b hb e=>(h.blk k p b i j hb).2.2.1 (by simpa using e)),?_,?_,?_,?_,?_⟩
 ·intro k p b i j hb
  obtain ⟨h1,n,u,v⟩:=h.blk k p b i j hb
  exact ⟨by simp [h1],n,d b h1 u,v⟩
 ·intro b hb
  obtain ⟨h1,n⟩:=h.mb b hb
  exact ⟨by simp [h1],d b h1 n⟩
 ·rw [SX,length_append]
  exact hown
 ·intro b hb
  simp [hb]
 intro b hb
 rcases mem_append.1 hb with hb|hb
 ·exact (zT hown (by simpa using hb)).2
 exact Nat.lt_of_lt_of_le (h.lt b hb) q.size
theorem SPost.keeps {w:World}{j:Nat}{d:List Value}{ty:TypeId}{S:List Nat}{E:Nm->Prop}{g:Gf}{c:List Stp}{k f l:World}{i a:Value}{m:List Nat}(h:SPost w j d ty S E g c k i a m)(n:Fr [] k f)(o:f.grownBy l a.ownBlock):SB l j d ty i a :=
  (h.bl.fr n (by simp)).fr (gW (r0 a.ownBlock.toList f) o (fun b hb=>.inl (by simp [hb]))) (fun e=>h.nsb (h.sve.sb _ (by simpa using e)))
theorem SPost.note {w:World} {d:Nat} {j:List Value} {ty:TypeId} {S:List Nat} {E:Nm->Prop} {g:Gf} {a:List Stp} {y p m:World} {x k c:Value} {o:List Nat} (h:SPost w d j ty S E g a y x k o) (n:Fr [] y p) (s:Stp)
  (hown:m.ownsRow 0 113 4 c (a.length+1) (a.flatMap Stp.cells ++ s.cells)) (t:p.grownBy m k.ownBlock) (f:c.ownBlock=k.ownBlock\/c.ownBlock=some p.heap.size) (z:d < w.heap.size) :
  SPost w d j ty S E g (a ++ [s]) (m.setCell ⟨d,j.length+1,none⟩ c) x c (c.ownBlock.toList ++ o):=by
 have A:=h.fr.size
 have v:=n.size
 have u:=(h.sve.fr0 n).step s hown t (f.imp_right (fun e=>⟨_,e,Nat.le_refl _⟩))
 have r:=h.keeps n t
 have l:d∉c.ownBlock.toList ++ o:=fun hm=>by
  rcases mem_append.1 hm with hm|hm
  ·rcases f with e|e
   ·exact h.nsb (h.sve.sb _ (by rw [<- e];simpa using hm))
   rw [e] at hm
   simp at hm
   omega
  exact h.nsb hm
 have q:Fr (d :: S) w m:=gW (h.fr.then0 n) t (fun b hb=>by
  rcases h.old b (h.sve.sb b hb) with h1|h1
  ·exact .inl (by simp [h1])
  exact .inr h1)
 refine ⟨r.set1 c,u.fr ((r0 [d] m).setCell _ _ (.inl (by simp))) (fun b hb e=>l ((show b=d by simpa using e) ▸ hb)),q.setCell _ _ (.inl (by simp)),fun b hb=>?_,l⟩
 rcases mem_append.1 hb with hb|hb
 ·have i:c.ownBlock=some b:=by simpa using hb
  rcases f with e|e
  ·exact h.old b (h.sve.sb b (by rw [<- e];exact i))
  rw [e] at i
  have:=Option.some.inj i
  exact .inr (by omega)
 exact h.old b hb
theorem BE (l:Nat) (i:List Value) (ty:TypeId) (E:Nm->Prop) (A d:Value) (S:List Nat) (g:Gf) (a:List Stp) (n:Nm) (w:World)
  (hb:SB w l i ty A d) (hs:SVE E w A d S g a) (y:l∉S) (hl:a.length<=10000000) :
  Cs 45 #[.pointer (some ⟨l,i.length,none⟩),sv n] w fun e w'=>e=.returned (.tuple #[])/\∃ F S',SPost w l i ty S E g (a ++ [dB n]) w' A F S':=by
 obtain ⟨ad,R,aa,ab,ac⟩:=info_parts oE
 have P:=hb.c1
 have Q:=hb.fz (i.length+1)
 have ah:=hb.lt
 obtain ⟨o,ho⟩:∃ o,o=i.length:=⟨_,rfl⟩
 rw [<- ho] at P Q |-
 have HO:=aA ho
 clear ho
 obtain ⟨I,q⟩:∃ x:ByteArray,x=⟨n.toArray⟩:=⟨_,rfl⟩
 have af:=aA q
 rw [sv,<- q]
 have D:(dB n).cells=[ii 2,.string I,.string ⟨#[]⟩,.string ⟨#[]⟩]:=by rw [q]
 clear q
 obtain ⟨r,m⟩:∃ W,W=w.alloc (.cells #[ii 2,.string I,.string ⟨#[]⟩,.string ⟨#[]⟩] 113):=⟨_,rfl⟩
 have p:Fr [] w r:=by rw [m];exact (r0 _ _).alloc _
 have z:Hi (SVE E r A d S g a):=hs.fr0 p
 have HB:Hi (SB r l i ty A d):=hb.fr p (by simp)
 have B:Hi (r.ownsRow 0 113 4 d a.length (a.flatMap Stp.cells)):=z.o.st
 have HN:Hi (∀ (j:Nat) (x:Value),([ii 2,.string I,.string ⟨#[]⟩,.string ⟨#[]⟩]:List Value)[j]?=some x->r.cell? ((⟨w.heap.size,0,none⟩:Addr).add j)=some x):=by
  intro j x hx
  rw [Addr.add_lit,Nat.zero_add,m,aB (aC w _)]
  simpa using hx
 have K:=aA D
 have t:Hi (∀ k,r.grownBy k d.ownBlock->SB k l i ty A d):=fun k H=>HB.o.fr (gW (r0 d.ownBlock.toList r) H (fun b hb=>.inl (by simp [hb]))) (fun e=>y (z.o.sb _ (by simpa using e)))
 have J:Hi (∀ k,r.grownBy k d.ownBlock->k.cell? ⟨l,o+1,none⟩=some d/\k.frozen? ⟨l,o+1,none⟩=false):=fun k H=>⟨by rw [HO.o];exact (t.o k H).c1,(t.o k H).fz _⟩
 rw [m] at B HN
 have L:=aA m
 clear hb hs m D
 go_enter Tryz.func45,Tryz.ntmps45
 go_wp2_with (at_builtin;refine wpList_append_own_at _ rfl _ _ 34 rfl 0 113 ad (.agg #[ii 0,.string ⟨#[]⟩,.string ⟨#[]⟩,.string ⟨#[]⟩]) 4 56 Tryz.underlying34 R aa ab ac rfl (by decide) d a.length (a.flatMap Stp.cells) rfl B.o ⟨w.heap.size,0,none⟩ 1 1 [ii 2,.string I,.string ⟨#[]⟩,.string ⟨#[]⟩] rfl rfl HN.o (by simp [Value.oneCell']) (by unfold maxLen;omega) (by omega) (Nat.zero_le _) ?_;intro s k h c V f;rw [<- L.o] at c f;obtain ⟨ag,ai⟩:=J.o k c;obtain ⟨M,ae,rfl⟩:=fR h)
 obtain ⟨s,Y⟩:∃ s,s=Value.slice M (a.length+1) ae:=⟨_,rfl⟩
 rw [<- Y] at h f |-
 have O:=t.o k c
 have X:=z.o.step (dB n) (by rw [K.o];exact h) c (f.imp_right (fun e=>⟨_,e,Nat.le_refl _⟩))
 have C:l∉s.ownBlock.toList ++ S:=fun hm=>by
  rcases mem_append.1 hm with hm|hm
  ·rcases f with e|e
   ·exact y (z.o.sb _ (by rw [<- e];simpa using hm))
   rw [e] at hm
   have:=p.size
   simp at hm
   omega
  exact y hm
 have N:Fr (l :: S) w k:=gW (p.of0 (S:=l :: S)) c (fun b hb=>.inl (by simp [z.o.sb b hb]))
 refine bodyPost_end (v:=.tuple #[]) (results_none rfl _ _ _) rfl ⟨rfl,s,s.ownBlock.toList ++ S,?_,?_,N.setCell _ _ (.inl (by simp)),fun b hb=>?_,C⟩
 ·rw [HO.o];exact O.set1 s
 ·exact X.fr ((r0 [l] k).setCell _ _ (.inl (by simp))) (fun b hb e=>C ((show b=l by simpa using e) ▸ hb))
 rcases mem_append.1 hb with hb|hb
 ·have u:s.ownBlock=some b:=by simpa using hb
  rcases f with e|e
  ·exact .inl (z.o.sb b (by rw [<- e];exact u))
  rw [e] at u
  have:=p.size
  have:=Option.some.inj u
  exact .inr (by omega)
 exact .inl hb
theorem SVE.fiv_own {E:Nm->Prop}{w:World}{e b:Value}{S:List Nat}{g:Gf}{a:List Stp}(h:SVE E w e b S g a)(n:Nm)(c:¬ E n):ownM w 0 (dG g n) (bR g n):=by
 unfold dG bR
 cases d:g n with
 | none=>exact .inl ⟨rfl,rfl⟩
 | some p=>exact h.own n p c d
theorem SVE.fiv_blk {E:Nm->Prop}{w:World}{e c:Value}{S:List Nat}{g:Gf}{a:List Stp}(h:SVE E w e c S g a)(n:Nm)(f:¬ E n){b:Nat}(hb:(dG g n).ownBlock=some b):b∈S/\iC e≠some b/\c.ownBlock≠some b/\∀ k p,¬ E k->g k=some p->p.1.ownBlock=some b->k=n:=by
 unfold dG at hb
 cases d:g n with
 | none=>rw [d] at hb;simp [Value.ownBlock] at hb
 | some p=>rw [d] at hb;exact h.blk n p b f d hb
theorem SVE.hole {E:Nm->Prop}{w o:World}{m d:Value}{S:List Nat}{g:Gf}{a:List Stp}(h:SVE E w m d S g a)(n:Nm)(t:¬ E n)(i:Fr (dG g n).ownBlock.toList w o):SVE (fun k=>E k\/k=n) o m d S g a:=by
 have c:∀ b,b∈(dG g n).ownBlock.toList->b∈S/\iC m≠some b/\d.ownBlock≠some b/\∀ k p,¬ E k->g k=some p->p.1.ownBlock=some b->k=n:=fun b hb=>h.fiv_blk n t (by simpa using hb)
 refine ⟨h.map.fr i (fun b hb e=>(c b e).2.1 hb),fun k p f j=>(h.own k p (fun e=>f (.inl e)) j).fr i (fun b hb e=>f (.inr ((c b e).2.2.2 k p (fun e=>f (.inl e)) j hb))),fun k p b f j hb=>?_,h.mb,fZ h.st i (fun b hb e=>(c b e).2.2.1 hb),h.sb,fun b hb=>Nat.lt_of_lt_of_le (h.lt b hb) i.size⟩
 obtain ⟨h1,q,r,s⟩:=h.blk k p b (fun e=>f (.inl e)) j hb
 exact ⟨h1,q,r,fun u v l=>s u v (fun e=>l (.inl e))⟩
theorem tI (m:Nat) (q:List Value) (ty:TypeId) (E:Nm->Prop) (mv c:Value) (S:List Nat) (g:Gf) (a:List Stp) (n:Nm) (x:List UInt8) (w:World)
  (hb:SB w m q ty mv c) (hs:SVE E w mv c S g a) (al:m∉S) (hE:¬ E n) (hl:a.length<=10000000) (hx:(bR g n).length+x.length<=100000000000000) :
  Cs 43 #[.pointer (some ⟨m,q.length,none⟩),sv n,sv x] w fun e w'=>e=.returned (.tuple #[])/\∃ v' bn aw S',SPost w m q ty S E (fun k=>if k=n then some (v',bR g n ++ x) else g k) (a ++ [dA n x]) w' bn aw S':=by
 obtain ⟨bm,be,bi,bj,bk⟩:=info_parts oE
 have V:=hb.c0
 have bf:=hb.lt
 have aj:=hs.map.lookG1 n
 have hown:=hs.fiv_own n hE
 obtain ⟨Q,lc,N⟩:=hown.slice
 rw [N] at aj
 obtain ⟨o,ho⟩:∃ o,o=q.length:=⟨_,rfl⟩
 rw [<- ho] at V |-
 have HO:=aA ho
 clear ho
 obtain ⟨tx,aa⟩:∃ x:ByteArray,x=⟨n.toArray⟩:=⟨_,rfl⟩
 obtain ⟨dx,X⟩:∃ y:ByteArray,y=⟨x.toArray⟩:=⟨_,rfl⟩
 have ba:=aA aa
 have ay:=aA X
 rw [sv,<- aa] at aj |-
 rw [sv,<- X]
 have az:Hi ((dA n x).cells=[ii 1,.string tx,.string ⟨#[]⟩,.string dx]):=by show _=_;rw [aa,X]
 clear aa X
 obtain ⟨W0,I⟩:∃ W,W=w.alloc (.cells #[.slice Q (bR g n).length lc] 174):=⟨_,rfl⟩
 have l:Fr [] w W0:=by rw [I];exact (r0 _ _).alloc _
 have B:Hi (ownM W0 0 (.slice Q (bR g n).length lc) (bR g n)):=by have:=hown.fr l (by simp);rw [N] at this;exact this
 have P:Hi (W0.heap[w.heap.size]?=some (.cells #[.slice Q (bR g n).length lc] 174)):=by show _=_;rw [I];exact aC _ _
 have s:=aA N
 have r:=aA hs
 have HB:=aA hb
 have ag:Hi (∀ A,W0.grownBy A (Value.slice Q (bR g n).length lc).ownBlock->A.cell? ⟨w.heap.size,0,none⟩=some (.slice Q (bR g n).length lc)/\A.frozen? ⟨w.heap.size,0,none⟩=false):=fun A hg=>by
  have hf:Fr (Value.slice Q (bR g n).length lc).ownBlock.toList W0 A:=gW (r0 _ _) hg (fun b hb=>.inl (by simp [hb]))
  have hn:w.heap.size∉(Value.slice Q (bR g n).length lc).ownBlock.toList:=fun e=>by
   have:=(hown.base (b:=w.heap.size) (by rw [N];simpa using e)).2
   omega
  have:=hf.heap P.o hn
  exact ⟨aB this,bI this⟩
 rw [I] at B ag
 have ap:=aA I
 clear hb hs hown N I V
 have V:w.cell? ⟨m,o,none⟩=some mv:=by rw [HO.o];exact (show SB _ _ _ _ _ _ from HB.o).c0
 go_enter Tryz.func43,Tryz.ntmps43
 go_wp2_with (at_builtin;refine BT rfl _ _ rfl 0 (.slice Q (bR g n).length lc) (bR g n) x rfl B.o (show Value.string dx=_ by rw [ay.o]) hx (Nat.zero_le _) ?_;intro H A h f d;obtain ⟨bu,br⟩:=ag.o A f;obtain ⟨ah,an,rfl⟩:=h.slice)
 rw [<- ap.o] at f d
 have af:Value.slice ah (bR g n ++ x).length an=.slice ah ((bR g n).length+x.length) an:=by rw [length_append]
 rw [af] at h d
 obtain ⟨H,am⟩:∃ H,H=Value.slice ah ((bR g n).length+x.length) an:=⟨_,rfl⟩
 have bs:=aA am
 rw [<- am] at h d |-
 clear af am ag
 have Zq:W0.grownBy A (dG g n).ownBlock:=by rw [s.o];exact f
 have K:Fr (dG g n).ownBlock.toList W0 A:=gW (r0 _ _) Zq (fun b hb=>.inl (by simp [hb]))
 have C:∀ b,(dG g n).ownBlock=some b->b∈S:=fun b hb=>(r.o.fiv_blk n hE hb).1
 have ai:A.heap[w.heap.size]?=some (.cells #[.slice Q (bR g n).length lc] 174):=K.heap P.o (fun e=>by have:=r.o.lt _ (C _ (by simpa using e));omega)
 obtain ⟨W3,R⟩:∃ W,W=A.setCell ⟨w.heap.size,0,none⟩ H:=⟨_,rfl⟩
 have D:Fr [w.heap.size] A W3:=by rw [R];exact (r0 _ _).setCell _ _ (.inl (by simp))
 have bh:w.heap.size < A.heap.size:=aH ai
 have bc:W3.heap[w.heap.size]?=some (.cells #[H] 174):=by rw [R,iN ai];rfl
 have au:SVE (fun k=>E k\/k=n) A mv c S g a:=(r.o.fr0 l).hole n hE K
 have ak:SVE (fun k=>E k\/k=n) W3 mv c S g a:=au.fr D (fun b hb e=>Nat.lt_irrefl _ ((show b=w.heap.size by simpa using e) ▸ r.o.lt b hb))
 have bq:=D.size
 have z:∀ b,H.ownBlock=some b->b∈S\/w.heap.size<=b:=fun b hb=>by
  rcases d with e|⟨b',e,Y⟩
  ·exact .inl (C b (by rw [s.o,<- e];exact hb))
  rw [e] at hb
  have:=Option.some.inj hb
  have:=l.size
  exact .inr (by omega)
 have ar:∀ b,H.ownBlock=some b->b≠w.heap.size:=fun b hb e=>by
  rcases d with t|⟨b',t,Y⟩
  ·have:=r.o.lt b (C b (by rw [s.o,<- t];exact hb));omega
  rw [t] at hb
  have:=Option.some.inj hb
  have:=aH P.o
  omega
 have u:ownM W3 0 H (bR g n ++ x):=h.fr D (fun b hb e=>ar b hb (by simpa using e))
 have ae:SVE (fun k=>E k\/k=n) W3 mv c (H.ownBlock.toList ++ S) g a:=ak.mono (fun b hb=>by simp [hb]) (fun b hb=>by
  rcases mem_append.1 hb with hb|hb
  ·exact (u.base (by simpa using hb)).2
  exact ak.lt b hb)
 have av:Fr (m :: S) w W3:=((l.of0 (S:=m :: S)).trans K (fun b hb=>.inl (by simp [C b (by simpa using hb)]))).trans D (by simp)
 have aq:SB W3 m q ty mv c:=((show SB w m q ty mv c from HB.o).fr l (by simp)).fr (K.mono (S':=w.heap.size :: S) (fun b hb=>.inl (by simp [C b (by simpa using hb)]))) (by simp;exact ⟨by omega,al⟩) |>.fr D (by simp;omega)
 have ad:m∉H.ownBlock.toList ++ S:=fun hm=>by
  rcases mem_append.1 hm with hm|hm
  ·rcases z m (by simpa using hm) with h1|h1
   ·exact al h1
   omega
  exact al hm
 have M:=yT m q ty (fun k=>E k\/k=n) mv c (H.ownBlock.toList ++ S) g a n H (bR g n ++ x) W3 aq ae ad u (fun b hb=>by
  refine ⟨by simp [hb],fun e=>?_,fun e=>?_,fun k p hk hg Zr=>?_⟩
  ·rcases d with t|⟨b',t,Y⟩
   ·exact (r.o.fiv_blk n hE (by rw [s.o,<- t];exact hb)).2.1 e
   rw [t] at hb
   have:=Option.some.inj hb
   have:=r.o.lt b (r.o.mb b e).1
   have:=l.size
   omega
  ·rcases d with t|⟨b',t,Y⟩
   ·exact (r.o.fiv_blk n hE (by rw [s.o,<- t];exact hb)).2.2.1 e
   rw [t] at hb
   have:=Option.some.inj hb
   have:=r.o.lt b (r.o.sb b e)
   have:=l.size
   omega
  rcases d with t|⟨b',t,Y⟩
  ·exact (r.o.fiv_blk n hE (by rw [s.o,<- t];exact hb)).2.2.2 k p (fun e=>hk (.inl e)) hg Zr
  rw [t] at hb
  have:=Option.some.inj hb
  have:=r.o.lt b (r.o.blk k p b (fun e=>hk (.inl e)) hg Zr).1
  have:=l.size
  omega)
 rw [<- HO.o,sv,<- ba.o] at M
 rw [<- R]
 clear ai au ak ae aq K f d h u R
 refine Calls.mono M ?_
 rintro e w4 ⟨rfl,bo,S4,F⟩
 clear M
 have hP:SPost w m q ty S E (fun k=>if k=n then some (H,bR g n ++ x) else g k) a w4 bo c S4:=⟨F.bl,F.sve.weak (fun k hk=>hk.1.resolve_right hk.2),av.trans F.fr (fun b hb=>by
   rcases mem_cons.1 hb with rfl|hb
   ·exact .inl (by simp)
   ·rcases mem_append.1 hb with hb|hb
    ·rcases z b (by simpa using hb) with h1|h1
     ·exact .inl (by simp [h1])
     exact .inr h1
    exact .inl (by simp [hb])),fun b hb=>by
   rcases F.old b hb with h1|h1
   ·rcases mem_append.1 h1 with h1|h1
    ·exact z b (by simpa using h1)
    exact .inl h1
   exact .inr (by omega),F.nsb⟩
 have HP:=aA hP
 clear F hP z ar C bc av ad r HB s B P ap V D Zq l aj
 obtain ⟨W5,J⟩:∃ W,W=w4.alloc (.cells #[ii 1,.string tx,.string ⟨#[]⟩,.string dx] 113):=⟨_,rfl⟩
 have O:Fr [] w4 W5:=by rw [J];exact (r0 _ _).alloc _
 have bv:w4.cell? ⟨m,o+1,none⟩=some c:=by rw [HO.o];exact HP.o.bl.c1
 have bd:W5.cell? ⟨m,o+1,none⟩=some c:=by rw [HO.o];exact (HP.o.bl.fr O (by simp)).c1
 have B:Hi (W5.ownsRow 0 113 4 c a.length (a.flatMap Stp.cells)):=(HP.o.sve.fr0 O).st
 have HN:Hi (∀ (j:Nat) (y:Value),([ii 1,.string tx,.string ⟨#[]⟩,.string dx]:List Value)[j]?=some y->W5.cell? ((⟨w4.heap.size,0,none⟩:Addr).add j)=some y):=by
  intro j y hy
  rw [Addr.add_lit,Nat.zero_add,J,aB (aC w4 _)]
  simpa using hy
 have ax:Hi (∀ w8,W5.grownBy w8 c.ownBlock->w8.cell? ⟨m,o+1,none⟩=some c/\w8.frozen? ⟨m,o+1,none⟩=false):=fun w8 hg=>⟨by rw [HO.o];exact (HP.o.keeps O hg).c1,(HP.o.keeps O hg).fz _⟩
 rw [J] at B HN bd
 have bb:=aA J
 clear J
 have bp:m < w4.heap.size:=HP.o.bl.lt
 go_wp2_with (at_builtin;refine wpList_append_own_at _ rfl _ _ 34 rfl 0 113 bm (.agg #[ii 0,.string ⟨#[]⟩,.string ⟨#[]⟩,.string ⟨#[]⟩]) 4 56 Tryz.underlying34 be bi bj bk rfl (by decide) c a.length (a.flatMap Stp.cells) rfl B.o ⟨w4.heap.size,0,none⟩ 1 1 [ii 1,.string tx,.string ⟨#[]⟩,.string dx] rfl rfl HN.o (by simp [Value.oneCell']) (by unfold maxLen;omega) (by omega) (Nat.zero_le _) ?_;intro v' w8 L i bg ab;rw [<- bb.o] at i ab;obtain ⟨bw,bx⟩:=ax.o w8 i;obtain ⟨bt,Zs,rfl⟩:=fR L)
 have ac:=HP.o.note O (dA n x) (by rw [az.o];exact L) i ab bf
 rw [<- HO.o] at ac
 exact bodyPost_end (v:=.tuple #[]) (results_none rfl _ _ _) rfl ⟨rfl,_,_,_,_,ac⟩
theorem RP {w:World}{r:Nat}{f:Nm->Option Value}(h:MapS w r f)(ty b:TypeId)(x:Nm) :
  ∃ a,(Builtin.delete_ #[93,b] ty #[.map (some r),sv x]).run Tryz.prog w=.ok (.tuple #[]) a/\MapS a r (fun k=>if k=x then none else f k)/\Fr [r] w a:=by
 obtain ⟨o,h1,c⟩:=h.del 93 ty b 174 Tryz.underlying93 x
 exact ⟨_,h1,c,(r0 [r] w).setObj r o (.inl (by simp))⟩
theorem SVE.del {E:Nm->Prop} {w t:World} {r:Nat} {i:Value} {S:List Nat} {g:Gf} {a:List Stp} (h:SVE E w (.map (some r)) i S g a) (n:Nm)
  (hm:MapS t r (fun k=>if k=n then none else (g k).map gF)) (q:Fr [r] w t) :
  SVE (fun k=>E k/\k≠n) t (.map (some r)) i S (fun k=>if k=n then none else g k) a:=by
 have s:∀ b,i.ownBlock=some b->b∉[r]:=fun b hb hm=>by
  have:b=r:=by simpa using hm
  subst this
  exact (h.mb b rfl).2 hb
 refine ⟨.inr ⟨r,rfl,hm.congr (fun k=>?_)⟩,?_,?_,h.mb,fZ h.st q s,h.sb,fun b hb=>Nat.lt_of_lt_of_le (h.lt b hb) q.size⟩
 ·by_cases e:k=n <;> simp [e]
 ·intro k p j c
  by_cases e:k=n
  ·rw [if_pos e] at c;cases c
  rw [if_neg e] at c
  exact (h.own k p (fun f=>j ⟨f,e⟩) c).fr q (fun b hb hm=>(h.blk k p b (fun f=>j ⟨f,e⟩) c hb).2.1 (by simp [iC];exact (by simpa using hm:b=r).symm))
 intro k p b j c hb
 by_cases e:k=n
 ·rw [if_pos e] at c;cases c
 rw [if_neg e] at c
 obtain ⟨h1,v,x,y⟩:=h.blk k p b (fun f=>j ⟨f,e⟩) c hb
 refine ⟨h1,v,x,fun u z m d o=>?_⟩
 by_cases l:u=n
 ·rw [if_pos l] at d;cases d
 rw [if_neg l] at d
 exact y u z (fun f=>m ⟨f,l⟩) d o
abbrev fS:Nm->Prop:=fun _=>False
theorem QS (q:Nat) (l:List Value) (ty:TypeId) (mv d:Value) (S:List Nat) (g:Gf) (a:List Stp) (n m:Nm) (w:World)
  (hb:SB w q l ty mv d) (hs:SVE fS w mv d S g a) (ak:q∉S) (hl:a.length<=10000000) :
  Cs 86 #[.pointer (some ⟨q,l.length,none⟩),sv n,sv m] w fun e w'=>e=.returned (.tuple #[])/\∃ aq Y S',SPost w q l ty S fS (fun k=>if k=n then none else if k=m then some (dG g n,bR g n) else g k) (a ++ [eV n m]) w' aq Y S':=by
 obtain ⟨ap,ag,al,am,an⟩:=info_parts oE
 have ah:=hb.lt
 have J:=hs.map.lookG1 n
 have hown:=hs.fiv_own n (by simp)
 obtain ⟨ao,lc,B⟩:=hown.slice
 have i:=yT q l ty (fun k=>k=m\/k=n) mv d S g a m (dG g n) (bR g n) w hb (hs.weak (fun k I=>I.elim)) ak hown (fun b ae=>by
  obtain ⟨h1,P,h3,h4⟩:=hs.fiv_blk n (by simp) ae
  exact ⟨h1,P,h3,fun k p I hg aj=>absurd (h4 k p (by simp) hg aj) (fun e=>I (.inr e))⟩)
 have Q:=hb.c0
 obtain ⟨o,ho⟩:∃ o,o=l.length:=⟨_,rfl⟩
 rw [<- ho] at Q i |-
 have M:=aA ho
 clear ho
 obtain ⟨tx,C⟩:∃ x:ByteArray,x=⟨n.toArray⟩:=⟨_,rfl⟩
 obtain ⟨dx,z⟩:∃ y:ByteArray,y=⟨m.toArray⟩:=⟨_,rfl⟩
 have ac:=aA C
 have au:=aA z
 rw [sv,<- C] at J |-
 rw [sv,<- z] at i |-
 have ab:Hi ((eV n m).cells=[ii 3,.string tx,.string dx,.string ⟨#[]⟩]):=by show _=_;rw [C,z]
 clear C z
 rw [B] at J
 have h:=i
 rw [show Value.agg #[dG g n]=.agg #[.slice ao (bR g n).length lc] by rw [B]] at h
 have av:=aA B
 clear hb hs hown B i
 go_enter Tryz.func86,Tryz.ntmps86
 go_wp2_with fail
 refine Calls.mono h ?_
 rintro e w4 ⟨rfl,ar,S4,c⟩
 clear h
 obtain ⟨r,rfl,X⟩:∃ r,ar=.map (some r)/\MapS w4 r (fun k=>((if k=m then some (dG g n,bR g n) else g k:Option (Value×List UInt8))).map gF):=by
  rcases c.sve.map with ⟨_,P⟩|⟨r,h1,P⟩
  ·have:=P m
   simp at this
  exact ⟨r,h1,P⟩
 have Zq:w4.cell? ⟨q,o,none⟩=some (.map (some r)):=by rw [M.o];exact c.bl.c0
 obtain ⟨F,R,V,A⟩:=RP X 0 9 n
 rw [sv,<- ac.o] at R
 have K:r∈S4:=(c.sve.mb r rfl).1
 have hP:SPost w q l ty S fS (fun k=>if k=n then none else if k=m then some (dG g n,bR g n) else g k) a F (.map (some r)) d S4 :=
  ⟨c.bl.fr A (fun e=>c.nsb ((show q=r by simpa using e) ▸ K)),(c.sve.del n V A).weak (fun k I=>I.2 (I.1.1.resolve_left I.1.2)),c.fr.trans A (fun b hb=>by
   have:b=r:=by simpa using hb
   subst this
   rcases c.old b K with h1|h1
   ·exact .inl (by simp [h1])
   exact .inr h1),c.old,c.nsb⟩
 have H:=aA hP
 clear c hP X V A K J Q
 obtain ⟨O,s⟩:∃ W,W=F.alloc (.cells #[ii 3,.string tx,.string dx,.string ⟨#[]⟩] 113):=⟨_,rfl⟩
 have u:Fr [] F O:=by rw [s];exact (r0 _ _).alloc _
 have ax:F.cell? ⟨q,o+1,none⟩=some d:=by rw [M.o];exact H.o.bl.c1
 have af:O.cell? ⟨q,o+1,none⟩=some d:=by rw [M.o];exact (H.o.bl.fr u (by simp)).c1
 have N:Hi (O.ownsRow 0 113 4 d a.length (a.flatMap Stp.cells)):=(H.o.sve.fr0 u).st
 have HN:Hi (∀ (j:Nat) (y:Value),([ii 3,.string tx,.string dx,.string ⟨#[]⟩]:List Value)[j]?=some y->O.cell? ((⟨F.heap.size,0,none⟩:Addr).add j)=some y):=by
  intro j y hy
  rw [Addr.add_lit,Nat.zero_add,s,aB (aC F _)]
  simpa using hy
 have aa:Hi (∀ L,O.grownBy L d.ownBlock->L.cell? ⟨q,o+1,none⟩=some d/\L.frozen? ⟨q,o+1,none⟩=false):=fun L hg=>⟨by rw [M.o];exact (H.o.keeps u hg).c1,(H.o.keeps u hg).fz _⟩
 rw [s] at N HN af
 have ad:=aA s
 clear s
 have Zr:q < F.heap.size:=H.o.bl.lt
 go_wp2_with (at_builtin;refine wpList_append_own_at _ rfl _ _ 34 rfl 0 113 ap (.agg #[ii 0,.string ⟨#[]⟩,.string ⟨#[]⟩,.string ⟨#[]⟩]) 4 56 Tryz.underlying34 ag al am an rfl (by decide) d a.length (a.flatMap Stp.cells) rfl N.o ⟨F.heap.size,0,none⟩ 1 1 [ii 3,.string tx,.string dx,.string ⟨#[]⟩] rfl rfl HN.o (by simp [Value.oneCell']) (by unfold maxLen;omega) (by omega) (Nat.zero_le _) ?_;intro v' L t f ai D;rw [<- ad.o] at f D;obtain ⟨ay,az⟩:=aa.o L f;obtain ⟨aw,ba,rfl⟩:=fR t)
 have E:=H.o.note u (eV n m) (by rw [ab.o];exact t) f D ah
 rw [<- M.o] at E
 exact bodyPost_end (v:=.tuple #[]) (results_none rfl _ _ _) rfl ⟨rfl,_,_,_,E⟩
set_option maxRecDepth 100000
theorem JV (w:World):Cs 127 #[.int .i64 1] w fun e a=>e=.returned (.string ⟨[49].toArray⟩)/\w=a:=by
 go_enter Tryz.func127,Tryz.ntmps127
 go_wp2
 go_ret
 exact ⟨rfl,rfl⟩
theorem JW (w:World):Cs 127 #[.int .i64 2] w fun e a=>e=.returned (.string ⟨[50].toArray⟩)/\w=a:=by
 go_enter Tryz.func127,Tryz.ntmps127
 go_wp2
 go_ret
 exact ⟨rfl,rfl⟩
set_option maxRecDepth 100000
def cZ (g:Gf):Nm:=if (g bO).isSome=true then iP else bO
theorem EO:Value.string ((⟨LOG.toArray⟩:ByteArray) ++ ⟨#[46]⟩ ++ ⟨[49].toArray⟩)=sv bO:=rfl
theorem EP:Value.string ((⟨LOG.toArray⟩:ByteArray) ++ ⟨#[46]⟩ ++ ⟨[50].toArray⟩)=sv iP:=rfl
theorem UT (m o:Nat)(u:Value)(g:Gf)(w:World)(z:w.cell? ⟨m,o,none⟩=some u)(hm:MapO w u (fun k=>(g k).map gF))(j:∀ n,∃ D H F,dG g n=.slice D H F)(r:(g bO).isSome=true->g iP=none)(t:m < w.heap.size) :
  Cs 85 #[.pointer (some ⟨m,o,none⟩),sv LOG] w fun e l=>e=.returned (sv (cZ g))/\Fr [] w l:=by
 have y:Hi (∀ (l:World) (n:Nm),Fr [] w l->Cs 87 #[.pointer (some ⟨m,o,none⟩),sv n] l fun e v=>e=.returned (.bool (g n).isSome)/\Fr [] l v):=fun l n h=>IY m o u g n l ((h.cell _ _ t (by simp)).trans z) (hm.fr h (by simp)) (j n)
 obtain ⟨I,f⟩:∃ x:ByteArray,x=⟨LOG.toArray⟩:=⟨_,rfl⟩
 have p:=EO
 have q:=EP
 have E:I.size=3:=by rw [f];rfl
 rw [<- f] at p q
 rw [sv,<- f]
 clear f hm j z
 go_enter Tryz.func85,Tryz.ntmps85
 go_wp2_with fail
 go_loopw [5] (fun i wr=>(i=.int .i64 1\/(i=.int .i64 2/\(g bO).isSome=true))/\Fr [] w wr) (fun i _=>3 - (intOf i).toNat)
 case atStart=>exact ⟨.inl rfl,r0 _ _⟩
 obtain ⟨hi,h⟩:=hrel
 rcases hi with rfl|⟨rfl,h1⟩
 ·go_wp2_with (go_at_call 127;refine Calls.mono (JV _) ?_;rintro e J ⟨rfl,rfl⟩)
  have d:=y.o wr bO h
  have a:Hi (cZ g=if (g bO).isSome=true then iP else bO):=rfl
  obtain ⟨B,s⟩:∃ B,B=(g bO).isSome:=⟨_,rfl⟩
  rw [<- s] at d a
  obtain ⟨C,b⟩:∃ L,L=bO:=⟨_,rfl⟩
  rw [<- b] at d a |-
  refine Calls.mono d ?_
  rintro e K ⟨rfl,c⟩
  have A:=aA s
  clear s b d p q r
  cases B
  ·go_wp2_with fail
   go_ret
   exact ⟨by rw [a.o];rfl,h.then0 c⟩
  go_wp2_with fail
  go_roundw
  case rel=>exact ⟨.inr ⟨rfl,A.o.symm⟩,h.then0 c⟩
  case measure=>simp [intOf]
 go_wp2_with (go_at_call 127;refine Calls.mono (JW _) ?_;rintro e J ⟨rfl,rfl⟩)
 have d:=y.o wr iP h
 have a:Hi (cZ g=iP):=by show _=_;unfold cZ;rw [if_pos h1]
 rw [r h1] at d
 obtain ⟨C,b⟩:∃ L,L=iP:=⟨_,rfl⟩
 rw [<- b] at d a |-
 refine Calls.mono d ?_
 rintro e K ⟨rfl,c⟩
 clear b d p q r h1
 go_wp2_with fail
 go_ret
 exact ⟨by rw [a.o];rfl,h.then0 c⟩
theorem SPost.refl {w:World}{f:Nat}{c:List Value}{ty:TypeId}{E:Nm->Prop}{e b:Value}{S:List Nat}{g:Gf}{a:List Stp}(hb:SB w f c ty e b)(hs:SVE E w e b S g a)(d:f∉S):SPost w f c ty S E g a w e b S:=⟨hb,hs,r0 _ _,fun _ hb=>.inl hb,d⟩
theorem SPost.then0 {w:World}{i:Nat}{b:List Value}{ty:TypeId}{S:List Nat}{E:Nm->Prop}{g:Gf}{a:List Stp}{j k:World}{f c:Value}{e:List Nat}(h:SPost w i b ty S E g a j f c e)(d:Fr [] j k):SPost w i b ty S E g a k f c e :=
  ⟨h.bl.fr d (by simp),h.sve.fr0 d,h.fr.then0 d,h.old,h.nsb⟩
theorem SPost.trans {w:World}{i:Nat}{d:List Value}{ty:TypeId}{S:List Nat}{E l:Nm->Prop}{g o:Gf}{e a:List Stp}{p q:World}{r j f c:Value}{m n:List Nat}(h:SPost w i d ty S E g e p r j m)(k:SPost p i d ty m l o a q f c n):SPost w i d ty S l o a q f c n:=by
 have hs:=h.fr.size
 refine ⟨k.bl,k.sve,h.fr.trans k.fr (fun b hb=>?_),fun b hb=>?_,k.nsb⟩
 ·rcases mem_cons.1 hb with rfl|hb
  ·exact .inl (by simp)
  rcases h.old b hb with h1|h1
  ·exact .inl (by simp [h1])
  exact .inr h1
 rcases k.old b hb with h1|h1
 ·exact h.old b h1
 exact .inr (by omega)
theorem SVE.ones {w:World}{i b:Value}{S:List Nat}{g:Gf}{a:List Stp}(h:SVE fS w i b S g a)(n:Nm):∃ c f d,dG g n=.slice c f d:=by
 obtain ⟨c,d,e⟩:=(h.fiv_own n (by simp)).slice
 exact ⟨_,_,_,e⟩
theorem LQ (g:Gf):LOG≠cZ g:=by
 unfold cZ
 split <;> decide
theorem NT {g:Gf}(a:(g bO).isSome=true->g iP=none):g (cZ g)=none:=by
 unfold cZ
 split
 ·rename_i h;exact a h
 rename_i h;simpa using h
theorem QU (i:Nat) (b:List Value) (ty:TypeId) (M n:Value) (S:List Nat) (g:Gf) (a:List Stp) (x:List UInt8) (w:World)
  (hb:SB w i b ty M n) (hs:SVE fS w M n S g a) (D:i∉S) (X:(g bO).isSome=true->g iP=none) (hl:a.length<=9999990) (hx:x.length<=1000000000) :
  Cs 46 #[.pointer (some ⟨i,b.length,none⟩),sv LOG,sv x] w fun e R=>e=.returned (.tuple #[])/\∃ Q m f S',SPost w i b ty S fS (fun k=>if k=cZ g then none else if k=LOG then some (Q,x) else g k) (a ++ [dA (cZ g) x,dB (cZ g),eV (cZ g) LOG]) R m f S':=by
 have j:=UT i b.length M g w hb.c0 hs.map hs.ones X hb.lt
 have u:=NT X
 have y:=LQ g
 obtain ⟨N,hN⟩:∃ N,N=cZ g:=⟨_,rfl⟩
 rw [<- hN] at j u y |-
 have l:bR g N=[]:=by unfold bR;rw [u]
 clear hN
 obtain ⟨L,Y⟩:∃ L,L=LOG:=⟨_,rfl⟩
 rw [<- Y] at j y |-
 clear Y
 have V:Hi (∀ p,Fr [] w p->Cs 43 #[.pointer (some ⟨i,b.length,none⟩),sv N,sv x] p fun e R=>e=.returned (.tuple #[])/\∃ Q m f S',SPost p i b ty S fS (fun k=>if k=N then some (Q,bR g N ++ x) else g k) (a ++ [dA N x]) R m f S'):=fun p hf=>tI i b ty fS M n S g a N x p (hb.fr hf (by simp)) (hs.fr0 hf) D (by simp) (by omega) (by rw [l];simp;omega)
 have W:=(show Hi _ from SPost.refl hb hs D)
 clear hb hs
 go_enter Tryz.func46,Tryz.ntmps46
 go_wp2_with fail
 refine Calls.mono j ?_
 rintro e p ⟨rfl,t⟩
 clear j
 go_wp2_with fail
 refine Calls.mono (V.o p t) ?_
 rintro e w2 ⟨rfl,K,F,H,S2,z⟩
 have c:=(W.o.then0 t).trans z
 rw [l,nil_append] at c
 have E:=BE i b ty fS F H S2 _ _ N w2 c.bl c.sve c.nsb (by rw [length_append];simp;omega)
 have q:=aA c
 clear z c V W
 go_wp2_with fail
 refine Calls.mono E ?_
 rintro e w3 ⟨rfl,I,S3,A⟩
 have d:=q.o.trans A
 have C:=QS i b ty F I S3 _ _ N L w3 d.bl d.sve d.nsb (by rw [length_append,length_append];simp;omega)
 have r:=aA d
 clear A d E q
 go_wp2_with fail
 refine Calls.mono C ?_
 rintro e w4 ⟨rfl,P,J,S4,B⟩
 have s:=r.o.trans B
 have O:=aA s
 clear B s C r
 go_wp2_with fail
 refine bodyPost_end (v:=.tuple #[]) (results_none rfl _ _ _) rfl ⟨rfl,K,P,J,S4,?_⟩
 have h:=O.o
 have e1:a ++ [dA N x] ++ [dB N] ++ [eV N L]=a ++ [dA N x,dB N,eV N L]:=by simp
 rw [e1] at h
 have e2:(fun k=>if k=N then none else if k=L then some (dG (fun k=>if k=N then some (K,x) else g k) N,bR (fun k=>if k=N then some (K,x) else g k) N) else if k=N then some (K,x) else g k)=(fun k=>if k=N then none else if k=L then some (K,x) else g k):=by
  funext k
  by_cases e:k=N
  ·simp [e]
  simp [e,dG,bR]
 rw [e2] at h
 exact h
set_option maxRecDepth 100000
theorem AC (l:List Stp):(l.flatMap Stp.cells).length=l.length*4:=by
 induction l with
 | nil=>rfl
 | cons a l b=>rw [flatMap_cons,length_append,b];simp;omega
theorem RU (l:List Stp):∀ v∈l.flatMap Stp.cells,v.oneCell'=true:=by
 intro v b
 obtain ⟨u,_,a⟩:=mem_flatMap.1 b
 simp at a
 rcases a with rfl|rfl|rfl|rfl <;> rfl
theorem SQ (v:Value)(l:List Stp)(w:World)(hown:w.ownsRow 0 113 4 v l.length (l.flatMap Stp.cells))(x:l.length<=10000000)(N:0 < l.length) :
  Cs 78 #[v] w fun e z=>∃ h,e=.returned h/\z.ownsRow w.heap.size 113 4 h l.length (l.flatMap Stp.cells)/\Fr [] w z:=by
 obtain ⟨t,hi,q,r,s⟩:=info_parts oE
 obtain ⟨f,a,cur,rfl,_,i,M,J,hs,ht⟩:∃ g a cur,v=.slice (so g) l.length a/\0<=g/\w.heap[g]?=some (.cells cur 113)/\l.length<=a/\a<=maxLen/\cur.size=a*4/\cur.toList.take (l.length*4)=l.flatMap Stp.cells:=by
  rcases hown.2 with ⟨_,O⟩|⟨g,a,cur,h1,B,C,D,E,F,H⟩
  ·omega
  exact ⟨g,a,cur,h1,B,C,D,E,F,H⟩
 have y:∀ w0:World,(binOp BinOp.eql 34 (.slice (so f) l.length a) (.slice none 0 0)).run Tryz.prog w0=.ok (.bool false) w0:=fun w0=>by kernel_rfl
 have hnews:∀ (W:World),W.heap[f]?=w.heap[f]?->∀ j u,(l.flatMap Stp.cells)[j]?=some u->W.cell? ((⟨f,0,none⟩:Addr).add j)=some u:=by
  intro W I j u p
  have K:j < l.length*4:=by rw [<- AC l];exact (gs.1 p).1
  rw [Addr.add_lit,Nat.zero_add,aB (I.trans i)]
  rw [<- ht,getElem?_take_of_lt K] at p
  simpa using p
 have A:=aA hnews
 have n:=aH i
 clear hnews i hs ht hown
 have d:(w.alloc (.cells #[] 113)).ownsRow w.heap.size 113 4 (.slice (so w.heap.size) 0 0) 0 []:=⟨rfl,.inr ⟨_,0,#[],rfl,Nat.le_refl _,aC _ _,Nat.le_refl _,by decide,rfl,rfl⟩⟩
 go_enter Tryz.func78,Tryz.ntmps78
 go_wp2_with (at_builtin;refine wpList_append_own _ rfl _ _ 34 rfl w.heap.size 113 t (.agg #[ii 0,.string ⟨#[]⟩,.string ⟨#[]⟩,.string ⟨#[]⟩]) 4 56 Tryz.underlying34 hi q r s rfl (by decide) (.slice (so w.heap.size) 0 0) 0 [] rfl d ⟨f,0,none⟩ l.length a (l.flatMap Stp.cells) rfl (AC l) (A.o _ (fD _ _ _ n)) (RU l) (by unfold maxLen;omega) (by omega) (by simp) ?_;intro h P b c m)
 go_ret
 simp only [Nat.zero_add,nil_append] at b
 exact ⟨h,rfl,b,gW ((r0 [] w).alloc _) c (fun k L=>.inr (by simp [Value.ownBlock] at L;omega))⟩
theorem TF (i:Nat)(a:List Value)(ty:TypeId)(n b:Value)(l:List Stp)(w:World)(hb:SB w i a ty n b)(hown:w.ownsRow 0 113 4 b l.length (l.flatMap Stp.cells))(c:l.length<=10000000)(g:0 < l.length) :
  Cs 37 #[.pointer (some ⟨i,a.length,none⟩)] w fun e j=>∃ d,e=.returned d/\j.ownsRow w.heap.size 113 4 d l.length (l.flatMap Stp.cells)/\Fr [] w j:=by
 have k:=hb.c1
 have m:=SQ b l w hown c g
 obtain ⟨o,ho⟩:∃ o,o=a.length:=⟨_,rfl⟩
 rw [<- ho] at k |-
 clear ho hown hb
 go_enter Tryz.func37,Tryz.ntmps37
 go_wp2_with fail
 refine Calls.mono m ?_
 rintro e p ⟨d,rfl,h,f⟩
 go_wp2_with fail
 go_ret
 exact ⟨d,rfl,h,f⟩
theorem SVE.empty (w:World):SVE fS w (.map none) (.slice none 0 0) [] (fun _=>none) []:=by
 refine ⟨.inl ⟨rfl,fun _=>rfl⟩,fun k p _ h=>?_,fun k p b _ h=>?_,fun b hb=>?_,⟨rfl,.inl ⟨rfl,rfl⟩⟩,fun b hb=>?_,by simp⟩
 ·simp at h
 ·simp at h
 ·simp [iC] at hb
 simp [Value.ownBlock] at hb
