import Derived.Test.YtapabahhfanmmaaGreatDoorCDelete
import Derived.Deep.DeepCutAuto
namespace Go.Proofs.YtapabahhfanmmaaGreatDoor
open Go.RowKit List
set_option maxRecDepth 100000
set_option maxHeartbeats 4000000
theorem Fr.cells1 {w a:World}{c:Nat}(h:Fr [c] w a):(∀ b o,b < w.heap.size->¬ (b=c)->a.cell? ⟨b,o,none⟩=w.cell? ⟨b,o,none⟩)/\(∀ b o,b < w.heap.size->¬ (b=c)->a.frozen? ⟨b,o,none⟩=w.frozen? ⟨b,o,none⟩) :=
  ⟨fun b o hb hn=>h.cell b o hb (by simpa using hn),fun b o hb hn=>h.frozen b o hb (by simpa using hn)⟩
theorem MapF.alloc {w:World}{r:Nat}{f:Int×Int->Option Value}(h:MapF w r f)(o:Obj):MapF (w.alloc o) r f:=h.fr ((r0 [] w).alloc o) (by simp)
theorem MapF.setCell {w:World}{r:Nat}{f:Int×Int->Option Value}(h:MapF w r f)(p:Addr)(v:Value)(hn:r≠p.block):MapF (w.setCell p v) r f:=by
  refine h.fr ((r0 [p.block] w).setCell p v (by simp)) (by simpa using hn)
theorem pB {w:World}{b:Nat}{x y:Value}{t:TypeId}(h:w.heap[b]?=some (.cells #[x,y] t))(p q:Value):((w.setCell ⟨b,0,none⟩ p).setCell ⟨b,1,none⟩ q).heap[b]?=some (.cells #[p,q] t):=by
 have c:=setCell_eq_setRow w b 0 #[x,y] t (0,0) p h
 have h1:=setRow_heap w b #[x,y] (#[x,y].setIfInBounds 0 p) t (0,0) h
 rw [<- c] at h1
 have d:=setCell_eq_setRow (w.setCell ⟨b,0,none⟩ p) b 1 _ t (0,0) q h1
 have a:=setRow_heap _ b _ ((#[x,y].setIfInBounds 0 p).setIfInBounds 1 q) t (0,0) h1
 rw [<- d] at a
 simpa using a
theorem qJ {w:World}{r:Nat}{f:Int×Int->Option Value}(h:MapF w r f)(t ty b e:TypeId)(ht:Tryz.prog.underlying t=some (.map 159 e))(x y:Int) :
  ∃ a,(Builtin.delete_ #[t,b] ty #[.map (some r),cv x y]).run Tryz.prog w=.ok (.tuple #[]) a/\MapF a r (fun k=>if k=(x,y) then none else f k)/\Fr [r] w a:=by
 obtain ⟨o,h1,c⟩:=h.del t ty b e ht x y
 exact ⟨_,h1,c,(r0 _ _).setObj r o (by simp)⟩
abbrev U.to (u:U)(c:Cl):U:={ u with x:=c.1,y:=c.2 }
theorem zY {w:World}{b:Nat}{u:U}{t:TypeId}(h:w.heap[b]?=some (.cells u.arr t))(p q:Int):((w.setCell ⟨b,3,none⟩ (.int .i64 p)).setCell ⟨b,4,none⟩ (.int .i64 q)).heap[b]?=some (.cells (u.to (p,q)).arr t):=by
 have c:=setCell_eq_setRow w b 3 u.arr t (0,0) (.int .i64 p) h
 have h1:=setRow_heap w b u.arr (u.arr.setIfInBounds 3 (.int .i64 p)) t (0,0) h
 rw [<- c] at h1
 have d:=setCell_eq_setRow (w.setCell ⟨b,3,none⟩ (.int .i64 p)) b 4 _ t (0,0) (.int .i64 q) h1
 have a:=setRow_heap _ b _ ((u.arr.setIfInBounds 3 (.int .i64 p)).setIfInBounds 4 (.int .i64 q)) t (0,0) h1
 rw [<- d] at a
 simpa using a
abbrev T.moved (t:T)(u:U)(c:Cl):T:={ t with held:=fun k=>if k=c then some u.id else if k=(u.x,u.y) then none else t.held k }
theorem qT (g pb ah hb b:Nat)(t:T)(u:U)(gx gy:Int)(w:World)(h:TS w g pb ah hb b t)(bc:Sd w)(ba:aD u.x u.y=true)(ax:aD gx gy=true) :
  Cs 202 #[.pointer (so g),u.val,.func (.func 206) #[cv gx gy] #[]] w fun e a =>
   e=.returned (u.to (cQ (fun c=>bX (bG t.held) t.bd c.1 c.2) (fun c=>aY gx gy c.1 c.2) (u.x,u.y))).val/\Fr [hb,b] w a/\TS a g pb ah hb b (t.moved u (cQ (fun c=>bX (bG t.held) t.bd c.1 c.2) (fun c=>aY gx gy c.1 c.2) (u.x,u.y))):=by
 have hz:=h.z
 have Zq:=h.lt
 obtain ⟨l,s⟩:∃ W,W=(w.alloc (.cells u.arr 85)).alloc (.cells zeroU.arr 85):=⟨_,rfl⟩
 have bn:l.heap.size=w.heap.size+1+1:=by rw [s];simp
 have E:Fr [b] w l:=by rw [s];exact ((r0 _ _).alloc _).alloc _
 have Y:l.heap[w.heap.size]?=some (.cells u.arr 85):=by rw [s,dD]
 have av:l.heap[w.heap.size+1]?=some (.cells zeroU.arr 85):=by rw [s,cR]
 have bg:=h.ways.lt
 have M:∀ a,Fr [b] l a->MapF a b (fun _=>none)->(fun a:World=>cl a w.heap.size 0 u.id/\cl a w.heap.size 1 u.owner/\cl a w.heap.size 2 u.kind/\cl a w.heap.size 3 u.x/\cl a w.heap.size 4 u.y/\cl a w.heap.size 5 u.life/\cl a w.heap.size 6 u.load/\cl a w.heap.size 7 u.what/\cl a w.heap.size 8 u.tox/\cl a w.heap.size 9 u.toy/\cl a w.heap.size 10 u.target/\ca a g 150 (.map (some b))/\MapF a b (fun _=>none)/\Fr [b] l a) a:=by
  intro a hf hm
  have j:=hf.heap Y (by simp;omega)
  have ab:a.cell? ⟨g,150,none⟩=some (.map (some b)):=((E.trans hf (by simp)).cell g 150 Zq (by simp;exact h.n3)).trans h.c150
  exact ⟨aB j,aB j,aB j,aB j,aB j,aB j,aB j,aB j,aB j,aB j,aB j,ab,hm,hf⟩
 have D:∀ a,(fun a:World=>dC w.heap.size u a (ca a g 150 (.map (some b))/\MapF a b (fun _=>none)/\Fr [b] l a)) a->Fr [b] l a:=fun a hs=>hs.2.2.2.2.2.2.2.2.2.2.2.2.2
 have MF:∀ a,(fun a:World=>dC w.heap.size u a (ca a g 150 (.map (some b))/\MapF a b (fun _=>none)/\Fr [b] l a)) a->MapF a b (fun _=>none):=fun a hs=>hs.2.2.2.2.2.2.2.2.2.2.2.2.1
 have SD:∀ a,(fun a:World=>a.cell? ⟨w.heap.size,0,none⟩=some (ii u.id)/\a.cell? ⟨w.heap.size,1,none⟩=some (ii u.owner)/\a.cell? ⟨w.heap.size,2,none⟩=some (ii u.kind)/\a.cell? ⟨w.heap.size,3,none⟩=some (ii u.x)/\a.cell? ⟨w.heap.size,4,none⟩=some (ii u.y)/\a.cell? ⟨w.heap.size,5,none⟩=some (ii u.life)/\a.cell? ⟨w.heap.size,6,none⟩=some (ii u.load)/\a.cell? ⟨w.heap.size,7,none⟩=some (ii u.what)/\a.cell? ⟨w.heap.size,8,none⟩=some (ii u.tox)/\a.cell? ⟨w.heap.size,9,none⟩=some (ii u.toy)/\a.cell? ⟨w.heap.size,10,none⟩=some (ii u.target)/\a.cell? ⟨g,150,none⟩=some (.map (some b))/\MapF a b (fun _=>none)/\Fr [b] l a) a->Sd a:=fun a hs=>bc.fr (E.trans (D a hs) (by simp)) (by simp;omega)
 have ag:∀ a,(fun a:World=>a.cell? ⟨w.heap.size,0,none⟩=some (ii u.id)/\a.cell? ⟨w.heap.size,1,none⟩=some (ii u.owner)/\a.cell? ⟨w.heap.size,2,none⟩=some (ii u.kind)/\a.cell? ⟨w.heap.size,3,none⟩=some (ii u.x)/\a.cell? ⟨w.heap.size,4,none⟩=some (ii u.y)/\a.cell? ⟨w.heap.size,5,none⟩=some (ii u.life)/\a.cell? ⟨w.heap.size,6,none⟩=some (ii u.load)/\a.cell? ⟨w.heap.size,7,none⟩=some (ii u.what)/\a.cell? ⟨w.heap.size,8,none⟩=some (ii u.tox)/\a.cell? ⟨w.heap.size,9,none⟩=some (ii u.toy)/\a.cell? ⟨w.heap.size,10,none⟩=some (ii u.target)/\a.cell? ⟨g,150,none⟩=some (.map (some b))/\MapF a b (fun _=>none)/\Fr [b] l a) a->TV a g hb (bG t.held) t.bd:=fun a hs=>h.tv.fr (E.trans (D a hs) (by simp)) (by simp;exact h.n3) (by simp;exact h.n6)
 have HW:=aA s
 have K0:(fun a:World=>dC w.heap.size u a (ca a g 150 (.map (some b))/\MapF a b (fun _=>none)/\Fr [b] l a)) (((w.alloc (.cells u.arr 85)).alloc (.cells zeroU.arr 85)).drew):=by
  refine M _ ?_ (h.ways.fr ((((r0 [] w).alloc _).alloc _).drew) (by simp))
  rw [s];exact (r0 _ _).drew
 have Zr:=aA h
 have KF:=D _ K0
 have KM:=MF _ K0
 clear s
 have q1:¬ (w.heap.size+1+1=b):=by omega
 obtain ⟨R,hR⟩:∃ R,cQ (fun c=>bX (bG t.held) t.bd c.1 c.2) (fun c=>aY gx gy c.1 c.2) (u.x,u.y)=R:=⟨_,rfl⟩
 have HR:=aA hR
 rw [hR]
 clear hR
 go_enter Tryz.func202,Tryz.ntmps202
 go_wp2_with fail
 go_cut [7] (fun s7 K=>∃ n:Nat,s7=.pointer (so n)/\K.heap[n]?=some (.cells #[ii R.1,ii R.2] 159)/\w.heap.size+1 < n/\Fr [b] l K/\MapF K b (fun _=>none))
 case first =>
  go_region_held (fun a:World=>dC w.heap.size u a (ca a g 150 (.map (some b))/\MapF a b (fun _=>none)/\Fr [b] l a))
   (first|exact K0|exact M _ m J|exact M _ (m.alloc _) (J.alloc _)|exact M _ O S|exact M _ (O.alloc _) (S.alloc _)|exact M _ (KF.alloc _) (KM.alloc _)|exact M _ ((m.setCell _ _ (.inr (by simp;omega))).setCell _ _ (.inr (by simp;omega))) ((J.setCell _ _ (by simp;omega)).setCell _ _ (by simp;omega)))
   (first|(go_at_call 192;refine (gU u _).mono ?_;rintro e X ⟨rfl,f⟩;obtain ⟨bl,bo⟩:=f.cells0;have q2:¬ (X.heap.size=b):=(by have:=f.size;simp at this;omega);have q4:w.heap.size+1+1<=X.heap.size:=(by have:=f.size;simp at this;omega);(first|(have q3:w.heap.size+1+1 < X.heap.size:=(by have:=f.size;simp at this;omega))|skip);have O:Fr [b] l X:=Fr.then0 (D _ (by assumption)) f;have S:MapF X b (fun _=>none):=MapF.fr (MF _ (by assumption)) f (by simp))|(go_at_call 220;refine (SP g hb b (bG t.held) t.bd u.x u.y gx gy _ (SD _ (by assumption)) (ag _ (by assumption)) (MF _ (by assumption)) (by omega) h.n3 h.n6 ba ax).mono ?_;rintro e w2 ⟨rfl,L,J⟩;rw [HR.o];obtain ⟨bm,bp⟩:=L.cells1;have m:Fr [b] l w2:=Fr.trans (D _ (by assumption)) L (by simp)))
  all_goals
   go_wp2_with fail
   go_meet
   refine ⟨_,rfl,?_,?_,?_,?_⟩
   ·first
    | with_reducible exact aC _ _
    | with_reducible exact pB (L.heap (aC X _) (by simp;omega)) _ _
    | with_reducible exact pB (L.heap (f.heap0 (iI w _ _ _)) (by simp;omega)) _ _
   ·have:=m.size
    omega
   ·first
    | with_reducible exact m.alloc _
    | with_reducible exact (m.setCell _ _ (.inr (by simp;omega))).setCell _ _ (.inr (by simp;omega))
   first
   | with_reducible exact J.alloc _
   | with_reducible exact (J.setCell _ _ (by simp;omega)).setCell _ _ (by simp;omega)
 case rest =>
  obtain ⟨n,rfl,ak,bj,ad,ao⟩:=hcut
  have al:Fr [b] w wc:=E.trans ad (by simp)
  have d:=Zr.o
  have HM:=d.held.fr al (by simp;exact d.n6)
  have H:Fr [hb,b] l wc:=ad.mono (by simp)
  have bi:=d.held.lt
  have H2:∀ a,Fr [hb,b] l a->(fun a:World=>a.cell? ⟨w.heap.size,0,none⟩=some (ii u.id)/\a.cell? ⟨w.heap.size,1,none⟩=some (ii u.owner)/\a.cell? ⟨w.heap.size,2,none⟩=some (ii u.kind)/\a.cell? ⟨w.heap.size,3,none⟩=some (ii u.x)/\a.cell? ⟨w.heap.size,4,none⟩=some (ii u.y)/\a.cell? ⟨w.heap.size,5,none⟩=some (ii u.life)/\a.cell? ⟨w.heap.size,6,none⟩=some (ii u.load)/\a.cell? ⟨w.heap.size,7,none⟩=some (ii u.what)/\a.cell? ⟨w.heap.size,8,none⟩=some (ii u.tox)/\a.cell? ⟨w.heap.size,9,none⟩=some (ii u.toy)/\a.cell? ⟨w.heap.size,10,none⟩=some (ii u.target)/\a.cell? ⟨g,149,none⟩=some (.map (some hb))) a:=by
   intro a hf
   have j:=hf.heap Y (by simp;omega)
   have aa:a.cell? ⟨g,149,none⟩=some (.map (some hb)):=((E.mono (S':=[hb,b]) (by simp)).trans hf (by simp)).cell g 149 Zq (by simp;exact ⟨d.n2,d.n3⟩) |>.trans d.tv.c
   exact ⟨aB j,aB j,aB j,aB j,aB j,aB j,aB j,aB j,aB j,aB j,aB j,aa⟩
  have K2:=H2 wc.drew H.drew
  have af:MapF wc.drew hb (bG t.held):=HM.fr ((r0 [] wc).drew) (by simp)
  clear M D MF SD ag K0 KF KM h q1
  go_wp2_with fail
  go_cut [] (fun K=>Fr [hb,b] l K/\MapF K hb (fun k=>if k=(u.x,u.y) then none else bG t.held k)/\MapF K b (fun _=>none)/\K.heap[n]?=some (.cells #[ii R.1,ii R.2] 159))
  case first =>
   go_region_held (fun a:World=>dC w.heap.size u a (ca a g 149 (.map (some hb))))
    (first|exact K2|exact H2 _ am|exact H2 _ an)
    (first|(go_at_call 192;refine (gU u _).mono ?_;rintro e X ⟨rfl,f⟩;have am:Fr [hb,b] l X:=H.drew.then0 f;obtain ⟨wd,bh,ay,ac⟩:=qJ (af.fr f (by simp)) 205 0 159 3 Tryz.underlying205 u.x u.y;have an:Fr [hb,b] l wd:=am.trans ac (by simp)))
   all_goals
    go_wp2_with fail
    go_meet
    exact ⟨an,ay,(ao.fr ((r0 [] wc).drew.then0 f) (by simp)).fr ac (by simp;exact fun e=>d.n6 e.symm),ac.heap (f.heap0 (show wc.drew.heap[n]?=_ from ak)) (by simp;omega)⟩
  case rest =>
   obtain ⟨q,Q,V,C⟩:=hcut
   have ae:=q.heap Y (by simp;omega)
   have aq:=q.heap av (by simp;omega)
   obtain ⟨r,be,az,F,bk⟩:=kB (Q.fr ((r0 [] wc).drew) (by simp)) 205 3 Tryz.underlying205 R.1 R.2 (ii u.id)
   have P:Fr [hb,b] l r:=q.drew.trans F (by simp)
   have N:ca wc g 149 (.map (some hb)):=(H2 wc q).2.2.2.2.2.2.2.2.2.2.2
   have K3:(fun a:World=>ca a w.heap.size 0 (ii u.id)/\ca a n 0 (ii R.1)/\ca a n 1 (ii R.2)/\ca a g 149 (.map (some hb))) wc.drew:=⟨aB (show wc.drew.heap[w.heap.size]?=_ from ae),aB (show wc.drew.heap[n]?=_ from C),aB (show wc.drew.heap[n]?=_ from C),N⟩
   have p:=F.heap (show wc.drew.heap[n]?=_ from C) (by simp;omega)
   have A:=F.heap (show wc.drew.heap[w.heap.size]?=_ from ae) (by simp;omega)
   have ar:=F.heap (show wc.drew.heap[w.heap.size+1]?=_ from aq) (by simp;omega)
   have K4:(fun a:World=>ca a w.heap.size 0 (ii u.id)/\ca a n 0 (ii R.1)/\ca a n 1 (ii R.2)/\ca a g 149 (.map (some hb))) r:=⟨aB A,aB p,aB p,(H2 r P).2.2.2.2.2.2.2.2.2.2.2⟩
   have ap:MapF r b (fun _=>none):=(V.fr ((r0 [] wc).drew) (by simp)).fr F (by simp;exact fun e=>d.n6 e.symm)
   clear H2 K2 HM af al H ao ak ad
   go_wp2_with fail
   go_cut [] (fun K=>r=K)
   case first =>
    go_region_held (fun a:World=>ca a w.heap.size 0 (ii u.id)/\ca a n 0 (ii R.1)/\ca a n 1 (ii R.2)/\ca a g 149 (.map (some hb)))
     (first|exact K3|exact K4)
     (fail)
    all_goals
     go_wp2_with fail
     go_meet
     rfl
   case rest =>
    obtain rfl:=hcut
    have t0:ca r n 0 (ii R.1):=aB p
    have t1:ca r n 1 (ii R.2):=aB p
    have v3:ca r w.heap.size 3 (ii u.x):=aB A
    have v4:ca r w.heap.size 4 (ii u.y):=aB A
    have z3:r.frozen? ⟨w.heap.size,3,none⟩=false:=bI A
    have z4:r.frozen? ⟨w.heap.size,4,none⟩=false:=bI A
    have d7:¬ (n=w.heap.size):=by omega
    have au:¬ (w.heap.size=n):=by omega
    clear be Q V C q K3 K4 N ae aq F
    go_wp2_with fail
    go_region
    have aw:((r.setCell ⟨w.heap.size,3,none⟩ (.int .i64 R.1)).setCell ⟨w.heap.size,4,none⟩ (.int .i64 R.2)).drew.heap[w.heap.size]?=some (.cells (u.to R).arr 85):=zY A R.1 R.2
    have aj:((r.setCell ⟨w.heap.size,3,none⟩ (.int .i64 R.1)).setCell ⟨w.heap.size,4,none⟩ (.int .i64 R.2)).drew.heap[w.heap.size+1]?=some (.cells zeroU.arr 85):=by
     show ((r.setCell ⟨w.heap.size,3,none⟩ (.int .i64 R.1)).setCell ⟨w.heap.size,4,none⟩ (.int .i64 R.2)).heap[w.heap.size+1]?=_
     rw [Below.heap_setCell _ _ _ _ (by simp),Below.heap_setCell _ _ _ _ (by simp)];exact ar
    clear t0 t1 v3 v4 z3 z4 A ar p d7 au
    go_wp2_with (first|(refine wpList_load_row rfl 85 _ rfl w.heap.size rfl 85 (u.to R).arr (0,0) _ aw Tryz.underlying85 rfl aL ?_)|(refine wpList_store_row rfl 85 _ _ rfl (w.heap.size+1) (u.to R).arr rfl rfl 85 _ aj aL rfl (U.one _) ?_))
    have bf:Fr [hb,b] w r:=(E.mono (S':=[hb,b]) (by simp)).trans P (by simp)
    have I:Fr [w.heap.size,w.heap.size+1] r ((((r.setCell ⟨w.heap.size,3,none⟩ (.int .i64 R.1)).setCell ⟨w.heap.size,4,none⟩ (.int .i64 R.2)).drew).setRow (w.heap.size+1) (u.to R).arr) :=
     ((((r0 _ _).setCell _ _ (by simp)).setCell _ _ (by simp)).drew).setRow _ _ (by simp)
    have B:=bf.trans I (by simp)
    refine bodyPost_ret (v:=(u.to R).val) (results_cell_row Tryz.results202 _ _ (w.heap.size+1) 85 (u.to R).arr (0,0) _ rfl (setRow_heap _ _ _ (u.to R).arr _ _ aj) Tryz.underlying85 rfl aL) rfl ⟨rfl,B,?_⟩
    refine { d with cell:=?_,fz:=?_,row:=?_,held:=?_,ways:=?_ }
    ·intro k hk
     rw [B.cell g k d.lt (by simp;exact ⟨d.n2,d.n3⟩)]
     exact d.cell k hk
    ·intro k
     rw [B.frozen g k d.lt (by simp;exact ⟨d.n2,d.n3⟩)]
     exact d.fz k
    ·exact d.row.fr B (by simp;exact ⟨d.n4,d.n5⟩)
    ·have:=az.fr I (by simp;omega)
     have he:(fun k=>if k=(R.1,R.2) then some (ii u.id) else if k=(u.x,u.y) then none else bG t.held k)=bG (t.moved u R).held:=by
      funext k
      by_cases h1:k=R
      ·simp [bG,h1]
      have ai:¬ k=(R.1,R.2):=h1
      by_cases h2:k=(u.x,u.y)
      ·rw [if_neg ai,if_pos h2]
       show none=((if k=R then some u.id else if k=(u.x,u.y) then none else t.held k).map fun i=>ii i)
       rw [if_neg h1,if_pos h2]
       rfl
      rw [if_neg ai,if_neg h2]
      show bG t.held k=((if k=R then some u.id else if k=(u.x,u.y) then none else t.held k).map fun i=>ii i)
      rw [if_neg h1,if_neg h2]
     rw [<- he]
     exact this
    exact ap.fr I (by simp;omega)
