import Derived.Test.YtapabahhfanmmaaGreatDoorCGoB
namespace Go.Proofs.YtapabahhfanmmaaGreatDoor
open Go.RowKit List
set_option maxRecDepth 100000
set_option maxHeartbeats 4000000
theorem IQ (f pb aj hb b L:Nat)(t:T)(u:U)(gx gy:Int)(w:World)(h:TS w f pb aj hb b t)(bg:Sd w)(bf:aD u.x u.y=true)(af:w.cell? ⟨L,0,none⟩=some (ii gx))(ba:w.cell? ⟨L,1,none⟩=some (ii gy))(Zq:L≠b) :
  Cs 202 #[.pointer (so f),u.val,.func (.func 203) #[] #[.pointer (so L)]] w fun e a =>
   e=.returned (u.to (cQ (fun c=>bX (bG t.held) t.bd c.1 c.2) (fun c=>c.1==gx&&c.2==gy) (u.x,u.y))).val/\Fr [hb,b] w a/\TS a f pb aj hb b (t.moved u (cQ (fun c=>bX (bG t.held) t.bd c.1 c.2) (fun c=>c.1==gx&&c.2==gy) (u.x,u.y))):=by
 have hz:=h.z
 have av:=h.lt
 obtain ⟨j,B⟩:∃ W,W=(w.alloc (.cells u.arr 85)).alloc (.cells zeroU.arr 85):=⟨_,rfl⟩
 have bq:j.heap.size=w.heap.size+1+1:=by rw [B];simp
 have q:Fr [b] w j:=by rw [B];exact ((r0 _ _).alloc _).alloc _
 have aa:j.heap[w.heap.size]?=some (.cells u.arr 85):=by rw [B,dD]
 have ay:j.heap[w.heap.size+1]?=some (.cells zeroU.arr 85):=by rw [B,cR]
 have bj:=h.ways.lt
 have N:∀ a,Fr [b] j a->MapF a b (fun _=>none)->(fun a:World=>cl a w.heap.size 0 u.id/\cl a w.heap.size 1 u.owner/\cl a w.heap.size 2 u.kind/\cl a w.heap.size 3 u.x/\cl a w.heap.size 4 u.y/\cl a w.heap.size 5 u.life/\cl a w.heap.size 6 u.load/\cl a w.heap.size 7 u.what/\cl a w.heap.size 8 u.tox/\cl a w.heap.size 9 u.toy/\cl a w.heap.size 10 u.target/\ca a f 150 (.map (some b))/\MapF a b (fun _=>none)/\Fr [b] j a) a:=by
  intro a hf hm
  have l:=hf.heap aa (by simp;omega)
  have ac:a.cell? ⟨f,150,none⟩=some (.map (some b)):=((q.trans hf (by simp)).cell f 150 av (by simp;exact h.n3)).trans h.c150
  exact ⟨aB l,aB l,aB l,aB l,aB l,aB l,aB l,aB l,aB l,aB l,aB l,ac,hm,hf⟩
 have p:∀ a,(fun a:World=>dC w.heap.size u a (ca a f 150 (.map (some b))/\MapF a b (fun _=>none)/\Fr [b] j a)) a->Fr [b] j a:=fun a hs=>hs.2.2.2.2.2.2.2.2.2.2.2.2.2
 have MF:∀ a,(fun a:World=>dC w.heap.size u a (ca a f 150 (.map (some b))/\MapF a b (fun _=>none)/\Fr [b] j a)) a->MapF a b (fun _=>none):=fun a hs=>hs.2.2.2.2.2.2.2.2.2.2.2.2.1
 have SD:∀ a,(fun a:World=>a.cell? ⟨w.heap.size,0,none⟩=some (ii u.id)/\a.cell? ⟨w.heap.size,1,none⟩=some (ii u.owner)/\a.cell? ⟨w.heap.size,2,none⟩=some (ii u.kind)/\a.cell? ⟨w.heap.size,3,none⟩=some (ii u.x)/\a.cell? ⟨w.heap.size,4,none⟩=some (ii u.y)/\a.cell? ⟨w.heap.size,5,none⟩=some (ii u.life)/\a.cell? ⟨w.heap.size,6,none⟩=some (ii u.load)/\a.cell? ⟨w.heap.size,7,none⟩=some (ii u.what)/\a.cell? ⟨w.heap.size,8,none⟩=some (ii u.tox)/\a.cell? ⟨w.heap.size,9,none⟩=some (ii u.toy)/\a.cell? ⟨w.heap.size,10,none⟩=some (ii u.target)/\a.cell? ⟨f,150,none⟩=some (.map (some b))/\MapF a b (fun _=>none)/\Fr [b] j a) a->Sd a:=fun a hs=>bg.fr (q.trans (p a hs) (by simp)) (by simp;omega)
 have ai:∀ a,(fun a:World=>a.cell? ⟨w.heap.size,0,none⟩=some (ii u.id)/\a.cell? ⟨w.heap.size,1,none⟩=some (ii u.owner)/\a.cell? ⟨w.heap.size,2,none⟩=some (ii u.kind)/\a.cell? ⟨w.heap.size,3,none⟩=some (ii u.x)/\a.cell? ⟨w.heap.size,4,none⟩=some (ii u.y)/\a.cell? ⟨w.heap.size,5,none⟩=some (ii u.life)/\a.cell? ⟨w.heap.size,6,none⟩=some (ii u.load)/\a.cell? ⟨w.heap.size,7,none⟩=some (ii u.what)/\a.cell? ⟨w.heap.size,8,none⟩=some (ii u.tox)/\a.cell? ⟨w.heap.size,9,none⟩=some (ii u.toy)/\a.cell? ⟨w.heap.size,10,none⟩=some (ii u.target)/\a.cell? ⟨f,150,none⟩=some (.map (some b))/\MapF a b (fun _=>none)/\Fr [b] j a) a->TV a f hb (bG t.held) t.bd:=fun a hs=>h.tv.fr (q.trans (p a hs) (by simp)) (by simp;exact h.n3) (by simp;exact h.n6)
 have GX:∀ a,(fun a:World=>a.cell? ⟨w.heap.size,0,none⟩=some (ii u.id)/\a.cell? ⟨w.heap.size,1,none⟩=some (ii u.owner)/\a.cell? ⟨w.heap.size,2,none⟩=some (ii u.kind)/\a.cell? ⟨w.heap.size,3,none⟩=some (ii u.x)/\a.cell? ⟨w.heap.size,4,none⟩=some (ii u.y)/\a.cell? ⟨w.heap.size,5,none⟩=some (ii u.life)/\a.cell? ⟨w.heap.size,6,none⟩=some (ii u.load)/\a.cell? ⟨w.heap.size,7,none⟩=some (ii u.what)/\a.cell? ⟨w.heap.size,8,none⟩=some (ii u.tox)/\a.cell? ⟨w.heap.size,9,none⟩=some (ii u.toy)/\a.cell? ⟨w.heap.size,10,none⟩=some (ii u.target)/\a.cell? ⟨f,150,none⟩=some (.map (some b))/\MapF a b (fun _=>none)/\Fr [b] j a) a->a.cell? ⟨L,0,none⟩=some (ii gx):=fun a hs=>((q.trans (p a hs) (by simp)).cell L 0 (aI af) (by simp;omega)).trans af
 have GY:∀ a,(fun a:World=>a.cell? ⟨w.heap.size,0,none⟩=some (ii u.id)/\a.cell? ⟨w.heap.size,1,none⟩=some (ii u.owner)/\a.cell? ⟨w.heap.size,2,none⟩=some (ii u.kind)/\a.cell? ⟨w.heap.size,3,none⟩=some (ii u.x)/\a.cell? ⟨w.heap.size,4,none⟩=some (ii u.y)/\a.cell? ⟨w.heap.size,5,none⟩=some (ii u.life)/\a.cell? ⟨w.heap.size,6,none⟩=some (ii u.load)/\a.cell? ⟨w.heap.size,7,none⟩=some (ii u.what)/\a.cell? ⟨w.heap.size,8,none⟩=some (ii u.tox)/\a.cell? ⟨w.heap.size,9,none⟩=some (ii u.toy)/\a.cell? ⟨w.heap.size,10,none⟩=some (ii u.target)/\a.cell? ⟨f,150,none⟩=some (.map (some b))/\MapF a b (fun _=>none)/\Fr [b] j a) a->a.cell? ⟨L,1,none⟩=some (ii gy):=fun a hs=>((q.trans (p a hs) (by simp)).cell L 1 (aI af) (by simp;omega)).trans ba
 have HW:=aA B
 have K0:(fun a:World=>dC w.heap.size u a (ca a f 150 (.map (some b))/\MapF a b (fun _=>none)/\Fr [b] j a)) (((w.alloc (.cells u.arr 85)).alloc (.cells zeroU.arr 85)).drew):=by
  refine N _ ?_ (h.ways.fr ((((r0 [] w).alloc _).alloc _).drew) (by simp))
  rw [B];exact (r0 _ _).drew
 have aw:=aA h
 have KF:=p _ K0
 have KM:=MF _ K0
 clear B
 have q1:¬ (w.heap.size+1+1=b):=by omega
 obtain ⟨R,hR⟩:∃ R,cQ (fun c=>bX (bG t.held) t.bd c.1 c.2) (fun c=>c.1==gx&&c.2==gy) (u.x,u.y)=R:=⟨_,rfl⟩
 have HR:=aA hR
 rw [hR]
 clear hR
 go_enter Tryz.func202,Tryz.ntmps202
 go_wp2_with fail
 go_cut [7] (fun s7 K=>∃ n:Nat,s7=.pointer (so n)/\K.heap[n]?=some (.cells #[ii R.1,ii R.2] 159)/\w.heap.size+1 < n/\Fr [b] j K/\MapF K b (fun _=>none))
 case first =>
  go_region_held (fun a:World=>dC w.heap.size u a (ca a f 150 (.map (some b))/\MapF a b (fun _=>none)/\Fr [b] j a))
   (first|exact K0|exact N _ m J|exact N _ (m.alloc _) (J.alloc _)|exact N _ P V|exact N _ (P.alloc _) (V.alloc _)|exact N _ (KF.alloc _) (KM.alloc _)|exact N _ ((m.setCell _ _ (.inr (by simp;omega))).setCell _ _ (.inr (by simp;omega))) ((J.setCell _ _ (by simp;omega)).setCell _ _ (by simp;omega)))
   (first|(go_at_call 192;refine (gU u _).mono ?_;rintro e Y ⟨rfl,g⟩;obtain ⟨bo,br⟩:=g.cells0;have q2:¬ (Y.heap.size=b):=(by have:=g.size;simp at this;omega);have q4:w.heap.size+1+1<=Y.heap.size:=(by have:=g.size;simp at this;omega);(first|(have q3:w.heap.size+1+1 < Y.heap.size:=(by have:=g.size;simp at this;omega))|skip);have P:Fr [b] j Y:=Fr.then0 (p _ (by assumption)) g;have V:MapF Y b (fun _=>none):=MapF.fr (MF _ (by assumption)) g (by simp))|(go_at_call 220;refine (SO f hb b L (bG t.held) t.bd u.x u.y gx gy _ (SD _ (by assumption)) (ai _ (by assumption)) (MF _ (by assumption)) (by omega) h.n3 h.n6 bf (GX _ (by assumption)) (GY _ (by assumption)) Zq).mono ?_;rintro e w2 ⟨rfl,M,J⟩;rw [HR.o];obtain ⟨bp,bs⟩:=M.cells1;have m:Fr [b] j w2:=Fr.trans (p _ (by assumption)) M (by simp)))
  all_goals
   go_wp2_with fail
   go_meet
   refine ⟨_,rfl,?_,?_,?_,?_⟩
   ·first
    | with_reducible exact aC _ _
    | with_reducible exact pB (M.heap (aC Y _) (by simp;omega)) _ _
    | with_reducible exact pB (M.heap (g.heap0 (iI w _ _ _)) (by simp;omega)) _ _
   ·have:=m.size
    omega
   ·first
    | with_reducible exact m.alloc _
    | with_reducible exact (m.setCell _ _ (.inr (by simp;omega))).setCell _ _ (.inr (by simp;omega))
   first
   | with_reducible exact J.alloc _
   | with_reducible exact (J.setCell _ _ (by simp;omega)).setCell _ _ (by simp;omega)
 case rest =>
  obtain ⟨n,rfl,am,bm,ae,aq⟩:=hcut
  have an:Fr [b] w wc:=q.trans ae (by simp)
  have d:=aw.o
  have HM:=d.held.fr an (by simp;exact d.n6)
  have H:Fr [hb,b] j wc:=ae.mono (by simp)
  have bl:=d.held.lt
  have H2:∀ a,Fr [hb,b] j a->(fun a:World=>a.cell? ⟨w.heap.size,0,none⟩=some (ii u.id)/\a.cell? ⟨w.heap.size,1,none⟩=some (ii u.owner)/\a.cell? ⟨w.heap.size,2,none⟩=some (ii u.kind)/\a.cell? ⟨w.heap.size,3,none⟩=some (ii u.x)/\a.cell? ⟨w.heap.size,4,none⟩=some (ii u.y)/\a.cell? ⟨w.heap.size,5,none⟩=some (ii u.life)/\a.cell? ⟨w.heap.size,6,none⟩=some (ii u.load)/\a.cell? ⟨w.heap.size,7,none⟩=some (ii u.what)/\a.cell? ⟨w.heap.size,8,none⟩=some (ii u.tox)/\a.cell? ⟨w.heap.size,9,none⟩=some (ii u.toy)/\a.cell? ⟨w.heap.size,10,none⟩=some (ii u.target)/\a.cell? ⟨f,149,none⟩=some (.map (some hb))) a:=by
   intro a hf
   have l:=hf.heap aa (by simp;omega)
   have ab:a.cell? ⟨f,149,none⟩=some (.map (some hb)):=((q.mono (S':=[hb,b]) (by simp)).trans hf (by simp)).cell f 149 av (by simp;exact ⟨d.n2,d.n3⟩) |>.trans d.tv.c
   exact ⟨aB l,aB l,aB l,aB l,aB l,aB l,aB l,aB l,aB l,aB l,aB l,ab⟩
  have K2:=H2 wc.drew H.drew
  have ah:MapF wc.drew hb (bG t.held):=HM.fr ((r0 [] wc).drew) (by simp)
  clear N p MF SD ai GX GY K0 KF KM h q1
  go_wp2_with fail
  go_cut [] (fun K=>Fr [hb,b] j K/\MapF K hb (fun k=>if k=(u.x,u.y) then none else bG t.held k)/\MapF K b (fun _=>none)/\K.heap[n]?=some (.cells #[ii R.1,ii R.2] 159))
  case first =>
   go_region_held (fun a:World=>dC w.heap.size u a (ca a f 149 (.map (some hb))))
    (first|exact K2|exact H2 _ ao|exact H2 _ ap)
    (first|(go_at_call 192;refine (gU u _).mono ?_;rintro e Y ⟨rfl,g⟩;have ao:Fr [hb,b] j Y:=H.drew.then0 g;obtain ⟨wd,bk,bc,ad⟩:=qJ (ah.fr g (by simp)) 205 0 159 3 Tryz.underlying205 u.x u.y;have ap:Fr [hb,b] j wd:=ao.trans ad (by simp)))
   all_goals
    go_wp2_with fail
    go_meet
    exact ⟨ap,bc,(aq.fr ((r0 [] wc).drew.then0 g) (by simp)).fr ad (by simp;exact fun e=>d.n6 e.symm),ad.heap (g.heap0 (show wc.drew.heap[n]?=_ from am)) (by simp;omega)⟩
  case rest =>
   obtain ⟨s,S,X,E⟩:=hcut
   have ag:=s.heap aa (by simp;omega)
   have Zr:=s.heap ay (by simp;omega)
   obtain ⟨A,bh,be,F,bn⟩:=kB (S.fr ((r0 [] wc).drew) (by simp)) 205 3 Tryz.underlying205 R.1 R.2 (ii u.id)
   have Q:Fr [hb,b] j A:=s.drew.trans F (by simp)
   have O:ca wc f 149 (.map (some hb)):=(H2 wc s).2.2.2.2.2.2.2.2.2.2.2
   have K3:(fun a:World=>ca a w.heap.size 0 (ii u.id)/\ca a n 0 (ii R.1)/\ca a n 1 (ii R.2)/\ca a f 149 (.map (some hb))) wc.drew:=⟨aB (show wc.drew.heap[w.heap.size]?=_ from ag),aB (show wc.drew.heap[n]?=_ from E),aB (show wc.drew.heap[n]?=_ from E),O⟩
   have r:=F.heap (show wc.drew.heap[n]?=_ from E) (by simp;omega)
   have C:=F.heap (show wc.drew.heap[w.heap.size]?=_ from ag) (by simp;omega)
   have au:=F.heap (show wc.drew.heap[w.heap.size+1]?=_ from Zr) (by simp;omega)
   have K4:(fun a:World=>ca a w.heap.size 0 (ii u.id)/\ca a n 0 (ii R.1)/\ca a n 1 (ii R.2)/\ca a f 149 (.map (some hb))) A:=⟨aB C,aB r,aB r,(H2 A Q).2.2.2.2.2.2.2.2.2.2.2⟩
   have ar:MapF A b (fun _=>none):=(X.fr ((r0 [] wc).drew) (by simp)).fr F (by simp;exact fun e=>d.n6 e.symm)
   clear H2 K2 HM ah an H aq am ae
   go_wp2_with fail
   go_cut [] (fun K=>A=K)
   case first =>
    go_region_held (fun a:World=>ca a w.heap.size 0 (ii u.id)/\ca a n 0 (ii R.1)/\ca a n 1 (ii R.2)/\ca a f 149 (.map (some hb)))
     (first|exact K3|exact K4)
     (fail)
    all_goals
     go_wp2_with fail
     go_meet
     rfl
   case rest =>
    obtain rfl:=hcut
    have t0:ca A n 0 (ii R.1):=aB r
    have t1:ca A n 1 (ii R.2):=aB r
    have v3:ca A w.heap.size 3 (ii u.x):=aB C
    have v4:ca A w.heap.size 4 (ii u.y):=aB C
    have z3:A.frozen? ⟨w.heap.size,3,none⟩=false:=bI C
    have z4:A.frozen? ⟨w.heap.size,4,none⟩=false:=bI C
    have d7:¬ (n=w.heap.size):=by omega
    have ax:¬ (w.heap.size=n):=by omega
    clear bh S X E s K3 K4 O ag Zr F
    go_wp2_with fail
    go_region
    have az:((A.setCell ⟨w.heap.size,3,none⟩ (.int .i64 R.1)).setCell ⟨w.heap.size,4,none⟩ (.int .i64 R.2)).drew.heap[w.heap.size]?=some (.cells (u.to R).arr 85):=zY C R.1 R.2
    have al:((A.setCell ⟨w.heap.size,3,none⟩ (.int .i64 R.1)).setCell ⟨w.heap.size,4,none⟩ (.int .i64 R.2)).drew.heap[w.heap.size+1]?=some (.cells zeroU.arr 85):=by
     show ((A.setCell ⟨w.heap.size,3,none⟩ (.int .i64 R.1)).setCell ⟨w.heap.size,4,none⟩ (.int .i64 R.2)).heap[w.heap.size+1]?=_
     rw [Below.heap_setCell _ _ _ _ (by simp),Below.heap_setCell _ _ _ _ (by simp)];exact au
    clear t0 t1 v3 v4 z3 z4 C au r d7 ax
    go_wp2_with (first|(refine wpList_load_row rfl 85 _ rfl w.heap.size rfl 85 (u.to R).arr (0,0) _ az Tryz.underlying85 rfl aL ?_)|(refine wpList_store_row rfl 85 _ _ rfl (w.heap.size+1) (u.to R).arr rfl rfl 85 _ al aL rfl (U.one _) ?_))
    have bi:Fr [hb,b] w A:=(q.mono (S':=[hb,b]) (by simp)).trans Q (by simp)
    have I:Fr [w.heap.size,w.heap.size+1] A ((((A.setCell ⟨w.heap.size,3,none⟩ (.int .i64 R.1)).setCell ⟨w.heap.size,4,none⟩ (.int .i64 R.2)).drew).setRow (w.heap.size+1) (u.to R).arr) :=
     ((((r0 _ _).setCell _ _ (by simp)).setCell _ _ (by simp)).drew).setRow _ _ (by simp)
    have D:=bi.trans I (by simp)
    refine bodyPost_ret (v:=(u.to R).val) (results_cell_row Tryz.results202 _ _ (w.heap.size+1) 85 (u.to R).arr (0,0) _ rfl (setRow_heap _ _ _ (u.to R).arr _ _ al) Tryz.underlying85 rfl aL) rfl ⟨rfl,D,?_⟩
    refine { d with cell:=?_,fz:=?_,row:=?_,held:=?_,ways:=?_ }
    ·intro k hk
     rw [D.cell f k d.lt (by simp;exact ⟨d.n2,d.n3⟩)]
     exact d.cell k hk
    ·intro k
     rw [D.frozen f k d.lt (by simp;exact ⟨d.n2,d.n3⟩)]
     exact d.fz k
    ·exact d.row.fr D (by simp;exact ⟨d.n4,d.n5⟩)
    ·have:=be.fr I (by simp;omega)
     have he:(fun k=>if k=(R.1,R.2) then some (ii u.id) else if k=(u.x,u.y) then none else bG t.held k)=bG (t.moved u R).held:=by
      funext k
      by_cases h1:k=R
      ·simp [bG,h1]
      have ak:¬ k=(R.1,R.2):=h1
      by_cases h2:k=(u.x,u.y)
      ·rw [if_neg ak,if_pos h2]
       show none=((if k=R then some u.id else if k=(u.x,u.y) then none else t.held k).map fun i=>ii i)
       rw [if_neg h1,if_pos h2]
       rfl
      rw [if_neg ak,if_neg h2]
      show bG t.held k=((if k=R then some u.id else if k=(u.x,u.y) then none else t.held k).map fun i=>ii i)
      rw [if_neg h1,if_neg h2]
     rw [<- he]
     exact this
    exact ar.fr I (by simp;omega)
def cE (t:T)(u:U)(ends:Cl->Bool):Cl:=cQ (fun c=>bX (bG t.held) t.bd c.1 c.2) ends (u.x,u.y)
def eZ (t:T)(u:U):U×T :=
 if (u.x==u.tox&&u.y==u.toy)=true then (u.idle,t)
 else (u.to (cE t u fun c=>c.1==u.tox&&c.2==u.toy),t.moved u (cE t u fun c=>c.1==u.tox&&c.2==u.toy))
theorem LL (F R s hb A:Nat)(t:T)(u:U)(w:World)(h:TS w F R s hb A t)(N:Sd w)(L:aD u.x u.y=true) :
  Cs 159 #[.pointer (so F),u.val] w fun e a =>
   e=.returned (eZ t u).1.val/\Fr [hb,A] w a/\TS a F R s hb A (eZ t u).2:=by
 obtain ⟨B,J⟩:∃ B,(u.x==u.tox&&u.y==u.toy)=B:=⟨_,rfl⟩
 have hq:∀ w0:World,(binOp BinOp.eql 159 (cv u.x u.y) (cv u.tox u.toy)).run Tryz.prog w0=.ok (.bool B) w0:=fun w0=>by rw [qL,J]
 have M:=fun (x y:Operand) (w0:World)=>vW x y u.x u.y u.tox u.toy w0
 have V:=aA J
 clear J
 obtain ⟨k,d⟩:∃ W,W=((w.alloc (.cells u.arr 85)).alloc (.cells zeroU.arr 85)).alloc (.cells #[ii u.tox,ii u.toy] 159):=⟨_,rfl⟩
 have ac:k.heap.size=w.heap.size+1+1+1:=by rw [d];simp
 have I:Fr [] w k:=by rw [d];exact (((r0 _ _).alloc _).alloc _).alloc _
 have hU:k.heap[w.heap.size]?=some (.cells u.arr 85):=by rw [d,fD _ _ _ (by simp;omega),dD]
 have hR:k.heap[w.heap.size+1]?=some (.cells zeroU.arr 85):=by rw [d,fD _ _ _ (by simp),cR]
 have hG:k.heap[w.heap.size+1+1]?=some (.cells #[ii u.tox,ii u.toy] 159):=by rw [d,iI]
 have H:∀ a,Fr [] k a->(fun a:World=>cl a w.heap.size 0 u.id/\cl a w.heap.size 1 u.owner/\cl a w.heap.size 2 u.kind/\cl a w.heap.size 3 u.x/\cl a w.heap.size 4 u.y/\cl a w.heap.size 5 u.life/\cl a w.heap.size 6 u.load/\cl a w.heap.size 7 u.what/\cl a w.heap.size 8 u.tox/\cl a w.heap.size 9 u.toy/\cl a w.heap.size 10 u.target/\cl a (w.heap.size+1+1) 0 u.tox/\cl a (w.heap.size+1+1) 1 u.toy) a:=by
  intro a hf
  have j:=hf.heap0 hU
  have hg:=hf.heap0 hG
  exact ⟨aB j,aB j,aB j,aB j,aB j,aB j,aB j,aB j,aB j,aB j,aB j,aB hg,aB hg⟩
 have KF:Fr [] k ((((w.alloc (.cells u.arr 85)).alloc (.cells zeroU.arr 85)).alloc (.cells #[ii u.tox,ii u.toy] 159)).drew):=by rw [d];exact (r0 _ _).drew
 have Y:=H _ KF
 clear d
 go_enter Tryz.func159,Tryz.ntmps159
 go_wp2_with fail
 go_cut [14] (fun S wx=>S=.bool B/\Fr [] k wx)
 case first =>
  go_region_held (fun a:World=>dC w.heap.size u a (ca a (w.heap.size+1+1) 0 (ii u.tox)/\ca a (w.heap.size+1+1) 1 (ii u.toy)))
   (first|exact Y|exact H _ r)
   (first|(go_at_call 192;refine (gU u _).mono ?_;rintro e w1 ⟨rfl,K⟩;have r:Fr [] k w1:=KF.then0 K))
  all_goals
   go_wp2_with fail
   go_meet
   exact ⟨rfl,r⟩
 case rest =>
  obtain ⟨rfl,l⟩:=hcut
  have p:=l.heap0 hU
  have n:=l.heap0 hR
  have m:=l.heap0 hG
  have q:=I.then0 l
  have hl:=aH n
  have X:=aA n
  clear Y H hq M
  have hz:=h.z
  have aa:=h.ways.lt
  have ab:=h.held.lt
  have D:=h.fr0 q
  have O:=N.fr0 q
  cases B
  ·have b:eZ t u=(u.to (cE t u fun c=>c.1==u.tox&&c.2==u.toy),t.moved u (cE t u fun c=>c.1==u.tox&&c.2==u.toy)):=by unfold eZ;rw [V.o];rfl
   have C:=aA b
   clear b n
   go_wp2_with (refine wpList_load_row rfl 85 _ rfl w.heap.size rfl 85 u.arr (0,0) _ p Tryz.underlying85 rfl aL ?_)
   refine (IQ F R s hb A (w.heap.size+1+1) t u u.tox u.toy _ D O L (aB m) (aB m) (by omega)).mono ?_
   rintro e E ⟨rfl,f,P⟩
   have i:=f.heap X.o (by simp;omega)
   obtain ⟨v,Q⟩:∃ v,v=u.to (cQ (fun c=>bX (bG t.held) t.bd c.1 c.2) (fun c=>c.1==u.tox&&c.2==u.toy) (u.x,u.y)):=⟨_,rfl⟩
   rw [<- Q]
   have HV:=aA Q
   clear Q p m
   go_wp2_with (refine wpList_store_row rfl 85 _ _ rfl (w.heap.size+1) v.arr rfl rfl 85 _ i aL rfl (U.one _) ?_)
   have g:Fr [hb,A] w (E.setRow (w.heap.size+1) v.arr):=(q.of0.trans f (by simp)).setRow _ _ (.inr (by omega))
   refine bodyPost_ret (v:=v.val) (results_cell_row Tryz.results159 _ _ (w.heap.size+1) 85 v.arr (0,0) _ rfl (setRow_heap _ _ _ v.arr _ _ i) Tryz.underlying85 rfl aL) rfl ⟨?_,g,?_⟩
   ·rw [C.o,HV.o];rfl
   rw [C.o]
   exact P.fr ((r0 [w.heap.size+1] E).setRow _ _ (by simp)) (by simp;have:=h.lt;omega) (by simp;have:=h.row.lt;omega) (by simp;omega) (by simp;omega)
  have b:eZ t u=(u.idle,t):=by unfold eZ;rw [V.o];rfl
  have C:=aA b
  clear b n
  go_wp2_with (refine wpList_load_row rfl 85 _ rfl w.heap.size rfl 85 u.arr (0,0) _ p Tryz.underlying85 rfl aL ?_)
  refine (oC u _).mono ?_
  rintro e E ⟨rfl,f⟩
  have i:=f.heap X.o (by simp)
  clear p m
  go_wp2_with (refine wpList_store_row rfl 85 _ _ rfl (w.heap.size+1) u.idle.arr rfl rfl 85 _ i aL rfl (U.one _) ?_)
  have g:Fr [hb,A] w (E.setRow (w.heap.size+1) u.idle.arr):=(q.then0 f).of0.setRow _ _ (.inr (by omega))
  refine bodyPost_ret (v:=u.idle.val) (results_cell_row Tryz.results159 _ _ (w.heap.size+1) 85 u.idle.arr (0,0) _ rfl (setRow_heap _ _ _ u.idle.arr _ _ i) Tryz.underlying85 rfl aL) rfl ⟨?_,g,?_⟩
  ·rw [C.o]
  rw [C.o]
  exact (D.fr0 f).fr ((r0 [w.heap.size+1] E).setRow _ _ (by simp)) (by simp;have:=h.lt;omega) (by simp;have:=h.row.lt;omega) (by simp;omega) (by simp;omega)
