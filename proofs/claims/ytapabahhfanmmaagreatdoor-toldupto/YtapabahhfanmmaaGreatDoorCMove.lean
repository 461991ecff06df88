import Derived.Test.YtapabahhfanmmaaGreatDoorCGoB
namespace Go.Proofs.YtapabahhfanmmaaGreatDoor
open Go.RowKit
set_option maxRecDepth 100000
set_option maxHeartbeats 4000000
theorem qqj3 (tb pb cap hb bb eb:Nat)(t:T)(u:U)(gx gy:Int)(w:World)(h:TS w tb pb cap hb bb t)(hsd:Sd w)(hon:onB u.x u.y=true)(hgx:w.cell? ⟨eb,0,none⟩=some (ii gx))(hgy:w.cell? ⟨eb,1,none⟩=some (ii gy))(hne3:eb≠bb) :
  Calls Tryz.prog 202 #[.pointer (some ⟨tb,0,none⟩),u.val,.func (.func 203) #[] #[.pointer (some ⟨eb,0,none⟩)]] w fun e w' =>
   e=.returned (u.to (bfs (fun c=>qv3 (qx2 t.held) t.bd c.1 c.2) (fun c=>c.1==gx&&c.2==gy) (u.x,u.y))).val/\Fr [hb,bb] w w'/\TS w' tb pb cap hb bb (t.moved u (bfs (fun c=>qv3 (qx2 t.held) t.bd c.1 c.2) (fun c=>c.1==gx&&c.2==gy) (u.x,u.y))):=by
 have hz:=h.z
 have htb:=h.lt
 obtain ⟨W2,hW2⟩:∃ W,W=(w.alloc (.cells u.arr 85)).alloc (.cells zeroU.arr 85):=⟨_,rfl⟩
 have hs2:W2.heap.size=w.heap.size+1+1:=by rw [hW2];simp
 have h02:Fr [bb] w W2:=by rw [hW2];exact ((Fr.refl _ _).alloc _).alloc _
 have hU2:W2.heap[w.heap.size]?=some (.cells u.arr 85):=by rw [hW2,qz8]
 have hR2:W2.heap[w.heap.size+1]?=some (.cells zeroU.arr 85):=by rw [hW2,qz4]
 have hbbl:=h.ways.lt
 have HS:∀ w',Fr [bb] W2 w'->MapF w' bb (fun _=>none)->(fun w':World=>cl w' w.heap.size 0 u.id/\cl w' w.heap.size 1 u.owner/\cl w' w.heap.size 2 u.kind/\cl w' w.heap.size 3 u.x/\cl w' w.heap.size 4 u.y/\cl w' w.heap.size 5 u.life/\cl w' w.heap.size 6 u.load/\cl w' w.heap.size 7 u.what/\cl w' w.heap.size 8 u.tox/\cl w' w.heap.size 9 u.toy/\cl w' w.heap.size 10 u.target/\w'.cell? ⟨tb,150,none⟩=some (.map (some bb))/\MapF w' bb (fun _=>none)/\Fr [bb] W2 w') w':=by
  intro w' hf hm
  have hu:=hf.heap hU2 (by simp;omega)
  have hc150:w'.cell? ⟨tb,150,none⟩=some (.map (some bb)):=((h02.trans hf (by simp)).cell tb 150 htb (by simp;exact h.n3)).trans h.c150
  exact ⟨j9 hu,j9 hu,j9 hu,j9 hu,j9 hu,j9 hu,j9 hu,j9 hu,j9 hu,j9 hu,j9 hu,hc150,hm,hf⟩
 have HFR:∀ w',(fun w':World=>w'.cell? ⟨w.heap.size,0,none⟩=some (ii u.id)/\w'.cell? ⟨w.heap.size,1,none⟩=some (ii u.owner)/\w'.cell? ⟨w.heap.size,2,none⟩=some (ii u.kind)/\w'.cell? ⟨w.heap.size,3,none⟩=some (ii u.x)/\w'.cell? ⟨w.heap.size,4,none⟩=some (ii u.y)/\w'.cell? ⟨w.heap.size,5,none⟩=some (ii u.life)/\w'.cell? ⟨w.heap.size,6,none⟩=some (ii u.load)/\w'.cell? ⟨w.heap.size,7,none⟩=some (ii u.what)/\w'.cell? ⟨w.heap.size,8,none⟩=some (ii u.tox)/\w'.cell? ⟨w.heap.size,9,none⟩=some (ii u.toy)/\w'.cell? ⟨w.heap.size,10,none⟩=some (ii u.target)/\w'.cell? ⟨tb,150,none⟩=some (.map (some bb))/\MapF w' bb (fun _=>none)/\Fr [bb] W2 w') w'->Fr [bb] W2 w':=fun w' hs=>hs.2.2.2.2.2.2.2.2.2.2.2.2.2
 have MF:∀ w',(fun w':World=>w'.cell? ⟨w.heap.size,0,none⟩=some (ii u.id)/\w'.cell? ⟨w.heap.size,1,none⟩=some (ii u.owner)/\w'.cell? ⟨w.heap.size,2,none⟩=some (ii u.kind)/\w'.cell? ⟨w.heap.size,3,none⟩=some (ii u.x)/\w'.cell? ⟨w.heap.size,4,none⟩=some (ii u.y)/\w'.cell? ⟨w.heap.size,5,none⟩=some (ii u.life)/\w'.cell? ⟨w.heap.size,6,none⟩=some (ii u.load)/\w'.cell? ⟨w.heap.size,7,none⟩=some (ii u.what)/\w'.cell? ⟨w.heap.size,8,none⟩=some (ii u.tox)/\w'.cell? ⟨w.heap.size,9,none⟩=some (ii u.toy)/\w'.cell? ⟨w.heap.size,10,none⟩=some (ii u.target)/\w'.cell? ⟨tb,150,none⟩=some (.map (some bb))/\MapF w' bb (fun _=>none)/\Fr [bb] W2 w') w'->MapF w' bb (fun _=>none):=fun w' hs=>hs.2.2.2.2.2.2.2.2.2.2.2.2.1
 have SD:∀ w',(fun w':World=>w'.cell? ⟨w.heap.size,0,none⟩=some (ii u.id)/\w'.cell? ⟨w.heap.size,1,none⟩=some (ii u.owner)/\w'.cell? ⟨w.heap.size,2,none⟩=some (ii u.kind)/\w'.cell? ⟨w.heap.size,3,none⟩=some (ii u.x)/\w'.cell? ⟨w.heap.size,4,none⟩=some (ii u.y)/\w'.cell? ⟨w.heap.size,5,none⟩=some (ii u.life)/\w'.cell? ⟨w.heap.size,6,none⟩=some (ii u.load)/\w'.cell? ⟨w.heap.size,7,none⟩=some (ii u.what)/\w'.cell? ⟨w.heap.size,8,none⟩=some (ii u.tox)/\w'.cell? ⟨w.heap.size,9,none⟩=some (ii u.toy)/\w'.cell? ⟨w.heap.size,10,none⟩=some (ii u.target)/\w'.cell? ⟨tb,150,none⟩=some (.map (some bb))/\MapF w' bb (fun _=>none)/\Fr [bb] W2 w') w'->Sd w':=fun w' hs=>hsd.fr (h02.trans (HFR w' hs) (by simp)) (by simp;omega)
 have TVV:∀ w',(fun w':World=>w'.cell? ⟨w.heap.size,0,none⟩=some (ii u.id)/\w'.cell? ⟨w.heap.size,1,none⟩=some (ii u.owner)/\w'.cell? ⟨w.heap.size,2,none⟩=some (ii u.kind)/\w'.cell? ⟨w.heap.size,3,none⟩=some (ii u.x)/\w'.cell? ⟨w.heap.size,4,none⟩=some (ii u.y)/\w'.cell? ⟨w.heap.size,5,none⟩=some (ii u.life)/\w'.cell? ⟨w.heap.size,6,none⟩=some (ii u.load)/\w'.cell? ⟨w.heap.size,7,none⟩=some (ii u.what)/\w'.cell? ⟨w.heap.size,8,none⟩=some (ii u.tox)/\w'.cell? ⟨w.heap.size,9,none⟩=some (ii u.toy)/\w'.cell? ⟨w.heap.size,10,none⟩=some (ii u.target)/\w'.cell? ⟨tb,150,none⟩=some (.map (some bb))/\MapF w' bb (fun _=>none)/\Fr [bb] W2 w') w'->TV w' tb hb (qx2 t.held) t.bd:=fun w' hs=>h.tv.fr (h02.trans (HFR w' hs) (by simp)) (by simp;exact h.n3) (by simp;exact h.n6)
 have GX:∀ w',(fun w':World=>w'.cell? ⟨w.heap.size,0,none⟩=some (ii u.id)/\w'.cell? ⟨w.heap.size,1,none⟩=some (ii u.owner)/\w'.cell? ⟨w.heap.size,2,none⟩=some (ii u.kind)/\w'.cell? ⟨w.heap.size,3,none⟩=some (ii u.x)/\w'.cell? ⟨w.heap.size,4,none⟩=some (ii u.y)/\w'.cell? ⟨w.heap.size,5,none⟩=some (ii u.life)/\w'.cell? ⟨w.heap.size,6,none⟩=some (ii u.load)/\w'.cell? ⟨w.heap.size,7,none⟩=some (ii u.what)/\w'.cell? ⟨w.heap.size,8,none⟩=some (ii u.tox)/\w'.cell? ⟨w.heap.size,9,none⟩=some (ii u.toy)/\w'.cell? ⟨w.heap.size,10,none⟩=some (ii u.target)/\w'.cell? ⟨tb,150,none⟩=some (.map (some bb))/\MapF w' bb (fun _=>none)/\Fr [bb] W2 w') w'->w'.cell? ⟨eb,0,none⟩=some (ii gx):=fun w' hs=>((h02.trans (HFR w' hs) (by simp)).cell eb 0 (qq1 hgx) (by simp;omega)).trans hgx
 have GY:∀ w',(fun w':World=>w'.cell? ⟨w.heap.size,0,none⟩=some (ii u.id)/\w'.cell? ⟨w.heap.size,1,none⟩=some (ii u.owner)/\w'.cell? ⟨w.heap.size,2,none⟩=some (ii u.kind)/\w'.cell? ⟨w.heap.size,3,none⟩=some (ii u.x)/\w'.cell? ⟨w.heap.size,4,none⟩=some (ii u.y)/\w'.cell? ⟨w.heap.size,5,none⟩=some (ii u.life)/\w'.cell? ⟨w.heap.size,6,none⟩=some (ii u.load)/\w'.cell? ⟨w.heap.size,7,none⟩=some (ii u.what)/\w'.cell? ⟨w.heap.size,8,none⟩=some (ii u.tox)/\w'.cell? ⟨w.heap.size,9,none⟩=some (ii u.toy)/\w'.cell? ⟨w.heap.size,10,none⟩=some (ii u.target)/\w'.cell? ⟨tb,150,none⟩=some (.map (some bb))/\MapF w' bb (fun _=>none)/\Fr [bb] W2 w') w'->w'.cell? ⟨eb,1,none⟩=some (ii gy):=fun w' hs=>((h02.trans (HFR w' hs) (by simp)).cell eb 1 (qq1 hgx) (by simp;omega)).trans hgy
 have HW:=hid hW2
 have K0:(fun w':World=>cl w' w.heap.size 0 u.id/\cl w' w.heap.size 1 u.owner/\cl w' w.heap.size 2 u.kind/\cl w' w.heap.size 3 u.x/\cl w' w.heap.size 4 u.y/\cl w' w.heap.size 5 u.life/\cl w' w.heap.size 6 u.load/\cl w' w.heap.size 7 u.what/\cl w' w.heap.size 8 u.tox/\cl w' w.heap.size 9 u.toy/\cl w' w.heap.size 10 u.target/\w'.cell? ⟨tb,150,none⟩=some (.map (some bb))/\MapF w' bb (fun _=>none)/\Fr [bb] W2 w') (((w.alloc (.cells u.arr 85)).alloc (.cells zeroU.arr 85)).drew):=by
  refine HS _ ?_ (h.ways.fr ((((Fr.refl [] w).alloc _).alloc _).drew) (by simp))
  rw [hW2];exact (Fr.refl _ _).drew
 have HST:=hid h
 have KF:=HFR _ K0
 have KM:=MF _ K0
 clear hW2
 have q1:¬ (w.heap.size+1+1=bb):=by omega
 obtain ⟨R,hR⟩:∃ R,bfs (fun c=>qv3 (qx2 t.held) t.bd c.1 c.2) (fun c=>c.1==gx&&c.2==gy) (u.x,u.y)=R:=⟨_,rfl⟩
 have HR:=hid hR
 rw [hR]
 clear hR
 go_enter Tryz.func202,Tryz.ntmps202
 go_wp2_with fail
 go_cut [7] (fun s7 wx=>∃ b7:Nat,s7=.pointer (some ⟨b7,0,none⟩)/\wx.heap[b7]?=some (.cells #[ii R.1,ii R.2] 159)/\w.heap.size+1 < b7/\Fr [bb] W2 wx/\MapF wx bb (fun _=>none))
 case first =>
  go_region_held (fun w':World=>w'.cell? ⟨w.heap.size,0,none⟩=some (ii u.id)/\w'.cell? ⟨w.heap.size,1,none⟩=some (ii u.owner)/\w'.cell? ⟨w.heap.size,2,none⟩=some (ii u.kind)/\w'.cell? ⟨w.heap.size,3,none⟩=some (ii u.x)/\w'.cell? ⟨w.heap.size,4,none⟩=some (ii u.y)/\w'.cell? ⟨w.heap.size,5,none⟩=some (ii u.life)/\w'.cell? ⟨w.heap.size,6,none⟩=some (ii u.load)/\w'.cell? ⟨w.heap.size,7,none⟩=some (ii u.what)/\w'.cell? ⟨w.heap.size,8,none⟩=some (ii u.tox)/\w'.cell? ⟨w.heap.size,9,none⟩=some (ii u.toy)/\w'.cell? ⟨w.heap.size,10,none⟩=some (ii u.target)/\w'.cell? ⟨tb,150,none⟩=some (.map (some bb))/\MapF w' bb (fun _=>none)/\Fr [bb] W2 w')
   (first|exact K0|exact HS _ hfr2 hm2|exact HS _ (hfr2.alloc _) (hm2.alloc _)|exact HS _ hfr1 hmm1|exact HS _ (hfr1.alloc _) (hmm1.alloc _)|exact HS _ (KF.alloc _) (KM.alloc _)|exact HS _ ((hfr2.setCell _ _ (Or.inr (by simp;omega))).setCell _ _ (Or.inr (by simp;omega))) ((hm2.setCell _ _ (by simp;omega)).setCell _ _ (by simp;omega)))
   (first|(go_at_call 192;refine (qv2 u _).mono ?_;rintro e w1 ⟨rfl,hf1⟩;obtain ⟨hc1,hz1⟩:=hf1.cells0;have q2:¬ (w1.heap.size=bb):=(by have:=hf1.size;simp at this;omega);have q4:w.heap.size+1+1<=w1.heap.size:=(by have:=hf1.size;simp at this;omega);(first|(have q3:w.heap.size+1+1 < w1.heap.size:=(by have:=hf1.size;simp at this;omega))|skip);have hfr1:Fr [bb] W2 w1:=Fr.then0 (HFR _ (by assumption)) hf1;have hmm1:MapF w1 bb (fun _=>none):=MapF.fr (MF _ (by assumption)) hf1 (by simp))|(go_at_call 220;refine (fy5 tb hb bb eb (qx2 t.held) t.bd u.x u.y gx gy _ (SD _ (by assumption)) (TVV _ (by assumption)) (MF _ (by assumption)) (by omega) h.n3 h.n6 hon (GX _ (by assumption)) (GY _ (by assumption)) hne3).mono ?_;rintro e w2 ⟨rfl,hf2,hm2⟩;rw [HR.out];obtain ⟨hc2,hz2⟩:=hf2.cells1;have hfr2:Fr [bb] W2 w2:=Fr.trans (HFR _ (by assumption)) hf2 (by simp)))
  all_goals
   go_wp2_with fail
   go_meet
   refine ⟨_,rfl,?_,?_,?_,?_⟩
   ·first
    | with_reducible exact qq6 _ _
    | with_reducible exact qzj8 (hf2.heap (qq6 w1 _) (by simp;omega)) _ _
    | with_reducible exact qzj8 (hf2.heap (hf1.heap0 (qk1 w _ _ _)) (by simp;omega)) _ _
   ·have:=hfr2.size
    omega
   ·first
    | with_reducible exact hfr2.alloc _
    | with_reducible exact (hfr2.setCell _ _ (Or.inr (by simp;omega))).setCell _ _ (Or.inr (by simp;omega))
   ·first
    | with_reducible exact hm2.alloc _
    | with_reducible exact (hm2.setCell _ _ (by simp;omega)).setCell _ _ (by simp;omega)
 case rest =>
  obtain ⟨b7,rfl,hb7,hlt7,hfx,hmx⟩:=hcut
  have hfc:Fr [bb] w wc:=h02.trans hfx (by simp)
  have hTc:=HST.out
  have HM:=hTc.held.fr hfc (by simp;exact hTc.n6)
  have hf2c:Fr [hb,bb] W2 wc:=hfx.mono (by simp)
  have hhbl:=hTc.held.lt
  have H2:∀ w',Fr [hb,bb] W2 w'->(fun w':World=>w'.cell? ⟨w.heap.size,0,none⟩=some (ii u.id)/\w'.cell? ⟨w.heap.size,1,none⟩=some (ii u.owner)/\w'.cell? ⟨w.heap.size,2,none⟩=some (ii u.kind)/\w'.cell? ⟨w.heap.size,3,none⟩=some (ii u.x)/\w'.cell? ⟨w.heap.size,4,none⟩=some (ii u.y)/\w'.cell? ⟨w.heap.size,5,none⟩=some (ii u.life)/\w'.cell? ⟨w.heap.size,6,none⟩=some (ii u.load)/\w'.cell? ⟨w.heap.size,7,none⟩=some (ii u.what)/\w'.cell? ⟨w.heap.size,8,none⟩=some (ii u.tox)/\w'.cell? ⟨w.heap.size,9,none⟩=some (ii u.toy)/\w'.cell? ⟨w.heap.size,10,none⟩=some (ii u.target)/\w'.cell? ⟨tb,149,none⟩=some (.map (some hb))) w':=by
   intro w' hf
   have hu:=hf.heap hU2 (by simp;omega)
   have hc149:w'.cell? ⟨tb,149,none⟩=some (.map (some hb)):=((h02.mono (S':=[hb,bb]) (by simp)).trans hf (by simp)).cell tb 149 htb (by simp;exact ⟨hTc.n2,hTc.n3⟩) |>.trans hTc.tv.c
   exact ⟨j9 hu,j9 hu,j9 hu,j9 hu,j9 hu,j9 hu,j9 hu,j9 hu,j9 hu,j9 hu,j9 hu,hc149⟩
  have K2:=H2 wc.drew hf2c.drew
  have HM2:MapF wc.drew hb (qx2 t.held):=HM.fr ((Fr.refl [] wc).drew) (by simp)
  clear HS HFR MF SD TVV GX GY K0 KF KM h q1
  go_wp2_with fail
  go_cut [] (fun wx=>Fr [hb,bb] W2 wx/\MapF wx hb (fun k=>if k=(u.x,u.y) then none else qx2 t.held k)/\MapF wx bb (fun _=>none)/\wx.heap[b7]?=some (.cells #[ii R.1,ii R.2] 159))
  case first =>
   go_region_held (fun w':World=>w'.cell? ⟨w.heap.size,0,none⟩=some (ii u.id)/\w'.cell? ⟨w.heap.size,1,none⟩=some (ii u.owner)/\w'.cell? ⟨w.heap.size,2,none⟩=some (ii u.kind)/\w'.cell? ⟨w.heap.size,3,none⟩=some (ii u.x)/\w'.cell? ⟨w.heap.size,4,none⟩=some (ii u.y)/\w'.cell? ⟨w.heap.size,5,none⟩=some (ii u.life)/\w'.cell? ⟨w.heap.size,6,none⟩=some (ii u.load)/\w'.cell? ⟨w.heap.size,7,none⟩=some (ii u.what)/\w'.cell? ⟨w.heap.size,8,none⟩=some (ii u.tox)/\w'.cell? ⟨w.heap.size,9,none⟩=some (ii u.toy)/\w'.cell? ⟨w.heap.size,10,none⟩=some (ii u.target)/\w'.cell? ⟨tb,149,none⟩=some (.map (some hb)))
    (first|exact K2|exact H2 _ hfk|exact H2 _ hfm)
    (first|(go_at_call 192;refine (qv2 u _).mono ?_;rintro e w1 ⟨rfl,hf1⟩;have hfk:Fr [hb,bb] W2 w1:=hf2c.drew.then0 hf1;obtain ⟨wd,hdel,hmd,hfd⟩:=gx2 (HM2.fr hf1 (by simp)) 205 0 159 3 Tryz.underlying205 u.x u.y;have hfm:Fr [hb,bb] W2 wd:=hfk.trans hfd (by simp)))
   all_goals
    go_wp2_with fail
    go_meet
    exact ⟨hfm,hmd,(hmx.fr ((Fr.refl [] wc).drew.then0 hf1) (by simp)).fr hfd (by simp;exact fun e=>hTc.n6 e.symm),hfd.heap (hf1.heap0 (show wc.drew.heap[b7]?=_ from hb7)) (by simp;omega)⟩
  case rest =>
   obtain ⟨hfx2,hmh2,hmx2,hb72⟩:=hcut
   have hu2:=hfx2.heap hU2 (by simp;omega)
   have hr2:=hfx2.heap hR2 (by simp;omega)
   obtain ⟨wu,hup,hmu,hfu,hszu⟩:=jw9 (hmh2.fr ((Fr.refl [] wc).drew) (by simp)) 205 3 Tryz.underlying205 R.1 R.2 (ii u.id)
   have hfu2:Fr [hb,bb] W2 wu:=hfx2.drew.trans hfu (by simp)
   have c149:wc.cell? ⟨tb,149,none⟩=some (.map (some hb)):=(H2 wc hfx2).2.2.2.2.2.2.2.2.2.2.2
   have K3:(fun w':World=>w'.cell? ⟨w.heap.size,0,none⟩=some (ii u.id)/\w'.cell? ⟨b7,0,none⟩=some (ii R.1)/\w'.cell? ⟨b7,1,none⟩=some (ii R.2)/\w'.cell? ⟨tb,149,none⟩=some (.map (some hb))) wc.drew:=⟨j9 (show wc.drew.heap[w.heap.size]?=_ from hu2),j9 (show wc.drew.heap[b7]?=_ from hb72),j9 (show wc.drew.heap[b7]?=_ from hb72),c149⟩
   have hb7u:=hfu.heap (show wc.drew.heap[b7]?=_ from hb72) (by simp;omega)
   have huu:=hfu.heap (show wc.drew.heap[w.heap.size]?=_ from hu2) (by simp;omega)
   have hru:=hfu.heap (show wc.drew.heap[w.heap.size+1]?=_ from hr2) (by simp;omega)
   have K4:(fun w':World=>w'.cell? ⟨w.heap.size,0,none⟩=some (ii u.id)/\w'.cell? ⟨b7,0,none⟩=some (ii R.1)/\w'.cell? ⟨b7,1,none⟩=some (ii R.2)/\w'.cell? ⟨tb,149,none⟩=some (.map (some hb))) wu:=⟨j9 huu,j9 hb7u,j9 hb7u,(H2 wu hfu2).2.2.2.2.2.2.2.2.2.2.2⟩
   have hmxu:MapF wu bb (fun _=>none):=(hmx2.fr ((Fr.refl [] wc).drew) (by simp)).fr hfu (by simp;exact fun e=>hTc.n6 e.symm)
   clear H2 K2 HM HM2 hfc hf2c hmx hb7 hfx
   go_wp2_with fail
   go_cut [] (fun wx=>wu=wx)
   case first =>
    go_region_held (fun w':World=>w'.cell? ⟨w.heap.size,0,none⟩=some (ii u.id)/\w'.cell? ⟨b7,0,none⟩=some (ii R.1)/\w'.cell? ⟨b7,1,none⟩=some (ii R.2)/\w'.cell? ⟨tb,149,none⟩=some (.map (some hb)))
     (first|exact K3|exact K4)
     (fail)
    all_goals
     go_wp2_with fail
     go_meet
     rfl
   case rest =>
    obtain rfl:=hcut
    have t0:wu.cell? ⟨b7,0,none⟩=some (ii R.1):=j9 hb7u
    have t1:wu.cell? ⟨b7,1,none⟩=some (ii R.2):=j9 hb7u
    have v3:wu.cell? ⟨w.heap.size,3,none⟩=some (ii u.x):=j9 huu
    have v4:wu.cell? ⟨w.heap.size,4,none⟩=some (ii u.y):=j9 huu
    have z3:wu.frozen? ⟨w.heap.size,3,none⟩=false:=qq0 huu
    have z4:wu.frozen? ⟨w.heap.size,4,none⟩=false:=qq0 huu
    have d7:¬ (b7=w.heap.size):=by omega
    have d7':¬ (w.heap.size=b7):=by omega
    clear hup hmh2 hmx2 hb72 hfx2 K3 K4 c149 hu2 hr2 hfu
    go_wp2_with fail
    go_region
    have hUU:((wu.setCell ⟨w.heap.size,3,none⟩ (.int .i64 R.1)).setCell ⟨w.heap.size,4,none⟩ (.int .i64 R.2)).drew.heap[w.heap.size]?=some (.cells (u.to R).arr 85):=qjq2 huu R.1 R.2
    have hRU:((wu.setCell ⟨w.heap.size,3,none⟩ (.int .i64 R.1)).setCell ⟨w.heap.size,4,none⟩ (.int .i64 R.2)).drew.heap[w.heap.size+1]?=some (.cells zeroU.arr 85):=by
     show ((wu.setCell ⟨w.heap.size,3,none⟩ (.int .i64 R.1)).setCell ⟨w.heap.size,4,none⟩ (.int .i64 R.2)).heap[w.heap.size+1]?=_
     rw [Below.heap_setCell _ _ _ _ (by simp),Below.heap_setCell _ _ _ _ (by simp)];exact hru
    clear t0 t1 v3 v4 z3 z4 huu hru hb7u d7 d7'
    go_wp2_with (first|(refine wpList_load_row rfl 85 _ rfl w.heap.size rfl 85 (u.to R).arr (0,0) _ hUU Tryz.underlying85 rfl qq5 ?_)|(refine wpList_store_row rfl 85 _ _ rfl (w.heap.size+1) (u.to R).arr rfl rfl 85 _ hRU qq5 rfl (U.one _) ?_))
    have hww:Fr [hb,bb] w wu:=(h02.mono (S':=[hb,bb]) (by simp)).trans hfu2 (by simp)
    have hfin:Fr [w.heap.size,w.heap.size+1] wu ((((wu.setCell ⟨w.heap.size,3,none⟩ (.int .i64 R.1)).setCell ⟨w.heap.size,4,none⟩ (.int .i64 R.2)).drew).setRow (w.heap.size+1) (u.to R).arr) :=
     ((((Fr.refl _ _).setCell _ _ (by simp)).setCell _ _ (by simp)).drew).setRow _ _ (by simp)
    have hall:=hww.trans hfin (by simp)
    refine bodyPost_ret (v:=(u.to R).val) (results_cell_row Tryz.results202 _ _ (w.heap.size+1) 85 (u.to R).arr (0,0) _ rfl (setRow_heap _ _ _ (u.to R).arr _ _ hRU) Tryz.underlying85 rfl qq5) rfl ⟨rfl,hall,?_⟩
    refine { hTc with cell:=?_,fz:=?_,row:=?_,held:=?_,ways:=?_ }
    ·intro k hk
     rw [hall.cell tb k hTc.lt (by simp;exact ⟨hTc.n2,hTc.n3⟩)]
     exact hTc.cell k hk
    ·intro k
     rw [hall.frozen tb k hTc.lt (by simp;exact ⟨hTc.n2,hTc.n3⟩)]
     exact hTc.fz k
    ·exact hTc.row.fr hall (by simp;exact ⟨hTc.n4,hTc.n5⟩)
    ·have:=hmu.fr hfin (by simp;omega)
     have he:(fun k=>if k=(R.1,R.2) then some (ii u.id) else if k=(u.x,u.y) then none else qx2 t.held k)=qx2 (t.moved u R).held:=by
      funext k
      by_cases h1:k=R
      ·simp [qx2,h1]
      ·have h1':¬ k=(R.1,R.2):=h1
       by_cases h2:k=(u.x,u.y)
       ·rw [if_neg h1',if_pos h2]
        show none=((if k=R then some u.id else if k=(u.x,u.y) then none else t.held k).map fun i=>ii i)
        rw [if_neg h1,if_pos h2]
        rfl
       ·rw [if_neg h1',if_neg h2]
        show qx2 t.held k=((if k=R then some u.id else if k=(u.x,u.y) then none else t.held k).map fun i=>ii i)
        rw [if_neg h1,if_neg h2]
     rw [<- he]
     exact this
    ·exact hmxu.fr hfin (by simp;omega)
def qv7 (t:T)(u:U)(ends:Cl->Bool):Cl:=bfs (fun c=>qv3 (qx2 t.held) t.bd c.1 c.2) ends (u.x,u.y)
def qw6 (t:T)(u:U):U×T :=
 if (u.x==u.tox&&u.y==u.toy)=true then (u.idle,t)
 else (u.to (qv7 t u fun c=>c.1==u.tox&&c.2==u.toy),t.moved u (qv7 t u fun c=>c.1==u.tox&&c.2==u.toy))
theorem dv1 (tb pb cap hb bb:Nat)(t:T)(u:U)(w:World)(h:TS w tb pb cap hb bb t)(hsd:Sd w)(hon:onB u.x u.y=true) :
  Calls Tryz.prog 159 #[.pointer (some ⟨tb,0,none⟩),u.val] w fun e w' =>
   e=.returned (qw6 t u).1.val/\Fr [hb,bb] w w'/\TS w' tb pb cap hb bb (qw6 t u).2:=by
 obtain ⟨B,hB⟩:∃ B,(u.x==u.tox&&u.y==u.toy)=B:=⟨_,rfl⟩
 have hq:∀ w0:World,(binOp BinOp.eql 159 (cv u.x u.y) (cv u.tox u.toy)).run Tryz.prog w0=.ok (.bool B) w0:=fun w0=>by rw [gx4,hB]
 have hqg:=fun (x y:Operand) (w0:World)=>xx1 x y u.x u.y u.tox u.toy w0
 have HB:=hid hB
 clear hB
 obtain ⟨W3,hW3⟩:∃ W,W=((w.alloc (.cells u.arr 85)).alloc (.cells zeroU.arr 85)).alloc (.cells #[ii u.tox,ii u.toy] 159):=⟨_,rfl⟩
 have hs3:W3.heap.size=w.heap.size+1+1+1:=by rw [hW3];simp
 have h03:Fr [] w W3:=by rw [hW3];exact (((Fr.refl _ _).alloc _).alloc _).alloc _
 have hU:W3.heap[w.heap.size]?=some (.cells u.arr 85):=by rw [hW3,qz7 _ _ _ (by simp;omega),qz8]
 have hR:W3.heap[w.heap.size+1]?=some (.cells zeroU.arr 85):=by rw [hW3,qz7 _ _ _ (by simp),qz4]
 have hG:W3.heap[w.heap.size+1+1]?=some (.cells #[ii u.tox,ii u.toy] 159):=by rw [hW3,qk1]
 have HS:∀ w',Fr [] W3 w'->(fun w':World=>cl w' w.heap.size 0 u.id/\cl w' w.heap.size 1 u.owner/\cl w' w.heap.size 2 u.kind/\cl w' w.heap.size 3 u.x/\cl w' w.heap.size 4 u.y/\cl w' w.heap.size 5 u.life/\cl w' w.heap.size 6 u.load/\cl w' w.heap.size 7 u.what/\cl w' w.heap.size 8 u.tox/\cl w' w.heap.size 9 u.toy/\cl w' w.heap.size 10 u.target/\cl w' (w.heap.size+1+1) 0 u.tox/\cl w' (w.heap.size+1+1) 1 u.toy) w':=by
  intro w' hf
  have hu:=hf.heap0 hU
  have hg:=hf.heap0 hG
  exact ⟨j9 hu,j9 hu,j9 hu,j9 hu,j9 hu,j9 hu,j9 hu,j9 hu,j9 hu,j9 hu,j9 hu,j9 hg,j9 hg⟩
 have KF:Fr [] W3 ((((w.alloc (.cells u.arr 85)).alloc (.cells zeroU.arr 85)).alloc (.cells #[ii u.tox,ii u.toy] 159)).drew):=by rw [hW3];exact (Fr.refl _ _).drew
 have K0:=HS _ KF
 clear hW3
 go_enter Tryz.func159,Tryz.ntmps159
 go_wp2_with fail
 go_cut [14] (fun s14 wx=>s14=.bool B/\Fr [] W3 wx)
 case first =>
  go_region_held (fun w':World=>w'.cell? ⟨w.heap.size,0,none⟩=some (ii u.id)/\w'.cell? ⟨w.heap.size,1,none⟩=some (ii u.owner)/\w'.cell? ⟨w.heap.size,2,none⟩=some (ii u.kind)/\w'.cell? ⟨w.heap.size,3,none⟩=some (ii u.x)/\w'.cell? ⟨w.heap.size,4,none⟩=some (ii u.y)/\w'.cell? ⟨w.heap.size,5,none⟩=some (ii u.life)/\w'.cell? ⟨w.heap.size,6,none⟩=some (ii u.load)/\w'.cell? ⟨w.heap.size,7,none⟩=some (ii u.what)/\w'.cell? ⟨w.heap.size,8,none⟩=some (ii u.tox)/\w'.cell? ⟨w.heap.size,9,none⟩=some (ii u.toy)/\w'.cell? ⟨w.heap.size,10,none⟩=some (ii u.target)/\w'.cell? ⟨w.heap.size+1+1,0,none⟩=some (ii u.tox)/\w'.cell? ⟨w.heap.size+1+1,1,none⟩=some (ii u.toy))
   (first|exact K0|exact HS _ hfr1)
   (first|(go_at_call 192;refine (qv2 u _).mono ?_;rintro e w1 ⟨rfl,hf1⟩;have hfr1:Fr [] W3 w1:=KF.then0 hf1))
  all_goals
   go_wp2_with fail
   go_meet
   exact ⟨rfl,hfr1⟩
 case rest =>
  obtain ⟨rfl,hfx⟩:=hcut
  have hux:=hfx.heap0 hU
  have hrx:=hfx.heap0 hR
  have hgx:=hfx.heap0 hG
  have hwx:=h03.then0 hfx
  have hl:=qq2 hrx
  have HR:=hid hrx
  clear K0 HS hq hqg
  have hz:=h.z
  have hbl:=h.ways.lt
  have hhl:=h.held.lt
  have hts:=h.fr0 hwx
  have hsx:=hsd.fr0 hwx
  cases B
  ·have hact:qw6 t u=(u.to (qv7 t u fun c=>c.1==u.tox&&c.2==u.toy),t.moved u (qv7 t u fun c=>c.1==u.tox&&c.2==u.toy)):=by unfold qw6;rw [HB.out];rfl
   have HA:=hid hact
   clear hact hrx
   go_wp2_with (refine wpList_load_row rfl 85 _ rfl w.heap.size rfl 85 u.arr (0,0) _ hux Tryz.underlying85 rfl qq5 ?_)
   refine (qqj3 tb pb cap hb bb (w.heap.size+1+1) t u u.tox u.toy _ hts hsx hon (j9 hgx) (j9 hgx) (by omega)).mono ?_
   rintro e w5 ⟨rfl,hf5,ht5⟩
   have hr5:=hf5.heap HR.out (by simp;omega)
   obtain ⟨v,hv⟩:∃ v,v=u.to (bfs (fun c=>qv3 (qx2 t.held) t.bd c.1 c.2) (fun c=>c.1==u.tox&&c.2==u.toy) (u.x,u.y)):=⟨_,rfl⟩
   rw [<- hv]
   have HV:=hid hv
   clear hv hux hgx
   go_wp2_with (refine wpList_store_row rfl 85 _ _ rfl (w.heap.size+1) v.arr rfl rfl 85 _ hr5 qq5 rfl (U.one _) ?_)
   have hall:Fr [hb,bb] w (w5.setRow (w.heap.size+1) v.arr):=(hwx.of0.trans hf5 (by simp)).setRow _ _ (Or.inr (by omega))
   refine bodyPost_ret (v:=v.val) (results_cell_row Tryz.results159 _ _ (w.heap.size+1) 85 v.arr (0,0) _ rfl (setRow_heap _ _ _ v.arr _ _ hr5) Tryz.underlying85 rfl qq5) rfl ⟨?_,hall,?_⟩
   ·rw [HA.out,HV.out];rfl
   ·rw [HA.out]
    exact ht5.fr ((Fr.refl [w.heap.size+1] w5).setRow _ _ (by simp)) (by simp;have:=h.lt;omega) (by simp;have:=h.row.lt;omega) (by simp;omega) (by simp;omega)
  ·have hact:qw6 t u=(u.idle,t):=by unfold qw6;rw [HB.out];rfl
   have HA:=hid hact
   clear hact hrx
   go_wp2_with (refine wpList_load_row rfl 85 _ rfl w.heap.size rfl 85 u.arr (0,0) _ hux Tryz.underlying85 rfl qq5 ?_)
   refine (yx4 u _).mono ?_
   rintro e w5 ⟨rfl,hf5⟩
   have hr5:=hf5.heap HR.out (by simp)
   clear hux hgx
   go_wp2_with (refine wpList_store_row rfl 85 _ _ rfl (w.heap.size+1) u.idle.arr rfl rfl 85 _ hr5 qq5 rfl (U.one _) ?_)
   have hall:Fr [hb,bb] w (w5.setRow (w.heap.size+1) u.idle.arr):=(hwx.then0 hf5).of0.setRow _ _ (Or.inr (by omega))
   refine bodyPost_ret (v:=u.idle.val) (results_cell_row Tryz.results159 _ _ (w.heap.size+1) 85 u.idle.arr (0,0) _ rfl (setRow_heap _ _ _ u.idle.arr _ _ hr5) Tryz.underlying85 rfl qq5) rfl ⟨?_,hall,?_⟩
   ·rw [HA.out]
   ·rw [HA.out]
    exact (hts.fr0 hf5).fr ((Fr.refl [w.heap.size+1] w5).setRow _ _ (by simp)) (by simp;have:=h.lt;omega) (by simp;have:=h.row.lt;omega) (by simp;omega) (by simp;omega)
end Go.Proofs.YtapabahhfanmmaaGreatDoor
