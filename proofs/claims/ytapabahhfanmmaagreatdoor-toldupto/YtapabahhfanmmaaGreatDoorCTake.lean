import Derived.Test.YtapabahhfanmmaaGreatDoorCAct
namespace Go.Proofs.YtapabahhfanmmaaGreatDoor
open Go.RowKit
set_option maxRecDepth 100000
set_option maxHeartbeats 8000000
structure CanS (tb : Nat) (u : U) (c : Cm) (w : World) (K : Value) (n1 n0 n2 n3 : Nat) (B : Bool) (c' : Cm) : Prop where
  hs : ∀ w,Calls Tryz.prog 193 #[K,.int .i64 c.what] w fun e w'=>e=.returned (.tuple #[.agg #[fv n1,fv n0,fv n2,fv n3],.bool true])/\Fr [] w w'
  h1 : ∀ w',Fr [] w w'->Calls Tryz.prog n1 #[.pointer (some ⟨tb,0,none⟩),u.val,c.val] w' fun e w''=>e=.returned (.bool B)/\Fr [] w' w''
  h2 : ∀ w',Calls Tryz.prog n2 #[c.val] w' fun e w''=>e=.returned c'.val/\Fr [] w' w''
  f1 : ∀ (args:Array Value) (w:World),(callFunc n1 args).run Tryz.prog w=.ok (.enter n1 args) w
  f2 : ∀ (args:Array Value) (w:World),(callFunc n2 args).run Tryz.prog w=.ok (.enter n2 args) w
def Says (tb : Nat) (u : U) (c : Cm) (w : World) (K : Value) (r : Option (Bool × Cm)) : Prop :=
  (r = none ∧ ∀ w,Calls Tryz.prog 193 #[K,.int .i64 c.what] w fun e w'=>e=.returned (.tuple #[sk0,.bool false])/\Fr [] w w') ∨ ∃ n1 n0 n2 n3 B c', r = some (B, c') ∧ CanS tb u c w K n1 n0 n2 n3 B c'
def jq8 (t:T)(p:Int)(c:Cm)(s:U->Option (Bool×Cm)):Bool×T :=
 match qz0 t.us c.unit with
 | none=>(false,t)
 | some i =>
  match t.us[i]? with
  | none=>(false,t)
  | some u=>if u.owner=p then (match s u with|some (true,c')=>(true,{ t with us:=t.us.set i (u.ordered c') })|_=>(false,t)) else (false,t)
theorem qqq4 (tb pb cap hb bb:Nat) (t:T) (p:Int) (c:Cm) (s:U->Option (Bool×Cm)) (K:U->Value) (w:World) (h:TS w tb pb cap hb bb t) (hri:Rise t.us)
  (hk:∀ u∈t.us,∀ w,Calls Tryz.prog 121 #[.int .i64 u.kind] w fun e w'=>e=.returned (K u)/\Fr [] w w')
  (hs:∀ u∈t.us,Says tb u c w (K u) (s u)) :
  Calls Tryz.prog 151 #[.pointer (some ⟨tb,0,none⟩),.int .i64 p,c.val] w fun e w' =>
   e=.returned (.bool (jq8 t p c s).1)/\Fr [pb] w w'/\TS w' tb pb cap hb bb (jq8 t p c s).2:=by
 have hz:=h.z
 have hbl:=h.ways.lt
 have hhl:=h.held.lt
 have htl:=h.lt
 have hpl:=h.row.lt
 obtain ⟨W1,hW1⟩:∃ W,W=w.alloc (.cells #[ii c.unit,ii c.what,ii c.x,ii c.y,ii c.target] 81):=⟨_,rfl⟩
 have hs1:W1.heap.size=w.heap.size+1:=by rw [hW1];simp
 have h01:Fr [] w W1:=by rw [hW1];exact (Fr.refl _ _).alloc _
 have hC:W1.heap[w.heap.size]?=some (.cells #[ii c.unit,ii c.what,ii c.x,ii c.y,ii c.target] 81):=by rw [hW1,qq6]
 have HS:∀ w',Fr [] W1 w'->(fun w':World=>cl w' w.heap.size 0 c.unit/\Fr [] W1 w') w':=fun w' hf=>⟨j9 (hf.heap0 hC),hf⟩
 have KF:Fr [] W1 (w.alloc (.cells #[ii c.unit,ii c.what,ii c.x,ii c.y,ii c.target] 81)).drew:=by rw [hW1];exact (Fr.refl _ _).drew
 have K0:=HS _ KF
 clear hW1
 go_enter Tryz.func151,Tryz.ntmps151
 go_wp2_with fail
 go_cut [7,8] (fun s7 s8 wx=>∃ (i:Nat) (f:Bool),s7=.int .i64 i/\s8=.bool f/\qz0 t.us c.unit=(if f=true then some i else none)/\Fr [] W1 wx)
 case first =>
  go_region_held (fun w':World=>w'.cell? ⟨w.heap.size,0,none⟩=some (ii c.unit)/\Fr [] W1 w')
   (first|with_reducible exact K0|with_reducible exact HS _ hfr1)
   (first|(go_at_call 152;refine (yx3 tb pb cap t.us c.unit _ (h.gv.fr0 (h01.then0 (And.right (by assumption)))) hri).mono ?_;rintro e w1 ⟨i,f,rfl,hf1,hpl1⟩;have hfr1:Fr [] W1 w1:=Fr.then0 (And.right (by assumption)) hf1))
  all_goals
   go_wp2_with fail
   go_meet
   exact ⟨i,f,rfl,rfl,hpl1,hfr1⟩
 case rest =>
  obtain ⟨i,f,rfl,rfl,hplace,hfx⟩:=hcut
  have hwx:Fr [] w wc:=h01.then0 hfx
  have htx:=h.fr0 hwx
  have hcx:=hfx.heap0 hC
  clear HS K0 KF
  cases f
  ·have hres:jq8 t p c s=(false,t):=by unfold jq8;rw [hplace];rfl
   have HRES:=hid hres
   clear hres hplace hk hs
   go_wp2_with fail
   go_ret
   rw [HRES.out]
   exact ⟨rfl,hwx.of0,htx⟩
  ·rw [if_pos rfl] at hplace
   obtain ⟨u,hu,huid⟩:=qv8 hplace
   have hil:i < t.us.length:=(List.getElem?_eq_some_iff.1 hu).1
   have hlen:=h.len
   have hcc:=htx.gv.c
   obtain ⟨c0,c1,c2,c3,c4,c5,c6,c7,c8,c9,c10⟩:=htx.row.ppl.at hu
   have hres:jq8 t p c s=if u.owner=p then (match s u with|some (true,c')=>(true,{ t with us:=t.us.set i (u.ordered c') })|_=>(false,t)) else (false,t):=by
    unfold jq8;rw [hplace];dsimp only;rw [hu]
   by_cases hop:(u.owner==p)=true
   ·rw [if_pos (by simpa using hop)] at hres
    have hku:=hk u (List.mem_of_getElem? hu)
    have hsu:=hs u (List.mem_of_getElem? hu)
    have HU:=hid hu
    have HRES:=hid hres
    clear hu hk hs hres hplace huid
    go_wp2_with fail
    obtain ⟨W2,hW2⟩:∃ W,W=wc.alloc (.cells u.arr 85):=⟨_,rfl⟩
    rw [<- hW2]
    have hf2:Fr [] wc W2:=by rw [hW2];exact (Fr.refl _ _).alloc _
    have hU2:W2.heap[wc.heap.size]?=some (.cells u.arr 85):=by rw [hW2];exact qq6 _ _
    have hs2:wc.heap.size < W2.heap.size:=by rw [hW2];simp
    have hC2:=hf2.heap0 hcx
    have ht2:=htx.fr0 hf2
    have hw2:=hwx.then0 hf2
    have hwcl:=hwx.size
    have hcl:=qq2 hcx
    clear hs1 hW2 hcx htx hfx hcc c0 c1 c2 c3 c4 c5 c6 c7 c8 c9 c10 hwx hC h01 hop
    obtain ⟨b2,hb2⟩:∃ b,b=wc.heap.size:=⟨_,rfl⟩
    rw [<- hb2] at hU2 hs2 hcl hwcl |-
    clear hb2 hf2
    obtain ⟨su,hsu'⟩:∃ x,s u=x:=⟨_,rfl⟩
    have HSU:=(show Hid _ from hsu')
    rw [hsu'] at hsu
    clear hsu'
    have HS:∀ w',Fr [] W2 w'->(fun w':World=>cl w' b2 2 u.kind/\cl w' w.heap.size 1 c.what/\Fr [] W2 w') w':=fun w' hf=>⟨j9 (hf.heap0 hU2),j9 (hf.heap0 hC2),hf⟩
    have KF:Fr [] W2 W2.drew:=(Fr.refl _ _).drew
    have K0:=HS _ KF
    rcases hsu with ⟨rfl, hs⟩ | ⟨n1, n0, n2, n3, B, c', rfl, hs, h1, h2, f1, f2⟩
    ·go_cut [11] (fun s11 wx=>s11=.bool false/\Fr [] W2 wx)
     case first =>
      go_region_held (fun w':World=>w'.cell? ⟨b2,2,none⟩=some (ii u.kind)/\w'.cell? ⟨w.heap.size,1,none⟩=some (ii c.what)/\Fr [] W2 w')
       (first|exact K0|exact HS _ hfr2|exact HS _ (hfr2.alloc _)|exact HS _ hfr1|exact HS _ (hfr1.alloc _)|exact HS _ (KF.alloc _)|exact HS _ ((((hfr2.setCell _ _ (Or.inr (by first|exact Nat.le_refl _|exact hfr1.size))).setCell _ _ (Or.inr (by first|exact Nat.le_refl _|exact hfr1.size))).setCell _ _ (Or.inr (by first|exact Nat.le_refl _|exact hfr1.size))).setCell _ _ (Or.inr (by first|exact Nat.le_refl _|exact hfr1.size))))
       (first|(go_at_call 121;refine (hku _).mono ?_;rintro e w1 ⟨rfl,hf1⟩;obtain ⟨hc1,hz1⟩:=hf1.cells0;have q1:b2 < w1.heap.size:=(by have:=hf1.size;simp at this;omega);(first|(have q2:W2.heap.size < w1.heap.size:=(by have:=hf1.size;simp at this;omega))|skip);have hfr1:Fr [] W2 w1:=Fr.then0 (And.right (And.right (by assumption))) hf1)|(go_at_call 193;refine (hs _).mono ?_;rintro e w2 ⟨rfl,hf2⟩;obtain ⟨hc2,hz2⟩:=hf2.cells0;have q3:=hf2.size;have hfr2:Fr [] W2 w2:=Fr.then0 (And.right (And.right (by assumption))) hf2))
      all_goals
       go_wp2_with fail
       go_meet
       refine ⟨rfl,?_⟩
       first
       | with_reducible exact hfr2.alloc _
       | exact (((hfr2.setCell _ _ (Or.inr (by first|exact Nat.le_refl _|exact hfr1.size))).setCell _ _ (Or.inr (by first|exact Nat.le_refl _|exact hfr1.size))).setCell _ _ (Or.inr (by first|exact Nat.le_refl _|exact hfr1.size))).setCell _ _ (Or.inr (by first|exact Nat.le_refl _|exact hfr1.size))
     case rest =>
      obtain ⟨rfl,hf3⟩:=hcut
      clear HS K0 KF hku hs
      go_wp2_with fail
      go_cut [65] (fun s65 wx=>s65=.bool true/\Fr [] W2 wx)
      case first =>
       go_quiet (fail)
       go_wp2_with fail
       go_meet
       exact ⟨rfl,hf3.drewN _⟩
      case rest =>
       obtain ⟨rfl,hf4⟩:=hcut
       go_wp2_with fail
       go_ret
       have hres:jq8 t p c s=(false,t):=by rw [HRES.out,HSU.out]
       rw [hres]
       exact ⟨rfl,(hw2.then0 hf4).of0,ht2.fr0 hf4⟩
    ·go_cut [10,11] (fun s10 s11 wx=>∃ g:Nat,s10=.pointer (some ⟨g,0,none⟩)/\s11=.bool true/\wx.heap[g]?=some (.cells #[fv n1,fv n0,fv n2,fv n3] 217)/\b2 < g/\Fr [] W2 wx)
     case first =>
      go_region_held (fun w':World=>w'.cell? ⟨b2,2,none⟩=some (ii u.kind)/\w'.cell? ⟨w.heap.size,1,none⟩=some (ii c.what)/\Fr [] W2 w')
       (first|exact K0|exact HS _ hfr2|exact HS _ (hfr2.alloc _)|exact HS _ hfr1|exact HS _ (hfr1.alloc _)|exact HS _ (KF.alloc _)|exact HS _ ((((hfr2.setCell _ _ (Or.inr (by first|exact Nat.le_refl _|exact hfr1.size))).setCell _ _ (Or.inr (by first|exact Nat.le_refl _|exact hfr1.size))).setCell _ _ (Or.inr (by first|exact Nat.le_refl _|exact hfr1.size))).setCell _ _ (Or.inr (by first|exact Nat.le_refl _|exact hfr1.size))))
       (first|(go_at_call 121;refine (hku _).mono ?_;rintro e w1 ⟨rfl,hf1⟩;obtain ⟨hc1,hz1⟩:=hf1.cells0;have q1:b2 < w1.heap.size:=(by have:=hf1.size;simp at this;omega);(first|(have q2:W2.heap.size < w1.heap.size:=(by have:=hf1.size;simp at this;omega))|skip);have hfr1:Fr [] W2 w1:=Fr.then0 (And.right (And.right (by assumption))) hf1)|(go_at_call 193;refine (hs _).mono ?_;rintro e w2 ⟨rfl,hf2⟩;obtain ⟨hc2,hz2⟩:=hf2.cells0;have q3:=hf2.size;have hfr2:Fr [] W2 w2:=Fr.then0 (And.right (And.right (by assumption))) hf2))
      all_goals
       go_wp2_with fail
       go_meet
       refine ⟨_,rfl,rfl,?_,?_,?_⟩
       ·first
        | with_reducible exact qq6 _ _
        | exact fy2 (hf2.heap0 (qq6 w1 _)) _ _ _ _
        | exact fy2 (hf2.heap0 (hf1.heap0 (qq6 W2 _))) _ _ _ _
       ·have:=hfr2.size
        omega
       ·first
        | with_reducible exact hfr2.alloc _
        | exact (((hfr2.setCell _ _ (Or.inr (by first|exact Nat.le_refl _|exact hfr1.size))).setCell _ _ (Or.inr (by first|exact Nat.le_refl _|exact hfr1.size))).setCell _ _ (Or.inr (by first|exact Nat.le_refl _|exact hfr1.size))).setCell _ _ (Or.inr (by first|exact Nat.le_refl _|exact hfr1.size))
     case rest =>
      obtain ⟨g,rfl,rfl,hg,hlg,hf3⟩:=hcut
      clear HS K0 KF hku hs
      have hU3:=hf3.heap0 hU2
      have hC3:=hf3.heap0 hC2
      have ht3:=ht2.fr0 hf3
      have hw3:=hw2.then0 hf3
      obtain ⟨W3,hW3⟩:∃ W,W=wc:=⟨_,rfl⟩
      rw [<- hW3] at hU3 hC3 ht3 hw3 hg |-
      clear hW3 hf3 hU2 hC2 ht2 hw2
      have HS:∀ w',Fr [] W3 w'->(fun w':World=>w'.cell? ⟨g,0,none⟩=some (fv n1)/\cl w' b2 0 u.id/\cl w' b2 1 u.owner/\cl w' b2 2 u.kind/\cl w' b2 3 u.x/\cl w' b2 4 u.y/\cl w' b2 5 u.life/\cl w' b2 6 u.load/\cl w' b2 7 u.what/\cl w' b2 8 u.tox/\cl w' b2 9 u.toy/\cl w' b2 10 u.target/\cl w' w.heap.size 0 c.unit/\cl w' w.heap.size 1 c.what/\cl w' w.heap.size 2 c.x/\cl w' w.heap.size 3 c.y/\cl w' w.heap.size 4 c.target/\Fr [] W3 w') w':=fun w' hf=>⟨j9 (hf.heap0 hg),j9 (hf.heap0 hU3),j9 (hf.heap0 hU3),j9 (hf.heap0 hU3),j9 (hf.heap0 hU3),j9 (hf.heap0 hU3),j9 (hf.heap0 hU3),j9 (hf.heap0 hU3),j9 (hf.heap0 hU3),j9 (hf.heap0 hU3),j9 (hf.heap0 hU3),j9 (hf.heap0 hU3),j9 (hf.heap0 hC3),j9 (hf.heap0 hC3),j9 (hf.heap0 hC3),j9 (hf.heap0 hC3),j9 (hf.heap0 hC3),hf⟩
      have KF:Fr [] W3 W3.drew:=(Fr.refl _ _).drew
      have K0:=HS _ KF
      go_wp2_with fail
      go_cut [65] (fun s65 wx=>s65=.bool (!B)/\Fr [] W3 wx)
      case first =>
       go_region_held (fun w':World=>w'.cell? ⟨g,0,none⟩=some (fv n1)/\w'.cell? ⟨b2,0,none⟩=some (ii u.id)/\w'.cell? ⟨b2,1,none⟩=some (ii u.owner)/\w'.cell? ⟨b2,2,none⟩=some (ii u.kind)/\w'.cell? ⟨b2,3,none⟩=some (ii u.x)/\w'.cell? ⟨b2,4,none⟩=some (ii u.y)/\w'.cell? ⟨b2,5,none⟩=some (ii u.life)/\w'.cell? ⟨b2,6,none⟩=some (ii u.load)/\w'.cell? ⟨b2,7,none⟩=some (ii u.what)/\w'.cell? ⟨b2,8,none⟩=some (ii u.tox)/\w'.cell? ⟨b2,9,none⟩=some (ii u.toy)/\w'.cell? ⟨b2,10,none⟩=some (ii u.target)/\w'.cell? ⟨w.heap.size,0,none⟩=some (ii c.unit)/\w'.cell? ⟨w.heap.size,1,none⟩=some (ii c.what)/\w'.cell? ⟨w.heap.size,2,none⟩=some (ii c.x)/\w'.cell? ⟨w.heap.size,3,none⟩=some (ii c.y)/\w'.cell? ⟨w.heap.size,4,none⟩=some (ii c.target)/\Fr [] W3 w')
        (first|with_reducible exact K0|with_reducible exact HS _ hfr1)
        (first|(refine Calls.mono (h1 _ (hw3.then0 (And.right (And.right (And.right (And.right (And.right (And.right (And.right (And.right (And.right (And.right (And.right (And.right (And.right (And.right (And.right (And.right (And.right (by assumption)))))))))))))))))))) ?_;rintro e w1 ⟨rfl,hf1⟩;have hfr1:Fr [] W3 w1:=Fr.then0 (And.right (And.right (And.right (And.right (And.right (And.right (And.right (And.right (And.right (And.right (And.right (And.right (And.right (And.right (And.right (And.right (And.right (by assumption)))))))))))))))))) hf1))
       all_goals
        go_wp2_with fail
        go_meet
        exact ⟨rfl,hfr1⟩
      case rest =>
       obtain ⟨rfl,hf4⟩:=hcut
       clear HS K0 KF h1 f1
       have hU4:=hf4.heap0 hU3
       have hC4:=hf4.heap0 hC3
       have ht4:=ht3.fr0 hf4
       have hw4:=hw3.then0 hf4
       have hg4:=hf4.heap0 hg
       obtain ⟨W4,hW4⟩:∃ W,W=wc:=⟨_,rfl⟩
       rw [<- hW4] at hU4 hC4 ht4 hw4 hg4 |-
       clear hW4 hf4 hU3 hC3 ht3 hw3 hg
       cases B
       ·have hres:jq8 t p c s=(false,t):=by rw [HRES.out,HSU.out]
        have HR:=hid hres
        clear hres HRES HSU
        go_wp2_with fail
        go_ret
        rw [HR.out]
        exact ⟨rfl,hw4.of0,ht4⟩
       ·have hres:jq8 t p c s=(true,{ t with us:=t.us.set i (u.ordered c') }):=by rw [HRES.out,HSU.out]
        have HR:=hid hres
        clear hres HRES HSU
        have HS:∀ w',Fr [pb] W4 w'->(fun w':World=>w'.cell? ⟨tb,148,none⟩=some (.slice (some ⟨pb,0,none⟩) t.us.length cap)/\w'.cell? ⟨g,2,none⟩=some (fv n2)/\cl w' b2 0 u.id/\cl w' b2 1 u.owner/\cl w' b2 2 u.kind/\cl w' b2 3 u.x/\cl w' b2 4 u.y/\cl w' b2 5 u.life/\cl w' b2 6 u.load/\cl w' b2 7 u.what/\cl w' b2 8 u.tox/\cl w' b2 9 u.toy/\cl w' b2 10 u.target/\cl w' w.heap.size 0 c.unit/\cl w' w.heap.size 1 c.what/\cl w' w.heap.size 2 c.x/\cl w' w.heap.size 3 c.y/\cl w' w.heap.size 4 c.target/\Fr [pb] W4 w') w':=fun w' hf=>⟨(hf.cell tb 148 ht4.lt (by simp;exact ht4.n1)).trans ht4.gv.c,j9 (hf.heap hg4 (by simp;omega)),j9 (hf.heap hU4 (by simp;omega)),j9 (hf.heap hU4 (by simp;omega)),j9 (hf.heap hU4 (by simp;omega)),j9 (hf.heap hU4 (by simp;omega)),j9 (hf.heap hU4 (by simp;omega)),j9 (hf.heap hU4 (by simp;omega)),j9 (hf.heap hU4 (by simp;omega)),j9 (hf.heap hU4 (by simp;omega)),j9 (hf.heap hU4 (by simp;omega)),j9 (hf.heap hU4 (by simp;omega)),j9 (hf.heap hU4 (by simp;omega)),j9 (hf.heap hC4 (by simp;omega)),j9 (hf.heap hC4 (by simp;omega)),j9 (hf.heap hC4 (by simp;omega)),j9 (hf.heap hC4 (by simp;omega)),j9 (hf.heap hC4 (by simp;omega)),hf⟩
        have KF:Fr [] W4 W4.drew:=(Fr.refl _ _).drew
        have K0:=HS _ KF.of0
        have hpm:pb∈[pb]\/W4.heap.size<=pb:=Or.inl (by simp)
        go_wp2_with fail
        go_cut [] (fun wx=>Fr [pb] w wx/\TS wx tb pb cap hb bb { t with us:=t.us.set i (u.ordered c') })
        case first =>
         go_region_held (fun w':World=>w'.cell? ⟨tb,148,none⟩=some (.slice (some ⟨pb,0,none⟩) t.us.length cap)/\w'.cell? ⟨g,2,none⟩=some (fv n2)/\w'.cell? ⟨b2,0,none⟩=some (ii u.id)/\w'.cell? ⟨b2,1,none⟩=some (ii u.owner)/\w'.cell? ⟨b2,2,none⟩=some (ii u.kind)/\w'.cell? ⟨b2,3,none⟩=some (ii u.x)/\w'.cell? ⟨b2,4,none⟩=some (ii u.y)/\w'.cell? ⟨b2,5,none⟩=some (ii u.life)/\w'.cell? ⟨b2,6,none⟩=some (ii u.load)/\w'.cell? ⟨b2,7,none⟩=some (ii u.what)/\w'.cell? ⟨b2,8,none⟩=some (ii u.tox)/\w'.cell? ⟨b2,9,none⟩=some (ii u.toy)/\w'.cell? ⟨b2,10,none⟩=some (ii u.target)/\w'.cell? ⟨w.heap.size,0,none⟩=some (ii c.unit)/\w'.cell? ⟨w.heap.size,1,none⟩=some (ii c.what)/\w'.cell? ⟨w.heap.size,2,none⟩=some (ii c.x)/\w'.cell? ⟨w.heap.size,3,none⟩=some (ii c.y)/\w'.cell? ⟨w.heap.size,4,none⟩=some (ii c.target)/\Fr [pb] W4 w')
          (first|with_reducible exact K0|with_reducible exact hS1|with_reducible exact hS2|(with_reducible refine HS _ ?_;with_reducible exact (((((((((((hfr2p.setCell _ _ hpm).setCell _ _ hpm).setCell _ _ hpm).setCell _ _ hpm).setCell _ _ hpm).setCell _ _ hpm).setCell _ _ hpm).setCell _ _ hpm).setCell _ _ hpm).setCell _ _ hpm).setCell _ _ hpm)))
          (first|(go_at_call 194;refine (yy4 u c' _).mono ?_;rintro e w2 ⟨rfl,hf2⟩;have hfr2:Fr [] W4 w2:=hfr1.then0 hf2;have hfr2p:Fr [pb] W4 w2:=hfr2.of0;have hS2:=HS w2 hfr2p;have ht5:=ht4.fr0 hfr2;obtain ⟨c0,c1,c2,c3,c4,c5,c6,c7,c8,c9,c10⟩:=ht5.row.ppl.at HU.out;have hfz:=ht5.row.fz)|(refine Calls.mono (h2 _) ?_;rintro e w1 ⟨rfl,hf1⟩;have hfr1:Fr [] W4 w1:=KF.then0 hf1;have hS1:=HS w1 hfr1.of0))
         all_goals
          go_wp2_with fail
          go_meet
          have hw5:Fr [pb] w w2:=(hw4.then0 hfr2).of0
          refine ⟨?_,?_⟩
          ·with_reducible exact (((((((((((hw5.setCell _ _ (Or.inl (by simp))).setCell _ _ (Or.inl (by simp))).setCell _ _ (Or.inl (by simp))).setCell _ _ (Or.inl (by simp))).setCell _ _ (Or.inl (by simp))).setCell _ _ (Or.inl (by simp))).setCell _ _ (Or.inl (by simp))).setCell _ _ (Or.inl (by simp))).setCell _ _ (Or.inl (by simp))).setCell _ _ (Or.inl (by simp))).setCell _ _ (Or.inl (by simp)))
          ·exact ht5.putU hil (u.ordered c')
        case rest =>
         obtain ⟨hf5,ht5⟩:=hcut
         go_wp2_with fail
         go_ret
         rw [HR.out]
         exact ⟨rfl,hf5,ht5⟩
   ·have hop':(u.owner==p)=false:=by simpa using hop
    rw [if_neg (by simpa using hop)] at hres
    have HRES:=hid hres
    clear hres hplace hk hs hu hop
    go_wp2_with fail
    go_ret
    rw [HRES.out]
    exact ⟨rfl,hwx.of0,htx⟩
end Go.Proofs.YtapabahhfanmmaaGreatDoor
