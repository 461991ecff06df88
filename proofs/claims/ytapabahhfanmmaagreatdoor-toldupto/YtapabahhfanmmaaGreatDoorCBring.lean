import Derived.Test.YtapabahhfanmmaaGreatDoorCMove
namespace Go.Proofs.YtapabahhfanmmaaGreatDoor
open Go.RowKit
set_option maxRecDepth 100000
set_option maxHeartbeats 2000000
theorem qz9 {w:World}{b:Nat}{cs:Array Value}{t:TypeId}(h:w.heap[b]?=some (.cells cs t))(i:Nat)(x:Value):(w.setCell ⟨b,i,none⟩ x).heap[b]?=some (.cells (cs.setIfInBounds i x) t):=by
 rw [setCell_eq_setRow w b i cs t (0,0) x h]
 exact setRow_heap w b cs _ t (0,0) h
theorem set11 {w:World}{b:Nat}{z v:U}{t:TypeId}(h:w.heap[b]?=some (.cells z.arr t)):(((((((((((w.setCell ⟨b,0,none⟩ (.int .i64 v.id)).setCell ⟨b,1,none⟩ (.int .i64 v.owner)).setCell ⟨b,2,none⟩ (.int .i64 v.kind)).setCell ⟨b,3,none⟩ (.int .i64 v.x)).setCell ⟨b,4,none⟩ (.int .i64 v.y)).setCell ⟨b,5,none⟩ (.int .i64 v.life)).setCell ⟨b,6,none⟩ (.int .i64 v.load)).setCell ⟨b,7,none⟩ (.int .i64 v.what)).setCell ⟨b,8,none⟩ (.int .i64 v.tox)).setCell ⟨b,9,none⟩ (.int .i64 v.toy)).setCell ⟨b,10,none⟩ (.int .i64 v.target)).heap[b]?=some (.cells v.arr t):=by
 have h0:=qz9 h 0 (.int .i64 v.id)
 have h1:=qz9 h0 1 (.int .i64 v.owner)
 have h2:=qz9 h1 2 (.int .i64 v.kind)
 have h3:=qz9 h2 3 (.int .i64 v.x)
 have h4:=qz9 h3 4 (.int .i64 v.y)
 have h5:=qz9 h4 5 (.int .i64 v.life)
 have h6:=qz9 h5 6 (.int .i64 v.load)
 have h7:=qz9 h6 7 (.int .i64 v.what)
 have h8:=qz9 h7 8 (.int .i64 v.tox)
 have h9:=qz9 h8 9 (.int .i64 v.toy)
 have h10:=qz9 h9 10 (.int .i64 v.target)
 simpa using h10
theorem Fr.set11 {S:List Nat}{a c:World}(h:Fr S a c)(b:Nat)(v:U)(hb:b∈S\/a.heap.size<=b):Fr S a (((((((((((c.setCell ⟨b,0,none⟩ (.int .i64 v.id)).setCell ⟨b,1,none⟩ (.int .i64 v.owner)).setCell ⟨b,2,none⟩ (.int .i64 v.kind)).setCell ⟨b,3,none⟩ (.int .i64 v.x)).setCell ⟨b,4,none⟩ (.int .i64 v.y)).setCell ⟨b,5,none⟩ (.int .i64 v.life)).setCell ⟨b,6,none⟩ (.int .i64 v.load)).setCell ⟨b,7,none⟩ (.int .i64 v.what)).setCell ⟨b,8,none⟩ (.int .i64 v.tox)).setCell ⟨b,9,none⟩ (.int .i64 v.toy)).setCell ⟨b,10,none⟩ (.int .i64 v.target)) :=
  ((((((((((h.setCell ⟨b,0,none⟩ _ hb).setCell ⟨b,1,none⟩ _ hb).setCell ⟨b,2,none⟩ _ hb).setCell ⟨b,3,none⟩ _ hb).setCell ⟨b,4,none⟩ _ hb).setCell ⟨b,5,none⟩ _ hb).setCell ⟨b,6,none⟩ _ hb).setCell ⟨b,7,none⟩ _ hb).setCell ⟨b,8,none⟩ _ hb).setCell ⟨b,9,none⟩ _ hb).setCell ⟨b,10,none⟩ _ hb
theorem yy1 (a0 a1 a2 x y a5 a6 a7 a8 a9 a10:Int)(w:World) :
 Calls Tryz.prog 192 #[.agg #[ii a0,ii a1,ii a2,ii x,ii y,ii a5,ii a6,ii a7,ii a8,ii a9,ii a10]] w fun e w'=>e=.returned (cv x y)/\Fr [] w w':=qv2 ⟨a0,a1,a2,x,y,a5,a6,a7,a8,a9,a10⟩ w
theorem vw7 (t:T)(v:Int)(pv:Value)(hb bb j:Nat)(hj:j≠2):qq9 { t with s0:=v } pv hb bb j=qq9 t pv hb bb j:=by
 unfold qq9
 by_cases h0:j=0
 ·simp [h0]
 ·by_cases h1:j=1
  ·simp [h1]
  ·rw [if_neg h0,if_neg h1,if_neg hj,if_neg h0,if_neg h1,if_neg hj]
theorem vw8 (t:T)(v:Int)(pv:Value)(hb bb j:Nat)(hj:j≠3):qq9 { t with s1:=v } pv hb bb j=qq9 t pv hb bb j:=by
 unfold qq9
 by_cases h0:j=0
 ·simp [h0]
 ·by_cases h1:j=1
  ·simp [h1]
  ·by_cases h2:j=2
   ·simp [h2]
   ·rw [if_neg h0,if_neg h1,if_neg h2,if_neg hj,if_neg h0,if_neg h1,if_neg h2,if_neg hj]
theorem qz1 (w:World)(b o b' o':Nat)(v:Value)(h:b≠b'\/o≠o'):(w.setCell ⟨b,o,none⟩ v).cell? ⟨b',o',none⟩=w.cell? ⟨b',o',none⟩ :=
  World.cell?_setCell_other w _ _ v (by intro e;cases e;simp at h)
theorem qk0 (w:World)(b o:Nat)(v x:Value)(h:w.cell? ⟨b,o,none⟩=some x):(w.setCell ⟨b,o,none⟩ v).cell? ⟨b,o,none⟩=some v :=
  World.cell?_setCell_same' w _ v (by simp [h])
def T.stock (t:T)(o:Int):Int:=if o=0 then t.s0 else t.s1
def T.setStock (t:T)(o v:Int):T:=if o=0 then { t with s0:=v } else { t with s1:=v }
def qk3 (t:T)(u:U):U×T :=
 match qj8 t.us u.owner with
 | none=>(u,t)
 | some b =>
  if qv5 u.x u.y b.x b.y=true then ({ u with load:=0 },t.setStock u.owner (min (t.stock u.owner+u.load) 1000000000))
  else (u.to (qv7 t u fun c=>qv5 b.x b.y c.1 c.2),t.moved u (qv7 t u fun c=>qv5 b.x b.y c.1 c.2))
theorem fx5 (tb pb cap hb bb:Nat) (t:T) (u:U) (w:World) (h:TS w tb pb cap hb bb t) (hsd:Sd w) (hon:onB u.x u.y=true) (hown:u.owner=0\/u.owner=1) (hbon:∀ b,qj8 t.us u.owner=some b->onB b.x b.y=true)
  (hst:0<=t.stock u.owner/\t.stock u.owner<=1000000000) (hld:0<=u.load/\u.load<=5) :
  Calls Tryz.prog 205 #[.pointer (some ⟨tb,0,none⟩),u.val] w fun e w' =>
   e=.returned (qk3 t u).1.val/\Fr [tb,hb,bb] w w'/\TS w' tb pb cap hb bb (qk3 t u).2:=by
 have hz:=h.z
 have hbl:=h.ways.lt
 have hhl:=h.held.lt
 have htl:=h.lt
 have hpl:=h.row.lt
 obtain ⟨W2,hW2⟩:∃ W,W=(w.alloc (.cells u.arr 85)).alloc (.cells zeroU.arr 85):=⟨_,rfl⟩
 have hs2:W2.heap.size=w.heap.size+1+1:=by rw [hW2];simp
 have h02:Fr [] w W2:=by rw [hW2];exact ((Fr.refl _ _).alloc _).alloc _
 have hU:W2.heap[w.heap.size]?=some (.cells u.arr 85):=by rw [hW2,qz8]
 have hR:W2.heap[w.heap.size+1]?=some (.cells zeroU.arr 85):=by rw [hW2,qz4]
 have HS:∀ w',Fr [] W2 w'->(fun w':World=>cl w' w.heap.size 1 u.owner/\Fr [] W2 w') w':=fun w' hf=>⟨j9 (hf.heap0 hU),hf⟩
 have KF:Fr [] W2 (((w.alloc (.cells u.arr 85)).alloc (.cells zeroU.arr 85)).drew):=by rw [hW2];exact (Fr.refl _ _).drew
 have KA:Fr [] W2 ((((w.alloc (.cells u.arr 85)).alloc (.cells zeroU.arr 85)).alloc (.cells zeroU.arr 85)).drew):=by rw [hW2];exact ((Fr.refl _ _).alloc _).drew
 have K0:=HS _ KF
 obtain ⟨bs,hbs⟩:∃ x,(qj8 t.us u.owner).getD zeroU=x:=⟨_,rfl⟩
 obtain ⟨hr,hhr⟩:∃ x,(qj8 t.us u.owner).isSome=x:=⟨_,rfl⟩
 have HBS:=hid hbs
 have HHR:=hid hhr
 clear hW2 hbs hhr
 go_enter Tryz.func205,Tryz.ntmps205
 go_wp2_with fail
 go_cut [5,6] (fun s5 s6 wx=>∃ b5:Nat,s5=.pointer (some ⟨b5,0,none⟩)/\s6=.bool hr/\wx.heap[b5]?=some (.cells bs.arr 85)/\w.heap.size+1 < b5/\Fr [] W2 wx)
 case first =>
  go_region_held (fun w':World=>w'.cell? ⟨w.heap.size,1,none⟩=some (ii u.owner)/\Fr [] W2 w')
   (first|with_reducible exact K0|with_reducible exact HS _ hfr1|with_reducible exact HS _ (hfr1.alloc _)|with_reducible exact HS _ KA|with_reducible exact HS _ (hfr1.set11 (w.heap.size+1+1) bs (Or.inr (by omega))))
   (first|(go_at_call 92;refine (vj3 tb pb cap t.us u.owner _ (h.gv.fr0 (h02.then0 (And.right (by assumption))))).mono ?_;rintro e w1 ⟨rfl,hf1⟩;rw [HBS.out,HHR.out];have hfr1:Fr [] W2 w1:=Fr.then0 (And.right (by assumption)) hf1;obtain ⟨hc1,hz1⟩:=hf1.cells0;have q4:w.heap.size+1+1<=w1.heap.size:=(by have:=hfr1.size;omega);(first|(have q3:w.heap.size+1+1 < w1.heap.size:=(by have:=hf1.size;simp at this;omega))|skip)))
  all_goals
   go_wp2_with fail
   go_meet
   (first|(have hb0:w1.heap[w.heap.size+1+1]?=some (.cells zeroU.arr 85):=hf1.heap0 (by exact qk1 w _ _ _))|skip)
   refine ⟨_,rfl,rfl,?_,by omega,?_⟩
   ·first
    | with_reducible exact qq6 _ _
    | exact set11 hb0
   ·first
    | with_reducible exact hfr1.alloc _
    | exact hfr1.set11 (w.heap.size+1+1) bs (Or.inr (by omega))
 case rest =>
  obtain ⟨b5,rfl,rfl,hb5,hlt5,hfx⟩:=hcut
  have hux:=hfx.heap0 hU
  have hrx:=hfx.heap0 hR
  have hwx:=h02.then0 hfx
  have hl:=qq2 hrx
  have HR:=hid hrx
  have hts:=h.fr0 hwx
  have hsx:=hsd.fr0 hwx
  cases hr
  ·have hact:qk3 t u=(u,t):=by
    unfold qk3
    have:=HHR.out
    cases hb:qj8 t.us u.owner with
    | none=>rfl
    | some b=>rw [hb] at this;simp at this
   have HA:=hid hact
   clear hact hrx K0 HS KF KA
   go_wp2_with (first|(refine wpList_load_row rfl 85 _ rfl w.heap.size rfl 85 u.arr (0,0) _ hux Tryz.underlying85 rfl qq5 ?_)|(refine wpList_store_row rfl 85 _ _ rfl (w.heap.size+1) u.arr rfl rfl 85 _ HR.out qq5 rfl (U.one _) ?_))
   have hall:Fr [tb,hb,bb] w (wc.setRow (w.heap.size+1) u.arr):=hwx.of0.setRow _ _ (Or.inr (by omega))
   refine bodyPost_ret (v:=u.val) (results_cell_row Tryz.results205 _ _ (w.heap.size+1) 85 u.arr (0,0) _ rfl (setRow_heap _ _ _ u.arr _ _ HR.out) Tryz.underlying85 rfl qq5) rfl ⟨?_,hall,?_⟩
   ·rw [HA.out]
   ·rw [HA.out]
    exact hts.fr ((Fr.refl [w.heap.size+1] wc).setRow _ _ (by simp)) (by simp;omega) (by simp;omega) (by simp;omega) (by simp;omega)
  ·have hbase:qj8 t.us u.owner=some bs:=by
    have h1:=HHR.out
    have h2:=HBS.out
    cases hb:qj8 t.us u.owner with
    | none=>rw [hb] at h1;simp at h1
    | some b=>rw [hb] at h2;simp at h2;rw [h2]
   have hbon':=hbon bs hbase
   obtain ⟨p0,p1,p2,p3⟩:=qz3.1 hon
   obtain ⟨p4,p5,p6,p7⟩:=qz3.1 hbon'
   obtain ⟨A,hA⟩:∃ A,qv5 u.x u.y bs.x bs.y=A:=⟨_,rfl⟩
   have HS4:∀ w',Fr [] wc w'->(fun w':World=>Fr [] W2 w'/\Fr [] wc w'/\w'.cell? ⟨w.heap.size,0,none⟩=some (ii u.id)/\w'.cell? ⟨w.heap.size,1,none⟩=some (ii u.owner)/\w'.cell? ⟨w.heap.size,2,none⟩=some (ii u.kind)/\w'.cell? ⟨w.heap.size,3,none⟩=some (ii u.x)/\w'.cell? ⟨w.heap.size,4,none⟩=some (ii u.y)/\w'.cell? ⟨w.heap.size,5,none⟩=some (ii u.life)/\w'.cell? ⟨w.heap.size,6,none⟩=some (ii u.load)/\w'.cell? ⟨w.heap.size,7,none⟩=some (ii u.what)/\w'.cell? ⟨w.heap.size,8,none⟩=some (ii u.tox)/\w'.cell? ⟨w.heap.size,9,none⟩=some (ii u.toy)/\w'.cell? ⟨w.heap.size,10,none⟩=some (ii u.target)/\w'.cell? ⟨b5,0,none⟩=some (ii bs.id)/\w'.cell? ⟨b5,1,none⟩=some (ii bs.owner)/\w'.cell? ⟨b5,2,none⟩=some (ii bs.kind)/\w'.cell? ⟨b5,3,none⟩=some (ii bs.x)/\w'.cell? ⟨b5,4,none⟩=some (ii bs.y)/\w'.cell? ⟨b5,5,none⟩=some (ii bs.life)/\w'.cell? ⟨b5,6,none⟩=some (ii bs.load)/\w'.cell? ⟨b5,7,none⟩=some (ii bs.what)/\w'.cell? ⟨b5,8,none⟩=some (ii bs.tox)/\w'.cell? ⟨b5,9,none⟩=some (ii bs.toy)/\w'.cell? ⟨b5,10,none⟩=some (ii bs.target)) w':=fun w' hf=>by
    have hu:=hf.heap0 hux
    have hb:=hf.heap0 hb5
    exact ⟨hfx.then0 hf,hf,j9 hu,j9 hu,j9 hu,j9 hu,j9 hu,j9 hu,j9 hu,j9 hu,j9 hu,j9 hu,j9 hu,j9 hb,j9 hb,j9 hb,j9 hb,j9 hb,j9 hb,j9 hb,j9 hb,j9 hb,j9 hb,j9 hb⟩
   have K4:=HS4 wc.drew ((Fr.refl [] wc).drew)
   have HBA:=hid hbase
   have HAA:=hid hA
   clear hbase hA hrx K0 HS KF KA hbon
   go_wp2_with fail
   go_cut [25] (fun s25 wx=>s25=.bool (!A)/\Fr [] wc wx)
   case first =>
    go_region_held (fun w':World=>Fr [] W2 w'/\Fr [] wc w'/\w'.cell? ⟨w.heap.size,0,none⟩=some (ii u.id)/\w'.cell? ⟨w.heap.size,1,none⟩=some (ii u.owner)/\w'.cell? ⟨w.heap.size,2,none⟩=some (ii u.kind)/\w'.cell? ⟨w.heap.size,3,none⟩=some (ii u.x)/\w'.cell? ⟨w.heap.size,4,none⟩=some (ii u.y)/\w'.cell? ⟨w.heap.size,5,none⟩=some (ii u.life)/\w'.cell? ⟨w.heap.size,6,none⟩=some (ii u.load)/\w'.cell? ⟨w.heap.size,7,none⟩=some (ii u.what)/\w'.cell? ⟨w.heap.size,8,none⟩=some (ii u.tox)/\w'.cell? ⟨w.heap.size,9,none⟩=some (ii u.toy)/\w'.cell? ⟨w.heap.size,10,none⟩=some (ii u.target)/\w'.cell? ⟨b5,0,none⟩=some (ii bs.id)/\w'.cell? ⟨b5,1,none⟩=some (ii bs.owner)/\w'.cell? ⟨b5,2,none⟩=some (ii bs.kind)/\w'.cell? ⟨b5,3,none⟩=some (ii bs.x)/\w'.cell? ⟨b5,4,none⟩=some (ii bs.y)/\w'.cell? ⟨b5,5,none⟩=some (ii bs.life)/\w'.cell? ⟨b5,6,none⟩=some (ii bs.load)/\w'.cell? ⟨b5,7,none⟩=some (ii bs.what)/\w'.cell? ⟨b5,8,none⟩=some (ii bs.tox)/\w'.cell? ⟨b5,9,none⟩=some (ii bs.toy)/\w'.cell? ⟨b5,10,none⟩=some (ii bs.target))
     (first|with_reducible exact K4|with_reducible exact HS4 _ hfk)
     (first|(go_at_call 192;refine (yy1 _ _ _ _ _ _ _ _ _ _ _ _).mono ?_;rintro e w1 ⟨rfl,hf1⟩;have hfk:Fr [] wc w1:=Fr.then0 (And.left (And.right (by assumption))) hf1)|(go_at_call 206;refine (zk6 u.x u.y bs.x bs.y _ (hsx.fr0 (And.left (And.right (by assumption)))) (by omega) (by omega) (by omega) (by omega) (by omega) (by omega) (by omega) (by omega)).mono ?_;rintro e w1 ⟨rfl,hf1⟩;rw [HAA.out];have hfk:Fr [] wc w1:=Fr.then0 (And.left (And.right (by assumption))) hf1))
    all_goals
     go_wp2_with fail
     go_meet
     exact ⟨rfl,hfk⟩
   case rest =>
    obtain ⟨rfl,hfy⟩:=hcut
    have hwy:=hwx.then0 hfy
    have huy:=hfy.heap0 hux
    have hby:=hfy.heap0 hb5
    have hry:=hfy.heap0 HR.out
    have hty:=hts.fr0 hfy
    have hsy:=hsx.fr0 hfy
    have HRY:=hid hry
    clear hux hb5 hts hsx HS4 K4 hry
    cases A
    ·have hact:qk3 t u=(u.to (qv7 t u fun c=>qv5 bs.x bs.y c.1 c.2),t.moved u (qv7 t u fun c=>qv5 bs.x bs.y c.1 c.2)):=by
      unfold qk3;rw [HBA.out];simp only;rw [HAA.out];rfl
     have HA:=hid hact
     clear hact
     obtain ⟨v,hv⟩:∃ v,u.to (bfs (fun c=>qv3 (qx2 t.held) t.bd c.1 c.2) (fun c=>qv5 bs.x bs.y c.1 c.2) (u.x,u.y))=v:=⟨_,rfl⟩
     have HV:=hid hv
     clear hv
     have HS5:∀ w',Fr [w.heap.size+1,hb,bb] wc w'->(fun w':World=>w'.cell? ⟨w.heap.size,0,none⟩=some (ii u.id)/\w'.cell? ⟨w.heap.size,1,none⟩=some (ii u.owner)/\w'.cell? ⟨w.heap.size,2,none⟩=some (ii u.kind)/\w'.cell? ⟨w.heap.size,3,none⟩=some (ii u.x)/\w'.cell? ⟨w.heap.size,4,none⟩=some (ii u.y)/\w'.cell? ⟨w.heap.size,5,none⟩=some (ii u.life)/\w'.cell? ⟨w.heap.size,6,none⟩=some (ii u.load)/\w'.cell? ⟨w.heap.size,7,none⟩=some (ii u.what)/\w'.cell? ⟨w.heap.size,8,none⟩=some (ii u.tox)/\w'.cell? ⟨w.heap.size,9,none⟩=some (ii u.toy)/\w'.cell? ⟨w.heap.size,10,none⟩=some (ii u.target)/\w'.cell? ⟨b5,0,none⟩=some (ii bs.id)/\w'.cell? ⟨b5,1,none⟩=some (ii bs.owner)/\w'.cell? ⟨b5,2,none⟩=some (ii bs.kind)/\w'.cell? ⟨b5,3,none⟩=some (ii bs.x)/\w'.cell? ⟨b5,4,none⟩=some (ii bs.y)/\w'.cell? ⟨b5,5,none⟩=some (ii bs.life)/\w'.cell? ⟨b5,6,none⟩=some (ii bs.load)/\w'.cell? ⟨b5,7,none⟩=some (ii bs.what)/\w'.cell? ⟨b5,8,none⟩=some (ii bs.tox)/\w'.cell? ⟨b5,9,none⟩=some (ii bs.toy)/\w'.cell? ⟨b5,10,none⟩=some (ii bs.target)) w':=fun w' hf=>by
      have hu:=hf.heap huy (by simp;omega)
      have hb:=hf.heap hby (by simp;omega)
      exact ⟨j9 hu,j9 hu,j9 hu,j9 hu,j9 hu,j9 hu,j9 hu,j9 hu,j9 hu,j9 hu,j9 hu,j9 hb,j9 hb,j9 hb,j9 hb,j9 hb,j9 hb,j9 hb,j9 hb,j9 hb,j9 hb,j9 hb⟩
     have K5:=HS5 wc.drew ((Fr.refl _ wc).drew)
     have hmf:∀ (fn:Fn) (first cap:Array Value) (w:World),(Instr.makeFunc fn first cap).run Tryz.prog w=.ok (.func fn first cap) w:=fun _ _ _ _=>rfl
     go_wp2_with fail
     go_cut [] (fun wx=>wx.heap[w.heap.size+1]?=some (.cells v.arr 85)/\Fr [w.heap.size+1,hb,bb] wc wx/\TS wx tb pb cap hb bb (t.moved u (qv7 t u fun c=>qv5 bs.x bs.y c.1 c.2)))
     case first =>
      go_region_held (fun w':World=>w'.cell? ⟨w.heap.size,0,none⟩=some (ii u.id)/\w'.cell? ⟨w.heap.size,1,none⟩=some (ii u.owner)/\w'.cell? ⟨w.heap.size,2,none⟩=some (ii u.kind)/\w'.cell? ⟨w.heap.size,3,none⟩=some (ii u.x)/\w'.cell? ⟨w.heap.size,4,none⟩=some (ii u.y)/\w'.cell? ⟨w.heap.size,5,none⟩=some (ii u.life)/\w'.cell? ⟨w.heap.size,6,none⟩=some (ii u.load)/\w'.cell? ⟨w.heap.size,7,none⟩=some (ii u.what)/\w'.cell? ⟨w.heap.size,8,none⟩=some (ii u.tox)/\w'.cell? ⟨w.heap.size,9,none⟩=some (ii u.toy)/\w'.cell? ⟨w.heap.size,10,none⟩=some (ii u.target)/\w'.cell? ⟨b5,0,none⟩=some (ii bs.id)/\w'.cell? ⟨b5,1,none⟩=some (ii bs.owner)/\w'.cell? ⟨b5,2,none⟩=some (ii bs.kind)/\w'.cell? ⟨b5,3,none⟩=some (ii bs.x)/\w'.cell? ⟨b5,4,none⟩=some (ii bs.y)/\w'.cell? ⟨b5,5,none⟩=some (ii bs.life)/\w'.cell? ⟨b5,6,none⟩=some (ii bs.load)/\w'.cell? ⟨b5,7,none⟩=some (ii bs.what)/\w'.cell? ⟨b5,8,none⟩=some (ii bs.tox)/\w'.cell? ⟨b5,9,none⟩=some (ii bs.toy)/\w'.cell? ⟨b5,10,none⟩=some (ii bs.target))
       (first|with_reducible exact K5|with_reducible exact HS5 _ hfk6|with_reducible exact HS5 _ hfm6|with_reducible exact HS5 _ (hfm6.set11 (w.heap.size+1) v (Or.inl (by simp))))
       (first|(go_at_call 192;refine (yy1 _ _ _ _ _ _ _ _ _ _ _ _).mono ?_;rintro e w1 ⟨rfl,hf1⟩;have hfk0:Fr [] wc w1:=((Fr.refl [] wc).drew).then0 hf1;have hfk:Fr [hb,bb] wc w1:=hfk0.of0;have hfk6:Fr [w.heap.size+1,hb,bb] wc w1:=hfk0.of0)|(go_at_call 202;refine (xw5 tb pb cap hb bb t u bs.x bs.y _ (hty.fr0 hfk0) (hsy.fr0 hfk0) hon hbon').mono ?_;rintro e w5 ⟨rfl,hf5,ht5⟩;rw [HV.out];have hfm:Fr [hb,bb] wc w5:=hfk.trans hf5 (by simp);have hfm6:Fr [w.heap.size+1,hb,bb] wc w5:=hfm.mono (by simp);have hr5:=hfm.heap HRY.out (by simp;omega);have hrc:∀ j,w5.cell? ⟨w.heap.size+1,j,none⟩=zeroU.arr[j]?:=(fun j=>j9 hr5);have hrf:∀ j,w5.frozen? ⟨w.heap.size+1,j,none⟩=false:=(fun j=>qq0 hr5)))
      all_goals
       go_wp2_with fail
       go_meet
       exact ⟨set11 hr5,hfm6.set11 (w.heap.size+1) v (Or.inl (by simp)),ht5.fr ((Fr.refl [w.heap.size+1] w5).set11 (w.heap.size+1) v (by simp)) (by simp;omega) (by simp;omega) (by simp;omega) (by simp;omega)⟩
     case rest =>
      obtain ⟨hrz,hfz,htz⟩:=hcut
      clear HS5 K5 hmf
      go_wp2_with fail
      have hall:Fr [tb,hb,bb] w wc:=(hwy.of0 (S:=[tb,hb,bb])).trans hfz (by simp)
      refine bodyPost_ret (v:=v.val) (results_cell_row Tryz.results205 _ _ (w.heap.size+1) 85 v.arr (0,0) _ rfl hrz Tryz.underlying85 rfl qq5) rfl ⟨?_,hall,?_⟩
      ·rw [HA.out,<- HV.out];rfl
      ·rw [HA.out];exact htz
    ·rcases hown with ho|ho
     ·have c2:wc.cell? ⟨tb,2,none⟩=some (ii t.s0):=by have:=hty.cell 2 (by omega);simpa [qq9] using this
      have z2:=hty.fz 2
      have u1:wc.cell? ⟨w.heap.size,1,none⟩=some (ii u.owner):=j9 huy
      have u6:wc.cell? ⟨w.heap.size,6,none⟩=some (ii u.load):=j9 huy
      have zu6:wc.frozen? ⟨w.heap.size,6,none⟩=false:=qq0 huy
      have dn:¬ (tb=w.heap.size):=by omega
      have dn':¬ (w.heap.size=tb):=by omega
      have hs0:t.stock u.owner=t.s0:=by unfold T.stock;rw [if_pos ho]
      rw [hs0] at hst
      obtain ⟨hst1,hst2⟩:=hst
      obtain ⟨hld1,hld2⟩:=hld
      have HSS:=hid hs0
      have HSet:∀ v,t.setStock u.owner v={ t with s0:=v }:=fun v=>by unfold T.setStock;rw [if_pos ho]
      have HSE:=hid HSet
      clear hs0 HSet
      by_cases hmn:t.s0+u.load<=1000000000
      ·have hact:qk3 t u=({ u with load:=0 },{ t with s0:=(t.s0+u.load) }):=by
        unfold qk3;rw [HBA.out];simp only;rw [HAA.out,HSE.out,HSS.out,if_pos rfl,Int.min_eq_left hmn]
       have HA:=hid hact
       have hUU:((wc.setCell ⟨tb,2,none⟩ (.int .i64 (t.s0+u.load))).setCell ⟨w.heap.size,6,none⟩ (.int .i64 0)).drew.drew.heap[w.heap.size]?=some (.cells (U.arr { u with load:=0 }) 85):=by
        have h1:(wc.setCell ⟨tb,2,none⟩ (.int .i64 (t.s0+u.load))).heap[w.heap.size]?=some (.cells u.arr 85):=by rw [Below.heap_setCell _ _ _ _ (by simp;omega)];exact huy
        have h2:=qz9 h1 6 (.int .i64 0)
        exact h2.trans (by simp)
       have hRU:((wc.setCell ⟨tb,2,none⟩ (.int .i64 (t.s0+u.load))).setCell ⟨w.heap.size,6,none⟩ (.int .i64 0)).drew.drew.heap[w.heap.size+1]?=some (.cells zeroU.arr 85):=by
        show ((wc.setCell ⟨tb,2,none⟩ (.int .i64 (t.s0+u.load))).setCell ⟨w.heap.size,6,none⟩ (.int .i64 0)).heap[w.heap.size+1]?=_
        rw [Below.heap_setCell _ _ _ _ (by simp),Below.heap_setCell _ _ _ _ (by simp;omega)];exact HRY.out
       clear hact
       go_wp2_with fail
       go_region
       go_wp2_with fail
       go_region
       go_wp2_with (first|(refine wpList_load_row rfl 85 _ rfl w.heap.size rfl 85 (U.arr { u with load:=0 }) (0,0) _ hUU Tryz.underlying85 rfl qq5 ?_)|(refine wpList_store_row rfl 85 _ _ rfl (w.heap.size+1) (U.arr { u with load:=0 }) rfl rfl 85 _ hRU qq5 rfl (U.one _) ?_))
       have hfin:Fr [tb,w.heap.size,w.heap.size+1] wc (((wc.setCell ⟨tb,2,none⟩ (.int .i64 (t.s0+u.load))).setCell ⟨w.heap.size,6,none⟩ (.int .i64 0)).drew.drew.setRow (w.heap.size+1) (U.arr { u with load:=0 })) :=
        ((((((Fr.refl _ _).setCell _ _ (by simp)).setCell _ _ (by simp)).drew).drew).setRow _ _ (by simp))
       have hall:=((hwy.of0 (S:=[tb,hb,bb])).trans hfin (by simp))
       refine bodyPost_ret (v:=U.val { u with load:=0 }) (results_cell_row Tryz.results205 _ _ (w.heap.size+1) 85 (U.arr { u with load:=0 }) (0,0) _ rfl (setRow_heap _ _ _ _ _ _ hRU) Tryz.underlying85 rfl qq5) rfl ⟨?_,hall,?_⟩
       ·rw [HA.out]
       ·rw [HA.out]
        refine { hty with cell:=?_,fz:=?_,row:=hty.row.fr hfin (by simp;exact ⟨fun e=>hty.n1 e.symm,by omega,by omega⟩),held:=hty.held.fr hfin (by simp;exact ⟨fun e=>hty.n2 e.symm,by omega,by omega⟩),ways:=hty.ways.fr hfin (by simp;exact ⟨fun e=>hty.n3 e.symm,by omega,by omega⟩) }
        ·intro j hj
         rw [cell_setRow_other _ _ _ _ (by simp;omega)]
         show (((wc.setCell ⟨tb,2,none⟩ (.int .i64 (t.s0+u.load))).setCell ⟨w.heap.size,6,none⟩ (.int .i64 0))).cell? ⟨tb,j,none⟩=_
         rw [qz1 _ w.heap.size 6 tb j _ (Or.inl (by omega))]
         by_cases hjk:j=2
         ·subst hjk
          rw [qk0 _ _ _ _ _ c2]
          simp [qq9]
         ·rw [qz1 _ tb 2 tb j _ (Or.inr (by omega)),hty.cell j hj]
          exact congrArg some (vw7 t _ _ hb bb j hjk).symm
        ·intro j
         rw [World.frozen?_of_block (w:=((wc.setCell ⟨tb,2,none⟩ (.int .i64 (t.s0+u.load))).setCell ⟨w.heap.size,6,none⟩ (.int .i64 0)).drew.drew) (setRow_other _ _ _ _ (by simp;omega))]
         show (((wc.setCell ⟨tb,2,none⟩ (.int .i64 (t.s0+u.load))).setCell ⟨w.heap.size,6,none⟩ (.int .i64 0))).frozen? ⟨tb,j,none⟩=false
         rw [World.frozen?_setCell,World.frozen?_setCell]
         exact hty.fz j
      ·have hact:qk3 t u=({ u with load:=0 },{ t with s0:=1000000000 }):=by
        unfold qk3;rw [HBA.out];simp only;rw [HAA.out,HSE.out,HSS.out,if_pos rfl,Int.min_eq_right (by omega)]
       have HA:=hid hact
       have hUU:((wc.setCell ⟨tb,2,none⟩ (.int .i64 1000000000)).setCell ⟨w.heap.size,6,none⟩ (.int .i64 0)).drew.drew.heap[w.heap.size]?=some (.cells (U.arr { u with load:=0 }) 85):=by
        have h1:(wc.setCell ⟨tb,2,none⟩ (.int .i64 1000000000)).heap[w.heap.size]?=some (.cells u.arr 85):=by rw [Below.heap_setCell _ _ _ _ (by simp;omega)];exact huy
        have h2:=qz9 h1 6 (.int .i64 0)
        exact h2.trans (by simp)
       have hRU:((wc.setCell ⟨tb,2,none⟩ (.int .i64 1000000000)).setCell ⟨w.heap.size,6,none⟩ (.int .i64 0)).drew.drew.heap[w.heap.size+1]?=some (.cells zeroU.arr 85):=by
        show ((wc.setCell ⟨tb,2,none⟩ (.int .i64 1000000000)).setCell ⟨w.heap.size,6,none⟩ (.int .i64 0)).heap[w.heap.size+1]?=_
        rw [Below.heap_setCell _ _ _ _ (by simp),Below.heap_setCell _ _ _ _ (by simp;omega)];exact HRY.out
       clear hact
       go_wp2_with fail
       go_region
       go_wp2_with fail
       go_region
       go_wp2_with (first|(refine wpList_load_row rfl 85 _ rfl w.heap.size rfl 85 (U.arr { u with load:=0 }) (0,0) _ hUU Tryz.underlying85 rfl qq5 ?_)|(refine wpList_store_row rfl 85 _ _ rfl (w.heap.size+1) (U.arr { u with load:=0 }) rfl rfl 85 _ hRU qq5 rfl (U.one _) ?_))
       have hfin:Fr [tb,w.heap.size,w.heap.size+1] wc (((wc.setCell ⟨tb,2,none⟩ (.int .i64 1000000000)).setCell ⟨w.heap.size,6,none⟩ (.int .i64 0)).drew.drew.setRow (w.heap.size+1) (U.arr { u with load:=0 })) :=
        ((((((Fr.refl _ _).setCell _ _ (by simp)).setCell _ _ (by simp)).drew).drew).setRow _ _ (by simp))
       have hall:=((hwy.of0 (S:=[tb,hb,bb])).trans hfin (by simp))
       refine bodyPost_ret (v:=U.val { u with load:=0 }) (results_cell_row Tryz.results205 _ _ (w.heap.size+1) 85 (U.arr { u with load:=0 }) (0,0) _ rfl (setRow_heap _ _ _ _ _ _ hRU) Tryz.underlying85 rfl qq5) rfl ⟨?_,hall,?_⟩
       ·rw [HA.out]
       ·rw [HA.out]
        refine { hty with cell:=?_,fz:=?_,row:=hty.row.fr hfin (by simp;exact ⟨fun e=>hty.n1 e.symm,by omega,by omega⟩),held:=hty.held.fr hfin (by simp;exact ⟨fun e=>hty.n2 e.symm,by omega,by omega⟩),ways:=hty.ways.fr hfin (by simp;exact ⟨fun e=>hty.n3 e.symm,by omega,by omega⟩) }
        ·intro j hj
         rw [cell_setRow_other _ _ _ _ (by simp;omega)]
         show (((wc.setCell ⟨tb,2,none⟩ (.int .i64 1000000000)).setCell ⟨w.heap.size,6,none⟩ (.int .i64 0))).cell? ⟨tb,j,none⟩=_
         rw [qz1 _ w.heap.size 6 tb j _ (Or.inl (by omega))]
         by_cases hjk:j=2
         ·subst hjk
          rw [qk0 _ _ _ _ _ c2]
          simp [qq9]
         ·rw [qz1 _ tb 2 tb j _ (Or.inr (by omega)),hty.cell j hj]
          exact congrArg some (vw7 t _ _ hb bb j hjk).symm
        ·intro j
         rw [World.frozen?_of_block (w:=((wc.setCell ⟨tb,2,none⟩ (.int .i64 1000000000)).setCell ⟨w.heap.size,6,none⟩ (.int .i64 0)).drew.drew) (setRow_other _ _ _ _ (by simp;omega))]
         show (((wc.setCell ⟨tb,2,none⟩ (.int .i64 1000000000)).setCell ⟨w.heap.size,6,none⟩ (.int .i64 0))).frozen? ⟨tb,j,none⟩=false
         rw [World.frozen?_setCell,World.frozen?_setCell]
         exact hty.fz j
     ·have c2:wc.cell? ⟨tb,3,none⟩=some (ii t.s1):=by have:=hty.cell 3 (by omega);simpa [qq9] using this
      have z2:=hty.fz 3
      have u1:wc.cell? ⟨w.heap.size,1,none⟩=some (ii u.owner):=j9 huy
      have u6:wc.cell? ⟨w.heap.size,6,none⟩=some (ii u.load):=j9 huy
      have zu6:wc.frozen? ⟨w.heap.size,6,none⟩=false:=qq0 huy
      have dn:¬ (tb=w.heap.size):=by omega
      have dn':¬ (w.heap.size=tb):=by omega
      have hs0:t.stock u.owner=t.s1:=by unfold T.stock;rw [if_neg (by omega)]
      rw [hs0] at hst
      obtain ⟨hst1,hst2⟩:=hst
      obtain ⟨hld1,hld2⟩:=hld
      have HSS:=hid hs0
      have HSet:∀ v,t.setStock u.owner v={ t with s1:=v }:=fun v=>by unfold T.setStock;rw [if_neg (by omega)]
      have HSE:=hid HSet
      clear hs0 HSet
      by_cases hmn:t.s1+u.load<=1000000000
      ·have hact:qk3 t u=({ u with load:=0 },{ t with s1:=(t.s1+u.load) }):=by
        unfold qk3;rw [HBA.out];simp only;rw [HAA.out,HSE.out,HSS.out,if_pos rfl,Int.min_eq_left hmn]
       have HA:=hid hact
       have hUU:((wc.setCell ⟨tb,3,none⟩ (.int .i64 (t.s1+u.load))).setCell ⟨w.heap.size,6,none⟩ (.int .i64 0)).drew.drew.heap[w.heap.size]?=some (.cells (U.arr { u with load:=0 }) 85):=by
        have h1:(wc.setCell ⟨tb,3,none⟩ (.int .i64 (t.s1+u.load))).heap[w.heap.size]?=some (.cells u.arr 85):=by rw [Below.heap_setCell _ _ _ _ (by simp;omega)];exact huy
        have h2:=qz9 h1 6 (.int .i64 0)
        exact h2.trans (by simp)
       have hRU:((wc.setCell ⟨tb,3,none⟩ (.int .i64 (t.s1+u.load))).setCell ⟨w.heap.size,6,none⟩ (.int .i64 0)).drew.drew.heap[w.heap.size+1]?=some (.cells zeroU.arr 85):=by
        show ((wc.setCell ⟨tb,3,none⟩ (.int .i64 (t.s1+u.load))).setCell ⟨w.heap.size,6,none⟩ (.int .i64 0)).heap[w.heap.size+1]?=_
        rw [Below.heap_setCell _ _ _ _ (by simp),Below.heap_setCell _ _ _ _ (by simp;omega)];exact HRY.out
       clear hact
       go_wp2_with fail
       go_region
       go_wp2_with fail
       go_region
       go_wp2_with (first|(refine wpList_load_row rfl 85 _ rfl w.heap.size rfl 85 (U.arr { u with load:=0 }) (0,0) _ hUU Tryz.underlying85 rfl qq5 ?_)|(refine wpList_store_row rfl 85 _ _ rfl (w.heap.size+1) (U.arr { u with load:=0 }) rfl rfl 85 _ hRU qq5 rfl (U.one _) ?_))
       have hfin:Fr [tb,w.heap.size,w.heap.size+1] wc (((wc.setCell ⟨tb,3,none⟩ (.int .i64 (t.s1+u.load))).setCell ⟨w.heap.size,6,none⟩ (.int .i64 0)).drew.drew.setRow (w.heap.size+1) (U.arr { u with load:=0 })) :=
        ((((((Fr.refl _ _).setCell _ _ (by simp)).setCell _ _ (by simp)).drew).drew).setRow _ _ (by simp))
       have hall:=((hwy.of0 (S:=[tb,hb,bb])).trans hfin (by simp))
       refine bodyPost_ret (v:=U.val { u with load:=0 }) (results_cell_row Tryz.results205 _ _ (w.heap.size+1) 85 (U.arr { u with load:=0 }) (0,0) _ rfl (setRow_heap _ _ _ _ _ _ hRU) Tryz.underlying85 rfl qq5) rfl ⟨?_,hall,?_⟩
       ·rw [HA.out]
       ·rw [HA.out]
        refine { hty with cell:=?_,fz:=?_,row:=hty.row.fr hfin (by simp;exact ⟨fun e=>hty.n1 e.symm,by omega,by omega⟩),held:=hty.held.fr hfin (by simp;exact ⟨fun e=>hty.n2 e.symm,by omega,by omega⟩),ways:=hty.ways.fr hfin (by simp;exact ⟨fun e=>hty.n3 e.symm,by omega,by omega⟩) }
        ·intro j hj
         rw [cell_setRow_other _ _ _ _ (by simp;omega)]
         show (((wc.setCell ⟨tb,3,none⟩ (.int .i64 (t.s1+u.load))).setCell ⟨w.heap.size,6,none⟩ (.int .i64 0))).cell? ⟨tb,j,none⟩=_
         rw [qz1 _ w.heap.size 6 tb j _ (Or.inl (by omega))]
         by_cases hjk:j=3
         ·subst hjk
          rw [qk0 _ _ _ _ _ c2]
          simp [qq9]
         ·rw [qz1 _ tb 3 tb j _ (Or.inr (by omega)),hty.cell j hj]
          exact congrArg some (vw8 t _ _ hb bb j hjk).symm
        ·intro j
         rw [World.frozen?_of_block (w:=((wc.setCell ⟨tb,3,none⟩ (.int .i64 (t.s1+u.load))).setCell ⟨w.heap.size,6,none⟩ (.int .i64 0)).drew.drew) (setRow_other _ _ _ _ (by simp;omega))]
         show (((wc.setCell ⟨tb,3,none⟩ (.int .i64 (t.s1+u.load))).setCell ⟨w.heap.size,6,none⟩ (.int .i64 0))).frozen? ⟨tb,j,none⟩=false
         rw [World.frozen?_setCell,World.frozen?_setCell]
         exact hty.fz j
      ·have hact:qk3 t u=({ u with load:=0 },{ t with s1:=1000000000 }):=by
        unfold qk3;rw [HBA.out];simp only;rw [HAA.out,HSE.out,HSS.out,if_pos rfl,Int.min_eq_right (by omega)]
       have HA:=hid hact
       have hUU:((wc.setCell ⟨tb,3,none⟩ (.int .i64 1000000000)).setCell ⟨w.heap.size,6,none⟩ (.int .i64 0)).drew.drew.heap[w.heap.size]?=some (.cells (U.arr { u with load:=0 }) 85):=by
        have h1:(wc.setCell ⟨tb,3,none⟩ (.int .i64 1000000000)).heap[w.heap.size]?=some (.cells u.arr 85):=by rw [Below.heap_setCell _ _ _ _ (by simp;omega)];exact huy
        have h2:=qz9 h1 6 (.int .i64 0)
        exact h2.trans (by simp)
       have hRU:((wc.setCell ⟨tb,3,none⟩ (.int .i64 1000000000)).setCell ⟨w.heap.size,6,none⟩ (.int .i64 0)).drew.drew.heap[w.heap.size+1]?=some (.cells zeroU.arr 85):=by
        show ((wc.setCell ⟨tb,3,none⟩ (.int .i64 1000000000)).setCell ⟨w.heap.size,6,none⟩ (.int .i64 0)).heap[w.heap.size+1]?=_
        rw [Below.heap_setCell _ _ _ _ (by simp),Below.heap_setCell _ _ _ _ (by simp;omega)];exact HRY.out
       clear hact
       go_wp2_with fail
       go_region
       go_wp2_with fail
       go_region
       go_wp2_with (first|(refine wpList_load_row rfl 85 _ rfl w.heap.size rfl 85 (U.arr { u with load:=0 }) (0,0) _ hUU Tryz.underlying85 rfl qq5 ?_)|(refine wpList_store_row rfl 85 _ _ rfl (w.heap.size+1) (U.arr { u with load:=0 }) rfl rfl 85 _ hRU qq5 rfl (U.one _) ?_))
       have hfin:Fr [tb,w.heap.size,w.heap.size+1] wc (((wc.setCell ⟨tb,3,none⟩ (.int .i64 1000000000)).setCell ⟨w.heap.size,6,none⟩ (.int .i64 0)).drew.drew.setRow (w.heap.size+1) (U.arr { u with load:=0 })) :=
        ((((((Fr.refl _ _).setCell _ _ (by simp)).setCell _ _ (by simp)).drew).drew).setRow _ _ (by simp))
       have hall:=((hwy.of0 (S:=[tb,hb,bb])).trans hfin (by simp))
       refine bodyPost_ret (v:=U.val { u with load:=0 }) (results_cell_row Tryz.results205 _ _ (w.heap.size+1) 85 (U.arr { u with load:=0 }) (0,0) _ rfl (setRow_heap _ _ _ _ _ _ hRU) Tryz.underlying85 rfl qq5) rfl ⟨?_,hall,?_⟩
       ·rw [HA.out]
       ·rw [HA.out]
        refine { hty with cell:=?_,fz:=?_,row:=hty.row.fr hfin (by simp;exact ⟨fun e=>hty.n1 e.symm,by omega,by omega⟩),held:=hty.held.fr hfin (by simp;exact ⟨fun e=>hty.n2 e.symm,by omega,by omega⟩),ways:=hty.ways.fr hfin (by simp;exact ⟨fun e=>hty.n3 e.symm,by omega,by omega⟩) }
        ·intro j hj
         rw [cell_setRow_other _ _ _ _ (by simp;omega)]
         show (((wc.setCell ⟨tb,3,none⟩ (.int .i64 1000000000)).setCell ⟨w.heap.size,6,none⟩ (.int .i64 0))).cell? ⟨tb,j,none⟩=_
         rw [qz1 _ w.heap.size 6 tb j _ (Or.inl (by omega))]
         by_cases hjk:j=3
         ·subst hjk
          rw [qk0 _ _ _ _ _ c2]
          simp [qq9]
         ·rw [qz1 _ tb 3 tb j _ (Or.inr (by omega)),hty.cell j hj]
          exact congrArg some (vw8 t _ _ hb bb j hjk).symm
        ·intro j
         rw [World.frozen?_of_block (w:=((wc.setCell ⟨tb,3,none⟩ (.int .i64 1000000000)).setCell ⟨w.heap.size,6,none⟩ (.int .i64 0)).drew.drew) (setRow_other _ _ _ _ (by simp;omega))]
         show (((wc.setCell ⟨tb,3,none⟩ (.int .i64 1000000000)).setCell ⟨w.heap.size,6,none⟩ (.int .i64 0))).frozen? ⟨tb,j,none⟩=false
         rw [World.frozen?_setCell,World.frozen?_setCell]
         exact hty.fz j
end Go.Proofs.YtapabahhfanmmaaGreatDoor
