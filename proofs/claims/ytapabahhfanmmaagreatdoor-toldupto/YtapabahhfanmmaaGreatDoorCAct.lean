import Derived.Test.YtapabahhfanmmaaGreatDoorCInv3
namespace Go.Proofs.YtapabahhfanmmaaGreatDoor
open Go.RowKit
set_option maxRecDepth 100000
set_option maxHeartbeats 2000000
theorem fy2 {w:World}{b:Nat}{x y z z':Value}{t:TypeId}(h:w.heap[b]?=some (.cells #[x,y,z,z'] t))(p q r r':Value):((((w.setCell ⟨b,0,none⟩ p).setCell ⟨b,1,none⟩ q).setCell ⟨b,2,none⟩ r).setCell ⟨b,3,none⟩ r').heap[b]?=some (.cells #[p,q,r,r'] t):=by
 have h0:=qz9 h 0 p
 have h1:=qz9 h0 1 q
 have h2:=qz9 h1 2 r
 have h3:=qz9 h2 3 r'
 simpa using h3
theorem TS.putU {w:World}{tb pb cap hb bb:Nat}{t:T}(h:TS w tb pb cap hb bb t){i:Nat}(hi:i < t.us.length)(u':U):TS (w.setCells pb (i*11) u'.cells) tb pb cap hb bb { t with us:=t.us.set i u' }:=by
 have hf:Fr [pb] w (w.setCells pb (i*11) u'.cells):=Fr.setCells pb _ _ _ (Fr.refl _ _) (Or.inl (by simp))
 have hl:(t.us.set i u').length=t.us.length:=List.length_set
 refine { h with cell:=fun k hk=>?_,fz:=fun k=>?_,row:=h.row.put hi u',len:=?_,held:=?_,ways:=?_ }
 ·rw [hf.cell tb k h.lt (by simp;exact h.n1),h.cell k hk]
  show some (qq9 t _ hb bb k)=some (qq9 { t with us:=t.us.set i u' } _ hb bb k)
  simp only [hl]
  rfl
 ·rw [hf.frozen tb k h.lt (by simp;exact h.n1)];exact h.fz k
 ·show (t.us.set i u').length<=1000
  rw [hl];exact h.len
 ·exact h.held.fr hf (by simp;exact fun e=>h.n4 e.symm)
 ·exact h.ways.fr hf (by simp;exact fun e=>h.n5 e.symm)
theorem gy2 {w:World}{b:Nat}{u:U}{t:TypeId}(h:w.heap[b]?=some (.cells u.arr t)):w.cell? ⟨b,0,none⟩=some (ii u.id)/\w.cell? ⟨b,1,none⟩=some (ii u.owner)/\w.cell? ⟨b,2,none⟩=some (ii u.kind)/\w.cell? ⟨b,3,none⟩=some (ii u.x)/\w.cell? ⟨b,4,none⟩=some (ii u.y)/\w.cell? ⟨b,5,none⟩=some (ii u.life)/\w.cell? ⟨b,6,none⟩=some (ii u.load)/\w.cell? ⟨b,7,none⟩=some (ii u.what)/\w.cell? ⟨b,8,none⟩=some (ii u.tox)/\w.cell? ⟨b,9,none⟩=some (ii u.toy)/\w.cell? ⟨b,10,none⟩=some (ii u.target) :=
  ⟨j9 h,j9 h,j9 h,j9 h,j9 h,j9 h,j9 h,j9 h,j9 h,j9 h,j9 h⟩
theorem zj3 (tb pb cap hb bb:Nat) (t:T) (u:U) (K:Value) (n1 n0 n2 n:Nat) (r:U×T) (w:World) (h:TS w tb pb cap hb bb t)
  (hk:∀ w,Calls Tryz.prog 121 #[.int .i64 u.kind] w fun e w'=>e=.returned K/\Fr [] w w')
  (hs:∀ w,Calls Tryz.prog 193 #[K,.int .i64 u.what] w fun e w'=>e=.returned (.tuple #[.agg #[fv n1,fv n0,fv n2,fv n],.bool true])/\Fr [] w w')
  (ha:∀ w',Fr [] w w'->Calls Tryz.prog n #[.pointer (some ⟨tb,0,none⟩),u.val] w' fun e w''=>e=.returned r.1.val/\∃ pb' cap',Fr [tb,pb,hb,bb] w' w''/\TS w'' tb pb' cap' hb bb r.2/\(pb'=pb\/w'.heap.size<=pb'))
  (hri:Rise r.2.us) (hcf:∀ (args:Array Value) (w:World),(callFunc n args).run Tryz.prog w=.ok (.enter n args) w) :
  Calls Tryz.prog 153 #[.pointer (some ⟨tb,0,none⟩),u.val] w fun e w' =>
   e=.returned (.tuple #[])/\∃ pb' cap',Fr [tb,pb,hb,bb] w w'/\TS w' tb pb' cap' hb bb (qj4 r.2 r.1)/\(pb'=pb\/w.heap.size<=pb'):=by
 have hz:=h.z
 have hbl:=h.ways.lt
 have hhl:=h.held.lt
 have htl:=h.lt
 have hpl:=h.row.lt
 obtain ⟨W1,hW1⟩:∃ W,W=w.alloc (.cells u.arr 85):=⟨_,rfl⟩
 have hs1:W1.heap.size=w.heap.size+1:=by rw [hW1];simp
 have h01:Fr [] w W1:=by rw [hW1];exact (Fr.refl _ _).alloc _
 have hU:W1.heap[w.heap.size]?=some (.cells u.arr 85):=by rw [hW1,qq6]
 have HS:∀ w',Fr [] W1 w'->(fun w':World=>cl w' w.heap.size 2 u.kind/\cl w' w.heap.size 7 u.what/\Fr [] W1 w') w':=fun w' hf=>⟨j9 (hf.heap0 hU),j9 (hf.heap0 hU),hf⟩
 have KF:Fr [] W1 (w.alloc (.cells u.arr 85)).drew:=by rw [hW1];exact (Fr.refl _ _).drew
 have K0:=HS _ KF
 clear hW1
 go_enter Tryz.func153,Tryz.ntmps153
 go_wp2_with fail
 go_cut [4,5] (fun s4 s5 wx=>∃ g:Nat,s4=.pointer (some ⟨g,0,none⟩)/\s5=.bool true/\wx.heap[g]?=some (.cells #[fv n1,fv n0,fv n2,fv n] 217)/\w.heap.size < g/\Fr [] W1 wx)
 case first =>
  go_region_held (fun w':World=>w'.cell? ⟨w.heap.size,2,none⟩=some (ii u.kind)/\w'.cell? ⟨w.heap.size,7,none⟩=some (ii u.what)/\Fr [] W1 w')
   (first|exact K0|exact HS _ hfr2|exact HS _ (hfr2.alloc _)|exact HS _ hfr1|exact HS _ (hfr1.alloc _)|exact HS _ (KF.alloc _)|exact HS _ ((((hfr2.setCell _ _ (Or.inr (by simp;omega))).setCell _ _ (Or.inr (by simp;omega))).setCell _ _ (Or.inr (by simp;omega))).setCell _ _ (Or.inr (by simp;omega))))
   (first|(go_at_call 121;refine (hk _).mono ?_;rintro e w1 ⟨rfl,hf1⟩;obtain ⟨hc1,hz1⟩:=hf1.cells0;have q1:w.heap.size < w1.heap.size:=(by have:=hf1.size;simp at this;omega);(first|(have q2:w.heap.size+1 < w1.heap.size:=(by have:=hf1.size;simp at this;omega))|skip);have hfr1:Fr [] W1 w1:=Fr.then0 (And.right (And.right (by assumption))) hf1)|(go_at_call 193;refine (hs _).mono ?_;rintro e w2 ⟨rfl,hf2⟩;obtain ⟨hc2,hz2⟩:=hf2.cells0;have q3:=hf2.size;have hfr2:Fr [] W1 w2:=Fr.then0 (And.right (And.right (by assumption))) hf2))
  all_goals
   go_wp2_with fail
   go_meet
   refine ⟨_,rfl,rfl,?_,?_,?_⟩
   ·first
    | with_reducible exact qq6 _ _
    | exact fy2 (hf2.heap0 (qq6 w1 _)) _ _ _ _
    | exact fy2 (hf2.heap0 (hf1.heap0 (qz4 w _ _))) _ _ _ _
   ·have:=hfr2.size
    omega
   ·first
    | with_reducible exact hfr2.alloc _
    | exact (((hfr2.setCell _ _ (Or.inr (by simp;omega))).setCell _ _ (Or.inr (by simp;omega))).setCell _ _ (Or.inr (by simp;omega))).setCell _ _ (Or.inr (by simp;omega))
 case rest =>
  obtain ⟨g,rfl,rfl,hg,hlg,hfx⟩:=hcut
  have hux:=hfx.heap0 hU
  have hwx:=h01.then0 hfx
  have hgc:wc.cell? ⟨g,3,none⟩=some (fv n):=j9 hg
  have hul:=qq2 hux
  clear K0 HS KF hk hs
  go_wp2_with (refine wpList_load_row rfl 85 _ rfl w.heap.size rfl 85 u.arr (0,0) _ hux Tryz.underlying85 rfl qq5 ?_)
  refine (ha _ hwx).mono ?_
  rintro e w5 ⟨rfl,pb',cap',hf5,ht5,hpp⟩
  have hu5:=hf5.heap hux (by simp;omega)
  dsimp only
  clear hux hgc hg ha hcf
  go_wp2_with (refine wpList_store_row rfl 85 _ _ rfl w.heap.size r.1.arr rfl rfl 85 _ hu5 qq5 rfl (U.one _) ?_)
  rw [show ∀ a:Act,a.put none undef=a from fun _=>rfl]
  obtain ⟨W6,hW6⟩:∃ W,W=w5.setRow w.heap.size r.1.arr:=⟨_,rfl⟩
  have hf6:Fr [w.heap.size] w5 W6:=by rw [hW6];exact (Fr.refl _ _).setRow _ _ (by simp)
  have hU6:W6.heap[w.heap.size]?=some (.cells r.1.arr 85):=by rw [hW6];exact setRow_heap _ _ _ _ _ _ hu5
  have hw5:Fr [tb,pb,hb,bb] w w5:=(hwx.mono (by simp)).trans hf5 (by simp)
  have hw6:Fr [tb,pb,hb,bb] w W6:=by rw [hW6];exact hw5.setRow _ _ (Or.inr (Nat.le_refl _))
  have hxs:=hwx.size
  have hp6:pb'≠w.heap.size:=by rcases hpp with e|e <;> omega
  have hpw:pb'=pb\/w.heap.size<=pb':=by rcases hpp with e|e;exact Or.inl e;exact Or.inr (by omega)
  have ht6:TS W6 tb pb' cap' hb bb r.2:=ht5.fr hf6 (by simp;omega) (by simp;omega) (by simp;omega) (by simp;omega)
  rw [<- hW6]
  have HS6:∀ w',Fr [] W6 w'->(fun w':World=>w'.cell? ⟨w.heap.size,0,none⟩=some (ii r.1.id)/\Fr [] W6 w') w':=fun w' hf=>⟨j9 (hf.heap0 hU6),hf⟩
  have K6:=HS6 W6.drew ((Fr.refl _ _).drew)
  clear hW6 hu5 ht5 hf5 hw5 hf6
  go_cut [6,7] (fun s6 s7 wx=>∃ (i:Nat) (f:Bool),s6=.int .i64 i/\s7=.bool f/\qz0 r.2.us r.1.id=(if f=true then some i else none)/\Fr [] W6 wx)
  case first =>
   go_region_held (fun w':World=>w'.cell? ⟨w.heap.size,0,none⟩=some (ii r.1.id)/\Fr [] W6 w')
    (first|with_reducible exact K6|with_reducible exact HS6 _ hfr1)
    (first|(go_at_call 152;refine (yx3 tb pb' cap' r.2.us r.1.id _ (ht6.gv.fr0 (And.right (by assumption))) hri).mono ?_;rintro e w1 ⟨i,f,rfl,hf1,hpl1⟩;have hfr1:Fr [] W6 w1:=Fr.then0 (And.right (by assumption)) hf1))
   all_goals
    go_wp2_with fail
    go_meet
    exact ⟨i,f,rfl,rfl,hpl1,hfr1⟩
  case rest =>
   obtain ⟨i,f,rfl,rfl,hplace,hf7⟩:=hcut
   have hU7:=hf7.heap0 hU6
   have ht7:=ht6.fr0 hf7
   have hw7:Fr [tb,pb,hb,bb] w wc:=hw6.then0 hf7
   clear K6 HS6
   cases f
   ·go_wp2_with fail
    refine bodyPost_end (v:=.tuple #[]) (results_none rfl _ _ _) rfl ⟨rfl,pb',cap',hw7,?_,hpw⟩
    have:qj4 r.2 r.1=r.2:=by unfold qj4;rw [hplace];rfl
    rw [this]
    exact ht7
   ·rw [if_pos rfl] at hplace
    obtain ⟨v,hv,hvid⟩:=qv8 hplace
    have hil:i < r.2.us.length:=(List.getElem?_eq_some_iff.1 hv).1
    have hlen:=ht7.len
    have hcx:=ht7.gv.c
    obtain ⟨c0,c1,c2,c3,c4,c5,c6,c7,c8,c9,c10⟩:=ht7.row.ppl.at hv
    obtain ⟨d0,d1,d2,d3,d4,d5,d6,d7,d8,d9,d10⟩:=gy2 hU7
    have hfz:=ht7.row.fz
    go_wp2_with fail
    go_region
    all_goals
     refine bodyPost_end (v:=.tuple #[]) (results_none rfl _ _ _) rfl ⟨rfl,pb',cap',?_,?_,hpw⟩
     ·show Fr _ _ (wc.setCells pb' (i*11) r.1.cells).drew
      exact (Fr.setCells pb' _ _ _ hw7 (by rcases hpw with e|e;exact Or.inl (by simp [e]);exact Or.inr e)).drew
     ·show TS (wc.setCells pb' (i*11) r.1.cells).drew _ _ _ _ _ _
      rw [qy2 hri hv hvid.symm]
      exact (ht7.putU hil r.1).fr0 ((Fr.refl _ _).drew)
theorem kw8 (t:T)(u:U):(qj4 t u).us.map U.id=t.us.map U.id:=by
 unfold qj4
 cases hp:qz0 t.us u.id with
 | none=>rfl
 | some i =>
  obtain ⟨v,hv,he⟩:=qv8 hp
  exact zk9 U.id _ i v u hv he.symm
theorem gj2 {t:T}(h:TOk t){i:Nat}{u:U}(hi:t.us[i]?=some u)(hno:qx3 t.us=false):Rise (qv9 t u).2.us:=by
 have h1:=(yv3 h hi hno).ok.rise
 rw [yk6] at h1 |-
 unfold qw3 at h1
 rwa [kw8] at h1
theorem yk7 {t:T}(h:TOk t)(o:Int):0<=t.stock o/\t.stock o<=1000000000:=by
 unfold T.stock
 split
 ·exact h.st.1
 ·exact h.st.2
theorem fld2:jy2 8 (ii 5) (ii 5) (.bool true) (fv 167) (fv 167) (fv 168) (fv 169) (fv 157) (fv 157) (fv 158) (fv 159) (fv 160) (fv 161) (fv 158) (fv 162) .nilFunc .nilFunc .nilFunc .nilFunc .nilFunc .nilFunc .nilFunc .nilFunc:=fun w=>by kernel_rfl
theorem fld3:jy2 12 (ii 8) (ii 0) (.bool true) (fv 167) (fv 167) (fv 168) (fv 169) (fv 157) (fv 157) (fv 158) (fv 159) .nilFunc .nilFunc .nilFunc .nilFunc (fv 163) (fv 164) (fv 165) (fv 166) .nilFunc .nilFunc .nilFunc .nilFunc:=fun w=>by kernel_rfl
theorem gj3 (tb pb cap hb bb:Nat)(t:T)(i:Nat)(u:U)(w:World)(h:TS w tb pb cap hb bb t)(hsd:Sd w)(hok:TOk t)(hi:t.us[i]?=some u)(hno:qx3 t.us=false) :
  Calls Tryz.prog 153 #[.pointer (some ⟨tb,0,none⟩),u.val] w fun e w' =>
   e=.returned (.tuple #[])/\∃ pb' cap',Fr [tb,pb,hb,bb] w w'/\TS w' tb pb' cap' hb bb (qw3 t u)/\(pb'=pb\/w.heap.size<=pb'):=by
 have hu:=hok.all u (List.mem_of_getElem? hi)
 have hri:=gj2 hok hi hno
 have hbon:∀ b,qj8 t.us u.owner=some b->onB b.x b.y=true:=fun b hb=>(hok.all b (List.mem_of_find?_eq_some hb)).on
 have hst:=yk7 hok u.owner
 unfold qw3
 have rest:u.what=0->∀ w',Fr [] w w'->Calls Tryz.prog 169 #[.pointer (some ⟨tb,0,none⟩),u.val] w' fun e w''=>e=.returned (qv9 t u).1.val/\∃ pb' cap',Fr [tb,pb,hb,bb] w' w''/\TS w'' tb pb' cap' hb bb (qv9 t u).2/\(pb'=pb\/w'.heap.size<=pb'):=by
  intro e w' hf
  have:qv9 t u=(u,t):=by unfold qv9;simp [e]
  rw [this]
  exact (dy1 _ u w').mono fun e w'' ⟨h1,h2⟩=>⟨h1,pb,cap,h2.of0,(h.fr0 hf).fr0 h2,Or.inl rfl⟩
 have move:u.what=1->∀ w',Fr [] w w'->Calls Tryz.prog 159 #[.pointer (some ⟨tb,0,none⟩),u.val] w' fun e w''=>e=.returned (qv9 t u).1.val/\∃ pb' cap',Fr [tb,pb,hb,bb] w' w''/\TS w'' tb pb' cap' hb bb (qv9 t u).2/\(pb'=pb\/w'.heap.size<=pb'):=by
  intro e w' hf
  have:qv9 t u=qw6 t u:=by unfold qv9;simp [e]
  rw [this]
  exact (dv1 tb pb cap hb bb t u w' (h.fr0 hf) (hsd.fr0 hf) hu.on).mono fun e w'' ⟨h1,h2,h3⟩=>⟨h1,pb,cap,h2.mono (by simp),h3,Or.inl rfl⟩
 rcases hu.od with e|⟨e,ek⟩|⟨e,ek,e3⟩|⟨e,ek⟩|⟨e,ek,e2⟩
 ·have rest:=rest e
  rcases hu.kd with ek|ek|ek
  ·exact zj3 tb pb cap hb bb t u jk7 167 167 168 169 (qv9 t u) w h (fun w=>by rw [ek];exact jx0 w) (fun w=>by rw [e];exact vv7 w) rest hri (fun _ _=>by kernel_rfl)
  ·exact zj3 tb pb cap hb bb t u jj9 167 167 168 169 (qv9 t u) w h (fun w=>by rw [ek];exact zk8 w) (fun w=>by rw [e];exact vv9 w) rest hri (fun _ _=>by kernel_rfl)
  ·exact zj3 tb pb cap hb bb t u jk8 167 167 168 169 (qv9 t u) w h (fun w=>by rw [ek];exact jq3 w) (fun w=>by rw [e];exact vw2 w) rest hri (fun _ _=>by kernel_rfl)
 ·have move:=move e
  rcases ek with ek|ek
  ·exact zj3 tb pb cap hb bb t u jj9 157 157 158 159 (qv9 t u) w h (fun w=>by rw [ek];exact zk8 w) (fun w=>by rw [e];exact vw0 w) move hri (fun _ _=>by kernel_rfl)
  ·exact zj3 tb pb cap hb bb t u jk8 157 157 158 159 (qv9 t u) w h (fun w=>by rw [ek];exact jq3 w) (fun w=>by rw [e];exact vw3 w) move hri (fun _ _=>by kernel_rfl)
 ·refine zj3 tb pb cap hb bb t u jj9 160 161 158 162 (qv9 t u) w h (fun w=>by rw [ek];exact zk8 w) (fun w=>by rw [e];exact vw1 w) ?_ hri (fun _ _=>by kernel_rfl)
  intro w' hf
  have:qv9 t u=qv1 t u:=by unfold qv9;simp [e]
  rw [this]
  exact (dv0 tb pb cap hb bb t u w' (h.fr0 hf) (hsd.fr0 hf) hu.on e3 hu.ow hbon hst ⟨hu.ld.1,hu.ld.2.1⟩ ek).mono fun e w'' ⟨h1,h2,h3⟩=>⟨h1,pb,cap,h2.mono (by simp),h3,Or.inl rfl⟩
 ·refine zj3 tb pb cap hb bb t u jk8 163 164 165 166 (qv9 t u) w h (fun w=>by rw [ek];exact jq3 w) (fun w=>by rw [e];exact vw4 w) ?_ hri (fun _ _=>by kernel_rfl)
  intro w' hf
  have:qv9 t u=qy0 t u:=by unfold qv9;simp [e]
  rw [this]
  exact (qqj8 tb pb cap hb bb t u w' (h.fr0 hf) (hsd.fr0 hf) hok.rise hu.on (fun v hv=>⟨(hok.all v hv).on,by have:=(hok.all v hv).lf;omega,by have h1:=(hok.all v hv).lf;have h2:=xx8 v.kind;omega⟩)).mono fun e w'' ⟨h1,h2,h3⟩=>⟨h1,pb,cap,h2,h3,Or.inl rfl⟩
 ·refine zj3 tb pb cap hb bb t u jk7 154 154 155 156 (qv9 t u) w h (fun w=>by rw [ek];exact jx0 w) (fun w=>by rw [e];exact vv8 w) ?_ hri (fun _ _=>by kernel_rfl)
  intro w' hf
  have:qv9 t u=qj7 t u:=by unfold qv9;simp [e]
  rw [this]
  have hnx:0<=t.next:=by have:=hok.nx.1;omega
  rcases e2 with e2|e2
  ·exact xj0 tb pb cap hb bb t u 8 5 _ _ _ _ _ _ _ _ _ _ _ _ _ _ _ _ _ _ _ _ _ _ w' (fun w=>by rw [e2];exact zk8 w) fld2 (by rw [e2];rfl) (by rw [e2];rfl) (h.fr0 hf) (hsd.fr0 hf) hu.on hu.ow hnx hst (by omega) qjj9
  ·exact xj0 tb pb cap hb bb t u 12 8 _ _ _ _ _ _ _ _ _ _ _ _ _ _ _ _ _ _ _ _ _ _ w' (fun w=>by rw [e2];exact jq3 w) fld3 (by rw [e2];rfl) (by rw [e2];rfl) (h.fr0 hf) (hsd.fr0 hf) hu.on hu.ow hnx hst (by omega) qjx0
structure ActI (w:World) (tb pb hb bb:Nat) (t:T) (cl ccap k:Nat) (wr:World):Prop where
 ex:∃ pb' cap' t',TS wr tb pb' cap' hb bb t'/\TOk t'/\qx3 t'.us=false/\zq5 (t.us.drop k) t'=zq5 t.us t/\(pb'=pb\/w.heap.size<=pb')/\pb'≠cl
 fr:Fr [tb,pb,hb,bb] w wr
 row:PRow wr cl ccap t.us
theorem jz1 (v:U)(l:List U)(t:T):zq5 (v :: l) t=if qx3 (zw6 t v).us=true then zw6 t v else zq5 l (zw6 t v):=rfl
theorem vz5 {t:T}{v:U}(h:qz0 t.us v.id=none):zw6 t v=t:=by unfold zw6;rw [h]
theorem gz9 {t:T}{v u:U}{i:Nat}(h:qz0 t.us v.id=some i)(hi:t.us[i]?=some u):zw6 t v=qw3 t u:=by unfold zw6;rw [h];dsimp only;rw [hi]
theorem qqz6 (tb pb cap hb bb:Nat)(t:T)(w:World)(h:TS w tb pb cap hb bb t)(hsd:Sd w)(hok:TOk t)(hno:qx3 t.us=false)(hne:0 < t.us.length) :
  Calls Tryz.prog 119 #[.pointer (some ⟨tb,0,none⟩)] w fun e w' =>
   e=.returned (.tuple #[])/\∃ pb' cap',Fr [tb,pb,hb,bb] w w'/\TS w' tb pb' cap' hb bb (zq5 t.us t)/\(pb'=pb\/w.heap.size<=pb'):=by
 have hz:=h.z
 have hbl:=h.ways.lt
 have hhl:=h.held.lt
 have htl:=h.lt
 have hpl:=h.row.lt
 have hc:=h.gv.c
 have hlen:=h.len
 go_enter Tryz.func119,Tryz.ntmps119
 go_wp2_with (first|(go_at_call 75;refine (yv7 pb cap t.us _ h.row h.len hne).mono ?_;rintro e w1 ⟨cl,ccap,rfl,hcl,hrow,hf1⟩))
 clear hc
 go_loopw [13] (fun i wr=>∃ k:Nat,k<=t.us.length/\i=.int .i64 k/\ActI w tb pb hb bb t cl ccap k wr) (fun i _=>t.us.length - (intOf i).toNat)
 case atStart=>exact ⟨0,Nat.zero_le _,rfl,⟨pb,cap,t,h.fr0 hf1,hok,hno,rfl,Or.inl rfl,by omega⟩,hf1.of0,hrow⟩
 case round =>
  obtain ⟨k,hk,rfl,hI⟩:=hrel
  obtain ⟨⟨pb',cap',t',ht,hok',hno',hall,hpp,hpc⟩,hfr,hcr⟩:=hI
  by_cases hlt:k < t.us.length
  ·obtain ⟨v,hv⟩:∃ u,t.us[k]?=some u:=⟨t.us[k],List.getElem?_eq_getElem hlt⟩
   have hdrop:t.us.drop k=v :: t.us.drop (k+1):=by
    rw [List.drop_eq_getElem_cons hlt]
    congr 1
    rw [List.getElem?_eq_getElem hlt] at hv
    exact Option.some.inj hv
   rw [hdrop] at hall
   rw [jz1] at hall
   obtain ⟨c0,c1,c2,c3,c4,c5,c6,c7,c8,c9,c10⟩:=hcr.ppl.at hv
   have htl':=ht.lt
   have hpl':=ht.row.lt
   have hhl':=ht.held.lt
   have hbl':=ht.ways.lt
   have hcl':=hcr.lt
   have HT:=hid ht
   have HALL:=hid hall
   have HCR:=hid hcr
   have HF:=hid hfr
   clear ht hall hdrop hv hcr hfr
   go_wp2_with fail
   obtain ⟨WA,hWA⟩:∃ W,W=wr.alloc (.cells v.arr 85):=⟨_,rfl⟩
   rw [<- hWA]
   have hfa:Fr [] wr WA:=by rw [hWA];exact (Fr.refl _ _).alloc _
   have hva:WA.heap[wr.heap.size]?=some (.cells v.arr 85):=by rw [hWA];exact qq6 _ _
   clear hWA c0 c1 c2 c3 c4 c5 c6 c7 c8 c9 c10
   have HS:∀ w',Fr [] WA w'->(fun w':World=>w'.cell? ⟨wr.heap.size,0,none⟩=some (ii v.id)/\Fr [] WA w') w':=fun w' hf=>⟨j9 (hf.heap0 hva),hf⟩
   have K0:=HS WA.drew ((Fr.refl _ _).drew)
   go_cut [4,5] (fun s4 s5 wx=>∃ (i:Nat) (f:Bool),s4=.int .i64 i/\s5=.bool f/\qz0 t'.us v.id=(if f=true then some i else none)/\Fr [] WA wx)
   case first =>
    go_region_held (fun w':World=>w'.cell? ⟨wr.heap.size,0,none⟩=some (ii v.id)/\Fr [] WA w')
     (first|with_reducible exact K0|with_reducible exact HS _ hfr1)
     (first|(go_at_call 152;refine (yx3 tb pb' cap' t'.us v.id _ (HT.out.gv.fr0 (hfa.then0 (And.right (by assumption)))) hok'.rise).mono ?_;rintro e w1 ⟨i,f,rfl,hf1,hpl1⟩;have hfr1:Fr [] WA w1:=Fr.then0 (And.right (by assumption)) hf1))
    all_goals
     go_wp2_with fail
     go_meet
     exact ⟨i,f,rfl,rfl,hpl1,hfr1⟩
   case rest =>
    obtain ⟨i,f,rfl,rfl,hplace,hfx⟩:=hcut
    have hwx:Fr [] wr wc:=hfa.then0 hfx
    have htx:=HT.out.fr0 hwx
    clear HS K0 hva
    cases f
    ·have hat:zw6 t' v=t':=vz5 (by simpa using hplace)
     have hall:=HALL.out
     rw [hat,hno',if_neg (by simp)] at hall
     go_wp2_with (first|(go_at_call 116;refine (jw0 tb pb' cap' t'.us _ htx.gv).mono ?_;rintro e w3 ⟨rfl,hf3⟩;rw [hno']))
     go_roundw
     case rel=>exact ⟨k+1,hlt,by go_num,⟨pb',cap',t',htx.fr0 hf3,hok',hno',hall,hpp,hpc⟩,(HF.out.then0 hwx).then0 hf3,(HCR.out.fr hwx (by simp)).fr hf3 (by simp)⟩
     case measure=>simp [intOf];omega
    ·rw [if_pos rfl] at hplace
     obtain ⟨u,hu,huid⟩:=qv8 hplace
     have hat:=gz9 hplace hu
     have hall:=HALL.out
     rw [hat] at hall
     have hgood:=yv3 hok' hu hno'
     have hcx:=htx.gv.c
     have hil:i < t'.us.length:=(List.getElem?_eq_some_iff.1 hu).1
     have hlen':=htx.len
     obtain ⟨c0,c1,c2,c3,c4,c5,c6,c7,c8,c9,c10⟩:=htx.row.ppl.at hu
     have hsx:Sd wc:=(hsd.fr HF.out (by simp;omega)).fr0 hwx
     have hcall:=gj3 tb pb' cap' hb bb t' i u wc htx hsx hok' hu hno'
     obtain ⟨t2,ht2⟩:∃ x,qw3 t' u=x:=⟨_,rfl⟩
     rw [ht2] at hgood hall hcall
     have HC:=hid hcall
     have HL:=hid hall
     have HG:=hid hgood
     obtain ⟨B,hB⟩:∃ B,qx3 t2.us=B:=⟨_,rfl⟩
     have HB:=hid hB
     have hwl:=hwx.size
     clear hu hall HALL hplace hat hB hcall hgood ht2 huid htx
     go_wp2_with fail
     refine Calls.mono HC.out ?_
     rintro e w2 ⟨rfl,pb2,cap2,hf2,ht2,hp2⟩
     dsimp only
     have hw2:Fr [tb,pb,hb,bb] w w2:=(HF.out.then0 hwx).trans hf2 (by
      intro x hx
      simp at hx
      rcases hx with rfl|rfl|rfl|rfl
      ·simp
      ·rcases hpp with e|e
       ·simp [e]
       ·exact Or.inr e
      ·simp
      ·simp)
     have hwl2:=HF.out.size
     have hpp2:pb2=pb\/w.heap.size<=pb2:=by
      rcases hp2 with e|e
      ·rw [e];exact hpp
      ·exact Or.inr (by omega)
     have hpc2:pb2≠cl:=by
      rcases hp2 with e|e
      ·rw [e];exact hpc
      ·omega
     have hcr2:PRow w2 cl ccap t.us:=(HCR.out.fr hwx (by simp)).fr hf2 (by simp;omega)
     have hl:=HL.out
     cases B
     ·rw [HB.out,if_neg (by simp)] at hl
      go_wp2_with (first|(go_at_call 116;refine (jw0 tb pb2 cap2 t2.us _ ht2.gv).mono ?_;rintro e w3 ⟨rfl,hf3⟩;rw [HB.out]))
      go_roundw
      case rel=>exact ⟨k+1,hlt,by go_num,⟨pb2,cap2,t2,ht2.fr0 hf3,HG.out.ok,HB.out,hl,hpp2,hpc2⟩,hw2.then0 hf3,hcr2.fr hf3 (by simp)⟩
      case measure=>simp [intOf];omega
     ·rw [HB.out,if_pos rfl] at hl
      go_wp2_with (first|(go_at_call 116;refine (jw0 tb pb2 cap2 t2.us _ ht2.gv).mono ?_;rintro e w3 ⟨rfl,hf3⟩;rw [HB.out]))
      refine bodyPost_ret (v:=.tuple #[]) (results_none rfl _ _ _) rfl ⟨rfl,pb2,cap2,hw2.then0 hf3,?_,hpp2⟩
      rw [<- hl]
      exact ht2.fr0 hf3
  ·have hall':=hall
   rw [List.drop_of_length_le (by omega)] at hall'
   go_wp2_with fail
   refine bodyPost_end (v:=.tuple #[]) (results_none rfl _ _ _) rfl ⟨rfl,pb',cap',hfr,?_,hpp⟩
   rw [<- hall']
   exact ht
end Go.Proofs.YtapabahhfanmmaaGreatDoor
