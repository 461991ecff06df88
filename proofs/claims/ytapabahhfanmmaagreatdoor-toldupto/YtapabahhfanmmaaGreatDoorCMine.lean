import Derived.Test.YtapabahhfanmmaaGreatDoorCBring
namespace Go.Proofs.YtapabahhfanmmaaGreatDoor
open Go.RowKit
set_option maxRecDepth 100000
set_option maxHeartbeats 2000000
def yx9 (v:Int):Bool:=decide (0 < v)&&decide (v < 10)
def T.setBd (t:T)(k:Nat)(v:Int):T:={ t with bd:=fun i=>if i=k then v else t.bd i }
theorem qqq6 (t:T)(v:Int)(pv:Value)(hb bb k:Nat)(hk:k < 144)(j:Nat)(hj:j=4+k):qq9 (t.setBd k v) pv hb bb j=ii v:=by
 subst hj
 unfold qq9
 rw [if_neg (by omega),if_neg (by omega),if_neg (by omega),if_neg (by omega),if_pos (by omega)]
 simp [T.setBd]
theorem dq0 (t:T)(v:Int)(pv:Value)(hb bb k j:Nat)(hj:j≠4+k):qq9 (t.setBd k v) pv hb bb j=qq9 t pv hb bb j:=by
 unfold qq9
 by_cases h0:j=0
 ·simp [h0,T.setBd]
 by_cases h1:j=1
 ·simp [h1,T.setBd]
 by_cases h2:j=2
 ·simp [h2,T.setBd]
 by_cases h3:j=3
 ·simp [h3,T.setBd]
 rw [if_neg h0,if_neg h1,if_neg h2,if_neg h3,if_neg h0,if_neg h1,if_neg h2,if_neg h3]
 by_cases h4:j < 148
 ·rw [if_pos h4,if_pos h4]
  have:¬ (j - 4=k):=by omega
  simp [T.setBd,this]
 ·rw [if_neg h4,if_neg h4]
def qv1 (t:T)(u:U):U×T :=
 if 0 < u.load then qk3 t u
 else if yx9 (t.bd (ci u.tox u.toy))=true then
  if qv5 u.x u.y u.tox u.toy=true then ({ u with load:=min (t.bd (ci u.tox u.toy)) 5 },t.setBd (ci u.tox u.toy) (t.bd (ci u.tox u.toy) - min (t.bd (ci u.tox u.toy)) 5))
  else (u.to (qv7 t u fun c=>qv5 u.tox u.toy c.1 c.2),t.moved u (qv7 t u fun c=>qv5 u.tox u.toy c.1 c.2))
 else (u.idle,t)
theorem dv0 (tb pb cap hb bb:Nat) (t:T) (u:U) (w:World) (h:TS w tb pb cap hb bb t) (hsd:Sd w) (hon:onB u.x u.y=true) (hgo:onB u.tox u.toy=true) (hown:u.owner=0\/u.owner=1) (hbon:∀ b,qj8 t.us u.owner=some b->onB b.x b.y=true)
  (hst:0<=t.stock u.owner/\t.stock u.owner<=1000000000) (hld:0<=u.load/\u.load<=5) (hk2:u.kind=2) :
  Calls Tryz.prog 162 #[.pointer (some ⟨tb,0,none⟩),u.val] w fun e w' =>
   e=.returned (qv1 t u).1.val/\Fr [tb,hb,bb] w w'/\TS w' tb pb cap hb bb (qv1 t u).2:=by
 have HK2:=hid hk2
 clear hk2
 have hz:=h.z
 have hbl:=h.ways.lt
 have hhl:=h.held.lt
 have htl:=h.lt
 have hpl:=h.row.lt
 obtain ⟨W2,hW2⟩:∃ W,W=(w.alloc (.cells u.arr 85)).alloc (.cells zeroU.arr 85):=⟨_,rfl⟩
 have hs2:W2.heap.size=w.heap.size+1+1:=by rw [hW2];simp
 have h02:Fr [] w W2:=by rw [hW2];exact ((Fr.refl _ _).alloc _).alloc _
 have hU:W2.heap[w.heap.size]?=some (.cells u.arr 85):=by rw [hW2,qz8]
 have hR:W2.heap[w.heap.size+1]?=some (.cells zeroU.arr 85):=by rw [hW2,qz4]
 by_cases hlo:0 < u.load
 ·have hact:qv1 t u=qk3 t u:=by unfold qv1;rw [if_pos hlo]
  have HA:=hid hact
  clear hact
  go_enter Tryz.func162,Tryz.ntmps162
  go_wp2_with fail
  refine (fx5 tb pb cap hb bb t u _ (h.fr0 (((Fr.refl _ _).alloc _).alloc _)) (hsd.fr0 (((Fr.refl _ _).alloc _).alloc _)) hon hown hbon hst hld).mono ?_
  rintro e w5 ⟨rfl,hf5,ht5⟩
  obtain ⟨v,hv⟩:∃ v,(qk3 t u).1=v:=⟨_,rfl⟩
  rw [hv]
  have HV:=hid hv
  clear hv
  have hr5:=hf5.heap (qz4 w _ _) (by simp;omega)
  go_wp2_with (refine wpList_store_row rfl 85 _ _ rfl (w.heap.size+1) v.arr rfl rfl 85 _ hr5 qq5 rfl (U.one _) ?_)
  have hall:Fr [tb,hb,bb] w (w5.setRow (w.heap.size+1) v.arr):=(((((Fr.refl [] w).alloc _).alloc _).of0 (S:=[tb,hb,bb])).trans hf5 (by simp)).setRow _ _ (Or.inr (by omega))
  refine bodyPost_ret (v:=v.val) (results_cell_row Tryz.results162 _ _ (w.heap.size+1) 85 v.arr (0,0) _ rfl (setRow_heap _ _ _ v.arr _ _ hr5) Tryz.underlying85 rfl qq5) rfl ⟨?_,hall,?_⟩
  ·rw [HA.out,HV.out]
  ·rw [HA.out]
   exact ht5.fr ((Fr.refl [w.heap.size+1] w5).setRow _ _ (by simp)) (by simp;omega) (by simp;omega) (by simp;omega) (by simp;omega)
 ·obtain ⟨hx0,hx1,hy0,hy1⟩:=qz3.1 hgo
  obtain ⟨p0,p1,p2,p3⟩:=qz3.1 hon
  clear hW2
  obtain ⟨W3,hW3⟩:∃ W,W=((w.alloc (.cells u.arr 85)).alloc (.cells zeroU.arr 85)).alloc (.cells #[ii u.tox,ii u.toy] 159):=⟨_,rfl⟩
  have hs3:W3.heap.size=w.heap.size+1+1+1:=by rw [hW3];simp
  have h03:Fr [] w W3:=by rw [hW3];exact (((Fr.refl _ _).alloc _).alloc _).alloc _
  have hU3:W3.heap[w.heap.size]?=some (.cells u.arr 85):=by rw [hW3,qz7 _ _ _ (by simp;omega),qz8]
  have hR3:W3.heap[w.heap.size+1]?=some (.cells zeroU.arr 85):=by rw [hW3,qz7 _ _ _ (by simp),qz4]
  have hG3:W3.heap[w.heap.size+1+1]?=some (.cells #[ii u.tox,ii u.toy] 159):=by rw [hW3,qk1]
  have KF:Fr [] W3 ((((w.alloc (.cells u.arr 85)).alloc (.cells zeroU.arr 85)).alloc (.cells #[ii u.tox,ii u.toy] 159)).drew):=by rw [hW3];exact (Fr.refl _ _).drew
  have hcell:=h.tv.b _ (zz0 hgo)
  obtain ⟨v,hv⟩:∃ v,t.bd (ci u.tox u.toy)=v:=⟨_,rfl⟩
  rw [hv] at hcell
  have HVB:=hid hv
  unfold ci at hcell
  rw [<- Nat.add_assoc] at hcell
  clear hW3 hv hU hR hs2 h02
  go_enter Tryz.func162,Tryz.ntmps162
  go_wp2_with fail
  go_cut [6] (fun s6 wx=>s6=.pointer (some ⟨tb,4+u.toy.toNat*12+u.tox.toNat,none⟩)/\Fr [] W3 wx)
  case first =>
   go_region
   go_wp2_with fail
   go_meet
   exact ⟨rfl,KF⟩
  case rest =>
   obtain ⟨rfl,hfx⟩:=hcut
   have hwx:=h03.then0 hfx
   have hux:=hfx.heap0 hU3
   have hrx:=hfx.heap0 hR3
   have hgx:=hfx.heap0 hG3
   have hts:=h.fr0 hwx
   have hsx:=hsd.fr0 hwx
   have hcx:wc.cell? ⟨tb,4+u.toy.toNat*12+u.tox.toNat,none⟩=some (ii v):=(hwx.cell _ _ htl (by simp)).trans hcell
   have hl0:=qq2 hux
   have hl1:=qq2 hrx
   have htx:=hts.lt
   have HRX:=hid hrx
   clear hrx KF hcell
   go_wp2_with fail
   refine (xx6 v _).mono ?_
   rintro e w1 ⟨rfl,rfl⟩
   obtain ⟨O,hO⟩:∃ O,(decide (0 < v)&&decide (v < 10))=O:=⟨_,rfl⟩
   rw [hO]
   have HO:=hid hO
   clear hO
   cases O
   ·have hact:qv1 t u=(u.idle,t):=by unfold qv1 yx9;rw [if_neg (by omega),HVB.out,HO.out];rfl
    have HA:=hid hact
    clear hact
    go_wp2_with (refine wpList_load_row rfl 85 _ rfl w.heap.size rfl 85 u.arr (0,0) _ hux Tryz.underlying85 rfl qq5 ?_)
    refine (yx4 u _).mono ?_
    rintro e w5 ⟨rfl,hf5⟩
    have hr5:=hf5.heap0 HRX.out
    go_wp2_with (refine wpList_store_row rfl 85 _ _ rfl (w.heap.size+1) u.idle.arr rfl rfl 85 _ hr5 qq5 rfl (U.one _) ?_)
    have hall:Fr [tb,hb,bb] w (w5.setRow (w.heap.size+1) u.idle.arr):=(hwx.then0 hf5).of0.setRow _ _ (Or.inr (by omega))
    refine bodyPost_ret (v:=u.idle.val) (results_cell_row Tryz.results162 _ _ (w.heap.size+1) 85 u.idle.arr (0,0) _ rfl (setRow_heap _ _ _ u.idle.arr _ _ hr5) Tryz.underlying85 rfl qq5) rfl ⟨?_,hall,?_⟩
    ·rw [HA.out]
    ·rw [HA.out]
     exact (hts.fr0 hf5).fr ((Fr.refl [w.heap.size+1] w5).setRow _ _ (by simp)) (by simp;omega) (by simp;omega) (by simp;omega) (by simp;omega)
   ·obtain ⟨A,hA⟩:∃ A,qv5 u.x u.y u.tox u.toy=A:=⟨_,rfl⟩
    have HAA:=hid hA
    clear hA
    have HS7:∀ w',Fr [] wc w'->(fun w':World=>Fr [] wc w'/\w'.cell? ⟨w.heap.size,0,none⟩=some (ii u.id)/\w'.cell? ⟨w.heap.size,1,none⟩=some (ii u.owner)/\w'.cell? ⟨w.heap.size,2,none⟩=some (ii u.kind)/\w'.cell? ⟨w.heap.size,3,none⟩=some (ii u.x)/\w'.cell? ⟨w.heap.size,4,none⟩=some (ii u.y)/\w'.cell? ⟨w.heap.size,5,none⟩=some (ii u.life)/\w'.cell? ⟨w.heap.size,6,none⟩=some (ii u.load)/\w'.cell? ⟨w.heap.size,7,none⟩=some (ii u.what)/\w'.cell? ⟨w.heap.size,8,none⟩=some (ii u.tox)/\w'.cell? ⟨w.heap.size,9,none⟩=some (ii u.toy)/\w'.cell? ⟨w.heap.size,10,none⟩=some (ii u.target)/\w'.cell? ⟨w.heap.size+1+1,0,none⟩=some (ii u.tox)/\w'.cell? ⟨w.heap.size+1+1,1,none⟩=some (ii u.toy)) w':=fun w' hf=>by
     have hu:=hf.heap0 hux
     have hg:=hf.heap0 hgx
     exact ⟨hf,j9 hu,j9 hu,j9 hu,j9 hu,j9 hu,j9 hu,j9 hu,j9 hu,j9 hu,j9 hu,j9 hu,j9 hg,j9 hg⟩
    have K7:=HS7 wc.drew ((Fr.refl [] wc).drew)
    go_wp2_with fail
    go_cut [39] (fun s39 wx=>s39=.bool (!A)/\Fr [] wc wx)
    case first =>
     go_region_held (fun w':World=>Fr [] wc w'/\w'.cell? ⟨w.heap.size,0,none⟩=some (ii u.id)/\w'.cell? ⟨w.heap.size,1,none⟩=some (ii u.owner)/\w'.cell? ⟨w.heap.size,2,none⟩=some (ii u.kind)/\w'.cell? ⟨w.heap.size,3,none⟩=some (ii u.x)/\w'.cell? ⟨w.heap.size,4,none⟩=some (ii u.y)/\w'.cell? ⟨w.heap.size,5,none⟩=some (ii u.life)/\w'.cell? ⟨w.heap.size,6,none⟩=some (ii u.load)/\w'.cell? ⟨w.heap.size,7,none⟩=some (ii u.what)/\w'.cell? ⟨w.heap.size,8,none⟩=some (ii u.tox)/\w'.cell? ⟨w.heap.size,9,none⟩=some (ii u.toy)/\w'.cell? ⟨w.heap.size,10,none⟩=some (ii u.target)/\w'.cell? ⟨w.heap.size+1+1,0,none⟩=some (ii u.tox)/\w'.cell? ⟨w.heap.size+1+1,1,none⟩=some (ii u.toy))
      (first|with_reducible exact K7|with_reducible exact HS7 _ hfk)
      (first|(go_at_call 192;refine (qv2 u _).mono ?_;rintro e w1 ⟨rfl,hf1⟩;have hfk:Fr [] wc w1:=Fr.then0 (And.left (by assumption)) hf1)|(go_at_call 206;refine (zk6 u.x u.y u.tox u.toy _ (hsx.fr0 (And.left (by assumption))) (by omega) (by omega) (by omega) (by omega) (by omega) (by omega) (by omega) (by omega)).mono ?_;rintro e w1 ⟨rfl,hf1⟩;rw [HAA.out];have hfk:Fr [] wc w1:=Fr.then0 (And.left (by assumption)) hf1))
     all_goals
      go_wp2_with fail
      go_meet
      exact ⟨rfl,hfk⟩
    case rest =>
     obtain ⟨rfl,hfy⟩:=hcut
     have hwy:=hwx.then0 hfy
     have huy:=hfy.heap0 hux
     have hgy:=hfy.heap0 hgx
     have hry:=hfy.heap0 HRX.out
     have hty:=hts.fr0 hfy
     have hsy:=hsx.fr0 hfy
     have hcy:=(hfy.cell tb (4+u.toy.toNat*12+u.tox.toNat) htx (by simp)).trans hcx
     have HRY:=hid hry
     clear hux hgx hts hsx HS7 K7 hry hcx
     cases A
     ·have hact:qv1 t u=(u.to (qv7 t u fun c=>qv5 u.tox u.toy c.1 c.2),t.moved u (qv7 t u fun c=>qv5 u.tox u.toy c.1 c.2)):=by
       unfold qv1 yx9;rw [if_neg (by omega),HVB.out,HO.out,if_pos rfl,HAA.out];rfl
      have HA:=hid hact
      clear hact
      have hmf:∀ (fn:Fn) (first cap:Array Value) (w:World),(Instr.makeFunc fn first cap).run Tryz.prog w=.ok (.func fn first cap) w:=fun _ _ _ _=>rfl
      go_wp2_with (first|(refine wpList_load_row rfl 85 _ rfl w.heap.size rfl 85 u.arr (0,0) _ huy Tryz.underlying85 rfl qq5 ?_)|(refine wpList_load_row rfl 159 _ rfl (w.heap.size+1+1) rfl 159 #[ii u.tox,ii u.toy] (0,0) _ hgy Tryz.underlying159 rfl qw1 ?_))
      refine (xw5 tb pb cap hb bb t u u.tox u.toy _ hty hsy hon hgo).mono ?_
      rintro e w5 ⟨rfl,hf5,ht5⟩
      have hr5:=hf5.heap HRY.out (by simp;omega)
      obtain ⟨q,hq⟩:∃ q,q=u.to (bfs (fun c=>qv3 (qx2 t.held) t.bd c.1 c.2) (fun c=>qv5 u.tox u.toy c.1 c.2) (u.x,u.y)):=⟨_,rfl⟩
      rw [<- hq]
      have HQ:=hid hq
      clear hq
      go_wp2_with (refine wpList_store_row rfl 85 _ _ rfl (w.heap.size+1) q.arr rfl rfl 85 _ hr5 qq5 rfl (U.one _) ?_)
      have hall:Fr [tb,hb,bb] w (w5.setRow (w.heap.size+1) q.arr):=((hwy.of0 (S:=[tb,hb,bb])).trans hf5 (by simp)).setRow _ _ (Or.inr (by omega))
      refine bodyPost_ret (v:=q.val) (results_cell_row Tryz.results162 _ _ (w.heap.size+1) 85 q.arr (0,0) _ rfl (setRow_heap _ _ _ q.arr _ _ hr5) Tryz.underlying85 rfl qq5) rfl ⟨?_,hall,?_⟩
      ·rw [HA.out,HQ.out];rfl
      ·rw [HA.out]
       exact ht5.fr ((Fr.refl [w.heap.size+1] w5).setRow _ _ (by simp)) (by simp;omega) (by simp;omega) (by simp;omega) (by simp;omega)
     ·have u6:wc.cell? ⟨w.heap.size,6,none⟩=some (ii u.load):=j9 huy
      have zu6:wc.frozen? ⟨w.heap.size,6,none⟩=false:=qq0 huy
      have z2:=hty.fz (4+u.toy.toNat*12+u.tox.toNat)
      have dn:¬ (tb=w.heap.size):=by omega
      have dn':¬ (w.heap.size=tb):=by omega
      have hpos:0 < v/\v < 10:=by have:=HO.out;simpa using this
      obtain ⟨hv0,hv1⟩:=hpos
      obtain ⟨m,hm⟩:∃ m,min v 5=m:=⟨_,rfl⟩
      have hmb:0 < m/\m<=v/\m<=5:=by omega
      obtain ⟨hm0,hmv,hm5⟩:=hmb
      have HM:=hid hm
      have hsz8:w.heap.size < wc.heap.size:=qq2 huy
      have hcu2:wc.cell? ⟨w.heap.size,2,none⟩=some (ii 2):=by rw [show (ii 2:Value)=ii u.kind from congrArg (fun x:Int=>(ii x:Value)) HK2.out.symm];exact j9 huy
      have HS8:∀ w',Fr [] wc w'->(fun w':World=>Fr [w.heap.size] wc w'/\w'.cell? ⟨w.heap.size,2,none⟩=some (ii 2)/\w'.cell? ⟨tb,4+u.toy.toNat*12+u.tox.toNat,none⟩=some (ii v)) w':=fun w' hf=>⟨hf.of0,(hf.cell _ _ hsz8 (by simp)).trans hcu2,(hf.cell tb _ hty.lt (by simp)).trans hcy⟩
      have HU8:Hid (∀ w',Fr [] wc w'->w'.cell? ⟨w.heap.size,6,none⟩=some (ii u.load)/\w'.frozen? ⟨w.heap.size,6,none⟩=false):=fun w' hf=>⟨j9 (hf.heap0 huy),qq0 (hf.heap0 huy)⟩
      have HT8:∀ (w':World) (x:Int),Fr [] wc w'->(fun w':World=>Fr [w.heap.size] wc w'/\w'.cell? ⟨w.heap.size,2,none⟩=some (ii 2)/\w'.cell? ⟨tb,4+u.toy.toNat*12+u.tox.toNat,none⟩=some (ii v)) (w'.setCell ⟨w.heap.size,6,none⟩ (.int .i64 x)):=fun w' x hf=>⟨hf.of0.setCell _ _ (Or.inl (by simp)),(qz1 _ w.heap.size 6 w.heap.size 2 _ (Or.inr (by omega))).trans (HS8 w' hf).2.1,(qz1 _ w.heap.size 6 tb _ _ (Or.inl (by omega))).trans (HS8 w' hf).2.2⟩
      have K8:=HS8 wc.drew ((Fr.refl [] wc).drew)
      have hld2:∀ w,(Instr.field 220 jj9 2).run Tryz.prog w=.ok (ii 5) w:=fun w=>by kernel_rfl
      clear hm u6 zu6
      go_wp2_with fail
      go_cut [] (fun wx=>∃ wd,Fr [] wc wd/\wx=wd.setCell ⟨w.heap.size,6,none⟩ (.int .i64 m))
      case first =>
       by_cases hmn:v<=5
       ·have e:m=v:=by have:=HM.out;omega
        subst e
        have hq:¬ (5 < m):=by omega
        go_region_held (fun w':World=>Fr [w.heap.size] wc w'/\w'.cell? ⟨w.heap.size,2,none⟩=some (ii 2)/\w'.cell? ⟨tb,4+u.toy.toNat*12+u.tox.toNat,none⟩=some (ii m))
         (first|with_reducible exact K8|with_reducible exact HS8 _ hfk|with_reducible exact HT8 _ _ hfk)
         (first|(go_at_call 121;refine (zk8 _).mono ?_;rintro e w1 ⟨rfl,hf1⟩;have hfk:Fr [] wc w1:=Fr.then0 ((Fr.refl [] wc).drew) hf1;obtain ⟨u61,zu61⟩:=HU8.out w1 hfk))
        all_goals
         go_wp2_with fail
         go_meet
         exact ⟨_,hfk,rfl⟩
       ·have e:m=5:=by have:=HM.out;omega
        subst e
        go_region_held (fun w':World=>Fr [w.heap.size] wc w'/\w'.cell? ⟨w.heap.size,2,none⟩=some (ii 2)/\w'.cell? ⟨tb,4+u.toy.toNat*12+u.tox.toNat,none⟩=some (ii v))
         (first|with_reducible exact K8|with_reducible exact HS8 _ hfk|with_reducible exact HT8 _ _ hfk)
         (first|(go_at_call 121;refine (zk8 _).mono ?_;rintro e w1 ⟨rfl,hf1⟩;have hfk:Fr [] wc w1:=Fr.then0 ((Fr.refl [] wc).drew) hf1;obtain ⟨u61,zu61⟩:=HU8.out w1 hfk))
        all_goals
         go_wp2_with fail
         go_meet
         exact ⟨_,hfk,rfl⟩
      case rest =>
       obtain ⟨wd,hfd,rfl⟩:=hcut
       have hwd:=hwy.then0 hfd
       have hud:=hfd.heap0 huy
       have hrd:=hfd.heap0 HRY.out
       have htd:=hty.fr0 hfd
       have hcd:=(hfd.cell tb (4+u.toy.toNat*12+u.tox.toNat) hty.lt (by simp)).trans hcy
       clear HS8 HU8 HT8 K8 hld2 hcu2 huy hgy hsy hcy hty HRY z2 hwy
       have u6:wd.cell? ⟨w.heap.size,6,none⟩=some (ii u.load):=j9 hud
       have zu6:wd.frozen? ⟨w.heap.size,6,none⟩=false:=qq0 hud
       have z2:=htd.fz (4+u.toy.toNat*12+u.tox.toNat)
       have HRY:=hid hrd
       clear hrd
       have hact:qv1 t u=({ u with load:=m },t.setBd (ci u.tox u.toy) (v - m)):=by
        unfold qv1 yx9;rw [if_neg (by omega),HVB.out,HO.out,if_pos rfl,HAA.out,if_pos rfl,HM.out]
       have HA:=hid hact
       have hUU:((wd.setCell ⟨w.heap.size,6,none⟩ (.int .i64 m)).setCell ⟨tb,4+u.toy.toNat*12+u.tox.toNat,none⟩ (.int .i64 (v - m))).drew.heap[w.heap.size]?=some (.cells (U.arr { u with load:=m }) 85):=by
        have h1:=qz9 hud 6 (.int .i64 m)
        refine Eq.trans (b:=(wd.setCell ⟨w.heap.size,6,none⟩ (.int .i64 m)).heap[w.heap.size]?) (Below.heap_setCell _ _ _ _ (by simp;omega)) (h1.trans (by simp))
       have hRU:((wd.setCell ⟨w.heap.size,6,none⟩ (.int .i64 m)).setCell ⟨tb,4+u.toy.toNat*12+u.tox.toNat,none⟩ (.int .i64 (v - m))).drew.heap[w.heap.size+1]?=some (.cells zeroU.arr 85):=by
        show ((wd.setCell ⟨w.heap.size,6,none⟩ (.int .i64 m)).setCell ⟨tb,4+u.toy.toNat*12+u.tox.toNat,none⟩ (.int .i64 (v - m))).heap[w.heap.size+1]?=_
        rw [Below.heap_setCell _ _ _ _ (by simp;omega),Below.heap_setCell _ _ _ _ (by simp)];exact HRY.out
       clear hact
       go_wp2_with fail
       go_region
       go_wp2_with (first|(refine wpList_load_row rfl 85 _ rfl w.heap.size rfl 85 (U.arr { u with load:=m }) (0,0) _ hUU Tryz.underlying85 rfl qq5 ?_)|(refine wpList_store_row rfl 85 _ _ rfl (w.heap.size+1) (U.arr { u with load:=m }) rfl rfl 85 _ hRU qq5 rfl (U.one _) ?_))
       have hfin:Fr [tb,w.heap.size,w.heap.size+1] wd (((wd.setCell ⟨w.heap.size,6,none⟩ (.int .i64 m)).setCell ⟨tb,4+u.toy.toNat*12+u.tox.toNat,none⟩ (.int .i64 (v - m))).drew.setRow (w.heap.size+1) (U.arr { u with load:=m })) :=
        (((((Fr.refl _ _).setCell _ _ (by simp)).setCell _ _ (by simp)).drew).setRow _ _ (by simp))
       have hall:=((hwd.of0 (S:=[tb,hb,bb])).trans hfin (by simp))
       refine bodyPost_ret (v:=U.val { u with load:=m }) (results_cell_row Tryz.results162 _ _ (w.heap.size+1) 85 (U.arr { u with load:=m }) (0,0) _ rfl (setRow_heap _ _ _ _ _ _ hRU) Tryz.underlying85 rfl qq5) rfl ⟨?_,hall,?_⟩
       ·rw [HA.out]
       ·rw [HA.out]
        refine { htd with cell:=?_,fz:=?_,row:=htd.row.fr hfin (by simp;exact ⟨fun e=>htd.n1 e.symm,by omega,by omega⟩),held:=htd.held.fr hfin (by simp;exact ⟨fun e=>htd.n2 e.symm,by omega,by omega⟩),ways:=htd.ways.fr hfin (by simp;exact ⟨fun e=>htd.n3 e.symm,by omega,by omega⟩) }
        ·intro j hj
         rw [cell_setRow_other _ _ _ _ (by simp;omega)]
         show (((wd.setCell ⟨w.heap.size,6,none⟩ (.int .i64 m)).setCell ⟨tb,4+u.toy.toNat*12+u.tox.toNat,none⟩ (.int .i64 (v - m)))).cell? ⟨tb,j,none⟩=_
         by_cases hjk:j=4+u.toy.toNat*12+u.tox.toNat
         ·subst hjk
          rw [qk0 _ _ _ _ (ii v) ((qz1 _ w.heap.size 6 tb _ _ (Or.inl (by omega))).trans hcd)]
          exact congrArg some (qqq6 t _ _ hb bb (ci u.tox u.toy) (zz0 hgo) _ (by unfold ci;omega)).symm
         ·rw [qz1 _ tb (4+u.toy.toNat*12+u.tox.toNat) tb j _ (Or.inr (by omega)),qz1 _ w.heap.size 6 tb j _ (Or.inl (by omega)),htd.cell j hj]
          exact congrArg some (dq0 t _ _ hb bb (ci u.tox u.toy) j (by unfold ci;omega)).symm
        ·intro j
         rw [World.frozen?_of_block (w:=((wd.setCell ⟨w.heap.size,6,none⟩ (.int .i64 m)).setCell ⟨tb,4+u.toy.toNat*12+u.tox.toNat,none⟩ (.int .i64 (v - m))).drew) (setRow_other _ _ _ _ (by simp;omega))]
         show (((wd.setCell ⟨w.heap.size,6,none⟩ (.int .i64 m)).setCell ⟨tb,4+u.toy.toNat*12+u.tox.toNat,none⟩ (.int .i64 (v - m)))).frozen? ⟨tb,j,none⟩=false
         rw [World.frozen?_setCell,World.frozen?_setCell]
         exact htd.fz j
end Go.Proofs.YtapabahhfanmmaaGreatDoor
