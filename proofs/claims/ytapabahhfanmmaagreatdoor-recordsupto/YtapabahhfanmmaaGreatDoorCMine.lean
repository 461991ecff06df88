import Derived.Test.YtapabahhfanmmaaGreatDoorCBring
namespace Go.Proofs.YtapabahhfanmmaaGreatDoor
open Go.RowKit List
set_option maxRecDepth 100000
set_option maxHeartbeats 2000000
def gK (v:Int):Bool:=decide (0 < v)&&decide (v < 10)
def T.setBd (t:T)(k:Nat)(v:Int):T:={ t with bd:=fun i=>if i=k then v else t.bd i }
theorem UC (t:T)(v:Int)(pv:Value)(hb a k:Nat)(c:k < 144)(j:Nat)(b:j=4+k):aN (t.setBd k v) pv hb a j=ii v:=by
 subst b
 unfold aN
 rw [if_neg (by omega),if_neg (by omega),if_neg (by omega),if_neg (by omega),if_pos (by omega)]
 simp [T.setBd]
theorem UD (t:T)(v:Int)(pv:Value)(hb e k j:Nat)(f:j≠4+k):aN (t.setBd k v) pv hb e j=aN t pv hb e j:=by
 unfold aN
 by_cases b:j=0
 ·simp [b,T.setBd]
 by_cases h1:j=1
 ·simp [h1,T.setBd]
 by_cases c:j=2
 ·simp [c,T.setBd]
 by_cases d:j=3
 ·simp [d,T.setBd]
 rw [if_neg b,if_neg h1,if_neg c,if_neg d,if_neg b,if_neg h1,if_neg c,if_neg d]
 by_cases a:j < 148
 ·rw [if_pos a,if_pos a]
  have:¬ (j - 4=k):=by omega
  simp [T.setBd,this]
 rw [if_neg a,if_neg a]
def dM (t:T)(u:U):U×T :=
 if 0 < u.load then eB t u
 else if gK (t.bd (ci u.tox u.toy))=true then
  if aY u.x u.y u.tox u.toy=true then ({ u with load:=min (t.bd (ci u.tox u.toy)) 5 },t.setBd (ci u.tox u.toy) (t.bd (ci u.tox u.toy) - min (t.bd (ci u.tox u.toy)) 5))
  else (u.to (cE t u fun c=>aY u.tox u.toy c.1 c.2),t.moved u (cE t u fun c=>aY u.tox u.toy c.1 c.2))
 else (u.idle,t)
theorem LK (d pb s hb J:Nat) (t:T) (u:U) (w:World) (h:TS w d pb s hb J t) (ba:Sd w) (ak:aD u.x u.y=true) (aa:aD u.tox u.toy=true) (hown:u.owner=0\/u.owner=1) (Zq:∀ b,bT t.us u.owner=some b->aD b.x b.y=true)
  (bu:0<=t.stock u.owner/\t.stock u.owner<=1000000000) (bq:0<=u.load/\u.load<=5) (av:u.kind=2) :
  Cs 162 #[.pointer (so d),u.val] w fun e a =>
   e=.returned (dM t u).1.val/\Fr [d,hb,J] w a/\TS a d pb s hb J (dM t u).2:=by
 have bh:=aA av
 clear av
 have hz:=h.z
 have cc:=h.ways.lt
 have cd:=h.held.lt
 have bv:=h.lt
 have cn:=h.row.lt
 obtain ⟨W2,N⟩:∃ W,W=(w.alloc (.cells u.arr 85)).alloc (.cells zeroU.arr 85):=⟨_,rfl⟩
 have bt:W2.heap.size=w.heap.size+1+1:=by rw [N];simp
 have bi:Fr [] w W2:=by rw [N];exact ((r0 _ _).alloc _).alloc _
 have hU:W2.heap[w.heap.size]?=some (.cells u.arr 85):=by rw [N,dD]
 have hR:W2.heap[w.heap.size+1]?=some (.cells zeroU.arr 85):=by rw [N,cR]
 by_cases br:0 < u.load
 ·have f:dM t u=eB t u:=by unfold dM;rw [if_pos br]
  have L:=aA f
  clear f
  go_enter Tryz.func162,Tryz.ntmps162
  go_wp2_with fail
  refine (EC d pb s hb J t u _ (h.fr0 (((r0 _ _).alloc _).alloc _)) (ba.fr0 (((r0 _ _).alloc _).alloc _)) ak hown Zq bu bq).mono ?_
  rintro e w5 ⟨rfl,n,an⟩
  obtain ⟨v,hv⟩:∃ v,(eB t u).1=v:=⟨_,rfl⟩
  rw [hv]
  have HV:=aA hv
  clear hv
  have r:=n.heap (cR w _ _) (by simp;omega)
  go_wp2_with (refine wpList_store_row rfl 85 _ _ rfl (w.heap.size+1) v.arr rfl rfl 85 _ r aL rfl (U.one _) ?_)
  have i:Fr [d,hb,J] w (w5.setRow (w.heap.size+1) v.arr):=(((((r0 [] w).alloc _).alloc _).of0 (S:=[d,hb,J])).trans n (by simp)).setRow _ _ (.inr (by omega))
  refine bodyPost_ret (v:=v.val) (results_cell_row Tryz.results162 _ _ (w.heap.size+1) 85 v.arr (0,0) _ rfl (setRow_heap _ _ _ v.arr _ _ r) Tryz.underlying85 rfl aL) rfl ⟨?_,i,?_⟩
  ·rw [L.o,HV.o]
  rw [L.o]
  exact an.fr ((r0 [w.heap.size+1] w5).setRow _ _ (by simp)) (by simp;omega) (by simp;omega) (by simp;omega) (by simp;omega)
 obtain ⟨cr,cs,ct,cu⟩:=bM.1 aa
 obtain ⟨p0,p1,p2,p3⟩:=bM.1 ak
 clear N
 obtain ⟨W3,B⟩:∃ W,W=((w.alloc (.cells u.arr 85)).alloc (.cells zeroU.arr 85)).alloc (.cells #[ii u.tox,ii u.toy] 159):=⟨_,rfl⟩
 have co:W3.heap.size=w.heap.size+1+1+1:=by rw [B];simp
 have bj:Fr [] w W3:=by rw [B];exact (((r0 _ _).alloc _).alloc _).alloc _
 have bm:W3.heap[w.heap.size]?=some (.cells u.arr 85):=by rw [B,fD _ _ _ (by simp;omega),dD]
 have bl:W3.heap[w.heap.size+1]?=some (.cells zeroU.arr 85):=by rw [B,fD _ _ _ (by simp),cR]
 have bk:W3.heap[w.heap.size+1+1]?=some (.cells #[ii u.tox,ii u.toy] 159):=by rw [B,iI]
 have KF:Fr [] W3 ((((w.alloc (.cells u.arr 85)).alloc (.cells zeroU.arr 85)).alloc (.cells #[ii u.tox,ii u.toy] 159)).drew):=by rw [B];exact (r0 _ _).drew
 have k:=h.tv.b _ (eK aa)
 obtain ⟨v,hv⟩:∃ v,t.bd (ci u.tox u.toy)=v:=⟨_,rfl⟩
 rw [hv] at k
 have ah:=aA hv
 unfold ci at k
 rw [<- Nat.add_assoc] at k
 clear B hv hU hR bt bi
 go_enter Tryz.func162,Tryz.ntmps162
 go_wp2_with fail
 go_cut [6] (fun s6 wx=>s6=.pointer (some ⟨d,4+u.toy.toNat*12+u.tox.toNat,none⟩)/\Fr [] W3 wx)
 case first =>
  go_region
  go_wp2_with fail
  go_meet
  exact ⟨rfl,KF⟩
 case rest =>
  obtain ⟨rfl,Y⟩:=hcut
  have V:=bj.then0 Y
  have R:=Y.heap0 bm
  have al:=Y.heap0 bl
  have aj:=Y.heap0 bk
  have ab:=h.fr0 V
  have am:=ba.fr0 V
  have Zr:wc.cell? ⟨d,4+u.toy.toNat*12+u.tox.toNat,none⟩=some (ii v):=(V.cell _ _ bv (by simp)).trans k
  have ce:=aH R
  have cf:=aH al
  have bw:=ab.lt
  have aq:=aA al
  clear al KF k
  go_wp2_with fail
  refine (wM v _).mono ?_
  rintro e X ⟨rfl,rfl⟩
  obtain ⟨O,hO⟩:∃ O,(decide (0 < v)&&decide (v < 10))=O:=⟨_,rfl⟩
  rw [hO]
  have HO:=aA hO
  clear hO
  cases O
  ·have f:dM t u=(u.idle,t):=by unfold dM gK;rw [if_neg (by omega),ah.o,HO.o];rfl
   have L:=aA f
   clear f
   go_wp2_with (refine wpList_load_row rfl 85 _ rfl w.heap.size rfl 85 u.arr (0,0) _ R Tryz.underlying85 rfl aL ?_)
   refine (oC u _).mono ?_
   rintro e w5 ⟨rfl,n⟩
   have r:=n.heap0 aq.o
   go_wp2_with (refine wpList_store_row rfl 85 _ _ rfl (w.heap.size+1) u.idle.arr rfl rfl 85 _ r aL rfl (U.one _) ?_)
   have i:Fr [d,hb,J] w (w5.setRow (w.heap.size+1) u.idle.arr):=(V.then0 n).of0.setRow _ _ (.inr (by omega))
   refine bodyPost_ret (v:=u.idle.val) (results_cell_row Tryz.results162 _ _ (w.heap.size+1) 85 u.idle.arr (0,0) _ rfl (setRow_heap _ _ _ u.idle.arr _ _ r) Tryz.underlying85 rfl aL) rfl ⟨?_,i,?_⟩
   ·rw [L.o]
   rw [L.o]
   exact (ab.fr0 n).fr ((r0 [w.heap.size+1] w5).setRow _ _ (by simp)) (by simp;omega) (by simp;omega) (by simp;omega) (by simp;omega)
  obtain ⟨A,hA⟩:∃ A,aY u.x u.y u.tox u.toy=A:=⟨_,rfl⟩
  have ad:=aA hA
  clear hA
  have ae:∀ a,Fr [] wc a->(fun a:World=>Fr [] wc a/\dC w.heap.size u a (ca a (w.heap.size+1+1) 0 (ii u.tox)/\ca a (w.heap.size+1+1) 1 (ii u.toy))) a:=fun a E=>by
   have Q:=E.heap0 R
   have hg:=E.heap0 aj
   exact ⟨E,aB Q,aB Q,aB Q,aB Q,aB Q,aB Q,aB Q,aB Q,aB Q,aB Q,aB Q,aB hg,aB hg⟩
  have K7:=ae wc.drew ((r0 [] wc).drew)
  go_wp2_with fail
  go_cut [39] (fun Zs wx=>Zs=.bool (!A)/\Fr [] wc wx)
  case first =>
   go_region_held (fun a:World=>Fr [] wc a/\dC w.heap.size u a (ca a (w.heap.size+1+1) 0 (ii u.tox)/\ca a (w.heap.size+1+1) 1 (ii u.toy)))
    (first|with_reducible exact K7|with_reducible exact ae _ g)
    (first|(go_at_call 192;refine (gU u _).mono ?_;rintro e X ⟨rfl,C⟩;have g:Fr [] wc X:=Fr.then0 (And.left (by assumption)) C)|(go_at_call 206;refine (lX u.x u.y u.tox u.toy _ (am.fr0 (And.left (by assumption))) (by omega) (by omega) (by omega) (by omega) (by omega) (by omega) (by omega) (by omega)).mono ?_;rintro e X ⟨rfl,C⟩;rw [ad.o];have g:Fr [] wc X:=Fr.then0 (And.left (by assumption)) C))
   all_goals
    go_wp2_with fail
    go_meet
    exact ⟨rfl,g⟩
  case rest =>
   obtain ⟨rfl,D⟩:=hcut
   have ap:=V.then0 D
   have p:=D.heap0 R
   have au:=D.heap0 aj
   have az:=D.heap0 aq.o
   have K:=ab.fr0 D
   have bc:=am.fr0 D
   have ai:=(D.cell d (4+u.toy.toNat*12+u.tox.toNat) bw (by simp)).trans Zr
   have M:=aA az
   clear R aj ab am ae K7 az Zr
   cases A
   ·have f:dM t u=(u.to (cE t u fun c=>aY u.tox u.toy c.1 c.2),t.moved u (cE t u fun c=>aY u.tox u.toy c.1 c.2)):=by
     unfold dM gK;rw [if_neg (by omega),ah.o,HO.o,if_pos rfl,ad.o];rfl
    have L:=aA f
    clear f
    have cj:∀ (fn:Fn) (first s:Array Value) (w:World),(Instr.makeFunc fn first s).run Tryz.prog w=.ok (.func fn first s) w:=fun _ _ _ _=>rfl
    go_wp2_with (first|(refine wpList_load_row rfl 85 _ rfl w.heap.size rfl 85 u.arr (0,0) _ p Tryz.underlying85 rfl aL ?_)|(refine wpList_load_row rfl 159 _ rfl (w.heap.size+1+1) rfl 159 #[ii u.tox,ii u.toy] (0,0) _ au Tryz.underlying159 rfl gI ?_))
    refine (qT d pb s hb J t u u.tox u.toy _ K bc ak aa).mono ?_
    rintro e w5 ⟨rfl,n,an⟩
    have r:=n.heap M.o (by simp;omega)
    obtain ⟨q,hq⟩:∃ q,q=u.to (cQ (fun c=>bX (bG t.held) t.bd c.1 c.2) (fun c=>aY u.tox u.toy c.1 c.2) (u.x,u.y)):=⟨_,rfl⟩
    rw [<- hq]
    have HQ:=aA hq
    clear hq
    go_wp2_with (refine wpList_store_row rfl 85 _ _ rfl (w.heap.size+1) q.arr rfl rfl 85 _ r aL rfl (U.one _) ?_)
    have i:Fr [d,hb,J] w (w5.setRow (w.heap.size+1) q.arr):=((ap.of0 (S:=[d,hb,J])).trans n (by simp)).setRow _ _ (.inr (by omega))
    refine bodyPost_ret (v:=q.val) (results_cell_row Tryz.results162 _ _ (w.heap.size+1) 85 q.arr (0,0) _ rfl (setRow_heap _ _ _ q.arr _ _ r) Tryz.underlying85 rfl aL) rfl ⟨?_,i,?_⟩
    ·rw [L.o,HQ.o];rfl
    rw [L.o]
    exact an.fr ((r0 [w.heap.size+1] w5).setRow _ _ (by simp)) (by simp;omega) (by simp;omega) (by simp;omega) (by simp;omega)
   have u6:ca wc w.heap.size 6 (ii u.load):=aB p
   have bf:wc.frozen? ⟨w.heap.size,6,none⟩=false:=bI p
   have z2:=K.fz (4+u.toy.toNat*12+u.tox.toNat)
   have dn:¬ (d=w.heap.size):=by omega
   have cb:¬ (w.heap.size=d):=by omega
   have ax:0 < v/\v < 10:=by have:=HO.o;simpa using this
   obtain ⟨cp,cq⟩:=ax
   obtain ⟨m,hm⟩:∃ m,min v 5=m:=⟨_,rfl⟩
   have bs:0 < m/\m<=v/\m<=5:=by omega
   obtain ⟨cg,cm,ch⟩:=bs
   have HM:=aA hm
   have be:w.heap.size < wc.heap.size:=aH p
   have ac:wc.cell? ⟨w.heap.size,2,none⟩=some (ii 2):=by rw [show (ii 2:Value)=ii u.kind from congrArg (fun x:Int=>(ii x:Value)) bh.o.symm];exact aB p
   have I:∀ a,Fr [] wc a->(fun a:World=>Fr [w.heap.size] wc a/\ca a w.heap.size 2 (ii 2)/\ca a d (4+u.toy.toNat*12+u.tox.toNat) (ii v)) a:=fun a E=>⟨E.of0,(E.cell _ _ be (by simp)).trans ac,(E.cell d _ K.lt (by simp)).trans ai⟩
   have ag:Hi (∀ a,Fr [] wc a->ca a w.heap.size 6 (ii u.load)/\a.frozen? ⟨w.heap.size,6,none⟩=false):=fun a E=>⟨aB (E.heap0 p),bI (E.heap0 p)⟩
   have af:∀ (a:World) (x:Int),Fr [] wc a->(fun a:World=>Fr [w.heap.size] wc a/\a.cell? ⟨w.heap.size,2,none⟩=some (ii 2)/\a.cell? ⟨d,4+u.toy.toNat*12+u.tox.toNat,none⟩=some (ii v)) (a.setCell ⟨w.heap.size,6,none⟩ (.int .i64 x)):=fun a x E=>⟨E.of0.setCell _ _ (.inl (by simp)),(cA _ w.heap.size 6 w.heap.size 2 _ (.inr (by omega))).trans (I a E).2.1,(cA _ w.heap.size 6 d _ _ (.inl (by omega))).trans (I a E).2.2⟩
   have K8:=I wc.drew ((r0 [] wc).drew)
   have aw:∀ w,(Instr.field 220 gR 2).run Tryz.prog w=.ok (ii 5) w:=fun w=>by kernel_rfl
   clear hm u6 bf
   go_wp2_with fail
   go_cut [] (fun wx=>∃ H,Fr [] wc H/\wx=H.setCell ⟨w.heap.size,6,none⟩ (.int .i64 m))
   case first =>
    by_cases ck:v<=5
    ·have e:m=v:=by have:=HM.o;omega
     subst e
     have hq:¬ (5 < m):=by omega
     go_region_held (fun a:World=>Fr [w.heap.size] wc a/\ca a w.heap.size 2 (ii 2)/\ca a d (4+u.toy.toNat*12+u.tox.toNat) (ii m))
      (first|with_reducible exact K8|with_reducible exact I _ g|with_reducible exact af _ _ g)
      (first|(go_at_call 121;refine (jT _).mono ?_;rintro e X ⟨rfl,C⟩;have g:Fr [] wc X:=Fr.then0 ((r0 [] wc).drew) C;obtain ⟨bz,bg⟩:=ag.o X g))
     all_goals
      go_wp2_with fail
      go_meet
      exact ⟨_,g,rfl⟩
    have e:m=5:=by have:=HM.o;omega
    subst e
    go_region_held (fun a:World=>Fr [w.heap.size] wc a/\ca a w.heap.size 2 (ii 2)/\ca a d (4+u.toy.toNat*12+u.tox.toNat) (ii v))
     (first|with_reducible exact K8|with_reducible exact I _ g|with_reducible exact af _ _ g)
     (first|(go_at_call 121;refine (jT _).mono ?_;rintro e X ⟨rfl,C⟩;have g:Fr [] wc X:=Fr.then0 ((r0 [] wc).drew) C;obtain ⟨bz,bg⟩:=ag.o X g))
    all_goals
     go_wp2_with fail
     go_meet
     exact ⟨_,g,rfl⟩
   case rest =>
    obtain ⟨H,P,rfl⟩:=hcut
    have bx:=ap.then0 P
    have ao:=P.heap0 p
    have ay:=P.heap0 M.o
    have l:=K.fr0 P
    have bo:=(P.cell d (4+u.toy.toNat*12+u.tox.toNat) K.lt (by simp)).trans ai
    clear I ag af K8 aw ac p au bc ai K M z2 ap
    have u6:ca H w.heap.size 6 (ii u.load):=aB ao
    have bf:H.frozen? ⟨w.heap.size,6,none⟩=false:=bI ao
    have z2:=l.fz (4+u.toy.toNat*12+u.tox.toNat)
    have M:=aA ay
    clear ay
    have f:dM t u=({ u with load:=m },t.setBd (ci u.tox u.toy) (v - m)):=by
     unfold dM gK;rw [if_neg (by omega),ah.o,HO.o,if_pos rfl,ad.o,if_pos rfl,HM.o]
    have L:=aA f
    have bn:((H.setCell ⟨w.heap.size,6,none⟩ (.int .i64 m)).setCell ⟨d,4+u.toy.toNat*12+u.tox.toNat,none⟩ (.int .i64 (v - m))).drew.heap[w.heap.size]?=some (.cells (U.arr { u with load:=m }) 85):=by
     have h1:=bS ao 6 (.int .i64 m)
     refine Eq.trans (b:=(H.setCell ⟨w.heap.size,6,none⟩ (.int .i64 m)).heap[w.heap.size]?) (Below.heap_setCell _ _ _ _ (by simp;omega)) (h1.trans (by simp))
    have ar:((H.setCell ⟨w.heap.size,6,none⟩ (.int .i64 m)).setCell ⟨d,4+u.toy.toNat*12+u.tox.toNat,none⟩ (.int .i64 (v - m))).drew.heap[w.heap.size+1]?=some (.cells zeroU.arr 85):=by
     show ((H.setCell ⟨w.heap.size,6,none⟩ (.int .i64 m)).setCell ⟨d,4+u.toy.toNat*12+u.tox.toNat,none⟩ (.int .i64 (v - m))).heap[w.heap.size+1]?=_
     rw [Below.heap_setCell _ _ _ _ (by simp;omega),Below.heap_setCell _ _ _ _ (by simp)];exact M.o
    clear f
    go_wp2_with fail
    go_region
    go_wp2_with (first|(refine wpList_load_row rfl 85 _ rfl w.heap.size rfl 85 (U.arr { u with load:=m }) (0,0) _ bn Tryz.underlying85 rfl aL ?_)|(refine wpList_store_row rfl 85 _ _ rfl (w.heap.size+1) (U.arr { u with load:=m }) rfl rfl 85 _ ar aL rfl (U.one _) ?_))
    have F:Fr [d,w.heap.size,w.heap.size+1] H (((H.setCell ⟨w.heap.size,6,none⟩ (.int .i64 m)).setCell ⟨d,4+u.toy.toNat*12+u.tox.toNat,none⟩ (.int .i64 (v - m))).drew.setRow (w.heap.size+1) (U.arr { u with load:=m })) :=
     (((((r0 _ _).setCell _ _ (by simp)).setCell _ _ (by simp)).drew).setRow _ _ (by simp))
    have i:=((bx.of0 (S:=[d,hb,J])).trans F (by simp))
    refine bodyPost_ret (v:=U.val { u with load:=m }) (results_cell_row Tryz.results162 _ _ (w.heap.size+1) 85 (U.arr { u with load:=m }) (0,0) _ rfl (setRow_heap _ _ _ _ _ _ ar) Tryz.underlying85 rfl aL) rfl ⟨?_,i,?_⟩
    ·rw [L.o]
    rw [L.o]
    refine { l with cell:=?_,fz:=?_,row:=l.row.fr F (by simp;exact ⟨fun e=>l.n1 e.symm,by omega,by omega⟩),held:=l.held.fr F (by simp;exact ⟨fun e=>l.n2 e.symm,by omega,by omega⟩),ways:=l.ways.fr F (by simp;exact ⟨fun e=>l.n3 e.symm,by omega,by omega⟩) }
    ·intro j hj
     rw [cell_setRow_other _ _ _ _ (by simp;omega)]
     show (((H.setCell ⟨w.heap.size,6,none⟩ (.int .i64 m)).setCell ⟨d,4+u.toy.toNat*12+u.tox.toNat,none⟩ (.int .i64 (v - m)))).cell? ⟨d,j,none⟩=_
     by_cases bp:j=4+u.toy.toNat*12+u.tox.toNat
     ·subst bp
      rw [dO _ _ _ _ (ii v) ((cA _ w.heap.size 6 d _ _ (.inl (by omega))).trans bo)]
      exact congrArg some (UC t _ _ hb J (ci u.tox u.toy) (eK aa) _ (by unfold ci;omega)).symm
     rw [cA _ d (4+u.toy.toNat*12+u.tox.toNat) d j _ (.inr (by omega)),cA _ w.heap.size 6 d j _ (.inl (by omega)),l.cell j hj]
     exact congrArg some (UD t _ _ hb J (ci u.tox u.toy) j (by unfold ci;omega)).symm
    intro j
    rw [World.frozen?_of_block (w:=((H.setCell ⟨w.heap.size,6,none⟩ (.int .i64 m)).setCell ⟨d,4+u.toy.toNat*12+u.tox.toNat,none⟩ (.int .i64 (v - m))).drew) (setRow_other _ _ _ _ (by simp;omega))]
    show (((H.setCell ⟨w.heap.size,6,none⟩ (.int .i64 m)).setCell ⟨d,4+u.toy.toNat*12+u.tox.toNat,none⟩ (.int .i64 (v - m)))).frozen? ⟨d,j,none⟩=false
    rw [World.frozen?_setCell,World.frozen?_setCell]
    exact l.fz j
