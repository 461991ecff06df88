import Derived.Test.YtapabahhfanmmaaGreatDoorCMove
namespace Go.Proofs.YtapabahhfanmmaaGreatDoor
open Go.RowKit List
set_option maxRecDepth 100000
set_option maxHeartbeats 2000000
theorem bS {w:World}{b:Nat}{cs:Array Value}{t:TypeId}(h:w.heap[b]?=some (.cells cs t))(i:Nat)(x:Value):(w.setCell ⟨b,i,none⟩ x).heap[b]?=some (.cells (cs.setIfInBounds i x) t):=by
 rw [setCell_eq_setRow w b i cs t (0,0) x h]
 exact setRow_heap w b cs _ t (0,0) h
theorem set11 {w:World}{b:Nat}{z v:U}{t:TypeId}(h:w.heap[b]?=some (.cells z.arr t)):(((((((((((w.setCell ⟨b,0,none⟩ (.int .i64 v.id)).setCell ⟨b,1,none⟩ (.int .i64 v.owner)).setCell ⟨b,2,none⟩ (.int .i64 v.kind)).setCell ⟨b,3,none⟩ (.int .i64 v.x)).setCell ⟨b,4,none⟩ (.int .i64 v.y)).setCell ⟨b,5,none⟩ (.int .i64 v.life)).setCell ⟨b,6,none⟩ (.int .i64 v.load)).setCell ⟨b,7,none⟩ (.int .i64 v.what)).setCell ⟨b,8,none⟩ (.int .i64 v.tox)).setCell ⟨b,9,none⟩ (.int .i64 v.toy)).setCell ⟨b,10,none⟩ (.int .i64 v.target)).heap[b]?=some (.cells v.arr t):=by
 have c:=bS h 0 (.int .i64 v.id)
 have h1:=bS c 1 (.int .i64 v.owner)
 have d:=bS h1 2 (.int .i64 v.kind)
 have e:=bS d 3 (.int .i64 v.x)
 have f:=bS e 4 (.int .i64 v.y)
 have g:=bS f 5 (.int .i64 v.life)
 have i:=bS g 6 (.int .i64 v.load)
 have j:=bS i 7 (.int .i64 v.what)
 have k:=bS j 8 (.int .i64 v.tox)
 have l:=bS k 9 (.int .i64 v.toy)
 have a:=bS l 10 (.int .i64 v.target)
 simpa using a
theorem Fr.set11 {S:List Nat}{a c:World}(h:Fr S a c)(b:Nat)(v:U)(hb:b∈S\/a.heap.size<=b):Fr S a (((((((((((c.setCell ⟨b,0,none⟩ (.int .i64 v.id)).setCell ⟨b,1,none⟩ (.int .i64 v.owner)).setCell ⟨b,2,none⟩ (.int .i64 v.kind)).setCell ⟨b,3,none⟩ (.int .i64 v.x)).setCell ⟨b,4,none⟩ (.int .i64 v.y)).setCell ⟨b,5,none⟩ (.int .i64 v.life)).setCell ⟨b,6,none⟩ (.int .i64 v.load)).setCell ⟨b,7,none⟩ (.int .i64 v.what)).setCell ⟨b,8,none⟩ (.int .i64 v.tox)).setCell ⟨b,9,none⟩ (.int .i64 v.toy)).setCell ⟨b,10,none⟩ (.int .i64 v.target)) :=
  ((((((((((h.setCell ⟨b,0,none⟩ _ hb).setCell ⟨b,1,none⟩ _ hb).setCell ⟨b,2,none⟩ _ hb).setCell ⟨b,3,none⟩ _ hb).setCell ⟨b,4,none⟩ _ hb).setCell ⟨b,5,none⟩ _ hb).setCell ⟨b,6,none⟩ _ hb).setCell ⟨b,7,none⟩ _ hb).setCell ⟨b,8,none⟩ _ hb).setCell ⟨b,9,none⟩ _ hb).setCell ⟨b,10,none⟩ _ hb
theorem uM (b c d x y f g h i j a:Int)(w:World) :
 Cs 192 #[.agg #[ii b,ii c,ii d,ii x,ii y,ii f,ii g,ii h,ii i,ii j,ii a]] w fun e k=>e=.returned (cv x y)/\Fr [] w k:=gU ⟨b,c,d,x,y,f,g,h,i,j,a⟩ w
theorem sM (t:T)(v:Int)(pv:Value)(hb b j:Nat)(c:j≠2):aN { t with s0:=v } pv hb b j=aN t pv hb b j:=by
 unfold aN
 by_cases a:j=0
 ·simp [a]
 by_cases h1:j=1
 ·simp [h1]
 rw [if_neg a,if_neg h1,if_neg c,if_neg a,if_neg h1,if_neg c]
theorem sN (t:T)(v:Int)(pv:Value)(hb c j:Nat)(d:j≠3):aN { t with s1:=v } pv hb c j=aN t pv hb c j:=by
 unfold aN
 by_cases a:j=0
 ·simp [a]
 by_cases h1:j=1
 ·simp [h1]
 by_cases b:j=2
 ·simp [b]
 rw [if_neg a,if_neg h1,if_neg b,if_neg d,if_neg a,if_neg h1,if_neg b,if_neg d]
theorem cA (w:World)(b o a c:Nat)(v:Value)(h:b≠a\/o≠c):(w.setCell ⟨b,o,none⟩ v).cell? ⟨a,c,none⟩=w.cell? ⟨a,c,none⟩ :=
  World.cell?_setCell_other w _ _ v (by intro e;cases e;simp at h)
theorem dO (w:World)(b o:Nat)(v x:Value)(h:w.cell? ⟨b,o,none⟩=some x):(w.setCell ⟨b,o,none⟩ v).cell? ⟨b,o,none⟩=some v :=
  World.cell?_setCell_same' w _ v (by simp [h])
def T.stock (t:T)(o:Int):Int:=if o=0 then t.s0 else t.s1
def T.setStock (t:T)(o v:Int):T:=if o=0 then { t with s0:=v } else { t with s1:=v }
def eB (t:T)(u:U):U×T :=
 match bT t.us u.owner with
 | none=>(u,t)
 | some b =>
  if aY u.x u.y b.x b.y=true then ({ u with load:=0 },t.setStock u.owner (min (t.stock u.owner+u.load) 1000000000))
  else (u.to (cE t u fun c=>aY b.x b.y c.1 c.2),t.moved u (cE t u fun c=>aY b.x b.y c.1 c.2))
theorem EC (d pb F hb s:Nat) (t:T) (u:U) (w:World) (h:TS w d pb F hb s t) (bm:Sd w) (ba:aD u.x u.y=true) (hown:u.owner=0\/u.owner=1) (aj:∀ b,bT t.us u.owner=some b->aD b.x b.y=true)
  (ag:0<=t.stock u.owner/\t.stock u.owner<=1000000000) (ax:0<=u.load/\u.load<=5) :
  Cs 205 #[.pointer (so d),u.val] w fun e f =>
   e=.returned (eB t u).1.val/\Fr [d,hb,s] w f/\TS f d pb F hb s (eB t u).2:=by
 have hz:=h.z
 have bu:=h.ways.lt
 have bw:=h.held.lt
 have cc:=h.lt
 have bx:=h.row.lt
 obtain ⟨M,I⟩:∃ W,W=(w.alloc (.cells u.arr 85)).alloc (.cells zeroU.arr 85):=⟨_,rfl⟩
 have cb:M.heap.size=w.heap.size+1+1:=by rw [I];simp
 have Zq:Fr [] w M:=by rw [I];exact ((r0 _ _).alloc _).alloc _
 have hU:M.heap[w.heap.size]?=some (.cells u.arr 85):=by rw [I,dD]
 have hR:M.heap[w.heap.size+1]?=some (.cells zeroU.arr 85):=by rw [I,cR]
 have HS:∀ f,Fr [] M f->(fun f:World=>cl f w.heap.size 1 u.owner/\Fr [] M f) f:=fun f hf=>⟨aB (hf.heap0 hU),hf⟩
 have KF:Fr [] M (((w.alloc (.cells u.arr 85)).alloc (.cells zeroU.arr 85)).drew):=by rw [I];exact (r0 _ _).drew
 have KA:Fr [] M ((((w.alloc (.cells u.arr 85)).alloc (.cells zeroU.arr 85)).alloc (.cells zeroU.arr 85)).drew):=by rw [I];exact ((r0 _ _).alloc _).drew
 have K0:=HS _ KF
 obtain ⟨g,Zr⟩:∃ x,(bT t.us u.owner).getD zeroU=x:=⟨_,rfl⟩
 obtain ⟨hr,aw⟩:∃ x,(bT t.us u.owner).isSome=x:=⟨_,rfl⟩
 have ar:=aA Zr
 have ak:=aA aw
 clear I Zr aw
 go_enter Tryz.func205,Tryz.ntmps205
 go_wp2_with fail
 go_cut [5,6] (fun s5 s6 wx=>∃ l:Nat,s5=.pointer (so l)/\s6=.bool hr/\wx.heap[l]?=some (.cells g.arr 85)/\w.heap.size+1 < l/\Fr [] M wx)
 case first =>
  go_region_held (fun f:World=>ca f w.heap.size 1 (ii u.owner)/\Fr [] M f)
   (first|with_reducible exact K0|with_reducible exact HS _ C|with_reducible exact HS _ (C.alloc _)|with_reducible exact HS _ KA|with_reducible exact HS _ (C.set11 (w.heap.size+1+1) g (.inr (by omega))))
   (first|(go_at_call 92;refine (lZ d pb F t.us u.owner _ (h.gv.fr0 (Zq.then0 (And.right (by assumption))))).mono ?_;rintro e O ⟨rfl,B⟩;rw [ar.o,ak.o];have C:Fr [] M O:=Fr.then0 (And.right (by assumption)) B;obtain ⟨bv,cd⟩:=B.cells0;have q4:w.heap.size+1+1<=O.heap.size:=(by have:=C.size;omega);(first|(have q3:w.heap.size+1+1 < O.heap.size:=(by have:=B.size;simp at this;omega))|skip)))
  all_goals
   go_wp2_with fail
   go_meet
   (first|(have bh:O.heap[w.heap.size+1+1]?=some (.cells zeroU.arr 85):=B.heap0 (by exact iI w _ _ _))|skip)
   refine ⟨_,rfl,rfl,?_,by omega,?_⟩
   ·first
    | with_reducible exact aC _ _
    | exact set11 bh
   first
   | with_reducible exact C.alloc _
   | exact C.set11 (w.heap.size+1+1) g (.inr (by omega))
 case rest =>
  obtain ⟨l,rfl,rfl,am,bt,ae⟩:=hcut
  have ah:=ae.heap0 hU
  have af:=ae.heap0 hR
  have ai:=Zq.then0 ae
  have hl:=aH af
  have HR:=aA af
  have aq:=h.fr0 ai
  have ap:=bm.fr0 ai
  cases hr
  ·have k:eB t u=(u,t):=by
    unfold eB
    have:=ak.o
    cases hb:bT t.us u.owner with
    | none=>rfl
    | some b=>rw [hb] at this;simp at this
   have D:=aA k
   clear k af K0 HS KF KA
   go_wp2_with (first|(refine wpList_load_row rfl 85 _ rfl w.heap.size rfl 85 u.arr (0,0) _ ah Tryz.underlying85 rfl aL ?_)|(refine wpList_store_row rfl 85 _ _ rfl (w.heap.size+1) u.arr rfl rfl 85 _ HR.o aL rfl (U.one _) ?_))
   have m:Fr [d,hb,s] w (wc.setRow (w.heap.size+1) u.arr):=ai.of0.setRow _ _ (.inr (by omega))
   refine bodyPost_ret (v:=u.val) (results_cell_row Tryz.results205 _ _ (w.heap.size+1) 85 u.arr (0,0) _ rfl (setRow_heap _ _ _ u.arr _ _ HR.o) Tryz.underlying85 rfl aL) rfl ⟨?_,m,?_⟩
   ·rw [D.o]
   rw [D.o]
   exact aq.fr ((r0 [w.heap.size+1] wc).setRow _ _ (by simp)) (by simp;omega) (by simp;omega) (by simp;omega) (by simp;omega)
  have hbase:bT t.us u.owner=some g:=by
   have h1:=ak.o
   have Y:=ar.o
   cases hb:bT t.us u.owner with
   | none=>rw [hb] at h1;simp at h1
   | some b=>rw [hb] at Y;simp at Y;rw [Y]
  have aa:=aj g hbase
  obtain ⟨p0,p1,p2,p3⟩:=bM.1 ba
  obtain ⟨p4,p5,p6,p7⟩:=bM.1 aa
  obtain ⟨A,hA⟩:∃ A,aY u.x u.y g.x g.y=A:=⟨_,rfl⟩
  have al:∀ f,Fr [] wc f->(fun f:World=>Fr [] M f/\Fr [] wc f/\dC w.heap.size u f (ca f l 0 (ii g.id)/\ca f l 1 (ii g.owner)/\ca f l 2 (ii g.kind)/\ca f l 3 (ii g.x)/\ca f l 4 (ii g.y)/\ca f l 5 (ii g.life)/\ca f l 6 (ii g.load)/\ca f l 7 (ii g.what)/\ca f l 8 (ii g.tox)/\ca f l 9 (ii g.toy)/\ca f l 10 (ii g.target))) f:=fun f hf=>by
   have q:=hf.heap0 ah
   have hb:=hf.heap0 am
   exact ⟨ae.then0 hf,hf,aB q,aB q,aB q,aB q,aB q,aB q,aB q,aB q,aB q,aB q,aB q,aB hb,aB hb,aB hb,aB hb,aB hb,aB hb,aB hb,aB hb,aB hb,aB hb,aB hb⟩
  have K4:=al wc.drew ((r0 [] wc).drew)
  have P:=aA hbase
  have L:=aA hA
  clear hbase hA af K0 HS KF KA aj
  go_wp2_with fail
  go_cut [25] (fun bq wx=>bq=.bool (!A)/\Fr [] wc wx)
  case first =>
   go_region_held (fun f:World=>Fr [] M f/\Fr [] wc f/\dC w.heap.size u f (ca f l 0 (ii g.id)/\ca f l 1 (ii g.owner)/\ca f l 2 (ii g.kind)/\ca f l 3 (ii g.x)/\ca f l 4 (ii g.y)/\ca f l 5 (ii g.life)/\ca f l 6 (ii g.load)/\ca f l 7 (ii g.what)/\ca f l 8 (ii g.tox)/\ca f l 9 (ii g.toy)/\ca f l 10 (ii g.target)))
    (first|with_reducible exact K4|with_reducible exact al _ ab)
    (first|(go_at_call 192;refine (uM _ _ _ _ _ _ _ _ _ _ _ _).mono ?_;rintro e O ⟨rfl,B⟩;have ab:Fr [] wc O:=Fr.then0 (And.left (And.right (by assumption))) B)|(go_at_call 206;refine (lX u.x u.y g.x g.y _ (ap.fr0 (And.left (And.right (by assumption)))) (by omega) (by omega) (by omega) (by omega) (by omega) (by omega) (by omega) (by omega)).mono ?_;rintro e O ⟨rfl,B⟩;rw [L.o];have ab:Fr [] wc O:=Fr.then0 (And.left (And.right (by assumption))) B))
   all_goals
    go_wp2_with fail
    go_meet
    exact ⟨rfl,ab⟩
  case rest =>
   obtain ⟨rfl,N⟩:=hcut
   have ad:=ai.then0 N
   have r:=N.heap0 ah
   have hby:=N.heap0 am
   have bc:=N.heap0 HR.o
   have a:=aq.fr0 N
   have bn:=ap.fr0 N
   have Q:=aA bc
   clear ah am aq ap al K4 bc
   cases A
   ·have k:eB t u=(u.to (cE t u fun c=>aY g.x g.y c.1 c.2),t.moved u (cE t u fun c=>aY g.x g.y c.1 c.2)):=by
     unfold eB;rw [P.o];simp only;rw [L.o];rfl
    have D:=aA k
    clear k
    obtain ⟨v,hv⟩:∃ v,u.to (cQ (fun c=>bX (bG t.held) t.bd c.1 c.2) (fun c=>aY g.x g.y c.1 c.2) (u.x,u.y))=v:=⟨_,rfl⟩
    have HV:=aA hv
    clear hv
    have R:∀ f,Fr [w.heap.size+1,hb,s] wc f->(fun f:World=>dC w.heap.size u f (ca f l 0 (ii g.id)/\ca f l 1 (ii g.owner)/\ca f l 2 (ii g.kind)/\ca f l 3 (ii g.x)/\ca f l 4 (ii g.y)/\ca f l 5 (ii g.life)/\ca f l 6 (ii g.load)/\ca f l 7 (ii g.what)/\ca f l 8 (ii g.tox)/\ca f l 9 (ii g.toy)/\ca f l 10 (ii g.target))) f:=fun f hf=>by
     have q:=hf.heap r (by simp;omega)
     have hb:=hf.heap hby (by simp;omega)
     exact ⟨aB q,aB q,aB q,aB q,aB q,aB q,aB q,aB q,aB q,aB q,aB q,aB hb,aB hb,aB hb,aB hb,aB hb,aB hb,aB hb,aB hb,aB hb,aB hb,aB hb⟩
    have K5:=R wc.drew ((r0 _ wc).drew)
    have bk:∀ (fn:Fn) (first F:Array Value) (w:World),(Instr.makeFunc fn first F).run Tryz.prog w=.ok (.func fn first F) w:=fun _ _ _ _=>rfl
    go_wp2_with fail
    go_cut [] (fun wx=>wx.heap[w.heap.size+1]?=some (.cells v.arr 85)/\Fr [w.heap.size+1,hb,s] wc wx/\TS wx d pb F hb s (t.moved u (cE t u fun c=>aY g.x g.y c.1 c.2)))
    case first =>
     go_region_held (fun f:World=>dC w.heap.size u f (ca f l 0 (ii g.id)/\ca f l 1 (ii g.owner)/\ca f l 2 (ii g.kind)/\ca f l 3 (ii g.x)/\ca f l 4 (ii g.y)/\ca f l 5 (ii g.life)/\ca f l 6 (ii g.load)/\ca f l 7 (ii g.what)/\ca f l 8 (ii g.tox)/\ca f l 9 (ii g.toy)/\ca f l 10 (ii g.target)))
      (first|with_reducible exact K5|with_reducible exact R _ au|with_reducible exact R _ ac|with_reducible exact R _ (ac.set11 (w.heap.size+1) v (.inl (by simp))))
      (first|(go_at_call 192;refine (uM _ _ _ _ _ _ _ _ _ _ _ _).mono ?_;rintro e O ⟨rfl,B⟩;have K:Fr [] wc O:=((r0 [] wc).drew).then0 B;have ab:Fr [hb,s] wc O:=K.of0;have au:Fr [w.heap.size+1,hb,s] wc O:=K.of0)|(go_at_call 202;refine (qT d pb F hb s t u g.x g.y _ (a.fr0 K) (bn.fr0 K) ba aa).mono ?_;rintro e w5 ⟨rfl,bi,bo⟩;rw [HV.o];have av:Fr [hb,s] wc w5:=ab.trans bi (by simp);have ac:Fr [w.heap.size+1,hb,s] wc w5:=av.mono (by simp);have ao:=av.heap Q.o (by simp;omega);have Zs:∀ j,w5.cell? ⟨w.heap.size+1,j,none⟩=zeroU.arr[j]?:=(fun j=>aB ao);have bz:∀ j,w5.frozen? ⟨w.heap.size+1,j,none⟩=false:=(fun j=>bI ao)))
     all_goals
      go_wp2_with fail
      go_meet
      exact ⟨set11 ao,ac.set11 (w.heap.size+1) v (.inl (by simp)),bo.fr ((r0 [w.heap.size+1] w5).set11 (w.heap.size+1) v (by simp)) (by simp;omega) (by simp;omega) (by simp;omega) (by simp;omega)⟩
    case rest =>
     obtain ⟨bl,bj,bp⟩:=hcut
     clear R K5 bk
     go_wp2_with fail
     have m:Fr [d,hb,s] w wc:=(ad.of0 (S:=[d,hb,s])).trans bj (by simp)
     refine bodyPost_ret (v:=v.val) (results_cell_row Tryz.results205 _ _ (w.heap.size+1) 85 v.arr (0,0) _ rfl bl Tryz.underlying85 rfl aL) rfl ⟨?_,m,?_⟩
     ·rw [D.o,<- HV.o];rfl
     rw [D.o];exact bp
   rcases hown with ho|ho
   ·have c2:wc.cell? ⟨d,2,none⟩=some (ii t.s0):=by have:=a.cell 2 (by omega);simpa [aN] using this
    have z2:=a.fz 2
    have u1:ca wc w.heap.size 1 (ii u.owner):=aB r
    have u6:ca wc w.heap.size 6 (ii u.load):=aB r
    have br:wc.frozen? ⟨w.heap.size,6,none⟩=false:=bI r
    have dn:¬ (d=w.heap.size):=by omega
    have bg:¬ (w.heap.size=d):=by omega
    have J:t.stock u.owner=t.s0:=by unfold T.stock;rw [if_pos ho]
    rw [J] at ag
    obtain ⟨be,bf⟩:=ag
    obtain ⟨ay,az⟩:=ax
    have X:=aA J
    have E:∀ v,t.setStock u.owner v={ t with s0:=v }:=fun v=>by unfold T.setStock;rw [if_pos ho]
    have V:=aA E
    clear J E
    by_cases an:t.s0+u.load<=1000000000
    ·have k:eB t u=({ u with load:=0 },{ t with s0:=(t.s0+u.load) }):=by
      unfold eB;rw [P.o];simp only;rw [L.o,V.o,X.o,if_pos rfl,Int.min_eq_left an]
     have D:=aA k
     have H:((wc.setCell ⟨d,2,none⟩ (.int .i64 (t.s0+u.load))).setCell ⟨w.heap.size,6,none⟩ (.int .i64 0)).drew.drew.heap[w.heap.size]?=some (.cells (U.arr { u with load:=0 }) 85):=by
      have h1:(wc.setCell ⟨d,2,none⟩ (.int .i64 (t.s0+u.load))).heap[w.heap.size]?=some (.cells u.arr 85):=by rw [Below.heap_setCell _ _ _ _ (by simp;omega)];exact r
      have Y:=bS h1 6 (.int .i64 0)
      exact Y.trans (by simp)
     have n:((wc.setCell ⟨d,2,none⟩ (.int .i64 (t.s0+u.load))).setCell ⟨w.heap.size,6,none⟩ (.int .i64 0)).drew.drew.heap[w.heap.size+1]?=some (.cells zeroU.arr 85):=by
      show ((wc.setCell ⟨d,2,none⟩ (.int .i64 (t.s0+u.load))).setCell ⟨w.heap.size,6,none⟩ (.int .i64 0)).heap[w.heap.size+1]?=_
      rw [Below.heap_setCell _ _ _ _ (by simp),Below.heap_setCell _ _ _ _ (by simp;omega)];exact Q.o
     clear k
     go_wp2_with fail
     go_region
     go_wp2_with fail
     go_region
     go_wp2_with (first|(refine wpList_load_row rfl 85 _ rfl w.heap.size rfl 85 (U.arr { u with load:=0 }) (0,0) _ H Tryz.underlying85 rfl aL ?_)|(refine wpList_store_row rfl 85 _ _ rfl (w.heap.size+1) (U.arr { u with load:=0 }) rfl rfl 85 _ n aL rfl (U.one _) ?_))
     have i:Fr [d,w.heap.size,w.heap.size+1] wc (((wc.setCell ⟨d,2,none⟩ (.int .i64 (t.s0+u.load))).setCell ⟨w.heap.size,6,none⟩ (.int .i64 0)).drew.drew.setRow (w.heap.size+1) (U.arr { u with load:=0 })) :=
      ((((((r0 _ _).setCell _ _ (by simp)).setCell _ _ (by simp)).drew).drew).setRow _ _ (by simp))
     have m:=((ad.of0 (S:=[d,hb,s])).trans i (by simp))
     refine bodyPost_ret (v:=U.val { u with load:=0 }) (results_cell_row Tryz.results205 _ _ (w.heap.size+1) 85 (U.arr { u with load:=0 }) (0,0) _ rfl (setRow_heap _ _ _ _ _ _ n) Tryz.underlying85 rfl aL) rfl ⟨?_,m,?_⟩
     ·rw [D.o]
     rw [D.o]
     refine { a with cell:=?_,fz:=?_,row:=a.row.fr i (by simp;exact ⟨fun e=>a.n1 e.symm,by omega,by omega⟩),held:=a.held.fr i (by simp;exact ⟨fun e=>a.n2 e.symm,by omega,by omega⟩),ways:=a.ways.fr i (by simp;exact ⟨fun e=>a.n3 e.symm,by omega,by omega⟩) }
     ·intro j hj
      rw [cell_setRow_other _ _ _ _ (by simp;omega)]
      show (((wc.setCell ⟨d,2,none⟩ (.int .i64 (t.s0+u.load))).setCell ⟨w.heap.size,6,none⟩ (.int .i64 0))).cell? ⟨d,j,none⟩=_
      rw [cA _ w.heap.size 6 d j _ (.inl (by omega))]
      by_cases p:j=2
      ·subst p
       rw [dO _ _ _ _ _ c2]
       simp [aN]
      rw [cA _ d 2 d j _ (.inr (by omega)),a.cell j hj]
      exact congrArg some (sM t _ _ hb s j p).symm
     intro j
     rw [World.frozen?_of_block (w:=((wc.setCell ⟨d,2,none⟩ (.int .i64 (t.s0+u.load))).setCell ⟨w.heap.size,6,none⟩ (.int .i64 0)).drew.drew) (setRow_other _ _ _ _ (by simp;omega))]
     show (((wc.setCell ⟨d,2,none⟩ (.int .i64 (t.s0+u.load))).setCell ⟨w.heap.size,6,none⟩ (.int .i64 0))).frozen? ⟨d,j,none⟩=false
     rw [World.frozen?_setCell,World.frozen?_setCell]
     exact a.fz j
    have k:eB t u=({ u with load:=0 },{ t with s0:=1000000000 }):=by
     unfold eB;rw [P.o];simp only;rw [L.o,V.o,X.o,if_pos rfl,Int.min_eq_right (by omega)]
    have D:=aA k
    have H:((wc.setCell ⟨d,2,none⟩ (.int .i64 1000000000)).setCell ⟨w.heap.size,6,none⟩ (.int .i64 0)).drew.drew.heap[w.heap.size]?=some (.cells (U.arr { u with load:=0 }) 85):=by
     have h1:(wc.setCell ⟨d,2,none⟩ (.int .i64 1000000000)).heap[w.heap.size]?=some (.cells u.arr 85):=by rw [Below.heap_setCell _ _ _ _ (by simp;omega)];exact r
     have Y:=bS h1 6 (.int .i64 0)
     exact Y.trans (by simp)
    have n:((wc.setCell ⟨d,2,none⟩ (.int .i64 1000000000)).setCell ⟨w.heap.size,6,none⟩ (.int .i64 0)).drew.drew.heap[w.heap.size+1]?=some (.cells zeroU.arr 85):=by
     show ((wc.setCell ⟨d,2,none⟩ (.int .i64 1000000000)).setCell ⟨w.heap.size,6,none⟩ (.int .i64 0)).heap[w.heap.size+1]?=_
     rw [Below.heap_setCell _ _ _ _ (by simp),Below.heap_setCell _ _ _ _ (by simp;omega)];exact Q.o
    clear k
    go_wp2_with fail
    go_region
    go_wp2_with fail
    go_region
    go_wp2_with (first|(refine wpList_load_row rfl 85 _ rfl w.heap.size rfl 85 (U.arr { u with load:=0 }) (0,0) _ H Tryz.underlying85 rfl aL ?_)|(refine wpList_store_row rfl 85 _ _ rfl (w.heap.size+1) (U.arr { u with load:=0 }) rfl rfl 85 _ n aL rfl (U.one _) ?_))
    have i:Fr [d,w.heap.size,w.heap.size+1] wc (((wc.setCell ⟨d,2,none⟩ (.int .i64 1000000000)).setCell ⟨w.heap.size,6,none⟩ (.int .i64 0)).drew.drew.setRow (w.heap.size+1) (U.arr { u with load:=0 })) :=
     ((((((r0 _ _).setCell _ _ (by simp)).setCell _ _ (by simp)).drew).drew).setRow _ _ (by simp))
    have m:=((ad.of0 (S:=[d,hb,s])).trans i (by simp))
    refine bodyPost_ret (v:=U.val { u with load:=0 }) (results_cell_row Tryz.results205 _ _ (w.heap.size+1) 85 (U.arr { u with load:=0 }) (0,0) _ rfl (setRow_heap _ _ _ _ _ _ n) Tryz.underlying85 rfl aL) rfl ⟨?_,m,?_⟩
    ·rw [D.o]
    rw [D.o]
    refine { a with cell:=?_,fz:=?_,row:=a.row.fr i (by simp;exact ⟨fun e=>a.n1 e.symm,by omega,by omega⟩),held:=a.held.fr i (by simp;exact ⟨fun e=>a.n2 e.symm,by omega,by omega⟩),ways:=a.ways.fr i (by simp;exact ⟨fun e=>a.n3 e.symm,by omega,by omega⟩) }
    ·intro j hj
     rw [cell_setRow_other _ _ _ _ (by simp;omega)]
     show (((wc.setCell ⟨d,2,none⟩ (.int .i64 1000000000)).setCell ⟨w.heap.size,6,none⟩ (.int .i64 0))).cell? ⟨d,j,none⟩=_
     rw [cA _ w.heap.size 6 d j _ (.inl (by omega))]
     by_cases p:j=2
     ·subst p
      rw [dO _ _ _ _ _ c2]
      simp [aN]
     rw [cA _ d 2 d j _ (.inr (by omega)),a.cell j hj]
     exact congrArg some (sM t _ _ hb s j p).symm
    intro j
    rw [World.frozen?_of_block (w:=((wc.setCell ⟨d,2,none⟩ (.int .i64 1000000000)).setCell ⟨w.heap.size,6,none⟩ (.int .i64 0)).drew.drew) (setRow_other _ _ _ _ (by simp;omega))]
    show (((wc.setCell ⟨d,2,none⟩ (.int .i64 1000000000)).setCell ⟨w.heap.size,6,none⟩ (.int .i64 0))).frozen? ⟨d,j,none⟩=false
    rw [World.frozen?_setCell,World.frozen?_setCell]
    exact a.fz j
   have c2:wc.cell? ⟨d,3,none⟩=some (ii t.s1):=by have:=a.cell 3 (by omega);simpa [aN] using this
   have z2:=a.fz 3
   have u1:ca wc w.heap.size 1 (ii u.owner):=aB r
   have u6:ca wc w.heap.size 6 (ii u.load):=aB r
   have br:wc.frozen? ⟨w.heap.size,6,none⟩=false:=bI r
   have dn:¬ (d=w.heap.size):=by omega
   have bg:¬ (w.heap.size=d):=by omega
   have J:t.stock u.owner=t.s1:=by unfold T.stock;rw [if_neg (by omega)]
   rw [J] at ag
   obtain ⟨be,bf⟩:=ag
   obtain ⟨ay,az⟩:=ax
   have X:=aA J
   have E:∀ v,t.setStock u.owner v={ t with s1:=v }:=fun v=>by unfold T.setStock;rw [if_neg (by omega)]
   have V:=aA E
   clear J E
   by_cases an:t.s1+u.load<=1000000000
   ·have k:eB t u=({ u with load:=0 },{ t with s1:=(t.s1+u.load) }):=by
     unfold eB;rw [P.o];simp only;rw [L.o,V.o,X.o,if_pos rfl,Int.min_eq_left an]
    have D:=aA k
    have H:((wc.setCell ⟨d,3,none⟩ (.int .i64 (t.s1+u.load))).setCell ⟨w.heap.size,6,none⟩ (.int .i64 0)).drew.drew.heap[w.heap.size]?=some (.cells (U.arr { u with load:=0 }) 85):=by
     have h1:(wc.setCell ⟨d,3,none⟩ (.int .i64 (t.s1+u.load))).heap[w.heap.size]?=some (.cells u.arr 85):=by rw [Below.heap_setCell _ _ _ _ (by simp;omega)];exact r
     have Y:=bS h1 6 (.int .i64 0)
     exact Y.trans (by simp)
    have n:((wc.setCell ⟨d,3,none⟩ (.int .i64 (t.s1+u.load))).setCell ⟨w.heap.size,6,none⟩ (.int .i64 0)).drew.drew.heap[w.heap.size+1]?=some (.cells zeroU.arr 85):=by
     show ((wc.setCell ⟨d,3,none⟩ (.int .i64 (t.s1+u.load))).setCell ⟨w.heap.size,6,none⟩ (.int .i64 0)).heap[w.heap.size+1]?=_
     rw [Below.heap_setCell _ _ _ _ (by simp),Below.heap_setCell _ _ _ _ (by simp;omega)];exact Q.o
    clear k
    go_wp2_with fail
    go_region
    go_wp2_with fail
    go_region
    go_wp2_with (first|(refine wpList_load_row rfl 85 _ rfl w.heap.size rfl 85 (U.arr { u with load:=0 }) (0,0) _ H Tryz.underlying85 rfl aL ?_)|(refine wpList_store_row rfl 85 _ _ rfl (w.heap.size+1) (U.arr { u with load:=0 }) rfl rfl 85 _ n aL rfl (U.one _) ?_))
    have i:Fr [d,w.heap.size,w.heap.size+1] wc (((wc.setCell ⟨d,3,none⟩ (.int .i64 (t.s1+u.load))).setCell ⟨w.heap.size,6,none⟩ (.int .i64 0)).drew.drew.setRow (w.heap.size+1) (U.arr { u with load:=0 })) :=
     ((((((r0 _ _).setCell _ _ (by simp)).setCell _ _ (by simp)).drew).drew).setRow _ _ (by simp))
    have m:=((ad.of0 (S:=[d,hb,s])).trans i (by simp))
    refine bodyPost_ret (v:=U.val { u with load:=0 }) (results_cell_row Tryz.results205 _ _ (w.heap.size+1) 85 (U.arr { u with load:=0 }) (0,0) _ rfl (setRow_heap _ _ _ _ _ _ n) Tryz.underlying85 rfl aL) rfl ⟨?_,m,?_⟩
    ·rw [D.o]
    rw [D.o]
    refine { a with cell:=?_,fz:=?_,row:=a.row.fr i (by simp;exact ⟨fun e=>a.n1 e.symm,by omega,by omega⟩),held:=a.held.fr i (by simp;exact ⟨fun e=>a.n2 e.symm,by omega,by omega⟩),ways:=a.ways.fr i (by simp;exact ⟨fun e=>a.n3 e.symm,by omega,by omega⟩) }
    ·intro j hj
     rw [cell_setRow_other _ _ _ _ (by simp;omega)]
     show (((wc.setCell ⟨d,3,none⟩ (.int .i64 (t.s1+u.load))).setCell ⟨w.heap.size,6,none⟩ (.int .i64 0))).cell? ⟨d,j,none⟩=_
     rw [cA _ w.heap.size 6 d j _ (.inl (by omega))]
     by_cases p:j=3
     ·subst p
      rw [dO _ _ _ _ _ c2]
      simp [aN]
     rw [cA _ d 3 d j _ (.inr (by omega)),a.cell j hj]
     exact congrArg some (sN t _ _ hb s j p).symm
    intro j
    rw [World.frozen?_of_block (w:=((wc.setCell ⟨d,3,none⟩ (.int .i64 (t.s1+u.load))).setCell ⟨w.heap.size,6,none⟩ (.int .i64 0)).drew.drew) (setRow_other _ _ _ _ (by simp;omega))]
    show (((wc.setCell ⟨d,3,none⟩ (.int .i64 (t.s1+u.load))).setCell ⟨w.heap.size,6,none⟩ (.int .i64 0))).frozen? ⟨d,j,none⟩=false
    rw [World.frozen?_setCell,World.frozen?_setCell]
    exact a.fz j
   have k:eB t u=({ u with load:=0 },{ t with s1:=1000000000 }):=by
    unfold eB;rw [P.o];simp only;rw [L.o,V.o,X.o,if_pos rfl,Int.min_eq_right (by omega)]
   have D:=aA k
   have H:((wc.setCell ⟨d,3,none⟩ (.int .i64 1000000000)).setCell ⟨w.heap.size,6,none⟩ (.int .i64 0)).drew.drew.heap[w.heap.size]?=some (.cells (U.arr { u with load:=0 }) 85):=by
    have h1:(wc.setCell ⟨d,3,none⟩ (.int .i64 1000000000)).heap[w.heap.size]?=some (.cells u.arr 85):=by rw [Below.heap_setCell _ _ _ _ (by simp;omega)];exact r
    have Y:=bS h1 6 (.int .i64 0)
    exact Y.trans (by simp)
   have n:((wc.setCell ⟨d,3,none⟩ (.int .i64 1000000000)).setCell ⟨w.heap.size,6,none⟩ (.int .i64 0)).drew.drew.heap[w.heap.size+1]?=some (.cells zeroU.arr 85):=by
    show ((wc.setCell ⟨d,3,none⟩ (.int .i64 1000000000)).setCell ⟨w.heap.size,6,none⟩ (.int .i64 0)).heap[w.heap.size+1]?=_
    rw [Below.heap_setCell _ _ _ _ (by simp),Below.heap_setCell _ _ _ _ (by simp;omega)];exact Q.o
   clear k
   go_wp2_with fail
   go_region
   go_wp2_with fail
   go_region
   go_wp2_with (first|(refine wpList_load_row rfl 85 _ rfl w.heap.size rfl 85 (U.arr { u with load:=0 }) (0,0) _ H Tryz.underlying85 rfl aL ?_)|(refine wpList_store_row rfl 85 _ _ rfl (w.heap.size+1) (U.arr { u with load:=0 }) rfl rfl 85 _ n aL rfl (U.one _) ?_))
   have i:Fr [d,w.heap.size,w.heap.size+1] wc (((wc.setCell ⟨d,3,none⟩ (.int .i64 1000000000)).setCell ⟨w.heap.size,6,none⟩ (.int .i64 0)).drew.drew.setRow (w.heap.size+1) (U.arr { u with load:=0 })) :=
    ((((((r0 _ _).setCell _ _ (by simp)).setCell _ _ (by simp)).drew).drew).setRow _ _ (by simp))
   have m:=((ad.of0 (S:=[d,hb,s])).trans i (by simp))
   refine bodyPost_ret (v:=U.val { u with load:=0 }) (results_cell_row Tryz.results205 _ _ (w.heap.size+1) 85 (U.arr { u with load:=0 }) (0,0) _ rfl (setRow_heap _ _ _ _ _ _ n) Tryz.underlying85 rfl aL) rfl ⟨?_,m,?_⟩
   ·rw [D.o]
   rw [D.o]
   refine { a with cell:=?_,fz:=?_,row:=a.row.fr i (by simp;exact ⟨fun e=>a.n1 e.symm,by omega,by omega⟩),held:=a.held.fr i (by simp;exact ⟨fun e=>a.n2 e.symm,by omega,by omega⟩),ways:=a.ways.fr i (by simp;exact ⟨fun e=>a.n3 e.symm,by omega,by omega⟩) }
   ·intro j hj
    rw [cell_setRow_other _ _ _ _ (by simp;omega)]
    show (((wc.setCell ⟨d,3,none⟩ (.int .i64 1000000000)).setCell ⟨w.heap.size,6,none⟩ (.int .i64 0))).cell? ⟨d,j,none⟩=_
    rw [cA _ w.heap.size 6 d j _ (.inl (by omega))]
    by_cases p:j=3
    ·subst p
     rw [dO _ _ _ _ _ c2]
     simp [aN]
    rw [cA _ d 3 d j _ (.inr (by omega)),a.cell j hj]
    exact congrArg some (sN t _ _ hb s j p).symm
   intro j
   rw [World.frozen?_of_block (w:=((wc.setCell ⟨d,3,none⟩ (.int .i64 1000000000)).setCell ⟨w.heap.size,6,none⟩ (.int .i64 0)).drew.drew) (setRow_other _ _ _ _ (by simp;omega))]
   show (((wc.setCell ⟨d,3,none⟩ (.int .i64 1000000000)).setCell ⟨w.heap.size,6,none⟩ (.int .i64 0))).frozen? ⟨d,j,none⟩=false
   rw [World.frozen?_setCell,World.frozen?_setCell]
   exact a.fz j
