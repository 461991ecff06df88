import Derived.Test.YtapabahhfanmmaaGreatDoorCInv3
namespace Go.Proofs.YtapabahhfanmmaaGreatDoor
open Go.RowKit List
set_option maxRecDepth 100000
set_option maxHeartbeats 2000000
theorem pC {w:World}{b:Nat}{x y z f:Value}{t:TypeId}(h:w.heap[b]?=some (.cells #[x,y,z,f] t))(p q r a:Value):((((w.setCell ⟨b,0,none⟩ p).setCell ⟨b,1,none⟩ q).setCell ⟨b,2,none⟩ r).setCell ⟨b,3,none⟩ a).heap[b]?=some (.cells #[p,q,r,a] t):=by
 have c:=bS h 0 p
 have h1:=bS c 1 q
 have d:=bS h1 2 r
 have e:=bS d 3 a
 simpa using e
theorem TS.putU {w:World}{f a b hb c:Nat}{t:T}(h:TS w f a b hb c t){i:Nat}(hi:i < t.us.length)(u':U):TS (w.setCells a (i*11) u'.cells) f a b hb c { t with us:=t.us.set i u' }:=by
 have d:Fr [a] w (w.setCells a (i*11) u'.cells):=Fr.setCells a _ _ _ (r0 _ _) (.inl (by simp))
 have hl:(t.us.set i u').length=t.us.length:=length_set
 refine { h with cell:=fun k g=>?_,fz:=fun k=>?_,row:=h.row.put hi u',len:=?_,held:=?_,ways:=?_ }
 ·rw [d.cell f k h.lt (by simp;exact h.n1),h.cell k g]
  show some (aN t _ hb c k)=some (aN { t with us:=t.us.set i u' } _ hb c k)
  simp only [hl]
  rfl
 ·rw [d.frozen f k h.lt (by simp;exact h.n1)];exact h.fz k
 ·show (t.us.set i u').length<=1000
  rw [hl];exact h.len
 ·exact h.held.fr d (by simp;exact fun e=>h.n4 e.symm)
 exact h.ways.fr d (by simp;exact fun e=>h.n5 e.symm)
theorem UO {w:World}{b:Nat}{u:U}{t:TypeId}(h:w.heap[b]?=some (.cells u.arr t)):w.cell? ⟨b,0,none⟩=some (ii u.id)/\w.cell? ⟨b,1,none⟩=some (ii u.owner)/\w.cell? ⟨b,2,none⟩=some (ii u.kind)/\w.cell? ⟨b,3,none⟩=some (ii u.x)/\w.cell? ⟨b,4,none⟩=some (ii u.y)/\w.cell? ⟨b,5,none⟩=some (ii u.life)/\w.cell? ⟨b,6,none⟩=some (ii u.load)/\w.cell? ⟨b,7,none⟩=some (ii u.what)/\w.cell? ⟨b,8,none⟩=some (ii u.tox)/\w.cell? ⟨b,9,none⟩=some (ii u.toy)/\w.cell? ⟨b,10,none⟩=some (ii u.target) :=
  ⟨aB h,aB h,aB h,aB h,aB h,aB h,aB h,aB h,aB h,aB h,aB h⟩
theorem jM (q E ag hb C:Nat) (t:T) (u:U) (K:Value) (n1 n0 n2 n:Nat) (r:U×T) (w:World) (h:TS w q E ag hb C t)
  (hk:∀ w,Cs 121 #[.int .i64 u.kind] w fun e d=>e=.returned K/\Fr [] w d)
  (hs:∀ w,Cs 193 #[K,.int .i64 u.what] w fun e d=>e=.returned (.tuple #[.agg #[fv n1,fv n0,fv n2,fv n],.bool true])/\Fr [] w d)
  (ha:∀ d,Fr [] w d->Cs n #[.pointer (so q),u.val] d fun e af=>e=.returned r.1.val/\∃ b j,Fr [q,E,hb,C] d af/\TS af q b j hb C r.2/\(b=E\/d.heap.size<=b))
  (Y:Rise r.2.us) (aj:∀ (args:Array Value) (w:World),(callFunc n args).run Tryz.prog w=.ok (.enter n args) w) :
  Cs 153 #[.pointer (so q),u.val] w fun e d =>
   e=.returned (.tuple #[])/\∃ b j,Fr [q,E,hb,C] w d/\TS d q b j hb C (cD r.2 r.1)/\(b=E\/w.heap.size<=b):=by
 have hz:=h.z
 have aq:=h.ways.lt
 have av:=h.held.lt
 have ba:=h.lt
 have ay:=h.row.lt
 obtain ⟨A,s⟩:∃ W,W=w.alloc (.cells u.arr 85):=⟨_,rfl⟩
 have az:A.heap.size=w.heap.size+1:=by rw [s];simp
 have ah:Fr [] w A:=by rw [s];exact (r0 _ _).alloc _
 have hU:A.heap[w.heap.size]?=some (.cells u.arr 85):=by rw [s,aC]
 have F:∀ d,Fr [] A d->(fun d:World=>cl d w.heap.size 2 u.kind/\cl d w.heap.size 7 u.what/\Fr [] A d) d:=fun d O=>⟨aB (O.heap0 hU),aB (O.heap0 hU),O⟩
 have KF:Fr [] A (w.alloc (.cells u.arr 85)).drew:=by rw [s];exact (r0 _ _).drew
 have K0:=F _ KF
 clear s
 go_enter Tryz.func153,Tryz.ntmps153
 go_wp2_with fail
 go_cut [4,5] (fun s4 s5 wx=>∃ g:Nat,s4=.pointer (so g)/\s5=.bool true/\wx.heap[g]?=some (.cells #[fv n1,fv n0,fv n2,fv n] 217)/\w.heap.size < g/\Fr [] A wx)
 case first =>
  go_region_held (fun d:World=>ca d w.heap.size 2 (ii u.kind)/\ca d w.heap.size 7 (ii u.what)/\Fr [] A d)
   (first|exact K0|exact F _ k|exact F _ (k.alloc _)|exact F _ m|exact F _ (m.alloc _)|exact F _ (KF.alloc _)|exact F _ ((((k.setCell _ _ (.inr (by simp;omega))).setCell _ _ (.inr (by simp;omega))).setCell _ _ (.inr (by simp;omega))).setCell _ _ (.inr (by simp;omega))))
   (first|(go_at_call 121;refine (hk _).mono ?_;rintro e P ⟨rfl,o⟩;obtain ⟨ar,be⟩:=o.cells0;have q1:w.heap.size < P.heap.size:=(by have:=o.size;simp at this;omega);(first|(have q2:w.heap.size+1 < P.heap.size:=(by have:=o.size;simp at this;omega))|skip);have m:Fr [] A P:=Fr.then0 (And.right (And.right (by assumption))) o)|(go_at_call 193;refine (hs _).mono ?_;rintro e w2 ⟨rfl,y⟩;obtain ⟨Zq,bf⟩:=y.cells0;have q3:=y.size;have k:Fr [] A w2:=Fr.then0 (And.right (And.right (by assumption))) y))
  all_goals
   go_wp2_with fail
   go_meet
   refine ⟨_,rfl,rfl,?_,?_,?_⟩
   ·first
    | with_reducible exact aC _ _
    | exact pC (y.heap0 (aC P _)) _ _ _ _
    | exact pC (y.heap0 (o.heap0 (cR w _ _))) _ _ _ _
   ·have:=k.size
    omega
   first
   | with_reducible exact k.alloc _
   | exact (((k.setCell _ _ (.inr (by simp;omega))).setCell _ _ (.inr (by simp;omega))).setCell _ _ (.inr (by simp;omega))).setCell _ _ (.inr (by simp;omega))
 case rest =>
  obtain ⟨g,rfl,rfl,hg,aw,S⟩:=hcut
  have D:=S.heap0 hU
  have N:=ah.then0 S
  have ak:ca wc g 3 (fv n):=aB hg
  have bc:=aH D
  clear K0 F KF hk hs
  go_wp2_with (refine wpList_load_row rfl 85 _ rfl w.heap.size rfl 85 u.arr (0,0) _ D Tryz.underlying85 rfl aL ?_)
  refine (ha _ N).mono ?_
  rintro e w5 ⟨rfl,b,j,I,aa,X⟩
  have M:=I.heap D (by simp;omega)
  dsimp only
  clear D ak hg ha aj
  go_wp2_with (refine wpList_store_row rfl 85 _ _ rfl w.heap.size r.1.arr rfl rfl 85 _ M aL rfl (U.one _) ?_)
  rw [show ∀ a:Act,a.put none undef=a from fun _=>rfl]
  obtain ⟨B,x⟩:∃ W,W=w5.setRow w.heap.size r.1.arr:=⟨_,rfl⟩
  have R:Fr [w.heap.size] w5 B:=by rw [x];exact (r0 _ _).setRow _ _ (by simp)
  have Q:B.heap[w.heap.size]?=some (.cells r.1.arr 85):=by rw [x];exact setRow_heap _ _ _ _ _ _ M
  have ad:Fr [q,E,hb,C] w w5:=(N.mono (by simp)).trans I (by simp)
  have am:Fr [q,E,hb,C] w B:=by rw [x];exact ad.setRow _ _ (.inr (Nat.le_refl _))
  have bd:=N.size
  have ax:b≠w.heap.size:=by rcases X with e|e <;> omega
  have L:b=E\/w.heap.size<=b:=by rcases X with e|e;exact .inl e;exact .inr (by omega)
  have ab:TS B q b j hb C r.2:=aa.fr R (by simp;omega) (by simp;omega) (by simp;omega) (by simp;omega)
  rw [<- x]
  have H:∀ d,Fr [] B d->(fun d:World=>ca d w.heap.size 0 (ii r.1.id)/\Fr [] B d) d:=fun d O=>⟨aB (O.heap0 Q),O⟩
  have K6:=H B.drew ((r0 _ _).drew)
  clear x M aa I ad R
  go_cut [6,7] (fun s6 s7 wx=>∃ (i:Nat) (f:Bool),s6=.int .i64 i/\s7=.bool f/\bQ r.2.us r.1.id=(if f=true then some i else none)/\Fr [] B wx)
  case first =>
   go_region_held (fun d:World=>ca d w.heap.size 0 (ii r.1.id)/\Fr [] B d)
    (first|with_reducible exact K6|with_reducible exact H _ m)
    (first|(go_at_call 152;refine (nY q b j r.2.us r.1.id _ (ab.gv.fr0 (And.right (by assumption))) Y).mono ?_;rintro e P ⟨i,f,rfl,o,V⟩;have m:Fr [] B P:=Fr.then0 (And.right (by assumption)) o))
   all_goals
    go_wp2_with fail
    go_meet
    exact ⟨i,f,rfl,rfl,V,m⟩
  case rest =>
   obtain ⟨i,f,rfl,rfl,l,J⟩:=hcut
   have ai:=J.heap0 Q
   have p:=ab.fr0 J
   have ae:Fr [q,E,hb,C] w wc:=am.then0 J
   clear K6 H
   cases f
   ·go_wp2_with fail
    refine bodyPost_end (v:=.tuple #[]) (results_none rfl _ _ _) rfl ⟨rfl,b,j,ae,?_,L⟩
    have:cD r.2 r.1=r.2:=by unfold cD;rw [l];rfl
    rw [this]
    exact p
   rw [if_pos rfl] at l
   obtain ⟨v,hv,ac⟩:=iV l
   have al:i < r.2.us.length:=(gs.1 hv).1
   have an:=p.len
   have Zr:=p.gv.c
   obtain ⟨c0,c1,c2,c3,c4,c5,c6,c7,c8,c9,ao⟩:=p.row.ppl.at hv
   obtain ⟨d0,d1,d2,d3,d4,d5,d6,d7,d8,d9,ap⟩:=UO ai
   have au:=p.row.fz
   go_wp2_with fail
   go_region
   all_goals
    refine bodyPost_end (v:=.tuple #[]) (results_none rfl _ _ _) rfl ⟨rfl,b,j,?_,?_,L⟩
    ·show Fr _ _ (wc.setCells b (i*11) r.1.cells).drew
     exact (Fr.setCells b _ _ _ ae (by rcases L with e|e;exact .inl (by simp [e]);exact .inr e)).drew
    show TS (wc.setCells b (i*11) r.1.cells).drew _ _ _ _ _ _
    rw [iM Y hv ac.symm]
    exact (p.putU al r.1).fr0 ((r0 _ _).drew)
theorem OT (t:T)(u:U):(cD t u).us.map U.id=t.us.map U.id:=by
 unfold cD
 cases b:bQ t.us u.id with
 | none=>rfl
 | some i =>
  obtain ⟨v,c,a⟩:=iV b
  exact mM U.id _ i v u c a.symm
theorem CX {t:T}(h:TOk t){i:Nat}{u:U}(hi:t.us[i]?=some u)(a:bD t.us=false):Rise (cK t u).2.us:=by
 have h1:=(pT h hi a).ok.rise
 rw [oZ] at h1 |-
 unfold dN at h1
 rwa [OT] at h1
theorem pF {t:T}(h:TOk t)(o:Int):0<=t.stock o/\t.stock o<=1000000000:=by
 unfold T.stock
 split
 ·exact h.st.1
 exact h.st.2
theorem IB:nE 8 (ii 5) (ii 5) (.bool true) (fv 167) (fv 167) (fv 168) (fv 169) (fv 157) (fv 157) (fv 158) (fv 159) (fv 160) (fv 161) (fv 158) (fv 162) .nilFunc .nilFunc .nilFunc .nilFunc .nilFunc .nilFunc .nilFunc .nilFunc:=fun w=>by kernel_rfl
theorem IC:nE 12 (ii 8) (ii 0) (.bool true) (fv 167) (fv 167) (fv 168) (fv 169) (fv 157) (fv 157) (fv 158) (fv 159) .nilFunc .nilFunc .nilFunc .nilFunc (fv 163) (fv 164) (fv 165) (fv 166) .nilFunc .nilFunc .nilFunc .nilFunc:=fun w=>by kernel_rfl
theorem CY (f c a hb j:Nat)(t:T)(i:Nat)(u:U)(w:World)(h:TS w f c a hb j t)(s:Sd w)(k:TOk t)(hi:t.us[i]?=some u)(F:bD t.us=false) :
  Cs 153 #[.pointer (so f),u.val] w fun e g =>
   e=.returned (.tuple #[])/\∃ d n,Fr [f,c,hb,j] w g/\TS g f d n hb j (dN t u)/\(d=c\/w.heap.size<=d):=by
 have r:=k.all u (mem_of_getElem? hi)
 have o:=CX k hi F
 have D:∀ b,bT t.us u.owner=some b->aD b.x b.y=true:=fun b hb=>(k.all b (mem_of_find?_eq_some hb)).on
 have B:=pF k u.owner
 unfold dN
 have rest:u.what=0->∀ g,Fr [] w g->Cs 169 #[.pointer (so f),u.val] g fun e l=>e=.returned (cK t u).1.val/\∃ d n,Fr [f,c,hb,j] g l/\TS l f d n hb j (cK t u).2/\(d=c\/g.heap.size<=d):=by
  intro e g p
  have:cK t u=(u,t):=by unfold cK;simp [e]
  rw [this]
  exact (QV _ u g).mono fun e l ⟨h1,A⟩=>⟨h1,c,a,A.of0,(h.fr0 p).fr0 A,.inl rfl⟩
 have q:u.what=1->∀ g,Fr [] w g->Cs 159 #[.pointer (so f),u.val] g fun e l=>e=.returned (cK t u).1.val/\∃ d n,Fr [f,c,hb,j] g l/\TS l f d n hb j (cK t u).2/\(d=c\/g.heap.size<=d):=by
  intro e g p
  have:cK t u=eZ t u:=by unfold cK;simp [e]
  rw [this]
  exact (LL f c a hb j t u g (h.fr0 p) (s.fr0 p) r.on).mono fun e l ⟨h1,A,C⟩=>⟨h1,c,a,A.mono (by simp),C,.inl rfl⟩
 rcases r.od with e|⟨e,m⟩|⟨e,m,I⟩|⟨e,m⟩|⟨e,m,z⟩
 ·have rest:=rest e
  rcases r.kd with m|m|m
  ·exact jM f c a hb j t u gZ 167 167 168 169 (cK t u) w h (fun w=>by rw [m];exact mJ w) (fun w=>by rw [e];exact AK w) rest o (fun _ _=>by kernel_rfl)
  ·exact jM f c a hb j t u gR 167 167 168 169 (cK t u) w h (fun w=>by rw [m];exact jT w) (fun w=>by rw [e];exact AM w) rest o (fun _ _=>by kernel_rfl)
  exact jM f c a hb j t u iA 167 167 168 169 (cK t u) w h (fun w=>by rw [m];exact lB w) (fun w=>by rw [e];exact AP w) rest o (fun _ _=>by kernel_rfl)
 ·have q:=q e
  rcases m with m|m
  ·exact jM f c a hb j t u gR 157 157 158 159 (cK t u) w h (fun w=>by rw [m];exact jT w) (fun w=>by rw [e];exact AN w) q o (fun _ _=>by kernel_rfl)
  exact jM f c a hb j t u iA 157 157 158 159 (cK t u) w h (fun w=>by rw [m];exact lB w) (fun w=>by rw [e];exact AQ w) q o (fun _ _=>by kernel_rfl)
 ·refine jM f c a hb j t u gR 160 161 158 162 (cK t u) w h (fun w=>by rw [m];exact jT w) (fun w=>by rw [e];exact AO w) ?_ o (fun _ _=>by kernel_rfl)
  intro g p
  have:cK t u=dM t u:=by unfold cK;simp [e]
  rw [this]
  exact (LK f c a hb j t u g (h.fr0 p) (s.fr0 p) r.on I r.ow D B ⟨r.ld.1,r.ld.2.1⟩ m).mono fun e l ⟨h1,A,C⟩=>⟨h1,c,a,A.mono (by simp),C,.inl rfl⟩
 ·refine jM f c a hb j t u iA 163 164 165 166 (cK t u) w h (fun w=>by rw [m];exact lB w) (fun w=>by rw [e];exact AR w) ?_ o (fun _ _=>by kernel_rfl)
  intro g p
  have:cK t u=eC t u:=by unfold cK;simp [e]
  rw [this]
  exact (JC f c a hb j t u g (h.fr0 p) (s.fr0 p) k.rise r.on (fun v H=>⟨(k.all v H).on,by have:=(k.all v H).lf;omega,by have h1:=(k.all v H).lf;have A:=wR v.kind;omega⟩)).mono fun e l ⟨h1,A,C⟩=>⟨h1,c,a,A,C,.inl rfl⟩
 refine jM f c a hb j t u gZ 154 154 155 156 (cK t u) w h (fun w=>by rw [m];exact mJ w) (fun w=>by rw [e];exact AL w) ?_ o (fun _ _=>by kernel_rfl)
 intro g p
 have:cK t u=cX t u:=by unfold cK;simp [e]
 rw [this]
 have E:0<=t.next:=by have:=k.nx.1;omega
 rcases z with z|z
 ·exact tZ f c a hb j t u 8 5 _ _ _ _ _ _ _ _ _ _ _ _ _ _ _ _ _ _ _ _ _ _ g (fun w=>by rw [z];exact jT w) IB (by rw [z];rfl) (by rw [z];rfl) (h.fr0 p) (s.fr0 p) r.on r.ow E B (by omega) xQ
 exact tZ f c a hb j t u 12 8 _ _ _ _ _ _ _ _ _ _ _ _ _ _ _ _ _ _ _ _ _ _ g (fun w=>by rw [z];exact lB w) IC (by rw [z];rfl) (by rw [z];rfl) (h.fr0 p) (s.fr0 p) r.on r.ow E B (by omega) xR
structure ActI (w:World) (tb pb hb bb:Nat) (t:T) (cl ccap k:Nat) (wr:World):Prop where
 ex:∃ pb' cap' t',TS wr tb pb' cap' hb bb t'/\TOk t'/\bD t'.us=false/\eQ (t.us.drop k) t'=eQ t.us t/\(pb'=pb\/w.heap.size<=pb')/\pb'≠cl
 fr:Fr [tb,pb,hb,bb] w wr
 row:PRow wr cl ccap t.us
theorem nH (v:U)(l:List U)(t:T):eQ (v :: l) t=if bD (fX t v).us=true then fX t v else eQ l (fX t v):=rfl
theorem tA {t:T}{v:U}(h:bQ t.us v.id=none):fX t v=t:=by unfold fX;rw [h]
theorem CL {t:T}{v u:U}{i:Nat}(h:bQ t.us v.id=some i)(hi:t.us[i]?=some u):fX t v=dN t u:=by unfold fX;rw [h];dsimp only;rw [hi]
theorem DB (I V X hb bb:Nat)(t:T)(w:World)(h:TS w I V X hb bb t)(Zq:Sd w)(ar:TOk t)(aq:bD t.us=false)(ap:0 < t.us.length) :
  Cs 119 #[.pointer (so I)] w fun e C =>
   e=.returned (.tuple #[])/\∃ j d,Fr [I,V,hb,bb] w C/\TS C I j d hb bb (eQ t.us t)/\(j=V\/w.heap.size<=j):=by
 have hz:=h.z
 have bc:=h.ways.lt
 have bf:=h.held.lt
 have bi:=h.lt
 have bh:=h.row.lt
 have hc:=h.gv.c
 have ax:=h.len
 go_enter Tryz.func119,Tryz.ntmps119
 go_wp2_with (first|(go_at_call 75;refine (qC V X t.us _ h.row h.len ap).mono ?_;rintro e w1 ⟨cl,Q,rfl,bd,aj,M⟩))
 clear hc
 go_loopw [13] (fun i wr=>∃ k:Nat,k<=t.us.length/\i=.int .i64 k/\ActI w I V hb bb t cl Q k wr) (fun i _=>t.us.length - (intOf i).toNat)
 case atStart=>exact ⟨0,Nat.zero_le _,rfl,⟨V,X,t,h.fr0 M,ar,aq,rfl,.inl rfl,by omega⟩,M.of0,aj⟩
 obtain ⟨k,hk,rfl,hI⟩:=hrel
 obtain ⟨⟨j,d,O,ht,A,l,a,N,ag⟩,Y,L⟩:=hI
 by_cases H:k < t.us.length
 ·obtain ⟨v,hv⟩:∃ u,t.us[k]?=some u:=⟨t.us[k],getElem?_eq_getElem H⟩
  have F:t.us.drop k=v :: t.us.drop (k+1):=by
   rw [drop_eq_getElem_cons H]
   congr 1
   rw [getElem?_eq_getElem H] at hv
   exact Option.some.inj hv
  rw [F] at a
  rw [nH] at a
  obtain ⟨c0,c1,c2,c3,c4,c5,c6,c7,c8,c9,ab⟩:=L.ppl.at hv
  have az:=ht.lt
  have ay:=ht.row.lt
  have aw:=ht.held.lt
  have au:=ht.ways.lt
  have av:=L.lt
  have HT:=aA ht
  have D:=aA a
  have aa:=aA L
  have HF:=aA Y
  clear ht a F hv L Y
  go_wp2_with fail
  obtain ⟨P,J⟩:∃ W,W=wr.alloc (.cells v.arr 85):=⟨_,rfl⟩
  rw [<- J]
  have ae:Fr [] wr P:=by rw [J];exact (r0 _ _).alloc _
  have al:P.heap[wr.heap.size]?=some (.cells v.arr 85):=by rw [J];exact aC _ _
  clear J c0 c1 c2 c3 c4 c5 c6 c7 c8 c9 ab
  have HS:∀ C,Fr [] P C->(fun C:World=>ca C wr.heap.size 0 (ii v.id)/\Fr [] P C) C:=fun C hf=>⟨aB (hf.heap0 al),hf⟩
  have K0:=HS P.drew ((r0 _ _).drew)
  go_cut [4,5] (fun s4 s5 wx=>∃ (i:Nat) (f:Bool),s4=.int .i64 i/\s5=.bool f/\bQ O.us v.id=(if f=true then some i else none)/\Fr [] P wx)
  case first =>
   go_region_held (fun C:World=>ca C wr.heap.size 0 (ii v.id)/\Fr [] P C)
    (first|with_reducible exact K0|with_reducible exact HS _ R)
    (first|(go_at_call 152;refine (nY I j d O.us v.id _ (HT.o.gv.fr0 (ae.then0 (And.right (by assumption)))) A.rise).mono ?_;rintro e w1 ⟨i,f,rfl,M,ai⟩;have R:Fr [] P w1:=Fr.then0 (And.right (by assumption)) M))
   all_goals
    go_wp2_with fail
    go_meet
    exact ⟨i,f,rfl,rfl,ai,R⟩
  case rest =>
   obtain ⟨i,f,rfl,rfl,b,an⟩:=hcut
   have r:Fr [] wr wc:=ae.then0 an
   have q:=HT.o.fr0 r
   clear HS K0 al
   cases f
   ·have K:fX O v=O:=tA (by simpa using b)
    have a:=D.o
    rw [K,l,if_neg (by simp)] at a
    go_wp2_with (first|(go_at_call 116;refine (mQ I j d O.us _ q.gv).mono ?_;rintro e w3 ⟨rfl,g⟩;rw [l]))
    go_roundw
    case rel=>exact ⟨k+1,H,by go_num,⟨j,d,O,q.fr0 g,A,l,a,N,ag⟩,(HF.o.then0 r).then0 g,(aa.o.fr r (by simp)).fr g (by simp)⟩
    case measure=>simp [intOf];omega
   rw [if_pos rfl] at b
   obtain ⟨u,hu,ak⟩:=iV b
   have K:=CL b hu
   have a:=D.o
   rw [K] at a
   have n:=pT A hu l
   have be:=q.gv.c
   have bg:i < O.us.length:=(gs.1 hu).1
   have ao:=q.len
   obtain ⟨c0,c1,c2,c3,c4,c5,c6,c7,c8,c9,ab⟩:=q.row.ppl.at hu
   have Zr:Sd wc:=(Zq.fr HF.o (by simp;omega)).fr0 r
   have m:=CY I j d hb bb O i u wc q Zr A hu l
   obtain ⟨t2,p⟩:∃ x,dN O u=x:=⟨_,rfl⟩
   rw [p] at n a m
   have HC:=aA m
   have HL:=aA a
   have HG:=aA n
   obtain ⟨B,hB⟩:∃ B,bD t2.us=B:=⟨_,rfl⟩
   have HB:=aA hB
   have bj:=r.size
   clear hu a D b K hB m n p ak q
   go_wp2_with fail
   refine Calls.mono HC.o ?_
   rintro e w2 ⟨rfl,s,y,ad,p,af⟩
   have am:Fr [I,V,hb,bb] w w2:=(HF.o.then0 r).trans ad (by
    intro x hx
    simp at hx
    rcases hx with rfl|rfl|rfl|rfl
    ·simp
    ·rcases N with e|e
     ·simp [e]
     exact .inr e
    ·simp
    simp)
   have ba:=HF.o.size
   have S:s=V\/w.heap.size<=s:=by
    rcases af with e|e
    ·rw [e];exact N
    exact .inr (by omega)
   have ah:s≠cl:=by
    rcases af with e|e
    ·rw [e];exact ag
    omega
   have ac:PRow w2 cl Q t.us:=(aa.o.fr r (by simp)).fr ad (by simp;omega)
   have hl:=HL.o
   cases B
   ·rw [HB.o,if_neg (by simp)] at hl
    go_wp2_with (first|(go_at_call 116;refine (mQ I s y t2.us _ p.gv).mono ?_;rintro e w3 ⟨rfl,g⟩;rw [HB.o]))
    go_roundw
    case rel=>exact ⟨k+1,H,by go_num,⟨s,y,t2,p.fr0 g,HG.o.ok,HB.o,hl,S,ah⟩,am.then0 g,ac.fr g (by simp)⟩
    case measure=>simp [intOf];omega
   rw [HB.o,if_pos rfl] at hl
   go_wp2_with (first|(go_at_call 116;refine (mQ I s y t2.us _ p.gv).mono ?_;rintro e w3 ⟨rfl,g⟩;rw [HB.o]))
   refine bodyPost_ret (v:=.tuple #[]) (results_none rfl _ _ _) rfl ⟨rfl,s,y,am.then0 g,?_,S⟩
   rw [<- hl]
   exact p.fr0 g
 have E:=a
 rw [drop_of_length_le (by omega)] at E
 go_wp2_with fail
 refine bodyPost_end (v:=.tuple #[]) (results_none rfl _ _ _) rfl ⟨rfl,j,d,Y,?_,N⟩
 rw [<- E]
 exact ht
