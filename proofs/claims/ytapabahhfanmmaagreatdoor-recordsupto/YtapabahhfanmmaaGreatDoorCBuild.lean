import Derived.Test.YtapabahhfanmmaaGreatDoorCHit
namespace Go.Proofs.YtapabahhfanmmaaGreatDoor
open Go.RowKit List
set_option maxRecDepth 100000
set_option maxHeartbeats 4000000
theorem sF {P:Program} {g:Array Oper} {d:Oper} {a:Act} {w:World} {K:Act->World->Prop} {Q:Exit->Act->World->Prop} {E:Prop}
  (r:d.guard=none) (s x:Operand) (t:TypeId) (k:d.op=Op.call { callee:=Callee.builtin Builtin.append,args:=#[s,x],argTypes:=#[t,t] })
  (base:Nat) (e:TypeId) (i:TypeInfo) (z:Value) (size bytes:Nat) (ht:P.underlying t=some (.slice e)) (hi:P.info? e=some i) (hz:i.zero=some z)
  (hsize:i.size=size) (hby:i.bytes=bytes) (hzs:z.cells.size=size) (l:0 < size)
  (v:Value) (n:Nat) (xs:List Value) (hs:a.eval s=v) (hown:w.ownsRow base e size v n xs)
  (ad:Addr) (m c:Nat) (b:List Value) (hx:a.eval x=.slice (some ad) m c) (hl:b.length=m*size) (hnews:∀ j u,b[j]?=some u->w.cell? (ad.add j)=some u) (h1:∀ u∈b,u.oneCell'=true)
  (h63:n+m<=maxLen) (hbytes:(n+m)*bytes<=140737488355328) (hbase:base<=w.heap.size)
  (hK:∀ f h,h.ownsRow base e size f (n+m) (xs ++ b)->w.grownBy h v.ownBlock->(f.ownBlock=v.ownBlock\/f.ownBlock=some w.heap.size)->K (a.put d.dst f) h) :
  if Region.wanted d (yielded g a.tmps)=true then Oper.wp P d a w K Q else E:=by
 have hw:Region.wanted d (yielded g a.tmps)=true:=by simp [Region.wanted,r]
 rw [if_pos hw]
 obtain ⟨f,h,y,o,p,_,q⟩:=run_append_own_at (P:=P) w base t d.type e i z size bytes ht hi hz hsize hby hzs l v n xs hown ad m c b hl hnews h1 h63 hbytes hbase
 unfold Oper.wp
 simp only [execOp,k,resolve,invoke,builtin,Sem.run_bind,Sem.run_pure,Result.andThen_ok,map_toArray,map_cons,map_nil,hs,hx,y]
 exact hK f h o p q
theorem aF {S:List Nat}{w c:World}{base n:Nat}{e:TypeId}{size:Nat}{v:Value}{xs:List Value}(h:w.ownsRow base e size v n xs)(f:Fr S w c)(hn:∀ b,v.ownBlock=some b->b∉S):c.ownsRow base e size v n xs:=by
 refine ⟨h.1,?_⟩
 rcases h.2 with d|⟨g,a,cur,rfl,hb,i,r⟩
 ·exact .inl d
 exact .inr ⟨g,a,cur,rfl,hb,f.heap i (hn g rfl),r⟩
theorem bK {w:World}{base n:Nat}{e:TypeId}{size:Nat}{v:Value}{xs:List Value}(h:w.ownsRow base e size v n xs)(hn:0 < n):∃ g a,v=.slice (so g) n a:=by
 rcases h.2 with ⟨_,b⟩|⟨g,a,cur,rfl,_⟩
 ·omega
 exact ⟨g,a,rfl⟩
theorem Fr.grow {S:List Nat}{a b c:World}{row:Option Nat}(h:Fr S a b)(k:b.grownBy c row)(hs:∀ g,row=some g->g∈S\/a.heap.size<=g):Fr S a c:=h.grown k hs
abbrev pP (k L:Int)(q r s t u v x y z a b c d f g h i j l m n o p:Value):Prop:=∀ w,Cs 121 #[.int .i64 k] w fun e A=>e=.returned (.agg #[ii L,q,r,s,t,u,v,x,y,z,a,b,c,d,f,g,h,i,j,l,m,n,o,p])/\Fr [] w A
abbrev aS (id o k x y L:Int):U:=⟨id,o,k,x,y,L,0,0,0,0,0⟩
theorem tE (c base:Nat) (a o k x y L:Int) (a1 a2 a3 a4 a5 a6 a7 a8 a9 P Q R V X Y aa ab ac ad ae af ag ah v:Value) (us:List U) (w:World) (hk:pP k L a1 a2 a3 a4 a5 a6 a7 a8 a9 P Q R V X Y aa ab ac ad ae af ag ah) (bf:∀ w,(Instr.field 220 (Value.agg #[ii L,a1,a2,a3,a4,a5,a6,a7,a8,a9,P,Q,R,V,X,Y,aa,ab,ac,ad,ae,af,ag,ah]) 0).run Tryz.prog w=.ok (ii L) w) (m:c < w.heap.size)
  (hn:w.cell? ⟨c,1,none⟩=some (ii a)) (ao:w.frozen? ⟨c,1,none⟩=false) (hv:w.cell? ⟨c,148,none⟩=some v) (bc:w.frozen? ⟨c,148,none⟩=false) (hown:w.ownsRow base 85 11 v us.length (us.flatMap U.cells)) (O:v.ownBlock≠some c)
  (bg:us.length < 1000) (al:0<=a/\a<=1000000000) (br:base<=w.heap.size) :
  Cs 77 #[.pointer (so c),.int .i64 o,.int .i64 k,cv x y] w fun e l =>
   e=.returned (.tuple #[])/\∃ r,l.cell? ⟨c,148,none⟩=some r/\l.cell? ⟨c,1,none⟩=some (ii (a+1))/\l.ownsRow base 85 11 r (us.length+1) ((us ++ [aS a o k x y L]).flatMap U.cells) /\
    (r.ownBlock=v.ownBlock\/∃ b,r.ownBlock=some b/\w.heap.size<=b)/\Fr (c :: v.ownBlock.toList) w l/\(∀ j,j≠1->j≠148->l.cell? ⟨c,j,none⟩=w.cell? ⟨c,j,none⟩)/\(∀ j,l.frozen? ⟨c,j,none⟩=w.frozen? ⟨c,j,none⟩):=by
 obtain ⟨A,q⟩:∃ W,W=w.alloc (.cells #[ii x,ii y] 159):=⟨_,rfl⟩
 have bw:A.heap.size=w.heap.size+1:=by rw [q];simp
 have ai:Fr [] w A:=by rw [q];exact (r0 _ _).alloc _
 have hC:A.heap[w.heap.size]?=some (.cells #[ii x,ii y] 159):=by rw [q,aC]
 have H:∀ l,Fr [] A l->(fun l:World=>cl l c 1 a/\cl l w.heap.size 0 x/\cl l w.heap.size 1 y/\Fr [] A l) l:=fun l hf=>⟨((ai.then0 hf).cell c 1 m (by simp)).trans hn,aB (hf.heap0 hC),aB (hf.heap0 hC),hf⟩
 have KF:Fr [] A (w.alloc (.cells #[ii x,ii y] 159)).drew:=by rw [q];exact (r0 _ _).drew
 have KA:Fr [] A ((w.alloc (.cells #[ii x,ii y] 159)).alloc (.cells zeroU.arr 85)).drew:=by rw [q];exact ((r0 _ _).alloc _).drew
 have K0:=H _ KF
 clear q
 go_enter Tryz.func77,Tryz.ntmps77
 go_wp2_with fail
 go_cut [8] (fun s8 F=>∃ p:Nat,s8=.pointer (so p)/\F.heap[p]?=some (.cells (aS a o k x y L).arr 85)/\w.heap.size < p/\Fr [] A F)
 case first =>
  go_region_held (fun l:World=>ca l c 1 (ii a)/\ca l w.heap.size 0 (ii x)/\ca l w.heap.size 1 (ii y)/\Fr [] A l)
   (first|with_reducible exact K0|with_reducible exact H _ i|with_reducible exact H _ (i.alloc _)|with_reducible exact H _ KA|with_reducible exact H _ (i.set11 (w.heap.size+1) (aS a o k x y L) (.inr (by omega))))
   (first|(go_at_call 121;refine (hk _).mono ?_;rintro e w1 ⟨rfl,C⟩;have i:Fr [] A w1:=Fr.then0 (And.right (And.right (And.right (by assumption)))) C;obtain ⟨bs,an⟩:=C.cells0;have q4:w.heap.size+1<=w1.heap.size:=(by have:=i.size;omega);(first|(have q3:w.heap.size+1 < w1.heap.size:=(by have:=C.size;simp at this;omega))|skip)))
  all_goals
   go_wp2_with fail
   go_meet
   (first|(have au:w1.heap[w.heap.size+1]?=some (.cells zeroU.arr 85):=C.heap0 (by exact cR w _ _))|skip)
   refine ⟨_,rfl,?_,by omega,?_⟩
   ·first
    | with_reducible exact aC _ _
    | exact set11 (v:=aS a o k x y L) au
   first
   | with_reducible exact i.alloc _
   | exact i.set11 (w.heap.size+1) (aS a o k x y L) (.inr (by omega))
 case rest =>
  obtain ⟨p,rfl,d,bh,N⟩:=hcut
  have n:=ai.then0 N
  have aj:c < wc.heap.size:=Nat.lt_of_lt_of_le m n.size
  have az:wc.cell? ⟨c,148,none⟩=some v:=(n.cell c 148 m (by simp)).trans hv
  have bd:wc.frozen? ⟨c,148,none⟩=false:=(n.frozen c 148 m (by simp)).trans bc
  have bj:wc.cell? ⟨c,1,none⟩=some (ii a):=(n.cell c 1 m (by simp)).trans hn
  have bk:wc.frozen? ⟨c,1,none⟩=false:=(n.frozen c 1 m (by simp)).trans ao
  clear H K0 KF KA
  have e0:ca wc p 0 (ii a):=aB d
  have e1:ca wc p 1 (ii o):=aB d
  have e2:ca wc p 2 (ii k):=aB d
  have e3:ca wc p 3 (ii x):=aB d
  have e4:ca wc p 4 (ii y):=aB d
  have e5:ca wc p 5 (ii L):=aB d
  have e6:ca wc p 6 (ii 0):=aB d
  have e7:ca wc p 7 (ii 0):=aB d
  have e8:ca wc p 8 (ii 0):=aB d
  have e9:ca wc p 9 (ii 0):=aB d
  have bq:ca wc p 10 (ii 0):=aB d
  obtain ⟨be,aw,ba,an,bb⟩:=info_parts iT
  have M:Fr [] w (wc.drew.alloc (.cells (aS a o k x y L).arr 85)):=(n.drew).alloc _
  have z:(wc.drew.alloc (.cells (aS a o k x y L).arr 85)).ownsRow base 85 11 v us.length (us.flatMap U.cells):=aF hown M (by simp)
  have J:∀ j u,(aS a o k x y L).cells[j]?=some u->(wc.drew.alloc (.cells (aS a o k x y L).arr 85)).cell? ((⟨wc.heap.size,0,none⟩:Addr).add j)=some u:=by
   intro j u hu
   rw [Addr.add_lit,Nat.zero_add,aB (show (wc.drew.alloc (.cells (aS a o k x y L).arr 85)).heap[wc.heap.size]?=_ from aC wc.drew _)]
   simpa using hu
  have H:=aA J
  have HO:=aA z
  have bp:=aA hown
  have bn:=aA d
  have bo:=aA N
  have K:=aA M
  have aq:Hi (v.ownBlock≠some c):=O
  have HN:Hi (c∉v.ownBlock.toList):=by show _∉_;intro h;apply O;simpa using h
  clear J z hown d N M
  go_wp2_with fail
  go_cut [] (fun F=>∃ r,F.cell? ⟨c,148,none⟩=some r/\F.cell? ⟨c,1,none⟩=some (ii a)/\F.ownsRow base 85 11 r (us.length+1) ((us ++ [aS a o k x y L]).flatMap U.cells) /\
    (r.ownBlock=v.ownBlock\/∃ b,r.ownBlock=some b/\w.heap.size<=b)/\Fr (c :: v.ownBlock.toList) w F/\(∀ j,j≠1->j≠148->F.cell? ⟨c,j,none⟩=w.cell? ⟨c,j,none⟩)/\(∀ j,F.frozen? ⟨c,j,none⟩=w.frozen? ⟨c,j,none⟩))
  case first =>
   go_region_law (refine sF rfl (.tmp 27) (.tmp 29) 82 rfl base 85 be zeroU.val 11 88 Tryz.underlying82 aw ba an bb rfl (by decide) v us.length (us.flatMap U.cells) (by simp [Act.eval]) HO.o ⟨wc.heap.size,0,none⟩ 1 1 (aS a o k x y L).cells (by simp [Act.eval]) rfl H.o (by simp [Value.oneCell']) (by unfold maxLen;omega) (by omega) (by have:=n.size;simp;omega) ?_;intro r w2 f t s;obtain ⟨g',I,rfl⟩:=bK f (by omega);have E:=Fr.grow (S:=v.ownBlock.toList) (r0 _ _) t (fun g hg=>.inl (by simp [hg]));have ay:w2.cell? ⟨c,148,none⟩=some v:=(E.cell c 148 (by simp;omega) HN.o).trans ((Fr.cell (Fr.alloc ((r0 [] wc).drew) _) c 148 aj (by simp)).trans az);have bl:w2.frozen? ⟨c,148,none⟩=false:=(E.frozen c 148 (by simp;omega) HN.o).trans ((Fr.frozen (Fr.alloc ((r0 [] wc).drew) _) c 148 aj (by simp)).trans bd))
   all_goals
    go_wp2_with fail
    go_meet
    have Zq:=(K.o.of0 (S:=c :: v.ownBlock.toList)).grow t (fun g hg=>.inl (by simp [hg]))
    have Zr:=Zq.setCell ⟨c,148,none⟩ (.slice (so g') (us.length+1) I) (.inl (by simp))
    have ak:g'≠c:=by
     rcases s with h1|h1
     ·intro e;subst e;exact aq.o h1.symm
     intro e;subst e;simp [Value.ownBlock] at h1;omega
    have B:∀ j,w2.cell? ⟨c,j,none⟩=w.cell? ⟨c,j,none⟩:=fun j=>(E.cell c j (by simp;omega) HN.o).trans (K.o.cell c j m (by simp))
    have D:∀ j,w2.frozen? ⟨c,j,none⟩=w.frozen? ⟨c,j,none⟩:=fun j=>(E.frozen c j (by simp;omega) HN.o).trans (K.o.frozen c j m (by simp))
    refine ⟨.slice (so g') (us.length+1) I,dO _ _ _ _ _ ay,?_,?_,?_,Zr,?_,?_⟩
    ·rw [cA _ c 148 c 1 _ (.inr (by omega)),B];exact hn
    ·rw [flatMap_append,flatMap_cons,flatMap_nil,append_nil]
     exact aF f ((r0 [c] w2).setCell _ _ (by simp)) (by intro b hb;simp [Value.ownBlock] at hb;subst hb;simpa using ak)
    ·rcases s with h1|h1
     ·exact .inl h1
     refine .inr ⟨_,h1,?_⟩
     have:=n.size
     simp
     omega
    ·intro j bt bu
     rw [cA _ c 148 c j _ (.inr (by omega)),B]
    intro j
    rw [World.frozen?_setCell];exact D j
  case rest =>
   obtain ⟨r,am,ax,f,s,av,B,D⟩:=hcut
   have bm:wc.frozen? ⟨c,1,none⟩=false:=(D 1).trans ao
   have bv:a<=1000000000:=al.2
   have bi:0<=a:=al.1
   have ap:=(show Hi _ from am)
   have ar:=(show Hi _ from f)
   clear am f
   go_wp2_with fail
   refine bodyPost_end (v:=.tuple #[]) (results_none rfl _ _ _) rfl ⟨rfl,r,?_,?_,?_,s,av.setCell _ _ (.inl (by simp)),?_,?_⟩
   ·rw [cA _ c 1 c 148 _ (.inr (by omega))];exact ap.o
   ·exact dO _ _ _ _ _ ax
   ·refine aF ar.o ((r0 [c] wc).setCell _ _ (by simp)) ?_
    intro b hb
    simp
    rcases s with h1|⟨b',h1,h2⟩
    ·intro e;subst e;exact O (h1.symm.trans hb)
    rw [hb] at h1;cases h1;omega
   ·intro j h1 h2
    rw [cA _ c 1 c j _ (.inr (by omega))];exact B j h1 h2
   intro j
   rw [World.frozen?_setCell];exact D j
abbrev nE (L:Int)(o p q r s t u v x a b c d e f g h i j k l m n:Value):Prop:=∀ w,(Instr.field 220 (Value.agg #[ii L,o,p,q,r,s,t,u,v,x,a,b,c,d,e,f,g,h,i,j,k,l,m,n]) 0).run Tryz.prog w=.ok (ii L) w
def T.added (t:T)(o k x y L:Int):T:={ t with us:=t.us ++ [aS t.next o k x y L],next:=t.next+1 }
theorem DC (H E C hb bb:Nat)(t:T)(o k x y L:Int)(P Q R S V W X Y a9 f g i l m n p q r s u v A B:Value)(w:World)(h:TS w H E C hb bb t)(hk:pP k L P Q R S V W X Y a9 f g i l m n p q r s u v A B)(J:nE L P Q R S V W X Y a9 f g i l m n p q r s u v A B)(K:t.us.length < 1000)(af:0<=t.next/\t.next<=1000000000) :
  Cs 77 #[.pointer (so H),.int .i64 o,.int .i64 k,cv x y] w fun e O =>
   e=.returned (.tuple #[])/\∃ F a,TS O H F a hb bb (t.added o k x y L)/\Fr [H,E] w O/\(F=E\/w.heap.size<=F):=by
 have ag:=h.lt
 have an:=h.row.lt
 have al:=h.held.lt
 have ak:=h.ways.lt
 have hz:=h.z
 have hown:w.ownsRow 1 85 11 (.slice (so E) t.us.length C) t.us.length (t.us.flatMap U.cells):=by
  obtain ⟨cur,hh,hs,ht⟩:=h.row.h
  exact ⟨mD _,.inr ⟨E,C,cur,rfl,hz.2.1,hh,h.row.le,h.row.cap,hs,ht⟩⟩
 have hn:w.cell? ⟨H,1,none⟩=some (ii t.next):=by have:=h.cell 1 (by omega);simpa [aN] using this
 have hv:=h.gv.c
 refine (tE H 1 t.next o k x y L P Q R S V W X Y a9 f g i l m n p q r s u v A B _ t.us w hk J ag hn (h.fz 1) hv (h.fz 148) hown (by simp [Value.ownBlock];exact fun e=>h.n1 e.symm) K af (by omega)).mono ?_
 rintro e O ⟨rfl,v',ah,ae,D,aa,ad,ab,ac⟩
 refine ⟨rfl,?_⟩
 obtain ⟨g',a,ai,aj,M⟩:=PRow.of_owns (us:=t.us ++ [aS t.next o k x y L]) D (by simp) (by omega)
 subst ai
 have d:Fr [H,E] w O:=by simpa [Value.ownBlock] using ad
 have N:g'=E\/w.heap.size<=g':=by
  rcases aa with h1|⟨b,h1,I⟩
  ·simp [Value.ownBlock] at h1;exact .inl h1
  simp [Value.ownBlock] at h1;subst h1;exact .inr I
 have am:(t.us ++ [aS t.next o k x y L]).length=t.us.length+1:=by simp
 refine ⟨g',a,⟨?_,?_,M,?_,h.held.fr d ?_,h.ways.fr d ?_,?_,h.n2,h.n3,?_,?_,h.n6,?_⟩,d,N⟩
 ·intro j hj
  by_cases h1:j=1
  ·subst h1;rw [ae];simp [aN,T.added]
  by_cases I:j=148
  ·subst I;rw [ah];simp [aN,T.added]
  rw [ab j h1 I,h.cell j hj]
  unfold aN T.added
  simp [h1,I]
 ·intro j;rw [ac];exact h.fz j
 ·show (t.us ++ [aS t.next o k x y L]).length<=1000
  omega
 ·simp;exact ⟨fun e=>h.n2 e.symm,fun e=>h.n4 e.symm⟩
 ·simp;exact ⟨fun e=>h.n3 e.symm,fun e=>h.n5 e.symm⟩
 ·rcases N with e|e
  ·rw [e];exact h.n1
  omega
 ·rcases N with e|e
  ·rw [e];exact h.n4
  omega
 ·rcases N with e|e
  ·rw [e];exact h.n5
  omega
 exact ⟨hz.1,by omega,hz.2.2⟩
def eT (k:Int):Int:=if k=2 then 5 else if k=3 then 8 else 0
def cT (k:Int):Int:=if k=1 then 40 else if k=2 then 8 else 12
def cX (t:T)(u:U):U×T :=
 if t.stock u.owner < eT u.tox then (u,t)
 else if 100<=t.us.length then (u,t)
 else if 1000000000<=t.next then (u,t)
 else match (aG u.x u.y).find? (fun c=>bX (bG t.held) t.bd c.1 c.2) with
  | none=>(u,t)
  | some c=>(u.idle,T.added { t.setStock u.owner (t.stock u.owner - eT u.tox) with held:=fun k=>if k=c then some t.next else t.held k } u.owner u.tox c.1 c.2 (cT u.tox))
theorem TS.setStock {w:World}{a l c hb f:Nat}{t:T}(h:TS w a l c hb f t)(o v:Int)(ho:o=0\/o=1):TS (w.setCell ⟨a,2+o.toNat,none⟩ (.int .i64 v)) a l c hb f (t.setStock o v):=by
 have g:Fr [a] w (w.setCell ⟨a,2+o.toNat,none⟩ (.int .i64 v)):=(r0 _ _).setCell _ _ (by simp)
 have b:(t.setStock o v).us=t.us:=by unfold T.setStock;split <;> rfl
 have i:(t.setStock o v).held=t.held:=by unfold T.setStock;split <;> rfl
 refine ⟨?_,?_,?_,?_,?_,?_,h.n1,h.n2,h.n3,h.n4,h.n5,h.n6,h.z⟩
 ·intro j k
  rw [b]
  rcases ho with rfl|rfl
  ·by_cases d:j=2
   ·subst d
    rw [show (2:Nat)+Int.toNat 0=2 from rfl,dO _ _ _ _ _ (h.cell 2 (by omega))]
    simp [aN,T.setStock]
   rw [show (2:Nat)+Int.toNat 0=2 from rfl,cA _ a 2 a j _ (.inr (by omega)),h.cell j k]
   exact congrArg some (sM t v _ hb f j d).symm
  by_cases d:j=3
  ·subst d
   rw [show (2:Nat)+Int.toNat 1=3 from rfl,dO _ _ _ _ _ (h.cell 3 (by omega))]
   simp [aN,T.setStock]
  rw [show (2:Nat)+Int.toNat 1=3 from rfl,cA _ a 3 a j _ (.inr (by omega)),h.cell j k]
  exact congrArg some (sN t v _ hb f j d).symm
 ·intro j;rw [World.frozen?_setCell];exact h.fz j
 ·rw [b];exact h.row.fr g (by simp;exact fun e=>h.n1 e.symm)
 ·rw [b];exact h.len
 ·rw [i];exact h.held.fr g (by simp;exact fun e=>h.n2 e.symm)
 exact h.ways.fr g (by simp;exact fun e=>h.n3 e.symm)
theorem TS.setHeld {w d:World}{c i a hb f:Nat}{t:T}(h:TS w c i a hb f t)(b:Fr [hb] w d)(g:Cl->Option Int)(hm:MapF d hb (bG g)):TS d c i a hb f { t with held:=g } :=
 { h with
  cell:=fun k j=>by rw [b.cell c k h.lt (by simp;exact h.n2)];exact h.cell k j
  fz:=fun k=>by rw [b.frozen c k h.lt (by simp;exact h.n2)];exact h.fz k
  row:=h.row.fr b (by simp;exact h.n4)
  held:=hm
  ways:=h.ways.fr b (by simp;exact fun e=>h.n6 e.symm) }
theorem tZ (b X af hb bb:Nat) (t:T) (u:U) (L C:Int) (a2 a3 a4 a5 a6 a7 a8 a9 q r A B E H I J K M N O P Q:Value) (w:World) (hk:pP u.tox L (ii C) a2 a3 a4 a5 a6 a7 a8 a9 q r A B E H I J K M N O P Q) (cx:nE L (ii C) a2 a3 a4 a5 a6 a7 a8 a9 q r A B E H I J K M N O P Q) (hL:cT u.tox=L) (hC:eT u.tox=C)
  (h:TS w b X af hb bb t) (ek:Sd w) (df:aD u.x u.y=true) (hown:u.owner=0\/u.owner=1) (fm:0<=t.next) (dn:0<=t.stock u.owner/\t.stock u.owner<=1000000000) (ea:0<=C/\C<=10) (bm:(#[ii L,ii C,a2,a3,a4,a5,a6,a7,a8,a9,q,r,A,B,E,H,I,J,K,M,N,O,P,Q]:Array Value).all (·.oneCell')=true) :
  Cs 156 #[.pointer (so b),u.val] w fun e d =>
   e=.returned (cX t u).1.val/\∃ f l,Fr [b,X,hb,bb] w d/\TS d b f l hb bb (cX t u).2/\(f=X\/w.heap.size<=f):=by
 have hz:=h.z
 have ff:=h.ways.lt
 have fh:=h.held.lt
 have fs:=h.lt
 have fp:=h.row.lt
 obtain ⟨W2,ag⟩:∃ W,W=(w.alloc (.cells u.arr 85)).alloc (.cells zeroU.arr 85):=⟨_,rfl⟩
 have fq:W2.heap.size=w.heap.size+1+1:=by rw [ag];simp
 have dy:Fr [] w W2:=by rw [ag];exact ((r0 _ _).alloc _).alloc _
 have hU:W2.heap[w.heap.size]?=some (.cells u.arr 85):=by rw [ag,dD]
 have hR:W2.heap[w.heap.size+1]?=some (.cells zeroU.arr 85):=by rw [ag,cR]
 have KF:Fr [] W2 ((w.alloc (.cells u.arr 85)).alloc (.cells zeroU.arr 85)):=by rw [ag];exact r0 _ _
 clear ag
 have HO:=aA bm
 clear bm
 go_enter Tryz.func156,Tryz.ntmps156
 go_wp2_with fail
 refine (hk _).mono ?_
 rintro e w3 ⟨rfl,bw⟩
 go_wp2_with (refine UY rfl 220 _ _ rfl w3.heap.size 0 #[ii L,ii C,a2,a3,a4,a5,a6,a7,a8,a9,q,r,A,B,E,H,I,J,K,M,N,O,P,Q] kz #[ii L,ii C,a2,a3,a4,a5,a6,a7,a8,a9,q,r,A,B,E,H,I,J,K,M,N,O,P,Q] 220 rfl rfl rfl gQ HO.o (by simp) rfl ?_)
 have hl:w.heap.size+1 < W2.heap.size:=by omega
 have bc:Fr [] W2 (w3.alloc (.cells #[ii L,ii C,a2,a3,a4,a5,a6,a7,a8,a9,q,r,A,B,E,H,I,J,K,M,N,O,P,Q] 220)):=(KF.then0 bw).alloc _
 have ar:(w3.alloc (.cells #[ii L,ii C,a2,a3,a4,a5,a6,a7,a8,a9,q,r,A,B,E,H,I,J,K,M,N,O,P,Q] 220)).heap[w3.heap.size]?=some (.cells #[ii L,ii C,a2,a3,a4,a5,a6,a7,a8,a9,q,r,A,B,E,H,I,J,K,M,N,O,P,Q] 220):=aC _ _
 have eg:w.heap.size+1 < w3.heap.size:=Nat.lt_of_lt_of_le hl (KF.then0 bw).size
 obtain ⟨g,hg⟩:∃ g,g=w3.heap.size:=⟨_,rfl⟩
 obtain ⟨WG,ct⟩:∃ W,W=w3.alloc (.cells #[ii L,ii C,a2,a3,a4,a5,a6,a7,a8,a9,q,r,A,B,E,H,I,J,K,M,N,O,P,Q] 220):=⟨_,rfl⟩
 rw [<- ct] at bc ar |-
 rw [<- hg] at ar eg |-
 have cm:=dy.then0 bc
 have cj:=bc.heap0 hU
 have dj:=bc.heap0 hR
 have aj:=h.fr0 cm
 have dm:=ek.fr0 cm
 have cq:=aA dj
 clear ct hg bw dj KF hU hR
 have u1:ca WG w.heap.size 1 (ii u.owner):=aB cj
 have kc1:ca WG g 1 (ii C):=aB ar
 have c1:WG.cell? ⟨b,1,none⟩=some (ii t.next):=by have:=aj.cell 1 (by omega);simpa [aN] using this
 have cr:=aj.gv.c
 have ex:=h.len
 have ae:WG.cell? ⟨b,2+u.owner.toNat,none⟩=some (ii (t.stock u.owner)):=by
  rcases hown with ho|ho
  ·rw [ho];have:=aj.cell 2 (by omega);simpa [aN,T.stock] using this
  rw [ho];have:=aj.cell 3 (by omega);simpa [aN,T.stock] using this
 obtain ⟨st,av⟩:∃ s,t.stock u.owner=s:=⟨_,rfl⟩
 rw [av] at ae dn
 have ay:=(show Hi _ from av)
 have bq:=aA hC
 have dv:=aA hL
 have fn:0<=u.owner:=by rcases hown with ho|ho <;> omega
 have fo:u.owner < 2:=by rcases hown with ho|ho <;> omega
 clear av hC hL
 rw [show ∀ a:Act,a.put none undef=a from fun _=>rfl]
 go_cut [38] (fun es wx=>es=.bool (decide (st < C)||(decide (100<=t.us.length)||decide (1000000000<=t.next)))/\Fr [] WG wx)
 case first =>
  by_cases hA:st < C
  ·go_quiet (fail)
   go_wp2_with fail
   go_meet
   exact ⟨by simp [hA],(r0 _ _).drewN _⟩
  by_cases hB:100<=t.us.length
  ·have dz:(100:Int)<=(t.us.length:Int):=by omega
   go_quiet (fail)
   go_wp2_with fail
   go_meet
   exact ⟨by simp [hB],(r0 _ _).drewN _⟩
  have dz:¬ ((100:Int)<=(t.us.length:Int)):=by omega
  go_quiet (fail)
  go_wp2_with fail
  go_meet
  exact ⟨by simp [hB];omega,(r0 _ _).drewN _⟩
 case rest =>
  obtain ⟨rfl,ah⟩:=hcut
  have du:=cm.then0 ah
  have bh:=ah.heap0 cj
  have ed:=ah.heap0 ar
  have dl:=ah.heap0 cq.o
  have cg:=aj.fr0 ah
  have el:=dm.fr0 ah
  have br:=aA dl
  clear cj ar aj dm dl cq u1 kc1 c1 cr ae
  obtain ⟨D,hD⟩:∃ D,(decide (st < C)||(decide (100<=t.us.length)||decide (1000000000<=t.next)))=D:=⟨_,rfl⟩
  rw [hD]
  have HD:=aA hD
  clear hD
  cases D
  ·have em:∀ j,wc.cell? ⟨w.heap.size,j,none⟩=u.arr[j]?:=fun j=>aB bh
   obtain ⟨p0,p1,p2,p3⟩:=bM.1 df
   go_wp2_with (first|(refine wpList_load_row rfl 85 _ rfl w.heap.size rfl 85 u.arr (0,0) _ bh Tryz.underlying85 rfl aL ?_)|(go_at_call 192;refine (gU u _).mono ?_;rintro e w4 ⟨rfl,cu⟩)|(go_at_call 198;refine (rJ u.x u.y _ (el.fr0 cu) (by omega) (by omega) (by omega) (by omega)).mono ?_;rintro e w5 ⟨nv,rfl,eb,Zr⟩;obtain ⟨gn,cs,ei,fg,eu⟩:=mY Zr (rI u.x u.y df);subst ei))
   have cw:=cu.then0 eb
   have fl:=rH u.x u.y
   clear em
   go_loopw [44] (fun i wr=>∃ m:Nat,i=.int .i64 m/\m<=(aG u.x u.y).length/\(∀ j c,j < m->(aG u.x u.y)[j]?=some c->bX (bG t.held) t.bd c.1 c.2=false)/\Fr [] w5 wr) (fun i _=>4 - (intOf i).toNat)
   case atStart=>exact ⟨0,rfl,Nat.zero_le _,fun j c hj=>by omega,r0 _ _⟩
   obtain ⟨m,rfl,fk,dc,bz⟩:=hrel
   have ap:=cw.then0 bz
   have dt:=du.then0 ap
   have ck:=ap.heap0 bh
   have cc:=ap.heap0 ed
   have dk:=ap.heap0 br.o
   have ad:=cg.fr0 ap
   have de:=bW Zr bz (by simp)
   have ak:=aA dk
   have ax:=aA dc
   clear dk dc
   by_cases bl:m < (aG u.x u.y).length
   ·obtain ⟨⟨R,V⟩,hn⟩:∃ c,(aG u.x u.y)[m]?=some c:=⟨(aG u.x u.y)[m],getElem?_eq_getElem bl⟩
    obtain ⟨dx,bt,be,_,n0,n1⟩:=kQ de rfl hn
    obtain ⟨rfl,rfl⟩:dx=gn/\bt=cs:=by simp at be;exact ⟨be.1.symm,be.2.symm⟩
    have dd:aD R V=true:=kJ u.x u.y (R,V) (mem_of_getElem? hn)
    obtain ⟨F,hF⟩:∃ F,bX (bG t.held) t.bd R V=F:=⟨_,rfl⟩
    have HF:=aA hF
    have HN:=aA hn
    have bu:∀ o,Fr [] wr (wr.alloc o):=fun o=>(r0 _ _).alloc o
    clear be hF hn
    go_wp2_with fail
    refine (qS b hb (bG t.held) t.bd R V _ (ad.fr0 (bu _)).tv dd).mono ?_
    rintro e w6 ⟨rfl,bx⟩
    rw [HF.o]
    have n:=(bu _).then0 bx
    have bv:=bx.heap0 (aC wr _)
    cases F
    ·go_wp2_with fail
     go_roundw
     case rel =>
      refine ⟨m+1,by go_num,bl,fun j c hj hc=>?_,bz.then0 n⟩
      rcases Nat.lt_or_ge j m with h1|h1
      ·exact ax.o j c h1 hc
      have:j=m:=by omega
      subst this
      rw [HN.o] at hc
      cases hc
      exact HF.o
     case measure=>simp [intOf];omega
    obtain ⟨Y,aq⟩:∃ g,g=wr.heap.size:=⟨_,rfl⟩
    rw [<- aq] at bv |-
    have fi:w.heap.size+1 < Y:=by rw [aq];exact aH ak.o
    have ev:g < Y:=by rw [aq];exact aH cc
    have ew:b < Y/\X < Y/\hb < Y/\bb < Y:=by rw [aq];exact ⟨ad.lt,ad.row.lt,ad.held.lt,ad.ways.lt⟩
    have ai:=ad.fr0 n
    have ch:=n.heap0 ck
    have cb:=n.heap0 cc
    have dg:=n.heap0 ak.o
    have ep:=dt.then0 n
    have dp:=ai.lt
    have cn:=aA dg
    have HA:Hi (cX t u=(u.idle,T.added { t.setStock u.owner (st - C) with held:=fun k=>if k=(R,V) then some t.next else t.held k } u.owner u.tox R V L)):=by
     have hd:=HD.o
     simp only [Bool.or_eq_false_iff,decide_eq_false_iff_not] at hd
     have Zs:(aG u.x u.y).find? (fun c=>bX (bG t.held) t.bd c.1 c.2)=some (R,V):=by
      obtain ⟨ee,ef⟩:=gs.1 HN.o
      rw [find?_eq_some_iff_getElem]
      exact ⟨HF.o,m,ee,ef,fun j hj=>by rw [ax.o j _ hj (getElem?_eq_getElem (by omega))];rfl⟩
     show _=_
     unfold cX
     rw [ay.o,bq.o,dv.o,if_neg hd.1,if_neg hd.2.1,if_neg hd.2.2,Zs]
    clear ak ax HN HF de dg ck cc aq bu n bx n0 n1
    have u1:ca w6 w.heap.size 1 (ii u.owner):=aB ch
    have kc1:ca w6 g 1 (ii C):=aB cb
    have ae:w6.cell? ⟨b,2+u.owner.toNat,none⟩=some (ii st):=by
     rw [<- ay.o]
     rcases hown with ho|ho
     ·rw [ho];have:=ai.cell 2 (by omega);simpa [aN,T.stock] using this
     rw [ho];have:=ai.cell 3 (by omega);simpa [aN,T.stock] using this
    have Zt:=ai.fz (2+u.owner.toNat)
    obtain ⟨ez,fa⟩:=dn
    obtain ⟨fd,fe⟩:=ea
    go_wp2_with fail
    go_cut [] (fun wx=>Fr [b] w6 wx/\TS wx b X af hb bb (t.setStock u.owner (st - C)))
    case first =>
     go_region
     go_wp2_with fail
     go_meet
     exact ⟨((r0 _ _).drew).setCell _ _ (by simp),(ai.fr0 ((r0 [] w6).drew)).setStock u.owner (st - C) hown⟩
    case rest =>
     obtain ⟨an,aa⟩:=hcut
     have au:(t.setStock u.owner (st - C)).next=t.next:=by unfold T.setStock;split <;> rfl
     have bp:(t.setStock u.owner (st - C)).us=t.us:=by unfold T.setStock;split <;> rfl
     have bk:(t.setStock u.owner (st - C)).held=t.held:=by unfold T.setStock;split <;> rfl
     obtain ⟨t7,bo⟩:∃ t7,t.setStock u.owner (st - C)=t7:=⟨_,rfl⟩
     rw [bo] at aa au bp bk
     rw [bo] at HA
     have az:=an.heap bv (by simp;omega)
     have dq:=an.heap ch (by simp;omega)
     have ec:=an.heap cb (by simp;omega)
     have ej:=an.heap cn.o (by simp;omega)
     have eq:Fr [b] w wc:=(ep.of0 (S:=[b])).trans an (by simp)
     have co:=aA ej
     have c1:wc.cell? ⟨b,1,none⟩=some (ii t.next):=by rw [<- au];have:=aa.cell 1 (by omega);simpa [aN] using this
     have al:=aa.tv.c
     obtain ⟨wu,eo,da,cz,fb⟩:=kB (aa.held.fr ((r0 [] wc).drew) (by simp)) 205 3 Tryz.underlying205 R V (ii t.next)
     have p:Fr [hb] wc wu:=((r0 [hb] wc).drew).trans cz (by simp)
     have db:MapF wu hb (bG (fun k=>if k=(R,V) then some t.next else t.held k)):=by
      refine da.of_eq ?_
      intro k
      show _=Option.map _ (if k=(R,V) then some t.next else t.held k)
      rw [bk]
      by_cases hk:k=(R,V)
      ·rw [if_pos hk,if_pos hk];rfl
      rw [if_neg hk,if_neg hk]
     have K3:(fun d:World=>ca d Y 0 (ii R)/\ca d Y 1 (ii V)/\ca d b 149 (.map (some hb))/\ca d b 1 (ii t.next)) wc.drew:=⟨aB (show wc.drew.heap[Y]?=_ from az),aB (show wc.drew.heap[Y]?=_ from az),al,c1⟩
     have ba:=p.heap az (by simp;omega)
     have K4:(fun d:World=>ca d Y 0 (ii R)/\ca d Y 1 (ii V)/\ca d b 149 (.map (some hb))/\ca d b 1 (ii t.next)) wu:=⟨aB ba,aB ba,(p.cell b 149 aa.lt (by simp;exact aa.n2)).trans al,(p.cell b 1 aa.lt (by simp;exact aa.n2)).trans c1⟩
     have cf:TS wu b X af hb bb { t7 with held:=fun k=>if k=(R,V) then some t.next else t.held k }:=aa.setHeld p _ db
     clear bv ch cb u1 kc1 ae Zt ai cg ad dp
     go_wp2_with fail
     go_cut [] (fun wx=>wu=wx)
     case first =>
      go_region_held (fun d:World=>ca d Y 0 (ii R)/\ca d Y 1 (ii V)/\ca d b 149 (.map (some hb))/\ca d b 1 (ii t.next))
       (first|exact K3|exact K4)
       (fail)
      all_goals
       go_wp2_with fail
       go_meet
       rfl
     case rest =>
      obtain rfl:=hcut
      have bg:=p.heap dq (by simp;omega)
      have ce:=p.heap co.o (by simp;omega)
      have ds:Fr [b,hb] w wu:=(eq.mono (S':=[b,hb]) (by simp)).trans p (by simp)
      have cp:=aA ce
      have dh:=ce
      have u1:ca wu w.heap.size 1 (ii u.owner):=aB bg
      have ft:ca wu w.heap.size 8 (ii u.tox):=aB bg
      have q0:ca wu Y 0 (ii R):=K4.1
      have q1:ca wu Y 1 (ii V):=K4.2.1
      have fc:=cf.lt
      have bs:∀ d,Fr [b,X] wu d->(fun d:World=>ca d Y 0 (ii R)/\ca d Y 1 (ii V)/\ca d w.heap.size 1 (ii u.owner)/\ca d w.heap.size 8 (ii u.tox)) d:=fun d hf=>by
       have h1:=hf.heap bg (by simp;omega)
       have h2:=hf.heap ba (by simp;omega)
       exact ⟨aB h2,aB h2,aB h1,aB h1⟩
      have K9:=bs wu.drew ((r0 _ _).drew)
      have fj:t.us.length < 100/\t.next < 1000000000:=by
       have hd:=HD.o
       simp only [Bool.or_eq_false_iff,decide_eq_false_iff_not] at hd
       omega
      obtain ⟨t8,aw⟩:∃ t8,({ t7 with held:=fun k=>if k=(R,V) then some t.next else t.held k }:T)=t8:=⟨_,rfl⟩
      have eh:t8.next=t.next:=by rw [<- aw];exact au
      have dr:t8.us=t.us:=by rw [<- aw];exact bp
      rw [aw] at cf HA
      have bi:=DC b X af hb bb t8 u.owner u.tox R V L (ii C) a2 a3 a4 a5 a6 a7 a8 a9 q r A B E H I J K M N O P Q wu.drew (cf.fr0 ((r0 [] wu).drew)) hk cx (by rw [dr];omega) (by rw [eh];omega)
      clear K3 K4 eo da cz c1 al dq ec az ba co cn
      go_wp2_with fail
      go_cut [] (fun wx=>∃ f l,TS wx b f l hb bb (t8.added u.owner u.tox R V L)/\Fr [b,X] wu wx/\(f=X\/wu.heap.size<=f))
      case first =>
       go_region_held (fun d:World=>ca d Y 0 (ii R)/\ca d Y 1 (ii V)/\ca d w.heap.size 1 (ii u.owner)/\ca d w.heap.size 8 (ii u.tox))
        (first|with_reducible exact K9|with_reducible exact bs _ cy)
        (first|(go_at_call 77;refine bi.mono ?_;rintro e w9 ⟨rfl,f,l,bf,ao,cd⟩;have cy:Fr [b,X] wu w9:=Fr.trans ((r0 _ _).drew) ao (by simp)))
       all_goals
        go_wp2_with fail
        go_meet
        exact ⟨f,l,bf,cy,cd⟩
      case rest =>
       obtain ⟨f,l,bf,ao,cd⟩:=hcut
       have en:=ao.heap bg (by simp;omega)
       have di:=ao.heap cp.o (by simp;omega)
       have er:Fr [b,X,hb,bb] w wc:=(ds.mono (S':=[b,X,hb,bb]) (by simp)).trans ao (by simp)
       have dw:=aA di
       have ey:=bf.row.lt
       clear bs K9 bi di ce cp
       go_wp2_with (first|(refine wpList_load_row rfl 85 _ rfl w.heap.size rfl 85 u.arr (0,0) _ en Tryz.underlying85 rfl aL ?_)|(go_at_call 200;refine (oC u _).mono ?_;rintro e et ⟨rfl,am⟩;have bn:=am.heap0 dw.o;have bj:=(aA bn);clear bn)|(refine wpList_store_row rfl 85 _ _ rfl (w.heap.size+1) u.idle.arr rfl rfl 85 _ bj.o aL rfl (U.one _) ?_))
       have ac:Fr [b,X,hb,bb] w (et.setRow (w.heap.size+1) u.idle.arr):=(er.then0 am).setRow _ _ (.inr (by omega))
       have h1:=ds.size
       have h2:=aH dh
       have h3:f=X\/w.heap.size+1 < f:=by rcases cd with e|e;exact .inl e;exact .inr (by omega)
       refine bodyPost_ret (v:=u.idle.val) (results_cell_row Tryz.results156 _ _ (w.heap.size+1) 85 u.idle.arr (0,0) _ rfl (setRow_heap _ _ _ u.idle.arr _ _ bj.o) Tryz.underlying85 rfl aL) rfl ⟨?_,f,l,ac,?_,by rcases h3 with e|e;exact .inl e;exact .inr (by omega)⟩
       ·rw [HA.o]
       rw [HA.o]
       exact (bf.fr0 am).fr ((r0 [w.heap.size+1] _).setRow _ _ (by simp)) (by simp;omega) (by simp;omega) (by simp;omega) (by simp;omega)
   have Zq:(aG u.x u.y).find? (fun c=>bX (bG t.held) t.bd c.1 c.2)=none:=by
    rw [find?_eq_none]
    intro c hc
    obtain ⟨j,hj,rfl⟩:=mem_iff_getElem.1 hc
    rw [ax.o j _ (by omega) (getElem?_eq_getElem hj)]
    simp
   have ab:cX t u=(u,t):=by
    have hd:=HD.o
    simp only [Bool.or_eq_false_iff,decide_eq_false_iff_not] at hd
    unfold cX
    rw [ay.o,bq.o,if_neg hd.1,if_neg hd.2.1,if_neg hd.2.2,Zq]
   have HA:=aA ab
   clear ab Zq
   go_wp2_with (first|(refine wpList_load_row rfl 85 _ rfl w.heap.size rfl 85 u.arr (0,0) _ ck Tryz.underlying85 rfl aL ?_)|(refine wpList_store_row rfl 85 _ _ rfl (w.heap.size+1) u.arr rfl rfl 85 _ ak.o aL rfl (U.one _) ?_))
   have ac:Fr [b,X,hb,bb] w (wr.setRow (w.heap.size+1) u.arr):=(dt.of0 (S:=[b,X,hb,bb])).setRow _ _ (.inr (by omega))
   refine bodyPost_ret (v:=u.val) (results_cell_row Tryz.results156 _ _ (w.heap.size+1) 85 u.arr (0,0) _ rfl (setRow_heap _ _ _ u.arr _ _ ak.o) Tryz.underlying85 rfl aL) rfl ⟨?_,X,af,ac,?_,.inl rfl⟩
   ·rw [HA.o]
   rw [HA.o]
   exact ad.fr ((r0 [w.heap.size+1] _).setRow _ _ (by simp)) (by simp;omega) (by simp;omega) (by simp;omega) (by simp;omega)
  have ab:cX t u=(u,t):=by
   have hd:=HD.o
   simp only [Bool.or_eq_true,decide_eq_true_eq] at hd
   unfold cX
   rw [ay.o,bq.o]
   by_cases hA:st < C
   ·rw [if_pos hA]
   rw [if_neg hA]
   by_cases hB:100<=t.us.length
   ·rw [if_pos hB]
   rw [if_neg hB,if_pos (by rcases hd with h|h|h;exact absurd h hA;exact absurd h hB;exact h)]
  have HA:=aA ab
  clear ab
  go_wp2_with (first|(refine wpList_load_row rfl 85 _ rfl w.heap.size rfl 85 u.arr (0,0) _ bh Tryz.underlying85 rfl aL ?_)|(refine wpList_store_row rfl 85 _ _ rfl (w.heap.size+1) u.arr rfl rfl 85 _ br.o aL rfl (U.one _) ?_))
  have ac:Fr [b,X,hb,bb] w (wc.setRow (w.heap.size+1) u.arr):=(du.of0 (S:=[b,X,hb,bb])).setRow _ _ (.inr (by omega))
  refine bodyPost_ret (v:=u.val) (results_cell_row Tryz.results156 _ _ (w.heap.size+1) 85 u.arr (0,0) _ rfl (setRow_heap _ _ _ u.arr _ _ br.o) Tryz.underlying85 rfl aL) rfl ⟨?_,X,af,ac,?_,.inl rfl⟩
  ·rw [HA.o]
  rw [HA.o]
  exact cg.fr ((r0 [w.heap.size+1] _).setRow _ _ (by simp)) (by simp;omega) (by simp;omega) (by simp;omega) (by simp;omega)
