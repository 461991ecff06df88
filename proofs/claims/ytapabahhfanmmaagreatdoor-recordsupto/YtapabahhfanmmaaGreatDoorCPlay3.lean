import Derived.Test.YtapabahhfanmmaaGreatDoorCPlayE
namespace Go.Proofs.YtapabahhfanmmaaGreatDoor
open Go.RowKit List
set_option maxRecDepth 100000
set_option maxHeartbeats 2000000
theorem LI (w:World):(Instr.makeSlice 46 (.int .i64 2) (.int .i64 2)).run Tryz.prog w=.ok (.slice (so w.heap.size) 2 2) (w.alloc (.cells #[.slice none 0 0,.slice none 0 0] 25)):=by kernel_rfl
theorem OM (pb y:Nat)(t:T)(I l2:List Cm)(bg bh:Value)(w:World)(dn:Sd w)(dk:fI t)(X:PRow w pb y t.us)(am:t.us.length<=1000)(dj:0 < t.us.length)(ht:0<=t.turn/\t.turn < 1000000000)(h1:CmdV w bg I)(h2:CmdV w bh l2)(dg:I.length<=2000000)(dh:l2.length<=2000000)(ax:bD t.us=false) :
  Cs 74 #[.agg (aQ t (.slice (so pb) t.us.length y)).toArray,bg,bh] w fun e w' =>
   ∃ v f c,e=.returned (.tuple #[.agg (aQ (aM t I l2).1 (.slice (so f) (aM t I l2).1.us.length c)).toArray,v])/\Fr [] w w'/\PRow w' f c (aM t I l2).1.us/\w.heap.size<=f/\RefsA w' w.heap.size v (aM t I l2).2.1 (aM t I l2).2.2:=by
 obtain ⟨gs,A⟩:∃ gs,gs=(aQ t (.slice (so pb) t.us.length y)).toArray:=⟨_,rfl⟩
 have hg:gs.size=149:=by rw [A];simp [aQ]
 have cs:=aA A
 have de:gs[0]?=some (ii t.turn):=by rw [A];simp [aQ,aN]
 have Q:gs[148]?=some (.slice (so pb) t.us.length y):=by rw [A];simp [aQ,aN]
 have al:∀ w3,Fr [] w w3->Cs 117 #[.agg gs] w3 fun e w'=>∃ s f c hb bb,e=.returned (.pointer (so s))/\Fr [] w3 w'/\TS w' s f c hb bb (cO t)/\w3.heap.size<=s/\w3.heap.size<=f/\w3.heap.size<=hb/\w3.heap.size<=bb:=fun w3 hf=>by
  rw [A];exact DP pb y t w3 (X.fr hf (by simp)) dj am
 have ai:=aA al
 rw [<- A]
 clear al
 have HG:=aA hg
 clear A hg
 obtain ⟨W2,D⟩:∃ W,W=(w.alloc (.cells gs 90)).alloc (.cells Tryz.zeroCells90 90):=⟨_,rfl⟩
 have Zr:Fr [] w W2:=by rw [D];exact ((r0 _ _).alloc _).alloc _
 have au:W2.heap[w.heap.size]?=some (.cells gs 90):=by rw [D,dD]
 have av:W2.heap[w.heap.size+1]?=some (.cells Tryz.zeroCells90 90):=by rw [D,cR]
 have ce:GV W2 w.heap.size pb y t.us:=⟨by rw [aB au];exact Q,(X.fr Zr (by simp)).ppl,am⟩
 have S:=ce
 rw [D] at S
 have HV:=(show Hi _ from S)
 have HW:=aA D
 clear D S
 go_enter Tryz.func74,Tryz.ntmps74
 go_wp2_with (first|(go_at_call 116;refine (mQ w.heap.size pb y t.us _ HV.o).mono ?_;rintro e w3 ⟨rfl,z⟩;rw [ax];rw [<- HW.o] at z;have bt:=z.heap0 au)|(refine wpList_load_row rfl 90 _ rfl w.heap.size rfl 90 gs (0,0) _ bt Tryz.underlying90 rfl (by rw [dE,HG.o]) ?_))
 refine Calls.mono (ai.o w3 (Zr.then0 z)) ?_
 rintro e w4 ⟨s,f,c,hb,bb,rfl,aw,F,q1,q2,q3,q4⟩
 have bv:=aw.heap0 (z.heap0 av)
 have ck:Fr [] w w4:=(Zr.then0 z).then0 aw
 have dv:=aH av
 have dz:=z.size
 clear bt au av ce HV HW de Q cs HG ai X z
 have di:=LI
 go_wp2_with fail
 obtain ⟨W5,ad⟩:∃ W,W=w4.alloc (.cells #[.slice none 0 0,.slice none 0 0] 25):=⟨_,rfl⟩
 rw [<- ad]
 have ag:Fr [] w4 W5:=by rw [ad];exact (r0 _ _).alloc _
 have ab:W5.heap[w4.heap.size]?=some (.cells #[.slice none 0 0,.slice none 0 0] 25):=by rw [ad];exact aC _ _
 clear ad
 obtain ⟨H,cg⟩:∃ x,x=w4.heap.size:=⟨_,rfl⟩
 have Zt:=F.lt
 have dl:=F.row.lt
 have df:=F.held.lt
 have dc:=F.ways.lt
 rw [<- cg] at ab Zt dl df dc |-
 have cm:Fr [] w W5:=ck.then0 ag
 have bw:=ag.heap0 bv
 have aq:=F.fr0 ag
 have dw:w.heap.size+1 < s/\w.heap.size+1 < f/\w.heap.size+1 < hb/\w.heap.size+1 < bb:=by omega
 have ao:TOk (cO t):=dk
 clear cg ag bv ck F aw di q1 q2 q3 q4
 obtain ⟨g0,o0⟩:=iZ 0 (fun _=>False) I 0 ao (fun _ e=>e)
 refine Calls.mono (uO s f c hb bb (cO t) 0 I bg w W5 aq ao h1 cm dg (by omega)) ?_
 rintro e w6 ⟨v0,rfl,ah,Y,d⟩
 obtain ⟨a0,n0,c0,rfl⟩:=iU d
 have K:=ah.heap ab (by simp;omega)
 have ap:=aH ab
 have bx:=ah.heap bw (by simp;omega)
 have cn:Fr [] w w6:=cm.trans ah (by simp;omega)
 have bm:ca w6 H 0 (.slice none 0 0):=aB K
 have bn:w6.frozen? ⟨H,0,none⟩=false:=bI K
 obtain ⟨t1,bc⟩:∃ x,(aW 0 0 I (cO t)).2=x:=⟨_,rfl⟩
 obtain ⟨r1,az⟩:∃ x,(aW 0 0 I (cO t)).1=x:=⟨_,rfl⟩
 rw [bc] at g0 o0 Y
 rw [az] at d
 have cy:=aA bc
 have cw:=aA az
 clear bc az ab aq
 go_wp2_with fail
 obtain ⟨W7,ae⟩:∃ W,W=w6.setCell ⟨H,0,none⟩ (.slice a0 n0 c0):=⟨_,rfl⟩
 rw [<- ae]
 have N:Fr [H] w6 W7:=by rw [ae];exact (r0 _ _).setCell _ _ (by simp)
 have bo:W7.heap[H]?=some (.cells #[.slice a0 n0 c0,.slice none 0 0] 25):=by rw [ae];exact (bS K 0 _).trans (by simp)
 have dr:=aH K
 have dy:w.heap.size+1 < H:=by omega
 have co:Fr [] w W7:=cn.trans N (by simp;omega)
 have Zs:=N.heap bx (by simp;omega)
 have ar:=Y.fr N (by simp;omega) (by simp;omega) (by simp;omega) (by simp;omega)
 have dt:=ah.size
 have B:=iE d N ap
 have cq:Hi (∀ g,Value.ownBlock (.slice a0 n0 c0)=some g->g < w6.heap.size):=fun g hg=>(d.lt g hg).2
 clear ae K bm bn Y bx cn d bw
 obtain ⟨g1,o1⟩:=iZ 1 (fun _=>False) l2 0 g0.ok (fun _ e=>e)
 refine Calls.mono (uO s f c hb bb t1 1 l2 bh w W7 ar g0.ok h2 co dh (by omega)) ?_
 rintro e w8 ⟨v1,rfl,O,aa,m⟩
 obtain ⟨a1,n1,c1,rfl⟩:=iU m
 have ac:=O.heap bo (by simp;omega)
 have bz:=O.heap Zs (by simp;omega)
 have cp:Fr [] w w8:=co.trans O (by simp;omega)
 have bp:ca w8 H 1 (.slice none 0 0):=aB ac
 have bq:w8.frozen? ⟨H,1,none⟩=false:=bI ac
 have r:=iE B O (by omega)
 obtain ⟨t2,bd⟩:∃ x,(aW 1 0 l2 t1).2=x:=⟨_,rfl⟩
 obtain ⟨r2,ba⟩:∃ x,(aW 1 0 l2 t1).1=x:=⟨_,rfl⟩
 rw [bd] at g1 o1 aa
 rw [ba] at m
 have cz:=aA bd
 have cx:=aA ba
 clear bd ba bo ar B Zs
 go_wp2_with fail
 obtain ⟨W9,af⟩:∃ W,W=w8.setCell ⟨H,1,none⟩ (.slice a1 n1 c1):=⟨_,rfl⟩
 rw [<- af]
 have E:Fr [H] w8 W9:=by rw [af];exact (r0 _ _).setCell _ _ (by simp)
 have br:W9.heap[H]?=some (.cells #[.slice a0 n0 c0,.slice a1 n1 c1] 25):=by rw [af];exact (bS ac 1 _).trans (by simp)
 have bf:Fr [] w W9:=cp.trans E (by simp;omega)
 have cb:=E.heap bz (by simp;omega)
 have Zq:=aa.fr E (by simp;omega) (by simp;omega) (by simp;omega) (by simp;omega)
 have ea:=N.size
 have k:=iE r E ap
 have n:=iE m E (by omega)
 have an:bD t2.us=false:=by rw [o1,o0];exact ax
 have cf:0 < t2.us.length:=by
  have h1:=g1.ok.bs
  have h2:=countP_le_length (p:=aT 0) (l:=t2.us)
  have h3:=countP_le_length (p:=aT 1) (l:=t2.us)
  omega
 have cd:=nI t2.us g1.ok an (rZ g1.ok.rise)
 have M:=DB s f c hb bb t2 W9 Zq (dn.fr bf (by simp)) g1.ok an cf
 obtain ⟨t3,be⟩:∃ x,eQ t2.us t2=x:=⟨_,rfl⟩
 rw [be] at cd M
 have da:=aA be
 have ch:t3.turn=t.turn:=by rw [cd.tn,g1.tn,g0.tn];rfl
 clear af ac bp bq aa bz cp r m be
 refine Calls.mono M ?_
 rintro e u ⟨rfl,bi,J,h,a,dx⟩
 have bl:=h.heap br (by simp;omega)
 have bu:=h.heap cb (by simp;omega)
 have cj:Fr [] w u:=bf.trans h (by simp;omega)
 have C:=aF k h (fun b hb=>by have:=cG k hb;simp;omega)
 have q:=aF n h (fun b hb=>by have:=cG n hb;simp;omega)
 have cc:u.cell? ⟨s,0,none⟩=some (ii t3.turn):=by have:=a.cell 0 (by omega);simpa [aN] using this
 have ed:=a.fz 0
 rw [ch] at cc
 have ec:=bf.size
 have ds:=h.size
 have dm:=a.row.lt
 clear br cb Zq k n M
 have L:(u.setCell ⟨s,0,none⟩ (.int .i64 (t.turn+1))).rangeAt s 0 (aQ { t3 with turn:=t.turn+1 } (.slice (so bi) t3.us.length J)):=by
  intro j v hv
  have hj:j < 149:=by have:=(List.getElem?_eq_some_iff.1 hv).1;rwa [fC] at this
  unfold aQ at hv
  rw [getElem?_map,getElem?_range hj] at hv
  simp only [Option.map_some,Option.some.injEq] at hv
  rw [<- hv,Nat.zero_add]
  by_cases h0:j=0
  ·subst h0
   rw [dO _ _ _ _ _ cc]
   simp [aN]
  rw [cA _ _ _ _ _ _ (.inr (fun e=>h0 e.symm)),a.cell j (by omega)]
  unfold aN
  have dp:¬ j=149:=by omega
  simp only [h0,if_false]
  by_cases h1:j=1
  ·simp [h1]
  by_cases h2:j=2
  ·simp [h2]
  by_cases h3:j=3
  ·simp [h3]
  by_cases h8:j < 148
  ·simp [h1,h2,h3,h8]
  have:j=148:=by omega
  subst this
  simp
 have ak:(u.setCell ⟨s,0,none⟩ (.int .i64 (t.turn+1))).heap[w.heap.size+1]?=some (.cells Tryz.zeroCells90 90):=by rw [Below.heap_setCell _ _ _ _ (by simp;omega)];exact bu
 have dd:Fr [s] u (u.setCell ⟨s,0,none⟩ (.int .i64 (t.turn+1))):=(r0 _ _).setCell _ _ (by simp)
 obtain ⟨gl,R⟩:∃ x,x=aQ { t3 with turn:=t.turn+1 } (.slice (so bi) t3.us.length J):=⟨_,rfl⟩
 have i:gl.length=149:=by rw [R];exact fC _ _
 have V:gl.toArray.all (·.oneCell')=true:=by rw [R];exact jS _ _ _ _
 rw [<- R] at L
 have cr:=aA R
 have ct:=aA i
 have cu:=aA V
 have bk:=aA L
 have aj:=aA ak
 have bj:Hi ((Tryz.prog.info? 90).map (·.size)=some gl.toArray.size):=by
  show _=_
  rw [dE,size_toArray,i]
 have db:Hi (Tryz.zeroCells90.size=gl.toArray.size):=by
  show _=_
  exact zcGame.trans (by simp [i])
 clear R i V L ak
 go_wp2_with (first|(refine wpList_load_mid rfl 90 _ rfl s 0 rfl gl _ bk.o Tryz.underlying90 rfl (by rw [dE,ct.o]) ?_)|(refine wpList_store_row rfl 90 _ _ rfl (w.heap.size+1) gl.toArray rfl rfl 90 _ aj.o bj.o db.o cu.o ?_))
 refine bodyPost_ret (v:=.tuple #[.agg gl.toArray,.slice (so H) 2 2]) (cJ Tryz.results74 _ _ (w.heap.size+1) 90 gl.toArray (0,0) _ _ rfl rfl (setRow_heap _ _ _ _ _ _ aj.o) Tryz.underlying90 rfl bj.o) rfl ?_
 have ay:aM t I l2=({ t3 with turn:=t.turn+1 },r1,r2):=by
  unfold aM
  rw [if_neg (by omega),if_neg (by rw [ax];simp)]
  simp only [cy.o,cw.o,cz.o,cx.o,da.o,ch]
 rw [ay]
 have P:Fr [s,w.heap.size+1] u ((u.setCell ⟨s,0,none⟩ (.int .i64 (t.turn+1))).setRow (w.heap.size+1) gl.toArray):=(dd.mono (by simp)).setRow _ _ (by simp)
 have eb:=O.size
 have du:=E.size
 have dq:=a.n1
 refine ⟨_,bi,J,by rw [cr.o],cj.trans P (by simp;omega),a.row.fr P (by simp;omega),by omega,H,_,_,rfl,P.heap bl (by simp;omega),by omega,?_,?_,fun g hg e=>by have h1:=cq.o g hg;have h2:=cG q e;omega⟩
 ·exact iF (aF C P (fun b hb=>by have:=cG C hb;simp;omega)) (by omega)
 exact iF (aF q P (fun b hb=>by have:=cG q hb;simp;omega)) (by omega)
theorem yP (k a:Nat)(t:T)(d l2:List Cm)(g h:Value)(w:World)(y:Sd w)(u:fI t)(c:PRow w k a t.us)(i:t.us.length<=1000)(s:0 < t.us.length)(z:0<=t.turn)(h1:CmdV w g d)(r:CmdV w h l2)(l:d.length<=2000000)(m:l2.length<=2000000) :
  Cs 74 #[.agg (aQ t (.slice (so k) t.us.length a)).toArray,g,h] w fun e o =>
   ∃ v f b,e=.returned (.tuple #[.agg (aQ (aM t d l2).1 (.slice (so f) (aM t d l2).1.us.length b)).toArray,v])/\Fr [] w o/\PRow o f b (aM t d l2).1.us/\(f=k\/w.heap.size<=f)/\RefsA o w.heap.size v (aM t d l2).2.1 (aM t d l2).2.2:=by
 by_cases j:1000000000<=t.turn
 ·have x:aM t d l2=(t,range d.length,range l2.length):=by
   unfold aM
   rw [if_pos j]
  rw [x]
  refine (OL k a t d l2 g h w j h1 r l m).mono ?_
  rintro e o ⟨v,p,n,q⟩
  exact ⟨v,k,a,p,n,c.fr n (by simp),.inl rfl,q⟩
 have ht:0<=t.turn/\t.turn < 1000000000:=by omega
 cases ho:bD t.us with
 | false =>
  refine (OM k a t d l2 g h w y u c i s ht h1 r l m ho).mono ?_
  rintro e o ⟨v,f,b,p,n,q,A,B⟩
  exact ⟨v,f,b,p,n,q,.inr A,B⟩
 | true =>
  have x:aM t d l2=({ t with turn:=t.turn+1 },range d.length,range l2.length):=by
   unfold aM
   rw [if_neg (by omega),if_pos ho]
  rw [x]
  refine (ON k a t d l2 g h w c i ht h1 r l m ho).mono ?_
  rintro e o ⟨v,p,n,q⟩
  exact ⟨v,k,a,p,n,c.fr n (by simp),.inl rfl,q⟩
theorem Refs.fr {S:List Nat}{w g:World}{base:Nat}{v:Value}{a b:List Nat}(h:Refs w base v a b)(c:Fr S w g)(hs:∀ x∈S,x < base):Refs g base v a b:=by
 obtain ⟨k,l,m,n,h1,i,j,d,f⟩:=h
 exact ⟨k,l,m,n,h1,c.heap i (fun e=>by have:=hs _ e;omega),j,aF d c (fun b hb e=>by have:=hs _ e;have:=cG d hb;omega),aF f c (fun b hb e=>by have:=hs _ e;have:=cG f hb;omega)⟩
theorem RefsA.fr {S:List Nat}{w g:World}{base:Nat}{v:Value}{a b:List Nat}(h:RefsA w base v a b)(c:Fr S w g)(hs:∀ x∈S,x < base):RefsA g base v a b:=by
 obtain ⟨l,m,n,h1,i,j,d,f,k⟩:=h
 exact ⟨l,m,n,h1,c.heap i (fun e=>by have:=hs _ e;omega),j,aF d c (fun b hb e=>by have:=hs _ e;have:=cG d hb;omega),aF f c (fun b hb e=>by have:=hs _ e;have:=cG f hb;omega),k⟩
theorem GS.all {w:World}{c e a:Nat}{t:T}(h:GS w c e a t):w.rangeAt c 0 (aQ t (.slice (so e) t.us.length a)):=by
 intro j v b
 have d:j < 149:=by have:=(gs.1 b).1;rwa [fC] at this
 unfold aQ at b
 rw [getElem?_map,getElem?_range d] at b
 simp only [Option.map_some,Option.some.injEq] at b
 rw [<- b,Nat.zero_add]
 exact h.cell j d
theorem EX {w:World}{a:Nat}{t:T}{pv:Value}(h:w.rangeAt a 0 (aQ t pv)):∀ k,k < 149->w.cell? ⟨a,k,none⟩=some (aN t pv 0 0 k):=by
 intro k b
 have:=h k (aN t pv 0 0 k) (by unfold aQ;rw [getElem?_map,getElem?_range b];rfl)
 rwa [Nat.zero_add] at this
theorem yM {t:T}(b:fI t)(c l2:List Cm):fI (aM t c l2).1:=by
 by_cases a:1000000000<=t.turn
 ·have d:aM t c l2=(t,range c.length,range l2.length):=by
   unfold aM
   rw [if_pos a]
  rw [d]
  exact b
 exact (oR b c l2 (by omega)).ok
theorem OO {t:T}(c:fI t)(ht:0<=t.turn/\t.turn<=1000000000)(b l2:List Cm):0<=(aM t b l2).1.turn/\(aM t b l2).1.turn<=1000000000:=by
 by_cases a:1000000000<=t.turn
 ·have d:aM t b l2=(t,range b.length,range l2.length):=by
   unfold aM
   rw [if_pos a]
  rw [d]
  exact ht
 rw [(oR c b l2 (by omega)).tn]
 omega
theorem IK (d pb A:Nat)(t:T)(u l2:List Cm)(H I:Value)(w:World)(h:GS w d pb A t)(ah:Sd w)(S:fI t)(ht:0<=t.turn)(h1:CmdV w H u)(h2:CmdV w I l2)(ag:u.length<=2000000)(q:l2.length<=2000000) :
  Cs 33 #[.pointer (so d),H,I] w fun e L =>
   ∃ v c a,e=.returned v/\Fr [d] w L/\GS L d c a (aM t u l2).1/\(c=pb\/w.heap.size<=c)/\RefsA L w.heap.size v (aM t u l2).2.1 (aM t u l2).2.2:=by
 have af:=h.lt
 obtain ⟨gs,s⟩:∃ gs,gs=aQ t (.slice (so pb) t.us.length A):=⟨_,rfl⟩
 have hg:gs.length=149:=by rw [s];simp [aQ]
 have m:=h.all
 rw [<- s] at m
 have g:=fun L (hf:Fr [] w L)=>yP pb A t u l2 H I L (ah.fr0 hf) S (h.row.fr hf (by simp)) h.len h.ne ht (h1.fr0 hf) (h2.fr0 hf) ag q
 rw [<- s] at g
 have HP:=aA g
 have HA:=aA m
 have HI:Hi ((Tryz.prog.info? 90).map (·.size)=some gs.length):=by
  show _=_
  rw [dE,hg]
 clear s g m hg
 go_enter Tryz.func33,Tryz.ntmps33
 go_wp2_with (first|(go_at_call 39;refine (nB d _).mono ?_;rintro e w1 ⟨rfl,rfl⟩)|(refine wpList_load_mid rfl 90 _ rfl d 0 rfl gs _ HA.o Tryz.underlying90 rfl HI.o ?_))
 refine Calls.mono (HP.o w (r0 _ _)) ?_
 rintro e i ⟨v,c,a,rfl,B,r,X,D⟩
 obtain ⟨K,F⟩:∃ x,(aM t u l2).1=x:=⟨_,rfl⟩
 rw [F] at r |-
 obtain ⟨b,n⟩:∃ x,x=aQ K (.slice (so c) K.us.length a):=⟨_,rfl⟩
 rw [<- n]
 have HT:=(show Hi _ from F)
 have q:b.length=149:=by rw [n];exact fC _ _
 have M:Hi (b.toArray.all (·.oneCell')=true):=by
  show _=_
  rw [n];exact jS _ _ _ _
 have y:Hi ((Tryz.prog.info? 90).map (·.size)=some b.toArray.size):=by
  show _=_
  rw [dE,size_toArray,q]
 have ae:Hi (Tryz.zeroCells90.size=b.toArray.size):=by
  show _=_
  exact zcGame.trans (by simp [q])
 have ab:=aA n
 clear F n HP HA HI
 have J:Fr [] w ((i.alloc (.cells Tryz.zeroCells90 90)).setRow i.heap.size b.toArray):=(B.alloc _).setRow _ _ (.inr B.size)
 have f:=h.fr J (by simp) (by simp)
 have N:Hi (((i.alloc (.cells Tryz.zeroCells90 90)).setRow i.heap.size b.toArray).there d 0 b.toArray.size):=by
  intro j hj
  rw [size_toArray,q] at hj
  exact ⟨by rw [Nat.zero_add,f.cell j hj];rfl,by rw [Nat.zero_add];exact f.fz j⟩
 have ad:Hi (((i.alloc (.cells Tryz.zeroCells90 90)).setRow i.heap.size b.toArray).heap[i.heap.size]?=some (.cells b.toArray 90)):=setRow_heap _ _ _ _ _ _ (aC _ _)
 have aa:=aA J
 have ac:=aA f
 clear J f
 go_wp2_with (first|(refine wpList_store_row rfl 90 _ _ rfl i.heap.size b.toArray rfl rfl 90 Tryz.zeroCells90 (aC i _) y.o ae.o M.o ?_)|(refine wpList_load_row rfl 90 _ rfl i.heap.size rfl 90 b.toArray (0,0) _ ad.o Tryz.underlying90 rfl y.o ?_)|(refine wpList_store_mid rfl 90 _ _ rfl d 0 b.toArray rfl rfl N.o y.o M.o ?_))
 go_ret
 obtain ⟨O,R⟩:∃ W,W=(i.alloc (.cells Tryz.zeroCells90 90)).setRow i.heap.size b.toArray:=⟨_,rfl⟩
 have J:=aa.o
 have f:=ac.o
 have Q:=N.o
 rw [<- R] at J f Q |-
 have hS:Fr [d] O (O.setCells d 0 b):=Fr.setCells d _ _ _ (r0 _ _) (.inl (by simp))
 have P:Fr [] i O:=by rw [R];exact ((r0 _ _).alloc _).setRow _ _ (.inr (Nat.le_refl _))
 have ai:=h.row.lt
 have hz:=h.z
 have aj:=B.size
 have V:c≠d:=by
  rcases X with e|e
  ·rw [e];exact fun e=>h.n1 e.symm
  omega
 have Y:(O.setCells d 0 b).rangeAt d 0 b:=World.rangeAt_setCells_same _ _ _ _ (by simpa using Q)
 have E:(O.setCells d 0 b).rangeAt d 0 (aQ K (.slice (so c) K.us.length a)):=by rw [<- ab.o];exact Y
 have C:=yM S u l2
 rw [HT.o] at C
 refine ⟨v,c,a,rfl,(J.mono (by simp)).trans hS (by simp),?_,X,?_⟩
 ·rw [HT.o]
  refine ⟨EX E,fun k=>?_,(r.fr P (by simp)).fr hS (by simp;exact V),Nat.le_trans C.len (by omega),?_,fun e=>V e.symm,hz.1,by omega⟩
  ·rw [World.frozen?_setCells];exact f.fz k
  have h1:=C.bs
  have h2:=countP_le_length (p:=aT 0) (l:=K.us)
  have h3:=countP_le_length (p:=aT 1) (l:=K.us)
  dsimp only at h1
  omega
 exact (D.fr P (by simp)).fr hS (by simp;exact af)
