import Derived.Test.YtapabahhfanmmaaGreatDoorCRefM
import Derived.Test.YtapabahhfanmmaaGreatDoorCRefK
namespace Go.Proofs.YtapabahhfanmmaaGreatDoor
open Go.RowKit List
set_option maxRecDepth 100000
set_option maxHeartbeats 2000000
def lT:Prop:=∀ (b c a:Nat) (t:T) (i:Nat) (u:U) (w:World),RG w b c a t->t.us[i]?=some u->TOk t->bD t.us=false->u.what=4 ->
  Cs 183 #[.pointer (so b),.int .i64 i] w fun e d=>e=.returned (.tuple #[])/\RStep w b c (dN t u) d
theorem tV (us:List U)(o:Int):(fJ us o).isSome=(bT us o).isSome:=by
 unfold fJ bT
 rw [Bool.eq_iff_iff]
 simp
theorem nC (us:List U):eO us=0↔bD us=false:=by
 unfold eO bD
 rw [tV,tV]
 cases (bT us 0).isSome <;> cases (bT us 1).isSome <;> simp
theorem RStep.same {w e:World}{c b a:Nat}{t:T}(h:RG w c b a t)(d:Fr [] w e):RStep w c b t e:=⟨b,a,h.fr0 d,d.of0,.inl rfl⟩
theorem RStep.after {w g f:World}{c e:Nat}{t:T}(d:Fr [] w g)(h:RStep g c e t f):RStep w c e t f:=by
 obtain ⟨b,a,h1,i,j⟩:=h.h
 exact ⟨b,a,h1,d.of0.trans i (by simp),j.imp id (fun x=>Nat.le_trans d.size x)⟩
theorem PV (P:lT)(j f b:Nat)(t:T)(id:Int)(w:World)(h:RG w j f b t)(Q:TOk t)(V:OS t) :
  Cs 135 #[.pointer (so j),.int .i64 id] w fun e w'=>e=.returned (.tuple #[])/\RStep w j f (gS t id) w':=by
 have E:=lN j f b t.us id w h.gv
 have K:=mX j f b t.us w h.gv
 obtain ⟨R,hR⟩:∃ R:T,R=gS t id:=⟨_,rfl⟩
 rw [<- hR]
 have HR:=aA hR
 have N:=aA h
 have d:=aA Q
 have O:=aA V
 have aa:=aA P
 have af:=h.len
 clear hR h Q V P
 cases L:bQ t.us id with
 | none =>
  rw [L] at E
  have r:Hi (R=t):=by show _=_;rw [HR.o];unfold gS eY;rw [L];simp
  go_enter Tryz.func135,Tryz.ntmps135
  go_wp2_with fail
  refine Calls.mono E ?_
  rintro e X ⟨rfl,rfl⟩
  dsimp only [gH]
  clear E K
  go_wp2_with fail
  exact bodyPost_ret (v:=.tuple #[]) (results_none rfl _ _ _) rfl ⟨rfl,by rw [r.o];exact RStep.same N.o (r0 _ _)⟩
 | some i =>
  obtain ⟨u,hi,-⟩:=iV L
  rw [L] at E
  have aj:=(gs.1 hi).1
  have ae:(i:Int) < (t.us.length:Int):=by omega
  have ai:¬ (i:Int) < 0:=by omega
  by_cases n:bD t.us=true
  ·have r:Hi (R=t):=by show _=_;rw [HR.o];unfold gS;rw [if_pos n]
   have ac:(eO t.us != 0)=true:=by
    have:eO t.us≠0:=fun e=>by rw [(nC _).1 e] at n;cases n
    simpa using this
   obtain ⟨ak,ab⟩:∃ x,eO t.us=x:=⟨_,rfl⟩
   rw [ab] at K ac
   go_enter Tryz.func135,Tryz.ntmps135
   go_wp2_with fail
   refine Calls.mono E ?_
   rintro e X ⟨rfl,rfl⟩
   dsimp only [gH]
   clear E
   go_wp2_with fail
   refine Calls.mono K ?_
   rintro e X ⟨rfl,z⟩
   go_wp2_with fail
   exact bodyPost_ret (v:=.tuple #[]) (results_none rfl _ _ _) rfl ⟨rfl,by rw [r.o];exact RStep.same N.o z⟩
  have D:bD t.us=false:=by simpa using n
  have r:Hi (R=dN t u):=by show _=_;rw [HR.o];unfold gS eY;rw [if_neg n,L];dsimp only;rw [hi]
  rw [(nC _).2 D] at K
  have hu:=d.o.all u (mem_of_getElem? hi)
  have m:=hu.od
  have q:=aA hi
  have HU:=aA hu
  clear L hi n
  go_enter Tryz.func135,Tryz.ntmps135
  go_wp2_with fail
  refine Calls.mono E ?_
  rintro e X ⟨rfl,rfl⟩
  dsimp only [gH]
  clear E
  go_wp2_with fail
  refine Calls.mono K ?_
  rintro e X ⟨rfl,z⟩
  clear K
  have I:=N.o.fr0 z
  have ah:=I.c148
  obtain ⟨c0,c1,c2,c3,c4,c5,c6,c7,c8,c9,ag⟩:=I.gv.p.at q.o
  obtain ⟨W3,H⟩:∃ W,W=X.alloc (.cells u.arr 85):=⟨_,rfl⟩
  have g:Fr [] w W3:=by rw [H];exact z.alloc _
  have k:=(show Hi _ from N.o.fr0 g)
  have l:=aA H
  clear H I
  rcases (show u.what=0\/u.what=1\/u.what=2\/u.what=3\/u.what=4 by unfold iQ at m;omega) with hw|hw|hw|hw|hw
  ·have M:Hi (dN t u=t):=by
    show _=_
    have:cK t u=(u,t):=by unfold cK;simp [hw]
    unfold dN
    rw [this]
    exact jI d.o.rise q.o
   have e1:(u.what==1)=false:=by simp;omega
   have e2:(u.what==2)=false:=by simp;omega
   have e3:(u.what==3)=false:=by simp;omega
   have e4:(u.what==4)=false:=by simp;omega
   clear m hw
   go_wp2_with fail
   exact bodyPost_end (v:=.tuple #[]) (results_none rfl _ _ _) rfl ⟨rfl,by rw [r.o,M.o];exact RStep.same N.o (z.alloc _)⟩
  ·have M:Hi (dN t u=cD (eZ t u).2 (eZ t u).1):=by show _=_;unfold dN cK;simp [hw]
   obtain ⟨m0,m1,m2,m3⟩:0<=u.tox/\u.tox < 12/\0<=u.toy/\u.toy < 12:=by
    rcases O.o u (mem_of_getElem? q.o) with ⟨a,_⟩|⟨_,a,_⟩|⟨a,_⟩|⟨a,_⟩
    ·omega
    ·exact bM.1 a
    ·omega
    omega
   have e1:(u.what==1)=true:=by simp;omega
   have e2:(u.what==2)=false:=by simp;omega
   have e3:(u.what==3)=false:=by simp;omega
   have e4:(u.what==4)=false:=by simp;omega
   clear m hw
   by_cases hx:(u.x==u.tox&&u.y==u.toy)=true
   ·have J:(u.x==u.tox)=true:=by simp at hx;simpa using hx.1
    have ad:(u.y==u.toy)=true:=by simp at hx;simpa using hx.2
    have HM:Hi (eZ t u=(u.idle,t)):=by show _=_;unfold eZ;rw [if_pos hx]
    clear hx
    go_wp2_with fail
    rw [<- l.o]
    refine Calls.mono (mV j f b t i u _ k.o q.o) ?_
    rintro e Y ⟨rfl,B,A⟩
    go_wp2_with fail
    refine bodyPost_ret (v:=.tuple #[]) (results_none rfl _ _ _) rfl ⟨rfl,?_⟩
    rw [r.o,M.o,HM.o]
    exact ⟨f,b,RG.idled d.o q.o B,(g.of0 (S:=[j,f])).trans A (by simp),.inl rfl⟩
   have HM:Hi (eZ t u=(u.to (cE t u fun c=>c.1==u.tox&&c.2==u.toy),t.moved u (cE t u fun c=>c.1==u.tox&&c.2==u.toy))):=by show _=_;unfold eZ;rw [if_neg hx]
   have HX:Hi ((u.x==u.tox&&u.y==u.toy)=false):=by show _=_;simpa using hx
   by_cases J:(u.x==u.tox)=true
   ·have ad:(u.y==u.toy)=false:=by
     have:=HX.o
     rw [J] at this
     simpa using this
    clear hx
    go_wp2_with fail
    rw [<- l.o]
    refine Calls.mono (mW j f b t i u u.tox u.toy true _ k.o q.o HU.o.on (by omega) (by omega) (by omega) (by omega)) ?_
    rintro e Y ⟨rfl,F,hX,B,A⟩
    go_wp2_with fail
    refine bodyPost_end (v:=.tuple #[]) (results_none rfl _ _ _) rfl ⟨rfl,?_⟩
    rw [r.o,M.o,HM.o]
    exact ⟨f,b,RG.went (x:=u.tox) (y:=u.toy) (onto:=true) d.o q.o (fun c=>rfl) HX.o hX B,(g.of0 (S:=[j,f])).trans A (by simp),.inl rfl⟩
   simp only [Bool.not_eq_true] at J
   clear hx
   go_wp2_with fail
   rw [<- l.o]
   refine Calls.mono (mW j f b t i u u.tox u.toy true _ k.o q.o HU.o.on (by omega) (by omega) (by omega) (by omega)) ?_
   rintro e Y ⟨rfl,F,hX,B,A⟩
   go_wp2_with fail
   refine bodyPost_end (v:=.tuple #[]) (results_none rfl _ _ _) rfl ⟨rfl,?_⟩
   rw [r.o,M.o,HM.o]
   exact ⟨f,b,RG.went (x:=u.tox) (y:=u.toy) (onto:=true) d.o q.o (fun c=>rfl) HX.o hX B,(g.of0 (S:=[j,f])).trans A (by simp),.inl rfl⟩
  ·have s:=aA hw
   have e1:(u.what==1)=false:=by simp;omega
   have e2:(u.what==2)=true:=by simp;omega
   have e3:(u.what==3)=false:=by simp;omega
   have e4:(u.what==4)=false:=by simp;omega
   clear m hw
   go_wp2_with fail
   rw [<- l.o]
   refine Calls.mono (QH j f b t i u _ k.o q.o d.o O.o D s.o) ?_
   rintro e Y ⟨rfl,C⟩
   go_wp2_with fail
   exact bodyPost_end (v:=.tuple #[]) (results_none rfl _ _ _) rfl ⟨rfl,by rw [r.o];exact RStep.after g C⟩
  ·have s:=aA hw
   have e1:(u.what==1)=false:=by simp;omega
   have e2:(u.what==2)=false:=by simp;omega
   have e3:(u.what==3)=true:=by simp;omega
   have e4:(u.what==4)=false:=by simp;omega
   clear m hw
   go_wp2_with fail
   rw [<- l.o]
   refine Calls.mono (QF j f b t i u _ k.o q.o d.o D s.o) ?_
   rintro e Y ⟨rfl,C⟩
   go_wp2_with fail
   exact bodyPost_end (v:=.tuple #[]) (results_none rfl _ _ _) rfl ⟨rfl,by rw [r.o];exact RStep.after g C⟩
  have s:=aA hw
  have e1:(u.what==1)=false:=by simp;omega
  have e2:(u.what==2)=false:=by simp;omega
  have e3:(u.what==3)=false:=by simp;omega
  have e4:(u.what==4)=true:=by simp;omega
  clear m hw
  go_wp2_with fail
  rw [<- l.o]
  refine Calls.mono (aa.o j f b t i u _ k.o q.o d.o D s.o) ?_
  rintro e Y ⟨rfl,C⟩
  go_wp2_with fail
  exact bodyPost_end (v:=.tuple #[]) (results_none rfl _ _ _) rfl ⟨rfl,by rw [r.o];exact RStep.after g C⟩
theorem oV (K P s:Nat)(t:T)(p:Int)(l:List Cm)(lv:Value)(w:World)(h:RG w K P s t)(D:eO t.us≠0\/1000000000<=t.turn)(hl:CmdW w lv l P)(ai:l.length<=2000000) :
  Cs 134 #[.pointer (so K),.int .i64 p,lv] w fun e w'=>∃ v,e=.returned v/\RCmd w K P s t (range l.length) v w':=by
 obtain ⟨ag,aa,ad,ae,af⟩:=info_parts oD
 obtain ⟨J,Q,rfl⟩:∃ J Q,lv=.slice J l.length Q:=by
  rcases hl with ⟨J,Q,rfl,rfl⟩|⟨H,I,Q,rfl,_⟩
  ·exact ⟨_,_,rfl⟩
  exact ⟨_,_,rfl⟩
 have HL:=aA hl
 have al:=h.pl
 have ak:=h.lt
 have S:=aA h
 have X:=mX K P s t.us w h.gv
 obtain ⟨q,hq⟩:∃ q,eO t.us=q:=⟨_,rfl⟩
 rw [hq] at X D
 clear h hl hq
 go_enter Tryz.func134,Tryz.ntmps134
 go_wp2_with fail
 refine Calls.mono X ?_
 rintro e w1 ⟨rfl,M⟩
 have B:=S.o.fr0 M
 have an:=B.c0
 have aj:=aA B
 clear X B
 have L:(q=0/\1000000000<=t.turn)\/(q != 0)=true:=by
  by_cases E:q=0
  ·exact .inl ⟨E,by
    rcases D with h1|h1
    ·exact absurd E h1
    exact h1⟩
  exact .inr (by simpa using E)
 clear D
 rcases L with ⟨rfl,ap⟩|am
 all_goals
  go_wp2_with fail
  go_loopw [7,9] (fun v i wr=>∃ k:Nat,k<=l.length/\i=.int .i64 k/\wr.ownsRow w.heap.size 3 1 v (range k).length (ints (range k))/\Fr [] w wr) (fun _ i _=>l.length - (intOf i).toNat)
  case atStart=>exact ⟨0,Nat.zero_le _,rfl,⟨rfl,.inl ⟨rfl,rfl⟩⟩,M⟩
  obtain ⟨k,hk,rfl,hown,d⟩:=hrel
  by_cases f:k < l.length
  ·have O:(k:Int) < (l.length:Int):=by omega
   obtain ⟨c,Y⟩:∃ c,l[k]?=some c:=⟨l[k],getElem?_eq_getElem f⟩
   obtain ⟨H,I,rfl,A⟩:∃ H I,J=some ⟨H,I,none⟩/\w.cell? ⟨H,I+k*5,none⟩=some (ii c.unit):=by
    rcases HL.o with ⟨J,ah,e1,e2⟩|⟨H,I,ah,e1,h2,h3⟩
    ·rw [e2] at f;simp at f
    refine ⟨H,I,by simpa using congrArg (fun v:Value=>match v with|.slice a _ _=>a|_=>none) e1,?_⟩
    have:=h3 k f
    rw [getElem?_eq_getElem f] at Y
    rw [Option.some.inj Y] at this
    exact this 0 _ rfl
   have c0:=(d.cell _ _ (aI A) (by simp)).trans A
   have z:=lN K P s t.us c.unit wr (S.o.fr0 d).gv
   have HO:=aA hown
   have aq:=d.size
   have HN:Hi (∀ (W:World) (j:Nat) (u:Value),[ii (k:Int)][j]?=some u->(W.alloc (.cells #[.int .i64 k] 3)).cell? ((⟨W.heap.size,0,none⟩:Addr).add j)=some u):=by
    intro W j u hu
    have hj:j=0:=by
     have:=(gs.1 hu).1
     simp at this
     exact this
    subst hj
    rw [Addr.add_lit,aB (aC W _)]
    simpa using hu
   have R:Hi (∀ b,u7.ownBlock=some b->w.heap.size<=b):=fun b hb=>cG HO.o hb
   have n:Hi ((wr.alloc (.cells #[.int .i64 k] 3)).ownsRow w.heap.size 3 1 u7 (range k).length (ints (range k))):=aF HO.o ((r0 [] wr).alloc _) (by simp)
   have ac:(range k).length=k:=length_range
   obtain ⟨rk,F⟩:∃ r,r=range k:=⟨_,rfl⟩
   rw [<- F] at n ac
   have V:=aA F
   obtain ⟨pl,y⟩:∃ x,gH (bQ t.us c.unit)=x:=⟨_,rfl⟩
   rw [y] at z
   clear hown Y A F y
   go_wp2_with fail
   refine Calls.mono z ?_
   rintro e w2 ⟨rfl,rfl⟩
   clear z
   go_wp2_with (at_builtin;refine wpList_append_own _ rfl _ _ 25 rfl w.heap.size 3 ag (ii 0) 1 8 Tryz.underlying25 aa ad ae af rfl (by decide) u7 rk.length (ints rk) rfl n.o ⟨wr.heap.size,0,none⟩ 1 1 [ii (k:Int)] rfl rfl (HN.o wr) (by simp [Value.oneCell']) (by unfold maxLen;omega) (by omega) (by simp;omega) ?_;intro v' w3 m C ab)
   go_roundw
   case rel =>
    refine ⟨k+1,f,by go_num,?_,(d.alloc _).grow C (fun g hg=>.inr (R.o g hg))⟩
    rw [V.o] at m
    rw [range_succ,length_append]
    simpa using m
   case measure=>simp [intOf];omega
  have O:¬ (k:Int) < (l.length:Int):=by omega
  have N:k=l.length:=by omega
  have n:Hi (wr.ownsRow w.heap.size 3 1 u7 (range l.length).length (ints (range l.length))):=by rw [<- N];exact hown
  clear hown N
  go_wp2_with fail
  go_ret
  exact ⟨u7,rfl,S.o.fr0 d,n.o,d.of0⟩
set_option maxRecDepth 100000
theorem CmdW.fr {w k:World}{v:Value}{l:List Cm}{d a:Nat}{S:List Nat}(h:CmdW w v l d)(n:Fr S w k)(m:∀ b,b < w.heap.size->b≠d->b∉S)(g:a=d\/w.heap.size<=a):CmdW k v l a:=by
 rcases h with h|⟨o,q,p,h1,e,f⟩
 ·exact .inl h
 by_cases hl:l.length=0
 ·exact .inl ⟨_,_,by rw [h1,hl],length_eq_zero_iff.1 hl⟩
 refine .inr ⟨o,q,p,h1,?_,fun i hi j x hx=>?_⟩
 ·rcases g with rfl|g
  ·exact e
  have:=aI (f 0 (by omega) 0 _ rfl)
  omega
 have c:=f i hi j x hx
 rw [n.cell _ _ (aI c) (m _ (aI c) e)]
 exact c
structure RPlay (w:World) (gb pb:Nat) (t:T) (a b:List Nat) (v:Value) (w':World):Prop where
 st:RStep w gb pb t w'
 refs:Refs w' w.heap.size v a b
structure RLoop (W:World) (gb pb:Nat) (tf:T) (n0 id:Int) (wr:World):Prop where
  h:∃ t pb' cap',RH tf n0 id t/\RG wr gb pb' cap' t/\Fr [gb,pb] W wr/\(pb'=pb\/W.heap.size<=pb')
theorem PW (m:lT)(i o:Nat)(u:T)(n id:Int)(W wr:World)(h:RLoop W i o u n id wr)(aA:id < n) :
  Cs 135 #[.pointer (so i),.int .i64 id] wr fun e r=>e=.returned (.tuple #[])/\∃ k c d a,RH u n a k/\id < a/\dU id k.us k.next=a/\RG r i c d k/\Fr [i,o] W r/\(c=o\/W.heap.size<=c):=by
 obtain ⟨t,p,f,h1,x,s,j⟩:=h.h
 refine (PV m i p f t id wr x h1.ok h1.os).mono fun e r ⟨y,hs⟩=>⟨y,?_⟩
 obtain ⟨q,g,v,w,l⟩:=hs.h
 obtain ⟨z,A⟩:=h1.next aA
 refine ⟨gS t id,q,g,_,z,A,rfl,v,s.trans w ?_,?_⟩
 ·intro b hb
  simp at hb
  rcases hb with rfl|rfl
  ·exact .inl (by simp)
  rcases j with rfl|j
  ·exact .inl (by simp)
  exact .inr j
 rcases l with rfl|l
 ·exact j
 exact .inr (Nat.le_trans s.size l)
theorem zL (N:lT) (c f m:Nat) (t0 l q:T) (a b:List Nat) (X Y:Value) (w:World) (Zq:c < w.heap.size) (Zr:f < w.heap.size)
  (C0:Cs 134 #[.pointer (so c),.int .i64 0,X] w fun e w'=>∃ v,e=.returned v/\RCmd w c f m t0 a v w')
  (C1:∀ B,Fr [f] w B->RG B c f m t0->Cs 134 #[.pointer (so c),.int .i64 1,Y] B fun e w'=>∃ v,e=.returned v/\RCmd B c f m l b v w')
  (aw:0<=l.turn/\l.turn < 1000000000) (P:RH q l.next 1 l) (r:q.turn=l.turn) :
  Cs 95 #[.pointer (so c),X,Y] w fun e w'=>∃ v,e=.returned v/\RPlay w c f { q with turn:=q.turn+1 } a b v w':=by
 have ab:=(show Hi _ from C1)
 have ah:=(show Hi _ from P)
 have ac:=(show Hi _ from r)
 have aa:=(show Hi _ from N)
 clear C1 P r N
 go_enter Tryz.func95,Tryz.ntmps95
 go_wp2_with fail
 refine Calls.mono C0 ?_
 rintro e B ⟨v0,rfl,g⟩
 clear C0
 go_wp2_with fail
 refine Calls.mono (ab.o B g.fr g.rg) ?_
 rintro e w2 ⟨v1,rfl,d⟩
 have z:=(show Hi _ from g)
 have E:=(show Hi _ from d)
 obtain ⟨H,k0,c0,rfl⟩:=iU g.own
 obtain ⟨I,k1,c1,rfl⟩:=iU d.own
 obtain ⟨u,n⟩:∃ W,W=w2.alloc (.cells #[.slice H k0 c0,.slice I k1 c1] 25):=⟨_,rfl⟩
 have F:=(show Hi _ from n)
 have s:RG u c f m l:=by rw [n];exact d.rg.fr0 ((r0 _ _).alloc _)
 have an:=s.c0
 have ak:=s.c147
 have am:=d.rg.c0
 have aj:=d.rg.c147
 have aq:¬ 1000000000<=l.turn:=by omega
 have ad:=(show Hi _ from s)
 have ap:=d.rg.lt
 have R:Fr [f] w w2:=g.fr.trans d.fr (by simp)
 have S:Fr [f] w u:=by rw [n];exact R.alloc _
 have al:=g.fr.size
 have O:u.heap[w2.heap.size]?=some (.cells #[.slice H k0 c0,.slice I k1 c1] 25):=by rw [n];exact aC _ _
 have Q:=R.size
 clear n s g d an ak
 go_wp2_with fail
 rw [<- F.o]
 clear am aj
 go_loopw [11] (fun i wr=>∃ id:Int,i=.int .i64 id/\RLoop u c f q l.next id wr) (fun i _=>(l.next - intOf i).toNat)
 case atStart=>exact ⟨1,rfl,l,f,m,ah.o,ad.o,r0 _ _,.inl rfl⟩
 obtain ⟨id,rfl,hL⟩:=hrel
 by_cases aA:id < l.next
 ·go_wp2_with fail
  refine Calls.mono (PW aa.o c f q l.next id u wr hL aA) ?_
  rintro e w4 ⟨rfl,t',t,j,V,J,K,L,A,g5,g6⟩
  have hA:=PU c t j t' id w4 A
  rw [L] at hA
  have af:Hi (∀ w5,Fr [] w4 w5->RLoop u c f q l.next V w5):=fun w5 hf=>⟨t',t,j,J,A.fr0 hf,g5.then0 hf,g6⟩
  clear J L A g5 g6 hL
  go_wp2_with fail
  refine Calls.mono hA ?_
  rintro e w5 ⟨rfl,ai⟩
  go_wp2_with fail
  go_roundw
  case rel=>exact ⟨V,rfl,af.o _ ai⟩
  case measure=>simp [intOf];omega
 obtain ⟨t',t,j,J,K,L,A⟩:=hL.h
 have ao:=J.last (by omega)
 subst ao
 have au:=K.c0
 have ar:=K.fz 0
 have r:=ac.o
 have av:0<=q.turn/\q.turn < 1000000000:=by omega
 have ae:=(show Hi _ from K)
 have C:=(show Hi _ from L)
 have D:=(show Hi _ from A)
 have ag:=(show Hi _ from O)
 clear J K L A hL r O
 go_wp2_with fail
 go_ret
 have M:=S.size
 have k:Fr [c,f] u (wr.setCell ⟨c,0,none⟩ (.int .i64 (q.turn+1))):=C.o.setCell _ _ (.inl (by simp))
 have p:∀ x,w.heap.size<=x->x∉[c,f]:=fun x hx=>by simp;omega
 have y:Fr [] w2 u:=by rw [F.o];exact (r0 _ _).alloc _
 refine ⟨_,rfl,⟨⟨t,j,ae.o.setTn (q.turn+1),(S.mono (S':=[c,f]) (by simp)).trans k (by simp),D.o.imp (fun x=>x) (fun x=>Nat.le_trans M x)⟩⟩,⟨w2.heap.size,2,_,_,rfl,k.heap ag.o (p _ Q),Q,?_,?_⟩⟩
 ·have q1:=aF z.o.own E.o.fr (fun x hx=>by have:=cG z.o.own hx;simp;omega)
  have q2:=aF q1 y (by simp)
  exact aF q2 k (fun x hx=>p x (cG z.o.own hx))
 have q1:=iF E.o.own al
 have q2:=aF q1 y (by simp)
 exact aF q2 k (fun x hx=>p x (cG q1 hx))
theorem QM (j g h:Nat) (t:T) (a b:List Nat) (r s:Value) (w:World) (O:g < w.heap.size) (Q:1000000000<=t.turn)
  (H:Cs 134 #[.pointer (so j),.int .i64 0,r] w fun e u=>∃ v,e=.returned v/\RCmd w j g h t a v u)
  (I:∀ l,Fr [g] w l->RG l j g h t->Cs 134 #[.pointer (so j),.int .i64 1,s] l fun e u=>∃ v,e=.returned v/\RCmd l j g h t b v u) :
  Cs 95 #[.pointer (so j),r,s] w fun e u=>∃ v,e=.returned v/\RPlay w j g t a b v u:=by
 have z:=aA I
 clear I
 go_enter Tryz.func95,Tryz.ntmps95
 go_wp2_with fail
 refine Calls.mono H ?_
 rintro e l ⟨R,rfl,c⟩
 clear H
 go_wp2_with fail
 refine Calls.mono (z.o l c.fr c.rg) ?_
 rintro e y ⟨S,rfl,d⟩
 have m:=aA c
 have k:=aA d
 obtain ⟨n,M,J,rfl⟩:=iU c.own
 obtain ⟨p,N,K,rfl⟩:=iU d.own
 have P:=d.rg.c0
 have L:=d.rg.lt
 have q:Fr [g] w y:=c.fr.trans d.fr (by simp)
 have D:=c.fr.size
 have C:=q.size
 clear c d
 go_wp2_with fail
 go_ret
 obtain ⟨A,i⟩:∃ W,W=y.alloc (.cells #[.slice n M J,.slice p N K] 25):=⟨_,rfl⟩
 have E:Fr [g] w A:=by rw [i];exact q.alloc _
 have B:A.heap[y.heap.size]?=some (.cells #[.slice n M J,.slice p N K] 25):=by rw [i];exact aC _ _
 have f:Fr [] y A:=by rw [i];exact (r0 _ _).alloc _
 rw [<- i]
 refine ⟨_,rfl,⟨⟨g,h,k.o.rg.fr0 f,E.mono (S':=[j,g]) (by simp),.inl rfl⟩⟩,⟨y.heap.size,2,_,_,rfl,B,C,?_,?_⟩⟩
 ·have F:=aF m.o.own k.o.fr (fun x hx=>by have:=cG m.o.own hx;simp;omega)
  exact aF F f (by simp)
 have F:=iF k.o.own D
 exact aF F f (by simp)
theorem zK (A:lT)(k g c:Nat)(t:T)(a l2:List Cm)(f d:Value)(w:World)(h:RG w k g c t)(F:fI t)(H:OS t)(R:0<=t.turn)(h1:CmdW w f a g)(P:CmdW w d l2 g)(q:a.length<=2000000)(r:l2.length<=2000000) :
  Cs 95 #[.pointer (so k),f,d] w fun e L=>∃ v,e=.returned v/\RPlay w k g (aM t a l2).1 (aM t a l2).2.1 (aM t a l2).2.2 v L:=by
 have hb:RG w k g c (cO t):=h.of rfl rfl rfl rfl rfl rfl
 have j:TOk (cO t):=F
 have n:OS (cO t):=H
 have o:∀ m,Fr [g] w m->CmdW m d l2 g:=fun m p=>P.fr p (fun b _ hn=>by simpa using hn) (.inl rfl)
 by_cases i:1000000000<=t.turn
 ·have E:aM t a l2=(t,range a.length,range l2.length):=by
   unfold aM
   rw [if_pos i]
  rw [E]
  exact QM k g c t _ _ f d w h.pl i (oV k g c t 0 a f w h (.inr i) h1 q) (fun m p B=>oV k g c t 1 l2 d m B (.inr i) (o m p) r)
 have ht:0<=t.turn/\t.turn < 1000000000:=by omega
 by_cases l:bD t.us=true
 ·have s:aM t a l2=({ t with turn:=t.turn+1 },range a.length,range l2.length):=by
   unfold aM
   rw [if_neg (by omega),if_pos l]
  rw [s]
  have D:eO t.us≠0:=fun e=>by rw [(nC _).1 e] at l;cases l
  refine (zL A k g c (cO t) (cO t) (cO t) _ _ f d w h.lt h.pl (oV k g c (cO t) 0 a f w hb (.inl D) h1 q) (fun m p B=>oV k g c (cO t) 1 l2 d m B (.inl D) (o m p) r) ht (RH.over j n l) rfl).mono fun e L ⟨v,Q,E⟩=>⟨v,Q,?_⟩
  obtain ⟨I,y,u,M,N⟩:=E.st.h
  exact ⟨⟨I,y,u.of rfl rfl rfl rfl rfl rfl,M,N⟩,E.refs⟩
 have C:bD t.us=false:=by simpa using l
 have s:aM t a l2=({ eQ (aW 1 0 l2 (aW 0 0 a (cO t)).2).2.us (aW 1 0 l2 (aW 0 0 a (cO t)).2).2 with turn:=(eQ (aW 1 0 l2 (aW 0 0 a (cO t)).2).2.us (aW 1 0 l2 (aW 0 0 a (cO t)).2).2).turn+1 },(aW 0 0 a (cO t)).1,(aW 1 0 l2 (aW 0 0 a (cO t)).2).1):=by
  unfold aM
  rw [if_neg (by omega),if_neg l]
 rw [s]
 obtain ⟨z,S⟩:=iZ 0 (fun _=>False) a 0 j (fun _ x=>x)
 obtain ⟨u,o1⟩:=iZ 1 (fun _=>False) l2 0 z.ok (fun _ x=>x)
 have V:=mB 0 a 0 j n
 have W:=mB 1 l2 0 z.ok V
 have J:bD (aW 0 0 a (cO t)).2.us=false:=by rw [S];exact C
 have K:bD (aW 1 0 l2 (aW 0 0 a (cO t)).2).2.us=false:=by rw [o1];exact J
 have t1:(aW 1 0 l2 (aW 0 0 a (cO t)).2).2.turn=t.turn:=u.tn.trans z.tn
 have O:=nI (aW 1 0 l2 (aW 0 0 a (cO t)).2).2.us u.ok K (rZ u.ok.rise)
 exact zL A k g c _ _ _ _ _ f d w h.lt h.pl (zE k g c (cO t) 0 a f w hb j ((nC _).2 C) ht.2 h1 q) (fun m p B=>zE k g c _ 1 l2 d m B z.ok ((nC _).2 J) (by rw [z.tn];exact ht.2) (o m p) r) (by rw [t1];exact ht) (RH.first u.ok W K) O.tn
