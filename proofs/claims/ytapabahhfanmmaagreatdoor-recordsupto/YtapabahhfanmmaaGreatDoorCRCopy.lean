import Derived.Test.YtapabahhfanmmaaGreatDoorCMade
import Derived.Test.YtapabahhfanmmaaGreatDoorCStoreI
import Derived.Test.YtapabahhfanmmaaGreatDoorCLaw2
import Derived.Test.YtapabahhfanmmaaGreatDoorCRefN
namespace Go.Proofs.YtapabahhfanmmaaGreatDoor
open Go.RowKit List
set_option maxRecDepth 100000
set_option maxHeartbeats 2000000
set_option maxRecDepth 100000
structure YR (w:World) (yb gb qb cap:Nat) (t:T) (log:List UInt8):Prop where
 h:w.heap[yb]?=some (.cells #[.pointer (so gb),sv log] 141)
 rg:RG w gb qb cap t
theorem YR.fr {S:List Nat}{w g:World}{e c d a:Nat}{t:T}{b:List UInt8}(h:YR w e c d a t b)(f:Fr S w g)(h1:e∉S)(i:c∉S)(j:d∉S):YR g e c d a t b:=⟨f.heap h.h h1,h.rg.fr f i j⟩
theorem YR.fr0 {w e:World}{f c d a:Nat}{t:T}{b:List UInt8}(h:YR w f c d a t b)(g:Fr [] w e):YR e f c d a t b:=h.fr g (by simp) (by simp) (by simp)
theorem YR.put {w:World}{a c e b:Nat}{t:T}{d l2:List UInt8}(h:YR w a c e b t d)(hn:a≠c/\a≠e):YR (w.setCell ⟨a,1,none⟩ (sv l2)) a c e b t l2 :=
  ⟨by rw [iN h.h];rfl,h.rg.fr ((r0 [a] w).setCell _ _ (by simp)) (by simp;omega) (by simp;omega)⟩
theorem zG (c f m d:Nat)(t:T)(j:List UInt8)(w:World)(h:YR w c f m d t j)(hn:c≠f/\c≠m)(a:GG t)(ht:t.turn<=1000000000) :
  Cs 64 #[.pointer (so c)] w fun e b=>e=.returned (.tuple #[])/\YR b c f m d t (bU 2 (bH t))/\Fr [c] w b:=by
 have s:=pI a ht
 have q:Hi (Cs 57 #[.pointer (so f)] w fun e b=>e=.returned (.string ⟨(bH t).toArray⟩)/\Fr [] w b):=oY f m d t w h.rg a.ok a.os ⟨a.t0,ht⟩
 have r:Hi (∀ w,Cs 107 #[.int .i64 2,.string ⟨(bH t).toArray⟩] w fun e b=>e=.returned (.string ⟨(bU 2 (bH t)).toArray⟩)/\Fr [] w b):=fun w=>zH 2 (by omega) (bH t) (by omega) w
 have C:ca w c 0 (.pointer (so f)):=aB h.h
 have B:Hi (∀ b,Fr [] w b->YR b c f m d t j):=fun b p=>h.fr0 p
 have z:=aA hn
 obtain ⟨F,i⟩:∃ x:ByteArray,x=⟨(bH t).toArray⟩:=⟨_,rfl⟩
 obtain ⟨y,g⟩:∃ x,x=bU 2 (bH t):=⟨_,rfl⟩
 rw [<- i] at q
 rw [<- i,<- g] at r
 rw [<- g]
 have D:=aH h.h
 clear i g h a hn s
 go_enter Tryz.func64,Tryz.ntmps64
 go_wp2_with fail
 refine Calls.mono q.o ?_
 rintro e E ⟨rfl,k⟩
 clear q C
 go_wp2_with fail
 refine Calls.mono (r.o E) ?_
 rintro e u ⟨rfl,l⟩
 have p:=k.then0 l
 have n:=B.o u p
 have H:ca u c 1 (sv j):=aB n.h
 have I:u.frozen? ⟨c,1,none⟩=false:=bI n.h
 have A:=(show Hi _ from n.put (l2:=y) z.o)
 clear n r k l
 go_wp2_with fail
 exact bodyPost_end (v:=.tuple #[]) (results_none rfl _ _ _) rfl ⟨rfl,A.o,p.of0.setCell _ _ (by simp)⟩
theorem PY (a:ByteArray)(w:World) :
  Cs 60 #[.string a] w fun e i=>((dS a/\∃ q b n c,e=.returned (.tuple #[.pointer (so q),.int .i64 0])/\YR i q b n c (bP a) (bU 2 (bH (bP a)))/\w.heap.size<=q/\w.heap.size<=b/\w.heap.size<=n/\q≠b/\q≠n)\/(¬ dS a/\e=.returned (.tuple #[.pointer none,.int .i64 1])))/\Fr [] w i:=by
 have z:Hi (∀ w,Cs 51 #[.string a] w fun e i=>((dS a/\∃ b y c,e=.returned (.tuple #[.pointer (so b),.int .i64 0])/\RG i b y c (bP a)/\w.heap.size<=b/\w.heap.size<=y)\/(¬ dS a/\e=.returned (.tuple #[.pointer none,.int .i64 1])))/\Fr [] w i):=fun w=>(QJ a w).mono (fun e i h=>⟨h.h,h.fr⟩)
 go_enter Tryz.func60,Tryz.ntmps60
 go_wp2_with fail
 refine Calls.mono (z.o w) ?_
 rintro e p ⟨⟨g,b,n,c,rfl,d,D,E⟩|⟨m,rfl⟩,f⟩
 ·have B:=d.lt
  have C:=d.row.lt
  have v:=aC p (.cells #[.pointer (so b),.string ⟨#[]⟩] 141)
  have k:Fr [] p (p.alloc (.cells #[.pointer (so b),.string ⟨#[]⟩] 141)):=(r0 _ _).alloc _
  have l:=zG p.heap.size b n c (bP a) [] (p.alloc (.cells #[.pointer (so b),.string ⟨#[]⟩] 141)) ⟨v,d.fr0 k⟩ ⟨by omega,by omega⟩ ⟨rF a g,rG a,by show (0:Int)<=0;omega⟩ (by show (0:Int)<=_;omega)
  have j:=aA l
  have s:=aA g
  clear l d g v
  go_wp2_with fail
  refine Calls.mono j.o ?_
  rintro e F ⟨rfl,x,t⟩
  have A:=aA x
  clear x j
  go_wp2_with fail
  go_ret2
  have u:=f.size
  exact ⟨.inl ⟨s.o,_,_,_,_,rfl,A.o,u,D,E,by omega,by omega⟩,(f.then0 k).trans t (by simp;omega)⟩
 dsimp only
 have r:=aA m
 clear m
 go_wp2_with fail
 go_ret2
 exact ⟨.inr ⟨r.o,rfl⟩,f⟩
def gM (n:Int):Bool:=decide (0<=n)&&decide (n<=1000000000)
theorem mT (n:Int)(w:World):Cs 186 #[.int .i64 n] w fun e b=>e=.returned (.bool (gM n))/\w=b:=by
 unfold gM
 by_cases h1:0<=n
 ·by_cases a:n<=1000000000
  ·go_enter Tryz.func186,Tryz.ntmps186
   go_wp2_with fail
   go_ret
   exact ⟨by simp [h1,a],rfl⟩
  go_enter Tryz.func186,Tryz.ntmps186
  go_wp2_with fail
  go_ret
  exact ⟨by simp;omega,rfl⟩
 go_enter Tryz.func186,Tryz.ntmps186
 go_wp2_with fail
 go_ret
 exact ⟨by simp;omega,rfl⟩
theorem VB (c:Cm):aE c=if (gM c.unit&&(gM c.what&&(gM c.x&&(gM c.y&&gM c.target))))=true then c else ⟨0,0,0,0,0⟩:=by
 have j:0<=lF c↔((((0<=c.unit/\0<=c.what)/\0<=c.x)/\0<=c.y)/\0<=c.target):=by unfold lF;simp only [Int.le_min]
 have k:lE c<=1000000000↔((((c.unit<=1000000000/\c.what<=1000000000)/\c.x<=1000000000)/\c.y<=1000000000)/\c.target<=1000000000):=by unfold lE;simp only [Int.max_le]
 unfold aE gM
 generalize lF c=m at j |-
 generalize lE c=M at k |-
 by_cases h:((decide (0<=c.unit)&&decide (c.unit<=1000000000))&&((decide (0<=c.what)&&decide (c.what<=1000000000))&&((decide (0<=c.x)&&decide (c.x<=1000000000))&&((decide (0<=c.y)&&decide (c.y<=1000000000))&&(decide (0<=c.target)&&decide (c.target<=1000000000))))))=true
 ·rw [if_pos h,if_neg]
  simp only [Bool.and_eq_true,decide_eq_true_eq] at h
  obtain ⟨⟨a,b⟩,⟨b1,d⟩,⟨e,f⟩,⟨g,i⟩,l,n⟩:=h
  have:=j.2 ⟨⟨⟨⟨a,b1⟩,e⟩,g⟩,l⟩
  have:=k.2 ⟨⟨⟨⟨b,d⟩,f⟩,i⟩,n⟩
  omega
 rw [if_neg h,if_pos]
 by_cases h1:m < 0
 ·exact .inl h1
 by_cases o:1000000000 < M
 ·exact .inr o
 obtain ⟨⟨⟨⟨a,b1⟩,e⟩,g⟩,l⟩:=j.1 (by omega)
 obtain ⟨⟨⟨⟨b,d⟩,f⟩,i⟩,n⟩:=k.1 (by omega)
 exact absurd (by simp only [Bool.and_eq_true,decide_eq_true_eq];exact ⟨⟨a,b⟩,⟨b1,d⟩,⟨e,f⟩,⟨g,i⟩,l,n⟩) h
structure ClI (w:World) (l:List Cm) (k:Nat) (v:Value) (wr:World):Prop where
 own:wr.ownsRow w.heap.size 81 5 v k (((l.map aE).take k).flatMap Cm.cells)
 fr:Fr [] w wr
theorem zC (l:List Cm)(v:Value)(w:World)(h:CmdR w v l)(bl:l.length<=2000000) :
  Cs 142 #[v] w fun e N=>∃ v',e=.returned v'/\N.ownsRow w.heap.size 81 5 v' l.length ((l.map aE).flatMap Cm.cells)/\Fr [] w N:=by
 obtain ⟨ax,be,bh,bi,bj⟩:=info_parts wB
 obtain ⟨ao,lc,rfl⟩:∃ ao lc,v=.slice ao l.length lc:=by
  rcases h with ⟨ao,lc,rfl,rfl⟩|⟨E,S,lc,rfl,_⟩
  ·exact ⟨_,_,rfl⟩
  exact ⟨_,_,rfl⟩
 have HL:=aA h
 clear h
 go_enter Tryz.func142,Tryz.ntmps142
 go_wp2_with fail
 go_loopw [3,4] (fun v i wr=>∃ k:Nat,k<=l.length/\i=.int .i64 k/\ClI w l k v wr) (fun _ i _=>l.length - (intOf i).toNat)
 case atStart=>exact ⟨0,Nat.zero_le _,rfl,⟨rfl,.inl ⟨rfl,rfl⟩⟩,r0 _ _⟩
 obtain ⟨k,hk,rfl,hown,Q⟩:=hrel
 by_cases A:k < l.length
 ·have aa:(k:Int) < (l.length:Int):=by omega
  obtain ⟨c,hc⟩:∃ c,l[k]?=some c:=⟨l[k],getElem?_eq_getElem A⟩
  obtain ⟨E,S,rfl,au,H⟩:∃ E S,ao=some ⟨E,S,none⟩/\E < w.heap.size/\w.rangeAt E (S+k*5) c.cells:=by
   rcases HL.o with ⟨ao,bk,e1,e2⟩|⟨E,S,bk,e1,h2,h3⟩
   ·rw [e2] at A;simp at A
   refine ⟨E,S,by simpa using congrArg (fun v:Value=>match v with|.slice a _ _=>a|_=>none) e1,h2,?_⟩
   have:=h3 k A
   rw [getElem?_eq_getElem A] at hc
   rw [Option.some.inj hc] at this
   exact this
  have F:∀ j,wr.cell? ⟨E,j,none⟩=w.cell? ⟨E,j,none⟩:=fun j=>Q.cell _ _ au (by simp)
  have c0:wr.cell? ⟨E,S+k*5,none⟩=some (ii c.unit):=(F _).trans (H 0 _ rfl)
  have c1:wr.cell? ⟨E,S+k*5+1,none⟩=some (ii c.what):=(F _).trans (H 1 _ rfl)
  have c2:wr.cell? ⟨E,S+k*5+2,none⟩=some (ii c.x):=(F _).trans (H 2 _ rfl)
  have c3:wr.cell? ⟨E,S+k*5+3,none⟩=some (ii c.y):=(F _).trans (H 3 _ rfl)
  have c4:wr.cell? ⟨E,S+k*5+4,none⟩=some (ii c.target):=(F _).trans (H 4 _ rfl)
  have af:Hi (∀ b,u3.ownBlock=some b->w.heap.size<=b):=fun b hb=>(hown.lt b hb).1
  have ag:Hi (∀ b,u3.ownBlock=some b->b < wr.heap.size):=fun b hb=>(hown.lt b hb).2
  have P:=aA hown
  have aw:=Q.size
  have V:Hi (((l.map aE).take (k+1)).flatMap Cm.cells=((l.map aE).take k).flatMap Cm.cells ++ (aE c).cells):=by
   show _=_
   rw [take_add_one,getElem?_map,hc]
   simp
  have f:=(show Hi _ from And.intro be (And.intro bh (And.intro bi bj)))
  have R:=VB c
  have ap:=V
  obtain ⟨ca,J,K,L,M⟩:=c
  dsimp only at c0 c1 c2 c3 c4 R
  obtain ⟨b0,h0⟩:∃ b,gM ca=b:=⟨_,rfl⟩
  obtain ⟨b1,h1⟩:∃ b,gM J=b:=⟨_,rfl⟩
  obtain ⟨b2,h2⟩:∃ b,gM K=b:=⟨_,rfl⟩
  obtain ⟨b3,h3⟩:∃ b,gM L=b:=⟨_,rfl⟩
  obtain ⟨b4,h4⟩:∃ b,gM M=b:=⟨_,rfl⟩
  rw [h0,h1,h2,h3,h4] at R
  obtain ⟨C,hC⟩:∃ C,aE ⟨ca,J,K,L,M⟩=C:=⟨_,rfl⟩
  rw [hC] at R V
  have aq:=aA R
  have ai:=(show Hi (∀ w,Cs 186 #[.int .i64 ca] w fun e N=>e=.returned (.bool b0)/\w=N) from fun w=>h0 ▸ mT ca w)
  have aj:=(show Hi (∀ w,Cs 186 #[.int .i64 J] w fun e N=>e=.returned (.bool b1)/\w=N) from fun w=>h1 ▸ mT J w)
  have ak:=(show Hi (∀ w,Cs 186 #[.int .i64 K] w fun e N=>e=.returned (.bool b2)/\w=N) from fun w=>h2 ▸ mT K w)
  have al:=(show Hi (∀ w,Cs 186 #[.int .i64 L] w fun e N=>e=.returned (.bool b3)/\w=N) from fun w=>h3 ▸ mT L w)
  have am:=(show Hi (∀ w,Cs 186 #[.int .i64 M] w fun e N=>e=.returned (.bool b4)/\w=N) from fun w=>h4 ▸ mT M w)
  have HF:=aA Q
  clear hown H F hc h0 h1 h2 h3 h4 R hC ap Q
  obtain ⟨wo,av⟩:∃ x,x=wr:=⟨_,rfl⟩
  rw [<- av] at c0 c1 c2 c3 c4 ag P HF aw |-
  clear av
  obtain ⟨n,X⟩:∃ W,W=wo.alloc (.cells #[ii ca,ii J,ii K,ii L,ii M] 81):=⟨_,rfl⟩
  have m:n.heap[wo.heap.size]?=some (.cells #[ii ca,ii J,ii K,ii L,ii M] 81):=by rw [X];exact aC _ _
  have Zr:Fr [] wo n:=by rw [X];exact (r0 _ _).alloc _
  go_wp2_with fail
  rw [<- X]
  obtain ⟨B,hB⟩:∃ b,b=wo.heap.size:=⟨_,rfl⟩
  rw [<- hB] at m |-
  have e0:n.cell? ⟨B,0,none⟩=some (ii ca):=aB m
  have e1:n.cell? ⟨B,1,none⟩=some (ii J):=aB m
  have e2:n.cell? ⟨B,2,none⟩=some (ii K):=aB m
  have e3:n.cell? ⟨B,3,none⟩=some (ii L):=aB m
  have e4:n.cell? ⟨B,4,none⟩=some (ii M):=aB m
  have ae:=aA hB
  have ah:=aA m
  have O:=aA Zr
  clear c0 c1 c2 c3 c4 X hB m Zr aw aa
  refine Calls.mono (ai.o _) ?_
  rintro e w1 ⟨rfl,rfl⟩
  clear ai
  go_wp2_with fail
  refine Calls.mono (aj.o _) ?_
  rintro e w1 ⟨rfl,rfl⟩
  clear aj
  go_wp2_with fail
  refine Calls.mono (ak.o _) ?_
  rintro e w1 ⟨rfl,rfl⟩
  clear ak
  go_wp2_with fail
  refine Calls.mono (al.o _) ?_
  rintro e w1 ⟨rfl,rfl⟩
  clear al
  go_wp2_with fail
  refine Calls.mono (am.o _) ?_
  rintro e w1 ⟨rfl,rfl⟩
  clear am
  have hb:(b0=false)\/(b0=true/\b1=false)\/(b0=true/\b1=true/\b2=false)\/(b0=true/\b1=true/\b2=true/\b3=false)\/(b0=true/\b1=true/\b2=true/\b3=true/\b4=false)\/(b0=true/\b1=true/\b2=true/\b3=true/\b4=true):=by
   cases b0 <;> cases b1 <;> cases b2 <;> cases b3 <;> cases b4 <;> simp
  have bg:wo.heap.size<=n.heap.size:=O.o.size
  have az:Hi (∀ d o,Fr [] n d->(d.alloc o).ownsRow w.heap.size 81 5 u3 k (((l.map aE).take k).flatMap Cm.cells)):=fun d o h2=>aF (aF P.o (O.o.then0 h2) (by simp)) ((r0 [] d).alloc _) (by simp)
  have an:Hi (∀ (d:World) (p q r s t:Int) (j:Nat) (u:Value),[ii p,ii q,ii r,ii s,ii t][j]?=some u->(d.alloc (.cells #[ii p,ii q,ii r,ii s,ii t] 81)).cell? ((⟨d.heap.size,0,none⟩:Addr).add j)=some u):=fun d p q r s t j u hu=>by
   rw [Addr.add_lit,Nat.zero_add,aB (aC d _)]
   simpa using hu
  have bn:w.heap.size<=n.heap.size:=Nat.le_trans HF.o.size bg
  rcases hb with rfl|⟨rfl,rfl⟩|⟨rfl,rfl,rfl⟩|⟨rfl,rfl,rfl,rfl⟩|⟨rfl,rfl,rfl,rfl,rfl⟩|⟨rfl,rfl,rfl,rfl,rfl⟩
  rotate_left 5
  ·have hC:C=⟨ca,J,K,L,M⟩:=by have:=aq.o;simpa using this
   subst hC
   go_wp2_with (at_builtin;refine wpList_append_own _ rfl _ _ 39 rfl w.heap.size 81 ax (Cm.val ⟨0,0,0,0,0⟩) 5 40 Tryz.underlying39 f.o.1 f.o.2.1 f.o.2.2.1 f.o.2.2.2 rfl (by decide) u3 k (((l.map aE).take k).flatMap Cm.cells) rfl (az.o n _ (r0 _ _)) ⟨n.heap.size,0,none⟩ 1 1 [ii ca,ii J,ii K,ii L,ii M] rfl rfl (an.o n ca J K L M) (by simp [Value.oneCell']) (by unfold maxLen;omega) (by omega) (by simp;omega) ?_;intro v' w3 D z ad)
   have ac:Fr [] w w3:=((HF.o.then0 O.o).alloc _).grow z (fun g hg=>.inr (af.o g hg))
   go_roundw
   case rel=>exact ⟨k+1,A,by go_num,by rw [V.o];exact D,ac⟩
   case measure=>simp [intOf];omega
  all_goals
   have hC:C=⟨0,0,0,0,0⟩:=by have:=aq.o;simpa using this
   subst hC
   obtain ⟨d,Y⟩:∃ W,W=n.setRow B #[ii 0,ii 0,ii 0,ii 0,ii 0]:=⟨_,rfl⟩
   have I:d.heap[B]?=some (.cells #[ii 0,ii 0,ii 0,ii 0,ii 0] 81):=by rw [Y];exact setRow_heap _ _ _ _ _ _ ah.o
   have ab:Fr [B] n d:=by rw [Y];exact (r0 _ _).setRow _ _ (.inl (by simp))
   have ar:Fr [] w d:=(HF.o.then0 O.o).trans ab (by simp;have:=ae.o;have:=HF.o.size;omega)
   have g0:d.cell? ⟨B,0,none⟩=some (ii 0):=aB I
   have g1:d.cell? ⟨B,1,none⟩=some (ii 0):=aB I
   have g2:d.cell? ⟨B,2,none⟩=some (ii 0):=aB I
   have g3:d.cell? ⟨B,3,none⟩=some (ii 0):=aB I
   have g4:d.cell? ⟨B,4,none⟩=some (ii 0):=aB I
   have bf:∀ b,u3.ownBlock=some b->b∉[B]:=fun g hg e=>by
    have h1:g=B:=by simpa using e
    have:=ag.o g hg
    have:=ae.o
    omega
   have Zq:(d.alloc (.cells #[ii 0,ii 0,ii 0,ii 0,ii 0] 81)).ownsRow w.heap.size 81 5 u3 k (((l.map aE).take k).flatMap Cm.cells):=aF (aF (aF P.o O.o (by simp)) ab bf) ((r0 [] d).alloc _) (by simp)
   have ay:=aA Zq
   have bb:Hi ((Tryz.prog.info? 81).map (·.size)=some (#[ii 0,ii 0,ii 0,ii 0,ii 0]:Array Value).size):=by show _=some 5;exact wC
   have bc:Hi ((#[ii 0,ii 0,ii 0,ii 0,ii 0]:Array Value).all (·.oneCell')=true):=by show _=_;simp [Value.oneCell']
   have bd:Hi ((#[ii ca,ii J,ii K,ii L,ii M]:Array Value).size=(#[ii 0,ii 0,ii 0,ii 0,ii 0]:Array Value).size):=by show _=_;rfl
   have bm:w.heap.size<=d.heap.size:=ar.size
   have ba:=aA Y
   clear I ab Zq Y
   go_wp2_with (first
    | (refine wpList_store_row rfl 81 _ _ rfl B #[ii 0,ii 0,ii 0,ii 0,ii 0] rfl rfl 81 #[ii ca,ii J,ii K,ii L,ii M] ah.o bb.o bd.o bc.o ?_;rw [<- ba.o])
    | (at_builtin;refine wpList_append_own _ rfl _ _ 39 rfl w.heap.size 81 ax (Cm.val ⟨0,0,0,0,0⟩) 5 40 Tryz.underlying39 f.o.1 f.o.2.1 f.o.2.2.1 f.o.2.2.2 rfl (by decide) u3 k (((l.map aE).take k).flatMap Cm.cells) rfl ay.o ⟨d.heap.size,0,none⟩ 1 1 [ii 0,ii 0,ii 0,ii 0,ii 0] rfl rfl (an.o d 0 0 0 0 0) (by simp [Value.oneCell']) (by unfold maxLen;omega) (by omega) (by simp;omega) ?_;intro v' w3 D z ad))
   have ac:Fr [] w w3:=(ar.alloc _).grow z (fun g hg=>.inr (af.o g hg))
   go_roundw
   case rel=>exact ⟨k+1,A,by go_num,by rw [V.o];exact D,ac⟩
   case measure=>simp [intOf];omega
 have:k=l.length:=by omega
 subst this
 have aa:¬ (l.length:Int) < (l.length:Int):=by omega
 rw [take_of_length_le (by simp)] at hown
 go_wp2_with fail
 go_ret
 exact ⟨u3,rfl,hown,Q⟩
theorem MH (l:List Cm)(k:Nat)(c:Cm)(h:l[k]?=some c):(l.take (k+1)).flatMap Cm.nums=(l.take k).flatMap Cm.nums ++ c.nums:=by
 rw [take_add_one,h,flatMap_append]
 simp
theorem CH (l:List Int):(NF l).size=(aP l).length:=rfl
theorem zD (l:List Cm)(v:Value)(w:World)(h:CmdR w v l)(an:l.length<=2000000)(hb:∀ c∈l,∀ n∈c.nums,0<=n/\n<=1000000000) :
  Cs 187 #[v] w fun e f=>e=.returned (.string (NF ((l.length:Int) :: l.flatMap Cm.nums)))/\Fr [] w f:=by
 obtain ⟨ao,lc,rfl⟩:∃ ao lc,v=.slice ao l.length lc:=by
  rcases h with ⟨ao,lc,rfl,rfl⟩|⟨j,r,lc,rfl,_⟩
  ·exact ⟨_,_,rfl⟩
  exact ⟨_,_,rfl⟩
 have HL:=aA h
 have ai:=aA hb
 have NL:Hi (∀ w:World,Cs 101 #[.int .i64 (l.length:Int)] w fun e f=>e=.returned (.string (NB (l.length:Int)))/\Fr [] w f):=fun w=>dQ _ ⟨by omega,by omega⟩ w
 have aj:Hi (∀ k,(aP ((l.length:Int) :: (l.take k).flatMap Cm.nums)).length<=5+25*l.length):=fun k=>by
  have h1:=gV ((l.length:Int) :: (l.take k).flatMap Cm.nums) (fun n hn=>by
   rcases mem_cons.1 hn with rfl|hn
   ·omega
   obtain ⟨c,H,hn⟩:=mem_flatMap.1 hn
   exact (hb c (mem_of_mem_take H) n hn).2)
  have h2:=rM (l.take k)
  rw [length_cons,h2] at h1
  have h3:(l.take k).length<=l.length:=by simp;omega
  omega
 clear h hb
 go_enter Tryz.func187,Tryz.ntmps187
 go_wp2_with fail
 refine Calls.mono (NL.o _) ?_
 rintro e w1 ⟨rfl,ak⟩
 obtain ⟨A1,F⟩:∃ A,A=NB (l.length:Int):=⟨_,rfl⟩
 rw [<- F]
 have ag:=aA F
 clear F NL
 go_wp2_with fail
 go_loopw [3,4] (fun s i wr=>∃ k:Nat,k<=l.length/\i=.int .i64 k/\s=.string (NF ((l.length:Int) :: (l.take k).flatMap Cm.nums))/\Fr [] w wr) (fun _ i _=>l.length - (intOf i).toNat)
 case atStart=>exact ⟨0,Nat.zero_le _,rfl,by rw [ag.o,take_zero];simp [nG],ak⟩
 obtain ⟨k,hk,rfl,rfl,ab⟩:=hrel
 have af:=aj.o k
 rw [<- CH] at af
 by_cases q:k < l.length
 ·have ad:(k:Int) < (l.length:Int):=by omega
  obtain ⟨c,H⟩:∃ c,l[k]?=some c:=⟨l[k],getElem?_eq_getElem q⟩
  obtain ⟨j,r,rfl,g,p⟩:∃ j r,ao=some ⟨j,r,none⟩/\j < w.heap.size/\w.rangeAt j (r+k*5) c.cells:=by
   rcases HL.o with ⟨ao,am,e1,e2⟩|⟨j,r,am,e1,h2,h3⟩
   ·rw [e2] at q;simp at q
   refine ⟨j,r,by simpa using congrArg (fun v:Value=>match v with|.slice a _ _=>a|_=>none) e1,h2,?_⟩
   have:=h3 k q
   rw [getElem?_eq_getElem q] at H
   rw [Option.some.inj H] at this
   exact this
  have ae:=MH l k c H
  have m:=ai.o c (mem_of_getElem? H)
  obtain ⟨R,S,V,z3,W⟩:=c
  have q0:=m R (by simp)
  obtain ⟨C,t⟩:∃ B,B=NB R:=⟨_,rfl⟩
  have b0:C.size<=5:=by rw [t];exact dT q0
  have N0:Hi (∀ w:World,Cs 101 #[.int .i64 R] w fun e f=>e=.returned (.string C)/\Fr [] w f):=by rw [t];exact dQ R q0
  have q1:=m S (by simp)
  obtain ⟨D,u⟩:∃ B,B=NB S:=⟨_,rfl⟩
  have b1:D.size<=5:=by rw [u];exact dT q1
  have N1:Hi (∀ w:World,Cs 101 #[.int .i64 S] w fun e f=>e=.returned (.string D)/\Fr [] w f):=by rw [u];exact dQ S q1
  have q2:=m V (by simp)
  obtain ⟨X,x⟩:∃ B,B=NB V:=⟨_,rfl⟩
  have b2:X.size<=5:=by rw [x];exact dT q2
  have N2:Hi (∀ w:World,Cs 101 #[.int .i64 V] w fun e f=>e=.returned (.string X)/\Fr [] w f):=by rw [x];exact dQ V q2
  have q3:=m z3 (by simp)
  obtain ⟨B3,y⟩:∃ B,B=NB z3:=⟨_,rfl⟩
  have b3:B3.size<=5:=by rw [y];exact dT q3
  have N3:Hi (∀ w:World,Cs 101 #[.int .i64 z3] w fun e f=>e=.returned (.string B3)/\Fr [] w f):=by rw [y];exact dQ z3 q3
  have q4:=m W (by simp)
  obtain ⟨B4,z⟩:∃ B,B=NB W:=⟨_,rfl⟩
  have b4:B4.size<=5:=by rw [z];exact dT q4
  have N4:Hi (∀ w:World,Cs 101 #[.int .i64 W] w fun e f=>e=.returned (.string B4)/\Fr [] w f):=by rw [z];exact dQ W q4
  have E:∀ f,Fr [] w f->(fun f:World=>(ca f j (r+k*5) (ii R)/\ca f j (r+k*5+1) (ii S)/\ca f j (r+k*5+2) (ii V)/\ca f j (r+k*5+3) (ii z3)/\ca f j (r+k*5+4) (ii W))/\Fr [] w f) f:=fun f Y=>⟨⟨(Y.cell j _ g (by simp)).trans (p 0 _ rfl),(Y.cell j _ g (by simp)).trans (p 1 _ rfl),(Y.cell j _ g (by simp)).trans (p 2 _ rfl),(Y.cell j _ g (by simp)).trans (p 3 _ rfl),(Y.cell j _ g (by simp)).trans (p 4 _ rfl)⟩,Y⟩
  obtain ⟨A,hA⟩:∃ A,A=NF ((l.length:Int) :: (l.take k).flatMap Cm.nums):=⟨_,rfl⟩
  rw [<- hA] at af |-
  have ah:Hi (NF ((l.length:Int) :: (l.take (k+1)).flatMap Cm.nums)=A ++ C ++ D ++ X ++ B3 ++ B4):=by
   show _=_
   rw [ae,hA,t,u,x,y,z]
   rw [show (l.length:Int) :: ((l.take k).flatMap Cm.nums ++ [R,S,V,z3,W])=((l.length:Int) :: (l.take k).flatMap Cm.nums) ++ [R] ++ [S] ++ [V] ++ [z3] ++ [W] by simp]
   simp only [lV]
  have s1:A.size+C.size<=9223372036854775807:=by omega
  have s2:A.size+C.size+D.size<=9223372036854775807:=by omega
  have s3:A.size+C.size+D.size+X.size<=9223372036854775807:=by omega
  have s4:A.size+C.size+D.size+X.size+B3.size<=9223372036854775807:=by omega
  have s5:A.size+C.size+D.size+X.size+B3.size+B4.size<=9223372036854775807:=by omega
  have K0:=E wr.drew ab.drew
  clear hA t u x y z ae m q0 q1 q2 q3 q4 p H
  go_wp2_with fail
  refine rg 37 E K0 fun b=>?_
  iterate 6 (refine tn 37 b ?_;try simp only [Act.put,Z])
  refine ta 8 b ?_;try simp only [Act.put,Z]
  refine ta 9 b ?_;try simp only [Act.put,Z]
  refine ta 10 b ?_;try simp only [Act.put,Z]
  refine ta 11 b ?_;try simp only [Act.put,Z]
  refine ta 12 b ?_;try simp only [Act.put,Z]
  refine ta 15 b ?_;try simp only [Act.put,Z]
  refine ta 16 b ?_;try simp only [Act.put,Z]
  refine ta 17 b ?_;try simp only [Act.put,Z]
  refine ta 18 b ?_;try simp only [Act.put,Z]
  refine ta 19 b ?_;try simp only [Act.put,Z]
  refine ta 22 b ?_;try simp only [Act.put,Z]
  refine ta 23 b ?_;try simp only [Act.put,Z]
  refine ta 24 b ?_;try simp only [Act.put,Z]
  refine ta 25 b ?_;try simp only [Act.put,Z]
  refine ta 26 b ?_;try simp only [Act.put,Z]
  refine ta 29 b ?_;try simp only [Act.put,Z]
  refine ta 30 b ?_;try simp only [Act.put,Z]
  refine ta 31 b ?_;try simp only [Act.put,Z]
  refine ta 32 b ?_;try simp only [Act.put,Z]
  refine ta 33 b ?_;try simp only [Act.put,Z]
  refine rd 6 fun K hK=>?_
  have d:=aA hK
  clear hK
  go_simp
  refine Calls.mono (N0.o _) ?_
  rintro e Zr ⟨rfl,aa⟩
  have ac:=b.2.then0 aa
  clear b
  refine d.o _ _ (E _ ac) (fun b=>?_)
  clear d K;try simp only [Act.put,Z]
  refine ta 7 b ?_;try simp only [Act.put,Z]
  refine rd 13 fun K hK=>?_
  have d:=aA hK
  clear hK
  go_simp
  refine Calls.mono (N1.o _) ?_
  rintro e ap ⟨rfl,I⟩
  have N:=b.2.then0 I
  clear b
  refine d.o _ _ (E _ N) (fun b=>?_)
  clear d K;try simp only [Act.put,Z]
  refine ta 14 b ?_;try simp only [Act.put,Z]
  refine rd 20 fun K hK=>?_
  have d:=aA hK
  clear hK
  go_simp
  refine Calls.mono (N2.o _) ?_
  rintro e aq ⟨rfl,J⟩
  have O:=b.2.then0 J
  clear b
  refine d.o _ _ (E _ O) (fun b=>?_)
  clear d K;try simp only [Act.put,Z]
  refine ta 21 b ?_;try simp only [Act.put,Z]
  refine rd 27 fun K hK=>?_
  have d:=aA hK
  clear hK
  go_simp
  refine Calls.mono (N3.o _) ?_
  rintro e ar ⟨rfl,L⟩
  have P:=b.2.then0 L
  clear b
  refine d.o _ _ (E _ P) (fun b=>?_)
  clear d K;try simp only [Act.put,Z]
  refine ta 28 b ?_;try simp only [Act.put,Z]
  refine rd 34 fun K hK=>?_
  have d:=aA hK
  clear hK
  go_simp
  refine Calls.mono (N4.o _) ?_
  rintro e Zq ⟨rfl,M⟩
  have Q:=b.2.then0 M
  clear b
  refine d.o _ _ (E _ Q) (fun b=>?_)
  clear d K;try simp only [Act.put,Z]
  iterate 2 (refine tn 37 b ?_;try simp only [Act.put,Z])
  refine wpAnyH_done (by kernel_rfl) ?_ _
  go_wp2_with fail
  go_roundw
  case rel=>exact ⟨k+1,q,by go_num,by rw [ah.o],b.2⟩
  case measure=>simp [intOf];omega
 have ad:¬ (k:Int) < (l.length:Int):=by omega
 have al:l.take k=l:=take_of_length_le (by omega)
 rw [al]
 go_wp2_with fail
 go_ret
 exact ⟨rfl,ab⟩
set_option maxRecDepth 100000
theorem rQ {w:World}{base:Nat}{v:Value}{l:List Cm}(h:w.ownsRow base 81 5 v l.length (l.flatMap Cm.cells)):CmdR w v l:=by
 by_cases e:l.length=0
 ·obtain ⟨d,c,rfl⟩:=fR h
  have:l=[]:=eq_nil_of_length_eq_zero e
  subst this
  exact .inl ⟨d,c,rfl,rfl⟩
 obtain ⟨g,a,rfl⟩:=bK h (by omega)
 have f:=h.cells (g:=g) rfl
 refine .inr ⟨g,0,a,rfl,(h.lt g rfl).2,fun i hi j u b=>?_⟩
 have k:j < 5:=(gs.1 b).1
 have:=f (i*5+j) u ((oA l i j hi k).trans b)
 rw [Addr.add_lit,Nat.zero_add] at this
 rwa [Nat.zero_add]
theorem CmdR.apart {w:World}{base c:Nat}{v:Value}{l:List Cm}(h:w.ownsRow base 81 5 v l.length (l.flatMap Cm.cells))(k:c < base):CmdW w v l c:=by
 rcases rQ h with q|⟨b,i,f,rfl,_,d⟩
 ·exact .inl q
 refine .inr ⟨b,i,f,rfl,fun e=>?_,d⟩
 by_cases j:l.length=0
 ·rcases h.2 with ⟨q,_⟩|⟨g,a,cur,q,hb,_⟩
  ·cases q
  cases q;omega
 have:=(h.lt b (by
  obtain ⟨g,a,q⟩:=bK h (by omega)
  rw [q]
  cases q
  rfl)).1
 omega
theorem BW (l:List Cm):∀ c∈l.map aE,∀ n∈c.nums,0<=n/\n<=1000000000:=fun c a n hn=>by
 obtain ⟨d,_,rfl⟩:=mem_map.1 a
 exact pJ d n hn
theorem QP (n:Int)(a l2:List Cm)(j k:Value)(w:World)(hn:0<=n/\n<=1000000000)(h1:CmdR w j (a.map aE))(x:CmdR w k (l2.map aE))(q:a.length<=2000000)(r:l2.length<=2000000) :
  Cs 143 #[.int .i64 n,j,k] w fun e b=>e=.returned (.string ⟨(cV n a l2).toArray⟩)/\Fr [] w b:=by
 have t:Hi (∀ b,Fr [] w b->Cs 187 #[j] b fun e d=>e=.returned (.string (NF (cL a)))/\Fr [] b d):=fun b l=>by
  rw [nQ]
  exact zD (a.map aE) j b (h1.fr0 l) (by simpa using q) (BW a)
 have u:Hi (∀ b,Fr [] w b->Cs 187 #[k] b fun e d=>e=.returned (.string (NF (cL l2)))/\Fr [] b d):=fun b l=>by
  rw [nQ]
  exact zD (l2.map aE) k b (x.fr0 l) (by simpa using r) (BW l2)
 have v:Hi (∀ w:World,Cs 101 #[.int .i64 n] w fun e b=>e=.returned (.string (NB n))/\Fr [] w b):=fun w=>dQ _ hn w
 have B:=dT hn
 have C:(NF (cL a)).size<=5+25*a.length:=nP a (by omega)
 have D:(NF (cL l2)).size<=5+25*l2.length:=nP l2 (by omega)
 have i:Hi ((⟨(cV n a l2).toArray⟩:ByteArray)=NB n ++ NF (cL a) ++ NF (cL l2)):=by
  show NF (n :: (cL a ++ cL l2))=_
  rw [show n :: (cL a ++ cL l2)=[n] ++ cL a ++ cL l2 by simp,nF,nF,nG]
 obtain ⟨A,y⟩:∃ A,A=NB n:=⟨_,rfl⟩
 obtain ⟨s,f⟩:∃ A,A=NF (cL a):=⟨_,rfl⟩
 obtain ⟨z,g⟩:∃ A,A=NF (cL l2):=⟨_,rfl⟩
 rw [<- y] at v i B
 rw [<- f] at t i C
 rw [<- g] at u i D
 have E:A.size+s.size<=9223372036854775807:=by omega
 have F:A.size+s.size+z.size<=9223372036854775807:=by omega
 clear y f g h1 x
 go_enter Tryz.func143,Tryz.ntmps143
 go_wp2_with fail
 refine Calls.mono (v.o _) ?_
 rintro e H ⟨rfl,h⟩
 go_wp2_with fail
 refine Calls.mono (t.o _ h) ?_
 rintro e I ⟨rfl,m⟩
 have c:=h.then0 m
 go_wp2_with fail
 refine Calls.mono (u.o _ c) ?_
 rintro e J ⟨rfl,p⟩
 go_wp2_with fail
 go_ret
 exact ⟨by rw [i.o];rfl,c.then0 p⟩
theorem QN (c d f a:Nat)(t:T)(b:List UInt8)(g i:Value)(w:World)(h:YR w c d f a t b)(ht:1000000000<=t.turn) :
  Cs 105 #[.pointer (so c),g,i] w fun e j=>e=.returned (.tuple #[.slice none 0 0,.int .i64 4])/\Fr [] w j:=by
 have k:ca w c 0 (.pointer (so d)):=aB h.h
 have l:=h.rg.c0
 clear h
 go_enter Tryz.func105,Tryz.ntmps105
 go_wp2_with fail
 go_ret2
 exact ⟨rfl,r0 _ _⟩
structure RPre (w:World) (l1 l2:List Cm) (a b:Value) (w':World):Prop where
 oa:w'.ownsRow w.heap.size 81 5 a l1.length ((l1.map aE).flatMap Cm.cells)
 ob:w'.ownsRow w.heap.size 81 5 b l2.length ((l2.map aE).flatMap Cm.cells)
 fr:Fr [] w w'
theorem zM (i r qb R:Nat)(t:T)(k:List UInt8)(c l2:List Cm)(v1 v2:Value)(w:World)(h:YR w i r qb R t k)(hn:i≠r/\i≠qb)(ad:GG t)(ht:t.turn < 1000000000)(h1:CmdR w v1 c)(h2:CmdR w v2 l2)(ae:c.length<=2000000)(af:l2.length<=2000000)(bn:k.length<=1000000000000) :
  Cs 105 #[.pointer (so i),v1,v2] w fun e f =>
   (40000 < (cV t.turn c l2).length/\e=.returned (.tuple #[.slice none 0 0,.int .i64 3])/\Fr [] w f) \/
   ((cV t.turn c l2).length<=40000/\∃ v A u,e=.returned (.tuple #[v,.int .i64 0])/\YR f i r A u (eD t (c,l2)) (k ++ eW t (c,l2))/\Fr [i,r,qb] w f/\(A=qb\/w.heap.size<=A)/\Refs f w.heap.size v (aM t (c.map aE) (l2.map aE)).2.1 (aM t (c.map aE) (l2.map aE)).2.2):=by
 have c0:ca w i 0 (.pointer (so r)):=aB h.h
 have c1:=h.rg.c0
 have Zr:=aH h.h
 have bj:=h.rg.lt
 have aq:=h.rg.row.lt
 have C1:Hi (Cs 142 #[v1] w fun e f=>∃ v',e=.returned v'/\f.ownsRow w.heap.size 81 5 v' c.length ((c.map aE).flatMap Cm.cells)/\Fr [] w f):=zC c v1 w h1 ae
 have C2:Hi (∀ f,Fr [] w f->Cs 142 #[v2] f fun e aw=>∃ v',e=.returned v'/\aw.ownsRow f.heap.size 81 5 v' l2.length ((l2.map aE).flatMap Cm.cells)/\Fr [] f aw):=fun f hf=>zC l2 v2 f (h2.fr0 hf) af
 have HY:=aA h
 have ai:=aA ad
 have Zq:=ad.t0
 have bq:¬ (1000000000:Int)<=t.turn:=by omega
 obtain ⟨L,E⟩:∃ x,x=cV t.turn c l2:=⟨_,rfl⟩
 rw [<- E]
 obtain ⟨TX,F⟩:∃ x:ByteArray,x=⟨L.toArray⟩:=⟨_,rfl⟩
 have br:TX.size=L.length:=by rw [F];rfl
 have ah:Hi (∀ a b B,RPre w c l2 a b B->Cs 143 #[.int .i64 t.turn,a,b] B fun e f=>e=.returned (.string TX)/\Fr [] B f):=fun a b B M=>by
  rw [F,E]
  exact QP t.turn c l2 a b B ⟨Zq,by omega⟩ (rQ (by rw [length_map];exact M.oa)) (rQ (by rw [length_map];exact M.ob)) ae af
 have be:=aA E
 have bf:=aA F
 clear h h1 h2 ad E F
 go_enter Tryz.func105,Tryz.ntmps105
 go_wp2_with fail
 refine Calls.mono C1.o ?_
 rintro e w1 ⟨a,rfl,oa,K⟩
 have aj:=(show Hi (w1.ownsRow w.heap.size 81 5 a c.length ((c.map aE).flatMap Cm.cells)) from oa)
 have ag:=(show Hi _ from C2.o w1 K)
 clear C1 C2 oa
 go_wp2_with fail
 refine Calls.mono ag.o ?_
 rintro e B ⟨b,rfl,ob,ab⟩
 have j:=K.then0 ab
 have M:RPre w c l2 a b B:=⟨aF aj.o ab (by simp),jG ob K.size,j⟩
 have CT:=(show Hi _ from ah.o a b B M)
 have d0:=(j.cell i 0 Zr (by simp)).trans c0
 have d1:=(j.cell r 0 bj (by simp)).trans c1
 have HP:=aA M
 obtain ⟨aa,ac,ha⟩:=fR M.oa
 obtain ⟨ba,bc,hb⟩:=fR M.ob
 subst ha
 subst hb
 clear ag M ob c0 c1 aj K ab
 go_wp2_with fail
 refine Calls.mono CT.o ?_
 rintro e w3 ⟨rfl,an⟩
 have y:=j.then0 an
 have I:=HY.o.fr0 y
 have e0:ca w3 i 0 (.pointer (so r)):=aB I.h
 clear CT d0 d1 ah
 by_cases am:40000 < L.length
 ·have bh:(40000:Int) < (TX.size:Int):=by omega
  go_wp2_with fail
  go_ret2
  exact .inl ⟨am,rfl,y⟩
 have bh:¬ (40000:Int) < (TX.size:Int):=by omega
 have CF:Hi (∀ w,Cs 107 #[.int .i64 1,.string TX] w fun e f=>e=.returned (.string ⟨(bU 1 L).toArray⟩)/\Fr [] w f):=fun w=>by rw [bf.o];exact zH 1 (by omega) L (by omega) w
 have bl:=mF 1 L (by omega)
 obtain ⟨FX,C⟩:∃ x:ByteArray,x=⟨(bU 1 L).toArray⟩:=⟨_,rfl⟩
 have bm:FX.size=(bU 1 L).length:=by rw [C];rfl
 rw [<- C] at CF
 obtain ⟨Q,D⟩:∃ x:ByteArray,x=⟨k.toArray⟩:=⟨_,rfl⟩
 have bo:Q.size=k.length:=by rw [D];rfl
 have c1:w3.cell? ⟨i,1,none⟩=some (.string Q):=by rw [D];exact aB I.h
 have ax:Hi (Value.string (Q ++ FX)=sv (k ++ eW t (c,l2))):=by
  show _=_
  rw [D,C,jO,be.o]
  rfl
 have al:=aA I
 have bp:Q.size+FX.size<=9223372036854775807:=by omega
 have O:=Nat.lt_of_lt_of_le Zr y.size
 have p:(fun f:World=>ca f i 1 (.string Q)) w3.drew:=((r0 [] w3).drew.cell i 1 O (by simp)).trans c1
 clear C D I
 go_wp2_with fail
 refine OneFree.region (fun f:World=>f.cell? ⟨i,1,none⟩=some (.string Q)) 10 (by kernel_rfl) ?_
 refine (show OneFree Tryz.prog Region.Mode.any _ _ _ 10 11 (Array.replicate 11 false) _ _ from ?_)
 refine tv 0 p ?_;try simp only [Act.put,Z]
 refine tv 1 p ?_;try simp only [Act.put,Z]
 refine tv 2 p ?_;try simp only [Act.put,Z]
 refine tv 3 p ?_;try simp only [Act.put,Z]
 refine tv 4 p ?_;try simp only [Act.put,Z]
 refine tv 5 p ?_;try simp only [Act.put,Z]
 refine o1 6 fun K' d=>?_
 have l:=aA d
 clear d
 go_simp
 refine Calls.mono (CF.o _) ?_
 rintro e w4 ⟨rfl,bi⟩
 have m:Fr [] w3 w4:=((r0 [] w3).drew).then0 bi
 clear p
 have p:(fun f:World=>ca f i 1 (.string Q)) w4:=(m.cell i 1 O (by simp)).trans c1
 refine l.o _ _ ⟨fun _=>p,?_⟩
 clear l K' CF;try simp only [Act.put,Z]
 refine o1 7 fun K' d=>?_
 have l:=aA d
 clear d
 go_simp
 rw [if_neg (by omega)]
 refine l.o _ _ ⟨fun _=>p,?_⟩
 clear l K';try simp only [Act.put,Z]
 refine o1 8 fun K' d=>?_
 have l:=aA d
 clear d
 go_simp
 refine l.o _ _ ⟨fun _=>p,?_⟩
 clear l K';try simp only [Act.put,Z]
 refine o1 9 fun K' d=>?_
 have l:=aA d
 clear d
 go_simp
 refine l.o _ _ ⟨fun _=>p,?_⟩
 clear l K';try simp only [Act.put,Z]
 have z1:w4.frozen? ⟨i,1,none⟩=false:=bI (al.o.fr0 m).h
 refine o1 10 fun K' d=>?_
 have l:=aA d
 clear d
 go_simp
 refine l.o _ _ ⟨fun h6=>absurd rfl h6,OneFree.done (by kernel_rfl) ?_ _⟩
 clear l K'
 rw [ax.o]
 obtain ⟨s,H⟩:∃ W,W=w4.setCell ⟨i,1,none⟩ (sv (k ++ eW t (c,l2))):=⟨_,rfl⟩
 rw [<- H]
 have J:YR s i r qb R t (k ++ eW t (c,l2)):=by rw [H];exact (al.o.fr0 m).put hn
 have ao:Fr [i] w4 s:=by rw [H];exact (r0 _ _).setCell _ _ (by simp)
 have z:Fr [i] B s:=(an.then0 m).of0.trans ao (fun b hb=>.inl hb)
 have ny:∀ (v:Value) (n:Nat) (xs:List Value),B.ownsRow w.heap.size 81 5 v n xs->∀ g,v.ownBlock=some g->g∉[i]:=fun v n xs ho g hg e=>by
  have h1:g=i:=by simpa using e
  have:=(ho.lt g hg).1
  omega
 have au:s.ownsRow w.heap.size 81 5 (.slice aa c.length ac) (c.map aE).length ((c.map aE).flatMap Cm.cells):=by rw [length_map];exact aF HP.o.oa z (ny _ _ _ HP.o.oa)
 have av:s.ownsRow w.heap.size 81 5 (.slice ba l2.length bc) (l2.map aE).length ((l2.map aE).flatMap Cm.cells):=by rw [length_map];exact aF HP.o.ob z (ny _ _ _ HP.o.ob)
 have C5:Hi (Cs 95 #[.pointer (so r),.slice aa c.length ac,.slice ba l2.length bc] s fun e f=>∃ v,e=.returned v/\RPlay s r qb (eD t (c,l2)) (aM t (c.map aE) (l2.map aE)).2.1 (aM t (c.map aE) (l2.map aE)).2.2 v f):=zK uA r qb R t (c.map aE) (l2.map aE) _ _ s J.rg ai.o.ok ai.o.os Zq (CmdR.apart au aq) (CmdR.apart av aq) (by simpa using ae) (by simpa using af)
 have f0:ca s i 0 (.pointer (so r)):=aB J.h
 have bg:=aA J
 have P:Hi (Fr [i] w s):=(j.of0 (S:=[i])).trans z (fun b hb=>.inl hb)
 obtain ⟨PT,V⟩:∃ x,x=eD t (c,l2):=⟨_,rfl⟩
 obtain ⟨RA,X⟩:∃ x,x=(aM t (c.map aE) (l2.map aE)).2.1:=⟨_,rfl⟩
 obtain ⟨RB,Y⟩:∃ x,x=(aM t (c.map aE) (l2.map aE)).2.2:=⟨_,rfl⟩
 rw [<- V,<- X,<- Y] at C5
 have ay:=aA V
 have az:=aA X
 have bb:=aA Y
 clear H J ao au av p z1 V X Y ny
 go_wp2_with fail
 refine Calls.mono C5.o ?_
 rintro e w6 ⟨v6,rfl,⟨A,u,N,ap,bk⟩,ar⟩
 have ak:=aA N
 have bd:=aA ar
 clear C5 N ar
 go_wp2_with fail
 go_ret2
 refine .inr ⟨by omega,v6,A,u,rfl,⟨ap.heap bg.o.h (by simp;omega),by rw [<- ay.o];exact ak.o⟩,?_,?_,?_⟩
 ·exact (P.o.mono (fun b hb=>.inl (by simp_all))).trans ap (fun b hb=>.inl (by simp at hb;simp;omega))
 ·have:=P.o.size
  exact bk.imp_right (fun q=>by omega)
 have h:=(show Refs w6 s.heap.size v6 RA RB from bd.o)
 rw [<- az.o,<- bb.o]
 exact h.low P.o.size
theorem GP (P z c:List Value)(a n:Nat)(b:P.length=a):(P ++ z.drop a).take a ++ c ++ (P ++ z.drop a).drop (a+n)=(P ++ c) ++ z.drop (a+n):=by
 rw [take_left' b,drop_append,drop_of_length_le (by omega),nil_append,drop_drop,b]
 congr 2
 omega
theorem nV (a:Nat->Option (Nat×Nat))(P z c:List Value)(i:Nat)(v:Value)(rest:List (Nat×Value))(b n:Nat)(f:a i=some (b,n))(d:v.cells.toList=c)(hn:c.length=n)(e:P.length=b)(hz:b+n<=z.length):Instr.fill a (P ++ z.drop b).toArray ((i,v) :: rest)=Instr.fill a ((P ++ c) ++ z.drop (b+n)).toArray rest:=by
 rw [jB a _ i v rest b n f (by rw [<- Array.length_toList,d,hn]) (by simp;omega)]
 rw [d,toList_toArray,GP P z c b n e]
theorem Ioq:iH Tryz.prog 131=some [(0,1),(1,144),(145,2),(147,1),(148,1)]:=by kernel_rfl
theorem IP:pN Tryz.prog 131 148=some (some (149,[.slice none 0 0])):=by kernel_rfl
theorem EE (a b c d:Int)(BL:List Value)(e:BL.length=144):Tryz.prog.built 131 [(0,ii a),(1,.agg BL.toArray),(2,.agg #[ii b,ii c]),(3,ii d)]=some (ii a :: (BL ++ [ii b,ii c,ii d,.slice none 0 0])).toArray:=by
 refine uC _ _ _ _ _ Ioq IP _ _ (fun z hz ht=>?_)
 have g:z.toList.length=149:=by simpa using hz
 have f:z=([] ++ z.toList.drop 0).toArray:=by simp
 rw [f,nV _ [] z.toList [ii a] 0 (ii a) _ 0 1 rfl rfl rfl rfl (by omega),nV _ ([] ++ [ii a]) z.toList BL 1 (.agg BL.toArray) _ 1 144 rfl rfl e rfl (by omega),nV _ ([] ++ [ii a] ++ BL) z.toList [ii b,ii c] 2 (.agg #[ii b,ii c]) _ 145 2 rfl rfl rfl (by simp [e]) (by omega),nV _ ([] ++ [ii a] ++ BL ++ [ii b,ii c]) z.toList [ii d] 3 (ii d) _ 147 1 rfl rfl rfl (by simp [e]) (by omega),ht]
 show some _=_
 simp
theorem VC {c:Array Oper} {S:World->Prop} {e:Oper} {a:Act} (hw:Region.wanted e (yielded c a.tmps)=true) (t:TypeId) (f g h j:Operand) (ho:e.op=.build t #[(0,f),(1,g),(2,h),(3,j)]) (k l m n:Value) (h1:a.eval f=k) (o:a.eval g=l) (p:a.eval h=m) (q:a.eval j=n) (b:Array Value)
  (r:Tryz.prog.built t [(0,k),(1,l),(2,m),(3,n)]=some b):YieldsIf Tryz.prog c S e (.agg b) a :=
 .inl ⟨hw,fun w _=>by
  have d:Tryz.prog.built t ((#[(0,f),(1,g),(2,h),(3,j)]:Array (Nat×Operand)).map fun (i,x)=>(i,a.eval x)).toList=some b:=by
   simp [h1,o,p,q,r]
  unfold execOp
  simp only [ho,Sem.run_bind,run_build w t _ b d,Result.andThen_ok,Sem.run_pure]⟩
structure CpI (w:World) (hb:Nat) (t:T) (k:Nat) (wr:World):Prop where
 ex:∃ v,(∀ j,j < 149->wr.cell? ⟨hb,j,none⟩=some (dF t v j))/\wr.ownsRow w.heap.size 85 11 v k ((t.us.take k).flatMap U.cells)/\v.ownBlock≠some hb
 fz:∀ j,wr.frozen? ⟨hb,j,none⟩=false
 fr:Fr [] w wr
theorem QC (p d L:Nat)(t:T)(w:World)(h:RG w p d L t)(bn:0 < t.us.length) :
  Cs 65 #[.pointer (so p)] w fun e c=>∃ hb F B,e=.returned (.pointer (so hb))/\RG c hb F B t/\w.heap.size<=hb/\w.heap.size<=F/\Fr [] w c:=by
 obtain ⟨ak,bp,bq,br,bs⟩:=info_parts iT
 obtain ⟨a,ha⟩:∃ x,x=t.turn:=⟨_,rfl⟩
 obtain ⟨V,ai⟩:∃ x,x=t.s0:=⟨_,rfl⟩
 obtain ⟨X,aj⟩:∃ x,x=t.s1:=⟨_,rfl⟩
 obtain ⟨S,ag⟩:∃ x,x=t.next:=⟨_,rfl⟩
 obtain ⟨BL,M⟩:∃ x,x=cW t.bd:=⟨_,rfl⟩
 have aa:BL.length=144:=by rw [M];exact jN _
 have ar:Hi ((Tryz.prog.info? 88).map (·.size)=some BL.length):=by show _=_;rw [aa];exact mH
 have al:=(show Hi _ from EE a V X S BL aa)
 have bt:=h.lt
 have HS:∀ c,Fr [] w c->(fun c:World=>(cl c p 0 a/\cl c p 145 V/\cl c p 146 X/\cl c p 147 S)/\Fr [] w c) c:=fun c r=>by
  have h1:=h.fr0 r
  exact ⟨⟨ha ▸ h1.c0,ai ▸ h1.c145,aj ▸ h1.c146,ag ▸ h1.c147⟩,r⟩
 have aq:Hi (∀ c,(fun c:World=>(c.cell? ⟨p,0,none⟩=some (ii a)/\c.cell? ⟨p,145,none⟩=some (ii V)/\c.cell? ⟨p,146,none⟩=some (ii X)/\c.cell? ⟨p,147,none⟩=some (ii S))/\Fr [] w c) c->c.rangeAt p 1 BL):=fun c hs=>by rw [M];exact (h.fr0 hs.2).rng
 have m:=HS w.drew ((r0 _ _).drew)
 have HG:=aA h
 have am:Hi (∀ j,j < 149->(ii a :: (BL ++ [ii V,ii X,ii S,.slice none 0 0]))[j]?=some (dF t (.slice none 0 0) j)):=fun j hj=>by
  unfold dF
  by_cases e0:j=0
  ·subst e0;rw [if_pos rfl,ha];rfl
  rw [if_neg e0]
  obtain ⟨i,rfl⟩:∃ i,j=i+1:=⟨j - 1,by omega⟩
  rw [getElem?_cons_succ]
  by_cases e1:i+1 < 145
  ·rw [if_pos e1,getElem?_append_left (by omega),M]
   unfold cW
   rw [getElem?_map,getElem?_range (by omega)]
   rfl
  rw [if_neg e1,getElem?_append_right (by omega),aa]
  have:i=144\/i=145\/i=146\/i=147:=by omega
  rcases this with rfl|rfl|rfl|rfl <;> simp [ai,aj,ag]
 clear h ha ai aj ag M
 go_enter Tryz.func65,Tryz.ntmps65
 go_wp2_with fail
 refine rg 19 HS m fun s=>?_
 iterate 7 (refine tn 19 s ?_;try simp only [Act.put,Z])
 refine wpAnyH_take (i:=7) (oi:=_) (v:=.agg BL.toArray) (by simp only [G];rfl) (by kernel_rfl) (by kernel_rfl) (by kernel_rfl) (by exact fun _ _ _ h=>h) (yieldsIf_load_mid (by kernel_rfl) 88 (.tmp 11) rfl p 1 rfl BL _ aq.o Tryz.underlying88 rfl ar.o) s ?_;try simp only [Act.put,Z]
 refine ta 8 s ?_;try simp only [Act.put,Z]
 refine ta 9 s ?_;try simp only [Act.put,Z]
 refine ta 10 s ?_;try simp only [Act.put,Z]
 refine ta 11 s ?_;try simp only [Act.put,Z]
 refine ta 12 s ?_;try simp only [Act.put,Z]
 refine ta 13 s ?_;try simp only [Act.put,Z]
 refine ta 14 s ?_;try simp only [Act.put,Z]
 refine ta 15 s ?_;try simp only [Act.put,Z]
 refine wpAnyH_take (i:=16) (oi:=_) (v:=.agg (ii a :: (BL ++ [ii V,ii X,ii S,.slice none 0 0])).toArray) (by simp only [G];rfl) (by kernel_rfl) (by kernel_rfl) (by kernel_rfl) (by exact fun _ _ _ h=>h) (VC (by kernel_rfl) 131 (.tmp 8) (.tmp 12) (.tmp 16) (.tmp 20) rfl (ii a) (.agg BL.toArray) (.agg #[ii V,ii X]) (ii S) rfl rfl rfl rfl _ al.o) s ?_;try simp only [Act.put,Z]
 refine rd 17 fun K hK=>?_
 have ao:=aA hK
 clear hK
 go_simp
 obtain ⟨W1,N⟩:∃ W,W=(w.alloc (.cells (ii a :: (BL ++ [ii V,ii X,ii S,.slice none 0 0])).toArray 131)).drew:=⟨_,rfl⟩
 rw [<- N]
 have ac:Fr [] w W1:=by rw [N];exact ((r0 _ _).alloc _).drew
 have ae:W1.heap[w.heap.size]?=some (.cells (ii a :: (BL ++ [ii V,ii X,ii S,.slice none 0 0])).toArray 131):=by rw [N];exact aC _ _
 clear s
 refine ao.o _ _ (HS _ ac) (fun s=>?_)
 clear ao K;try simp only [Act.put,Z]
 refine ta 18 s ?_;try simp only [Act.put,Z]
 refine wpAnyH_done (by kernel_rfl) ?_ _
 have au:CpI w w.heap.size t 0 W1:=⟨⟨.slice none 0 0,fun j hj=>by rw [aB ae,getElem?_toArray];exact am.o j hj,⟨rfl,.inl ⟨rfl,rfl⟩⟩,by simp [Value.ownBlock]⟩,fun j=>bI ae,ac⟩
 have an:=aA au
 clear au ae ac N HS aq al ar m s am
 go_wp2_with fail
 go_loopw [4] (fun i wr=>∃ k:Nat,k<=t.us.length/\i=.int .i64 k/\CpI w w.heap.size t k wr) (fun i _=>t.us.length - (intOf i).toNat)
 case atStart=>exact ⟨0,Nat.zero_le _,rfl,an.o⟩
 clear an
 obtain ⟨k,hk,rfl,hI⟩:=hrel
 have hG:=HG.o.fr0 hI.fr
 have Zq:ca wr p 148 (.slice (so d) t.us.length L):=hG.cell 148 (by omega)
 have bw:=hI.fr.size
 have ax:=HG.o.len
 by_cases af:k < t.us.length
 ·have ay:(k:Int) < (t.us.length:Int):=by omega
  have l:=hG.row.ppl k af
  obtain ⟨u,hu⟩:∃ u,u=t.us[k]:=⟨_,rfl⟩
  rw [<- hu] at l
  have bc:(t.us.take (k+1)).flatMap U.cells=(t.us.take k).flatMap U.cells ++ u.cells:=by
   rw [take_succ_eq_append_getElem af,flatMap_append,<- hu]
   simp
  obtain ⟨y0,y1,y2,y3,y4,y5,y6,y7,y8,y9,z⟩:=u
  obtain ⟨⟨v,hc,ho,E⟩,hz,ad⟩:=hI
  obtain ⟨H,I,rfl⟩:=fR ho
  have HC:=aA hc
  have HZ:=aA hz
  have HO:=(show Hi (wr.ownsRow w.heap.size 85 11 (.slice H k I) k ((t.us.take k).flatMap U.cells)) from ho)
  have ap:=aA E
  have bi:=aA bc
  have Q:w.heap.size < wr.heap.size:=aI (hc 0 (by omega))
  have aw:p < wr.heap.size:=by omega
  have n:=hG.row.lt
  have bu:d < w.heap.size:=HG.o.row.lt
  have R:wr.cell? ⟨w.heap.size,148,none⟩=some (.slice H k I):=by have:=hc 148 (by omega);simpa [dF] using this
  have J:∀ Z c,Fr Z wr c->w.heap.size∉Z->p∉Z->d∉Z->(fun c:World=>ca c w.heap.size 148 (.slice H k I)/\ca c p 148 (.slice (so d) t.us.length L)/\ca c d (k*11) (.int .i64 y0)/\ca c d (k*11+1) (.int .i64 y1)/\ca c d (k*11+2) (.int .i64 y2)/\ca c d (k*11+3) (.int .i64 y3)/\ca c d (k*11+4) (.int .i64 y4)/\ca c d (k*11+5) (.int .i64 y5)/\ca c d (k*11+6) (.int .i64 y6)/\ca c d (k*11+7) (.int .i64 y7)/\ca c d (k*11+8) (.int .i64 y8)/\ca c d (k*11+9) (.int .i64 y9)/\ca c d (k*11+10) (.int .i64 z)) c:=fun Z c r n1 n2 C=>⟨(r.cell _ 148 Q n1).trans R,(r.cell p 148 aw n2).trans Zq,(r.cell d _ n C).trans (l 0 _ rfl),(r.cell d _ n C).trans (l 1 _ rfl),(r.cell d _ n C).trans (l 2 _ rfl),(r.cell d _ n C).trans (l 3 _ rfl),(r.cell d _ n C).trans (l 4 _ rfl),(r.cell d _ n C).trans (l 5 _ rfl),(r.cell d _ n C).trans (l 6 _ rfl),(r.cell d _ n C).trans (l 7 _ rfl),(r.cell d _ n C).trans (l 8 _ rfl),(r.cell d _ n C).trans (l 9 _ rfl),(r.cell d _ n C).trans (l 10 _ rfl)⟩
  have m:=J [] wr.drew ((r0 _ _).drew) (by simp) (by simp) (by simp)
  have be:=hz 148
  clear hc ho E hz bc hu l R
  go_wp2_with fail
  refine OneFree.region (fun c:World=>c.cell? ⟨w.heap.size,148,none⟩=some (.slice H k I)/\c.cell? ⟨p,148,none⟩=some (.slice (so d) t.us.length L)/\c.cell? ⟨d,k*11,none⟩=some (.int .i64 y0)/\c.cell? ⟨d,k*11+1,none⟩=some (.int .i64 y1)/\c.cell? ⟨d,k*11+2,none⟩=some (.int .i64 y2)/\c.cell? ⟨d,k*11+3,none⟩=some (.int .i64 y3)/\c.cell? ⟨d,k*11+4,none⟩=some (.int .i64 y4)/\c.cell? ⟨d,k*11+5,none⟩=some (.int .i64 y5)/\c.cell? ⟨d,k*11+6,none⟩=some (.int .i64 y6)/\c.cell? ⟨d,k*11+7,none⟩=some (.int .i64 y7)/\c.cell? ⟨d,k*11+8,none⟩=some (.int .i64 y8)/\c.cell? ⟨d,k*11+9,none⟩=some (.int .i64 y9)/\c.cell? ⟨d,k*11+10,none⟩=some (.int .i64 z)) 16 (by kernel_rfl) ?_
  refine (show OneFree Tryz.prog Region.Mode.any _ _ _ 16 17 (Array.replicate 17 false) _ _ from ?_)
  refine tv 0 m ?_;try simp only [Act.put,Z]
  refine tv 1 m ?_;try simp only [Act.put,Z]
  refine tv 2 m ?_;try simp only [Act.put,Z]
  refine tv 3 m ?_;try simp only [Act.put,Z]
  refine tv 4 m ?_;try simp only [Act.put,Z]
  refine tv 5 m ?_;try simp only [Act.put,Z]
  refine tv 6 m ?_;try simp only [Act.put,Z]
  refine tv 7 m ?_;try simp only [Act.put,Z]
  refine tv 8 m ?_;try simp only [Act.put,Z]
  refine tv 9 m ?_;try simp only [Act.put,Z]
  refine tv 10 m ?_;try simp only [Act.put,Z]
  refine tv 11 m ?_;try simp only [Act.put,Z]
  refine o1 12 fun K' f=>?_
  have A:=aA f
  clear f
  go_simp
  obtain ⟨W2,O⟩:∃ W,W=(wr.alloc (.cells #[Value.int .i64 y0,.int .i64 y1,.int .i64 y2,.int .i64 y3,.int .i64 y4,.int .i64 y5,.int .i64 y6,.int .i64 y7,.int .i64 y8,.int .i64 y9,.int .i64 z] 85)).drew:=⟨_,rfl⟩
  rw [<- O]
  have P:Fr [] wr W2:=by rw [O];exact ((r0 _ _).alloc _).drew
  have az:∀ (j:Nat) (y:Value),[Value.int .i64 y0,.int .i64 y1,.int .i64 y2,.int .i64 y3,.int .i64 y4,.int .i64 y5,.int .i64 y6,.int .i64 y7,.int .i64 y8,.int .i64 y9,.int .i64 z][j]?=some y->W2.cell? ((⟨wr.heap.size,0,none⟩:Addr).add j)=some y:=by rw [O];exact cU wr [Value.int .i64 y0,.int .i64 y1,.int .i64 y2,.int .i64 y3,.int .i64 y4,.int .i64 y5,.int .i64 y6,.int .i64 y7,.int .i64 y8,.int .i64 y9,.int .i64 z] 85
  have bv:=P.size
  have ba:W2.ownsRow w.heap.size 85 11 (.slice H k I) k ((t.us.take k).flatMap U.cells):=aF HO.o P (by simp)
  clear O m
  have m:=J [] W2 P (by simp) (by simp) (by simp)
  refine A.o _ _ ⟨fun _=>m,?_⟩
  clear A K';try simp only [Act.put,Z]
  refine o1 13 fun K' f=>?_
  have A:=aA f
  clear f
  rw [if_pos (by rfl)]
  refine kS _ _ 82 rfl w.heap.size 85 ak zeroU.val 11 88 Tryz.underlying82 bp bq br bs rfl (.slice H k I) k ((t.us.take k).flatMap U.cells) rfl ba ⟨wr.heap.size,0,none⟩ 1 1 [Value.int .i64 y0,.int .i64 y1,.int .i64 y2,.int .i64 y3,.int .i64 y4,.int .i64 y5,.int .i64 y6,.int .i64 y7,.int .i64 y8,.int .i64 y9,.int .i64 z] rfl rfl az (by simp [Value.oneCell']) (by unfold maxLen;omega) (by omega) (by omega) (by omega) ?_
  intro v3 w3 ah bl ab
  obtain ⟨Y,c3,rfl⟩:=bK ah (by omega)
  have bk:=bE ab
  have D:Fr (Value.ownBlock (.slice H k I)).toList wr w3:=P.of0.trans bk (fun b hb=>.inl hb)
  have n1:w.heap.size∉(Value.ownBlock (.slice H k I)).toList:=fun e=>ap.o (by simpa using e)
  have n2:p∉(Value.ownBlock (.slice H k I)).toList:=fun e=>by have:=(HO.o.lt p (by simpa using e)).1;omega
  have C:d∉(Value.ownBlock (.slice H k I)).toList:=fun e=>by have:=(HO.o.lt d (by simpa using e)).1;omega
  clear m
  have m:=J _ w3 D n1 n2 C
  have z3:w3.frozen? ⟨w.heap.size,148,none⟩=false:=(D.frozen _ 148 Q n1).trans be
  have bh:=(show Hi (w3.ownsRow w.heap.size 85 11 (.slice (so Y) (k+1) c3) (k+1) ((t.us.take k).flatMap U.cells ++ [Value.int .i64 y0,.int .i64 y1,.int .i64 y2,.int .i64 y3,.int .i64 y4,.int .i64 y5,.int .i64 y6,.int .i64 y7,.int .i64 y8,.int .i64 y9,.int .i64 z])) from ah)
  have bg:=(show Hi _ from fE ab)
  refine A.o _ _ ⟨fun _=>m,?_⟩
  clear A K' az ba ah bl ab;try simp only [Act.put,Z]
  refine o1 14 fun K' f=>?_
  have A:=aA f
  clear f
  go_simp
  refine A.o _ _ ⟨fun _=>m,?_⟩
  clear A K';try simp only [Act.put,Z]
  refine o1 15 fun K' f=>?_
  have A:=aA f
  clear f
  go_simp
  refine A.o _ _ ⟨fun _=>m,?_⟩
  clear A K';try simp only [Act.put,Z]
  refine o1 16 fun K' f=>?_
  have A:=aA f
  clear f
  obtain ⟨k1,k2,_⟩:=m
  go_simp
  refine A.o _ _ ⟨fun h6=>absurd rfl h6,OneFree.done (by kernel_rfl) ?_ _⟩
  clear A K'
  have bj:Y≠w.heap.size:=fun e=>by
   rcases bg.o Y rfl with q|q
   ·exact ap.o (by rw [q,e])
   omega
  have Zr:Fr [] w (w3.setCell ⟨w.heap.size,148,none⟩ (.slice (so Y) (k+1) c3)):=(ad.trans D (fun b hb=>.inr (HO.o.lt b (by simpa using hb)).1)).setCell _ _ (.inr (Nat.le_refl _))
  have av:CpI w w.heap.size t (k+1) (w3.setCell ⟨w.heap.size,148,none⟩ (.slice (so Y) (k+1) c3)):=by
   refine ⟨⟨.slice (so Y) (k+1) c3,fun j hj=>?_,?_,by simp [Value.ownBlock];exact bj⟩,fun j=>?_,Zr⟩
   ·by_cases e:j=148
    ·subst e
     rw [dO _ _ _ _ _ k1]
     rfl
    rw [cA _ _ _ _ _ _ (.inr (fun e2=>e e2.symm)),D.cell _ j Q n1,HC.o j hj]
    unfold dF
    have:¬ j=148:=e
    by_cases e0:j=0
    ·simp [e0]
    by_cases e1:j < 145
    ·simp [e0,e1]
    have:j=145\/j=146\/j=147:=by omega
    rcases this with rfl|rfl|rfl <;> rfl
   ·rw [bi.o]
    refine aF bh.o ((r0 [w.heap.size] w3).setCell _ _ (by simp)) (fun g hg e=>?_)
    have h1:g=w.heap.size:=by simpa using e
    have h2:Y=g:=by simpa [Value.ownBlock] using hg
    omega
   rw [World.frozen?_setCell,D.frozen _ j Q n1]
   exact HZ.o j
  have bf:=aA av
  clear av Zr k1 k2 z3 J
  go_wp2_with fail
  go_roundw
  case rel=>exact ⟨k+1,af,by go_num,bf.o⟩
  case measure=>simp [intOf];omega
 have ay:¬ (k:Int) < (t.us.length:Int):=by omega
 have bm:k=t.us.length:=by omega
 obtain ⟨⟨v,hc,ho,E⟩,hz,ad⟩:=hI
 rw [bm,take_of_length_le (Nat.le_refl _)] at ho
 obtain ⟨F,B,rfl,bo,bb⟩:=PRow.of_owns ho rfl bn
 have HR:=(show Hi (RG wr w.heap.size F B t) from ⟨hc,hz,bb,ax,fun e=>E (by rw [e];rfl)⟩)
 clear hc hz ho E bb
 go_wp2_with fail
 go_ret
 exact ⟨_,rfl,F,⟨B,HR.o⟩,Nat.le_refl _,bo,ad⟩
