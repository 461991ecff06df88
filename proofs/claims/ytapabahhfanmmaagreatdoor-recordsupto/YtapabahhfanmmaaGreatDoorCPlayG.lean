import Derived.Test.YtapabahhfanmmaaGreatDoorCLaw2
import Derived.Test.YtapabahhfanmmaaGreatDoorCFolkG
import Derived.Test.YtapabahhfanmmaaGreatDoorCRefN
namespace Go.Proofs.YtapabahhfanmmaaGreatDoor
open Go.RowKit List
set_option maxRecDepth 100000
set_option maxHeartbeats 2000000
theorem qE (p:Int):∀ (l:List Cm) (k:Nat) (t:T),(aW p k l t).1.length<=l.length
 | [],k,t=>by simp [aW]
 | c :: l,k,t=>by
  rw [qD]
  have:=qE p l (k+1) (dZ t p c).2
  dsimp only
  split
  ·simp only [length_cons];omega
  simp only [length_cons];omega
theorem yN (t:T)(a l2:List Cm):(aM t a l2).2.1.length<=a.length/\(aM t a l2).2.2.length<=l2.length:=by
 unfold aM
 split
 ·simp
 split
 ·simp
 exact ⟨qE _ _ _ _,qE _ _ _ _⟩
theorem jY {w:World}{base:Nat}{v:Value}{l:List Cm}(h:w.ownsRow base 81 5 v l.length (l.flatMap Cm.cells)):CmdV w v l:=by
 by_cases e:l.length=0
 ·obtain ⟨d,c,rfl⟩:=fF h
  have:l=[]:=eq_nil_of_length_eq_zero e
  subst this
  exact .inl ⟨d,c,rfl,rfl⟩
 obtain ⟨g,a,rfl⟩:=bK h (by omega)
 have f:=h.cells (g:=g) rfl
 refine .inr ⟨g,a,rfl,fun i hi j u b=>?_,(h.lt g rfl).2⟩
 have k:j < 5:=(gs.1 b).1
 have:=f (i*5+j) u ((oA l i j hi k).trans b)
 rwa [Addr.add_lit,Nat.zero_add] at this
theorem pA {w:World}{b c a:Nat}{us:List U}{cs:Array Value}{e:TypeId}{fz:Nat×Nat}(h:PRow w c a us)(hb:w.heap[b]?=some (.cells cs e fz))(d:e≠85):c≠b:=fun x=>by
 subst x
 obtain ⟨cur,f,_⟩:=h.h
 rw [f] at hb
 cases hb
 exact d rfl
theorem OI (g:Value) (L K:List Nat) (t:T) (F N:Nat) (p l2:List Cm) (v1 v2:Value) (w0 w:World) (hG:Gm w g L t) (hB:Bk w F K N) (hA:∀ x∈L,x≠F/\x∉K) (hN:N<=2200000) (dh:Sd w) (h1:CmdR w0 v1 p) (h2:CmdR w0 v2 l2) (co:Fr [] w0 w)
  (am:∀ x∈L,w0.heap.size<=x) (aq:p.length<=2000000) (ar:l2.length<=2000000) :
  Cs 53 #[g,.pointer (so F),v1,v2] w fun e w'=>e=.returned (.bool true)/\SR w F L K N t.turn g w':=by
 have H:=hG.lt
 obtain ⟨⟨k,f,pb,cf,m,qb,ax,rfl,rfl,hx,hy,cr,de⟩,eb,Y,bp,bt⟩:=hG
 simp only [nodup_cons,mem_cons,not_mem_nil,or_false,not_or,nodup_nil,and_true,not_false_eq_true] at eb
 have ac:=H k (by simp)
 have cq:=H f (by simp)
 have ek:=H pb (by simp)
 have dg:=H m (by simp)
 have el:=H qb (by simp)
 have ej:=am f (by simp)
 have en:=am m (by simp)
 have dc:=am qb (by simp)
 have aj:=hA k (by simp)
 have Q:=hA f (by simp)
 have dv:=hA pb (by simp)
 have R:=hA m (by simp)
 have cj:=hA qb (by simp)
 have ei:=hB.lt
 have cu:=hB.kl
 have cz:=yN t p l2
 have I:=And.intro (yM Y p l2) (OO Y bt p l2)
 have be:=yO Y bp p l2
 have C1:=kY p v1 w (h1.fr0 co) aq
 have dm:=aA cr
 have ds:=aA de
 have HB:=aA hB
 have cb:=aA Y
 have dp:=aA bp
 have H1:=aA h1
 have H2:=aA h2
 have dq:=aA I
 have dr:=aA be
 have dt:=aA dh
 have ai:=aA cu
 have ag:=aA co
 clear cr de hB hA H am Y bp h1 h2 I be dh cu
 go_enter Tryz.func53,Tryz.ntmps53
 go_wp2_with fail
 refine Calls.mono C1 ?_
 rintro e w1 ⟨J,rfl,bn,bj⟩
 have eo:=bj.size
 have C2:=kY l2 v2 w1 (CmdR.fr0 H2.o (ag.o.then0 bj)) ar
 clear C1
 go_wp2_with fail
 refine Calls.mono C2 ?_
 rintro e r ⟨z,rfl,bo,ao⟩
 have ep:=ao.size
 have ae:Fr [] w r:=bj.then0 ao
 have ev:r.cell? ⟨k,0,none⟩=some (.pointer (so f)):=(ae.cell k 0 ac (by simp)).trans hx
 have az:=aF bn ao (by simp)
 have C3:=IK f pb cf t p l2 J z r (dm.o.fr ae (by simp) (by simp)) (Sd.fr0 dt.o ae) cb.o bt.1 (jY az) (jY bo) aq ar
 have Zs:Hi (w1.ownsRow w.heap.size 81 5 J p.length (p.flatMap Cm.cells)):=bn
 have bz:Hi (r.ownsRow w1.heap.size 81 5 z l2.length (l2.flatMap Cm.cells)):=bo
 clear C2 bn bo az
 go_wp2_with fail
 refine Calls.mono C3 ?_
 rintro e M ⟨l,a,aw,rfl,bk,V,da,br⟩
 have eq:=bk.size
 obtain ⟨t',bs⟩:∃ x,(aM t p l2).1=x:=⟨_,rfl⟩
 obtain ⟨ra,B⟩:∃ x,(aM t p l2).2.1=x:=⟨_,rfl⟩
 obtain ⟨rc,C⟩:∃ x,(aM t p l2).2.2=x:=⟨_,rfl⟩
 have af:Fr [f] w M:=(ae.of0 (S:=[f])).trans bk (by simp)
 have cg:Fr [] w0 M:=ag.o.trans af (by simp;omega)
 have bf:RG M m qb ax t:=ds.o.fr af (by simp;omega) (by simp;omega)
 have ew:M.cell? ⟨k,1,none⟩=some (.pointer (so m)):=(af.cell k 1 ac (by simp;omega)).trans hy
 have C4:=zK uA m qb ax t p l2 v1 v2 M bf cb.o dp.o bt.1 (CmdR.at H1.o cg dc) (CmdR.at H2.o cg dc) aq ar
 rw [bs,B,C] at C4
 rw [B,C] at br
 rw [bs] at V
 rw [B,C] at cz
 have cd:=aA br
 have ah:=aA V
 clear C3 br V bf B C
 go_wp2_with fail
 refine Calls.mono C4 ?_
 rintro e O ⟨l',rfl,⟨c,P,bg,y,bq⟩,dd⟩
 have er:=y.size
 have aa:RefsA O r.heap.size l ra rc:=RefsA.fr cd.o y (by simp;omega)
 have C5:=zX _ _ ra rc l l' O aa.refs dd (by omega) (by omega)
 have av:=aA bg
 clear C4 bg dd
 go_wp2_with fail
 refine Calls.mono C5 ?_
 rintro e w5 ⟨rfl,bl⟩
 have es:=bl.size
 have bh:Fr [f,m,qb] r w5:=((bk.mono (fun x hx=>.inl (by simp_all))).trans y (fun x hx=>.inl (by simp at hx;simp;omega))).then0 bl
 have ch:Fr [] w0 w5:=(ag.o.then0 ae).trans bh (by simp;omega)
 have an:∀ b,J.ownBlock=some b->w.heap.size<=b/\b < w1.heap.size:=fun b hb=>World.ownsRow.lt Zs.o b hb
 have bi:∀ b,z.ownBlock=some b->w1.heap.size<=b/\b < r.heap.size:=fun b hb=>World.ownsRow.lt bz.o b hb
 have ba:w5.ownsRow w.heap.size 81 5 J p.length (p.flatMap Cm.cells):=aF (aF Zs.o ao (by simp)) bh (fun b hb=>by have:=an b hb;simp;omega)
 have bc:w5.ownsRow w1.heap.size 81 5 z l2.length (l2.flatMap Cm.cells):=aF bz.o bh (fun b hb=>by have:=bi b hb;simp;omega)
 have ed:=ag.o.size
 have C6:=lA w.heap.size p v1 J w0 w5 H1.o ch ed ba aq
 have ce:=aA aa
 clear C5 aa ba
 go_wp2_with fail
 refine Calls.mono C6 ?_
 rintro e w6 ⟨rfl,ap⟩
 have et:=ap.size
 have du:Fr [] w0 w6:=ch.trans ap (fun b hb=>.inr (by have:=an b (by simpa using hb);omega))
 have bd:w6.ownsRow w1.heap.size 81 5 z l2.length (l2.flatMap Cm.cells):=aF bc ap (fun b hb e=>by have:=bi b hb;have:=an b (by simpa using e);omega)
 have C7:=lA w1.heap.size l2 v2 z w0 w6 H2.o du (by omega) bd ar
 clear C6 bc bd
 go_wp2_with fail
 refine Calls.mono C7 ?_
 rintro e w7 ⟨rfl,cp⟩
 have eu:=cp.size
 obtain ⟨d,x0,x1,ea,bm,dz,W,X,ay⟩:=(show RefsA O r.heap.size l ra rc from ce.o)
 obtain ⟨D,hD⟩:∃ D,D=J.ownBlock.toList ++ z.ownBlock.toList:=⟨_,rfl⟩
 have s:∀ b∈D,w.heap.size<=b/\b < r.heap.size:=fun b hb=>by
  rw [hD] at hb
  rcases mem_append.1 hb with q|q
  ·have:=an b (by simpa using q);omega
  have:=bi b (by simpa using q);omega
 have E:Fr D O w7:=(((bl.of0 (S:=D)).trans ap (fun b hb=>.inl (by rw [hD];exact mem_append_left _ hb))).trans cp (fun b hb=>.inl (by rw [hD];exact mem_append_right _ hb)))
 have cw:w7.heap[d]?=some (.cells [x0,x1].toArray 25):=E.heap bm (fun e=>by have:=s _ e;omega)
 have cx:=aF W E (fun b hb e=>by have:=s b e;have:=cG W hb;omega)
 have cy:=aF X E (fun b hb e=>by have:=s b e;have:=cG X hb;omega)
 have ck:Bk w7 F K N:=by
  have fA:Fr [f,m,qb] w O:=(af.mono (fun x hx=>.inl (by simp_all))).trans y (fun x hx=>.inl (by simp at hx;simp;omega))
  refine (HB.o.fr fA (by simp;omega) (fun b hb e=>?_)).fr E (fun e=>by have:=s _ e;omega) (fun b hb e=>by have:=s _ e;have:=ai.o b hb;omega)
  simp at e
  rcases e with rfl|rfl|rfl
  ·exact Q.2 hb
  ·exact R.2 hb
  exact cj.2 hb
 have C8:=yD F N d r.heap.size K [x0,x1] w7 ck hN (by simp) cw dz (by omega) (fun x hx=>by have:=ai.o x hx;omega) (fun j v hv=>?_) (fun i j v v' gg ct hv bu hg=>?_)
 rotate_left
 ·have:j=0\/j=1:=by have:=(gs.1 hv).1;simp at this;omega
  rcases this with rfl|rfl
  ·cases hv;exact ⟨_,_,by omega,cx⟩
  cases hv;exact ⟨_,_,by omega,cy⟩
 ·have dx:i=0\/i=1:=by have:=(gs.1 hv).1;simp at this;omega
  have dy:j=0\/j=1:=by have:=(gs.1 bu).1;simp at this;omega
  rcases dx with rfl|rfl <;> rcases dy with rfl|rfl
  ·exact absurd rfl ct
  ·cases hv;cases bu;exact ay gg hg
  ·cases hv;cases bu;exact fun e=>ay gg e hg
  exact absurd rfl ct
 subst ea
 have A:=aA E
 have bx:=aA bm
 have dn:Hi (∀ b,x0.ownBlock=some b->r.heap.size<=b/\b < O.heap.size):=fun b hb=>W.lt b hb
 have Zt:Hi (∀ b,x1.ownBlock=some b->r.heap.size<=b/\b < O.heap.size):=fun b hb=>X.lt b hb
 clear C7 ck cw E bm
 go_wp2_with fail
 refine Calls.mono C8 ?_
 rintro e w8 ⟨rfl,hown⟩
 have cc:=aA hown
 clear C8 hown
 go_wp2_with fail
 go_ret
 refine ⟨rfl,?_⟩
 obtain ⟨⟨K',dw,cn⟩,al⟩:=cc.o
 have I:=dq.o
 have db:=dr.o
 rw [bs] at I db
 have eh:d < O.heap.size:=aH bx.o
 have ef:a < M.heap.size:=ah.o.row.lt
 have eg:c < O.heap.size:=av.o.row.lt
 have ak:∀ b∈d :: fK [x0,x1],r.heap.size<=b/\b < O.heap.size:=fun b hb=>by
  rcases mem_cons.1 hb with q|q
  ·omega
  obtain ⟨u,hu,ad⟩:=mem_filterMap.1 q
  simp at hu
  rcases hu with rfl|rfl
  ·exact dn.o b ad
  exact Zt.o b ad
 have cm:∀ b∈d :: fK [x0,x1],b≠a/\b < M.heap.size:=fun b hb=>by
  obtain ⟨ex,y0,y1,e1,e2,e3,e4,e5,_⟩:=(show RefsA M r.heap.size _ ra rc from cd.o)
  cases e1
  have ab:O.heap[d]?=M.heap[d]?:=y.block d (aH e2) (by simp;omega)
  rw [bx.o,e2] at ab
  cases ab
  rcases mem_cons.1 hb with q|q
  ·subst q
   exact ⟨fun e=>pA ah.o.row e2 (by decide) e.symm,aH e2⟩
  obtain ⟨u,hu,ad⟩:=mem_filterMap.1 q
  simp at hu
  have di:∀ (v:Value) (n:Nat) (xs:List Value),M.ownsRow r.heap.size 3 1 v n xs->v.ownBlock=some b->b≠a/\b < M.heap.size:=fun v n xs ho au=>by
   refine ⟨fun e=>?_,(ho.lt b au).2⟩
   rcases ho.2 with ⟨rfl,_⟩|⟨g,cf,cur,rfl,_,hh,_⟩
   ·cases au
   simp [Value.ownBlock] at au
   subst au
   exact pA ah.o.row hh (by decide) e.symm
  rcases hu with rfl|rfl
  ·exact di _ _ _ e4 ad
  exact di _ _ _ e5 ad
 have Zq:a≠F/\a∉K:=by
  rcases da with e|e
  ·rw [e];exact dv
  exact ⟨by omega,fun q=>by have:=ai.o a q;omega⟩
 have Zr:c≠F/\c∉K:=by
  rcases bq with e|e
  ·rw [e];exact cj
  exact ⟨by omega,fun q=>by have:=ai.o c q;omega⟩
 have n8:∀ b,b≠F->b∉K->b∉d :: fK [x0,x1]->b∉F :: (K ++ d :: fK [x0,x1]):=fun b h1 h2 h3 hm=>by
  rcases mem_cons.1 hm with q|q
  ·exact h1 q
  rcases mem_append.1 q with q|q
  ·exact h2 q
  exact h3 q
 have h:∀ b,b < w.heap.size->b∉d :: fK [x0,x1]:=fun b hb hm=>by have:=ak b hm;omega
 have nD:∀ b,b < w.heap.size\/r.heap.size<=b->b∉D:=fun b hb hm=>by have:=s b hm;omega
 have dj:a∉d :: fK [x0,x1]:=fun hm=>(cm a hm).1 rfl
 have dk:c∉d :: fK [x0,x1]:=fun hm=>by
  have:=ak c hm
  have:=(cm c hm).2
  rcases bq with e|e <;> omega
 have ec:a < w.heap.size\/r.heap.size<=a:=by rcases da with e|e <;> omega
 have em:c < w.heap.size\/M.heap.size<=c:=by rcases bq with e|e <;> omega
 have cs:GS w8 f a aw t':=((ah.o.fr y (by simp;omega) (by simp;omega)).fr A.o (nD f (by omega)) (nD a ec)).fr al (n8 f Q.1 Q.2 (h f cq)) (n8 a Zq.1 Zq.2 dj)
 have df:RG w8 m c P t':=(av.o.fr A.o (nD m (by omega)) (nD c (by omega))).fr al (n8 m R.1 R.2 (h m dg)) (n8 c Zr.1 Zr.2 dk)
 have bw:Fr [f,m,qb] w O:=(af.mono (fun x hx=>.inl (by simp_all))).trans y (fun x hx=>.inl (by simp at hx;simp;omega))
 have dl:∀ o,w8.cell? ⟨k,o,none⟩=w.cell? ⟨k,o,none⟩:=fun o=>by
  rw [al.cell k o (by omega) (n8 k aj.1 aj.2 (h k ac)),A.o.cell k o (by omega) (nD k (by omega)),bw.cell k o ac (by simp;omega)]
 refine ⟨⟨[k,f,a,m,c],t',K',⟨⟨k,f,a,aw,m,c,P,rfl,rfl,(dl 0).trans hx,(dl 1).trans hy,cs,df⟩,?_,I.1,db,I.2⟩,dw,⟨?_,?_⟩,?_,?_⟩,?_⟩
 ·simp only [nodup_cons,mem_cons,not_mem_nil,or_false,not_or,nodup_nil,and_true,not_false_eq_true]
  omega
 ·intro x hx
  simp only [mem_cons,not_mem_nil,or_false] at hx |-
  omega
 ·intro x hx
  have ee:x∈[k,f,m,c]:=hx
  show x∈[k,f,m,qb]\/_
  simp only [mem_cons,not_mem_nil,or_false] at ee |-
  omega
 ·intro x hx
  rcases cn x hx with q|q|q
  ·exact .inl q
  ·exact .inr (by have:=ak x q;omega)
  exact .inr (by omega)
 ·intro x hx
  have bv:x≠F/\x∉K/\x∉d :: fK [x0,x1]/\x < w7.heap.size:=by
   simp only [mem_cons,not_mem_nil,or_false] at hx
   rcases hx with rfl|rfl|rfl|rfl|rfl
   ·exact ⟨aj.1,aj.2,h _ ac,by omega⟩
   ·exact ⟨Q.1,Q.2,h _ cq,by omega⟩
   ·exact ⟨Zq.1,Zq.2,dj,by omega⟩
   ·exact ⟨R.1,R.2,h _ dg,by omega⟩
   exact ⟨Zr.1,Zr.2,dk,by omega⟩
  refine ⟨bv.1,fun hm=>?_⟩
  rcases cn x hm with q|q|q
  ·exact bv.2.1 q
  ·exact bv.2.2.1 q
  omega
 refine ((bw.mono (S':=F :: ([k,f,pb,m,qb].eraseIdx 2 ++ K)) (fun x hx=>.inl ?_)).trans A.o (fun b hb=>.inr (s b hb).1)).trans al (fun b hb=>?_)
 ·show x∈F :: ([k,f,m,qb] ++ K)
  simp only [mem_cons,not_mem_nil,or_false] at hx
  simp only [mem_cons,mem_append,not_mem_nil,or_false]
  omega
 rcases mem_cons.1 hb with q|q
 ·exact .inl (by simp [q])
 rcases mem_append.1 q with q|q
 ·exact .inl (by simp [q])
 exact .inr (by have:=ak b q;omega)
