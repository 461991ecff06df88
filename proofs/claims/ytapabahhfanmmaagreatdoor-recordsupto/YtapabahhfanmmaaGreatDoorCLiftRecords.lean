import Derived.Test.YtapabahhfanmmaaGreatDoorCBookQ
import Derived.Test.YtapabahhfanmmaaGreatDoorTie
import Derived.Test.YtapabahhfanmmaaGreatDoorCards
import Derived.SevenTiedAt
import Derived.Deep.DeepHandedRow
namespace Go.Proofs.YtapabahhfanmmaaGreatDoor
open Go.ChangeShapes Go.WideShapes Go.ChangeAt Go.WideMaps Go.WideElems Go.RowKit List
set_option maxRecDepth 100000
set_option maxHeartbeats 2000000
theorem EJ {H:Type}(d:DataW H):1<=Rows.uptoBulk d:=by
 rcases d with l|_|_|_|_|_|_|_
 ·cases l <;> simp [Rows.uptoBulk]
 all_goals simp [Rows.uptoBulk]
theorem pY {H:Type}:∀ l:List (DataW H),l.length<=Rows.uptoBulkAll l
 | []=>Nat.zero_le _
 | d :: l=>by
  have h1:=EJ d
  have a:=pY l
  simp only [Rows.uptoBulkAll,length_cons]
  omega
theorem uF {H:Type}{d:DataW H}:∀ {l:List (DataW H)},d∈l->Rows.uptoBulk d<=Rows.uptoBulkAll l
 | [],h=>by cases h
 | e :: l,h=>by
  simp only [Rows.uptoBulkAll]
  rcases mem_cons.1 h with rfl|h
  ·omega
  have:=uF h
  omega
theorem uE {H:Type}{d:DataW H}{l:List (DataW H)}{i:Nat}(h:l[i]?=some d):Rows.uptoBulk d<=Rows.uptoBulkAll l:=uF (mem_of_getElem? h)
theorem tF {w:World}{a:Addr}{v:Value}(h:w.cell? (a.add 0)=some v):a=⟨a.block,a.off,none⟩:=by
 have e:=lW (i:=0) h
 have:a.add 0=a:=by simp [Addr.add]
 rw [this,Nat.add_zero] at e
 exact e
section
variable {H:Type} {enc:TypeId×Value->H} {w:World} {base:Nat} {spare:Nat->Bool} {held:Bool} {fuel:Nat} {cs:List Value} {x:DataW H×List MemPlace}
theorem FC (h:DataW.trod enc Tryz.prog w base spare held fuel 81 cs=some x):cs.length=5/\∀ j,j < 5->∃ n,cs[j]?=some (ii n):=by
 obtain ⟨xs,n,_,rfl,hl,d,c⟩:=DataW.trod_struct Tryz.underlying81 h
 have i:Tryz.prog.cellsOf 3=1:=by kernel_rfl
 have p:Tryz.prog.cellsOf 81=5:=by kernel_rfl
 rw [p] at hl
 refine ⟨hl,fun j q=>?_⟩
 have a:∀ (o:Nat) (y:DataW H×List MemPlace) (m:Nat),DataW.trod enc Tryz.prog w base spare held m 3 ((cs.drop o).take (Tryz.prog.cellsOf 3))=some y->∃ n,cs[o]?=some (ii n):=by
  intro o y m b
  obtain ⟨k,e,_,hw⟩:=DataW.trod_int Tryz.underlying3 b
  rw [i] at e
  refine ⟨k,?_⟩
  have:=congrArg (fun l:List Value=>l[0]?) e
  simpa using this
 have g:xs.length=5:=by simpa using d
 obtain ⟨y,b⟩:∃ y,xs[j]?=some y:=⟨_,getElem?_eq_getElem (by omega)⟩
 have f:j=0\/j=1\/j=2\/j=3\/j=4:=by omega
 rcases f with rfl|rfl|rfl|rfl|rfl
 ·exact a 0 y n ((c 0 _ rfl).trans b)
 ·exact a 1 y n ((c 1 _ rfl).trans b)
 ·exact a 2 y n ((c 2 _ rfl).trans b)
 ·exact a 3 y n ((c 3 _ rfl).trans b)
 exact a 4 y n ((c 4 _ rfl).trans b)
theorem xT {t e:TypeId}(ht:Tryz.prog.underlying t=some (.slice e))(h:DataW.trod enc Tryz.prog w base spare held fuel t cs=some x):∃ b n c,cs=[.slice b n c]:=by
 rcases Deep.open_slice ht h with ⟨h1,_⟩|⟨a,f,d,m,n,D,g,h1,_⟩
 ·exact ⟨_,_,_,h1⟩
 exact ⟨_,_,_,h1⟩
theorem xS (h:DataW.trod enc Tryz.prog w base spare held fuel 39 cs=some x):∃ t n c l,cs=[.slice t n c]/\CmdR w (.slice t n c) l/\l.length<=Rows.uptoBulk x.1:=by
 rcases Deep.open_slice Tryz.underlying39 h with ⟨rfl,rfl⟩|⟨a,d,k,m,n,D,P,rfl,_,I,B,hm,rfl,A⟩
 ·exact ⟨none,0,0,[],rfl,.inl ⟨none,0,rfl,rfl⟩,Nat.zero_le _⟩
 have J:d<=m:=by rw [hm];split <;> omega
 have E:Tryz.prog.cellsOf 81=5:=by kernel_rfl
 by_cases v:d=0
 ·subst v
  exact ⟨some a,0,k,[],rfl,.inl ⟨_,_,rfl,rfl⟩,Nat.zero_le _⟩
 rw [E] at A
 have f:∀ i,i < m->∀ j,j < 5->∃ n,w.cell? ((a.add (i*5)).add j)=some (ii n):=by
  intro i hi j p
  obtain ⟨F,y,z⟩:=A i hi
  obtain ⟨hl,r⟩:=FC z
  obtain ⟨n,e⟩:=r j p
  refine ⟨n,?_⟩
  rw [(World.cells?_some y).2.2 j (by omega)]
  exact e
 obtain ⟨R,b⟩:=f 0 (by omega) 0 (by omega)
 have q:(a.add (0*5)).add 0=a.add 0:=by simp [Addr.add]
 rw [q] at b
 have g:∀ i:Fin d,∃ c:Cm,w.rangeAt a.block (a.off+i.1*5) c.cells:=by
  intro ⟨i,hi⟩
  have o:∀ j,j < 5->∃ n,w.cell? ⟨a.block,a.off+i*5+j,none⟩=some (ii n):=fun j p=>by
   obtain ⟨n,e⟩:=f i (by omega) j p
   rw [lW (i:=i*5) b,Addr.add_lit] at e
   exact ⟨n,e⟩
  obtain ⟨K,v⟩:=o 0 (by omega)
  obtain ⟨L,h1⟩:=o 1 (by omega)
  obtain ⟨M,y⟩:=o 2 (by omega)
  obtain ⟨N,z⟩:=o 3 (by omega)
  obtain ⟨O,Q⟩:=o 4 (by omega)
  refine ⟨⟨K,L,M,N,O⟩,fun j u C=>?_⟩
  have p:j < 5:=(gs.1 C).1
  have s:j=0\/j=1\/j=2\/j=3\/j=4:=by omega
  rcases s with rfl|rfl|rfl|rfl|rfl <;> (cases C;assumption)
 refine ⟨some a,d,k,ofFn (fun i=>Classical.choose (g i)),rfl,.inr ⟨a.block,a.off,k,?_,?_,fun i hi=>?_⟩,?_⟩
 ·rw [length_ofFn,<- tF b]
 ·have:=lW (i:=0) b
  rw [this] at b
  exact aI b
 ·rw [List.getElem_ofFn]
  exact Classical.choose_spec (g ⟨i,by simpa using hi⟩)
 rw [length_ofFn]
 have:=pY ((range d).map D)
 simp only [length_map,length_range] at this
 simp only [Rows.uptoBulk]
 omega
theorem MN (h:DataW.trod enc Tryz.prog w base spare held fuel 70 cs=some x):∃ d:OpD,cs=d.cells/\CmdR w d.f d.fst/\CmdR w d.s d.snd/\d.fst.length<=Rows.uptoBulk x.1/\d.snd.length<=Rows.uptoBulk x.1/\d.tx.data.toList.length<=Rows.uptoBulk x.1:=by
 obtain ⟨xs,n,_,rfl,hl,c,b⟩:=DataW.trod_struct Tryz.underlying70 h
 have N:Tryz.prog.cellsOf 70=7:=by kernel_rfl
 have P:Tryz.prog.cellsOf 3=1:=by kernel_rfl
 have O:Tryz.prog.cellsOf 39=1:=by kernel_rfl
 have cS:Tryz.prog.cellsOf 9=1:=by kernel_rfl
 have cF:Tryz.prog.cellsOf 51=1:=by kernel_rfl
 have Q:Tryz.prog.cellsOf 25=1:=by kernel_rfl
 rw [N] at hl
 have q:xs.length=7:=by simpa using c
 have hx:∀ j,j < 7->∃ y,xs[j]?=some y:=fun j hj=>⟨_,getElem?_eq_getElem (by omega)⟩
 obtain ⟨y0,r⟩:=hx 0 (by omega)
 obtain ⟨J,e⟩:=hx 1 (by omega)
 obtain ⟨K,g⟩:=hx 2 (by omega)
 obtain ⟨L,p⟩:=hx 3 (by omega)
 obtain ⟨y4,t⟩:=hx 4 (by omega)
 obtain ⟨y5,v⟩:=hx 5 (by omega)
 obtain ⟨y6,z⟩:=hx 6 (by omega)
 have t0:DataW.trod enc Tryz.prog w base spare held n 3 ((cs.drop 0).take (Tryz.prog.cellsOf 3))=some y0:=(b 0 _ rfl).trans r
 have t1:DataW.trod enc Tryz.prog w base spare held n 39 ((cs.drop 1).take (Tryz.prog.cellsOf 39))=some J:=(b 1 _ rfl).trans e
 have t2:DataW.trod enc Tryz.prog w base spare held n 39 ((cs.drop 2).take (Tryz.prog.cellsOf 39))=some K:=(b 2 _ rfl).trans g
 have t3:DataW.trod enc Tryz.prog w base spare held n 9 ((cs.drop 3).take (Tryz.prog.cellsOf 9))=some L:=(b 3 _ rfl).trans p
 have t4:DataW.trod enc Tryz.prog w base spare held n 51 ((cs.drop 4).take (Tryz.prog.cellsOf 51))=some y4:=(b 4 _ rfl).trans t
 have t5:DataW.trod enc Tryz.prog w base spare held n 3 ((cs.drop 5).take (Tryz.prog.cellsOf 3))=some y5:=(b 5 _ rfl).trans v
 have t6:DataW.trod enc Tryz.prog w base spare held n 25 ((cs.drop 6).take (Tryz.prog.cellsOf 25))=some y6:=(b 6 _ rfl).trans z
 obtain ⟨k,A,_,_⟩:=DataW.trod_int Tryz.underlying3 t0
 obtain ⟨R,W,S,V,B,q1,b1⟩:=xS t1
 obtain ⟨sa,sn,sc,sl,C,q2,M⟩:=xS t2
 obtain ⟨tx,D,x3,_⟩:=DataW.trod_string Tryz.underlying9 t3
 obtain ⟨ia,il,ic,E⟩:=xT Tryz.underlying51 t4
 obtain ⟨m,F,_,_⟩:=DataW.trod_int Tryz.underlying3 t5
 obtain ⟨X,gl,Y,I⟩:=xT Tryz.underlying25 t6
 rw [P] at A F
 rw [O] at B C
 rw [cS] at D
 rw [cF] at E
 rw [Q] at I
 have hb:∀ (j:Nat) (y:DataW H×List MemPlace),xs[j]?=some y->Rows.uptoBulk y.1<=Rows.uptoBulk (DataW.agg (xs.map (·.1))):=fun j y hy=>by
  have:=uE (l:=xs.map (·.1)) (i:=j) (d:=y.1) (by rw [getElem?_map,hy];rfl)
  simp only [Rows.uptoBulk]
  omega
 refine ⟨⟨k,R,W,S,sa,sn,sc,tx,ia,il,ic,m,X,gl,Y,V,sl⟩,?_,q1,q2,Nat.le_trans b1 (hb 1 J e),Nat.le_trans M (hb 2 K g),Nat.le_trans (by rw [x3];simp [Rows.uptoBulk]) (hb 3 L p)⟩
 have a:∀ (o:Nat) (u:Value),(cs.drop o).take 1=[u]->cs[o]?=some u:=fun o u h=>by
  have:=congrArg (fun l:List Value=>l[0]?) h
  simpa using this
 apply ext_getElem?
 intro i
 by_cases hi:i < 7
 ·have h7:i=0\/i=1\/i=2\/i=3\/i=4\/i=5\/i=6:=by omega
  rcases h7 with rfl|rfl|rfl|rfl|rfl|rfl|rfl
  ·exact a 0 _ A
  ·exact a 1 _ B
  ·exact a 2 _ C
  ·exact a 3 _ D
  ·exact a 4 _ E
  ·exact a 5 _ F
  exact a 6 _ I
 rw [getElem?_eq_none (by omega),getElem?_eq_none (by simp;omega)]
theorem MO {A:Option Addr}{b f:Nat}{d:DataW H}{R:List MemPlace}(h:DataW.Trod enc Tryz.prog w base spare held 22 (.slice A b f) d R)(hb:Rows.uptoBulk d<=1048576):∃ l,pR w (.slice A b f) l/\l.length<=1048576:=by
 obtain ⟨fuel,h⟩:=h
 rcases Deep.open_slice Tryz.underlying22 h with ⟨h1,_⟩|⟨a,Q,F,m,n,D,X,h1,_,O,C,hm,M,B⟩
 ·simp [Value.cells] at h1
  obtain ⟨rfl,rfl,rfl⟩:=h1
  exact ⟨[],.inl ⟨none,0,rfl,rfl⟩,Nat.zero_le _⟩
 simp [Value.cells] at h1
 obtain ⟨rfl,rfl,rfl⟩:=h1
 have t:d=.slice ((range b).map D) ((range (m - b)).map fun j=>D (b+j)):=congrArg Prod.fst M
 have P:b<=m:=by rw [hm];split <;> omega
 have E:Tryz.prog.cellsOf 70=7:=by kernel_rfl
 by_cases J:b=0
 ·subst J
  exact ⟨[],.inl ⟨_,_,rfl,rfl⟩,Nat.zero_le _⟩
 rw [E] at B
 have s:Rows.uptoBulkAll ((range b).map D)<=1048576:=by
  rw [t] at hb
  simp only [Rows.uptoBulk] at hb
  omega
 have k:∀ i,i < b->∃ e:OpD,(∀ j u,e.cells[j]?=some u->w.cell? ((a.add (i*7)).add j)=some u)/\OpV w e:=by
  intro i hi
  obtain ⟨I,K,L⟩:=B i (by omega)
  obtain ⟨e,rfl,y,z,S,V,W⟩:=MN L
  have r:=uE (l:=(range b).map D) (i:=i) (d:=D i) (by rw [getElem?_map,getElem?_range hi];rfl)
  have g:Rows.uptoBulk (D i)<=1048576:=Nat.le_trans r s
  refine ⟨e,fun j u p=>?_,y,z,Nat.le_trans S (Nat.le_trans g (by omega)),Nat.le_trans V (Nat.le_trans g (by omega)),Nat.le_trans W (Nat.le_trans g (by omega))⟩
  have N:j < 7:=(gs.1 p).1
  rw [(World.cells?_some K).2.2 j N]
  exact p
 obtain ⟨Y,v,_⟩:=k 0 (by omega)
 have c:=v 0 _ rfl
 have q:(a.add (0*7)).add 0=a.add 0:=by simp [Addr.add]
 rw [q] at c
 have o:∀ i:Fin b,∃ e:OpD,w.rangeAt a.block (a.off+i.1*7) e.cells/\OpV w e:=by
  intro ⟨i,hi⟩
  obtain ⟨e,y,z⟩:=k i hi
  refine ⟨e,fun j u p=>?_,z⟩
  have:=y j u p
  rw [lW (i:=i*7) c,Addr.add_lit] at this
  exact this
 refine ⟨ofFn (fun i=>Classical.choose (o i)),.inr ⟨a.block,a.off,f,?_,?_,fun i hi=>?_⟩,?_⟩
 ·rw [length_ofFn,<- tF c]
 ·have:=lW (i:=0) c
  rw [this] at c
  exact aI c
 ·rw [List.getElem_ofFn]
  exact Classical.choose_spec (o ⟨i,by simpa using hi⟩)
 rw [length_ofFn]
 have:=pY ((range b).map D)
 simp only [length_map,length_range] at this
 omega
end
set_option maxRecDepth 100000
theorem SV {p P J z:Nat}{S:List Nat}{mv M v:Value}{Q B L i:Nat}{A:Int}{tv I:Value}{c a:List Value}{t:T}{q:List UInt8}{b:List Stp}{R N:Nat}{K:List Nat}(fa sa ia ga:Option Addr)(fn fc sn sc il ic gl gc:Nat)(O:ByteArray)(n:Int)(w0 w:World)(h:LX w p P J z S mv M v Q B L i A tv I c a t q b)(hB:Bk w R K (2*N))(hA:∀ x∈aU p P J S Q B L tv I,x≠R/\x∉K)(hN:N<=1048576)(H:Sd w)(F:Fr [] w0 w)(D:∀ x∈aU p P J S Q B L tv I,w0.heap.size<=x)(b1:c.length<=N+1)(b2:a.length<=3*N+3)(b3:b.length<=3*N+3)(b4:q.length<=41000*(N+1)) :
  Cs 30 #[.pointer (so p),.pointer (so R),.agg #[ii 9,.slice fa fn fc,.slice sa sn sc,.string O,.slice ia il ic,ii n,.slice ga gl gc]] w fun e w'=>StepR w R (aU p P J S Q B L tv I) K N e w':=by
 obtain ⟨r,d⟩:∃ W,W=w.alloc (.cells #[ii 9,.slice fa fn fc,.slice sa sn sc,.string O,.slice ia il ic,ii n,.slice ga gl gc] 70):=⟨_,rfl⟩
 have f:Fr [] w r:=by rw [d];exact (r0 _ _).alloc _
 have m:r.heap[w.heap.size]?=some (.cells #[ii 9,.slice fa fn fc,.slice sa sn sc,.string O,.slice ia il ic,ii n,.slice ga gl gc] 70):=by rw [d];exact aC _ _
 have e0:ca r w.heap.size 0 (ii 9):=aB m
 have ak:w.heap.size < r.heap.size:=aH m
 have E:=h.fr0 f
 have C:=hB.fr0 f
 have HX:=aA h
 have HB:=aA hB
 have HA:=aA hA
 have y:=aA E
 have s:=aA C
 have ai:=aA H
 have ag:=aA F
 have ah:=aA D
 have u:=aA f
 clear h hB hA E C H F D f
 have C1:=(show Hi _ from AV O r (by omega))
 have e3:ca r w.heap.size 3 (.string O):=aB m
 go_enter Tryz.func30,Tryz.ntmps30
 go_upto_region 3 with (fail)
 rw [<- d]
 clear d
 go_wp2_with fail
 refine Calls.mono C1.o ?_
 rintro e w2 ⟨⟨_,aa,L',rfl,hL,j⟩|⟨_,rfl⟩,l⟩
 ·obtain ⟨⟨am,ar,ao,ac,S1,an,af,v1,Zq,aj,ap,Y,ad,aq,al,ab,V,t1,ae,X,he,hx,rfl,c1,c2,c3,c4⟩⟩:=id hL
  cases he
  have k:=(show Hi _ from jK w2 hx (by omega))
  have HL:=aA hL
  have HN:=aA j
  clear hx hL j
  go_wp2_with fail
  refine Calls.mono k.o ?_
  rintro e w3 ⟨rfl,g⟩
  go_wp2_with fail
  go_ret2
  exact ⟨aa,rfl,RR.before u.o (RR.new s.o (HL.o.fr0 g) HN.o (l.then0 g))⟩
 dsimp only
 have k:=(show Hi _ from jK w2 (y.o.fr0 l) (by omega))
 go_wp2_with fail
 refine Calls.mono k.o ?_
 rintro e w3 ⟨rfl,g⟩
 go_wp2_with fail
 go_ret2
 exact ⟨p,rfl,RR.before u.o (RR.same ⟨⟨p,P,J,z,S,mv,M,v,Q,B,L,i,A,tv,I,c,a,t,q,b,rfl,y.o,rfl,b1,b2,b3,b4⟩⟩ s.o HA.o (l.then0 g))⟩
theorem TD {u X Q ac:Nat}{S:List Nat}{mv aj v:Value}{Y M R B:Nat}{ae:Int}{tv O:Value}{i d:List Value}{t:T}{I:List UInt8}{f:List Stp}{L N:Nat}{K:List Nat}(q y E C:Option Addr)(s r A z H F gl D:Nat)(J:ByteArray)(n:Int)(w0 w:World)(h:LX w u X Q ac S mv aj v Y M R B ae tv O i d t I f)(hB:Bk w L K (2*N))(hA:∀ x∈aU u X Q S Y M R tv O,x≠L/\x∉K)(hN:N<=1048576)(p:Sd w)(m:Fr [] w0 w)(k:∀ x∈aU u X Q S Y M R tv O,w0.heap.size<=x)(b1:i.length<=N+1)(b2:d.length<=3*N+3)(b3:f.length<=3*N+3)(b4:I.length<=41000*(N+1))(l1 l2:List Cm)(h1:CmdR w0 (.slice q s r) l1)(h2:CmdR w0 (.slice y A z) l2)(ag:l1.length<=2000000)(ah:l2.length<=2000000) :
  Cs 30 #[.pointer (so u),.pointer (so L),.agg #[ii 10,.slice q s r,.slice y A z,.string J,.slice E H F,ii n,.slice C gl D]] w fun e w'=>StepR w L (aU u X Q S Y M R tv O) K N e w':=by
 obtain ⟨c,g⟩:∃ W,W=w.alloc (.cells #[ii 10,.slice q s r,.slice y A z,.string J,.slice E H F,ii n,.slice C gl D] 70):=⟨_,rfl⟩
 have b:Fr [] w c:=by rw [g];exact (r0 _ _).alloc _
 have a:c.heap[w.heap.size]?=some (.cells #[ii 10,.slice q s r,.slice y A z,.string J,.slice E H F,ii n,.slice C gl D] 70):=by rw [g];exact aC _ _
 have e0:ca c w.heap.size 0 (ii 10):=aB a
 have av:w.heap.size < c.heap.size:=aH a
 have l:=h.fr0 b
 have j:=hB.fr0 b
 have C1:=(show Hi _ from UK w0 c 10 n l1 l2 q y E C s r A z H F gl D J l j hA (by omega) (Sd.fr0 p b) h1 h2 (m.then0 b) k ag ah (by omega) (by omega) (by omega) (by omega))
 have HX:=aA h
 have HB:=aA hB
 have HA:=aA hA
 have Zr:=aA l
 have ap:=aA j
 have Zq:=aA p
 have aq:=aA m
 have ar:=aA k
 have aa:=aA b
 clear h hB hA l j p m k b
 have e1:ca c w.heap.size 1 (.slice q s r):=aB a
 have e2:ca c w.heap.size 2 (.slice y A z):=aB a
 have e3:ca c w.heap.size 3 (.string J):=aB a
 have e4:ca c w.heap.size 4 (.slice E H F):=aB a
 have e5:ca c w.heap.size 5 (ii n):=aB a
 have e6:ca c w.heap.size 6 (.slice C gl D):=aB a
 go_enter Tryz.func30,Tryz.ntmps30
 go_upto_region 3 with (fail)
 rw [<- g]
 clear g
 go_wp2_with fail
 refine Calls.mono C1.o ?_
 rintro e w2 ⟨rfl,hT⟩
 have hR:=hT.rr b1 b2 b3 b4
 obtain ⟨⟨L',K',hL,hr⟩,ai⟩:=id hR
 obtain ⟨⟨ax,bd,az,al,S1,ay,ao,v1,be,au,ba,ad,am,bc,aw,ak,P,t1,an,V,he,hx,_,c1,c2,c3,c4⟩⟩:=id hL
 cases he
 have HR:=aA hR
 have ab:=(show Hi _ from jK w2 hx (by omega))
 clear hx hL hr hR hT ai
 go_wp2_with fail
 refine Calls.mono ab.o ?_
 rintro e w3 ⟨rfl,af⟩
 go_wp2_with fail
 go_ret2
 exact ⟨u,rfl,RR.before aa.o (HR.o.then0 af)⟩
theorem TC {g r B E:Nat}{S:List Nat}{mv ae v:Value}{s m C l:Nat}{F:Int}{tv A:Value}{f c:List Value}{t:T}{z:List UInt8}{d:List Stp}{D N:Nat}{K:List Nat}(fa sa ia ga:Option Addr)(fn fc sn sc il ic gl gc:Nat)(tx:ByteArray)(n:Int)(w0 w:World)(h:LX w g r B E S mv ae v s m C l F tv A f c t z d)(hB:Bk w D K (2*N))(hA:∀ x∈aU g r B S s m C tv A,x≠D/\x∉K)(hN:N<=1048576)(O:Sd w)(L:Fr [] w0 w)(I:∀ x∈aU g r B S s m C tv A,w0.heap.size<=x)(b1:f.length<=N+1)(b2:c.length<=3*N+3)(b3:d.length<=3*N+3)(b4:z.length<=41000*(N+1)) :
  Cs 30 #[.pointer (so g),.pointer (so D),.agg #[ii 11,.slice fa fn fc,.slice sa sn sc,.string tx,.slice ia il ic,ii n,.slice ga gl gc]] w fun e w'=>StepR w D (aU g r B S s m C tv A) K N e w':=by
 obtain ⟨k,i⟩:∃ W,W=w.alloc (.cells #[ii 11,.slice fa fn fc,.slice sa sn sc,.string tx,.slice ia il ic,ii n,.slice ga gl gc] 70):=⟨_,rfl⟩
 have j:Fr [] w k:=by rw [i];exact (r0 _ _).alloc _
 have M:k.heap[w.heap.size]?=some (.cells #[ii 11,.slice fa fn fc,.slice sa sn sc,.string tx,.slice ia il ic,ii n,.slice ga gl gc] 70):=by rw [i];exact aC _ _
 have e0:ca k w.heap.size 0 (ii 11):=aB M
 have ai:w.heap.size < k.heap.size:=aH M
 have J:=h.fr0 j
 have H:=hB.fr0 j
 have HX:=aA h
 have HB:=aA hB
 have HA:=aA hA
 have u:=aA J
 have X:=aA H
 have ah:=aA O
 have af:=aA L
 have ag:=aA I
 have Y:=aA j
 clear h hB hA J H O L I j
 have d0:ca k g 0 (.pointer (so r)):=aB u.o.h
 have C1:=(show Hi _ from PK k u.o.rs (by omega))
 go_enter Tryz.func30,Tryz.ntmps30
 go_upto_region 3 with (fail)
 rw [<- i]
 clear i
 go_wp2_with fail
 refine Calls.mono C1.o ?_
 rintro e p ⟨rfl,R,S',V⟩
 have a:=u.o.synced V
 have d1:ca p g 1 (.pointer (so s)):=aB a.h
 have d2:ca p s 0 (.pointer (so m)):=aB a.y.h
 have d3:ca p m 0 (ii t.turn):=a.y.rg.c0
 obtain ⟨ao,tc,P⟩:=fF a.tl
 have d4:p.cell? ⟨g,4,none⟩=some (.slice ao f.length tc):=by rw [<- P];exact aB a.h
 have C2:Hi (∀ n,Cs 63 #[.pointer (so g),.int .i64 n] p fun e w'=>e=.returned (.tuple #[])/\MkP3 p g r B E S' mv R v s m C l F tv A f c t z (d ++ [dB LOG]) w'):=fun n=>oG p n a (by simp;omega) (by omega) (by omega)
 have aa:Hi (Fr (r :: S) k p):=V.fr
 have ab:=aA V.old
 clear a V C1 d0 P
 go_wp2_with fail
 refine Calls.mono (C2.o _) ?_
 rintro e w5 ⟨rfl,hm⟩
 clear C2 d1 d2 d3 d4
 obtain ⟨⟨aj,marks',Q,_⟩,_⟩:=id hm
 have ac:=(show Hi _ from jK w5 Q (by simp;omega))
 have HR:Hi (RR k D (aU g r B S s m C tv A) K N (.pointer (so g)) w5):=RR.marked X.o HA.o ab.o aa.o (fun b hb=>by
  rcases mem_cons.1 hb with q|q
  ·simp [q]
  exact mem_append_right _ (mem_append_left _ q)) hm b1 b2 (by simp;omega) (by omega)
 clear Q hm
 go_wp2_with fail
 refine Calls.mono ac.o ?_
 rintro e w6 ⟨rfl,ad⟩
 go_wp2_with fail
 go_ret2
 exact ⟨g,rfl,RR.before Y.o (HR.o.then0 ad)⟩
theorem SY {d B Y ah:Nat}{S:List Nat}{mv al v:Value}{f z A g:Nat}{ai:Int}{tv X:Value}{l j:List Value}{t:T}{D:List UInt8}{k:List Stp}{E N:Nat}{K:List Nat}(fa sa ia ga:Option Addr)(fn fc sn sc il ic gl gc:Nat)(tx:ByteArray)(n:Int)(w0 w:World)(h:LX w d B Y ah S mv al v f z A g ai tv X l j t D k)(hB:Bk w E K (2*N))(hA:∀ x∈aU d B Y S f z A tv X,x≠E/\x∉K)(hN:N<=1048576)(O:Sd w)(J:Fr [] w0 w)(H:∀ x∈aU d B Y S f z A tv X,w0.heap.size<=x)(b1:l.length<=N+1)(b2:j.length<=3*N+3)(b3:k.length<=3*N+3) :
  Cs 30 #[.pointer (so d),.pointer (so E),.agg #[ii 12,.slice fa fn fc,.slice sa sn sc,.string tx,.slice ia il ic,ii n,.slice ga gl gc]] w fun e w'=>StepR w E (aU d B Y S f z A tv X) K N e w':=by
 obtain ⟨u,m⟩:∃ W,W=w.alloc (.cells #[ii 12,.slice fa fn fc,.slice sa sn sc,.string tx,.slice ia il ic,ii n,.slice ga gl gc] 70):=⟨_,rfl⟩
 have p:Fr [] w u:=by rw [m];exact (r0 _ _).alloc _
 have L:u.heap[w.heap.size]?=some (.cells #[ii 12,.slice fa fn fc,.slice sa sn sc,.string tx,.slice ia il ic,ii n,.slice ga gl gc] 70):=by rw [m];exact aC _ _
 have e0:ca u w.heap.size 0 (ii 12):=aB L
 have ar:w.heap.size < u.heap.size:=aH L
 have I:=h.fr0 p
 have F:=hB.fr0 p
 have HX:=aA h
 have HB:=aA hB
 have HA:=aA hA
 have a:=aA I
 have aa:=aA F
 have aq:=aA O
 have an:=aA J
 have ap:=aA H
 have ab:=aA p
 clear h hB hA I F O J H p
 have c:=a.o.gg
 have r:=a.o.tn
 have ak:=pI c r
 have d0:ca u d 0 (.pointer (so B)):=aB a.o.h
 have C1:=(show Hi _ from yZ u a.o.rs (by omega) (fun e=>by simp [dH,LOG,bO] at e) (mP c.ok c.os ⟨c.t0,r⟩) c.ok.len (by omega))
 have ad:=(show Hi _ from qQ c r)
 have ae:=aA c
 clear c ak
 go_enter Tryz.func30,Tryz.ntmps30
 go_upto_region 3 with (fail)
 rw [<- m]
 clear m
 go_wp2_with fail
 refine Calls.mono C1.o ?_
 rintro e w2 ⟨rfl,v',Zr,am,S',hp⟩
 have i:=a.o.nd
 simp only [cP,nodup_cons,mem_cons,not_mem_nil,or_false,not_or,nodup_nil,and_true,not_false_eq_true] at i
 have M:d∉B :: S:=fun e=>by
  rcases mem_cons.1 e with q|q
  ·exact i.1.1 q
  exact a.o.ns d q (by simp)
 have d1:ca w2 d 1 (.pointer (so f)):=aB (hp.fr.heap a.o.h M)
 have R:YR w2 f z A g t D:=a.o.y.fr hp.fr (a.o.yapart f (.inl rfl)) (a.o.yapart z (.inr (.inl rfl))) (a.o.yapart A (.inr (.inr rfl)))
 have C2:=(show Hi _ from zG f z A g t D w2 R ⟨i.2.2.2.1.1,i.2.2.2.1.2⟩ ae.o r)
 have HP:=aA hp
 clear hp R i C1 d0 M
 go_wp2_with fail
 refine Calls.mono C2.o ?_
 rintro e w3 ⟨rfl,V,C⟩
 have s:=a.o.folded HP.o V C
 obtain ⟨ao,tc,P⟩:=fF s.tl
 have d4:w3.cell? ⟨d,4,none⟩=some (.slice ao l.length tc):=by rw [<- P];exact aB s.h
 have C3:=(show Hi (∀ n,Calls _ _ _ _ _) from fun n=>oG w3 n s (by simp;omega) (by omega) (by omega))
 have ac:Hi (Fr (B :: (S ++ [f])) u w3):=(HP.o.fr.mono (fun b hb=>.inl (by
  rcases mem_cons.1 hb with q|q
  ·simp [q]
  ·simp [q]))).trans C (fun b hb=>.inl (by
  have e:b=f:=by simpa using hb
  simp [e]))
 have af:=aA HP.o.old
 clear s V C C2 d1 P HP
 go_wp2_with fail
 refine Calls.mono (C3.o _) ?_
 rintro e w5 ⟨rfl,hm⟩
 clear C3 d4
 obtain ⟨⟨Zq,marks',Q,_⟩,_⟩:=id hm
 have ag:=(show Hi _ from jK w5 Q (by simp;omega))
 have HR:Hi (RR u E (aU d B Y S f z A tv X) K N (.pointer (so d)) w5):=RR.marked aa.o HA.o af.o ac.o (fun b hb=>by
  rcases mem_cons.1 hb with q|q
  ·simp [q]
  rcases mem_append.1 q with q|q
  ·exact mem_append_right _ (mem_append_left _ q)
  exact mem_append_left _ (by
   have e:b=f:=by simpa using q
   simp [e])) hm b1 b2 (by simp;omega) (by have:=ad.o;omega)
 clear Q hm
 go_wp2_with fail
 refine Calls.mono ag.o ?_
 rintro e w6 ⟨rfl,aj⟩
 go_wp2_with fail
 go_ret2
 exact ⟨d,rfl,RR.before ab.o (HR.o.then0 aj)⟩
set_option maxRecDepth 100000
theorem SW {i u J X:Nat}{S:List Nat}{mv aq v:Value}{O H M s:Nat}{Y:Int}{tv I:Value}{j c:List Value}{t:T}{F:List UInt8}{a:List Stp}{p N:Nat}{K:List Nat}(fa sa ia ga:Option Addr)(fn fc sn sc il ic gl gc:Nat)(tx:ByteArray)(n:Int)(w0 w:World)(h:LX w i u J X S mv aq v O H M s Y tv I j c t F a)(hB:Bk w p K (2*N))(hA:∀ x∈aU i u J S O H M tv I,x≠p/\x∉K)(hN:N<=1048576)(ap:Sd w)(ai:Fr [] w0 w)(af:∀ x∈aU i u J S O H M tv I,w0.heap.size<=x)(b1:j.length<=N+1)(b2:c.length<=3*N+3)(b3:a.length<=3*N+3)(b4:F.length<=41000*(N+1)) :
  Cs 30 #[.pointer (so i),.pointer (so p),.agg #[ii 14,.slice fa fn fc,.slice sa sn sc,.string tx,.slice ia il ic,ii n,.slice ga gl gc]] w fun e w'=>StepR w p (aU i u J S O H M tv I) K N e w':=by
 obtain ⟨f,l⟩:∃ W,W=w.alloc (.cells #[ii 14,.slice fa fn fc,.slice sa sn sc,.string tx,.slice ia il ic,ii n,.slice ga gl gc] 70):=⟨_,rfl⟩
 have m:Fr [] w f:=by rw [l];exact (r0 _ _).alloc _
 have al:f.heap[w.heap.size]?=some (.cells #[ii 14,.slice fa fn fc,.slice sa sn sc,.string tx,.slice ia il ic,ii n,.slice ga gl gc] 70):=by rw [l];exact aC _ _
 have e0:ca f w.heap.size 0 (ii 14):=aB al
 have be:w.heap.size < f.heap.size:=aH al
 have ag:=h.fr0 m
 have aa:=hB.fr0 m
 have HX:=aA h
 have HB:=aA hB
 have P:=aA hA
 have g:=aA ag
 have y:=aA aa
 have bc:=aA ap
 have az:=aA ai
 have ba:=aA af
 have ar:=aA m
 clear h hB hA ag aa ap ai af m
 have d0:ca f i 0 (.pointer (so u)):=aB g.o.h
 have C1:=(show Hi _ from yY f g.o.rs)
 go_enter Tryz.func30,Tryz.ntmps30
 go_upto_region 3 with (fail)
 rw [<- l]
 clear l
 go_wp2_with fail
 refine Calls.mono C1.o ?_
 rintro e w2 ⟨v2,rfl,B,D⟩
 have au:=y.o.lt
 have aw:=y.o.kl
 have C2:=(show Hi _ from OA p (2*N) 1 f.heap.size K v2 _ w2 (y.o.fr0 D) (by omega) B (by omega) (by omega) au aw)
 have Q:Hi (∀ x∈v2.ownBlock.toList,f.heap.size<=x):=fun x hx=>(B.lt x (by simpa using hx)).1
 clear C1 B d0
 go_wp2_with fail
 refine Calls.mono C2.o ?_
 rintro e w3 ⟨rfl,⟨K3,ab,am⟩,aj⟩
 have bf:=D.size
 have k:Fr (p :: K) f w3:=D.of0.trans aj (fun b hb=>by
  rcases mem_cons.1 hb with q|q
  ·exact .inl (by simp [q])
  rcases mem_append.1 q with q|q
  ·exact .inl (by simp [q])
  exact .inr (Q.o b q))
 have ad:∀ x∈K3,x∈K\/f.heap.size<=x:=fun x hx=>by
  rcases am x hx with q|q|q
  ·exact .inl q
  ·exact .inr (Q.o x q)
  exact .inr (by omega)
 have d:=g.o.fr k (fun b hb e=>by
  rcases mem_cons.1 e with q|q
  ·exact (P.o b hb).1 q
  exact (P.o b hb).2 q)
 have d0:ca w3 i 0 (.pointer (so u)):=aB d.h
 have C3:=(show Hi _ from oT w3 d.rs (by omega) d.s0)
 have ax:=d.s0
 have z:=aA ab
 have Zq:=aA k
 have V:=aA ad
 have bd:=aA d
 have ay:=k.size
 clear C2 ab k ad d am aj
 go_wp2_with fail
 refine Calls.mono C3.o ?_
 rintro e w4 ⟨v4,rfl,C,E⟩
 have bg:=E.size
 have ao:=z.o.kl
 have C4:=(show Hi _ from OD p (2*N+1) a.length w3.heap.size K3 v4 _ w4 (z.o.fr0 E) (by omega) C ax (by omega) z.o.lt ao)
 have R:Hi (∀ x∈v4.ownBlock.toList,w3.heap.size<=x):=fun x hx=>(C.lt x (by simpa using hx)).1
 clear C3 C d0
 go_wp2_with fail
 refine Calls.mono C4.o ?_
 rintro e w5 ⟨rfl,⟨K5,ac,an⟩,ak⟩
 have A:Fr (p :: K) f w5:=(Zq.o.then0 E).trans ak (fun b hb=>by
  rcases mem_cons.1 hb with q|q
  ·exact .inl (by simp [q])
  rcases mem_append.1 q with q|q
  ·exact (V.o b q).imp_left (fun r=>by simp [r])
  exact .inr (by have:=R.o b q;omega))
 have ae:∀ x∈K5,x∈K\/f.heap.size<=x:=fun x hx=>by
  rcases an x hx with q|q|q
  ·exact V.o x q
  ·exact .inr (by have:=R.o x q;omega)
  exact .inr (by omega)
 have hR:=RR.booked (r:=.pointer (so i)) (L:=aU i u J S O H M tv I) (N:=N) ⟨⟨i,u,J,X,S,mv,aq,v,O,H,M,s,Y,tv,I,j,c,t,F,a,rfl,g.o,rfl,b1,b2,b3,b4⟩⟩ P.o (ac.more (by omega)) ae A
 have ah:=g.o.fr A (fun b hb e=>by
  rcases mem_cons.1 e with q|q
  ·exact (P.o b hb).1 q
  exact (P.o b hb).2 q)
 have Zr:=(show Hi _ from jK w5 ah (by omega))
 have HR:=aA hR
 clear C4 ah hR A ae ac an ak
 go_wp2_with fail
 refine Calls.mono Zr.o ?_
 rintro e w6 ⟨rfl,av⟩
 go_wp2_with fail
 go_ret2
 exact ⟨i,rfl,RR.before ar.o (HR.o.then0 av)⟩
theorem SZ {z X k F:Nat}{S:List Nat}{mv bn v:Value}{Y m qb p:Nat}{ar:Int}{tv kv:Value}{A j:List Value}{t:T}{ak:List UInt8}{l:List Stp}{E N:Nat}{K:List Nat}(fa sa ia ga:Option Addr)(fn fc sn sc il ic gl gc:Nat)(tx:ByteArray)(n:Int)(w0 w:World)(h:LX w z X k F S mv bn v Y m qb p ar tv kv A j t ak l)(hB:Bk w E K (2*N))(hA:∀ x∈aU z X k S Y m qb tv kv,x≠E/\x∉K)(hN:N<=1048576)(bl:Sd w)(be:Fr [] w0 w)(az:∀ x∈aU z X k S Y m qb tv kv,w0.heap.size<=x)(b1:A.length<=N+1)(b2:j.length<=3*N+3)(b3:l.length<=3*N+3)(b4:ak.length<=41000*(N+1))(l1 l2:List Cm)(h1:CmdR w0 (.slice fa fn fc) l1)(h2:CmdR w0 (.slice sa sn sc) l2)(bx:l1.length<=2000000)(Zs:l2.length<=2000000) :
  Cs 30 #[.pointer (so z),.pointer (so E),.agg #[ii 13,.slice fa fn fc,.slice sa sn sc,.string tx,.slice ia il ic,ii n,.slice ga gl gc]] w fun e a=>StepR w E (aU z X k S Y m qb tv kv) K N e a:=by
 obtain ⟨i,J⟩:∃ W,W=w.alloc (.cells #[ii 13,.slice fa fn fc,.slice sa sn sc,.string tx,.slice ia il ic,ii n,.slice ga gl gc] 70):=⟨_,rfl⟩
 have O:Fr [] w i:=by rw [J];exact (r0 _ _).alloc _
 have Q:i.heap[w.heap.size]?=some (.cells #[ii 13,.slice fa fn fc,.slice sa sn sc,.string tx,.slice ia il ic,ii n,.slice ga gl gc] 70):=by rw [J];exact aC _ _
 have e0:ca i w.heap.size 0 (ii 13):=aB Q
 have cs:w.heap.size < i.heap.size:=aH Q
 have ai:=h.fr0 O
 have Zr:=hB.fr0 O
 have HS:∀ a,Fr [] i a->(fun a:World=>(ca a z 0 (.pointer (so X))/\ca a z 1 (.pointer (so Y))/\ca a Y 0 (.pointer (so m)))/\Fr [] i a) a:=fun a hf=>by
  have hx:=ai.fr0 hf
  exact ⟨⟨aB hx.h,aB hx.h,aB hx.y.h⟩,hf⟩
 have K0:=HS i.drew ((r0 _ _).drew)
 have HX:=aA h
 have HB:=aA hB
 have HA:=aA hA
 have d:=aA ai
 have aa:=aA Zr
 have bt:=aA bl
 have an:=aA be
 have br:=aA az
 have D:=aA O
 clear h hB hA ai Zr bl be az O
 have ac:=aA Q
 have al:=aA h1
 have am:=aA h2
 have C1:Hi (∀ a,Fr [] i a->Cs 14 #[.pointer (so X)] a fun e B=>∃ m,e=.returned (.pointer (so m))/\a.heap.size<=m/\GS B m k F t/\Fr [] a B):=fun a hf=>zA a (d.o.fr0 hf).rs
 have C2:Hi (∀ a,Fr [] i a->Cs 65 #[.pointer (so m)] a fun e B=>∃ hb bm ap,e=.returned (.pointer (so hb))/\RG B hb bm ap t/\a.heap.size<=hb/\a.heap.size<=bm/\Fr [] a B):=fun a hf=>QC m qb p t a (d.o.fr0 hf).y.rg d.o.rs.ne
 clear h1 h2 Q
 go_enter Tryz.func30,Tryz.ntmps30
 go_upto_region 3 with (fail)
 rw [<- J]
 clear J
 go_wp2_with fail
 refine rg 16 HS K0 fun c=>?_
 iterate 4 (refine tn 16 c ?_;try simp only [Act.put,Z])
 refine ta 5 c ?_;try simp only [Act.put,Z]
 refine ta 6 c ?_;try simp only [Act.put,Z]
 refine ta 7 c ?_;try simp only [Act.put,Z]
 refine ta 8 c ?_;try simp only [Act.put,Z]
 refine ta 9 c ?_;try simp only [Act.put,Z]
 refine ta 10 c ?_;try simp only [Act.put,Z]
 refine ta 11 c ?_;try simp only [Act.put,Z]
 refine rd 4 fun K' hK=>?_
 have g:=aA hK
 clear hK
 go_simp
 refine Calls.mono (C1.o _ c.2) ?_
 rintro e w2 ⟨H,rfl,ck,bh,aj⟩
 have ae:=c.2.then0 aj
 have ct:=aj.size
 have ce:=ae.size
 have ab:=aA bh
 have bq:Hi (i.heap.size<=H):=by have:=c.2.size;show _<=_;omega
 clear c bh
 refine g.o _ _ (HS _ ae) (fun c=>?_)
 clear g K';try simp only [Act.put,Z]
 refine rd 12 fun K' hK=>?_
 have g:=aA hK
 clear hK
 go_simp
 refine Calls.mono (C2.o _ c.2) ?_
 rintro e C ⟨hn,qn,aq,rfl,u,cn,cr,P⟩
 have af:=c.2.then0 P
 clear c
 refine g.o _ _ (HS _ af) (fun c=>?_)
 clear g K';try simp only [Act.put,Z]
 refine ta 13 c ?_;try simp only [Act.put,Z]
 refine rd 14 fun K' hK=>?_
 have g:=aA hK
 clear hK
 go_simp
 obtain ⟨W4,M⟩:∃ W,W=C.alloc (.cells #[.pointer (so H),.pointer (so hn)] 127):=⟨_,rfl⟩
 rw [<- M]
 have s:Fr [] C W4:=by rw [M];exact (r0 _ _).alloc _
 have R:W4.heap[C.heap.size]?=some (.cells #[.pointer (so H),.pointer (so hn)] 127):=by rw [M];exact aC _ _
 have f:=af.then0 s
 clear c
 refine g.o _ _ (HS _ f) (fun c=>?_)
 clear g K';try simp only [Act.put,Z]
 refine ta 15 c ?_;try simp only [Act.put,Z]
 refine wpAnyH_done (by kernel_rfl) ?_ _
 have cp:=d.o.rs.row.lt
 have cb:=ab.o.lt
 have bz:=bq.o
 have cm:=u.lt
 have cq:=u.row.lt
 have co:=u.ne
 have cu:=P.size
 have ch:=s.size
 have cj:=aa.o.lt
 have bw:=aa.o.kl
 have cd:=D.o.size
 have cc:=an.o.size
 have aw:Gm W4 (.pointer (so C.heap.size)) [C.heap.size,H,k,hn,qn] t:=by
  refine ⟨⟨C.heap.size,H,k,F,hn,qn,aq,rfl,rfl,aB R,aB R,ab.o.fr (P.then0 s) (by simp) (by simp),u.fr0 s⟩,?_,d.o.gg.ok,d.o.gg.os,⟨d.o.gg.t0,d.o.tn⟩⟩
  simp only [nodup_cons,mem_cons,not_mem_nil,or_false,not_or,nodup_nil,and_true,not_false_eq_true]
  omega
 have I:∀ x∈[C.heap.size,H,hn,qn],i.heap.size<=x:=fun x hx=>by
  simp only [mem_cons,not_mem_nil,or_false] at hx
  omega
 have Zq:∀ x∈[C.heap.size,H,k,hn,qn],x≠E/\x∉K:=fun x hx=>by
  by_cases e:x=k
  ·rw [e];exact HA.o k (by simp)
  have:=I x (by simp only [mem_cons,not_mem_nil,or_false] at hx |-;omega)
  exact ⟨by omega,fun q=>by have:=bw x q;omega⟩
 have ba:∀ x∈[C.heap.size,H,k,hn,qn],w0.heap.size<=x:=fun x hx=>by
  by_cases e:x=k
  ·rw [e];exact br.o k (by simp)
  have:=I x (by simp only [mem_cons,not_mem_nil,or_false] at hx |-;omega)
  omega
 have C3:=(show Hi _ from OI _ _ K t E (2*N) l1 l2 _ _ w0 W4 aw (aa.o.fr0 f) Zq (by omega) (Sd.fr0 bt.o (D.o.then0 f)) al.o am.o (an.o.then0 (D.o.then0 f)) ba bx Zs)
 have e1:ca W4 w.heap.size 1 (.slice fa fn fc):=aB (f.heap0 ac.o)
 have e2:ca W4 w.heap.size 2 (.slice sa sn sc):=aB (f.heap0 ac.o)
 have g0:ca W4 C.heap.size 0 (.pointer (so H)):=aB R
 have bo:=aA f
 have ad:=aA I
 obtain ⟨cw,V⟩:∃ x,x=C.heap.size:=⟨_,rfl⟩
 rw [<- V] at C3 g0 ad |-
 have cf:=f.size
 clear aw Zq ba I al am ac R s f af P M u ab aj ae c C1 C2 HS K0 V
 go_wp2_with fail
 refine Calls.mono C3.o ?_
 rintro e w5 ⟨rfl,⟨⟨L5,t5,K5,ax,au,⟨_,bk⟩,bi,bd⟩,bf⟩⟩
 have ag:Fr (E :: K) i w5:=bo.o.of0.trans bf (fun b hb=>by
  rcases mem_cons.1 hb with q|q
  ·exact .inl (by simp [q])
  rcases mem_append.1 q with q|q
  ·exact .inr (ad.o b q)
  exact .inl (by simp [q]))
 have C4:=(show Hi _ from SJ _ L5 K5 t5 E (2*N+1) w5 ax au bd (by omega))
 have bp:=aA ag
 have bs:Hi (∀ x∈L5.eraseIdx 2,i.heap.size<=x):=fun x hx=>by
  rcases bk x hx with q|q
  ·exact ad.o x q
  omega
 have ao:Hi (∀ x∈K5,x∈K\/i.heap.size<=x):=fun x hx=>(bi x hx).imp_right (fun q=>by omega)
 have cg:=ag.size
 clear ax au bk bi bd bf ag C3
 go_wp2_with fail
 refine Calls.mono C4.o ?_
 rintro e w6 ⟨rfl,⟨⟨L6,t6,K6,_,av,_,bj,_⟩,bg⟩⟩
 have ah:Fr (E :: K) i w6:=bp.o.trans bg (fun b hb=>by
  rcases mem_cons.1 hb with q|q
  ·exact .inl (by simp [q])
  rcases mem_append.1 q with q|q
  ·exact .inr (bs.o b q)
  exact (ao.o b q).imp_left (fun r=>by simp [r]))
 have ay:∀ x∈K6,x∈K\/i.heap.size<=x:=fun x hx=>by
  rcases bj x hx with q|q
  ·exact ao.o x q
  exact .inr (by omega)
 have hR:=RR.booked (r:=.pointer (so z)) (L:=aU z X k S Y m qb tv kv) (N:=N) ⟨⟨z,X,k,F,S,mv,bn,v,Y,m,qb,p,ar,tv,kv,A,j,t,ak,l,rfl,d.o,rfl,b1,b2,b3,b4⟩⟩ HA.o (av.more (by omega)) ay ah
 have bc:=d.o.fr ah (fun b hb e=>by
  rcases mem_cons.1 e with q|q
  ·exact (HA.o b hb).1 q
  exact (HA.o b hb).2 q)
 have bu:=(show Hi _ from jK w6 bc (by omega))
 have HR:=aA hR
 clear C4 bc hR ah ay av bj bg
 go_wp2_with fail
 refine Calls.mono bu.o ?_
 rintro e w7 ⟨rfl,bv⟩
 go_wp2_with fail
 go_ret2
 exact ⟨z,rfl,RR.before D.o (HR.o.then0 bv)⟩
theorem SS (g:Value)(L K:List Nat)(J N:Nat)(d:OpD)(w0 w:World)(hG:LR w g L N)(u:Bk w J K (2*N))(r:∀ x∈L,x≠J/\x∉K)(y:N<=1048576)(c:Sd w)(i:OpV w0 d)(b:Fr [] w0 w)(a:∀ x∈L,w0.heap.size<=x)(M:9<=d.kind)(hk:d.kind<=14) :
  Cs 30 #[g,.pointer (so J),.agg #[ii d.kind,.slice d.fa d.fn d.fc,.slice d.sa d.sn d.sc,.string d.tx,.slice d.ia d.il d.ic,ii d.n,.slice d.ga d.gl d.gc]] w fun e w'=>StepR w J L K N e w':=by
 obtain ⟨⟨lb,xb,pb,X,S,mv,ab,v,yb,gb,qb,R,Y,tv,kv,W,P,t,aa,Q,rfl,h,rfl,b1,j,k,I⟩⟩:=hG
 obtain ⟨C,l,o,m,D,F,E,H,z,B,A,n,p,gl,q,V,l2⟩:=d
 dsimp only at hk M |-
 have O:C=9\/C=10\/C=11\/C=12\/C=13\/C=14:=by omega
 rcases O with rfl|rfl|rfl|rfl|rfl|rfl
 ·exact SV l D z p o m F E B A gl q H n w0 w h u r y c b a b1 j k I
 ·exact TD l D z p o m F E B A gl q H n w0 w h u r y c b a b1 j k I V l2 i.f i.s i.fl i.sl
 ·exact TC l D z p o m F E B A gl q H n w0 w h u r y c b a b1 j k I
 ·exact SY l D z p o m F E B A gl q H n w0 w h u r y c b a b1 j k
 ·exact SZ l D z p o m F E B A gl q H n w0 w h u r y c b a b1 j k I V l2 i.f i.s i.fl i.sl
 exact SW l D z p o m F E B A gl q H n w0 w h u r y c b a b1 j k I
theorem PM (hi:Int)(bw:hi<=14)(l:List OpD)(v:Value)(w:World)(hv:pR w v l)(hl:l.length<=1048576)(ag:Sd w) :
  Cs 9 #[v,.int .i64 hi] w fun e z=>e=.returned (.bool true)/\Fr [] w z:=by
 obtain ⟨ao,lc,rfl⟩:∃ ao lc,v=.slice ao l.length lc:=by
  rcases hv with ⟨ao,lc,rfl,rfl⟩|⟨y,D,lc,rfl,_⟩
  ·exact ⟨_,_,rfl⟩
  exact ⟨_,_,rfl⟩
 have HV:=aA hv
 have az:=aA ag
 have bq:=ag.pos
 clear hv ag
 go_enter Tryz.func9,Tryz.ntmps9
 go_wp2_with fail
 refine Calls.mono (wN w) ?_
 rintro e w1 ⟨rfl,ad⟩
 obtain ⟨tx,R⟩:∃ x,x=rD:=⟨_,rfl⟩
 rw [<- R]
 have bj:dS tx:=by rw [R];exact KG
 have HK:Hi (∀ w,Cs 25 #[] w fun e z=>e=.returned (.string tx)/\Fr [] w z):=by rw [R];exact wN
 have X:Hi (∀ w,0 < w.heap.size->Cs 29 #[.string tx] w fun e z=>∃ sb L,e=.returned (.tuple #[.pointer (so sb),.bool true])/\LR z (.pointer (so sb)) L 0/\(∀ x∈L,w.heap.size<=x)/\Fr [] w z):=fun w hw=>(AV tx w hw).mono (by
  rintro e z ⟨⟨_,sb,L,h1,h2,h3⟩|⟨bi,_⟩,hf⟩
  ·exact ⟨sb,L,h1,h2,h3,hf⟩
  exact absurd bj bi)
 clear R
 have bx:=ad.size
 go_wp2_with fail
 refine Calls.mono (X.o w1 (by omega)) ?_
 rintro e w2 ⟨s1,L1,rfl,aj,ak,ae⟩
 have Zs:=ae.size
 have V:=aA aj
 clear aj
 go_wp2_with fail
 refine Calls.mono (HK.o w2) ?_
 rintro e w3 ⟨rfl,I⟩
 have bz:=I.size
 go_wp2_with fail
 refine Calls.mono (X.o w3 (by omega)) ?_
 rintro e w4 ⟨s2,L2,rfl,aa,ac,J⟩
 have cb:=J.size
 obtain ⟨W5,H⟩:∃ W,W=w4.alloc (.cells #[.slice none 0 0,.slice none 0 0,.slice none 0 0,.slice none 0 0,.slice none 0 0,.slice none 0 0,.slice none 0 0,.slice none 0 0,.slice none 0 0,ii 0] 68):=⟨_,rfl⟩
 have M:Fr [] w4 W5:=by rw [H];exact (r0 _ _).alloc _
 have am:Bk W5 w4.heap.size [] (2*0):=Bk.start (by rw [H];exact aC _ _)
 have au:Fr [] w w2:=ad.then0 ae
 have al:QI w w4.heap.size 0 (.pointer (so s1)) (.pointer (so s2)) W5:=by
  have ai:=V.o.lt
  have bc:=aa.lt
  refine ⟨⟨L1,L2,[],(V.o.fr0 (I.then0 J)).fr0 M,aa.fr0 M,am,fun x hx bl=>?_,fun x hx=>⟨?_,by simp⟩,fun x hx=>⟨?_,by simp⟩,fun x hx=>?_,fun x hx=>?_,by simp,by omega⟩,((au.then0 I).then0 J).then0 M⟩
  ·have:=ai x hx;have:=ac x bl;omega
  ·have:=ai x hx;omega
  ·have:=bc x hx;omega
  ·have:=ak x hx;omega
  have:=ac x hx;omega
 have Y:=aA al
 clear aa al am ak ac
 go_wp2_with fail
 rw [<- H]
 obtain ⟨C,an⟩:∃ x,x=w4.heap.size:=⟨_,rfl⟩
 rw [<- an] at Y |-
 clear H an M J I au ae ad X HK V
 go_loopw [5,7,10] (fun g h i wr=>∃ k c b:Nat,k<=l.length/\i=.int .i64 k/\g=.pointer (so c)/\h=.pointer (so b)/\QI w C k (.pointer (so c)) (.pointer (so b)) wr) (fun _ _ i _=>l.length - (intOf i).toNat)
 case atStart=>exact ⟨0,s1,s2,Nat.zero_le _,rfl,rfl,rfl,Y.o⟩
 clear Y
 obtain ⟨k,c,b,hk,rfl,rfl,rfl,hI⟩:=hrel
 by_cases A:k < l.length
 ·have aq:(k:Int) < (l.length:Int):=by omega
  obtain ⟨y,D,rfl,bh,f,af⟩:∃ y D,ao=some ⟨y,D,none⟩/\y < w.heap.size/\w.rangeAt y (D+k*7) (l[k]).cells/\OpV w l[k]:=by
   rcases HV.o with ⟨bt,bm,e1,e2⟩|⟨y,D,bm,e1,h2,h3⟩
   ·rw [e2] at A;simp at A
   obtain ⟨q1,q2⟩:=h3 k A
   exact ⟨y,D,by simpa using congrArg (fun v:Value=>match v with|.slice a _ _=>a|_=>none) e1,h2,q1,q2⟩
  obtain ⟨d,hd⟩:∃ d,l[k]=d:=⟨_,rfl⟩
  rw [hd] at f af
  have q:∀ j,wr.cell? ⟨y,j,none⟩=w.cell? ⟨y,j,none⟩:=fun j=>hI.fr.cell _ _ bh (by simp)
  have B:Hi (∀ W,Fr [] wr W->9<=d.kind->d.kind<=14->Cs 30 #[.pointer (so c),.pointer (so C),.agg #[ii d.kind,.slice d.fa d.fn d.fc,.slice d.sa d.sn d.sc,.string d.tx,.slice d.ia d.il d.ic,ii d.n,.slice d.ga d.gl d.gc]] W fun e z=>∃ m,e=.returned (.tuple #[.pointer (so m),.bool true])/\QI w C (k+1) (.pointer (so m)) (.pointer (so b)) z):=fun W hf Q bg=>by
   have ab:=hI.then0 hf
   obtain ⟨L,K,q1,q2,q3,q5,q6⟩:=ab.goes
   refine (SS _ L K C k d w W q1 q2 q3 (by omega) (Sd.fr0 az.o ab.fr) af ab.fr q5 Q bg).mono ?_
   rintro e z ⟨m,he,bk⟩
   exact ⟨m,he,q6 _ _ bk⟩
  obtain ⟨u,fa,fn,fc,sa,sn,sc,av,ia,il,ic,n,ga,gl,gc,bu,ch⟩:=d
  dsimp only at B f
  have c0:ca wr y (D+k*7) (ii u):=(q _).trans (f 0 _ rfl)
  have c1:ca wr y (D+k*7+1) (.slice fa fn fc):=(q _).trans (f 1 _ rfl)
  have c2:ca wr y (D+k*7+2) (.slice sa sn sc):=(q _).trans (f 2 _ rfl)
  have c3:ca wr y (D+k*7+3) (.string av):=(q _).trans (f 3 _ rfl)
  have c4:ca wr y (D+k*7+4) (.slice ia il ic):=(q _).trans (f 4 _ rfl)
  have c5:ca wr y (D+k*7+5) (ii n):=(q _).trans (f 5 _ rfl)
  have c6:ca wr y (D+k*7+6) (.slice ga gl gc):=(q _).trans (f 6 _ rfl)
  have F:Hi (∀ W N g h,QI w C N g h W->N<=1048578->Cs 27 #[.pointer (so C)] W fun e z=>e=.returned (.bool true)/\Fr [] W z):=fun W N g h hp hN=>by
   obtain ⟨K,hK⟩:=hp.book
   exact KV C (2*N) K W hK (by omega)
  have HI:=aA hI
  have P:k+1<=1048578:=by omega
  clear q f af hd hI
  have bf:u=5\/(u≠5/\9<=u/\u<=hi)\/(u≠5/\(9<=u/\hi < u\/u < 9)):=by omega
  rcases bf with rfl|⟨Zq,Q,bd⟩|⟨Zq,⟨Q,be⟩|be⟩
  ·clear B
   have t:∀ o,QI w C (k+1) (.pointer (so b)) (.pointer (so c)) (wr.alloc o):=fun o=>((HI.o.swap).then0 ((r0 _ _).alloc o)).more (by omega)
   have p:=aA t
   clear t
   go_wp2_with fail
   refine Calls.mono (F.o _ _ _ _ (p.o _) P) ?_
   rintro e w6 ⟨rfl,r⟩
   go_wp2_with fail
   go_roundw
   case rel=>exact ⟨k+1,b,c,A,by go_num,rfl,rfl,(p.o _).then0 r⟩
   case measure=>simp [intOf];omega
  ·have ar:(u==5)=false:=by simp;omega
   have S:u<=hi:=bd
   have ay:Hi (∀ o,Cs 30 #[.pointer (so c),.pointer (so C),.agg #[ii u,.slice fa fn fc,.slice sa sn sc,.string av,.slice ia il ic,ii n,.slice ga gl gc]] (wr.alloc o) fun e z=>∃ m,e=.returned (.tuple #[.pointer (so m),.bool true])/\QI w C (k+1) (.pointer (so m)) (.pointer (so b)) z):=fun o=>B.o _ ((r0 _ _).alloc o) Q (by omega)
   clear B
   go_wp2_with fail
   refine Calls.mono (ay.o _) ?_
   rintro e w6 ⟨m,rfl,Zr⟩
   have E:=aA Zr
   clear Zr
   go_wp2_with fail
   refine Calls.mono (F.o _ _ _ _ E.o P) ?_
   rintro e w7 ⟨rfl,O⟩
   go_wp2_with fail
   go_roundw
   case rel=>exact ⟨k+1,m,b,A,by go_num,rfl,rfl,E.o.then0 O⟩
   case measure=>simp [intOf];omega
  ·have ar:(u==5)=false:=by simp;omega
   have S:¬ u<=hi:=by omega
   clear B
   have t:∀ o,QI w C (k+1) (.pointer (so c)) (.pointer (so b)) (wr.alloc o):=fun o=>(HI.o.then0 ((r0 _ _).alloc o)).more (by omega)
   have p:=aA t
   clear t
   go_wp2_with fail
   refine Calls.mono (F.o _ _ _ _ (p.o _) P) ?_
   rintro e w6 ⟨rfl,r⟩
   go_wp2_with fail
   go_roundw
   case rel=>exact ⟨k+1,c,b,A,by go_num,rfl,rfl,(p.o _).then0 r⟩
   case measure=>simp [intOf];omega
  have ar:(u==5)=false:=by simp;omega
  have S:¬ 9<=u:=by omega
  clear B
  have t:∀ o,QI w C (k+1) (.pointer (so c)) (.pointer (so b)) (wr.alloc o):=fun o=>(HI.o.then0 ((r0 _ _).alloc o)).more (by omega)
  have p:=aA t
  clear t
  go_wp2_with fail
  refine Calls.mono (F.o _ _ _ _ (p.o _) P) ?_
  rintro e w6 ⟨rfl,r⟩
  go_wp2_with fail
  go_roundw
  case rel=>exact ⟨k+1,c,b,A,by go_num,rfl,rfl,(p.o _).then0 r⟩
  case measure=>simp [intOf];omega
 have aq:¬ (k:Int) < (l.length:Int):=by omega
 have ah:Hi (∀ W N s h,QI w C N (.pointer (so s)) h W->N<=1048578->Cs 31 #[.pointer (so s)] W fun e z=>e=.returned (.bool true)/\Fr [] W z):=fun W N s h hp hN=>by
  obtain ⟨L,K,q1,_⟩:=hp.goes
  obtain ⟨⟨cd,ck,cf,bo,S1,ce,bs,v1,cm,bv,cg,ba,bp,cj,cc,bn,aw,t1,br,ax,he,hx,_,c1,c2,c3,c4⟩⟩:=q1
  cases he
  exact jK W hx (by omega)
 have HI:=aA hI
 clear hI
 go_wp2_with fail
 refine Calls.mono (ah.o _ _ _ _ HI.o (by omega)) ?_
 rintro e w6 ⟨rfl,r⟩
 have E:=(show Hi _ from (HI.o.then0 r).swap)
 clear r
 go_wp2_with fail
 refine Calls.mono (ah.o _ _ _ _ E.o (by omega)) ?_
 rintro e w7 ⟨rfl,O⟩
 have ap:=(E.o.then0 O).fr
 clear O
 go_wp2_with fail
 go_ret
 exact ⟨rfl,ap⟩
theorem CK (l:List OpD)(v:Value)(w:World)(c:pR w v l)(hl:l.length<=1048576)(b:Sd w) :
  Cs 5 #[v] w fun e d=>e=.returned (.bool true)/\Fr [] w d:=by
 have C:=PM 14 (by omega) l v w c hl b
 go_enter Tryz.func5,Tryz.ntmps5
 go_wp2_with fail
 refine Calls.mono C ?_
 rintro e f ⟨rfl,a⟩
 go_wp2_with fail
 go_ret
 exact ⟨rfl,a⟩
end Go.Proofs.YtapabahhfanmmaaGreatDoor
namespace Go.Proofs.YtapabahhfanmmaaGreatDoor
open Go.ChangeShapes Go.WideShapes Go.ChangeAt Go.WideMaps Go.WideElems Go.RowKit List
set_option maxRecDepth 100000
abbrev laidT:List (String×DataW Unit):=Rows.recordsUptoRow.laid
theorem MK {W:World}(h:laidMetH Tryz.prog laidT W):Sd W:=by
 have h1:=h.filter (fun x=>x.1 == "skirmish/land.sides")
 have e:laidT.filter (fun x=>x.1 == "skirmish/land.sides")=wO:=by kernel_rfl
 rw [e] at h1
 exact MJ h1
theorem PO (H:Type) (enc:TypeId×Value->H) (W:World) (base:Nat) (args:Array Value) (g gs:List (DataW H)) (a:List MemPlace)
  (b:∀ (j:Nat) t v,Tryz.f5.params[j]?=some t->args[j]?=some v->Value.okWide Tryz.prog W .any base t v)
  (y:DataW.Whole enc Tryz.prog Tryz.f5.params.toList Rows.recordsSpec.vars false W args.toList g gs a) (A:Rows.uptoSmall H (g ++ gs)=true) (F:laidMetH Tryz.prog laidT W) :
  Cs 5 args W fun e o=>∃ v,e=.returned v/\Rows.recordsSpec.post enc Tryz.prog Tryz.f5 false true false false W args v o:=by
 have c:=y
 obtain ⟨p,q,d,I,rfl,K,L⟩:=y
 have w:DataW.TrodAll enc Tryz.prog W 0 (fun _=>true) true Tryz.f5.params.toList args.toList g p:=d
 rw [Tryz.params5] at w b
 obtain ⟨D,N,s,E,C,P,i,rfl,rfl,u,r0⟩:=trodAll_cons w
 obtain ⟨rfl,rfl,rfl⟩:=trodAll_nil r0
 obtain rfl:args=#[D]:=by cases args;simp_all
 obtain ⟨rfl,rfl⟩:=trodVars_none I
 obtain ⟨O,B,r,rfl⟩:=okWide_slice Tryz.underlying22 (b 0 22 D rfl rfl)
 clear d
 simp only [append_nil] at c A
 have hb:Rows.uptoBulk s<=1048576:=by
  have h:Rows.uptoBulkAll [s]<=1048576:=of_decide_eq_true A
  simp only [Rows.uptoBulkAll] at h
  omega
 obtain ⟨l,hl,k⟩:=MO u hb
 have f:∀ z∈C,z.block < W.heap.size:=fun z hz=>c.lt z (by simp [hz])
 have m:=MK F
 refine (CK l _ W hl k m).mono fun e o ⟨J,x⟩=>?_
 subst J
 refine ⟨_,rfl,OP (pa:=C) (pv:=[]) c (fun _ _ _=>trodAll_mk1 (shut_bool Tryz.underlying4 _)) (fun M n=>?_) (fun _ _=>rfl) (by simp) x (ok_one (by kernel_rfl) rfl (okWide_bool_mk Tryz.underlying4 _))⟩
 exact trodAll_mk1 (Trod_stays (sp':=M) KI (by kernel_rfl) (of_decide_eq_true (by kernel_rfl)) u (fun z hz=>x.below.same (f z hz)) (fun z hz=>n z (by simp [hz])))
theorem RX (a:Os):laidMet Tryz.prog Rows.recordsUptoRow.laid ((World.doorLaid Tryz.prog 33 a).forCall (fun _ _=>0) ⟨#[],#[.slice none 0 0],[]⟩).memory :=
  laidMet_of_run' 8 (by kernel_rfl) (by kernel_rfl)
theorem PR (b:Os){H:Type}(enc:TypeId×Value->H):∃ a,DataW.whole enc Tryz.prog ((World.doorLaid Tryz.prog 33 b).forCall (fun _ _=>0) ⟨#[],#[.slice none 0 0],[]⟩).memory Tryz.f5.params.toList Rows.recordsSpec.vars false #[Value.slice none 0 0].toList 8=some ([.nil],[],a) :=
  ⟨[],by kernel_rfl⟩
theorem PP (e:Os)(a:e.Started)(H:Type)(enc:TypeId×Value->H)(F:Stop.Interp) :
  ReturnsInHanded {} Tryz.checked e 5 .any ((Rows.OpenSpec.upto Rows.recordsSpec).preRow enc Tryz.prog Tryz.f5 Rows.recordsUptoRow.domain false Rows.recordsUptoRow.laid) (((Rows.OpenSpec.upto Rows.recordsSpec).at F).post enc Tryz.prog Tryz.f5 false true false false):=by
 obtain ⟨f,hx⟩:=PR e enc
 refine returnsInHanded_of_row (C:=Tryz.checked) (s:=Rows.OpenSpec.upto Rows.recordsSpec) NW a (by kernel_rfl) Tryz.func5
  (witness_row_at (enc:=enc) (C:=Tryz.checked) false (World.doorLaid Tryz.prog 33 e) #[.slice none 0 0] rfl (by kernel_rfl) (by kernel_rfl) (by kernel_rfl)
   (OpenSpec.preRow_of_cond 8 hx (by kernel_rfl) (fun k j=>by cases j;kernel_rfl) (by kernel_rfl) (RX e))) ?_
 intro W base args g gs b d i _ c _ h _ _
 exact PO H enc W base args g gs b d i (c _ rfl) h
theorem PS:Rows.RecordsUptoSaid :=
 OpenClaim.holds_of_cond 5 Tryz.f5 rfl rfl rfl rfl rfl rfl rfl ⟨rfl,rfl,rfl,rfl,rfl⟩ rfl rfl rfl rfl rfl (by kernel_rfl) Tryz.func5 (by kernel_rfl)
  (of_decide_eq_true (by kernel_rfl)) (by unfold Func.isWrapper;first|(rw [if_pos (by decide +kernel)];kernel_rfl)|(rw [if_neg (by decide +kernel)];exact ⟨rfl,rfl⟩))
  (fun b a H enc _ F=>by rw [OpenClaim.pre_eq_preRow];exact PP b a H enc F)
theorem PQ (f:FuncId)(a:Func)(c:Tryz.pinned.checked.prog.funcNamed "skirmish/skirmishlaw.Records"=some f)(b:Tryz.pinned.checked.prog.funcs[f]?=some a) :
  false=Tryz.pinned.checked.prog.looks []/\∀ (j:Nat) t,a.params[j]?=some t->Tryz.pinned.checked.prog.wantsStandIn t=false:=by
 obtain rfl:f=5:=Option.some.inj ((show Tryz.prog.funcNamed "skirmish/skirmishlaw.Records"=some 5 by kernel_rfl).symm.trans c) |>.symm
 obtain rfl:a=Tryz.f5:=(Option.some.inj (Tryz.func5.symm.trans b)).symm
 refine ⟨by kernel_rfl,fun j t ht=>?_⟩
 rw [Tryz.params5] at ht
 obtain rfl:t=22:=by simpa using Array.mem_of_getElem? ht
 exact (show Tryz.prog.wantsStandIn 22=false by kernel_rfl)
theorem PN:Rows.RecordsUptoCardSaid :=
  Claim7.holds_tied_plain_at .later [] _ _ _ _ PS (fun _ h=>by cases h) (by kernel_rfl) (fun _ h=>by cases h) recordsUpto_row_tie rfl ⟨rfl,rfl⟩ (by kernel_rfl) rfl PQ (by kernel_rfl)
theorem recordsupto_claim:Rows.RecordsUptoCardSaid:=PN
