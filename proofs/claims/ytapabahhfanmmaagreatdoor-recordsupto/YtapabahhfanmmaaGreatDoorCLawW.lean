import Derived.Test.YtapabahhfanmmaaGreatDoorCLawP
import Derived.Test.YtapabahhfanmmaaGreatDoorCPlayG
namespace Go.Proofs.YtapabahhfanmmaaGreatDoor
open Go.RowKit List
set_option maxRecDepth 100000
set_option maxHeartbeats 4000000
theorem RM (w:World):Cs 96 #[.slice none 0 0,.slice none 0 0] w fun e a=>e=.returned (.bool true)/\Fr [] w a:=by
 go_enter Tryz.func96,Tryz.ntmps96
 go_wp2_with fail
 go_loopw [5] (fun i wr=>i=.int .i64 0/\w=wr) (fun _ _=>0)
 case atStart=>exact ⟨rfl,rfl⟩
 obtain ⟨rfl,rfl⟩:=hrel
 go_wp2_with fail
 go_ret
 exact ⟨rfl,r0 _ _⟩
theorem OC (l N:Nat)(K:List Nat)(w:World)(h:Bk w l K N)(hN:N<=2200000) :
  Cs 98 #[.pointer (so l),.slice none 0 0] w fun e w'=>e=.returned (.tuple #[])/\OwnP w l N K [] w':=by
 obtain ⟨ac,Zr,ba,bc,bd⟩:=info_parts wI
 obtain ⟨be,cb,cc,cd,ce⟩:=info_parts wJ
 obtain ⟨⟨Q,xs,nx,KL,h1,h2,h3,h4,h5,h6,h7,h8,h9,an,ao⟩,aw,au⟩:=h
 have cn:=h1.lt
 obtain ⟨a,E⟩:∃ x,x=w.heap.size:=⟨_,rfl⟩
 obtain ⟨C,D⟩:∃ W,W=w.alloc (.cells #[ii (-7)] 3):=⟨_,rfl⟩
 have y:Fr [] w C:=by rw [D];exact (r0 _ _).alloc _
 have az:C.cell? ⟨a,0,none⟩=some (ii (-7)):=by rw [D,E,aB (aC _ _)];rfl
 have cw:C.heap.size=a+1:=by rw [D,E];simp
 have B:=(show Hi _ from h1.fr y (by simp) (by simp))
 have ah:=(show Hi _ from h2.fr y (by simp))
 have HX:=(show Hi _ from And.intro h3 (And.intro h4 (And.intro h5 (And.intro h6 (And.intro h7 (And.intro an ao))))))
 have ai:=aA y
 have bv:=aA az
 have bo:=aA aw
 have bk:=aA au
 have am:Hi (∀ k,k < 9->∀ g,(Q k).ownBlock=some g->g < w.heap.size):=fun k p g hg=>((h1.own k p).lt g hg).2
 clear h1 h2 h3 h4 h5 h6 h7 an ao y az aw au
 go_enter Tryz.func98,Tryz.ntmps98
 go_wp2_with fail
 go_loopw [4] (fun i wr=>i=.int .i64 0/\w=wr) (fun _ _=>0)
 case atStart=>exact ⟨rfl,rfl⟩
 obtain ⟨rfl,rfl⟩:=hrel
 go_wp2_with fail
 rw [<- D,<- E]
 have bu:=aA E
 have ct:w.heap.size<=C.heap.size:=by omega
 clear D E
 go_loopw [11] (fun j wr=>j=.int .i64 0/\C=wr) (fun _ _=>0)
 case atStart=>exact ⟨rfl,rfl⟩
 obtain ⟨rfl,rfl⟩:=hrel
 obtain ⟨V,ae⟩:∃ W,W=C:=⟨_,rfl⟩
 have bq:Hi (V.ownsRow w.heap.size 25 1 (.slice none 0 0) 0 []):=⟨rfl,.inl ⟨rfl,rfl⟩⟩
 rw [<- ae]
 have aj:Hi (Fr [] C V):=by rw [ae];exact r0 _ _
 have co:C.heap.size<=V.heap.size:=aj.o.size
 clear ae
 have ag:Hi (∀ (W:World) (cs:Array Value),W.ownsRow w.heap.size 25 1 (.slice none 0 0) 0 []->(W.alloc (.cells cs 25)).ownsRow w.heap.size 25 1 (.slice none 0 0) 0 []):=fun W cs h=>h.alloc _
 have bm:Hi (∀ (W:World) (j:Nat) (u:Value),[Value.slice (so a) 1 1][j]?=some u->(W.alloc (.cells #[.slice (so a) 1 1] 25)).cell? ((⟨W.heap.size,0,none⟩:Addr).add j)=some u):=fun W=>cU W _ 25
 have bn:Hi (∀ (W:World) (j:Nat) (u:Value),[Value.slice (so a) 1 1,.slice (so a) 1 1][j]?=some u->(W.alloc (.cells #[.slice (so a) 1 1,.slice (so a) 1 1] 25)).cell? ((⟨W.heap.size,0,none⟩:Addr).add j)=some u):=fun W=>cU W _ 25
 obtain ⟨l2,O⟩:∃ l2,(xs 2).length=l2:=⟨_,rfl⟩
 have P:=B.o.own 2 (by omega)
 rw [O] at P
 obtain ⟨a2,q2,A⟩:=fF P
 rw [A] at P
 have cj:l2<=3*N:=by have:=HX.o.2.2.2.1;omega
 have ak:Hi (∀ W,Fr [] C W->W.cell? ⟨l,2,none⟩=some (.slice a2 l2 q2)/\W.frozen? ⟨l,2,none⟩=false/\W.ownsRow 0 46 1 (.slice a2 l2 q2) l2 (xs 2)/\BR W l Q xs nx/\BL W KL xs):=fun W hf=>by
  have t:=B.o.fr hf (by simp) (by simp)
  refine ⟨by rw [t.cell 2 (by omega),A],t.fz 2,?_,t,ah.o.fr hf (by simp)⟩
  have:=t.own 2 (by omega)
  rw [A,O] at this
  exact this
 have R:Hi (l∉(Value.ownBlock (.slice a2 l2 q2)).toList):=fun e=>B.o.nb 2 (by omega) (by rw [A];simpa using e)
 have al:=aA A
 have bl:=aA O
 clear A O P
 go_wp2_with (first
  | (
    at_builtin
    refine dR rfl (.tmp 111) (.tmp 113) 46 rfl w.heap.size 25 ac (.slice none 0 0) 1 24 Tryz.underlying46 Zr ba bc bd rfl (.slice none 0 0) 0 [] rfl (ag.o _ _ bq.o) ⟨V.heap.size,0,none⟩ 1 1 [.slice (so a) 1 1] rfl rfl (bm.o V) (by simp [Value.oneCell']) (by unfold maxLen;omega) (by omega) (by simp;omega) (by omega) ?_
    intro v1 w3 s M m
    obtain ⟨g1,X,rfl⟩:=bK s (by omega)
    have br:=aA s
    have bj:=aA M
    have bg:Hi (eG (V.alloc (.cells #[.slice (so a) 1 1] 25)) w3 (.slice none 0 0) (.slice (so g1) (0+1) X)):=m
    have bi:Hi (Fr [] C w3):=(aj.o.alloc _).trans (bE m) (fun x hx=>.inl hx)
    have cp:V.heap.size<=w3.heap.size:=(by have:=(bE m).size;simp at this;omega)
    clear s M m)
  | (
    at_builtin
    refine dR rfl (.tmp 115) (.tmp 118) 46 rfl w.heap.size 25 ac (.slice none 0 0) 1 24 Tryz.underlying46 Zr ba bc bd rfl (.slice none 0 0) 0 [] rfl (ag.o _ _ bj.o) ⟨w3.heap.size,0,none⟩ 2 2 [.slice (so a) 1 1,.slice (so a) 1 1] rfl rfl (bn.o w3) (by simp [Value.oneCell']) (by unfold maxLen;omega) (by omega) (by simp;omega) (by omega) ?_
    intro v2 f s M m
    obtain ⟨g2,Y,rfl⟩:=bK s (by omega)
    have bs:=aA s
    have bh:Hi (eG (w3.alloc (.cells #[.slice (so a) 1 1,.slice (so a) 1 1] 25)) f (.slice none 0 0) (.slice (so g2) (0+2) Y)):=m
    have I:Hi (Fr [] C f):=(bi.o.alloc _).trans (bE m) (fun x hx=>.inl hx)
    have cq:w3.heap.size<=f.heap.size:=(by have:=(bE m).size;simp at this;omega)
    obtain ⟨ar,cf,ax,_,_⟩:=ak.o f I.o
    have bt:Hi ((f.alloc (.cells #[.slice none 0 0,.slice (so g1) (0+1) X,.slice (so g2) (0+2) Y] 46)).ownsRow 0 46 1 (.slice a2 l2 q2) l2 (xs 2)):=ax.alloc _
    have bp:Hi (∀ (j:Nat) (u:Value),[Value.slice none 0 0,.slice (so g1) (0+1) X,.slice (so g2) (0+2) Y][j]?=some u->(f.alloc (.cells #[.slice none 0 0,.slice (so g1) (0+1) X,.slice (so g2) (0+2) Y] 46)).cell? ((⟨f.heap.size,0,none⟩:Addr).add j)=some u):=cU f _ 46
    have ab:l < f.heap.size:=aI ar
    clear s M m ax)
  | (
    at_builtin
    refine dR rfl (.tmp 124) (.tmp 128) 63 rfl 0 46 be (.slice none 0 0) 1 24 Tryz.underlying63 cb cc cd ce rfl (.slice a2 l2 q2) l2 (xs 2) rfl bt.o ⟨f.heap.size,0,none⟩ 3 3 [.slice none 0 0,.slice (so g1) (0+1) X,.slice (so g2) (0+2) Y] rfl rfl bp.o (by simp [Value.oneCell']) (by unfold maxLen;omega) (by omega) (by simp) (by omega) ?_
    intro v5 w5 ho p ha
    obtain ⟨g5,c5,rfl⟩:=bK ho (by omega)
    have Zq:=bE ha
    have cr:w5.cell? ⟨l,2,none⟩=some (.slice a2 l2 q2):=(Zq.cell l 2 (by simp;omega) R.o).trans ((((r0 [] f).alloc _).cell l 2 ab (by simp)).trans ar)
    have cm:w5.frozen? ⟨l,2,none⟩=false:=(Zq.frozen l 2 (by simp;omega) R.o).trans ((((r0 [] f).alloc _).frozen l 2 ab (by simp)).trans cf)))
 refine bodyPost_end (v:=.tuple #[]) (results_none rfl _ _ _) rfl ⟨rfl,?_⟩
 obtain ⟨x3,x4,x5,x6,x7,bf,ch⟩:=HX.o
 obtain ⟨S,s1,s2,m0,m1,m2⟩:=mN (base:=w.heap.size) (size:=1) (n:=0) (e:=25) (pat:=fun _=>.slice (so a) 1 1) (v:=.slice none 0 0) (fun _=>rfl) (show w3.ownsRow w.heap.size 25 1 (.slice (so g1) (0+1) X) (0+1) [.slice (so a) 1 1] from br.o) bg.o (show f.ownsRow w.heap.size 25 1 (.slice none 0 0) 0 [] from ⟨rfl,.inl ⟨rfl,rfl⟩⟩) (show f.ownsRow w.heap.size 25 1 (.slice (so g2) (0+2) Y) (0+2) [.slice (so a) 1 1,.slice (so a) 1 1] from bs.o) bh.o
 obtain ⟨_,_,_,bw,Zs⟩:=ak.o f I.o
 obtain ⟨L3,ad⟩:∃ L,L=[Value.slice none 0 0,.slice (so g1) (0+1) X,.slice (so g2) (0+2) Y]:=⟨_,rfl⟩
 have aq:Fr [] f (f.alloc (.cells #[.slice none 0 0,.slice (so g1) (0+1) X,.slice (so g2) (0+2) Y] 46)):=(r0 _ _).alloc _
 obtain ⟨J,bx⟩:=(bw.fr aq (by simp) (by simp)).push 2 (by omega) (.slice (so g5) (l2+3) c5) L3 (by rw [ad,bl.o];exact ho) (by rw [al.o];exact ha)
 have H:Fr (l :: (Q 2).ownBlock.toList) f (w5.setCell ⟨l,2,none⟩ (.slice (so g5) (l2+3) c5)):=aq.of0.trans bx (fun x hx=>.inl hx)
 obtain ⟨W6,bz⟩:∃ W,W=w5.setCell ⟨l,2,none⟩ (.slice (so g5) (l2+3) c5):=⟨_,rfl⟩
 rw [<- bz] at J H |-
 have ck:=H.size
 have ay:=am.o
 have av:L3.length=3:=by rw [ad];rfl
 have F:f.cell? ⟨a,0,none⟩=some (ii (-7)):=(I.o.cell a 0 (by omega) (by simp)).trans bv.o
 have cu:=bu.o
 have cg:∀ b∈S,V.heap.size<=b:=fun b hb=>by
  rcases s1 b hb with q|q
  ·simp [Value.ownBlock] at q
  exact q
 have c:∀ b∈KL ++ (S ++ [a]),b≠l/\(∀ k,k < 9->(Q k).ownBlock≠some b)/\(b∈K\/b∈([]:List Nat)\/w.heap.size<=b)/\b < f.heap.size:=fun b hb=>by
  rcases mem_append.1 hb with q|q
  ·obtain ⟨t1,t2⟩:=ch b q
   exact ⟨fun e=>bo.o (e ▸ t1),t2,.inl t1,by have:=bk.o b t1;omega⟩
  have aa:w.heap.size<=b/\b < f.heap.size:=by
    rcases mem_append.1 q with q|q
    ·have:=cg b q;have:=s2 b q;omega
    have e:b=a:=by simpa using q
    omega
  exact ⟨by omega,fun k p e=>by have:=ay k p b e;omega,.inr (.inr aa.1),aa.2⟩
 have ap:BL W6 (KL ++ (S ++ [a])) (aK xs 2 (xs 2 ++ L3)):=by
  refine ((Zs.up (K':=KL ++ (S ++ [a])) (fun b hb=>mem_append_left _ hb)).pairs L3 (fun u hu=>?_)).fr H (fun b hb hm=>?_)
  ·have up:∀ b∈S,b∈KL ++ (S ++ [a]):=fun b hb=>by simp [hb]
   rw [ad] at hu
   simp only [mem_cons,not_mem_nil,or_false] at hu
   rcases hu with rfl|rfl|rfl
   · exact (m0.up up).pairs (by omega) (by simp) F
   · exact (m1.up up).pairs (by omega) (by simp) F
   exact (m2.up up).pairs (by omega) (by simp) F
  rcases mem_cons.1 hm with q|q
  · exact (c b hb).1 q
  exact (c b hb).2.1 2 (by omega) (by simpa using q)
 have z:∀ k,k < 9->∀ g,(aK Q 2 (.slice (so g5) (l2+3) c5) k).ownBlock=some g->(∃ k',k' < 9/\(Q k').ownBlock=some g)\/f.heap.size<=g:=fun k p g hg=>by
  by_cases k2:k=2
  ·subst k2
   rw [gA] at hg
   rcases fE ha g hg with q|q
   · exact .inl ⟨2,by omega,by rw [al.o];exact q⟩
   simp at q;exact .inr (by omega)
  rw [fW _ _ k2] at hg
  exact .inl ⟨k,p,hg⟩
 have d:∀ b,b∈(range 9).filterMap (fun k=>(aK Q 2 (.slice (so g5) (l2+3) c5) k).ownBlock)->∃ k,k < 9/\(aK Q 2 (.slice (so g5) (l2+3) c5) k).ownBlock=some b:=fun b hb=>by
  obtain ⟨k,p,e⟩:=mem_filterMap.1 hb
  exact ⟨k,mem_range.1 p,e⟩
 refine ⟨⟨(KL ++ (S ++ [a])) ++ (range 9).filterMap (fun k=>(aK Q 2 (.slice (so g5) (l2+3) c5) k).ownBlock),⟨⟨_,_,nx,KL ++ (S ++ [a]),J,ap,x3,x4,?_,?_,?_,?_,h9,fun k p g hg=>?_,fun b hb=>⟨mem_append_left _ hb,fun k p e=>?_⟩⟩,fun hm=>?_,fun b hb=>?_⟩,fun b hb=>?_⟩,?_⟩
 ·show (xs 0).length<=_
  omega
 ·show (xs 2 ++ L3).length<=_
  rw [length_append,av]
  omega
 ·show (xs 3).length<=_/\(xs 5).length<=_/\(xs 6).length<=_
  omega
 ·omega
 ·exact mem_append_right _ (mem_filterMap.2 ⟨k,mem_range.2 p,hg⟩)
 ·rcases z k p b e with ⟨k',af,q⟩|q
  ·exact (c b hb).2.1 k' af q
  have:=(c b hb).2.2.2;omega
 ·rcases mem_append.1 hm with q|q
  ·exact (c l q).1 rfl
  obtain ⟨k,p,e⟩:=d l q
  exact J.nb k p e
 ·rcases mem_append.1 hb with q|q
  ·have:=(c b q).2.2.2;omega
  obtain ⟨k,p,e⟩:=d b q
  exact ((J.own k p).lt b e).2
 ·rcases mem_append.1 hb with q|q
  ·exact (c b q).2.2.1
  obtain ⟨k,p,e⟩:=d b q
  rcases z k p b e with ⟨k',af,r⟩|r
  · exact .inl (bf k' af b r)
  exact .inr (.inr (by omega))
 refine ((ai.o.then0 I.o).of0).trans H (fun b hb=>?_)
 rcases mem_cons.1 hb with q|q
 ·exact .inl (by simp [q])
 exact .inl (by simp [bf 2 (by omega) b (by simpa using q)])
structure TuR (w:World) (lb xb pb:Nat) (S:List Nat) (yb gb qb:Nat) (fst:Int) (tv kv:Value) (told marks:List Value) (log:List UInt8) (steps:List Stp) (bb N:Nat) (K:List Nat) (w':World):Prop where
 ex:∃ pb' cap' S' mv' stv' v' qb' cap2' tv' kv' told' marks' t' log' steps' K',LX w' lb xb pb' cap' S' mv' stv' v' yb gb qb' cap2' fst tv' kv' told' marks' t' log' steps'/\told'.length<=told.length+1/\marks'.length<=marks.length+3/\steps'.length<=steps.length+1/\log'.length<=log.length+41000/\Bk w' bb K' (N+1)/\(∀ x∈aU lb xb pb' S' yb gb qb' tv' kv',x∈aU lb xb pb S yb gb qb tv kv\/w.heap.size<=x)/\(∀ x∈K',x∈K\/w.heap.size<=x)/\(∀ x∈aU lb xb pb' S' yb gb qb' tv' kv',x≠bb/\x∉K')
 fr:Fr (bb :: (aU lb xb pb S yb gb qb tv kv ++ K)) w w'
theorem BJ {y B P al:Nat} {S:List Nat} {mv ay v:Value} {C gb Q E:Nat} {am:Int} {tv O:Value} {m j:List Value} {t:T} {ae:List UInt8} {d:List Stp} {Y N:Nat} {K:List Nat} (w0 w:World) (c:Int) (hc:¬ c=0) (kd n:Int) (s l2:List Cm) (F R ia ga:Option Addr) (I H X V il ic gl gc:Nat) (tx:ByteArray)
  (h:LX w y B P al S mv ay v C gb Q E am tv O m j t ae d) (hB:Bk w Y K N) (hA:∀ x∈aU y B P S C gb Q tv O,x≠Y/\x∉K) (hN:N<=2200000) (h1:CmdR w0 (.slice F I H) s) (h2:CmdR w0 (.slice R X V) l2) (bs:Fr [] w0 w) (bv:s.length<=2000000) (bw:l2.length<=2000000)
  (de:d.length<=9999990) (co:m.length<=1000000000) (bx:j.length<=1000000000)
  (bl:Hi (∀ a i p,Fr [] w a->a.ownsRow w.heap.size 81 5 i s.length (s.flatMap Cm.cells)->a.ownsRow w.heap.size 81 5 p l2.length (l2.flatMap Cm.cells)->Cs 17 #[.pointer (so B),i,p] a fun e az=>e=.returned (.tuple #[.slice none 0 0,.int .i64 c])/\Fr [] a az))
  (bm:Hi (∀ a,Fr [] w a->Cs 105 #[.pointer (so C),.slice F I H,.slice R X V] a fun e az=>e=.returned (.tuple #[.slice none 0 0,.int .i64 c])/\Fr [] a az)) :
  Cs 62 #[.pointer (so y),.pointer (so Y),.agg #[ii kd,.slice F I H,.slice R X V,.string tx,.slice ia il ic,ii n,.slice ga gl gc]] w fun e a=>e=.returned (.bool true)/\TuR w y B P S C gb Q am tv O m j ae d Y N K a:=by
 have cz:=aH h.h
 have cx:=hB.lt
 have HX:Hi (∀ a,Fr [] w a->LX a y B P al S mv ay v C gb Q E am tv O m j t ae d):=fun a J=>h.fr0 J
 have HB:Hi (∀ a,Fr [] w a->Bk a Y K N):=fun a J=>hB.fr0 J
 have bd:Hi (∀ a,Fr [] w a->CmdR a (.slice F I H) s):=fun a J=>(h1.fr0 bs).fr0 J
 have be:Hi (∀ a,Fr [] w a->CmdR a (.slice R X V) l2):=fun a J=>(h2.fr0 bs).fr0 J
 have ce:=aA h.lt
 have D:=aA hA
 have cu:=aA hB.kl
 clear h hB h1 h2 hA
 obtain ⟨f,ad⟩:∃ W,W=w.alloc (.cells #[ii kd,.slice F I H,.slice R X V,.string tx,.slice ia il ic,ii n,.slice ga gl gc] 70):=⟨_,rfl⟩
 have an:Fr [] w f:=by rw [ad];exact (r0 _ _).alloc _
 have A:f.heap[w.heap.size]?=some (.cells #[ii kd,.slice F I H,.slice R X V,.string tx,.slice ia il ic,ii n,.slice ga gl gc] 70):=by rw [ad];exact aC _ _
 go_enter Tryz.func62,Tryz.ntmps62
 go_wp2_with fail
 rw [<- ad]
 have e1:ca f w.heap.size 1 (.slice F I H):=aB A
 have C1:=(show Hi _ from kY s (.slice F I H) f (bd.o f an) bv)
 have da:w.heap.size < f.heap.size:=aH A
 clear ad
 refine Calls.mono C1.o ?_
 rintro e w2 ⟨i,rfl,aw,k⟩
 have ao:=an.then0 k
 have e2:ca w2 w.heap.size 2 (.slice R X V):=aB (k.heap0 A)
 have C2:=(show Hi _ from kY l2 (.slice R X V) w2 (be.o w2 ao) bw)
 have bj:=(show Hi (w2.ownsRow f.heap.size 81 5 i s.length (s.flatMap Cm.cells)) from aw)
 have bc:Hi (∀ g,i.ownBlock=some g->f.heap.size<=g/\g < w2.heap.size):=fun g hg=>aw.lt g hg
 clear C1 e1 aw
 go_wp2_with fail
 refine Calls.mono C2.o ?_
 rintro e w3 ⟨p,rfl,ax,z⟩
 have aa:=ao.then0 z
 have br:=HX.o w3 aa
 have d0:ca w3 y 0 (.pointer (so B)):=aB br.h
 have M:w3.ownsRow f.heap.size 81 5 i s.length (s.flatMap Cm.cells):=aF bj.o z (by simp)
 have ct:=k.size
 have C3:=(show Hi _ from bl.o w3 i p aa (jG M (by omega)) (jG ax (by omega)))
 have bk:=(show Hi (w3.ownsRow f.heap.size 81 5 i s.length (s.flatMap Cm.cells)) from M)
 have ak:=(show Hi (w3.ownsRow w2.heap.size 81 5 p l2.length (l2.flatMap Cm.cells)) from ax)
 clear C2 e2 ax M br bj bl
 go_wp2_with fail
 refine Calls.mono C3.o ?_
 rintro e w4 ⟨rfl,L⟩
 have ab:=aa.then0 L
 have HS:∀ a,Fr [] w4 a->(fun a:World=>(ca a y 1 (.pointer (so C))/\ca a w.heap.size 1 (.slice F I H)/\ca a w.heap.size 2 (.slice R X V))/\Fr [] w4 a) a:=fun a J=>by
  have hF:=ab.then0 J
  have hh:=((((k.then0 z).then0 L).then0 J).heap0 A)
  exact ⟨⟨aB (HX.o a hF).h,aB hh,aB hh⟩,J⟩
 have K0:=HS w4.drew ((r0 _ _).drew)
 clear C3 d0
 go_wp2_with fail
 refine rg 14 HS K0 fun hH=>?_
 iterate 8 (refine tn 14 hH ?_;try simp only [Act.put,Z])
 refine rd 8 fun K1 hK=>?_
 have bh:=aA hK
 clear hK
 go_simp
 refine Calls.mono (bm.o _ (ab.then0 hH.2)) ?_
 rintro e w5 ⟨rfl,ah⟩
 have l:=hH.2.then0 ah
 clear hH
 refine bh.o _ _ (HS _ l) (fun hH=>?_)
 clear bh K1;try simp only [Act.put,Z]
 iterate 5 (refine tn 14 hH ?_;try simp only [Act.put,Z])
 refine wpAnyH_done (by kernel_rfl) ?_ _
 have cw:=ab.then0 l
 have ch:Fr [] f w5:=((k.then0 z).then0 L).then0 l
 have ba:Hi (Fr [] w3 w5):=L.then0 l
 have cq:Hi (Fr [] f w2):=k
 have aj:Hi (Fr [] w f):=an
 have cn:=k.size
 have db:=z.size
 clear hH HS K0 bm ah L z k ab aa ao l
 go_wp2_with fail
 refine Calls.mono (RM w5) ?_
 rintro e w6 ⟨rfl,Zq⟩
 have ap:=ch.then0 Zq
 have f1:ca w6 w.heap.size 1 (.slice F I H):=aB (ap.heap0 A)
 have Zs:w6.ownsRow f.heap.size 81 5 i s.length (s.flatMap Cm.cells):=aF bk.o (ba.o.then0 Zq) (by simp)
 have C6:=(show Hi _ from lA f.heap.size s (.slice F I H) i f w6 (bd.o f aj.o) ap (Nat.le_refl _) Zs bv)
 clear Zs
 go_wp2_with fail
 refine Calls.mono C6.o ?_
 rintro e w7 ⟨rfl,Zr⟩
 have aq:Fr [] f w7:=ap.trans Zr (fun b hb=>.inr (bc.o b (by simpa using hb)).1)
 have f2:ca w7 w.heap.size 2 (.slice R X V):=aB (aq.heap0 A)
 have bz:w7.ownsRow w2.heap.size 81 5 p l2.length (l2.flatMap Cm.cells):=aF (aF ak.o (ba.o.then0 Zq) (by simp)) Zr (fun g hg e=>by
  have e1:=(bc.o g (by simpa using e)).2
  have e2:=(ak.o.lt g hg).1
  omega)
 have C7:=(show Hi _ from lA w2.heap.size l2 (.slice R X V) p f w7 (be.o f aj.o) aq cn bz bw)
 have cd:Hi (∀ g,p.ownBlock=some g->w2.heap.size<=g):=fun g hg=>(ak.o.lt g hg).1
 clear C6 f1 bz Zr
 go_wp2_with fail
 refine Calls.mono C7.o ?_
 rintro e w8 ⟨rfl,bt⟩
 have cj:Fr [] f w8:=aq.trans bt (fun b hb=>.inr (by have:=cd.o b (by simpa using hb);omega))
 have ac:Fr [] w w8:=aj.o.then0 cj
 have C8:=(show Hi _ from OC Y N K w8 (HB.o w8 ac) hN)
 clear C7 f2 bt
 go_wp2_with fail
 refine Calls.mono C8.o ?_
 rintro e w9 ⟨rfl,cg⟩
 obtain ⟨⟨K',bo,bp⟩,au⟩:=cg
 have dc:=ac.size
 have cm:∀ x∈aU y B P S C gb Q tv O,x∉Y :: (K ++ []):=fun x hx e=>by
  rcases mem_cons.1 e with q|q
  ·exact (D.o x hx).1 q
  exact (D.o x hx).2 (by simpa using q)
 have ar:=(HX.o w8 ac).fr au cm
 have C9:=(show Hi _ from zV w9 ar bx)
 have cy:(c==0)=false:=by simpa using hc
 have cf:=aA ar
 have bf:=aA bo
 have bg:=aA bp
 clear C8 ar bo bp
 go_wp2_with fail
 refine Calls.mono C9.o ?_
 rintro e cc ⟨ns,rfl,u⟩
 have CA:=(show Hi _ from oG cc ns (cf.o.fr0 u) (by omega) co bx)
 clear C9
 go_wp2_with fail
 refine Calls.mono CA.o ?_
 rintro e cp ⟨rfl,⟨⟨cb,marks',af,cr,bu⟩,ag⟩⟩
 have bi:=aA af
 clear CA af
 go_wp2_with (go_at_call 52;refine (oJ _ _).mono ?_;rintro e df ⟨rfl,rfl⟩)
 go_ret
 refine ⟨rfl,?_⟩
 have dd:=au.size
 have cs:=u.size
 have ck:∀ x∈aU y B P S C gb Q tv O,x < w.heap.size:=ce.o
 have av:∀ b∈y :: O.ownBlock.toList,b∈aU y B P S C gb Q tv O:=fun b hb=>by
  rcases mem_cons.1 hb with q|q
  ·simp [q]
  have:O.ownBlock=some b:=by simpa using q
  simp [this]
 have bq:∀ x∈aU y B P S C gb Q tv O,x∉K':=fun x hx e=>by
  rcases bg.o x e with q|q|q
  ·exact (D.o x hx).2 q
  ·simp at q
  have:=ck x hx;omega
 have bn:Bk cp Y K' (N+1):=(bf.o.fr0 u).fr ag (fun e=>(D.o Y (av Y e)).1 rfl) (fun b hb e=>bq b (av b e) hb)
 have ai:∀ x∈aU y B P S C gb Q tv cb,x∈aU y B P S C gb Q tv O\/cc.heap.size<=x:=fun x hx=>by
  rcases mem_append.1 hx with q|q
  ·exact .inl (mem_append_left _ q)
  rcases mem_append.1 q with q|q
  ·exact .inl (by simp [q])
  rcases mem_append.1 q with q|q
  ·have e:tv.ownBlock=some x:=by simpa using q
   exact .inl (by simp [e])
  rcases bu x (by simpa using q) with r|r
  ·exact .inl (by simp [r])
  exact .inr r
 refine ⟨⟨P,al,S,mv,ay,v,Q,E,tv,cb,m,marks',t,ae,d,K',bi.o,by omega,by omega,by omega,by omega,bn,fun x hx=>?_,fun x hx=>?_,fun x hx=>?_⟩,?_⟩
 ·exact (ai x hx).imp_right (fun q=>by omega)
 ·rcases bg.o x hx with q|q|q
  ·exact .inl q
  ·simp at q
  exact .inr (by omega)
 ·rcases ai x hx with q|q
  ·exact ⟨(D.o x q).1,bq x q⟩
  refine ⟨by omega,fun e=>?_⟩
  have:=(bf.o.kl x e)
  omega
 refine (((ac.of0).trans au (fun b hb=>.inl ?_)).then0 u).trans ag (fun b hb=>.inl ?_)
 ·rcases mem_cons.1 hb with q|q
  ·simp [q]
  have:b∈K:=by simpa using q
  simp [this]
 exact mem_cons_of_mem _ (mem_append_left _ (av b hb))
theorem UL {c z pb eu:Nat} {S:List Nat} {mv gq v:Value} {d f E al:Nat} {dj:Int} {tv J:Value} {a aa:List Value} {t:T} {Y:List UInt8} {O:List Stp} {bb N:Nat} {K:List Nat} (w0 w:World) (kd n:Int) (p l2:List Cm) (fa sa ia ga:Option Addr) (fn fc sn sc il ic gl gc:Nat) (tx:ByteArray)
  (h:LX w c z pb eu S mv gq v d f E al dj tv J a aa t Y O) (hB:Bk w bb K N) (hA:∀ x∈aU c z pb S d f E tv J,x≠bb/\x∉K) (hN:N<=2200000) (gi:Sd w) (h1:CmdR w0 (.slice fa fn fc) p) (h2:CmdR w0 (.slice sa sn sc) l2) (bz:Fr [] w0 w) (fg:∀ x∈aU c z pb S d f E tv J,w0.heap.size<=x) (dp:p.length<=2000000) (dq:l2.length<=2000000)
  (jq:O.length<=9999990) (js:a.length<=999999999) (gd:aa.length<=1000000000) (jl:Y.length<=900000000000) (ht:t.turn < 1000000000) (gj:p.length+l2.length<=8000) (be:(cV t.turn p l2).length<=40000) :
  Cs 62 #[.pointer (so c),.pointer (so bb),.agg #[ii kd,.slice fa fn fc,.slice sa sn sc,.string tx,.slice ia il ic,ii n,.slice ga gl gc]] w fun e l=>e=.returned (.bool true)/\TuR w c z pb S d f E dj tv J a aa Y O bb N K l:=by
 have jm:=aH h.h
 have ji:=hB.lt
 have HX:Hi (∀ l,Fr [] w l->LX l c z pb eu S mv gq v d f E al dj tv J a aa t Y O):=fun l hf=>h.fr0 hf
 have HB:Hi (∀ l,Fr [] w l->Bk l bb K N):=fun l hf=>hB.fr0 hf
 have ag:Hi (CmdR w0 (.slice fa fn fc) p/\CmdR w0 (.slice sa sn sc) l2/\Fr [] w0 w):=⟨h1,h2,bz⟩
 have gw:Hi (∀ l,Fr [] w l->CmdR l (.slice fa fn fc) p):=fun l hf=>(h1.fr0 bz).fr0 hf
 have hd:=aA gi
 have eh:=aA fg
 have ed:=aA h.gg
 have fy:(bR (dH v Y) LOG).length<=99000000000000:=by simp [bR,dH];omega
 have gx:Hi (∀ l,Fr [] w l->CmdR l (.slice sa sn sc) l2):=fun l hf=>(h2.fr0 bz).fr0 hf
 have ha:=aA h.lt
 have ar:=aA hA
 have dg:=aA hB.kl
 clear h hB h1 h2 hA gi fg bz
 obtain ⟨W1,bx⟩:∃ W,W=w.alloc (.cells #[ii kd,.slice fa fn fc,.slice sa sn sc,.string tx,.slice ia il ic,ii n,.slice ga gl gc] 70):=⟨_,rfl⟩
 have dk:Fr [] w W1:=by rw [bx];exact (r0 _ _).alloc _
 have cd:W1.heap[w.heap.size]?=some (.cells #[ii kd,.slice fa fn fc,.slice sa sn sc,.string tx,.slice ia il ic,ii n,.slice ga gl gc] 70):=by rw [bx];exact aC _ _
 go_enter Tryz.func62,Tryz.ntmps62
 go_wp2_with fail
 rw [<- bx]
 have e1:ca W1 w.heap.size 1 (.slice fa fn fc):=aB cd
 have C1:=(show Hi _ from kY p (.slice fa fn fc) W1 (gw.o W1 dk) dp)
 have jo:w.heap.size < W1.heap.size:=aH cd
 clear bx
 refine Calls.mono C1.o ?_
 rintro e w2 ⟨P,rfl,ds,cb⟩
 have fd:=dk.then0 cb
 have e2:ca w2 w.heap.size 2 (.slice sa sn sc):=aB (cb.heap0 cd)
 have C2:=(show Hi _ from kY l2 (.slice sa sn sc) w2 (gx.o w2 fd) dq)
 have ek:=(show Hi (w2.ownsRow W1.heap.size 81 5 P p.length (p.flatMap Cm.cells)) from ds)
 have Zq:Hi (∀ g,P.ownBlock=some g->W1.heap.size<=g/\g < w2.heap.size):=fun g hg=>ds.lt g hg
 have cm:Hi (Fr [] W1 w2):=cb
 clear C1 e1 ds
 go_wp2_with fail
 refine Calls.mono C2.o ?_
 rintro e F ⟨af,rfl,dt,bc⟩
 have ax:=fd.then0 bc
 have Zs:=HX.o F ax
 have d0:ca F c 0 (.pointer (so z)):=aB Zs.h
 have bj:F.ownsRow W1.heap.size 81 5 P p.length (p.flatMap Cm.cells):=aF ek.o bc (by simp)
 have iy:=cb.size
 have C3:=(show Hi _ from PH F p l2 P af Zs.rs (Sd.fr0 hd.o ax) ed.o ht (jY bj) (jY dt) gj be (by omega) fy)
 have el:=(show Hi (F.ownsRow W1.heap.size 81 5 P p.length (p.flatMap Cm.cells)) from bj)
 have bu:=(show Hi (F.ownsRow w2.heap.size 81 5 af l2.length (l2.flatMap Cm.cells)) from dt)
 have ab:=aA Zs
 clear C2 e2 dt bj Zs ek
 go_wp2_with fail
 refine Calls.mono C3.o ?_
 rintro e w4 ⟨pl,rfl,bk,v',L,ev,ip,gt,S',db,dm,wm,bp,bq,jf,df,br⟩
 obtain ⟨ra,cg⟩:∃ x,x=(aM t (p.map aE) (l2.map aE)).2.1:=⟨_,rfl⟩
 obtain ⟨rc,ch⟩:∃ x,x=(aM t (p.map aE) (l2.map aE)).2.2:=⟨_,rfl⟩
 rw [<- cg,<- ch] at bk bp
 have gf:=yN t (p.map aE) (l2.map aE)
 rw [<- cg,<- ch,length_map,length_map] at gf
 have ep:=(show Hi (RefsA w4 F.heap.size pl ra rc) from bk)
 obtain ⟨M,x0,x1,Zu,dr,jk,ct,cu,cs⟩:=bk
 subst Zu
 have nd:=ab.o.nd
 simp only [cP,nodup_cons,mem_cons,not_mem_nil,or_false,not_or,nodup_nil,and_true,not_false_eq_true] at nd
 have I:=ha.o
 have jt:=I d (by simp)
 have jj:=I f (by simp)
 have jn:=I E (by simp)
 have ap:∀ b∈z :: S,b < w.heap.size/\w0.heap.size<=b/\b≠bb/\b∉K/\b≠c:=fun b hb=>by
  have V:b∈aU c z pb S d f E tv J:=by
   rcases mem_cons.1 hb with q|q
   · simp [q]
   simp [q]
  refine ⟨I b V,eh.o b V,(ar.o b V).1,(ar.o b V).2,fun e=>?_⟩
  rcases mem_cons.1 hb with q|q
  ·exact nd.1.1 (e.symm.trans q)
  exact ab.o.ns b q (by simp [e])
 have ib:c∉z :: S:=fun e=>(ap c e).2.2.2.2 rfl
 have ie:w.heap.size∉z :: S:=fun e=>by have:=(ap _ e).1;omega
 have aq:=dm.fr
 have av:∀ b∈M :: fK [x0,x1],F.heap.size<=b/\b < wm.heap.size/\b≠L:=by
  obtain ⟨jw,y0,y1,hj,di,hk,hl,hm,_⟩:=bp
  cases hj
  have jc:w.heap.size<=F.heap.size:=ax.size
  have bn:=br.heap di (fun e=>by have:=(ap _ e).1;omega)
  rw [dr] at bn
  cases bn
  have go:∀ (u:Value) (k:Nat) (xs:List Value),wm.ownsRow F.heap.size 3 1 u k xs->∀ b,u.ownBlock=some b->F.heap.size<=b/\b < wm.heap.size/\b≠L:=fun u k xs ho b hb=>by
   refine ⟨(ho.lt b hb).1,(ho.lt b hb).2,fun e=>?_⟩
   rcases ho.2 with ⟨rfl,_⟩|⟨g,cp,cur,rfl,_,hh,_⟩
   · cases hb
   simp [Value.ownBlock] at hb
   subst hb
   exact pA bq hh (by decide) e.symm
  intro b hb
  rcases mem_cons.1 hb with q|q
  ·subst q
   exact ⟨hk,aH di,fun e=>pA bq di (by decide) e.symm⟩
  obtain ⟨u,hu,gk⟩:=mem_filterMap.1 q
  simp at hu
  rcases hu with rfl|rfl
  · exact go _ _ _ hl b gk
  exact go _ _ _ hm b gk
 have dv:wm.heap.size<=w4.heap.size:=br.size
 have fm:=((cm.o.then0 bc).heap0 cd)
 have ce:=aq.heap fm ie
 have fu:=aq.heap ab.o.h ib
 have ew:Fr [] w0 w4:=((ag.o.2.2).then0 ax).trans aq (fun b hb=>.inr (ap b hb).2.1)
 have ba:Fr [] w4 w4.drew:=(r0 _ _).drew
 have gm:YR w4.drew d f E al t Y:=(ab.o.y.fr aq (ab.o.yapart d (.inl rfl)) (ab.o.yapart f (.inr (.inl rfl))) (ab.o.yapart E (.inr (.inr rfl)))).fr0 ba
 have dy:Hi (Cs 105 #[.pointer (so d),.slice fa fn fc,.slice sa sn sc] w4.drew fun e l=>∃ v5 m A,e=.returned (.tuple #[v5,.int .i64 0])/\YR l d f m A (eD t (p,l2)) (Y ++ eW t (p,l2))/\Fr [d,f,E] w4.drew l/\(m=E\/w4.drew.heap.size<=m)/\Refs l w4.drew.heap.size v5 ra rc):=(zM d f E al t Y p l2 _ _ w4.drew gm ⟨nd.2.2.2.1.1,nd.2.2.2.1.2⟩ ed.o ht ((ag.o.1).fr0 (ew.then0 ba)) ((ag.o.2.1).fr0 (ew.then0 ba)) dp dq (by omega)).mono (by
  rintro e l (⟨az,_⟩|⟨_,v5,m,A,q1,q2,q3,q4,q5⟩)
  ·omega
  exact ⟨v5,m,A,q1,q2,q3,q4,by rw [cg,ch];exact q5⟩)
 have HS:∀ Z l,Fr Z w4 l->c∉Z->w.heap.size∉Z->(fun l:World=>ca l c 1 (.pointer (so d))/\ca l w.heap.size 1 (.slice fa fn fc)/\ca l w.heap.size 2 (.slice sa sn sc)) l:=fun Z l hf q1 q2=>⟨aB (hf.heap fu q1),aB (hf.heap ce q2),aB (hf.heap ce q2)⟩
 have K0:=HS [] w4.drew ba (by simp) (by simp)
 have hc:=aA dm
 have jg:=aA ap
 have gz:=(show Hi (w4.heap[M]?=some (.cells #[x0,x1] 25)) from dr)
 have iu:=(show Hi (w4.ownsRow F.heap.size 3 1 x0 ra.length (ints ra)) from ct)
 have iv:=(show Hi (w4.ownsRow F.heap.size 3 1 x1 rc.length (ints rc)) from cu)
 have it:=aA cs
 have ny:c∉[d,f,E]:=by simp only [mem_cons,not_mem_nil,or_false,not_or];exact ⟨nd.1.2.2.1,nd.1.2.2.2.1,nd.1.2.2.2.2⟩
 have no:w.heap.size∉[d,f,E]:=by simp only [mem_cons,not_mem_nil,or_false,not_or];omega
 clear C3 d0 dm dr ct cu cs gm nd cg ch fm ap
 go_wp2_with fail
 refine wp_region_held_drew (S:=(fun l:World=>ca l c 1 (.pointer (so d))/\ca l w.heap.size 1 (.slice fa fn fc)/\ca l w.heap.size 2 (.slice sa sn sc))) (by kernel_rfl) K0 (fun hH=>?_)
 refine (show wpAnyH Tryz.prog Region.Mode.any _ _ _ 14 (Array.replicate 14 false) _ _ from ?_)
 iterate 8 (refine tn 14 hH ?_;try simp only [Act.put,Z])
 refine rd 8 fun K1 hK=>?_
 have eg:=aA hK
 clear hK
 go_simp
 refine Calls.mono dy.o ?_
 rintro e w5 ⟨v5,m,A,rfl,gn,fl,dc,dd⟩
 have aj:Fr [d,f,E] w4 w5:=(ba.of0).trans fl (fun b hb=>.inl hb)
 clear hH
 refine eg.o _ _ (HS _ w5 aj ny no) (fun hH=>?_)
 clear eg K1 dy;try simp only [Act.put,Z]
 iterate 5 (refine tn 14 hH ?_;try simp only [Act.put,Z])
 refine wpAnyH_done (by kernel_rfl) ?_ _
 have fj:=ab.o.played ht be hc.o db gn aj dc
 have iz:W1.heap.size<=F.heap.size:=Nat.le_trans cm.o.size bc.size
 have jr:w.heap.size<=F.heap.size:=by omega
 have fh:∀ x∈aU c z L S' d f m tv J,(x∈aU c z pb S d f E tv J\/F.heap.size<=x)/\x∉M :: fK [x0,x1]:=fun x hx=>by
  have C:x∈aU c z pb S d f E tv J->(x∈aU c z pb S d f E tv J\/F.heap.size<=x)/\x∉M :: fK [x0,x1]:=fun q=>⟨.inl q,fun e=>by have:=I x q;have:=(av x e).1;omega⟩
  have az:wm.heap.size<=x->(x∈aU c z pb S d f E tv J\/F.heap.size<=x)/\x∉M :: fK [x0,x1]:=fun q=>⟨.inr (by omega),fun e=>by have:=(av x e).2.1;omega⟩
  rcases mem_append.1 hx with q|q
  ·simp only [mem_cons,not_mem_nil,or_false] at q
   rcases q with rfl|rfl|rfl|rfl|rfl|rfl
   · exact C (by simp)
   · exact C (by simp)
   · rcases db with e|e
     · exact C (by simp [e])
     exact ⟨.inr e,fun e2=>(av _ e2).2.2 rfl⟩
   · exact C (by simp)
   · exact C (by simp)
   rcases dc with e|e
   · exact C (by simp [e])
   exact az (Nat.le_trans dv e)
  rcases mem_append.1 q with q|q
  · rcases df x q with e|e
    · exact C (by simp [e])
    exact az e
  exact C (mem_append_right _ (mem_append_right _ q))
 have Zr:=aA fh
 have hi:=aA fj
 have am:Fr (z :: (S ++ [d,f,E])) w w5:=((ax.of0).trans (mE aq) (fun b hb=>.inl hb)).trans aj (fun b hb=>.inl (by simp only [mem_cons,not_mem_nil,or_false] at hb;rcases hb with e|e|e <;> simp [e]))
 have hZ:∀ b∈z :: (S ++ [d,f,E]),b < w.heap.size/\w0.heap.size<=b/\b≠bb/\b∉K:=fun b hb=>by
  have V:b∈aU c z pb S d f E tv J:=by
   rcases mem_cons.1 hb with q|q
   · simp [q]
   rcases mem_append.1 q with q|q
   · simp [q]
   simp only [mem_cons,not_mem_nil,or_false] at q
   rcases q with e|e|e <;> simp [e]
  exact ⟨I b V,eh.o b V,(ar.o b V).1,(ar.o b V).2⟩
 have hn:Fr [] w0 w5:=(ag.o.2.2).trans am (fun b hb=>.inr (hZ b hb).2.1)
 have ez:Bk w5 bb K N:=(HB.o w (r0 _ _)).fr am (fun e=>(hZ bb e).2.2.1 rfl) (fun b hb e=>(hZ b e).2.2.2 hb)
 have bm:RefsA w5 F.heap.size (.slice (so M) 2 2) ra rc:=RefsA.fr ep.o aj (fun x hx=>by simp only [mem_cons,not_mem_nil,or_false] at hx;omega)
 have C5:=(show Hi _ from zX _ _ ra rc (.slice (so M) 2 2) v5 w5 bm.refs dd (by omega) (by omega))
 have fo:=aj.heap ce no
 have eb:=aA am
 have HZ:=aA hZ
 have gv:=aA ez
 have eq:=(show Hi (RefsA w5 F.heap.size (.slice (so M) 2 2) ra rc) from bm)
 have ea:=aA av
 have bt:Fr (z :: (S ++ [d,f,E])) F w5:=(mE aq).trans aj (fun b hb=>.inl (by simp only [mem_cons,not_mem_nil,or_false] at hb;rcases hb with e|e|e <;> simp [e]))
 have jb:=bt.size
 have cx:w5.ownsRow W1.heap.size 81 5 P p.length (p.flatMap Cm.cells):=aF el.o bt (fun b hb e=>by have:=(hZ b e).1;have:=(Zq.o b hb).1;omega)
 have cy:w5.ownsRow w2.heap.size 81 5 af l2.length (l2.flatMap Cm.cells):=aF bu.o bt (fun b hb e=>by have:=(hZ b e).1;have:=(bu.o.lt b hb).1;omega)
 have em:=(show Hi (w5.ownsRow W1.heap.size 81 5 P p.length (p.flatMap Cm.cells)) from cx)
 have en:=(show Hi (w5.ownsRow w2.heap.size 81 5 af l2.length (l2.flatMap Cm.cells)) from cy)
 have ig:w0.heap.size<=W1.heap.size:=Nat.le_trans (ag.o.2.2).size dk.size
 clear fj fh hZ ez bm hH HS K0 av bt cx cy dd gn bp bq df br am fu ce
 go_wp2_with fail
 refine Calls.mono C5.o ?_
 rintro e w6 ⟨rfl,bd⟩
 have ex:=hn.then0 bd
 have Zt:=bd.heap0 fo
 have f1:ca w6 w.heap.size 1 (.slice fa fn fc):=aB Zt
 have C6:=(show Hi _ from lA W1.heap.size p (.slice fa fn fc) P w0 w6 ag.o.1 ex ig (aF em.o bd (by simp)) dp)
 clear C5 fo
 go_wp2_with fail
 refine Calls.mono C6.o ?_
 rintro e w7 ⟨rfl,cc⟩
 have hp:Fr [] w0 w7:=ex.trans cc (fun b hb=>.inr (by have:=(Zq.o b (by simpa using hb)).1;omega))
 have fp:=cc.heap Zt (fun e=>by have:=(Zq.o _ (by simpa using e)).1;omega)
 have f2:ca w7 w.heap.size 2 (.slice sa sn sc):=aB fp
 have C7:=(show Hi _ from lA w2.heap.size l2 (.slice sa sn sc) af w0 w7 ag.o.2.1 hp (by omega) (aF (aF en.o bd (by simp)) cc (fun g hg e=>by
  have e1:=(Zq.o g (by simpa using e)).2
  have e2:=(bu.o.lt g hg).1
  omega)) dq)
 have gu:Hi (∀ g,af.ownBlock=some g->w2.heap.size<=g/\g < F.heap.size):=fun g hg=>bu.o.lt g hg
 clear C6 f1 Zt
 go_wp2_with fail
 refine Calls.mono C7.o ?_
 rintro e w8 ⟨rfl,hr⟩
 have Q:Fr (P.ownBlock.toList ++ af.ownBlock.toList) w5 w8:=((bd.of0).trans cc (fun b hb=>.inl (mem_append_left _ hb))).trans hr (fun b hb=>.inl (mem_append_right _ hb))
 obtain ⟨D,hD⟩:∃ D,D=P.ownBlock.toList ++ af.ownBlock.toList:=⟨_,rfl⟩
 rw [<- hD] at Q
 have ai:∀ b∈D,W1.heap.size<=b/\b < F.heap.size:=fun b hb=>by
  rw [hD] at hb
  have ja:=bc.size
  rcases mem_append.1 hb with q|q
  ·have:=Zq.o b (by simpa using q);omega
  have:=gu.o b (by simpa using q);omega
 obtain ⟨jv,z0,z1,gh,bf,fx,bg,bh,ak⟩:=(show RefsA w5 F.heap.size (.slice (so M) 2 2) ra rc from eq.o)
 cases gh
 have jd:=Q.size
 have fw:w8.heap[M]?=some (.cells [z0,z1].toArray 25):=Q.heap bf (fun e=>by have:=ai _ e;omega)
 have cz:=aF bg Q (fun b hb e=>by have:=ai b e;have:=cG bg hb;omega)
 have da:=aF bh Q (fun b hb e=>by have:=ai b e;have:=cG bh hb;omega)
 have fb:Bk w8 bb K N:=gv.o.fr Q (fun e=>by have:=ai _ e;omega) (fun b hb e=>by have:=ai _ e;have:=dg.o b hb;omega)
 have C8:=yD bb N M F.heap.size K [z0,z1] w8 fb hN (by simp) fw fx (by omega) (fun x hx=>by have:=dg.o x hx;omega) (fun j v hv=>?_) (fun i j v v' gg fq hv du hg=>?_)
 rotate_left
 ·have:j=0\/j=1:=by have:=(gs.1 hv).1;simp at this;omega
  rcases this with rfl|rfl
  ·cases hv;exact ⟨_,_,by omega,cz⟩
  cases hv;exact ⟨_,_,by omega,da⟩
 ·have hw:i=0\/i=1:=by have:=(gs.1 hv).1;simp at this;omega
  have hy:j=0\/j=1:=by have:=(gs.1 du).1;simp at this;omega
  rcases hw with rfl|rfl <;> rcases hy with rfl|rfl
  ·exact absurd rfl fq
  ·cases hv;cases du;exact ak gg hg
  ·cases hv;cases du;exact fun e=>ak gg e hg
  exact absurd rfl fq
 have hz:=aj.heap gz.o (fun e=>by simp only [mem_cons,not_mem_nil,or_false] at e;omega)
 rw [bf] at hz
 cases hz
 have fk:=hi.o.fr Q (fun x hx e=>by
  have q:=ai x e
  rcases (Zr.o x hx).1 with r|r
  ·have:=I x r;omega
  omega)
 have ge:∀ x∈aU c z L S' d f m tv J,x≠bb/\x∉K:=fun x hx=>by
  rcases (Zr.o x hx).1 with r|r
  ·exact ar.o x r
  exact ⟨by omega,fun e=>by have:=dg.o x e;omega⟩
 have es:=aA fk
 have dh:=aA ge
 have ec:=aA Q
 have gy:=aA ai
 clear C7 fk ge bf bg bh ak cz da fb fw Q f2 fp
 have C8:=aA C8
 go_wp2_with fail
 refine Calls.mono C8.o ?_
 rintro e w9 ⟨rfl,hown⟩
 obtain ⟨⟨K',fe,ff⟩,dn⟩:=hown
 have R:=es.o.fr dn (fun x hx e=>by
  rcases mem_cons.1 e with q|q
  ·exact (dh.o x hx).1 q
  rcases mem_append.1 q with q|q
  · exact (dh.o x hx).2 q
  exact (Zr.o x hx).2 q)
 have ee:=aA fe
 have ef:=aA ff
 have et:=aA R
 have g1:ca w9 c 1 (.pointer (so d)):=aB R.h
 have g2:ca w9 d 0 (.pointer (so f)):=aB R.y.h
 obtain ⟨TX,fi⟩:∃ x:ByteArray,x=⟨(bH (eD t (p,l2))).toArray⟩:=⟨_,rfl⟩
 have C9:Hi (Cs 57 #[.pointer (so f)] w9 fun e l=>e=.returned (.string TX)/\Fr [] w9 l):=by
  rw [fi]
  exact oY f m A _ w9 R.y.rg R.gg.ok R.gg.os ⟨R.gg.t0,R.tn⟩
 clear C8 fe ff R fi
 go_wp2_with fail
 refine Calls.mono C9.o ?_
 rintro e s ⟨rfl,an⟩
 obtain ⟨io,hs,ik,im,Zv⟩:=info_parts wK
 obtain ⟨ae,ad,X⟩:=fR et.o.tl
 have B:=et.o.fr0 an
 have au:=aA B
 have e4:s.cell? ⟨c,4,none⟩=some (.slice ae a.length ad):=by rw [<- X];exact aB B.h
 have H:Hi (Fr [] s (s.alloc (.cells #[.string TX] 9))):=(r0 _ _).alloc _
 have eo:Hi ((s.alloc (.cells #[.string TX] 9)).ownsRow 0 9 1 (.slice ae a.length ad) a.length a):=by
  show World.ownsRow _ _ _ _ _ _ _
  rw [<- X]
  exact aF B.tl H.o (by simp)
 have ej:Hi (∀ (j:Nat) (u:Value),[Value.string TX][j]?=some u->(s.alloc (.cells #[.string TX] 9)).cell? ((⟨s.heap.size,0,none⟩:Addr).add j)=some u):=cU s _ 9
 have dz:Hi (∀ w7,Fr (Value.ownBlock (.slice ae a.length ad)).toList (s.alloc (.cells #[.string TX] 9)) w7->∃ bl,w7.heap[c]?=some bl/\s.heap[c]?=some bl):=fun w7 hf=>⟨_,hf.heap (H.o.heap0 B.h) (fun e=>(B.nt c (by rw [X];simpa using e)).1 (by simp)),B.h⟩
 have jh:(s.alloc (.cells #[.string TX] 9)).cell? ⟨c,4,none⟩=some (.slice ae a.length ad):=by rw [<- X];exact aB (H.o.heap0 B.h)
 clear C9 B g1 g2
 go_wp2_with (first
  | (
    at_builtin
    refine dR rfl _ _ 38 rfl 0 9 io (.string ⟨#[]⟩) 1 16 Tryz.underlying38 hs ik im Zv rfl (.slice ae a.length ad) a.length a rfl eo.o ⟨s.heap.size,0,none⟩ 1 1 [.string TX] rfl rfl ej.o (by simp [Value.oneCell']) (by unfold maxLen;omega) (by omega) (by simp) (by omega) ?_
    intro jx bs bi fs ay
    obtain ⟨bw,bv,rfl⟩:=bK bi (by omega)
    have cn:=(show Hi (bs.ownsRow 0 9 1 (.slice (so bw) (a.length+1) bv) (a.length+1) (a ++ [.string TX])) from bi)
    have HA:=aA ay
    obtain ⟨e5,z5⟩:bs.cell? ⟨c,4,none⟩=some (.slice ae a.length ad)/\bs.frozen? ⟨c,4,none⟩=false:=by
      have hh:=(H.o.of0.trans (S:=(Value.ownBlock (.slice ae a.length ad)).toList) (bE ay) (fun b hb=>.inl hb)).heap au.o.h (fun e=>(au.o.nt c (by rw [X];simpa using e)).1 (by simp))
      rw [X] at hh
      exact ⟨aB hh,bI hh⟩
    clear bi fs ay))
 have co:Fr tv.ownBlock.toList s bs:=by
  rw [X]
  exact (H.o.of0 (S:=(Value.ownBlock (.slice ae a.length ad)).toList)).trans (bE HA.o) (fun b hb=>.inl hb)
 obtain ⟨ac,aw⟩:=au.o.putT (tv':=.slice (so bw) (a.length+1) bv) (told':=a ++ [.string TX]) co (by rw [length_append];exact cn.o) (by simp) (fun g hg=>by
  rcases fE HA.o g hg with q|q
  ·exact .inl (by rw [X];exact q)
  exact .inr (by have:=H.o.size;omega))
 obtain ⟨dw,bo⟩:∃ x,x=Value.slice (so bw) (a.length+1) bv:=⟨_,rfl⟩
 have he:Hi (∀ g,dw.ownBlock=some g->tv.ownBlock=some g\/s.heap.size<=g):=fun g hg=>by
  rw [bo] at hg
  rcases fE HA.o g hg with q|q
  ·exact .inl (by rw [X];exact q)
  exact .inr (by have:=H.o.size;omega)
 obtain ⟨iq,de⟩:∃ x,x=bs.setCell ⟨c,4,none⟩ (Value.slice (so bw) (a.length+1) bv):=⟨_,rfl⟩
 rw [<- de] at ac aw |-
 rw [<- bo] at ac
 have dx:=(show Hi _ from zV iq ac gd)
 have er:=aA ac
 have ah:=aA aw
 clear ac aw co HA cn eo ej dz de bo
 refine Calls.mono dx.o ?_
 rintro e ir ⟨ns,rfl,ao⟩
 have CA:=(show Hi _ from oG ir ns (er.o.fr0 ao) (by simp;omega) (by simp;omega) gd)
 clear dx
 go_wp2_with fail
 refine Calls.mono CA.o ?_
 rintro e Zw ⟨rfl,⟨⟨gp,marks',cq,iw,ft⟩,cr⟩⟩
 have ei:=aA cq
 clear CA cq
 go_wp2_with (go_at_call 52;refine (oJ _ _).mono ?_;rintro e jy ⟨rfl,rfl⟩)
 go_ret
 refine ⟨rfl,?_⟩
 have jp:=dn.size
 have ix:=an.size
 have ih:=ah.o.size
 have ij:=ao.size
 have je:w.heap.size<=w8.heap.size:=by omega
 have fz:=es.o.lt
 have cf:=dh.o
 have dl:∀ x∈aU c z L S' d f m tv J,x∉K':=fun x hx e=>by
  rcases ef.o x e with q|q|q
  ·exact (cf x hx).2 q
  ·exact (Zr.o x hx).2 q
  have:=fz x hx;omega
 have ju:c∈aU c z L S' d f m tv J:=by simp
 have ck:∀ b∈c :: tv.ownBlock.toList,b∈aU c z L S' d f m tv J/\b∈aU c z pb S d f E tv J:=fun b hb=>by
  rcases mem_cons.1 hb with q|q
  ·simp [q]
  have:tv.ownBlock=some b:=by simpa using q
  simp [this]
 have cj:∀ b∈c :: J.ownBlock.toList,b∈aU c z L S' d f m tv J/\b∈aU c z pb S d f E tv J:=fun b hb=>by
  rcases mem_cons.1 hb with q|q
  ·simp [q]
  have:J.ownBlock=some b:=by simpa using q
  simp [this]
 have ey:Bk Zw bb K' (N+1):=(((ee.o.fr0 an).fr ah.o (fun e=>(cf bb (ck bb e).1).1 rfl) (fun b hb e=>dl b (ck b e).1 hb)).fr0 ao).fr cr (fun e=>(cf bb (cj bb e).1).1 rfl) (fun b hb e=>dl b (cj b e).1 hb)
 have cw:∀ x∈aU c z L S' d f m dw gp,x∈aU c z L S' d f m tv J\/s.heap.size<=x:=fun x hx=>by
  rcases mem_append.1 hx with q|q
  ·exact .inl (mem_append_left _ q)
  rcases mem_append.1 q with q|q
  · exact .inl (mem_append_right _ (mem_append_left _ q))
  rcases mem_append.1 q with q|q
  · rcases he.o x (by simpa using q) with r|r
    ·exact .inl (ck x (by simp [r])).1
    exact .inr r
  rcases ft x (by simpa using q) with r|r
  ·exact .inl (cj x (by simp [r])).1
  exact .inr (by omega)
 refine ⟨⟨L,ev,S',ip,gt,v',m,A,dw,gp,a ++ [.string TX],marks',eD t (p,l2),Y ++ eW t (p,l2),O ++ [dA LOG (eW t (p,l2))],K',ei.o,by simp,by omega,by simp,?_,ey,fun x hx=>?_,fun x hx=>?_,fun x hx=>?_⟩,?_⟩
 ·rw [length_append]
  have hq:(eW t (p,l2)).length<=41000:=by have:=(mF 1 _ be).1;show (bU 1 (cV t.turn p l2)).length<=_;omega
  omega
 ·rcases cw x hx with q|q
  ·exact (Zr.o x q).1.imp_right (fun q=>by omega)
  exact .inr (by omega)
 ·rcases ef.o x hx with q|q|q
  ·exact .inl q
  ·exact .inr (by have:=(ea.o x q).1;omega)
  exact .inr (by omega)
 ·rcases cw x hx with q|q
  ·exact ⟨(cf x q).1,dl x q⟩
  exact ⟨by omega,fun e=>by have:=ee.o.kl x e;omega⟩
 refine ((((((eb.o.mono (S':=bb :: (aU c z pb S d f E tv J ++ K)) (fun b hb=>.inl ?_)).trans ec.o (fun b hb=>.inr (by have:=(gy.o b hb).1;omega))).trans dn (fun b hb=>?_)).then0 an).trans ah.o (fun b hb=>.inl ?_)).then0 ao).trans cr (fun b hb=>.inl ?_)
 ·refine mem_cons_of_mem _ (mem_append_left _ ?_)
  rcases mem_cons.1 hb with q|q
  · simp [q]
  rcases mem_append.1 q with q|q
  · simp [q]
  simp only [mem_cons,not_mem_nil,or_false] at q
  rcases q with e|e|e <;> simp [e]
 ·rcases mem_cons.1 hb with q|q
  · exact .inl (by simp [q])
  rcases mem_append.1 q with q|q
  · exact .inl (mem_cons_of_mem _ (mem_append_right _ q))
  exact .inr (by have:=(ea.o b q).1;omega)
 ·exact mem_cons_of_mem _ (mem_append_left _ (ck b hb).2)
 exact mem_cons_of_mem _ (mem_append_left _ (cj b hb).2)
theorem MC (n:Nat):1<=(bL n).length:=by
 unfold bL numF
 split <;> simp
theorem vC:∀ l:List Int,l.length<=(aP l).length
 | []=>Nat.le_refl _
 | n :: l=>by
  rw [jE,length_append,length_cons]
  have:=MC n.toNat
  have:=vC l
  omega
theorem rN:∀ l:List Cm,5*l.length<=(l.flatMap fun c=>(aE c).nums).length
 | []=>Nat.le_refl _
 | c :: l=>by
  rw [flatMap_cons,length_append,length_cons]
  have:(aE c).nums.length=5:=rfl
  have:=rN l
  omega
theorem UH (n:Int)(a b:List Cm)(h:8000 < a.length+b.length):40000 < (cV n a b).length:=by
 have h1:=vC (iY n a b)
 have d:=rN a
 have e:=rN b
 have f:(iY n a b).length=1+((1+(a.flatMap fun c=>(aE c).nums).length)+(1+(b.flatMap fun c=>(aE c).nums).length)):=by
  simp only [iY,cL,length_cons,length_append]
  omega
 have g:(cV n a b).length=(aP (iY n a b)).length:=rfl
 omega
theorem UK {I xb pb ac:Nat} {S:List Nat} {mv ah v:Value} {B z A d:Nat} {F:Int} {tv kv:Value} {j a:List Value} {t:T} {i:List UInt8} {b:List Stp} {Q N:Nat} {K:List Nat} (w0 w:World) (kd n:Int) (c l2:List Cm) (C L X R:Option Addr) (E D O M il Y gl V:Nat) (tx:ByteArray)
  (h:LX w I xb pb ac S mv ah v B z A d F tv kv j a t i b) (hB:Bk w Q K N) (hA:∀ x∈aU I xb pb S B z A tv kv,x≠Q/\x∉K) (hN:N<=2200000) (af:Sd w) (h1:CmdR w0 (.slice C E D) c) (W:CmdR w0 (.slice L O M) l2) (f:Fr [] w0 w) (ad:∀ x∈aU I xb pb S B z A tv kv,w0.heap.size<=x) (m:c.length<=2000000) (o:l2.length<=2000000)
  (u:b.length<=9999990) (ag:j.length<=999999999) (p:a.length<=1000000000) (ae:i.length<=900000000000) :
  Cs 62 #[.pointer (so I),.pointer (so Q),.agg #[ii kd,.slice C E D,.slice L O M,.string tx,.slice X il Y,ii n,.slice R gl V]] w fun e k=>e=.returned (.bool true)/\TuR w I xb pb S B z A F tv kv j a i b Q N K k:=by
 by_cases ht:t.turn < 1000000000
 ·by_cases g:(cV t.turn c l2).length<=40000
  ·have H:c.length+l2.length<=8000:=by
    rcases Nat.lt_or_ge 8000 (c.length+l2.length) with q|q
    ·have:=UH t.turn c l2 q
     omega
    exact q
   exact UL w0 w kd n c l2 C L X R E D O M il Y gl V tx h hB hA hN af h1 W f ad m o u ag p ae ht H g
  have nd:=h.nd
  simp only [cP,nodup_cons,mem_cons,not_mem_nil,or_false,not_or,nodup_nil,and_true,not_false_eq_true] at nd
  refine BJ w0 w 3 (by decide) kd n c l2 C L X R E D O M il Y gl V tx h hB hA hN h1 W f m o u (by omega) p (fun k J P l r s=>?_) (fun k l=>?_)
  ·obtain ⟨aa,c1,rfl⟩:=fF r
   obtain ⟨ab,c2,rfl⟩:=fF s
   refine PI k aa ab _ _ c1 c2 (h.fr0 l).rs ht ?_
   rcases Nat.lt_or_ge 8000 (c.length+l2.length) with q|q
   ·exact UF t.turn _ _ c l2 k (jY r) (jY s) (by omega) (by omega) q
   refine (BI t.turn _ _ c l2 k ⟨h.gg.t0,by omega⟩ (jY r) (jY s) q).mono ?_
   rintro e w2 ⟨⟨q1,_⟩|⟨_,q2⟩,q3⟩
   ·exact absurd q1 g
   exact ⟨q2,q3⟩
  refine (zM B z A d t i c l2 _ _ k (h.fr0 l).y ⟨nd.2.2.2.1.1,nd.2.2.2.1.2⟩ h.gg ht (h1.fr0 (f.then0 l)) (W.fr0 (f.then0 l)) m o (by omega)).mono ?_
  rintro e w2 (⟨_,q2,q3⟩|⟨q1,_⟩)
  ·exact ⟨q2,q3⟩
  exact absurd q1 g
 exact BJ w0 w 4 (by decide) kd n c l2 C L X R E D O M il Y gl V tx h hB hA hN h1 W f m o u (by omega) p (fun k J P l _ _=>PJ k J P (h.fr0 l).rs (by omega)) (fun k l=>QN B z A d t i _ _ k (h.fr0 l).y (by omega))
theorem RR.same {w b:World}{r:Value}{L K:List Nat}{bb N:Nat}(h:LR w r L N)(hb:Bk w bb K (2*N))(c:∀ x∈L,x≠bb/\x∉K)(a:Fr [] w b):RR w bb L K N r b :=
  ⟨⟨L,K,(h.fr0 a).more (by omega),(hb.fr0 a).more (by omega),fun x hx=>.inl hx,fun x hx=>.inl hx,c⟩,a.of0⟩
theorem RR.new {w b:World}{r:Value}{L a K:List Nat}{bb N:Nat}(hb:Bk w bb K (2*N))(h:LR b r a 0)(hn:∀ x∈a,w.heap.size<=x)(c:Fr [] w b):RR w bb L K N r b :=
  ⟨⟨a,K,h.more (by omega),(hb.fr0 c).more (by omega),fun x hx=>.inr (hn x hx),fun x hx=>.inl hx,fun x hx=>⟨by have:=hn x hx;have:=hb.lt;omega,fun e=>by have:=hn x hx;have:=hb.kl x e;omega⟩⟩,c.of0⟩
theorem RR.before {w c d:World}{r:Value}{L K:List Nat}{bb N:Nat}(a:Fr [] w c)(h:RR c bb L K N r d):RR w bb L K N r d:=by
 obtain ⟨⟨e,K',g,i,j,k,l⟩,f⟩:=h
 have hs:=a.size
 exact ⟨⟨e,K',g,i,fun x hx=>(j x hx).imp_right (fun q=>by omega),fun x hx=>(k x hx).imp_right (fun q=>by omega),l⟩,a.of0.trans f (fun b hb=>.inl hb)⟩
theorem RR.then0 {w b c:World}{r:Value}{L K:List Nat}{bb N:Nat}(h:RR w bb L K N r b)(a:Fr [] b c):RR w bb L K N r c:=by
 obtain ⟨⟨d,K',f,g,i,j,k⟩,e⟩:=h
 exact ⟨⟨d,K',f.fr0 a,g.fr0 a,i,j,k⟩,e.then0 a⟩
theorem RR.booked {w c:World}{r:Value}{L K K':List Nat}{bb N:Nat}(h:LR w r L N)(a:∀ x∈L,x≠bb/\x∉K)(hb:Bk c bb K' (2*(N+1)))(f:∀ x∈K',x∈K\/w.heap.size<=x)(d:Fr (bb :: K) w c):RR w bb L K N r c:=by
 have hl:=h.lt
 refine ⟨⟨L,K',(h.fr d (fun b hb e=>?_)).more (by omega),hb,fun x hx=>.inl hx,f,fun x hx=>⟨(a x hx).1,fun e=>?_⟩⟩,d.mono (fun b hb=>.inl ?_)⟩
 ·rcases mem_cons.1 e with q|q
  ·exact (a b hb).1 q
  exact (a b hb).2 q
 ·rcases f x e with q|q
  ·exact (a x hx).2 q
  have:=hl x hx;omega
 rcases mem_cons.1 hb with q|q
 ·simp [q]
 simp [q]
section
variable {lb xb pb cap:Nat} {S:List Nat} {mv stv v:Value} {yb gb qb cap2:Nat} {fst:Int} {tv kv:Value} {told marks:List Value} {t:T} {log:List UInt8} {steps:List Stp} {w:World} {bb N:Nat} {K:List Nat}
theorem TuR.rr {k:World}(h:TuR w lb xb pb S yb gb qb fst tv kv told marks log steps bb (2*N) K k)(h1:told.length<=N+1)(x:marks.length<=3*N+3)(y:steps.length<=3*N+3)(z:log.length<=41000*(N+1)):RR w bb (aU lb xb pb S yb gb qb tv kv) K N (.pointer (so lb)) k:=by
 obtain ⟨⟨i,c,S',g,e,p,j,b,tv',f,told',marks',o,d,a,K',hx,q,r,s,u,hb,b1,l,m⟩,n⟩:=h
 exact ⟨⟨_,K',⟨⟨lb,xb,i,c,S',g,e,p,yb,gb,j,b,fst,tv',f,told',marks',o,d,a,rfl,hx,rfl,by omega,by omega,by omega,by omega⟩⟩,hb.more (by omega),b1,l,m⟩,n⟩
theorem RR.marked {Z i:List Nat} {h d p:Value} {c:List UInt8} {a:List Stp} {s m:World} (k:Bk w bb K (2*N)) (j:∀ x∈aU lb xb pb S yb gb qb tv kv,x≠bb/\x∉K)
  (u:∀ b∈i,b∈S\/w.heap.size<=b) (o:Fr Z w s) (y:∀ b∈Z,b∈aU lb xb pb S yb gb qb tv kv) (A:MkP3 s lb xb pb cap i h d p yb gb qb cap2 fst tv kv told marks t c a m)
  (h1:told.length<=N+1) (B:marks.length<=3*N+3) (C:a.length<=3*N+6) (D:c.length<=41000*(N+2)):RR w bb (aU lb xb pb S yb gb qb tv kv) K N (.pointer (so lb)) m:=by
 obtain ⟨⟨g,marks',hx,hm,z⟩,l⟩:=A
 have hs:=o.size
 have n:Fr (aU lb xb pb S yb gb qb tv kv) w m:=(o.mono (fun b hb=>.inl (y b hb))).trans l (fun b hb=>.inl (by
  rcases mem_cons.1 hb with q|q
  ·simp [q]
  exact mem_append_right _ (mem_append_right _ (mem_append_right _ q))))
 have f:∀ x∈aU lb xb pb i yb gb qb tv g,x∈aU lb xb pb S yb gb qb tv kv\/w.heap.size<=x:=fun x hx=>by
  rcases mem_append.1 hx with q|q
  ·exact .inl (mem_append_left _ q)
  rcases mem_append.1 q with q|q
  ·rcases u x q with r|r
   ·exact .inl (mem_append_right _ (mem_append_left _ r))
   exact .inr r
  rcases mem_append.1 q with q|q
  ·exact .inl (mem_append_right _ (mem_append_right _ (mem_append_left _ q)))
  rcases z x (by simpa using q) with r|r
  ·exact .inl (mem_append_right _ (mem_append_right _ (mem_append_right _ (by simp [r]))))
  exact .inr (by omega)
 refine ⟨⟨_,K,⟨⟨lb,xb,pb,cap,i,h,d,p,yb,gb,qb,cap2,fst,tv,g,told,marks',t,c,a,rfl,hx,rfl,by omega,by omega,by omega,by omega⟩⟩,(k.fr n (fun e=>(j bb e).1 rfl) (fun b hb e=>(j b e).2 hb)).more (by omega),f,fun x hx=>.inl hx,fun x hx=>?_⟩,n.mono (fun b hb=>.inl (by simp only [mem_cons,mem_append] at hb |-;exact .inr (.inl hb)))⟩
 rcases f x hx with q|q
 ·exact j x q
 exact ⟨by have:=k.lt;omega,fun e=>by have:=k.kl x e;omega⟩
end
structure StepR (w:World) (bb:Nat) (L K:List Nat) (N:Nat) (e:Ending) (w':World):Prop where
  ex:∃ lb',e=.returned (.tuple #[.pointer (so lb'),.bool true])/\RR w bb L K N (.pointer (so lb')) w'
theorem uG (x:Int):∃ c:UInt8,(c.toNat:Int)=x % 256:=⟨UInt8.ofNat (x % 256).toNat,by
 have h:(UInt8.ofNat (x % 256).toNat).toNat=(x % 256).toNat % 256:=by simp
 omega⟩
theorem wY (n:Int)(hn:-100000000<=n/\n<=0)(w:World):Cs 108 #[.int .i64 n] w fun e g=>∃ m,e=.returned (.string m)/\Fr [] w g:=by
 obtain ⟨b,d⟩:=uG (-n)
 obtain ⟨c,h1⟩:=uG (wrap64 (-n.tdiv 256))
 have f:=BK b c w
 rw [d,h1] at f
 obtain ⟨M,a⟩:∃ M:ByteArray,M=⟨[b,c].toArray⟩:=⟨_,rfl⟩
 have hs:1+M.size<=9223372036854775807:=by rw [a];show 1+2<=_;omega
 rw [<- a] at f
 clear d h1 a
 go_enter Tryz.func108,Tryz.ntmps108
 go_wp2_with fail
 go_ret
 exact ⟨_,rfl,(r0 _ _).alloc _⟩
