import Derived.Test.YtapabahhfanmmaaGreatDoorCCmd
namespace Go.Proofs.YtapabahhfanmmaaGreatDoor
open Go.RowKit List
set_option maxRecDepth 100000
set_option maxHeartbeats 2000000
set_option maxRecDepth 100000
theorem FH (c b a hb f:Nat)(t:T)(p:Int)(g:Option Addr)(j:Nat)(w:World)(h:TS w c b a hb f t) :
  Cs 118 #[.pointer (so c),.int .i64 p,.slice g 0 j] w fun e d =>
   ∃ v,e=.returned v/\Fr [b] w d/\TS d c b a hb f (aW p 0 [] t).2/\d.ownsRow w.heap.size 3 1 v (aW p 0 [] t).1.length (ints (aW p 0 [] t).1):=by
 go_enter Tryz.func118,Tryz.ntmps118
 go_wp2_with fail
 go_loopw [7,12] (fun v i wr=>v=.slice none 0 0/\i=.int .i64 0/\w=wr) (fun _ _ _=>0)
 case atStart=>exact ⟨rfl,rfl,rfl⟩
 obtain ⟨rfl,rfl,rfl⟩:=hrel
 go_wp2_with fail
 go_ret
 exact ⟨_,rfl,r0 _ _,h,⟨rfl,.inl ⟨rfl,rfl⟩⟩⟩
structure PlI (w:World) (k:Nat) (v:Value) (wr:World):Prop where
 own:wr.ownsRow w.heap.size 3 1 v k (ints (range k))
 fr:Fr [] w wr
theorem yL (C:Option Addr)(n H:Nat)(w:World)(y:n<=2000000) :
  Cs 115 #[.slice C n H] w fun e A =>
   ∃ v,e=.returned v/\Fr [] w A/\A.ownsRow w.heap.size 3 1 v n (ints (range n)):=by
 obtain ⟨x,m,r,s,t⟩:=info_parts oD
 go_enter Tryz.func115,Tryz.ntmps115
 go_wp2_with fail
 go_loopw [3,7] (fun v i wr=>∃ k:Nat,k<=n/\i=.int .i64 k/\PlI w k v wr) (fun _ i _=>n - (intOf i).toNat)
 case atStart=>exact ⟨0,Nat.zero_le _,rfl,⟨rfl,.inl ⟨rfl,rfl⟩⟩,r0 _ _⟩
 obtain ⟨k,J,rfl,hown,a⟩:=hrel
 by_cases p:k < n
 ·have B:Hi (∀ (W:World) (j:Nat) (u:Value),[ii (k:Int)][j]?=some u->(W.alloc (.cells #[.int .i64 k] 3)).cell? ((⟨W.heap.size,0,none⟩:Addr).add j)=some u):=by
   intro W j u z
   have E:j=0:=by
    have:=(gs.1 z).1
    simp at this
    exact this
   subst E
   rw [Addr.add_lit,aB (aC W _)]
   simpa using z
  have f:Hi (∀ b,u3.ownBlock=some b->w.heap.size<=b):=fun b hb=>cG hown hb
  have h:Hi ((wr.alloc (.cells #[.int .i64 k] 3)).ownsRow w.heap.size 3 1 u3 k (ints (range k))):=aF hown ((r0 [] wr).alloc _) (by simp)
  have F:=a.size
  clear hown
  go_wp2_with (at_builtin;refine wpList_append_own _ rfl _ _ 25 rfl w.heap.size 3 x (ii 0) 1 8 Tryz.underlying25 m r s t rfl (by decide) u3 k (ints (range k)) rfl h.o ⟨wr.heap.size,0,none⟩ 1 1 [ii (k:Int)] rfl rfl (B.o wr) (by simp [Value.oneCell']) (by unfold maxLen;omega) (by omega) (by simp;omega) ?_;intro K I d c q)
  have l:Fr [] w I:=(a.alloc _).grow c (fun g D=>.inr (f.o g D))
  go_roundw
  case rel =>
   refine ⟨k+1,p,by go_num,?_,l⟩
   have:ints (range (k+1))=ints (range k) ++ [ii (k:Int)]:=by unfold ints;rw [range_succ,map_append];rfl
   rw [this]
   exact d
  case measure=>simp [intOf];omega
 have:k=n:=by omega
 subst this
 go_wp2_with fail
 go_ret
 exact ⟨u3,rfl,a,hown⟩
theorem EU (E A:Nat)(us:List U)(w:World)(s:PRow w E A us)(ab:us.length<=1000) :
  Cs 149 #[.slice (so E) us.length A] w fun e b=>∃ hb,e=.returned (.map (some hb))/\w.heap.size<=hb/\MapF b hb (bG (fP us))/\Fr [] w b:=by
 have Q:=@run_makeMap Tryz.prog
 have ag:=s.lt
 go_enter Tryz.func149,Tryz.ntmps149
 go_wp2_with fail
 obtain ⟨hb,h⟩:∃ hb,hb=w.heap.size:=⟨_,rfl⟩
 rw [<- h]
 obtain ⟨t,f⟩:∃ W,W=w.alloc (.map #[] 0):=⟨_,rfl⟩
 rw [<- f]
 have C:Fr [] w t:=by rw [f];exact (r0 _ _).alloc _
 have P:MapF t hb (bG (fP (us.take 0))):=by
  have:MapF t hb (fun _=>none):=MapF.made (clock:=0) (by rw [f,h];exact aC _ _)
  exact this
 have V:Ppl t E us:=(s.fr C (by simp)).ppl
 have af:E≠hb:=by omega
 have ac:t.heap.size=hb+1:=by rw [f,h];simp
 have z:=aA h
 clear f Q h
 go_loopw [9] (fun i wr=>∃ k:Nat,k<=us.length/\i=.int .i64 k/\MapF wr hb (bG (fP (us.take k)))/\Fr [hb] t wr) (fun i _=>us.length - (intOf i).toNat)
 case atStart=>exact ⟨0,Nat.zero_le _,rfl,P,r0 _ _⟩
 obtain ⟨k,hk,rfl,l,p⟩:=hrel
 by_cases q:k < us.length
 ·obtain ⟨v,D⟩:∃ u,us[k]?=some u:=⟨us[k],getElem?_eq_getElem q⟩
  obtain ⟨c0,c1,c2,c3,c4,c5,c6,c7,c8,c9,J⟩:=(V.fr p (by simp;omega)).at D
  have j:fP (us.take (k+1))=fun c=>if c=(v.x,v.y) then some v.id else fP (us.take k) c:=by
   unfold fP
   rw [take_succ_eq_append_getElem q,foldl_append]
   rw [getElem?_eq_getElem q] at D
   rw [Option.some.inj D]
   rfl
  have F:=aA j
  have H:=aA l
  have ad:=p.size
  have aa:=l.lt
  clear D j l
  go_wp2_with fail
  obtain ⟨m,n⟩:∃ W,W=wr.alloc (.cells v.arr 85):=⟨_,rfl⟩
  rw [<- n]
  have B:Fr [] wr m:=by rw [n];exact (r0 _ _).alloc _
  have a:m.heap[wr.heap.size]?=some (.cells v.arr 85):=by rw [n];exact aC _ _
  have X:MapF m hb (bG (fP (us.take k))):=MapF.fr H.o B (by simp)
  clear n c0 c1 c2 c3 c4 c5 c6 c7 c8 c9 J
  have I:∀ b,Fr [hb] m b->(fun b:World=>cl b wr.heap.size 0 v.id/\cl b wr.heap.size 1 v.owner/\cl b wr.heap.size 2 v.kind/\cl b wr.heap.size 3 v.x/\cl b wr.heap.size 4 v.y/\cl b wr.heap.size 5 v.life/\cl b wr.heap.size 6 v.load/\cl b wr.heap.size 7 v.what/\cl b wr.heap.size 8 v.tox/\cl b wr.heap.size 9 v.toy/\cl b wr.heap.size 10 v.target/\Fr [hb] m b) b:=fun b d=>⟨aB (d.heap a (by simp;omega)),aB (d.heap a (by simp;omega)),aB (d.heap a (by simp;omega)),aB (d.heap a (by simp;omega)),aB (d.heap a (by simp;omega)),aB (d.heap a (by simp;omega)),aB (d.heap a (by simp;omega)),aB (d.heap a (by simp;omega)),aB (d.heap a (by simp;omega)),aB (d.heap a (by simp;omega)),aB (d.heap a (by simp;omega)),d⟩
  have Y:Fr [] m m.drew:=(r0 _ _).drew
  have K0:=I _ Y.of0
  go_region_held (fun b:World=>dC wr.heap.size v b (Fr [hb] m b))
   (first|with_reducible exact K0|with_reducible exact K|with_reducible exact L)
   (first|(go_at_call 192;refine (gU v _).mono ?_;rintro e w3 ⟨rfl,M⟩;have g:Fr [] m w3:=Y.then0 M;have K:=I w3 g.of0;obtain ⟨wu,ah,R,N,ae⟩:=kB (MapF.fr X g (by simp)) 205 3 Tryz.underlying205 v.x v.y (ii v.id);have r:Fr [hb] m wu:=g.of0.trans N (by simp);have L:=I wu r))
  all_goals
   go_wp2_with fail
   go_roundw
   case rel =>
    refine ⟨k+1,q,by go_num,?_,(p.then0 B).trans r (by simp)⟩
    rw [F.o]
    refine R.of_eq (fun c=>?_)
    by_cases e:c=(v.x,v.y) <;> simp [bG,e]
   case measure=>simp [intOf];omega
 have O:k=us.length:=by omega
 subst O
 rw [take_length] at l
 go_wp2_with fail
 go_ret
 exact ⟨hb,rfl,by have:=z.o;omega,l,(C.of0 (S:=[])).trans p (by simp;have:=z.o;omega)⟩
def aQ (t:T)(pv:Value):List Value:=(range 149).map (aN t pv 0 0)
theorem fC (t:T)(pv:Value):(aQ t pv).length=149:=by simp [aQ]
theorem vL (a:Nat):∀ (b:List Value) (k:Nat) (cs:Array Value),a+k+b.length<=cs.size->((b.zipIdx k).foldl (fun (cs:Array Value) p=>cs.setIfInBounds (a+p.2) p.1) cs).toList=cs.toList.take (a+k) ++ b ++ cs.toList.drop (a+k+b.length)
 | [],k,cs,_=>by simp
 | v :: b,k,cs,h=>by
  rw [zipIdx_cons,foldl_cons,vL a b (k+1) _ (by simp at h |-;omega)]
  have hl:a+k < cs.toList.length:=by simp at h |-;omega
  simp only [Array.toList_setIfInBounds,length_cons]
  rw [show a+(k+1)=a+k+1 by omega,sL _ _ _ hl,nS _ _ _ _ (by omega),show a+k+1+b.length=a+k+(b.length+1) by omega]
  simp
theorem GO (a:Nat)(v:Array Value)(cs:Array Value)(h:a+v.size<=cs.size):v.zipIdx.foldl (fun (cs:Array Value) (c,j)=>cs.setIfInBounds (a+j) c) cs=(cs.toList.take a ++ v.toList ++ cs.toList.drop (a+v.size)).toArray:=by
 have:=vL a v.toList 0 cs (by simpa using h)
 rw [<- Array.foldl_toList,Array.toList_zipIdx]
 apply Array.toList_inj.1
 simpa using this
theorem jB (a:Nat->Option (Nat×Nat))(cs:Array Value)(i:Nat)(v:Value)(rest:List (Nat×Value))(b size:Nat)(d:a i=some (b,size))(c:v.cells.size=size)(hs:b+size<=cs.size) :
  Instr.fill a cs ((i,v) :: rest)=Instr.fill a (cs.toList.take b ++ v.cells.toList ++ cs.toList.drop (b+size)).toArray rest:=by
 rw [Instr.fill,d]
 dsimp only
 rw [if_neg (by simp [c];omega),GO b v.cells cs (by omega),c]
def iH (P:Program)(t:TypeId):Option (List (Nat×Nat)):=match P.underlying t with|some (.struct fs)=>fs.toList.mapM (fun f=>(P.info? f.type).map fun i=>(f.offset,i.size))|_=>none
def pM (P:Program)(t:TypeId):Option (Option Nat):=(P.info? t).map (fun i=>i.zero.map (·.cells.size))
theorem uB (t:TypeId)(a:List (Nat×Nat))(n:Nat)(e:iH Tryz.prog t=some a)(hz:pM Tryz.prog t=some (some n))(c:List (Nat×Value))(b:Array Value)(h:∀ z:Array Value,z.size=n->Instr.fill (a.toArray[·]?) z c=some b):Tryz.prog.built t c=some b:=by
 unfold Program.built
 unfold iH at e
 unfold pM at hz
 cases hi:Tryz.prog.info? t with
 | none=>rw [hi] at hz;simp at hz
 | some it =>
  rw [hi] at hz
  cases f:it.zero with
  | none=>simp [f] at hz
  | some z =>
   simp [f] at hz
   cases g:Tryz.prog.underlying t with
   | none=>rw [g] at e;simp at e
   | some d =>
    rw [g] at e
    cases d <;> try (simp at e;done)
    dsimp only at e |-
    rw [f,e]
    exact h z.cells hz
theorem UI:iH Tryz.prog 210=some [(0,149),(149,1),(150,1)]:=by kernel_rfl
theorem UJ:pM Tryz.prog 210=some (some 151):=by kernel_rfl
theorem UM {l:List Value}(h:l.length=2):∃ x y,l=[x,y]:=by
 match l,h with
 | [x,y],_=>exact ⟨x,y,rfl⟩
theorem uD (gs:Array Value)(e:gs.size=149)(a b:Option Nat):Tryz.prog.built 210 [(0,.agg gs),(1,.map a),(2,.agg #[.map b])]=some (gs.toList ++ [Value.map a,Value.map b]).toArray:=by
 refine uB _ _ _ UI UJ _ _ (fun z hz=>?_)
 have n:z.toList.length=151:=by simpa using hz
 obtain ⟨x,y,d⟩:=UM (l:=z.toList.drop 149) (by rw [length_drop];omega)
 have c:gs.toList.length=149:=by simpa using e
 have h:(Value.agg gs).cells=gs:=rfl
 have i:(Value.map a).cells.toList=[Value.map a]:=rfl
 have j:(Value.agg #[.map b]).cells.toList=[Value.map b]:=rfl
 have f:(gs.toList ++ [x,y]).take 149=gs.toList:=by rw [take_append_of_le_length (by omega),take_of_length_le (by omega)]
 have g:(gs.toList ++ [x,y]).drop 150=[y]:=by rw [drop_append,drop_of_length_le (by omega),c];rfl
 have k:(gs.toList ++ [Value.map a,y]).take 150=gs.toList ++ [Value.map a]:=by rw [take_append,take_of_length_le (by omega),c];rfl
 have m:(gs.toList ++ [Value.map a,y]).drop 151=[]:=drop_of_length_le (by simp;omega)
 rw [jB _ _ _ _ _ 0 149 rfl (by exact e) (by omega),h]
 simp only [take_zero,nil_append,Nat.zero_add,d]
 rw [jB _ _ _ _ _ 149 1 rfl rfl (by simp;omega),i]
 simp only [Nat.reduceAdd]
 rw [f,g]
 simp only [append_assoc,cons_append,nil_append]
 rw [jB _ _ _ _ _ 150 1 rfl rfl (by simp;omega),j]
 simp only [Nat.reduceAdd]
 rw [k,m]
 simp [Instr.fill]
theorem VD {d:Array Oper} {S:World->Prop} {e:Oper} {a:Act} (hw:Region.wanted e (yielded d a.tmps)=true) (t:TypeId) (c:Array (Nat×Operand)) (ho:e.op=.build t c) (b:Array Value)
  (f:Tryz.prog.built t (c.map fun (i,x)=>(i,a.eval x)).toList=some b):YieldsIf Tryz.prog d S e (.agg b) a :=
 .inl ⟨hw,fun w _=>by
  unfold execOp
  simp only [ho,Sem.run_bind,run_build w t _ b f,Result.andThen_ok]
  rfl⟩
theorem jF (W:World)(o:Obj)(k:Nat)(h:W.heap.size=k):(W.alloc o).heap[k]?=some o:=by subst h;exact aC _ _
theorem dE:(Tryz.prog.info? 90).map (·.size)=some 149:=by kernel_rfl
theorem DP (y c:Nat)(t:T)(w:World)(u:PRow w y c t.us)(aq:0 < t.us.length)(s:t.us.length<=1000) :
  Cs 117 #[.agg (aQ t (.slice (so y) t.us.length c)).toArray] w fun e m =>
   ∃ d p f hb q,e=.returned (.pointer (so d))/\Fr [] w m/\TS m d p f hb q (cO t)/\w.heap.size<=d/\w.heap.size<=p/\w.heap.size<=hb/\w.heap.size<=q:=by
 obtain ⟨gs,E⟩:∃ gs,gs=(aQ t (.slice (so y) t.us.length c)).toArray:=⟨_,rfl⟩
 have hg:gs.size=149:=by rw [E];simp [aQ]
 have L:=aA E
 rw [<- E]
 clear E
 obtain ⟨A,B⟩:∃ W,W=w.alloc (.cells gs 90):=⟨_,rfl⟩
 have X:Fr [] w A:=by rw [B];exact (r0 _ _).alloc _
 have hG:A.heap[w.heap.size]?=some (.cells gs 90):=by rw [B];exact aC _ _
 have HR:∀ m,Fr [] A m->m.rangeAt w.heap.size 0 gs.toList:=fun m hf j v hv=>by
  rw [Nat.zero_add,aB (hf.heap0 hG)]
  simpa using hv
 have r:(Tryz.prog.info? 90).map (·.size)=some gs.toList.length:=by rw [dE];simp [hg]
 have C:∀ (a b:Option Nat) (m:World),(Instr.build 210 #[(0,.agg gs),(1,.map a),(2,.agg #[.map b])]).run Tryz.prog m=.ok (.agg (gs.toList ++ [Value.map a,Value.map b]).toArray) m:=fun a b m=>run_build m _ _ _ (uD gs hg a b)
 have ap:=@run_makeMap Tryz.prog
 have R:Fr [] A (w.alloc (.cells gs 90)).drew:=by rw [B];exact (r0 _ _).drew
 clear B
 go_enter Tryz.func117,Tryz.ntmps117
 go_wp2_with fail
 have ag:∀ m,Fr [] A m->m.cell? ⟨w.heap.size,148,none⟩=some (.slice (so y) t.us.length c):=fun m hf=>by
  rw [aB (hf.heap0 hG),L.o]
  simp [aQ,aN]
 go_cut [3] (fun s3 wx=>∃ d hb q:Nat,s3=.pointer (so d)/\wx.heap[d]?=some (.cells (gs.toList ++ [Value.map (some hb),Value.map (some q)]).toArray 210)/\MapF wx hb (bG (fP t.us))/\wx.heap[q]?=some (.map #[] 0)/\w.heap.size < d/\w.heap.size < hb/\w.heap.size < q/\hb≠q/\Fr [] A wx)
 case first =>
  refine wp_region_held (S:=fun m=>Fr [] A m) (by kernel_rfl) ?_
  refine wpAnyH_take (i:=0) (oi:=_) (v:=.agg gs.toList.toArray) rfl (by kernel_rfl) (by kernel_rfl) (by kernel_rfl) (fun _ _ _ h=>h) (yieldsIf_load_mid (by kernel_rfl) 90 (.tmp 1) rfl w.heap.size 0 rfl gs.toList _ HR Tryz.underlying90 rfl r) R ?_
  simp only [Act.put,Array.toArray_toList]
  refine ty 1 (.pointer (some ⟨w.heap.size,148,none⟩)) rfl (fun w0 _=>by go_simp) R ?_
  simp only [Act.put]
  refine ty 2 (.slice (so y) t.us.length c) rfl (fun w0 hS=>by have ba:=ag w0 hS;go_simp) R ?_
  simp only [Act.put]
  refine wpAnyH_ready (rs:=[3]) (by kernel_rfl) (by simp) ?_
  refine AllReadyH.cons rfl (fun K hK=>?_) AllReadyH.nil
  rw [if_pos (by rfl)]
  go_wp2_with (go_at_call 149;refine Calls.mono (EU y c t.us _ (u.fr (X.then0 R) (by simp)) s) ?_;rintro e J ⟨hb,rfl,ao,I,ab⟩)
  have H:Fr [] A J:=R.then0 ab
  refine hK.out _ _ H (fun _=>?_)
  clear hK
  refine wpAnyH_ready (rs:=[4]) (by kernel_rfl) (by simp) ?_
  refine AllReadyH.cons rfl (fun K hK=>?_) AllReadyH.nil
  rw [if_pos (by rfl)]
  go_wp2_with (go_at_call 150;refine (LU _).mono ?_;rintro e z ⟨rfl,Q⟩)
  have g:Fr [] J z:=by rw [<- Q];exact ((r0 _ _).alloc _).alloc _
  have l:Fr [] A z:=H.then0 g
  refine hK.out _ _ l (fun _=>?_)
  clear hK
  refine wpAnyH_take (i:=5) (oi:=_) (v:=.agg (gs.toList ++ [Value.map (some hb),Value.map (some (J.heap.size+1))]).toArray) rfl (by kernel_rfl) (by kernel_rfl) (by kernel_rfl) (fun _ _ _ h=>h) (VD (by kernel_rfl) 210 #[(0,.tmp 4),(1,.tmp 7),(2,.tmp 8)] rfl _ (by simpa [Act.eval] using uD gs hg (some hb) (some (J.heap.size+1)))) l ?_
  simp only [Act.put]
  refine wpAnyH_ready (rs:=[6]) (by kernel_rfl) (by simp) ?_
  refine AllReadyH.cons rfl (fun K hK=>?_) AllReadyH.nil
  rw [if_pos (by rfl)]
  go_wp2_with fail
  refine hK.out _ _ (Fr.alloc l _) (fun _=>?_)
  clear hK
  refine wpAnyH_take (i:=7) (oi:=_) (v:=.pointer (so z.heap.size)) rfl (by kernel_rfl) (by kernel_rfl) (by kernel_rfl) (fun _ _ _ h=>h) (.inl ⟨by kernel_rfl,fun w0 _=>by go_simp⟩) (Fr.alloc l _) ?_
  refine wpAnyH_done (by kernel_rfl) ?_ _
  go_wp2_with fail
  go_meet
  have bi:z.heap.size=J.heap.size+1+1:=by rw [<- Q];simp
  have ar:=ab.size
  have bc:=MapF.lt I
  have bd:w.heap.size+1<=hb:=by simpa using ao
  have bh:w.heap.size+1<=J.heap.size:=by simpa using ar
  have aj:z.heap[J.heap.size+1]?=some (.map #[] 0):=by rw [<- Q];exact jF _ _ _ (by simp)
  exact ⟨z.heap.size,hb,J.heap.size+1,rfl,aC _ _,MapF.fr (MapF.fr I g (by simp)) ((r0 [] z).alloc _) (by simp),((r0 [] z).alloc _).heap0 aj,by omega,by omega,by omega,by omega,l.alloc _⟩
 case rest =>
  obtain ⟨d,hb,q,rfl,hT,hH,hB,l1,l2,l3,n6,ac⟩:=hcut
  have N:=ac.heap0 hG
  have af:=X.then0 ac
  have P:gs[148]?=some (.slice (so y) t.us.length c):=by
   rw [L.o]
   simp [aQ,aN]
  have ak:wc.cell? ⟨w.heap.size,148,none⟩=some (.slice (so y) t.us.length c):=by rw [aB N];exact P
  have bg:=u.lt
  have ad:=u.fr af (by simp)
  have V:=aA hT
  have HX:=aA N
  clear R HR r C ap hG N hT
  have aa:wc.cell? ⟨d,148,none⟩=some (.slice (so y) t.us.length c):=by
   rw [aB V.o]
   simp only [getElem?_toArray]
   rw [getElem?_append_left (by simp [hg])]
   simpa using P
  have al:wc.frozen? ⟨d,148,none⟩=false:=bI V.o
  clear P
  have Zq:=aH V.o
  have bj:=aH HX.o
  have be:¬ w.heap.size=d:=by omega
  have bf:¬ d=w.heap.size:=by omega
  go_wp2_with (go_at_call 75;refine (qC y c t.us _ ad s aq).mono ?_;rintro e z ⟨p,f,rfl,aw,x,g⟩;obtain ⟨Y,au⟩:=g.cells0)
  obtain ⟨W5,n⟩:∃ W,W=z.setCell ⟨d,148,none⟩ (.slice (so p) t.us.length f):=⟨_,rfl⟩
  rw [<- n]
  have D:Fr [d] z W5:=by rw [n];exact (r0 _ _).setCell _ _ (by simp)
  have M:=g.heap0 V.o
  have az:=hH.lt
  have ai:∃ es clock,wc.heap[hb]?=some (.map es clock):=by obtain ⟨_,es,clock,h,_⟩:=hH;exact ⟨es,clock,h⟩
  obtain ⟨es,clock,ah⟩:=ai
  have ay:=aH hB
  have F:d≠hb/\d≠q:=by
   have h1:=V.o
   refine ⟨fun e=>?_,fun e=>?_⟩
   ·rw [e,ah] at h1;cases h1
   rw [e,hB] at h1;cases h1
  have Zr:TS W5 d p f hb q { t with held:=fP t.us }:=by
   refine ⟨fun k hk=>?_,fun k=>?_,x.fr D (by simp;omega),s,?_,?_,by omega,F.1,F.2,by omega,by omega,n6,by omega⟩
   ·by_cases O:k=148
    ·subst O
     rw [n,dO _ _ _ _ _ ((Y d 148 Zq).trans aa)]
     simp [aN]
    rw [n,cA _ _ _ _ _ _ (.inr (fun e=>O e.symm)),aB M]
    simp only [getElem?_toArray]
    have am:gs.toList.length=149:=by simpa using hg
    by_cases an:k < 149
    ·rw [getElem?_append_left (by omega)]
     have:gs.toList=aQ t (.slice (so y) t.us.length c):=by rw [L.o]
     rw [this]
     unfold aQ
     rw [getElem?_map,getElem?_range an]
     show some (aN t _ 0 0 k)=some (aN { t with held:=fP t.us } _ hb q k)
     unfold aN
     have av:k≠149:=by omega
     simp only [O,if_false]
     by_cases h0:k=0
     ·simp [h0]
     by_cases h1:k=1
     ·simp [h1]
     by_cases h2:k=2
     ·simp [h2]
     by_cases h3:k=3
     ·simp [h3]
     rw [if_neg h0,if_neg h1,if_neg h2,if_neg h3,if_pos (by omega),if_neg h0,if_neg h1,if_neg h2,if_neg h3,if_pos (by omega)]
    rw [getElem?_append_right (by omega),am]
    have:k=149\/k=150:=by omega
    rcases this with rfl|rfl <;> simp [aN]
   ·rw [n,World.frozen?_setCell]
    exact bI M
   ·exact (MapF.fr (MapF.fr hH g (by simp)) D (by simp;exact fun e=>F.1 e.symm))
   exact (MapF.made (g.heap0 hB)).fr D (by simp;exact fun e=>F.2 e.symm)
  have ae:Fr [] w W5:=by rw [n];exact (af.then0 g).setCell _ _ (.inr (by show w.heap.size<=d;omega))
  clear n M aa al ak D hH hB Y au x ad
  have ax:=ae.size
  go_wp2_with fail
  go_ret
  exact ⟨d,p,f,hb,q,rfl,ae,Zr,by omega,by omega,by omega,by omega⟩
def CmdV (w:World)(v:Value)(l:List Cm):Prop:=(∃ c b,v=.slice c 0 b/\l=[])\/∃ a b,v=.slice (so a) l.length b/\Cmds w a l/\a < w.heap.size
theorem CmdV.fr0 {w b:World}{v:Value}{l:List Cm}(h:CmdV w v l)(a:Fr [] w b):CmdV b v l:=by
 rcases h with h|⟨e,f,h1,c,d⟩
 ·exact .inl h
 exact .inr ⟨e,f,h1,c.fr a (by simp),Nat.lt_of_lt_of_le d a.size⟩
theorem uO (d b a hb f:Nat)(t:T)(p:Int)(l:List Cm)(m:Value)(w0 w:World)(h:TS w d b a hb f t)(g:TOk t)(hl:CmdV w0 m l)(k:Fr [] w0 w)(c:l.length<=2000000)(r:w0.heap.size<=b) :
  Cs 118 #[.pointer (so d),.int .i64 p,m] w fun e j =>
   ∃ v,e=.returned v/\Fr [b] w j/\TS j d b a hb f (aW p 0 l t).2/\j.ownsRow w.heap.size 3 1 v (aW p 0 l t).1.length (ints (aW p 0 l t).1):=by
 rcases hl with ⟨n,i,rfl,rfl⟩|⟨s,i,rfl,o,q⟩
 ·exact FH d b a hb f t p n i w h
 exact FG d b a hb f s i t p l w h g (o.fr k (by simp)) (Nat.lt_of_lt_of_le q k.size) (by omega) c
theorem oQ (l:List Cm)(c:Value)(w0 w:World)(hl:CmdV w0 c l)(a:l.length<=2000000) :
  Cs 115 #[c] w fun e d=>∃ v,e=.returned v/\Fr [] w d/\d.ownsRow w.heap.size 3 1 v (range l.length).length (ints (range l.length)):=by
 rw [length_range]
 rcases hl with ⟨f,b,rfl,rfl⟩|⟨i,b,rfl,g,h⟩
 ·exact yL f 0 b w (by omega)
 exact yL _ l.length b w a
def Refs (w:World)(base:Nat)(v:Value)(a b:List Nat):Prop:=∃ c f d e,v=.slice (so c) 2 f/\w.heap[c]?=some (.cells #[d,e] 25)/\base<=c/\w.ownsRow base 3 1 d a.length (ints a)/\w.ownsRow base 3 1 e b.length (ints b)
def RefsA (w:World)(base:Nat)(v:Value)(a b:List Nat):Prop:=∃ c d e,v=.slice (so c) 2 2/\w.heap[c]?=some (.cells #[d,e] 25)/\base<=c/\w.ownsRow base 3 1 d a.length (ints a)/\w.ownsRow base 3 1 e b.length (ints b)/\∀ g,d.ownBlock=some g->e.ownBlock≠some g
theorem RefsA.refs {w:World}{base:Nat}{v:Value}{a b:List Nat}(h:RefsA w base v a b):Refs w base v a b:=by
 obtain ⟨g,i,j,h1,c,d,e,f,_⟩:=h
 exact ⟨g,2,i,j,h1,c,d,e,f⟩
theorem iU {w:World}{base n:Nat}{e:TypeId}{size:Nat}{v:Value}{xs:List Value}(h:w.ownsRow base e size v n xs):∃ a k c,v=.slice a k c:=by
 rcases h.2 with ⟨h1,_⟩|⟨g,b,cur,rfl,_⟩
 ·exact ⟨_,_,_,h1⟩
 exact ⟨_,_,_,rfl⟩
theorem iE {w a:World}{base n:Nat}{e:TypeId}{size:Nat}{v:Value}{xs:List Value}(h:w.ownsRow base e size v n xs){x:Nat}(c:Fr [x] w a)(hx:x < base):a.ownsRow base e size v n xs:=aF h c (fun b hb=>by have:=cG h hb;simp;omega)
theorem iF {w:World}{base a n:Nat}{e:TypeId}{size:Nat}{v:Value}{xs:List Value}(h:w.ownsRow base e size v n xs)(hb:a<=base):w.ownsRow a e size v n xs:=by
 refine ⟨h.1,?_⟩
 rcases h.2 with c|⟨g,b,cur,h1,c,r⟩
 ·exact .inl c
 exact .inr ⟨g,b,cur,h1,Nat.le_trans hb c,r⟩
theorem IJ (t:T)(n:Int)(pv:Value):(aQ t pv).toArray.setIfInBounds 0 (ii n)=(aQ { t with turn:=n } pv).toArray:=by
 apply Array.ext_getElem?
 intro i
 rw [Array.getElem?_setIfInBounds]
 have hl:(aQ t pv).toArray.size=149:=by simp [aQ]
 by_cases a:0=i
 ·subst a
  rw [if_pos rfl,if_pos (by omega)]
  simp [aQ,aN]
 rw [if_neg a]
 simp only [getElem?_toArray,aQ,getElem?_map]
 by_cases hi:i < 149
 ·rw [getElem?_range hi]
  simp only [Option.map_some,Option.some.injEq]
  have b:¬ i=0:=fun e=>a e.symm
  unfold aN
  simp only [b,if_false]
 rw [getElem?_eq_none (by simp;omega)]
 rfl
theorem zcGame:Tryz.zeroCells90.size=149:=by kernel_rfl
theorem jS (t:T)(e:Option Addr)(n c:Nat):(aQ t (.slice e n c)).toArray.all (·.oneCell')=true:=by
 apply all_oneCell_toArray
 intro v g
 obtain ⟨i,hi,rfl⟩:=mem_map.1 g
 have:=mem_range.1 hi
 unfold aN
 by_cases f:i < 148
 ·by_cases a:i=0
  ·rw [if_pos a];rfl
  by_cases h1:i=1
  ·rw [if_neg a,if_pos h1];rfl
  by_cases b:i=2
  ·rw [if_neg a,if_neg h1,if_pos b];rfl
  by_cases d:i=3
  ·rw [if_neg a,if_neg h1,if_neg b,if_pos d];rfl
  rw [if_neg a,if_neg h1,if_neg b,if_neg d,if_pos f];rfl
 have:i=148:=by omega
 subst this
 rfl
theorem ON (Q l:Nat)(t:T)(l1 l2:List Cm)(M N:Value)(w:World)(aq:PRow w Q l t.us)(ap:t.us.length<=1000)(ht:0<=t.turn/\t.turn < 1000000000)(h1:CmdV w M l1)(h2:CmdV w N l2)(Zr:l1.length<=2000000)(au:l2.length<=2000000)(av:bD t.us=true) :
  Cs 74 #[.agg (aQ t (.slice (so Q) t.us.length l)).toArray,M,N] w fun e R =>
   ∃ v,e=.returned (.tuple #[.agg (aQ { t with turn:=t.turn+1 } (.slice (so Q) t.us.length l)).toArray,v])/\Fr [] w R/\RefsA R w.heap.size v (range l1.length) (range l2.length):=by
 obtain ⟨gs,s⟩:∃ gs,gs=(aQ t (.slice (so Q) t.us.length l)).toArray:=⟨_,rfl⟩
 have hg:gs.size=149:=by rw [s];simp [aQ]
 have af:=aA s
 have an:gs[0]?=some (ii t.turn):=by rw [s];simp [aQ,aN]
 have D:gs[148]?=some (.slice (so Q) t.us.length l):=by rw [s];simp [aQ,aN]
 rw [<- s]
 have HG:=aA hg
 clear s hg
 obtain ⟨W2,r⟩:∃ W,W=(w.alloc (.cells gs 90)).alloc (.cells Tryz.zeroCells90 90):=⟨_,rfl⟩
 have ag:Fr [] w W2:=by rw [r];exact ((r0 _ _).alloc _).alloc _
 have V:W2.heap[w.heap.size]?=some (.cells gs 90):=by rw [r,dD]
 have ak:W2.heap[w.heap.size+1]?=some (.cells Tryz.zeroCells90 90):=by rw [r,cR]
 have ao:GV W2 w.heap.size Q l t.us:=⟨by rw [aB V];exact D,(aq.fr ag (by simp)).ppl,ap⟩
 have E:=ao
 rw [r] at E
 have HV:=(show Hi _ from E)
 have HW:=aA r
 clear r E
 go_enter Tryz.func74,Tryz.ntmps74
 go_wp2_with (go_at_call 116;refine (mQ w.heap.size Q l t.us _ HV.o).mono ?_;rintro e w3 ⟨rfl,J⟩;rw [av];rw [<- HW.o] at J;have I:=J.heap0 V;have ah:w3.cell? ⟨w.heap.size,0,none⟩=some (ii t.turn):=(aB I).trans an;have ai:w3.frozen? ⟨w.heap.size,0,none⟩=false:=bI I)
 obtain ⟨m,A⟩:∃ W,W=w3.setCell ⟨w.heap.size,0,none⟩ (.int .i64 (t.turn+1)):=⟨_,rfl⟩
 rw [<- A]
 have ad:Fr [] w m:=by rw [A];exact (ag.then0 J).setCell _ _ (.inr (Nat.le_refl _))
 have aj:m.heap[w.heap.size]?=some (.cells (gs.setIfInBounds 0 (ii (t.turn+1))) 90):=by rw [A];exact bS I 0 _
 have al:m.heap[w.heap.size+1]?=some (.cells Tryz.zeroCells90 90):=by rw [A,Below.heap_setCell _ _ _ _ (by simp)];exact J.heap0 ak
 obtain ⟨b,aa⟩:∃ g,g=gs.setIfInBounds 0 (ii (t.turn+1)):=⟨_,rfl⟩
 rw [<- aa] at aj
 have L:b=(aQ { t with turn:=t.turn+1 } (.slice (so Q) t.us.length l)).toArray:=by rw [aa,af.o,IJ]
 have c:b.size=149:=by rw [L];simp [aQ]
 have P:b.all (·.oneCell')=true:=by rw [L];exact jS _ _ _ _
 have ae:=aA L
 have ar:∀ R,Fr [w.heap.size+1] m R->R.rangeAt w.heap.size 0 b.toList:=fun R hf j v hv=>by
  rw [Nat.zero_add,aB (hf.heap aj (by simp))]
  simpa using hv
 have ab:(Tryz.prog.info? 90).map (·.size)=some b.toList.length:=by rw [dE];simp [c]
 have aw:=aH al
 clear A L aa I ah ai V ak an D ao HV HW af
 have KF:Fr [] m m.drew:=(r0 _ _).drew
 refine wp_region_held (S:=fun R=>Fr [w.heap.size+1] m R) (by kernel_rfl) ?_
 refine wpAnyH_take (i:=0) (oi:=_) (v:=.agg b.toList.toArray) rfl (by kernel_rfl) (by kernel_rfl) (by kernel_rfl) (fun _ _ _ h=>h) (yieldsIf_load_mid (by kernel_rfl) 90 (.tmp 3) rfl w.heap.size 0 rfl b.toList _ ar Tryz.underlying90 rfl ab) KF.of0 ?_
 simp only [Act.put,Array.toArray_toList]
 refine ty 1 M rfl (fun w0 _=>by go_simp) KF.of0 ?_
 simp only [Act.put]
 refine ty 3 N rfl (fun w0 _=>by go_simp) KF.of0 ?_
 simp only [Act.put]
 refine wpAnyH_ready (rs:=[2]) (by kernel_rfl) (by simp) ?_
 refine AllReadyH.cons rfl (fun K hK=>?_) AllReadyH.nil
 rw [if_pos (by rfl)]
 go_wp2_with (go_at_call 115;refine (oQ l1 M w _ h1 Zr).mono ?_;rintro e w5 ⟨v0,rfl,Zq,a⟩)
 have C:Fr [] m w5:=KF.then0 Zq
 refine hK.out _ _ C.of0 (fun _=>?_)
 clear hK
 refine wpAnyH_ready (rs:=[4]) (by kernel_rfl) (by simp) ?_
 refine AllReadyH.cons rfl (fun K hK=>?_) AllReadyH.nil
 rw [if_pos (by rfl)]
 go_wp2_with (go_at_call 115;refine (oQ l2 N w _ h2 au).mono ?_;rintro e f ⟨v1,rfl,Y,d⟩)
 have k:Fr [] m f:=C.then0 Y
 refine hK.out _ _ k.of0 (fun _=>?_)
 clear hK
 obtain ⟨u,F,y,rfl⟩:=iU a
 obtain ⟨x,H,z,rfl⟩:=iU d
 have ax:=ad.size
 have ay:=C.size
 have az:=k.size
 have X:=k.heap0 al
 refine wpAnyH_ready (rs:=[5,6]) (by kernel_rfl) (by simp) ?_
 refine AllReadyH.cons rfl (fun K hK=>?_) (AllReadyH.cons rfl (fun K hK=>?_) AllReadyH.nil)
 ·rw [if_pos (by rfl)]
  go_wp2_with fail
  refine hK.out _ _ (k.alloc _).of0 (fun _=>?_)
  clear hK
  refine wpAnyH_ready (rs:=[6]) (by kernel_rfl) (by simp) ?_
  refine AllReadyH.cons rfl (fun K hK=>?_) AllReadyH.nil
  rw [if_pos (by rfl)]
  have am:(f.alloc (.cells #[.slice u F y,.slice x H z] 25)).heap[w.heap.size+1]?=some (.cells Tryz.zeroCells90 90):=((r0 [] f).alloc _).heap0 X
  refine wp_store_row 90 (.tmp 6) (.tmp 24) rfl (w.heap.size+1) b rfl rfl 90 _ am (by rw [dE,c]) (by rw [c];exact zcGame) P ?_
  have p:Fr [w.heap.size+1] m ((f.alloc (.cells #[.slice u F y,.slice x H z] 25)).setRow (w.heap.size+1) b):=(k.alloc _).of0.setRow _ _ (by simp)
  have B:Fr [w.heap.size+1] f ((f.alloc (.cells #[.slice u F y,.slice x H z] 25)).setRow (w.heap.size+1) b):=((r0 _ _).alloc _).setRow _ _ (by simp)
  have q:((f.alloc (.cells #[.slice u F y,.slice x H z] 25)).setRow (w.heap.size+1) b).heap[w.heap.size+1]?=some (.cells b 90):=setRow_heap _ _ _ _ _ _ am
  have n:((f.alloc (.cells #[.slice u F y,.slice x H z] 25)).setRow (w.heap.size+1) b).heap[f.heap.size]?=some (.cells #[.slice u F y,.slice x H z] 25):=by rw [setRow_other _ _ _ _ (by omega)];exact aC _ _
  refine hK.out _ _ p (fun _=>?_)
  clear hK
  simp only [Act.put]
  refine ty 7 (.slice (so f.heap.size) 2 2) rfl (fun w0 _=>by go_simp) p ?_
  refine wpAnyH_done (by kernel_rfl) ?_ _
  go_wp2_with fail
  have ac:m.drew.heap.size=m.heap.size:=rfl
  rw [ac] at a
  refine bodyPost_ret (v:=.tuple #[.agg b,.slice (so f.heap.size) 2 2]) (cJ Tryz.results74 _ _ (w.heap.size+1) 90 b (0,0) _ _ rfl rfl q Tryz.underlying90 rfl (by rw [dE,c])) rfl ⟨_,by rw [ae.o],?_,f.heap.size,_,_,rfl,n,by omega,?_,?_,fun g hg e=>by have h1:=a.lt g hg;have h2:=cG d e;omega⟩
  ·exact ad.trans p (by simp)
  ·exact iF (iE (aF a Y (by simp)) B (by omega)) (by omega)
  exact iF (iE d B (by omega)) (by omega)
 rw [if_pos (by rfl)]
 refine wp_store_row 90 (.tmp 6) (.tmp 24) rfl (w.heap.size+1) b rfl rfl 90 _ X (by rw [dE,c]) (by rw [c];exact zcGame) P ?_
 have O:Fr [w.heap.size+1] m (f.setRow (w.heap.size+1) b):=k.of0.setRow _ _ (by simp)
 refine hK.out _ _ O (fun _=>?_)
 clear hK
 simp only [Act.put]
 refine wpAnyH_ready (rs:=[5]) (by kernel_rfl) (by simp) ?_
 refine AllReadyH.cons rfl (fun K hK=>?_) AllReadyH.nil
 rw [if_pos (by rfl)]
 go_wp2_with fail
 have p:Fr [w.heap.size+1] m ((f.setRow (w.heap.size+1) b).alloc (.cells #[.slice u F y,.slice x H z] 25)):=O.alloc _
 have B:Fr [w.heap.size+1] f ((f.setRow (w.heap.size+1) b).alloc (.cells #[.slice u F y,.slice x H z] 25)):=((r0 _ _).setRow _ _ (by simp)).alloc _
 have q:((f.setRow (w.heap.size+1) b).alloc (.cells #[.slice u F y,.slice x H z] 25)).heap[w.heap.size+1]?=some (.cells b 90):=((r0 [] _).alloc _).heap0 (setRow_heap _ _ _ _ _ _ X)
 have n:((f.setRow (w.heap.size+1) b).alloc (.cells #[.slice u F y,.slice x H z] 25)).heap[f.heap.size]?=some (.cells #[.slice u F y,.slice x H z] 25):=jF _ _ _ (by simp)
 refine hK.out _ _ p (fun _=>?_)
 clear hK
 refine ty 7 (.slice (so f.heap.size) 2 2) rfl (fun w0 _=>by go_simp) p ?_
 refine wpAnyH_done (by kernel_rfl) ?_ _
 go_wp2_with fail
 have ac:m.drew.heap.size=m.heap.size:=rfl
 rw [ac] at a
 refine bodyPost_ret (v:=.tuple #[.agg b,.slice (so f.heap.size) 2 2]) (cJ Tryz.results74 _ _ (w.heap.size+1) 90 b (0,0) _ _ rfl rfl q Tryz.underlying90 rfl (by rw [dE,c])) rfl ⟨_,by rw [ae.o],?_,f.heap.size,_,_,rfl,n,by omega,?_,?_,fun g hg e=>by have h1:=a.lt g hg;have h2:=cG d e;omega⟩
 ·exact ad.trans p (by simp)
 ·exact iF (iE (aF a Y (by simp)) B (by omega)) (by omega)
 exact iF (iE d B (by omega)) (by omega)
theorem OL (pb z:Nat)(t:T)(l1 l2:List Cm)(H I:Value)(w:World)(ht:1000000000<=t.turn)(h1:CmdV w H l1)(h2:CmdV w I l2)(ao:l1.length<=2000000)(ap:l2.length<=2000000) :
  Cs 74 #[.agg (aQ t (.slice (so pb) t.us.length z)).toArray,H,I] w fun e N =>
   ∃ v,e=.returned (.tuple #[.agg (aQ t (.slice (so pb) t.us.length z)).toArray,v])/\Fr [] w N/\RefsA N w.heap.size v (range l1.length) (range l2.length):=by
 obtain ⟨gs,r⟩:∃ gs,gs=(aQ t (.slice (so pb) t.us.length z)).toArray:=⟨_,rfl⟩
 have hg:gs.size=149:=by rw [r];simp [aQ]
 have ae:=aA r
 have al:gs[0]?=some (ii t.turn):=by rw [r];simp [aQ,aN]
 have R:gs[148]?=some (.slice (so pb) t.us.length z):=by rw [r];simp [aQ,aN]
 rw [<- r]
 have HG:=aA hg
 clear r hg
 obtain ⟨W2,q⟩:∃ W,W=(w.alloc (.cells gs 90)).alloc (.cells Tryz.zeroCells90 90):=⟨_,rfl⟩
 have ag:Fr [] w W2:=by rw [q];exact ((r0 _ _).alloc _).alloc _
 have O:W2.heap[w.heap.size]?=some (.cells gs 90):=by rw [q,dD]
 have ai:W2.heap[w.heap.size+1]?=some (.cells Tryz.zeroCells90 90):=by rw [q,cR]
 have J:ca W2 w.heap.size 0 (ii t.turn):=(aB O).trans al
 rw [q] at J
 have HW:=aA q
 have ac:=aA O
 have af:=aA ai
 have ab:=aA ag
 clear q O ai ag al R
 go_enter Tryz.func74,Tryz.ntmps74
 go_wp2_with fail
 rw [<- HW.o]
 obtain ⟨l,A⟩:∃ W,W=W2:=⟨_,rfl⟩
 have aa:Fr [] w l:=by rw [A];exact ab.o
 have ah:l.heap[w.heap.size]?=some (.cells gs 90):=by rw [A];exact ac.o
 have aj:l.heap[w.heap.size+1]?=some (.cells Tryz.zeroCells90 90):=by rw [A];exact af.o
 rw [<- A]
 obtain ⟨b,F⟩:∃ g,g=gs:=⟨_,rfl⟩
 rw [<- F] at ah
 have ad:=aA F
 have V:b=(aQ t (.slice (so pb) t.us.length z)).toArray:=by rw [F,ae.o]
 have c:b.size=149:=by rw [V];simp [aQ]
 have M:b.all (·.oneCell')=true:=by rw [V];exact jS _ _ _ _
 have am:∀ N,Fr [w.heap.size+1] l N->N.rangeAt w.heap.size 0 b.toList:=fun N hf j v hv=>by
  rw [Nat.zero_add,aB (hf.heap ah (by simp))]
  simpa using hv
 have X:(Tryz.prog.info? 90).map (·.size)=some b.toList.length:=by rw [dE];simp [c]
 have aq:=aH aj
 clear A V F J ac af ab HW ae
 have KF:Fr [] l l.drew:=(r0 _ _).drew
 refine wp_region_held (S:=fun N=>Fr [w.heap.size+1] l N) (by kernel_rfl) ?_
 refine wpAnyH_take (i:=0) (oi:=_) (v:=.agg b.toList.toArray) rfl (by kernel_rfl) (by kernel_rfl) (by kernel_rfl) (fun _ _ _ h=>h) (yieldsIf_load_mid (by kernel_rfl) 90 (.tmp 3) rfl w.heap.size 0 rfl b.toList _ am Tryz.underlying90 rfl X) KF.of0 ?_
 simp only [Act.put,Array.toArray_toList]
 refine ty 1 H rfl (fun w0 _=>by go_simp) KF.of0 ?_
 simp only [Act.put]
 refine ty 3 I rfl (fun w0 _=>by go_simp) KF.of0 ?_
 simp only [Act.put]
 refine wpAnyH_ready (rs:=[2]) (by kernel_rfl) (by simp) ?_
 refine AllReadyH.cons rfl (fun K hK=>?_) AllReadyH.nil
 rw [if_pos (by rfl)]
 go_wp2_with (go_at_call 115;refine (oQ l1 H w _ h1 ao).mono ?_;rintro e w5 ⟨v0,rfl,an,a⟩)
 have C:Fr [] l w5:=KF.then0 an
 refine hK.out _ _ C.of0 (fun _=>?_)
 clear hK
 refine wpAnyH_ready (rs:=[4]) (by kernel_rfl) (by simp) ?_
 refine AllReadyH.cons rfl (fun K hK=>?_) AllReadyH.nil
 rw [if_pos (by rfl)]
 go_wp2_with (go_at_call 115;refine (oQ l2 I w _ h2 ap).mono ?_;rintro e f ⟨v1,rfl,Q,d⟩)
 have k:Fr [] l f:=C.then0 Q
 refine hK.out _ _ k.of0 (fun _=>?_)
 clear hK
 obtain ⟨s,D,x,rfl⟩:=iU a
 obtain ⟨u,E,y,rfl⟩:=iU d
 have ar:=aa.size
 have Zq:=C.size
 have Zr:=k.size
 have P:=k.heap0 aj
 refine wpAnyH_ready (rs:=[5,6]) (by kernel_rfl) (by simp) ?_
 refine AllReadyH.cons rfl (fun K hK=>?_) (AllReadyH.cons rfl (fun K hK=>?_) AllReadyH.nil)
 ·rw [if_pos (by rfl)]
  go_wp2_with fail
  refine hK.out _ _ (k.alloc _).of0 (fun _=>?_)
  clear hK
  refine wpAnyH_ready (rs:=[6]) (by kernel_rfl) (by simp) ?_
  refine AllReadyH.cons rfl (fun K hK=>?_) AllReadyH.nil
  rw [if_pos (by rfl)]
  have ak:(f.alloc (.cells #[.slice s D x,.slice u E y] 25)).heap[w.heap.size+1]?=some (.cells Tryz.zeroCells90 90):=((r0 [] f).alloc _).heap0 P
  refine wp_store_row 90 (.tmp 6) (.tmp 13) rfl (w.heap.size+1) b rfl rfl 90 _ ak (by rw [dE,c]) (by rw [c];exact zcGame) M ?_
  have n:Fr [w.heap.size+1] l ((f.alloc (.cells #[.slice s D x,.slice u E y] 25)).setRow (w.heap.size+1) b):=(k.alloc _).of0.setRow _ _ (by simp)
  have B:Fr [w.heap.size+1] f ((f.alloc (.cells #[.slice s D x,.slice u E y] 25)).setRow (w.heap.size+1) b):=((r0 _ _).alloc _).setRow _ _ (by simp)
  have p:((f.alloc (.cells #[.slice s D x,.slice u E y] 25)).setRow (w.heap.size+1) b).heap[w.heap.size+1]?=some (.cells b 90):=setRow_heap _ _ _ _ _ _ ak
  have m:((f.alloc (.cells #[.slice s D x,.slice u E y] 25)).setRow (w.heap.size+1) b).heap[f.heap.size]?=some (.cells #[.slice s D x,.slice u E y] 25):=by rw [setRow_other _ _ _ _ (by omega)];exact aC _ _
  refine hK.out _ _ n (fun _=>?_)
  clear hK
  simp only [Act.put]
  refine ty 7 (.slice (so f.heap.size) 2 2) rfl (fun w0 _=>by go_simp) n ?_
  refine wpAnyH_done (by kernel_rfl) ?_ _
  go_wp2_with fail
  have Y:l.drew.heap.size=l.heap.size:=rfl
  rw [Y] at a
  refine bodyPost_ret (v:=.tuple #[.agg b,.slice (so f.heap.size) 2 2]) (cJ Tryz.results74 _ _ (w.heap.size+1) 90 b (0,0) _ _ rfl rfl p Tryz.underlying90 rfl (by rw [dE,c])) rfl ⟨_,by rw [ad.o],?_,f.heap.size,_,_,rfl,m,by omega,?_,?_,fun g hg e=>by have h1:=a.lt g hg;have h2:=cG d e;omega⟩
  ·exact aa.trans n (by simp)
  ·exact iF (iE (aF a Q (by simp)) B (by omega)) (by omega)
  exact iF (iE d B (by omega)) (by omega)
 rw [if_pos (by rfl)]
 refine wp_store_row 90 (.tmp 6) (.tmp 13) rfl (w.heap.size+1) b rfl rfl 90 _ P (by rw [dE,c]) (by rw [c];exact zcGame) M ?_
 have L:Fr [w.heap.size+1] l (f.setRow (w.heap.size+1) b):=k.of0.setRow _ _ (by simp)
 refine hK.out _ _ L (fun _=>?_)
 clear hK
 simp only [Act.put]
 refine wpAnyH_ready (rs:=[5]) (by kernel_rfl) (by simp) ?_
 refine AllReadyH.cons rfl (fun K hK=>?_) AllReadyH.nil
 rw [if_pos (by rfl)]
 go_wp2_with fail
 have n:Fr [w.heap.size+1] l ((f.setRow (w.heap.size+1) b).alloc (.cells #[.slice s D x,.slice u E y] 25)):=L.alloc _
 have B:Fr [w.heap.size+1] f ((f.setRow (w.heap.size+1) b).alloc (.cells #[.slice s D x,.slice u E y] 25)):=((r0 _ _).setRow _ _ (by simp)).alloc _
 have p:((f.setRow (w.heap.size+1) b).alloc (.cells #[.slice s D x,.slice u E y] 25)).heap[w.heap.size+1]?=some (.cells b 90):=((r0 [] _).alloc _).heap0 (setRow_heap _ _ _ _ _ _ P)
 have m:((f.setRow (w.heap.size+1) b).alloc (.cells #[.slice s D x,.slice u E y] 25)).heap[f.heap.size]?=some (.cells #[.slice s D x,.slice u E y] 25):=jF _ _ _ (by simp)
 refine hK.out _ _ n (fun _=>?_)
 clear hK
 refine ty 7 (.slice (so f.heap.size) 2 2) rfl (fun w0 _=>by go_simp) n ?_
 refine wpAnyH_done (by kernel_rfl) ?_ _
 go_wp2_with fail
 have Y:l.drew.heap.size=l.heap.size:=rfl
 rw [Y] at a
 refine bodyPost_ret (v:=.tuple #[.agg b,.slice (so f.heap.size) 2 2]) (cJ Tryz.results74 _ _ (w.heap.size+1) 90 b (0,0) _ _ rfl rfl p Tryz.underlying90 rfl (by rw [dE,c])) rfl ⟨_,by rw [ad.o],?_,f.heap.size,_,_,rfl,m,by omega,?_,?_,fun g hg e=>by have h1:=a.lt g hg;have h2:=cG d e;omega⟩
 ·exact aa.trans n (by simp)
 ·exact iF (iE (aF a Q (by simp)) B (by omega)) (by omega)
 exact iF (iE d B (by omega)) (by omega)
