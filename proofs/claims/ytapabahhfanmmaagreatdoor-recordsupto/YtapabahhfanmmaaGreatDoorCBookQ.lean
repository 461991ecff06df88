import Derived.Test.YtapabahhfanmmaaGreatDoorCLawW
namespace Go.Proofs.YtapabahhfanmmaaGreatDoor
open Go.RowKit List
set_option maxRecDepth 100000
set_option maxHeartbeats 2000000
def cM (cs:List Value)(k:Nat):Value:=cs.getD (k % cs.length) (ii 0)
theorem oO (cs:List Value)(k:Nat):cM cs (k+cs.length)=cM cs k:=by
 unfold cM
 rw [Nat.add_mod_right]
theorem yI (cs:List Value):aO cs.length (cM cs) 1=cs:=by
 refine ext_getElem? fun i=>?_
 by_cases hi:i < cs.length
 ·rw [kP (by omega),cM,Nat.mod_eq_of_lt hi,getD_eq_getElem?_getD,getElem?_eq_getElem hi]
  rfl
 rw [getElem?_eq_none (by rw [fY];omega),getElem?_eq_none (by omega)]
theorem yJ (cs:List Value):aO cs.length (cM cs) 2=cs ++ cs:=by
  rw [show (2:Nat)=1+1 from rfl,<- lL (oO cs) 1 1,yI]
theorem Mkg.rows {w:World}{K:List Nat}{v:Value}{n:Nat}{cs:List Value}(h:Mkg w K cs.length (cM cs) v n)(hn:n<=20000000):MkR w K v cs:=by
 obtain ⟨e,c,h1,f⟩:=h
 refine ⟨e,n,c,h1,hn,f.imp_right fun ⟨b,l,m,o⟩=>⟨b,l,m,fun k i j u d=>?_⟩⟩
 have g:j < cs.length:=(gs.1 d).1
 have a:(k+1)*cs.length<=n*cs.length:=Nat.mul_le_mul_right _ i
 rw [Nat.succ_mul] at a
 rw [o (k*cs.length+j) (by omega)]
 unfold cM
 rw [Nat.add_comm,Nat.add_mul_mod_self_right,Nat.mod_eq_of_lt g,getD_eq_getElem?_getD,d]
 rfl
structure FillG (W:World) (base n gb gc:Nat) (e:TypeId) (cs0 cs:List Value) (k:Nat) (wr:World):Prop where
 own:wr.ownsRow base e cs.length (.slice (so gb) n gc) n (aO cs.length (cM cs) k ++ cs0.drop (k*cs.length))
 fr:Fr [gb] W wr
theorem FillG.there {W:World}{base n c d:Nat}{e:TypeId}{a cs:List Value}{k:Nat}{wr:World}(h:FillG W base n c d e a cs k wr)(p:k < n):wr.there c (k*cs.length) cs.length:=by
 rcases h.own.2 with ⟨l,_⟩|⟨g,i,cur,e,hb,f,m,hm,hs,ht⟩
 ·cases l
 cases e
 have b:(k+1)*cs.length<=d*cs.length:=Nat.mul_le_mul_right _ (by omega)
 rw [Nat.succ_mul] at b
 intro j o
 refine ⟨?_,bI f⟩
 rw [aB f,Array.getElem?_eq_getElem (by omega)]
 rfl
theorem FillG.put {W:World}{base n b c:Nat}{e:TypeId}{a cs:List Value}{k:Nat}{wr:World}(h:FillG W base n b c e a cs k wr)(s:k < n)(f:a.length=n*cs.length):FillG W base n b c e a cs (k+1) (wr.setCells b (k*cs.length) cs):=by
 refine ⟨?_,Fr.setCells b _ _ _ h.fr (.inl (by simp))⟩
 obtain ⟨h1,d⟩:=h.own
 rcases d with ⟨d,_⟩|⟨g,m,cur,e,hb,r,j,hm,hs,ht⟩
 ·cases d
 cases e
 have t:(k+1)*cs.length<=n*cs.length:=Nat.mul_le_mul_right _ s
 have l:n*cs.length<=c*cs.length:=Nat.mul_le_mul_right _ j
 have u:(k+1)*cs.length=k*cs.length+cs.length:=Nat.succ_mul _ _
 have i:cur.toList.take (k*cs.length)=aO cs.length (cM cs) k:=by
  have q:=congrArg (take (k*cs.length)) ht
  rw [take_take,Nat.min_eq_left (by omega),take_append_of_le_length (by rw [fY];omega)] at q
  rw [q]
  exact take_of_length_le (by rw [fY];omega)
 have p:(cur.toList.drop (k*cs.length+cs.length)).take (n*cs.length - (k*cs.length+cs.length))=a.drop ((k+1)*cs.length):=by
  rw [<- drop_take,ht,drop_append,drop_of_length_le (by rw [fY];omega),fY,nil_append,drop_drop]
  congr 1
  omega
 refine ⟨by rw [length_append,fY,length_drop,f];omega,.inr ⟨b,c,_,rfl,hb,sB b _ cs (k*cs.length) cur wr r (by omega),j,hm,?_,?_⟩⟩
 ·simp
  omega
 show take _ (_ ++ _ ++ _)=_
 have o:(cur.toList.take (k*cs.length) ++ cs).length=k*cs.length+cs.length:=by
  rw [i,length_append,fY]
 rw [take_append,o,take_of_length_le (by omega),p,i,<- lL (oO cs) k 1,yI]
theorem BM {b l2 c:List Value}(hl:b.length=l2.length){w:World}{K:List Nat}{f:ByteArray->List Value}(m:ByteArray)(h:∀ (i:Nat) (v:Value),b[i]?=some v->∃ m,l2[i]?=some (.string m)/\MkR w K v (f m))(e:∀ v∈c,MkR w K v (f m)):∀ (i:Nat) (v:Value),(b ++ c)[i]?=some v->∃ d,(l2 ++ c.map fun _=>Value.string m)[i]?=some (.string d)/\MkR w K v (f d):=by
 intro i v a
 by_cases hi:i < b.length
 ·rw [getElem?_append_left hi] at a
  rw [getElem?_append_left (by omega)]
  exact h i v a
 rw [getElem?_append_right (by omega)] at a
 rw [getElem?_append_right (by omega),<- hl,getElem?_map,a]
 exact ⟨m,rfl,e v (mem_of_getElem? a)⟩
theorem BL.files {w:World}{K:List Nat}{xs:Nat->List Value}(h:BL w K xs)(hl:(xs 5).length=(xs 7).length)(a:List Value)(m:ByteArray)(b:∀ v∈a,MkR w K v (cF m)):BL w K (aK (aK xs 5 (xs 5 ++ a)) 7 (xs 7 ++ a.map fun _=>Value.string m)) :=
  ⟨h.pl,h.pr,h.pe,BM hl m h.fi b,h.st⟩
theorem BL.steps {w:World}{K:List Nat}{xs:Nat->List Value}(h:BL w K xs)(hl:(xs 6).length=(xs 8).length)(a:List Value)(m:ByteArray)(b:∀ v∈a,MkR w K v (cS m)):BL w K (aK (aK xs 6 (xs 6 ++ a)) 8 (xs 8 ++ a.map fun _=>Value.string m)) :=
  ⟨h.pl,h.pr,h.pe,h.fi,BM hl m h.st b⟩
theorem JJ:(Tryz.prog.info? 115).map (fun i=>(i.zero,i.size,i.bytes))=some (some (.agg #[.string ⟨#[]⟩,.string ⟨#[]⟩]),2,32):=by kernel_rfl
theorem JM:(Tryz.prog.info? 51).map (fun i=>(i.zero,i.size,i.bytes))=some (some (.slice none 0 0),1,24):=by kernel_rfl
theorem JQ:(Tryz.prog.info? 9).map (fun i=>(i.zero,i.size,i.bytes))=some (some (.string ⟨#[]⟩),1,16):=by kernel_rfl
theorem OA (a N n base:Nat)(K:List Nat)(v:Value)(ac:List Value)(w:World)(h:Bk w a K N)(hN:N<=2200000)(s:w.ownsRow base 115 2 v n ac)(es:0 < n)(fw:n<=10000010)(fq:a < base)(hK:∀ x∈K,x < base) :
  Cs 66 #[.pointer (so a),v] w fun e w'=>e=.returned (.tuple #[])/\OwnP w a N K v.ownBlock.toList w':=by
 obtain ⟨ba,dd,de,df,bx⟩:=info_parts JJ
 obtain ⟨di,el,fb,fc,fd⟩:=info_parts JQ
 obtain ⟨dj,em,ey,ez,fa⟩:=info_parts JM
 obtain ⟨d,i,rfl⟩:=bK s es
 have ax:ac.length=n*2:=s.1
 obtain ⟨fx,fy⟩:base<=d/\d < w.heap.size:=s.lt d rfl
 obtain ⟨⟨f,xs,nx,KL,h1,h2,h3,h4,h5,h6,h7,h8,h9,cn,bj⟩,bv,ao⟩:=h
 have et:=h1.nxt
 have eu:=h1.fz 9
 have fs:=h1.lt
 have ek:a≠d:=by omega
 obtain ⟨m,hm⟩:∃ m,m=nx - 1:=⟨_,rfl⟩
 obtain ⟨W0,ae⟩:∃ W,W=w.setCell ⟨a,9,none⟩ (.int .i64 m):=⟨_,rfl⟩
 have V:Fr [a] w W0:=by rw [ae];exact (r0 _ _).setCell _ _ (by simp)
 have ab:Hi (BR W0 a f xs m):=by
  show BR W0 a f xs m
  rw [ae];exact h1.mark m
 have cb:Hi (BL W0 KL xs):=h2.fr V (fun b hb e=>bv (by
           have:b=a:=by simpa using e
           subst this;exact (bj b hb).1))
 have bg:Hi (W0.ownsRow base 115 2 (.slice (so d) n i) n ac):=aF s V (fun g J e=>by simp [Value.ownBlock] at J e;omega)
 have HX:=(show Hi _ from And.intro h3 (And.intro h4 (And.intro h5 (And.intro h6 (And.intro h7 (And.intro cn bj))))))
 have dy:=aA bv
 have ds:=aA ao
 have er:-(3*(N:Int)) - 1<=m/\m<=0:=by omega
 have HM:=aA hm
 have cd:=aA V
 have dc:w.heap.size=W0.heap.size:=by rw [ae];simp [World.setCell]
 have bi:=aA dc
 have ff:a < W0.heap.size:=ab.o.lt
 have eq:ca W0 a 9 (ii m):=ab.o.nxt
 have CM:=(show Hi _ from wY m (by omega) W0)
 clear h1 h2 h3 h4 h5 h6 h7 cn bj bv ao V s dc
 go_enter Tryz.func66,Tryz.ntmps66
 go_wp2_with fail
 rw [<- hm,<- ae]
 clear hm ae et eu
 go_wp2_with fail
 refine Calls.mono CM.o ?_
 rintro e wm ⟨M,rfl,bq⟩
 have ev:=bq.size
 obtain ⟨O,am⟩:∃ W,W=wm.alloc (.cells #[.string M,.string M] 115):=⟨_,rfl⟩
 have z:Fr [] W0 O:=by rw [am];exact bq.alloc _
 have aq:O.heap[wm.heap.size]?=some (.cells #[.string M,.string M] 115):=by rw [am];exact aC _ _
 have fj:=z.size
 have ex:wm.heap.size < O.heap.size:=aH aq
 obtain ⟨xb,dg⟩:∃ x,x=wm.heap.size:=⟨_,rfl⟩
 clear CM
 go_wp2_with fail
 rw [<- am]
 rw [<- dg] at aq ex ev |-
 have Zr:=aA z
 have bh:Hi (O.ownsRow base 115 2 (.slice (so d) n i) n ac):=aF bg.o z (by simp)
 have H:Hi (BR O a f xs m):=ab.o.fr z (by simp) (by simp)
 have cc:Hi (BL O KL xs):=cb.o.fr z (by simp)
 have ge:xb≠d:=by have:=bi.o;omega
 have cm:Hi (∀ W,Fr [d] O W->W.cell? ⟨xb,0,none⟩=some (.string M)/\W.cell? ⟨xb,1,none⟩=some (.string M)):=fun W hf=>by
  have hh:=hf.heap aq (by simp;omega)
  exact ⟨aB hh,aB hh⟩
 clear z aq eq am dg bq
 go_loopw [6] (fun j wr=>∃ k:Nat,k<=n/\j=.int .i64 k/\FillG O base n d i 115 ac (cF M) k wr) (fun j _=>n - (intOf j).toNat)
 case atStart=>exact ⟨0,Nat.zero_le _,rfl,by simpa [aO] using bh.o,r0 _ _⟩
 obtain ⟨k,l,rfl,hI⟩:=hrel
 obtain ⟨e0,e1⟩:=cm.o wr hI.fr
 by_cases ah:k < n
 ·have bu:(k:Int) < (n:Int):=by omega
  have ak:=hI.there ah
  obtain ⟨o0,d0⟩:=Option.isSome_iff_exists.1 (ak 0 (by simp)).1
  obtain ⟨o1,d1⟩:=Option.isSome_iff_exists.1 (ak 1 (by simp)).1
  have z0:=(ak 0 (by simp)).2
  have z1:=(ak 1 (by simp)).2
  simp only [length_cons,length_nil,Nat.zero_add,Nat.reduceAdd,Nat.add_zero] at d0 z0 d1 z1
  have HP:=(show Hi _ from hI.put ah ax)
  clear hI ak
  go_wp2_with fail
  go_roundw
  case rel=>exact ⟨k+1,ah,by go_num,HP.o⟩
  case measure=>simp [intOf];omega
 have bu:¬ (k:Int) < (n:Int):=by omega
 have da:k=n:=by omega
 obtain ⟨bw,af⟩:=hI
 rw [da,drop_of_length_le (by rw [ax];exact Nat.le_refl _),append_nil] at bw
 have ch:Hi (wr.ownsRow base 115 2 (.slice (so d) n i) n (aO 2 (cM (cF M)) n)):=bw
 clear da bw
 obtain ⟨W2,cx⟩:∃ W,W=wr:=⟨_,rfl⟩
 rw [<- cx] at ch af e0 e1 |-
 clear cx
 have fp:base<=W2.heap.size:=by have:=af.size;have:=bi.o;omega
 have Zt:Hi (Fr [d] O W2):=af
 have au:Hi (∀ k,∀ u∈aO 2 (cM (cF M)) k,u.oneCell'=true):=fun k u hu=>by
  obtain ⟨j,_,rfl⟩:=mem_map.1 hu
  have hj:j % 2 < 2:=Nat.mod_lt _ (by omega)
  have:j % 2=0\/j % 2=1:=by omega
  show Value.oneCell' ((cF M).getD (j % 2) (ii 0))=true
  rcases this with e|e <;> (rw [e];rfl)
 have bz:Hi (∀ (W:World) (cs:Array Value),W.ownsRow base 115 2 (.slice (so d) n i) n (aO 2 (cM (cF M)) n)->(W.alloc (.cells cs 115)).ownsRow base 115 2 (.slice (so d) n i) n (aO 2 (cM (cF M)) n)):=fun W cs h=>h.alloc _
 have dw:Hi (∀ (W:World) (j:Nat) (u:Value),(aO 2 (cM (cF M)) 1)[j]?=some u->(W.alloc (.cells #[.string M,.string M] 115)).cell? ((⟨W.heap.size,0,none⟩:Addr).add j)=some u):=fun W=>cU W (aO 2 (cM (cF M)) 1) 115
 have dx:Hi (∀ (W:World) (j:Nat) (u:Value),(aO 2 (cM (cF M)) 2)[j]?=some u->(W.alloc (.cells #[.string M,.string M,.string M,.string M] 115)).cell? ((⟨W.heap.size,0,none⟩:Addr).add j)=some u):=fun W=>by
  have e:aO 2 (cM (cF M)) 2=[.string M,.string M,.string M,.string M]:=yJ (cF M)
  rw [e]
  exact cU W [.string M,.string M,.string M,.string M] 115
 have ga:O.heap.size<=W2.heap.size:=af.size
 obtain ⟨c,ap⟩:∃ c,(xs 5).length=c:=⟨_,rfl⟩
 obtain ⟨a3,q3,aa⟩:=fF (H.o.own 5 (by omega))
 rw [ap] at aa
 have fh:c<=3*N:=by have:=HX.o.2.2.2.2.1;omega
 have Q:∀ k,k < 9->(f k).ownBlock≠some d:=fun k l e=>by
  have:=hK d (HX.o.2.2.2.2.2.1 k l d e)
  omega
 have cf:Hi (∀ W,Fr [d] O W->W.cell? ⟨a,5,none⟩=some (.slice a3 c q3)/\W.frozen? ⟨a,5,none⟩=false/\W.ownsRow 0 51 1 (.slice a3 c q3) c (xs 5)/\BR W a f xs m/\BL W KL xs):=fun W hf=>by
  have S:=H.o.fr hf (by simp;omega) (fun k l g J=>by simp;intro e;subst e;exact Q k l J)
  have ao:∀ b∈KL,b∉[d]:=fun b hb e=>by
   have e':b=d:=by simpa using e
   subst e'
   have:=hK b (HX.o.2.2.2.2.2.2 b hb).1
   omega
  refine ⟨by rw [S.cell 5 (by omega),aa],S.fz 5,?_,S,cc.o.fr hf ao⟩
  have:=S.own 5 (by omega)
  rw [aa,ap] at this
  exact this
 have ar:Hi (a∉(Value.ownBlock (.slice a3 c q3)).toList):=fun e=>H.o.nb 5 (by omega) (by rw [aa];simpa using e)
 have ck:=aA aa
 have dt:=aA ap
 have ef:=aA Q
 clear af aa ap Q
 go_wp2_with (first
   | (
     at_builtin
     refine dR rfl (.tmp 34) (.tmp 36) 51 rfl base 115 ba (.agg #[.string ⟨#[]⟩,.string ⟨#[]⟩]) 2 32 Tryz.underlying51 dd de df bx rfl (.slice (so d) n i) n (aO 2 (cM (cF M)) n) rfl (bz.o _ _ ch.o) ⟨W2.heap.size,0,none⟩ 1 1 (aO 2 (cM (cF M)) 1) rfl rfl (dw.o W2) (au.o 1) (by unfold maxLen;omega) (by omega) (by simp;omega) (by omega) ?_
     intro v1 w3 P ag B
     obtain ⟨g1,c1,rfl⟩:=bK P (by omega)
     have ea:=aA P
     have dq:=aA ag
     have dl:Hi (eG (W2.alloc (.cells #[.string M,.string M] 115)) w3 (.slice (so d) n i) (.slice (so g1) (n+1) c1)):=B
     have bk:Fr [d] O w3:=(Zt.o.alloc _).trans (bE B) (fun x hx=>.inl hx)
     have dp:=aA bk
     have gb:W2.heap.size<=w3.heap.size:=(by have:=(bE B).size;simp at this;omega)
     obtain ⟨e0,e1⟩:=cm.o w3 bk
     clear P ag B bk)
   | (
     at_builtin
     refine dR rfl (.tmp 38) (.tmp 41) 51 rfl base 115 ba (.agg #[.string ⟨#[]⟩,.string ⟨#[]⟩]) 2 32 Tryz.underlying51 dd de df bx rfl (.slice (so d) n i) n (aO 2 (cM (cF M)) n) rfl (bz.o _ _ dq.o) ⟨w3.heap.size,0,none⟩ 2 2 (aO 2 (cM (cF M)) 2) rfl rfl (dx.o w3) (au.o 2) (by unfold maxLen;omega) (by omega) (by simp;omega) (by omega) ?_
     intro v2 A P ag B
     obtain ⟨g2,c2,rfl⟩:=bK P (by omega)
     have eb:=aA P
     have dr:=aA ag
     have dm:Hi (eG (w3.alloc (.cells #[.string M,.string M,.string M,.string M] 115)) A (.slice (so d) n i) (.slice (so g2) (n+2) c2)):=B
     have bl:Fr [d] O A:=(dp.o.alloc _).trans (bE B) (fun x hx=>.inl hx)
     have bd:=aA bl
     have gc:w3.heap.size<=A.heap.size:=(by have:=(bE B).size;simp at this;omega)
     obtain ⟨bp,dh,db,_,_⟩:=cf.o A bl
     have aw:a < A.heap.size:=aI bp
     have cj:Hi (A.ownsRow 0 51 1 (.slice a3 c q3) c (xs 5)):=db
     clear db
     clear P ag B bl)
   | (
     at_builtin
     have ee:Hi ((A.alloc (.cells #[Value.slice (so d) n i,.slice (so g1) (n+1) c1,.slice (so g2) (n+2) c2] 51)).ownsRow 0 51 1 (.slice a3 c q3) c (xs 5)):=World.ownsRow.alloc cj.o _
     refine dR rfl (.tmp 47) (.tmp 51) 65 rfl 0 51 dj (.slice none 0 0) 1 24 Tryz.underlying65 em ey ez fa rfl (.slice a3 c q3) c (xs 5) rfl ee.o ⟨A.heap.size,0,none⟩ 3 3 [Value.slice (so d) n i,.slice (so g1) (n+1) c1,.slice (so g2) (n+2) c2] rfl rfl (cU A _ 51) (by simp [Value.oneCell']) (by unfold maxLen;omega) (by omega) (by omega) (by omega) ?_
     intro v6 F ho l ha
     obtain ⟨E,D,rfl⟩:=bK ho (by omega)
     have br:=bE ha
     have bx:F.cell? ⟨a,5,none⟩=some (.slice a3 c q3):=(br.cell a 5 (by simp;omega) ar.o).trans ((((r0 [] A).alloc _).cell a 5 aw (by simp)).trans bp)
     have fo:F.frozen? ⟨a,5,none⟩=false:=(br.frozen a 5 (by simp;omega) ar.o).trans ((((r0 [] A).alloc _).frozen a 5 aw (by simp)).trans dh)
     obtain ⟨_,_,_,co,cu⟩:=cf.o A bd.o
     have dv:=aA cu
     have bm:Fr [] A (A.alloc (.cells #[Value.slice (so d) n i,.slice (so g1) (n+1) c1,.slice (so g2) (n+2) c2] 51)):=(r0 _ _).alloc _
     obtain ⟨L4,bn⟩:∃ L,L=[Value.slice (so d) n i,.slice (so g1) (n+1) c1,.slice (so g2) (n+2) c2]:=⟨_,rfl⟩
     obtain ⟨y,cp⟩:=(co.fr bm (by simp) (by simp)).push 5 (by omega) (.slice (so E) (c+3) D) L4 (by rw [bn,dt.o];exact ho) (by rw [ck.o];exact ha)
     have ce:Hi (Fr (a :: (f 5).ownBlock.toList) A (F.setCell ⟨a,5,none⟩ (.slice (so E) (c+3) D))):=bm.of0.trans cp (fun x hx=>.inl hx)
     have cg:Hi (∀ g,Value.ownBlock (.slice (so E) (c+3) D)=some g->(f 5).ownBlock=some g\/A.heap.size<=g):=fun g J=>by
       rcases fE ha g J with q|q
       ·exact .inl (by rw [ck.o];exact q)
       simp at q;exact .inr (by omega)
     obtain ⟨C,bt⟩:∃ C,(xs 7).length=C:=⟨_,rfl⟩
     have ai:=y.own 7 (by omega)
     rw [show aK xs 5 (xs 5 ++ L4) 7=xs 7 from rfl,show aK f 5 (.slice (so E) (c+3) D) 7=f 7 from rfl,bt] at ai
     obtain ⟨a4,q4,aj⟩:=fF ai
     rw [aj] at ai
     have fi:C<=3*N:=by have:=HX.o.2.2.2.2.1;have:=HX.o.2.1;omega
     have ft:F.cell? ⟨a,7,none⟩=some (.slice a4 C q4):=by
       have q:=y.cell 7 (by omega)
       rw [cA _ _ _ _ _ _ (.inr (by omega)),show aK f 5 (.slice (so E) (c+3) D) 7=f 7 from rfl,aj] at q
       exact q
     have az:(F.setCell ⟨a,5,none⟩ (.slice (so E) (c+3) D)).heap.size=F.heap.size:=by simp [World.setCell]
     have ec:Hi (((F.setCell ⟨a,5,none⟩ (.slice (so E) (c+3) D)).alloc (.cells #[Value.string M,.string M,.string M] 9)).ownsRow 0 9 1 (.slice a4 C q4) C (xs 7)):=World.ownsRow.alloc ai _
     have dz:Hi (∀ (j:Nat) (u:Value),[Value.string M,.string M,.string M][j]?=some u->((F.setCell ⟨a,5,none⟩ (.slice (so E) (c+3) D)).alloc (.cells #[Value.string M,.string M,.string M] 9)).cell? ((⟨F.heap.size,0,none⟩:Addr).add j)=some u):=by
       have q:=cU (F.setCell ⟨a,5,none⟩ (.slice (so E) (c+3) D)) [Value.string M,.string M,.string M] 9
       rw [az] at q
       exact q
     have Zq:Hi (a∉(Value.ownBlock (.slice a4 C q4)).toList):=fun e=>y.nb 7 (by omega) (by rw [show aK f 5 (.slice (so E) (c+3) D) 7=f 7 from rfl,aj];simpa using e)
     have bc:=aA y
     have bf:=aA aj
     have du:=aA bt
     have be:=aA bn
     have cz:a < F.heap.size:=by have:=y.lt;omega
     clear co cu bm y cp ai aj bt bn ho l ha br bp dh)
   | (
     at_builtin
     refine dR rfl (.tmp 59) (.tmp 63) 38 rfl 0 9 di (.string ⟨#[]⟩) 1 16 Tryz.underlying38 el fb fc fd rfl (.slice a4 C q4) C (xs 7) rfl ec.o ⟨F.heap.size,0,none⟩ 3 3 [Value.string M,.string M,.string M] rfl rfl dz.o (by simp [Value.oneCell']) (by unfold maxLen;omega) (by omega) (by omega) (by omega) ?_
     intro v9 w9 ho l ha
     obtain ⟨g9,c9,rfl⟩:=bK ho (by omega)
     have al:Hi (Fr [] (F.setCell ⟨a,5,none⟩ (.slice (so E) (c+3) D)) ((F.setCell ⟨a,5,none⟩ (.slice (so E) (c+3) D)).alloc (.cells #[Value.string M,.string M,.string M] 9))):=(r0 _ _).alloc _
     have an:a < (F.setCell ⟨a,5,none⟩ (.slice (so E) (c+3) D)).heap.size:=by rw [az];exact cz
     have bo:a < ((F.setCell ⟨a,5,none⟩ (.slice (so E) (c+3) D)).alloc (.cells #[Value.string M,.string M,.string M] 9)).heap.size:=Nat.lt_of_lt_of_le an al.o.size
     have fu:w9.cell? ⟨a,7,none⟩=some (.slice a4 C q4):=((bE ha).cell a 7 bo Zq.o).trans ((al.o.cell a 7 an (by simp)).trans ((bc.o.cell 7 (by omega)).trans (by rw [show aK f 5 (.slice (so E) (c+3) D) 7=f 7 from rfl,bf.o])))
     have gf:w9.frozen? ⟨a,7,none⟩=false:=((bE ha).frozen a 7 bo Zq.o).trans ((al.o.frozen a 7 an (by simp)).trans (bc.o.fz 7))
     have ed:=aA ho
     have dn:Hi (eG ((F.setCell ⟨a,5,none⟩ (.slice (so E) (c+3) D)).alloc (.cells #[Value.string M,.string M,.string M] 9)) w9 (.slice a4 C q4) (.slice (so g9) (C+3) c9)):=ha
     clear ho l ha an bo))
 refine bodyPost_end (v:=.tuple #[]) (results_none rfl _ _ _) rfl ⟨rfl,?_⟩
 show OwnP w a N K [d] _
 obtain ⟨KS,cq,cr,en,eo,ep⟩:=mN (oO (cF M)) ea.o dl.o dr.o eb.o dm.o
 have eh:∀ u∈L4,MkR A KS u (cF M):=fun u hu=>by
  rw [be.o] at hu
  simp only [mem_cons,not_mem_nil,or_false] at hu
  rcases hu with rfl|rfl|rfl
  ·exact Mkg.rows (cs:=cF M) en (by omega)
  ·exact Mkg.rows (cs:=cF M) eo (by omega)
  exact Mkg.rows (cs:=cF M) ep (by omega)
 have ct:∀ b∈KS,b=d\/W2.heap.size<=b:=fun b hb=>by
  rcases cq b hb with q|q
  ·simp [Value.ownBlock] at q;exact .inl q.symm
  exact .inr q
 obtain ⟨x3,x4,x5,x6,x7,Zs,fe⟩:=HX.o
 obtain ⟨v3,ew⟩:∃ v,v=Value.slice (so E) (c+3) D:=⟨_,rfl⟩
 obtain ⟨W7,ei⟩:∃ W,W=F.setCell ⟨a,5,none⟩ (.slice (so E) (c+3) D):=⟨_,rfl⟩
 have y:=bc.o
 have ad:=ce.o
 have X:=al.o
 have ha:=dn.o
 have ay:=cg.o
 have ho:=ed.o
 rw [<- ei] at y ad X ha
 rw [<- ew] at y ay
 obtain ⟨I,av⟩:=(y.fr X (by simp) (by simp)).push 7 (by omega) (.slice (so g9) (C+3) c9) [Value.string M,.string M,.string M] (by rw [show aK xs 5 (xs 5 ++ L4) 7=xs 7 from rfl,du.o];exact ho) (by rw [show aK f 5 v3 7=f 7 from rfl,bf.o];exact ha)
 rw [show aK f 5 v3 7=f 7 from rfl] at av
 rw [show aK xs 5 (xs 5 ++ L4) 7=xs 7 from rfl] at I
 have R:Fr (a :: ((f 5).ownBlock.toList ++ (f 7).ownBlock.toList)) A (w9.setCell ⟨a,7,none⟩ (.slice (so g9) (C+3) c9)) :=
  ((ad.mono (fun x hx=>.inl (by rcases mem_cons.1 hx with q|q <;> simp_all))).then0 X).trans av (fun x hx=>.inl (by rcases mem_cons.1 hx with q|q <;> simp_all))
 obtain ⟨WT,ej⟩:∃ W,W=w9.setCell ⟨a,7,none⟩ (.slice (so g9) (C+3) c9):=⟨_,rfl⟩
 rw [<- ej] at I R |-
 have gd:=R.size
 have s:∀ k,k < 9->∀ g,(f k).ownBlock=some g->g < O.heap.size:=fun k l g J=>((H.o.own k l).lt g J).2
 have fk:w.heap.size<=O.heap.size:=by have:=bi.o;have:=Zr.o.size;omega
 have fl:=ad.size
 have fn:=X.size
 have cw:L4.length=3:=by rw [be.o];rfl
 have fg:=H.o.lt
 have fm:=bd.o.size
 have p:∀ b∈KL ++ KS,b≠a/\(∀ k,k < 9->(f k).ownBlock≠some b)/\(b∈K\/b∈[d]\/w.heap.size<=b)/\b < A.heap.size:=fun b hb=>by
  rcases mem_append.1 hb with q|q
  ·obtain ⟨t1,t2⟩:=fe b q
   exact ⟨fun e=>dy.o (e ▸ t1),t2,.inl t1,by have:=ds.o b t1;omega⟩
  have cy:=cr b q
  rcases ct b q with r|r
  ·subst r
   exact ⟨fun e=>ek e.symm,ef.o,.inr (.inl (by simp)),cy⟩
  exact ⟨by omega,fun k l e=>by have:=s k l b e;omega,.inr (.inr (by omega)),cy⟩
 have dk:∀ b,b≠a->(∀ k,k < 9->(f k).ownBlock≠some b)->b∉a :: ((f 5).ownBlock.toList ++ (f 7).ownBlock.toList):=fun b h1 h2 hm=>by
  rcases mem_cons.1 hm with q|q
  ·exact h1 q
  rcases mem_append.1 q with q|q
  ·exact h2 5 (by omega) (by simpa using q)
  exact h2 7 (by omega) (by simpa using q)
 have eg:BL WT (KL ++ KS) (aK (aK xs 5 (xs 5 ++ L4)) 7 (xs 7 ++ [Value.string M,.string M,.string M])):=by
  have q:=((dv.o.up (K':=KL ++ KS) (fun b hb=>mem_append_left _ hb)).files x4.2.1 L4 M (fun u hu=>(eh u hu).up (fun b hb=>mem_append_right _ hb))).fr R (fun b hb=>dk b (p b hb).1 (p b hb).2.1)
  rw [show (L4.map fun _=>Value.string M)=[Value.string M,.string M,.string M] by rw [be.o];rfl] at q
  exact q
 have Y:∀ k,k < 9->∀ g,(aK (aK f 5 v3) 7 (.slice (so g9) (C+3) c9) k).ownBlock=some g->(∃ k',k' < 9/\(f k').ownBlock=some g)\/A.heap.size<=g:=fun k l g J=>by
  by_cases k4:k=7
  ·subst k4
   rw [gA] at J
   rcases fE ha g J with q|q
   ·exact .inl ⟨7,by omega,by rw [bf.o];exact q⟩
   exact .inr (by omega)
  rw [fW _ _ k4] at J
  by_cases k3:k=5
  ·subst k3
   rw [gA] at J
   rcases ay g J with q|q
   · exact .inl ⟨5,by omega,q⟩
   exact .inr q
  rw [fW _ _ k3] at J
  exact .inl ⟨k,l,J⟩
 have t:∀ b,b∈(range 9).filterMap (fun k=>(aK (aK f 5 v3) 7 (.slice (so g9) (C+3) c9) k).ownBlock)->∃ k,k < 9/\(aK (aK f 5 v3) 7 (.slice (so g9) (C+3) c9) k).ownBlock=some b:=fun b hb=>by
  obtain ⟨k,l,e⟩:=mem_filterMap.1 hb
  exact ⟨k,mem_range.1 l,e⟩
 refine ⟨⟨(KL ++ KS) ++ (range 9).filterMap (fun k=>(aK (aK f 5 v3) 7 (.slice (so g9) (C+3) c9) k).ownBlock),⟨⟨_,_,m,KL ++ KS,I,eg,x3,?_,?_,?_,?_,?_,er.2,fun k l g J=>?_,fun b hb=>⟨mem_append_left _ hb,fun k l e=>?_⟩⟩,fun hm=>?_,fun b hb=>?_⟩,fun b hb=>?_⟩,?_⟩
 ·refine ⟨x4.1,?_,x4.2.2⟩
  show (xs 5 ++ L4).length=(xs 7 ++ [Value.string M,.string M,.string M]).length
  rw [length_append,length_append,cw,x4.2.1]
  rfl
 ·show (xs 0).length<=_
  omega
 ·show (xs 2).length<=_
  omega
 ·show (xs 3).length<=_/\(xs 5 ++ L4).length<=_/\(xs 6).length<=_
  rw [length_append,cw]
  omega
 ·omega
 ·exact mem_append_right _ (mem_filterMap.2 ⟨k,mem_range.2 l,J⟩)
 ·rcases Y k l b e with ⟨k',bs,q⟩|q
  ·exact (p b hb).2.1 k' bs q
  have:=(p b hb).2.2.2;omega
 ·rcases mem_append.1 hm with q|q
  ·exact (p a q).1 rfl
  obtain ⟨k,l,e⟩:=t a q
  exact I.nb k l e
 ·rcases mem_append.1 hb with q|q
  ·have:=(p b q).2.2.2;omega
  obtain ⟨k,l,e⟩:=t b q
  exact ((I.own k l).lt b e).2
 ·rcases mem_append.1 hb with q|q
  ·exact (p b q).2.2.1
  obtain ⟨k,l,e⟩:=t b q
  rcases Y k l b e with ⟨k',bs,r⟩|r
  ·exact .inl (Zs k' bs b r)
  exact .inr (.inr (by omega))
 refine (((cd.o.mono (fun x hx=>.inl (by simp_all))).then0 Zr.o).trans bd.o (fun b hb=>.inl (by simp_all))).trans R (fun b hb=>?_)
 rcases mem_cons.1 hb with q|q
 ·exact .inl (by simp [q])
 rcases mem_append.1 q with q|q
 ·exact .inl (by simp [Zs 5 (by omega) b (by simpa using q)])
 exact .inl (by simp [Zs 7 (by omega) b (by simpa using q)])
theorem JK:(Tryz.prog.info? 113).map (fun i=>(i.zero,i.size,i.bytes))=some (some (.agg #[ii 0,.string ⟨#[]⟩,.string ⟨#[]⟩,.string ⟨#[]⟩]),4,56):=by kernel_rfl
theorem JN:(Tryz.prog.info? 34).map (fun i=>(i.zero,i.size,i.bytes))=some (some (.slice none 0 0),1,24):=by kernel_rfl
theorem JR:(Tryz.prog.info? 9).map (fun i=>(i.zero,i.size,i.bytes))=some (some (.string ⟨#[]⟩),1,16):=by kernel_rfl
theorem OD (a N n base:Nat)(K:List Nat)(v:Value)(ad:List Value)(w:World)(h:Bk w a K N)(hN:N<=2200000)(s:w.ownsRow base 113 4 v n ad)(es:0 < n)(fw:n<=10000010)(fq:a < base)(hK:∀ x∈K,x < base) :
  Cs 68 #[.pointer (so a),v] w fun e w'=>e=.returned (.tuple #[])/\OwnP w a N K v.ownBlock.toList w':=by
 obtain ⟨ba,dd,de,df,bx⟩:=info_parts JK
 obtain ⟨di,el,fb,fc,fd⟩:=info_parts JR
 obtain ⟨dj,em,ey,ez,fa⟩:=info_parts JN
 obtain ⟨d,i,rfl⟩:=bK s es
 have ax:ad.length=n*4:=s.1
 obtain ⟨fx,fy⟩:base<=d/\d < w.heap.size:=s.lt d rfl
 obtain ⟨⟨f,xs,nx,KL,h1,h2,h3,h4,h5,h6,h7,h8,h9,cn,bj⟩,bv,ao⟩:=h
 have et:=h1.nxt
 have eu:=h1.fz 9
 have fs:=h1.lt
 have ek:a≠d:=by omega
 obtain ⟨m,hm⟩:∃ m,m=nx - 1:=⟨_,rfl⟩
 obtain ⟨W0,af⟩:∃ W,W=w.setCell ⟨a,9,none⟩ (.int .i64 m):=⟨_,rfl⟩
 have X:Fr [a] w W0:=by rw [af];exact (r0 _ _).setCell _ _ (by simp)
 have ac:Hi (BR W0 a f xs m):=by
  show BR W0 a f xs m
  rw [af];exact h1.mark m
 have cb:Hi (BL W0 KL xs):=h2.fr X (fun b hb e=>bv (by
           have:b=a:=by simpa using e
           subst this;exact (bj b hb).1))
 have bg:Hi (W0.ownsRow base 113 4 (.slice (so d) n i) n ad):=aF s X (fun g O e=>by simp [Value.ownBlock] at O e;omega)
 have HX:=(show Hi _ from And.intro h3 (And.intro h4 (And.intro h5 (And.intro h6 (And.intro h7 (And.intro cn bj))))))
 have dy:=aA bv
 have ds:=aA ao
 have er:-(3*(N:Int)) - 1<=m/\m<=0:=by omega
 have HM:=aA hm
 have cd:=aA X
 have dc:w.heap.size=W0.heap.size:=by rw [af];simp [World.setCell]
 have bi:=aA dc
 have ff:a < W0.heap.size:=ac.o.lt
 have eq:ca W0 a 9 (ii m):=ac.o.nxt
 have CM:=(show Hi _ from wY m (by omega) W0)
 clear h1 h2 h3 h4 h5 h6 h7 cn bj bv ao X s dc
 go_enter Tryz.func68,Tryz.ntmps68
 go_wp2_with fail
 rw [<- hm,<- af]
 clear hm af et eu
 go_wp2_with fail
 refine Calls.mono CM.o ?_
 rintro e wm ⟨M,rfl,bq⟩
 have ev:=bq.size
 obtain ⟨P,am⟩:∃ W,W=wm.alloc (.cells #[ii (-1),.string M,.string M,.string M] 113):=⟨_,rfl⟩
 have z:Fr [] W0 P:=by rw [am];exact bq.alloc _
 have aq:P.heap[wm.heap.size]?=some (.cells #[ii (-1),.string M,.string M,.string M] 113):=by rw [am];exact aC _ _
 have fj:=z.size
 have ex:wm.heap.size < P.heap.size:=aH aq
 obtain ⟨xb,dg⟩:∃ x,x=wm.heap.size:=⟨_,rfl⟩
 clear CM
 go_wp2_with fail
 rw [<- am]
 rw [<- dg] at aq ex ev |-
 have Zr:=aA z
 have bh:Hi (P.ownsRow base 113 4 (.slice (so d) n i) n ad):=aF bg.o z (by simp)
 have I:Hi (BR P a f xs m):=ac.o.fr z (by simp) (by simp)
 have cc:Hi (BL P KL xs):=cb.o.fr z (by simp)
 have ge:xb≠d:=by have:=bi.o;omega
 have cm:Hi (∀ W,Fr [d] P W->W.cell? ⟨xb,0,none⟩=some (ii (-1))/\W.cell? ⟨xb,1,none⟩=some (.string M)/\W.cell? ⟨xb,2,none⟩=some (.string M)/\W.cell? ⟨xb,3,none⟩=some (.string M)):=fun W hf=>by
  have hh:=hf.heap aq (by simp;omega)
  exact ⟨aB hh,aB hh,aB hh,aB hh⟩
 clear z aq eq am dg bq
 go_loopw [6] (fun j wr=>∃ k:Nat,k<=n/\j=.int .i64 k/\FillG P base n d i 113 ad (cS M) k wr) (fun j _=>n - (intOf j).toNat)
 case atStart=>exact ⟨0,Nat.zero_le _,rfl,by simpa [aO] using bh.o,r0 _ _⟩
 obtain ⟨k,l,rfl,hI⟩:=hrel
 obtain ⟨e0,e1,e2,e3⟩:=cm.o wr hI.fr
 by_cases ai:k < n
 ·have bu:(k:Int) < (n:Int):=by omega
  have C:=hI.there ai
  obtain ⟨o0,d0⟩:=Option.isSome_iff_exists.1 (C 0 (by simp)).1
  obtain ⟨o1,d1⟩:=Option.isSome_iff_exists.1 (C 1 (by simp)).1
  obtain ⟨o2,d2⟩:=Option.isSome_iff_exists.1 (C 2 (by simp)).1
  obtain ⟨o3,d3⟩:=Option.isSome_iff_exists.1 (C 3 (by simp)).1
  have z0:=(C 0 (by simp)).2
  have z1:=(C 1 (by simp)).2
  have z2:=(C 2 (by simp)).2
  have z3:=(C 3 (by simp)).2
  simp only [length_cons,length_nil,Nat.zero_add,Nat.reduceAdd,Nat.add_zero] at d0 z0 d1 z1 d2 z2 d3 z3
  have HP:=(show Hi _ from hI.put ai ax)
  clear hI C
  go_wp2_with fail
  go_roundw
  case rel=>exact ⟨k+1,ai,by go_num,HP.o⟩
  case measure=>simp [intOf];omega
 have bu:¬ (k:Int) < (n:Int):=by omega
 have da:k=n:=by omega
 obtain ⟨bw,ag⟩:=hI
 rw [da,drop_of_length_le (by rw [ax];exact Nat.le_refl _),append_nil] at bw
 have ch:Hi (wr.ownsRow base 113 4 (.slice (so d) n i) n (aO 4 (cM (cS M)) n)):=bw
 clear da bw
 obtain ⟨W2,cx⟩:∃ W,W=wr:=⟨_,rfl⟩
 rw [<- cx] at ch ag e0 e1 e2 e3 |-
 clear cx
 have fp:base<=W2.heap.size:=by have:=ag.size;have:=bi.o;omega
 have Zt:Hi (Fr [d] P W2):=ag
 have au:Hi (∀ k,∀ u∈aO 4 (cM (cS M)) k,u.oneCell'=true):=fun k u hu=>by
  obtain ⟨j,_,rfl⟩:=mem_map.1 hu
  have hj:j % 4 < 4:=Nat.mod_lt _ (by omega)
  have:j % 4=0\/j % 4=1\/j % 4=2\/j % 4=3:=by omega
  show Value.oneCell' ((cS M).getD (j % 4) (ii 0))=true
  rcases this with e|e|e|e <;> (rw [e];rfl)
 have bz:Hi (∀ (W:World) (cs:Array Value),W.ownsRow base 113 4 (.slice (so d) n i) n (aO 4 (cM (cS M)) n)->(W.alloc (.cells cs 113)).ownsRow base 113 4 (.slice (so d) n i) n (aO 4 (cM (cS M)) n)):=fun W cs h=>h.alloc _
 have dw:Hi (∀ (W:World) (j:Nat) (u:Value),(aO 4 (cM (cS M)) 1)[j]?=some u->(W.alloc (.cells #[ii (-1),.string M,.string M,.string M] 113)).cell? ((⟨W.heap.size,0,none⟩:Addr).add j)=some u):=fun W=>cU W (aO 4 (cM (cS M)) 1) 113
 have dx:Hi (∀ (W:World) (j:Nat) (u:Value),(aO 4 (cM (cS M)) 2)[j]?=some u->(W.alloc (.cells #[ii (-1),.string M,.string M,.string M,ii (-1),.string M,.string M,.string M] 113)).cell? ((⟨W.heap.size,0,none⟩:Addr).add j)=some u):=fun W=>by
  have e:aO 4 (cM (cS M)) 2=[ii (-1),.string M,.string M,.string M,ii (-1),.string M,.string M,.string M]:=yJ (cS M)
  rw [e]
  exact cU W [ii (-1),.string M,.string M,.string M,ii (-1),.string M,.string M,.string M] 113
 have ga:P.heap.size<=W2.heap.size:=ag.size
 obtain ⟨c,ap⟩:∃ c,(xs 6).length=c:=⟨_,rfl⟩
 obtain ⟨a3,q3,ab⟩:=fF (I.o.own 6 (by omega))
 rw [ap] at ab
 have fh:c<=3*N:=by have:=HX.o.2.2.2.2.1;omega
 have R:∀ k,k < 9->(f k).ownBlock≠some d:=fun k l e=>by
  have:=hK d (HX.o.2.2.2.2.2.1 k l d e)
  omega
 have cf:Hi (∀ W,Fr [d] P W->W.cell? ⟨a,6,none⟩=some (.slice a3 c q3)/\W.frozen? ⟨a,6,none⟩=false/\W.ownsRow 0 34 1 (.slice a3 c q3) c (xs 6)/\BR W a f xs m/\BL W KL xs):=fun W hf=>by
  have V:=I.o.fr hf (by simp;omega) (fun k l g O=>by simp;intro e;subst e;exact R k l O)
  have ao:∀ b∈KL,b∉[d]:=fun b hb e=>by
   have e':b=d:=by simpa using e
   subst e'
   have:=hK b (HX.o.2.2.2.2.2.2 b hb).1
   omega
  refine ⟨by rw [V.cell 6 (by omega),ab],V.fz 6,?_,V,cc.o.fr hf ao⟩
  have:=V.own 6 (by omega)
  rw [ab,ap] at this
  exact this
 have ar:Hi (a∉(Value.ownBlock (.slice a3 c q3)).toList):=fun e=>I.o.nb 6 (by omega) (by rw [ab];simpa using e)
 have ck:=aA ab
 have dt:=aA ap
 have ef:=aA R
 clear ag ab ap R
 go_wp2_with (first
   | (
     at_builtin
     refine dR rfl (.tmp 35) (.tmp 37) 34 rfl base 113 ba (.agg #[ii 0,.string ⟨#[]⟩,.string ⟨#[]⟩,.string ⟨#[]⟩]) 4 56 Tryz.underlying34 dd de df bx rfl (.slice (so d) n i) n (aO 4 (cM (cS M)) n) rfl (bz.o _ _ ch.o) ⟨W2.heap.size,0,none⟩ 1 1 (aO 4 (cM (cS M)) 1) rfl rfl (dw.o W2) (au.o 1) (by unfold maxLen;omega) (by omega) (by simp;omega) (by omega) ?_
     intro v1 w3 Q ah B
     obtain ⟨g1,c1,rfl⟩:=bK Q (by omega)
     have ea:=aA Q
     have dq:=aA ah
     have dl:Hi (eG (W2.alloc (.cells #[ii (-1),.string M,.string M,.string M] 113)) w3 (.slice (so d) n i) (.slice (so g1) (n+1) c1)):=B
     have bk:Fr [d] P w3:=(Zt.o.alloc _).trans (bE B) (fun x hx=>.inl hx)
     have dp:=aA bk
     have gb:W2.heap.size<=w3.heap.size:=(by have:=(bE B).size;simp at this;omega)
     obtain ⟨e0,e1,e2,e3⟩:=cm.o w3 bk
     clear Q ah B bk)
   | (
     at_builtin
     refine dR rfl (.tmp 39) (.tmp 42) 34 rfl base 113 ba (.agg #[ii 0,.string ⟨#[]⟩,.string ⟨#[]⟩,.string ⟨#[]⟩]) 4 56 Tryz.underlying34 dd de df bx rfl (.slice (so d) n i) n (aO 4 (cM (cS M)) n) rfl (bz.o _ _ dq.o) ⟨w3.heap.size,0,none⟩ 2 2 (aO 4 (cM (cS M)) 2) rfl rfl (dx.o w3) (au.o 2) (by unfold maxLen;omega) (by omega) (by simp;omega) (by omega) ?_
     intro v2 A Q ah B
     obtain ⟨g2,c2,rfl⟩:=bK Q (by omega)
     have eb:=aA Q
     have dr:=aA ah
     have dm:Hi (eG (w3.alloc (.cells #[ii (-1),.string M,.string M,.string M,ii (-1),.string M,.string M,.string M] 113)) A (.slice (so d) n i) (.slice (so g2) (n+2) c2)):=B
     have bl:Fr [d] P A:=(dp.o.alloc _).trans (bE B) (fun x hx=>.inl hx)
     have bd:=aA bl
     have gc:w3.heap.size<=A.heap.size:=(by have:=(bE B).size;simp at this;omega)
     obtain ⟨bp,dh,db,_,_⟩:=cf.o A bl
     have aw:a < A.heap.size:=aI bp
     have cj:Hi (A.ownsRow 0 34 1 (.slice a3 c q3) c (xs 6)):=db
     clear db
     clear Q ah B bl)
   | (
     at_builtin
     have ee:Hi ((A.alloc (.cells #[Value.slice (so d) n i,.slice (so g1) (n+1) c1,.slice (so g2) (n+2) c2] 34)).ownsRow 0 34 1 (.slice a3 c q3) c (xs 6)):=World.ownsRow.alloc cj.o _
     refine dR rfl (.tmp 48) (.tmp 52) 66 rfl 0 34 dj (.slice none 0 0) 1 24 Tryz.underlying66 em ey ez fa rfl (.slice a3 c q3) c (xs 6) rfl ee.o ⟨A.heap.size,0,none⟩ 3 3 [Value.slice (so d) n i,.slice (so g1) (n+1) c1,.slice (so g2) (n+2) c2] rfl rfl (cU A _ 34) (by simp [Value.oneCell']) (by unfold maxLen;omega) (by omega) (by omega) (by omega) ?_
     intro v6 H ho l ha
     obtain ⟨F,E,rfl⟩:=bK ho (by omega)
     have br:=bE ha
     have bx:H.cell? ⟨a,6,none⟩=some (.slice a3 c q3):=(br.cell a 6 (by simp;omega) ar.o).trans ((((r0 [] A).alloc _).cell a 6 aw (by simp)).trans bp)
     have fo:H.frozen? ⟨a,6,none⟩=false:=(br.frozen a 6 (by simp;omega) ar.o).trans ((((r0 [] A).alloc _).frozen a 6 aw (by simp)).trans dh)
     obtain ⟨_,_,_,co,cu⟩:=cf.o A bd.o
     have dv:=aA cu
     have bm:Fr [] A (A.alloc (.cells #[Value.slice (so d) n i,.slice (so g1) (n+1) c1,.slice (so g2) (n+2) c2] 34)):=(r0 _ _).alloc _
     obtain ⟨L4,bn⟩:∃ L,L=[Value.slice (so d) n i,.slice (so g1) (n+1) c1,.slice (so g2) (n+2) c2]:=⟨_,rfl⟩
     obtain ⟨y,cp⟩:=(co.fr bm (by simp) (by simp)).push 6 (by omega) (.slice (so F) (c+3) E) L4 (by rw [bn,dt.o];exact ho) (by rw [ck.o];exact ha)
     have ce:Hi (Fr (a :: (f 6).ownBlock.toList) A (H.setCell ⟨a,6,none⟩ (.slice (so F) (c+3) E))):=bm.of0.trans cp (fun x hx=>.inl hx)
     have cg:Hi (∀ g,Value.ownBlock (.slice (so F) (c+3) E)=some g->(f 6).ownBlock=some g\/A.heap.size<=g):=fun g O=>by
       rcases fE ha g O with q|q
       ·exact .inl (by rw [ck.o];exact q)
       simp at q;exact .inr (by omega)
     obtain ⟨D,bt⟩:∃ D,(xs 8).length=D:=⟨_,rfl⟩
     have aj:=y.own 8 (by omega)
     rw [show aK xs 6 (xs 6 ++ L4) 8=xs 8 from rfl,show aK f 6 (.slice (so F) (c+3) E) 8=f 8 from rfl,bt] at aj
     obtain ⟨a4,q4,ak⟩:=fF aj
     rw [ak] at aj
     have fi:D<=3*N:=by have:=HX.o.2.2.2.2.1;have:=HX.o.2.1;omega
     have ft:H.cell? ⟨a,8,none⟩=some (.slice a4 D q4):=by
       have q:=y.cell 8 (by omega)
       rw [cA _ _ _ _ _ _ (.inr (by omega)),show aK f 6 (.slice (so F) (c+3) E) 8=f 8 from rfl,ak] at q
       exact q
     have az:(H.setCell ⟨a,6,none⟩ (.slice (so F) (c+3) E)).heap.size=H.heap.size:=by simp [World.setCell]
     have ec:Hi (((H.setCell ⟨a,6,none⟩ (.slice (so F) (c+3) E)).alloc (.cells #[Value.string M,.string M,.string M] 9)).ownsRow 0 9 1 (.slice a4 D q4) D (xs 8)):=World.ownsRow.alloc aj _
     have dz:Hi (∀ (j:Nat) (u:Value),[Value.string M,.string M,.string M][j]?=some u->((H.setCell ⟨a,6,none⟩ (.slice (so F) (c+3) E)).alloc (.cells #[Value.string M,.string M,.string M] 9)).cell? ((⟨H.heap.size,0,none⟩:Addr).add j)=some u):=by
       have q:=cU (H.setCell ⟨a,6,none⟩ (.slice (so F) (c+3) E)) [Value.string M,.string M,.string M] 9
       rw [az] at q
       exact q
     have Zq:Hi (a∉(Value.ownBlock (.slice a4 D q4)).toList):=fun e=>y.nb 8 (by omega) (by rw [show aK f 6 (.slice (so F) (c+3) E) 8=f 8 from rfl,ak];simpa using e)
     have bc:=aA y
     have bf:=aA ak
     have du:=aA bt
     have be:=aA bn
     have cz:a < H.heap.size:=by have:=y.lt;omega
     clear co cu bm y cp aj ak bt bn ho l ha br bp dh)
   | (
     at_builtin
     refine dR rfl (.tmp 60) (.tmp 64) 38 rfl 0 9 di (.string ⟨#[]⟩) 1 16 Tryz.underlying38 el fb fc fd rfl (.slice a4 D q4) D (xs 8) rfl ec.o ⟨H.heap.size,0,none⟩ 3 3 [Value.string M,.string M,.string M] rfl rfl dz.o (by simp [Value.oneCell']) (by unfold maxLen;omega) (by omega) (by omega) (by omega) ?_
     intro v9 w9 ho l ha
     obtain ⟨g9,c9,rfl⟩:=bK ho (by omega)
     have al:Hi (Fr [] (H.setCell ⟨a,6,none⟩ (.slice (so F) (c+3) E)) ((H.setCell ⟨a,6,none⟩ (.slice (so F) (c+3) E)).alloc (.cells #[Value.string M,.string M,.string M] 9))):=(r0 _ _).alloc _
     have an:a < (H.setCell ⟨a,6,none⟩ (.slice (so F) (c+3) E)).heap.size:=by rw [az];exact cz
     have bo:a < ((H.setCell ⟨a,6,none⟩ (.slice (so F) (c+3) E)).alloc (.cells #[Value.string M,.string M,.string M] 9)).heap.size:=Nat.lt_of_lt_of_le an al.o.size
     have fu:w9.cell? ⟨a,8,none⟩=some (.slice a4 D q4):=((bE ha).cell a 8 bo Zq.o).trans ((al.o.cell a 8 an (by simp)).trans ((bc.o.cell 8 (by omega)).trans (by rw [show aK f 6 (.slice (so F) (c+3) E) 8=f 8 from rfl,bf.o])))
     have gf:w9.frozen? ⟨a,8,none⟩=false:=((bE ha).frozen a 8 bo Zq.o).trans ((al.o.frozen a 8 an (by simp)).trans (bc.o.fz 8))
     have ed:=aA ho
     have dn:Hi (eG ((H.setCell ⟨a,6,none⟩ (.slice (so F) (c+3) E)).alloc (.cells #[Value.string M,.string M,.string M] 9)) w9 (.slice a4 D q4) (.slice (so g9) (D+3) c9)):=ha
     clear ho l ha an bo))
 refine bodyPost_end (v:=.tuple #[]) (results_none rfl _ _ _) rfl ⟨rfl,?_⟩
 show OwnP w a N K [d] _
 obtain ⟨KS,cq,cr,en,eo,ep⟩:=mN (oO (cS M)) ea.o dl.o dr.o eb.o dm.o
 have eh:∀ u∈L4,MkR A KS u (cS M):=fun u hu=>by
  rw [be.o] at hu
  simp only [mem_cons,not_mem_nil,or_false] at hu
  rcases hu with rfl|rfl|rfl
  ·exact Mkg.rows (cs:=cS M) en (by omega)
  ·exact Mkg.rows (cs:=cS M) eo (by omega)
  exact Mkg.rows (cs:=cS M) ep (by omega)
 have ct:∀ b∈KS,b=d\/W2.heap.size<=b:=fun b hb=>by
  rcases cq b hb with q|q
  ·simp [Value.ownBlock] at q;exact .inl q.symm
  exact .inr q
 obtain ⟨x3,x4,x5,x6,x7,Zs,fe⟩:=HX.o
 obtain ⟨v3,ew⟩:∃ v,v=Value.slice (so F) (c+3) E:=⟨_,rfl⟩
 obtain ⟨W7,ei⟩:∃ W,W=H.setCell ⟨a,6,none⟩ (.slice (so F) (c+3) E):=⟨_,rfl⟩
 have y:=bc.o
 have ae:=ce.o
 have Y:=al.o
 have ha:=dn.o
 have ay:=cg.o
 have ho:=ed.o
 rw [<- ei] at y ae Y ha
 rw [<- ew] at y ay
 obtain ⟨J,av⟩:=(y.fr Y (by simp) (by simp)).push 8 (by omega) (.slice (so g9) (D+3) c9) [Value.string M,.string M,.string M] (by rw [show aK xs 6 (xs 6 ++ L4) 8=xs 8 from rfl,du.o];exact ho) (by rw [show aK f 6 v3 8=f 8 from rfl,bf.o];exact ha)
 rw [show aK f 6 v3 8=f 8 from rfl] at av
 rw [show aK xs 6 (xs 6 ++ L4) 8=xs 8 from rfl] at J
 have S:Fr (a :: ((f 6).ownBlock.toList ++ (f 8).ownBlock.toList)) A (w9.setCell ⟨a,8,none⟩ (.slice (so g9) (D+3) c9)) :=
  ((ae.mono (fun x hx=>.inl (by rcases mem_cons.1 hx with q|q <;> simp_all))).then0 Y).trans av (fun x hx=>.inl (by rcases mem_cons.1 hx with q|q <;> simp_all))
 obtain ⟨WT,ej⟩:∃ W,W=w9.setCell ⟨a,8,none⟩ (.slice (so g9) (D+3) c9):=⟨_,rfl⟩
 rw [<- ej] at J S |-
 have gd:=S.size
 have s:∀ k,k < 9->∀ g,(f k).ownBlock=some g->g < P.heap.size:=fun k l g O=>((I.o.own k l).lt g O).2
 have fk:w.heap.size<=P.heap.size:=by have:=bi.o;have:=Zr.o.size;omega
 have fl:=ae.size
 have fn:=Y.size
 have cw:L4.length=3:=by rw [be.o];rfl
 have fg:=I.o.lt
 have fm:=bd.o.size
 have p:∀ b∈KL ++ KS,b≠a/\(∀ k,k < 9->(f k).ownBlock≠some b)/\(b∈K\/b∈[d]\/w.heap.size<=b)/\b < A.heap.size:=fun b hb=>by
  rcases mem_append.1 hb with q|q
  ·obtain ⟨t1,t2⟩:=fe b q
   exact ⟨fun e=>dy.o (e ▸ t1),t2,.inl t1,by have:=ds.o b t1;omega⟩
  have cy:=cr b q
  rcases ct b q with r|r
  ·subst r
   exact ⟨fun e=>ek e.symm,ef.o,.inr (.inl (by simp)),cy⟩
  exact ⟨by omega,fun k l e=>by have:=s k l b e;omega,.inr (.inr (by omega)),cy⟩
 have dk:∀ b,b≠a->(∀ k,k < 9->(f k).ownBlock≠some b)->b∉a :: ((f 6).ownBlock.toList ++ (f 8).ownBlock.toList):=fun b h1 h2 hm=>by
  rcases mem_cons.1 hm with q|q
  ·exact h1 q
  rcases mem_append.1 q with q|q
  ·exact h2 6 (by omega) (by simpa using q)
  exact h2 8 (by omega) (by simpa using q)
 have eg:BL WT (KL ++ KS) (aK (aK xs 6 (xs 6 ++ L4)) 8 (xs 8 ++ [Value.string M,.string M,.string M])):=by
  have q:=((dv.o.up (K':=KL ++ KS) (fun b hb=>mem_append_left _ hb)).steps x4.2.2 L4 M (fun u hu=>(eh u hu).up (fun b hb=>mem_append_right _ hb))).fr S (fun b hb=>dk b (p b hb).1 (p b hb).2.1)
  rw [show (L4.map fun _=>Value.string M)=[Value.string M,.string M,.string M] by rw [be.o];rfl] at q
  exact q
 have aa:∀ k,k < 9->∀ g,(aK (aK f 6 v3) 8 (.slice (so g9) (D+3) c9) k).ownBlock=some g->(∃ k',k' < 9/\(f k').ownBlock=some g)\/A.heap.size<=g:=fun k l g O=>by
  by_cases k4:k=8
  ·subst k4
   rw [gA] at O
   rcases fE ha g O with q|q
   ·exact .inl ⟨8,by omega,by rw [bf.o];exact q⟩
   exact .inr (by omega)
  rw [fW _ _ k4] at O
  by_cases k3:k=6
  ·subst k3
   rw [gA] at O
   rcases ay g O with q|q
   · exact .inl ⟨6,by omega,q⟩
   exact .inr q
  rw [fW _ _ k3] at O
  exact .inl ⟨k,l,O⟩
 have t:∀ b,b∈(range 9).filterMap (fun k=>(aK (aK f 6 v3) 8 (.slice (so g9) (D+3) c9) k).ownBlock)->∃ k,k < 9/\(aK (aK f 6 v3) 8 (.slice (so g9) (D+3) c9) k).ownBlock=some b:=fun b hb=>by
  obtain ⟨k,l,e⟩:=mem_filterMap.1 hb
  exact ⟨k,mem_range.1 l,e⟩
 refine ⟨⟨(KL ++ KS) ++ (range 9).filterMap (fun k=>(aK (aK f 6 v3) 8 (.slice (so g9) (D+3) c9) k).ownBlock),⟨⟨_,_,m,KL ++ KS,J,eg,x3,?_,?_,?_,?_,?_,er.2,fun k l g O=>?_,fun b hb=>⟨mem_append_left _ hb,fun k l e=>?_⟩⟩,fun hm=>?_,fun b hb=>?_⟩,fun b hb=>?_⟩,?_⟩
 ·refine ⟨x4.1,x4.2.1,?_⟩
  show (xs 6 ++ L4).length=(xs 8 ++ [Value.string M,.string M,.string M]).length
  rw [length_append,length_append,cw,x4.2.2]
  rfl
 ·show (xs 0).length<=_
  omega
 ·show (xs 2).length<=_
  omega
 ·show (xs 3).length<=_/\(xs 5).length<=_/\(xs 6 ++ L4).length<=_
  rw [length_append,cw]
  omega
 ·omega
 ·exact mem_append_right _ (mem_filterMap.2 ⟨k,mem_range.2 l,O⟩)
 ·rcases aa k l b e with ⟨k',bs,q⟩|q
  ·exact (p b hb).2.1 k' bs q
  have:=(p b hb).2.2.2;omega
 ·rcases mem_append.1 hm with q|q
  ·exact (p a q).1 rfl
  obtain ⟨k,l,e⟩:=t a q
  exact J.nb k l e
 ·rcases mem_append.1 hb with q|q
  ·have:=(p b q).2.2.2;omega
  obtain ⟨k,l,e⟩:=t b q
  exact ((J.own k l).lt b e).2
 ·rcases mem_append.1 hb with q|q
  ·exact (p b q).2.2.1
  obtain ⟨k,l,e⟩:=t b q
  rcases aa k l b e with ⟨k',bs,r⟩|r
  ·exact .inl (Zs k' bs b r)
  exact .inr (.inr (by omega))
 refine (((cd.o.mono (fun x hx=>.inl (by simp_all))).then0 Zr.o).trans bd.o (fun b hb=>.inl (by simp_all))).trans S (fun b hb=>?_)
 rcases mem_cons.1 hb with q|q
 ·exact .inl (by simp [q])
 rcases mem_append.1 q with q|q
 ·exact .inl (by simp [Zs 6 (by omega) b (by simpa using q)])
 exact .inl (by simp [Zs 8 (by omega) b (by simpa using q)])
