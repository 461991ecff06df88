import Derived.Test.YtapabahhfanmmaaGreatDoorCBookL
namespace Go.Proofs.YtapabahhfanmmaaGreatDoor
open Go.RowKit List
set_option maxRecDepth 100000
set_option maxHeartbeats 2000000
theorem wE:(Tryz.prog.info? 3).map (fun i=>(i.zero,i.size,i.bytes))=some (some (ii 0),1,8):=by kernel_rfl
theorem wI:(Tryz.prog.info? 25).map (fun i=>(i.zero,i.size,i.bytes))=some (some (.slice none 0 0),1,24):=by kernel_rfl
theorem wJ:(Tryz.prog.info? 46).map (fun i=>(i.zero,i.size,i.bytes))=some (some (.slice none 0 0),1,24):=by kernel_rfl
abbrev fK (a:List Value):List Nat:=a.filterMap Value.ownBlock
theorem tW {a:List Value}{v:Value}{j b:Nat}(h:a[j]?=some v)(hb:v.ownBlock=some b):b∈fK a:=mem_filterMap.2 ⟨v,mem_of_getElem? h,hb⟩
structure OPI (w:World) (bb N rb base:Nat) (K:List Nat) (vs:List Value) (i:Nat) (wr:World):Prop where
 ex:∃ rv xs nx KL,BR wr bb rv xs nx/\BL wr KL xs/\(xs 0).length=(xs 1).length/\((xs 3).length=(xs 4).length/\(xs 5).length=(xs 7).length/\(xs 6).length=(xs 8).length)/\(xs 0).length<=8*N+4*i/\(xs 2).length<=3*N/\((xs 3).length<=4*N/\(xs 5).length<=3*N/\(xs 6).length<=3*N) /\ -(3*(N:Int)) - i<=nx/\nx<=0/\(∀ k,k < 9->∀ g,(rv k).ownBlock=some g->g∈K\/w.heap.size<=g)/\(∀ b∈KL,(b∈K\/b∈fK vs\/w.heap.size<=b)/\b < wr.heap.size/\∀ k,k < 9->(rv k).ownBlock≠some b)/\(∀ j v b,i<=j->vs[j]?=some v->v.ownBlock=some b->b∉KL)
 l:wr.heap[rb]?=some (.cells vs.toArray 25)
 own:∀ j v,i<=j->vs[j]?=some v->∃ n cs,n<=2000000/\wr.ownsRow base 3 1 v n cs
 fr:Fr (bb :: (K ++ (rb :: fK vs))) w wr
structure OwnP (w:World) (bb N:Nat) (K D:List Nat) (w':World):Prop where
 ex:∃ K',Bk w' bb K' (N+1)/\∀ x∈K',x∈K\/x∈D\/w.heap.size<=x
 fr:Fr (bb :: (K ++ D)) w w'
structure FillI (W:World) (base n:Nat) (e:TypeId) (v:Value) (cs:List Value) (pat:Nat->Value) (k:Nat) (wr:World):Prop where
 own:wr.ownsRow base e 1 v n (aO 1 pat k ++ cs.drop k)
 fr:Fr v.ownBlock.toList W wr
theorem FillI.put {W:World}{base n a b:Nat}{e:TypeId}{cs:List Value}{pat:Nat->Value}{k:Nat}{wr:World}(l:∀ k,pat (k+1)=pat k)(h:FillI W base n e (.slice (so a) n b) cs pat k wr)(m:k < n)(d:cs.length=n):FillI W base n e (.slice (so a) n b) cs pat (k+1) (wr.setCell ⟨a,k,none⟩ (pat 0)):=by
 refine ⟨?_,h.fr.setCell _ _ (.inl (by simp [Value.ownBlock]))⟩
 obtain ⟨h1,c⟩:=h.own
 rcases c with ⟨c,_⟩|⟨g,f,cur,e,hb,j,i,hm,hs,ht⟩
 ·cases c
 cases e
 refine ⟨by simp [fY,d];omega,.inr ⟨a,b,cur.setIfInBounds k (pat 0),rfl,hb,bS j _ _,i,hm,by simpa using hs,?_⟩⟩
 rw [Array.toList_setIfInBounds,take_set,ht]
 rw [<- lL l k 1]
 rw [set_append_right _ _ (by rw [fY];omega),fY,append_assoc]
 congr 1
 rw [show k - k*1=0 by omega,drop_eq_getElem_cons (by omega)]
 rfl
theorem yD (c N d base:Nat) (K:List Nat) (a:List Value) (w:World) (h:Bk w c K N) (hN:N<=2200000) (jc:a.length<=2) (hl:w.heap[d]?=some (.cells a.toArray 25)) (hz:base<=d) (iw:c < base) (hK:∀ x∈K,x < base)
  (hown:∀ (j:Nat) (v:Value),a[j]?=some v->∃ n cs,n<=2000000/\w.ownsRow base 3 1 v n cs) (fa:∀ (i j:Nat) (v v':Value) (g:Nat),i≠j->a[i]?=some v->a[j]?=some v'->v.ownBlock=some g->v'.ownBlock≠some g) :
  Cs 98 #[.pointer (so c),.slice (so d) a.length a.length] w fun e w'=>e=.returned (.tuple #[])/\OwnP w c N K (d :: fK a) w':=by
 obtain ⟨ct,cj,cp,cq,cr⟩:=info_parts wE
 obtain ⟨bq,dw,dz,ea,eb⟩:=info_parts wI
 obtain ⟨ga,hp,ih,ij,ik⟩:=info_parts wJ
 have jd:base<=w.heap.size:=by have:=aH hl;omega
 have ak:Hi (∀ (j:Nat) (v:Value) (b:Nat),a[j]?=some v->v.ownBlock=some b->base<=b/\b < w.heap.size/\b≠d/\b∉K/\b≠c):=fun j v b hv hb=>by
  obtain ⟨n,cs,_,ho⟩:=hown j v hv
  obtain ⟨q1,q2⟩:=ho.lt b hb
  refine ⟨q1,q2,fun e=>?_,fun e=>by have:=hK b e;omega,by omega⟩
  subst e
  rcases ho.2 with ⟨rfl,_⟩|⟨g,ev,cur,rfl,_,hh,_⟩
  ·cases hb
  simp [Value.ownBlock] at hb
  subst hb
  rw [hl] at hh
  simp at hh
 have gi:Hi (OPI w c N d base K a 0 w):=by
  obtain ⟨⟨p,xs,nx,KL,h1,h2,h3,h4,h5,h6,h7,h8,h9,ae,O⟩,hn,dx⟩:=h
  exact ⟨⟨p,xs,nx,KL,h1,h2,h3,h4,by omega,h6,h7,by omega,h9,fun k f g E=>.inl (ae k f g E),fun b hb=>⟨.inl (O b hb).1,dx b (O b hb).1,(O b hb).2⟩,fun j v b _ hv ig hm=>(ak.o j v b hv ig).2.2.2.1 (O b hm).1⟩,hl,fun j v _ hv=>hown j v hv,r0 _ _⟩
 have ef:=aA fa
 have ix:c < w.heap.size:=by omega
 have eo:=aA h.nb
 have bi:Hi (d < w.heap.size):=aH hl
 clear h hl hown fa
 go_enter Tryz.func98,Tryz.ntmps98
 go_wp2_with fail
 go_loopw [4] (fun i wr=>∃ k:Nat,k<=a.length/\i=.int .i64 k/\OPI w c N d base K a k wr) (fun i _=>a.length - (intOf i).toNat)
 case atStart=>exact ⟨0,Nat.zero_le _,rfl,gi.o⟩
 obtain ⟨i,hi,rfl,hI⟩:=hrel
 by_cases fl:i < a.length
 ·have fm:(i:Int) < (a.length:Int):=by omega
  obtain ⟨M,ai⟩:∃ x,x=wr:=⟨_,rfl⟩
  rw [<- ai] at hI |-
  clear ai
  obtain ⟨v,hv⟩:∃ v,a[i]?=some v:=⟨_,getElem?_eq_getElem fl⟩
  obtain ⟨⟨p,xs,nx,KL,h1,h2,h3,h4,h5,h6,h7,h8,h9,ae,O,bc⟩,hl,hown,am⟩:=hI
  obtain ⟨n,cs,hn,ho⟩:=hown i v (Nat.le_refl _) hv
  have ff:cs.length=n:=by have:=ho.1;omega
  obtain ⟨z,A,rfl⟩:=fF ho
  have fg:M.cell? ⟨d,i,none⟩=some (.slice z n A):=by rw [aB hl];simpa using hv
  have ht:=h1.nxt
  have hw:=h1.fz 9
  have cn:=aH hl
  have he:c≠d:=by omega
  have fx:∀ b,Value.ownBlock (.slice z n A)=some b->b≠d/\b≠c/\b∉KL/\b < M.heap.size/\base<=b/\∀ k,k < 9->(p k).ownBlock≠some b:=fun b hb=>by
   have q:=ak.o i _ b hv hb
   refine ⟨q.2.2.1,q.2.2.2.2,bc i _ b (Nat.le_refl _) hv hb,(ho.lt b hb).2,q.1,fun k f e=>?_⟩
   rcases ae k f b e with r|r
   ·exact q.2.2.2.1 r
   omega
  have al:=aA fx
  have gh:=aA h1
  have gg:=aA h2
  have HX:=(show Hi _ from And.intro h3 (And.intro h4 (And.intro h5 (And.intro h6 (And.intro h7 (And.intro ae (And.intro O bc)))))))
  have HL:=aA hl
  have eq:=aA hown
  have az:=aA am
  have HV:=aA hv
  have HO:=aA ho
  clear fx h1 h2 h3 h4 h5 h6 h7 ae O bc hl hown am hv ho
  go_wp2_with fail
  obtain ⟨m,hm⟩:∃ m,m=nx - 1:=⟨_,rfl⟩
  rw [<- hm]
  obtain ⟨J,Y⟩:∃ W,W=M.setCell ⟨c,9,none⟩ (.int .i64 m):=⟨_,rfl⟩
  rw [<- Y]
  have el:Hi (∀ b∈KL,b≠c/\b≠d):=fun b hb=>by
   rcases (HX.o.2.2.2.2.2.2.1 b hb).1 with q|q|q
   ·exact ⟨fun e=>eo.o (e ▸ q),fun e=>by have:=hK b q;omega⟩
   ·obtain ⟨u,X,ac⟩:=mem_filterMap.1 q
    obtain ⟨j,hj⟩:=mem_iff_getElem?.1 X
    have:=ak.o j u b hj ac
    exact ⟨this.2.2.2.2,this.2.2.1⟩
   have:=az.o.size
   have ia:d < w.heap.size:=bi.o
   exact ⟨by omega,by omega⟩
  have y:Fr [c] M J:=by rw [Y];exact (r0 _ _).setCell _ _ (by simp)
  have I:Hi (BR J c p xs m):=by
   show BR J c p xs m
   rw [Y];exact gh.o.mark m
  have bf:Hi (BL J KL xs):=gg.o.fr y (fun b hb e=>(el.o b hb).1 (by simpa using e))
  have av:J.cell? ⟨d,i,none⟩=some (.slice z n A):=(y.cell d i cn (by simp;omega)).trans fg
  have dn:Hi (J.ownsRow base 3 1 (.slice z n A) n cs):=aF HO.o y (fun b hb e=>(al.o b hb).2.1 (by simpa using e))
  have ah:d < J.heap.size:=Nat.lt_of_lt_of_le cn y.size
  have hq:-(3*(N:Int)) - 2<=m/\m<=0:=by omega
  have HM:=aA hm
  have ad:=aA y
  have co:d∉(Value.ownBlock (.slice z n A)).toList:=fun e=>(al.o d (by simpa using e)).1 rfl
  have eh:=aA ff
  clear hm Y fg ht hw y ff
  go_loopw [6] (fun j wr=>∃ k:Nat,k<=n/\j=.int .i64 k/\FillI J base n 3 (.slice z n A) cs (jH m) k wr) (fun j _=>n - (intOf j).toNat)
  case atStart=>exact ⟨0,Nat.zero_le _,rfl,dn.o,r0 _ _⟩
  obtain ⟨k,f,rfl,hI⟩:=hrel
  have dh:ca wr d i (.slice z n A):=(hI.fr.cell d i ah co).trans av
  by_cases ag:k < n
  ·have ap:(k:Int) < (n:Int):=by omega
   obtain ⟨gb,gc,dv⟩:=bK hI.own (by omega)
   have R:∃ cur:Array Value,wr.heap[gb]?=some (.cells cur 3 (0,0))/\k < cur.size:=by
    rcases hI.own.2 with ⟨e,_⟩|⟨g,ev,cur,e,_,hh,hc,_,hs,_⟩
    ·rw [dv] at e;cases e
    rw [dv] at e;cases e
    exact ⟨cur,hh,by omega⟩
   cases dv
   obtain ⟨cur,R,bk⟩:=R
   obtain ⟨br,ft⟩:∃ br,wr.cell? ⟨gb,k,none⟩=some br:=⟨_,(aB R).trans (Array.getElem?_eq_getElem bk)⟩
   have fu:wr.frozen? ⟨gb,k,none⟩=false:=bI R
   have HP:=(show Hi _ from hI.put (yF m) ag eh.o)
   clear hI R bk
   go_wp2_with fail
   go_roundw
   case rel=>exact ⟨k+1,ag,by go_num,HP.o⟩
   case measure=>simp [intOf];omega
  have ap:¬ (k:Int) < (n:Int):=by omega
  have bl:k=n:=by omega
  have aq:=hI.own
  rw [bl,drop_of_length_le (by rw [eh.o];exact Nat.le_refl _),append_nil] at aq
  have aa:=hI.fr
  have ba:=aA aq
  clear hI bl aq
  obtain ⟨W2,bj⟩:∃ W,W=wr:=⟨_,rfl⟩
  rw [<- bj] at ba dh aa |-
  clear bj
  have ib:J.heap.size<=W2.heap.size:=aa.size
  have gz:base<=W2.heap.size:=by have:=az.o.size;have:=ad.o.size;omega
  have dl:=aA aa
  have aj:Hi (∀ (W:World) (cs:Array Value),W.ownsRow base 3 1 (.slice z n A) n (aO 1 (jH m) n)->(W.alloc (.cells cs 3)).ownsRow base 3 1 (.slice z n A) n (aO 1 (jH m) n)):=fun W cs h=>h.alloc _
  have bz:Hi (∀ (W:World) (j:Nat) (u:Value),[ii m][j]?=some u->(W.alloc (.cells #[ii m] 3)).cell? ((⟨W.heap.size,0,none⟩:Addr).add j)=some u):=fun W=>cU W [ii m] 3
  have cb:Hi (∀ (W:World) (j:Nat) (u:Value),[ii m,ii m][j]?=some u->(W.alloc (.cells #[ii m,ii m] 3)).cell? ((⟨W.heap.size,0,none⟩:Addr).add j)=some u):=fun W=>cU W [ii m,ii m] 3
  have en:Hi (∀ (W:World) (j:Nat) (u:Value),[ii m,ii m,ii m][j]?=some u->(W.alloc (.cells #[ii m,ii m,ii m] 3)).cell? ((⟨W.heap.size,0,none⟩:Addr).add j)=some u):=fun W=>cU W [ii m,ii m,ii m] 3
  clear aa
  go_wp2_with (first
   | (
     at_builtin
     refine dR rfl (.tmp 50) (.tmp 52) 25 rfl base 3 ct (ii 0) 1 8 Tryz.underlying25 cj cp cq cr rfl (.slice z n A) n (aO 1 (jH m) n) rfl (aj.o _ _ ba.o) ⟨W2.heap.size,0,none⟩ 1 1 [ii m] rfl rfl (bz.o W2) (by simp [Value.oneCell']) (by unfold maxLen;omega) (by omega) (by simp;omega) (by omega) ?_
     intro v1 w3 s C l
     obtain ⟨g1,c1,rfl⟩:=bK s (by omega)
     have cd:=aA s
     have bx:=aA C
     have bu:Hi (eG (W2.alloc (.cells #[ii m] 3)) w3 (.slice z n A) (.slice (so g1) (n+1) c1)):=l
     have dp:Fr (Value.ownBlock (.slice z n A)).toList J w3:=(dl.o.alloc _).trans (bE l) (fun x hx=>.inl hx)
     have fh:ca w3 d i (.slice z n A):=(dp.cell d i ah co).trans av
     have ic:W2.heap.size<=w3.heap.size:=(by have:=(bE l).size;simp at this;omega)
     have dm:=aA dp
     clear s C l dp dh)
   | (
     at_builtin
     refine dR rfl (.tmp 57) (.tmp 60) 25 rfl base 3 ct (ii 0) 1 8 Tryz.underlying25 cj cp cq cr rfl (.slice z n A) n (aO 1 (jH m) n) rfl (aj.o _ _ bx.o) ⟨w3.heap.size,0,none⟩ 2 2 [ii m,ii m] rfl rfl (cb.o w3) (by simp [Value.oneCell']) (by unfold maxLen;omega) (by omega) (by simp;omega) (by omega) ?_
     intro v2 F s C l
     obtain ⟨g2,c2,rfl⟩:=bK s (by omega)
     have ce:=aA s
     have bh:=aA C
     have bv:Hi (eG (w3.alloc (.cells #[ii m,ii m] 3)) F (.slice z n A) (.slice (so g2) (n+2) c2)):=l
     have dq:Fr (Value.ownBlock (.slice z n A)).toList J F:=(dm.o.alloc _).trans (bE l) (fun x hx=>.inl hx)
     have fi:ca F d i (.slice z n A):=(dq.cell d i ah co).trans av
     have ie:w3.heap.size<=F.heap.size:=(by have:=(bE l).size;simp at this;omega)
     have ax:=aA dq
     clear s C l dq fh)
   | (
     at_builtin
     refine dR rfl (.tmp 65) (.tmp 69) 25 rfl base 3 ct (ii 0) 1 8 Tryz.underlying25 cj cp cq cr rfl (.slice z n A) n (aO 1 (jH m) n) rfl (aj.o _ _ bh.o) ⟨F.heap.size,0,none⟩ 3 3 [ii m,ii m,ii m] rfl rfl (en.o F) (by simp [Value.oneCell']) (by unfold maxLen;omega) (by omega) (by simp;omega) (by omega) ?_
     intro v3 H s C l
     obtain ⟨g3,c3,rfl⟩:=bK s (by omega)
     have ep:=aA s
     have gj:=aA C
     have ee:Hi (eG (F.alloc (.cells #[ii m,ii m,ii m] 3)) H (.slice z n A) (.slice (so g3) (n+3) c3)):=l
     have dr:Fr (Value.ownBlock (.slice z n A)).toList J H:=(ax.o.alloc _).trans (bE l) (fun x hx=>.inl hx)
     have fj:ca H d i (.slice z n A):=(dr.cell d i ah co).trans av
     have iy:F.heap.size<=H.heap.size:=(by have:=(bE l).size;simp at this;omega)
     have bw:=aA dr
     clear s C l dr fi))
  obtain ⟨KS,da,db,fn,fo,fp,fq⟩:=wZ (yF m) cd.o bu.o bh.o ce.o bv.o ep.o ee.o
  have go:Hi (∀ u∈[Value.slice z n A,.slice (so g1) (n+1) c1,.slice (so g2) (n+2) c2,.slice (so g3) (n+3) c3],Mks H KS u m):=fun u X=>by
   simp only [mem_cons,not_mem_nil,or_false] at X
   rcases X with rfl|rfl|rfl|rfl
   ·exact fn.ints (by omega)
   ·exact fo.ints (by omega)
   ·exact fp.ints (by omega)
   exact fq.ints (by omega)
  have cy:=aA da
  have cz:=aA db
  have aw:Hi (BR H c p xs m):=I.o.fr bw.o (fun e=>(al.o c (by simpa using e)).2.1 rfl) (fun k f g E e=>(al.o g (by simpa using e)).2.2.2.2.2 k f E)
  have gn:Hi (BL H KL xs):=bf.o.fr bw.o (fun b hb e=>(al.o b (by simpa using e)).2.2.1 hb)
  obtain ⟨l0,ck⟩:∃ l0,(xs 0).length=l0:=⟨_,rfl⟩
  obtain ⟨a0,q0,bd⟩:=fF (aw.o.own 0 (by omega))
  have ip:l0<=8*N+8:=by have:=HX.o.2.2.1;omega
  rw [ck] at bd
  have du:H.cell? ⟨c,0,none⟩=some (.slice a0 l0 q0):=by rw [aw.o.cell 0 (by omega),bd]
  have dd:H.frozen? ⟨c,0,none⟩=false:=aw.o.fz 0
  have df:c < H.heap.size:=aI du
  obtain ⟨L4,ch⟩:∃ L,L=[Value.slice z n A,.slice (so g1) (n+1) c1,.slice (so g2) (n+2) c2,.slice (so g3) (n+3) c3]:=⟨_,rfl⟩
  have ay:Hi (Fr [] H (H.drew.alloc (.cells #[.slice z n A,.slice (so g1) (n+1) c1,.slice (so g2) (n+2) c2,.slice (so g3) (n+3) c3] 25))):=((r0 _ _).drew).alloc _
  have cf:Hi ((H.drew.alloc (.cells #[.slice z n A,.slice (so g1) (n+1) c1,.slice (so g2) (n+2) c2,.slice (so g3) (n+3) c3] 25)).ownsRow 0 25 1 (.slice a0 l0 q0) l0 (xs 0)):=by
   have:=aF (aw.o.own 0 (by omega)) ay.o (by simp)
   rw [bd,ck] at this
   exact this
  have cc:Hi (∀ (j:Nat) (u:Value),[Value.slice z n A,.slice (so g1) (n+1) c1,.slice (so g2) (n+2) c2,.slice (so g3) (n+3) c3][j]?=some u->(H.drew.alloc (.cells #[.slice z n A,.slice (so g1) (n+1) c1,.slice (so g2) (n+2) c2,.slice (so g3) (n+3) c3] 25)).cell? ((⟨H.heap.size,0,none⟩:Addr).add j)=some u):=cU H.drew _ 25
  have eg:Hi (c∉(Value.ownBlock (.slice a0 l0 q0)).toList):=fun e=>aw.o.nb 0 (by omega) (by rw [bd];simpa using e)
  have er:=aA bd
  have em:=aA ck
  have Zs:=aA ch
  clear fn fo fp fq da db bd ck ch cd bu bx ce bv bh ep ee gj bz cb en aj ba
  go_cut [] (fun wx=>∃ v',BR wx c (aK p 0 v') (aK xs 0 (xs 0 ++ L4)) m/\Fr (c :: (p 0).ownBlock.toList) H wx/\∀ g,v'.ownBlock=some g->(p 0).ownBlock=some g\/H.heap.size<=g)
  case first =>
   go_region_law (refine ST rfl (.tmp 75) (.tmp 83) 46 rfl 0 25 bq (.slice none 0 0) 1 24 Tryz.underlying46 dw dz ea eb rfl (.slice a0 l0 q0) l0 (xs 0) (by simp [Act.eval]) cf.o ⟨H.heap.size,0,none⟩ 4 4 [.slice z n A,.slice (so g1) (n+1) c1,.slice (so g2) (n+2) c2,.slice (so g3) (n+3) c3] (by simp [Act.eval]) rfl cc.o (by simp [Value.oneCell']) (by unfold maxLen;omega) (by omega) (by omega) (by omega) ?_;intro v' w6 ho f ha;obtain ⟨g',c',rfl⟩:=bK ho (by omega);have af:=bE ha;have fw:w6.cell? ⟨c,0,none⟩=some (.slice a0 l0 q0):=(af.cell c 0 (by simp;omega) eg.o).trans ((ay.o.cell c 0 df (by simp)).trans du);have dk:w6.frozen? ⟨c,0,none⟩=false:=(af.frozen c 0 (by simp;omega) eg.o).trans ((ay.o.frozen c 0 df (by simp)).trans dd))
   all_goals
    go_wp2_with fail
    go_meet
    have gx:=aw.o.fr ay.o (by simp) (by simp)
    have bm:=gx.push 0 (by omega) (.slice (so g') (l0+4) c') L4 (by rw [Zs.o,em.o];exact ho) (by rw [er.o];exact ha)
    refine ⟨_,bm.1,ay.o.of0.trans bm.2 (fun x hx=>.inl hx),fun g E=>?_⟩
    rcases fE ha g E with q|q
    · exact .inl (by rw [er.o];exact q)
    simp at q;exact .inr (by omega)
  case rest =>
   obtain ⟨cu,P,cg,di⟩:=hcut
   obtain ⟨l1,dy⟩:∃ l1,(xs 1).length=l1:=⟨_,rfl⟩
   have e1:aK xs 0 (xs 0 ++ L4) 1=xs 1:=rfl
   have e2:aK p 0 cu 1=p 1:=rfl
   have ab:=P.own 1 (by omega)
   rw [e1,e2,dy] at ab
   obtain ⟨a1,q1,bn⟩:=fF ab
   rw [bn] at ab
   have iq:l1<=8*N+8:=by have:=HX.o.1;have:=em.o;omega
   have fb:wc.cell? ⟨c,1,none⟩=some (.slice a1 l1 q1):=by rw [P.cell 1 (by omega),e2,bn]
   have fc:wc.frozen? ⟨c,1,none⟩=false:=P.fz 1
   have dg:c < wc.heap.size:=aI fb
   have bg:Hi (Fr [] wc (wc.alloc (.cells #[ii m,ii m,ii m,ii m] 3))):=(r0 _ _).alloc _
   have gq:Hi ((wc.alloc (.cells #[ii m,ii m,ii m,ii m] 3)).ownsRow 0 3 1 (.slice a1 l1 q1) l1 (xs 1)):=aF ab bg.o (by simp)
   have gp:Hi (∀ (j:Nat) (u:Value),[ii m,ii m,ii m,ii m][j]?=some u->(wc.alloc (.cells #[ii m,ii m,ii m,ii m] 3)).cell? ((⟨wc.heap.size,0,none⟩:Addr).add j)=some u):=cU wc [ii m,ii m,ii m,ii m] 3
   have cw:Hi (c∉(Value.ownBlock (.slice a1 l1 q1)).toList):=fun e=>P.nb 1 (by omega) (by rw [e2,bn];simpa using e)
   have gf:=aA P
   have ei:=aA cg
   have ek:=aA di
   have es:=aA bn
   have gk:=aA dy
   clear P cg di bn dy ab e1 e2 du dd fj cf cc ay
   go_wp2_with (at_builtin;refine dR rfl (.tmp 91) (.tmp 96) 25 rfl 0 3 ct (ii 0) 1 8 Tryz.underlying25 cj cp cq cr rfl (.slice a1 l1 q1) l1 (xs 1) rfl gq.o ⟨wc.heap.size,0,none⟩ 4 4 [ii m,ii m,ii m,ii m] rfl rfl gp.o (by simp [Value.oneCell']) (by unfold maxLen;omega) (by omega) (by omega) (by omega) ?_;intro v7 w7 ho f ha;obtain ⟨g7,c7,rfl⟩:=bK ho (by omega);have af:=bE ha;have fw:w7.cell? ⟨c,1,none⟩=some (.slice a1 l1 q1):=(af.cell c 1 (by simp;omega) cw.o).trans ((bg.o.cell c 1 dg (by simp)).trans fb);have dk:w7.frozen? ⟨c,1,none⟩=false:=(af.frozen c 1 (by simp;omega) cw.o).trans ((bg.o.frozen c 1 dg (by simp)).trans fc))
   go_roundw
   case rel =>
    refine ⟨i+1,fl,by go_num,?_⟩
    obtain ⟨x3,x4,x5,x6,x7,ar,Zq,ge⟩:=HX.o
    have Zu:w.heap.size<=M.heap.size:=az.o.size
    have Zw:=ad.o.size
    have jb:=ei.o.size
    obtain ⟨Zt,ds⟩:=(gf.o.fr bg.o (by simp) (by simp)).push 1 (by omega) (.slice (so g7) (l1+4) c7) [ii m,ii m,ii m,ii m] (by rw [show aK xs 0 (xs 0 ++ L4) 1=xs 1 from rfl,gk.o];exact ho) (by rw [show aK p 0 cu 1=p 1 from rfl,es.o];exact ha)
    rw [show aK p 0 cu 1=p 1 from rfl] at ds
    rw [show aK xs 0 (xs 0 ++ L4) 1=xs 1 from rfl] at Zt
    have bt:Fr (c :: ((p 0).ownBlock.toList ++ (p 1).ownBlock.toList)) H (w7.setCell ⟨c,1,none⟩ (.slice (so g7) (l1+4) c7)) :=
      ((ei.o.mono (fun x hx=>.inl (by rcases mem_cons.1 hx with q|q <;> simp_all))).then0 bg.o).trans ds (fun x hx=>.inl (by rcases mem_cons.1 hx with q|q <;> simp_all))
    obtain ⟨W8,ez⟩:∃ W,W=w7.setCell ⟨c,1,none⟩ (.slice (so g7) (l1+4) c7):=⟨_,rfl⟩
    rw [<- ez] at Zt bt |-
    have Zv:=I.o.lt
    have ja:=bt.size
    have iz:wc.heap.size<=W8.heap.size:=by
      have:=ds.size
      rw [<- ez] at this
      simp at this
      omega
    have ed:∀ k,k < 9->∀ g,(p k).ownBlock=some g->g < J.heap.size:=fun k f g E=>((I.o.own k f).lt g E).2
    have Zr:∀ b∈KS,b≠c/\b≠d/\(∀ k,k < 9->(p k).ownBlock≠some b)/\(b∈fK a\/w.heap.size<=b):=fun b hb=>by
      rcases cy.o b hb with q|q
      ·have r:=al.o b q
       exact ⟨r.2.1,r.1,r.2.2.2.2.2,.inl (tW HV.o q)⟩
      exact ⟨by omega,by omega,fun k f e=>by have:=ed k f b e;omega,.inr (by omega)⟩
    have S:∀ k,k < 9->(p k).ownBlock≠some d:=fun k f e=>by
      have:=bi.o
      rcases ar k f d e with q|q
      ·have:=hK d q;omega
      omega
    have ec:∀ b,b≠c->(∀ k,k < 9->(p k).ownBlock≠some b)->b∉c :: ((p 0).ownBlock.toList ++ (p 1).ownBlock.toList):=fun b h1 h2 hm=>by
      rcases mem_cons.1 hm with q|q
      ·exact h1 q
      rcases mem_append.1 q with q|q
      ·exact h2 0 (by omega) (by simpa using q)
      exact h2 1 (by omega) (by simpa using q)
    have FT:Fr (c :: ((Value.ownBlock (.slice z n A)).toList ++ ((p 0).ownBlock.toList ++ (p 1).ownBlock.toList))) M W8 :=
      ((ad.o.mono (fun x hx=>.inl (by simp_all))).trans bw.o (fun x hx=>.inl (by simp_all))).trans bt (fun x hx=>.inl (by rcases mem_cons.1 hx with q|q <;> simp_all))
    have gd:∀ b,b≠c->Value.ownBlock (.slice z n A)≠some b->(∀ k,k < 9->(p k).ownBlock≠some b)->b∉c :: ((Value.ownBlock (.slice z n A)).toList ++ ((p 0).ownBlock.toList ++ (p 1).ownBlock.toList)):=fun b h1 h2 h3 hm=>by
      rcases mem_cons.1 hm with q|q
      ·exact h1 q
      rcases mem_append.1 q with q|q
      ·exact h2 (by simpa using q)
      exact ec b h1 h3 (mem_cons_of_mem _ q)
    have ex:BL W8 (KL ++ KS) (aK (aK xs 0 (xs 0 ++ L4)) 1 (xs 1 ++ [ii m,ii m,ii m,ii m])):=by
      have q:=((gn.o.up (K':=KL ++ KS) (fun b hb=>mem_append_left _ hb)).places x3 L4 m (fun u X=>(go.o u (by rw [<- Zs.o];exact X)).up (fun b hb=>mem_append_right _ hb))).fr bt (fun b hb=>by
       rcases mem_append.1 hb with q|q
       ·exact ec b (el.o b q).1 (Zq b q).2.2
       exact ec b (Zr b q).1 (Zr b q).2.2.1)
      rw [show (L4.map fun _=>ii m)=[ii m,ii m,ii m,ii m] by rw [Zs.o];rfl] at q
      exact q
    have dc:L4.length=4:=by rw [Zs.o];rfl
    have D:∀ k,k < 9->∀ g,(aK (aK p 0 cu) 1 (.slice (so g7) (l1+4) c7) k).ownBlock=some g->(∃ k',k' < 9/\(p k').ownBlock=some g)\/H.heap.size<=g:=fun k f g E=>by
      by_cases k1:k=1
      ·subst k1
       rw [gA] at E
       rcases fE ha g E with q|q
       ·exact .inl ⟨1,by omega,by rw [es.o];exact q⟩
       simp at q;exact .inr (by omega)
      rw [fW _ _ k1] at E
      by_cases k0:k=0
      ·subst k0
       rw [gA] at E
       rcases ek.o g E with q|q
       ·exact .inl ⟨0,by omega,q⟩
       exact .inr q
      rw [fW _ _ k0] at E
      exact .inl ⟨k,f,E⟩
    have it:=bw.o.size
    refine ⟨⟨_,_,m,KL ++ KS,Zt,ex,?_,x4,?_,x6,x7,by have:=HM.o;omega,hq.2,fun k f g E=>?_,fun b hb=>⟨?_,?_,fun k f e=>?_⟩,fun j u b hj X ac hm=>?_⟩,?_,fun j u hj X=>?_,?_⟩
    · show (xs 0 ++ L4).length=(xs 1 ++ [ii m,ii m,ii m,ii m]).length
      rw [length_append,length_append,dc,x3]
      rfl
    · show (xs 0 ++ L4).length<=_
      rw [length_append,dc]
      omega
    · rcases D k f g E with ⟨k',an,q⟩|q
      ·exact ar k' an g q
      exact .inr (by omega)
    · rcases mem_append.1 hb with q|q
      ·exact (Zq b q).1
      exact .inr (Zr b q).2.2.2
    · rcases mem_append.1 hb with q|q
      ·have:=(Zq b q).2.1;omega
      have:=cz.o b q;omega
    · have hd:b < H.heap.size/\∀ k,k < 9->(p k).ownBlock≠some b:=by
       rcases mem_append.1 hb with q|q
       ·exact ⟨by have:=(Zq b q).2.1;omega,(Zq b q).2.2⟩
       exact ⟨cz.o b q,(Zr b q).2.2.1⟩
      rcases D k f b e with ⟨k',an,q⟩|q
      ·exact hd.2 k' an q
      omega
    · have r:=ak.o j u b X ac
      rcases mem_append.1 hm with q|q
      ·exact ge j u b (by omega) X ac q
      rcases cy.o b q with t|t
      ·exact ef.o i j _ u b (by omega) HV.o X t ac
      omega
    · exact FT.heap HL.o (gd d (by omega) (fun e=>(al.o d e).1 rfl) S)
    · obtain ⟨n',gv,hr,hy⟩:=eq.o j u (by omega) X
      refine ⟨n',gv,hr,aF hy FT (fun b hb=>?_)⟩
      have r:=ak.o j u b X hb
      refine gd b r.2.2.2.2 (fun e=>ef.o i j _ u b (by omega) HV.o X e hb) (fun k f e=>?_)
      rcases ar k f b e with q|q
      ·exact r.2.2.2.1 q
      omega
    refine az.o.trans FT (fun b hb=>?_)
    rcases mem_cons.1 hb with q|q
    ·exact .inl (by simp [q])
    rcases mem_append.1 q with q|q
    ·exact .inl (by have:=tW HV.o (by simpa using q);simp [this])
    have:∃ k,k < 9/\(p k).ownBlock=some b:=by
     rcases mem_append.1 q with q|q
     ·exact ⟨0,by omega,by simpa using q⟩
     exact ⟨1,by omega,by simpa using q⟩
    obtain ⟨k,f,e⟩:=this
    rcases ar k f b e with t|t
    ·exact .inl (by simp [t])
    exact .inr t
   case measure=>simp [intOf];omega
 have fm:¬ (i:Int) < (a.length:Int):=by omega
 obtain ⟨⟨p,xs,nx,KL,h1,h2,h3,h4,h5,h6,h7,h8,h9,ae,O,bc⟩,hl,_,am⟩:=hI
 have cn:=aH hl
 obtain ⟨M,ai⟩:∃ x,x=wr:=⟨_,rfl⟩
 rw [<- ai] at h1 h2 O hl am cn |-
 clear ai
 have Zu:=am.size
 obtain ⟨B,bo⟩:∃ x,x=M.heap.size:=⟨_,rfl⟩
 obtain ⟨J,Y⟩:∃ W,W=M.alloc (.cells #[ii (-7)] 3):=⟨_,rfl⟩
 have y:Fr [] M J:=by rw [Y];exact (r0 _ _).alloc _
 have fy:J.cell? ⟨B,0,none⟩=some (ii (-7)):=by rw [Y,bo,aB (aC _ _)];rfl
 have je:J.heap.size=B+1:=by rw [Y,bo];simp
 have dn:Hi (J.ownsRow base 25 1 (.slice (so d) a.length a.length) a.length a):=by
  refine ⟨by omega,.inr ⟨d,a.length,a.toArray,rfl,hz,y.heap0 hl,Nat.le_refl _,by unfold maxLen;omega,by simp,by simp⟩⟩
 have I:=(show Hi _ from h1.fr y (by simp) (by simp))
 have bf:=(show Hi _ from h2.fr y (by simp))
 have HX:=(show Hi _ from And.intro h3 (And.intro h4 (And.intro h5 (And.intro h6 (And.intro h7 (And.intro ae (And.intro O bc)))))))
 have az:=aA am
 have ad:=aA y
 have he:c≠d:=by omega
 have gu:=aA fy
 have eu:Hi (∀ k,k < 9->∀ g,(p k).ownBlock=some g->g < M.heap.size):=fun k f g E=>((h1.own k f).lt g E).2
 clear h1 h2 h3 h4 h5 h6 h7 ae O bc hl am y fy
 go_wp2_with fail
 rw [<- Y,<- bo]
 have jf:M.heap.size<=B:=by omega
 have iv:=aA bo
 clear Y bo
 have ah:d < J.heap.size:=by omega
 go_loopw [11] (fun j wr=>∃ k:Nat,k<=a.length/\j=.int .i64 k/\FillI J base a.length 25 (.slice (so d) a.length a.length) a (fun _=>.slice (so B) 1 1) k wr) (fun j _=>a.length - (intOf j).toNat)
 case atStart=>exact ⟨0,Nat.zero_le _,rfl,dn.o,r0 _ _⟩
 obtain ⟨k,f,rfl,hI⟩:=hrel
 by_cases ag:k < a.length
 ·have ap:(k:Int) < (a.length:Int):=by omega
  have R:∃ cur:Array Value,wr.heap[d]?=some (.cells cur 25 (0,0))/\k < cur.size:=by
   rcases hI.own.2 with ⟨e,_⟩|⟨g,ev,cur,e,_,hh,hc,_,hs,_⟩
   ·cases e
   cases e
   exact ⟨cur,hh,by omega⟩
  obtain ⟨cur,R,bk⟩:=R
  obtain ⟨br,ft⟩:∃ br,wr.cell? ⟨d,k,none⟩=some br:=⟨_,(aB R).trans (Array.getElem?_eq_getElem bk)⟩
  have fu:wr.frozen? ⟨d,k,none⟩=false:=bI R
  have HP:=(show Hi _ from hI.put (fun _=>rfl) ag rfl)
  clear hI R bk
  go_wp2_with fail
  go_roundw
  case rel=>exact ⟨k+1,ag,by go_num,HP.o⟩
  case measure=>simp [intOf];omega
 have ap:¬ (k:Int) < (a.length:Int):=by omega
 have bl:k=a.length:=by omega
 have aq:=hI.own
 rw [bl,drop_of_length_le (Nat.le_refl _),append_nil] at aq
 have aa:=hI.fr
 have ba:=aA aq
 clear hI bl aq
 obtain ⟨W2,bj⟩:∃ W,W=wr:=⟨_,rfl⟩
 rw [<- bj] at ba aa |-
 clear bj
 have gz:base<=W2.heap.size:=by have:=aa.size;omega
 have ib:J.heap.size<=W2.heap.size:=aa.size
 have io:=I.o.lt
 have dl:Hi (Fr [d] J W2):=aa
 have aj:Hi (∀ (W:World) (cs:Array Value),W.ownsRow base 25 1 (.slice (so d) a.length a.length) a.length (aO 1 (fun _=>.slice (so B) 1 1) a.length)->(W.alloc (.cells cs 25)).ownsRow base 25 1 (.slice (so d) a.length a.length) a.length (aO 1 (fun _=>.slice (so B) 1 1) a.length)):=fun W cs h=>h.alloc _
 have bz:Hi (∀ (W:World) (j:Nat) (u:Value),[Value.slice (so B) 1 1][j]?=some u->(W.alloc (.cells #[.slice (so B) 1 1] 25)).cell? ((⟨W.heap.size,0,none⟩:Addr).add j)=some u):=fun W=>cU W _ 25
 have cb:Hi (∀ (W:World) (j:Nat) (u:Value),[Value.slice (so B) 1 1,.slice (so B) 1 1][j]?=some u->(W.alloc (.cells #[.slice (so B) 1 1,.slice (so B) 1 1] 25)).cell? ((⟨W.heap.size,0,none⟩:Addr).add j)=some u):=fun W=>cU W _ 25
 obtain ⟨l2,cm⟩:∃ l2,(xs 2).length=l2:=⟨_,rfl⟩
 have ab:=I.o.own 2 (by omega)
 rw [cm] at ab
 obtain ⟨a2,q2,be⟩:=fF ab
 rw [be] at ab
 have ir:l2<=3*N:=by have:=HX.o.2.2.2.1;omega
 have S:∀ k,k < 9->(p k).ownBlock≠some d:=fun k f e=>by
  have:=bi.o
  rcases HX.o.2.2.2.2.2.1 k f d e with q|q
  ·have:=hK d q;omega
  omega
 have ej:Hi (∀ W,Fr [d] J W->W.cell? ⟨c,2,none⟩=some (.slice a2 l2 q2)/\W.frozen? ⟨c,2,none⟩=false/\W.ownsRow 0 46 1 (.slice a2 l2 q2) l2 (xs 2)/\BR W c p xs nx/\BL W KL xs):=fun W hf=>by
  have au:=I.o.fr hf (by simp;omega) (fun k f g E=>by simp;intro e;subst e;exact S k f E)
  have dx:∀ b∈KL,b∉[d]:=fun b hb e=>by
   have e':b=d:=by simpa using e
   subst e'
   rcases (HX.o.2.2.2.2.2.2.1 b hb).1 with q|q|q
   · have:=hK b q;omega
   · obtain ⟨u,X,ac⟩:=mem_filterMap.1 q
     obtain ⟨j,hj⟩:=mem_iff_getElem?.1 X
     exact (ak.o j u b hj ac).2.2.1 rfl
   have:=bi.o;omega
  refine ⟨by rw [au.cell 2 (by omega),be],au.fz 2,?_,au,bf.o.fr hf dx⟩
  have:=au.own 2 (by omega)
  rw [be,cm] at this
  exact this
 have cx:Hi (c∉(Value.ownBlock (.slice a2 l2 q2)).toList):=fun e=>I.o.nb 2 (by omega) (by rw [be];simpa using e)
 have et:=aA be
 have gm:=aA cm
 have gt:=aA S
 clear aa be cm ab S
 go_wp2_with (first
  | (
    at_builtin
    refine dR rfl (.tmp 111) (.tmp 113) 46 rfl base 25 bq (.slice none 0 0) 1 24 Tryz.underlying46 dw dz ea eb rfl (.slice (so d) a.length a.length) a.length (aO 1 (fun _=>.slice (so B) 1 1) a.length) rfl (aj.o _ _ ba.o) ⟨W2.heap.size,0,none⟩ 1 1 [.slice (so B) 1 1] rfl rfl (bz.o W2) (by simp [Value.oneCell']) (by unfold maxLen;omega) (by omega) (by simp;omega) (by omega) ?_
    intro v1 w3 s C l
    obtain ⟨g1,c1,rfl⟩:=bK s (by omega)
    have cd:=aA s
    have bx:=aA C
    have bu:Hi (eG (W2.alloc (.cells #[.slice (so B) 1 1] 25)) w3 (.slice (so d) a.length a.length) (.slice (so g1) (a.length+1) c1)):=l
    have dm:Hi (Fr [d] J w3):=(dl.o.alloc _).trans (bE l) (fun x hx=>.inl hx)
    have ic:W2.heap.size<=w3.heap.size:=(by have:=(bE l).size;simp at this;omega)
    clear s C l)
  | (
    at_builtin
    refine dR rfl (.tmp 115) (.tmp 118) 46 rfl base 25 bq (.slice none 0 0) 1 24 Tryz.underlying46 dw dz ea eb rfl (.slice (so d) a.length a.length) a.length (aO 1 (fun _=>.slice (so B) 1 1) a.length) rfl (aj.o _ _ bx.o) ⟨w3.heap.size,0,none⟩ 2 2 [.slice (so B) 1 1,.slice (so B) 1 1] rfl rfl (cb.o w3) (by simp [Value.oneCell']) (by unfold maxLen;omega) (by omega) (by simp;omega) (by omega) ?_
    intro v2 F s C l
    obtain ⟨g2,c2,rfl⟩:=bK s (by omega)
    have ce:=aA s
    have bh:=aA C
    have bv:Hi (eG (w3.alloc (.cells #[.slice (so B) 1 1,.slice (so B) 1 1] 25)) F (.slice (so d) a.length a.length) (.slice (so g2) (a.length+2) c2)):=l
    have ax:Hi (Fr [d] J F):=(dm.o.alloc _).trans (bE l) (fun x hx=>.inl hx)
    have ie:w3.heap.size<=F.heap.size:=(by have:=(bE l).size;simp at this;omega)
    obtain ⟨fe,il,fs,_,_⟩:=ej.o F ax.o
    have cf:Hi ((F.alloc (.cells #[.slice (so d) a.length a.length,.slice (so g1) (a.length+1) c1,.slice (so g2) (a.length+2) c2] 46)).ownsRow 0 46 1 (.slice a2 l2 q2) l2 (xs 2)):=fs.alloc _
    have cc:Hi (∀ (j:Nat) (u:Value),[Value.slice (so d) a.length a.length,.slice (so g1) (a.length+1) c1,.slice (so g2) (a.length+2) c2][j]?=some u->(F.alloc (.cells #[.slice (so d) a.length a.length,.slice (so g1) (a.length+1) c1,.slice (so g2) (a.length+2) c2] 46)).cell? ((⟨F.heap.size,0,none⟩:Addr).add j)=some u):=cU F _ 46
    have de:c < F.heap.size:=aI fe
    clear s C l fs)
  | (
    at_builtin
    refine dR rfl (.tmp 124) (.tmp 128) 63 rfl 0 46 ga (.slice none 0 0) 1 24 Tryz.underlying63 hp ih ij ik rfl (.slice a2 l2 q2) l2 (xs 2) rfl cf.o ⟨F.heap.size,0,none⟩ 3 3 [.slice (so d) a.length a.length,.slice (so g1) (a.length+1) c1,.slice (so g2) (a.length+2) c2] rfl rfl cc.o (by simp [Value.oneCell']) (by unfold maxLen;omega) (by omega) (by simp) (by omega) ?_
    intro v5 H ho f ha
    obtain ⟨g5,c5,rfl⟩:=bK ho (by omega)
    have af:=bE ha
    have fw:H.cell? ⟨c,2,none⟩=some (.slice a2 l2 q2):=(af.cell c 2 (by simp;omega) cx.o).trans ((((r0 [] F).alloc _).cell c 2 de (by simp)).trans fe)
    have dk:H.frozen? ⟨c,2,none⟩=false:=(af.frozen c 2 (by simp;omega) cx.o).trans ((((r0 [] F).alloc _).frozen c 2 de (by simp)).trans il)))
 refine bodyPost_end (v:=.tuple #[]) (results_none rfl _ _ _) rfl ⟨rfl,?_⟩
 obtain ⟨x3,x4,x5,x6,x7,ar,Zq,ge⟩:=HX.o
 obtain ⟨KS,s1,s2,m0,m1,m2⟩:=mN (pat:=fun _=>.slice (so B) 1 1) (fun _=>rfl) cd.o bu.o bh.o ce.o bv.o
 obtain ⟨_,_,_,gw,ch⟩:=ej.o F ax.o
 obtain ⟨L3,dt⟩:∃ L,L=[Value.slice (so d) a.length a.length,.slice (so g1) (a.length+1) c1,.slice (so g2) (a.length+2) c2]:=⟨_,rfl⟩
 have ey:Fr [] F (F.alloc (.cells #[.slice (so d) a.length a.length,.slice (so g1) (a.length+1) c1,.slice (so g2) (a.length+2) c2] 46)):=(r0 _ _).alloc _
 obtain ⟨P,cg⟩:=(gw.fr ey (by simp) (by simp)).push 2 (by omega) (.slice (so g5) (l2+3) c5) L3 (by rw [dt,gm.o];exact ho) (by rw [et.o];exact ha)
 have bs:Fr (c :: (p 2).ownBlock.toList) F (H.setCell ⟨c,2,none⟩ (.slice (so g5) (l2+3) c5)):=ey.of0.trans cg (fun x hx=>.inl hx)
 obtain ⟨W6,gy⟩:∃ W,W=H.setCell ⟨c,2,none⟩ (.slice (so g5) (l2+3) c5):=⟨_,rfl⟩
 rw [<- gy] at P bs |-
 have iu:=bs.size
 have ia:=bi.o
 have dj:=eu.o
 have fk:L3.length=3:=by rw [dt];rfl
 have bp:F.cell? ⟨B,0,none⟩=some (ii (-7)):=(ax.o.cell B 0 (by omega) (by simp;omega)).trans gu.o
 have im:∀ b∈KS,b=d\/W2.heap.size<=b:=fun b hb=>by
  rcases s1 b hb with q|q
  ·simp [Value.ownBlock] at q;exact .inl q.symm
  exact .inr q
 have Q:∀ b∈KL ++ (KS ++ [B]),b≠c/\(∀ k,k < 9->(p k).ownBlock≠some b)/\(b∈K\/b∈d :: fK a\/w.heap.size<=b)/\b < F.heap.size:=fun b hb=>by
  rcases mem_append.1 hb with q|q
  ·obtain ⟨t1,t2,t3⟩:=Zq b q
   refine ⟨fun e=>?_,t3,?_,by omega⟩
   · subst e
     rcases t1 with r|r|r
     ·exact eo.o r
     ·obtain ⟨u,X,ac⟩:=mem_filterMap.1 r
      obtain ⟨j,hj⟩:=mem_iff_getElem?.1 X
      exact (ak.o j u b hj ac).2.2.2.2 rfl
     omega
   rcases t1 with r|r|r
   ·exact .inl r
   ·exact .inr (.inl (mem_cons_of_mem _ r))
   exact .inr (.inr r)
  rcases mem_append.1 q with q|q
  · have fd:=s2 b q
    rcases im b q with r|r
    ·subst r
     exact ⟨by omega,gt.o,.inr (.inl (by simp)),fd⟩
    exact ⟨by omega,fun k f e=>by have:=dj k f b e;omega,.inr (.inr (by omega)),fd⟩
  have e:b=B:=by simpa using q
  subst e
  exact ⟨by omega,fun k f e=>by have:=dj k f b e;omega,.inr (.inr (by omega)),by omega⟩
 have ew:BL W6 (KL ++ (KS ++ [B])) (aK xs 2 (xs 2 ++ L3)):=by
  refine ((ch.up (K':=KL ++ (KS ++ [B])) (fun b hb=>mem_append_left _ hb)).pairs L3 (fun u X=>?_)).fr bs (fun b hb hm=>?_)
  ·have up:∀ b∈KS,b∈KL ++ (KS ++ [B]):=fun b hb=>by simp [hb]
   rw [dt] at X
   simp only [mem_cons,not_mem_nil,or_false] at X
   rcases X with rfl|rfl|rfl
   · exact (m0.up up).pairs (by omega) (by simp) bp
   · exact (m1.up up).pairs (by omega) (by simp) bp
   exact (m2.up up).pairs (by omega) (by simp) bp
  rcases mem_cons.1 hm with q|q
  · exact (Q b hb).1 q
  exact (Q b hb).2.1 2 (by omega) (by simpa using q)
 have D:∀ k,k < 9->∀ g,(aK p 2 (.slice (so g5) (l2+3) c5) k).ownBlock=some g->(∃ k',k' < 9/\(p k').ownBlock=some g)\/F.heap.size<=g:=fun k f g E=>by
  by_cases k2:k=2
  ·subst k2
   rw [gA] at E
   rcases fE ha g E with q|q
   · exact .inl ⟨2,by omega,by rw [et.o];exact q⟩
   simp at q;exact .inr (by omega)
  rw [fW _ _ k2] at E
  exact .inl ⟨k,f,E⟩
 have V:∀ b,b∈(range 9).filterMap (fun k=>(aK p 2 (.slice (so g5) (l2+3) c5) k).ownBlock)->∃ k,k < 9/\(aK p 2 (.slice (so g5) (l2+3) c5) k).ownBlock=some b:=fun b hb=>by
  obtain ⟨k,f,e⟩:=mem_filterMap.1 hb
  exact ⟨k,mem_range.1 f,e⟩
 refine ⟨⟨(KL ++ (KS ++ [B])) ++ (range 9).filterMap (fun k=>(aK p 2 (.slice (so g5) (l2+3) c5) k).ownBlock),⟨⟨_,_,nx,KL ++ (KS ++ [B]),P,ew,x3,x4,?_,?_,?_,?_,h9,fun k f g E=>?_,fun b hb=>⟨mem_append_left _ hb,fun k f e=>?_⟩⟩,fun hm=>?_,fun b hb=>?_⟩,fun b hb=>?_⟩,?_⟩
 ·show (xs 0).length<=_
  omega
 ·show (xs 2 ++ L3).length<=_
  rw [length_append,fk]
  omega
 ·show (xs 3).length<=_/\(xs 5).length<=_/\(xs 6).length<=_
  omega
 ·omega
 ·exact mem_append_right _ (mem_filterMap.2 ⟨k,mem_range.2 f,E⟩)
 ·rcases D k f b e with ⟨k',an,q⟩|q
  ·exact (Q b hb).2.1 k' an q
  have:=(Q b hb).2.2.2;omega
 ·rcases mem_append.1 hm with q|q
  ·exact (Q c q).1 rfl
  obtain ⟨k,f,e⟩:=V c q
  exact P.nb k f e
 ·rcases mem_append.1 hb with q|q
  ·have:=(Q b q).2.2.2;omega
  obtain ⟨k,f,e⟩:=V b q
  exact ((P.own k f).lt b e).2
 ·rcases mem_append.1 hb with q|q
  ·exact (Q b q).2.2.1
  obtain ⟨k,f,e⟩:=V b q
  rcases D k f b e with ⟨k',an,r⟩|r
  · rcases ar k' an b r with t|t
    ·exact .inl t
    exact .inr (.inr t)
  exact .inr (.inr (by omega))
 refine ((az.o.then0 ad.o).trans ax.o (fun b hb=>.inl (by simp_all))).trans bs (fun b hb=>?_)
 rcases mem_cons.1 hb with q|q
 ·exact .inl (by simp [q])
 rcases ar 2 (by omega) b (by simpa using q) with t|t
 · exact .inl (by simp [t])
 exact .inr t
