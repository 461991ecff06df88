import Derived.Test.YtapabahhfanmmaaGreatDoorCRefG
import Derived.Test.YtapabahhfanmmaaGreatDoorCBookW
namespace Go.Proofs.YtapabahhfanmmaaGreatDoor
open Go.RowKit List
set_option maxRecDepth 100000
set_option maxHeartbeats 2000000
structure Gm (w:World) (g:Value) (L:List Nat) (t:T):Prop where
 ex:∃ sb gb pb cap rb qb cap2,g=.pointer (so sb)/\L=[sb,gb,pb,rb,qb]/\w.cell? ⟨sb,0,none⟩=some (.pointer (so gb))/\w.cell? ⟨sb,1,none⟩=some (.pointer (so rb))/\GS w gb pb cap t/\RG w rb qb cap2 t
 nd:L.Nodup
 ok:fI t
 os:OS t
 tn:0<=t.turn/\t.turn<=1000000000
theorem Gm.lt {w:World}{g:Value}{L:List Nat}{t:T}(h:Gm w g L t):∀ b∈L,b < w.heap.size:=by
 obtain ⟨n,i,k,e,m,l,a,_,rfl,f,j,c,d⟩:=h.ex
 intro b hb
 simp only [mem_cons,not_mem_nil,or_false] at hb
 rcases hb with rfl|rfl|rfl|rfl|rfl
 ·exact aI f
 ·exact c.lt
 ·exact c.row.lt
 ·exact d.lt
 exact d.row.lt
theorem Gm.fr {S:List Nat}{w q:World}{g:Value}{L:List Nat}{t:T}(h:Gm w g L t)(e:Fr S w q)(hs:∀ b∈L,b∉S):Gm q g L t:=by
 have d:=h.lt
 obtain ⟨⟨a,m,n,f,p,o,c,h1,rfl,r,s,u,v⟩,i,j,k,l⟩:=h
 refine ⟨⟨a,m,n,f,p,o,c,h1,rfl,?_,?_,u.fr e (hs m (by simp)) (hs n (by simp)),v.fr e (hs p (by simp)) (hs o (by simp))⟩,i,j,k,l⟩
 ·rw [e.cell a 0 (d a (by simp)) (hs a (by simp))];exact r
 rw [e.cell a 1 (d a (by simp)) (hs a (by simp))];exact s
theorem Gm.fr0 {w a:World}{g:Value}{L:List Nat}{t:T}(h:Gm w g L t)(b:Fr [] w a):Gm a g L t:=h.fr b (by simp)
structure SR (w:World) (bb:Nat) (L K:List Nat) (N:Nat) (tn:Int) (g':Value) (w':World):Prop where
 ex:∃ L' t' K',Gm w' g' L' t'/\Bk w' bb K' (N+1)/\((∀ x∈L',x∈L\/w.heap.size<=x)/\∀ x∈L'.eraseIdx 2,x∈L.eraseIdx 2\/w.heap.size<=x)/\(∀ x∈K',x∈K\/w.heap.size<=x)/\(∀ x∈L',x≠bb/\x∉K')
 fr:Fr (bb :: (L.eraseIdx 2 ++ K)) w w'
theorem JP:(Tryz.prog.info? 82).map (fun i=>(i.zero,i.size,i.bytes))=some (some (.slice none 0 0),1,24):=by kernel_rfl
theorem zN (m:Int):∀ n,(replicate n (iK m)).flatMap U.cells=aO 11 (dX m) n
 | 0=>rfl
 | n+1=>by
  rw [replicate_succ',flatMap_append,zN m n,<- lL (yG m) n 1,OE]
  simp
theorem QT {α:Type}(x:α)(us:List α)(k:Nat)(a:k < us.length):(replicate k x ++ us.drop k).set k x=replicate (k+1) x ++ us.drop (k+1):=by
 rw [set_append_right _ _ (by simp),length_replicate,Nat.sub_self,drop_eq_getElem_cons a,set_cons_zero,replicate_succ',append_assoc]
 rfl
structure FolkI (W:World) (pb cap:Nat) (us:List U) (m:Int) (k:Nat) (wr:World):Prop where
 row:PRow wr pb cap (replicate k (iK m) ++ us.drop k)
 fr:Fr [pb] W wr
theorem FolkI.put {W:World}{b a:Nat}{us:List U}{m:Int}{k:Nat}{wr:World}(h:FolkI W b a us m k wr)(c:k < us.length):FolkI W b a us m (k+1) (wr.setCells b (k*11) (iK m).cells):=by
 refine ⟨?_,Fr.setCells b _ _ _ h.fr (.inl (by simp))⟩
 have:=h.row.put (i:=k) (by simp;omega) (iK m)
 rw [QT _ _ _ c] at this
 exact this
theorem OB (a N d c base:Nat)(K:List Nat)(us:List U)(w:World)(h:Bk w a K N)(hN:N<=2200000)(Q:PRow w d c us)(gi:us.length<=1000)(fc:base<=d)(ga:a < base)(hK:∀ x∈K,x < base) :
  Cs 100 #[.pointer (so a),.slice (so d) us.length c] w fun e w'=>e=.returned (.tuple #[])/\OwnP w a N K [d] w':=by
 obtain ⟨ap,bz,cb,cc,ao⟩:=info_parts iT
 obtain ⟨ea,ew,fg,fh,fi⟩:=info_parts wE
 obtain ⟨eb,ex,fd,fe,ff⟩:=info_parts JP
 have gc:=Q.lt
 obtain ⟨⟨t,xs,nx,KL,h1,h2,h3,h4,h5,h6,h7,h8,h9,dc,bp⟩,Zs,Zr⟩:=h
 have fa:=h1.nxt
 have fb:=h1.fz 9
 have gb:=h1.lt
 have et:a≠d:=by omega
 obtain ⟨m,hm⟩:∃ m,m=nx - 1:=⟨_,rfl⟩
 obtain ⟨W0,ai⟩:∃ W,W=w.setCell ⟨a,9,none⟩ (.int .i64 m):=⟨_,rfl⟩
 have ab:Fr [a] w W0:=by rw [ai];exact (r0 _ _).setCell _ _ (by simp)
 have af:Hi (BR W0 a t xs m):=by
  show BR W0 a t xs m
  rw [ai];exact h1.mark m
 have ch:Hi (BL W0 KL xs):=h2.fr ab (fun b hb e=>Zs (by
          have:b=a:=by simpa using e
          subst this;exact (bp b hb).1))
 have bj:Hi (PRow W0 d c us):=Q.fr ab (by simp;omega)
 have HX:=(show Hi _ from And.intro h3 (And.intro h4 (And.intro h5 (And.intro h6 (And.intro h7 (And.intro dc bp))))))
 have en:=aA Zs
 have ei:=aA Zr
 have ez:-(3*(N:Int)) - 1<=m/\m<=0:=by omega
 have HM:=aA hm
 have ck:=aA ab
 have dw:w.heap.size=W0.heap.size:=by rw [ai];simp [World.setCell]
 have bm:=aA dw
 have fl:a < W0.heap.size:=af.o.lt
 have ey:ca W0 a 9 (ii m):=af.o.nxt
 clear h1 h2 h3 h4 h5 h6 h7 dc bp Zs Zr ab Q dw
 go_enter Tryz.func100,Tryz.ntmps100
 go_wp2_with fail
 rw [<- hm,<- ai]
 clear hm ai fa fb
 go_cut [4] (fun s4 wx=>∃ J:Nat,s4=.pointer (so J)/\wx.heap[J]?=some (.cells (iK m).arr 85)/\W0.heap.size<=J/\Fr [] W0 wx)
 case first =>
  go_region
  all_goals
   go_wp2_with fail
   go_meet
   exact ⟨_,rfl,aC W0 _,Nat.le_refl _,((r0 _ _).alloc _).drew⟩
 case rest =>
  obtain ⟨J,rfl,av,gj,D⟩:=hcut
  obtain ⟨W1,dh⟩:∃ W,W=wc:=⟨_,rfl⟩
  rw [<- dh] at av D |-
  clear dh
  have ag:=aA D
  have bk:Hi (PRow W1 d c us):=bj.o.fr D (by simp)
  have M:Hi (BR W1 a t xs m):=af.o.fr D (by simp) (by simp)
  have cj:Hi (BL W1 KL xs):=ch.o.fr D (by simp)
  have fu:J < W1.heap.size:=aH av
  have gk:J≠d:=by have:=bm.o;omega
  have ft:J≠a:=by omega
  have bn:Hi (∀ W,Fr [d] W1 W->W.cell? ⟨J,0,none⟩=some (ii m)/\W.cell? ⟨J,1,none⟩=some (ii 0)/\W.cell? ⟨J,2,none⟩=some (ii 0)/\W.cell? ⟨J,3,none⟩=some (ii 0)/\W.cell? ⟨J,4,none⟩=some (ii 0)/\W.cell? ⟨J,5,none⟩=some (ii m)/\W.cell? ⟨J,6,none⟩=some (ii 0)/\W.cell? ⟨J,7,none⟩=some (ii 0)/\W.cell? ⟨J,8,none⟩=some (ii 0)/\W.cell? ⟨J,9,none⟩=some (ii 0)/\W.cell? ⟨J,10,none⟩=some (ii 0)):=fun W hf=>by
   have hh:=hf.heap av (by simp;omega)
   exact ⟨aB hh,aB hh,aB hh,aB hh,aB hh,aB hh,aB hh,aB hh,aB hh,aB hh,aB hh⟩
  clear D av ey
  go_wp2_with fail
  go_loopw [5] (fun j wr=>∃ k:Nat,k<=us.length/\j=.int .i64 k/\FolkI W1 d c us m k wr) (fun j _=>us.length - (intOf j).toNat)
  case atStart=>exact ⟨0,Nat.zero_le _,rfl,bk.o,r0 _ _⟩
  obtain ⟨k,p,rfl,R⟩:=hrel
  obtain ⟨e0,e1,e2,e3,e4,e5,e6,e7,e8,e9,bo⟩:=bn.o wr R.fr
  by_cases be:k < us.length
  ·have bx:(k:Int) < (us.length:Int):=by omega
   have s:=R.row.there (i:=k) (by simp;omega)
   obtain ⟨o0,d0⟩:=Option.isSome_iff_exists.1 (s 0 (by omega)).1
   obtain ⟨o1,d1⟩:=Option.isSome_iff_exists.1 (s 1 (by omega)).1
   obtain ⟨o2,d2⟩:=Option.isSome_iff_exists.1 (s 2 (by omega)).1
   obtain ⟨o3,d3⟩:=Option.isSome_iff_exists.1 (s 3 (by omega)).1
   obtain ⟨o4,d4⟩:=Option.isSome_iff_exists.1 (s 4 (by omega)).1
   obtain ⟨o5,d5⟩:=Option.isSome_iff_exists.1 (s 5 (by omega)).1
   obtain ⟨o6,d6⟩:=Option.isSome_iff_exists.1 (s 6 (by omega)).1
   obtain ⟨o7,d7⟩:=Option.isSome_iff_exists.1 (s 7 (by omega)).1
   obtain ⟨o8,d8⟩:=Option.isSome_iff_exists.1 (s 8 (by omega)).1
   obtain ⟨o9,d9⟩:=Option.isSome_iff_exists.1 (s 9 (by omega)).1
   obtain ⟨gm,fx⟩:=Option.isSome_iff_exists.1 (s 10 (by omega)).1
   have z0:=R.row.fz (k*11)
   have z1:=R.row.fz (k*11+1)
   have z2:=R.row.fz (k*11+2)
   have z3:=R.row.fz (k*11+3)
   have z4:=R.row.fz (k*11+4)
   have z5:=R.row.fz (k*11+5)
   have z6:=R.row.fz (k*11+6)
   have z7:=R.row.fz (k*11+7)
   have z8:=R.row.fz (k*11+8)
   have z9:=R.row.fz (k*11+9)
   have gn:=R.row.fz (k*11+10)
   simp only [Nat.add_zero] at d0
   have HP:=(show Hi _ from R.put be)
   clear R s
   go_wp2_with fail
   go_roundw
   case rel=>exact ⟨k+1,be,by go_num,HP.o⟩
   case measure=>simp [intOf];omega
  have bx:¬ (k:Int) < (us.length:Int):=by omega
  have dn:k=us.length:=by omega
  obtain ⟨am,ak⟩:=R
  rw [dn,drop_of_length_le (Nat.le_refl _),append_nil] at am
  have bi:Hi (wr.ownsRow base 85 11 (.slice (so d) us.length c) us.length (aO 11 (dX m) us.length)):=by
   obtain ⟨cur,hh,hs,ht⟩:=am.h
   rw [length_replicate,zN] at ht
   have Zt:=am.le
   rw [length_replicate] at Zt
   exact ⟨by rw [fY],.inr ⟨d,c,cur,rfl,fc,hh,Zt,am.cap,hs,ht⟩⟩
  clear dn am
  obtain ⟨W2,di⟩:∃ W,W=wr:=⟨_,rfl⟩
  rw [<- di] at bi ak e0 e1 e2 e3 e4 e5 e6 e7 e8 e9 bo |-
  clear di
  have fy:base<=W2.heap.size:=by have:=ak.size;have:=ag.o.size;have:=bm.o;omega
  have ee:Hi (Fr [d] W1 W2):=ak
  have ah:Hi (∀ k,∀ u∈aO 11 (dX m) k,u.oneCell'=true):=fun k u hu=>by
   obtain ⟨j,_,rfl⟩:=mem_map.1 hu
   have hj:j % 11 < 11:=Nat.mod_lt _ (by omega)
   have:j % 11=0\/j % 11=1\/j % 11=2\/j % 11=3\/j % 11=4\/j % 11=5\/j % 11=6\/j % 11=7\/j % 11=8\/j % 11=9\/j % 11=10:=by omega
   unfold dX
   rcases this with e|e|e|e|e|e|e|e|e|e|e <;> (rw [e];rfl)
  have aq:Hi (∀ (W:World) (cs:Array Value),W.ownsRow base 85 11 (.slice (so d) us.length c) us.length (aO 11 (dX m) us.length)->(W.alloc (.cells cs 85)).ownsRow base 85 11 (.slice (so d) us.length c) us.length (aO 11 (dX m) us.length)):=fun W cs h=>h.alloc _
  have cr:Hi (∀ (W:World) (j:Nat) (u:Value),(aO 11 (dX m) 1)[j]?=some u->(W.alloc (.cells #[Value.int IntKind.i64 m,.int .i64 0,.int .i64 0,.int .i64 0,.int .i64 0,.int .i64 m,.int .i64 0,.int .i64 0,.int .i64 0,.int .i64 0,.int .i64 0] 85)).cell? ((⟨W.heap.size,0,none⟩:Addr).add j)=some u):=fun W=>cU W (aO 11 (dX m) 1) 85
  have ct:Hi (∀ (W:World) (j:Nat) (u:Value),(aO 11 (dX m) 2)[j]?=some u->(W.alloc (.cells #[Value.int IntKind.i64 m,.int .i64 0,.int .i64 0,.int .i64 0,.int .i64 0,.int .i64 m,.int .i64 0,.int .i64 0,.int .i64 0,.int .i64 0,.int .i64 0,Value.int IntKind.i64 m,.int .i64 0,.int .i64 0,.int .i64 0,.int .i64 0,.int .i64 m,.int .i64 0,.int .i64 0,.int .i64 0,.int .i64 0,.int .i64 0] 85)).cell? ((⟨W.heap.size,0,none⟩:Addr).add j)=some u):=fun W=>cU W (aO 11 (dX m) 2) 85
  have cu:Hi (∀ (W:World) (j:Nat) (u:Value),(aO 11 (dX m) 3)[j]?=some u->(W.alloc (.cells #[Value.int IntKind.i64 m,.int .i64 0,.int .i64 0,.int .i64 0,.int .i64 0,.int .i64 m,.int .i64 0,.int .i64 0,.int .i64 0,.int .i64 0,.int .i64 0,Value.int IntKind.i64 m,.int .i64 0,.int .i64 0,.int .i64 0,.int .i64 0,.int .i64 m,.int .i64 0,.int .i64 0,.int .i64 0,.int .i64 0,.int .i64 0,Value.int IntKind.i64 m,.int .i64 0,.int .i64 0,.int .i64 0,.int .i64 0,.int .i64 m,.int .i64 0,.int .i64 0,.int .i64 0,.int .i64 0,.int .i64 0] 85)).cell? ((⟨W.heap.size,0,none⟩:Addr).add j)=some u):=fun W=>cU W (aO 11 (dX m) 3) 85
  have gd:W1.heap.size<=W2.heap.size:=ak.size
  obtain ⟨H,au⟩:∃ H,(xs 3).length=H:=⟨_,rfl⟩
  obtain ⟨a3,q3,ad⟩:=fF (M.o.own 3 (by omega))
  rw [au] at ad
  have fn:H<=4*N:=by have:=HX.o.2.2.2.2.1;omega
  have X:∀ k,k < 9->(t k).ownBlock≠some d:=fun k p e=>by
   have:=hK d (HX.o.2.2.2.2.2.1 k p d e)
   omega
  have cm:Hi (∀ W,Fr [d] W1 W->W.cell? ⟨a,3,none⟩=some (.slice a3 H q3)/\W.frozen? ⟨a,3,none⟩=false/\W.ownsRow 0 82 1 (.slice a3 H q3) H (xs 3)/\BR W a t xs m/\BL W KL xs):=fun W hf=>by
   have aa:=M.o.fr hf (by simp;omega) (fun k p g S=>by simp;intro e;subst e;exact X k p S)
   have Zr:∀ b∈KL,b∉[d]:=fun b hb e=>by
    have e':b=d:=by simpa using e
    subst e'
    have:=hK b (HX.o.2.2.2.2.2.2 b hb).1
    omega
   refine ⟨by rw [aa.cell 3 (by omega),ad],aa.fz 3,?_,aa,cj.o.fr hf Zr⟩
   have:=aa.own 3 (by omega)
   rw [ad,au] at this
   exact this
  have aw:Hi (a∉(Value.ownBlock (.slice a3 H q3)).toList):=fun e=>M.o.nb 3 (by omega) (by rw [ad];simpa using e)
  have da:=aA ad
  have ej:=aA au
  have eq:=aA X
  clear ak ad au X
  go_wp2_with (first
    | (
      at_builtin
      refine dR rfl (.tmp 35) (.tmp 37) 82 rfl base 85 ap zeroU.val 11 88 Tryz.underlying82 bz cb cc ao rfl (.slice (so d) us.length c) us.length (aO 11 (dX m) us.length) rfl (aq.o _ _ bi.o) ⟨W2.heap.size,0,none⟩ 1 1 (aO 11 (dX m) 1) rfl rfl (cr.o W2) (ah.o 1) (by unfold maxLen;omega) (by omega) (by simp;omega) (by omega) ?_
      intro v1 w3 A P n
      obtain ⟨g1,c1,rfl⟩:=bK A (by omega)
      have cw:=aA A
      have cn:=aA P
      have ce:Hi (eG (W2.alloc (.cells #[Value.int IntKind.i64 m,.int .i64 0,.int .i64 0,.int .i64 0,.int .i64 0,.int .i64 m,.int .i64 0,.int .i64 0,.int .i64 0,.int .i64 0,.int .i64 0] 85)) w3 (.slice (so d) us.length c) (.slice (so g1) (us.length+1) c1)):=n
      have bq:Fr [d] W1 w3:=(ee.o.alloc _).trans (bE n) (fun x hx=>.inl hx)
      have ef:=aA bq
      have ge:W2.heap.size<=w3.heap.size:=(by have:=(bE n).size;simp at this;omega)
      obtain ⟨e0,e1,e2,e3,e4,e5,e6,e7,e8,e9,bo⟩:=bn.o w3 bq
      clear A P n bq)
    | (
      at_builtin
      refine dR rfl (.tmp 39) (.tmp 42) 82 rfl base 85 ap zeroU.val 11 88 Tryz.underlying82 bz cb cc ao rfl (.slice (so d) us.length c) us.length (aO 11 (dX m) us.length) rfl (aq.o _ _ cn.o) ⟨w3.heap.size,0,none⟩ 2 2 (aO 11 (dX m) 2) rfl rfl (ct.o w3) (ah.o 2) (by unfold maxLen;omega) (by omega) (by simp;omega) (by omega) ?_
      intro v2 w4 A P n
      obtain ⟨g2,c2,rfl⟩:=bK A (by omega)
      have cx:=aA A
      have bh:=aA P
      have cf:Hi (eG (w3.alloc (.cells #[Value.int IntKind.i64 m,.int .i64 0,.int .i64 0,.int .i64 0,.int .i64 0,.int .i64 m,.int .i64 0,.int .i64 0,.int .i64 0,.int .i64 0,.int .i64 0,Value.int IntKind.i64 m,.int .i64 0,.int .i64 0,.int .i64 0,.int .i64 0,.int .i64 m,.int .i64 0,.int .i64 0,.int .i64 0,.int .i64 0,.int .i64 0] 85)) w4 (.slice (so d) us.length c) (.slice (so g2) (us.length+2) c2)):=n
      have br:Fr [d] W1 w4:=(ef.o.alloc _).trans (bE n) (fun x hx=>.inl hx)
      have eg:=aA br
      have gf:w3.heap.size<=w4.heap.size:=(by have:=(bE n).size;simp at this;omega)
      obtain ⟨e0,e1,e2,e3,e4,e5,e6,e7,e8,e9,bo⟩:=bn.o w4 br
      clear A P n br)
    | (
      at_builtin
      refine dR rfl (.tmp 44) (.tmp 48) 82 rfl base 85 ap zeroU.val 11 88 Tryz.underlying82 bz cb cc ao rfl (.slice (so d) us.length c) us.length (aO 11 (dX m) us.length) rfl (aq.o _ _ bh.o) ⟨w4.heap.size,0,none⟩ 3 3 (aO 11 (dX m) 3) rfl rfl (cu.o w4) (ah.o 3) (by unfold maxLen;omega) (by omega) (by simp;omega) (by omega) ?_
      intro v3 F A P n
      obtain ⟨g3,c3,rfl⟩:=bK A (by omega)
      have cy:=aA A
      have eh:=aA P
      have cg:Hi (eG (w4.alloc (.cells #[Value.int IntKind.i64 m,.int .i64 0,.int .i64 0,.int .i64 0,.int .i64 0,.int .i64 m,.int .i64 0,.int .i64 0,.int .i64 0,.int .i64 0,.int .i64 0,Value.int IntKind.i64 m,.int .i64 0,.int .i64 0,.int .i64 0,.int .i64 0,.int .i64 m,.int .i64 0,.int .i64 0,.int .i64 0,.int .i64 0,.int .i64 0,Value.int IntKind.i64 m,.int .i64 0,.int .i64 0,.int .i64 0,.int .i64 0,.int .i64 m,.int .i64 0,.int .i64 0,.int .i64 0,.int .i64 0,.int .i64 0] 85)) F (.slice (so d) us.length c) (.slice (so g3) (us.length+3) c3)):=n
      have bs:Fr [d] W1 F:=(eg.o.alloc _).trans (bE n) (fun x hx=>.inl hx)
      have bg:=aA bs
      have gg:w4.heap.size<=F.heap.size:=(by have:=(bE n).size;simp at this;omega)
      obtain ⟨bu,dz,du,_,_⟩:=cm.o F bs
      have bd:a < F.heap.size:=aI bu
      have cz:Hi (F.ownsRow 0 82 1 (.slice a3 H q3) H (xs 3)):=du
      clear du
      clear A P n bs)
    | (
      at_builtin
      have ep:Hi ((F.alloc (.cells #[Value.slice (so d) us.length c,.slice (so g1) (us.length+1) c1,.slice (so g2) (us.length+2) c2,.slice (so g3) (us.length+3) c3] 82)).ownsRow 0 82 1 (.slice a3 H q3) H (xs 3)):=World.ownsRow.alloc cz.o _
      refine dR rfl (.tmp 54) (.tmp 59) 64 rfl 0 82 eb (.slice none 0 0) 1 24 Tryz.underlying64 ex fd fe ff rfl (.slice a3 H q3) H (xs 3) rfl ep.o ⟨F.heap.size,0,none⟩ 4 4 [Value.slice (so d) us.length c,.slice (so g1) (us.length+1) c1,.slice (so g2) (us.length+2) c2,.slice (so g3) (us.length+3) c3] rfl rfl (cU F _ 82) (by simp [Value.oneCell']) (by unfold maxLen;omega) (by omega) (by simp) (by omega) ?_
      intro v6 w6 ho p ha
      obtain ⟨g6,c6,rfl⟩:=bK ho (by omega)
      have V:=bE ha
      have ao:w6.cell? ⟨a,3,none⟩=some (.slice a3 H q3):=(V.cell a 3 (by simp;omega) aw.o).trans ((((r0 [] F).alloc _).cell a 3 bd (by simp)).trans bu)
      have dy:w6.frozen? ⟨a,3,none⟩=false:=(V.frozen a 3 (by simp;omega) aw.o).trans ((((r0 [] F).alloc _).frozen a 3 bd (by simp)).trans dz)))
  obtain ⟨KS,ba,bc,dp,dq,dr,ds⟩:=wZ (yG m) cw.o ce.o bh.o cx.o cf.o cy.o cg.o
  obtain ⟨L4,ar⟩:∃ L,L=[Value.slice (so d) us.length c,.slice (so g1) (us.length+1) c1,.slice (so g2) (us.length+2) c2,.slice (so g3) (us.length+3) c3]:=⟨_,rfl⟩
  have em:Hi (∀ u∈L4,MkU F KS u m):=fun u hu=>by
   rw [ar] at hu
   simp only [mem_cons,not_mem_nil,or_false] at hu
   rcases hu with rfl|rfl|rfl|rfl
   ·exact dp.units (by omega)
   ·exact dq.units (by omega)
   ·exact dr.units (by omega)
   exact ds.units (by omega)
  have co:Hi (∀ b∈KS,b=d\/W2.heap.size<=b):=fun b hb=>by
   rcases ba b hb with q|q
   ·simp [Value.ownBlock] at q;exact .inl q.symm
   exact .inr q
  have cp:=aA bc
  obtain ⟨_,_,_,dd,df⟩:=cm.o F bg.o
  have el:=aA df
  have bl:Hi (∀ k,k < 9->∀ g,(t k).ownBlock=some g->g < W1.heap.size):=fun k p g S=>((M.o.own k p).lt g S).2
  have bt:Fr [] F (F.alloc (.cells #[Value.slice (so d) us.length c,.slice (so g1) (us.length+1) c1,.slice (so g2) (us.length+2) c2,.slice (so g3) (us.length+3) c3] 82)):=(r0 _ _).alloc _
  obtain ⟨C,de⟩:=(dd.fr bt (by simp) (by simp)).push 3 (by omega) (.slice (so g6) (H+4) c6) L4 (by rw [ar,ej.o];exact ho) (by rw [da.o];exact ha)
  have bf:Fr (a :: (t 3).ownBlock.toList) F (w6.setCell ⟨a,3,none⟩ (.slice (so g6) (H+4) c6)):=bt.of0.trans de (fun x hx=>.inl hx)
  have ay:Hi (∀ g,Value.ownBlock (.slice (so g6) (H+4) c6)=some g->(t 3).ownBlock=some g\/F.heap.size<=g):=fun g S=>by
   rcases fE ha g S with q|q
   ·exact .inl (by rw [da.o];exact q)
   simp at q;exact .inr (by omega)
  obtain ⟨W7,dj⟩:∃ W,W=w6.setCell ⟨a,3,none⟩ (.slice (so g6) (H+4) c6):=⟨_,rfl⟩
  rw [<- dj] at C bf |-
  obtain ⟨v3,dx⟩:∃ v,v=Value.slice (so g6) (H+4) c6:=⟨_,rfl⟩
  rw [<- dx] at C ay
  obtain ⟨I,bw⟩:∃ I,(xs 4).length=I:=⟨_,rfl⟩
  have e1:aK xs 3 (xs 3 ++ L4) 4=xs 4:=rfl
  have e2:aK t 3 v3 4=t 4:=rfl
  have al:=C.own 4 (by omega)
  rw [e1,e2,bw] at al
  obtain ⟨a4,q4,an⟩:=fF al
  rw [an] at al
  have fo:I<=4*N:=by have:=HX.o.2.2.2.2.1;have:=HX.o.2.1;omega
  have eu:W7.cell? ⟨a,4,none⟩=some (.slice a4 I q4):=by rw [C.cell 4 (by omega),e2,an]
  have fj:W7.frozen? ⟨a,4,none⟩=false:=C.fz 4
  have ev:ca W7 a 9 (ii m):=C.nxt
  have aj:a < W7.heap.size:=C.lt
  have eo:=aA al
  have ae:Hi (a∉(Value.ownBlock (.slice a4 I q4)).toList):=fun e=>C.nb 4 (by omega) (by rw [e2,an];simpa using e)
  have ed:=aA C
  have ax:=aA bf
  have db:=aA an
  have ek:=aA bw
  have cq:=aA ar
  clear dp dq dr ds ba bc dd df bt C de bf dj dx e1 e2 al an bw ar ho p ha V ao dy bu dz bi cw cx cy cn bh eh ce cf cg cr ct cu aq
  have HS:Hi (∀ w',Fr [] W7 w'->ca w' a 4 (.slice a4 I q4)/\ca w' a 9 (ii m)):=fun w' hf=>⟨(hf.cell a 4 aj (by simp)).trans eu,(hf.cell a 9 aj (by simp)).trans ev⟩
  have f:=HS.o W7.drew ((r0 _ _).drew)
  refine TwoFree.region (fun w':World=>w'.cell? ⟨a,4,none⟩=some (.slice a4 I q4)/\w'.cell? ⟨a,9,none⟩=some (ii m)) 25 (by kernel_rfl) ?_
  refine (show TwoFree Tryz.prog Region.Mode.any _ _ _ 25 26 (Array.replicate 26 false) _ _ from ?_)
  refine tw 0 (fun _=>f) ?_;try simp only [Act.put,Z]
  refine tw 1 (fun _=>f) ?_;try simp only [Act.put,Z]
  refine tw 2 (fun _=>f) ?_;try simp only [Act.put,Z]
  refine tw 3 (fun _=>f) ?_;try simp only [Act.put,Z]
  refine tt 4 f ?_;try simp only [Act.put,Z]
  refine tw 5 (fun _=>f) ?_;try simp only [Act.put,Z]
  refine tw 6 (fun _=>f) ?_;try simp only [Act.put,Z]
  refine tw 7 (fun _=>f) ?_;try simp only [Act.put,Z]
  refine tt 8 f ?_;try simp only [Act.put,Z]
  refine tw 9 (fun _=>f) ?_;try simp only [Act.put,Z]
  refine tw 10 (fun _=>f) ?_;try simp only [Act.put,Z]
  refine tw 11 (fun _=>f) ?_;try simp only [Act.put,Z]
  refine tt 12 f ?_;try simp only [Act.put,Z]
  refine tw 13 (fun _=>f) ?_;try simp only [Act.put,Z]
  refine tw 14 (fun _=>f) ?_;try simp only [Act.put,Z]
  refine tw 15 (fun _=>f) ?_;try simp only [Act.put,Z]
  refine tt 16 f ?_;try simp only [Act.put,Z]
  refine tw 17 (fun _=>f) ?_;try simp only [Act.put,Z]
  refine tw 18 (fun _=>f) ?_;try simp only [Act.put,Z]
  refine tw 19 (fun _=>f) ?_;try simp only [Act.put,Z]
  refine tt 20 f ?_;try simp only [Act.put,Z]
  refine t1 21 fun K' l=>?_
  have HK:=aA l
  clear l
  go_simp
  obtain ⟨W8,Zq⟩:∃ W,W=(W7.alloc (.cells #[ii m,ii m,ii m,ii m] 3)).drew:=⟨_,rfl⟩
  rw [<- Zq]
  have E:Fr [] W7 W8:=by rw [Zq];exact ((r0 _ _).alloc _).drew
  have dt:∀ (j:Nat) (y:Value),[ii m,ii m,ii m,ii m][j]?=some y->W8.cell? ((⟨W7.heap.size,0,none⟩:Addr).add j)=some y:=by rw [Zq];exact cU W7 [ii m,ii m,ii m,ii m] 3
  have fs:=E.size
  have dv:W8.ownsRow 0 3 1 (.slice a4 I q4) I (xs 4):=aF eo.o E (by simp)
  clear Zq
  clear f
  have f:=HS.o W8 E
  refine HK.o _ _ ⟨fun _ _=>f,?_⟩
  clear HK K';try simp only [Act.put,Z]
  refine t1 22 fun K' l=>?_
  have HK:=aA l
  clear l
  rw [if_pos (by rfl)]
  refine kS _ _ 25 rfl 0 3 ea (ii 0) 1 8 Tryz.underlying25 ew fg fh fi rfl (.slice a4 I q4) I (xs 4) rfl dv ⟨W7.heap.size,0,none⟩ 4 4 [ii m,ii m,ii m,ii m] rfl rfl dt (by simp [Value.oneCell']) (by unfold maxLen;omega) (by omega) (by omega) (by omega) ?_
  intro v9 w9 ho p ha
  obtain ⟨g9,c9,rfl⟩:=bK ho (by omega)
  have V:=bE ha
  have dl:ca w9 a 4 (.slice a4 I q4):=(V.cell a 4 (by omega) ae.o).trans f.1
  have dm:ca w9 a 9 (ii m):=(V.cell a 9 (by omega) ae.o).trans f.2
  have fw:w9.frozen? ⟨a,4,none⟩=false:=(V.frozen a 4 (by omega) ae.o).trans ((E.frozen a 4 aj (by simp)).trans fj)
  clear f
  have f:=And.intro dl dm
  refine HK.o _ _ ⟨fun _ _=>f,?_⟩
  clear HK K' dt dv;try simp only [Act.put,Z]
  refine t1 23 fun K' l=>?_
  have HK:=aA l
  clear l
  go_simp
  refine HK.o _ _ ⟨fun _ _=>f,?_⟩
  clear HK K';try simp only [Act.put,Z]
  refine t1 24 fun K' l=>?_
  have HK:=aA l
  clear l
  go_simp
  refine HK.o _ _ ⟨fun _ _=>f,?_⟩
  clear HK K';try simp only [Act.put,Z]
  refine t1 25 fun K' l=>?_
  have HK:=aA l
  clear l
  go_simp
  refine HK.o _ _ ⟨fun h6=>absurd rfl h6,TwoFree.done (by kernel_rfl) ?_ _⟩
  clear HK K'
  refine bodyPost_end (v:=.tuple #[]) (results_none rfl _ _ _) rfl ⟨rfl,?_⟩
  obtain ⟨x3,x4,x5,x6,x7,cd,fk⟩:=HX.o
  obtain ⟨O,az⟩:=(ed.o.fr E (by simp) (by simp)).push 4 (by omega) (.slice (so g9) (I+4) c9) [ii m,ii m,ii m,ii m] (by rw [show aK xs 3 (xs 3 ++ L4) 4=xs 4 from rfl,ek.o];exact ho) (by rw [show aK t 3 v3 4=t 4 from rfl,db.o];exact ha)
  rw [show aK t 3 v3 4=t 4 from rfl] at az
  rw [show aK xs 3 (xs 3 ++ L4) 4=xs 4 from rfl] at O
  have Y:Fr (a :: ((t 3).ownBlock.toList ++ (t 4).ownBlock.toList)) F (w9.setCell ⟨a,4,none⟩ (.slice (so g9) (I+4) c9)) :=
   ((ax.o.mono (fun x hx=>.inl (by rcases mem_cons.1 hx with q|q <;> simp_all))).then0 E).trans az (fun x hx=>.inl (by rcases mem_cons.1 hx with q|q <;> simp_all))
  obtain ⟨WT,es⟩:∃ W,W=w9.setCell ⟨a,4,none⟩ (.slice (so g9) (I+4) c9):=⟨_,rfl⟩
  rw [<- es] at O Y |-
  have gh:=Y.size
  have Q:=bl.o
  have fp:w.heap.size<=W1.heap.size:=by have:=bm.o;have:=ag.o.size;omega
  have fq:=ax.o.size
  have dg:L4.length=4:=by rw [cq.o];rfl
  have fm:=M.o.lt
  have z:∀ b∈KL ++ KS,b≠a/\(∀ k,k < 9->(t k).ownBlock≠some b)/\(b∈K\/b∈[d]\/w.heap.size<=b)/\b < F.heap.size:=fun b hb=>by
   rcases mem_append.1 hb with q|q
   ·obtain ⟨t1,t2⟩:=fk b q
    exact ⟨fun e=>en.o (e ▸ t1),t2,.inl t1,by have:=ei.o b t1;omega⟩
   have dk:=cp.o b q
   rcases co.o b q with r|r
   ·subst r
    exact ⟨fun e=>et e.symm,eq.o,.inr (.inl (by simp)),dk⟩
   exact ⟨by omega,fun k p e=>by have:=Q k p b e;omega,.inr (.inr (by omega)),dk⟩
  have ec:∀ b,b≠a->(∀ k,k < 9->(t k).ownBlock≠some b)->b∉a :: ((t 3).ownBlock.toList ++ (t 4).ownBlock.toList):=fun b h1 h2 hm=>by
   rcases mem_cons.1 hm with q|q
   ·exact h1 q
   rcases mem_append.1 q with q|q
   ·exact h2 3 (by omega) (by simpa using q)
   exact h2 4 (by omega) (by simpa using q)
  have er:BL WT (KL ++ KS) (aK (aK xs 3 (xs 3 ++ L4)) 4 (xs 4 ++ [ii m,ii m,ii m,ii m])):=by
   have q:=((el.o.up (K':=KL ++ KS) (fun b hb=>mem_append_left _ hb)).people x4.1 L4 m (fun u hu=>(em.o u hu).up (fun b hb=>mem_append_right _ hb))).fr Y (fun b hb=>ec b (z b hb).1 (z b hb).2.1)
   rw [show (L4.map fun _=>ii m)=[ii m,ii m,ii m,ii m] by rw [cq.o];rfl] at q
   exact q
  have ac:∀ k,k < 9->∀ g,(aK (aK t 3 v3) 4 (.slice (so g9) (I+4) c9) k).ownBlock=some g->(∃ k',k' < 9/\(t k').ownBlock=some g)\/F.heap.size<=g:=fun k p g S=>by
   by_cases k4:k=4
   ·subst k4
    rw [gA] at S
    rcases fE ha g S with q|q
    ·exact .inl ⟨4,by omega,by rw [db.o];exact q⟩
    exact .inr (by omega)
   rw [fW _ _ k4] at S
   by_cases k3:k=3
   ·subst k3
    rw [gA] at S
    rcases ay.o g S with q|q
    · exact .inl ⟨3,by omega,q⟩
    exact .inr q
   rw [fW _ _ k3] at S
   exact .inl ⟨k,p,S⟩
  have B:∀ b,b∈(range 9).filterMap (fun k=>(aK (aK t 3 v3) 4 (.slice (so g9) (I+4) c9) k).ownBlock)->∃ k,k < 9/\(aK (aK t 3 v3) 4 (.slice (so g9) (I+4) c9) k).ownBlock=some b:=fun b hb=>by
   obtain ⟨k,p,e⟩:=mem_filterMap.1 hb
   exact ⟨k,mem_range.1 p,e⟩
  refine ⟨⟨(KL ++ KS) ++ (range 9).filterMap (fun k=>(aK (aK t 3 v3) 4 (.slice (so g9) (I+4) c9) k).ownBlock),⟨⟨_,_,m,KL ++ KS,O,er,x3,?_,?_,?_,?_,?_,ez.2,fun k p g S=>?_,fun b hb=>⟨mem_append_left _ hb,fun k p e=>?_⟩⟩,fun hm=>?_,fun b hb=>?_⟩,fun b hb=>?_⟩,?_⟩
  ·refine ⟨?_,x4.2⟩
   show (xs 3 ++ L4).length=(xs 4 ++ [ii m,ii m,ii m,ii m]).length
   rw [length_append,length_append,dg,x4.1]
   rfl
  ·show (xs 0).length<=_
   omega
  ·show (xs 2).length<=_
   omega
  ·show (xs 3 ++ L4).length<=_/\(xs 5).length<=_/\(xs 6).length<=_
   rw [length_append,dg]
   omega
  ·omega
  ·exact mem_append_right _ (mem_filterMap.2 ⟨k,mem_range.2 p,S⟩)
  ·rcases ac k p b e with ⟨k',bv,q⟩|q
   ·exact (z b hb).2.1 k' bv q
   have:=(z b hb).2.2.2;omega
  ·rcases mem_append.1 hm with q|q
   ·exact (z a q).1 rfl
   obtain ⟨k,p,e⟩:=B a q
   exact O.nb k p e
  ·rcases mem_append.1 hb with q|q
   ·have:=(z b q).2.2.2;omega
   obtain ⟨k,p,e⟩:=B b q
   exact ((O.own k p).lt b e).2
  ·rcases mem_append.1 hb with q|q
   ·exact (z b q).2.2.1
   obtain ⟨k,p,e⟩:=B b q
   rcases ac k p b e with ⟨k',bv,r⟩|r
   ·exact .inl (cd k' bv b r)
   exact .inr (.inr (by have:=bg.o.size;omega))
  refine (((ck.o.mono (fun x hx=>.inl (by simp_all))).then0 ag.o).trans bg.o (fun b hb=>.inl (by simp_all))).trans Y (fun b hb=>?_)
  rcases mem_cons.1 hb with q|q
  ·exact .inl (by simp [q])
  rcases mem_append.1 q with q|q
  ·exact .inl (by simp [cd 3 (by omega) b (by simpa using q)])
  exact .inl (by simp [cd 4 (by omega) b (by simpa using q)])
theorem UP (u:U)(w:World):(binOp BinOp.eql 85 u.val u.val).run Tryz.prog w=.ok (.bool true) w:=by
  simp [go_sem]
theorem SR.owned {w l m:World}{c N:Nat}{L K D:List Nat}{tn:Int}{g:Value}{t:T}(k:Gm w g L t)(e:∀ x∈L,x≠c/\x∉K)(i:Fr [] w l)(n:OwnP l c N K D m)(f:∀ x∈D,w.heap.size<=x):SR w c L K N tn g m:=by
 have a:=k.lt
 obtain ⟨⟨K',h,d⟩,j⟩:=n
 have hs:=i.size
 have hn:∀ x∈L,x∉c :: (K ++ D):=fun x hx hm=>by
  rcases mem_cons.1 hm with q|q
  ·exact (e x hx).1 q
  rcases mem_append.1 q with q|q
  ·exact (e x hx).2 q
  have:=f x q;have:=a x hx;omega
 refine ⟨⟨L,t,K',(k.fr0 i).fr j hn,h,⟨fun x hx=>.inl hx,fun x hx=>.inl hx⟩,fun x hx=>?_,fun x hx=>⟨(e x hx).1,fun hm=>?_⟩⟩,(i.of0 (S:=c :: (L.eraseIdx 2 ++ K))).trans j (fun b hb=>?_)⟩
 ·rcases d x hx with q|q|q
  ·exact .inl q
  ·exact .inr (f x q)
  exact .inr (by omega)
 ·rcases d x hm with q|q|q
  ·exact (e x hx).2 q
  ·have:=f x q;have:=a x hx;omega
  have:=a x hx;omega
 rcases mem_cons.1 hb with q|q
 ·exact .inl (by simp [q])
 rcases mem_append.1 q with q|q
 ·exact .inl (by simp [q])
 exact .inr (f b q)
theorem SR.after {w c d:World}{b N:Nat}{L K:List Nat}{tn:Int}{g:Value}(h:SR w b L K N tn g c)(a:Fr [] c d):SR w b L K N tn g d:=by
 obtain ⟨⟨e,n,K',i,j,k,l,m⟩,f⟩:=h
 exact ⟨⟨e,n,K',i.fr0 a,j.fr0 a,k,l,m⟩,f.then0 a⟩
theorem ID (g:Value)(L K:List Nat)(t:T)(l N:Nat)(w:World)(y:Gm w g L t)(v:Bk w l K N)(hA:∀ x∈L,x≠l/\x∉K)(hN:N<=2200000) :
  Cs 56 #[g,.pointer (so l)] w fun e R=>e=.returned (.bool true)/\SR w l L K N t.turn g R:=by
 have HG:=aA y
 have HB:=aA v
 have HA:=aA hA
 have F:=v.lt
 have C:=aA v.kl
 have J:t.us.length<=100:=y.ok.len
 have a:=y.lt
 obtain ⟨⟨Q,gb,pb,E,P,O,h,rfl,rfl,hx,hy,n,r⟩,_⟩:=y
 have H:=a Q (by simp)
 have af:=a P (by simp)
 have ae:=a O (by simp)
 have V:=OG gb pb E t w n
 have D:=aA r
 clear n r v hA a
 go_enter Tryz.func56,Tryz.ntmps56
 go_wp2_with fail
 refine Calls.mono V ?_
 rintro e S ⟨z,M,rfl,p,b,c⟩
 have ag:=c.size
 obtain ⟨us,d⟩:∃ us,t.us=us:=⟨_,rfl⟩
 have j:=D.o.fr0 c
 have A:Hi (∀ W,Fr [] S W->W.cell? ⟨Q,1,none⟩=some (.pointer (so P))/\W.cell? ⟨P,148,none⟩=some (.slice (so O) us.length h)/\PRow W z M us/\PRow W O h us):=fun W f=>by
  have h1:=j.fr0 f
  have h2:=h1.c148
  have h3:=h1.row
  rw [d] at h2 h3
  refine ⟨((c.then0 f).cell Q 1 H (by simp)).trans hy,h2,?_,h3⟩
  rw [<- d]
  exact b.fr f (by simp)
 rw [d] at J b |-
 have aa:=aA d
 have Y:=aA b
 obtain ⟨k1,k2,_,_⟩:=A.o S (r0 _ _)
 clear V j d b hx hy
 go_wp2_with fail
 clear k1 k2
 go_loopw [6,7] (fun s i wr=>s=.bool true/\∃ k:Nat,k<=us.length/\i=.int .i64 k/\Fr [] S wr) (fun _ i _=>us.length - (intOf i).toNat)
 case atStart=>exact ⟨rfl,0,Nat.zero_le _,rfl,r0 _ _⟩
 obtain ⟨rfl,k,hk,rfl,f⟩:=hrel
 by_cases a:k < us.length
 ·have q:(k:Int) < (us.length:Int):=by omega
  obtain ⟨k1,k2,k3,k4⟩:=A.o wr f
  obtain ⟨u,I⟩:∃ u,us[k]?=some u:=⟨us[k],getElem?_eq_getElem a⟩
  obtain ⟨c0,c1,c2,c3,c4,c5,c6,c7,c8,c9,ab⟩:=k3.ppl.at I
  obtain ⟨d0,d1,d2,d3,d4,d5,d6,d7,d8,d9,ac⟩:=k4.ppl.at I
  have ad:=UP u
  clear k3 k4 I
  go_wp2_with fail
  go_quiet (fail)
  go_wp2_with fail
  go_roundw
  case rel=>exact ⟨rfl,k+1,a,by go_num,f.drewN _⟩
  case measure=>simp [intOf];omega
 have q:¬ (k:Int) < (us.length:Int):=by omega
 have X:=OB l N z M w.heap.size K us wr ((HB.o.fr0 c).fr0 f) hN (A.o wr f).2.2.1 (by omega) p F C.o
 have B:=(show Hi (Cs 100 #[.pointer (so l),.slice (so z) us.length M] wr fun e R=>e=.returned (.tuple #[])/\OwnP wr l N K [z] R) from X)
 clear X
 go_wp2_with (go_at_call 100;refine Calls.mono B.o ?_;rintro e w3 ⟨rfl,hown⟩;have m:=(aA hown);clear hown)
 go_ret
 exact ⟨rfl,SR.owned HG.o HA.o (c.then0 f) m.o (by simp;exact p)⟩
