import Derived.Test.YtapabahhfanmmaaGreatDoorCOrds
namespace Go.Proofs.YtapabahhfanmmaaGreatDoor
open Go.RowKit List
set_option maxRecDepth 100000
set_option maxHeartbeats 1000000
def dL (a:ByteArray)(j:Nat):Nat:=((a.data[(j / 12)*13+j % 12]?).map UInt8.toNat).getD 0
def gJ (a:ByteArray)(y:Nat):Nat:=((a.data[y*13+12]?).map UInt8.toNat).getD 0
def gr (a:ByteArray)(j:Nat):Int:=(dY (dL a j)).1
def ow (a:ByteArray)(j:Nat):Int:=(dY (dL a j)).2.1
def kn (a:ByteArray)(j:Nat):Bool:=(dY (dL a j)).2.2
def aJ (a:ByteArray)(o:Int):Nat->Int
 | 0=>0
 | n+1=>if ow a n=o then aJ a o n+1 else aJ a o n
def pos (a:ByteArray)(o:Int):Nat->Nat
 | 0=>0
 | n+1=>if ow a n=o then n else pos a o n
def dS (a:ByteArray):Prop:=a.size=156/\(∀ y,y < 12->gJ a y=10)/\(∀ j,j < 144->kn a j=true)/\aJ a 0 144=1/\aJ a 1 144=1
theorem iG (a:ByteArray)(o:Int):∀ n,0<=aJ a o n/\aJ a o n<=n
 | 0=>⟨by simp [aJ],by simp [aJ]⟩
 | n+1=>by
  have:=iG a o n
  unfold aJ
  split <;> omega
theorem AD (a:ByteArray)(y x:Nat)(hx:x < 12)(h:y*13+x < a.size):(a[y*13+x]'h).toNat=dL a (y*12+x):=by
 unfold dL
 rw [show (y*12+x) / 12*13+(y*12+x) % 12=y*13+x by omega]
 have b:y*13+x < a.data.size:=h
 rw [Array.getElem?_eq_getElem b]
 rfl
theorem xN (a:ByteArray)(y:Nat)(h:y*13+12 < a.size):(a[y*13+12]'h).toNat=gJ a y:=by
 unfold gJ
 have b:y*13+12 < a.data.size:=h
 rw [Array.getElem?_eq_getElem b]
 rfl
theorem AE (a:ByteArray)(j:Nat):dL a j<=255:=by
 unfold dL
 cases a.data[(j / 12)*13+j % 12]? with
 | none=>simp
 | some b=>have:=b.toNat_lt;simp;omega
theorem xO (a:ByteArray)(j:Nat):gJ a j<=255:=by
 unfold gJ
 cases a.data[j*13+12]? with
 | none=>simp
 | some b=>have:=b.toNat_lt;simp;omega
theorem sD (s:Nat):(dY s=(0,-1,false))\/(∃ g,dY s=(g,-1,true)/\0<=g/\g<=10)\/dY s=(0,0,true)\/dY s=(0,1,true):=by
 unfold dY
 by_cases a:(s:Int)=46
 ·rw [if_pos a];exact .inr (.inl ⟨0,rfl,by omega,by omega⟩)
 rw [if_neg a]
 by_cases b:(s:Int)=35
 ·rw [if_pos b];exact .inr (.inl ⟨10,rfl,by omega,by omega⟩)
 rw [if_neg b]
 by_cases c:(49:Int)<=s/\(s:Int)<=57
 ·rw [if_pos c];exact .inr (.inl ⟨_,rfl,by omega,by omega⟩)
 rw [if_neg c]
 by_cases d:(s:Int)=65
 ·rw [if_pos d];exact .inr (.inr (.inl rfl))
 rw [if_neg d]
 by_cases e:(s:Int)=66
 ·rw [if_pos e];exact .inr (.inr (.inr rfl))
 rw [if_neg e]
 exact .inl rfl
theorem IU (a:ByteArray)(j:Nat):0<=gr a j/\gr a j<=10:=by
 unfold gr
 rcases sD (dL a j) with h|⟨g,h,h1,b⟩|h|h <;> rw [h] <;> dsimp only <;> omega
theorem vU (a:ByteArray)(j:Nat)(h:ow a j=0\/ow a j=1):gr a j=0:=by
 unfold ow at h
 unfold gr
 rcases sD (dL a j) with e|⟨g,e,_,_⟩|e|e <;> rw [e] at h |- <;> simp at h |-
theorem rV (a:ByteArray)(o:Int):∀ n,0 < aJ a o n->pos a o n < n/\ow a (pos a o n)=o
 | 0,h=>by simp [aJ] at h
 | n+1,h=>by
  unfold aJ at h
  unfold pos
  by_cases e:ow a n=o
  ·rw [if_pos e];exact ⟨by omega,e⟩
  rw [if_neg e] at h |-
  obtain ⟨h1,b⟩:=rV a o n h
  exact ⟨by omega,b⟩
def fL (f:Nat->Int)(n:Nat):List Value:=(range 144).map fun j=>if j < n then ii (f j) else ii 0
def eI (p q:Nat):List Value:=[ii ((p % 12:Nat):Int),ii ((p / 12:Nat):Int),ii ((q % 12:Nat):Int),ii ((q / 12:Nat):Int)]
theorem pX (f:Nat->Int)(n:Nat):(fL f n).length=144:=by simp [fL]
theorem DX (f:Nat->Int)(n:Nat)(l:List Value)(hn:n < 144):(fL f n ++ l).toArray.setIfInBounds n (ii (f n))=(fL f (n+1) ++ l).toArray:=by
 apply Array.ext_getElem?
 intro i
 rw [Array.getElem?_setIfInBounds]
 have hl:=pX f
 by_cases e:n=i
 ·subst e
  rw [if_pos rfl,if_pos (by simp [hl];omega)]
  simp only [getElem?_toArray]
  rw [getElem?_append_left (by rw [hl];omega)]
  unfold fL
  rw [getElem?_map,getElem?_range hn]
  simp
 rw [if_neg e]
 simp only [getElem?_toArray]
 by_cases hi:i < 144
 ·rw [getElem?_append_left (by rw [hl];omega),getElem?_append_left (by rw [hl];omega)]
  unfold fL
  rw [getElem?_map,getElem?_map,getElem?_range hi]
  simp only [Option.map_some,Option.some.injEq]
  by_cases h1:i < n
  ·rw [if_pos h1,if_pos (by omega)]
  rw [if_neg h1,if_neg (by omega)]
 rw [getElem?_append_right (by rw [hl];omega),getElem?_append_right (by rw [hl];omega),hl,hl]
theorem nK (f:Nat->Int)(n j:Nat)(l:List Value)(v:Value):(fL f n ++ l).toArray.setIfInBounds (144+j) v=(fL f n ++ l.set j v).toArray:=by
 apply Array.toList_inj.1
 rw [Array.toList_setIfInBounds]
 have hl:=pX f n
 simp only []
 rw [set_append_right _ _ (by omega),hl,Nat.add_sub_cancel_left]
theorem wX (f:Nat->Int)(n p q:Nat):(fL f n ++ eI p q).toArray.all (·.oneCell')=true:=by
 apply all_oneCell_toArray
 intro v a
 rcases mem_append.1 a with a|a
 ·obtain ⟨j,_,rfl⟩:=mem_map.1 a
  by_cases b:j < n
  ·rw [if_pos b];rfl
  rw [if_neg b];rfl
 simp only [eI,mem_cons,not_mem_nil,or_false] at a
 rcases a with rfl|rfl|rfl|rfl <;> rfl
structure MapJ (tx:ByteArray) (A:Nat) (W3:World) (n:Nat) (wr:World):Prop where
 fr:Fr [A+1,A+1+1] W3 wr
 m:wr.heap[A+1]?=some (.cells (fL (gr tx) n ++ eI (pos tx 0 n) (pos tx 1 n)).toArray 162)
 b:wr.heap[A+1+1]?=some (.cells #[ii (aJ tx 0 n),ii (aJ tx 1 n)] 54)
 k:∀ j,j < n->kn tx j=true
theorem zI:(Tryz.prog.info? 162).map (·.size)=some Tryz.zeroCells162.size:=by kernel_rfl
theorem zS:Tryz.zeroCells162.size=Tryz.zeroCells162.size:=rfl
theorem zO:Tryz.zeroCells162.all (·.oneCell')=true:=by kernel_rfl
theorem DW (f:Nat->Int):fL f 0=(range 144).map (fun _=>ii 0):=by
 unfold fL
 apply map_congr_left
 intro j _
 rw [if_neg (by omega)]
theorem GK (a b:Int)(w:World):(Op.equalIn 10000 54 (.agg #[ii a,ii b]) (.agg #[ii 1,ii 1])).run Tryz.prog w=.ok (a==1&&b==1) w:=by
 have u3:=Tryz.underlying3
 rw [show (10000:Nat)=9999+1 from rfl,Op.equalIn]
 simp only [Sem.run_bind,run_underlying Tryz.underlying54,Result.andThen_ok]
 simp only [Std.Legacy.Range.forIn_eq_forIn_range',Std.Legacy.Range.size,Nat.sub_zero,Nat.add_sub_cancel,Nat.div_one,range'_succ,range'_zero,forIn_cons,forIn_nil]
 by_cases h1:a=1 <;> by_cases c:b=1 <;> simp [go_sem,u3,h1,c]
theorem LS (a b:Int)(w:World):(binOp BinOp.neq 54 (.agg #[ii a,ii b]) (.agg #[ii 1,ii 1])).run Tryz.prog w=.ok (.bool (!(a==1&&b==1))) w:=by
 have c:=GK a b w
 simp [go_sem,c]
theorem OZ (c:ByteArray)(w:World) :
  Cs 76 #[.string c] w fun e w'=>((dS c/\e=.returned (.tuple #[.agg (fL (gr c) 144 ++ eI (pos c 0 144) (pos c 1 144)).toArray,.bool true]))\/(¬ dS c/\e=.returned (.tuple #[.agg Tryz.zeroCells162,.bool false])))/\Fr [] w w':=by
 obtain ⟨Q,af⟩:∃ p:Prop,p=dS c:=⟨_,rfl⟩
 rw [<- af]
 have L:=aA af
 clear af
 by_cases ai:c.size=156
 ·have az:Hi (∀ y (h:y < 12),(c[y*13+12]'(by omega)).toNat=gJ c y):=fun y h=>xN c y (by omega)
  have bc:Hi (∀ y x (h:y < 12) (h':x < 12),(c[y*13+x]'(by omega)).toNat=dL c (y*12+x)):=fun y x h h'=>AD c y x h' (by omega)
  go_enter Tryz.func76,Tryz.ntmps76
  go_wp2_with fail
  obtain ⟨W3,E⟩:∃ W,W=((w.alloc (.cells Tryz.zeroCells162 162)).alloc (.cells Tryz.zeroCells162 162)).alloc (.cells #[ii 0,ii 0] 54):=⟨_,rfl⟩
  rw [<- E]
  have V:Fr [] w W3:=by rw [E];exact (((r0 _ _).alloc _).alloc _).alloc _
  have hA:W3.heap[w.heap.size]?=some (.cells Tryz.zeroCells162 162):=by rw [E];exact ((r0 [] _).alloc _).heap0 (dD _ _ _)
  have an:MapJ c w.heap.size W3 0 W3:=by
   refine ⟨r0 _ _,?_,?_,fun j hj=>by omega⟩
   ·rw [E]
    have:=((r0 [] _).alloc (.cells #[ii 0,ii 0] 54)).heap0 (cR w (.cells Tryz.zeroCells162 162) (.cells Tryz.zeroCells162 162))
    rw [this,sT,DW]
    simp [eI,pos]
   rw [E];exact jF _ _ _ (by simp)
  clear E
  obtain ⟨A,am⟩:∃ x,x=w.heap.size:=⟨_,rfl⟩
  rw [<- am] at hA an |-
  have X:w.heap.size<=A:=by omega
  clear am
  go_loopw [15] (fun i wr=>∃ y:Nat,y<=12/\i=.int .i64 y/\MapJ c A W3 (y*12) wr/\∀ k,k < y->gJ c k=10) (fun i _=>12 - (intOf i).toNat)
  case atStart=>exact ⟨0,Nat.zero_le _,rfl,an,fun k hk=>by omega⟩
  obtain ⟨y,hy,rfl,t,av⟩:=hrel
  have al:=aA av
  clear av
  by_cases Y:y < 12
  ·have bo:(y:Int) < 12:=by omega
   have aq:(c[y*13+12]'(by omega)).toNat=gJ c y:=az.o y Y
   have bh:=xO c y
   have HI:=aA t
   clear t
   by_cases r:gJ c y=10
   ·rw [r] at aq
    have ba:=aA r
    clear r bh
    go_wp2_with fail
    obtain ⟨wo,Zq⟩:∃ x,x=wr:=⟨_,rfl⟩
    rw [<- Zq] at HI |-
    clear Zq aq
    go_loopw [25] (fun i wr=>∃ x:Nat,x<=12/\i=.int .i64 x/\MapJ c A W3 (y*12+x) wr) (fun i _=>12 - (intOf i).toNat)
    case atStart=>exact ⟨0,Nat.zero_le _,rfl,HI.o⟩
    obtain ⟨x,hx,rfl,t⟩:=hrel
    by_cases aa:x < 12
    ·have br:(x:Int) < 12:=by omega
     have bl:(c[y*13+x]'(by omega)).toNat=dL c (y*12+x):=bc.o y x Y aa
     have hm:=t.m
     have n:=t.b
     have q:∀ k,k < 148->(wr.cell? ⟨A+1,k,none⟩).isSome=true:=fun k hk=>by
      rw [aB hm]
      simp [fL,eI]
      omega
     have s:∀ k,wr.frozen? ⟨A+1,k,none⟩=false:=fun k=>bI hm
     obtain ⟨cb,bp⟩:=Option.isSome_iff_exists.1 (q (y*12+x) (by omega))
     have bz:=s (y*12+x)
     have HM:=aA hm
     have C:=aA n
     have J:=aA t
     have ar:=AE c (y*12+x)
     have M:=DX (gr c) (y*12+x) (eI (pos c 0 (y*12+x)) (pos c 1 (y*12+x))) (by omega)
     have R:=aA M
     obtain ⟨j,hj⟩:∃ j,y*12+x=j:=⟨_,rfl⟩
     have D:=aA t.k
     have bu:=iG c 0 j
     have bv:=iG c 1 j
     rw [hj] at bl HM C J ar R D
     have HJ:=aA hj
     have ag:j < 144:=by omega
     have ao:((j % 12:Nat):Int)=x/\((j / 12:Nat):Int)=y:=by omega
     have S:=aA ao
     clear ao
     rcases sD (dL c j) with d|⟨g,d,bw,bx⟩|d|d
     ·have u:Hi (¬ Q):=by
       show ¬ Q
       rw [L.o]
       intro h
       have:=h.2.2.1 j ag
       unfold kn at this
       rw [d] at this
       cases this
      have z:=aA d
      have H:=J.o.fr
      have ab:=H.heap hA (by simp;omega)
      clear t HI hm n q s d M hj
      have l:=aA ab
      go_wp2_with (first|(go_at_call 120;refine (oS _ _ (by omega) (by omega)).mono ?_;rintro e w1 ⟨rfl,rfl⟩;rw [z.o])|(refine wpList_store_row rfl 162 _ _ rfl A Tryz.zeroCells162 rfl rfl 162 Tryz.zeroCells162 l.o zI zS zO ?_))
      refine bodyPost_ret (v:=.tuple #[.agg Tryz.zeroCells162,.bool false]) (cJ Tryz.results76 _ _ A 162 Tryz.zeroCells162 (0,0) _ _ rfl rfl (setRow_heap _ _ _ _ _ _ l.o) Tryz.underlying162 rfl zI) rfl ⟨.inr ⟨u.o,rfl⟩,(V.trans H (by simp;omega)).setRow _ _ (.inr X)⟩
     ·have B:gr c j=g:=by unfold gr;rw [d]
      have F:ow c j = -1:=by unfold ow;rw [d]
      have K:Hi (kn c j=true):=by show kn c j=true;unfold kn;rw [d]
      have I:=aA B
      have f:=aA F
      have z:=aA d
      clear t HI hm n q s d M hj B F
      go_wp2_with (go_at_call 120;refine (oS _ _ (by omega) (by omega)).mono ?_;rintro e w1 ⟨rfl,rfl⟩;rw [z.o])
      go_roundw
      case rel =>
       refine ⟨x+1,aa,by go_num,?_⟩
       rw [show y*12+(x+1)=j+1 by have:=HJ.o;omega]
       have p0:pos c 0 (j+1)=pos c 0 j/\pos c 1 (j+1)=pos c 1 j:=by unfold pos;rw [f.o,if_neg (by decide),if_neg (by decide)];exact ⟨by cases j <;> rfl,by cases j <;> rfl⟩
       have p1:aJ c 0 (j+1)=aJ c 0 j/\aJ c 1 (j+1)=aJ c 1 j:=by unfold aJ;rw [f.o,if_neg (by decide),if_neg (by decide)];exact ⟨by cases j <;> rfl,by cases j <;> rfl⟩
       refine ⟨J.o.fr.setCell _ _ (by simp),?_,?_,?_⟩
       ·rw [HJ.o,bS HM.o,p0.1,p0.2,<- R.o,I.o]
       ·rw [Below.heap_setCell _ _ _ _ (by simp),C.o,p1.1,p1.2]
       intro k hk
       by_cases e:k=j
       ·rw [e];exact K.o
       exact D.o k (by omega)
      case measure=>simp [intOf];omega
     ·have B:gr c j=0:=by unfold gr;rw [d]
      have F:ow c j=0:=by unfold ow;rw [d]
      have K:Hi (kn c j=true):=by show kn c j=true;unfold kn;rw [d]
      have I:=aA B
      have f:=aA F
      have z:=aA d
      obtain ⟨o4,bi⟩:=Option.isSome_iff_exists.1 (q 144 (by omega))
      obtain ⟨o5,bj⟩:=Option.isSome_iff_exists.1 (q 145 (by omega))
      have bm:=s 144
      have bn:=s 145
      have bf:wr.cell? ⟨A+1+1,0,none⟩=some (ii (aJ c 0 j)):=by rw [aB C.o];rfl
      have bg:wr.frozen? ⟨A+1+1,0,none⟩=false:=bI n
      have j1:¬ y*12+x=144:=by omega
      have j2:¬ y*12+x=145:=by omega
      have j3:¬ 144=y*12+x:=by omega
      have j4:¬ 145=y*12+x:=by omega
      clear t HI hm n q s d M hj B F
      go_wp2_with (go_at_call 120;refine (oS _ _ (by omega) (by omega)).mono ?_;rintro e w1 ⟨rfl,rfl⟩;rw [z.o])
      go_roundw
      case rel =>
       refine ⟨x+1,aa,by go_num,?_⟩
       rw [show y*12+(x+1)=j+1 by have:=HJ.o;omega]
       have p0:pos c 0 (j+1)=j/\pos c 1 (j+1)=pos c 1 j:=⟨by unfold pos;rw [f.o,if_pos rfl],by unfold pos;rw [f.o,if_neg (by decide)];cases j <;> rfl⟩
       have p1:aJ c 0 (j+1)=aJ c 0 j+1/\aJ c 1 (j+1)=aJ c 1 j:=⟨by rw [aJ,f.o,if_pos rfl],by rw [aJ,f.o,if_neg (by decide)]⟩
       refine ⟨(((J.o.fr.setCell _ _ (by simp)).setCell _ _ (by simp)).setCell _ _ (by simp)).setCell _ _ (by simp),?_,?_,?_⟩
       ·rw [HJ.o,Below.heap_setCell _ _ _ _ (by simp),bS (bS (bS HM.o _ _) _ _) _ _]
        have B:=R.o
        rw [I.o] at B
        have F:=nK (gr c) (j+1) 0 (eI (pos c 0 j) (pos c 1 j)) (ii x)
        have e3:=nK (gr c) (j+1) 1 ((eI (pos c 0 j) (pos c 1 j)).set 0 (ii x)) (ii y)
        have e4:((eI (pos c 0 j) (pos c 1 j)).set 0 (ii x)).set 1 (ii y)=eI (pos c 0 (j+1)) (pos c 1 (j+1)):=by
         rw [p0.1,p0.2]
         unfold eI
         rw [S.o.1,S.o.2]
         rfl
        rw [e4] at e3
        exact congrArg (fun a=>some (Obj.cells a 162)) ((congrArg (fun a=>(a.setIfInBounds 144 (ii x)).setIfInBounds 145 (ii y)) B).trans ((congrArg (fun a=>a.setIfInBounds 145 (ii y)) F).trans e3))
       ·refine (bS ((Below.heap_setCell _ _ _ _ (by simp)).trans ((Below.heap_setCell _ _ _ _ (by simp)).trans ((Below.heap_setCell _ _ _ _ (by simp)).trans C.o))) _ _).trans ?_
        rw [p1.1,p1.2]
        rfl
       intro k hk
       by_cases e:k=j
       ·rw [e];exact K.o
       exact D.o k (by omega)
      case measure=>simp [intOf];omega
     have B:gr c j=0:=by unfold gr;rw [d]
     have F:ow c j=1:=by unfold ow;rw [d]
     have K:Hi (kn c j=true):=by show kn c j=true;unfold kn;rw [d]
     have I:=aA B
     have f:=aA F
     have z:=aA d
     obtain ⟨o4,bi⟩:=Option.isSome_iff_exists.1 (q 146 (by omega))
     obtain ⟨o5,bj⟩:=Option.isSome_iff_exists.1 (q 147 (by omega))
     have bm:=s 146
     have bn:=s 147
     have bf:wr.cell? ⟨A+1+1,1,none⟩=some (ii (aJ c 1 j)):=by rw [aB C.o];rfl
     have bg:wr.frozen? ⟨A+1+1,1,none⟩=false:=bI n
     have j1:¬ y*12+x=146:=by omega
     have j2:¬ y*12+x=147:=by omega
     have j3:¬ 146=y*12+x:=by omega
     have j4:¬ 147=y*12+x:=by omega
     clear t HI hm n q s d M hj B F
     go_wp2_with (go_at_call 120;refine (oS _ _ (by omega) (by omega)).mono ?_;rintro e w1 ⟨rfl,rfl⟩;rw [z.o])
     go_roundw
     case rel =>
      refine ⟨x+1,aa,by go_num,?_⟩
      rw [show y*12+(x+1)=j+1 by have:=HJ.o;omega]
      have p0:pos c 1 (j+1)=j/\pos c 0 (j+1)=pos c 0 j:=⟨by unfold pos;rw [f.o,if_pos rfl],by unfold pos;rw [f.o,if_neg (by decide)];cases j <;> rfl⟩
      have p1:aJ c 1 (j+1)=aJ c 1 j+1/\aJ c 0 (j+1)=aJ c 0 j:=⟨by rw [aJ,f.o,if_pos rfl],by rw [aJ,f.o,if_neg (by decide)]⟩
      refine ⟨(((J.o.fr.setCell _ _ (by simp)).setCell _ _ (by simp)).setCell _ _ (by simp)).setCell _ _ (by simp),?_,?_,?_⟩
      ·rw [HJ.o,Below.heap_setCell _ _ _ _ (by simp),bS (bS (bS HM.o _ _) _ _) _ _]
       have B:=R.o
       rw [I.o] at B
       have F:=nK (gr c) (j+1) 2 (eI (pos c 0 j) (pos c 1 j)) (ii x)
       have e3:=nK (gr c) (j+1) 3 ((eI (pos c 0 j) (pos c 1 j)).set 2 (ii x)) (ii y)
       have e4:((eI (pos c 0 j) (pos c 1 j)).set 2 (ii x)).set 3 (ii y)=eI (pos c 0 (j+1)) (pos c 1 (j+1)):=by
        rw [p0.1,p0.2]
        unfold eI
        rw [S.o.1,S.o.2]
        rfl
       rw [e4] at e3
       exact congrArg (fun a=>some (Obj.cells a 162)) ((congrArg (fun a=>(a.setIfInBounds 146 (ii x)).setIfInBounds 147 (ii y)) B).trans ((congrArg (fun a=>a.setIfInBounds 147 (ii y)) F).trans e3))
      ·refine (bS ((Below.heap_setCell _ _ _ _ (by simp)).trans ((Below.heap_setCell _ _ _ _ (by simp)).trans ((Below.heap_setCell _ _ _ _ (by simp)).trans C.o))) _ _).trans ?_
       rw [p1.1,p1.2]
       rfl
      intro k hk
      by_cases e:k=j
      ·rw [e];exact K.o
      exact D.o k (by omega)
     case measure=>simp [intOf];omega
    have Zr:x=12:=by omega
    subst Zr
    go_wp2_with fail
    go_roundw
    case rel =>
     refine ⟨y+1,Y,by go_num,by rw [show (y+1)*12=y*12+12 by omega];exact t,fun k hk=>?_⟩
     by_cases e:k=y
     ·rw [e];exact ba.o
     exact al.o k (by omega)
    case measure=>simp [intOf];omega
   have u:Hi (¬ Q):=by
    show ¬ Q
    rw [L.o]
    intro h
    exact r (h.2.1 y Y)
   have H:=HI.o.fr
   have ab:=H.heap hA (by simp;omega)
   have Zs:¬ ((gJ c y:Nat):Int)=10:=by omega
   clear r
   have l:=aA ab
   go_wp2_with (refine wpList_store_row rfl 162 _ _ rfl A Tryz.zeroCells162 rfl rfl 162 Tryz.zeroCells162 l.o zI zS zO ?_)
   refine bodyPost_ret (v:=.tuple #[.agg Tryz.zeroCells162,.bool false]) (cJ Tryz.results76 _ _ A 162 Tryz.zeroCells162 (0,0) _ _ rfl rfl (setRow_heap _ _ _ _ _ _ l.o) Tryz.underlying162 rfl zI) rfl ⟨.inr ⟨u.o,rfl⟩,(V.trans H (by simp;omega)).setRow _ _ (.inr X)⟩
  have au:y=12:=by omega
  subst au
  have hm:=t.m
  have n:=t.b
  obtain ⟨n0,O⟩:∃ x,aJ c 0 144=x:=⟨_,rfl⟩
  obtain ⟨n1,P⟩:∃ x,aJ c 1 144=x:=⟨_,rfl⟩
  have bs:wr.cell? ⟨A+1+1,0,none⟩=some (ii n0):=by rw [aB n,<- O];rfl
  have bt:wr.cell? ⟨A+1+1,1,none⟩=some (ii n1):=by rw [aB n,<- P];rfl
  have HM:=aA hm
  have ae:=t.fr
  have D:=aA t.k
  clear t hm n
  have bk:=LS n0 n1
  have ad:=ae.heap hA (by simp;omega)
  by_cases r:n0=1/\n1=1
  ·obtain ⟨rfl,rfl⟩:=r
   have ak:Hi Q:=by
    show Q
    rw [L.o]
    exact ⟨ai,al.o,D.o,O,P⟩
   obtain ⟨ma,N⟩:∃ x,x=(fL (gr c) 144 ++ eI (pos c 0 144) (pos c 1 144)).toArray:=⟨_,rfl⟩
   have hM:wr.heap[A+1]?=some (.cells ma 162):=by rw [N];exact HM.o
   have ah:ma.size=148:=by rw [N];simp [fL,eI]
   have ap:ma.all (·.oneCell')=true:=by rw [N];exact wX _ _ _ _
   have ay:=aA N
   have ac:Hi ((Tryz.prog.info? 162).map (·.size)=some ma.size):=by
    show _=_
    rw [ah];kernel_rfl
   have bd:Hi (Tryz.zeroCells162.size=ma.size):=by
    show _=_
    rw [ah,sT];simp
   have bb:=aA ap
   have aj:=aA ad
   have ax:=aA hM
   clear N ah ap ad hM O P
   go_wp2_with (first|(refine wpList_load_row rfl 162 _ rfl (A+1) rfl 162 ma (0,0) _ ax.o Tryz.underlying162 rfl ac.o ?_)|(refine wpList_store_row rfl 162 _ _ rfl A ma rfl rfl 162 Tryz.zeroCells162 aj.o ac.o bd.o bb.o ?_))
   refine bodyPost_ret (v:=.tuple #[.agg ma,.bool true]) (cJ Tryz.results76 _ _ A 162 ma (0,0) _ _ rfl rfl (setRow_heap _ _ _ _ _ _ aj.o) Tryz.underlying162 rfl ac.o) rfl ⟨.inl ⟨ak.o,by rw [ay.o]⟩,?_⟩
   exact (V.trans ae (by simp;omega)).setRow _ _ (.inr X)
  have u:Hi (¬ Q):=by
   show ¬ Q
   rw [L.o]
   intro h
   exact r ⟨O.symm.trans h.2.2.2.1,P.symm.trans h.2.2.2.2⟩
  have be:(!(n0==1&&n1==1))=true:=by
   simp only [Bool.not_eq_true',Bool.and_eq_false_iff,beq_eq_false_iff_ne]
   omega
  simp only [be] at bk
  clear O P r
  have l:=aA ad
  go_wp2_with (refine wpList_store_row rfl 162 _ _ rfl A Tryz.zeroCells162 rfl rfl 162 Tryz.zeroCells162 l.o zI zS zO ?_)
  refine bodyPost_ret (v:=.tuple #[.agg Tryz.zeroCells162,.bool false]) (cJ Tryz.results76 _ _ A 162 Tryz.zeroCells162 (0,0) _ _ rfl rfl (setRow_heap _ _ _ _ _ _ l.o) Tryz.underlying162 rfl zI) rfl ⟨.inr ⟨u.o,rfl⟩,(V.trans ae (by simp;omega)).setRow _ _ (.inr X)⟩
 have u:Hi (¬ Q):=by
  show ¬ Q
  rw [L.o]
  intro h
  exact ai h.1
 have bq:¬ (c.size:Int)=156:=by omega
 clear ai
 have aw:=aC w (.cells Tryz.zeroCells162 162)
 go_enter Tryz.func76,Tryz.ntmps76
 have l:=aA aw
 go_wp2_with (refine wpList_store_row rfl 162 _ _ rfl w.heap.size Tryz.zeroCells162 rfl rfl 162 Tryz.zeroCells162 l.o zI zS zO ?_)
 refine bodyPost_ret (v:=.tuple #[.agg Tryz.zeroCells162,.bool false]) (cJ Tryz.results76 _ _ w.heap.size 162 Tryz.zeroCells162 (0,0) _ _ rfl rfl (setRow_heap _ _ _ _ _ _ l.o) Tryz.underlying162 rfl zI) rfl ⟨.inr ⟨u.o,rfl⟩,((r0 [] w).alloc _).setRow _ _ (.inr (Nat.le_refl _))⟩
def kF (p q r s:Int)(k:Nat):U:=aS ((k:Int)+1) k 1 (if k=0 then p else r) (if k=0 then q else s) 40
structure NewX (p q r s:Int) (Wg:World) (gb:Nat) (k:Nat) (wr:World):Prop where
 ex:∃ v,wr.cell? ⟨gb,148,none⟩=some v/\wr.ownsRow Wg.heap.size 85 11 v k (((range k).map (kF p q r s)).flatMap U.cells)
 nx:wr.cell? ⟨gb,1,none⟩=some (ii ((k:Int)+1))
 fr:Fr [gb] Wg wr
 ot:∀ j,j≠1->j≠148->wr.cell? ⟨gb,j,none⟩=Wg.cell? ⟨gb,j,none⟩
 fz:∀ j,wr.frozen? ⟨gb,j,none⟩=Wg.frozen? ⟨gb,j,none⟩
theorem tD (p q r s:Int)(m:World)(a k:Nat)(wr w0:World)(h:NewX p q r s m a k wr)(n:Fr [] wr w0)(t:a < m.heap.size)(M:k < 2)(hz:∀ j,m.frozen? ⟨a,j,none⟩=false)(x y:Int)(hx:x=if k=0 then p else r)(E:y=if k=0 then q else s) :
  Cs 77 #[.pointer (so a),.int .i64 (k:Int),.int .i64 1,cv x y] w0 fun e C=>e=.returned (.tuple #[])/\NewX p q r s m a (k+1) C:=by
 obtain ⟨⟨v,D,hown⟩,u,d,z,g⟩:=h
 have hl:((range k).map (kF p q r s)).length=k:=by simp
 have i:a < wr.heap.size:=Nat.lt_of_lt_of_le t d.size
 have o:a < w0.heap.size:=Nat.lt_of_lt_of_le i n.size
 have c:∀ j,w0.cell? ⟨a,j,none⟩=wr.cell? ⟨a,j,none⟩:=fun j=>n.cell a j i (by simp)
 have f:∀ j,w0.frozen? ⟨a,j,none⟩=wr.frozen? ⟨a,j,none⟩:=fun j=>n.frozen a j i (by simp)
 have l:w0.ownsRow m.heap.size 85 11 v ((range k).map (kF p q r s)).length (((range k).map (kF p q r s)).flatMap U.cells):=by rw [hl];exact aF hown n (by simp)
 refine (tE a m.heap.size ((k:Int)+1) k 1 x y 40 _ _ _ _ _ _ _ _ _ _ _ _ _ _ _ _ _ _ _ _ _ _ _ v ((range k).map (kF p q r s)) w0 (fun w=>mJ w) IA o ((c 1).trans u) (by rw [f,g];exact hz 1) ((c 148).trans D) (by rw [f,g];exact hz 148) l (fun e=>by have:=cG hown e;omega) (by rw [hl];omega) (by omega) (Nat.le_trans d.size n.size)).mono ?_
 rintro e C ⟨rfl,L,F,H,B,_,I,J,K⟩
 refine ⟨rfl,⟨L,F,?_⟩,?_,?_,?_,?_⟩
 ·rw [hl] at B
  have:(range (k+1)).map (kF p q r s)=(range k).map (kF p q r s) ++ [aS ((k:Int)+1) k 1 x y 40]:=by rw [range_succ,map_append,hx,E];rfl
  rw [this]
  exact B
 ·rw [H];simp
 ·refine (d.then0 n).trans I (fun b hb=>?_)
  rcases mem_cons.1 hb with rfl|hb
  ·simp
  exact .inr (cG hown (by simpa using hb))
 ·intro j h1 A
  rw [J j h1 A,c,z j h1 A]
 intro j
 rw [K,f,g]
theorem DG (p q r s:Int)(w:World):(Instr.index 160 (.agg #[ii p,ii q,ii r,ii s]) (.int .i64 0)).run Tryz.prog w=.ok (cv p q) w:=by kernel_rfl
theorem DH (p q r s:Int)(w:World):(Instr.index 160 (.agg #[ii p,ii q,ii r,ii s]) (.int .i64 1)).run Tryz.prog w=.ok (cv r s) w:=by kernel_rfl
def bP (a:ByteArray):T:={ turn:=0,next:=3,s0:=10,s1:=10,bd:=gr a,us:=[aS 1 0 1 ((pos a 0 144 % 12:Nat):Int) ((pos a 0 144 / 12:Nat):Int) 40,aS 2 1 1 ((pos a 1 144 % 12:Nat):Int) ((pos a 1 144 / 12:Nat):Int) 40],held:=fun _=>none }
theorem pK:(Tryz.prog.info? 90).map (·.size)=some Tryz.zeroCells90.size:=by kernel_rfl
theorem sS:Tryz.zeroCells90.all (·.oneCell')=true:=by kernel_rfl
theorem zU (b:ByteArray)(w:World) :
  Cs 35 #[.string b] w fun e w'=>((dS b/\∃ Y l,e=.returned (.tuple #[.agg (aQ (bP b) (.slice (so Y) 2 l)).toArray,.bool true])/\PRow w' Y l (bP b).us/\w.heap.size<=Y)\/(¬ dS b/\e=.returned (.tuple #[.agg Tryz.zeroCells90,.bool false])))/\Fr [] w w':=by
 obtain ⟨OK,ae⟩:∃ p:Prop,p=dS b:=⟨_,rfl⟩
 have c:=OZ b
 rw [<- ae]
 simp only [<- ae] at c
 clear ae
 obtain ⟨B,hB⟩:∃ B,B=fL (gr b) 144:=⟨_,rfl⟩
 have N:B.length=144:=by rw [hB];exact pX _ 144
 have z:=wX (gr b) 144 (pos b 0 144) (pos b 1 144)
 have af:(bP b).us=[aS 1 0 1 ((pos b 0 144 % 12:Nat):Int) ((pos b 0 144 / 12:Nat):Int) 40,aS 2 1 1 ((pos b 1 144 % 12:Nat):Int) ((pos b 1 144 / 12:Nat):Int) 40]:=rfl
 rw [<- hB] at z
 simp only [<- hB,eI] at c
 unfold eI at z
 obtain ⟨p,hp⟩:∃ p,p=((pos b 0 144 % 12:Nat):Int):=⟨_,rfl⟩
 obtain ⟨q,R⟩:∃ p,p=((pos b 0 144 / 12:Nat):Int):=⟨_,rfl⟩
 obtain ⟨r,hr⟩:∃ p,p=((pos b 1 144 % 12:Nat):Int):=⟨_,rfl⟩
 obtain ⟨s,hs⟩:∃ p,p=((pos b 1 144 / 12:Nat):Int):=⟨_,rfl⟩
 rw [<- hp,<- R,<- hr,<- hs] at z af
 simp only [<- hp,<- R,<- hr,<- hs] at c
 clear hp R hr hs
 have bo:=aA af
 clear af
 have Q:(B ++ [ii p,ii q,ii r,ii s]).toArray.size=148:=by simp [N]
 have E:=EF B N
 obtain ⟨A,P⟩:∃ x,x=(B ++ [ii p,ii q,ii r,ii s]).toArray:=⟨_,rfl⟩
 rw [<- P] at z Q
 simp only [<- P] at c
 have C:=aA c
 have ai:=aA P
 have HB:=aA hB
 have d:=aA N
 have bi:=aA z
 have bd:Hi ((Tryz.prog.info? 162).map (·.size)=some A.size):=by
  show _=_
  rw [Q];exact JO
 have bp:Hi (Tryz.zeroCells162.size=A.size):=by
  show _=_
  rw [Q,sT];simp
 clear P hB N c z Q
 go_enter Tryz.func35,Tryz.ntmps35
 go_wp2_with fail
 refine Calls.mono (C.o _) ?_
 rintro e a ⟨⟨av,rfl⟩|⟨Zq,rfl⟩,y⟩
 rotate_left
 ·have bk:=aA Zq
  have S:Hi (((a.alloc (.cells Tryz.zeroCells162 162)).setRow a.heap.size Tryz.zeroCells162).heap[w.heap.size]?=some (.cells Tryz.zeroCells90 90)):=by
   show _=_
   have h0:=y.heap0 (aC w (.cells Tryz.zeroCells90 90))
   exact (((r0 [] a).alloc _).setRow _ _ (.inr (Nat.le_refl _))).heap0 h0
  have g:Fr [] w a:=((r0 [] w).alloc (.cells Tryz.zeroCells90 90)).then0 y
  have L:Hi (Fr [] w ((a.alloc (.cells Tryz.zeroCells162 162)).setRow a.heap.size Tryz.zeroCells162)):=(g.alloc _).setRow _ _ (.inr g.size)
  clear Zq y C g
  dsimp only
  go_wp2_with (first|(refine wpList_store_row rfl 162 _ _ rfl a.heap.size Tryz.zeroCells162 rfl rfl 162 Tryz.zeroCells162 (aC a _) zI zS zO ?_)|(refine wpList_store_row rfl 90 _ _ rfl w.heap.size Tryz.zeroCells90 rfl rfl 90 Tryz.zeroCells90 S.o pK rfl sS ?_))
  refine bodyPost_ret (v:=.tuple #[.agg Tryz.zeroCells90,.bool false]) (cJ Tryz.results35 _ _ w.heap.size 90 Tryz.zeroCells90 (0,0) _ _ rfl rfl (setRow_heap _ _ _ _ _ _ S.o) Tryz.underlying90 rfl pK) rfl ⟨.inr ⟨bk.o,rfl⟩,L.o.setRow _ _ (.inr (Nat.le_refl _))⟩
 have bm:=aA av
 clear av
 dsimp only
 have g:Fr [] w a:=((r0 [] w).alloc (.cells Tryz.zeroCells90 90)).then0 y
 have V:a.heap[w.heap.size]?=some (.cells Tryz.zeroCells90 90):=y.heap0 (aC _ _)
 have HR:=aA V
 clear C V y
 have L:Hi (Fr [] w ((a.alloc (.cells Tryz.zeroCells162 162)).setRow a.heap.size A)):=(g.alloc _).setRow _ _ (.inr g.size)
 have ad:Hi (((a.alloc (.cells Tryz.zeroCells162 162)).setRow a.heap.size A).heap[a.heap.size]?=some (.cells A 162)):=setRow_heap _ _ _ _ _ _ (aC _ _)
 have ak:Hi (((a.alloc (.cells Tryz.zeroCells162 162)).setRow a.heap.size A).rangeAt a.heap.size 0 B):=fun j v J=>by
  rw [Nat.zero_add,aB ad.o,ai.o]
  simp only [getElem?_toArray]
  rw [getElem?_append_left (gs.1 J).1]
  exact J
 have be:Hi ((Tryz.prog.info? 88).map (·.size)=some B.length):=by
  show _=_
  rw [mH,d.o]
 obtain ⟨K,t⟩:∃ x,x=(ii 0 :: ii 1 :: ii 10 :: ii 10 :: (B ++ [Value.slice none 0 0])).toArray:=⟨_,rfl⟩
 rw [<- t] at E
 have ag:=aA E
 clear E
 have ab:=aA t
 have bf:Hi ((Tryz.prog.info? 90).map (·.size)=some K.size):=by
  show _=_
  rw [dE,t];simp [d.o]
 have M:Hi (Tryz.zeroCells90.size=K.size):=by
  show _=_
  rw [zcGame,t];simp [d.o]
 have bl:Hi (K.all (·.oneCell')=true):=by
  show _=_
  rw [t]
  apply all_oneCell_toArray
  intro v J
  simp only [mem_cons,mem_append,not_mem_nil,or_false] at J
  rcases J with rfl|rfl|rfl|rfl|J|rfl
  ·rfl
  ·rfl
  ·rfl
  ·rfl
  ·rw [HB.o] at J
   obtain ⟨j,_,rfl⟩:=mem_map.1 J
   by_cases hj:j < 144
   ·rw [if_pos hj];rfl
   rw [if_neg hj];rfl
  rfl
 have ac:Hi ((((a.alloc (.cells Tryz.zeroCells162 162)).setRow a.heap.size A).alloc (.cells Tryz.zeroCells90 90)).heap[a.heap.size+1]?=some (.cells Tryz.zeroCells90 90)):=jF _ _ _ (by simp)
 clear t
 have R:∀ k v,[ii p,ii q,ii r,ii s][k]?=some v->((((a.alloc (.cells Tryz.zeroCells162 162)).setRow a.heap.size A).alloc (.cells Tryz.zeroCells90 90)).setRow (a.heap.size+1) K).cell? ⟨a.heap.size,144+k,none⟩=some v:=fun k v hk=>by
  have h1:((((a.alloc (.cells Tryz.zeroCells162 162)).setRow a.heap.size A).alloc (.cells Tryz.zeroCells90 90)).setRow (a.heap.size+1) K).heap[a.heap.size]?=some (.cells A 162):=by
   rw [setRow_other _ _ _ _ (by omega)]
   exact ((r0 [] _).alloc _).heap0 ad.o
  rw [aB h1,ai.o]
  simp only [getElem?_toArray]
  rw [getElem?_append_right (by rw [d.o];omega),d.o,Nat.add_sub_cancel_left]
  exact hk
 have b4:=R 0 _ rfl
 have b5:=R 1 _ rfl
 have b6:=R 2 _ rfl
 have b7:=R 3 _ rfl
 clear R
 go_wp2_with (first|(refine UX rfl 90 1 2 3 (.const (.int .i64 1)) (.tmp 17) (.tmp 19) rfl (ii 1) (.agg #[ii 10,ii 10]) (.agg B.toArray) rfl rfl rfl K ag.o ?_)|(refine wpList_store_row rfl 162 _ _ rfl a.heap.size A rfl rfl 162 Tryz.zeroCells162 (aC a _) bd.o bp.o bi.o ?_)|(refine wpList_load_mid rfl 88 _ rfl a.heap.size 0 rfl B _ ak.o Tryz.underlying88 rfl be.o ?_)|(refine wpList_store_row rfl 90 _ _ rfl (a.heap.size+1) K rfl rfl 90 Tryz.zeroCells90 ac.o bf.o M.o bl.o ?_))
 obtain ⟨h,D⟩:∃ W,W=(((a.alloc (.cells Tryz.zeroCells162 162)).setRow a.heap.size A).alloc (.cells Tryz.zeroCells90 90)).setRow (a.heap.size+1) K:=⟨_,rfl⟩
 rw [<- D]
 have m:h.heap[a.heap.size+1]?=some (.cells K 90):=by rw [D];exact setRow_heap _ _ _ _ _ _ ac.o
 have az:Fr [] w h:=by rw [D];exact (L.o.alloc _).setRow _ _ (.inr (by have:=g.size;omega))
 have an:h.heap[w.heap.size]?=some (.cells Tryz.zeroCells90 90):=by
  have bt:=aH HR.o
  have f1:Fr [] a h:=by rw [D];exact ((((r0 [] a).alloc _).setRow _ _ (.inr (Nat.le_refl _))).alloc _).setRow _ _ (.inr (by omega))
  exact f1.heap0 HR.o
 obtain ⟨n,aq⟩:∃ x,x=a.heap.size+1:=⟨_,rfl⟩
 have bv:w.heap.size < n:=by have:=g.size;omega
 rw [<- aq] at m |-
 have F:h.cell? ⟨n,148,none⟩=some (.slice none 0 0):=by
  rw [aB m,ab.o]
  simp only [getElem?_toArray,getElem?_cons_succ]
  rw [getElem?_append_right (by rw [d.o];omega),d.o]
  rfl
 have ao:h.cell? ⟨n,1,none⟩=some (ii 1):=by rw [aB m,ab.o];rfl
 have ba:∀ j,h.frozen? ⟨n,j,none⟩=false:=fun j=>bI m
 have ar:=aH m
 have am:NewX p q r s h n 0 h:=⟨⟨_,F,⟨rfl,.inl ⟨rfl,rfl⟩⟩⟩,ao,r0 _ _,fun _ _ _=>rfl,fun _=>rfl⟩
 have bj:=aA am
 have M:=aA ba
 have bc:=aA m
 have al:=aA an
 clear D aq b4 b5 b6 b7 m an F ao ba am ad ak L ac
 go_loopw [23] (fun i wr=>∃ k:Nat,k<=2/\i=.int .i64 k/\NewX p q r s h n k wr) (fun i _=>2 - (intOf i).toNat)
 case atStart=>exact ⟨0,by omega,rfl,bj.o⟩
 obtain ⟨k,hk,rfl,hI⟩:=hrel
 have HI:=aA hI
 clear hI
 have bs:k=0\/k=1\/k=2:=by omega
 rcases bs with rfl|rfl|rfl
 ·have bq:=DG p q r s
  have aa:Hi (∀ w0,Fr [] wr w0->Cs 77 #[.pointer (so n),.int .i64 0,.int .i64 1,cv p q] w0 fun e w'=>e=.returned (.tuple #[])/\NewX p q r s h n 1 w'):=fun w0 hf=>tD p q r s h n 0 wr w0 HI.o hf ar (by omega) M.o p q rfl rfl
  go_wp2_with (go_at_call 77;refine Calls.mono (aa.o _ ((r0 _ _).alloc _)) ?_;rintro e w2 ⟨rfl,hN⟩)
  go_roundw
  case rel=>exact ⟨1,by omega,by go_num,hN⟩
  case measure=>simp [intOf]
 ·have bq:=DH p q r s
  have aa:Hi (∀ w0,Fr [] wr w0->Cs 77 #[.pointer (so n),.int .i64 1,.int .i64 1,cv r s] w0 fun e w'=>e=.returned (.tuple #[])/\NewX p q r s h n 2 w'):=fun w0 hf=>tD p q r s h n 1 wr w0 HI.o hf ar (by omega) M.o r s rfl rfl
  go_wp2_with (go_at_call 77;refine Calls.mono (aa.o _ ((r0 _ _).alloc _)) ?_;rintro e w2 ⟨rfl,hN⟩)
  go_roundw
  case rel=>exact ⟨2,by omega,by go_num,hN⟩
  case measure=>simp [intOf]
 obtain ⟨⟨v,J,hown⟩,Zr,ap,aw,br⟩:=HI.o
 have H:wr.ownsRow h.heap.size 85 11 v 2 ((bP b).us.flatMap U.cells):=by rw [bo.o];exact hown
 obtain ⟨Y,l,ay,bu,ax⟩:=PRow.of_owns (us:=(bP b).us) H rfl (by omega)
 have X:v=.slice (so Y) 2 l:=ay
 have I:wr.rangeAt n 0 (aQ (bP b) (.slice (so Y) 2 l)):=by
  intro j u hu
  have hj:j < 149:=by have:=(gs.1 hu).1;rwa [fC] at this
  unfold aQ at hu
  rw [getElem?_map,getElem?_range hj] at hu
  simp only [Option.map_some,Option.some.injEq] at hu
  rw [<- hu,Nat.zero_add]
  by_cases j8:j=148
  ·subst j8
   rw [J,X]
   rfl
  by_cases j1:j=1
  ·subst j1
   rw [Zr]
   rfl
  rw [aw j j1 j8,aB bc.o,ab.o]
  unfold aN
  by_cases j0:j=0
  ·subst j0;rfl
  by_cases j2:j=2
  ·subst j2;rfl
  by_cases j3:j=3
  ·subst j3;rfl
  obtain ⟨i,rfl⟩:∃ i,j=i+4:=⟨j - 4,by omega⟩
  simp only [getElem?_toArray,getElem?_cons_succ]
  rw [if_neg j0,if_neg j1,if_neg j2,if_neg j3,if_pos (by omega),getElem?_append_left (by rw [d.o];omega),HB.o]
  unfold fL
  rw [getElem?_map,getElem?_range (by omega)]
  simp only [Option.map_some]
  rw [if_pos (by omega)]
  rfl
 obtain ⟨gl,f⟩:∃ x,x=aQ (bP b) (.slice (so Y) 2 l):=⟨_,rfl⟩
 have O:gl.length=149:=by rw [f];exact fC _ _
 have au:gl.toArray.all (·.oneCell')=true:=by rw [f];exact jS _ _ _ _
 rw [<- f] at I
 have bn:=aA I
 have bb:=aA f
 have HO:=aA au
 have bg:Hi ((Tryz.prog.info? 90).map (·.size)=some gl.length):=by
  show _=_
  rw [dE,O]
 have ah:Hi ((Tryz.prog.info? 90).map (·.size)=some gl.toArray.size):=by
  show _=_
  rw [dE,size_toArray,O]
 have bh:Hi (Tryz.zeroCells90.size=gl.toArray.size):=by
  show _=_
  exact zcGame.trans (by simp [O])
 have hR:=ap.heap al.o (by simp;omega)
 have aj:=aA hR
 clear f O au I ay X J hown H Zr aw br hR
 go_wp2_with (first|(refine wpList_load_mid rfl 90 _ rfl n 0 rfl gl _ bn.o Tryz.underlying90 rfl bg.o ?_)|(refine wpList_store_row rfl 90 _ _ rfl w.heap.size gl.toArray rfl rfl 90 Tryz.zeroCells90 aj.o ah.o bh.o HO.o ?_))
 have hF:Fr [w.heap.size] wr (wr.setRow w.heap.size gl.toArray):=(r0 _ _).setRow _ _ (by simp)
 have bw:=az.size
 refine bodyPost_ret (v:=.tuple #[.agg gl.toArray,.bool true]) (cJ Tryz.results35 _ _ w.heap.size 90 gl.toArray (0,0) _ _ rfl rfl (setRow_heap _ _ _ _ _ _ aj.o) Tryz.underlying90 rfl ah.o) rfl ⟨.inl ⟨bm.o,Y,l,by rw [bb.o],ax.fr hF (by simp;omega),by omega⟩,?_⟩
 exact (az.trans ap (by simp;omega)).setRow _ _ (.inr (Nat.le_refl _))
theorem LJ (a:ByteArray)(h:dS a):pos a 0 144 < 144/\pos a 1 144 < 144/\gr a (pos a 0 144)=0/\gr a (pos a 1 144)=0/\pos a 0 144≠pos a 1 144:=by
 obtain ⟨d,b⟩:=rV a 0 144 (by rw [h.2.2.2.1];decide)
 obtain ⟨b1,c⟩:=rV a 1 144 (by rw [h.2.2.2.2];decide)
 refine ⟨d,b1,vU a _ (.inl b),vU a _ (.inr c),fun e=>?_⟩
 rw [e,c] at b
 exact absurd b (by decide)
theorem qW (a b c d:Int)(e:Cl):fP [aS 1 0 1 a b 40,aS 2 1 1 c d 40] e=if e=(c,d) then some 2 else if e=(a,b) then some 1 else none:=rfl
theorem rF (a:ByteArray)(hm:dS a):fI (bP a):=by
 obtain ⟨t,v,w,z,l⟩:=LJ a hm
 obtain ⟨p,m⟩:∃ p,p=pos a 0 144:=⟨_,rfl⟩
 obtain ⟨q,r⟩:∃ p,p=pos a 1 144:=⟨_,rfl⟩
 have d:(bP a).us=[aS 1 0 1 ((p % 12:Nat):Int) ((p / 12:Nat):Int) 40,aS 2 1 1 ((q % 12:Nat):Int) ((q / 12:Nat):Int) 40]:=by rw [m,r];rfl
 rw [<- m,<- r] at l
 rw [<- m] at t w
 rw [<- r] at v z
 have j:∀ n,n < 144->aD ((n % 12:Nat):Int) ((n / 12:Nat):Int)=true:=fun n hn=>by
  simp [aD]
  omega
 have f:∀ n,n < 144->ci ((n % 12:Nat):Int) ((n / 12:Nat):Int)=n:=fun n hn=>by
  unfold ci
  omega
 have o:¬ ((((p % 12:Nat):Int),((p / 12:Nat):Int)):Cl)=(((q % 12:Nat):Int),((q / 12:Nat):Int)):=by
  intro e
  have A:=congrArg Prod.fst e
  have B:=congrArg Prod.snd e
  dsimp only at A B
  omega
 refine ⟨?_,?_,?_,by simp [bP],by simp [bP],fun i _=>IU a i,by simp [bP],by simp [bP,aT],by simp [bP,aT],by simp [bP,aT]⟩
 ·show Rise (bP a).us
  rw [d]
  unfold Rise
  simp
 ·intro u C
  have g:u∈(bP a).us:=C
  show UOk (gr a) (fP (bP a).us) 3 u
  rw [d] at g |-
  have s:u=aS 1 0 1 ((p % 12:Nat):Int) ((p / 12:Nat):Int) 40\/u=aS 2 1 1 ((q % 12:Nat):Int) ((q / 12:Nat):Int) 40:=by simpa using g
  rcases s with rfl|rfl
  ·exact ⟨j p t,(congrArg (gr a) (f p t)).trans w,by rw [qW];exact (if_neg o).trans (if_pos rfl),.inl rfl,.inl rfl,by simp [cT],by simp,by simp,.inl rfl⟩
  exact ⟨j q v,(congrArg (gr a) (f q v)).trans z,by rw [qW];exact if_pos rfl,.inr rfl,.inl rfl,by simp [cT],by simp,by simp,.inl rfl⟩
 intro c i h
 have b:fP (bP a).us c=some i:=h
 show ∃ u∈(bP a).us,u.id=i/\(u.x,u.y)=c
 rw [d] at b |-
 rw [qW] at b
 by_cases h1:c=(((q % 12:Nat):Int),((q / 12:Nat):Int))
 ·rw [if_pos h1] at b
  cases b
  exact ⟨aS 2 1 1 ((q % 12:Nat):Int) ((q / 12:Nat):Int) 40,by simp,rfl,h1.symm⟩
 rw [if_neg h1] at b
 by_cases k:c=(((p % 12:Nat):Int),((p / 12:Nat):Int))
 ·rw [if_pos k] at b
  cases b
  exact ⟨aS 1 0 1 ((p % 12:Nat):Int) ((p / 12:Nat):Int) 40,by simp,rfl,k.symm⟩
 rw [if_neg k] at b
 cases b
theorem rG (b:ByteArray):OS (bP b):=by
 intro u c
 have a:u∈[aS 1 0 1 ((pos b 0 144 % 12:Nat):Int) ((pos b 0 144 / 12:Nat):Int) 40,aS 2 1 1 ((pos b 1 144 % 12:Nat):Int) ((pos b 1 144 / 12:Nat):Int) 40]:=c
 simp at a
 rcases a with rfl|rfl <;> exact .inl ⟨rfl,rfl,rfl,rfl⟩
