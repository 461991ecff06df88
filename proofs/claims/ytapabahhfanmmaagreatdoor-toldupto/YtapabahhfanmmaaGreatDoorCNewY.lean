import Derived.Test.YtapabahhfanmmaaGreatDoorCOrds
namespace Go.Proofs.YtapabahhfanmmaaGreatDoor
open Go.RowKit
set_option maxRecDepth 100000
set_option maxHeartbeats 1000000
def sgn (tx:ByteArray)(j:Nat):Nat:=((tx.data[(j / 12)*13+j % 12]?).map UInt8.toNat).getD 0
def yx7 (tx:ByteArray)(y:Nat):Nat:=((tx.data[y*13+12]?).map UInt8.toNat).getD 0
def gr (tx:ByteArray)(j:Nat):Int:=(zy2 (sgn tx j)).1
def ow (tx:ByteArray)(j:Nat):Int:=(zy2 (sgn tx j)).2.1
def kn (tx:ByteArray)(j:Nat):Bool:=(zy2 (sgn tx j)).2.2
def cnt (tx:ByteArray)(o:Int):Nat->Int
 | 0=>0
 | n+1=>if ow tx n=o then cnt tx o n+1 else cnt tx o n
def pos (tx:ByteArray)(o:Int):Nat->Nat
 | 0=>0
 | n+1=>if ow tx n=o then n else pos tx o n
def zz9 (tx:ByteArray):Prop:=tx.size=156/\(∀ y,y < 12->yx7 tx y=10)/\(∀ j,j < 144->kn tx j=true)/\cnt tx 0 144=1/\cnt tx 1 144=1
theorem zy6 (tx:ByteArray)(o:Int):∀ n,0<=cnt tx o n/\cnt tx o n<=n
 | 0=>⟨by simp [cnt],by simp [cnt]⟩
 | n+1=>by
  have:=zy6 tx o n
  unfold cnt
  split <;> omega
theorem dy3 (tx:ByteArray)(y x:Nat)(hx:x < 12)(h:y*13+x < tx.size):(tx[y*13+x]'h).toNat=sgn tx (y*12+x):=by
 unfold sgn
 rw [show (y*12+x) / 12*13+(y*12+x) % 12=y*13+x by omega]
 have h':y*13+x < tx.data.size:=h
 rw [Array.getElem?_eq_getElem h']
 rfl
theorem qjq0 (tx:ByteArray)(y:Nat)(h:y*13+12 < tx.size):(tx[y*13+12]'h).toNat=yx7 tx y:=by
 unfold yx7
 have h':y*13+12 < tx.data.size:=h
 rw [Array.getElem?_eq_getElem h']
 rfl
theorem dy4 (tx:ByteArray)(j:Nat):sgn tx j<=255:=by
 unfold sgn
 cases tx.data[(j / 12)*13+j % 12]? with
 | none=>simp
 | some b=>have:=b.toNat_lt;simp;omega
theorem qjq1 (tx:ByteArray)(j:Nat):yx7 tx j<=255:=by
 unfold yx7
 cases tx.data[j*13+12]? with
 | none=>simp
 | some b=>have:=b.toNat_lt;simp;omega
theorem kq6 (s:Nat):(zy2 s=(0,-1,false))\/(∃ g,zy2 s=(g,-1,true)/\0<=g/\g<=10)\/zy2 s=(0,0,true)\/zy2 s=(0,1,true):=by
 unfold zy2
 by_cases a:(s:Int)=46
 ·rw [if_pos a];exact Or.inr (Or.inl ⟨0,rfl,by omega,by omega⟩)
 rw [if_neg a]
 by_cases b:(s:Int)=35
 ·rw [if_pos b];exact Or.inr (Or.inl ⟨10,rfl,by omega,by omega⟩)
 rw [if_neg b]
 by_cases c:(49:Int)<=s/\(s:Int)<=57
 ·rw [if_pos c];exact Or.inr (Or.inl ⟨_,rfl,by omega,by omega⟩)
 rw [if_neg c]
 by_cases d:(s:Int)=65
 ·rw [if_pos d];exact Or.inr (Or.inr (Or.inl rfl))
 rw [if_neg d]
 by_cases e:(s:Int)=66
 ·rw [if_pos e];exact Or.inr (Or.inr (Or.inr rfl))
 rw [if_neg e]
 exact Or.inl rfl
theorem qxq8 (tx:ByteArray)(j:Nat):0<=gr tx j/\gr tx j<=10:=by
 unfold gr
 rcases kq6 (sgn tx j) with h|⟨g,h,h1,h2⟩|h|h <;> rw [h] <;> dsimp only <;> omega
theorem fq4 (tx:ByteArray)(j:Nat)(h:ow tx j=0\/ow tx j=1):gr tx j=0:=by
 unfold ow at h
 unfold gr
 rcases kq6 (sgn tx j) with e|⟨g,e,_,_⟩|e|e <;> rw [e] at h |- <;> simp at h |-
theorem gv6 (tx:ByteArray)(o:Int):∀ n,0 < cnt tx o n->pos tx o n < n/\ow tx (pos tx o n)=o
 | 0,h=>by simp [cnt] at h
 | n+1,h=>by
  unfold cnt at h
  unfold pos
  by_cases e:ow tx n=o
  ·rw [if_pos e];exact ⟨by omega,e⟩
  ·rw [if_neg e] at h |-
   obtain ⟨h1,h2⟩:=gv6 tx o n h
   exact ⟨by omega,h2⟩
def zz8 (f:Nat->Int)(n:Nat):List Value:=(List.range 144).map fun j=>if j < n then ii (f j) else ii 0
def qy9 (p q:Nat):List Value:=[ii ((p % 12:Nat):Int),ii ((p / 12:Nat):Int),ii ((q % 12:Nat):Int),ii ((q / 12:Nat):Int)]
theorem yq9 (f:Nat->Int)(n:Nat):(zz8 f n).length=144:=by simp [zz8]
theorem gj6 (f:Nat->Int)(n:Nat)(l:List Value)(hn:n < 144):(zz8 f n ++ l).toArray.setIfInBounds n (ii (f n))=(zz8 f (n+1) ++ l).toArray:=by
 apply Array.ext_getElem?
 intro i
 rw [Array.getElem?_setIfInBounds]
 have hl:=yq9 f
 by_cases e:n=i
 ·subst e
  rw [if_pos rfl,if_pos (by simp [hl];omega)]
  simp only [List.getElem?_toArray]
  rw [List.getElem?_append_left (by rw [hl];omega)]
  unfold zz8
  rw [List.getElem?_map,List.getElem?_range hn]
  simp
 ·rw [if_neg e]
  simp only [List.getElem?_toArray]
  by_cases hi:i < 144
  ·rw [List.getElem?_append_left (by rw [hl];omega),List.getElem?_append_left (by rw [hl];omega)]
   unfold zz8
   rw [List.getElem?_map,List.getElem?_map,List.getElem?_range hi]
   simp only [Option.map_some,Option.some.injEq]
   by_cases h1:i < n
   ·rw [if_pos h1,if_pos (by omega)]
   ·rw [if_neg h1,if_neg (by omega)]
  ·rw [List.getElem?_append_right (by rw [hl];omega),List.getElem?_append_right (by rw [hl];omega),hl,hl]
theorem yj5 (f:Nat->Int)(n j:Nat)(l:List Value)(v:Value):(zz8 f n ++ l).toArray.setIfInBounds (144+j) v=(zz8 f n ++ l.set j v).toArray:=by
 apply Array.toList_inj.1
 rw [Array.toList_setIfInBounds]
 have hl:=yq9 f n
 simp only []
 rw [List.set_append_right _ _ (by omega),hl,Nat.add_sub_cancel_left]
theorem kv4 (f:Nat->Int)(n p q:Nat):(zz8 f n ++ qy9 p q).toArray.all (·.oneCell')=true:=by
 apply all_oneCell_toArray
 intro v hv
 rcases List.mem_append.1 hv with hv|hv
 ·obtain ⟨j,_,rfl⟩:=List.mem_map.1 hv
  by_cases hj:j < n
  ·rw [if_pos hj];rfl
  ·rw [if_neg hj];rfl
 ·simp only [qy9,List.mem_cons,List.not_mem_nil,or_false] at hv
  rcases hv with rfl|rfl|rfl|rfl <;> rfl
structure MapJ (tx:ByteArray) (A:Nat) (W3:World) (n:Nat) (wr:World):Prop where
 fr:Fr [A+1,A+1+1] W3 wr
 m:wr.heap[A+1]?=some (.cells (zz8 (gr tx) n ++ qy9 (pos tx 0 n) (pos tx 1 n)).toArray 162)
 b:wr.heap[A+1+1]?=some (.cells #[ii (cnt tx 0 n),ii (cnt tx 1 n)] 54)
 k:∀ j,j < n->kn tx j=true
theorem zI:(Tryz.prog.info? 162).map (·.size)=some Tryz.zeroCells162.size:=by kernel_rfl
theorem zS:Tryz.zeroCells162.size=Tryz.zeroCells162.size:=rfl
theorem zO:Tryz.zeroCells162.all (·.oneCell')=true:=by kernel_rfl
theorem dz5 (f:Nat->Int):zz8 f 0=(List.range 144).map (fun _=>ii 0):=by
 unfold zz8
 apply List.map_congr_left
 intro j _
 rw [if_neg (by omega)]
theorem qjz5 (a b:Int)(w:World):(Op.equalIn 10000 54 (.agg #[ii a,ii b]) (.agg #[ii 1,ii 1])).run Tryz.prog w=.ok (a==1&&b==1) w:=by
 have u3:=Tryz.underlying3
 rw [show (10000:Nat)=9999+1 from rfl,Op.equalIn]
 simp only [Sem.run_bind,run_underlying Tryz.underlying54,Result.andThen_ok]
 simp only [Std.Legacy.Range.forIn_eq_forIn_range',Std.Legacy.Range.size,Nat.sub_zero,Nat.add_sub_cancel,Nat.div_one,List.range'_succ,List.range'_zero,List.forIn_cons,List.forIn_nil]
 by_cases h1:a=1 <;> by_cases h2:b=1 <;> simp [go_sem,u3,h1,h2]
theorem qxz3 (a b:Int)(w:World):(binOp BinOp.neq 54 (.agg #[ii a,ii b]) (.agg #[ii 1,ii 1])).run Tryz.prog w=.ok (.bool (!(a==1&&b==1))) w:=by
 have h2:=qjz5 a b w
 simp [go_sem,h2]
theorem kw9 (tx:ByteArray)(w:World) :
  Calls Tryz.prog 76 #[.string tx] w fun e w'=>((zz9 tx/\e=.returned (.tuple #[.agg (zz8 (gr tx) 144 ++ qy9 (pos tx 0 144) (pos tx 1 144)).toArray,.bool true]))\/(¬ zz9 tx/\e=.returned (.tuple #[.agg Tryz.zeroCells162,.bool false])))/\Fr [] w w':=by
 obtain ⟨OK,hOK⟩:∃ p:Prop,p=zz9 tx:=⟨_,rfl⟩
 rw [<- hOK]
 have HOK:=hid hOK
 clear hOK
 by_cases hsz:tx.size=156
 ·have HNL:Hid (∀ y (h:y < 12),(tx[y*13+12]'(by omega)).toNat=yx7 tx y):=fun y h=>qjq0 tx y (by omega)
  have HSN:Hid (∀ y x (h:y < 12) (h':x < 12),(tx[y*13+x]'(by omega)).toNat=sgn tx (y*12+x)):=fun y x h h'=>dy3 tx y x h' (by omega)
  go_enter Tryz.func76,Tryz.ntmps76
  go_wp2_with fail
  obtain ⟨W3,hW3⟩:∃ W,W=((w.alloc (.cells Tryz.zeroCells162 162)).alloc (.cells Tryz.zeroCells162 162)).alloc (.cells #[ii 0,ii 0] 54):=⟨_,rfl⟩
  rw [<- hW3]
  have h03:Fr [] w W3:=by rw [hW3];exact (((Fr.refl _ _).alloc _).alloc _).alloc _
  have hA:W3.heap[w.heap.size]?=some (.cells Tryz.zeroCells162 162):=by rw [hW3];exact ((Fr.refl [] _).alloc _).heap0 (qz8 _ _ _)
  have hI0:MapJ tx w.heap.size W3 0 W3:=by
   refine ⟨Fr.refl _ _,?_,?_,fun j hj=>by omega⟩
   ·rw [hW3]
    have:=((Fr.refl [] _).alloc (.cells #[ii 0,ii 0] 54)).heap0 (qz4 w (.cells Tryz.zeroCells162 162) (.cells Tryz.zeroCells162 162))
    rw [this,qqz5,dz5]
    simp [qy9,pos]
   ·rw [hW3];exact yq1 _ _ _ (by simp)
  clear hW3
  obtain ⟨A,hAA⟩:∃ x,x=w.heap.size:=⟨_,rfl⟩
  rw [<- hAA] at hA hI0 |-
  have hAw:w.heap.size<=A:=by omega
  clear hAA
  go_loopw [15] (fun i wr=>∃ y:Nat,y<=12/\i=.int .i64 y/\MapJ tx A W3 (y*12) wr/\∀ k,k < y->yx7 tx k=10) (fun i _=>12 - (intOf i).toNat)
  case atStart=>exact ⟨0,Nat.zero_le _,rfl,hI0,fun k hk=>by omega⟩
  case round =>
   obtain ⟨y,hy,rfl,hI,hyn⟩:=hrel
   have HYN:=hid hyn
   clear hyn
   by_cases hlt:y < 12
   ·have hlti:(y:Int) < 12:=by omega
    have hnl:(tx[y*13+12]'(by omega)).toNat=yx7 tx y:=HNL.out y hlt
    have hnb:=qjq1 tx y
    have HI:=hid hI
    clear hI
    by_cases hnn:yx7 tx y=10
    ·rw [hnn] at hnl
     have HNN:=hid hnn
     clear hnn hnb
     go_wp2_with fail
     obtain ⟨wo,hwo⟩:∃ x,x=wr:=⟨_,rfl⟩
     rw [<- hwo] at HI |-
     clear hwo hnl
     go_loopw [25] (fun i wr=>∃ x:Nat,x<=12/\i=.int .i64 x/\MapJ tx A W3 (y*12+x) wr) (fun i _=>12 - (intOf i).toNat)
     case atStart=>exact ⟨0,Nat.zero_le _,rfl,HI.out⟩
     case round =>
      obtain ⟨x,hx,rfl,hI⟩:=hrel
      by_cases hxt:x < 12
      ·have hxti:(x:Int) < 12:=by omega
       have hsg:(tx[y*13+x]'(by omega)).toNat=sgn tx (y*12+x):=HSN.out y x hlt hxt
       have hm:=hI.m
       have hbb:=hI.b
       have hcm:∀ k,k < 148->(wr.cell? ⟨A+1,k,none⟩).isSome=true:=fun k hk=>by
        rw [j9 hm]
        simp [zz8,qy9]
        omega
       have hzm:∀ k,wr.frozen? ⟨A+1,k,none⟩=false:=fun k=>qq0 hm
       obtain ⟨old,hold⟩:=Option.isSome_iff_exists.1 (hcm (y*12+x) (by omega))
       have hzo:=hzm (y*12+x)
       have HM:=hid hm
       have HBB:=hid hbb
       have HI2:=hid hI
       have hsle:=dy4 tx (y*12+x)
       have hbs:=gj6 (gr tx) (y*12+x) (qy9 (pos tx 0 (y*12+x)) (pos tx 1 (y*12+x))) (by omega)
       have HBS:=hid hbs
       obtain ⟨j,hj⟩:∃ j,y*12+x=j:=⟨_,rfl⟩
       have HKJ:=hid hI.k
       have hc0:=zy6 tx 0 j
       have hc1:=zy6 tx 1 j
       rw [hj] at hsg HM HBB HI2 hsle HBS HKJ
       have HJ:=hid hj
       have hj144:j < 144:=by omega
       have hjd:((j % 12:Nat):Int)=x/\((j / 12:Nat):Int)=y:=by omega
       have HJD:=hid hjd
       clear hjd
       rcases kq6 (sgn tx j) with hsv|⟨g,hsv,hg0,hg1⟩|hsv|hsv
       ·have HNO:Hid (¬ OK):=by
         show ¬ OK
         rw [HOK.out]
         intro h
         have:=h.2.2.1 j hj144
         unfold kn at this
         rw [hsv] at this
         cases this
        have HSV:=hid hsv
        have HFR:=HI2.out.fr
        have HAA:=HFR.heap hA (by simp;omega)
        clear hI HI hm hbb hcm hzm hsv hbs hj
        have HAZ:=hid HAA
        go_wp2_with (first|(go_at_call 120;refine (zy1 _ _ (by omega) (by omega)).mono ?_;rintro e w1 ⟨rfl,rfl⟩;rw [HSV.out])|(refine wpList_store_row rfl 162 _ _ rfl A Tryz.zeroCells162 rfl rfl 162 Tryz.zeroCells162 HAZ.out zI zS zO ?_))
        refine bodyPost_ret (v:=.tuple #[.agg Tryz.zeroCells162,.bool false]) (qq3 Tryz.results76 _ _ A 162 Tryz.zeroCells162 (0,0) _ _ rfl rfl (setRow_heap _ _ _ _ _ _ HAZ.out) Tryz.underlying162 rfl zI) rfl ⟨Or.inr ⟨HNO.out,rfl⟩,(h03.trans HFR (by simp;omega)).setRow _ _ (Or.inr hAw)⟩
       ·have e1:gr tx j=g:=by unfold gr;rw [hsv]
        have e2:ow tx j = -1:=by unfold ow;rw [hsv]
        have HK2:Hid (kn tx j=true):=by show kn tx j=true;unfold kn;rw [hsv]
        have HG1:=hid e1
        have HO1:=hid e2
        have HSV:=hid hsv
        clear hI HI hm hbb hcm hzm hsv hbs hj e1 e2
        go_wp2_with (go_at_call 120;refine (zy1 _ _ (by omega) (by omega)).mono ?_;rintro e w1 ⟨rfl,rfl⟩;rw [HSV.out])
        go_roundw
        case rel =>
         refine ⟨x+1,hxt,by go_num,?_⟩
         rw [show y*12+(x+1)=j+1 by have:=HJ.out;omega]
         have p0:pos tx 0 (j+1)=pos tx 0 j/\pos tx 1 (j+1)=pos tx 1 j:=by unfold pos;rw [HO1.out,if_neg (by decide),if_neg (by decide)];exact ⟨by cases j <;> rfl,by cases j <;> rfl⟩
         have p1:cnt tx 0 (j+1)=cnt tx 0 j/\cnt tx 1 (j+1)=cnt tx 1 j:=by unfold cnt;rw [HO1.out,if_neg (by decide),if_neg (by decide)];exact ⟨by cases j <;> rfl,by cases j <;> rfl⟩
         refine ⟨HI2.out.fr.setCell _ _ (by simp),?_,?_,?_⟩
         ·rw [HJ.out,qz9 HM.out,p0.1,p0.2,<- HBS.out,HG1.out]
         ·rw [Below.heap_setCell _ _ _ _ (by simp),HBB.out,p1.1,p1.2]
         ·intro k hk
          by_cases e:k=j
          ·rw [e];exact HK2.out
          ·exact HKJ.out k (by omega)
        case measure=>simp [intOf];omega
       ·have e1:gr tx j=0:=by unfold gr;rw [hsv]
        have e2:ow tx j=0:=by unfold ow;rw [hsv]
        have HK2:Hid (kn tx j=true):=by show kn tx j=true;unfold kn;rw [hsv]
        have HG1:=hid e1
        have HO1:=hid e2
        have HSV:=hid hsv
        obtain ⟨o4,ho4⟩:=Option.isSome_iff_exists.1 (hcm 144 (by omega))
        obtain ⟨o5,ho5⟩:=Option.isSome_iff_exists.1 (hcm 145 (by omega))
        have hz4:=hzm 144
        have hz5:=hzm 145
        have hk0:wr.cell? ⟨A+1+1,0,none⟩=some (ii (cnt tx 0 j)):=by rw [j9 HBB.out];rfl
        have hkz:wr.frozen? ⟨A+1+1,0,none⟩=false:=qq0 hbb
        have j1:¬ y*12+x=144:=by omega
        have j2:¬ y*12+x=145:=by omega
        have j3:¬ 144=y*12+x:=by omega
        have j4:¬ 145=y*12+x:=by omega
        clear hI HI hm hbb hcm hzm hsv hbs hj e1 e2
        go_wp2_with (go_at_call 120;refine (zy1 _ _ (by omega) (by omega)).mono ?_;rintro e w1 ⟨rfl,rfl⟩;rw [HSV.out])
        go_roundw
        case rel =>
         refine ⟨x+1,hxt,by go_num,?_⟩
         rw [show y*12+(x+1)=j+1 by have:=HJ.out;omega]
         have p0:pos tx 0 (j+1)=j/\pos tx 1 (j+1)=pos tx 1 j:=⟨by unfold pos;rw [HO1.out,if_pos rfl],by unfold pos;rw [HO1.out,if_neg (by decide)];cases j <;> rfl⟩
         have p1:cnt tx 0 (j+1)=cnt tx 0 j+1/\cnt tx 1 (j+1)=cnt tx 1 j:=⟨by rw [cnt,HO1.out,if_pos rfl],by rw [cnt,HO1.out,if_neg (by decide)]⟩
         refine ⟨(((HI2.out.fr.setCell _ _ (by simp)).setCell _ _ (by simp)).setCell _ _ (by simp)).setCell _ _ (by simp),?_,?_,?_⟩
         ·rw [HJ.out,Below.heap_setCell _ _ _ _ (by simp),qz9 (qz9 (qz9 HM.out _ _) _ _) _ _]
          have e1:=HBS.out
          rw [HG1.out] at e1
          have e2:=yj5 (gr tx) (j+1) 0 (qy9 (pos tx 0 j) (pos tx 1 j)) (ii x)
          have e3:=yj5 (gr tx) (j+1) 1 ((qy9 (pos tx 0 j) (pos tx 1 j)).set 0 (ii x)) (ii y)
          have e4:((qy9 (pos tx 0 j) (pos tx 1 j)).set 0 (ii x)).set 1 (ii y)=qy9 (pos tx 0 (j+1)) (pos tx 1 (j+1)):=by
           rw [p0.1,p0.2]
           unfold qy9
           rw [HJD.out.1,HJD.out.2]
           rfl
          rw [e4] at e3
          exact congrArg (fun a=>some (Obj.cells a 162)) ((congrArg (fun a=>(a.setIfInBounds 144 (ii x)).setIfInBounds 145 (ii y)) e1).trans ((congrArg (fun a=>a.setIfInBounds 145 (ii y)) e2).trans e3))
         ·refine (qz9 ((Below.heap_setCell _ _ _ _ (by simp)).trans ((Below.heap_setCell _ _ _ _ (by simp)).trans ((Below.heap_setCell _ _ _ _ (by simp)).trans HBB.out))) _ _).trans ?_
          rw [p1.1,p1.2]
          rfl
         ·intro k hk
          by_cases e:k=j
          ·rw [e];exact HK2.out
          ·exact HKJ.out k (by omega)
        case measure=>simp [intOf];omega
       ·have e1:gr tx j=0:=by unfold gr;rw [hsv]
        have e2:ow tx j=1:=by unfold ow;rw [hsv]
        have HK2:Hid (kn tx j=true):=by show kn tx j=true;unfold kn;rw [hsv]
        have HG1:=hid e1
        have HO1:=hid e2
        have HSV:=hid hsv
        obtain ⟨o4,ho4⟩:=Option.isSome_iff_exists.1 (hcm 146 (by omega))
        obtain ⟨o5,ho5⟩:=Option.isSome_iff_exists.1 (hcm 147 (by omega))
        have hz4:=hzm 146
        have hz5:=hzm 147
        have hk0:wr.cell? ⟨A+1+1,1,none⟩=some (ii (cnt tx 1 j)):=by rw [j9 HBB.out];rfl
        have hkz:wr.frozen? ⟨A+1+1,1,none⟩=false:=qq0 hbb
        have j1:¬ y*12+x=146:=by omega
        have j2:¬ y*12+x=147:=by omega
        have j3:¬ 146=y*12+x:=by omega
        have j4:¬ 147=y*12+x:=by omega
        clear hI HI hm hbb hcm hzm hsv hbs hj e1 e2
        go_wp2_with (go_at_call 120;refine (zy1 _ _ (by omega) (by omega)).mono ?_;rintro e w1 ⟨rfl,rfl⟩;rw [HSV.out])
        go_roundw
        case rel =>
         refine ⟨x+1,hxt,by go_num,?_⟩
         rw [show y*12+(x+1)=j+1 by have:=HJ.out;omega]
         have p0:pos tx 1 (j+1)=j/\pos tx 0 (j+1)=pos tx 0 j:=⟨by unfold pos;rw [HO1.out,if_pos rfl],by unfold pos;rw [HO1.out,if_neg (by decide)];cases j <;> rfl⟩
         have p1:cnt tx 1 (j+1)=cnt tx 1 j+1/\cnt tx 0 (j+1)=cnt tx 0 j:=⟨by rw [cnt,HO1.out,if_pos rfl],by rw [cnt,HO1.out,if_neg (by decide)]⟩
         refine ⟨(((HI2.out.fr.setCell _ _ (by simp)).setCell _ _ (by simp)).setCell _ _ (by simp)).setCell _ _ (by simp),?_,?_,?_⟩
         ·rw [HJ.out,Below.heap_setCell _ _ _ _ (by simp),qz9 (qz9 (qz9 HM.out _ _) _ _) _ _]
          have e1:=HBS.out
          rw [HG1.out] at e1
          have e2:=yj5 (gr tx) (j+1) 2 (qy9 (pos tx 0 j) (pos tx 1 j)) (ii x)
          have e3:=yj5 (gr tx) (j+1) 3 ((qy9 (pos tx 0 j) (pos tx 1 j)).set 2 (ii x)) (ii y)
          have e4:((qy9 (pos tx 0 j) (pos tx 1 j)).set 2 (ii x)).set 3 (ii y)=qy9 (pos tx 0 (j+1)) (pos tx 1 (j+1)):=by
           rw [p0.1,p0.2]
           unfold qy9
           rw [HJD.out.1,HJD.out.2]
           rfl
          rw [e4] at e3
          exact congrArg (fun a=>some (Obj.cells a 162)) ((congrArg (fun a=>(a.setIfInBounds 146 (ii x)).setIfInBounds 147 (ii y)) e1).trans ((congrArg (fun a=>a.setIfInBounds 147 (ii y)) e2).trans e3))
         ·refine (qz9 ((Below.heap_setCell _ _ _ _ (by simp)).trans ((Below.heap_setCell _ _ _ _ (by simp)).trans ((Below.heap_setCell _ _ _ _ (by simp)).trans HBB.out))) _ _).trans ?_
          rw [p1.1,p1.2]
          rfl
         ·intro k hk
          by_cases e:k=j
          ·rw [e];exact HK2.out
          ·exact HKJ.out k (by omega)
        case measure=>simp [intOf];omega
      ·have hx12:x=12:=by omega
       subst hx12
       go_wp2_with fail
       go_roundw
       case rel =>
        refine ⟨y+1,hlt,by go_num,by rw [show (y+1)*12=y*12+12 by omega];exact hI,fun k hk=>?_⟩
        by_cases e:k=y
        ·rw [e];exact HNN.out
        ·exact HYN.out k (by omega)
       case measure=>simp [intOf];omega
    ·have HNO:Hid (¬ OK):=by
      show ¬ OK
      rw [HOK.out]
      intro h
      exact hnn (h.2.1 y hlt)
     have HFR:=HI.out.fr
     have HAA:=HFR.heap hA (by simp;omega)
     have hnv:¬ ((yx7 tx y:Nat):Int)=10:=by omega
     clear hnn
     have HAZ:=hid HAA
     go_wp2_with (refine wpList_store_row rfl 162 _ _ rfl A Tryz.zeroCells162 rfl rfl 162 Tryz.zeroCells162 HAZ.out zI zS zO ?_)
     refine bodyPost_ret (v:=.tuple #[.agg Tryz.zeroCells162,.bool false]) (qq3 Tryz.results76 _ _ A 162 Tryz.zeroCells162 (0,0) _ _ rfl rfl (setRow_heap _ _ _ _ _ _ HAZ.out) Tryz.underlying162 rfl zI) rfl ⟨Or.inr ⟨HNO.out,rfl⟩,(h03.trans HFR (by simp;omega)).setRow _ _ (Or.inr hAw)⟩
   ·have hy12:y=12:=by omega
    subst hy12
    have hm:=hI.m
    have hbb:=hI.b
    obtain ⟨n0,hn0⟩:∃ x,cnt tx 0 144=x:=⟨_,rfl⟩
    obtain ⟨n1,hn1⟩:∃ x,cnt tx 1 144=x:=⟨_,rfl⟩
    have hb0:wr.cell? ⟨A+1+1,0,none⟩=some (ii n0):=by rw [j9 hbb,<- hn0];rfl
    have hb1:wr.cell? ⟨A+1+1,1,none⟩=some (ii n1):=by rw [j9 hbb,<- hn1];rfl
    have HM:=hid hm
    have hI2:=hI.fr
    have HKJ:=hid hI.k
    clear hI hm hbb
    have hon:=qxz3 n0 n1
    have hA2:=hI2.heap hA (by simp;omega)
    by_cases hnn:n0=1/\n1=1
    ·obtain ⟨rfl,rfl⟩:=hnn
     have HYES:Hid OK:=by
      show OK
      rw [HOK.out]
      exact ⟨hsz,HYN.out,HKJ.out,hn0,hn1⟩
     obtain ⟨ma,hma⟩:∃ x,x=(zz8 (gr tx) 144 ++ qy9 (pos tx 0 144) (pos tx 1 144)).toArray:=⟨_,rfl⟩
     have hM:wr.heap[A+1]?=some (.cells ma 162):=by rw [hma];exact HM.out
     have hms:ma.size=148:=by rw [hma];simp [zz8,qy9]
     have hm1:ma.all (·.oneCell')=true:=by rw [hma];exact kv4 _ _ _ _
     have HMA:=hid hma
     have HI3:Hid ((Tryz.prog.info? 162).map (·.size)=some ma.size):=by
      show _=_
      rw [hms];kernel_rfl
     have HZ3:Hid (Tryz.zeroCells162.size=ma.size):=by
      show _=_
      rw [hms,qqz5];simp
     have HO3:=hid hm1
     have HA2:=hid hA2
     have HM3:=hid hM
     clear hma hms hm1 hA2 hM hn0 hn1
     go_wp2_with (first|(refine wpList_load_row rfl 162 _ rfl (A+1) rfl 162 ma (0,0) _ HM3.out Tryz.underlying162 rfl HI3.out ?_)|(refine wpList_store_row rfl 162 _ _ rfl A ma rfl rfl 162 Tryz.zeroCells162 HA2.out HI3.out HZ3.out HO3.out ?_))
     refine bodyPost_ret (v:=.tuple #[.agg ma,.bool true]) (qq3 Tryz.results76 _ _ A 162 ma (0,0) _ _ rfl rfl (setRow_heap _ _ _ _ _ _ HA2.out) Tryz.underlying162 rfl HI3.out) rfl ⟨Or.inl ⟨HYES.out,by rw [HMA.out]⟩,?_⟩
     exact (h03.trans hI2 (by simp;omega)).setRow _ _ (Or.inr hAw)
    ·have HNO:Hid (¬ OK):=by
      show ¬ OK
      rw [HOK.out]
      intro h
      exact hnn ⟨hn0.symm.trans h.2.2.2.1,hn1.symm.trans h.2.2.2.2⟩
     have hbv:(!(n0==1&&n1==1))=true:=by
      simp only [Bool.not_eq_true',Bool.and_eq_false_iff,beq_eq_false_iff_ne]
      omega
     simp only [hbv] at hon
     clear hn0 hn1 hnn
     have HAZ:=hid hA2
     go_wp2_with (refine wpList_store_row rfl 162 _ _ rfl A Tryz.zeroCells162 rfl rfl 162 Tryz.zeroCells162 HAZ.out zI zS zO ?_)
     refine bodyPost_ret (v:=.tuple #[.agg Tryz.zeroCells162,.bool false]) (qq3 Tryz.results76 _ _ A 162 Tryz.zeroCells162 (0,0) _ _ rfl rfl (setRow_heap _ _ _ _ _ _ HAZ.out) Tryz.underlying162 rfl zI) rfl ⟨Or.inr ⟨HNO.out,rfl⟩,(h03.trans hI2 (by simp;omega)).setRow _ _ (Or.inr hAw)⟩
 ·have HNO:Hid (¬ OK):=by
   show ¬ OK
   rw [HOK.out]
   intro h
   exact hsz h.1
  have hszi:¬ (tx.size:Int)=156:=by omega
  clear hsz
  have HAW:=qq6 w (.cells Tryz.zeroCells162 162)
  go_enter Tryz.func76,Tryz.ntmps76
  have HAZ:=hid HAW
  go_wp2_with (refine wpList_store_row rfl 162 _ _ rfl w.heap.size Tryz.zeroCells162 rfl rfl 162 Tryz.zeroCells162 HAZ.out zI zS zO ?_)
  refine bodyPost_ret (v:=.tuple #[.agg Tryz.zeroCells162,.bool false]) (qq3 Tryz.results76 _ _ w.heap.size 162 Tryz.zeroCells162 (0,0) _ _ rfl rfl (setRow_heap _ _ _ _ _ _ HAZ.out) Tryz.underlying162 rfl zI) rfl ⟨Or.inr ⟨HNO.out,rfl⟩,((Fr.refl [] w).alloc _).setRow _ _ (Or.inr (Nat.le_refl _))⟩
def vj0 (p q r s:Int)(k:Nat):U:=qk4 ((k:Int)+1) k 1 (if k=0 then p else r) (if k=0 then q else s) 40
structure NewX (p q r s:Int) (Wg:World) (gb:Nat) (k:Nat) (wr:World):Prop where
 ex:∃ v,wr.cell? ⟨gb,148,none⟩=some v/\wr.ownsRow Wg.heap.size 85 11 v k (((List.range k).map (vj0 p q r s)).flatMap U.cells)
 nx:wr.cell? ⟨gb,1,none⟩=some (ii ((k:Int)+1))
 fr:Fr [gb] Wg wr
 ot:∀ j,j≠1->j≠148->wr.cell? ⟨gb,j,none⟩=Wg.cell? ⟨gb,j,none⟩
 fz:∀ j,wr.frozen? ⟨gb,j,none⟩=Wg.frozen? ⟨gb,j,none⟩
theorem kz7 (p q r s:Int)(Wg:World)(gb k:Nat)(wr w0:World)(h:NewX p q r s Wg gb k wr)(hf:Fr [] wr w0)(hgb:gb < Wg.heap.size)(hk:k < 2)(hz:∀ j,Wg.frozen? ⟨gb,j,none⟩=false)(x y:Int)(hx:x=if k=0 then p else r)(hy:y=if k=0 then q else s) :
  Calls Tryz.prog 77 #[.pointer (some ⟨gb,0,none⟩),.int .i64 (k:Int),.int .i64 1,cv x y] w0 fun e w'=>e=.returned (.tuple #[])/\NewX p q r s Wg gb (k+1) w':=by
 obtain ⟨⟨v,hv,hown⟩,hnx,hfr,hot,hfz⟩:=h
 have hl:((List.range k).map (vj0 p q r s)).length=k:=by simp
 have hgr:gb < wr.heap.size:=Nat.lt_of_lt_of_le hgb hfr.size
 have hg0:gb < w0.heap.size:=Nat.lt_of_lt_of_le hgr hf.size
 have c:∀ j,w0.cell? ⟨gb,j,none⟩=wr.cell? ⟨gb,j,none⟩:=fun j=>hf.cell gb j hgr (by simp)
 have f:∀ j,w0.frozen? ⟨gb,j,none⟩=wr.frozen? ⟨gb,j,none⟩:=fun j=>hf.frozen gb j hgr (by simp)
 have hown':w0.ownsRow Wg.heap.size 85 11 v ((List.range k).map (vj0 p q r s)).length (((List.range k).map (vj0 p q r s)).flatMap U.cells):=by rw [hl];exact qq7 hown hf (by simp)
 refine (gy3 gb Wg.heap.size ((k:Int)+1) k 1 x y 40 _ _ _ _ _ _ _ _ _ _ _ _ _ _ _ _ _ _ _ _ _ _ _ v ((List.range k).map (vj0 p q r s)) w0 (fun w=>jx0 w) fld1 hg0 ((c 1).trans hnx) (by rw [f,hfz];exact hz 1) ((c 148).trans hv) (by rw [f,hfz];exact hz 148) hown' (fun e=>by have:=qj1 hown e;omega) (by rw [hl];omega) (by omega) (Nat.le_trans hfr.size hf.size)).mono ?_
 rintro e w' ⟨rfl,v',q1,q2,q3,_,q5,q6,q7⟩
 refine ⟨rfl,⟨v',q1,?_⟩,?_,?_,?_,?_⟩
 ·rw [hl] at q3
  have:(List.range (k+1)).map (vj0 p q r s)=(List.range k).map (vj0 p q r s) ++ [qk4 ((k:Int)+1) k 1 x y 40]:=by rw [List.range_succ,List.map_append,hx,hy];rfl
  rw [this]
  exact q3
 ·rw [q2];simp
 ·refine (hfr.then0 hf).trans q5 (fun b hb=>?_)
  rcases List.mem_cons.1 hb with rfl|hb
  ·simp
  ·exact Or.inr (qj1 hown (by simpa using hb))
 ·intro j h1 h2
  rw [q6 j h1 h2,c,hot j h1 h2]
 ·intro j
  rw [q7,f,hfz]
theorem atX0 (p q r s:Int)(w:World):(Instr.index 160 (.agg #[ii p,ii q,ii r,ii s]) (.int .i64 0)).run Tryz.prog w=.ok (cv p q) w:=by kernel_rfl
theorem atX1 (p q r s:Int)(w:World):(Instr.index 160 (.agg #[ii p,ii q,ii r,ii s]) (.int .i64 1)).run Tryz.prog w=.ok (cv r s) w:=by kernel_rfl
def zz4 (tx:ByteArray):T:={ turn:=0,next:=3,s0:=10,s1:=10,bd:=gr tx,us:=[qk4 1 0 1 ((pos tx 0 144 % 12:Nat):Int) ((pos tx 0 144 / 12:Nat):Int) 40,qk4 2 1 1 ((pos tx 1 144 % 12:Nat):Int) ((pos tx 1 144 / 12:Nat):Int) 40],held:=fun _=>none }
theorem zIG:(Tryz.prog.info? 90).map (·.size)=some Tryz.zeroCells90.size:=by kernel_rfl
theorem zOG:Tryz.zeroCells90.all (·.oneCell')=true:=by kernel_rfl
theorem kq3 (tx:ByteArray)(w:World) :
  Calls Tryz.prog 35 #[.string tx] w fun e w'=>((zz9 tx/\∃ pb cap,e=.returned (.tuple #[.agg (qz5 (zz4 tx) (.slice (some ⟨pb,0,none⟩) 2 cap)).toArray,.bool true])/\PRow w' pb cap (zz4 tx).us/\w.heap.size<=pb)\/(¬ zz9 tx/\e=.returned (.tuple #[.agg Tryz.zeroCells90,.bool false])))/\Fr [] w w':=by
 obtain ⟨OK,hOK⟩:∃ p:Prop,p=zz9 tx:=⟨_,rfl⟩
 have hmap:=kw9 tx
 rw [<- hOK]
 simp only [<- hOK] at hmap
 clear hOK
 obtain ⟨B,hB⟩:∃ B,B=zz8 (gr tx) 144:=⟨_,rfl⟩
 have hBl:B.length=144:=by rw [hB];exact yq9 _ 144
 have hm1:=kv4 (gr tx) 144 (pos tx 0 144) (pos tx 1 144)
 have hTD:(zz4 tx).us=[qk4 1 0 1 ((pos tx 0 144 % 12:Nat):Int) ((pos tx 0 144 / 12:Nat):Int) 40,qk4 2 1 1 ((pos tx 1 144 % 12:Nat):Int) ((pos tx 1 144 / 12:Nat):Int) 40]:=rfl
 rw [<- hB] at hm1
 simp only [<- hB,qy9] at hmap
 unfold qy9 at hm1
 obtain ⟨p,hp⟩:∃ p,p=((pos tx 0 144 % 12:Nat):Int):=⟨_,rfl⟩
 obtain ⟨q,hq⟩:∃ p,p=((pos tx 0 144 / 12:Nat):Int):=⟨_,rfl⟩
 obtain ⟨r,hr⟩:∃ p,p=((pos tx 1 144 % 12:Nat):Int):=⟨_,rfl⟩
 obtain ⟨s,hs⟩:∃ p,p=((pos tx 1 144 / 12:Nat):Int):=⟨_,rfl⟩
 rw [<- hp,<- hq,<- hr,<- hs] at hm1 hTD
 simp only [<- hp,<- hq,<- hr,<- hs] at hmap
 clear hp hq hr hs
 have HTD:=hid hTD
 clear hTD
 have hms:(B ++ [ii p,ii q,ii r,ii s]).toArray.size=148:=by simp [hBl]
 have hbld:=gj8 B hBl
 obtain ⟨ma,hma⟩:∃ x,x=(B ++ [ii p,ii q,ii r,ii s]).toArray:=⟨_,rfl⟩
 rw [<- hma] at hm1 hms
 simp only [<- hma] at hmap
 have HMAP:=hid hmap
 have HMA:=hid hma
 have HB:=hid hB
 have HBL:=hid hBl
 have HM1:=hid hm1
 have HI3:Hid ((Tryz.prog.info? 162).map (·.size)=some ma.size):=by
  show _=_
  rw [hms];exact qqj9
 have HZ3:Hid (Tryz.zeroCells162.size=ma.size):=by
  show _=_
  rw [hms,qqz5];simp
 clear hma hB hBl hmap hm1 hms
 go_enter Tryz.func35,Tryz.ntmps35
 go_wp2_with fail
 refine Calls.mono (HMAP.out _) ?_
 rintro e w1 ⟨⟨hok,rfl⟩|⟨hno,rfl⟩,hf1⟩
 rotate_left
 ·have HNO:=hid hno
  have HRes:Hid (((w1.alloc (.cells Tryz.zeroCells162 162)).setRow w1.heap.size Tryz.zeroCells162).heap[w.heap.size]?=some (.cells Tryz.zeroCells90 90)):=by
   show _=_
   have h0:=hf1.heap0 (qq6 w (.cells Tryz.zeroCells90 90))
   exact (((Fr.refl [] w1).alloc _).setRow _ _ (Or.inr (Nat.le_refl _))).heap0 h0
  have hw1:Fr [] w w1:=((Fr.refl [] w).alloc (.cells Tryz.zeroCells90 90)).then0 hf1
  have HF2:Hid (Fr [] w ((w1.alloc (.cells Tryz.zeroCells162 162)).setRow w1.heap.size Tryz.zeroCells162)):=(hw1.alloc _).setRow _ _ (Or.inr hw1.size)
  clear hno hf1 HMAP hw1
  dsimp only
  go_wp2_with (first|(refine wpList_store_row rfl 162 _ _ rfl w1.heap.size Tryz.zeroCells162 rfl rfl 162 Tryz.zeroCells162 (qq6 w1 _) zI zS zO ?_)|(refine wpList_store_row rfl 90 _ _ rfl w.heap.size Tryz.zeroCells90 rfl rfl 90 Tryz.zeroCells90 HRes.out zIG rfl zOG ?_))
  refine bodyPost_ret (v:=.tuple #[.agg Tryz.zeroCells90,.bool false]) (qq3 Tryz.results35 _ _ w.heap.size 90 Tryz.zeroCells90 (0,0) _ _ rfl rfl (setRow_heap _ _ _ _ _ _ HRes.out) Tryz.underlying90 rfl zIG) rfl ⟨Or.inr ⟨HNO.out,rfl⟩,HF2.out.setRow _ _ (Or.inr (Nat.le_refl _))⟩
 have HOK:=hid hok
 clear hok
 dsimp only
 have hw1:Fr [] w w1:=((Fr.refl [] w).alloc (.cells Tryz.zeroCells90 90)).then0 hf1
 have hRes:w1.heap[w.heap.size]?=some (.cells Tryz.zeroCells90 90):=hf1.heap0 (qq6 _ _)
 have HR:=hid hRes
 clear HMAP hRes hf1
 have HF2:Hid (Fr [] w ((w1.alloc (.cells Tryz.zeroCells162 162)).setRow w1.heap.size ma)):=(hw1.alloc _).setRow _ _ (Or.inr hw1.size)
 have HMM:Hid (((w1.alloc (.cells Tryz.zeroCells162 162)).setRow w1.heap.size ma).heap[w1.heap.size]?=some (.cells ma 162)):=setRow_heap _ _ _ _ _ _ (qq6 _ _)
 have HRG:Hid (((w1.alloc (.cells Tryz.zeroCells162 162)).setRow w1.heap.size ma).rangeAt w1.heap.size 0 B):=fun j v hv=>by
  rw [Nat.zero_add,j9 HMM.out,HMA.out]
  simp only [List.getElem?_toArray]
  rw [List.getElem?_append_left (List.getElem?_eq_some_iff.1 hv).1]
  exact hv
 have HI5:Hid ((Tryz.prog.info? 88).map (·.size)=some B.length):=by
  show _=_
  rw [jj7,HBL.out]
 obtain ⟨G0,hG0⟩:∃ x,x=(ii 0 :: ii 1 :: ii 10 :: ii 10 :: (B ++ [Value.slice none 0 0])).toArray:=⟨_,rfl⟩
 rw [<- hG0] at hbld
 have HBLD:=hid hbld
 clear hbld
 have HG0:=hid hG0
 have HIG:Hid ((Tryz.prog.info? 90).map (·.size)=some G0.size):=by
  show _=_
  rw [qx7,hG0];simp [HBL.out]
 have HZG:Hid (Tryz.zeroCells90.size=G0.size):=by
  show _=_
  rw [zcGame,hG0];simp [HBL.out]
 have HOG:Hid (G0.all (·.oneCell')=true):=by
  show _=_
  rw [hG0]
  apply all_oneCell_toArray
  intro v hv
  simp only [List.mem_cons,List.mem_append,List.not_mem_nil,or_false] at hv
  rcases hv with rfl|rfl|rfl|rfl|hv|rfl
  ·rfl
  ·rfl
  ·rfl
  ·rfl
  ·rw [HB.out] at hv
   obtain ⟨j,_,rfl⟩:=List.mem_map.1 hv
   by_cases hj:j < 144
   ·rw [if_pos hj];rfl
   ·rw [if_neg hj];rfl
  ·rfl
 have HGP:Hid ((((w1.alloc (.cells Tryz.zeroCells162 162)).setRow w1.heap.size ma).alloc (.cells Tryz.zeroCells90 90)).heap[w1.heap.size+1]?=some (.cells Tryz.zeroCells90 90)):=yq1 _ _ _ (by simp)
 clear hG0
 have hq:∀ k v,[ii p,ii q,ii r,ii s][k]?=some v->((((w1.alloc (.cells Tryz.zeroCells162 162)).setRow w1.heap.size ma).alloc (.cells Tryz.zeroCells90 90)).setRow (w1.heap.size+1) G0).cell? ⟨w1.heap.size,144+k,none⟩=some v:=fun k v hk=>by
  have h1:((((w1.alloc (.cells Tryz.zeroCells162 162)).setRow w1.heap.size ma).alloc (.cells Tryz.zeroCells90 90)).setRow (w1.heap.size+1) G0).heap[w1.heap.size]?=some (.cells ma 162):=by
   rw [setRow_other _ _ _ _ (by omega)]
   exact ((Fr.refl [] _).alloc _).heap0 HMM.out
  rw [j9 h1,HMA.out]
  simp only [List.getElem?_toArray]
  rw [List.getElem?_append_right (by rw [HBL.out];omega),HBL.out,Nat.add_sub_cancel_left]
  exact hk
 have b4:=hq 0 _ rfl
 have b5:=hq 1 _ rfl
 have b6:=hq 2 _ rfl
 have b7:=hq 3 _ rfl
 clear hq
 go_wp2_with (first|(refine xz0 rfl 90 1 2 3 (.const (.int .i64 1)) (.tmp 17) (.tmp 19) rfl (ii 1) (.agg #[ii 10,ii 10]) (.agg B.toArray) rfl rfl rfl G0 HBLD.out ?_)|(refine wpList_store_row rfl 162 _ _ rfl w1.heap.size ma rfl rfl 162 Tryz.zeroCells162 (qq6 w1 _) HI3.out HZ3.out HM1.out ?_)|(refine wpList_load_mid rfl 88 _ rfl w1.heap.size 0 rfl B _ HRG.out Tryz.underlying88 rfl HI5.out ?_)|(refine wpList_store_row rfl 90 _ _ rfl (w1.heap.size+1) G0 rfl rfl 90 Tryz.zeroCells90 HGP.out HIG.out HZG.out HOG.out ?_))
 obtain ⟨Wg,hWg⟩:∃ W,W=(((w1.alloc (.cells Tryz.zeroCells162 162)).setRow w1.heap.size ma).alloc (.cells Tryz.zeroCells90 90)).setRow (w1.heap.size+1) G0:=⟨_,rfl⟩
 rw [<- hWg]
 have hgG:Wg.heap[w1.heap.size+1]?=some (.cells G0 90):=by rw [hWg];exact setRow_heap _ _ _ _ _ _ HGP.out
 have hwg:Fr [] w Wg:=by rw [hWg];exact (HF2.out.alloc _).setRow _ _ (Or.inr (by have:=hw1.size;omega))
 have hRg:Wg.heap[w.heap.size]?=some (.cells Tryz.zeroCells90 90):=by
  have hlt:=qq2 HR.out
  have f1:Fr [] w1 Wg:=by rw [hWg];exact ((((Fr.refl [] w1).alloc _).setRow _ _ (Or.inr (Nat.le_refl _))).alloc _).setRow _ _ (Or.inr (by omega))
  exact f1.heap0 HR.out
 obtain ⟨gb,hgb⟩:∃ x,x=w1.heap.size+1:=⟨_,rfl⟩
 have hrg:w.heap.size < gb:=by have:=hw1.size;omega
 rw [<- hgb] at hgG |-
 have hc148:Wg.cell? ⟨gb,148,none⟩=some (.slice none 0 0):=by
  rw [j9 hgG,HG0.out]
  simp only [List.getElem?_toArray,List.getElem?_cons_succ]
  rw [List.getElem?_append_right (by rw [HBL.out];omega),HBL.out]
  rfl
 have hc1:Wg.cell? ⟨gb,1,none⟩=some (ii 1):=by rw [j9 hgG,HG0.out];rfl
 have hzg:∀ j,Wg.frozen? ⟨gb,j,none⟩=false:=fun j=>qq0 hgG
 have hgl:=qq2 hgG
 have hN0:NewX p q r s Wg gb 0 Wg:=⟨⟨_,hc148,⟨rfl,Or.inl ⟨rfl,rfl⟩⟩⟩,hc1,Fr.refl _ _,fun _ _ _=>rfl,fun _=>rfl⟩
 have HN0:=hid hN0
 have HZG:=hid hzg
 have HGG:=hid hgG
 have HRG2:=hid hRg
 clear hWg hgb b4 b5 b6 b7 hgG hRg hc148 hc1 hzg hN0 HMM HRG HF2 HGP
 go_loopw [23] (fun i wr=>∃ k:Nat,k<=2/\i=.int .i64 k/\NewX p q r s Wg gb k wr) (fun i _=>2 - (intOf i).toNat)
 case atStart=>exact ⟨0,by omega,rfl,HN0.out⟩
 case round =>
  obtain ⟨k,hk,rfl,hI⟩:=hrel
  have HI:=hid hI
  clear hI
  have hks:k=0\/k=1\/k=2:=by omega
  rcases hks with rfl|rfl|rfl
  ·have hat:=atX0 p q r s
   have HAD:Hid (∀ w0,Fr [] wr w0->Calls Tryz.prog 77 #[.pointer (some ⟨gb,0,none⟩),.int .i64 0,.int .i64 1,cv p q] w0 fun e w'=>e=.returned (.tuple #[])/\NewX p q r s Wg gb 1 w'):=fun w0 hf=>kz7 p q r s Wg gb 0 wr w0 HI.out hf hgl (by omega) HZG.out p q rfl rfl
   go_wp2_with (go_at_call 77;refine Calls.mono (HAD.out _ ((Fr.refl _ _).alloc _)) ?_;rintro e w2 ⟨rfl,hN⟩)
   go_roundw
   case rel=>exact ⟨1,by omega,by go_num,hN⟩
   case measure=>simp [intOf]
  ·have hat:=atX1 p q r s
   have HAD:Hid (∀ w0,Fr [] wr w0->Calls Tryz.prog 77 #[.pointer (some ⟨gb,0,none⟩),.int .i64 1,.int .i64 1,cv r s] w0 fun e w'=>e=.returned (.tuple #[])/\NewX p q r s Wg gb 2 w'):=fun w0 hf=>kz7 p q r s Wg gb 1 wr w0 HI.out hf hgl (by omega) HZG.out r s rfl rfl
   go_wp2_with (go_at_call 77;refine Calls.mono (HAD.out _ ((Fr.refl _ _).alloc _)) ?_;rintro e w2 ⟨rfl,hN⟩)
   go_roundw
   case rel=>exact ⟨2,by omega,by go_num,hN⟩
   case measure=>simp [intOf]
  ·obtain ⟨⟨v,hv,hown⟩,hnx,hfr,hot,hfz⟩:=HI.out
   have hown':wr.ownsRow Wg.heap.size 85 11 v 2 ((zz4 tx).us.flatMap U.cells):=by rw [HTD.out];exact hown
   obtain ⟨pb,cap,hvv,hpb,hrow⟩:=PRow.of_owns (us:=(zz4 tx).us) hown' rfl (by omega)
   have hvv':v=.slice (some ⟨pb,0,none⟩) 2 cap:=hvv
   have hrng:wr.rangeAt gb 0 (qz5 (zz4 tx) (.slice (some ⟨pb,0,none⟩) 2 cap)):=by
    intro j u hu
    have hj:j < 149:=by have:=(List.getElem?_eq_some_iff.1 hu).1;rwa [zq7] at this
    unfold qz5 at hu
    rw [List.getElem?_map,List.getElem?_range hj] at hu
    simp only [Option.map_some,Option.some.injEq] at hu
    rw [<- hu,Nat.zero_add]
    by_cases j8:j=148
    ·subst j8
     rw [hv,hvv']
     rfl
    ·by_cases j1:j=1
     ·subst j1
      rw [hnx]
      rfl
     ·rw [hot j j1 j8,j9 HGG.out,HG0.out]
      unfold qq9
      by_cases j0:j=0
      ·subst j0;rfl
      ·by_cases j2:j=2
       ·subst j2;rfl
       ·by_cases j3:j=3
        ·subst j3;rfl
        ·obtain ⟨i,rfl⟩:∃ i,j=i+4:=⟨j - 4,by omega⟩
         simp only [List.getElem?_toArray,List.getElem?_cons_succ]
         rw [if_neg j0,if_neg j1,if_neg j2,if_neg j3,if_pos (by omega),List.getElem?_append_left (by rw [HBL.out];omega),HB.out]
         unfold zz8
         rw [List.getElem?_map,List.getElem?_range (by omega)]
         simp only [Option.map_some]
         rw [if_pos (by omega)]
         rfl
   obtain ⟨gl,hgle⟩:∃ x,x=qz5 (zz4 tx) (.slice (some ⟨pb,0,none⟩) 2 cap):=⟨_,rfl⟩
   have hll:gl.length=149:=by rw [hgle];exact zq7 _ _
   have ho1:gl.toArray.all (·.oneCell')=true:=by rw [hgle];exact zx9 _ _ _ _
   rw [<- hgle] at hrng
   have HRN:=hid hrng
   have HGE:=hid hgle
   have HO:=hid ho1
   have HL1:Hid ((Tryz.prog.info? 90).map (·.size)=some gl.length):=by
    show _=_
    rw [qx7,hll]
   have HL2:Hid ((Tryz.prog.info? 90).map (·.size)=some gl.toArray.size):=by
    show _=_
    rw [qx7,List.size_toArray,hll]
   have HL3:Hid (Tryz.zeroCells90.size=gl.toArray.size):=by
    show _=_
    exact zcGame.trans (by simp [hll])
   have hR:=hfr.heap HRG2.out (by simp;omega)
   have HR3:=hid hR
   clear hgle hll ho1 hrng hvv hvv' hv hown hown' hnx hot hfz hR
   go_wp2_with (first|(refine wpList_load_mid rfl 90 _ rfl gb 0 rfl gl _ HRN.out Tryz.underlying90 rfl HL1.out ?_)|(refine wpList_store_row rfl 90 _ _ rfl w.heap.size gl.toArray rfl rfl 90 Tryz.zeroCells90 HR3.out HL2.out HL3.out HO.out ?_))
   have hF:Fr [w.heap.size] wr (wr.setRow w.heap.size gl.toArray):=(Fr.refl _ _).setRow _ _ (by simp)
   have hsz:=hwg.size
   refine bodyPost_ret (v:=.tuple #[.agg gl.toArray,.bool true]) (qq3 Tryz.results35 _ _ w.heap.size 90 gl.toArray (0,0) _ _ rfl rfl (setRow_heap _ _ _ _ _ _ HR3.out) Tryz.underlying90 rfl HL2.out) rfl ⟨Or.inl ⟨HOK.out,pb,cap,by rw [HGE.out],hrow.fr hF (by simp;omega),by omega⟩,?_⟩
   exact (hwg.trans hfr (by simp;omega)).setRow _ _ (Or.inr (Nat.le_refl _))
theorem qqx6 (tx:ByteArray)(w:World)(hw:0 < w.heap.size) :
  Calls Tryz.prog 32 #[.string tx] w fun e w'=>((zz9 tx/\∃ gb pb cap,e=.returned (.tuple #[.pointer (some ⟨gb,0,none⟩),.int .i64 0])/\GS w' gb pb cap (zz4 tx)/\w.heap.size<=gb/\w.heap.size<=pb)\/(¬ zz9 tx/\e=.returned (.tuple #[.pointer none,.int .i64 1])))/\Fr [] w w':=by
 obtain ⟨OK,hOK⟩:∃ p:Prop,p=zz9 tx:=⟨_,rfl⟩
 have hnew:=kq3 tx
 rw [<- hOK]
 simp only [<- hOK] at hnew
 clear hOK
 have HNEW:=hid hnew
 clear hnew
 go_enter Tryz.func32,Tryz.ntmps32
 go_wp2_with fail
 refine Calls.mono (HNEW.out _) ?_
 rintro e w1 ⟨⟨hok,pb,cap,rfl,hrow,hpb⟩|⟨hno,rfl⟩,hf1⟩
 rotate_left
 ·have HNO:=hid hno
  have HF2:Hid (Fr [] w ((w1.alloc (.cells Tryz.zeroCells90 90)).setRow w1.heap.size Tryz.zeroCells90)):=(hf1.alloc _).setRow _ _ (Or.inr hf1.size)
  clear hno hf1 HNEW
  dsimp only
  go_wp2_with (refine wpList_store_row rfl 90 _ _ rfl w1.heap.size Tryz.zeroCells90 rfl rfl 90 Tryz.zeroCells90 (qq6 w1 _) zIG rfl zOG ?_)
  refine bodyPost_ret (v:=.tuple #[.pointer none,.int .i64 1]) (by simp [results,Tryz.results32,go_sem]) rfl ⟨Or.inr ⟨HNO.out,rfl⟩,HF2.out⟩
 have HOK:=hid hok
 clear hok
 dsimp only
 obtain ⟨gl,hgl⟩:∃ x,x=qz5 (zz4 tx) (.slice (some ⟨pb,0,none⟩) 2 cap):=⟨_,rfl⟩
 rw [<- hgl]
 have hll:gl.length=149:=by rw [hgl];exact zq7 _ _
 have HO:Hid (gl.toArray.all (·.oneCell')=true):=by
  show _=_
  rw [hgl];exact zx9 _ _ _ _
 have HGE:=hid hgl
 have HL2:Hid ((Tryz.prog.info? 90).map (·.size)=some gl.toArray.size):=by
  show _=_
  rw [qx7,List.size_toArray,hll]
 have HL3:Hid (Tryz.zeroCells90.size=gl.toArray.size):=by
  show _=_
  exact zcGame.trans (by simp [hll])
 have HBS:Hid (Tryz.prog.built 100 [(0,.agg gl.toArray)]=some gl.toArray):=kj4 _ (by simp [hll])
 have HH:Hid (((w1.alloc (.cells Tryz.zeroCells90 90)).setRow w1.heap.size gl.toArray).heap[w1.heap.size]?=some (.cells gl.toArray 90)):=setRow_heap _ _ _ _ _ _ (qq6 _ _)
 clear hgl hll HNEW
 go_wp2_with (first|(refine wpList_store_row rfl 90 _ _ rfl w1.heap.size gl.toArray rfl rfl 90 Tryz.zeroCells90 (qq6 w1 _) HL2.out HL3.out HO.out ?_)|(refine wpList_load_row rfl 90 _ rfl w1.heap.size rfl 90 gl.toArray (0,0) _ HH.out Tryz.underlying90 rfl HL2.out ?_)|(refine yq7 rfl 100 0 (.tmp 13) rfl (.agg gl.toArray) rfl gl.toArray HBS.out ?_))
 have hs1:=hf1.size
 have hF:Fr [] w (((w1.alloc (.cells Tryz.zeroCells90 90)).setRow w1.heap.size gl.toArray).alloc (.cells gl.toArray 100)):=((hf1.alloc _).setRow _ _ (Or.inr hs1)).alloc _
 have h1F:Fr [] w1 (((w1.alloc (.cells Tryz.zeroCells90 90)).setRow w1.heap.size gl.toArray).alloc (.cells gl.toArray 100)):=(((Fr.refl _ _).alloc _).setRow _ _ (Or.inr (Nat.le_refl _))).alloc _
 have hh:(((w1.alloc (.cells Tryz.zeroCells90 90)).setRow w1.heap.size gl.toArray).alloc (.cells gl.toArray 100)).heap[w1.heap.size+1]?=some (.cells gl.toArray 100):=yq1 _ _ _ (by simp)
 have hpl:=hrow.lt
 refine bodyPost_ret (v:=.tuple #[.pointer (some ⟨w1.heap.size+1,0,none⟩),.int .i64 0]) (by simp [results,Tryz.results32,go_sem]) rfl ⟨Or.inl ⟨HOK.out,w1.heap.size+1,pb,cap,rfl,⟨fun k hk=>?_,fun k=>qq0 hh,hrow.fr h1F (by simp),by show 2<=1000;omega,by show 0 < 2;omega,by omega,by omega,by omega⟩,by omega,hpb⟩,hF⟩
 rw [j9 hh,HGE.out]
 simp only [List.getElem?_toArray]
 unfold qz5
 rw [List.getElem?_map,List.getElem?_range hk]
 rfl
theorem fv0 (tx:ByteArray)(h:zz9 tx):pos tx 0 144 < 144/\pos tx 1 144 < 144/\gr tx (pos tx 0 144)=0/\gr tx (pos tx 1 144)=0/\pos tx 0 144≠pos tx 1 144:=by
 obtain ⟨a1,a2⟩:=gv6 tx 0 144 (by rw [h.2.2.2.1];decide)
 obtain ⟨b1,b2⟩:=gv6 tx 1 144 (by rw [h.2.2.2.2];decide)
 refine ⟨a1,b1,fq4 tx _ (Or.inl a2),fq4 tx _ (Or.inr b2),fun e=>?_⟩
 rw [e,b2] at a2
 exact absurd a2 (by decide)
theorem vx5 (a b c d:Int)(e:Cl):qx8 [qk4 1 0 1 a b 40,qk4 2 1 1 c d 40] e=if e=(c,d) then some 2 else if e=(a,b) then some 1 else none:=rfl
theorem qjj7 (tx:ByteArray)(hm:zz9 tx):GOk (zz4 tx):=by
 obtain ⟨p1,q1,p2,q2,hne⟩:=fv0 tx hm
 obtain ⟨p,hp⟩:∃ p,p=pos tx 0 144:=⟨_,rfl⟩
 obtain ⟨q,hq⟩:∃ p,p=pos tx 1 144:=⟨_,rfl⟩
 have hus:(zz4 tx).us=[qk4 1 0 1 ((p % 12:Nat):Int) ((p / 12:Nat):Int) 40,qk4 2 1 1 ((q % 12:Nat):Int) ((q / 12:Nat):Int) 40]:=by rw [hp,hq];rfl
 rw [<- hp,<- hq] at hne
 rw [<- hp] at p1 p2
 rw [<- hq] at q1 q2
 have onX:∀ n,n < 144->onB ((n % 12:Nat):Int) ((n / 12:Nat):Int)=true:=fun n hn=>by
  simp [onB]
  omega
 have ciX:∀ n,n < 144->ci ((n % 12:Nat):Int) ((n / 12:Nat):Int)=n:=fun n hn=>by
  unfold ci
  omega
 have hpq:¬ ((((p % 12:Nat):Int),((p / 12:Nat):Int)):Cl)=(((q % 12:Nat):Int),((q / 12:Nat):Int)):=by
  intro e
  have e1:=congrArg Prod.fst e
  have e2:=congrArg Prod.snd e
  dsimp only at e1 e2
  omega
 refine ⟨?_,?_,?_,by simp [zz4],by simp [zz4],fun i _=>qxq8 tx i,by simp [zz4],by simp [zz4,qq4],by simp [zz4,qq4],by simp [zz4,qq4]⟩
 ·show Rise (zz4 tx).us
  rw [hus]
  unfold Rise
  simp
 ·intro u hu
  have hu':u∈(zz4 tx).us:=hu
  show UOk (gr tx) (qx8 (zz4 tx).us) 3 u
  rw [hus] at hu' |-
  have hu2:u=qk4 1 0 1 ((p % 12:Nat):Int) ((p / 12:Nat):Int) 40\/u=qk4 2 1 1 ((q % 12:Nat):Int) ((q / 12:Nat):Int) 40:=by simpa using hu'
  rcases hu2 with rfl|rfl
  ·exact ⟨onX p p1,(congrArg (gr tx) (ciX p p1)).trans p2,by rw [vx5];exact (if_neg hpq).trans (if_pos rfl),Or.inl rfl,Or.inl rfl,by simp [qx9],by simp,by simp,Or.inl rfl⟩
  ·exact ⟨onX q q1,(congrArg (gr tx) (ciX q q1)).trans q2,by rw [vx5];exact if_pos rfl,Or.inr rfl,Or.inl rfl,by simp [qx9],by simp,by simp,Or.inl rfl⟩
 ·intro c i h
  have h':qx8 (zz4 tx).us c=some i:=h
  show ∃ u∈(zz4 tx).us,u.id=i/\(u.x,u.y)=c
  rw [hus] at h' |-
  rw [vx5] at h'
  by_cases h1:c=(((q % 12:Nat):Int),((q / 12:Nat):Int))
  ·rw [if_pos h1] at h'
   cases h'
   exact ⟨qk4 2 1 1 ((q % 12:Nat):Int) ((q / 12:Nat):Int) 40,by simp,rfl,h1.symm⟩
  ·rw [if_neg h1] at h'
   by_cases h2:c=(((p % 12:Nat):Int),((p / 12:Nat):Int))
   ·rw [if_pos h2] at h'
    cases h'
    exact ⟨qk4 1 0 1 ((p % 12:Nat):Int) ((p / 12:Nat):Int) 40,by simp,rfl,h2.symm⟩
   ·rw [if_neg h2] at h'
    cases h'
theorem qjj8 (tx:ByteArray):OS (zz4 tx):=by
 intro u hu
 have hu':u∈[qk4 1 0 1 ((pos tx 0 144 % 12:Nat):Int) ((pos tx 0 144 / 12:Nat):Int) 40,qk4 2 1 1 ((pos tx 1 144 % 12:Nat):Int) ((pos tx 1 144 / 12:Nat):Int) 40]:=hu
 simp at hu'
 rcases hu' with rfl|rfl <;> exact Or.inl ⟨rfl,rfl,rfl,rfl⟩
end Go.Proofs.YtapabahhfanmmaaGreatDoor
