import Derived.Test.YtapabahhfanmmaaGreatDoorCNewY
import Derived.Test.YtapabahhfanmmaaGreatDoorCRefM
import Derived.Test.YtapabahhfanmmaaGreatDoorCFolkG
namespace Go.Proofs.YtapabahhfanmmaaGreatDoor
open Go.RowKit
set_option maxRecDepth 100000
set_option maxHeartbeats 1000000
def qv0 (i:Nat):Nat:=(i / 13)*12+min (i % 13) 12
theorem dj1 (i:Nat)(h:i % 13=12):qv0 (i+1)=qv0 i:=by unfold qv0;omega
theorem kj5 (i:Nat)(h:i % 13 < 12):qv0 i=i / 13*12+i % 13/\qv0 (i+1)=qv0 i+1:=by unfold qv0;omega
theorem vx2 (tx:ByteArray)(o:Int){m:Nat}:∀ n,m<=n->cnt tx o m<=cnt tx o n
 | 0,h=>by
     have:m=0:=by omega
     subst this;exact Int.le_refl _
 | n+1,h=>by
  by_cases e:m=n+1
  ·subst e;exact Int.le_refl _
  ·have h1:=vx2 tx o (m:=m) n (by omega)
   have:cnt tx o n<=cnt tx o (n+1):=by
    rw [cnt]
    split <;> omega
   omega
theorem zj6 (tx:ByteArray)(o:Int)(n:Nat)(h:ow tx n=o):cnt tx o (n+1)=cnt tx o n+1:=by rw [cnt,if_pos h]
theorem qw7 (tx:ByteArray)(o:Int)(n:Nat)(h:¬ ow tx n=o):cnt tx o (n+1)=cnt tx o n:=by rw [cnt,if_neg h]
theorem fj0 (tx:ByteArray)(o:Int)(n:Nat)(h:ow tx n=o):pos tx o (n+1)=n:=by rw [pos,if_pos h]
theorem fj1 (tx:ByteArray)(o:Int)(n:Nat)(h:¬ ow tx n=o):pos tx o (n+1)=pos tx o n:=by rw [pos,if_neg h]
theorem xk5 (tx:ByteArray)(n:Nat)(hn:n < 144)(h:(ow tx n=0/\cnt tx 0 n=1)\/(ow tx n=1/\cnt tx 1 n=1)):¬ zz9 tx:=by
 intro hm
 rcases h with ⟨h1,h2⟩|⟨h1,h2⟩
 ·have h3:=zj6 tx 0 n h1
  have h4:=vx2 tx 0 (m:=n+1) 144 (by omega)
  have:=hm.2.2.2.1
  omega
 ·have h3:=zj6 tx 1 n h1
  have h4:=vx2 tx 1 (m:=n+1) 144 (by omega)
  have:=hm.2.2.2.2
  omega
def bdN (tx:ByteArray)(n:Nat):Nat->Int:=fun j=>if j < n then gr tx j else 0
def bA (tx:ByteArray)(n:Nat):U:=qk4 1 0 1 ((pos tx 0 n % 12:Nat):Int) ((pos tx 0 n / 12:Nat):Int) 40
def bB (tx:ByteArray)(n:Nat):U:=qk4 2 1 1 ((pos tx 1 n % 12:Nat):Int) ((pos tx 1 n / 12:Nat):Int) 40
def lsN (tx:ByteArray)(n:Nat):List U:=(if cnt tx 0 n=1 then [bA tx n] else []) ++ (if cnt tx 1 n=1 then [bB tx n] else [])
theorem jx6 (tx:ByteArray)(n:Nat)(h:gr tx n=0):bdN tx (n+1)=bdN tx n:=by
 funext j
 unfold bdN
 by_cases e:j=n
 ·subst e;rw [if_pos (by omega),if_neg (by omega),h]
 ·by_cases e2:j < n
  ·rw [if_pos (by omega),if_pos e2]
  ·rw [if_neg (by omega),if_neg e2]
theorem dz1 (tx:ByteArray)(n:Nat)(h:¬ ow tx n=0):bA tx (n+1)=bA tx n:=by unfold bA;rw [fj1 tx 0 n h]
theorem dz2 (tx:ByteArray)(n:Nat)(h:¬ ow tx n=1):bB tx (n+1)=bB tx n:=by unfold bB;rw [fj1 tx 1 n h]
theorem qjq6 (tx:ByteArray)(n:Nat)(h:ow tx n=0):bA tx (n+1)=qk4 1 0 1 ((n % 12:Nat):Int) ((n / 12:Nat):Int) 40:=by unfold bA;rw [fj0 tx 0 n h]
theorem qjq7 (tx:ByteArray)(n:Nat)(h:ow tx n=1):bB tx (n+1)=qk4 2 1 1 ((n % 12:Nat):Int) ((n / 12:Nat):Int) 40:=by unfold bB;rw [fj0 tx 1 n h]
theorem dk4 (tx:ByteArray)(n:Nat)(h0:¬ ow tx n=0)(h1:¬ ow tx n=1):lsN tx (n+1)=lsN tx n:=by
 unfold lsN
 rw [qw7 tx 0 n h0,qw7 tx 1 n h1,dz1 tx n h0,dz2 tx n h1]
theorem qzx9 (tx:ByteArray)(n:Nat)(h0:ow tx n=0)(h1:cnt tx 0 n=0):lsN tx (n+1)=qk4 1 0 1 ((n % 12:Nat):Int) ((n / 12:Nat):Int) 40 :: lsN tx n:=by
 have h2:¬ ow tx n=1:=by omega
 unfold lsN
 rw [zj6 tx 0 n h0,qw7 tx 1 n h2,qjq6 tx n h0,dz2 tx n h2,h1]
 rfl
theorem qxz1 (tx:ByteArray)(n:Nat)(h0:ow tx n=1)(h1:cnt tx 1 n=0):lsN tx (n+1)=lsN tx n ++ [qk4 2 1 1 ((n % 12:Nat):Int) ((n / 12:Nat):Int) 40]:=by
 have h2:¬ ow tx n=0:=by omega
 unfold lsN
 rw [zj6 tx 1 n h0,qw7 tx 0 n h2,dz1 tx n h2,qjq7 tx n h0,h1]
 simp
theorem qjj5 (tx:ByteArray)(n:Nat)(h0:cnt tx 0 n=0):lsN tx n=[]\/lsN tx n=[bB tx n]:=by
 unfold lsN
 rw [h0]
 by_cases h:cnt tx 1 n=1
 ·rw [if_pos h];exact Or.inr rfl
 ·rw [if_neg h];exact Or.inl rfl
theorem qqx3 (tx:ByteArray)(h0:cnt tx 0 144=1)(h1:cnt tx 1 144=1):lsN tx 144=(zz4 tx).us:=by
 unfold lsN
 rw [h0,h1]
 rfl
theorem qqx4 (tx:ByteArray)(n:Nat):(lsN tx n).length<=2:=by
 unfold lsN
 split <;> split <;> simp
theorem fy3 (s:Nat)(hs:s<=255):(s=46/\zy2 s=(0,-1,true))\/(s=35/\zy2 s=(10,-1,true))\/(49<=s/\s<=57/\zy2 s=((s:Int) - 48,-1,true))\/(s=65/\zy2 s=(0,0,true))\/(s=66/\zy2 s=(0,1,true))\/(s≠46/\s≠35/\(s < 49\/57 < s)/\s≠65/\s≠66/\zy2 s=(0,-1,false)):=by
 unfold zy2
 by_cases a:s=46
 ·rw [if_pos (by omega)];exact Or.inl ⟨a,rfl⟩
 rw [if_neg (by omega)]
 by_cases b:s=35
 ·rw [if_pos (by omega)];exact Or.inr (Or.inl ⟨b,rfl⟩)
 rw [if_neg (by omega)]
 by_cases c:49<=s/\s<=57
 ·rw [if_pos (by omega)];exact Or.inr (Or.inr (Or.inl ⟨c.1,c.2,rfl⟩))
 rw [if_neg (by omega)]
 by_cases d:s=65
 ·rw [if_pos (by omega)];exact Or.inr (Or.inr (Or.inr (Or.inl ⟨d,rfl⟩)))
 rw [if_neg (by omega)]
 by_cases e:s=66
 ·rw [if_pos (by omega)];exact Or.inr (Or.inr (Or.inr (Or.inr (Or.inl ⟨e,rfl⟩))))
 rw [if_neg (by omega)]
 exact Or.inr (Or.inr (Or.inr (Or.inr (Or.inr ⟨a,b,by omega,d,e,rfl⟩))))
structure RN (w:World) (gb:Nat) (f:Nat->Int) (pv:Value):Prop where
 cell:∀ k,k < 149->w.cell? ⟨gb,k,none⟩=some (qw2 { turn:=0,next:=3,s0:=10,s1:=10,bd:=f,us:=[],held:=fun _=>none } pv k)
 fz:∀ k,w.frozen? ⟨gb,k,none⟩=false
theorem RN.lt {w:World}{gb:Nat}{f:Nat->Int}{pv:Value}(h:RN w gb f pv):gb < w.heap.size:=qq1 (h.cell 0 (by omega))
theorem RN.fr {S:List Nat}{w w':World}{gb:Nat}{f:Nat->Int}{pv:Value}(h:RN w gb f pv)(hf:Fr S w w')(hg:gb∉S):RN w' gb f pv :=
  ⟨fun k hk=>by rw [hf.cell gb k h.lt hg];exact h.cell k hk,fun k=>by rw [hf.frozen gb k h.lt hg];exact h.fz k⟩
theorem RN.setB {w:World}{gb:Nat}{tx:ByteArray}{pv:Value}{n:Nat}(h:RN w gb (bdN tx n) pv)(hn:n < 144):RN (w.setCell ⟨gb,1+n,none⟩ (ii (gr tx n))) gb (bdN tx (n+1)) pv:=by
 refine ⟨fun k hk=>?_,fun k=>by rw [jx8];exact h.fz k⟩
 by_cases e:k=1+n
 ·subst e
  rw [qk0 _ _ _ _ _ (h.cell _ hk)]
  unfold qw2
  rw [if_neg (by omega),if_pos (by omega)]
  dsimp only
  unfold bdN
  rw [if_pos (by omega),show 1+n - 1=n by omega]
 ·rw [qz1 _ _ _ _ _ _ (Or.inr (fun e2=>e e2.symm)),h.cell k hk]
  unfold qw2
  dsimp only
  by_cases k0:k=0
  ·rw [if_pos k0,if_pos k0]
  ·rw [if_neg k0,if_neg k0]
   by_cases k1:k < 145
   ·rw [if_pos k1,if_pos k1]
    unfold bdN
    by_cases k2:k - 1 < n
    ·rw [if_pos k2,if_pos (by omega)]
    ·rw [if_neg k2,if_neg (by omega)]
   ·rw [if_neg k1,if_neg k1]
theorem RN.setL {w:World}{gb:Nat}{f:Nat->Int}{pv:Value}(h:RN w gb f pv)(v:Value):RN (w.setCell ⟨gb,148,none⟩ v) gb f v:=by
 refine ⟨fun k hk=>?_,fun k=>by rw [jx8];exact h.fz k⟩
 by_cases e:k=148
 ·subst e
  rw [qk0 _ _ _ _ _ (h.cell _ hk)]
  rfl
 ·rw [qz1 _ _ _ _ _ _ (Or.inr (fun e2=>e e2.symm)),h.cell k hk]
  unfold qw2
  by_cases k0:k=0
  ·rw [if_pos k0,if_pos k0]
  ·rw [if_neg k0,if_neg k0]
   by_cases k1:k < 145
   ·rw [if_pos k1,if_pos k1]
   ·rw [if_neg k1,if_neg k1]
    by_cases k2:k=145
    ·rw [if_pos k2,if_pos k2]
    ·rw [if_neg k2,if_neg k2]
     by_cases k3:k=146
     ·rw [if_pos k3,if_pos k3]
     ·rw [if_neg k3,if_neg k3]
      rw [if_pos (by omega),if_pos (by omega)]
theorem RN.rg {w:World}{gb pb cap:Nat}{tx:ByteArray}(h:RN w gb (bdN tx 144) (.slice (some ⟨pb,0,none⟩) 2 cap))(hr:PRow w pb cap (zz4 tx).us)(hne:gb≠pb):RG w gb pb cap (zz4 tx):=by
 refine ⟨fun k hk=>?_,h.fz,hr,by show 2<=1000;omega,hne⟩
 rw [h.cell k hk]
 unfold qw2
 dsimp only [zz4]
 by_cases k0:k=0
 ·rw [if_pos k0,if_pos k0]
 ·rw [if_neg k0,if_neg k0]
  by_cases k1:k < 145
  ·rw [if_pos k1,if_pos k1]
   unfold bdN
   rw [if_pos (by omega)]
  ·rw [if_neg k1,if_neg k1]
   rfl
structure RNI (tx:ByteArray) (W:World) (gb sb:Nat) (i:Nat) (b:Value) (wr:World):Prop where
 ex:∃ pv,RN wr gb (bdN tx (qv0 i)) pv/\wr.ownsRow W.heap.size 85 11 pv (lsN tx (qv0 i)).length ((lsN tx (qv0 i)).flatMap U.cells)
 seen:wr.heap[sb]?=some (.cells #[.bool (decide (cnt tx 0 (qv0 i)=1)),.bool (decide (cnt tx 1 (qv0 i)=1))] 184)
 c0:cnt tx 0 (qv0 i)<=1
 c1:cnt tx 1 (qv0 i)<=1
 sk:∀ j,j < qv0 i->kn tx j=true
 nl:∀ k,k*13+12 < i->yx7 tx k=10
 bs:b=.int .i64 (cnt tx 0 (qv0 i)+cnt tx 1 (qv0 i))
 fr:Fr [gb,sb] W wr
theorem RNI.next {tx:ByteArray} {W:World} {gb sb k:Nat} {b b':Value} {wr wr':World} (h:RNI tx W gb sb k b wr) (hx:k % 13 < 12) (n:Nat) (hn:qv0 k=n) (hkn:kn tx n=true) (hc0:cnt tx 0 (n+1)<=1) (hc1:cnt tx 1 (n+1)<=1)
  (ex:∃ pv,RN wr' gb (bdN tx (n+1)) pv/\wr'.ownsRow W.heap.size 85 11 pv (lsN tx (n+1)).length ((lsN tx (n+1)).flatMap U.cells))
  (seen:wr'.heap[sb]?=some (.cells #[.bool (decide (cnt tx 0 (n+1)=1)),.bool (decide (cnt tx 1 (n+1)=1))] 184)) (bs:b'=.int .i64 (cnt tx 0 (n+1)+cnt tx 1 (n+1))) (fr:Fr [gb,sb] W wr'):RNI tx W gb sb (k+1) b' wr':=by
 have e:qv0 (k+1)=n+1:=by rw [(kj5 k hx).2,hn]
 refine ⟨by rw [e];exact ex,by rw [e];exact seen,by rw [e];exact hc0,by rw [e];exact hc1,fun j hj=>?_,fun j hj=>h.nl j (by omega),by rw [e];exact bs,fr⟩
 rw [e] at hj
 by_cases ej:j=n
 ·rw [ej];exact hkn
 ·exact h.sk j (by rw [hn];omega)
theorem RNI.ground {tx:ByteArray} {W:World} {gb k:Nat} {b:Value} {wr wr':World} (h:RNI tx W gb (gb+1) k b wr) (hgW:gb+1 < W.heap.size) (hx:k % 13 < 12) (n:Nat) (hn:qv0 k=n) (hkn:kn tx n=true) (h0:¬ ow tx n=0) (h1:¬ ow tx n=1)
  (hrn:∀ pv,RN wr gb (bdN tx n) pv->RN wr' gb (bdN tx (n+1)) pv) (hf:Fr [gb] wr wr'):RNI tx W gb (gb+1) (k+1) b wr':=by
 obtain ⟨⟨pv,q1,q1'⟩,q2,q3,q4,q5,q6,q7,q8⟩:=id h
 rw [hn] at q1 q1' q2 q3 q4 q7
 refine h.next hx n hn hkn (by rw [qw7 tx 0 n h0];exact q3) (by rw [qw7 tx 1 n h1];exact q4) ⟨pv,hrn pv q1,?_⟩ ?_ (by rw [qw7 tx 0 n h0,qw7 tx 1 n h1];exact q7) (q8.trans hf (by simp))
 ·rw [dk4 tx n h0 h1]
  exact qq7 q1' hf (fun b hb=>by have:=(q1'.lt b hb).1;simp;omega)
 ·rw [qw7 tx 0 n h0,qw7 tx 1 n h1]
  exact hf.heap q2 (by simp)
structure RNPost (OK:Prop) (tx:ByteArray) (w:World) (e:Ending) (w':World):Prop where
 h:(OK/\∃ gb pb cap,e=.returned (.tuple #[.pointer (some ⟨gb,0,none⟩),.int .i64 0])/\RG w' gb pb cap (zz4 tx)/\w.heap.size<=gb/\w.heap.size<=pb)\/(¬ OK/\e=.returned (.tuple #[.pointer none,.int .i64 1]))
 fr:Fr [] w w'
def fj2:Array Value:=(ii 0 :: ((List.range 144).map (fun _=>ii 0) ++ [ii 10,ii 10,ii 3,Value.slice none 0 0])).toArray
theorem fx6:Tryz.prog.built 131 [(3,ii 3),(2,.agg #[ii 10,ii 10])]=some fj2:=by kernel_rfl
theorem dy0 (k:Nat)(hk:k < 149):fj2[k]?=some (qw2 { turn:=0,next:=3,s0:=10,s1:=10,bd:=fun _=>0,us:=[],held:=fun _=>none } (.slice none 0 0) k):=by
 unfold fj2 qw2
 rw [List.getElem?_toArray]
 by_cases k0:k=0
 ·subst k0;rfl
 ·obtain ⟨j,rfl⟩:∃ j,k=j+1:=⟨k - 1,by omega⟩
  rw [if_neg k0,List.getElem?_cons_succ]
  by_cases k1:j < 144
  ·rw [if_pos (by omega),List.getElem?_append_left (by simp;omega),List.getElem?_map,List.getElem?_range k1]
   rfl
  ·rw [if_neg (by omega),List.getElem?_append_right (by simp;omega)]
   have:j=144\/j=145\/j=146\/j=147:=by omega
   rcases this with rfl|rfl|rfl|rfl <;> simp
theorem xq9 {ops:Array Oper} {rest:List Oper} {o:Oper} {a:Act} {w:World} {Q:Exit->Act->World->Prop} (hg:o.guard=none) (t:TypeId) (i1 i2:Nat) (x1 x2:Operand) (ho:o.op=.build t #[(i1,x1),(i2,x2)])
  (v1 v2:Value) (h1:a.eval x1=v1) (h2:a.eval x2=v2) (cells:Array Value)
  (hc:Tryz.prog.built t [(i1,v1),(i2,v2)]=some cells) (h:wpList Tryz.prog ops Q rest (a.put o.dst (.agg cells)) w):wpList Tryz.prog ops Q (o :: rest) a w :=
 wpList_plain hg fun _ hK=>by
  have hc':Tryz.prog.built t ((#[(i1,x1),(i2,x2)]:Array (Nat×Operand)).map fun (i,x)=>(i,a.eval x)).toList=some cells:=by
   simp [h1,h2,hc]
  unfold Oper.wp execOp
  simp only [ho,Sem.run_bind,run_build w t _ cells hc',Result.andThen_ok]
  exact hK _ _ h
theorem gw3 (tx:ByteArray)(w:World) :
  Calls Tryz.prog 51 #[.string tx] w fun e w'=>RNPost (zz9 tx) tx w e w':=by
 obtain ⟨OK,hOK⟩:∃ p:Prop,p=zz9 tx:=⟨_,rfl⟩
 rw [<- hOK]
 have HOK:=hid hOK
 clear hOK
 by_cases hsz:tx.size=156
 ·obtain ⟨G0,hG0⟩:∃ x,x=fj2:=⟨_,rfl⟩
  have hbld:=fx6
  rw [<- hG0] at hbld
  have HBLD:=hid hbld
  have HG0:=hid hG0
  have hszi:(tx.size:Int)=156:=by omega
  clear hG0 hbld
  go_enter Tryz.func51,Tryz.ntmps51
  go_wp2_with (refine xq9 rfl 131 3 2 (.const (.int .i64 3)) (.tmp 16) rfl (ii 3) (.agg #[ii 10,ii 10]) rfl rfl G0 HBLD.out ?_)
  obtain ⟨W,hW⟩:∃ W,W=(w.alloc (.cells G0 131)).alloc (.cells #[.bool false,.bool false] 184):=⟨_,rfl⟩
  rw [<- hW]
  have h0W:Fr [] w W:=by rw [hW];exact ((Fr.refl _ _).alloc _).alloc _
  have hWs:W.heap.size=w.heap.size+2:=by rw [hW];simp
  have hgh:W.heap[w.heap.size]?=some (.cells G0 131):=by rw [hW];exact qz8 _ _ _
  have hsh:W.heap[w.heap.size+1]?=some (.cells #[.bool false,.bool false] 184):=by rw [hW];exact qz4 _ _ _
  have HI0:Hid (RNI tx W w.heap.size (w.heap.size+1) 0 (.int .i64 0) W):=by
   refine ⟨⟨.slice none 0 0,⟨fun k hk=>?_,fun k=>qq0 hgh⟩,⟨rfl,Or.inl ⟨rfl,rfl⟩⟩⟩,hsh,by simp [cnt,qv0],by simp [cnt,qv0],fun j hj=>absurd hj (by simp [qv0]),fun k hk=>by omega,rfl,Fr.refl _ _⟩
   rw [j9 hgh,HG0.out,dy0 k hk]
   congr 2
  clear hW hgh hsh
  obtain ⟨gb,hgb⟩:∃ x,x=w.heap.size:=⟨_,rfl⟩
  rw [<- hgb] at HI0 hWs |-
  have hgw:w.heap.size<=gb:=by omega
  clear hgb
  have HSN:Hid (∀ k y x (h:k < 156),y=k / 13->x=k % 13->x < 12->(tx[k]'(by omega)).toNat=sgn tx (y*12+x)):=fun k y x h hy hx hx2=>by
   have:=dy3 tx y x hx2 (by omega)
   rw [<- this]
   congr 2
   omega
  have HNL:Hid (∀ k y (h:k < 156),y=k / 13->k % 13=12->(tx[k]'(by omega)).toNat=yx7 tx y):=fun k y h hy hx=>by
   have:=qjq0 tx y (by omega)
   rw [<- this]
   congr 2
   omega
  go_loopw [5,7] (fun b i wr=>∃ k:Nat,k<=156/\i=.int .i64 k/\RNI tx W gb (gb+1) k b wr) (fun _ i _=>156 - (intOf i).toNat)
  case atStart=>exact ⟨0,Nat.zero_le _,rfl,HI0.out⟩
  case round =>
   obtain ⟨k,hk,rfl,hI⟩:=hrel
   obtain rfl:=hI.bs
   by_cases hlt:k < 156
   ·have hlti:(k:Int) < 156:=by omega
    have HI:=hid hI
    clear hI
    obtain ⟨y,hy⟩:∃ y,y=k / 13:=⟨_,rfl⟩
    obtain ⟨x,hx⟩:∃ x,x=k % 13:=⟨_,rfl⟩
    have hyd:(k:Int).tdiv 13=(y:Int):=by rw [hy,Int.tdiv_eq_ediv_of_nonneg (by omega)];omega
    have hxd:(k:Int).tmod 13=(x:Int):=by rw [hx,Int.tmod_eq_emod_of_nonneg (by omega)];omega
    have hy12:y < 12:=by omega
    have HY:=hid hy
    have HX:=hid hx
    by_cases hx12:x=12
    ·have hnl:=HNL.out k y hlt hy (by omega)
     have hnb:=qjq1 tx y
     subst hx12
     clear hy hx
     by_cases hnn:yx7 tx y=10
     ·rw [hnn] at hnl
      have HNN:=hid hnn
      clear hnn hnb
      go_wp2_with fail
      go_roundw
      case rel =>
       refine ⟨k+1,hlt,by go_num,?_⟩
       have e:=dj1 k HX.out.symm
       obtain ⟨q1,q2,q3,q4,q5,q6,q7,q8⟩:=HI.out
       refine ⟨by rw [e];exact q1,by rw [e];exact q2,by rw [e];exact q3,by rw [e];exact q4,by rw [e];exact q5,fun j hj=>?_,by rw [e],q8⟩
       by_cases ej:j*13+12 < k
       ·exact q6 j ej
       ·have h1:=HY.out
        have h2:=HX.out
        have:j=y:=by omega
        rw [this];exact HNN.out
      case measure=>simp [intOf];omega
     ·have HNO:Hid (¬ OK):=by
       show ¬ OK
       rw [HOK.out]
       intro h
       exact hnn (h.2.1 y hy12)
      have hnv:¬ ((yx7 tx y:Nat):Int)=10:=by omega
      clear hnn
      have HFR:=HI.out.fr
      go_wp2_with fail
      go_ret2
      exact ⟨Or.inr ⟨HNO.out,rfl⟩,h0W.trans HFR (by simp;omega)⟩
    ·have hxl:x < 12:=by omega
     have hxv:¬ (x:Int)=12:=by omega
     have hsg:=HSN.out k y x hlt hy hx hxl
     have hsle:=dy4 tx (y*12+x)
     clear hy hx hx12
     have hkx:k % 13 < 12:=by have:=HX.out;omega
     obtain ⟨n,hn⟩:∃ n,qv0 k=n:=⟨_,rfl⟩
     have hnv:y*12+x=n:=by have h1:=(kj5 k hkx).1;have h2:=HY.out;have h3:=HX.out;omega
     have hn144:n < 144:=by omega
     have hNX:(n % 12:Nat)=x/\(n / 12:Nat)=y:=by omega
     have HNX:=hid hNX
     rw [hnv] at hsg hsle
     have HN:=hid hn
     have HNV:=hid hnv
     obtain ⟨pv,hrn,hown⟩:=HI.out.ex
     rw [hn] at hrn hown
     have hbc:=hrn.cell (1+n) (by omega)
     have hbz:=hrn.fz (1+n)
     rw [<- hnv,show 1+(y*12+x)=1+y*12+x by omega] at hbc hbz
     have HRN:=hid hrn
     have HOWN:=hid hown
     clear hNX hn hnv hrn hown
     rcases fy3 (sgn tx n) hsle with ⟨hs,hv⟩|⟨hs,hv⟩|⟨hs1,hs2,hv⟩|⟨hs,hv⟩|⟨hs,hv⟩|⟨hs1,hs2,hs3,hs4,hs5,hv⟩
     ·have HK1:Hid (kn tx n=true):=by show kn tx n=true;unfold kn;rw [hv]
      have HO1:Hid (ow tx n = -1):=by show ow tx n = -1;unfold ow;rw [hv]
      have HG1:Hid (gr tx n=0):=by show gr tx n=0;unfold gr;rw [hv]
      rw [hs] at hsg
      clear hs hv hsle
      go_wp2_with fail
      go_roundw
      case rel=>exact ⟨k+1,hlt,by go_num,HI.out.ground (by omega) hkx n HN.out HK1.out (by rw [HO1.out];decide) (by rw [HO1.out];decide) (fun pv h=>by rw [jx6 tx n HG1.out];exact h) (Fr.refl _ _)⟩
      case measure=>simp [intOf];omega
     ·have HK1:Hid (kn tx n=true):=by show kn tx n=true;unfold kn;rw [hv]
      have HO1:Hid (ow tx n = -1):=by show ow tx n = -1;unfold ow;rw [hv]
      have HG1:Hid (gr tx n=10):=by show gr tx n=10;unfold gr;rw [hv]
      rw [hs] at hsg
      clear hs hv hsle
      go_wp2_with fail
      go_roundw
      case rel =>
       refine ⟨k+1,hlt,by go_num,HI.out.ground (by omega) hkx n HN.out HK1.out (by rw [HO1.out];decide) (by rw [HO1.out];decide) (fun pv h=>?_) ((Fr.refl _ _).setCell _ _ (by simp))⟩
       have:=h.setB hn144
       rw [HG1.out,show 1+n=1+y*12+x by have:=HNV.out;omega] at this
       exact this
      case measure=>simp [intOf];omega
     ·have HK1:Hid (kn tx n=true):=by show kn tx n=true;unfold kn;rw [hv]
      have HO1:Hid (ow tx n = -1):=by show ow tx n = -1;unfold ow;rw [hv]
      have HG1:Hid (gr tx n=(sgn tx n:Int) - 48):=by show gr tx n=_;unfold gr;rw [hv]
      have hw1:¬ (sgn tx n:Int)=46:=by omega
      have hw2:¬ (sgn tx n:Int)=35:=by omega
      have hw3:(49:Int)<=(sgn tx n:Int):=by omega
      have hw4:(sgn tx n:Int)<=57:=by omega
      clear hv hsle
      go_wp2_with fail
      go_roundw
      case rel =>
       refine ⟨k+1,hlt,by go_num,HI.out.ground (by omega) hkx n HN.out HK1.out (by rw [HO1.out];decide) (by rw [HO1.out];decide) (fun pv h=>?_) ((Fr.refl _ _).setCell _ _ (by simp))⟩
       have:=h.setB hn144
       rw [HG1.out,show 1+n=1+y*12+x by have:=HNV.out;omega] at this
       exact this
      case measure=>simp [intOf];omega
     ·have HK1:Hid (kn tx n=true):=by show kn tx n=true;unfold kn;rw [hv]
      have HO1:Hid (ow tx n=0):=by show ow tx n=0;unfold ow;rw [hv]
      have HG1:Hid (gr tx n=0):=by show gr tx n=0;unfold gr;rw [hv]
      have hseen:=HI.out.seen
      have hcc0:=HI.out.c0
      have hcc1:=HI.out.c1
      rw [HN.out] at hseen hcc0 hcc1
      have hge:=(zy6 tx 0 n).1
      rw [hs] at hsg
      have HSEEN:=hid hseen
      clear hs hv hsle
      by_cases hc:cnt tx 0 n=1
      ·have hsc:wr.cell? ⟨gb+1,0,none⟩=some (.bool true):=by rw [j9 hseen];simp [hc]
       have HNO:Hid (¬ OK):=by
        show ¬ OK
        rw [HOK.out]
        exact xk5 tx n hn144 (Or.inl ⟨HO1.out,hc⟩)
       have HFR:=HI.out.fr
       clear hseen hc hcc0 hcc1 hge
       go_wp2_with fail
       go_ret2
       exact ⟨Or.inr ⟨HNO.out,rfl⟩,h0W.trans HFR (by simp;omega)⟩
      ·have hsc:wr.cell? ⟨gb+1,0,none⟩=some (.bool false):=by rw [j9 hseen];simp [hc]
       have hsf:wr.frozen? ⟨gb+1,0,none⟩=false:=qq0 hseen
       have HC0:Hid (cnt tx 0 n=0):=by show cnt tx 0 n=0;omega
       have HC1:Hid (cnt tx 1 n<=1):=hcc1
       have hcb:0<=cnt tx 0 (qv0 k)+cnt tx 1 (qv0 k)/\cnt tx 0 (qv0 k)+cnt tx 1 (qv0 k)<=2:=by
        have h0:=(zy6 tx 0 (qv0 k)).1
        have h1:=(zy6 tx 1 (qv0 k)).1
        have h2:=HI.out.c0
        have h3:=HI.out.c1
        omega
       clear hseen hc hcc0 hcc1 hge
       rcases qjj5 tx n HC0.out with hls|hls
       ·obtain ⟨ls,hlsd⟩:∃ ls:List U,ls=[]:=⟨_,rfl⟩
        have HLS:Hid (lsN tx n=[]):=hls
        have HLL:=hid hlsd
        have HOL:Hid (wr.ownsRow W.heap.size 85 11 pv ls.length (ls.flatMap U.cells)):=by
         show World.ownsRow _ _ _ _ _ _ _
         rw [hlsd,<- hls];exact HOWN.out
        have hlen2:ls.length<=2:=by rw [hlsd];simp
        have hz0l:ls.length=0:=by rw [hlsd];rfl
        obtain ⟨pa0,pc0,hpv0⟩:=zv6 HOL.out
        rw [hz0l] at hpv0
        have hp148:wr.cell? ⟨gb,148,none⟩=some (.slice pa0 0 pc0):=by rw [<- hpv0];exact HRN.out.cell 148 (by omega)
        have hgl:gb < wr.heap.size:=qq1 hp148
        clear hlsd hls hz0l hpv0
        go_wp2_with (go_at_call 93;refine (zk1 _ _).mono ?_;rintro e w1 ⟨rfl,rfl⟩;rw [show qx9 1=40 from rfl])
        obtain ⟨W1,hW1⟩:∃ W,W=wr.setCell ⟨gb+1,0,none⟩ (.bool true):=⟨_,rfl⟩
        obtain ⟨W2,hW2⟩:∃ W,W=W1.alloc (.cells #[.int .i64 1,.int .i64 0,.int .i64 1,.int .i64 x,.int .i64 y,.int .i64 40,.int .i64 0,.int .i64 0,.int .i64 0,.int .i64 0,.int .i64 0] 85):=⟨_,rfl⟩
        rw [<- hW1,<- hW2]
        clear hp148
        have hF12:Fr [gb+1] wr W2:=by rw [hW2,hW1];exact ((Fr.refl _ _).setCell _ _ (by simp)).alloc _
        have hub:W2.heap[wr.heap.size]?=some (.cells (qk4 1 0 1 x y 40).arr 85):=by rw [hW2];exact yq1 _ _ _ (by rw [hW1];simp)
        have hrn2:RN W2 gb (bdN tx n) pv:=HRN.out.fr hF12 (by simp)
        have hown2:W2.ownsRow W.heap.size 85 11 pv ls.length (ls.flatMap U.cells):=qq7 HOL.out hF12 (fun b hb=>by have:=(HOL.out.lt b hb).1;simp;omega)
        have hseen2:W2.heap[gb+1]?=some (.cells #[.bool true,.bool (decide (cnt tx 1 n=1))] 184):=by
         rw [hW2]
         refine ((Fr.refl [] _).alloc _).heap0 ?_
         rw [hW1]
         exact qz9 HSEEN.out 0 _
        have hfrW:Fr [gb,gb+1] W W2:=HI.out.fr.trans hF12 (by simp)
        clear hW1 hW2
        have e0:W2.cell? ⟨wr.heap.size,0,none⟩=some (ii 1):=j9 hub
        have e1:W2.cell? ⟨wr.heap.size,1,none⟩=some (ii 0):=j9 hub
        have e2:W2.cell? ⟨wr.heap.size,2,none⟩=some (ii 1):=j9 hub
        have e3:W2.cell? ⟨wr.heap.size,3,none⟩=some (ii x):=j9 hub
        have e4:W2.cell? ⟨wr.heap.size,4,none⟩=some (ii y):=j9 hub
        have e5:W2.cell? ⟨wr.heap.size,5,none⟩=some (ii 40):=j9 hub
        have e6:W2.cell? ⟨wr.heap.size,6,none⟩=some (ii 0):=j9 hub
        have e7:W2.cell? ⟨wr.heap.size,7,none⟩=some (ii 0):=j9 hub
        have e8:W2.cell? ⟨wr.heap.size,8,none⟩=some (ii 0):=j9 hub
        have e9:W2.cell? ⟨wr.heap.size,9,none⟩=some (ii 0):=j9 hub
        have e10:W2.cell? ⟨wr.heap.size,10,none⟩=some (ii 0):=j9 hub
        have hvx:W2.cell? ⟨gb,148,none⟩=some pv:=hrn2.cell 148 (by omega)
        have hzx:W2.frozen? ⟨gb,148,none⟩=false:=hrn2.fz 148
        have hbx:gb < W2.heap.size:=hrn2.lt
        obtain ⟨inf,hi0,hz0,hz1,hz2⟩:=info_parts jv6
        have hF2:Fr [] W2 (W2.drew.alloc (.cells (qk4 1 0 1 x y 40).arr 85)):=((Fr.refl _ _).drew).alloc _
        have HO:Hid ((W2.drew.alloc (.cells (qk4 1 0 1 x y 40).arr 85)).ownsRow W.heap.size 85 11 pv ls.length (ls.flatMap U.cells)):=qq7 hown2 hF2 (by simp)
        have HS:Hid (∀ (j:Nat) (u:Value),(qk4 1 0 1 x y 40).cells[j]?=some u->(W2.drew.alloc (.cells (qk4 1 0 1 x y 40).arr 85)).cell? ((⟨W2.heap.size,0,none⟩:Addr).add j)=some u):=by
         intro j u hu
         rw [Addr.add_lit,Nat.zero_add,j9 (show (W2.drew.alloc (.cells (qk4 1 0 1 x y 40).arr 85)).heap[W2.heap.size]?=_ from qq6 W2.drew _)]
         simpa using hu
        have HNO:Hid (gb∉pv.ownBlock.toList):=fun e=>by have:=(hown2.lt gb (by simpa using e)).1;omega
        have HRN2:=hid hrn2
        have HF2:=hid hF2
        have HPN:Hid (∀ b∈pv.ownBlock.toList,W.heap.size<=b):=fun b hb=>(hown2.lt b (by simpa using hb)).1
        have HSE:=hid hseen2
        have HFW:=hid hfrW
        have hWW:W.heap.size<=W2.heap.size:=hfrW.size
        clear hub hrn2 hown2 hseen2 hfrW hF2
        have HFIN:Hid (∀ wx,(∃ v',RN wx gb (bdN tx n) v'/\wx.ownsRow W.heap.size 85 11 v' (ls.length+1) (ls.flatMap U.cells ++ (qk4 1 0 1 x y 40).cells)/\wx.heap[gb+1]?=some (.cells #[.bool true,.bool (decide (cnt tx 1 n=1))] 184)/\Fr [gb,gb+1] W wx)->RNI tx W gb (gb+1) (k+1) (.int .i64 (cnt tx 0 (qv0 k)+cnt tx 1 (qv0 k)+1)) wx):=by
         rintro wx ⟨v',hr',hown',hse',hfr'⟩
         refine HI.out.next hkx n HN.out HK1.out ?_ ?_ ⟨v',by rw [jx6 tx n HG1.out];exact hr',?_⟩ ?_ ?_ hfr'
         ·rw [zj6 tx 0 n HO1.out,HC0.out];decide
         ·rw [qw7 tx 1 n (by rw [HO1.out];decide)];exact HC1.out
         ·rw [qzx9 tx n HO1.out HC0.out,HLS.out,HNX.out.1,HNX.out.2]
          have:=hown'
          rw [HLL.out] at this
          exact this
         ·rw [zj6 tx 0 n HO1.out,HC0.out,qw7 tx 1 n (by rw [HO1.out];decide)]
          exact hse'
         ·rw [zj6 tx 0 n HO1.out,qw7 tx 1 n (by rw [HO1.out];decide)]
          congr 1
          have:=HN.out
          rw [this]
          omega
        go_region_law (refine qy5 rfl (.tmp 116) (.tmp 118) 82 rfl W.heap.size 85 inf zeroU.val 11 88 Tryz.underlying82 hi0 hz0 hz1 hz2 rfl (by decide) pv ls.length (ls.flatMap U.cells) (by simp [Act.eval]) HO.out ⟨W2.heap.size,0,none⟩ 1 1 (qk4 1 0 1 x y 40).cells (by simp [Act.eval]) rfl HS.out (by simp [Value.oneCell']) (by unfold maxLen;omega) (by omega) (by simp;omega) ?_;intro v' w2 hown' hgrow hat;obtain ⟨g',cap',rfl⟩:=qx0 hown' (by omega);have hgf:=Fr.grow (S:=pv.ownBlock.toList) (Fr.refl _ _) hgrow (fun g hg=>Or.inl (by simp [hg]));have hv2:w2.cell? ⟨gb,148,none⟩=some pv:=(hgf.cell gb 148 (by simp;omega) HNO.out).trans ((HF2.out.cell gb 148 hbx (by simp)).trans hvx);have hz2':w2.frozen? ⟨gb,148,none⟩=false:=(hgf.frozen gb 148 (by simp;omega) HNO.out).trans ((HF2.out.frozen gb 148 hbx (by simp)).trans hzx))
        all_goals
         go_wp2_with fail
         go_roundw
         case rel =>
          refine ⟨k+1,hlt,by go_num,HFIN.out _ ?_⟩
          have hf3:Fr pv.ownBlock.toList W2 w2:=HF2.out.of0.trans hgf (fun b hb=>Or.inl hb)
          have hpn:=HPN.out
          have hg5:W.heap.size<=g':=by have:=(hown'.lt g' rfl).1;omega
          refine ⟨_,(HRN2.out.fr hf3 HNO.out).setL _,qq7 hown' ((Fr.refl [gb] w2).setCell _ _ (by simp)) (fun b hb=>?_),?_,?_⟩
          ·simp [Value.ownBlock] at hb
           subst hb
           simp
           omega
          ·rw [Below.heap_setCell _ _ _ _ (by simp)]
           exact hf3.heap HSE.out (fun e=>by have:=hpn _ e;omega)
          ·exact (HFW.out.trans hf3 (fun b hb=>Or.inr (hpn b hb))).setCell _ _ (by simp)
         case measure=>simp [intOf];omega
       ·have hown1:wr.ownsRow W.heap.size 85 11 pv 1 (bB tx n).cells:=by
         have:=(show wr.ownsRow W.heap.size 85 11 pv (lsN tx n).length ((lsN tx n).flatMap U.cells) from HOWN.out)
         rw [hls] at this
         exact this
        obtain ⟨pb,pc,rfl⟩:=qx0 hown1 (by omega)
        have HLS:=hid hls
        obtain ⟨q,hq⟩:∃ q,q=bB tx n:=⟨_,rfl⟩
        rw [<- hq] at hown1
        have hcs:=hown1.cells (g:=pb) rfl
        have hce:∀ j u,q.cells[j]?=some u->wr.cell? ⟨pb,j,none⟩=some u:=fun j u hu=>by
         have:=hcs j u hu
         rwa [Addr.add_lit,Nat.zero_add] at this
        have hpl:=(hown1.lt pb rfl)
        have c0:=hce 0 _ rfl
        have c1:=hce 1 _ rfl
        have c2:=hce 2 _ rfl
        have c3:=hce 3 _ rfl
        have c4:=hce 4 _ rfl
        have c5:=hce 5 _ rfl
        have c6:=hce 6 _ rfl
        have c7:=hce 7 _ rfl
        have c8:=hce 8 _ rfl
        have c9:=hce 9 _ rfl
        have c10:=hce 10 _ rfl
        have hp148:wr.cell? ⟨gb,148,none⟩=some (.slice (some ⟨pb,0,none⟩) 1 pc):=HRN.out.cell 148 (by omega)
        have hz148:wr.frozen? ⟨gb,148,none⟩=false:=HRN.out.fz 148
        have hgl:gb < wr.heap.size:=qq1 hp148
        have hne1:pb≠gb:=by omega
        have hne2:pb≠gb+1:=by omega
        have HQ:=hid hq
        clear hls hq hown1 hcs hce
        go_wp2_with (go_at_call 93;refine (zk1 _ _).mono ?_;rintro e w1 ⟨rfl,rfl⟩;rw [show qx9 1=40 from rfl])
        obtain ⟨W1,hW1⟩:∃ W,W=wr.setCell ⟨gb+1,0,none⟩ (.bool true):=⟨_,rfl⟩
        obtain ⟨W2,hW2⟩:∃ W,W=W1.alloc (.cells #[.int .i64 1,.int .i64 0,.int .i64 1,.int .i64 x,.int .i64 y,.int .i64 40,.int .i64 0,.int .i64 0,.int .i64 0,.int .i64 0,.int .i64 0] 85):=⟨_,rfl⟩
        rw [<- hW1,<- hW2]
        have hF12:Fr [gb+1] wr W2:=by rw [hW2,hW1];exact ((Fr.refl _ _).setCell _ _ (by simp)).alloc _
        have hub:W2.heap[wr.heap.size]?=some (.cells (qk4 1 0 1 x y 40).arr 85):=by rw [hW2];exact yq1 _ _ _ (by rw [hW1];simp)
        have hrn2:RN W2 gb (bdN tx n) (.slice (some ⟨pb,0,none⟩) 1 pc):=HRN.out.fr hF12 (by simp)
        have hseen2:W2.heap[gb+1]?=some (.cells #[.bool true,.bool (decide (cnt tx 1 n=1))] 184):=by
         rw [hW2]
         refine ((Fr.refl [] _).alloc _).heap0 ?_
         rw [hW1]
         exact qz9 HSEEN.out 0 _
        have hfrW:Fr [gb,gb+1] W W2:=HI.out.fr.trans hF12 (by simp)
        have hcx:∀ j u,wr.cell? ⟨pb,j,none⟩=some u->W2.cell? ⟨pb,j,none⟩=some u:=fun j u hu=>(hF12.cell pb j hpl.2 (by simp;omega)).trans hu
        clear hW1 hW2
        have e0:W2.cell? ⟨wr.heap.size,0,none⟩=some (ii 1):=j9 hub
        have e1:W2.cell? ⟨wr.heap.size,1,none⟩=some (ii 0):=j9 hub
        have e2:W2.cell? ⟨wr.heap.size,2,none⟩=some (ii 1):=j9 hub
        have e3:W2.cell? ⟨wr.heap.size,3,none⟩=some (ii x):=j9 hub
        have e4:W2.cell? ⟨wr.heap.size,4,none⟩=some (ii y):=j9 hub
        have e5:W2.cell? ⟨wr.heap.size,5,none⟩=some (ii 40):=j9 hub
        have e6:W2.cell? ⟨wr.heap.size,6,none⟩=some (ii 0):=j9 hub
        have e7:W2.cell? ⟨wr.heap.size,7,none⟩=some (ii 0):=j9 hub
        have e8:W2.cell? ⟨wr.heap.size,8,none⟩=some (ii 0):=j9 hub
        have e9:W2.cell? ⟨wr.heap.size,9,none⟩=some (ii 0):=j9 hub
        have e10:W2.cell? ⟨wr.heap.size,10,none⟩=some (ii 0):=j9 hub
        have d0:=hcx _ _ c0
        have d1:=hcx _ _ c1
        have d2:=hcx _ _ c2
        have d3:=hcx _ _ c3
        have d4:=hcx _ _ c4
        have d5:=hcx _ _ c5
        have d6:=hcx _ _ c6
        have d7:=hcx _ _ c7
        have d8:=hcx _ _ c8
        have d9:=hcx _ _ c9
        have d10:=hcx _ _ c10
        have hvx:W2.cell? ⟨gb,148,none⟩=some (.slice (some ⟨pb,0,none⟩) 1 pc):=hrn2.cell 148 (by omega)
        have hzx:W2.frozen? ⟨gb,148,none⟩=false:=hrn2.fz 148
        have hbx:gb < W2.heap.size:=hrn2.lt
        have HRN2:=hid hrn2
        have HSE:=hid hseen2
        have HFW:=hid hfrW
        have hWW:W.heap.size<=W2.heap.size:=hfrW.size
        clear hub hrn2 hseen2 hfrW hcx c0 c1 c2 c3 c4 c5 c6 c7 c8 c9 c10 hp148 hz148 hF12
        have HFIN:Hid (∀ wx,(∃ v',RN wx gb (bdN tx n) v'/\wx.ownsRow W.heap.size 85 11 v' 2 ((qk4 1 0 1 x y 40).cells ++ q.cells)/\wx.heap[gb+1]?=some (.cells #[.bool true,.bool (decide (cnt tx 1 n=1))] 184)/\Fr [gb,gb+1] W wx)->RNI tx W gb (gb+1) (k+1) (.int .i64 (cnt tx 0 (qv0 k)+cnt tx 1 (qv0 k)+1)) wx):=by
         rintro wx ⟨v',hr',hown',hse',hfr'⟩
         refine HI.out.next hkx n HN.out HK1.out ?_ ?_ ⟨v',by rw [jx6 tx n HG1.out];exact hr',?_⟩ ?_ ?_ hfr'
         ·rw [zj6 tx 0 n HO1.out,HC0.out];decide
         ·rw [qw7 tx 1 n (by rw [HO1.out];decide)];exact HC1.out
         ·rw [qzx9 tx n HO1.out HC0.out,HLS.out,HNX.out.1,HNX.out.2,<- HQ.out]
          have:=hown'
          simpa only [List.flatMap_cons,List.flatMap_nil,List.append_nil,List.length_cons,List.length_nil,Nat.zero_add] using this
         ·rw [zj6 tx 0 n HO1.out,HC0.out,qw7 tx 1 n (by rw [HO1.out];decide)]
          exact hse'
         ·rw [zj6 tx 0 n HO1.out,qw7 tx 1 n (by rw [HO1.out];decide)]
          congr 1
          have:=HN.out
          rw [this]
          omega
        go_region
        all_goals
         go_wp2_with fail
         go_roundw
         case rel =>
          refine ⟨k+1,hlt,by go_num,HFIN.out _ ?_⟩
          have hLL:(Obj.cells #[ii 1,ii 0,ii 1,ii x,ii y,ii 40,ii 0,ii 0,ii 0,ii 0,ii 0,ii q.id,ii q.owner,ii q.kind,ii q.x,ii q.y,ii q.life,ii q.load,ii q.what,ii q.tox,ii q.toy,ii q.target] 85)=.cells ((qk4 1 0 1 x y 40).cells ++ q.cells).toArray 85:=rfl
          obtain ⟨W3,hW3⟩:∃ W,W=W2.setCell ⟨gb,148,none⟩ (.slice (some ⟨W2.heap.size,0,none⟩) 2 2):=⟨_,rfl⟩
          have hs3:W3.heap.size=W2.heap.size:=by rw [hW3];simp [World.setCell]
          rw [<- hW3]
          have hr3:RN W3 gb (bdN tx n) (.slice (some ⟨W2.heap.size,0,none⟩) 2 2):=by rw [hW3];exact HRN2.out.setL _
          have hf23:Fr [gb] W2 W3:=by rw [hW3];exact (Fr.refl _ _).setCell _ _ (by simp)
          have hf34:∀ o,Fr [] W3 (W3.alloc o).drew:=fun o=>((Fr.refl _ _).alloc _).drew
          refine ⟨_,hr3.fr (hf34 _) (by simp),⟨rfl,Or.inr ⟨W2.heap.size,2,((qk4 1 0 1 x y 40).cells ++ q.cells).toArray,rfl,by omega,by rw [<- hs3];exact qq6 W3 _,by omega,by unfold maxLen;omega,rfl,rfl⟩⟩,?_,?_⟩
          ·exact (hf34 _).heap0 (hf23.heap HSE.out (by simp))
          ·exact (HFW.out.trans hf23 (by simp)).then0 (hf34 _)
         case measure=>simp [intOf];omega
     ·have HK1:Hid (kn tx n=true):=by show kn tx n=true;unfold kn;rw [hv]
      have HO1:Hid (ow tx n=1):=by show ow tx n=1;unfold ow;rw [hv]
      have HG1:Hid (gr tx n=0):=by show gr tx n=0;unfold gr;rw [hv]
      have hseen:=HI.out.seen
      have hcc0:=HI.out.c0
      have hcc1:=HI.out.c1
      rw [HN.out] at hseen hcc0 hcc1
      have hge:=(zy6 tx 1 n).1
      rw [hs] at hsg
      have HSEEN:=hid hseen
      clear hs hv hsle
      by_cases hc:cnt tx 1 n=1
      ·have hsc:wr.cell? ⟨gb+1,1,none⟩=some (.bool true):=by rw [j9 hseen];simp [hc]
       have HNO:Hid (¬ OK):=by
        show ¬ OK
        rw [HOK.out]
        exact xk5 tx n hn144 (Or.inr ⟨HO1.out,hc⟩)
       have HFR:=HI.out.fr
       clear hseen hc hcc0 hcc1 hge
       go_wp2_with fail
       go_ret2
       exact ⟨Or.inr ⟨HNO.out,rfl⟩,h0W.trans HFR (by simp;omega)⟩
      ·have hsc:wr.cell? ⟨gb+1,1,none⟩=some (.bool false):=by rw [j9 hseen];simp [hc]
       have hsf:wr.frozen? ⟨gb+1,1,none⟩=false:=qq0 hseen
       have HC0:Hid (cnt tx 1 n=0):=by show cnt tx 1 n=0;omega
       have HC1:Hid (cnt tx 0 n<=1):=hcc0
       have hcb:0<=cnt tx 0 (qv0 k)+cnt tx 1 (qv0 k)/\cnt tx 0 (qv0 k)+cnt tx 1 (qv0 k)<=2:=by
        have h0:=(zy6 tx 0 (qv0 k)).1
        have h1:=(zy6 tx 1 (qv0 k)).1
        have h2:=HI.out.c0
        have h3:=HI.out.c1
        omega
       clear hseen hc hcc0 hcc1 hge
       obtain ⟨ls,hlsd⟩:∃ ls,ls=lsN tx n:=⟨_,rfl⟩
       have hlen2:ls.length<=2:=by rw [hlsd];exact qqx4 tx n
       have HLS:=hid hlsd
       have HOL:Hid (wr.ownsRow W.heap.size 85 11 pv ls.length (ls.flatMap U.cells)):=by
        show World.ownsRow _ _ _ _ _ _ _
        rw [hlsd];exact HOWN.out
       clear hlsd
       go_wp2_with (go_at_call 93;refine (zk1 _ _).mono ?_;rintro e w1 ⟨rfl,rfl⟩;rw [show qx9 1=40 from rfl])
       obtain ⟨W1,hW1⟩:∃ W,W=wr.setCell ⟨gb+1,1,none⟩ (.bool true):=⟨_,rfl⟩
       obtain ⟨W2,hW2⟩:∃ W,W=W1.alloc (.cells #[.int .i64 2,.int .i64 1,.int .i64 1,.int .i64 x,.int .i64 y,.int .i64 40,.int .i64 0,.int .i64 0,.int .i64 0,.int .i64 0,.int .i64 0] 85):=⟨_,rfl⟩
       rw [<- hW1,<- hW2]
       have hF12:Fr [gb+1] wr W2:=by rw [hW2,hW1];exact ((Fr.refl _ _).setCell _ _ (by simp)).alloc _
       have hub:W2.heap[wr.heap.size]?=some (.cells (qk4 2 1 1 x y 40).arr 85):=by rw [hW2];exact yq1 _ _ _ (by rw [hW1];simp)
       have hrn2:RN W2 gb (bdN tx n) pv:=HRN.out.fr hF12 (by simp)
       have hown2:W2.ownsRow W.heap.size 85 11 pv ls.length (ls.flatMap U.cells):=qq7 HOL.out hF12 (fun b hb=>by have:=(HOL.out.lt b hb).1;simp;omega)
       have hseen2:W2.heap[gb+1]?=some (.cells #[.bool (decide (cnt tx 0 n=1)),.bool true] 184):=by
        rw [hW2]
        refine ((Fr.refl [] _).alloc _).heap0 ?_
        rw [hW1]
        exact qz9 HSEEN.out 1 _
       have hfrW:Fr [gb,gb+1] W W2:=HI.out.fr.trans hF12 (by simp)
       clear hW1 hW2
       have e0:W2.cell? ⟨wr.heap.size,0,none⟩=some (ii 2):=j9 hub
       have e1:W2.cell? ⟨wr.heap.size,1,none⟩=some (ii 1):=j9 hub
       have e2:W2.cell? ⟨wr.heap.size,2,none⟩=some (ii 1):=j9 hub
       have e3:W2.cell? ⟨wr.heap.size,3,none⟩=some (ii x):=j9 hub
       have e4:W2.cell? ⟨wr.heap.size,4,none⟩=some (ii y):=j9 hub
       have e5:W2.cell? ⟨wr.heap.size,5,none⟩=some (ii 40):=j9 hub
       have e6:W2.cell? ⟨wr.heap.size,6,none⟩=some (ii 0):=j9 hub
       have e7:W2.cell? ⟨wr.heap.size,7,none⟩=some (ii 0):=j9 hub
       have e8:W2.cell? ⟨wr.heap.size,8,none⟩=some (ii 0):=j9 hub
       have e9:W2.cell? ⟨wr.heap.size,9,none⟩=some (ii 0):=j9 hub
       have e10:W2.cell? ⟨wr.heap.size,10,none⟩=some (ii 0):=j9 hub
       have hvx:W2.cell? ⟨gb,148,none⟩=some pv:=hrn2.cell 148 (by omega)
       have hzx:W2.frozen? ⟨gb,148,none⟩=false:=hrn2.fz 148
       have hbx:gb < W2.heap.size:=hrn2.lt
       obtain ⟨inf,hi0,hz0,hz1,hz2⟩:=info_parts jv6
       have hF2:Fr [] W2 (W2.drew.alloc (.cells (qk4 2 1 1 x y 40).arr 85)):=((Fr.refl _ _).drew).alloc _
       have HO:Hid ((W2.drew.alloc (.cells (qk4 2 1 1 x y 40).arr 85)).ownsRow W.heap.size 85 11 pv ls.length (ls.flatMap U.cells)):=qq7 hown2 hF2 (by simp)
       have HS:Hid (∀ (j:Nat) (u:Value),(qk4 2 1 1 x y 40).cells[j]?=some u->(W2.drew.alloc (.cells (qk4 2 1 1 x y 40).arr 85)).cell? ((⟨W2.heap.size,0,none⟩:Addr).add j)=some u):=by
        intro j u hu
        rw [Addr.add_lit,Nat.zero_add,j9 (show (W2.drew.alloc (.cells (qk4 2 1 1 x y 40).arr 85)).heap[W2.heap.size]?=_ from qq6 W2.drew _)]
        simpa using hu
       have HNO:Hid (gb∉pv.ownBlock.toList):=fun e=>by have:=(hown2.lt gb (by simpa using e)).1;omega
       have HRN2:=hid hrn2
       have HF2:=hid hF2
       have HPN:Hid (∀ b∈pv.ownBlock.toList,W.heap.size<=b):=fun b hb=>(hown2.lt b (by simpa using hb)).1
       have HSE:=hid hseen2
       have HFW:=hid hfrW
       have hWW:W.heap.size<=W2.heap.size:=hfrW.size
       clear hub hrn2 hown2 hseen2 hfrW hF2
       have HFIN:Hid (∀ wx,(∃ v',RN wx gb (bdN tx n) v'/\wx.ownsRow W.heap.size 85 11 v' (ls.length+1) (ls.flatMap U.cells ++ (qk4 2 1 1 x y 40).cells)/\wx.heap[gb+1]?=some (.cells #[.bool (decide (cnt tx 0 n=1)),.bool true] 184)/\Fr [gb,gb+1] W wx)->RNI tx W gb (gb+1) (k+1) (.int .i64 (cnt tx 0 (qv0 k)+cnt tx 1 (qv0 k)+1)) wx):=by
        rintro wx ⟨v',hr',hown',hse',hfr'⟩
        refine HI.out.next hkx n HN.out HK1.out ?_ ?_ ⟨v',by rw [jx6 tx n HG1.out];exact hr',?_⟩ ?_ ?_ hfr'
        ·rw [qw7 tx 0 n (by rw [HO1.out];decide)];exact HC1.out
        ·rw [zj6 tx 1 n HO1.out,HC0.out];decide
        ·rw [qxz1 tx n HO1.out HC0.out,HNX.out.1,HNX.out.2,List.length_append,List.flatMap_append,<- HLS.out]
         have:=hown'
         simpa using this
        ·rw [zj6 tx 1 n HO1.out,HC0.out,qw7 tx 0 n (by rw [HO1.out];decide)]
         exact hse'
        ·rw [zj6 tx 1 n HO1.out,qw7 tx 0 n (by rw [HO1.out];decide)]
         congr 1
         have:=HN.out
         rw [this]
         omega
       go_region_law (refine qy5 rfl (.tmp 116) (.tmp 118) 82 rfl W.heap.size 85 inf zeroU.val 11 88 Tryz.underlying82 hi0 hz0 hz1 hz2 rfl (by decide) pv ls.length (ls.flatMap U.cells) (by simp [Act.eval]) HO.out ⟨W2.heap.size,0,none⟩ 1 1 (qk4 2 1 1 x y 40).cells (by simp [Act.eval]) rfl HS.out (by simp [Value.oneCell']) (by unfold maxLen;omega) (by omega) (by simp;omega) ?_;intro v' w2 hown' hgrow hat;obtain ⟨g',cap',rfl⟩:=qx0 hown' (by omega);have hgf:=Fr.grow (S:=pv.ownBlock.toList) (Fr.refl _ _) hgrow (fun g hg=>Or.inl (by simp [hg]));have hv2:w2.cell? ⟨gb,148,none⟩=some pv:=(hgf.cell gb 148 (by simp;omega) HNO.out).trans ((HF2.out.cell gb 148 hbx (by simp)).trans hvx);have hz2':w2.frozen? ⟨gb,148,none⟩=false:=(hgf.frozen gb 148 (by simp;omega) HNO.out).trans ((HF2.out.frozen gb 148 hbx (by simp)).trans hzx))
       all_goals
        go_wp2_with fail
        go_roundw
        case rel =>
         refine ⟨k+1,hlt,by go_num,HFIN.out _ ?_⟩
         have hf3:Fr pv.ownBlock.toList W2 w2:=HF2.out.of0.trans hgf (fun b hb=>Or.inl hb)
         have hpn:=HPN.out
         have hg5:W.heap.size<=g':=by have:=(hown'.lt g' rfl).1;omega
         refine ⟨_,(HRN2.out.fr hf3 HNO.out).setL _,qq7 hown' ((Fr.refl [gb] w2).setCell _ _ (by simp)) (fun b hb=>?_),?_,?_⟩
         ·simp [Value.ownBlock] at hb
          subst hb
          simp
          omega
         ·rw [Below.heap_setCell _ _ _ _ (by simp)]
          exact hf3.heap HSE.out (fun e=>by have:=hpn _ e;omega)
         ·exact (HFW.out.trans hf3 (fun b hb=>Or.inr (hpn b hb))).setCell _ _ (by simp)
        case measure=>simp [intOf];omega
     ·have HNO:Hid (¬ OK):=by
       show ¬ OK
       rw [HOK.out]
       intro h
       have:=h.2.2.1 n hn144
       unfold kn at this
       rw [hv] at this
       cases this
      have hw1:¬ (sgn tx n:Int)=46:=by omega
      have hw2:¬ (sgn tx n:Int)=35:=by omega
      have hw3:((sgn tx n:Int)==65)=false:=by simp;omega
      have hw4:((sgn tx n:Int)==66)=false:=by simp;omega
      have HFR:=HI.out.fr
      clear hv hs1 hs2 hs4 hs5
      rcases hs3 with hs3|hs3
      ·have hw5:¬ (49:Int)<=(sgn tx n:Int):=by omega
       go_wp2_with fail
       go_ret2
       exact ⟨Or.inr ⟨HNO.out,rfl⟩,h0W.trans HFR (by simp;omega)⟩
      ·have hw5:(49:Int)<=(sgn tx n:Int):=by omega
       have hw6:¬ (sgn tx n:Int)<=57:=by omega
       go_wp2_with fail
       go_ret2
       exact ⟨Or.inr ⟨HNO.out,rfl⟩,h0W.trans HFR (by simp;omega)⟩
   ·have hk156:k=156:=by omega
    have hlti:¬ (k:Int) < 156:=by omega
    have HI:=hid hI
    have HK:=hid hk156
    obtain ⟨⟨pv,hrn,hown⟩,q2,q3,q4,q5,q6,_,q8⟩:=HI.out
    have hc:qv0 k=144:=by rw [hk156];rfl
    rw [hc] at hrn hown q3 q4 q5 |-
    clear hI hk156
    have n0:=(zy6 tx 0 144).1
    have n1:=(zy6 tx 1 144).1
    by_cases hb2:cnt tx 0 144+cnt tx 1 144=2
    ·have HYES:Hid OK:=by
      show OK
      rw [HOK.out]
      exact ⟨hsz,fun y hy=>q6 y (by rw [HK.out];omega),q5,by omega,by omega⟩
     have hls:=qqx3 tx (by omega) (by omega)
     rw [hls] at hown
     obtain ⟨pb,cap,hpv,hpb,hrow⟩:=PRow.of_owns (us:=(zz4 tx).us) hown rfl (by show 0 < 2;omega)
     have HRGE:Hid (RG wr gb pb cap (zz4 tx)):=by
      refine RN.rg ?_ hrow (by omega)
      have:pv=.slice (some ⟨pb,0,none⟩) 2 cap:=hpv
      rw [<- this];exact hrn
     clear hrn hown hls hpv hrow
     go_wp2_with fail
     go_ret2
     exact ⟨Or.inl ⟨HYES.out,gb,pb,cap,rfl,HRGE.out,hgw,by omega⟩,h0W.trans q8 (by simp;omega)⟩
    ·have HNO:Hid (¬ OK):=by
      show ¬ OK
      rw [HOK.out]
      intro h
      have:=h.2.2.2.1
      have:=h.2.2.2.2
      omega
     clear hrn hown
     go_wp2_with fail
     go_ret2
     exact ⟨Or.inr ⟨HNO.out,rfl⟩,h0W.trans q8 (by simp;omega)⟩
 ·have HNO:Hid (¬ OK):=by
   show ¬ OK
   rw [HOK.out]
   intro h
   exact hsz h.1
  have hszi:¬ (tx.size:Int)=156:=by omega
  clear hsz
  go_enter Tryz.func51,Tryz.ntmps51
  go_wp2_with fail
  go_ret2
  exact ⟨Or.inr ⟨HNO.out,rfl⟩,Fr.refl _ _⟩
set_option maxRecDepth 100000
theorem vq9 (e:Int)(w:World):Calls Tryz.prog 52 #[.int .i64 e] w fun r w'=>r=.returned (.int .i64 e)/\w=w':=by
 go_enter Tryz.func52,Tryz.ntmps52
 go_wp2_with fail
 go_ret
 exact ⟨rfl,rfl⟩
theorem kv3 (tx:ByteArray)(w:World)(hw:0 < w.heap.size) :
  Calls Tryz.prog 24 #[.string tx] w fun e w'=>((zz9 tx/\∃ sb L,e=.returned (.tuple #[.pointer (some ⟨sb,0,none⟩),.bool true])/\Gm w' (.pointer (some ⟨sb,0,none⟩)) L (zz4 tx)/\∀ x∈L,w.heap.size<=x)\/(¬ zz9 tx/\e=.returned (.tuple #[.pointer none,.bool true])))/\Fr [] w w':=by
 have H1:Hid (∀ w,0 < w.heap.size->Calls Tryz.prog 32 #[.string tx] w fun e w'=>((zz9 tx/\∃ gb pb cap,e=.returned (.tuple #[.pointer (some ⟨gb,0,none⟩),.int .i64 0])/\GS w' gb pb cap (zz4 tx)/\w.heap.size<=gb/\w.heap.size<=pb)\/(¬ zz9 tx/\e=.returned (.tuple #[.pointer none,.int .i64 1])))/\Fr [] w w'):=fun w hw=>qqx6 tx w hw
 have H2:Hid (∀ w,Calls Tryz.prog 51 #[.string tx] w fun e w'=>((zz9 tx/\∃ gb pb cap,e=.returned (.tuple #[.pointer (some ⟨gb,0,none⟩),.int .i64 0])/\RG w' gb pb cap (zz4 tx)/\w.heap.size<=gb/\w.heap.size<=pb)\/(¬ zz9 tx/\e=.returned (.tuple #[.pointer none,.int .i64 1])))/\Fr [] w w'):=fun w=>(gw3 tx w).mono (fun e w' h=>⟨h.h,h.fr⟩)
 go_enter Tryz.func24,Tryz.ntmps24
 go_wp2_with fail
 refine Calls.mono (H1.out w hw) ?_
 rintro e w1 ⟨⟨hok,gb,pb,cap,rfl,hgs,q1,q2⟩|⟨hno,rfl⟩,hf1⟩
 ·dsimp only
  go_wp2_with fail
  refine Calls.mono (H2.out w1) ?_
  rintro e w2 ⟨⟨_,rb,qb,cap2,rfl,hrg,q3,q4⟩|⟨hno,_⟩,hf2⟩
  rotate_left
  ·exact absurd hok hno
  dsimp only
  have HGS:=hid hgs
  have HRG:=hid hrg
  have HOK:=hid hok
  clear hgs hrg hok
  go_wp2_with (go_at_call 52;refine (vq9 _ _).mono ?_;rintro e w3 ⟨rfl,rfl⟩)
  go_ret2
  have hh:=qq6 w2 (.cells #[.pointer (some ⟨gb,0,none⟩),.pointer (some ⟨rb,0,none⟩)] 127)
  have hs1:=hf1.size
  have hs2:=hf2.size
  have l1:=HGS.out.lt
  have l2:=HGS.out.row.lt
  have l3:=HRG.out.lt
  have l4:=HRG.out.row.lt
  have hn1:=HGS.out.n1
  have hn2:=HRG.out.ne
  have hf3:Fr [] w2 (w2.alloc (.cells #[.pointer (some ⟨gb,0,none⟩),.pointer (some ⟨rb,0,none⟩)] 127)):=(Fr.refl _ _).alloc _
  refine ⟨Or.inl ⟨HOK.out,w2.heap.size,[w2.heap.size,gb,pb,rb,qb],rfl,⟨⟨w2.heap.size,gb,pb,cap,rb,qb,cap2,rfl,rfl,by rw [j9 hh];rfl,by rw [j9 hh];rfl,(HGS.out.fr hf2 (by simp) (by simp)).fr hf3 (by simp) (by simp),HRG.out.fr0 hf3⟩,?_,qjj7 tx HOK.out,qjj8 tx,by simp [zz4]⟩,?_⟩,(hf1.then0 hf2).then0 hf3⟩
  ·simp only [List.nodup_cons,List.mem_cons,List.not_mem_nil,or_false,not_or,List.nodup_nil,and_true,not_false_eq_true]
   omega
  ·intro x hx
   simp only [List.mem_cons,List.not_mem_nil,or_false] at hx
   omega
 ·dsimp only
  go_wp2_with fail
  refine Calls.mono (H2.out w1) ?_
  rintro e w2 ⟨⟨hok,_⟩|⟨_,rfl⟩,hf2⟩
  ·exact absurd hok hno
  dsimp only
  have HNO:=hid hno
  clear hno
  go_wp2_with (go_at_call 52;refine (vq9 _ _).mono ?_;rintro e w3 ⟨rfl,rfl⟩)
  go_ret2
  exact ⟨Or.inr ⟨HNO.out,rfl⟩,hf1.then0 hf2⟩
def gk2:ByteArray:=⟨#[65,46,46,46,53,46,46,46,46,46,46,46,10,46,46,46,46,46,46,46,46,46,46,46,46,10,46,46,46,46,46,46,46,46,46,46,46,46,10,46,46,46,46,46,46,46,46,46,46,46,46,10,46,46,46,46,35,35,35,35,46,46,46,46,10,46,46,46,46,46,46,46,46,46,46,46,46,10,46,46,46,46,46,46,46,46,46,46,46,46,10,46,46,46,46,46,46,46,46,46,46,46,46,10,46,46,46,46,46,46,46,46,46,46,46,46,10,46,46,46,46,46,46,46,46,46,46,46,46,10,46,46,46,46,46,46,46,46,46,46,46,46,10,46,46,46,57,46,46,46,46,46,46,46,66,10]⟩
theorem dk1:zz9 gk2:=⟨by kernel_rfl,of_decide_eq_true (by kernel_rfl),of_decide_eq_true (by kernel_rfl),by kernel_rfl,by kernel_rfl⟩
theorem xx7 (w:World):Calls Tryz.prog 25 #[] w fun e w'=>e=.returned (.string gk2)/\Fr [] w w':=by
 go_enter Tryz.func25,Tryz.ntmps25
 go_wp2_with fail
 go_ret
 exact ⟨by kernel_rfl,Fr.refl _ _⟩
end Go.Proofs.YtapabahhfanmmaaGreatDoor
