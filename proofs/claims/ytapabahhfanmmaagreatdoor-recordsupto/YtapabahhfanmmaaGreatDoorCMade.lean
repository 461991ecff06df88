import Derived.Test.YtapabahhfanmmaaGreatDoorCNewY
import Derived.Test.YtapabahhfanmmaaGreatDoorCRefM
import Derived.Test.YtapabahhfanmmaaGreatDoorCFolkG
namespace Go.Proofs.YtapabahhfanmmaaGreatDoor
open Go.RowKit List
set_option maxRecDepth 100000
set_option maxHeartbeats 1000000
def bV (i:Nat):Nat:=(i / 13)*12+min (i % 13) 12
theorem ES (i:Nat)(h:i % 13=12):bV (i+1)=bV i:=by unfold bV;omega
theorem uL (i:Nat)(h:i % 13 < 12):bV i=i / 13*12+i % 13/\bV (i+1)=bV i+1:=by unfold bV;omega
theorem qG (a:ByteArray)(o:Int){m:Nat}:∀ n,m<=n->aJ a o m<=aJ a o n
 | 0,h=>by
     have:m=0:=by omega
     subst this;exact Int.le_refl _
 | n+1,h=>by
  by_cases e:m=n+1
  ·subst e;exact Int.le_refl _
  have h1:=qG a o (m:=m) n (by omega)
  have:aJ a o n<=aJ a o (n+1):=by
   rw [aJ]
   split <;> omega
  omega
theorem gO (a:ByteArray)(o:Int)(n:Nat)(h:ow a n=o):aJ a o (n+1)=aJ a o n+1:=by rw [aJ,if_pos h]
theorem fB (a:ByteArray)(o:Int)(n:Nat)(h:¬ ow a n=o):aJ a o (n+1)=aJ a o n:=by rw [aJ,if_neg h]
theorem yQ (a:ByteArray)(o:Int)(n:Nat)(h:ow a n=o):pos a o (n+1)=n:=by rw [pos,if_pos h]
theorem yR (a:ByteArray)(o:Int)(n:Nat)(h:¬ ow a n=o):pos a o (n+1)=pos a o n:=by rw [pos,if_neg h]
theorem xP (a:ByteArray)(n:Nat)(hn:n < 144)(h:(ow a n=0/\aJ a 0 n=1)\/(ow a n=1/\aJ a 1 n=1)):¬ dS a:=by
 intro hm
 rcases h with ⟨h1,b⟩|⟨h1,b⟩
 ·have c:=gO a 0 n h1
  have d:=qG a 0 (m:=n+1) 144 (by omega)
  have:=hm.2.2.2.1
  omega
 have c:=gO a 1 n h1
 have d:=qG a 1 (m:=n+1) 144 (by omega)
 have:=hm.2.2.2.2
 omega
def eR (a:ByteArray)(n:Nat):Nat->Int:=fun j=>if j < n then gr a j else 0
def bA (a:ByteArray)(n:Nat):U:=aS 1 0 1 ((pos a 0 n % 12:Nat):Int) ((pos a 0 n / 12:Nat):Int) 40
def bB (a:ByteArray)(n:Nat):U:=aS 2 1 1 ((pos a 1 n % 12:Nat):Int) ((pos a 1 n / 12:Nat):Int) 40
def dW (a:ByteArray)(n:Nat):List U:=(if aJ a 0 n=1 then [bA a n] else []) ++ (if aJ a 1 n=1 then [bB a n] else [])
theorem nN (a:ByteArray)(n:Nat)(h:gr a n=0):eR a (n+1)=eR a n:=by
 funext j
 unfold eR
 by_cases e:j=n
 ·subst e;rw [if_pos (by omega),if_neg (by omega),h]
 by_cases b:j < n
 ·rw [if_pos (by omega),if_pos b]
 rw [if_neg (by omega),if_neg b]
theorem tL (a:ByteArray)(n:Nat)(h:¬ ow a n=0):bA a (n+1)=bA a n:=by unfold bA;rw [yR a 0 n h]
theorem tM (a:ByteArray)(n:Nat)(h:¬ ow a n=1):bB a (n+1)=bB a n:=by unfold bB;rw [yR a 1 n h]
theorem DJ (a:ByteArray)(n:Nat)(h:ow a n=0):bA a (n+1)=aS 1 0 1 ((n % 12:Nat):Int) ((n / 12:Nat):Int) 40:=by unfold bA;rw [yQ a 0 n h]
theorem DL (a:ByteArray)(n:Nat)(h:ow a n=1):bB a (n+1)=aS 2 1 1 ((n % 12:Nat):Int) ((n / 12:Nat):Int) 40:=by unfold bB;rw [yQ a 1 n h]
theorem KZ (a:ByteArray)(n:Nat)(b:¬ ow a n=0)(h1:¬ ow a n=1):dW a (n+1)=dW a n:=by
 unfold dW
 rw [fB a 0 n b,fB a 1 n h1,tL a n b,tM a n h1]
theorem wS (a:ByteArray)(n:Nat)(b:ow a n=0)(h1:aJ a 0 n=0):dW a (n+1)=aS 1 0 1 ((n % 12:Nat):Int) ((n / 12:Nat):Int) 40 :: dW a n:=by
 have c:¬ ow a n=1:=by omega
 unfold dW
 rw [gO a 0 n b,fB a 1 n c,DJ a n b,tM a n c,h1]
 rfl
theorem KW (a:ByteArray)(n:Nat)(b:ow a n=1)(h1:aJ a 1 n=0):dW a (n+1)=dW a n ++ [aS 2 1 1 ((n % 12:Nat):Int) ((n / 12:Nat):Int) 40]:=by
 have c:¬ ow a n=0:=by omega
 unfold dW
 rw [gO a 1 n b,fB a 0 n c,tL a n c,DL a n b,h1]
 simp
theorem KX (a:ByteArray)(n:Nat)(b:aJ a 0 n=0):dW a n=[]\/dW a n=[bB a n]:=by
 unfold dW
 rw [b]
 by_cases h:aJ a 1 n=1
 ·rw [if_pos h];exact .inr rfl
 rw [if_neg h];exact .inl rfl
theorem KY (a:ByteArray)(b:aJ a 0 144=1)(h1:aJ a 1 144=1):dW a 144=(bP a).us:=by
 unfold dW
 rw [b,h1]
 rfl
theorem LA (a:ByteArray)(n:Nat):(dW a n).length<=2:=by
 unfold dW
 split <;> split <;> simp
theorem RV (s:Nat)(hs:s<=255):(s=46/\dY s=(0,-1,true))\/(s=35/\dY s=(10,-1,true))\/(49<=s/\s<=57/\dY s=((s:Int) - 48,-1,true))\/(s=65/\dY s=(0,0,true))\/(s=66/\dY s=(0,1,true))\/(s≠46/\s≠35/\(s < 49\/57 < s)/\s≠65/\s≠66/\dY s=(0,-1,false)):=by
 unfold dY
 by_cases a:s=46
 ·rw [if_pos (by omega)];exact .inl ⟨a,rfl⟩
 rw [if_neg (by omega)]
 by_cases b:s=35
 ·rw [if_pos (by omega)];exact .inr (.inl ⟨b,rfl⟩)
 rw [if_neg (by omega)]
 by_cases c:49<=s/\s<=57
 ·rw [if_pos (by omega)];exact .inr (.inr (.inl ⟨c.1,c.2,rfl⟩))
 rw [if_neg (by omega)]
 by_cases d:s=65
 ·rw [if_pos (by omega)];exact .inr (.inr (.inr (.inl ⟨d,rfl⟩)))
 rw [if_neg (by omega)]
 by_cases e:s=66
 ·rw [if_pos (by omega)];exact .inr (.inr (.inr (.inr (.inl ⟨e,rfl⟩))))
 rw [if_neg (by omega)]
 exact .inr (.inr (.inr (.inr (.inr ⟨a,b,by omega,d,e,rfl⟩))))
structure RN (w:World) (gb:Nat) (f:Nat->Int) (pv:Value):Prop where
 cell:∀ k,k < 149->w.cell? ⟨gb,k,none⟩=some (dF { turn:=0,next:=3,s0:=10,s1:=10,bd:=f,us:=[],held:=fun _=>none } pv k)
 fz:∀ k,w.frozen? ⟨gb,k,none⟩=false
theorem RN.lt {w:World}{a:Nat}{f:Nat->Int}{pv:Value}(h:RN w a f pv):a < w.heap.size:=aI (h.cell 0 (by omega))
theorem RN.fr {S:List Nat}{w d:World}{a:Nat}{f:Nat->Int}{pv:Value}(h:RN w a f pv)(b:Fr S w d)(c:a∉S):RN d a f pv :=
  ⟨fun k e=>by rw [b.cell a k h.lt c];exact h.cell k e,fun k=>by rw [b.frozen a k h.lt c];exact h.fz k⟩
theorem RN.setB {w:World}{c:Nat}{d:ByteArray}{pv:Value}{n:Nat}(h:RN w c (eR d n) pv)(hn:n < 144):RN (w.setCell ⟨c,1+n,none⟩ (ii (gr d n))) c (eR d (n+1)) pv:=by
 refine ⟨fun k f=>?_,fun k=>by rw [oB];exact h.fz k⟩
 by_cases e:k=1+n
 ·subst e
  rw [dO _ _ _ _ _ (h.cell _ f)]
  unfold dF
  rw [if_neg (by omega),if_pos (by omega)]
  dsimp only
  unfold eR
  rw [if_pos (by omega),show 1+n - 1=n by omega]
 rw [cA _ _ _ _ _ _ (.inr (fun i=>e i.symm)),h.cell k f]
 unfold dF
 dsimp only
 by_cases a:k=0
 ·rw [if_pos a,if_pos a]
 rw [if_neg a,if_neg a]
 by_cases b:k < 145
 ·rw [if_pos b,if_pos b]
  unfold eR
  by_cases g:k - 1 < n
  ·rw [if_pos g,if_pos (by omega)]
  rw [if_neg g,if_neg (by omega)]
 rw [if_neg b,if_neg b]
theorem RN.setL {w:World}{g:Nat}{f:Nat->Int}{pv:Value}(h:RN w g f pv)(v:Value):RN (w.setCell ⟨g,148,none⟩ v) g f v:=by
 refine ⟨fun k i=>?_,fun k=>by rw [oB];exact h.fz k⟩
 by_cases e:k=148
 ·subst e
  rw [dO _ _ _ _ _ (h.cell _ i)]
  rfl
 rw [cA _ _ _ _ _ _ (.inr (fun j=>e j.symm)),h.cell k i]
 unfold dF
 by_cases a:k=0
 ·rw [if_pos a,if_pos a]
 rw [if_neg a,if_neg a]
 by_cases b:k < 145
 ·rw [if_pos b,if_pos b]
 rw [if_neg b,if_neg b]
 by_cases c:k=145
 ·rw [if_pos c,if_pos c]
 rw [if_neg c,if_neg c]
 by_cases d:k=146
 ·rw [if_pos d,if_pos d]
 rw [if_neg d,if_neg d]
 rw [if_pos (by omega),if_pos (by omega)]
theorem RN.rg {w:World}{e d a:Nat}{g:ByteArray}(h:RN w e (eR g 144) (.slice (so d) 2 a))(j:PRow w d a (bP g).us)(f:e≠d):RG w e d a (bP g):=by
 refine ⟨fun k i=>?_,h.fz,j,by show 2<=1000;omega,f⟩
 rw [h.cell k i]
 unfold dF
 dsimp only [bP]
 by_cases b:k=0
 ·rw [if_pos b,if_pos b]
 rw [if_neg b,if_neg b]
 by_cases c:k < 145
 ·rw [if_pos c,if_pos c]
  unfold eR
  rw [if_pos (by omega)]
 rw [if_neg c,if_neg c]
 rfl
structure RNI (tx:ByteArray) (W:World) (gb sb:Nat) (i:Nat) (b:Value) (wr:World):Prop where
 ex:∃ pv,RN wr gb (eR tx (bV i)) pv/\wr.ownsRow W.heap.size 85 11 pv (dW tx (bV i)).length ((dW tx (bV i)).flatMap U.cells)
 seen:wr.heap[sb]?=some (.cells #[.bool (decide (aJ tx 0 (bV i)=1)),.bool (decide (aJ tx 1 (bV i)=1))] 184)
 c0:aJ tx 0 (bV i)<=1
 c1:aJ tx 1 (bV i)<=1
 sk:∀ j,j < bV i->kn tx j=true
 nl:∀ k,k*13+12 < i->gJ tx k=10
 bs:b=.int .i64 (aJ tx 0 (bV i)+aJ tx 1 (bV i))
 fr:Fr [gb,sb] W wr
theorem RNI.next {a:ByteArray} {W:World} {f g k:Nat} {b o:Value} {wr c:World} (h:RNI a W f g k b wr) (hx:k % 13 < 12) (n:Nat) (hn:bV k=n) (m:kn a n=true) (i:aJ a 0 (n+1)<=1) (l:aJ a 1 (n+1)<=1)
  (s:∃ pv,RN c f (eR a (n+1)) pv/\c.ownsRow W.heap.size 85 11 pv (dW a (n+1)).length ((dW a (n+1)).flatMap U.cells))
  (d:c.heap[g]?=some (.cells #[.bool (decide (aJ a 0 (n+1)=1)),.bool (decide (aJ a 1 (n+1)=1))] 184)) (q:o=.int .i64 (aJ a 0 (n+1)+aJ a 1 (n+1))) (fr:Fr [f,g] W c):RNI a W f g (k+1) o c:=by
 have e:bV (k+1)=n+1:=by rw [(uL k hx).2,hn]
 refine ⟨by rw [e];exact s,by rw [e];exact d,by rw [e];exact i,by rw [e];exact l,fun j p=>?_,fun j p=>h.nl j (by omega),by rw [e];exact q,fr⟩
 rw [e] at p
 by_cases r:j=n
 ·rw [r];exact m
 exact h.sk j (by rw [hn];omega)
theorem RNI.ground {a:ByteArray} {W:World} {c k:Nat} {b:Value} {wr e:World} (h:RNI a W c (c+1) k b wr) (r:c+1 < W.heap.size) (hx:k % 13 < 12) (n:Nat) (hn:bV k=n) (i:kn a n=true) (f:¬ ow a n=0) (h1:¬ ow a n=1)
  (j:∀ pv,RN wr c (eR a n) pv->RN e c (eR a (n+1)) pv) (g:Fr [c] wr e):RNI a W c (c+1) (k+1) b e:=by
 obtain ⟨⟨pv,l,d⟩,m,o,p,t,u,q,s⟩:=id h
 rw [hn] at l d m o p q
 refine h.next hx n hn i (by rw [fB a 0 n f];exact o) (by rw [fB a 1 n h1];exact p) ⟨pv,j pv l,?_⟩ ?_ (by rw [fB a 0 n f,fB a 1 n h1];exact q) (s.trans g (by simp))
 ·rw [KZ a n f h1]
  exact aF d g (fun b hb=>by have:=(d.lt b hb).1;simp;omega)
 rw [fB a 0 n f,fB a 1 n h1]
 exact g.heap m (by simp)
structure RNPost (OK:Prop) (tx:ByteArray) (w:World) (e:Ending) (w':World):Prop where
 h:(OK/\∃ gb pb cap,e=.returned (.tuple #[.pointer (so gb),.int .i64 0])/\RG w' gb pb cap (bP tx)/\w.heap.size<=gb/\w.heap.size<=pb)\/(¬ OK/\e=.returned (.tuple #[.pointer none,.int .i64 1]))
 fr:Fr [] w w'
def oW:Array Value:=(ii 0 :: ((range 144).map (fun _=>ii 0) ++ [ii 10,ii 10,ii 3,Value.slice none 0 0])).toArray
theorem EH:Tryz.prog.built 131 [(3,ii 3),(2,.agg #[ii 10,ii 10])]=some oW:=by kernel_rfl
theorem QE (k:Nat)(c:k < 149):oW[k]?=some (dF { turn:=0,next:=3,s0:=10,s1:=10,bd:=fun _=>0,us:=[],held:=fun _=>none } (.slice none 0 0) k):=by
 unfold oW dF
 rw [getElem?_toArray]
 by_cases a:k=0
 ·subst a;rfl
 obtain ⟨j,rfl⟩:∃ j,k=j+1:=⟨k - 1,by omega⟩
 rw [if_neg a,getElem?_cons_succ]
 by_cases b:j < 144
 ·rw [if_pos (by omega),getElem?_append_left (by simp;omega),getElem?_map,getElem?_range b]
  rfl
 rw [if_neg (by omega),getElem?_append_right (by simp;omega)]
 have:j=144\/j=145\/j=146\/j=147:=by omega
 rcases this with rfl|rfl|rfl|rfl <;> simp
theorem UW {c:Array Oper} {rest:List Oper} {o:Oper} {a:Act} {w:World} {Q:Exit->Act->World->Prop} (p:o.guard=none) (t:TypeId) (e f:Nat) (g j:Operand) (ho:o.op=.build t #[(e,g),(f,j)])
  (k l:Value) (h1:a.eval g=k) (m:a.eval j=l) (b:Array Value)
  (n:Tryz.prog.built t [(e,k),(f,l)]=some b) (h:wpList Tryz.prog c Q rest (a.put o.dst (.agg b)) w):wpList Tryz.prog c Q (o :: rest) a w :=
 wpList_plain p fun _ hK=>by
  have d:Tryz.prog.built t ((#[(e,g),(f,j)]:Array (Nat×Operand)).map fun (i,x)=>(i,a.eval x)).toList=some b:=by
   simp [h1,m,n]
  unfold Oper.wp execOp
  simp only [ho,Sem.run_bind,run_build w t _ b d,Result.andThen_ok]
  exact hK _ _ h
theorem QJ (a:ByteArray)(w:World) :
  Cs 51 #[.string a] w fun e w'=>RNPost (dS a) a w e w':=by
 obtain ⟨OK,bv⟩:∃ p:Prop,p=dS a:=⟨_,rfl⟩
 rw [<- bv]
 have aj:=aA bv
 clear bv
 by_cases cb:a.size=156
 ·obtain ⟨G0,bu⟩:∃ x,x=oW:=⟨_,rfl⟩
  have az:=EH
  rw [<- bu] at az
  have ch:=aA az
  have de:=aA bu
  have db:(a.size:Int)=156:=by omega
  clear bu az
  go_enter Tryz.func51,Tryz.ntmps51
  go_wp2_with (refine UW rfl 131 3 2 (.const (.int .i64 3)) (.tmp 16) rfl (ii 3) (.agg #[ii 10,ii 10]) rfl rfl G0 ch.o ?_)
  obtain ⟨W,hW⟩:∃ W,W=(w.alloc (.cells G0 131)).alloc (.cells #[.bool false,.bool false] 184):=⟨_,rfl⟩
  rw [<- hW]
  have ak:Fr [] w W:=by rw [hW];exact ((r0 _ _).alloc _).alloc _
  have dj:W.heap.size=w.heap.size+2:=by rw [hW];simp
  have bw:W.heap[w.heap.size]?=some (.cells G0 131):=by rw [hW];exact dD _ _ _
  have da:W.heap[w.heap.size+1]?=some (.cells #[.bool false,.bool false] 184):=by rw [hW];exact cR _ _ _
  have cj:Hi (RNI a W w.heap.size (w.heap.size+1) 0 (.int .i64 0) W):=by
   refine ⟨⟨.slice none 0 0,⟨fun k hk=>?_,fun k=>bI bw⟩,⟨rfl,.inl ⟨rfl,rfl⟩⟩⟩,da,by simp [aJ,bV],by simp [aJ,bV],fun j hj=>absurd hj (by simp [bV]),fun k hk=>by omega,rfl,r0 _ _⟩
   rw [aB bw,de.o,QE k hk]
   congr 2
  clear hW bw da
  obtain ⟨d,cu⟩:∃ x,x=w.heap.size:=⟨_,rfl⟩
  rw [<- cu] at cj dj |-
  have dq:w.heap.size<=d:=by omega
  clear cu
  have di:Hi (∀ k y x (h:k < 156),y=k / 13->x=k % 13->x < 12->(a[k]'(by omega)).toNat=dL a (y*12+x)):=fun k y x h hy hx ee=>by
   have:=AD a y x ee (by omega)
   rw [<- this]
   congr 2
   omega
  have dg:Hi (∀ k y (h:k < 156),y=k / 13->k % 13=12->(a[k]'(by omega)).toNat=gJ a y):=fun k y h hy hx=>by
   have:=xN a y (by omega)
   rw [<- this]
   congr 2
   omega
  go_loopw [5,7] (fun b i wr=>∃ k:Nat,k<=156/\i=.int .i64 k/\RNI a W d (d+1) k b wr) (fun _ i _=>156 - (intOf i).toNat)
  case atStart=>exact ⟨0,Nat.zero_le _,rfl,cj.o⟩
  obtain ⟨k,hk,rfl,hI⟩:=hrel
  obtain rfl:=hI.bs
  by_cases ac:k < 156
  ·have cw:(k:Int) < 156:=by omega
   have H:=aA hI
   clear hI
   obtain ⟨y,hy⟩:∃ y,y=k / 13:=⟨_,rfl⟩
   obtain ⟨x,hx⟩:∃ x,x=k % 13:=⟨_,rfl⟩
   have es:(k:Int).tdiv 13=(y:Int):=by rw [hy,Int.tdiv_eq_ediv_of_nonneg (by omega)];omega
   have eq:(k:Int).tmod 13=(x:Int):=by rw [hx,Int.tmod_eq_emod_of_nonneg (by omega)];omega
   have dc:y < 12:=by omega
   have HY:=aA hy
   have HX:=aA hx
   by_cases bp:x=12
   ·have ds:=dg.o k y ac hy (by omega)
    have dr:=xO a y
    subst bp
    clear hy hx
    by_cases bc:gJ a y=10
    ·rw [bc] at ds
     have dh:=aA bc
     clear bc dr
     go_wp2_with fail
     go_roundw
     case rel =>
      refine ⟨k+1,ac,by go_num,?_⟩
      have e:=ES k HX.o.symm
      obtain ⟨q1,q2,q3,q4,q5,q6,q7,q8⟩:=H.o
      refine ⟨by rw [e];exact q1,by rw [e];exact q2,by rw [e];exact q3,by rw [e];exact q4,by rw [e];exact q5,fun j hj=>?_,by rw [e],q8⟩
      by_cases ej:j*13+12 < k
      ·exact q6 j ej
      have h1:=HY.o
      have h2:=HX.o
      have:j=y:=by omega
      rw [this];exact dh.o
     case measure=>simp [intOf];omega
    have v:Hi (¬ OK):=by
     show ¬ OK
     rw [aj.o]
     intro h
     exact bc (h.2.1 y dc)
    have bd:¬ ((gJ a y:Nat):Int)=10:=by omega
    clear bc
    have ae:=H.o.fr
    go_wp2_with fail
    go_ret2
    exact ⟨.inr ⟨v.o,rfl⟩,ak.trans ae (by simp;omega)⟩
   have ef:x < 12:=by omega
   have er:¬ (x:Int)=12:=by omega
   have bi:=di.o k y x ac hy hx ef
   have R:=AE a (y*12+x)
   clear hy hx bp
   have aq:k % 13 < 12:=by have:=HX.o;omega
   obtain ⟨n,hn⟩:∃ n,bV k=n:=⟨_,rfl⟩
   have bd:y*12+x=n:=by have h1:=(uL k aq).1;have h2:=HY.o;have h3:=HX.o;omega
   have O:n < 144:=by omega
   have cr:(n % 12:Nat)=x/\(n / 12:Nat)=y:=by omega
   have ar:=aA cr
   rw [bd] at bi R
   have HN:=aA hn
   have ck:=aA bd
   obtain ⟨pv,aa,hown⟩:=H.o.ex
   rw [hn] at aa hown
   have dl:=aa.cell (1+n) (by omega)
   have dm:=aa.fz (1+n)
   rw [<- bd,show 1+(y*12+x)=1+y*12+x by omega] at dl dm
   have Zr:=aA aa
   have ax:=aA hown
   clear cr hn bd aa hown
   rcases RV (dL a n) R with ⟨hs,I⟩|⟨hs,I⟩|⟨cy,cz,I⟩|⟨hs,I⟩|⟨hs,I⟩|⟨cy,cz,bh,dv,dw,I⟩
   ·have X:Hi (kn a n=true):=by show kn a n=true;unfold kn;rw [I]
    have l:Hi (ow a n = -1):=by show ow a n = -1;unfold ow;rw [I]
    have V:Hi (gr a n=0):=by show gr a n=0;unfold gr;rw [I]
    rw [hs] at bi
    clear hs I R
    go_wp2_with fail
    go_roundw
    case rel=>exact ⟨k+1,ac,by go_num,H.o.ground (by omega) aq n HN.o X.o (by rw [l.o];decide) (by rw [l.o];decide) (fun pv h=>by rw [nN a n V.o];exact h) (r0 _ _)⟩
    case measure=>simp [intOf];omega
   ·have X:Hi (kn a n=true):=by show kn a n=true;unfold kn;rw [I]
    have l:Hi (ow a n = -1):=by show ow a n = -1;unfold ow;rw [I]
    have V:Hi (gr a n=10):=by show gr a n=10;unfold gr;rw [I]
    rw [hs] at bi
    clear hs I R
    go_wp2_with fail
    go_roundw
    case rel =>
     refine ⟨k+1,ac,by go_num,H.o.ground (by omega) aq n HN.o X.o (by rw [l.o];decide) (by rw [l.o];decide) (fun pv h=>?_) ((r0 _ _).setCell _ _ (by simp))⟩
     have:=h.setB O
     rw [V.o,show 1+n=1+y*12+x by have:=ck.o;omega] at this
     exact this
    case measure=>simp [intOf];omega
   ·have X:Hi (kn a n=true):=by show kn a n=true;unfold kn;rw [I]
    have l:Hi (ow a n = -1):=by show ow a n = -1;unfold ow;rw [I]
    have V:Hi (gr a n=(dL a n:Int) - 48):=by show gr a n=_;unfold gr;rw [I]
    have dz:¬ (dL a n:Int)=46:=by omega
    have ea:¬ (dL a n:Int)=35:=by omega
    have eb:(49:Int)<=(dL a n:Int):=by omega
    have ec:(dL a n:Int)<=57:=by omega
    clear I R
    go_wp2_with fail
    go_roundw
    case rel =>
     refine ⟨k+1,ac,by go_num,H.o.ground (by omega) aq n HN.o X.o (by rw [l.o];decide) (by rw [l.o];decide) (fun pv h=>?_) ((r0 _ _).setCell _ _ (by simp))⟩
     have:=h.setB O
     rw [V.o,show 1+n=1+y*12+x by have:=ck.o;omega] at this
     exact this
    case measure=>simp [intOf];omega
   ·have X:Hi (kn a n=true):=by show kn a n=true;unfold kn;rw [I]
    have l:Hi (ow a n=0):=by show ow a n=0;unfold ow;rw [I]
    have V:Hi (gr a n=0):=by show gr a n=0;unfold gr;rw [I]
    have m:=H.o.seen
    have J:=H.o.c0
    have K:=H.o.c1
    rw [HN.o] at m J K
    have bb:=(iG a 0 n).1
    rw [hs] at bi
    have ab:=aA m
    clear hs I R
    by_cases hc:aJ a 0 n=1
    ·have bz:wr.cell? ⟨d+1,0,none⟩=some (.bool true):=by rw [aB m];simp [hc]
     have v:Hi (¬ OK):=by
      show ¬ OK
      rw [aj.o]
      exact xP a n O (.inl ⟨l.o,hc⟩)
     have ae:=H.o.fr
     clear m hc J K bb
     go_wp2_with fail
     go_ret2
     exact ⟨.inr ⟨v.o,rfl⟩,ak.trans ae (by simp;omega)⟩
    have bz:wr.cell? ⟨d+1,0,none⟩=some (.bool false):=by rw [aB m];simp [hc]
    have dx:wr.frozen? ⟨d+1,0,none⟩=false:=bI m
    have N:Hi (aJ a 0 n=0):=by show aJ a 0 n=0;omega
    have bj:Hi (aJ a 1 n<=1):=K
    have dn:0<=aJ a 0 (bV k)+aJ a 1 (bV k)/\aJ a 0 (bV k)+aJ a 1 (bV k)<=2:=by
     have h0:=(iG a 0 (bV k)).1
     have h1:=(iG a 1 (bV k)).1
     have h2:=H.o.c0
     have h3:=H.o.c1
     omega
    clear m hc J K bb
    rcases KX a n N.o with Y|Y
    ·obtain ⟨F,E⟩:∃ F:List U,F=[]:=⟨_,rfl⟩
     have aw:Hi (dW a n=[]):=Y
     have df:=aA E
     have Zq:Hi (wr.ownsRow W.heap.size 85 11 pv F.length (F.flatMap U.cells)):=by
      show World.ownsRow _ _ _ _ _ _ _
      rw [E,<- Y];exact ax.o
     have Zs:F.length<=2:=by rw [E];simp
     have bq:F.length=0:=by rw [E];rfl
     obtain ⟨eg,eh,bf⟩:=fF Zq.o
     rw [bq] at bf
     have Q:wr.cell? ⟨d,148,none⟩=some (.slice eg 0 eh):=by rw [<- bf];exact Zr.o.cell 148 (by omega)
     have dp:d < wr.heap.size:=aI Q
     clear E Y bq bf
     go_wp2_with (go_at_call 93;refine (mU _ _).mono ?_;rintro e w1 ⟨rfl,rfl⟩;rw [show cT 1=40 from rfl])
     obtain ⟨W1,B⟩:∃ W,W=wr.setCell ⟨d+1,0,none⟩ (.bool true):=⟨_,rfl⟩
     obtain ⟨c,C⟩:∃ W,W=W1.alloc (.cells #[.int .i64 1,.int .i64 0,.int .i64 1,.int .i64 x,.int .i64 y,.int .i64 40,.int .i64 0,.int .i64 0,.int .i64 0,.int .i64 0,.int .i64 0] 85):=⟨_,rfl⟩
     rw [<- B,<- C]
     clear Q
     have A:Fr [d+1] wr c:=by rw [C,B];exact ((r0 _ _).setCell _ _ (by simp)).alloc _
     have f:c.heap[wr.heap.size]?=some (.cells (aS 1 0 1 x y 40).arr 85):=by rw [C];exact jF _ _ _ (by rw [B];simp)
     have s:RN c d (eR a n) pv:=Zr.o.fr A (by simp)
     have z:c.ownsRow W.heap.size 85 11 pv F.length (F.flatMap U.cells):=aF Zq.o A (fun b hb=>by have:=(Zq.o.lt b hb).1;simp;omega)
     have t:c.heap[d+1]?=some (.cells #[.bool true,.bool (decide (aJ a 1 n=1))] 184):=by
      rw [C]
      refine ((r0 [] _).alloc _).heap0 ?_
      rw [B]
      exact bS ab.o 0 _
     have D:Fr [d,d+1] W c:=H.o.fr.trans A (by simp)
     clear B C
     have e0:ca c wr.heap.size 0 (ii 1):=aB f
     have e1:ca c wr.heap.size 1 (ii 0):=aB f
     have e2:ca c wr.heap.size 2 (ii 1):=aB f
     have e3:ca c wr.heap.size 3 (ii x):=aB f
     have e4:ca c wr.heap.size 4 (ii y):=aB f
     have e5:ca c wr.heap.size 5 (ii 40):=aB f
     have e6:ca c wr.heap.size 6 (ii 0):=aB f
     have e7:ca c wr.heap.size 7 (ii 0):=aB f
     have e8:ca c wr.heap.size 8 (ii 0):=aB f
     have e9:ca c wr.heap.size 9 (ii 0):=aB f
     have cq:ca c wr.heap.size 10 (ii 0):=aB f
     have bl:ca c d 148 pv:=s.cell 148 (by omega)
     have bm:c.frozen? ⟨d,148,none⟩=false:=s.fz 148
     have au:d < c.heap.size:=s.lt
     obtain ⟨cg,bx,cc,cd,cf⟩:=info_parts iT
     have al:Fr [] c (c.drew.alloc (.cells (aS 1 0 1 x y 40).arr 85)):=((r0 _ _).drew).alloc _
     have HO:Hi ((c.drew.alloc (.cells (aS 1 0 1 x y 40).arr 85)).ownsRow W.heap.size 85 11 pv F.length (F.flatMap U.cells)):=aF z al (by simp)
     have HS:Hi (∀ (j:Nat) (u:Value),(aS 1 0 1 x y 40).cells[j]?=some u->(c.drew.alloc (.cells (aS 1 0 1 x y 40).arr 85)).cell? ((⟨c.heap.size,0,none⟩:Addr).add j)=some u):=by
      intro j u hu
      rw [Addr.add_lit,Nat.zero_add,aB (show (c.drew.alloc (.cells (aS 1 0 1 x y 40).arr 85)).heap[c.heap.size]?=_ from aC c.drew _)]
      simpa using hu
     have v:Hi (d∉pv.ownBlock.toList):=fun e=>by have:=(z.lt d (by simpa using e)).1;omega
     have af:=aA s
     have ai:=aA al
     have br:Hi (∀ b∈pv.ownBlock.toList,W.heap.size<=b):=fun b hb=>(z.lt b (by simpa using hb)).1
     have ay:=aA t
     have av:=aA D
     have cs:W.heap.size<=c.heap.size:=D.size
     clear f s z t D al
     have ad:Hi (∀ wx,(∃ v',RN wx d (eR a n) v'/\wx.ownsRow W.heap.size 85 11 v' (F.length+1) (F.flatMap U.cells ++ (aS 1 0 1 x y 40).cells)/\wx.heap[d+1]?=some (.cells #[.bool true,.bool (decide (aJ a 1 n=1))] 184)/\Fr [d,d+1] W wx)->RNI a W d (d+1) (k+1) (.int .i64 (aJ a 0 (bV k)+aJ a 1 (bV k)+1)) wx):=by
      rintro wx ⟨v',bg,r,ah,ag⟩
      refine H.o.next aq n HN.o X.o ?_ ?_ ⟨v',by rw [nN a n V.o];exact bg,?_⟩ ?_ ?_ ag
      ·rw [gO a 0 n l.o,N.o];decide
      ·rw [fB a 1 n (by rw [l.o];decide)];exact bj.o
      ·rw [wS a n l.o N.o,aw.o,ar.o.1,ar.o.2]
       have:=r
       rw [df.o] at this
       exact this
      ·rw [gO a 0 n l.o,N.o,fB a 1 n (by rw [l.o];decide)]
       exact ah
      rw [gO a 0 n l.o,fB a 1 n (by rw [l.o];decide)]
      congr 1
      have:=HN.o
      rw [this]
      omega
     go_region_law (refine sF rfl (.tmp 116) (.tmp 118) 82 rfl W.heap.size 85 cg zeroU.val 11 88 Tryz.underlying82 bx cc cd cf rfl (by decide) pv F.length (F.flatMap U.cells) (by simp [Act.eval]) HO.o ⟨c.heap.size,0,none⟩ 1 1 (aS 1 0 1 x y 40).cells (by simp [Act.eval]) rfl HS.o (by simp [Value.oneCell']) (by unfold maxLen;omega) (by omega) (by simp;omega) ?_;intro v' w2 r ao dk;obtain ⟨g',cp,rfl⟩:=bK r (by omega);have an:=Fr.grow (S:=pv.ownBlock.toList) (r0 _ _) ao (fun g hg=>.inl (by simp [hg]));have dy:w2.cell? ⟨d,148,none⟩=some pv:=(an.cell d 148 (by simp;omega) v.o).trans ((ai.o.cell d 148 au (by simp)).trans bl);have dd:w2.frozen? ⟨d,148,none⟩=false:=(an.frozen d 148 (by simp;omega) v.o).trans ((ai.o.frozen d 148 au (by simp)).trans bm))
     all_goals
      go_wp2_with fail
      go_roundw
      case rel =>
       refine ⟨k+1,ac,by go_num,ad.o _ ?_⟩
       have am:Fr pv.ownBlock.toList c w2:=ai.o.of0.trans an (fun b hb=>.inl hb)
       have be:=br.o
       have Zt:W.heap.size<=g':=by have:=(r.lt g' rfl).1;omega
       refine ⟨_,(af.o.fr am v.o).setL _,aF r ((r0 [d] w2).setCell _ _ (by simp)) (fun b hb=>?_),?_,?_⟩
       ·simp [Value.ownBlock] at hb
        subst hb
        simp
        omega
       ·rw [Below.heap_setCell _ _ _ _ (by simp)]
        exact am.heap ay.o (fun e=>by have:=be _ e;omega)
       exact (av.o.trans am (fun b hb=>.inr (be b hb))).setCell _ _ (by simp)
      case measure=>simp [intOf];omega
    have P:wr.ownsRow W.heap.size 85 11 pv 1 (bB a n).cells:=by
     have:=(show wr.ownsRow W.heap.size 85 11 pv (dW a n).length ((dW a n).flatMap U.cells) from ax.o)
     rw [Y] at this
     exact this
    obtain ⟨pb,pc,rfl⟩:=bK P (by omega)
    have aw:=aA Y
    obtain ⟨q,hq⟩:∃ q,q=bB a n:=⟨_,rfl⟩
    rw [<- hq] at P
    have ct:=P.cells (g:=pb) rfl
    have L:∀ j u,q.cells[j]?=some u->wr.cell? ⟨pb,j,none⟩=some u:=fun j u hu=>by
     have:=ct j u hu
     rwa [Addr.add_lit,Nat.zero_add] at this
    have dt:=(P.lt pb rfl)
    have c0:=L 0 _ rfl
    have c1:=L 1 _ rfl
    have c2:=L 2 _ rfl
    have c3:=L 3 _ rfl
    have c4:=L 4 _ rfl
    have c5:=L 5 _ rfl
    have c6:=L 6 _ rfl
    have c7:=L 7 _ rfl
    have c8:=L 8 _ rfl
    have c9:=L 9 _ rfl
    have co:=L 10 _ rfl
    have Q:ca wr d 148 (.slice (so pb) 1 pc):=Zr.o.cell 148 (by omega)
    have ce:wr.frozen? ⟨d,148,none⟩=false:=Zr.o.fz 148
    have dp:d < wr.heap.size:=aI Q
    have ei:pb≠d:=by omega
    have ek:pb≠d+1:=by omega
    have HQ:=aA hq
    clear Y hq P ct L
    go_wp2_with (go_at_call 93;refine (mU _ _).mono ?_;rintro e w1 ⟨rfl,rfl⟩;rw [show cT 1=40 from rfl])
    obtain ⟨W1,B⟩:∃ W,W=wr.setCell ⟨d+1,0,none⟩ (.bool true):=⟨_,rfl⟩
    obtain ⟨c,C⟩:∃ W,W=W1.alloc (.cells #[.int .i64 1,.int .i64 0,.int .i64 1,.int .i64 x,.int .i64 y,.int .i64 40,.int .i64 0,.int .i64 0,.int .i64 0,.int .i64 0,.int .i64 0] 85):=⟨_,rfl⟩
    rw [<- B,<- C]
    have A:Fr [d+1] wr c:=by rw [C,B];exact ((r0 _ _).setCell _ _ (by simp)).alloc _
    have f:c.heap[wr.heap.size]?=some (.cells (aS 1 0 1 x y 40).arr 85):=by rw [C];exact jF _ _ _ (by rw [B];simp)
    have s:RN c d (eR a n) (.slice (so pb) 1 pc):=Zr.o.fr A (by simp)
    have t:c.heap[d+1]?=some (.cells #[.bool true,.bool (decide (aJ a 1 n=1))] 184):=by
     rw [C]
     refine ((r0 [] _).alloc _).heap0 ?_
     rw [B]
     exact bS ab.o 0 _
    have D:Fr [d,d+1] W c:=H.o.fr.trans A (by simp)
    have M:∀ j u,wr.cell? ⟨pb,j,none⟩=some u->c.cell? ⟨pb,j,none⟩=some u:=fun j u hu=>(A.cell pb j dt.2 (by simp;omega)).trans hu
    clear B C
    have e0:ca c wr.heap.size 0 (ii 1):=aB f
    have e1:ca c wr.heap.size 1 (ii 0):=aB f
    have e2:ca c wr.heap.size 2 (ii 1):=aB f
    have e3:ca c wr.heap.size 3 (ii x):=aB f
    have e4:ca c wr.heap.size 4 (ii y):=aB f
    have e5:ca c wr.heap.size 5 (ii 40):=aB f
    have e6:ca c wr.heap.size 6 (ii 0):=aB f
    have e7:ca c wr.heap.size 7 (ii 0):=aB f
    have e8:ca c wr.heap.size 8 (ii 0):=aB f
    have e9:ca c wr.heap.size 9 (ii 0):=aB f
    have cq:ca c wr.heap.size 10 (ii 0):=aB f
    have d0:=M _ _ c0
    have d1:=M _ _ c1
    have d2:=M _ _ c2
    have d3:=M _ _ c3
    have d4:=M _ _ c4
    have d5:=M _ _ c5
    have d6:=M _ _ c6
    have d7:=M _ _ c7
    have d8:=M _ _ c8
    have d9:=M _ _ c9
    have el:=M _ _ co
    have bl:ca c d 148 (.slice (so pb) 1 pc):=s.cell 148 (by omega)
    have bm:c.frozen? ⟨d,148,none⟩=false:=s.fz 148
    have au:d < c.heap.size:=s.lt
    have af:=aA s
    have ay:=aA t
    have av:=aA D
    have cs:W.heap.size<=c.heap.size:=D.size
    clear f s t D M c0 c1 c2 c3 c4 c5 c6 c7 c8 c9 co Q ce A
    have ad:Hi (∀ wx,(∃ v',RN wx d (eR a n) v'/\wx.ownsRow W.heap.size 85 11 v' 2 ((aS 1 0 1 x y 40).cells ++ q.cells)/\wx.heap[d+1]?=some (.cells #[.bool true,.bool (decide (aJ a 1 n=1))] 184)/\Fr [d,d+1] W wx)->RNI a W d (d+1) (k+1) (.int .i64 (aJ a 0 (bV k)+aJ a 1 (bV k)+1)) wx):=by
     rintro wx ⟨v',bg,r,ah,ag⟩
     refine H.o.next aq n HN.o X.o ?_ ?_ ⟨v',by rw [nN a n V.o];exact bg,?_⟩ ?_ ?_ ag
     ·rw [gO a 0 n l.o,N.o];decide
     ·rw [fB a 1 n (by rw [l.o];decide)];exact bj.o
     ·rw [wS a n l.o N.o,aw.o,ar.o.1,ar.o.2,<- HQ.o]
      have:=r
      simpa only [flatMap_cons,flatMap_nil,append_nil,length_cons,length_nil,Nat.zero_add] using this
     ·rw [gO a 0 n l.o,N.o,fB a 1 n (by rw [l.o];decide)]
      exact ah
     rw [gO a 0 n l.o,fB a 1 n (by rw [l.o];decide)]
     congr 1
     have:=HN.o
     rw [this]
     omega
    go_region
    all_goals
     go_wp2_with fail
     go_roundw
     case rel =>
      refine ⟨k+1,ac,by go_num,ad.o _ ?_⟩
      have em:(Obj.cells #[ii 1,ii 0,ii 1,ii x,ii y,ii 40,ii 0,ii 0,ii 0,ii 0,ii 0,ii q.id,ii q.owner,ii q.kind,ii q.x,ii q.y,ii q.life,ii q.load,ii q.what,ii q.tox,ii q.toy,ii q.target] 85)=.cells ((aS 1 0 1 x y 40).cells ++ q.cells).toArray 85:=rfl
      obtain ⟨W3,bk⟩:∃ W,W=c.setCell ⟨d,148,none⟩ (.slice (so c.heap.size) 2 2):=⟨_,rfl⟩
      have bh:W3.heap.size=c.heap.size:=by rw [bk];simp [World.setCell]
      rw [<- bk]
      have du:RN W3 d (eR a n) (.slice (so c.heap.size) 2 2):=by rw [bk];exact af.o.setL _
      have bn:Fr [d] c W3:=by rw [bk];exact (r0 _ _).setCell _ _ (by simp)
      have ba:∀ o,Fr [] W3 (W3.alloc o).drew:=fun o=>((r0 _ _).alloc _).drew
      refine ⟨_,du.fr (ba _) (by simp),⟨rfl,.inr ⟨c.heap.size,2,((aS 1 0 1 x y 40).cells ++ q.cells).toArray,rfl,by omega,by rw [<- bh];exact aC W3 _,by omega,by unfold maxLen;omega,rfl,rfl⟩⟩,?_,?_⟩
      ·exact (ba _).heap0 (bn.heap ay.o (by simp))
      exact (av.o.trans bn (by simp)).then0 (ba _)
     case measure=>simp [intOf];omega
   ·have X:Hi (kn a n=true):=by show kn a n=true;unfold kn;rw [I]
    have l:Hi (ow a n=1):=by show ow a n=1;unfold ow;rw [I]
    have V:Hi (gr a n=0):=by show gr a n=0;unfold gr;rw [I]
    have m:=H.o.seen
    have J:=H.o.c0
    have K:=H.o.c1
    rw [HN.o] at m J K
    have bb:=(iG a 1 n).1
    rw [hs] at bi
    have ab:=aA m
    clear hs I R
    by_cases hc:aJ a 1 n=1
    ·have bz:wr.cell? ⟨d+1,1,none⟩=some (.bool true):=by rw [aB m];simp [hc]
     have v:Hi (¬ OK):=by
      show ¬ OK
      rw [aj.o]
      exact xP a n O (.inr ⟨l.o,hc⟩)
     have ae:=H.o.fr
     clear m hc J K bb
     go_wp2_with fail
     go_ret2
     exact ⟨.inr ⟨v.o,rfl⟩,ak.trans ae (by simp;omega)⟩
    have bz:wr.cell? ⟨d+1,1,none⟩=some (.bool false):=by rw [aB m];simp [hc]
    have dx:wr.frozen? ⟨d+1,1,none⟩=false:=bI m
    have N:Hi (aJ a 1 n=0):=by show aJ a 1 n=0;omega
    have bj:Hi (aJ a 0 n<=1):=J
    have dn:0<=aJ a 0 (bV k)+aJ a 1 (bV k)/\aJ a 0 (bV k)+aJ a 1 (bV k)<=2:=by
     have h0:=(iG a 0 (bV k)).1
     have h1:=(iG a 1 (bV k)).1
     have h2:=H.o.c0
     have h3:=H.o.c1
     omega
    clear m hc J K bb
    obtain ⟨F,E⟩:∃ F,F=dW a n:=⟨_,rfl⟩
    have Zs:F.length<=2:=by rw [E];exact LA a n
    have aw:=aA E
    have Zq:Hi (wr.ownsRow W.heap.size 85 11 pv F.length (F.flatMap U.cells)):=by
     show World.ownsRow _ _ _ _ _ _ _
     rw [E];exact ax.o
    clear E
    go_wp2_with (go_at_call 93;refine (mU _ _).mono ?_;rintro e w1 ⟨rfl,rfl⟩;rw [show cT 1=40 from rfl])
    obtain ⟨W1,B⟩:∃ W,W=wr.setCell ⟨d+1,1,none⟩ (.bool true):=⟨_,rfl⟩
    obtain ⟨c,C⟩:∃ W,W=W1.alloc (.cells #[.int .i64 2,.int .i64 1,.int .i64 1,.int .i64 x,.int .i64 y,.int .i64 40,.int .i64 0,.int .i64 0,.int .i64 0,.int .i64 0,.int .i64 0] 85):=⟨_,rfl⟩
    rw [<- B,<- C]
    have A:Fr [d+1] wr c:=by rw [C,B];exact ((r0 _ _).setCell _ _ (by simp)).alloc _
    have f:c.heap[wr.heap.size]?=some (.cells (aS 2 1 1 x y 40).arr 85):=by rw [C];exact jF _ _ _ (by rw [B];simp)
    have s:RN c d (eR a n) pv:=Zr.o.fr A (by simp)
    have z:c.ownsRow W.heap.size 85 11 pv F.length (F.flatMap U.cells):=aF Zq.o A (fun b hb=>by have:=(Zq.o.lt b hb).1;simp;omega)
    have t:c.heap[d+1]?=some (.cells #[.bool (decide (aJ a 0 n=1)),.bool true] 184):=by
     rw [C]
     refine ((r0 [] _).alloc _).heap0 ?_
     rw [B]
     exact bS ab.o 1 _
    have D:Fr [d,d+1] W c:=H.o.fr.trans A (by simp)
    clear B C
    have e0:ca c wr.heap.size 0 (ii 2):=aB f
    have e1:ca c wr.heap.size 1 (ii 1):=aB f
    have e2:ca c wr.heap.size 2 (ii 1):=aB f
    have e3:ca c wr.heap.size 3 (ii x):=aB f
    have e4:ca c wr.heap.size 4 (ii y):=aB f
    have e5:ca c wr.heap.size 5 (ii 40):=aB f
    have e6:ca c wr.heap.size 6 (ii 0):=aB f
    have e7:ca c wr.heap.size 7 (ii 0):=aB f
    have e8:ca c wr.heap.size 8 (ii 0):=aB f
    have e9:ca c wr.heap.size 9 (ii 0):=aB f
    have cq:ca c wr.heap.size 10 (ii 0):=aB f
    have bl:ca c d 148 pv:=s.cell 148 (by omega)
    have bm:c.frozen? ⟨d,148,none⟩=false:=s.fz 148
    have au:d < c.heap.size:=s.lt
    obtain ⟨cg,bx,cc,cd,cf⟩:=info_parts iT
    have al:Fr [] c (c.drew.alloc (.cells (aS 2 1 1 x y 40).arr 85)):=((r0 _ _).drew).alloc _
    have HO:Hi ((c.drew.alloc (.cells (aS 2 1 1 x y 40).arr 85)).ownsRow W.heap.size 85 11 pv F.length (F.flatMap U.cells)):=aF z al (by simp)
    have HS:Hi (∀ (j:Nat) (u:Value),(aS 2 1 1 x y 40).cells[j]?=some u->(c.drew.alloc (.cells (aS 2 1 1 x y 40).arr 85)).cell? ((⟨c.heap.size,0,none⟩:Addr).add j)=some u):=by
     intro j u hu
     rw [Addr.add_lit,Nat.zero_add,aB (show (c.drew.alloc (.cells (aS 2 1 1 x y 40).arr 85)).heap[c.heap.size]?=_ from aC c.drew _)]
     simpa using hu
    have v:Hi (d∉pv.ownBlock.toList):=fun e=>by have:=(z.lt d (by simpa using e)).1;omega
    have af:=aA s
    have ai:=aA al
    have br:Hi (∀ b∈pv.ownBlock.toList,W.heap.size<=b):=fun b hb=>(z.lt b (by simpa using hb)).1
    have ay:=aA t
    have av:=aA D
    have cs:W.heap.size<=c.heap.size:=D.size
    clear f s z t D al
    have ad:Hi (∀ wx,(∃ v',RN wx d (eR a n) v'/\wx.ownsRow W.heap.size 85 11 v' (F.length+1) (F.flatMap U.cells ++ (aS 2 1 1 x y 40).cells)/\wx.heap[d+1]?=some (.cells #[.bool (decide (aJ a 0 n=1)),.bool true] 184)/\Fr [d,d+1] W wx)->RNI a W d (d+1) (k+1) (.int .i64 (aJ a 0 (bV k)+aJ a 1 (bV k)+1)) wx):=by
     rintro wx ⟨v',bg,r,ah,ag⟩
     refine H.o.next aq n HN.o X.o ?_ ?_ ⟨v',by rw [nN a n V.o];exact bg,?_⟩ ?_ ?_ ag
     ·rw [fB a 0 n (by rw [l.o];decide)];exact bj.o
     ·rw [gO a 1 n l.o,N.o];decide
     ·rw [KW a n l.o N.o,ar.o.1,ar.o.2,length_append,flatMap_append,<- aw.o]
      have:=r
      simpa using this
     ·rw [gO a 1 n l.o,N.o,fB a 0 n (by rw [l.o];decide)]
      exact ah
     rw [gO a 1 n l.o,fB a 0 n (by rw [l.o];decide)]
     congr 1
     have:=HN.o
     rw [this]
     omega
    go_region_law (refine sF rfl (.tmp 116) (.tmp 118) 82 rfl W.heap.size 85 cg zeroU.val 11 88 Tryz.underlying82 bx cc cd cf rfl (by decide) pv F.length (F.flatMap U.cells) (by simp [Act.eval]) HO.o ⟨c.heap.size,0,none⟩ 1 1 (aS 2 1 1 x y 40).cells (by simp [Act.eval]) rfl HS.o (by simp [Value.oneCell']) (by unfold maxLen;omega) (by omega) (by simp;omega) ?_;intro v' w2 r ao dk;obtain ⟨g',cp,rfl⟩:=bK r (by omega);have an:=Fr.grow (S:=pv.ownBlock.toList) (r0 _ _) ao (fun g hg=>.inl (by simp [hg]));have dy:w2.cell? ⟨d,148,none⟩=some pv:=(an.cell d 148 (by simp;omega) v.o).trans ((ai.o.cell d 148 au (by simp)).trans bl);have dd:w2.frozen? ⟨d,148,none⟩=false:=(an.frozen d 148 (by simp;omega) v.o).trans ((ai.o.frozen d 148 au (by simp)).trans bm))
    all_goals
     go_wp2_with fail
     go_roundw
     case rel =>
      refine ⟨k+1,ac,by go_num,ad.o _ ?_⟩
      have am:Fr pv.ownBlock.toList c w2:=ai.o.of0.trans an (fun b hb=>.inl hb)
      have be:=br.o
      have Zt:W.heap.size<=g':=by have:=(r.lt g' rfl).1;omega
      refine ⟨_,(af.o.fr am v.o).setL _,aF r ((r0 [d] w2).setCell _ _ (by simp)) (fun b hb=>?_),?_,?_⟩
      ·simp [Value.ownBlock] at hb
       subst hb
       simp
       omega
      ·rw [Below.heap_setCell _ _ _ _ (by simp)]
       exact am.heap ay.o (fun e=>by have:=be _ e;omega)
      exact (av.o.trans am (fun b hb=>.inr (be b hb))).setCell _ _ (by simp)
     case measure=>simp [intOf];omega
   have v:Hi (¬ OK):=by
    show ¬ OK
    rw [aj.o]
    intro h
    have:=h.2.2.1 n O
    unfold kn at this
    rw [I] at this
    cases this
   have dz:¬ (dL a n:Int)=46:=by omega
   have ea:¬ (dL a n:Int)=35:=by omega
   have eb:((dL a n:Int)==65)=false:=by simp;omega
   have ec:((dL a n:Int)==66)=false:=by simp;omega
   have ae:=H.o.fr
   clear I cy cz dv dw
   rcases bh with bh|bh
   ·have ed:¬ (49:Int)<=(dL a n:Int):=by omega
    go_wp2_with fail
    go_ret2
    exact ⟨.inr ⟨v.o,rfl⟩,ak.trans ae (by simp;omega)⟩
   have ed:(49:Int)<=(dL a n:Int):=by omega
   have ep:¬ (dL a n:Int)<=57:=by omega
   go_wp2_with fail
   go_ret2
   exact ⟨.inr ⟨v.o,rfl⟩,ak.trans ae (by simp;omega)⟩
  have ap:k=156:=by omega
  have cw:¬ (k:Int) < 156:=by omega
  have H:=aA hI
  have HK:=aA ap
  obtain ⟨⟨pv,aa,hown⟩,q2,q3,q4,q5,q6,_,q8⟩:=H.o
  have hc:bV k=144:=by rw [ap];rfl
  rw [hc] at aa hown q3 q4 q5 |-
  clear hI ap
  have n0:=(iG a 0 144).1
  have n1:=(iG a 1 144).1
  by_cases en:aJ a 0 144+aJ a 1 144=2
  ·have cn:Hi OK:=by
    show OK
    rw [aj.o]
    exact ⟨cb,fun y hy=>q6 y (by rw [HK.o];omega),q5,by omega,by omega⟩
   have Y:=KY a (by omega) (by omega)
   rw [Y] at hown
   obtain ⟨pb,bt,cx,eo,bo⟩:=PRow.of_owns (us:=(bP a).us) hown rfl (by show 0 < 2;omega)
   have cm:Hi (RG wr d pb bt (bP a)):=by
    refine RN.rg ?_ bo (by omega)
    have:pv=.slice (so pb) 2 bt:=cx
    rw [<- this];exact aa
   clear aa hown Y cx bo
   go_wp2_with fail
   go_ret2
   exact ⟨.inl ⟨cn.o,d,pb,bt,rfl,cm.o,dq,by omega⟩,ak.trans q8 (by simp;omega)⟩
  have v:Hi (¬ OK):=by
   show ¬ OK
   rw [aj.o]
   intro h
   have:=h.2.2.2.1
   have:=h.2.2.2.2
   omega
  clear aa hown
  go_wp2_with fail
  go_ret2
  exact ⟨.inr ⟨v.o,rfl⟩,ak.trans q8 (by simp;omega)⟩
 have v:Hi (¬ OK):=by
  show ¬ OK
  rw [aj.o]
  intro h
  exact cb h.1
 have db:¬ (a.size:Int)=156:=by omega
 clear cb
 go_enter Tryz.func51,Tryz.ntmps51
 go_wp2_with fail
 go_ret2
 exact ⟨.inr ⟨v.o,rfl⟩,r0 _ _⟩
theorem oJ (e:Int)(w:World):Cs 52 #[.int .i64 e] w fun r a=>r=.returned (.int .i64 e)/\w=a:=by
 go_enter Tryz.func52,Tryz.ntmps52
 go_wp2_with fail
 go_ret
 exact ⟨rfl,rfl⟩
def rD:ByteArray:=⟨#[65,46,46,46,53,46,46,46,46,46,46,46,10,46,46,46,46,46,46,46,46,46,46,46,46,10,46,46,46,46,46,46,46,46,46,46,46,46,10,46,46,46,46,46,46,46,46,46,46,46,46,10,46,46,46,46,35,35,35,35,46,46,46,46,10,46,46,46,46,46,46,46,46,46,46,46,46,10,46,46,46,46,46,46,46,46,46,46,46,46,10,46,46,46,46,46,46,46,46,46,46,46,46,10,46,46,46,46,46,46,46,46,46,46,46,46,10,46,46,46,46,46,46,46,46,46,46,46,46,10,46,46,46,46,46,46,46,46,46,46,46,46,10,46,46,46,57,46,46,46,46,46,46,46,66,10]⟩
theorem KG:dS rD:=⟨by kernel_rfl,of_decide_eq_true (by kernel_rfl),of_decide_eq_true (by kernel_rfl),by kernel_rfl,by kernel_rfl⟩
theorem wN (w:World):Cs 25 #[] w fun e a=>e=.returned (.string rD)/\Fr [] w a:=by
 go_enter Tryz.func25,Tryz.ntmps25
 go_wp2_with fail
 go_ret
 exact ⟨by kernel_rfl,r0 _ _⟩
