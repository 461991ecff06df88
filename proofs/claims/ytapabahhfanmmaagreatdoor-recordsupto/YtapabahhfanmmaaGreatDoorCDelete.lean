import Derived.Test.YtapabahhfanmmaaGreatDoorCStepA
import Derived.Laws.CopyOwn
import Derived.Deep.RegionLaw
import Derived.Lib.SliceRun
namespace Go.Proofs.YtapabahhfanmmaaGreatDoor
open Go.RowKit List
set_option maxRecDepth 100000
set_option maxHeartbeats 1000000
structure T where
 turn:Int
 next:Int
 s0:Int
 s1:Int
 bd:Nat->Int
 us:List U
 held:Cl->Option Int
abbrev bG (h:Cl->Option Int):Int×Int->Option Value:=fun k=>(h k).map fun i=>ii i
def aN (t:T)(pv:Value)(hb a:Nat)(k:Nat):Value :=
  if k=0 then ii t.turn else if k=1 then ii t.next else if k=2 then ii t.s0 else if k=3 then ii t.s1 else if k < 148 then ii (t.bd (k - 4)) else if k=148 then pv else if k=149 then .map (some hb) else .map (some a)
structure PRow (w:World) (pb cap:Nat) (us:List U):Prop where
 h:∃ cur:Array Value,w.heap[pb]?=some (.cells cur 85 (0,0))/\cur.size=cap*11/\cur.toList.take (us.length*11)=us.flatMap U.cells
 le:us.length<=cap
 cap:cap<=maxLen
structure TS (w:World) (tb pb cap hb bb:Nat) (t:T):Prop where
 cell:∀ k,k < 151->w.cell? ⟨tb,k,none⟩=some (aN t (.slice (so pb) t.us.length cap) hb bb k)
 fz:∀ k,w.frozen? ⟨tb,k,none⟩=false
 row:PRow w pb cap t.us
 len:t.us.length<=1000
 held:MapF w hb (bG t.held)
 ways:MapF w bb (fun _=>none)
 n1:tb≠pb
 n2:tb≠hb
 n3:tb≠bb
 n4:pb≠hb
 n5:pb≠bb
 n6:hb≠bb
 z:0 < tb/\0 < pb/\0 < hb/\0 < bb
theorem GW {us:List U}{i:Nat}{u:U}(h:us[i]?=some u)(j:Nat)(c:j < 11):(us.flatMap U.cells)[i*11+j]?=u.cells[j]?:=by
 induction us generalizing i with
 | nil=>simp at h
 | cons a us b =>
  cases i with
  | zero =>
   simp at h
   subst h
   rw [flatMap_cons,getElem?_append_left (by simp;omega)]
   simp
  | succ i =>
   have:=b (i:=i) (by simpa using h)
   rw [flatMap_cons,getElem?_append_right (by simp;omega)]
   rw [<- this]
   congr 1
   simp
   omega
theorem PRow.ppl {w:World}{c a:Nat}{us:List U}(h:PRow w c a us):Ppl w c us:=by
 obtain ⟨cur,d,hs,ht⟩:=h.h
 intro i hi j v b
 have e:j < 11:=by have:=(gs.1 b).1;simpa using this
 have h1:=GW (getElem?_eq_getElem hi) j e
 rw [<- ht,getElem?_take_of_lt (by omega),b] at h1
 rw [aB d]
 simpa using h1
theorem PRow.fr {S:List Nat}{w c:World}{b a:Nat}{us:List U}(h:PRow w b a us)(f:Fr S w c)(hn:b∉S):PRow c b a us:=by
 obtain ⟨⟨cur,g,r⟩,d,e⟩:=h
 exact ⟨⟨cur,f.heap g hn,r⟩,d,e⟩
theorem PRow.lt {w:World}{b a:Nat}{us:List U}(h:PRow w b a us):b < w.heap.size:=by
 obtain ⟨cur,c,_⟩:=h.h
 exact aH c
theorem TS.lt {w:World}{b d a hb c:Nat}{t:T}(h:TS w b d a hb c t):b < w.heap.size:=aI (h.cell 0 (by omega))
theorem TS.fr {S:List Nat}{w f:World}{c e a hb d:Nat}{t:T}(h:TS w c e a hb d t)(b:Fr S w f)(h1:c∉S)(g:e∉S)(i:hb∉S)(j:d∉S):TS f c e a hb d t :=
 { h with
  cell:=fun k l=>by rw [b.cell c k h.lt h1];exact h.cell k l
  fz:=fun k=>by rw [b.frozen c k h.lt h1];exact h.fz k
  row:=h.row.fr b g
  held:=h.held.fr b i
  ways:=h.ways.fr b j }
theorem TS.fr0 {w e:World}{d c a hb b:Nat}{t:T}(h:TS w d c a hb b t)(f:Fr [] w e):TS e d c a hb b t:=h.fr f (by simp) (by simp) (by simp) (by simp)
theorem TS.gv {w:World}{c b a hb d:Nat}{t:T}(h:TS w c b a hb d t):GV w c b a t.us :=
  ⟨by have:=h.cell 148 (by omega);simpa [aN] using this,h.row.ppl,h.len⟩
theorem TS.tv {w:World}{b d a hb c:Nat}{t:T}(h:TS w b d a hb c t):TV w b hb (bG t.held) t.bd :=
 ⟨by have:=h.cell 149 (by omega);simpa [aN] using this,h.held,fun i hi=>by
  have:=h.cell (4+i) (by omega)
  rw [this]
  unfold aN
  rw [if_neg (by omega),if_neg (by omega),if_neg (by omega),if_neg (by omega),if_pos (by omega),show 4+i - 4=i by omega]⟩
theorem TS.c150 {w:World}{c d a hb b:Nat}{t:T}(h:TS w c d a hb b t):w.cell? ⟨c,150,none⟩=some (.map (some b)):=by
  have:=h.cell 150 (by omega);simpa [aN] using this
theorem iT:(Tryz.prog.info? 85).map (fun i=>(i.zero,i.size,i.bytes))=some (some zeroU.val,11,88):=by kernel_rfl
theorem mD (us:List U):(us.flatMap U.cells).length=us.length*11:=by
 induction us with
 | nil=>rfl
 | cons a us b=>rw [flatMap_cons,length_append,b];simp;omega
theorem vF (us:List U):∀ v∈us.flatMap U.cells,v.oneCell'=true:=by
 intro v b
 obtain ⟨u,_,a⟩:=mem_flatMap.1 b
 simp at a
 rcases a with rfl|rfl|rfl|rfl|rfl|rfl|rfl|rfl|rfl|rfl|rfl <;> rfl
theorem PRow.of_owns {w:World}{base n:Nat}{v:Value}{us:List U}(h:w.ownsRow base 85 11 v n (us.flatMap U.cells))(hn:n=us.length)(l:0 < n):∃ b a,v=.slice (so b) us.length a/\base<=b/\PRow w b a us:=by
 subst hn
 obtain ⟨_,c⟩:=h
 rcases c with ⟨_,k⟩|⟨g,a,cur,rfl,hb,j,d,e,f,i⟩
 ·omega
 exact ⟨g,a,rfl,hb,⟨⟨cur,j,f,i⟩,d,e⟩⟩
theorem qC (f d:Nat)(us:List U)(w:World)(H:PRow w f d us)(z:us.length<=1000)(p:0 < us.length) :
  Cs 75 #[.slice (so f) us.length d] w fun e B=>∃ c a,e=.returned (.slice (so c) us.length a)/\w.heap.size<=c/\PRow B c a us/\Fr [] w B:=by
 obtain ⟨y,hi,t,v,x⟩:=info_parts iT
 have A:∀ w0:World,(binOp BinOp.eql 82 (.slice (so f) us.length d) (.slice none 0 0)).run Tryz.prog w0=.ok (.bool false) w0:=fun w0=>by kernel_rfl
 obtain ⟨cur,n,hs,ht⟩:=H.h
 have hnews:∀ (W:World),W.heap[f]?=w.heap[f]?->∀ j u,(us.flatMap U.cells)[j]?=some u->W.cell? ((⟨f,0,none⟩:Addr).add j)=some u:=by
  intro W D j u s
  have l:((⟨f,0,none⟩:Addr).add j)=⟨f,j,none⟩:=by unfold Addr.add;split <;> simp_all
  have E:j < us.length*11:=by rw [<- mD us];exact (gs.1 s).1
  rw [l,aB (D.trans n)]
  rw [<- ht,getElem?_take_of_lt E] at s
  simpa using s
 have C:=aA hnews
 have r:=aH n
 clear hnews n hs ht
 have i:(w.alloc (.cells #[] 85)).ownsRow w.heap.size 85 11 (.slice (so w.heap.size) 0 0) 0 []:=⟨rfl,.inr ⟨_,0,#[],rfl,Nat.le_refl _,aC _ _,Nat.le_refl _,by decide,rfl,rfl⟩⟩
 go_enter Tryz.func75,Tryz.ntmps75
 go_wp2_with (first
  | (at_builtin;refine wpList_append_own _ rfl _ _ 82 rfl w.heap.size 85 y zeroU.val 11 88 Tryz.underlying82 hi t v x rfl (by decide) (.slice (so w.heap.size) 0 0) 0 [] rfl i ⟨f,0,none⟩ us.length d (us.flatMap U.cells) rfl (mD us) (C.o _ (fD _ _ _ r)) (vF us) (by unfold maxLen;omega) (by omega) (by simp) ?_;intro J K b g q)
  | fail)
 go_ret
 simp only [Nat.zero_add,nil_append] at b
 obtain ⟨c,a,I,hb,m⟩:=PRow.of_owns b rfl p
 refine ⟨c,a,?_,hb,m,?_⟩
 ·rw [<- I];rfl
 exact ((r0 [] w).alloc _).grown g (fun k F=>.inr (by simp [Value.ownBlock] at F;omega))
theorem SU {P:Program} {l:Array Oper} {o:Oper} {a:Act} {w:World} {K:Act->World->Prop} {Q:Exit->Act->World->Prop} {E:Prop}
  (z:o.guard=none) (s x:Operand) (t:TypeId) (q:o.op=Op.call { callee:=Callee.builtin Builtin.append,args:=#[s,x],argTypes:=#[t,t] })
  (e:TypeId) (i:TypeInfo) (size:Nat) (h1:P.underlying t=some (.slice e)) (r:P.info? e=some i) (v:i.size=size)
  (b n f:Nat) (cur:Array Value) (hb:w.heap[b]?=some (.cells cur e (0,0))) (hs:a.eval s=.slice (so b) n f)
  (ad:Addr) (m c:Nat) (d:List Value) (hx:a.eval x=.slice (some ad) m c) (hn:d.length=m*size) (y:∀ j u,d[j]?=some u->w.cell? (ad.add j)=some u) (p:∀ u∈d,u.oneCell'=true)
  (g:n+m<=f) (h:n*size+d.length<=cur.size)
  (hK:K (a.put o.dst (.slice (so b) (n+m) f)) (w.setRow b (cur.toList.take (n*size) ++ d ++ cur.toList.drop (n*size+d.length)).toArray)) :
  if Region.wanted o (yielded l a.tmps)=true then Oper.wp P o a w K Q else E:=by
 have hw:Region.wanted o (yielded l a.tmps)=true:=by simp [Region.wanted,z]
 rw [if_pos hw]
 subst v
 have k:=run_append_room (P:=P) w t o.type e i h1 r b n f cur hb ad m c d hn y p g h
 unfold Oper.wp
 simp only [execOp,q,resolve,invoke,builtin,Sem.run_bind,Sem.run_pure,Result.andThen_ok,map_toArray,map_cons,map_nil,hs,hx,k]
 exact hK
theorem vI (us:List U)(i:Nat):(us.take i).flatMap U.cells=(us.flatMap U.cells).take (i*11):=by
 induction us generalizing i with
 | nil=>simp
 | cons a us b =>
  cases i with
  | zero=>simp
  | succ i =>
   have h:(a.cells).length=11:=rfl
   rw [take_succ_cons,flatMap_cons,flatMap_cons,b,take_append,take_of_length_le (l:=a.cells) (by omega),h,show (i+1)*11 - 11=i*11 by omega]
theorem vD (us:List U)(i:Nat):(us.drop i).flatMap U.cells=(us.flatMap U.cells).drop (i*11):=by
 induction us generalizing i with
 | nil=>simp
 | cons a us b =>
  cases i with
  | zero=>simp
  | succ i =>
   have h:(a.cells).length=11:=rfl
   rw [drop_succ_cons,flatMap_cons,b,drop_append,drop_of_length_le (l:=a.cells) (by omega),nil_append,h,show (i+1)*11 - 11=i*11 by omega]
theorem VG:(Builtin.zeroCells zeroU.val.cells 1).toList=zeroU.cells:=by kernel_rfl
theorem RI (w:World)(ty:TypeId)(b o c:Nat)(cur:Array Value)(hb:w.heap[b]?=some (.cells cur 85 (0,0)))(ho:o+11<=cur.size) :
  (Builtin.clear_ #[82] ty #[.slice (some ⟨b,o,none⟩) 1 c]).run Tryz.prog w=.ok (.tuple #[]) (w.setRow b (cur.toList.take o ++ zeroU.cells ++ cur.toList.drop (o+11)).toArray):=by
 have a:=run_storeCells_at Tryz.prog b o 85 zeroU.cells 0 cur w hb (by simpa using ho) (by simp [Value.oneCell'])
 simp only [Nat.add_zero] at a
 have hz:=VG
 simp [Builtin.clear_,run_underlying Tryz.underlying82,Tryz.zeroValue85,hz,a]
theorem FO (f b i:Nat)(us:List U)(w:World)(z:PRow w f b us)(M:us.length<=1000)(hi:i < us.length) :
  Cs 221 #[.slice (so f) us.length b,.int .i64 i,.int .i64 (i+1:Nat)] w fun e O=>e=.returned (.slice (so f) (us.length - 1) b)/\PRow O f b (us.eraseIdx i)/\Fr [f] w O:=by
 obtain ⟨K,F,ai,J,aj⟩:=info_parts iT
 obtain ⟨cur,y,hs,ht⟩:=z.h
 have ae:=z.le
 have D:=z.cap
 unfold maxLen at D
 have af:=aH y
 obtain ⟨a,hnews⟩:∃ a,a=(us.flatMap U.cells).drop ((i+1)*11):=⟨_,rfl⟩
 have l:a.length=(us.length - (i+1))*11:=by rw [hnews,length_drop,mD,Nat.sub_mul]
 have n:∀ j v,a[j]?=some v->w.cell? ⟨f,(i+1)*11+j,none⟩=some v:=by
  intro j v I
  have hj:j < (us.length - (i+1))*11:=by rw [<- l];exact (gs.1 I).1
  rw [hnews,getElem?_drop,<- ht,getElem?_take_of_lt (by omega)] at I
  rw [aB y]
  simpa using I
 obtain ⟨A,hA,H⟩:∃ A:Addr,(if b=i+1 then some (⟨f,0,none⟩:Addr) else some ⟨f,(i+1)*11,none⟩)=some A/\Hi (∀ t v,a[t]?=some v->w.drew.cell? (A.add t)=some v):=by
  by_cases h:b=i+1
  ·refine ⟨⟨f,0,none⟩,by simp [h],fun t u r=>?_⟩
   have h0:a.length=0:=by rw [l];omega
   rw [length_eq_zero_iff.1 h0] at r
   simp at r
  refine ⟨⟨f,(i+1)*11,none⟩,by simp [h],fun t u r=>?_⟩
  rw [Addr.add_lit]
  exact n t u r
 have N:Hi (a.length=(us.length - (i+1))*11):=l
 have s2:Hi (∀ u∈a,u.oneCell'=true):=by
  intro u r
  rw [hnews] at r
  exact vF us u (mem_of_mem_drop r)
 obtain ⟨d,k⟩:∃ c,c=(cur.toList.take (i*11) ++ a ++ cur.toList.drop (i*11+a.length)).toArray:=⟨_,rfl⟩
 have p:d.size=b*11:=by rw [k];simp [hs];omega
 obtain ⟨m,g⟩:∃ m,m=w.drew.setRow f d:=⟨_,rfl⟩
 have q:m.heap[f]?=some (.cells d 85 (0,0)):=by rw [g];exact setRow_heap _ _ _ _ _ _ y
 have s:i+(us.length - (i+1))=us.length - 1:=by omega
 have x:us.length - (i+(us.length - (i+1)))=1:=by omega
 have aa:∀ ty,(Builtin.clear_ #[82] ty #[.slice (some ⟨f,(i+(us.length - (i+1)))*11,none⟩) (us.length - (i+(us.length - (i+1)))) (b - (i+(us.length - (i+1))))]).run Tryz.prog m=.ok (.tuple #[]) (m.setRow f (d.toList.take ((us.length - 1)*11) ++ zeroU.cells ++ d.toList.drop ((us.length - 1)*11+11)).toArray) :=
  fun ty=>by rw [x,s];exact RI m ty f _ _ d q (by omega)
 clear s x
 have Q:Hi (i*11+a.length<=cur.size):=by show _<=_;omega
 have R:=aA y
 have X:Hi (m=w.drew.setRow f (cur.toList.take (i*11) ++ a ++ cur.toList.drop (i*11+a.length)).toArray):=by show _=_;rw [g,k]
 have C:Hi (m=w.drew.setRow f d):=g
 have P:=aA k
 have B:=aA q
 have W:=aA ht
 have V:=aA hs
 have L:=aA p
 have S:=aA hnews
 clear g k q hnews n ht hs p l
 have ab:i<=b:=by omega
 have ac:i+1<=b:=by omega
 have ad:i+1<=us.length:=hi
 have ag:(0:Int)<=(i:Int)+1:=by omega
 have ah:(i:Int)+1<=(us.length:Int):=by omega
 go_enter Tryz.func221,Tryz.ntmps221
 go_wp2_with fail
 go_region_law (refine SU rfl (.tmp 22) (.tmp 25) 82 rfl 85 K 11 Tryz.underlying82 F J f i b cur R.o (by simp [Act.eval,Act.put]) A (us.length - (i+1)) (b - (i+1)) a (by simp [Act.eval,Act.put]) N.o H.o s2.o (by omega) Q.o ?_;rw [<- X.o])
 go_wp2_with fail
 go_ret
 have E:(us.eraseIdx i).length=us.length - 1:=by rw [length_eraseIdx];simp [hi]
 refine ⟨by rw [show us.length - 1=i+(us.length - (i+1)) by omega];rfl,⟨⟨_,setRow_heap _ _ _ _ _ _ B.o,?_,?_⟩,by omega,z.cap⟩,?_⟩
 ·have:=L.o
  simp
  omega
 ·have h1:=L.o
  have h2:=P.o
  have h3:=W.o
  have h4:=S.o
  have h5:=N.o
  have h6:=V.o
  have Y:(us.eraseIdx i).flatMap U.cells=cur.toList.take (i*11) ++ a:=by
   rw [eraseIdx_eq_take_drop_succ,flatMap_append,h4]
   rw [vI,vD,<- h3,take_take]
   congr 2
   omega
  rw [E,Y]
  have e2:(cur.toList.take (i*11) ++ a).length=(us.length - 1)*11:=by
   simp [h5,h6];omega
  show take _ (_ ++ _)=_
  rw [take_append_of_le_length (by simp [h1];omega),take_take,Nat.min_self,h2]
  show take _ (_ ++ _ ++ _)=_
  rw [take_append_of_le_length (by omega),take_of_length_le (by omega)]
 rw [C.o]
 exact (((r0 _ _).drew).setRow _ _ (by simp)).setRow _ _ (by simp)
structure GS (w:World) (gb pb cap:Nat) (t:T):Prop where
 cell:∀ k,k < 149->w.cell? ⟨gb,k,none⟩=some (aN t (.slice (so pb) t.us.length cap) 0 0 k)
 fz:∀ k,w.frozen? ⟨gb,k,none⟩=false
 row:PRow w pb cap t.us
 len:t.us.length<=1000
 ne:0 < t.us.length
 n1:gb≠pb
 z:0 < gb/\0 < pb
theorem GS.lt {w:World}{b c a:Nat}{t:T}(h:GS w b c a t):b < w.heap.size:=aI (h.cell 0 (by omega))
theorem GS.fr {S:List Nat}{w e:World}{b d a:Nat}{t:T}(h:GS w b d a t)(c:Fr S w e)(h1:b∉S)(f:d∉S):GS e b d a t :=
 { h with
  cell:=fun k g=>by rw [c.cell b k h.lt h1];exact h.cell k g
  fz:=fun k=>by rw [c.frozen b k h.lt h1];exact h.fz k
  row:=h.row.fr c f }
theorem GS.gv {w:World}{b c a:Nat}{t:T}(h:GS w b c a t):GV w b c a t.us :=
  ⟨by have:=h.cell 148 (by omega);simpa [aN] using this,h.row.ppl,h.len⟩
theorem nB (a:Nat)(w:World) :
  Cs 39 #[.pointer (so a)] w fun e b=>e=.returned (.pointer (so a))/\w=b:=by
 go_enter Tryz.func39,Tryz.ntmps39
 go_wp2
 go_ret
 exact ⟨rfl,rfl⟩
theorem OG (f g d:Nat)(t:T)(w:World)(h:GS w f g d t) :
  Cs 34 #[.pointer (so f)] w fun e i=>∃ b a,e=.returned (.slice (so b) t.us.length a)/\w.heap.size<=b/\PRow i b a t.us/\Fr [] w i:=by
 have m:=h.gv.c
 go_enter Tryz.func34,Tryz.ntmps34
 go_wp2_with (first|(go_at_call 39;refine (nB f _).mono ?_;rintro e l ⟨rfl,rfl⟩)|(go_at_call 75;refine (qC g d t.us _ h.row h.len h.ne).mono ?_;rintro e l ⟨b,a,rfl,hb,k,j⟩))
 go_ret
 exact ⟨b,a,rfl,hb,k,j⟩
