import Derived.Test.YtapabahhfanmmaaGreatDoorCRTell
namespace Go.Proofs.YtapabahhfanmmaaGreatDoor
open Go.RowKit List
set_option maxRecDepth 100000
set_option maxHeartbeats 2000000
abbrev Fl.cells (f:Fl):List Value:=[sv f.name,sv f.data]
def aX:List Fl->Nm->Nat
 | [],_=>0
 | f :: D,n=>if f.name=n then 0 else aX D n+1
theorem vJ (n:Nm):∀ D,aX D n<=D.length
 | []=>Nat.le_refl _
 | f :: D=>by
  unfold aX
  split
  ·exact Nat.zero_le _
  have:=vJ n D
  simp
  exact this
theorem kI (n:Nm):∀ D,aX D n < D.length->∃ f,D[aX D n]?=some f/\f.name=n
 | [],h=>by simp [aX] at h
 | f :: D,h=>by
  unfold aX at h |-
  by_cases e:f.name=n
  ·rw [if_pos e]
   exact ⟨f,rfl,e⟩
  rw [if_neg e] at h |-
  exact kI n D (by simpa using h)
theorem vK (n:Nm):∀ (D:List Fl) (k:Nat) (f:Fl),k<=aX D n->D[k]?=some f->(f.name=n->aX D n=k)/\(¬ f.name=n->k+1<=aX D n)
 | [],k,f,_,h=>by simp at h
 | g :: D,0,f,h,a=>by
  have:g=f:=by simpa using a
  subst this
  refine ⟨fun e=>by unfold aX;rw [if_pos e],fun e=>?_⟩
  unfold aX
  rw [if_neg e]
  omega
 | g :: D,k+1,f,h,a=>by
  unfold aX at h |-
  by_cases e:g.name=n
  ·rw [if_pos e] at h;omega
  rw [if_neg e] at h |-
  have:=vK n D k f (by omega) (by simpa using a)
  exact ⟨fun q=>by rw [this.1 q],fun q=>by have:=this.2 q;omega⟩
def bZ (D:List Fl)(n:Nm):List Fl:=D.filter (fun f=>f.name != n)
def mS (D:List Fl)(i:Nat)(x:Nm):List Fl:=match D[i]? with|some f=>D.set i { f with data:=f.data ++ x }|none=>D
def kR (D:List Fl)(i:Nat):List Fl:=match D[i]? with|some f=>D.set i { f with safe:=f.data.length }|none=>D
def lI (D:List Fl)(i:Nat)(n:Nm):List Fl:=match D[i]? with|some f=>D.set i { f with name:=n }|none=>D
def eU (D:List Fl)(s:Stp):Option (List Fl) :=
 if s.what=1 then some (if aX D s.name < D.length then mS D (aX D s.name) s.data else D ++ [⟨s.name,s.data,0⟩])
 else if s.what=2 then (if aX D s.name < D.length then some (kR D (aX D s.name)) else none)
 else if s.what=3 then (if aX D s.name < D.length/\s.name≠s.to then some (lI (bZ D s.to) (aX (bZ D s.to) s.name) s.to) else none)
 else none
def eL:List Fl->List Stp->Option (List Fl)
 | D,[]=>some D
 | D,s :: l=>(eU D s).bind fun a=>eL a l
theorem kH:∀ (l m:List Stp) (D:List Fl),eL D (l ++ m)=(eL D l).bind fun a=>eL a m
 | [],_,_=>rfl
 | s :: l,m,D=>by
  show (eU D s).bind _=((eU D s).bind _).bind _
  rw [Option.bind_assoc]
  congr 1
  funext a
  exact kH l m a
theorem qK (D:List Fl)(s:Stp):eL D [s]=eU D s:=by
 show (eU D s).bind (fun a=>some a)=_
 cases eU D s <;> rfl
theorem FY {l:List Stp}{k:Nat}{s:Stp}{D E:List Fl}(h:l[k]?=some s)(c:eL [] (l.take k)=some D)(b:eL [] l=some E):∃ a,eU D s=some a/\eL [] (l.take (k+1))=some a:=by
 have h1:l=(l.take k ++ [s]) ++ l.drop (k+1):=by
  obtain ⟨hl,rfl⟩:=gs.1 h
  rw [<- take_succ_eq_append_getElem hl,take_append_drop]
 have e:l.take (k+1)=l.take k ++ [s]:=by
  obtain ⟨hl,rfl⟩:=gs.1 h
  exact take_succ_eq_append_getElem hl
 rw [h1,kH,kH,c] at b
 rw [e,kH,c]
 change ((eL D [s]).bind fun a=>eL a (l.drop (k+1)))=some E at b
 change ∃ a,eU D s=some a/\eL D [s]=some a
 rw [qK] at b |-
 cases hx:eU D s with
 | none=>rw [hx] at b;cases b
 | some a=>exact ⟨a,rfl,rfl⟩
section
variable (d x:Nm) (s:Nat)
theorem OU:¬ LOG=bO:=by decide
theorem yV:¬ bO=LOG:=by decide
theorem xM:(bO==LOG)=false:=by decide
theorem GB:eL [] [dA bO x,dB bO,eV bO LOG]=some [⟨LOG,x,x.length⟩]:=by
  simp [eL,eU,aX,bZ,kR,lI,xM,yV,bne]
theorem GA:eU [⟨LOG,d,s⟩] (dA LOG x)=some [⟨LOG,d ++ x,s⟩]:=by simp [eU,aX,mS]
theorem GD:eU [⟨LOG,d,s⟩] (dB LOG)=some [⟨LOG,d,d.length⟩]:=by simp [eU,aX,kR]
theorem GC:eL [⟨LOG,d,s⟩] [dA bO x,dB bO,eV bO LOG]=some [⟨LOG,x,x.length⟩]:=by
  simp [eL,eU,aX,bZ,kR,lI,xM,OU,yV,bne]
end
structure DK (w:World) (base db:Nat) (D:List Fl):Prop where
 ex:∃ lv fv,w.cell? ⟨db,0,none⟩=some lv/\w.cell? ⟨db,1,none⟩=some fv/\w.ownsRow base 115 2 lv D.length (D.flatMap Fl.cells)/\w.ownsRow base 3 1 fv D.length (D.map fun f=>ii (f.safe:Int))/\lv.ownBlock≠some db/\fv.ownBlock≠some db/\∀ g,lv.ownBlock=some g->fv.ownBlock≠some g
 fz:∀ k,w.frozen? ⟨db,k,none⟩=false
 hb:base<=w.heap.size
theorem nZ:∀ (l:List Fl) (i j:Nat) (f:Fl),l[i]?=some f->j < 2->(l.flatMap Fl.cells)[i*2+j]?=f.cells[j]?
 | [],i,j,f,h,_=>by simp at h
 | c :: l,0,j,f,h,a=>by
  have:c=f:=by simpa using h
  subst this
  rw [flatMap_cons,getElem?_append_left (by simp;omega),Nat.zero_mul,Nat.zero_add]
 | c :: l,i+1,j,f,h,a=>by
  rw [flatMap_cons,getElem?_append_right (by simp;omega)]
  have:=nZ l i j f (by simpa using h) a
  rw [show (i+1)*2+j - c.cells.length=i*2+j by simp;omega]
  exact this
theorem DK.lt {w:World}{base a:Nat}{D:List Fl}(h:DK w base a D):a < w.heap.size:=by
 obtain ⟨b,fv,h1,_⟩:=h.ex
 exact aI h1
theorem DK.fr {S:List Nat}{w j:World}{base a:Nat}{D:List Fl}(h:DK w base a D)(c:Fr S w j)(hs:∀ b∈S,b < base)(hn:a∉S):DK j base a D:=by
 have hl:=h.lt
 obtain ⟨⟨p,fv,h1,l,f,i,m,n,o⟩,hz,hb⟩:=h
 refine ⟨⟨p,fv,by rw [c.cell a 0 hl hn];exact h1,by rw [c.cell a 1 hl hn];exact l,aF f c (fun g e hm=>?_),aF i c (fun g e hm=>?_),m,n,o⟩,fun k=>by rw [c.frozen a k hl hn];exact hz k,Nat.le_trans hb c.size⟩
 ·have:=(f.lt g e).1;have:=hs _ hm;omega
 have:=(i.lt g e).1;have:=hs _ hm;omega
theorem DK.fr0 {w b:World}{base a:Nat}{D:List Fl}(h:DK w base a D)(c:Fr [] w b):DK b base a D:=h.fr c (by simp) (by simp)
theorem DK.at {w:World}{base d:Nat}{D:List Fl}(h:DK w base d D){k:Nat}{f:Fl}(c:D[k]?=some f):∃ a i b e,w.cell? ⟨d,0,none⟩=some (.slice (so a) D.length i)/\w.cell? ⟨d,1,none⟩=some (.slice (so b) D.length e)/\w.cell? ⟨a,k*2,none⟩=some (sv f.name)/\w.cell? ⟨a,k*2+1,none⟩=some (sv f.data)/\w.cell? ⟨b,k,none⟩=some (ii (f.safe:Int)):=by
 obtain ⟨t,fv,h1,q,n,o,_⟩:=h.ex
 have s:k < D.length:=(gs.1 c).1
 obtain ⟨a,i,rfl⟩:=bK n (by omega)
 obtain ⟨b,e,rfl⟩:=bK o (by omega)
 have p:=n.cells (g:=a) rfl
 have r:=o.cells (g:=b) rfl
 have j:=p (k*2+0) _ (nZ D k 0 f c (by omega))
 have l:=p (k*2+1) _ (nZ D k 1 f c (by omega))
 have m:=r k (ii (f.safe:Int)) (by rw [getElem?_map,c];rfl)
 rw [Addr.add_lit,Nat.zero_add] at j l m
 exact ⟨a,i,b,e,h1,q,j,l,m⟩
theorem DK.len {w:World}{base c:Nat}{D:List Fl}(h:DK w base c D):∃ a b,w.cell? ⟨c,0,none⟩=some (.slice a D.length b):=by
 obtain ⟨g,fv,h1,e,d,f,_⟩:=h.ex
 obtain ⟨a,b,rfl⟩:=fR d
 exact ⟨a,b,h1⟩
def gL (D:List Fl)(n:Nm):Int:=if aX D n < D.length then (aX D n:Int) else -1
theorem mC (base p:Nat)(D:List Fl)(n:Nm)(w:World)(h:DK w base p D)(hl:D.length<=1000000000) :
  Cs 113 #[.pointer (so p),sv n] w fun e x=>e=.returned (.int .i64 (gL D n))/\w=x:=by
 obtain ⟨B,l⟩:∃ B:ByteArray,B=⟨n.toArray⟩:=⟨_,rfl⟩
 rw [sv,<- l]
 have r:=aA l
 have H:=aA h
 clear h l
 go_enter Tryz.func113,Tryz.ntmps113
 go_wp2_with fail
 go_loopw [5] (fun i wr=>∃ k:Nat,k<=D.length/\i=.int .i64 k/\k<=aX D n/\w=wr) (fun i _=>D.length - (intOf i).toNat)
 case atStart=>exact ⟨0,Nat.zero_le _,rfl,Nat.zero_le _,rfl⟩
 obtain ⟨k,E,rfl,m,rfl⟩:=hrel
 by_cases b:k < D.length
 ·have d:(k:Int) < (D.length:Int):=by omega
  obtain ⟨f,q⟩:∃ f,D[k]?=some f:=⟨_,getElem?_eq_getElem b⟩
  obtain ⟨F,v,z,C,s,_,t,_,_⟩:=H.o.at q
  have hs:=vK n D k f m q
  obtain ⟨A,j⟩:∃ A:ByteArray,A=⟨f.name.toArray⟩:=⟨_,rfl⟩
  rw [sv,<- j] at t
  have a:(A.toList==B.toList)=(f.name==n):=by rw [j,r.o,ByteArray.toList_mk,ByteArray.toList_mk]
  by_cases e:f.name=n
  ·have c:(A.toList==B.toList)=true:=by rw [a];simpa using e
   have g:=(show Hi _ from hs.1 e)
   clear a hs j
   go_wp2_with fail
   go_ret
   exact ⟨by unfold gL;rw [if_pos (by rw [g.o];exact b),g.o];rfl,rfl⟩
  have c:(A.toList==B.toList)=false:=by rw [a];simpa using e
  have g:=(show Hi _ from hs.2 e)
  clear a hs j
  go_wp2_with fail
  go_roundw
  case rel=>exact ⟨k+1,b,by go_num,g.o,trivial⟩
  case measure=>simp [intOf];omega
 have d:¬ (k:Int) < (D.length:Int):=by omega
 obtain ⟨y,v,s⟩:=H.o.len
 have u:aX D n=D.length:=by have:=vJ n D;omega
 go_wp2_with fail
 go_ret
 exact ⟨by unfold gL;rw [if_neg (by omega)];rfl,rfl⟩
theorem wD:(Tryz.prog.info? 115).map (fun i=>(i.zero,i.size,i.bytes))=some (some (.agg #[.string ⟨#[]⟩,.string ⟨#[]⟩]),2,32):=by kernel_rfl
theorem wF:(Tryz.prog.info? 3).map (fun i=>(i.zero,i.size,i.bytes))=some (some (ii 0),1,8):=by kernel_rfl
abbrev jJ (D:List Fl):List Value:=D.map fun f=>ii (f.safe:Int)
structure Rw2 (w:World) (base:Nat) (D:List Fl) (lv fv:Value) (wr:World):Prop where
 ol:wr.ownsRow base 115 2 lv D.length (D.flatMap Fl.cells)
 os:wr.ownsRow base 3 1 fv D.length (jJ D)
 ap:∀ g,lv.ownBlock=some g->fv.ownBlock≠some g
 fr:Fr [] w wr
theorem DK.putRows {w w0:World}{base a:Nat}{D E:List Fl}{b fv:Value}(h:DK w base a D)(i:Rw2 w0 base E b fv w)(h1:b.ownBlock≠some a)(j:fv.ownBlock≠some a):DK ((w.setCell ⟨a,0,none⟩ b).setCell ⟨a,1,none⟩ fv) base a E/\Fr [a] w ((w.setCell ⟨a,0,none⟩ b).setCell ⟨a,1,none⟩ fv):=by
 obtain ⟨⟨o,d,l,m,_⟩,hz,hb⟩:=h
 have c:Fr [a] w ((w.setCell ⟨a,0,none⟩ b).setCell ⟨a,1,none⟩ fv):=((r0 _ _).setCell _ _ (by simp)).setCell _ _ (by simp)
 have n:(w.setCell ⟨a,0,none⟩ b).cell? ⟨a,1,none⟩=some d:=by rw [cA _ _ _ _ _ _ (.inr (by omega))];exact m
 refine ⟨⟨⟨b,fv,?_,?_,aF i.ol c (fun g f e=>?_),aF i.os c (fun g f e=>?_),h1,j,i.ap⟩,fun k=>?_,Nat.le_trans hb c.size⟩,c⟩
 ·rw [cA _ _ _ _ _ _ (.inr (by omega))];exact dO _ _ _ _ _ l
 ·exact dO _ _ _ _ _ n
 ·have:g=a:=by simpa using e
  subst this;exact h1 f
 ·have:g=a:=by simpa using e
  subst this;exact j f
 rw [show ∀ (W:World) (p:Addr) (v:Value),(W.setCell p v).frozen? ⟨a,k,none⟩=W.frozen? ⟨a,k,none⟩ from fun W p v=>by simp,show ∀ (W:World) (p:Addr) (v:Value),(W.setCell p v).frozen? ⟨a,k,none⟩=W.frozen? ⟨a,k,none⟩ from fun W p v=>by simp]
 exact hz k
theorem yE {w:World}{base a n size:Nat}{e:TypeId}{v:Value}{xs:List Value}(h:w.ownsRow base e size v n xs)(hb:a<=base):w.ownsRow a e size v n xs :=
  ⟨h.1,h.2.imp_right fun ⟨g,b,cur,h1,c,r⟩=>⟨g,b,cur,h1,Nat.le_trans hb c,r⟩⟩
theorem QY (D:List Fl)(n:Nm)(k:Nat)(f:Fl)(h:D[k]?=some f):bZ (D.take (k+1)) n=bZ (D.take k) n ++ (if f.name=n then [] else [f]):=by
 unfold bZ
 rw [take_add_one,h,filter_append]
 by_cases e:f.name=n <;> simp [e]
theorem sA (D:List Fl)(n:Nm):(bZ D n).length<=D.length:=length_filter_le _ _
theorem QR (base s:Nat)(D:List Fl)(n:Nm)(w:World)(h:DK w base s D)(hl:D.length<=100000000) :
  Cs 114 #[.pointer (so s),sv n] w fun e w'=>e=.returned (.tuple #[])/\DK w' base s (bZ D n)/\Fr [s] w w':=by
 obtain ⟨ba,an,ax,ay,az⟩:=info_parts wD
 obtain ⟨ad,aq,au,av,aw⟩:=info_parts wF
 obtain ⟨B,hB⟩:∃ B:ByteArray,B=⟨n.toArray⟩:=⟨_,rfl⟩
 rw [sv,<- hB]
 have HB:=aA hB
 have H:=aA h
 have F:=h.lt
 have V:=h.hb
 have bb:=h.fz 0
 clear h hB
 go_enter Tryz.func114,Tryz.ntmps114
 go_wp2_with fail
 go_loopw [4,5,6] (fun lv fv i wr=>∃ k:Nat,k<=D.length/\i=.int .i64 k/\Rw2 w w.heap.size (bZ (D.take k) n) lv fv wr) (fun _ _ i _=>D.length - (intOf i).toNat)
 case atStart=>exact ⟨0,Nat.zero_le _,rfl,⟨rfl,.inl ⟨rfl,rfl⟩⟩,⟨rfl,.inl ⟨rfl,rfl⟩⟩,(by simp [Value.ownBlock]),r0 _ _⟩
 obtain ⟨k,hk,rfl,c⟩:=hrel
 have z:=H.o.fr0 c.fr
 have be:=c.fr.size
 by_cases I:k < D.length
 ·have ac:(k:Int) < (D.length:Int):=by omega
  obtain ⟨f,hf⟩:∃ f,D[k]?=some f:=⟨_,getElem?_eq_getElem I⟩
  obtain ⟨lb,lc,fb,fc,d0,d1,d2,d3,d4⟩:=H.o.at hf
  have aa:=aI d2
  have W:=aI d4
  have c0:=(c.fr.cell s 0 F (by simp)).trans d0
  have c1:=(c.fr.cell s 1 F (by simp)).trans d1
  have c2:=(c.fr.cell lb (k*2) aa (by simp)).trans d2
  have c3:=(c.fr.cell lb (k*2+1) aa (by simp)).trans d3
  have c4:=(c.fr.cell fb k W (by simp)).trans d4
  have D1:=aA d1
  have D4:=aA d4
  clear d0 d1 d2 d3 d4
  have r:=QY D n k f hf
  obtain ⟨A,P⟩:∃ A:ByteArray,A=⟨f.name.toArray⟩:=⟨_,rfl⟩
  obtain ⟨X,hX⟩:∃ A:ByteArray,A=⟨f.data.toArray⟩:=⟨_,rfl⟩
  rw [sv,<- P] at c2
  rw [sv,<- hX] at c3
  have x:(A.toList==B.toList)=(f.name==n):=by rw [P,HB.o,ByteArray.toList_mk,ByteArray.toList_mk]
  have M:=aA c
  by_cases e:f.name=n
  ·have R:(A.toList==B.toList)=true:=by rw [x];simpa using e
   rw [if_pos e,append_nil] at r
   have t:=aA r
   clear x P hX c z r c1 c3 c4
   go_wp2_with fail
   go_roundw
   case rel=>exact ⟨k+1,I,by go_num,by rw [t.o];exact M.o⟩
   case measure=>simp [intOf];omega
  have R:(A.toList==B.toList)=false:=by rw [x];simpa using e
  rw [if_neg e] at r
  have t:=aA r
  have Zr:(bZ (D.take k) n).length<=D.length:=by have:=sA (D.take k) n;simp at this;omega
  obtain ⟨E,hE⟩:∃ E,E=bZ (D.take k) n:=⟨_,rfl⟩
  rw [<- hE] at Zr t c M
  have ah:Hi (f.cells=[.string A,.string X]):=by show _=_;rw [P,hX]
  have ag:Hi (∀ b,u4.ownBlock=some b->w.heap.size<=b/\b < wr.heap.size):=fun b hb=>c.ol.lt b hb
  have L:Hi (∀ b,u5.ownBlock=some b->w.heap.size<=b/\b < wr.heap.size):=fun b hb=>c.os.lt b hb
  have ak:Hi ((wr.alloc (.cells #[.string A,.string X] 115)).ownsRow w.heap.size 115 2 u4 E.length (E.flatMap Fl.cells)):=aF c.ol ((r0 [] wr).alloc _) (by simp)
  have HN:Hi (∀ (j:Nat) (u:Value),[Value.string A,.string X][j]?=some u->(wr.alloc (.cells #[.string A,.string X] 115)).cell? ((⟨wr.heap.size,0,none⟩:Addr).add j)=some u):=by
   intro j u hu
   rw [Addr.add_lit,Nat.zero_add,aB (aC wr _)]
   simpa using hu
  have ai:Hi (∀ d,(wr.alloc (.cells #[.string A,.string X] 115)).grownBy d u4.ownBlock->Fr [] w d/\Fr u4.ownBlock.toList wr d):=fun d a=>⟨(c.fr.alloc _).grow a (fun g a=>.inr (ag.o g a).1),((r0 _ wr).alloc _).grow a (fun g a=>.inl (by simp [a]))⟩
  clear x P hX c z r hE c1 c4
  go_wp2_with (first
   | (
     at_builtin;refine wpList_append_own_at _ rfl (.tmp 26) _ 51 rfl w.heap.size 115 ba (.agg #[.string ⟨#[]⟩,.string ⟨#[]⟩]) 2 32 Tryz.underlying51 an ax ay az rfl (by decide) u4 E.length (E.flatMap Fl.cells) rfl ak.o ⟨wr.heap.size,0,none⟩ 1 1 [.string A,.string X] rfl rfl HN.o (by simp [Value.oneCell']) (by unfold maxLen;omega) (by omega) (by simp;omega) ?_
     intro v' d m l J y
     obtain ⟨C,Q⟩:=ai.o d l
     have g1:=(C.cell s 1 F (by simp)).trans D1.o
     have g4:=(C.cell fb k W (by simp)).trans D4.o
     have bd:wr.heap.size < d.heap.size:=by have:=l.size;simp at this;omega
     obtain ⟨O,ae,rfl⟩:=fR m
     have N:Hi (d.ownsRow w.heap.size 115 2 (.slice O (E.length+1) ae) (E.length+1) (E.flatMap Fl.cells ++ [.string A,.string X])):=m
     have af:=aA y
     have H5:Hi ((d.alloc (.cells #[.int .i64 f.safe] 3)).ownsRow w.heap.size 3 1 u5 E.length (jJ E)):=aF (aF M.o.os Q (fun g a e=>M.o.ap g (by simpa using e) a)) ((r0 [] d).alloc _) (by simp)
     have aj:Hi (∀ (j:Nat) (u:Value),[Value.int .i64 f.safe][j]?=some u->(d.alloc (.cells #[.int .i64 f.safe] 3)).cell? ((⟨d.heap.size,0,none⟩:Addr).add j)=some u):=(by
       intro j u hu
       rw [Addr.add_lit,Nat.zero_add,aB (aC d _)]
       simpa using hu)
     clear m l J y Q)
   | (
     at_builtin;refine wpList_append_own_at _ rfl (.tmp 36) _ 25 rfl w.heap.size 3 ad (ii 0) 1 8 Tryz.underlying25 aq au av aw rfl (by decide) u5 E.length (jJ E) rfl H5.o ⟨d.heap.size,0,none⟩ 1 1 [.int .i64 f.safe] rfl rfl aj.o (by simp [Value.oneCell']) (by unfold maxLen;omega) (by omega) (by simp;omega) ?_
     intro v5 w5 K p Zq S))
  have al:Fr [] w w5:=(C.alloc _).grow p (fun g a=>.inr (L.o g a).1)
  have am:Fr u5.ownBlock.toList d w5:=((r0 _ d).alloc _).grow p (fun g a=>.inl (by simp [a]))
  have h4:∀ g,Value.ownBlock (.slice O (E.length+1) ae)=some g->u5.ownBlock≠some g/\g < d.heap.size:=fun g a=>by
   refine ⟨fun e=>?_,(N.o.lt g a).2⟩
   rcases af.o with q|q
   ·rw [q] at a;exact M.o.ap g a e
   rw [q] at a;cases a;have:=(L.o _ e).2;simp at this <;> omega
  go_roundw
  case rel =>
   refine ⟨k+1,I,by go_num,?_⟩
   rw [t.o]
   refine ⟨?_,?_,fun g a e=>?_,al⟩
   ·rw [length_append,flatMap_append,show [f].flatMap Fl.cells=[.string A,.string X] by rw [flatMap_singleton,ah.o]]
    exact aF N.o am (fun g a e=>(h4 g a).1 (by simpa using e))
   ·rw [length_append,jJ,map_append]
    exact K
   rcases S with q|q
   · rw [q] at e;exact (h4 g a).1 e
   rw [q] at e;cases e;have:=(h4 _ a).2;simp at this <;> omega
  case measure=>simp [intOf];omega
 have ac:¬ (k:Int) < (D.length:Int):=by omega
 obtain ⟨ao,lc,c0⟩:=z.len
 have Y:D.take k=D:=take_of_length_le (by omega)
 rw [Y] at c
 have hz:=z.fz
 obtain ⟨bf,bc,q0,q1,_⟩:=z.ex
 obtain ⟨a4,l4,rfl⟩:=fR c.ol
 obtain ⟨a5,l5,rfl⟩:=fR c.os
 have z0:=hz 0
 have z1:=hz 1
 have ar:∀ g,Value.ownBlock (.slice a4 (bZ D n).length l4)=some g->g≠s:=fun g a e=>by have:=(c.ol.lt g a).1;omega
 have ab:∀ g,Value.ownBlock (.slice a5 (bZ D n).length l5)=some g->g≠s:=fun g a e=>by have:=(c.os.lt g a).1;omega
 have hP:=z.putRows (w0:=w) ⟨yE c.ol V,yE c.os V,c.ap,c.fr⟩ (fun e=>ar s e rfl) (fun e=>ab s e rfl)
 have HP:=aA hP
 have HF:=aA c.fr
 clear c hP z Y hz
 go_wp2_with fail
 refine bodyPost_end (v:=.tuple #[]) (results_none rfl _ _ _) rfl ⟨rfl,HP.o.1,HF.o.of0.trans HP.o.2 (by simp)⟩
set_option maxRecDepth 100000
theorem yC {w:World}{base n size:Nat}{e:TypeId}{v:Value}{xs:List Value}(h:w.ownsRow base e size v n xs){g o:Nat}(b:v.ownBlock=some g)(u:Value):(w.setCell ⟨g,o,none⟩ u).ownsRow base e size v n (xs.set o u):=by
 obtain ⟨h1,d⟩:=h
 refine ⟨by rw [length_set];exact h1,?_⟩
 rcases d with ⟨rfl,_⟩|⟨c,a,cur,rfl,hb,i,f,hm,hs,ht⟩
 ·cases b
 simp [Value.ownBlock] at b
 subst b
 refine .inr ⟨c,a,cur.setIfInBounds o u,rfl,hb,iN i u,f,hm,by simpa using hs,?_⟩
 rw [Array.toList_setIfInBounds,<- ht,take_set]
theorem yA {w:World}{base n size:Nat}{e:TypeId}{v:Value}{xs:List Value}(h:w.ownsRow base e size v n xs){g:Nat}(a:v.ownBlock=some g)(o:Nat):w.frozen? ⟨g,o,none⟩=false:=by
 rcases h.2 with ⟨rfl,_⟩|⟨d,b,cur,rfl,hb,c,_⟩
 ·cases a
 simp [Value.ownBlock] at a
 subst a
 exact bI c
theorem RT {α:Type}{l:List α}{i:Nat}{x:α}(h:l[i]?=some x):l.set i x=l:=by
 apply ext_getElem?
 intro j
 rw [getElem?_set]
 split
 ·rename_i e
  subst e
  rw [h,if_pos (gs.1 h).1]
 rfl
theorem DK.fzL {w:World}{base a b e:Nat}{D:List Fl}(h:DK w base a D)(d:w.cell? ⟨a,0,none⟩=some (.slice (so b) D.length e))(o:Nat):w.frozen? ⟨b,o,none⟩=false:=by
 obtain ⟨i,fv,h1,f,c,g,_⟩:=h.ex
 rw [d] at h1
 cases h1
 exact yA c rfl o
theorem DK.fzS {w:World}{base a b d:Nat}{D:List Fl}(h:DK w base a D)(f:w.cell? ⟨a,1,none⟩=some (.slice (so b) D.length d))(o:Nat):w.frozen? ⟨b,o,none⟩=false:=by
 obtain ⟨i,fv,h1,c,g,e,_⟩:=h.ex
 rw [f] at c
 cases c
 exact yA e rfl o
theorem qM:∀ (D:List Fl) (k j:Nat) (f f':Fl) (v:Value),D[k]?=some f->j < 2->f'.cells=f.cells.set j v->(D.set k f').flatMap Fl.cells=(D.flatMap Fl.cells).set (k*2+j) v
 | [],k,j,f,f',v,h,_,_=>by simp at h
 | d :: D,0,j,f,f',v,h,b,a=>by
  have:d=f:=by simpa using h
  subst this
  rw [set_cons_zero,flatMap_cons,flatMap_cons,a,Nat.zero_mul,Nat.zero_add,set_append_left _ _ (by simp;omega)]
 | d :: D,k+1,j,f,f',v,h,b,a=>by
  rw [set_cons_succ,flatMap_cons,flatMap_cons,qM D k j f f' v (by simpa using h) b a,set_append_right _ _ (by simp;omega)]
  congr 2
  simp
  omega
theorem AB {α β:Type}(g:α->β):∀ (D:List α) (k:Nat) (f f':α),D[k]?=some f->g f'=g f->(D.set k f').map g=D.map g
 | [],k,f,f',h,_=>by simp at h
 | d :: D,0,f,f',h,hs=>by
  have:d=f:=by simpa using h
  subst this
  simp [hs]
 | d :: D,k+1,f,f',h,hs=>by
  rw [set_cons_succ,map_cons,map_cons,AB g D k f f' (by simpa using h) hs]
theorem DK.setL {w:World}{base c k j b y:Nat}{D:List Fl}{f f':Fl}{v:Value}(h:DK w base c D)(l:D[k]?=some f)(p:w.cell? ⟨c,0,none⟩=some (.slice (so b) D.length y))(u:j < 2)(x:f'.cells=f.cells.set j v)(hs:f'.safe=f.safe):DK (w.setCell ⟨b,k*2+j,none⟩ v) base c (D.set k f')/\base<=b:=by
 have d:=h.lt
 have z:k < D.length:=(gs.1 l).1
 obtain ⟨⟨A,fv,h1,q,m,r,n,s,o⟩,hz,hb⟩:=h
 rw [p] at h1
 cases h1
 have hn:b≠c:=fun e=>n (by rw [e];rfl)
 have a:Fr [b] w (w.setCell ⟨b,k*2+j,none⟩ v):=(r0 _ _).setCell _ _ (by simp)
 refine ⟨⟨⟨_,fv,?_,?_,?_,?_,n,s,o⟩,fun i=>?_,Nat.le_trans hb a.size⟩,(m.lt b rfl).1⟩
 ·rw [a.cell c 0 d (by simp;omega)];exact p
 ·rw [a.cell c 1 d (by simp;omega)];exact q
 ·rw [length_set,qM D k j f f' v l u x]
  exact yC m rfl v
 ·rw [length_set,AB (fun f:Fl=>ii (f.safe:Int)) D k f f' l (by rw [hs])]
  exact aF r a (fun g t e=>o b rfl (by rw [t];simpa using e))
 rw [a.frozen c i d (by simp;omega)];exact hz i
theorem DK.setS {w:World}{base c k b s:Nat}{D:List Fl}{f:Fl}{n:Nat}(h:DK w base c D)(j:D[k]?=some f)(r:w.cell? ⟨c,1,none⟩=some (.slice (so b) D.length s)):DK (w.setCell ⟨b,k,none⟩ (ii (n:Int))) base c (D.set k { f with safe:=n })/\base<=b:=by
 have d:=h.lt
 have y:k < D.length:=(gs.1 j).1
 obtain ⟨⟨x,fv,h1,l,t,m,u,p,q⟩,hz,hb⟩:=h
 rw [r] at l
 cases l
 have hn:b≠c:=fun e=>p (by rw [e];rfl)
 have a:Fr [b] w (w.setCell ⟨b,k,none⟩ (ii (n:Int))):=(r0 _ _).setCell _ _ (by simp)
 refine ⟨⟨⟨x,_,?_,?_,?_,?_,u,p,q⟩,fun i=>?_,Nat.le_trans hb a.size⟩,(m.lt b rfl).1⟩
 ·rw [a.cell c 0 d (by simp;omega)];exact h1
 ·rw [a.cell c 1 d (by simp;omega)];exact r
 ·rw [length_set,qM D k 0 f { f with safe:=n } (sv f.name) j (by omega) rfl]
  have e:(D.flatMap Fl.cells).set (k*2+0) (sv f.name)=D.flatMap Fl.cells:=by
   have:=nZ D k 0 f j (by omega)
   exact RT this
  rw [e]
  exact aF t a (fun g v e=>q g v (by
    have:g=b:=by simpa using e
    rw [this];rfl))
 ·rw [length_set]
  have:=yC m (g:=b) (o:=k) rfl (ii (n:Int))
  rw [map_set]
  exact this
 rw [a.frozen c i d (by simp;omega)];exact hz i
abbrev lQ (s:Stp):Array Value:=#[ii s.what,sv s.name,sv s.to,sv s.data]
def lU (base a:Nat)(w c:World):Prop:=∃ S:List Nat,(∀ b∈S,b=a\/base<=b)/\Fr S w c
theorem FU (base g:Nat)(D:List Fl)(n x:Nm)(f:Fl)(w:World)(h:DK w base g D)(hl:D.length<=100000000)(C:D[aX D n]?=some f)(hx:f.data.length+x.length<=1000000000000000) :
  Cs 73 #[.pointer (so g),.agg (lQ (dA n x))] w fun e a=>e=.returned (.bool true)/\DK a base g (D.set (aX D n) { f with data:=f.data ++ x })/\lU base g w a:=by
 have P:aX D n < D.length:=(gs.1 C).1
 have z:gL D n=(aX D n:Int):=by unfold gL;rw [if_pos P]
 have s:=h.lt
 obtain ⟨m,Q,fb,fc,K,Y,d2,H,d4⟩:=h.at C
 have M:=aI H
 obtain ⟨k,t⟩:∃ k,k=aX D n:=⟨_,rfl⟩
 have r:Hi (∀ a,Fr [] w a->Cs 113 #[.pointer (so g),sv n] a fun e N=>e=.returned (.int .i64 (k:Int))/\a=N):=fun a b=>by
  have:=mC base g D n a (h.fr0 b) (by omega)
  rw [z,<- t] at this
  exact this
 rw [<- t] at C P H |-
 have S:Hi (∀ a,Fr [] w a->DK (a.setCell ⟨m,k*2+1,none⟩ (sv (f.data ++ x))) base g (D.set k { f with data:=f.data ++ x })/\base<=m):=fun a b=>(h.fr0 b).setL C ((b.cell g 0 s (by simp)).trans K) (by omega) rfl rfl
 have E:∀ a,Fr [] w a->a.frozen? ⟨m,k*2+1,none⟩=false:=fun a b=>(h.fr0 b).fzL ((b.cell g 0 s (by simp)).trans K) _
 obtain ⟨A,I⟩:∃ A:ByteArray,A=⟨f.data.toArray⟩:=⟨_,rfl⟩
 obtain ⟨B,L⟩:∃ B:ByteArray,B=⟨n.toArray⟩:=⟨_,rfl⟩
 obtain ⟨X,J⟩:∃ X:ByteArray,X=⟨x.toArray⟩:=⟨_,rfl⟩
 have ab:A.size+X.size<=9223372036854775807:=by rw [I,J];show f.data.length+x.length<=_;omega
 have R:Hi (Value.string (A ++ X)=sv (f.data ++ x)):=by show _=_;rw [I,J,jO]
 rw [sv,<- I] at H
 rw [sv,<- L] at r
 show Cs 73 #[.pointer (so g),.agg #[ii 1,sv n,.string ⟨#[]⟩,sv x]] w _
 rw [sv,sv,<- L,<- J]
 clear I L J h z t Y d2 d4 C hx
 go_enter Tryz.func73,Tryz.ntmps73
 obtain ⟨q,l⟩:∃ W,W=w.alloc (.cells #[ii 1,.string B,.string ⟨#[]⟩,.string X] 113):=⟨_,rfl⟩
 have j:Fr [] w q:=by rw [l];exact (r0 _ _).alloc _
 have F:q.heap[w.heap.size]?=some (.cells #[ii 1,.string B,.string ⟨#[]⟩,.string X] 113):=by rw [l];exact aC _ _
 go_wp2_with fail
 rw [<- l]
 refine Calls.mono (r.o q j) ?_
 rintro e w1 ⟨rfl,rfl⟩
 have e0:q.cell? ⟨w.heap.size,0,none⟩=some (ii 1):=aB F
 have aa:¬ (k:Int) < 0:=by omega
 have V:∀ a,Fr [] q a->(fun a:World=>a.cell? ⟨g,0,none⟩=some (.slice (so m) D.length Q)/\a.cell? ⟨m,k*2+1,none⟩=some (.string A)/\a.cell? ⟨w.heap.size,3,none⟩=some (.string X)) a:=fun a b=>⟨((j.then0 b).cell g 0 s (by simp)).trans K,((j.then0 b).cell m _ M (by simp)).trans H,by rw [aB (b.heap0 F)];rfl⟩
 have c:=V q.drew ((r0 _ _).drew)
 have z0:=E q.drew (j.drew)
 have O:=(S.o q.drew j.drew)
 have u:=aA O
 clear l r O E
 go_wp2_with fail
 refine OneFree.region (fun a:World=>a.cell? ⟨g,0,none⟩=some (.slice (so m) D.length Q)/\a.cell? ⟨m,k*2+1,none⟩=some (.string A)/\a.cell? ⟨w.heap.size,3,none⟩=some (.string X)) 18 (by kernel_rfl) ?_
 refine (show OneFree Tryz.prog Region.Mode.any _ _ _ 18 19 (Array.replicate 19 false) _ _ from ?_)
 refine tv 0 c ?_;try simp only [Act.put,Z]
 refine tv 1 c ?_;try simp only [Act.put,Z]
 refine tv 2 c ?_;try simp only [Act.put,Z]
 refine tv 3 c ?_;try simp only [Act.put,Z]
 refine tv 4 c ?_;try simp only [Act.put,Z]
 refine tv 5 c ?_;try simp only [Act.put,Z]
 refine tv 6 c ?_;try simp only [Act.put,Z]
 refine tv 7 c ?_;try simp only [Act.put,Z]
 refine tv 8 c ?_;try simp only [Act.put,Z]
 refine tv 9 c ?_;try simp only [Act.put,Z]
 refine tv 10 c ?_;try simp only [Act.put,Z]
 refine tv 11 c ?_;try simp only [Act.put,Z]
 refine tv 12 c ?_;try simp only [Act.put,Z]
 refine tv 13 c ?_;try simp only [Act.put,Z]
 refine tv 14 c ?_;try simp only [Act.put,Z]
 refine OneFree.take (i:=15) (v:=?_) (by simp only [G];rfl) (by kernel_rfl) (by kernel_rfl) (by kernel_rfl) (by kernel_rfl) (by decide) (by exact fun _ _ _ h=>h) (.inl ⟨by rfl,?_⟩) c ?_
 rotate_left
 focus (first|(intro a y;go_simp;with_reducible rfl)|(intro a y;go_simp;done)|(intro a y;go_simp;rw [if_neg (by omega)]))
 try simp only [Act.put,Z]
 refine o1 16 fun K' d=>?_
 have p:=aA d
 clear d
 go_simp
 refine p.o _ _ ⟨fun _=>c,?_⟩
 clear p K';try simp only [Act.put,Z]
 refine o1 17 fun K' d=>?_
 have p:=aA d
 clear d
 go_simp
 refine p.o _ _ ⟨fun _=>c,?_⟩
 clear p K';try simp only [Act.put,Z]
 refine o1 18 fun K' d=>?_
 have p:=aA d
 clear d
 obtain ⟨k1,k2,k3⟩:=c
 go_simp
 refine p.o _ _ ⟨fun h6=>absurd rfl h6,OneFree.done (by kernel_rfl) ?_ _⟩
 clear p K'
 rw [R.o]
 go_wp2_with fail
 go_ret
 exact ⟨rfl,u.o.1,[m],by simp;exact .inr u.o.2,(j.drew.of0).setCell _ _ (by simp)⟩
theorem FW (base g:Nat)(D:List Fl)(n:Nm)(f:Fl)(w:World)(h:DK w base g D)(hl:D.length<=100000000)(v:D[aX D n]?=some f) :
  Cs 73 #[.pointer (so g),.agg (lQ (dB n))] w fun e a=>e=.returned (.bool true)/\DK a base g (D.set (aX D n) { f with safe:=f.data.length })/\lU base g w a:=by
 have O:aX D n < D.length:=(gs.1 v).1
 have u:gL D n=(aX D n:Int):=by unfold gL;rw [if_pos O]
 have m:=h.lt
 obtain ⟨y,P,p,M,V,C,X,z,E⟩:=h.at v
 have K:=aI z
 have I:=aI E
 obtain ⟨k,r⟩:∃ k,k=aX D n:=⟨_,rfl⟩
 have q:Hi (∀ a,Fr [] w a->Cs 113 #[.pointer (so g),sv n] a fun e L=>e=.returned (.int .i64 (k:Int))/\a=L):=fun a b=>by
  have:=mC base g D n a (h.fr0 b) (by omega)
  rw [u,<- r] at this
  exact this
 rw [<- r] at v O z E |-
 have R:Hi (∀ a,Fr [] w a->DK (a.setCell ⟨p,k,none⟩ (ii (f.data.length:Int))) base g (D.set k { f with safe:=f.data.length })/\base<=p):=fun a b=>(h.fr0 b).setS v ((b.cell g 1 m (by simp)).trans C)
 have x:∀ a,Fr [] w a->a.frozen? ⟨p,k,none⟩=false:=fun a b=>(h.fr0 b).fzS ((b.cell g 1 m (by simp)).trans C) _
 obtain ⟨A,F⟩:∃ A:ByteArray,A=⟨f.data.toArray⟩:=⟨_,rfl⟩
 obtain ⟨B,H⟩:∃ B:ByteArray,B=⟨n.toArray⟩:=⟨_,rfl⟩
 have Q:Hi ((A.size:Int)=(f.data.length:Int)):=by show _=_;rw [F];rfl
 rw [sv,<- F] at z
 rw [sv,<- H] at q
 show Cs 73 #[.pointer (so g),.agg #[ii 2,sv n,.string ⟨#[]⟩,.string ⟨#[]⟩]] w _
 rw [sv,<- H]
 clear F H h u r X v
 go_enter Tryz.func73,Tryz.ntmps73
 obtain ⟨j,l⟩:∃ W,W=w.alloc (.cells #[ii 2,.string B,.string ⟨#[]⟩,.string ⟨#[]⟩] 113):=⟨_,rfl⟩
 have c:Fr [] w j:=by rw [l];exact (r0 _ _).alloc _
 have J:j.heap[w.heap.size]?=some (.cells #[ii 2,.string B,.string ⟨#[]⟩,.string ⟨#[]⟩] 113):=by rw [l];exact aC _ _
 go_wp2_with fail
 rw [<- l]
 refine Calls.mono (q.o j c) ?_
 rintro e w1 ⟨rfl,rfl⟩
 have e0:ca j w.heap.size 0 (ii 2):=aB J
 have aa:(0:Int)<=(k:Int):=by omega
 have S:∀ a,Fr [] j a->(fun a:World=>ca a g 0 (.slice (so y) D.length P)/\ca a g 1 (.slice (so p) D.length M)/\ca a y (k*2+1) (.string A)) a:=fun a b=>⟨((c.then0 b).cell g 0 m (by simp)).trans V,((c.then0 b).cell g 1 m (by simp)).trans C,((c.then0 b).cell y _ K (by simp)).trans z⟩
 have d:=S j.drew ((r0 _ _).drew)
 have z0:=x j.drew (c.drew)
 have c4:j.drew.cell? ⟨p,k,none⟩=some (ii (f.safe:Int)):=(c.drew.cell p k I (by simp)).trans E
 have N:=(R.o j.drew c.drew)
 have t:=aA N
 clear l q N x
 go_wp2_with fail
 refine OneFree.region (fun a:World=>a.cell? ⟨g,0,none⟩=some (.slice (so y) D.length P)/\a.cell? ⟨g,1,none⟩=some (.slice (so p) D.length M)/\a.cell? ⟨y,k*2+1,none⟩=some (.string A)) 15 (by kernel_rfl) ?_
 refine (show OneFree Tryz.prog Region.Mode.any _ _ _ 15 16 (Array.replicate 16 false) _ _ from ?_)
 refine tv 0 d ?_;try simp only [Act.put,Z]
 refine tv 1 d ?_;try simp only [Act.put,Z]
 refine tv 2 d ?_;try simp only [Act.put,Z]
 refine tv 3 d ?_;try simp only [Act.put,Z]
 refine tv 4 d ?_;try simp only [Act.put,Z]
 refine tv 5 d ?_;try simp only [Act.put,Z]
 refine tv 6 d ?_;try simp only [Act.put,Z]
 refine tv 7 d ?_;try simp only [Act.put,Z]
 refine tv 8 d ?_;try simp only [Act.put,Z]
 refine tv 9 d ?_;try simp only [Act.put,Z]
 refine tv 10 d ?_;try simp only [Act.put,Z]
 refine tv 11 d ?_;try simp only [Act.put,Z]
 refine tv 12 d ?_;try simp only [Act.put,Z]
 refine tv 13 d ?_;try simp only [Act.put,Z]
 refine o1 14 fun K' i=>?_
 have s:=aA i
 clear i
 go_simp
 refine s.o _ _ ⟨fun _=>d,?_⟩
 clear s K';try simp only [Act.put,Z]
 refine o1 15 fun K' i=>?_
 have s:=aA i
 clear i
 obtain ⟨k1,k2,k3⟩:=d
 go_simp
 refine s.o _ _ ⟨fun Y=>absurd rfl Y,OneFree.done (by kernel_rfl) ?_ _⟩
 clear s K'
 rw [Q.o]
 go_wp2_with fail
 go_ret
 exact ⟨rfl,t.o.1,[p],by simp;exact .inr t.o.2,(c.drew.of0).setCell _ _ (by simp)⟩
theorem qP {n m:Nm}(hn:¬ n=m):∀ D:List Fl,aX D n < D.length->aX (bZ D m) n < (bZ D m).length
 | [],h=>by simp [aX] at h
 | f :: D,h=>by
  unfold aX at h
  by_cases e:f.name=n
  ·have hm:¬ f.name=m:=fun q=>hn (e.symm.trans q)
   have:bZ (f :: D) m=f :: bZ D m:=by unfold bZ;rw [filter_cons_of_pos (by simp [hm])]
   rw [this]
   unfold aX
   rw [if_pos e]
   simp
  rw [if_neg e] at h
  have a:=qP hn D (by simpa using h)
  by_cases hm:f.name=m
  ·have:bZ (f :: D) m=bZ D m:=by unfold bZ;rw [filter_cons_of_neg (by simp [hm])]
   rw [this]
   exact a
  have:bZ (f :: D) m=f :: bZ D m:=by unfold bZ;rw [filter_cons_of_pos (by simp [hm])]
  rw [this]
  unfold aX
  rw [if_neg e]
  simpa using a
theorem FV (base c:Nat)(D:List Fl)(n m:Nm)(f:Fl)(w:World)(h:DK w base c D)(hl:D.length<=100000000)(S:aX D n < D.length)(ab:¬ n=m)(P:(bZ D m)[aX (bZ D m) n]?=some f) :
  Cs 73 #[.pointer (so c),.agg (lQ (eV n m))] w fun e a=>e=.returned (.bool true)/\DK a base c ((bZ D m).set (aX (bZ D m) n) { f with name:=m })/\lU base c w a:=by
 have O:gL D n=(aX D n:Int):=by unfold gL;rw [if_pos S]
 have hk:aX (bZ D m) n < (bZ D m).length:=(gs.1 P).1
 have i:gL (bZ D m) n=(aX (bZ D m) n:Int):=by unfold gL;rw [if_pos hk]
 have ae:=h.lt
 have ac:=sA D m
 obtain ⟨k0,y⟩:∃ k,k=aX D n:=⟨_,rfl⟩
 obtain ⟨k,J⟩:∃ k,k=aX (bZ D m) n:=⟨_,rfl⟩
 have A:Hi (∀ a,Fr [] w a->Cs 113 #[.pointer (so c),sv n] a fun e l=>e=.returned (.int .i64 (k0:Int))/\a=l):=fun a H=>by
  have:=mC base c D n a (h.fr0 H) (by omega)
  rw [O,<- y] at this
  exact this
 have s:Hi (∀ a,Fr [] w a->Cs 114 #[.pointer (so c),sv m] a fun e l=>e=.returned (.tuple #[])/\DK l base c (bZ D m)/\Fr [c] a l):=fun a H=>QR base c D m a (h.fr0 H) hl
 obtain ⟨E,hE⟩:∃ E,E=bZ D m:=⟨_,rfl⟩
 rw [<- hE] at s P i J ac hk |-
 rw [<- J] at P i hk |-
 have z:Hi (∀ a,DK a base c E->Cs 113 #[.pointer (so c),sv n] a fun e l=>e=.returned (.int .i64 (k:Int))/\a=l):=fun a hd=>by
  have:=mC base c E n a hd (by omega)
  rw [i] at this
  exact this
 obtain ⟨B,Y⟩:∃ B:ByteArray,B=⟨n.toArray⟩:=⟨_,rfl⟩
 obtain ⟨M,N⟩:∃ B:ByteArray,B=⟨m.toArray⟩:=⟨_,rfl⟩
 have ad:(B.toList==M.toList)=false:=by rw [Y,N,ByteArray.toList_mk,ByteArray.toList_mk];simpa using ab
 have HM:=aA N
 simp only [sv,<- Y] at A z
 simp only [sv,<- N] at s
 show Cs 73 #[.pointer (so c),.agg #[ii 3,sv n,sv m,.string ⟨#[]⟩]] w _
 simp only [sv,<- Y,<- N]
 have HF:=aA P
 clear Y N h O i J y hE P S
 go_enter Tryz.func73,Tryz.ntmps73
 obtain ⟨C,t⟩:∃ W,W=w.alloc (.cells #[ii 3,.string B,.string M,.string ⟨#[]⟩] 113):=⟨_,rfl⟩
 have I:Fr [] w C:=by rw [t];exact (r0 _ _).alloc _
 have u:C.heap[w.heap.size]?=some (.cells #[ii 3,.string B,.string M,.string ⟨#[]⟩] 113):=by rw [t];exact aC _ _
 go_wp2_with fail
 rw [<- t]
 refine Calls.mono (A.o C I) ?_
 rintro e w1 ⟨rfl,rfl⟩
 have e0:C.cell? ⟨w.heap.size,0,none⟩=some (ii 3):=aB u
 have e1:C.cell? ⟨w.heap.size,1,none⟩=some (.string B):=aB u
 have e2:C.cell? ⟨w.heap.size,2,none⟩=some (.string M):=aB u
 have af:¬ (k0:Int) < 0:=by omega
 clear t A
 go_wp2_with fail
 refine Calls.mono (s.o C I) ?_
 rintro e K ⟨rfl,F,Q⟩
 have R:=Q.heap u (by simp;omega)
 have g1:K.cell? ⟨w.heap.size,1,none⟩=some (.string B):=aB R
 have C2:=z.o K F
 have r:=aA F
 clear s z e0 e1 e2 F
 go_wp2_with fail
 refine Calls.mono C2 ?_
 rintro e w3 ⟨rfl,rfl⟩
 obtain ⟨V,lc,fb,fc,X,d1,d2,d3,d4⟩:=r.o.at HF.o
 have aa:=aI d2
 have p:=r.o.lt
 have g:Fr [] K K.drew:=(r0 _ _).drew
 have q:(fun a:World=>a.cell? ⟨c,0,none⟩=some (.slice (so V) E.length lc)/\a.cell? ⟨w.heap.size,2,none⟩=some (.string M)) K.drew:=⟨(g.cell c 0 p (by simp)).trans X,by rw [aB (g.heap0 R)];rfl⟩
 have z0:=(r.o.fr0 g).fzL ((g.cell c 0 p (by simp)).trans X) (k*2)
 have c4:K.drew.cell? ⟨V,k*2,none⟩=some (sv f.name):=(g.cell V _ aa (by simp)).trans d2
 have hP:=(r.o.fr0 g).setL (j:=0) (f':={ f with name:=m }) (v:=.string M) HF.o ((g.cell c 0 p (by simp)).trans X) (by omega) (by rw [HM.o];rfl) rfl
 have L:=aA hP
 clear C2 hP d1 d3 d4 X d2
 go_wp2_with fail
 refine OneFree.region (fun a:World=>a.cell? ⟨c,0,none⟩=some (.slice (so V) E.length lc)/\a.cell? ⟨w.heap.size,2,none⟩=some (.string M)) 9 (by kernel_rfl) ?_
 refine (show OneFree Tryz.prog Region.Mode.any _ _ _ 9 10 (Array.replicate 10 false) _ _ from ?_)
 refine tv 0 q ?_;try simp only [Act.put,Z]
 refine tv 1 q ?_;try simp only [Act.put,Z]
 refine tv 2 q ?_;try simp only [Act.put,Z]
 refine tv 3 q ?_;try simp only [Act.put,Z]
 refine tv 4 q ?_;try simp only [Act.put,Z]
 refine tv 5 q ?_;try simp only [Act.put,Z]
 refine tv 6 q ?_;try simp only [Act.put,Z]
 refine o1 7 fun K' d=>?_
 have x:=aA d
 clear d
 go_simp
 refine x.o _ _ ⟨fun _=>q,?_⟩
 clear x K';try simp only [Act.put,Z]
 refine o1 8 fun K' d=>?_
 have x:=aA d
 clear d
 go_simp
 refine x.o _ _ ⟨fun _=>q,?_⟩
 clear x K';try simp only [Act.put,Z]
 refine o1 9 fun K' d=>?_
 have x:=aA d
 clear d
 obtain ⟨k1,k2⟩:=q
 go_simp
 refine x.o _ _ ⟨fun h6=>absurd rfl h6,OneFree.done (by kernel_rfl) ?_ _⟩
 clear x K'
 go_wp2_with fail
 go_ret
 exact ⟨rfl,L.o.1,[c,V],by simp;exact .inr L.o.2,((I.of0.trans Q (fun b hb=>.inl (by simp at hb;simp [hb]))).drew).setCell _ _ (by simp)⟩
theorem Fsq (base a:Nat)(D:List Fl)(n x:Nm)(w:World)(h:DK w base a D)(hl:D.length<=100000000)(Zq:¬ aX D n < D.length) :
  Cs 73 #[.pointer (so a),.agg (lQ (dA n x))] w fun e i=>e=.returned (.bool true)/\DK i base a (D ++ [⟨n,x,0⟩])/\lU base a w i:=by
 obtain ⟨bs,bj,bp,bq,br⟩:=info_parts wD
 obtain ⟨ax,bk,bm,bn,bo⟩:=info_parts wF
 have ao:gL D n = -1:=by unfold gL;rw [if_neg Zq]
 have Q:=h.lt
 have bh:=h.hb
 have ac:Hi (∀ i,Fr [] w i->Cs 113 #[.pointer (so a),sv n] i fun e bu=>e=.returned (.int .i64 (-1))/\i=bu):=fun i K=>by
  have:=mC base a D n i (h.fr0 K) (by omega)
  rw [ao] at this
  exact this
 obtain ⟨⟨lv,fv,c0,c1,h3,h4,h5,h6,h7⟩,hz,_⟩:=h
 obtain ⟨L,M,rfl⟩:=fR h3
 obtain ⟨C,E,rfl⟩:=fR h4
 have cd:=hz 0
 have ce:=hz 1
 have H3:=(show Hi (w.ownsRow base 115 2 (.slice L D.length M) D.length (D.flatMap Fl.cells)) from h3)
 have H4:=(show Hi (w.ownsRow base 3 1 (.slice C D.length E) D.length (jJ D)) from h4)
 have H5:=aA h5
 have H6:=aA h6
 have H7:=aA h7
 have HZ:=aA hz
 obtain ⟨B,hB⟩:∃ B:ByteArray,B=⟨n.toArray⟩:=⟨_,rfl⟩
 obtain ⟨X,hX⟩:∃ X:ByteArray,X=⟨x.toArray⟩:=⟨_,rfl⟩
 have bb:Hi (([⟨n,x,0⟩]:List Fl).flatMap Fl.cells=[.string B,.string X]):=by show _=_;rw [hB,hX];rfl
 simp only [sv,<- hB] at ac
 show Cs 73 #[.pointer (so a),.agg #[ii 1,sv n,.string ⟨#[]⟩,sv x]] w _
 simp only [sv,<- hB,<- hX]
 clear hB hX ao h3 h4 h5 h6 h7 Zq hz
 go_enter Tryz.func73,Tryz.ntmps73
 obtain ⟨s,O⟩:∃ W,W=w.alloc (.cells #[ii 1,.string B,.string ⟨#[]⟩,.string X] 113):=⟨_,rfl⟩
 have m:Fr [] w s:=by rw [O];exact (r0 _ _).alloc _
 have V:s.heap[w.heap.size]?=some (.cells #[ii 1,.string B,.string ⟨#[]⟩,.string X] 113):=by rw [O];exact aC _ _
 go_wp2_with fail
 rw [<- O]
 refine Calls.mono (ac.o s m) ?_
 rintro e w1 ⟨rfl,rfl⟩
 have e0:s.cell? ⟨w.heap.size,0,none⟩=some (ii 1):=aB V
 have HS:∀ S i,Fr S s i->a∉S->w.heap.size∉S->(fun i:World=>i.cell? ⟨a,0,none⟩=some (.slice L D.length M)/\i.cell? ⟨w.heap.size,1,none⟩=some (.string B)/\i.cell? ⟨w.heap.size,3,none⟩=some (.string X)) i:=fun S i K n1 n2=>⟨(K.cell a 0 (Nat.lt_of_lt_of_le Q m.size) n1).trans ((m.cell a 0 Q (by simp)).trans c0),by rw [aB (K.heap V n2)];rfl,by rw [aB (K.heap V n2)];rfl⟩
 have l:=HS [] s.drew ((r0 _ _).drew) (by simp) (by simp)
 have bz:w.heap.size < s.heap.size:=aH V
 clear O ac
 go_wp2_with fail
 refine OneFree.region (fun i:World=>i.cell? ⟨a,0,none⟩=some (.slice L D.length M)/\i.cell? ⟨w.heap.size,1,none⟩=some (.string B)/\i.cell? ⟨w.heap.size,3,none⟩=some (.string X)) 14 (by kernel_rfl) ?_
 refine (show OneFree Tryz.prog Region.Mode.any _ _ _ 14 15 (Array.replicate 15 false) _ _ from ?_)
 refine tv 0 l ?_;try simp only [Act.put,Z]
 refine tv 1 l ?_;try simp only [Act.put,Z]
 refine tv 2 l ?_;try simp only [Act.put,Z]
 refine tv 3 l ?_;try simp only [Act.put,Z]
 refine tv 4 l ?_;try simp only [Act.put,Z]
 refine tv 5 l ?_;try simp only [Act.put,Z]
 refine tv 6 l ?_;try simp only [Act.put,Z]
 refine tv 7 l ?_;try simp only [Act.put,Z]
 refine tv 8 l ?_;try simp only [Act.put,Z]
 refine tv 9 l ?_;try simp only [Act.put,Z]
 refine o1 10 fun K' c=>?_
 have A:=aA c
 clear c
 go_simp
 obtain ⟨W2,P⟩:∃ W,W=(s.alloc (.cells #[.string B,.string X] 115)).drew:=⟨_,rfl⟩
 rw [<- P]
 have R:Fr [] s W2:=by rw [P];exact ((r0 _ _).alloc _).drew
 have Zr:∀ (j:Nat) (y:Value),[Value.string B,.string X][j]?=some y->W2.cell? ((⟨s.heap.size,0,none⟩:Addr).add j)=some y:=by rw [P];exact cU s [.string B,.string X] 115
 have cb:=R.size
 have au:W2.ownsRow base 115 2 (.slice L D.length M) D.length (D.flatMap Fl.cells):=aF (aF H3.o m (by simp)) R (by simp)
 clear P l
 have l:=HS [] W2 R (by simp) (by simp)
 refine A.o _ _ ⟨fun _=>l,?_⟩
 clear A K';try simp only [Act.put,Z]
 refine o1 11 fun K' c=>?_
 have A:=aA c
 clear c
 rw [if_pos (by rfl)]
 refine kS _ _ 51 rfl base 115 bs (.agg #[.string ⟨#[]⟩,.string ⟨#[]⟩]) 2 32 Tryz.underlying51 bj bp bq br rfl (.slice L D.length M) D.length (D.flatMap Fl.cells) rfl au ⟨s.heap.size,0,none⟩ 1 1 [.string B,.string X] rfl rfl Zr (by simp [Value.oneCell']) (by unfold maxLen;omega) (by omega) (by omega) (by omega) ?_
 intro v3 w3 ag bl ad
 obtain ⟨f,c3,rfl⟩:=bK ag (by omega)
 have bi:=bE ad
 have t:Fr (Value.ownBlock (.slice L D.length M)).toList s w3:=R.of0.trans bi (fun b hb=>.inl hb)
 have ah:a∉(Value.ownBlock (.slice L D.length M)).toList:=fun e=>H5.o (by simpa using e)
 have bt:w.heap.size∉(Value.ownBlock (.slice L D.length M)).toList:=fun e=>by have:=(H3.o.lt _ (by simpa using e)).2;omega
 clear l
 have l:=HS _ w3 t ah bt
 have aq:a < s.heap.size:=by omega
 have ai:∀ k,w3.frozen? ⟨a,k,none⟩=false:=fun k=>(t.frozen a k aq ah).trans ((m.frozen a k Q (by simp)).trans (HZ.o k))
 have bv:=ai 0
 have ak:w3.cell? ⟨a,1,none⟩=some (.slice C D.length E):=(t.cell a 1 aq ah).trans ((m.cell a 1 Q (by simp)).trans c1)
 have bd:=(show Hi (w3.ownsRow base 115 2 (.slice (so f) (D.length+1) c3) (D.length+1) (D.flatMap Fl.cells ++ [.string B,.string X])) from ag)
 have aj:=aA ad
 have am:w3.ownsRow base 3 1 (.slice C D.length E) D.length (jJ D):=aF (aF H4.o m (by simp)) t (fun g z e=>H7.o g (by simpa using e) z)
 refine A.o _ _ ⟨fun _=>l,?_⟩
 clear A K' Zr au ag bl ad;try simp only [Act.put,Z]
 refine o1 12 fun K' c=>?_
 have A:=aA c
 clear c
 go_simp
 refine A.o _ _ ⟨fun _=>l,?_⟩
 clear A K';try simp only [Act.put,Z]
 refine o1 13 fun K' c=>?_
 have A:=aA c
 clear c
 go_simp
 refine A.o _ _ ⟨fun _=>l,?_⟩
 clear A K';try simp only [Act.put,Z]
 refine o1 14 fun K' c=>?_
 have A:=aA c
 clear c
 obtain ⟨k1,k2,k3⟩:=l
 go_simp
 refine A.o _ _ ⟨fun h6=>absurd rfl h6,OneFree.done (by kernel_rfl) ?_ _⟩
 clear A K'
 obtain ⟨d,H⟩:∃ W,W=w3.setCell ⟨a,0,none⟩ (.slice (so f) (D.length+1) c3):=⟨_,rfl⟩
 rw [<- H]
 have J:Fr [a] w3 d:=by rw [H];exact (r0 _ _).setCell _ _ (by simp)
 have ab:d.cell? ⟨a,0,none⟩=some (.slice (so f) (D.length+1) c3):=by rw [H];exact dO _ _ _ _ _ k1
 have ap:d.cell? ⟨a,1,none⟩=some (.slice C D.length E):=by rw [H,cA _ _ _ _ _ _ (.inr (by omega))];exact ak
 have ay:∀ k,d.frozen? ⟨a,k,none⟩=false:=fun k=>by rw [H,show ∀ (W:World) (p:Addr) (v:Value),(W.setCell p v).frozen? ⟨a,k,none⟩=W.frozen? ⟨a,k,none⟩ from fun W p v=>by simp];exact ai k
 have be:f≠a:=fun e=>by
  rcases aj.o with ⟨q,_⟩|⟨q,_⟩
  ·exact H5.o (by rw [<- q,e];rfl)
  have:f=W2.heap.size:=by simpa [Value.ownBlock] using q
  omega
 have av:d.ownsRow base 3 1 (.slice C D.length E) D.length (jJ D):=aF am J (fun g z e=>by
  have:g=a:=by simpa using e
  subst this
  exact H6.o z)
 have aa:=(show Hi (d.ownsRow base 115 2 (.slice (so f) (D.length+1) c3) (D.length+1) (D.flatMap Fl.cells ++ [.string B,.string X])) from aF bd.o J (fun g z e=>by
  have h1:g=a:=by simpa using e
  have h2:f=g:=by simpa [Value.ownBlock] using z
  omega))
 have az:Hi ((d.alloc (.cells #[ii 0] 3)).ownsRow base 3 1 (.slice C D.length E) D.length (jJ D)):=av.alloc _
 have bc:Hi (∀ (j:Nat) (u:Value),[ii 0][j]?=some u->(d.alloc (.cells #[ii 0] 3)).cell? ((⟨d.heap.size,0,none⟩:Addr).add j)=some u):=cU d [ii 0] 3
 have I:a < d.heap.size:=aI ab
 have cc:s.heap.size<=d.heap.size:=by have:=t.size;have:=J.size;omega
 have Y:a∉(Value.ownBlock (.slice C D.length E)).toList:=fun e=>H6.o (by simpa using e)
 have ba:Hi (∀ w5,Fr (Value.ownBlock (.slice C D.length E)).toList (d.alloc (.cells #[ii 0] 3)) w5->w5.cell? ⟨a,1,none⟩=some (.slice C D.length E)/\w5.frozen? ⟨a,1,none⟩=false/\w5.cell? ⟨a,0,none⟩=some (.slice (so f) (D.length+1) c3)):=fun w5 hf=>by
  have ha:Fr [] d (d.alloc (.cells #[ii 0] 3)):=(r0 _ _).alloc _
  have af:=Nat.lt_of_lt_of_le I ha.size
  exact ⟨(hf.cell a 1 af Y).trans ((ha.cell a 1 I (by simp)).trans ap),(hf.frozen a 1 af Y).trans ((ha.frozen a 1 I (by simp)).trans (ay 1)),(hf.cell a 0 af Y).trans ((ha.cell a 0 I (by simp)).trans ab)⟩
 clear H HS k1 k2 k3 bv ak am av ai
 go_wp2_with (
      at_builtin
      refine dR rfl _ _ 25 rfl base 3 ax (ii 0) 1 8 Tryz.underlying25 bk bm bn bo rfl (.slice C D.length E) D.length (jJ D) rfl az.o ⟨d.heap.size,0,none⟩ 1 1 [ii 0] rfl rfl bc.o (by simp [Value.oneCell']) (by unfold maxLen;omega) (by omega) (by simp;omega) (by omega) ?_
      intro v5 w5 aw Zs ae
      obtain ⟨g5,c5,rfl⟩:=bK aw (by omega)
      obtain ⟨q1,q2,q3⟩:=ba.o w5 (bE ae))
 go_ret
 have hA:Fr [] d (d.alloc (.cells #[ii 0] 3)):=(r0 _ _).alloc _
 have F:=bE ae
 have N:Fr [a] w5 (w5.setCell ⟨a,1,none⟩ (.slice (so g5) (D.length+1) c5)):=(r0 _ _).setCell _ _ (by simp)
 have ar:∀ g,Value.ownBlock (.slice C D.length E)=some g->g < w.heap.size:=fun g z=>(H4.o.lt g z).2
 have al:Value.ownBlock (.slice L D.length M)=some f\/f=W2.heap.size:=by
  rcases aj.o with ⟨q,_⟩|⟨q,_⟩
  ·exact .inl (by rw [<- q];rfl)
  exact .inr (by simpa [Value.ownBlock] using q)
 have an:Value.ownBlock (.slice C D.length E)=some g5\/g5=d.heap.size+1:=by
  rcases ae with ⟨q,_⟩|⟨q,_⟩
  ·exact .inl (by rw [<- q];rfl)
  exact .inr (by simpa [Value.ownBlock] using q)
 have bx:f < d.heap.size:=(aa.o.lt f rfl).2
 have bw:f≠g5:=fun e=>by
  rcases an with q|q
  ·rcases al with r|r
   ·exact H7.o f r (by rw [e];exact q)
   have:=ar _ q;omega
  omega
 have bg:Value.ownBlock (.slice C D.length E)≠some f:=fun q=>by
  rcases al with r|r
  ·exact H7.o f r q
  have:=ar _ q;omega
 have bf:g5≠a:=fun e=>by
  rcases an with q|q
  ·exact H6.o (by rw [q,e])
  omega
 refine ⟨rfl,⟨⟨.slice (so f) (D.length+1) c3,.slice (so g5) (D.length+1) c5,?_,dO _ _ _ _ _ q1,?_,?_,?_,?_,?_⟩,fun k=>?_,?_⟩,?_⟩
 ·rw [cA _ _ _ _ _ _ (.inr (by omega))];exact q3
 ·rw [length_append,flatMap_append,bb.o]
  refine aF (aF (aF aa.o hA (by simp)) F (fun g z e=>?_)) N (fun g z e=>?_)
  ·have h2:f=g:=by simpa [Value.ownBlock] using z
   exact bg (by rw [h2];simpa using e)
  have h2:f=g:=by simpa [Value.ownBlock] using z
  have h1:g=a:=by simpa using e
  omega
 ·rw [length_append,map_append]
  refine aF aw N (fun g z e=>?_)
  have h2:g5=g:=by simpa [Value.ownBlock] using z
  have h1:g=a:=by simpa using e
  omega
 ·simp [Value.ownBlock];exact be
 ·simp [Value.ownBlock];exact bf
 ·intro g z e
  have h2:f=g:=by simpa [Value.ownBlock] using z
  have h1:g5=g:=by simpa [Value.ownBlock] using e
  omega
 ·rw [show ∀ (W:World) (p:Addr) (v:Value),(W.setCell p v).frozen? ⟨a,k,none⟩=W.frozen? ⟨a,k,none⟩ from fun W p v=>by simp,F.frozen a k (Nat.lt_of_lt_of_le I hA.size) Y,hA.frozen a k I (by simp)]
  exact ay k
 ·exact Nat.le_trans bh (Nat.le_trans m.size (Nat.le_trans t.size (Nat.le_trans J.size (Nat.le_trans hA.size (Nat.le_trans F.size N.size)))))
 refine ⟨a :: ((Value.ownBlock (.slice L D.length M)).toList ++ (Value.ownBlock (.slice C D.length E)).toList),fun b hb=>?_,?_⟩
 ·rcases mem_cons.1 hb with q|q
  ·exact .inl q
  rcases mem_append.1 q with q|q
  ·exact .inr (H3.o.lt b (by simpa using q)).1
  exact .inr (H4.o.lt b (by simpa using q)).1
 exact ((((m.of0.trans t (fun b hb=>.inl (by simp at hb;simp [hb]))).trans J (fun b hb=>.inl (by simp at hb;simp [hb]))).then0 hA).trans F (fun b hb=>.inl (by simp at hb;simp [hb]))).trans N (fun b hb=>.inl (by simp at hb;simp [hb]))
def kE (s:Stp):Prop:=((∃ n x,s=dA n x)\/(∃ n,s=dB n)\/∃ n m,s=eV n m)/\s.data.length<=41000
theorem yU {D:List Fl}{i:Nat}{f:Fl}{x:Nm}(h:D[i]?=some f):mS D i x=D.set i { f with data:=f.data ++ x }:=by unfold mS;rw [h]
theorem zW {D:List Fl}{i:Nat}{f:Fl}(h:D[i]?=some f):kR D i=D.set i { f with safe:=f.data.length }:=by unfold kR;rw [h]
theorem xG {D:List Fl}{i:Nat}{f:Fl}{n:Nm}(h:D[i]?=some f):lI D i n=D.set i { f with name:=n }:=by unfold lI;rw [h]
theorem FQ (base d:Nat)(D g:List Fl)(s:Stp)(w:World)(h:DK w base d D)(hl:D.length<=100000000)(hs:kE s)(hb:∀ f∈D,f.data.length<=900000000000000)(i:eU D s=some g) :
  Cs 73 #[.pointer (so d),.agg (lQ s)] w fun e k=>e=.returned (.bool true)/\DK k base d g/\lU base d w k:=by
 obtain ⟨⟨n,x,rfl⟩|⟨n,rfl⟩|⟨n,m,rfl⟩,hx⟩:=hs
 ·have a:some (if aX D n < D.length then mS D (aX D n) x else D ++ [⟨n,x,0⟩])=some g:=i
  have l:x.length<=41000:=hx
  by_cases b:aX D n < D.length
  ·rw [if_pos b] at a
   cases a
   obtain ⟨f,c,_⟩:=kI n D b
   rw [yU c]
   exact FU base d D n x f w h hl c (by have:=hb f (mem_of_getElem? c);omega)
  rw [if_neg b] at a
  cases a
  exact Fsq base d D n x w h hl b
 ·have a:(if aX D n < D.length then some (kR D (aX D n)) else none)=some g:=i
  by_cases b:aX D n < D.length
  ·rw [if_pos b] at a
   cases a
   obtain ⟨f,c,_⟩:=kI n D b
   rw [zW c]
   exact FW base d D n f w h hl c
  rw [if_neg b] at a
  cases a
 have a:(if aX D n < D.length/\n≠m then some (lI (bZ D m) (aX (bZ D m) n) m) else none)=some g:=i
 by_cases b:aX D n < D.length/\n≠m
 ·rw [if_pos b] at a
  cases a
  have j:=qP b.2 D b.1
  obtain ⟨f,c,_⟩:=kI n (bZ D m) j
  rw [xG c]
  exact FV base d D n m f w h hl b.1 b.2 c
 rw [if_neg b] at a
 cases a
theorem FR {D h:List Fl}{s:Stp}{B:Nat}(a:eU D s=some h)(hb:∀ f∈D,f.data.length<=B):h.length<=D.length+1/\∀ f∈h,f.data.length<=B+s.data.length:=by
 have b:∀ (E:List Fl) (i:Nat) (f f':Fl),(∀ g∈E,g.data.length<=B)->E[i]?=some f->f'.data.length<=f.data.length+s.data.length->∀ g∈E.set i f',g.data.length<=B+s.data.length:=fun E i f f' k c l g e=>by
  rcases mem_or_eq_of_mem_set e with q|q
  ·have:=k g q;omega
  subst q;have:=k f (mem_of_getElem? c);omega
 have n:∀ m,∀ g∈bZ D m,g.data.length<=B:=fun m g e=>hb g (mem_filter.1 e).1
 unfold eU at a
 split at a
 ·cases a
  split
  ·rename_i d
   obtain ⟨f,c,_⟩:=kI s.name D d
   rw [yU c]
   exact ⟨by simp,b D _ f _ hb c (by simp)⟩
  refine ⟨by simp,fun g e=>?_⟩
  rcases mem_append.1 e with q|q
  ·have:=hb g q;omega
  have:g=⟨s.name,s.data,0⟩:=by simpa using q
  subst this
  dsimp only
  omega
 split at a
 ·split at a
  ·rename_i d
   cases a
   obtain ⟨f,c,_⟩:=kI s.name D d
   rw [zW c]
   exact ⟨by simp,b D _ f _ hb c (by simp)⟩
  cases a
 split at a
 ·split at a
  ·rename_i d
   cases a
   have j:=qP d.2 D d.1
   obtain ⟨f,c,_⟩:=kI s.name _ j
   rw [xG c]
   have:=sA D s.to
   exact ⟨by simp;omega,b _ _ f _ (n s.to) c (by simp)⟩
  cases a
 cases a
theorem uQ:∀ (l:List Stp) (D E:List Fl) (B:Nat),eL D l=some E->(∀ f∈D,f.data.length<=B)->(∀ s∈l,s.data.length<=41000)->E.length<=D.length+l.length/\∀ f∈E,f.data.length<=B+41000*l.length
 | [],D,E,B,h,hb,_=>by
  cases h
  exact ⟨by simp,fun f a=>by have:=hb f a;omega⟩
 | s :: l,D,E,B,h,hb,hs=>by
  change ((eU D s).bind fun b=>eL b l)=some E at h
  cases c:eU D s with
  | none=>rw [c] at h;cases h
  | some b =>
   rw [c] at h
   obtain ⟨h1,d⟩:=FR c hb
   have g:=hs s (by simp)
   obtain ⟨i,e⟩:=uQ l b E (B+41000) h (fun f a=>by have:=d f a;omega) (fun x hx=>hs x (by simp [hx]))
   refine ⟨by simp;omega,fun f a=>?_⟩
   have:=e f a
   rw [length_cons]
   omega
theorem LH (h:Option Addr)(j:Nat)(w:World) :
  Cs 72 #[.slice h 0 j] w fun e g=>∃ c,e=.returned (.pointer (so c))/\g.heap[c]?=some (.cells #[.slice none 0 0,.slice none 0 0] 154)/\w.heap.size<=c/\Fr [] w g:=by
 go_enter Tryz.func72,Tryz.ntmps72
 go_wp2_with fail
 obtain ⟨b,a⟩:∃ W,W=w.alloc (.cells #[.slice none 0 0,.slice none 0 0] 154):=⟨_,rfl⟩
 rw [<- a]
 have d:Fr [] w b:=by rw [a];exact (r0 _ _).alloc _
 have f:b.heap[w.heap.size]?=some (.cells #[.slice none 0 0,.slice none 0 0] 154):=by rw [a];exact aC _ _
 clear a
 go_loopw [4] (fun i wr=>i=.int .i64 0/\b=wr) (fun _ _=>0)
 case atStart=>exact ⟨rfl,rfl⟩
 obtain ⟨rfl,rfl⟩:=hrel
 go_wp2_with fail
 go_ret
 exact ⟨_,rfl,f,Nat.le_refl _,d⟩
theorem DK.start {w:World}{a:Nat}(h:w.heap[a]?=some (.cells #[.slice none 0 0,.slice none 0 0] 154)):DK w w.heap.size a [] :=
  ⟨⟨_,_,by rw [aB h];rfl,by rw [aB h];rfl,⟨rfl,.inl ⟨rfl,rfl⟩⟩,⟨rfl,.inl ⟨rfl,rfl⟩⟩,by simp [Value.ownBlock],by simp [Value.ownBlock],by simp [Value.ownBlock]⟩,fun k=>bI h,Nat.le_refl _⟩
