import Derived.Test.YtapabahhfanmmaaGreatDoorCFolkG
import Derived.Test.YtapabahhfanmmaaGreatDoorCRefN
namespace Go.Proofs.YtapabahhfanmmaaGreatDoor
open Go.RowKit
set_option maxRecDepth 100000
set_option maxHeartbeats 2000000
def CmdR (w:World)(v:Value)(l:List Cm):Prop:=(∃ ao lc,v=.slice ao 0 lc/\l=[])\/∃ lb lo lc,v=.slice (some ⟨lb,lo,none⟩) l.length lc/\lb < w.heap.size/\∀ (i:Nat) (h:i < l.length),w.rangeAt lb (lo+i*5) (l[i]'h).cells
theorem CmdR.fr0 {w w':World}{v:Value}{l:List Cm}(h:CmdR w v l)(hf:Fr [] w w'):CmdR w' v l:=by
 rcases h with h|⟨lb,lo,lc,h1,h2,h3⟩
 ·exact Or.inl h
 ·refine Or.inr ⟨lb,lo,lc,h1,Nat.lt_of_lt_of_le h2 hf.size,fun i hi j u hu=>?_⟩
  rw [hf.cell lb _ h2 (by simp)]
  exact h3 i hi j u hu
structure OpD where
 kind:Int
 fa:Option Addr
 fn:Nat
 fc:Nat
 sa:Option Addr
 sn:Nat
 sc:Nat
 tx:ByteArray
 ia:Option Addr
 il:Nat
 ic:Nat
 n:Int
 ga:Option Addr
 gl:Nat
 gc:Nat
 fst:List Cm
 snd:List Cm
abbrev OpD.f (d:OpD):Value:=.slice d.fa d.fn d.fc
abbrev OpD.s (d:OpD):Value:=.slice d.sa d.sn d.sc
abbrev OpD.cells (d:OpD):List Value:=[ii d.kind,.slice d.fa d.fn d.fc,.slice d.sa d.sn d.sc,.string d.tx,.slice d.ia d.il d.ic,ii d.n,.slice d.ga d.gl d.gc]
structure OpV (w:World) (d:OpD):Prop where
 f:CmdR w d.f d.fst
 s:CmdR w d.s d.snd
 fl:d.fst.length<=2000000
 sl:d.snd.length<=2000000
 tl:d.tx.data.toList.length<=2000000
def qjq4 (w:World)(v:Value)(l:List OpD):Prop:=(∃ ao lc,v=.slice ao 0 lc/\l=[])\/∃ lb lo lc,v=.slice (some ⟨lb,lo,none⟩) l.length lc/\lb < w.heap.size/\∀ (i:Nat) (h:i < l.length),w.rangeAt lb (lo+i*7) (l[i]'h).cells/\OpV w (l[i]'h)
set_option maxRecDepth 100000
abbrev Cm.arr (c:Cm):Array Value:=#[.int .i64 c.unit,.int .i64 c.what,.int .i64 c.x,.int .i64 c.y,.int .i64 c.target]
theorem qxz0:(Tryz.prog.info? 81).map (fun i=>(i.zero,i.size,i.bytes))=some (some (Cm.val ⟨0,0,0,0,0⟩),5,40):=by kernel_rfl
theorem Cm.one (c:Cm):∀ u∈c.cells,u.oneCell'=true:=by simp [Value.oneCell']
structure CopI (w:World) (l:List Cm) (k:Nat) (v:Value) (wr:World):Prop where
 own:wr.ownsRow w.heap.size 81 5 v k ((l.take k).flatMap Cm.cells)
 fr:Fr [] w wr
theorem vx3 (l:List Cm)(v:Value)(w:World)(h:CmdR w v l)(hlen:l.length<=2000000) :
  Calls Tryz.prog 94 #[v] w fun e w'=>∃ v',e=.returned v'/\w'.ownsRow w.heap.size 81 5 v' l.length (l.flatMap Cm.cells)/\Fr [] w w':=by
 obtain ⟨inf,hi0,hz0,hz1,hz2⟩:=info_parts qxz0
 obtain ⟨ao,lc,rfl⟩:∃ ao lc,v=.slice ao l.length lc:=by
  rcases h with ⟨ao,lc,rfl,rfl⟩|⟨lb,lo,lc,rfl,_⟩
  ·exact ⟨_,_,rfl⟩
  ·exact ⟨_,_,rfl⟩
 have HL:=hid h
 clear h
 go_enter Tryz.func94,Tryz.ntmps94
 go_wp2_with fail
 go_loopw [3,4] (fun v i wr=>∃ k:Nat,k<=l.length/\i=.int .i64 k/\CopI w l k v wr) (fun _ i _=>l.length - (intOf i).toNat)
 case atStart=>exact ⟨0,Nat.zero_le _,rfl,⟨rfl,Or.inl ⟨rfl,rfl⟩⟩,Fr.refl _ _⟩
 case round =>
  obtain ⟨k,hk,rfl,hown,hfr⟩:=hrel
  by_cases hlt:k < l.length
  ·have hlti:(k:Int) < (l.length:Int):=by omega
   obtain ⟨c,hc⟩:∃ c,l[k]?=some c:=⟨l[k],List.getElem?_eq_getElem hlt⟩
   obtain ⟨lb,lo,rfl,hlbl,hcs⟩:∃ lb lo,ao=some ⟨lb,lo,none⟩/\lb < w.heap.size/\w.rangeAt lb (lo+k*5) c.cells:=by
    rcases HL.out with ⟨ao,lc',e1,e2⟩|⟨lb,lo,lc',e1,h2,h3⟩
    ·rw [e2] at hlt;simp at hlt
    ·refine ⟨lb,lo,by simpa using congrArg (fun v:Value=>match v with|.slice a _ _=>a|_=>none) e1,h2,?_⟩
     have:=h3 k hlt
     rw [List.getElem?_eq_getElem hlt] at hc
     rw [Option.some.inj hc] at this
     exact this
   have hcc:∀ j,wr.cell? ⟨lb,j,none⟩=w.cell? ⟨lb,j,none⟩:=fun j=>hfr.cell _ _ hlbl (by simp)
   have c0:wr.cell? ⟨lb,lo+k*5,none⟩=some (ii c.unit):=(hcc _).trans (hcs 0 _ rfl)
   have c1:wr.cell? ⟨lb,lo+k*5+1,none⟩=some (ii c.what):=(hcc _).trans (hcs 1 _ rfl)
   have c2:wr.cell? ⟨lb,lo+k*5+2,none⟩=some (ii c.x):=(hcc _).trans (hcs 2 _ rfl)
   have c3:wr.cell? ⟨lb,lo+k*5+3,none⟩=some (ii c.y):=(hcc _).trans (hcs 3 _ rfl)
   have c4:wr.cell? ⟨lb,lo+k*5+4,none⟩=some (ii c.target):=(hcc _).trans (hcs 4 _ rfl)
   have HN:Hid (∀ (j:Nat) (u:Value),c.cells[j]?=some u->(wr.alloc (.cells c.arr 81)).cell? ((⟨wr.heap.size,0,none⟩:Addr).add j)=some u):=by
    intro j u hu
    rw [Addr.add_lit,Nat.zero_add,j9 (qq6 wr _)]
    simpa using hu
   have HB1:Hid (∀ b,u3.ownBlock=some b->w.heap.size<=b):=fun b hb=>(hown.lt b hb).1
   have HOW:Hid ((wr.alloc (.cells c.arr 81)).ownsRow w.heap.size 81 5 u3 k ((l.take k).flatMap Cm.cells)):=qq7 hown ((Fr.refl [] wr).alloc _) (by simp)
   have hwr:=hfr.size
   have HTK:Hid ((l.take (k+1)).flatMap Cm.cells=(l.take k).flatMap Cm.cells ++ c.cells):=by
    show _=_
    rw [List.take_add_one,hc]
    simp
   have HONE:=(show Hid _ from Cm.one c)
   clear hown hcs hcc hc
   go_wp2_with (at_builtin;refine wpList_append_own _ rfl _ _ 39 rfl w.heap.size 81 inf (Cm.val ⟨0,0,0,0,0⟩) 5 40 Tryz.underlying39 hi0 hz0 hz1 hz2 rfl (by decide) u3 k ((l.take k).flatMap Cm.cells) rfl HOW.out ⟨wr.heap.size,0,none⟩ 1 1 c.cells rfl rfl HN.out HONE.out (by unfold maxLen;omega) (by omega) (by simp;omega) ?_;intro v' w3 hown3 hgrow hnil3)
   have hf3:Fr [] w w3:=(hfr.alloc _).grow hgrow (fun g hg=>Or.inr (HB1.out g hg))
   go_roundw
   case rel=>exact ⟨k+1,hlt,by go_num,by rw [HTK.out];exact hown3,hf3⟩
   case measure=>simp [intOf];omega
  ·have:k=l.length:=by omega
   subst this
   have hlti:¬ (l.length:Int) < (l.length:Int):=by omega
   rw [List.take_length] at hown
   go_wp2_with fail
   go_ret
   exact ⟨u3,rfl,hown,hfr⟩
theorem dj6:∀ (l:List Cm) (i j:Nat) (h:i < l.length),j < 5->(l.flatMap Cm.cells)[i*5+j]?=(l[i]'h).cells[j]?
 | [],i,j,h,_=>by simp at h
 | c :: l,0,j,h,hj=>by
  rw [List.flatMap_cons,List.getElem?_append_left (by simp;omega),Nat.zero_mul,Nat.zero_add]
  rfl
 | c :: l,i+1,j,h,hj=>by
  rw [List.flatMap_cons,List.getElem?_append_right (by simp;omega)]
  have:=dj6 l i j (by simpa using h) hj
  rw [show (i+1)*5+j - c.cells.length=i*5+j by simp;omega]
  exact this
structure KepI (w:World) (gb:Nat) (l:List Cm) (k:Nat) (wr:World):Prop where
 cs:∀ (i:Nat) (h:i < l.length),k<=i->wr.rangeAt gb (i*5) (l[i]'h).cells
 th:∀ i,i < l.length*5->(wr.cell? ⟨gb,i,none⟩).isSome=true/\wr.frozen? ⟨gb,i,none⟩=false
 fr:Fr [gb] w wr
theorem qjz0 (c:Cm)(w:World):(binOp BinOp.eql 81 c.val c.val).run Tryz.prog w=.ok (.bool true) w:=by
  simp [go_sem]
theorem KepI.drewN {w:World}{gb:Nat}{l:List Cm}{k:Nat}{wr:World}(h:KepI w gb l k wr)(n:Nat):KepI w gb l k (wr.drewN n):=⟨h.cs,h.th,h.fr.drewN n⟩
theorem KepI.put {w:World}{gb:Nat}{l:List Cm}{k:Nat}{wr:World}(h:KepI w gb l k wr)(hk:k < l.length)(c:Cm):KepI w gb l (k+1) (wr.setCells gb (k*5) c.cells):=by
 refine ⟨fun i hi hki j u hu=>?_,fun i hi=>?_,Fr.setCells gb _ _ _ h.fr (Or.inl (by simp))⟩
 ·have hj:j < 5:=(List.getElem?_eq_some_iff.1 hu).1
  rw [World.cell?_setCells_out _ _ _ _ _ (fun _ _=>by simp;omega)]
  exact h.cs i hi (by omega) j u hu
 ·rw [World.frozen?_setCells]
  refine ⟨?_,(h.th i hi).2⟩
  by_cases hik:i < k*5\/k*5+5<=i
  ·rw [World.cell?_setCells_out _ _ _ _ _ (fun _ _=>by simpa using hik)]
   exact (h.th i hi).1
  ·have:=World.cell?_setCells_in gb c.cells (k*5) wr (fun j hj=>(h.th (k*5+j) (by simp at hj;omega)).1) (i - k*5) (by simp;omega)
   rw [show k*5+(i - k*5)=i by omega] at this
   rw [this]
   rfl
theorem kk7 (base:Nat)(l:List Cm)(v g:Value)(w0 w:World)(h:CmdR w0 v l)(hf0:Fr [] w0 w)(hb0:w0.heap.size<=base)(hown:w.ownsRow base 81 5 g l.length (l.flatMap Cm.cells))(hlen:l.length<=2000000) :
  Calls Tryz.prog 97 #[g,v] w fun e w'=>e=.returned (.bool true)/\Fr g.ownBlock.toList w w':=by
 obtain ⟨ao,lc,rfl⟩:∃ ao lc,v=.slice ao l.length lc:=by
  rcases h with ⟨ao,lc,rfl,rfl⟩|⟨lb,lo,lc,rfl,_⟩
  ·exact ⟨_,_,rfl⟩
  ·exact ⟨_,_,rfl⟩
 have HL:=hid h
 clear h
 by_cases hz:l.length=0
 ·rw [hz]
  go_enter Tryz.func97,Tryz.ntmps97
  go_wp2_with fail
  go_loopw [5,6] (fun b i wr=>b=.bool true/\i=.int .i64 0/\w=wr) (fun _ _ _=>0)
  case atStart=>exact ⟨rfl,rfl,rfl⟩
  case round =>
   obtain ⟨rfl,rfl,rfl⟩:=hrel
   go_wp2_with fail
   go_ret
   exact ⟨rfl,Fr.refl _ _⟩
 ·obtain ⟨gb,gcap,cur,rfl,hgb,hgh,hgc,_,hgs,hgt⟩:∃ gb cap cur,g=.slice (some ⟨gb,0,none⟩) l.length cap/\base<=gb/\w.heap[gb]?=some (.cells cur 81 (0,0))/\l.length<=cap/\cap<=maxLen/\cur.size=cap*5/\cur.toList.take (l.length*5)=l.flatMap Cm.cells:=by
   rcases hown.2 with ⟨_,h2⟩|h2
   ·exact absurd h2 hz
   ·exact h2
  have hst:KepI w gb l 0 w:=by
   refine ⟨fun i hi _ j u hu=>?_,fun i hi=>⟨?_,qq0 hgh⟩,Fr.refl _ _⟩
   ·have hj:j < 5:=(List.getElem?_eq_some_iff.1 hu).1
    have e:(l.flatMap Cm.cells)[i*5+j]?=some u:=(dj6 l i j hi hj).trans hu
    rw [j9 hgh]
    rw [<- hgt,List.getElem?_take_of_lt (by omega)] at e
    simpa using e
   ·rw [j9 hgh,Array.getElem?_eq_getElem (by omega)]
    rfl
  have HST:=hid hst
  clear hst hgt hgh hown
  go_enter Tryz.func97,Tryz.ntmps97
  go_wp2_with fail
  go_loopw [5,6] (fun b i wr=>b=.bool true/\∃ k:Nat,k<=l.length/\i=.int .i64 k/\KepI w gb l k wr) (fun _ i _=>l.length - (intOf i).toNat)
  case atStart=>exact ⟨rfl,0,Nat.zero_le _,rfl,HST.out⟩
  case round =>
   obtain ⟨rfl,k,hk,rfl,hI⟩:=hrel
   by_cases hlt:k < l.length
   ·have hlti:(k:Int) < (l.length:Int):=by omega
    obtain ⟨c,hc⟩:∃ c,l[k]?=some c:=⟨l[k],List.getElem?_eq_getElem hlt⟩
    have hck:l[k]=c:=by rw [List.getElem?_eq_getElem hlt] at hc;exact Option.some.inj hc
    obtain ⟨lb,lo,rfl,hlbl,hcs⟩:∃ lb lo,ao=some ⟨lb,lo,none⟩/\lb < w0.heap.size/\w0.rangeAt lb (lo+k*5) c.cells:=by
     rcases HL.out with ⟨ao,lc',e1,e2⟩|⟨lb,lo,lc',e1,h2,h3⟩
     ·rw [e2] at hlt;simp at hlt
     ·refine ⟨lb,lo,by simpa using congrArg (fun v:Value=>match v with|.slice a _ _=>a|_=>none) e1,h2,?_⟩
      have:=h3 k hlt
      rw [hck] at this
      exact this
    have hs0:=hf0.size
    have hcc:∀ j,wr.cell? ⟨lb,j,none⟩=w0.cell? ⟨lb,j,none⟩:=fun j=>(hI.fr.cell _ _ (by omega) (by simp;omega)).trans (hf0.cell _ _ hlbl (by simp))
    have c0:wr.cell? ⟨lb,lo+k*5,none⟩=some (ii c.unit):=(hcc _).trans (hcs 0 _ rfl)
    have c1:wr.cell? ⟨lb,lo+k*5+1,none⟩=some (ii c.what):=(hcc _).trans (hcs 1 _ rfl)
    have c2:wr.cell? ⟨lb,lo+k*5+2,none⟩=some (ii c.x):=(hcc _).trans (hcs 2 _ rfl)
    have c3:wr.cell? ⟨lb,lo+k*5+3,none⟩=some (ii c.y):=(hcc _).trans (hcs 3 _ rfl)
    have c4:wr.cell? ⟨lb,lo+k*5+4,none⟩=some (ii c.target):=(hcc _).trans (hcs 4 _ rfl)
    have hg:=hI.cs k hlt (Nat.le_refl _)
    rw [hck] at hg
    have d0:wr.cell? ⟨gb,k*5,none⟩=some (ii c.unit):=hg 0 _ rfl
    have d1:wr.cell? ⟨gb,k*5+1,none⟩=some (ii c.what):=hg 1 _ rfl
    have d2:wr.cell? ⟨gb,k*5+2,none⟩=some (ii c.x):=hg 2 _ rfl
    have d3:wr.cell? ⟨gb,k*5+3,none⟩=some (ii c.y):=hg 3 _ rfl
    have d4:wr.cell? ⟨gb,k*5+4,none⟩=some (ii c.target):=hg 4 _ rfl
    have z0:=(hI.th (k*5) (by omega)).2
    have z1:=(hI.th (k*5+1) (by omega)).2
    have z2:=(hI.th (k*5+2) (by omega)).2
    have z3:=(hI.th (k*5+3) (by omega)).2
    have z4:=(hI.th (k*5+4) (by omega)).2
    have HP:Hid (∀ n,KepI w gb l (k+1) ((wr.drewN n).setCells gb (k*5) (Cm.cells ⟨-9,-9,0,0,0⟩))):=fun n=>(hI.drewN n).put hlt ⟨-9,-9,0,0,0⟩
    have heq:=qjz0 c
    clear hI hg hcc hcs hc hck
    go_wp2_with fail
    go_quiet (fail)
    go_wp2_with fail
    go_roundw
    case rel=>exact ⟨rfl,k+1,hlt,by go_num,HP.out _⟩
    case measure=>simp [intOf];omega
   ·have hlti:¬ (k:Int) < (l.length:Int):=by omega
    go_wp2_with fail
    go_ret
    exact ⟨rfl,hI.fr⟩
def xv0 (a b:List Nat)(i:Nat):List Nat:=if i=0 then a else b
theorem qqx0 {l:List Nat}{k:Nat}(h:k < l.length):(ints l)[k]?=some (ii ((l[k]'h:Nat):Int)):=by
 unfold ints
 rw [List.getElem?_map,List.getElem?_eq_getElem h]
 rfl
theorem gq4 {w:World}{base:Nat}{v:Value}{l:List Nat}(h:w.ownsRow base 3 1 v l.length (ints l)):∃ ao c,v=.slice ao l.length c/\∀ k (hk:k < l.length),∃ g,ao=some ⟨g,0,none⟩/\w.cell? ⟨g,k,none⟩=some (ii ((l[k]'hk:Nat):Int)):=by
 obtain ⟨ao,c,rfl⟩:=zv6 h
 refine ⟨ao,c,rfl,fun k hk=>?_⟩
 obtain ⟨g,cap,e⟩:=qx0 h (by omega)
 cases e
 refine ⟨g,rfl,?_⟩
 have:=h.cells (g:=g) rfl k _ (qqx0 hk)
 rwa [Addr.add_lit,Nat.zero_add] at this
theorem Refs.rows {w:World}{base:Nat}{v:Value}{a b:List Nat}(h:Refs w base v a b):∃ rb rc,v=.slice (some ⟨rb,0,none⟩) 2 rc/\∀ i,i < 2->∃ ao c,w.cell? ⟨rb,i,none⟩=some (.slice ao (xv0 a b i).length c)/\∀ k (hk:k < (xv0 a b i).length),∃ g,ao=some ⟨g,0,none⟩/\w.cell? ⟨g,k,none⟩=some (ii (((xv0 a b i)[k]'hk:Nat):Int)):=by
 obtain ⟨rb,rc,v0,v1,rfl,hh,_,h0,h1⟩:=h
 refine ⟨rb,rc,rfl,fun i hi=>?_⟩
 have:i=0\/i=1:=by omega
 rcases this with rfl|rfl
 ·obtain ⟨ao,c,rfl,q⟩:=gq4 h0
  exact ⟨ao,c,by rw [j9 hh];rfl,q⟩
 ·obtain ⟨ao,c,rfl,q⟩:=gq4 h1
  exact ⟨ao,c,by rw [j9 hh];rfl,q⟩
theorem vv5 (base base':Nat)(a b:List Nat)(v v':Value)(w:World)(h:Refs w base v a b)(h':Refs w base' v' a b)(ha:a.length<=2000000)(hb:b.length<=2000000) :
  Calls Tryz.prog 96 #[v,v'] w fun e w'=>e=.returned (.bool true)/\Fr [] w w':=by
 obtain ⟨rb,rc,rfl,hr⟩:=h.rows
 obtain ⟨rb',rc',rfl,hr'⟩:=h'.rows
 have HR:=hid hr
 have HR':=(show Hid _ from hr')
 have HLE:Hid (∀ i,(xv0 a b i).length<=2000000):=fun i=>by unfold xv0;split <;> assumption
 have HC:Hid (∀ i,i < 2->∃ (l:List Nat) (ao:Option Addr) (c:Nat) (ao':Option Addr) (c':Nat),l.length<=2000000/\w.cell? ⟨rb,i,none⟩=some (.slice ao l.length c)/\w.cell? ⟨rb',i,none⟩=some (.slice ao' l.length c')/\(∀ k (hk:k < l.length),∃ g,ao=some ⟨g,0,none⟩/\w.cell? ⟨g,k,none⟩=some (ii ((l[k]'hk:Nat):Int)))/\(∀ k (hk:k < l.length),∃ g,ao'=some ⟨g,0,none⟩/\w.cell? ⟨g,k,none⟩=some (ii ((l[k]'hk:Nat):Int)))):=fun i hi=>by
  obtain ⟨ao,c,q1,q2⟩:=HR.out i hi
  obtain ⟨ao',c',q3,q4⟩:=HR'.out i hi
  exact ⟨xv0 a b i,ao,c,ao',c',HLE.out i,q1,q3,q2,q4⟩
 clear h h' hr hr' HR HR' HLE
 go_enter Tryz.func96,Tryz.ntmps96
 go_wp2_with fail
 go_loopw [5] (fun i wr=>∃ k:Nat,k<=2/\i=.int .i64 k/\Fr [] w wr) (fun i _=>2 - (intOf i).toNat)
 case atStart=>exact ⟨0,Nat.zero_le _,rfl,Fr.refl _ _⟩
 case round =>
  obtain ⟨i,hi,rfl,hf⟩:=hrel
  by_cases hlt:i < 2
  ·have hlti:(i:Int) < 2:=by omega
   obtain ⟨l,ao,c,ao',c',hle,e1,e1',e2,e2'⟩:=HC.out i hlt
   have f1:wr.cell? ⟨rb,i,none⟩=some (.slice ao l.length c):=(hf.cell _ _ (qq1 e1) (by simp)).trans e1
   have f1':wr.cell? ⟨rb',i,none⟩=some (.slice ao' l.length c'):=(hf.cell _ _ (qq1 e1') (by simp)).trans e1'
   have HE:=hid e2
   have HE':=(show Hid _ from e2')
   clear e2 e2'
   go_wp2_with fail
   go_quiet (fail)
   go_wp2_with fail
   go_loopw [6] (fun j wr=>∃ k:Nat,k<=l.length/\j=.int .i64 k/\Fr [] w wr) (fun j _=>l.length - (intOf j).toNat)
   case atStart=>exact ⟨0,Nat.zero_le _,rfl,hf.drewN _⟩
   case round =>
    clear f1 f1' hf
    obtain ⟨k,hk,rfl,hf⟩:=hrel
    have f1:wr.cell? ⟨rb,i,none⟩=some (.slice ao l.length c):=(hf.cell _ _ (qq1 e1) (by simp)).trans e1
    have f1':wr.cell? ⟨rb',i,none⟩=some (.slice ao' l.length c'):=(hf.cell _ _ (qq1 e1') (by simp)).trans e1'
    by_cases hlt2:k < l.length
    ·have hlti2:(k:Int) < (l.length:Int):=by omega
     obtain ⟨g,rfl,q⟩:=HE.out k hlt2
     obtain ⟨g',rfl,q'⟩:=HE'.out k hlt2
     obtain ⟨x,hx⟩:∃ x:Nat,l[k]=x:=⟨_,rfl⟩
     rw [hx] at q q'
     have f2:=(hf.cell _ _ (qq1 q) (by simp)).trans q
     have f2':=(hf.cell _ _ (qq1 q') (by simp)).trans q'
     clear q q' hx e1 e1'
     go_wp2_with fail
     go_quiet (fail)
     go_wp2_with fail
     go_roundw
     case rel=>exact ⟨k+1,hlt2,by go_num,hf.drewN _⟩
     case measure=>simp [intOf];omega
    ·have hlti2:¬ (k:Int) < (l.length:Int):=by omega
     clear e1 e1'
     go_wp2_with fail
     go_roundw
     case rel=>exact ⟨i+1,hlt,by go_num,hf⟩
     case measure=>simp [intOf];omega
  ·have hlti:¬ (i:Int) < 2:=by omega
   go_wp2_with fail
   go_ret
   exact ⟨rfl,hf⟩
theorem CmdR.at {w w':World}{v:Value}{l:List Cm}{pb:Nat}(h:CmdR w v l)(hf:Fr [] w w')(hp:w.heap.size<=pb):CmdW w' v l pb:=by
 have h':=h.fr0 hf
 rcases h with h|⟨lb,lo,lc,h1,h2,h3⟩
 ·exact Or.inl h
 ·rcases h' with h'|⟨lb',lo',lc',q1,q2,q3⟩
  ·exact Or.inl h'
  ·rw [h1] at q1
   cases q1
   exact Or.inr ⟨lb,lo,lc,h1,by omega,q3⟩
theorem yz0 (p:Int):∀ (l:List Cm) (k:Nat) (t:T),(qz6 p k l t).1.length<=l.length
 | [],k,t=>by simp [qz6]
 | c :: l,k,t=>by
  rw [jv1]
  have:=yz0 p l (k+1) (zj1 t p c).2
  dsimp only
  split
  ·simp only [List.length_cons];omega
  ·simp only [List.length_cons];omega
theorem dw6 (t:T)(l1 l2:List Cm):(qk6 t l1 l2).2.1.length<=l1.length/\(qk6 t l1 l2).2.2.length<=l2.length:=by
 unfold qk6
 split
 ·simp
 ·split
  ·simp
  ·exact ⟨yz0 _ _ _ _,yz0 _ _ _ _⟩
theorem kw3 {w:World}{base:Nat}{v:Value}{l:List Cm}(h:w.ownsRow base 81 5 v l.length (l.flatMap Cm.cells)):CmdV w v l:=by
 by_cases h0:l.length=0
 ·obtain ⟨ao,c,rfl⟩:=zv6 h
  have:l=[]:=List.eq_nil_of_length_eq_zero h0
  subst this
  exact Or.inl ⟨ao,c,rfl,rfl⟩
 ·obtain ⟨g,cap,rfl⟩:=qx0 h (by omega)
  have hc:=h.cells (g:=g) rfl
  refine Or.inr ⟨g,cap,rfl,fun i hi j u hu=>?_,(h.lt g rfl).2⟩
  have hj:j < 5:=(List.getElem?_eq_some_iff.1 hu).1
  have:=hc (i*5+j) u ((dj6 l i j hi hj).trans hu)
  rwa [Addr.add_lit,Nat.zero_add] at this
theorem gq5 {w:World}{b pb cap:Nat}{us:List U}{cs:Array Value}{e:TypeId}{fz:Nat×Nat}(h:PRow w pb cap us)(hb:w.heap[b]?=some (.cells cs e fz))(he:e≠85):pb≠b:=fun x=>by
 subst x
 obtain ⟨cur,hh,_⟩:=h.h
 rw [hh] at hb
 cases hb
 exact he rfl
theorem fw3 (g:Value) (L K:List Nat) (t:T) (bb N:Nat) (l1 l2:List Cm) (v1 v2:Value) (w0 w:World) (hG:Gm w g L t) (hB:Bk w bb K N) (hA:∀ x∈L,x≠bb/\x∉K) (hN:N<=2000000) (hsd:Sd w) (h1:CmdR w0 v1 l1) (h2:CmdR w0 v2 l2) (hf0:Fr [] w0 w)
  (hL0:∀ x∈L,w0.heap.size<=x) (hl1:l1.length<=2000000) (hl2:l2.length<=2000000) :
  Calls Tryz.prog 53 #[g,.pointer (some ⟨bb,0,none⟩),v1,v2] w fun e w'=>e=.returned (.bool true)/\SR w bb L K N t.turn g w':=by
 have hlt:=hG.lt
 obtain ⟨⟨sb,gb,pb,cap,rb,qb,cap2,rfl,rfl,hx,hy,hgs,hrg⟩,hnd,hok,hos,htn⟩:=hG
 simp only [List.nodup_cons,List.mem_cons,List.not_mem_nil,or_false,not_or,List.nodup_nil,and_true,not_false_eq_true] at hnd
 have hsl:=hlt sb (by simp)
 have hgl:=hlt gb (by simp)
 have hpl:=hlt pb (by simp)
 have hrl:=hlt rb (by simp)
 have hql:=hlt qb (by simp)
 have hg0:=hL0 gb (by simp)
 have hr0:=hL0 rb (by simp)
 have hq0:=hL0 qb (by simp)
 have hAs:=hA sb (by simp)
 have hAg:=hA gb (by simp)
 have hAp:=hA pb (by simp)
 have hAr:=hA rb (by simp)
 have hAq:=hA qb (by simp)
 have hbl:=hB.lt
 have hkl:=hB.kl
 have hpl2:=dw6 t l1 l2
 have hpo:=And.intro (xv1 hok l1 l2) (fw5 hok htn l1 l2)
 have hpos:=qzz8 hok hos l1 l2
 have C1:=vx3 l1 v1 w (h1.fr0 hf0) hl1
 have HGS:=hid hgs
 have HRG:=hid hrg
 have HB:=hid hB
 have HOK:=hid hok
 have HOS:=hid hos
 have H1:=hid h1
 have H2:=hid h2
 have HPO:=hid hpo
 have HPS:=hid hpos
 have HSD:=hid hsd
 have HKL:=hid hkl
 have HF0:=hid hf0
 clear hgs hrg hB hA hlt hL0 hok hos h1 h2 hpo hpos hsd hkl
 go_enter Tryz.func53,Tryz.ntmps53
 go_wp2_with fail
 refine Calls.mono C1 ?_
 rintro e w1 ⟨one,rfl,ho1,hf1⟩
 dsimp only
 have hs1:=hf1.size
 have C2:=vx3 l2 v2 w1 (CmdR.fr0 H2.out (HF0.out.then0 hf1)) hl2
 clear C1
 go_wp2_with fail
 refine Calls.mono C2 ?_
 rintro e w2 ⟨two,rfl,ho2,hf2⟩
 dsimp only
 have hs2:=hf2.size
 have hw2:Fr [] w w2:=hf1.then0 hf2
 have hx2:w2.cell? ⟨sb,0,none⟩=some (.pointer (some ⟨gb,0,none⟩)):=(hw2.cell sb 0 hsl (by simp)).trans hx
 have ho12:=qq7 ho1 hf2 (by simp)
 have C3:=xw4 gb pb cap t l1 l2 one two w2 (HGS.out.fr hw2 (by simp) (by simp)) (Sd.fr0 HSD.out hw2) HOK.out htn.1 (kw3 ho12) (kw3 ho2) hl1 hl2
 have HO1:Hid (w1.ownsRow w.heap.size 81 5 one l1.length (l1.flatMap Cm.cells)):=ho1
 have HO2:Hid (w2.ownsRow w1.heap.size 81 5 two l2.length (l2.flatMap Cm.cells)):=ho2
 clear C2 ho1 ho2 ho12
 go_wp2_with fail
 refine Calls.mono C3 ?_
 rintro e w3 ⟨l,pb',cap',rfl,hf3,hgs3,hpp,hra⟩
 dsimp only
 have hs3:=hf3.size
 obtain ⟨t',ht'⟩:∃ x,(qk6 t l1 l2).1=x:=⟨_,rfl⟩
 obtain ⟨ra,hra1⟩:∃ x,(qk6 t l1 l2).2.1=x:=⟨_,rfl⟩
 obtain ⟨rc,hrc1⟩:∃ x,(qk6 t l1 l2).2.2=x:=⟨_,rfl⟩
 have hw3:Fr [gb] w w3:=(hw2.of0 (S:=[gb])).trans hf3 (by simp)
 have h03:Fr [] w0 w3:=HF0.out.trans hw3 (by simp;omega)
 have hrg3:RG w3 rb qb cap2 t:=HRG.out.fr hw3 (by simp;omega) (by simp;omega)
 have hy3:w3.cell? ⟨sb,1,none⟩=some (.pointer (some ⟨rb,0,none⟩)):=(hw3.cell sb 1 hsl (by simp;omega)).trans hy
 have C4:=ky6 dz6 rb qb cap2 t l1 l2 v1 v2 w3 hrg3 HOK.out HOS.out htn.1 (CmdR.at H1.out h03 hq0) (CmdR.at H2.out h03 hq0) hl1 hl2
 rw [ht',hra1,hrc1] at C4
 rw [hra1,hrc1] at hra
 rw [ht'] at hgs3
 rw [hra1,hrc1] at hpl2
 have HRA:=hid hra
 have HG3:=hid hgs3
 clear C3 hra hgs3 hrg3 hra1 hrc1
 go_wp2_with fail
 refine Calls.mono C4 ?_
 rintro e w4 ⟨l',rfl,⟨qb',cap2',hrg4,hf4,hqq⟩,hrf⟩
 dsimp only
 have hs4:=hf4.size
 have hra4:RefsA w4 w2.heap.size l ra rc:=RefsA.fr HRA.out hf4 (by simp;omega)
 have C5:=vv5 _ _ ra rc l l' w4 hra4.refs hrf (by omega) (by omega)
 have HRG4:=hid hrg4
 clear C4 hrg4 hrf
 go_wp2_with fail
 refine Calls.mono C5 ?_
 rintro e w5 ⟨rfl,hf5⟩
 dsimp only
 have hs5:=hf5.size
 have F25:Fr [gb,rb,qb] w2 w5:=((hf3.mono (fun x hx=>Or.inl (by simp_all))).trans hf4 (fun x hx=>Or.inl (by simp at hx;simp;omega))).then0 hf5
 have h05:Fr [] w0 w5:=(HF0.out.then0 hw2).trans F25 (by simp;omega)
 have hb1:∀ b,one.ownBlock=some b->w.heap.size<=b/\b < w1.heap.size:=fun b hb=>World.ownsRow.lt HO1.out b hb
 have hb2:∀ b,two.ownBlock=some b->w1.heap.size<=b/\b < w2.heap.size:=fun b hb=>World.ownsRow.lt HO2.out b hb
 have ho15:w5.ownsRow w.heap.size 81 5 one l1.length (l1.flatMap Cm.cells):=qq7 (qq7 HO1.out hf2 (by simp)) F25 (fun b hb=>by have:=hb1 b hb;simp;omega)
 have ho25:w5.ownsRow w1.heap.size 81 5 two l2.length (l2.flatMap Cm.cells):=qq7 HO2.out F25 (fun b hb=>by have:=hb2 b hb;simp;omega)
 have hs0:=HF0.out.size
 have C6:=kk7 w.heap.size l1 v1 one w0 w5 H1.out h05 hs0 ho15 hl1
 have HRA4:=hid hra4
 clear C5 hra4 ho15
 go_wp2_with fail
 refine Calls.mono C6 ?_
 rintro e w6 ⟨rfl,hf6⟩
 dsimp only
 have hs6:=hf6.size
 have h06:Fr [] w0 w6:=h05.trans hf6 (fun b hb=>Or.inr (by have:=hb1 b (by simpa using hb);omega))
 have ho26:w6.ownsRow w1.heap.size 81 5 two l2.length (l2.flatMap Cm.cells):=qq7 ho25 hf6 (fun b hb e=>by have:=hb2 b hb;have:=hb1 b (by simpa using e);omega)
 have C7:=kk7 w1.heap.size l2 v2 two w0 w6 H2.out h06 (by omega) ho26 hl2
 clear C6 ho25 ho26
 go_wp2_with fail
 refine Calls.mono C7 ?_
 rintro e w7 ⟨rfl,hf7⟩
 dsimp only
 have hs7:=hf7.size
 obtain ⟨rb',x0,x1,hlv,hlh,hlb,hlo0,hlo1,hlap⟩:=(show RefsA w4 w2.heap.size l ra rc from HRA4.out)
 obtain ⟨D,hD⟩:∃ D,D=one.ownBlock.toList ++ two.ownBlock.toList:=⟨_,rfl⟩
 have hDb:∀ b∈D,w.heap.size<=b/\b < w2.heap.size:=fun b hb=>by
  rw [hD] at hb
  rcases List.mem_append.1 hb with q|q
  ·have:=hb1 b (by simpa using q);omega
  ·have:=hb2 b (by simpa using q);omega
 have F47:Fr D w4 w7:=(((hf5.of0 (S:=D)).trans hf6 (fun b hb=>Or.inl (by rw [hD];exact List.mem_append_left _ hb))).trans hf7 (fun b hb=>Or.inl (by rw [hD];exact List.mem_append_right _ hb)))
 have hl7:w7.heap[rb']?=some (.cells [x0,x1].toArray 25):=F47.heap hlh (fun e=>by have:=hDb _ e;omega)
 have ho70:=qq7 hlo0 F47 (fun b hb e=>by have:=hDb b e;have:=qj1 hlo0 hb;omega)
 have ho71:=qq7 hlo1 F47 (fun b hb e=>by have:=hDb b e;have:=qj1 hlo1 hb;omega)
 have hB7:Bk w7 bb K N:=by
  have fA:Fr [gb,rb,qb] w w4:=(hw3.mono (fun x hx=>Or.inl (by simp_all))).trans hf4 (fun x hx=>Or.inl (by simp at hx;simp;omega))
  refine (HB.out.fr fA (by simp;omega) (fun b hb e=>?_)).fr F47 (fun e=>by have:=hDb _ e;omega) (fun b hb e=>by have:=hDb _ e;have:=HKL.out b hb;omega)
  simp at e
  rcases e with rfl|rfl|rfl
  ·exact hAg.2 hb
  ·exact hAr.2 hb
  ·exact hAq.2 hb
 have C8:=vv1 bb N rb' w2.heap.size K [x0,x1] w7 hB7 hN (by simp) hl7 hlb (by omega) (fun x hx=>by have:=HKL.out x hx;omega) (fun j v hv=>?_) (fun i j v v' gg hij hv hv' hg=>?_)
 rotate_left
 ·have:j=0\/j=1:=by have:=(List.getElem?_eq_some_iff.1 hv).1;simp at this;omega
  rcases this with rfl|rfl
  ·cases hv;exact ⟨_,_,by omega,ho70⟩
  ·cases hv;exact ⟨_,_,by omega,ho71⟩
 ·have hi2:i=0\/i=1:=by have:=(List.getElem?_eq_some_iff.1 hv).1;simp at this;omega
  have hj2:j=0\/j=1:=by have:=(List.getElem?_eq_some_iff.1 hv').1;simp at this;omega
  rcases hi2 with rfl|rfl <;> rcases hj2 with rfl|rfl
  ·exact absurd rfl hij
  ·cases hv;cases hv';exact hlap gg hg
  ·cases hv;cases hv';exact fun e=>hlap gg e hg
  ·exact absurd rfl hij
 subst hlv
 have HF47:=hid F47
 have HLH:=hid hlh
 have HL0:Hid (∀ b,x0.ownBlock=some b->w2.heap.size<=b/\b < w4.heap.size):=fun b hb=>hlo0.lt b hb
 have HL1:Hid (∀ b,x1.ownBlock=some b->w2.heap.size<=b/\b < w4.heap.size):=fun b hb=>hlo1.lt b hb
 clear C7 hB7 hl7 F47 hlh
 go_wp2_with fail
 refine Calls.mono C8 ?_
 rintro e w8 ⟨rfl,hown⟩
 dsimp only
 have HOWN:=hid hown
 clear C8 hown
 go_wp2_with fail
 go_ret
 refine ⟨rfl,?_⟩
 obtain ⟨⟨K',hK1,hK2⟩,hF8⟩:=HOWN.out
 have hpo:=HPO.out
 have hps:=HPS.out
 rw [ht'] at hpo hps
 have hrb4:rb' < w4.heap.size:=qq2 HLH.out
 have hpl3:pb' < w3.heap.size:=HG3.out.row.lt
 have hql4:qb' < w4.heap.size:=HRG4.out.row.lt
 have hDD:∀ b∈rb' :: yj8 [x0,x1],w2.heap.size<=b/\b < w4.heap.size:=fun b hb=>by
  rcases List.mem_cons.1 hb with q|q
  ·omega
  ·obtain ⟨u,hu,hub⟩:=List.mem_filterMap.1 q
   simp at hu
   rcases hu with rfl|rfl
   ·exact HL0.out b hub
   ·exact HL1.out b hub
 have hDp:∀ b∈rb' :: yj8 [x0,x1],b≠pb'/\b < w3.heap.size:=fun b hb=>by
  obtain ⟨rb2,y0,y1,e1,e2,e3,e4,e5,_⟩:=(show RefsA w3 w2.heap.size _ ra rc from HRA.out)
  cases e1
  have hsame:w4.heap[rb']?=w3.heap[rb']?:=hf4.block rb' (qq2 e2) (by simp;omega)
  rw [HLH.out,e2] at hsame
  cases hsame
  rcases List.mem_cons.1 hb with q|q
  ·subst q
   exact ⟨fun e=>gq5 HG3.out.row e2 (by decide) e.symm,qq2 e2⟩
  ·obtain ⟨u,hu,hub⟩:=List.mem_filterMap.1 q
   simp at hu
   have key:∀ (v:Value) (n:Nat) (xs:List Value),w3.ownsRow w2.heap.size 3 1 v n xs->v.ownBlock=some b->b≠pb'/\b < w3.heap.size:=fun v n xs ho hvb=>by
    refine ⟨fun e=>?_,(ho.lt b hvb).2⟩
    rcases ho.2 with ⟨rfl,_⟩|⟨g,cap,cur,rfl,_,hh,_⟩
    ·cases hvb
    ·simp [Value.ownBlock] at hvb
     subst hvb
     exact gq5 HG3.out.row hh (by decide) e.symm
   rcases hu with rfl|rfl
   ·exact key _ _ _ e4 hub
   ·exact key _ _ _ e5 hub
 have hpn:pb'≠bb/\pb'∉K:=by
  rcases hpp with e|e
  ·rw [e];exact hAp
  ·exact ⟨by omega,fun q=>by have:=HKL.out pb' q;omega⟩
 have hqn:qb'≠bb/\qb'∉K:=by
  rcases hqq with e|e
  ·rw [e];exact hAq
  ·exact ⟨by omega,fun q=>by have:=HKL.out qb' q;omega⟩
 have n8:∀ b,b≠bb->b∉K->b∉rb' :: yj8 [x0,x1]->b∉bb :: (K ++ rb' :: yj8 [x0,x1]):=fun b h1 h2 h3 hm=>by
  rcases List.mem_cons.1 hm with q|q
  ·exact h1 q
  ·rcases List.mem_append.1 q with q|q
   ·exact h2 q
   ·exact h3 q
 have nlow:∀ b,b < w.heap.size->b∉rb' :: yj8 [x0,x1]:=fun b hb hm=>by have:=hDD b hm;omega
 have nD:∀ b,b < w.heap.size\/w2.heap.size<=b->b∉D:=fun b hb hm=>by have:=hDb b hm;omega
 have npD:pb'∉rb' :: yj8 [x0,x1]:=fun hm=>(hDp pb' hm).1 rfl
 have nqD:qb'∉rb' :: yj8 [x0,x1]:=fun hm=>by
  have:=hDD qb' hm
  have:=(hDp qb' hm).2
  rcases hqq with e|e <;> omega
 have hpw:pb' < w.heap.size\/w2.heap.size<=pb':=by rcases hpp with e|e <;> omega
 have hqw:qb' < w.heap.size\/w3.heap.size<=qb':=by rcases hqq with e|e <;> omega
 have hgs8:GS w8 gb pb' cap' t':=((HG3.out.fr hf4 (by simp;omega) (by simp;omega)).fr HF47.out (nD gb (by omega)) (nD pb' hpw)).fr hF8 (n8 gb hAg.1 hAg.2 (nlow gb hgl)) (n8 pb' hpn.1 hpn.2 npD)
 have hrg8:RG w8 rb qb' cap2' t':=(HRG4.out.fr HF47.out (nD rb (by omega)) (nD qb' (by omega))).fr hF8 (n8 rb hAr.1 hAr.2 (nlow rb hrl)) (n8 qb' hqn.1 hqn.2 nqD)
 have F48:Fr [gb,rb,qb] w w4:=(hw3.mono (fun x hx=>Or.inl (by simp_all))).trans hf4 (fun x hx=>Or.inl (by simp at hx;simp;omega))
 have sb8:∀ o,w8.cell? ⟨sb,o,none⟩=w.cell? ⟨sb,o,none⟩:=fun o=>by
  rw [hF8.cell sb o (by omega) (n8 sb hAs.1 hAs.2 (nlow sb hsl)),HF47.out.cell sb o (by omega) (nD sb (by omega)),F48.cell sb o hsl (by simp;omega)]
 refine ⟨⟨[sb,gb,pb',rb,qb'],t',K',⟨⟨sb,gb,pb',cap',rb,qb',cap2',rfl,rfl,(sb8 0).trans hx,(sb8 1).trans hy,hgs8,hrg8⟩,?_,hpo.1,hps,hpo.2⟩,hK1,?_,?_,?_⟩,?_⟩
 ·simp only [List.nodup_cons,List.mem_cons,List.not_mem_nil,or_false,not_or,List.nodup_nil,and_true,not_false_eq_true]
  omega
 ·intro x hx
  simp only [List.mem_cons,List.not_mem_nil,or_false] at hx |-
  omega
 ·intro x hx
  rcases hK2 x hx with q|q|q
  ·exact Or.inl q
  ·exact Or.inr (by have:=hDD x q;omega)
  ·exact Or.inr (by omega)
 ·intro x hx
  have hxK:x≠bb/\x∉K/\x∉rb' :: yj8 [x0,x1]/\x < w7.heap.size:=by
   simp only [List.mem_cons,List.not_mem_nil,or_false] at hx
   rcases hx with rfl|rfl|rfl|rfl|rfl
   ·exact ⟨hAs.1,hAs.2,nlow _ hsl,by omega⟩
   ·exact ⟨hAg.1,hAg.2,nlow _ hgl,by omega⟩
   ·exact ⟨hpn.1,hpn.2,npD,by omega⟩
   ·exact ⟨hAr.1,hAr.2,nlow _ hrl,by omega⟩
   ·exact ⟨hqn.1,hqn.2,nqD,by omega⟩
  refine ⟨hxK.1,fun hm=>?_⟩
  rcases hK2 x hm with q|q|q
  ·exact hxK.2.1 q
  ·exact hxK.2.2.1 q
  ·omega
 ·refine ((F48.mono (S':=bb :: ([sb,gb,pb,rb,qb] ++ K)) (fun x hx=>Or.inl ?_)).trans HF47.out (fun b hb=>Or.inr (hDb b hb).1)).trans hF8 (fun b hb=>?_)
  ·simp only [List.mem_cons,List.not_mem_nil,or_false] at hx
   simp only [List.mem_cons,List.mem_append,List.not_mem_nil,or_false]
   omega
  ·rcases List.mem_cons.1 hb with q|q
   ·exact Or.inl (by simp [q])
   ·rcases List.mem_append.1 q with q|q
    ·exact Or.inl (by simp [q])
    ·exact Or.inr (by have:=hDD b q;omega)
end Go.Proofs.YtapabahhfanmmaaGreatDoor
