import Derived.Test.YtapabahhfanmmaaGreatDoorCStepA
import Derived.Laws.CopyOwn
import Derived.Deep.RegionLaw
import Derived.Lib.SliceRun
namespace Go.Proofs.YtapabahhfanmmaaGreatDoor
open Go.RowKit
set_option maxRecDepth 100000
set_option maxHeartbeats 1000000
structure T where
 turn:Int
 next:Int
 s0:Int
 s1:Int
 bd:Nat->Int
 us:List U
 held:Cl->Option Int
abbrev qx2 (h:Cl->Option Int):Int×Int->Option Value:=fun k=>(h k).map fun i=>ii i
def qq9 (t:T)(pv:Value)(hb bb:Nat)(k:Nat):Value :=
  if k=0 then ii t.turn else if k=1 then ii t.next else if k=2 then ii t.s0 else if k=3 then ii t.s1 else if k < 148 then ii (t.bd (k - 4)) else if k=148 then pv else if k=149 then .map (some hb) else .map (some bb)
structure PRow (w:World) (pb cap:Nat) (us:List U):Prop where
 h:∃ cur:Array Value,w.heap[pb]?=some (.cells cur 85 (0,0))/\cur.size=cap*11/\cur.toList.take (us.length*11)=us.flatMap U.cells
 le:us.length<=cap
 cap:cap<=maxLen
structure TS (w:World) (tb pb cap hb bb:Nat) (t:T):Prop where
 cell:∀ k,k < 151->w.cell? ⟨tb,k,none⟩=some (qq9 t (.slice (some ⟨pb,0,none⟩) t.us.length cap) hb bb k)
 fz:∀ k,w.frozen? ⟨tb,k,none⟩=false
 row:PRow w pb cap t.us
 len:t.us.length<=1000
 held:MapF w hb (qx2 t.held)
 ways:MapF w bb (fun _=>none)
 n1:tb≠pb
 n2:tb≠hb
 n3:tb≠bb
 n4:pb≠hb
 n5:pb≠bb
 n6:hb≠bb
 z:0 < tb/\0 < pb/\0 < hb/\0 < bb
theorem qqj1 {us:List U}{i:Nat}{u:U}(h:us[i]?=some u)(j:Nat)(hj:j < 11):(us.flatMap U.cells)[i*11+j]?=u.cells[j]?:=by
 induction us generalizing i with
 | nil=>simp at h
 | cons a us ih =>
  cases i with
  | zero =>
   simp at h
   subst h
   rw [List.flatMap_cons,List.getElem?_append_left (by simp;omega)]
   simp
  | succ i =>
   have:=ih (i:=i) (by simpa using h)
   rw [List.flatMap_cons,List.getElem?_append_right (by simp;omega)]
   rw [<- this]
   congr 1
   simp
   omega
theorem PRow.ppl {w:World}{pb cap:Nat}{us:List U}(h:PRow w pb cap us):Ppl w pb us:=by
 obtain ⟨cur,hh,hs,ht⟩:=h.h
 intro i hi j v hv
 have hj:j < 11:=by have:=(List.getElem?_eq_some_iff.1 hv).1;simpa using this
 have h1:=qqj1 (List.getElem?_eq_getElem hi) j hj
 rw [<- ht,List.getElem?_take_of_lt (by omega),hv] at h1
 rw [j9 hh]
 simpa using h1
theorem PRow.fr {S:List Nat}{w w':World}{pb cap:Nat}{us:List U}(h:PRow w pb cap us)(hf:Fr S w w')(hn:pb∉S):PRow w' pb cap us:=by
 obtain ⟨⟨cur,hh,r⟩,h2,h3⟩:=h
 exact ⟨⟨cur,hf.heap hh hn,r⟩,h2,h3⟩
theorem PRow.lt {w:World}{pb cap:Nat}{us:List U}(h:PRow w pb cap us):pb < w.heap.size:=by
 obtain ⟨cur,hh,_⟩:=h.h
 exact qq2 hh
theorem TS.lt {w:World}{tb pb cap hb bb:Nat}{t:T}(h:TS w tb pb cap hb bb t):tb < w.heap.size:=qq1 (h.cell 0 (by omega))
theorem TS.fr {S:List Nat}{w w':World}{tb pb cap hb bb:Nat}{t:T}(h:TS w tb pb cap hb bb t)(hf:Fr S w w')(h1:tb∉S)(h2:pb∉S)(h3:hb∉S)(h4:bb∉S):TS w' tb pb cap hb bb t :=
 { h with
  cell:=fun k hk=>by rw [hf.cell tb k h.lt h1];exact h.cell k hk
  fz:=fun k=>by rw [hf.frozen tb k h.lt h1];exact h.fz k
  row:=h.row.fr hf h2
  held:=h.held.fr hf h3
  ways:=h.ways.fr hf h4 }
theorem TS.fr0 {w w':World}{tb pb cap hb bb:Nat}{t:T}(h:TS w tb pb cap hb bb t)(hf:Fr [] w w'):TS w' tb pb cap hb bb t:=h.fr hf (by simp) (by simp) (by simp) (by simp)
theorem TS.gv {w:World}{tb pb cap hb bb:Nat}{t:T}(h:TS w tb pb cap hb bb t):GV w tb pb cap t.us :=
  ⟨by have:=h.cell 148 (by omega);simpa [qq9] using this,h.row.ppl,h.len⟩
theorem TS.tv {w:World}{tb pb cap hb bb:Nat}{t:T}(h:TS w tb pb cap hb bb t):TV w tb hb (qx2 t.held) t.bd :=
 ⟨by have:=h.cell 149 (by omega);simpa [qq9] using this,h.held,fun i hi=>by
  have:=h.cell (4+i) (by omega)
  rw [this]
  unfold qq9
  rw [if_neg (by omega),if_neg (by omega),if_neg (by omega),if_neg (by omega),if_pos (by omega),show 4+i - 4=i by omega]⟩
theorem TS.c150 {w:World}{tb pb cap hb bb:Nat}{t:T}(h:TS w tb pb cap hb bb t):w.cell? ⟨tb,150,none⟩=some (.map (some bb)):=by
  have:=h.cell 150 (by omega);simpa [qq9] using this
theorem jv6:(Tryz.prog.info? 85).map (fun i=>(i.zero,i.size,i.bytes))=some (some zeroU.val,11,88):=by kernel_rfl
theorem jv5 (us:List U):(us.flatMap U.cells).length=us.length*11:=by
 induction us with
 | nil=>rfl
 | cons a us ih=>rw [List.flatMap_cons,List.length_append,ih];simp;omega
theorem kx3 (us:List U):∀ v∈us.flatMap U.cells,v.oneCell'=true:=by
 intro v hv
 obtain ⟨u,_,hu⟩:=List.mem_flatMap.1 hv
 simp at hu
 rcases hu with rfl|rfl|rfl|rfl|rfl|rfl|rfl|rfl|rfl|rfl|rfl <;> rfl
theorem PRow.of_owns {w:World}{base n:Nat}{v:Value}{us:List U}(h:w.ownsRow base 85 11 v n (us.flatMap U.cells))(hn:n=us.length)(hp:0 < n):∃ pb cap,v=.slice (some ⟨pb,0,none⟩) us.length cap/\base<=pb/\PRow w pb cap us:=by
 subst hn
 obtain ⟨_,h2⟩:=h
 rcases h2 with ⟨_,h3⟩|⟨g,cap,cur,rfl,hb,hg,h4,h5,h6,h7⟩
 ·omega
 ·exact ⟨g,cap,rfl,hb,⟨⟨cur,hg,h6,h7⟩,h4,h5⟩⟩
theorem yv7 (pb cap:Nat)(us:List U)(w:World)(hp:PRow w pb cap us)(hlen:us.length<=1000)(hne:0 < us.length) :
  Calls Tryz.prog 75 #[.slice (some ⟨pb,0,none⟩) us.length cap] w fun e w'=>∃ pb' cap',e=.returned (.slice (some ⟨pb',0,none⟩) us.length cap')/\w.heap.size<=pb'/\PRow w' pb' cap' us/\Fr [] w w':=by
 obtain ⟨inf,hi,hz0,hz1,hz2⟩:=info_parts jv6
 have hnil:∀ w0:World,(binOp BinOp.eql 82 (.slice (some ⟨pb,0,none⟩) us.length cap) (.slice none 0 0)).run Tryz.prog w0=.ok (.bool false) w0:=fun w0=>by kernel_rfl
 obtain ⟨cur,hh,hs,ht⟩:=hp.h
 have hnews:∀ (W:World),W.heap[pb]?=w.heap[pb]?->∀ j u,(us.flatMap U.cells)[j]?=some u->W.cell? ((⟨pb,0,none⟩:Addr).add j)=some u:=by
  intro W hW j u hu
  have hadd:((⟨pb,0,none⟩:Addr).add j)=⟨pb,j,none⟩:=by unfold Addr.add;split <;> simp_all
  have hj:j < us.length*11:=by rw [<- jv5 us];exact (List.getElem?_eq_some_iff.1 hu).1
  rw [hadd,j9 (hW.trans hh)]
  rw [<- ht,List.getElem?_take_of_lt hj] at hu
  simpa using hu
 have HN:=hid hnews
 have hpl:=qq2 hh
 clear hnews hh hs ht
 have hown0:(w.alloc (.cells #[] 85)).ownsRow w.heap.size 85 11 (.slice (some ⟨w.heap.size,0,none⟩) 0 0) 0 []:=⟨rfl,Or.inr ⟨_,0,#[],rfl,Nat.le_refl _,qq6 _ _,Nat.le_refl _,by decide,rfl,rfl⟩⟩
 go_enter Tryz.func75,Tryz.ntmps75
 go_wp2_with (first
  | (at_builtin;refine wpList_append_own _ rfl _ _ 82 rfl w.heap.size 85 inf zeroU.val 11 88 Tryz.underlying82 hi hz0 hz1 hz2 rfl (by decide) (.slice (some ⟨w.heap.size,0,none⟩) 0 0) 0 [] rfl hown0 ⟨pb,0,none⟩ us.length cap (us.flatMap U.cells) rfl (jv5 us) (HN.out _ (qz7 _ _ _ hpl)) (kx3 us) (by unfold maxLen;omega) (by omega) (by simp) ?_;intro v' w2 hown2 hgrow hnil2)
  | fail)
 go_ret
 simp only [Nat.zero_add,List.nil_append] at hown2
 obtain ⟨pb',cap',hv,hb,hrow⟩:=PRow.of_owns hown2 rfl hne
 refine ⟨pb',cap',?_,hb,hrow,?_⟩
 ·rw [<- hv];rfl
 ·exact ((Fr.refl [] w).alloc _).grown hgrow (fun k hk=>Or.inr (by simp [Value.ownBlock] at hk;omega))
theorem vq4 {P:Program} {ops:Array Oper} {o:Oper} {a:Act} {w:World} {K:Act->World->Prop} {Q:Exit->Act->World->Prop} {E:Prop}
  (hg:o.guard=none) (s x:Operand) (t:TypeId) (hop:o.op=Op.call { callee:=Callee.builtin Builtin.append,args:=#[s,x],argTypes:=#[t,t] })
  (e:TypeId) (i:TypeInfo) (size:Nat) (h1:P.underlying t=some (.slice e)) (h2:P.info? e=some i) (h4:i.size=size)
  (b n cap:Nat) (cur:Array Value) (hb:w.heap[b]?=some (.cells cur e (0,0))) (hs:a.eval s=.slice (some ⟨b,0,none⟩) n cap)
  (ad:Addr) (m c:Nat) (news:List Value) (hx:a.eval x=.slice (some ad) m c) (hn:news.length=m*size) (hc:∀ j u,news[j]?=some u->w.cell? (ad.add j)=some u) (h1c:∀ u∈news,u.oneCell'=true)
  (hroom:n+m<=cap) (hfit:n*size+news.length<=cur.size)
  (hK:K (a.put o.dst (.slice (some ⟨b,0,none⟩) (n+m) cap)) (w.setRow b (cur.toList.take (n*size) ++ news ++ cur.toList.drop (n*size+news.length)).toArray)) :
  if Region.wanted o (yielded ops a.tmps)=true then Oper.wp P o a w K Q else E:=by
 have hw:Region.wanted o (yielded ops a.tmps)=true:=by simp [Region.wanted,hg]
 rw [if_pos hw]
 subst h4
 have hrun:=run_append_room (P:=P) w t o.type e i h1 h2 b n cap cur hb ad m c news hn hc h1c hroom hfit
 unfold Oper.wp
 simp only [execOp,hop,resolve,invoke,builtin,Sem.run_bind,Sem.run_pure,Result.andThen_ok,List.map_toArray,List.map_cons,List.map_nil,hs,hx,hrun]
 exact hK
theorem xj9 (us:List U)(i:Nat):(us.take i).flatMap U.cells=(us.flatMap U.cells).take (i*11):=by
 induction us generalizing i with
 | nil=>simp
 | cons a us ih =>
  cases i with
  | zero=>simp
  | succ i =>
   have h:(a.cells).length=11:=rfl
   rw [List.take_succ_cons,List.flatMap_cons,List.flatMap_cons,ih,List.take_append,List.take_of_length_le (l:=a.cells) (by omega),h,show (i+1)*11 - 11=i*11 by omega]
theorem xj7 (us:List U)(i:Nat):(us.drop i).flatMap U.cells=(us.flatMap U.cells).drop (i*11):=by
 induction us generalizing i with
 | nil=>simp
 | cons a us ih =>
  cases i with
  | zero=>simp
  | succ i =>
   have h:(a.cells).length=11:=rfl
   rw [List.drop_succ_cons,List.flatMap_cons,ih,List.drop_append,List.drop_of_length_le (l:=a.cells) (by omega),List.nil_append,h,show (i+1)*11 - 11=i*11 by omega]
theorem qzx4:(Builtin.zeroCells zeroU.val.cells 1).toList=zeroU.cells:=by kernel_rfl
theorem xq1 (w:World)(ty:TypeId)(b o c:Nat)(cur:Array Value)(hb:w.heap[b]?=some (.cells cur 85 (0,0)))(ho:o+11<=cur.size) :
  (Builtin.clear_ #[82] ty #[.slice (some ⟨b,o,none⟩) 1 c]).run Tryz.prog w=.ok (.tuple #[]) (w.setRow b (cur.toList.take o ++ zeroU.cells ++ cur.toList.drop (o+11)).toArray):=by
 have hst:=run_storeCells_at Tryz.prog b o 85 zeroU.cells 0 cur w hb (by simpa using ho) (by simp [Value.oneCell'])
 simp only [Nat.add_zero] at hst
 have hz:=qzx4
 simp [Builtin.clear_,run_underlying Tryz.underlying82,Tryz.zeroValue85,hz,hst]
theorem gx3 (pb cap i:Nat)(us:List U)(w:World)(hp:PRow w pb cap us)(hlen:us.length<=1000)(hi:i < us.length) :
  Calls Tryz.prog 221 #[.slice (some ⟨pb,0,none⟩) us.length cap,.int .i64 i,.int .i64 (i+1:Nat)] w fun e w'=>e=.returned (.slice (some ⟨pb,0,none⟩) (us.length - 1) cap)/\PRow w' pb cap (us.eraseIdx i)/\Fr [pb] w w':=by
 obtain ⟨inf,hi0,hz0,hz1,hz2⟩:=info_parts jv6
 obtain ⟨cur,hh,hs,ht⟩:=hp.h
 have hle:=hp.le
 have hcm:=hp.cap
 unfold maxLen at hcm
 have hpl:=qq2 hh
 obtain ⟨news,hnews⟩:∃ news,news=(us.flatMap U.cells).drop ((i+1)*11):=⟨_,rfl⟩
 have hnl:news.length=(us.length - (i+1))*11:=by rw [hnews,List.length_drop,jv5,Nat.sub_mul]
 have hsrc:∀ j v,news[j]?=some v->w.cell? ⟨pb,(i+1)*11+j,none⟩=some v:=by
  intro j v hv
  have hj:j < (us.length - (i+1))*11:=by rw [<- hnl];exact (List.getElem?_eq_some_iff.1 hv).1
  rw [hnews,List.getElem?_drop,<- ht,List.getElem?_take_of_lt (by omega)] at hv
  rw [j9 hh]
  simpa using hv
 obtain ⟨A,hA,hsr⟩:∃ A:Addr,(if cap=i+1 then some (⟨pb,0,none⟩:Addr) else some ⟨pb,(i+1)*11,none⟩)=some A/\Hid (∀ t v,news[t]?=some v->w.drew.cell? (A.add t)=some v):=by
  by_cases h:cap=i+1
  ·refine ⟨⟨pb,0,none⟩,by simp [h],fun t u hu=>?_⟩
   have h0:news.length=0:=by rw [hnl];omega
   rw [List.length_eq_zero_iff.1 h0] at hu
   simp at hu
  ·refine ⟨⟨pb,(i+1)*11,none⟩,by simp [h],fun t u hu=>?_⟩
   rw [Addr.add_lit]
   exact hsrc t u hu
 have s1:Hid (news.length=(us.length - (i+1))*11):=hnl
 have s2:Hid (∀ u∈news,u.oneCell'=true):=by
  intro u hu
  rw [hnews] at hu
  exact kx3 us u (List.mem_of_mem_drop hu)
 obtain ⟨cur1,hc1⟩:∃ c,c=(cur.toList.take (i*11) ++ news ++ cur.toList.drop (i*11+news.length)).toArray:=⟨_,rfl⟩
 have hz1s:cur1.size=cap*11:=by rw [hc1];simp [hs];omega
 obtain ⟨W1,hW1⟩:∃ W1,W1=w.drew.setRow pb cur1:=⟨_,rfl⟩
 have hb1:W1.heap[pb]?=some (.cells cur1 85 (0,0)):=by rw [hW1];exact setRow_heap _ _ _ _ _ _ hh
 have hn1:i+(us.length - (i+1))=us.length - 1:=by omega
 have hn2:us.length - (i+(us.length - (i+1)))=1:=by omega
 have hcl:∀ ty,(Builtin.clear_ #[82] ty #[.slice (some ⟨pb,(i+(us.length - (i+1)))*11,none⟩) (us.length - (i+(us.length - (i+1)))) (cap - (i+(us.length - (i+1))))]).run Tryz.prog W1=.ok (.tuple #[]) (W1.setRow pb (cur1.toList.take ((us.length - 1)*11) ++ zeroU.cells ++ cur1.toList.drop ((us.length - 1)*11+11)).toArray) :=
  fun ty=>by rw [hn2,hn1];exact xq1 W1 ty pb _ _ cur1 hb1 (by omega)
 clear hn1 hn2
 have HF:Hid (i*11+news.length<=cur.size):=by show _<=_;omega
 have HH:=hid hh
 have HW:Hid (W1=w.drew.setRow pb (cur.toList.take (i*11) ++ news ++ cur.toList.drop (i*11+news.length)).toArray):=by show _=_;rw [hW1,hc1]
 have HHW:Hid (W1=w.drew.setRow pb cur1):=hW1
 have HC:=hid hc1
 have HB1:=hid hb1
 have HT:=hid ht
 have HS:=hid hs
 have HZ:=hid hz1s
 have HN:=hid hnews
 clear hW1 hc1 hb1 hnews hsrc ht hs hz1s hnl
 have hic:i<=cap:=by omega
 have hjc:i+1<=cap:=by omega
 have hjn:i+1<=us.length:=hi
 have hq1:(0:Int)<=(i:Int)+1:=by omega
 have hq2:(i:Int)+1<=(us.length:Int):=by omega
 go_enter Tryz.func221,Tryz.ntmps221
 go_wp2_with fail
 go_region_law (refine vq4 rfl (.tmp 22) (.tmp 25) 82 rfl 85 inf 11 Tryz.underlying82 hi0 hz1 pb i cap cur HH.out (by simp [Act.eval,Act.put]) A (us.length - (i+1)) (cap - (i+1)) news (by simp [Act.eval,Act.put]) s1.out hsr.out s2.out (by omega) HF.out ?_;rw [<- HW.out])
 go_wp2_with fail
 go_ret
 have hel:(us.eraseIdx i).length=us.length - 1:=by rw [List.length_eraseIdx];simp [hi]
 refine ⟨by rw [show us.length - 1=i+(us.length - (i+1)) by omega];rfl,⟨⟨_,setRow_heap _ _ _ _ _ _ HB1.out,?_,?_⟩,by omega,hp.cap⟩,?_⟩
 ·have:=HZ.out
  simp
  omega
 ·have h1:=HZ.out
  have h2:=HC.out
  have h3:=HT.out
  have h4:=HN.out
  have h5:=s1.out
  have h6:=HS.out
  have e1:(us.eraseIdx i).flatMap U.cells=cur.toList.take (i*11) ++ news:=by
   rw [List.eraseIdx_eq_take_drop_succ,List.flatMap_append,h4]
   rw [xj9,xj7,<- h3,List.take_take]
   congr 2
   omega
  rw [hel,e1]
  have e2:(cur.toList.take (i*11) ++ news).length=(us.length - 1)*11:=by
   simp [h5,h6];omega
  show List.take _ (_ ++ _)=_
  rw [List.take_append_of_le_length (by simp [h1];omega),List.take_take,Nat.min_self,h2]
  show List.take _ (_ ++ _ ++ _)=_
  rw [List.take_append_of_le_length (by omega),List.take_of_length_le (by omega)]
 ·rw [HHW.out]
  exact (((Fr.refl _ _).drew).setRow _ _ (by simp)).setRow _ _ (by simp)
structure GS (w:World) (gb pb cap:Nat) (t:T):Prop where
 cell:∀ k,k < 149->w.cell? ⟨gb,k,none⟩=some (qq9 t (.slice (some ⟨pb,0,none⟩) t.us.length cap) 0 0 k)
 fz:∀ k,w.frozen? ⟨gb,k,none⟩=false
 row:PRow w pb cap t.us
 len:t.us.length<=1000
 ne:0 < t.us.length
 n1:gb≠pb
 z:0 < gb/\0 < pb
theorem GS.lt {w:World}{gb pb cap:Nat}{t:T}(h:GS w gb pb cap t):gb < w.heap.size:=qq1 (h.cell 0 (by omega))
theorem GS.fr {S:List Nat}{w w':World}{gb pb cap:Nat}{t:T}(h:GS w gb pb cap t)(hf:Fr S w w')(h1:gb∉S)(h2:pb∉S):GS w' gb pb cap t :=
 { h with
  cell:=fun k hk=>by rw [hf.cell gb k h.lt h1];exact h.cell k hk
  fz:=fun k=>by rw [hf.frozen gb k h.lt h1];exact h.fz k
  row:=h.row.fr hf h2 }
theorem GS.gv {w:World}{gb pb cap:Nat}{t:T}(h:GS w gb pb cap t):GV w gb pb cap t.us :=
  ⟨by have:=h.cell 148 (by omega);simpa [qq9] using this,h.row.ppl,h.len⟩
theorem jx5 (gb:Nat)(w:World) :
  Calls Tryz.prog 39 #[.pointer (some ⟨gb,0,none⟩)] w fun e w'=>e=.returned (.pointer (some ⟨gb,0,none⟩))/\w=w':=by
 go_enter Tryz.func39,Tryz.ntmps39
 go_wp2
 go_ret
 exact ⟨rfl,rfl⟩
theorem gv4 (gb pb cap:Nat)(t:T)(w:World)(h:GS w gb pb cap t) :
  Calls Tryz.prog 34 #[.pointer (some ⟨gb,0,none⟩)] w fun e w'=>∃ pb' cap',e=.returned (.slice (some ⟨pb',0,none⟩) t.us.length cap')/\w.heap.size<=pb'/\PRow w' pb' cap' t.us/\Fr [] w w':=by
 have hc:=h.gv.c
 go_enter Tryz.func34,Tryz.ntmps34
 go_wp2_with (first|(go_at_call 39;refine (jx5 gb _).mono ?_;rintro e w1 ⟨rfl,rfl⟩)|(go_at_call 75;refine (yv7 pb cap t.us _ h.row h.len h.ne).mono ?_;rintro e w1 ⟨pb',cap',rfl,hb,hr,hf⟩))
 go_ret
 exact ⟨pb',cap',rfl,hb,hr,hf⟩
end Go.Proofs.YtapabahhfanmmaaGreatDoor
