import Derived.Test.YtapabahhfanmmaaGreatDoorCPlayE
namespace Go.Proofs.YtapabahhfanmmaaGreatDoor
open Go.RowKit
set_option maxRecDepth 100000
set_option maxHeartbeats 2000000
theorem qxz2 (w:World):(Instr.makeSlice 46 (.int .i64 2) (.int .i64 2)).run Tryz.prog w=.ok (.slice (some ⟨w.heap.size,0,none⟩) 2 2) (w.alloc (.cells #[.slice none 0 0,.slice none 0 0] 25)):=by kernel_rfl
theorem qzz7 (pb cap:Nat)(t:T)(l1 l2:List Cm)(lv1 lv2:Value)(w:World)(hsd:Sd w)(hok:GOk t)(hrow:PRow w pb cap t.us)(hlen:t.us.length<=1000)(hne:0 < t.us.length)(ht:0<=t.turn/\t.turn < 1000000000)(h1:CmdV w lv1 l1)(h2:CmdV w lv2 l2)(hl1:l1.length<=2000000)(hl2:l2.length<=2000000)(hov:qx3 t.us=false) :
  Calls Tryz.prog 74 #[.agg (qz5 t (.slice (some ⟨pb,0,none⟩) t.us.length cap)).toArray,lv1,lv2] w fun e w' =>
   ∃ v pb' cap',e=.returned (.tuple #[.agg (qz5 (qk6 t l1 l2).1 (.slice (some ⟨pb',0,none⟩) (qk6 t l1 l2).1.us.length cap')).toArray,v])/\Fr [] w w'/\PRow w' pb' cap' (qk6 t l1 l2).1.us/\w.heap.size<=pb'/\RefsA w' w.heap.size v (qk6 t l1 l2).2.1 (qk6 t l1 l2).2.2:=by
 obtain ⟨gs,hgs⟩:∃ gs,gs=(qz5 t (.slice (some ⟨pb,0,none⟩) t.us.length cap)).toArray:=⟨_,rfl⟩
 have hg:gs.size=149:=by rw [hgs];simp [qz5]
 have HGS:=hid hgs
 have hg0:gs[0]?=some (ii t.turn):=by rw [hgs];simp [qz5,qq9]
 have hg148:gs[148]?=some (.slice (some ⟨pb,0,none⟩) t.us.length cap):=by rw [hgs];simp [qz5,qq9]
 have hbeg:∀ w3,Fr [] w w3->Calls Tryz.prog 117 #[.agg gs] w3 fun e w'=>∃ tb pb' cap' hb bb,e=.returned (.pointer (some ⟨tb,0,none⟩))/\Fr [] w3 w'/\TS w' tb pb' cap' hb bb (qk7 t)/\w3.heap.size<=tb/\w3.heap.size<=pb'/\w3.heap.size<=hb/\w3.heap.size<=bb:=fun w3 hf=>by
  rw [hgs];exact fj9 pb cap t w3 (hrow.fr hf (by simp)) hne hlen
 have HBEG:=hid hbeg
 rw [<- hgs]
 clear hbeg
 have HG:=hid hg
 clear hgs hg
 obtain ⟨W2,hW2⟩:∃ W,W=(w.alloc (.cells gs 90)).alloc (.cells Tryz.zeroCells90 90):=⟨_,rfl⟩
 have h02:Fr [] w W2:=by rw [hW2];exact ((Fr.refl _ _).alloc _).alloc _
 have hG2:W2.heap[w.heap.size]?=some (.cells gs 90):=by rw [hW2,qz8]
 have hR2:W2.heap[w.heap.size+1]?=some (.cells Tryz.zeroCells90 90):=by rw [hW2,qz4]
 have hgv:GV W2 w.heap.size pb cap t.us:=⟨by rw [j9 hG2];exact hg148,(hrow.fr h02 (by simp)).ppl,hlen⟩
 have hgv':=hgv
 rw [hW2] at hgv'
 have HV:=(show Hid _ from hgv')
 have HW:=hid hW2
 clear hW2 hgv'
 go_enter Tryz.func74,Tryz.ntmps74
 go_wp2_with (first|(go_at_call 116;refine (jw0 w.heap.size pb cap t.us _ HV.out).mono ?_;rintro e w3 ⟨rfl,hf3⟩;rw [hov];rw [<- HW.out] at hf3;have hG3:=hf3.heap0 hG2)|(refine wpList_load_row rfl 90 _ rfl w.heap.size rfl 90 gs (0,0) _ hG3 Tryz.underlying90 rfl (by rw [qx7,HG.out]) ?_))
 refine Calls.mono (HBEG.out w3 (h02.then0 hf3)) ?_
 rintro e w4 ⟨tb,pb',cap',hb,bb,rfl,hf4,hts,q1,q2,q3,q4⟩
 dsimp only
 have hR4:=hf4.heap0 (hf3.heap0 hR2)
 have hw4:Fr [] w w4:=(h02.then0 hf3).then0 hf4
 have hw2s:=qq2 hR2
 have hs3:=hf3.size
 clear hG3 hG2 hR2 hgv HV HW hg0 hg148 HGS HG HBEG hrow hf3
 have hm2:=qxz2
 go_wp2_with fail
 obtain ⟨W5,hW5⟩:∃ W,W=w4.alloc (.cells #[.slice none 0 0,.slice none 0 0] 25):=⟨_,rfl⟩
 rw [<- hW5]
 have hf5:Fr [] w4 W5:=by rw [hW5];exact (Fr.refl _ _).alloc _
 have hB5:W5.heap[w4.heap.size]?=some (.cells #[.slice none 0 0,.slice none 0 0] 25):=by rw [hW5];exact qq6 _ _
 clear hW5
 obtain ⟨rb,hrb⟩:∃ x,x=w4.heap.size:=⟨_,rfl⟩
 have htl:=hts.lt
 have hpl:=hts.row.lt
 have hhl:=hts.held.lt
 have hbl:=hts.ways.lt
 rw [<- hrb] at hB5 htl hpl hhl hbl |-
 have hw5:Fr [] w W5:=hw4.then0 hf5
 have hR5:=hf5.heap0 hR4
 have hts5:=hts.fr0 hf5
 have hb0:w.heap.size+1 < tb/\w.heap.size+1 < pb'/\w.heap.size+1 < hb/\w.heap.size+1 < bb:=by omega
 have hokb:TOk (qk7 t):=hok
 clear hrb hf5 hR4 hw4 hts hf4 hm2 q1 q2 q3 q4
 obtain ⟨g0,o0⟩:=jx7 0 (fun _=>False) l1 0 hokb (fun _ e=>e)
 refine Calls.mono (xj3 tb pb' cap' hb bb (qk7 t) 0 l1 lv1 w W5 hts5 hokb h1 hw5 hl1 (by omega)) ?_
 rintro e w6 ⟨v0,rfl,hf6,hts6,hown0⟩
 dsimp only
 obtain ⟨a0,n0,c0,rfl⟩:=zv7 hown0
 have hB6:=hf6.heap hB5 (by simp;omega)
 have hs5l:=qq2 hB5
 have hR6:=hf6.heap hR5 (by simp;omega)
 have hw6:Fr [] w w6:=hw5.trans hf6 (by simp;omega)
 have hB60:w6.cell? ⟨rb,0,none⟩=some (.slice none 0 0):=j9 hB6
 have hB6z:w6.frozen? ⟨rb,0,none⟩=false:=qq0 hB6
 obtain ⟨t1,ht1⟩:∃ x,(qz6 0 0 l1 (qk7 t)).2=x:=⟨_,rfl⟩
 obtain ⟨r1,hr1⟩:∃ x,(qz6 0 0 l1 (qk7 t)).1=x:=⟨_,rfl⟩
 rw [ht1] at g0 o0 hts6
 rw [hr1] at hown0
 have HT1:=hid ht1
 have HR1:=hid hr1
 clear ht1 hr1 hB5 hts5
 go_wp2_with fail
 obtain ⟨W7,hW7⟩:∃ W,W=w6.setCell ⟨rb,0,none⟩ (.slice a0 n0 c0):=⟨_,rfl⟩
 rw [<- hW7]
 have hf7:Fr [rb] w6 W7:=by rw [hW7];exact (Fr.refl _ _).setCell _ _ (by simp)
 have hB7:W7.heap[rb]?=some (.cells #[.slice a0 n0 c0,.slice none 0 0] 25):=by rw [hW7];exact (qz9 hB6 0 _).trans (by simp)
 have hrbl:=qq2 hB6
 have hrw:w.heap.size+1 < rb:=by omega
 have hw7:Fr [] w W7:=hw6.trans hf7 (by simp;omega)
 have hR7:=hf7.heap hR6 (by simp;omega)
 have hts7:=hts6.fr hf7 (by simp;omega) (by simp;omega) (by simp;omega) (by simp;omega)
 have hs56:=hf6.size
 have hown0':=zz5 hown0 hf7 hs5l
 have HAP:Hid (∀ g,Value.ownBlock (.slice a0 n0 c0)=some g->g < w6.heap.size):=fun g hg=>(hown0.lt g hg).2
 clear hW7 hB6 hB60 hB6z hts6 hR6 hw6 hown0 hR5
 obtain ⟨g1,o1⟩:=jx7 1 (fun _=>False) l2 0 g0.ok (fun _ e=>e)
 refine Calls.mono (xj3 tb pb' cap' hb bb t1 1 l2 lv2 w W7 hts7 g0.ok h2 hw7 hl2 (by omega)) ?_
 rintro e w8 ⟨v1,rfl,hf8,hts8,hown1⟩
 dsimp only
 obtain ⟨a1,n1,c1,rfl⟩:=zv7 hown1
 have hB8:=hf8.heap hB7 (by simp;omega)
 have hR8:=hf8.heap hR7 (by simp;omega)
 have hw8:Fr [] w w8:=hw7.trans hf8 (by simp;omega)
 have hB80:w8.cell? ⟨rb,1,none⟩=some (.slice none 0 0):=j9 hB8
 have hB8z:w8.frozen? ⟨rb,1,none⟩=false:=qq0 hB8
 have hown0'':=zz5 hown0' hf8 (by omega)
 obtain ⟨t2,ht2⟩:∃ x,(qz6 1 0 l2 t1).2=x:=⟨_,rfl⟩
 obtain ⟨r2,hr2⟩:∃ x,(qz6 1 0 l2 t1).1=x:=⟨_,rfl⟩
 rw [ht2] at g1 o1 hts8
 rw [hr2] at hown1
 have HT2:=hid ht2
 have HR2:=hid hr2
 clear ht2 hr2 hB7 hts7 hown0' hR7
 go_wp2_with fail
 obtain ⟨W9,hW9⟩:∃ W,W=w8.setCell ⟨rb,1,none⟩ (.slice a1 n1 c1):=⟨_,rfl⟩
 rw [<- hW9]
 have hf9:Fr [rb] w8 W9:=by rw [hW9];exact (Fr.refl _ _).setCell _ _ (by simp)
 have hB9:W9.heap[rb]?=some (.cells #[.slice a0 n0 c0,.slice a1 n1 c1] 25):=by rw [hW9];exact (qz9 hB8 1 _).trans (by simp)
 have hw9:Fr [] w W9:=hw8.trans hf9 (by simp;omega)
 have hR9:=hf9.heap hR8 (by simp;omega)
 have hts9:=hts8.fr hf9 (by simp;omega) (by simp;omega) (by simp;omega) (by simp;omega)
 have hs7:=hf7.size
 have hown0c:=zz5 hown0'' hf9 hs5l
 have hown1c:=zz5 hown1 hf9 (by omega)
 have hno2:qx3 t2.us=false:=by rw [o1,o0];exact hov
 have hne2:0 < t2.us.length:=by
  have h1:=g1.ok.bs
  have h2:=List.countP_le_length (p:=qq4 0) (l:=t2.us)
  have h3:=List.countP_le_length (p:=qq4 1) (l:=t2.us)
  omega
 have hg3:=jy3 t2.us g1.ok hno2 (yz7 g1.ok.rise)
 have hact:=qqz6 tb pb' cap' hb bb t2 W9 hts9 (hsd.fr hw9 (by simp)) g1.ok hno2 hne2
 obtain ⟨t3,ht3⟩:∃ x,zq5 t2.us t2=x:=⟨_,rfl⟩
 rw [ht3] at hg3 hact
 have HT3:=hid ht3
 have htn:t3.turn=t.turn:=by rw [hg3.tn,g1.tn,g0.tn];rfl
 clear hW9 hB8 hB80 hB8z hts8 hR8 hw8 hown0'' hown1 ht3
 refine Calls.mono hact ?_
 rintro e w10 ⟨rfl,pb2,cap2,hf10,hts10,hpp⟩
 dsimp only
 have hB10:=hf10.heap hB9 (by simp;omega)
 have hR10:=hf10.heap hR9 (by simp;omega)
 have hw10:Fr [] w w10:=hw9.trans hf10 (by simp;omega)
 have hown0d:=qq7 hown0c hf10 (fun b hb=>by have:=qj1 hown0c hb;simp;omega)
 have hown1d:=qq7 hown1c hf10 (fun b hb=>by have:=qj1 hown1c hb;simp;omega)
 have hc0:w10.cell? ⟨tb,0,none⟩=some (ii t3.turn):=by have:=hts10.cell 0 (by omega);simpa [qq9] using this
 have hz0:=hts10.fz 0
 rw [htn] at hc0
 have hs9:=hw9.size
 have hs10:=hf10.size
 have hpl10:=hts10.row.lt
 clear hB9 hR9 hts9 hown0c hown1c hact
 have hRNG:(w10.setCell ⟨tb,0,none⟩ (.int .i64 (t.turn+1))).rangeAt tb 0 (qz5 { t3 with turn:=t.turn+1 } (.slice (some ⟨pb2,0,none⟩) t3.us.length cap2)):=by
  intro j v hv
  have hj:j < 149:=by have:=(List.getElem?_eq_some_iff.1 hv).1;rwa [zq7] at this
  unfold qz5 at hv
  rw [List.getElem?_map,List.getElem?_range hj] at hv
  simp only [Option.map_some,Option.some.injEq] at hv
  rw [<- hv,Nat.zero_add]
  by_cases h0:j=0
  ·subst h0
   rw [qk0 _ _ _ _ _ hc0]
   simp [qq9]
  ·rw [qz1 _ _ _ _ _ _ (Or.inr (fun e=>h0 e.symm)),hts10.cell j (by omega)]
   unfold qq9
   have h149:¬ j=149:=by omega
   simp only [h0,if_false]
   by_cases h1:j=1
   ·simp [h1]
   ·by_cases h2:j=2
    ·simp [h2]
    ·by_cases h3:j=3
     ·simp [h3]
     ·by_cases h8:j < 148
      ·simp [h1,h2,h3,h8]
      ·have:j=148:=by omega
       subst this
       simp
 have hR11:(w10.setCell ⟨tb,0,none⟩ (.int .i64 (t.turn+1))).heap[w.heap.size+1]?=some (.cells Tryz.zeroCells90 90):=by rw [Below.heap_setCell _ _ _ _ (by simp;omega)];exact hR10
 have hfF:Fr [tb] w10 (w10.setCell ⟨tb,0,none⟩ (.int .i64 (t.turn+1))):=(Fr.refl _ _).setCell _ _ (by simp)
 obtain ⟨gl,hgl⟩:∃ x,x=qz5 { t3 with turn:=t.turn+1 } (.slice (some ⟨pb2,0,none⟩) t3.us.length cap2):=⟨_,rfl⟩
 have hlen2:gl.length=149:=by rw [hgl];exact zq7 _ _
 have hone2:gl.toArray.all (·.oneCell')=true:=by rw [hgl];exact zx9 _ _ _ _
 rw [<- hgl] at hRNG
 have HGL:=hid hgl
 have HL2:=hid hlen2
 have HO2:=hid hone2
 have HRNG:=hid hRNG
 have HR11:=hid hR11
 have HI2:Hid ((Tryz.prog.info? 90).map (·.size)=some gl.toArray.size):=by
  show _=_
  rw [qx7,List.size_toArray,hlen2]
 have HZ2:Hid (Tryz.zeroCells90.size=gl.toArray.size):=by
  show _=_
  exact zcGame.trans (by simp [hlen2])
 clear hgl hlen2 hone2 hRNG hR11
 go_wp2_with (first|(refine wpList_load_mid rfl 90 _ rfl tb 0 rfl gl _ HRNG.out Tryz.underlying90 rfl (by rw [qx7,HL2.out]) ?_)|(refine wpList_store_row rfl 90 _ _ rfl (w.heap.size+1) gl.toArray rfl rfl 90 _ HR11.out HI2.out HZ2.out HO2.out ?_))
 refine bodyPost_ret (v:=.tuple #[.agg gl.toArray,.slice (some ⟨rb,0,none⟩) 2 2]) (qq3 Tryz.results74 _ _ (w.heap.size+1) 90 gl.toArray (0,0) _ _ rfl rfl (setRow_heap _ _ _ _ _ _ HR11.out) Tryz.underlying90 rfl HI2.out) rfl ?_
 have hplay:qk6 t l1 l2=({ t3 with turn:=t.turn+1 },r1,r2):=by
  unfold qk6
  rw [if_neg (by omega),if_neg (by rw [hov];simp)]
  simp only [HT1.out,HR1.out,HT2.out,HR2.out,HT3.out,htn]
 rw [hplay]
 have hfS:Fr [tb,w.heap.size+1] w10 ((w10.setCell ⟨tb,0,none⟩ (.int .i64 (t.turn+1))).setRow (w.heap.size+1) gl.toArray):=(hfF.mono (by simp)).setRow _ _ (by simp)
 have hs8:=hf8.size
 have hs9':=hf9.size
 have hn10:=hts10.n1
 refine ⟨_,pb2,cap2,by rw [HGL.out],hw10.trans hfS (by simp;omega),hts10.row.fr hfS (by simp;omega),by omega,rb,_,_,rfl,hfS.heap hB10 (by simp;omega),by omega,?_,?_,fun g hg e=>by have h1:=HAP.out g hg;have h2:=qj1 hown1d e;omega⟩
 ·exact zw4 (qq7 hown0d hfS (fun b hb=>by have:=qj1 hown0d hb;simp;omega)) (by omega)
 ·exact zw4 (qq7 hown1d hfS (fun b hb=>by have:=qj1 hown1d hb;simp;omega)) (by omega)
theorem qzz9 (pb cap:Nat)(t:T)(l1 l2:List Cm)(lv1 lv2:Value)(w:World)(hsd:Sd w)(hok:GOk t)(hrow:PRow w pb cap t.us)(hlen:t.us.length<=1000)(hne:0 < t.us.length)(ht0:0<=t.turn)(h1:CmdV w lv1 l1)(h2:CmdV w lv2 l2)(hl1:l1.length<=2000000)(hl2:l2.length<=2000000) :
  Calls Tryz.prog 74 #[.agg (qz5 t (.slice (some ⟨pb,0,none⟩) t.us.length cap)).toArray,lv1,lv2] w fun e w' =>
   ∃ v pb' cap',e=.returned (.tuple #[.agg (qz5 (qk6 t l1 l2).1 (.slice (some ⟨pb',0,none⟩) (qk6 t l1 l2).1.us.length cap')).toArray,v])/\Fr [] w w'/\PRow w' pb' cap' (qk6 t l1 l2).1.us/\(pb'=pb\/w.heap.size<=pb')/\RefsA w' w.heap.size v (qk6 t l1 l2).2.1 (qk6 t l1 l2).2.2:=by
 by_cases hmax:1000000000<=t.turn
 ·have hp:qk6 t l1 l2=(t,List.range l1.length,List.range l2.length):=by
   unfold qk6
   rw [if_pos hmax]
  rw [hp]
  refine (dw5 pb cap t l1 l2 lv1 lv2 w hmax h1 h2 hl1 hl2).mono ?_
  rintro e w' ⟨v,q1,q2,q3⟩
  exact ⟨v,pb,cap,q1,q2,hrow.fr q2 (by simp),Or.inl rfl,q3⟩
 have ht:0<=t.turn/\t.turn < 1000000000:=by omega
 cases ho:qx3 t.us with
 | false =>
  refine (qzz7 pb cap t l1 l2 lv1 lv2 w hsd hok hrow hlen hne ht h1 h2 hl1 hl2 ho).mono ?_
  rintro e w' ⟨v,pb',cap',q1,q2,q3,q4,q5⟩
  exact ⟨v,pb',cap',q1,q2,q3,Or.inr q4,q5⟩
 | true =>
  have hp:qk6 t l1 l2=({ t with turn:=t.turn+1 },List.range l1.length,List.range l2.length):=by
   unfold qk6
   rw [if_neg (by omega),if_pos ho]
  rw [hp]
  refine (fw4 pb cap t l1 l2 lv1 lv2 w hrow hlen ht h1 h2 hl1 hl2 ho).mono ?_
  rintro e w' ⟨v,q1,q2,q3⟩
  exact ⟨v,pb,cap,q1,q2,hrow.fr q2 (by simp),Or.inl rfl,q3⟩
theorem Refs.fr {S:List Nat}{w w':World}{base:Nat}{v:Value}{a b:List Nat}(h:Refs w base v a b)(hf:Fr S w w')(hs:∀ x∈S,x < base):Refs w' base v a b:=by
 obtain ⟨rb,rc,v0,v1,h1,h2,h3,h4,h5⟩:=h
 exact ⟨rb,rc,v0,v1,h1,hf.heap h2 (fun e=>by have:=hs _ e;omega),h3,qq7 h4 hf (fun b hb e=>by have:=hs _ e;have:=qj1 h4 hb;omega),qq7 h5 hf (fun b hb e=>by have:=hs _ e;have:=qj1 h5 hb;omega)⟩
theorem RefsA.fr {S:List Nat}{w w':World}{base:Nat}{v:Value}{a b:List Nat}(h:RefsA w base v a b)(hf:Fr S w w')(hs:∀ x∈S,x < base):RefsA w' base v a b:=by
 obtain ⟨rb,v0,v1,h1,h2,h3,h4,h5,h6⟩:=h
 exact ⟨rb,v0,v1,h1,hf.heap h2 (fun e=>by have:=hs _ e;omega),h3,qq7 h4 hf (fun b hb e=>by have:=hs _ e;have:=qj1 h4 hb;omega),qq7 h5 hf (fun b hb e=>by have:=hs _ e;have:=qj1 h5 hb;omega),h6⟩
theorem GS.all {w:World}{gb pb cap:Nat}{t:T}(h:GS w gb pb cap t):w.rangeAt gb 0 (qz5 t (.slice (some ⟨pb,0,none⟩) t.us.length cap)):=by
 intro j v hv
 have hj:j < 149:=by have:=(List.getElem?_eq_some_iff.1 hv).1;rwa [zq7] at this
 unfold qz5 at hv
 rw [List.getElem?_map,List.getElem?_range hj] at hv
 simp only [Option.map_some,Option.some.injEq] at hv
 rw [<- hv,Nat.zero_add]
 exact h.cell j hj
theorem vj8 {w:World}{gb:Nat}{t:T}{pv:Value}(h:w.rangeAt gb 0 (qz5 t pv)):∀ k,k < 149->w.cell? ⟨gb,k,none⟩=some (qq9 t pv 0 0 k):=by
 intro k hk
 have:=h k (qq9 t pv 0 0 k) (by unfold qz5;rw [List.getElem?_map,List.getElem?_range hk];rfl)
 rwa [Nat.zero_add] at this
theorem xv1 {t:T}(hok:GOk t)(l1 l2:List Cm):GOk (qk6 t l1 l2).1:=by
 by_cases hmax:1000000000<=t.turn
 ·have hp:qk6 t l1 l2=(t,List.range l1.length,List.range l2.length):=by
   unfold qk6
   rw [if_pos hmax]
  rw [hp]
  exact hok
 ·exact (fz7 hok l1 l2 (by omega)).ok
theorem fw5 {t:T}(hok:GOk t)(ht:0<=t.turn/\t.turn<=1000000000)(l1 l2:List Cm):0<=(qk6 t l1 l2).1.turn/\(qk6 t l1 l2).1.turn<=1000000000:=by
 by_cases hmax:1000000000<=t.turn
 ·have hp:qk6 t l1 l2=(t,List.range l1.length,List.range l2.length):=by
   unfold qk6
   rw [if_pos hmax]
  rw [hp]
  exact ht
 ·rw [(fz7 hok l1 l2 (by omega)).tn]
  omega
theorem xw4 (gb pb cap:Nat)(t:T)(l1 l2:List Cm)(lv1 lv2:Value)(w:World)(h:GS w gb pb cap t)(hsd:Sd w)(hok:GOk t)(ht:0<=t.turn)(h1:CmdV w lv1 l1)(h2:CmdV w lv2 l2)(hl1:l1.length<=2000000)(hl2:l2.length<=2000000) :
  Calls Tryz.prog 33 #[.pointer (some ⟨gb,0,none⟩),lv1,lv2] w fun e w' =>
   ∃ v pb' cap',e=.returned v/\Fr [gb] w w'/\GS w' gb pb' cap' (qk6 t l1 l2).1/\(pb'=pb\/w.heap.size<=pb')/\RefsA w' w.heap.size v (qk6 t l1 l2).2.1 (qk6 t l1 l2).2.2:=by
 have hgl:=h.lt
 obtain ⟨gs,hgs⟩:∃ gs,gs=qz5 t (.slice (some ⟨pb,0,none⟩) t.us.length cap):=⟨_,rfl⟩
 have hg:gs.length=149:=by rw [hgs];simp [qz5]
 have hall:=h.all
 rw [<- hgs] at hall
 have hplay:=fun w' (hf:Fr [] w w')=>qzz9 pb cap t l1 l2 lv1 lv2 w' (hsd.fr0 hf) hok (h.row.fr hf (by simp)) h.len h.ne ht (h1.fr0 hf) (h2.fr0 hf) hl1 hl2
 rw [<- hgs] at hplay
 have HP:=hid hplay
 have HA:=hid hall
 have HI:Hid ((Tryz.prog.info? 90).map (·.size)=some gs.length):=by
  show _=_
  rw [qx7,hg]
 clear hgs hplay hall hg
 go_enter Tryz.func33,Tryz.ntmps33
 go_wp2_with (first|(go_at_call 39;refine (jx5 gb _).mono ?_;rintro e w1 ⟨rfl,rfl⟩)|(refine wpList_load_mid rfl 90 _ rfl gb 0 rfl gs _ HA.out Tryz.underlying90 rfl HI.out ?_))
 refine Calls.mono (HP.out w (Fr.refl _ _)) ?_
 rintro e w2 ⟨v,pb',cap',rfl,hf2,hrow2,hpp,hrefs⟩
 dsimp only
 obtain ⟨t',ht'⟩:∃ x,(qk6 t l1 l2).1=x:=⟨_,rfl⟩
 rw [ht'] at hrow2 |-
 obtain ⟨g2,hg2⟩:∃ x,x=qz5 t' (.slice (some ⟨pb',0,none⟩) t'.us.length cap'):=⟨_,rfl⟩
 rw [<- hg2]
 have HT:=(show Hid _ from ht')
 have hl2:g2.length=149:=by rw [hg2];exact zq7 _ _
 have HO2:Hid (g2.toArray.all (·.oneCell')=true):=by
  show _=_
  rw [hg2];exact zx9 _ _ _ _
 have HI2:Hid ((Tryz.prog.info? 90).map (·.size)=some g2.toArray.size):=by
  show _=_
  rw [qx7,List.size_toArray,hl2]
 have HZ2:Hid (Tryz.zeroCells90.size=g2.toArray.size):=by
  show _=_
  exact zcGame.trans (by simp [hl2])
 have HG2:=hid hg2
 clear ht' hg2 HP HA HI
 have hF:Fr [] w ((w2.alloc (.cells Tryz.zeroCells90 90)).setRow w2.heap.size g2.toArray):=(hf2.alloc _).setRow _ _ (Or.inr hf2.size)
 have hGF:=h.fr hF (by simp) (by simp)
 have HTH:Hid (((w2.alloc (.cells Tryz.zeroCells90 90)).setRow w2.heap.size g2.toArray).there gb 0 g2.toArray.size):=by
  intro j hj
  rw [List.size_toArray,hl2] at hj
  exact ⟨by rw [Nat.zero_add,hGF.cell j hj];rfl,by rw [Nat.zero_add];exact hGF.fz j⟩
 have HHR:Hid (((w2.alloc (.cells Tryz.zeroCells90 90)).setRow w2.heap.size g2.toArray).heap[w2.heap.size]?=some (.cells g2.toArray 90)):=setRow_heap _ _ _ _ _ _ (qq6 _ _)
 have HFF:=hid hF
 have HGF:=hid hGF
 clear hF hGF
 go_wp2_with (first|(refine wpList_store_row rfl 90 _ _ rfl w2.heap.size g2.toArray rfl rfl 90 Tryz.zeroCells90 (qq6 w2 _) HI2.out HZ2.out HO2.out ?_)|(refine wpList_load_row rfl 90 _ rfl w2.heap.size rfl 90 g2.toArray (0,0) _ HHR.out Tryz.underlying90 rfl HI2.out ?_)|(refine wpList_store_mid rfl 90 _ _ rfl gb 0 g2.toArray rfl rfl HTH.out HI2.out HO2.out ?_))
 go_ret
 obtain ⟨WF,hWF⟩:∃ W,W=(w2.alloc (.cells Tryz.zeroCells90 90)).setRow w2.heap.size g2.toArray:=⟨_,rfl⟩
 have hF:=HFF.out
 have hGF:=HGF.out
 have hTH:=HTH.out
 rw [<- hWF] at hF hGF hTH |-
 have hS:Fr [gb] WF (WF.setCells gb 0 g2):=Fr.setCells gb _ _ _ (Fr.refl _ _) (Or.inl (by simp))
 have h2F:Fr [] w2 WF:=by rw [hWF];exact ((Fr.refl _ _).alloc _).setRow _ _ (Or.inr (Nat.le_refl _))
 have hpl:=h.row.lt
 have hz:=h.z
 have hs2:=hf2.size
 have hpg:pb'≠gb:=by
  rcases hpp with e|e
  ·rw [e];exact fun e=>h.n1 e.symm
  ·omega
 have hrng:(WF.setCells gb 0 g2).rangeAt gb 0 g2:=World.rangeAt_setCells_same _ _ _ _ (by simpa using hTH)
 have hrng2:(WF.setCells gb 0 g2).rangeAt gb 0 (qz5 t' (.slice (some ⟨pb',0,none⟩) t'.us.length cap')):=by rw [<- HG2.out];exact hrng
 have hpo:=xv1 hok l1 l2
 rw [HT.out] at hpo
 refine ⟨v,pb',cap',rfl,(hF.mono (by simp)).trans hS (by simp),?_,hpp,?_⟩
 ·rw [HT.out]
  refine ⟨vj8 hrng2,fun k=>?_,(hrow2.fr h2F (by simp)).fr hS (by simp;exact hpg),Nat.le_trans hpo.len (by omega),?_,fun e=>hpg e.symm,hz.1,by omega⟩
  ·rw [World.frozen?_setCells];exact hGF.fz k
  ·have h1:=hpo.bs
   have h2:=List.countP_le_length (p:=qq4 0) (l:=t'.us)
   have h3:=List.countP_le_length (p:=qq4 1) (l:=t'.us)
   dsimp only at h1
   omega
 ·exact (hrefs.fr h2F (by simp)).fr hS (by simp;exact hgl)
end Go.Proofs.YtapabahhfanmmaaGreatDoor
