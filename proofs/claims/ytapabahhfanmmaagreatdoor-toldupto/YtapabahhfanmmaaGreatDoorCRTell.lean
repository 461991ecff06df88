import Derived.Test.YtapabahhfanmmaaGreatDoorCTellG
import Derived.Deep.RegionWith
import Derived.Test.YtapabahhfanmmaaGreatDoorCStandG
namespace Go.Proofs.YtapabahhfanmmaaGreatDoor
open Go.RowKit
set_option maxRecDepth 100000
set_option maxHeartbeats 2000000
structure BP (P:Prop) (w:World) (e:Ending) (w':World):Prop where
  out:∃ b:Bool,e=.returned (.bool b)/\(b=true↔P)/\Fr [] w w'
def yw3 (l:List UInt8)(n:Nat):List U:=(List.range n).map (fun i=>zx2 (fun f=>nth l false (150+11*i+f)))
theorem gv2 (l:List UInt8)(n:Nat):(yw3 l n).length=n:=by unfold yw3;rw [List.length_map,List.length_range]
theorem fw0 (l:List UInt8)(n:Nat){i:Nat}{u:U}(h:(yw3 l n)[i]?=some u):zx2 (fun f=>nth l false (150+11*i+f))=u:=by
 unfold yw3 at h
 rw [List.getElem?_map] at h
 by_cases hi:i < n
 ·rw [List.getElem?_range hi] at h
  exact Option.some.inj h
 ·rw [List.getElem?_eq_none (by rw [List.length_range];omega)] at h
  cases h
def qj5 (l:List UInt8):T :=
  ⟨nth l false 0,nth l false 4,nth l false 2,nth l false 3,fun j=>if j < 144 then nth l false (5+j) else 0,yw3 l (nth l false 149).toNat,fun _=>none⟩
structure PL (l:List UInt8):Prop where
 len:nth l false 149<=100
 win:nth l false 1=zk4 (qj5 l).us
 ne:rdN l false (150+11*(qj5 l).us.length)=([],false)
 ok:GOk (qj5 l)
 os:OS (qj5 l)
theorem kw4 (l:List UInt8):(qj5 l).us=yw3 l (nth l false 149).toNat:=by simp only [qj5]
theorem jy7 (l:List UInt8):((qj5 l).us.length:Int)=nth l false 149:=by
 have:=(jj0 l false 149).1
 rw [kw4,gv2]
 generalize nth l false 149=x at *
 omega
theorem yk0 (l:List UInt8){i:Nat}{u:U}(h:(qj5 l).us[i]?=some u):zx2 (fun f=>nth l false (150+11*i+f))=u:=by
 rw [kw4] at h
 exact fw0 l _ h
theorem jx4 (l:List UInt8){j:Nat}(h:j < 144):(qj5 l).bd j=nth l false (5+j):=if_pos h
theorem gv3 (l:List UInt8):0<=(qj5 l).turn/\(qj5 l).turn<=1000000000:=jj0 l false 0
theorem GOk.congr {t t':T}(h:GOk t)(hu:t'.us=t.us)(hn:t'.next=t.next)(h0:t'.s0=t.s0)(h1:t'.s1=t.s1)(hb:∀ i,i < 144->t'.bd i=t.bd i):GOk t':=by
 have k:TOk { t with held:=qx8 t.us }:=h
 show TOk { t' with held:=qx8 t'.us }
 refine ⟨?_,?_,?_,?_,?_,?_,?_,?_,?_,?_⟩
 ·show Rise t'.us;rw [hu];exact k.rise
 ·intro u hm
  have hm':u∈t.us:=by rw [<- hu];exact hm
  have q:=k.all u hm'
  refine ⟨q.on,?_,?_,q.ow,q.kd,q.lf,q.ld,?_,q.od⟩
  ·show t'.bd _=0
   rw [hb _ (zz0 q.on)];exact q.gr
  ·show qx8 t'.us _=_
   rw [hu];exact q.hd
  ·show 1<=u.id/\u.id < t'.next
   rw [hn];exact q.id
 ·intro c i hc
  have hc':qx8 t.us c=some i:=by rw [<- hu];exact hc
  obtain ⟨u,hm,hx⟩:=k.hel c i hc'
  exact ⟨u,by show u∈t'.us;rw [hu];exact hm,hx⟩
 ·show 1<=t'.next/\t'.next<=_;rw [hn];exact k.nx
 ·show (0<=t'.s0/\t'.s0<=_)/\(0<=t'.s1/\t'.s1<=_);rw [h0,h1];exact k.st
 ·intro i hi
  show 0<=t'.bd i/\t'.bd i<=10
  rw [hb i hi];exact k.bd i hi
 ·show t'.us.length<=100;rw [hu];exact k.len
 ·show t'.us.countP _<=1;rw [hu];exact k.b0
 ·show t'.us.countP _<=1;rw [hu];exact k.b1
 ·show 1<=t'.us.countP _+t'.us.countP _;rw [hu];exact k.bs
theorem OS.congr {t t':T}(h:OS t)(hu:t'.us=t.us)(hn:t'.next=t.next)(hb:∀ i,i < 144->t'.bd i=t.bd i):OS t':=by
 intro u hm
 rw [hu] at hm
 rcases h u hm with a|⟨a1,a2,a3,a4⟩|⟨a1,a2,a3,a4,a5,a6⟩|a
 ·exact Or.inl a
 ·exact Or.inr (Or.inl ⟨a1,a2,by rw [hb _ (zz0 a2)];exact a3,a4⟩)
 ·exact Or.inr (Or.inr (Or.inl ⟨a1,a2,a3,a4,by rw [hn];exact a5,by rw [hu];exact a6⟩))
 ·exact Or.inr (Or.inr (Or.inr a))
theorem dw9 {l:List UInt8}{t:T}(h:Reads l t):(qj5 l).us=t.us:=by
 have hl:(qj5 l).us.length=t.us.length:=by
  have:=jy7 l
  rw [h.nl] at this
  omega
 apply List.ext_getElem? 
 intro i
 by_cases hi:i < t.us.length
 ·obtain ⟨u,hu⟩:∃ u,t.us[i]?=some u:=⟨_,List.getElem?_eq_getElem hi⟩
  obtain ⟨v,hv⟩:∃ v,(qj5 l).us[i]?=some v:=⟨_,List.getElem?_eq_getElem (by omega)⟩
  rw [hu,hv,<- yk0 l hv,h.nu i u hu]
 ·rw [List.getElem?_eq_none (by omega),List.getElem?_eq_none (by omega)]
theorem dw8 {l:List UInt8}{t:T}(h:Reads l t)(hok:GOk t)(hos:OS t):PL l:=by
 have hu:=dw9 h
 have hb:∀ i,i < 144->(qj5 l).bd i=t.bd i:=fun i hi=>by rw [jx4 l hi,h.nb i hi]
 refine ⟨?_,?_,?_,hok.congr hu h.n4 h.n2 h.n3 hb,hos.congr hu h.n4 hb⟩
 ·rw [h.nl]
  have:t.us.length<=100:=hok.len
  omega
 ·rw [h.n1,hu]
 ·rw [hu];exact h.ne
theorem qzx0 {t:T}(hok:GOk t)(hos:OS t)(ht:0<=t.turn/\t.turn<=1000000000):PL (zj2 t):=dw8 (gv7 hok hos ht) hok hos
theorem xj1 (a b:List UInt8):(⟨a.toArray⟩:ByteArray) ++ ⟨b.toArray⟩=⟨(a ++ b).toArray⟩:=by
 apply ByteArray.ext
 simp [ByteArray.data_append]
theorem qzx6 (W:World)(b x:Nat)(hx:x < 256)(h:W.cell? ⟨b,0,none⟩=some (.int .u8 (x:Int))):(convert 168 9 (.slice (some ⟨b,0,none⟩) 1 1)).run Tryz.prog W=.ok (.string ⟨[UInt8.ofNat x].toArray⟩) W :=
 run_convert_bytes_back W 168 9 5 ⟨b,0,none⟩ 1 [UInt8.ofNat x] Tryz.underlying168 Tryz.underlying5 Tryz.underlying9 (fun j hj=>by
  have hj0:j=0:=by simpa using hj
  subst hj0
  rw [Addr.add_lit,Nat.zero_add,h]
  simp
  omega)
theorem yq4:∀ (f n:Nat),n < 128 ^ (f+1)->f<=5->∀ w:World,Calls Tryz.prog 101 #[.int .i64 n] w fun e w'=>e=.returned (.string ⟨(zk3 n).toArray⟩)/\Fr [] w w'
 | f,n,hn,hf,w=>by
  by_cases h:n < 128
  ·have hi:(n:Int) < 128:=by omega
   have hc:=qzx6 (w.alloc (.cells #[.int .u8 (n:Int)] 5)) w.heap.size n (by omega) (by rw [j9 (qq6 _ _)];rfl)
   have HNB:=(show Hid _ from jq5 h)
   go_enter Tryz.func101,Tryz.ntmps101
   go_wp2_with fail
   go_ret
   exact ⟨by rw [HNB.out];rfl,(Fr.refl _ _).alloc _⟩
  ·have hi:¬ (n:Int) < 128:=by omega
   have hfp:0 < f:=by
    rcases Nat.eq_zero_or_pos f with rfl|h0
    ·simp at hn;omega
    ·exact h0
   obtain ⟨f',rfl⟩:∃ f',f=f'+1:=⟨f - 1,by omega⟩
   have ih:=yq4 f' (n / 128) (by rw [Nat.pow_succ] at hn;omega) (by omega)
   obtain ⟨q,hq⟩:∃ q,n / 128=q:=⟨_,rfl⟩
   obtain ⟨r,hr⟩:∃ r,n % 128=r:=⟨_,rfl⟩
   rw [hq] at ih
   have hqd:(n:Int).tdiv 128=(q:Int):=by rw [<- hq,Int.tdiv_eq_ediv_of_nonneg (by omega)];omega
   have hrd:(n:Int).tmod 128=(r:Int):=by rw [<- hr,Int.tmod_eq_emod_of_nonneg (by omega)];omega
   have hr1:r < 128:=by omega
   obtain ⟨B,hB⟩:∃ B:ByteArray,B=⟨(zk3 q).toArray⟩:=⟨_,rfl⟩
   have hBs:B.size<=6:=by
    rw [hB]
    exact jv9 6 q (by
      rw [<- hq];have:(128:Nat) ^ (f'+1+1)<=128 ^ 6:=Nat.pow_le_pow_right (by omega) (by omega)
      have:=Nat.div_le_self n 128
      omega) (by omega)
   rw [<- hB] at ih
   have hsm:1+B.size<=9223372036854775807:=by omega
   have HBB:=hid hB
   have IH:=(show Hid (∀ w:World,Calls Tryz.prog 101 #[.int .i64 (q:Int)] w fun e w'=>e=.returned (.string B)/\Fr [] w w') from ih)
   clear hB
   have HNB:Hid (zk3 n=[UInt8.ofNat (r+128)] ++ zk3 q):=by
    show _=_
    rw [jv8 h,hq,hr]
    rfl
   have hpw:(128:Nat) ^ (f'+1+1)<=128 ^ 6:=Nat.pow_le_pow_right (by omega) (by omega)
   have hnb:n < 4398046511104:=by
       have:(128:Nat) ^ 6=4398046511104:=by decide
       omega
   have hqb:q < 4398046511104:=by omega
   clear ih hn hq hr
   go_enter Tryz.func101,Tryz.ntmps101
   go_wp2_with fail
   have hcv:∀ (W:World) (b:Nat),W.cell? ⟨b,0,none⟩=some (.int .u8 (128+(r:Int)))->(convert 168 9 (.slice (some ⟨b,0,none⟩) 1 1)).run Tryz.prog W=.ok (.string ⟨[UInt8.ofNat (r+128)].toArray⟩) W:=fun W b hb=>qzx6 W b (r+128) (by omega) (by rw [hb];congr 2;push_cast;omega)
   have hw1:IntKind.i64.wrap (128+(r:Int))=128+(r:Int):=by unfold IntKind.wrap;simp [IntKind.bits,IntKind.signed];omega
   have hw2:IntKind.u8.wrap (128+(r:Int))=128+(r:Int):=by unfold IntKind.wrap;simp [IntKind.bits,IntKind.signed];omega
   have hw3:IntKind.i64.wrap (q:Int)=(q:Int):=by unfold IntKind.wrap;simp [IntKind.bits,IntKind.signed];omega
   go_region_with (go_at_call 101;refine Calls.mono (IH.out _) ?_;rintro e w1 ⟨rfl,hf1⟩;first|(have hcc:w1.cell? ⟨w.heap.size,0,none⟩=some (.int .u8 (128+(r:Int))):=(hf1.cell _ _ (by simp) (by simp)).trans (by rw [World.cell?_drew,j9 (qq6 _ _)];rfl))|skip)
   all_goals
    go_wp2_with fail
    simp only [Act.put]
    go_ret
    refine ⟨?_,?_⟩
    ·rw [HNB.out,HBB.out]
     show Ending.returned (.string (⟨[UInt8.ofNat r+128].toArray⟩ ++ ⟨(zk3 q).toArray⟩))=_
     rw [xj1,show UInt8.ofNat r+128=UInt8.ofNat (r+128) by simp]
    ·first
     | exact (((Fr.refl [] w).alloc _).drew).then0 hf1
     | exact (((Fr.refl [] w).drew).alloc _).then0 hf1
     | exact (((Fr.refl [] w).drew).then0 hf1).alloc _
def NB (x:Int):ByteArray:=⟨(zk3 x.toNat).toArray⟩
theorem zz7 {x:Int}(h:0<=x/\x<=1000000000):(NB x).size<=5:=by
 have hp:(128:Nat) ^ 5=34359738368:=by decide
 exact jv9 5 x.toNat (by omega) (by omega)
theorem qx5 (x:Int)(h:0<=x/\x<=1000000000)(w:World):Calls Tryz.prog 101 #[.int .i64 x] w fun e w'=>e=.returned (.string (NB x))/\Fr [] w w':=by
 have hp:(128:Nat) ^ 6=4398046511104:=by decide
 have:=yq4 5 x.toNat (by omega) (by omega) w
 rw [show ((x.toNat:Nat):Int)=x by omega] at this
 exact this
theorem dq2 (z0 z1 z2 z3 z4 z5 z6 z7 z8 z9 z10:Int) (B0 B1 B2 B3 B4 B5 B6 B7 B8 B9 B10:ByteArray) (w:World)
  (N0:Hid (∀ w:World,Calls Tryz.prog 101 #[.int .i64 z0] w fun e w'=>e=.returned (.string B0)/\Fr [] w w')) (b0:B0.size<=5)
  (N1:Hid (∀ w:World,Calls Tryz.prog 101 #[.int .i64 z1] w fun e w'=>e=.returned (.string B1)/\Fr [] w w')) (b1:B1.size<=5)
  (N2:Hid (∀ w:World,Calls Tryz.prog 101 #[.int .i64 z2] w fun e w'=>e=.returned (.string B2)/\Fr [] w w')) (b2:B2.size<=5)
  (N3:Hid (∀ w:World,Calls Tryz.prog 101 #[.int .i64 z3] w fun e w'=>e=.returned (.string B3)/\Fr [] w w')) (b3:B3.size<=5)
  (N4:Hid (∀ w:World,Calls Tryz.prog 101 #[.int .i64 z4] w fun e w'=>e=.returned (.string B4)/\Fr [] w w')) (b4:B4.size<=5)
  (N5:Hid (∀ w:World,Calls Tryz.prog 101 #[.int .i64 z5] w fun e w'=>e=.returned (.string B5)/\Fr [] w w')) (b5:B5.size<=5)
  (N6:Hid (∀ w:World,Calls Tryz.prog 101 #[.int .i64 z6] w fun e w'=>e=.returned (.string B6)/\Fr [] w w')) (b6:B6.size<=5)
  (N7:Hid (∀ w:World,Calls Tryz.prog 101 #[.int .i64 z7] w fun e w'=>e=.returned (.string B7)/\Fr [] w w')) (b7:B7.size<=5)
  (N8:Hid (∀ w:World,Calls Tryz.prog 101 #[.int .i64 z8] w fun e w'=>e=.returned (.string B8)/\Fr [] w w')) (b8:B8.size<=5)
  (N9:Hid (∀ w:World,Calls Tryz.prog 101 #[.int .i64 z9] w fun e w'=>e=.returned (.string B9)/\Fr [] w w')) (b9:B9.size<=5)
  (N10:Hid (∀ w:World,Calls Tryz.prog 101 #[.int .i64 z10] w fun e w'=>e=.returned (.string B10)/\Fr [] w w')) (b10:B10.size<=5) :
  Calls Tryz.prog 102 #[.agg #[ii z0,ii z1,ii z2,ii z3,ii z4,ii z5,ii z6,ii z7,ii z8,ii z9,ii z10]] w fun e w'=>e=.returned (.string (B0 ++ B1 ++ B2 ++ B3 ++ B4 ++ B5 ++ B6 ++ B7 ++ B8 ++ B9 ++ B10))/\Fr [] w w':=by
 obtain ⟨W1,hW1⟩:∃ W,W=w.alloc (.cells #[ii z0,ii z1,ii z2,ii z3,ii z4,ii z5,ii z6,ii z7,ii z8,ii z9,ii z10] 85):=⟨_,rfl⟩
 have hf1:Fr [] w W1:=by rw [hW1];exact (Fr.refl _ _).alloc _
 have hh1:W1.heap[w.heap.size]?=some (.cells #[ii z0,ii z1,ii z2,ii z3,ii z4,ii z5,ii z6,ii z7,ii z8,ii z9,ii z10] 85):=by rw [hW1];exact qq6 _ _
 have HS:∀ w',Fr [] W1 w'->(fun w':World=>(cl w' w.heap.size 0 z0/\cl w' w.heap.size 1 z1/\cl w' w.heap.size 2 z2/\cl w' w.heap.size 3 z3/\cl w' w.heap.size 4 z4/\cl w' w.heap.size 5 z5/\cl w' w.heap.size 6 z6/\cl w' w.heap.size 7 z7/\cl w' w.heap.size 8 z8/\cl w' w.heap.size 9 z9/\cl w' w.heap.size 10 z10)/\Fr [] W1 w') w':=fun w' hf=>by
  have hh:=hf.heap0 hh1
  exact ⟨⟨j9 hh,j9 hh,j9 hh,j9 hh,j9 hh,j9 hh,j9 hh,j9 hh,j9 hh,j9 hh,j9 hh⟩,hf⟩
 have s1:B0.size+B1.size<=9223372036854775807:=by omega
 have s2:B0.size+B1.size+B2.size<=9223372036854775807:=by omega
 have s3:B0.size+B1.size+B2.size+B3.size<=9223372036854775807:=by omega
 have s4:B0.size+B1.size+B2.size+B3.size+B4.size<=9223372036854775807:=by omega
 have s5:B0.size+B1.size+B2.size+B3.size+B4.size+B5.size<=9223372036854775807:=by omega
 have s6:B0.size+B1.size+B2.size+B3.size+B4.size+B5.size+B6.size<=9223372036854775807:=by omega
 have s7:B0.size+B1.size+B2.size+B3.size+B4.size+B5.size+B6.size+B7.size<=9223372036854775807:=by omega
 have s8:B0.size+B1.size+B2.size+B3.size+B4.size+B5.size+B6.size+B7.size+B8.size<=9223372036854775807:=by omega
 have s9:B0.size+B1.size+B2.size+B3.size+B4.size+B5.size+B6.size+B7.size+B8.size+B9.size<=9223372036854775807:=by omega
 have s10:B0.size+B1.size+B2.size+B3.size+B4.size+B5.size+B6.size+B7.size+B8.size+B9.size+B10.size<=9223372036854775807:=by omega
 have K0:=HS W1.drew ((Fr.refl _ _).drew)
 have HF1:=hid hf1
 clear hf1 hh1
 go_enter Tryz.func102,Tryz.ntmps102
 go_wp2_with fail
 rw [<- hW1]
 clear hW1
 go_cut [3] (fun s3 wx=>s3=.string (B0 ++ B1 ++ B2 ++ B3 ++ B4 ++ B5 ++ B6)/\Fr [] W1 wx)
 case first =>
  refine wp_region_held_drew (S:=fun w':World=>(cl w' w.heap.size 0 z0/\cl w' w.heap.size 1 z1/\cl w' w.heap.size 2 z2/\cl w' w.heap.size 3 z3/\cl w' w.heap.size 4 z4/\cl w' w.heap.size 5 z5/\cl w' w.heap.size 6 z6/\cl w' w.heap.size 7 z7/\cl w' w.heap.size 8 z8/\cl w' w.heap.size 9 z9/\cl w' w.heap.size 10 z10)/\Fr [] W1 w') (by kernel_rfl) K0 (fun hH=>?_)
  refine (show wpAnyH Tryz.prog Region.Mode.any _ _ _ 28 (Array.replicate 28 false) _ _ from ?_)
  iterate 2 (refine tn 28 hH ?_;try simp only [Act.put,Z])
  refine ta 3 hH ?_;try simp only [Act.put,Z]
  refine ta 4 hH ?_;try simp only [Act.put,Z]
  refine ta 7 hH ?_;try simp only [Act.put,Z]
  refine ta 8 hH ?_;try simp only [Act.put,Z]
  refine ta 11 hH ?_;try simp only [Act.put,Z]
  refine ta 12 hH ?_;try simp only [Act.put,Z]
  refine ta 15 hH ?_;try simp only [Act.put,Z]
  refine ta 16 hH ?_;try simp only [Act.put,Z]
  refine ta 19 hH ?_;try simp only [Act.put,Z]
  refine ta 20 hH ?_;try simp only [Act.put,Z]
  refine ta 23 hH ?_;try simp only [Act.put,Z]
  refine ta 24 hH ?_;try simp only [Act.put,Z]
  refine wpAnyH_ready (rs:=[2]) (by kernel_rfl) (by simp) ?_
  refine AllReadyH.cons (by simp only [G];rfl) (fun K hK=>?_) AllReadyH.nil
  have HKK:=hid hK
  clear hK
  go_simp
  refine Calls.mono (N0.out _) ?_
  rintro e wc2 ⟨rfl,hfc2⟩
  dsimp only
  have hfr2:=hH.2.then0 hfc2
  clear hH
  refine HKK.out _ _ (HS _ hfr2) (fun hH=>?_)
  clear HKK K;try simp only [Act.put,Z]
  refine wpAnyH_ready (rs:=[5]) (by kernel_rfl) (by simp) ?_
  refine AllReadyH.cons (by simp only [G];rfl) (fun K hK=>?_) AllReadyH.nil
  have HKK:=hid hK
  clear hK
  go_simp
  refine Calls.mono (N1.out _) ?_
  rintro e wc5 ⟨rfl,hfc5⟩
  dsimp only
  have hfr5:=hH.2.then0 hfc5
  clear hH
  refine HKK.out _ _ (HS _ hfr5) (fun hH=>?_)
  clear HKK K;try simp only [Act.put,Z]
  refine ta 6 hH ?_;try simp only [Act.put,Z]
  refine wpAnyH_ready (rs:=[9]) (by kernel_rfl) (by simp) ?_
  refine AllReadyH.cons (by simp only [G];rfl) (fun K hK=>?_) AllReadyH.nil
  have HKK:=hid hK
  clear hK
  go_simp
  refine Calls.mono (N2.out _) ?_
  rintro e wc9 ⟨rfl,hfc9⟩
  dsimp only
  have hfr9:=hH.2.then0 hfc9
  clear hH
  refine HKK.out _ _ (HS _ hfr9) (fun hH=>?_)
  clear HKK K;try simp only [Act.put,Z]
  refine ta 10 hH ?_;try simp only [Act.put,Z]
  refine wpAnyH_ready (rs:=[13]) (by kernel_rfl) (by simp) ?_
  refine AllReadyH.cons (by simp only [G];rfl) (fun K hK=>?_) AllReadyH.nil
  have HKK:=hid hK
  clear hK
  go_simp
  refine Calls.mono (N3.out _) ?_
  rintro e wc13 ⟨rfl,hfc13⟩
  dsimp only
  have hfr13:=hH.2.then0 hfc13
  clear hH
  refine HKK.out _ _ (HS _ hfr13) (fun hH=>?_)
  clear HKK K;try simp only [Act.put,Z]
  refine ta 14 hH ?_;try simp only [Act.put,Z]
  refine wpAnyH_ready (rs:=[17]) (by kernel_rfl) (by simp) ?_
  refine AllReadyH.cons (by simp only [G];rfl) (fun K hK=>?_) AllReadyH.nil
  have HKK:=hid hK
  clear hK
  go_simp
  refine Calls.mono (N4.out _) ?_
  rintro e wc17 ⟨rfl,hfc17⟩
  dsimp only
  have hfr17:=hH.2.then0 hfc17
  clear hH
  refine HKK.out _ _ (HS _ hfr17) (fun hH=>?_)
  clear HKK K;try simp only [Act.put,Z]
  refine ta 18 hH ?_;try simp only [Act.put,Z]
  refine wpAnyH_ready (rs:=[21]) (by kernel_rfl) (by simp) ?_
  refine AllReadyH.cons (by simp only [G];rfl) (fun K hK=>?_) AllReadyH.nil
  have HKK:=hid hK
  clear hK
  go_simp
  refine Calls.mono (N5.out _) ?_
  rintro e wc21 ⟨rfl,hfc21⟩
  dsimp only
  have hfr21:=hH.2.then0 hfc21
  clear hH
  refine HKK.out _ _ (HS _ hfr21) (fun hH=>?_)
  clear HKK K;try simp only [Act.put,Z]
  refine ta 22 hH ?_;try simp only [Act.put,Z]
  refine wpAnyH_ready (rs:=[25]) (by kernel_rfl) (by simp) ?_
  refine AllReadyH.cons (by simp only [G];rfl) (fun K hK=>?_) AllReadyH.nil
  have HKK:=hid hK
  clear hK
  go_simp
  refine Calls.mono (N6.out _) ?_
  rintro e wc25 ⟨rfl,hfc25⟩
  dsimp only
  have hfr25:=hH.2.then0 hfc25
  clear hH
  refine HKK.out _ _ (HS _ hfr25) (fun hH=>?_)
  clear HKK K;try simp only [Act.put,Z]
  iterate 2 (refine tn 28 hH ?_;try simp only [Act.put,Z])
  refine wpAnyH_done (by kernel_rfl) ?_ _
  go_wp2_with fail
  go_meet
  exact ⟨rfl,hH.2⟩
 case rest =>
  obtain ⟨rfl,hfx⟩:=hcut
  clear K0
  have K0:=HS wc.drew (hfx.drew)
  go_wp2_with fail
  refine wp_region_held_drew (S:=fun w':World=>(cl w' w.heap.size 0 z0/\cl w' w.heap.size 1 z1/\cl w' w.heap.size 2 z2/\cl w' w.heap.size 3 z3/\cl w' w.heap.size 4 z4/\cl w' w.heap.size 5 z5/\cl w' w.heap.size 6 z6/\cl w' w.heap.size 7 z7/\cl w' w.heap.size 8 z8/\cl w' w.heap.size 9 z9/\cl w' w.heap.size 10 z10)/\Fr [] W1 w') (by kernel_rfl) K0 (fun hH=>?_)
  refine (show wpAnyH Tryz.prog Region.Mode.any _ _ _ 18 (Array.replicate 18 false) _ _ from ?_)
  iterate 3 (refine tn 18 hH ?_;try simp only [Act.put,Z])
  refine ta 5 hH ?_;try simp only [Act.put,Z]
  refine ta 6 hH ?_;try simp only [Act.put,Z]
  refine ta 9 hH ?_;try simp only [Act.put,Z]
  refine ta 10 hH ?_;try simp only [Act.put,Z]
  refine ta 13 hH ?_;try simp only [Act.put,Z]
  refine ta 14 hH ?_;try simp only [Act.put,Z]
  refine wpAnyH_ready (rs:=[3]) (by kernel_rfl) (by simp) ?_
  refine AllReadyH.cons (by simp only [G];rfl) (fun K hK=>?_) AllReadyH.nil
  have HKK:=hid hK
  clear hK
  go_simp
  refine Calls.mono (N7.out _) ?_
  rintro e wc3 ⟨rfl,hfc3⟩
  dsimp only
  have hfr3:=hH.2.then0 hfc3
  clear hH
  refine HKK.out _ _ (HS _ hfr3) (fun hH=>?_)
  clear HKK K;try simp only [Act.put,Z]
  refine ta 4 hH ?_;try simp only [Act.put,Z]
  refine wpAnyH_ready (rs:=[7]) (by kernel_rfl) (by simp) ?_
  refine AllReadyH.cons (by simp only [G];rfl) (fun K hK=>?_) AllReadyH.nil
  have HKK:=hid hK
  clear hK
  go_simp
  refine Calls.mono (N8.out _) ?_
  rintro e wc7 ⟨rfl,hfc7⟩
  dsimp only
  have hfr7:=hH.2.then0 hfc7
  clear hH
  refine HKK.out _ _ (HS _ hfr7) (fun hH=>?_)
  clear HKK K;try simp only [Act.put,Z]
  refine ta 8 hH ?_;try simp only [Act.put,Z]
  refine wpAnyH_ready (rs:=[11]) (by kernel_rfl) (by simp) ?_
  refine AllReadyH.cons (by simp only [G];rfl) (fun K hK=>?_) AllReadyH.nil
  have HKK:=hid hK
  clear hK
  go_simp
  refine Calls.mono (N9.out _) ?_
  rintro e wc11 ⟨rfl,hfc11⟩
  dsimp only
  have hfr11:=hH.2.then0 hfc11
  clear hH
  refine HKK.out _ _ (HS _ hfr11) (fun hH=>?_)
  clear HKK K;try simp only [Act.put,Z]
  refine ta 12 hH ?_;try simp only [Act.put,Z]
  refine wpAnyH_ready (rs:=[15]) (by kernel_rfl) (by simp) ?_
  refine AllReadyH.cons (by simp only [G];rfl) (fun K hK=>?_) AllReadyH.nil
  have HKK:=hid hK
  clear hK
  go_simp
  refine Calls.mono (N10.out _) ?_
  rintro e wc15 ⟨rfl,hfc15⟩
  dsimp only
  have hfr15:=hH.2.then0 hfc15
  clear hH
  refine HKK.out _ _ (HS _ hfr15) (fun hH=>?_)
  clear HKK K;try simp only [Act.put,Z]
  iterate 2 (refine tn 18 hH ?_;try simp only [Act.put,Z])
  refine wpAnyH_done (by kernel_rfl) ?_ _
  go_wp2_with fail
  go_ret
  exact ⟨rfl,HF1.out.then0 hH.2⟩
def NF (ns:List Int):ByteArray:=⟨(qw5 ns).toArray⟩
theorem qjq3:NF []=⟨#[]⟩:=rfl
theorem xz2 (a b:List Int):NF (a ++ b)=NF a ++ NF b:=by unfold NF;rw [xj1,zj7]
theorem dq4 (x:Int):NF [x]=NB x:=by unfold NF NB;simp [qw5]
theorem vq5 (l:List Int)(x:Int):NF (l ++ [x])=NF l ++ NB x:=by rw [xz2,dq4]
theorem gz8 (ns:List Int)(h:∀ n∈ns,n<=1000000000):(NF ns).size<=5*ns.length:=by
 have:=zy3 ns h
 simpa [NF,ByteArray.size] using this
theorem gq0 (u:U)(h:∀ n∈u.nums,0<=n/\n<=1000000000)(w:World):Calls Tryz.prog 102 #[u.val] w fun e w'=>e=.returned (.string (NF u.nums))/\Fr [] w w':=by
 have h0:=h u.id (by simp)
 have h1:=h u.owner (by simp)
 have h2:=h u.kind (by simp)
 have h3:=h u.x (by simp)
 have h4:=h u.y (by simp)
 have h5:=h u.life (by simp)
 have h6:=h u.load (by simp)
 have h7:=h u.what (by simp)
 have h8:=h u.tox (by simp)
 have h9:=h u.toy (by simp)
 have h10:=h u.target (by simp)
 refine Calls.mono (dq2 u.id u.owner u.kind u.x u.y u.life u.load u.what u.tox u.toy u.target (NB u.id) (NB u.owner) (NB u.kind) (NB u.x) (NB u.y) (NB u.life) (NB u.load) (NB u.what) (NB u.tox) (NB u.toy) (NB u.target) w (qx5 _ h0) (zz7 h0) (qx5 _ h1) (zz7 h1) (qx5 _ h2) (zz7 h2) (qx5 _ h3) (zz7 h3) (qx5 _ h4) (zz7 h4) (qx5 _ h5) (zz7 h5) (qx5 _ h6) (zz7 h6) (qx5 _ h7) (zz7 h7) (qx5 _ h8) (zz7 h8) (qx5 _ h9) (zz7 h9) (qx5 _ h10) (zz7 h10)) ?_
 rintro e w1 ⟨rfl,hf⟩
 refine ⟨?_,hf⟩
 rw [show u.nums=[] ++ [u.id] ++ [u.owner] ++ [u.kind] ++ [u.x] ++ [u.y] ++ [u.life] ++ [u.load] ++ [u.what] ++ [u.tox] ++ [u.toy] ++ [u.target] from rfl]
 simp only [vq5]
 rw [qjq3,show (⟨#[]⟩:ByteArray) ++ NB u.id=NB u.id from by apply ByteArray.ext;simp [ByteArray.data_append]]
theorem fw7 (t:T)(k:Nat):(List.range (k+1)).map t.bd=(List.range k).map t.bd ++ [t.bd k]:=by
  rw [List.range_succ,List.map_append];rfl
theorem fy9 {us:List U}{k:Nat}{u:U}(hu:us[k]?=some u):qk2 (us.take (k+1))=qk2 (us.take k) ++ u.nums:=by
 unfold qk2
 rw [List.take_add_one,hu,List.flatMap_append]
 simp
theorem kq2 (gb pb cap:Nat) (t:T) (z0 z1 z2 z3 z4:Int) (w:World) (h:RG w gb pb cap t) (hl:t.us.length<=100) (e0:t.turn=z0) (e1:qy3 t.us=z1) (e2:t.s0=z2) (e3:t.s1=z3) (e4:t.next=z4)
  (hz:∀ n∈[z0,z1,z2,z3,z4],0<=n/\n<=1000000000) (hbd:∀ i,i < 144->0<=t.bd i/\t.bd i<=1000000000) (hus:∀ u∈t.us,∀ n∈u.nums,0<=n/\n<=1000000000) :
  Calls Tryz.prog 57 #[.pointer (some ⟨gb,0,none⟩)] w fun e w'=>e=.returned (.string (NF ([z0,z1,z2,z3,z4] ++ (List.range 144).map t.bd ++ [(t.us.length:Int)] ++ qk2 t.us)))/\Fr [] w w':=by
 have q0:=hz z0 (by simp)
 have q1:=hz z1 (by simp)
 have q2:=hz z2 (by simp)
 have q3:=hz z3 (by simp)
 have q4:=hz z4 (by simp)
 obtain ⟨B0,hB0⟩:∃ B,B=NB z0:=⟨_,rfl⟩
 have b0:B0.size<=5:=by rw [hB0];exact zz7 q0
 have N0:Hid (∀ w:World,Calls Tryz.prog 101 #[.int .i64 z0] w fun e w'=>e=.returned (.string B0)/\Fr [] w w'):=by rw [hB0];exact qx5 z0 q0
 obtain ⟨B1,hB1⟩:∃ B,B=NB z1:=⟨_,rfl⟩
 have b1:B1.size<=5:=by rw [hB1];exact zz7 q1
 have N1:Hid (∀ w:World,Calls Tryz.prog 101 #[.int .i64 z1] w fun e w'=>e=.returned (.string B1)/\Fr [] w w'):=by rw [hB1];exact qx5 z1 q1
 obtain ⟨B2,hB2⟩:∃ B,B=NB z2:=⟨_,rfl⟩
 have b2:B2.size<=5:=by rw [hB2];exact zz7 q2
 have N2:Hid (∀ w:World,Calls Tryz.prog 101 #[.int .i64 z2] w fun e w'=>e=.returned (.string B2)/\Fr [] w w'):=by rw [hB2];exact qx5 z2 q2
 obtain ⟨B3,hB3⟩:∃ B,B=NB z3:=⟨_,rfl⟩
 have b3:B3.size<=5:=by rw [hB3];exact zz7 q3
 have N3:Hid (∀ w:World,Calls Tryz.prog 101 #[.int .i64 z3] w fun e w'=>e=.returned (.string B3)/\Fr [] w w'):=by rw [hB3];exact qx5 z3 q3
 obtain ⟨B4,hB4⟩:∃ B,B=NB z4:=⟨_,rfl⟩
 have b4:B4.size<=5:=by rw [hB4];exact zz7 q4
 have N4:Hid (∀ w:World,Calls Tryz.prog 101 #[.int .i64 z4] w fun e w'=>e=.returned (.string B4)/\Fr [] w w'):=by rw [hB4];exact qx5 z4 q4
 have WN:Hid (∀ w1,Fr [] w w1->Calls Tryz.prog 99 #[.pointer (some ⟨gb,0,none⟩)] w1 fun e w'=>e=.returned (.int .i64 z1)/\Fr [] w1 w'):=fun w1 hf=>by rw [<- e1];exact zz6 gb pb cap t.us w1 (h.gv.fr0 hf)
 have HS:∀ w',Fr [] w w'->(fun w':World=>(cl w' gb 0 z0/\cl w' gb 145 z2/\cl w' gb 146 z3/\cl w' gb 147 z4)/\Fr [] w w') w':=fun w' hf=>by
  have h1:=h.fr0 hf
  exact ⟨⟨e0 ▸ h1.c0,e2 ▸ h1.c145,e3 ▸ h1.c146,e4 ▸ h1.c147⟩,hf⟩
 have s1:B0.size+B1.size<=9223372036854775807:=by omega
 have s2:B0.size+B1.size+B2.size<=9223372036854775807:=by omega
 have s3:B0.size+B1.size+B2.size+B3.size<=9223372036854775807:=by omega
 have s4:B0.size+B1.size+B2.size+B3.size+B4.size<=9223372036854775807:=by omega
 have K0:=HS w.drew ((Fr.refl _ _).drew)
 have HB:Hid (NF [z0,z1,z2,z3,z4]=B0 ++ B1 ++ B2 ++ B3 ++ B4):=by
  show _=_
  rw [show [z0,z1,z2,z3,z4]=[z0] ++ [z1] ++ [z2] ++ [z3] ++ [z4] from rfl]
  simp only [vq5,dq4,hB0,hB1,hB2,hB3,hB4]
 have HL:Hid (([z0,z1,z2,z3,z4]:List Int).length=5):=rfl
 obtain ⟨A,hA⟩:∃ A,A=NF ([z0,z1,z2,z3,z4] ++ (List.range 144).map t.bd ++ [(t.us.length:Int)] ++ qk2 t.us):=⟨_,rfl⟩
 rw [<- hA]
 have HA:=hid hA
 clear hA
 have HZ:=hid hz
 clear hB0 hB1 hB2 hB3 hB4 e0 e1 e2 e3 e4 hz
 go_enter Tryz.func57,Tryz.ntmps57
 go_wp2_with fail
 go_cut [3] (fun s3 wx=>s3=.string (NF [z0,z1,z2,z3,z4])/\Fr [] w wx)
 case first =>
  refine wp_region_held_drew (S:=fun w':World=>(cl w' gb 0 z0/\cl w' gb 145 z2/\cl w' gb 146 z3/\cl w' gb 147 z4)/\Fr [] w w') (by kernel_rfl) K0 (fun hH=>?_)
  refine (show wpAnyH Tryz.prog Region.Mode.any _ _ _ 30 (Array.replicate 30 false) _ _ from ?_)
  iterate 4 (refine tn 30 hH ?_;try simp only [Act.put,Z])
  refine ta 5 hH ?_;try simp only [Act.put,Z]
  refine ta 9 hH ?_;try simp only [Act.put,Z]
  refine ta 10 hH ?_;try simp only [Act.put,Z]
  refine ta 11 hH ?_;try simp only [Act.put,Z]
  refine ta 12 hH ?_;try simp only [Act.put,Z]
  refine ta 13 hH ?_;try simp only [Act.put,Z]
  refine ta 16 hH ?_;try simp only [Act.put,Z]
  refine ta 17 hH ?_;try simp only [Act.put,Z]
  refine ta 18 hH ?_;try simp only [Act.put,Z]
  refine ta 19 hH ?_;try simp only [Act.put,Z]
  refine ta 20 hH ?_;try simp only [Act.put,Z]
  refine ta 23 hH ?_;try simp only [Act.put,Z]
  refine ta 24 hH ?_;try simp only [Act.put,Z]
  refine ta 25 hH ?_;try simp only [Act.put,Z]
  refine ta 26 hH ?_;try simp only [Act.put,Z]
  refine wpAnyH_ready (rs:=[4]) (by kernel_rfl) (by simp) ?_
  refine AllReadyH.cons (by simp only [G];rfl) (fun K hK=>?_) AllReadyH.nil
  have HKK:=hid hK
  clear hK
  go_simp
  refine Calls.mono (N0.out _) ?_
  rintro e wc4 ⟨rfl,hfc4⟩
  dsimp only
  have hfr4:=hH.2.then0 hfc4
  clear hH
  refine HKK.out _ _ (HS _ hfr4) (fun hH=>?_)
  clear HKK K;try simp only [Act.put,Z]
  refine wpAnyH_ready (rs:=[6]) (by kernel_rfl) (by simp) ?_
  refine AllReadyH.cons (by simp only [G];rfl) (fun K hK=>?_) AllReadyH.nil
  have HKK:=hid hK
  clear hK
  go_simp
  refine Calls.mono (WN.out _ hH.2) ?_
  rintro e wc6 ⟨rfl,hfc6⟩
  dsimp only
  have hfr6:=hH.2.then0 hfc6
  clear hH
  refine HKK.out _ _ (HS _ hfr6) (fun hH=>?_)
  clear HKK K;try simp only [Act.put,Z]
  refine wpAnyH_ready (rs:=[7]) (by kernel_rfl) (by simp) ?_
  refine AllReadyH.cons (by simp only [G];rfl) (fun K hK=>?_) AllReadyH.nil
  have HKK:=hid hK
  clear hK
  go_simp
  refine Calls.mono (N1.out _) ?_
  rintro e wc7 ⟨rfl,hfc7⟩
  dsimp only
  have hfr7:=hH.2.then0 hfc7
  clear hH
  refine HKK.out _ _ (HS _ hfr7) (fun hH=>?_)
  clear HKK K;try simp only [Act.put,Z]
  refine ta 8 hH ?_;try simp only [Act.put,Z]
  refine wpAnyH_ready (rs:=[14]) (by kernel_rfl) (by simp) ?_
  refine AllReadyH.cons (by simp only [G];rfl) (fun K hK=>?_) AllReadyH.nil
  have HKK:=hid hK
  clear hK
  go_simp
  refine Calls.mono (N2.out _) ?_
  rintro e wc14 ⟨rfl,hfc14⟩
  dsimp only
  have hfr14:=hH.2.then0 hfc14
  clear hH
  refine HKK.out _ _ (HS _ hfr14) (fun hH=>?_)
  clear HKK K;try simp only [Act.put,Z]
  refine ta 15 hH ?_;try simp only [Act.put,Z]
  refine wpAnyH_ready (rs:=[21]) (by kernel_rfl) (by simp) ?_
  refine AllReadyH.cons (by simp only [G];rfl) (fun K hK=>?_) AllReadyH.nil
  have HKK:=hid hK
  clear hK
  go_simp
  refine Calls.mono (N3.out _) ?_
  rintro e wc21 ⟨rfl,hfc21⟩
  dsimp only
  have hfr21:=hH.2.then0 hfc21
  clear hH
  refine HKK.out _ _ (HS _ hfr21) (fun hH=>?_)
  clear HKK K;try simp only [Act.put,Z]
  refine ta 22 hH ?_;try simp only [Act.put,Z]
  refine wpAnyH_ready (rs:=[27]) (by kernel_rfl) (by simp) ?_
  refine AllReadyH.cons (by simp only [G];rfl) (fun K hK=>?_) AllReadyH.nil
  have HKK:=hid hK
  clear hK
  go_simp
  refine Calls.mono (N4.out _) ?_
  rintro e wc27 ⟨rfl,hfc27⟩
  dsimp only
  have hfr27:=hH.2.then0 hfc27
  clear hH
  refine HKK.out _ _ (HS _ hfr27) (fun hH=>?_)
  clear HKK K;try simp only [Act.put,Z]
  iterate 2 (refine tn 30 hH ?_;try simp only [Act.put,Z])
  refine wpAnyH_done (by kernel_rfl) ?_ _
  go_wp2_with fail
  go_meet
  exact ⟨by rw [HB.out],hH.2⟩
 case rest =>
  obtain ⟨rfl,hfx⟩:=hcut
  generalize hzs:[z0,z1,z2,z3,z4]=zs at *
  clear K0 HS WN N0 N1 N2 N3 N4 b0 b1 b2 b3 b4 s1 s2 s3 s4 q0 q1 q2 q3 q4 HB hzs
  have hzl:zs.length=5:=HL.out
  have hzb:∀ n∈zs,n<=1000000000:=fun n hn=>(HZ.out n hn).2
  have HSZ:Hid (∀ k,k<=144->(NF (zs ++ (List.range k).map t.bd)).size<=800):=fun k hk=>by
   have:=gz8 (zs ++ (List.range k).map t.bd) (fun n hn=>by
    rcases List.mem_append.1 hn with h1|h1
    ·exact hzb n h1
    ·obtain ⟨i,hi,rfl⟩:=List.mem_map.1 h1
     exact (hbd i (by have:=List.mem_range.1 hi;omega)).2)
   simp at this
   omega
  clear HL HZ
  have HBD:=hid hbd
  have HUS:=hid hus
  have HZB:=hid hzb
  clear hbd hus hzb
  go_wp2_with fail
  go_loopw [3,4] (fun s3 i wr=>∃ y:Nat,y<=12/\i=.int .i64 y/\s3=.string (NF (zs ++ (List.range (12*y)).map t.bd))/\Fr [] w wr) (fun _ i _=>12 - (intOf i).toNat)
  case atStart=>exact ⟨0,by omega,rfl,by simp,hfx⟩
  case round =>
   obtain ⟨y,hy,rfl,rfl,hf⟩:=hrel
   by_cases hlt:y < 12
   ·have hlti:(y:Int) < 12:=by omega
    go_wp2_with fail
    go_loopw [3,5] (fun s3 i wr=>∃ x:Nat,x<=12/\i=.int .i64 x/\s3=.string (NF (zs ++ (List.range (12*y+x)).map t.bd))/\Fr [] w wr) (fun _ i _=>12 - (intOf i).toNat)
    case atStart=>exact ⟨0,by omega,rfl,rfl,hf⟩
    case round =>
     obtain ⟨x,hx,rfl,rfl,hf2⟩:=hrel
     by_cases hxl:x < 12
     ·have hxi:(x:Int) < 12:=by omega
      have hj:12*y+x < 144:=by omega
      have hb:=(h.fr0 hf2).bd hj
      rw [show 1+(12*y+x)=1+y*12+x by omega] at hb
      obtain ⟨v,hv⟩:∃ v,t.bd (12*y+x)=v:=⟨_,rfl⟩
      have hvb:=HBD.out _ hj
      rw [hv] at hb hvb
      have HE:Hid (NF (zs ++ (List.range (12*y+(x+1))).map t.bd)=NF (zs ++ (List.range (12*y+x)).map t.bd) ++ NB v):=by
       show _=_
       rw [<- Nat.add_assoc,fw7,hv,<- List.append_assoc,vq5]
      have hsz:=HSZ.out (12*y+x) (by omega)
      have HN:=(show Hid _ from qx5 v hvb)
      have hs2:=zz7 hvb
      generalize NF (zs ++ (List.range (12*y+x)).map t.bd)=S at hsz HE |-
      generalize NB v=B at hs2 HE HN
      have hs3:S.size+B.size<=9223372036854775807:=by omega
      clear hv hvb
      go_wp2_with fail
      refine Calls.mono (HN.out _) ?_
      rintro e w2 ⟨rfl,hf3⟩
      dsimp only
      go_wp2_with fail
      go_roundw
      case rel=>exact ⟨x+1,by omega,by go_num,by rw [HE.out],hf2.then0 hf3⟩
      case measure=>simp [intOf];omega
     ·have hxe:x=12:=by omega
      subst hxe
      go_wp2_with fail
      go_roundw
      case rel=>exact ⟨y+1,by omega,by go_num,rfl,hf2⟩
      case measure=>simp [intOf];omega
   ·have hye:y=12:=by omega
    subst hye
    have hc:=(h.fr0 hf).gv.c
    have hlb:0<=(t.us.length:Int)/\(t.us.length:Int)<=1000000000:=by omega
    have HN:=(show Hid _ from qx5 _ hlb)
    have hs2:=zz7 hlb
    have hsz:=HSZ.out 144 (by omega)
    have HP:Hid (∀ k,(NF (zs ++ (List.range 144).map t.bd ++ [(t.us.length:Int)] ++ qk2 (t.us.take k))).size<=8000):=fun k=>by
     have:=gz8 (zs ++ (List.range 144).map t.bd ++ [(t.us.length:Int)] ++ qk2 (t.us.take k)) (fun n hn=>by
      rcases List.mem_append.1 hn with h1|h1
      ·rcases List.mem_append.1 h1 with h1|h1
       ·rcases List.mem_append.1 h1 with h1|h1
        ·exact HZB.out n h1
        ·obtain ⟨i,hi,rfl⟩:=List.mem_map.1 h1
         exact (HBD.out i (by have:=List.mem_range.1 hi;omega)).2
       ·simp at h1;omega
      ·obtain ⟨u,hu,hn⟩:=List.mem_flatMap.1 h1
       exact (HUS.out u (List.mem_of_mem_take hu) n hn).2)
     have hp:=jw2 (t.us.take k)
     have hk:(t.us.take k).length<=t.us.length:=by rw [List.length_take];omega
     simp only [List.length_append,List.length_map,List.length_range,List.length_singleton,hp,hzl] at this
     omega
    have HE:Hid (NF (zs ++ (List.range 144).map t.bd ++ [(t.us.length:Int)] ++ qk2 (t.us.take 0))=NF (zs ++ (List.range 144).map t.bd) ++ NB (t.us.length:Int)):=by
     show _=_
     rw [show qk2 (t.us.take 0)=[] from rfl,List.append_nil,vq5]
    have e144:12*12=144:=rfl
    rw [e144]
    clear e144
    generalize zs ++ (List.range 144).map t.bd=ys at hsz HE HP HA |-
    generalize NF ys=S at hsz HE |-
    generalize NB (t.us.length:Int)=B at hs2 HE HN
    have hs3:S.size+B.size<=9223372036854775807:=by omega
    go_wp2_with fail
    refine Calls.mono (HN.out _) ?_
    rintro e w2 ⟨rfl,hf3⟩
    dsimp only
    go_wp2_with fail
    have hf4:=hf.then0 hf3
    clear hs3 hsz hs2 HN hc
    go_loopw [3,6] (fun s3 i wr=>∃ k:Nat,k<=t.us.length/\i=.int .i64 k/\s3=.string (NF (ys ++ [(t.us.length:Int)] ++ qk2 (t.us.take k)))/\Fr [] w wr) (fun _ i _=>t.us.length - (intOf i).toNat)
    case atStart=>exact ⟨0,by omega,rfl,by rw [HE.out],hf4⟩
    case round =>
     obtain ⟨k,hk,rfl,rfl,hf5⟩:=hrel
     have hg5:=h.fr0 hf5
     have hc5:=hg5.gv.c
     by_cases hlt:k < t.us.length
     ·have hlti:(k:Int) < (t.us.length:Int):=by omega
      obtain ⟨u,hu⟩:∃ u,t.us[k]?=some u:=⟨t.us[k],List.getElem?_eq_getElem hlt⟩
      obtain ⟨c0,c1,c2,c3,c4,c5,c6,c7,c8,c9,c10⟩:=hg5.gv.p.at hu
      have hub:=HUS.out u (List.mem_of_getElem? hu)
      have HN:=(show Hid _ from gq0 u hub)
      have hs2:=gz8 u.nums (fun n hn=>(hub n hn).2)
      have HE2:Hid (NF (ys ++ [(t.us.length:Int)] ++ qk2 (t.us.take (k+1)))=NF (ys ++ [(t.us.length:Int)] ++ qk2 (t.us.take k)) ++ NF u.nums):=by
       show _=_
       rw [fy9 hu,<- List.append_assoc,xz2]
      have hsz:=HP.out k
      generalize NF (ys ++ [(t.us.length:Int)] ++ qk2 (t.us.take k))=S at hsz HE2 |-
      generalize NF u.nums=B at hs2 HE2 HN
      have hs3:S.size+B.size<=9223372036854775807:=by simp at hs2;omega
      clear hub hu hg5
      go_wp2_with fail
      refine Calls.mono (HN.out _) ?_
      rintro e w6 ⟨rfl,hf6⟩
      dsimp only
      go_wp2_with fail
      go_roundw
      case rel=>exact ⟨k+1,by omega,by go_num,by rw [HE2.out],hf5.then0 hf6⟩
      case measure=>simp [intOf];omega
     ·have hlti:¬ (k:Int) < (t.us.length:Int):=by omega
      have hke:k=t.us.length:=by omega
      subst hke
      go_wp2_with fail
      go_ret
      exact ⟨by rw [HA.out,List.append_assoc];rfl,hf5⟩
theorem ky9 (gb pb cap:Nat)(t:T)(w:World)(h:RG w gb pb cap t)(hok:GOk t)(hos:OS t)(ht:0<=t.turn/\t.turn<=1000000000) :
  Calls Tryz.prog 57 #[.pointer (some ⟨gb,0,none⟩)] w fun e w'=>e=.returned (.string ⟨(zj2 t).toArray⟩)/\Fr [] w w':=by
 have hb:=vz0 hok hos ht
 have hw:qy3 t.us=zk4 t.us:=vw9 hok.bs
 have hm:∀ n∈jq1 t,n∈qj9 t:=fun n hn=>List.mem_append_left _ hn
 have e:qj9 t=[t.turn,zk4 t.us,t.s0,t.s1,t.next] ++ (List.range 144).map t.bd ++ [(t.us.length:Int)] ++ qk2 t.us:=by
  unfold qj9 jq1 zy5
  simp only [List.append_assoc,List.singleton_append]
 refine Calls.mono (kq2 gb pb cap t t.turn (zk4 t.us) t.s0 t.s1 t.next w h hok.len rfl hw rfl rfl rfl (fun n hn=>hb n (hm n hn)) (fun i hi=>hb _ ?_) (fun u hu n hn=>hb n ?_)) ?_
 ·unfold qj9 zy5
  exact List.mem_append_right _ (List.mem_append_left _ (List.mem_map.2 ⟨i,List.mem_range.2 hi,rfl⟩))
 ·unfold qj9
  exact List.mem_append_right _ (List.mem_append_right _ (List.mem_cons_of_mem _ (List.mem_flatMap.2 ⟨u,hu,hn⟩)))
 ·rintro e1 w1 ⟨rfl,hf⟩
  exact ⟨by rw [<- e];rfl,hf⟩
end Go.Proofs.YtapabahhfanmmaaGreatDoor
