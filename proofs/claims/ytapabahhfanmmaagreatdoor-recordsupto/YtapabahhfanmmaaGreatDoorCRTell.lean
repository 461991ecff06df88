import Derived.Deep.RegionWith
import Derived.Test.YtapabahhfanmmaaGreatDoorCTellG
import Derived.Test.YtapabahhfanmmaaGreatDoorCStandG
namespace Go.Proofs.YtapabahhfanmmaaGreatDoor
open Go.RowKit List
set_option maxRecDepth 100000
set_option maxHeartbeats 2000000
theorem jO (a b:List UInt8):(⟨a.toArray⟩:ByteArray) ++ ⟨b.toArray⟩=⟨(a ++ b).toArray⟩:=by
 apply ByteArray.ext
 simp [ByteArray.data_append]
theorem uP (W:World)(b x:Nat)(hx:x < 256)(h:W.cell? ⟨b,0,none⟩=some (.int .u8 (x:Int))):(convert 168 9 (.slice (so b) 1 1)).run Tryz.prog W=.ok (.string ⟨[UInt8.ofNat x].toArray⟩) W :=
 run_convert_bytes_back W 168 9 5 ⟨b,0,none⟩ 1 [UInt8.ofNat x] Tryz.underlying168 Tryz.underlying5 Tryz.underlying9 (fun j c=>by
  have a:j=0:=by simpa using c
  subst a
  rw [Addr.add_lit,Nat.zero_add,h]
  simp
  omega)
theorem rY:∀ (f n:Nat),n < 128 ^ (f+1)->f<=5->∀ w:World,Cs 101 #[.int .i64 n] w fun e l=>e=.returned (.string ⟨(bL n).toArray⟩)/\Fr [] w l
 | f,n,hn,L,w=>by
  by_cases h:n < 128
  ·have hi:(n:Int) < 128:=by omega
   have K:=uP (w.alloc (.cells #[.int .u8 (n:Int)] 5)) w.heap.size n (by omega) (by rw [aB (aC _ _)];rfl)
   have c:=(show Hi _ from kL h)
   go_enter Tryz.func101,Tryz.ntmps101
   go_wp2_with fail
   go_ret
   exact ⟨by rw [c.o];rfl,(r0 _ _).alloc _⟩
  have hi:¬ (n:Int) < 128:=by omega
  have v:0 < f:=by
   rcases Nat.eq_zero_or_pos f with rfl|p
   ·simp at hn;omega
   exact p
  obtain ⟨f',rfl⟩:∃ f',f=f'+1:=⟨f - 1,by omega⟩
  have i:=rY f' (n / 128) (by rw [Nat.pow_succ] at hn;omega) (by omega)
  obtain ⟨q,d⟩:∃ q,n / 128=q:=⟨_,rfl⟩
  obtain ⟨r,k⟩:∃ r,n % 128=r:=⟨_,rfl⟩
  rw [d] at i
  have A:(n:Int).tdiv 128=(q:Int):=by rw [<- d,Int.tdiv_eq_ediv_of_nonneg (by omega)];omega
  have D:(n:Int).tmod 128=(r:Int):=by rw [<- k,Int.tmod_eq_emod_of_nonneg (by omega)];omega
  have C:r < 128:=by omega
  obtain ⟨B,g⟩:∃ B:ByteArray,B=⟨(bL q).toArray⟩:=⟨_,rfl⟩
  have s:B.size<=6:=by
   rw [g]
   exact iL 6 q (by
     rw [<- d];have:(128:Nat) ^ (f'+1+1)<=128 ^ 6:=Nat.pow_le_pow_right (by omega) (by omega)
     have:=Nat.div_le_self n 128
     omega) (by omega)
  rw [<- g] at i
  have E:1+B.size<=9223372036854775807:=by omega
  have j:=aA g
  have m:=(show Hi (∀ w:World,Cs 101 #[.int .i64 (q:Int)] w fun e l=>e=.returned (.string B)/\Fr [] w l) from i)
  clear g
  have c:Hi (bL n=[UInt8.ofNat (r+128)] ++ bL q):=by
   show _=_
   rw [lJ h,d,k]
   rfl
  have y:(128:Nat) ^ (f'+1+1)<=128 ^ 6:=Nat.pow_le_pow_right (by omega) (by omega)
  have x:n < 4398046511104:=by
      have:(128:Nat) ^ 6=4398046511104:=by decide
      omega
  have z:q < 4398046511104:=by omega
  clear i hn d k
  go_enter Tryz.func101,Tryz.ntmps101
  go_wp2_with fail
  have u:∀ (W:World) (b:Nat),W.cell? ⟨b,0,none⟩=some (.int .u8 (128+(r:Int)))->(convert 168 9 (.slice (so b) 1 1)).run Tryz.prog W=.ok (.string ⟨[UInt8.ofNat (r+128)].toArray⟩) W:=fun W b hb=>uP W b (r+128) (by omega) (by rw [hb];congr 2;push_cast;omega)
  have F:IntKind.i64.wrap (128+(r:Int))=128+(r:Int):=by unfold IntKind.wrap;simp [IntKind.bits,IntKind.signed];omega
  have H:IntKind.u8.wrap (128+(r:Int))=128+(r:Int):=by unfold IntKind.wrap;simp [IntKind.bits,IntKind.signed];omega
  have I:IntKind.i64.wrap (q:Int)=(q:Int):=by unfold IntKind.wrap;simp [IntKind.bits,IntKind.signed];omega
  go_region_with (go_at_call 101;refine Calls.mono (m.o _) ?_;rintro e J ⟨rfl,a⟩;first|(have t:J.cell? ⟨w.heap.size,0,none⟩=some (.int .u8 (128+(r:Int))):=(a.cell _ _ (by simp) (by simp)).trans (by rw [World.cell?_drew,aB (aC _ _)];rfl))|skip)
  all_goals
   go_wp2_with fail
   simp only [Act.put]
   go_ret
   refine ⟨?_,?_⟩
   ·rw [c.o,j.o]
    show Ending.returned (.string (⟨[UInt8.ofNat r+128].toArray⟩ ++ ⟨(bL q).toArray⟩))=_
    rw [jO,show UInt8.ofNat r+128=UInt8.ofNat (r+128) by simp]
   first
   | exact (((r0 [] w).alloc _).drew).then0 a
   | exact (((r0 [] w).drew).alloc _).then0 a
   | exact (((r0 [] w).drew).then0 a).alloc _
def NB (x:Int):ByteArray:=⟨(bL x.toNat).toArray⟩
theorem dT {x:Int}(h:0<=x/\x<=1000000000):(NB x).size<=5:=by
 have a:(128:Nat) ^ 5=34359738368:=by decide
 exact iL 5 x.toNat (by omega) (by omega)
theorem dQ (x:Int)(h:0<=x/\x<=1000000000)(w:World):Cs 101 #[.int .i64 x] w fun e a=>e=.returned (.string (NB x))/\Fr [] w a:=by
 have b:(128:Nat) ^ 6=4398046511104:=by decide
 have:=rY 5 x.toNat (by omega) (by omega) w
 rw [show ((x.toNat:Nat):Int)=x by omega] at this
 exact this
theorem US (z0 z1 z2 z3 z4 z5 z6 z7 z8 z9 l:Int) (f g h i j m p r F I n:ByteArray) (w:World)
  (N0:Hi (∀ w:World,Cs 101 #[.int .i64 z0] w fun e c=>e=.returned (.string f)/\Fr [] w c)) (b0:f.size<=5)
  (N1:Hi (∀ w:World,Cs 101 #[.int .i64 z1] w fun e c=>e=.returned (.string g)/\Fr [] w c)) (b1:g.size<=5)
  (N2:Hi (∀ w:World,Cs 101 #[.int .i64 z2] w fun e c=>e=.returned (.string h)/\Fr [] w c)) (b2:h.size<=5)
  (N3:Hi (∀ w:World,Cs 101 #[.int .i64 z3] w fun e c=>e=.returned (.string i)/\Fr [] w c)) (b3:i.size<=5)
  (N4:Hi (∀ w:World,Cs 101 #[.int .i64 z4] w fun e c=>e=.returned (.string j)/\Fr [] w c)) (b4:j.size<=5)
  (N5:Hi (∀ w:World,Cs 101 #[.int .i64 z5] w fun e c=>e=.returned (.string m)/\Fr [] w c)) (b5:m.size<=5)
  (N6:Hi (∀ w:World,Cs 101 #[.int .i64 z6] w fun e c=>e=.returned (.string p)/\Fr [] w c)) (b6:p.size<=5)
  (N7:Hi (∀ w:World,Cs 101 #[.int .i64 z7] w fun e c=>e=.returned (.string r)/\Fr [] w c)) (b7:r.size<=5)
  (N8:Hi (∀ w:World,Cs 101 #[.int .i64 z8] w fun e c=>e=.returned (.string F)/\Fr [] w c)) (b8:F.size<=5)
  (N9:Hi (∀ w:World,Cs 101 #[.int .i64 z9] w fun e c=>e=.returned (.string I)/\Fr [] w c)) (b9:I.size<=5)
  (ab:Hi (∀ w:World,Cs 101 #[.int .i64 l] w fun e c=>e=.returned (.string n)/\Fr [] w c)) (aj:n.size<=5) :
  Cs 102 #[.agg #[ii z0,ii z1,ii z2,ii z3,ii z4,ii z5,ii z6,ii z7,ii z8,ii z9,ii l]] w fun e c=>e=.returned (.string (f ++ g ++ h ++ i ++ j ++ m ++ p ++ r ++ F ++ I ++ n))/\Fr [] w c:=by
 obtain ⟨H,q⟩:∃ W,W=w.alloc (.cells #[ii z0,ii z1,ii z2,ii z3,ii z4,ii z5,ii z6,ii z7,ii z8,ii z9,ii l] 85):=⟨_,rfl⟩
 have J:Fr [] w H:=by rw [q];exact (r0 _ _).alloc _
 have Y:H.heap[w.heap.size]?=some (.cells #[ii z0,ii z1,ii z2,ii z3,ii z4,ii z5,ii z6,ii z7,ii z8,ii z9,ii l] 85):=by rw [q];exact aC _ _
 have d:∀ c,Fr [] H c->(fun c:World=>(cl c w.heap.size 0 z0/\cl c w.heap.size 1 z1/\cl c w.heap.size 2 z2/\cl c w.heap.size 3 z3/\cl c w.heap.size 4 z4/\cl c w.heap.size 5 z5/\cl c w.heap.size 6 z6/\cl c w.heap.size 7 z7/\cl c w.heap.size 8 z8/\cl c w.heap.size 9 z9/\cl c w.heap.size 10 l)/\Fr [] H c) c:=fun c hf=>by
  have k:=hf.heap0 Y
  exact ⟨⟨aB k,aB k,aB k,aB k,aB k,aB k,aB k,aB k,aB k,aB k,aB k⟩,hf⟩
 have s1:f.size+g.size<=9223372036854775807:=by omega
 have s2:f.size+g.size+h.size<=9223372036854775807:=by omega
 have s3:f.size+g.size+h.size+i.size<=9223372036854775807:=by omega
 have s4:f.size+g.size+h.size+i.size+j.size<=9223372036854775807:=by omega
 have s5:f.size+g.size+h.size+i.size+j.size+m.size<=9223372036854775807:=by omega
 have s6:f.size+g.size+h.size+i.size+j.size+m.size+p.size<=9223372036854775807:=by omega
 have s7:f.size+g.size+h.size+i.size+j.size+m.size+p.size+r.size<=9223372036854775807:=by omega
 have s8:f.size+g.size+h.size+i.size+j.size+m.size+p.size+r.size+F.size<=9223372036854775807:=by omega
 have s9:f.size+g.size+h.size+i.size+j.size+m.size+p.size+r.size+F.size+I.size<=9223372036854775807:=by omega
 have ak:f.size+g.size+h.size+i.size+j.size+m.size+p.size+r.size+F.size+I.size+n.size<=9223372036854775807:=by omega
 have K0:=d H.drew ((r0 _ _).drew)
 have aa:=aA J
 clear J Y
 go_enter Tryz.func102,Tryz.ntmps102
 go_wp2_with fail
 rw [<- q]
 clear q
 go_cut [3] (fun s3 wx=>s3=.string (f ++ g ++ h ++ i ++ j ++ m ++ p)/\Fr [] H wx)
 case first =>
  refine rg 28 d K0 fun a=>?_
  iterate 2 (refine tn 28 a ?_;try simp only [Act.put,Z])
  refine ta 3 a ?_;try simp only [Act.put,Z]
  refine ta 4 a ?_;try simp only [Act.put,Z]
  refine ta 7 a ?_;try simp only [Act.put,Z]
  refine ta 8 a ?_;try simp only [Act.put,Z]
  refine ta 11 a ?_;try simp only [Act.put,Z]
  refine ta 12 a ?_;try simp only [Act.put,Z]
  refine ta 15 a ?_;try simp only [Act.put,Z]
  refine ta 16 a ?_;try simp only [Act.put,Z]
  refine ta 19 a ?_;try simp only [Act.put,Z]
  refine ta 20 a ?_;try simp only [Act.put,Z]
  refine ta 23 a ?_;try simp only [Act.put,Z]
  refine ta 24 a ?_;try simp only [Act.put,Z]
  refine rd 2 fun K hK=>?_
  have b:=aA hK
  clear hK
  go_simp
  refine Calls.mono (N0.o _) ?_
  rintro e al ⟨rfl,L⟩
  have Q:=a.2.then0 L
  clear a
  refine b.o _ _ (d _ Q) (fun a=>?_)
  clear b K;try simp only [Act.put,Z]
  refine rd 5 fun K hK=>?_
  have b:=aA hK
  clear hK
  go_simp
  refine Calls.mono (N1.o _) ?_
  rintro e an ⟨rfl,N⟩
  have S:=a.2.then0 N
  clear a
  refine b.o _ _ (d _ S) (fun a=>?_)
  clear b K;try simp only [Act.put,Z]
  refine ta 6 a ?_;try simp only [Act.put,Z]
  refine rd 9 fun K hK=>?_
  have b:=aA hK
  clear hK
  go_simp
  refine Calls.mono (N2.o _) ?_
  rintro e ap ⟨rfl,P⟩
  have X:=a.2.then0 P
  clear a
  refine b.o _ _ (d _ X) (fun a=>?_)
  clear b K;try simp only [Act.put,Z]
  refine ta 10 a ?_;try simp only [Act.put,Z]
  refine rd 13 fun K hK=>?_
  have b:=aA hK
  clear hK
  go_simp
  refine Calls.mono (N3.o _) ?_
  rintro e ae ⟨rfl,t⟩
  have A:=a.2.then0 t
  clear a
  refine b.o _ _ (d _ A) (fun a=>?_)
  clear b K;try simp only [Act.put,Z]
  refine ta 14 a ?_;try simp only [Act.put,Z]
  refine rd 17 fun K hK=>?_
  have b:=aA hK
  clear hK
  go_simp
  refine Calls.mono (N4.o _) ?_
  rintro e ag ⟨rfl,v⟩
  have C:=a.2.then0 v
  clear a
  refine b.o _ _ (d _ C) (fun a=>?_)
  clear b K;try simp only [Act.put,Z]
  refine ta 18 a ?_;try simp only [Act.put,Z]
  refine rd 21 fun K hK=>?_
  have b:=aA hK
  clear hK
  go_simp
  refine Calls.mono (N5.o _) ?_
  rintro e ah ⟨rfl,x⟩
  have D:=a.2.then0 x
  clear a
  refine b.o _ _ (d _ D) (fun a=>?_)
  clear b K;try simp only [Act.put,Z]
  refine ta 22 a ?_;try simp only [Act.put,Z]
  refine rd 25 fun K hK=>?_
  have b:=aA hK
  clear hK
  go_simp
  refine Calls.mono (N6.o _) ?_
  rintro e ai ⟨rfl,y⟩
  have E:=a.2.then0 y
  clear a
  refine b.o _ _ (d _ E) (fun a=>?_)
  clear b K;try simp only [Act.put,Z]
  iterate 2 (refine tn 28 a ?_;try simp only [Act.put,Z])
  refine wpAnyH_done (by kernel_rfl) ?_ _
  go_wp2_with fail
  go_meet
  exact ⟨rfl,a.2⟩
 case rest =>
  obtain ⟨rfl,ac⟩:=hcut
  clear K0
  have K0:=d wc.drew (ac.drew)
  go_wp2_with fail
  refine rg 18 d K0 fun a=>?_
  iterate 3 (refine tn 18 a ?_;try simp only [Act.put,Z])
  refine ta 5 a ?_;try simp only [Act.put,Z]
  refine ta 6 a ?_;try simp only [Act.put,Z]
  refine ta 9 a ?_;try simp only [Act.put,Z]
  refine ta 10 a ?_;try simp only [Act.put,Z]
  refine ta 13 a ?_;try simp only [Act.put,Z]
  refine ta 14 a ?_;try simp only [Act.put,Z]
  refine rd 3 fun K hK=>?_
  have b:=aA hK
  clear hK
  go_simp
  refine Calls.mono (N7.o _) ?_
  rintro e am ⟨rfl,M⟩
  have R:=a.2.then0 M
  clear a
  refine b.o _ _ (d _ R) (fun a=>?_)
  clear b K;try simp only [Act.put,Z]
  refine ta 4 a ?_;try simp only [Act.put,Z]
  refine rd 7 fun K hK=>?_
  have b:=aA hK
  clear hK
  go_simp
  refine Calls.mono (N8.o _) ?_
  rintro e ao ⟨rfl,O⟩
  have V:=a.2.then0 O
  clear a
  refine b.o _ _ (d _ V) (fun a=>?_)
  clear b K;try simp only [Act.put,Z]
  refine ta 8 a ?_;try simp only [Act.put,Z]
  refine rd 11 fun K hK=>?_
  have b:=aA hK
  clear hK
  go_simp
  refine Calls.mono (N9.o _) ?_
  rintro e ad ⟨rfl,s⟩
  have z:=a.2.then0 s
  clear a
  refine b.o _ _ (d _ z) (fun a=>?_)
  clear b K;try simp only [Act.put,Z]
  refine ta 12 a ?_;try simp only [Act.put,Z]
  refine rd 15 fun K hK=>?_
  have b:=aA hK
  clear hK
  go_simp
  refine Calls.mono (ab.o _) ?_
  rintro e af ⟨rfl,u⟩
  have B:=a.2.then0 u
  clear a
  refine b.o _ _ (d _ B) (fun a=>?_)
  clear b K;try simp only [Act.put,Z]
  iterate 2 (refine tn 18 a ?_;try simp only [Act.put,Z])
  refine wpAnyH_done (by kernel_rfl) ?_ _
  go_wp2_with fail
  go_ret
  exact ⟨rfl,aa.o.then0 a.2⟩
def NF (ns:List Int):ByteArray:=⟨(aP ns).toArray⟩
theorem CE:NF []=⟨#[]⟩:=rfl
theorem nF (a b:List Int):NF (a ++ b)=NF a ++ NF b:=by unfold NF;rw [jO,jD]
theorem nG (x:Int):NF [x]=NB x:=by unfold NF NB;simp [aP]
theorem lV (l:List Int)(x:Int):NF (l ++ [x])=NF l ++ NB x:=by rw [nF,nG]
theorem pQ (ns:List Int)(h:∀ n∈ns,n<=1000000000):(NF ns).size<=5*ns.length:=by
 have:=gV ns h
 simpa [NF,ByteArray.size] using this
theorem QQ (u:U)(h:∀ n∈u.nums,0<=n/\n<=1000000000)(w:World):Cs 102 #[u.val] w fun e o=>e=.returned (.string (NF u.nums))/\Fr [] w o:=by
 have b:=h u.id (by simp)
 have h1:=h u.owner (by simp)
 have c:=h u.kind (by simp)
 have d:=h u.x (by simp)
 have f:=h u.y (by simp)
 have g:=h u.life (by simp)
 have i:=h u.load (by simp)
 have j:=h u.what (by simp)
 have k:=h u.tox (by simp)
 have l:=h u.toy (by simp)
 have a:=h u.target (by simp)
 refine Calls.mono (US u.id u.owner u.kind u.x u.y u.life u.load u.what u.tox u.toy u.target (NB u.id) (NB u.owner) (NB u.kind) (NB u.x) (NB u.y) (NB u.life) (NB u.load) (NB u.what) (NB u.tox) (NB u.toy) (NB u.target) w (dQ _ b) (dT b) (dQ _ h1) (dT h1) (dQ _ c) (dT c) (dQ _ d) (dT d) (dQ _ f) (dT f) (dQ _ g) (dT g) (dQ _ i) (dT i) (dQ _ j) (dT j) (dQ _ k) (dT k) (dQ _ l) (dT l) (dQ _ a) (dT a)) ?_
 rintro e p ⟨rfl,m⟩
 refine ⟨?_,m⟩
 rw [show u.nums=[] ++ [u.id] ++ [u.owner] ++ [u.kind] ++ [u.x] ++ [u.y] ++ [u.life] ++ [u.load] ++ [u.what] ++ [u.tox] ++ [u.toy] ++ [u.target] from rfl]
 simp only [lV]
 rw [CE,show (⟨#[]⟩:ByteArray) ++ NB u.id=NB u.id from by apply ByteArray.ext;simp [ByteArray.data_append]]
theorem OR (t:T)(k:Nat):(range (k+1)).map t.bd=(range k).map t.bd ++ [t.bd k]:=by
  rw [range_succ,map_append];rfl
theorem TM {us:List U}{k:Nat}{u:U}(a:us[k]?=some u):dP (us.take (k+1))=dP (us.take k) ++ u.nums:=by
 unfold dP
 rw [take_add_one,a,flatMap_append]
 simp
theorem QO (N pb ao:Nat) (t:T) (j l m z3 q:Int) (w:World) (h:RG w N pb ao t) (hl:t.us.length<=100) (e0:t.turn=j) (e1:eO t.us=l) (e2:t.s0=m) (e3:t.s1=z3) (e4:t.next=q)
  (hz:∀ n∈[j,l,m,z3,q],0<=n/\n<=1000000000) (W:∀ i,i < 144->0<=t.bd i/\t.bd i<=1000000000) (ax:∀ u∈t.us,∀ n∈u.nums,0<=n/\n<=1000000000) :
  Cs 57 #[.pointer (so N)] w fun e d=>e=.returned (.string (NF ([j,l,m,z3,q] ++ (range 144).map t.bd ++ [(t.us.length:Int)] ++ dP t.us)))/\Fr [] w d:=by
 have q0:=hz j (by simp)
 have q1:=hz l (by simp)
 have q2:=hz m (by simp)
 have q3:=hz z3 (by simp)
 have q4:=hz q (by simp)
 obtain ⟨Q,C⟩:∃ B,B=NB j:=⟨_,rfl⟩
 have b0:Q.size<=5:=by rw [C];exact dT q0
 have N0:Hi (∀ w:World,Cs 101 #[.int .i64 j] w fun e d=>e=.returned (.string Q)/\Fr [] w d):=by rw [C];exact dQ j q0
 obtain ⟨R,D⟩:∃ B,B=NB l:=⟨_,rfl⟩
 have b1:R.size<=5:=by rw [D];exact dT q1
 have N1:Hi (∀ w:World,Cs 101 #[.int .i64 l] w fun e d=>e=.returned (.string R)/\Fr [] w d):=by rw [D];exact dQ l q1
 obtain ⟨B2,E⟩:∃ B,B=NB m:=⟨_,rfl⟩
 have b2:B2.size<=5:=by rw [E];exact dT q2
 have N2:Hi (∀ w:World,Cs 101 #[.int .i64 m] w fun e d=>e=.returned (.string B2)/\Fr [] w d):=by rw [E];exact dQ m q2
 obtain ⟨B3,F⟩:∃ B,B=NB z3:=⟨_,rfl⟩
 have b3:B3.size<=5:=by rw [F];exact dT q3
 have N3:Hi (∀ w:World,Cs 101 #[.int .i64 z3] w fun e d=>e=.returned (.string B3)/\Fr [] w d):=by rw [F];exact dQ z3 q3
 obtain ⟨B4,H⟩:∃ B,B=NB q:=⟨_,rfl⟩
 have b4:B4.size<=5:=by rw [H];exact dT q4
 have N4:Hi (∀ w:World,Cs 101 #[.int .i64 q] w fun e d=>e=.returned (.string B4)/\Fr [] w d):=by rw [H];exact dQ q q4
 have WN:Hi (∀ w1,Fr [] w w1->Cs 99 #[.pointer (so N)] w1 fun e d=>e=.returned (.int .i64 l)/\Fr [] w1 d):=fun w1 O=>by rw [<- e1];exact mX N pb ao t.us w1 (h.gv.fr0 O)
 have z:∀ d,Fr [] w d->(fun d:World=>(cl d N 0 j/\cl d N 145 m/\cl d N 146 z3/\cl d N 147 q)/\Fr [] w d) d:=fun d O=>by
  have h1:=h.fr0 O
  exact ⟨⟨e0 ▸ h1.c0,e2 ▸ h1.c145,e3 ▸ h1.c146,e4 ▸ h1.c147⟩,O⟩
 have s1:Q.size+R.size<=9223372036854775807:=by omega
 have s2:Q.size+R.size+B2.size<=9223372036854775807:=by omega
 have J:Q.size+R.size+B2.size+B3.size<=9223372036854775807:=by omega
 have s4:Q.size+R.size+B2.size+B3.size+B4.size<=9223372036854775807:=by omega
 have K0:=z w.drew ((r0 _ _).drew)
 have HB:Hi (NF [j,l,m,z3,q]=Q ++ R ++ B2 ++ B3 ++ B4):=by
  show _=_
  rw [show [j,l,m,z3,q]=[j] ++ [l] ++ [m] ++ [z3] ++ [q] from rfl]
  simp only [lV,nG,C,D,E,F,H]
 have HL:Hi (([j,l,m,z3,q]:List Int).length=5):=rfl
 obtain ⟨A,hA⟩:∃ A,A=NF ([j,l,m,z3,q] ++ (range 144).map t.bd ++ [(t.us.length:Int)] ++ dP t.us):=⟨_,rfl⟩
 rw [<- hA]
 have HA:=aA hA
 clear hA
 have HZ:=aA hz
 clear C D E F H e0 e1 e2 e3 e4 hz
 go_enter Tryz.func57,Tryz.ntmps57
 go_wp2_with fail
 go_cut [3] (fun J wx=>J=.string (NF [j,l,m,z3,q])/\Fr [] w wx)
 case first =>
  refine rg 30 z K0 fun a=>?_
  iterate 4 (refine tn 30 a ?_;try simp only [Act.put,Z])
  refine ta 5 a ?_;try simp only [Act.put,Z]
  refine ta 9 a ?_;try simp only [Act.put,Z]
  refine ta 10 a ?_;try simp only [Act.put,Z]
  refine ta 11 a ?_;try simp only [Act.put,Z]
  refine ta 12 a ?_;try simp only [Act.put,Z]
  refine ta 13 a ?_;try simp only [Act.put,Z]
  refine ta 16 a ?_;try simp only [Act.put,Z]
  refine ta 17 a ?_;try simp only [Act.put,Z]
  refine ta 18 a ?_;try simp only [Act.put,Z]
  refine ta 19 a ?_;try simp only [Act.put,Z]
  refine ta 20 a ?_;try simp only [Act.put,Z]
  refine ta 23 a ?_;try simp only [Act.put,Z]
  refine ta 24 a ?_;try simp only [Act.put,Z]
  refine ta 25 a ?_;try simp only [Act.put,Z]
  refine ta 26 a ?_;try simp only [Act.put,Z]
  refine rd 4 fun K hK=>?_
  have b:=aA hK
  clear hK
  go_simp
  refine Calls.mono (N0.o _) ?_
  rintro e bo ⟨rfl,ap⟩
  have Zq:=a.2.then0 ap
  clear a
  refine b.o _ _ (z _ Zq) (fun a=>?_)
  clear b K;try simp only [Act.put,Z]
  refine rd 6 fun K hK=>?_
  have b:=aA hK
  clear hK
  go_simp
  refine Calls.mono (WN.o _ a.2) ?_
  rintro e bp ⟨rfl,aq⟩
  have Zr:=a.2.then0 aq
  clear a
  refine b.o _ _ (z _ Zr) (fun a=>?_)
  clear b K;try simp only [Act.put,Z]
  refine rd 7 fun K hK=>?_
  have b:=aA hK
  clear hK
  go_simp
  refine Calls.mono (N1.o _) ?_
  rintro e bq ⟨rfl,ar⟩
  have au:=a.2.then0 ar
  clear a
  refine b.o _ _ (z _ au) (fun a=>?_)
  clear b K;try simp only [Act.put,Z]
  refine ta 8 a ?_;try simp only [Act.put,Z]
  refine rd 14 fun K hK=>?_
  have b:=aA hK
  clear hK
  go_simp
  refine Calls.mono (N2.o _) ?_
  rintro e bh ⟨rfl,ab⟩
  have ae:=a.2.then0 ab
  clear a
  refine b.o _ _ (z _ ae) (fun a=>?_)
  clear b K;try simp only [Act.put,Z]
  refine ta 15 a ?_;try simp only [Act.put,Z]
  refine rd 21 fun K hK=>?_
  have b:=aA hK
  clear hK
  go_simp
  refine Calls.mono (N3.o _) ?_
  rintro e bi ⟨rfl,ac⟩
  have af:=a.2.then0 ac
  clear a
  refine b.o _ _ (z _ af) (fun a=>?_)
  clear b K;try simp only [Act.put,Z]
  refine ta 22 a ?_;try simp only [Act.put,Z]
  refine rd 27 fun K hK=>?_
  have b:=aA hK
  clear hK
  go_simp
  refine Calls.mono (N4.o _) ?_
  rintro e bj ⟨rfl,ad⟩
  have ag:=a.2.then0 ad
  clear a
  refine b.o _ _ (z _ ag) (fun a=>?_)
  clear b K;try simp only [Act.put,Z]
  iterate 2 (refine tn 30 a ?_;try simp only [Act.put,Z])
  refine wpAnyH_done (by kernel_rfl) ?_ _
  go_wp2_with fail
  go_meet
  exact ⟨by rw [HB.o],a.2⟩
 case rest =>
  obtain ⟨rfl,bb⟩:=hcut
  generalize hzs:[j,l,m,z3,q]=r at *
  clear K0 z WN N0 N1 N2 N3 N4 b0 b1 b2 b3 b4 s1 s2 J s4 q0 q1 q2 q3 q4 HB hzs
  have bg:r.length=5:=HL.o
  have ak:∀ n∈r,n<=1000000000:=fun n hn=>(HZ.o n hn).2
  have am:Hi (∀ k,k<=144->(NF (r ++ (range k).map t.bd)).size<=800):=fun k hk=>by
   have:=pQ (r ++ (range k).map t.bd) (fun n hn=>by
    rcases mem_append.1 hn with h1|h1
    ·exact ak n h1
    obtain ⟨i,hi,rfl⟩:=mem_map.1 h1
    exact (W i (by have:=mem_range.1 hi;omega)).2)
   simp at this
   omega
  clear HL HZ
  have al:=aA W
  have an:=aA ax
  have ay:=aA ak
  clear W ax ak
  go_wp2_with fail
  go_loopw [3,4] (fun J i wr=>∃ y:Nat,y<=12/\i=.int .i64 y/\J=.string (NF (r ++ (range (12*y)).map t.bd))/\Fr [] w wr) (fun _ i _=>12 - (intOf i).toNat)
  case atStart=>exact ⟨0,by omega,rfl,by simp,bb⟩
  obtain ⟨y,hy,rfl,rfl,O⟩:=hrel
  by_cases aw:y < 12
  ·have P:(y:Int) < 12:=by omega
   go_wp2_with fail
   go_loopw [3,5] (fun J i wr=>∃ x:Nat,x<=12/\i=.int .i64 x/\J=.string (NF (r ++ (range (12*y+x)).map t.bd))/\Fr [] w wr) (fun _ i _=>12 - (intOf i).toNat)
   case atStart=>exact ⟨0,by omega,rfl,rfl,O⟩
   obtain ⟨x,hx,rfl,rfl,X⟩:=hrel
   by_cases bn:x < 12
   ·have bm:(x:Int) < 12:=by omega
    have hj:12*y+x < 144:=by omega
    have hb:=(h.fr0 X).bd hj
    rw [show 1+(12*y+x)=1+y*12+x by omega] at hb
    obtain ⟨v,hv⟩:∃ v,t.bd (12*y+x)=v:=⟨_,rfl⟩
    have I:=al.o _ hj
    rw [hv] at hb I
    have L:Hi (NF (r ++ (range (12*y+(x+1))).map t.bd)=NF (r ++ (range (12*y+x)).map t.bd) ++ NB v):=by
     show _=_
     rw [<- Nat.add_assoc,OR,hv,<- append_assoc,lV]
    have g:=am.o (12*y+x) (by omega)
    have s:=(show Hi _ from dQ v I)
    have f:=dT I
    generalize NF (r ++ (range (12*y+x)).map t.bd)=S at g L |-
    generalize NB v=B at f L s
    have ai:S.size+B.size<=9223372036854775807:=by omega
    clear hv I
    go_wp2_with fail
    refine Calls.mono (s.o _) ?_
    rintro e w2 ⟨rfl,Y⟩
    go_wp2_with fail
    go_roundw
    case rel=>exact ⟨x+1,by omega,by go_num,by rw [L.o],X.then0 Y⟩
    case measure=>simp [intOf];omega
   have be:x=12:=by omega
   subst be
   go_wp2_with fail
   go_roundw
   case rel=>exact ⟨y+1,by omega,by go_num,rfl,X⟩
   case measure=>simp [intOf];omega
  have bf:y=12:=by omega
  subst bf
  have hc:=(h.fr0 O).gv.c
  have av:0<=(t.us.length:Int)/\(t.us.length:Int)<=1000000000:=by omega
  have s:=(show Hi _ from dQ _ av)
  have f:=dT av
  have g:=am.o 144 (by omega)
  have HP:Hi (∀ k,(NF (r ++ (range 144).map t.bd ++ [(t.us.length:Int)] ++ dP (t.us.take k))).size<=8000):=fun k=>by
   have:=pQ (r ++ (range 144).map t.bd ++ [(t.us.length:Int)] ++ dP (t.us.take k)) (fun n hn=>by
    rcases mem_append.1 hn with h1|h1
    ·rcases mem_append.1 h1 with h1|h1
     ·rcases mem_append.1 h1 with h1|h1
      ·exact ay.o n h1
      obtain ⟨i,hi,rfl⟩:=mem_map.1 h1
      exact (al.o i (by have:=mem_range.1 hi;omega)).2
     simp at h1;omega
    obtain ⟨u,hu,hn⟩:=mem_flatMap.1 h1
    exact (an.o u (mem_of_mem_take hu) n hn).2)
   have hp:=rR (t.us.take k)
   have hk:(t.us.take k).length<=t.us.length:=by rw [length_take];omega
   simp only [length_append,length_map,length_range,length_singleton,hp,bg] at this
   omega
  have L:Hi (NF (r ++ (range 144).map t.bd ++ [(t.us.length:Int)] ++ dP (t.us.take 0))=NF (r ++ (range 144).map t.bd) ++ NB (t.us.length:Int)):=by
   show _=_
   rw [show dP (t.us.take 0)=[] from rfl,append_nil,lV]
  have M:12*12=144:=rfl
  rw [M]
  clear M
  generalize r ++ (range 144).map t.bd=ys at g L HP HA |-
  generalize NF ys=S at g L |-
  generalize NB (t.us.length:Int)=B at f L s
  have ai:S.size+B.size<=9223372036854775807:=by omega
  go_wp2_with fail
  refine Calls.mono (s.o _) ?_
  rintro e w2 ⟨rfl,Y⟩
  go_wp2_with fail
  have az:=O.then0 Y
  clear ai g f s hc
  go_loopw [3,6] (fun J i wr=>∃ k:Nat,k<=t.us.length/\i=.int .i64 k/\J=.string (NF (ys ++ [(t.us.length:Int)] ++ dP (t.us.take k)))/\Fr [] w wr) (fun _ i _=>t.us.length - (intOf i).toNat)
  case atStart=>exact ⟨0,by omega,rfl,by rw [L.o],az⟩
  obtain ⟨k,hk,rfl,rfl,aa⟩:=hrel
  have ah:=h.fr0 aa
  have bl:=ah.gv.c
  by_cases aw:k < t.us.length
  ·have P:(k:Int) < (t.us.length:Int):=by omega
   obtain ⟨u,hu⟩:∃ u,t.us[k]?=some u:=⟨t.us[k],getElem?_eq_getElem aw⟩
   obtain ⟨c0,c1,c2,c3,c4,c5,c6,c7,c8,c9,bk⟩:=ah.gv.p.at hu
   have aj:=an.o u (mem_of_getElem? hu)
   have s:=(show Hi _ from QQ u aj)
   have f:=pQ u.nums (fun n hn=>(aj n hn).2)
   have V:Hi (NF (ys ++ [(t.us.length:Int)] ++ dP (t.us.take (k+1)))=NF (ys ++ [(t.us.length:Int)] ++ dP (t.us.take k)) ++ NF u.nums):=by
    show _=_
    rw [TM hu,<- append_assoc,nF]
   have g:=HP.o k
   generalize NF (ys ++ [(t.us.length:Int)] ++ dP (t.us.take k))=S at g V |-
   generalize NF u.nums=B at f V s
   have ai:S.size+B.size<=9223372036854775807:=by simp at f;omega
   clear aj hu ah
   go_wp2_with fail
   refine Calls.mono (s.o _) ?_
   rintro e w6 ⟨rfl,ba⟩
   go_wp2_with fail
   go_roundw
   case rel=>exact ⟨k+1,by omega,by go_num,by rw [V.o],aa.then0 ba⟩
   case measure=>simp [intOf];omega
  have P:¬ (k:Int) < (t.us.length:Int):=by omega
  have bc:k=t.us.length:=by omega
  subst bc
  go_wp2_with fail
  go_ret
  exact ⟨by rw [HA.o,append_assoc];rfl,aa⟩
theorem oY (c f b:Nat)(t:T)(w:World)(h:RG w c f b t)(a:fI t)(d:OS t)(ht:0<=t.turn/\t.turn<=1000000000) :
  Cs 57 #[.pointer (so c)] w fun e k=>e=.returned (.string ⟨(bH t).toArray⟩)/\Fr [] w k:=by
 have hb:=mP a d ht
 have hw:eO t.us=eA t.us:=BP a.bs
 have hm:∀ n∈gX t,n∈cB t:=fun n hn=>mem_append_left _ hn
 have e:cB t=[t.turn,eA t.us,t.s0,t.s1,t.next] ++ (range 144).map t.bd ++ [(t.us.length:Int)] ++ dP t.us:=by
  unfold cB gX iR
  simp only [append_assoc,singleton_append]
 refine Calls.mono (QO c f b t t.turn (eA t.us) t.s0 t.s1 t.next w h a.len rfl hw rfl rfl rfl (fun n hn=>hb n (hm n hn)) (fun i hi=>hb _ ?_) (fun u j n hn=>hb n ?_)) ?_
 ·unfold cB iR
  exact mem_append_right _ (mem_append_left _ (mem_map.2 ⟨i,mem_range.2 hi,rfl⟩))
 ·unfold cB
  exact mem_append_right _ (mem_append_right _ (mem_cons_of_mem _ (mem_flatMap.2 ⟨u,j,hn⟩)))
 rintro l m ⟨rfl,g⟩
 exact ⟨by rw [<- e];rfl,g⟩
