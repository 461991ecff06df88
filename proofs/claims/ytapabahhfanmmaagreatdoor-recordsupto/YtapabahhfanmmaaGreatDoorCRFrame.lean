import Derived.Lib.ConvBytes
import Derived.Laws.BitsAllLaws
import Derived.Test.YtapabahhfanmmaaGreatDoorCRTell
namespace Go.Proofs.YtapabahhfanmmaaGreatDoor
open Go.RowKit List
set_option maxRecDepth 100000
set_option maxHeartbeats 2000000
theorem lR (c:BinOp)(a b:Int):0<=bits c .u32 a b/\bits c .u32 a b<=4294967295:=by
 have:∃ x,bits c .u32 a b=IntKind.u32.wrap x:=⟨_,rfl⟩
 obtain ⟨x,hx⟩:=this
 rw [hx,IntKind.wrap_u32]
 omega
def gE (Z:Int):Int:=bits .xor .u32 (Z / 2) (3988292384*bits .and .u32 Z 1 % 4294967296)
def gP:Nat->Int->Int
 | 0,Z=>Z
 | n+1,Z=>gE (gP n Z)
def iS (l:List UInt8):Nat->Int
 | 0=>4294967295
 | k+1=>gP 8 (bits .xor .u32 (iS l k) (((l[k]?.map UInt8.toNat).getD 0:Nat):Int))
def kZ (l:List UInt8):Int:=bits .xor .u32 IntKind.u32.max (iS l l.length)
def jA (l:List UInt8):List UInt8:=[UInt8.ofNat (kZ l % 256).toNat,UInt8.ofNat (kZ l / 256 % 256).toNat,UInt8.ofNat (kZ l / 65536 % 256).toNat,UInt8.ofNat (kZ l / 16777216 % 256).toNat]
theorem qI (l:List UInt8):(jA l).length=4:=rfl
theorem nO (c:Int):Value.int .u8 (c % 256)=.int .u8 ((UInt8.ofNat (c % 256).toNat).toNat:Int):=by
 have:(UInt8.ofNat (c % 256).toNat).toNat=(c % 256).toNat:=by simp [UInt8.toNat_ofNat'];omega
 rw [this]
 congr 1
 omega
theorem vM (a b c d:Int)(W:World):(convert 168 9 (.slice (so W.heap.size) 4 4)).run Tryz.prog (W.alloc (.cells #[.int .u8 (a % 256),.int .u8 (b % 256),.int .u8 (c % 256),.int .u8 (d % 256)] 5)) =
  .ok (.string ⟨[UInt8.ofNat (a % 256).toNat,UInt8.ofNat (b % 256).toNat,UInt8.ofNat (c % 256).toNat,UInt8.ofNat (d % 256).toNat].toArray⟩) (W.alloc (.cells #[.int .u8 (a % 256),.int .u8 (b % 256),.int .u8 (c % 256),.int .u8 (d % 256)] 5)):=by
 refine run_convert_bytes_back _ 168 9 5 ⟨W.heap.size,0,none⟩ 4 [UInt8.ofNat (a % 256).toNat,UInt8.ofNat (b % 256).toNat,UInt8.ofNat (c % 256).toNat,UInt8.ofNat (d % 256).toNat] Tryz.underlying168 Tryz.underlying5 Tryz.underlying9 (fun j e=>?_)
 rw [Addr.add_lit,Nat.zero_add,aB (aC W _)]
 have:j=0\/j=1\/j=2\/j=3:=by simp at e;omega
 rcases this with rfl|rfl|rfl|rfl
 ·exact congrArg some (nO a)
 ·exact congrArg some (nO b)
 ·exact congrArg some (nO c)
 exact congrArg some (nO d)
theorem EY (l:List UInt8)(w:World)(hl:l.length<=1000000) :
  Cs 84 #[.string ⟨l.toArray⟩] w fun e D=>e=.returned (.string ⟨(jA l).toArray⟩)/\Fr [] w D:=by
 obtain ⟨f,d⟩:∃ f:ByteArray,f=⟨l.toArray⟩:=⟨_,rfl⟩
 have C:f.size=l.length:=by rw [d];rfl
 have v:Hi (∀ k (h1:k < l.length) (t:k < f.size),(f[k]'t).toNat=(l[k]'h1).toNat):=fun k h1 t=>by subst d;rfl
 rw [<- d]
 clear d
 go_enter Tryz.func84,Tryz.ntmps84
 go_wp2_with fail
 go_loopw [3,7] (fun s i wr=>∃ (k:Nat) (S:Int),k<=l.length/\i=.int .i64 k/\s=.int .u32 S/\(0<=S/\S<=4294967295)/\Hi (S=iS l k)/\w=wr) (fun _ i _=>l.length - (intOf i).toNat)
 case atStart=>exact ⟨0,4294967295,by omega,rfl,rfl,by omega,rfl,rfl⟩
 obtain ⟨k,S,H,rfl,rfl,E,g,rfl⟩:=hrel
 by_cases a:k < l.length
 ·have m:k < f.size:=by omega
  obtain ⟨b,c⟩:∃ b:Nat,(l[k]'a).toNat=b:=⟨_,rfl⟩
  have hb:(f[k]'m).toNat=b:=(v.o k a m).trans c
  have z:b < 256:=by rw [<- c];exact (l[k]'a).toNat_lt
  have r:Hi (iS l (k+1)=gP 8 (bits .xor .u32 S (b:Int))):=by
   show gP 8 (bits .xor .u32 (iS l k) (((l[k]?.map UInt8.toNat).getD 0:Nat):Int))=_
   rw [getElem?_eq_getElem a,<- g.o]
   show gP 8 (bits .xor .u32 S (((l[k]'a).toNat:Nat):Int))=_
   rw [c]
  clear c
  go_wp2_with fail
  go_loopw [3,16] (fun s i wr=>∃ (j:Nat) (Z:Int),j<=8/\i=.int .i64 j/\s=.int .u32 Z/\(0<=Z/\Z<=4294967295)/\Hi (Z=gP j (bits .xor .u32 S (b:Int)))/\w=wr) (fun _ i _=>8 - (intOf i).toNat)
  case atStart=>exact ⟨0,_,by omega,rfl,rfl,lR _ _ _,rfl,rfl⟩
  obtain ⟨j,Z,F,rfl,rfl,y,h,rfl⟩:=hrel
  by_cases B:j < 8
  ·have n:(j:Int) < 8:=by omega
   go_wp2_with fail
   go_roundw
   case rel=>exact ⟨j+1,gE Z,by omega,by go_num,rfl,lR _ _ _,(by show gE Z=gE (gP j _);rw [h.o]),trivial⟩
   case measure=>simp [intOf];omega
  have n:¬ (j:Int) < 8:=by omega
  have p:j=8:=by omega
  have x:=aA p
  clear p
  go_wp2_with fail
  go_roundw
  case rel=>exact ⟨k+1,Z,a,by go_num,rfl,y,(by show Z=_;rw [r.o,h.o,x.o]),trivial⟩
  case measure=>simp [intOf];omega
 have q:k=l.length:=by omega
 have u:Hi (kZ l=bits .xor .u32 IntKind.u32.max S):=by show bits .xor .u32 IntKind.u32.max (iS l l.length)=_;rw [g.o,q]
 have A:=vM (bits .xor .u32 IntKind.u32.max S) (bits .xor .u32 IntKind.u32.max S / 256) (bits .xor .u32 IntKind.u32.max S / 65536) (bits .xor .u32 IntKind.u32.max S / 16777216) w
 clear q
 go_wp2_with fail
 go_ret
 exact ⟨by unfold jA;rw [u.o];rfl,(r0 _ _).alloc _⟩
set_option maxRecDepth 100000
theorem BK (a b:UInt8)(W:World):(convert 168 9 (.slice (so W.heap.size) 2 2)).run Tryz.prog (W.alloc (.cells #[.int .u8 a.toNat,.int .u8 b.toNat] 5)) =
  .ok (.string ⟨[a,b].toArray⟩) (W.alloc (.cells #[.int .u8 a.toNat,.int .u8 b.toNat] 5)):=by
 refine run_convert_bytes_back _ 168 9 5 ⟨W.heap.size,0,none⟩ 2 [a,b] Tryz.underlying168 Tryz.underlying5 Tryz.underlying9 (fun j c=>?_)
 rw [Addr.add_lit,Nat.zero_add,aB (aC W _)]
 have:j=0\/j=1:=by simp at c;omega
 rcases this with rfl|rfl <;> rfl
theorem IZ (s:UInt8)(w:World) :
  Cs 83 #[.int .u8 s.toNat] w fun e c=>e=.returned (.string ⟨[75,s].toArray⟩)/\Fr [] w c:=by
 have b:=BK 75 s w
 have a:((75:UInt8).toNat:Int)=75:=rfl
 rw [a] at b
 clear a
 go_enter Tryz.func83,Tryz.ntmps83
 go_wp2_with fail
 go_ret
 exact ⟨rfl,(r0 _ _).alloc _⟩
theorem FJ (l:List UInt8)(w:World)(hl:l.length<=1000000000):∃ v f,(convert 9 168 (.string ⟨l.toArray⟩)).run Tryz.prog w=.ok v f/\ownM f w.heap.size v l/\v.ownBlock=some w.heap.size/\Fr [] w f:=by
 have g:=Lib.run_convert_string_bytes (P:=Tryz.prog) w 9 168 5 ⟨l.toArray⟩ Tryz.underlying9 Tryz.underlying168 Tryz.underlying5
 have hn:=Lib.bytesWorld_at_new w 5 ⟨l.toArray⟩
 have b:(⟨l.toArray⟩:ByteArray).size=l.length:=rfl
 have e:=grownCap_ge w l.length 0 5
 have d:grownCap w l.length 0 5<=maxLen:=grownCap_le_maxLen w l.length 0 5 (by unfold maxLen;omega)
 have a:(Lib.bytesCells w 5 ⟨l.toArray⟩).size=grownCap w l.length 0 5:=by
  simp [Lib.bytesCells,b]
  omega
 refine ⟨_,_,g,.inr ⟨w.heap.size,grownCap w l.length 0 5,rfl,Nat.le_refl _,by rw [Lib.bytesWorld_size];omega,e,d,fun j c=>⟨?_,?_⟩,fun j c=>?_⟩,rfl,⟨rfl,rfl,rfl,by rw [Lib.bytesWorld_size];omega,fun i hi _=>Lib.bytesWorld_at_old w _ _ i hi⟩⟩
 ·simp only [World.cell?,hn]
  rw [Array.getElem?_eq_getElem (by rw [a];exact c)]
  rfl
 ·simp only [World.frozen?,hn,a]
  simp
  omega
 have:=Lib.bytesWorld_cell w 5 ⟨l.toArray⟩ j (by rw [b];exact c)
 rw [this]
 simp [gD,getD_eq_getElem?_getD,c]
def fG (s:UInt8)(c:List UInt8):List UInt8:=[75,s] ++ bL c.length ++ c
def bU (s:UInt8)(c:List UInt8):List UInt8:=fG s c ++ jA (fG s c)
theorem vN (s:UInt8)(c:List UInt8)(w:World)(hc:c.length<=100000) :
  Cs 44 #[.int .u8 s.toNat,.string ⟨c.toArray⟩] w fun e a=>e=.returned (.string ⟨(bU s c).toArray⟩)/\Fr [] w a:=by
 obtain ⟨K,l⟩:∃ K:ByteArray,K=⟨c.toArray⟩:=⟨_,rfl⟩
 have ad:K.size=c.length:=by rw [l];rfl
 rw [<- l]
 have M:=aA l
 clear l
 go_enter Tryz.func44,Tryz.ntmps44
 go_wp2_with fail
 refine Calls.mono (IZ s w) ?_
 rintro e m ⟨rfl,N⟩
 obtain ⟨X,A,E,d,h,O⟩:=FJ [75,s] m (by simp)
 obtain ⟨hd,I⟩:∃ hd:ByteArray,hd=⟨[75,s].toArray⟩:=⟨_,rfl⟩
 rw [<- I] at E |-
 clear I
 have r:Hi (ownM A m.heap.size X [75,s]):=d
 clear d
 have aa:m.heap.size < A.heap.size:=(r.o.base h).2
 go_wp2_with fail
 have B:=nL m.heap.size A.heap.size 0 1 X [75,s] [(c.length:Int)] (A.alloc (.cells #[ii (c.length:Int)] 3)) (r.o.fr ((r0 [] A).alloc _) (by simp)) (fun n hn=>by
   have:n=(c.length:Int):=by simpa using hn
   omega)
  (fun j hj=>by
   have S:j=0:=by simpa using hj
   subst S
   rw [aB (aC A _)]
   rfl)
  (by rw [h];intro e;have:=Option.some.inj e;omega) (by simp) (by simp) (by simp;omega) (by simp)
 refine Calls.mono B ?_
 rintro e w3 ⟨v3,rfl,u⟩
 clear B
 have F:Fr [] m w3:=(O.alloc _).trans u.fr (fun i hi=>.inr (by
  have:X.ownBlock=some i:=by simpa [iD] using hi
  rw [h] at this
  have:=Option.some.inj this
  omega))
 have H:aP [(c.length:Int)]=bL c.length:=by simp [aP]
 have v:=u.own
 rw [H] at v
 have V:([75,s] ++ bL c.length).length<=10:=by
  have:=iL 5 c.length (by omega) (by omega)
  rw [length_append]
  show 2+_<=_
  omega
 have t:Hi (ownM w3 m.heap.size v3 ([75,s] ++ bL c.length)):=v
 have J:=F.size
 clear u v H
 go_wp2_with (at_builtin;refine BT rfl _ _ rfl m.heap.size v3 ([75,s] ++ bL c.length) c rfl t.o (show Value.string K=_ by rw [M.o]) (by omega) J ?_;intro Y z f b D)
 have x:ownM z m.heap.size Y (fG s c):=f
 have Q:Fr [] m z:=gW F b (fun g hg=>.inr (t.o.base hg).1)
 have W:(fG s c).length<=200000:=by unfold fG;rw [length_append];omega
 have k:=fun a=>EY (fG s c) a (by omega)
 have y:=qI (fG s c)
 have q:Hi (bU s c=fG s c ++ jA (fG s c)):=rfl
 obtain ⟨P,hP⟩:∃ P,P=fG s c:=⟨_,rfl⟩
 rw [<- hP] at x k y W q
 obtain ⟨C,hC⟩:∃ C,C=jA P:=⟨_,rfl⟩
 rw [<- hC] at k y q
 have HS:∀ a,Fr [] z a->(fun a:World=>(convert 168 9 Y).run Tryz.prog a=.ok (.string ⟨P.toArray⟩) a/\Fr [] z a) a:=fun a hf=>⟨(x.fr hf (by simp)).string,hf⟩
 have K0:=HS _ (r0 [] z).drew
 have ac:(⟨P.toArray⟩:ByteArray).size=P.length:=rfl
 have ab:(⟨C.toArray⟩:ByteArray).size=4:=y
 have L:=aA k
 clear hP hC x f b D t r E k h V
 go_region_held (fun a:World=>(convert 168 9 Y).run Tryz.prog a=.ok (.string ⟨P.toArray⟩) a/\Fr [] z a)
  (first|with_reducible exact K0|with_reducible exact HS _ p)
  (first|(go_at_call 84;refine Calls.mono (L.o _) ?_;rintro e w5 ⟨rfl,R⟩;have p:Fr [] z w5:=Fr.then0 (And.right (by assumption)) R))
 all_goals
  go_wp2_with fail
  go_ret
  refine ⟨?_,(N.then0 Q).then0 p⟩
  rw [q.o]
  show Ending.returned (.string (⟨P.toArray⟩ ++ ⟨C.toArray⟩))=_
  rw [ByteArray.mk_append_mk]
theorem OQ (s:UInt8)(c:List UInt8):fG s c=75 :: s :: (bL c.length ++ c):=by
 unfold fG
 simp
theorem mF (s:UInt8)(c:List UInt8)(a:c.length<=40000):(bU s c).length<=c.length+11/\0 < (bU s c).length:=by
 have:=iL 5 c.length (by omega) (by omega)
 unfold bU
 rw [OQ,length_append,qI]
 simp
 omega
theorem JD (a b:Nat)(d:a < 4294967296)(hb:b < 4294967296):bits .xor .i64 (a:Int) (b:Int)=((a ^^^ b:Nat):Int):=by
 have hx:a ^^^ b < 2 ^ 32:=Nat.xor_lt_two_pow (by omega) (by omega)
 have h1:(BitVec.ofInt 64 (a:Int)).toNat=a:=by
  rw [BitVec.ofInt_natCast,BitVec.toNat_ofNat];exact Nat.mod_eq_of_lt (by omega)
 have c:(BitVec.ofInt 64 (b:Int)).toNat=b:=by
  rw [BitVec.ofInt_natCast,BitVec.toNat_ofNat];exact Nat.mod_eq_of_lt (by omega)
 show IntKind.i64.wrap ((BitVec.ofInt 64 (a:Int) ^^^ BitVec.ofInt 64 (b:Int)).toNat:Int)=_
 rw [BitVec.toNat_xor,h1,c,IntKind.wrap_i64]
 omega
theorem BZ (a b:Int)(h1:0<=a)(d:a<=4294967295)(c:0<=b)(e:b<=4294967295):bits .xor .i64 a b=bits .xor .u32 a b:=by
 rw [u32_xor a b h1 (by omega) c (by omega)]
 have:=JD a.toNat b.toNat (by omega) (by omega)
 rw [show ((a.toNat:Nat):Int)=a by omega,show ((b.toNat:Nat):Int)=b by omega] at this
 exact this
theorem FL (Z:Int)(h1:0<=Z)(a:Z<=4294967295)(h:Z % 2=1):bits .xor .i64 (Z / 2) 3988292384=gE Z:=by
 unfold gE
 rw [BZ _ _ (by omega) (by omega) (by omega) (by omega),u32_and Z 1 h1 (by omega) (by omega) (by omega)]
 have:Z.toNat &&& (1:Int).toNat=1:=by
  show Z.toNat &&& 1=1
  rw [Nat.and_one_is_mod]
  omega
 rw [this]
 rfl
theorem FK (Z:Int)(h1:0<=Z)(a:Z<=4294967295)(h:¬ Z % 2=1):Z / 2=gE Z:=by
 unfold gE
 rw [u32_and Z 1 h1 (by omega) (by omega) (by omega)]
 have:Z.toNat &&& (1:Int).toNat=0:=by
  show Z.toNat &&& 1=0
  rw [Nat.and_one_is_mod]
  omega
 rw [this]
 show Z / 2=bits .xor .u32 (Z / 2) 0
 rw [u32_xor _ 0 (by omega) (by omega) (by omega) (by omega)]
 show Z / 2=(((Z / 2).toNat ^^^ 0:Nat):Int)
 rw [Nat.xor_zero]
 omega
theorem FM (Z:Int)(h1:0<=Z)(b:Z<=4294967295):4294967295 - Z=bits .xor .u32 IntKind.u32.max Z:=by
 have e:IntKind.u32.max=4294967295:=by decide
 rw [e,u32_xor _ Z (by omega) (by omega) h1 (by omega)]
 have hz:Z.toNat < 2 ^ 32:=by omega
 have:(4294967295:Int).toNat ^^^ Z.toNat=4294967295 - Z.toNat:=by
  have a:(BitVec.allOnes 32 ^^^ BitVec.ofNat 32 Z.toNat).toNat=4294967295 - Z.toNat:=by
   rw [BitVec.allOnes_xor,BitVec.toNat_not,BitVec.toNat_ofNat,Nat.mod_eq_of_lt hz]
  rw [BitVec.toNat_xor,BitVec.toNat_allOnes,BitVec.toNat_ofNat,Nat.mod_eq_of_lt hz] at a
  exact a
 rw [this]
 omega
theorem QB (l:List UInt8)(w:World)(hl:l.length<=100000000) :
  Cs 144 #[.string ⟨l.toArray⟩] w fun e M=>e=.returned (.string ⟨(jA l).toArray⟩)/\Fr [] w M:=by
 obtain ⟨m,f⟩:∃ m:ByteArray,m=⟨l.toArray⟩:=⟨_,rfl⟩
 have L:m.size=l.length:=by rw [f];rfl
 have H:Hi (∀ k (h1:k < l.length) (E:k < m.size),(m[k]'E).toNat=(l[k]'h1).toNat):=fun k h1 E=>by subst f;rfl
 rw [<- f]
 clear f
 go_enter Tryz.func144,Tryz.ntmps144
 go_wp2_with fail
 go_loopw [3,4] (fun s i wr=>∃ (k:Nat) (S:Int),k<=l.length/\i=.int .i64 k/\s=.int .i64 S/\(0<=S/\S<=4294967295)/\Hi (S=iS l k)/\w=wr) (fun _ i _=>l.length - (intOf i).toNat)
 case atStart=>exact ⟨0,4294967295,by omega,rfl,rfl,by omega,rfl,rfl⟩
 obtain ⟨k,S,R,rfl,rfl,F,p,rfl⟩:=hrel
 by_cases a:k < l.length
 ·have q:k < m.size:=by omega
  obtain ⟨b,d⟩:∃ b:Nat,(l[k]'a).toNat=b:=⟨_,rfl⟩
  have hb:(m[k]'q).toNat=b:=(H.o k a q).trans d
  have J:b < 256:=by rw [<- d];exact (l[k]'a).toNat_lt
  have x:Hi (iS l (k+1)=gP 8 (bits .xor .u32 S (b:Int))):=by
   show gP 8 (bits .xor .u32 (iS l k) (((l[k]?.map UInt8.toNat).getD 0:Nat):Int))=_
   rw [getElem?_eq_getElem a,<- p.o]
   show gP 8 (bits .xor .u32 S (((l[k]'a).toNat:Nat):Int))=_
   rw [d]
  have A:=BZ S b (by omega) (by omega) (by omega) (by omega)
  clear d
  go_wp2_with fail
  go_loopw [3,5] (fun s i wr=>∃ (j:Nat) (Z:Int),j<=8/\i=.int .i64 j/\s=.int .i64 Z/\(0<=Z/\Z<=4294967295)/\Hi (Z=gP j (bits .xor .u32 S (b:Int)))/\w=wr) (fun _ i _=>8 - (intOf i).toNat)
  case atStart=>exact ⟨0,_,by omega,rfl,by first|rfl|rw [A],by first|exact lR _ _ _|(rw [A];exact lR _ _ _),by first|exact (aA rfl)|exact (aA A),rfl⟩
  obtain ⟨j,Z,Q,rfl,rfl,h,g,rfl⟩:=hrel
  by_cases K:j < 8
  ·have t:(j:Int) < 8:=by omega
   have V:Z.tdiv 2=Z / 2:=Int.tdiv_eq_ediv_of_nonneg h.1
   have hm:Z.tmod 2=Z % 2:=Int.tmod_eq_emod_of_nonneg h.1
   by_cases h1:Z % 2=1
   ·have r:=FL Z h.1 h.2 h1
    have y:(Z % 2==1)=true:=by simpa using h1
    have n:=aA r
    clear r h1
    go_wp2_with fail
    go_roundw
    case rel=>exact ⟨j+1,gE Z,by omega,by go_num,by rw [<- n.o],lR _ _ _,(by show gE Z=gE (gP j _);rw [g.o]),trivial⟩
    case measure=>simp [intOf];omega
   have r:=FK Z h.1 h.2 h1
   have y:(Z % 2==1)=false:=by simpa using h1
   have n:=aA r
   clear r h1
   go_wp2_with fail
   go_roundw
   case rel=>exact ⟨j+1,gE Z,by omega,by go_num,by rw [<- n.o],lR _ _ _,(by show gE Z=gE (gP j _);rw [g.o]),trivial⟩
   case measure=>simp [intOf];omega
  have t:¬ (j:Int) < 8:=by omega
  have u:j=8:=by omega
  have I:=aA u
  clear u
  go_wp2_with fail
  go_roundw
  case rel=>exact ⟨k+1,Z,a,by go_num,rfl,h,(by show Z=_;rw [x.o,g.o,I.o]),trivial⟩
  case measure=>simp [intOf];omega
 have v:k=l.length:=by omega
 obtain ⟨C,z⟩:∃ C,C=4294967295 - S:=⟨_,rfl⟩
 have c:0<=C/\C<=4294967295:=by omega
 have n:Hi (kZ l=C):=by show bits .xor .u32 IntKind.u32.max (iS l l.length)=_;rw [z,FM S F.1 F.2,p.o,v]
 have W:C.tmod 256=C % 256:=Int.tmod_eq_emod_of_nonneg c.1
 have N:C.tdiv 256=C / 256:=Int.tdiv_eq_ediv_of_nonneg c.1
 have O:C.tdiv 65536=C / 65536:=Int.tdiv_eq_ediv_of_nonneg c.1
 have P:C.tdiv 16777216=C / 16777216:=Int.tdiv_eq_ediv_of_nonneg c.1
 have X:(C / 256).tmod 256=C / 256 % 256:=Int.tmod_eq_emod_of_nonneg (by omega)
 have Y:(C / 65536).tmod 256=C / 65536 % 256:=Int.tmod_eq_emod_of_nonneg (by omega)
 have B:=vM C (C / 256) (C / 65536) (C / 16777216) w
 have D:Hi (C / 16777216 % 256=C / 16777216):=by show _=_;omega
 rw [D.o] at B
 have w0:C % 256 % 256=C % 256:=by omega
 have w1:C / 256 % 256 % 256=C / 256 % 256:=by omega
 have w2:C / 65536 % 256 % 256=C / 65536 % 256:=by omega
 have hs:4294967295 - S=C:=z.symm
 clear v z
 go_wp2_with fail
 go_ret
 exact ⟨by unfold jA;rw [n.o,D.o];rfl,(r0 _ _).alloc _⟩
theorem zJ (n:Nat)(h:n<=10000000000)(w:World):Cs 101 #[.int .i64 n] w fun e a=>e=.returned (.string ⟨(bL n).toArray⟩)/\Fr [] w a :=
  Calls.mono (rY 4 n (by omega) (by omega) w) fun _ _ h=>h
theorem zH (s:Nat)(hs:s < 128)(c:List UInt8)(x:c.length<=50000000)(w:World) :
  Cs 107 #[.int .i64 s,.string ⟨c.toArray⟩] w fun e r=>e=.returned (.string ⟨(bU (UInt8.ofNat s) c).toArray⟩)/\Fr [] w r:=by
 have l:=zJ s (by omega)
 have m:=zJ c.length (by omega)
 obtain ⟨b,h1⟩:∃ B:ByteArray,B=⟨(bL s).toArray⟩:=⟨_,rfl⟩
 obtain ⟨d,h⟩:∃ B:ByteArray,B=⟨(bL c.length).toArray⟩:=⟨_,rfl⟩
 obtain ⟨f,a⟩:∃ B:ByteArray,B=⟨c.toArray⟩:=⟨_,rfl⟩
 have J:b.size<=6:=by rw [h1];exact iL 6 s (by omega) (by omega)
 have L:d.size<=6:=by rw [h];exact iL 6 c.length (by omega) (by omega)
 have z3:f.size=c.length:=by rw [a];rfl
 have i:Hi ((⟨#[75]⟩:ByteArray) ++ b ++ d ++ f=⟨(fG (UInt8.ofNat s) c).toArray⟩):=by
  show _=_
  rw [h1,h,a,show (⟨#[75]⟩:ByteArray)=⟨([75]:List UInt8).toArray⟩ from rfl,jO,jO,jO,kL hs]
  rfl
 have C:=QB (fG (UInt8.ofNat s) c)
 have g:(fG (UInt8.ofNat s) c).length<=100000000:=by
  have:=congrArg ByteArray.size i.o
  have e:(⟨(fG (UInt8.ofNat s) c).toArray⟩:ByteArray).size=(fG (UInt8.ofNat s) c).length:=rfl
  rw [e] at this
  simp only [ByteArray.size_append] at this
  have v:(⟨#[75]⟩:ByteArray).size=1:=rfl
  omega
 obtain ⟨K,hK⟩:∃ B:ByteArray,B=⟨(jA (fG (UInt8.ofNat s) c)).toArray⟩:=⟨_,rfl⟩
 have M:K.size=4:=by rw [hK];rfl
 have u:Hi (∀ F:ByteArray,F=((⟨#[75]⟩:ByteArray) ++ b ++ d ++ f) ++ K->F=⟨(bU (UInt8.ofNat s) c).toArray⟩):=fun F e=>by rw [e,i.o,hK,jO];rfl
 have t:Hi (∀ w,Cs 144 #[.string ((⟨#[75]⟩:ByteArray) ++ b ++ d ++ f)] w fun e r=>e=.returned (.string K)/\Fr [] w r):=fun w=>by rw [i.o,hK];exact C w g
 rw [<- h1] at l
 rw [<- h] at m
 rw [<- a]
 have j:=aA l
 have k:=aA m
 have y:1+b.size<=9223372036854775807:=by omega
 have z:1+b.size+d.size<=9223372036854775807:=by omega
 have A:1+b.size+d.size+f.size<=9223372036854775807:=by omega
 have D:1+b.size+d.size+f.size+K.size<=9223372036854775807:=by omega
 clear l m h1 h a hK C i g
 go_enter Tryz.func107,Tryz.ntmps107
 go_wp2_with fail
 refine Calls.mono (j.o _) ?_
 rintro e E ⟨rfl,n⟩
 go_wp2_with fail
 refine Calls.mono (k.o _) ?_
 rintro e H ⟨rfl,p⟩
 go_wp2_with fail
 refine Calls.mono (t.o _) ?_
 rintro e I ⟨rfl,q⟩
 go_wp2_with fail
 go_ret
 exact ⟨by rw [<- u.o _ rfl];rfl,(n.then0 p).then0 q⟩
