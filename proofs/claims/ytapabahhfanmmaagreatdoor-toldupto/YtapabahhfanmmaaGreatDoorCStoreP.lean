import Derived.Laws.Bits64b
import Derived.Maps.AppendAt
import Derived.ArgAppend
import Derived.Lib.AppendStr
import Derived.Laws.IdiomCopy
import Derived.Test.YtapabahhfanmmaaGreatDoorCBfs
namespace Go.Proofs.YtapabahhfanmmaaGreatDoor
open Go.RowKit
def numF : Nat → Nat → List UInt8
 | 0, _ => []
 | f + 1, n => if n < 128 then [UInt8.ofNat n] else UInt8.ofNat (n % 128 + 128) :: numF f (n / 128)
def zk3 (n : Nat) : List UInt8 := numF (n + 1) n
theorem numF_is : ∀ f g n, n < f → n < g → numF f n = numF g n
 | f + 1, g + 1, n, hf, hg => by
  unfold numF
  split
  · rfl
  · rw [numF_is f g (n / 128) (by omega) (by omega)]
theorem jq5 {n:Nat}(h:n < 128):zk3 n=[UInt8.ofNat n]:=by rw [zk3, numF, if_pos h]
theorem jv8 {n:Nat}(h:¬ n < 128):zk3 n=UInt8.ofNat (n % 128+128) :: zk3 (n / 128):=by rw [zk3, numF, if_neg h, numF_is n (n / 128 + 1) _ (by omega) (by omega), zk3]
def yz1:Nat->Nat->Nat->List UInt8->Nat×Nat
 | 0,_,_,_=>(0,0)
 | _+1,_,_,[]=>(0,0)
 | f+1,i,s,b :: l =>
  if 128<=b.toNat then yz1 f (i+1) (s+b.toNat % 128*128 ^ i) l
  else if (b.toNat=0/\0 < i)\/1000000000 < s+b.toNat % 128*128 ^ i then (0,0) else (s+b.toNat % 128*128 ^ i,i+1)
def qw4 (l:List UInt8):Nat×Nat:=yz1 5 0 0 l
theorem fq3 (l:List UInt8):∀ (f i s n:Nat),0 < f->n < 128 ^ f->(0 < i->0 < n)->s+n*128 ^ i<=1000000000->yz1 f i s (zk3 n ++ l)=(s+n*128 ^ i,i+(zk3 n).length)
 | 0,_,_,_,h,_,_,_=>by omega
 | f+1,i,s,n,_,h,hi,hs=>by
  by_cases hn:n < 128
  ·rw [jq5 hn]
   have hb:(UInt8.ofNat n).toNat=n:=by simp [UInt8.toNat_ofNat'];omega
   show (if 128<=(UInt8.ofNat n).toNat then _ else _)=_
   rw [hb,if_neg (by omega),Nat.mod_eq_of_lt hn,if_neg]
   ·rfl
   ·intro hh
    rcases hh with ⟨a,b⟩|a
    ·have:=hi b;omega
    ·omega
  ·rw [jv8 hn]
   have hb:(UInt8.ofNat (n % 128+128)).toNat=n % 128+128:=by simp [UInt8.toNat_ofNat'];omega
   show (if 128<=(UInt8.ofNat (n % 128+128)).toNat then _ else _)=_
   rw [hb,if_pos (by omega)]
   have e:n % 128*128 ^ i+n / 128*128 ^ (i+1)=n*128 ^ i:=by
    rw [Nat.pow_succ,Nat.mul_comm (128 ^ i) 128,<- Nat.mul_assoc,<- Nat.add_mul]
    congr 1
    omega
   have hm:(n % 128+128) % 128=n % 128:=by omega
   have h2:n / 128 < 128 ^ f:=by rw [Nat.pow_succ] at h;omega
   have h3:0 < f:=by
    rcases Nat.eq_zero_or_pos f with e0|e0
    ·subst e0;simp at h2;omega
    ·exact e0
   rw [hm]
   show yz1 f (i+1) (s+n % 128*128 ^ i) (zk3 (n / 128) ++ l)=_
   rw [fq3 l f (i+1) (s+n % 128*128 ^ i) (n / 128) h3 h2 (fun _=>by omega) (by omega)]
   apply Prod.ext
   ·dsimp only;omega
   ·simp only [List.length_cons];omega
theorem xj6 (n:Nat)(l:List UInt8)(h:n<=1000000000):qw4 (zk3 n ++ l)=(n,(zk3 n).length):=by
 have:=fq3 l 5 0 0 n (by omega) (by omega) (by omega) (by omega)
 simpa [qw4] using this
theorem jk2 (n:Nat):0 < (zk3 n).length:=by
 by_cases h:n < 128
 ·rw [jq5 h];simp
 ·rw [jv8 h];simp
theorem jv9:∀ (f n:Nat),n < 128 ^ f->0 < f->(zk3 n).length<=f
 | 0,_,_,h=>by omega
 | f+1,n,h,_=>by
  by_cases hn:n < 128
  ·rw [jq5 hn];simp
  ·rw [jv8 hn]
   have h2:n / 128 < 128 ^ f:=by rw [Nat.pow_succ] at h;omega
   have:0 < f:=by
    rcases Nat.eq_zero_or_pos f with e|e
    ·subst e;simp at h2;omega
    ·exact e
   have:=jv9 f (n / 128) h2 this
   simp;omega
def qw5 (ns:List Int):List UInt8:=ns.flatMap fun n=>zk3 n.toNat
theorem fk4:qw5 []=[]:=rfl
theorem zy8 (n:Int)(ns:List Int):qw5 (n :: ns)=zk3 n.toNat ++ qw5 ns:=rfl
theorem zj7 (a b:List Int):qw5 (a ++ b)=qw5 a ++ qw5 b:=List.flatMap_append
theorem zy3:∀ ns:List Int,(∀ n∈ns,n<=1000000000)->(qw5 ns).length<=5*ns.length
 | [],_=>by simp [qw5]
 | n :: ns,h=>by
  have h1:=zy3 ns (fun m hm=>h m (by simp [hm]))
  have h2:=jv9 5 n.toNat (by have:=h n (by simp);omega) (by omega)
  rw [zy8,List.length_append,List.length_cons]
  omega
def yy0 (b:UInt8):Value:=.int .u8 (b.toNat:Int)
def zj4 (l:List UInt8):List Value:=l.map yy0
theorem vy3 (a b:List UInt8):zj4 (a ++ b)=zj4 a ++ zj4 b:=List.map_append
theorem qxz4 (x:Nat)(h:x < 128):bits .or .u8 (x:Int) 128=((x+128:Nat):Int):=by
 have:∀ x:Fin 128,bits .or .u8 ((x.val:Nat):Int) 128=((x.val+128:Nat):Int):=by decide
 exact this ⟨x,h⟩
theorem fx9 (n:Nat):yy0 (UInt8.ofNat (n % 128+128))=.int .u8 ((n % 128+128:Nat):Int):=by
 unfold yy0
 have hb:(UInt8.ofNat (n % 128+128)).toNat=n % 128+128:=by simp [UInt8.toNat_ofNat'];omega
 rw [hb]
theorem fx8 (n:Nat)(h:n < 128):yy0 (UInt8.ofNat n)=.int .u8 (n:Int):=by
 unfold yy0
 have hb:(UInt8.ofNat n).toNat=n:=by simp [UInt8.toNat_ofNat'];omega
 rw [hb]
theorem dv5 (s x i:Nat)(hs:s < 128 ^ i)(hx:x < 128)(hi:i < 5):bits .or .u64 (s:Int) ((x*128 ^ i:Nat):Int)=((s+x*128 ^ i:Nat):Int):=by
 have hp:128 ^ i<=128 ^ 4:=Nat.pow_le_pow_right (by omega) (by omega)
 have h1:x*128 ^ i<=127*128 ^ 4:=Nat.mul_le_mul (by omega) hp
 rw [bits_or_u64_nat _ _ (by omega) (by omega)]
 congr 1
 have h2:128 ^ i=2 ^ (7*i):=by rw [Nat.pow_mul]
 rw [h2] at hs |-
 rw [<- Nat.shiftLeft_eq,Nat.or_comm,<- Nat.shiftLeft_add_eq_or_of_lt hs,Nat.add_comm]
end Go.Proofs.YtapabahhfanmmaaGreatDoor
namespace Go.Proofs.YtapabahhfanmmaaGreatDoor
open Go.RowKit Go.Lib
theorem kq5 {w:World}{b o:Nat}{cs:Array Value}{ty:TypeId}{fz:Nat×Nat}(h:w.heap[b]?=some (.cells cs ty fz))(v:Value):(w.setCell ⟨b,o,none⟩ v).heap[b]?=some (.cells (cs.setIfInBounds o v) ty fz):=by
 rw [setCell_eq_setRow w b o cs ty fz v h]
 exact setRow_heap w b cs _ ty fz h
end Go.Proofs.YtapabahhfanmmaaGreatDoor
