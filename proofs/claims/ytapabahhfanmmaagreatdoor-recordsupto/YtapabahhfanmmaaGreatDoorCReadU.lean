import Derived.Test.YtapabahhfanmmaaGreatDoorCStoreP
namespace Go.Proofs.YtapabahhfanmmaaGreatDoor
open Go.RowKit List
set_option maxRecDepth 100000
set_option maxHeartbeats 2000000
theorem IG {l:List UInt8}{k S b:Nat}(h1:k < l.length)(a:k < 5)(hb:(l[k]'h1).toNat=b)(hm:128<=b):gG (5 - k) k S (l.drop k)=gG (5 - (k+1)) (k+1) (S+b % 128*128 ^ k) (l.drop (k+1)):=by
 rw [drop_eq_getElem_cons h1,show 5 - k=(5 - (k+1))+1 by omega]
 show (if 128<=(l[k]'h1).toNat then _ else _)=_
 rw [hb,if_pos hm]
theorem IF {l:List UInt8}{k S b:Nat}(h1:k < l.length)(a:k < 5)(hb:(l[k]'h1).toNat=b)(hm:¬ 128<=b):gG (5 - k) k S (l.drop k)=if (b=0/\0 < k)\/1000000000 < S+b*128 ^ k then (0,0) else (S+b*128 ^ k,k+1):=by
 rw [drop_eq_getElem_cons h1,show 5 - k=(5 - (k+1))+1 by omega]
 show (if 128<=(l[k]'h1).toNat then _ else if ((l[k]'h1).toNat=0/\0 < k)\/_ then _ else _)=_
 rw [hb,if_neg hm,Nat.mod_eq_of_lt (by omega)]
theorem IE {l:List UInt8}{k S:Nat}(h:¬ (k < l.length/\k < 5)):gG (5 - k) k S (l.drop k)=(0,0):=by
 by_cases a:k < 5
 ·rw [drop_eq_nil_of_le (by omega),show 5 - k=(5 - (k+1))+1 by omega];rfl
 rw [show 5 - k=0 by omega];rfl
theorem MQ (S b k:Nat)(d:S < 128 ^ k)(e:k < 5):bits .or .u64 (S:Int) (IntKind.u64.wrap ((b:Int) % 128*2 ^ (7*k)))=((S+b % 128*128 ^ k:Nat):Int):=by
 have a:(128 ^ k:Nat)=2 ^ (7*k):=by rw [Nat.pow_mul]
 have f:128 ^ k<=128 ^ 4:=Nat.pow_le_pow_right (by omega) (by omega)
 have g:b % 128*128 ^ k<=127*128 ^ 4:=Nat.mul_le_mul (by omega) f
 have c:((b:Int) % 128*2 ^ (7*k))=((b % 128*128 ^ k:Nat):Int):=by rw [a];push_cast;rfl
 rw [c,IntKind.wrap_u64,Int.emod_eq_of_lt (by omega) (by omega)]
 exact MP S (b % 128) k d (by omega) e
theorem TH {S b k:Nat}(d:S < 128 ^ k)(e:k < 5):S+b % 128*128 ^ k < 128 ^ (k+1)/\S+b % 128*128 ^ k < 34359738368:=by
 have a:128 ^ (k+1)<=128 ^ 5:=Nat.pow_le_pow_right (by omega) (by omega)
 have c:b % 128*128 ^ k<=127*128 ^ k:=Nat.mul_le_mul (by omega) (Nat.le_refl _)
 rw [Nat.pow_succ] at a |-
 omega
theorem GQ (l:List UInt8)(w:World)(hl:l.length<=2000000) :
  Cs 170 #[.string ⟨l.toArray⟩] w fun e R =>
   e=.returned (.tuple #[.int .i64 (fU l).1,.int .i64 (fU l).2])/\Fr [] w R:=by
 obtain ⟨n,g⟩:∃ n:ByteArray,n=⟨l.toArray⟩:=⟨_,rfl⟩
 have Q:n.size=l.length:=by rw [g];rfl
 have M:Hi (∀ k (h1:k < l.length) (j:k < n.size),(n[k]'j).toNat=(l[k]'h1).toNat):=fun k h1 j=>by subst g;rfl
 rw [<- g]
 obtain ⟨F,z⟩:∃ F,fU l=F:=⟨_,rfl⟩
 rw [z]
 have y:=aA z
 clear g z
 go_enter Tryz.func170,Tryz.ntmps170
 go_wp2_with fail
 all_goals
  go_loopw [4,10] (fun s i wr=>∃ k S:Nat,k<=5/\k<=l.length/\i=.int .i64 k/\s=.int .u64 S/\S < 128 ^ k/\Hi (F=gG (5 - k) k S (l.drop k))/\w=wr) (fun _ i _=>5 - (intOf i).toNat)
  case atStart=>exact ⟨0,0,by omega,by omega,rfl,rfl,by omega,y.o.symm,rfl⟩
  obtain ⟨k,S,O,P,rfl,rfl,J,x,rfl⟩:=hrel
  by_cases u:k < l.length/\k < 5
  ·obtain ⟨h1,j⟩:=u
   have q:k < n.size:=by omega
   obtain ⟨b,f⟩:∃ b:Nat,(l[k]'h1).toNat=b:=⟨_,rfl⟩
   have hb:(n[k]'q).toNat=b:=(M.o k h1 q).trans f
   have N:b < 256:=by rw [<- f];exact (l[k]'h1).toNat_lt
   have H:=MQ S b k J j
   have v:=TH (b:=b) J j
   obtain ⟨S',m⟩:∃ S':Nat,S'=S+b % 128*128 ^ k:=⟨_,rfl⟩
   rw [<- m] at H v
   have I:=(show Hi _ from f)
   have p:=(show Hi _ from m)
   clear f m
   by_cases d:128<=b
   ·have E:¬ (b:Int) < 128:=by omega
    go_wp2_with fail
    go_roundw
    case rel=>exact ⟨k+1,S',by omega,by omega,by go_num,rfl,v.1,(show Hi _ from by show _=_;rw [x.o,IG h1 j I.o d,p.o]),trivial⟩
    case measure=>simp [intOf];omega
   have E:(b:Int) < 128:=by omega
   have h:=IF (S:=S) h1 j I.o d
   have r:S'=S+b*128 ^ k:=by rw [p.o,Nat.mod_eq_of_lt (by omega)]
   rw [<- x.o,<- r] at h
   have h:=aA h
   clear r
   by_cases t:1000000000 < S'
   ·have A:(1000000000:Int) < (S':Int):=by omega
    have a:F=(0,0):=by rw [h.o,if_pos (.inr t)]
    subst a
    go_wp2_with fail
    all_goals
     go_ret2
     exact ⟨rfl,r0 _ _⟩
   have A:¬ (1000000000:Int) < (S':Int):=by omega
   by_cases c:b=0
   ·by_cases C:k=0
    ·have a:F=(S',k+1):=by rw [h.o,if_neg (by omega)]
     have D:¬ (0:Int) < (k:Int):=by omega
     have B:((b:Int)==0)=true:=by simpa using c
     subst a
     clear c C
     go_wp2_with fail
     go_ret2
     exact ⟨rfl,r0 _ _⟩
    have a:F=(0,0):=by rw [h.o,if_pos (.inl ⟨c,by omega⟩)]
    have D:(0:Int) < (k:Int):=by omega
    have B:((b:Int)==0)=true:=by simpa using c
    subst a
    clear c
    go_wp2_with fail
    go_ret2
    exact ⟨rfl,r0 _ _⟩
   have a:F=(S',k+1):=by rw [h.o,if_neg (by omega)]
   have K:((b:Int)==0)=false:=by simpa using c
   have L:¬ (b:Int)=0:=by omega
   subst a
   go_wp2_with fail
   go_ret2
   exact ⟨by first|rfl|(congr 3;push_cast;rfl),r0 _ _⟩
  have a:F=(0,0):=by rw [x.o];exact IE u
  subst a
  go_wp2_with fail
  go_ret2
  exact ⟨rfl,r0 _ _⟩
set_option maxRecDepth 100000
structure RdAt (w:World) (rb:Nat) (l:List UInt8) (bad:Bool):Prop where
 all:w.heap[rb]?=some (.cells #[.string ⟨l.toArray⟩,.bool bad] 252)
theorem RdAt.fr {S:List Nat}{w c:World}{b:Nat}{l:List UInt8}{a:Bool}(h:RdAt w b l a)(d:Fr S w c)(hn:b∉S):RdAt c b l a:=⟨d.heap h.all hn⟩
theorem RdAt.lt {w:World}{b:Nat}{l:List UInt8}{a:Bool}(h:RdAt w b l a):b < w.heap.size:=aH h.all
theorem vR:∀ (f i s:Nat) (l:List UInt8),(gG f i s l).2<=i+l.length/\((gG f i s l).2=0\/i < (gG f i s l).2)/\(gG f i s l).1<=1000000000
 | 0,_,_,_=>⟨Nat.zero_le _,.inl rfl,Nat.zero_le _⟩
 | _+1,_,_,[]=>⟨Nat.zero_le _,.inl rfl,Nat.zero_le _⟩
 | f+1,i,s,b :: l=>by
  unfold gG
  split
  ·obtain ⟨h1,c,a⟩:=vR f (i+1) (s+b.toNat % 128*128 ^ i) l
   refine ⟨by simp only [length_cons];omega,by omega,a⟩
  split
  ·exact ⟨Nat.zero_le _,.inl rfl,Nat.zero_le _⟩
  refine ⟨by simp only [length_cons];omega,.inr (by dsimp only;omega),by dsimp only;omega⟩
theorem GT (l:List UInt8):(fU l).2<=l.length/\(fU l).1<=1000000000:=by
 obtain ⟨h1,_,a⟩:=vR 5 0 0 l
 exact ⟨by have:=h1;unfold fU;omega,a⟩
theorem TG (l:List UInt8)(n:Nat):Value.string ((⟨l.toArray⟩:ByteArray).extract n l.length)=.string ⟨(l.drop n).toArray⟩:=by
 congr 1
 apply ByteArray.ext
 simp [ByteArray.data_extract]
 exact take_of_length_le (by simp)
theorem AA {w:World}{b:Nat}{cs:Array Value}{t:TypeId}(h:w.heap[b]?=some (.cells cs t))(i:Nat)(x:Value):(w.setCell ⟨b,i,none⟩ x).heap[b]?=some (.cells (cs.setIfInBounds i x) t):=by
 rw [setCell_eq_setRow w b i cs t (0,0) x h]
 exact setRow_heap w b cs _ t (0,0) h
theorem LT (l:List UInt8)(w:World) :
  Cs 123 #[.string ⟨l.toArray⟩] w fun e b=>∃ a,e=.returned (.pointer (so a))/\w.heap.size<=a/\RdAt b a l false/\Fr [] w b:=by
 go_enter Tryz.func123,Tryz.ntmps123
 go_wp2_with fail
 go_ret
 exact ⟨_,rfl,Nat.le_refl _,⟨aC _ _⟩,(r0 _ _).alloc _⟩
theorem zQ (b:Nat)(l:List UInt8)(a:Bool)(w:World)(h:RdAt w b l a) :
  Cs 131 #[.pointer (so b)] w fun e c=>e=.returned (.bool (!a))/\Fr [] w c:=by
 have d:ca w b 1 (.bool a):=aB h.all
 go_enter Tryz.func131,Tryz.ntmps131
 go_wp2_with fail
 go_ret
 exact ⟨rfl,r0 _ _⟩
theorem LW (b:Nat)(l:List UInt8)(a:Bool)(w:World)(h:RdAt w b l a)(hl:l.length<=2000000) :
  Cs 124 #[.pointer (so b)] w fun e j=>e=.returned (.int .i64 (fU l).1)/\RdAt j b (l.drop (fU l).2) (a||(fU l).2==0)/\Fr [b] w j:=by
 have s:ca w b 0 (.string ⟨l.toArray⟩):=aB h.all
 have t:ca w b 1 (.bool a):=aB h.all
 have v:w.frozen? ⟨b,0,none⟩=false:=bI h.all
 have x:w.frozen? ⟨b,1,none⟩=false:=bI h.all
 obtain ⟨h1,g⟩:=GT l
 have f:=TG l (fU l).2
 have d:=GQ l w hl
 obtain ⟨⟨n,q⟩,i⟩:∃ F,fU l=F:=⟨_,rfl⟩
 rw [i] at h1 g f d |-
 dsimp only at h1 g f d |-
 have r:=h.lt
 have k:=aA h.all
 clear h i
 cases a
 all_goals
  go_enter Tryz.func124,Tryz.ntmps124
  go_wp2_with (go_at_call 170;refine Calls.mono d ?_;rintro e u ⟨rfl,c⟩;obtain ⟨m,p⟩:=c.cells0)
  go_ret
  refine ⟨rfl,⟨?_⟩,(c.of0.setCell _ _ (by simp)).setCell _ _ (by simp)⟩
  rw [AA (AA (c.heap0 k.o) _ _) _ _]
  first|rfl|(cases q <;> rfl)
theorem FZ (g:Nat)(l:List UInt8)(c:Bool)(w:World)(h:RdAt w g l c) :
  Cs 126 #[.pointer (so g)] w fun e m=>e=.returned (.bool (!c&&l.isEmpty))/\Fr [] w m:=by
 have i:=zQ g l c w h
 have k:=h.lt
 have n:ca w g 0 (.string ⟨l.toArray⟩):=aB h.all
 clear h
 cases c
 ·cases l with
  | nil =>
   go_enter Tryz.func126,Tryz.ntmps126
   go_wp2_with (go_at_call 131;refine Calls.mono i ?_;rintro e j ⟨rfl,a⟩;obtain ⟨d,f⟩:=a.cells0)
   go_ret
   exact ⟨rfl,a⟩
  | cons b l =>
   go_enter Tryz.func126,Tryz.ntmps126
   go_wp2_with (go_at_call 131;refine Calls.mono i ?_;rintro e j ⟨rfl,a⟩;obtain ⟨d,f⟩:=a.cells0)
   go_ret
   exact ⟨rfl,a⟩
 go_enter Tryz.func126,Tryz.ntmps126
 go_wp2_with (go_at_call 131;refine Calls.mono i ?_;rintro e j ⟨rfl,a⟩;obtain ⟨d,f⟩:=a.cells0)
 go_ret
 exact ⟨rfl,a⟩
def dK (l:List UInt8)(a:Bool):Nat->List UInt8×Bool
 | 0=>(l,a)
 | n+1=>((dK l a n).1.drop (fU (dK l a n).1).2,(dK l a n).2||(fU (dK l a n).1).2==0)
def dI (l:List UInt8)(a:Bool)(n:Nat):Int:=(fU (dK l a n).1).1
theorem yW (l:List UInt8)(a:Bool):∀ n,(dK l a n).1.length<=l.length
 | 0=>Nat.le_refl _
 | n+1=>by
  have:=yW l a n
  show ((dK l a n).1.drop _).length<=_
  rw [length_drop]
  omega
theorem rW:∀ (n:Nat) (ns:List Int) (rest:List UInt8),n<=ns.length->(∀ x∈ns,0<=x/\x<=1000000000)->dK (aP ns ++ rest) false n=(aP (ns.drop n) ++ rest,false)
 | 0,_,_,_,_=>rfl
 | n+1,ns,rest,h,hb=>by
  have e:=rW n ns rest (by omega) hb
  have hx:=drop_eq_getElem_cons (show n < ns.length by omega)
  have c:=hb _ (getElem_mem (show n < ns.length by omega))
  have d:fU (aP (ns.drop n) ++ rest)=(ns[n].toNat,(bL ns[n].toNat).length):=by
   rw [hx,jE,append_assoc]
   exact vA _ _ (by omega)
  show (_,_)=_
  rw [e]
  dsimp only
  rw [d]
  dsimp only
  have b:=oI ns[n].toNat
  rw [hx,jE,append_assoc,drop_left]
  have a:((bL ns[n].toNat).length==0)=false:=by simp;intro h;rw [h] at b;simp at b
  rw [a]
  rfl
theorem MB (n:Nat)(ns:List Int)(rest:List UInt8)(h:n < ns.length)(hb:∀ x∈ns,0<=x/\x<=1000000000):dI (aP ns ++ rest) false n=ns[n]:=by
 unfold dI
 rw [rW n ns rest (by omega) hb]
 have a:=hb _ (getElem_mem h)
 rw [drop_eq_getElem_cons h,jE,append_assoc,vA _ _ (by omega)]
 dsimp only
 omega
theorem LY (b:Nat)(l:List UInt8)(a:Bool)(n:Nat)(w:World)(h:RdAt w b (dK l a n).1 (dK l a n).2)(hl:l.length<=2000000) :
  Cs 124 #[.pointer (so b)] w fun e c=>e=.returned (.int .i64 (dI l a n))/\RdAt c b (dK l a (n+1)).1 (dK l a (n+1)).2/\Fr [b] w c :=
 LW b _ _ w h (Nat.le_trans (yW l a n) hl)
theorem xL (b:Nat)(l:List UInt8)(a:Bool)(n:Nat)(w:World)(h:RdAt w b (dK l a n).1 (dK l a n).2)(hl:l.length<=1000000) :
    Cs 124 #[.pointer (so b)] w fun e c=>e=.returned (.int .i64 (dI l a n))/\RdAt c b (dK l a (n+1)).1 (dK l a (n+1)).2/\Fr [b] w c:=LY b l a n w h (by omega)
