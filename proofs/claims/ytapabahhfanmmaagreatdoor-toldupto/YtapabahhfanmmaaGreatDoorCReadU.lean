import Derived.Test.YtapabahhfanmmaaGreatDoorCStoreP
import Derived.Deep.RegionLaw
namespace Go.Proofs.YtapabahhfanmmaaGreatDoor
open Go.RowKit
set_option maxRecDepth 100000
set_option maxHeartbeats 2000000
theorem kk0 {l:List UInt8}{k S b:Nat}(h1:k < l.length)(h2:k < 5)(hb:(l[k]'h1).toNat=b)(hm:128<=b):yz1 (5 - k) k S (l.drop k)=yz1 (5 - (k+1)) (k+1) (S+b % 128*128 ^ k) (l.drop (k+1)):=by
 rw [List.drop_eq_getElem_cons h1,show 5 - k=(5 - (k+1))+1 by omega]
 show (if 128<=(l[k]'h1).toNat then _ else _)=_
 rw [hb,if_pos hm]
theorem kx9 {l:List UInt8}{k S b:Nat}(h1:k < l.length)(h2:k < 5)(hb:(l[k]'h1).toNat=b)(hm:¬ 128<=b):yz1 (5 - k) k S (l.drop k)=if (b=0/\0 < k)\/1000000000 < S+b*128 ^ k then (0,0) else (S+b*128 ^ k,k+1):=by
 rw [List.drop_eq_getElem_cons h1,show 5 - k=(5 - (k+1))+1 by omega]
 show (if 128<=(l[k]'h1).toNat then _ else if ((l[k]'h1).toNat=0/\0 < k)\/_ then _ else _)=_
 rw [hb,if_neg hm,Nat.mod_eq_of_lt (by omega)]
theorem xw3 {l:List UInt8}{k S:Nat}(h:¬ (k < l.length/\k < 5)):yz1 (5 - k) k S (l.drop k)=(0,0):=by
 by_cases h5:k < 5
 ·rw [List.drop_eq_nil_of_le (by omega),show 5 - k=(5 - (k+1))+1 by omega];rfl
 ·rw [show 5 - k=0 by omega];rfl
theorem qzq0 (S b k:Nat)(hS:S < 128 ^ k)(hk:k < 5):bits .or .u64 (S:Int) (IntKind.u64.wrap ((b:Int) % 128*2 ^ (7*k)))=((S+b % 128*128 ^ k:Nat):Int):=by
 have h2:(128 ^ k:Nat)=2 ^ (7*k):=by rw [Nat.pow_mul]
 have hp:128 ^ k<=128 ^ 4:=Nat.pow_le_pow_right (by omega) (by omega)
 have h3:b % 128*128 ^ k<=127*128 ^ 4:=Nat.mul_le_mul (by omega) hp
 have h4:((b:Int) % 128*2 ^ (7*k))=((b % 128*128 ^ k:Nat):Int):=by rw [h2];push_cast;rfl
 rw [h4,IntKind.wrap_u64,Int.emod_eq_of_lt (by omega) (by omega)]
 exact dv5 S (b % 128) k hS (by omega) hk
theorem qqq2 {S b k:Nat}(hS:S < 128 ^ k)(hk:k < 5):S+b % 128*128 ^ k < 128 ^ (k+1)/\S+b % 128*128 ^ k < 34359738368:=by
 have hp:128 ^ (k+1)<=128 ^ 5:=Nat.pow_le_pow_right (by omega) (by omega)
 have h3:b % 128*128 ^ k<=127*128 ^ k:=Nat.mul_le_mul (by omega) (Nat.le_refl _)
 rw [Nat.pow_succ] at hp |-
 omega
theorem fk2 (l:List UInt8)(w:World)(hl:l.length<=2000000) :
  Calls Tryz.prog 170 #[.string ⟨l.toArray⟩] w fun e w' =>
   e=.returned (.tuple #[.int .i64 (qw4 l).1,.int .i64 (qw4 l).2])/\Fr [] w w':=by
 obtain ⟨tx,htx⟩:∃ tx:ByteArray,tx=⟨l.toArray⟩:=⟨_,rfl⟩
 have hsz:tx.size=l.length:=by rw [htx];rfl
 have HG:Hid (∀ k (h1:k < l.length) (h2:k < tx.size),(tx[k]'h2).toNat=(l[k]'h1).toNat):=fun k h1 h2=>by subst htx;rfl
 rw [<- htx]
 obtain ⟨F,hF⟩:∃ F,qw4 l=F:=⟨_,rfl⟩
 rw [hF]
 have HF0:=hid hF
 clear htx hF
 go_enter Tryz.func170,Tryz.ntmps170
 go_wp2_with fail
 all_goals
  go_loopw [4,10] (fun s i wr=>∃ k S:Nat,k<=5/\k<=l.length/\i=.int .i64 k/\s=.int .u64 S/\S < 128 ^ k/\Hid (F=yz1 (5 - k) k S (l.drop k))/\w=wr) (fun _ i _=>5 - (intOf i).toNat)
  case atStart=>exact ⟨0,0,by omega,by omega,rfl,rfl,by omega,HF0.out.symm,rfl⟩
  case round =>
   obtain ⟨k,S,hk5,hkl,rfl,rfl,hS,HF,rfl⟩:=hrel
   by_cases hlt:k < l.length/\k < 5
   ·obtain ⟨h1,h2⟩:=hlt
    have h1t:k < tx.size:=by omega
    obtain ⟨b,hb'⟩:∃ b:Nat,(l[k]'h1).toNat=b:=⟨_,rfl⟩
    have hb:(tx[k]'h1t).toNat=b:=(HG.out k h1 h1t).trans hb'
    have hb2:b < 256:=by rw [<- hb'];exact (l[k]'h1).toNat_lt
    have hor:=qzq0 S b k hS h2
    have hsb:=qqq2 (b:=b) hS h2
    obtain ⟨S',hS'⟩:∃ S':Nat,S'=S+b % 128*128 ^ k:=⟨_,rfl⟩
    rw [<- hS'] at hor hsb
    have HB:=(show Hid _ from hb')
    have HS':=(show Hid _ from hS')
    clear hb' hS'
    by_cases hmore:128<=b
    ·have hmi:¬ (b:Int) < 128:=by omega
     go_wp2_with fail
     go_roundw
     case rel=>exact ⟨k+1,S',by omega,by omega,by go_num,rfl,hsb.1,(show Hid _ from by show _=_;rw [HF.out,kk0 h1 h2 HB.out hmore,HS'.out]),trivial⟩
     case measure=>simp [intOf];omega
    ·have hmi:(b:Int) < 128:=by omega
     have HL:=kx9 (S:=S) h1 h2 HB.out hmore
     have hS2:S'=S+b*128 ^ k:=by rw [HS'.out,Nat.mod_eq_of_lt (by omega)]
     rw [<- HF.out,<- hS2] at HL
     have HL:=hid HL
     clear hS2
     by_cases hbig:1000000000 < S'
     ·have hbi:(1000000000:Int) < (S':Int):=by omega
      have hF0:F=(0,0):=by rw [HL.out,if_pos (Or.inr hbig)]
      subst hF0
      go_wp2_with fail
      all_goals
       go_ret2
       exact ⟨rfl,Fr.refl _ _⟩
     ·have hbi:¬ (1000000000:Int) < (S':Int):=by omega
      by_cases hb0:b=0
      ·by_cases hk0:k=0
       ·have hF0:F=(S',k+1):=by rw [HL.out,if_neg (by omega)]
        have hki:¬ (0:Int) < (k:Int):=by omega
        have hbt:((b:Int)==0)=true:=by simpa using hb0
        subst hF0
        clear hb0 hk0
        go_wp2_with fail
        go_ret2
        exact ⟨rfl,Fr.refl _ _⟩
       ·have hF0:F=(0,0):=by rw [HL.out,if_pos (Or.inl ⟨hb0,by omega⟩)]
        have hki:(0:Int) < (k:Int):=by omega
        have hbt:((b:Int)==0)=true:=by simpa using hb0
        subst hF0
        clear hb0
        go_wp2_with fail
        go_ret2
        exact ⟨rfl,Fr.refl _ _⟩
      ·have hF0:F=(S',k+1):=by rw [HL.out,if_neg (by omega)]
       have hb0b:((b:Int)==0)=false:=by simpa using hb0
       have hb0i:¬ (b:Int)=0:=by omega
       subst hF0
       go_wp2_with fail
       go_ret2
       exact ⟨by first|rfl|(congr 3;push_cast;rfl),Fr.refl _ _⟩
   ·have hF0:F=(0,0):=by rw [HF.out];exact xw3 hlt
    subst hF0
    go_wp2_with fail
    go_ret2
    exact ⟨rfl,Fr.refl _ _⟩
set_option maxRecDepth 100000
structure RdAt (w:World) (rb:Nat) (l:List UInt8) (bad:Bool):Prop where
 all:w.heap[rb]?=some (.cells #[.string ⟨l.toArray⟩,.bool bad] 252)
theorem RdAt.fr {S:List Nat}{w w':World}{rb:Nat}{l:List UInt8}{bad:Bool}(h:RdAt w rb l bad)(hf:Fr S w w')(hn:rb∉S):RdAt w' rb l bad:=⟨hf.heap h.all hn⟩
theorem RdAt.lt {w:World}{rb:Nat}{l:List UInt8}{bad:Bool}(h:RdAt w rb l bad):rb < w.heap.size:=qq2 h.all
theorem dj8:∀ (f i s:Nat) (l:List UInt8),(yz1 f i s l).2<=i+l.length/\((yz1 f i s l).2=0\/i < (yz1 f i s l).2)/\(yz1 f i s l).1<=1000000000
 | 0,_,_,_=>⟨Nat.zero_le _,Or.inl rfl,Nat.zero_le _⟩
 | _+1,_,_,[]=>⟨Nat.zero_le _,Or.inl rfl,Nat.zero_le _⟩
 | f+1,i,s,b :: l=>by
  unfold yz1
  split
  ·obtain ⟨h1,h2,h3⟩:=dj8 f (i+1) (s+b.toNat % 128*128 ^ i) l
   refine ⟨by simp only [List.length_cons];omega,by omega,h3⟩
  ·split
   ·exact ⟨Nat.zero_le _,Or.inl rfl,Nat.zero_le _⟩
   ·refine ⟨by simp only [List.length_cons];omega,Or.inr (by dsimp only;omega),by dsimp only;omega⟩
theorem kx2 (l:List UInt8):(qw4 l).2<=l.length/\(qw4 l).1<=1000000000:=by
 obtain ⟨h1,_,h3⟩:=dj8 5 0 0 l
 exact ⟨by have:=h1;unfold qw4;omega,h3⟩
theorem qqq1 (l:List UInt8)(n:Nat):Value.string ((⟨l.toArray⟩:ByteArray).extract n l.length)=.string ⟨(l.drop n).toArray⟩:=by
 congr 1
 apply ByteArray.ext
 simp [ByteArray.data_extract]
 exact List.take_of_length_le (by simp)
theorem zv1 {w:World}{b:Nat}{cs:Array Value}{t:TypeId}(h:w.heap[b]?=some (.cells cs t))(i:Nat)(x:Value):(w.setCell ⟨b,i,none⟩ x).heap[b]?=some (.cells (cs.setIfInBounds i x) t):=by
 rw [setCell_eq_setRow w b i cs t (0,0) x h]
 exact setRow_heap w b cs _ t (0,0) h
theorem vy4 (l:List UInt8)(w:World) :
  Calls Tryz.prog 123 #[.string ⟨l.toArray⟩] w fun e w'=>∃ rb,e=.returned (.pointer (some ⟨rb,0,none⟩))/\w.heap.size<=rb/\RdAt w' rb l false/\Fr [] w w':=by
 go_enter Tryz.func123,Tryz.ntmps123
 go_wp2_with fail
 go_ret
 exact ⟨_,rfl,Nat.le_refl _,⟨qq6 _ _⟩,(Fr.refl _ _).alloc _⟩
theorem fy1 (rb:Nat)(l:List UInt8)(bad:Bool)(w:World)(h:RdAt w rb l bad) :
  Calls Tryz.prog 131 #[.pointer (some ⟨rb,0,none⟩)] w fun e w'=>e=.returned (.bool (!bad))/\Fr [] w w':=by
 have c1:w.cell? ⟨rb,1,none⟩=some (.bool bad):=j9 h.all
 go_enter Tryz.func131,Tryz.ntmps131
 go_wp2_with fail
 go_ret
 exact ⟨rfl,Fr.refl _ _⟩
theorem dv2 (rb:Nat)(l:List UInt8)(bad:Bool)(w:World)(h:RdAt w rb l bad)(hl:l.length<=2000000) :
  Calls Tryz.prog 124 #[.pointer (some ⟨rb,0,none⟩)] w fun e w'=>e=.returned (.int .i64 (qw4 l).1)/\RdAt w' rb (l.drop (qw4 l).2) (bad||(qw4 l).2==0)/\Fr [rb] w w':=by
 have c0:w.cell? ⟨rb,0,none⟩=some (.string ⟨l.toArray⟩):=j9 h.all
 have c1:w.cell? ⟨rb,1,none⟩=some (.bool bad):=j9 h.all
 have z0:w.frozen? ⟨rb,0,none⟩=false:=qq0 h.all
 have z1:w.frozen? ⟨rb,1,none⟩=false:=qq0 h.all
 obtain ⟨h1,h2⟩:=kx2 l
 have hst:=qqq1 l (qw4 l).2
 have hfi:=fk2 l w hl
 obtain ⟨⟨n,sz⟩,hF⟩:∃ F,qw4 l=F:=⟨_,rfl⟩
 rw [hF] at h1 h2 hst hfi |-
 dsimp only at h1 h2 hst hfi |-
 have HL:=h.lt
 have HA:=hid h.all
 clear h hF
 cases bad
 all_goals
  go_enter Tryz.func124,Tryz.ntmps124
  go_wp2_with (go_at_call 170;refine Calls.mono hfi ?_;rintro e w1 ⟨rfl,hf1⟩;obtain ⟨hc1,hz1⟩:=hf1.cells0)
  go_ret
  refine ⟨rfl,⟨?_⟩,(hf1.of0.setCell _ _ (by simp)).setCell _ _ (by simp)⟩
  rw [zv1 (zv1 (hf1.heap0 HA.out) _ _) _ _]
  first|rfl|(cases sz <;> rfl)
theorem dj3 (rb:Nat)(l:List UInt8)(bad:Bool)(w:World)(h:RdAt w rb l bad) :
  Calls Tryz.prog 126 #[.pointer (some ⟨rb,0,none⟩)] w fun e w'=>e=.returned (.bool (!bad&&l.isEmpty))/\Fr [] w w':=by
 have hr:=fy1 rb l bad w h
 have hlt:=h.lt
 have c0:w.cell? ⟨rb,0,none⟩=some (.string ⟨l.toArray⟩):=j9 h.all
 clear h
 cases bad
 ·cases l with
  | nil =>
   go_enter Tryz.func126,Tryz.ntmps126
   go_wp2_with (go_at_call 131;refine Calls.mono hr ?_;rintro e w1 ⟨rfl,hf1⟩;obtain ⟨hc1,hz1⟩:=hf1.cells0)
   go_ret
   exact ⟨rfl,hf1⟩
  | cons b l =>
   go_enter Tryz.func126,Tryz.ntmps126
   go_wp2_with (go_at_call 131;refine Calls.mono hr ?_;rintro e w1 ⟨rfl,hf1⟩;obtain ⟨hc1,hz1⟩:=hf1.cells0)
   go_ret
   exact ⟨rfl,hf1⟩
 ·go_enter Tryz.func126,Tryz.ntmps126
  go_wp2_with (go_at_call 131;refine Calls.mono hr ?_;rintro e w1 ⟨rfl,hf1⟩;obtain ⟨hc1,hz1⟩:=hf1.cells0)
  go_ret
  exact ⟨rfl,hf1⟩
def rdN (l:List UInt8)(bad:Bool):Nat->List UInt8×Bool
 | 0=>(l,bad)
 | n+1=>((rdN l bad n).1.drop (qw4 (rdN l bad n).1).2,(rdN l bad n).2||(qw4 (rdN l bad n).1).2==0)
def nth (l:List UInt8)(bad:Bool)(n:Nat):Int:=(qw4 (rdN l bad n).1).1
theorem xy4 (l:List UInt8)(bad:Bool)(m:Nat):∀ n,rdN (rdN l bad m).1 (rdN l bad m).2 n=rdN l bad (m+n)
 | 0=>rfl
 | n+1=>by
  have ih:=xy4 l bad m n
  show (_,_)=rdN l bad (m+n+1)
  rw [ih]
  rfl
theorem qqx7 (l:List UInt8)(bad:Bool)(m n:Nat):nth (rdN l bad m).1 (rdN l bad m).2 n=nth l bad (m+n):=by
 unfold nth
 rw [xy4]
theorem xy6 (l:List UInt8)(bad:Bool):∀ n,(rdN l bad n).1.length<=l.length
 | 0=>Nat.le_refl _
 | n+1=>by
  have:=xy6 l bad n
  show ((rdN l bad n).1.drop _).length<=_
  rw [List.length_drop]
  omega
theorem jj0 (l:List UInt8)(bad:Bool)(n:Nat):0<=nth l bad n/\nth l bad n<=1000000000:=by
 have:=(kx2 (rdN l bad n).1).2
 unfold nth
 omega
theorem vv4:∀ (n:Nat) (ns:List Int) (rest:List UInt8),n<=ns.length->(∀ x∈ns,0<=x/\x<=1000000000)->rdN (qw5 ns ++ rest) false n=(qw5 (ns.drop n) ++ rest,false)
 | 0,_,_,_,_=>rfl
 | n+1,ns,rest,h,hb=>by
  have ih:=vv4 n ns rest (by omega) hb
  have hx:=List.drop_eq_getElem_cons (show n < ns.length by omega)
  have hbx:=hb _ (List.getElem_mem (show n < ns.length by omega))
  have hf:qw4 (qw5 (ns.drop n) ++ rest)=(ns[n].toNat,(zk3 ns[n].toNat).length):=by
   rw [hx,zy8,List.append_assoc]
   exact xj6 _ _ (by omega)
  show (_,_)=_
  rw [ih]
  dsimp only
  rw [hf]
  dsimp only
  have hp:=jk2 ns[n].toNat
  rw [hx,zy8,List.append_assoc,List.drop_left]
  have hne:((zk3 ns[n].toNat).length==0)=false:=by simp;intro h;rw [h] at hp;simp at hp
  rw [hne]
  rfl
theorem dv3 (n:Nat)(ns:List Int)(rest:List UInt8)(h:n < ns.length)(hb:∀ x∈ns,0<=x/\x<=1000000000):nth (qw5 ns ++ rest) false n=ns[n]:=by
 unfold nth
 rw [vv4 n ns rest (by omega) hb]
 have hbx:=hb _ (List.getElem_mem h)
 rw [List.drop_eq_getElem_cons h,zy8,List.append_assoc,xj6 _ _ (by omega)]
 dsimp only
 omega
theorem xk4 (rb:Nat)(l:List UInt8)(bad:Bool)(n:Nat)(w:World)(h:RdAt w rb (rdN l bad n).1 (rdN l bad n).2)(hl:l.length<=2000000) :
  Calls Tryz.prog 124 #[.pointer (some ⟨rb,0,none⟩)] w fun e w'=>e=.returned (.int .i64 (nth l bad n))/\RdAt w' rb (rdN l bad (n+1)).1 (rdN l bad (n+1)).2/\Fr [rb] w w' :=
 dv2 rb _ _ w h (Nat.le_trans (xy6 l bad n) hl)
abbrev zx2 (f:Nat->Int):U:=⟨f 0,f 1,f 2,f 3,f 4,f 5,f 6,f 7,f 8,f 9,f 10⟩
theorem xy8 (rb:Nat)(l:List UInt8)(bad:Bool)(w:World)(h:RdAt w rb l bad)(hl:l.length<=2000000) :
  Calls Tryz.prog 132 #[.pointer (some ⟨rb,0,none⟩)] w fun e w'=>e=.returned (zx2 (nth l bad)).val/\RdAt w' rb (rdN l bad 11).1 (rdN l bad 11).2/\Fr [rb] w w':=by
 have P:=fun n w (h:RdAt w rb (rdN l bad n).1 (rdN l bad n).2)=>xk4 rb l bad n w h hl
 have h0:RdAt w rb (rdN l bad 0).1 (rdN l bad 0).2:=h
 have hlt:=h.lt
 have hne:rb≠w.heap.size:=by omega
 obtain ⟨J,hJ⟩:∃ J:Nat->World->Prop,J=fun n w'=>RdAt w' rb (rdN l bad n).1 (rdN l bad n).2/\w'.heap[w.heap.size]?=some (.cells zeroU.arr 85)/\Fr [rb] w w':=⟨_,rfl⟩
 have PJ:∀ n w',J n w'->Calls Tryz.prog 124 #[.pointer (some ⟨rb,0,none⟩)] w' fun e w''=>e=.returned (.int .i64 (nth l bad n))/\J (n+1) w'':=fun n w' hj=>by
  rw [hJ] at hj |-
  obtain ⟨j1,j2,j3⟩:=hj
  refine Calls.mono (P n w' j1) ?_
  rintro e w2 ⟨rfl,h1,h2⟩
  exact ⟨rfl,h1,h2.heap j2 (by simp;exact fun e=>hne e.symm),j3.trans h2 (by simp)⟩
 have hj0:J 0 (w.alloc (.cells zeroU.arr 85)):=by
  rw [hJ]
  exact ⟨h0.fr ((Fr.refl [] w).alloc _) (by simp),qq6 _ _,(Fr.refl _ _).alloc _⟩
 have hjh:∀ n w',J n w'->w'.heap[w.heap.size]?=some (.cells zeroU.arr 85):=fun n w' hj=>by rw [hJ] at hj;exact hj.2.1
 have HE:Hid (∀ w',J 11 w'->RdAt w' rb (rdN l bad 11).1 (rdN l bad 11).2/\Fr [rb] w w'):=fun w' hj=>by rw [hJ] at hj;exact ⟨hj.1,hj.2.2⟩
 have PJ:=hid PJ
 have HJH:=hid hjh
 have HNE:=hid hne
 clear h h0 P hJ hjh hlt hne
 generalize rdN l bad=R at *
 generalize nth l bad=N at *
 have HI:Hid ((Tryz.prog.info? 85).map (·.size)=some (zx2 N).arr.size):=by show _=some 11;kernel_rfl
 have HO:Hid ((zx2 N).arr.all (·.oneCell')=true):=by show _=_;simp [Value.oneCell']
 have HZ:Hid (zeroU.arr.size=(zx2 N).arr.size):=by show _=_;rfl
 go_enter Tryz.func132,Tryz.ntmps132
 go_wp2_with (first|(go_at_call 124;with_reducible refine Calls.mono (PJ.out _ _ (by first|assumption|exact hj0)) ?_;rintro e w1 ⟨rfl,hj1⟩)|(refine wpList_store_row rfl 85 _ _ rfl w.heap.size (zx2 N).arr rfl rfl 85 zeroU.arr (HJH.out _ _ hj1) HI.out HZ.out HO.out ?_))
 obtain ⟨e1,e2⟩:=HE.out _ hj1
 refine bodyPost_ret (v:=(zx2 N).val) (results_cell_row Tryz.results132 _ _ w.heap.size 85 (zx2 N).arr (0,0) _ rfl (setRow_heap _ _ _ _ _ _ (HJH.out _ _ hj1)) Tryz.underlying85 rfl HI.out) rfl ⟨rfl,?_,?_⟩
 ·exact ⟨by rw [setRow_other _ _ _ _ HNE.out];exact e1.all⟩
 ·exact e2.setRow _ _ (Or.inr (Nat.le_refl _))
theorem gw6 {ops:Array Oper} {op:Oper} {a:Act} {w:World} {K:Act->World->Prop} {Q:Exit->Act->World->Prop} {E:Prop}
  (hg:op.guard=none) (n:Nat) (x:Nat) (ty:TypeId) (hop:op.op=Op.call { callee:=Callee.value (Operand.func n),args:=#[.tmp x],argTypes:=#[ty] })
  (v:Value) (hx:a.tmps[x]?.getD undef=v) (hen:∀ w,(callFunc n #[v]).run Tryz.prog w=.ok (.enter n #[v]) w) {R:Value->World->Prop} (h:Calls Tryz.prog n #[v] w fun e w'=>∃ r,e=.returned r/\R r w')
  (hK:∀ r w',R r w'->K (a.put op.dst r) w') :
  if Region.wanted op (yielded ops a.tmps)=true then Oper.wp Tryz.prog op a w K Q else E:=by
 have hw:Region.wanted op (yielded ops a.tmps)=true:=by simp [Region.wanted,hg]
 rw [if_pos hw]
 unfold Oper.wp
 simp [execOp,hop,resolve,invoke,hx,hen,go_sem]
 refine Calls.mono h ?_
 rintro e w' ⟨r,rfl,hr⟩
 exact hK r w' hr
end Go.Proofs.YtapabahhfanmmaaGreatDoor
