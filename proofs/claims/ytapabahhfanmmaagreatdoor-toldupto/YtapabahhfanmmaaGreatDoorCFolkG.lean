import Derived.Test.YtapabahhfanmmaaGreatDoorCBookW
import Derived.Test.YtapabahhfanmmaaGreatDoorCRefD
import Derived.Test.YtapabahhfanmmaaGreatDoorCOrds
namespace Go.Proofs.YtapabahhfanmmaaGreatDoor
open Go.RowKit
set_option maxRecDepth 100000
set_option maxHeartbeats 2000000
theorem qjj4:(Tryz.prog.info? 82).map (fun i=>(i.zero,i.size,i.bytes))=some (some (.slice none 0 0),1,24):=by kernel_rfl
theorem gq1 (m:Int):∀ n,(List.replicate n (jv7 m)).flatMap U.cells=qw8 11 (zw9 m) n
 | 0=>rfl
 | n+1=>by
  rw [List.replicate_succ',List.flatMap_append,gq1 m n,<- yk1 (kw6 m) n 1,qzz4]
  simp
theorem qzj7 {α:Type}(x:α)(us:List α)(k:Nat)(hk:k < us.length):(List.replicate k x ++ us.drop k).set k x=List.replicate (k+1) x ++ us.drop (k+1):=by
 rw [List.set_append_right _ _ (by simp),List.length_replicate,Nat.sub_self,List.drop_eq_getElem_cons hk,List.set_cons_zero,List.replicate_succ',List.append_assoc]
 rfl
structure FolkI (W:World) (pb cap:Nat) (us:List U) (m:Int) (k:Nat) (wr:World):Prop where
 row:PRow wr pb cap (List.replicate k (jv7 m) ++ us.drop k)
 fr:Fr [pb] W wr
theorem FolkI.put {W:World}{pb cap:Nat}{us:List U}{m:Int}{k:Nat}{wr:World}(h:FolkI W pb cap us m k wr)(hk:k < us.length):FolkI W pb cap us m (k+1) (wr.setCells pb (k*11) (jv7 m).cells):=by
 refine ⟨?_,Fr.setCells pb _ _ _ h.fr (Or.inl (by simp))⟩
 have:=h.row.put (i:=k) (by simp;omega) (jv7 m)
 rw [qzj7 _ _ _ hk] at this
 exact this
theorem vv0 (bb N pb cap base:Nat)(K:List Nat)(us:List U)(w:World)(h:Bk w bb K N)(hN:N<=2000000)(hrow:PRow w pb cap us)(hul:us.length<=1000)(hpb:base<=pb)(hbb:bb < base)(hK:∀ x∈K,x < base) :
  Calls Tryz.prog 100 #[.pointer (some ⟨bb,0,none⟩),.slice (some ⟨pb,0,none⟩) us.length cap] w fun e w'=>e=.returned (.tuple #[])/\OwnP w bb N K [pb] w':=by
 obtain ⟨infU,hu0,hv0,hv1,hv2⟩:=info_parts jv6
 obtain ⟨infI,hi0,hz0,hz1,hz2⟩:=info_parts dx6
 obtain ⟨infS,hj0,hy0,hy1,hy2⟩:=info_parts qjj4
 have hpl:=hrow.lt
 obtain ⟨⟨rv,xs,nx,KL,h1,h2,h3,h4,h5,h6,h7,h8,h9,h10,h11⟩,hnb,hkl⟩:=h
 have hnx:=h1.nxt
 have hnz:=h1.fz 9
 have hbl:=h1.lt
 have hbp:bb≠pb:=by omega
 obtain ⟨m,hm⟩:∃ m,m=nx - 1:=⟨_,rfl⟩
 obtain ⟨W0,hW0⟩:∃ W,W=w.setCell ⟨bb,9,none⟩ (.int .i64 m):=⟨_,rfl⟩
 have hf00:Fr [bb] w W0:=by rw [hW0];exact (Fr.refl _ _).setCell _ _ (by simp)
 have HBR0:Hid (BR W0 bb rv xs m):=by
  show BR W0 bb rv xs m
  rw [hW0];exact h1.mark m
 have HBL0:Hid (BL W0 KL xs):=h2.fr hf00 (fun b hb e=>hnb (by
          have:b=bb:=by simpa using e
          subst this;exact (h11 b hb).1))
 have HROW0:Hid (PRow W0 pb cap us):=hrow.fr hf00 (by simp;omega)
 have HX:=(show Hid _ from And.intro h3 (And.intro h4 (And.intro h5 (And.intro h6 (And.intro h7 (And.intro h10 h11))))))
 have HNB:=hid hnb
 have HKL:=hid hkl
 have hmb:-(3*(N:Int)) - 1<=m/\m<=0:=by omega
 have HM:=hid hm
 have HF00:=hid hf00
 have hs0:w.heap.size=W0.heap.size:=by rw [hW0];simp [World.setCell]
 have HS0:=hid hs0
 have hbl0:bb < W0.heap.size:=HBR0.out.lt
 have hm9:W0.cell? ⟨bb,9,none⟩=some (ii m):=HBR0.out.nxt
 clear h1 h2 h3 h4 h5 h6 h7 h10 h11 hnb hkl hf00 hrow hs0
 go_enter Tryz.func100,Tryz.ntmps100
 go_wp2_with fail
 rw [<- hm,<- hW0]
 clear hm hW0 hnx hnz
 go_cut [4] (fun s4 wx=>∃ xb:Nat,s4=.pointer (some ⟨xb,0,none⟩)/\wx.heap[xb]?=some (.cells (jv7 m).arr 85)/\W0.heap.size<=xb/\Fr [] W0 wx)
 case first =>
  go_region
  all_goals
   go_wp2_with fail
   go_meet
   exact ⟨_,rfl,qq6 W0 _,Nat.le_refl _,((Fr.refl _ _).alloc _).drew⟩
 case rest =>
  obtain ⟨xb,rfl,hxh,hxl,hf01⟩:=hcut
  obtain ⟨W1,hW1⟩:∃ W,W=wc:=⟨_,rfl⟩
  rw [<- hW1] at hxh hf01 |-
  clear hW1
  have HF01:=hid hf01
  have HROW1:Hid (PRow W1 pb cap us):=HROW0.out.fr hf01 (by simp)
  have HBR1:Hid (BR W1 bb rv xs m):=HBR0.out.fr hf01 (by simp) (by simp)
  have HBL1:Hid (BL W1 KL xs):=HBL0.out.fr hf01 (by simp)
  have hxl1:xb < W1.heap.size:=qq2 hxh
  have hxp:xb≠pb:=by have:=HS0.out;omega
  have hxbb:xb≠bb:=by omega
  have HXC:Hid (∀ W,Fr [pb] W1 W->W.cell? ⟨xb,0,none⟩=some (ii m)/\W.cell? ⟨xb,1,none⟩=some (ii 0)/\W.cell? ⟨xb,2,none⟩=some (ii 0)/\W.cell? ⟨xb,3,none⟩=some (ii 0)/\W.cell? ⟨xb,4,none⟩=some (ii 0)/\W.cell? ⟨xb,5,none⟩=some (ii m)/\W.cell? ⟨xb,6,none⟩=some (ii 0)/\W.cell? ⟨xb,7,none⟩=some (ii 0)/\W.cell? ⟨xb,8,none⟩=some (ii 0)/\W.cell? ⟨xb,9,none⟩=some (ii 0)/\W.cell? ⟨xb,10,none⟩=some (ii 0)):=fun W hf=>by
   have hh:=hf.heap hxh (by simp;omega)
   exact ⟨j9 hh,j9 hh,j9 hh,j9 hh,j9 hh,j9 hh,j9 hh,j9 hh,j9 hh,j9 hh,j9 hh⟩
  clear hf01 hxh hm9
  go_wp2_with fail
  go_loopw [5] (fun j wr=>∃ k:Nat,k<=us.length/\j=.int .i64 k/\FolkI W1 pb cap us m k wr) (fun j _=>us.length - (intOf j).toNat)
  case atStart=>exact ⟨0,Nat.zero_le _,rfl,HROW1.out,Fr.refl _ _⟩
  case round =>
   obtain ⟨k,hk,rfl,hI⟩:=hrel
   obtain ⟨e0,e1,e2,e3,e4,e5,e6,e7,e8,e9,e10⟩:=HXC.out wr hI.fr
   by_cases hlt2:k < us.length
   ·have hlti2:(k:Int) < (us.length:Int):=by omega
    have hth:=hI.row.there (i:=k) (by simp;omega)
    obtain ⟨o0,d0⟩:=Option.isSome_iff_exists.1 (hth 0 (by omega)).1
    obtain ⟨o1,d1⟩:=Option.isSome_iff_exists.1 (hth 1 (by omega)).1
    obtain ⟨o2,d2⟩:=Option.isSome_iff_exists.1 (hth 2 (by omega)).1
    obtain ⟨o3,d3⟩:=Option.isSome_iff_exists.1 (hth 3 (by omega)).1
    obtain ⟨o4,d4⟩:=Option.isSome_iff_exists.1 (hth 4 (by omega)).1
    obtain ⟨o5,d5⟩:=Option.isSome_iff_exists.1 (hth 5 (by omega)).1
    obtain ⟨o6,d6⟩:=Option.isSome_iff_exists.1 (hth 6 (by omega)).1
    obtain ⟨o7,d7⟩:=Option.isSome_iff_exists.1 (hth 7 (by omega)).1
    obtain ⟨o8,d8⟩:=Option.isSome_iff_exists.1 (hth 8 (by omega)).1
    obtain ⟨o9,d9⟩:=Option.isSome_iff_exists.1 (hth 9 (by omega)).1
    obtain ⟨o10,d10⟩:=Option.isSome_iff_exists.1 (hth 10 (by omega)).1
    have z0:=hI.row.fz (k*11)
    have z1:=hI.row.fz (k*11+1)
    have z2:=hI.row.fz (k*11+2)
    have z3:=hI.row.fz (k*11+3)
    have z4:=hI.row.fz (k*11+4)
    have z5:=hI.row.fz (k*11+5)
    have z6:=hI.row.fz (k*11+6)
    have z7:=hI.row.fz (k*11+7)
    have z8:=hI.row.fz (k*11+8)
    have z9:=hI.row.fz (k*11+9)
    have z10:=hI.row.fz (k*11+10)
    simp only [Nat.add_zero] at d0
    have HP:=(show Hid _ from hI.put hlt2)
    clear hI hth
    go_wp2_with fail
    go_roundw
    case rel=>exact ⟨k+1,hlt2,by go_num,HP.out⟩
    case measure=>simp [intOf];omega
   ·have hlti2:¬ (k:Int) < (us.length:Int):=by omega
    have hkn:k=us.length:=by omega
    obtain ⟨hr2,hf2⟩:=hI
    rw [hkn,List.drop_of_length_le (Nat.le_refl _),List.append_nil] at hr2
    have HO2:Hid (wr.ownsRow base 85 11 (.slice (some ⟨pb,0,none⟩) us.length cap) us.length (qw8 11 (zw9 m) us.length)):=by
     obtain ⟨cur,hh,hs,ht⟩:=hr2.h
     rw [List.length_replicate,gq1] at ht
     have hle:=hr2.le
     rw [List.length_replicate] at hle
     exact ⟨by rw [zv0],Or.inr ⟨pb,cap,cur,rfl,hpb,hh,hle,hr2.cap,hs,ht⟩⟩
    clear hkn hr2
    obtain ⟨W2,hW2⟩:∃ W,W=wr:=⟨_,rfl⟩
    rw [<- hW2] at HO2 hf2 e0 e1 e2 e3 e4 e5 e6 e7 e8 e9 e10 |-
    clear hW2
    have hb2:base<=W2.heap.size:=by have:=hf2.size;have:=HF01.out.size;have:=HS0.out;omega
    have HF2:Hid (Fr [pb] W1 W2):=hf2
    have HONE:Hid (∀ k,∀ u∈qw8 11 (zw9 m) k,u.oneCell'=true):=fun k u hu=>by
     obtain ⟨j,_,rfl⟩:=List.mem_map.1 hu
     have hj:j % 11 < 11:=Nat.mod_lt _ (by omega)
     have:j % 11=0\/j % 11=1\/j % 11=2\/j % 11=3\/j % 11=4\/j % 11=5\/j % 11=6\/j % 11=7\/j % 11=8\/j % 11=9\/j % 11=10:=by omega
     unfold zw9
     rcases this with e|e|e|e|e|e|e|e|e|e|e <;> (rw [e];rfl)
    have HAL:Hid (∀ (W:World) (cs:Array Value),W.ownsRow base 85 11 (.slice (some ⟨pb,0,none⟩) us.length cap) us.length (qw8 11 (zw9 m) us.length)->(W.alloc (.cells cs 85)).ownsRow base 85 11 (.slice (some ⟨pb,0,none⟩) us.length cap) us.length (qw8 11 (zw9 m) us.length)):=fun W cs h=>h.alloc _
    have HN1:Hid (∀ (W:World) (j:Nat) (u:Value),(qw8 11 (zw9 m) 1)[j]?=some u->(W.alloc (.cells #[Value.int IntKind.i64 m,.int .i64 0,.int .i64 0,.int .i64 0,.int .i64 0,.int .i64 m,.int .i64 0,.int .i64 0,.int .i64 0,.int .i64 0,.int .i64 0] 85)).cell? ((⟨W.heap.size,0,none⟩:Addr).add j)=some u):=fun W=>zj8 W (qw8 11 (zw9 m) 1) 85
    have HN2:Hid (∀ (W:World) (j:Nat) (u:Value),(qw8 11 (zw9 m) 2)[j]?=some u->(W.alloc (.cells #[Value.int IntKind.i64 m,.int .i64 0,.int .i64 0,.int .i64 0,.int .i64 0,.int .i64 m,.int .i64 0,.int .i64 0,.int .i64 0,.int .i64 0,.int .i64 0,Value.int IntKind.i64 m,.int .i64 0,.int .i64 0,.int .i64 0,.int .i64 0,.int .i64 m,.int .i64 0,.int .i64 0,.int .i64 0,.int .i64 0,.int .i64 0] 85)).cell? ((⟨W.heap.size,0,none⟩:Addr).add j)=some u):=fun W=>zj8 W (qw8 11 (zw9 m) 2) 85
    have HN3:Hid (∀ (W:World) (j:Nat) (u:Value),(qw8 11 (zw9 m) 3)[j]?=some u->(W.alloc (.cells #[Value.int IntKind.i64 m,.int .i64 0,.int .i64 0,.int .i64 0,.int .i64 0,.int .i64 m,.int .i64 0,.int .i64 0,.int .i64 0,.int .i64 0,.int .i64 0,Value.int IntKind.i64 m,.int .i64 0,.int .i64 0,.int .i64 0,.int .i64 0,.int .i64 m,.int .i64 0,.int .i64 0,.int .i64 0,.int .i64 0,.int .i64 0,Value.int IntKind.i64 m,.int .i64 0,.int .i64 0,.int .i64 0,.int .i64 0,.int .i64 m,.int .i64 0,.int .i64 0,.int .i64 0,.int .i64 0,.int .i64 0] 85)).cell? ((⟨W.heap.size,0,none⟩:Addr).add j)=some u):=fun W=>zj8 W (qw8 11 (zw9 m) 3) 85
    have hs2:W1.heap.size<=W2.heap.size:=hf2.size
    obtain ⟨l3,hl3⟩:∃ l3,(xs 3).length=l3:=⟨_,rfl⟩
    obtain ⟨a3,q3,hr3⟩:=zv6 (HBR1.out.own 3 (by omega))
    rw [hl3] at hr3
    have hl3b:l3<=4*N:=by have:=HX.out.2.2.2.2.1;omega
    have rowpb:∀ k,k < 5->(rv k).ownBlock≠some pb:=fun k hk e=>by
     have:=hK pb (HX.out.2.2.2.2.2.1 k hk pb e)
     omega
    have HFC:Hid (∀ W,Fr [pb] W1 W->W.cell? ⟨bb,3,none⟩=some (.slice a3 l3 q3)/\W.frozen? ⟨bb,3,none⟩=false/\W.ownsRow 0 82 1 (.slice a3 l3 q3) l3 (xs 3)/\BR W bb rv xs m/\BL W KL xs):=fun W hf=>by
     have hbr':=HBR1.out.fr hf (by simp;omega) (fun k hk g hg=>by simp;intro e;subst e;exact rowpb k hk hg)
     have hkl:∀ b∈KL,b∉[pb]:=fun b hb e=>by
      have e':b=pb:=by simpa using e
      subst e'
      have:=hK b (HX.out.2.2.2.2.2.2 b hb).1
      omega
     refine ⟨by rw [hbr'.cell 3 (by omega),hr3],hbr'.fz 3,?_,hbr',HBL1.out.fr hf hkl⟩
     have:=hbr'.own 3 (by omega)
     rw [hr3,hl3] at this
     exact this
    have HB3N:Hid (bb∉(Value.ownBlock (.slice a3 l3 q3)).toList):=fun e=>HBR1.out.nb 3 (by omega) (by rw [hr3];simpa using e)
    have HR3:=hid hr3
    have HL3:=hid hl3
    have HRB:=hid rowpb
    clear hf2 hr3 hl3 rowpb
    go_wp2_with (first
      | (
        at_builtin
        refine qj6 rfl (.tmp 35) (.tmp 37) 82 rfl base 85 infU zeroU.val 11 88 Tryz.underlying82 hu0 hv0 hv1 hv2 rfl (.slice (some ⟨pb,0,none⟩) us.length cap) us.length (qw8 11 (zw9 m) us.length) rfl (HAL.out _ _ HO2.out) ⟨W2.heap.size,0,none⟩ 1 1 (qw8 11 (zw9 m) 1) rfl rfl (HN1.out W2) (HONE.out 1) (by unfold maxLen;omega) (by omega) (by simp;omega) (by omega) ?_
        intro v1 w3 ho1 hk1 ha1
        obtain ⟨g1,c1,rfl⟩:=qx0 ho1 (by omega)
        have HO3:=hid ho1
        have HK3:=hid hk1
        have HA3:Hid (jj4 (W2.alloc (.cells #[Value.int IntKind.i64 m,.int .i64 0,.int .i64 0,.int .i64 0,.int .i64 0,.int .i64 m,.int .i64 0,.int .i64 0,.int .i64 0,.int .i64 0,.int .i64 0] 85)) w3 (.slice (some ⟨pb,0,none⟩) us.length cap) (.slice (some ⟨g1,0,none⟩) (us.length+1) c1)):=ha1
        have hF3:Fr [pb] W1 w3:=(HF2.out.alloc _).trans (qk9 ha1) (fun x hx=>Or.inl hx)
        have HF3:=hid hF3
        have hs3:W2.heap.size<=w3.heap.size:=(by have:=(qk9 ha1).size;simp at this;omega)
        obtain ⟨e0,e1,e2,e3,e4,e5,e6,e7,e8,e9,e10⟩:=HXC.out w3 hF3
        clear ho1 hk1 ha1 hF3)
      | (
        at_builtin
        refine qj6 rfl (.tmp 39) (.tmp 42) 82 rfl base 85 infU zeroU.val 11 88 Tryz.underlying82 hu0 hv0 hv1 hv2 rfl (.slice (some ⟨pb,0,none⟩) us.length cap) us.length (qw8 11 (zw9 m) us.length) rfl (HAL.out _ _ HK3.out) ⟨w3.heap.size,0,none⟩ 2 2 (qw8 11 (zw9 m) 2) rfl rfl (HN2.out w3) (HONE.out 2) (by unfold maxLen;omega) (by omega) (by simp;omega) (by omega) ?_
        intro v2 w4 ho1 hk1 ha1
        obtain ⟨g2,c2,rfl⟩:=qx0 ho1 (by omega)
        have HO4:=hid ho1
        have HK4:=hid hk1
        have HA4:Hid (jj4 (w3.alloc (.cells #[Value.int IntKind.i64 m,.int .i64 0,.int .i64 0,.int .i64 0,.int .i64 0,.int .i64 m,.int .i64 0,.int .i64 0,.int .i64 0,.int .i64 0,.int .i64 0,Value.int IntKind.i64 m,.int .i64 0,.int .i64 0,.int .i64 0,.int .i64 0,.int .i64 m,.int .i64 0,.int .i64 0,.int .i64 0,.int .i64 0,.int .i64 0] 85)) w4 (.slice (some ⟨pb,0,none⟩) us.length cap) (.slice (some ⟨g2,0,none⟩) (us.length+2) c2)):=ha1
        have hF4:Fr [pb] W1 w4:=(HF3.out.alloc _).trans (qk9 ha1) (fun x hx=>Or.inl hx)
        have HF4:=hid hF4
        have hs4:w3.heap.size<=w4.heap.size:=(by have:=(qk9 ha1).size;simp at this;omega)
        obtain ⟨e0,e1,e2,e3,e4,e5,e6,e7,e8,e9,e10⟩:=HXC.out w4 hF4
        clear ho1 hk1 ha1 hF4)
      | (
        at_builtin
        refine qj6 rfl (.tmp 44) (.tmp 48) 82 rfl base 85 infU zeroU.val 11 88 Tryz.underlying82 hu0 hv0 hv1 hv2 rfl (.slice (some ⟨pb,0,none⟩) us.length cap) us.length (qw8 11 (zw9 m) us.length) rfl (HAL.out _ _ HK4.out) ⟨w4.heap.size,0,none⟩ 3 3 (qw8 11 (zw9 m) 3) rfl rfl (HN3.out w4) (HONE.out 3) (by unfold maxLen;omega) (by omega) (by simp;omega) (by omega) ?_
        intro v3 w5 ho1 hk1 ha1
        obtain ⟨g3,c3,rfl⟩:=qx0 ho1 (by omega)
        have HO5:=hid ho1
        have HK5:=hid hk1
        have HA5:Hid (jj4 (w4.alloc (.cells #[Value.int IntKind.i64 m,.int .i64 0,.int .i64 0,.int .i64 0,.int .i64 0,.int .i64 m,.int .i64 0,.int .i64 0,.int .i64 0,.int .i64 0,.int .i64 0,Value.int IntKind.i64 m,.int .i64 0,.int .i64 0,.int .i64 0,.int .i64 0,.int .i64 m,.int .i64 0,.int .i64 0,.int .i64 0,.int .i64 0,.int .i64 0,Value.int IntKind.i64 m,.int .i64 0,.int .i64 0,.int .i64 0,.int .i64 0,.int .i64 m,.int .i64 0,.int .i64 0,.int .i64 0,.int .i64 0,.int .i64 0] 85)) w5 (.slice (some ⟨pb,0,none⟩) us.length cap) (.slice (some ⟨g3,0,none⟩) (us.length+3) c3)):=ha1
        have hF5:Fr [pb] W1 w5:=(HF4.out.alloc _).trans (qk9 ha1) (fun x hx=>Or.inl hx)
        have HF5:=hid hF5
        have hs5:w4.heap.size<=w5.heap.size:=(by have:=(qk9 ha1).size;simp at this;omega)
        obtain ⟨hc5,hz5,ho5,_,_⟩:=HFC.out w5 hF5
        have hbl5:bb < w5.heap.size:=qq1 hc5
        have HO5B:Hid (w5.ownsRow 0 82 1 (.slice a3 l3 q3) l3 (xs 3)):=ho5
        clear ho5
        clear ho1 hk1 ha1 hF5)
      | (
        at_builtin
        have HOP:Hid ((w5.alloc (.cells #[Value.slice (some ⟨pb,0,none⟩) us.length cap,.slice (some ⟨g1,0,none⟩) (us.length+1) c1,.slice (some ⟨g2,0,none⟩) (us.length+2) c2,.slice (some ⟨g3,0,none⟩) (us.length+3) c3] 82)).ownsRow 0 82 1 (.slice a3 l3 q3) l3 (xs 3)):=World.ownsRow.alloc HO5B.out _
        refine qj6 rfl (.tmp 54) (.tmp 59) 64 rfl 0 82 infS (.slice none 0 0) 1 24 Tryz.underlying64 hj0 hy0 hy1 hy2 rfl (.slice a3 l3 q3) l3 (xs 3) rfl HOP.out ⟨w5.heap.size,0,none⟩ 4 4 [Value.slice (some ⟨pb,0,none⟩) us.length cap,.slice (some ⟨g1,0,none⟩) (us.length+1) c1,.slice (some ⟨g2,0,none⟩) (us.length+2) c2,.slice (some ⟨g3,0,none⟩) (us.length+3) c3] rfl rfl (zj8 w5 _ 82) (by simp [Value.oneCell']) (by unfold maxLen;omega) (by omega) (by simp) (by omega) ?_
        intro v6 w6 ho hk ha
        obtain ⟨g6,c6,rfl⟩:=qx0 ho (by omega)
        have hgf:=qk9 ha
        have hv2:w6.cell? ⟨bb,3,none⟩=some (.slice a3 l3 q3):=(hgf.cell bb 3 (by simp;omega) HB3N.out).trans ((((Fr.refl [] w5).alloc _).cell bb 3 hbl5 (by simp)).trans hc5)
        have hz2':w6.frozen? ⟨bb,3,none⟩=false:=(hgf.frozen bb 3 (by simp;omega) HB3N.out).trans ((((Fr.refl [] w5).alloc _).frozen bb 3 hbl5 (by simp)).trans hz5)))
    obtain ⟨KS,hKS1,hKS2,hm0,hm1,hm2,hm3⟩:=dk9 (kw6 m) HO3.out HA3.out HK4.out HO4.out HA4.out HO5.out HA5.out
    obtain ⟨L4,hL4⟩:∃ L,L=[Value.slice (some ⟨pb,0,none⟩) us.length cap,.slice (some ⟨g1,0,none⟩) (us.length+1) c1,.slice (some ⟨g2,0,none⟩) (us.length+2) c2,.slice (some ⟨g3,0,none⟩) (us.length+3) c3]:=⟨_,rfl⟩
    have HMK:Hid (∀ u∈L4,MkU w5 KS u m):=fun u hu=>by
     rw [hL4] at hu
     simp only [List.mem_cons,List.not_mem_nil,or_false] at hu
     rcases hu with rfl|rfl|rfl|rfl
     ·exact hm0.units (by omega)
     ·exact hm1.units (by omega)
     ·exact hm2.units (by omega)
     ·exact hm3.units (by omega)
    have HKS1:Hid (∀ b∈KS,b=pb\/W2.heap.size<=b):=fun b hb=>by
     rcases hKS1 b hb with q|q
     ·simp [Value.ownBlock] at q;exact Or.inl q.symm
     ·exact Or.inr q
    have HKS2:=hid hKS2
    obtain ⟨_,_,_,hB5,hL5⟩:=HFC.out w5 HF5.out
    have HL5:=hid hL5
    have HROWS:Hid (∀ k,k < 5->∀ g,(rv k).ownBlock=some g->g < W1.heap.size):=fun k hk g hg=>((HBR1.out.own k hk).lt g hg).2
    have hFA:Fr [] w5 (w5.alloc (.cells #[Value.slice (some ⟨pb,0,none⟩) us.length cap,.slice (some ⟨g1,0,none⟩) (us.length+1) c1,.slice (some ⟨g2,0,none⟩) (us.length+2) c2,.slice (some ⟨g3,0,none⟩) (us.length+3) c3] 82)):=(Fr.refl _ _).alloc _
    obtain ⟨hB7,hF7⟩:=(hB5.fr hFA (by simp) (by simp)).push 3 (by omega) (.slice (some ⟨g6,0,none⟩) (l3+4) c6) L4 (by rw [hL4,HL3.out];exact ho) (by rw [HR3.out];exact ha)
    have F57:Fr (bb :: (rv 3).ownBlock.toList) w5 (w6.setCell ⟨bb,3,none⟩ (.slice (some ⟨g6,0,none⟩) (l3+4) c6)):=hFA.of0.trans hF7 (fun x hx=>Or.inl hx)
    have HIN7:Hid (∀ g,Value.ownBlock (.slice (some ⟨g6,0,none⟩) (l3+4) c6)=some g->(rv 3).ownBlock=some g\/w5.heap.size<=g):=fun g hg=>by
     rcases jz3 ha g hg with q|q
     ·exact Or.inl (by rw [HR3.out];exact q)
     ·simp at q;exact Or.inr (by omega)
    obtain ⟨W7,hW7⟩:∃ W,W=w6.setCell ⟨bb,3,none⟩ (.slice (some ⟨g6,0,none⟩) (l3+4) c6):=⟨_,rfl⟩
    rw [<- hW7] at hB7 F57 |-
    obtain ⟨v3,hv3⟩:∃ v,v=Value.slice (some ⟨g6,0,none⟩) (l3+4) c6:=⟨_,rfl⟩
    rw [<- hv3] at hB7 HIN7
    obtain ⟨l4,hl4⟩:∃ l4,(xs 4).length=l4:=⟨_,rfl⟩
    have e1:upd xs 3 (xs 3 ++ L4) 4=xs 4:=rfl
    have e2:upd rv 3 v3 4=rv 4:=rfl
    have ho7:=hB7.own 4 (by omega)
    rw [e1,e2,hl4] at ho7
    obtain ⟨a4,q4,hr4⟩:=zv6 ho7
    rw [hr4] at ho7
    have hl4b:l4<=4*N:=by have:=HX.out.2.2.2.2.1;have:=HX.out.2.1;omega
    have hc4:W7.cell? ⟨bb,4,none⟩=some (.slice a4 l4 q4):=by rw [hB7.cell 4 (by omega),e2,hr4]
    have hz4:W7.frozen? ⟨bb,4,none⟩=false:=hB7.fz 4
    have hc9:W7.cell? ⟨bb,9,none⟩=some (ii m):=hB7.nxt
    have hbl7:bb < W7.heap.size:=hB7.lt
    have HO7:=hid ho7
    have HB4N:Hid (bb∉(Value.ownBlock (.slice a4 l4 q4)).toList):=fun e=>hB7.nb 4 (by omega) (by rw [e2,hr4];simpa using e)
    have HB7:=hid hB7
    have HF57:=hid F57
    have HR4:=hid hr4
    have HL4:=hid hl4
    have HLL:=hid hL4
    clear hm0 hm1 hm2 hm3 hKS1 hKS2 hB5 hL5 hFA hB7 hF7 F57 hW7 hv3 e1 e2 ho7 hr4 hl4 hL4 ho hk ha hgf hv2 hz2' hc5 hz5 HO2 HO3 HO4 HO5 HK3 HK4 HK5 HA3 HA4 HA5 HN1 HN2 HN3 HAL
    have HS:Hid (∀ w',Fr [] W7 w'->w'.cell? ⟨bb,4,none⟩=some (.slice a4 l4 q4)/\w'.cell? ⟨bb,9,none⟩=some (ii m)):=fun w' hf=>⟨(hf.cell bb 4 hbl7 (by simp)).trans hc4,(hf.cell bb 9 hbl7 (by simp)).trans hc9⟩
    have hH:=HS.out W7.drew ((Fr.refl _ _).drew)
    refine TwoFree.region (fun w':World=>w'.cell? ⟨bb,4,none⟩=some (.slice a4 l4 q4)/\w'.cell? ⟨bb,9,none⟩=some (ii m)) 25 (by kernel_rfl) ?_
    refine (show TwoFree Tryz.prog Region.Mode.any _ _ _ 25 26 (Array.replicate 26 false) _ _ from ?_)
    refine tw 0 (fun _=>hH) ?_;try simp only [Act.put,Z]
    refine tw 1 (fun _=>hH) ?_;try simp only [Act.put,Z]
    refine tw 2 (fun _=>hH) ?_;try simp only [Act.put,Z]
    refine tw 3 (fun _=>hH) ?_;try simp only [Act.put,Z]
    refine tt 4 hH ?_;try simp only [Act.put,Z]
    refine tw 5 (fun _=>hH) ?_;try simp only [Act.put,Z]
    refine tw 6 (fun _=>hH) ?_;try simp only [Act.put,Z]
    refine tw 7 (fun _=>hH) ?_;try simp only [Act.put,Z]
    refine tt 8 hH ?_;try simp only [Act.put,Z]
    refine tw 9 (fun _=>hH) ?_;try simp only [Act.put,Z]
    refine tw 10 (fun _=>hH) ?_;try simp only [Act.put,Z]
    refine tw 11 (fun _=>hH) ?_;try simp only [Act.put,Z]
    refine tt 12 hH ?_;try simp only [Act.put,Z]
    refine tw 13 (fun _=>hH) ?_;try simp only [Act.put,Z]
    refine tw 14 (fun _=>hH) ?_;try simp only [Act.put,Z]
    refine tw 15 (fun _=>hH) ?_;try simp only [Act.put,Z]
    refine tt 16 hH ?_;try simp only [Act.put,Z]
    refine tw 17 (fun _=>hH) ?_;try simp only [Act.put,Z]
    refine tw 18 (fun _=>hH) ?_;try simp only [Act.put,Z]
    refine tw 19 (fun _=>hH) ?_;try simp only [Act.put,Z]
    refine tt 20 hH ?_;try simp only [Act.put,Z]
    refine TwoFree.one (i:=21) (by kernel_rfl) ?_
    refine wpOp_step (by simp only [G];rfl) (fun K' hK0=>?_)
    have HK:=hid hK0
    clear hK0
    go_simp
    obtain ⟨W8,hW8⟩:∃ W,W=(W7.alloc (.cells #[ii m,ii m,ii m,ii m] 3)).drew:=⟨_,rfl⟩
    rw [<- hW8]
    have hf78:Fr [] W7 W8:=by rw [hW8];exact ((Fr.refl _ _).alloc _).drew
    have hnw:∀ (j:Nat) (y:Value),[ii m,ii m,ii m,ii m][j]?=some y->W8.cell? ((⟨W7.heap.size,0,none⟩:Addr).add j)=some y:=by rw [hW8];exact zj8 W7 [ii m,ii m,ii m,ii m] 3
    have hs78:=hf78.size
    have ho8:W8.ownsRow 0 3 1 (.slice a4 l4 q4) l4 (xs 4):=qq7 HO7.out hf78 (by simp)
    clear hW8
    clear hH
    have hH:=HS.out W8 hf78
    refine HK.out _ _ ⟨fun _ _=>hH,?_⟩
    clear HK K';try simp only [Act.put,Z]
    refine TwoFree.one (i:=22) (by kernel_rfl) ?_
    refine wpOp_step (by simp only [G];rfl) (fun K' hK0=>?_)
    have HK:=hid hK0
    clear hK0
    rw [if_pos (by rfl)]
    refine jz0 _ _ 25 rfl 0 3 infI (ii 0) 1 8 Tryz.underlying25 hi0 hz0 hz1 hz2 rfl (.slice a4 l4 q4) l4 (xs 4) rfl ho8 ⟨W7.heap.size,0,none⟩ 4 4 [ii m,ii m,ii m,ii m] rfl rfl hnw (by simp [Value.oneCell']) (by unfold maxLen;omega) (by omega) (by omega) (by omega) ?_
    intro v9 w9 ho hk ha
    obtain ⟨g9,c9,rfl⟩:=qx0 ho (by omega)
    have hgf:=qk9 ha
    have hc94:w9.cell? ⟨bb,4,none⟩=some (.slice a4 l4 q4):=(hgf.cell bb 4 (by omega) HB4N.out).trans hH.1
    have hc99:w9.cell? ⟨bb,9,none⟩=some (ii m):=(hgf.cell bb 9 (by omega) HB4N.out).trans hH.2
    have hz94:w9.frozen? ⟨bb,4,none⟩=false:=(hgf.frozen bb 4 (by omega) HB4N.out).trans ((hf78.frozen bb 4 hbl7 (by simp)).trans hz4)
    clear hH
    have hH:=And.intro hc94 hc99
    refine HK.out _ _ ⟨fun _ _=>hH,?_⟩
    clear HK K' hnw ho8;try simp only [Act.put,Z]
    refine TwoFree.one (i:=23) (by kernel_rfl) ?_
    refine wpOp_step (by simp only [G];rfl) (fun K' hK0=>?_)
    have HK:=hid hK0
    clear hK0
    go_simp
    refine HK.out _ _ ⟨fun _ _=>hH,?_⟩
    clear HK K';try simp only [Act.put,Z]
    refine TwoFree.one (i:=24) (by kernel_rfl) ?_
    refine wpOp_step (by simp only [G];rfl) (fun K' hK0=>?_)
    have HK:=hid hK0
    clear hK0
    go_simp
    refine HK.out _ _ ⟨fun _ _=>hH,?_⟩
    clear HK K';try simp only [Act.put,Z]
    refine TwoFree.one (i:=25) (by kernel_rfl) ?_
    refine wpOp_step (by simp only [G];rfl) (fun K' hK0=>?_)
    have HK:=hid hK0
    clear hK0
    go_simp
    refine HK.out _ _ ⟨fun h6=>absurd rfl h6,TwoFree.done (by kernel_rfl) ?_ _⟩
    clear HK K'
    refine bodyPost_end (v:=.tuple #[]) (results_none rfl _ _ _) rfl ⟨rfl,?_⟩
    obtain ⟨x3,x4,x5,x6,x7,x10,x11⟩:=HX.out
    obtain ⟨hB10,hF10⟩:=(HB7.out.fr hf78 (by simp) (by simp)).push 4 (by omega) (.slice (some ⟨g9,0,none⟩) (l4+4) c9) [ii m,ii m,ii m,ii m] (by rw [show upd xs 3 (xs 3 ++ L4) 4=xs 4 from rfl,HL4.out];exact ho) (by rw [show upd rv 3 v3 4=rv 4 from rfl,HR4.out];exact ha)
    rw [show upd rv 3 v3 4=rv 4 from rfl] at hF10
    rw [show upd xs 3 (xs 3 ++ L4) 4=xs 4 from rfl] at hB10
    have F510:Fr (bb :: ((rv 3).ownBlock.toList ++ (rv 4).ownBlock.toList)) w5 (w9.setCell ⟨bb,4,none⟩ (.slice (some ⟨g9,0,none⟩) (l4+4) c9)) :=
     ((HF57.out.mono (fun x hx=>Or.inl (by rcases List.mem_cons.1 hx with q|q <;> simp_all))).then0 hf78).trans hF10 (fun x hx=>Or.inl (by rcases List.mem_cons.1 hx with q|q <;> simp_all))
    obtain ⟨WT,hWT⟩:∃ W,W=w9.setCell ⟨bb,4,none⟩ (.slice (some ⟨g9,0,none⟩) (l4+4) c9):=⟨_,rfl⟩
    rw [<- hWT] at hB10 F510 |-
    have hsz:=F510.size
    have hrow:=HROWS.out
    have hs1w:w.heap.size<=W1.heap.size:=by have:=HS0.out;have:=HF01.out.size;omega
    have hs57:=HF57.out.size
    have hLl:L4.length=4:=by rw [HLL.out];rfl
    have hbl1:=HBR1.out.lt
    have hall:∀ b∈KL ++ KS,b≠bb/\(∀ k,k < 5->(rv k).ownBlock≠some b)/\(b∈K\/b∈[pb]\/w.heap.size<=b)/\b < w5.heap.size:=fun b hb=>by
     rcases List.mem_append.1 hb with q|q
     ·obtain ⟨t1,t2⟩:=x11 b q
      exact ⟨fun e=>HNB.out (e ▸ t1),t2,Or.inl t1,by have:=HKL.out b t1;omega⟩
     ·have hb5:=HKS2.out b q
      rcases HKS1.out b q with r|r
      ·subst r
       exact ⟨fun e=>hbp e.symm,HRB.out,Or.inr (Or.inl (by simp)),hb5⟩
      ·exact ⟨by omega,fun k hk e=>by have:=hrow k hk b e;omega,Or.inr (Or.inr (by omega)),hb5⟩
    have n510:∀ b,b≠bb->(∀ k,k < 5->(rv k).ownBlock≠some b)->b∉bb :: ((rv 3).ownBlock.toList ++ (rv 4).ownBlock.toList):=fun b h1 h2 hm=>by
     rcases List.mem_cons.1 hm with q|q
     ·exact h1 q
     ·rcases List.mem_append.1 q with q|q
      ·exact h2 3 (by omega) (by simpa using q)
      ·exact h2 4 (by omega) (by simpa using q)
    have hBL:BL WT (KL ++ KS) (upd (upd xs 3 (xs 3 ++ L4)) 4 (xs 4 ++ [ii m,ii m,ii m,ii m])):=by
     have q:=((HL5.out.up (K':=KL ++ KS) (fun b hb=>List.mem_append_left _ hb)).people x4 L4 m (fun u hu=>(HMK.out u hu).up (fun b hb=>List.mem_append_right _ hb))).fr F510 (fun b hb=>n510 b (hall b hb).1 (hall b hb).2.1)
     rw [show (L4.map fun _=>ii m)=[ii m,ii m,ii m,ii m] by rw [HLL.out];rfl] at q
     exact q
    have newrow:∀ k,k < 5->∀ g,(upd (upd rv 3 v3) 4 (.slice (some ⟨g9,0,none⟩) (l4+4) c9) k).ownBlock=some g->(∃ k',k' < 5/\(rv k').ownBlock=some g)\/w5.heap.size<=g:=fun k hk g hg=>by
     by_cases k4:k=4
     ·subst k4
      rw [zj5] at hg
      rcases jz3 ha g hg with q|q
      ·exact Or.inl ⟨4,by omega,by rw [HR4.out];exact q⟩
      ·exact Or.inr (by omega)
     ·rw [qy6 _ _ k4] at hg
      by_cases k3:k=3
      ·subst k3
       rw [zj5] at hg
       rcases HIN7.out g hg with q|q
       · exact Or.inl ⟨3,by omega,q⟩
       · exact Or.inr q
      ·rw [qy6 _ _ k3] at hg
       exact Or.inl ⟨k,hk,hg⟩
    have rows_in:∀ b,b∈(List.range 5).filterMap (fun k=>(upd (upd rv 3 v3) 4 (.slice (some ⟨g9,0,none⟩) (l4+4) c9) k).ownBlock)->∃ k,k < 5/\(upd (upd rv 3 v3) 4 (.slice (some ⟨g9,0,none⟩) (l4+4) c9) k).ownBlock=some b:=fun b hb=>by
     obtain ⟨k,hk,e⟩:=List.mem_filterMap.1 hb
     exact ⟨k,List.mem_range.1 hk,e⟩
    refine ⟨⟨(KL ++ KS) ++ (List.range 5).filterMap (fun k=>(upd (upd rv 3 v3) 4 (.slice (some ⟨g9,0,none⟩) (l4+4) c9) k).ownBlock),⟨⟨_,_,m,KL ++ KS,hB10,hBL,x3,?_,?_,?_,?_,?_,hmb.2,fun k hk g hg=>?_,fun b hb=>⟨List.mem_append_left _ hb,fun k hk e=>?_⟩⟩,fun hm=>?_,fun b hb=>?_⟩,fun b hb=>?_⟩,?_⟩
    ·show (xs 3 ++ L4).length=(xs 4 ++ [ii m,ii m,ii m,ii m]).length
     rw [List.length_append,List.length_append,hLl,x4]
     rfl
    ·show (xs 0).length<=_
     omega
    ·show (xs 2).length<=_
     omega
    ·show (xs 3 ++ L4).length<=_
     rw [List.length_append,hLl]
     omega
    ·omega
    ·exact List.mem_append_right _ (List.mem_filterMap.2 ⟨k,List.mem_range.2 hk,hg⟩)
    ·rcases newrow k hk b e with ⟨k',hk',q⟩|q
     ·exact (hall b hb).2.1 k' hk' q
     ·have:=(hall b hb).2.2.2;omega
    ·rcases List.mem_append.1 hm with q|q
     ·exact (hall bb q).1 rfl
     ·obtain ⟨k,hk,e⟩:=rows_in bb q
      exact hB10.nb k hk e
    ·rcases List.mem_append.1 hb with q|q
     ·have:=(hall b q).2.2.2;omega
     ·obtain ⟨k,hk,e⟩:=rows_in b q
      exact ((hB10.own k hk).lt b e).2
    ·rcases List.mem_append.1 hb with q|q
     ·exact (hall b q).2.2.1
     ·obtain ⟨k,hk,e⟩:=rows_in b q
      rcases newrow k hk b e with ⟨k',hk',r⟩|r
      ·exact Or.inl (x10 k' hk' b r)
      ·exact Or.inr (Or.inr (by have:=HF5.out.size;omega))
    ·refine (((HF00.out.mono (fun x hx=>Or.inl (by simp_all))).then0 HF01.out).trans HF5.out (fun b hb=>Or.inl (by simp_all))).trans F510 (fun b hb=>?_)
     rcases List.mem_cons.1 hb with q|q
     ·exact Or.inl (by simp [q])
     ·rcases List.mem_append.1 q with q|q
      ·exact Or.inl (by simp [x10 3 (by omega) b (by simpa using q)])
      ·exact Or.inl (by simp [x10 4 (by omega) b (by simpa using q)])
structure Gm (w:World) (g:Value) (L:List Nat) (t:T):Prop where
 ex:∃ sb gb pb cap rb qb cap2,g=.pointer (some ⟨sb,0,none⟩)/\L=[sb,gb,pb,rb,qb]/\w.cell? ⟨sb,0,none⟩=some (.pointer (some ⟨gb,0,none⟩))/\w.cell? ⟨sb,1,none⟩=some (.pointer (some ⟨rb,0,none⟩))/\GS w gb pb cap t/\RG w rb qb cap2 t
 nd:L.Nodup
 ok:GOk t
 os:OS t
 tn:0<=t.turn/\t.turn<=1000000000
theorem Gm.lt {w:World}{g:Value}{L:List Nat}{t:T}(h:Gm w g L t):∀ b∈L,b < w.heap.size:=by
 obtain ⟨sb,gb,pb,cap,rb,qb,cap2,_,rfl,h3,h4,h5,h6⟩:=h.ex
 intro b hb
 simp only [List.mem_cons,List.not_mem_nil,or_false] at hb
 rcases hb with rfl|rfl|rfl|rfl|rfl
 ·exact qq1 h3
 ·exact h5.lt
 ·exact h5.row.lt
 ·exact h6.lt
 ·exact h6.row.lt
theorem Gm.fr {S:List Nat}{w w':World}{g:Value}{L:List Nat}{t:T}(h:Gm w g L t)(hf:Fr S w w')(hs:∀ b∈L,b∉S):Gm w' g L t:=by
 have hlt:=h.lt
 obtain ⟨⟨sb,gb,pb,cap,rb,qb,cap2,h1,rfl,h3,h4,h5,h6⟩,hnd,hok,hos,htn⟩:=h
 refine ⟨⟨sb,gb,pb,cap,rb,qb,cap2,h1,rfl,?_,?_,h5.fr hf (hs gb (by simp)) (hs pb (by simp)),h6.fr hf (hs rb (by simp)) (hs qb (by simp))⟩,hnd,hok,hos,htn⟩
 ·rw [hf.cell sb 0 (hlt sb (by simp)) (hs sb (by simp))];exact h3
 ·rw [hf.cell sb 1 (hlt sb (by simp)) (hs sb (by simp))];exact h4
theorem Gm.fr0 {w w':World}{g:Value}{L:List Nat}{t:T}(h:Gm w g L t)(hf:Fr [] w w'):Gm w' g L t:=h.fr hf (by simp)
structure SR (w:World) (bb:Nat) (L K:List Nat) (N:Nat) (tn:Int) (g':Value) (w':World):Prop where
 ex:∃ L' t' K',Gm w' g' L' t'/\Bk w' bb K' (N+1)/\(∀ x∈L',x∈L\/w.heap.size<=x)/\(∀ x∈K',x∈K\/w.heap.size<=x)/\(∀ x∈L',x≠bb/\x∉K')
 fr:Fr (bb :: (L ++ K)) w w'
structure PI (w0:World) (bb N:Nat) (g h:Value) (wr:World):Prop where
 ex:∃ L1 L2 t1 t2 K,Gm wr g L1 t1/\Gm wr h L2 t2/\Bk wr bb K N/\(∀ x∈L1,x∉L2)/\(∀ x∈L1,x≠bb/\x∉K)/\(∀ x∈L2,x≠bb/\x∉K)/\(∀ x∈L1,w0.heap.size<=x)/\(∀ x∈L2,w0.heap.size<=x)/\(∀ x∈K,w0.heap.size<=x)/\w0.heap.size<=bb
 fr:Fr [] w0 wr
theorem PI.swap {w0:World}{bb N:Nat}{g h:Value}{wr:World}(H:PI w0 bb N g h wr):PI w0 bb N h g wr:=by
 obtain ⟨⟨L1,L2,t1,t2,K,a,b,c,d,e,f,k,l,m,n⟩,hf⟩:=H
 exact ⟨⟨L2,L1,t2,t1,K,b,a,c,fun x h1 h2=>d x h2 h1,f,e,l,k,m,n⟩,hf⟩
theorem PI.more {w0:World}{bb N M:Nat}{g h:Value}{wr:World}(H:PI w0 bb N g h wr)(hm:N<=M):PI w0 bb M g h wr:=by
 obtain ⟨⟨L1,L2,t1,t2,K,a,b,c,d,e,f,k,l,m,n⟩,hf⟩:=H
 exact ⟨⟨L1,L2,t1,t2,K,a,b,c.more hm,d,e,f,k,l,m,n⟩,hf⟩
theorem PI.then0 {w0:World}{bb N:Nat}{g h:Value}{wr w':World}(H:PI w0 bb N g h wr)(h2:Fr [] wr w'):PI w0 bb N g h w':=by
 obtain ⟨⟨L1,L2,t1,t2,K,a,b,c,d,e,f,r⟩,hf⟩:=H
 exact ⟨⟨L1,L2,t1,t2,K,a.fr0 h2,b.fr0 h2,c.fr0 h2,d,e,f,r⟩,hf.then0 h2⟩
theorem PI.step {w0:World}{bb N:Nat}{g h g':Value}{wr w':World}(H:PI w0 bb N g h wr)(HS:∀ L t K,Gm wr g L t->Bk wr bb K N->(∀ x∈L,x≠bb/\x∉K)->SR wr bb L K N N g' w'):PI w0 bb (N+1) g' h w':=by
 obtain ⟨⟨L1,L2,t1,t2,K,a,b,c,d,e,f,k,l,m,n⟩,hf⟩:=H
 obtain ⟨⟨L',t',K',q1,q2,q3,q4,q5⟩,hf2⟩:=HS L1 t1 K a c e
 have hs:=hf.size
 have h2:=b.lt
 have h2n:∀ x∈L2,x∉bb :: (L1 ++ K):=fun x hx hm=>by
  rcases List.mem_cons.1 hm with h1|h1
  ·exact (f x hx).1 h1
  ·rcases List.mem_append.1 h1 with h1|h1
   ·exact d x h1 hx
   ·exact (f x hx).2 h1
 refine ⟨⟨L',L2,t',t2,K',q1,b.fr hf2 h2n,q2,fun x hx h2x=>?_,q5,fun x hx=>⟨(f x hx).1,fun hk=>?_⟩,fun x hx=>?_,l,fun x hx=>?_,n⟩,?_⟩
 ·rcases q3 x hx with h1|h1
  ·exact d x h1 h2x
  ·have:=h2 x h2x;omega
 ·rcases q4 x hk with h1|h1
  ·exact (f x hx).2 h1
  ·have:=h2 x hx;omega
 ·rcases q3 x hx with h1|h1
  ·exact k x h1
  ·omega
 ·rcases q4 x hx with h1|h1
  ·exact m x h1
  ·omega
 ·refine hf.trans hf2 (fun x hx=>Or.inr ?_)
  rcases List.mem_cons.1 hx with rfl|h1
  ·exact n
  ·rcases List.mem_append.1 h1 with h1|h1
   ·exact k x h1
   ·exact m x h1
theorem SR.same {w w':World}{bb N:Nat}{L K:List Nat}{tn:Int}{g:Value}{t:T}(h:Gm w g L t)(hb:Bk w bb K N)(ha:∀ x∈L,x≠bb/\x∉K)(hf:Fr [] w w'):SR w bb L K N tn g w' :=
  ⟨⟨L,t,K,h.fr0 hf,(hb.fr0 hf).more (by omega),fun x hx=>Or.inl hx,fun x hx=>Or.inl hx,ha⟩,hf.of0⟩
theorem SR.new {w w':World}{bb N:Nat}{L K L':List Nat}{tn:Int}{g':Value}{t':T}(hb:Bk w bb K N)(h:Gm w' g' L' t')(hn:∀ x∈L',w.heap.size<=x)(hf:Fr [] w w'):SR w bb L K N tn g' w' :=
  ⟨⟨L',t',K,h,(hb.fr0 hf).more (by omega),fun x hx=>Or.inr (hn x hx),fun x hx=>Or.inl hx,fun x hx=>⟨by have:=hn x hx;have:=hb.lt;omega,fun e=>by have:=hn x hx;have:=hb.kl x e;omega⟩⟩,hf.of0⟩
theorem qqz1 (u:U)(w:World):(binOp BinOp.eql 85 u.val u.val).run Tryz.prog w=.ok (.bool true) w:=by
  simp [go_sem]
theorem SR.owned {w w2 w3:World}{bb N:Nat}{L K D:List Nat}{tn:Int}{g:Value}{t:T}(hG:Gm w g L t)(hA:∀ x∈L,x≠bb/\x∉K)(hf:Fr [] w w2)(hO:OwnP w2 bb N K D w3)(hD:∀ x∈D,w.heap.size<=x):SR w bb L K N tn g w3:=by
 have hlt:=hG.lt
 obtain ⟨⟨K',hK1,hK2⟩,hF⟩:=hO
 have hs:=hf.size
 have hn:∀ x∈L,x∉bb :: (K ++ D):=fun x hx hm=>by
  rcases List.mem_cons.1 hm with q|q
  ·exact (hA x hx).1 q
  ·rcases List.mem_append.1 q with q|q
   ·exact (hA x hx).2 q
   ·have:=hD x q;have:=hlt x hx;omega
 refine ⟨⟨L,t,K',(hG.fr0 hf).fr hF hn,hK1,fun x hx=>Or.inl hx,fun x hx=>?_,fun x hx=>⟨(hA x hx).1,fun hm=>?_⟩⟩,(hf.of0 (S:=bb :: (L ++ K))).trans hF (fun b hb=>?_)⟩
 ·rcases hK2 x hx with q|q|q
  ·exact Or.inl q
  ·exact Or.inr (hD x q)
  ·exact Or.inr (by omega)
 ·rcases hK2 x hm with q|q|q
  ·exact (hA x hx).2 q
  ·have:=hD x q;have:=hlt x hx;omega
  ·have:=hlt x hx;omega
 ·rcases List.mem_cons.1 hb with q|q
  ·exact Or.inl (by simp [q])
  ·rcases List.mem_append.1 q with q|q
   ·exact Or.inl (by simp [q])
   ·exact Or.inr (hD b q)
theorem SR.after {w w2 w3:World}{bb N:Nat}{L K:List Nat}{tn:Int}{g:Value}(h:SR w bb L K N tn g w2)(hf:Fr [] w2 w3):SR w bb L K N tn g w3:=by
 obtain ⟨⟨L',t',K',q1,q2,q3,q4,q5⟩,hF⟩:=h
 exact ⟨⟨L',t',K',q1.fr0 hf,q2.fr0 hf,q3,q4,q5⟩,hF.then0 hf⟩
theorem xx0 (g:Value)(L K:List Nat)(t:T)(bb N:Nat)(w:World)(hG:Gm w g L t)(hB:Bk w bb K N)(hA:∀ x∈L,x≠bb/\x∉K)(hN:N<=2000000) :
  Calls Tryz.prog 56 #[g,.pointer (some ⟨bb,0,none⟩)] w fun e w'=>e=.returned (.bool true)/\SR w bb L K N t.turn g w':=by
 have HG:=hid hG
 have HB:=hid hB
 have HA:=hid hA
 have hbl:=hB.lt
 have HKL:=hid hB.kl
 have hul:t.us.length<=100:=hG.ok.len
 have hlt:=hG.lt
 obtain ⟨⟨sb,gb,pb,cap,rb,qb,cap2,rfl,rfl,hx,hy,hgs,hrg⟩,_⟩:=hG
 have hsl:=hlt sb (by simp)
 have hrl:=hlt rb (by simp)
 have hql:=hlt qb (by simp)
 have C1:=gv4 gb pb cap t w hgs
 have HRG:=hid hrg
 clear hgs hrg hB hA hlt
 go_enter Tryz.func56,Tryz.ntmps56
 go_wp2_with fail
 refine Calls.mono C1 ?_
 rintro e w1 ⟨lb,lc,rfl,hlb,hrow,hf1⟩
 dsimp only
 have hs1:=hf1.size
 obtain ⟨us,hus⟩:∃ us,t.us=us:=⟨_,rfl⟩
 have hrg1:=HRG.out.fr0 hf1
 have HC:Hid (∀ W,Fr [] w1 W->W.cell? ⟨sb,1,none⟩=some (.pointer (some ⟨rb,0,none⟩))/\W.cell? ⟨rb,148,none⟩=some (.slice (some ⟨qb,0,none⟩) us.length cap2)/\PRow W lb lc us/\PRow W qb cap2 us):=fun W hf=>by
  have h1:=hrg1.fr0 hf
  have h2:=h1.c148
  have h3:=h1.row
  rw [hus] at h2 h3
  refine ⟨((hf1.then0 hf).cell sb 1 hsl (by simp)).trans hy,h2,?_,h3⟩
  rw [<- hus]
  exact hrow.fr hf (by simp)
 rw [hus] at hul hrow |-
 have HUS:=hid hus
 have HROW:=hid hrow
 obtain ⟨k1,k2,_,_⟩:=HC.out w1 (Fr.refl _ _)
 clear C1 hrg1 hus hrow hx hy
 go_wp2_with fail
 clear k1 k2
 go_loopw [6,7] (fun s i wr=>s=.bool true/\∃ k:Nat,k<=us.length/\i=.int .i64 k/\Fr [] w1 wr) (fun _ i _=>us.length - (intOf i).toNat)
 case atStart=>exact ⟨rfl,0,Nat.zero_le _,rfl,Fr.refl _ _⟩
 case round =>
  obtain ⟨rfl,k,hk,rfl,hf⟩:=hrel
  by_cases hlt:k < us.length
  ·have hlti:(k:Int) < (us.length:Int):=by omega
   obtain ⟨k1,k2,k3,k4⟩:=HC.out wr hf
   obtain ⟨u,hu⟩:∃ u,us[k]?=some u:=⟨us[k],List.getElem?_eq_getElem hlt⟩
   obtain ⟨c0,c1,c2,c3,c4,c5,c6,c7,c8,c9,c10⟩:=k3.ppl.at hu
   obtain ⟨d0,d1,d2,d3,d4,d5,d6,d7,d8,d9,d10⟩:=k4.ppl.at hu
   have heq:=qqz1 u
   clear k3 k4 hu
   go_wp2_with fail
   go_quiet (fail)
   go_wp2_with fail
   go_roundw
   case rel=>exact ⟨rfl,k+1,hlt,by go_num,hf.drewN _⟩
   case measure=>simp [intOf];omega
  ·have hlti:¬ (k:Int) < (us.length:Int):=by omega
   have C2:=vv0 bb N lb lc w.heap.size K us wr ((HB.out.fr0 hf1).fr0 hf) hN (HC.out wr hf).2.2.1 (by omega) hlb hbl HKL.out
   have HC2:=(show Hid (Calls Tryz.prog 100 #[.pointer (some ⟨bb,0,none⟩),.slice (some ⟨lb,0,none⟩) us.length lc] wr fun e w'=>e=.returned (.tuple #[])/\OwnP wr bb N K [lb] w') from C2)
   clear C2
   go_wp2_with (go_at_call 100;refine Calls.mono HC2.out ?_;rintro e w3 ⟨rfl,hown⟩;have HOWN:=(hid hown);clear hown)
   go_ret
   exact ⟨rfl,SR.owned HG.out HA.out (hf1.then0 hf) HOWN.out (by simp;exact hlb)⟩
end Go.Proofs.YtapabahhfanmmaaGreatDoor
