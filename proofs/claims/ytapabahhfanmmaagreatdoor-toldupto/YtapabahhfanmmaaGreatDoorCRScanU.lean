import Derived.Test.YtapabahhfanmmaaGreatDoorCBookL
import Derived.Test.YtapabahhfanmmaaGreatDoorCTellG
namespace Go.Proofs.YtapabahhfanmmaaGreatDoor
open Go.RowKit
set_option maxRecDepth 100000
set_option maxHeartbeats 2000000
structure SC (w:World) (sb:Nat) (l:List UInt8) (k:Nat) (bad:Bool):Prop where
 all:w.heap[sb]?=some (.cells #[.string ⟨l.toArray⟩,.int .i64 k,.bool bad] 232)
 le:k<=l.length
theorem SC.fr {S:List Nat}{w w':World}{sb:Nat}{l:List UInt8}{k:Nat}{bad:Bool}(h:SC w sb l k bad)(hf:Fr S w w')(hn:sb∉S):SC w' sb l k bad:=⟨hf.heap h.all hn,h.le⟩
theorem SC.lt {w:World}{sb:Nat}{l:List UInt8}{k:Nat}{bad:Bool}(h:SC w sb l k bad):sb < w.heap.size:=qq2 h.all
theorem SC.toBad {w:World}{sb:Nat}{l:List UInt8}{k:Nat}{bad:Bool}(h:SC w sb l k bad):SC (w.setCell ⟨sb,2,none⟩ (.bool true)) sb l k true:=⟨by rw [zv1 h.all];rfl,h.le⟩
theorem SC.toNext {w:World}{sb:Nat}{l:List UInt8}{k:Nat}{bad:Bool}(h:SC w sb l k bad)(hk:k < l.length):SC (w.setCell ⟨sb,1,none⟩ (.int .i64 ((k:Int)+1))) sb l (k+1) bad:=⟨by rw [zv1 h.all];rfl,hk⟩
def dq5 (l:List UInt8)(k:Nat)(bad:Bool)(most:Int):Prop:=bad=false/\0 < (qw4 (l.drop k)).2/\((qw4 (l.drop k)).1:Int)<=most
structure SN (w:World) (sb:Nat) (l:List UInt8) (k:Nat) (bad:Bool) (most:Int) (n:Int) (w':World):Prop where
 fr:Fr [sb] w w'
 all:(dq5 l k bad most/\n=(qw4 (l.drop k)).1/\SC w' sb l (k+(qw4 (l.drop k)).2) false)\/(¬ dq5 l k bad most/\n=0/\∃ k',SC w' sb l k' true)
theorem SN.wrong {w:World}{sb:Nat}{l:List UInt8}{k k':Nat}{bad:Bool}{most:Int}{w':World}(h:¬ dq5 l k bad most)(hf:Fr [sb] w w')(hs:SC w' sb l k' true):SN w sb l k bad most 0 w':=⟨hf,Or.inr ⟨h,rfl,k',hs⟩⟩
theorem gq6 (sb:Nat)(l:List UInt8)(k0:Nat)(bad:Bool)(most:Int)(hm:0<=most/\most<=1000000000)(w:World)(h:SC w sb l k0 bad)(hl:l.length<=2000000) :
  Calls Tryz.prog 138 #[.pointer (some ⟨sb,0,none⟩),.int .i64 most] w fun e w'=>∃ n:Int,e=.returned (.int .i64 n)/\SN w sb l k0 bad most n w':=by
 have HL:=h.lt
 cases bad
 ·obtain ⟨tx,htx⟩:∃ tx:ByteArray,tx=⟨l.toArray⟩:=⟨_,rfl⟩
  have hsz:tx.size=l.length:=by rw [htx];rfl
  have HG:Hid (∀ k (h1:k < l.length) (h2:k < tx.size),(tx[k]'h2).toNat=(l[k]'h1).toNat):=fun k h1 h2=>by subst htx;rfl
  have HC:Hid (∀ {w:World} {k:Nat} {bad:Bool},SC w sb l k bad->w.cell? ⟨sb,0,none⟩=some (.string tx)/\w.cell? ⟨sb,1,none⟩=some (.int .i64 k)/\w.cell? ⟨sb,2,none⟩=some (.bool bad)/\w.frozen? ⟨sb,1,none⟩=false/\w.frozen? ⟨sb,2,none⟩=false):=fun h=>by
   rw [htx]
   exact ⟨j9 h.all,j9 h.all,j9 h.all,qq0 h.all,qq0 h.all⟩
  obtain ⟨l',hl'⟩:∃ l',l'=l.drop k0:=⟨_,rfl⟩
  have hll:l'.length=l.length - k0:=by rw [hl',List.length_drop]
  have HGL:Hid (∀ k (h1:k < l'.length) (h2:k0+k < l.length),(l'[k]'h1)=(l[k0+k]'h2)):=fun k h1 h2=>by subst hl';simp
  obtain ⟨F,hF⟩:∃ F,qw4 l'=F:=⟨_,rfl⟩
  have HF0:=hid hF
  have HOK:Hid (∀ {n:Int} {w':World},Fr [sb] w w'->0 < F.2->(F.1:Int)<=most->n=F.1->SC w' sb l (k0+F.2) false->SN w sb l k0 false most n w'):=fun hf h1 h2 h3 h4=>by
   rw [<- hF,hl'] at h1 h2 h3 h4
   exact ⟨hf,Or.inl ⟨⟨rfl,h1,h2⟩,h3,h4⟩⟩
  have HNO:Hid (∀ {k':Nat} {w':World},Fr [sb] w w'->¬ (0 < F.2/\(F.1:Int)<=most)->SC w' sb l k' true->SN w sb l k0 false most 0 w'):=fun hf h1 h4=>by
   rw [<- hF,hl'] at h1
   exact SN.wrong (fun hn=>h1 hn.2) hf h4
  have hle:=h.le
  clear htx hF hl'
  go_enter Tryz.func138,Tryz.ntmps138
  go_wp2_with fail
  go_loopw [5,6,7] (fun s m i wr=>∃ k S:Nat,k<=5/\k<=l'.length/\i=.int .i64 k/\s=.int .i64 S/\m=.int .i64 ((128 ^ k:Nat):Int)/\S < 128 ^ k/\Hid (F=yz1 (5 - k) k S (l'.drop k))/\SC wr sb l (k0+k) false/\Fr [sb] w wr) (fun _ _ i _=>5 - (intOf i).toNat)
  case atStart=>exact ⟨0,0,by omega,by omega,rfl,rfl,rfl,by omega,HF0.out.symm,h,Fr.refl _ _⟩
  case round =>
   obtain ⟨k,S,hk5,hkl,rfl,rfl,rfl,hS,HF,hsc,hf⟩:=hrel
   obtain ⟨p,hpe⟩:∃ p,p=k0+k:=⟨_,rfl⟩
   rw [<- hpe] at hsc
   have HPE:=hid hpe
   obtain ⟨c0,c1,c2,z1,z2⟩:=HC.out hsc
   by_cases h5:k < 5
   ·have h5i:(k:Int) < 5:=by omega
    by_cases h1:k < l'.length
    ·have h2:k0+k < l.length:=by omega
     have h2t:p < tx.size:=by omega
     have h2p:p < l.length:=by omega
     have h2i:¬ (tx.size:Int)<=(p:Int):=by omega
     obtain ⟨b,hb'⟩:∃ b:Nat,(l'[k]'h1).toNat=b:=⟨_,rfl⟩
     have hb:(tx[p]'h2t).toNat=b:=(HG.out p h2p h2t).trans (by subst hpe;rw [<- HGL.out k h1 h2];exact hb')
     have hb2:b < 256:=by rw [<- hb'];exact (l'[k]'h1).toNat_lt
     have hsb:=qqq2 (b:=b) hS h5
     have hp:128 ^ k<=128 ^ 4:=Nat.pow_le_pow_right (by omega) (by omega)
     obtain ⟨m,hmm⟩:∃ m:Nat,m=128 ^ k:=⟨_,rfl⟩
     obtain ⟨S',hS'⟩:∃ S':Nat,S'=S+b % 128*128 ^ k:=⟨_,rfl⟩
     obtain ⟨r,hr⟩:∃ r:Nat,r=b % 128:=⟨_,rfl⟩
     rw [<- hS'] at hsb
     rw [<- hmm] at hp |-
     have hpr:m*r=S' - S:=by rw [hS',<- hmm,<- hr,Nat.mul_comm];omega
     have hSS:S<=S':=by omega
     have hrd:(b:Int).tmod 128=(r:Int):=by rw [hr,Int.tmod_eq_emod_of_nonneg (by omega)];omega
     have hpi:(m:Int)*(r:Int)=(S':Int) - (S:Int):=by rw [<- Int.natCast_mul,hpr];omega
     have HB:=(show Hid _ from hb')
     have HS':=(show Hid _ from hS')
     have HM:Hid (128*m=128 ^ (k+1)):=by show _=_;rw [hmm,Nat.pow_succ,Nat.mul_comm]
     clear hb' hS' hr hmm hpr hpe
     have hsn:=hsc.toNext h2p
     go_wp2_with fail
     go_region
     go_wp2_with fail
     go_region
     by_cases hmore:128<=b
     ·have hmi:¬ (b:Int) < 128:=by omega
      go_wp2_with fail
      go_roundw
      case rel=>exact ⟨k+1,S',by omega,by omega,by go_num,by rw [show (S:Int)+((S':Int) - (S:Int))=(S':Int) by omega],by rw [<- HM.out];push_cast;rfl,hsb.1,(show Hid _ from by show _=_;rw [HF.out,kk0 h1 h5 HB.out hmore,HS'.out]),by rw [<- Nat.add_assoc,<- HPE.out];exact hsn.fr (Fr.refl [] _).drew.drew (by simp),(hf.setCell _ _ (by simp)).drew.drew⟩
      case measure=>simp [intOf];omega
     ·have hmi:(b:Int) < 128:=by omega
      have HLF:=kx9 (S:=S) h1 h5 HB.out hmore
      have hS2:S'=S+b*128 ^ k:=by rw [HS'.out,Nat.mod_eq_of_lt (by omega)]
      rw [<- HF.out,<- hS2] at HLF
      have HLF:=hid HLF
      clear hS2
      by_cases hb0:b=0/\0 < k
      ·have hki:(0:Int) < (k:Int):=by omega
       have hbt:((b:Int)==0)=true:=by simp;omega
       have hF0:F=(0,0):=by rw [HLF.out,if_pos (Or.inl hb0)]
       subst hF0
       clear hb0
       go_wp2_with fail
       go_ret
       exact ⟨0,rfl,HNO.out ((hf.setCell _ _ (by simp)).setCell _ _ (by simp)).drew.drew (by simp) (hsn.toBad.fr (Fr.refl [] _).drew.drew (by simp))⟩
      ·by_cases hbig:most < (S':Int)
       ·have hbi:most < (S:Int)+((S':Int) - (S:Int)):=by omega
        have hF0:¬ (0 < F.2/\(F.1:Int)<=most):=by
         rw [HLF.out]
         split
         ·simp
         ·exact fun h=>by have:=h.2;dsimp only at this;omega
        by_cases hb1:b=0
        ·have hk0:¬ (0:Int) < (k:Int):=by omega
         have hbt:((b:Int)==0)=true:=by simp;omega
         clear hb0 hb1
         go_wp2_with fail
         go_ret
         exact ⟨0,rfl,HNO.out ((hf.setCell _ _ (by simp)).setCell _ _ (by simp)).drew.drew hF0 (hsn.toBad.fr (Fr.refl [] _).drew.drew (by simp))⟩
        ·have hbt:((b:Int)==0)=false:=by simp;omega
         clear hb0
         go_wp2_with fail
         go_ret
         exact ⟨0,rfl,HNO.out ((hf.setCell _ _ (by simp)).setCell _ _ (by simp)).drew.drew hF0 (hsn.toBad.fr (Fr.refl [] _).drew.drew (by simp))⟩
       ·have hbi:¬ most < (S:Int)+((S':Int) - (S:Int)):=by omega
        have hF0:F=(S',k+1):=by rw [HLF.out,if_neg (by omega)]
        subst hF0
        have HD:Hid ((S:Int)+((S':Int) - (S:Int))=(S':Int)/\(S':Int)<=most):=by show _/\_;omega
        by_cases hb1:b=0
        ·have hk0:¬ (0:Int) < (k:Int):=by omega
         have hbt:((b:Int)==0)=true:=by simp;omega
         clear hb0 hb1
         go_wp2_with fail
         go_ret
         exact ⟨_,rfl,HOK.out (hf.setCell _ _ (by simp)).drew.drew (by simp) HD.out.2 HD.out.1 (by rw [<- Nat.add_assoc,<- HPE.out];exact hsn.fr (Fr.refl [] _).drew.drew (by simp))⟩
        ·have hbt:((b:Int)==0)=false:=by simp;omega
         clear hb0
         go_wp2_with fail
         go_ret
         exact ⟨_,rfl,HOK.out (hf.setCell _ _ (by simp)).drew.drew (by simp) HD.out.2 HD.out.1 (by rw [<- Nat.add_assoc,<- HPE.out];exact hsn.fr (Fr.refl [] _).drew.drew (by simp))⟩
    ·have h2:p=l.length:=by omega
     have h2i:(tx.size:Int)<=(p:Int):=by omega
     clear hpe
     have hF0:F=(0,0):=by rw [HF.out];exact xw3 (fun h=>h1 h.1)
     subst hF0
     go_wp2_with fail
     go_region
     go_wp2_with fail
     go_ret
     exact ⟨0,rfl,HNO.out (hf.setCell _ _ (by simp)).drew (by simp) (hsc.toBad.fr (Fr.refl [] _).drew (by simp))⟩
   ·have h5i:¬ (k:Int) < 5:=by omega
    clear hpe
    have hF0:F=(0,0):=by rw [HF.out];exact xw3 (fun h=>h5 h.2)
    subst hF0
    go_wp2_with fail
    go_ret
    exact ⟨0,rfl,HNO.out (hf.setCell _ _ (by simp)) (by simp) hsc.toBad⟩
 ·have c2:w.cell? ⟨sb,2,none⟩=some (.bool true):=j9 h.all
  have z2:w.frozen? ⟨sb,2,none⟩=false:=qq0 h.all
  go_enter Tryz.func138,Tryz.ntmps138
  go_wp2_with fail
  go_loopw [5,6,7] (fun s m i wr=>i=.int .i64 0/\wr=w) (fun _ _ i _=>5 - (intOf i).toNat)
  case atStart=>exact ⟨rfl,rfl⟩
  case round =>
   obtain ⟨rfl,rfl⟩:=hrel
   go_wp2_with fail
   go_ret
   exact ⟨0,rfl,SN.wrong (fun hn=>by cases hn.1) ((Fr.refl _ _).setCell _ _ (by simp)) h.toBad⟩
theorem xy5 {l:List UInt8}{bad:Bool}{m:Nat}(h:(rdN l bad m).2=true):∀ n,m<=n->(rdN l bad n).2=true
 | 0,hn=>by
    obtain rfl:m=0:=by omega
    exact h
 | n+1,hn=>by
  by_cases e:m=n+1
  ·subst e;exact h
  ·have:=xy5 h n (by omega)
   show ((rdN l bad n).2||_)=true
   rw [this];rfl
def RP (R:Prop)(l:List UInt8)(n k:Nat)(bad:Bool):Prop:=(bad=false/\rdN l false n=(l.drop k,false))\/(bad=true/\R)
theorem xv3 (R:Prop)(sb:Nat)(l:List UInt8)(n k:Nat)(bad:Bool)(most:Int)(hm:0<=most/\most<=1000000000)(w:World)(h:SC w sb l k bad)(hp:RP R l n k bad)(hl:l.length<=2000000)(hR:(rdN l false (n+1)).2=true\/most < nth l false n->R) :
  Calls Tryz.prog 138 #[.pointer (some ⟨sb,0,none⟩),.int .i64 most] w fun e w'=>∃ (v:Int) (k':Nat) (bad':Bool),e=.returned (.int .i64 v)/\SC w' sb l k' bad'/\RP R l (n+1) k' bad'/\(bad'=false->v=nth l false n/\v<=most)/\(0<=v/\v<=1000000000)/\(bad=true->bad'=true)/\Fr [sb] w w':=by
 refine Calls.mono (gq6 sb l k bad most hm w h hl) ?_
 rintro e w1 ⟨v,rfl,hf,hv⟩
 rcases hv with ⟨⟨rfl,h1,h2⟩,rfl,hs⟩|⟨hno,rfl,k',hs⟩
 ·rcases hp with ⟨_,hp⟩|⟨e,_⟩
  ·refine ⟨_,_,_,rfl,hs,Or.inl ⟨rfl,?_⟩,fun _=>⟨?_,h2⟩,by omega,fun e=>(by cases e),hf⟩
   ·show (_,_)=_
    rw [hp]
    dsimp only
    rw [List.drop_drop,show ((qw4 (l.drop k)).2==0)=false from by simp;omega]
    rfl
   ·unfold nth
    rw [hp]
  ·cases e
 ·refine ⟨0,k',true,rfl,hs,Or.inr ⟨rfl,?_⟩,fun e=>(by cases e),by omega,fun _=>rfl,hf⟩
  rcases hp with ⟨rfl,hp⟩|⟨_,r⟩
  ·refine hR ?_
   by_cases h1:0 < (qw4 (l.drop k)).2
   ·refine Or.inr ?_
    unfold nth
    rw [hp]
    exact Int.not_le.1 (fun h2=>hno ⟨rfl,h1,h2⟩)
   ·refine Or.inl ?_
    show ((rdN l false n).2||(qw4 (rdN l false n).1).2==0)=true
    rw [hp]
    simp;omega
  ·exact r
theorem qjz1 {α:Type}{xs:List α}(h:xs.length=11):∃ a0 a1 a2 a3 a4 a5 a6 a7 a8 a9 a10,xs=[a0,a1,a2,a3,a4,a5,a6,a7,a8,a9,a10]:=by
 match xs,h with
 | [a0,a1,a2,a3,a4,a5,a6,a7,a8,a9,a10],_=>exact ⟨a0,a1,a2,a3,a4,a5,a6,a7,a8,a9,a10,rfl⟩
structure SU (R:Prop) (W:World) (sb:Nat) (l:List UInt8) (n j:Nat) (v:Value) (wr:World):Prop where
 all:∃ (xs:List Int) (k':Nat) (bad':Bool),xs.length=j/\wr.ownsRow W.heap.size 3 1 v j (xs.map ii)/\(∀ x∈xs,0<=x/\x<=1000000000)/\SC wr sb l k' bad'/\RP R l (n+j) k' bad'/\(bad'=false->∀ f (h:f < xs.length),xs[f]=nth l false (n+f))
 fr:Fr [sb] W wr
theorem kq4 (R:Prop)(sb:Nat)(l:List UInt8)(n k:Nat)(bad:Bool)(w:World)(h:SC w sb l k bad)(hp:RP R l n k bad)(hl:l.length<=2000000)(hR:(rdN l false (n+11)).2=true->R) :
  Calls Tryz.prog 139 #[.pointer (some ⟨sb,0,none⟩)] w fun e w'=>∃ (u:U) (k':Nat) (bad':Bool),e=.returned u.val/\SC w' sb l k' bad'/\RP R l (n+11) k' bad'/\(bad'=false->u=zx2 (fun f=>nth l false (n+f)))/\(∀ x∈u.nums,0<=x/\x<=1000000000)/\Fr [sb] w w':=by
 obtain ⟨W,hW⟩:∃ W,W=w.alloc (.cells zeroU.arr 85):=⟨_,rfl⟩
 have hfW:Fr [] w W:=by rw [hW];exact (Fr.refl _ _).alloc _
 have hWs:W.heap.size=w.heap.size+1:=by rw [hW];simp
 have hWh:W.heap[w.heap.size]?=some (.cells zeroU.arr 85):=by rw [hW];exact qq6 _ _
 have hlt:=h.lt
 have hne:w.heap.size≠sb:=by omega
 have hst:SU R W sb l n 0 (.slice none 0 0) W:=⟨⟨[],k,bad,rfl,⟨rfl,Or.inl ⟨rfl,rfl⟩⟩,by simp,h.fr hfW (by simp),hp,fun _ f hf=>by simp at hf⟩,Fr.refl _ _⟩
 have HNX:Hid (∀ {j k':Nat} {bad':Bool} {w1:World},j < 11->SC w1 sb l k' bad'->RP R l (n+j) k' bad'->Calls Tryz.prog 138 #[.pointer (some ⟨sb,0,none⟩),.int .i64 1000000000] w1 fun e w'=>∃ (v:Int) (k':Nat) (bad'':Bool),e=.returned (.int .i64 v)/\SC w' sb l k' bad''/\RP R l (n+j+1) k' bad''/\(bad''=false->v=nth l false (n+j)/\v<=1000000000)/\(0<=v/\v<=1000000000)/\(bad'=true->bad''=true)/\Fr [sb] w1 w'):=fun {j} _ _ _ hj hs hp=>xv3 R sb l _ _ _ 1000000000 (by omega) _ hs hp hl (fun ho=>hR (by
  rcases ho with h1|h1
  ·exact xy5 h1 _ (by omega)
  ·have:=jj0 l false (n+j)
   omega))
 obtain ⟨inf,hi0,hz0,hz1,hz2⟩:=info_parts kk6
 have HI:Hid (∀ x0 x1 x2 x3 x4 x5 x6 x7 x8 x9 x10:Int,(Tryz.prog.info? 85).map (·.size)=some (U.mk x0 x1 x2 x3 x4 x5 x6 x7 x8 x9 x10).arr.size):=by intro _ _ _ _ _ _ _ _ _ _ _;show _=some 11;kernel_rfl
 have HSB:=hid hp
 have HFW:=hid hfW
 have HWS:=hid hWs
 have HWH:=hid hWh
 have HNE:=hid hne
 have HSBL:Hid (sb < w.heap.size):=hlt
 clear h hp hfW hR hWh
 go_enter Tryz.func139,Tryz.ntmps139
 go_wp2_with fail
 rw [<- hW]
 clear hW
 go_loopw [3,4] (fun v i wr=>∃ j:Nat,j<=11/\i=.int .i64 j/\SU R W sb l n j v wr) (fun _ i _=>11 - (intOf i).toNat)
 case atStart=>exact ⟨0,by omega,rfl,hst⟩
 case round =>
  obtain ⟨j,hj,rfl,⟨xs,k',bad',hxl,hown,hxb,hsc,hrp,hxs⟩,hfr⟩:=hrel
  by_cases hlt:j < 11
  ·have hlti:(j:Int) < 11:=by omega
   clear hst
   go_wp2_with fail
   refine Calls.mono (HNX.out hlt hsc hrp) ?_
   rintro e w2 ⟨x,k2,bad2,rfl,hs2,hp2,hv2,hb2,hbb2,hf2⟩
   dsimp only
   have HN:Hid (∀ (W:World) (j:Nat) (u:Value),[ii x][j]?=some u->(W.alloc (.cells #[.int .i64 x] 3)).cell? ((⟨W.heap.size,0,none⟩:Addr).add j)=some u):=by
    intro W j u hu
    have hj:j=0:=by
     have:=(List.getElem?_eq_some_iff.1 hu).1
     simp at this
     exact this
    subst hj
    rw [Addr.add_lit,j9 (qq6 W _)]
    simpa using hu
   have hob:∀ b,u3.ownBlock=some b->W.heap.size<=b:=fun b hb=>qj1 hown hb
   have hnb:∀ b,u3.ownBlock=some b->b∉[sb]:=fun b hb hc=>by have:=hob b hb;simp at hc;omega
   have HOW:Hid ((w2.alloc (.cells #[.int .i64 x] 3)).ownsRow W.heap.size 3 1 u3 j (xs.map ii)):=qq7 (qq7 hown hf2 hnb) ((Fr.refl [] w2).alloc _) (by simp)
   have HB1:=hid hob
   have hw2:W.heap.size<=w2.heap.size:=(hfr.trans hf2 (by simp)).size
   have hxm:(xs.map ii).length=j:=by simp [hxl]
   have HX2:Hid ((∀ y∈xs ++ [x],0<=y/\y<=1000000000)/\(bad2=false->∀ f (h:f < (xs ++ [x]).length),(xs ++ [x])[f]=nth l false (n+f))):=by
    refine ⟨fun y hy=>?_,fun hb f hf=>?_⟩
    ·rcases List.mem_append.1 hy with h1|h1
     ·exact hxb y h1
     ·simp at h1;subst h1;exact hb2
    ·by_cases hfx:f < xs.length
     ·rw [List.getElem_append_left hfx]
      refine hxs ?_ f hfx
      rcases hrp with ⟨e,_⟩|⟨e,r⟩
      ·exact e
      ·rcases hp2 with ⟨e2,hq⟩|⟨e2,_⟩
       ·exfalso
        exact absurd (hbb2 e) (by rw [hb];simp)
       ·rw [hb] at e2;cases e2
     ·have hfe:f=xs.length:=by simp at hf;omega
      subst hfe
      rw [List.getElem_append_right (Nat.le_refl _)]
      simp only [Nat.sub_self,List.getElem_cons_zero]
      rw [hxl]
      exact (hv2 hb).1
   clear hown hob hnb hxb hxs
   go_wp2_with (at_builtin;refine wpList_append_own _ rfl _ _ 25 rfl W.heap.size 3 inf (ii 0) 1 8 Tryz.underlying25 hi0 hz0 hz1 hz2 rfl (by decide) u3 j (xs.map ii) rfl HOW.out ⟨w2.heap.size,0,none⟩ 1 1 [ii x] rfl rfl (HN.out w2) (by simp [Value.oneCell']) (by unfold maxLen;omega) (by omega) (by simp;omega) ?_;intro v3 w3 hown3 hgrow hnil3)
   have hf3:Fr u3.ownBlock.toList w2 w3:=((Fr.refl _ _).alloc _).grow hgrow (fun g hg=>Or.inl (by simp [hg]))
   go_roundw
   case rel =>
    refine ⟨j+1,hlt,by go_num,⟨xs ++ [x],k2,bad2,by simp [hxl],by simpa using hown3,HX2.out.1,?_,by rw [<- Nat.add_assoc];exact hp2,HX2.out.2⟩,?_⟩
    ·exact hs2.fr hf3 (fun hc=>by have:=HB1.out sb (by simpa using hc);have:=HSBL.out;have:=HWS.out;omega)
    ·exact (hfr.trans hf2 (by simp)).trans hf3 (fun b hb=>Or.inr (HB1.out b (by simpa using hb)))
   case measure=>simp [intOf];omega
  ·have hje:j=11:=by omega
   subst hje
   obtain ⟨x0,x1,x2,x3,x4,x5,x6,x7,x8,x9,x10,rfl⟩:=qjz1 hxl
   have HO2:wr.ownsRow W.heap.size 3 1 u3 ([x0,x1,x2,x3,x4,x5,x6,x7,x8,x9,x10].map ii).length ([x0,x1,x2,x3,x4,x5,x6,x7,x8,x9,x10].map ii):=hown
   obtain ⟨g0,q0,e0,c0⟩:=zx1 HO2 (i:=0) (u:=ii x0) rfl
   obtain ⟨g1,q1,e1,c1⟩:=zx1 HO2 (i:=1) (u:=ii x1) rfl
   obtain ⟨g2,q2,e2,c2⟩:=zx1 HO2 (i:=2) (u:=ii x2) rfl
   obtain ⟨g3,q3,e3,c3⟩:=zx1 HO2 (i:=3) (u:=ii x3) rfl
   obtain ⟨g4,q4,e4,c4⟩:=zx1 HO2 (i:=4) (u:=ii x4) rfl
   obtain ⟨g5,q5,e5,c5⟩:=zx1 HO2 (i:=5) (u:=ii x5) rfl
   obtain ⟨g6,q6,e6,c6⟩:=zx1 HO2 (i:=6) (u:=ii x6) rfl
   obtain ⟨g7,q7,e7,c7⟩:=zx1 HO2 (i:=7) (u:=ii x7) rfl
   obtain ⟨g8,q8,e8,c8⟩:=zx1 HO2 (i:=8) (u:=ii x8) rfl
   obtain ⟨g9,q9,e9,c9⟩:=zx1 HO2 (i:=9) (u:=ii x9) rfl
   obtain ⟨g10,q10,e10,c10⟩:=zx1 HO2 (i:=10) (u:=ii x10) rfl
   subst e0
   injection e1 with e1 _ _
   injection e1 with e1
   injection e1 with e1 _ _
   subst e1
   injection e2 with e2 _ _
   injection e2 with e2
   injection e2 with e2 _ _
   subst e2
   injection e3 with e3 _ _
   injection e3 with e3
   injection e3 with e3 _ _
   subst e3
   injection e4 with e4 _ _
   injection e4 with e4
   injection e4 with e4 _ _
   subst e4
   injection e5 with e5 _ _
   injection e5 with e5
   injection e5 with e5 _ _
   subst e5
   injection e6 with e6 _ _
   injection e6 with e6
   injection e6 with e6 _ _
   subst e6
   injection e7 with e7 _ _
   injection e7 with e7
   injection e7 with e7 _ _
   subst e7
   injection e8 with e8 _ _
   injection e8 with e8
   injection e8 with e8 _ _
   subst e8
   injection e9 with e9 _ _
   injection e9 with e9
   injection e9 with e9 _ _
   subst e9
   injection e10 with e10 _ _
   injection e10 with e10
   injection e10 with e10 _ _
   subst e10
   have HGN:Hid (g0∉[w.heap.size]):=by
    show ¬ _
    have:=qj1 HO2 (b:=g0) rfl
    simp
    omega
   have hbw:=hfr.heap HWH.out (by simp;exact HNE.out)
   clear hst hown HO2
   go_wp2_with fail
   have K0:(wr.drew.cell? ⟨g0,0,none⟩=some (ii x0)/\wr.drew.cell? ⟨g0,1,none⟩=some (ii x1)/\wr.drew.cell? ⟨g0,2,none⟩=some (ii x2)/\wr.drew.cell? ⟨g0,3,none⟩=some (ii x3)/\wr.drew.cell? ⟨g0,4,none⟩=some (ii x4)/\wr.drew.cell? ⟨g0,5,none⟩=some (ii x5)/\wr.drew.cell? ⟨g0,6,none⟩=some (ii x6)/\wr.drew.cell? ⟨g0,7,none⟩=some (ii x7)/\wr.drew.cell? ⟨g0,8,none⟩=some (ii x8)/\wr.drew.cell? ⟨g0,9,none⟩=some (ii x9)/\wr.drew.cell? ⟨g0,10,none⟩=some (ii x10)):=⟨c0,c1,c2,c3,c4,c5,c6,c7,c8,c9,c10⟩
   clear c0 c1 c2 c3 c4 c5 c6 c7 c8 c9 c10
   refine wp_region_held_drew (S:=fun w':World=>(w'.cell? ⟨g0,0,none⟩=some (ii x0)/\w'.cell? ⟨g0,1,none⟩=some (ii x1)/\w'.cell? ⟨g0,2,none⟩=some (ii x2)/\w'.cell? ⟨g0,3,none⟩=some (ii x3)/\w'.cell? ⟨g0,4,none⟩=some (ii x4)/\w'.cell? ⟨g0,5,none⟩=some (ii x5)/\w'.cell? ⟨g0,6,none⟩=some (ii x6)/\w'.cell? ⟨g0,7,none⟩=some (ii x7)/\w'.cell? ⟨g0,8,none⟩=some (ii x8)/\w'.cell? ⟨g0,9,none⟩=some (ii x9)/\w'.cell? ⟨g0,10,none⟩=some (ii x10))) (by kernel_rfl) K0 (fun hH=>?_)
   refine (show wpAnyH Tryz.prog Region.Mode.any _ _ _ 35 (Array.replicate 35 false) _ _ from ?_)
   iterate 34 (refine tn 35 hH ?_;try simp only [Act.put,Z])
   refine wpAnyH_ready (rs:=[34]) (by kernel_rfl) (by simp) ?_
   refine AllReadyH.cons (by simp only [G];rfl) (fun K hK=>?_) AllReadyH.nil
   have HKK:=hid hK
   clear hK
   have r0:wr.cell? ⟨w.heap.size,0,none⟩=some (ii 0):=j9 hbw
   have f0:wr.frozen? ⟨w.heap.size,0,none⟩=false:=qq0 hbw
   have r1:wr.cell? ⟨w.heap.size,1,none⟩=some (ii 0):=j9 hbw
   have f1:wr.frozen? ⟨w.heap.size,1,none⟩=false:=qq0 hbw
   have r2:wr.cell? ⟨w.heap.size,2,none⟩=some (ii 0):=j9 hbw
   have f2:wr.frozen? ⟨w.heap.size,2,none⟩=false:=qq0 hbw
   have r3:wr.cell? ⟨w.heap.size,3,none⟩=some (ii 0):=j9 hbw
   have f3:wr.frozen? ⟨w.heap.size,3,none⟩=false:=qq0 hbw
   have r4:wr.cell? ⟨w.heap.size,4,none⟩=some (ii 0):=j9 hbw
   have f4:wr.frozen? ⟨w.heap.size,4,none⟩=false:=qq0 hbw
   have r5:wr.cell? ⟨w.heap.size,5,none⟩=some (ii 0):=j9 hbw
   have f5:wr.frozen? ⟨w.heap.size,5,none⟩=false:=qq0 hbw
   have r6:wr.cell? ⟨w.heap.size,6,none⟩=some (ii 0):=j9 hbw
   have f6:wr.frozen? ⟨w.heap.size,6,none⟩=false:=qq0 hbw
   have r7:wr.cell? ⟨w.heap.size,7,none⟩=some (ii 0):=j9 hbw
   have f7:wr.frozen? ⟨w.heap.size,7,none⟩=false:=qq0 hbw
   have r8:wr.cell? ⟨w.heap.size,8,none⟩=some (ii 0):=j9 hbw
   have f8:wr.frozen? ⟨w.heap.size,8,none⟩=false:=qq0 hbw
   have r9:wr.cell? ⟨w.heap.size,9,none⟩=some (ii 0):=j9 hbw
   have f9:wr.frozen? ⟨w.heap.size,9,none⟩=false:=qq0 hbw
   have r10:wr.cell? ⟨w.heap.size,10,none⟩=some (ii 0):=j9 hbw
   have f10:wr.frozen? ⟨w.heap.size,10,none⟩=false:=qq0 hbw
   go_simp
   have h5:=set11 (v:=(⟨x0,x1,x2,x3,x4,x5,x6,x7,x8,x9,x10⟩:U)) hbw
   have hf5:Fr [w.heap.size] wr ((((((((((((wr).setCell ⟨w.heap.size,0,none⟩ (.int .i64 x0)).setCell ⟨w.heap.size,1,none⟩ (.int .i64 x1)).setCell ⟨w.heap.size,2,none⟩ (.int .i64 x2)).setCell ⟨w.heap.size,3,none⟩ (.int .i64 x3)).setCell ⟨w.heap.size,4,none⟩ (.int .i64 x4)).setCell ⟨w.heap.size,5,none⟩ (.int .i64 x5)).setCell ⟨w.heap.size,6,none⟩ (.int .i64 x6)).setCell ⟨w.heap.size,7,none⟩ (.int .i64 x7)).setCell ⟨w.heap.size,8,none⟩ (.int .i64 x8)).setCell ⟨w.heap.size,9,none⟩ (.int .i64 x9)).setCell ⟨w.heap.size,10,none⟩ (.int .i64 x10)):=(Fr.refl _ _).set11 w.heap.size (⟨x0,x1,x2,x3,x4,x5,x6,x7,x8,x9,x10⟩:U) (Or.inl (by simp))
   clear r0 f0 r1 f1 r2 f2 r3 f3 r4 f4 r5 f5 r6 f6 r7 f7 r8 f8 r9 f9 r10 f10 hbw
   generalize (((((((((((wr).setCell ⟨w.heap.size,0,none⟩ (.int .i64 x0)).setCell ⟨w.heap.size,1,none⟩ (.int .i64 x1)).setCell ⟨w.heap.size,2,none⟩ (.int .i64 x2)).setCell ⟨w.heap.size,3,none⟩ (.int .i64 x3)).setCell ⟨w.heap.size,4,none⟩ (.int .i64 x4)).setCell ⟨w.heap.size,5,none⟩ (.int .i64 x5)).setCell ⟨w.heap.size,6,none⟩ (.int .i64 x6)).setCell ⟨w.heap.size,7,none⟩ (.int .i64 x7)).setCell ⟨w.heap.size,8,none⟩ (.int .i64 x8)).setCell ⟨w.heap.size,9,none⟩ (.int .i64 x9)).setCell ⟨w.heap.size,10,none⟩ (.int .i64 x10)=W5 at h5 hf5 |-
   have hgl:g0 < wr.heap.size:=qq1 hH.1
   have hgn:g0∉[w.heap.size]:=HGN.out
   have HC5:∀ j,W5.drew.cell? ⟨g0,j,none⟩=wr.drew.cell? ⟨g0,j,none⟩:=fun j=>hf5.cell _ _ hgl hgn
   refine HKK.out _ _ (by rw [HC5,HC5,HC5,HC5,HC5,HC5,HC5,HC5,HC5,HC5,HC5];exact hH) (fun hH=>?_)
   clear HKK K
   refine wpAnyH_done (by kernel_rfl) ?_ _
   go_wp2_with fail
   refine bodyPost_ret (v:=U.val (⟨x0,x1,x2,x3,x4,x5,x6,x7,x8,x9,x10⟩:U)) (results_cell_row Tryz.results139 _ _ w.heap.size 85 (U.arr (⟨x0,x1,x2,x3,x4,x5,x6,x7,x8,x9,x10⟩:U)) (0,0) _ rfl h5 Tryz.underlying85 rfl (HI.out x0 x1 x2 x3 x4 x5 x6 x7 x8 x9 x10)) rfl ⟨(⟨x0,x1,x2,x3,x4,x5,x6,x7,x8,x9,x10⟩:U),k',bad',rfl,hsc.fr hf5.drew (by simp;exact fun e=>HNE.out e.symm),hrp,fun hb=>?_,fun x hx=>hxb x hx,?_⟩
   ·have HX:=hxs hb
    have e0:=HX 0 (by simp)
    have e1:=HX 1 (by simp)
    have e2:=HX 2 (by simp)
    have e3:=HX 3 (by simp)
    have e4:=HX 4 (by simp)
    have e5:=HX 5 (by simp)
    have e6:=HX 6 (by simp)
    have e7:=HX 7 (by simp)
    have e8:=HX 8 (by simp)
    have e9:=HX 9 (by simp)
    have e10:=HX 10 (by simp)
    simp only [List.getElem_cons_zero,List.getElem_cons_succ] at e0 e1 e2 e3 e4 e5 e6 e7 e8 e9 e10
    rw [e0,e1,e2,e3,e4,e5,e6,e7,e8,e9,e10]
   ·exact ((HFW.out.of0.trans hfr (by simp)).trans hf5 (fun b hb=>Or.inr (by simp at hb;omega))).drew
end Go.Proofs.YtapabahhfanmmaaGreatDoor
