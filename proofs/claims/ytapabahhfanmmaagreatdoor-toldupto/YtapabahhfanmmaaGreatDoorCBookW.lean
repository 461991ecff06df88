import Derived.Test.YtapabahhfanmmaaGreatDoorCBookL
namespace Go.Proofs.YtapabahhfanmmaaGreatDoor
open Go.RowKit
set_option maxRecDepth 100000
set_option maxHeartbeats 2000000
theorem dx6:(Tryz.prog.info? 3).map (fun i=>(i.zero,i.size,i.bytes))=some (some (ii 0),1,8):=by kernel_rfl
theorem qjj2:(Tryz.prog.info? 25).map (fun i=>(i.zero,i.size,i.bytes))=some (some (.slice none 0 0),1,24):=by kernel_rfl
theorem qjj3:(Tryz.prog.info? 46).map (fun i=>(i.zero,i.size,i.bytes))=some (some (.slice none 0 0),1,24):=by kernel_rfl
abbrev yj8 (vs:List Value):List Nat:=vs.filterMap Value.ownBlock
theorem gy6 {vs:List Value}{v:Value}{j b:Nat}(h:vs[j]?=some v)(hb:v.ownBlock=some b):b∈yj8 vs:=List.mem_filterMap.2 ⟨v,List.mem_of_getElem? h,hb⟩
structure OPI (w:World) (bb N rb base:Nat) (K:List Nat) (vs:List Value) (i:Nat) (wr:World):Prop where
 ex:∃ rv xs nx KL,BR wr bb rv xs nx/\BL wr KL xs/\(xs 0).length=(xs 1).length/\(xs 3).length=(xs 4).length/\(xs 0).length<=8*N+4*i/\(xs 2).length<=3*N/\(xs 3).length<=4*N /\ -(3*(N:Int)) - i<=nx/\nx<=0/\(∀ k,k < 5->∀ g,(rv k).ownBlock=some g->g∈K\/w.heap.size<=g)/\(∀ b∈KL,(b∈K\/b∈yj8 vs\/w.heap.size<=b)/\b < wr.heap.size/\∀ k,k < 5->(rv k).ownBlock≠some b)/\(∀ j v b,i<=j->vs[j]?=some v->v.ownBlock=some b->b∉KL)
 l:wr.heap[rb]?=some (.cells vs.toArray 25)
 own:∀ j v,i<=j->vs[j]?=some v->∃ n cs,n<=2000000/\wr.ownsRow base 3 1 v n cs
 fr:Fr (bb :: (K ++ (rb :: yj8 vs))) w wr
structure OwnP (w:World) (bb N:Nat) (K D:List Nat) (w':World):Prop where
 ex:∃ K',Bk w' bb K' (N+1)/\∀ x∈K',x∈K\/x∈D\/w.heap.size<=x
 fr:Fr (bb :: (K ++ D)) w w'
structure FillI (W:World) (base n:Nat) (e:TypeId) (v:Value) (cs:List Value) (pat:Nat->Value) (k:Nat) (wr:World):Prop where
 own:wr.ownsRow base e 1 v n (qw8 1 pat k ++ cs.drop k)
 fr:Fr v.ownBlock.toList W wr
theorem FillI.put {W:World}{base n gb gc:Nat}{e:TypeId}{cs:List Value}{pat:Nat->Value}{k:Nat}{wr:World}(hp:∀ k,pat (k+1)=pat k)(h:FillI W base n e (.slice (some ⟨gb,0,none⟩) n gc) cs pat k wr)(hk:k < n)(hcs:cs.length=n):FillI W base n e (.slice (some ⟨gb,0,none⟩) n gc) cs pat (k+1) (wr.setCell ⟨gb,k,none⟩ (pat 0)):=by
 refine ⟨?_,h.fr.setCell _ _ (Or.inl (by simp [Value.ownBlock]))⟩
 obtain ⟨h1,h2⟩:=h.own
 rcases h2 with ⟨h2,_⟩|⟨g,cap,cur,e,hb,hh,hc,hm,hs,ht⟩
 ·cases h2
 ·cases e
  refine ⟨by simp [zv0,hcs];omega,Or.inr ⟨gb,gc,cur.setIfInBounds k (pat 0),rfl,hb,qz9 hh _ _,hc,hm,by simpa using hs,?_⟩⟩
  rw [Array.toList_setIfInBounds,List.take_set,ht]
  rw [<- yk1 hp k 1]
  rw [List.set_append_right _ _ (by rw [zv0];omega),zv0,List.append_assoc]
  congr 1
  rw [show k - k*1=0 by omega,List.drop_eq_getElem_cons (by omega)]
  rfl
theorem vv1 (bb N rb base:Nat) (K:List Nat) (vs:List Value) (w:World) (h:Bk w bb K N) (hN:N<=2000000) (hvl:vs.length<=2) (hl:w.heap[rb]?=some (.cells vs.toArray 25)) (hrb:base<=rb) (hbb:bb < base) (hK:∀ x∈K,x < base)
  (hown:∀ (j:Nat) (v:Value),vs[j]?=some v->∃ n cs,n<=2000000/\w.ownsRow base 3 1 v n cs) (hap:∀ (i j:Nat) (v v':Value) (g:Nat),i≠j->vs[i]?=some v->vs[j]?=some v'->v.ownBlock=some g->v'.ownBlock≠some g) :
  Calls Tryz.prog 98 #[.pointer (some ⟨bb,0,none⟩),.slice (some ⟨rb,0,none⟩) vs.length vs.length] w fun e w'=>e=.returned (.tuple #[])/\OwnP w bb N K (rb :: yj8 vs) w':=by
 obtain ⟨inf,hi0,hz0,hz1,hz2⟩:=info_parts dx6
 obtain ⟨inf1,hj0,hy0,hy1,hy2⟩:=info_parts qjj2
 obtain ⟨inf2,hk0,hx0,hx1,hx2⟩:=info_parts qjj3
 have hwb:base<=w.heap.size:=by have:=qq2 hl;omega
 have HVB:Hid (∀ (j:Nat) (v:Value) (b:Nat),vs[j]?=some v->v.ownBlock=some b->base<=b/\b < w.heap.size/\b≠rb/\b∉K/\b≠bb):=fun j v b hv hb=>by
  obtain ⟨n,cs,_,ho⟩:=hown j v hv
  obtain ⟨q1,q2⟩:=ho.lt b hb
  refine ⟨q1,q2,fun e=>?_,fun e=>by have:=hK b e;omega,by omega⟩
  subst e
  rcases ho.2 with ⟨rfl,_⟩|⟨g,cap,cur,rfl,_,hh,_⟩
  ·cases hb
  ·simp [Value.ownBlock] at hb
   subst hb
   rw [hl] at hh
   simp at hh
 have HI0:Hid (OPI w bb N rb base K vs 0 w):=by
  obtain ⟨⟨rv,xs,nx,KL,h1,h2,h3,h4,h5,h6,h7,h8,h9,h10,h11⟩,hn,hkl⟩:=h
  exact ⟨⟨rv,xs,nx,KL,h1,h2,h3,h4,by omega,h6,h7,by omega,h9,fun k hk g hg=>Or.inl (h10 k hk g hg),fun b hb=>⟨Or.inl (h11 b hb).1,hkl b (h11 b hb).1,(h11 b hb).2⟩,fun j v b _ hv hvb hm=>(HVB.out j v b hv hvb).2.2.2.1 (h11 b hm).1⟩,hl,fun j v _ hv=>hown j v hv,Fr.refl _ _⟩
 have HAP:=hid hap
 have hbw:bb < w.heap.size:=by omega
 have HNB:=hid h.nb
 have HRW:Hid (rb < w.heap.size):=qq2 hl
 clear h hl hown hap
 go_enter Tryz.func98,Tryz.ntmps98
 go_wp2_with fail
 go_loopw [4] (fun i wr=>∃ k:Nat,k<=vs.length/\i=.int .i64 k/\OPI w bb N rb base K vs k wr) (fun i _=>vs.length - (intOf i).toNat)
 case atStart=>exact ⟨0,Nat.zero_le _,rfl,HI0.out⟩
 case round =>
  obtain ⟨i,hi,rfl,hI⟩:=hrel
  by_cases hlt:i < vs.length
  ·have hlti:(i:Int) < (vs.length:Int):=by omega
   obtain ⟨wr0,hwr0⟩:∃ x,x=wr:=⟨_,rfl⟩
   rw [<- hwr0] at hI |-
   clear hwr0
   obtain ⟨v,hv⟩:∃ v,vs[i]?=some v:=⟨_,List.getElem?_eq_getElem hlt⟩
   obtain ⟨⟨rv,xs,nx,KL,h1,h2,h3,h4,h5,h6,h7,h8,h9,h10,h11,h12⟩,hl,hown,hfr⟩:=hI
   obtain ⟨n,cs,hn,ho⟩:=hown i v (Nat.le_refl _) hv
   have hcs:cs.length=n:=by have:=ho.1;omega
   obtain ⟨ao,vc,rfl⟩:=zv6 ho
   have hcv:wr0.cell? ⟨rb,i,none⟩=some (.slice ao n vc):=by rw [j9 hl];simpa using hv
   have hnx:=h1.nxt
   have hnz:=h1.fz 9
   have hrl:=qq2 hl
   have hbr:bb≠rb:=by omega
   have hvd:∀ b,Value.ownBlock (.slice ao n vc)=some b->b≠rb/\b≠bb/\b∉KL/\b < wr0.heap.size/\base<=b/\∀ k,k < 5->(rv k).ownBlock≠some b:=fun b hb=>by
    have q:=HVB.out i _ b hv hb
    refine ⟨q.2.2.1,q.2.2.2.2,h12 i _ b (Nat.le_refl _) hv hb,(ho.lt b hb).2,q.1,fun k hk e=>?_⟩
    rcases h10 k hk b e with r|r
    ·exact q.2.2.2.1 r
    ·omega
   have HVD:=hid hvd
   have HBR:=hid h1
   have HBL:=hid h2
   have HX:=(show Hid _ from And.intro h3 (And.intro h4 (And.intro h5 (And.intro h6 (And.intro h7 (And.intro h10 (And.intro h11 h12)))))))
   have HL:=hid hl
   have HOWN:=hid hown
   have HFR:=hid hfr
   have HV:=hid hv
   have HO:=hid ho
   clear hvd h1 h2 h3 h4 h5 h6 h7 h10 h11 h12 hl hown hfr hv ho
   go_wp2_with fail
   obtain ⟨m,hm⟩:∃ m,m=nx - 1:=⟨_,rfl⟩
   rw [<- hm]
   obtain ⟨W1,hW1⟩:∃ W,W=wr0.setCell ⟨bb,9,none⟩ (.int .i64 m):=⟨_,rfl⟩
   rw [<- hW1]
   have HKB:Hid (∀ b∈KL,b≠bb/\b≠rb):=fun b hb=>by
    rcases (HX.out.2.2.2.2.2.2.1 b hb).1 with q|q|q
    ·exact ⟨fun e=>HNB.out (e ▸ q),fun e=>by have:=hK b q;omega⟩
    ·obtain ⟨u,hu,hub⟩:=List.mem_filterMap.1 q
     obtain ⟨j,hj⟩:=List.mem_iff_getElem?.1 hu
     have:=HVB.out j u b hj hub
     exact ⟨this.2.2.2.2,this.2.2.1⟩
    ·have:=HFR.out.size
     have hrw:rb < w.heap.size:=HRW.out
     exact ⟨by omega,by omega⟩
   have hf01:Fr [bb] wr0 W1:=by rw [hW1];exact (Fr.refl _ _).setCell _ _ (by simp)
   have HBR1:Hid (BR W1 bb rv xs m):=by
    show BR W1 bb rv xs m
    rw [hW1];exact HBR.out.mark m
   have HBL1:Hid (BL W1 KL xs):=HBL.out.fr hf01 (fun b hb e=>(HKB.out b hb).1 (by simpa using e))
   have hcv1:W1.cell? ⟨rb,i,none⟩=some (.slice ao n vc):=(hf01.cell rb i hrl (by simp;omega)).trans hcv
   have HO1:Hid (W1.ownsRow base 3 1 (.slice ao n vc) n cs):=qq7 HO.out hf01 (fun b hb e=>(HVD.out b hb).2.1 (by simpa using e))
   have hrl1:rb < W1.heap.size:=Nat.lt_of_lt_of_le hrl hf01.size
   have hmb:-(3*(N:Int)) - 2<=m/\m<=0:=by omega
   have HM:=hid hm
   have HF01:=hid hf01
   have hrv:rb∉(Value.ownBlock (.slice ao n vc)).toList:=fun e=>(HVD.out rb (by simpa using e)).1 rfl
   have HCS:=hid hcs
   clear hm hW1 hcv hnx hnz hf01 hcs
   go_loopw [6] (fun j wr=>∃ k:Nat,k<=n/\j=.int .i64 k/\FillI W1 base n 3 (.slice ao n vc) cs (xy3 m) k wr) (fun j _=>n - (intOf j).toNat)
   case atStart=>exact ⟨0,Nat.zero_le _,rfl,HO1.out,Fr.refl _ _⟩
   case round =>
    obtain ⟨k,hk,rfl,hI⟩:=hrel
    have hcv2:wr.cell? ⟨rb,i,none⟩=some (.slice ao n vc):=(hI.fr.cell rb i hrl1 hrv).trans hcv1
    by_cases hlt2:k < n
    ·have hlti2:(k:Int) < (n:Int):=by omega
     obtain ⟨gb,gc,hge⟩:=qx0 hI.own (by omega)
     have hgh:∃ cur:Array Value,wr.heap[gb]?=some (.cells cur 3 (0,0))/\k < cur.size:=by
      rcases hI.own.2 with ⟨e,_⟩|⟨g,cap,cur,e,_,hh,hc,_,hs,_⟩
      ·rw [hge] at e;cases e
      ·rw [hge] at e;cases e
       exact ⟨cur,hh,by omega⟩
     cases hge
     obtain ⟨cur,hgh,hgs⟩:=hgh
     obtain ⟨old,hold⟩:∃ old,wr.cell? ⟨gb,k,none⟩=some old:=⟨_,(j9 hgh).trans (Array.getElem?_eq_getElem hgs)⟩
     have holz:wr.frozen? ⟨gb,k,none⟩=false:=qq0 hgh
     have HP:=(show Hid _ from hI.put (kw5 m) hlt2 HCS.out)
     clear hI hgh hgs
     go_wp2_with fail
     go_roundw
     case rel=>exact ⟨k+1,hlt2,by go_num,HP.out⟩
     case measure=>simp [intOf];omega
    ·have hlti2:¬ (k:Int) < (n:Int):=by omega
     have hkn:k=n:=by omega
     have ho2:=hI.own
     rw [hkn,List.drop_of_length_le (by rw [HCS.out];exact Nat.le_refl _),List.append_nil] at ho2
     have hf2:=hI.fr
     have HO2:=hid ho2
     clear hI hkn ho2
     obtain ⟨W2,hW2⟩:∃ W,W=wr:=⟨_,rfl⟩
     rw [<- hW2] at HO2 hcv2 hf2 |-
     clear hW2
     have hs2:W1.heap.size<=W2.heap.size:=hf2.size
     have hb2:base<=W2.heap.size:=by have:=HFR.out.size;have:=HF01.out.size;omega
     have HF2:=hid hf2
     have HAL:Hid (∀ (W:World) (cs:Array Value),W.ownsRow base 3 1 (.slice ao n vc) n (qw8 1 (xy3 m) n)->(W.alloc (.cells cs 3)).ownsRow base 3 1 (.slice ao n vc) n (qw8 1 (xy3 m) n)):=fun W cs h=>h.alloc _
     have HN1:Hid (∀ (W:World) (j:Nat) (u:Value),[ii m][j]?=some u->(W.alloc (.cells #[ii m] 3)).cell? ((⟨W.heap.size,0,none⟩:Addr).add j)=some u):=fun W=>zj8 W [ii m] 3
     have HN2:Hid (∀ (W:World) (j:Nat) (u:Value),[ii m,ii m][j]?=some u->(W.alloc (.cells #[ii m,ii m] 3)).cell? ((⟨W.heap.size,0,none⟩:Addr).add j)=some u):=fun W=>zj8 W [ii m,ii m] 3
     have HN3:Hid (∀ (W:World) (j:Nat) (u:Value),[ii m,ii m,ii m][j]?=some u->(W.alloc (.cells #[ii m,ii m,ii m] 3)).cell? ((⟨W.heap.size,0,none⟩:Addr).add j)=some u):=fun W=>zj8 W [ii m,ii m,ii m] 3
     clear hf2
     go_wp2_with (first
      | (
        at_builtin
        refine qj6 rfl (.tmp 50) (.tmp 52) 25 rfl base 3 inf (ii 0) 1 8 Tryz.underlying25 hi0 hz0 hz1 hz2 rfl (.slice ao n vc) n (qw8 1 (xy3 m) n) rfl (HAL.out _ _ HO2.out) ⟨W2.heap.size,0,none⟩ 1 1 [ii m] rfl rfl (HN1.out W2) (by simp [Value.oneCell']) (by unfold maxLen;omega) (by omega) (by simp;omega) (by omega) ?_
        intro v1 w3 ho1 hk1 ha1
        obtain ⟨g1,c1,rfl⟩:=qx0 ho1 (by omega)
        have HO3:=hid ho1
        have HK3:=hid hk1
        have HA3:Hid (jj4 (W2.alloc (.cells #[ii m] 3)) w3 (.slice ao n vc) (.slice (some ⟨g1,0,none⟩) (n+1) c1)):=ha1
        have hF3:Fr (Value.ownBlock (.slice ao n vc)).toList W1 w3:=(HF2.out.alloc _).trans (qk9 ha1) (fun x hx=>Or.inl hx)
        have hcv3:w3.cell? ⟨rb,i,none⟩=some (.slice ao n vc):=(hF3.cell rb i hrl1 hrv).trans hcv1
        have hs3:W2.heap.size<=w3.heap.size:=(by have:=(qk9 ha1).size;simp at this;omega)
        have HF3:=hid hF3
        clear ho1 hk1 ha1 hF3 hcv2)
      | (
        at_builtin
        refine qj6 rfl (.tmp 57) (.tmp 60) 25 rfl base 3 inf (ii 0) 1 8 Tryz.underlying25 hi0 hz0 hz1 hz2 rfl (.slice ao n vc) n (qw8 1 (xy3 m) n) rfl (HAL.out _ _ HK3.out) ⟨w3.heap.size,0,none⟩ 2 2 [ii m,ii m] rfl rfl (HN2.out w3) (by simp [Value.oneCell']) (by unfold maxLen;omega) (by omega) (by simp;omega) (by omega) ?_
        intro v2 w4 ho1 hk1 ha1
        obtain ⟨g2,c2,rfl⟩:=qx0 ho1 (by omega)
        have HO4:=hid ho1
        have HK4:=hid hk1
        have HA4:Hid (jj4 (w3.alloc (.cells #[ii m,ii m] 3)) w4 (.slice ao n vc) (.slice (some ⟨g2,0,none⟩) (n+2) c2)):=ha1
        have hF4:Fr (Value.ownBlock (.slice ao n vc)).toList W1 w4:=(HF3.out.alloc _).trans (qk9 ha1) (fun x hx=>Or.inl hx)
        have hcv4:w4.cell? ⟨rb,i,none⟩=some (.slice ao n vc):=(hF4.cell rb i hrl1 hrv).trans hcv1
        have hs4:w3.heap.size<=w4.heap.size:=(by have:=(qk9 ha1).size;simp at this;omega)
        have HF4:=hid hF4
        clear ho1 hk1 ha1 hF4 hcv3)
      | (
        at_builtin
        refine qj6 rfl (.tmp 65) (.tmp 69) 25 rfl base 3 inf (ii 0) 1 8 Tryz.underlying25 hi0 hz0 hz1 hz2 rfl (.slice ao n vc) n (qw8 1 (xy3 m) n) rfl (HAL.out _ _ HK4.out) ⟨w4.heap.size,0,none⟩ 3 3 [ii m,ii m,ii m] rfl rfl (HN3.out w4) (by simp [Value.oneCell']) (by unfold maxLen;omega) (by omega) (by simp;omega) (by omega) ?_
        intro v3 w5 ho1 hk1 ha1
        obtain ⟨g3,c3,rfl⟩:=qx0 ho1 (by omega)
        have HO5:=hid ho1
        have HK5:=hid hk1
        have HA5:Hid (jj4 (w4.alloc (.cells #[ii m,ii m,ii m] 3)) w5 (.slice ao n vc) (.slice (some ⟨g3,0,none⟩) (n+3) c3)):=ha1
        have hF5:Fr (Value.ownBlock (.slice ao n vc)).toList W1 w5:=(HF4.out.alloc _).trans (qk9 ha1) (fun x hx=>Or.inl hx)
        have hcv5:w5.cell? ⟨rb,i,none⟩=some (.slice ao n vc):=(hF5.cell rb i hrl1 hrv).trans hcv1
        have hs5:w4.heap.size<=w5.heap.size:=(by have:=(qk9 ha1).size;simp at this;omega)
        have HF5:=hid hF5
        clear ho1 hk1 ha1 hF5 hcv4))
     obtain ⟨KS,hKS1,hKS2,hm0,hm1,hm2,hm3⟩:=dk9 (kw5 m) HO3.out HA3.out HK4.out HO4.out HA4.out HO5.out HA5.out
     have HMK:Hid (∀ u∈[Value.slice ao n vc,.slice (some ⟨g1,0,none⟩) (n+1) c1,.slice (some ⟨g2,0,none⟩) (n+2) c2,.slice (some ⟨g3,0,none⟩) (n+3) c3],Mks w5 KS u m):=fun u hu=>by
      simp only [List.mem_cons,List.not_mem_nil,or_false] at hu
      rcases hu with rfl|rfl|rfl|rfl
      ·exact hm0.ints (by omega)
      ·exact hm1.ints (by omega)
      ·exact hm2.ints (by omega)
      ·exact hm3.ints (by omega)
     have HKS1:=hid hKS1
     have HKS2:=hid hKS2
     have HB5:Hid (BR w5 bb rv xs m):=HBR1.out.fr HF5.out (fun e=>(HVD.out bb (by simpa using e)).2.1 rfl) (fun k hk g hg e=>(HVD.out g (by simpa using e)).2.2.2.2.2 k hk hg)
     have HL5:Hid (BL w5 KL xs):=HBL1.out.fr HF5.out (fun b hb e=>(HVD.out b (by simpa using e)).2.2.1 hb)
     obtain ⟨l0,hl0⟩:∃ l0,(xs 0).length=l0:=⟨_,rfl⟩
     obtain ⟨a0,q0,hr0⟩:=zv6 (HB5.out.own 0 (by omega))
     have hl0b:l0<=8*N+8:=by have:=HX.out.2.2.1;omega
     rw [hl0] at hr0
     have hb0:w5.cell? ⟨bb,0,none⟩=some (.slice a0 l0 q0):=by rw [HB5.out.cell 0 (by omega),hr0]
     have hb0z:w5.frozen? ⟨bb,0,none⟩=false:=HB5.out.fz 0
     have hbl5:bb < w5.heap.size:=qq1 hb0
     obtain ⟨L4,hL4⟩:∃ L,L=[Value.slice ao n vc,.slice (some ⟨g1,0,none⟩) (n+1) c1,.slice (some ⟨g2,0,none⟩) (n+2) c2,.slice (some ⟨g3,0,none⟩) (n+3) c3]:=⟨_,rfl⟩
     have HFA:Hid (Fr [] w5 (w5.drew.alloc (.cells #[.slice ao n vc,.slice (some ⟨g1,0,none⟩) (n+1) c1,.slice (some ⟨g2,0,none⟩) (n+2) c2,.slice (some ⟨g3,0,none⟩) (n+3) c3] 25))):=((Fr.refl _ _).drew).alloc _
     have HOP:Hid ((w5.drew.alloc (.cells #[.slice ao n vc,.slice (some ⟨g1,0,none⟩) (n+1) c1,.slice (some ⟨g2,0,none⟩) (n+2) c2,.slice (some ⟨g3,0,none⟩) (n+3) c3] 25)).ownsRow 0 25 1 (.slice a0 l0 q0) l0 (xs 0)):=by
      have:=qq7 (HB5.out.own 0 (by omega)) HFA.out (by simp)
      rw [hr0,hl0] at this
      exact this
     have HNP:Hid (∀ (j:Nat) (u:Value),[Value.slice ao n vc,.slice (some ⟨g1,0,none⟩) (n+1) c1,.slice (some ⟨g2,0,none⟩) (n+2) c2,.slice (some ⟨g3,0,none⟩) (n+3) c3][j]?=some u->(w5.drew.alloc (.cells #[.slice ao n vc,.slice (some ⟨g1,0,none⟩) (n+1) c1,.slice (some ⟨g2,0,none⟩) (n+2) c2,.slice (some ⟨g3,0,none⟩) (n+3) c3] 25)).cell? ((⟨w5.heap.size,0,none⟩:Addr).add j)=some u):=zj8 w5.drew _ 25
     have HBN:Hid (bb∉(Value.ownBlock (.slice a0 l0 q0)).toList):=fun e=>HB5.out.nb 0 (by omega) (by rw [hr0];simpa using e)
     have HR0:=hid hr0
     have HL0:=hid hl0
     have HLL:=hid hL4
     clear hm0 hm1 hm2 hm3 hKS1 hKS2 hr0 hl0 hL4 HO3 HA3 HK3 HO4 HA4 HK4 HO5 HA5 HK5 HN1 HN2 HN3 HAL HO2
     go_cut [] (fun wx=>∃ v',BR wx bb (upd rv 0 v') (upd xs 0 (xs 0 ++ L4)) m/\Fr (bb :: (rv 0).ownBlock.toList) w5 wx/\∀ g,v'.ownBlock=some g->(rv 0).ownBlock=some g\/w5.heap.size<=g)
     case first =>
      go_region_law (refine yw4 rfl (.tmp 75) (.tmp 83) 46 rfl 0 25 inf1 (.slice none 0 0) 1 24 Tryz.underlying46 hj0 hy0 hy1 hy2 rfl (.slice a0 l0 q0) l0 (xs 0) (by simp [Act.eval]) HOP.out ⟨w5.heap.size,0,none⟩ 4 4 [.slice ao n vc,.slice (some ⟨g1,0,none⟩) (n+1) c1,.slice (some ⟨g2,0,none⟩) (n+2) c2,.slice (some ⟨g3,0,none⟩) (n+3) c3] (by simp [Act.eval]) rfl HNP.out (by simp [Value.oneCell']) (by unfold maxLen;omega) (by omega) (by omega) (by omega) ?_;intro v' w6 ho hk ha;obtain ⟨g',c',rfl⟩:=qx0 ho (by omega);have hgf:=qk9 ha;have hv2:w6.cell? ⟨bb,0,none⟩=some (.slice a0 l0 q0):=(hgf.cell bb 0 (by simp;omega) HBN.out).trans ((HFA.out.cell bb 0 hbl5 (by simp)).trans hb0);have hz2':w6.frozen? ⟨bb,0,none⟩=false:=(hgf.frozen bb 0 (by simp;omega) HBN.out).trans ((HFA.out.frozen bb 0 hbl5 (by simp)).trans hb0z))
      all_goals
       go_wp2_with fail
       go_meet
       have hBA:=HB5.out.fr HFA.out (by simp) (by simp)
       have hpush:=hBA.push 0 (by omega) (.slice (some ⟨g',0,none⟩) (l0+4) c') L4 (by rw [HLL.out,HL0.out];exact ho) (by rw [HR0.out];exact ha)
       refine ⟨_,hpush.1,HFA.out.of0.trans hpush.2 (fun x hx=>Or.inl hx),fun g hg=>?_⟩
       rcases jz3 ha g hg with q|q
       · exact Or.inl (by rw [HR0.out];exact q)
       · simp at q;exact Or.inr (by omega)
     case rest =>
      obtain ⟨v0',hB6,hF6,hin6⟩:=hcut
      obtain ⟨l1,hl1⟩:∃ l1,(xs 1).length=l1:=⟨_,rfl⟩
      have e1:upd xs 0 (xs 0 ++ L4) 1=xs 1:=rfl
      have e2:upd rv 0 v0' 1=rv 1:=rfl
      have ho6:=hB6.own 1 (by omega)
      rw [e1,e2,hl1] at ho6
      obtain ⟨a1,q1,hr1⟩:=zv6 ho6
      rw [hr1] at ho6
      have hl1b:l1<=8*N+8:=by have:=HX.out.1;have:=HL0.out;omega
      have hb1:wc.cell? ⟨bb,1,none⟩=some (.slice a1 l1 q1):=by rw [hB6.cell 1 (by omega),e2,hr1]
      have hb1z:wc.frozen? ⟨bb,1,none⟩=false:=hB6.fz 1
      have hblc:bb < wc.heap.size:=qq1 hb1
      have HFB:Hid (Fr [] wc (wc.alloc (.cells #[ii m,ii m,ii m,ii m] 3))):=(Fr.refl _ _).alloc _
      have HOQ:Hid ((wc.alloc (.cells #[ii m,ii m,ii m,ii m] 3)).ownsRow 0 3 1 (.slice a1 l1 q1) l1 (xs 1)):=qq7 ho6 HFB.out (by simp)
      have HNQ:Hid (∀ (j:Nat) (u:Value),[ii m,ii m,ii m,ii m][j]?=some u->(wc.alloc (.cells #[ii m,ii m,ii m,ii m] 3)).cell? ((⟨wc.heap.size,0,none⟩:Addr).add j)=some u):=zj8 wc [ii m,ii m,ii m,ii m] 3
      have HB1N:Hid (bb∉(Value.ownBlock (.slice a1 l1 q1)).toList):=fun e=>hB6.nb 1 (by omega) (by rw [e2,hr1];simpa using e)
      have HB6:=hid hB6
      have HF6:=hid hF6
      have HIN6:=hid hin6
      have HR1:=hid hr1
      have HL1:=hid hl1
      clear hB6 hF6 hin6 hr1 hl1 ho6 e1 e2 hb0 hb0z hcv5 HOP HNP HFA
      go_wp2_with (at_builtin;refine qj6 rfl (.tmp 91) (.tmp 96) 25 rfl 0 3 inf (ii 0) 1 8 Tryz.underlying25 hi0 hz0 hz1 hz2 rfl (.slice a1 l1 q1) l1 (xs 1) rfl HOQ.out ⟨wc.heap.size,0,none⟩ 4 4 [ii m,ii m,ii m,ii m] rfl rfl HNQ.out (by simp [Value.oneCell']) (by unfold maxLen;omega) (by omega) (by omega) (by omega) ?_;intro v7 w7 ho hk ha;obtain ⟨g7,c7,rfl⟩:=qx0 ho (by omega);have hgf:=qk9 ha;have hv2:w7.cell? ⟨bb,1,none⟩=some (.slice a1 l1 q1):=(hgf.cell bb 1 (by simp;omega) HB1N.out).trans ((HFB.out.cell bb 1 hblc (by simp)).trans hb1);have hz2':w7.frozen? ⟨bb,1,none⟩=false:=(hgf.frozen bb 1 (by simp;omega) HB1N.out).trans ((HFB.out.frozen bb 1 hblc (by simp)).trans hb1z))
      go_roundw
      case rel =>
       refine ⟨i+1,hlt,by go_num,?_⟩
       obtain ⟨x3,x4,x5,x6,x7,x10,x11,x12⟩:=HX.out
       have hsw:w.heap.size<=wr0.heap.size:=HFR.out.size
       have hs01:=HF01.out.size
       have hsc:=HF6.out.size
       obtain ⟨hB8,hF8⟩:=(HB6.out.fr HFB.out (by simp) (by simp)).push 1 (by omega) (.slice (some ⟨g7,0,none⟩) (l1+4) c7) [ii m,ii m,ii m,ii m] (by rw [show upd xs 0 (xs 0 ++ L4) 1=xs 1 from rfl,HL1.out];exact ho) (by rw [show upd rv 0 v0' 1=rv 1 from rfl,HR1.out];exact ha)
       rw [show upd rv 0 v0' 1=rv 1 from rfl] at hF8
       rw [show upd xs 0 (xs 0 ++ L4) 1=xs 1 from rfl] at hB8
       have F58:Fr (bb :: ((rv 0).ownBlock.toList ++ (rv 1).ownBlock.toList)) w5 (w7.setCell ⟨bb,1,none⟩ (.slice (some ⟨g7,0,none⟩) (l1+4) c7)) :=
         ((HF6.out.mono (fun x hx=>Or.inl (by rcases List.mem_cons.1 hx with q|q <;> simp_all))).then0 HFB.out).trans hF8 (fun x hx=>Or.inl (by rcases List.mem_cons.1 hx with q|q <;> simp_all))
       obtain ⟨W8,hW8⟩:∃ W,W=w7.setCell ⟨bb,1,none⟩ (.slice (some ⟨g7,0,none⟩) (l1+4) c7):=⟨_,rfl⟩
       rw [<- hW8] at hB8 F58 |-
       have hbb1:=HBR1.out.lt
       have hsF:=F58.size
       have hs8:wc.heap.size<=W8.heap.size:=by
         have:=hF8.size
         rw [<- hW8] at this
         simp at this
         omega
       have rowlt:∀ k,k < 5->∀ g,(rv k).ownBlock=some g->g < W1.heap.size:=fun k hk g hg=>((HBR1.out.own k hk).lt g hg).2
       have hKSb:∀ b∈KS,b≠bb/\b≠rb/\(∀ k,k < 5->(rv k).ownBlock≠some b)/\(b∈yj8 vs\/w.heap.size<=b):=fun b hb=>by
         rcases HKS1.out b hb with q|q
         ·have r:=HVD.out b q
          exact ⟨r.2.1,r.1,r.2.2.2.2.2,Or.inl (gy6 HV.out q)⟩
         ·exact ⟨by omega,by omega,fun k hk e=>by have:=rowlt k hk b e;omega,Or.inr (by omega)⟩
       have rowrb:∀ k,k < 5->(rv k).ownBlock≠some rb:=fun k hk e=>by
         have:=HRW.out
         rcases x10 k hk rb e with q|q
         ·have:=hK rb q;omega
         ·omega
       have n58:∀ b,b≠bb->(∀ k,k < 5->(rv k).ownBlock≠some b)->b∉bb :: ((rv 0).ownBlock.toList ++ (rv 1).ownBlock.toList):=fun b h1 h2 hm=>by
         rcases List.mem_cons.1 hm with q|q
         ·exact h1 q
         ·rcases List.mem_append.1 q with q|q
          ·exact h2 0 (by omega) (by simpa using q)
          ·exact h2 1 (by omega) (by simpa using q)
       have FT:Fr (bb :: ((Value.ownBlock (.slice ao n vc)).toList ++ ((rv 0).ownBlock.toList ++ (rv 1).ownBlock.toList))) wr0 W8 :=
         ((HF01.out.mono (fun x hx=>Or.inl (by simp_all))).trans HF5.out (fun x hx=>Or.inl (by simp_all))).trans F58 (fun x hx=>Or.inl (by rcases List.mem_cons.1 hx with q|q <;> simp_all))
       have nFT:∀ b,b≠bb->Value.ownBlock (.slice ao n vc)≠some b->(∀ k,k < 5->(rv k).ownBlock≠some b)->b∉bb :: ((Value.ownBlock (.slice ao n vc)).toList ++ ((rv 0).ownBlock.toList ++ (rv 1).ownBlock.toList)):=fun b h1 h2 h3 hm=>by
         rcases List.mem_cons.1 hm with q|q
         ·exact h1 q
         ·rcases List.mem_append.1 q with q|q
          ·exact h2 (by simpa using q)
          ·exact n58 b h1 h3 (List.mem_cons_of_mem _ q)
       have hBL8:BL W8 (KL ++ KS) (upd (upd xs 0 (xs 0 ++ L4)) 1 (xs 1 ++ [ii m,ii m,ii m,ii m])):=by
         have q:=((HL5.out.up (K':=KL ++ KS) (fun b hb=>List.mem_append_left _ hb)).places x3 L4 m (fun u hu=>(HMK.out u (by rw [<- HLL.out];exact hu)).up (fun b hb=>List.mem_append_right _ hb))).fr F58 (fun b hb=>by
          rcases List.mem_append.1 hb with q|q
          ·exact n58 b (HKB.out b q).1 (x11 b q).2.2
          ·exact n58 b (hKSb b q).1 (hKSb b q).2.2.1)
         rw [show (L4.map fun _=>ii m)=[ii m,ii m,ii m,ii m] by rw [HLL.out];rfl] at q
         exact q
       have hL4l:L4.length=4:=by rw [HLL.out];rfl
       have newrow:∀ k,k < 5->∀ g,(upd (upd rv 0 v0') 1 (.slice (some ⟨g7,0,none⟩) (l1+4) c7) k).ownBlock=some g->(∃ k',k' < 5/\(rv k').ownBlock=some g)\/w5.heap.size<=g:=fun k hk g hg=>by
         by_cases k1:k=1
         ·subst k1
          rw [zj5] at hg
          rcases jz3 ha g hg with q|q
          ·exact Or.inl ⟨1,by omega,by rw [HR1.out];exact q⟩
          ·simp at q;exact Or.inr (by omega)
         ·rw [qy6 _ _ k1] at hg
          by_cases k0:k=0
          ·subst k0
           rw [zj5] at hg
           rcases HIN6.out g hg with q|q
           ·exact Or.inl ⟨0,by omega,q⟩
           ·exact Or.inr q
          ·rw [qy6 _ _ k0] at hg
           exact Or.inl ⟨k,hk,hg⟩
       have hs5w:=HF5.out.size
       refine ⟨⟨_,_,m,KL ++ KS,hB8,hBL8,?_,x4,?_,x6,x7,by have:=HM.out;omega,hmb.2,fun k hk g hg=>?_,fun b hb=>⟨?_,?_,fun k hk e=>?_⟩,fun j u b hj hu hub hm=>?_⟩,?_,fun j u hj hu=>?_,?_⟩
       · show (xs 0 ++ L4).length=(xs 1 ++ [ii m,ii m,ii m,ii m]).length
         rw [List.length_append,List.length_append,hL4l,x3]
         rfl
       · show (xs 0 ++ L4).length<=_
         rw [List.length_append,hL4l]
         omega
       · rcases newrow k hk g hg with ⟨k',hk',q⟩|q
         ·exact x10 k' hk' g q
         ·exact Or.inr (by omega)
       · rcases List.mem_append.1 hb with q|q
         ·exact (x11 b q).1
         ·exact Or.inr (hKSb b q).2.2.2
       · rcases List.mem_append.1 hb with q|q
         ·have:=(x11 b q).2.1;omega
         ·have:=HKS2.out b q;omega
       · have hb5:b < w5.heap.size/\∀ k,k < 5->(rv k).ownBlock≠some b:=by
          rcases List.mem_append.1 hb with q|q
          ·exact ⟨by have:=(x11 b q).2.1;omega,(x11 b q).2.2⟩
          ·exact ⟨HKS2.out b q,(hKSb b q).2.2.1⟩
         rcases newrow k hk b e with ⟨k',hk',q⟩|q
         ·exact hb5.2 k' hk' q
         ·omega
       · have r:=HVB.out j u b hu hub
         rcases List.mem_append.1 hm with q|q
         ·exact x12 j u b (by omega) hu hub q
         ·rcases HKS1.out b q with t|t
          ·exact HAP.out i j _ u b (by omega) HV.out hu t hub
          ·omega
       · exact FT.heap HL.out (nFT rb (by omega) (fun e=>(HVD.out rb e).1 rfl) rowrb)
       · obtain ⟨n',cs',hn',ho'⟩:=HOWN.out j u (by omega) hu
         refine ⟨n',cs',hn',qq7 ho' FT (fun b hb=>?_)⟩
         have r:=HVB.out j u b hu hb
         refine nFT b r.2.2.2.2 (fun e=>HAP.out i j _ u b (by omega) HV.out hu e hb) (fun k hk e=>?_)
         rcases x10 k hk b e with q|q
         ·exact r.2.2.2.1 q
         ·omega
       · refine HFR.out.trans FT (fun b hb=>?_)
         rcases List.mem_cons.1 hb with q|q
         ·exact Or.inl (by simp [q])
         ·rcases List.mem_append.1 q with q|q
          ·exact Or.inl (by have:=gy6 HV.out (by simpa using q);simp [this])
          ·have:∃ k,k < 5/\(rv k).ownBlock=some b:=by
            rcases List.mem_append.1 q with q|q
            ·exact ⟨0,by omega,by simpa using q⟩
            ·exact ⟨1,by omega,by simpa using q⟩
           obtain ⟨k,hk,e⟩:=this
           rcases x10 k hk b e with t|t
           ·exact Or.inl (by simp [t])
           ·exact Or.inr t
      case measure=>simp [intOf];omega
  ·have hlti:¬ (i:Int) < (vs.length:Int):=by omega
   obtain ⟨⟨rv,xs,nx,KL,h1,h2,h3,h4,h5,h6,h7,h8,h9,h10,h11,h12⟩,hl,_,hfr⟩:=hI
   have hrl:=qq2 hl
   obtain ⟨wr0,hwr0⟩:∃ x,x=wr:=⟨_,rfl⟩
   rw [<- hwr0] at h1 h2 h11 hl hfr hrl |-
   clear hwr0
   have hsw:=hfr.size
   obtain ⟨xb,hxb⟩:∃ x,x=wr0.heap.size:=⟨_,rfl⟩
   obtain ⟨W1,hW1⟩:∃ W,W=wr0.alloc (.cells #[ii (-7)] 3):=⟨_,rfl⟩
   have hf01:Fr [] wr0 W1:=by rw [hW1];exact (Fr.refl _ _).alloc _
   have hxc:W1.cell? ⟨xb,0,none⟩=some (ii (-7)):=by rw [hW1,hxb,j9 (qq6 _ _)];rfl
   have hxl:W1.heap.size=xb+1:=by rw [hW1,hxb];simp
   have HO1:Hid (W1.ownsRow base 25 1 (.slice (some ⟨rb,0,none⟩) vs.length vs.length) vs.length vs):=by
    refine ⟨by omega,Or.inr ⟨rb,vs.length,vs.toArray,rfl,hrb,hf01.heap0 hl,Nat.le_refl _,by unfold maxLen;omega,by simp,by simp⟩⟩
   have HBR1:=(show Hid _ from h1.fr hf01 (by simp) (by simp))
   have HBL1:=(show Hid _ from h2.fr hf01 (by simp))
   have HX:=(show Hid _ from And.intro h3 (And.intro h4 (And.intro h5 (And.intro h6 (And.intro h7 (And.intro h10 (And.intro h11 h12)))))))
   have HFR:=hid hfr
   have HF01:=hid hf01
   have hbr:bb≠rb:=by omega
   have HXC:=hid hxc
   have HROW:Hid (∀ k,k < 5->∀ g,(rv k).ownBlock=some g->g < wr0.heap.size):=fun k hk g hg=>((h1.own k hk).lt g hg).2
   clear h1 h2 h3 h4 h5 h6 h7 h10 h11 h12 hl hfr hf01 hxc
   go_wp2_with fail
   rw [<- hW1,<- hxb]
   have hxw:wr0.heap.size<=xb:=by omega
   have HXB:=hid hxb
   clear hW1 hxb
   have hrl1:rb < W1.heap.size:=by omega
   go_loopw [11] (fun j wr=>∃ k:Nat,k<=vs.length/\j=.int .i64 k/\FillI W1 base vs.length 25 (.slice (some ⟨rb,0,none⟩) vs.length vs.length) vs (fun _=>.slice (some ⟨xb,0,none⟩) 1 1) k wr) (fun j _=>vs.length - (intOf j).toNat)
   case atStart=>exact ⟨0,Nat.zero_le _,rfl,HO1.out,Fr.refl _ _⟩
   case round =>
    obtain ⟨k,hk,rfl,hI⟩:=hrel
    by_cases hlt2:k < vs.length
    ·have hlti2:(k:Int) < (vs.length:Int):=by omega
     have hgh:∃ cur:Array Value,wr.heap[rb]?=some (.cells cur 25 (0,0))/\k < cur.size:=by
      rcases hI.own.2 with ⟨e,_⟩|⟨g,cap,cur,e,_,hh,hc,_,hs,_⟩
      ·cases e
      ·cases e
       exact ⟨cur,hh,by omega⟩
     obtain ⟨cur,hgh,hgs⟩:=hgh
     obtain ⟨old,hold⟩:∃ old,wr.cell? ⟨rb,k,none⟩=some old:=⟨_,(j9 hgh).trans (Array.getElem?_eq_getElem hgs)⟩
     have holz:wr.frozen? ⟨rb,k,none⟩=false:=qq0 hgh
     have HP:=(show Hid _ from hI.put (fun _=>rfl) hlt2 rfl)
     clear hI hgh hgs
     go_wp2_with fail
     go_roundw
     case rel=>exact ⟨k+1,hlt2,by go_num,HP.out⟩
     case measure=>simp [intOf];omega
    ·have hlti2:¬ (k:Int) < (vs.length:Int):=by omega
     have hkn:k=vs.length:=by omega
     have ho2:=hI.own
     rw [hkn,List.drop_of_length_le (Nat.le_refl _),List.append_nil] at ho2
     have hf2:=hI.fr
     have HO2:=hid ho2
     clear hI hkn ho2
     obtain ⟨W2,hW2⟩:∃ W,W=wr:=⟨_,rfl⟩
     rw [<- hW2] at HO2 hf2 |-
     clear hW2
     have hb2:base<=W2.heap.size:=by have:=hf2.size;omega
     have hs2:W1.heap.size<=W2.heap.size:=hf2.size
     have hbl1:=HBR1.out.lt
     have HF2:Hid (Fr [rb] W1 W2):=hf2
     have HAL:Hid (∀ (W:World) (cs:Array Value),W.ownsRow base 25 1 (.slice (some ⟨rb,0,none⟩) vs.length vs.length) vs.length (qw8 1 (fun _=>.slice (some ⟨xb,0,none⟩) 1 1) vs.length)->(W.alloc (.cells cs 25)).ownsRow base 25 1 (.slice (some ⟨rb,0,none⟩) vs.length vs.length) vs.length (qw8 1 (fun _=>.slice (some ⟨xb,0,none⟩) 1 1) vs.length)):=fun W cs h=>h.alloc _
     have HN1:Hid (∀ (W:World) (j:Nat) (u:Value),[Value.slice (some ⟨xb,0,none⟩) 1 1][j]?=some u->(W.alloc (.cells #[.slice (some ⟨xb,0,none⟩) 1 1] 25)).cell? ((⟨W.heap.size,0,none⟩:Addr).add j)=some u):=fun W=>zj8 W _ 25
     have HN2:Hid (∀ (W:World) (j:Nat) (u:Value),[Value.slice (some ⟨xb,0,none⟩) 1 1,.slice (some ⟨xb,0,none⟩) 1 1][j]?=some u->(W.alloc (.cells #[.slice (some ⟨xb,0,none⟩) 1 1,.slice (some ⟨xb,0,none⟩) 1 1] 25)).cell? ((⟨W.heap.size,0,none⟩:Addr).add j)=some u):=fun W=>zj8 W _ 25
     obtain ⟨l2,hl2⟩:∃ l2,(xs 2).length=l2:=⟨_,rfl⟩
     have ho6:=HBR1.out.own 2 (by omega)
     rw [hl2] at ho6
     obtain ⟨a2,q2,hr2⟩:=zv6 ho6
     rw [hr2] at ho6
     have hl2b:l2<=3*N:=by have:=HX.out.2.2.2.1;omega
     have rowrb:∀ k,k < 5->(rv k).ownBlock≠some rb:=fun k hk e=>by
      have:=HRW.out
      rcases HX.out.2.2.2.2.2.1 k hk rb e with q|q
      ·have:=hK rb q;omega
      ·omega
     have HFC:Hid (∀ W,Fr [rb] W1 W->W.cell? ⟨bb,2,none⟩=some (.slice a2 l2 q2)/\W.frozen? ⟨bb,2,none⟩=false/\W.ownsRow 0 46 1 (.slice a2 l2 q2) l2 (xs 2)/\BR W bb rv xs nx/\BL W KL xs):=fun W hf=>by
      have hbr':=HBR1.out.fr hf (by simp;omega) (fun k hk g hg=>by simp;intro e;subst e;exact rowrb k hk hg)
      have hkl:∀ b∈KL,b∉[rb]:=fun b hb e=>by
       have e':b=rb:=by simpa using e
       subst e'
       rcases (HX.out.2.2.2.2.2.2.1 b hb).1 with q|q|q
       · have:=hK b q;omega
       · obtain ⟨u,hu,hub⟩:=List.mem_filterMap.1 q
         obtain ⟨j,hj⟩:=List.mem_iff_getElem?.1 hu
         exact (HVB.out j u b hj hub).2.2.1 rfl
       · have:=HRW.out;omega
      refine ⟨by rw [hbr'.cell 2 (by omega),hr2],hbr'.fz 2,?_,hbr',HBL1.out.fr hf hkl⟩
      have:=hbr'.own 2 (by omega)
      rw [hr2,hl2] at this
      exact this
     have HB2N:Hid (bb∉(Value.ownBlock (.slice a2 l2 q2)).toList):=fun e=>HBR1.out.nb 2 (by omega) (by rw [hr2];simpa using e)
     have HR2:=hid hr2
     have HL2:=hid hl2
     have HRB:=hid rowrb
     clear hf2 hr2 hl2 ho6 rowrb
     go_wp2_with (first
      | (
        at_builtin
        refine qj6 rfl (.tmp 111) (.tmp 113) 46 rfl base 25 inf1 (.slice none 0 0) 1 24 Tryz.underlying46 hj0 hy0 hy1 hy2 rfl (.slice (some ⟨rb,0,none⟩) vs.length vs.length) vs.length (qw8 1 (fun _=>.slice (some ⟨xb,0,none⟩) 1 1) vs.length) rfl (HAL.out _ _ HO2.out) ⟨W2.heap.size,0,none⟩ 1 1 [.slice (some ⟨xb,0,none⟩) 1 1] rfl rfl (HN1.out W2) (by simp [Value.oneCell']) (by unfold maxLen;omega) (by omega) (by simp;omega) (by omega) ?_
        intro v1 w3 ho1 hk1 ha1
        obtain ⟨g1,c1,rfl⟩:=qx0 ho1 (by omega)
        have HO3:=hid ho1
        have HK3:=hid hk1
        have HA3:Hid (jj4 (W2.alloc (.cells #[.slice (some ⟨xb,0,none⟩) 1 1] 25)) w3 (.slice (some ⟨rb,0,none⟩) vs.length vs.length) (.slice (some ⟨g1,0,none⟩) (vs.length+1) c1)):=ha1
        have HF3:Hid (Fr [rb] W1 w3):=(HF2.out.alloc _).trans (qk9 ha1) (fun x hx=>Or.inl hx)
        have hs3:W2.heap.size<=w3.heap.size:=(by have:=(qk9 ha1).size;simp at this;omega)
        clear ho1 hk1 ha1)
      | (
        at_builtin
        refine qj6 rfl (.tmp 115) (.tmp 118) 46 rfl base 25 inf1 (.slice none 0 0) 1 24 Tryz.underlying46 hj0 hy0 hy1 hy2 rfl (.slice (some ⟨rb,0,none⟩) vs.length vs.length) vs.length (qw8 1 (fun _=>.slice (some ⟨xb,0,none⟩) 1 1) vs.length) rfl (HAL.out _ _ HK3.out) ⟨w3.heap.size,0,none⟩ 2 2 [.slice (some ⟨xb,0,none⟩) 1 1,.slice (some ⟨xb,0,none⟩) 1 1] rfl rfl (HN2.out w3) (by simp [Value.oneCell']) (by unfold maxLen;omega) (by omega) (by simp;omega) (by omega) ?_
        intro v2 w4 ho1 hk1 ha1
        obtain ⟨g2,c2,rfl⟩:=qx0 ho1 (by omega)
        have HO4:=hid ho1
        have HK4:=hid hk1
        have HA4:Hid (jj4 (w3.alloc (.cells #[.slice (some ⟨xb,0,none⟩) 1 1,.slice (some ⟨xb,0,none⟩) 1 1] 25)) w4 (.slice (some ⟨rb,0,none⟩) vs.length vs.length) (.slice (some ⟨g2,0,none⟩) (vs.length+2) c2)):=ha1
        have HF4:Hid (Fr [rb] W1 w4):=(HF3.out.alloc _).trans (qk9 ha1) (fun x hx=>Or.inl hx)
        have hs4:w3.heap.size<=w4.heap.size:=(by have:=(qk9 ha1).size;simp at this;omega)
        obtain ⟨hc4,hz4,ho4,_,_⟩:=HFC.out w4 HF4.out
        have HOP:Hid ((w4.alloc (.cells #[.slice (some ⟨rb,0,none⟩) vs.length vs.length,.slice (some ⟨g1,0,none⟩) (vs.length+1) c1,.slice (some ⟨g2,0,none⟩) (vs.length+2) c2] 46)).ownsRow 0 46 1 (.slice a2 l2 q2) l2 (xs 2)):=ho4.alloc _
        have HNP:Hid (∀ (j:Nat) (u:Value),[Value.slice (some ⟨rb,0,none⟩) vs.length vs.length,.slice (some ⟨g1,0,none⟩) (vs.length+1) c1,.slice (some ⟨g2,0,none⟩) (vs.length+2) c2][j]?=some u->(w4.alloc (.cells #[.slice (some ⟨rb,0,none⟩) vs.length vs.length,.slice (some ⟨g1,0,none⟩) (vs.length+1) c1,.slice (some ⟨g2,0,none⟩) (vs.length+2) c2] 46)).cell? ((⟨w4.heap.size,0,none⟩:Addr).add j)=some u):=zj8 w4 _ 46
        have hbl4:bb < w4.heap.size:=qq1 hc4
        clear ho1 hk1 ha1 ho4)
      | (
        at_builtin
        refine qj6 rfl (.tmp 124) (.tmp 128) 63 rfl 0 46 inf2 (.slice none 0 0) 1 24 Tryz.underlying63 hk0 hx0 hx1 hx2 rfl (.slice a2 l2 q2) l2 (xs 2) rfl HOP.out ⟨w4.heap.size,0,none⟩ 3 3 [.slice (some ⟨rb,0,none⟩) vs.length vs.length,.slice (some ⟨g1,0,none⟩) (vs.length+1) c1,.slice (some ⟨g2,0,none⟩) (vs.length+2) c2] rfl rfl HNP.out (by simp [Value.oneCell']) (by unfold maxLen;omega) (by omega) (by simp) (by omega) ?_
        intro v5 w5 ho hk ha
        obtain ⟨g5,c5,rfl⟩:=qx0 ho (by omega)
        have hgf:=qk9 ha
        have hv2:w5.cell? ⟨bb,2,none⟩=some (.slice a2 l2 q2):=(hgf.cell bb 2 (by simp;omega) HB2N.out).trans ((((Fr.refl [] w4).alloc _).cell bb 2 hbl4 (by simp)).trans hc4)
        have hz2':w5.frozen? ⟨bb,2,none⟩=false:=(hgf.frozen bb 2 (by simp;omega) HB2N.out).trans ((((Fr.refl [] w4).alloc _).frozen bb 2 hbl4 (by simp)).trans hz4)))
     refine bodyPost_end (v:=.tuple #[]) (results_none rfl _ _ _) rfl ⟨rfl,?_⟩
     obtain ⟨x3,x4,x5,x6,x7,x10,x11,x12⟩:=HX.out
     obtain ⟨KS,s1,s2,m0,m1,m2⟩:=dk8 (pat:=fun _=>.slice (some ⟨xb,0,none⟩) 1 1) (fun _=>rfl) HO3.out HA3.out HK4.out HO4.out HA4.out
     obtain ⟨_,_,_,hB4,hL4⟩:=HFC.out w4 HF4.out
     obtain ⟨L3,hL3⟩:∃ L,L=[Value.slice (some ⟨rb,0,none⟩) vs.length vs.length,.slice (some ⟨g1,0,none⟩) (vs.length+1) c1,.slice (some ⟨g2,0,none⟩) (vs.length+2) c2]:=⟨_,rfl⟩
     have hFA:Fr [] w4 (w4.alloc (.cells #[.slice (some ⟨rb,0,none⟩) vs.length vs.length,.slice (some ⟨g1,0,none⟩) (vs.length+1) c1,.slice (some ⟨g2,0,none⟩) (vs.length+2) c2] 46)):=(Fr.refl _ _).alloc _
     obtain ⟨hB6,hF6⟩:=(hB4.fr hFA (by simp) (by simp)).push 2 (by omega) (.slice (some ⟨g5,0,none⟩) (l2+3) c5) L3 (by rw [hL3,HL2.out];exact ho) (by rw [HR2.out];exact ha)
     have F46:Fr (bb :: (rv 2).ownBlock.toList) w4 (w5.setCell ⟨bb,2,none⟩ (.slice (some ⟨g5,0,none⟩) (l2+3) c5)):=hFA.of0.trans hF6 (fun x hx=>Or.inl hx)
     obtain ⟨W6,hW6⟩:∃ W,W=w5.setCell ⟨bb,2,none⟩ (.slice (some ⟨g5,0,none⟩) (l2+3) c5):=⟨_,rfl⟩
     rw [<- hW6] at hB6 F46 |-
     have hsz6:=F46.size
     have hrw:=HRW.out
     have hrow:=HROW.out
     have hl3l:L3.length=3:=by rw [hL3];rfl
     have hxc4:w4.cell? ⟨xb,0,none⟩=some (ii (-7)):=(HF4.out.cell xb 0 (by omega) (by simp;omega)).trans HXC.out
     have s1':∀ b∈KS,b=rb\/W2.heap.size<=b:=fun b hb=>by
      rcases s1 b hb with q|q
      ·simp [Value.ownBlock] at q;exact Or.inl q.symm
      ·exact Or.inr q
     have hall:∀ b∈KL ++ (KS ++ [xb]),b≠bb/\(∀ k,k < 5->(rv k).ownBlock≠some b)/\(b∈K\/b∈rb :: yj8 vs\/w.heap.size<=b)/\b < w4.heap.size:=fun b hb=>by
      rcases List.mem_append.1 hb with q|q
      ·obtain ⟨t1,t2,t3⟩:=x11 b q
       refine ⟨fun e=>?_,t3,?_,by omega⟩
       · subst e
         rcases t1 with r|r|r
         ·exact HNB.out r
         ·obtain ⟨u,hu,hub⟩:=List.mem_filterMap.1 r
          obtain ⟨j,hj⟩:=List.mem_iff_getElem?.1 hu
          exact (HVB.out j u b hj hub).2.2.2.2 rfl
         ·omega
       · rcases t1 with r|r|r
         ·exact Or.inl r
         ·exact Or.inr (Or.inl (List.mem_cons_of_mem _ r))
         ·exact Or.inr (Or.inr r)
      ·rcases List.mem_append.1 q with q|q
       · have hb4:=s2 b q
         rcases s1' b q with r|r
         ·subst r
          exact ⟨by omega,HRB.out,Or.inr (Or.inl (by simp)),hb4⟩
         ·exact ⟨by omega,fun k hk e=>by have:=hrow k hk b e;omega,Or.inr (Or.inr (by omega)),hb4⟩
       · have e:b=xb:=by simpa using q
         subst e
         exact ⟨by omega,fun k hk e=>by have:=hrow k hk b e;omega,Or.inr (Or.inr (by omega)),by omega⟩
     have hBL6:BL W6 (KL ++ (KS ++ [xb])) (upd xs 2 (xs 2 ++ L3)):=by
      refine ((hL4.up (K':=KL ++ (KS ++ [xb])) (fun b hb=>List.mem_append_left _ hb)).pairs L3 (fun u hu=>?_)).fr F46 (fun b hb hm=>?_)
      ·have up:∀ b∈KS,b∈KL ++ (KS ++ [xb]):=fun b hb=>by simp [hb]
       rw [hL3] at hu
       simp only [List.mem_cons,List.not_mem_nil,or_false] at hu
       rcases hu with rfl|rfl|rfl
       · exact (m0.up up).pairs (by omega) (by simp) hxc4
       · exact (m1.up up).pairs (by omega) (by simp) hxc4
       · exact (m2.up up).pairs (by omega) (by simp) hxc4
      ·rcases List.mem_cons.1 hm with q|q
       · exact (hall b hb).1 q
       · exact (hall b hb).2.1 2 (by omega) (by simpa using q)
     have newrow:∀ k,k < 5->∀ g,(upd rv 2 (.slice (some ⟨g5,0,none⟩) (l2+3) c5) k).ownBlock=some g->(∃ k',k' < 5/\(rv k').ownBlock=some g)\/w4.heap.size<=g:=fun k hk g hg=>by
      by_cases k2:k=2
      ·subst k2
       rw [zj5] at hg
       rcases jz3 ha g hg with q|q
       · exact Or.inl ⟨2,by omega,by rw [HR2.out];exact q⟩
       · simp at q;exact Or.inr (by omega)
      ·rw [qy6 _ _ k2] at hg
       exact Or.inl ⟨k,hk,hg⟩
     have rows_in:∀ b,b∈(List.range 5).filterMap (fun k=>(upd rv 2 (.slice (some ⟨g5,0,none⟩) (l2+3) c5) k).ownBlock)->∃ k,k < 5/\(upd rv 2 (.slice (some ⟨g5,0,none⟩) (l2+3) c5) k).ownBlock=some b:=fun b hb=>by
      obtain ⟨k,hk,e⟩:=List.mem_filterMap.1 hb
      exact ⟨k,List.mem_range.1 hk,e⟩
     refine ⟨⟨(KL ++ (KS ++ [xb])) ++ (List.range 5).filterMap (fun k=>(upd rv 2 (.slice (some ⟨g5,0,none⟩) (l2+3) c5) k).ownBlock),⟨⟨_,_,nx,KL ++ (KS ++ [xb]),hB6,hBL6,x3,x4,?_,?_,?_,?_,h9,fun k hk g hg=>?_,fun b hb=>⟨List.mem_append_left _ hb,fun k hk e=>?_⟩⟩,fun hm=>?_,fun b hb=>?_⟩,fun b hb=>?_⟩,?_⟩
     ·show (xs 0).length<=_
      omega
     ·show (xs 2 ++ L3).length<=_
      rw [List.length_append,hl3l]
      omega
     ·show (xs 3).length<=_
      omega
     ·omega
     ·exact List.mem_append_right _ (List.mem_filterMap.2 ⟨k,List.mem_range.2 hk,hg⟩)
     ·rcases newrow k hk b e with ⟨k',hk',q⟩|q
      ·exact (hall b hb).2.1 k' hk' q
      ·have:=(hall b hb).2.2.2;omega
     ·rcases List.mem_append.1 hm with q|q
      ·exact (hall bb q).1 rfl
      ·obtain ⟨k,hk,e⟩:=rows_in bb q
       exact hB6.nb k hk e
     ·rcases List.mem_append.1 hb with q|q
      ·have:=(hall b q).2.2.2;omega
      ·obtain ⟨k,hk,e⟩:=rows_in b q
       exact ((hB6.own k hk).lt b e).2
     ·rcases List.mem_append.1 hb with q|q
      ·exact (hall b q).2.2.1
      ·obtain ⟨k,hk,e⟩:=rows_in b q
       rcases newrow k hk b e with ⟨k',hk',r⟩|r
       · rcases x10 k' hk' b r with t|t
         ·exact Or.inl t
         ·exact Or.inr (Or.inr t)
       · exact Or.inr (Or.inr (by omega))
     ·refine ((HFR.out.then0 HF01.out).trans HF4.out (fun b hb=>Or.inl (by simp_all))).trans F46 (fun b hb=>?_)
      rcases List.mem_cons.1 hb with q|q
      ·exact Or.inl (by simp [q])
      ·rcases x10 2 (by omega) b (by simpa using q) with t|t
       · exact Or.inl (by simp [t])
       · exact Or.inr t
end Go.Proofs.YtapabahhfanmmaaGreatDoor
