import Derived.Test.YtapabahhfanmmaaGreatDoorCRefM
import Derived.Test.YtapabahhfanmmaaGreatDoorCRefK
namespace Go.Proofs.YtapabahhfanmmaaGreatDoor
open Go.RowKit
set_option maxRecDepth 100000
set_option maxHeartbeats 2000000
def yj2:Prop:=∀ (gb pb cap:Nat) (t:T) (i:Nat) (u:U) (w:World),RG w gb pb cap t->t.us[i]?=some u->TOk t->qx3 t.us=false->u.what=4 ->
  Calls Tryz.prog 183 #[.pointer (some ⟨gb,0,none⟩),.int .i64 i] w fun e w'=>e=.returned (.tuple #[])/\RStep w gb pb (qw3 t u) w'
theorem vz9 (us:List U)(o:Int):(qw0 us o).isSome=(qj8 us o).isSome:=by
 unfold qw0 qj8
 rw [Bool.eq_iff_iff]
 simp
theorem jy1 (us:List U):qy3 us=0↔qx3 us=false:=by
 unfold qy3 qx3
 rw [vz9,vz9]
 cases (qj8 us 0).isSome <;> cases (qj8 us 1).isSome <;> simp
theorem RStep.same {w w':World}{gb pb cap:Nat}{t:T}(h:RG w gb pb cap t)(hf:Fr [] w w'):RStep w gb pb t w':=⟨pb,cap,h.fr0 hf,hf.of0,Or.inl rfl⟩
theorem RStep.after {w w1 w':World}{gb pb:Nat}{t:T}(hf:Fr [] w w1)(h:RStep w1 gb pb t w'):RStep w gb pb t w':=by
 obtain ⟨pb',cap',h1,h2,h3⟩:=h.h
 exact ⟨pb',cap',h1,hf.of0.trans h2 (by simp),h3.imp id (fun x=>Nat.le_trans hf.size x)⟩
theorem gv8 (hbo:yj2)(gb pb cap:Nat)(t:T)(id:Int)(w:World)(h:RG w gb pb cap t)(hok:TOk t)(hos:OS t) :
  Calls Tryz.prog 135 #[.pointer (some ⟨gb,0,none⟩),.int .i64 id] w fun e w'=>e=.returned (.tuple #[])/\RStep w gb pb (zx5 t id) w':=by
 have hF:=zj9 gb pb cap t.us id w h.gv
 have hW:=zz6 gb pb cap t.us w h.gv
 obtain ⟨R,hR⟩:∃ R:T,R=zx5 t id:=⟨_,rfl⟩
 rw [<- hR]
 have HR:=hid hR
 have HH:=hid h
 have HOK:=hid hok
 have HOS:=hid hos
 have HBO:=hid hbo
 have hlen:=h.len
 clear hR h hok hos hbo
 cases hp:qz0 t.us id with
 | none =>
  rw [hp] at hF
  have HE:Hid (R=t):=by show _=_;rw [HR.out];unfold zx5 zk5;rw [hp];simp
  go_enter Tryz.func135,Tryz.ntmps135
  go_wp2_with fail
  refine Calls.mono hF ?_
  rintro e w2 ⟨rfl,rfl⟩
  dsimp only [jq2]
  clear hF hW
  go_wp2_with fail
  exact bodyPost_ret (v:=.tuple #[]) (results_none rfl _ _ _) rfl ⟨rfl,by rw [HE.out];exact RStep.same HH.out (Fr.refl _ _)⟩
 | some i =>
  obtain ⟨u,hi,-⟩:=qv8 hp
  rw [hp] at hF
  have hil:=(List.getElem?_eq_some_iff.1 hi).1
  have hili:(i:Int) < (t.us.length:Int):=by omega
  have hi0:¬ (i:Int) < 0:=by omega
  by_cases hov:qx3 t.us=true
  ·have HE:Hid (R=t):=by show _=_;rw [HR.out];unfold zx5;rw [if_pos hov]
   have hwn:(qy3 t.us != 0)=true:=by
    have:qy3 t.us≠0:=fun e=>by rw [(jy1 _).1 e] at hov;cases hov
    simpa using this
   obtain ⟨rw_,hrw⟩:∃ x,qy3 t.us=x:=⟨_,rfl⟩
   rw [hrw] at hW hwn
   go_enter Tryz.func135,Tryz.ntmps135
   go_wp2_with fail
   refine Calls.mono hF ?_
   rintro e w2 ⟨rfl,rfl⟩
   dsimp only [jq2]
   clear hF
   go_wp2_with fail
   refine Calls.mono hW ?_
   rintro e w2 ⟨rfl,hf2⟩
   dsimp only
   go_wp2_with fail
   exact bodyPost_ret (v:=.tuple #[]) (results_none rfl _ _ _) rfl ⟨rfl,by rw [HE.out];exact RStep.same HH.out hf2⟩
  ·have hno:qx3 t.us=false:=by simpa using hov
   have HE:Hid (R=qw3 t u):=by show _=_;rw [HR.out];unfold zx5 zk5;rw [if_neg hov,hp];dsimp only;rw [hi]
   rw [(jy1 _).2 hno] at hW
   have hu:=HOK.out.all u (List.mem_of_getElem? hi)
   have hod:=hu.od
   have HI:=hid hi
   have HU:=hid hu
   clear hp hi hov
   go_enter Tryz.func135,Tryz.ntmps135
   go_wp2_with fail
   refine Calls.mono hF ?_
   rintro e w2 ⟨rfl,rfl⟩
   dsimp only [jq2]
   clear hF
   go_wp2_with fail
   refine Calls.mono hW ?_
   rintro e w2 ⟨rfl,hf2⟩
   dsimp only
   clear hW
   have hg2:=HH.out.fr0 hf2
   have hc2:=hg2.c148
   obtain ⟨c0,c1,c2,c3,c4,c5,c6,c7,c8,c9,c10⟩:=hg2.gv.p.at HI.out
   obtain ⟨W3,hW3⟩:∃ W,W=w2.alloc (.cells u.arr 85):=⟨_,rfl⟩
   have hf3:Fr [] w W3:=by rw [hW3];exact hf2.alloc _
   have HG3:=(show Hid _ from HH.out.fr0 hf3)
   have HW3:=hid hW3
   clear hW3 hg2
   rcases (show u.what=0\/u.what=1\/u.what=2\/u.what=3\/u.what=4 by unfold jk9 at hod;omega) with hw|hw|hw|hw|hw
   ·have HA:Hid (qw3 t u=t):=by
     show _=_
     have:qv9 t u=(u,t):=by unfold qv9;simp [hw]
     unfold qw3
     rw [this]
     exact qw9 HOK.out.rise HI.out
    have e1:(u.what==1)=false:=by simp;omega
    have e2:(u.what==2)=false:=by simp;omega
    have e3:(u.what==3)=false:=by simp;omega
    have e4:(u.what==4)=false:=by simp;omega
    clear hod hw
    go_wp2_with fail
    exact bodyPost_end (v:=.tuple #[]) (results_none rfl _ _ _) rfl ⟨rfl,by rw [HE.out,HA.out];exact RStep.same HH.out (hf2.alloc _)⟩
   ·have HA:Hid (qw3 t u=qj4 (qw6 t u).2 (qw6 t u).1):=by show _=_;unfold qw3 qv9;simp [hw]
    obtain ⟨m0,m1,m2,m3⟩:0<=u.tox/\u.tox < 12/\0<=u.toy/\u.toy < 12:=by
     rcases HOS.out u (List.mem_of_getElem? HI.out) with ⟨a,_⟩|⟨_,a,_⟩|⟨a,_⟩|⟨a,_⟩
     ·omega
     ·exact qz3.1 a
     ·omega
     ·omega
    have e1:(u.what==1)=true:=by simp;omega
    have e2:(u.what==2)=false:=by simp;omega
    have e3:(u.what==3)=false:=by simp;omega
    have e4:(u.what==4)=false:=by simp;omega
    clear hod hw
    by_cases hx:(u.x==u.tox&&u.y==u.toy)=true
    ·have hxx:(u.x==u.tox)=true:=by simp at hx;simpa using hx.1
     have hyy:(u.y==u.toy)=true:=by simp at hx;simpa using hx.2
     have HM:Hid (qw6 t u=(u.idle,t)):=by show _=_;unfold qw6;rw [if_pos hx]
     clear hx
     go_wp2_with fail
     rw [<- HW3.out]
     refine Calls.mono (zw1 gb pb cap t i u _ HG3.out HI.out) ?_
     rintro e w4 ⟨rfl,hg4,hf4⟩
     dsimp only
     go_wp2_with fail
     refine bodyPost_ret (v:=.tuple #[]) (results_none rfl _ _ _) rfl ⟨rfl,?_⟩
     rw [HE.out,HA.out,HM.out]
     exact ⟨pb,cap,RG.idled HOK.out HI.out hg4,(hf3.of0 (S:=[gb,pb])).trans hf4 (by simp),Or.inl rfl⟩
    ·have HM:Hid (qw6 t u=(u.to (qv7 t u fun c=>c.1==u.tox&&c.2==u.toy),t.moved u (qv7 t u fun c=>c.1==u.tox&&c.2==u.toy))):=by show _=_;unfold qw6;rw [if_neg hx]
     have HX:Hid ((u.x==u.tox&&u.y==u.toy)=false):=by show _=_;simpa using hx
     by_cases hxx:(u.x==u.tox)=true
     ·have hyy:(u.y==u.toy)=false:=by
       have:=HX.out
       rw [hxx] at this
       simpa using this
      clear hx
      go_wp2_with fail
      rw [<- HW3.out]
      refine Calls.mono (zw2 gb pb cap t i u u.tox u.toy true _ HG3.out HI.out HU.out.on (by omega) (by omega) (by omega) (by omega)) ?_
      rintro e w4 ⟨rfl,F,hX,hg4,hf4⟩
      dsimp only
      go_wp2_with fail
      refine bodyPost_end (v:=.tuple #[]) (results_none rfl _ _ _) rfl ⟨rfl,?_⟩
      rw [HE.out,HA.out,HM.out]
      exact ⟨pb,cap,RG.went (x:=u.tox) (y:=u.toy) (onto:=true) HOK.out HI.out (fun c=>rfl) HX.out hX hg4,(hf3.of0 (S:=[gb,pb])).trans hf4 (by simp),Or.inl rfl⟩
     ·simp only [Bool.not_eq_true] at hxx
      clear hx
      go_wp2_with fail
      rw [<- HW3.out]
      refine Calls.mono (zw2 gb pb cap t i u u.tox u.toy true _ HG3.out HI.out HU.out.on (by omega) (by omega) (by omega) (by omega)) ?_
      rintro e w4 ⟨rfl,F,hX,hg4,hf4⟩
      dsimp only
      go_wp2_with fail
      refine bodyPost_end (v:=.tuple #[]) (results_none rfl _ _ _) rfl ⟨rfl,?_⟩
      rw [HE.out,HA.out,HM.out]
      exact ⟨pb,cap,RG.went (x:=u.tox) (y:=u.toy) (onto:=true) HOK.out HI.out (fun c=>rfl) HX.out hX hg4,(hf3.of0 (S:=[gb,pb])).trans hf4 (by simp),Or.inl rfl⟩
   ·have HWH:=hid hw
    have e1:(u.what==1)=false:=by simp;omega
    have e2:(u.what==2)=true:=by simp;omega
    have e3:(u.what==3)=false:=by simp;omega
    have e4:(u.what==4)=false:=by simp;omega
    clear hod hw
    go_wp2_with fail
    rw [<- HW3.out]
    refine Calls.mono (ky4 gb pb cap t i u _ HG3.out HI.out HOK.out HOS.out hno HWH.out) ?_
    rintro e w4 ⟨rfl,hs4⟩
    dsimp only
    go_wp2_with fail
    exact bodyPost_end (v:=.tuple #[]) (results_none rfl _ _ _) rfl ⟨rfl,by rw [HE.out];exact RStep.after hf3 hs4⟩
   ·have HWH:=hid hw
    have e1:(u.what==1)=false:=by simp;omega
    have e2:(u.what==2)=false:=by simp;omega
    have e3:(u.what==3)=true:=by simp;omega
    have e4:(u.what==4)=false:=by simp;omega
    clear hod hw
    go_wp2_with fail
    rw [<- HW3.out]
    refine Calls.mono (gw2 gb pb cap t i u _ HG3.out HI.out HOK.out hno HWH.out) ?_
    rintro e w4 ⟨rfl,hs4⟩
    dsimp only
    go_wp2_with fail
    exact bodyPost_end (v:=.tuple #[]) (results_none rfl _ _ _) rfl ⟨rfl,by rw [HE.out];exact RStep.after hf3 hs4⟩
   ·have HWH:=hid hw
    have e1:(u.what==1)=false:=by simp;omega
    have e2:(u.what==2)=false:=by simp;omega
    have e3:(u.what==3)=false:=by simp;omega
    have e4:(u.what==4)=true:=by simp;omega
    clear hod hw
    go_wp2_with fail
    rw [<- HW3.out]
    refine Calls.mono (HBO.out gb pb cap t i u _ HG3.out HI.out HOK.out hno HWH.out) ?_
    rintro e w4 ⟨rfl,hs4⟩
    dsimp only
    go_wp2_with fail
    exact bodyPost_end (v:=.tuple #[]) (results_none rfl _ _ _) rfl ⟨rfl,by rw [HE.out];exact RStep.after hf3 hs4⟩
theorem zx6 (gb pb cap:Nat)(t:T)(p:Int)(l:List Cm)(lv:Value)(w:World)(h:RG w gb pb cap t)(hov:qy3 t.us≠0\/1000000000<=t.turn)(hl:CmdW w lv l pb)(hlen:l.length<=2000000) :
  Calls Tryz.prog 134 #[.pointer (some ⟨gb,0,none⟩),.int .i64 p,lv] w fun e w'=>∃ v,e=.returned v/\RCmd w gb pb cap t (List.range l.length) v w':=by
 obtain ⟨inf,hi0,hz0,hz1,hz2⟩:=info_parts kk6
 obtain ⟨ao,lc,rfl⟩:∃ ao lc,lv=.slice ao l.length lc:=by
  rcases hl with ⟨ao,lc,rfl,rfl⟩|⟨lb,lo,lc,rfl,_⟩
  ·exact ⟨_,_,rfl⟩
  ·exact ⟨_,_,rfl⟩
 have HL:=hid hl
 have hpl:=h.pl
 have hgl:=h.lt
 have HH:=hid h
 have hW:=zz6 gb pb cap t.us w h.gv
 obtain ⟨q,hq⟩:∃ q,qy3 t.us=q:=⟨_,rfl⟩
 rw [hq] at hW hov
 clear h hl hq
 go_enter Tryz.func134,Tryz.ntmps134
 go_wp2_with fail
 refine Calls.mono hW ?_
 rintro e w1 ⟨rfl,hf1⟩
 dsimp only
 have hg1:=HH.out.fr0 hf1
 have ht1:=hg1.c0
 have HG1:=hid hg1
 clear hW hg1
 have hcs8:(q=0/\1000000000<=t.turn)\/(q != 0)=true:=by
  by_cases hq0:q=0
  ·exact Or.inl ⟨hq0,by
    rcases hov with h1|h1
    ·exact absurd hq0 h1
    ·exact h1⟩
  ·exact Or.inr (by simpa using hq0)
 clear hov
 rcases hcs8 with ⟨rfl,htn⟩|hqb
 all_goals
  go_wp2_with fail
  go_loopw [7,9] (fun v i wr=>∃ k:Nat,k<=l.length/\i=.int .i64 k/\wr.ownsRow w.heap.size 3 1 v (List.range k).length (ints (List.range k))/\Fr [] w wr) (fun _ i _=>l.length - (intOf i).toNat)
  case atStart=>exact ⟨0,Nat.zero_le _,rfl,⟨rfl,Or.inl ⟨rfl,rfl⟩⟩,hf1⟩
  case round =>
   obtain ⟨k,hk,rfl,hown,hfr⟩:=hrel
   by_cases hlt:k < l.length
   ·have hlti:(k:Int) < (l.length:Int):=by omega
    obtain ⟨c,hc⟩:∃ c,l[k]?=some c:=⟨l[k],List.getElem?_eq_getElem hlt⟩
    obtain ⟨lb,lo,rfl,hcs⟩:∃ lb lo,ao=some ⟨lb,lo,none⟩/\w.cell? ⟨lb,lo+k*5,none⟩=some (ii c.unit):=by
     rcases HL.out with ⟨ao,lc',e1,e2⟩|⟨lb,lo,lc',e1,h2,h3⟩
     ·rw [e2] at hlt;simp at hlt
     ·refine ⟨lb,lo,by simpa using congrArg (fun v:Value=>match v with|.slice a _ _=>a|_=>none) e1,?_⟩
      have:=h3 k hlt
      rw [List.getElem?_eq_getElem hlt] at hc
      rw [Option.some.inj hc] at this
      exact this 0 _ rfl
    have c0:=(hfr.cell _ _ (qq1 hcs) (by simp)).trans hcs
    have hFI:=zj9 gb pb cap t.us c.unit wr (HH.out.fr0 hfr).gv
    have HO:=hid hown
    have hwr:=hfr.size
    have HN:Hid (∀ (W:World) (j:Nat) (u:Value),[ii (k:Int)][j]?=some u->(W.alloc (.cells #[.int .i64 k] 3)).cell? ((⟨W.heap.size,0,none⟩:Addr).add j)=some u):=by
     intro W j u hu
     have hj:j=0:=by
      have:=(List.getElem?_eq_some_iff.1 hu).1
      simp at this
      exact this
     subst hj
     rw [Addr.add_lit,j9 (qq6 W _)]
     simpa using hu
    have HB1:Hid (∀ b,u7.ownBlock=some b->w.heap.size<=b):=fun b hb=>qj1 HO.out hb
    have HOW:Hid ((wr.alloc (.cells #[.int .i64 k] 3)).ownsRow w.heap.size 3 1 u7 (List.range k).length (ints (List.range k))):=qq7 HO.out ((Fr.refl [] wr).alloc _) (by simp)
    have hrl:(List.range k).length=k:=List.length_range
    obtain ⟨rk,hrk⟩:∃ r,r=List.range k:=⟨_,rfl⟩
    rw [<- hrk] at HOW hrl
    have HRK:=hid hrk
    obtain ⟨pl,hpl2⟩:∃ x,jq2 (qz0 t.us c.unit)=x:=⟨_,rfl⟩
    rw [hpl2] at hFI
    clear hown hc hcs hrk hpl2
    go_wp2_with fail
    refine Calls.mono hFI ?_
    rintro e w2 ⟨rfl,rfl⟩
    dsimp only
    clear hFI
    go_wp2_with (at_builtin;refine wpList_append_own _ rfl _ _ 25 rfl w.heap.size 3 inf (ii 0) 1 8 Tryz.underlying25 hi0 hz0 hz1 hz2 rfl (by decide) u7 rk.length (ints rk) rfl HOW.out ⟨wr.heap.size,0,none⟩ 1 1 [ii (k:Int)] rfl rfl (HN.out wr) (by simp [Value.oneCell']) (by unfold maxLen;omega) (by omega) (by simp;omega) ?_;intro v' w3 hown3 hgrow hnil3)
    go_roundw
    case rel =>
     refine ⟨k+1,hlt,by go_num,?_,(hfr.alloc _).grow hgrow (fun g hg=>Or.inr (HB1.out g hg))⟩
     rw [HRK.out] at hown3
     rw [List.range_succ,List.length_append]
     simpa using hown3
    case measure=>simp [intOf];omega
   ·have hlti:¬ (k:Int) < (l.length:Int):=by omega
    have hke:k=l.length:=by omega
    have HOW:Hid (wr.ownsRow w.heap.size 3 1 u7 (List.range l.length).length (ints (List.range l.length))):=by rw [<- hke];exact hown
    clear hown hke
    go_wp2_with fail
    go_ret
    exact ⟨u7,rfl,HH.out.fr0 hfr,HOW.out,hfr.of0⟩
set_option maxRecDepth 100000
theorem CmdW.fr {w w':World}{v:Value}{l:List Cm}{pb pb':Nat}{S:List Nat}(h:CmdW w v l pb)(hf:Fr S w w')(hS:∀ b,b < w.heap.size->b≠pb->b∉S)(hp:pb'=pb\/w.heap.size<=pb'):CmdW w' v l pb':=by
 rcases h with h|⟨lb,lo,lc,h1,h2,h3⟩
 ·exact Or.inl h
 ·by_cases hl:l.length=0
  ·exact Or.inl ⟨_,_,by rw [h1,hl],List.length_eq_zero_iff.1 hl⟩
  ·refine Or.inr ⟨lb,lo,lc,h1,?_,fun i hi j x hx=>?_⟩
   ·rcases hp with rfl|hp
    ·exact h2
    ·have:=qq1 (h3 0 (by omega) 0 _ rfl)
     omega
   ·have h4:=h3 i hi j x hx
    rw [hf.cell _ _ (qq1 h4) (hS _ (qq1 h4) h2)]
    exact h4
structure RPlay (w:World) (gb pb:Nat) (t:T) (a b:List Nat) (v:Value) (w':World):Prop where
 st:RStep w gb pb t w'
 refs:Refs w' w.heap.size v a b
structure RLoop (W:World) (gb pb:Nat) (tf:T) (n0 id:Int) (wr:World):Prop where
  h:∃ t pb' cap',RH tf n0 id t/\RG wr gb pb' cap' t/\Fr [gb,pb] W wr/\(pb'=pb\/W.heap.size<=pb')
theorem qzj6 (hbo:yj2)(gb pb:Nat)(tf:T)(n0 id:Int)(W wr:World)(h:RLoop W gb pb tf n0 id wr)(hid:id < n0) :
  Calls Tryz.prog 135 #[.pointer (some ⟨gb,0,none⟩),.int .i64 id] wr fun e w'=>e=.returned (.tuple #[])/\∃ t' pb' cap' id',RH tf n0 id' t'/\id < id'/\qv4 id t'.us t'.next=id'/\RG w' gb pb' cap' t'/\Fr [gb,pb] W w'/\(pb'=pb\/W.heap.size<=pb'):=by
 obtain ⟨t,pb1,cap1,h1,h2,h3,h4⟩:=h.h
 refine (gv8 hbo gb pb1 cap1 t id wr h2 h1.ok h1.os).mono fun e w' ⟨he,hs⟩=>⟨he,?_⟩
 obtain ⟨pb2,cap2,g1,g2,g3⟩:=hs.h
 obtain ⟨k1,k2⟩:=h1.next hid
 refine ⟨zx5 t id,pb2,cap2,_,k1,k2,rfl,g1,h3.trans g2 ?_,?_⟩
 ·intro b hb
  simp at hb
  rcases hb with rfl|rfl
  ·exact Or.inl (by simp)
  ·rcases h4 with rfl|h4
   ·exact Or.inl (by simp)
   ·exact Or.inr h4
 ·rcases g3 with rfl|g3
  ·exact h4
  ·exact Or.inr (Nat.le_trans h3.size g3)
theorem yk5 (hbo:yj2) (gb pb cap:Nat) (t0 tc tf:T) (a b:List Nat) (lv1 lv2:Value) (w:World) (hgl:gb < w.heap.size) (hpl:pb < w.heap.size)
  (C0:Calls Tryz.prog 134 #[.pointer (some ⟨gb,0,none⟩),.int .i64 0,lv1] w fun e w'=>∃ v,e=.returned v/\RCmd w gb pb cap t0 a v w')
  (C1:∀ w1,Fr [pb] w w1->RG w1 gb pb cap t0->Calls Tryz.prog 134 #[.pointer (some ⟨gb,0,none⟩),.int .i64 1,lv2] w1 fun e w'=>∃ v,e=.returned v/\RCmd w1 gb pb cap tc b v w')
  (htn:0<=tc.turn/\tc.turn < 1000000000) (hrh:RH tf tc.next 1 tc) (hft:tf.turn=tc.turn) :
  Calls Tryz.prog 95 #[.pointer (some ⟨gb,0,none⟩),lv1,lv2] w fun e w'=>∃ v,e=.returned v/\RPlay w gb pb { tf with turn:=tf.turn+1 } a b v w':=by
 have HC1:=(show Hid _ from C1)
 have HRH:=(show Hid _ from hrh)
 have HFT:=(show Hid _ from hft)
 have HBO:=(show Hid _ from hbo)
 clear C1 hrh hft hbo
 go_enter Tryz.func95,Tryz.ntmps95
 go_wp2_with fail
 refine Calls.mono C0 ?_
 rintro e w1 ⟨v0,rfl,hr0⟩
 dsimp only
 clear C0
 go_wp2_with fail
 refine Calls.mono (HC1.out w1 hr0.fr hr0.rg) ?_
 rintro e w2 ⟨v1,rfl,hr1⟩
 dsimp only
 have HR0:=(show Hid _ from hr0)
 have HR1:=(show Hid _ from hr1)
 obtain ⟨ao0,k0,c0,rfl⟩:=zv7 hr0.own
 obtain ⟨ao1,k1,c1,rfl⟩:=zv7 hr1.own
 obtain ⟨W3,hW3⟩:∃ W,W=w2.alloc (.cells #[.slice ao0 k0 c0,.slice ao1 k1 c1] 25):=⟨_,rfl⟩
 have HW3:=(show Hid _ from hW3)
 have hg3:RG W3 gb pb cap tc:=by rw [hW3];exact hr1.rg.fr0 ((Fr.refl _ _).alloc _)
 have ht3:=hg3.c0
 have hn3:=hg3.c147
 have ht2:=hr1.rg.c0
 have hn2:=hr1.rg.c147
 have htn2:¬ 1000000000<=tc.turn:=by omega
 have HG3:=(show Hid _ from hg3)
 have hgl2:=hr1.rg.lt
 have hw2:Fr [pb] w w2:=hr0.fr.trans hr1.fr (by simp)
 have hw3:Fr [pb] w W3:=by rw [hW3];exact hw2.alloc _
 have hsw:=hr0.fr.size
 have hrb:W3.heap[w2.heap.size]?=some (.cells #[.slice ao0 k0 c0,.slice ao1 k1 c1] 25):=by rw [hW3];exact qq6 _ _
 have hs2:=hw2.size
 clear hW3 hg3 hr0 hr1 ht3 hn3
 go_wp2_with fail
 rw [<- HW3.out]
 clear ht2 hn2
 go_loopw [11] (fun i wr=>∃ id:Int,i=.int .i64 id/\RLoop W3 gb pb tf tc.next id wr) (fun i _=>(tc.next - intOf i).toNat)
 case atStart=>exact ⟨1,rfl,tc,pb,cap,HRH.out,HG3.out,Fr.refl _ _,Or.inl rfl⟩
 case round =>
  obtain ⟨id,rfl,hL⟩:=hrel
  by_cases hid:id < tc.next
  ·go_wp2_with fail
   refine Calls.mono (qzj6 HBO.out gb pb tf tc.next id W3 wr hL hid) ?_
   rintro e w4 ⟨rfl,t',pb',cap',id',g1,g2,g3,g4,g5,g6⟩
   dsimp only
   have hA:=xy9 gb pb' cap' t' id w4 g4
   rw [g3] at hA
   have HL2:Hid (∀ w5,Fr [] w4 w5->RLoop W3 gb pb tf tc.next id' w5):=fun w5 hf=>⟨t',pb',cap',g1,g4.fr0 hf,g5.then0 hf,g6⟩
   clear g1 g3 g4 g5 g6 hL
   go_wp2_with fail
   refine Calls.mono hA ?_
   rintro e w5 ⟨rfl,hf5⟩
   dsimp only
   go_wp2_with fail
   go_roundw
   case rel=>exact ⟨id',rfl,HL2.out _ hf5⟩
   case measure=>simp [intOf];omega
  ·obtain ⟨t',pb',cap',g1,g2,g3,g4⟩:=hL.h
   have hte:=g1.last (by omega)
   subst hte
   have ht4:=g2.c0
   have fz4:=g2.fz 0
   have hft:=HFT.out
   have htb:0<=tf.turn/\tf.turn < 1000000000:=by omega
   have HG4:=(show Hid _ from g2)
   have HG3':=(show Hid _ from g3)
   have HG4':=(show Hid _ from g4)
   have HRB:=(show Hid _ from hrb)
   clear g1 g2 g3 g4 hL hft hrb
   go_wp2_with fail
   go_ret
   have hW3s:=hw3.size
   have hfin:Fr [gb,pb] W3 (wr.setCell ⟨gb,0,none⟩ (.int .i64 (tf.turn+1))):=HG3'.out.setCell _ _ (Or.inl (by simp))
   have hoth:∀ x,w.heap.size<=x->x∉[gb,pb]:=fun x hx=>by simp;omega
   have hw23:Fr [] w2 W3:=by rw [HW3.out];exact (Fr.refl _ _).alloc _
   refine ⟨_,rfl,⟨⟨pb',cap',HG4.out.setTn (tf.turn+1),(hw3.mono (S':=[gb,pb]) (by simp)).trans hfin (by simp),HG4'.out.imp (fun x=>x) (fun x=>Nat.le_trans hW3s x)⟩⟩,⟨w2.heap.size,2,_,_,rfl,hfin.heap HRB.out (hoth _ hs2),hs2,?_,?_⟩⟩
   ·have q1:=qq7 HR0.out.own HR1.out.fr (fun x hx=>by have:=qj1 HR0.out.own hx;simp;omega)
    have q2:=qq7 q1 hw23 (by simp)
    exact qq7 q2 hfin (fun x hx=>hoth x (qj1 HR0.out.own hx))
   ·have q1:=zw4 HR1.out.own hsw
    have q2:=qq7 q1 hw23 (by simp)
    exact qq7 q2 hfin (fun x hx=>hoth x (qj1 q1 hx))
theorem ky7 (gb pb cap:Nat) (t:T) (a b:List Nat) (lv1 lv2:Value) (w:World) (hpl:pb < w.heap.size) (htn:1000000000<=t.turn)
  (C0:Calls Tryz.prog 134 #[.pointer (some ⟨gb,0,none⟩),.int .i64 0,lv1] w fun e w'=>∃ v,e=.returned v/\RCmd w gb pb cap t a v w')
  (C1:∀ w1,Fr [pb] w w1->RG w1 gb pb cap t->Calls Tryz.prog 134 #[.pointer (some ⟨gb,0,none⟩),.int .i64 1,lv2] w1 fun e w'=>∃ v,e=.returned v/\RCmd w1 gb pb cap t b v w') :
  Calls Tryz.prog 95 #[.pointer (some ⟨gb,0,none⟩),lv1,lv2] w fun e w'=>∃ v,e=.returned v/\RPlay w gb pb t a b v w':=by
 have HC1:=hid C1
 clear C1
 go_enter Tryz.func95,Tryz.ntmps95
 go_wp2_with fail
 refine Calls.mono C0 ?_
 rintro e w1 ⟨v0,rfl,hr0⟩
 dsimp only
 clear C0
 go_wp2_with fail
 refine Calls.mono (HC1.out w1 hr0.fr hr0.rg) ?_
 rintro e w2 ⟨v1,rfl,hr1⟩
 dsimp only
 have HR0:=hid hr0
 have HR1:=hid hr1
 obtain ⟨ao0,k0,c0,rfl⟩:=zv7 hr0.own
 obtain ⟨ao1,k1,c1,rfl⟩:=zv7 hr1.own
 have ht2:=hr1.rg.c0
 have hgl2:=hr1.rg.lt
 have hw2:Fr [pb] w w2:=hr0.fr.trans hr1.fr (by simp)
 have hsw:=hr0.fr.size
 have hs2:=hw2.size
 clear hr0 hr1
 go_wp2_with fail
 go_ret
 obtain ⟨W3,hW3⟩:∃ W,W=w2.alloc (.cells #[.slice ao0 k0 c0,.slice ao1 k1 c1] 25):=⟨_,rfl⟩
 have hw3:Fr [pb] w W3:=by rw [hW3];exact hw2.alloc _
 have hrb:W3.heap[w2.heap.size]?=some (.cells #[.slice ao0 k0 c0,.slice ao1 k1 c1] 25):=by rw [hW3];exact qq6 _ _
 have hw23:Fr [] w2 W3:=by rw [hW3];exact (Fr.refl _ _).alloc _
 rw [<- hW3]
 refine ⟨_,rfl,⟨⟨pb,cap,HR1.out.rg.fr0 hw23,hw3.mono (S':=[gb,pb]) (by simp),Or.inl rfl⟩⟩,⟨w2.heap.size,2,_,_,rfl,hrb,hs2,?_,?_⟩⟩
 ·have q1:=qq7 HR0.out.own HR1.out.fr (fun x hx=>by have:=qj1 HR0.out.own hx;simp;omega)
  exact qq7 q1 hw23 (by simp)
 ·have q1:=zw4 HR1.out.own hsw
  exact qq7 q1 hw23 (by simp)
theorem ky6 (hbo:yj2)(gb pb cap:Nat)(t:T)(l1 l2:List Cm)(lv1 lv2:Value)(w:World)(h:RG w gb pb cap t)(hok:GOk t)(hos:OS t)(ht0:0<=t.turn)(h1:CmdW w lv1 l1 pb)(h2:CmdW w lv2 l2 pb)(hl1:l1.length<=2000000)(hl2:l2.length<=2000000) :
  Calls Tryz.prog 95 #[.pointer (some ⟨gb,0,none⟩),lv1,lv2] w fun e w'=>∃ v,e=.returned v/\RPlay w gb pb (qk6 t l1 l2).1 (qk6 t l1 l2).2.1 (qk6 t l1 l2).2.2 v w':=by
 have hb:RG w gb pb cap (qk7 t):=h.of rfl rfl rfl rfl rfl rfl
 have hokb:TOk (qk7 t):=hok
 have hosb:OS (qk7 t):=hos
 have hc2:∀ w1,Fr [pb] w w1->CmdW w1 lv2 l2 pb:=fun w1 hf=>h2.fr hf (fun b _ hn=>by simpa using hn) (Or.inl rfl)
 by_cases hmax:1000000000<=t.turn
 ·have hp:qk6 t l1 l2=(t,List.range l1.length,List.range l2.length):=by
   unfold qk6
   rw [if_pos hmax]
  rw [hp]
  exact ky7 gb pb cap t _ _ lv1 lv2 w h.pl hmax (zx6 gb pb cap t 0 l1 lv1 w h (Or.inr hmax) h1 hl1) (fun w1 hf hg=>zx6 gb pb cap t 1 l2 lv2 w1 hg (Or.inr hmax) (hc2 w1 hf) hl2)
 have ht:0<=t.turn/\t.turn < 1000000000:=by omega
 by_cases hov:qx3 t.us=true
 ·have hpt:qk6 t l1 l2=({ t with turn:=t.turn+1 },List.range l1.length,List.range l2.length):=by
   unfold qk6
   rw [if_neg (by omega),if_pos hov]
  rw [hpt]
  have hwn:qy3 t.us≠0:=fun e=>by rw [(jy1 _).1 e] at hov;cases hov
  refine (yk5 hbo gb pb cap (qk7 t) (qk7 t) (qk7 t) _ _ lv1 lv2 w h.lt h.pl (zx6 gb pb cap (qk7 t) 0 l1 lv1 w hb (Or.inl hwn) h1 hl1) (fun w1 hf hg=>zx6 gb pb cap (qk7 t) 1 l2 lv2 w1 hg (Or.inl hwn) (hc2 w1 hf) hl2) ht (RH.over hokb hosb hov) rfl).mono fun e w' ⟨v,he,hp⟩=>⟨v,he,?_⟩
  obtain ⟨pb',cap',g1,g2,g3⟩:=hp.st.h
  exact ⟨⟨pb',cap',g1.of rfl rfl rfl rfl rfl rfl,g2,g3⟩,hp.refs⟩
 ·have hno:qx3 t.us=false:=by simpa using hov
  have hpt:qk6 t l1 l2=({ zq5 (qz6 1 0 l2 (qz6 0 0 l1 (qk7 t)).2).2.us (qz6 1 0 l2 (qz6 0 0 l1 (qk7 t)).2).2 with turn:=(zq5 (qz6 1 0 l2 (qz6 0 0 l1 (qk7 t)).2).2.us (qz6 1 0 l2 (qz6 0 0 l1 (qk7 t)).2).2).turn+1 },(qz6 0 0 l1 (qk7 t)).1,(qz6 1 0 l2 (qz6 0 0 l1 (qk7 t)).2).1):=by
   unfold qk6
   rw [if_neg (by omega),if_neg hov]
  rw [hpt]
  obtain ⟨g0,o0⟩:=jx7 0 (fun _=>False) l1 0 hokb (fun _ x=>x)
  obtain ⟨g1,o1⟩:=jx7 1 (fun _=>False) l2 0 g0.ok (fun _ x=>x)
  have s0:=vj9 0 l1 0 hokb hosb
  have s1:=vj9 1 l2 0 g0.ok s0
  have n0:qx3 (qz6 0 0 l1 (qk7 t)).2.us=false:=by rw [o0];exact hno
  have n1:qx3 (qz6 1 0 l2 (qz6 0 0 l1 (qk7 t)).2).2.us=false:=by rw [o1];exact n0
  have t1:(qz6 1 0 l2 (qz6 0 0 l1 (qk7 t)).2).2.turn=t.turn:=g1.tn.trans g0.tn
  have ga:=jy3 (qz6 1 0 l2 (qz6 0 0 l1 (qk7 t)).2).2.us g1.ok n1 (yz7 g1.ok.rise)
  exact yk5 hbo gb pb cap _ _ _ _ _ lv1 lv2 w h.lt h.pl (jw4 gb pb cap (qk7 t) 0 l1 lv1 w hb hokb ((jy1 _).2 hno) ht.2 h1 hl1) (fun w1 hf hg=>jw4 gb pb cap _ 1 l2 lv2 w1 hg g0.ok ((jy1 _).2 n0) (by rw [g0.tn];exact ht.2) (hc2 w1 hf) hl2) (by rw [t1];exact ht) (RH.first g1.ok s1 n1) ga.tn
end Go.Proofs.YtapabahhfanmmaaGreatDoor
