import Derived.Test.YtapabahhfanmmaaGreatDoorCRefH
namespace Go.Proofs.YtapabahhfanmmaaGreatDoor
open Go.RowKit
set_option maxHeartbeats 2000000
set_option maxRecDepth 100000
theorem kq0 (b pb cap:Nat)(us:List U)(o:Int)(w:World)(hg:GV w b pb cap us) :
  Calls Tryz.prog 137 #[.pointer (some ⟨b,0,none⟩),.int .i64 o] w fun e w'=>e=.returned (.int .i64 (jq2 (qw0 us o)))/\w=w':=by
 have hlen:=hg.len
 have hc:=hg.c
 have hb:=qq1 hc
 go_enter Tryz.func137,Tryz.ntmps137
 go_wp2_with fail
 go_loopw [5] (fun i wr=>∃ k:Nat,k<=us.length/\i=.int .i64 k/\(∀ j,j < k->∀ (h:j < us.length),qq4 o us[j]=false)/\w=wr) (fun i _=>us.length - (intOf i).toNat)
 case atStart=>exact ⟨0,Nat.zero_le _,rfl,fun j h=>by omega,rfl⟩
 case round =>
  obtain ⟨k,hk,rfl,hno,rfl⟩:=hrel
  have hg2:=hg
  have hc2:=hg2.c
  have HN:=hid hno
  clear hno
  by_cases hlt:k < us.length
  ·have hlti:(k:Int) < (us.length:Int):=by omega
   obtain ⟨u,hu⟩:∃ u,us[k]?=some u:=⟨us[k],List.getElem?_eq_getElem hlt⟩
   obtain ⟨c0,c1,c2,c3,c4,c5,c6,c7,c8,c9,c10⟩:=hg2.p.at hu
   have HU:=(show Hid (us[k]?=some u) from hu)
   clear hu c0 c3 c4 c5 c6 c7 c8 c9 c10
   by_cases hk1:(u.kind==1)=true
   ·by_cases ho1:(u.owner==o)=true
    ·have HB:Hid (qq4 o u=true):=by simp [Hid,qq4,hk1,ho1]
     go_wp2_with fail
     go_ret
     exact ⟨by unfold qw0;rw [yx6 HU.out HB.out HN.out];rfl,rfl⟩
    ·simp only [Bool.not_eq_true] at ho1
     have HB:Hid (qq4 o u=false):=by simp [Hid,qq4,ho1]
     go_wp2_with fail
     go_roundw
     case rel=>exact ⟨k+1,hlt,by go_num,jz4 HU.out HB.out HN.out,trivial⟩
     case measure=>simp [intOf];omega
   ·simp only [Bool.not_eq_true] at hk1
    have HB:Hid (qq4 o u=false):=by simp [Hid,qq4,hk1]
    go_wp2_with fail
    go_roundw
    case rel=>exact ⟨k+1,hlt,by go_num,jz4 HU.out HB.out HN.out,trivial⟩
    case measure=>simp [intOf];omega
  ·have hlti:¬ (k:Int) < (us.length:Int):=by omega
   go_wp2_with fail
   go_ret
   exact ⟨by unfold qw0;rw [yx5 (fun j hj=>HN.out j (by omega) hj)];rfl,rfl⟩
theorem RG.setG {w:World}{gb pb cap:Nat}{t t':T}(h:RG w gb pb cap t)(k0:Nat)(hk0:k0 < 148)(v:Value)(hus:t'.us=t.us)(hc:∀ pv k,k < 149->qw2 t' pv k=if k=k0 then v else qw2 t pv k):RG (w.setCell ⟨gb,k0,none⟩ v) gb pb cap t':=by
 refine ⟨fun k hk=>?_,fun k=>by rw [World.frozen?_setCell];exact h.fz k,?_,by rw [hus];exact h.len,h.ne⟩
 ·rw [hc _ k hk,hus]
  by_cases e:k=k0
  ·subst e
   rw [qk0 _ _ _ _ _ (h.cell k hk),if_pos rfl]
  ·rw [qz1 _ _ _ _ _ _ (Or.inr (fun x=>e x.symm)),if_neg e,h.cell k hk]
 ·rw [hus]
  exact h.row.fr (S:=[gb]) ((Fr.refl _ _).setCell _ _ (Or.inl (by simp))) (by simpa using fun e=>h.ne e.symm)
theorem RG.setS0 {w:World}{gb pb cap:Nat}{t:T}(h:RG w gb pb cap t)(v:Int):RG (w.setCell ⟨gb,145,none⟩ (ii v)) gb pb cap { t with s0:=v }:=h.setG 145 (by omega) _ rfl (fun pv k hk=>by
 by_cases e:k=145
 ·subst e;rfl
 ·simp [qw2,e])
theorem RG.setS1 {w:World}{gb pb cap:Nat}{t:T}(h:RG w gb pb cap t)(v:Int):RG (w.setCell ⟨gb,146,none⟩ (ii v)) gb pb cap { t with s1:=v }:=h.setG 146 (by omega) _ rfl (fun pv k hk=>by
 by_cases e:k=146
 ·subst e;rfl
 ·simp [qw2,e])
theorem RG.setNx {w:World}{gb pb cap:Nat}{t:T}(h:RG w gb pb cap t)(v:Int):RG (w.setCell ⟨gb,147,none⟩ (ii v)) gb pb cap { t with next:=v }:=h.setG 147 (by omega) _ rfl (fun pv k hk=>by
 by_cases e:k=147
 ·subst e;rfl
 ·simp [qw2,e])
theorem RG.setTn {w:World}{gb pb cap:Nat}{t:T}(h:RG w gb pb cap t)(v:Int):RG (w.setCell ⟨gb,0,none⟩ (ii v)) gb pb cap { t with turn:=v }:=h.setG 0 (by omega) _ rfl (fun pv k hk=>by
 by_cases e:k=0
 ·subst e;rfl
 ·simp [qw2,e])
theorem RG.setB {w:World}{gb pb cap:Nat}{t:T}(h:RG w gb pb cap t){j:Nat}(hj:j < 144)(v:Int):RG (w.setCell ⟨gb,1+j,none⟩ (ii v)) gb pb cap (t.setBd j v):=h.setG (1+j) (by omega) _ rfl (fun pv k hk=>by
 by_cases e:k=1+j
 ·subst e
  unfold qw2
  rw [if_neg (by omega),if_pos (by omega),if_pos rfl]
  simp [T.setBd]
 ·rw [if_neg e]
  unfold qw2 T.setBd
  dsimp only
  by_cases e0:k=0
  ·rw [if_pos e0,if_pos e0]
  ·rw [if_neg e0,if_neg e0,if_neg (show ¬ k - 1=j by omega)])
theorem kz6 {t:T}{u:U}(hw:u.what=2):qw3 t u=qj4 (qv1 t u).2 (qv1 t u).1:=by unfold qw3 qv9;simp [hw]
theorem fj8 {t:T}(hno:qx3 t.us=false){o:Int}(ho:o=0\/o=1):∃ k b,qw0 t.us o=some k/\t.us[k]?=some b/\qj8 t.us o=some b:=by
 have hb:(qj8 t.us o).isSome=true:=by
  unfold qx3 at hno
  simp at hno
  rcases ho with rfl|rfl
  ·exact hno.1
  ·exact hno.2
 obtain ⟨b,hb⟩:=Option.isSome_iff_exists.1 hb
 unfold qj8 at hb |-
 rw [List.find?_eq_some_iff_getElem] at hb
 obtain ⟨h1,k,hk,h2,h3⟩:=hb
 refine ⟨k,b,?_,by rw [List.getElem?_eq_getElem hk,h2],?_⟩
 ·unfold qw0
  rw [List.findIdx?_eq_some_iff_getElem]
  exact ⟨hk,by rw [h2];exact h1,fun j hj=>by simpa using h3 j hj⟩
 ·rw [List.find?_eq_some_iff_getElem]
  exact ⟨h1,k,hk,h2,h3⟩
theorem ky4 (gb pb cap:Nat)(t:T)(i:Nat)(u:U)(w:World)(h:RG w gb pb cap t)(hi:t.us[i]?=some u)(hok:TOk t)(hos:OS t)(hno:qx3 t.us=false)(hw:u.what=2) :
  Calls Tryz.prog 181 #[.pointer (some ⟨gb,0,none⟩),.int .i64 i] w fun e w'=>e=.returned (.tuple #[])/\RStep w gb pb (qw3 t u) w':=by
 rw [kz6 hw]
 obtain ⟨R,hR⟩:∃ R:T,R=qj4 (qv1 t u).2 (qv1 t u).1:=⟨_,rfl⟩
 rw [<- hR]
 have HR:=hid hR
 have hu:=hok.all u (List.mem_of_getElem? hi)
 obtain ⟨hton,htb⟩:onB u.tox u.toy=true/\t.bd (ci u.tox u.toy)≠10:=by
  rcases hos u (List.mem_of_getElem? hi) with ⟨a,_⟩|⟨_,a,b,_⟩|⟨a,_⟩|⟨a,_⟩
  ·omega
  ·exact ⟨a,b⟩
  ·omega
  ·omega
 clear hR hw hos
 have hlen:=h.len
 have hil:=(List.getElem?_eq_some_iff.1 hi).1
 have hili:(i:Int) < (t.us.length:Int):=by omega
 obtain ⟨p0,p1,p2,p3⟩:=qz3.1 hu.on
 obtain ⟨t0,t1,t2,t3⟩:=qz3.1 hton
 obtain ⟨k,b,hbk,hkb,hbo⟩:=fj8 hno hu.ow
 have hkl:=(List.getElem?_eq_some_iff.1 hkb).1
 have hkli:(k:Int) < (t.us.length:Int):=by omega
 have hbu:=hok.all b (List.mem_of_getElem? hkb)
 obtain ⟨b0,b1,b2,b3⟩:=qz3.1 hbu.on
 have hc:=h.c148
 obtain ⟨c0,c1,c2,c3,c4,c5,c6,c7,c8,c9,c10⟩:=h.gv.p.at hi
 obtain ⟨W1,hW1⟩:∃ W,W=w.alloc (.cells u.arr 85):=⟨_,rfl⟩
 have hf1:Fr [] w W1:=by rw [hW1];exact (Fr.refl _ _).alloc _
 have hu1:W1.heap[w.heap.size]?=some (.cells u.arr 85):=by rw [hW1];exact qq6 _ _
 have HW1:=hid hW1
 have HOK:=hid hok
 have HI:=hid hi
 have HH:=hid h
 have HBO:=hid hbo
 have HKB:=hid hkb
 have HB:Hid (∀ W,Fr [] W1 W->Calls Tryz.prog 137 #[.pointer (some ⟨gb,0,none⟩),.int .i64 u.owner] W fun e w'=>e=.returned (.int .i64 k)/\W=w'):=fun W hf=>by
  have:=kq0 gb pb cap t.us u.owner W (h.fr0 (hf1.then0 hf)).gv
  rw [hbk] at this
  exact this
 have HS:∀ w',Fr [] W1 w'->(fun w':World=>w'.cell? ⟨gb,148,none⟩=some (.slice (some ⟨pb,0,none⟩) t.us.length cap)/\cl w' w.heap.size 1 u.owner/\w'.cell? ⟨pb,k*11,none⟩=some (ii b.id)/\w'.cell? ⟨pb,k*11+1,none⟩=some (ii b.owner)/\w'.cell? ⟨pb,k*11+2,none⟩=some (ii b.kind)/\w'.cell? ⟨pb,k*11+3,none⟩=some (ii b.x)/\w'.cell? ⟨pb,k*11+4,none⟩=some (ii b.y)/\w'.cell? ⟨pb,k*11+5,none⟩=some (ii b.life)/\w'.cell? ⟨pb,k*11+6,none⟩=some (ii b.load)/\w'.cell? ⟨pb,k*11+7,none⟩=some (ii b.what)/\w'.cell? ⟨pb,k*11+8,none⟩=some (ii b.tox)/\w'.cell? ⟨pb,k*11+9,none⟩=some (ii b.toy)/\w'.cell? ⟨pb,k*11+10,none⟩=some (ii b.target)) w':=fun w' hf=>by
  have hg:=HH.out.fr0 (hf1.then0 hf)
  exact ⟨hg.c148,j9 (hf.heap0 hu1),hg.gv.p.at HKB.out⟩
 have KF:Fr [] W1 W1.drew:=(Fr.refl _ _).drew
 have K0:=HS _ KF
 clear hok hi h hW1 hbk hkb hbo
 go_enter Tryz.func181,Tryz.ntmps181
 go_wp2_with fail
 rw [<- HW1.out]
 clear c0 c1 c2 c3 c4 c5 c6 c7 c8 c9 c10 hc
 obtain ⟨vb,hvb⟩:∃ x,x=W1.heap.size:=⟨_,rfl⟩
 have HVB:=hid hvb
 go_cut [5] (fun s5 wx=>s5=.pointer (some ⟨vb,0,none⟩)/\Fr [] W1 wx/\wx.heap[vb]?=some (.cells b.arr 85))
 case first =>
  clear hvb
  go_region_held (fun w':World=>w'.cell? ⟨gb,148,none⟩=some (.slice (some ⟨pb,0,none⟩) t.us.length cap)/\w'.cell? ⟨w.heap.size,1,none⟩=some (ii u.owner)/\w'.cell? ⟨pb,k*11,none⟩=some (ii b.id)/\w'.cell? ⟨pb,k*11+1,none⟩=some (ii b.owner)/\w'.cell? ⟨pb,k*11+2,none⟩=some (ii b.kind)/\w'.cell? ⟨pb,k*11+3,none⟩=some (ii b.x)/\w'.cell? ⟨pb,k*11+4,none⟩=some (ii b.y)/\w'.cell? ⟨pb,k*11+5,none⟩=some (ii b.life)/\w'.cell? ⟨pb,k*11+6,none⟩=some (ii b.load)/\w'.cell? ⟨pb,k*11+7,none⟩=some (ii b.what)/\w'.cell? ⟨pb,k*11+8,none⟩=some (ii b.tox)/\w'.cell? ⟨pb,k*11+9,none⟩=some (ii b.toy)/\w'.cell? ⟨pb,k*11+10,none⟩=some (ii b.target))
   (first|with_reducible exact K0|(refine HS _ ?_;with_reducible exact (Fr.refl _ _).drew.alloc _)|(refine HS _ ?_;with_reducible exact ((Fr.refl _ _).alloc _).drew))
   (first|(go_at_call 137;refine (HB.out _ (by first|exact (Fr.refl _ _).drew|exact (Fr.refl _ _).drew.alloc _|exact ((Fr.refl _ _).alloc _).drew)).mono ?_;rintro e w2 ⟨rfl,rfl⟩))
  all_goals
   go_wp2_with fail
   go_meet
   refine ⟨by rw [HVB.out],((Fr.refl _ _).alloc _).drew,?_⟩
   rw [qx4,HVB.out]
   exact qq6 _ _
 case rest =>
  obtain ⟨rfl,hfc,hvc⟩:=hcut
  clear hvb K0 KF HS HB
  have huc:=hfc.heap0 hu1
  have hwc:=hf1.then0 hfc
  have ux:wc.cell? ⟨w.heap.size,3,none⟩=some (ii u.x):=j9 huc
  have uy:wc.cell? ⟨w.heap.size,4,none⟩=some (ii u.y):=j9 huc
  have utx:wc.cell? ⟨w.heap.size,8,none⟩=some (ii u.tox):=j9 huc
  have uty:wc.cell? ⟨w.heap.size,9,none⟩=some (ii u.toy):=j9 huc
  have bx:wc.cell? ⟨vb,3,none⟩=some (ii b.x):=j9 hvc
  have bY:wc.cell? ⟨vb,4,none⟩=some (ii b.y):=j9 hvc
  have HGC:=(show Hid _ from HH.out.fr0 hwc)
  go_wp2_with fail
  refine Calls.mono (jk4 u.x u.y b.x b.y _ (by omega) (by omega) (by omega) (by omega) (by omega) (by omega) (by omega) (by omega)) ?_
  rintro e w3 ⟨rfl,rfl⟩
  dsimp only
  go_wp2_with fail
  refine Calls.mono (jk4 u.x u.y u.tox u.toy _ (by omega) (by omega) (by omega) (by omega) (by omega) (by omega) (by omega) (by omega)) ?_
  rintro e w3 ⟨rfl,rfl⟩
  dsimp only
  obtain ⟨ore,hore⟩:∃ v,t.bd (ci u.tox u.toy)=v:=⟨_,rfl⟩
  have hbc:=HGC.out.bd (zz0 hton)
  rw [show 1+ci u.tox u.toy=1+u.toy.toNat*12+u.tox.toNat by unfold ci;omega,hore] at hbc
  have hob:=HOK.out.bd _ (zz0 hton)
  rw [hore] at hob htb
  have HORE:=hid hore
  obtain ⟨A1,hA1⟩:∃ A,qv5 u.x u.y b.x b.y=A:=⟨_,rfl⟩
  obtain ⟨A2,hA2⟩:∃ A,qv5 u.x u.y u.tox u.toy=A:=⟨_,rfl⟩
  rw [hA1,hA2]
  have HA1:=hid hA1
  have HA2:=hid hA2
  clear hore hA1 hA2 ux uy
  go_wp2_with fail
  go_cut [8] (fun s8 wx=>s8=.int .i64 ore/\Fr [] wc wx)
  case first =>
   have K0:(fun w':World=>w'.cell? ⟨w.heap.size,8,none⟩=some (ii u.tox)/\w'.cell? ⟨w.heap.size,9,none⟩=some (ii u.toy)/\w'.cell? ⟨gb,1+u.toy.toNat*12+u.tox.toNat,none⟩=some (ii ore)) wc.drew:=⟨by simpa using utx,by simpa using uty,by simpa using hbc⟩
   go_region_held (fun w':World=>w'.cell? ⟨w.heap.size,8,none⟩=some (ii u.tox)/\w'.cell? ⟨w.heap.size,9,none⟩=some (ii u.toy)/\w'.cell? ⟨gb,1+u.toy.toNat*12+u.tox.toNat,none⟩=some (ii ore)) (with_reducible exact K0) (fail)
   all_goals
    go_wp2_with fail
    go_meet
    exact ⟨rfl,(Fr.refl _ _).drew⟩
  case rest =>
   obtain ⟨rfl,hfd⟩:=hcut
   have hud:=hfd.heap0 huc
   have hvd:=hfd.heap0 hvc
   have hwd:=hwc.then0 hfd
   have hgd:=HH.out.fr0 hwd
   have HGD:=hid hgd
   have uo:wc.cell? ⟨w.heap.size,1,none⟩=some (ii u.owner):=j9 hud
   have ul:wc.cell? ⟨w.heap.size,6,none⟩=some (ii u.load):=j9 hud
   have dx:wc.cell? ⟨w.heap.size,8,none⟩=some (ii u.tox):=j9 hud
   have dy:wc.cell? ⟨w.heap.size,9,none⟩=some (ii u.toy):=j9 hud
   have ex:wc.cell? ⟨vb,3,none⟩=some (ii b.x):=j9 hvd
   have ey:wc.cell? ⟨vb,4,none⟩=some (ii b.y):=j9 hvd
   have hcd:=hgd.c148
   have hne:=hgd.ne
   have hne2:¬ pb=gb:=fun e=>hne e.symm
   obtain ⟨_,_,_,_,_,_,d6,_,_,_,_⟩:=hgd.gv.p.at HI.out
   have fz6:=hgd.frz (i*11+6)
   have hsz:=HH.out.lt
   have hpl:=HH.out.pl
   have nub:¬ w.heap.size=gb:=by omega
   have nub2:¬ w.heap.size=pb:=by omega
   have nub3:¬ gb=w.heap.size:=by omega
   have nub4:¬ pb=w.heap.size:=by omega
   have hld:=hu.ld
   have hst:=yk7 HOK.out u.owner
   clear utx uty bx bY hbc hfd hfc huc hvc hgd hu1
   by_cases hl:0 < u.load
   ·have HAM:Hid (qv1 t u=if A1=true then ({ u with load:=0 },t.setStock u.owner (min (t.stock u.owner+u.load) 1000000000)) else (u.to (qv7 t u fun c=>qv5 b.x b.y c.1 c.2),t.moved u (qv7 t u fun c=>qv5 b.x b.y c.1 c.2))):=by
     show _=_
     unfold qv1 qk3
     rw [if_pos hl,HBO.out]
     dsimp only
     rw [HA1.out]
    cases A1
    ·go_wp2_with fail
     refine Calls.mono (zw2 gb pb cap t i u b.x b.y false _ HGD.out HI.out hu.on (by omega) (by omega) (by omega) (by omega)) ?_
     rintro e w4 ⟨rfl,F,hX,hg4,hf4⟩
     dsimp only
     go_wp2_with fail
     refine bodyPost_end (v:=.tuple #[]) (results_none rfl _ _ _) rfl ⟨rfl,pb,cap,?_,(hwd.of0 (S:=[gb,pb])).trans hf4 (by simp),Or.inl rfl⟩
     rw [HR.out,HAM.out,if_neg (by simp)]
     exact RG.went (x:=b.x) (y:=b.y) (onto:=false) HOK.out HI.out (fun c=>yv4 _ _ _ _) HA1.out hX hg4
    ·obtain ⟨s,hs⟩:∃ s,t.stock u.owner=s:=⟨_,rfl⟩
     rw [hs] at hst
     have HST:=hid hs
     clear hs
     rcases hu.ow with how|how
     ·have hcs:wc.cell? ⟨gb,145,none⟩=some (ii s):=by
       have:=HGD.out.c145
       rwa [show t.s0=s by have:=HST.out;rw [how] at this;simpa [T.stock] using this] at this
      rw [how] at uo
      have fzs:=HGD.out.fz 145
      have HOWN:=hid how
      clear how
      obtain ⟨ld,hldd⟩:∃ l,l=u.load:=⟨_,rfl⟩
      have hH:(fun w':World=>w'.cell? ⟨w.heap.size,1,none⟩=some (ii 0)/\w'.cell? ⟨gb,145,none⟩=some (ii s)/\w'.cell? ⟨w.heap.size,6,none⟩=some (ii u.load)) wc.drew:=⟨by simpa using uo,by simpa using hcs,by simpa using ul⟩
      go_wp2_with fail
      refine OneFree.region (fun w':World=>w'.cell? ⟨w.heap.size,1,none⟩=some (ii 0)/\w'.cell? ⟨gb,145,none⟩=some (ii s)/\w'.cell? ⟨w.heap.size,6,none⟩=some (ii u.load)) 16 (by kernel_rfl) ?_
      refine (show OneFree Tryz.prog Region.Mode.any _ _ _ 16 17 (Array.replicate 17 false) _ _ from ?_)
      refine tv 0 hH ?_;try simp only [Act.put,Z]
      refine tv 1 hH ?_;try simp only [Act.put,Z]
      refine tv 2 hH ?_;try simp only [Act.put,Z]
      refine tv 3 hH ?_;try simp only [Act.put,Z]
      refine tv 4 hH ?_;try simp only [Act.put,Z]
      refine tv 5 hH ?_;try simp only [Act.put,Z]
      refine tv 6 hH ?_;try simp only [Act.put,Z]
      refine tv 7 hH ?_;try simp only [Act.put,Z]
      refine tv 8 hH ?_;try simp only [Act.put,Z]
      refine tv 9 hH ?_;try simp only [Act.put,Z]
      refine tv 10 hH ?_;try simp only [Act.put,Z]
      refine tv 11 hH ?_;try simp only [Act.put,Z]
      refine tv 12 hH ?_;try simp only [Act.put,Z]
      refine OneFree.one (i:=13) (by kernel_rfl) ?_
      refine wpOp_step (by simp only [G];rfl) (fun K' hK0=>?_)
      have HK:=hid hK0
      clear hK0
      go_simp
      refine HK.out _ _ ⟨fun _=>hH,?_⟩
      clear HK K';try simp only [Act.put,Z]
      refine OneFree.one (i:=14) (by kernel_rfl) ?_
      refine wpOp_step (by simp only [G];rfl) (fun K' hK0=>?_)
      have HK:=hid hK0
      clear hK0
      go_simp
      refine HK.out _ _ ⟨fun _=>hH,?_⟩
      clear HK K';try simp only [Act.put,Z]
      refine OneFree.one (i:=15) (by kernel_rfl) ?_
      refine wpOp_step (by simp only [G];rfl) (fun K' hK0=>?_)
      have HK:=hid hK0
      clear hK0
      go_simp
      refine HK.out _ _ ⟨fun _=>hH,?_⟩
      clear HK K';try simp only [Act.put,Z]
      refine OneFree.one (i:=16) (by kernel_rfl) ?_
      refine wpOp_step (by simp only [G];rfl) (fun K' hK0=>?_)
      have HK:=hid hK0
      clear hK0
      go_simp
      refine HK.out _ _ ⟨fun h6=>absurd rfl h6,OneFree.done (by kernel_rfl) ?_ _⟩
      clear HK K'
      rw [show IntKind.i64.wrap (s+u.load)=s+u.load by rw [IntKind.wrap_i64];have:=HST.out;omega]
      obtain ⟨W5,hW5⟩:∃ W,W=(wc.setCell ⟨gb,145,none⟩ (.int .i64 (s+u.load))).drew:=⟨_,rfl⟩
      have hf5:Fr [gb] wc W5:=by rw [hW5];exact ((Fr.refl _ _).setCell _ _ (Or.inl (by simp))).drew
      have hg5:RG W5 gb pb cap { t with s0:=s+u.load }:=by rw [hW5];exact (HGD.out.setS0 (s+u.load)).fr0 ((Fr.refl _ _).drew)
      rw [<- hW5]
      have uo5:W5.cell? ⟨w.heap.size,1,none⟩=some (ii 0):=(hf5.cell _ _ (qq1 uo) (by simpa using nub)).trans uo
      have hc5:W5.cell? ⟨gb,145,none⟩=some (ii (s+u.load)):=hg5.c145
      have HG5:=hid hg5
      have hld5:=hu.ld
      have HAR:Hid (R=qj4 (t.setStock u.owner (min (t.stock u.owner+u.load) 1000000000)) { u with load:=0 }):=by show _=_;rw [HR.out,HAM.out,if_pos trivial]
      have HPB:Hid (∀ m:Int,qj4 (t.setStock u.owner m) { u with load:=0 }={ t with s0:=m,us:=t.us.set i { u with load:=0 } }):=fun m=>by
       have e1:t.setStock u.owner m={ t with s0:=m }:=by rw [HOWN.out];rfl
       rw [e1]
       exact qy2 (t:={ t with s0:=m }) (u:=u) (u':={ u with load:=0 }) HOK.out.rise HI.out rfl
      clear hW5 hH hcs uo ul hg5 fzs hcd d6 fz6
      have K5:(fun w':World=>w'.cell? ⟨w.heap.size,1,none⟩=some (ii 0)/\w'.cell? ⟨gb,145,none⟩=some (ii (s+u.load))) W5.drew:=⟨by simpa using uo5,by simpa using hc5⟩
      go_wp2_with fail
      go_region_held (fun w':World=>w'.cell? ⟨w.heap.size,1,none⟩=some (ii 0)/\w'.cell? ⟨gb,145,none⟩=some (ii (s+u.load))) (with_reducible exact K5) (fail)
      by_cases hmx:1000000000 < s+u.load
      ·have HM:Hid (min (t.stock u.owner+u.load) 1000000000=1000000000):=by show _=_;have:=HST.out;rw [this];omega
       have HS9:∀ w',Fr [gb] W5 w'->(fun w':World=>w'.cell? ⟨w.heap.size,1,none⟩=some (ii 0)) w':=fun w' hf=>(hf.cell _ _ (qq1 uo5) (by simpa using nub)).trans uo5
       have K9:=HS9 W5.drew.drew ((Fr.refl _ _).drew.drew)
       have fz5:=HG5.out.fz 145
       go_wp2_with fail
       go_region_held (fun w':World=>w'.cell? ⟨w.heap.size,1,none⟩=some (ii 0)) (first|with_reducible exact K9|(refine HS9 _ ?_;exact (((Fr.refl _ _).setCell _ _ (Or.inl (by simp))).drew).drew)|(refine HS9 _ ?_;exact (((Fr.refl _ _).drew.setCell _ _ (Or.inl (by simp))).drew))|(refine HS9 _ ?_;exact (((Fr.refl _ _).drew.drew.setCell _ _ (Or.inl (by simp)))))) (fail)
       obtain ⟨W6,hW6⟩:∃ W,W=(W5.setCell ⟨gb,145,none⟩ (.int .i64 1000000000)).drew.drew:=⟨_,rfl⟩
       have hf6:Fr [gb] W5 W6:=by rw [hW6];exact (((Fr.refl _ _).setCell _ _ (Or.inl (by simp))).drew).drew
       have hg6:RG W6 gb pb cap { t with s0:=1000000000 }:=by rw [hW6];exact (HG5.out.setS0 1000000000).fr0 ((Fr.refl _ _).drew.drew)
       rw [<- hW6]
       have hc6:=hg6.c148
       obtain ⟨_,_,_,_,_,_,e6,_,_,_,_⟩:=hg6.gv.p.at HI.out
       have fz6:=hg6.frz (i*11+6)
       have HG6:=hid hg6
       clear hW6 hg6
       go_wp2_with fail
       refine bodyPost_end (v:=.tuple #[]) (results_none rfl _ _ _) rfl ⟨rfl,pb,cap,?_,?_,Or.inl rfl⟩
       ·rw [HAR.out,HM.out,HPB.out]
        exact HG6.out.setC (u':={ u with load:=0 }) (v:=ii 0) HI.out (j:=6) (by omega) rfl
       ·exact ((((hwd.of0 (S:=[gb,pb])).trans hf5 (by simp)).trans hf6 (by simp))).setCell _ _ (Or.inl (by simp))
      ·have HM:Hid (min (t.stock u.owner+u.load) 1000000000=s+u.load):=by show _=_;have:=HST.out;rw [this];omega
       have hg6:=HG5.out.fr0 ((Fr.refl [] W5).drew)
       have hc6:=hg6.c148
       obtain ⟨_,_,_,_,_,_,e6,_,_,_,_⟩:=hg6.gv.p.at HI.out
       have fz6:=hg6.frz (i*11+6)
       clear hg6
       go_wp2_with fail
       refine bodyPost_end (v:=.tuple #[]) (results_none rfl _ _ _) rfl ⟨rfl,pb,cap,?_,?_,Or.inl rfl⟩
       ·rw [HAR.out,HM.out,HPB.out]
        exact (HG5.out.setC (u':={ u with load:=0 }) (v:=ii 0) HI.out (j:=6) (by omega) rfl).fr0 ((Fr.refl _ _).drew)
       ·exact (((hwd.of0 (S:=[gb,pb])).trans hf5 (by simp)).setCell _ _ (Or.inl (by simp))).drew
     ·have hcs:wc.cell? ⟨gb,146,none⟩=some (ii s):=by
       have:=HGD.out.c146
       rwa [show t.s1=s by have:=HST.out;rw [how] at this;simpa [T.stock] using this] at this
      rw [how] at uo
      have fzs:=HGD.out.fz 146
      have HOWN:=hid how
      clear how
      obtain ⟨ld,hldd⟩:∃ l,l=u.load:=⟨_,rfl⟩
      have hH:(fun w':World=>w'.cell? ⟨w.heap.size,1,none⟩=some (ii 1)/\w'.cell? ⟨gb,146,none⟩=some (ii s)/\w'.cell? ⟨w.heap.size,6,none⟩=some (ii u.load)) wc.drew:=⟨by simpa using uo,by simpa using hcs,by simpa using ul⟩
      go_wp2_with fail
      refine OneFree.region (fun w':World=>w'.cell? ⟨w.heap.size,1,none⟩=some (ii 1)/\w'.cell? ⟨gb,146,none⟩=some (ii s)/\w'.cell? ⟨w.heap.size,6,none⟩=some (ii u.load)) 16 (by kernel_rfl) ?_
      refine (show OneFree Tryz.prog Region.Mode.any _ _ _ 16 17 (Array.replicate 17 false) _ _ from ?_)
      refine tv 0 hH ?_;try simp only [Act.put,Z]
      refine tv 1 hH ?_;try simp only [Act.put,Z]
      refine tv 2 hH ?_;try simp only [Act.put,Z]
      refine tv 3 hH ?_;try simp only [Act.put,Z]
      refine tv 4 hH ?_;try simp only [Act.put,Z]
      refine tv 5 hH ?_;try simp only [Act.put,Z]
      refine tv 6 hH ?_;try simp only [Act.put,Z]
      refine tv 7 hH ?_;try simp only [Act.put,Z]
      refine tv 8 hH ?_;try simp only [Act.put,Z]
      refine tv 9 hH ?_;try simp only [Act.put,Z]
      refine tv 10 hH ?_;try simp only [Act.put,Z]
      refine tv 11 hH ?_;try simp only [Act.put,Z]
      refine tv 12 hH ?_;try simp only [Act.put,Z]
      refine OneFree.one (i:=13) (by kernel_rfl) ?_
      refine wpOp_step (by simp only [G];rfl) (fun K' hK0=>?_)
      have HK:=hid hK0
      clear hK0
      go_simp
      refine HK.out _ _ ⟨fun _=>hH,?_⟩
      clear HK K';try simp only [Act.put,Z]
      refine OneFree.one (i:=14) (by kernel_rfl) ?_
      refine wpOp_step (by simp only [G];rfl) (fun K' hK0=>?_)
      have HK:=hid hK0
      clear hK0
      go_simp
      refine HK.out _ _ ⟨fun _=>hH,?_⟩
      clear HK K';try simp only [Act.put,Z]
      refine OneFree.one (i:=15) (by kernel_rfl) ?_
      refine wpOp_step (by simp only [G];rfl) (fun K' hK0=>?_)
      have HK:=hid hK0
      clear hK0
      go_simp
      refine HK.out _ _ ⟨fun _=>hH,?_⟩
      clear HK K';try simp only [Act.put,Z]
      refine OneFree.one (i:=16) (by kernel_rfl) ?_
      refine wpOp_step (by simp only [G];rfl) (fun K' hK0=>?_)
      have HK:=hid hK0
      clear hK0
      go_simp
      refine HK.out _ _ ⟨fun h6=>absurd rfl h6,OneFree.done (by kernel_rfl) ?_ _⟩
      clear HK K'
      rw [show IntKind.i64.wrap (s+u.load)=s+u.load by rw [IntKind.wrap_i64];have:=HST.out;omega]
      obtain ⟨W5,hW5⟩:∃ W,W=(wc.setCell ⟨gb,146,none⟩ (.int .i64 (s+u.load))).drew:=⟨_,rfl⟩
      have hf5:Fr [gb] wc W5:=by rw [hW5];exact ((Fr.refl _ _).setCell _ _ (Or.inl (by simp))).drew
      have hg5:RG W5 gb pb cap { t with s1:=s+u.load }:=by rw [hW5];exact (HGD.out.setS1 (s+u.load)).fr0 ((Fr.refl _ _).drew)
      rw [<- hW5]
      have uo5:W5.cell? ⟨w.heap.size,1,none⟩=some (ii 1):=(hf5.cell _ _ (qq1 uo) (by simpa using nub)).trans uo
      have hc5:W5.cell? ⟨gb,146,none⟩=some (ii (s+u.load)):=hg5.c146
      have HG5:=hid hg5
      have hld5:=hu.ld
      have HAR:Hid (R=qj4 (t.setStock u.owner (min (t.stock u.owner+u.load) 1000000000)) { u with load:=0 }):=by show _=_;rw [HR.out,HAM.out,if_pos trivial]
      have HPB:Hid (∀ m:Int,qj4 (t.setStock u.owner m) { u with load:=0 }={ t with s1:=m,us:=t.us.set i { u with load:=0 } }):=fun m=>by
       have e1:t.setStock u.owner m={ t with s1:=m }:=by rw [HOWN.out];rfl
       rw [e1]
       exact qy2 (t:={ t with s1:=m }) (u:=u) (u':={ u with load:=0 }) HOK.out.rise HI.out rfl
      clear hW5 hH hcs uo ul hg5 fzs hcd d6 fz6
      have K5:(fun w':World=>w'.cell? ⟨w.heap.size,1,none⟩=some (ii 1)/\w'.cell? ⟨gb,146,none⟩=some (ii (s+u.load))) W5.drew:=⟨by simpa using uo5,by simpa using hc5⟩
      go_wp2_with fail
      go_region_held (fun w':World=>w'.cell? ⟨w.heap.size,1,none⟩=some (ii 1)/\w'.cell? ⟨gb,146,none⟩=some (ii (s+u.load))) (with_reducible exact K5) (fail)
      by_cases hmx:1000000000 < s+u.load
      ·have HM:Hid (min (t.stock u.owner+u.load) 1000000000=1000000000):=by show _=_;have:=HST.out;rw [this];omega
       have HS9:∀ w',Fr [gb] W5 w'->(fun w':World=>w'.cell? ⟨w.heap.size,1,none⟩=some (ii 1)) w':=fun w' hf=>(hf.cell _ _ (qq1 uo5) (by simpa using nub)).trans uo5
       have K9:=HS9 W5.drew.drew ((Fr.refl _ _).drew.drew)
       have fz5:=HG5.out.fz 146
       go_wp2_with fail
       go_region_held (fun w':World=>w'.cell? ⟨w.heap.size,1,none⟩=some (ii 1)) (first|with_reducible exact K9|(refine HS9 _ ?_;exact (((Fr.refl _ _).setCell _ _ (Or.inl (by simp))).drew).drew)|(refine HS9 _ ?_;exact (((Fr.refl _ _).drew.setCell _ _ (Or.inl (by simp))).drew))|(refine HS9 _ ?_;exact (((Fr.refl _ _).drew.drew.setCell _ _ (Or.inl (by simp)))))) (fail)
       obtain ⟨W6,hW6⟩:∃ W,W=(W5.setCell ⟨gb,146,none⟩ (.int .i64 1000000000)).drew.drew:=⟨_,rfl⟩
       have hf6:Fr [gb] W5 W6:=by rw [hW6];exact (((Fr.refl _ _).setCell _ _ (Or.inl (by simp))).drew).drew
       have hg6:RG W6 gb pb cap { t with s1:=1000000000 }:=by rw [hW6];exact (HG5.out.setS1 1000000000).fr0 ((Fr.refl _ _).drew.drew)
       rw [<- hW6]
       have hc6:=hg6.c148
       obtain ⟨_,_,_,_,_,_,e6,_,_,_,_⟩:=hg6.gv.p.at HI.out
       have fz6:=hg6.frz (i*11+6)
       have HG6:=hid hg6
       clear hW6 hg6
       go_wp2_with fail
       refine bodyPost_end (v:=.tuple #[]) (results_none rfl _ _ _) rfl ⟨rfl,pb,cap,?_,?_,Or.inl rfl⟩
       ·rw [HAR.out,HM.out,HPB.out]
        exact HG6.out.setC (u':={ u with load:=0 }) (v:=ii 0) HI.out (j:=6) (by omega) rfl
       ·exact ((((hwd.of0 (S:=[gb,pb])).trans hf5 (by simp)).trans hf6 (by simp))).setCell _ _ (Or.inl (by simp))
      ·have HM:Hid (min (t.stock u.owner+u.load) 1000000000=s+u.load):=by show _=_;have:=HST.out;rw [this];omega
       have hg6:=HG5.out.fr0 ((Fr.refl [] W5).drew)
       have hc6:=hg6.c148
       obtain ⟨_,_,_,_,_,_,e6,_,_,_,_⟩:=hg6.gv.p.at HI.out
       have fz6:=hg6.frz (i*11+6)
       clear hg6
       go_wp2_with fail
       refine bodyPost_end (v:=.tuple #[]) (results_none rfl _ _ _) rfl ⟨rfl,pb,cap,?_,?_,Or.inl rfl⟩
       ·rw [HAR.out,HM.out,HPB.out]
        exact (HG5.out.setC (u':={ u with load:=0 }) (v:=ii 0) HI.out (j:=6) (by omega) rfl).fr0 ((Fr.refl _ _).drew)
       ·exact (((hwd.of0 (S:=[gb,pb])).trans hf5 (by simp)).setCell _ _ (Or.inl (by simp))).drew
   ·have HAM:Hid (qv1 t u=if yx9 ore=true then (if A2=true then ({ u with load:=min ore 5 },t.setBd (ci u.tox u.toy) (ore - min ore 5)) else (u.to (qv7 t u fun c=>qv5 u.tox u.toy c.1 c.2),t.moved u (qv7 t u fun c=>qv5 u.tox u.toy c.1 c.2))) else (u.idle,t)):=by
     show _=_
     unfold qv1
     rw [if_neg hl,HORE.out,HA2.out]
    by_cases h0:ore=0
    ·subst h0
     go_wp2_with fail
     refine Calls.mono (zw1 gb pb cap t i u _ HGD.out HI.out) ?_
     rintro e w4 ⟨rfl,hg4,hf4⟩
     dsimp only
     go_wp2_with fail
     refine bodyPost_end (v:=.tuple #[]) (results_none rfl _ _ _) rfl ⟨rfl,pb,cap,?_,(hwd.of0 (S:=[gb,pb])).trans hf4 (by simp),Or.inl rfl⟩
     rw [HR.out,HAM.out,if_neg (by decide)]
     exact RG.idled HOK.out HI.out hg4
    ·have h0b:(ore==0)=false:=by simpa using h0
     have horb:yx9 ore=true:=by unfold yx9;simp;omega
     rw [horb] at HAM
     cases A2
     ·go_wp2_with fail
      refine Calls.mono (zw2 gb pb cap t i u u.tox u.toy false _ HGD.out HI.out hu.on (by omega) (by omega) (by omega) (by omega)) ?_
      rintro e w4 ⟨rfl,F,hX,hg4,hf4⟩
      dsimp only
      go_wp2_with fail
      refine bodyPost_end (v:=.tuple #[]) (results_none rfl _ _ _) rfl ⟨rfl,pb,cap,?_,(hwd.of0 (S:=[gb,pb])).trans hf4 (by simp),Or.inl rfl⟩
      rw [HR.out,HAM.out,if_pos trivial,if_neg (by simp)]
      exact RG.went (x:=u.tox) (y:=u.toy) (onto:=false) HOK.out HI.out (fun c=>yv4 _ _ _ _) HA2.out hX hg4
     ·obtain ⟨n,hn⟩:∃ n,min ore 5=n:=⟨_,rfl⟩
      rw [hn] at HAM
      have HAR:Hid (R={ t.setBd (ci u.tox u.toy) (ore - n) with us:=t.us.set i { u with load:=n } }):=by
       show _=_
       rw [HR.out,HAM.out,if_pos rfl,if_pos rfl]
       exact qy2 (t:=t.setBd (ci u.tox u.toy) (ore - n)) (u:=u) (u':={ u with load:=n }) HOK.out.rise HI.out rfl
      obtain ⟨W5,hW5⟩:∃ W,W=wc.setCell ⟨pb,i*11+6,none⟩ (.int .i64 n):=⟨_,rfl⟩
      have hf5:Fr [pb] wc W5:=by rw [hW5];exact (Fr.refl _ _).setCell _ _ (Or.inl (by simp))
      have hg5:RG W5 gb pb cap { t with us:=t.us.set i { u with load:=n } }:=by rw [hW5];exact HGD.out.setC (u':={ u with load:=n }) (v:=ii n) HI.out (j:=6) (by omega) rfl
      have HW5:=hid hW5
      have dx5:W5.cell? ⟨w.heap.size,8,none⟩=some (ii u.tox):=(hf5.cell _ _ (qq1 dx) (by simpa using nub2)).trans dx
      have dy5:W5.cell? ⟨w.heap.size,9,none⟩=some (ii u.toy):=(hf5.cell _ _ (qq1 dy) (by simpa using nub2)).trans dy
      have hbd5:W5.cell? ⟨gb,1+u.toy.toNat*12+u.tox.toNat,none⟩=some (ii ore):=by
       have:=hg5.bd (zz0 hton)
       rwa [show 1+ci u.tox u.toy=1+u.toy.toNat*12+u.tox.toNat by unfold ci;omega,show t.bd (ci u.tox u.toy)=ore from HORE.out] at this
      have fz5:=hg5.fz (1+u.toy.toNat*12+u.tox.toNat)
      have HS:∀ w',Fr [gb] W5 w'->(fun w':World=>cl w' w.heap.size 8 u.tox/\cl w' w.heap.size 9 u.toy) w':=fun w' hf=>⟨(hf.cell _ _ (qq1 dx5) (by simpa using nub)).trans dx5,(hf.cell _ _ (qq1 dy5) (by simpa using nub)).trans dy5⟩
      have K5:=HS W5.drew ((Fr.refl _ _).drew)
      have HG5:=hid hg5
      have HFIN:Hid (RG (W5.setCell ⟨gb,1+u.toy.toNat*12+u.tox.toNat,none⟩ (.int .i64 (ore - n))) gb pb cap R):=by
       have h7:=HG5.out.setB (zz0 hton) (ore - n)
       rw [show 1+ci u.tox u.toy=1+u.toy.toNat*12+u.tox.toNat by unfold ci;omega] at h7
       rw [HAR.out]
       exact h7.of rfl rfl rfl rfl rfl rfl
      clear hW5 hg5
      by_cases h5:ore < 5
      ·have hne5:n=ore:=by omega
       rw [hne5] at HFIN HW5
       go_wp2_with fail
       rw [<- HW5.out]
       go_region_held (fun w':World=>w'.cell? ⟨w.heap.size,8,none⟩=some (ii u.tox)/\w'.cell? ⟨w.heap.size,9,none⟩=some (ii u.toy)) (first|with_reducible exact K5|(refine HS _ ?_;exact ((Fr.refl _ _).setCell _ _ (Or.inl (by simp))).drew)|(refine HS _ ?_;exact (Fr.refl _ _).drew.setCell _ _ (Or.inl (by simp)))) (fail)
       go_wp2_with fail
       refine bodyPost_end (v:=.tuple #[]) (results_none rfl _ _ _) rfl ⟨rfl,pb,cap,?_,?_,Or.inl rfl⟩
       ·rw [show IntKind.i64.wrap 0=ore - ore by rw [IntKind.wrap_i64];omega]
        exact HFIN.out.fr0 ((Fr.refl _ _).drew)
       ·exact (((hwd.of0 (S:=[gb,pb])).trans hf5 (by simp)).setCell _ _ (Or.inl (by simp))).drew
      ·have hne5:n=5:=by omega
       rw [hne5] at HFIN HW5
       go_wp2_with fail
       rw [<- HW5.out]
       go_region_held (fun w':World=>w'.cell? ⟨w.heap.size,8,none⟩=some (ii u.tox)/\w'.cell? ⟨w.heap.size,9,none⟩=some (ii u.toy)) (first|with_reducible exact K5|(refine HS _ ?_;exact ((Fr.refl _ _).setCell _ _ (Or.inl (by simp))).drew)|(refine HS _ ?_;exact (Fr.refl _ _).drew.setCell _ _ (Or.inl (by simp)))) (fail)
       go_wp2_with fail
       refine bodyPost_end (v:=.tuple #[]) (results_none rfl _ _ _) rfl ⟨rfl,pb,cap,?_,?_,Or.inl rfl⟩
       ·rw [show IntKind.i64.wrap (ore - 5)=ore - 5 by rw [IntKind.wrap_i64];omega]
        exact HFIN.out.fr0 ((Fr.refl _ _).drew)
       ·exact (((hwd.of0 (S:=[gb,pb])).trans hf5 (by simp)).setCell _ _ (Or.inl (by simp))).drew
end Go.Proofs.YtapabahhfanmmaaGreatDoor
