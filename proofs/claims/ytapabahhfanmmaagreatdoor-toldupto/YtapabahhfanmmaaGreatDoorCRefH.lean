import Derived.Test.YtapabahhfanmmaaGreatDoorCRefP
namespace Go.Proofs.YtapabahhfanmmaaGreatDoor
open Go.RowKit
set_option maxRecDepth 100000
set_option maxHeartbeats 2000000
theorem RG.of {w:World}{gb pb cap:Nat}{t t':T}(h:RG w gb pb cap t)(h1:t'.turn=t.turn)(h2:t'.next=t.next)(h3:t'.s0=t.s0)(h4:t'.s1=t.s1)(h5:t'.bd=t.bd)(h6:t'.us=t.us):RG w gb pb cap t':=by
 obtain ⟨a,b,c,d,e,f,g⟩:=t
 obtain ⟨a',b',c',d',e',f',g'⟩:=t'
 dsimp only at h1 h2 h3 h4 h5 h6
 subst h1 h2 h3 h4 h5 h6
 exact ⟨h.cell,h.fz,h.row,h.len,h.ne⟩
theorem RG.relist {w:World}{gb pb cap:Nat}{t:T}(h:RG w gb pb cap t){pb' cap':Nat}{us':List U}(hr:PRow w pb' cap' us')(hn:gb≠pb')(hl:us'.length<=1000):RG (w.setCell ⟨gb,148,none⟩ (.slice (some ⟨pb',0,none⟩) us'.length cap')) gb pb' cap' { t with us:=us' }:=by
 refine ⟨fun k hk=>?_,fun k=>by rw [World.frozen?_setCell];exact h.fz k,hr.fr (S:=[gb]) ((Fr.refl _ _).setCell _ _ (Or.inl (by simp))) (by simpa using fun e=>hn e.symm),hl,hn⟩
 by_cases e:k=148
 ·subst e
  rw [qk0 _ _ _ _ _ h.c148]
  rfl
 ·rw [qz1 _ _ _ _ _ _ (Or.inr (fun x=>e x.symm)),h.cell k hk]
  unfold qw2
  dsimp only
  by_cases e0:k=0
  ·rw [if_pos e0,if_pos e0]
  by_cases e1:k < 145
  ·rw [if_neg e0,if_neg e0,if_pos e1,if_pos e1]
  by_cases e2:k=145
  ·rw [if_neg e0,if_neg e0,if_neg e1,if_neg e1,if_pos e2,if_pos e2]
  by_cases e3:k=146
  ·rw [if_neg e0,if_neg e0,if_neg e1,if_neg e1,if_neg e2,if_neg e2,if_pos e3,if_pos e3]
  ·rw [if_neg e0,if_neg e0,if_neg e1,if_neg e1,if_neg e2,if_neg e2,if_neg e3,if_neg e3,if_pos (by omega),if_pos (by omega)]
structure RStep (w:World) (gb pb:Nat) (R:T) (w':World):Prop where
  h:∃ pb' cap',RG w' gb pb' cap' R/\Fr [gb,pb] w w'/\(pb'=pb\/w.heap.size<=pb')
theorem yv4 (a b c d:Int):qv5 a b c d=qv5 c d a b:=by
 unfold qv5
 rw [Bool.eq_iff_iff]
 simp
 omega
theorem RG.went {w:World} {gb pb cap:Nat} {t:T} (hok:TOk t) {i:Nat} {u:U} (hi:t.us[i]?=some u) {x y:Int} {onto:Bool} {ends:Cl->Bool} (he:∀ c:Cl,ends c=zj0 x y onto c) (hea:zj0 x y onto (u.x,u.y)=false) {F:Cl->Nat} (hX:FarX (qk5 t.us t.bd) (zj0 x y onto) F)
  (h:RG w gb pb cap { t with us:=t.us.set i (u.to (zq9 F (qj0 u.x u.y) (0,(u.x,u.y))).2) }):RG w gb pb cap (qj4 (t.moved u (qv7 t u ends)) (u.to (qv7 t u ends))):=by
 rw [qzx2 hok (List.mem_of_getElem? hi) (fun c _=>he c) hea hX] at h
 rw [qy2 (t:=t.moved u (qv7 t u ends)) (u:=u) (u':=u.to (qv7 t u ends)) hok.rise hi rfl]
 exact h.of rfl rfl rfl rfl rfl rfl
theorem RG.idled {w:World}{gb pb cap:Nat}{t:T}(hok:TOk t){i:Nat}{u:U}(hi:t.us[i]?=some u)(h:RG w gb pb cap { t with us:=t.us.set i u.idle }):RG w gb pb cap (qj4 t u.idle):=by
 rw [qy2 (u':=u.idle) hok.rise hi rfl]
 exact h
theorem gj4 {t:T}{u:U}(hw:u.what=3):qw3 t u=qj4 (qy0 t u).2 (qy0 t u).1:=by unfold qw3 qv9;simp [hw]
theorem dx3 {t:T}(hok:TOk t)(hno:qx3 t.us=false){i j:Nat}{u v:U}(hi:t.us[i]?=some u)(hj:t.us[j]?=some v)(hadj:qv5 u.x u.y v.x v.y=true):qj4 (t.harm j) u=t.harm j:=by
 have hne:=gy4 hadj
 have hij:i≠j:=fun e=>by
  subst e
  rw [hi] at hj
  cases hj
  exact hne rfl
 have hv:=hok.all v (List.mem_of_getElem? hj)
 unfold T.harm
 rw [hj]
 dsimp only
 split
 ·have hg:=hok.gone hj hno
  obtain ⟨m,hm⟩:=List.getElem?_of_mem (List.mem_eraseIdx_iff_getElem?.2 ⟨i,hij,hi⟩)
  exact qw9 hg.rise hm
 ·have hr:Rise (t.us.set j { v with life:=v.life - 3 }):=hok.rise.set hj rfl
  have hm:(t.us.set j { v with life:=v.life - 3 })[i]?=some u:=by rw [List.getElem?_set_ne (fun e=>hij e.symm)];exact hi
  exact qw9 hr hm
def zx0 (us:List U)(j k:Nat):List U:=us.take (min j k) ++ (us.take k).drop (j+1)
theorem gx1 (us:List U)(j:Nat):zx0 us j 0=[]:=by simp [zx0]
theorem fx7 {us:List U}{j:Nat}(hj:j < us.length):zx0 us j us.length=us.eraseIdx j:=by
 unfold zx0
 rw [List.take_length,Nat.min_eq_left (by omega),List.eraseIdx_eq_take_drop_succ]
theorem gx0 {us:List U}{j:Nat}:zx0 us j (j+1)=zx0 us j j:=by
 unfold zx0
 rw [Nat.min_eq_left (by omega),Nat.min_eq_left (by omega),List.drop_of_length_le (by rw [List.length_take];omega),List.drop_of_length_le (by rw [List.length_take];omega)]
theorem gj9 {us:List U}{j k:Nat}{u:U}(hk:us[k]?=some u)(hne:k≠j):zx0 us j (k+1)=zx0 us j k ++ [u]:=by
 have hl:=(List.getElem?_eq_some_iff.1 hk).1
 have ht:us.take (k+1)=us.take k ++ [u]:=xv7 hk
 have hlk:(us.take k).length=k:=by rw [List.length_take];omega
 unfold zx0
 by_cases h:k < j
 ·rw [Nat.min_eq_right (by omega),Nat.min_eq_right (by omega),ht,List.drop_of_length_le (by rw [List.length_append,hlk];simp;omega),List.drop_of_length_le (by rw [hlk];omega)]
  simp
 ·rw [Nat.min_eq_left (by omega),Nat.min_eq_left (by omega),ht,List.drop_append_of_le_length (by rw [hlk];omega),List.append_assoc]
theorem qzz3 {w:World}{base n:Nat}{e:TypeId}{size:Nat}{v:Value}{xs:List Value}(h:w.ownsRow base e size v n xs){b:Nat}(hb:v.ownBlock=some b):base<=b:=qj1 h hb
theorem gw2 (gb pb cap:Nat)(t:T)(i:Nat)(u:U)(w:World)(h:RG w gb pb cap t)(hi:t.us[i]?=some u)(hok:TOk t)(hno:qx3 t.us=false)(hw:u.what=3) :
  Calls Tryz.prog 182 #[.pointer (some ⟨gb,0,none⟩),.int .i64 i] w fun e w'=>e=.returned (.tuple #[])/\RStep w gb pb (qw3 t u) w':=by
 rw [gj4 hw]
 clear hw
 obtain ⟨R,hR⟩:∃ R:T,R=qj4 (qy0 t u).2 (qy0 t u).1:=⟨_,rfl⟩
 rw [<- hR]
 have HR:=hid hR
 clear hR
 have hlen:=h.len
 have hil:=(List.getElem?_eq_some_iff.1 hi).1
 have hili:(i:Int) < (t.us.length:Int):=by omega
 have hu:=hok.all u (List.mem_of_getElem? hi)
 obtain ⟨p0,p1,p2,p3⟩:=qz3.1 hu.on
 have hc:=h.c148
 obtain ⟨c0,c1,c2,c3,c4,c5,c6,c7,c8,c9,c10⟩:=h.gv.p.at hi
 obtain ⟨W1,hW1⟩:∃ W,W=w.alloc (.cells u.arr 85):=⟨_,rfl⟩
 have hf1:Fr [] w W1:=by rw [hW1];exact (Fr.refl _ _).alloc _
 have hu1:W1.heap[w.heap.size]?=some (.cells u.arr 85):=by rw [hW1];exact qq6 _ _
 have HW1:=hid hW1
 have hg1:=h.fr0 hf1
 have HG1:=hid hg1
 have HOK:=hid hok
 have HI:=hid hi
 have HH:=hid h
 clear hok hi h hW1
 go_enter Tryz.func182,Tryz.ntmps182
 go_wp2_with fail
 rw [<- HW1.out]
 clear c0 c1 c2 c3 c4 c5 c6 c7 c8 c9 hc
 have hta:W1.cell? ⟨w.heap.size,10,none⟩=some (ii u.target):=j9 hu1
 cases hp:qz0 t.us u.target with
 | none =>
  have HA:Hid (qy0 t u=(u.idle,t)):=by show _=_;unfold qy0;rw [hp]
  have hF:=zj9 gb pb cap t.us u.target W1 HG1.out.gv
  rw [hp] at hF
  refine Calls.mono hF ?_
  rintro e w2 ⟨rfl,rfl⟩
  dsimp only [jq2]
  clear hF
  go_wp2_with fail
  refine Calls.mono (zw1 gb pb cap t i u _ HG1.out HI.out) ?_
  rintro e w3 ⟨rfl,hg3,hf3⟩
  dsimp only
  go_wp2_with fail
  refine bodyPost_ret (v:=.tuple #[]) (results_none rfl _ _ _) rfl ⟨rfl,pb,cap,by rw [HR.out,HA.out];exact RG.idled HOK.out HI.out hg3,(hf1.of0 (S:=[gb,pb])).trans hf3 (by simp),Or.inl rfl⟩
 | some j =>
  obtain ⟨v,hj,-⟩:=qv8 hp
  have hjl:=(List.getElem?_eq_some_iff.1 hj).1
  have hjli:(j:Int) < (t.us.length:Int):=by omega
  have hj0:¬ (j:Int) < 0:=by omega
  have hvo:=HOK.out.all v (List.mem_of_getElem? hj)
  obtain ⟨q0,q1,q2,q3⟩:=qz3.1 hvo.on
  have hvl:-1000<=v.life/\v.life<=1000:=by have:=hvo.lf;have:=xx8 v.kind;omega
  have HA:Hid (qy0 t u=if qv5 u.x u.y v.x v.y=true then (u,t.harm j) else (u.to (qv7 t u fun c=>qv5 v.x v.y c.1 c.2),t.moved u (qv7 t u fun c=>qv5 v.x v.y c.1 c.2))):=by show _=_;unfold qy0;rw [hp];dsimp only;rw [hj]
  have hF:=zj9 gb pb cap t.us u.target W1 HG1.out.gv
  rw [hp] at hF
  have hc1:=HG1.out.c148
  obtain ⟨d0,d1,d2,d3,d4,d5,d6,d7,d8,d9,d10⟩:=HG1.out.gv.p.at hj
  obtain ⟨W2,hW2⟩:∃ W,W=W1.alloc (.cells v.arr 85):=⟨_,rfl⟩
  have hf2:Fr [] w W2:=by rw [hW2];exact hf1.alloc _
  have hu2:W2.heap[w.heap.size]?=some (.cells u.arr 85):=by rw [hW2,qz7 _ _ _ (qq2 hu1)];exact hu1
  have hv2:W2.heap[W1.heap.size]?=some (.cells v.arr 85):=by rw [hW2];exact qq6 _ _
  have HW2:=hid hW2
  have HJ:=hid hj
  have hs1:W1.heap.size=w.heap.size+1:=by rw [HW1.out];simp
  obtain ⟨vb,hvb⟩:∃ x,x=W1.heap.size:=⟨_,rfl⟩
  have HVB:=hid hvb
  have HS1:=hid hs1
  have ux1:W1.cell? ⟨w.heap.size,3,none⟩=some (ii u.x):=j9 hu1
  have uy1:W1.cell? ⟨w.heap.size,4,none⟩=some (ii u.y):=j9 hu1
  have hwl:w.heap.size < W1.heap.size:=qq2 hu1
  clear hW2 hp hj hs1
  refine Calls.mono hF ?_
  rintro e w2 ⟨rfl,rfl⟩
  dsimp only [jq2]
  clear hF
  go_wp2_with fail
  rw [<- HW2.out]
  clear d0 d1 d2 d3 d4 d6 d7 d8 d9 d10 hc1
  rw [<- hvb] at hv2 |-
  clear hvb
  have ux:W2.cell? ⟨w.heap.size,3,none⟩=some (ii u.x):=j9 hu2
  have uy:W2.cell? ⟨w.heap.size,4,none⟩=some (ii u.y):=j9 hu2
  have vx:W2.cell? ⟨vb,3,none⟩=some (ii v.x):=j9 hv2
  have vy:W2.cell? ⟨vb,4,none⟩=some (ii v.y):=j9 hv2
  have vl:W2.cell? ⟨vb,5,none⟩=some (ii v.life):=j9 hv2
  have hg2:=HH.out.fr0 hf2
  have HG2:=hid hg2
  clear ux1 uy1
  refine Calls.mono (jk4 u.x u.y v.x v.y _ (by omega) (by omega) (by omega) (by omega) (by omega) (by omega) (by omega) (by omega)) ?_
  rintro e w3 ⟨rfl,rfl⟩
  dsimp only
  cases hadj:qv5 u.x u.y v.x v.y
  ·rw [hadj] at HA
   go_wp2_with fail
   refine Calls.mono (zw2 gb pb cap t i u v.x v.y false _ HG2.out HI.out hu.on (by omega) (by omega) (by omega) (by omega)) ?_
   rintro e w4 ⟨rfl,F,hX,hg4,hf4⟩
   dsimp only
   go_wp2_with fail
   refine bodyPost_ret (v:=.tuple #[]) (results_none rfl _ _ _) rfl ⟨rfl,pb,cap,?_,(hf2.of0 (S:=[gb,pb])).trans hf4 (by simp),Or.inl rfl⟩
   rw [HR.out,HA.out,if_neg (by simp)]
   exact RG.went (x:=v.x) (y:=v.y) (onto:=false) HOK.out HI.out (fun c=>yv4 _ _ _ _) hadj hX hg4
  ·rw [hadj] at HA
   have HAD:=hid hadj
   have hc2:=hg2.c148
   have fz:=hg2.frz (j*11+5)
   obtain ⟨_,_,_,_,_,d5,_,_,_,_,_⟩:=hg2.gv.p.at HJ.out
   have hne:=hg2.ne
   have hne2:¬ pb=gb:=fun e=>hne e.symm
   have hpl:=HH.out.pl
   have hvbn:¬ vb=pb:=by have:=HVB.out;have:=HS1.out;omega
   clear hg2 ux uy vx vy
   have HS:∀ w',Fr [pb] W2 w'->(fun w':World=>w'.cell? ⟨gb,148,none⟩=some (.slice (some ⟨pb,0,none⟩) t.us.length cap)/\cl w' vb 5 v.life) w':=fun w' hf=>⟨(hf.cell _ _ (qq1 hc2) (by simpa using hne)).trans hc2,(hf.cell _ _ (qq1 vl) (by simpa using hvbn)).trans vl⟩
   have KF:Fr [pb] W2 W2.drew:=(Fr.refl _ _).drew
   have K0:=HS _ KF
   go_wp2_with fail
   go_region_held (fun w':World=>w'.cell? ⟨gb,148,none⟩=some (.slice (some ⟨pb,0,none⟩) t.us.length cap)/\w'.cell? ⟨vb,5,none⟩=some (ii v.life)) (first|with_reducible exact K0|(refine HS _ (Fr.drew ?_);exact (Fr.refl _ _).setCell _ _ (Or.inl (by simp)))|(refine HS _ ?_;exact KF.setCell _ _ (Or.inl (by simp)))) (fail)
   obtain ⟨v',hv'⟩:∃ v':U,v'={ v with life:=v.life - 3 }:=⟨_,rfl⟩
   obtain ⟨W4,hW4⟩:∃ W,W=(W2.setCell ⟨pb,j*11+5,none⟩ (.int .i64 (v.life - 3))).drew:=⟨_,rfl⟩
   have hg4:RG W4 gb pb cap { t with us:=t.us.set j v' }:=by
    have h5:=HG2.out.setC (u':={ v with life:=v.life - 3 }) (v:=ii (v.life - 3)) HJ.out (j:=5) (by omega) rfl
    rw [hW4,hv']
    exact h5.fr0 ((Fr.refl _ _).drew)
   have hf4:Fr [pb] W2 W4:=by rw [hW4];exact ((Fr.refl _ _).setCell _ _ (Or.inl (by simp))).drew
   have HV:=(show Hid _ from hv')
   have HW4:=hid hW4
   clear hW4 K0 KF HS vl hc2 d5 fz hv'
   rw [show IntKind.i64.wrap (v.life - 3)=v.life - 3 by rw [IntKind.wrap_i64];omega,<- HW4.out]
   have hc4:=hg4.c148
   have e5:(t.us.set j v').length=t.us.length:=List.length_set
   dsimp only at hc4
   rw [e5] at hc4
   obtain ⟨_,_,_,_,_,d5,_,_,_,_,_⟩:=hg4.gv.p.at (qz2 HJ.out)
   rw [show v'.life=v.life - 3 by rw [HV.out]] at d5
   have HHP:=(show Hid _ from dx3 HOK.out hno HI.out HJ.out hadj)
   have HRE:Hid (R=t.harm j):=by show _=_;rw [HR.out,HA.out];simpa using HHP.out
   have hw4:Fr [pb] w W4:=(hf2.of0 (S:=[pb])).trans hf4 (by simp)
   have HG4:=hid hg4
   clear hg4 hu2 hv2 hu1 hta
   by_cases hd:v.life - 3<=0
   ·have HHM:Hid (t.harm j={ t with us:=t.us.eraseIdx j,held:=fun k=>if k=(v.x,v.y) then none else t.held k }):=by
     show _=_
     unfold T.harm
     rw [HJ.out]
     dsimp only
     rw [if_pos hd]
    obtain ⟨us4,hus4⟩:∃ l,l=t.us.set j v':=⟨_,rfl⟩
    have HER:Hid (us4.eraseIdx j=t.us.eraseIdx j):=by show _=_;rw [hus4,List.eraseIdx_set_eq]
    have HL4:Hid (us4.length=t.us.length):=by show _=_;rw [hus4];exact e5
    have HP4:Hid (Ppl W4 pb us4):=by rw [hus4];exact HG4.out.gv.p
    rw [<- hus4] at HG4
    have hg1:=HOK.out.gone HJ.out hno
    have hgl:0 < (t.us.eraseIdx j).length:=by
     have h1:=hg1.bs
     dsimp only at h1
     cases he:t.us.eraseIdx j with
     | nil=>rw [he] at h1;simp at h1
     | cons a b=>simp
    clear hus4 e5 hg1
    obtain ⟨inf,hi0,hz0,hz1,hz2⟩:=info_parts jv6
    go_wp2_with fail
    go_loopw [8,9] (fun l i wr=>∃ k:Nat,k<=t.us.length/\i=.int .i64 k/\wr.ownsRow W4.heap.size 85 11 l (zx0 us4 j k).length ((zx0 us4 j k).flatMap U.cells)/\Fr [] W4 wr) (fun _ i _=>t.us.length - (intOf i).toNat)
    case atStart=>exact ⟨0,Nat.zero_le _,rfl,by rw [gx1];exact ⟨rfl,Or.inl ⟨rfl,rfl⟩⟩,Fr.refl _ _⟩
    case round =>
     obtain ⟨k,hk,rfl,hown,hfr⟩:=hrel
     have hg5:=HG4.out.fr0 hfr
     have hc5:=hg5.c148
     dsimp only at hc5
     rw [HL4.out] at hc5
     by_cases hlt:k < t.us.length
     ·have hlti:(k:Int) < (t.us.length:Int):=by omega
      by_cases hkj:k=j
      ·have hkjb:((k:Int) != (j:Int))=false:=by simp;omega
       have HBT:Hid (zx0 us4 j (k+1)=zx0 us4 j k):=by show _=_;rw [hkj];exact gx0
       go_wp2_with fail
       go_roundw
       case rel=>exact ⟨k+1,hlt,by go_num,by rw [HBT.out];exact hown,hfr⟩
       case measure=>simp [intOf];omega
      ·have hkjb:((k:Int) != (j:Int))=true:=by simp;omega
       obtain ⟨x,hx⟩:∃ x,us4[k]?=some x:=⟨us4[k]'(by rw [HL4.out];exact hlt),List.getElem?_eq_getElem (by rw [HL4.out];exact hlt)⟩
       have HBT:Hid (zx0 us4 j (k+1)=zx0 us4 j k ++ [x]):=gj9 hx hkj
       have hbl:(zx0 us4 j k).length<=1000:=by
        unfold zx0
        rw [List.length_append,List.length_take,List.length_drop,List.length_take,HL4.out]
        omega
       obtain ⟨x0,x1,x2,x3,x4,x5,x6,x7,x8,x9,x10⟩:=(hg5.gv.p).at hx
       have HN:Hid (∀ (W:World) (j:Nat) (y:Value),x.cells[j]?=some y->(W.alloc (.cells x.arr 85)).cell? ((⟨W.heap.size,0,none⟩:Addr).add j)=some y):=by
        intro W j y hy
        rw [Addr.add_lit,Nat.zero_add,j9 (qq6 W _)]
        simpa using hy
       have HB1:Hid (∀ b,u8.ownBlock=some b->W4.heap.size<=b):=fun b hb=>qzz3 hown hb
       have HOW:Hid ((wr.alloc (.cells x.arr 85)).ownsRow W4.heap.size 85 11 u8 (zx0 us4 j k).length ((zx0 us4 j k).flatMap U.cells)):=qq7 hown ((Fr.refl [] wr).alloc _) (by simp)
       have hwr:=hfr.size
       clear hown hg5 hx
       go_wp2_with (at_builtin;refine wpList_append_own _ rfl _ _ 82 rfl W4.heap.size 85 inf zeroU.val 11 88 Tryz.underlying82 hi0 hz0 hz1 hz2 rfl (by decide) u8 (zx0 us4 j k).length ((zx0 us4 j k).flatMap U.cells) rfl HOW.out ⟨wr.heap.size,0,none⟩ 1 1 x.cells rfl rfl (HN.out wr) (by simp [Value.oneCell']) (by unfold maxLen;omega) (by omega) (by simp;omega) ?_;intro y' w5 hown5 hgrow hnil5)
       have hf5:Fr [] W4 w5:=(hfr.alloc _).grow hgrow (fun g hg=>Or.inr (HB1.out g hg))
       go_roundw
       case rel =>
        refine ⟨k+1,hlt,by go_num,?_,hf5⟩
        rw [HBT.out,List.length_append,List.flatMap_append]
        simpa using hown5
       case measure=>simp [intOf];omega
     ·have hlti:¬ (k:Int) < (t.us.length:Int):=by omega
      have hke:k=us4.length:=by rw [HL4.out];omega
      rw [hke,fx7 (by rw [HL4.out];exact hjl),HER.out] at hown
      obtain ⟨pb',cap',rfl,hbb,hrow⟩:=PRow.of_owns hown rfl hgl
      have hfz:=hg5.fz 148
      have hgr:gb < W4.heap.size:=HG4.out.lt
      have HG5:=hid hg5
      have HRW:=hid hrow
      clear hg5 hown hrow
      go_wp2_with fail
      refine bodyPost_end (v:=.tuple #[]) (results_none rfl _ _ _) rfl ⟨rfl,pb',cap',?_,?_,Or.inr (Nat.le_trans hw4.size hbb)⟩
      ·rw [HRE.out,HHM.out]
       exact (HG5.out.relist HRW.out (by omega) (by have:=List.length_eraseIdx_le t.us j;omega)).of rfl rfl rfl rfl rfl rfl
      ·exact ((hw4.mono (S':=[gb,pb]) (by simp)).then0 hfr).setCell _ _ (Or.inl (by simp))
   ·have HHM:Hid (t.harm j={ t with us:=t.us.set j { v with life:=v.life - 3 } }):=by
     show _=_
     unfold T.harm
     rw [HJ.out]
     dsimp only
     rw [if_neg hd]
    go_wp2_with fail
    refine bodyPost_end (v:=.tuple #[]) (results_none rfl _ _ _) rfl ⟨rfl,pb,cap,?_,hw4.mono (by simp),Or.inl rfl⟩
    rw [HRE.out,HHM.out,<- HV.out]
    exact HG4.out
end Go.Proofs.YtapabahhfanmmaaGreatDoor
