import Derived.Test.YtapabahhfanmmaaGreatDoorCOver
import Derived.Deep.QuietTactic
import Derived.BigQuiet
namespace Go.Proofs.YtapabahhfanmmaaGreatDoor
open Go.RowKit
set_option maxRecDepth 100000
set_option maxHeartbeats 800000
def Rise (us:List U):Prop:=us.Pairwise (fun a b=>a.id < b.id)
theorem Rise.lt {us:List U}(h:Rise us){i j:Nat}{a b:U}(hi:us[i]?=some a)(hj:us[j]?=some b)(hij:i < j):a.id < b.id:=by
 obtain ⟨h1,rfl⟩:=List.getElem?_eq_some_iff.1 hi
 obtain ⟨h2,rfl⟩:=List.getElem?_eq_some_iff.1 hj
 exact List.pairwise_iff_getElem.1 h i j h1 h2 hij
theorem vy2 (pb cap:Nat)(us:List U)(id:Int)(w:World)(hp:Ppl w pb us)(hs:Rise us)(hlen:us.length<=1000) :
  Calls Tryz.prog 195 #[.slice (some ⟨pb,0,none⟩) us.length cap,.int .i64 id,fv 196] w fun e w'=>∃ (i:Nat) (f:Bool),e=.returned (.tuple #[.int .i64 i,.bool f])/\Fr [] w w' /\
   (f=true/\(∃ u,us[i]?=some u/\u.id=id)\/f=false/\∀ u∈us,u.id≠id):=by
 go_enter Tryz.func195,Tryz.ntmps195
 go_wp2
 go_loopw [9,10] (fun a b wr=>∃ i j:Nat,i<=j/\j<=us.length/\a=.int .i64 i/\b=.int .i64 j/\(∀ k u,us[k]?=some u->k < i->u.id < id)/\(∀ k u,us[k]?=some u->j<=k->id<=u.id)/\Fr [] w wr) (fun a b _=>((intOf b) - (intOf a)).toNat)
 case atStart=>exact ⟨0,us.length,Nat.zero_le _,Nat.le_refl _,rfl,rfl,fun k u _ h=>by omega,fun k u hk h=>by have:=(List.getElem?_eq_some_iff.1 hk).1;omega,Fr.refl _ _⟩
 case round =>
  obtain ⟨i,j,hij,hj,rfl,rfl,hlo,hhi,hf⟩:=hrel
  by_cases hlt:i < j
  ·have hm:(i+j) / 2 < us.length:=by omega
   obtain ⟨u,hu⟩:∃ u,us[(i+j) / 2]?=some u:=⟨us[(i+j) / 2],List.getElem?_eq_getElem hm⟩
   obtain ⟨c0,c1,c2,c3,c4,c5,c6,c7,c8,c9,c10⟩:=(hp.fr hf (by simp)).at hu
   have HU:=(show Hid (us[(i+j) / 2]?=some u) from hu)
   clear hu
   go_wp2_with fail
   refine (yy3 u id _).mono ?_
   rintro e w1 ⟨rfl,hf1⟩
   by_cases hc:u.id < id
   ·have hci:yv9 u.id id = -1:=by simp [yv9,hc]
    rw [hci]
    clear hci
    go_wp2
    go_roundw
    case rel =>
     refine ⟨(i+j) / 2+1,j,by omega,hj,by go_num,rfl,fun k v hk hlt'=>?_,hhi,hf.then0 hf1⟩
     rcases Nat.lt_or_ge k ((i+j) / 2) with h|h
     ·exact Int.lt_trans (hs.lt hk HU.out h) hc
     ·have hkm:k=(i+j) / 2:=by omega
      subst hkm
      have:=HU.out;rw [hk] at this;rw [Option.some.inj this];exact hc
    case measure=>simp [intOf];omega
   ·have hci:(yv9 u.id id < 0)=False:=by
     simp only [yv9,if_neg hc,eq_iff_iff,iff_false];split <;> omega
    generalize yv9 u.id id=q at hci |-
    have hq:¬ q < 0:=by simp [hci]
    clear hci
    go_wp2
    go_roundw
    case rel =>
     refine ⟨i,(i+j) / 2,by omega,by omega,rfl,by go_num,hlo,fun k v hk hle=>?_,hf.then0 hf1⟩
     rcases Nat.lt_or_ge ((i+j) / 2) k with h|h
     ·have:=hs.lt HU.out hk h;omega
     ·have hkm:k=(i+j) / 2:=by omega
      subst hkm
      have:=HU.out;rw [hk] at this;rw [Option.some.inj this];omega
    case measure=>simp [intOf];omega
  ·have hij':i=j:=by omega
   subst hij'
   by_cases hend:i < us.length
   ·obtain ⟨u,hu⟩:∃ u,us[i]?=some u:=⟨us[i],List.getElem?_eq_getElem hend⟩
    obtain ⟨c0,c1,c2,c3,c4,c5,c6,c7,c8,c9,c10⟩:=(hp.fr hf (by simp)).at hu
    have HU:=(show Hid (us[i]?=some u) from hu)
    clear hu
    go_wp2_with fail
    refine (yy3 u id _).mono ?_
    rintro e w1 ⟨rfl,hf1⟩
    have hle:=hhi i u HU.out (Nat.le_refl _)
    by_cases hc:u.id=id
    ·have hci:yv9 u.id id=0:=by simp [yv9,hc]
     rw [hci]
     clear hci
     go_wp2
     go_ret2
     exact ⟨i,true,rfl,hf.then0 hf1,Or.inl ⟨rfl,u,HU.out,hc⟩⟩
    ·have hci:(yv9 u.id id==0)=false:=by
      have h1:¬ u.id < id:=by omega
      have h2:id < u.id:=by omega
      simp [yv9,h1,h2]
     generalize yv9 u.id id=q at hci |-
     go_wp2
     go_ret2
     refine ⟨i,false,rfl,hf.then0 hf1,Or.inr ⟨rfl,fun v hv=>?_⟩⟩
     obtain ⟨k,hk,rfl⟩:=List.mem_iff_getElem.1 hv
     have hk':us[k]?=some us[k]:=List.getElem?_eq_getElem hk
     rcases Nat.lt_trichotomy k i with h|h|h
     ·have:=hlo k _ hk' h;omega
     ·subst h;have:=HU.out;rw [hk'] at this;rw [Option.some.inj this];exact hc
     ·have:=hs.lt HU.out hk' h;omega
   ·go_wp2
    go_ret2
    refine ⟨i,false,rfl,hf,Or.inr ⟨rfl,fun v hv=>?_⟩⟩
    obtain ⟨k,hk,rfl⟩:=List.mem_iff_getElem.1 hv
    have:=hlo k _ (List.getElem?_eq_getElem hk) (by omega)
    omega
set_option maxRecDepth 100000
theorem kx1 (b pb cap:Nat)(us:List U)(id:Int)(w:World)(hg:GV w b pb cap us)(hs:Rise us) :
  Calls Tryz.prog 152 #[.pointer (some ⟨b,0,none⟩),.int .i64 id] w fun e w'=>∃ (i:Nat) (f:Bool),e=.returned (.tuple #[.int .i64 i,.bool f])/\Fr [] w w' /\
   (f=true/\(∃ u,us[i]?=some u/\u.id=id)\/f=false/\∀ u∈us,u.id≠id):=by
 have hc:=hg.c
 go_enter Tryz.func152,Tryz.ntmps152
 go_wp2_with fail
 refine (vy2 pb cap us id _ hg.p hs hg.len).mono ?_
 rintro e w1 ⟨i,f,rfl,hf,hr⟩
 have HR:=hid hr
 clear hr
 go_wp2
 go_ret2
 exact ⟨i,f,rfl,hf,HR.out⟩
theorem qzj2 (w:World):(Instr.field 220 jk7 3).run Tryz.prog w=.ok (.bool false) w:=by kernel_rfl
theorem qzj3 (w:World):(Instr.field 220 jj9 3).run Tryz.prog w=.ok (.bool true) w:=by kernel_rfl
theorem qzj4 (w:World):(Instr.field 220 jk8 3).run Tryz.prog w=.ok (.bool true) w:=by kernel_rfl
theorem qzj1 (w:World):(Instr.field 220 dk0 3).run Tryz.prog w=.ok (.bool false) w:=by kernel_rfl
theorem jw8 (g:Value)(u:U)(c:Cm)(w:World) :
  Calls Tryz.prog 154 #[g,u.val,c.val] w fun e w'=>e=.returned (.bool (c.x==2||c.x==3))/\Fr [] w w':=by
 obtain ⟨cu,cw,cx,cy,ct⟩:=c
 have r0:=qzj1
 have r1:=qzj2
 have r2:=qzj3
 have r3:=qzj4
 by_cases h1:cx=1
 ·subst h1
  go_enter Tryz.func154,Tryz.ntmps154
  go_wp2_with (go_at_call 121;refine (jx0 _).mono ?_;rintro e w1 ⟨rfl,hf⟩)
  go_ret
  exact ⟨rfl,(((Fr.refl _ _).alloc _).alloc _).then0 hf⟩
 by_cases h2:cx=2
 ·subst h2
  go_enter Tryz.func154,Tryz.ntmps154
  go_wp2_with (go_at_call 121;refine (zk8 _).mono ?_;rintro e w1 ⟨rfl,hf⟩)
  go_ret
  exact ⟨rfl,(((Fr.refl _ _).alloc _).alloc _).then0 hf⟩
 by_cases h3:cx=3
 ·subst h3
  go_enter Tryz.func154,Tryz.ntmps154
  go_wp2_with (go_at_call 121;refine (jq3 _).mono ?_;rintro e w1 ⟨rfl,hf⟩)
  go_ret
  exact ⟨rfl,(((Fr.refl _ _).alloc _).alloc _).then0 hf⟩
 have H1:Hid ((cx==1)=false):=by simp [Hid,h1]
 have H2:Hid ((cx==2)=false):=by simp [Hid,h2]
 have H3:Hid ((cx==3)=false):=by simp [Hid,h3]
 clear h1 h2 h3
 go_enter Tryz.func154,Tryz.ntmps154
 go_wp2_with (go_at_call 121;refine (kk8 cx _ H1.out H2.out H3.out).mono ?_;rintro e w1 ⟨rfl,hf⟩)
 go_ret
 exact ⟨zx4 (by have a:=H2.out;have b:=H3.out;rw [a,b];rfl),(((Fr.refl _ _).alloc _).alloc _).then0 hf⟩
set_option maxRecDepth 100000
def BdAt (w:World)(b:Nat)(bd:Nat->Int):Prop:=∀ i,i < 144->w.cell? ⟨b,4+i,none⟩=some (.int .i64 (bd i))
theorem BdAt.fr {S:List Nat}{w w':World}{b:Nat}{bd:Nat->Int}(h:BdAt w b bd)(hf:Fr S w w')(hn:b∉S):BdAt w' b bd:=fun i hi=>by
 have h1:=h i hi
 rw [hf.cell b _ (qq1 h1) hn];exact h1
def ci (x y:Int):Nat:=y.toNat*12+x.toNat
theorem zz0 {x y:Int}(h:onB x y=true):ci x y < 144:=by rw [qz3] at h;unfold ci;omega
theorem qy1 (x y:Int)(w:World)(B:Bool)(h:onB x y=B) :
    Calls Tryz.prog 201 #[cv x y] w fun e w'=>e=.returned (.bool B)/\Fr [] w w':=h ▸ kv9 x y w
theorem kz0 (b:Nat)(bd:Nat->Int)(u:U)(c:Cm)(w:World)(hbd:BdAt w b bd)(hb:b < w.heap.size)(hin:onB c.x c.y=true) :
  Calls Tryz.prog 157 #[.pointer (some ⟨b,0,none⟩),u.val,c.val] w fun e w'=>e=.returned (.bool (bd (ci c.x c.y) != 10))/\Fr [] w w':=by
 have hlt:=zz0 hin
 obtain ⟨hx0,hx1,hy0,hy1⟩:=qz3.1 hin
 have hcell:=hbd _ hlt
 obtain ⟨v,hv⟩:∃ v,v=bd (ci c.x c.y):=⟨_,rfl⟩
 rw [<- hv] at hcell |-
 clear hbd hv
 unfold ci at hcell
 rw [<- Nat.add_assoc] at hcell
 go_enter Tryz.func157,Tryz.ntmps157
 go_wp2
 go_region_held (fun w'=>w'.cell? ⟨w.heap.size+1,2,none⟩=some (ii c.x)/\w'.cell? ⟨w.heap.size+1,3,none⟩=some (ii c.y)/\w'.cell? ⟨b,4+c.y.toNat*12+c.x.toNat,none⟩=some (ii v)) (first|(go_keep;done)|(refine ⟨?_,?_,?_⟩ <;> (rw [hc _ _ (by first|(simp;done)|(simp;omega))];simp [*])))
  (first|(go_at_call 201;refine (qy1 _ _ _ _ hin).mono ?_;rintro e w1 ⟨rfl,hf⟩;obtain ⟨hc,hz⟩:=hf.cells0))
 go_wp2
 go_ret
 exact ⟨rfl,((((Fr.refl _ _).alloc _).alloc _).drew).then0 hf⟩
theorem xq6 (b:Nat)(u:U)(c:Cm)(w:World)(hin:onB c.x c.y=false) :
  Calls Tryz.prog 157 #[.pointer (some ⟨b,0,none⟩),u.val,c.val] w fun e w'=>e=.returned (.bool false)/\Fr [] w w':=by
 go_enter Tryz.func157,Tryz.ntmps157
 go_wp2
 refine wp_region_held (S:=fun w'=>w'.cell? ⟨w.heap.size+1,2,none⟩=some (ii c.x)/\w'.cell? ⟨w.heap.size+1,3,none⟩=some (ii c.y)) (by kernel_rfl) ?_
 have hS:(fun w':World=>w'.cell? ⟨w.heap.size+1,2,none⟩=some (ii c.x)/\w'.cell? ⟨w.heap.size+1,3,none⟩=some (ii c.y)) ((w.alloc (.cells u.arr 85)).alloc (.cells #[ii c.unit,ii c.what,ii c.x,ii c.y,ii c.target] 81)).drew:=by
  simp
 refine wpAnyH_take (i:=0) (oi:=_) (v:=.pointer (some ⟨w.heap.size+1,2,none⟩)) rfl (by kernel_rfl) (by kernel_rfl) (by kernel_rfl) (fun _ _ _ h=>h) (Or.inl ⟨by kernel_rfl,?_⟩) hS ?_
 ·intro w0 hw0;obtain ⟨hw1,hw2⟩:=hw0;go_simp
 simp only [Act.put]
 refine wpAnyH_take (i:=1) (oi:=_) (v:=ii c.x) rfl (by kernel_rfl) (by kernel_rfl) (by kernel_rfl) (fun _ _ _ h=>h) (Or.inl ⟨by kernel_rfl,?_⟩) hS ?_
 ·intro w0 hw0;obtain ⟨hw1,hw2⟩:=hw0;go_simp
 simp only [Act.put]
 refine wpAnyH_take (i:=2) (oi:=_) (v:=.pointer (some ⟨w.heap.size+1,3,none⟩)) rfl (by kernel_rfl) (by kernel_rfl) (by kernel_rfl) (fun _ _ _ h=>h) (Or.inl ⟨by kernel_rfl,?_⟩) hS ?_
 ·intro w0 hw0;obtain ⟨hw1,hw2⟩:=hw0;go_simp
 simp only [Act.put]
 refine wpAnyH_take (i:=3) (oi:=_) (v:=ii c.y) rfl (by kernel_rfl) (by kernel_rfl) (by kernel_rfl) (fun _ _ _ h=>h) (Or.inl ⟨by kernel_rfl,?_⟩) hS ?_
 ·intro w0 hw0;obtain ⟨hw1,hw2⟩:=hw0;go_simp
 simp only [Act.put]
 refine wpAnyH_take (i:=4) (oi:=_) (v:=.agg #[ii c.x,ii c.y]) rfl (by kernel_rfl) (by kernel_rfl) (by kernel_rfl) (fun _ _ _ h=>h) (Or.inl ⟨by kernel_rfl,?_⟩) hS ?_
 ·intro w0 hw0;obtain ⟨hw1,hw2⟩:=hw0;go_simp
 simp only [Act.put]
 refine wpAnyH_ready (rs:=[5]) (by kernel_rfl) (by simp) ?_
 refine AllReadyH.cons rfl (fun K hK=>?_) AllReadyH.nil
 rw [if_pos (by rfl)]
 go_wp2_with (go_at_call 201;refine (qy1 _ _ _ _ hin).mono ?_;rintro e w1 ⟨rfl,hf⟩)
 have hS2:(fun w':World=>w'.cell? ⟨w.heap.size+1,2,none⟩=some (ii c.x)/\w'.cell? ⟨w.heap.size+1,3,none⟩=some (ii c.y)) w1:=by
  exact ⟨(hf.cell (w.heap.size+1) 2 (by simp) (by simp)).trans hS.1,(hf.cell (w.heap.size+1) 3 (by simp) (by simp)).trans hS.2⟩
 refine hK.out _ _ hS2 (fun _=>?_)
 clear hK hS
 refine wpAnyH_take (i:=6) (oi:=_) (v:=.bool false) rfl (by kernel_rfl) (by kernel_rfl) (by kernel_rfl) (fun _ _ _ h=>h) (Or.inl ⟨by kernel_rfl,?_⟩) hS2 ?_
 ·intro w0 hw0;obtain ⟨hw1,hw2⟩:=hw0;go_simp
 simp only [Act.put]
 refine wpAnyH_take (i:=7) (oi:=_) (v:=undef) rfl (by kernel_rfl) (by kernel_rfl) (by kernel_rfl) (fun _ _ _ h=>h) (Or.inr ⟨by kernel_rfl,rfl⟩) hS2 ?_
 simp only [Act.put]
 refine wpAnyH_take (i:=8) (oi:=_) (v:=undef) rfl (by kernel_rfl) (by kernel_rfl) (by kernel_rfl) (fun _ _ _ h=>h) (Or.inr ⟨by kernel_rfl,rfl⟩) hS2 ?_
 simp only [Act.put]
 refine wpAnyH_take (i:=9) (oi:=_) (v:=undef) rfl (by kernel_rfl) (by kernel_rfl) (by kernel_rfl) (fun _ _ _ h=>h) (Or.inr ⟨by kernel_rfl,rfl⟩) hS2 ?_
 simp only [Act.put]
 refine wpAnyH_take (i:=10) (oi:=_) (v:=undef) rfl (by kernel_rfl) (by kernel_rfl) (by kernel_rfl) (fun _ _ _ h=>h) (Or.inr ⟨by kernel_rfl,rfl⟩) hS2 ?_
 simp only [Act.put]
 refine wpAnyH_take (i:=11) (oi:=_) (v:=undef) rfl (by kernel_rfl) (by kernel_rfl) (by kernel_rfl) (fun _ _ _ h=>h) (Or.inr ⟨by kernel_rfl,rfl⟩) hS2 ?_
 simp only [Act.put]
 refine wpAnyH_take (i:=12) (oi:=_) (v:=undef) rfl (by kernel_rfl) (by kernel_rfl) (by kernel_rfl) (fun _ _ _ h=>h) (Or.inr ⟨by kernel_rfl,rfl⟩) hS2 ?_
 simp only [Act.put]
 refine wpAnyH_take (i:=13) (oi:=_) (v:=undef) rfl (by kernel_rfl) (by kernel_rfl) (by kernel_rfl) (fun _ _ _ h=>h) (Or.inr ⟨by kernel_rfl,rfl⟩) hS2 ?_
 simp only [Act.put]
 refine wpAnyH_take (i:=14) (oi:=_) (v:=undef) rfl (by kernel_rfl) (by kernel_rfl) (by kernel_rfl) (fun _ _ _ h=>h) (Or.inr ⟨by kernel_rfl,rfl⟩) hS2 ?_
 simp only [Act.put]
 refine wpAnyH_take (i:=15) (oi:=_) (v:=undef) rfl (by kernel_rfl) (by kernel_rfl) (by kernel_rfl) (fun _ _ _ h=>h) (Or.inr ⟨by kernel_rfl,rfl⟩) hS2 ?_
 simp only [Act.put]
 refine wpAnyH_take (i:=16) (oi:=_) (v:=undef) rfl (by kernel_rfl) (by kernel_rfl) (by kernel_rfl) (fun _ _ _ h=>h) (Or.inr ⟨by kernel_rfl,rfl⟩) hS2 ?_
 simp only [Act.put]
 refine wpAnyH_take (i:=17) (oi:=_) (v:=undef) rfl (by kernel_rfl) (by kernel_rfl) (by kernel_rfl) (fun _ _ _ h=>h) (Or.inr ⟨by kernel_rfl,rfl⟩) hS2 ?_
 simp only [Act.put]
 refine wpAnyH_take (i:=18) (oi:=_) (v:=.bool false) rfl (by kernel_rfl) (by kernel_rfl) (by kernel_rfl) (fun _ _ _ h=>h) (Or.inl ⟨by kernel_rfl,?_⟩) hS2 ?_
 ·intro w0 hw0;obtain ⟨hw1,hw2⟩:=hw0;go_simp
 simp only [Act.put]
 refine wpAnyH_take (i:=19) (oi:=_) (v:=.bool false) rfl (by kernel_rfl) (by kernel_rfl) (by kernel_rfl) (fun _ _ _ h=>h) (Or.inl ⟨by kernel_rfl,?_⟩) hS2 ?_
 ·intro w0 hw0;obtain ⟨hw1,hw2⟩:=hw0;go_simp
 simp only [Act.put]
 refine wpAnyH_done (by kernel_rfl) ?_ _
 go_wp2
 go_ret
 exact ⟨rfl,((((Fr.refl _ _).alloc _).alloc _).drew).then0 hf⟩
theorem jj2 (b:Nat)(bd:Nat->Int)(u:U)(c:Cm)(w:World)(hbd:BdAt w b bd)(hb:b < w.heap.size) :
  Calls Tryz.prog 157 #[.pointer (some ⟨b,0,none⟩),u.val,c.val] w fun e w'=>e=.returned (.bool (onB c.x c.y&&(bd (ci c.x c.y) != 10)))/\Fr [] w w':=by
 cases h:onB c.x c.y
 ·simpa [h] using xq6 b u c w h
 ·simpa [h] using kz0 b bd u c w hbd hb h
theorem kq9 (b:Nat)(bd:Nat->Int)(u:U)(c:Cm)(w:World)(hbd:BdAt w b bd)(hb:b < w.heap.size)(hin:onB c.x c.y=true) :
  Calls Tryz.prog 160 #[.pointer (some ⟨b,0,none⟩),u.val,c.val] w fun e w'=>e=.returned (.bool (decide (0 < bd (ci c.x c.y))&&decide (bd (ci c.x c.y) < 10)))/\Fr [] w w':=by
 have hlt:=zz0 hin
 obtain ⟨hx0,hx1,hy0,hy1⟩:=qz3.1 hin
 have hcell:=hbd _ hlt
 obtain ⟨v,hv⟩:∃ v,v=bd (ci c.x c.y):=⟨_,rfl⟩
 rw [<- hv] at hcell |-
 clear hbd hv
 unfold ci at hcell
 rw [<- Nat.add_assoc] at hcell
 go_enter Tryz.func160,Tryz.ntmps160
 go_wp2
 go_region_held (fun w'=>w'.cell? ⟨w.heap.size+1,2,none⟩=some (ii c.x)/\w'.cell? ⟨w.heap.size+1,3,none⟩=some (ii c.y)/\w'.cell? ⟨b,4+c.y.toNat*12+c.x.toNat,none⟩=some (ii v)) (first|(go_keep;done)|(refine ⟨?_,?_,?_⟩ <;> (rw [hc _ _ (by first|(simp;done)|(simp;omega))];simp [*])))
  (first|(go_at_call 201;refine (qy1 _ _ _ _ hin).mono ?_;rintro e w1 ⟨rfl,hf⟩;obtain ⟨hc,hz⟩:=hf.cells0)|(go_at_call 204;refine (xx6 _ _).mono ?_;rintro e w1 ⟨rfl,rfl⟩))
 go_wp2
 go_ret
 exact ⟨rfl,((((Fr.refl _ _).alloc _).alloc _).drew).then0 hf⟩
theorem xq5 (b:Nat)(u:U)(c:Cm)(w:World)(hin:onB c.x c.y=false) :
  Calls Tryz.prog 160 #[.pointer (some ⟨b,0,none⟩),u.val,c.val] w fun e w'=>e=.returned (.bool false)/\Fr [] w w':=by
 go_enter Tryz.func160,Tryz.ntmps160
 go_wp2
 refine wp_region_held (S:=fun w'=>w'.cell? ⟨w.heap.size+1,2,none⟩=some (ii c.x)/\w'.cell? ⟨w.heap.size+1,3,none⟩=some (ii c.y)) (by kernel_rfl) ?_
 have hS:(fun w':World=>w'.cell? ⟨w.heap.size+1,2,none⟩=some (ii c.x)/\w'.cell? ⟨w.heap.size+1,3,none⟩=some (ii c.y)) ((w.alloc (.cells u.arr 85)).alloc (.cells #[ii c.unit,ii c.what,ii c.x,ii c.y,ii c.target] 81)).drew:=by
  simp
 refine wpAnyH_take (i:=0) (oi:=_) (v:=.pointer (some ⟨w.heap.size+1,2,none⟩)) rfl (by kernel_rfl) (by kernel_rfl) (by kernel_rfl) (fun _ _ _ h=>h) (Or.inl ⟨by kernel_rfl,?_⟩) hS ?_
 ·intro w0 hw0;obtain ⟨hw1,hw2⟩:=hw0;go_simp
 simp only [Act.put]
 refine wpAnyH_take (i:=1) (oi:=_) (v:=ii c.x) rfl (by kernel_rfl) (by kernel_rfl) (by kernel_rfl) (fun _ _ _ h=>h) (Or.inl ⟨by kernel_rfl,?_⟩) hS ?_
 ·intro w0 hw0;obtain ⟨hw1,hw2⟩:=hw0;go_simp
 simp only [Act.put]
 refine wpAnyH_take (i:=2) (oi:=_) (v:=.pointer (some ⟨w.heap.size+1,3,none⟩)) rfl (by kernel_rfl) (by kernel_rfl) (by kernel_rfl) (fun _ _ _ h=>h) (Or.inl ⟨by kernel_rfl,?_⟩) hS ?_
 ·intro w0 hw0;obtain ⟨hw1,hw2⟩:=hw0;go_simp
 simp only [Act.put]
 refine wpAnyH_take (i:=3) (oi:=_) (v:=ii c.y) rfl (by kernel_rfl) (by kernel_rfl) (by kernel_rfl) (fun _ _ _ h=>h) (Or.inl ⟨by kernel_rfl,?_⟩) hS ?_
 ·intro w0 hw0;obtain ⟨hw1,hw2⟩:=hw0;go_simp
 simp only [Act.put]
 refine wpAnyH_take (i:=4) (oi:=_) (v:=.agg #[ii c.x,ii c.y]) rfl (by kernel_rfl) (by kernel_rfl) (by kernel_rfl) (fun _ _ _ h=>h) (Or.inl ⟨by kernel_rfl,?_⟩) hS ?_
 ·intro w0 hw0;obtain ⟨hw1,hw2⟩:=hw0;go_simp
 simp only [Act.put]
 refine wpAnyH_ready (rs:=[5]) (by kernel_rfl) (by simp) ?_
 refine AllReadyH.cons rfl (fun K hK=>?_) AllReadyH.nil
 rw [if_pos (by rfl)]
 go_wp2_with (go_at_call 201;refine (qy1 _ _ _ _ hin).mono ?_;rintro e w1 ⟨rfl,hf⟩)
 have hS2:(fun w':World=>w'.cell? ⟨w.heap.size+1,2,none⟩=some (ii c.x)/\w'.cell? ⟨w.heap.size+1,3,none⟩=some (ii c.y)) w1:=by
  exact ⟨(hf.cell (w.heap.size+1) 2 (by simp) (by simp)).trans hS.1,(hf.cell (w.heap.size+1) 3 (by simp) (by simp)).trans hS.2⟩
 refine hK.out _ _ hS2 (fun _=>?_)
 clear hK hS
 refine wpAnyH_take (i:=6) (oi:=_) (v:=.bool false) rfl (by kernel_rfl) (by kernel_rfl) (by kernel_rfl) (fun _ _ _ h=>h) (Or.inl ⟨by kernel_rfl,?_⟩) hS2 ?_
 ·intro w0 hw0;obtain ⟨hw1,hw2⟩:=hw0;go_simp
 simp only [Act.put]
 refine wpAnyH_take (i:=7) (oi:=_) (v:=undef) rfl (by kernel_rfl) (by kernel_rfl) (by kernel_rfl) (fun _ _ _ h=>h) (Or.inr ⟨by kernel_rfl,rfl⟩) hS2 ?_
 simp only [Act.put]
 refine wpAnyH_take (i:=8) (oi:=_) (v:=undef) rfl (by kernel_rfl) (by kernel_rfl) (by kernel_rfl) (fun _ _ _ h=>h) (Or.inr ⟨by kernel_rfl,rfl⟩) hS2 ?_
 simp only [Act.put]
 refine wpAnyH_take (i:=9) (oi:=_) (v:=undef) rfl (by kernel_rfl) (by kernel_rfl) (by kernel_rfl) (fun _ _ _ h=>h) (Or.inr ⟨by kernel_rfl,rfl⟩) hS2 ?_
 simp only [Act.put]
 refine wpAnyH_take (i:=10) (oi:=_) (v:=undef) rfl (by kernel_rfl) (by kernel_rfl) (by kernel_rfl) (fun _ _ _ h=>h) (Or.inr ⟨by kernel_rfl,rfl⟩) hS2 ?_
 simp only [Act.put]
 refine wpAnyH_take (i:=11) (oi:=_) (v:=undef) rfl (by kernel_rfl) (by kernel_rfl) (by kernel_rfl) (fun _ _ _ h=>h) (Or.inr ⟨by kernel_rfl,rfl⟩) hS2 ?_
 simp only [Act.put]
 refine wpAnyH_take (i:=12) (oi:=_) (v:=undef) rfl (by kernel_rfl) (by kernel_rfl) (by kernel_rfl) (fun _ _ _ h=>h) (Or.inr ⟨by kernel_rfl,rfl⟩) hS2 ?_
 simp only [Act.put]
 refine wpAnyH_take (i:=13) (oi:=_) (v:=undef) rfl (by kernel_rfl) (by kernel_rfl) (by kernel_rfl) (fun _ _ _ h=>h) (Or.inr ⟨by kernel_rfl,rfl⟩) hS2 ?_
 simp only [Act.put]
 refine wpAnyH_take (i:=14) (oi:=_) (v:=undef) rfl (by kernel_rfl) (by kernel_rfl) (by kernel_rfl) (fun _ _ _ h=>h) (Or.inr ⟨by kernel_rfl,rfl⟩) hS2 ?_
 simp only [Act.put]
 refine wpAnyH_take (i:=15) (oi:=_) (v:=undef) rfl (by kernel_rfl) (by kernel_rfl) (by kernel_rfl) (fun _ _ _ h=>h) (Or.inr ⟨by kernel_rfl,rfl⟩) hS2 ?_
 simp only [Act.put]
 refine wpAnyH_take (i:=16) (oi:=_) (v:=undef) rfl (by kernel_rfl) (by kernel_rfl) (by kernel_rfl) (fun _ _ _ h=>h) (Or.inr ⟨by kernel_rfl,rfl⟩) hS2 ?_
 simp only [Act.put]
 refine wpAnyH_take (i:=17) (oi:=_) (v:=undef) rfl (by kernel_rfl) (by kernel_rfl) (by kernel_rfl) (fun _ _ _ h=>h) (Or.inr ⟨by kernel_rfl,rfl⟩) hS2 ?_
 simp only [Act.put]
 refine wpAnyH_take (i:=18) (oi:=_) (v:=.bool false) rfl (by kernel_rfl) (by kernel_rfl) (by kernel_rfl) (fun _ _ _ h=>h) (Or.inl ⟨by kernel_rfl,?_⟩) hS2 ?_
 ·intro w0 hw0;obtain ⟨hw1,hw2⟩:=hw0;go_simp
 simp only [Act.put]
 refine wpAnyH_take (i:=19) (oi:=_) (v:=.bool false) rfl (by kernel_rfl) (by kernel_rfl) (by kernel_rfl) (fun _ _ _ h=>h) (Or.inl ⟨by kernel_rfl,?_⟩) hS2 ?_
 ·intro w0 hw0;obtain ⟨hw1,hw2⟩:=hw0;go_simp
 simp only [Act.put]
 refine wpAnyH_done (by kernel_rfl) ?_ _
 go_wp2
 go_ret
 exact ⟨rfl,((((Fr.refl _ _).alloc _).alloc _).drew).then0 hf⟩
theorem xq4 (b:Nat)(bd:Nat->Int)(u:U)(c:Cm)(w:World)(hbd:BdAt w b bd)(hb:b < w.heap.size) :
  Calls Tryz.prog 160 #[.pointer (some ⟨b,0,none⟩),u.val,c.val] w fun e w'=>e=.returned (.bool (onB c.x c.y&&(decide (0 < bd (ci c.x c.y))&&decide (bd (ci c.x c.y) < 10))))/\Fr [] w w':=by
 cases h:onB c.x c.y
 ·simpa [h] using xq5 b u c w h
 ·simpa [h] using kq9 b bd u c w hbd hb h
def look (us:List U)(id:Int):Option U:=us.find? (fun u=>u.id==id)
theorem xx9 {us:List U}{id:Int}(h:∀ u∈us,u.id≠id):look us id=none:=by
  unfold look;rw [List.find?_eq_none];intro u hu;simp [h u hu]
theorem yw0 {us:List U}(hs:Rise us){i:Nat}{u:U}(hi:us[i]?=some u):look us u.id=some u:=by
 unfold look
 obtain ⟨hl,he⟩:=List.getElem?_eq_some_iff.1 hi
 rw [List.find?_eq_some_iff_getElem]
 refine ⟨by simp,i,hl,he,fun j hj=>?_⟩
 have:=hs.lt (List.getElem?_eq_getElem (show j < us.length by omega)) hi hj
 simp;omega
def jy9 (us:List U)(o:Int)(id:Int):Bool:=match look us id with|some t=>t.owner != o|none=>false
theorem yv0 (b pb cap:Nat)(us:List U)(u:U)(c:Cm)(w:World)(hg:GV w b pb cap us)(hs:Rise us) :
  Calls Tryz.prog 163 #[.pointer (some ⟨b,0,none⟩),u.val,c.val] w fun e w'=>e=.returned (.bool (jy9 us u.owner c.target))/\Fr [] w w':=by
 go_enter Tryz.func163,Tryz.ntmps163
 go_wp2_with fail
 refine (kx1 b pb cap us c.target _ (hg.fr0 (((Fr.refl _ _).alloc _).alloc _)) hs).mono ?_
 rintro e w1 ⟨i,f,rfl,hf,hr⟩
 have hff:=(((Fr.refl [] w).alloc _).alloc _).then0 hf
 have hg1:=hg.fr0 hff
 have hown:w1.cell? ⟨w.heap.size,1,none⟩=some (ii u.owner):=j9 (hf.heap0 (qz8 w _ _))
 have hc:=hg1.c
 have hlen:=hg.len
 rcases hr with ⟨rfl,t,ht,hid⟩|⟨rfl,hno⟩
 ·have HL:Hid (jy9 us u.owner c.target=(t.owner != u.owner)):=by
   show jy9 _ _ _=_
   unfold jy9;rw [<- hid,yw0 hs ht]
  have hil:i < us.length:=(List.getElem?_eq_some_iff.1 ht).1
  obtain ⟨c0,c1,c2,c3,c4,c5,c6,c7,c8,c9,c10⟩:=hg1.p.at ht
  clear hid ht
  go_wp2_with fail
  go_quiet (fail)
  go_wp2
  go_ret
  exact ⟨by rw [HL.out];rfl,hff.drewN _⟩
 ·have HL:Hid (jy9 us u.owner c.target=false):=by
   show jy9 _ _ _=_
   unfold jy9;rw [xx9 hno]
  clear hno
  go_wp2_with fail
  go_quiet (fail)
  go_wp2
  go_ret
  exact ⟨by rw [HL.out];rfl,hff.drewN _⟩
set_option maxRecDepth 100000
def zy2 (s:Int):Int×Int×Bool :=
 if s=46 then (0,-1,true) else if s=35 then (10,-1,true) else if 49<=s/\s<=57 then (s - 48,-1,true) else if s=65 then (0,0,true) else if s=66 then (0,1,true) else (0,-1,false)
theorem zy1 (s:Int)(w:World)(h0:0<=s)(h1:s<=255) :
  Calls Tryz.prog 120 #[.int .u8 s] w fun e w'=>e=.returned (.tuple #[.int .i64 (zy2 s).1,.int .i64 (zy2 s).2.1,.bool (zy2 s).2.2])/\w=w':=by
 by_cases a:s=46
 ·subst a
  go_enter Tryz.func120,Tryz.ntmps120
  go_wp2
  go_ret3
  exact ⟨rfl,rfl⟩
 by_cases b:s=35
 ·subst b
  go_enter Tryz.func120,Tryz.ntmps120
  go_wp2
  go_ret3
  exact ⟨rfl,rfl⟩
 have ha:(s==46)=false:=by simp [a]
 have hb:(s==35)=false:=by simp [b]
 by_cases c:49<=s/\s<=57
 ·have HS:Hid (zy2 s=(s - 48,-1,true)):=by show zy2 s=_;unfold zy2;rw [if_neg a,if_neg b,if_pos c]
  obtain ⟨c1,c2⟩:=c
  clear a b
  go_enter Tryz.func120,Tryz.ntmps120
  go_wp2
  go_ret3
  exact ⟨by rw [HS.out];rfl,rfl⟩
 by_cases d:s=65
 ·subst d
  go_enter Tryz.func120,Tryz.ntmps120
  go_wp2
  go_ret3
  exact ⟨rfl,rfl⟩
 by_cases e:s=66
 ·subst e
  go_enter Tryz.func120,Tryz.ntmps120
  go_wp2
  go_ret3
  exact ⟨rfl,rfl⟩
 have hd:(s==65)=false:=by simp [d]
 have he:(s==66)=false:=by simp [e]
 have HS:Hid (zy2 s=(0,-1,false)):=by show zy2 s=_;unfold zy2;rw [if_neg a,if_neg b,if_neg c,if_neg d,if_neg e]
 by_cases f:49<=s
 ·have f2:¬ s<=57:=by omega
  clear a b c d e
  go_enter Tryz.func120,Tryz.ntmps120
  go_wp2
  go_ret3
  exact ⟨by rw [HS.out];rfl,rfl⟩
 ·clear a b c d e
  go_enter Tryz.func120,Tryz.ntmps120
  go_wp2
  go_ret3
  exact ⟨by rw [HS.out];rfl,rfl⟩
theorem kk1 (x y gx gy:Int)(gb:Nat)(w:World)(hx:w.cell? ⟨gb,0,none⟩=some (ii gx))(hy:w.cell? ⟨gb,1,none⟩=some (ii gy)) :
  Calls Tryz.prog 203 #[cv x y,.pointer (some ⟨gb,0,none⟩)] w fun e w'=>e=.returned (.bool (x==gx&&y==gy))/\Fr [] w w':=by
 have hgb:=qq1 hx
 obtain ⟨B,hB⟩:∃ B,(x==gx&&y==gy)=B:=⟨_,rfl⟩
 have HB:=hid hB
 rw [hB]
 clear hB
 go_enter Tryz.func203,Tryz.ntmps203
 go_wp2_with (refine qv6 rfl _ _ _ _ rfl rfl x y gx gy rfl rfl B HB.out ?_)
 go_ret
 exact ⟨rfl,(Fr.refl _ _).alloc _⟩
theorem kv7 (w:World) :
  Calls Tryz.prog 150 #[] w fun e w'=>e=.returned (.agg #[.map (some (w.heap.size+1))])/\(w.alloc (.cells #[.map (some (w.heap.size+1))] 208)).alloc (.map #[] 0)=w':=by
 have hmm:=@run_makeMap Tryz.prog
 go_enter Tryz.func150,Tryz.ntmps150
 go_wp2
 exact bodyPost_ret (v:=.agg #[.map (some (w.heap.size+1))]) (by simp [results,Tryz.results150,go_sem]) rfl ⟨rfl,rfl⟩
end Go.Proofs.YtapabahhfanmmaaGreatDoor
