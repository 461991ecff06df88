import Derived.Test.YtapabahhfanmmaaGreatDoorCRefO
namespace Go.Proofs.YtapabahhfanmmaaGreatDoor
open Go.RowKit
set_option maxHeartbeats 2000000
set_option maxRecDepth 100000
theorem zj9 (b pb cap:Nat)(us:List U)(id:Int)(w:World)(hg:GV w b pb cap us) :
  Calls Tryz.prog 177 #[.pointer (some ⟨b,0,none⟩),.int .i64 id] w fun e w'=>e=.returned (.int .i64 (jq2 (qz0 us id)))/\w=w':=by
 have hlen:=hg.len
 have hc:=hg.c
 have hb:=qq1 hc
 go_enter Tryz.func177,Tryz.ntmps177
 go_wp2_with fail
 go_loopw [5] (fun i wr=>∃ k:Nat,k<=us.length/\i=.int .i64 k/\(∀ j,j < k->∀ (h:j < us.length),(us[j].id==id)=false)/\w=wr) (fun i _=>us.length - (intOf i).toNat)
 case atStart=>exact ⟨0,Nat.zero_le _,rfl,fun j h=>by omega,rfl⟩
 case round =>
  obtain ⟨k,hk,rfl,hno,rfl⟩:=hrel
  have hg2:=hg
  have hc2:=hg2.c
  by_cases hlt:k < us.length
  ·have hlti:(k:Int) < (us.length:Int):=by omega
   obtain ⟨u,hu⟩:∃ u,us[k]?=some u:=⟨us[k],List.getElem?_eq_getElem hlt⟩
   obtain ⟨c0,c1,c2,c3,c4,c5,c6,c7,c8,c9,c10⟩:=hg2.p.at hu
   have HU:=(show Hid (us[k]?=some u) from hu)
   have HN:=hid hno
   clear hu hno c1 c2 c3 c4 c5 c6 c7 c8 c9 c10
   by_cases hk1:(u.id==id)=true
   ·go_wp2_with fail
    go_ret
    exact ⟨by unfold qz0;rw [yx6 (p:=fun u:U=>u.id==id) HU.out hk1 HN.out];rfl,rfl⟩
   ·simp only [Bool.not_eq_true] at hk1
    go_wp2_with fail
    go_roundw
    case rel=>exact ⟨k+1,hlt,by go_num,jz4 (p:=fun u:U=>u.id==id) HU.out hk1 HN.out,trivial⟩
    case measure=>simp [intOf];omega
  ·have hlti:¬ (k:Int) < (us.length:Int):=by omega
   have HN:=hid hno
   clear hno
   go_wp2_with fail
   go_ret
   exact ⟨by unfold qz0;rw [yx5 (p:=fun u:U=>u.id==id) (fun j hj=>HN.out j (by omega) hj)];rfl,rfl⟩
theorem qjx1 (gb:Nat)(cu cx cy ct uid uow ux uy uli ulo uwh utx uty uta:Int)(w:World) :
  Calls Tryz.prog 178 #[.pointer (some ⟨gb,0,none⟩),(⟨uid,uow,1,ux,uy,uli,ulo,uwh,utx,uty,uta⟩:U).val,(⟨cu,2,cx,cy,ct⟩:Cm).val] w fun e w'=>e=.returned (.tuple #[(⟨uid,uow,1,ux,uy,uli,ulo,2,cx,cy,0⟩:U).val,.bool false])/\Fr [] w w':=by
 go_enter Tryz.func178,Tryz.ntmps178
 go_wp2_with (first|(go_at_call 185;refine (qx1 _ _ _).mono ?_;rintro e w1 ⟨rfl,rfl⟩))
 obtain ⟨W3,hW3⟩:∃ W,W=((w.alloc (.cells #[ii uid,ii uow,ii 1,ii ux,ii uy,ii uli,ii ulo,ii 2,ii cx,ii cy,ii 0] 85)).alloc (.cells #[ii cu,ii 2,ii cx,ii cy,ii ct] 81)).alloc (.cells #[ii 0,ii 0,ii 0,ii 0,ii 0,ii 0,ii 0,ii 0,ii 0,ii 0,ii 0] 85):=⟨_,rfl⟩
 rw [<- hW3]
 have hf3:Fr [] w W3:=by rw [hW3];exact (((Fr.refl _ _).alloc _).alloc _).alloc _
 have hU:W3.heap[w.heap.size]?=some (.cells #[ii uid,ii uow,ii 1,ii ux,ii uy,ii uli,ii ulo,ii 2,ii cx,ii cy,ii 0] 85):=by rw [hW3,qz7 _ _ _ (by simp;omega),qz8]
 have hC:W3.heap[w.heap.size+1]?=some (.cells #[ii cu,ii 2,ii cx,ii cy,ii ct] 81):=by rw [hW3,qz7 _ _ _ (by simp),qz4]
 have hR:W3.heap[w.heap.size+1+1]?=some (.cells #[ii 0,ii 0,ii 0,ii 0,ii 0,ii 0,ii 0,ii 0,ii 0,ii 0,ii 0] 85):=by rw [hW3,qk1]
 clear hW3
 have HS:∀ w',Fr [w.heap.size+1+1] W3 w'->(fun w':World=>cl w' w.heap.size 0 uid/\cl w' w.heap.size 1 uow/\cl w' w.heap.size 2 1/\cl w' w.heap.size 3 ux/\cl w' w.heap.size 4 uy/\cl w' w.heap.size 5 uli/\cl w' w.heap.size 6 ulo/\cl w' w.heap.size 7 2/\cl w' w.heap.size 8 cx/\cl w' w.heap.size 9 cy/\cl w' w.heap.size 10 0/\cl w' (w.heap.size+1) 2 cx/\cl w' (w.heap.size+1) 3 cy) w':=fun w' hf=>by
  have hu:=hf.heap hU (by simp;omega)
  have hc:=hf.heap hC (by simp;try omega)
  exact ⟨j9 hu,j9 hu,j9 hu,j9 hu,j9 hu,j9 hu,j9 hu,j9 hu,j9 hu,j9 hu,j9 hu,j9 hc,j9 hc⟩
 have KF:Fr [w.heap.size+1+1] W3 W3.drew:=(Fr.refl _ _).drew
 have K0:=HS _ KF
 have hrc:∀ j,W3.cell? ⟨w.heap.size+1+1,j,none⟩=#[ii 0,ii 0,ii 0,ii 0,ii 0,ii 0,ii 0,ii 0,ii 0,ii 0,ii 0][j]?:=fun j=>j9 hR
 have hrf:∀ j,W3.frozen? ⟨w.heap.size+1+1,j,none⟩=false:=fun j=>qq0 hR
 clear hU hC
 refine wp_region_held_drew (S:=fun w':World=>cl w' w.heap.size 0 uid/\cl w' w.heap.size 1 uow/\cl w' w.heap.size 2 1/\cl w' w.heap.size 3 ux/\cl w' w.heap.size 4 uy/\cl w' w.heap.size 5 uli/\cl w' w.heap.size 6 ulo/\cl w' w.heap.size 7 2/\cl w' w.heap.size 8 cx/\cl w' w.heap.size 9 cy/\cl w' w.heap.size 10 0/\cl w' (w.heap.size+1) 2 cx/\cl w' (w.heap.size+1) 3 cy) (by kernel_rfl) K0 (fun hH=>?_)
 refine (show wpAnyH Tryz.prog Region.Mode.any _ _ _ 35 (Array.replicate 35 false) _ _ from ?_)
 iterate 33 (refine tn 35 hH ?_;try simp only [Act.put,Z])
 refine wpAnyH_ready (rs:=[33]) (by kernel_rfl) (by simp) ?_
 refine AllReadyH.cons (by simp only [G];rfl) (fun K hK=>?_) AllReadyH.nil
 go_simp
 obtain ⟨W5,hW5⟩:∃ W,W=(((((((((((W3.setCell ⟨w.heap.size+1+1,0,none⟩ (.int .i64 uid)).setCell ⟨w.heap.size+1+1,1,none⟩ (.int .i64 uow)).setCell ⟨w.heap.size+1+1,2,none⟩ (.int .i64 1)).setCell ⟨w.heap.size+1+1,3,none⟩ (.int .i64 ux)).setCell ⟨w.heap.size+1+1,4,none⟩ (.int .i64 uy)).setCell ⟨w.heap.size+1+1,5,none⟩ (.int .i64 uli)).setCell ⟨w.heap.size+1+1,6,none⟩ (.int .i64 ulo)).setCell ⟨w.heap.size+1+1,7,none⟩ (.int .i64 2)).setCell ⟨w.heap.size+1+1,8,none⟩ (.int .i64 cx)).setCell ⟨w.heap.size+1+1,9,none⟩ (.int .i64 cy)).setCell ⟨w.heap.size+1+1,10,none⟩ (.int .i64 0)).drew:=⟨_,rfl⟩
 have hfr:Fr [w.heap.size+1+1] W3 W5:=by rw [hW5];refine Fr.drew ?_;(iterate 11 refine Fr.setCell ?_ _ _ (Or.inl (by simp)));exact Fr.refl _ _
 have h11:W5.heap[w.heap.size+1+1]?=some (.cells (⟨uid,uow,1,ux,uy,uli,ulo,2,cx,cy,0⟩:U).arr 85):=by rw [hW5,qx4];exact set11 (z:=zeroU) (v:=⟨uid,uow,1,ux,uy,uli,ulo,2,cx,cy,0⟩) hR
 rw [<- hW5]
 clear hW5
 have hS2:=HS _ hfr
 refine hK.out _ _ hS2 (fun hH2=>?_)
 clear hK K;try simp only [Act.put,Z]
 refine ta 34 hH2 ?_;try simp only [Act.put,Z]
 refine wpAnyH_done (by kernel_rfl) ?_ _
 go_wp2_with fail
 exact bodyPost_ret (v:=.tuple #[(⟨uid,uow,1,ux,uy,uli,ulo,2,cx,cy,0⟩:U).val,.bool false]) (qq3 Tryz.results178 _ _ (w.heap.size+1+1) 85 _ (0,0) _ _ rfl rfl h11 Tryz.underlying85 rfl qq5) rfl ⟨rfl,hf3.trans hfr (by simp;omega)⟩
theorem qjx2 (gb:Nat)(cu cx cy ct uid uow ux uy uli ulo uwh utx uty uta:Int)(w:World) :
  Calls Tryz.prog 178 #[.pointer (some ⟨gb,0,none⟩),(⟨uid,uow,3,ux,uy,uli,ulo,uwh,utx,uty,uta⟩:U).val,(⟨cu,2,cx,cy,ct⟩:Cm).val] w fun e w'=>e=.returned (.tuple #[(⟨uid,uow,3,ux,uy,uli,ulo,2,cx,cy,0⟩:U).val,.bool false])/\Fr [] w w':=by
 go_enter Tryz.func178,Tryz.ntmps178
 go_wp2_with (first|(go_at_call 185;refine (qx1 _ _ _).mono ?_;rintro e w1 ⟨rfl,rfl⟩))
 obtain ⟨W3,hW3⟩:∃ W,W=((w.alloc (.cells #[ii uid,ii uow,ii 3,ii ux,ii uy,ii uli,ii ulo,ii 2,ii cx,ii cy,ii 0] 85)).alloc (.cells #[ii cu,ii 2,ii cx,ii cy,ii ct] 81)).alloc (.cells #[ii 0,ii 0,ii 0,ii 0,ii 0,ii 0,ii 0,ii 0,ii 0,ii 0,ii 0] 85):=⟨_,rfl⟩
 rw [<- hW3]
 have hf3:Fr [] w W3:=by rw [hW3];exact (((Fr.refl _ _).alloc _).alloc _).alloc _
 have hU:W3.heap[w.heap.size]?=some (.cells #[ii uid,ii uow,ii 3,ii ux,ii uy,ii uli,ii ulo,ii 2,ii cx,ii cy,ii 0] 85):=by rw [hW3,qz7 _ _ _ (by simp;omega),qz8]
 have hC:W3.heap[w.heap.size+1]?=some (.cells #[ii cu,ii 2,ii cx,ii cy,ii ct] 81):=by rw [hW3,qz7 _ _ _ (by simp),qz4]
 have hR:W3.heap[w.heap.size+1+1]?=some (.cells #[ii 0,ii 0,ii 0,ii 0,ii 0,ii 0,ii 0,ii 0,ii 0,ii 0,ii 0] 85):=by rw [hW3,qk1]
 clear hW3
 have HS:∀ w',Fr [w.heap.size+1+1] W3 w'->(fun w':World=>cl w' w.heap.size 0 uid/\cl w' w.heap.size 1 uow/\cl w' w.heap.size 2 3/\cl w' w.heap.size 3 ux/\cl w' w.heap.size 4 uy/\cl w' w.heap.size 5 uli/\cl w' w.heap.size 6 ulo/\cl w' w.heap.size 7 2/\cl w' w.heap.size 8 cx/\cl w' w.heap.size 9 cy/\cl w' w.heap.size 10 0/\cl w' (w.heap.size+1) 2 cx/\cl w' (w.heap.size+1) 3 cy) w':=fun w' hf=>by
  have hu:=hf.heap hU (by simp;omega)
  have hc:=hf.heap hC (by simp;try omega)
  exact ⟨j9 hu,j9 hu,j9 hu,j9 hu,j9 hu,j9 hu,j9 hu,j9 hu,j9 hu,j9 hu,j9 hu,j9 hc,j9 hc⟩
 have KF:Fr [w.heap.size+1+1] W3 W3.drew:=(Fr.refl _ _).drew
 have K0:=HS _ KF
 have hrc:∀ j,W3.cell? ⟨w.heap.size+1+1,j,none⟩=#[ii 0,ii 0,ii 0,ii 0,ii 0,ii 0,ii 0,ii 0,ii 0,ii 0,ii 0][j]?:=fun j=>j9 hR
 have hrf:∀ j,W3.frozen? ⟨w.heap.size+1+1,j,none⟩=false:=fun j=>qq0 hR
 clear hU hC
 refine wp_region_held_drew (S:=fun w':World=>cl w' w.heap.size 0 uid/\cl w' w.heap.size 1 uow/\cl w' w.heap.size 2 3/\cl w' w.heap.size 3 ux/\cl w' w.heap.size 4 uy/\cl w' w.heap.size 5 uli/\cl w' w.heap.size 6 ulo/\cl w' w.heap.size 7 2/\cl w' w.heap.size 8 cx/\cl w' w.heap.size 9 cy/\cl w' w.heap.size 10 0/\cl w' (w.heap.size+1) 2 cx/\cl w' (w.heap.size+1) 3 cy) (by kernel_rfl) K0 (fun hH=>?_)
 refine (show wpAnyH Tryz.prog Region.Mode.any _ _ _ 35 (Array.replicate 35 false) _ _ from ?_)
 iterate 33 (refine tn 35 hH ?_;try simp only [Act.put,Z])
 refine wpAnyH_ready (rs:=[33]) (by kernel_rfl) (by simp) ?_
 refine AllReadyH.cons (by simp only [G];rfl) (fun K hK=>?_) AllReadyH.nil
 go_simp
 obtain ⟨W5,hW5⟩:∃ W,W=(((((((((((W3.setCell ⟨w.heap.size+1+1,0,none⟩ (.int .i64 uid)).setCell ⟨w.heap.size+1+1,1,none⟩ (.int .i64 uow)).setCell ⟨w.heap.size+1+1,2,none⟩ (.int .i64 3)).setCell ⟨w.heap.size+1+1,3,none⟩ (.int .i64 ux)).setCell ⟨w.heap.size+1+1,4,none⟩ (.int .i64 uy)).setCell ⟨w.heap.size+1+1,5,none⟩ (.int .i64 uli)).setCell ⟨w.heap.size+1+1,6,none⟩ (.int .i64 ulo)).setCell ⟨w.heap.size+1+1,7,none⟩ (.int .i64 2)).setCell ⟨w.heap.size+1+1,8,none⟩ (.int .i64 cx)).setCell ⟨w.heap.size+1+1,9,none⟩ (.int .i64 cy)).setCell ⟨w.heap.size+1+1,10,none⟩ (.int .i64 0)).drew:=⟨_,rfl⟩
 have hfr:Fr [w.heap.size+1+1] W3 W5:=by rw [hW5];refine Fr.drew ?_;(iterate 11 refine Fr.setCell ?_ _ _ (Or.inl (by simp)));exact Fr.refl _ _
 have h11:W5.heap[w.heap.size+1+1]?=some (.cells (⟨uid,uow,3,ux,uy,uli,ulo,2,cx,cy,0⟩:U).arr 85):=by rw [hW5,qx4];exact set11 (z:=zeroU) (v:=⟨uid,uow,3,ux,uy,uli,ulo,2,cx,cy,0⟩) hR
 rw [<- hW5]
 clear hW5
 have hS2:=HS _ hfr
 refine hK.out _ _ hS2 (fun hH2=>?_)
 clear hK K;try simp only [Act.put,Z]
 refine ta 34 hH2 ?_;try simp only [Act.put,Z]
 refine wpAnyH_done (by kernel_rfl) ?_ _
 go_wp2_with fail
 exact bodyPost_ret (v:=.tuple #[(⟨uid,uow,3,ux,uy,uli,ulo,2,cx,cy,0⟩:U).val,.bool false]) (qq3 Tryz.results178 _ _ (w.heap.size+1+1) 85 _ (0,0) _ _ rfl rfl h11 Tryz.underlying85 rfl qq5) rfl ⟨rfl,hf3.trans hfr (by simp;omega)⟩
theorem qzq5 (gb:Nat)(cu cx cy ct uid uow ux uy uli ulo uwh utx uty uta:Int)(w:World)(hon:onB cx cy=false) :
  Calls Tryz.prog 178 #[.pointer (some ⟨gb,0,none⟩),(⟨uid,uow,2,ux,uy,uli,ulo,uwh,utx,uty,uta⟩:U).val,(⟨cu,2,cx,cy,ct⟩:Cm).val] w fun e w'=>e=.returned (.tuple #[(⟨uid,uow,2,ux,uy,uli,ulo,2,cx,cy,0⟩:U).val,.bool false])/\Fr [] w w':=by
 go_enter Tryz.func178,Tryz.ntmps178
 go_wp2_with (first|(go_at_call 185;refine (qx1 _ _ _).mono ?_;rintro e w1 ⟨rfl,rfl⟩))
 obtain ⟨W3,hW3⟩:∃ W,W=((w.alloc (.cells #[ii uid,ii uow,ii 2,ii ux,ii uy,ii uli,ii ulo,ii 2,ii cx,ii cy,ii 0] 85)).alloc (.cells #[ii cu,ii 2,ii cx,ii cy,ii ct] 81)).alloc (.cells #[ii 0,ii 0,ii 0,ii 0,ii 0,ii 0,ii 0,ii 0,ii 0,ii 0,ii 0] 85):=⟨_,rfl⟩
 rw [<- hW3]
 have hf3:Fr [] w W3:=by rw [hW3];exact (((Fr.refl _ _).alloc _).alloc _).alloc _
 have hU:W3.heap[w.heap.size]?=some (.cells #[ii uid,ii uow,ii 2,ii ux,ii uy,ii uli,ii ulo,ii 2,ii cx,ii cy,ii 0] 85):=by rw [hW3,qz7 _ _ _ (by simp;omega),qz8]
 have hC:W3.heap[w.heap.size+1]?=some (.cells #[ii cu,ii 2,ii cx,ii cy,ii ct] 81):=by rw [hW3,qz7 _ _ _ (by simp),qz4]
 have hR:W3.heap[w.heap.size+1+1]?=some (.cells #[ii 0,ii 0,ii 0,ii 0,ii 0,ii 0,ii 0,ii 0,ii 0,ii 0,ii 0] 85):=by rw [hW3,qk1]
 clear hW3
 have HS:∀ w',Fr [w.heap.size+1+1] W3 w'->(fun w':World=>cl w' w.heap.size 0 uid/\cl w' w.heap.size 1 uow/\cl w' w.heap.size 2 2/\cl w' w.heap.size 3 ux/\cl w' w.heap.size 4 uy/\cl w' w.heap.size 5 uli/\cl w' w.heap.size 6 ulo/\cl w' w.heap.size 7 2/\cl w' w.heap.size 8 cx/\cl w' w.heap.size 9 cy/\cl w' w.heap.size 10 0/\cl w' (w.heap.size+1) 2 cx/\cl w' (w.heap.size+1) 3 cy) w':=fun w' hf=>by
  have hu:=hf.heap hU (by simp;omega)
  have hc:=hf.heap hC (by simp;try omega)
  exact ⟨j9 hu,j9 hu,j9 hu,j9 hu,j9 hu,j9 hu,j9 hu,j9 hu,j9 hu,j9 hu,j9 hu,j9 hc,j9 hc⟩
 have KF:Fr [w.heap.size+1+1] W3 W3.drew:=(Fr.refl _ _).drew
 have K0:=HS _ KF
 have hrc:∀ j,W3.cell? ⟨w.heap.size+1+1,j,none⟩=#[ii 0,ii 0,ii 0,ii 0,ii 0,ii 0,ii 0,ii 0,ii 0,ii 0,ii 0][j]?:=fun j=>j9 hR
 have hrf:∀ j,W3.frozen? ⟨w.heap.size+1+1,j,none⟩=false:=fun j=>qq0 hR
 clear hU hC
 refine wp_region_held_drew (S:=fun w':World=>cl w' w.heap.size 0 uid/\cl w' w.heap.size 1 uow/\cl w' w.heap.size 2 2/\cl w' w.heap.size 3 ux/\cl w' w.heap.size 4 uy/\cl w' w.heap.size 5 uli/\cl w' w.heap.size 6 ulo/\cl w' w.heap.size 7 2/\cl w' w.heap.size 8 cx/\cl w' w.heap.size 9 cy/\cl w' w.heap.size 10 0/\cl w' (w.heap.size+1) 2 cx/\cl w' (w.heap.size+1) 3 cy) (by kernel_rfl) K0 (fun hH=>?_)
 refine (show wpAnyH Tryz.prog Region.Mode.any _ _ _ 35 (Array.replicate 35 false) _ _ from ?_)
 iterate 33 (refine tn 35 hH ?_;try simp only [Act.put,Z])
 refine wpAnyH_ready (rs:=[33]) (by kernel_rfl) (by simp) ?_
 refine AllReadyH.cons (by simp only [G];rfl) (fun K hK=>?_) AllReadyH.nil
 go_simp
 obtain ⟨W5,hW5⟩:∃ W,W=(((((((((((W3.setCell ⟨w.heap.size+1+1,0,none⟩ (.int .i64 uid)).setCell ⟨w.heap.size+1+1,1,none⟩ (.int .i64 uow)).setCell ⟨w.heap.size+1+1,2,none⟩ (.int .i64 2)).setCell ⟨w.heap.size+1+1,3,none⟩ (.int .i64 ux)).setCell ⟨w.heap.size+1+1,4,none⟩ (.int .i64 uy)).setCell ⟨w.heap.size+1+1,5,none⟩ (.int .i64 uli)).setCell ⟨w.heap.size+1+1,6,none⟩ (.int .i64 ulo)).setCell ⟨w.heap.size+1+1,7,none⟩ (.int .i64 2)).setCell ⟨w.heap.size+1+1,8,none⟩ (.int .i64 cx)).setCell ⟨w.heap.size+1+1,9,none⟩ (.int .i64 cy)).setCell ⟨w.heap.size+1+1,10,none⟩ (.int .i64 0)).drew:=⟨_,rfl⟩
 have hfr:Fr [w.heap.size+1+1] W3 W5:=by rw [hW5];refine Fr.drew ?_;(iterate 11 refine Fr.setCell ?_ _ _ (Or.inl (by simp)));exact Fr.refl _ _
 have h11:W5.heap[w.heap.size+1+1]?=some (.cells (⟨uid,uow,2,ux,uy,uli,ulo,2,cx,cy,0⟩:U).arr 85):=by rw [hW5,qx4];exact set11 (z:=zeroU) (v:=⟨uid,uow,2,ux,uy,uli,ulo,2,cx,cy,0⟩) hR
 rw [<- hW5]
 clear hW5
 have hS2:=HS _ hfr
 refine hK.out _ _ hS2 (fun hH2=>?_)
 clear hK K;try simp only [Act.put,Z]
 refine ta 34 hH2 ?_;try simp only [Act.put,Z]
 refine wpAnyH_done (by kernel_rfl) ?_ _
 go_wp2_with fail
 exact bodyPost_ret (v:=.tuple #[(⟨uid,uow,2,ux,uy,uli,ulo,2,cx,cy,0⟩:U).val,.bool false]) (qq3 Tryz.results178 _ _ (w.heap.size+1+1) 85 _ (0,0) _ _ rfl rfl h11 Tryz.underlying85 rfl qq5) rfl ⟨rfl,hf3.trans hfr (by simp;omega)⟩
theorem qzq7 (gb pb cap:Nat)(t:T)(cu cx cy ct uid uow ux uy uli ulo uwh utx uty uta:Int)(w:World)(h:RG w gb pb cap t)(hon:onB cx cy=true)(v:Int)(hv:t.bd (ci cx cy)=v)(hv0:decide (0 < v)=false) :
  Calls Tryz.prog 178 #[.pointer (some ⟨gb,0,none⟩),(⟨uid,uow,2,ux,uy,uli,ulo,uwh,utx,uty,uta⟩:U).val,(⟨cu,2,cx,cy,ct⟩:Cm).val] w fun e w'=>e=.returned (.tuple #[(⟨uid,uow,2,ux,uy,uli,ulo,2,cx,cy,0⟩:U).val,.bool false])/\Fr [] w w':=by
 go_enter Tryz.func178,Tryz.ntmps178
 go_wp2_with (first|(go_at_call 185;refine (qx1 _ _ _).mono ?_;rintro e w1 ⟨rfl,rfl⟩))
 obtain ⟨W3,hW3⟩:∃ W,W=((w.alloc (.cells #[ii uid,ii uow,ii 2,ii ux,ii uy,ii uli,ii ulo,ii 2,ii cx,ii cy,ii 0] 85)).alloc (.cells #[ii cu,ii 2,ii cx,ii cy,ii ct] 81)).alloc (.cells #[ii 0,ii 0,ii 0,ii 0,ii 0,ii 0,ii 0,ii 0,ii 0,ii 0,ii 0] 85):=⟨_,rfl⟩
 rw [<- hW3]
 have hf3:Fr [] w W3:=by rw [hW3];exact (((Fr.refl _ _).alloc _).alloc _).alloc _
 have hU:W3.heap[w.heap.size]?=some (.cells #[ii uid,ii uow,ii 2,ii ux,ii uy,ii uli,ii ulo,ii 2,ii cx,ii cy,ii 0] 85):=by rw [hW3,qz7 _ _ _ (by simp;omega),qz8]
 have hC:W3.heap[w.heap.size+1]?=some (.cells #[ii cu,ii 2,ii cx,ii cy,ii ct] 81):=by rw [hW3,qz7 _ _ _ (by simp),qz4]
 have hR:W3.heap[w.heap.size+1+1]?=some (.cells #[ii 0,ii 0,ii 0,ii 0,ii 0,ii 0,ii 0,ii 0,ii 0,ii 0,ii 0] 85):=by rw [hW3,qk1]
 clear hW3
 obtain ⟨p0,p1,p2,p3⟩:=qz3.1 hon
 have hbd:∀ w',Fr [w.heap.size+1+1] W3 w'->w'.cell? ⟨gb,1+cy.toNat*12+cx.toNat,none⟩=some (ii v):=fun w' hf=>by
  have hg:=(h.fr0 hf3).fr hf (by have:=h.lt;simp;omega) (by have:=h.pl;simp;omega)
  have:=hg.bd (zz0 hon)
  rwa [show 1+ci cx cy=1+cy.toNat*12+cx.toNat by unfold ci;omega,hv] at this
 have HS:∀ w',Fr [w.heap.size+1+1] W3 w'->(fun w':World=>cl w' w.heap.size 0 uid/\cl w' w.heap.size 1 uow/\cl w' w.heap.size 2 2/\cl w' w.heap.size 3 ux/\cl w' w.heap.size 4 uy/\cl w' w.heap.size 5 uli/\cl w' w.heap.size 6 ulo/\cl w' w.heap.size 7 2/\cl w' w.heap.size 8 cx/\cl w' w.heap.size 9 cy/\cl w' w.heap.size 10 0/\cl w' (w.heap.size+1) 2 cx/\cl w' (w.heap.size+1) 3 cy/\w'.cell? ⟨gb,1+cy.toNat*12+cx.toNat,none⟩=some (ii v)) w':=fun w' hf=>by
  have hu:=hf.heap hU (by simp;omega)
  have hc:=hf.heap hC (by simp;try omega)
  exact ⟨j9 hu,j9 hu,j9 hu,j9 hu,j9 hu,j9 hu,j9 hu,j9 hu,j9 hu,j9 hu,j9 hu,j9 hc,j9 hc,hbd w' hf⟩
 have KF:Fr [w.heap.size+1+1] W3 W3.drew:=(Fr.refl _ _).drew
 have K0:=HS _ KF
 have hrc:∀ j,W3.cell? ⟨w.heap.size+1+1,j,none⟩=#[ii 0,ii 0,ii 0,ii 0,ii 0,ii 0,ii 0,ii 0,ii 0,ii 0,ii 0][j]?:=fun j=>j9 hR
 have hrf:∀ j,W3.frozen? ⟨w.heap.size+1+1,j,none⟩=false:=fun j=>qq0 hR
 clear hU hC
 refine wp_region_held_drew (S:=fun w':World=>cl w' w.heap.size 0 uid/\cl w' w.heap.size 1 uow/\cl w' w.heap.size 2 2/\cl w' w.heap.size 3 ux/\cl w' w.heap.size 4 uy/\cl w' w.heap.size 5 uli/\cl w' w.heap.size 6 ulo/\cl w' w.heap.size 7 2/\cl w' w.heap.size 8 cx/\cl w' w.heap.size 9 cy/\cl w' w.heap.size 10 0/\cl w' (w.heap.size+1) 2 cx/\cl w' (w.heap.size+1) 3 cy/\w'.cell? ⟨gb,1+cy.toNat*12+cx.toNat,none⟩=some (ii v)) (by kernel_rfl) K0 (fun hH=>?_)
 refine (show wpAnyH Tryz.prog Region.Mode.any _ _ _ 35 (Array.replicate 35 false) _ _ from ?_)
 iterate 33 (refine tn 35 hH ?_;try simp only [Act.put,Z])
 refine wpAnyH_ready (rs:=[33]) (by kernel_rfl) (by simp) ?_
 refine AllReadyH.cons (by simp only [G];rfl) (fun K hK=>?_) AllReadyH.nil
 go_simp
 obtain ⟨W5,hW5⟩:∃ W,W=(((((((((((W3.setCell ⟨w.heap.size+1+1,0,none⟩ (.int .i64 uid)).setCell ⟨w.heap.size+1+1,1,none⟩ (.int .i64 uow)).setCell ⟨w.heap.size+1+1,2,none⟩ (.int .i64 2)).setCell ⟨w.heap.size+1+1,3,none⟩ (.int .i64 ux)).setCell ⟨w.heap.size+1+1,4,none⟩ (.int .i64 uy)).setCell ⟨w.heap.size+1+1,5,none⟩ (.int .i64 uli)).setCell ⟨w.heap.size+1+1,6,none⟩ (.int .i64 ulo)).setCell ⟨w.heap.size+1+1,7,none⟩ (.int .i64 2)).setCell ⟨w.heap.size+1+1,8,none⟩ (.int .i64 cx)).setCell ⟨w.heap.size+1+1,9,none⟩ (.int .i64 cy)).setCell ⟨w.heap.size+1+1,10,none⟩ (.int .i64 0)).drew:=⟨_,rfl⟩
 have hfr:Fr [w.heap.size+1+1] W3 W5:=by rw [hW5];refine Fr.drew ?_;(iterate 11 refine Fr.setCell ?_ _ _ (Or.inl (by simp)));exact Fr.refl _ _
 have h11:W5.heap[w.heap.size+1+1]?=some (.cells (⟨uid,uow,2,ux,uy,uli,ulo,2,cx,cy,0⟩:U).arr 85):=by rw [hW5,qx4];exact set11 (z:=zeroU) (v:=⟨uid,uow,2,ux,uy,uli,ulo,2,cx,cy,0⟩) hR
 rw [<- hW5]
 clear hW5
 have hS2:=HS _ hfr
 refine hK.out _ _ hS2 (fun hH2=>?_)
 clear hK K;try simp only [Act.put,Z]
 refine ta 34 hH2 ?_;try simp only [Act.put,Z]
 refine wpAnyH_done (by kernel_rfl) ?_ _
 go_wp2_with fail
 exact bodyPost_ret (v:=.tuple #[(⟨uid,uow,2,ux,uy,uli,ulo,2,cx,cy,0⟩:U).val,.bool false]) (qq3 Tryz.results178 _ _ (w.heap.size+1+1) 85 _ (0,0) _ _ rfl rfl h11 Tryz.underlying85 rfl qq5) rfl ⟨rfl,hf3.trans hfr (by simp;omega)⟩
theorem qzq6 (gb pb cap:Nat)(t:T)(cu cx cy ct uid uow ux uy uli ulo uwh utx uty uta:Int)(w:World)(h:RG w gb pb cap t)(hon:onB cx cy=true)(v:Int)(hv:t.bd (ci cx cy)=v)(hv0:0 < v) :
  Calls Tryz.prog 178 #[.pointer (some ⟨gb,0,none⟩),(⟨uid,uow,2,ux,uy,uli,ulo,uwh,utx,uty,uta⟩:U).val,(⟨cu,2,cx,cy,ct⟩:Cm).val] w fun e w'=>e=.returned (.tuple #[(⟨uid,uow,2,ux,uy,uli,ulo,2,cx,cy,0⟩:U).val,.bool (decide (v < 10))])/\Fr [] w w':=by
 go_enter Tryz.func178,Tryz.ntmps178
 go_wp2_with (first|(go_at_call 185;refine (qx1 _ _ _).mono ?_;rintro e w1 ⟨rfl,rfl⟩))
 obtain ⟨W3,hW3⟩:∃ W,W=((w.alloc (.cells #[ii uid,ii uow,ii 2,ii ux,ii uy,ii uli,ii ulo,ii 2,ii cx,ii cy,ii 0] 85)).alloc (.cells #[ii cu,ii 2,ii cx,ii cy,ii ct] 81)).alloc (.cells #[ii 0,ii 0,ii 0,ii 0,ii 0,ii 0,ii 0,ii 0,ii 0,ii 0,ii 0] 85):=⟨_,rfl⟩
 rw [<- hW3]
 have hf3:Fr [] w W3:=by rw [hW3];exact (((Fr.refl _ _).alloc _).alloc _).alloc _
 have hU:W3.heap[w.heap.size]?=some (.cells #[ii uid,ii uow,ii 2,ii ux,ii uy,ii uli,ii ulo,ii 2,ii cx,ii cy,ii 0] 85):=by rw [hW3,qz7 _ _ _ (by simp;omega),qz8]
 have hC:W3.heap[w.heap.size+1]?=some (.cells #[ii cu,ii 2,ii cx,ii cy,ii ct] 81):=by rw [hW3,qz7 _ _ _ (by simp),qz4]
 have hR:W3.heap[w.heap.size+1+1]?=some (.cells #[ii 0,ii 0,ii 0,ii 0,ii 0,ii 0,ii 0,ii 0,ii 0,ii 0,ii 0] 85):=by rw [hW3,qk1]
 clear hW3
 obtain ⟨p0,p1,p2,p3⟩:=qz3.1 hon
 have hbd:∀ w',Fr [w.heap.size+1+1] W3 w'->w'.cell? ⟨gb,1+cy.toNat*12+cx.toNat,none⟩=some (ii v):=fun w' hf=>by
  have hg:=(h.fr0 hf3).fr hf (by have:=h.lt;simp;omega) (by have:=h.pl;simp;omega)
  have:=hg.bd (zz0 hon)
  rwa [show 1+ci cx cy=1+cy.toNat*12+cx.toNat by unfold ci;omega,hv] at this
 have HS:∀ w',Fr [w.heap.size+1+1] W3 w'->(fun w':World=>cl w' w.heap.size 0 uid/\cl w' w.heap.size 1 uow/\cl w' w.heap.size 2 2/\cl w' w.heap.size 3 ux/\cl w' w.heap.size 4 uy/\cl w' w.heap.size 5 uli/\cl w' w.heap.size 6 ulo/\cl w' w.heap.size 7 2/\cl w' w.heap.size 8 cx/\cl w' w.heap.size 9 cy/\cl w' w.heap.size 10 0/\cl w' (w.heap.size+1) 2 cx/\cl w' (w.heap.size+1) 3 cy/\w'.cell? ⟨gb,1+cy.toNat*12+cx.toNat,none⟩=some (ii v)) w':=fun w' hf=>by
  have hu:=hf.heap hU (by simp;omega)
  have hc:=hf.heap hC (by simp;try omega)
  exact ⟨j9 hu,j9 hu,j9 hu,j9 hu,j9 hu,j9 hu,j9 hu,j9 hu,j9 hu,j9 hu,j9 hu,j9 hc,j9 hc,hbd w' hf⟩
 have KF:Fr [w.heap.size+1+1] W3 W3.drew:=(Fr.refl _ _).drew
 have K0:=HS _ KF
 have hrc:∀ j,W3.cell? ⟨w.heap.size+1+1,j,none⟩=#[ii 0,ii 0,ii 0,ii 0,ii 0,ii 0,ii 0,ii 0,ii 0,ii 0,ii 0][j]?:=fun j=>j9 hR
 have hrf:∀ j,W3.frozen? ⟨w.heap.size+1+1,j,none⟩=false:=fun j=>qq0 hR
 clear hU hC
 refine wp_region_held_drew (S:=fun w':World=>cl w' w.heap.size 0 uid/\cl w' w.heap.size 1 uow/\cl w' w.heap.size 2 2/\cl w' w.heap.size 3 ux/\cl w' w.heap.size 4 uy/\cl w' w.heap.size 5 uli/\cl w' w.heap.size 6 ulo/\cl w' w.heap.size 7 2/\cl w' w.heap.size 8 cx/\cl w' w.heap.size 9 cy/\cl w' w.heap.size 10 0/\cl w' (w.heap.size+1) 2 cx/\cl w' (w.heap.size+1) 3 cy/\w'.cell? ⟨gb,1+cy.toNat*12+cx.toNat,none⟩=some (ii v)) (by kernel_rfl) K0 (fun hH=>?_)
 refine (show wpAnyH Tryz.prog Region.Mode.any _ _ _ 35 (Array.replicate 35 false) _ _ from ?_)
 iterate 33 (refine tn 35 hH ?_;try simp only [Act.put,Z])
 refine wpAnyH_ready (rs:=[33]) (by kernel_rfl) (by simp) ?_
 refine AllReadyH.cons (by simp only [G];rfl) (fun K hK=>?_) AllReadyH.nil
 go_simp
 obtain ⟨W5,hW5⟩:∃ W,W=(((((((((((W3.setCell ⟨w.heap.size+1+1,0,none⟩ (.int .i64 uid)).setCell ⟨w.heap.size+1+1,1,none⟩ (.int .i64 uow)).setCell ⟨w.heap.size+1+1,2,none⟩ (.int .i64 2)).setCell ⟨w.heap.size+1+1,3,none⟩ (.int .i64 ux)).setCell ⟨w.heap.size+1+1,4,none⟩ (.int .i64 uy)).setCell ⟨w.heap.size+1+1,5,none⟩ (.int .i64 uli)).setCell ⟨w.heap.size+1+1,6,none⟩ (.int .i64 ulo)).setCell ⟨w.heap.size+1+1,7,none⟩ (.int .i64 2)).setCell ⟨w.heap.size+1+1,8,none⟩ (.int .i64 cx)).setCell ⟨w.heap.size+1+1,9,none⟩ (.int .i64 cy)).setCell ⟨w.heap.size+1+1,10,none⟩ (.int .i64 0)).drew:=⟨_,rfl⟩
 have hfr:Fr [w.heap.size+1+1] W3 W5:=by rw [hW5];refine Fr.drew ?_;(iterate 11 refine Fr.setCell ?_ _ _ (Or.inl (by simp)));exact Fr.refl _ _
 have h11:W5.heap[w.heap.size+1+1]?=some (.cells (⟨uid,uow,2,ux,uy,uli,ulo,2,cx,cy,0⟩:U).arr 85):=by rw [hW5,qx4];exact set11 (z:=zeroU) (v:=⟨uid,uow,2,ux,uy,uli,ulo,2,cx,cy,0⟩) hR
 rw [<- hW5]
 clear hW5
 have hS2:=HS _ hfr
 refine hK.out _ _ hS2 (fun hH2=>?_)
 clear hK K;try simp only [Act.put,Z]
 refine ta 34 hH2 ?_;try simp only [Act.put,Z]
 refine wpAnyH_done (by kernel_rfl) ?_ _
 go_wp2_with fail
 exact bodyPost_ret (v:=.tuple #[(⟨uid,uow,2,ux,uy,uli,ulo,2,cx,cy,0⟩:U).val,.bool (decide (v < 10))]) (qq3 Tryz.results178 _ _ (w.heap.size+1+1) 85 _ (0,0) _ _ rfl rfl h11 Tryz.underlying85 rfl qq5) rfl ⟨rfl,hf3.trans hfr (by simp;omega)⟩
end Go.Proofs.YtapabahhfanmmaaGreatDoor
