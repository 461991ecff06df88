import Derived.Test.YtapabahhfanmmaaGreatDoorCRefH
namespace Go.Proofs.YtapabahhfanmmaaGreatDoor
open Go.RowKit
set_option maxRecDepth 100000
set_option maxHeartbeats 2000000
set_option maxRecDepth 100000
theorem qjx3 (gb pb cap:Nat)(t:T)(cu cx cy ct uid uow ux uy uli ulo uwh utx uty uta:Int)(w:World)(h:RG w gb pb cap t)(q:Int)(HFI:Hid (∀ W:World,GV W gb pb cap t.us->Calls Tryz.prog 177 #[.pointer (some ⟨gb,0,none⟩),.int .i64 ct] W fun e w'=>e=.returned (.int .i64 q)/\W=w')) :
  Calls Tryz.prog 178 #[.pointer (some ⟨gb,0,none⟩),(⟨uid,uow,1,ux,uy,uli,ulo,uwh,utx,uty,uta⟩:U).val,(⟨cu,3,cx,cy,ct⟩:Cm).val] w fun e w'=>e=.returned (.tuple #[(⟨uid,uow,1,ux,uy,uli,ulo,3,0,0,ct⟩:U).val,.bool false])/\Fr [] w w':=by
 go_enter Tryz.func178,Tryz.ntmps178
 go_wp2_with (first|(go_at_call 185;refine (qx1 _ _ _).mono ?_;rintro e w1 ⟨rfl,rfl⟩)|(go_at_call 177;refine ((HFI.out _ (RG.gv (h.fr0 ((((Fr.refl _ _).alloc _).alloc _).alloc _)))).mono ?_);rintro e w2 ⟨rfl,rfl⟩))
 obtain ⟨W3,hW3⟩:∃ W,W=((w.alloc (.cells #[ii uid,ii uow,ii 1,ii ux,ii uy,ii uli,ii ulo,ii 3,ii 0,ii 0,ii ct] 85)).alloc (.cells #[ii cu,ii 3,ii cx,ii cy,ii ct] 81)).alloc (.cells #[ii 0,ii 0,ii 0,ii 0,ii 0,ii 0,ii 0,ii 0,ii 0,ii 0,ii 0] 85):=⟨_,rfl⟩
 rw [<- hW3]
 have hf3:Fr [] w W3:=by rw [hW3];exact (((Fr.refl _ _).alloc _).alloc _).alloc _
 have hU:W3.heap[w.heap.size]?=some (.cells #[ii uid,ii uow,ii 1,ii ux,ii uy,ii uli,ii ulo,ii 3,ii 0,ii 0,ii ct] 85):=by rw [hW3,qz7 _ _ _ (by simp;omega),qz8]
 have hC:W3.heap[w.heap.size+1]?=some (.cells #[ii cu,ii 3,ii cx,ii cy,ii ct] 81):=by rw [hW3,qz7 _ _ _ (by simp),qz4]
 have hR:W3.heap[w.heap.size+1+1]?=some (.cells #[ii 0,ii 0,ii 0,ii 0,ii 0,ii 0,ii 0,ii 0,ii 0,ii 0,ii 0] 85):=by rw [hW3,qk1]
 clear hW3
 have hf9:=hf3
 have HS:∀ w',Fr [w.heap.size+1+1] W3 w'->(fun w':World=>cl w' w.heap.size 0 uid/\cl w' w.heap.size 1 uow/\cl w' w.heap.size 2 1/\cl w' w.heap.size 3 ux/\cl w' w.heap.size 4 uy/\cl w' w.heap.size 5 uli/\cl w' w.heap.size 6 ulo/\cl w' w.heap.size 7 3/\cl w' w.heap.size 8 0/\cl w' w.heap.size 9 0/\cl w' w.heap.size 10 ct/\cl w' (w.heap.size+1) 2 cx/\cl w' (w.heap.size+1) 3 cy) w':=fun w' hf=>by
  have hu:=hf.heap hU (by simp;omega)
  have hc:=hf.heap hC (by simp;try omega)
  exact ⟨j9 hu,j9 hu,j9 hu,j9 hu,j9 hu,j9 hu,j9 hu,j9 hu,j9 hu,j9 hu,j9 hu,j9 hc,j9 hc⟩
 have KF:Fr [w.heap.size+1+1] W3 W3.drew:=(Fr.refl _ _).drew
 have K0:=HS _ KF
 have hrc:∀ j,W3.cell? ⟨w.heap.size+1+1,j,none⟩=#[ii 0,ii 0,ii 0,ii 0,ii 0,ii 0,ii 0,ii 0,ii 0,ii 0,ii 0][j]?:=fun j=>j9 hR
 have hrf:∀ j,W3.frozen? ⟨w.heap.size+1+1,j,none⟩=false:=fun j=>qq0 hR
 clear hU hC
 refine wp_region_held_drew (S:=fun w':World=>cl w' w.heap.size 0 uid/\cl w' w.heap.size 1 uow/\cl w' w.heap.size 2 1/\cl w' w.heap.size 3 ux/\cl w' w.heap.size 4 uy/\cl w' w.heap.size 5 uli/\cl w' w.heap.size 6 ulo/\cl w' w.heap.size 7 3/\cl w' w.heap.size 8 0/\cl w' w.heap.size 9 0/\cl w' w.heap.size 10 ct/\cl w' (w.heap.size+1) 2 cx/\cl w' (w.heap.size+1) 3 cy) (by kernel_rfl) K0 (fun hH=>?_)
 refine (show wpAnyH Tryz.prog Region.Mode.any _ _ _ 23 (Array.replicate 23 false) _ _ from ?_)
 iterate 21 (refine tn 23 hH ?_;try simp only [Act.put,Z])
 refine wpAnyH_ready (rs:=[21]) (by kernel_rfl) (by simp) ?_
 refine AllReadyH.cons (by simp only [G];rfl) (fun K hK=>?_) AllReadyH.nil
 go_simp
 obtain ⟨W5,hW5⟩:∃ W,W=(((((((((((W3.setCell ⟨w.heap.size+1+1,0,none⟩ (.int .i64 uid)).setCell ⟨w.heap.size+1+1,1,none⟩ (.int .i64 uow)).setCell ⟨w.heap.size+1+1,2,none⟩ (.int .i64 1)).setCell ⟨w.heap.size+1+1,3,none⟩ (.int .i64 ux)).setCell ⟨w.heap.size+1+1,4,none⟩ (.int .i64 uy)).setCell ⟨w.heap.size+1+1,5,none⟩ (.int .i64 uli)).setCell ⟨w.heap.size+1+1,6,none⟩ (.int .i64 ulo)).setCell ⟨w.heap.size+1+1,7,none⟩ (.int .i64 3)).setCell ⟨w.heap.size+1+1,8,none⟩ (.int .i64 0)).setCell ⟨w.heap.size+1+1,9,none⟩ (.int .i64 0)).setCell ⟨w.heap.size+1+1,10,none⟩ (.int .i64 ct)).drew:=⟨_,rfl⟩
 have hfr:Fr [w.heap.size+1+1] W3 W5:=by rw [hW5];refine Fr.drew ?_;(iterate 11 refine Fr.setCell ?_ _ _ (Or.inl (by simp)));exact Fr.refl _ _
 have h11:W5.heap[w.heap.size+1+1]?=some (.cells (⟨uid,uow,1,ux,uy,uli,ulo,3,0,0,ct⟩:U).arr 85):=by rw [hW5,qx4];exact set11 (z:=zeroU) (v:=⟨uid,uow,1,ux,uy,uli,ulo,3,0,0,ct⟩) hR
 rw [<- hW5]
 clear hW5
 have hS2:=HS _ hfr
 refine hK.out _ _ hS2 (fun hH2=>?_)
 clear hK K;try simp only [Act.put,Z]
 refine ta 22 hH2 ?_;try simp only [Act.put,Z]
 refine wpAnyH_done (by kernel_rfl) ?_ _
 go_wp2_with fail
 exact bodyPost_ret (v:=.tuple #[(⟨uid,uow,1,ux,uy,uli,ulo,3,0,0,ct⟩:U).val,.bool false]) (qq3 Tryz.results178 _ _ (w.heap.size+1+1) 85 _ (0,0) _ _ rfl rfl h11 Tryz.underlying85 rfl qq5) rfl ⟨rfl,hf3.trans hfr (by simp;omega)⟩
theorem qjx4 (gb pb cap:Nat)(t:T)(cu cx cy ct uid uow ux uy uli ulo uwh utx uty uta:Int)(w:World)(h:RG w gb pb cap t)(q:Int)(HFI:Hid (∀ W:World,GV W gb pb cap t.us->Calls Tryz.prog 177 #[.pointer (some ⟨gb,0,none⟩),.int .i64 ct] W fun e w'=>e=.returned (.int .i64 q)/\W=w')) :
  Calls Tryz.prog 178 #[.pointer (some ⟨gb,0,none⟩),(⟨uid,uow,2,ux,uy,uli,ulo,uwh,utx,uty,uta⟩:U).val,(⟨cu,3,cx,cy,ct⟩:Cm).val] w fun e w'=>e=.returned (.tuple #[(⟨uid,uow,2,ux,uy,uli,ulo,3,0,0,ct⟩:U).val,.bool false])/\Fr [] w w':=by
 go_enter Tryz.func178,Tryz.ntmps178
 go_wp2_with (first|(go_at_call 185;refine (qx1 _ _ _).mono ?_;rintro e w1 ⟨rfl,rfl⟩)|(go_at_call 177;refine ((HFI.out _ (RG.gv (h.fr0 ((((Fr.refl _ _).alloc _).alloc _).alloc _)))).mono ?_);rintro e w2 ⟨rfl,rfl⟩))
 obtain ⟨W3,hW3⟩:∃ W,W=((w.alloc (.cells #[ii uid,ii uow,ii 2,ii ux,ii uy,ii uli,ii ulo,ii 3,ii 0,ii 0,ii ct] 85)).alloc (.cells #[ii cu,ii 3,ii cx,ii cy,ii ct] 81)).alloc (.cells #[ii 0,ii 0,ii 0,ii 0,ii 0,ii 0,ii 0,ii 0,ii 0,ii 0,ii 0] 85):=⟨_,rfl⟩
 rw [<- hW3]
 have hf3:Fr [] w W3:=by rw [hW3];exact (((Fr.refl _ _).alloc _).alloc _).alloc _
 have hU:W3.heap[w.heap.size]?=some (.cells #[ii uid,ii uow,ii 2,ii ux,ii uy,ii uli,ii ulo,ii 3,ii 0,ii 0,ii ct] 85):=by rw [hW3,qz7 _ _ _ (by simp;omega),qz8]
 have hC:W3.heap[w.heap.size+1]?=some (.cells #[ii cu,ii 3,ii cx,ii cy,ii ct] 81):=by rw [hW3,qz7 _ _ _ (by simp),qz4]
 have hR:W3.heap[w.heap.size+1+1]?=some (.cells #[ii 0,ii 0,ii 0,ii 0,ii 0,ii 0,ii 0,ii 0,ii 0,ii 0,ii 0] 85):=by rw [hW3,qk1]
 clear hW3
 have hf9:=hf3
 have HS:∀ w',Fr [w.heap.size+1+1] W3 w'->(fun w':World=>cl w' w.heap.size 0 uid/\cl w' w.heap.size 1 uow/\cl w' w.heap.size 2 2/\cl w' w.heap.size 3 ux/\cl w' w.heap.size 4 uy/\cl w' w.heap.size 5 uli/\cl w' w.heap.size 6 ulo/\cl w' w.heap.size 7 3/\cl w' w.heap.size 8 0/\cl w' w.heap.size 9 0/\cl w' w.heap.size 10 ct/\cl w' (w.heap.size+1) 2 cx/\cl w' (w.heap.size+1) 3 cy) w':=fun w' hf=>by
  have hu:=hf.heap hU (by simp;omega)
  have hc:=hf.heap hC (by simp;try omega)
  exact ⟨j9 hu,j9 hu,j9 hu,j9 hu,j9 hu,j9 hu,j9 hu,j9 hu,j9 hu,j9 hu,j9 hu,j9 hc,j9 hc⟩
 have KF:Fr [w.heap.size+1+1] W3 W3.drew:=(Fr.refl _ _).drew
 have K0:=HS _ KF
 have hrc:∀ j,W3.cell? ⟨w.heap.size+1+1,j,none⟩=#[ii 0,ii 0,ii 0,ii 0,ii 0,ii 0,ii 0,ii 0,ii 0,ii 0,ii 0][j]?:=fun j=>j9 hR
 have hrf:∀ j,W3.frozen? ⟨w.heap.size+1+1,j,none⟩=false:=fun j=>qq0 hR
 clear hU hC
 refine wp_region_held_drew (S:=fun w':World=>cl w' w.heap.size 0 uid/\cl w' w.heap.size 1 uow/\cl w' w.heap.size 2 2/\cl w' w.heap.size 3 ux/\cl w' w.heap.size 4 uy/\cl w' w.heap.size 5 uli/\cl w' w.heap.size 6 ulo/\cl w' w.heap.size 7 3/\cl w' w.heap.size 8 0/\cl w' w.heap.size 9 0/\cl w' w.heap.size 10 ct/\cl w' (w.heap.size+1) 2 cx/\cl w' (w.heap.size+1) 3 cy) (by kernel_rfl) K0 (fun hH=>?_)
 refine (show wpAnyH Tryz.prog Region.Mode.any _ _ _ 23 (Array.replicate 23 false) _ _ from ?_)
 iterate 21 (refine tn 23 hH ?_;try simp only [Act.put,Z])
 refine wpAnyH_ready (rs:=[21]) (by kernel_rfl) (by simp) ?_
 refine AllReadyH.cons (by simp only [G];rfl) (fun K hK=>?_) AllReadyH.nil
 go_simp
 obtain ⟨W5,hW5⟩:∃ W,W=(((((((((((W3.setCell ⟨w.heap.size+1+1,0,none⟩ (.int .i64 uid)).setCell ⟨w.heap.size+1+1,1,none⟩ (.int .i64 uow)).setCell ⟨w.heap.size+1+1,2,none⟩ (.int .i64 2)).setCell ⟨w.heap.size+1+1,3,none⟩ (.int .i64 ux)).setCell ⟨w.heap.size+1+1,4,none⟩ (.int .i64 uy)).setCell ⟨w.heap.size+1+1,5,none⟩ (.int .i64 uli)).setCell ⟨w.heap.size+1+1,6,none⟩ (.int .i64 ulo)).setCell ⟨w.heap.size+1+1,7,none⟩ (.int .i64 3)).setCell ⟨w.heap.size+1+1,8,none⟩ (.int .i64 0)).setCell ⟨w.heap.size+1+1,9,none⟩ (.int .i64 0)).setCell ⟨w.heap.size+1+1,10,none⟩ (.int .i64 ct)).drew:=⟨_,rfl⟩
 have hfr:Fr [w.heap.size+1+1] W3 W5:=by rw [hW5];refine Fr.drew ?_;(iterate 11 refine Fr.setCell ?_ _ _ (Or.inl (by simp)));exact Fr.refl _ _
 have h11:W5.heap[w.heap.size+1+1]?=some (.cells (⟨uid,uow,2,ux,uy,uli,ulo,3,0,0,ct⟩:U).arr 85):=by rw [hW5,qx4];exact set11 (z:=zeroU) (v:=⟨uid,uow,2,ux,uy,uli,ulo,3,0,0,ct⟩) hR
 rw [<- hW5]
 clear hW5
 have hS2:=HS _ hfr
 refine hK.out _ _ hS2 (fun hH2=>?_)
 clear hK K;try simp only [Act.put,Z]
 refine ta 22 hH2 ?_;try simp only [Act.put,Z]
 refine wpAnyH_done (by kernel_rfl) ?_ _
 go_wp2_with fail
 exact bodyPost_ret (v:=.tuple #[(⟨uid,uow,2,ux,uy,uli,ulo,3,0,0,ct⟩:U).val,.bool false]) (qq3 Tryz.results178 _ _ (w.heap.size+1+1) 85 _ (0,0) _ _ rfl rfl h11 Tryz.underlying85 rfl qq5) rfl ⟨rfl,hf3.trans hfr (by simp;omega)⟩
theorem qzq8 (gb pb cap:Nat)(t:T)(cu cx cy ct uid uow ux uy uli ulo uwh utx uty uta:Int)(w:World)(h:RG w gb pb cap t)(HFI:Hid (∀ W:World,GV W gb pb cap t.us->Calls Tryz.prog 177 #[.pointer (some ⟨gb,0,none⟩),.int .i64 ct] W fun e w'=>e=.returned (.int .i64 (-1))/\W=w')) :
  Calls Tryz.prog 178 #[.pointer (some ⟨gb,0,none⟩),(⟨uid,uow,3,ux,uy,uli,ulo,uwh,utx,uty,uta⟩:U).val,(⟨cu,3,cx,cy,ct⟩:Cm).val] w fun e w'=>e=.returned (.tuple #[(⟨uid,uow,3,ux,uy,uli,ulo,3,0,0,ct⟩:U).val,.bool false])/\Fr [] w w':=by
 go_enter Tryz.func178,Tryz.ntmps178
 go_wp2_with (first|(go_at_call 185;refine (qx1 _ _ _).mono ?_;rintro e w1 ⟨rfl,rfl⟩)|(go_at_call 177;refine ((HFI.out _ (RG.gv (h.fr0 ((((Fr.refl _ _).alloc _).alloc _).alloc _)))).mono ?_);rintro e w2 ⟨rfl,rfl⟩))
 obtain ⟨W3,hW3⟩:∃ W,W=((w.alloc (.cells #[ii uid,ii uow,ii 3,ii ux,ii uy,ii uli,ii ulo,ii 3,ii 0,ii 0,ii ct] 85)).alloc (.cells #[ii cu,ii 3,ii cx,ii cy,ii ct] 81)).alloc (.cells #[ii 0,ii 0,ii 0,ii 0,ii 0,ii 0,ii 0,ii 0,ii 0,ii 0,ii 0] 85):=⟨_,rfl⟩
 rw [<- hW3]
 have hf3:Fr [] w W3:=by rw [hW3];exact (((Fr.refl _ _).alloc _).alloc _).alloc _
 have hU:W3.heap[w.heap.size]?=some (.cells #[ii uid,ii uow,ii 3,ii ux,ii uy,ii uli,ii ulo,ii 3,ii 0,ii 0,ii ct] 85):=by rw [hW3,qz7 _ _ _ (by simp;omega),qz8]
 have hC:W3.heap[w.heap.size+1]?=some (.cells #[ii cu,ii 3,ii cx,ii cy,ii ct] 81):=by rw [hW3,qz7 _ _ _ (by simp),qz4]
 have hR:W3.heap[w.heap.size+1+1]?=some (.cells #[ii 0,ii 0,ii 0,ii 0,ii 0,ii 0,ii 0,ii 0,ii 0,ii 0,ii 0] 85):=by rw [hW3,qk1]
 clear hW3
 have hf9:=hf3
 have HS:∀ w',Fr [w.heap.size+1+1] W3 w'->(fun w':World=>cl w' w.heap.size 0 uid/\cl w' w.heap.size 1 uow/\cl w' w.heap.size 2 3/\cl w' w.heap.size 3 ux/\cl w' w.heap.size 4 uy/\cl w' w.heap.size 5 uli/\cl w' w.heap.size 6 ulo/\cl w' w.heap.size 7 3/\cl w' w.heap.size 8 0/\cl w' w.heap.size 9 0/\cl w' w.heap.size 10 ct/\cl w' (w.heap.size+1) 2 cx/\cl w' (w.heap.size+1) 3 cy) w':=fun w' hf=>by
  have hu:=hf.heap hU (by simp;omega)
  have hc:=hf.heap hC (by simp;try omega)
  exact ⟨j9 hu,j9 hu,j9 hu,j9 hu,j9 hu,j9 hu,j9 hu,j9 hu,j9 hu,j9 hu,j9 hu,j9 hc,j9 hc⟩
 have KF:Fr [w.heap.size+1+1] W3 W3.drew:=(Fr.refl _ _).drew
 have K0:=HS _ KF
 have hrc:∀ j,W3.cell? ⟨w.heap.size+1+1,j,none⟩=#[ii 0,ii 0,ii 0,ii 0,ii 0,ii 0,ii 0,ii 0,ii 0,ii 0,ii 0][j]?:=fun j=>j9 hR
 have hrf:∀ j,W3.frozen? ⟨w.heap.size+1+1,j,none⟩=false:=fun j=>qq0 hR
 clear hU hC
 refine wp_region_held_drew (S:=fun w':World=>cl w' w.heap.size 0 uid/\cl w' w.heap.size 1 uow/\cl w' w.heap.size 2 3/\cl w' w.heap.size 3 ux/\cl w' w.heap.size 4 uy/\cl w' w.heap.size 5 uli/\cl w' w.heap.size 6 ulo/\cl w' w.heap.size 7 3/\cl w' w.heap.size 8 0/\cl w' w.heap.size 9 0/\cl w' w.heap.size 10 ct/\cl w' (w.heap.size+1) 2 cx/\cl w' (w.heap.size+1) 3 cy) (by kernel_rfl) K0 (fun hH=>?_)
 refine (show wpAnyH Tryz.prog Region.Mode.any _ _ _ 23 (Array.replicate 23 false) _ _ from ?_)
 iterate 21 (refine tn 23 hH ?_;try simp only [Act.put,Z])
 refine wpAnyH_ready (rs:=[21]) (by kernel_rfl) (by simp) ?_
 refine AllReadyH.cons (by simp only [G];rfl) (fun K hK=>?_) AllReadyH.nil
 go_simp
 obtain ⟨W5,hW5⟩:∃ W,W=(((((((((((W3.setCell ⟨w.heap.size+1+1,0,none⟩ (.int .i64 uid)).setCell ⟨w.heap.size+1+1,1,none⟩ (.int .i64 uow)).setCell ⟨w.heap.size+1+1,2,none⟩ (.int .i64 3)).setCell ⟨w.heap.size+1+1,3,none⟩ (.int .i64 ux)).setCell ⟨w.heap.size+1+1,4,none⟩ (.int .i64 uy)).setCell ⟨w.heap.size+1+1,5,none⟩ (.int .i64 uli)).setCell ⟨w.heap.size+1+1,6,none⟩ (.int .i64 ulo)).setCell ⟨w.heap.size+1+1,7,none⟩ (.int .i64 3)).setCell ⟨w.heap.size+1+1,8,none⟩ (.int .i64 0)).setCell ⟨w.heap.size+1+1,9,none⟩ (.int .i64 0)).setCell ⟨w.heap.size+1+1,10,none⟩ (.int .i64 ct)).drew:=⟨_,rfl⟩
 have hfr:Fr [w.heap.size+1+1] W3 W5:=by rw [hW5];refine Fr.drew ?_;(iterate 11 refine Fr.setCell ?_ _ _ (Or.inl (by simp)));exact Fr.refl _ _
 have h11:W5.heap[w.heap.size+1+1]?=some (.cells (⟨uid,uow,3,ux,uy,uli,ulo,3,0,0,ct⟩:U).arr 85):=by rw [hW5,qx4];exact set11 (z:=zeroU) (v:=⟨uid,uow,3,ux,uy,uli,ulo,3,0,0,ct⟩) hR
 rw [<- hW5]
 clear hW5
 have hS2:=HS _ hfr
 refine hK.out _ _ hS2 (fun hH2=>?_)
 clear hK K;try simp only [Act.put,Z]
 refine ta 22 hH2 ?_;try simp only [Act.put,Z]
 refine wpAnyH_done (by kernel_rfl) ?_ _
 go_wp2_with fail
 exact bodyPost_ret (v:=.tuple #[(⟨uid,uow,3,ux,uy,uli,ulo,3,0,0,ct⟩:U).val,.bool false]) (qq3 Tryz.results178 _ _ (w.heap.size+1+1) 85 _ (0,0) _ _ rfl rfl h11 Tryz.underlying85 rfl qq5) rfl ⟨rfl,hf3.trans hfr (by simp;omega)⟩
theorem qzq9 (gb pb cap:Nat)(t:T)(cu cx cy ct uid uow ux uy uli ulo uwh utx uty uta:Int)(w:World)(h:RG w gb pb cap t)(i:Nat)(v:U)(hi:t.us[i]?=some v)(HFI:Hid (∀ W:World,GV W gb pb cap t.us->Calls Tryz.prog 177 #[.pointer (some ⟨gb,0,none⟩),.int .i64 ct] W fun e w'=>e=.returned (.int .i64 i)/\W=w')) :
  Calls Tryz.prog 178 #[.pointer (some ⟨gb,0,none⟩),(⟨uid,uow,3,ux,uy,uli,ulo,uwh,utx,uty,uta⟩:U).val,(⟨cu,3,cx,cy,ct⟩:Cm).val] w fun e w'=>e=.returned (.tuple #[(⟨uid,uow,3,ux,uy,uli,ulo,3,0,0,ct⟩:U).val,.bool (v.owner != uow)])/\Fr [] w w':=by
 go_enter Tryz.func178,Tryz.ntmps178
 go_wp2_with (first|(go_at_call 185;refine (qx1 _ _ _).mono ?_;rintro e w1 ⟨rfl,rfl⟩)|(go_at_call 177;refine ((HFI.out _ (RG.gv (h.fr0 ((((Fr.refl _ _).alloc _).alloc _).alloc _)))).mono ?_);rintro e w2 ⟨rfl,rfl⟩))
 obtain ⟨W3,hW3⟩:∃ W,W=((w.alloc (.cells #[ii uid,ii uow,ii 3,ii ux,ii uy,ii uli,ii ulo,ii 3,ii 0,ii 0,ii ct] 85)).alloc (.cells #[ii cu,ii 3,ii cx,ii cy,ii ct] 81)).alloc (.cells #[ii 0,ii 0,ii 0,ii 0,ii 0,ii 0,ii 0,ii 0,ii 0,ii 0,ii 0] 85):=⟨_,rfl⟩
 rw [<- hW3]
 have hf3:Fr [] w W3:=by rw [hW3];exact (((Fr.refl _ _).alloc _).alloc _).alloc _
 have hU:W3.heap[w.heap.size]?=some (.cells #[ii uid,ii uow,ii 3,ii ux,ii uy,ii uli,ii ulo,ii 3,ii 0,ii 0,ii ct] 85):=by rw [hW3,qz7 _ _ _ (by simp;omega),qz8]
 have hC:W3.heap[w.heap.size+1]?=some (.cells #[ii cu,ii 3,ii cx,ii cy,ii ct] 81):=by rw [hW3,qz7 _ _ _ (by simp),qz4]
 have hR:W3.heap[w.heap.size+1+1]?=some (.cells #[ii 0,ii 0,ii 0,ii 0,ii 0,ii 0,ii 0,ii 0,ii 0,ii 0,ii 0] 85):=by rw [hW3,qk1]
 clear hW3
 have hil:=(List.getElem?_eq_some_iff.1 hi).1
 have hili:(i:Int) < (t.us.length:Int):=by omega
 have hi0:0<=(i:Int):=by omega
 have hlen:=h.len
 have hpp:∀ w',Fr [w.heap.size+1+1] W3 w'->w'.cell? ⟨gb,148,none⟩=some (.slice (some ⟨pb,0,none⟩) t.us.length cap)/\w'.cell? ⟨pb,i*11+1,none⟩=some (ii v.owner):=fun w' hf=>by
  have hg:=(h.fr0 hf3).fr hf (by have:=h.lt;simp;omega) (by have:=h.pl;simp;omega)
  exact ⟨hg.c148,(hg.gv.p.at hi).2.1⟩
 have HS:∀ w',Fr [w.heap.size+1+1] W3 w'->(fun w':World=>cl w' w.heap.size 0 uid/\cl w' w.heap.size 1 uow/\cl w' w.heap.size 2 3/\cl w' w.heap.size 3 ux/\cl w' w.heap.size 4 uy/\cl w' w.heap.size 5 uli/\cl w' w.heap.size 6 ulo/\cl w' w.heap.size 7 3/\cl w' w.heap.size 8 0/\cl w' w.heap.size 9 0/\cl w' w.heap.size 10 ct/\cl w' (w.heap.size+1) 2 cx/\cl w' (w.heap.size+1) 3 cy/\w'.cell? ⟨gb,148,none⟩=some (.slice (some ⟨pb,0,none⟩) t.us.length cap)/\w'.cell? ⟨pb,i*11+1,none⟩=some (ii v.owner)) w':=fun w' hf=>by
  have hu:=hf.heap hU (by simp;omega)
  have hc:=hf.heap hC (by simp;try omega)
  exact ⟨j9 hu,j9 hu,j9 hu,j9 hu,j9 hu,j9 hu,j9 hu,j9 hu,j9 hu,j9 hu,j9 hu,j9 hc,j9 hc,(hpp w' hf).1,(hpp w' hf).2⟩
 have KF:Fr [w.heap.size+1+1] W3 W3.drew:=(Fr.refl _ _).drew
 have K0:=HS _ KF
 have hrc:∀ j,W3.cell? ⟨w.heap.size+1+1,j,none⟩=#[ii 0,ii 0,ii 0,ii 0,ii 0,ii 0,ii 0,ii 0,ii 0,ii 0,ii 0][j]?:=fun j=>j9 hR
 have hrf:∀ j,W3.frozen? ⟨w.heap.size+1+1,j,none⟩=false:=fun j=>qq0 hR
 clear hU hC
 refine wp_region_held_drew (S:=fun w':World=>cl w' w.heap.size 0 uid/\cl w' w.heap.size 1 uow/\cl w' w.heap.size 2 3/\cl w' w.heap.size 3 ux/\cl w' w.heap.size 4 uy/\cl w' w.heap.size 5 uli/\cl w' w.heap.size 6 ulo/\cl w' w.heap.size 7 3/\cl w' w.heap.size 8 0/\cl w' w.heap.size 9 0/\cl w' w.heap.size 10 ct/\cl w' (w.heap.size+1) 2 cx/\cl w' (w.heap.size+1) 3 cy/\w'.cell? ⟨gb,148,none⟩=some (.slice (some ⟨pb,0,none⟩) t.us.length cap)/\w'.cell? ⟨pb,i*11+1,none⟩=some (ii v.owner)) (by kernel_rfl) K0 (fun hH=>?_)
 refine (show wpAnyH Tryz.prog Region.Mode.any _ _ _ 23 (Array.replicate 23 false) _ _ from ?_)
 iterate 21 (refine tn 23 hH ?_;try simp only [Act.put,Z])
 refine wpAnyH_ready (rs:=[21]) (by kernel_rfl) (by simp) ?_
 refine AllReadyH.cons (by simp only [G];rfl) (fun K hK=>?_) AllReadyH.nil
 go_simp
 obtain ⟨W5,hW5⟩:∃ W,W=(((((((((((W3.setCell ⟨w.heap.size+1+1,0,none⟩ (.int .i64 uid)).setCell ⟨w.heap.size+1+1,1,none⟩ (.int .i64 uow)).setCell ⟨w.heap.size+1+1,2,none⟩ (.int .i64 3)).setCell ⟨w.heap.size+1+1,3,none⟩ (.int .i64 ux)).setCell ⟨w.heap.size+1+1,4,none⟩ (.int .i64 uy)).setCell ⟨w.heap.size+1+1,5,none⟩ (.int .i64 uli)).setCell ⟨w.heap.size+1+1,6,none⟩ (.int .i64 ulo)).setCell ⟨w.heap.size+1+1,7,none⟩ (.int .i64 3)).setCell ⟨w.heap.size+1+1,8,none⟩ (.int .i64 0)).setCell ⟨w.heap.size+1+1,9,none⟩ (.int .i64 0)).setCell ⟨w.heap.size+1+1,10,none⟩ (.int .i64 ct)).drew:=⟨_,rfl⟩
 have hfr:Fr [w.heap.size+1+1] W3 W5:=by rw [hW5];refine Fr.drew ?_;(iterate 11 refine Fr.setCell ?_ _ _ (Or.inl (by simp)));exact Fr.refl _ _
 have h11:W5.heap[w.heap.size+1+1]?=some (.cells (⟨uid,uow,3,ux,uy,uli,ulo,3,0,0,ct⟩:U).arr 85):=by rw [hW5,qx4];exact set11 (z:=zeroU) (v:=⟨uid,uow,3,ux,uy,uli,ulo,3,0,0,ct⟩) hR
 rw [<- hW5]
 clear hW5
 have hS2:=HS _ hfr
 refine hK.out _ _ hS2 (fun hH2=>?_)
 clear hK K;try simp only [Act.put,Z]
 refine ta 22 hH2 ?_;try simp only [Act.put,Z]
 refine wpAnyH_done (by kernel_rfl) ?_ _
 go_wp2_with fail
 exact bodyPost_ret (v:=.tuple #[(⟨uid,uow,3,ux,uy,uli,ulo,3,0,0,ct⟩:U).val,.bool (v.owner != uow)]) (qq3 Tryz.results178 _ _ (w.heap.size+1+1) 85 _ (0,0) _ _ rfl rfl h11 Tryz.underlying85 rfl qq5) rfl ⟨rfl,hf3.trans hfr (by simp;omega)⟩
theorem zq3 {u v:U}{a b:Bool}(h1:u=v)(h2:a=b):Ending.returned (.tuple #[u.val,.bool a])=.returned (.tuple #[v.val,.bool b]):=by rw [h1,h2]
theorem gk3 {us:List U}{id:Int}{i:Nat}{v:U}(hp:qz0 us id=some i)(hi:us[i]?=some v):look us id=some v:=by
 unfold qz0 at hp
 rw [List.findIdx?_eq_some_iff_getElem] at hp
 obtain ⟨hl,h1,h2⟩:=hp
 unfold look
 rw [List.find?_eq_some_iff_getElem]
 rw [List.getElem?_eq_getElem hl] at hi
 have hv:=Option.some.inj hi
 refine ⟨by rw [<- hv];exact h1,i,hl,hv,fun j hj=>by simpa using h2 j hj⟩
theorem xy0 {us:List U}{id:Int}(hp:qz0 us id=none):look us id=none:=by
 unfold qz0 at hp
 rw [List.findIdx?_eq_none_iff] at hp
 unfold look
 rw [List.find?_eq_none]
 intro x hx
 have:=hp x hx
 simpa using this
theorem xk8 (gb:Nat)(u:U)(c:Cm)(w:World)(B:Bool)(hc:(c.what=0/\B=true)\/((c.what==0)=false/\(c.what==1)=false/\(c.what==2)=false/\(c.what==3)=false/\(c.what==4)=false/\B=false)) :
  Calls Tryz.prog 178 #[.pointer (some ⟨gb,0,none⟩),u.val,c.val] w fun e w'=>e=.returned (.tuple #[({ u with what:=c.what,tox:=0,toy:=0,target:=0 }:U).val,.bool B])/\Fr [] w w':=by
 obtain ⟨cu,cw,cx,cy,ct⟩:=c
 dsimp only at hc |-
 have hR:=qk1 w (.cells ({ u with what:=cw,tox:=0,toy:=0,target:=0 }:U).arr 85) (.cells #[ii cu,ii cw,ii cx,ii cy,ii ct] 81) (.cells zeroU.arr 85)
 rcases hc with ⟨rfl,rfl⟩|⟨e0,e1,e2,e3,e4,rfl⟩
 ·go_enter Tryz.func178,Tryz.ntmps178
  go_wp2_with (first|(go_at_call 185;refine (qx1 _ _ _).mono ?_;rintro e w1 ⟨rfl,rfl⟩)|(refine wpList_store_row rfl 85 _ _ rfl (w.heap.size+1+1) ({ u with what:=0,tox:=0,toy:=0,target:=0 }:U).arr rfl rfl 85 zeroU.arr hR qq5 rfl (U.one _) ?_))
  exact bodyPost_ret (v:=.tuple #[({ u with what:=0,tox:=0,toy:=0,target:=0 }:U).val,.bool true]) (qq3 Tryz.results178 _ _ (w.heap.size+1+1) 85 _ (0,0) _ _ rfl rfl (setRow_heap _ _ _ _ _ _ hR) Tryz.underlying85 rfl qq5) rfl ⟨rfl,((((Fr.refl _ _).alloc _).alloc _).alloc _).setRow _ _ (Or.inr (by omega))⟩
 ·go_enter Tryz.func178,Tryz.ntmps178
  go_wp2_with (first|(go_at_call 185;refine (qx1 _ _ _).mono ?_;rintro e w1 ⟨rfl,rfl⟩)|(refine wpList_store_row rfl 85 _ _ rfl (w.heap.size+1+1) ({ u with what:=cw,tox:=0,toy:=0,target:=0 }:U).arr rfl rfl 85 zeroU.arr hR qq5 rfl (U.one _) ?_))
  exact bodyPost_ret (v:=.tuple #[({ u with what:=cw,tox:=0,toy:=0,target:=0 }:U).val,.bool false]) (qq3 Tryz.results178 _ _ (w.heap.size+1+1) 85 _ (0,0) _ _ rfl rfl (setRow_heap _ _ _ _ _ _ hR) Tryz.underlying85 rfl qq5) rfl ⟨rfl,((((Fr.refl _ _).alloc _).alloc _).alloc _).setRow _ _ (Or.inr (by omega))⟩
theorem jw5 (gb pb cap:Nat)(t:T)(u:U)(c:Cm)(w:World)(h:RG w gb pb cap t)(hkd:u.kind=1\/u.kind=2\/u.kind=3) :
  Calls Tryz.prog 178 #[.pointer (some ⟨gb,0,none⟩),u.val,c.val] w fun e w'=>e=.returned (.tuple #[(zw5 u c).val,.bool (qj3 t u c)])/\Fr [] w w':=by
 obtain ⟨cu,cw,cx,cy,ct⟩:=c
 obtain ⟨uid,uow,uki,ux,uy,uli,ulo,uwh,utx,uty,uta⟩:=u
 dsimp only at hkd
 have F:Hid (∀ W:World,GV W gb pb cap t.us->Calls Tryz.prog 177 #[.pointer (some ⟨gb,0,none⟩),.int .i64 ct] W fun e w'=>e=.returned (.int .i64 (jq2 (qz0 t.us ct)))/\W=w'):=fun W hW=>zj9 gb pb cap t.us ct W hW
 by_cases c0:cw=0
 ·refine Calls.mono (xk8 gb _ _ w true (Or.inl ⟨c0,rfl⟩)) ?_
  rintro e w' ⟨rfl,hf⟩
  subst c0
  exact ⟨zq3 rfl rfl,hf⟩
 by_cases c1:cw=1
 ·subst c1
  cases hon:onB cx cy
  ·rcases hkd with rfl|rfl|rfl
   ·exact (dv6 gb cu cx cy ct uid uow ux uy uli ulo uwh utx uty uta w).mono fun e w' ⟨he,hf⟩=>⟨he.trans (zq3 rfl (by simp [qj3])),hf⟩
   ·exact (qzq1 gb cu cx cy ct uid uow ux uy uli ulo uwh utx uty uta w hon).mono fun e w' ⟨he,hf⟩=>⟨he.trans (zq3 rfl (by simp [qj3,hon])),hf⟩
   ·exact (qzq3 gb cu cx cy ct uid uow ux uy uli ulo uwh utx uty uta w hon).mono fun e w' ⟨he,hf⟩=>⟨he.trans (zq3 rfl (by simp [qj3,hon])),hf⟩
  ·rcases hkd with rfl|rfl|rfl
   ·exact (dv6 gb cu cx cy ct uid uow ux uy uli ulo uwh utx uty uta w).mono fun e w' ⟨he,hf⟩=>⟨he.trans (zq3 rfl (by simp [qj3])),hf⟩
   ·exact (qzq2 gb pb cap t cu cx cy ct uid uow ux uy uli ulo uwh utx uty uta w h hon _ rfl).mono fun e w' ⟨he,hf⟩=>⟨he.trans (zq3 rfl (by simp [qj3,hon])),hf⟩
   ·exact (qzq4 gb pb cap t cu cx cy ct uid uow ux uy uli ulo uwh utx uty uta w h hon _ rfl).mono fun e w' ⟨he,hf⟩=>⟨he.trans (zq3 rfl (by simp [qj3,hon])),hf⟩
 by_cases c2:cw=2
 ·subst c2
  rcases hkd with rfl|rfl|rfl
  ·exact (qjx1 gb cu cx cy ct uid uow ux uy uli ulo uwh utx uty uta w).mono fun e w' ⟨he,hf⟩=>⟨he.trans (zq3 rfl (by simp [qj3])),hf⟩
  ·cases hon:onB cx cy
   ·exact (qzq5 gb cu cx cy ct uid uow ux uy uli ulo uwh utx uty uta w hon).mono fun e w' ⟨he,hf⟩=>⟨he.trans (zq3 rfl (by simp [qj3,hon])),hf⟩
   ·by_cases hv:0 < t.bd (ci cx cy)
    ·exact (qzq6 gb pb cap t cu cx cy ct uid uow ux uy uli ulo uwh utx uty uta w h hon _ rfl hv).mono fun e w' ⟨he,hf⟩=>⟨he.trans (zq3 rfl (by simp [qj3,hon,yx9,hv])),hf⟩
    ·exact (qzq7 gb pb cap t cu cx cy ct uid uow ux uy uli ulo uwh utx uty uta w h hon _ rfl (decide_eq_false hv)).mono fun e w' ⟨he,hf⟩=>⟨he.trans (zq3 rfl (by simp [qj3,hon,yx9,hv])),hf⟩
  ·exact (qjx2 gb cu cx cy ct uid uow ux uy uli ulo uwh utx uty uta w).mono fun e w' ⟨he,hf⟩=>⟨he.trans (zq3 rfl (by simp [qj3])),hf⟩
 by_cases c3:cw=3
 ·subst c3
  rcases hkd with rfl|rfl|rfl
  ·exact (qjx3 gb pb cap t cu cx cy ct uid uow ux uy uli ulo uwh utx uty uta w h _ F).mono fun e w' ⟨he,hf⟩=>⟨he.trans (zq3 rfl (by simp [qj3])),hf⟩
  ·exact (qjx4 gb pb cap t cu cx cy ct uid uow ux uy uli ulo uwh utx uty uta w h _ F).mono fun e w' ⟨he,hf⟩=>⟨he.trans (zq3 rfl (by simp [qj3])),hf⟩
  ·cases hp:qz0 t.us ct with
   | none =>
    rw [hp] at F
    exact (qzq8 gb pb cap t cu cx cy ct uid uow ux uy uli ulo uwh utx uty uta w h F).mono fun e w' ⟨he,hf⟩=>⟨he.trans (zq3 rfl (by simp [qj3,jy9,xy0 hp])),hf⟩
   | some i =>
    obtain ⟨v,hi,_⟩:=qv8 hp
    rw [hp] at F
    exact (qzq9 gb pb cap t cu cx cy ct uid uow ux uy uli ulo uwh utx uty uta w h i v hi F).mono fun e w' ⟨he,hf⟩=>⟨he.trans (zq3 rfl (by simp [qj3,jy9,gk3 hp hi])),hf⟩
 by_cases c4:cw=4
 ·subst c4
  rcases hkd with rfl|rfl|rfl
  ·by_cases h2:cx=2
   ·subst h2
    exact (qzz1 gb cu cy ct uid uow ux uy uli ulo uwh utx uty uta w).mono fun e w' ⟨he,hf⟩=>⟨he.trans (zq3 rfl (by simp [qj3])),hf⟩
   ·exact (qzz0 gb cu cx cy ct uid uow ux uy uli ulo uwh utx uty uta w (by simpa using h2)).mono fun e w' ⟨he,hf⟩=>⟨he.trans (zq3 rfl (by simp [qj3,h2])),hf⟩
  ·exact (qjx5 gb cu cx cy ct uid uow ux uy uli ulo uwh utx uty uta w).mono fun e w' ⟨he,hf⟩=>⟨he.trans (zq3 rfl (by simp [qj3])),hf⟩
  ·exact (qjx6 gb cu cx cy ct uid uow ux uy uli ulo uwh utx uty uta w).mono fun e w' ⟨he,hf⟩=>⟨he.trans (zq3 rfl (by simp [qj3])),hf⟩
 refine Calls.mono (xk8 gb _ _ w false (Or.inr ⟨by simpa using c0,by simpa using c1,by simpa using c2,by simpa using c3,by simpa using c4,rfl⟩)) ?_
 rintro e w' ⟨rfl,hf⟩
 exact ⟨zq3 (by simp [zw5,c1,c2,c3,c4]) (by simp [qj3,c0,c1,c2,c3,c4]),hf⟩
theorem fy0 {t:T}{u:U}{c:Cm}(h:qj3 t u c=true):zw5 u c=u.ordered (zx3 c):=by
 unfold qj3 at h
 unfold zw5 zx3 U.ordered
 by_cases c0:c.what=0
 ·simp [c0]
 by_cases c1:c.what=1
 ·simp [c1]
 by_cases c2:c.what=2
 ·simp [c2]
 by_cases c3:c.what=3
 ·simp [c3]
 by_cases c4:c.what=4
 ·simp [c4]
 ·simp [c0,c1,c2,c3,c4] at h
def CmdW (w:World)(v:Value)(l:List Cm)(pb:Nat):Prop:=(∃ ao lc,v=.slice ao 0 lc/\l=[])\/∃ lb lo lc,v=.slice (some ⟨lb,lo,none⟩) l.length lc/\lb≠pb/\∀ (i:Nat) (h:i < l.length),w.rangeAt lb (lo+i*5) (l[i]'h).cells
structure RCmdI (w:World) (gb pb cap:Nat) (p:Int) (t:T) (l:List Cm) (k:Nat) (v:Value) (wr:World):Prop where
 ex:∃ t' rs,RG wr gb pb cap t'/\TOk t'/\rs.length<=k/\wr.ownsRow w.heap.size 3 1 v rs.length (ints rs)/\(rs ++ (qz6 p k (l.drop k) t').1,(qz6 p k (l.drop k) t').2)=qz6 p 0 l t
 fr:Fr [pb] w wr
structure RCmd (w:World) (gb pb cap:Nat) (t:T) (rs:List Nat) (v:Value) (w':World):Prop where
 rg:RG w' gb pb cap t
 own:w'.ownsRow w.heap.size 3 1 v rs.length (ints rs)
 fr:Fr [pb] w w'
theorem RG.put11 {w:World}{gb pb cap:Nat}{t:T}(h:RG w gb pb cap t){i:Nat}{u:U}(hi:t.us[i]?=some u)(u':U):RG (((((((((((w.setCell ⟨pb,i*11,none⟩ (.int .i64 u'.id)).setCell ⟨pb,i*11+1,none⟩ (.int .i64 u'.owner)).setCell ⟨pb,i*11+2,none⟩ (.int .i64 u'.kind)).setCell ⟨pb,i*11+3,none⟩ (.int .i64 u'.x)).setCell ⟨pb,i*11+4,none⟩ (.int .i64 u'.y)).setCell ⟨pb,i*11+5,none⟩ (.int .i64 u'.life)).setCell ⟨pb,i*11+6,none⟩ (.int .i64 u'.load)).setCell ⟨pb,i*11+7,none⟩ (.int .i64 u'.what)).setCell ⟨pb,i*11+8,none⟩ (.int .i64 u'.tox)).setCell ⟨pb,i*11+9,none⟩ (.int .i64 u'.toy)).setCell ⟨pb,i*11+10,none⟩ (.int .i64 u'.target)) gb pb cap { t with us:=t.us.set i u' }:=by
 have h0:=h.setC (u':={ u with id:=u'.id }) (v:=ii u'.id) (i:=i) hi (j:=0) (by omega) rfl
 have h1:=h0.setC (u':={ u with id:=u'.id,owner:=u'.owner }) (v:=ii u'.owner) (i:=i) (qz2 hi) (j:=1) (by omega) rfl
 have h2:=h1.setC (u':={ u with id:=u'.id,owner:=u'.owner,kind:=u'.kind }) (v:=ii u'.kind) (i:=i) (qz2 (qz2 hi)) (j:=2) (by omega) rfl
 have h3:=h2.setC (u':={ u with id:=u'.id,owner:=u'.owner,kind:=u'.kind,x:=u'.x }) (v:=ii u'.x) (i:=i) (qz2 (qz2 (qz2 hi))) (j:=3) (by omega) rfl
 have h4:=h3.setC (u':={ u with id:=u'.id,owner:=u'.owner,kind:=u'.kind,x:=u'.x,y:=u'.y }) (v:=ii u'.y) (i:=i) (qz2 (qz2 (qz2 (qz2 hi)))) (j:=4) (by omega) rfl
 have h5:=h4.setC (u':={ u with id:=u'.id,owner:=u'.owner,kind:=u'.kind,x:=u'.x,y:=u'.y,life:=u'.life }) (v:=ii u'.life) (i:=i) (qz2 (qz2 (qz2 (qz2 (qz2 hi))))) (j:=5) (by omega) rfl
 have h6:=h5.setC (u':={ u with id:=u'.id,owner:=u'.owner,kind:=u'.kind,x:=u'.x,y:=u'.y,life:=u'.life,load:=u'.load }) (v:=ii u'.load) (i:=i) (qz2 (qz2 (qz2 (qz2 (qz2 (qz2 hi)))))) (j:=6) (by omega) rfl
 have h7:=h6.setC (u':={ u with id:=u'.id,owner:=u'.owner,kind:=u'.kind,x:=u'.x,y:=u'.y,life:=u'.life,load:=u'.load,what:=u'.what }) (v:=ii u'.what) (i:=i) (qz2 (qz2 (qz2 (qz2 (qz2 (qz2 (qz2 hi))))))) (j:=7) (by omega) rfl
 have h8:=h7.setC (u':={ u with id:=u'.id,owner:=u'.owner,kind:=u'.kind,x:=u'.x,y:=u'.y,life:=u'.life,load:=u'.load,what:=u'.what,tox:=u'.tox }) (v:=ii u'.tox) (i:=i) (qz2 (qz2 (qz2 (qz2 (qz2 (qz2 (qz2 (qz2 hi)))))))) (j:=8) (by omega) rfl
 have h9:=h8.setC (u':={ u with id:=u'.id,owner:=u'.owner,kind:=u'.kind,x:=u'.x,y:=u'.y,life:=u'.life,load:=u'.load,what:=u'.what,tox:=u'.tox,toy:=u'.toy }) (v:=ii u'.toy) (i:=i) (qz2 (qz2 (qz2 (qz2 (qz2 (qz2 (qz2 (qz2 (qz2 hi))))))))) (j:=9) (by omega) rfl
 have h10:=h9.setC (u':={ u with id:=u'.id,owner:=u'.owner,kind:=u'.kind,x:=u'.x,y:=u'.y,life:=u'.life,load:=u'.load,what:=u'.what,tox:=u'.tox,toy:=u'.toy,target:=u'.target }) (v:=ii u'.target) (i:=i) (qz2 (qz2 (qz2 (qz2 (qz2 (qz2 (qz2 (qz2 (qz2 (qz2 hi)))))))))) (j:=10) (by omega) rfl
 simp only [List.set_set,Nat.add_zero] at h10
 exact h10
theorem gw7 {t:T}{p:Int}{c:Cm}(h:qz0 t.us c.unit=none):zj1 t p c=(false,t):=by unfold zj1;rw [h]
theorem gw8 {t:T}{p:Int}{c:Cm}{j:Nat}{u:U}(h:qz0 t.us c.unit=some j)(hj:t.us[j]?=some u):zj1 t p c=if u.owner=p/\qj3 t u c=true then (true,{ t with us:=t.us.set j (u.ordered (zx3 c)) }) else (false,t):=by
 unfold zj1
 rw [h]
 dsimp only
 rw [hj]
theorem jw4 (gb pb cap:Nat)(t:T)(p:Int)(l:List Cm)(lv:Value)(w:World)(h:RG w gb pb cap t)(hok:TOk t)(hwin:qy3 t.us=0)(htn:t.turn < 1000000000)(hl:CmdW w lv l pb)(hlen:l.length<=2000000) :
  Calls Tryz.prog 134 #[.pointer (some ⟨gb,0,none⟩),.int .i64 p,lv] w fun e w'=>∃ v,e=.returned v/\RCmd w gb pb cap (qz6 p 0 l t).2 (qz6 p 0 l t).1 v w':=by
 obtain ⟨inf,hi0,hz0,hz1,hz2⟩:=info_parts kk6
 obtain ⟨ao,lc,rfl⟩:∃ ao lc,lv=.slice ao l.length lc:=by
  rcases hl with ⟨ao,lc,rfl,rfl⟩|⟨lb,lo,lc,rfl,_⟩
  ·exact ⟨_,_,rfl⟩
  ·exact ⟨_,_,rfl⟩
 have HL:=hid hl
 have hpl:=h.pl
 have hgl:=h.lt
 have HH:=hid h
 have HOK:=hid hok
 have hW:=zz6 gb pb cap t.us w h.gv
 rw [hwin] at hW
 clear h hok hl hwin
 go_enter Tryz.func134,Tryz.ntmps134
 go_wp2_with fail
 refine Calls.mono hW ?_
 rintro e w1 ⟨rfl,hf1⟩
 dsimp only
 have hg1:=HH.out.fr0 hf1
 have ht1:=hg1.c0
 have htn2:¬ 1000000000<=t.turn:=by omega
 clear hW
 go_wp2_with fail
 have HG1:=hid hg1
 clear hg1 ht1
 go_loopw [7,9] (fun v i wr=>∃ k:Nat,k<=l.length/\i=.int .i64 k/\RCmdI w gb pb cap p t l k v wr) (fun _ i _=>l.length - (intOf i).toNat)
 case atStart=>exact ⟨0,Nat.zero_le _,rfl,⟨t,[],HG1.out,HOK.out,Nat.le_refl _,⟨rfl,Or.inl ⟨rfl,rfl⟩⟩,by simp⟩,hf1.of0⟩
 case round =>
  obtain ⟨k,hk,rfl,hI⟩:=hrel
  obtain ⟨⟨t',rs,ht,hok',hrl,hown,hall⟩,hfr⟩:=hI
  by_cases hlt:k < l.length
  ·have hlti:(k:Int) < (l.length:Int):=by omega
   obtain ⟨c,hc⟩:∃ c,l[k]?=some c:=⟨l[k],List.getElem?_eq_getElem hlt⟩
   have hdrop:l.drop k=c :: l.drop (k+1):=by
    rw [List.drop_eq_getElem_cons hlt]
    congr 1
    rw [List.getElem?_eq_getElem hlt] at hc
    exact Option.some.inj hc
   rw [hdrop,jv1] at hall
   obtain ⟨lb,lo,rfl,hlp,hcs⟩:∃ lb lo,ao=some ⟨lb,lo,none⟩/\lb≠pb/\w.rangeAt lb (lo+k*5) c.cells:=by
    rcases HL.out with ⟨ao,lc',e1,e2⟩|⟨lb,lo,lc',e1,h2,h3⟩
    ·rw [e2] at hlt;simp at hlt
    ·refine ⟨lb,lo,by simpa using congrArg (fun v:Value=>match v with|.slice a _ _=>a|_=>none) e1,h2,?_⟩
     have:=h3 k hlt
     rw [List.getElem?_eq_getElem hlt] at hc
     rw [Option.some.inj hc] at this
     exact this
   have hlbl:lb < w.heap.size:=qq1 (hcs 0 _ rfl)
   have HC:Hid (∀ W,Fr [pb] w W->W.cell? ⟨lb,lo+k*5,none⟩=some (ii c.unit)/\W.cell? ⟨lb,lo+k*5+1,none⟩=some (ii c.what)/\W.cell? ⟨lb,lo+k*5+2,none⟩=some (ii c.x)/\W.cell? ⟨lb,lo+k*5+3,none⟩=some (ii c.y)/\W.cell? ⟨lb,lo+k*5+4,none⟩=some (ii c.target)):=fun W hf=>by
    have hcc:∀ j,W.cell? ⟨lb,j,none⟩=w.cell? ⟨lb,j,none⟩:=fun j=>hf.cell _ _ hlbl (by simpa using hlp)
    exact ⟨(hcc _).trans (hcs 0 _ rfl),(hcc _).trans (hcs 1 _ rfl),(hcc _).trans (hcs 2 _ rfl),(hcc _).trans (hcs 3 _ rfl),(hcc _).trans (hcs 4 _ rfl)⟩
   obtain ⟨c0,_,_,_,_⟩:=HC.out _ hfr
   have hgood:=(vz1 hok' p c (fun _=>True)).1.ok
   have hFI:=zj9 gb pb cap t'.us c.unit wr ht.gv
   have HT:=hid ht
   have HO:=hid hown
   have HALL:=hid hall
   have HF:=hid hfr
   have HOK':=(show Hid _ from hok')
   have hwr:=hfr.size
   have HN:Hid (∀ (W:World) (j:Nat) (u:Value),[ii (k:Int)][j]?=some u->(W.alloc (.cells #[.int .i64 k] 3)).cell? ((⟨W.heap.size,0,none⟩:Addr).add j)=some u):=by
    intro W j u hu
    have hj:j=0:=by
     have:=(List.getElem?_eq_some_iff.1 hu).1
     simp at this
     exact this
    subst hj
    rw [Addr.add_lit,j9 (qq6 W _)]
    simpa using hu
   have hb1:∀ b,u7.ownBlock=some b->w.heap.size<=b:=fun b hb=>qj1 HO.out hb
   have HB1:=hid hb1
   have HOW:Hid (∀ w2,Fr [pb] wr w2->(w2.alloc (.cells #[.int .i64 k] 3)).ownsRow w.heap.size 3 1 u7 rs.length (ints rs)):=fun w2 hf=>qq7 (qq7 HO.out hf (fun b hb=>by have:=hb1 b hb;simp;omega)) ((Fr.refl [] w2).alloc _) (by simp)
   have HREF:Hid (∀ w2 w3 v',Fr [] wr w2->zj1 t' p c=(false,t')->w3.ownsRow w.heap.size 3 1 v' (rs.length+1) (ints rs ++ [ii (k:Int)])->(w2.alloc (.cells #[.int .i64 k] 3)).grownBy w3 u7.ownBlock->RCmdI w gb pb cap p t l (k+1) v' w3):=fun w2 w3 v' hf2 htt hown3 hgrow=>by
    have hf3:Fr u7.ownBlock.toList w2 w3:=((Fr.refl _ _).alloc _).grow hgrow (fun g hg=>Or.inl (by simp [hg]))
    have hw2:Fr [pb] w w2:=HF.out.then0 hf2
    have hw3:Fr [pb] w w3:=hw2.trans hf3 (fun b hb=>Or.inr (HB1.out b (by simpa using hb)))
    have hno:∀ b,b < w.heap.size->b∉u7.ownBlock.toList:=fun b hb hm=>by
     have:=HB1.out b (by simpa using hm)
     omega
    refine ⟨⟨t',rs ++ [k],(HT.out.fr0 hf2).fr hf3 (hno _ hgl) (hno _ hpl),HOK'.out,by simp;omega,by simpa using hown3,?_⟩,hw3⟩
    have:=HALL.out
    rw [htt] at this
    simpa using this
   clear ht hall hdrop hc hfr hown hok' hb1
   cases hp:qz0 t'.us c.unit with
   | none =>
    rw [hp] at hFI
    have HTT:=(show Hid _ from gw7 (p:=p) hp)
    go_wp2_with fail
    refine Calls.mono hFI ?_
    rintro e w2 ⟨rfl,rfl⟩
    dsimp only [jq2]
    clear hFI
    go_wp2_with (at_builtin;refine wpList_append_own _ rfl _ _ 25 rfl w.heap.size 3 inf (ii 0) 1 8 Tryz.underlying25 hi0 hz0 hz1 hz2 rfl (by decide) u7 rs.length (ints rs) rfl (HOW.out _ (Fr.refl _ _)) ⟨wr.heap.size,0,none⟩ 1 1 [ii (k:Int)] rfl rfl (HN.out wr) (by simp [Value.oneCell']) (by unfold maxLen;omega) (by omega) (by simp;omega) ?_;intro v' w3 hown3 hgrow hnil3)
    go_roundw
    case rel=>exact ⟨k+1,hlt,by go_num,HREF.out _ _ _ (Fr.refl _ _) HTT.out hown3 hgrow⟩
    case measure=>simp [intOf];omega
   | some j =>
    obtain ⟨u,hj,-⟩:=qv8 hp
    rw [hp] at hFI
    have HTT:=(show Hid _ from gw8 (p:=p) hp hj)
    have hjl:=(List.getElem?_eq_some_iff.1 hj).1
    have hjli:(j:Int) < (t'.us.length:Int):=by omega
    have hj0:¬ (j:Int) < 0:=by omega
    have htl:=HT.out.len
    have hcr:=HT.out.c148
    obtain ⟨_,d1,_,_,_,_,_,_,_,_,_⟩:=HT.out.gv.p.at hj
    have HJ:=hid hj
    have hkd:=(HOK'.out.all u (List.mem_of_getElem? hj)).kd
    clear hp hj
    by_cases how:u.owner=p
    ·have howb:(u.owner != p)=false:=by simpa using how
     have HTK:Hid (zj1 t' p c=if qj3 t' u c=true then (true,{ t' with us:=t'.us.set j (u.ordered (zx3 c)) }) else (false,t')):=by
      show _=_
      rw [HTT.out]
      simp only [how,true_and]
     clear how HTT
     have HOR:Hid (∀ W,Fr [] wr W->Calls Tryz.prog 178 #[.pointer (some ⟨gb,0,none⟩),u.val,c.val] W fun e w'=>e=.returned (.tuple #[(zw5 u c).val,.bool (qj3 t' u c)])/\Fr [] W w'):=fun W hf=>jw5 gb pb cap t' u c W (HT.out.fr0 hf) hkd
     have HRO:=(show Hid _ from fun hb:qj3 t' u c=true=>fy0 hb)
     obtain ⟨u',hu'⟩:∃ u',u'=zw5 u c:=⟨_,rfl⟩
     obtain ⟨B,hB⟩:∃ B,qj3 t' u c=B:=⟨_,rfl⟩
     rw [<- hu',hB] at HOR
     rw [<- hu',hB] at HRO
     rw [hB] at HTK
     have HS:∀ w',Fr [] wr w'->(fun w':World=>w'.cell? ⟨gb,148,none⟩=some (.slice (some ⟨pb,0,none⟩) t'.us.length cap)/\w'.cell? ⟨pb,j*11,none⟩=some (ii u.id)/\w'.cell? ⟨pb,j*11+1,none⟩=some (ii u.owner)/\w'.cell? ⟨pb,j*11+2,none⟩=some (ii u.kind)/\w'.cell? ⟨pb,j*11+3,none⟩=some (ii u.x)/\w'.cell? ⟨pb,j*11+4,none⟩=some (ii u.y)/\w'.cell? ⟨pb,j*11+5,none⟩=some (ii u.life)/\w'.cell? ⟨pb,j*11+6,none⟩=some (ii u.load)/\w'.cell? ⟨pb,j*11+7,none⟩=some (ii u.what)/\w'.cell? ⟨pb,j*11+8,none⟩=some (ii u.tox)/\w'.cell? ⟨pb,j*11+9,none⟩=some (ii u.toy)/\w'.cell? ⟨pb,j*11+10,none⟩=some (ii u.target)/\w'.cell? ⟨lb,lo+k*5,none⟩=some (ii c.unit)/\w'.cell? ⟨lb,lo+k*5+1,none⟩=some (ii c.what)/\w'.cell? ⟨lb,lo+k*5+2,none⟩=some (ii c.x)/\w'.cell? ⟨lb,lo+k*5+3,none⟩=some (ii c.y)/\w'.cell? ⟨lb,lo+k*5+4,none⟩=some (ii c.target)) w':=fun w' hf=>by
      have hg:=HT.out.fr0 hf
      exact ⟨hg.c148,(hg.gv.p.at HJ.out).1,(hg.gv.p.at HJ.out).2.1,(hg.gv.p.at HJ.out).2.2.1,(hg.gv.p.at HJ.out).2.2.2.1,(hg.gv.p.at HJ.out).2.2.2.2.1,(hg.gv.p.at HJ.out).2.2.2.2.2.1,(hg.gv.p.at HJ.out).2.2.2.2.2.2.1,(hg.gv.p.at HJ.out).2.2.2.2.2.2.2.1,(hg.gv.p.at HJ.out).2.2.2.2.2.2.2.2.1,(hg.gv.p.at HJ.out).2.2.2.2.2.2.2.2.2.1,(hg.gv.p.at HJ.out).2.2.2.2.2.2.2.2.2.2,HC.out _ (HF.out.then0 hf)⟩
     have KF:Fr [] wr wr.drew:=(Fr.refl _ _).drew
     have KA:Fr [] wr (wr.alloc (.cells #[ii 0,ii 0,ii 0,ii 0,ii 0,ii 0,ii 0,ii 0,ii 0,ii 0,ii 0] 85)).drew:=((Fr.refl _ _).alloc _).drew
     have K0:=HS _ KF
     have KS:=HS _ KA
     have KH:(wr.alloc (.cells #[ii 0,ii 0,ii 0,ii 0,ii 0,ii 0,ii 0,ii 0,ii 0,ii 0,ii 0] 85)).drew.heap[wr.heap.size]?=some (.cells #[ii 0,ii 0,ii 0,ii 0,ii 0,ii 0,ii 0,ii 0,ii 0,ii 0,ii 0] 85):=qq6 wr _
     clear hu' hB
     go_wp2_with fail
     refine Calls.mono hFI ?_
     rintro e w2 ⟨rfl,rfl⟩
     dsimp only [jq2]
     clear hFI
     go_wp2_with fail
     go_cut [11,12] (fun s11 s12 wx=>∃ ub,s11=.pointer (some ⟨ub,0,none⟩)/\s12=.bool B/\Fr [] wr wx/\wr.heap.size<=ub/\wx.heap[ub]?=some (.cells u'.arr 85))
     case first =>
      go_region_held (fun w':World=>w'.cell? ⟨gb,148,none⟩=some (.slice (some ⟨pb,0,none⟩) t'.us.length cap)/\w'.cell? ⟨pb,j*11,none⟩=some (ii u.id)/\w'.cell? ⟨pb,j*11+1,none⟩=some (ii u.owner)/\w'.cell? ⟨pb,j*11+2,none⟩=some (ii u.kind)/\w'.cell? ⟨pb,j*11+3,none⟩=some (ii u.x)/\w'.cell? ⟨pb,j*11+4,none⟩=some (ii u.y)/\w'.cell? ⟨pb,j*11+5,none⟩=some (ii u.life)/\w'.cell? ⟨pb,j*11+6,none⟩=some (ii u.load)/\w'.cell? ⟨pb,j*11+7,none⟩=some (ii u.what)/\w'.cell? ⟨pb,j*11+8,none⟩=some (ii u.tox)/\w'.cell? ⟨pb,j*11+9,none⟩=some (ii u.toy)/\w'.cell? ⟨pb,j*11+10,none⟩=some (ii u.target)/\w'.cell? ⟨lb,lo+k*5,none⟩=some (ii c.unit)/\w'.cell? ⟨lb,lo+k*5+1,none⟩=some (ii c.what)/\w'.cell? ⟨lb,lo+k*5+2,none⟩=some (ii c.x)/\w'.cell? ⟨lb,lo+k*5+3,none⟩=some (ii c.y)/\w'.cell? ⟨lb,lo+k*5+4,none⟩=some (ii c.target))
       (first|with_reducible exact K0|with_reducible exact KS|with_reducible exact hS3|with_reducible exact hSa|with_reducible exact hSb)
       (first|(go_at_call 178;with_reducible refine Calls.mono (HOR.out _ KF) ?_;rintro e w3 ⟨rfl,hf3⟩;have hfr3:Fr [] wr w3:=KF.then0 hf3;have hS3:=HS w3 hfr3;have hSa:=HS _ (hfr3.alloc (.cells #[ii 0,ii 0,ii 0,ii 0,ii 0,ii 0,ii 0,ii 0,ii 0,ii 0,ii 0] 85));have hSb:=HS _ (hfr3.alloc (.cells u'.arr 85));have hal3:True:=trivial)|(go_at_call 178;with_reducible refine Calls.mono (HOR.out _ KA) ?_;rintro e w3 ⟨rfl,hf3⟩;have hfr3:Fr [] wr w3:=KA.then0 hf3;have hS3:=HS w3 hfr3;have hch:=(((((((((((hfr3).setCell ⟨wr.heap.size,0,none⟩ (.int .i64 u'.id) (Or.inr (Nat.le_refl _))).setCell ⟨wr.heap.size,1,none⟩ (.int .i64 u'.owner) (Or.inr (Nat.le_refl _))).setCell ⟨wr.heap.size,2,none⟩ (.int .i64 u'.kind) (Or.inr (Nat.le_refl _))).setCell ⟨wr.heap.size,3,none⟩ (.int .i64 u'.x) (Or.inr (Nat.le_refl _))).setCell ⟨wr.heap.size,4,none⟩ (.int .i64 u'.y) (Or.inr (Nat.le_refl _))).setCell ⟨wr.heap.size,5,none⟩ (.int .i64 u'.life) (Or.inr (Nat.le_refl _))).setCell ⟨wr.heap.size,6,none⟩ (.int .i64 u'.load) (Or.inr (Nat.le_refl _))).setCell ⟨wr.heap.size,7,none⟩ (.int .i64 u'.what) (Or.inr (Nat.le_refl _))).setCell ⟨wr.heap.size,8,none⟩ (.int .i64 u'.tox) (Or.inr (Nat.le_refl _))).setCell ⟨wr.heap.size,9,none⟩ (.int .i64 u'.toy) (Or.inr (Nat.le_refl _))).setCell ⟨wr.heap.size,10,none⟩ (.int .i64 u'.target) (Or.inr (Nat.le_refl _));have hSa:=HS _ hch;have hSb:=hS3;have hal3:w3.heap[wr.heap.size]?=some (.cells #[ii 0,ii 0,ii 0,ii 0,ii 0,ii 0,ii 0,ii 0,ii 0,ii 0,ii 0] 85):=hf3.heap0 KH;have hrc:∀ j,w3.cell? ⟨wr.heap.size,j,none⟩=#[ii 0,ii 0,ii 0,ii 0,ii 0,ii 0,ii 0,ii 0,ii 0,ii 0,ii 0][j]?:=(fun j=>j9 hal3);have hrf:∀ j,w3.frozen? ⟨wr.heap.size,j,none⟩=false:=(fun j=>qq0 hal3)))
      ·go_wp2_with fail
       go_meet
       exact ⟨_,rfl,rfl,hfr3.alloc _,hfr3.size,qq6 _ _⟩
      ·go_wp2_with fail
       go_meet
       exact ⟨_,rfl,rfl,hch,Nat.le_refl _,set11 (z:=zeroU) (v:=u') hal3⟩
     case rest =>
      obtain ⟨ub,rfl,rfl,hfc,hub,huh⟩:=hcut
      clear K0 KS KF KA HS HOR KH c0 hcr d1
      cases B
      ·rw [if_neg (by simp)] at HTK
       have hwc:=hfc.size
       go_wp2_with (at_builtin;refine wpList_append_own _ rfl _ _ 25 rfl w.heap.size 3 inf (ii 0) 1 8 Tryz.underlying25 hi0 hz0 hz1 hz2 rfl (by decide) u7 rs.length (ints rs) rfl (HOW.out _ hfc.of0) ⟨wc.heap.size,0,none⟩ 1 1 [ii (k:Int)] rfl rfl (HN.out wc) (by simp [Value.oneCell']) (by unfold maxLen;omega) (by omega) (by simp;omega) ?_;intro v' w3 hown3 hgrow hnil3)
       go_roundw
       case rel=>exact ⟨k+1,hlt,by go_num,HREF.out _ _ _ hfc HTK.out hown3 hgrow⟩
       case measure=>simp [intOf];omega
      ·rw [if_pos rfl] at HTK
       have HU:=(show Hid _ from HRO.out rfl)
       have hgc:=HT.out.fr0 hfc
       have HGC:=hid hgc
       have hne:=hgc.ne
       have hub2:¬ ub=pb:=by omega
       have hcc:=hgc.c148
       obtain ⟨y0,y1,y2,y3,y4,y5,y6,y7,y8,y9,y10⟩:=hgc.gv.p.at HJ.out
       have fz:∀ q,wc.frozen? ⟨pb,q,none⟩=false:=fun q=>hgc.frz q
       have HS:∀ w',Fr [pb] wc w'->(fun w':World=>w'.cell? ⟨gb,148,none⟩=some (.slice (some ⟨pb,0,none⟩) t'.us.length cap)/\cl w' ub 0 u'.id/\cl w' ub 1 u'.owner/\cl w' ub 2 u'.kind/\cl w' ub 3 u'.x/\cl w' ub 4 u'.y/\cl w' ub 5 u'.life/\cl w' ub 6 u'.load/\cl w' ub 7 u'.what/\cl w' ub 8 u'.tox/\cl w' ub 9 u'.toy/\cl w' ub 10 u'.target) w':=fun w' hf=>by
        have hx:=hf.heap huh (by simpa using hub2)
        exact ⟨(hf.cell _ _ (qq1 hcc) (by simpa using hne)).trans hcc,j9 hx,j9 hx,j9 hx,j9 hx,j9 hx,j9 hx,j9 hx,j9 hx,j9 hx,j9 hx,j9 hx⟩
       have KF:Fr [pb] wc wc.drew:=(Fr.refl _ _).drew
       have K0:=HS _ KF
       have hch:=((((((((((((Fr.refl [pb] wc)).setCell ⟨pb,j*11,none⟩ (.int .i64 u'.id) (Or.inl (by simp))).setCell ⟨pb,j*11+1,none⟩ (.int .i64 u'.owner) (Or.inl (by simp))).setCell ⟨pb,j*11+2,none⟩ (.int .i64 u'.kind) (Or.inl (by simp))).setCell ⟨pb,j*11+3,none⟩ (.int .i64 u'.x) (Or.inl (by simp))).setCell ⟨pb,j*11+4,none⟩ (.int .i64 u'.y) (Or.inl (by simp))).setCell ⟨pb,j*11+5,none⟩ (.int .i64 u'.life) (Or.inl (by simp))).setCell ⟨pb,j*11+6,none⟩ (.int .i64 u'.load) (Or.inl (by simp))).setCell ⟨pb,j*11+7,none⟩ (.int .i64 u'.what) (Or.inl (by simp))).setCell ⟨pb,j*11+8,none⟩ (.int .i64 u'.tox) (Or.inl (by simp))).setCell ⟨pb,j*11+9,none⟩ (.int .i64 u'.toy) (Or.inl (by simp))).setCell ⟨pb,j*11+10,none⟩ (.int .i64 u'.target) (Or.inl (by simp))
       have KS:=HS _ hch.drew
       have HG5:=(show Hid _ from HGC.out.put11 HJ.out u')
       clear hgc HS
       go_wp2_with fail
       go_region_held (fun w':World=>w'.cell? ⟨gb,148,none⟩=some (.slice (some ⟨pb,0,none⟩) t'.us.length cap)/\w'.cell? ⟨ub,0,none⟩=some (ii u'.id)/\w'.cell? ⟨ub,1,none⟩=some (ii u'.owner)/\w'.cell? ⟨ub,2,none⟩=some (ii u'.kind)/\w'.cell? ⟨ub,3,none⟩=some (ii u'.x)/\w'.cell? ⟨ub,4,none⟩=some (ii u'.y)/\w'.cell? ⟨ub,5,none⟩=some (ii u'.life)/\w'.cell? ⟨ub,6,none⟩=some (ii u'.load)/\w'.cell? ⟨ub,7,none⟩=some (ii u'.what)/\w'.cell? ⟨ub,8,none⟩=some (ii u'.tox)/\w'.cell? ⟨ub,9,none⟩=some (ii u'.toy)/\w'.cell? ⟨ub,10,none⟩=some (ii u'.target)) (first|with_reducible exact K0|with_reducible exact KS) (fail)
       go_wp2_with fail
       go_roundw
       case rel =>
        have hw5:Fr [pb] w (((((((((((wc.setCell ⟨pb,j*11,none⟩ (.int .i64 u'.id)).setCell ⟨pb,j*11+1,none⟩ (.int .i64 u'.owner)).setCell ⟨pb,j*11+2,none⟩ (.int .i64 u'.kind)).setCell ⟨pb,j*11+3,none⟩ (.int .i64 u'.x)).setCell ⟨pb,j*11+4,none⟩ (.int .i64 u'.y)).setCell ⟨pb,j*11+5,none⟩ (.int .i64 u'.life)).setCell ⟨pb,j*11+6,none⟩ (.int .i64 u'.load)).setCell ⟨pb,j*11+7,none⟩ (.int .i64 u'.what)).setCell ⟨pb,j*11+8,none⟩ (.int .i64 u'.tox)).setCell ⟨pb,j*11+9,none⟩ (.int .i64 u'.toy)).setCell ⟨pb,j*11+10,none⟩ (.int .i64 u'.target)).drew:=((HF.out.then0 hfc).trans hch (by simp)).drew
        refine ⟨k+1,hlt,by go_num,⟨{ t' with us:=t'.us.set j (u.ordered (zx3 c)) },rs,?_,?_,by omega,?_,?_⟩,hw5⟩
        ·rw [<- HU.out]
         exact HG5.out.fr0 ((Fr.refl _ _).drew)
        ·have:=hgood
         rw [HTK.out] at this
         exact this
        ·exact qq7 (qq7 HO.out hfc (by simp)) hch.drew (fun b hb=>by have:=HB1.out b hb;simp;omega)
        ·have:=HALL.out
         rw [HTK.out] at this
         simpa using this
       case measure=>simp [intOf];omega
    ·have howb:(u.owner != p)=true:=by simpa using how
     have HTK:Hid (zj1 t' p c=(false,t')):=by
      show _=_
      rw [HTT.out,if_neg (fun x=>how x.1)]
     go_wp2_with fail
     refine Calls.mono hFI ?_
     rintro e w2 ⟨rfl,rfl⟩
     dsimp only [jq2]
     clear hFI
     go_wp2_with (at_builtin;refine wpList_append_own _ rfl _ _ 25 rfl w.heap.size 3 inf (ii 0) 1 8 Tryz.underlying25 hi0 hz0 hz1 hz2 rfl (by decide) u7 rs.length (ints rs) rfl (HOW.out _ (Fr.refl _ _)) ⟨wr.heap.size,0,none⟩ 1 1 [ii (k:Int)] rfl rfl (HN.out wr) (by simp [Value.oneCell']) (by unfold maxLen;omega) (by omega) (by simp;omega) ?_;intro v' w3 hown3 hgrow hnil3)
     go_roundw
     case rel=>exact ⟨k+1,hlt,by go_num,HREF.out _ _ _ (Fr.refl _ _) HTK.out hown3 hgrow⟩
     case measure=>simp [intOf];omega
  ·have hall':=hall
   rw [List.drop_of_length_le (by omega)] at hall'
   have hlti:¬ (k:Int) < (l.length:Int):=by omega
   go_wp2_with fail
   go_ret
   have hall2:(rs,t')=qz6 p 0 l t:=by simpa [qz6] using hall'
   refine ⟨u7,rfl,?_⟩
   rw [<- hall2]
   exact ⟨ht,hown,hfr⟩
end Go.Proofs.YtapabahhfanmmaaGreatDoor
