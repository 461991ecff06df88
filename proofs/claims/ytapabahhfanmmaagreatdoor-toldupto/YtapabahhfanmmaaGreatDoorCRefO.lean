import Derived.Test.YtapabahhfanmmaaGreatDoorCRefG
namespace Go.Proofs.YtapabahhfanmmaaGreatDoor
open Go.RowKit
set_option maxHeartbeats 2000000
set_option maxRecDepth 100000
theorem qx4 (w:World):w.drew.heap=w.heap:=rfl
def zw5 (u:U)(c:Cm):U:={ u with what:=c.what,tox:=if c.what=1\/c.what=2\/c.what=4 then c.x else 0,toy:=if c.what=1\/c.what=2 then c.y else 0,target:=if c.what=3 then c.target else 0 }
theorem dv6 (gb:Nat)(cu cx cy ct uid uow ux uy uli ulo uwh utx uty uta:Int)(w:World) :
  Calls Tryz.prog 178 #[.pointer (some ⟨gb,0,none⟩),(⟨uid,uow,1,ux,uy,uli,ulo,uwh,utx,uty,uta⟩:U).val,(⟨cu,1,cx,cy,ct⟩:Cm).val] w fun e w'=>e=.returned (.tuple #[(⟨uid,uow,1,ux,uy,uli,ulo,1,cx,cy,0⟩:U).val,.bool false])/\Fr [] w w':=by
 go_enter Tryz.func178,Tryz.ntmps178
 go_wp2_with (first|(go_at_call 185;refine (qx1 _ _ _).mono ?_;rintro e w1 ⟨rfl,rfl⟩))
 obtain ⟨W3,hW3⟩:∃ W,W=((w.alloc (.cells #[ii uid,ii uow,ii 1,ii ux,ii uy,ii uli,ii ulo,ii 1,ii cx,ii cy,ii 0] 85)).alloc (.cells #[ii cu,ii 1,ii cx,ii cy,ii ct] 81)).alloc (.cells #[ii 0,ii 0,ii 0,ii 0,ii 0,ii 0,ii 0,ii 0,ii 0,ii 0,ii 0] 85):=⟨_,rfl⟩
 rw [<- hW3]
 have hf3:Fr [] w W3:=by rw [hW3];exact (((Fr.refl _ _).alloc _).alloc _).alloc _
 have hU:W3.heap[w.heap.size]?=some (.cells #[ii uid,ii uow,ii 1,ii ux,ii uy,ii uli,ii ulo,ii 1,ii cx,ii cy,ii 0] 85):=by rw [hW3,qz7 _ _ _ (by simp;omega),qz8]
 have hC:W3.heap[w.heap.size+1]?=some (.cells #[ii cu,ii 1,ii cx,ii cy,ii ct] 81):=by rw [hW3,qz7 _ _ _ (by simp),qz4]
 have hR:W3.heap[w.heap.size+1+1]?=some (.cells #[ii 0,ii 0,ii 0,ii 0,ii 0,ii 0,ii 0,ii 0,ii 0,ii 0,ii 0] 85):=by rw [hW3,qk1]
 clear hW3
 have HS:∀ w',Fr [w.heap.size+1+1] W3 w'->(fun w':World=>cl w' w.heap.size 0 uid/\cl w' w.heap.size 1 uow/\cl w' w.heap.size 2 1/\cl w' w.heap.size 3 ux/\cl w' w.heap.size 4 uy/\cl w' w.heap.size 5 uli/\cl w' w.heap.size 6 ulo/\cl w' w.heap.size 7 1/\cl w' w.heap.size 8 cx/\cl w' w.heap.size 9 cy/\cl w' w.heap.size 10 0/\cl w' (w.heap.size+1) 2 cx/\cl w' (w.heap.size+1) 3 cy) w':=fun w' hf=>by
  have hu:=hf.heap hU (by simp;omega)
  have hc:=hf.heap hC (by simp;try omega)
  exact ⟨j9 hu,j9 hu,j9 hu,j9 hu,j9 hu,j9 hu,j9 hu,j9 hu,j9 hu,j9 hu,j9 hu,j9 hc,j9 hc⟩
 have KF:Fr [w.heap.size+1+1] W3 W3.drew:=(Fr.refl _ _).drew
 have K0:=HS _ KF
 have hrc:∀ j,W3.cell? ⟨w.heap.size+1+1,j,none⟩=#[ii 0,ii 0,ii 0,ii 0,ii 0,ii 0,ii 0,ii 0,ii 0,ii 0,ii 0][j]?:=fun j=>j9 hR
 have hrf:∀ j,W3.frozen? ⟨w.heap.size+1+1,j,none⟩=false:=fun j=>qq0 hR
 clear hU hC
 refine wp_region_held_drew (S:=fun w':World=>cl w' w.heap.size 0 uid/\cl w' w.heap.size 1 uow/\cl w' w.heap.size 2 1/\cl w' w.heap.size 3 ux/\cl w' w.heap.size 4 uy/\cl w' w.heap.size 5 uli/\cl w' w.heap.size 6 ulo/\cl w' w.heap.size 7 1/\cl w' w.heap.size 8 cx/\cl w' w.heap.size 9 cy/\cl w' w.heap.size 10 0/\cl w' (w.heap.size+1) 2 cx/\cl w' (w.heap.size+1) 3 cy) (by kernel_rfl) K0 (fun hH=>?_)
 refine (show wpAnyH Tryz.prog Region.Mode.any _ _ _ 22 (Array.replicate 22 false) _ _ from ?_)
 iterate 20 (refine tn 22 hH ?_;try simp only [Act.put,Z])
 refine wpAnyH_ready (rs:=[20]) (by kernel_rfl) (by simp) ?_
 refine AllReadyH.cons (by simp only [G];rfl) (fun K hK=>?_) AllReadyH.nil
 go_simp
 obtain ⟨W5,hW5⟩:∃ W,W=(((((((((((W3.setCell ⟨w.heap.size+1+1,0,none⟩ (.int .i64 uid)).setCell ⟨w.heap.size+1+1,1,none⟩ (.int .i64 uow)).setCell ⟨w.heap.size+1+1,2,none⟩ (.int .i64 1)).setCell ⟨w.heap.size+1+1,3,none⟩ (.int .i64 ux)).setCell ⟨w.heap.size+1+1,4,none⟩ (.int .i64 uy)).setCell ⟨w.heap.size+1+1,5,none⟩ (.int .i64 uli)).setCell ⟨w.heap.size+1+1,6,none⟩ (.int .i64 ulo)).setCell ⟨w.heap.size+1+1,7,none⟩ (.int .i64 1)).setCell ⟨w.heap.size+1+1,8,none⟩ (.int .i64 cx)).setCell ⟨w.heap.size+1+1,9,none⟩ (.int .i64 cy)).setCell ⟨w.heap.size+1+1,10,none⟩ (.int .i64 0)).drew:=⟨_,rfl⟩
 have hfr:Fr [w.heap.size+1+1] W3 W5:=by rw [hW5];refine Fr.drew ?_;(iterate 11 refine Fr.setCell ?_ _ _ (Or.inl (by simp)));exact Fr.refl _ _
 have h11:W5.heap[w.heap.size+1+1]?=some (.cells (⟨uid,uow,1,ux,uy,uli,ulo,1,cx,cy,0⟩:U).arr 85):=by rw [hW5,qx4];exact set11 (z:=zeroU) (v:=⟨uid,uow,1,ux,uy,uli,ulo,1,cx,cy,0⟩) hR
 rw [<- hW5]
 clear hW5
 have hS2:=HS _ hfr
 refine hK.out _ _ hS2 (fun hH2=>?_)
 clear hK K;try simp only [Act.put,Z]
 refine ta 21 hH2 ?_;try simp only [Act.put,Z]
 refine wpAnyH_done (by kernel_rfl) ?_ _
 go_wp2_with fail
 exact bodyPost_ret (v:=.tuple #[(⟨uid,uow,1,ux,uy,uli,ulo,1,cx,cy,0⟩:U).val,.bool false]) (qq3 Tryz.results178 _ _ (w.heap.size+1+1) 85 _ (0,0) _ _ rfl rfl h11 Tryz.underlying85 rfl qq5) rfl ⟨rfl,hf3.trans hfr (by simp;omega)⟩
theorem qzq1 (gb:Nat)(cu cx cy ct uid uow ux uy uli ulo uwh utx uty uta:Int)(w:World)(hon:onB cx cy=false) :
  Calls Tryz.prog 178 #[.pointer (some ⟨gb,0,none⟩),(⟨uid,uow,2,ux,uy,uli,ulo,uwh,utx,uty,uta⟩:U).val,(⟨cu,1,cx,cy,ct⟩:Cm).val] w fun e w'=>e=.returned (.tuple #[(⟨uid,uow,2,ux,uy,uli,ulo,1,cx,cy,0⟩:U).val,.bool false])/\Fr [] w w':=by
 go_enter Tryz.func178,Tryz.ntmps178
 go_wp2_with (first|(go_at_call 185;refine (qx1 _ _ _).mono ?_;rintro e w1 ⟨rfl,rfl⟩))
 obtain ⟨W3,hW3⟩:∃ W,W=((w.alloc (.cells #[ii uid,ii uow,ii 2,ii ux,ii uy,ii uli,ii ulo,ii 1,ii cx,ii cy,ii 0] 85)).alloc (.cells #[ii cu,ii 1,ii cx,ii cy,ii ct] 81)).alloc (.cells #[ii 0,ii 0,ii 0,ii 0,ii 0,ii 0,ii 0,ii 0,ii 0,ii 0,ii 0] 85):=⟨_,rfl⟩
 rw [<- hW3]
 have hf3:Fr [] w W3:=by rw [hW3];exact (((Fr.refl _ _).alloc _).alloc _).alloc _
 have hU:W3.heap[w.heap.size]?=some (.cells #[ii uid,ii uow,ii 2,ii ux,ii uy,ii uli,ii ulo,ii 1,ii cx,ii cy,ii 0] 85):=by rw [hW3,qz7 _ _ _ (by simp;omega),qz8]
 have hC:W3.heap[w.heap.size+1]?=some (.cells #[ii cu,ii 1,ii cx,ii cy,ii ct] 81):=by rw [hW3,qz7 _ _ _ (by simp),qz4]
 have hR:W3.heap[w.heap.size+1+1]?=some (.cells #[ii 0,ii 0,ii 0,ii 0,ii 0,ii 0,ii 0,ii 0,ii 0,ii 0,ii 0] 85):=by rw [hW3,qk1]
 clear hW3
 have HS:∀ w',Fr [w.heap.size+1+1] W3 w'->(fun w':World=>cl w' w.heap.size 0 uid/\cl w' w.heap.size 1 uow/\cl w' w.heap.size 2 2/\cl w' w.heap.size 3 ux/\cl w' w.heap.size 4 uy/\cl w' w.heap.size 5 uli/\cl w' w.heap.size 6 ulo/\cl w' w.heap.size 7 1/\cl w' w.heap.size 8 cx/\cl w' w.heap.size 9 cy/\cl w' w.heap.size 10 0/\cl w' (w.heap.size+1) 2 cx/\cl w' (w.heap.size+1) 3 cy) w':=fun w' hf=>by
  have hu:=hf.heap hU (by simp;omega)
  have hc:=hf.heap hC (by simp;try omega)
  exact ⟨j9 hu,j9 hu,j9 hu,j9 hu,j9 hu,j9 hu,j9 hu,j9 hu,j9 hu,j9 hu,j9 hu,j9 hc,j9 hc⟩
 have KF:Fr [w.heap.size+1+1] W3 W3.drew:=(Fr.refl _ _).drew
 have K0:=HS _ KF
 have hrc:∀ j,W3.cell? ⟨w.heap.size+1+1,j,none⟩=#[ii 0,ii 0,ii 0,ii 0,ii 0,ii 0,ii 0,ii 0,ii 0,ii 0,ii 0][j]?:=fun j=>j9 hR
 have hrf:∀ j,W3.frozen? ⟨w.heap.size+1+1,j,none⟩=false:=fun j=>qq0 hR
 clear hU hC
 refine wp_region_held_drew (S:=fun w':World=>cl w' w.heap.size 0 uid/\cl w' w.heap.size 1 uow/\cl w' w.heap.size 2 2/\cl w' w.heap.size 3 ux/\cl w' w.heap.size 4 uy/\cl w' w.heap.size 5 uli/\cl w' w.heap.size 6 ulo/\cl w' w.heap.size 7 1/\cl w' w.heap.size 8 cx/\cl w' w.heap.size 9 cy/\cl w' w.heap.size 10 0/\cl w' (w.heap.size+1) 2 cx/\cl w' (w.heap.size+1) 3 cy) (by kernel_rfl) K0 (fun hH=>?_)
 refine (show wpAnyH Tryz.prog Region.Mode.any _ _ _ 22 (Array.replicate 22 false) _ _ from ?_)
 iterate 20 (refine tn 22 hH ?_;try simp only [Act.put,Z])
 refine wpAnyH_ready (rs:=[20]) (by kernel_rfl) (by simp) ?_
 refine AllReadyH.cons (by simp only [G];rfl) (fun K hK=>?_) AllReadyH.nil
 go_simp
 obtain ⟨W5,hW5⟩:∃ W,W=(((((((((((W3.setCell ⟨w.heap.size+1+1,0,none⟩ (.int .i64 uid)).setCell ⟨w.heap.size+1+1,1,none⟩ (.int .i64 uow)).setCell ⟨w.heap.size+1+1,2,none⟩ (.int .i64 2)).setCell ⟨w.heap.size+1+1,3,none⟩ (.int .i64 ux)).setCell ⟨w.heap.size+1+1,4,none⟩ (.int .i64 uy)).setCell ⟨w.heap.size+1+1,5,none⟩ (.int .i64 uli)).setCell ⟨w.heap.size+1+1,6,none⟩ (.int .i64 ulo)).setCell ⟨w.heap.size+1+1,7,none⟩ (.int .i64 1)).setCell ⟨w.heap.size+1+1,8,none⟩ (.int .i64 cx)).setCell ⟨w.heap.size+1+1,9,none⟩ (.int .i64 cy)).setCell ⟨w.heap.size+1+1,10,none⟩ (.int .i64 0)).drew:=⟨_,rfl⟩
 have hfr:Fr [w.heap.size+1+1] W3 W5:=by rw [hW5];refine Fr.drew ?_;(iterate 11 refine Fr.setCell ?_ _ _ (Or.inl (by simp)));exact Fr.refl _ _
 have h11:W5.heap[w.heap.size+1+1]?=some (.cells (⟨uid,uow,2,ux,uy,uli,ulo,1,cx,cy,0⟩:U).arr 85):=by rw [hW5,qx4];exact set11 (z:=zeroU) (v:=⟨uid,uow,2,ux,uy,uli,ulo,1,cx,cy,0⟩) hR
 rw [<- hW5]
 clear hW5
 have hS2:=HS _ hfr
 refine hK.out _ _ hS2 (fun hH2=>?_)
 clear hK K;try simp only [Act.put,Z]
 refine ta 21 hH2 ?_;try simp only [Act.put,Z]
 refine wpAnyH_done (by kernel_rfl) ?_ _
 go_wp2_with fail
 exact bodyPost_ret (v:=.tuple #[(⟨uid,uow,2,ux,uy,uli,ulo,1,cx,cy,0⟩:U).val,.bool false]) (qq3 Tryz.results178 _ _ (w.heap.size+1+1) 85 _ (0,0) _ _ rfl rfl h11 Tryz.underlying85 rfl qq5) rfl ⟨rfl,hf3.trans hfr (by simp;omega)⟩
theorem qzq2 (gb pb cap:Nat)(t:T)(cu cx cy ct uid uow ux uy uli ulo uwh utx uty uta:Int)(w:World)(h:RG w gb pb cap t)(hon:onB cx cy=true)(v:Int)(hv:t.bd (ci cx cy)=v) :
  Calls Tryz.prog 178 #[.pointer (some ⟨gb,0,none⟩),(⟨uid,uow,2,ux,uy,uli,ulo,uwh,utx,uty,uta⟩:U).val,(⟨cu,1,cx,cy,ct⟩:Cm).val] w fun e w'=>e=.returned (.tuple #[(⟨uid,uow,2,ux,uy,uli,ulo,1,cx,cy,0⟩:U).val,.bool (v != 10)])/\Fr [] w w':=by
 go_enter Tryz.func178,Tryz.ntmps178
 go_wp2_with (first|(go_at_call 185;refine (qx1 _ _ _).mono ?_;rintro e w1 ⟨rfl,rfl⟩))
 obtain ⟨W3,hW3⟩:∃ W,W=((w.alloc (.cells #[ii uid,ii uow,ii 2,ii ux,ii uy,ii uli,ii ulo,ii 1,ii cx,ii cy,ii 0] 85)).alloc (.cells #[ii cu,ii 1,ii cx,ii cy,ii ct] 81)).alloc (.cells #[ii 0,ii 0,ii 0,ii 0,ii 0,ii 0,ii 0,ii 0,ii 0,ii 0,ii 0] 85):=⟨_,rfl⟩
 rw [<- hW3]
 have hf3:Fr [] w W3:=by rw [hW3];exact (((Fr.refl _ _).alloc _).alloc _).alloc _
 have hU:W3.heap[w.heap.size]?=some (.cells #[ii uid,ii uow,ii 2,ii ux,ii uy,ii uli,ii ulo,ii 1,ii cx,ii cy,ii 0] 85):=by rw [hW3,qz7 _ _ _ (by simp;omega),qz8]
 have hC:W3.heap[w.heap.size+1]?=some (.cells #[ii cu,ii 1,ii cx,ii cy,ii ct] 81):=by rw [hW3,qz7 _ _ _ (by simp),qz4]
 have hR:W3.heap[w.heap.size+1+1]?=some (.cells #[ii 0,ii 0,ii 0,ii 0,ii 0,ii 0,ii 0,ii 0,ii 0,ii 0,ii 0] 85):=by rw [hW3,qk1]
 clear hW3
 obtain ⟨p0,p1,p2,p3⟩:=qz3.1 hon
 have hbd:∀ w',Fr [w.heap.size+1+1] W3 w'->w'.cell? ⟨gb,1+cy.toNat*12+cx.toNat,none⟩=some (ii v):=fun w' hf=>by
  have hg:=(h.fr0 hf3).fr hf (by have:=h.lt;simp;omega) (by have:=h.pl;simp;omega)
  have:=hg.bd (zz0 hon)
  rwa [show 1+ci cx cy=1+cy.toNat*12+cx.toNat by unfold ci;omega,hv] at this
 have HS:∀ w',Fr [w.heap.size+1+1] W3 w'->(fun w':World=>cl w' w.heap.size 0 uid/\cl w' w.heap.size 1 uow/\cl w' w.heap.size 2 2/\cl w' w.heap.size 3 ux/\cl w' w.heap.size 4 uy/\cl w' w.heap.size 5 uli/\cl w' w.heap.size 6 ulo/\cl w' w.heap.size 7 1/\cl w' w.heap.size 8 cx/\cl w' w.heap.size 9 cy/\cl w' w.heap.size 10 0/\cl w' (w.heap.size+1) 2 cx/\cl w' (w.heap.size+1) 3 cy/\w'.cell? ⟨gb,1+cy.toNat*12+cx.toNat,none⟩=some (ii v)) w':=fun w' hf=>by
  have hu:=hf.heap hU (by simp;omega)
  have hc:=hf.heap hC (by simp;try omega)
  exact ⟨j9 hu,j9 hu,j9 hu,j9 hu,j9 hu,j9 hu,j9 hu,j9 hu,j9 hu,j9 hu,j9 hu,j9 hc,j9 hc,hbd w' hf⟩
 have KF:Fr [w.heap.size+1+1] W3 W3.drew:=(Fr.refl _ _).drew
 have K0:=HS _ KF
 have hrc:∀ j,W3.cell? ⟨w.heap.size+1+1,j,none⟩=#[ii 0,ii 0,ii 0,ii 0,ii 0,ii 0,ii 0,ii 0,ii 0,ii 0,ii 0][j]?:=fun j=>j9 hR
 have hrf:∀ j,W3.frozen? ⟨w.heap.size+1+1,j,none⟩=false:=fun j=>qq0 hR
 clear hU hC
 refine wp_region_held_drew (S:=fun w':World=>cl w' w.heap.size 0 uid/\cl w' w.heap.size 1 uow/\cl w' w.heap.size 2 2/\cl w' w.heap.size 3 ux/\cl w' w.heap.size 4 uy/\cl w' w.heap.size 5 uli/\cl w' w.heap.size 6 ulo/\cl w' w.heap.size 7 1/\cl w' w.heap.size 8 cx/\cl w' w.heap.size 9 cy/\cl w' w.heap.size 10 0/\cl w' (w.heap.size+1) 2 cx/\cl w' (w.heap.size+1) 3 cy/\w'.cell? ⟨gb,1+cy.toNat*12+cx.toNat,none⟩=some (ii v)) (by kernel_rfl) K0 (fun hH=>?_)
 refine (show wpAnyH Tryz.prog Region.Mode.any _ _ _ 22 (Array.replicate 22 false) _ _ from ?_)
 iterate 20 (refine tn 22 hH ?_;try simp only [Act.put,Z])
 refine wpAnyH_ready (rs:=[20]) (by kernel_rfl) (by simp) ?_
 refine AllReadyH.cons (by simp only [G];rfl) (fun K hK=>?_) AllReadyH.nil
 go_simp
 obtain ⟨W5,hW5⟩:∃ W,W=(((((((((((W3.setCell ⟨w.heap.size+1+1,0,none⟩ (.int .i64 uid)).setCell ⟨w.heap.size+1+1,1,none⟩ (.int .i64 uow)).setCell ⟨w.heap.size+1+1,2,none⟩ (.int .i64 2)).setCell ⟨w.heap.size+1+1,3,none⟩ (.int .i64 ux)).setCell ⟨w.heap.size+1+1,4,none⟩ (.int .i64 uy)).setCell ⟨w.heap.size+1+1,5,none⟩ (.int .i64 uli)).setCell ⟨w.heap.size+1+1,6,none⟩ (.int .i64 ulo)).setCell ⟨w.heap.size+1+1,7,none⟩ (.int .i64 1)).setCell ⟨w.heap.size+1+1,8,none⟩ (.int .i64 cx)).setCell ⟨w.heap.size+1+1,9,none⟩ (.int .i64 cy)).setCell ⟨w.heap.size+1+1,10,none⟩ (.int .i64 0)).drew:=⟨_,rfl⟩
 have hfr:Fr [w.heap.size+1+1] W3 W5:=by rw [hW5];refine Fr.drew ?_;(iterate 11 refine Fr.setCell ?_ _ _ (Or.inl (by simp)));exact Fr.refl _ _
 have h11:W5.heap[w.heap.size+1+1]?=some (.cells (⟨uid,uow,2,ux,uy,uli,ulo,1,cx,cy,0⟩:U).arr 85):=by rw [hW5,qx4];exact set11 (z:=zeroU) (v:=⟨uid,uow,2,ux,uy,uli,ulo,1,cx,cy,0⟩) hR
 rw [<- hW5]
 clear hW5
 have hS2:=HS _ hfr
 refine hK.out _ _ hS2 (fun hH2=>?_)
 clear hK K;try simp only [Act.put,Z]
 refine ta 21 hH2 ?_;try simp only [Act.put,Z]
 refine wpAnyH_done (by kernel_rfl) ?_ _
 go_wp2_with fail
 exact bodyPost_ret (v:=.tuple #[(⟨uid,uow,2,ux,uy,uli,ulo,1,cx,cy,0⟩:U).val,.bool (v != 10)]) (qq3 Tryz.results178 _ _ (w.heap.size+1+1) 85 _ (0,0) _ _ rfl rfl h11 Tryz.underlying85 rfl qq5) rfl ⟨rfl,hf3.trans hfr (by simp;omega)⟩
theorem qzq3 (gb:Nat)(cu cx cy ct uid uow ux uy uli ulo uwh utx uty uta:Int)(w:World)(hon:onB cx cy=false) :
  Calls Tryz.prog 178 #[.pointer (some ⟨gb,0,none⟩),(⟨uid,uow,3,ux,uy,uli,ulo,uwh,utx,uty,uta⟩:U).val,(⟨cu,1,cx,cy,ct⟩:Cm).val] w fun e w'=>e=.returned (.tuple #[(⟨uid,uow,3,ux,uy,uli,ulo,1,cx,cy,0⟩:U).val,.bool false])/\Fr [] w w':=by
 go_enter Tryz.func178,Tryz.ntmps178
 go_wp2_with (first|(go_at_call 185;refine (qx1 _ _ _).mono ?_;rintro e w1 ⟨rfl,rfl⟩))
 obtain ⟨W3,hW3⟩:∃ W,W=((w.alloc (.cells #[ii uid,ii uow,ii 3,ii ux,ii uy,ii uli,ii ulo,ii 1,ii cx,ii cy,ii 0] 85)).alloc (.cells #[ii cu,ii 1,ii cx,ii cy,ii ct] 81)).alloc (.cells #[ii 0,ii 0,ii 0,ii 0,ii 0,ii 0,ii 0,ii 0,ii 0,ii 0,ii 0] 85):=⟨_,rfl⟩
 rw [<- hW3]
 have hf3:Fr [] w W3:=by rw [hW3];exact (((Fr.refl _ _).alloc _).alloc _).alloc _
 have hU:W3.heap[w.heap.size]?=some (.cells #[ii uid,ii uow,ii 3,ii ux,ii uy,ii uli,ii ulo,ii 1,ii cx,ii cy,ii 0] 85):=by rw [hW3,qz7 _ _ _ (by simp;omega),qz8]
 have hC:W3.heap[w.heap.size+1]?=some (.cells #[ii cu,ii 1,ii cx,ii cy,ii ct] 81):=by rw [hW3,qz7 _ _ _ (by simp),qz4]
 have hR:W3.heap[w.heap.size+1+1]?=some (.cells #[ii 0,ii 0,ii 0,ii 0,ii 0,ii 0,ii 0,ii 0,ii 0,ii 0,ii 0] 85):=by rw [hW3,qk1]
 clear hW3
 have HS:∀ w',Fr [w.heap.size+1+1] W3 w'->(fun w':World=>cl w' w.heap.size 0 uid/\cl w' w.heap.size 1 uow/\cl w' w.heap.size 2 3/\cl w' w.heap.size 3 ux/\cl w' w.heap.size 4 uy/\cl w' w.heap.size 5 uli/\cl w' w.heap.size 6 ulo/\cl w' w.heap.size 7 1/\cl w' w.heap.size 8 cx/\cl w' w.heap.size 9 cy/\cl w' w.heap.size 10 0/\cl w' (w.heap.size+1) 2 cx/\cl w' (w.heap.size+1) 3 cy) w':=fun w' hf=>by
  have hu:=hf.heap hU (by simp;omega)
  have hc:=hf.heap hC (by simp;try omega)
  exact ⟨j9 hu,j9 hu,j9 hu,j9 hu,j9 hu,j9 hu,j9 hu,j9 hu,j9 hu,j9 hu,j9 hu,j9 hc,j9 hc⟩
 have KF:Fr [w.heap.size+1+1] W3 W3.drew:=(Fr.refl _ _).drew
 have K0:=HS _ KF
 have hrc:∀ j,W3.cell? ⟨w.heap.size+1+1,j,none⟩=#[ii 0,ii 0,ii 0,ii 0,ii 0,ii 0,ii 0,ii 0,ii 0,ii 0,ii 0][j]?:=fun j=>j9 hR
 have hrf:∀ j,W3.frozen? ⟨w.heap.size+1+1,j,none⟩=false:=fun j=>qq0 hR
 clear hU hC
 refine wp_region_held_drew (S:=fun w':World=>cl w' w.heap.size 0 uid/\cl w' w.heap.size 1 uow/\cl w' w.heap.size 2 3/\cl w' w.heap.size 3 ux/\cl w' w.heap.size 4 uy/\cl w' w.heap.size 5 uli/\cl w' w.heap.size 6 ulo/\cl w' w.heap.size 7 1/\cl w' w.heap.size 8 cx/\cl w' w.heap.size 9 cy/\cl w' w.heap.size 10 0/\cl w' (w.heap.size+1) 2 cx/\cl w' (w.heap.size+1) 3 cy) (by kernel_rfl) K0 (fun hH=>?_)
 refine (show wpAnyH Tryz.prog Region.Mode.any _ _ _ 22 (Array.replicate 22 false) _ _ from ?_)
 iterate 20 (refine tn 22 hH ?_;try simp only [Act.put,Z])
 refine wpAnyH_ready (rs:=[20]) (by kernel_rfl) (by simp) ?_
 refine AllReadyH.cons (by simp only [G];rfl) (fun K hK=>?_) AllReadyH.nil
 go_simp
 obtain ⟨W5,hW5⟩:∃ W,W=(((((((((((W3.setCell ⟨w.heap.size+1+1,0,none⟩ (.int .i64 uid)).setCell ⟨w.heap.size+1+1,1,none⟩ (.int .i64 uow)).setCell ⟨w.heap.size+1+1,2,none⟩ (.int .i64 3)).setCell ⟨w.heap.size+1+1,3,none⟩ (.int .i64 ux)).setCell ⟨w.heap.size+1+1,4,none⟩ (.int .i64 uy)).setCell ⟨w.heap.size+1+1,5,none⟩ (.int .i64 uli)).setCell ⟨w.heap.size+1+1,6,none⟩ (.int .i64 ulo)).setCell ⟨w.heap.size+1+1,7,none⟩ (.int .i64 1)).setCell ⟨w.heap.size+1+1,8,none⟩ (.int .i64 cx)).setCell ⟨w.heap.size+1+1,9,none⟩ (.int .i64 cy)).setCell ⟨w.heap.size+1+1,10,none⟩ (.int .i64 0)).drew:=⟨_,rfl⟩
 have hfr:Fr [w.heap.size+1+1] W3 W5:=by rw [hW5];refine Fr.drew ?_;(iterate 11 refine Fr.setCell ?_ _ _ (Or.inl (by simp)));exact Fr.refl _ _
 have h11:W5.heap[w.heap.size+1+1]?=some (.cells (⟨uid,uow,3,ux,uy,uli,ulo,1,cx,cy,0⟩:U).arr 85):=by rw [hW5,qx4];exact set11 (z:=zeroU) (v:=⟨uid,uow,3,ux,uy,uli,ulo,1,cx,cy,0⟩) hR
 rw [<- hW5]
 clear hW5
 have hS2:=HS _ hfr
 refine hK.out _ _ hS2 (fun hH2=>?_)
 clear hK K;try simp only [Act.put,Z]
 refine ta 21 hH2 ?_;try simp only [Act.put,Z]
 refine wpAnyH_done (by kernel_rfl) ?_ _
 go_wp2_with fail
 exact bodyPost_ret (v:=.tuple #[(⟨uid,uow,3,ux,uy,uli,ulo,1,cx,cy,0⟩:U).val,.bool false]) (qq3 Tryz.results178 _ _ (w.heap.size+1+1) 85 _ (0,0) _ _ rfl rfl h11 Tryz.underlying85 rfl qq5) rfl ⟨rfl,hf3.trans hfr (by simp;omega)⟩
theorem qzq4 (gb pb cap:Nat)(t:T)(cu cx cy ct uid uow ux uy uli ulo uwh utx uty uta:Int)(w:World)(h:RG w gb pb cap t)(hon:onB cx cy=true)(v:Int)(hv:t.bd (ci cx cy)=v) :
  Calls Tryz.prog 178 #[.pointer (some ⟨gb,0,none⟩),(⟨uid,uow,3,ux,uy,uli,ulo,uwh,utx,uty,uta⟩:U).val,(⟨cu,1,cx,cy,ct⟩:Cm).val] w fun e w'=>e=.returned (.tuple #[(⟨uid,uow,3,ux,uy,uli,ulo,1,cx,cy,0⟩:U).val,.bool (v != 10)])/\Fr [] w w':=by
 go_enter Tryz.func178,Tryz.ntmps178
 go_wp2_with (first|(go_at_call 185;refine (qx1 _ _ _).mono ?_;rintro e w1 ⟨rfl,rfl⟩))
 obtain ⟨W3,hW3⟩:∃ W,W=((w.alloc (.cells #[ii uid,ii uow,ii 3,ii ux,ii uy,ii uli,ii ulo,ii 1,ii cx,ii cy,ii 0] 85)).alloc (.cells #[ii cu,ii 1,ii cx,ii cy,ii ct] 81)).alloc (.cells #[ii 0,ii 0,ii 0,ii 0,ii 0,ii 0,ii 0,ii 0,ii 0,ii 0,ii 0] 85):=⟨_,rfl⟩
 rw [<- hW3]
 have hf3:Fr [] w W3:=by rw [hW3];exact (((Fr.refl _ _).alloc _).alloc _).alloc _
 have hU:W3.heap[w.heap.size]?=some (.cells #[ii uid,ii uow,ii 3,ii ux,ii uy,ii uli,ii ulo,ii 1,ii cx,ii cy,ii 0] 85):=by rw [hW3,qz7 _ _ _ (by simp;omega),qz8]
 have hC:W3.heap[w.heap.size+1]?=some (.cells #[ii cu,ii 1,ii cx,ii cy,ii ct] 81):=by rw [hW3,qz7 _ _ _ (by simp),qz4]
 have hR:W3.heap[w.heap.size+1+1]?=some (.cells #[ii 0,ii 0,ii 0,ii 0,ii 0,ii 0,ii 0,ii 0,ii 0,ii 0,ii 0] 85):=by rw [hW3,qk1]
 clear hW3
 obtain ⟨p0,p1,p2,p3⟩:=qz3.1 hon
 have hbd:∀ w',Fr [w.heap.size+1+1] W3 w'->w'.cell? ⟨gb,1+cy.toNat*12+cx.toNat,none⟩=some (ii v):=fun w' hf=>by
  have hg:=(h.fr0 hf3).fr hf (by have:=h.lt;simp;omega) (by have:=h.pl;simp;omega)
  have:=hg.bd (zz0 hon)
  rwa [show 1+ci cx cy=1+cy.toNat*12+cx.toNat by unfold ci;omega,hv] at this
 have HS:∀ w',Fr [w.heap.size+1+1] W3 w'->(fun w':World=>cl w' w.heap.size 0 uid/\cl w' w.heap.size 1 uow/\cl w' w.heap.size 2 3/\cl w' w.heap.size 3 ux/\cl w' w.heap.size 4 uy/\cl w' w.heap.size 5 uli/\cl w' w.heap.size 6 ulo/\cl w' w.heap.size 7 1/\cl w' w.heap.size 8 cx/\cl w' w.heap.size 9 cy/\cl w' w.heap.size 10 0/\cl w' (w.heap.size+1) 2 cx/\cl w' (w.heap.size+1) 3 cy/\w'.cell? ⟨gb,1+cy.toNat*12+cx.toNat,none⟩=some (ii v)) w':=fun w' hf=>by
  have hu:=hf.heap hU (by simp;omega)
  have hc:=hf.heap hC (by simp;try omega)
  exact ⟨j9 hu,j9 hu,j9 hu,j9 hu,j9 hu,j9 hu,j9 hu,j9 hu,j9 hu,j9 hu,j9 hu,j9 hc,j9 hc,hbd w' hf⟩
 have KF:Fr [w.heap.size+1+1] W3 W3.drew:=(Fr.refl _ _).drew
 have K0:=HS _ KF
 have hrc:∀ j,W3.cell? ⟨w.heap.size+1+1,j,none⟩=#[ii 0,ii 0,ii 0,ii 0,ii 0,ii 0,ii 0,ii 0,ii 0,ii 0,ii 0][j]?:=fun j=>j9 hR
 have hrf:∀ j,W3.frozen? ⟨w.heap.size+1+1,j,none⟩=false:=fun j=>qq0 hR
 clear hU hC
 refine wp_region_held_drew (S:=fun w':World=>cl w' w.heap.size 0 uid/\cl w' w.heap.size 1 uow/\cl w' w.heap.size 2 3/\cl w' w.heap.size 3 ux/\cl w' w.heap.size 4 uy/\cl w' w.heap.size 5 uli/\cl w' w.heap.size 6 ulo/\cl w' w.heap.size 7 1/\cl w' w.heap.size 8 cx/\cl w' w.heap.size 9 cy/\cl w' w.heap.size 10 0/\cl w' (w.heap.size+1) 2 cx/\cl w' (w.heap.size+1) 3 cy/\w'.cell? ⟨gb,1+cy.toNat*12+cx.toNat,none⟩=some (ii v)) (by kernel_rfl) K0 (fun hH=>?_)
 refine (show wpAnyH Tryz.prog Region.Mode.any _ _ _ 22 (Array.replicate 22 false) _ _ from ?_)
 iterate 20 (refine tn 22 hH ?_;try simp only [Act.put,Z])
 refine wpAnyH_ready (rs:=[20]) (by kernel_rfl) (by simp) ?_
 refine AllReadyH.cons (by simp only [G];rfl) (fun K hK=>?_) AllReadyH.nil
 go_simp
 obtain ⟨W5,hW5⟩:∃ W,W=(((((((((((W3.setCell ⟨w.heap.size+1+1,0,none⟩ (.int .i64 uid)).setCell ⟨w.heap.size+1+1,1,none⟩ (.int .i64 uow)).setCell ⟨w.heap.size+1+1,2,none⟩ (.int .i64 3)).setCell ⟨w.heap.size+1+1,3,none⟩ (.int .i64 ux)).setCell ⟨w.heap.size+1+1,4,none⟩ (.int .i64 uy)).setCell ⟨w.heap.size+1+1,5,none⟩ (.int .i64 uli)).setCell ⟨w.heap.size+1+1,6,none⟩ (.int .i64 ulo)).setCell ⟨w.heap.size+1+1,7,none⟩ (.int .i64 1)).setCell ⟨w.heap.size+1+1,8,none⟩ (.int .i64 cx)).setCell ⟨w.heap.size+1+1,9,none⟩ (.int .i64 cy)).setCell ⟨w.heap.size+1+1,10,none⟩ (.int .i64 0)).drew:=⟨_,rfl⟩
 have hfr:Fr [w.heap.size+1+1] W3 W5:=by rw [hW5];refine Fr.drew ?_;(iterate 11 refine Fr.setCell ?_ _ _ (Or.inl (by simp)));exact Fr.refl _ _
 have h11:W5.heap[w.heap.size+1+1]?=some (.cells (⟨uid,uow,3,ux,uy,uli,ulo,1,cx,cy,0⟩:U).arr 85):=by rw [hW5,qx4];exact set11 (z:=zeroU) (v:=⟨uid,uow,3,ux,uy,uli,ulo,1,cx,cy,0⟩) hR
 rw [<- hW5]
 clear hW5
 have hS2:=HS _ hfr
 refine hK.out _ _ hS2 (fun hH2=>?_)
 clear hK K;try simp only [Act.put,Z]
 refine ta 21 hH2 ?_;try simp only [Act.put,Z]
 refine wpAnyH_done (by kernel_rfl) ?_ _
 go_wp2_with fail
 exact bodyPost_ret (v:=.tuple #[(⟨uid,uow,3,ux,uy,uli,ulo,1,cx,cy,0⟩:U).val,.bool (v != 10)]) (qq3 Tryz.results178 _ _ (w.heap.size+1+1) 85 _ (0,0) _ _ rfl rfl h11 Tryz.underlying85 rfl qq5) rfl ⟨rfl,hf3.trans hfr (by simp;omega)⟩
theorem qjx5 (gb:Nat)(cu cx cy ct uid uow ux uy uli ulo uwh utx uty uta:Int)(w:World) :
  Calls Tryz.prog 178 #[.pointer (some ⟨gb,0,none⟩),(⟨uid,uow,2,ux,uy,uli,ulo,uwh,utx,uty,uta⟩:U).val,(⟨cu,4,cx,cy,ct⟩:Cm).val] w fun e w'=>e=.returned (.tuple #[(⟨uid,uow,2,ux,uy,uli,ulo,4,cx,0,0⟩:U).val,.bool false])/\Fr [] w w':=by
 go_enter Tryz.func178,Tryz.ntmps178
 go_wp2_with (first|(go_at_call 185;refine (qx1 _ _ _).mono ?_;rintro e w1 ⟨rfl,rfl⟩))
 obtain ⟨W3,hW3⟩:∃ W,W=((w.alloc (.cells #[ii uid,ii uow,ii 2,ii ux,ii uy,ii uli,ii ulo,ii 4,ii cx,ii 0,ii 0] 85)).alloc (.cells #[ii cu,ii 4,ii cx,ii cy,ii ct] 81)).alloc (.cells #[ii 0,ii 0,ii 0,ii 0,ii 0,ii 0,ii 0,ii 0,ii 0,ii 0,ii 0] 85):=⟨_,rfl⟩
 rw [<- hW3]
 have hf3:Fr [] w W3:=by rw [hW3];exact (((Fr.refl _ _).alloc _).alloc _).alloc _
 have hU:W3.heap[w.heap.size]?=some (.cells #[ii uid,ii uow,ii 2,ii ux,ii uy,ii uli,ii ulo,ii 4,ii cx,ii 0,ii 0] 85):=by rw [hW3,qz7 _ _ _ (by simp;omega),qz8]
 have hC:W3.heap[w.heap.size+1]?=some (.cells #[ii cu,ii 4,ii cx,ii cy,ii ct] 81):=by rw [hW3,qz7 _ _ _ (by simp),qz4]
 have hR:W3.heap[w.heap.size+1+1]?=some (.cells #[ii 0,ii 0,ii 0,ii 0,ii 0,ii 0,ii 0,ii 0,ii 0,ii 0,ii 0] 85):=by rw [hW3,qk1]
 clear hW3
 have HS:∀ w',Fr [w.heap.size+1+1] W3 w'->(fun w':World=>cl w' w.heap.size 0 uid/\cl w' w.heap.size 1 uow/\cl w' w.heap.size 2 2/\cl w' w.heap.size 3 ux/\cl w' w.heap.size 4 uy/\cl w' w.heap.size 5 uli/\cl w' w.heap.size 6 ulo/\cl w' w.heap.size 7 4/\cl w' w.heap.size 8 cx/\cl w' w.heap.size 9 0/\cl w' w.heap.size 10 0/\cl w' (w.heap.size+1) 2 cx/\cl w' (w.heap.size+1) 3 cy) w':=fun w' hf=>by
  have hu:=hf.heap hU (by simp;omega)
  have hc:=hf.heap hC (by simp;try omega)
  exact ⟨j9 hu,j9 hu,j9 hu,j9 hu,j9 hu,j9 hu,j9 hu,j9 hu,j9 hu,j9 hu,j9 hu,j9 hc,j9 hc⟩
 have KF:Fr [w.heap.size+1+1] W3 W3.drew:=(Fr.refl _ _).drew
 have K0:=HS _ KF
 have hrc:∀ j,W3.cell? ⟨w.heap.size+1+1,j,none⟩=#[ii 0,ii 0,ii 0,ii 0,ii 0,ii 0,ii 0,ii 0,ii 0,ii 0,ii 0][j]?:=fun j=>j9 hR
 have hrf:∀ j,W3.frozen? ⟨w.heap.size+1+1,j,none⟩=false:=fun j=>qq0 hR
 clear hU hC
 refine wp_region_held_drew (S:=fun w':World=>cl w' w.heap.size 0 uid/\cl w' w.heap.size 1 uow/\cl w' w.heap.size 2 2/\cl w' w.heap.size 3 ux/\cl w' w.heap.size 4 uy/\cl w' w.heap.size 5 uli/\cl w' w.heap.size 6 ulo/\cl w' w.heap.size 7 4/\cl w' w.heap.size 8 cx/\cl w' w.heap.size 9 0/\cl w' w.heap.size 10 0/\cl w' (w.heap.size+1) 2 cx/\cl w' (w.heap.size+1) 3 cy) (by kernel_rfl) K0 (fun hH=>?_)
 refine (show wpAnyH Tryz.prog Region.Mode.any _ _ _ 16 (Array.replicate 16 false) _ _ from ?_)
 iterate 14 (refine tn 16 hH ?_;try simp only [Act.put,Z])
 refine wpAnyH_ready (rs:=[14]) (by kernel_rfl) (by simp) ?_
 refine AllReadyH.cons (by simp only [G];rfl) (fun K hK=>?_) AllReadyH.nil
 go_simp
 obtain ⟨W5,hW5⟩:∃ W,W=(((((((((((W3.setCell ⟨w.heap.size+1+1,0,none⟩ (.int .i64 uid)).setCell ⟨w.heap.size+1+1,1,none⟩ (.int .i64 uow)).setCell ⟨w.heap.size+1+1,2,none⟩ (.int .i64 2)).setCell ⟨w.heap.size+1+1,3,none⟩ (.int .i64 ux)).setCell ⟨w.heap.size+1+1,4,none⟩ (.int .i64 uy)).setCell ⟨w.heap.size+1+1,5,none⟩ (.int .i64 uli)).setCell ⟨w.heap.size+1+1,6,none⟩ (.int .i64 ulo)).setCell ⟨w.heap.size+1+1,7,none⟩ (.int .i64 4)).setCell ⟨w.heap.size+1+1,8,none⟩ (.int .i64 cx)).setCell ⟨w.heap.size+1+1,9,none⟩ (.int .i64 0)).setCell ⟨w.heap.size+1+1,10,none⟩ (.int .i64 0)).drew:=⟨_,rfl⟩
 have hfr:Fr [w.heap.size+1+1] W3 W5:=by rw [hW5];refine Fr.drew ?_;(iterate 11 refine Fr.setCell ?_ _ _ (Or.inl (by simp)));exact Fr.refl _ _
 have h11:W5.heap[w.heap.size+1+1]?=some (.cells (⟨uid,uow,2,ux,uy,uli,ulo,4,cx,0,0⟩:U).arr 85):=by rw [hW5,qx4];exact set11 (z:=zeroU) (v:=⟨uid,uow,2,ux,uy,uli,ulo,4,cx,0,0⟩) hR
 rw [<- hW5]
 clear hW5
 have hS2:=HS _ hfr
 refine hK.out _ _ hS2 (fun hH2=>?_)
 clear hK K;try simp only [Act.put,Z]
 refine ta 15 hH2 ?_;try simp only [Act.put,Z]
 refine wpAnyH_done (by kernel_rfl) ?_ _
 go_wp2_with fail
 exact bodyPost_ret (v:=.tuple #[(⟨uid,uow,2,ux,uy,uli,ulo,4,cx,0,0⟩:U).val,.bool false]) (qq3 Tryz.results178 _ _ (w.heap.size+1+1) 85 _ (0,0) _ _ rfl rfl h11 Tryz.underlying85 rfl qq5) rfl ⟨rfl,hf3.trans hfr (by simp;omega)⟩
theorem qjx6 (gb:Nat)(cu cx cy ct uid uow ux uy uli ulo uwh utx uty uta:Int)(w:World) :
  Calls Tryz.prog 178 #[.pointer (some ⟨gb,0,none⟩),(⟨uid,uow,3,ux,uy,uli,ulo,uwh,utx,uty,uta⟩:U).val,(⟨cu,4,cx,cy,ct⟩:Cm).val] w fun e w'=>e=.returned (.tuple #[(⟨uid,uow,3,ux,uy,uli,ulo,4,cx,0,0⟩:U).val,.bool false])/\Fr [] w w':=by
 go_enter Tryz.func178,Tryz.ntmps178
 go_wp2_with (first|(go_at_call 185;refine (qx1 _ _ _).mono ?_;rintro e w1 ⟨rfl,rfl⟩))
 obtain ⟨W3,hW3⟩:∃ W,W=((w.alloc (.cells #[ii uid,ii uow,ii 3,ii ux,ii uy,ii uli,ii ulo,ii 4,ii cx,ii 0,ii 0] 85)).alloc (.cells #[ii cu,ii 4,ii cx,ii cy,ii ct] 81)).alloc (.cells #[ii 0,ii 0,ii 0,ii 0,ii 0,ii 0,ii 0,ii 0,ii 0,ii 0,ii 0] 85):=⟨_,rfl⟩
 rw [<- hW3]
 have hf3:Fr [] w W3:=by rw [hW3];exact (((Fr.refl _ _).alloc _).alloc _).alloc _
 have hU:W3.heap[w.heap.size]?=some (.cells #[ii uid,ii uow,ii 3,ii ux,ii uy,ii uli,ii ulo,ii 4,ii cx,ii 0,ii 0] 85):=by rw [hW3,qz7 _ _ _ (by simp;omega),qz8]
 have hC:W3.heap[w.heap.size+1]?=some (.cells #[ii cu,ii 4,ii cx,ii cy,ii ct] 81):=by rw [hW3,qz7 _ _ _ (by simp),qz4]
 have hR:W3.heap[w.heap.size+1+1]?=some (.cells #[ii 0,ii 0,ii 0,ii 0,ii 0,ii 0,ii 0,ii 0,ii 0,ii 0,ii 0] 85):=by rw [hW3,qk1]
 clear hW3
 have HS:∀ w',Fr [w.heap.size+1+1] W3 w'->(fun w':World=>cl w' w.heap.size 0 uid/\cl w' w.heap.size 1 uow/\cl w' w.heap.size 2 3/\cl w' w.heap.size 3 ux/\cl w' w.heap.size 4 uy/\cl w' w.heap.size 5 uli/\cl w' w.heap.size 6 ulo/\cl w' w.heap.size 7 4/\cl w' w.heap.size 8 cx/\cl w' w.heap.size 9 0/\cl w' w.heap.size 10 0/\cl w' (w.heap.size+1) 2 cx/\cl w' (w.heap.size+1) 3 cy) w':=fun w' hf=>by
  have hu:=hf.heap hU (by simp;omega)
  have hc:=hf.heap hC (by simp;try omega)
  exact ⟨j9 hu,j9 hu,j9 hu,j9 hu,j9 hu,j9 hu,j9 hu,j9 hu,j9 hu,j9 hu,j9 hu,j9 hc,j9 hc⟩
 have KF:Fr [w.heap.size+1+1] W3 W3.drew:=(Fr.refl _ _).drew
 have K0:=HS _ KF
 have hrc:∀ j,W3.cell? ⟨w.heap.size+1+1,j,none⟩=#[ii 0,ii 0,ii 0,ii 0,ii 0,ii 0,ii 0,ii 0,ii 0,ii 0,ii 0][j]?:=fun j=>j9 hR
 have hrf:∀ j,W3.frozen? ⟨w.heap.size+1+1,j,none⟩=false:=fun j=>qq0 hR
 clear hU hC
 refine wp_region_held_drew (S:=fun w':World=>cl w' w.heap.size 0 uid/\cl w' w.heap.size 1 uow/\cl w' w.heap.size 2 3/\cl w' w.heap.size 3 ux/\cl w' w.heap.size 4 uy/\cl w' w.heap.size 5 uli/\cl w' w.heap.size 6 ulo/\cl w' w.heap.size 7 4/\cl w' w.heap.size 8 cx/\cl w' w.heap.size 9 0/\cl w' w.heap.size 10 0/\cl w' (w.heap.size+1) 2 cx/\cl w' (w.heap.size+1) 3 cy) (by kernel_rfl) K0 (fun hH=>?_)
 refine (show wpAnyH Tryz.prog Region.Mode.any _ _ _ 16 (Array.replicate 16 false) _ _ from ?_)
 iterate 14 (refine tn 16 hH ?_;try simp only [Act.put,Z])
 refine wpAnyH_ready (rs:=[14]) (by kernel_rfl) (by simp) ?_
 refine AllReadyH.cons (by simp only [G];rfl) (fun K hK=>?_) AllReadyH.nil
 go_simp
 obtain ⟨W5,hW5⟩:∃ W,W=(((((((((((W3.setCell ⟨w.heap.size+1+1,0,none⟩ (.int .i64 uid)).setCell ⟨w.heap.size+1+1,1,none⟩ (.int .i64 uow)).setCell ⟨w.heap.size+1+1,2,none⟩ (.int .i64 3)).setCell ⟨w.heap.size+1+1,3,none⟩ (.int .i64 ux)).setCell ⟨w.heap.size+1+1,4,none⟩ (.int .i64 uy)).setCell ⟨w.heap.size+1+1,5,none⟩ (.int .i64 uli)).setCell ⟨w.heap.size+1+1,6,none⟩ (.int .i64 ulo)).setCell ⟨w.heap.size+1+1,7,none⟩ (.int .i64 4)).setCell ⟨w.heap.size+1+1,8,none⟩ (.int .i64 cx)).setCell ⟨w.heap.size+1+1,9,none⟩ (.int .i64 0)).setCell ⟨w.heap.size+1+1,10,none⟩ (.int .i64 0)).drew:=⟨_,rfl⟩
 have hfr:Fr [w.heap.size+1+1] W3 W5:=by rw [hW5];refine Fr.drew ?_;(iterate 11 refine Fr.setCell ?_ _ _ (Or.inl (by simp)));exact Fr.refl _ _
 have h11:W5.heap[w.heap.size+1+1]?=some (.cells (⟨uid,uow,3,ux,uy,uli,ulo,4,cx,0,0⟩:U).arr 85):=by rw [hW5,qx4];exact set11 (z:=zeroU) (v:=⟨uid,uow,3,ux,uy,uli,ulo,4,cx,0,0⟩) hR
 rw [<- hW5]
 clear hW5
 have hS2:=HS _ hfr
 refine hK.out _ _ hS2 (fun hH2=>?_)
 clear hK K;try simp only [Act.put,Z]
 refine ta 15 hH2 ?_;try simp only [Act.put,Z]
 refine wpAnyH_done (by kernel_rfl) ?_ _
 go_wp2_with fail
 exact bodyPost_ret (v:=.tuple #[(⟨uid,uow,3,ux,uy,uli,ulo,4,cx,0,0⟩:U).val,.bool false]) (qq3 Tryz.results178 _ _ (w.heap.size+1+1) 85 _ (0,0) _ _ rfl rfl h11 Tryz.underlying85 rfl qq5) rfl ⟨rfl,hf3.trans hfr (by simp;omega)⟩
theorem qzz1 (gb:Nat)(cu cy ct uid uow ux uy uli ulo uwh utx uty uta:Int)(w:World) :
  Calls Tryz.prog 178 #[.pointer (some ⟨gb,0,none⟩),(⟨uid,uow,1,ux,uy,uli,ulo,uwh,utx,uty,uta⟩:U).val,(⟨cu,4,2,cy,ct⟩:Cm).val] w fun e w'=>e=.returned (.tuple #[(⟨uid,uow,1,ux,uy,uli,ulo,4,2,0,0⟩:U).val,.bool true])/\Fr [] w w':=by
 go_enter Tryz.func178,Tryz.ntmps178
 go_wp2_with (first|(go_at_call 185;refine (qx1 _ _ _).mono ?_;rintro e w1 ⟨rfl,rfl⟩))
 obtain ⟨W3,hW3⟩:∃ W,W=((w.alloc (.cells #[ii uid,ii uow,ii 1,ii ux,ii uy,ii uli,ii ulo,ii 4,ii 2,ii 0,ii 0] 85)).alloc (.cells #[ii cu,ii 4,ii 2,ii cy,ii ct] 81)).alloc (.cells #[ii 0,ii 0,ii 0,ii 0,ii 0,ii 0,ii 0,ii 0,ii 0,ii 0,ii 0] 85):=⟨_,rfl⟩
 rw [<- hW3]
 have hf3:Fr [] w W3:=by rw [hW3];exact (((Fr.refl _ _).alloc _).alloc _).alloc _
 have hU:W3.heap[w.heap.size]?=some (.cells #[ii uid,ii uow,ii 1,ii ux,ii uy,ii uli,ii ulo,ii 4,ii 2,ii 0,ii 0] 85):=by rw [hW3,qz7 _ _ _ (by simp;omega),qz8]
 have hC:W3.heap[w.heap.size+1]?=some (.cells #[ii cu,ii 4,ii 2,ii cy,ii ct] 81):=by rw [hW3,qz7 _ _ _ (by simp),qz4]
 have hR:W3.heap[w.heap.size+1+1]?=some (.cells #[ii 0,ii 0,ii 0,ii 0,ii 0,ii 0,ii 0,ii 0,ii 0,ii 0,ii 0] 85):=by rw [hW3,qk1]
 clear hW3
 have HS:∀ w',Fr [w.heap.size+1+1] W3 w'->(fun w':World=>cl w' w.heap.size 0 uid/\cl w' w.heap.size 1 uow/\cl w' w.heap.size 2 1/\cl w' w.heap.size 3 ux/\cl w' w.heap.size 4 uy/\cl w' w.heap.size 5 uli/\cl w' w.heap.size 6 ulo/\cl w' w.heap.size 7 4/\cl w' w.heap.size 8 2/\cl w' w.heap.size 9 0/\cl w' w.heap.size 10 0/\cl w' (w.heap.size+1) 2 2/\cl w' (w.heap.size+1) 3 cy) w':=fun w' hf=>by
  have hu:=hf.heap hU (by simp;omega)
  have hc:=hf.heap hC (by simp;try omega)
  exact ⟨j9 hu,j9 hu,j9 hu,j9 hu,j9 hu,j9 hu,j9 hu,j9 hu,j9 hu,j9 hu,j9 hu,j9 hc,j9 hc⟩
 have KF:Fr [w.heap.size+1+1] W3 W3.drew:=(Fr.refl _ _).drew
 have K0:=HS _ KF
 have hrc:∀ j,W3.cell? ⟨w.heap.size+1+1,j,none⟩=#[ii 0,ii 0,ii 0,ii 0,ii 0,ii 0,ii 0,ii 0,ii 0,ii 0,ii 0][j]?:=fun j=>j9 hR
 have hrf:∀ j,W3.frozen? ⟨w.heap.size+1+1,j,none⟩=false:=fun j=>qq0 hR
 clear hU hC
 refine wp_region_held_drew (S:=fun w':World=>cl w' w.heap.size 0 uid/\cl w' w.heap.size 1 uow/\cl w' w.heap.size 2 1/\cl w' w.heap.size 3 ux/\cl w' w.heap.size 4 uy/\cl w' w.heap.size 5 uli/\cl w' w.heap.size 6 ulo/\cl w' w.heap.size 7 4/\cl w' w.heap.size 8 2/\cl w' w.heap.size 9 0/\cl w' w.heap.size 10 0/\cl w' (w.heap.size+1) 2 2/\cl w' (w.heap.size+1) 3 cy) (by kernel_rfl) K0 (fun hH=>?_)
 refine (show wpAnyH Tryz.prog Region.Mode.any _ _ _ 16 (Array.replicate 16 false) _ _ from ?_)
 iterate 14 (refine tn 16 hH ?_;try simp only [Act.put,Z])
 refine wpAnyH_ready (rs:=[14]) (by kernel_rfl) (by simp) ?_
 refine AllReadyH.cons (by simp only [G];rfl) (fun K hK=>?_) AllReadyH.nil
 go_simp
 obtain ⟨W5,hW5⟩:∃ W,W=(((((((((((W3.setCell ⟨w.heap.size+1+1,0,none⟩ (.int .i64 uid)).setCell ⟨w.heap.size+1+1,1,none⟩ (.int .i64 uow)).setCell ⟨w.heap.size+1+1,2,none⟩ (.int .i64 1)).setCell ⟨w.heap.size+1+1,3,none⟩ (.int .i64 ux)).setCell ⟨w.heap.size+1+1,4,none⟩ (.int .i64 uy)).setCell ⟨w.heap.size+1+1,5,none⟩ (.int .i64 uli)).setCell ⟨w.heap.size+1+1,6,none⟩ (.int .i64 ulo)).setCell ⟨w.heap.size+1+1,7,none⟩ (.int .i64 4)).setCell ⟨w.heap.size+1+1,8,none⟩ (.int .i64 2)).setCell ⟨w.heap.size+1+1,9,none⟩ (.int .i64 0)).setCell ⟨w.heap.size+1+1,10,none⟩ (.int .i64 0)).drew:=⟨_,rfl⟩
 have hfr:Fr [w.heap.size+1+1] W3 W5:=by rw [hW5];refine Fr.drew ?_;(iterate 11 refine Fr.setCell ?_ _ _ (Or.inl (by simp)));exact Fr.refl _ _
 have h11:W5.heap[w.heap.size+1+1]?=some (.cells (⟨uid,uow,1,ux,uy,uli,ulo,4,2,0,0⟩:U).arr 85):=by rw [hW5,qx4];exact set11 (z:=zeroU) (v:=⟨uid,uow,1,ux,uy,uli,ulo,4,2,0,0⟩) hR
 rw [<- hW5]
 clear hW5
 have hS2:=HS _ hfr
 refine hK.out _ _ hS2 (fun hH2=>?_)
 clear hK K;try simp only [Act.put,Z]
 refine ta 15 hH2 ?_;try simp only [Act.put,Z]
 refine wpAnyH_done (by kernel_rfl) ?_ _
 go_wp2_with fail
 exact bodyPost_ret (v:=.tuple #[(⟨uid,uow,1,ux,uy,uli,ulo,4,2,0,0⟩:U).val,.bool true]) (qq3 Tryz.results178 _ _ (w.heap.size+1+1) 85 _ (0,0) _ _ rfl rfl h11 Tryz.underlying85 rfl qq5) rfl ⟨rfl,hf3.trans hfr (by simp;omega)⟩
theorem qzz0 (gb:Nat)(cu cx cy ct uid uow ux uy uli ulo uwh utx uty uta:Int)(w:World)(h2:(cx==2)=false) :
  Calls Tryz.prog 178 #[.pointer (some ⟨gb,0,none⟩),(⟨uid,uow,1,ux,uy,uli,ulo,uwh,utx,uty,uta⟩:U).val,(⟨cu,4,cx,cy,ct⟩:Cm).val] w fun e w'=>e=.returned (.tuple #[(⟨uid,uow,1,ux,uy,uli,ulo,4,cx,0,0⟩:U).val,.bool (cx==3)])/\Fr [] w w':=by
 go_enter Tryz.func178,Tryz.ntmps178
 go_wp2_with (first|(go_at_call 185;refine (qx1 _ _ _).mono ?_;rintro e w1 ⟨rfl,rfl⟩))
 obtain ⟨W3,hW3⟩:∃ W,W=((w.alloc (.cells #[ii uid,ii uow,ii 1,ii ux,ii uy,ii uli,ii ulo,ii 4,ii cx,ii 0,ii 0] 85)).alloc (.cells #[ii cu,ii 4,ii cx,ii cy,ii ct] 81)).alloc (.cells #[ii 0,ii 0,ii 0,ii 0,ii 0,ii 0,ii 0,ii 0,ii 0,ii 0,ii 0] 85):=⟨_,rfl⟩
 rw [<- hW3]
 have hf3:Fr [] w W3:=by rw [hW3];exact (((Fr.refl _ _).alloc _).alloc _).alloc _
 have hU:W3.heap[w.heap.size]?=some (.cells #[ii uid,ii uow,ii 1,ii ux,ii uy,ii uli,ii ulo,ii 4,ii cx,ii 0,ii 0] 85):=by rw [hW3,qz7 _ _ _ (by simp;omega),qz8]
 have hC:W3.heap[w.heap.size+1]?=some (.cells #[ii cu,ii 4,ii cx,ii cy,ii ct] 81):=by rw [hW3,qz7 _ _ _ (by simp),qz4]
 have hR:W3.heap[w.heap.size+1+1]?=some (.cells #[ii 0,ii 0,ii 0,ii 0,ii 0,ii 0,ii 0,ii 0,ii 0,ii 0,ii 0] 85):=by rw [hW3,qk1]
 clear hW3
 have HS:∀ w',Fr [w.heap.size+1+1] W3 w'->(fun w':World=>cl w' w.heap.size 0 uid/\cl w' w.heap.size 1 uow/\cl w' w.heap.size 2 1/\cl w' w.heap.size 3 ux/\cl w' w.heap.size 4 uy/\cl w' w.heap.size 5 uli/\cl w' w.heap.size 6 ulo/\cl w' w.heap.size 7 4/\cl w' w.heap.size 8 cx/\cl w' w.heap.size 9 0/\cl w' w.heap.size 10 0/\cl w' (w.heap.size+1) 2 cx/\cl w' (w.heap.size+1) 3 cy) w':=fun w' hf=>by
  have hu:=hf.heap hU (by simp;omega)
  have hc:=hf.heap hC (by simp;try omega)
  exact ⟨j9 hu,j9 hu,j9 hu,j9 hu,j9 hu,j9 hu,j9 hu,j9 hu,j9 hu,j9 hu,j9 hu,j9 hc,j9 hc⟩
 have KF:Fr [w.heap.size+1+1] W3 W3.drew:=(Fr.refl _ _).drew
 have K0:=HS _ KF
 have hrc:∀ j,W3.cell? ⟨w.heap.size+1+1,j,none⟩=#[ii 0,ii 0,ii 0,ii 0,ii 0,ii 0,ii 0,ii 0,ii 0,ii 0,ii 0][j]?:=fun j=>j9 hR
 have hrf:∀ j,W3.frozen? ⟨w.heap.size+1+1,j,none⟩=false:=fun j=>qq0 hR
 clear hU hC
 refine wp_region_held_drew (S:=fun w':World=>cl w' w.heap.size 0 uid/\cl w' w.heap.size 1 uow/\cl w' w.heap.size 2 1/\cl w' w.heap.size 3 ux/\cl w' w.heap.size 4 uy/\cl w' w.heap.size 5 uli/\cl w' w.heap.size 6 ulo/\cl w' w.heap.size 7 4/\cl w' w.heap.size 8 cx/\cl w' w.heap.size 9 0/\cl w' w.heap.size 10 0/\cl w' (w.heap.size+1) 2 cx/\cl w' (w.heap.size+1) 3 cy) (by kernel_rfl) K0 (fun hH=>?_)
 refine (show wpAnyH Tryz.prog Region.Mode.any _ _ _ 16 (Array.replicate 16 false) _ _ from ?_)
 iterate 14 (refine tn 16 hH ?_;try simp only [Act.put,Z])
 refine wpAnyH_ready (rs:=[14]) (by kernel_rfl) (by simp) ?_
 refine AllReadyH.cons (by simp only [G];rfl) (fun K hK=>?_) AllReadyH.nil
 go_simp
 obtain ⟨W5,hW5⟩:∃ W,W=(((((((((((W3.setCell ⟨w.heap.size+1+1,0,none⟩ (.int .i64 uid)).setCell ⟨w.heap.size+1+1,1,none⟩ (.int .i64 uow)).setCell ⟨w.heap.size+1+1,2,none⟩ (.int .i64 1)).setCell ⟨w.heap.size+1+1,3,none⟩ (.int .i64 ux)).setCell ⟨w.heap.size+1+1,4,none⟩ (.int .i64 uy)).setCell ⟨w.heap.size+1+1,5,none⟩ (.int .i64 uli)).setCell ⟨w.heap.size+1+1,6,none⟩ (.int .i64 ulo)).setCell ⟨w.heap.size+1+1,7,none⟩ (.int .i64 4)).setCell ⟨w.heap.size+1+1,8,none⟩ (.int .i64 cx)).setCell ⟨w.heap.size+1+1,9,none⟩ (.int .i64 0)).setCell ⟨w.heap.size+1+1,10,none⟩ (.int .i64 0)).drew:=⟨_,rfl⟩
 have hfr:Fr [w.heap.size+1+1] W3 W5:=by rw [hW5];refine Fr.drew ?_;(iterate 11 refine Fr.setCell ?_ _ _ (Or.inl (by simp)));exact Fr.refl _ _
 have h11:W5.heap[w.heap.size+1+1]?=some (.cells (⟨uid,uow,1,ux,uy,uli,ulo,4,cx,0,0⟩:U).arr 85):=by rw [hW5,qx4];exact set11 (z:=zeroU) (v:=⟨uid,uow,1,ux,uy,uli,ulo,4,cx,0,0⟩) hR
 rw [<- hW5]
 clear hW5
 have hS2:=HS _ hfr
 refine hK.out _ _ hS2 (fun hH2=>?_)
 clear hK K;try simp only [Act.put,Z]
 refine ta 15 hH2 ?_;try simp only [Act.put,Z]
 refine wpAnyH_done (by kernel_rfl) ?_ _
 go_wp2_with fail
 exact bodyPost_ret (v:=.tuple #[(⟨uid,uow,1,ux,uy,uli,ulo,4,cx,0,0⟩:U).val,.bool (cx==3)]) (qq3 Tryz.results178 _ _ (w.heap.size+1+1) 85 _ (0,0) _ _ rfl rfl h11 Tryz.underlying85 rfl qq5) rfl ⟨rfl,hf3.trans hfr (by simp;omega)⟩
end Go.Proofs.YtapabahhfanmmaaGreatDoor
