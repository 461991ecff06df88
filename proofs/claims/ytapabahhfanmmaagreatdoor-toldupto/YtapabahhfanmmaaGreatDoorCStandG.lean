import Derived.ChangeKeysEq
import Derived.Test.YtapabahhfanmmaaGreatDoorCFolkG
namespace Go.Proofs.YtapabahhfanmmaaGreatDoor
open Go.RowKit
set_option maxRecDepth 100000
set_option maxHeartbeats 2000000
theorem yz2 {d c:Nat}{e:TypeId}{xs:Array Value}{w:World}:∀ (is:List Nat),(∀ i∈is,∃ a,(part e xs (i*c)).run Tryz.prog w=.ok a w/\(Op.equalIn d e a a).run Tryz.prog w=.ok true w)->(Op.eqItems d e c xs xs is).run Tryz.prog w=.ok true w
 | [],_=>by simp [Op.eqItems]
 | i :: is,h=>by
  obtain ⟨a,h1,h2⟩:=h i (by simp)
  have ih:=yz2 is (fun j hj=>h j (by simp [hj]))
  simp only [Op.eqItems,Sem.run_bind,h1,h2,Result.andThen_ok]
  exact ih
theorem qjj1:(Tryz.prog.info? 3).map (·.size)=some 1:=by kernel_rfl
theorem qjq8:Tryz.prog.cellsOf 3=1:=by kernel_rfl
theorem qjq9:Tryz.prog.cellsOf 86=12:=by kernel_rfl
theorem qxq5 (bd:Nat->Int)(y:Nat)(d:Nat)(w:World):(Op.equalIn (d+2) 86 (.agg (zv2 bd y).toArray) (.agg (zv2 bd y).toArray)).run Tryz.prog w=.ok true w:=by
 obtain ⟨inf,hi,_⟩:=Option.map_eq_some_iff.1 qjj1
 rw [show d+2=(d+1)+1 from rfl,run_equalIn_array w (d+1) _ _ Tryz.underlying86 hi,qjq8]
 refine yz2 _ (fun x hx=>?_)
 have hx':x < 12:=List.mem_range.1 hx
 have hc:(zv2 bd y).toArray[x]?=some (ii (bd (y*12+x))):=by simp [zv2,List.getElem?_range hx']
 refine ⟨ii (bd (y*12+x)),?_,?_⟩
 ·rw [Nat.mul_one]
  simp [part,isAgg,run_underlying Tryz.underlying3,hc]
 ·rw [run_equalIn_int w d 3 .i64 .i64 _ _ Tryz.underlying3]
  simp
theorem qqj0 (bd:Nat->Int)(d:Nat)(w:World):(Op.equalIn (d+3) 88 (.agg (qk8 bd).toArray) (.agg (qk8 bd).toArray)).run Tryz.prog w=.ok true w:=by
 obtain ⟨inf,hi,_⟩:=Option.map_eq_some_iff.1 xw7
 rw [show d+3=(d+2)+1 from rfl,run_equalIn_array w (d+2) _ _ Tryz.underlying88 hi,qjq9]
 refine yz2 _ (fun y hy=>?_)
 have hy':y < 12:=List.mem_range.1 hy
 refine ⟨.agg (zv2 bd y).toArray,?_,qxq5 bd y d w⟩
 have hb:=vj4 bd y hy'
 rw [<- hb]
 simp [part,isAgg,run_underlying Tryz.underlying86,sizeOf,kq7]
theorem fx3 (bd:Nat->Int)(w:World):(binOp BinOp.eql 88 (.agg (qk8 bd).toArray) (.agg (qk8 bd).toArray)).run Tryz.prog w=.ok (.bool true) w:=by
 rw [run_eql_struct,qqj0 bd 9997 w]
 rfl
theorem yw9 (x y:Operand)(B:Array Value)(w:World):(eqGuard BinOp.eql 88 x y (.agg B) (.agg B)).run Tryz.prog w=.ok () w:=by kernel_rfl
theorem qjz4 (c d:Int)(w:World):(Op.equalIn 9999 54 (.agg #[ii c,ii d]) (.agg #[ii c,ii d])).run Tryz.prog w=.ok true w:=by
 have u3:=Tryz.underlying3
 rw [show (9999:Nat)=9998+1 from rfl,Op.equalIn]
 simp only [Sem.run_bind,run_underlying Tryz.underlying54,Result.andThen_ok]
 simp only [Std.Legacy.Range.forIn_eq_forIn_range',Std.Legacy.Range.size,Nat.sub_zero,Nat.add_sub_cancel,Nat.div_one,List.range'_succ,List.range'_zero,List.forIn_cons,List.forIn_nil]
 go_simp
theorem xv5 (a b c d:Int)(w:World):(binOp BinOp.eql 56 (.agg #[ii a,ii b,ii c,ii d]) (.agg #[ii a,ii b,ii c,ii d])).run Tryz.prog w=.ok (.bool true) w:=by
 have h2:=qjz4 c d w
 simp [go_sem,h2]
theorem yy7 (x y:Operand)(a b c d:Int)(w:World):(eqGuard BinOp.eql 56 x y (.agg #[ii a,ii b,ii c,ii d]) (.agg #[ii a,ii b,ii c,ii d])).run Tryz.prog w=.ok () w:=by kernel_rfl
theorem ky3 (gb pb cap:Nat)(t:T)(w:World)(h:RG w gb pb cap t) :
  Calls Tryz.prog 54 #[.pointer (some ⟨gb,0,none⟩)] w fun e w'=>e=.returned (.agg #[ii t.turn,ii (qy3 t.us),ii t.s0,ii t.s1])/\Fr [] w w':=by
 have hgl:=h.lt
 obtain ⟨W1,hW1⟩:∃ W,W=w.alloc (.cells #[ii 0,ii 0,ii 0,ii 0] 56):=⟨_,rfl⟩
 have h01:Fr [] w W1:=by rw [hW1];exact (Fr.refl _ _).alloc _
 have hR:W1.heap[w.heap.size]?=some (.cells #[ii 0,ii 0,ii 0,ii 0] 56):=by rw [hW1];exact qq6 w _
 have KF:Fr [] W1 (w.alloc (.cells #[ii 0,ii 0,ii 0,ii 0] 56)).drew:=by rw [hW1];exact (Fr.refl _ _).drew
 have hs1:W1.heap.size=w.heap.size+1:=by rw [hW1];simp
 have HS:∀ w',Fr [] w w'->(fun w':World=>cl w' gb 0 t.turn/\cl w' gb 145 t.s0/\cl w' gb 146 t.s1) w':=by
  intro w' hf
  have h':=h.fr hf (by simp) (by simp)
  exact ⟨h'.c0,h'.c145,h'.c146⟩
 have K0:=HS _ (h01.then0 KF)
 clear hW1
 go_enter Tryz.func54,Tryz.ntmps54
 go_wp2_with fail
 go_region_held (fun w':World=>w'.cell? ⟨gb,0,none⟩=some (ii t.turn)/\w'.cell? ⟨gb,145,none⟩=some (ii t.s0)/\w'.cell? ⟨gb,146,none⟩=some (ii t.s1))
  (first|with_reducible exact K0|with_reducible exact HS _ hfk|(refine HS _ ?_;with_reducible exact (((hfk.setCell _ _ (Or.inr (Nat.le_refl _))).setCell _ _ (Or.inr (Nat.le_refl _))).setCell _ _ (Or.inr (Nat.le_refl _))).setCell _ _ (Or.inr (Nat.le_refl _))))
  (first|(go_at_call 99;refine (zz6 gb pb cap t.us _ (h.gv.fr0 (h01.then0 KF))).mono ?_;rintro e w1 ⟨rfl,hf1⟩;have hfk:Fr [] w w1:=(h01.then0 KF).then0 hf1;have hr1:=(KF.then0 hf1).heap0 hR;have hrc:∀ j,w1.cell? ⟨w.heap.size,j,none⟩=#[ii 0,ii 0,ii 0,ii 0][j]?:=(fun j=>j9 hr1);have hrf:∀ j,w1.frozen? ⟨w.heap.size,j,none⟩=false:=(fun j=>qq0 hr1)))
 all_goals
  go_wp2_with fail
  have h0:=qz9 hr1 0 (ii t.turn)
  have h1:=qz9 h0 1 (ii (qy3 t.us))
  have h2:=qz9 h1 2 (ii t.s0)
  have h3:=qz9 h2 3 (ii t.s1)
  have hh:((((w1.setCell ⟨w.heap.size,0,none⟩ (ii t.turn)).setCell ⟨w.heap.size,1,none⟩ (ii (qy3 t.us))).setCell ⟨w.heap.size,2,none⟩ (ii t.s0)).setCell ⟨w.heap.size,3,none⟩ (ii t.s1)).heap[w.heap.size]?=some (.cells #[ii t.turn,ii (qy3 t.us),ii t.s0,ii t.s1] 56):=by simpa using h3
  exact bodyPost_ret (v:=.agg #[ii t.turn,ii (qy3 t.us),ii t.s0,ii t.s1]) (results_cell_row Tryz.results54 _ _ w.heap.size 56 _ (0,0) _ rfl hh Tryz.underlying56 rfl xx5) rfl ⟨rfl,(((hfk.setCell _ _ (Or.inr (Nat.le_refl _))).setCell _ _ (Or.inr (Nat.le_refl _))).setCell _ _ (Or.inr (Nat.le_refl _))).setCell _ _ (Or.inr (Nat.le_refl _))⟩
theorem xv4 {us:List U}(o:Int):(qw0 us o).isSome=us.any (qq4 o):=by
 unfold qw0
 rw [List.findIdx?_isSome]
theorem xj4 {us:List U}(o:Int):(qj8 us o).isSome=us.any (qq4 o):=by
 have:∀ us:List U,(us.find? (qq4 o)).isSome=us.any (qq4 o):=fun us=>by
  induction us with
  | nil=>rfl
  | cons a us ih =>
   rw [List.find?_cons,List.any_cons]
   cases h:qq4 o a with
   | true=>simp
   | false=>simpa using ih
 exact this us
theorem vw9 {us:List U}(h:1<=us.countP (qq4 0)+us.countP (qq4 1)):qy3 us=zk4 us:=by
 have c:∀ o,us.any (qq4 o)=false->us.countP (qq4 o)=0:=fun o ho=>by
  rw [List.countP_eq_zero]
  intro u hu
  have:=List.any_eq_false.1 ho u hu
  simpa using this
 unfold qy3 zk4
 rw [xv4,xv4,xj4,xj4]
 have c0:=c 0
 have c1:=c 1
 cases h0:us.any (qq4 0) <;> cases h1:us.any (qq4 1)
 ·have:=c0 h0;have:=c1 h1;omega
 ·rfl
 ·rfl
 ·rfl
theorem RG.rng {w:World}{gb pb cap:Nat}{t:T}(h:RG w gb pb cap t):w.rangeAt gb 1 (qk8 t.bd):=by
 intro j v hv
 have hj:j < 144:=by have:=(List.getElem?_eq_some_iff.1 hv).1;rwa [zz1] at this
 rw [h.bd hj]
 unfold qk8 at hv
 rw [List.getElem?_map,List.getElem?_range hj] at hv
 exact hv
structure Asked (w1:World) (sb gb rb:Nat) (z0 z1 z2 z3:Int) (BL:List Value):Prop where
 lg:∀ w',Fr [] w1 w'->Calls Tryz.prog 23 #[.pointer (some ⟨gb,0,none⟩)] w' fun e w''=>e=.returned (.agg #[ii z0,ii z1,ii z2,ii z3])/\Fr [] w' w''
 lr:∀ w',Fr [] w1 w'->Calls Tryz.prog 54 #[.pointer (some ⟨rb,0,none⟩)] w' fun e w''=>e=.returned (.agg #[ii z0,ii z1,ii z2,ii z3])/\Fr [] w' w''
 cg:∀ w',Fr [] w1 w'->Calls Tryz.prog 55 #[.pointer (some ⟨gb,0,none⟩)] w' fun e w''=>e=.returned (.agg BL.toArray)/\Fr [] w' w''
 rr:∀ w',Fr [] w1 w'->w'.rangeAt rb 1 BL
 sz:(Tryz.prog.info? 88).map (·.size)=some BL.length
 c0:∀ w',Fr [] w1 w'->w'.cell? ⟨sb,0,none⟩=some (.pointer (some ⟨gb,0,none⟩))
 c1:∀ w',Fr [] w1 w'->w'.cell? ⟨sb,1,none⟩=some (.pointer (some ⟨rb,0,none⟩))
 eq:∀ w',(binOp BinOp.eql 88 (.agg BL.toArray) (.agg BL.toArray)).run Tryz.prog w'=.ok (.bool true) w'
theorem Gm.asked {w:World}{g:Value}{L:List Nat}{t:T}(h:Gm w g L t):∃ sb gb rb z0 z1 z2 z3 BL,g=.pointer (some ⟨sb,0,none⟩)/\Asked w sb gb rb z0 z1 z2 z3 BL:=by
 have hbs:1<=t.us.countP (qq4 0)+t.us.countP (qq4 1):=h.ok.bs
 obtain ⟨⟨sb,gb,pb,cap,rb,qb,cap2,rfl,rfl,hx,hy,hgs,hrg⟩,_⟩:=h
 refine ⟨sb,gb,rb,t.turn,zk4 t.us,t.s0,t.s1,qk8 t.bd,rfl,⟨fun w' hf=>dk3 gb pb cap t w' (hgs.fr hf (by simp) (by simp)),fun w' hf=>?_,fun w' hf=>fk1 gb pb cap t w' (hgs.fr hf (by simp) (by simp)),fun w' hf=>(hrg.fr0 hf).rng,?_,fun w' hf=>(hf.cell sb 0 (qq1 hx) (by simp)).trans hx,fun w' hf=>(hf.cell sb 1 (qq1 hy) (by simp)).trans hy,fun w'=>fx3 t.bd w'⟩⟩
 ·have:=ky3 rb qb cap2 t w' (hrg.fr0 hf)
  rw [vw9 hbs] at this
  exact this
 ·rw [zz1];exact jj7
theorem gw5 (g:Value)(L K:List Nat)(t:T)(bb N:Nat)(w:World)(hG:Gm w g L t)(hB:Bk w bb K N)(hA:∀ x∈L,x≠bb/\x∉K)(hN:N<=2000000) :
  Calls Tryz.prog 28 #[g,.pointer (some ⟨bb,0,none⟩)] w fun e w'=>e=.returned (.bool true)/\SR w bb L K N t.turn g w':=by
 have C1:=xx0 g L K t bb N w hG hB hA hN
 obtain ⟨sb,_,_,_,_,_,_,_,hg0,_⟩:=hG.asked
 subst hg0
 clear hG hB hA
 go_enter Tryz.func28,Tryz.ntmps28
 go_wp2_with fail
 refine Calls.mono C1 ?_
 rintro e w1 ⟨rfl,hsr⟩
 dsimp only
 obtain ⟨L',t',K',hG1,_⟩:=hsr.ex
 obtain ⟨sb1,gb,rb,z0,z1,z2,z3,BL,hg,hq⟩:=hG1.asked
 cases hg
 have LG:=(show Hid (∀ w',Fr [] w1 w'->Calls Tryz.prog 23 #[.pointer (some ⟨gb,0,none⟩)] w' fun e w''=>e=.returned (.agg #[ii z0,ii z1,ii z2,ii z3])/\Fr [] w' w'') from hq.lg)
 have LR:=(show Hid (∀ w',Fr [] w1 w'->Calls Tryz.prog 54 #[.pointer (some ⟨rb,0,none⟩)] w' fun e w''=>e=.returned (.agg #[ii z0,ii z1,ii z2,ii z3])/\Fr [] w' w'') from hq.lr)
 have CG:=(show Hid (∀ w',Fr [] w1 w'->Calls Tryz.prog 55 #[.pointer (some ⟨gb,0,none⟩)] w' fun e w''=>e=.returned (.agg BL.toArray)/\Fr [] w' w'') from hq.cg)
 have HRR:Hid (∀ w',(w'.cell? ⟨sb,0,none⟩=some (.pointer (some ⟨gb,0,none⟩))/\w'.cell? ⟨sb,1,none⟩=some (.pointer (some ⟨rb,0,none⟩))/\Fr [] w1 w')->w'.rangeAt rb 1 BL):=fun w' h=>hq.rr w' h.2.2
 have HSZ:=hid hq.sz
 have HS:∀ w',Fr [] w1 w'->(fun w':World=>w'.cell? ⟨sb,0,none⟩=some (.pointer (some ⟨gb,0,none⟩))/\w'.cell? ⟨sb,1,none⟩=some (.pointer (some ⟨rb,0,none⟩))/\Fr [] w1 w') w':=fun w' hf=>⟨hq.c0 w' hf,hq.c1 w' hf,hf⟩
 have K0:=HS w1.drew ((Fr.refl _ _).drew)
 have hbe:=hq.eq
 have hbg:=fun (x y:Operand) (w0:World)=>yw9 x y BL.toArray w0
 have hse:=xv5 z0 z1 z2 z3
 have hsg:=fun (x y:Operand) (w0:World)=>yy7 x y z0 z1 z2 z3 w0
 have HSR:=hid hsr
 clear hsr hG1 hq C1
 go_wp2_with fail
 refine wp_region_held_drew (S:=fun w':World=>w'.cell? ⟨sb,0,none⟩=some (.pointer (some ⟨gb,0,none⟩))/\w'.cell? ⟨sb,1,none⟩=some (.pointer (some ⟨rb,0,none⟩))/\Fr [] w1 w') (by kernel_rfl) K0 (fun hH=>?_)
 refine (show wpAnyH Tryz.prog Region.Mode.any _ _ _ 30 (Array.replicate 30 false) _ _ from ?_)
 iterate 6 (refine tn 30 hH ?_;try simp only [Act.put,Z])
 refine ta 7 hH ?_;try simp only [Act.put,Z]
 refine ta 8 hH ?_;try simp only [Act.put,Z]
 refine ta 9 hH ?_;try simp only [Act.put,Z]
 refine ta 10 hH ?_;try simp only [Act.put,Z]
 refine wpAnyH_ready (rs:=[6]) (by kernel_rfl) (by simp) ?_
 refine AllReadyH.cons (by simp only [G];rfl) (fun K hK=>?_) AllReadyH.nil
 have HKK:=hid hK
 clear hK
 go_simp
 refine Calls.mono (LG.out _ hH.2.2) ?_
 rintro e wc6 ⟨rfl,hfc6⟩
 dsimp only
 have hfr6:=hH.2.2.then0 hfc6
 clear hH
 refine HKK.out _ _ (HS _ hfr6) (fun hH=>?_)
 clear HKK K;try simp only [Act.put,Z]
 refine wpAnyH_ready (rs:=[11]) (by kernel_rfl) (by simp) ?_
 refine AllReadyH.cons (by simp only [G];rfl) (fun K hK=>?_) AllReadyH.nil
 have HKK:=hid hK
 clear hK
 go_simp
 refine Calls.mono (LR.out _ hH.2.2) ?_
 rintro e wc11 ⟨rfl,hfc11⟩
 dsimp only
 have hfr11:=hH.2.2.then0 hfc11
 clear hH
 refine HKK.out _ _ (HS _ hfr11) (fun hH=>?_)
 clear HKK K;try simp only [Act.put,Z]
 iterate 7 (refine tn 30 hH ?_;try simp only [Act.put,Z])
 refine ta 20 hH ?_;try simp only [Act.put,Z]
 refine ta 21 hH ?_;try simp only [Act.put,Z]
 refine ta 22 hH ?_;try simp only [Act.put,Z]
 refine ta 23 hH ?_;try simp only [Act.put,Z]
 refine ta 24 hH ?_;try simp only [Act.put,Z]
 refine ta 25 hH ?_;try simp only [Act.put,Z]
 refine wpAnyH_take (i:=26) (oi:=_) (v:=.agg BL.toArray) (by simp only [G];rfl) (by kernel_rfl) (by kernel_rfl) (by kernel_rfl) (by exact fun _ _ _ h=>h) (yieldsIf_load_mid (by kernel_rfl) 88 (.tmp 34) rfl rb 1 rfl BL _ HRR.out Tryz.underlying88 rfl HSZ.out) hH ?_;try simp only [Act.put,Z]
 refine wpAnyH_ready (rs:=[19]) (by kernel_rfl) (by simp) ?_
 refine AllReadyH.cons (by simp only [G];rfl) (fun K hK=>?_) AllReadyH.nil
 have HKK:=hid hK
 clear hK
 go_simp
 refine Calls.mono (CG.out _ hH.2.2) ?_
 rintro e wc19 ⟨rfl,hfc19⟩
 dsimp only
 have hfr19:=hH.2.2.then0 hfc19
 clear hH
 refine HKK.out _ _ (HS _ hfr19) (fun hH=>?_)
 clear HKK K;try simp only [Act.put,Z]
 refine ta 27 hH ?_;try simp only [Act.put,Z]
 refine ta 28 hH ?_;try simp only [Act.put,Z]
 refine ta 29 hH ?_;try simp only [Act.put,Z]
 refine wpAnyH_done (by kernel_rfl) ?_ _
 go_wp2_with fail
 go_ret
 exact ⟨rfl,SR.after HSR.out hH.2.2⟩
end Go.Proofs.YtapabahhfanmmaaGreatDoor
