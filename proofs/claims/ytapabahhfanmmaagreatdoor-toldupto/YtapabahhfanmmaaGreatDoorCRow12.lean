import Derived.Test.YtapabahhfanmmaaGreatDoorCBring
namespace Go.Proofs.YtapabahhfanmmaaGreatDoor
open Go.RowKit
set_option maxHeartbeats 1000000
set_option maxRecDepth 100000
def qk8 (bd:Nat->Int):List Value:=(List.range 144).map fun i=>ii (bd i)
theorem zz1 (bd:Nat->Int):(qk8 bd).length=144:=by simp [qk8]
theorem gj7 (bd:Nat->Int):(qk8 bd).toArray.all (·.oneCell')=true:=by
 apply all_oneCell_toArray
 intro v hv
 obtain ⟨i,_,rfl⟩:=List.mem_map.1 hv
 rfl
theorem jj7:(Tryz.prog.info? 88).map (·.size)=some 144:=by kernel_rfl
theorem xx5:(Tryz.prog.info? 56).map (·.size)=some 4:=by kernel_rfl
theorem qzx3:Tryz.zeroCells88.size=144:=by kernel_rfl
theorem GS.board {w:World}{gb pb cap:Nat}{t:T}(h:GS w gb pb cap t):w.rangeAt gb 4 (qk8 t.bd):=by
 intro j v hv
 have hj:j < 144:=by have:=(List.getElem?_eq_some_iff.1 hv).1;rwa [zz1] at this
 rw [h.cell (4+j) (by omega)]
 unfold qk8 at hv
 rw [List.getElem?_map,List.getElem?_range hj] at hv
 simp only [Option.map_some,Option.some.injEq] at hv
 rw [<- hv]
 unfold qq9
 rw [if_neg (by omega),if_neg (by omega),if_neg (by omega),if_neg (by omega),if_pos (by omega),show 4+j - 4=j by omega]
theorem fk1 (gb pb cap:Nat)(t:T)(w:World)(h:GS w gb pb cap t) :
  Calls Tryz.prog 55 #[.pointer (some ⟨gb,0,none⟩)] w fun e w'=>e=.returned (.agg (qk8 t.bd).toArray)/\Fr [] w w':=by
 have hgl:=h.lt
 have hr:∀ o,(w.alloc o).rangeAt gb 4 (qk8 t.bd):=fun o=>(h.fr ((Fr.refl [] w).alloc o) (by simp) (by simp)).board
 have HR:=hid hr
 have hsz:(Tryz.prog.info? 88).map (·.size)=some (qk8 t.bd).length:=by rw [zz1];exact jj7
 have hsz2:(Tryz.prog.info? 88).map (·.size)=some (qk8 t.bd).toArray.size:=by rw [List.size_toArray];exact hsz
 have H1:=hid hsz
 have H2:=hid hsz2
 have H3:Hid (Tryz.zeroCells88.size=(qk8 t.bd).toArray.size):=by show _=_;rw [qzx3,List.size_toArray,zz1]
 clear hr hsz hsz2
 go_enter Tryz.func55,Tryz.ntmps55
 go_wp2_with (first
  | (go_at_call 39;refine (jx5 gb _).mono ?_;rintro e w1 ⟨rfl,rfl⟩)
  | (refine wpList_load_mid rfl 88 _ rfl gb 4 rfl (qk8 t.bd) _ (HR.out _) Tryz.underlying88 rfl H1.out ?_)
  | (refine wpList_store_row rfl 88 _ _ rfl w.heap.size (qk8 t.bd).toArray rfl rfl 88 Tryz.zeroCells88 (qq6 w _) H2.out H3.out (gj7 _) ?_))
 exact bodyPost_ret (v:=.agg (qk8 t.bd).toArray) (results_cell_row Tryz.results55 _ _ w.heap.size 88 _ (0,0) _ rfl (setRow_heap _ _ _ _ _ _ (qq6 w _)) Tryz.underlying88 rfl H2.out) rfl ⟨rfl,((Fr.refl _ _).alloc _).setRow _ _ (Or.inr (Nat.le_refl _))⟩
theorem dk3 (gb pb cap:Nat)(t:T)(w:World)(h:GS w gb pb cap t) :
  Calls Tryz.prog 23 #[.pointer (some ⟨gb,0,none⟩)] w fun e w'=>e=.returned (.agg #[ii t.turn,ii (zk4 t.us),ii t.s0,ii t.s1])/\Fr [] w w':=by
 have hgl:=h.lt
 obtain ⟨W1,hW1⟩:∃ W,W=w.alloc (.cells #[ii 0,ii 0,ii 0,ii 0] 56):=⟨_,rfl⟩
 have h01:Fr [] w W1:=by rw [hW1];exact (Fr.refl _ _).alloc _
 have hR:W1.heap[w.heap.size]?=some (.cells #[ii 0,ii 0,ii 0,ii 0] 56):=by rw [hW1];exact qq6 w _
 have KF:Fr [] W1 (w.alloc (.cells #[ii 0,ii 0,ii 0,ii 0] 56)).drew:=by rw [hW1];exact (Fr.refl _ _).drew
 have hs1:W1.heap.size=w.heap.size+1:=by rw [hW1];simp
 have HS:∀ w',Fr [] w w'->(fun w':World=>cl w' gb 0 t.turn/\cl w' gb 2 t.s0/\cl w' gb 3 t.s1) w':=by
  intro w' hf
  have h':=h.fr hf (by simp) (by simp)
  refine ⟨?_,?_,?_⟩
  ·have:=h'.cell 0 (by omega);simpa [qq9] using this
  ·have:=h'.cell 2 (by omega);simpa [qq9] using this
  ·have:=h'.cell 3 (by omega);simpa [qq9] using this
 have K0:=HS _ (h01.then0 KF)
 clear hW1
 go_enter Tryz.func23,Tryz.ntmps23
 go_wp2_with (go_at_call 39;refine (jx5 gb _).mono ?_;rintro e w1 ⟨rfl,rfl⟩)
 go_region_held (fun w':World=>w'.cell? ⟨gb,0,none⟩=some (ii t.turn)/\w'.cell? ⟨gb,2,none⟩=some (ii t.s0)/\w'.cell? ⟨gb,3,none⟩=some (ii t.s1))
  (first|with_reducible exact K0|with_reducible exact HS _ hfk|(refine HS _ ?_;with_reducible exact (((hfk.setCell _ _ (Or.inr (Nat.le_refl _))).setCell _ _ (Or.inr (Nat.le_refl _))).setCell _ _ (Or.inr (Nat.le_refl _))).setCell _ _ (Or.inr (Nat.le_refl _))))
  (first|(go_at_call 50;refine (yj1 gb pb cap t.us _ (h.gv.fr0 (h01.then0 KF))).mono ?_;rintro e w1 ⟨rfl,hf1⟩;have hfk:Fr [] w w1:=(h01.then0 KF).then0 hf1;have hr1:=(KF.then0 hf1).heap0 hR;have hrc:∀ j,w1.cell? ⟨w.heap.size,j,none⟩=#[ii 0,ii 0,ii 0,ii 0][j]?:=(fun j=>j9 hr1);have hrf:∀ j,w1.frozen? ⟨w.heap.size,j,none⟩=false:=(fun j=>qq0 hr1)))
 all_goals
  go_wp2_with fail
  have h0:=qz9 hr1 0 (ii t.turn)
  have h1:=qz9 h0 1 (ii (zk4 t.us))
  have h2:=qz9 h1 2 (ii t.s0)
  have h3:=qz9 h2 3 (ii t.s1)
  have hh:((((w1.setCell ⟨w.heap.size,0,none⟩ (ii t.turn)).setCell ⟨w.heap.size,1,none⟩ (ii (zk4 t.us))).setCell ⟨w.heap.size,2,none⟩ (ii t.s0)).setCell ⟨w.heap.size,3,none⟩ (ii t.s1)).heap[w.heap.size]?=some (.cells #[ii t.turn,ii (zk4 t.us),ii t.s0,ii t.s1] 56):=by simpa using h3
  exact bodyPost_ret (v:=.agg #[ii t.turn,ii (zk4 t.us),ii t.s0,ii t.s1]) (results_cell_row Tryz.results23 _ _ w.heap.size 56 _ (0,0) _ rfl hh Tryz.underlying56 rfl xx5) rfl ⟨rfl,(((hfk.setCell _ _ (Or.inr (Nat.le_refl _))).setCell _ _ (Or.inr (Nat.le_refl _))).setCell _ _ (Or.inr (Nat.le_refl _))).setCell _ _ (Or.inr (Nat.le_refl _))⟩
abbrev zero12:Array Value:=#[ii 0,ii 0,ii 0,ii 0,ii 0,ii 0,ii 0,ii 0,ii 0,ii 0,ii 0,ii 0]
def zv2 (bd:Nat->Int)(y:Nat):List Value:=(List.range 12).map fun x=>ii (bd (y*12+x))
theorem gq2 (bd:Nat->Int)(y:Nat):(zv2 bd y).length=12:=by simp [zv2]
theorem gq3 (bd:Nat->Int)(y:Nat):(zv2 bd y).toArray.all (·.oneCell')=true:=by
  simp [zv2,Value.oneCell']
theorem xw7:(Tryz.prog.info? 86).map (·.size)=some 12:=by kernel_rfl
theorem kq7:Tryz.t86.size=12:=by kernel_rfl
theorem vj4 (bd:Nat->Int)(y:Nat)(hy:y < 12):(qk8 bd).toArray.extract (y*12) (y*12+12)=(zv2 bd y).toArray:=by
 apply Array.ext_getElem?
 intro i
 simp only [qk8,zv2,Array.getElem?_extract,List.getElem?_toArray,List.getElem?_map]
 by_cases hi:i < 12
 ·rw [if_pos (by simp;omega),List.getElem?_range (by omega),List.getElem?_range hi]
  rfl
 ·rw [if_neg (by simp;omega),List.getElem?_eq_none (by simp;omega)]
  rfl
theorem qxq0:Tryz.t3.size=1:=by kernel_rfl
theorem fj4 (bd:Nat->Int)(y:Nat)(hy:y < 12)(w:World):(Instr.index 88 (.agg (qk8 bd).toArray) (.int .i64 y)).run Tryz.prog w=.ok (.agg (zv2 bd y).toArray) w:=by
 have hpt:(part 86 (qk8 bd).toArray (y*12)).run Tryz.prog w=.ok (.agg (zv2 bd y).toArray) w:=by
  have hb:=vj4 bd y hy
  rw [<- hb]
  simp [part,isAgg,run_underlying Tryz.underlying86,sizeOf,kq7]
 simp [Instr.index,run_underlying Tryz.underlying88,asIntOf,sizeOf,kq7,hpt]
 omega
theorem qjx9 (bd:Nat->Int)(y x:Nat)(hx:x < 12)(w:World):(Instr.index 86 (.agg (zv2 bd y).toArray) (.int .i64 x)).run Tryz.prog w=.ok (ii (bd (y*12+x))) w:=by
 have hc:(zv2 bd y).toArray[x]?=some (ii (bd (y*12+x))):=by simp [zv2,List.getElem?_range hx]
 have hpt:(part 3 (zv2 bd y).toArray x).run Tryz.prog w=.ok (ii (bd (y*12+x))) w:=by
  simp [part,isAgg,run_underlying Tryz.underlying3,hc]
 simp [Instr.index,run_underlying Tryz.underlying86,asIntOf,sizeOf,qxq0,hpt]
 omega
end Go.Proofs.YtapabahhfanmmaaGreatDoor
