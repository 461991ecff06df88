import Derived.Test.YtapabahhfanmmaaGreatDoorCLift
import Derived.Laws.CopyRow
import Derived.Laws.EntriesVeiled
namespace Go.Proofs.YtapabahhfanmmaaGreatDoor
open Go.RowKit
set_option maxRecDepth 100000
set_option maxHeartbeats 400000
set_option maxRecDepth 100000
theorem qy8:(Tryz.prog.info? 220).map (·.size)=some 24:=by kernel_rfl
theorem gw4 (w:World)(cs cs':Array Value)(t:TypeId)(fr:Nat×Nat):(w.alloc (.cells cs t fr)).setRow w.heap.size cs'=w.alloc (.cells cs' t fr):=by
 unfold World.setRow World.alloc
 congr 1
 apply Array.ext_getElem?
 intro i
 rw [Array.getElem?_modify]
 by_cases h:w.heap.size=i
 ·subst h;simp
 ·rw [if_neg h,Array.getElem?_push,Array.getElem?_push,if_neg (by omega),if_neg (by omega)]
theorem yw6 {P:Program} {ops:Array Oper} {rest:List Oper} {op:Oper} {a:Act} {w0:World} {Q:Exit->Act->World->Prop} (hgd:op.guard=none) (ty:TypeId) (x y:Operand) (ho:op.op=.store ty x y)
  (b o:Nat) (vs cs cs':Array Value) (t:TypeId) (hb:w0.heap.size=b) (hx:a.eval x=.pointer (some ⟨b,o,none⟩)) (hy:a.eval y=.agg vs)
  (hi:(P.info? ty).map (·.size)=some vs.size) (h1:vs.all (·.oneCell')=true) (hfit:o+vs.size<=cs.size)
  (hcs:(cs.toList.take o ++ vs.toList ++ cs.toList.drop (o+vs.size)).toArray=cs')
  (h:wpList P ops Q rest (a.put op.dst undef) (w0.alloc (.cells cs' t))):wpList P ops Q (op :: rest) a (w0.alloc (.cells cs t)):=by
 subst hb
 refine wpList_plain hgd fun _ hK=>?_
 have hst:=run_storeCells_at P w0.heap.size o t vs.toList 0 cs (w0.alloc (.cells cs t)) (qq6 _ _) (by simpa using hfit) (fun v hv=>(Array.all_eq_true_iff_forall_mem.1 h1) v (by simpa using hv))
 simp only [Nat.add_zero,Array.length_toList,hcs,gw4] at hst
 unfold Oper.wp execOp
 cases hq:P.info? ty with
 | none=>simp [hq] at hi
 | some i =>
  have hs:vs.size=i.size:=by simp [hq] at hi;omega
  have hsv:(storeVar ty ⟨w0.heap.size,o,none⟩ (.agg vs)).run P (w0.alloc (.cells cs t))=.ok () (w0.alloc (.cells cs' t)):=by
   simp [storeVar,sizeOf,typeInfo,hq,Value.cells,hs,hst]
  simp only [ho,hx,hy,Instr.storeAt,Instr.sureAddr,Sem.run_bind,Sem.run_pure,Result.andThen_ok,hsv]
  exact hK _ _ h
abbrev kz:Array Value:=#[.int .i64 0,.int .i64 0,.int .i64 0,.bool false,.nilFunc,.nilFunc,.nilFunc,.nilFunc,.nilFunc,.nilFunc,.nilFunc,.nilFunc,.nilFunc,.nilFunc,.nilFunc,.nilFunc,.nilFunc,.nilFunc,.nilFunc,.nilFunc,.nilFunc,.nilFunc,.nilFunc,.nilFunc]
theorem kk8 (n:Int)(w:World)(h1:(n==1)=false)(h2:(n==2)=false)(h3:(n==3)=false) :
  Calls Tryz.prog 121 #[.int .i64 n] w fun e w'=>e=.returned dk0/\Fr [] w w':=by
 go_enter Tryz.func121,Tryz.ntmps121
 iterate 65 (first|go_values|go_skip|go_guarded|go_step|go_upon)
 refine wpList_load_row rfl 220 _ rfl (w.heap.size+1) rfl 220 kz (0,0) _ (qz4 w _ _) Tryz.underlying220 rfl qy8 ?_
 refine wpList_store_row rfl 220 _ _ rfl w.heap.size kz rfl rfl 220 kz (qz8 w _ _) qy8 rfl (by simp [Value.oneCell']) ?_
 go_wp2
 exact bodyPost_ret (v:=dk0) (results_cell_row Tryz.results121 _ _ w.heap.size 220 kz (0,0) _ rfl (setRow_heap _ _ kz kz _ _ (qz8 w _ _)) Tryz.underlying220 rfl qy8) rfl ⟨rfl,(((Fr.refl _ _).alloc _).alloc _).setRow _ _ (Or.inr (Nat.le_refl _))⟩
abbrev kc1:Array Value:=#[.int .i64 40,.int .i64 0,.int .i64 0,.bool false,fv 167,fv 167,fv 168,fv 169,.nilFunc,.nilFunc,.nilFunc,.nilFunc,.nilFunc,.nilFunc,.nilFunc,.nilFunc,.nilFunc,.nilFunc,.nilFunc,.nilFunc,fv 154,fv 154,fv 155,fv 156]
theorem one1:kc1.all (·.oneCell')=true:=by simp [Value.oneCell']
theorem jx0 (w:World) :
  Calls Tryz.prog 121 #[.int .i64 1] w fun e w'=>e=.returned jk7/\Fr [] w w':=by
 go_enter Tryz.func121,Tryz.ntmps121
 go_wp2_with (first
  | (refine wpList_load_row rfl 220 _ rfl (w.heap.size+1) rfl 220 kc1 (0,0) _ (qz4 w _ _) Tryz.underlying220 rfl qy8 ?_)
  | (refine wpList_store_row rfl 220 _ _ rfl w.heap.size kc1 rfl rfl 220 kz (qz8 w _ _) qy8 rfl one1 ?_))
 exact bodyPost_ret (v:=jk7) (results_cell_row Tryz.results121 _ _ w.heap.size 220 kc1 (0,0) _ rfl (setRow_heap _ _ kz kc1 _ _ (qz8 w _ _)) Tryz.underlying220 rfl qy8) rfl ⟨rfl,(((Fr.refl _ _).alloc _).alloc _).setRow _ _ (Or.inr (Nat.le_refl _))⟩
abbrev kc2:Array Value:=#[.int .i64 8,.int .i64 5,.int .i64 5,.bool true,fv 167,fv 167,fv 168,fv 169,fv 157,fv 157,fv 158,fv 159,fv 160,fv 161,fv 158,fv 162,.nilFunc,.nilFunc,.nilFunc,.nilFunc,.nilFunc,.nilFunc,.nilFunc,.nilFunc]
theorem qjj9:kc2.all (·.oneCell')=true:=by simp [Value.oneCell']
theorem zk8 (w:World) :
  Calls Tryz.prog 121 #[.int .i64 2] w fun e w'=>e=.returned jj9/\Fr [] w w':=by
 go_enter Tryz.func121,Tryz.ntmps121
 go_wp2_with (first
  | (refine wpList_load_row rfl 220 _ rfl (w.heap.size+1) rfl 220 kc2 (0,0) _ (qz4 w _ _) Tryz.underlying220 rfl qy8 ?_)
  | (refine wpList_store_row rfl 220 _ _ rfl w.heap.size kc2 rfl rfl 220 kz (qz8 w _ _) qy8 rfl qjj9 ?_))
 exact bodyPost_ret (v:=jj9) (results_cell_row Tryz.results121 _ _ w.heap.size 220 kc2 (0,0) _ rfl (setRow_heap _ _ kz kc2 _ _ (qz8 w _ _)) Tryz.underlying220 rfl qy8) rfl ⟨rfl,(((Fr.refl _ _).alloc _).alloc _).setRow _ _ (Or.inr (Nat.le_refl _))⟩
abbrev kc3:Array Value:=#[.int .i64 12,.int .i64 8,.int .i64 0,.bool true,fv 167,fv 167,fv 168,fv 169,fv 157,fv 157,fv 158,fv 159,.nilFunc,.nilFunc,.nilFunc,.nilFunc,fv 163,fv 164,fv 165,fv 166,.nilFunc,.nilFunc,.nilFunc,.nilFunc]
theorem qjx0:kc3.all (·.oneCell')=true:=by simp [Value.oneCell']
theorem jq3 (w:World) :
  Calls Tryz.prog 121 #[.int .i64 3] w fun e w'=>e=.returned jk8/\Fr [] w w':=by
 go_enter Tryz.func121,Tryz.ntmps121
 go_wp2_with (first
  | (refine wpList_load_row rfl 220 _ rfl (w.heap.size+1) rfl 220 kc3 (0,0) _ (qz4 w _ _) Tryz.underlying220 rfl qy8 ?_)
  | (refine wpList_store_row rfl 220 _ _ rfl w.heap.size kc3 rfl rfl 220 kz (qz8 w _ _) qy8 rfl qjx0 ?_))
 exact bodyPost_ret (v:=jk8) (results_cell_row Tryz.results121 _ _ w.heap.size 220 kc3 (0,0) _ rfl (setRow_heap _ _ kz kc3 _ _ (qz8 w _ _)) Tryz.underlying220 rfl qy8) rfl ⟨rfl,(((Fr.refl _ _).alloc _).alloc _).setRow _ _ (Or.inr (Nat.le_refl _))⟩
set_option maxRecDepth 100000
theorem yz3 (n:Nat)(w:World):(binOp BinOp.neq 215 (.func (.func n) #[] #[]) .nilFunc).run Tryz.prog w=.ok (.bool true) w:=by kernel_rfl
theorem yz4 (w:World):(binOp BinOp.neq 215 .nilFunc .nilFunc).run Tryz.prog w=.ok (.bool false) w:=by kernel_rfl
abbrev sk0:Value:=.agg #[.nilFunc,.nilFunc,.nilFunc,.nilFunc]
theorem qy4 (v:Array Value)(what:Int)(w:World)(h:what < 0\/5<=what) :
  Calls Tryz.prog 193 #[.agg v,.int .i64 what] w fun e w'=>e=.returned (.tuple #[sk0,.bool false])/\Fr [] w w':=by
 rcases h with h|h
 ·go_enter Tryz.func193,Tryz.ntmps193
  go_wp2
  exact bodyPost_ret (v:=.tuple #[sk0,.bool false]) (by simp [results,Tryz.results193,go_sem]) rfl ⟨rfl,((Fr.refl _ _).alloc _).alloc _⟩
 ·have h0:¬ what < 0:=by omega
  go_enter Tryz.func193,Tryz.ntmps193
  go_wp2
  exact bodyPost_ret (v:=.tuple #[sk0,.bool false]) (by simp [results,Tryz.results193,go_sem]) rfl ⟨rfl,((Fr.refl _ _).alloc _).alloc _⟩
theorem vv7 (w:World) :
  Calls Tryz.prog 193 #[jk7,.int .i64 0] w fun e w'=>e=.returned (.tuple #[.agg #[fv 167,fv 167,fv 168,fv 169],.bool true])/\Fr [] w w':=by
 go_enter Tryz.func193,Tryz.ntmps193
 have hn1:=yz3
 have hn2:=yz4
 go_wp2
 go_region
 go_wp2
 exact bodyPost_ret (v:=.tuple #[.agg #[fv 167,fv 167,fv 168,fv 169],.bool true]) (by simp [results,Tryz.results193,go_sem]) rfl ⟨rfl,((((Fr.refl _ _).alloc _).alloc _).alloc _).drew⟩
theorem gq7 (w:World) :
  Calls Tryz.prog 193 #[jk7,.int .i64 1] w fun e w'=>e=.returned (.tuple #[.agg #[.nilFunc,.nilFunc,.nilFunc,.nilFunc],.bool false])/\Fr [] w w':=by
 go_enter Tryz.func193,Tryz.ntmps193
 have hn1:=yz3
 have hn2:=yz4
 go_wp2
 go_region
 go_wp2
 exact bodyPost_ret (v:=.tuple #[.agg #[.nilFunc,.nilFunc,.nilFunc,.nilFunc],.bool false]) (by simp [results,Tryz.results193,go_sem]) rfl ⟨rfl,((((Fr.refl _ _).alloc _).alloc _).alloc _).drew⟩
theorem gq8 (w:World) :
  Calls Tryz.prog 193 #[jk7,.int .i64 2] w fun e w'=>e=.returned (.tuple #[.agg #[.nilFunc,.nilFunc,.nilFunc,.nilFunc],.bool false])/\Fr [] w w':=by
 go_enter Tryz.func193,Tryz.ntmps193
 have hn1:=yz3
 have hn2:=yz4
 go_wp2
 go_region
 go_wp2
 exact bodyPost_ret (v:=.tuple #[.agg #[.nilFunc,.nilFunc,.nilFunc,.nilFunc],.bool false]) (by simp [results,Tryz.results193,go_sem]) rfl ⟨rfl,((((Fr.refl _ _).alloc _).alloc _).alloc _).drew⟩
theorem gq9 (w:World) :
  Calls Tryz.prog 193 #[jk7,.int .i64 3] w fun e w'=>e=.returned (.tuple #[.agg #[.nilFunc,.nilFunc,.nilFunc,.nilFunc],.bool false])/\Fr [] w w':=by
 go_enter Tryz.func193,Tryz.ntmps193
 have hn1:=yz3
 have hn2:=yz4
 go_wp2
 go_region
 go_wp2
 exact bodyPost_ret (v:=.tuple #[.agg #[.nilFunc,.nilFunc,.nilFunc,.nilFunc],.bool false]) (by simp [results,Tryz.results193,go_sem]) rfl ⟨rfl,((((Fr.refl _ _).alloc _).alloc _).alloc _).drew⟩
theorem vv8 (w:World) :
  Calls Tryz.prog 193 #[jk7,.int .i64 4] w fun e w'=>e=.returned (.tuple #[.agg #[fv 154,fv 154,fv 155,fv 156],.bool true])/\Fr [] w w':=by
 go_enter Tryz.func193,Tryz.ntmps193
 have hn1:=yz3
 have hn2:=yz4
 go_wp2
 go_region
 go_wp2
 exact bodyPost_ret (v:=.tuple #[.agg #[fv 154,fv 154,fv 155,fv 156],.bool true]) (by simp [results,Tryz.results193,go_sem]) rfl ⟨rfl,((((Fr.refl _ _).alloc _).alloc _).alloc _).drew⟩
theorem vv9 (w:World) :
  Calls Tryz.prog 193 #[jj9,.int .i64 0] w fun e w'=>e=.returned (.tuple #[.agg #[fv 167,fv 167,fv 168,fv 169],.bool true])/\Fr [] w w':=by
 go_enter Tryz.func193,Tryz.ntmps193
 have hn1:=yz3
 have hn2:=yz4
 go_wp2
 go_region
 go_wp2
 exact bodyPost_ret (v:=.tuple #[.agg #[fv 167,fv 167,fv 168,fv 169],.bool true]) (by simp [results,Tryz.results193,go_sem]) rfl ⟨rfl,((((Fr.refl _ _).alloc _).alloc _).alloc _).drew⟩
theorem vw0 (w:World) :
  Calls Tryz.prog 193 #[jj9,.int .i64 1] w fun e w'=>e=.returned (.tuple #[.agg #[fv 157,fv 157,fv 158,fv 159],.bool true])/\Fr [] w w':=by
 go_enter Tryz.func193,Tryz.ntmps193
 have hn1:=yz3
 have hn2:=yz4
 go_wp2
 go_region
 go_wp2
 exact bodyPost_ret (v:=.tuple #[.agg #[fv 157,fv 157,fv 158,fv 159],.bool true]) (by simp [results,Tryz.results193,go_sem]) rfl ⟨rfl,((((Fr.refl _ _).alloc _).alloc _).alloc _).drew⟩
theorem vw1 (w:World) :
  Calls Tryz.prog 193 #[jj9,.int .i64 2] w fun e w'=>e=.returned (.tuple #[.agg #[fv 160,fv 161,fv 158,fv 162],.bool true])/\Fr [] w w':=by
 go_enter Tryz.func193,Tryz.ntmps193
 have hn1:=yz3
 have hn2:=yz4
 go_wp2
 go_region
 go_wp2
 exact bodyPost_ret (v:=.tuple #[.agg #[fv 160,fv 161,fv 158,fv 162],.bool true]) (by simp [results,Tryz.results193,go_sem]) rfl ⟨rfl,((((Fr.refl _ _).alloc _).alloc _).alloc _).drew⟩
theorem gz0 (w:World) :
  Calls Tryz.prog 193 #[jj9,.int .i64 3] w fun e w'=>e=.returned (.tuple #[.agg #[.nilFunc,.nilFunc,.nilFunc,.nilFunc],.bool false])/\Fr [] w w':=by
 go_enter Tryz.func193,Tryz.ntmps193
 have hn1:=yz3
 have hn2:=yz4
 go_wp2
 go_region
 go_wp2
 exact bodyPost_ret (v:=.tuple #[.agg #[.nilFunc,.nilFunc,.nilFunc,.nilFunc],.bool false]) (by simp [results,Tryz.results193,go_sem]) rfl ⟨rfl,((((Fr.refl _ _).alloc _).alloc _).alloc _).drew⟩
theorem gz1 (w:World) :
  Calls Tryz.prog 193 #[jj9,.int .i64 4] w fun e w'=>e=.returned (.tuple #[.agg #[.nilFunc,.nilFunc,.nilFunc,.nilFunc],.bool false])/\Fr [] w w':=by
 go_enter Tryz.func193,Tryz.ntmps193
 have hn1:=yz3
 have hn2:=yz4
 go_wp2
 go_region
 go_wp2
 exact bodyPost_ret (v:=.tuple #[.agg #[.nilFunc,.nilFunc,.nilFunc,.nilFunc],.bool false]) (by simp [results,Tryz.results193,go_sem]) rfl ⟨rfl,((((Fr.refl _ _).alloc _).alloc _).alloc _).drew⟩
theorem vw2 (w:World) :
  Calls Tryz.prog 193 #[jk8,.int .i64 0] w fun e w'=>e=.returned (.tuple #[.agg #[fv 167,fv 167,fv 168,fv 169],.bool true])/\Fr [] w w':=by
 go_enter Tryz.func193,Tryz.ntmps193
 have hn1:=yz3
 have hn2:=yz4
 go_wp2
 go_region
 go_wp2
 exact bodyPost_ret (v:=.tuple #[.agg #[fv 167,fv 167,fv 168,fv 169],.bool true]) (by simp [results,Tryz.results193,go_sem]) rfl ⟨rfl,((((Fr.refl _ _).alloc _).alloc _).alloc _).drew⟩
theorem vw3 (w:World) :
  Calls Tryz.prog 193 #[jk8,.int .i64 1] w fun e w'=>e=.returned (.tuple #[.agg #[fv 157,fv 157,fv 158,fv 159],.bool true])/\Fr [] w w':=by
 go_enter Tryz.func193,Tryz.ntmps193
 have hn1:=yz3
 have hn2:=yz4
 go_wp2
 go_region
 go_wp2
 exact bodyPost_ret (v:=.tuple #[.agg #[fv 157,fv 157,fv 158,fv 159],.bool true]) (by simp [results,Tryz.results193,go_sem]) rfl ⟨rfl,((((Fr.refl _ _).alloc _).alloc _).alloc _).drew⟩
theorem gz2 (w:World) :
  Calls Tryz.prog 193 #[jk8,.int .i64 2] w fun e w'=>e=.returned (.tuple #[.agg #[.nilFunc,.nilFunc,.nilFunc,.nilFunc],.bool false])/\Fr [] w w':=by
 go_enter Tryz.func193,Tryz.ntmps193
 have hn1:=yz3
 have hn2:=yz4
 go_wp2
 go_region
 go_wp2
 exact bodyPost_ret (v:=.tuple #[.agg #[.nilFunc,.nilFunc,.nilFunc,.nilFunc],.bool false]) (by simp [results,Tryz.results193,go_sem]) rfl ⟨rfl,((((Fr.refl _ _).alloc _).alloc _).alloc _).drew⟩
theorem vw4 (w:World) :
  Calls Tryz.prog 193 #[jk8,.int .i64 3] w fun e w'=>e=.returned (.tuple #[.agg #[fv 163,fv 164,fv 165,fv 166],.bool true])/\Fr [] w w':=by
 go_enter Tryz.func193,Tryz.ntmps193
 have hn1:=yz3
 have hn2:=yz4
 go_wp2
 go_region
 go_wp2
 exact bodyPost_ret (v:=.tuple #[.agg #[fv 163,fv 164,fv 165,fv 166],.bool true]) (by simp [results,Tryz.results193,go_sem]) rfl ⟨rfl,((((Fr.refl _ _).alloc _).alloc _).alloc _).drew⟩
theorem gz3 (w:World) :
  Calls Tryz.prog 193 #[jk8,.int .i64 4] w fun e w'=>e=.returned (.tuple #[.agg #[.nilFunc,.nilFunc,.nilFunc,.nilFunc],.bool false])/\Fr [] w w':=by
 go_enter Tryz.func193,Tryz.ntmps193
 have hn1:=yz3
 have hn2:=yz4
 go_wp2
 go_region
 go_wp2
 exact bodyPost_ret (v:=.tuple #[.agg #[.nilFunc,.nilFunc,.nilFunc,.nilFunc],.bool false]) (by simp [results,Tryz.results193,go_sem]) rfl ⟨rfl,((((Fr.refl _ _).alloc _).alloc _).alloc _).drew⟩
def Ppl (w:World)(b:Nat)(us:List U):Prop:=∀ (i:Nat) (h:i < us.length),w.rangeAt b (i*11) us[i].cells
theorem Ppl.fr {S:List Nat}{w w':World}{b:Nat}{us:List U}(h:Ppl w b us)(hf:Fr S w w')(hn:b∉S):Ppl w' b us:=fun i hi j v hv=>by
 have h1:=h i hi j v hv
 rw [hf.cell b _ (qq1 h1) hn];exact h1
theorem Ppl.at {w:World}{b k:Nat}{us:List U}{u:U}(h:Ppl w b us)(hk:us[k]?=some u) :
  w.cell? ⟨b,k*11,none⟩=some (ii u.id)/\w.cell? ⟨b,k*11+1,none⟩=some (ii u.owner)/\w.cell? ⟨b,k*11+2,none⟩=some (ii u.kind)/\w.cell? ⟨b,k*11+3,none⟩=some (ii u.x) /\
  w.cell? ⟨b,k*11+4,none⟩=some (ii u.y)/\w.cell? ⟨b,k*11+5,none⟩=some (ii u.life)/\w.cell? ⟨b,k*11+6,none⟩=some (ii u.load)/\w.cell? ⟨b,k*11+7,none⟩=some (ii u.what) /\
  w.cell? ⟨b,k*11+8,none⟩=some (ii u.tox)/\w.cell? ⟨b,k*11+9,none⟩=some (ii u.toy)/\w.cell? ⟨b,k*11+10,none⟩=some (ii u.target):=by
 obtain ⟨hl,rfl⟩:=List.getElem?_eq_some_iff.1 hk
 have:=h k hl
 exact ⟨this 0 _ rfl,this 1 _ rfl,this 2 _ rfl,this 3 _ rfl,this 4 _ rfl,this 5 _ rfl,this 6 _ rfl,this 7 _ rfl,this 8 _ rfl,this 9 _ rfl,this 10 _ rfl⟩
def qq4 (o:Int)(u:U):Bool:=u.kind==1&&u.owner==o
def qj8 (us:List U)(o:Int):Option U:=us.find? (qq4 o)
abbrev zeroU:U:=⟨0,0,0,0,0,0,0,0,0,0,0⟩
theorem qq5:(Tryz.prog.info? 85).map (·.size)=some 11:=by kernel_rfl
theorem dz3 (b pb cap:Nat)(us:List U)(o:Int)(w:World)(hc:w.cell? ⟨b,148,none⟩=some (.slice (some ⟨pb,0,none⟩) us.length cap))(hp:Ppl w pb us)(hlen:us.length<=maxLen)(hb:b < w.heap.size) :
  Calls Tryz.prog 92 #[.pointer (some ⟨b,0,none⟩),.int .i64 o] w fun e w'=>e=.returned (.tuple #[((qj8 us o).getD zeroU).val,.bool (qj8 us o).isSome])/\Fr [] w w':=by
 unfold maxLen at hlen
 go_enter Tryz.func92,Tryz.ntmps92
 go_wp2
 go_loopw [13] (fun i wr=>∃ k:Nat,k<=us.length/\i=.int .i64 k/\(∀ j (h:j < k) (h':j < us.length),qq4 o us[j]=false)/\Fr [] (w.alloc (.cells #[ii 0,ii 0,ii 0,ii 0,ii 0,ii 0,ii 0,ii 0,ii 0,ii 0,ii 0] 85)) wr) (fun i _=>us.length - (intOf i).toNat)
 case atStart=>exact ⟨0,Nat.zero_le _,rfl,fun j h=>by omega,Fr.refl _ _⟩
 case round =>
  obtain ⟨k,hk,rfl,hno,hf⟩:=hrel
  by_cases hlt:k < us.length
  ·obtain ⟨u,hu⟩:∃ u,us[k]?=some u:=⟨us[k],List.getElem?_eq_getElem hlt⟩
   obtain ⟨c0,c1,c2,c3,c4,c5,c6,c7,c8,c9,c10⟩:=((hp.fr ((Fr.refl [] w).alloc _) (by simp)).fr hf (by simp)).at hu
   have HU:=(show Hid (us[k]?=some u) from hu)
   clear hu
   have hsz:w.heap.size < wr.heap.size:=by have:=hf.size;simp at this;omega
   have hh:=hf.heap0 (qq6 w _)
   by_cases hk1:(u.kind==1)=true
   ·by_cases ho1:(u.owner==o)=true
    ·have HB:Hid (qq4 o u=true):=by simp [Hid,qq4,hk1,ho1]
     go_wp2_with (refine wpList_store_row rfl 85 _ _ rfl w.heap.size u.arr rfl rfl 85 _ ((qz7 _ _ _ hsz).trans hh) qq5 rfl u.one ?_)
     have hbo:qj8 us o=some u:=by
      unfold qj8
      rw [List.find?_eq_some_iff_getElem]
      refine ⟨HB.out,k,hlt,?_,fun j hj=>by simp [hno j hj (by omega)]⟩
      have:=HU.out;rw [List.getElem?_eq_getElem hlt] at this;exact Option.some.inj this
     rw [hbo]
     exact bodyPost_ret (v:=.tuple #[u.val,.bool true]) (qq3 Tryz.results92 _ _ w.heap.size 85 u.arr (0,0) _ _ rfl rfl (setRow_heap _ _ _ u.arr _ _ ((qz7 _ _ _ hsz).trans hh)) Tryz.underlying85 rfl qq5) rfl ⟨rfl,((((Fr.refl _ _).alloc _).then0 hf).alloc _).setRow _ _ (Or.inr (Nat.le_refl _))⟩
    ·simp only [Bool.not_eq_true] at ho1
     have HB:Hid (qq4 o u=false):=by simp [Hid,qq4,ho1]
     go_wp2
     go_roundw
     case rel =>
      refine ⟨k+1,hlt,by go_num,fun j hj hj'=>?_,hf.alloc _⟩
      rcases Nat.lt_or_ge j k with h|h
      ·exact hno j h hj'
      ·have hjk:j=k:=by omega
       subst hjk
       have:=HU.out;rw [List.getElem?_eq_getElem hlt] at this;rw [Option.some.inj this];exact HB.out
     case measure=>simp [intOf];omega
   ·simp only [Bool.not_eq_true] at hk1
    have HB:Hid (qq4 o u=false):=by simp [Hid,qq4,hk1]
    go_wp2
    go_roundw
    case rel =>
     refine ⟨k+1,hlt,by go_num,fun j hj hj'=>?_,hf.alloc _⟩
     rcases Nat.lt_or_ge j k with h|h
     ·exact hno j h hj'
     ·have hjk:j=k:=by omega
      subst hjk
      have:=HU.out;rw [List.getElem?_eq_getElem hlt] at this;rw [Option.some.inj this];exact HB.out
    case measure=>simp [intOf];omega
  ·have hh:=hf.heap0 (qq6 w _)
   go_wp2_with (refine wpList_store_row rfl 85 _ _ rfl w.heap.size zeroU.arr rfl rfl 85 _ hh qq5 rfl zeroU.one ?_)
   have hbo:qj8 us o=none:=by
    unfold qj8
    rw [List.find?_eq_none]
    intro x hx
    obtain ⟨j,hj,rfl⟩:=List.mem_iff_getElem.1 hx
    simp [hno j (by omega) hj]
   rw [hbo]
   exact bodyPost_ret (v:=.tuple #[zeroU.val,.bool false]) (qq3 Tryz.results92 _ _ w.heap.size 85 zeroU.arr (0,0) _ _ rfl rfl (setRow_heap _ _ _ zeroU.arr _ _ hh) Tryz.underlying85 rfl qq5) rfl ⟨rfl,(((Fr.refl _ _).alloc _).then0 hf).setRow _ _ (Or.inr (Nat.le_refl _))⟩
structure GV (w:World) (b pb cap:Nat) (us:List U):Prop where
 c:w.cell? ⟨b,148,none⟩=some (.slice (some ⟨pb,0,none⟩) us.length cap)
 p:Ppl w pb us
 len:us.length<=1000
theorem GV.fr {S:List Nat}{w w':World}{b pb cap:Nat}{us:List U}(h:GV w b pb cap us)(hf:Fr S w w')(h1:b∉S)(h2:pb∉S):GV w' b pb cap us :=
  ⟨by rw [hf.cell b _ (qq1 h.c) h1];exact h.c,h.p.fr hf h2,h.len⟩
theorem GV.fr0 {w w':World}{b pb cap:Nat}{us:List U}(h:GV w b pb cap us)(hf:Fr [] w w'):GV w' b pb cap us:=h.fr hf (by simp) (by simp)
theorem vj3 (b pb cap:Nat)(us:List U)(o:Int)(w:World)(hg:GV w b pb cap us) :
  Calls Tryz.prog 92 #[.pointer (some ⟨b,0,none⟩),.int .i64 o] w fun e w'=>e=.returned (.tuple #[((qj8 us o).getD zeroU).val,.bool (qj8 us o).isSome])/\Fr [] w w' :=
 dz3 b pb cap us o w hg.c hg.p (Nat.le_trans hg.len (by decide)) (qq1 hg.c)
set_option maxRecDepth 100000
def qx3 (us:List U):Bool := !(qj8 us 0).isSome || !(qj8 us 1).isSome
def zk4 (us:List U):Int:=if (qj8 us 0).isSome=(qj8 us 1).isSome then 0 else if (qj8 us 0).isSome then 1 else 2
theorem jw0 (b pb cap:Nat)(us:List U)(w:World)(hg:GV w b pb cap us) :
  Calls Tryz.prog 116 #[.pointer (some ⟨b,0,none⟩)] w fun e w'=>e=.returned (.bool (qx3 us))/\Fr [] w w':=by
 go_enter Tryz.func116,Tryz.ntmps116
 go_wp2_with fail
 refine (vj3 b pb cap us 0 _ hg).mono ?_
 rintro e w1 ⟨rfl,hf1⟩
 obtain ⟨u0,hu0⟩:∃ u,u=(qj8 us 0).getD zeroU:=⟨_,rfl⟩
 rw [<- hu0]
 clear hu0
 go_wp2_with fail
 refine (vj3 b pb cap us 1 _ (hg.fr0 (hf1.alloc _))).mono ?_
 rintro e w2 ⟨rfl,hf2⟩
 obtain ⟨u1,hu1⟩:∃ u,u=(qj8 us 1).getD zeroU:=⟨_,rfl⟩
 rw [<- hu1]
 clear hu1
 generalize hb0:(qj8 us 0).isSome=b0
 generalize hb1:(qj8 us 1).isSome=b1
 have HO:Hid (qx3 us=(!b0 || !b1)):=by simp [Hid,qx3,hb0,hb1]
 clear hb0 hb1
 cases b0 <;> cases b1
 all_goals
  go_wp2
  go_ret
  exact ⟨by rw [HO.out];rfl,((hf1.alloc _).then0 hf2).alloc _⟩
theorem yj1 (b pb cap:Nat)(us:List U)(w:World)(hg:GV w b pb cap us) :
  Calls Tryz.prog 50 #[.pointer (some ⟨b,0,none⟩)] w fun e w'=>e=.returned (.int .i64 (zk4 us))/\Fr [] w w':=by
 go_enter Tryz.func50,Tryz.ntmps50
 go_wp2_with fail
 refine (vj3 b pb cap us 0 _ hg).mono ?_
 rintro e w1 ⟨rfl,hf1⟩
 obtain ⟨u0,hu0⟩:∃ u,u=(qj8 us 0).getD zeroU:=⟨_,rfl⟩
 rw [<- hu0]
 clear hu0
 go_wp2_with fail
 refine (vj3 b pb cap us 1 _ (hg.fr0 (hf1.alloc _))).mono ?_
 rintro e w2 ⟨rfl,hf2⟩
 obtain ⟨u1,hu1⟩:∃ u,u=(qj8 us 1).getD zeroU:=⟨_,rfl⟩
 rw [<- hu1]
 clear hu1
 generalize hb0:(qj8 us 0).isSome=b0
 generalize hb1:(qj8 us 1).isSome=b1
 have HO:Hid (zk4 us=(if b0=b1 then 0 else if b0 then 1 else 2)):=by simp [Hid,zk4,hb0,hb1]
 clear hb0 hb1
 cases b0 <;> cases b1
 all_goals
  go_wp2
  go_ret
  exact ⟨by rw [HO.out];rfl,((hf1.alloc _).then0 hf2).alloc _⟩
end Go.Proofs.YtapabahhfanmmaaGreatDoor
