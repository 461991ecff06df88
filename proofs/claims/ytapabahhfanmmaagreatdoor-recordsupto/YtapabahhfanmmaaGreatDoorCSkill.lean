import Derived.Test.YtapabahhfanmmaaGreatDoorCLift
import Derived.Laws.CopyRow
import Derived.Laws.EntriesVeiled
namespace Go.Proofs.YtapabahhfanmmaaGreatDoor
open Go.RowKit List
set_option maxHeartbeats 400000
set_option maxRecDepth 100000
theorem gQ:(Tryz.prog.info? 220).map (·.size)=some 24:=by kernel_rfl
theorem RQ (w:World)(cs a:Array Value)(t:TypeId)(fr:Nat×Nat):(w.alloc (.cells cs t fr)).setRow w.heap.size a=w.alloc (.cells a t fr):=by
 unfold World.setRow World.alloc
 congr 1
 apply Array.ext_getElem?
 intro i
 rw [Array.getElem?_modify]
 by_cases h:w.heap.size=i
 ·subst h;simp
 rw [if_neg h,Array.getElem?_push,Array.getElem?_push,if_neg (by omega),if_neg (by omega)]
theorem UY {P:Program} {g:Array Oper} {rest:List Oper} {j:Oper} {a:Act} {w0:World} {Q:Exit->Act->World->Prop} (l:j.guard=none) (ty:TypeId) (x y:Operand) (ho:j.op=.store ty x y)
  (b o:Nat) (c cs d:Array Value) (t:TypeId) (hb:w0.heap.size=b) (hx:a.eval x=.pointer (some ⟨b,o,none⟩)) (q:a.eval y=.agg c)
  (hi:(P.info? ty).map (·.size)=some c.size) (h1:c.all (·.oneCell')=true) (e:o+c.size<=cs.size)
  (k:(cs.toList.take o ++ c.toList ++ cs.toList.drop (o+c.size)).toArray=d)
  (h:wpList P g Q rest (a.put j.dst undef) (w0.alloc (.cells d t))):wpList P g Q (j :: rest) a (w0.alloc (.cells cs t)):=by
 subst hb
 refine wpList_plain l fun _ hK=>?_
 have f:=run_storeCells_at P w0.heap.size o t c.toList 0 cs (w0.alloc (.cells cs t)) (aC _ _) (by simpa using e) (fun v p=>(Array.all_eq_true_iff_forall_mem.1 h1) v (by simpa using p))
 simp only [Nat.add_zero,Array.length_toList,k,RQ] at f
 unfold Oper.wp execOp
 cases m:P.info? ty with
 | none=>simp [m] at hi
 | some i =>
  have hs:c.size=i.size:=by simp [m] at hi;omega
  have n:(storeVar ty ⟨w0.heap.size,o,none⟩ (.agg c)).run P (w0.alloc (.cells cs t))=.ok () (w0.alloc (.cells d t)):=by
   simp [storeVar,sizeOf,typeInfo,m,Value.cells,hs,f]
  simp only [ho,hx,q,Instr.storeAt,Instr.sureAddr,Sem.run_bind,Sem.run_pure,Result.andThen_ok,n]
  exact hK _ _ h
abbrev kz:Array Value:=#[.int .i64 0,.int .i64 0,.int .i64 0,.bool false,.nilFunc,.nilFunc,.nilFunc,.nilFunc,.nilFunc,.nilFunc,.nilFunc,.nilFunc,.nilFunc,.nilFunc,.nilFunc,.nilFunc,.nilFunc,.nilFunc,.nilFunc,.nilFunc,.nilFunc,.nilFunc,.nilFunc,.nilFunc]
theorem KE (n:Int)(w:World)(h1:(n==1)=false)(b:(n==2)=false)(c:(n==3)=false) :
  Cs 121 #[.int .i64 n] w fun e a=>e=.returned rC/\Fr [] w a:=by
 go_enter Tryz.func121,Tryz.ntmps121
 iterate 65 (first|go_values|go_skip|go_guarded|go_step|go_upon)
 refine wpList_load_row rfl 220 _ rfl (w.heap.size+1) rfl 220 kz (0,0) _ (cR w _ _) Tryz.underlying220 rfl gQ ?_
 refine wpList_store_row rfl 220 _ _ rfl w.heap.size kz rfl rfl 220 kz (dD w _ _) gQ rfl (by simp [Value.oneCell']) ?_
 go_wp2
 exact bodyPost_ret (v:=rC) (results_cell_row Tryz.results121 _ _ w.heap.size 220 kz (0,0) _ rfl (setRow_heap _ _ kz kz _ _ (dD w _ _)) Tryz.underlying220 rfl gQ) rfl ⟨rfl,(((r0 _ _).alloc _).alloc _).setRow _ _ (.inr (Nat.le_refl _))⟩
abbrev kc1:Array Value:=#[.int .i64 40,.int .i64 0,.int .i64 0,.bool false,fv 167,fv 167,fv 168,fv 169,.nilFunc,.nilFunc,.nilFunc,.nilFunc,.nilFunc,.nilFunc,.nilFunc,.nilFunc,.nilFunc,.nilFunc,.nilFunc,.nilFunc,fv 154,fv 154,fv 155,fv 156]
theorem MM:kc1.all (·.oneCell')=true:=by simp [Value.oneCell']
theorem mJ (w:World) :
  Cs 121 #[.int .i64 1] w fun e a=>e=.returned gZ/\Fr [] w a:=by
 go_enter Tryz.func121,Tryz.ntmps121
 go_wp2_with (first
  | (refine wpList_load_row rfl 220 _ rfl (w.heap.size+1) rfl 220 kc1 (0,0) _ (cR w _ _) Tryz.underlying220 rfl gQ ?_)
  | (refine wpList_store_row rfl 220 _ _ rfl w.heap.size kc1 rfl rfl 220 kz (dD w _ _) gQ rfl MM ?_))
 exact bodyPost_ret (v:=gZ) (results_cell_row Tryz.results121 _ _ w.heap.size 220 kc1 (0,0) _ rfl (setRow_heap _ _ kz kc1 _ _ (dD w _ _)) Tryz.underlying220 rfl gQ) rfl ⟨rfl,(((r0 _ _).alloc _).alloc _).setRow _ _ (.inr (Nat.le_refl _))⟩
abbrev kc2:Array Value:=#[.int .i64 8,.int .i64 5,.int .i64 5,.bool true,fv 167,fv 167,fv 168,fv 169,fv 157,fv 157,fv 158,fv 159,fv 160,fv 161,fv 158,fv 162,.nilFunc,.nilFunc,.nilFunc,.nilFunc,.nilFunc,.nilFunc,.nilFunc,.nilFunc]
theorem xQ:kc2.all (·.oneCell')=true:=by simp [Value.oneCell']
theorem jT (w:World) :
  Cs 121 #[.int .i64 2] w fun e a=>e=.returned gR/\Fr [] w a:=by
 go_enter Tryz.func121,Tryz.ntmps121
 go_wp2_with (first
  | (refine wpList_load_row rfl 220 _ rfl (w.heap.size+1) rfl 220 kc2 (0,0) _ (cR w _ _) Tryz.underlying220 rfl gQ ?_)
  | (refine wpList_store_row rfl 220 _ _ rfl w.heap.size kc2 rfl rfl 220 kz (dD w _ _) gQ rfl xQ ?_))
 exact bodyPost_ret (v:=gR) (results_cell_row Tryz.results121 _ _ w.heap.size 220 kc2 (0,0) _ rfl (setRow_heap _ _ kz kc2 _ _ (dD w _ _)) Tryz.underlying220 rfl gQ) rfl ⟨rfl,(((r0 _ _).alloc _).alloc _).setRow _ _ (.inr (Nat.le_refl _))⟩
abbrev kc3:Array Value:=#[.int .i64 12,.int .i64 8,.int .i64 0,.bool true,fv 167,fv 167,fv 168,fv 169,fv 157,fv 157,fv 158,fv 159,.nilFunc,.nilFunc,.nilFunc,.nilFunc,fv 163,fv 164,fv 165,fv 166,.nilFunc,.nilFunc,.nilFunc,.nilFunc]
theorem xR:kc3.all (·.oneCell')=true:=by simp [Value.oneCell']
theorem lB (w:World) :
  Cs 121 #[.int .i64 3] w fun e a=>e=.returned iA/\Fr [] w a:=by
 go_enter Tryz.func121,Tryz.ntmps121
 go_wp2_with (first
  | (refine wpList_load_row rfl 220 _ rfl (w.heap.size+1) rfl 220 kc3 (0,0) _ (cR w _ _) Tryz.underlying220 rfl gQ ?_)
  | (refine wpList_store_row rfl 220 _ _ rfl w.heap.size kc3 rfl rfl 220 kz (dD w _ _) gQ rfl xR ?_))
 exact bodyPost_ret (v:=iA) (results_cell_row Tryz.results121 _ _ w.heap.size 220 kc3 (0,0) _ rfl (setRow_heap _ _ kz kc3 _ _ (dD w _ _)) Tryz.underlying220 rfl gQ) rfl ⟨rfl,(((r0 _ _).alloc _).alloc _).setRow _ _ (.inr (Nat.le_refl _))⟩
set_option maxRecDepth 100000
theorem gB (n:Nat)(w:World):(binOp BinOp.neq 215 (.func (.func n) #[] #[]) .nilFunc).run Tryz.prog w=.ok (.bool true) w:=by kernel_rfl
theorem gC (w:World):(binOp BinOp.neq 215 .nilFunc .nilFunc).run Tryz.prog w=.ok (.bool false) w:=by kernel_rfl
abbrev pE:Value:=.agg #[.nilFunc,.nilFunc,.nilFunc,.nilFunc]
theorem lP (v:Array Value)(a:Int)(w:World)(h:a < 0\/5<=a) :
  Cs 193 #[.agg v,.int .i64 a] w fun e b=>e=.returned (.tuple #[pE,.bool false])/\Fr [] w b:=by
 rcases h with h|h
 ·go_enter Tryz.func193,Tryz.ntmps193
  go_wp2
  exact bodyPost_ret (v:=.tuple #[pE,.bool false]) (by simp [results,Tryz.results193,go_sem]) rfl ⟨rfl,((r0 _ _).alloc _).alloc _⟩
 have c:¬ a < 0:=by omega
 go_enter Tryz.func193,Tryz.ntmps193
 go_wp2
 exact bodyPost_ret (v:=.tuple #[pE,.bool false]) (by simp [results,Tryz.results193,go_sem]) rfl ⟨rfl,((r0 _ _).alloc _).alloc _⟩
theorem AK (w:World) :
  Cs 193 #[gZ,.int .i64 0] w fun e c=>e=.returned (.tuple #[.agg #[fv 167,fv 167,fv 168,fv 169],.bool true])/\Fr [] w c:=by
 go_enter Tryz.func193,Tryz.ntmps193
 have a:=gB
 have b:=gC
 go_wp2
 go_region
 go_wp2
 exact bodyPost_ret (v:=.tuple #[.agg #[fv 167,fv 167,fv 168,fv 169],.bool true]) (by simp [results,Tryz.results193,go_sem]) rfl ⟨rfl,((((r0 _ _).alloc _).alloc _).alloc _).drew⟩
theorem SA (w:World) :
  Cs 193 #[gZ,.int .i64 1] w fun e c=>e=.returned (.tuple #[.agg #[.nilFunc,.nilFunc,.nilFunc,.nilFunc],.bool false])/\Fr [] w c:=by
 go_enter Tryz.func193,Tryz.ntmps193
 have a:=gB
 have b:=gC
 go_wp2
 go_region
 go_wp2
 exact bodyPost_ret (v:=.tuple #[.agg #[.nilFunc,.nilFunc,.nilFunc,.nilFunc],.bool false]) (by simp [results,Tryz.results193,go_sem]) rfl ⟨rfl,((((r0 _ _).alloc _).alloc _).alloc _).drew⟩
theorem SC (w:World) :
  Cs 193 #[gZ,.int .i64 2] w fun e c=>e=.returned (.tuple #[.agg #[.nilFunc,.nilFunc,.nilFunc,.nilFunc],.bool false])/\Fr [] w c:=by
 go_enter Tryz.func193,Tryz.ntmps193
 have a:=gB
 have b:=gC
 go_wp2
 go_region
 go_wp2
 exact bodyPost_ret (v:=.tuple #[.agg #[.nilFunc,.nilFunc,.nilFunc,.nilFunc],.bool false]) (by simp [results,Tryz.results193,go_sem]) rfl ⟨rfl,((((r0 _ _).alloc _).alloc _).alloc _).drew⟩
theorem SE (w:World) :
  Cs 193 #[gZ,.int .i64 3] w fun e c=>e=.returned (.tuple #[.agg #[.nilFunc,.nilFunc,.nilFunc,.nilFunc],.bool false])/\Fr [] w c:=by
 go_enter Tryz.func193,Tryz.ntmps193
 have a:=gB
 have b:=gC
 go_wp2
 go_region
 go_wp2
 exact bodyPost_ret (v:=.tuple #[.agg #[.nilFunc,.nilFunc,.nilFunc,.nilFunc],.bool false]) (by simp [results,Tryz.results193,go_sem]) rfl ⟨rfl,((((r0 _ _).alloc _).alloc _).alloc _).drew⟩
theorem AL (w:World) :
  Cs 193 #[gZ,.int .i64 4] w fun e c=>e=.returned (.tuple #[.agg #[fv 154,fv 154,fv 155,fv 156],.bool true])/\Fr [] w c:=by
 go_enter Tryz.func193,Tryz.ntmps193
 have a:=gB
 have b:=gC
 go_wp2
 go_region
 go_wp2
 exact bodyPost_ret (v:=.tuple #[.agg #[fv 154,fv 154,fv 155,fv 156],.bool true]) (by simp [results,Tryz.results193,go_sem]) rfl ⟨rfl,((((r0 _ _).alloc _).alloc _).alloc _).drew⟩
theorem AM (w:World) :
  Cs 193 #[gR,.int .i64 0] w fun e c=>e=.returned (.tuple #[.agg #[fv 167,fv 167,fv 168,fv 169],.bool true])/\Fr [] w c:=by
 go_enter Tryz.func193,Tryz.ntmps193
 have a:=gB
 have b:=gC
 go_wp2
 go_region
 go_wp2
 exact bodyPost_ret (v:=.tuple #[.agg #[fv 167,fv 167,fv 168,fv 169],.bool true]) (by simp [results,Tryz.results193,go_sem]) rfl ⟨rfl,((((r0 _ _).alloc _).alloc _).alloc _).drew⟩
theorem AN (w:World) :
  Cs 193 #[gR,.int .i64 1] w fun e c=>e=.returned (.tuple #[.agg #[fv 157,fv 157,fv 158,fv 159],.bool true])/\Fr [] w c:=by
 go_enter Tryz.func193,Tryz.ntmps193
 have a:=gB
 have b:=gC
 go_wp2
 go_region
 go_wp2
 exact bodyPost_ret (v:=.tuple #[.agg #[fv 157,fv 157,fv 158,fv 159],.bool true]) (by simp [results,Tryz.results193,go_sem]) rfl ⟨rfl,((((r0 _ _).alloc _).alloc _).alloc _).drew⟩
theorem AO (w:World) :
  Cs 193 #[gR,.int .i64 2] w fun e c=>e=.returned (.tuple #[.agg #[fv 160,fv 161,fv 158,fv 162],.bool true])/\Fr [] w c:=by
 go_enter Tryz.func193,Tryz.ntmps193
 have a:=gB
 have b:=gC
 go_wp2
 go_region
 go_wp2
 exact bodyPost_ret (v:=.tuple #[.agg #[fv 160,fv 161,fv 158,fv 162],.bool true]) (by simp [results,Tryz.results193,go_sem]) rfl ⟨rfl,((((r0 _ _).alloc _).alloc _).alloc _).drew⟩
theorem SF (w:World) :
  Cs 193 #[gR,.int .i64 3] w fun e c=>e=.returned (.tuple #[.agg #[.nilFunc,.nilFunc,.nilFunc,.nilFunc],.bool false])/\Fr [] w c:=by
 go_enter Tryz.func193,Tryz.ntmps193
 have a:=gB
 have b:=gC
 go_wp2
 go_region
 go_wp2
 exact bodyPost_ret (v:=.tuple #[.agg #[.nilFunc,.nilFunc,.nilFunc,.nilFunc],.bool false]) (by simp [results,Tryz.results193,go_sem]) rfl ⟨rfl,((((r0 _ _).alloc _).alloc _).alloc _).drew⟩
theorem SG (w:World) :
  Cs 193 #[gR,.int .i64 4] w fun e c=>e=.returned (.tuple #[.agg #[.nilFunc,.nilFunc,.nilFunc,.nilFunc],.bool false])/\Fr [] w c:=by
 go_enter Tryz.func193,Tryz.ntmps193
 have a:=gB
 have b:=gC
 go_wp2
 go_region
 go_wp2
 exact bodyPost_ret (v:=.tuple #[.agg #[.nilFunc,.nilFunc,.nilFunc,.nilFunc],.bool false]) (by simp [results,Tryz.results193,go_sem]) rfl ⟨rfl,((((r0 _ _).alloc _).alloc _).alloc _).drew⟩
theorem AP (w:World) :
  Cs 193 #[iA,.int .i64 0] w fun e c=>e=.returned (.tuple #[.agg #[fv 167,fv 167,fv 168,fv 169],.bool true])/\Fr [] w c:=by
 go_enter Tryz.func193,Tryz.ntmps193
 have a:=gB
 have b:=gC
 go_wp2
 go_region
 go_wp2
 exact bodyPost_ret (v:=.tuple #[.agg #[fv 167,fv 167,fv 168,fv 169],.bool true]) (by simp [results,Tryz.results193,go_sem]) rfl ⟨rfl,((((r0 _ _).alloc _).alloc _).alloc _).drew⟩
theorem AQ (w:World) :
  Cs 193 #[iA,.int .i64 1] w fun e c=>e=.returned (.tuple #[.agg #[fv 157,fv 157,fv 158,fv 159],.bool true])/\Fr [] w c:=by
 go_enter Tryz.func193,Tryz.ntmps193
 have a:=gB
 have b:=gC
 go_wp2
 go_region
 go_wp2
 exact bodyPost_ret (v:=.tuple #[.agg #[fv 157,fv 157,fv 158,fv 159],.bool true]) (by simp [results,Tryz.results193,go_sem]) rfl ⟨rfl,((((r0 _ _).alloc _).alloc _).alloc _).drew⟩
theorem SH (w:World) :
  Cs 193 #[iA,.int .i64 2] w fun e c=>e=.returned (.tuple #[.agg #[.nilFunc,.nilFunc,.nilFunc,.nilFunc],.bool false])/\Fr [] w c:=by
 go_enter Tryz.func193,Tryz.ntmps193
 have a:=gB
 have b:=gC
 go_wp2
 go_region
 go_wp2
 exact bodyPost_ret (v:=.tuple #[.agg #[.nilFunc,.nilFunc,.nilFunc,.nilFunc],.bool false]) (by simp [results,Tryz.results193,go_sem]) rfl ⟨rfl,((((r0 _ _).alloc _).alloc _).alloc _).drew⟩
theorem AR (w:World) :
  Cs 193 #[iA,.int .i64 3] w fun e c=>e=.returned (.tuple #[.agg #[fv 163,fv 164,fv 165,fv 166],.bool true])/\Fr [] w c:=by
 go_enter Tryz.func193,Tryz.ntmps193
 have a:=gB
 have b:=gC
 go_wp2
 go_region
 go_wp2
 exact bodyPost_ret (v:=.tuple #[.agg #[fv 163,fv 164,fv 165,fv 166],.bool true]) (by simp [results,Tryz.results193,go_sem]) rfl ⟨rfl,((((r0 _ _).alloc _).alloc _).alloc _).drew⟩
theorem SI (w:World) :
  Cs 193 #[iA,.int .i64 4] w fun e c=>e=.returned (.tuple #[.agg #[.nilFunc,.nilFunc,.nilFunc,.nilFunc],.bool false])/\Fr [] w c:=by
 go_enter Tryz.func193,Tryz.ntmps193
 have a:=gB
 have b:=gC
 go_wp2
 go_region
 go_wp2
 exact bodyPost_ret (v:=.tuple #[.agg #[.nilFunc,.nilFunc,.nilFunc,.nilFunc],.bool false]) (by simp [results,Tryz.results193,go_sem]) rfl ⟨rfl,((((r0 _ _).alloc _).alloc _).alloc _).drew⟩
