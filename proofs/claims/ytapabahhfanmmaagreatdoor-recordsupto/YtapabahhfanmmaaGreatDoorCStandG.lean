import Derived.ChangeKeysEq
import Derived.Test.YtapabahhfanmmaaGreatDoorCFolkG
namespace Go.Proofs.YtapabahhfanmmaaGreatDoor
open Go.RowKit List
set_option maxRecDepth 100000
set_option maxHeartbeats 2000000
theorem QG (c q i:Nat)(t:T)(w:World)(h:RG w c q i t) :
  Cs 54 #[.pointer (so c)] w fun e a=>e=.returned (.agg #[ii t.turn,ii (eO t.us),ii t.s0,ii t.s1])/\Fr [] w a:=by
 have A:=h.lt
 obtain ⟨m,b⟩:∃ W,W=w.alloc (.cells #[ii 0,ii 0,ii 0,ii 0] 56):=⟨_,rfl⟩
 have d:Fr [] w m:=by rw [b];exact (r0 _ _).alloc _
 have y:m.heap[w.heap.size]?=some (.cells #[ii 0,ii 0,ii 0,ii 0] 56):=by rw [b];exact aC w _
 have l:Fr [] m (w.alloc (.cells #[ii 0,ii 0,ii 0,ii 0] 56)).drew:=by rw [b];exact (r0 _ _).drew
 have E:m.heap.size=w.heap.size+1:=by rw [b];simp
 have o:∀ a,Fr [] w a->(fun a:World=>cl a c 0 t.turn/\cl a c 145 t.s0/\cl a c 146 t.s1) a:=by
  intro a z
  have p:=h.fr z (by simp) (by simp)
  exact ⟨p.c0,p.c145,p.c146⟩
 have r:=o _ (d.then0 l)
 clear b
 go_enter Tryz.func54,Tryz.ntmps54
 go_wp2_with fail
 go_region_held (fun a:World=>ca a c 0 (ii t.turn)/\ca a c 145 (ii t.s0)/\ca a c 146 (ii t.s1))
  (first|with_reducible exact r|with_reducible exact o _ f|(refine o _ ?_;with_reducible exact (((f.setCell _ _ (.inr (Nat.le_refl _))).setCell _ _ (.inr (Nat.le_refl _))).setCell _ _ (.inr (Nat.le_refl _))).setCell _ _ (.inr (Nat.le_refl _))))
  (first|(go_at_call 99;refine (mX c q i t.us _ (h.gv.fr0 (d.then0 l))).mono ?_;rintro e n ⟨rfl,k⟩;have f:Fr [] w n:=(d.then0 l).then0 k;have g:=(l.then0 k).heap0 y;have C:∀ j,n.cell? ⟨w.heap.size,j,none⟩=#[ii 0,ii 0,ii 0,ii 0][j]?:=(fun j=>aB g);have D:∀ j,n.frozen? ⟨w.heap.size,j,none⟩=false:=(fun j=>bI g)))
 all_goals
  go_wp2_with fail
  have s:=bS g 0 (ii t.turn)
  have h1:=bS s 1 (ii (eO t.us))
  have u:=bS h1 2 (ii t.s0)
  have x:=bS u 3 (ii t.s1)
  have B:((((n.setCell ⟨w.heap.size,0,none⟩ (ii t.turn)).setCell ⟨w.heap.size,1,none⟩ (ii (eO t.us))).setCell ⟨w.heap.size,2,none⟩ (ii t.s0)).setCell ⟨w.heap.size,3,none⟩ (ii t.s1)).heap[w.heap.size]?=some (.cells #[ii t.turn,ii (eO t.us),ii t.s0,ii t.s1] 56):=by simpa using x
  exact bodyPost_ret (v:=.agg #[ii t.turn,ii (eO t.us),ii t.s0,ii t.s1]) (results_cell_row Tryz.results54 _ _ w.heap.size 56 _ (0,0) _ rfl B Tryz.underlying56 rfl wL) rfl ⟨rfl,(((f.setCell _ _ (.inr (Nat.le_refl _))).setCell _ _ (.inr (Nat.le_refl _))).setCell _ _ (.inr (Nat.le_refl _))).setCell _ _ (.inr (Nat.le_refl _))⟩
theorem AU {us:List U}(o:Int):(fJ us o).isSome=us.any (aT o):=by
 unfold fJ
 rw [findIdx?_isSome]
theorem uW {us:List U}(o:Int):(bT us o).isSome=us.any (aT o):=by
 have:∀ us:List U,(us.find? (aT o)).isSome=us.any (aT o):=fun us=>by
  induction us with
  | nil=>rfl
  | cons a us b =>
   rw [find?_cons,any_cons]
   cases h:aT o a with
   | true=>simp
   | false=>simpa using b
 exact this us
theorem BP {us:List U}(h:1<=us.countP (aT 0)+us.countP (aT 1)):eO us=eA us:=by
 have c:∀ o,us.any (aT o)=false->us.countP (aT o)=0:=fun o ho=>by
  rw [countP_eq_zero]
  intro u e
  have:=any_eq_false.1 ho u e
  simpa using this
 unfold eO eA
 rw [AU,AU,uW,uW]
 have a:=c 0
 have b:=c 1
 cases d:us.any (aT 0) <;> cases h1:us.any (aT 1)
 ·have:=a d;have:=b h1;omega
 ·rfl
 ·rfl
 rfl
theorem rB {d c:Nat}{e:TypeId}{xs:Array Value}{w:World}:∀ (is:List Nat),(∀ i∈is,∃ a,(part e xs (i*c)).run Tryz.prog w=.ok a w/\(Op.equalIn d e a a).run Tryz.prog w=.ok true w)->(Op.eqItems d e c xs xs is).run Tryz.prog w=.ok true w
 | [],_=>by simp [Op.eqItems]
 | i :: is,h=>by
  obtain ⟨a,h1,b⟩:=h i (by simp)
  have g:=rB is (fun j f=>h j (by simp [f]))
  simp only [Op.eqItems,Sem.run_bind,h1,b,Result.andThen_ok]
  exact g
theorem JL:(Tryz.prog.info? 3).map (·.size)=some 1:=by kernel_rfl
theorem ET:Tryz.prog.cellsOf 3=1:=by kernel_rfl
theorem EV:Tryz.prog.cellsOf 86=12:=by kernel_rfl
theorem GI (a:Nat->Int)(y:Nat)(d:Nat)(w:World):(Op.equalIn (d+2) 86 (.agg (fH a y).toArray) (.agg (fH a y).toArray)).run Tryz.prog w=.ok true w:=by
 obtain ⟨e,hi,_⟩:=Option.map_eq_some_iff.1 JL
 rw [show d+2=(d+1)+1 from rfl,run_equalIn_array w (d+1) _ _ Tryz.underlying86 hi,ET]
 refine rB _ (fun x hx=>?_)
 have b:x < 12:=mem_range.1 hx
 have c:(fH a y).toArray[x]?=some (ii (a (y*12+x))):=by simp [fH,getElem?_range b]
 refine ⟨ii (a (y*12+x)),?_,?_⟩
 ·rw [Nat.mul_one]
  simp [part,isAgg,run_underlying Tryz.underlying3,c]
 rw [run_equalIn_int w d 3 .i64 .i64 _ _ Tryz.underlying3]
 simp
theorem GF (a:Nat->Int)(d:Nat)(w:World):(Op.equalIn (d+3) 88 (.agg (cW a).toArray) (.agg (cW a).toArray)).run Tryz.prog w=.ok true w:=by
 obtain ⟨e,hi,_⟩:=Option.map_eq_some_iff.1 wH
 rw [show d+3=(d+2)+1 from rfl,run_equalIn_array w (d+2) _ _ Tryz.underlying88 hi,EV]
 refine rB _ (fun y c=>?_)
 have b:y < 12:=mem_range.1 c
 refine ⟨.agg (fH a y).toArray,?_,GI a y d w⟩
 have hb:=tX a y b
 rw [<- hb]
 simp [part,isAgg,run_underlying Tryz.underlying86,sizeOf,sE]
theorem DZ (a:Nat->Int)(w:World):(binOp BinOp.eql 88 (.agg (cW a).toArray) (.agg (cW a).toArray)).run Tryz.prog w=.ok (.bool true) w:=by
 rw [run_eql_struct,GF a 9997 w]
 rfl
theorem EA (x y:Operand)(B:Array Value)(w:World):(eqGuard BinOp.eql 88 x y (.agg B) (.agg B)).run Tryz.prog w=.ok () w:=by kernel_rfl
theorem GJ (c d:Int)(w:World):(Op.equalIn 9999 54 (.agg #[ii c,ii d]) (.agg #[ii c,ii d])).run Tryz.prog w=.ok true w:=by
 have u3:=Tryz.underlying3
 rw [show (9999:Nat)=9998+1 from rfl,Op.equalIn]
 simp only [Sem.run_bind,run_underlying Tryz.underlying54,Result.andThen_ok]
 simp only [Std.Legacy.Range.forIn_eq_forIn_range',Std.Legacy.Range.size,Nat.sub_zero,Nat.add_sub_cancel,Nat.div_one,range'_succ,range'_zero,forIn_cons,forIn_nil]
 go_simp
theorem SK (a b c d:Int)(w:World):(binOp BinOp.eql 56 (.agg #[ii a,ii b,ii c,ii d]) (.agg #[ii a,ii b,ii c,ii d])).run Tryz.prog w=.ok (.bool true) w:=by
 have e:=GJ c d w
 simp [go_sem,e]
theorem SL (x y:Operand)(a b c d:Int)(w:World):(eqGuard BinOp.eql 56 x y (.agg #[ii a,ii b,ii c,ii d]) (.agg #[ii a,ii b,ii c,ii d])).run Tryz.prog w=.ok () w:=by kernel_rfl
theorem RG.rng {w:World}{c e b:Nat}{t:T}(h:RG w c e b t):w.rangeAt c 1 (cW t.bd):=by
 intro j v a
 have d:j < 144:=by have:=(gs.1 a).1;rwa [jN] at this
 rw [h.bd d]
 unfold cW at a
 rw [getElem?_map,getElem?_range d] at a
 exact a
structure Asked (w1:World) (sb gb rb:Nat) (z0 z1 z2 z3:Int) (BL:List Value):Prop where
 lg:∀ w',Fr [] w1 w'->Cs 23 #[.pointer (so gb)] w' fun e w''=>e=.returned (.agg #[ii z0,ii z1,ii z2,ii z3])/\Fr [] w' w''
 lr:∀ w',Fr [] w1 w'->Cs 54 #[.pointer (so rb)] w' fun e w''=>e=.returned (.agg #[ii z0,ii z1,ii z2,ii z3])/\Fr [] w' w''
 cg:∀ w',Fr [] w1 w'->Cs 55 #[.pointer (so gb)] w' fun e w''=>e=.returned (.agg BL.toArray)/\Fr [] w' w''
 rr:∀ w',Fr [] w1 w'->w'.rangeAt rb 1 BL
 sz:(Tryz.prog.info? 88).map (·.size)=some BL.length
 c0:∀ w',Fr [] w1 w'->w'.cell? ⟨sb,0,none⟩=some (.pointer (so gb))
 c1:∀ w',Fr [] w1 w'->w'.cell? ⟨sb,1,none⟩=some (.pointer (so rb))
 eq:∀ w',(binOp BinOp.eql 88 (.agg BL.toArray) (.agg BL.toArray)).run Tryz.prog w'=.ok (.bool true) w'
theorem Gm.asked {w:World}{g:Value}{L:List Nat}{t:T}(h:Gm w g L t):∃ c f k p q r z3 BL,g=.pointer (so c)/\Asked w c f k p q r z3 BL:=by
 have l:1<=t.us.countP (aT 0)+t.us.countP (aT 1):=h.ok.bs
 obtain ⟨⟨c,f,n,d,k,o,e,rfl,rfl,hx,m,i,j⟩,_⟩:=h
 refine ⟨c,f,k,t.turn,eA t.us,t.s0,t.s1,cW t.bd,rfl,⟨fun b a=>KP f n d t b (i.fr a (by simp) (by simp)),fun b a=>?_,fun b a=>EW f n d t b (i.fr a (by simp) (by simp)),fun b a=>(j.fr0 a).rng,?_,fun b a=>(a.cell c 0 (aI hx) (by simp)).trans hx,fun b a=>(a.cell c 1 (aI m) (by simp)).trans m,fun b=>DZ t.bd b⟩⟩
 ·have:=QG k o e t b (j.fr0 a)
  rw [BP l] at this
  exact this
 rw [jN];exact mH
theorem SJ (g:Value)(L K:List Nat)(t:T)(r N:Nat)(w:World)(M:Gm w g L t)(S:Bk w r K N)(R:∀ x∈L,x≠r/\x∉K)(hN:N<=2200000) :
  Cs 28 #[g,.pointer (so r)] w fun e a=>e=.returned (.bool true)/\SR w r L K N t.turn g a:=by
 have Q:=ID g L K t r N w M S R hN
 obtain ⟨C,_,_,_,_,_,_,_,P,_⟩:=M.asked
 subst P
 clear M S R
 go_enter Tryz.func28,Tryz.ntmps28
 go_wp2_with fail
 refine Calls.mono Q ?_
 rintro e p ⟨rfl,n⟩
 obtain ⟨L',t',K',s,_⟩:=n.ex
 obtain ⟨ae,B,A,D,E,F,z3,BL,hg,f⟩:=s.asked
 cases hg
 have LG:=(show Hi (∀ a,Fr [] p a->Cs 23 #[.pointer (so B)] a fun e d=>e=.returned (.agg #[ii D,ii E,ii F,ii z3])/\Fr [] a d) from f.lg)
 have LR:=(show Hi (∀ a,Fr [] p a->Cs 54 #[.pointer (so A)] a fun e d=>e=.returned (.agg #[ii D,ii E,ii F,ii z3])/\Fr [] a d) from f.lr)
 have X:=(show Hi (∀ a,Fr [] p a->Cs 55 #[.pointer (so B)] a fun e d=>e=.returned (.agg BL.toArray)/\Fr [] a d) from f.cg)
 have H:Hi (∀ a,(ca a C 0 (.pointer (so B))/\ca a C 1 (.pointer (so A))/\Fr [] p a)->a.rangeAt A 1 BL):=fun a h=>f.rr a h.2.2
 have J:=aA f.sz
 have q:∀ a,Fr [] p a->(fun a:World=>ca a C 0 (.pointer (so B))/\ca a C 1 (.pointer (so A))/\Fr [] p a) a:=fun a O=>⟨f.c0 a O,f.c1 a O,O⟩
 have Y:=q p.drew ((r0 _ _).drew)
 have aa:=f.eq
 have ab:=fun (x y:Operand) (w0:World)=>EA x y BL.toArray w0
 have ac:=SK D E F z3
 have ad:=fun (x y:Operand) (w0:World)=>SL x y D E F z3 w0
 have I:=aA n
 clear n s f Q
 go_wp2_with fail
 refine rg 30 q Y fun b=>?_
 iterate 6 (refine tn 30 b ?_;try simp only [Act.put,Z])
 refine ta 7 b ?_;try simp only [Act.put,Z]
 refine ta 8 b ?_;try simp only [Act.put,Z]
 refine ta 9 b ?_;try simp only [Act.put,Z]
 refine ta 10 b ?_;try simp only [Act.put,Z]
 refine rd 6 fun K hK=>?_
 have c:=aA hK
 clear hK
 go_simp
 refine Calls.mono (LG.o _ b.2.2) ?_
 rintro e af ⟨rfl,u⟩
 have z:=b.2.2.then0 u
 clear b
 refine c.o _ _ (q _ z) (fun b=>?_)
 clear c K;try simp only [Act.put,Z]
 refine rd 11 fun K hK=>?_
 have c:=aA hK
 clear hK
 go_simp
 refine Calls.mono (LR.o _ b.2.2) ?_
 rintro e V ⟨rfl,j⟩
 have l:=b.2.2.then0 j
 clear b
 refine c.o _ _ (q _ l) (fun b=>?_)
 clear c K;try simp only [Act.put,Z]
 iterate 7 (refine tn 30 b ?_;try simp only [Act.put,Z])
 refine ta 20 b ?_;try simp only [Act.put,Z]
 refine ta 21 b ?_;try simp only [Act.put,Z]
 refine ta 22 b ?_;try simp only [Act.put,Z]
 refine ta 23 b ?_;try simp only [Act.put,Z]
 refine ta 24 b ?_;try simp only [Act.put,Z]
 refine ta 25 b ?_;try simp only [Act.put,Z]
 refine wpAnyH_take (i:=26) (oi:=_) (v:=.agg BL.toArray) (by simp only [G];rfl) (by kernel_rfl) (by kernel_rfl) (by kernel_rfl) (by exact fun _ _ _ h=>h) (yieldsIf_load_mid (by kernel_rfl) 88 (.tmp 34) rfl A 1 rfl BL _ H.o Tryz.underlying88 rfl J.o) b ?_;try simp only [Act.put,Z]
 refine rd 19 fun K hK=>?_
 have c:=aA hK
 clear hK
 go_simp
 refine Calls.mono (X.o _ b.2.2) ?_
 rintro e W ⟨rfl,k⟩
 have m:=b.2.2.then0 k
 clear b
 refine c.o _ _ (q _ m) (fun b=>?_)
 clear c K;try simp only [Act.put,Z]
 refine ta 27 b ?_;try simp only [Act.put,Z]
 refine ta 28 b ?_;try simp only [Act.put,Z]
 refine ta 29 b ?_;try simp only [Act.put,Z]
 refine wpAnyH_done (by kernel_rfl) ?_ _
 go_wp2_with fail
 go_ret
 exact ⟨rfl,SR.after I.o b.2.2⟩
