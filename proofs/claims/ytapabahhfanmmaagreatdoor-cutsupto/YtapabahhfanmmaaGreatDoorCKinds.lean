import Derived.Test.YtapabahhfanmmaaGreatDoorCTn
import Derived.RegionTactic
import Derived.BigRegion
import Derived.Laws.CopyRow
import Derived.Laws.EntriesVeiled
namespace Go.Proofs.YtapabahhfanmmaaGreatDoor
open Go.RowKit List Go.Proofs.Tryz
set_option maxHeartbeats 400000
set_option maxRecDepth 100000
variable {n p:Int}
def aE(a b:Int):Bool:=decide (0<=a)&&(decide (a<12)&&(decide (0<=b)&&decide (b<12)))
theorem bX:aE n p=true↔0<=n/\n<12/\0<=p/\p<12:=by simp[aE]
theorem Ar(b c:Int)(a:World):Cs 201 #[cv b c] a (R0 a (.bool (aE b c))):=by
 delta Cs;go_in
 go_wp2
 all_goals
  go_ret;exact⟨lG (by simp[aE, *]<;>omega),(r0 _ _).alloc _⟩
theorem GH(a:Int)(b:World):Cs 204 #[ii a] b (R1 b (.bool (decide (0<a)&&decide (a<10)))):=by
 delta Cs;go_in
 go_wp2
 all_goals
  go_ret;exact⟨lG (by simp[*]<;>omega),rfl⟩
theorem iH(a:U)(b:World):Cs 192 #[a.val] b (R0 b (cv a.x a.y)):=by
 delta Cs;go_in
 go_wp2;exact Zq8 (v:=cv a.x a.y) (by simp[results,results192,go_sem]) rfl (by grind[Fr.alloc,r0])
abbrev U.ordered(b:U)(a:Cm):U:={b with what:=a.what,tox:=a.x,toy:=a.y,target:=a.target}
abbrev U.idle(a:U):U:={a with what:=0,tox:=0,toy:=0,target:=0}
theorem JZ(b:U)(a:Cm)(c:World):Cs 194 #[b.val,a.val] c λd e=>d=.returned (b.ordered a).val/\Fr [] c e:=by
 delta Cs;go_in
 go_wp2
 go_region
 go_wp2;exact Zq8 (v:=(b.ordered a).val) (by simp[results,results194,go_sem]) rfl (by grind[Fr.drew,Fr.alloc,r0])
theorem Gp(c:Value)(a:U)(b:World):Cs 169 #[c,a.val] b (R0 b a.val):=by
 delta Cs;go_in
 go_wp2;exact Zq8 (v:=a.val) (by simp[results,results169,go_sem]) rfl (by grind[Fr.alloc,r0])
theorem GL(a:Cm)(b:World):Cs 168 #[a.val] b λc d=>c=.returned (Cm.mk a.unit a.what 0 0 0).val/\Fr [] b d:=by
 delta Cs;go_in
 go_wp2;exact Zq8 (v:=(Cm.mk a.unit a.what 0 0 0).val) (by simp[results,results168,go_sem]) rfl (by grind[Fr.alloc,r0])
theorem GJ(a:Cm)(b:World):Cs 158 #[a.val] b λc d=>c=.returned (Cm.mk a.unit a.what a.x a.y 0).val/\Fr [] b d:=by
 delta Cs;go_in
 go_wp2;exact Zq8 (v:=(Cm.mk a.unit a.what a.x a.y 0).val) (by simp[results,results158,go_sem]) rfl (by grind[Fr.alloc,r0])
theorem GM(a:Cm)(b:World):Cs 165 #[a.val] b λc d=>c=.returned (Cm.mk a.unit a.what 0 0 a.target).val/\Fr [] b d:=by
 delta Cs;go_in
 go_wp2;exact Zq8 (v:=(Cm.mk a.unit a.what 0 0 a.target).val) (by simp[results,results165,go_sem]) rfl (by grind[Fr.alloc,r0])
theorem GK(a:Cm)(b:World):Cs 155 #[a.val] b λc d=>c=.returned (Cm.mk a.unit a.what a.x 0 0).val/\Fr [] b d:=by
 delta Cs;go_in
 go_wp2;exact Zq8 (v:=(Cm.mk a.unit a.what a.x 0 0).val) (by simp[results,results155,go_sem]) rfl (by grind[Fr.alloc,r0])
theorem OT(c:Value)(d:U)(b:Cm)(a:World):Cs 167 #[c,d.val,b.val] a (R0 a (.bool true)):=by
 delta Cs;go_in
 go_wp2;go_ret;simp_all[Fr.alloc,r0]
theorem XY(b:Int)(a:World):Cs 219 #[ii b] a (R1 a (.bool false)):=by
 delta Cs;go_in
 go_wp2;go_ret;simp_all
def jG(a b:Int):Int:=if a<b then -1 else if b<a then 1 else 0
theorem TJ(a b:Int)(c:World):Cs 197 #[ii a,ii b] c (R1 c (ii (jG a b))):=by
 delta Cs;go_in
 go_wp2_with (go_at_call 219;refine(XY _ _).mono ?_;rintro d e ⟨rfl,rfl⟩)
 all_goals
  go_ret;exact⟨MR (by simp[jG, *]<;>omega),rfl⟩
theorem sG(a:U)(c:World):Cs 200 #[a.val] c (R0 c a.idle.val):=by
 delta Cs;go_in
 go_wp2_with (go_at_call 194;refine(JZ a (Cm.mk 0 0 0 0 0) _).mono ?_;rintro e g ⟨rfl,b⟩;obtain⟨d,f⟩:=b.qC)
 refine Zq8 (v:=a.idle.val) (by simp[results,results200,go_sem,d]) rfl ⟨rfl,?_⟩
 repeat (refine Fr.setCell ?_ _ _ qg)
 exact(((r0 _ _).alloc _).alloc _).qT b
theorem DZ(a:U)(id:Int)(b:World):Cs 196 #[a.val,ii id] b (R0 b (ii (jG a.id id))):=by
 delta Cs;go_in
 go_wp2_with (go_at_call 197;refine(TJ _ _ _).mono ?_;rintro c d ⟨rfl,rfl⟩)
 go_ret;simp_all[Fr.alloc,r0]
abbrev fv(a:Nat):Value:=.func (.func a) #[] #[]
abbrev jV:Value:=.agg #[ii 40,ii 0,ii 0,.bool false,fv 167,fv 167,fv 168,fv 169,.nilFunc,.nilFunc,.nilFunc,.nilFunc,.nilFunc,.nilFunc,.nilFunc,.nilFunc,.nilFunc,.nilFunc,.nilFunc,.nilFunc,fv 154,fv 154,fv 155,fv 156]
abbrev jL:Value:=.agg #[ii 8,ii 5,ii 5,.bool true,fv 167,fv 167,fv 168,fv 169,fv 157,fv 157,fv 158,fv 159,fv 160,fv 161,fv 158,fv 162,.nilFunc,.nilFunc,.nilFunc,.nilFunc,.nilFunc,.nilFunc,.nilFunc,.nilFunc]
abbrev jW:Value:=.agg #[ii 12,ii 8,ii 0,.bool true,fv 167,fv 167,fv 168,fv 169,fv 157,fv 157,fv 158,fv 159,.nilFunc,.nilFunc,.nilFunc,.nilFunc,fv 163,fv 164,fv 165,fv 166,.nilFunc,.nilFunc,.nilFunc,.nilFunc]
abbrev wO:Value:=.agg #[ii 0,ii 0,ii 0,.bool false,.nilFunc,.nilFunc,.nilFunc,.nilFunc,.nilFunc,.nilFunc,.nilFunc,.nilFunc,.nilFunc,.nilFunc,.nilFunc,.nilFunc,.nilFunc,.nilFunc,.nilFunc,.nilFunc,.nilFunc,.nilFunc,.nilFunc,.nilFunc]
variable {w x:World}
abbrev Hk:List Value:=[ii 0,ii (-1),ii 1,ii 0,ii 0,ii 1,ii (-1),ii 0]
abbrev tT:Value:=.agg #[ii 0,ii (-1),ii 1,ii 0,ii 0,ii 1,ii (-1),ii 0]
def Sd(a:World):Prop:=a.rangeAt 0 0 Hk
theorem Sd.fr{S:List Nat}(a:Sd w)(f:Fr S w x)(g:0∉S):Sd x:=λc d b=>by have e:=a c d b;grind[Fr.cell,aI]
theorem Sd.qF(a:Sd w)(b:Fr [] w x):Sd x:=a.fr b qs
theorem Sd.cells(a:Sd w):w.cell? ⟨0,0,none⟩=some (ii 0)/\w.cell? ⟨0,1,none⟩=some (ii (-1))/\w.cell? ⟨0,2,none⟩=some (ii 1)/\w.cell? ⟨0,3,none⟩=some (ii 0) /\w.cell? ⟨0,4,none⟩=some (ii 0)/\w.cell? ⟨0,5,none⟩=some (ii 1)/\w.cell? ⟨0,6,none⟩=some (ii (-1))/\w.cell? ⟨0,7,none⟩=some (ii 0):=
 ⟨a 0 _ rfl,a 1 _ rfl,a 2 _ rfl,a 3 _ rfl,a 4 _ rfl,a 5 _ rfl,a 6 _ rfl,a 7 _ rfl⟩
theorem Sd.pos(a:Sd w):0<w.heap.size:=aI (a 0 _ rfl)
theorem NP(a:World):(Instr.index 284 tT (ii 0)).run prog a=.ok (cv 0 (-1)) a:=qk
theorem NQ(a:World):(Instr.index 284 tT (ii 1)).run prog a=.ok (cv 1 0) a:=qk
theorem NR(a:World):(Instr.index 284 tT (ii 2)).run prog a=.ok (cv 0 1) a:=qk
theorem NS(a:World):(Instr.index 284 tT (ii 3)).run prog a=.ok (cv (-1) 0) a:=qk
theorem vK(a b c d:Int)(e:World):(binOp BinOp.eql 159 (cv a b) (cv c d)).run prog e=.ok (.bool (a==c&&b==d)) e:=by by_cases f:a=c<;>by_cases g:b=d<;>simp[go_sem,f,g]
theorem FK(f g:Operand)(b c d e:Int)(a:World):(eqGuard BinOp.eql 159 f g (cv b c) (cv d e)).run prog a=.ok () a:=qk
theorem mC{i:Array Oper}{j:List Oper}{b:Oper}{a:Act}{d:Exit->Act->World->Prop}(p:b.guard=none)(l m:Operand)(k u:TypeId)(q:b.op=.binOp .eql k l m u)(r:k=159)(e f g h:Int)(s:a.eval l=cv e f)(t:a.eval m=cv g h)(c:Bool)(o:(e==g&&f==h)=c)(n:wpList prog i d j (a.put b.dst (.bool c)) w):wpList prog i d (b::j) a w:=by subst r o;refine wpList_plain p λ_ hK=>?_;unfold Oper.wp;simp[execOp,q,s,t,vK,FK,Result.andThen];exact hK _ _ n
theorem kO(b:World)(c d a:Obj):(((b.alloc c).alloc d).alloc a).heap[b.heap.size+1+1]?=some a:=by have e:=cZ (b.alloc c) d a;simp_all
def bJ(a c b d:Int):Bool:=(b-a==0&&d-c==-1)||(b-a==1&&d-c==0)||(b-a==0&&d-c==1)||(b-a==-1&&d-c==0)
theorem pP(a c b d:Int)(i:World)(m:Sd i)(q:-1000<=a)(r:a<=1000)(s:-1000<=c)(t:c<=1000)(u:-1000<=b)(v:b<=1000)(w:-1000<=d)(x:d<=1000):Cs 206 #[cv a c,cv b d] i (R0 i (.bool (bJ a c b d))):=by
 obtain⟨L,M,N,O,P,Q,R,S⟩:=m.cells;have z:=m.pos
 delta Cs;go_in
 go_wp2
 go_loopw [20] (fun l wr=>∃e:Nat,e<=4/\l=ii e/\(0<e->(b-a==0&&d-c==-1)=false)/\(1<e->(b-a==1&&d-c==0)=false)/\(2<e->(b-a==0&&d-c==1)=false)/\(3<e->(b-a==-1&&d-c==0)=false) /\
   Fr [] (((i.alloc (.cells #[ii a,ii c] 159)).alloc (.cells #[ii b,ii d] 159)).alloc (.cells #[ii (b-a),ii (d-c)] 159)) wr) (λl _=>4-(intOf l).toNat)
 ·grind[r0]
 obtain⟨e,y,rfl,F,H,I,J,j⟩:=hrel;have k:=j.qH (kO i _ _ _);have n:ca wr (i.heap.size+1+1) 0 (ii (b-a)):=aB k;have p:ca wr (i.heap.size+1+1) 1 (ii (d-c)):=aB k;have A:=aH k;clear k;have B:=NP;have C:=NQ;have D:=NR;have E:=NS;rcases(show e=0\/e=1\/e=2\/e=3\/e=4 by omega)with rfl|rfl|rfl|rfl|rfl
 ·obtain⟨h,g⟩:=nn ((b-a==0&&d-c==(-1)));have f:=aA g;clear g;cases h
  ·go_wp2_with (refine mC rfl _ _ _ _ rfl rfl (b-a) (d-c) 0 (-1) rfl rfl _ f.o ?_)
   go_roundw
   ·grind[Hi.o,Fr.alloc]
   simp[intOf]
  go_wp2_with (refine mC rfl _ _ _ _ rfl rfl (b-a) (d-c) 0 (-1) rfl rfl _ f.o ?_)
  go_ret;exact⟨lG (by grind[bJ,Hi.o]),((((r0 _ _).alloc _).alloc _).alloc _).qT (j.alloc _)⟩
 ·obtain⟨h,g⟩:=nn ((b-a==1&&d-c==0));have f:=aA g;clear g;cases h
  ·go_wp2_with (refine mC rfl _ _ _ _ rfl rfl (b-a) (d-c) 1 0 rfl rfl _ f.o ?_)
   go_roundw
   ·grind[Hi.o,Fr.alloc]
   simp[intOf]
  go_wp2_with (refine mC rfl _ _ _ _ rfl rfl (b-a) (d-c) 1 0 rfl rfl _ f.o ?_)
  go_ret;exact⟨lG (by grind[bJ,Hi.o]),((((r0 _ _).alloc _).alloc _).alloc _).qT (j.alloc _)⟩
 ·obtain⟨h,g⟩:=nn ((b-a==0&&d-c==1));have f:=aA g;clear g;cases h
  ·go_wp2_with (refine mC rfl _ _ _ _ rfl rfl (b-a) (d-c) 0 1 rfl rfl _ f.o ?_)
   go_roundw
   ·grind[Hi.o,Fr.alloc]
   simp[intOf]
  go_wp2_with (refine mC rfl _ _ _ _ rfl rfl (b-a) (d-c) 0 1 rfl rfl _ f.o ?_)
  go_ret;exact⟨lG (by grind[bJ,Hi.o]),((((r0 _ _).alloc _).alloc _).alloc _).qT (j.alloc _)⟩
 ·obtain⟨h,g⟩:=nn ((b-a==(-1)&&d-c==0));have f:=aA g;clear g;cases h
  ·go_wp2_with (refine mC rfl _ _ _ _ rfl rfl (b-a) (d-c) (-1) 0 rfl rfl _ f.o ?_)
   go_roundw
   ·grind[Hi.o,Fr.alloc]
   simp[intOf]
  go_wp2_with (refine mC rfl _ _ _ _ rfl rfl (b-a) (d-c) (-1) 0 rfl rfl _ f.o ?_)
  go_ret;exact⟨lG (by grind[bJ,Hi.o]),((((r0 _ _).alloc _).alloc _).alloc _).qT (j.alloc _)⟩
 go_wp2;go_ret;exact⟨lG (by grind[bJ]),((((r0 _ _).alloc _).alloc _).alloc _).qT j⟩
set_option maxRecDepth 100000
theorem iZ:(prog.info? 220).map (·.size)=some 24:=qk
theorem Hf(a:World)(e b:Array Value)(d:TypeId)(c:Nat×Nat):(a.alloc (.cells e d c)).setRow a.heap.size b=a.alloc (.cells b d c):=by unfold World.setRow World.alloc;congr 1;grind
theorem Kq{c:Program}{n:Array Oper}{o:List Oper}{g:Oper}{f:Act}{j:Exit->Act->World->Prop}(x:g.guard=none)(ty:TypeId)(p q:Operand)(y:g.op=.store ty p q)(k d:Nat)(a b h:Array Value)(e:TypeId)(t:w.heap.size=k)(C:f.eval p=.pointer (some ⟨k,d,none⟩))(D:f.eval q=.agg a)(l:(c.info? ty).map (·.size)=some a.size)(s:a.all (·.oneCell')=true)(v:d+a.size<=b.size)(u:(b.toList.take d++a.toList++b.toList.drop (d+a.size)).toArray=h)(r:wpList c n j o (f.put g.dst undef) (w.alloc (.cells h e))):wpList c n j (g::o) f (w.alloc (.cells b e)):=by
 subst t;refine wpList_plain x λ_ hK=>?_;have m:=run_storeCells_at c w.heap.size d e a.toList 0 b (w.alloc (.cells b e)) (aC _ _) (qu v) (λF B=>(Array.all_eq_true_iff_forall_mem.1 s) F (qu B));simp only[Nat.add_zero,Array.length_toList,u,Hf]at m;unfold Oper.wp execOp;cases i:c.info? ty with
 |none=>simp[i]at l
 |some E=>
  have z:a.size=E.size:=by simp[i]at l;omega
  have A:(storeVar ty ⟨w.heap.size,d,none⟩ (.agg a)).run c (w.alloc (.cells b e))=.ok () (w.alloc (.cells h e)):=by simp[storeVar,sizeOf,typeInfo,i,Value.cells,z,m]
  simp only[y,C,D,Instr.storeAt,Instr.sureAddr,Sem.run_bind,Sem.run_pure,Result.andThen_ok,A];exact hK _ _ r
abbrev kz:Array Value:=#[ii 0,ii 0,ii 0,.bool false,.nilFunc,.nilFunc,.nilFunc,.nilFunc,.nilFunc,.nilFunc,.nilFunc,.nilFunc,.nilFunc,.nilFunc,.nilFunc,.nilFunc,.nilFunc,.nilFunc,.nilFunc,.nilFunc,.nilFunc,.nilFunc,.nilFunc,.nilFunc]
theorem GN(b:Int)(a:World)(e:(b==1)=false)(f:(b==2)=false)(g:(b==3)=false):Cs 121 #[.int .i64 b] a λc d=>c=.returned wO/\Fr [] a d:=by
 go_enter func121,ntmps121
 iterate 65 (first|go_values|go_skip|go_guarded|go_step|go_upon)
 refine wpList_load_row rfl 220 _ rfl (a.heap.size+1) rfl 220 kz (0,0) _ (cZ a _ _) underlying220 rfl iZ ?_
 refine wpList_store_row rfl 220 _ _ rfl a.heap.size kz rfl rfl 220 kz (dW a _ _) iZ rfl qc ?_
 go_wp2
 exact bodyPost_ret (v:=wO) (results_cell_row results121 _ _ a.heap.size 220 kz (0,0) _ rfl (setRow_heap _ _ kz kz _ _ (dW a _ _)) underlying220 rfl iZ) rfl ⟨rfl,(((r0 _ _).alloc _).alloc _).setRow _ _ qo⟩
abbrev kc1:Array Value:=#[ii 40,ii 0,ii 0,.bool false,fv 167,fv 167,fv 168,fv 169,.nilFunc,.nilFunc,.nilFunc,.nilFunc,.nilFunc,.nilFunc,.nilFunc,.nilFunc,.nilFunc,.nilFunc,.nilFunc,.nilFunc,fv 154,fv 154,fv 155,fv 156]
theorem JN:kc1.all (·.oneCell')=true:=qc
theorem oM(a:World):Cs 121 #[ii 1] a (R0 a jV):=by
 delta Cs;go_in
 go_wp2_with (first
  |(refine wpList_load_row rfl 220 _ rfl (a.heap.size+1) rfl 220 kc1 (0,0) _ (cZ a _ _) Zj4 rfl iZ ?_)
  |(refine wpList_store_row rfl 220 _ _ rfl a.heap.size kc1 rfl rfl 220 kz (dW a _ _) iZ rfl JN ?_))
 exact Zq8 (v:=jV) (Zz8 results121 _ _ a.heap.size 220 kc1 (0,0) _ rfl (Qz4 _ _ kz kc1 _ _ (dW a _ _)) Zj4 rfl iZ) rfl ⟨rfl,(((r0 _ _).alloc _).alloc _).setRow _ _ qo⟩
abbrev kc2:Array Value:=#[ii 8,ii 5,ii 5,.bool true,fv 167,fv 167,fv 168,fv 169,fv 157,fv 157,fv 158,fv 159,fv 160,fv 161,fv 158,fv 162,.nilFunc,.nilFunc,.nilFunc,.nilFunc,.nilFunc,.nilFunc,.nilFunc,.nilFunc]
theorem xL:kc2.all (·.oneCell')=true:=qc
theorem lU(a:World):Cs 121 #[ii 2] a (R0 a jL):=by
 delta Cs;go_in
 go_wp2_with (first
  |(refine wpList_load_row rfl 220 _ rfl (a.heap.size+1) rfl 220 kc2 (0,0) _ (cZ a _ _) Zj4 rfl iZ ?_)
  |(refine wpList_store_row rfl 220 _ _ rfl a.heap.size kc2 rfl rfl 220 kz (dW a _ _) iZ rfl xL ?_))
 exact Zq8 (v:=jL) (Zz8 results121 _ _ a.heap.size 220 kc2 (0,0) _ rfl (Qz4 _ _ kz kc2 _ _ (dW a _ _)) Zj4 rfl iZ) rfl ⟨rfl,(((r0 _ _).alloc _).alloc _).setRow _ _ qo⟩
abbrev kc3:Array Value:=#[ii 12,ii 8,ii 0,.bool true,fv 167,fv 167,fv 168,fv 169,fv 157,fv 157,fv 158,fv 159,.nilFunc,.nilFunc,.nilFunc,.nilFunc,fv 163,fv 164,fv 165,fv 166,.nilFunc,.nilFunc,.nilFunc,.nilFunc]
theorem xM:kc3.all (·.oneCell')=true:=qc
theorem nH(a:World):Cs 121 #[ii 3] a (R0 a jW):=by
 delta Cs;go_in
 go_wp2_with (first
  |(refine wpList_load_row rfl 220 _ rfl (a.heap.size+1) rfl 220 kc3 (0,0) _ (cZ a _ _) Zj4 rfl iZ ?_)
  |(refine wpList_store_row rfl 220 _ _ rfl a.heap.size kc3 rfl rfl 220 kz (dW a _ _) iZ rfl xM ?_))
 exact Zq8 (v:=jW) (Zz8 results121 _ _ a.heap.size 220 kc3 (0,0) _ rfl (Qz4 _ _ kz kc3 _ _ (dW a _ _)) Zj4 rfl iZ) rfl ⟨rfl,(((r0 _ _).alloc _).alloc _).setRow _ _ qo⟩
