import Derived.Test.YtapabahhfanmmaaGreatDoorCLeaf
import Derived.RegionTactic
import Derived.BigRegion
import Derived.Deep.MidRow
import Derived.ProofKit
import Derived.LaidMore
import Derived.OpenShut
import Derived.Carry
import Derived.Stop.Joined
import Derived.Deep.Slices
namespace Go.Proofs.YtapabahhfanmmaaGreatDoor
open Go.RowKit List
set_option maxRecDepth 100000
set_option maxHeartbeats 400000
abbrev U.ordered (u:U)(c:Cm):U:={ u with what:=c.what,tox:=c.x,toy:=c.y,target:=c.target }
abbrev U.idle (u:U):U:={ u with what:=0,tox:=0,toy:=0,target:=0 }
theorem xX (u:U)(c:Cm)(w:World) :
  Cs 194 #[u.val,c.val] w fun e a=>e=.returned (u.ordered c).val/\Fr [] w a:=by
 go_enter Tryz.func194,Tryz.ntmps194
 go_wp2
 go_region
 go_wp2
 exact bodyPost_ret (v:=(u.ordered c).val) (by simp [results,Tryz.results194,go_sem]) rfl ⟨rfl,((((r0 _ _).alloc _).alloc _).alloc _).drew⟩
theorem QV (t:Value)(u:U)(w:World) :
  Cs 169 #[t,u.val] w fun e a=>e=.returned u.val/\Fr [] w a:=by
 go_enter Tryz.func169,Tryz.ntmps169
 go_wp2
 exact bodyPost_ret (v:=u.val) (by simp [results,Tryz.results169,go_sem]) rfl ⟨rfl,((r0 _ _).alloc _).alloc _⟩
theorem KB (c:Cm)(w:World) :
  Cs 168 #[c.val] w fun e a=>e=.returned (Cm.mk c.unit c.what 0 0 0).val/\Fr [] w a:=by
 go_enter Tryz.func168,Tryz.ntmps168
 go_wp2
 exact bodyPost_ret (v:=(Cm.mk c.unit c.what 0 0 0).val) (by simp [results,Tryz.results168,go_sem]) rfl ⟨rfl,((r0 _ _).alloc _).alloc _⟩
theorem JY (c:Cm)(w:World) :
  Cs 158 #[c.val] w fun e a=>e=.returned (Cm.mk c.unit c.what c.x c.y 0).val/\Fr [] w a:=by
 go_enter Tryz.func158,Tryz.ntmps158
 go_wp2
 exact bodyPost_ret (v:=(Cm.mk c.unit c.what c.x c.y 0).val) (by simp [results,Tryz.results158,go_sem]) rfl ⟨rfl,((r0 _ _).alloc _).alloc _⟩
theorem KC (c:Cm)(w:World) :
  Cs 165 #[c.val] w fun e a=>e=.returned (Cm.mk c.unit c.what 0 0 c.target).val/\Fr [] w a:=by
 go_enter Tryz.func165,Tryz.ntmps165
 go_wp2
 exact bodyPost_ret (v:=(Cm.mk c.unit c.what 0 0 c.target).val) (by simp [results,Tryz.results165,go_sem]) rfl ⟨rfl,((r0 _ _).alloc _).alloc _⟩
theorem JZ (c:Cm)(w:World) :
  Cs 155 #[c.val] w fun e a=>e=.returned (Cm.mk c.unit c.what c.x 0 0).val/\Fr [] w a:=by
 go_enter Tryz.func155,Tryz.ntmps155
 go_wp2
 exact bodyPost_ret (v:=(Cm.mk c.unit c.what c.x 0 0).val) (by simp [results,Tryz.results155,go_sem]) rfl ⟨rfl,((r0 _ _).alloc _).alloc _⟩
theorem TQ (g:Value)(u:U)(c:Cm)(w:World) :
  Cs 167 #[g,u.val,c.val] w fun e a=>e=.returned (.bool true)/\Fr [] w a:=by
 go_enter Tryz.func167,Tryz.ntmps167
 go_wp2
 go_ret
 exact ⟨rfl,((r0 _ _).alloc _).alloc _⟩
theorem JU (a:Int)(w:World) :
  Cs 219 #[.int .i64 a] w fun e b=>e=.returned (.bool false)/\w=b:=by
 go_enter Tryz.func219,Tryz.ntmps219
 go_wp2
 go_ret
 exact ⟨by simp,rfl⟩
def gN (a b:Int):Int:=if a < b then -1 else if b < a then 1 else 0
theorem FI (a b:Int)(w:World) :
  Cs 197 #[.int .i64 a,.int .i64 b] w fun e c=>e=.returned (.int .i64 (gN a b))/\w=c:=by
 go_enter Tryz.func197,Tryz.ntmps197
 go_wp2_with (go_at_call 219;refine (JU _ _).mono ?_;rintro e c ⟨rfl,rfl⟩)
 all_goals
  go_ret
  exact ⟨zP (by simp [gN, *] <;> omega),rfl⟩
theorem oC (u:U)(w:World) :
  Cs 200 #[u.val] w fun e c=>e=.returned u.idle.val/\Fr [] w c:=by
 go_enter Tryz.func200,Tryz.ntmps200
 go_wp2_with (go_at_call 194;refine (xX u (Cm.mk 0 0 0 0 0) _).mono ?_;rintro e d ⟨rfl,a⟩;obtain ⟨b,hz⟩:=a.cells0)
 refine bodyPost_ret (v:=u.idle.val) (by simp [results,Tryz.results200,go_sem,b]) rfl ⟨rfl,?_⟩
 repeat (refine Fr.setCell ?_ _ _ (.inr (by simp)))
 exact (((r0 _ _).alloc _).alloc _).then0 a
theorem uU (u:U)(id:Int)(w:World) :
  Cs 196 #[u.val,.int .i64 id] w fun e a=>e=.returned (.int .i64 (gN u.id id))/\Fr [] w a:=by
 go_enter Tryz.func196,Tryz.ntmps196
 go_wp2_with (go_at_call 197;refine (FI _ _ _).mono ?_;rintro e b ⟨rfl,rfl⟩)
 go_ret
 exact ⟨rfl,(r0 _ _).alloc _⟩
abbrev fv (n:Nat):Value:=.func (.func n) #[] #[]
abbrev gZ:Value:=.agg #[.int .i64 40,.int .i64 0,.int .i64 0,.bool false,fv 167,fv 167,fv 168,fv 169,.nilFunc,.nilFunc,.nilFunc,.nilFunc,.nilFunc,.nilFunc,.nilFunc,.nilFunc,.nilFunc,.nilFunc,.nilFunc,.nilFunc,fv 154,fv 154,fv 155,fv 156]
abbrev gR:Value:=.agg #[.int .i64 8,.int .i64 5,.int .i64 5,.bool true,fv 167,fv 167,fv 168,fv 169,fv 157,fv 157,fv 158,fv 159,fv 160,fv 161,fv 158,fv 162,.nilFunc,.nilFunc,.nilFunc,.nilFunc,.nilFunc,.nilFunc,.nilFunc,.nilFunc]
abbrev iA:Value:=.agg #[.int .i64 12,.int .i64 8,.int .i64 0,.bool true,fv 167,fv 167,fv 168,fv 169,fv 157,fv 157,fv 158,fv 159,.nilFunc,.nilFunc,.nilFunc,.nilFunc,fv 163,fv 164,fv 165,fv 166,.nilFunc,.nilFunc,.nilFunc,.nilFunc]
abbrev rC:Value:=.agg #[.int .i64 0,.int .i64 0,.int .i64 0,.bool false,.nilFunc,.nilFunc,.nilFunc,.nilFunc,.nilFunc,.nilFunc,.nilFunc,.nilFunc,.nilFunc,.nilFunc,.nilFunc,.nilFunc,.nilFunc,.nilFunc,.nilFunc,.nilFunc,.nilFunc,.nilFunc,.nilFunc,.nilFunc]
abbrev RW:List Value:=[ii 0,ii (-1),ii 1,ii 0,ii 0,ii 1,ii (-1),ii 0]
abbrev pD:Value:=.agg #[ii 0,ii (-1),ii 1,ii 0,ii 0,ii 1,ii (-1),ii 0]
def Sd (w:World):Prop:=w.rangeAt 0 0 RW
theorem Sd.fr {S:List Nat}{w a:World}(h:Sd w)(b:Fr S w a)(hn:0∉S):Sd a:=fun j v c=>by
 have h1:=h j v c
 rw [b.cell 0 _ (aI h1) hn];exact h1
theorem Sd.fr0 {w a:World}(h:Sd w)(b:Fr [] w a):Sd a:=h.fr b (by simp)
theorem Sd.cells {w:World}(h:Sd w):w.cell? ⟨0,0,none⟩=some (ii 0)/\w.cell? ⟨0,1,none⟩=some (ii (-1))/\w.cell? ⟨0,2,none⟩=some (ii 1)/\w.cell? ⟨0,3,none⟩=some (ii 0) /\
  w.cell? ⟨0,4,none⟩=some (ii 0)/\w.cell? ⟨0,5,none⟩=some (ii 1)/\w.cell? ⟨0,6,none⟩=some (ii (-1))/\w.cell? ⟨0,7,none⟩=some (ii 0) :=
 ⟨h 0 _ rfl,h 1 _ rfl,h 2 _ rfl,h 3 _ rfl,h 4 _ rfl,h 5 _ rfl,h 6 _ rfl,h 7 _ rfl⟩
theorem Sd.pos {w:World}(h:Sd w):0 < w.heap.size:=aI (h 0 _ rfl)
theorem AF (w:World):(Instr.index 284 pD (.int .i64 0)).run Tryz.prog w=.ok (cv 0 (-1)) w:=by kernel_rfl
theorem AG (w:World):(Instr.index 284 pD (.int .i64 1)).run Tryz.prog w=.ok (cv 1 0) w:=by kernel_rfl
theorem AH (w:World):(Instr.index 284 pD (.int .i64 2)).run Tryz.prog w=.ok (cv 0 1) w:=by kernel_rfl
theorem AJ (w:World):(Instr.index 284 pD (.int .i64 3)).run Tryz.prog w=.ok (cv (-1) 0) w:=by kernel_rfl
theorem qL (a b c d:Int)(w:World):(binOp BinOp.eql 159 (cv a b) (cv c d)).run Tryz.prog w=.ok (.bool (a==c&&b==d)) w:=by
  by_cases h1:a=c <;> by_cases e:b=d <;> simp [go_sem,h1,e]
theorem vW (x y:Operand)(a b c d:Int)(w:World):(eqGuard BinOp.eql 159 x y (cv a b) (cv c d)).run Tryz.prog w=.ok () w:=by kernel_rfl
theorem jL {f:Array Oper} {rest:List Oper} {o:Oper} {e:Act} {w:World} {Q:Exit->Act->World->Prop} (g:o.guard=none) (x y:Operand) (t k:TypeId) (ho:o.op=.binOp .eql t x y k) (ht:t=159)
  (a b c d:Int) (hx:e.eval x=cv a b) (j:e.eval y=cv c d) (B:Bool) (i:(a==c&&b==d)=B)
  (h:wpList Tryz.prog f Q rest (e.put o.dst (.bool B)) w):wpList Tryz.prog f Q (o :: rest) e w:=by
 subst ht i
 refine wpList_plain g fun _ hK=>?_
 unfold Oper.wp
 simp [execOp,ho,hx,j,qL,vW,Result.andThen]
 exact hK _ _ h
theorem iI (w:World)(A B C:Obj):(((w.alloc A).alloc B).alloc C).heap[w.heap.size+1+1]?=some C:=by
 have h:=cR (w.alloc A) B C
 rwa [show (w.alloc A).heap.size=w.heap.size+1 by simp] at h
def aY (x y a b:Int):Bool:=(a - x==0&&b - y == -1)||(a - x==1&&b - y==0)||(a - x==0&&b - y==1)||(a - x == -1&&b - y==0)
theorem lX (x y a b:Int)(w:World)(g:Sd w)(h1:-1000<=x)(u:x<=1000)(v:-1000<=y)(z:y<=1000)(A:-1000<=a)(C:a<=1000)(D:-1000<=b)(E:b<=1000) :
  Cs 206 #[cv x y,cv a b] w fun e r=>e=.returned (.bool (aY x y a b))/\Fr [] w r:=by
 obtain ⟨L,M,N,O,P,Q,R,S⟩:=g.cells
 have m:=g.pos
 go_enter Tryz.func206,Tryz.ntmps206
 go_wp2_with fail
 go_loopw [20] (fun i wr=>∃ k:Nat,k<=4/\i=.int .i64 k/\(0 < k->(a - x==0&&b - y == -1)=false)/\(1 < k->(a - x==1&&b - y==0)=false)/\(2 < k->(a - x==0&&b - y==1)=false)/\(3 < k->(a - x == -1&&b - y==0)=false) /\
   Fr [] (((w.alloc (.cells #[ii x,ii y] 159)).alloc (.cells #[ii a,ii b] 159)).alloc (.cells #[ii (a - x),ii (b - y)] 159)) wr) (fun i _=>4 - (intOf i).toNat)
 case atStart=>exact ⟨0,by omega,rfl,by omega,by omega,by omega,by omega,r0 _ _⟩
 obtain ⟨k,F,rfl,j,l,n,q,f⟩:=hrel
 have h:=f.heap0 (iI w _ _ _)
 have s:ca wr (w.heap.size+1+1) 0 (ii (a - x)):=aB h
 have t:ca wr (w.heap.size+1+1) 1 (ii (b - y)):=aB h
 have p:w.heap.size+1+1 < wr.heap.size:=aH h
 clear h
 have H:=AF
 have I:=AG
 have J:=AH
 have K:=AJ
 rcases (show k=0\/k=1\/k=2\/k=3\/k=4 by omega) with rfl|rfl|rfl|rfl|rfl
 ·obtain ⟨B,d⟩:∃ B,(a - x==0&&b - y==(-1))=B:=⟨_,rfl⟩
  have c:=aA d
  clear d
  cases B
  ·go_wp2_with (refine jL rfl _ _ _ _ rfl rfl (a - x) (b - y) 0 (-1) rfl rfl _ c.o ?_)
   go_roundw
   case rel=>exact ⟨1,by omega,rfl,fun _=>c.o,by omega,by omega,by omega,f.alloc _⟩
   case measure=>simp [intOf]
  go_wp2_with (refine jL rfl _ _ _ _ rfl rfl (a - x) (b - y) 0 (-1) rfl rfl _ c.o ?_)
  go_ret
  exact ⟨iW (by unfold aY;rw [c.o];simp),((((r0 _ _).alloc _).alloc _).alloc _).then0 (f.alloc _)⟩
 ·obtain ⟨B,d⟩:∃ B,(a - x==1&&b - y==0)=B:=⟨_,rfl⟩
  have c:=aA d
  clear d
  cases B
  ·go_wp2_with (refine jL rfl _ _ _ _ rfl rfl (a - x) (b - y) 1 0 rfl rfl _ c.o ?_)
   go_roundw
   case rel=>exact ⟨2,by omega,rfl,fun _=>j (by omega),fun _=>c.o,by omega,by omega,f.alloc _⟩
   case measure=>simp [intOf]
  go_wp2_with (refine jL rfl _ _ _ _ rfl rfl (a - x) (b - y) 1 0 rfl rfl _ c.o ?_)
  go_ret
  exact ⟨iW (by unfold aY;rw [c.o];simp),((((r0 _ _).alloc _).alloc _).alloc _).then0 (f.alloc _)⟩
 ·obtain ⟨B,d⟩:∃ B,(a - x==0&&b - y==1)=B:=⟨_,rfl⟩
  have c:=aA d
  clear d
  cases B
  ·go_wp2_with (refine jL rfl _ _ _ _ rfl rfl (a - x) (b - y) 0 1 rfl rfl _ c.o ?_)
   go_roundw
   case rel=>exact ⟨3,by omega,rfl,fun _=>j (by omega),fun _=>l (by omega),fun _=>c.o,by omega,f.alloc _⟩
   case measure=>simp [intOf]
  go_wp2_with (refine jL rfl _ _ _ _ rfl rfl (a - x) (b - y) 0 1 rfl rfl _ c.o ?_)
  go_ret
  exact ⟨iW (by unfold aY;rw [c.o];simp),((((r0 _ _).alloc _).alloc _).alloc _).then0 (f.alloc _)⟩
 ·obtain ⟨B,d⟩:∃ B,(a - x==(-1)&&b - y==0)=B:=⟨_,rfl⟩
  have c:=aA d
  clear d
  cases B
  ·go_wp2_with (refine jL rfl _ _ _ _ rfl rfl (a - x) (b - y) (-1) 0 rfl rfl _ c.o ?_)
   go_roundw
   case rel=>exact ⟨4,by omega,rfl,fun _=>j (by omega),fun _=>l (by omega),fun _=>n (by omega),fun _=>c.o,f.alloc _⟩
   case measure=>simp [intOf]
  go_wp2_with (refine jL rfl _ _ _ _ rfl rfl (a - x) (b - y) (-1) 0 rfl rfl _ c.o ?_)
  go_ret
  exact ⟨iW (by unfold aY;rw [c.o];simp),((((r0 _ _).alloc _).alloc _).alloc _).then0 (f.alloc _)⟩
 go_wp2
 go_ret
 exact ⟨iW (by unfold aY;rw [j (by omega),l (by omega),n (by omega),q (by omega)];rfl),((((r0 _ _).alloc _).alloc _).alloc _).then0 f⟩
end Go.Proofs.YtapabahhfanmmaaGreatDoor
namespace Go.Proofs.YtapabahhfanmmaaGreatDoor
open Go.ChangeShapes Go.WideShapes Go.ChangeAt Go.WideMaps Go.WideElems Go.RowKit List
set_option maxRecDepth 100000
abbrev wO:List (String×DataW Unit):=[("skirmish/land.sides",Rows.laid_skirmish_land_sides)]
theorem NW:ownKnob Tryz.prog.godebug=none:=by kernel_rfl
theorem gSides:Tryz.prog.globalNamed "skirmish/land.sides"=some 0:=by kernel_rfl
theorem tSides:(Tryz.prog.globals[0]?).map (·.type)=some 284:=by kernel_rfl
theorem KI:laidOutB Tryz.prog=true:=by kernel_rfl
theorem GE {l:List Value}(h:l.length=8):∃ a b c d e f g i,l=[a,b,c,d,e,f,g,i]:=by
 match l,h with
 | [a,b,c,d,e,f,g,i],_=>exact ⟨a,b,c,d,e,f,g,i,rfl⟩
theorem MJ {W:World}(h:laidMetH Tryz.prog wO W):Sd W:=by
 rw [MakeChecks.laidMetH_plain _ _ _ (by kernel_rfl)] at h
 obtain ⟨ps,⟨g0,t0,o,f0,C,D,f,w,y,d,_,_⟩,_,_⟩:=h
 obtain rfl:=Option.some.inj (gSides.symm.trans f)
 obtain rfl:=Option.some.inj (tSides.symm.trans w)
 obtain ⟨xs,m1,rfl,c,b,u,e⟩:=DataW.trod_array Tryz.underlying284 d
 have P:Tryz.prog.cellsOf 159=2:=by kernel_rfl
 have Q:Tryz.prog.cellsOf 3=1:=by kernel_rfl
 have cS:Tryz.prog.cellsOf 284=8:=by kernel_rfl
 rw [cS] at b
 obtain ⟨l0⟩:=o
 obtain ⟨H,I,J,K,L,M,N,O,rfl⟩:=GE b
 clear b
 clear d
 dsimp only at e
 have a:∀ i,i < 4->∃ p q:Int,xs[i]?.map (·.1)=some (.agg [.lit (.int .i64 p),.lit (.int .i64 q)])/\([H,I,J,K,L,M,N,O].drop (i*2)).take 2=[.int .i64 p,.int .i64 q]:=by
  intro i hi
  have h1:=e i hi
  rw [P] at h1
  obtain ⟨x,hx⟩:∃ x,xs[i]?=some x:=⟨_,getElem?_eq_getElem (by omega)⟩
  rw [hx] at h1
  obtain ⟨A,B,n,rfl,_,R,S⟩:=trod_struct2 Tryz.underlying159 h1
  obtain ⟨p,r,rfl,_⟩:=DataW.trod_int Tryz.underlying3 R
  obtain ⟨q,s,rfl,_⟩:=DataW.trod_int Tryz.underlying3 S
  refine ⟨p,q,by rw [hx];rfl,?_⟩
  rw [Q] at r s
  have t:i=0\/i=1\/i=2\/i=3:=by omega
  rcases t with rfl|rfl|rfl|rfl <;> simp at r s |- <;> exact ⟨r,s⟩
 obtain ⟨C,D,g,A⟩:=a 0 (by omega)
 obtain ⟨X,q1,k,B⟩:=a 1 (by omega)
 obtain ⟨Y,q2,l,E⟩:=a 2 (by omega)
 obtain ⟨p3,q3,m,F⟩:=a 3 (by omega)
 have z:xs.map (·.1)=[.agg [.lit (.int .i64 C),.lit (.int .i64 D)],.agg [.lit (.int .i64 X),.lit (.int .i64 q1)],.agg [.lit (.int .i64 Y),.lit (.int .i64 q2)],.agg [.lit (.int .i64 p3),.lit (.int .i64 q3)]]:=by
  match xs,u,g,k,l,m with
  | [z0,z1,z2,z3],_,g,k,l,m =>
   simp at g k l m |-
   exact ⟨g,k,l,m⟩
 rw [z] at c
 simp only [Rows.laid_skirmish_land_sides,Prod.mk.injEq,DataW.agg.injEq,cons.injEq,DataW.lit.injEq,Lit.int.injEq] at c
 simp at A B E F
 obtain ⟨⟨⟨⟨_,rfl⟩,⟨_,rfl⟩,_⟩,⟨⟨_,rfl⟩,⟨_,rfl⟩,_⟩,⟨⟨_,rfl⟩,⟨_,rfl⟩,_⟩,⟨⟨_,rfl⟩,⟨_,rfl⟩,_⟩,_⟩,_⟩:=c
 obtain ⟨rfl,rfl⟩:=A
 obtain ⟨rfl,rfl⟩:=B
 obtain ⟨rfl,rfl⟩:=E
 obtain ⟨rfl,rfl⟩:=F
 intro j v V
 have:=World.var?_cell f y j
 rw [Nat.zero_add,this]
 simpa using V
theorem OP {H:Type} {enc:TypeId×Value->H} {P:Program} {f:Func} {s:ChangeSpec} {c l d k:Bool} {W o:World} {args:Array Value} {v:Value} {q gs:List (DataW H)} {a pa pv:List MemPlace}
  (y:DataW.Whole enc P f.params.toList s.vars c W args.toList q gs a)
  (i:∀ (b:Nat) (n:Nat->Bool) (C:Bool),DataW.TrodAll enc P o b n C f.resultTypes.toList (v.resultList f.resultTypes.size) (s.fn H (q ++ gs)).results [])
  (e:∀ n:Nat->Bool,(∀ p∈a,n p.block=true)->DataW.TrodAll enc P o 0 n true f.params.toList args.toList (s.fn H (q ++ gs)).args pa)
  (g:∀ n:Nat->Bool,(∀ p∈a,n p.block=true)->DataW.TrodVars enc P o n s.vars (s.fn H (q ++ gs)).vars pv)
  (m:a=pa ++ pv) (A:Fr [] W o)
  (z:∀ (j:Nat) (t:TypeId) (r:Value),f.resultTypes[j]?=some t->(v.resultList f.resultTypes.size)[j]?=some r->Value.okWide P o .any 0 t r) :
  s.post enc P f c l d k W args v o:=by
 have h:∀ p∈a,(fun b=>decide (b < W.heap.size)) p.block=true:=fun p w=>by simpa using y.lt p w
 have u:=y.lt
 refine ⟨q,gs,a,[],pa,pv,y,i _ _ _,e _ h,g _ h,A.below.frame _,fun _=>?_⟩
 obtain ⟨_,_,_,_,_,hz,hn⟩:=y
 refine ⟨z,_,_,([] ++ pa) ++ pv,⟨[] ++ pa,pv,trodAll_append (e _ (fun _ _=>rfl)) (i _ _ _),g _ (fun _ _=>rfl),rfl,?_,?_⟩,?_⟩
 ·intro b x w
  have hb:MemPlace.cell b x∈a:=by rw [m];simpa using w
  rw [A.below.frozen (u _ hb)]
  exact hz b x hb
 ·intro B
  have:=hn B
  rw [m] at this
  simpa using this
 intro p w _
 rw [m]
 simpa using w
theorem lW {w:World}{a:Addr}{i:Nat}{v:Value}(h:w.cell? (a.add 0)=some v):a.add i=⟨a.block,a.off+i,none⟩:=by
 obtain ⟨b,o,c⟩:=a
 have:c=none:=by
  cases c with
  | none=>rfl
  | some x =>
   unfold Addr.add World.cell? at h
   simp at h
   split at h <;> simp_all
 subst this
 rw [Addr.add_lit]
