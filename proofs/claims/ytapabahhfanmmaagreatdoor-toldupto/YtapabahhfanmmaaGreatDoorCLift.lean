import Derived.Test.YtapabahhfanmmaaGreatDoorCLeaf
import Derived.RegionTactic
import Derived.BigRegion
import Derived.Deep.MidRow
import Derived.ProofKit
import Derived.LaidMore
import Derived.OpenShut
import Derived.Carry
import Derived.Stop.Joined
import Derived.Deep.Slices
namespace Go.Proofs.YtapabahhfanmmaaGreatDoor
open Go.RowKit
set_option maxRecDepth 100000
set_option maxHeartbeats 400000
abbrev U.ordered (u:U)(c:Cm):U:={ u with what:=c.what,tox:=c.x,toy:=c.y,target:=c.target }
abbrev U.idle (u:U):U:={ u with what:=0,tox:=0,toy:=0,target:=0 }
theorem yy4 (u:U)(c:Cm)(w:World) :
  Calls Tryz.prog 194 #[u.val,c.val] w fun e w'=>e=.returned (u.ordered c).val/\Fr [] w w':=by
 go_enter Tryz.func194,Tryz.ntmps194
 go_wp2
 go_region
 go_wp2
 exact bodyPost_ret (v:=(u.ordered c).val) (by simp [results,Tryz.results194,go_sem]) rfl ⟨rfl,((((Fr.refl _ _).alloc _).alloc _).alloc _).drew⟩
theorem dy1 (t:Value)(u:U)(w:World) :
  Calls Tryz.prog 169 #[t,u.val] w fun e w'=>e=.returned u.val/\Fr [] w w':=by
 go_enter Tryz.func169,Tryz.ntmps169
 go_wp2
 exact bodyPost_ret (v:=u.val) (by simp [results,Tryz.results169,go_sem]) rfl ⟨rfl,((Fr.refl _ _).alloc _).alloc _⟩
theorem jj8 (c:Cm)(w:World) :
  Calls Tryz.prog 168 #[c.val] w fun e w'=>e=.returned (Cm.mk c.unit c.what 0 0 0).val/\Fr [] w w':=by
 go_enter Tryz.func168,Tryz.ntmps168
 go_wp2
 exact bodyPost_ret (v:=(Cm.mk c.unit c.what 0 0 0).val) (by simp [results,Tryz.results168,go_sem]) rfl ⟨rfl,((Fr.refl _ _).alloc _).alloc _⟩
theorem yq2 (c:Cm)(w:World) :
  Calls Tryz.prog 158 #[c.val] w fun e w'=>e=.returned (Cm.mk c.unit c.what c.x c.y 0).val/\Fr [] w w':=by
 go_enter Tryz.func158,Tryz.ntmps158
 go_wp2
 exact bodyPost_ret (v:=(Cm.mk c.unit c.what c.x c.y 0).val) (by simp [results,Tryz.results158,go_sem]) rfl ⟨rfl,((Fr.refl _ _).alloc _).alloc _⟩
theorem jk6 (c:Cm)(w:World) :
  Calls Tryz.prog 165 #[c.val] w fun e w'=>e=.returned (Cm.mk c.unit c.what 0 0 c.target).val/\Fr [] w w':=by
 go_enter Tryz.func165,Tryz.ntmps165
 go_wp2
 exact bodyPost_ret (v:=(Cm.mk c.unit c.what 0 0 c.target).val) (by simp [results,Tryz.results165,go_sem]) rfl ⟨rfl,((Fr.refl _ _).alloc _).alloc _⟩
theorem yq3 (c:Cm)(w:World) :
  Calls Tryz.prog 155 #[c.val] w fun e w'=>e=.returned (Cm.mk c.unit c.what c.x 0 0).val/\Fr [] w w':=by
 go_enter Tryz.func155,Tryz.ntmps155
 go_wp2
 exact bodyPost_ret (v:=(Cm.mk c.unit c.what c.x 0 0).val) (by simp [results,Tryz.results155,go_sem]) rfl ⟨rfl,((Fr.refl _ _).alloc _).alloc _⟩
theorem yk9 (g:Value)(u:U)(c:Cm)(w:World) :
  Calls Tryz.prog 167 #[g,u.val,c.val] w fun e w'=>e=.returned (.bool true)/\Fr [] w w':=by
 go_enter Tryz.func167,Tryz.ntmps167
 go_wp2
 go_ret
 exact ⟨rfl,((Fr.refl _ _).alloc _).alloc _⟩
theorem fk8 (a:Int)(w:World) :
  Calls Tryz.prog 219 #[.int .i64 a] w fun e w'=>e=.returned (.bool false)/\w=w':=by
 go_enter Tryz.func219,Tryz.ntmps219
 go_wp2
 go_ret
 exact ⟨by simp,rfl⟩
def yv9 (a b:Int):Int:=if a < b then -1 else if b < a then 1 else 0
theorem kj9 (a b:Int)(w:World) :
  Calls Tryz.prog 197 #[.int .i64 a,.int .i64 b] w fun e w'=>e=.returned (.int .i64 (yv9 a b))/\w=w':=by
 go_enter Tryz.func197,Tryz.ntmps197
 go_wp2_with (go_at_call 219;refine (fk8 _ _).mono ?_;rintro e w' ⟨rfl,rfl⟩)
 all_goals
  go_ret
  exact ⟨fj3 (by simp [yv9, *] <;> omega),rfl⟩
theorem yx4 (u:U)(w:World) :
  Calls Tryz.prog 200 #[u.val] w fun e w'=>e=.returned u.idle.val/\Fr [] w w':=by
 go_enter Tryz.func200,Tryz.ntmps200
 go_wp2_with (go_at_call 194;refine (yy4 u (Cm.mk 0 0 0 0 0) _).mono ?_;rintro e w1 ⟨rfl,hf⟩;obtain ⟨hc,hz⟩:=hf.cells0)
 refine bodyPost_ret (v:=u.idle.val) (by simp [results,Tryz.results200,go_sem,hc]) rfl ⟨rfl,?_⟩
 repeat (refine Fr.setCell ?_ _ _ (Or.inr (by simp)))
 exact (((Fr.refl _ _).alloc _).alloc _).then0 hf
theorem yy3 (u:U)(id:Int)(w:World) :
  Calls Tryz.prog 196 #[u.val,.int .i64 id] w fun e w'=>e=.returned (.int .i64 (yv9 u.id id))/\Fr [] w w':=by
 go_enter Tryz.func196,Tryz.ntmps196
 go_wp2_with (go_at_call 197;refine (kj9 _ _ _).mono ?_;rintro e w1 ⟨rfl,rfl⟩)
 go_ret
 exact ⟨rfl,(Fr.refl _ _).alloc _⟩
abbrev fv (n:Nat):Value:=.func (.func n) #[] #[]
abbrev jk7:Value:=.agg #[.int .i64 40,.int .i64 0,.int .i64 0,.bool false,fv 167,fv 167,fv 168,fv 169,.nilFunc,.nilFunc,.nilFunc,.nilFunc,.nilFunc,.nilFunc,.nilFunc,.nilFunc,.nilFunc,.nilFunc,.nilFunc,.nilFunc,fv 154,fv 154,fv 155,fv 156]
abbrev jj9:Value:=.agg #[.int .i64 8,.int .i64 5,.int .i64 5,.bool true,fv 167,fv 167,fv 168,fv 169,fv 157,fv 157,fv 158,fv 159,fv 160,fv 161,fv 158,fv 162,.nilFunc,.nilFunc,.nilFunc,.nilFunc,.nilFunc,.nilFunc,.nilFunc,.nilFunc]
abbrev jk8:Value:=.agg #[.int .i64 12,.int .i64 8,.int .i64 0,.bool true,fv 167,fv 167,fv 168,fv 169,fv 157,fv 157,fv 158,fv 159,.nilFunc,.nilFunc,.nilFunc,.nilFunc,fv 163,fv 164,fv 165,fv 166,.nilFunc,.nilFunc,.nilFunc,.nilFunc]
abbrev dk0:Value:=.agg #[.int .i64 0,.int .i64 0,.int .i64 0,.bool false,.nilFunc,.nilFunc,.nilFunc,.nilFunc,.nilFunc,.nilFunc,.nilFunc,.nilFunc,.nilFunc,.nilFunc,.nilFunc,.nilFunc,.nilFunc,.nilFunc,.nilFunc,.nilFunc,.nilFunc,.nilFunc,.nilFunc,.nilFunc]
abbrev qxj1:List Value:=[ii 0,ii (-1),ii 1,ii 0,ii 0,ii 1,ii (-1),ii 0]
abbrev fj5:Value:=.agg #[ii 0,ii (-1),ii 1,ii 0,ii 0,ii 1,ii (-1),ii 0]
def Sd (w:World):Prop:=w.rangeAt 0 0 qxj1
theorem Sd.fr {S:List Nat}{w w':World}(h:Sd w)(hf:Fr S w w')(hn:0∉S):Sd w':=fun j v hv=>by
 have h1:=h j v hv
 rw [hf.cell 0 _ (qq1 h1) hn];exact h1
theorem Sd.fr0 {w w':World}(h:Sd w)(hf:Fr [] w w'):Sd w':=h.fr hf (by simp)
theorem Sd.cells {w:World}(h:Sd w):w.cell? ⟨0,0,none⟩=some (ii 0)/\w.cell? ⟨0,1,none⟩=some (ii (-1))/\w.cell? ⟨0,2,none⟩=some (ii 1)/\w.cell? ⟨0,3,none⟩=some (ii 0) /\
  w.cell? ⟨0,4,none⟩=some (ii 0)/\w.cell? ⟨0,5,none⟩=some (ii 1)/\w.cell? ⟨0,6,none⟩=some (ii (-1))/\w.cell? ⟨0,7,none⟩=some (ii 0) :=
 ⟨h 0 _ rfl,h 1 _ rfl,h 2 _ rfl,h 3 _ rfl,h 4 _ rfl,h 5 _ rfl,h 6 _ rfl,h 7 _ rfl⟩
theorem Sd.pos {w:World}(h:Sd w):0 < w.heap.size:=qq1 (h 0 _ rfl)
theorem dy6 (w:World):(Instr.index 284 fj5 (.int .i64 0)).run Tryz.prog w=.ok (cv 0 (-1)) w:=by kernel_rfl
theorem dy7 (w:World):(Instr.index 284 fj5 (.int .i64 1)).run Tryz.prog w=.ok (cv 1 0) w:=by kernel_rfl
theorem dy8 (w:World):(Instr.index 284 fj5 (.int .i64 2)).run Tryz.prog w=.ok (cv 0 1) w:=by kernel_rfl
theorem dy9 (w:World):(Instr.index 284 fj5 (.int .i64 3)).run Tryz.prog w=.ok (cv (-1) 0) w:=by kernel_rfl
theorem gx4 (a b c d:Int)(w:World):(binOp BinOp.eql 159 (cv a b) (cv c d)).run Tryz.prog w=.ok (.bool (a==c&&b==d)) w:=by
  by_cases h1:a=c <;> by_cases h2:b=d <;> simp [go_sem,h1,h2]
theorem xx1 (x y:Operand)(a b c d:Int)(w:World):(eqGuard BinOp.eql 159 x y (cv a b) (cv c d)).run Tryz.prog w=.ok () w:=by kernel_rfl
theorem qv6 {ops:Array Oper} {rest:List Oper} {o:Oper} {act:Act} {w:World} {Q:Exit->Act->World->Prop} (hgd:o.guard=none) (x y:Operand) (t t':TypeId) (ho:o.op=.binOp .eql t x y t') (ht:t=159)
  (a b c d:Int) (hx:act.eval x=cv a b) (hy:act.eval y=cv c d) (B:Bool) (hB:(a==c&&b==d)=B)
  (h:wpList Tryz.prog ops Q rest (act.put o.dst (.bool B)) w):wpList Tryz.prog ops Q (o :: rest) act w:=by
 subst ht hB
 refine wpList_plain hgd fun _ hK=>?_
 unfold Oper.wp
 simp [execOp,ho,hx,hy,gx4,xx1,Result.andThen]
 exact hK _ _ h
theorem qk1 (w:World)(A B C:Obj):(((w.alloc A).alloc B).alloc C).heap[w.heap.size+1+1]?=some C:=by
 have h:=qz4 (w.alloc A) B C
 rwa [show (w.alloc A).heap.size=w.heap.size+1 by simp] at h
def qv5 (x y x' y':Int):Bool:=(x' - x==0&&y' - y == -1)||(x' - x==1&&y' - y==0)||(x' - x==0&&y' - y==1)||(x' - x == -1&&y' - y==0)
theorem zk6 (x y x' y':Int)(w:World)(hsd:Sd w)(h1:-1000<=x)(h2:x<=1000)(h3:-1000<=y)(h4:y<=1000)(h5:-1000<=x')(h6:x'<=1000)(h7:-1000<=y')(h8:y'<=1000) :
  Calls Tryz.prog 206 #[cv x y,cv x' y'] w fun e w'=>e=.returned (.bool (qv5 x y x' y'))/\Fr [] w w':=by
 obtain ⟨s0,s1,s2,s3,s4,s5,s6,s7⟩:=hsd.cells
 have hpos:=hsd.pos
 go_enter Tryz.func206,Tryz.ntmps206
 go_wp2_with fail
 go_loopw [20] (fun i wr=>∃ k:Nat,k<=4/\i=.int .i64 k/\(0 < k->(x' - x==0&&y' - y == -1)=false)/\(1 < k->(x' - x==1&&y' - y==0)=false)/\(2 < k->(x' - x==0&&y' - y==1)=false)/\(3 < k->(x' - x == -1&&y' - y==0)=false) /\
   Fr [] (((w.alloc (.cells #[ii x,ii y] 159)).alloc (.cells #[ii x',ii y'] 159)).alloc (.cells #[ii (x' - x),ii (y' - y)] 159)) wr) (fun i _=>4 - (intOf i).toNat)
 case atStart=>exact ⟨0,by omega,rfl,by omega,by omega,by omega,by omega,Fr.refl _ _⟩
 case round =>
  obtain ⟨k,hk,rfl,n0,n1,n2,n3,hf⟩:=hrel
  have hh:=hf.heap0 (qk1 w _ _ _)
  have d0:wr.cell? ⟨w.heap.size+1+1,0,none⟩=some (ii (x' - x)):=j9 hh
  have d1:wr.cell? ⟨w.heap.size+1+1,1,none⟩=some (ii (y' - y)):=j9 hh
  have hsz:w.heap.size+1+1 < wr.heap.size:=qq2 hh
  clear hh
  have i0:=dy6
  have i1:=dy7
  have i2:=dy8
  have i3:=dy9
  rcases (show k=0\/k=1\/k=2\/k=3\/k=4 by omega) with rfl|rfl|rfl|rfl|rfl
  ·obtain ⟨B,hB⟩:∃ B,(x' - x==0&&y' - y==(-1))=B:=⟨_,rfl⟩
   have HB:=hid hB
   clear hB
   cases B
   ·go_wp2_with (refine qv6 rfl _ _ _ _ rfl rfl (x' - x) (y' - y) 0 (-1) rfl rfl _ HB.out ?_)
    go_roundw
    case rel=>exact ⟨1,by omega,rfl,fun _=>HB.out,by omega,by omega,by omega,hf.alloc _⟩
    case measure=>simp [intOf]
   ·go_wp2_with (refine qv6 rfl _ _ _ _ rfl rfl (x' - x) (y' - y) 0 (-1) rfl rfl _ HB.out ?_)
    go_ret
    exact ⟨zx4 (by unfold qv5;rw [HB.out];simp),((((Fr.refl _ _).alloc _).alloc _).alloc _).then0 (hf.alloc _)⟩
  ·obtain ⟨B,hB⟩:∃ B,(x' - x==1&&y' - y==0)=B:=⟨_,rfl⟩
   have HB:=hid hB
   clear hB
   cases B
   ·go_wp2_with (refine qv6 rfl _ _ _ _ rfl rfl (x' - x) (y' - y) 1 0 rfl rfl _ HB.out ?_)
    go_roundw
    case rel=>exact ⟨2,by omega,rfl,fun _=>n0 (by omega),fun _=>HB.out,by omega,by omega,hf.alloc _⟩
    case measure=>simp [intOf]
   ·go_wp2_with (refine qv6 rfl _ _ _ _ rfl rfl (x' - x) (y' - y) 1 0 rfl rfl _ HB.out ?_)
    go_ret
    exact ⟨zx4 (by unfold qv5;rw [HB.out];simp),((((Fr.refl _ _).alloc _).alloc _).alloc _).then0 (hf.alloc _)⟩
  ·obtain ⟨B,hB⟩:∃ B,(x' - x==0&&y' - y==1)=B:=⟨_,rfl⟩
   have HB:=hid hB
   clear hB
   cases B
   ·go_wp2_with (refine qv6 rfl _ _ _ _ rfl rfl (x' - x) (y' - y) 0 1 rfl rfl _ HB.out ?_)
    go_roundw
    case rel=>exact ⟨3,by omega,rfl,fun _=>n0 (by omega),fun _=>n1 (by omega),fun _=>HB.out,by omega,hf.alloc _⟩
    case measure=>simp [intOf]
   ·go_wp2_with (refine qv6 rfl _ _ _ _ rfl rfl (x' - x) (y' - y) 0 1 rfl rfl _ HB.out ?_)
    go_ret
    exact ⟨zx4 (by unfold qv5;rw [HB.out];simp),((((Fr.refl _ _).alloc _).alloc _).alloc _).then0 (hf.alloc _)⟩
  ·obtain ⟨B,hB⟩:∃ B,(x' - x==(-1)&&y' - y==0)=B:=⟨_,rfl⟩
   have HB:=hid hB
   clear hB
   cases B
   ·go_wp2_with (refine qv6 rfl _ _ _ _ rfl rfl (x' - x) (y' - y) (-1) 0 rfl rfl _ HB.out ?_)
    go_roundw
    case rel=>exact ⟨4,by omega,rfl,fun _=>n0 (by omega),fun _=>n1 (by omega),fun _=>n2 (by omega),fun _=>HB.out,hf.alloc _⟩
    case measure=>simp [intOf]
   ·go_wp2_with (refine qv6 rfl _ _ _ _ rfl rfl (x' - x) (y' - y) (-1) 0 rfl rfl _ HB.out ?_)
    go_ret
    exact ⟨zx4 (by unfold qv5;rw [HB.out];simp),((((Fr.refl _ _).alloc _).alloc _).alloc _).then0 (hf.alloc _)⟩
  ·go_wp2
   go_ret
   exact ⟨zx4 (by unfold qv5;rw [n0 (by omega),n1 (by omega),n2 (by omega),n3 (by omega)];rfl),((((Fr.refl _ _).alloc _).alloc _).alloc _).then0 hf⟩
end Go.Proofs.YtapabahhfanmmaaGreatDoor
namespace Go.Proofs.YtapabahhfanmmaaGreatDoor
open Go.ChangeShapes Go.WideShapes Go.ChangeAt Go.WideMaps Go.WideElems Go.RowKit
abbrev qzx8:List (String×DataW Unit):=[("skirmish/land.sides",Rows.laid_skirmish_land_sides)]
theorem ownK:ownKnob Tryz.prog.godebug=none:=by kernel_rfl
theorem gSides:Tryz.prog.globalNamed "skirmish/land.sides"=some 0:=by kernel_rfl
theorem tSides:(Tryz.prog.globals[0]?).map (·.type)=some 284:=by kernel_rfl
theorem dk2:laidOutB Tryz.prog=true:=by kernel_rfl
theorem dj4 {l:List Value}(h:l.length=8):∃ a0 a1 a2 a3 a4 a5 a6 a7,l=[a0,a1,a2,a3,a4,a5,a6,a7]:=by
 match l,h with
 | [a0,a1,a2,a3,a4,a5,a6,a7],_=>exact ⟨a0,a1,a2,a3,a4,a5,a6,a7,rfl⟩
theorem qqx8 {W:World}(h:laidMetH Tryz.prog qzx8 W):Sd W:=by
 rw [MakeChecks.laidMetH_plain _ _ _ (by kernel_rfl)] at h
 obtain ⟨ps,⟨g0,t0,cs0,f0,p0,q0,hg0,ht0,hv0,hd0,_,_⟩,_,_⟩:=h
 obtain rfl:=Option.some.inj (gSides.symm.trans hg0)
 obtain rfl:=Option.some.inj (tSides.symm.trans ht0)
 obtain ⟨xs,m1,rfl,hx1,hlen,hn4,hel⟩:=DataW.trod_array Tryz.underlying284 hd0
 have cC:Tryz.prog.cellsOf 159=2:=by kernel_rfl
 have cI:Tryz.prog.cellsOf 3=1:=by kernel_rfl
 have cS:Tryz.prog.cellsOf 284=8:=by kernel_rfl
 rw [cS] at hlen
 obtain ⟨l0⟩:=cs0
 obtain ⟨a0,a1,a2,a3,a4,a5,a6,a7,rfl⟩:=dj4 hlen
 clear hlen
 clear hd0
 ·dsimp only at hel
  have each:∀ i,i < 4->∃ p q:Int,xs[i]?.map (·.1)=some (.agg [.lit (.int .i64 p),.lit (.int .i64 q)])/\([a0,a1,a2,a3,a4,a5,a6,a7].drop (i*2)).take 2=[.int .i64 p,.int .i64 q]:=by
   intro i hi
   have h1:=hel i hi
   rw [cC] at h1
   obtain ⟨x,hx⟩:∃ x,xs[i]?=some x:=⟨_,List.getElem?_eq_getElem (by omega)⟩
   rw [hx] at h1
   obtain ⟨y0,y1,n,rfl,_,e0,e1⟩:=trod_struct2 Tryz.underlying159 h1
   obtain ⟨p,ep,rfl,_⟩:=DataW.trod_int Tryz.underlying3 e0
   obtain ⟨q,eq,rfl,_⟩:=DataW.trod_int Tryz.underlying3 e1
   refine ⟨p,q,by rw [hx];rfl,?_⟩
   rw [cI] at ep eq
   have hi4:i=0\/i=1\/i=2\/i=3:=by omega
   rcases hi4 with rfl|rfl|rfl|rfl <;> simp at ep eq |- <;> exact ⟨ep,eq⟩
  obtain ⟨p0,q0,x0,y0⟩:=each 0 (by omega)
  obtain ⟨p1,q1,x1,y1⟩:=each 1 (by omega)
  obtain ⟨p2,q2,x2,y2⟩:=each 2 (by omega)
  obtain ⟨p3,q3,x3,y3⟩:=each 3 (by omega)
  have hxs:xs.map (·.1)=[.agg [.lit (.int .i64 p0),.lit (.int .i64 q0)],.agg [.lit (.int .i64 p1),.lit (.int .i64 q1)],.agg [.lit (.int .i64 p2),.lit (.int .i64 q2)],.agg [.lit (.int .i64 p3),.lit (.int .i64 q3)]]:=by
   match xs,hn4,x0,x1,x2,x3 with
   | [z0,z1,z2,z3],_,x0,x1,x2,x3 =>
    simp at x0 x1 x2 x3 |-
    exact ⟨x0,x1,x2,x3⟩
  rw [hxs] at hx1
  simp only [Rows.laid_skirmish_land_sides,Prod.mk.injEq,DataW.agg.injEq,List.cons.injEq,DataW.lit.injEq,Lit.int.injEq] at hx1
  simp at y0 y1 y2 y3
  obtain ⟨⟨⟨⟨_,rfl⟩,⟨_,rfl⟩,_⟩,⟨⟨_,rfl⟩,⟨_,rfl⟩,_⟩,⟨⟨_,rfl⟩,⟨_,rfl⟩,_⟩,⟨⟨_,rfl⟩,⟨_,rfl⟩,_⟩,_⟩,_⟩:=hx1
  obtain ⟨rfl,rfl⟩:=y0
  obtain ⟨rfl,rfl⟩:=y1
  obtain ⟨rfl,rfl⟩:=y2
  obtain ⟨rfl,rfl⟩:=y3
  intro j v hv
  have:=World.var?_cell hg0 hv0 j
  rw [Nat.zero_add,this]
  simpa using hv
theorem qzj0 {H:Type} {enc:TypeId×Value->H} {P:Program} {f:Func} {s:ChangeSpec} {apart fresh handsOn again:Bool} {W W':World} {args:Array Value} {v:Value} {ds gs:List (DataW H)} {before pa pv:List MemPlace}
  (hW:DataW.Whole enc P f.params.toList s.vars apart W args.toList ds gs before)
  (hres:∀ (b:Nat) (sp:Nat->Bool) (hd:Bool),DataW.TrodAll enc P W' b sp hd f.resultTypes.toList (v.resultList f.resultTypes.size) (s.fn H (ds ++ gs)).results [])
  (hargs:∀ sp:Nat->Bool,(∀ p∈before,sp p.block=true)->DataW.TrodAll enc P W' 0 sp true f.params.toList args.toList (s.fn H (ds ++ gs)).args pa)
  (hvars:∀ sp:Nat->Bool,(∀ p∈before,sp p.block=true)->DataW.TrodVars enc P W' sp s.vars (s.fn H (ds ++ gs)).vars pv)
  (hps:before=pa ++ pv) (hk:Fr [] W W')
  (hok:∀ (j:Nat) (t:TypeId) (r:Value),f.resultTypes[j]?=some t->(v.resultList f.resultTypes.size)[j]?=some r->Value.okWide P W' .any 0 t r) :
  s.post enc P f apart fresh handsOn again W args v W':=by
 have hold:∀ p∈before,(fun b=>decide (b < W.heap.size)) p.block=true:=fun p hp=>by simpa using hW.lt p hp
 have hWlt:=hW.lt
 refine ⟨ds,gs,before,[],pa,pv,hW,hres _ _ _,hargs _ hold,hvars _ hold,hk.below.frame _,fun _=>?_⟩
 obtain ⟨_,_,_,_,_,hz,hn⟩:=hW
 refine ⟨hok,_,_,([] ++ pa) ++ pv,⟨[] ++ pa,pv,trodAll_append (hargs _ (fun _ _=>rfl)) (hres _ _ _),hvars _ (fun _ _=>rfl),rfl,?_,?_⟩,?_⟩
 ·intro b off hp
  have hb:MemPlace.cell b off∈before:=by rw [hps];simpa using hp
  rw [hk.below.frozen (hWlt _ hb)]
  exact hz b off hb
 ·intro ha
  have:=hn ha
  rw [hps] at this
  simpa using this
 ·intro p hp _
  rw [hps]
  simpa using hp
theorem jv0 {w:World}{a:Addr}{i:Nat}{v:Value}(h:w.cell? (a.add 0)=some v):a.add i=⟨a.block,a.off+i,none⟩:=by
 obtain ⟨b,o,sp⟩:=a
 have:sp=none:=by
  cases sp with
  | none=>rfl
  | some x =>
   unfold Addr.add World.cell? at h
   simp at h
   split at h <;> simp_all
 subst this
 rw [Addr.add_lit]
end Go.Proofs.YtapabahhfanmmaaGreatDoor
