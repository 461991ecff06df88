import Derived.Test.YtapabahhfanmmaaGreatDoorCKinds
namespace Go.Proofs.YtapabahhfanmmaaGreatDoor
open Go.RowKit List Go.Proofs.Tryz
set_option maxHeartbeats 800000
set_option maxRecDepth 100000
set_option maxRecDepth 100000
theorem iP(b:Nat)(a:World):(binOp BinOp.neq 215 (.func (.func b) #[] #[]) .nilFunc).run prog a=.ok (.bool true) a:=qk
theorem iQ(a:World):(binOp BinOp.neq 215 .nilFunc .nilFunc).run prog a=.ok (.bool false) a:=qk
abbrev tU:Value:=.agg #[.nilFunc,.nilFunc,.nilFunc,.nilFunc]
theorem kG(d:Array Value)(a:Int)(c:World)(b:a<0\/5<=a):Cs 193 #[.agg d,ii a] c (R0 c (.tuple #[tU,.bool false])):=by
 obtain b|b:=b
 ·delta Cs;go_in
  go_wp2;exact Zq8 (v:=.tuple #[tU,.bool false]) (by simp[results,results193,go_sem]) rfl (by grind[Fr.alloc,r0])
 have e:¬a<0:=qo
 delta Cs;go_in
 go_wp2;exact Zq8 (v:=.tuple #[tU,.bool false]) (by simp[results,results193,go_sem]) rfl (by grind[Fr.alloc,r0])
theorem yO(a:World):Cs 193 #[jV,ii 0] a (R0 a (.tuple #[.agg #[fv 167,fv 167,fv 168,fv 169],.bool true])):=by
 delta Cs;go_in
 have b:=iP;have c:=iQ;go_wp2
 go_region
 go_wp2;exact Zq8 (v:=.tuple #[.agg #[fv 167,fv 167,fv 168,fv 169],.bool true]) (by simp[results,results193,go_sem]) rfl (by grind[Fr.drew,Fr.alloc,r0])
theorem NT(a:World):Cs 193 #[jV,ii 1] a (R0 a (.tuple #[.agg #[.nilFunc,.nilFunc,.nilFunc,.nilFunc],.bool false])):=by
 delta Cs;go_in
 have b:=iP;have c:=iQ;go_wp2
 go_region
 go_wp2;exact Zq8 (v:=.tuple #[.agg #[.nilFunc,.nilFunc,.nilFunc,.nilFunc],.bool false]) (by simp[results,results193,go_sem]) rfl (by grind[Fr.drew,Fr.alloc,r0])
theorem NU(a:World):Cs 193 #[jV,ii 2] a (R0 a (.tuple #[.agg #[.nilFunc,.nilFunc,.nilFunc,.nilFunc],.bool false])):=by
 delta Cs;go_in
 have b:=iP;have c:=iQ;go_wp2
 go_region
 go_wp2;exact Zq8 (v:=.tuple #[.agg #[.nilFunc,.nilFunc,.nilFunc,.nilFunc],.bool false]) (by simp[results,results193,go_sem]) rfl (by grind[Fr.drew,Fr.alloc,r0])
theorem NV(a:World):Cs 193 #[jV,ii 3] a (R0 a (.tuple #[.agg #[.nilFunc,.nilFunc,.nilFunc,.nilFunc],.bool false])):=by
 delta Cs;go_in
 have b:=iP;have c:=iQ;go_wp2
 go_region
 go_wp2;exact Zq8 (v:=.tuple #[.agg #[.nilFunc,.nilFunc,.nilFunc,.nilFunc],.bool false]) (by simp[results,results193,go_sem]) rfl (by grind[Fr.drew,Fr.alloc,r0])
theorem yP(a:World):Cs 193 #[jV,ii 4] a (R0 a (.tuple #[.agg #[fv 154,fv 154,fv 155,fv 156],.bool true])):=by
 delta Cs;go_in
 have b:=iP;have c:=iQ;go_wp2
 go_region
 go_wp2;exact Zq8 (v:=.tuple #[.agg #[fv 154,fv 154,fv 155,fv 156],.bool true]) (by simp[results,results193,go_sem]) rfl (by grind[Fr.drew,Fr.alloc,r0])
theorem yQ(a:World):Cs 193 #[jL,ii 0] a (R0 a (.tuple #[.agg #[fv 167,fv 167,fv 168,fv 169],.bool true])):=by
 delta Cs;go_in
 have b:=iP;have c:=iQ;go_wp2
 go_region
 go_wp2;exact Zq8 (v:=.tuple #[.agg #[fv 167,fv 167,fv 168,fv 169],.bool true]) (by simp[results,results193,go_sem]) rfl (by grind[Fr.drew,Fr.alloc,r0])
theorem yR(a:World):Cs 193 #[jL,ii 1] a (R0 a (.tuple #[.agg #[fv 157,fv 157,fv 158,fv 159],.bool true])):=by
 delta Cs;go_in
 have b:=iP;have c:=iQ;go_wp2
 go_region
 go_wp2;exact Zq8 (v:=.tuple #[.agg #[fv 157,fv 157,fv 158,fv 159],.bool true]) (by simp[results,results193,go_sem]) rfl (by grind[Fr.drew,Fr.alloc,r0])
theorem yS(a:World):Cs 193 #[jL,ii 2] a (R0 a (.tuple #[.agg #[fv 160,fv 161,fv 158,fv 162],.bool true])):=by
 delta Cs;go_in
 have b:=iP;have c:=iQ;go_wp2
 go_region
 go_wp2;exact Zq8 (v:=.tuple #[.agg #[fv 160,fv 161,fv 158,fv 162],.bool true]) (by simp[results,results193,go_sem]) rfl (by grind[Fr.drew,Fr.alloc,r0])
theorem NW(a:World):Cs 193 #[jL,ii 3] a (R0 a (.tuple #[.agg #[.nilFunc,.nilFunc,.nilFunc,.nilFunc],.bool false])):=by
 delta Cs;go_in
 have b:=iP;have c:=iQ;go_wp2
 go_region
 go_wp2;exact Zq8 (v:=.tuple #[.agg #[.nilFunc,.nilFunc,.nilFunc,.nilFunc],.bool false]) (by simp[results,results193,go_sem]) rfl (by grind[Fr.drew,Fr.alloc,r0])
theorem NX(a:World):Cs 193 #[jL,ii 4] a (R0 a (.tuple #[.agg #[.nilFunc,.nilFunc,.nilFunc,.nilFunc],.bool false])):=by
 delta Cs;go_in
 have b:=iP;have c:=iQ;go_wp2
 go_region
 go_wp2;exact Zq8 (v:=.tuple #[.agg #[.nilFunc,.nilFunc,.nilFunc,.nilFunc],.bool false]) (by simp[results,results193,go_sem]) rfl (by grind[Fr.drew,Fr.alloc,r0])
theorem yT(a:World):Cs 193 #[jW,ii 0] a (R0 a (.tuple #[.agg #[fv 167,fv 167,fv 168,fv 169],.bool true])):=by
 delta Cs;go_in
 have b:=iP;have c:=iQ;go_wp2
 go_region
 go_wp2;exact Zq8 (v:=.tuple #[.agg #[fv 167,fv 167,fv 168,fv 169],.bool true]) (by simp[results,results193,go_sem]) rfl (by grind[Fr.drew,Fr.alloc,r0])
theorem yU(a:World):Cs 193 #[jW,ii 1] a (R0 a (.tuple #[.agg #[fv 157,fv 157,fv 158,fv 159],.bool true])):=by
 delta Cs;go_in
 have b:=iP;have c:=iQ;go_wp2
 go_region
 go_wp2;exact Zq8 (v:=.tuple #[.agg #[fv 157,fv 157,fv 158,fv 159],.bool true]) (by simp[results,results193,go_sem]) rfl (by grind[Fr.drew,Fr.alloc,r0])
theorem NY(a:World):Cs 193 #[jW,ii 2] a (R0 a (.tuple #[.agg #[.nilFunc,.nilFunc,.nilFunc,.nilFunc],.bool false])):=by
 delta Cs;go_in
 have b:=iP;have c:=iQ;go_wp2
 go_region
 go_wp2;exact Zq8 (v:=.tuple #[.agg #[.nilFunc,.nilFunc,.nilFunc,.nilFunc],.bool false]) (by simp[results,results193,go_sem]) rfl (by grind[Fr.drew,Fr.alloc,r0])
theorem yV(a:World):Cs 193 #[jW,ii 3] a (R0 a (.tuple #[.agg #[fv 163,fv 164,fv 165,fv 166],.bool true])):=by
 delta Cs;go_in
 have b:=iP;have c:=iQ;go_wp2
 go_region
 go_wp2;exact Zq8 (v:=.tuple #[.agg #[fv 163,fv 164,fv 165,fv 166],.bool true]) (by simp[results,results193,go_sem]) rfl (by grind[Fr.drew,Fr.alloc,r0])
theorem NZ(a:World):Cs 193 #[jW,ii 4] a (R0 a (.tuple #[.agg #[.nilFunc,.nilFunc,.nilFunc,.nilFunc],.bool false])):=by
 delta Cs;go_in
 have b:=iP;have c:=iQ;go_wp2
 go_region
 go_wp2;exact Zq8 (v:=.tuple #[.agg #[.nilFunc,.nilFunc,.nilFunc,.nilFunc],.bool false]) (by simp[results,results193,go_sem]) rfl (by grind[Fr.drew,Fr.alloc,r0])
variable {X:List U} {a b c d:Nat} {C:U} {w x:World}
def Ppl(d:World)(c:Nat)(b:List U):Prop:=∀(a:Nat) (e:a<b.length),d.rangeAt c (a*11) b[a].cells
theorem Ppl.fr{S:List Nat}(b:Ppl w a X)(i:Fr S w x)(j:a∉S):Ppl x a X:=λe c f g d=>by have h:=b e c f g d;grind[Fr.cell,aI]
theorem Ppl.at{k:Nat}(b:Ppl w a X)(d:X[k]?=some C):w.cell? ⟨a,k*11,none⟩=some (ii C.id)/\w.cell? ⟨a,k*11+1,none⟩=some (ii C.owner)/\w.cell? ⟨a,k*11+2,none⟩=some (ii C.kind)/\w.cell? ⟨a,k*11+3,none⟩=some (ii C.x) /\w.cell? ⟨a,k*11+4,none⟩=some (ii C.y)/\w.cell? ⟨a,k*11+5,none⟩=some (ii C.life)/\w.cell? ⟨a,k*11+6,none⟩=some (ii C.load)/\w.cell? ⟨a,k*11+7,none⟩=some (ii C.what) /\w.cell? ⟨a,k*11+8,none⟩=some (ii C.tox)/\w.cell? ⟨a,k*11+9,none⟩=some (ii C.toy)/\w.cell? ⟨a,k*11+10,none⟩=some (ii C.target):=by obtain⟨e,rfl⟩:=gs.1 d;have:=b k e;exact⟨this 0 _ rfl,this 1 _ rfl,this 2 _ rfl,this 3 _ rfl,this 4 _ rfl,this 5 _ rfl,this 6 _ rfl,this 7 _ rfl,this 8 _ rfl,this 9 _ rfl,this 10 _ rfl⟩
def aG(b:Int)(a:U):Bool:=a.kind==1&&a.owner==b
def cK(b:List U)(a:Int):Option U:=b.find? (aG a)
abbrev zeroU:U:=⟨0,0,0,0,0,0,0,0,0,0,0⟩
theorem aS:(prog.info? 85).map (·.size)=some 11:=qk
theorem QS(i r s:Nat)(b:List U)(d:Int)(c:World)(P:c.cell? ⟨i,148,none⟩=some (.slice (so r) b.length s))(x:Ppl c r b)(w:b.length<=maxLen)(O:i<c.heap.size):Cs 92 #[pt i,ii d] c (R0 c (.tuple #[((cK b d).getD zeroU).val,.bool (cK b d).isSome])):=by
 unfold maxLen at w
 delta Cs;go_in
 go_wp2
 go_loopw [13] (fun n wr=>∃e:Nat,e<=b.length/\n=ii e/\(∀h (M:h<e) (N:h<b.length),aG d b[h]=false)/\Fr [] (c.alloc (.cells #[ii 0,ii 0,ii 0,ii 0,ii 0,ii 0,ii 0,ii 0,ii 0,ii 0,ii 0] 85)) wr) (fun n _=>b.length-(intOf n).toNat)
 ·grind[r0]
 obtain⟨e,Q,rfl,R,f⟩:=hrel
 by_cases p:e<b.length
 ·obtain⟨a,m⟩:∃a,b[e]?=some a:=qa;obtain⟨z,A,C,D,E,F,H,I,J,L,B⟩:=((x.fr ((r0 [] c).alloc _) qs).fr f qs).at m;have y:=(show Hi (b[e]?=some a)from m);clear m;have q:c.heap.size<wr.heap.size:=by have:=f.size;simp at this;omega
  have g:=f.qH (aC c _)
  by_cases k:(a.kind==1)=true
  ·by_cases l:(a.owner==d)=true
   ·have o:Hi (aG d a=true):=by simp[Hi,aG,k,l]
    go_wp2_with (refine wpList_store_row rfl 85 _ _ rfl c.heap.size a.arr rfl rfl 85 _ ((eL _ _ _ q).trans g) aS rfl a.one ?_)
    have j:cK b d=some a:=by grind[cK,find?_eq_some_iff_getElem,Hi.o,getElem?_eq_getElem,Option.some.inj]
    rw[j];exact Zq8 (v:=.tuple #[a.val,.bool true]) (cD results92 _ _ c.heap.size 85 a.arr (0,0) _ _ rfl rfl (Qz4 _ _ _ a.arr _ _ ((eL _ _ _ q).trans g)) Q3 rfl aS) rfl ⟨rfl,((((r0 _ _).alloc _).qT f).alloc _).setRow _ _ qo⟩
   simp only[Bool.not_eq_true]at l;have o:Hi (aG d a=false):=by simp[Hi,aG,l]
   go_wp2;go_roundw
   ·refine⟨e+1,p,by go_num,fun h t u=>?_,f.alloc _⟩;grind[Hi.o]
   simp[intOf];omega
  simp only[Bool.not_eq_true]at k;have o:Hi (aG d a=false):=by simp[Hi,aG,k]
  go_wp2;go_roundw
  ·refine⟨e+1,p,by go_num,fun h t u=>?_,f.alloc _⟩;grind[Hi.o]
  simp[intOf];omega
 have g:=f.qH (aC c _)
 go_wp2_with (refine wpList_store_row rfl 85 _ _ rfl c.heap.size zeroU.arr rfl rfl 85 _ g aS rfl zeroU.one ?_)
 have j:cK b d=none:=by grind[cK,find?_eq_none,mem_iff_getElem]
 rw[j];exact Zq8 (v:=.tuple #[zeroU.val,.bool false]) (cD results92 _ _ c.heap.size 85 zeroU.arr (0,0) _ _ rfl rfl (Qz4 _ _ _ zeroU.arr _ _ g) Q3 rfl aS) rfl ⟨rfl,(((r0 _ _).alloc _).qT f).setRow _ _ qo⟩
structure GV (w:World) (b pb cap:Nat) (us:List U):Prop where
 c:w.cell? ⟨b,148,none⟩=some (.slice (so pb) us.length cap)
 p:Ppl w pb us
 len:us.length<=1000
theorem GV.fr{S:List Nat}(e:GV w a b d X)(f:Fr S w x)(g:a∉S)(h:b∉S):GV x a b d X:=
  ⟨by rw[f.cell a _ (aI e.c) g];exact e.c,e.p.fr f h,e.len⟩
theorem GV.qF(d:GV w a b c X)(e:Fr [] w x):GV x a b c X:=d.fr e qs qs
theorem pR(f h g:Nat)(d:List U)(b:Int)(e:World)(a:GV e f h g d):Cs 92 #[pt f,ii b] e λi j=>i=.returned (.tuple #[((cK d b).getD zeroU).val,.bool (cK d b).isSome])/\Fr [] e j:=
 QS f h g d b e a.c a.p (Y3 a.len qd) (aI a.c)
variable {D:U}
def Rise(c:List U):Prop:=c.Pairwise (λa b=>a.id<b.id)
theorem Rise.lt(c:Rise X)(f:X[a]?=some C)(h:X[b]?=some D)(g:a<b):C.id<D.id:=by obtain⟨d,rfl⟩:=gs.1 f;obtain⟨e,rfl⟩:=gs.1 h;exact Zj9.1 c a b d e g
theorem RD(B P:Nat)(c:List U)(id:Int)(n:World)(A:Ppl n B c)(v:Rise c)(ab:c.length<=1000):Cs 195 #[.slice (so B) c.length P,ii id,fv 196] n λs X=>∃(b:Nat) (t:Bool),s=.returned (.tuple #[ii b,.bool t])/\Fr [] n X /\(t=true/\(∃a,c[b]?=some a/\a.id=id)\/t=false/\∀a∈c,a.id≠id):=by
 delta Cs;go_in
 go_wp2
 go_loopw [9,10] (fun p r wr=>∃b d:Nat,b<=d/\d<=c.length/\p=ii b/\r=ii d/\(∀e a,c[e]?=some a->e<b->a.id<id)/\(∀e a,c[e]?=some a->d<=e->id<=a.id)/\Fr [] n wr) (fun p r _=>((intOf r)-(intOf p)).toNat)
 ·exact⟨0,c.length,Z3 _,Q9 _,rfl,rfl,λe a _ f=>by omega,λe a h f=>by grind,r0 _ _⟩
 obtain⟨b,d,aa,S,rfl,rfl,u,y,i⟩:=hrel
 by_cases ac:b<d
 ·have W:(b+d)/2<c.length:=qo;obtain⟨a,j⟩:∃a,c[(b+d)/2]?=some a:=⟨c[(b+d)/2],Y2 W⟩;obtain⟨C,D,F,H,I,J,L,M,N,O,E⟩:=(A.fr i qs).at j;have k:=(show Hi (c[(b+d)/2]?=some a)from j);clear j
  go_wp2_with fail
  refine(DZ a id _).mono ?_;rintro s Y ⟨rfl,m⟩
  by_cases l:a.id<id
  ·have g:jG a.id id = -1:=by simp[jG,l]
   rw[g];clear g;go_wp2;go_roundw
   ·refine⟨(b+d)/2+1,d,by omega,S,by go_num,rfl,fun e x h ad=>?_,y,i.qT m⟩;obtain f|f:=Zx0 e ((b+d)/2)
    ·exact Int.lt_trans (v.lt h k.o f) l
    grind[Hi.o]
   simp[intOf];omega
  have g:(jG a.id id<0)=False:=by simp only[jG,if_neg l,eq_iff_iff,iff_false];omega
  generalize jG a.id id=q at g |-
  have hq:¬q<0:=by simp[g]
  clear g;go_wp2;go_roundw
  ·refine⟨b,(b+d)/2,by omega,by omega,rfl,by go_num,u,fun e x h V=>?_,i.qT m⟩;obtain f|f:=Zx0 ((b+d)/2) e
   ·have:=v.lt k.o h f;omega
   grind[Hi.o]
  simp[intOf];omega
 have R:b=d:=qo;subst R
 by_cases Q:b<c.length
 ·obtain⟨a,j⟩:∃a,c[b]?=some a:=⟨c[b],Y2 Q⟩;obtain⟨C,D,F,H,I,J,L,M,N,O,E⟩:=(A.fr i qs).at j;have k:=(show Hi (c[b]?=some a)from j);clear j
  go_wp2_with fail
  refine(DZ a id _).mono ?_;rintro s Y ⟨rfl,m⟩;have V:=y b a k.o (Q9 _)
  by_cases l:a.id=id
  ·have g:jG a.id id=0:=by simp[jG,l]
   rw[g];clear g;go_wp2;go_ret2;exact⟨b,true,rfl,i.qT m,.inl ⟨rfl,a,k.o,l⟩⟩
  have g:(jG a.id id==0)=false:=by grind[jG]
  generalize jG a.id id=q at g |-
  go_wp2;go_ret2;refine⟨b,false,rfl,i.qT m,.inr ⟨rfl,λx w=>?_⟩⟩;obtain⟨e,h,rfl⟩:=mem_iff_getElem.1 w;have z:=Y2 h;obtain f|f|f:=Nat.lt_trichotomy e b
  ·have:=u e _ z f;omega
  ·grind[Hi.o]
  have:=v.lt k.o z f;omega
 go_wp2;go_ret2;refine⟨b,false,rfl,i,.inr ⟨rfl,λx w=>?_⟩⟩;obtain⟨e,h,rfl⟩:=mem_iff_getElem.1 w;have:=u e _ (Y2 h) qo;omega
set_option maxRecDepth 100000
theorem EA(h l i:Nat)(b:List U)(id:Int)(g:World)(f:GV g h l i b)(q:Rise b):Cs 152 #[pt h,ii id] g λj r=>∃(d:Nat) (a:Bool),j=.returned (.tuple #[ii d,.bool a])/\Fr [] g r /\(a=true/\(∃e,b[d]?=some e/\e.id=id)\/a=false/\∀e∈b,e.id≠id):=by
 have s:=f.c
 delta Cs;go_in
 go_wp2_with fail
 refine(RD l i b id _ f.p q f.len).mono ?_;rintro j t ⟨d,a,rfl,n,k⟩;have m:=aA k;clear k;go_wp2;go_ret2;exact⟨d,a,rfl,n,m.o⟩
theorem Dt(a:World):(Instr.field 220 jV 3).run prog a=.ok (.bool false) a:=qk
theorem Du(a:World):(Instr.field 220 jL 3).run prog a=.ok (.bool true) a:=qk
theorem Dv(a:World):(Instr.field 220 jW 3).run prog a=.ok (.bool true) a:=qk
theorem Ds(a:World):(Instr.field 220 wO 3).run prog a=.ok (.bool false) a:=qk
theorem OU(m:Value)(n:U)(c:Cm)(i:World):Calls prog 154 #[m,n.val,c.val] i (R0 i (.bool (c.x==2||c.x==3))):=by
 obtain⟨q,r,a,s,p⟩:=c;have r0:=Ds;have t:=Dt;have u:=Du;have v:=Dv
 by_cases e:a=1
 ·subst e
  go_enter func154,ntmps154
  go_wp2_with (go_at_call 121;refine(oM _).mono ?_;rintro d f ⟨rfl,b⟩)
  go_ret;exact⟨rfl,(((Fr.refl _ _).alloc _).alloc _).qT b⟩
 by_cases g:a=2
 ·subst g
  go_enter func154,ntmps154
  go_wp2_with (go_at_call 121;refine(lU _).mono ?_;rintro d f ⟨rfl,b⟩)
  go_ret;exact⟨rfl,(((Fr.refl _ _).alloc _).alloc _).qT b⟩
 by_cases h:a=3
 ·subst h
  go_enter func154,ntmps154
  go_wp2_with (go_at_call 121;refine(nH _).mono ?_;rintro d f ⟨rfl,b⟩)
  go_ret;exact⟨rfl,(((Fr.refl _ _).alloc _).alloc _).qT b⟩
 have j:Hi ((a==1)=false):=by simp[Hi,e]
 have k:Hi ((a==2)=false):=qg;have l:Hi ((a==3)=false):=qg;clear e g h
 go_enter func154,ntmps154
 go_wp2_with (go_at_call 121;refine(GN a _ j.o k.o l.o).mono ?_;rintro d f ⟨rfl,b⟩)
 go_ret;exact⟨lG (by grind[Hi.o]),(((Fr.refl _ _).alloc _).alloc _).qT b⟩
