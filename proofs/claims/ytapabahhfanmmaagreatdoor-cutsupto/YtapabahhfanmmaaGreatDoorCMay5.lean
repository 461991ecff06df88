import Derived.Test.YtapabahhfanmmaaGreatDoorCMay4
namespace Go.Proofs.YtapabahhfanmmaaGreatDoor
open Go.RowKit List Go.Proofs.Tryz
set_option maxHeartbeats 8000000
set_option maxRecDepth 100000
abbrev U.cm(a:U):Cm:=⟨a.id,a.what,a.tox,a.toy,a.target⟩
theorem WM(d e:Operand)(b c:Cm)(a:World):(eqGuard BinOp.eql 81 d e b.val c.val).run prog a=.ok () a:=qk
theorem UU(a:Cm)(b:World):(binOp BinOp.eql 81 a.val a.val).run prog b=.ok (.bool true) b:=by simp[go_sem]
def mK(a b:Cm):Bool:=decide (a.unit=b.unit/\a.what=b.what/\a.x=b.x/\a.y=b.y/\a.target=b.target)
theorem rO(a b:Cm):mK a b=true↔a=b:=by obtain⟨c,d,e,f,g⟩:=a;obtain⟨h,i,j,k,l⟩:=b;simp[mK]
theorem UT(a b:Cm)(q:World):(binOp BinOp.eql 81 a.val b.val).run prog q=.ok (.bool (mK a b)) q:=by
 by_cases s:a=b
 ·grind[rO,UU]
 rw[show mK a b=false from by grind[rO]];obtain⟨f,g,h,i,j⟩:=a;obtain⟨k,l,m,n,o⟩:=b;have t:¬(f=k/\g=l/\h=m/\i=n/\j=o):=qg
 by_cases c:f=k
 ·by_cases d:g=l
  ·by_cases e:h=m
   ·by_cases p:i=n
    ·have r:¬j=o:=qo;simp[go_sem,c,d,e,p,r]
    simp[go_sem,c,d,e,p]
   simp[go_sem,c,d,e]
  simp[go_sem,c,d]
 simp[go_sem,c]
theorem JY(gb:Nat)(b:U)(I t u J:Value)(H:Bool)(K:Value)(P:Prop)(f:World)(ae:(∃n1 m n n3:Nat,I=fv n1/\t=fv m/\u=fv n/\J=fv n3)\/(I=.nilFunc/\t=.nilFunc/\u=.nilFunc/\J=.nilFunc))(hk:∀f,Cs 121 #[ii b.kind] f (R0 f K))(hs:∀f,Cs 193 #[K,ii b.what] f (R0 f (.tuple #[.agg #[I,t,u,J],.bool H])))(hq:(H=false/\¬P)\/(H=true/\∃(m n:Nat) (q:Cm) (F:Bool),t=fv m/\u=fv n/\(P↔(q=b.cm/\F=true)) /\ (∀a,Fr [] f a->Cs m #[pt gb,b.val,b.cm.val] a (R0 a (.bool F)))/\(∀a,Cs n #[b.cm.val] a (R0 a q.val)) /\ (∀(args:Array Value) (f:World),(callFunc m args).run prog f=.ok (.enter m args) f)/\(∀(args:Array Value) (f:World),(callFunc n args).run prog f=.ok (.enter n args) f))):Cs 211 #[pt gb,b.val] f λs a=>BP P f s a:=by
 have HQ:=aA hq;clear hq
 delta Cs;go_in
 go_wp2_with fail
 obtain⟨k,Q⟩:=nm ((f.alloc (.cells b.arr 85)).alloc (.cells #[ii b.id,ii b.what,ii b.tox,ii b.toy,ii b.target] 81));rw[<-Q];have ag:Fr [] f k:=by grind[Fr.alloc,r0]
 have w:k.heap[f.heap.size]?=some (.cells b.arr 85):=by grind[eL,aC]
 have A:k.heap[f.heap.size+1]?=some (.cells #[ii b.id,ii b.what,ii b.tox,ii b.toy,ii b.target] 81):=by rw[Q];exact cZ _ _ _
 obtain⟨c,ab⟩:=nm f.heap.size;rw[<-ab]at w A |-;obtain⟨g,ac⟩:=nm (c+1);rw[<-ac]at A |-;have ar:=aH A;have Zq:=aH w;clear Q ab ac;have h:∀a,Fr [] k a->(λa:World=>cl a c 2 b.kind/\cl a c 7 b.what/\Fr [] k a) a:=λa e=>⟨aB (e.qH w),aB (e.qH w),e⟩;have O:Fr [] k k.drew:=(r0 _ _).drew;have r:=h _ O
 go_cut [6,7] (fun s6 s7 wx=>∃l:Nat,s6=.pointer (so l)/\s7=.bool H/\wx.heap[l]?=some (.cells #[I,t,u,J] 217)/\Fr [] k wx)
 ·obtain⟨m1,m0,m2,m3,rfl,rfl,rfl,rfl⟩|⟨rfl,rfl,rfl,rfl⟩:=ae
  all_goals
   go_region_held (fun a:World=>ca a c 2 (ii b.kind)/\ca a c 7 (ii b.what)/\Fr [] k a)
    (first|exact r|exact h _ V|exact h _ (V.alloc _)|exact h _ y|exact h _ (y.alloc _)|exact h _ (O.alloc _)|exact h _ ((((V.setCell _ _ (.inr (by first|exact Q9 _|exact y.size))).setCell _ _ (.inr (by first|exact Q9 _|exact y.size))).setCell _ _ (.inr (by first|exact Q9 _|exact y.size))).setCell _ _ (.inr (by first|exact Q9 _|exact y.size))))
    (first|(go_at_call 121;refine(hk _).mono ?_;rintro s Y ⟨rfl,C⟩;obtain⟨ao,Zr⟩:=C.qC;have q1:c<Y.heap.size:=(by have:=C.size;simp at this;omega);(first|(have q2:k.heap.size<Y.heap.size:=(by have:=C.size;simp at this;omega))|skip);have y:=Fr.qT (Q1 (Q1 qb)) C)|(go_at_call 193;refine(hs _).mono ?_;rintro s w2 ⟨rfl,D⟩;obtain⟨ap,au⟩:=D.qC;have q3:=D.size;have V:=Fr.qT (Q1 (Q1 qb)) D))
   all_goals
    go_wp2_with fail
    go_meet
    refine⟨_,rfl,rfl,?_,?_⟩
    ·first
     |with_reducible exact aC _ _
     |exact pI (D.qH (aC Y _)) _ _ _ _
     |exact pI (D.qH (C.qH (aC k _))) _ _ _ _
    grind
 obtain⟨l,rfl,rfl,X,L⟩:=hcut;clear h r O hk hs ae;have j:=L.qH w;have v:=L.qH A;have E:=ag.qT L;obtain⟨z,aa⟩:=nm wc;rw[<-aa]at j v E X |-;clear aa L w A ag;have h:∀a,Fr [] z a->(λa:World=>((ca a l 1 t/\ca a l 2 u)/\(cl a c 0 b.id/\cl a c 1 b.owner/\cl a c 2 b.kind/\cl a c 3 b.x/\cl a c 4 b.y/\cl a c 5 b.life/\cl a c 6 b.load/\cl a c 7 b.what/\cl a c 8 b.tox/\cl a c 9 b.toy/\cl a c 10 b.target)/\(cl a g 0 b.id/\cl a g 1 b.what/\cl a g 2 b.tox/\cl a g 3 b.toy/\cl a g 4 b.target))/\Fr [] z a) a:=λa e=>⟨⟨⟨aB (e.qH X),aB (e.qH X)⟩,⟨aB (e.qH j),aB (e.qH j),aB (e.qH j),aB (e.qH j),aB (e.qH j),aB (e.qH j),aB (e.qH j),aB (e.qH j),aB (e.qH j),aB (e.qH j),aB (e.qH j)⟩,aB (e.qH v),aB (e.qH v),aB (e.qH v),aB (e.qH v),aB (e.qH v)⟩,e⟩;have r:=h _ (r0 [] z).drew
 go_wp2_with fail
 obtain⟨rfl,aj⟩|⟨rfl,m,n,q,F,rfl,rfl,af,h0,h2,e0,e2⟩:=HQ.o
 ·skip
  refine rg 18 h r λd=>?_
  iterate 18 refine tn 18 d ?_
  refine wpAnyH_done qk ?_ _;go_wp2;go_ret;exact⟨false,rfl,⟨λi=>(by cases i),λi=>(by first|exact(aj i).elim|exact i.elim|simp_all)⟩,E.qT d.2⟩
 skip
 have H0:=aA h0;have H2:=aA h2;have N:=aA af;clear h0 h2 af HQ;have aq:=λ(am an:Operand) (w0:World)=>WM am an q b.cm w0;have ad:=UT q b.cm
 by_cases x:q=b.cm
 ·skip
  have B:=(rO _ _).2 x;have M:=aA x;clear x;rw[B]at ad;clear B;refine wp_region_held_drew (S:=λa:World=>((ca a l 1 (fv m)/\ca a l 2 (fv n))/\(cl a c 0 b.id/\cl a c 1 b.owner/\cl a c 2 b.kind/\cl a c 3 b.x/\cl a c 4 b.y/\cl a c 5 b.life/\cl a c 6 b.load/\cl a c 7 b.what/\cl a c 8 b.tox/\cl a c 9 b.toy/\cl a c 10 b.target)/\(cl a g 0 b.id/\cl a g 1 b.what/\cl a g 2 b.tox/\cl a g 3 b.toy/\cl a g 4 b.target))/\Fr [] z a) qk r (λd=>?_);refine(show wpAnyH prog Region.Mode.any _ _ _ 18 (Array.replicate 18 false) _ _ from ?_)
  iterate 5 refine tn 18 d ?_
  refine ta 6 d ?_;refine rd 5 fun K hK=>?_;have p:=aA hK;clear hK;go_simp;refine cm (H2.o _) ?_;rintro s ak ⟨rfl,R⟩;have W:=d.2.qT R;clear d;refine p.o _ _ (h _ W) (fun d=>?_);clear p K;try simp only[Act.put,Z]
  iterate 8 refine tn 18 d ?_
  refine rd 15 fun K hK=>?_;have p:=aA hK;clear hK;go_simp;refine cm (H0.o _ (E.qT d.2)) ?_;rintro s av ⟨rfl,ah⟩;have ai:=d.2.qT ah;clear d;refine p.o _ _ (h _ ai) (fun d=>?_);clear p K;try simp only[Act.put,Z]
  iterate 2 refine tn 18 d ?_
  refine wpAnyH_done qk ?_ _;go_wp2;go_ret;exact⟨F,rfl,⟨λi=>N.o.2 ⟨M.o,i⟩,λi=>(N.o.1 i).2⟩,E.qT d.2⟩
 skip
 have B:mK q b.cm=false:=by cases hb:mK q b.cm;rfl;exact absurd ((rO _ _).1 hb) x
 have M:=aA x;clear x;rw[B]at ad;clear B;refine wp_region_held_drew (S:=λa:World=>((ca a l 1 (fv m)/\ca a l 2 (fv n))/\(cl a c 0 b.id/\cl a c 1 b.owner/\cl a c 2 b.kind/\cl a c 3 b.x/\cl a c 4 b.y/\cl a c 5 b.life/\cl a c 6 b.load/\cl a c 7 b.what/\cl a c 8 b.tox/\cl a c 9 b.toy/\cl a c 10 b.target)/\(cl a g 0 b.id/\cl a g 1 b.what/\cl a g 2 b.tox/\cl a g 3 b.toy/\cl a g 4 b.target))/\Fr [] z a) qk r (λd=>?_);refine(show wpAnyH prog Region.Mode.any _ _ _ 18 (Array.replicate 18 false) _ _ from ?_)
 iterate 5 refine tn 18 d ?_
 refine ta 6 d ?_;refine rd 5 fun K hK=>?_;have p:=aA hK;clear hK;go_simp;refine cm (H2.o _) ?_;rintro s ak ⟨rfl,R⟩;have W:=d.2.qT R;clear d;refine p.o _ _ (h _ W) (fun d=>?_);clear p K;try simp only[Act.put,Z]
 iterate 11 refine tn 18 d ?_
 refine wpAnyH_done qk ?_ _;go_wp2;go_ret;exact⟨false,rfl,⟨λi=>(by cases i),λi=>(M.o (N.o.1 i).1).elim⟩,E.qT d.2⟩
