import Derived.ProofKit
import Derived.LaidMore
import Derived.OpenShut
import Derived.Carry
import Derived.Stop.Joined
import Derived.Deep.Slices
import Derived.Test.YtapabahhfanmmaaGreatDoorCBfs
import Derived.Maps.AppendAt
import Derived.Laws.CopyOwn
namespace Go.Proofs.YtapabahhfanmmaaGreatDoor
open Go.ChangeShapes Go.WideShapes Go.ChangeAt Go.WideMaps Go.WideElems Go.RowKit List Go.Proofs.Tryz
set_option maxHeartbeats 1000000
set_option maxRecDepth 100000
abbrev GP:List (String×DataW Unit):=[("skirmish/land.sides",Rows.laid_skirmish_land_sides)]
theorem Cf:ownKnob prog.godebug=none:=qk
theorem gSides:prog.globalNamed "skirmish/land.sides"=some 0:=qk
theorem tSides:(prog.globals[0]?).map (·.type)=some 284:=qk
theorem YJ:laidOutB prog=true:=qk
theorem UQ{a:List Value}(j:a.length=8):∃b c d e f g h i,a=[b,c,d,e,f,g,h,i]:=by
 match a,j with
 |[b,c,d,e,f,g,h,i],_=>grind
theorem Ao{m:World}(n:laidMetH prog GP m):Sd m:=by
 rw[MakeChecks.laidMetH_plain _ _ _ qk]at n;obtain⟨ps,⟨g0,t0,M,f0,r,s,q,S,V,o,_,_⟩,_,_⟩:=n;obtain rfl:=m9 (gSides.symm.trans q);obtain rfl:=m9 (tSides.symm.trans S);obtain⟨e,m1,rfl,j,i,R,p⟩:=DataW.trod_array underlying284 o;have J:prog.cellsOf 159=2:=qk;have L:prog.cellsOf 3=1:=qk;have cS:prog.cellsOf 284=8:=qk;rw[cS]at i;obtain⟨l0⟩:=M;obtain⟨A,B,C,D,E,F,H,I,rfl⟩:=UQ i;clear i;clear o;dsimp only at p;have b:∀a,a<4->∃c d:Int,e[a]?.map (·.1)=some (.agg [.lit (.int .i64 c),.lit (.int .i64 d)])/\([A,B,C,D,E,F,H,I].drop (a*2)).take 2=[ii c,ii d]:=by intro a P;have h:=p a P;rw[J]at h;obtain⟨t,W⟩:∃t,e[a]?=some t:=qg;rw[W]at h;obtain⟨k,l,aa,rfl,_,N,O⟩:=trod_struct2 Y8 h;obtain⟨c,f,rfl,_⟩:=Qq2 Qq3 N;obtain⟨d,g,rfl,_⟩:=Qq2 Qq3 O;refine⟨c,d,by grind,?_⟩;rw[L]at f g;have Q:a=0\/a=1\/a=2\/a=3:=qo;obtain rfl|rfl|rfl|rfl:=Q<;>simp at f g|-<;> exact⟨f,g⟩
 obtain⟨r,s,u,k⟩:=b 0 qo;obtain⟨p1,q1,v,l⟩:=b 1 qo;obtain⟨p2,q2,w,y⟩:=b 2 qo;obtain⟨p3,q3,x,z⟩:=b 3 qo;have X:e.map (·.1)=[.agg [.lit (.int .i64 r),.lit (.int .i64 s)],.agg [.lit (.int .i64 p1),.lit (.int .i64 q1)],.agg [.lit (.int .i64 p2),.lit (.int .i64 q2)],.agg [.lit (.int .i64 p3),.lit (.int .i64 q3)]]:=by
  match e,R,u,v,w,x with
  |[z0,z1,z2,z3],_,u,v,w,x=>grind
 rw[X]at j;simp only[Rows.laid_skirmish_land_sides,Prod.mk.injEq,DataW.agg.injEq,cons.injEq,DataW.lit.injEq,Lit.int.injEq]at j;simp at k l y z;obtain⟨⟨⟨⟨_,rfl⟩,⟨_,rfl⟩,_⟩,⟨⟨_,rfl⟩,⟨_,rfl⟩,_⟩,⟨⟨_,rfl⟩,⟨_,rfl⟩,_⟩,⟨⟨_,rfl⟩,⟨_,rfl⟩,_⟩,_⟩,_⟩:=j;obtain⟨rfl,rfl⟩:=k;obtain⟨rfl,rfl⟩:=l;obtain⟨rfl,rfl⟩:=y;obtain⟨rfl,rfl⟩:=z;intro Y ab hv;have:=World.var?_cell q V Y;grind
theorem Dn{h:Type}{j:TypeId×Value->h}{d:Program}{b:Func}{g:ChangeSpec}{o A C z:Bool}{l e:World}{args:Array Value}{n:Value}{i gs:List (DataW h)}{a pa pv:List MemPlace}(m:DataW.Whole j d b.params.toList g.vars o l args.toList i gs a)(t:∀(f:Nat) (c:Nat->Bool) (D:Bool),DataW.TrodAll j d e f c D b.resultTypes.toList (n.resultList b.resultTypes.size) (g.fn h (i++gs)).results [])(p:∀c:Nat->Bool,(∀k∈a,c k.block=true)->DataW.TrodAll j d e 0 c true b.params.toList args.toList (g.fn h (i++gs)).args pa)(u:∀c:Nat->Bool,(∀k∈a,c k.block=true)->DataW.TrodVars j d e c g.vars (g.fn h (i++gs)).vars pv)(J:a=pa++pv)(r:Fr [] l e)(E:∀(v:Nat) (y:TypeId) (x:Value),b.resultTypes[v]?=some y->(n.resultList b.resultTypes.size)[v]?=some x->Value.okWide d e .any 0 y x):g.post j d b o A C z l args n e:=by
 have s:∀k∈a,(λf=>decide (f<l.heap.size)) k.block=true:=(by grind[DataW.Whole.lt]);have B:=m.lt;refine⟨i,gs,a,[],pa,pv,m,t _ _ _,p _ s,u _ s,r.below.frame _,λ_=>?_⟩;obtain⟨_,_,_,_,_,F,H⟩:=m;refine⟨E,_,_,([]++pa)++pv,⟨[]++pa,pv,trodAll_append (p _ (λ_ _=>rfl)) (t _ _ _),u _ (λ_ _=>rfl),rfl,?_,?_⟩,?_⟩
 ·intro f w I;have q:MemPlace.cell f w∈a:=qg;rw[r.below.frozen (B _ q)];exact F f w q
 ·grind
 grind
def lM(a:Int):Prop:= -9223372036854775808<=a/\a<=9223372036854775807
def IntsV(i:World)(f:Value)(a:List Int):Prop:=(∃g c,f=.slice g 0 c/\a=[])\/∃d e c,f=.slice (some ⟨d,e,none⟩) a.length c/\(∀(b:Nat) (j:b<a.length),i.cell? ⟨d,e+b,none⟩=some (ii a[b]))/\(∀h∈a,lM h)
theorem uO{e:World}{a:Addr}{i:Nat}{d:Value}(c:e.cell? (a.add 0)=some d):a.add i=⟨a.block,a.off+i,none⟩:=by
 obtain⟨f,g,b⟩:=a;have:b=none:=by
  cases b with
  |none=>rfl
  |some h=>unfold Addr.add World.cell? at c;grind
 grind[Addr.add_lit]
set_option maxRecDepth 100000
def fE(a:Int):Int×Int×Bool:=
 if a=46 then(0,-1,true)else if a=35 then(10,-1,true)else if 49<=a/\a<=57 then(a-48,-1,true)else if a=65 then(0,0,true)else if a=66 then(0,1,true)else(0,-1,false)
theorem tI(a:Int)(h:World)(m:0<=a)(n:a<=255):Cs 120 #[.int .u8 a] h (R1 h (.tuple #[ii (fE a).1,ii (fE a).2.1,.bool (fE a).2.2])):=by
 by_cases b:a=46
 ·subst b
  delta Cs;go_in
  go_wp2
  go_ret3
  exact⟨rfl,rfl⟩
 by_cases c:a=35
 ·subst c
  delta Cs;go_in
  go_wp2
  go_ret3
  exact⟨rfl,rfl⟩
 have p:(a==46)=false:=by simp[b]
 have q:(a==35)=false:=by simp[c]
 by_cases g:49<=a/\a<=57
 ·have d:Hi (fE a=(a-48,-1,true)):=by show fE a=_;grind[fE]
  obtain⟨i,j⟩:=g;clear b c
  delta Cs;go_in
  go_wp2
  go_ret3
  exact⟨by rw[d.o];rfl,rfl⟩
 by_cases e:a=65
 ·subst e
  delta Cs;go_in
  go_wp2
  go_ret3
  exact⟨rfl,rfl⟩
 by_cases f:a=66
 ·subst f
  delta Cs;go_in
  go_wp2
  go_ret3
  exact⟨rfl,rfl⟩
 have r:(a==65)=false:=by simp[e]
 have s:(a==66)=false:=by simp[f]
 have d:Hi (fE a=(0,-1,false)):=by show fE a=_;grind[fE]
 by_cases k:49<=a
 ·have l:¬a<=57:=qo;clear b c g e f
  delta Cs;go_in
  go_wp2
  go_ret3
  exact⟨by rw[d.o];rfl,rfl⟩
 clear b c g e f
 delta Cs;go_in
 go_wp2
 go_ret3
 exact⟨by rw[d.o];rfl,rfl⟩
theorem FG(d e a b:Int)(f:Nat)(c:World)(j:c.cell? ⟨f,0,none⟩=some (ii a))(l:c.cell? ⟨f,1,none⟩=some (ii b)):Cs 203 #[cv d e,pt f] c (R0 c (.bool (d==a&&e==b))):=by
 have k:=aI j;obtain⟨h,g⟩:=nn ((d==a&&e==b));have i:=aA g;rw[g];clear g
 delta Cs;go_in
 go_wp2_with (refine mC rfl _ _ _ _ rfl rfl d e a b rfl rfl h i.o ?_)
 go_ret;simp_all[Fr.alloc,r0]
theorem Aa(a:World):Cs 150 #[] a λb c=>b=.returned (.agg #[.map (some (a.heap.size+1))])/\(a.alloc (.cells #[.map (some (a.heap.size+1))] 208)).alloc (.map #[] 0)=c:=by
 have d:=@run_makeMap prog
 delta Cs;go_in
 go_wp2;exact Zq8 (v:=.agg #[.map (some (a.heap.size+1))]) (by simp[results,results150,go_sem]) rfl qg
variable {g h:Cl} {E F:Cl->Bool} {a b:Nat} {v:Value} {w:World}
theorem Fsq(a:World)(b d e c:Obj):((((a.alloc b).alloc d).alloc e).alloc c).heap[a.heap.size+1+1+1]?=some c:=by have f:=kO (a.alloc b) d e c;rwa[show(a.alloc b).heap.size=a.heap.size+1 by simp]at f
theorem qW{base:Nat}{f:List Cl}(e:w.ownsRow base 159 2 v a (f.flatMap λc=>[ii c.1,ii c.2]))(i:0<a):∃b d,v=.slice (so b) a d/\base<=b/\b<w.heap.size:=by obtain⟨g,h⟩:=e;grind
theorem rL{c:Cl}{b:Bs}(f:a<146)(d:b.q[a]?=some h)(e:bR F E a h (aL h.1 h.2) b=.inl c):eG F E g (146-a) a b=c:=by rw[show 146-a=(146-(a+1))+1 by omega,eG,d];grind
theorem AY{b c:Bs}(f:a<146)(d:b.q[a]?=some h)(e:bR F E a h (aL h.1 h.2) b=.inr c):eG F E g (146-a) a b=eG F E g (146-(a+1)) (a+1) c:=by rw[show 146-a=(146-(a+1))+1 by omega,eG,d];grind
theorem AW{b:Bs}(d:a=b.q.length):eG F E g (146-a) a b=g:=by
 cases c:146-a with
 |zero=>rfl
 |succ e=>grind[eG]
theorem mV{h:Int×Int->Option Value}(j:MapF w a h)(c g:TypeId)(m:prog.underlying c=some (.map 159 g))(e f:Int)(d:Value):∃b,(Instr.mapUpdate c (.map (some a)) (cv e f) d).run prog w=.ok () b/\MapF b a (λi=>if i=(e,f)then some d else h i)/\Fr [a] w b/\w.heap.size<=b.heap.size:=by obtain⟨n,k,l⟩:=j.update c g m e f d;exact⟨_,k,l,(r0 _ _).setObj a n qs,by simp⟩
theorem oF{f:Int×Int->Option Value}(g:MapF w a f)(b ty d:TypeId)(e:Array Bool)(j:prog.underlying b=some (.map 159 d)):∃c,(invoke (.builtin .clear #[b] ty e) #[.map (some a)]).run prog w=.ok (.value (.tuple #[])) c/\MapF c a (λ_=>none)/\Fr [a] w c:=by obtain⟨k,h,i⟩:=g.clear b ty d j;refine⟨_,?_,i,(r0 _ _).setObj a k qs⟩;simp[invoke,builtin,h,Result.andThen]
theorem iY:(prog.info? 159).map (·.size)=some 2:=qk
theorem oX(a b:Int):(#[ii a,ii b]:Array Value).all (·.oneCell')=true:=qc
def gV(b:Cl->Option Cl):Int×Int->Option Value:=λc=>(b c).map λa=>cv a.1 a.2
theorem rV(d:Cl->Option Cl)(c b:Cl):gV (λa=>if a=c then some b else d a)=λa=>if a=(c.1,c.2)then some (cv b.1 b.2)else gV d a:=by grind[gV]
theorem SS{b:List Cl}(d:b[a]?=some g):(fT b)[a*2]?=some (ii g.1)/\(fT b)[a*2+1]?=some (ii g.2):=by
 induction b generalizing a with
 |nil=>grind
 |cons f b e=>
  cases a with
  |zero=>grind
  |succ a=>have:=e (qu d);have c:(a+1)*2=a*2+1+1:=qo;rw[c];simpa[fT]using this
theorem nX{base:Nat}{d:List Cl}(k:w.ownsRow base 159 2 v a (fT d))(n:a=d.length)(j:d[b]?=some g):∃c h,v=.slice (so c) d.length h/\base<=c/\w.cell? ⟨c,b*2,none⟩=some (ii g.1)/\w.cell? ⟨c,b*2+1,none⟩=some (ii g.2):=by
 subst n;have s:=(gs.1 j).1;obtain⟨q,l⟩:=k;obtain⟨_,r⟩|⟨c,h,p,rfl,m,i,_,_,t,o⟩:=l
 ·omega
 obtain⟨e,f⟩:=SS j;rw[<-o]at e f;refine⟨c,h,rfl,m,?_,?_⟩
 ·rw[aB i];rw[Qz3 qo]at e;simpa using e
 rw[aB i];rw[Qz3 qo]at f;simpa using f
theorem step_any(Zq:FuncId)(bw bx:Array Value)(t:Cl->Bool)(tb hb g:Nat)(held:Int×Int->Option Value)(D:Nat->Int)(h i:Int)(a:World)(ee:Sd a)(hv:TV a tb hb held D)(hm:MapF a g (λ_=>none))(fe:g≠0)(ff:tb≠g)(fg:hb≠g)(dx:aE h i=true)(eo:∀(args:Array Value) (a:World),(callFunc Zq args).run prog a=.ok (.enter Zq args) a)(dh:Hi (∀ax S V,Fr [g] a ax->aE S V=true->Cs Zq (bw++#[cv S V]++bx) ax (R0 ax (.bool (t (S,V)))))):Cs 220 #[.agg #[.map (some g)],cv h i,.func (.func 199) #[pt tb] #[],.func (.func Zq) bw bx] a λaj w'=> aj=.returned (cv (dU (λb=>cR held D b.1 b.2) t (h,i)).1 (dU (λb=>cR held D b.1 b.2) t (h,i)).2)/\Fr [g] a w'/\MapF w' g (λ_=>none):=by
 obtain⟨L,hR⟩:=nn (dU (λb=>cR held D b.1 b.2) t (h,i));rw[hR];obtain⟨ej,hi,eg,eh,ei⟩:=Z2 wG;have en:=hm.lt;refine CL func220 rfl ?_;simp only[ntmps220,size_toArray,length_cons,length_nil,Nat.reduceAdd,Nat.reduceSub,Array.replicate_succ,
   Array.replicate_zero,push_toArray,append_toArray,nil_append,cons_append]
 obtain⟨C,H⟩:=nm (((a.alloc (.cells #[.map (some g)] 208)).alloc (.cells #[ii h,ii i] 159)).alloc (.cells #[ii 0,ii 0] 159));have fm:C.heap.size=a.heap.size+1+1+1:=by rw[H];simp
 have co:Fr [g] a C:=by rw[H];exact(((Fr.refl _ _).alloc _).alloc _).alloc _
 have hA:C.heap[a.heap.size]?=some (.cells #[.map (some g)] 208):=by rw[H,eL _ _ _ qt,dW]
 have hB:C.heap[a.heap.size+1]?=some (.cells #[ii h,ii i] 159):=by rw[H,eL _ _ _ qs,cZ]
 have hC:C.heap[a.heap.size+1+1]?=some (.cells #[ii 0,ii 0] 159):=by rw[H,kO]
 have HW:=aA H;clear H;obtain⟨w,hF⟩:∃w:Cl->Bool,∀S V,cR held D S V=w (S,V):=⟨λb=>cR held D b.1 b.2,λ_ _=>rfl⟩;have HR:Hi (eG w t (h,i) 146 0 ⟨[(h,i)],λ_=>none⟩=L):=by rw[<-hR];unfold dU;rw[show w=(λb:Cl=>cR held D b.1 b.2)from funext λb=>(hF b.1 b.2).symm];rfl
 have HF:=aA hF;clear hR hF;go_wp2
 go_loopw [9,10] (fun Zr br wr=>∃(l:Nat) (m:Bs),br=ii l/\l<=m.q.length/\BInv (h,i) m/\eG w t (h,i) (146-l) l m=L/\wr.ownsRow (a.heap.size+1+1+1) 159 2 Zr m.q.length (fT m.q)/\MapF wr g (gV m.g)/\Fr [g] C wr) (fun _ br _=>146-(intOf br).toNat)
 ·refine⟨0,⟨[(h,i)],λ_=>none⟩,rfl,qs,BInv.start _,HR.o,⟨rfl,.inr ⟨_,1,#[ii h,ii i],rfl,Q9 _,Fsq _ _ _ _ _,qs,by decide,rfl,rfl⟩⟩,?_,?_⟩
  · exact hm.fr ((((((Fr.refl [] a).alloc _).alloc _).alloc _).alloc _)) qs
  rw[HW.o];exact(Fr.refl _ _).alloc _
 obtain⟨B,ef⟩:=nm wr;subst ef;obtain⟨l,m,rfl,hk,ao,dg,hown,dd,P⟩:=hrel;have fk:=ao.len;have ec:0<m.q.length:=by obtain⟨R,h1,_⟩:=ao.q;rw[h1];simp
 have HO:=(show Hi (eG w t (h,i) (146-l) l m=L)from dg);clear dg;have cu:=co.trans P qs;have cd:=P.heap hA qt;have az:=P.heap hB qt;have ce:=P.heap hC qt;have a0:ca B a.heap.size 0 (.map (some g)):=aB cd;have b0:ca B (a.heap.size+1) 0 (ii h):=aB az;have b1:ca B (a.heap.size+1) 1 (ii i):=aB az;have cf:=aA ce;clear cd az ce;have fs:a.heap.size+1+1+1<=B.heap.size:=by have:=P.size;omega
 have l0:a.heap.size<B.heap.size:=qo;have l1:a.heap.size+1<B.heap.size:=qo;have l2:a.heap.size+1+1<B.heap.size:=qo
 by_cases dt:l<m.q.length
 · obtain⟨⟨e,f⟩,ak⟩:∃b,m.q[l]?=some b:=⟨m.q[l],Y2 dt⟩
   obtain⟨gr,dl,ag,dp,q0,q1⟩:=nX hown rfl ak;subst ag;have dq:=aI q0;have cj:aE e f=true:=ao.on dx (e,f) (Q8 ak);obtain⟨fu,fw,fz,ga⟩:=bX.1 cj;have HC:=aA ak;have HI:=(show Hi (BInv (h,i) m)from ao);clear ak
   go_wp2_with fail
   refine(wZ e f _ (ee.fr cu qt) qo qo qo qo).mono ?_;rintro aj w1 ⟨nv,rfl,bg,bp⟩;obtain⟨gn,Zs,dw,eq,er⟩:=qW bp (wY e f cj);subst dw;have fi:=wX e f;obtain⟨bv,cg⟩:=nn (bR w t l (e,f) (aL e f) m);have aw:=aA cg;clear cg;have fj:=bp;go_wp2
   go_loopw [9,32] (fun Zr bs w2=>∃(p:Nat) (j:Bs),bs=ii p/\p<=(aL e f).length/\BInv (h,i) j/\bR w t l (e,f) ((aL e f).drop p) j=bv/\j.q[l]?=some (e,f)/\w2.ownsRow (a.heap.size+1+1+1) 159 2 Zr j.q.length (fT j.q) /\
    (∀N,Zr.ownBlock=some N->N≠gn)/\MapF w2 g (gV j.g)/\Fr [g] C w2/\w2.ownsRow (B.heap.size+1) 159 2 (.slice (so gn) (aL e f).length Zs) (aL e f).length (fT (aL e f))) (λ_ bs _=>4-(intOf bs).toNat)
   ·refine⟨0,m,rfl,Z3 _,HI.o,aw.o,HC.o,cM hown bg qs,?_,dd.fr bg qs,P.qT bg,bp⟩;intro N u;simp[Value.ownBlock]at u;omega
   obtain⟨p,j,rfl,fd,da,cz,am,af,ch,Q,E,ar⟩:=hrel;have fl:=da.len;have dr:=(gs.1 am).1;obtain⟨O,bz,ag,eu,p0,p1⟩:=nX af rfl am;subst ag;have cw:=aI p0;have em:=ch O rfl;have bj:=co.trans E qs;have a2:wr.cell? ⟨a.heap.size,0,none⟩=some (.map (some g)):=aB (E.heap hA qt);have dm:=(show Hi _ from E.heap hC qt);have fn:a.heap.size+1+1+1<=wr.heap.size:=by have:=E.size;omega
   have l0:a.heap.size<wr.heap.size:=qo;have l1:a.heap.size+1<wr.heap.size:=qo;have l2:a.heap.size+1+1<wr.heap.size:=qo;have W:=aA cz;have ai:=aA da;have au:=aA am;clear cz am ch
   by_cases aq:p<(aL e f).length
   ·obtain⟨⟨c,d⟩,hn⟩:∃b,(aL e f)[p]?=some b:=⟨(aL e f)[p],Y2 aq⟩;obtain⟨cc,dk,an,_,n0,n1⟩:=nX ar rfl hn;obtain⟨rfl,rfl⟩:cc=gn/\dk=Zs:=by simp at an;exact⟨an.1.symm,an.2.symm⟩
    have bo:aE c d=true:=nL e f (c,d) (Q8 hn);have cn:(aL e f).drop p=(c,d)::(aL e f).drop (p+1):=by obtain⟨h1,n⟩:=gs.1 hn;rw[Zz2 h1,n]
    have HD:=aA cn;clear cn hn an;obtain⟨⟨zx,zy⟩,J⟩:∃b,(j.g (c,d)).getD (0,0)=b:=⟨_,rfl⟩;obtain⟨kn,bl⟩:=nn ((j.g (c,d)).isSome);have fa:∀y,(Instr.lookup 206 (.map (some g)) (cv c d) true).run prog (wr.alloc y)=.ok (.tuple #[cv zx zy,.bool kn]) (wr.alloc y):=λy=>by
     have F:=(Q.fr ((Fr.refl [] wr).alloc y) qs).look _ _ Zk6 _ (uD _) c d;rw[F];unfold gV;rw[<-bl];cases hg:j.g (c,d)with
     |none=>rw[hg]at J;simp at J;obtain⟨rfl,rfl⟩:=J;simp
     |some b=>rw[hg]at J;simp at J;subst J;simp
    have X:=aA bl;clear J bl;cases kn
    ·go_wp2_with fail
     have cr:=((Fr.refl [] wr).alloc (.cells #[ii c,ii d] 159)).alloc (.cells #[ii zx,ii zy] 159);refine(vV tb hb held D c d _ (hv.fr (bj.qT cr) qt qt) bo).mono ?_;rintro aj k ⟨rfl,cp⟩;rw[HF.o c d];have s:=cr.qT cp;have Zt:=bj.qT s;have ah:=cp.qH (dW wr _ _);have e0:ca k wr.heap.size 0 (ii c):=aB ah;have e1:ca k wr.heap.size 1 (ii d):=aB ah;have ew:=aH ah;have fp:=s.size;have m0:a.heap.size<k.heap.size:=qo;have m2:a.heap.size+1+1<k.heap.size:=qo;have a3:k.cell? ⟨a.heap.size,0,none⟩=some (.map (some g)):=by rw[s.cell _ _ l0 qs];exact a2
     have gc:k.cell? ⟨O,l*2,none⟩=some (ii e):=by rw[s.cell _ _ cw qs];exact p0
     have gd:k.cell? ⟨O,l*2+1,none⟩=some (ii f):=by rw[s.cell _ _ cw qs];exact p1
     have ev:O<k.heap.size:=qo;have HT:=aA ah;clear ah;obtain⟨fb,bi⟩:=nn (w (c,d));rw[bi];have av:=aA bi;clear bi;cases fb
     ·go_wp2;go_roundw
      ·refine⟨p+1,j,by go_num,aq,ai.o,?_,au.o,cM af s qs,?_,Q.fr s qs,E.qT s,cM ar s qs⟩
       ·rw[<-W.o,HD.o,bR,X.o,av.o];simp
       intro N u;simp[Value.ownBlock]at u;omega
      simp[intOf];omega
     obtain⟨⟨q,r⟩,o⟩:∃b,(if 0<l then(j.g (e,f)).getD (0,0)else(c,d))=b:=⟨_,rfl⟩
     by_cases ap:0<l
     focus
      rw[Q7 ap]at o;have HZ:=(show Hi _ from o);have fc:∀y,(Instr.lookup 206 (.map (some g)) (cv e f) false).run prog (k.alloc y).drew=.ok (cv q r) (k.alloc y).drew:=λy=>by
       have F:=(Q.fr (((s).alloc y).drew) qs).look1 _ _ Zk6 _ (uD _) e f;rw[F];unfold gV;cases hg:j.g (e,f)with
       |none=>rw[hg]at o;simp at o;obtain⟨rfl,rfl⟩:=o;simp
       |some b=>rw[hg]at o;simp at o;subst o;simp
      clear o;go_wp2
      go_region
      go_wp2_with fail
      obtain⟨M,x⟩:=nm ((k.alloc (.cells #[ii q,ii r] 159)).drew);have bc:M.heap[k.heap.size]?=some (.cells #[ii q,ii r] 159):=by rw[x];exact aC k _
      have bh:Fr [] k M:=by rw[x];exact((Fr.refl _ _).alloc _).drew
      rw[<-x];clear x
     rotate_left
     focus
      rw[Z0 ap]at o;have HZ:=(show Hi _ from o)
      go_wp2_with fail
      obtain⟨M,x⟩:=nm (k.alloc (.cells #[ii c,ii d] 159));have bc:M.heap[k.heap.size]?=some (.cells #[ii q,ii r] 159):=by cases o;rw[x];exact aC k _
      have bh:Fr [] k M:=by rw[x];exact(Fr.refl _ _).alloc _
      rw[<-x];clear x o
     all_goals
      refine cm (dh.o M c d (Zt.qT bh) bo) ?_;rintro aj A ⟨rfl,cq⟩;have cs:=bh.qT cq;have I:=s.qT cs;have ab:=cq.qH bc;have t0:ca A k.heap.size 0 (ii q):=aB ab;have t1:ca A k.heap.size 1 (ii r):=aB ab;have ey:=aH ab;have aa:=cs.qH HT.o;have s0:ca A wr.heap.size 0 (ii c):=aB aa;have s1:ca A wr.heap.size 1 (ii d):=aB aa;have dc:=aH aa;have a5:A.cell? ⟨a.heap.size,0,none⟩=some (.map (some g)):=by rw[I.cell _ _ l0 qs];exact a2
      have ba:=I.qH dm.o;have ez:=aH ba;have gb:a.heap.size<A.heap.size:=qo;have el:=(show Hi _ from ab);have ek:=(show Hi _ from aa);have bt:=aA ba;clear bc ab aa ba;have dy:=cM af I qs;have dv:=cM ar I qs;have de:=Q.fr I qs;have dn:=E.qT I;obtain⟨eb,bf⟩:=nn (t (c,d));rw[bf];have bu:=aA bf;clear bf;cases eb
      ·obtain⟨v,ft,du,ad,fq⟩:=mV de 206 159 Zk6 c d (cv q r);have dz:=cM dy ad (by intro z hq;simp[Value.ownBlock]at hq;simp;omega);have df:=cM dv ad (by intro z hq;simp[Value.ownBlock]at hq;simp;omega);have r0:v.cell? ⟨wr.heap.size,0,none⟩=some (ii c):=by rw[ad.cell _ _ dc qt];exact s0
       have r1:v.cell? ⟨wr.heap.size,1,none⟩=some (ii d):=by rw[ad.cell _ _ dc qt];exact s1
       have ex:wr.heap.size<v.heap.size:=qo;have fo:a.heap.size+1+1+1<=v.heap.size:=qo;have et:cc<v.heap.size:=by
        obtain⟨_,n⟩:=df;obtain⟨n,_⟩|⟨ay,b,cb,n,_,h3,_⟩:=n
        ·simp at n
        simp at n;rw[n.1];exact aH h3
       go_wp2_with (first
        |(at_builtin;refine wpList_append_own_at _ rfl _ _ 269 rfl (a.heap.size+1+1+1) 159 ej (cv 0 0) 2 16 Y4 hi eg eh ei rfl qd (.slice (so O) j.q.length bz) _ _ rfl (cM dz ((Fr.refl [] v).alloc _) qs) ⟨v.heap.size,0,none⟩ 1 1 [ii c,ii d] rfl rfl (mI v [ii c,ii d] _ _ rfl) qc qm qo qt ?_;intro v' w7 ea bk fh ds)
        |fail)
       go_roundw
       ·have hbase:∀z,(Value.slice (so O) j.q.length bz).ownBlock=some z->z∈[g]\/C.heap.size<=z:=by intro z hq;simp[Value.ownBlock]at hq;right;omega
        refine⟨p+1,⟨j.q++[(c,d)],fun z=>if z=(c,d)then some (q,r)else j.g z⟩,by go_num,aq,ai.o.add (c,d) (q,r) X.o bo,?_,?_,?_,?_,?_,?_,?_⟩
        ·rw[<-W.o,HD.o,bR,X.o,av.o,bu.o];simp[ap,HZ.o]
        ·simp only;rw[J7 dr];exact au.o
        ·simpa[fT]using ea
        ·intro N u;obtain F|F:=ds
         ·rw[F]at u;simp[Value.ownBlock]at u;omega
         rw[F]at u;simp at u;omega
        ·have:=du.fr ((Fr.refl [] v).alloc (.cells #[ii c,ii d] 159)) qs;rw[rV];obtain⟨R,es,Y,ac,r2⟩:=this;refine⟨R,es,Y,?_,r2⟩;rw[bk.block g qt (by simp[Value.ownBlock];omega)];exact ac
        ·exact((dn.trans ad qs).alloc _).grown bk hbase
        obtain⟨h1,n⟩:=cM df ((Fr.refl [] v).alloc (.cells #[ii c,ii d] 159)) qs;refine⟨h1,?_⟩;obtain⟨n,_⟩|⟨ay,b,cb,n,h3,h4,h5⟩:=n
        ·simp at n
        refine .inr ⟨ay,b,cb,n,h3,?_,h5⟩;simp at n;rw[bk.block ay (aH h4) (by simp[Value.ownBlock];omega)];exact h4
       simp[intOf];omega
      go_wp2_with (refine wpList_store_row rfl 159 _ _ rfl (a.heap.size+1+1) #[ii q,ii r] rfl rfl 159 _ bt.o iY rfl (oX _ _) ?_)
      have bq:=Qz4 _ _ _ #[ii q,ii r] _ _ bt.o;have ep:Fr [] A A:=Fr.refl _ _;have bm:MapF (A.setRow (a.heap.size+1+1) #[ii q,ii r]) g (gV j.g):=by obtain⟨R,es,Y,ac,r2⟩:=de;exact⟨R,es,Y,by rw[Qx6 _ _ _ _ qo];exact ac,r2⟩
      obtain⟨w8,be,bn,ae⟩:=oF bm 206 0 159 #[false] Zk6;have ed:L=(q,r):=by rw[<-HO.o];refine rL qo HC.o ?_;rw[aw.o,<-W.o,HD.o,bR,X.o,av.o,bu.o];simp[ap,HZ.o]
      rw[ed];refine⟨_,_,_,_,_,_,w8,rfl,be,_,Zz8 results220 _ _ (a.heap.size+1+1) 159 _ (0,0) _ rfl (ae.heap bq qt) Y8 rfl iY,rfl,?_,bn⟩;exact((bj.qT I).setRow _ _ (.inr qo)).trans ae qs
    go_wp2;go_roundw
    ·refine⟨p+1,j,by go_num,aq,ai.o,?_,au.o,cM af (((Fr.refl [] wr).alloc _).alloc _) qs,?_,Q.fr (((Fr.refl [] wr).alloc _).alloc _) qs,(E.alloc _).alloc _,cM ar (((Fr.refl [] wr).alloc _).alloc _) qs⟩
     ·rw[<-W.o,HD.o,bR,X.o];simp
     intro N u;simp[Value.ownBlock]at u;omega
    simp[intOf];omega
   have ck:(aL e f).drop p=[]:=by rw[drop_eq_nil_iff];omega
   have ct:bv=.inr j:=by rw[<-W.o,ck,bR]
   have dj:=aA ct;clear ck ct;go_wp2;go_roundw
   ·refine⟨l+1,j,by go_num,by omega,ai.o,?_,af,Q,E⟩;rw[<-HO.o];exact(AY qo HC.o (by rw[aw.o,dj.o])).symm
   simp[intOf];omega
 have db:l=m.q.length:=qo;have di:Hi (L=(h,i)):=by show L=_;rw[<-HO.o];exact AW db
 obtain⟨gr,dl,ag,dp,dq⟩:=qW hown ec;subst ag;clear db
 go_wp2_with (refine wpList_store_row rfl 159 _ _ rfl (a.heap.size+1+1) #[ii h,ii i] rfl rfl 159 _ cf.o iY rfl (oX _ _) ?_)
 have bq:=Qz4 _ _ _ #[ii h,ii i] _ _ cf.o;have bm:MapF (B.setRow (a.heap.size+1+1) #[ii h,ii i]) g (gV m.g):=by obtain⟨R,es,Y,ac,r2⟩:=dd;exact⟨R,es,Y,by rw[Qx6 _ _ _ _ qo];exact ac,r2⟩
 obtain⟨w8,be,bn,ae⟩:=oF bm 206 0 159 #[false] Zk6;rw[di.o];refine⟨_,_,_,_,_,_,w8,rfl,be,_,Zz8 results220 _ _ (a.heap.size+1+1) 159 _ (0,0) _ rfl (ae.heap bq qt) Y8 rfl iY,rfl,?_,bn⟩;exact(cu.setRow _ _ (.inr qo)).trans ae qs
variable {X:List U} {c d e:Nat} {C:U} {x:World}
structure T where
 turn:Int
 next:Int
 s0:Int
 s1:Int
 bd:Nat->Int
 us:List U
 held:Cl->Option Int
abbrev bN(a:Cl->Option Int):Int×Int->Option Value:=λc=>(a c).map λb=>ii b
def aK(b:T)(e:Value)(d c:Nat)(a:Nat):Value:=
  if a=0 then ii b.turn else if a=1 then ii b.next else if a=2 then ii b.s0 else if a=3 then ii b.s1 else if a<148 then ii (b.bd (a-4))else if a=148 then e else if a=149 then .map (some d)else .map (some c)
structure PRow (w:World) (pb cap:Nat) (us:List U):Prop where
 h:∃cur:Array Value,w.heap[pb]?=some (.cells cur 85 (0,0))/\cur.size=cap*11/\cur.toList.take (us.length*11)=us.flatMap U.cells
 le:us.length<=cap
 cap:cap<=maxLen
structure TS (w:World) (tb pb cap hb bb:Nat) (t:T):Prop where
 cell:∀k,k<151->w.cell? ⟨tb,k,none⟩=some (aK t (.slice (so pb) t.us.length cap) hb bb k)
 fz:∀k,w.frozen? ⟨tb,k,none⟩=false
 row:PRow w pb cap t.us
 len:t.us.length<=1000
 held:MapF w hb (bN t.held)
 ways:MapF w bb (λ_=>none)
 n1:tb≠pb
 n2:tb≠hb
 n3:tb≠bb
 n4:pb≠hb
 n5:pb≠bb
 n6:hb≠bb
 z:0<tb/\0<pb/\0<hb/\0<bb
variable {t:T}
theorem VL{i:Nat}(b:X[i]?=some C)(a:Nat)(e:a<11):(X.flatMap U.cells)[i*11+a]?=C.cells[a]?:=by
 induction X generalizing i with
 |nil=>grind
 |cons d X c=>
  cases i with
  |zero=>simp at b;subst b;rw[l9,J7 qt];simp
  |succ i=>have:=c (i:=i) qg;rw[l9,J8 qt];rw[<-this];congr 1;simp;omega
theorem PRow.ppl(d:PRow w a b X):Ppl w a X:=by
 obtain⟨h,j,k,l⟩:=d.h;intro m e c n g;have f:c<11:=by have:=(gs.1 g).1;simpa using this
 have i:=VL (Y2 e) c f;grind[aB]
theorem PRow.fr{S:List Nat}(d:PRow w a b X)(g:Fr S w x)(i:a∉S):PRow x a b X:=by obtain⟨⟨c,h,j⟩,e,f⟩:=d;exact⟨⟨c,g.heap h i,j⟩,e,f⟩
theorem PRow.lt(c:PRow w a b X):a<w.heap.size:=by grind[PRow.h]
theorem TS.lt(f:TS w a b c d e t):a<w.heap.size:=aI (f.cell 0 qo)
theorem TS.fr{S:List Nat}(f:TS w a b c d e t)(g:Fr S w x)(i:a∉S)(j:b∉S)(k:d∉S)(l:e∉S):TS x a b c d e t:=
 {f with
  cell:=λh m=>by rw[g.cell a h f.lt i];exact f.cell h m
  fz:=λh=>by rw[g.frozen a h f.lt i];exact f.fz h
  row:=f.row.fr g j
  held:=f.held.fr g k
  ways:=f.ways.fr g l}
theorem TS.qF(f:TS w a b c d e t)(g:Fr [] w x):TS x a b c d e t:=f.fr g qs qs qs qs
theorem TS.gv(f:TS w a b c d e t):GV w a b c t.us:=
  ⟨by have:=f.cell 148 qo;grind[aK],f.row.ppl,f.len⟩
theorem TS.tv(f:TS w a b c d e t):TV w a d (bN t.held) t.bd:=
 ⟨by have:=f.cell 149 qo;grind[aK],f.held,λg h=>by have:=f.cell (4+g) qo;grind[aK]⟩
theorem TS.c150(f:TS w a b c d e t):w.cell? ⟨a,150,none⟩=some (.map (some e)):=by have:=f.cell 150 qo;grind[aK]
set_option maxRecDepth 100000
def bP(a:List U):Bool:= !(cK a 0).isSome||!(cK a 1).isSome
def eD(a:List U):Int:=if(cK a 0).isSome=(cK a 1).isSome then 0 else if(cK a 0).isSome then 1 else 2
theorem qK(b d c:Nat)(a:List U)(e:World)(j:GV e b d c a):Cs 116 #[pt b] e (R0 e (.bool (bP a))):=by
 delta Cs;go_in
 go_wp2_with fail
 refine(pR b d c a 0 _ j).mono ?_;rintro n q ⟨rfl,i⟩;obtain⟨u0,k⟩:=nm ((cK a 0).getD zeroU);rw[<-k];clear k
 go_wp2_with fail
 refine(pR b d c a 1 _ (j.qF (i.alloc _))).mono ?_;rintro n r ⟨rfl,p⟩;obtain⟨u1,l⟩:=nm ((cK a 1).getD zeroU);rw[<-l];clear l
 generalize g:(cK a 0).isSome=f
 generalize h:(cK a 1).isSome=b1
 have m:Hi (bP a=(!f||!b1)):=by simp[Hi,bP,g,h]
 clear g h;cases f<;>cases b1
 all_goals
  go_wp2;go_ret;exact⟨by rw[m.o];rfl,((i.alloc _).qT p).alloc _⟩
theorem zN(b e d:Nat)(a:List U)(f:World)(j:GV f b e d a):Cs 50 #[pt b] f (R0 f (ii (eD a))):=by
 delta Cs;go_in
 go_wp2_with fail
 refine(pR b e d a 0 _ j).mono ?_;rintro n q ⟨rfl,i⟩;obtain⟨u0,k⟩:=nm ((cK a 0).getD zeroU);rw[<-k];clear k
 go_wp2_with fail
 refine(pR b e d a 1 _ (j.qF (i.alloc _))).mono ?_;rintro n r ⟨rfl,p⟩;obtain⟨u1,l⟩:=nm ((cK a 1).getD zeroU);rw[<-l];clear l
 generalize g:(cK a 0).isSome=c
 generalize h:(cK a 1).isSome=b1
 have m:Hi (eD a=(if c=b1 then 0 else if c then 1 else 2)):=by simp[Hi,eD,g,h]
 clear g h;cases c<;>cases b1
 all_goals
  go_wp2;go_ret;exact⟨by rw[m.o];rfl,((i.alloc _).qT p).alloc _⟩
