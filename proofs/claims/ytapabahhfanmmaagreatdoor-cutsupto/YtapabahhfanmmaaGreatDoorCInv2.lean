import Derived.Test.YtapabahhfanmmaaGreatDoorCBookM
import Derived.Test.YtapabahhfanmmaaGreatDoorCMine
namespace Go.Proofs.YtapabahhfanmmaaGreatDoor
open Go.RowKit List Go.Proofs.Tryz
set_option maxHeartbeats 4000000
set_option maxRecDepth 100000
variable {S:List Nat} {X:List U} {a b c:Nat} {C:U} {w:World}
theorem zE{d:Type}:∀(a:List d) (b:Nat) (c:d),b<a.length->(a.set b c).take (b+1)=a.take b++[c]
 |[],_,_,f=>by grind
 |e::a,0,c,_=>by simp
 |e::a,b+1,c,f=>by simp[zE a b c qg]
theorem rU{e:Type}:∀(b:List e) (c a:Nat) (d:e),c<a->(b.set c d).drop a=b.drop a
 |[],_,_,_,_=>by simp
 |f::b,0,a+1,d,_=>by simp
 |f::b,c+1,a+1,d,g=>by simp[rU b c a d qo]
theorem yJ(b:Nat)(f:TypeId):∀(e:List Value) (a:Nat) (c:Array Value) (d:World),d.heap[b]?=some (.cells c f)->a+e.length<=c.size->(d.setCells b a e).heap[b]?=some (.cells (c.toList.take a++e++c.toList.drop (a+e.length)).toArray f)
 |[],a,c,d,g,_=>by
  show d.heap[b]?=_
  simp_all
 |i::h,a,c,d,g,k=>by
  have j:=cJ g a i;simp only[length_cons]at k;have l:=yJ b f h (a+1) _ _ j qg
  show((d.setCell ⟨b,a,none⟩ i).setCells b (a+1) h).heap[b]?=_
  grind[Array.length_toList,Array.toList_setIfInBounds,zE,rU,length_cons]
theorem Fr.setCells(a:Nat):∀(g:List Value) (b:Nat) (c:World),Fr S w c->(a∈S\/w.heap.size<=a)->Fr S w (c.setCells a b g)
 |[],_,_,d,_=>d
 |h::f,b,_,d,e=>Fr.setCells a f (b+1) _ (by grind[Fr.setCell]) e
theorem VM(b:List U)(a:Nat)(c:U)(d:a<b.length):(b.set a c).flatMap U.cells=(b.flatMap U.cells).take (a*11)++c.cells++(b.flatMap U.cells).drop (a*11+11):=by grind[set_eq_take_append_cons_drop,EN,EI,append_assoc]
theorem PRow.there{i:Nat}(c:PRow w a b X)(f:i<X.length):w.there a (i*11) 11:=by obtain⟨e,d,j,k⟩:=c.h;have h:=c.le;intro l g;refine⟨?_,aV d⟩;rw[aB d,Zq3 qo];rfl
theorem PRow.put{i:Nat}(c:PRow w a b X)(g:i<X.length)(u':U):PRow (w.setCells a (i*11) u'.cells) a b (X.set i u'):=by
 obtain⟨d,f,l,h⟩:=c.h;have k:=c.le;have e:u'.cells.length=11:=rfl;refine⟨⟨_,yJ a _ u'.cells (i*11) d w f qo,?_,?_⟩,by grind,c.cap⟩
 ·grind
 rw[VM X i u' g,Q0,<-h]
 show take _ (_++_++_)=_
 rw[e,take_take,Nat.min_eq_left qo,drop_take];have j:(take (i*11) d.toList++u'.cells).length=i*11+11:=by grind
 grind[take_append,take_of_length_le]
theorem EM(d:Int):∀(c:List U) (a:Nat) (b:U),c[a]?=some b->(c.flatMap U.cells).set (a*11+5) (ii d)=(c.set a {b with life:=d}).flatMap U.cells
 |[],a,b,f=>by grind
 |e::c,0,b,f=>by grind
 |e::c,a+1,b,f=>by have g:(e.cells).length=11:=rfl;have h:=EM d c a b qg;grind
theorem PRow.life(d:PRow w a b X)(h:X[c]?=some C)(e:Int):PRow (w.setCell ⟨a,c*11+5,none⟩ (ii e)) a b (X.set c {C with life:=e}):=by
 obtain⟨g,f,i,j⟩:=d.h;refine⟨⟨_,cJ f (c*11+5) _,?_,?_⟩,by simpa using d.le,d.cap⟩
 ·grind
 grind[length_set,EM,Array.toList_setIfInBounds,take_set]
theorem PRow.fz(d:PRow w a b X)(c:Nat):w.frozen? ⟨a,c,none⟩=false:=by grind[PRow.h,aV]
theorem Jm(d:T)(e f:Value)(c b a:Nat)(g:a≠148):aK d e c b a=aK d f c b a:=by grind[aK]
theorem MapF.of_eq{b c:Int×Int->Option Value}(f:MapF w a b)(e:∀d,b d=c d):MapF w a c:=by have:=funext e;grind
def T.qR(a:T)(c:Nat):T:=
 match a.us[c]? with
 |none=>a
 |some b=>if b.life-3<=0 then{a with us:=a.us.eraseIdx c,held:=λd=>if d=(b.x,b.y)then none else a.held d} else{a with us:=a.us.set c {b with life:=b.life-3} }
theorem UG(b c d:Nat)(a:List U)(e:World)(j:PRow e b c a)(i:a.length<=1000)(h:d<a.length):Cs 221 #[.slice (so b) a.length c,ii d,ii ((d:Int)+1)] e λg f=>g=.returned (.slice (so b) (a.length-1) c)/\PRow f b c (a.eraseIdx d)/\Fr [b] e f:=UF b c d a e j i h
theorem WP(g e m j C:Nat)(h:T)(b:Nat)(a:U)(l:World)(d:TS l g e m j C h)(A:h.us[b]?=some a)(av:-1000<=a.life/\a.life<=1000):Cs 207 #[pt g,ii b] l λu f=> u=.returned (.tuple #[])/\Fr [g,e,j] l f/\TS f g e m j C (h.qR b):=by
 have hz:=d.z;have aq:=d.ways.lt;have Zr:=d.held.lt;have s:=d.lt;have ax:=d.row.lt;have ai:=(gs.1 A).1;have au:=d.len;have Q:=d.gv.c;have ag:=d.fz 148;obtain⟨c0,c1,c2,c3,c4,c5,c6,c7,c8,c9,ab⟩:=d.row.ppl.at A;have z5:=d.row.fz (b*11+5);have HI:=aA A
 by_cases hd:a.life-3<=0
 ·have w:h.qR b={h with us:=h.us.eraseIdx b,held:=λi=>if i=(a.x,a.y)then none else h.held i}:=by grind[T.qR]
  have E:=aA w;obtain⟨n,P⟩:=nm (l.setCell ⟨e,b*11+5,none⟩ (ii (a.life-3)));have M:PRow n e m (h.us.set b {a with life:=a.life-3}):=by grind[PRow.life,TS.row]
  have X:(h.us.set b {a with life:=a.life-3})[b]?=some {a with life:=a.life-3}:=by rw[getElem?_set_self ai]
  have p:Fr [e] l n:=by simp_all[Fr.setCell,r0]
  have ay:n.heap.size=l.heap.size:=qa;have aj:=d.held.fr p (by simp;exact λu=>d.n4 u.symm);have B:∀f,Fr [j] n f->(λf:World=>f.cell? ⟨e,b*11,none⟩=some (ii a.id)/\f.cell? ⟨e,b*11+1,none⟩=some (ii a.owner)/\f.cell? ⟨e,b*11+2,none⟩=some (ii a.kind)/\f.cell? ⟨e,b*11+3,none⟩=some (ii a.x)/\f.cell? ⟨e,b*11+4,none⟩=some (ii a.y)/\f.cell? ⟨e,b*11+5,none⟩=some (ii (a.life-3))/\f.cell? ⟨e,b*11+6,none⟩=some (ii a.load)/\f.cell? ⟨e,b*11+7,none⟩=some (ii a.what)/\f.cell? ⟨e,b*11+8,none⟩=some (ii a.tox)/\f.cell? ⟨e,b*11+9,none⟩=some (ii a.toy)/\f.cell? ⟨e,b*11+10,none⟩=some (ii a.target)/\f.cell? ⟨g,149,none⟩=some (.map (some j))/\Fr [j] n f) f:=by intro f I;obtain⟨d0,d1,d2,d3,d4,d5,d6,d7,d8,d9,ac⟩:=(M.fr I (by simp;exact d.n4)).ppl.at X;refine⟨d0,d1,d2,d3,d4,d5,d6,d7,d8,d9,ac,?_,I⟩;rw[I.cell g 149 qo (by simp;exact d.n2),p.cell g 149 s (by simp;exact d.n1)];exact d.tv.c
  have H:Fr [j] n (l.setCell ⟨e,b*11+5,none⟩ (ii (a.life-3))).drew:=by simp_all[Fr.drew,r0]
  have K0:=B _ H;have Y:=d.n2;have F:=aA d;clear A w X d
  delta Cs;go_in
  go_wp2
  go_cut [] (fun wx=>Fr [j] n wx/\MapF wx j (fun i=>if i=(a.x,a.y)then none else bN h.held i))
  ·go_region_held (fun f:World=>f.cell? ⟨e,b*11,none⟩=some (ii a.id)/\f.cell? ⟨e,b*11+1,none⟩=some (ii a.owner)/\f.cell? ⟨e,b*11+2,none⟩=some (ii a.kind)/\f.cell? ⟨e,b*11+3,none⟩=some (ii a.x)/\f.cell? ⟨e,b*11+4,none⟩=some (ii a.y)/\f.cell? ⟨e,b*11+5,none⟩=some (ii (a.life-3))/\f.cell? ⟨e,b*11+6,none⟩=some (ii a.load)/\f.cell? ⟨e,b*11+7,none⟩=some (ii a.what)/\f.cell? ⟨e,b*11+8,none⟩=some (ii a.tox)/\f.cell? ⟨e,b*11+9,none⟩=some (ii a.toy)/\f.cell? ⟨e,b*11+10,none⟩=some (ii a.target)/\f.cell? ⟨g,149,none⟩=some (.map (some j))/\Fr [j] n f)
    (first|omega|with_reducible exact B _ V|with_reducible exact B _ W)
    (first|(go_at_call 192;refine(iH {a with life:=a.life-3} _).mono ?_;rintro u w1 ⟨rfl,q⟩;have V:=H.qT q;obtain⟨wd,Zq,ak,ah⟩:=vI (aj.fr (Fr.qT (S:=[]) (by rw[P];exact(r0 _ _).drew) q) qs) 205 0 159 3 j9 a.x a.y;have W:=V.trans ah qs))
   all_goals
    go_wp2_with fail
    go_meet
    exact⟨W,ak⟩
  obtain⟨k,am⟩:=hcut;have d:=F.o;have t:=d.n1;have aw:=d.n4;have af:wc.cell? ⟨g,148,none⟩=some (.slice (so e) h.us.length m):=by rw[k.cell g 148 qo (by simp;exact d.n2),p.cell g 148 s (by simp;exact d.n1)];exact Q
  have ao:wc.frozen? ⟨g,148,none⟩=false:=by rw[k.frozen g 148 qo (by simp;exact d.n2),p.frozen g 148 s (by simp;exact d.n1)];omega
  have aa:=M.fr k (by simp;exact d.n4);have L:(h.us.set b {a with life:=a.life-3}).length=h.us.length:=Q0;have O:=UG e m b _ wc aa qo qo;rw[L]at O;have D:g<wc.heap.size:=by have:=k.size;omega
  have HX:=aA k;have HL:=aA L;clear B K0 H P aa M Q c0 c1 c2 c3 c4 c5 c6 c7 c8 c9 ab z5 ag L k
  go_wp2_with (go_at_call 221;refine O.mono ?_;rintro u N ⟨rfl,an,r⟩;have ae:=(r.cell g 148 D (by simp;exact t)).trans af;have az:=(r.frozen g 148 D (by simp;exact t)).trans ao)
  have k:=HX.o;have ar:=ae;have e1:(h.us.set b {a with life:=a.life-3}).eraseIdx b=h.us.eraseIdx b:=by grind
  have e2:(h.us.eraseIdx b).length=h.us.length-1:=qg;have ad:Fr [g,e,j] l (N.setCell ⟨g,148,none⟩ (.slice (so e) (h.us.length-1) m)) :=
   ((((p.mono (S':=[g,e,j]) qs).trans k qs).trans r qs).setCell _ _ qs)
  have R:Fr [g] N (N.setCell ⟨g,148,none⟩ (.slice (so e) (h.us.length-1) m)):=(r0 _ _).setCell _ _ qs;refine Q5 (v:=.tuple #[]) (Q6 rfl _ _ _) rfl ⟨rfl,ad,?_⟩;rw[E.o];rw[e1]at an;refine{d with cell:=?_,fz:=?_,row:=?_,held:=?_,ways:=?_,len:=?_}
  ·intro i J
   show _=some (aK h (.slice (so e) (h.us.eraseIdx b).length m) j C i)
   rw[e2]
   by_cases ap:i=148
   ·grind[eA,aK]
   rw[cE _ g 148 g i _ (.inr qo),r.cell g i D (by simp;exact t),k.cell g i qo (by simp;exact Y),p.cell g i s (by simp;exact t),d.cell i J];grind[Jm]
  ·intro i;rw[J9,r.frozen g i D (by simp;exact t),k.frozen g i qo (by simp;exact Y),p.frozen g i s (by simp;exact t)];exact d.fz i
  ·grind[PRow.fr]
  ·grind
  ·refine((am.fr r qg).fr R qg).of_eq ?_;grind
  exact((((d.ways.fr p (by grind[TS.n5])).fr k (by grind[TS.n6])).fr r (by grind[TS.n5])).fr R (by grind[TS.n3]))
 have w:h.qR b={h with us:=h.us.set b {a with life:=a.life-3} }:=by grind[T.qR]
 have E:=aA w;have F:=aA d;clear A w d
 delta Cs;go_in
 go_wp2_with fail
 have d:=F.o;have q:Fr [e] l (l.setCell ⟨e,b*11+5,none⟩ (ii (a.life-3))):=(r0 _ _).setCell _ _ qs;refine Q5 (v:=.tuple #[]) (Q6 rfl _ _ _) rfl ⟨rfl,q.mono qs,?_⟩;rw[E.o];refine{d with cell:=?_,fz:=?_,row:=?_,held:=?_,ways:=?_,len:=?_}
 ·intro i J
  show _=some (aK h (.slice (so e) (h.us.set b _).length m) j C i)
  rw[Q0,q.cell g i s (by simp;exact d.n1)];exact d.cell i J
 ·intro i;rw[q.frozen g i s (by simp;exact d.n1)];exact d.fz i
 ·exact d.row.life HI.o _
 ·grind
 ·exact d.held.fr q (by grind[TS.n4])
 exact d.ways.fr q (by grind[TS.n5])
def bI(b:List U)(id:Int):Option Nat:=b.findIdx? (λa=>a.id==id)
theorem xW{id:Int}(e:Rise X)(b:X[a]?=some C)(g:C.id=id):bI X id=some a:=by obtain⟨d,rfl⟩:=gs.1 b;unfold bI;rw[findIdx?_eq_some_iff_getElem];refine⟨d,by grind,λf c=>?_⟩;have:=e.lt (Y2 (by omega:f<X.length)) b c;grind
theorem tE{id:Int}(b:∀a∈X,a.id≠id):bI X id=none:=by grind[bI]
theorem kU{id:Int}(c:bI X id=some a):∃b,X[a]?=some b/\b.id=id:=by grind[bI,findIdx?_eq_some_iff_getElem,getElem?_eq_getElem]
theorem pU(c g d:Nat)(a:List U)(id:Int)(b:World)(i:GV b c g d a)(j:Rise a):Cs 152 #[pt c,ii id] b λh k=>∃(f:Nat) (e:Bool),h=.returned (.tuple #[ii f,.bool e])/\Fr [] b k /\bI a id=(if e=true then some f else none):=by refine(EA c g d a id b i j).mono ?_;grind[xW,tE]
def fI(b:T)(a:U):U×T:=
 match bI b.us a.target with
 |none=>(a.idle,b)
 |some e=>
  match b.us[e]? with
  |none=>(a.idle,b)
  |some c=>
   if bJ a.x a.y c.x c.y=true then(a,b.qR e)
   else(a.to (dB b a λd=>bJ c.x c.y d.1 d.2),b.qM a (dB b a λd=>bJ c.x c.y d.1 d.2))
theorem XE(f i p k j:Nat)(e:T)(a:U)(b:World)(r:TS b f i p k j e)(bi:Sd b)(bh:Rise e.us)(aq:aE a.x a.y=true)(t:∀c∈e.us,aE c.x c.y=true /\ -1000<=c.life/\c.life<=1000):Cs 166 #[pt f,a.val] b λq d=> q=.returned (fI e a).1.val/\Fr [f,i,k,j] b d/\TS d f i p k j (fI e a).2:=by
 have hz:=r.z;have bq:=r.ways.lt;have br:=r.held.lt;have bx:=r.lt;have bv:=r.row.lt;obtain⟨m,D⟩:=nm ((b.alloc (.cells a.arr 85)).alloc (.cells zeroU.arr 85));have bw:m.heap.size=b.heap.size+1+1:=by rw[D];simp
 have an:Fr [] b m:=by rw[D];exact((r0 _ _).alloc _).alloc _
 have hU:m.heap[b.heap.size]?=some (.cells a.arr 85):=by rw[D,dW]
 have hR:m.heap[b.heap.size+1]?=some (.cells zeroU.arr 85):=by rw[D,cZ]
 have V:∀d,Fr [] m d->(λd:World=>cl d b.heap.size 10 a.target/\Fr [] m d) d:=λd E=>⟨aB (E.qH hU),E⟩;have KF:Fr [] m (((b.alloc (.cells a.arr 85)).alloc (.cells zeroU.arr 85)).drew):=by rw[D];exact(r0 _ _).drew
 have K0:=V _ KF;clear D
 delta Cs;go_in
 go_wp2
 go_cut [5,6] (fun s5 s6 wx=>∃(A:Nat) (C:Bool),s5=ii A/\s6=.bool C/\bI e.us a.target=(if C=true then some A else none)/\Fr [] m wx)
 ·go_region_held (fun d:World=>ca d b.heap.size 10 (ii a.target)/\Fr [] m d)
   (first|with_reducible exact K0|with_reducible exact V _ ap)
   (first|(go_at_call 152;refine(pU f i p e.us a.target _ (r.gv.qF (an.qT (Q1 qb))) bh).mono ?_;rintro q w1 ⟨A,C,rfl,J,bg⟩;have ap:=Fr.qT (Q1 qb) J))
  all_goals
   go_wp2_with fail
   go_meet
   exact⟨A,C,rfl,rfl,bg,ap⟩
 obtain⟨A,C,rfl,rfl,H,ad⟩:=hcut;have ah:=ad.qH hU;have W:=ad.qH hR;have P:=an.qT ad;have hl:=aH W;have Y:=aA W;have N:=r.qF P;have Zr:=bi.qF P;cases C
 ·have s:fI e a=(a.idle,e):=by unfold fI;rw[H];rfl
  have n:=aA s;clear s W K0 V KF H
  go_wp2_with (refine wpList_load_row rfl 85 _ rfl b.heap.size rfl 85 a.arr (0,0) _ ah Q3 rfl aS ?_)
  refine(sG a _).mono ?_;rintro q v ⟨rfl,l⟩;have u:=l.qH Y.o
  go_wp2_with (refine wpList_store_row rfl 85 _ _ rfl (b.heap.size+1) a.idle.arr rfl rfl 85 _ u aS rfl (U.one _) ?_)
  have t:Fr [f,i,k,j] b (v.setRow (b.heap.size+1) a.idle.arr):=(P.qT l).qO.setRow _ _ (.inr qo);refine Zq8 (v:=a.idle.val) (Zz8 results166 _ _ (b.heap.size+1) 85 a.idle.arr (0,0) _ rfl (Qz4 _ _ _ a.idle.arr _ _ u) Q3 rfl aS) rfl ⟨?_,t,?_⟩
  ·rw[n.o]
  rw[n.o];exact(N.qF l).fr ((r0 [b.heap.size+1] v).setRow _ _ qs) qt qt qt qt
 rw[Q7 rfl]at H;obtain⟨c,O,bl⟩:=kU H;obtain⟨ax,bm,bn⟩:=t c (Q8 O);have bs:=(gs.1 O).1;have bt:=r.len;have bc:=N.gv.c;obtain⟨c0,c1,c2,c3,c4,c5,c6,c7,c8,c9,ba⟩:=N.row.ppl.at O;have HV:=aA O;have aj:=aA H;clear O H W K0 V KF t bl
 go_wp2_with fail
 refine(iH c _).mono ?_;rintro q R ⟨rfl,ab⟩;obtain⟨p0,p1,p2,p3⟩:=bX.1 aq;obtain⟨p4,p5,p6,p7⟩:=bX.1 ax
 go_wp2_with fail
 have w:Fr [] wc (R.alloc (.cells #[ii c.x,ii c.y] 159)):=ab.alloc _;have M:(R.alloc (.cells #[ii c.x,ii c.y] 159)).heap[R.heap.size]?=some (.cells #[ii c.x,ii c.y] 159):=aC _ _;have bf:=Z1 hl ab.size;obtain⟨I,L⟩:=nm R.heap.size;obtain⟨B,ao⟩:=nm (R.alloc (.cells #[ii c.x,ii c.y] 159));rw[<-ao]at w M |-;rw[<-L]at M bf |-;have bo:=P.qT w;have ag:=w.qH ah;have au:=N.qF w;have ae:=Zr.qF w;have ar:=w.qH Y.o;have az:=aA ar;clear ao L ab ah N Zr ar bc c0 c1 c2 c3 c4 c5 c6 c7 c8 c9 ba Y w P;obtain⟨ai,hA⟩:=nn (bJ a.x a.y c.x c.y);have X:=aA hA;clear hA;have aa:∀d,Fr [] B d->(λd:World=>Fr [] B d/\fM b.heap.size a d (ca d I 0 (ii c.x)/\ca d I 1 (ii c.y))) d:=λd E=>by have h:=E.qH ag;have L:=E.qH M;exact⟨E,aB h,aB h,aB h,aB h,aB h,aB h,aB h,aB h,aB h,aB h,aB h,aB L,aB L⟩
 have K7:=aa B.drew ((r0 [] B).drew)
 go_cut [34] (fun bp wx=>bp=.bool (!ai)/\Fr [] B wx)
 ·go_region_held (fun d:World=>Fr [] B d/\fM b.heap.size a d (ca d I 0 (ii c.x)/\ca d I 1 (ii c.y)))
   (first|with_reducible exact K7|with_reducible exact aa _ ac)
   (first|(go_at_call 192;refine(iH a _).mono ?_;rintro q w1 ⟨rfl,J⟩;have ac:=Fr.qT (Zz9 qb) J)|(go_at_call 206;refine(pP a.x a.y c.x c.y _ (ae.qF (Zz9 qb)) qo qo qo qo qo qo qo qo).mono ?_;rintro q w1 ⟨rfl,J⟩;rw[X.o];have ac:=Fr.qT (Zz9 qb) J))
  all_goals
   go_wp2_with fail
   go_meet
   exact⟨rfl,ac⟩
 obtain⟨rfl,F⟩:=hcut;have ay:=bo.qT F;have aw:=F.qH ag;have be:=F.qH M;have Zq:=F.qH az.o;have av:=au.qF F;have bj:=ae.qF F;have am:=aA Zq;clear ag M au ae aa K7 Zq;cases ai
 ·have s:fI e a=(a.to (dB e a λg=>bJ c.x c.y g.1 g.2),e.qM a (dB e a λg=>bJ c.x c.y g.1 g.2)):=by unfold fI;rw[aj.o];simp only[HV.o];rw[X.o];rfl
  have n:=aA s;clear s;have bu:∀(fn:Fn) (first p:Array Value) (b:World),(Instr.makeFunc fn first p).run prog b=.ok (.func fn first p) b:=λ_ _ _ _=>rfl
  go_wp2_with (first|(refine wpList_load_row rfl 85 _ rfl b.heap.size rfl 85 a.arr (0,0) _ aw Q3 rfl aS ?_)|(refine wpList_load_row rfl 159 _ rfl I rfl 159 #[ii c.x,ii c.y] (0,0) _ be Y8 rfl iY ?_))
  refine(vZ f i p k j e a c.x c.y _ av bj aq ax).mono ?_;rintro q v ⟨rfl,l,af⟩;have u:=l.heap am.o qt;obtain⟨Q,hq⟩:=nm (a.to (dU (λg=>cR (bN e.held) e.bd g.1 g.2) (λg=>bJ c.x c.y g.1 g.2) (a.x,a.y)));rw[<-hq];have HQ:=aA hq;clear hq
  go_wp2_with (refine wpList_store_row rfl 85 _ _ rfl (b.heap.size+1) Q.arr rfl rfl 85 _ u aS rfl (U.one _) ?_)
  have t:Fr [f,i,k,j] b (v.setRow (b.heap.size+1) Q.arr):=((ay.qO (S:=[f,i,k,j])).trans l qs).setRow _ _ (.inr qo);refine Zq8 (v:=Q.val) (Zz8 results166 _ _ (b.heap.size+1) 85 Q.arr (0,0) _ rfl (Qz4 _ _ _ Q.arr _ _ u) Q3 rfl aS) rfl ⟨?_,t,?_⟩
  ·rw[n.o,HQ.o];rfl
  rw[n.o];exact af.fr ((r0 [b.heap.size+1] v).setRow _ _ qs) qt qt qt qt
 have s:fI e a=(a,e.qR A):=by unfold fI;rw[aj.o];simp only[HV.o];rw[X.o];rfl
 have n:=aA s;clear s
 go_wp2_with (first|(go_at_call 207;refine(WP f i p k j e A c _ av HV.o ⟨bm,bn⟩).mono ?_;rintro q v ⟨rfl,l,af⟩;have bk:=l.heap aw qt;have u:=l.heap am.o qt;have ak:=(aA u);clear u)|(refine wpList_load_row rfl 85 _ rfl b.heap.size rfl 85 a.arr (0,0) _ bk Q3 rfl aS ?_)|(refine wpList_store_row rfl 85 _ _ rfl (b.heap.size+1) a.arr rfl rfl 85 _ ak.o aS rfl (U.one _) ?_))
 have t:Fr [f,i,k,j] b (v.setRow (b.heap.size+1) a.arr):=((ay.qO (S:=[f,i,k,j])).trans l qs).setRow _ _ (.inr qo);refine Zq8 (v:=a.val) (Zz8 results166 _ _ (b.heap.size+1) 85 a.arr (0,0) _ rfl (Qz4 _ _ _ a.arr _ _ ak.o) Q3 rfl aS) rfl ⟨?_,t,?_⟩
 ·rw[n.o]
 rw[n.o];exact af.fr ((r0 [b.heap.size+1] v).setRow _ _ qs) qt qt qt qt
variable {R:List Value} {H:TypeId} {v:Value} {x y:World}
theorem pJ{k:Program}{s:Array Oper}{a:Oper}{b:Act}{K:Act->World->Prop}{x:Exit->Act->World->Prop}{v:Prop}(C:a.guard=none)(t u:Operand)(l:TypeId)(F:a.op=Op.call {callee:=Callee.builtin Builtin.append,args:=#[t,u],argTypes:=#[l,l]})(base:Nat)(e:TypeId)(f:TypeInfo)(p:Value)(size bytes:Nat)(L:k.underlying l=some (.slice e))(D:k.info? e=some f)(O:f.zero=some p)(hsize:f.size=size)(hby:f.bytes=bytes)(hzs:p.cells.size=size)(J:0<size)(i:Value)(g:Nat)(o:List Value)(I:b.eval t=i)(hown:w.ownsRow base e size i g o)(n:Addr)(c q:Nat)(h:List Value)(N:b.eval u=.slice (some n) c q)(E:h.length=c*size)(hnews:∀r m,h[r]?=some m->w.cell? (n.add r)=some m)(y:∀m∈h,m.oneCell'=true)(h63:g+c<=maxLen)(hbytes:(g+c)*bytes<=140737488355328)(hbase:base<=w.heap.size)(hK:∀d j,j.ownsRow base e size d (g+c) (o++h)->w.grownBy j i.ownBlock->(d.ownBlock=i.ownBlock\/d.ownBlock=some w.heap.size)->K (b.put a.dst d) j):if Region.wanted a (yielded s b.tmps)=true then Oper.wp k a b w K x else v:=by
 have M:Region.wanted a (yielded s b.tmps)=true:=by simp[Region.wanted,C]
 rw[Q7 M];obtain⟨d,j,H,z,A,_,B⟩:=run_append_own_at (P:=k) w base l a.type e f p size bytes L D O hsize hby hzs J i g o hown n c q h E hnews y h63 hbytes hbase;unfold Oper.wp;simp only[execOp,F,resolve,invoke,builtin,Sem.run_bind,Sem.run_pure,Result.andThen_ok,map_toArray,map_cons,map_nil,I,N,H];exact hK d j z A B
theorem aF{base:Nat}{size:Nat}(d:w.ownsRow base H size v a R)(h:Fr S w x)(j:∀b,v.ownBlock=some b->b∉S):x.ownsRow base H size v a R:=by
 refine⟨d.1,?_⟩;obtain l|⟨c,e,f,rfl,g,i,k⟩:=d.2
 ·grind
 exact .inr ⟨c,e,f,rfl,g,h.heap i (j c rfl),k⟩
theorem bK{base:Nat}{size:Nat}(d:w.ownsRow base H size v a R)(g:0<a):∃c b,v=.slice (so c) a b:=by
 obtain⟨_,f⟩|⟨c,b,e,rfl,_⟩:=d.2
 ·omega
 grind
theorem Fr.grow{S:List Nat}{row:Option Nat}(b:Fr S w x)(d:x.grownBy y row)(c:∀a,row=some a->a∈S\/w.heap.size<=a):Fr S w y:=b.grown d c
abbrev uH(z b:Int)(c n s t u v w x y d e f g h i j k l m o p q r:Value):Prop:=∀a,Cs 121 #[ii z] a (R0 a (.agg #[ii b,c,n,s,t,u,v,w,x,y,d,e,f,g,h,i,j,k,l,m,o,p,q,r]))
abbrev bD(id c b d e a:Int):U:=⟨id,c,b,d,e,a,0,0,0,0,0⟩
theorem AJ(a base:Nat)(e m k f g h:Int)(Y a2 a3 a4 a5 a6 a7 a8 a9 aa ab ac ad ae af ag ah ai aj ak am an ao p:Value)(o:List U)(b:World)(hk:uH k h Y a2 a3 a4 a5 a6 a7 a8 a9 aa ab ac ad ae af ag ah ai aj ak am an ao)(bz:∀b,(Instr.field 220 (Value.agg #[ii h,Y,a2,a3,a4,a5,a6,a7,a8,a9,aa,ab,ac,ad,ae,af,ag,ah,ai,aj,ak,am,an,ao]) 0).run prog b=.ok (ii h) b)(u:a<b.heap.size)(O:b.cell? ⟨a,1,none⟩=some (ii e))(az:b.frozen? ⟨a,1,none⟩=false)(hv:b.cell? ⟨a,148,none⟩=some p)(bq:b.frozen? ⟨a,148,none⟩=false)(hown:b.ownsRow base 85 11 p o.length (o.flatMap U.cells))(P:p.ownBlock≠some a)(cd:o.length<1000)(au:0<=e/\e<=1000000000)(bx:base<=b.heap.size):Cs 77 #[pt a,ii m,ii k,cv f g] b λt d=> t=.returned (.tuple #[])/\∃n,d.cell? ⟨a,148,none⟩=some n/\d.cell? ⟨a,1,none⟩=some (ii (e+1))/\d.ownsRow base 85 11 n (o.length+1) ((o++[bD e m k f g h]).flatMap U.cells) /\(n.ownBlock=p.ownBlock\/∃w,n.ownBlock=some w/\b.heap.size<=w)/\Fr (a::p.ownBlock.toList) b d/\(∀c,c≠1->c≠148->d.cell? ⟨a,c,none⟩=b.cell? ⟨a,c,none⟩)/\(∀c,d.frozen? ⟨a,c,none⟩=b.frozen? ⟨a,c,none⟩):=by
 obtain⟨q,x⟩:=nm (b.alloc (.cells #[ii f,ii g] 159));have ck:q.heap.size=b.heap.size+1:=by rw[x];simp
 have aq:Fr [] b q:=by rw[x];exact(r0 _ _).alloc _
 have hC:q.heap[b.heap.size]?=some (.cells #[ii f,ii g] 159):=by rw[x,aC]
 have s:∀d,Fr [] q d->(λd:World=>cl d a 1 e/\cl d b.heap.size 0 f/\cl d b.heap.size 1 g/\Fr [] q d) d:=λd E=>⟨((aq.qT E).cell a 1 u qs).trans O,aB (E.qH hC),aB (E.qH hC),E⟩;have X:Fr [] q (b.alloc (.cells #[ii f,ii g] 159)).drew:=by rw[x];exact(r0 _ _).drew
 have W:Fr [] q ((b.alloc (.cells #[ii f,ii g] 159)).alloc (.cells zeroU.arr 85)).drew:=by rw[x];exact((r0 _ _).alloc _).drew
 have V:=s _ X;clear x
 delta Cs;go_in
 go_wp2
 go_cut [8] (fun s8 r=>∃i:Nat,s8=.pointer (so i)/\r.heap[i]?=some (.cells (bD e m k f g h).arr 85)/\b.heap.size<i/\Fr [] q r)
 ·go_region_held (fun d:World=>ca d a 1 (ii e)/\ca d b.heap.size 0 (ii f)/\ca d b.heap.size 1 (ii g)/\Fr [] q d)
   (first|with_reducible exact V|with_reducible exact s _ y|with_reducible exact s _ (y.alloc _)|with_reducible exact s _ W|with_reducible exact s _ (y.set11 (b.heap.size+1) (bD e m k f g h) (.inr qo)))
   (first|(go_at_call 121;refine(hk _).mono ?_;rintro t R ⟨rfl,F⟩;have y:=Fr.qT (Q1 (Q1 (Q1 qb))) F;obtain⟨Zs,ay⟩:=F.qC;have q4:b.heap.size+1<=R.heap.size:=(qh y.size);(first|(have q3:b.heap.size+1<R.heap.size:=(by have:=F.size;simp at this;omega))|skip)))
  all_goals
   go_wp2_with fail
   go_meet
   (first|(have bh:R.heap[b.heap.size+1]?=some (.cells zeroU.arr 85):=F.qH (by exact cZ b _ _))|skip)
   refine⟨_,rfl,?_,by omega,?_⟩
   ·first
    |with_reducible exact aC _ _
    |exact set11 (v:=bD e m k f g h) bh
   first
   |with_reducible exact y.alloc _
   |exact y.set11 (b.heap.size+1) (bD e m k f g h) (.inr qo)
 obtain⟨i,rfl,l,ce,M⟩:=hcut;have v:=aq.qT M;have ar:=Z1 u v.size;have bn:=(v.cell a 148 u qs).trans hv;have br:=(v.frozen a 148 u qs).trans bq;have ch:=(v.cell a 1 u qs).trans O;have cj:=(v.frozen a 1 u qs).trans az;clear s V X W;have e0:ca wc i 0 (ii e):=aB l;have e1:ca wc i 1 (ii m):=aB l;have e2:ca wc i 2 (ii k):=aB l;have e3:ca wc i 3 (ii f):=aB l;have e4:ca wc i 4 (ii g):=aB l;have e5:ca wc i 5 (ii h):=aB l;have e6:ca wc i 6 (ii 0):=aB l;have e7:ca wc i 7 (ii 0):=aB l;have e8:ca wc i 8 (ii 0):=aB l;have e9:ca wc i 9 (ii 0):=aB l;have bw:ca wc i 10 (ii 0):=aB l;obtain⟨bs,bj,bo,ay,bp⟩:=Z2 jU;have L:Fr [] b (wc.drew.alloc (.cells (bD e m k f g h).arr 85)):=(v.drew).alloc _;have av:=aF hown L qs;have aw:∀c Q,(bD e m k f g h).cells[c]?=some Q->(wc.drew.alloc (.cells (bD e m k f g h).arr 85)).cell? ((⟨wc.heap.size,0,none⟩:Addr).add c)=some Q:=by intro c Q hu;rw[i7,Z9,aB (show(wc.drew.alloc (.cells (bD e m k f g h).arr 85)).heap[wc.heap.size]?=_ from aC wc.drew _)];simpa using hu
 have s:=aA aw;have HO:=aA av;have bv:=aA hown;have bt:=aA l;have bu:=aA M;have I:=aA L;have bb:=aA P;have C:Hi (a∉p.ownBlock.toList):=by show _∉_;intro be;apply P;simpa using be
 clear aw av hown l M L;go_wp2
 go_cut [] (fun r=>∃n,r.cell? ⟨a,148,none⟩=some n/\r.cell? ⟨a,1,none⟩=some (ii e)/\r.ownsRow base 85 11 n (o.length+1) ((o++[bD e m k f g h]).flatMap U.cells) /\
   (n.ownBlock=p.ownBlock\/∃w,n.ownBlock=some w/\b.heap.size<=w)/\Fr (a::p.ownBlock.toList) b r/\(∀c,c≠1->c≠148->r.cell? ⟨a,c,none⟩=b.cell? ⟨a,c,none⟩)/\(∀c,r.frozen? ⟨a,c,none⟩=b.frozen? ⟨a,c,none⟩))
 ·go_region_law (refine pJ rfl (.tmp 27) (.tmp 29) 82 rfl base 85 bs zeroU.val 11 88 Qq8 bj bo ay bp rfl qd p o.length (o.flatMap U.cells) (by simp[Act.eval]) HO.o ⟨wc.heap.size,0,none⟩ 1 1 (bD e m k f g h).cells (by simp[Act.eval]) rfl s.o qc qm qo (by have:=v.size;simp;omega) ?_;intro n w2 B Zr z;obtain⟨J,ap,rfl⟩:=bK B qo;have H:=Fr.grow (S:=p.ownBlock.toList) (r0 _ _) Zr (fun bd N=>.inl (by simp[N]));have bm:=(H.cell a 148 qt C.o).trans ((Fr.cell (Fr.alloc ((r0 [] wc).drew) _) a 148 ar qs).trans bn);have cn:=(H.frozen a 148 qt C.o).trans ((Fr.frozen (Fr.alloc ((r0 [] wc).drew) _) a 148 ar qs).trans br))
  all_goals
   go_wp2_with fail
   go_meet
   have bf:=(I.o.qO (S:=a::p.ownBlock.toList)).grow Zr (λbd N=>.inl (by simp[N]));have bg:=bf.setCell ⟨a,148,none⟩ (.slice (so J) (o.length+1) ap) (.inl qs);have bl:J≠a:=by
    obtain j|j:=z
    ·intro t;subst t;exact bb.o j.symm
    intro t;subst t;simp[Value.ownBlock]at j;omega
   have D:=λc=>(H.cell a c qt C.o).trans (I.o.cell a c u qs);have Zq:=λc=>(H.frozen a c qt C.o).trans (I.o.frozen a c u qs);refine⟨.slice (so J) (o.length+1) ap,eA _ _ _ _ _ bm,?_,?_,?_,bg,?_,?_⟩
   ·rw[cE _ a 148 a 1 _ (.inr qo),D];exact O
   ·rw[Qz5,l9,flatMap_nil,Zq6];exact aF B ((r0 [a] w2).setCell _ _ qs) (by intro w A;simp[Value.ownBlock]at A;subst A;simpa using bl)
   ·obtain j|j:=z
    ·exact .inl j
    refine .inr ⟨_,j,?_⟩;have:=v.size;simp;omega
   ·intro c cb cc;rw[cE _ a 148 a c _ (.inr qo),D]
   grind[World.frozen?_setCell]
 obtain⟨n,ax,bk,B,z,bi,D,Zq⟩:=hcut;have co:=(Zq 1).trans az;have cf:=au.2;have cg:=au.1;have ba:=(show Hi _ from ax);have bc:=(show Hi _ from B);clear ax B
 go_wp2_with fail
 refine Q5 (v:=.tuple #[]) (Q6 rfl _ _ _) rfl ⟨rfl,n,?_,?_,?_,z,bi.setCell _ _ (.inl qs),?_,?_⟩
 ·rw[cE _ a 1 a 148 _ (.inr qo)];exact ba.o
 ·exact eA _ _ _ _ _ bk
 ·refine aF bc.o ((r0 [a] wc).setCell _ _ qs) ?_;intro w A;simp;obtain j|⟨b',j,h2⟩:=z
  ·intro t;subst t;exact P (j.symm.trans A)
  rw[A]at j;cases j;omega
 ·intro c j h2;rw[cE _ a 1 a c _ (.inr qo)];exact D c j h2
 grind[World.frozen?_setCell]
variable {d e:Nat}
abbrev rC(a:Int)(c n s t u v w x y d e f g h i j k l m o p q r:Value):Prop:=∀b,(Instr.field 220 (Value.agg #[ii a,c,n,s,t,u,v,w,x,y,d,e,f,g,h,i,j,k,l,m,o,p,q,r]) 0).run prog b=.ok (ii a) b
def T.added(a:T)(d c e f b:Int):T:={a with us:=a.us++[bD a.next d c e f b],next:=a.next+1}
variable {t:T}
theorem QG(j i R hb Y:Nat)(d:T)(l h m n g:Int)(r D J L M N O P Q s t u v w x y A B C E F H I:Value)(e:World)(a:TS e j i R hb Y d)(hk:uH h g r D J L M N O P Q s t u v w x y A B C E F H I)(ae:rC g r D J L M N O P Q s t u v w x y A B C E F H I)(ag:d.us.length<1000)(ai:0<=d.next/\d.next<=1000000000):Cs 77 #[pt j,ii l,ii h,cv m n] e λb q=> b=.returned (.tuple #[])/\∃X S,TS q j X S hb Y (d.added l h m n g)/\Fr [j,i] e q/\(X=i\/e.heap.size<=X):=by
 have am:=a.lt;have au:=a.row.lt;have Zq:=a.held.lt;have ar:=a.ways.lt;have hz:=a.z;have hown:e.ownsRow 1 85 11 (.slice (so i) d.us.length R) d.us.length (d.us.flatMap U.cells):=by obtain⟨aa,hh,hs,ht⟩:=a.row.h;exact⟨pV _,.inr ⟨i,R,aa,rfl,hz.2.1,hh,a.row.le,a.row.cap,hs,ht⟩⟩
 have hn:e.cell? ⟨j,1,none⟩=some (ii d.next):=by have:=a.cell 1 qo;simpa[aK]using this
 have hv:=a.gv.c;refine(AJ j 1 d.next l h m n g r D J L M N O P Q s t u v w x y A B C E F H I _ d.us e hk ae am hn (a.fz 1) hv (a.fz 148) hown (by simp[Value.ownBlock];exact λb=>a.n1 b.symm) ag ai qo).mono ?_;rintro b q ⟨rfl,v',an,ah,aj,ab,af,ac,ad⟩;refine⟨rfl,?_⟩;obtain⟨V,S,ao,aq,ak⟩:=PRow.qW (us:=d.us++[bD d.next l h m n g]) aj qs qo;subst ao;have W:Fr [j,i] e q:=by simpa[Value.ownBlock]using af
 have p:V=i\/e.heap.size<=V:=by
  obtain f|⟨ap,f,o⟩:=ab
  ·simp[Value.ownBlock]at f;exact .inl f
  simp[Value.ownBlock]at f;subst f;exact .inr o
 have Zr:(d.us++[bD d.next l h m n g]).length=d.us.length+1:=qs;refine⟨V,S,⟨?_,?_,ak,?_,a.held.fr W ?_,a.ways.fr W ?_,?_,a.n2,a.n3,?_,?_,a.n6,?_⟩,W,p⟩
 ·intro k hj
  by_cases f:k=1
  ·subst f;rw[ah];simp[aK,T.added]
  by_cases o:k=148
  ·subst o;rw[an];simp[aK,T.added]
  rw[ac k f o,a.cell k hj];unfold aK T.added;grind
 ·intro k;rw[ad];exact a.fz k
 ·show(d.us++[bD d.next l h m n g]).length<=1000
  omega
 ·simp;exact⟨λb=>a.n2 b.symm,λb=>a.n4 b.symm⟩
 ·simp;exact⟨λb=>a.n3 b.symm,λb=>a.n5 b.symm⟩
 ·obtain b|b:=p
  ·rw[b];exact a.n1
  omega
 ·obtain b|b:=p
  ·rw[b];exact a.n4
  omega
 ·obtain b|b:=p
  ·rw[b];exact a.n5
  omega
 omega
def gB(a:Int):Int:=if a=2 then 5 else if a=3 then 8 else 0
def dE(a:Int):Int:=if a=1 then 40 else if a=2 then 8 else 12
def eF(b:T)(a:U):U×T:=
 if b.qK a.owner<gB a.tox then(a,b)
 else if 100<=b.us.length then(a,b)
 else if 1000000000<=b.next then(a,b)
 else match(aL a.x a.y).find? (λc=>cR (bN b.held) b.bd c.1 c.2)with
  |none=>(a,b)
  |some c=>(a.idle,T.added {b.qS a.owner (b.qK a.owner-gB a.tox)with held:=λd=>if d=c then some b.next else b.held d} a.owner a.tox c.1 c.2 (dE a.tox))
theorem TS.qS(f:TS w a b c d e t)(g h:Int)(l:g=0\/g=1):TS (w.setCell ⟨a,2+g.toNat,none⟩ (ii h)) a b c d e (t.qS g h):=by
 have i:Fr [a] w (w.setCell ⟨a,2+g.toNat,none⟩ (ii h)):=(r0 _ _).setCell _ _ qs;have k:(t.qS g h).us=t.us:=by grind[T.qS]
 have j:(t.qS g h).held=t.held:=by grind[T.qS]
 refine⟨?_,?_,?_,?_,?_,?_,f.n1,f.n2,f.n3,f.n4,f.n5,f.n6,f.z⟩
 ·grind[eA,TS.cell,aK,T.qS,cE,zG,zH]
 ·grind[World.frozen?_setCell,TS.fz]
 ·rw[k];exact f.row.fr i (by grind[TS.n1])
 ·grind[TS.len]
 ·rw[j];exact f.held.fr i (by grind[TS.n2])
 exact f.ways.fr i (by grind[TS.n3])
theorem TS.setHeld(f:TS w a b c d e t)(h:Fr [d] w x)(i:Cl->Option Int)(k:MapF x d (bN i)):TS x a b c d e {t with held:=i}:=
 {f with
  cell:=λg j=>by rw[h.cell a g f.lt (by simp;exact f.n2)];exact f.cell g j
  fz:=λg=>by rw[h.frozen a g f.lt (by simp;exact f.n2)];exact f.fz g
  row:=f.row.fr h (by simp;exact f.n4)
  held:=k
  ways:=f.ways.fr h (by grind[TS.n6])}
theorem BO(d j ak g p:Nat)(b:T)(a:U)(o f:Int)(P X Y a5 a6 a7 a8 a9 D E F H I J L M N O Q R V W:Value)(c:World)(hk:uH a.tox o (ii f) P X Y a5 a6 a7 a8 a9 D E F H I J L M N O Q R V W)(eg:rC o (ii f) P X Y a5 a6 a7 a8 a9 D E F H I J L M N O Q R V W)(hL:dE a.tox=o)(hC:gB a.tox=f)(r:TS c d j ak g p b)(es:Sd c)(dc:aE a.x a.y=true)(hown:a.owner=0\/a.owner=1)(ft:0<=b.next)(dl:0<=b.qK a.owner/\b.qK a.owner<=1000000000)(ec:0<=f/\f<=10)(dd:(#[ii o,ii f,P,X,Y,a5,a6,a7,a8,a9,D,E,F,H,I,J,L,M,N,O,Q,R,V,W]:Array Value).all (·.oneCell')=true):Cs 156 #[pt d,a.val] c λq e=> q=.returned (eF b a).1.val/\∃s ac,Fr [d,j,g,p] c e/\TS e d s ac g p (eF b a).2/\(s=j\/c.heap.size<=s):=by
 have hz:=r.z;have fh:=r.ways.lt;have fk:=r.held.lt;have gf:=r.lt;have fx:=r.row.lt;obtain⟨W2,af⟩:=nm ((c.alloc (.cells a.arr 85)).alloc (.cells zeroU.arr 85));have ga:W2.heap.size=c.heap.size+1+1:=by rw[af];simp
 have ea:Fr [] c W2:=by rw[af];exact((r0 _ _).alloc _).alloc _
 have hU:W2.heap[c.heap.size]?=some (.cells a.arr 85):=by rw[af,dW]
 have hR:W2.heap[c.heap.size+1]?=some (.cells zeroU.arr 85):=by rw[af,cZ]
 have KF:Fr [] W2 ((c.alloc (.cells a.arr 85)).alloc (.cells zeroU.arr 85)):=by rw[af];exact r0 _ _
 clear af;have HO:=aA dd;clear dd
 delta Cs;go_in
 go_wp2_with fail
 refine(hk _).mono ?_;rintro q w3 ⟨rfl,bn⟩
 go_wp2_with (refine Kq rfl 220 _ _ rfl w3.heap.size 0 #[ii o,ii f,P,X,Y,a5,a6,a7,a8,a9,D,E,F,H,I,J,L,M,N,O,Q,R,V,W] kz #[ii o,ii f,P,X,Y,a5,a6,a7,a8,a9,D,E,F,H,I,J,L,M,N,O,Q,R,V,W] 220 rfl rfl rfl iZ HO.o qs rfl ?_)
 have hl:c.heap.size+1<W2.heap.size:=qo;have ax:Fr [] W2 (w3.alloc (.cells #[ii o,ii f,P,X,Y,a5,a6,a7,a8,a9,D,E,F,H,I,J,L,M,N,O,Q,R,V,W] 220)):=(KF.qT bn).alloc _;have Zq:(w3.alloc (.cells #[ii o,ii f,P,X,Y,a5,a6,a7,a8,a9,D,E,F,H,I,J,L,M,N,O,Q,R,V,W] 220)).heap[w3.heap.size]?=some (.cells #[ii o,ii f,P,X,Y,a5,a6,a7,a8,a9,D,E,F,H,I,J,L,M,N,O,Q,R,V,W] 220):=aC _ _;have el:=Z1 hl (KF.qT bn).size;obtain⟨bj,hg⟩:=nm w3.heap.size;obtain⟨WG,cq⟩:=nm (w3.alloc (.cells #[ii o,ii f,P,X,Y,a5,a6,a7,a8,a9,D,E,F,H,I,J,L,M,N,O,Q,R,V,W] 220));rw[<-cq]at ax Zq |-;rw[<-hg]at Zq el |-;have cd:=ea.qT ax;have cb:=ax.qH hU;have dh:=ax.qH hR;have ai:=r.qF cd;have dk:=es.qF cd;have co:=aA dh;clear cq hg bn dh KF hU hR;have u1:ca WG c.heap.size 1 (ii a.owner):=aB cb;have kc1:ca WG bj 1 (ii f):=aB Zq;have c1:WG.cell? ⟨d,1,none⟩=some (ii b.next):=by have:=ai.cell 1 qo;simpa[aK]using this
 have dw:=ai.gv.c;have fo:=r.len;have az:WG.cell? ⟨d,2+a.owner.toNat,none⟩=some (ii (b.qK a.owner)):=by
  obtain A|A:=hown
  ·rw[A];have:=ai.cell 2 qo;simpa[aK,T.qK]using this
  rw[A];have:=ai.cell 3 qo;simpa[aK,T.qK]using this
 obtain⟨u,bv⟩:=nn (b.qK a.owner);rw[bv]at az dl;have au:=(show Hi _ from bv);have bf:=aA hC;have du:=aA hL;have fu:0<=a.owner:=by obtain A|A:=hown<;>omega
 have fw:a.owner<2:=by obtain A|A:=hown<;>omega
 clear bv hC hL;rw[show ∀cp:Act,cp.put none undef=cp from λ_=>rfl]
 go_cut [38] (fun fd wx=>fd=.bool (decide (u<f)||(decide (100<=b.us.length)||decide (1000000000<=b.next)))/\Fr [] WG wx)
 ·by_cases hA:u<f
  ·go_quiet (fail)
   go_wp2_with fail
   go_meet
   exact⟨by simp[hA],(r0 _ _).drewN _⟩
  by_cases hB:100<=b.us.length
  ·have eb:(100:Int)<=(b.us.length:Int):=qo
   go_quiet (fail)
   go_wp2_with fail
   go_meet
   exact⟨by simp[hB],(r0 _ _).drewN _⟩
  have eb:¬((100:Int)<=(b.us.length:Int)):=qo
  go_quiet (fail)
  go_wp2_with fail
  go_meet
  exact⟨by simp[hB];omega,(r0 _ _).drewN _⟩
 obtain⟨rfl,ag⟩:=hcut;have dr:=cd.qT ag;have be:=ag.qH cb;have ei:=ag.qH Zq;have dj:=ag.qH co.o;have Zs:=ai.qF ag;have et:=dk.qF ag;have bg:=aA dj;clear cb Zq ai dk dj co u1 kc1 c1 dw az;obtain⟨ds,hD⟩:=nn ((decide (u<f)||(decide (100<=b.us.length)||decide (1000000000<=b.next))));rw[hD];have HD:=aA hD;clear hD;cases ds
 ·have ew:∀m,wc.cell? ⟨c.heap.size,m,none⟩=a.arr[m]?:=λm=>aB be;obtain⟨p0,p1,p2,p3⟩:=bX.1 dc
  go_wp2_with (first|(refine wpList_load_row rfl 85 _ rfl c.heap.size rfl 85 a.arr (0,0) _ be Q3 rfl aS ?_)|(go_at_call 192;refine(iH a _).mono ?_;rintro q w4 ⟨rfl,cr⟩)|(go_at_call 198;refine(wZ a.x a.y _ (et.qF cr) qo qo qo qo).mono ?_;rintro q w5 ⟨nv,rfl,ee,da⟩;obtain⟨gn,dx,ep,fi,fj⟩:=qW da (wY a.x a.y dc);subst ep))
  have ed:=cr.qT ee;have fs:=wX a.x a.y;clear ew
  go_loopw [44] (fun ce wr=>∃B:Nat,ce=ii B/\B<=(aL a.x a.y).length/\(∀m l,m<B->(aL a.x a.y)[m]?=some l->cR (bN b.held) b.bd l.1 l.2=false)/\Fr [] w5 wr) (fun ce _=>4-(intOf ce).toNat)
  ·exact⟨0,rfl,Z3 _,λm l hj=>by omega,r0 _ _⟩
  obtain⟨B,rfl,fq,cy,bp⟩:=hrel;have aq:=ed.qT bp;have dq:=dr.qT aq;have cc:=aq.qH be;have br:=aq.qH ei;have di:=aq.qH bg.o;have ab:=Zs.qF aq;have db:=cM da bp qs;have aj:=aA di;have Zr:=aA cy;clear di cy
  by_cases cw:B<(aL a.x a.y).length
  ·obtain⟨⟨h,i⟩,hn⟩:∃l,(aL a.x a.y)[B]?=some l:=⟨(aL a.x a.y)[B],Y2 cw⟩;obtain⟨dz,dy,ay,_,n0,n1⟩:=nX db rfl hn;obtain⟨rfl,rfl⟩:dz=gn/\dy=dx:=by simp at ay;exact⟨ay.1.symm,ay.2.symm⟩
   have eo:aE h i=true:=nL a.x a.y (h,i) (Q8 hn);obtain⟨dt,hF⟩:=nn (cR (bN b.held) b.bd h i);have HF:=aA hF;have HN:=aA hn;have bk:∀cf,Fr [] wr (wr.alloc cf):=λcf=>(r0 _ _).alloc cf;clear ay hF hn
   go_wp2_with fail
   refine(vV d g (bN b.held) b.bd h i _ (ab.qF (bk _)).tv eo).mono ?_;rintro q w6 ⟨rfl,bo⟩;rw[HF.o];have ad:=(bk _).qT bo;have bl:=bo.qH (aC wr _);cases dt
   ·go_wp2;go_roundw
    ·refine⟨B+1,by go_num,cw,fun m l hj hc=>?_,bp.qT ad⟩;obtain h1|h1:=Zx0 m B
     ·exact Zr.o m l h1 hc
     have:m=B:=qo;subst this;rw[HN.o]at hc;cases hc;exact HF.o
    simp[intOf];omega
   obtain⟨k,ar⟩:=nm wr.heap.size;rw[<-ar]at bl |-;have fl:c.heap.size+1<k:=by rw[ar];exact aH aj.o
   have fm:bj<k:=by rw[ar];exact aH br
   have fn:d<k/\j<k/\g<k/\p<k:=by rw[ar];exact⟨ab.lt,ab.row.lt,ab.held.lt,ab.ways.lt⟩
   have ah:=ab.qF ad;have bz:=ad.qH cc;have bq:=ad.qH br;have df:=ad.qH aj.o;have fa:=dq.qT ad;have ev:=ah.lt;have cj:=aA df;have C:Hi (eF b a=(a.idle,T.added {b.qS a.owner (u-f)with held:=λt=>if t=(h,i)then some b.next else b.held t} a.owner a.tox h i o)):=by
    have n:=HD.o;simp only[Bool.or_eq_false_iff,decide_eq_false_iff_not]at n;have ef:(aL a.x a.y).find? (λl=>cR (bN b.held) b.bd l.1 l.2)=some (h,i):=by obtain⟨ej,ek⟩:=gs.1 HN.o;rw[Y1];exact⟨HF.o,B,ej,ek,λm hj=>by rw[Zr.o m _ hj (Y2 qo)];rfl⟩
    show _=_
    unfold eF;rw[au.o,bf.o,du.o,Z0 n.1,Z0 n.2.1,Z0 n.2.2,ef]
   clear aj Zr HN HF db df cc br ar bk ad bo n0 n1;have u1:ca w6 c.heap.size 1 (ii a.owner):=aB bz;have kc1:ca w6 bj 1 (ii f):=aB bq;have az:w6.cell? ⟨d,2+a.owner.toNat,none⟩=some (ii u):=by
    rw[<-au.o];obtain A|A:=hown
    ·rw[A];have:=ah.cell 2 qo;simpa[aK,T.qK]using this
    rw[A];have:=ah.cell 3 qo;simpa[aK,T.qK]using this
   have eu:=ah.fz (2+a.owner.toNat);obtain⟨gb,gd⟩:=dl;obtain⟨ff,fg⟩:=ec;go_wp2
   go_cut [] (fun wx=>Fr [d] w6 wx/\TS wx d j ak g p (b.qS a.owner (u-f)))
   ·go_region
    go_wp2_with fail
    go_meet
    exact⟨((r0 _ _).drew).setCell _ _ qs,(ah.qF ((r0 [] w6).drew)).qS a.owner (u-f) hown⟩
   obtain⟨ao,aa⟩:=hcut;have bs:(b.qS a.owner (u-f)).next=b.next:=by unfold T.qS;split<;>rfl
   have Zt:(b.qS a.owner (u-f)).us=b.us:=by unfold T.qS;split<;>rfl
   have cu:(b.qS a.owner (u-f)).held=b.held:=by unfold T.qS;split<;>rfl
   obtain⟨t7,dm⟩:=nn (b.qS a.owner (u-f));rw[dm]at aa bs Zt cu;rw[dm]at C;have av:=ao.heap bl qt;have dn:=ao.heap bz qt;have eh:=ao.heap bq qt;have eq:=ao.heap cj.o qt;have fb:=(fa.qO (S:=[d])).trans ao qs;have ck:=aA eq;have c1:wc.cell? ⟨d,1,none⟩=some (ii b.next):=by rw[<-bs];have:=aa.cell 1 qo;simpa[aK]using this
   have bi:=aa.tv.c;obtain⟨w,ey,cx,ct,ge⟩:=mV (aa.held.fr ((r0 [] wc).drew) qs) 205 3 j9 h i (ii b.next);have ae:=((r0 [g] wc).drew).trans ct qs;have em:MapF w g (bN (λt=>if t=(h,i)then some b.next else b.held t)):=by
    refine cx.of_eq ?_;intro t
    show _=Option.map _ (if t=(h,i)then some b.next else b.held t)
    rw[cu]
    by_cases hk:t=(h,i)
    ·rw[Q7 hk,Q7 hk];rfl
    rw[Z0 hk,Z0 hk]
   have K3:(λe:World=>ca e k 0 (ii h)/\ca e k 1 (ii i)/\ca e d 149 (.map (some g))/\ca e d 1 (ii b.next)) wc.drew:=⟨aB (show wc.drew.heap[k]?=_ from av),aB (show wc.drew.heap[k]?=_ from av),bi,c1⟩;have aw:=ae.heap av qt;have K4:(λe:World=>ca e k 0 (ii h)/\ca e k 1 (ii i)/\ca e d 149 (.map (some g))/\ca e d 1 (ii b.next)) w:=⟨aB aw,aB aw,(ae.cell d 149 aa.lt (by simp;exact aa.n2)).trans bi,(ae.cell d 1 aa.lt (by simp;exact aa.n2)).trans c1⟩;have bw:=aa.setHeld ae _ em;clear bl bz bq u1 kc1 az eu ah Zs ab ev;go_wp2
   go_cut [] (fun wx=>w=wx)
   ·go_region_held (fun e:World=>ca e k 0 (ii h)/\ca e k 1 (ii i)/\ca e d 149 (.map (some g))/\ca e d 1 (ii b.next))
     (first|exact K3|exact K4)
     (fail)
    all_goals
     go_wp2_with fail
     go_meet
     rfl
   obtain rfl:=hcut;have bc:=ae.heap dn qt;have bu:=ae.heap ck.o qt;have dp:=(fb.mono (S':=[d,g]) qs).trans ae qs;have cn:=aA bu;have er:=bu;have u1:ca w c.heap.size 1 (ii a.owner):=aB bc;have gh:ca w c.heap.size 8 (ii a.tox):=aB bc;have q0:=K4.1;have q1:=K4.2.1;have gg:=bw.lt;have bh:∀e,Fr [d,j] w e->(λe:World=>ca e k 0 (ii h)/\ca e k 1 (ii i)/\ca e c.heap.size 1 (ii a.owner)/\ca e c.heap.size 8 (ii a.tox)) e:=λe hf=>by have h1:=hf.heap bc qt;have h2:=hf.heap aw qt;exact⟨aB h2,aB h2,aB h1,aB h1⟩
   have K9:=bh w.drew ((r0 _ _).drew);have fp:b.us.length<100/\b.next<1000000000:=by have n:=HD.o;simp only[Bool.or_eq_false_iff,decide_eq_false_iff_not]at n;omega
   obtain⟨t8,bx⟩:∃t8,({t7 with held:=λt=>if t=(h,i)then some b.next else b.held t}:T)=t8:=⟨_,rfl⟩;have en:t8.next=b.next:=by rw[<-bx];exact bs
   have ez:t8.us=b.us:=by rw[<-bx];exact Zt
   rw[bx]at bw C;have cg:=QG d j ak g p t8 a.owner a.tox h i o (ii f) P X Y a5 a6 a7 a8 a9 D E F H I J L M N O Q R V W w.drew (bw.qF ((r0 [] w).drew)) hk eg (by rw[ez];omega) (by rw[en];omega);clear K3 K4 ey cx ct c1 bi dn eh av aw ck cj;go_wp2
   go_cut [] (fun wx=>∃s ac,TS wx d s ac g p (t8.added a.owner a.tox h i o)/\Fr [d,j] w wx/\(s=j\/w.heap.size<=s))
   ·go_region_held (fun e:World=>ca e k 0 (ii h)/\ca e k 1 (ii i)/\ca e c.heap.size 1 (ii a.owner)/\ca e c.heap.size 8 (ii a.tox))
     (first|with_reducible exact K9|with_reducible exact bh _ cs)
     (first|(go_at_call 77;refine cg.mono ?_;rintro q w9 ⟨rfl,s,ac,ba,ap,bt⟩;have cs:Fr [d,j] w w9:=Fr.trans ((r0 _ _).drew) ap qs))
    all_goals
     go_wp2_with fail
     go_meet
     exact⟨s,ac,ba,cs,bt⟩
   obtain⟨s,ac,ba,ap,bt⟩:=hcut;have ex:=ap.heap bc qt;have dg:=ap.heap cn.o qt;have fc:=(dp.mono (S':=[d,j,g,p]) qs).trans ap qs;have dv:=aA dg;have fy:=ba.row.lt;clear bh K9 cg dg bu cn
   go_wp2_with (first|(refine wpList_load_row rfl 85 _ rfl c.heap.size rfl 85 a.arr (0,0) _ ex Q3 rfl aS ?_)|(go_at_call 200;refine(sG a _).mono ?_;rintro q fe ⟨rfl,bm⟩;have de:=bm.qH dv.o;have ch:=(aA de);clear de)|(refine wpList_store_row rfl 85 _ _ rfl (c.heap.size+1) a.idle.arr rfl rfl 85 _ ch.o aS rfl (U.one _) ?_))
   have an:Fr [d,j,g,p] c (fe.setRow (c.heap.size+1) a.idle.arr):=(fc.qT bm).setRow _ _ (.inr qo);have h1:=dp.size;have h2:=aH er;have h3:s=j\/c.heap.size+1<s:=by obtain q|q:=bt;exact .inl q;exact .inr qo
   refine Zq8 (v:=a.idle.val) (Zz8 results156 _ _ (c.heap.size+1) 85 a.idle.arr (0,0) _ rfl (Qz4 _ _ _ a.idle.arr _ _ ch.o) Q3 rfl aS) rfl ⟨?_,s,ac,an,?_,by obtain q|q:=h3;exact .inl q;exact .inr qo⟩
   ·rw[C.o]
   rw[C.o];exact(ba.qF bm).fr ((r0 [c.heap.size+1] _).setRow _ _ qs) qt qt qt qt
  have cz:(aL a.x a.y).find? (λl=>cR (bN b.held) b.bd l.1 l.2)=none:=by rw[find?_eq_none];intro l hc;obtain⟨m,hj,rfl⟩:=mem_iff_getElem.1 hc;rw[Zr.o m _ qo (Y2 hj)];simp
  have am:eF b a=(a,b):=by have n:=HD.o;simp only[Bool.or_eq_false_iff,decide_eq_false_iff_not]at n;unfold eF;rw[au.o,bf.o,Z0 n.1,Z0 n.2.1,Z0 n.2.2,cz]
  have C:=aA am;clear am cz
  go_wp2_with (first|(refine wpList_load_row rfl 85 _ rfl c.heap.size rfl 85 a.arr (0,0) _ cc Q3 rfl aS ?_)|(refine wpList_store_row rfl 85 _ _ rfl (c.heap.size+1) a.arr rfl rfl 85 _ aj.o aS rfl (U.one _) ?_))
  have an:Fr [d,j,g,p] c (wr.setRow (c.heap.size+1) a.arr):=(dq.qO (S:=[d,j,g,p])).setRow _ _ (.inr qo);refine Zq8 (v:=a.val) (Zz8 results156 _ _ (c.heap.size+1) 85 a.arr (0,0) _ rfl (Qz4 _ _ _ a.arr _ _ aj.o) Q3 rfl aS) rfl ⟨?_,j,ak,an,?_,.inl rfl⟩
  ·rw[C.o]
  rw[C.o];exact ab.fr ((r0 [c.heap.size+1] _).setRow _ _ qs) qt qt qt qt
 have am:eF b a=(a,b):=by
  have n:=HD.o;simp only[Bool.or_eq_true,decide_eq_true_eq]at n;unfold eF;rw[au.o,bf.o]
  by_cases hA:u<f
  ·rw[Q7 hA]
  rw[Z0 hA]
  by_cases hB:100<=b.us.length
  ·rw[Q7 hB]
  rw[Z0 hB,Q7 (by obtain r|r|r:=n;exact absurd r hA;exact absurd r hB;exact r)]
 have C:=aA am;clear am
 go_wp2_with (first|(refine wpList_load_row rfl 85 _ rfl c.heap.size rfl 85 a.arr (0,0) _ be Q3 rfl aS ?_)|(refine wpList_store_row rfl 85 _ _ rfl (c.heap.size+1) a.arr rfl rfl 85 _ bg.o aS rfl (U.one _) ?_))
 have an:Fr [d,j,g,p] c (wc.setRow (c.heap.size+1) a.arr):=(dr.qO (S:=[d,j,g,p])).setRow _ _ (.inr qo);refine Zq8 (v:=a.val) (Zz8 results156 _ _ (c.heap.size+1) 85 a.arr (0,0) _ rfl (Qz4 _ _ _ a.arr _ _ bg.o) Q3 rfl aS) rfl ⟨?_,j,ak,an,?_,.inl rfl⟩
 ·rw[C.o]
 rw[C.o];exact Zs.fr ((r0 [c.heap.size+1] _).setRow _ _ qs) qt qt qt qt
variable {g h:Cl} {E F:Cl->Bool} {n p:Int}
theorem uS{free ends:Cl->Bool}{a:Cl}{i:Nat}{cur:Cl}:∀(h:List Cl) (b:Bs),(∀e c,b.g e=some c->c∈aL a.1 a.2/\free c=true)->(0<i->(b.g cur).isSome=true)->(i=0->∀d∈h,d∈aL a.1 a.2) ->(∀c,bR free ends i cur h b=.inl c->c∈aL a.1 a.2/\free c=true) /\(∀j,bR free ends i cur h b=.inr j->(∀e c,j.g e=some c->c∈aL a.1 a.2/\free c=true)/\(∃f,j.q=b.q++f/\∀d∈f,(j.g d).isSome=true)/\∀e,(b.g e).isSome=true->(j.g e).isSome=true)
 |[],b,l,_,_=>by unfold bR;refine⟨qg,λj k=>?_⟩;cases k;exact⟨l,qa,λ_ k=>k⟩
 |d::h,b,l,o,n=>by
  unfold bR;have t:free d=true->(if 0<i then(b.g cur).getD (0,0)else d)∈aL a.1 a.2/\free (if 0<i then(b.g cur).getD (0,0)else d)=true:=by grind[Option.isSome_iff_exists]
  split
  ·exact uS h b l o (λm f p=>n m f qg)
  rename_i r
  have s:free d=true:=by grind
  split
  ·grind
  have u:=uS (free:=free) (ends:=ends) (a:=a) (i:=i) (cur:=cur) h ⟨b.q++[d],λe=>if e=d then some (if 0<i then(b.g cur).getD (0,0)else d)else b.g e⟩
   qg
   qg
   (λm f p=>n m f qg)
  grind
theorem BA:∀(fuel b:Nat) (a:Bs),(∀m c,a.g m=some c->c∈aL h.1 h.2/\F c=true)->(∀e c,0<e->a.q[e]?=some c->(a.g c).isSome=true)->a.q[0]?=some h ->eG F E h fuel b a=h\/(eG F E h fuel b a∈aL h.1 h.2/\F (eG F E h fuel b a)=true)
 |0,b,a,_,_,_=>by grind[eG]
 |fuel+1,b,a,i,n,o=>by
  unfold eG;cases s:a.q[b]? with
  |none=>grind
  |some d=>
   dsimp only;have j:=uS (free:=F) (ends:=E) (a:=h) (i:=b) (cur:=d) (aL d.1 d.2) a i qg qg;cases k:bR F E b d (aL d.1 d.2) a with
   |inl c=>grind
   |inr f=>
    obtain⟨l,⟨w,t,u⟩,v⟩:=j.2 f k;refine BA fuel (b+1) f l (λe c r p=>?_) ?_
    ·grind[getElem?_append_left]
    grind
theorem QZ(b c:Cl->Bool)(a:Cl):dU b c a=a\/(dU b c a∈aL a.1 a.2/\b (dU b c a)=true):=by
 unfold dU;refine BA 146 0 _ (λh f d=>by cases d) (λe f g d=>?_) rfl;cases e with
 |zero=>omega
 |succ e=>simp at d
theorem JC(a:g∈aL n p):aE g.1 g.2=true/\(g.1-n)*(g.1-n)+(g.2-p)*(g.2-p)=1:=by refine⟨nL n p g a,?_⟩;have b:=(p9.1 a).1;grind[sds]
variable {D:U}
theorem qD{f j:Type}(b:f->j):∀(a:List f) (e:Nat) (c d:f),a[e]?=some c->b d=b c->(a.set e d).map b=a.map b
 |[],_,_,_,h,_=>by grind
 |i::a,0,c,d,h,g=>by grind
 |i::a,e+1,c,d,h,g=>by simpa using qD b a e c d qg g
theorem yL{e:Type}:∀(a:List e) (c:Nat) (b:e),a[c]?=some b->a.set c b=a
 |[],_,_,d=>by grind
 |f::a,0,b,d=>by grind
 |f::a,c+1,b,d=>by simpa using yL a c b qg
theorem mN{f:Type}{d:List f}{e b:f}(g:b∈d.set a e):b=e\/∃c,c≠a/\d[c]?=some b:=by grind[getElem?_of_mem]
theorem IY{d:Type}{b:List d}{e c:d}(f:b[a]?=some e):c∈b.set a c:=by grind[getElem?_set_self]
theorem IZ{e:Type}{c:List e}{f d:e}(g:c[b]?=some d)(h:b≠a):d∈c.set a f:=
  Q8 (i:=b) qg
theorem zB(b:U->Int):∀(a:List U) (e:Nat) (c d:U),a[e]?=some c->((a.set e d).map b).sum=(a.map b).sum-b c+b d
 |[],_,_,_,f=>by grind
 |g::a,0,c,d,f=>by grind
 |g::a,e+1,c,d,f=>by have:=zB b a e c d qg;grind
theorem OI(c:U->Int):∀(a:List U) (d:Nat) (b:U),a[d]?=some b->((a.eraseIdx d).map c).sum=(a.map c).sum-c b
 |[],_,_,e=>by grind
 |f::a,0,b,e=>by grind
 |f::a,d+1,b,e=>by have:=OI c a d b qg;grind
theorem vE(d:U->Bool):∀(a:List U) (c:Nat) (b:U),a[c]?=some b->(a.eraseIdx c).countP d+(if d b then 1 else 0)=a.countP d
 |[],_,_,e=>by grind
 |f::a,0,b,e=>by grind
 |f::a,c+1,b,e=>by have:=vE d a c b qg;grind
theorem mL(a:U->Bool)(b:List U)(c:Nat)(d e:U)(g:b[c]?=some d)(f:a e=a d):(b.set c e).countP a=b.countP a:=by grind
theorem OJ(c:Nat->Int)(b:Nat)(d:Int):∀a,b<a->((range a).map λe=>if e=b then d else c e).sum=((range a).map c).sum-c b+d
 |0,g=>by omega
 |a+1,g=>by
  rw[range_succ,Qx9,Qx9,sum_append,sum_append]
  by_cases f:b<a
  ·rw[OJ c b d a f];grind
  grind[map_congr_left]
def kH(a:U):Prop:=a.what=0\/(a.what=1/\(a.kind=2\/a.kind=3))\/(a.what=2/\a.kind=2/\aE a.tox a.toy=true)\/(a.what=3/\a.kind=3)\/(a.what=4/\a.kind=1/\(a.tox=2\/a.tox=3))
structure UOk (bd:Nat->Int) (held:Cl->Option Int) (next:Int) (u:U):Prop where
 on:aE u.x u.y=true
 gr:bd (ci u.x u.y)=0
 hd:held (u.x,u.y)=some u.id
 ow:u.owner=0\/u.owner=1
 kd:u.kind=1\/u.kind=2\/u.kind=3
 lf:1<=u.life/\u.life<=dE u.kind
 ld:0<=u.load/\u.load<=5/\(0<u.load->u.kind=2)
 id:1<=u.id/\u.id<next
 od:kH u
structure TOk (t:T):Prop where
 rise:Rise t.us
 all:∀u∈t.us,UOk t.bd t.held t.next u
 hel:∀c i,t.held c=some i->∃u∈t.us,u.id=i/\(u.x,u.y)=c
 nx:1<=t.next/\t.next<=1000000000
 st:(0<=t.s0/\t.s0<=1000000000)/\(0<=t.s1/\t.s1<=1000000000)
 bd:∀i,i<144->0<=t.bd i/\t.bd i<=10
 len:t.us.length<=100
 b0:t.us.countP (aG 0)<=1
 b1:t.us.countP (aG 1)<=1
 bs:1<=t.us.countP (aG 0)+t.us.countP (aG 1)
def nP(a:Nat->Int)(b:Nat):Int:=if a b<10 then a b else 0
def nQ(a:Nat->Int):Int:=((range 144).map (nP a)).sum
def worth(a:U):Int:=a.load+gB a.kind
def mX(a:T):Int:=a.s0+a.s1+nQ a.bd+(a.us.map worth).sum
theorem tP:Rise X↔(X.map U.id).Pairwise (· < ·):=by grind[Rise]
theorem Rise.set(c:Rise X)(d:X[a]?=some C)(b:D.id=C.id):Rise (X.set a D):=by grind[tP,qD]
theorem Rise.ne(d:Rise X)(e:X[a]?=some C)(f:X[b]?=some D)(g:a≠b):C.id≠D.id:=by
 obtain c|c:=Nat.lt_or_gt_of_ne g
 ·have:=d.lt e f c;omega
 have:=d.lt f e c;omega
theorem Cd(a:List U):bP a=false↔1<=a.countP (aG 0)/\1<=a.countP (aG 1):=by grind[cK,aG,find?_isSome,countP_pos_iff,bP]
theorem GU(a:Int):dE a<=40:=by grind[dE]
theorem TOk.put{t':T}(c:TOk t){i:Nat}{u':U}(A:t.us[i]?=some C)(q:t'.us=t.us.set i u')(e:t'.held=t.held)(f:t'.next=t.next)(o:(0<=t'.s0/\t'.s0<=1000000000)/\(0<=t'.s1/\t'.s1<=1000000000))(j:∀a,a<144->0<=t'.bd a/\t'.bd a<=10)(h:∀a,t.bd a=0->t'.bd a=0)(g:u'.id=C.id)(u:u'.owner=C.owner)(v:u'.kind=C.kind)(w:u'.x=C.x)(z:u'.y=C.y)(l:1<=u'.life/\u'.life<=dE u'.kind)(m:0<=u'.load/\u'.load<=5/\(0<u'.load->u'.kind=2))(n:kH u'):TOk t':=by
 have p:=c.all C qg;have B:∀d,aG d u'=aG d C:=λd=>by grind[aG]
 refine⟨?_,?_,?_,?_,o,j,?_,?_,?_,?_⟩
 ·grind[Rise.set,TOk.rise]
 ·intro r b;rw[q]at b;rw[e,f];obtain rfl|⟨E,_,D⟩:=mN b
  ·exact⟨by grind[UOk.on],by grind[UOk.gr],by grind[UOk.hd],by grind[UOk.ow],by grind[UOk.kd],l,m,by rw[g];exact p.id,n⟩
  have b:=c.all r qg;exact{b with gr:=h _ b.gr}
 ·intro s a k;rw[e]at k;grind[TOk.hel,getElem?_of_mem,IY,IZ]
 ·rw[f];exact c.nx
 ·grind[TOk.len]
 ·grind[TOk.b0]
 ·grind[TOk.b1]
 simp_all[mL,TOk.bs]
theorem TOk.go(c:TOk t)(f:t.us[a]?=some C)(b:Cl)(h:aE b.1 b.2=true)(i:t.bd (ci b.1 b.2)=0)(r:t.held b=none):TOk {t.qM C b with us:=t.us.set a (C.to b)}:=by
 have m:=c.all C qg;have s:∀e,aG e (C.to b)=aG e C:=λe=>rfl;have q:(C.x,C.y)≠b:=λo=>by grind[UOk.hd]
 refine⟨c.rise.set f rfl,?_,?_,c.nx,c.st,c.bd,?_,?_,?_,?_⟩
 ·intro n d;obtain rfl|⟨v,l,j⟩:=mN d
  ·exact{m with on:=h,gr:=i,hd:=by simp}
  have d:=c.all n qg;have u:=c.rise.ne j f l;refine{d with hd:=?_};grind[UOk.hd]
 ·intro g w k;dsimp only at k
  by_cases p:g=b
  ·grind[IY]
  grind[TOk.hel,getElem?_of_mem,IZ]
 ·grind[TOk.len]
 ·grind[TOk.b0]
 ·grind[TOk.b1]
 simp_all[mL,TOk.bs]
theorem TOk.gone(b:TOk t)(c:t.us[a]?=some C)(h:bP t.us=false):TOk {t with us:=t.us.eraseIdx a,held:=λe=>if e=(C.x,C.y)then none else t.held e}:=by
 have p:=b.all C qg;have j:=vE (aG 0) _ _ _ c;have k:=vE (aG 1) _ _ _ c;have n:=(Cd _).1 h;have l:=b.b0;have m:=b.b1;refine⟨Pairwise.sublist qg b.rise,?_,?_,b.nx,b.st,b.bd,?_,?_,?_,?_⟩
 ·intro i d;obtain⟨e,g,f⟩:=Zx2.1 d;have d:=b.all i qg;have o:=b.rise.ne f c g;refine{d with hd:=?_};grind[UOk.hd]
 ·grind[TOk.hel,getElem?_of_mem,mem_eraseIdx_iff_getElem?]
 ·grind[TOk.len]
 ·grind
 ·grind
 grind[aG]
theorem TOk.new(d:TOk t)(f c:Int)(a:Cl)(g h:Int)(m:aE a.1 a.2=true)(o:t.bd (ci a.1 a.2)=0)(w:t.held a=none)(q:f=0\/f=1)(p:c=2\/c=3)(x:t.us.length<100)(A:t.next<1000000000)(r:(0<=g/\g<=1000000000)/\(0<=h/\h<=1000000000)):TOk {t with s0:=g,s1:=h,us:=t.us++[bD t.next f c a.1 a.2 (dE c)],next:=t.next+1,held:=λe=>if e=a then some t.next else t.held e}:=by
 have z:∀j,aG j (bD t.next f c a.1 a.2 (dE c))=false:=λj=>by grind[aG]
 have y:=d.nx;refine⟨?_,?_,?_,?_,r,d.bd,?_,?_,?_,?_⟩
 ·show Rise (t.us++[_])
  unfold Rise;rw[pairwise_append];refine⟨d.rise,by simp,λk l u i=>?_⟩;simp at i;subst i;exact(d.all k l).id.2
 ·intro s b;dsimp only at b |-;obtain b|b:=m5.1 b
  ·have b:=d.all s b;refine{b with hd:=?_,id:=⟨b.id.1,by have:=b.id.2;omega⟩};grind[UOk.hd]
  simp at b;subst b;refine⟨m,o,by simp,q,.inr p,?_,by simp,qg,.inl rfl⟩;grind[dE]
 ·intro e B n;dsimp only at n |-
  by_cases v:e=a
  ·simp_all
  grind[TOk.hel]
 ·grind
 ·grind
 ·grind[TOk.b0]
 ·grind[TOk.b1]
 simp_all[countP_append,TOk.bs]
def cY(a:T)(b:U):T:=match bI a.us b.id with|some c=>{a with us:=a.us.set c b}|none=>a
def dJ(b:T)(a:U):U×T:=if a.what=1 then gI b a else if a.what=2 then eR b a else if a.what=3 then fI b a else if a.what=4 then eF b a else(a,b)
def eS(a:T)(b:U):T:=cY (dJ a b).2 (dJ a b).1
structure Near1 (P:Int->Prop) (v v':U):Prop where
 id:v'.id=v.id
 kind:v'.kind=v.kind
 owner:v'.owner=v.owner
 life:v'.life<=v.life
 near:(v'.x-v.x)*(v'.x-v.x)+(v'.y-v.y)*(v'.y-v.y)<=1
 stay:¬P v.id->v'.x=v.x/\v'.y=v.y
theorem Near1.same(b:Int->Prop)(a:U):Near1 b a a:=⟨rfl,rfl,rfl,Zx3 _,by simp,qo⟩
structure Good (t:T) (P:Int->Prop) (t':T):Prop where
 ok:TOk t'
 nx:t.next<=t'.next
 rel:∀v'∈t'.us,t.next<=v'.id\/∃v∈t.us,Near1 P v v'
 we:mX t'<=mX t
 tn:t'.turn=t.turn
theorem Good.refl(b:TOk t)(a:Int->Prop):Good t a t:=⟨b,Zx3 _,(by grind[Near1.same]),Zx3 _,rfl⟩
theorem kW{t:T}{u u':U}(d:Rise t.us)(c:t.us[a]?=some u)(b:u'.id=u.id):cY t u'={t with us:=t.us.set a u'}:=by unfold cY;rw[xW d c b.symm]
theorem lW{t:T}{u:U}(c:Rise t.us)(b:t.us[a]?=some u):cY t u=t:=by rw[kW c b rfl,yL _ _ _ b]
theorem Good.put{t':T}(f:TOk t){i:Nat}{u':U}(g:t.us[i]?=some C)(k:Int->Prop)(h:t'.us=t.us.set i u')(p:t'.held=t.held)(r:t'.next=t.next)(v:t'.turn=t.turn)(u:(0<=t'.s0/\t'.s0<=1000000000)/\(0<=t'.s1/\t'.s1<=1000000000))(o:∀a,a<144->0<=t'.bd a/\t'.bd a<=10)(n:∀a,t.bd a=0->t'.bd a=0)(d:u'.id=C.id)(e:u'.owner=C.owner)(b:u'.kind=C.kind)(l:u'.x=C.x)(m:u'.y=C.y)(c:1<=u'.life/\u'.life<=C.life)(q:0<=u'.load/\u'.load<=5/\(0<u'.load->u'.kind=2))(s:kH u')(A:t'.s0+t'.s1+nQ t'.bd+u'.load<=t.s0+t.s1+nQ t.bd+C.load):Good t k t':=by
 have w:=f.all C qg;refine⟨f.put g h p r u o n d e b l m ⟨c.1,by rw[b];exact Zx4 c.2 w.lf.2⟩ q s,by omega,?_,?_,v⟩
 ·intro D j;rw[h]at j;obtain rfl|⟨B,_,z⟩:=mN j
  ·exact .inr ⟨C,Q8 g,d,b,e,c.2,by simp_all,qo⟩
  grind[Near1.same]
 grind[mX,zB,worth,gB]
theorem EX(a:cR (bN t.held) t.bd g.1 g.2=true):t.held g=none/\t.bd (ci g.1 g.2)=0:=by simp_all[cR,bN]
theorem Good.go(e:TOk t)(d:t.us[a]?=some C)(b:Cl->Bool):Good t (·=C.id) (cY (t.qM C (dB t C b)) (C.to (dB t C b))):=by
 have s:=e.all C qg;rcases QZ (λc=>cR (bN t.held) t.bd c.1 c.2) b (C.x,C.y)with i|⟨f,g⟩
 ·have j:dB t C b=(C.x,C.y):=i;rw[j,lW (t:=t.qM C (C.x,C.y)) (u:=C.to (C.x,C.y)) e.rise d];have:t.qM C (C.x,C.y)=t:=by
   have n:(λh=>if h=(C.x,C.y)then some C.id else if h=(C.x,C.y)then none else t.held h)=t.held:=by grind[UOk.hd]
   show{t with held:=_}=t
   rw[n]
  grind[Good.refl]
 have f:dB t C b∈aL C.x C.y:=f;have g:cR (bN t.held) t.bd (dB t C b).1 (dB t C b).2=true:=g;obtain⟨c,m⟩:=nn (dB t C b);rw[m]at f g |-;obtain⟨k,l⟩:=EX g;obtain⟨p,v⟩:=JC f;rw[kW (t:=t.qM C c) (u:=C) (u':=C.to c) e.rise d rfl];refine⟨e.go d c p l k,Zx3 _,?_,?_,rfl⟩
 ·intro w o;obtain rfl|⟨u,r,q⟩:=mN o
  ·exact .inr ⟨C,Q8 d,rfl,rfl,rfl,Zx3 _,by grind,qo⟩
  grind[Near1.same]
 unfold mX;dsimp only;rw[zB worth _ a C _ d];grind[worth]
theorem Good.same(c:TOk t)(f:t.us[a]?=some C)(b:U)(d:b.id=C.id)(h:b.owner=C.owner)(e:b.kind=C.kind)(i:b.x=C.x)(j:b.y=C.y)(k:b.life=C.life)(l:b.load=C.load)(m:kH b):Good t (·=C.id) (cY t b):=by have g:=c.all C qg;rw[kW c.rise f d];exact Good.put c f (·=C.id) (u':=b) rfl rfl rfl rfl c.st c.bd qg d h e i j (by rw[k];exact⟨g.lf.1,Zx3 _⟩) (by rw[l,e];exact g.ld) m qg
theorem Good.idle(b:TOk t)(c:t.us[a]?=some C):Good t (·=C.id) (cY t C.idle):=Good.same b c C.idle rfl rfl rfl rfl rfl rfl rfl (.inl rfl)
theorem Good.stay(b:TOk t)(c:t.us[a]?=some C):Good t (·=C.id) (cY t C):=by grind[lW,TOk.rise,Good.refl]
theorem QA(b:TOk t)(c:t.us[a]?=some C):Good t (·=C.id) (cY (gI t C).2 (gI t C).1):=by grind[gI,Good.idle,Good.go]
theorem PU(c:TOk t)(e:t.us[a]?=some C):Good t (·=C.id) (cY (fH t C).2 (fH t C).1):=by
 have d:=c.all C qg;have k:=c.st;have i:=d.ld;unfold fH
 split
 ·exact Good.stay c e
 split
 ·have f:∀g b,(t.qS g b).us=t.us:=λg b=>by grind[T.qS]
  dsimp only;rw[kW (t:=t.qS C.owner _) (u:=C) (u':={C with load:=0}) (by grind[TOk.rise]) (by rw[f];exact e) rfl,f];obtain h|h:=d.ow
  ·rw[show t.qS C.owner=λb=>{t with s0:=b}from funext λb=>by grind[T.qS],show t.qK C.owner=t.s0 by grind[T.qK]];dsimp only;refine Good.put c e (·=C.id) (u':={C with load:=0}) rfl rfl rfl rfl ?_ c.bd qg rfl rfl rfl rfl rfl ⟨d.lf.1,Zx3 _⟩ qs d.od ?_
   ·grind
   grind
  have j:¬C.owner=0:=qo;rw[show t.qS C.owner=λb=>{t with s1:=b}from funext λb=>by grind[T.qS],show t.qK C.owner=t.s1 by grind[T.qK]];dsimp only;refine Good.put c e (·=C.id) (u':={C with load:=0}) rfl rfl rfl rfl ?_ c.bd qg rfl rfl rfl rfl rfl ⟨d.lf.1,Zx3 _⟩ qs d.od ?_
  ·grind
  grind
 grind[Good.go]
theorem Cb(b:T)(a:Nat)(c:Int)(f:a<144)(g:b.bd a<10)(h:c<10):nQ (b.qB a c).bd=nQ b.bd-b.bd a+c:=by
 unfold nQ;have e:nP (b.qB a c).bd=λd=>if d=a then c else nP b.bd d:=by grind[nP,T.qB]
 rw[e,OJ (nP b.bd) a c 144 f];grind[nP]
theorem PZ(d:TOk t)(g:t.us[a]?=some C)(n:aE C.tox C.toy=true)(q:C.kind=2):Good t (·=C.id) (cY (eR t C).2 (eR t C).1):=by
 have h:=d.all C qg;have r:=h.ld;unfold eR
 split
 ·exact PU d g
 rename_i o
 split
 ·rename_i f
  have l:=eN n;have i:=d.bd _ l;unfold jB at f;simp at f
  split
  ·obtain⟨e,m⟩:=nn (ci C.tox C.toy);rw[m]at l i f |-;obtain⟨b,j⟩:=nn (t.bd e);have p:=j;dsimp only;rw[j]at i f |-;rw[kW (t:=t.qB e _) (u:=C) (u':={C with load:=min b 5}) d.rise g rfl];refine Good.put d g (·=C.id) (u':={C with load:=min b 5}) rfl rfl rfl rfl d.st ?_ ?_ rfl rfl rfl rfl rfl ⟨h.lf.1,Zx3 _⟩ qg h.od ?_
   ·intro c k
    show 0<=(if c=e then b-min b 5 else t.bd c)/\(if c=e then b-min b 5 else t.bd c)<=10
    split
    ·omega
    exact d.bd c k
   ·intro c k
    show(if c=e then b-min b 5 else t.bd c)=0
    grind
   grind[Cb,nQ,T.qB]
  grind[Good.go]
 grind[Good.idle]
theorem AK{a b:Int}(c:bJ n p a b=true):(n,p)≠(a,b):=by grind[bJ]
theorem PW(c:TOk t)(f:t.us[a]?=some C)(m:bP t.us=false):Good t (·=C.id) (cY (fI t C).2 (fI t C).1):=by
 unfold fI;cases q:bI t.us C.target with
 |none=>exact Good.idle c f
 |some e=>
  dsimp only;cases g:t.us[e]? with
  |none=>exact Good.idle c f
  |some b=>
   dsimp only;have i:=c.all b qg
   split
   ·rename_i k
    have p:=AK k;have l:a≠e:=qg;dsimp only;unfold T.qR;rw[g];dsimp only
    split
    ·have d:=c.gone g m;obtain⟨r,h⟩:=Zx5 (Zx2.2 ⟨a,l,f⟩);rw[lW d.rise h];refine⟨d,Zx3 _,?_,?_,rfl⟩
     ·intro j n;exact .inr ⟨j,mem_of_mem_eraseIdx n,Near1.same _ j⟩
     unfold mX;dsimp only;rw[OI worth _ e b g];have o:0<=worth b:=by have:=i.ld.1;grind[worth,gB]
     omega
    have d:Good t (·=C.id) {t with us:=t.us.set e {b with life:=b.life-3} }:=Good.put c g (·=C.id) (u':={b with life:=b.life-3}) rfl rfl rfl rfl c.st c.bd qg rfl rfl rfl rfl rfl ⟨by grind,by grind⟩ i.ld i.od qg;have h:(t.us.set e {b with life:=b.life-3})[a]?=some C:=by rw[getElem?_set_ne qo];exact f
    rw[lW d.ok.rise h];exact d
   grind[Good.go]
theorem PV(c:TOk t)(i:t.us[a]?=some C)(s:C.tox=2\/C.tox=3):Good t (·=C.id) (cY (eF t C).2 (eF t C).1):=by
 have n:=c.all C qg;have J:=c.st;unfold eF
 split
 ·exact Good.stay c i
 split
 ·exact Good.stay c i
 split
 ·exact Good.stay c i
 cases m:(aL C.x C.y).find? (λb=>cR (bN t.held) t.bd b.1 b.2)with
 |none=>exact Good.stay c i
 |some b=>
  rename_i h D E
  dsimp only;have u:=Zx6 m;have q:=find?_some m;obtain⟨o,p⟩:=EX q;obtain⟨A,L⟩:=JC u;have H:0<=gB C.tox:=by grind[gB]
  have j:∀d e:Int,(0<=d/\d<=1000000000)/\(0<=e/\e<=1000000000)->d+e=t.s0+t.s1-gB C.tox ->
    Good t (·=C.id) (cY {t with s0:=d,s1:=e,us:=t.us++[bD t.next C.owner C.tox b.1 b.2 (dE C.tox)],next:=t.next+1,held:=λl=>if l=b then some t.next else t.held l} C.idle):=by
   intro d e x I;have w:=c.new C.owner C.tox b d e A p o n.ow s qo qo x;have r:(t.us++[bD t.next C.owner C.tox b.1 b.2 (dE C.tox)])[a]?=some C:=by grind
   have f:=Good.idle w r;refine⟨f.ok,Zx4 qg f.nx,?_,?_,f.tn⟩
   ·intro B z;obtain F|⟨M,g,v⟩:=f.rel B z
    ·grind
    obtain g|g:=m5.1 g
    ·grind
    simp at g;subst g;exact .inl (by rw[v.id];grind)
   refine Zx4 f.we ?_;unfold mX;dsimp only;rw[Qx9,sum_append];grind[worth]
  obtain k|k:=n.ow
  ·rw[k]at h j |-;have:=j (t.s0-gB C.tox) t.s1 (by simp[T.qK]at h;omega) qo;grind[T.added,T.qS,T.qK]
  rw[k]at h j |-;have:=j t.s0 (t.s1-gB C.tox) (by simp[T.qK]at h;omega) qo;grind[T.added,T.qS,T.qK]
theorem uN(d:TOk t)(g:t.us[a]?=some C)(h:bP t.us=false):Good t (·=C.id) (eS t C):=by
 have e:=d.all C qg;unfold eS dJ;obtain b|⟨b,_⟩|⟨b,c,f⟩|⟨b,_⟩|⟨b,_,c⟩:=e.od
 ·grind[Good.stay]
 ·grind[QA]
 ·grind[PZ]
 ·grind[PW]
 grind[PV]
