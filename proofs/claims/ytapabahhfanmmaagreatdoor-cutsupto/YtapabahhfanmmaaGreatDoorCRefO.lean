import Derived.Test.YtapabahhfanmmaaGreatDoorCLaw2
import Derived.Test.YtapabahhfanmmaaGreatDoorCParseP
namespace Go.Proofs.YtapabahhfanmmaaGreatDoor
open Go.RowKit List Go.Proofs.Tryz
set_option maxHeartbeats 2000000
set_option maxRecDepth 100000
variable {X:List U} {a:Nat} {C:U}
theorem QJ{p:U->Bool}(c:X[a]?=some C)(b:p C=true):X.any p=true:=by grind
theorem QK{p:U->Bool}(b:∀a (b:a<X.length),p X[a]=false):X.any p=false:=by grind[mem_iff_getElem]
theorem tL(w X Q:Nat)(e:T)(b d:Int)(m:World)(j:RG m w X Q e):Cs 184 #[pt w,ii b,ii d] m (R0 m (.bool (cH e.us e.bd (b,d)))):=by
 have ac:=j.len
 delta Cs;go_in
 go_wp2_with fail
 refine(fC b d _).mono ?_;rintro aa w1 ⟨rfl,rfl⟩;have g:Hi (cH e.us e.bd (b,d)=(aE b d&&(e.bd (ci b d)==0&&!lI e.us (b,d)))):=rfl;cases l:aE b d
 ·rw[l]at g;go_wp2;go_ret;exact⟨by rw[g.o];rfl,r0 _ _⟩
 rw[l]at g;obtain⟨p0,p1,p2,p3⟩:=bX.1 l;have y:=eN l;have x:=j.bd y;obtain⟨E,C⟩:=nn (e.bd (ci b d));rw[C]at x g;have R:1+ci b d=1+d.toNat*12+b.toNat:=by unfold ci;omega
 rw[R]at x;clear C y l
 by_cases D:E=0
 ·subst D;have z:=j.gv;have hc:=z.c;go_wp2
  go_loopw [8] (fun v wr=>∃f:Nat,f<=e.us.length/\v=ii f/\(∀h,h<f->∀(j:h<e.us.length),(e.us[h].x==b&&e.us[h].y==d)=false)/\Fr [] m wr) (fun v _=>e.us.length-(intOf v).toNat)
  ·exact⟨0,Z3 _,rfl,λh j=>by omega,r0 _ _⟩
  obtain⟨f,hk,rfl,B,k⟩:=hrel;have A:=z.qF k;have ab:=A.c;have n:=aA B;clear B
  by_cases s:f<e.us.length
  ·have V:(f:Int)<(e.us.length:Int):=qo;obtain⟨a,u⟩:∃a,e.us[f]?=some a:=⟨e.us[f],Y2 s⟩;obtain⟨F,H,J,Y,c4,L,M,N,O,P,I⟩:=A.p.at u;have q:=(show Hi (e.us[f]?=some a)from u);clear u F H J L M N O P I
   by_cases r:(a.x==b)=true
   ·by_cases t:(a.y==d)=true
    ·have i:Hi ((a.x==b&&a.y==d)=true):=by simp[Hi,r,t]
     go_wp2;go_ret;exact⟨by have:=QJ (p:=λa:U=>a.x==b&&a.y==d) q.o i.o;rw[g.o];simp_all[lI],k⟩
    simp only[Bool.not_eq_true]at t;have i:Hi ((a.x==b&&a.y==d)=false):=by simp[Hi,t]
    go_wp2;go_roundw
    ·exact⟨f+1,s,by go_num,mQ (p:=fun a:U=>a.x==b&&a.y==d) q.o i.o n.o,k⟩
    simp[intOf];omega
   simp only[Bool.not_eq_true]at r;have i:Hi ((a.x==b&&a.y==d)=false):=by simp[Hi,r]
   go_wp2;go_roundw
   ·exact⟨f+1,s,by go_num,mQ (p:=fun a:U=>a.x==b&&a.y==d) q.o i.o n.o,k⟩
   simp[intOf];omega
  have V:¬(f:Int)<(e.us.length:Int):=qo;go_wp2;go_ret;exact⟨by have:=QK (p:=λa:U=>a.x==b&&a.y==d) (λh S=>n.o h qo S);rw[g.o];simp_all[lI],k⟩
 have W:(E==0)=false:=by simpa using D
 go_wp2;go_ret;exact⟨by rw[g.o,W];rfl,r0 _ _⟩
variable {b c:Nat} {t:T} {D:U} {w:World}
theorem EL:∀(g:List U) (a b:Nat) (c d:U) (e:Value),g[a]?=some c->b<11->d.cells=c.cells.set b e->(g.flatMap U.cells).set (a*11+b) e=(g.set a d).flatMap U.cells
 |[],a,_,_,_,_,i,_,_=>by grind
 |h::k,0,b,c,d,e,i,j,f=>by have:h=c:=qg;subst this;rw[set_cons_zero,l9,l9,f,Zk0,Z9,set_append_left _ _ qo]
 |h::k,a+1,b,c,d,e,i,j,f=>by have l:=EL k a b c d e qg j f;rw[set_cons_succ,l9,l9,<-l,Zz1 _ _ qt];congr 2;simp;omega
theorem PRow.qD(c:PRow w a b X){i j:Nat}{u':U}{v:Value}(k:X[i]?=some C)(l:j<11)(h:u'.cells=C.cells.set j v):PRow (w.setCell ⟨a,i*11+j,none⟩ v) a b (X.set i u'):=by obtain⟨d,e,f,g⟩:=c.h;refine⟨⟨d.setIfInBounds (i*11+j) v,iE e v,by grind,?_⟩,by rw[Q0];exact c.le,c.cap⟩;grind[length_set,Array.toList_setIfInBounds,take_set,EL]
theorem RG.qD(d:RG w a b c t){i j:Nat}{u':U}{v:Value}(f:t.us[i]?=some C)(g:j<11)(e:u'.cells=C.cells.set j v):RG (w.setCell ⟨b,i*11+j,none⟩ v) a b c {t with us:=t.us.set i u'}:=by refine⟨λh k=>?_,λh=>by grind[World.frozen?_setCell,RG.fz],d.row.qD f g e,by simpa using d.len,d.ne⟩;grind[cE,RG.ne,RG.cell,cW,length_set]
theorem RG.frz(d:RG w a b c t)(f:Nat):w.frozen? ⟨b,f,none⟩=false:=by obtain⟨g,e,_⟩:=d.row.h;exact aV e
theorem RG.pl(d:RG w a b c t):b<w.heap.size:=by obtain⟨e,f,_⟩:=d.row.h;grind
theorem bF(b:X[a]?=some C):(X.set a D)[a]?=some D:=by grind
theorem RG.idle(e:RG w a b c t){i:Nat}(d:t.us[i]?=some C):RG ((((w.setCell ⟨b,i*11+7,none⟩ (ii 0)).setCell ⟨b,i*11+8,none⟩ (ii 0)).setCell ⟨b,i*11+9,none⟩ (ii 0)).setCell ⟨b,i*11+10,none⟩ (ii 0)) a b c {t with us:=t.us.set i C.idle}:=by have f:=e.qD (u':={C with what:=0}) (v:=ii 0) d (j:=7) qo rfl;have g:=f.qD (u':={C with what:=0,tox:=0}) (v:=ii 0) (i:=i) (bF d) (j:=8) qo rfl;have h:=g.qD (u':={C with what:=0,tox:=0,toy:=0}) (v:=ii 0) (i:=i) (bF (bF d)) (j:=9) qo rfl;have k:=h.qD (u':=C.idle) (v:=ii 0) (i:=i) (bF (bF (bF d))) (j:=10) qo rfl;simp_all
theorem qT(f b j:Nat)(e:T)(a:Nat)(l:U)(i:World)(c:RG i f b j e)(k:e.us[a]?=some l):Cs 179 #[.pointer (so f),.int .i64 a] i λh d=>h=.returned (.tuple #[])/\RG d f b j {e with us:=e.us.set a l.idle}/\Fr [b] i d:=by
 have C:=c.len
 have A:=(gs.1 k).1
 have B:(a:Int)<(e.us.length:Int):=qo
 have z:=c.qA
 have D:=c.ne
 have w:=c.frz (a*11+7)
 have x:=c.frz (a*11+8)
 have y:=c.frz (a*11+9)
 have u:=c.frz (a*11+10)
 obtain⟨_,_,_,_,_,_,_,r,s,t,q⟩:=c.gv.p.at k
 have E:¬b=f:=qo
 obtain⟨g,m⟩:∃g:World->Prop,g=λd=>RG d f b j {e with us:=e.us.set a l.idle}:=⟨_,rfl⟩
 have n:Hi (g ((((i.setCell ⟨b,a*11+7,none⟩ (ii 0)).setCell ⟨b,a*11+8,none⟩ (ii 0)).setCell ⟨b,a*11+9,none⟩ (ii 0)).setCell ⟨b,a*11+10,none⟩ (ii 0))):=by rw[m];exact c.idle k
 have h:∀d,g d↔RG d f b j {e with us:=e.us.set a l.idle}:=qg
 refine cm (R:=λh d=>h=.returned (.tuple #[])/\g d/\Fr [b] i d) ?_ qg
 clear k c h m
 go_enter func179,ntmps179
 go_wp2_with fail
 exact bodyPost_end (v:=.tuple #[]) (results_none rfl _ _ _) rfl (by grind[Hi.o,Fr.setCell,r0])
variable {n:Int} {s:T}
def gH(a:T)(id:Int):T:=
 match bI a.us id with
 |none=>a
 |some b=>match a.us[b]? with|none=>a|some u=>eS a u
theorem AD(a:T)(b:U):iB a b=gH a b.id:=rfl
theorem PX(a:TOk t)(b:bP t.us=false)(id:Int):Good t (·=id) (gH t id):=rI a b ⟨id,0,0,0,0,0,0,0,0,0,0⟩
theorem PY(a:TOk t)(c:OS t)(b:bP t.us=false)(id:Int):OS (gH t id):=AF a c b ⟨id,0,0,0,0,0,0,0,0,0,0⟩
def eX(id:Int):List U->Int->Int
 |[],a=>a
 |b::c,a=>eX id c (if id<b.id/\b.id<a then b.id else a)
theorem uM(id:Int):∀(c:List U) (a:Int),eX id c a<=a/\(∀b∈c,id<b.id->eX id c a<=b.id)/\(eX id c a=a\/∃b∈c,b.id=eX id c a/\id<b.id)
 |[],a=>⟨Zx3 _,by simp,.inl rfl⟩
 |b::c,a=>by obtain⟨d,e,f⟩:=uM id c (if id<b.id/\b.id<a then b.id else a);grind[eX]
theorem AC(c:T)(h:bP c.us=false)(d:Int):∀(b:List U),(∀a∈b,a.id<d->bI c.us a.id=none)->(b.map U.id).Pairwise (· < ·)->fY b c=fY (b.filter λa=>decide (d<=a.id)) c
 |[],_,_=>rfl
 |a::b,e,f=>by
  rw[Y5,pairwise_cons]at f
  by_cases k:d<=a.id
  ·grind[filter_eq_self,mem_map_of_mem]
  have g:=e a qs qo;rw[filter_cons_of_neg qg,rG,AE g,Z0 qg];exact AC c h d b (λj l i=>e j qg i) f.2
structure RH (tf:T) (n0 id:Int) (t:T):Prop where
 ok:TOk t
 os:OS t
 nx:n0<=t.next
 fin:(bP t.us=true/\tf=t)\/(bP t.us=false/\∃l:List U,(l.map U.id).Pairwise (· < ·)/\(∀v∈l,id<=v.id/\v.id<n0)/\(∀u∈t.us,id<=u.id->u.id<n0->u.id∈l.map U.id)/\tf=fY l t)
theorem RH.first(b:TOk t)(d:OS t)(c:bP t.us=false):RH (fY t.us t) t.next 1 t:=
  ⟨b,d,Zx3 _,.inr ⟨c,t.us,tP.1 b.rise,λv e=>(b.all v e).id,qg,rfl⟩⟩
theorem RH.over(a:TOk t)(b:OS t)(c:bP t.us=true):RH t t.next 1 t:=⟨a,b,Zx3 _,qg⟩
theorem RH.last{id:Int}(b:RH t n id s)(aA:n<=id):t=s:=by
 obtain⟨_,c⟩|⟨_,a,_,e,_,d⟩:=b.fin
 ·exact c
 have:a=[]:=by
  cases a with
  |nil=>rfl
  |cons f a=>grind
 subst this;exact d
def jP(a:T)(id:Int):T:=if bP a.us=true then a else gH a id
theorem RH.next{id:Int}(c:RH t n id s)(aA:id<n):RH t n (eX id (jP s id).us (jP s id).next) (jP s id)/\id<eX id (jP s id).us (jP s id).next:=by
 have p:∀g:T,n<=g.next->id<eX id g.us g.next:=λg B=>by obtain⟨_,_,w⟩:=uM id g.us g.next;omega
 unfold jP;obtain⟨j,i⟩|⟨j,f,F,O,P,Q⟩:=c.fin
 ·rw[Q7 j];exact⟨⟨c.ok,c.os,c.nx,qg⟩,p s c.nx⟩
 rw[Z0 qg];have l:=PX c.ok j id;have x:=PY c.ok c.os j id;have q:=Zx4 c.nx l.nx;refine⟨⟨l.ok,x,q,?_⟩,p _ q⟩
 by_cases C:bP (gH s id).us=true
 ·refine .inl ⟨C,?_⟩;have z:id∈f.map U.id:=by grind[bI,gH]
  cases f with
  |nil=>grind
  |cons b f=>grind[pairwise_cons,rG,AD]
 have r:bP (gH s id).us=false:=qg;refine .inr ⟨r,?_⟩;obtain⟨J,v,m⟩:=uM id (gH s id).us (gH s id).next;obtain⟨d,H,u,R,I⟩:∃d:List U,(d.map U.id).Pairwise (· < ·)/\(∀b∈d,id<b.id/\b.id<n)/\(∀a∈s.us,id<a.id->a.id<n->a.id∈d.map U.id)/\t=fY d (gH s id):=by
  by_cases z:id∈f.map U.id
  ·cases f with
   |nil=>grind
   |cons b f=>rw[Y5,pairwise_cons]at F;grind[mem_map_of_mem,rG,AD]
  grind[bI,gH]
 have y:∀a∈(gH s id).us,id<a.id->a.id<n->a.id∈d.map U.id:=λa h i o=>by
  obtain w|⟨b,e,B⟩:=l.rel a h
  ·grind[RH.nx]
  grind[Near1.id]
 refine⟨d.filter λb=>decide (eX id (gH s id).us (gH s id).next<=b.id),?_,?_,?_,?_⟩
 ·grind
 ·intro b e;obtain⟨D,E⟩:=p9.1 e;exact⟨by simpa using E,(u b D).2⟩
 ·intro a h i o;have A:id<a.id:=by obtain m|⟨S,_,L,M⟩:=m<;>omega
  obtain⟨b,e,k⟩:=Qk7.1 (y a h A o);rw[<-k];refine Zk5 (p9.2 ⟨e,?_⟩);rw[k];simpa using i
 rw[I];refine AC _ r _ d (λb e N=>tE (λa h k=>?_)) H;have i:=(u b e).1;have:=v a h qo;omega
theorem AA(id:Int)(b:U):∀(c:List U) (a:Int),eX id (c++[b]) a=if id<b.id/\b.id<eX id c a then b.id else eX id c a
 |[],a=>rfl
 |d::c,a=>by rw[X1];unfold eX;exact AA id b c _
theorem OQ(b:X[a]?=some C):X.take (a+1)=X.take a++[C]:=by grind[take_add_one]
theorem Fa(l F C:Nat)(a:T)(id:Int)(g:World)(h:RG g l F C a):Cs 136 #[pt l,ii id] g (R0 g (ii (eX id a.us a.next))):=by
 have O:=h.len;have n:=h.gv;have L:=n.c;have Q:=h.c147
 delta Cs;go_in
 go_wp2
 go_loopw [5,6] (fun f j wr=>∃b:Nat,b<=a.us.length/\j=ii b/\f=ii (eX id (a.us.take b) a.next)/\Fr [] g wr) (fun _ j _=>a.us.length-(intOf j).toNat)
 ·exact⟨0,Z3 _,rfl,rfl,r0 _ _⟩
 obtain⟨b,N,rfl,rfl,m⟩:=hrel;have q:=n.qF m;have M:=q.c
 by_cases P:b<a.us.length
 ·have E:(b:Int)<(a.us.length:Int):=qo;obtain⟨d,i⟩:∃d,a.us[b]?=some d:=qa;obtain⟨H,s,u,v,w,x,y,z,A,B,t⟩:=q.p.at i;have r:Hi (eX id (a.us.take (b+1)) a.next=if id<d.id/\d.id<eX id (a.us.take b) a.next then d.id else eX id (a.us.take b) a.next):=by
   show _=_
   rw[OQ i,AA]
  obtain⟨f,e⟩:=nn (eX id (a.us.take b) a.next);rw[e]at r |-;clear i e s u v w x y z A B t
  by_cases I:id<d.id
  ·by_cases J:d.id<f
   ·go_wp2;go_roundw
    ·grind[Hi.o]
    simp[intOf];omega
   go_wp2;go_roundw
   ·grind[Hi.o]
   simp[intOf];omega
  go_wp2;go_roundw
  ·grind[Hi.o]
  simp[intOf];omega
 have E:¬(b:Int)<(a.us.length:Int):=qo;have D:b=a.us.length:=qo;have k:Hi (eX id (a.us.take b) a.next=eX id a.us a.next):=by
  show _=_
  grind
 obtain⟨f,e⟩:=nn (eX id (a.us.take b) a.next);rw[e]at k |-;clear e D;go_wp2;go_ret;exact⟨by rw[<-k.o];rfl,m⟩
theorem pE(a:Int)(b:World):Cs 93 #[ii a] b (R1 b (ii (dE a))):=by
 by_cases c:a=1
 ·subst c
  delta Cs;go_in
  go_wp2;go_ret;exact⟨rfl,rfl⟩
 by_cases d:a=2
 ·subst d
  delta Cs;go_in
  go_wp2;go_ret;exact⟨rfl,rfl⟩
 have e:(a==1)=false:=qg;have f:(a==2)=false:=qg
 delta Cs;go_in
 go_wp2;go_ret;simp_all[dE]
theorem MG(a:Int)(c:a=2\/a=3)(b:World):Cs 215 #[ii a] b (R1 b (ii (gB a))):=by obtain rfl|rfl:=c<;>(delta Cs;go_in;go_wp2_with fail;go_ret;exact⟨rfl,rfl⟩)
variable {p:Int} {H I:TypeId}
set_option maxRecDepth 100000
theorem rT(a:World):a.drew.heap=a.heap:=rfl
abbrev gF(b:Nat)(c d f g h i j k l m e n o:Int)(a:World):Prop:=a.cell? ⟨b,0,none⟩=some (ii c)/\a.cell? ⟨b,1,none⟩=some (ii d)/\a.cell? ⟨b,2,none⟩=some (ii f)/\a.cell? ⟨b,3,none⟩=some (ii g)/\a.cell? ⟨b,4,none⟩=some (ii h)/\a.cell? ⟨b,5,none⟩=some (ii i)/\a.cell? ⟨b,6,none⟩=some (ii j)/\a.cell? ⟨b,7,none⟩=some (ii k)/\a.cell? ⟨b,8,none⟩=some (ii l)/\a.cell? ⟨b,9,none⟩=some (ii m)/\a.cell? ⟨b,10,none⟩=some (ii e)/\a.cell? ⟨b+1,2,none⟩=some (ii n)/\a.cell? ⟨b+1,3,none⟩=some (ii o)
theorem gO{d e f g h i j k c q r m o s:Int}(b:w.heap[a]?=some (.cells #[ii n,ii p,ii d,ii e,ii f,ii g,ii h,ii i,ii j,ii k,ii c] H))(l:w.heap[a+1]?=some (.cells #[ii q,ii r,ii m,ii o,ii s] I)):gF a n p d e f g h i j k c m o w:=
  ⟨aB b,aB b,aB b,aB b,aB b,aB b,aB b,aB b,aB b,aB b,aB b,aB l,aB l⟩
theorem gR{g:World->Prop}{d e:Obj}{c:Array Value}(h:∀a,Fr [] w a->a.heap[w.heap.size]?=some d->a.heap[w.heap.size+1]?=some e->a.heap[w.heap.size+1+1]?=some (.cells c H)->(∀b,a.cell? ⟨w.heap.size+1+1,b,none⟩=c[b]?)->(∀b,a.frozen? ⟨w.heap.size+1+1,b,none⟩=false)->g a):g (((w.alloc d).alloc e).alloc (.cells c H)):=by have f:(((w.alloc d).alloc e).alloc (.cells c H)).heap[w.heap.size+1+1]?=some (.cells c H):=kO _ _ _ _;exact h _ (by grind[Fr.alloc,r0]) (by grind[eL,dW]) (by grind[eL,cZ]) f (λb=>aB f) (λb=>aV f)
theorem gQ{l:World->Prop}{u:U}{c d e f g h i j b:Int}{ty:TypeId}(o:w.heap[a]?=some (.cells u.arr ty))(m:∀k,Fr [a] w k->k.heap[a]?=some (.cells (⟨n,p,c,d,e,f,g,h,i,j,b⟩:U).arr ty)->l k):l (((((((((((w.setCell ⟨a,0,none⟩ (ii n)).setCell ⟨a,1,none⟩ (ii p)).setCell ⟨a,2,none⟩ (ii c)).setCell ⟨a,3,none⟩ (ii d)).setCell ⟨a,4,none⟩ (ii e)).setCell ⟨a,5,none⟩ (ii f)).setCell ⟨a,6,none⟩ (ii g)).setCell ⟨a,7,none⟩ (ii h)).setCell ⟨a,8,none⟩ (ii i)).setCell ⟨a,9,none⟩ (ii j)).setCell ⟨a,10,none⟩ (ii b)).drew:=
 m _ (((r0 _ _).set11 a ⟨n,p,c,d,e,f,g,h,i,j,b⟩ qg).drew) (by rw[rT];exact set11 (z:=u) (v:=⟨n,p,c,d,e,f,g,h,i,j,b⟩) o)
def kF(b:U)(a:Cm):U:={b with what:=a.what,tox:=if a.what=1\/a.what=2\/a.what=4 then a.x else 0,toy:=if a.what=1\/a.what=2 then a.y else 0,target:=if a.what=3 then a.target else 0}
theorem JU(t:Nat)(s a b r d g h i e f F D E C:Int)(c:World):Cs 178 #[pt t,(⟨d,g,1,h,i,e,f,F,D,E,C⟩:U).val,(⟨s,1,a,b,r⟩:Cm).val] c (R0 c (.tuple #[(⟨d,g,1,h,i,e,f,1,a,b,0⟩:U).val,.bool false])):=by
 delta Cs;go_in
 go_wp2_with (first|(go_at_call 185;refine(fC _ _ _).mono ?_;rintro I M ⟨rfl,rfl⟩))
 refine gR λl B n m z J L=>?_;have k:=λj (o:Fr [c.heap.size+1+1] l j)=>by exact gO (o.heap n qg) (o.heap m qs)
 have q:=k _ (r0 _ l).drew;clear n m;refine wp_region_held_drew (S:=λj:World=>gF c.heap.size d g 1 h i e f 1 a b 0 a b j) qk q (λx=>?_);refine(show wpAnyH prog Region.Mode.any _ _ _ 22 (Array.replicate 22 false) _ _ from ?_)
 iterate 20 refine tn 22 x ?_
 refine rd 20 fun K hK=>?_;go_simp;refine gQ (u:=zeroU) z fun H p w=>?_;have A:=k _ p;refine hK.out _ _ A (fun y=>?_);clear hK K;try simp only[Act.put,Z]
 refine ta 21 y ?_;refine wpAnyH_done qk ?_ _;go_wp2;exact Zq8 (v:=.tuple #[(⟨d,g,1,h,i,e,f,1,a,b,0⟩:U).val,.bool false]) (cD Zz3 _ _ (c.heap.size+1+1) 85 _ (0,0) _ _ rfl rfl w Q3 rfl aS) rfl ⟨rfl,B.trans p qt⟩
theorem Az(t:Nat)(s a b r d g h i e f F D E C:Int)(c:World)(J:aE a b=false):Cs 178 #[pt t,(⟨d,g,2,h,i,e,f,F,D,E,C⟩:U).val,(⟨s,1,a,b,r⟩:Cm).val] c (R0 c (.tuple #[(⟨d,g,2,h,i,e,f,1,a,b,0⟩:U).val,.bool false])):=by
 delta Cs;go_in
 go_wp2_with (first|(go_at_call 185;refine(fC _ _ _).mono ?_;rintro I N ⟨rfl,rfl⟩))
 refine gR λl B n m z L M=>?_;have k:=λj (o:Fr [c.heap.size+1+1] l j)=>by exact gO (o.heap n qt) (o.heap m qs)
 have q:=k _ (r0 _ l).drew;clear n m;refine wp_region_held_drew (S:=λj:World=>gF c.heap.size d g 2 h i e f 1 a b 0 a b j) qk q (λx=>?_);refine(show wpAnyH prog Region.Mode.any _ _ _ 22 (Array.replicate 22 false) _ _ from ?_)
 iterate 20 refine tn 22 x ?_
 refine rd 20 fun K hK=>?_;go_simp;refine gQ (u:=zeroU) z fun H p w=>?_;have A:=k _ p;refine hK.out _ _ A (fun y=>?_);clear hK K;try simp only[Act.put,Z]
 refine ta 21 y ?_;refine wpAnyH_done qk ?_ _;go_wp2;exact Zq8 (v:=.tuple #[(⟨d,g,2,h,i,e,f,1,a,b,0⟩:U).val,.bool false]) (cD Zz3 _ _ (c.heap.size+1+1) 85 _ (0,0) _ _ rfl rfl w Q3 rfl aS) rfl ⟨rfl,B.trans p qt⟩
theorem Ba(g I x:Nat)(v:T)(z b c y h k l m i j N L M J:Int)(d:World)(p:RG d g I x v)(H:aE b c=true)(f:Int)(V:v.bd (ci b c)=f):Cs 178 #[pt g,(⟨h,k,2,l,m,i,j,N,L,M,J⟩:U).val,(⟨z,1,b,c,y⟩:Cm).val] d (R0 d (.tuple #[(⟨h,k,2,l,m,i,j,1,b,c,0⟩:U).val,.bool (f !=10)])):=by
 delta Cs;go_in
 go_wp2_with (first|(go_at_call 185;refine(fC _ _ _).mono ?_;rintro P w1 ⟨rfl,rfl⟩))
 refine gR λo s r q D R S=>?_;obtain⟨W,X,Y,p3⟩:=bX.1 H;have F:∀a,Fr [d.heap.size+1+1] o a->a.cell? ⟨g,1+c.toNat*12+b.toNat,none⟩=some (ii f):=λa e=>by have Q:=(p.qF s).fr e (by have:=p.lt;simp;omega) (by have:=p.pl;simp;omega);grind[RG.bd,eN,ci]
 have n:∀a,Fr [d.heap.size+1+1] o a->(λa:World=>ca a g (1+c.toNat*12+b.toNat) (ii f)/\gF d.heap.size h k 2 l m i j 1 b c 0 b c a) a:=λa e=>by exact⟨F a e,gO (e.heap r qt) (e.heap q qs)⟩
 have w:=n _ (r0 _ o).drew;clear r q;refine rg 22 n w λB=>?_
 iterate 20 refine tn 22 B ?_
 refine rd 20 fun K hK=>?_;go_simp;refine gQ (u:=zeroU) D fun O t A=>?_;have E:=n _ t;refine hK.out _ _ E (fun C=>?_);clear hK K;try simp only[Act.put,Z]
 refine ta 21 C ?_;refine wpAnyH_done qk ?_ _;go_wp2;exact Zq8 (v:=.tuple #[(⟨h,k,2,l,m,i,j,1,b,c,0⟩:U).val,.bool (f !=10)]) (cD Zz3 _ _ (d.heap.size+1+1) 85 _ (0,0) _ _ rfl rfl A Q3 rfl aS) rfl ⟨rfl,s.trans t qt⟩
theorem Bb(t:Nat)(s a b r d g h i e f F D E C:Int)(c:World)(J:aE a b=false):Cs 178 #[pt t,(⟨d,g,3,h,i,e,f,F,D,E,C⟩:U).val,(⟨s,1,a,b,r⟩:Cm).val] c (R0 c (.tuple #[(⟨d,g,3,h,i,e,f,1,a,b,0⟩:U).val,.bool false])):=by
 delta Cs;go_in
 go_wp2_with (first|(go_at_call 185;refine(fC _ _ _).mono ?_;rintro I N ⟨rfl,rfl⟩))
 refine gR λl B n m z L M=>?_;have k:=λj (o:Fr [c.heap.size+1+1] l j)=>by exact gO (o.heap n qt) (o.heap m qs)
 have q:=k _ (r0 _ l).drew;clear n m;refine wp_region_held_drew (S:=λj:World=>gF c.heap.size d g 3 h i e f 1 a b 0 a b j) qk q (λx=>?_);refine(show wpAnyH prog Region.Mode.any _ _ _ 22 (Array.replicate 22 false) _ _ from ?_)
 iterate 20 refine tn 22 x ?_
 refine rd 20 fun K hK=>?_;go_simp;refine gQ (u:=zeroU) z fun H p w=>?_;have A:=k _ p;refine hK.out _ _ A (fun y=>?_);clear hK K;try simp only[Act.put,Z]
 refine ta 21 y ?_;refine wpAnyH_done qk ?_ _;go_wp2;exact Zq8 (v:=.tuple #[(⟨d,g,3,h,i,e,f,1,a,b,0⟩:U).val,.bool false]) (cD Zz3 _ _ (c.heap.size+1+1) 85 _ (0,0) _ _ rfl rfl w Q3 rfl aS) rfl ⟨rfl,B.trans p qt⟩
theorem Bc(g I x:Nat)(v:T)(z b c y h k l m i j N L M J:Int)(d:World)(p:RG d g I x v)(H:aE b c=true)(f:Int)(V:v.bd (ci b c)=f):Cs 178 #[pt g,(⟨h,k,3,l,m,i,j,N,L,M,J⟩:U).val,(⟨z,1,b,c,y⟩:Cm).val] d (R0 d (.tuple #[(⟨h,k,3,l,m,i,j,1,b,c,0⟩:U).val,.bool (f !=10)])):=by
 delta Cs;go_in
 go_wp2_with (first|(go_at_call 185;refine(fC _ _ _).mono ?_;rintro P w1 ⟨rfl,rfl⟩))
 refine gR λo s r q D R S=>?_;obtain⟨W,X,Y,p3⟩:=bX.1 H;have F:∀a,Fr [d.heap.size+1+1] o a->a.cell? ⟨g,1+c.toNat*12+b.toNat,none⟩=some (ii f):=λa e=>by have Q:=(p.qF s).fr e (by have:=p.lt;simp;omega) (by have:=p.pl;simp;omega);grind[RG.bd,eN,ci]
 have n:∀a,Fr [d.heap.size+1+1] o a->(λa:World=>ca a g (1+c.toNat*12+b.toNat) (ii f)/\gF d.heap.size h k 3 l m i j 1 b c 0 b c a) a:=λa e=>by exact⟨F a e,gO (e.heap r qt) (e.heap q qs)⟩
 have w:=n _ (r0 _ o).drew;clear r q;refine rg 22 n w λB=>?_
 iterate 20 refine tn 22 B ?_
 refine rd 20 fun K hK=>?_;go_simp;refine gQ (u:=zeroU) D fun O t A=>?_;have E:=n _ t;refine hK.out _ _ E (fun C=>?_);clear hK K;try simp only[Act.put,Z]
 refine ta 21 C ?_;refine wpAnyH_done qk ?_ _;go_wp2;exact Zq8 (v:=.tuple #[(⟨h,k,3,l,m,i,j,1,b,c,0⟩:U).val,.bool (f !=10)]) (cD Zz3 _ _ (d.heap.size+1+1) 85 _ (0,0) _ _ rfl rfl A Q3 rfl aS) rfl ⟨rfl,s.trans t qt⟩
theorem Bp(t:Nat)(s a l r c f g h d e F D E C:Int)(b:World):Cs 178 #[pt t,(⟨c,f,2,g,h,d,e,F,D,E,C⟩:U).val,(⟨s,4,a,l,r⟩:Cm).val] b (R0 b (.tuple #[(⟨c,f,2,g,h,d,e,4,a,0,0⟩:U).val,.bool false])):=by
 delta Cs;go_in
 go_wp2_with (first|(go_at_call 185;refine(fC _ _ _).mono ?_;rintro I M ⟨rfl,rfl⟩))
 refine gR λk B n m z J L=>?_;have j:=λi (o:Fr [b.heap.size+1+1] k i)=>by exact gO (o.heap n qt) (o.heap m qs)
 have q:=j _ (r0 _ k).drew;clear n m;refine wp_region_held_drew (S:=λi:World=>gF b.heap.size c f 2 g h d e 4 a 0 0 a l i) qk q (λx=>?_);refine(show wpAnyH prog Region.Mode.any _ _ _ 16 (Array.replicate 16 false) _ _ from ?_)
 iterate 14 refine tn 16 x ?_
 refine rd 14 fun K hK=>?_;go_simp;refine gQ (u:=zeroU) z fun H p w=>?_;have A:=j _ p;refine hK.out _ _ A (fun y=>?_);clear hK K;try simp only[Act.put,Z]
 refine ta 15 y ?_;refine wpAnyH_done qk ?_ _;go_wp2;exact Zq8 (v:=.tuple #[(⟨c,f,2,g,h,d,e,4,a,0,0⟩:U).val,.bool false]) (cD Zz3 _ _ (b.heap.size+1+1) 85 _ (0,0) _ _ rfl rfl w Q3 rfl aS) rfl ⟨rfl,B.trans p qt⟩
theorem Bq(t:Nat)(s a l r c f g h d e F D E C:Int)(b:World):Cs 178 #[pt t,(⟨c,f,3,g,h,d,e,F,D,E,C⟩:U).val,(⟨s,4,a,l,r⟩:Cm).val] b (R0 b (.tuple #[(⟨c,f,3,g,h,d,e,4,a,0,0⟩:U).val,.bool false])):=by
 delta Cs;go_in
 go_wp2_with (first|(go_at_call 185;refine(fC _ _ _).mono ?_;rintro I M ⟨rfl,rfl⟩))
 refine gR λk B n m z J L=>?_;have j:=λi (o:Fr [b.heap.size+1+1] k i)=>by exact gO (o.heap n qg) (o.heap m qs)
 have q:=j _ (r0 _ k).drew;clear n m;refine wp_region_held_drew (S:=λi:World=>gF b.heap.size c f 3 g h d e 4 a 0 0 a l i) qk q (λx=>?_);refine(show wpAnyH prog Region.Mode.any _ _ _ 16 (Array.replicate 16 false) _ _ from ?_)
 iterate 14 refine tn 16 x ?_
 refine rd 14 fun K hK=>?_;go_simp;refine gQ (u:=zeroU) z fun H p w=>?_;have A:=j _ p;refine hK.out _ _ A (fun y=>?_);clear hK K;try simp only[Act.put,Z]
 refine ta 15 y ?_;refine wpAnyH_done qk ?_ _;go_wp2;exact Zq8 (v:=.tuple #[(⟨c,f,3,g,h,d,e,4,a,0,0⟩:U).val,.bool false]) (cD Zz3 _ _ (b.heap.size+1+1) 85 _ (0,0) _ _ rfl rfl w Q3 rfl aS) rfl ⟨rfl,B.trans p qt⟩
theorem Bo(s:Nat)(r k q b e f g c d E C D B:Int)(a:World):Cs 178 #[pt s,(⟨b,e,1,f,g,c,d,E,C,D,B⟩:U).val,(⟨r,4,2,k,q⟩:Cm).val] a (R0 a (.tuple #[(⟨b,e,1,f,g,c,d,4,2,0,0⟩:U).val,.bool true])):=by
 delta Cs;go_in
 go_wp2_with (first|(go_at_call 185;refine(fC _ _ _).mono ?_;rintro H L ⟨rfl,rfl⟩))
 refine gR λj A m l y I J=>?_;have i:=λh (n:Fr [a.heap.size+1+1] j h)=>by exact gO (n.heap m qg) (n.heap l qs)
 have p:=i _ (r0 _ j).drew;clear m l;refine wp_region_held_drew (S:=λh:World=>gF a.heap.size b e 1 f g c d 4 2 0 0 2 k h) qk p (λw=>?_);refine(show wpAnyH prog Region.Mode.any _ _ _ 16 (Array.replicate 16 false) _ _ from ?_)
 iterate 14 refine tn 16 w ?_
 refine rd 14 fun K hK=>?_;go_simp;refine gQ (u:=zeroU) y fun F o t=>?_;have z:=i _ o;refine hK.out _ _ z (fun x=>?_);clear hK K;try simp only[Act.put,Z]
 refine ta 15 x ?_;refine wpAnyH_done qk ?_ _;go_wp2;exact Zq8 (v:=.tuple #[(⟨b,e,1,f,g,c,d,4,2,0,0⟩:U).val,.bool true]) (cD Zz3 _ _ (a.heap.size+1+1) 85 _ (0,0) _ _ rfl rfl t Q3 rfl aS) rfl ⟨rfl,A.trans o qt⟩
theorem Bn(t:Nat)(s a l r c f g h d e F D E C:Int)(b:World)(J:(a==2)=false):Cs 178 #[pt t,(⟨c,f,1,g,h,d,e,F,D,E,C⟩:U).val,(⟨s,4,a,l,r⟩:Cm).val] b (R0 b (.tuple #[(⟨c,f,1,g,h,d,e,4,a,0,0⟩:U).val,.bool (a==3)])):=by
 delta Cs;go_in
 go_wp2_with (first|(go_at_call 185;refine(fC _ _ _).mono ?_;rintro I N ⟨rfl,rfl⟩))
 refine gR λk B n m z L M=>?_;have j:=λi (o:Fr [b.heap.size+1+1] k i)=>by exact gO (o.heap n qg) (o.heap m qs)
 have q:=j _ (r0 _ k).drew;clear n m;refine wp_region_held_drew (S:=λi:World=>gF b.heap.size c f 1 g h d e 4 a 0 0 a l i) qk q (λx=>?_);refine(show wpAnyH prog Region.Mode.any _ _ _ 16 (Array.replicate 16 false) _ _ from ?_)
 iterate 14 refine tn 16 x ?_
 refine rd 14 fun K hK=>?_;go_simp;refine gQ (u:=zeroU) z fun H p w=>?_;have A:=j _ p;refine hK.out _ _ A (fun y=>?_);clear hK K;try simp only[Act.put,Z]
 refine ta 15 y ?_;refine wpAnyH_done qk ?_ _;go_wp2;exact Zq8 (v:=.tuple #[(⟨c,f,1,g,h,d,e,4,a,0,0⟩:U).val,.bool (a==3)]) (cD Zz3 _ _ (b.heap.size+1+1) 85 _ (0,0) _ _ rfl rfl w Q3 rfl aS) rfl ⟨rfl,B.trans p qt⟩
