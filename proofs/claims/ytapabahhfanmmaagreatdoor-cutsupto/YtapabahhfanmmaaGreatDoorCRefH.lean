import Derived.Test.YtapabahhfanmmaaGreatDoorCRUnf
import Derived.Test.YtapabahhfanmmaaGreatDoorCNewX
import Derived.Test.YtapabahhfanmmaaGreatDoorCRefP
namespace Go.Proofs.YtapabahhfanmmaaGreatDoor
open Go.RowKit List Go.Proofs.Tryz
set_option maxHeartbeats 2000000
set_option maxRecDepth 100000
variable {n:Int} {B l:List UInt8} {a b c:Nat} {s t:T}
def oG(b:List UInt8)(c a:Nat):Cm:=⟨aD b false (c+1+5*a),aD b false (c+1+5*a+1),aD b false (c+1+5*a+1+1),aD b false (c+1+5*a+1+1+1),aD b false (c+1+5*a+1+1+1+1)⟩
def dV(b:List UInt8)(c a:Nat):List Cm:=(range a).map (oG b c)
def dS(a:List UInt8):Nat:=(aD a false 1).toNat
def fK(a:List UInt8):Nat:=(aD a false (1+1+5*dS a)).toNat
def dX(a:List UInt8):List Cm:=dV a 1 (dS a)
def dY(a:List UInt8):List Cm:=dV a (1+1+5*dS a) (fK a)
abbrev gG(a:List UInt8):Prop:=aM a false (1+1+5*dS a+1+5*fK a)=([],false)
theorem jR(b:List UInt8)(c a:Nat):(dV b c a).length=a:=by simp[dV]
theorem CX{d:Cm}(e:(dV l a b)[c]?=some d):oG l a c=d:=by grind[dV]
theorem qP(c:List UInt8)(a:Nat):∀b,(aM c false (a+b)).2=false->(aM c false a).2=false
 |0,d=>d
 |b+1,d=>qP c a b (by grind[aM])
theorem nM(a:List UInt8)(b:Nat):((aD a false b).toNat:Int)=aD a false b:=Int.toNat_of_nonneg (iR a false b).1
theorem Kb(g:gG l):ReadsT l (aD l false 0) (dX l) (dY l):=by
 have a:(dX l).length=dS l:=jR _ _ _;have d:(dY l).length=fK l:=jR _ _ _;refine⟨rfl,by rw[a];exact(nM l 1).symm,λc e b=>?_,by rw[a,d];exact(nM l _).symm,λc e b=>?_,λc f=>?_,by grind⟩
 ·have:=CX b;subst this;exact⟨rfl,rfl,rfl,rfl,rfl⟩
 ·have:=CX b;subst this;rw[a];exact⟨rfl,rfl,rfl,rfl,rfl⟩
 rw[a,d]at f;grind[qP,dS,fK,Nat.add_sub_cancel']
theorem GW{e:Type}{a b:List e}(g:a.length=b.length)(f:∀(c:Nat) (d:e),b[c]?=some d->a[c]?=some d):a=b:=by refine V8 λc=>?_;grind
theorem Eo{d e:List Cm}(a:ReadsT l n d e):gG l/\aD l false 0=n/\dX l=d/\dY l=e:=by
 have c:dS l=d.length:=by unfold dS;rw[a.na];rfl
 have o:fK l=e.length:=by unfold fK;rw[c,a.nb];rfl
 refine⟨?_,a.n0,?_,?_⟩
 ·show aM _ _ _=_
  rw[c,o];exact a.ne
 ·unfold dX;rw[c];refine GW (jR _ _ _) λg f b=>?_;unfold dV oG;obtain⟨h,i,j,k,m⟩:=a.ca g f b;have p:=(gs.1 b).1;rw[V4,Zk4 p,Option.map_some,h,i,j,k,m]
 unfold dY;rw[c,o];refine GW (jR _ _ _) λg f b=>?_;unfold dV oG;obtain⟨h,i,j,k,m⟩:=a.cb g f b;have p:=(gs.1 b).1;simp_all
def nT(b:T):T:={b with bd:=λa=>if a<144 then b.bd a else 0,held:=λ_=>none}
theorem qG(b:T)(c:a<144):(nT b).bd a=b.bd a:=Q7 c
theorem ZV(a:T):nT (nT a)=nT a:=by simp_all[nT]
theorem sR(a:GG t):GG (nT t):=⟨a.ok.congr rfl rfl rfl rfl λ_ b=>qG t b,a.os.congr rfl rfl λ_ b=>qG t b,a.t0⟩
theorem ZU(a:T):iV (nT a)=iV a:=by grind[iV,map_congr_left,qG]
theorem ZX(a:T):aQ (nT a)=aQ a:=by unfold aQ cG;rw[ZU];rfl
theorem Ct(c:GG t)(f:t.turn<=1000000000):bS (aQ t)=nT t:=by have b:=LM c.ok c.os ⟨c.t0,f⟩;have e:(λa=>if a<144 then aD (aQ t) false (5+a)else 0)=λa=>if a<144 then t.bd a else 0:=(by grind[Reads.nb]);have d:=LO b;rw[xR]at d;unfold bS;rw[e,d,b.n0,b.n2,b.n3,b.n4];rfl
theorem ZW(a:List UInt8):nT (bS a)=bS a:=by simp_all[nT,bS]
theorem FD(f g:List UInt8):∀(d c e:Nat) (a:List UInt8),(fO d c e (a++f)).2=c+a.length->0<a.length->fO d c e (a++g)=fO d c e (a++f)
 |_,_,_,[],_,b=>qg
 |0,c,e,h::a,b,_=>by have:0=c+(a.length+1):=b;omega
 |d+1,c,e,h::a,b,_=>by
  rw[X1]at b |-;rw[X1];unfold fO at b |-
  split
  ·rename_i j
   rw[Q7 j]at b;rw[Z7]at b;cases a with
   |nil=>grind[vY]
   |cons i a=>exact FD f g d _ _ (i::a) qo qs
  rfl
def uJ(a:List UInt8)(b:Nat):Prop:=0<a.length/\∀c,aT (a++c)=(b,a.length)
theorem Ah(b:(aT (l++B)).2=l.length)(a:0<l.length):uJ l (aT (l++B)).1:=⟨a,λc=>by have:=FD B c 5 0 0 l (by rw[Z9];exact b) a;grind[aT]⟩
theorem wL:dP l B=true↔∃a,B=l++a:=by grind[dP,take_append_drop,take_left]
abbrev gP(c:UInt8)(b a:List UInt8):List UInt8:=[75,c]++(b++a)
theorem vF{d:UInt8}{k:List UInt8}(c:cA d l=some (B,k)):∃a,uJ a B.length/\B.length<=40000/\l=gP d a B++(cP (gP d a B)++k):=by
 unfold cA at c
 split at c
 ·rename_i m
  obtain⟨b,rfl⟩:=wL.1 m;have r:([75,d]++b).drop 2=b:=rfl;rw[r]at c
  split at c
  ·cases c
  rename_i n
  have t:=(nE b).1;obtain⟨a,f,rfl,i⟩:∃a f,b=a++f/\(aT b).2=a.length:=⟨b.take (aT b).2,b.drop (aT b).2,qa,by grind⟩;have p:=Ah i qo;obtain⟨h,j⟩:=nn ((aT (a++f)).1);rw[i,j,Xq4]at n c;rw[j]at p;obtain⟨g,e,rfl,q⟩:∃B e,f=B++e/\B.length=h:=⟨f.take h,f.drop h,(take_append_drop _ _).symm,by grind⟩;subst q;rw[Xq4,take_left]at c;have s:([75,d]++(a++(g++e))).take (([75,d]++(a++(g++e))).length-e.length)=gP d a g:=by have:[75,d]++(a++(g++e))=gP d a g++e:=qs;rw[this,m8,Nat.add_sub_cancel,take_left]
  rw[s]at c
  split at c
  ·rename_i o
   obtain⟨u,rfl⟩:=wL.1 o;grind[iI]
  grind
 grind
theorem TR{a:UInt8}(b:List UInt8)(e:uJ l B.length)(i:B.length<=40000):cA a (gP a l B++(cP (gP a l B)++b))=some (B,b):=by have g:gP a l B++(cP (gP a l B)++b)=[75,a]++(l++(B++(cP (gP a l B)++b))):=qs;have f:(gP a l B++(cP (gP a l B)++b)).drop 2=l++(B++(cP (gP a l B)++b)):=qg;unfold cA;rw[Q7 (wL.2 ⟨_,g⟩),f,e.2];dsimp only;have h:∀c d:List UInt8,(c++d).take ((c++d).length-d.length)=c:=qa;rw[Xq4,Xq4,take_left,h,Z0 (by have:=e.1;rw[m8];omega),Q7 (wK _ _)];grind[iI]
theorem DD{b:UInt8}{a:List UInt8}(d:cA b l=some (B,a))(c:List UInt8):cA b (l++c)=some (B,a++c):=by grind[vF,append_assoc,TR]
theorem mM{d:UInt8}{a:List UInt8}(b:cA d l=some (B,a)):a.length+7<=l.length/\B.length<=40000:=by obtain⟨f,c,e,rfl⟩:=vF b;have:=c.1;grind[iI]
def kV(b:T)(a:List UInt8):T:=nT (aO b (dX a) (dY a)).1
abbrev jD(b:T)(a:List UInt8):Prop:=gG a/\aD a false 0=b.turn/\b.turn<1000000000
def cO:Nat->T->List UInt8->T×List UInt8
 |0,a,b=>(a,b)
 |d+1,a,b=>match cA 1 b with
  |none=>(a,b)
  |some (c,r)=>if jD a c then cO d (kV a c) r else(a,b)
theorem lH(b:cA 1 l=none):∀a,cO a t l=(t,l)
 |0=>rfl
 |a+1=>by grind[cO]
theorem pH{b:List UInt8}(c:cA 1 l=some (B,b))(d:¬jD t B):∀a,cO a t l=(t,l)
 |0=>rfl
 |a+1=>by grind[cO]
theorem mU{b:List UInt8}(c:cA 1 l=some (B,b))(d:jD t B)(a:Nat):cO (a+1) t l=cO a (kV t B) b:=by grind[cO]
theorem tR:∀(c a:Nat) (d:T) (b:List UInt8),b.length<=c->b.length<=a->cO c d b=cO a d b:=by
 intro c
 induction c with
 |zero=>grind[eq_nil_of_length_eq_zero,lH,rR]
 |succ c l=>
  intro a d b j k;cases e:cA 1 b with
  |none=>grind[lH]
  |some i=>
   obtain⟨g,m⟩:=i
   by_cases f:jD d g
   ·have:=(mM e).1;obtain⟨a,rfl⟩:∃h,a=h+1:=⟨a-1,by omega⟩;rw[mU e f,mU e f];grind
   grind[pH]
theorem Gt(g:List UInt8):∀(d:Nat) (c f:T) (b:List UInt8),cO d c b=(f,[])->∀a,(b++g).length<=a->cO a c (b++g)=cO a f g:=by
 intro d
 induction d with
 |zero=>intro c f b e a _;obtain⟨rfl,rfl⟩:=Prod.mk.inj e;rfl
 |succ d l=>
  intro c f b e a k;cases h:cA 1 b with
  |none=>grind[lH]
  |some n=>
   obtain⟨j,p⟩:=n;have o:=(mM h).1;rw[m8]at k
   by_cases i:jD c j
   ·rw[mU h i]at e;obtain⟨a,rfl⟩:∃m,a=m+1:=⟨a-1,by omega⟩;rw[mU (DD h g) i,l _ _ _ e a qg];grind[tR]
   grind[pH]
def fG(c:List UInt8)(e:T)(d:List UInt8):Prop:=∃a b,cA 2 c=some (a,b)/\PL a/\cO b.length (bS a) b=(e,d)
theorem JO{x:List UInt8}(b:fG l t []):fG (l++x) (cO x.length t x).1 (cO x.length t x).2:=by obtain⟨a,f,c,d,e⟩:=b;refine⟨a,f++x,DD c x,d,?_⟩;rw[Gt x _ _ _ _ e _ qo];grind[tR]
theorem Au{a:List UInt8}(b:fG l t B)(c:fG l s a):t=s/\B=a:=by obtain⟨d,j,f,_,h⟩:=b;obtain⟨e,k,g,_,i⟩:=c;grind
theorem VS(f:GG t)(a:Tn)(m:t.turn<1000000000)(d:a.1.length<=10000/\a.2.length<=10000)(b:(dG t.turn a.1 a.2).length<=40000):cO (cU t a).length t (cU t a)=(nT (dR t a),[]):=by
 have c:cA 1 (cU t a)=some (dG t.turn a.1 a.2,[]):=by have:=DH 1 (dG t.turn a.1 a.2) [] b;rwa[Zq6]at this
 obtain⟨k,l,g,h⟩:=Eo (LN t.turn a.1 a.2 ⟨f.t0,by omega⟩ d.1 d.2);have i:jD t (dG t.turn a.1 a.2):=qg;have:=(mM c).1;obtain⟨e,b⟩:∃j,(cU t a).length=j+1:=⟨(cU t a).length-1,by omega⟩;rw[b,mU c i];unfold kV;rw[g,h];exact lH (rR 1) e
theorem VT(b:Tn)(d:(dG t.turn b.1 b.2).length<=40000)(e:a<(cU t b).length):∀c,cO c t ((cU t b).take a)=(t,(cU t b).take a):=lH (TT 1 _ a d e)
theorem sV(a:GG t)(b:t.turn<=1000000000):fG (bE 2 (aQ t)) (nT t) []:=by have c:=pK a b;have:=DH 2 (aQ t) [] qo;rw[Zq6]at this;exact⟨_,_,this,Jo a.ok a.os ⟨a.t0,b⟩,by rw[Ct a b];rfl⟩
theorem MX:∀(c:Nat) (a:T) (e:List UInt8),GG a->a.turn<=1000000000->nT a=a->GG (cO c a e).1/\(cO c a e).1.turn<=1000000000/\nT (cO c a e).1=(cO c a e).1
 |0,_,_,d,h,g=>⟨d,h,g⟩
 |c+1,a,e,d,h,g=>by
  cases j:cA 1 e with
  |none=>grind[lH]
  |some l=>
   obtain⟨b,m⟩:=l
   by_cases f:jD a b
   ·rw[mU j f];have i:=nV d.ok (dX b) (dY b) f.2.2;have n:=i.tn;have p:=d.t0;have o:=f.2.2;have k:GG (aO a (dX b) (dY b)).1:=⟨i.ok,qN d.ok d.os _ _,by omega⟩;exact MX c _ m (sR k) (by show(aO a (dX b) (dY b)).1.turn<=_;omega) (ZV _)
   grind[pH]
theorem kB(d:fG l t B):GG t/\t.turn<=1000000000/\nT t=t:=by obtain⟨a,c,_,b,g⟩:=d;obtain⟨e,f⟩:=tC a;have:=MX c.length _ c ⟨b.ok,b.os,e⟩ f (ZW a);grind
theorem ZL(a:ByteArray)(b:eV a):pos a 0 144<144/\pos a 1 144<144/\gr a (pos a 0 144)=0/\gr a (pos a 1 144)=0/\pos a 0 144≠pos a 1 144:=by obtain⟨c,d⟩:=xX a 0 144 (by rw[b.2.2.2.1];decide);obtain⟨e,f⟩:=xX a 1 144 (by rw[b.2.2.2.2];decide);grind[FI]
theorem wC(b c d e:Int)(a:Cl):dC [bD 1 0 1 b c 40,bD 2 1 1 d e 40] a=if a=(d,e)then some 2 else if a=(b,c)then some 1 else none:=rfl
theorem wT(a:ByteArray)(p:eV a):GOk (cB a):=by
 obtain⟨m,n,v,w,r⟩:=ZL a p;obtain⟨e,h⟩:=nm (pos a 0 144);obtain⟨c,i⟩:=nm (pos a 1 144);have k:(cB a).us=[bD 1 0 1 ((e%12:Nat):Int) ((e/12:Nat):Int) 40,bD 2 1 1 ((c%12:Nat):Int) ((c/12:Nat):Int) 40]:=by rw[h,i];rfl
 rw[<-h,<-i]at r;rw[<-h]at m v;rw[<-i]at n w;have l:∀b,b<144->aE ((b%12:Nat):Int) ((b/12:Nat):Int)=true:=λb q=>by grind[aE]
 have z:∀b,b<144->ci ((b%12:Nat):Int) ((b/12:Nat):Int)=b:=λb q=>by grind[ci]
 have B:¬((((e%12:Nat):Int),((e/12:Nat):Int)):Cl)=(((c%12:Nat):Int),((c/12:Nat):Int)):=by grind
 refine⟨?_,?_,?_,by simp[cB],by simp[cB],λf _=>WL a f,by grind,by grind[aG],by grind[aG],by grind[aG]⟩
 ·grind[Rise]
 ·intro d s;have t:d∈(cB a).us:=s
  show UOk (gr a) (dC (cB a).us) 3 d
  rw[k]at t |-;have u:d=bD 1 0 1 ((e%12:Nat):Int) ((e/12:Nat):Int) 40\/d=bD 2 1 1 ((c%12:Nat):Int) ((c/12:Nat):Int) 40:=qg;obtain rfl|rfl:=u
  ·exact⟨l e m,qg,by grind[wC],.inl rfl,.inl rfl,by simp[dE],by simp,by simp,.inl rfl⟩
  exact⟨l c n,qg,by grind[wC],.inr rfl,.inl rfl,by simp[dE],by simp,by simp,.inl rfl⟩
 intro g f o;have j:dC (cB a).us g=some f:=o
 show ∃d∈(cB a).us,d.id=f/\(d.x,d.y)=g
 rw[k]at j |-;rw[wC]at j
 by_cases A:g=(((c%12:Nat):Int),((c/12:Nat):Int))
 ·simp_all
 simp_all
theorem wU(a:ByteArray):OS (cB a):=by intro d c;have b:d∈[bD 1 0 1 ((pos a 0 144%12:Nat):Int) ((pos a 0 144/12:Nat):Int) 40,bD 2 1 1 ((pos a 1 144%12:Nat):Int) ((pos a 1 144/12:Nat):Int) 40]:=c;simp at b;obtain rfl|rfl:=b<;>exact .inl ⟨rfl,rfl,rfl,rfl⟩
def NB(a:Int):ByteArray:=⟨(bG a.toNat).toArray⟩
theorem eW(a:0<=n/\n<=1000000000):(NB n).size<=5:=by have b:(128:Nat)^5=34359738368:=qd;exact jZ 5 n.toNat qo qo
theorem eT(a:Int)(c:0<=a/\a<=1000000000)(b:World):Cs 101 #[ii a] b (R0 b (.string (NB a))):=by have d:(128:Nat)^6=4398046511104:=qd;have:=yF 5 a.toNat qo qo b;rw[show((a.toNat:Nat):Int)=a by omega]at this;exact this
theorem Ki(v w y z A B C D E F x:Int)(f g h i j l n p q r s:ByteArray)(b:World)(O:Hi (∀b:World,Cs 101 #[ii v] b (R0 b (.string f))))(b0:f.size<=5)(P:Hi (∀b:World,Cs 101 #[ii w] b (R0 b (.string g))))(b1:g.size<=5)(R:Hi (∀b:World,Cs 101 #[ii y] b (R0 b (.string h))))(b2:h.size<=5)(S:Hi (∀b:World,Cs 101 #[ii z] b (R0 b (.string i))))(b3:i.size<=5)(V:Hi (∀b:World,Cs 101 #[ii A] b (R0 b (.string j))))(b4:j.size<=5)(W:Hi (∀b:World,Cs 101 #[ii B] b (R0 b (.string l))))(b5:l.size<=5)(X:Hi (∀b:World,Cs 101 #[ii C] b (R0 b (.string n))))(b6:n.size<=5)(Y:Hi (∀b:World,Cs 101 #[ii D] b (R0 b (.string p))))(b7:p.size<=5)(N8:Hi (∀b:World,Cs 101 #[ii E] b (R0 b (.string q))))(b8:q.size<=5)(N9:Hi (∀b:World,Cs 101 #[ii F] b (R0 b (.string r))))(b9:r.size<=5)(Q:Hi (∀b:World,Cs 101 #[ii x] b (R0 b (.string s))))(ay:s.size<=5):Cs 102 #[.agg #[ii v,ii w,ii y,ii z,ii A,ii B,ii C,ii D,ii E,ii F,ii x]] b (R0 b (.string (f++g++h++i++j++l++n++p++q++r++s))):=by
 obtain⟨u,H,J,L⟩:=al b (.cells #[ii v,ii w,ii y,ii z,ii A,ii B,ii C,ii D,ii E,ii F,ii x] 85);have e:∀d,Fr [] u d->(λd:World=>(cl d b.heap.size 0 v/\cl d b.heap.size 1 w/\cl d b.heap.size 2 y/\cl d b.heap.size 3 z/\cl d b.heap.size 4 A/\cl d b.heap.size 5 B/\cl d b.heap.size 6 C/\cl d b.heap.size 7 D/\cl d b.heap.size 8 E/\cl d b.heap.size 9 F/\cl d b.heap.size 10 x)/\Fr [] u d) d:=λd I=>by have k:=I.qH L;exact⟨⟨aB k,aB k,aB k,aB k,aB k,aB k,aB k,aB k,aB k,aB k,aB k⟩,I⟩
 have s1:f.size+g.size<=9223372036854775807:=qo;have s2:f.size+g.size+h.size<=9223372036854775807:=qo;have M:f.size+g.size+h.size+i.size<=9223372036854775807:=qo;have s4:f.size+g.size+h.size+i.size+j.size<=9223372036854775807:=qo;have s5:f.size+g.size+h.size+i.size+j.size+l.size<=9223372036854775807:=qo;have s6:f.size+g.size+h.size+i.size+j.size+l.size+n.size<=9223372036854775807:=qo;have s7:f.size+g.size+h.size+i.size+j.size+l.size+n.size+p.size<=9223372036854775807:=qo;have s8:f.size+g.size+h.size+i.size+j.size+l.size+n.size+p.size+q.size<=9223372036854775807:=qo;have s9:f.size+g.size+h.size+i.size+j.size+l.size+n.size+p.size+q.size+r.size<=9223372036854775807:=qo;have az:f.size+g.size+h.size+i.size+j.size+l.size+n.size+p.size+q.size+r.size+s.size<=9223372036854775807:=qo;have t:=e u.drew ((r0 _ _).drew);have N:=aA J;clear J L
 delta Cs;go_in
 go_wp2_with fail
 rw[<-H];clear H
 go_cut [3] (fun M wx=>M=.string (f++g++h++i++j++l++n)/\Fr [] u wx)
 ·refine rg 28 e t λa=>?_
  iterate 2 refine tn 28 a ?_
  refine ta 3 a ?_;refine ta 4 a ?_;refine ta 7 a ?_;refine ta 8 a ?_;refine ta 11 a ?_;refine ta 12 a ?_;refine ta 15 a ?_;refine ta 16 a ?_;refine ta 19 a ?_;refine ta 20 a ?_;refine ta 23 a ?_;refine ta 24 a ?_;refine rd 2 fun K hK=>?_;have c:=aA hK;clear hK;go_simp;refine cm (O.o _) ?_;rintro m be ⟨rfl,ae⟩;have aq:=a.2.qT ae;clear a;refine c.o _ _ (e _ aq) (fun a=>?_);clear c K;try simp only[Act.put,Z]
  refine rd 5 fun K hK=>?_;have c:=aA hK;clear hK;go_simp;refine cm (P.o _) ?_;rintro m bi ⟨rfl,ai⟩;have au:=a.2.qT ai;clear a;refine c.o _ _ (e _ au) (fun a=>?_);clear c K;try simp only[Act.put,Z]
  refine ta 6 a ?_;refine rd 9 fun K hK=>?_;have c:=aA hK;clear hK;go_simp;refine cm (R.o _) ?_;rintro m bk ⟨rfl,ak⟩;have aw:=a.2.qT ak;clear a;refine c.o _ _ (e _ aw) (fun a=>?_);clear c K;try simp only[Act.put,Z]
  refine ta 10 a ?_;refine rd 13 fun K hK=>?_;have c:=aA hK;clear hK;go_simp;refine cm (S.o _) ?_;rintro m bb ⟨rfl,ab⟩;have an:=a.2.qT ab;clear a;refine c.o _ _ (e _ an) (fun a=>?_);clear c K;try simp only[Act.put,Z]
  refine ta 14 a ?_;refine rd 17 fun K hK=>?_;have c:=aA hK;clear hK;go_simp;refine cm (V.o _) ?_;rintro m bd ⟨rfl,ad⟩;have ap:=a.2.qT ad;clear a;refine c.o _ _ (e _ ap) (fun a=>?_);clear c K;try simp only[Act.put,Z]
  refine ta 18 a ?_;refine rd 21 fun K hK=>?_;have c:=aA hK;clear hK;go_simp;refine cm (W.o _) ?_;rintro m bf ⟨rfl,af⟩;have ar:=a.2.qT af;clear a;refine c.o _ _ (e _ ar) (fun a=>?_);clear c K;try simp only[Act.put,Z]
  refine ta 22 a ?_;refine rd 25 fun K hK=>?_;have c:=aA hK;clear hK;go_simp;refine cm (X.o _) ?_;rintro m bg ⟨rfl,ag⟩;have Zq:=a.2.qT ag;clear a;refine c.o _ _ (e _ Zq) (fun a=>?_);clear c K;try simp only[Act.put,Z]
  iterate 2 refine tn 28 a ?_
  refine wpAnyH_done qk ?_ _
  go_wp2_with fail
  go_meet
  exact⟨rfl,a.2⟩
 obtain⟨rfl,ax⟩:=hcut;clear t;have t:=e wc.drew (ax.drew)
 go_wp2_with fail
 refine rg 18 e t λa=>?_
 iterate 3 refine tn 18 a ?_
 refine ta 5 a ?_;refine ta 6 a ?_;refine ta 9 a ?_;refine ta 10 a ?_;refine ta 13 a ?_;refine ta 14 a ?_;refine rd 3 fun K hK=>?_;have c:=aA hK;clear hK;go_simp;refine cm (Y.o _) ?_;rintro m bh ⟨rfl,ah⟩;have Zr:=a.2.qT ah;clear a;refine c.o _ _ (e _ Zr) (fun a=>?_);clear c K;try simp only[Act.put,Z]
 refine ta 4 a ?_;refine rd 7 fun K hK=>?_;have c:=aA hK;clear hK;go_simp;refine cm (N8.o _) ?_;rintro m bj ⟨rfl,aj⟩;have av:=a.2.qT aj;clear a;refine c.o _ _ (e _ av) (fun a=>?_);clear c K;try simp only[Act.put,Z]
 refine ta 8 a ?_;refine rd 11 fun K hK=>?_;have c:=aA hK;clear hK;go_simp;refine cm (N9.o _) ?_;rintro m ba ⟨rfl,aa⟩;have am:=a.2.qT aa;clear a;refine c.o _ _ (e _ am) (fun a=>?_);clear c K;try simp only[Act.put,Z]
 refine ta 12 a ?_;refine rd 15 fun K hK=>?_;have c:=aA hK;clear hK;go_simp;refine cm (Q.o _) ?_;rintro m bc ⟨rfl,ac⟩;have ao:=a.2.qT ac;clear a;refine c.o _ _ (e _ ao) (fun a=>?_);clear c K;try simp only[Act.put,Z]
 iterate 2 refine tn 18 a ?_
 refine wpAnyH_done qk ?_ _;go_wp2;go_ret;exact⟨rfl,N.o.qT a.2⟩
def NF(a:List Int):ByteArray:=⟨(aY a).toArray⟩
theorem PO:NF []=⟨#[]⟩:=rfl
theorem rD(a b:List Int):NF (a++b)=NF a++NF b:=by grind[NF,mH,lR]
theorem rE(a:Int):NF [a]=NB a:=by grind[NF,NB,aY]
theorem pO(a:List Int)(b:Int):NF (a++[b])=NF a++NB b:=by rw[rD,rE]
theorem uI(a:List Int)(b:∀c∈a,c<=1000000000):(NF a).size<=5*a.length:=by have:=jS a b;simpa[NF,ByteArray.size]using this
theorem Gh(a:U)(b:∀o∈a.qN,0<=o/\o<=1000000000)(c:World):Cs 102 #[a.val] c (R0 c (.string (NF a.qN))):=by have d:=b a.id qs;have e:=b a.owner qs;have g:=b a.kind qs;have h:=b a.x qs;have i:=b a.y qs;have j:=b a.life qs;have k:=b a.load qs;have l:=b a.what qs;have m:=b a.tox qs;have n:=b a.toy qs;have f:=b a.target qs;refine cm (Ki a.id a.owner a.kind a.x a.y a.life a.load a.what a.tox a.toy a.target (NB a.id) (NB a.owner) (NB a.kind) (NB a.x) (NB a.y) (NB a.life) (NB a.load) (NB a.what) (NB a.tox) (NB a.toy) (NB a.target) c (eT _ d) (eW d) (eT _ e) (eW e) (eT _ g) (eW g) (eT _ h) (eW h) (eT _ i) (eW i) (eT _ j) (eW j) (eT _ k) (eW k) (eT _ l) (eW l) (eT _ m) (eW m) (eT _ n) (eW n) (eT _ f) (eW f)) ?_;rintro q r ⟨rfl,p⟩;refine⟨?_,p⟩;rw[show a.qN=[]++[a.id]++[a.owner]++[a.kind]++[a.x]++[a.y]++[a.life]++[a.load]++[a.what]++[a.tox]++[a.toy]++[a.target]from rfl];simp only[pO];rw[PO,show(⟨#[]⟩:ByteArray)++NB a.id=NB a.id from by apply n9;simp[ByteArray.data_append]]
variable {g:Cl} {C:U} {w:World}
theorem xU(c:Cl->Nat)(e:Cl):∀(d:List Cl) (f:Nat×Cl),eM c (d++[e]) f=if 0<c e/\((eM c d f).1=0\/c e<(eM c d f).1)then(c e,e)else eM c d f
 |[],(b,r)=>rfl
 |a::d,(b,r)=>by
  rw[X1];unfold eM
  split
  ·exact xU c e d _
  exact xU c e d _
theorem RG.to{i:Nat}(f:RG w a b c {t with us:=t.us.set i (C.to g)})(e:t.us[i]?=some C)(d v:Int):RG ((w.setCell ⟨b,i*11+3,none⟩ (ii d)).setCell ⟨b,i*11+4,none⟩ (ii v)) a b c {t with us:=t.us.set i (C.to (d,v))}:=by have h:=f.qD (u':={C.to g with x:=d}) (v:=ii d) (i:=i) (bF e) (j:=3) qo rfl;have k:=h.qD (u':=C.to (d,v)) (v:=ii v) (i:=i) (bF (bF e)) (j:=4) qo rfl;simp_all
theorem qU(r f B:Nat)(e:T)(i:Nat)(a:U)(Q R:Int)(ah:Bool)(P:World)(w:RG P r f B e)(M:e.us[i]?=some a)(br:aE a.x a.y=true)(h1:-1000<=Q)(h2:Q<=1000)(h3:-1000<=R)(h4:R<=1000):Cs 180 #[pt r,ii i,ii Q,ii R,.bool ah] P λm w'=>m=.returned (.tuple #[])/\∃d:Cl->Nat,FarX (cH e.us e.bd) (eY Q R ah) d/\RG w' r f B {e with us:=e.us.set i (a.to (eM d (aL a.x a.y) (0,(a.x,a.y))).2)}/\Fr [f] P w':=by
 have bz:=w.len;have bx:=(gs.1 M).1;have Zs:(i:Int)<(e.us.length:Int):=qo;obtain⟨p0,p1,p2,p3⟩:=bX.1 br
 delta Cs;go_in
 go_wp2_with fail
 refine cm (Fj r f B e Q R ah _ w h1 h2 h3 h4) ?_;rintro m t ⟨d,hX,az,rfl,ac⟩;have HX:=aA hX;have aq:=(show Hi _ from zD d);have HT:=(show Hi _ from tX d);obtain⟨z,af⟩:=nm (lJ d);rw[<-af]at HT aq |-;have bf:=aA af;have bb:Hi ((prog.info? 87).map (·.size)=some z.toArray.size):=by show _=_;rw[Qx3,HT.o];exact wJ
 have HZ:Hi (zeroCells87.size=z.toArray.size):=by
  have m:z.toArray.size=144:=by rw[Qx3,HT.o]
  show _=_
  rw[m];rfl
 obtain⟨I,J⟩:=nm ((t.alloc (.cells zeroCells87 87)).setRow t.heap.size z.toArray);have ax:Fr [] P I:=by rw[J];exact(ac.alloc _).setRow _ _ (.inr ac.size)
 have ab:I.heap[t.heap.size]?=some (.cells z.toArray 87):=by rw[J];exact Qz4 _ _ _ _ _ _ (aC t _)
 have X:I.heap.size=t.heap.size+1:=by rw[J];simp[World.setRow]
 have ae:=w.qF ax;have bi:=ae.qA;obtain⟨c0,c1,c2,c3,c4,c5,c6,c7,c8,c9,bh⟩:=ae.gv.p.at M;have ar:=aA J;have an:=aA X;clear hX af J X
 go_wp2_with (refine wpList_store_row rfl 87 _ _ rfl t.heap.size z.toArray rfl rfl 87 zeroCells87 (aC t _) bb.o HZ.o aq.o ?_;rw[<-ar.o])
 obtain⟨q,L⟩:=nm (I.alloc (.cells a.arr 85));rw[<-L];obtain⟨db,aw⟩:=nm t.heap.size;obtain⟨Y,y⟩:=nm I.heap.size;rw[<-aw]at ab |-;rw[<-y];have X:=an.o;have bw:=w.lt;have cc:=w.pl;have cd:=ac.size;have n1:db≠f:=qo;have n2:Y≠f:=qo;have ay:Fr [] P q:=by rw[L];exact ax.alloc _
 have ba:q.heap[Y]?=some (.cells a.arr 85):=by rw[L,y];exact aC _ _
 have av:q.heap[db]?=some (.cells z.toArray 87):=by rw[L,eL _ _ _ qo];exact ab
 have HD:Hi (∀v,Fr [f] q v->DAt v db d):=λv hf=>by have C:=hf.heap av (qu n1);refine⟨λbt hj=>?_,λbt=>aV C⟩;rw[aB C,bf.o];simp[lJ,hj]
 have HU:=aA (λv (hf:Fr [f] q v)=>hf.heap ba (qu n2));have ai:Hi (RG q r f B {e with us:=e.us.set i (a.to (eM d (bC a.x a.y 0) (0,(a.x,a.y))).2)}):=by
  have C:=w.qF ay;have m:e.us.set i (a.to (a.x,a.y))=e.us:=yL e.us i a M
  show RG q r f B {e with us:=e.us.set i (a.to (a.x,a.y))}
  rw[m];exact C
 have HI:=aA M;have bc:=aA az;clear L ba av ab ar c0 c1 c2 c3 c4 c5 c6 c7 c8 c9 bh bi ae X an w M aw y az
 go_loopw [12,13] (fun bg ag wr=>∃b:Nat,b<=4/\ag=ii b/\bg=ii ((eM d (bC a.x a.y b) (0,(a.x,a.y))).1:Nat)/\Fr [f] q wr/\RG wr r f B {e with us:=e.us.set i (a.to (eM d (bC a.x a.y b) (0,(a.x,a.y))).2)}) (fun _ ag _=>4-(intOf ag).toNat)
 ·exact⟨0,by omega,rfl,rfl,r0 _ _,ai.o⟩
 obtain⟨b,hn,rfl,rfl,s,x⟩:=hrel;have u:=aA x;have au:=x.qA;have e5:(e.us.set i (a.to (eM d (bC a.x a.y b) (0,(a.x,a.y))).2)).length=e.us.length:=Q0;dsimp only at au;rw[e5]at au;have bu:=x.frz (i*11+3);have bv:=x.frz (i*11+4);obtain⟨_,_,_,c3,c4,_,_,_,_,_,_⟩:=x.gv.p.at (bF HI.o);have bq:=x.ne;clear x ai
 by_cases E:b<4
 ·have bp:(b:Int)<4:=qo;obtain⟨l,F⟩:∃l,sds[b]?=some l:=⟨_,Y2 (show b<sds.length from E)⟩;have bs:-1<=l.1/\l.1<=1 /\ -1<=l.2/\l.2<=1:=by have C:b=0\/b=1\/b=2\/b=3:=qo;obtain rfl|rfl|rfl|rfl:=C<;>(simp[sds]at F;subst F;decide)
  have ao:=(show Hi _ from λv:World=>tN a.x a.y b l v F qo qo qo qo);have Zq:=aA (λho=>mP a.x a.y b l F ho);have ak:=aA (λho=>mO a.x a.y b l F ho);obtain⟨h,hz⟩:=nn (a.x+l.1);obtain⟨g,hv⟩:=nn (a.y+l.2);rw[hz,hv]at ao Zq ak;have ce:-1<=h/\h<=12 /\ -1<=g/\g<=12:=qo;have y:=HU.o _ s;have ux:ca wr Y 3 (ii a.x):=aB y;have uy:ca wr Y 4 (ii a.y):=aB y;obtain⟨O,V⟩:=nn (eM d (bC a.x a.y b) (0,(a.x,a.y)));have am:Hi (∀H:Cl,eM d (bC a.x a.y b++[H]) (0,(a.x,a.y))=if 0<d H/\(O.1=0\/d H<O.1)then(d H,H)else O):=λH=>by rw[xU,V]
  have HL:=aA V;rw[V]at u c3 c4 |-;have cb:¬f=r:=λm=>bq m.symm;clear hz hv F bs y V e5
  go_wp2_with fail
  refine cm (ao.o _) ?_;rintro m w4 ⟨rfl,rfl⟩
  go_wp2_with fail
  refine cm (fC h g _) ?_;rintro m w5 ⟨rfl,rfl⟩;obtain⟨n,W⟩:=nn O.1;rw[W]at am |-;cases N:aE h g
  ·have A:=(show Hi _ from ak.o N);go_wp2;go_roundw
   ·exact⟨b+1,E,by go_num,by rw[A.o,HL.o,W],s,by rw[A.o,HL.o];exact u.o⟩
   simp[intOf];omega
  obtain⟨q0,q1,q2,q3⟩:=bX.1 N;have aa:=(HD.o _ s).at (c:=(h,g)) N;have Zr:ci h g=g.toNat*12+h.toNat:=by unfold ci;omega
  dsimp only at aa;rw[Zr]at aa;have A:=(show Hi _ from Zq.o N);have S:=(show Hi _ from am.o (h,g));have bk:=bc.o (h,g);obtain⟨k,hg⟩:=nn (d (h,g));rw[hg]at aa S bk;clear N Zr hg;have aj:Hi (¬(0<k/\(n=0\/k<n))->eM d (bC a.x a.y (b+1)) (0,(a.x,a.y))=O):=λD=>by rw[A.o,S.o,Z0 D]
  have ap:Hi ((0<k/\(n=0\/k<n))->eM d (bC a.x a.y (b+1)) (0,(a.x,a.y))=(k,(h,g))):=λD=>by rw[A.o,S.o,Q7 D]
  clear A S
  by_cases ad:0<k
  ·have bj:0<(k:Int):=qo
   by_cases bl:n=0
   ·have j:=(show Hi _ from ap.o ⟨ad,.inl bl⟩);have bm:((n:Int)==0)=true:=qt;go_wp2;go_roundw
    ·exact⟨b+1,E,by go_num,by rw[j.o],(s.setCell _ _ (.inl qs)).setCell _ _ (.inl qs),by rw[j.o];exact RG.to u.o HI.o h g⟩
    simp[intOf];omega
   have bm:((n:Int)==0)=false:=qt
   by_cases bn:k<n
   ·have j:=(show Hi _ from ap.o ⟨ad,.inr bn⟩);have bo:(k:Int)<(n:Int):=qo;go_wp2;go_roundw
    ·exact⟨b+1,E,by go_num,by rw[j.o],(s.setCell _ _ (.inl qs)).setCell _ _ (.inl qs),by rw[j.o];exact RG.to u.o HI.o h g⟩
    simp[intOf];omega
   have j:=(show Hi _ from aj.o (fun D=>by omega));have bo:¬(k:Int)<(n:Int):=qo;go_wp2;go_roundw
   ·exact⟨b+1,E,by go_num,by rw[j.o,W],s,by rw[j.o];exact u.o⟩
   simp[intOf];omega
  have j:=(show Hi _ from aj.o (fun D=>ad D.1));have bj:¬0<(k:Int):=qo;go_wp2;go_roundw
  ·exact⟨b+1,E,by go_num,by rw[j.o,W],s,by rw[j.o];exact u.o⟩
  simp[intOf];omega
 have bp:¬(b:Int)<4:=qo;have be:Hi (b=4):=by show _=_;omega
 go_wp2_with fail
 refine Q5 (v:=.tuple #[]) (Q6 rfl _ _ _) rfl ⟨rfl,d,HX.o,?_,ay.qO.trans s qs⟩;have:=u.o;rw[be.o,sS]at this;exact this
variable {F:Cl->Bool} {X:List U} {R:List Value} {d e:Nat} {H:TypeId} {D:U} {v:Value}
theorem RG.of(d:RG w a b c t)(e:s.turn=t.turn)(f:s.next=t.next)(g:s.s0=t.s0)(h:s.s1=t.s1)(i:s.bd=t.bd)(j:s.us=t.us):RG w a b c s:=by obtain⟨k,m,o,q,u,x,z⟩:=t;obtain⟨l,n,p,r,v,y,A⟩:=s;dsimp only at e f g h i j;subst e f g h i j;exact⟨d.cell,d.fz,d.row,d.len,d.ne⟩
theorem RG.relist(g:RG w a b c t)(l:PRow w d e X)(k:a≠d)(j:X.length<=1000):RG (w.setCell ⟨a,148,none⟩ (.slice (so d) X.length e)) a d e {t with us:=X}:=by
 refine⟨λf i=>?_,λf=>by grind[World.frozen?_setCell,RG.fz],l.fr (S:=[a]) ((r0 _ _).setCell _ _ (.inl qs)) qg,j,k⟩
 by_cases h:f=148
 ·subst h;rw[eA _ _ _ _ _ g.qA];rfl
 rw[cE _ _ _ _ _ _ qo,g.cell f i];grind[cW]
structure RStep (w:World) (gb pb:Nat) (R:T) (w':World):Prop where
  h:∃pb' cap',RG w' gb pb' cap' R/\Fr [gb,pb] w w'/\(pb'=pb\/w.heap.size<=pb')
theorem uP(a b c d:Int):bJ a b c d=bJ c d a b:=by grind[bJ]
theorem RG.went(h:TOk t)(g:t.us[d]?=some C){x y:Int}{onto:Bool}(k:∀e:Cl,F e=eY x y onto e)(l:eY x y onto (C.x,C.y)=false){f:Cl->Nat}(j:FarX (cH t.us t.bd) (eY x y onto) f)(i:RG w a b c {t with us:=t.us.set d (C.to (eM f (aL C.x C.y) (0,(C.x,C.y))).2)}):RG w a b c (cY (t.qM C (dB t C F)) (C.to (dB t C F))):=by rw[Km h (Q8 g) (λe _=>k e) l j]at i;rw[kW (t:=t.qM C (dB t C F)) (u:=C) (u':=C.to (dB t C F)) h.rise g rfl];grind[RG.of]
theorem RG.idled(g:TOk t)(f:t.us[d]?=some C)(e:RG w a b c {t with us:=t.us.set d C.idle}):RG w a b c (cY t C.idle):=by rw[kW (u':=C.idle) g.rise f rfl];exact e
theorem QD(a:C.what=3):eS t C=cY (fI t C).2 (fI t C).1:=by grind[eS,dJ]
theorem WQ(e:TOk t)(j:bP t.us=false)(f:t.us[a]?=some C)(c:t.us[b]?=some D)(g:bJ C.x C.y D.x D.y=true):cY (t.qR b) C=t.qR b:=by
 have l:=AK g;have i:a≠b:=qg;have m:=e.all D qg;unfold T.qR;rw[c];dsimp only
 split
 ·have h:=e.gone c j;obtain⟨n,d⟩:=Zx5 (Zx2.2 ⟨a,i,f⟩);exact lW h.rise d
 have k:Rise (t.us.set b {D with life:=D.life-3}):=e.rise.set c rfl;have d:(t.us.set b {D with life:=D.life-3})[a]?=some C:=by rw[getElem?_set_ne qo];exact f
 exact lW k d
def fN(c:List U)(a b:Nat):List U:=c.take (min a b)++(c.take b).drop (a+1)
theorem SM(b:List U)(a:Nat):fN b a 0=[]:=by simp[fN]
theorem SJ(b:a<X.length):fN X a X.length=X.eraseIdx a:=by grind[fN]
theorem SL:fN X a (a+1)=fN X a a:=by grind[fN,Nat.min_eq_left,drop_of_length_le,length_take]
theorem SK(c:X[b]?=some C)(f:b≠a):fN X a (b+1)=fN X a b++[C]:=by have d:=(gs.1 c).1;have g:=OQ c;have e:(X.take b).length=b:=qg;grind[fN,Nat.min_eq_right,drop_of_length_le,length_append,Nat.min_eq_left,append_assoc]
theorem Ch{base:Nat}{size:Nat}(c:w.ownsRow base H size v a R)(d:v.ownBlock=some b):base<=b:=bT c d
theorem Fp(f d i:Nat)(a:T)(m:Nat)(b:U)(h:World)(y:RG h f d i a)(O:a.us[m]?=some b)(ai:TOk a)(ay:bP a.us=false)(hw:b.what=3):Cs 182 #[pt f,ii m] h λn k=>n=.returned (.tuple #[])/\RStep h f d (eS a b) k:=by
 rw[QD hw];clear hw;obtain⟨ad,hR⟩:∃ad:T,ad=cY (fI a b).2 (fI a b).1:=⟨_,rfl⟩;rw[<-hR];have HR:=aA hR;clear hR;have df:=y.len;have db:=(gs.1 O).1;have dc:(m:Int)<(a.us.length:Int):=qo;have hu:=ai.all b (Q8 O);obtain⟨p0,p1,p2,p3⟩:=bX.1 hu.on;have hc:=y.qA;obtain⟨c0,c1,c2,c3,c4,c5,c6,c7,c8,c9,cx⟩:=y.gv.p.at O;obtain⟨l,Zr,af,t⟩:=al h (.cells b.arr 85);have ar:=aA Zr;have aa:=y.qF af;have I:=aA aa;have J:=aA ai;have HI:=aA O;have HH:=aA y;clear ai O y Zr
 delta Cs;go_in
 go_wp2_with fail
 rw[<-ar.o];clear c0 c1 c2 c3 c4 c5 c6 c7 c8 c9 hc;have cf:ca l h.heap.size 10 (ii b.target):=aB t;cases D:bI a.us b.target with
 |none=>
  have u:Hi (fI a b=(b.idle,a)):=by show _=_;unfold fI;rw[D]
  have s:=pD f d i a.us b.target l I.o.gv;rw[D]at s;refine cm s ?_;rintro n w2 ⟨rfl,rfl⟩;dsimp only[fJ];clear s
  go_wp2_with fail
  refine cm (qT f d i a m b _ I.o HI.o) ?_;rintro n w3 ⟨rfl,bv,bt⟩
  go_wp2_with fail
  refine Zq8 (v:=.tuple #[]) (Q6 rfl _ _ _) rfl ⟨rfl,d,i,by rw[HR.o,u.o];exact RG.idled J.o HI.o bv,(af.qO (S:=[f,d])).trans bt qs,.inl rfl⟩
 |some j=>
  obtain⟨v,C,-⟩:=kU D;have bz:=(gs.1 C).1;have de:(j:Int)<(a.us.length:Int):=qo;have dd:¬(j:Int)<0:=qo;have bb:=J.o.all v (Q8 C);obtain⟨q0,q1,q2,q3⟩:=bX.1 bb.on;have dj:-1000<=v.life/\v.life<=1000:=by have:=bb.lf;have:=GU v.kind;omega
  have u:Hi (fI a b=if bJ b.x b.y v.x v.y=true then(b,a.qR j)else(b.to (dB a b λx=>bJ v.x v.y x.1 x.2),a.qM b (dB a b λx=>bJ v.x v.y x.1 x.2))):=by show _=_;unfold fI;rw[D];dsimp only;rw[C]
  have s:=pD f d i a.us b.target l I.o.gv;rw[D]at s;have br:=I.o.qA;obtain⟨d0,d1,d2,d3,d4,X,d6,d7,d8,d9,bo⟩:=I.o.gv.p.at C;obtain⟨g,L⟩:=nm (l.alloc (.cells v.arr 85));have ag:Fr [] h g:=by rw[L];exact af.alloc _
  have aj:g.heap[h.heap.size]?=some (.cells b.arr 85):=by rw[L,eL _ _ _ (aH t)];exact t
  have Q:g.heap[l.heap.size]?=some (.cells v.arr 85):=by rw[L];exact aC _ _
  have bl:=aA L;have q:=aA C;have ba:l.heap.size=h.heap.size+1:=by rw[ar.o];simp
  obtain⟨F,am⟩:=nm l.heap.size;have bk:=aA am;have bj:=aA ba;have cq:ca l h.heap.size 3 (ii b.x):=aB t;have cr:ca l h.heap.size 4 (ii b.y):=aB t;have dk:=aH t;clear L D C ba;refine cm s ?_;rintro n w2 ⟨rfl,rfl⟩;dsimp only[fJ];clear s
  go_wp2_with fail
  rw[<-bl.o];clear d0 d1 d2 d3 d4 d6 d7 d8 d9 bo br;rw[<-am]at Q |-;clear am;have ux:ca g h.heap.size 3 (ii b.x):=aB aj;have uy:ca g h.heap.size 4 (ii b.y):=aB aj;have vx:ca g F 3 (ii v.x):=aB Q;have vy:ca g F 4 (ii v.y):=aB Q;have vl:ca g F 5 (ii v.life):=aB Q;have z:=HH.o.qF ag;have ap:=aA z;clear cq cr;refine cm (tJ b.x b.y v.x v.y _ qo qo qo qo qo qo qo qo) ?_;rintro n w3 ⟨rfl,rfl⟩;cases M:bJ b.x b.y v.x v.y
  ·rw[M]at u
   go_wp2_with fail
   refine cm (qU f d i a m b v.x v.y false _ ap.o HI.o hu.on qo qo qo qo) ?_;rintro n w4 ⟨rfl,cs,hX,A,ah⟩
   go_wp2_with fail
   refine Zq8 (v:=.tuple #[]) (Q6 rfl _ _ _) rfl ⟨rfl,d,i,?_,(ag.qO (S:=[f,d])).trans ah qs,.inl rfl⟩;rw[HR.o,u.o,Z0 qs];exact RG.went (x:=v.x) (y:=v.y) (onto:=false) J.o HI.o (λx=>uP _ _ _ _) M hX A
  rw[M]at u;have ct:=aA M;have ae:=z.qA;have fz:=z.frz (j*11+5);obtain⟨_,_,_,_,_,X,_,_,_,_,_⟩:=z.gv.p.at q.o;have ax:=z.ne;have dg:¬d=f:=λn=>ax n.symm;have di:=HH.o.pl;have cg:¬F=d:=by have:=bk.o;have:=bj.o;omega
  clear z ux uy vx vy;have V:∀k,Fr [d] g k->(λk:World=>ca k f 148 (.slice (so d) a.us.length i)/\cl k F 5 v.life) k:=λk hf=>⟨(hf.cell _ _ (aI ae) (qu ax)).trans ae,(hf.cell _ _ (aI vl) (qu cg)).trans vl⟩;have KF:Fr [d] g g.drew:=(r0 _ _).drew;have K0:=V _ KF;go_wp2
  go_region_held (fun k:World=>ca k f 148 (.slice (so d) a.us.length i)/\ca k F 5 (ii v.life)) (first|with_reducible exact K0|(refine V _ (Fr.drew ?_);exact(r0 _ _).setCell _ _ (.inl qs))|(refine V _ ?_;exact KF.setCell _ _ (.inl qs))) (fail)
  obtain⟨E,ak⟩:∃E:U,E={v with life:=v.life-3}:=⟨_,rfl⟩;obtain⟨r,Y⟩:=nm ((g.setCell ⟨d,j*11+5,none⟩ (ii (v.life-3))).drew);have A:RG r f d i {a with us:=a.us.set j E}:=by have h5:=ap.o.qD (u':={v with life:=v.life-3}) (v:=ii (v.life-3)) q.o (j:=5) qo rfl;rw[Y,ak];exact h5.qF ((r0 _ _).drew)
  have ah:Fr [d] g r:=by rw[Y];exact((r0 _ _).setCell _ _ (.inl qs)).drew
  have HV:=(show Hi _ from ak);have bm:=aA Y;clear Y K0 KF V vl ae X fz ak;rw[show IntKind.i64.wrap (v.life-3)=v.life-3 by rw[Zq2];omega,<-bm.o];have au:=A.qA;have e5:(a.us.set j E).length=a.us.length:=Q0;dsimp only at au;rw[e5]at au;obtain⟨_,_,_,_,_,X,_,_,_,_,_⟩:=A.gv.p.at (bF q.o);rw[show E.life=v.life-3 by rw[HV.o]]at X;have bf:=(show Hi _ from WQ J.o ay HI.o q.o M);have bh:Hi (ad=a.qR j):=by show _=_;rw[HR.o,u.o];simpa using bf.o
  have an:=(ag.qO (S:=[d])).trans ah qs;have R:=aA A;clear A aj Q t cf
  by_cases hd:v.life-3<=0
  ·have aq:Hi (a.qR j={a with us:=a.us.eraseIdx j,held:=λc=>if c=(v.x,v.y)then none else a.held c}):=by
    show _=_
    unfold T.qR;rw[q.o];dsimp only;rw[Q7 hd]
   obtain⟨e,P⟩:=nm (a.us.set j E);have bd:Hi (e.eraseIdx j=a.us.eraseIdx j):=by show _=_;rw[P,eraseIdx_set_eq]
   have w:Hi (e.length=a.us.length):=by show _=_;rw[P];exact e5
   have cu:Hi (Ppl r d e):=by rw[P];exact R.o.gv.p
   rw[<-P]at R;have aa:=J.o.gone q.o ay;have bw:0<(a.us.eraseIdx j).length:=by
    have h1:=aa.bs;dsimp only at h1;cases he:a.us.eraseIdx j with
    |nil=>rw[he]at h1;simp at h1
    |cons cw Zq=>simp
   clear P e5 aa;obtain⟨cn,Zs,ch,cj,ck⟩:=Z2 jU;go_wp2
   go_loopw [8,9] (fun co m wr=>∃c:Nat,c<=a.us.length/\m=ii c/\wr.ownsRow r.heap.size 85 11 co (fN e j c).length ((fN e j c).flatMap U.cells)/\Fr [] r wr) (fun _ m _=>a.us.length-(intOf m).toNat)
   ·exact⟨0,Z3 _,rfl,by rw[SM];exact⟨rfl,.inl ⟨rfl,rfl⟩⟩,r0 _ _⟩
   obtain⟨c,hk,rfl,hown,N⟩:=hrel;have B:=R.o.qF N;have av:=B.qA;dsimp only at av;rw[w.o]at av
   by_cases ab:c<a.us.length
   ·have cd:(c:Int)<(a.us.length:Int):=qo
    by_cases aw:c=j
    ·have cc:((c:Int)!=(j:Int))=false:=qt;have ac:Hi (fN e j (c+1)=fN e j c):=by show _=_;rw[aw];exact SL
     go_wp2;go_roundw
     ·exact⟨c+1,ab,by go_num,by rw[ac.o];exact hown,N⟩
     simp[intOf];omega
    have cc:((c:Int)!=(j:Int))=true:=qt;obtain⟨H,hx⟩:∃H,e[c]?=some H:=⟨e[c]'(by rw[w.o];exact ab),Y2 (by rw[w.o];exact ab)⟩;have ac:=aA (SK hx aw);have cy:(fN e j c).length<=1000:=by unfold fN;rw[m8,Qz8,Qz2,Qz8,w.o];omega
    obtain⟨x0,x1,x2,x3,x4,x5,x6,x7,x8,x9,dm⟩:=(B.gv.p).at hx;have HN:Hi (∀(W:World) (j:Nat) (ao:Value),H.cells[j]?=some ao->(W.alloc (.cells H.arr 85)).cell? ((⟨W.heap.size,0,none⟩:Addr).add j)=some ao):=by intro W j ao hy;rw[i7,Z9,aB (aC W _)];simpa using hy
    have bc:=aA (λZq (hb:u8.ownBlock=some Zq)=>Ch hown hb);have bg:Hi ((wr.alloc (.cells H.arr 85)).ownsRow r.heap.size 85 11 u8 (fN e j c).length ((fN e j c).flatMap U.cells)):=aF hown ((r0 [] wr).alloc _) qs;have dl:=N.size;clear hown B hx
    go_wp2_with (at_builtin;refine wpList_append_own _ rfl _ _ 82 rfl r.heap.size 85 cn zeroU.val 11 88 Qq8 Zs ch cj ck rfl qd u8 (fN e j c).length ((fN e j c).flatMap U.cells) rfl bg.o ⟨wr.heap.size,0,none⟩ 1 1 H.cells rfl rfl (HN.o wr) qc qm qo qt ?_;intro y' w5 ce bx dh)
    have bu:=(N.alloc _).grow bx (fun bp hg=>.inr (bc.o bp hg));go_roundw
    ·refine⟨c+1,ab,by go_num,?_,bu⟩;rw[ac.o,m8,Qz5];simpa using ce
    simp[intOf];omega
   have cd:¬(c:Int)<(a.us.length:Int):=qo;have cb:c=e.length:=by rw[w.o];omega
   rw[cb,SJ (by rw[w.o];exact bz),bd.o]at hown;obtain⟨cp,bn,rfl,bq,az⟩:=PRow.qW hown rfl bw;have cz:=B.fz 148;have da:=R.o.lt;have be:=aA B;have bi:=aA az;clear B hown az
   go_wp2_with fail
   refine Q5 (v:=.tuple #[]) (Q6 rfl _ _ _) rfl ⟨rfl,cp,bn,?_,?_,.inr (Y3 an.size bq)⟩
   ·rw[bh.o,aq.o];exact(be.o.relist bi.o qo (qh (length_eraseIdx_le a.us j))).of rfl rfl rfl rfl rfl rfl
   exact((an.mono (S':=[f,d]) qs).qT N).setCell _ _ (.inl qs)
  have aq:Hi (a.qR j={a with us:=a.us.set j {v with life:=v.life-3} }):=by
   show _=_
   unfold T.qR;rw[q.o];dsimp only;rw[Z0 hd]
  go_wp2_with fail
  refine Q5 (v:=.tuple #[]) (Q6 rfl _ _ _) rfl ⟨rfl,d,i,?_,an.mono qs,.inl rfl⟩;grind[Hi.o]
