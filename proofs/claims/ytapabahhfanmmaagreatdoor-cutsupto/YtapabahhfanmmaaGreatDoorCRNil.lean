import Derived.Test.YtapabahhfanmmaaGreatDoorCRClean
import Derived.Test.YtapabahhfanmmaaGreatDoorCMay7
import Derived.Test.YtapabahhfanmmaaGreatDoorCRStand
import Derived.Test.YtapabahhfanmmaaGreatDoorCBookW
import Derived.Test.YtapabahhfanmmaaGreatDoorCRefM
namespace Go.Proofs.YtapabahhfanmmaaGreatDoor
open Go.RowKit List Go.Proofs.Tryz
set_option maxHeartbeats 4000000
set_option maxRecDepth 100000
variable {A:Gf} {S:List Nat} {O:List Stp} {a b c:Nat} {t:T} {u v:Value}
theorem Eu(s:World->Prop)(g:World)(h:RS g a b c S t v u A O)(y:∀F∈cG t,0<=F/\F<=1000000000)(M:t.us.length<=100)(Y:(aQ t).length<=40000)(r:Hi (∀d,Fr [] g d->Cs 46 #[.pointer (some ⟨a,149,none⟩),.string ⟨#[108,111,103]⟩,.string ⟨(bE 2 (aQ t)).toArray⟩] d λf E=>f=.returned (.tuple #[])/\s E/\E.rangeAt a 0 (gl t b c))):Cs 20 #[pt a] g λf d=>f=.returned (.tuple #[])/\s d:=by
 have m:Hi (∀d,Fr [] g d->Cs 38 #[.agg (gl t b c).toArray] d (R0 d (.string ⟨(aQ t).toArray⟩))):=λd z=>zJ b c t d (h.row.fr z qs) y M;have k:Hi (∀d,Cs 44 #[.int .u8 2,.string ⟨(aQ t).toArray⟩] d (R0 d (.string ⟨(bE 2 (aQ t)).toArray⟩))):=λd=>vU 2 (aQ t) d qo;obtain⟨gs,q⟩:=nm (gl t b c);have D:gs.length=149:=by grind[eI]
 obtain⟨W,w⟩:=nm (aQ t);obtain⟨V,n⟩:=nm (bE 2 (aQ t));rw[<-n,<-q]at r;have x:=h.all;rw[<-q]at x m;rw[<-n]at k;rw[<-w]at m k;have HI:Hi ((prog.info? 90).map (·.size)=some gs.length):=by
  show _=_
  rw[dD,D]
 clear q D h w y n;have l:∀d,Fr [] g d->d.rangeAt a 0 gs:=λd z P Q N=>by have X:=x P Q N;grind[Fr.cell,aI]
 have p:Fr [] g g.drew:=(r0 _ _).drew;have e:=l _ p
 delta Cs;go_in
 go_wp2_with (go_at_call 36;refine(lX a _).mono ?_;rintro f R ⟨rfl,rfl⟩)
 refine wp_region_held (S:=fun d=>d.rangeAt a 0 gs) qk ?_;refine ty 0 (pt a) rfl (fun j _=>by go_simp) e ?_;simp only[Act.put];refine ty 1 (pt a) rfl (fun j _=>by go_simp) e ?_;simp only[Act.put];refine ty 2 (.pointer (some ⟨a,149,none⟩)) rfl (fun j _=>by go_simp) e ?_;simp only[Act.put];refine ty 3 (pt a) rfl (fun j _=>by go_simp) e ?_;simp only[Act.put];refine ty 4 (pt a) rfl (fun j _=>by go_simp) e ?_;simp only[Act.put];refine ty 5 (pt a) rfl (fun j _=>by go_simp) e ?_;simp only[Act.put];refine wpAnyH_take (i:=6) (oi:=_) (v:=.agg gs.toArray) rfl qk qk qk (fun _ _ _ h=>h) (yieldsIf_load_mid qk 90 (.tmp 9) rfl a 0 rfl gs _ qg X9 rfl HI.o) e ?_;simp only[Act.put];refine wpAnyH_ready (rs:=[7]) qk qs ?_;refine J1 rfl (fun K hK=>?_) J2;rw[Q7 (by rfl)]
 go_wp2_with (go_at_call 38;refine cm (m.o _ p) ?_;rintro f R ⟨rfl,J⟩)
 have B:=p.qT J;refine hK.out _ _ (l _ B) (λ_=>?_);clear hK;refine wpAnyH_ready (rs:=[8]) qk qs ?_;refine J1 rfl (λK hK=>?_) J2;rw[Q7 (by rfl)]
 go_wp2_with (go_at_call 44;refine cm (k.o _) ?_;rintro f w2 ⟨rfl,L⟩)
 have C:=B.qT L;refine hK.out _ _ (l _ C) (λ_=>?_);clear hK;refine wpAnyH_ready (rs:=[9]) qk qs ?_;refine J1 rfl (λK hK=>?_) J2;rw[Q7 (by rfl)]
 go_wp2_with (go_at_call 46;refine cm (r.o _ C) ?_;rintro f w3 ⟨rfl,I,H⟩)
 refine hK.out _ _ H (λ_=>?_);clear hK;refine wpAnyH_done qk ?_ _;exact Q5 (v:=.tuple #[]) (Q6 rfl _ _ _) rfl ⟨rfl,I⟩
theorem LW{S:List Nat}(f:World)(q:RS f a b c S t v u A O)(z:O.length<=9999990)(E:Tb f){ns:List Nm}(C:∀e,(A e).isSome=true->e∈ns)(B:ns.length<=1000000000)(l:∀s∈cG t,0<=s/\s<=1000000000)(y:t.us.length<=100)(F:(aQ t).length<=40000):Cs 20 #[pt a] f λg p=>g=.returned (.tuple #[])/\∃d o m n k,A d=none/\d≠LOG/\d.length<=30/\RPost f a S t (λe=>if e=d then none else if e=LOG then some (o,bE 2 (aQ t))else A e) (O++[bV d (bE 2 (aQ t)),bQ d,dI d LOG]) p b c m n k:=by
 have x:(bE 2 (aQ t)).length<=1000000000:=by have:=jZ 5 (aQ t).length qo qo;unfold bE dF;rw[m8,iI,m8,m8];grind
 refine Eu _ f q l y F λp j=>?_;have i:=q.qF j;have r:=Gl a (gl t b c) 97 v u S A O (bE 2 (aQ t)) p i.bl i.sve i.nrb (E.qF j) C B z x;rw[eI]at r;refine cm r ?_;rintro g L ⟨rfl,d,o,m,n,k,H,I,J,D⟩;have h:=i.post D;exact⟨rfl,⟨d,o,m,n,k,H,I,J,h.rs,(j.qO (S:=a::S)).trans h.fr qg,λw l=>(h.old w l).imp_right (λg=>Y3 j.size g)⟩,h.rs.all⟩
variable {n:Int} {X:List U} {w:World}
structure Bnd (t:T):Prop where
 len:t.us.length<=100
 nx:t.next<=1000000000
 st:(0<=t.s0/\t.s0<=1000000000)/\(0<=t.s1/\t.s1<=1000000000)
 bd:∀i,i<144->0<=t.bd i
 us:∀u∈t.us,0<=u.owner/\0<=u.load
theorem mB{f:Array Oper}{g:List Oper}{b:Oper}{d:Act}{e:Exit->Act->World->Prop}(j:b.guard=none)(c:TypeId)(k:b.op=.build c #[])(a:Array Value)(n:prog.built c []=some a)(h:wpList prog f e g (d.put b.dst (.agg a)) w):wpList prog f e (b::g) d w:=
 wpList_plain j λ_ hK=>by
  have i:prog.built c ((#[]:Array (Nat×Operand)).map λ(l,m)=>(l,d.eval m)).toList=some a:=by grind
  unfold Oper.wp execOp;simp only[k,Sem.run_bind,run_build w c _ a i,Result.andThen_ok];exact hK _ _ h
theorem nI(b:a<X.length):gD X (a+1)=(X[a]'b).id:=by
 show(X[a]?.map U.id).getD 0=_
 grind
theorem sH(d:mE X n):∀(b a:Nat) (c:a+b+1<X.length),(X[a]'qo).id<(X[a+b+1]'c).id
 |0,a,c=>by have:=d.1 (a+1) _ (Y2 c);grind[nI]
 |b+1,a,c=>by have e:=sH d b a qo;have f:=d.1 (a+b+1+1) _ (Y2 (show a+b+1+1<X.length by omega));grind[nI]
theorem wE(d:mE X n):Rise X:=by
 show Pairwise _ X
 rw[Zj9];intro b c f e g;obtain⟨a,rfl⟩:∃a,c=b+a+1:=⟨c-b-1,by omega⟩;exact sH d a b e
theorem wD(d:mE X n):∀f∈X,1<=f.id/\f.id<n:=λf k=>by
 obtain⟨b,g⟩:=Zx5 k;obtain⟨h,rfl⟩:=gs.1 g;have l:=d.1 0 _ (Y2 (show 0<X.length by omega));have m:gD X 0=0:=rfl;have j:=d.2;obtain⟨c,i⟩:∃c,X.length=c+1:=⟨X.length-1,by omega⟩;rw[i,nI qo]at j;constructor
 ·obtain e|e:=Zj6 b
  ·grind
  obtain⟨a,rfl⟩:∃a,b=0+a+1:=qa;have:=sH d a 0 h;omega
 obtain e|e:=Zx0 b c
 ·obtain⟨a,rfl⟩:∃a,c=b+a+1:=⟨c-b-1,by omega⟩;have:=sH d a b qo;omega
 grind
theorem XI(d:Rise X)(aA:∀c∈X,1<=c.id/\c.id<n)(g:1<=n):mE X n:=by
 refine⟨λh i e=>YK d qg e,?_⟩;obtain a|a:=Zj6 X.length
 ·rw[a];show(0:Int)<n;omega
 obtain⟨b,f⟩:∃b,X.length=b+1:=qa;grind[nI]
theorem wQ(a:n=1\/n=2\/n=3):nJ n=dE n:=by grind[nJ,dE]
theorem wV(i:Bnd t):((∀c,c<144->t.bd c<=10)/\mE t.us t.next/\((∀a∈t.us,kY t.bd a/\dZ t a)/\(lC t.us).Nodup)/\(t.us.countP (aG 0)<=1/\t.us.countP (aG 1)<=1/\1<=t.us.countP (aG 0)+t.us.countP (aG 1)))↔(GOk t/\OS t):=by
 constructor
 ·rintro⟨o,h,⟨k,A⟩,B,C,D⟩;have m:=wE h;have aA:=wD h;refine⟨?_,λa b=>(k a b).2.2⟩
  show TOk {t with held:=dC t.us}
  refine⟨m,λa b=>?_,(by grind[XD]),?_,i.st,λc f=>⟨i.bd c f,o c f⟩,i.len,B,C,D⟩
  ·obtain⟨J,r,L,j,s,u⟩:=(k a b).1;have F:=BN (k a b).1;have q:=i.us a b;have H:pZ a.kind=if a.kind=2 then 5 else 0:=rfl;refine⟨s,u,FM A b,by omega,F,⟨r,by grind[wQ]⟩,?_,aA a b,(k a b).2.1⟩;rw[H]at j
   by_cases e:a.kind=2
   ·rw[Q7 e]at j;exact⟨q.2,j,λ_=>e⟩
   rw[Z0 e]at j;exact⟨q.2,by omega,λM=>by omega⟩
  refine⟨?_,i.nx⟩
  show 1<=t.next
  obtain e|e:=Zj6 t.us.length
  ·have:=h.2;rw[e]at this;have P:gD t.us 0=0:=rfl;omega
  have:=aA _ (getElem_mem e);omega
 rintro⟨o,h⟩;have d:TOk {t with held:=dC t.us}:=o;have m:Rise t.us:=d.rise;have aA:∀n∈t.us,1<=n.id/\n.id<t.next:=λn I=>(d.all n I).id;refine⟨λc f=>(d.bd c f).2,XI m aA d.nx.1,⟨λa b=>?_,?_⟩,d.b0,d.b1,d.bs⟩
 ·have g:=d.all a b;refine⟨⟨by grind[UOk.ow],g.lf.1,by rw[wQ g.kd];exact g.lf.2,?_,g.on,g.gr⟩,g.od,h a b⟩;have N:=g.ld
  show a.load<=if a.kind=2 then 5 else 0
  omega
 rw[Nodup,pairwise_map,Zj9];intro c p f l E e;have w:dC t.us _=_:=(d.all _ (getElem_mem f)).hd;have z:dC t.us _=_:=(d.all _ (getElem_mem l)).hd;have v:((t.us[c]'f).x,(t.us[c]'f).y)=((t.us[p]'l).x,(t.us[p]'l).y):=e;rw[v,z]at w;have O:=Zj9.1 m c p f l E;grind
theorem xQ(a:List UInt8):(aD a false 149<=100)=((bS a).us.length<=100):=by grind[tB]
theorem tA(a:List UInt8)(c:(bS a).us.length<=100):Bnd (bS a):=by
 refine⟨c,(iR a false 4).2,⟨iR a false 2,iR a false 3⟩,λe b=>?_,λf d=>?_⟩
 ·simp_all[oZ,iR]
 obtain⟨e,b⟩:=Zx5 d;have:=sZ a b;rw[<-this];simp_all[iR]
theorem ZM(g s p:Nat)(c:T)(k:World)(b:GS k g s p c)(x:Bnd c):Cs 133 #[pt g] k λe a=>BP (GOk c/\OS c) k e a:=by
 rw[<-propext (wV x)];obtain⟨D,v⟩:∃i:Prop,i=(∀F,F<144->c.bd F<=10):=⟨_,rfl⟩;obtain⟨t,q⟩:∃i:Prop,i=mE c.us c.next:=⟨_,rfl⟩;obtain⟨u,r⟩:∃i:Prop,i=((∀n∈c.us,kY c.bd n/\dZ c n)/\(lC c.us).Nodup):=⟨_,rfl⟩;obtain⟨N,w⟩:∃i:Prop,i=(c.us.countP (aG 0)<=1/\c.us.countP (aG 1)<=1/\1<=c.us.countP (aG 0)+c.us.countP (aG 1)):=⟨_,rfl⟩;have H:Hi (∀a,Fr [] k a->Cs 173 #[pt g] a λe l=>BP D a e l):=λa j=>by rw[v];exact BJ g c a (b.fr j qs qs).board
 have I:Hi (∀a,Fr [] k a->Cs 174 #[pt g] a λe l=>BP t a e l):=λa j=>by rw[q];exact XG g s p c a (b.fr j qs qs)
 have J:Hi (t->∀a,Fr [] k a->Cs 175 #[pt g] a λe l=>BP u a e l):=λm a j=>by rw[q]at m;rw[r];exact Cv g s p c a (b.fr j qs qs) (wE m) (wD m)
 have L:Hi (u->∀a,Fr [] k a->Cs 176 #[pt g] a λe l=>BP N a e l):=λm a j=>by rw[r]at m;rw[w];exact QU g s p c a (b.fr j qs qs) (λn E=>by have S:=(m.1 n E).1.1;have h:=x.us n E;omega)
 rw[<-v,<-q,<-r,<-w];clear b x v q r w
 delta Cs;go_in
 go_wp2_with fail
 refine cm (H.o _ (r0 _ _)) ?_;rintro e V ⟨h,rfl,f,y⟩;have d:=aA f;clear f;cases h
 ·go_wp2;go_ret;exact⟨false,rfl,⟨λb=>(by cases b),λb=>d.o.2 b.1⟩,y⟩
 have M:Hi D:=d.o.1 rfl;clear d
 go_wp2_with fail
 refine cm (I.o _ y) ?_;rintro e W ⟨h,rfl,f,O⟩;have d:=aA f;clear f;have z:=y.qT O;cases h
 ·go_wp2;go_ret;exact⟨false,rfl,⟨λb=>(by cases b),λb=>d.o.2 b.2.1⟩,z⟩
 have B:Hi t:=d.o.1 rfl;clear d
 go_wp2_with fail
 refine cm (J.o B.o _ z) ?_;rintro e X ⟨h,rfl,f,P⟩;have d:=aA f;clear f;have A:=z.qT P;cases h
 ·go_wp2;go_ret;exact⟨false,rfl,⟨λb=>(by cases b),λb=>d.o.2 b.2.2.1⟩,A⟩
 have C:Hi u:=d.o.1 rfl;clear d
 go_wp2_with fail
 refine cm (L.o C.o _ A) ?_;rintro e Y ⟨h,rfl,f,Q⟩;have d:=aA f;clear f;have R:=A.qT Q;go_wp2;go_ret;exact⟨h,rfl,⟨λb=>⟨M.o,B.o,C.o,d.o.1 b⟩,λb=>d.o.2 b.2.2.2⟩,R⟩
variable {C:U}
def T.qU(a:T)(b:Nat):T:={a with us:=a.us.take b}
def fV(b:T)(a:U):Bool:=
 if a.what=2 then a.kind==2&&(aE a.tox a.toy&&b.bd (ci a.tox a.toy)!=10)
 else if a.what=3/\bI b.us a.target=none then a.kind==3&&(decide (1<=a.target)&&decide (a.target<b.next))
 else bZ b a a.cm
theorem Jj(c:C∈X.take a):∃b,b<a/\X[b]?=some C:=by grind[getElem?_of_mem]
theorem Fx:kF C C.cm=C↔(C.tox=(if C.what=1\/C.what=2\/C.what=4 then C.tox else 0)/\C.toy=(if C.what=1\/C.what=2 then C.toy else 0)/\C.target=(if C.what=3 then C.target else 0)):=by obtain⟨a,b,d,e,f,g,h,i,j,k,c⟩:=C;grind[kF]
theorem Ca(f:Rise t.us)(aA:∀d∈t.us,1<=d.id/\d.id<t.next):(fV t C=true/\kF C C.cm=C)↔dZ t C:=by
 rw[Fx];unfold fV bZ;obtain a|a|a|a|a|a|a:=rA C.what
 ·grind[iS]
 ·grind[iS]
 ·simp only[a];constructor
  ·rintro⟨_,j,k,l⟩;exact⟨.inl a,.inl ⟨a,by omega,by omega,by omega⟩⟩
  rintro⟨_,⟨_,g,h,i⟩|⟨c,_⟩|⟨c,_⟩|⟨c,_⟩⟩
  ·grind
  all_goals omega
 ·by_cases b:C.kind=2\/C.kind=3
  ·grind[qJ]
  grind[iS]
 ·by_cases b:C.kind=2
  ·grind[qJ]
  grind[iS]
 ·by_cases b:C.kind=3
  ·rw[JW ⟨a,b⟩ aA f];have e:((⟨C.cm.unit,C.cm.what,0,0,C.cm.target⟩:Cm)=C.cm)↔(C.tox=0/\C.toy=0):=by grind
   rw[e];cases m:bI t.us C.target with
   |none=>grind[FP]
   |some n=>grind[FQ]
  grind[iS]
 by_cases b:C.kind=1
 ·grind[JV]
 grind[iS]
theorem BC(c:X[a]?=some C)(b:Int):(X.take (a+1)).countP (aG b)=(X.take a).countP (aG b)+(if aG b C=true then 1 else 0):=by grind[take_succ_eq_append_getElem]
theorem BF:dK X n=none↔X.countP (aG n)=0:=by grind[dK,findIdx?_eq_none_iff,countP_eq_zero]
theorem BD(c:∀a b,X[a]?=some b->aG n b=true->dK (X.take a) n=none):X.countP (aG n)<=1:=by
 have:∀a,a<=X.length->(X.take a).countP (aG n)<=1:=by
  intro a
  induction a with
  |zero=>grind
  |succ a f=>intro d;have e:X[a]?=some X[a]:=qg;grind[BC,aG,BF]
 grind[take_length]
theorem BE(e:X.countP (aG n)<=1)(b:X[a]?=some C)(d:aG n C=true):dK (X.take a) n=none:=by rw[BF];have c:=BC b n;grind[List.take_sublist]
theorem BG(b:0<X.countP (λa=>a.kind==1))(c:∀a∈X,a.owner=0\/a.owner=1):1<=X.countP (aG 0)+X.countP (aG 1):=by grind[countP_pos_iff,aG]
theorem WK(f:Bnd t)(k:GOk t)(B:OS t)(c:t.us[a]?=some C):eE (t.qU a) C (gD t.us a)/\(C.kind=1->dK (t.us.take a) C.owner=none):=by
 obtain⟨_,d,⟨u,e⟩,v,w,_⟩:=(wV f).2 qg;have j:=Q8 c;have b:UOk t.bd (dC t.us) t.next C:=k.all C j;refine⟨⟨d.1 a C c,b.id.2,by grind[UOk.ow],by grind[UOk.kd],by grind[UOk.kd],?_,b.lf.1,b.lf.2,b.ld.2.1,?_⟩,λo=>?_⟩
 ·show cH (t.us.take a) t.bd (C.x,C.y)=true
  unfold cH;have g:=b.gr;have l:=b.on;simp only[l,g,Bool.true_and,beq_self_eq_true,Bool.not_eq_true'];unfold lI;rw[any_eq_false];intro D m;obtain⟨n,h,i⟩:=Jj m;simp only[Bool.and_eq_true,beq_iff_eq,not_and];intro r s;obtain⟨z,p⟩:=gs.1 c;obtain⟨A,q⟩:=gs.1 i;refine Zj9.1 e n a qg qg h ?_;grind
 ·have:=b.ld;omega
 grind[UOk.ow,aG,BE]
theorem WI{t:T}(n:Bnd t)(s:∀b,b<144->t.bd b<=10)(g:∀h a,t.us[h]?=some a->eE (t.qU h) a (gD t.us h)/\(a.kind=1->dK (t.us.take h) a.owner=none))(u:0<t.us.countP (λa=>a.kind==1)):(Rise t.us/\∀p∈t.us,1<=p.id/\p.id<t.next)/\(∀a∈t.us,a.kind=1\/a.kind=2\/a.kind=3)/\((∀a∈t.us,dZ t a)->GOk t/\OS t):=by
 have k:mE t.us t.next:=by
  refine⟨λh a d=>(g h a d).1.1,?_⟩;have:0<t.us.length:=by grind
  obtain⟨l,w⟩:∃l,t.us.length=l+1:=qa;rw[w,nI qo];exact(g l _ qg).1.2.1
 have v:∀a∈t.us,a.kind=1\/a.kind=2\/a.kind=3:=λa d=>by obtain⟨b,c⟩:=Zx5 d;have:=(g b a c).1;obtain⟨_,_,_,A,E,_⟩:=this;omega
 refine⟨⟨wE k,wD k⟩,v,λz=>(wV n).1 ⟨s,k,⟨λa d=>⟨?_,z a d⟩,?_⟩,?_,?_,?_⟩⟩
 ·obtain⟨b,c⟩:=Zx5 d;obtain⟨_,_,m,_,_,j,q,C,D,B⟩:=(g b a c).1;have e:cH (t.us.take b) t.bd (a.x,a.y)=true:=j;unfold cH at e;simp only[Bool.and_eq_true,beq_iff_eq]at e;refine⟨m,q,by grind[wQ],?_,e.1,e.2.1⟩
  show a.load<=if a.kind=2 then 5 else 0
  omega
 ·rw[Nodup,pairwise_map,Zj9];intro b f c i H r;have F:((t.us[b]'c).x,(t.us[b]'c).y)=((t.us[f]'i).x,(t.us[f]'i).y):=r;obtain⟨_,_,_,_,_,j,_⟩:=(g f _ (Y2 i)).1;have e:cH (t.us.take f) t.bd ((t.us[f]'i).x,(t.us[f]'i).y)=true:=j;unfold cH at e;simp only[Bool.and_eq_true,Bool.not_eq_true']at e;have o:=e.2.2;unfold lI at o;rw[any_eq_false]at o;have I:(t.us[b]'c)∈t.us.take f:=by rw[Qk9];exact⟨b,by grind⟩
  grind
 ·grind[BD,aG]
 ·grind[BD,aG]
 exact BG u (λa d=>by obtain⟨b,c⟩:=Zx5 d;have m:=(g b a c).1.2.2.1;have J:=(n.us a d).1;omega)
variable {p:Int} {l:List UInt8} {x:World}
def iM(b:T)(a:Value):List Value:=(range 149).map (cW b a)
theorem oJ(b:T)(a:Value):(iM b a).length=149:=by grind[iM]
theorem nG(c:T)(b:Value)(d:a<149):(iM c b)[a]?=some (cW c b a):=by grind[iM]
def iU(a:T)(b:Nat)(c:Int):T:=if b=0 then{a with turn:=c}else if b<145 then{a with bd:=λd=>if d=b-1 then c else a.bd d}else if b=145 then{a with s0:=c}else if b=146 then{a with s1:=c} else{a with next:=c}
theorem Dw(d:T)(c:Value)(b a:Nat)(e:Int)(f:b<148):cW (iU d b e) c a=if a=b then ii e else cW d c a:=by grind[cW,iU]
theorem VZ(c:T)(b:Value)(a:Nat)(d:Int)(e:a<148):(iM c b).toArray.setIfInBounds a (ii d)=(iM (iU c a d) b).toArray:=by apply Zk8;intro f;rw[Zk9];grind[nG,Dw,oJ,getElem?_eq_none]
theorem VY(c:T)(e b:Value):(iM c e).toArray.setIfInBounds 148 b=(iM c b).toArray:=by
 apply Zk8;intro d;rw[Zk9]
 by_cases a:d<149
 ·rw[J6,J6,nG _ _ a,nG _ _ a];grind[oJ,cW]
 grind[oJ]
def eC(a:T)(b d:Nat):T:=⟨if 0<b then a.turn else 0,if 3<b then a.next else 0,if 1<b then a.s0 else 0,if 2<b then a.s1 else 0,λc=>if c<d then a.bd c else 0,[],λ_=>none⟩
theorem WU(a:T):iU (eC a 0 0) 0 a.turn=eC a 1 0:=by grind[iU,eC]
theorem WV(a:T):iU (eC a 1 0) 145 a.s0=eC a 2 0:=by grind[iU,eC]
theorem WW(a:T):iU (eC a 2 0) 146 a.s1=eC a 3 0:=by grind[iU,eC]
theorem WX(a:T):iU (eC a 3 0) 147 a.next=eC a 4 0:=by grind[iU,eC]
theorem WZ(b:T)(a:Nat)(c:a<144):iU (eC b 4 a) (1+a) (b.bd a)=eC b 4 (a+1):=by unfold iU eC;grind
theorem WY(c:T)(b:Value):iM (eC c 4 144) b=iM c b:=by unfold iM;apply map_congr_left;intro d a;have a:=Qk5.1 a;unfold cW eC;grind
theorem Ky:zeroCells131=(iM (eC (bS []) 0 0) (.slice none 0 0)).toArray:=qk
theorem XA(a b:T):eC a 0 0=eC b 0 0:=by grind[eC]
structure RQ (w0:World) (l:List UInt8) (sb A n:Nat) (t':T) (pv:Value) (Q:Prop) (w:World):Prop where
 ex:∃(k:Nat) (bad:Bool) (t:T),SC w sb l k bad/\RP (¬PL l) l n k bad/\w.heap[A]?=some (.cells (iM t pv).toArray 131)/\(bad=false->t=t'/\Q)
 fr:Fr [sb,A] w0 w
structure RV (w0:World) (l:List UInt8) (sb A n:Nat) (t':T) (pv:Value) (Q:Prop) (most v:Int) (w:World):Prop where
 ex:∃(k:Nat) (bad:Bool) (t:T),SC w sb l k bad/\RP (¬PL l) l (n+1) k bad/\w.heap[A]?=some (.cells (iM t pv).toArray 131)/\(bad=false->t=t'/\Q/\v=aD l false n/\v<=most)
 bd:0<=v/\v<=1000000000
 fr:Fr [sb,A] w0 w
theorem RQ.drew{d:Prop}(g:RQ w l a b c t v d x):RQ w l a b c t v d x.drew:=by obtain⟨⟨m,f,n,e,h,i,j⟩,k⟩:=g;exact⟨⟨m,f,n,⟨e.all,e.le⟩,h,i,j⟩,k.drew⟩
theorem RQ.num{f:Prop}(p:RQ w l a b c t v f x)(J:a≠b)(z:l.length<=2000000)(d:Int)(A:0<=d/\d<=1000000000)(u:(aM l false (c+1)).2=true\/d<aD l false c->¬PL l):Cs 138 #[pt a,ii d] x λg i=>∃e,g=.returned (ii e)/\RV w l a b c t v f d e i:=by obtain⟨⟨B,j,D,q,r,s,H⟩,y⟩:=p;refine cm (qY (¬PL l) a l c B j d A x q r z u) ?_;rintro g i ⟨e,C,k,rfl,m,n,E,o,F,h⟩;refine⟨e,rfl,⟨C,k,D,m,n,h.heap s qg,λI=>?_⟩,o,y.trans h qs⟩;grind
theorem RV.put{t' t2:T}{e:Prop}(j:RV w l a b c t' v e n p x)(z:a≠b)(d:Nat)(r:d<148)(A:iU t' d (aD l false c)=t2)(f:Prop)(u:e->aD l false c<=n->f):RQ w l a b (c+1) t2 v f (x.setCell ⟨b,d,none⟩ (ii p)):=by obtain⟨⟨s,h,g,k,m,o,t⟩,_,q⟩:=j;refine⟨⟨s,h,iU g d p,⟨by grind[Below.heap_setCell,SC.all],k.le⟩,m,by rw[lY o,VZ g v d p r],λy=>?_⟩,q.setCell _ _ qs⟩;grind
theorem RV.keep{d:Prop}(e:RV w l a b c t v d n p x):RQ w l a b (c+1) t v (d/\p=aD l false c/\p<=n) x:=by obtain⟨⟨m,g,o,h,i,j,k⟩,_,f⟩:=e;exact⟨qg,f⟩
theorem RV.cell{d:Prop}(f:RV w l a b c t v d n p x){k:Nat}(h:k<149):∃e,x.cell? ⟨b,k,none⟩=some e:=by obtain⟨⟨u,m,i,o,q,g,r⟩,_,s⟩:=f;exact⟨_,by rw[aB g,J6];exact nG i v h⟩
theorem RV.fz{d:Prop}(e:RV w l a b c t v d n p x)(g:Nat):x.frozen? ⟨b,g,none⟩=false:=by obtain⟨⟨o,h,q,i,j,f,k⟩,_,m⟩:=e;exact aV f
theorem KV(d:PL l)(c:a<=150+11*(bS l).us.length):(aM l false a).2=false:=by
 cases b:(aM l false a).2
 ·rfl
 have:=yB b _ c;grind[PL.ne]
theorem xV(c:a<150)(b:PL l->aD l false a<=n):(aM l false (a+1)).2=true\/n<aD l false a->¬PL l:=by grind[KV]
theorem qM(b:a<150):(aM l false (a+1)).2=true\/1000000000<aD l false a->¬PL l:=xV b (λ_=>(iR l false a).2)
theorem Db(c:a<144):(aM l false (5+a+1)).2=true\/10<aD l false (5+a)->¬PL l:=xV qo (λb=>by have:=(b.ok.bd a c).2;grind[oZ])
theorem Dc:(aM l false (149+1)).2=true\/100<aD l false 149->¬PL l:=xV qo (λa=>a.len)
theorem Df(c:a<(bS l).us.length):(aM l false (150+11*a+11)).2=true->¬PL l:=λb d=>by grind[KV]
variable {d:Nat} {y z:World}
set_option maxRecDepth 100000
theorem RY:prog.built 131 []=some zeroCells131:=qk
theorem Fm(h:Nat)(c:T)(a b:Int)(f:World)(m:c.us=[])(g:∀i,i<144->f.cell? ⟨h,1+i,none⟩=some (ii (c.bd i)))(s:f.cell? ⟨h,148,none⟩=some (.slice none 0 0)):Cs 184 #[pt h,ii a,ii b] f (R0 f (.bool (cH c.us c.bd (a,b)))):=by
 delta Cs;go_in
 go_wp2_with fail
 refine(fC a b _).mono ?_;rintro r y ⟨rfl,rfl⟩;have d:Hi (cH c.us c.bd (a,b)=(aE a b&&(c.bd (ci a b)==0&&true))):=by show _=_;rw[m];rfl
 cases e:aE a b
 ·rw[e]at d;go_wp2;go_ret;exact⟨by rw[d.o];rfl,r0 _ _⟩
 rw[e]at d;obtain⟨u,v,w,x⟩:=bX.1 e;have g:=g _ (eN e);obtain⟨j,k⟩:=nn (c.bd (ci a b));rw[k]at g d;have l:1+ci a b=1+b.toNat*12+a.toNat:=by grind[ci]
 rw[l]at g;clear k e
 by_cases n:j=0
 ·subst n;go_wp2
  go_loopw [8] (fun q wr=>q=ii 0/\f=wr) (fun _ _=>0)
  ·grind
  obtain⟨rfl,rfl⟩:=hrel;go_wp2;go_ret;exact⟨by rw[d.o];rfl,r0 _ _⟩
 have p:(j==0)=false:=qg;have t:(j !=0)=true:=qg;go_wp2;go_ret;exact⟨by rw[d.o,p];rfl,r0 _ _⟩
theorem Fd(b:Nat)(c:Int)(a:World)(e:a.cell? ⟨b,148,none⟩=some (.slice none 0 0)):Cs 137 #[pt b,ii c] a (R0 a (ii (fJ (dK [] c)))):=by
 delta Cs;go_in
 go_wp2
 go_loopw [5] (fun d wr=>d=ii 0/\a=wr) (fun _ _=>0)
 ·grind
 obtain⟨rfl,rfl⟩:=hrel;go_wp2;go_ret;exact⟨rfl,r0 _ _⟩
structure RLP (w0:World) (l:List UInt8) (t:T) (sb A k:Nat) (pv:Value) (w:World):Prop where
 ex:∃kk,SC w sb l kk false/\aM l false (150+11*k)=(l.drop kk,false)
 g:w.heap[A]?=some (.cells (iM t pv).toArray 131)
 own:w.ownsRow w0.heap.size 85 11 pv k ((t.us.take k).flatMap U.cells)
 nil:k=0->pv=.slice none 0 0
 st:∀j v,j<k->t.us[j]?=some v->eE (t.qU j) v (gD t.us j)/\(v.kind=1->dK (t.us.take j) v.owner=none)
 fr:Fr [sb,A] w0 w
theorem RLP.cell{k:Nat}(c:RLP w l t a b k v x)(e:Fr S x y)(d:b∉S){j:Nat}(f:j<149):y.cell? ⟨b,j,none⟩=some (cW t v j):=by rw[aB (e.heap c.g d),J6];grind[nG]
theorem RLP.rg(h:RLP w l t a b c v x)(u:c<=t.us.length)(r:t.us.length<=100)(p:0<c)(s:b<w.heap.size)(z:a<w.heap.size)(y:a≠b):∃d e,v=.slice (so d) c e/\w.heap.size<=d/\∀m,Fr [a] x m->RG m b d e (t.qU c):=by
 have j:(t.us.take c).length=c:=qg;obtain⟨d,e,f,n,o⟩:=PRow.qW h.own j.symm p;rw[j]at f;refine⟨d,e,f,n,λm i=>⟨λk q=>?_,λk=>?_,o.fr i qg,?_,by omega⟩⟩
 ·rw[h.cell i qg q]
  show some (cW t v k)=some (cW (t.qU c) (.slice (so d) (t.us.take c).length e) k)
  rw[j,f];rfl
 ·exact aV (i.heap h.g qg)
 show(t.us.take c).length<=1000
 omega
theorem RLP.stands(g:RLP w l t a b c v z)(r:c<=t.us.length)(p:t.us.length<=100)(q:b<w.heap.size)(B:a<w.heap.size)(s:a≠b)(d:U)(j:Int)(e:World)(h:Fr [a] z e):Cs 140 #[pt b,d.val,ii j] e λf D=>BP (eE (t.qU c) d j) e f D:=by
 obtain f|f:=Zj6 c
 ·subst f;have u:=g.nil rfl;subst u;have k:b∉[a]:=qg;refine MN b (t.qU 0) d j e (λn i=>?_) (λn i=>?_)
  ·rw[g.cell (h.qT i) k qo];rfl
  refine Fm b (t.qU 0) d.x d.y n rfl (λm E=>?_) ?_
  ·rw[g.cell (h.qT i) k qo];unfold cW;rw[Z0 qo,Q7 qo,show 1+m-1=m by omega];rfl
  rw[g.cell (h.qT i) k qo];rfl
 obtain⟨C,o,_,_,A⟩:=g.rg r p f q B s;exact Gd b C o (t.qU c) d j e (A e h)
theorem RLP.base(h:RLP w l t a c d v x)(n:d<=t.us.length)(k:t.us.length<=100)(m:c<w.heap.size)(r:a<w.heap.size)(o:a≠c)(f:Int)(e:World)(i:Fr [a] x e):Cs 137 #[pt c,ii f] e (R0 e (ii (fJ (dK (t.us.take d) f)))):=by
 obtain g|g:=Zj6 d
 ·subst g;have p:=h.nil rfl;subst p;exact Fd c f e (by rw[h.cell i qg qo];rfl)
 obtain⟨s,j,_,_,q⟩:=h.rg n k g m r o;exact yD c s j (t.us.take d) f e (q e i).gv
theorem JG(c:U)(a:World)(b:Nat)(d:Value)(e:c.cells[b]?=some d):(a.alloc (.cells c.arr 85)).cell? ((⟨a.heap.size,0,none⟩:Addr).add b)=some d:=by simp_all[Addr.add_lit,Nat.zero_add]
theorem RLP.off(e:RLP w l t a c d v x)(g:c<w.heap.size)(h:a<w.heap.size):c∉v.ownBlock.toList/\a∉v.ownBlock.toList:=by
 constructor
 ·intro f;have:=bT e.own (b:=c) qg;omega
 intro f;have:=bT e.own (b:=a) qg;omega
theorem RLP.grown(d:RLP w l t a b c v x)(h:Fr [a] x y)(k:y.grownBy z v.ownBlock)(g:b<w.heap.size)(n:a<w.heap.size)(m:a≠b):z.cell? ⟨b,148,none⟩=some v/\z.frozen? ⟨b,148,none⟩=false:=by obtain⟨o1,p⟩:=d.off g n;have j:=Fr.grow (S:=v.ownBlock.toList) (r0 _ _) k (λo i=>.inl (by simp[i]));have e:=j.heap (h.heap d.g (by simp;exact λf=>m f.symm)) o1;exact⟨by rw[aB e,J6,nG t v qo];rfl,aV e⟩
theorem RLP.push(e:RLP w l t a b c v x)(g:Fr [a] x y)(m:SC y a l d false)(r:aM l false (150+11*c+11)=(l.drop d,false))(j:y.grownBy z v.ownBlock)(hown:z.ownsRow w.heap.size 85 11 u (c+1) ((t.us.take c).flatMap U.cells++C.cells))(J:t.us[c]?=some C)(I:eE (t.qU c) C (gD t.us c)/\(C.kind=1->dK (t.us.take c) C.owner=none))(o:b<w.heap.size)(s:a<w.heap.size)(k:a≠b):RLP w l t a b (c+1) u (z.setCell ⟨b,148,none⟩ u):=by
 obtain⟨o1,E⟩:=e.off o s;have i:=Fr.grow (S:=v.ownBlock.toList) (r0 _ _) j (λn h=>.inl qg);have q:=i.heap (g.heap e.g (by simp;exact λf=>k f.symm)) o1;have A:=i.heap m.all E;refine⟨⟨d,⟨by rw[Zz7 _ _ _ _ k];exact A,m.le⟩,r⟩,by rw[lY q,VY],?_,λf=>by omega,λM N H L=>?_,?_⟩
 ·have B:(t.us.take (c+1)).flatMap U.cells=(t.us.take c).flatMap U.cells++C.cells:=by grind[take_succ_eq_append_getElem]
  rw[B];refine aF hown ((r0 [b] z).setCell _ _ qs) (λF p=>?_);have:=bT hown p;grind
 ·grind[RLP.st]
 have D:=e.fr.trans g qs;refine Fr.setCell (D.grow j (λn h=>.inr (bT e.own h))) _ _ qs
theorem De(b:PL l)(c:(bS l).us[a]?=some C):eE ((bS l).qU a) C (gD (bS l).us a)/\(C.kind=1->dK ((bS l).us.take a) C.owner=none):=
  WK (tA l (by have:=b.len;grind[xQ])) b.ok b.os c
theorem Da(b:PL l):0<(bS l).us.countP (λa=>a.kind==1):=by have c:=b.ok.bs;dsimp only at c;have d:(bS l).us.countP (aG 0)<=(bS l).us.countP (λa=>a.kind==1):=List.countP_mono_left (by grind[aG]);have e:(bS l).us.countP (aG 1)<=(bS l).us.countP (λa=>a.kind==1):=List.countP_mono_left (by grind[aG]);omega
