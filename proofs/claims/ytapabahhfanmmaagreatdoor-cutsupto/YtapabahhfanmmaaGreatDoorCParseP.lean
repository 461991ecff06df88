import Derived.Laws.Concat
import Derived.Test.YtapabahhfanmmaaGreatDoorCRScan
namespace Go.Proofs.YtapabahhfanmmaaGreatDoor
open Go.RowKit List Go.Proofs.Tryz
theorem zT:zeroCells162=((range 144).map (λ_=>ii 0)++[ii 0,ii 0,ii 0,ii 0]).toArray:=qk
variable {w:World}
theorem VU:kJ prog 90=some [(0,1),(1,1),(2,2),(4,144),(148,1)]:=qk
theorem WB:(prog.info? 90).map (λa=>a.zero.map (·.cells))=some (some (ii 0::ii 0::ii 0::ii 0::((range 144).map (λ_=>ii 0)++[Value.slice none 0 0])).toArray):=qk
theorem RU(c:TypeId)(i:List (Nat×Nat))(j:Array Value)(a:kJ prog c=some i)(b:(prog.info? c).map (λm=>m.zero.map (·.cells))=some (some j))(h:List (Nat×Value))(e:Array Value)(l:Instr.fill (i.toArray[·]?) j h=some e):prog.built c h=some e:=by
 unfold Program.built;unfold kJ at a;cases f:prog.info? c with
 |none=>rw[f]at b;simp at b
 |some n=>
  rw[f]at b;cases d:n.zero with
  |none=>simp[d]at b
  |some o=>
   simp[d]at b;cases g:prog.underlying c with
   |none=>rw[g]at a;simp at a
   |some k=>
    rw[g]at a;cases k<;>try(simp at a;done)
    dsimp only at a |-;rw[d,a];dsimp only;rw[b];exact l
theorem RZ(a:List Value)(f:a.length=144):prog.built 90 [(1,ii 1),(2,.agg #[ii 10,ii 10]),(3,.agg a.toArray)]=some (ii 0::ii 1::ii 10::ii 10::(a++[Value.slice none 0 0])).toArray:=by
 refine RU _ _ _ VU WB _ _ ?_;obtain⟨Z,b⟩:=nm ((range 144).map (λ_=>ii 0));have g:Z.length=144:=qg;rw[<-b];clear b;rw[kL _ _ _ _ _ 1 1 rfl rfl qs];rw[show(((ii 0::ii 0::ii 0::ii 0::(Z++[Value.slice none 0 0])).toArray.toList.take 1++(ii 1).cells.toList++(ii 0::ii 0::ii 0::ii 0::(Z++[Value.slice none 0 0])).toArray.toList.drop (1+1)).toArray)=(ii 0::ii 1::ii 0::ii 0::(Z++[Value.slice none 0 0])).toArray from rfl];rw[kL _ _ _ _ _ 2 2 rfl rfl qs];rw[show(((ii 0::ii 1::ii 0::ii 0::(Z++[Value.slice none 0 0])).toArray.toList.take 2++(Value.agg #[ii 10,ii 10]).cells.toList++(ii 0::ii 1::ii 0::ii 0::(Z++[Value.slice none 0 0])).toArray.toList.drop (2+2)).toArray)=(ii 0::ii 1::ii 10::ii 10::(Z++[Value.slice none 0 0])).toArray from rfl];have e:(Value.agg a.toArray).cells.size=144:=by show a.toArray.size=144;omega
 rw[kL _ _ _ _ _ 4 144 rfl e qt];have c:(Value.agg a.toArray).cells.toList=a:=rfl;have d:(ii 0::ii 1::ii 10::ii 10::(Z++[Value.slice none 0 0])).toArray.toList.drop (4+144)=[Value.slice none 0 0]:=by grind
 rw[c,d];rfl
theorem Kp{l:Array Oper}{m:List Oper}{c:Oper}{a:Act}{k:Exit->Act->World->Prop}(s:c.guard=none)(d:TypeId)(e f g:Nat)(h i j:Operand)(t:c.op=.build d #[(e,h),(f,i),(g,j)])(n o p:Value)(x:a.eval h=n)(y:a.eval i=o)(z:a.eval j=p)(b:Array Value)(A:prog.built d [(e,n),(f,o),(g,p)]=some b)(q:wpList prog l k m (a.put c.dst (.agg b)) w):wpList prog l k (c::m) a w:=
 wpList_plain s λ_ hK=>by
  have r:prog.built d ((#[(e,h),(f,i),(g,j)]:Array (Nat×Operand)).map λ(u,v)=>(u,a.eval v)).toList=some b:=by grind
  unfold Oper.wp execOp;simp only[t,Sem.run_bind,run_build w d _ b r,Result.andThen_ok];exact hK _ _ q
theorem VN:∀a,(Instr.field 220 jV 0).run prog a=.ok (ii 40) a:=λa=>by kernel_rfl
theorem XT:(prog.info? 162).map (·.size)=some 148:=qk
theorem Hn:kJ prog 100=some [(0,149)]:=qk
theorem Ho:uF prog 100=some (some 149):=qk
theorem SG(gs:Array Value)(b:gs.size=149):prog.built 100 [(0,.agg gs)]=some gs:=by
 refine BQ _ _ _ Hn Ho _ _ (λc d=>?_);rw[kL _ _ _ _ _ 0 149 rfl (by exact b) qo];have a:c.toList.drop (0+149)=[]:=Z6 qg;rw[a]
 show some (([]++gs.toList++[]).toArray)=some gs
 simp
theorem PE{h:Array Oper}{i:List Oper}{c:Oper}{a:Act}{g:Exit->Act->World->Prop}(m:c.guard=none)(d:TypeId)(e:Nat)(f:Operand)(n:c.op=.build d #[(e,f)])(j:Value)(q:a.eval f=j)(b:Array Value)(r:prog.built d [(e,j)]=some b)(k:wpList prog h g i (a.put c.dst (.agg b)) w):wpList prog h g (c::i) a w:=
 wpList_plain m λ_ hK=>by
  have l:prog.built d ((#[(e,f)]:Array (Nat×Operand)).map λ(o,p)=>(o,a.eval p)).toList=some b:=by grind
  unfold Oper.wp execOp;simp only[n,Sem.run_bind,run_build w d _ b l,Result.andThen_ok];exact hK _ _ k
variable {s t:T} {C D:U}
def oA(a:U):Prop:=a.what=0/\a.tox=0/\a.toy=0/\a.target=0
def SameO(a b:U):Prop:=b.id=a.id/\b.owner=a.owner/\b.what=a.what/\b.tox=a.tox/\b.toy=a.toy/\b.target=a.target
theorem SameO.refl(a:U):SameO a a:=⟨rfl,rfl,rfl,rfl,rfl,rfl⟩
def zW(b:T)(a:U):Prop:=
 oA a\/((a.what=1\/a.what=2)/\aE a.tox a.toy=true/\b.bd (ci a.tox a.toy)≠10/\a.target=0) \/
 (a.what=3/\a.tox=0/\a.toy=0/\1<=a.target/\a.target<b.next/\∀c∈b.us,c.id=a.target->c.owner≠a.owner) \/
 (a.what=4/\a.toy=0/\a.target=0)
def OS(a:T):Prop:=∀b∈a.us,zW a b
structure Ord1 (t t':T):Prop where
 bd:∀i,t.bd i≠10->t'.bd i≠10
 us:∀v'∈t'.us,oA v'\/∃v∈t.us,SameO v v'
theorem Ord1.refl(a:T):Ord1 a a:=⟨λ_ b=>b,(by grind[SameO.refl])⟩
theorem OS.of{j:Int->Prop}(l:OS t)(i:Good t j s)(n:Ord1 t s):OS s:=by
 intro r o;obtain m|⟨u,p,x,y,f,g,h,e⟩:=n.us r o
 ·exact .inl m
 obtain⟨a,b,c,d⟩|⟨a,b,c,d⟩|⟨a,b,c,d,k,w⟩|⟨a,b,c⟩:=l u p
 ·exact .inl ⟨f.trans a,g.trans b,h.trans c,e.trans d⟩
 ·exact .inr (by grind[Ord1.bd])
 ·refine .inr (.inr (.inl ⟨f.trans a,g.trans b,h.trans c,by omega,by rw[e];exact Int.lt_of_lt_of_le k i.nx,?_⟩));intro v q aA;rw[e]at aA;obtain A|⟨C,B,z⟩:=i.rel v q
  ·omega
  grind[Near1.owner,Near1.id]
 exact .inr qo
structure OrdA (t:T) (u:U) (q:U×T):Prop where
 bd:∀i,t.bd i≠10->q.2.bd i≠10
 us:∀v'∈q.2.us,oA v'\/∃v∈t.us,SameO v v'
 me:oA q.1\/SameO u q.1
theorem pW(a:U):oA a.idle:=⟨rfl,rfl,rfl,rfl⟩
theorem OrdA.same(c:s.bd=t.bd)(d:s.us=t.us)(a:oA D\/SameO C D):OrdA t C (D,s):=
  ⟨λe b=>by grind,(by grind[SameO.refl]),a⟩
theorem OE(a:T)(b c:Int):(a.qS b c).bd=a.bd:=by grind[T.qS]
theorem OG(a:T)(b c:Int):(a.qS b c).us=a.us:=by grind[T.qS]
theorem Bw(b:T)(a:U):OrdA b a (gI b a):=by
 unfold gI
 split
 ·grind[OrdA.same,pW]
 exact OrdA.same rfl rfl (.inr (SameO.refl a))
theorem Br(b:T)(a:U):OrdA b a (fH b a):=by
 unfold fH
 split
 ·grind[OrdA.same,SameO.refl]
 split
 ·exact OrdA.same (OE _ _ _) (OG _ _ _) (.inr (SameO.refl a))
 exact OrdA.same rfl rfl (.inr (SameO.refl a))
theorem Bv(b:T)(a:U):OrdA b a (eR b a):=by
 unfold eR
 split
 ·exact Br b a
 split
 ·rename_i g
  split
  ·refine⟨λc f=>?_,λd e=>.inr ⟨d,e,SameO.refl d⟩,.inr (SameO.refl a)⟩;have h:0<b.bd (ci a.tox a.toy)/\b.bd (ci a.tox a.toy)<10:=by grind[jB]
   show(if c=ci a.tox a.toy then b.bd (ci a.tox a.toy)-min (b.bd (ci a.tox a.toy)) 5 else b.bd c)≠10
   omega
  exact OrdA.same rfl rfl (.inr (SameO.refl a))
 grind[OrdA.same,pW]
theorem WR{b:T}{d:Nat}:(b.qR d).bd=b.bd/\∀g∈(b.qR d).us,∃a∈b.us,SameO a g:=by
 unfold T.qR
 split
 ·grind[SameO.refl]
 rename_i f e
 split
 ·exact⟨rfl,λa c=>⟨a,mem_of_mem_eraseIdx c,SameO.refl a⟩⟩
 refine⟨rfl,λa c=>?_⟩;obtain rfl|⟨i,_,h⟩:=mN c
 ·exact⟨f,Q8 e,rfl,rfl,rfl,rfl,rfl,rfl⟩
 grind[SameO.refl]
theorem Bu(b:T)(a:U):OrdA b a (fI b a):=by
 unfold fI
 split
 ·grind[OrdA.same,pW]
 split
 ·grind[OrdA.same,pW]
 split
 ·obtain⟨d,e⟩:=@WR b ‹_›;exact⟨λf c=>by grind,qg,.inr (SameO.refl a)⟩
 exact OrdA.same rfl rfl (.inr (SameO.refl a))
theorem Bt(b:T)(a:U):OrdA b a (eF b a):=by
 unfold eF
 split
 ·grind[OrdA.same,SameO.refl]
 split
 ·grind[OrdA.same,SameO.refl]
 split
 ·grind[OrdA.same,SameO.refl]
 split
 ·grind[OrdA.same,SameO.refl]
 refine⟨λe g=>?_,λf d=>?_,.inl (pW a)⟩
 ·show(b.qS _ _).bd e≠10
  grind[OE]
 have c:f∈(b.qS a.owner (b.qK a.owner-gB a.tox)).us++[bD (b.qS a.owner (b.qK a.owner-gB a.tox)).next a.owner a.tox _ _ (dE a.tox)]:=d;rw[OG]at c;obtain c|c:=m5.1 c
 ·grind[SameO.refl]
 rw[mem_singleton.1 c];exact .inl ⟨rfl,rfl,rfl,rfl⟩
theorem Bx(a:T)(b:U):OrdA a b (dJ a b):=by grind[dJ,Bw,Bv,Bu,Bt,OrdA.same,SameO.refl]
theorem OrdA.put{b:U×T}(a:OrdA t C b)(c:C∈t.us):Ord1 t (cY b.2 b.1):=by
 unfold cY
 split
 ·refine⟨a.bd,λe d=>?_⟩;grind[mN,OrdA.me,OrdA.us,mem_of_getElem?]
 exact⟨a.bd,a.us⟩
theorem AF(b:TOk t)(e:OS t)(d:bP t.us=false)(a:U):OS (iB t a):=by
 have c:=rI b d a;refine e.of c ?_;unfold iB
 split
 ·exact Ord1.refl t
 split
 ·exact Ord1.refl t
 rename_i f g
 exact(Bx t f).put qg
theorem AB:∀(c:List U) {a:T},TOk a->OS a->bP a.us=false->OS (fY c a)
 |[],a,_,b,_=>b
 |g::c,a,e,b,f=>by
  have h:=rI e f g;have d:=AF e b f g;unfold fY
  split
  ·exact d
  rename_i i
  exact AB c h.ok d qg
theorem Jd(B:TOk t)(m:OS t)(I:Int)(b:Cm):OS (fF t I b).2:=by
 unfold fF;cases S:bI t.us b.unit with
 |none=>exact m
 |some s=>
  dsimp only;cases N:t.us[s]? with
  |none=>exact m
  |some n=>
   dsimp only
   split
   ·rename_i C
    have E:∀(u:Cm) (g:U),g∈t.us.set s (n.ordered u)->∃f∈t.us,g.id=f.id/\g.owner=f.owner:=λu g V=>by grind
    intro f F;obtain rfl|⟨Y,_,D⟩:=mN F
    ·have a:=C.2;unfold bZ at a;unfold fU
     by_cases o:b.what=0
     ·simp only[o,if_pos];exact .inl ⟨rfl,rfl,rfl,rfl⟩
     rw[Z0 o]at a |-
     by_cases j:b.what=1
     ·rw[Q7 j]at a;rw[Z0 qo,Z0 qo];simp at a;exact .inr (.inl ⟨.inl j,a.2.1,a.2.2,rfl⟩)
     rw[Z0 j]at a
     by_cases k:b.what=2
     ·rw[Q7 k]at a;rw[Z0 qo,Z0 qo];simp[jB]at a;exact .inr (.inl ⟨.inr k,a.2.1,by show t.bd (ci b.x b.y)≠10;omega,rfl⟩)
     rw[Z0 k]at a
     by_cases l:b.what=3
     ·rw[Q7 l]at a |-;simp at a;have d:=a.2;unfold iC at d;cases e:look t.us b.target with
      |none=>rw[e]at d;cases d
      |some h=>
       rw[e]at d;have R:h.owner≠n.owner:=by simpa using d
       unfold look at e;have q:=Zx6 e;have W:h.id=b.target:=by simpa using find?_some e
       have X:=(B.all h q).id;refine .inr (.inr (.inl ⟨l,rfl,rfl,by show 1<=b.target;omega,by show b.target<t.next;omega,?_⟩));intro i r aA;obtain⟨J,H,M,A⟩:=E _ i r;have O:i.id=b.target:=aA
       show i.owner≠n.owner
       rw[A];have:J=h:=by obtain⟨jz,Q⟩:=Zx5 H;obtain⟨jx,P⟩:=Zx5 q;grind[Option.some.inj,Rise.ne,TOk.rise]
       grind
     rw[Z0 l]at a |-
     by_cases p:b.what=4
     ·rw[Q7 p];exact .inr (.inr (.inr ⟨p,rfl,rfl⟩))
     grind
    obtain c|c|⟨v,w,x,y,z,L⟩|c:=m f (Q8 D)
    ·exact .inl c
    ·exact .inr (.inl c)
    ·refine .inr (.inr (.inl ⟨v,w,x,y,z,λi r aA=>?_⟩));grind
    exact .inr (.inr (.inr c))
   omega
theorem pS(a:Int):∀(d:List Cm) (c:Nat) {e:T},TOk e->OS e->OS (bH a c d e).2
 |[],_,_,_,b=>b
 |f::d,c,_,g,b=>pS a d (c+1) (tY g a f (λ_=>False)).1.ok (Jd g b a f)
theorem qN(f:GOk t)(a:OS t)(first b:List Cm):OS (aO t first b).1:=by
 unfold aO
 split
 ·exact a
 have d:TOk (dN t):=f
 split
 ·exact a
 rename_i h
 dsimp only;have i:bP (dN t).us=false:=by show bP t.us=false;grind
 obtain⟨c,j⟩:=lN 0 (λ_=>False) first 0 d qg
 obtain⟨e,o1⟩:=lN 1 (λ_=>False) b 0 c.ok qg;have g:=pS 1 b 0 c.ok (pS 0 first 0 d a);exact AB _ e.ok g qg
variable {n:Int} {a b:Nat}
abbrev U.qN(a:U):List Int:=[a.id,a.owner,a.kind,a.x,a.y,a.life,a.load,a.what,a.tox,a.toy,a.target]
def iN(a:T):List Int:=[a.turn,eD a.us,a.s0,a.s1,a.next]
def iV(a:T):List Int:=(range 144).map a.bd
def eJ(a:List U):List Int:=a.flatMap U.qN
def cG(a:T):List Int:=iN a++(iV a++((a.us.length:Int)::eJ a.us))
def aQ(a:T):List UInt8:=aY (cG a)
theorem lB(a:T):(iV a).length=144:=by simp[iV]
theorem xS:∀a:List U,(eJ a).length=11*a.length
 |[]=>rfl
 |b::a=>by
  show(b.qN++eJ a).length=_
  rw[m8,xS a];simp;omega
theorem oW(a:T):(cG a).length=150+11*a.us.length:=by
 unfold cG;rw[m8,m8,lB,Z7,xS]
 show 5+_=_
 omega
theorem KR:∀(c:List U) (b a:Nat) (d:U),c[b]?=some d->a<11->(eJ c)[11*b+a]?=d.qN[a]?
 |[],_,_,_,f,_=>by grind
 |e::c,0,a,d,f,g=>by
  have h:e=d:=qg;subst h
  show(e.qN++eJ c)[11*0+a]?=_
  rw[J7 qt,Nat.mul_zero,Z9]
 |e::c,b+1,a,d,f,g=>by
  show(e.qN++eJ c)[11*(b+1)+a]?=_
  rw[J8 qt];have:11*(b+1)+a-e.qN.length=11*b+a:=qt;rw[this];exact KR c b a d qg g
theorem Kn(a:List U):0<=eD a/\eD a<=2:=by grind[eD]
theorem Kd(g:GOk t)(k:OS t)(h:C∈t.us):∀e∈C.qN,0<=e/\e<=1000000000:=by
 have a:=g.all C h;have j:=g.nx;have aA:=a.id;have u:=a.ow;have o:=a.kd;have q:=a.lf;have p:=a.ld;have l:=a.od;obtain⟨o1,v,w,x⟩:=bX.1 a.on;have r:dE C.kind<=40:=by grind[dE]
 dsimp only at aA j;have s:(0<=C.what/\C.what<=4)/\(0<=C.tox/\C.tox<=1000000000)/\(0<=C.toy/\C.toy<=1000000000)/\(0<=C.target/\C.target<=1000000000):=by
  unfold kH at l;obtain⟨b,c,d,f⟩|⟨b,c,d,f⟩|⟨b,c,d,f,m,n⟩|⟨b,c,d⟩:=k C h
  ·omega
  ·grind[bX]
  ·omega
  omega
 intro e i;simp only[mem_cons,not_mem_nil,or_false]at i;obtain rfl|rfl|rfl|rfl|rfl|rfl|rfl|rfl|rfl|rfl|rfl:=i<;>omega
theorem nO(b:GOk t)(f:OS t)(k:0<=t.turn/\t.turn<=1000000000):∀c∈cG t,0<=c/\c<=1000000000:=by
 have e:=b.nx;have g:=b.st;have l:=Kn t.us;have d:=b.len;dsimp only at e g d;intro c a;unfold cG at a;obtain a|a:=m5.1 a
 ·grind[iN]
 obtain a|a:=m5.1 a
 ·obtain⟨i,j,rfl⟩:=Qk7.1 a;have:=b.bd i qg;grind
 obtain rfl|a:=Qq0.1 a
 ·omega
 obtain⟨m,h,a⟩:=i6.1 a;exact Kd b f h c a
structure Reads (l:List UInt8) (t:T):Prop where
 n0:aD l false 0=t.turn
 n1:aD l false 1=eD t.us
 n2:aD l false 2=t.s0
 n3:aD l false 3=t.s1
 n4:aD l false 4=t.next
 nb:∀j,j<144->aD l false (5+j)=t.bd j
 nl:aD l false 149=t.us.length
 nu:∀i u,t.us[i]?=some u->iF (λf=>aD l false (150+11*i+f))=u
 ne:aM l false (150+11*t.us.length)=([],false)
theorem sU{b:List Int}(d:∀n∈b,0<=n/\n<=1000000000)(c:b[a]?=some n):aD (aY b) false a=n:=by obtain⟨e,rfl⟩:=gs.1 c;have:=JL a b [] e d;grind
theorem An(d:t.us[a]?=some C)(e:b<11):(cG t)[150+11*a+b]?=C.qN[b]?:=by unfold cG;have c:(iN t).length=5:=rfl;rw[J8 qo,J8 (by grind[lB]),lB,c,show 150+11*a+b-5-144=(11*a+b)+1 by omega,Zz5];grind[KR]
theorem LM(i:GOk t)(j:OS t)(k:0<=t.turn/\t.turn<=1000000000):Reads (aQ t) t:=by
 have d:=nO i j k;have l:(iN t).length=5:=rfl;have e:∀g c,(iN t)[g]?=some c->aD (aQ t) false g=c:=λg c o=>sU d (by grind[cG])
 refine⟨e 0 _ rfl,e 1 _ rfl,e 2 _ rfl,e 3 _ rfl,e 4 _ rfl,λr n=>sU d ?_,sU d ?_,λa h p=>?_,?_⟩
 ·simp_all[cG,getElem?_append_right,getElem?_append_left,iV]
 ·simp_all[cG,getElem?_append_right,lB]
 ·have b:∀f c,f<11->h.qN[f]?=some c->aD (aQ t) false (150+11*a+f)=c:=λf c m q=>sU d (by grind[An])
  show U.mk (aD (aQ t) false (150+11*a+0)) (aD (aQ t) false (150+11*a+1)) (aD (aQ t) false (150+11*a+2)) (aD (aQ t) false (150+11*a+3)) (aD (aQ t) false (150+11*a+4)) (aD (aQ t) false (150+11*a+5)) (aD (aQ t) false (150+11*a+6)) (aD (aQ t) false (150+11*a+7)) (aD (aQ t) false (150+11*a+8)) (aD (aQ t) false (150+11*a+9)) (aD (aQ t) false (150+11*a+10))=h
  rw[b 0 _ qo rfl,b 1 _ qo rfl,b 2 _ qo rfl,b 3 _ qo rfl,b 4 _ qo rfl,b 5 _ qo rfl,b 6 _ qo rfl,b 7 _ qo rfl,b 8 _ qo rfl,b 9 _ qo rfl,b 10 _ qo rfl]
 have:=tG (150+11*t.us.length) (cG t) [] (by grind[oW]) d;rw[Zq6,Zq6,Z6 (by grind[oW])]at this;exact this
variable {l:List UInt8}
structure BP (P:Prop) (w:World) (e:Ending) (w':World):Prop where
  out:∃b:Bool,e=.returned (.bool b)/\(b=true↔P)/\Fr [] w w'
def oY(c:List UInt8)(d:Nat):List U:=(range d).map (λb=>iF (λa=>aD c false (150+11*b+a)))
theorem Cq(b:List UInt8)(a:Nat):(oY b a).length=a:=by grind[oY]
theorem Cp(b:List UInt8)(e:Nat)(d:(oY b e)[a]?=some C):iF (λc=>aD b false (150+11*a+c))=C:=by unfold oY at d;grind
def bS(a:List UInt8):T:=
  ⟨aD a false 0,aD a false 4,aD a false 2,aD a false 3,λb=>if b<144 then aD a false (5+b)else 0,oY a (aD a false 149).toNat,λ_=>none⟩
structure PL (l:List UInt8):Prop where
 len:aD l false 149<=100
 win:aD l false 1=eD (bS l).us
 ne:aM l false (150+11*(bS l).us.length)=([],false)
 ok:GOk (bS l)
 os:OS (bS l)
theorem xR(a:List UInt8):(bS a).us=oY a (aD a false 149).toNat:=by grind[bS]
theorem tB(a:List UInt8):((bS a).us.length:Int)=aD a false 149:=by grind[iR,xR,Cq,aD]
theorem sZ(b:List UInt8)(d:(bS b).us[a]?=some C):iF (λc=>aD b false (150+11*a+c))=C:=by grind[xR,Cp]
theorem oZ(b:List UInt8)(c:a<144):(bS b).bd a=aD b false (5+a):=Q7 c
theorem tC(a:List UInt8):0<=(bS a).turn/\(bS a).turn<=1000000000:=iR a false 0
theorem GOk.congr(i:GOk t)(d:s.us=t.us)(h:s.next=t.next)(j:s.s0=t.s0)(k:s.s1=t.s1)(l:∀a,a<144->s.bd a=t.bd a):GOk s:=by
 have b:TOk {t with held:=dC t.us}:=i
 show TOk {s with held:=dC s.us}
 refine⟨?_,?_,?_,?_,?_,?_,?_,?_,?_,?_⟩
 ·show Rise s.us;rw[d];exact b.rise
 ·intro e n;have o:e∈t.us:=qg;have c:=b.all e o;refine⟨c.on,?_,?_,c.ow,c.kd,c.lf,c.ld,?_,c.od⟩
  ·grind[eN,UOk.on,UOk.gr]
  ·grind[UOk.hd]
  show 1<=e.id/\e.id<s.next
  rw[h];exact c.id
 ·intro f a p;have m:dC t.us f=some a:=qg;obtain⟨e,n,q⟩:=b.hel f a m;grind
 ·show 1<=s.next/\s.next<=_;rw[h];exact b.nx
 ·show(0<=s.s0/\s.s0<=_)/\(0<=s.s1/\s.s1<=_);rw[j,k];exact b.st
 ·intro a g
  show 0<=s.bd a/\s.bd a<=10
  rw[l a g];exact b.bd a g
 ·show s.us.length<=100;rw[d];exact b.len
 ·show s.us.countP _<=1;rw[d];exact b.b0
 ·show s.us.countP _<=1;rw[d];exact b.b1
 show 1<=s.us.countP _+s.us.countP _;rw[d];exact b.bs
theorem OS.congr(h:OS t)(i:s.us=t.us)(n:s.next=t.next)(m:∀a,a<144->s.bd a=t.bd a):OS s:=by
 intro j c;rw[i]at c;obtain b|⟨d,e,f,g⟩|⟨d,e,f,g,k,l⟩|b:=h j c
 ·exact .inl b
 ·exact .inr (by grind[eN])
 ·exact .inr qg
 exact .inr qo
theorem LO(f:Reads l t):(bS l).us=t.us:=by
 have h:(bS l).us.length=t.us.length:=by grind[tB,Reads.nl]
 apply V8 ;intro a
 by_cases g:a<t.us.length
 ·obtain⟨b,c⟩:∃b,t.us[a]?=some b:=qa;obtain⟨e,d⟩:∃e,(bS l).us[a]?=some e:=qa;rw[c,d,<-sZ l d,f.nu a b c]
 grind
theorem Em(a:Reads l t)(f:GOk t)(g:OS t):PL l:=by
 have c:=LO a;have d:∀b,b<144->(bS l).bd b=t.bd b:=λb e=>by rw[oZ l e,a.nb b e]
 refine⟨?_,?_,?_,f.congr c a.n4 a.n2 a.n3 d,g.congr c a.n4 d⟩
 ·rw[a.nl];have:t.us.length<=100:=f.len;omega
 ·rw[a.n1,c]
 grind[Reads.ne]
theorem Jo(a:GOk t)(b:OS t)(c:0<=t.turn/\t.turn<=1000000000):PL (aQ t):=Em (LM a b c) a b
