import Derived.Test.YtapabahhfanmmaaGreatDoorCBookU
import Derived.Test.YtapabahhfanmmaaGreatDoorCRCmds
import Derived.Test.YtapabahhfanmmaaGreatDoorCOpsW
import Derived.Test.YtapabahhfanmmaaGreatDoorCReadT
namespace Go.Proofs.YtapabahhfanmmaaGreatDoor
open Go.RowKit List Go.Proofs.Tryz
set_option maxHeartbeats 4000000
set_option maxRecDepth 100000
variable {w:World}
theorem PF{j:Array Oper}{k:List Oper}{c:Oper}{a:Act}{i:Exit->Act->World->Prop}(p:c.guard=none)(d:TypeId)(e f:Nat)(g h:Operand)(q:c.op=.build d #[(e,g),(f,h)])(l m:Value)(t:a.eval g=l)(u:a.eval h=m)(b:Array Value)(v:prog.built d [(e,l),(f,m)]=some b)(n:wpList prog j i k (a.put c.dst (.agg b)) w):wpList prog j i (c::k) a w:=
 wpList_plain p λ_ hK=>by
  have o:prog.built d ((#[(e,g),(f,h)]:Array (Nat×Operand)).map λ(r,s)=>(r,a.eval s)).toList=some b:=by grind
  unfold Oper.wp execOp;simp only[q,Sem.run_bind,run_build w d _ b o,Result.andThen_ok];exact hK _ _ n
def uG(b:Program)(e:TypeId)(d:Nat):Option (Option (Nat×List Value)):=(b.info? e).map (λc=>c.zero.map (λa=>(a.cells.size,a.cells.toList.drop d)))
theorem uV(c:TypeId)(l:List (Nat×Nat))(j i:Nat)(m:List Value)(b:kJ prog c=some l)(a:uG prog c i=some (some (j,m)))(k:List (Nat×Value))(f:Array Value)(o:∀d:Array Value,d.size=j->d.toList.drop i=m->Instr.fill (l.toArray[·]?) d k=some f):prog.built c k=some f:=by
 unfold Program.built;unfold kJ at b;unfold uG at a;cases g:prog.info? c with
 |none=>rw[g]at a;simp at a
 |some p=>
  rw[g]at a;cases e:p.zero with
  |none=>simp[e]at a
  |some d=>
   simp only[e,Option.map_some,Option.some.injEq,Prod.mk.injEq]at a;cases h:prog.underlying c with
   |none=>rw[h]at b;simp at b
   |some n=>
    rw[h]at b;cases n<;>try(simp at b;done)
    dsimp only at b |-;rw[e,b];exact o d.cells a.1 a.2
theorem LP:kJ prog 97=some [(0,149),(149,2)]:=qk
theorem MA:uG prog 97 149=some (some (151,[.map none,.slice none 0 0])):=qk
theorem SA(gs:List Value)(b:gs.length=149):prog.built 97 [(0,.agg gs.toArray)]=some (gs++[Value.map none,Value.slice none 0 0]).toArray:=by
 refine uV _ _ _ _ _ LP MA _ _ (λa d c=>?_);rw[kL _ _ _ _ _ 0 149 rfl (by show gs.toArray.size=149;omega) qo]
 show some _=_
 congr 2
 show a.toList.take 0++gs.toArray.toList++a.toList.drop (0+149)=_
 grind
theorem SE(gs:List Value)(e:gs.length=149)(b c:Value):prog.built 97 [(0,.agg gs.toArray),(1,.agg #[b,c])]=some (gs++[b,c]).toArray:=by
 refine uV _ _ _ _ _ LP MA _ _ (λa g f=>?_);rw[kL _ _ _ _ _ 0 149 rfl (by show gs.toArray.size=149;omega) qo];have d:(a.toList.take 0++(Value.agg gs.toArray).cells.toList++a.toList.drop (0+149)).toArray=(gs++[Value.map none,Value.slice none 0 0]).toArray:=by
  congr 1
  show a.toList.take 0++gs.toArray.toList++a.toList.drop (0+149)=_
  grind
 rw[d,kL _ _ _ _ _ 149 2 rfl rfl qg]
 show some _=_
 congr 2
 show(gs++[Value.map none,.slice none 0 0]).take 149++[b,c]++(gs++[Value.map none,.slice none 0 0]).drop (149+2)=_
 simp_all
theorem Es(z:ByteArray)(b:T)(r:GG b)(ai:b.us.length=2)(ah:b.turn=0)(y:Hi (∀c:World,Cs 35 #[.string z] c λh k=>∃d f,h=.returned (.tuple #[.agg (gl b d f).toArray,.bool true])/\PRow k d f b.us/\c.heap.size<=d/\Fr [] c k))(c:World)(hw:0<c.heap.size)(V:Tb c):Cs 11 #[.string z] c λh k=>∃u d f A X aa j e,e≠LOG/\e.length<=30/\h=.returned (.tuple #[pt u,ii 0])/\RS k u d f A b X aa (λg=>if g=LOG then some (j,bE 2 (aQ b))else none) [bV e (bE 2 (aQ b)),bQ e,dI e LOG]/\c.heap.size<=u/\c.heap.size<=d/\(∀p∈A,c.heap.size<=p)/\Fr [] c k:=by
 have ag:=pK r qo
 delta Cs;go_in
 go_wp2_with fail
 refine cm (y.o _) ?_;rintro h a ⟨d,f,rfl,t,S,q⟩;obtain⟨gs,s⟩:=nm (gl b d f);rw[<-s];have H:gs.length=149:=by grind[eI]
 have M:Hi (gs.toArray.all (·.oneCell')=true):=by
  show _=_
  grind[iL]
 have ac:=aA s;have x:Hi ((prog.info? 90).map (·.size)=some gs.toArray.size):=by grind[dD]
 have L:Hi (zeroCells90.size=gs.toArray.size):=by simp_all
 have I:Hi (prog.built 97 [(0,.agg gs.toArray)]=some (gs++[Value.map none,Value.slice none 0 0]).toArray):=SA gs H;have J:Hi (((a.alloc (.cells zeroCells90 90)).setRow a.heap.size gs.toArray).heap[a.heap.size]?=some (.cells gs.toArray 90)):=Qz4 _ _ _ _ _ _ (aC _ _);obtain⟨i,l⟩:=nm (((a.alloc (.cells zeroCells90 90)).setRow a.heap.size gs.toArray).alloc (.cells (gs++[Value.map none,Value.slice none 0 0]).toArray 97));have m:Fr [] a i:=by rw[l];exact(((r0 _ _).alloc _).setRow _ _ qo).alloc _
 have hh:i.heap[a.heap.size+1]?=some (.cells (gs++[Value.map none,Value.slice none 0 0]).toArray 97):=by rw[l];exact lT _ _ _ qs
 have ae:=q.size;have ad:=t.lt;have E:RS i (a.heap.size+1) d f [] b (.map none) (.slice none 0 0) (λ_=>none) []:=⟨by show _=_;grind,SVE.empty i,t.fr m qs,by simp,by simp,by omega,by omega,by omega,by omega,by omega⟩;have F:=LW i E qs (V.qF (q.qT m)) (ns:=[]) qs qs (nO r.ok r.os qo) qo qo;have w:=aA F;have W:=q.qT m;have af:=m.size;have N:=aA l;clear s H y F E l t
 go_wp2_with (first|(refine wpList_store_row rfl 90 _ _ rfl a.heap.size gs.toArray rfl rfl 90 zeroCells90 (aC a _) x.o L.o M.o ?_)|(refine wpList_load_row rfl 90 _ rfl a.heap.size rfl 90 gs.toArray (0,0) _ J.o X9 rfl x.o ?_)|(refine PE rfl 97 0 (.tmp 14) rfl (.agg gs.toArray) rfl (gs++[Value.map none,Value.slice none 0 0]).toArray I.o ?_))
 rw[<-N.o];refine cm w.o ?_;rintro h w3 ⟨rfl,e,j,Y,ab,O,_,C,Q,D⟩;have n:=aA D;clear w D
 go_wp2_with fail
 refine Zq8 (v:=.tuple #[.pointer (so (a.heap.size+1)),ii 0]) (by simp[results,results11,go_sem]) rfl ⟨a.heap.size+1,d,f,O,Y,ab,j,e,C,Q,rfl,?_,by omega,S,fun p R=>?_,W.trans n.o.fr qg⟩
 ·have B:=n.o.rs;rw[Z8]at B;rw[show(λg=>if g=LOG then some (j,bE 2 (aQ b))else none)=(λg=>if g=e then none else if g=LOG then some (j,bE 2 (aQ b))else none)from funext λg=>by by_cases h:g=e<;>simp[h,C]];exact B
 obtain P|P:=n.o.old p R
 ·grind
 omega
variable {A:Gf} {S:List Nat} {O:List Stp} {a b c:Nat} {t:T} {u v:Value}
set_option maxRecDepth 100000
theorem Ey(d:World)(f g:Value)(e:RS d a b c S t v u A O)(j:1000000000<=t.turn):Cs 17 #[pt a,f,g] d (R0 d (.tuple #[.slice none 0 0,ii 4])):=by
 have h:d.cell? ⟨a,0,none⟩=some (ii t.turn):=e.all 0 _ (by simp[gl,aP,aK]);clear e
 delta Cs;go_in
 go_wp2_with (first|(go_at_call 36;refine(lX a _).mono ?_;rintro i k ⟨rfl,rfl⟩))
 go_ret2;simp_all[r0]
theorem Ex(d:World)(e f:Option Addr)(k l i j:Nat)(g:RS d a b c S t v u A O)(q:t.turn<1000000000)(h:Cs 41 #[.agg #[ii t.turn,.slice e k i,.slice f l j]] d (R0 d (.tuple #[.string ⟨#[]⟩,.bool false]))):Cs 17 #[pt a,.slice e k i,.slice f l j] d (R0 d (.tuple #[.slice none 0 0,ii 3])):=by
 have m:d.cell? ⟨a,0,none⟩=some (ii t.turn):=g.all 0 _ (by simp[gl,aP,aK]);have r:¬(1000000000:Int)<=t.turn:=qo;clear g
 delta Cs;go_in
 go_wp2_with (first|(go_at_call 36;refine(lX a _).mono ?_;rintro n o ⟨rfl,rfl⟩))
 refine cm h ?_;rintro n o ⟨rfl,p⟩;clear m h;go_wp2;go_ret2;simp_all
theorem Ep(a:ByteArray)(o:eV a)(b:World)(q:0<b.heap.size)(p:Tb b):Cs 11 #[.string a] b λi g=>∃f d e h s t u c,c≠LOG/\c.length<=30/\i=.returned (.tuple #[pt f,ii 0])/\RS g f d e h (cB a) s t (λr=>if r=LOG then some (u,bE 2 (aQ (cB a)))else none) [bV c (bE 2 (aQ (cB a))),bQ c,dI c LOG]/\b.heap.size<=f/\b.heap.size<=d/\(∀j∈h,b.heap.size<=j)/\Fr [] b g:=
 Es a (cB a) ⟨wT a o,wU a,by show(0:Int)<=0;omega⟩ rfl rfl (λb=>(MW a b).mono (by
  rintro i g ⟨⟨_,d,e,k,l,m⟩|⟨v,_⟩,n⟩
  ·exact⟨d,e,k,l,m,n⟩
  grind)) b q p
theorem Er(b:ByteArray)(g:¬eV b)(a:World):Cs 11 #[.string b] a (R0 a (.tuple #[.pointer none,ii 1])):=by
 have e:Hi (Cs 35 #[.string b] a (R0 a (.tuple #[.agg zeroCells90,.bool false]))):=(MW b a).mono (by grind)
 clear g
 delta Cs;go_in
 go_wp2_with fail
 refine cm e.o ?_;rintro k d ⟨rfl,c⟩;obtain⟨gs,f⟩:=nm zeroCells90;have h:Hi ((prog.info? 90).map (·.size)=some gs.size):=by show _=_;grind[uC]
 have i:Hi (zeroCells90.size=gs.size):=by show _=_;rw[f]
 have j:Hi (gs.all (·.oneCell')=true):=by grind[zR]
 go_wp2_with (first|(refine wpList_store_row rfl 90 _ _ rfl d.heap.size zeroCells90 rfl rfl 90 zeroCells90 (aC d _) uC rfl zR ?_))
 go_ret2;exact⟨rfl,(c.alloc _).setRow _ _ (.inr c.size)⟩
variable {l:List UInt8} {x:World}
set_option maxRecDepth 100000
structure YR (w:World) (yb gb qb cap:Nat) (t:T) (log:List UInt8):Prop where
 h:w.heap[yb]?=some (.cells #[pt gb,sv log] 141)
 rg:RG w gb qb cap t
theorem YR.fr{S:List Nat}{qb:Nat}(d:YR w a b qb c t l)(e:Fr S w x)(f:a∉S)(g:b∉S)(h:qb∉S):YR x a b qb c t l:=⟨e.heap d.h f,d.rg.fr e g h⟩
theorem YR.qF{qb:Nat}(d:YR w a b qb c t l)(e:Fr [] w x):YR x a b qb c t l:=d.fr e qs qs qs
theorem YR.put{qb:Nat}{l2:List UInt8}(d:YR w a b qb c t l)(e:a≠b/\a≠qb):YR (w.setCell ⟨a,1,none⟩ (sv l2)) a b qb c t l2:=
  ⟨by rw[iE d.h];rfl,d.rg.fr ((r0 [a] w).setCell _ _ qs) qg qg⟩
theorem yE(c d qb l:Nat)(a:T)(w:List UInt8)(b:World)(e:YR b c d qb l a w)(t:c≠d/\c≠qb)(f:GG a)(u:a.turn<=1000000000):Cs 64 #[pt c] b λm i=>m=.returned (.tuple #[])/\YR i c d qb l a (bE 2 (aQ a))/\Fr [c] b i:=by
 have C:=pK f u;have j:=aA (qV d qb l a b e.rg f.ok f.os ⟨f.t0,u⟩);have k:Hi (∀b,Cs 107 #[ii 2,.string ⟨(aQ a).toArray⟩] b (R0 b (.string ⟨(bE 2 (aQ a)).toArray⟩))):=λb=>MH 2 qo (aQ a) qo b;have B:ca b c 0 (pt d):=aB e.h;have A:=aA (λi (h:Fr [] b i)=>e.qF h);have y:=aA t;obtain⟨F,p⟩:∃E:ByteArray,E=⟨(aQ a).toArray⟩:=⟨_,rfl⟩;obtain⟨x,n⟩:=nm (bE 2 (aQ a));rw[<-p]at j;rw[<-p,<-n]at k;rw[<-n];have I:=aH e.h;clear p n e f t C
 delta Cs;go_in
 go_wp2_with fail
 refine cm j.o ?_;rintro m D ⟨rfl,r⟩;clear j B
 go_wp2_with fail
 refine cm (k.o D) ?_;rintro m q ⟨rfl,s⟩;have h:=r.qT s;have g:=A.o q h;have H:ca q c 1 (sv w):=aB g.h;have J:q.frozen? ⟨c,1,none⟩=false:=aV g.h;have z:=(show Hi _ from g.put (l2:=x) y.o);clear g k r s;go_wp2;exact Q5 (v:=.tuple #[]) (Q6 rfl _ _ _) rfl ⟨rfl,z.o,h.qO.setCell _ _ qs⟩
theorem Ff(a:ByteArray)(b:World):Cs 60 #[.string a] b λd e=>((eV a/\∃h c qb f,d=.returned (.tuple #[pt h,ii 0])/\YR e h c qb f (cB a) (bE 2 (aQ (cB a)))/\b.heap.size<=h/\b.heap.size<=c/\b.heap.size<=qb/\h≠c/\h≠qb)\/(¬eV a/\d=.returned (.tuple #[.pointer none,ii 1])))/\Fr [] b e:=by
 have u:Hi (∀b,Cs 51 #[.string a] b λd e=>((eV a/\∃c t f,d=.returned (.tuple #[pt c,ii 0])/\RG e c t f (cB a)/\b.heap.size<=c/\b.heap.size<=t)\/(¬eV a/\d=.returned (.tuple #[.pointer none,ii 1])))/\Fr [] b e):=λb=>(Fu a b).mono (λd e m=>⟨m.h,m.fr⟩)
 delta Cs;go_in
 go_wp2_with fail
 refine cm (u.o b) ?_;rintro d g ⟨⟨k,c,qb,f,rfl,i,A,B⟩|⟨r,rfl⟩,j⟩
 ·have C:=i.lt;have D:=i.row.lt;have q:=aC g (.cells #[pt c,.string ⟨#[]⟩] 141);have n:Fr [] g (g.alloc (.cells #[pt c,.string ⟨#[]⟩] 141)):=(r0 _ _).alloc _;have p:=yE g.heap.size c qb f (cB a) [] (g.alloc (.cells #[pt c,.string ⟨#[]⟩] 141)) ⟨q,i.qF n⟩ qo ⟨wT a k,wU a,by show(0:Int)<=0;omega⟩ (by show(0:Int)<=_;omega);have l:=aA p;have w:=aA k;clear p i k q
  go_wp2_with fail
  refine cm l.o ?_;rintro d E ⟨rfl,s,y⟩;have x:=aA s;clear s l;go_wp2;go_ret2;have z:=j.size;exact⟨.inl ⟨w.o,_,_,_,_,rfl,x.o,z,A,B,by omega,by omega⟩,(j.qT n).trans y qg⟩
 dsimp only;have v:=aA r;clear r;go_wp2;go_ret2;exact⟨.inr ⟨v.o,rfl⟩,j⟩
variable {J:List Fl} {R:List Value} {H:TypeId}
theorem pX:(prog.info? 115).map (λa=>(a.zero,a.size,a.bytes))=some (some (.agg #[.string ⟨#[]⟩,.string ⟨#[]⟩]),2,32):=qk
theorem wH:(prog.info? 3).map (λa=>(a.zero,a.size,a.bytes))=some (some (ii 0),1,8):=qk
abbrev iT(a:List Fl):List Value:=a.map λb=>ii (b.safe:Int)
structure Rw2 (w:World) (base:Nat) (D:List Fl) (lv fv:Value) (wr:World):Prop where
 ol:wr.ownsRow base 115 2 lv D.length (D.flatMap Fl.cells)
 os:wr.ownsRow base 3 1 fv D.length (iT D)
 ap:∀g,lv.ownBlock=some g->fv.ownBlock≠some g
 fr:Fr [] w wr
theorem DK.putRows{w0:World}{base:Nat}{h:List Fl}{fv:Value}(o:DK w a b J)(p:base<=w.heap.size)(g:Rw2 w0 base h v fv w)(i:v.ownBlock≠some b)(j:fv.ownBlock≠some b):DK ((w.setCell ⟨b,0,none⟩ v).setCell ⟨b,1,none⟩ fv) base b h/\Fr [b] w ((w.setCell ⟨b,0,none⟩ v).setCell ⟨b,1,none⟩ fv):=by
 obtain⟨⟨s,n,k,l,_⟩,q,_⟩:=o;have c:Fr [b] w ((w.setCell ⟨b,0,none⟩ v).setCell ⟨b,1,none⟩ fv):=(by grind[Fr.setCell,r0]);have m:(w.setCell ⟨b,0,none⟩ v).cell? ⟨b,1,none⟩=some n:=by rw[cE _ _ _ _ _ _ (.inr qo)];exact l
 refine⟨⟨⟨v,fv,?_,?_,aF g.ol c (λe f d=>?_),aF g.os c (λe f d=>?_),i,j,g.ap⟩,λr=>?_,Y3 p c.size⟩,c⟩
 ·rw[cE _ _ _ _ _ _ (.inr qo)];exact eA _ _ _ _ _ k
 ·exact eA _ _ _ _ _ m
 ·have:e=b:=by simpa using d
  subst this;exact i f
 ·have:e=b:=by simpa using d
  subst this;exact j f
 simp_all
theorem KJ{base size:Nat}(c:w.ownsRow base H size v b R)(j:a<=base):w.ownsRow a H size v b R:=
  ⟨c.1,c.2.imp_right λ⟨f,d,e,g,i,h⟩=>⟨f,d,e,g,qo,h⟩⟩
theorem DK.wide{base:Nat}(c:DK w base b J)(j:a<=base):DK w a b J:=by obtain⟨⟨l,fv,e,f,g,h,i⟩,d,k⟩:=c;exact⟨(by grind[KJ]),d,qo⟩
theorem Gs(a:List Fl)(d:Nm)(c:Nat)(b:Fl)(e:a[c]?=some b):bU (a.take (c+1)) d=bU (a.take c) d++(if b.name=d then[]else[b]):=by grind[bU,take_add_one]
theorem yI(a:List Fl)(b:Nm):(bU a b).length<=a.length:=length_filter_le _ _
theorem Gj(base k:Nat)(e:List Fl)(l:Nm)(j:World)(x:DK j base k e)(hl:e.length<=100000000):Cs 114 #[pt k,sv l] j λd w'=>d=.returned (.tuple #[])/\DK w' j.heap.size k (bU e l)/\Fr [k] j w':=by
 obtain⟨bj,av,bg,bh,bi⟩:=Z2 pX;obtain⟨bk,aw,bd,be,bf⟩:=Z2 wH;obtain⟨t,F⟩:∃t:ByteArray,t=⟨l.toArray⟩:=⟨_,rfl⟩;rw[sv,<-F];have HB:=aA F;have P:=aA x;have J:=x.lt;have bn:=x.fz 0;clear x F
 delta Cs;go_in
 go_wp2
 go_loopw [4,5,6] (fun lv fv O wr=>∃f:Nat,f<=e.length/\O=ii f/\Rw2 j j.heap.size (bU (e.take f) l) lv fv wr) (fun _ _ O _=>e.length-(intOf O).toNat)
 ·exact⟨0,Z3 _,rfl,⟨rfl,.inl ⟨rfl,rfl⟩⟩,⟨rfl,.inl ⟨rfl,rfl⟩⟩,(by simp[Value.ownBlock]),r0 _ _⟩
 obtain⟨f,hk,rfl,b⟩:=hrel;have p:=P.o.qF b.fr;have bc:=b.fr.size
 by_cases ag:f<e.length
 ·have az:(f:Int)<(e.length:Int):=qo;obtain⟨i,hf⟩:∃i,e[f]?=some i:=⟨_,Y2 ag⟩;obtain⟨lb,lc,fb,fc,Y,D,E,d3,w⟩:=P.o.at hf;have af:=aI E;have ac:=aI w;have c0:=(b.fr.cell k 0 J qs).trans Y;have V:=(b.fr.cell k 1 J qs).trans D;have c2:=(b.fr.cell lb (f*2) af qs).trans E;have W:=(b.fr.cell lb (f*2+1) af qs).trans d3;have X:=(b.fr.cell fb f ac qs).trans w;have D1:=aA D;have D4:=aA w;clear Y D E d3 w;have s:=Gs e l f i hf;obtain⟨h,y⟩:∃h:ByteArray,h=⟨i.name.toArray⟩:=⟨_,rfl⟩;obtain⟨n,z⟩:∃h:ByteArray,h=⟨i.data.toArray⟩:=⟨_,rfl⟩;rw[sv,<-y]at c2;rw[sv,<-z]at W;have A:(h.toList==t.toList)=(i.name==l):=by grind[Hi.o,ByteArray.toList_mk]
  have HI:=aA b
  by_cases d:i.name=l
  ·have Zr:(h.toList==t.toList)=true:=by rw[A];simpa using d
   rw[Q7 d,Zq6]at s;have B:=aA s;clear A y z b p s V W X;go_wp2;go_roundw
   ·grind[Hi.o]
   simp[intOf];omega
  have Zr:(h.toList==t.toList)=false:=by rw[A];simpa using d
  rw[Z0 d]at s;have B:=aA s;have bb:(bU (e.take f) l).length<=e.length:=by grind[yI]
  obtain⟨m,hE⟩:=nm (bU (e.take f) l);rw[<-hE]at bb B b HI;have aj:Hi (i.cells=[.string h,.string n]):=by show _=_;rw[y,z]
  have ai:=aA (λC I=>b.ol.lt C I);have Q:=aA (λC I=>b.os.lt C I);have an:Hi ((wr.alloc (.cells #[.string h,.string n] 115)).ownsRow j.heap.size 115 2 u4 m.length (m.flatMap Fl.cells)):=aF b.ol ((r0 [] wr).alloc _) qs;have HN:Hi (∀(q:Nat) (r:Value),[Value.string h,.string n][q]?=some r->(wr.alloc (.cells #[.string h,.string n] 115)).cell? ((⟨wr.heap.size,0,none⟩:Addr).add q)=some r):=by intro q r hu;rw[i7,Z9,aB (aC wr _)];grind
  have ak:Hi (∀g,(wr.alloc (.cells #[.string h,.string n] 115)).grownBy g u4.ownBlock->Fr [] j g/\Fr u4.ownBlock.toList wr g):=λg c=>⟨(b.fr.alloc _).grow c (λa c=>.inr (ai.o a c).1),((r0 _ wr).alloc _).grow c (λa c=>.inl (by simp[c]))⟩;clear A y z b p s hE V X
  go_wp2_with (first
   |(
     at_builtin;refine wpList_append_own_at _ rfl (.tmp 26) _ 51 rfl j.heap.size 115 bj (.agg #[.string ⟨#[]⟩,.string ⟨#[]⟩]) 2 32 Qq6 av bg bh bi rfl qd u4 m.length (m.flatMap Fl.cells) rfl an.o ⟨wr.heap.size,0,none⟩ 1 1 [.string h,.string n] rfl rfl HN.o qc qm qo qt ?_
     intro v' g M L ba ab;obtain⟨H,aa⟩:=ak.o g L;have g1:=(H.cell k 1 J qs).trans D1.o;have g4:=(H.cell fb f ac qs).trans D4.o;have bq:wr.heap.size<g.heap.size:=by have:=L.size;simp at this;omega
     obtain⟨aq,bl,rfl⟩:=fD M;have R:=aA M;have ah:=aA ab;have H5:Hi ((g.alloc (.cells #[ii i.safe] 3)).ownsRow j.heap.size 3 1 u5 m.length (iT m)):=aF (aF HI.o.os aa (λa c d=>HI.o.ap a (qu d) c)) ((r0 [] g).alloc _) qs;have am:Hi (∀(q:Nat) (r:Value),[ii i.safe][q]?=some r->(g.alloc (.cells #[ii i.safe] 3)).cell? ((⟨g.heap.size,0,none⟩:Addr).add q)=some r):=(by intro q r hu;rw[i7,Z9,aB (aC g _)];simpa using hu)
     clear M L ba ab aa)
   |(
     at_builtin;refine wpList_append_own_at _ rfl (.tmp 36) _ 25 rfl j.heap.size 3 bk (ii 0) 1 8 Z5 aw bd be bf rfl qd u5 m.length (iT m) rfl H5.o ⟨g.heap.size,0,none⟩ 1 1 [ii i.safe] rfl rfl am.o qc qm qo qt ?_
     intro v5 w5 bp ad bo au))
  have ar:=(H.alloc _).grow ad (λa c=>.inr (Q.o a c).1);have Zq:Fr u5.ownBlock.toList g w5:=((r0 _ g).alloc _).grow ad (λa c=>.inl (by simp[c]));have h4:∀a,Value.ownBlock (.slice aq (m.length+1) bl)=some a->u5.ownBlock≠some a/\a<g.heap.size:=λa c=>by
   refine⟨λd=>?_,(R.o.lt a c).2⟩;obtain u|u:=ah.o
   ·grind[Rw2.ap,Hi.o]
   rw[u]at c;cases c;have:=(Q.o _ d).2;simp at this<;>omega
  go_roundw
  ·refine⟨f+1,ag,by go_num,?_⟩;rw[B.o];refine⟨?_,?_,fun a c d=>?_,ar⟩
   ·rw[m8,Qz5,show[i].flatMap Fl.cells=[.string h,.string n] by rw[flatMap_singleton,aj.o]];exact aF R.o Zq (λa c d=>(h4 a c).1 (qu d))
   ·grind
   obtain u|u:=au
   · grind
   rw[u]at d;cases d;have:=(h4 _ c).2;simp at this<;>omega
  simp[intOf];omega
 have az:¬(f:Int)<(e.length:Int):=qo;obtain⟨ao,lc,c0⟩:=p.len;have ae:e.take f=e:=l8 qo;rw[ae]at b;have N:=p.fz;obtain⟨br,bm,q0,q1,_⟩:=p.ex;obtain⟨a4,l4,rfl⟩:=fD b.ol;obtain⟨a5,l5,rfl⟩:=fD b.os;have z0:=N 0;have z1:=N 1;have ax:∀a,Value.ownBlock (.slice a4 (bU e l).length l4)=some a->a≠k:=λa c d=>by have:=(b.ol.lt a c).1;omega
 have ay:∀a,Value.ownBlock (.slice a5 (bU e l).length l5)=some a->a≠k:=λa c d=>by have:=(b.os.lt a c).1;omega
 have hP:=p.putRows bc (w0:=j) ⟨b.ol,b.os,b.ap,b.fr⟩ (λd=>ax k d rfl) (λd=>ay k d rfl);have S:=aA hP;have HF:=aA b.fr;clear b hP p ae N
 go_wp2_with fail
 refine Q5 (v:=.tuple #[]) (Q6 rfl _ _ _) rfl ⟨rfl,S.o.1,HF.o.qO.trans S.o.2 qs⟩
variable {Q:Fl} {d e:Nat} {y:World}
set_option maxRecDepth 100000
theorem KG{base size:Nat}(h:w.ownsRow base H size v a R){g o:Nat}(c:v.ownBlock=some g)(b:Value):(w.setCell ⟨g,o,none⟩ b).ownsRow base H size v a (R.set o b):=by
 obtain⟨n,i⟩:=h;refine⟨by grind,?_⟩;obtain⟨rfl,_⟩|⟨f,d,e,rfl,j,l,k,m,p,q⟩:=i
 ·cases c
 simp[Value.ownBlock]at c;subst c;refine .inr ⟨f,d,e.setIfInBounds o b,rfl,j,iE l b,k,m,by grind,?_⟩;grind[take_set]
theorem sX{base size:Nat}(d:w.ownsRow base H size v a R)(c:v.ownBlock=some b)(e:Nat):w.frozen? ⟨b,e,none⟩=false:=by
 obtain⟨rfl,_⟩|⟨h,f,g,rfl,i,j,_⟩:=d.2
 ·cases c
 simp[Value.ownBlock]at c;grind[aV]
theorem Hg{d:Type}{b:List d}{c:d}(e:b[a]?=some c):b.set a c=b:=by apply V8;grind
theorem DK.fzL{base:Nat}(f:DK w base a J)(h:w.cell? ⟨a,0,none⟩=some (.slice (so b) J.length c))(e:Nat):w.frozen? ⟨b,e,none⟩=false:=by obtain⟨k,fv,d,i,g,j,_⟩:=f.ex;rw[h]at d;cases d;exact sX g rfl e
theorem DK.fzS{base:Nat}(f:DK w base a J)(h:w.cell? ⟨a,1,none⟩=some (.slice (so b) J.length c))(e:Nat):w.frozen? ⟨b,e,none⟩=false:=by obtain⟨k,fv,i,d,j,g,_⟩:=f.ex;rw[h]at d;cases d;exact sX g rfl e
theorem vL:∀(b:List Fl) (e a:Nat) (c d:Fl) (f:Value),b[e]?=some c->a<2->d.cells=c.cells.set a f->(b.set e d).flatMap Fl.cells=(b.flatMap Fl.cells).set (e*2+a) f
 |[],e,a,c,d,f,g,_,_=>by grind
 |j::b,0,a,c,d,f,g,i,h=>by grind
 |j::b,e+1,a,c,d,f,g,i,h=>by rw[set_cons_succ,l9,l9,vL b e a c d f qg i h,Zz1 _ _ qg];grind
theorem NI{f j:Type}(d:f->j):∀(a:List f) (e:Nat) (b c:f),a[e]?=some b->d c=d b->(a.set e c).map d=a.map d
 |[],e,b,c,g,_=>by grind
 |i::a,0,b,c,g,h=>by grind
 |i::a,e+1,b,c,g,h=>by rw[set_cons_succ,Y5,Y5,NI d a e b c qg h]
theorem DK.setL{base j:Nat}{f':Fl}{v:Value}(f:DK w base a J)(l:J[b]?=some Q)(o:w.cell? ⟨a,0,none⟩=some (.slice (so c) J.length d))(q:j<2)(s:f'.cells=Q.cells.set j v)(r:f'.safe=Q.safe):DK (w.setCell ⟨c,b*2+j,none⟩ v) base a (J.set b f')/\base<=c:=by
 have y:=f.lt;have A:b<J.length:=qg;obtain⟨⟨E,fv,g,u,h,m,i,n,k⟩,C,x⟩:=f;rw[o]at g;cases g;have B:c≠a:=λe=>i (by rw[e];rfl);have p:Fr [c] w (w.setCell ⟨c,b*2+j,none⟩ v):=(r0 _ _).setCell _ _ qs;refine⟨⟨⟨_,fv,?_,?_,?_,?_,i,n,k⟩,λD=>?_,qa⟩,(h.lt c rfl).1⟩
 ·grind[Fr.cell]
 ·grind[Fr.cell]
 ·rw[Q0,vL J b j Q f' v l q s];exact KG h rfl v
 ·rw[Q0,NI (λQ:Fl=>ii (Q.safe:Int)) J b Q f' l (by rw[r])];exact aF m p (λt z e=>k c rfl qg)
 simp_all
theorem DK.setS{base:Nat}(h:DK w base a J)(m:J[b]?=some Q)(q:w.cell? ⟨a,1,none⟩=some (.slice (so c) J.length d)):DK (w.setCell ⟨c,b,none⟩ (ii (e:Int))) base a (J.set b {Q with safe:=e})/\base<=c:=by
 have x:=h.lt;have y:b<J.length:=qg;obtain⟨⟨t,fv,u,i,n,j,p,k,l⟩,A,v⟩:=h;rw[q]at i;cases i;have z:c≠a:=λf=>k (by rw[f];rfl);have r:Fr [c] w (w.setCell ⟨c,b,none⟩ (ii (e:Int))):=(r0 _ _).setCell _ _ qs;refine⟨⟨⟨t,_,?_,?_,?_,?_,p,k,l⟩,λB=>?_,qa⟩,(j.lt c rfl).1⟩
 ·grind[Fr.cell]
 ·grind[Fr.cell]
 ·rw[Q0,vL J b 0 Q {Q with safe:=e} (sv Q.name) m qo rfl];have f:(J.flatMap Fl.cells).set (b*2+0) (sv Q.name)=J.flatMap Fl.cells:=by have:=sA J b 0 Q m qo;exact Hg this
  rw[f];exact aF n r (λg s f=>l g s (by have:g=c:=qg;rw[this];rfl))
 ·rw[Q0];have:=KG j (g:=c) (o:=b) rfl (ii (e:Int));simp_all
 simp_all
abbrev nZ(a:Stp):Array Value:=#[ii a.what,sv a.name,sv a.to,sv a.data]
def OwB(e:World)(d c:Nat):Prop:=∃a b,a<2/\e.cell? ⟨d,a,none⟩=some b/\b.ownBlock=some c
theorem OwB.fr{S:List Nat}(c:OwB x a b)(j:Fr S w x)(i:a<w.heap.size)(k:a∉S):OwB w a b:=by obtain⟨f,g,d,h,e⟩:=c;exact⟨f,g,d,by grind[Fr.cell],e⟩
theorem DK.own{base:Nat}(k:DK w base a J)(n:OwB w a b):base<=b/\b<w.heap.size/\b≠a:=by
 obtain⟨p,fv,h,i,e,f,l,m,_⟩:=k.ex;obtain⟨g,q,o,c,d⟩:=n;have:g=0\/g=1:=qo;obtain rfl|rfl:=this
 ·rw[h]at c;cases c;exact⟨(e.lt b d).1,(e.lt b d).2,λj=>l qg⟩
 rw[i]at c;cases c;exact⟨(f.lt b d).1,(f.lt b d).2,λj=>m qg⟩
def FrB(c:Nat)(b e:World):Prop:=(∃d:List Nat,(∀a∈d,a=c\/OwB b c a\/b.heap.size<=a)/\Fr d b e)/\∀a,OwB e c a->OwB b c a\/b.heap.size<=a
theorem FrB.refl(b:Nat)(a:World):FrB b a a:=⟨⟨[],by simp,r0 _ _⟩,qg⟩
theorem FrB.size(b:FrB a w x):w.heap.size<=x.heap.size:=by obtain⟨⟨d,_,c⟩,_⟩:=b;exact c.size
theorem FrB.trans(e:FrB a w x)(h:FrB a x y):FrB a w y:=by
 have o:=e.size;obtain⟨⟨S,i,m⟩,k⟩:=e;obtain⟨⟨g,j,n⟩,l⟩:=h;have f:=λb (d:OwB x a b\/x.heap.size<=b)=>d.elim (k b) (λd=>.inr qo);refine⟨⟨S++g,λb c=>?_,(m.mono (λb c=>.inl (Qk3 _ c))).trans n (λb c=>.inl (Qk6 _ c))⟩,λb c=>f b (l b c)⟩;obtain d|d:=m5.1 c
 ·exact i b d
 exact(j b d).imp_right (f b)
theorem FrB.keep(d:FrB a w x)(Z:List Nat)(g:∀b∈Z,b<w.heap.size/\b≠a/\¬OwB w a b):∃c,Fr c w x/\∀b∈Z,b∉c:=by obtain⟨⟨c,e,f⟩,_⟩:=d;grind
theorem EU{k:Nat}(e:k<2)(c:w.cell? ⟨a,k,none⟩=some v)(i:v.ownBlock=some b)(h:b≠a)(d:Fr [b] w x):FrB a w x:=by refine⟨⟨[b],λf g=>.inr (.inl ⟨k,v,e,c,?_⟩),d⟩,(by grind[OwB.fr,aI])⟩;grind
theorem UL(base d:Nat)(c:List Fl)(k l:Nm)(g:Fl)(e:World)(h:DK e base d c)(hl:c.length<=100000000)(x:c[aU c k]?=some g)(hx:g.data.length+l.length<=1000000000000000):Cs 73 #[pt d,.agg (nZ (bV k l))] e λH a=>H=.returned (.bool true)/\DK a base d (c.set (aU c k) {g with data:=g.data++l})/\FrB d e a:=by
 have hk:=(gs.1 x).1;have M:jE c k=(aU c k:Int):=by grind[jE]
 have E:=h.lt;obtain⟨j,P,fb,fc,w,X,Y,z,d4⟩:=h.at x;have aa:=aI z;have R:Hi (j≠d):=(h.own ⟨0,_,by omega,w,rfl⟩).2.2;obtain⟨t,F⟩:=nm (aU c k);have C:=aA (λa f=>by have:=pT base d c k a (h.qF f) qo;rw[M,<-F]at this;exact this)
 rw[<-F]at x hk z |-;have S:Hi (∀a,Fr [] e a->DK (a.setCell ⟨j,t*2+1,none⟩ (sv (g.data++l))) base d (c.set t {g with data:=g.data++l})/\base<=j):=λa f=>(h.qF f).setL x ((f.cell d 0 E qs).trans w) qo rfl rfl;have N:∀a,Fr [] e a->a.frozen? ⟨j,t*2+1,none⟩=false:=λa f=>(h.qF f).fzL ((f.cell d 0 E qs).trans w) _;obtain⟨r,A⟩:∃r:ByteArray,r=⟨g.data.toArray⟩:=⟨_,rfl⟩;obtain⟨y,D⟩:∃y:ByteArray,y=⟨k.toArray⟩:=⟨_,rfl⟩;obtain⟨p,B⟩:∃p:ByteArray,p=⟨l.toArray⟩:=⟨_,rfl⟩;have ac:r.size+p.size<=9223372036854775807:=by rw[A,B];show g.data.length+l.length<=_;omega
 have Q:Hi (Value.string (r++p)=sv (g.data++l)):=by show _=_;rw[A,B,mH]
 rw[sv,<-A]at z;rw[sv,<-D]at C
 show Cs 73 #[pt d,.agg #[ii 1,sv k,.string ⟨#[]⟩,sv l]] e _
 rw[sv,sv,<-D,<-B];clear A D B h M F X Y d4 x hx
 delta Cs;go_in
 obtain⟨n,L⟩:=nm (e.alloc (.cells #[ii 1,.string y,.string ⟨#[]⟩,.string p] 113));have s:Fr [] e n:=by grind[Fr.alloc,r0]
 have O:n.heap[e.heap.size]?=some (.cells #[ii 1,.string y,.string ⟨#[]⟩,.string p] 113):=by grind[aC]
 go_wp2_with fail
 rw[<-L];refine cm (C.o n s) ?_;rintro H w1 ⟨rfl,rfl⟩;have e0:n.cell? ⟨e.heap.size,0,none⟩=some (ii 1):=aB O;have ab:¬(t:Int)<0:=qo;have W:∀a,Fr [] n a->(λa:World=>a.cell? ⟨d,0,none⟩=some (.slice (so j) c.length P)/\a.cell? ⟨j,t*2+1,none⟩=some (.string r)/\a.cell? ⟨e.heap.size,3,none⟩=some (.string p)) a:=λa f=>⟨((s.qT f).cell d 0 E qs).trans w,((s.qT f).cell j _ aa qs).trans z,by rw[aB (f.qH O)];rfl⟩;have b:=W n.drew ((r0 _ _).drew);have z0:=N n.drew (s.drew);have I:=(S.o n.drew s.drew);have V:=aA I;clear L C I N
 go_wp2_with fail
 refine OneFree.region (λa:World=>a.cell? ⟨d,0,none⟩=some (.slice (so j) c.length P)/\a.cell? ⟨j,t*2+1,none⟩=some (.string r)/\a.cell? ⟨e.heap.size,3,none⟩=some (.string p)) 18 qk ?_;refine(show OneFree prog Region.Mode.any _ _ _ 18 19 (Array.replicate 19 false) _ _ from ?_);refine tv 0 b ?_;refine tv 1 b ?_;refine tv 2 b ?_;refine tv 3 b ?_;refine tv 4 b ?_;refine tv 5 b ?_;refine tv 6 b ?_;refine tv 7 b ?_;refine tv 8 b ?_;refine tv 9 b ?_;refine tv 10 b ?_;refine tv 11 b ?_;refine tv 12 b ?_;refine tv 13 b ?_;refine tv 14 b ?_;refine OneFree.take (i:=15) (v:=?_) (by simp only[G];rfl) qk qk qk qk qd (by exact λ_ _ _ h=>h) (.inl ⟨by rfl,?_⟩) b ?_;rotate_left
 focus (first|(intro a J;go_simp;with_reducible rfl)|(intro a J;go_simp;done)|(intro a J;go_simp;rw[Z0 qo]))
 try simp only[Act.put,Z]
 refine o1 16 fun u q=>?_;have m:=aA q;clear q;go_simp;refine m.o _ _ ⟨fun _=>b,?_⟩;clear m u;try simp only[Act.put,Z]
 refine o1 17 fun u q=>?_;have m:=aA q;clear q;go_simp;refine m.o _ _ ⟨fun _=>b,?_⟩;clear m u;try simp only[Act.put,Z]
 refine o1 18 fun u q=>?_;have m:=aA q;clear q;obtain⟨k1,k2,k3⟩:=b;go_simp;refine m.o _ _ ⟨fun h6=>absurd rfl h6,OneFree.done qk ?_ _⟩;clear m u;rw[Q.o];go_wp2;go_ret;exact⟨rfl,V.o.1,EU (k:=0) qo w rfl R.o ((s.drew.qO).setCell _ _ qs)⟩
theorem UN(base d:Nat)(b:List Fl)(e:Nm)(i:Fl)(f:World)(m:DK f base d b)(hl:b.length<=100000000)(B:b[aU b e]?=some i):Cs 73 #[pt d,.agg (nZ (bQ e))] f λD a=>D=.returned (.bool true)/\DK a base d (b.set (aU b e) {i with safe:=i.data.length})/\FrB d f a:=by
 have X:aU b e<b.length:=qg;have I:jE b e=(aU b e:Int):=by grind[jE]
 have A:=m.lt;obtain⟨r,L,k,E,R,t,S,u,x⟩:=m.at B;have Y:=aI u;have N:Hi (k≠d):=(m.own ⟨1,_,by omega,t,rfl⟩).2.2;have V:=aI x;obtain⟨l,C⟩:=nm (aU b e);have v:=aA (λa g=>by have:=pT base d b e a (m.qF g) qo;rw[I,<-C]at this;exact this)
 rw[<-C]at B X u x |-;have O:Hi (∀a,Fr [] f a->DK (a.setCell ⟨k,l,none⟩ (ii (i.data.length:Int))) base d (b.set l {i with safe:=i.data.length})/\base<=k):=λa g=>(by grind[DK.setS,DK.qF,Fr.cell]);have J:∀a,Fr [] f a->a.frozen? ⟨k,l,none⟩=false:=λa g=>(m.qF g).fzS ((g.cell d 1 A qs).trans t) _;obtain⟨n,y⟩:∃n:ByteArray,n=⟨i.data.toArray⟩:=⟨_,rfl⟩;obtain⟨s,z⟩:∃s:ByteArray,s=⟨e.toArray⟩:=⟨_,rfl⟩;have M:Hi ((n.size:Int)=(i.data.length:Int)):=by show _=_;rw[y];rfl
 rw[sv,<-y]at u;rw[sv,<-z]at v
 show Cs 73 #[pt d,.agg #[ii 2,sv e,.string ⟨#[]⟩,.string ⟨#[]⟩]] f _
 rw[sv,<-z];clear y z m I C S B
 delta Cs;go_in
 obtain⟨h,H⟩:=nm (f.alloc (.cells #[ii 2,.string s,.string ⟨#[]⟩,.string ⟨#[]⟩] 113));have j:Fr [] f h:=by grind[Fr.alloc,r0]
 have W:h.heap[f.heap.size]?=some (.cells #[ii 2,.string s,.string ⟨#[]⟩,.string ⟨#[]⟩] 113):=by grind[aC]
 go_wp2_with fail
 rw[<-H];refine cm (v.o h j) ?_;rintro D w1 ⟨rfl,rfl⟩;have e0:ca h f.heap.size 0 (ii 2):=aB W;have aa:(0:Int)<=(l:Int):=qo;have Q:∀a,Fr [] h a->(λa:World=>ca a d 0 (.slice (so r) b.length L)/\ca a d 1 (.slice (so k) b.length E)/\ca a r (l*2+1) (.string n)) a:=λa g=>⟨((j.qT g).cell d 0 A qs).trans R,((j.qT g).cell d 1 A qs).trans t,((j.qT g).cell r _ Y qs).trans u⟩;have c:=Q h.drew ((r0 _ _).drew);have z0:=J h.drew (j.drew);have c4:=(j.drew.cell k l V qs).trans x;have F:=(O.o h.drew j.drew);have P:=aA F;clear H v F J
 go_wp2_with fail
 refine OneFree.region (fun a:World=>a.cell? ⟨d,0,none⟩=some (.slice (so r) b.length L)/\a.cell? ⟨d,1,none⟩=some (.slice (so k) b.length E)/\a.cell? ⟨r,l*2+1,none⟩=some (.string n)) 15 qk ?_;refine(show OneFree prog Region.Mode.any _ _ _ 15 16 (Array.replicate 16 false) _ _ from ?_);refine tv 0 c ?_;refine tv 1 c ?_;refine tv 2 c ?_;refine tv 3 c ?_;refine tv 4 c ?_;refine tv 5 c ?_;refine tv 6 c ?_;refine tv 7 c ?_;refine tv 8 c ?_;refine tv 9 c ?_;refine tv 10 c ?_;refine tv 11 c ?_;refine tv 12 c ?_;refine tv 13 c ?_;refine o1 14 fun w q=>?_;have p:=aA q;clear q;go_simp;refine p.o _ _ ⟨fun _=>c,?_⟩;clear p w;try simp only[Act.put,Z]
 refine o1 15 fun w q=>?_;have p:=aA q;clear q;obtain⟨k1,k2,k3⟩:=c;go_simp;refine p.o _ _ ⟨qo,OneFree.done qk ?_ _⟩;clear p w;rw[M.o];go_wp2;go_ret;exact⟨rfl,P.o.1,EU (k:=1) qo t rfl N.o ((j.drew.qO).setCell _ _ qs)⟩
set_option maxRecDepth 100000
structure RlP (l:List UInt8) (w:World) (e:Ending) (w':World):Prop where
 ex:(∃t r pb cap,fG l t r/\e=.returned (.tuple #[.agg (gl t pb cap).toArray,.bool (decide (r=[])),.bool true])/\PRow w' pb cap t.us/\w.heap.size<=pb)\/((∀t r,¬fG l t r)/\e=.returned (.tuple #[.agg zeroCells90,.bool false,.bool false]))
 fr:Fr [] w w'
theorem Eh(k g b:List UInt8)(a:World)(H:Sd a)(A:cA 2 k=some (g,b))(w:PL g)(ay:k.length<=90000000000000):Cs 48 #[sv k] a λi c=>∃d f,i=.returned (.tuple #[.agg (gl (cO b.length (bS g) b).1 d f).toArray,.bool (decide ((cO b.length (bS g) b).2=[])),.bool true])/\PRow c d f (cO b.length (bS g) b).1.us/\a.heap.size<=d/\Fr [] a c:=by
 obtain⟨bc,aw⟩:=mM A;have B:∀c,Cs 89 #[sv k,.int .u8 2] c (R0 c (.tuple #[.string ⟨g.toArray⟩,.string ⟨b.toArray⟩,.bool true])):=λc=>by have hcut:=sD 2 k c qo;rw[A]at hcut;exact hcut
 obtain⟨j,n⟩:=nm (bS g);have ag:GG j:=by rw[n];exact⟨w.ok,w.os,(tC g).1⟩
 have bn:=H.pos;have r:Hi (∀c,Fr [] a c->Cs 90 #[.string ⟨g.toArray⟩] c λi M=>∃d f,i=.returned (.tuple #[.agg (gl j d f).toArray,.bool true])/\PRow M d f j.us/\c.heap.size<=d/\Fr [] c M):=λc C=>Calls.mono (LK g c qo (qh C.size)) (by
  rintro i M av;rw[n];obtain⟨_,d,f,an⟩|⟨an,_⟩:=av
  ·exact⟨d,f,an⟩
  grind)
 rw[<-n];have q:=aA (λd f c C hr=>Dh d f j b c (H.qF C) ag hr qo);obtain⟨tx,I⟩:∃b:ByteArray,b=⟨k.toArray⟩:=⟨_,rfl⟩;obtain⟨bi,z⟩:∃b:ByteArray,b=⟨g.toArray⟩:=⟨_,rfl⟩;obtain⟨bh,y⟩:∃bd:ByteArray,bd=⟨b.toArray⟩:=⟨_,rfl⟩;simp only[sv,<-I,<-z,<-y]at B;rw[<-z]at r;rw[sv,<-y]at q;rw[sv,<-I];clear I z y n A w bc aw ay H ag
 delta Cs;go_in
 go_wp2_with fail
 refine cm (B _) ?_;rintro i w1 ⟨rfl,ac⟩;have J:Fr [] a w1:=((r0 _ _).alloc _).qT ac;have u:=ac.qH (aC a (.cells zeroCells90 90));clear B
 go_wp2_with fail
 refine cm (r.o _ J) ?_;rintro i w2 ⟨d,f,rfl,aj,bl,ad⟩;obtain⟨h,E⟩:=nm (gl j d f);have ah:h.length=149:=by rw[E];exact eI _ _
 have Q:Hi ((prog.info? 90).map (·.size)=some h.toArray.size):=by
  show _=_
  rw[dD,size_toArray,ah]
 have Zr:Hi (zeroCells90.size=h.toArray.size):=by
  show _=_
  simp_all
 have ap:Hi (h.toArray.all (·.oneCell')=true):=by
  show _=_
  grind[iL]
 have O:=(show Hi _ from ad.qH u);have ba:=J.qT ad;have bk:=aH O.o;obtain⟨s,aa⟩:=nm (w2.setRow a.heap.size h.toArray);have D:Fr [a.heap.size] w2 s:=by grind[Fr.setRow,r0]
 have P:Hi (s.heap[a.heap.size]?=some (.cells h.toArray 90)):=by grind[setRow_heap,Hi.o]
 have am:=ba.trans D qs;have bo:=J.size;have bj:=aH u;have F:=q.o d f s am (aj.fr D qt);rw[<-E]at F |-;have S:=aA F;have ar:=aA aa;clear E ah aa D aj u F q r
 go_wp2_with (first|(refine wpList_store_row rfl 90 _ _ rfl a.heap.size h.toArray rfl rfl 90 zeroCells90 O.o Q.o Zr.o ap.o ?_;rw[<-ar.o])|(refine wpList_load_row rfl 90 _ rfl a.heap.size rfl 90 h.toArray (0,0) _ P.o underlying90 rfl Q.o ?_))
 refine cm S.o ?_;rintro i N ⟨L,X,rfl,ak,az,ae⟩;obtain⟨e,m⟩:=nm (gl (cO b.length j b).1 L X);have ai:e.length=149:=by rw[m];exact eI _ _
 have l:Hi ((prog.info? 90).map (·.size)=some e.toArray.size):=by
  show _=_
  rw[dD,size_toArray,ai]
 have au:Hi (h.toArray.size=e.toArray.size):=by grind[Hi.o]
 have R:Hi (e.toArray.all (·.oneCell')=true):=by
  show _=_
  grind[iL]
 have bf:=aA m;rw[<-m];have ao:=(show Hi _ from ae.qH P.o);have bb:=am.qT ae;obtain⟨t,ab⟩:=nm (N.setRow a.heap.size e.toArray);have ax:Fr [a.heap.size] N t:=by grind[Fr.setRow,r0]
 have p:Hi (t.heap[a.heap.size]?=some (.cells e.toArray 90)):=by grind[setRow_heap,Hi.o]
 obtain⟨V,x⟩:=nm ((cO b.length j b).2);rw[<-x];have bm:a.heap.size<L:=by grind[Hi.o]
 have aq:=aA ak;have bg:=aA x;have Zq:=aA ab;obtain⟨W,Y⟩:∃b:ByteArray,b=⟨V.toArray⟩:=⟨_,rfl⟩;have be:Hi (W.toList.isEmpty=decide (V=[])):=by
  show _=_
  grind[toList_mk]
 rw[sv,<-Y];clear m ai ab x ak az S Y
 go_wp2_with (first|(refine wpList_store_row rfl 90 _ _ rfl a.heap.size e.toArray rfl rfl 90 h.toArray ao.o l.o au.o R.o ?_;rw[<-Zq.o])|(refine wpList_load_row rfl 90 _ rfl a.heap.size rfl 90 e.toArray (0,0) _ p.o underlying90 rfl l.o ?_)|(refine wpList_store_row rfl 90 _ _ rfl a.heap.size e.toArray rfl rfl 90 e.toArray p.o l.o rfl R.o ?_))
 have af:Fr [a.heap.size] N (t.setRow a.heap.size e.toArray):=ax.setRow _ _ (.inl qs);refine bodyPost_ret (v:=.tuple #[.agg e.toArray,.bool W.toList.isEmpty,.bool true]) (pG results48 _ _ a.heap.size 90 e.toArray (0,0) _ _ _ rfl rfl rfl (setRow_heap _ _ _ _ _ _ p.o) underlying90 rfl l.o) rfl ⟨L,X,?_,PRow.fr aq.o af qt,by omega,bb.trans af qs⟩;grind[Hi.o]
theorem Eg(d:List UInt8)(a:World)(J:0<a.heap.size)(q:∀c l,cA 2 d=some (c,l)->¬PL c)(I:d.length<=90000000000000):Cs 48 #[sv d] a (R0 a (.tuple #[.agg zeroCells90,.bool false,.bool false])):=by
 obtain⟨x,f⟩:∃F:ByteArray,F=⟨d.toArray⟩:=⟨_,rfl⟩;have i:Hi (∀j,Fr [] a j->j.heap[a.heap.size]?=some (.cells zeroCells90 90)->Fr [] a (j.setRow a.heap.size zeroCells90)/\(j.setRow a.heap.size zeroCells90).heap[a.heap.size]?=some (.cells zeroCells90 90)):=λj p A=>⟨p.setRow _ _ qo,Qz4 _ _ _ _ _ _ A⟩;cases e:cA 2 d with
 |none=>
  have hcut:∀b,Cs 89 #[.string x,.int .u8 2] b (R0 b (.tuple #[.string ⟨#[]⟩,.string ⟨#[]⟩,.bool false])):=λb=>by have hcut:=sD 2 d b qo;rw[e]at hcut;rw[f];exact hcut
  rw[sv,<-f];clear f e q
  delta Cs;go_in
  go_wp2_with fail
  refine cm (hcut _) ?_;rintro n y ⟨rfl,k⟩;have r:Fr [] a y:=((r0 _ _).alloc _).qT k;have g:=(show Hi _ from k.qH (aC a (.cells zeroCells90 90)));have h:=(show Hi _ from i.o _ r g.o);clear hcut i
  go_wp2_with (first|(refine mB rfl 90 rfl zeroCells90 mG ?_)|(refine wpList_store_row rfl 90 _ _ rfl a.heap.size zeroCells90 rfl rfl 90 zeroCells90 g.o gS rfl lE ?_))
  exact Zq8 (v:=.tuple #[.agg zeroCells90,.bool false,.bool false]) (pG results48 _ _ a.heap.size 90 zeroCells90 (0,0) _ _ _ rfl rfl rfl h.o.2 X9 rfl gS) rfl ⟨rfl,h.o.1⟩
 |some C=>
  obtain⟨c,l⟩:=C;obtain⟨L,H⟩:=mM e;have B:=q c l e;have hcut:∀b,Cs 89 #[.string x,.int .u8 2] b (R0 b (.tuple #[.string ⟨c.toArray⟩,.string ⟨l.toArray⟩,.bool true])):=λb=>by have hcut:=sD 2 d b qo;rw[e]at hcut;rw[f];exact hcut
  have s:Hi (∀b,Fr [] a b->Cs 90 #[.string ⟨c.toArray⟩] b (R0 b (.tuple #[.agg zeroCells90,.bool false]))):=λb p=>Qx1 (LK c b qo (qh p.size)) (by
   rintro n N z;obtain⟨D,_⟩|⟨_,D,M⟩:=z
   ·grind
   grind[mY])
  rw[sv,<-f];clear f e q B
  delta Cs;go_in
  go_wp2_with fail
  refine cm (hcut _) ?_;rintro n E ⟨rfl,u⟩;have w:Fr [] a E:=((r0 _ _).alloc _).qT u;have t:=u.qH (aC a (.cells zeroCells90 90));clear hcut
  go_wp2_with fail
  refine cm (s.o _ w) ?_;rintro n y ⟨rfl,k⟩;have r:=w.qT k;have g:=(show Hi _ from k.qH t);have m:=(show Hi _ from i.o _ r g.o);have h:=(show Hi _ from i.o _ m.o.1 m.o.2);clear i s t
  go_wp2_with (first|(refine mB rfl 90 rfl zeroCells90 mG ?_)|(refine wpList_store_row rfl 90 _ _ rfl a.heap.size zeroCells90 rfl rfl 90 zeroCells90 g.o gS rfl lE ?_)|(refine wpList_store_row rfl 90 _ _ rfl a.heap.size zeroCells90 rfl rfl 90 zeroCells90 m.o.2 gS rfl lE ?_))
  exact Zq8 (v:=.tuple #[.agg zeroCells90,.bool false,.bool false]) (pG results48 _ _ a.heap.size 90 zeroCells90 (0,0) _ _ _ rfl rfl rfl h.o.2 X9 rfl gS) rfl ⟨rfl,h.o.1⟩
theorem Ef(b:List UInt8)(c:World)(j:Sd c)(i:b.length<=90000000000000):Cs 48 #[sv b] c λe h=>RlP b c e h:=by
 by_cases l:∃a d,cA 2 b=some (a,d)/\PL a
 ·obtain⟨a,d,f,g⟩:=l;refine cm (Eh b a d c j f g i) ?_;rintro e h ⟨n,k,rfl,o,p,q⟩;exact⟨.inl ⟨_,_,n,k,⟨a,d,f,g,rfl⟩,rfl,o,p⟩,q⟩
 refine cm (Eg b c j.pos qg i) ?_;rintro e h ⟨rfl,m⟩;exact⟨.inr ⟨λs r ⟨a,d,f,g,_⟩=>qg,rfl⟩,m⟩
variable {P:List Pf} {B:List UInt8} {V:Nm}
abbrev eB(b:List Pf):List Fl:=b.map λa=>⟨a.1,a.2,a.2.length⟩
theorem DJ(a:Q∈eB P):Q.safe=Q.data.length:=by grind
theorem IA(f:(P.map (·.1)).Nodup){a:Pf}(e:a∈P):cV P a.1=some a.2:=by obtain⟨c,g⟩:=Zx5 e;have b:=YT f g a.1;rw[Q7 rfl]at b;have d:P=P.take (c+1)++P.drop (c+1):=qa;unfold cV at b |-;rw[d,find?_append];grind
theorem UH(c:(P.map (·.1)).Nodup)(e:∀a,(A a).map (·.2)=cV P a):DG (eB P) A:=by
 refine⟨by grind,λj d=>?_,λl m k=>?_⟩
 ·obtain⟨h,f,rfl⟩:=Qk7.1 d;have:=(e h.1).trans (IA c f);obtain⟨i,g,b⟩:=V2.1 this;exact⟨i.1,by rw[g,<-b]⟩
 grind[qA]
theorem UJ{D:List Fl}{a:Nm}(b:V∉cT D)(c:V≠LOG):cQ D [bV V a,bQ V,dI V LOG]=some (bU D LOG++[⟨LOG,a,a.length⟩]):=by
 show(dO D (bV V a)).bind _=_
 rw[DN b]
 show(dO _ (bQ V)).bind _=_
 grind[DP,lP,DO]
theorem DG.no(a:DG J A)(b:A V=none):V∉cT J:=(by grind[DG.there])
theorem IC(a:cV P V=some l):(⟨V,l,l.length⟩:Fl)∈eB P:=by grind[cV,Option.map_eq_some_iff,mem_of_find?_eq_some]
theorem UO(c:(P.map (·.1)).Nodup)(b:cV P LOG=some l):cQ (eB P) [bQ LOG]=some (eB P):=by have a:=vQ qg (IC b);dsimp only at a;rw[lP,vH a];grind[List.set_getElem_self]
def gU(a:List Pf)(b:List UInt8)(d:T)(c:List UInt8):Prop:=(a.map (·.1)).Nodup/\cV a LOG=some b/\fG b d c
theorem JQ:¬fG [] t l:=λ⟨a,c,b,_⟩=>by grind[rR]
def iO(a:List UInt8)(c:T)(b:List UInt8):List UInt8:=if b=[]then a else bE 2 (aQ c)
theorem YS(a:fG l t B):fG (iO l t B) t []:=by grind[iO,kB,sV]
structure OpP (fs:List Pf) (w:World) (e:Ending) (w':World):Prop where
 ex:(∃l0 t r rb pb cap S mv stv g steps D f,gU fs l0 t r/\e=.returned (.tuple #[pt rb,ii 0])/\RS w' rb pb cap S t mv stv g steps/\cQ (eB fs) steps=some D/\DG D g/\(∀f∈D,f.safe<=f.data.length)/\f∈D/\f=⟨LOG,iO l0 t r,(iO l0 t r).length⟩/\(steps=[bQ LOG]\/∃N,N.length<=30/\steps=[bV N (bE 2 (aQ t)),bQ N,dI N LOG])/\w.heap.size<=rb/\w.heap.size<=pb/\(∀b∈S,w.heap.size<=b))\/((∀l0 t r,¬gU fs l0 t r)/\e=.returned (.tuple #[.pointer none,ii 2]))
 fr:Fr [] w w'
theorem Ev(ah:Value)(d:List Pf)(l:World)(hv:FilesV l ah d)(hl:∀k∈d,k.1.length<=1000000000/\k.2.length<=90000000000000)(m:d.length<=1000000000)(bm:Sd l)(bn:Tb l):Cs 22 #[ah] l λh s=>OpP d l h s:=by
 have av:=Ir ah d l hv (λk hp=>⟨(hl k hp).1,by have:=(hl k hp).2;omega⟩) m;have aj:=aA (λch s a q=>Ef ch s (bm.qF q) a);have bc:=aA (λs (q:Fr [] l s)=>bn.qF q);have bb:Hi (∀r,cV d LOG=some r->r.length<=90000000000000):=λr a=>by have:=qA.1 (show cV d LOG≠none by rw[a];simp);unfold cV at a;obtain⟨k,hp,rfl⟩:=V2.1 a;exact(hl k (Zx6 hp)).2
 obtain⟨ao,ln,lc,rfl⟩:∃ao ln lc,ah=.slice ao ln lc:=by
  obtain⟨ao,lc,rfl,_⟩|⟨lb,lo,lc,rfl,_⟩:=hv
  ·exact⟨_,_,_,rfl⟩
  exact⟨_,_,_,rfl⟩
 have bt:=aA m;clear hv hl m bm bn
 delta Cs;go_in
 go_wp2_with fail
 refine cm av ?_;rintro h L cd;obtain⟨F,mv,Zs,x,rfl,v,hg,hS,D⟩|⟨F,rfl,D⟩:=cd;rotate_left
 ·dsimp only;clear av aj bc bb;go_wp2;exact Zq8 (v:=.tuple #[.pointer none,ii 2]) (by simp[results,results22,go_sem]) rfl ⟨.inr ⟨fun r ag J a=>F a.1,rfl⟩,D.alloc _⟩
 dsimp only;obtain⟨e,rfl⟩:∃e,mv=.map e:=by
  obtain⟨rfl,_⟩|⟨J,rfl,_⟩:=v.map
  ·exact⟨_,rfl⟩
  exact⟨_,rfl⟩
 obtain⟨W,ar,H,Y⟩:=al L (.cells #[.map e,.slice none 0 0] 95);obtain⟨b,be⟩:=nm (aX x LOG);have z:cV d LOG=some b\/(cV d LOG=none/\b=[]):=by
  rw[be];have:=hg LOG;unfold aX;cases hx:x LOG with
  |none=>rw[hx]at this;exact .inr ⟨this.symm,rfl⟩
  |some k=>rw[hx]at this;exact .inl this.symm
 have cb:b.length<=90000000000000:=by
  obtain a|⟨_,a⟩:=z
  ·exact bb.o b a
  rw[a];simp
 have N:=(show Hi _ from UH F hg);have Zq:=DL L.heap.size 0 (.map e) x LOG W (aB Y) (v.qF H).map ((v.qF H).fiv_own LOG qs);rw[<-be]at Zq;have Zr:Cs 49 #[.pointer (so L.heap.size),.string ⟨#[108,111,103]⟩] W λh s=>h=.returned (sv b)/\W=s:=Zq;rw[ar]at Zr;have bw:=aA ar;clear av Zq ar
 go_wp2_with fail
 refine cm Zr ?_;rintro h w2 ⟨rfl,rfl⟩;rw[<-bw.o];have bq:=D.qT H;have ad:=aj.o b W cb bq;obtain⟨LX,an⟩:∃ck:ByteArray,ck=⟨b.toArray⟩:=⟨_,rfl⟩;rw[sv,<-an]at ad;rw[sv,<-an];clear Zr aj an
 go_wp2_with fail
 refine cm ad ?_;rintro h f ⟨ce,aa⟩;obtain⟨c,R1,I,X,A,rfl,aw,co⟩|⟨ab,rfl⟩:=ce;rotate_left
 ·dsimp only;have bk:∀r ag J,¬gU d r ag J:=λr ag J a=>by
   obtain n|⟨n,_⟩:=z
   ·have:=a.2.1;rw[n]at this;cases this;exact ab ag J a.2.2
   have:=a.2.1;rw[n]at this;cases this
  have bv:=aA bk;have bh:=bq.qT aa;clear ad ab bk z N
  go_wp2_with (refine wpList_store_row rfl 90 _ _ rfl f.heap.size zeroCells90 rfl rfl 90 zeroCells90 (aC f _) gS rfl lE ?_)
  exact Zq8 (v:=.tuple #[.pointer none,ii 2]) (by simp[results,results22,go_sem]) rfl ⟨.inr ⟨bv.o,rfl⟩,(bh.alloc _).setRow _ _ (.inr bh.size)⟩
 dsimp only;have bd:cV d LOG=some b:=by
  obtain a|⟨_,a⟩:=z
  ·exact a
  rw[a]at A;exact absurd A JQ
 have w:Hi (gU d b c R1):=⟨F,bd,A⟩;obtain⟨bi,bo,cn⟩:=kB A;obtain⟨gs,E⟩:=nm (gl c I X);rw[<-E];have m:gs.length=149:=by rw[E];exact eI _ _
 have Q:Hi (gs.toArray.all (·.oneCell')=true):=by
  show _=_
  rw[E];exact iL _ _ _ _
 have bu:=aA E;have t:Hi ((prog.info? 90).map (·.size)=some gs.toArray.size):=by
  show _=_
  rw[dD,Qx3,m]
 have P:Hi (zeroCells90.size=gs.toArray.size):=by
  show _=_
  exact zcGame.trans (by simp[m])
 have M:Hi (prog.built 97 [(0,.agg gs.toArray),(1,.agg #[.map e,.slice none 0 0])]=some (gs++[Value.map e,Value.slice none 0 0]).toArray):=SE gs m _ _;obtain⟨g,C⟩:=nm ((f.alloc (.cells zeroCells90 90)).setRow f.heap.size gs.toArray);have O:Hi (g.heap[f.heap.size]?=some (.cells gs.toArray 90)):=by show _=_;rw[C];exact Qz4 _ _ _ _ _ _ (aC _ _)
 have ae:Fr [] f g:=by rw[C];exact((r0 _ _).alloc _).setRow _ _ (.inr (Q9 _))
 have cf:g.heap.size=f.heap.size+1:=by rw[C];simp
 have am:=(aa.qT ae).qH Y;have k0:ca g L.heap.size 0 (.map e):=aB am;have k1:ca g L.heap.size 1 (.slice none 0 0):=aB am;obtain⟨W5,bg,ay,hh⟩:=al g (.cells (gs++[Value.map e,Value.slice none 0 0]).toArray 97);have cq:=D.size;have cr:=H.size;have cs:=aa.size;have cp:=aw.lt;have u:=bi;have cu:=bo;have bp:c.us.length<=100:=u.ok.len;have ax:=((H.qT aa).qT ae).qT ay;have af:=D.qT ax;have aq:RS W5 g.heap.size I X Zs c (.map e) (.slice none 0 0) x []:=by have bj:=v.lt;exact⟨by show _=_;rw[hh,bu.o],v.qF ax,(aw.fr ae qs).fr ay qs,λh=>by have:=bj _ h;omega,λh=>by have:=bj _ h;omega,by omega,by omega,FH u.ok,by omega,by have:=aH Y;omega⟩
 have cg:=pK u qo;have ak:=(show Hi _ from LZ W5 aq qs);have ai:=(show Hi _ from LW W5 aq qs (bc.o _ af) (ns:=d.map (·.1)) (λbr a=>qA.1 (by rw[<-hg br];cases hx:x br with|none=>rw[hx]at a;cases a|some k=>simp)) (by rw[Qq1];exact bt.o) (nO u.ok u.os ⟨u.t0,by omega⟩) bp qo);have ct:=af.size;have ac:l.heap.size<=g.heap.size:=qo;have bl:l.heap.size<=I:=qo;have R:=aA hS;have S:=aA C;have V:=aA bg;obtain⟨bs,hB⟩:=nm (decide (R1=[]));rw[<-hB];have ba:=aA hB;clear E m C bg aq aw Y am hh v hg hS hB ad ax ae ay cg bp cf z bd A F bi bo;cases bs
 ·go_wp2_with (first|(refine wpList_store_row rfl 90 _ _ rfl f.heap.size gs.toArray rfl rfl 90 zeroCells90 (aC f _) t.o P.o Q.o ?_;rw[<-S.o])|(refine wpList_load_row rfl 90 _ rfl f.heap.size rfl 90 gs.toArray (0,0) _ O.o X9 rfl t.o ?_)|(refine PF rfl 97 0 1 (.tmp 24) (.tmp 25) rfl (.agg gs.toArray) (.agg #[.map e,.slice none 0 0]) rfl rfl (gs++[Value.map e,Value.slice none 0 0]).toArray M.o ?_))
  rw[<-V.o];refine cm ai.o ?_;rintro h w6 ⟨rfl,bx,v',cj,az,S',hN,bf,cc,B⟩;have p:=aA B;clear ai B ak S V M O t P Q
  go_wp2_with fail
  have ap:¬R1=[]:=by have:=ba.o;simpa using this
  have au:iO b c R1=bE 2 (aQ c):=Z0 ap;have ab:=N.o.no hN;refine Zq8 (v:=.tuple #[.pointer (so g.heap.size),ii 0]) (by simp[results,results22,go_sem]) rfl ⟨.inl ⟨b,c,R1,g.heap.size,I,X,S',cj,az,_,_,_,⟨LOG,iO b c R1,(iO b c R1).length⟩,w.o,rfl,p.o.rs,UJ ab bf,(N.o.fold hN _ v').resolve_right bf,fun bz q=>?_,by rw[au];simp,rfl,.inr ⟨bx,cc,rfl⟩,ac,bl,fun j i=>?_⟩,af.trans p.o.fr (fun j i=>?_)⟩
  ·obtain n|n:=m5.1 q
   ·exact Nat.le_of_eq (DJ (nW.1 n).1)
   simp at n;subst n;exact Q9 _
  ·obtain y|y:=p.o.old j i
   ·exact R.o j y
   omega
  obtain rfl|i:=Qq0.1 i
  ·exact .inr ac
  exact .inr (R.o j i)
 go_wp2_with (first|(refine wpList_store_row rfl 90 _ _ rfl f.heap.size gs.toArray rfl rfl 90 zeroCells90 (aC f _) t.o P.o Q.o ?_;rw[<-S.o])|(refine wpList_load_row rfl 90 _ rfl f.heap.size rfl 90 gs.toArray (0,0) _ O.o X9 rfl t.o ?_)|(refine PF rfl 97 0 1 (.tmp 24) (.tmp 25) rfl (.agg gs.toArray) (.agg #[.map e,.slice none 0 0]) rfl rfl (gs++[Value.map e,Value.slice none 0 0]).toArray M.o ?_))
 rw[<-V.o];refine cm ak.o ?_;rintro h w6 ⟨rfl,az,S',B⟩;have p:=aA B;clear ai B ak S V M O t P Q
 go_wp2_with fail
 have ap:R1=[]:=by have:=ba.o;simpa using this.symm
 have au:iO b c R1=b:=Q7 ap;refine Zq8 (v:=.tuple #[.pointer (so g.heap.size),ii 0]) (by simp[results,results22,go_sem]) rfl ⟨.inl ⟨b,c,R1,g.heap.size,I,X,S',_,az,_,_,_,⟨LOG,iO b c R1,(iO b c R1).length⟩,w.o,rfl,p.o.rs,UO w.o.1 w.o.2.1,N.o,fun bz q=>Nat.le_of_eq (DJ q),by rw[au];exact IC w.o.2.1,rfl,.inl rfl,ac,bl,fun j i=>?_⟩,af.trans p.o.fr (fun j i=>?_)⟩
 ·obtain y|y:=p.o.old j i
  ·exact R.o j y
  omega
 obtain rfl|i:=Qq0.1 i
 ·exact .inr ac
 exact .inr (R.o j i)
structure FsP (g:Gf) (w:World) (e:Ending) (w':World):Prop where
 ex:∃(v:Value) (ks:List Nm),e=.returned v/\w'.ownsRow w.heap.size 115 2 v ks.length (kM g ks)/\ks.Nodup/\ks.Pairwise (λa b=>a<=b)/\∀k,k∈ks↔(g k).isSome=true
 fr:Fr [] w w'
theorem DG.has(b:DG J A)(a:Nm):(A a).isSome=true↔a∈cT J:=by grind[Option.isSome_iff_exists,DG.back,DG.there]
theorem LU(d:World)(f:RS d a b c S t v u A O){ns:List Nm}(r:∀g,(A g).isSome=true->g∈ns/\g.length<=1000000000)(q:ns.length<=1000000000){k0:Nm}(p:(A k0).isSome=true):Cs 67 #[pt a] d λe x=>FsP A d e x:=by
 have i:=Iq a (gl t b c) 97 v u S A O d f.bl f.sve r q p;rw[eI]at i;clear f
 delta Cs;go_in
 go_wp2_with (go_at_call 36;refine(lX a _).mono ?_;rintro e j ⟨rfl,rfl⟩)
 refine cm i ?_;rintro e j ⟨w,y,rfl,s,l,m,n,_,h⟩;have k:Hi (FsP A d (.returned w) j):=⟨qg,h⟩;clear s l m n h;go_wp2;go_ret;exact k.o
