import Derived.Test.YtapabahhfanmmaaGreatDoorCRefM
import Derived.Test.YtapabahhfanmmaaGreatDoorCRefK
namespace Go.Proofs.YtapabahhfanmmaaGreatDoor
open Go.RowKit List Go.Proofs.Tryz
set_option maxHeartbeats 1000000
set_option maxRecDepth 100000
variable {a b c:Nat} {u v:Value} {w x:World}
def cL(a:Nat):Nat:=(a/13)*12+min (a%13) 12
theorem SV(a:Nat)(b:a%13=12):cL (a+1)=cL a:=by grind[cL]
theorem CQ(a:Nat)(b:a%13<12):cL a=a/13*12+a%13/\cL (a+1)=cL a+1:=by grind[cL]
theorem vD(c:ByteArray)(b:Int){m:Nat}:∀a,m<=a->aN c b m<=aN c b a
 |0,d=>by grind
 |a+1,d=>by
  by_cases e:m=a+1
  ·grind
  have f:=vD c b (m:=m) a qo;grind[aN]
theorem jH(c:ByteArray)(b:Int)(a:Nat)(d:ow c a=b):aN c b (a+1)=aN c b a+1:=by rw[aN,Q7 d]
theorem gJ(c:ByteArray)(b:Int)(a:Nat)(d:¬ow c a=b):aN c b (a+1)=aN c b a:=by rw[aN,Z0 d]
theorem LB(c:ByteArray)(b:Int)(a:Nat)(d:ow c a=b):pos c b (a+1)=a:=by rw[pos,Q7 d]
theorem LC(c:ByteArray)(b:Int)(a:Nat)(d:¬ow c a=b):pos c b (a+1)=pos c b a:=by rw[pos,Z0 d]
theorem JK(b:ByteArray)(a:Nat)(i:a<144)(e:(ow b a=0/\aN b 0 a=1)\/(ow b a=1/\aN b 1 a=1)):¬eV b:=by
 intro d;obtain⟨c,f⟩|⟨c,f⟩:=e
 ·have g:=jH b 0 a c;have h:=vD b 0 (m:=a+1) 144 qo;have:=d.2.2.2.1;omega
 have g:=jH b 1 a c;have h:=vD b 1 (m:=a+1) 144 qo;have:=d.2.2.2.2;omega
def fZ(c:ByteArray)(b:Nat):Nat->Int:=λa=>if a<b then gr c a else 0
def bA(b:ByteArray)(a:Nat):U:=bD 1 0 1 ((pos b 0 a%12:Nat):Int) ((pos b 0 a/12:Nat):Int) 40
def bB(b:ByteArray)(a:Nat):U:=bD 2 1 1 ((pos b 1 a%12:Nat):Int) ((pos b 1 a/12:Nat):Int) 40
def eZ(b:ByteArray)(a:Nat):List U:=(if aN b 0 a=1 then[bA b a]else[])++(if aN b 1 a=1 then[bB b a]else[])
theorem rM(b:ByteArray)(a:Nat)(c:gr b a=0):fZ b (a+1)=fZ b a:=by grind[fZ]
theorem AP(b:ByteArray)(a:Nat)(c:¬ow b a=0):bA b (a+1)=bA b a:=by grind[bA,LC]
theorem AQ(b:ByteArray)(a:Nat)(c:¬ow b a=1):bB b (a+1)=bB b a:=by grind[bB,LC]
theorem QP(b:ByteArray)(a:Nat)(c:ow b a=0):bA b (a+1)=bD 1 0 1 ((a%12:Nat):Int) ((a/12:Nat):Int) 40:=by grind[bA,LB]
theorem QQ(b:ByteArray)(a:Nat)(c:ow b a=1):bB b (a+1)=bD 2 1 1 ((a%12:Nat):Int) ((a/12:Nat):Int) 40:=by grind[bB,LB]
theorem ZD(b:ByteArray)(a:Nat)(c:¬ow b a=0)(d:¬ow b a=1):eZ b (a+1)=eZ b a:=by grind[eZ,gJ,AP,AQ]
theorem II(b:ByteArray)(a:Nat)(c:ow b a=0)(d:aN b 0 a=0):eZ b (a+1)=bD 1 0 1 ((a%12:Nat):Int) ((a/12:Nat):Int) 40::eZ b a:=by grind[ow,eZ,jH,gJ,QP,AQ]
theorem ZA(b:ByteArray)(a:Nat)(c:ow b a=1)(d:aN b 1 a=0):eZ b (a+1)=eZ b a++[bD 2 1 1 ((a%12:Nat):Int) ((a/12:Nat):Int) 40]:=by simp_all[ow,eZ,jH,gJ,AP,QQ]
theorem ZB(b:ByteArray)(a:Nat)(c:aN b 0 a=0):eZ b a=[]\/eZ b a=[bB b a]:=by grind[eZ]
theorem ZC(a:ByteArray)(b:aN a 0 144=1)(c:aN a 1 144=1):eZ a 144=(cB a).us:=by unfold eZ;rw[b,c];rfl
theorem ZE(b:ByteArray)(a:Nat):(eZ b a).length<=2:=by grind[eZ]
theorem Hj(a:Nat)(e:a<=255):(a=46/\fE a=(0,-1,true))\/(a=35/\fE a=(10,-1,true))\/(49<=a/\a<=57/\fE a=((a:Int)-48,-1,true))\/(a=65/\fE a=(0,0,true))\/(a=66/\fE a=(0,1,true))\/(a≠46/\a≠35/\(a<49\/57<a)/\a≠65/\a≠66/\fE a=(0,-1,false)):=by
 unfold fE
 by_cases b:a=46
 ·grind
 rw[Z0 qo]
 by_cases c:a=35
 ·grind
 rw[Z0 qo]
 by_cases d:49<=a/\a<=57
 ·grind
 rw[Z0 qo];grind
structure RN (w:World) (gb:Nat) (f:Nat->Int) (pv:Value):Prop where
 cell:∀k,k<149->w.cell? ⟨gb,k,none⟩=some (cW {turn:=0,next:=3,s0:=10,s1:=10,bd:=f,us:=[],held:=λ_=>none} pv k)
 fz:∀k,w.frozen? ⟨gb,k,none⟩=false
theorem RN.lt{b:Nat->Int}(c:RN w a b v):a<w.heap.size:=aI (c.cell 0 qo)
theorem RN.fr{S:List Nat}{d:Nat->Int}(c:RN w a d v)(e:Fr S w x)(f:a∉S):RN x a d v:=
  ⟨λb g=>by rw[e.cell a b c.lt f];exact c.cell b g,λb=>by rw[e.frozen a b c.lt f];exact c.fz b⟩
theorem RN.setB{d:ByteArray}(e:RN w a (fZ d b) v)(h:b<144):RN (w.setCell ⟨a,1+b,none⟩ (ii (gr d b))) a (fZ d (b+1)) v:=by
 refine⟨λc f=>?_,λc=>by grind[sE,RN.fz]⟩
 by_cases g:c=1+b
 ·subst g;rw[eA _ _ _ _ _ (e.cell _ f)];grind[cW,fZ]
 rw[cE _ _ _ _ _ _ qo,e.cell c f];grind[cW,fZ]
theorem RN.setL{c:Nat->Int}(d:RN w a c u)(v:Value):RN (w.setCell ⟨a,148,none⟩ v) a c v:=by
 refine⟨λb e=>?_,λb=>by grind[sE,RN.fz]⟩
 by_cases f:b=148
 ·subst f;rw[eA _ _ _ _ _ (d.cell _ e)];rfl
 rw[cE _ _ _ _ _ _ qo,d.cell b e];grind[cW]
theorem RN.rg{d:ByteArray}(e:RN w a (fZ d 144) (.slice (so b) 2 c))(h:PRow w b c (cB d).us)(g:a≠b):RG w a b c (cB d):=by refine⟨λi f=>?_,e.fz,h,by show 2<=1000;omega,g⟩;rw[e.cell i f];unfold cW;dsimp only[cB];grind[fZ]
structure RNI (tx:ByteArray) (W:World) (gb sb:Nat) (i:Nat) (b:Value) (wr:World):Prop where
 ex:∃pv,RN wr gb (fZ tx (cL i)) pv/\wr.ownsRow W.heap.size 85 11 pv (eZ tx (cL i)).length ((eZ tx (cL i)).flatMap U.cells)
 seen:wr.heap[sb]?=some (.cells #[.bool (decide (aN tx 0 (cL i)=1)),.bool (decide (aN tx 1 (cL i)=1))] 184)
 c0:aN tx 0 (cL i)<=1
 c1:aN tx 1 (cL i)<=1
 sk:∀j,j<cL i->kn tx j=true
 nl:∀k,k*13+12<i->jA tx k=10
 bs:b=ii (aN tx 0 (cL i)+aN tx 1 (cL i))
 fr:Fr [gb,sb] W wr
theorem RNI.next{e:ByteArray}{wr:World}(i:RNI e w a b c v wr)(r:c%13<12)(d:Nat)(q:cL c=d)(p:kn e d=true)(n:aN e 0 (d+1)<=1)(o:aN e 1 (d+1)<=1)(m:∃g,RN x a (fZ e (d+1)) g/\x.ownsRow w.heap.size 85 11 g (eZ e (d+1)).length ((eZ e (d+1)).flatMap U.cells))(s:x.heap[b]?=some (.cells #[.bool (decide (aN e 0 (d+1)=1)),.bool (decide (aN e 1 (d+1)=1))] 184))(k:u=ii (aN e 0 (d+1)+aN e 1 (d+1)))(h:Fr [a,b] w x):RNI e w a b (c+1) u x:=by
 have l:cL (c+1)=d+1:=by grind[CQ]
 refine⟨qg,qg,qg,qg,λf j=>?_,λf j=>i.nl f qo,qg,h⟩;grind[RNI.sk]
theorem RNI.ground{d:ByteArray}{wr:World}(g:RNI d w a (a+1) b v wr)(y:a+1<w.heap.size)(p:b%13<12)(c:Nat)(i:cL b=c)(n:kn d c=true)(k:¬ow d c=0)(l:¬ow d c=1)(o:∀e,RN wr a (fZ d c) e->RN x a (fZ d (c+1)) e)(h:Fr [a] wr x):RNI d w a (a+1) (b+1) v x:=by
 obtain⟨⟨e,j,f⟩,q,r,s,z,A,t,u⟩:=id g;rw[i]at j f q r s t;refine g.next p c i n (by grind[gJ]) (by grind[gJ]) ⟨e,o e j,?_⟩ ?_ (by grind[gJ]) (u.trans h qs)
 ·rw[ZD d c k l];exact aF f h (λv m=>by have:=(f.lt v m).1;grind)
 grind[gJ,Fr.heap]
structure RNPost (OK:Prop) (tx:ByteArray) (w:World) (e:Ending) (w':World):Prop where
 h:(OK/\∃gb pb cap,e=.returned (.tuple #[pt gb,ii 0])/\RG w' gb pb cap (cB tx)/\w.heap.size<=gb/\w.heap.size<=pb)\/(¬OK/\e=.returned (.tuple #[.pointer none,ii 1]))
 fr:Fr [] w w'
def tM:Array Value:=(ii 0::((range 144).map (λ_=>ii 0)++[ii 10,ii 10,ii 3,Value.slice none 0 0])).toArray
theorem SF:prog.built 131 [(3,ii 3),(2,.agg #[ii 10,ii 10])]=some tM:=qk
theorem Fo(b:Nat)(e:b<149):tM[b]?=some (cW {turn:=0,next:=3,s0:=10,s1:=10,bd:=λ_=>0,us:=[],held:=λ_=>none} (.slice none 0 0) b):=by
 unfold tM cW;rw[J6]
 by_cases c:b=0
 ·grind
 obtain⟨a,rfl⟩:∃a,b=a+1:=⟨b-1,by omega⟩;rw[Z0 c,Zz5]
 by_cases d:a<144
 ·rw[Q7 qo,J7 qg,V4,Zk4 d];rfl
 rw[Z0 qo,J8 qg];have:a=144\/a=145\/a=146\/a=147:=qo;obtain rfl|rfl|rfl|rfl:=this<;>simp
theorem Ko{j:Array Oper}{k:List Oper}{c:Oper}{a:Act}{i:Exit->Act->World->Prop}(p:c.guard=none)(d:TypeId)(e f:Nat)(g h:Operand)(q:c.op=.build d #[(e,g),(f,h)])(l m:Value)(t:a.eval g=l)(u:a.eval h=m)(b:Array Value)(v:prog.built d [(e,l),(f,m)]=some b)(n:wpList prog j i k (a.put c.dst (.agg b)) w):wpList prog j i (c::k) a w:=
 wpList_plain p λ_ hK=>by
  have o:prog.built d ((#[(e,g),(f,h)]:Array (Nat×Operand)).map λ(r,s)=>(r,a.eval s)).toList=some b:=by grind
  unfold Oper.wp execOp;simp only[q,Sem.run_bind,run_build w d _ b o,Result.andThen_ok];exact hK _ _ n
theorem Fu(a:ByteArray)(P:World):Cs 51 #[.string a] P λq w'=>RNPost (eV a) a P q w':=by
 obtain⟨A,bt⟩:∃er:Prop,er=eV a:=⟨_,rfl⟩;rw[<-bt];have ag:=aA bt;clear bt
 by_cases cd:a.size=156
 ·obtain⟨G0,br⟩:=nm tM;have bu:=SF;rw[<-br]at bu;have de:=aA bu;have df:=aA br;have ee:(a.size:Int)=156:=qo;clear br bu
  delta Cs;go_in
  go_wp2_with (refine Ko rfl 131 3 2 (.const (ii 3)) (.tmp 16) rfl (ii 3) (.agg #[ii 10,ii 10]) rfl rfl G0 de.o ?_)
  obtain⟨l,hW⟩:=nm ((P.alloc (.cells G0 131)).alloc (.cells #[.bool false,.bool false] 184));rw[<-hW];have ah:Fr [] P l:=by rw[hW];exact((r0 _ _).alloc _).alloc _
  have dn:l.heap.size=P.heap.size+2:=by rw[hW];simp
  have bw:l.heap[P.heap.size]?=some (.cells G0 131):=by rw[hW];exact dW _ _ _
  have da:l.heap[P.heap.size+1]?=some (.cells #[.bool false,.bool false] 184):=by rw[hW];exact cZ _ _ _
  have ck:Hi (RNI a l P.heap.size (P.heap.size+1) 0 (ii 0) l):=by refine⟨⟨.slice none 0 0,⟨λd hk=>?_,λd=>aV bw⟩,⟨rfl,.inl ⟨rfl,rfl⟩⟩⟩,da,by simp[aN,cL],by simp[aN,cL],λx hj=>absurd hj (by simp[cL]),λd hk=>by omega,rfl,r0 _ _⟩;rw[aB bw,df.o,Fo d hk];congr 2
  clear hW bw da;obtain⟨e,cu⟩:=nm P.heap.size;rw[<-cu]at ck dn |-;have du:P.heap.size<=e:=qo;clear cu;have dk:Hi (∀d f h (s:d<156),f=d/13->h=d%13->h<12->(a[d]'qo).toNat=eP a (f*12+h)):=λd f h s hy hx em=>by have:=NM a f h em qo;rw[<-this];congr 2;omega
  have dh:Hi (∀d f (s:d<156),f=d/13->d%13=12->(a[d]'qo).toNat=jA a f):=λd f s hy hx=>by have:=JI a f qo;rw[<-this];congr 2;omega
  go_loopw [5,7] (fun m ch wr=>∃d:Nat,d<=156/\ch=ii d/\RNI a l e (e+1) d m wr) (fun _ ch _=>156-(intOf ch).toNat)
  ·exact⟨0,Z3 _,rfl,ck.o⟩
  obtain⟨d,hk,rfl,hI⟩:=hrel;obtain rfl:=hI.bs
  by_cases Y:d<156
  ·have dw:(d:Int)<156:=qo;have HI:=aA hI;clear hI;obtain⟨f,hy⟩:=nm (d/13);obtain⟨h,hx⟩:=nm (d%13);have fe:(d:Int).tdiv 13=(f:Int):=by rw[hy,Int.tdiv_eq_ediv_of_nonneg qo];omega
   have fc:(d:Int).tmod 13=(h:Int):=by rw[hx,Qx0 qo];omega
   have eo:f<12:=qo;have HY:=aA hy;have HX:=aA hx
   by_cases db:h=12
   ·have dy:=dh.o d f Y hy qo;have dx:=JJ a f;subst db;clear hy hx
    by_cases ba:jA a f=10
    ·rw[ba]at dy;have di:=aA ba;clear ba dx;go_wp2;go_roundw
     ·refine⟨d+1,Y,by go_num,?_⟩;have q:=SV d HX.o.symm;obtain⟨q1,q2,q3,q4,q5,q6,q7,q8⟩:=HI.o;refine⟨by rw[q];exact q1,by rw[q];exact q2,by rw[q];exact q3,by rw[q];exact q4,by rw[q];exact q5,fun x hj=>?_,by rw[q],q8⟩
      by_cases ej:x*13+12<d
      ·exact q6 x ej
      have h1:=HY.o;have h2:=HX.o;have:x=f:=qo;rw[this];exact di.o
     simp[intOf];omega
    have o:Hi (¬A):=by
     show ¬A
     rw[ag.o];intro s;exact ba (s.2.1 f eo)
    have bb:¬((jA a f:Nat):Int)=10:=qo;clear ba;have ab:=HI.o.fr;go_wp2;go_ret2;exact⟨.inr ⟨o.o,rfl⟩,ah.trans ab qt⟩
   have en:h<12:=qo;have fd:¬(h:Int)=12:=qo;have bi:=dk.o d f h Y hy hx en;have an:=NO a (f*12+h);clear hy hx db;have am:d%13<12:=by have:=HX.o;omega
   obtain⟨b,hn⟩:=nn (cL d);have bb:f*12+h=b:=by have h1:=(CQ d am).1;have h2:=HY.o;have h3:=HX.o;omega
   have az:b<144:=qo;have cq:(b%12:Nat)=h/\(b/12:Nat)=f:=qo;have ao:=aA cq;rw[bb]at bi an;have L:=aA hn;have cn:=aA bb;obtain⟨r,X,hown⟩:=HI.o.ex;rw[hn]at X hown;have dp:=X.cell (1+b) qo;have dq:=X.fz (1+b);rw[<-bb,show 1+(f*12+h)=1+f*12+h by omega]at dp dq;have aq:=aA X;have bo:=aA hown;clear cq hn bb X hown;obtain⟨N,k⟩|⟨N,k⟩|⟨cy,cz,k⟩|⟨N,k⟩|⟨N,k⟩|⟨cy,cz,bg,eb,ec,k⟩:=Hj (eP a b) an
   ·have R:Hi (kn a b=true):=by show kn a b=true;unfold kn;rw[k]
    have j:Hi (ow a b = -1):=by show ow a b = -1;unfold ow;rw[k]
    have Q:Hi (gr a b=0):=by show gr a b=0;unfold gr;rw[k]
    rw[N]at bi;clear N k an;go_wp2;go_roundw
    ·exact⟨d+1,Y,by go_num,HI.o.ground qo am b L.o R.o (by rw[j.o];decide) (by rw[j.o];decide) (fun r s=>by rw[rM a b Q.o];exact s) (r0 _ _)⟩
    simp[intOf];omega
   ·have R:Hi (kn a b=true):=by show kn a b=true;unfold kn;rw[k]
    have j:Hi (ow a b = -1):=by show ow a b = -1;unfold ow;rw[k]
    have Q:Hi (gr a b=10):=by show gr a b=10;unfold gr;rw[k]
    rw[N]at bi;clear N k an;go_wp2;go_roundw
    ·refine⟨d+1,Y,by go_num,HI.o.ground qo am b L.o R.o (by rw[j.o];decide) (by rw[j.o];decide) (fun r s=>?_) ((r0 _ _).setCell _ _ qs)⟩;have:=s.setB az;rw[Q.o,show 1+b=1+f*12+h by have:=cn.o;omega]at this;exact this
    simp[intOf];omega
   ·have R:Hi (kn a b=true):=by show kn a b=true;unfold kn;rw[k]
    have j:Hi (ow a b = -1):=by show ow a b = -1;unfold ow;rw[k]
    have Q:Hi (gr a b=(eP a b:Int)-48):=by show gr a b=_;unfold gr;rw[k]
    have eg:¬(eP a b:Int)=46:=qo;have eh:¬(eP a b:Int)=35:=qo;have ei:(49:Int)<=(eP a b:Int):=qo;have ek:(eP a b:Int)<=57:=qo;clear k an;go_wp2;go_roundw
    ·refine⟨d+1,Y,by go_num,HI.o.ground qo am b L.o R.o (by rw[j.o];decide) (by rw[j.o];decide) (fun r s=>?_) ((r0 _ _).setCell _ _ qs)⟩;have:=s.setB az;rw[Q.o,show 1+b=1+f*12+h by have:=cn.o;omega]at this;exact this
    simp[intOf];omega
   ·have R:Hi (kn a b=true):=by show kn a b=true;unfold kn;rw[k]
    have j:Hi (ow a b=0):=by show ow a b=0;unfold ow;rw[k]
    have Q:Hi (gr a b=0):=by show gr a b=0;unfold gr;rw[k]
    have z:=HI.o.seen;have ac:=HI.o.c0;have ad:=HI.o.c1;rw[L.o]at z ac ad;have ay:=(kI a 0 b).1;rw[N]at bi;have bk:=aA z;clear N k an
    by_cases C:aN a 0 b=1
    ·have cc:wr.cell? ⟨e+1,0,none⟩=some (.bool true):=by rw[aB z];simp[C]
     have o:Hi (¬A):=by
      show ¬A
      rw[ag.o];exact JK a b az (.inl ⟨j.o,C⟩)
     have ab:=HI.o.fr;clear z C ac ad ay;go_wp2;go_ret2;exact⟨.inr ⟨o.o,rfl⟩,ah.trans ab qt⟩
    have cc:wr.cell? ⟨e+1,0,none⟩=some (.bool false):=by rw[aB z];simp[C]
    have ed:wr.frozen? ⟨e+1,0,none⟩=false:=aV z;have J:Hi (aN a 0 b=0):=by show aN a 0 b=0;omega
    have bj:=aA ad;have dr:0<=aN a 0 (cL d)+aN a 1 (cL d)/\aN a 0 (cL d)+aN a 1 (cL d)<=2:=by have h0:=(kI a 0 (cL d)).1;have h1:=(kI a 1 (cL d)).1;have h2:=HI.o.c0;have h3:=HI.o.c1;omega
    clear z C ac ad ay;obtain V|V:=ZB a b J.o
    ·obtain⟨t,W⟩:∃t:List U,t=[]:=⟨_,rfl⟩;have au:=aA V;have dg:=aA W;have ap:Hi (wr.ownsRow l.heap.size 85 11 r t.length (t.flatMap U.cells)):=by
      show World.ownsRow _ _ _ _ _ _ _
      rw[W,<-V];exact bo.o
     have dv:t.length<=2:=by rw[W];simp
     have dc:t.length=0:=by rw[W];rfl
     obtain⟨es,et,cb⟩:=gL ap.o;rw[dc]at cb;have bd:wr.cell? ⟨e,148,none⟩=some (.slice es 0 et):=by rw[<-cb];exact aq.o.cell 148 qo
     have dt:=aI bd;clear W V dc cb
     go_wp2_with (go_at_call 93;refine(pE _ _).mono ?_;rintro q w1 ⟨rfl,rfl⟩;rw[show dE 1=40 from rfl])
     obtain⟨W1,u⟩:=nm (wr.setCell ⟨e+1,0,none⟩ (.bool true));obtain⟨c,v⟩:=nm (W1.alloc (.cells #[ii 1,ii 0,ii 1,ii h,ii f,ii 40,ii 0,ii 0,ii 0,ii 0,ii 0] 85));rw[<-u,<-v];clear bd;have E:Fr [e+1] wr c:=by rw[v,u];exact((r0 _ _).setCell _ _ qs).alloc _
     have i:c.heap[wr.heap.size]?=some (.cells (bD 1 0 1 h f 40).arr 85):=by rw[v];exact lT _ _ _ (by rw[u];simp)
     have w:=aq.o.fr E qs;have aa:=aF ap.o E (λm n=>by have:=(ap.o.lt m n).1;simp;omega);have ae:c.heap[e+1]?=some (.cells #[.bool true,.bool (decide (aN a 1 b=1))] 184):=by rw[v];refine((r0 [] _).alloc _).qH ?_;rw[u];exact cJ bk.o 0 _
     have M:=HI.o.fr.trans E qs;clear u v;have e0:ca c wr.heap.size 0 (ii 1):=aB i;have e1:ca c wr.heap.size 1 (ii 0):=aB i;have e2:ca c wr.heap.size 2 (ii 1):=aB i;have e3:ca c wr.heap.size 3 (ii h):=aB i;have e4:ca c wr.heap.size 4 (ii f):=aB i;have e5:ca c wr.heap.size 5 (ii 40):=aB i;have e6:ca c wr.heap.size 6 (ii 0):=aB i;have e7:ca c wr.heap.size 7 (ii 0):=aB i;have e8:ca c wr.heap.size 8 (ii 0):=aB i;have e9:ca c wr.heap.size 9 (ii 0):=aB i;have cp:ca c wr.heap.size 10 (ii 0):=aB i;have bm:ca c e 148 r:=w.cell 148 qo;have bn:=w.fz 148;have ar:=w.lt;obtain⟨cj,Zs,ce,cf,cg⟩:=Z2 jU;have ai:Fr [] c (c.drew.alloc (.cells (bD 1 0 1 h f 40).arr 85)):=((r0 _ _).drew).alloc _;have HO:=aA (aF aa ai qs);have HS:Hi (∀(x:Nat) (O:Value),(bD 1 0 1 h f 40).cells[x]?=some O->(c.drew.alloc (.cells (bD 1 0 1 h f 40).arr 85)).cell? ((⟨c.heap.size,0,none⟩:Addr).add x)=some O):=by intro x O hu;rw[i7,Z9,aB (show(c.drew.alloc (.cells (bD 1 0 1 h f 40).arr 85)).heap[c.heap.size]?=_ from aC c.drew _)];simpa using hu
     have o:Hi (e∉r.ownBlock.toList):=λq=>by have:=(aa.lt e (qu q)).1;omega
     have av:=aA w;have af:=aA ai;have bp:Hi (∀m∈r.ownBlock.toList,l.heap.size<=m):=λm n=>(aa.lt m (qu n)).1;have aw:=aA ae;have Zr:=aA M;have cr:=M.size;clear i w aa ae M ai;have Zq:Hi (∀p,(∃y,RN p e (fZ a b) y/\p.ownsRow l.heap.size 85 11 y (t.length+1) (t.flatMap U.cells++(bD 1 0 1 h f 40).cells)/\p.heap[e+1]?=some (.cells #[.bool true,.bool (decide (aN a 1 b=1))] 184)/\Fr [e,e+1] l p)->RNI a l e (e+1) (d+1) (ii (aN a 0 (cL d)+aN a 1 (cL d)+1)) p):=by
      rintro p ⟨y,bf,D,bh,ax⟩;refine HI.o.next am b L.o R.o ?_ ?_ ⟨y,by rw[rM a b Q.o];exact bf,?_⟩ ?_ ?_ ax
      ·rw[jH a 0 b j.o,J.o];decide
      ·rw[gJ a 1 b (by rw[j.o];decide)];exact bj.o
      ·rw[II a b j.o J.o,au.o,ao.o.1,ao.o.2];have:=D;rw[dg.o]at this;exact this
      ·rw[jH a 0 b j.o,J.o,gJ a 1 b (by rw[j.o];decide)];exact bh
      rw[jH a 0 b j.o,gJ a 1 b (by rw[j.o];decide)];congr 1;have:=L.o;rw[this];omega
     go_region_law (refine pJ rfl (.tmp 116) (.tmp 118) 82 rfl l.heap.size 85 cj zeroU.val 11 88 Qq8 Zs ce cf cg rfl qd r t.length (t.flatMap U.cells) (by simp[Act.eval]) HO.o ⟨c.heap.size,0,none⟩ 1 1 (bD 1 0 1 h f 40).cells (by simp[Act.eval]) rfl HS.o qc qm qo qt ?_;intro y w2 D bx Zt;obtain⟨g',dm,rfl⟩:=bK D qo;have ak:=Fr.grow (S:=r.ownBlock.toList) (r0 _ _) bx (fun g hg=>.inl (by simp[hg]));have ef:=(ak.cell e 148 qt o.o).trans ((af.o.cell e 148 ar qs).trans bm);have eq:=(ak.frozen e 148 qt o.o).trans ((af.o.frozen e 148 ar qs).trans bn))
     all_goals
      go_wp2;go_roundw
      ·refine⟨d+1,Y,by go_num,Zq.o _ ?_⟩;have aj:=af.o.qO.trans ak (fun m n=>.inl n);have be:=bp.o;have ds:l.heap.size<=g':=by have:=(D.lt g' rfl).1;omega
       refine⟨_,(av.o.fr aj o.o).setL _,aF D ((r0 [e] w2).setCell _ _ qs) (λm n=>?_),?_,?_⟩
       ·simp[Value.ownBlock]at n;subst n;simp;omega
       ·rw[Zz7 _ _ _ _ qs];exact aj.heap aw.o (λq=>by have:=be _ q;omega)
       exact(Zr.o.trans aj (λm n=>.inr (be m n))).setCell _ _ qs
      simp[intOf];omega
    have bc:wr.ownsRow l.heap.size 85 11 r 1 (bB a b).cells:=by have:=(show wr.ownsRow l.heap.size 85 11 r (eZ a b).length ((eZ a b).flatMap U.cells)from bo.o);rw[V]at this;exact this
    obtain⟨I,pc,rfl⟩:=bK bc qo;have au:=aA V;obtain⟨B,hq⟩:=nm (bB a b);rw[<-hq]at bc;have cs:=bc.cells (g:=I) rfl;have F:=λx O hu=>by have:=cs x O hu;rwa[i7,Z9]at this
    have dz:=(bc.lt I rfl);have c0:=F 0 _ rfl;have c1:=F 1 _ rfl;have c2:=F 2 _ rfl;have c3:=F 3 _ rfl;have c4:=F 4 _ rfl;have c5:=F 5 _ rfl;have c6:=F 6 _ rfl;have c7:=F 7 _ rfl;have c8:=F 8 _ rfl;have c9:=F 9 _ rfl;have co:=F 10 _ rfl;have bd:ca wr e 148 (.slice (so I) 1 pc):=aq.o.cell 148 qo;have ep:=aq.o.fz 148;have dt:=aI bd;have ey:I≠e:=qo;have ez:I≠e+1:=qo;have HQ:=aA hq;clear V hq bc cs F
    go_wp2_with (go_at_call 93;refine(pE _ _).mono ?_;rintro q w1 ⟨rfl,rfl⟩;rw[show dE 1=40 from rfl])
    obtain⟨W1,u⟩:=nm (wr.setCell ⟨e+1,0,none⟩ (.bool true));obtain⟨c,v⟩:=nm (W1.alloc (.cells #[ii 1,ii 0,ii 1,ii h,ii f,ii 40,ii 0,ii 0,ii 0,ii 0,ii 0] 85));rw[<-u,<-v];have E:Fr [e+1] wr c:=by rw[v,u];exact((r0 _ _).setCell _ _ qs).alloc _
    have i:c.heap[wr.heap.size]?=some (.cells (bD 1 0 1 h f 40).arr 85):=by rw[v];exact lT _ _ _ (by rw[u];simp)
    have w:=aq.o.fr E qs;have ae:c.heap[e+1]?=some (.cells #[.bool true,.bool (decide (aN a 1 b=1))] 184):=by rw[v];refine((r0 [] _).alloc _).qH ?_;rw[u];exact cJ bk.o 0 _
    have M:=HI.o.fr.trans E qs;have H:=λx O (hu:wr.cell? ⟨I,x,none⟩=some O)=>(E.cell I x dz.2 qt).trans hu;clear u v;have e0:ca c wr.heap.size 0 (ii 1):=aB i;have e1:ca c wr.heap.size 1 (ii 0):=aB i;have e2:ca c wr.heap.size 2 (ii 1):=aB i;have e3:ca c wr.heap.size 3 (ii h):=aB i;have e4:ca c wr.heap.size 4 (ii f):=aB i;have e5:ca c wr.heap.size 5 (ii 40):=aB i;have e6:ca c wr.heap.size 6 (ii 0):=aB i;have e7:ca c wr.heap.size 7 (ii 0):=aB i;have e8:ca c wr.heap.size 8 (ii 0):=aB i;have e9:ca c wr.heap.size 9 (ii 0):=aB i;have cp:ca c wr.heap.size 10 (ii 0):=aB i;have d0:=H _ _ c0;have d1:=H _ _ c1;have d2:=H _ _ c2;have d3:=H _ _ c3;have d4:=H _ _ c4;have d5:=H _ _ c5;have d6:=H _ _ c6;have d7:=H _ _ c7;have d8:=H _ _ c8;have d9:=H _ _ c9;have eu:=H _ _ co;have bm:ca c e 148 (.slice (so I) 1 pc):=w.cell 148 qo;have bn:=w.fz 148;have ar:=w.lt;have av:=aA w;have aw:=aA ae;have Zr:=aA M;have cr:=M.size;clear i w ae M H c0 c1 c2 c3 c4 c5 c6 c7 c8 c9 co bd ep E;have Zq:Hi (∀p,(∃y,RN p e (fZ a b) y/\p.ownsRow l.heap.size 85 11 y 2 ((bD 1 0 1 h f 40).cells++B.cells)/\p.heap[e+1]?=some (.cells #[.bool true,.bool (decide (aN a 1 b=1))] 184)/\Fr [e,e+1] l p)->RNI a l e (e+1) (d+1) (ii (aN a 0 (cL d)+aN a 1 (cL d)+1)) p):=by
     rintro p ⟨y,bf,D,bh,ax⟩;refine HI.o.next am b L.o R.o ?_ ?_ ⟨y,by rw[rM a b Q.o];exact bf,?_⟩ ?_ ?_ ax
     ·rw[jH a 0 b j.o,J.o];decide
     ·rw[gJ a 1 b (by rw[j.o];decide)];exact bj.o
     ·rw[II a b j.o J.o,au.o,ao.o.1,ao.o.2,<-HQ.o];have:=D;simpa only[flatMap_cons,flatMap_nil,append_nil,length_cons,length_nil,Nat.zero_add]using this
     ·rw[jH a 0 b j.o,J.o,gJ a 1 b (by rw[j.o];decide)];exact bh
     rw[jH a 0 b j.o,gJ a 1 b (by rw[j.o];decide)];congr 1;have:=L.o;rw[this];omega
    go_region
    all_goals
     go_wp2;go_roundw
     ·refine⟨d+1,Y,by go_num,Zq.o _ ?_⟩;have ev:(Obj.cells #[ii 1,ii 0,ii 1,ii h,ii f,ii 40,ii 0,ii 0,ii 0,ii 0,ii 0,ii B.id,ii B.owner,ii B.kind,ii B.x,ii B.y,ii B.life,ii B.load,ii B.what,ii B.tox,ii B.toy,ii B.target] 85)=.cells ((bD 1 0 1 h f 40).cells++B.cells).toArray 85:=rfl;obtain⟨W3,bl⟩:=nm (c.setCell ⟨e,148,none⟩ (.slice (so c.heap.size) 2 2));have bg:W3.heap.size=c.heap.size:=by rw[bl];simp[World.setCell]
      rw[<-bl];have ea:RN W3 e (fZ a b) (.slice (so c.heap.size) 2 2):=by rw[bl];exact av.o.setL _
      have ct:Fr [e] c W3:=by rw[bl];exact(r0 _ _).setCell _ _ qs
      have bv:∀dd,Fr [] W3 (W3.alloc dd).drew:=λdd=>((r0 _ _).alloc _).drew;refine⟨_,ea.fr (bv _) qs,⟨rfl,.inr ⟨c.heap.size,2,((bD 1 0 1 h f 40).cells++B.cells).toArray,rfl,by omega,by rw[<-bg];exact aC W3 _,by omega,by unfold maxLen;omega,rfl,rfl⟩⟩,?_,?_⟩
      ·exact(bv _).qH (ct.heap aw.o qs)
      exact(Zr.o.trans ct qs).qT (bv _)
     simp[intOf];omega
   ·have R:Hi (kn a b=true):=by show kn a b=true;unfold kn;rw[k]
    have j:Hi (ow a b=1):=by show ow a b=1;unfold ow;rw[k]
    have Q:Hi (gr a b=0):=by show gr a b=0;unfold gr;rw[k]
    have z:=HI.o.seen;have ac:=HI.o.c0;have ad:=HI.o.c1;rw[L.o]at z ac ad;have ay:=(kI a 1 b).1;rw[N]at bi;have bk:=aA z;clear N k an
    by_cases C:aN a 1 b=1
    ·have cc:wr.cell? ⟨e+1,1,none⟩=some (.bool true):=by rw[aB z];simp[C]
     have o:Hi (¬A):=by
      show ¬A
      rw[ag.o];exact JK a b az (.inr ⟨j.o,C⟩)
     have ab:=HI.o.fr;clear z C ac ad ay;go_wp2;go_ret2;exact⟨.inr ⟨o.o,rfl⟩,ah.trans ab qt⟩
    have cc:wr.cell? ⟨e+1,1,none⟩=some (.bool false):=by rw[aB z];simp[C]
    have ed:wr.frozen? ⟨e+1,1,none⟩=false:=aV z;have J:Hi (aN a 1 b=0):=by show aN a 1 b=0;omega
    have bj:=aA ac;have dr:0<=aN a 0 (cL d)+aN a 1 (cL d)/\aN a 0 (cL d)+aN a 1 (cL d)<=2:=by have h0:=(kI a 0 (cL d)).1;have h1:=(kI a 1 (cL d)).1;have h2:=HI.o.c0;have h3:=HI.o.c1;omega
    clear z C ac ad ay;obtain⟨t,W⟩:=nm (eZ a b);have dv:t.length<=2:=by rw[W];exact ZE a b
    have au:=aA W;have ap:Hi (wr.ownsRow l.heap.size 85 11 r t.length (t.flatMap U.cells)):=by
     show World.ownsRow _ _ _ _ _ _ _
     rw[W];exact bo.o
    clear W
    go_wp2_with (go_at_call 93;refine(pE _ _).mono ?_;rintro q w1 ⟨rfl,rfl⟩;rw[show dE 1=40 from rfl])
    obtain⟨W1,u⟩:=nm (wr.setCell ⟨e+1,1,none⟩ (.bool true));obtain⟨c,v⟩:=nm (W1.alloc (.cells #[ii 2,ii 1,ii 1,ii h,ii f,ii 40,ii 0,ii 0,ii 0,ii 0,ii 0] 85));rw[<-u,<-v];have E:Fr [e+1] wr c:=by rw[v,u];exact((r0 _ _).setCell _ _ qs).alloc _
    have i:c.heap[wr.heap.size]?=some (.cells (bD 2 1 1 h f 40).arr 85):=by rw[v];exact lT _ _ _ (by rw[u];simp)
    have w:=aq.o.fr E qs;have aa:=aF ap.o E (λm n=>by have:=(ap.o.lt m n).1;simp;omega);have ae:c.heap[e+1]?=some (.cells #[.bool (decide (aN a 0 b=1)),.bool true] 184):=by rw[v];refine((r0 [] _).alloc _).qH ?_;rw[u];exact cJ bk.o 1 _
    have M:=HI.o.fr.trans E qs;clear u v;have e0:ca c wr.heap.size 0 (ii 2):=aB i;have e1:ca c wr.heap.size 1 (ii 1):=aB i;have e2:ca c wr.heap.size 2 (ii 1):=aB i;have e3:ca c wr.heap.size 3 (ii h):=aB i;have e4:ca c wr.heap.size 4 (ii f):=aB i;have e5:ca c wr.heap.size 5 (ii 40):=aB i;have e6:ca c wr.heap.size 6 (ii 0):=aB i;have e7:ca c wr.heap.size 7 (ii 0):=aB i;have e8:ca c wr.heap.size 8 (ii 0):=aB i;have e9:ca c wr.heap.size 9 (ii 0):=aB i;have cp:ca c wr.heap.size 10 (ii 0):=aB i;have bm:ca c e 148 r:=w.cell 148 qo;have bn:=w.fz 148;have ar:=w.lt;obtain⟨cj,Zs,ce,cf,cg⟩:=Z2 jU;have ai:Fr [] c (c.drew.alloc (.cells (bD 2 1 1 h f 40).arr 85)):=((r0 _ _).drew).alloc _;have HO:=aA (aF aa ai qs);have HS:Hi (∀(x:Nat) (O:Value),(bD 2 1 1 h f 40).cells[x]?=some O->(c.drew.alloc (.cells (bD 2 1 1 h f 40).arr 85)).cell? ((⟨c.heap.size,0,none⟩:Addr).add x)=some O):=by intro x O hu;rw[i7,Z9,aB (show(c.drew.alloc (.cells (bD 2 1 1 h f 40).arr 85)).heap[c.heap.size]?=_ from aC c.drew _)];simpa using hu
    have o:Hi (e∉r.ownBlock.toList):=λq=>by have:=(aa.lt e (qu q)).1;omega
    have av:=aA w;have af:=aA ai;have bp:Hi (∀m∈r.ownBlock.toList,l.heap.size<=m):=λm n=>(aa.lt m (qu n)).1;have aw:=aA ae;have Zr:=aA M;have cr:=M.size;clear i w aa ae M ai;have Zq:Hi (∀p,(∃y,RN p e (fZ a b) y/\p.ownsRow l.heap.size 85 11 y (t.length+1) (t.flatMap U.cells++(bD 2 1 1 h f 40).cells)/\p.heap[e+1]?=some (.cells #[.bool (decide (aN a 0 b=1)),.bool true] 184)/\Fr [e,e+1] l p)->RNI a l e (e+1) (d+1) (ii (aN a 0 (cL d)+aN a 1 (cL d)+1)) p):=by
     rintro p ⟨y,bf,D,bh,ax⟩;refine HI.o.next am b L.o R.o ?_ ?_ ⟨y,by rw[rM a b Q.o];exact bf,?_⟩ ?_ ?_ ax
     ·rw[gJ a 0 b (by rw[j.o];decide)];exact bj.o
     ·rw[jH a 1 b j.o,J.o];decide
     ·rw[ZA a b j.o J.o,ao.o.1,ao.o.2,m8,Qz5,<-au.o];have:=D;simpa using this
     ·rw[jH a 1 b j.o,J.o,gJ a 0 b (by rw[j.o];decide)];exact bh
     rw[jH a 1 b j.o,gJ a 0 b (by rw[j.o];decide)];congr 1;have:=L.o;rw[this];omega
    go_region_law (refine pJ rfl (.tmp 116) (.tmp 118) 82 rfl l.heap.size 85 cj zeroU.val 11 88 Qq8 Zs ce cf cg rfl qd r t.length (t.flatMap U.cells) (by simp[Act.eval]) HO.o ⟨c.heap.size,0,none⟩ 1 1 (bD 2 1 1 h f 40).cells (by simp[Act.eval]) rfl HS.o qc qm qo qt ?_;intro y w2 D bx Zt;obtain⟨g',dm,rfl⟩:=bK D qo;have ak:=Fr.grow (S:=r.ownBlock.toList) (r0 _ _) bx (fun g hg=>.inl (by simp[hg]));have ef:=(ak.cell e 148 qt o.o).trans ((af.o.cell e 148 ar qs).trans bm);have eq:=(ak.frozen e 148 qt o.o).trans ((af.o.frozen e 148 ar qs).trans bn))
    all_goals
     go_wp2;go_roundw
     ·refine⟨d+1,Y,by go_num,Zq.o _ ?_⟩;have aj:=af.o.qO.trans ak (fun m n=>.inl n);have be:=bp.o;have ds:l.heap.size<=g':=by have:=(D.lt g' rfl).1;omega
      refine⟨_,(av.o.fr aj o.o).setL _,aF D ((r0 [e] w2).setCell _ _ qs) (λm n=>?_),?_,?_⟩
      ·simp[Value.ownBlock]at n;subst n;simp;omega
      ·rw[Zz7 _ _ _ _ qs];exact aj.heap aw.o (λq=>by have:=be _ q;omega)
      exact(Zr.o.trans aj (λm n=>.inr (be m n))).setCell _ _ qs
     simp[intOf];omega
   have o:Hi (¬A):=by
    show ¬A
    rw[ag.o];intro s;have:=s.2.2.1 b az;unfold kn at this;rw[k]at this;cases this
   have eg:¬(eP a b:Int)=46:=qo;have eh:¬(eP a b:Int)=35:=qo;have ei:((eP a b:Int)==65)=false:=qt;have ek:((eP a b:Int)==66)=false:=qt;have ab:=HI.o.fr;clear k cy cz eb ec;obtain bg|bg:=bg
   ·have el:¬(49:Int)<=(eP a b:Int):=qo;go_wp2;go_ret2;exact⟨.inr ⟨o.o,rfl⟩,ah.trans ab qt⟩
   have el:(49:Int)<=(eP a b:Int):=qo;have fb:¬(eP a b:Int)<=57:=qo;go_wp2;go_ret2;exact⟨.inr ⟨o.o,rfl⟩,ah.trans ab qt⟩
  have bz:d=156:=qo;have dw:¬(d:Int)<156:=qo;have HI:=aA hI;have HK:=aA bz;obtain⟨⟨r,X,hown⟩,q2,q3,q4,q5,q6,_,q8⟩:=HI.o;have C:cL d=144:=by rw[bz];rfl
  rw[C]at X hown q3 q4 q5 |-;clear hI bz;have n0:=(kI a 0 144).1;have n1:=(kI a 1 144).1
  by_cases ew:aN a 0 144+aN a 1 144=2
  ·have dl:Hi A:=by
    show A
    rw[ag.o];exact⟨cd,λf hy=>q6 f (by rw[HK.o];omega),q5,by omega,by omega⟩
   have V:=ZC a qo qo;rw[V]at hown;obtain⟨I,bq,cw,fa,cx⟩:=PRow.qW (us:=(cB a).us) hown rfl (by show 0<2;omega);have dj:Hi (RG wr e I bq (cB a)):=by refine RN.rg ?_ cx qo;have:r=.slice (so I) 2 bq:=cw;rw[<-this];exact X
   clear X hown V cw cx;go_wp2;go_ret2;exact⟨.inl ⟨dl.o,e,I,bq,rfl,dj.o,du,by omega⟩,ah.trans q8 qt⟩
  have o:Hi (¬A):=by
   show ¬A
   rw[ag.o];intro s;have:=s.2.2.2.1;have:=s.2.2.2.2;omega
  clear X hown;go_wp2;go_ret2;exact⟨.inr ⟨o.o,rfl⟩,ah.trans q8 qt⟩
 have o:Hi (¬A):=by
  show ¬A
  rw[ag.o];intro s;exact cd s.1
 have ee:¬(a.size:Int)=156:=qo;clear cd
 delta Cs;go_in
 go_wp2;go_ret2;exact⟨.inr ⟨o.o,rfl⟩,r0 _ _⟩
variable {O:List Stp} {y:World}
abbrev Fl.cells(a:Fl):List Value:=[sv a.name,sv a.data]
def aU:List Fl->Nm->Nat
 |[],_=>0
 |c::b,a=>if c.name=a then 0 else aU b a+1
variable {J:List Fl}
theorem EP(b:Nm):∀a,aU a b<=a.length
 |[]=>Q9 _
 |c::a=>by
  unfold aU
  split
  ·omega
  have:=EP b a;grind
theorem nF(b:Nm):∀a,aU a b<a.length->∃c,a[aU a b]?=some c/\c.name=b
 |[],e=>by grind
 |c::a,e=>by
  unfold aU at e |-
  by_cases f:c.name=b
  ·grind
  rw[Z0 f]at e |-;exact nF b a qg
theorem ER(e:Nm):∀(a:List Fl) (c:Nat) (b:Fl),c<=aU a e->a[c]?=some b->(b.name=e->aU a e=c)/\(¬b.name=e->c+1<=aU a e)
 |[],c,b,_,f=>by grind
 |g::a,0,b,f,i=>by grind[aU]
 |g::a,c+1,b,f,i=>by
  unfold aU at f |-
  by_cases h:g.name=e
  ·grind
  rw[Z0 h]at f |-;have:=ER e a c b qo qg;grind
def bU(a:List Fl)(c:Nm):List Fl:=a.filter (λb=>b.name !=c)
def pC(a:List Fl)(b:Nat)(x:Nm):List Fl:=match a[b]? with|some f=>a.set b {f with data:=f.data++x}|none=>a
def nY(a:List Fl)(b:Nat):List Fl:=match a[b]? with|some f=>a.set b {f with safe:=f.data.length}|none=>a
def nK(a:List Fl)(b:Nat)(c:Nm):List Fl:=match a[b]? with|some f=>a.set b {f with name:=c}|none=>a
def dO(a:List Fl)(s:Stp):Option (List Fl):=
 if s.what=1 then some (if aU a s.name<a.length then pC a (aU a s.name) s.data else a++[⟨s.name,s.data,0⟩])
 else if s.what=2 then(if aU a s.name<a.length then some (nY a (aU a s.name))else none)
 else if s.what=3 then(if aU a s.name<a.length/\s.name≠s.to then some (nK (bU a s.to) (aU (bU a s.to) s.name) s.to)else none)
 else none
def cQ:List Fl->List Stp->Option (List Fl)
 |a,[]=>some a
 |a,s::c=>(dO a s).bind λb=>cQ b c
theorem lO:∀(b c:List Stp) (a:List Fl),cQ a (b++c)=(cQ a b).bind λe=>cQ e c
 |[],_,_=>rfl
 |s::b,c,a=>by
  show(dO a s).bind _=((dO a s).bind _).bind _
  rw[Option.bind_assoc];congr 1;funext e;exact lO b c e
theorem lP(a:List Fl)(s:Stp):cQ a [s]=dO a s:=by
 show(dO a s).bind (λb=>some b)=_
 grind
theorem DV{s:Stp}{c f:List Fl}(h:O[a]?=some s)(g:cQ J (O.take a)=some c)(e:cQ J O=some f):∃b,dO c s=some b/\cQ J (O.take (a+1))=some b:=by
 have i:O=(O.take a++[s])++O.drop (a+1):=by obtain⟨k,rfl⟩:=gs.1 h;simp_all
 have j:O.take (a+1)=O.take a++[s]:=by grind[take_succ_eq_append_getElem]
 rw[i,lO,lO,g]at e;rw[j,lO,g]
 change ((cQ c [s]).bind λb=>cQ b (O.drop (a+1)))=some f at e
 change ∃b,dO c s=some b/\cQ c [s]=some b
 rw[lP]at e |-;cases l:dO c s with
 |none=>grind
 |some b=>grind
section
variable (d x:Nm) (s:Nat)
end
structure DK (w:World) (base db:Nat) (D:List Fl):Prop where
 ex:∃lv fv,w.cell? ⟨db,0,none⟩=some lv/\w.cell? ⟨db,1,none⟩=some fv/\w.ownsRow base 115 2 lv D.length (D.flatMap Fl.cells)/\w.ownsRow base 3 1 fv D.length (D.map λf=>ii (f.safe:Int))/\lv.ownBlock≠some db/\fv.ownBlock≠some db/\∀g,lv.ownBlock=some g->fv.ownBlock≠some g
 fz:∀k,w.frozen? ⟨db,k,none⟩=false
 hb:base<=w.heap.size
theorem sA:∀(e:List Fl) (b a:Nat) (c:Fl),e[b]?=some c->a<2->(e.flatMap Fl.cells)[b*2+a]?=c.cells[a]?
 |[],b,a,c,g,_=>by grind
 |f::e,0,a,c,g,h=>by grind
 |f::e,b+1,a,c,g,h=>by rw[l9,J8 qg];have:=sA e b a c qg h;rw[show(b+1)*2+a-f.cells.length=b*2+a by grind];omega
theorem DK.lt{base:Nat}(b:DK w base a J):a<w.heap.size:=by obtain⟨e,fv,c,_⟩:=b.ex;exact aI c
theorem DK.fr{S:List Nat}{base:Nat}(f:DK w base a J)(c:Fr S w y)(u:∀i∈S,i<base)(t:a∉S):DK y base a J:=by
 have r:=f.lt;obtain⟨⟨o,fv,p,q,g,h,j,k,l⟩,v,m⟩:=f;refine⟨⟨o,fv,by grind[Fr.cell],by grind[Fr.cell],aF g c (λb e n=>?_),aF h c (λb e n=>?_),j,k,l⟩,λz=>by grind[Fr.frozen],Y3 m c.size⟩
 ·have:=(g.lt b e).1;grind
 have:=(h.lt b e).1;grind
theorem DK.qF{base:Nat}(b:DK w base a J)(c:Fr [] w y):DK y base a J:=b.fr c qs qs
variable {Q:Fl}
theorem DK.at{base:Nat}(p:DK w base a J){k:Nat}(f:J[k]?=some Q):∃b h d e,w.cell? ⟨a,0,none⟩=some (.slice (so b) J.length h)/\w.cell? ⟨a,1,none⟩=some (.slice (so d) J.length e)/\w.cell? ⟨b,k*2,none⟩=some (sv Q.name)/\w.cell? ⟨b,k*2+1,none⟩=some (sv Q.data)/\w.cell? ⟨d,k,none⟩=some (ii (Q.safe:Int)):=by obtain⟨u,fv,q,r,m,n,_⟩:=p.ex;have t:k<J.length:=qg;obtain⟨b,h,rfl⟩:=bK m qo;obtain⟨d,e,rfl⟩:=bK n qo;have o:=m.cells (g:=b) rfl;have s:=n.cells (g:=d) rfl;have i:=o (k*2+0) _ (sA J k 0 Q f qo);have j:=o (k*2+1) _ (sA J k 1 Q f qo);have l:=s k (ii (Q.safe:Int)) (by rw[V4,f];rfl);rw[i7,Z9]at i j l;exact⟨b,h,d,e,q,r,i,j,l⟩
theorem DK.len{base:Nat}(d:DK w base a J):∃b c,w.cell? ⟨a,0,none⟩=some (.slice b J.length c):=by grind[DK.ex,fD]
def jE(a:List Fl)(b:Nm):Int:=if aU a b<a.length then(aU a b:Int)else -1
theorem pT(base r:Nat)(a:List Fl)(c:Nm)(k:World)(s:DK k base r a)(H:a.length<=1000000000):Cs 113 #[pt r,sv c] k (R1 k (ii (jE a c))):=by
 obtain⟨f,m⟩:∃f:ByteArray,f=⟨c.toArray⟩:=⟨_,rfl⟩;rw[sv,<-m];have A:=aA m;have q:=aA s;clear s m
 delta Cs;go_in
 go_wp2
 go_loopw [5] (fun p wr=>∃b:Nat,b<=a.length/\p=ii b/\b<=aU a c/\k=wr) (fun p _=>a.length-(intOf p).toNat)
 ·exact⟨0,Z3 _,rfl,Z3 _,rfl⟩
 obtain⟨b,F,rfl,x,rfl⟩:=hrel
 by_cases n:b<a.length
 ·have y:(b:Int)<(a.length:Int):=qo;obtain⟨d,t⟩:∃d,a[b]?=some d:=⟨_,Y2 n⟩;obtain⟨I,z,C,D,u,_,v,_,_⟩:=q.o.at t;have j:=ER c a b d x t;obtain⟨e,l⟩:∃e:ByteArray,e=⟨d.name.toArray⟩:=⟨_,rfl⟩;rw[sv,<-l]at v;have i:(e.toList==f.toList)=(d.name==c):=by grind[Hi.o,ByteArray.toList_mk]
  by_cases h:d.name=c
  ·have w:(e.toList==f.toList)=true:=by rw[i];simpa using h
   have g:=(show Hi _ from j.1 h);clear i j l;go_wp2;go_ret;exact⟨by unfold jE;rw[Q7 (by rw[g.o];exact n),g.o];rfl,rfl⟩
  have w:(e.toList==f.toList)=false:=by rw[i];simpa using h
  have g:=(show Hi _ from j.2 h);clear i j l;go_wp2;go_roundw
  ·exact⟨b+1,n,by go_num,g.o,p8⟩
  simp[intOf];omega
 have y:¬(b:Int)<(a.length:Int):=qo;obtain⟨B,z,u⟩:=q.o.len;have E:aU a c=a.length:=by grind[EP]
 go_wp2;go_ret;simp_all[jE]
variable {l:List UInt8} {d e:Nat} {V:Nm}
abbrev cT(D:List Fl):List Nm:=D.map Fl.name
theorem EQ:∀{D:List Fl},V∉cT D->aU D V=D.length
 |[],_=>rfl
 |f::D,a=>by have b:¬f.name=V:=λc=>a qg;unfold aU;rw[Z0 b,EQ (D:=D) qg];rfl
theorem vQ{D:List Fl}{f:Fl}(c:(cT D).Nodup)(a:f∈D):D[aU D f.name]?=some f:=by
 induction D with
 |nil=>cases a
 |cons b D d=>grind[aU]
theorem vO{D:List Fl}{f:Fl}(b:f.name∉cT D):aU (D++[f]) f.name=D.length:=by
 induction D with
 |nil=>simp[aU]
 |cons a D c=>grind[aU]
theorem UD{D:List Fl}{f:Fl}{a:Nm}(b:D[aU D V]?=some f):dO D (bV V a)=some (D.set (aU D V) {f with data:=f.data++a}):=by grind[dO,pC]
theorem vH{D:List Fl}{f:Fl}(a:D[aU D V]?=some f):dO D (bQ V)=some (D.set (aU D V) {f with safe:=f.data.length}):=by grind[dO,nY]
theorem DN{D:List Fl}{x:Nm}(a:V∉cT D):dO D (bV V x)=some (D++[⟨V,x,0⟩]):=by grind[dO,EQ]
theorem DP{D:List Fl}{x:Nm}{s:Nat}(b:V∉cT D):dO (D++[⟨V,x,s⟩]) (bQ V)=some (D++[⟨V,x,x.length⟩]):=by have a:aU (D++[⟨V,x,s⟩]) V=D.length:=(by grind[vO]);simp_all[vH]
theorem Gr{D:List Fl}{e:Nm}(b:V∉cT D):V∉cT (bU D e):=λa=>by obtain⟨f,c,d⟩:=Qk7.1 a;exact b (by rw[<-d];exact Zk5 (p9.1 c).1)
theorem DO{D:List Fl}{x:Nm}(c:V∉cT D)(d:V≠LOG):dO (D++[⟨V,x,x.length⟩]) (dI V LOG)=some (bU D LOG++[⟨LOG,x,x.length⟩]):=by
 have a:aU (D++[⟨V,x,x.length⟩]) V=D.length:=(by grind[vO]);have e:bU (D++[⟨V,x,x.length⟩]) LOG=bU D LOG++[⟨V,x,x.length⟩]:=by grind[bU]
 have b:aU (bU D LOG++[⟨V,x,x.length⟩]) V=(bU D LOG).length:=(by grind[vO,Gr]);grind[dO,nK]
abbrev Mk3:=Nat×Nat×Nat
def gE:List Mk3->Nat->Nat->Nat
 |[],_,a=>a
 |c::d,b,a=>if c.1<=b then gE d b c.2.2 else a
def gC:List Mk3->Nat->Nat->Nat
 |[],_,d=>d
 |a::c,b,_=>if a.1<=b then gC c b a.2.1 else a.2.1
theorem sP{c:Nat}(d:List Mk3):∀(a:List Mk3) (g e:Nat),(∀b∈a,b.1<=c)->gE (a++d) c g=gE d c (gE a c g)/\gC (a++d) c e=gC d c (gC a c e)
 |[],_,_,_=>⟨rfl,rfl⟩
 |b::a,g,e,h=>by have l:=h b qs;obtain⟨j,k⟩:=sP d a b.2.2 b.2.1 (λi m=>h i qg);grind[gE,gC]
theorem Ioq{c:Nat}(g:List Mk3):∀(a:List Mk3) (h e:Nat),(∃d∈a,c<d.1)->gE (a++g) c h=gE a c h/\gC (a++g) c e=gC a c e
 |[],_,_,i=>by grind
 |d::a,h,e,i=>by
  rw[X1];simp only[gE,gC]
  by_cases b:d.1<=c
  ·rw[Q7 b,Q7 b,Q7 b,Q7 b];refine Ioq g a _ _ ?_;grind
  grind
def CutAt(D0:List Fl)(steps:List Stp)(sts:List T)(c e d:Nat):Prop:=∃D,cQ D0 (steps.take c)=some D/\(cT D).Nodup/\(∀f∈D,f.safe<=f.data.length)/\∃f∈D,f.name=LOG/\∀a,f.safe<=a->a<=f.data.length->∃b t g,e<=b/\b<=d/\sts[b]?=some t/\fG (f.data.take a) t g
theorem CutAt.more{D0:List Fl}{steps:List Stp}{sts:List T}(i:CutAt D0 steps sts a b c)(v:List Stp)(u:List T)(z:a<=steps.length)(x:d<=b)(y:c<=e):CutAt D0 (steps++v) (sts++u) a d e:=by obtain⟨D,w,g,h,f,j,k,l⟩:=i;refine⟨D,by grind,g,h,f,j,k,λo q r=>?_⟩;obtain⟨p,t,s,A,B,m,n⟩:=l o q r;have:=(gs.1 m).1;exact⟨p,t,s,by omega,by omega,by grind,n⟩
structure CI (D0:List Fl) (steps:List Stp) (mk:List Mk3) (sts:List T) (safe:Nat):Prop where
 m0:∃a r,mk=(a,0,0)::r
 all:∀m∈mk,m.1<=steps.length
 ml:∃l,mk=l++[(steps.length,sts.length-1,safe)]
 cut:∀c,(mk.headD (0,0,0)).1<=c->c<=steps.length->CutAt D0 steps sts c (gE mk c 0) (gC mk c 0)
theorem CI.last{D0:List Fl}{steps:List Stp}{mk:List Mk3}{sts:List T}{safe:Nat}(a:CI D0 steps mk sts safe):CutAt D0 steps sts steps.length safe (sts.length-1):=by obtain⟨g,d⟩:=a.ml;have e:=a.all (mk.headD (0,0,0)) (by grind[CI.m0]);have:=a.cut steps.length e qo;have b:=a.all;rw[d]at this b;obtain⟨j,k⟩:=sP [(steps.length,sts.length-1,safe)] g 0 0 (c:=steps.length) (λh i=>b h qg);grind[gE,gC]
theorem CI.more{D0:List Fl}{steps:List Stp}{mk:List Mk3}{sts:List T}{safe:Nat}(g:CI D0 steps mk sts safe)(a:List Stp)(c:List T)(d:Nat)(E:a=[]->d<=safe)(z:∀i,i<a.length->CutAt D0 (steps++a) (sts++c) (steps.length+(i+1)) (if i+1=a.length then d else safe) ((sts++c).length-1)):CI D0 (steps++a) (mk++[((steps++a).length,(sts++c).length-1,d)]) (sts++c) d:=by
 have v:=g.last;obtain⟨o,B,l⟩:=g.m0;obtain⟨A,p⟩:=g.ml;have w:=g.all;refine⟨⟨o,B++[((steps++a).length,(sts++c).length-1,d)],by rw[l];rfl⟩,λj h=>?_,⟨mk,rfl⟩,λb n r=>?_⟩
 ·obtain e|e:=m5.1 h
  ·have:=w j e;rw[m8];omega
  simp at e;rw[e];simp
 have u:((mk++[((steps++a).length,(sts++c).length-1,d)]).headD (0,0,0)).1=(mk.headD (0,0,0)).1:=by rw[l];rfl
 rw[u]at n
 by_cases q:b<steps.length
 ·obtain⟨k,e⟩:=Ioq [((steps++a).length,(sts++c).length-1,d)] mk 0 0 (c:=b) ⟨(steps.length,sts.length-1,safe),by grind,q⟩;rw[k,e];exact(g.cut b n qo).more a c qo qo qo
 have x:gE mk b 0=safe:=by rw[p,(sP _ A 0 0 (c:=b) (λj h=>by grind)).1];grind[gE]
 obtain⟨k,e⟩:=sP [((steps++a).length,(sts++c).length-1,d)] mk 0 0 (c:=b) (λj h=>by grind);rw[k,e,x];have y:gC [((steps++a).length,(sts++c).length-1,d)] b (gC mk b 0)=(sts++c).length-1:=by simp_all[gC]
 rw[y];rw[m8]at r;simp only[gE]
 by_cases s:b=steps.length
 ·subst s;refine v.more a c qo ?_ (by rw[m8];omega)
  split
  ·rename_i m
   rw[m8]at m;grind
  omega
 have:=z (b-steps.length-1) qo;rw[show steps.length+(b-steps.length-1+1)=b by omega]at this;have C:(b-steps.length-1+1=a.length)↔(steps++a).length<=b:=by rw[m8];omega
 by_cases m:(steps++a).length<=b
 ·grind
 grind
structure DG (D:List Fl) (g:Nm->Option (Value×List UInt8)):Prop where
 nd:(cT D).Nodup
 there:∀f∈D,∃v,g f.name=some (v,f.data)
 back:∀k p,g k=some p->k∈cT D
theorem DG.log{D:List Fl}{a:Nm->Option (Value×List UInt8)}(b:DG D a)(c:a V=some (v,l)):∃f∈D,f.name=V/\f.data=l:=by obtain⟨f,d,e⟩:=Qk7.1 (b.back V _ c);grind[DG.there]
theorem yK{D:List Fl}{f:Fl}(b:D[a]?=some f)(d:Q.name=f.name):cT (D.set a Q)=cT D:=by obtain⟨c,rfl⟩:=gs.1 b;unfold cT;grind[map_set,List.set_getElem_self]
theorem NJ{D:List Fl}{f:Fl}(b:D[a]?=some f)(d:Q.name=f.name)(c:(cT D).Nodup):(cT (D.set a Q)).Nodup:=by grind[yK]
theorem wW{D:List Fl}{f b:Fl}(k:(cT D).Nodup)(j:D[a]?=some f)(g:b∈D.set a Q):b=Q\/(b∈D/\b.name≠f.name):=by
 obtain⟨d,c⟩:=Zx5 g
 by_cases e:d=a
 ·grind
 rw[getElem?_set_ne qo]at c;refine .inr ⟨Q8 c,λl=>e ?_⟩;have h:(cT D)[d]?=some f.name:=qg;have i:(cT D)[a]?=some f.name:=qg;grind[pairwise_iff_getElem]
theorem DG.put{D:List Fl}{b:Nm->Option (Value×List UInt8)}(c:DG D b){i:Nat}{f f':Fl}(d:D[i]?=some f)(k:f'.name=f.name)(g:Value):DG (D.set i f') (λa=>if a=f.name then some (g,f'.data)else b a):=by
 refine⟨by grind[yK,DG.nd],λn e=>?_,λa m l=>?_⟩
 ·obtain rfl|⟨h,j⟩:=wW c.nd d e
  ·simp_all
  grind[DG.there]
 grind[yK,mem_map_of_mem,mem_of_getElem?,DG.back]
theorem DG.same{D:List Fl}{b:Nm->Option (Value×List UInt8)}(c:DG D b){f:Fl}(g:D[a]?=some f)(h:Q.name=f.name)(j:Q.data=f.data):DG (D.set a Q) b:=by obtain⟨e,k⟩:=c.there f qg;have:=c.put g h e;have i:(λd=>if d=f.name then some (e,Q.data)else b d)=b:=qg;grind
theorem nW{D:List Fl}{f:Fl}:f∈bU D V↔f∈D/\f.name≠V:=by grind[bU]
theorem DG.fold{D:List Fl}{b:Nm->Option (Value×List UInt8)}(g:DG D b)(u:b V=none)(e:List UInt8)(h:Value):DG (bU D LOG++[⟨LOG,e,e.length⟩]) (λa=>if a=V then none else if a=LOG then some (h,e)else b a)\/V=LOG:=by
 by_cases v:V=LOG
 ·grind
 refine .inl ⟨?_,λf k=>?_,λa l c=>?_⟩
 ·unfold cT;rw[Qx9,nodup_append];refine⟨(filter_sublist.map _).nodup g.nd,by simp,λm r n s o=>?_⟩;grind[nW]
 ·obtain d|d:=m5.1 k
  ·grind[nW,DG.there]
  simp at d;subst d;exact⟨h,by grind⟩
 by_cases i:a=V
 ·grind
 rw[Z0 i]at c;unfold cT;rw[Qx9]
 by_cases j:a=LOG
 ·grind
 rw[Z0 j]at c;obtain⟨f,p,q⟩:=Qk7.1 (g.back a l c);grind[nW]
section
variable {D0 D:List Fl} {steps:List Stp} {mk:List Mk3} {sts:List T} {safe:Nat} {f:Fl} {t:T}
theorem CI.at(e:CI D0 steps mk sts safe)(g:cQ D0 steps=some D)(o:f∈D)(p:f.name=LOG):(cT D).Nodup/\D[aU D LOG]?=some f/\(∀f∈D,f.safe<=f.data.length)/\∀a,f.safe<=a->a<=f.data.length->∃b t h,safe<=b/\b<=sts.length-1/\sts[b]?=some t/\fG (f.data.take a) t h:=by obtain⟨i,d,j,c,k,l,m,n⟩:=e.last;rw[l8 qo,g]at d;grind[vQ]
theorem AL(a:Stp):cQ D0 ((steps++[a]).take (steps.length+(0+1)))=(cQ D0 steps).bind λD=>dO D a:=by simp_all[take_of_length_le,lO,lP]
theorem CI.play(j:CI D0 steps mk sts safe)(l:cQ D0 steps=some D)(m:f∈D)(o:f.name=LOG)(e:fG f.data t [])(L:sts[sts.length-1]?=some t)(a:Tn)(z:t.turn<1000000000)(x:a.1.length<=10000/\a.2.length<=10000)(n:(dG t.turn a.1 a.2).length<=40000):CI D0 (steps++[bV LOG (cU t a)]) (mk++[((steps++[bV LOG (cU t a)]).length,(sts++[nT (dR t a)]).length-1,safe)]) (sts++[nT (dR t a)]) safe/\cQ D0 (steps++[bV LOG (cU t a)])=some (D.set (aU D LOG) {f with data:=f.data++cU t a})/\fG (f.data++cU t a) (nT (dR t a)) []:=by
 obtain⟨g,d,h,q⟩:=j.at l m o;have s:=(kB e).1;have w:=VS s a z x n;have r:dO D (bV LOG (cU t a))=some (D.set (aU D LOG) {f with data:=f.data++cU t a}):=UD d;have M:sts.length-1<sts.length:=qg;have p:=JO e (x:=cU t a);rw[w]at p;refine⟨j.more _ _ _ qo λB J=>?_,by grind[lO,lP],p⟩;have:B=0:=qg;subst this;refine⟨D.set (aU D LOG) {f with data:=f.data++cU t a},by rw[AL,l];exact r,NJ d (by rfl) g,λI A=>?_,{f with data:=f.data++cU t a},Q8 (getElem?_set_self (gs.1 d).1),o,λb c k=>?_⟩
 ·obtain rfl|⟨c,_⟩:=wW g d A
  ·have:=h f m;simp only[length_append];omega
  exact h I c
 dsimp only at c k |-;simp only[length_cons,length_nil,if_pos];rw[m8]at k
 by_cases v:b<=f.data.length
 ·obtain⟨C,H,F,E,N,O,P⟩:=q b c v;have:=qo;exact⟨C,H,F,E,qg,qg,qg⟩
 have i:(f.data++cU t a).take b=f.data++(cU t a).take (b-f.data.length):=by grind[take_append]
 have y:safe<=sts.length-1:=by grind
 by_cases u:b-f.data.length<(cU t a).length
 ·have:=JO e (x:=(cU t a).take (b-f.data.length));rw[VT a n u]at this;exact⟨sts.length-1,t,_,y,by simp,qg,by rw[i];omega⟩
 rw[show(cU t a).take (b-f.data.length)=cU t a from l8 qo]at i;exact⟨sts.length,nT (dR t a),[],by omega,by simp,by simp,qg⟩
theorem CI.refused(a:CI D0 steps mk sts safe):CI D0 steps (mk++[(steps.length,sts.length-1,safe)]) sts safe:=by have:=a.more [] [] safe qo qg;grind
theorem CI.sync(d:CI D0 steps mk sts safe)(e:cQ D0 steps=some D)(k:f∈D)(g:f.name=LOG)(r:fG f.data t [])(q:sts[sts.length-1]?=some t):CI D0 (steps++[bQ LOG]) (mk++[((steps++[bQ LOG]).length,sts.length-1,sts.length-1)]) sts (sts.length-1)/\cQ D0 (steps++[bQ LOG])=some (D.set (aU D LOG) {f with safe:=f.data.length}):=by
 obtain⟨c,a,h,o⟩:=d.at e k g;have j:=vH a;have:=d.more [bQ LOG] [] (sts.length-1) qg λm p=>by
  have:m=0:=qg;subst this;refine⟨D.set (aU D LOG) {f with safe:=f.data.length},by rw[AL,e];exact j,NJ a (by rfl) c,λn l=>?_,{f with safe:=f.data.length},Q8 (getElem?_set_self (gs.1 a).1),g,λs b i=>?_⟩
  ·obtain rfl|⟨b,_⟩:=wW c a l
   ·exact Q9 _
   exact h n b
  dsimp only at b i |-;simp only[append_nil,length_cons,length_nil,if_pos];grind
 grind[lO,lP]
theorem CI.fold(v:CI D0 steps mk sts safe)(y:cQ D0 steps=some D)(J:f∈D)(h:f.name=LOG)(P:GG t)(S:t.turn<=1000000000)(R:nT t=t)(L:sts[sts.length-1]?=some t)(a:V∉cT D)(M:V≠LOG)(W:l=bE 2 (aQ t)):CI D0 (steps++[bV V l,bQ V,dI V LOG]) (mk++[((steps++[bV V l,bQ V,dI V LOG]).length,sts.length-1,sts.length-1)]) sts (sts.length-1)/\cQ D0 (steps++[bV V l,bQ V,dI V LOG])=some (bU D LOG++[⟨LOG,l,l.length⟩]):=by
 obtain⟨q,Q,C,u⟩:=v.at y J h;have d:=DN (x:=l) a;have r:=DP (x:=l) (s:=0) a;have E:=DO (x:=l) a M;have F:=(lP _ _).trans d;have H:cQ D [bV V l,bQ V]=some (D++[⟨V,l,l.length⟩]):=by
  show(dO D (bV V l)).bind _=_
  rw[d];exact(lP _ _).trans r
 have I:cQ D [bV V l,bQ V,dI V LOG]=some (bU D LOG++[⟨LOG,l,l.length⟩]):=by
  show(dO D (bV V l)).bind _=_
  rw[d]
  show(dO _ (bQ V)).bind _=_
  rw[r];exact(lP _ _).trans E
 have z:∀c,c<=l.length->(cT (D++[⟨V,l,c⟩])).Nodup/\(∀f∈D++[⟨V,l,c⟩],f.safe<=f.data.length):=λc N=>by
  refine⟨?_,λp A=>?_⟩
  ·unfold cT;rw[Qx9,nodup_append];refine⟨q,qs,λB e O j s=>a ?_⟩;simp at j;rw[<-j,<-s];exact e
  obtain b|b:=m5.1 A
  ·exact C p b
  simp at b;subst b;exact N
 have i:∀m,cQ D0 ((steps++[bV V l,bQ V,dI V LOG]).take (steps.length+m))=cQ D ([bV V l,bQ V,dI V LOG].take m):=λm=>by rw[Qz0,l8 qo,Zk3,lO,y];rfl
 have:=v.more [bV V l,bQ V,dI V LOG] [] (sts.length-1) qg λk g=>by
  rw[Zq6];have g:k=0\/k=1\/k=2:=by simp at g;omega
  obtain rfl|rfl|rfl:=g
  ·obtain⟨n,o⟩:=z 0 qo;exact⟨_,(i 1).trans F,n,o,f,qg,h,by simpa using u⟩
  ·obtain⟨n,o⟩:=z l.length qo;exact⟨_,(i 2).trans H,n,o,f,qg,h,by simpa using u⟩
  refine⟨_,(i 3).trans I,?_,λp A=>?_,⟨LOG,l,l.length⟩,qs,rfl,λX w x=>?_⟩
  ·unfold cT;rw[Qx9,nodup_append];refine⟨(filter_sublist.map _).nodup q,qs,λB e O j s=>?_⟩;obtain⟨p,w,x⟩:=Qk7.1 e;grind[nW]
  ·grind[nW]
  dsimp only at w x |-;refine⟨sts.length-1,t,[],qs,Q9 _,L,?_⟩;grind[sV]
 rw[Zq6]at this;grind[lO]
theorem CI.first(k:cQ D0 steps=some D)(e:(cT D).Nodup)(i:∀f∈D,f.safe<=f.data.length)(g:f∈D)(h:f.name=LOG)(n:f.safe=f.data.length)(m:fG f.data t []):CI D0 steps [(steps.length,0,0)] [t] 0:=by
 refine⟨qg,λj l=>by grind,⟨[],rfl⟩,λb c d=>?_⟩;have:b=steps.length:=by grind
 subst this;refine⟨D,by grind,e,i,f,g,h,λj c d=>⟨0,t,[],by simp[gE],by omega,rfl,?_⟩⟩;grind
end
theorem CmdR.at{e:List Cm}(b:CmdR w v e)(h:Fr [] w x)(l:w.heap.size<=a):CmdW x v e a:=by
 have d:=b.qF h;obtain b|⟨m,q,o,g,i,j⟩:=b
 ·exact .inl b
 obtain d|⟨n,r,p,f,s,t⟩:=d
 ·exact .inl d
 rw[g]at f;cases f;exact .inr qg
