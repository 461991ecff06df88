import Derived.Test.YtapabahhfanmmaaGreatDoorCParseP
namespace Go.Proofs.YtapabahhfanmmaaGreatDoor
open Go.RowKit List Go.Proofs.Tryz
set_option maxHeartbeats 2000000
set_option maxRecDepth 100000
def eP(b:ByteArray)(a:Nat):Nat:=((b.data[(a/12)*13+a%12]?).map UInt8.toNat).getD 0
def jA(a:ByteArray)(b:Nat):Nat:=((a.data[b*13+12]?).map UInt8.toNat).getD 0
def gr(b:ByteArray)(a:Nat):Int:=(fE (eP b a)).1
def ow(b:ByteArray)(a:Nat):Int:=(fE (eP b a)).2.1
def kn(b:ByteArray)(a:Nat):Bool:=(fE (eP b a)).2.2
def aN(c:ByteArray)(b:Int):Nat->Int
 |0=>0
 |a+1=>if ow c a=b then aN c b a+1 else aN c b a
def pos(c:ByteArray)(b:Int):Nat->Nat
 |0=>0
 |a+1=>if ow c a=b then a else pos c b a
def eV(a:ByteArray):Prop:=a.size=156/\(∀c,c<12->jA a c=10)/\(∀b,b<144->kn a b=true)/\aN a 0 144=1/\aN a 1 144=1
theorem kI(c:ByteArray)(b:Int):∀a,0<=aN c b a/\aN c b a<=a
 |0=>(by grind[aN])
 |a+1=>by have:=kI c b a;grind[aN]
theorem NM(c:ByteArray)(b a:Nat)(f:a<12)(d:b*13+a<c.size):(c[b*13+a]'d).toNat=eP c (b*12+a):=by unfold eP;rw[show(b*12+a)/12*13+(b*12+a)%12=b*13+a by omega];have e:b*13+a<c.data.size:=d;rw[Zq3 e];rfl
theorem JI(a:ByteArray)(b:Nat)(c:b*13+12<a.size):(a[b*13+12]'c).toNat=jA a b:=by unfold jA;have d:b*13+12<a.data.size:=c;rw[Zq3 d];rfl
theorem NO(b:ByteArray)(a:Nat):eP b a<=255:=by
 unfold eP;cases b.data[(a/12)*13+a%12]? with
 |none=>simp
 |some c=>have:=c.toNat_lt;grind
theorem JJ(b:ByteArray)(a:Nat):jA b a<=255:=by
 unfold jA;cases b.data[a*13+12]? with
 |none=>simp
 |some c=>have:=c.toNat_lt;grind
theorem yM(a:Nat):(fE a=(0,-1,false))\/(∃b,fE a=(b,-1,true)/\0<=b/\b<=10)\/fE a=(0,0,true)\/fE a=(0,1,true):=by grind[fE]
theorem WL(b:ByteArray)(a:Nat):0<=gr b a/\gr b a<=10:=by grind[gr,yM,eP]
theorem FI(b:ByteArray)(a:Nat)(c:ow b a=0\/ow b a=1):gr b a=0:=by grind[ow,gr,yM,eP]
theorem xX(c:ByteArray)(b:Int):∀a,0<aN c b a->pos c b a<a/\ow c (pos c b a)=b
 |0,d=>by grind[aN]
 |a+1,d=>by
  unfold aN at d;unfold pos
  by_cases e:ow c a=b
  ·grind
  rw[Z0 e]at d |-;obtain⟨f,g⟩:=xX c b a d;omega
def gN(b:Nat->Int)(c:Nat):List Value:=(range 144).map λa=>if a<c then ii (b a)else ii 0
def fS(a b:Nat):List Value:=[ii ((a%12:Nat):Int),ii ((a/12:Nat):Int),ii ((b%12:Nat):Int),ii ((b/12:Nat):Int)]
theorem uT(a:Nat->Int)(b:Nat):(gN a b).length=144:=by simp[gN]
theorem RF(b:Nat->Int)(a:Nat)(e:List Value)(h:a<144):(gN b a++e).toArray.setIfInBounds a (ii (b a))=(gN b (a+1)++e).toArray:=by
 apply Zk8;intro d;rw[Zk9];have g:=uT b
 by_cases c:a=d
 ·subst c;rw[Q7 rfl,Q7 qg];simp_all[getElem?_toArray,getElem?_append_left,gN]
 rw[Z0 c];simp only[getElem?_toArray]
 by_cases f:d<144
 ·rw[J7 qg,J7 qg];unfold gN;grind
 grind
theorem rJ(a:Nat->Int)(d b:Nat)(c:List Value)(e:Value):(gN a d++c).toArray.setIfInBounds (144+b) e=(gN a d++c.set b e).toArray:=by simp_all[uT,set_append_right,Nat.add_sub_cancel_left]
theorem IQ(d:Nat->Int)(c f g:Nat):(gN d c++fS f g).toArray.all (·.oneCell')=true:=by
 apply Zk2;intro h a;obtain a|a:=m5.1 a
 ·obtain⟨e,_,rfl⟩:=Qk7.1 a
  by_cases b:e<c
  ·rw[Q7 b];rfl
  rw[Z0 b];rfl
 simp only[fS,mem_cons,not_mem_nil,or_false]at a;obtain rfl|rfl|rfl|rfl:=a<;>rfl
structure MapJ (tx:ByteArray) (A:Nat) (W3:World) (n:Nat) (wr:World):Prop where
 fr:Fr [A+1,A+1+1] W3 wr
 m:wr.heap[A+1]?=some (.cells (gN (gr tx) n++fS (pos tx 0 n) (pos tx 1 n)).toArray 162)
 b:wr.heap[A+1+1]?=some (.cells #[ii (aN tx 0 n),ii (aN tx 1 n)] 54)
 k:∀j,j<n->kn tx j=true
theorem zI:(prog.info? 162).map (·.size)=some zeroCells162.size:=qk
theorem zS:zeroCells162.size=zeroCells162.size:=rfl
theorem zO:zeroCells162.all (·.oneCell')=true:=qk
theorem RE(a:Nat->Int):gN a 0=(range 144).map (λ_=>ii 0):=by grind[gN]
theorem UY(a b:Int)(c:World):(Op.equalIn 10000 54 (.agg #[ii a,ii b]) (.agg #[ii 1,ii 1])).run prog c=.ok (a==1&&b==1) c:=by
 have u3:=Qq3;rw[show(10000:Nat)=9999+1 from rfl,Op.equalIn];simp only[Sem.run_bind,run_underlying underlying54,Result.andThen_ok];simp only[Std.Legacy.Range.forIn_eq_forIn_range',Std.Legacy.Range.size,Nat.sub_zero,Nat.add_sub_cancel,Nat.div_one,range'_succ,range'_zero,forIn_cons,forIn_nil]
 by_cases d:a=1<;>by_cases e:b=1<;>simp[go_sem,u3,d,e]
theorem ZZ(a b:Int)(c:World):(binOp BinOp.neq 54 (.agg #[ii a,ii b]) (.agg #[ii 1,ii 1])).run prog c=.ok (.bool (!(a==1&&b==1))) c:=by have d:=UY a b c;simp[go_sem,d]
theorem Ei(a:ByteArray)(k:World):Cs 76 #[.string a] k λj w'=>((eV a/\j=.returned (.tuple #[.agg (gN (gr a) 144++fS (pos a 0 144) (pos a 1 144)).toArray,.bool true]))\/(¬eV a/\j=.returned (.tuple #[.agg zeroCells162,.bool false])))/\Fr [] k w':=by
 obtain⟨r,am⟩:∃bw:Prop,bw=eV a:=⟨_,rfl⟩;rw[<-am];have S:=aA am;clear am
 by_cases ao:a.size=156
 ·have bb:=aA (λd (t:d<12)=>JI a d qo);have be:=aA (λd e (t:d<12) (h':e<12)=>NM a d e h' qo)
  delta Cs;go_in
  go_wp2_with fail
  obtain⟨M,N⟩:=nm (((k.alloc (.cells zeroCells162 162)).alloc (.cells zeroCells162 162)).alloc (.cells #[ii 0,ii 0] 54));rw[<-N];have ad:Fr [] k M:=by rw[N];exact(((r0 _ _).alloc _).alloc _).alloc _
  have hA:M.heap[k.heap.size]?=some (.cells zeroCells162 162):=by rw[N];exact((r0 [] _).alloc _).qH (dW _ _ _)
  have Zq:MapJ a k.heap.size M 0 M:=by
   refine⟨r0 _ _,?_,?_,λc E=>by omega⟩
   ·rw[N];have:=((r0 [] _).alloc (.cells #[ii 0,ii 0] 54)).qH (cZ k (.cells zeroCells162 162) (.cells zeroCells162 162));rw[this,zT,RE];simp[fS,pos]
   rw[N];exact lT _ _ _ qs
  clear N;obtain⟨g,ar⟩:=nm k.heap.size;rw[<-ar]at hA Zq |-;have ae:k.heap.size<=g:=qo;clear ar
  go_loopw [15] (fun F wr=>∃d:Nat,d<=12/\F=ii d/\MapJ a g M (d*12) wr/\∀f,f<d->jA a f=10) (fun F _=>12-(intOf F).toNat)
  ·exact⟨0,Z3 _,rfl,Zq,λf W=>by omega⟩
  obtain⟨d,hy,rfl,i,ax⟩:=hrel;have aq:=aA ax;clear ax
  by_cases af:d<12
  ·have ce:(d:Int)<12:=qo;have av:(a[d*13+12]'qo).toNat=jA a d:=bb.o d af;have bm:=JJ a d;have HI:=aA i;clear i
   by_cases x:jA a d=10
   ·rw[x]at av;have bc:=aA x;clear x bm
    go_wp2_with fail
    obtain⟨wo,aw⟩:=nm wr;rw[<-aw]at HI |-;clear aw av
    go_loopw [25] (fun F wr=>∃e:Nat,e<=12/\F=ii e/\MapJ a g M (d*12+e) wr) (fun F _=>12-(intOf F).toNat)
    ·exact⟨0,Z3 _,rfl,HI.o⟩
    obtain⟨e,hx,rfl,i⟩:=hrel
    by_cases ag:e<12
    ·have cj:(e:Int)<12:=qo;have bq:(a[d*13+e]'qo).toNat=eP a (d*12+e):=be.o d e af ag;have u:=i.m;have q:=i.b;have w:∀f,f<148->(wr.cell? ⟨g+1,f,none⟩).isSome=true:=λf W=>by rw[aB u];simp[gN,fS];omega
     have y:∀f,wr.frozen? ⟨g+1,f,none⟩=false:=λf=>aV u;obtain⟨cn,cg⟩:=Zq4.1 (w (d*12+e) qo);have ck:=y (d*12+e);have L:=aA u;have H:=aA q;have Q:=aA i;have br:=NO a (d*12+e);have V:=RF (gr a) (d*12+e) (fS (pos a 0 (d*12+e)) (pos a 1 (d*12+e))) qo;have ab:=aA V;obtain⟨c,E⟩:=nn (d*12+e);have J:=aA i.k;have bz:=kI a 0 c;have cb:=kI a 1 c;rw[E]at bq L H Q br ab J;have I:=aA E;have bj:c<144:=qo;have Zr:((c%12:Nat):Int)=e/\((c/12:Nat):Int)=d:=qo;have ac:=aA Zr;clear Zr;obtain h|⟨bh,h,cc,cd⟩|h|h:=yM (eP a c)
     ·have C:Hi (¬r):=by
       show ¬r
       rw[S.o];intro t;have:=t.2.2.1 c bj;unfold kn at this;rw[h]at this;cases this
      have D:=aA h;have O:=Q.o.fr;have ah:=O.heap hA qt;clear i HI u q w y h V E;have p:=aA ah
      go_wp2_with (first|(go_at_call 120;refine(tI _ _ qo qo).mono ?_;rintro j w1 ⟨rfl,rfl⟩;rw[D.o])|(refine wpList_store_row rfl 162 _ _ rfl g zeroCells162 rfl rfl 162 zeroCells162 p.o zI zS zO ?_))
      refine Zq8 (v:=.tuple #[.agg zeroCells162,.bool false]) (cD results76 _ _ g 162 zeroCells162 (0,0) _ _ rfl rfl (Qz4 _ _ _ _ _ _ p.o) Xq5 rfl zI) rfl ⟨.inr ⟨C.o,rfl⟩,(ad.trans O qt).setRow _ _ (.inr ae)⟩
     ·have n:gr a c=bh:=by unfold gr;rw[h]
      have s:ow a c = -1:=by unfold ow;rw[h]
      have R:Hi (kn a c=true):=by show kn a c=true;unfold kn;rw[h]
      have P:=aA n;have l:=aA s;have D:=aA h;clear i HI u q w y h V E n s
      go_wp2_with (go_at_call 120;refine(tI _ _ qo qo).mono ?_;rintro j w1 ⟨rfl,rfl⟩;rw[D.o])
      go_roundw
      ·refine⟨e+1,ag,by go_num,?_⟩;rw[show d*12+(e+1)=c+1 by have:=I.o;omega];have A:pos a 0 (c+1)=pos a 0 c/\pos a 1 (c+1)=pos a 1 c:=by unfold pos;rw[l.o,Z0 qd,Z0 qd];exact⟨by cases c<;>rfl,by cases c<;>rfl⟩
       have B:aN a 0 (c+1)=aN a 0 c/\aN a 1 (c+1)=aN a 1 c:=by unfold aN;rw[l.o,Z0 qd,Z0 qd];exact⟨by cases c<;>rfl,by cases c<;>rfl⟩
       refine⟨Q.o.fr.setCell _ _ qs,?_,?_,?_⟩
       ·rw[I.o,cJ L.o,A.1,A.2,<-ab.o,P.o]
       ·rw[Zz7 _ _ _ _ qs,H.o,B.1,B.2]
       intro f W
       by_cases j:f=c
       ·rw[j];exact R.o
       exact J.o f qo
      simp[intOf];omega
     ·have n:gr a c=0:=by unfold gr;rw[h]
      have s:ow a c=0:=by unfold ow;rw[h]
      have R:Hi (kn a c=true):=by show kn a c=true;unfold kn;rw[h]
      have P:=aA n;have l:=aA s;have D:=aA h;obtain⟨o4,bn⟩:=Zq4.1 (w 144 qo);obtain⟨o5,bo⟩:=Zq4.1 (w 145 qo);have bu:=y 144;have bv:=y 145;have bk:wr.cell? ⟨g+1+1,0,none⟩=some (ii (aN a 0 c)):=by rw[aB H.o];rfl
      have bl:wr.frozen? ⟨g+1+1,0,none⟩=false:=aV q;have j1:¬d*12+e=144:=qo;have j2:¬d*12+e=145:=qo;have j3:¬144=d*12+e:=qo;have j4:¬145=d*12+e:=qo;clear i HI u q w y h V E n s
      go_wp2_with (go_at_call 120;refine(tI _ _ qo qo).mono ?_;rintro j w1 ⟨rfl,rfl⟩;rw[D.o])
      go_roundw
      ·refine⟨e+1,ag,by go_num,?_⟩;rw[show d*12+(e+1)=c+1 by have:=I.o;omega];have A:pos a 0 (c+1)=c/\pos a 1 (c+1)=pos a 1 c:=⟨by unfold pos;rw[l.o,Q7 rfl],by unfold pos;rw[l.o,Z0 qd];cases c<;>rfl⟩;have B:aN a 0 (c+1)=aN a 0 c+1/\aN a 1 (c+1)=aN a 1 c:=⟨by rw[aN,l.o,Q7 rfl],by rw[aN,l.o,Z0 qd]⟩;refine⟨(((Q.o.fr.setCell _ _ qs).setCell _ _ qs).setCell _ _ qs).setCell _ _ qs,?_,?_,?_⟩
       ·rw[I.o,Zz7 _ _ _ _ qs,cJ (cJ (cJ L.o _ _) _ _) _ _];have n:=ab.o;rw[P.o]at n;have s:=rJ (gr a) (c+1) 0 (fS (pos a 0 c) (pos a 1 c)) (ii e);have e3:=rJ (gr a) (c+1) 1 ((fS (pos a 0 c) (pos a 1 c)).set 0 (ii e)) (ii d);have e4:((fS (pos a 0 c) (pos a 1 c)).set 0 (ii e)).set 1 (ii d)=fS (pos a 0 (c+1)) (pos a 1 (c+1)):=by rw[A.1,A.2];unfold fS;rw[ac.o.1,ac.o.2];rfl
        simp_all
       ·refine(cJ ((Zz7 _ _ _ _ qs).trans ((Zz7 _ _ _ _ qs).trans ((Zz7 _ _ _ _ qs).trans H.o))) _ _).trans ?_;rw[B.1,B.2];rfl
       intro f W
       by_cases j:f=c
       ·rw[j];exact R.o
       exact J.o f qo
      simp[intOf];omega
     have n:gr a c=0:=by unfold gr;rw[h]
     have s:ow a c=1:=by unfold ow;rw[h]
     have R:Hi (kn a c=true):=by show kn a c=true;unfold kn;rw[h]
     have P:=aA n;have l:=aA s;have D:=aA h;obtain⟨o4,bn⟩:=Zq4.1 (w 146 qo);obtain⟨o5,bo⟩:=Zq4.1 (w 147 qo);have bu:=y 146;have bv:=y 147;have bk:wr.cell? ⟨g+1+1,1,none⟩=some (ii (aN a 1 c)):=by rw[aB H.o];rfl
     have bl:wr.frozen? ⟨g+1+1,1,none⟩=false:=aV q;have j1:¬d*12+e=146:=qo;have j2:¬d*12+e=147:=qo;have j3:¬146=d*12+e:=qo;have j4:¬147=d*12+e:=qo;clear i HI u q w y h V E n s
     go_wp2_with (go_at_call 120;refine(tI _ _ qo qo).mono ?_;rintro j w1 ⟨rfl,rfl⟩;rw[D.o])
     go_roundw
     ·refine⟨e+1,ag,by go_num,?_⟩;rw[show d*12+(e+1)=c+1 by have:=I.o;omega];have A:pos a 1 (c+1)=c/\pos a 0 (c+1)=pos a 0 c:=⟨by unfold pos;rw[l.o,Q7 rfl],by unfold pos;rw[l.o,Z0 qd];cases c<;>rfl⟩;have B:aN a 1 (c+1)=aN a 1 c+1/\aN a 0 (c+1)=aN a 0 c:=⟨by rw[aN,l.o,Q7 rfl],by rw[aN,l.o,Z0 qd]⟩;refine⟨(((Q.o.fr.setCell _ _ qs).setCell _ _ qs).setCell _ _ qs).setCell _ _ qs,?_,?_,?_⟩
      ·rw[I.o,Zz7 _ _ _ _ qs,cJ (cJ (cJ L.o _ _) _ _) _ _];have n:=ab.o;rw[P.o]at n;have s:=rJ (gr a) (c+1) 2 (fS (pos a 0 c) (pos a 1 c)) (ii e);have e3:=rJ (gr a) (c+1) 3 ((fS (pos a 0 c) (pos a 1 c)).set 2 (ii e)) (ii d);have e4:((fS (pos a 0 c) (pos a 1 c)).set 2 (ii e)).set 3 (ii d)=fS (pos a 0 (c+1)) (pos a 1 (c+1)):=by rw[A.1,A.2];unfold fS;rw[ac.o.1,ac.o.2];rfl
       simp_all
      ·refine(cJ ((Zz7 _ _ _ _ qs).trans ((Zz7 _ _ _ _ qs).trans ((Zz7 _ _ _ _ qs).trans H.o))) _ _).trans ?_;rw[B.1,B.2];rfl
      intro f W
      by_cases j:f=c
      ·rw[j];exact R.o
      exact J.o f qo
     simp[intOf];omega
    have bs:e=12:=qo;subst bs;go_wp2;go_roundw
    ·refine⟨d+1,af,by go_num,by rw[show(d+1)*12=d*12+12 by omega];exact i,fun f W=>?_⟩
     by_cases j:f=d
     ·rw[j];exact bc.o
     exact aq.o f qo
    simp[intOf];omega
   have C:Hi (¬r):=by
    show ¬r
    rw[S.o];intro t;exact x (t.2.1 d af)
   have O:=HI.o.fr;have ah:=O.heap hA qt;have cf:¬((jA a d:Nat):Int)=10:=qo;clear x;have p:=aA ah
   go_wp2_with (refine wpList_store_row rfl 162 _ _ rfl g zeroCells162 rfl rfl 162 zeroCells162 p.o zI zS zO ?_)
   refine Zq8 (v:=.tuple #[.agg zeroCells162,.bool false]) (cD results76 _ _ g 162 zeroCells162 (0,0) _ _ rfl rfl (Qz4 _ _ _ _ _ _ p.o) Xq5 rfl zI) rfl ⟨.inr ⟨C.o,rfl⟩,(ad.trans O qt).setRow _ _ (.inr ae)⟩
  have bt:d=12:=qo;subst bt;have u:=i.m;have q:=i.b;obtain⟨n0,Y⟩:=nn (aN a 0 144);obtain⟨n1,aa⟩:=nn (aN a 1 144);have bx:wr.cell? ⟨g+1+1,0,none⟩=some (ii n0):=by rw[aB q,<-Y];rfl
  have Zs:wr.cell? ⟨g+1+1,1,none⟩=some (ii n1):=by rw[aB q,<-aa];rfl
  have L:=aA u;have ak:=i.fr;have J:=aA i.k;clear i u q;have bp:=ZZ n0 n1;have aj:=ak.heap hA qt
  by_cases x:n0=1/\n1=1
  ·obtain⟨rfl,rfl⟩:=x;have bf:Hi r:=by
    show r
    rw[S.o];exact⟨ao,aq.o,J.o,Y,aa⟩
   obtain⟨z,X⟩:=nm ((gN (gr a) 144++fS (pos a 0 144) (pos a 1 144)).toArray);have hM:wr.heap[g+1]?=some (.cells z 162):=by rw[X];exact L.o
   have an:z.size=148:=by rw[X];simp[gN,fS]
   have au:z.all (·.oneCell')=true:=by rw[X];exact IQ _ _ _ _
   have ba:=aA X;have ai:Hi ((prog.info? 162).map (·.size)=some z.size):=by
    show _=_
    rw[an];kernel_rfl
   have bg:Hi (zeroCells162.size=z.size):=by
    show _=_
    rw[an,zT];simp
   have bd:=aA au;have ap:=aA aj;have az:=aA hM;clear X an au aj hM Y aa
   go_wp2_with (first|(refine wpList_load_row rfl 162 _ rfl (g+1) rfl 162 z (0,0) _ az.o Xq5 rfl ai.o ?_)|(refine wpList_store_row rfl 162 _ _ rfl g z rfl rfl 162 zeroCells162 ap.o ai.o bg.o bd.o ?_))
   refine Zq8 (v:=.tuple #[.agg z,.bool true]) (cD results76 _ _ g 162 z (0,0) _ _ rfl rfl (Qz4 _ _ _ _ _ _ ap.o) Xq5 rfl ai.o) rfl ⟨.inl ⟨bf.o,by rw[ba.o]⟩,?_⟩;exact(ad.trans ak qt).setRow _ _ (.inr ae)
  have C:Hi (¬r):=by
   show ¬r
   rw[S.o];intro t;exact x ⟨Y.symm.trans t.2.2.2.1,aa.symm.trans t.2.2.2.2⟩
  have bi:(!(n0==1&&n1==1))=true:=by simp only[Bool.not_eq_true',Bool.and_eq_false_iff,beq_eq_false_iff_ne];omega
  simp only[bi]at bp;clear Y aa x;have p:=aA aj
  go_wp2_with (refine wpList_store_row rfl 162 _ _ rfl g zeroCells162 rfl rfl 162 zeroCells162 p.o zI zS zO ?_)
  refine Zq8 (v:=.tuple #[.agg zeroCells162,.bool false]) (cD results76 _ _ g 162 zeroCells162 (0,0) _ _ rfl rfl (Qz4 _ _ _ _ _ _ p.o) Xq5 rfl zI) rfl ⟨.inr ⟨C.o,rfl⟩,(ad.trans ak qt).setRow _ _ (.inr ae)⟩
 have C:Hi (¬r):=by
  show ¬r
  rw[S.o];intro t;exact ao t.1
 have ch:¬(a.size:Int)=156:=qo;clear ao;have ay:=aC k (.cells zeroCells162 162)
 delta Cs;go_in
 have p:=aA ay
 go_wp2_with (refine wpList_store_row rfl 162 _ _ rfl k.heap.size zeroCells162 rfl rfl 162 zeroCells162 p.o zI zS zO ?_)
 refine Zq8 (v:=.tuple #[.agg zeroCells162,.bool false]) (cD results76 _ _ k.heap.size 162 zeroCells162 (0,0) _ _ rfl rfl (Qz4 _ _ _ _ _ _ p.o) Xq5 rfl zI) rfl ⟨.inr ⟨C.o,rfl⟩,((r0 [] k).alloc _).setRow _ _ (.inr (Q9 _))⟩
variable {l:List UInt8} {a:Nat}
theorem yB{c:Bool}(d:(aM l c a).2=true):∀b,a<=b->(aM l c b).2=true
 |0,e=>by grind
 |b+1,e=>by
  by_cases f:a=b+1
  ·grind
  have:=yB d b qo;grind[aM]
def RP(c:Prop)(b:List UInt8)(e d:Nat)(a:Bool):Prop:=(a=false/\aM b false e=(b.drop d,false))\/(a=true/\c)
theorem qY(l:Prop)(g:Nat)(a:List UInt8)(f e:Nat)(h:Bool)(c:Int)(u:0<=c/\c<=1000000000)(k:World)(s:SC k g a e h)(b:RP l a f e h)(x:a.length<=2000000)(t:(aM a false (f+1)).2=true\/c<aD a false f->l):Cs 138 #[pt g,ii c] k λm r=>∃(d:Int) (j:Nat) (i:Bool),m=.returned (ii d)/\SC r g a j i/\RP l a (f+1) j i/\(i=false->d=aD a false f/\d<=c)/\(0<=d/\d<=1000000000)/\(h=true->i=true)/\Fr [g] k r:=by
 refine cm (NE g a e h c u k s qo) ?_;rintro m z ⟨d,rfl,q,w⟩;obtain⟨⟨rfl,p,n⟩,rfl,o⟩|⟨v,rfl,j,o⟩:=w
 ·obtain⟨_,b⟩|⟨m,_⟩:=b
  ·refine⟨_,_,_,rfl,o,.inl ⟨rfl,?_⟩,λ_=>⟨?_,n⟩,by omega,qg,q⟩
   ·show(_,_)=_
    rw[b];dsimp only;rw[drop_drop,show((aT (a.drop e)).2==0)=false from by grind];rfl
   grind[aD]
  grind
 refine⟨0,j,true,rfl,o,.inr ⟨rfl,?_⟩,qg,by omega,λ_=>rfl,q⟩;obtain⟨rfl,b⟩|⟨_,y⟩:=b
 ·refine t ?_
  by_cases p:0<(aT (a.drop e)).2
  ·refine .inr ?_;unfold aD;rw[b];exact Int.not_le.1 (λn=>v ⟨rfl,p,n⟩)
  grind[aM]
 omega
theorem UR{n:Type}{a:List n}(m:a.length=11):∃b c e f g h i j k l d,a=[b,c,e,f,g,h,i,j,k,l,d]:=by
 match a,m with
 |[b,c,e,f,g,h,i,j,k,l,d],_=>grind
structure SU (R:Prop) (W:World) (sb:Nat) (l:List UInt8) (n j:Nat) (v:Value) (wr:World):Prop where
 all:∃(xs:List Int) (k':Nat) (bad':Bool),xs.length=j/\wr.ownsRow W.heap.size 3 1 v j (xs.map ii)/\(∀x∈xs,0<=x/\x<=1000000000)/\SC wr sb l k' bad'/\RP R l (n+j) k' bad'/\(bad'=false->∀f (h:f<xs.length),xs[f]=aD l false (n+f))
 fr:Fr [sb] W wr
theorem Hd(V:Prop)(u:Nat)(e:List UInt8)(A ar:Nat)(ah:Bool)(a:World)(ab:SC a u e ar ah)(hp:RP V e A ar ah)(hl:e.length<=2000000)(hR:(aM e false (A+11)).2=true->V):Cs 139 #[.pointer (so u)] a λB f=>∃(X:U) (O:Nat) (Q:Bool),B=.returned X.val/\SC f u e O Q/\RP V e (A+11) O Q/\(Q=false->X=iF (λN=>aD e false (A+N)))/\(∀x∈X.qN,0<=x/\x<=1000000000)/\Fr [u] a f:=by
 obtain⟨g,hW⟩:∃g,g=a.alloc (.cells zeroU.arr 85):=⟨_,rfl⟩
 have aj:Fr [] a g:=by rw[hW];exact(Fr.refl _ _).alloc _
 have bm:g.heap.size=a.heap.size+1:=by rw[hW];simp
 have ay:g.heap[a.heap.size]?=some (.cells zeroU.arr 85):=by rw[hW];exact aC _ _
 have ae:=ab.lt
 have bv:a.heap.size≠u:=by omega
 have an:SU V g u e A 0 (.slice none 0 0) g:=⟨⟨[],ar,ah,rfl,⟨rfl,.inl ⟨rfl,rfl⟩⟩,by simp,ab.fr aj (by simp),hp,λ_ N hf=>by simp at hf⟩,Fr.refl _ _⟩
 have bg:Hi (∀{c O:Nat} {Q:Bool} {w1:World},c<11->SC w1 u e O Q->RP V e (A+c) O Q->Cs 138 #[.pointer (so u),.int .i64 1000000000] w1 λB f=>∃(Y:Int) (O:Nat) (aa:Bool),B=.returned (.int .i64 Y)/\SC f u e O aa/\RP V e (A+c+1) O aa/\(aa=false->Y=aD e false (A+c)/\Y<=1000000000)/\(0<=Y/\Y<=1000000000)/\(Q=true->aa=true)/\Fr [u] w1 f):=λ{c} _ _ _ hj hs hp=>qY V u e _ _ _ 1000000000 (by omega) _ hs hp hl (λho=>hR (by
  obtain W|W:=ho
  ·exact yB W _ (by omega)
  have:=iR e false (A+c)
  omega))
 obtain⟨cd,bt,bz,cb,cc⟩:=info_parts pY
 have HI:Hi (∀h i k l m n p q r s j:Int,(prog.info? 85).map (·.size)=some (U.mk h i k l m n p q r s j).arr.size):=by intro _ _ _ _ _ _ _ _ _ _ _;show _=some 11;kernel_rfl
 have cf:=aA hp
 have be:=aA aj
 have bk:=aA bm
 have bj:=aA ay
 have au:=aA bv
 have bi:=aA ae
 clear ab hp aj hR ay
 go_enter func139,ntmps139
 go_wp2_with fail
 rw[<-hW]
 clear hW
 go_loopw [3,4] (fun Y aq wr=>∃c:Nat,c<=11/\aq=.int .i64 c/\SU V g u e A c Y wr) (fun _ aq _=>11-(intOf aq).toNat)
 case atStart=>exact⟨0,by omega,rfl,an⟩
 obtain⟨c,hj,rfl,⟨R,O,Q,af,hown,ao,bd,am,ap⟩,ad⟩:=hrel
 by_cases ae:c<11
 ·have cj:(c:Int)<11:=by omega
  clear an
  go_wp2_with fail
  refine Calls.mono (bg.o ae bd am) ?_
  rintro B w2 ⟨x,k2,aw,rfl,bx,bc,Zs,bn,bo,ai⟩
  have HN:Hi (∀(g:World) (c:Nat) (X:Value),[ii x][c]?=some X->(g.alloc (.cells #[.int .i64 x] 3)).cell? ((⟨g.heap.size,0,none⟩:Addr).add c)=some X):=by
   intro g c X hu
   have hj:c=0:=by
    have:=(gs.1 hu).1
    simp at this
    exact this
   subst hj
   rw[Addr.add_lit,aB (aC g _)]
   simpa using hu
  have ak:=λP (w:u3.ownBlock=some P)=>bT hown w
  have bb:∀P,u3.ownBlock=some P->P∉[u]:=λP w hc=>by have:=ak P w;simp at hc;omega
  have bh:Hi ((w2.alloc (.cells #[.int .i64 x] 3)).ownsRow g.heap.size 3 1 u3 c (R.map ii)):=aF (aF hown ai bb) ((Fr.refl [] w2).alloc _) (by simp)
  have Zq:=aA ak
  have cn:=(ad.trans ai (by simp)).size
  have co:(R.map ii).length=c:=by simp[af]
  have av:Hi ((∀ag∈R++[x],0<=ag/\ag<=1000000000)/\(aw=false->∀N (ab:N<(R++[x]).length),(R++[x])[N]=aD e false (A+N))):=by
   refine⟨λag hy=>?_,λw N hf=>?_⟩
   ·obtain W|W:=mem_append.1 hy
    ·exact ao ag W
    simp at W;subst W;exact bn
   by_cases ba:N<R.length
   ·rw[getElem_append_left ba]
    refine ap ?_ N ba
    obtain⟨B,_⟩|⟨B,cq⟩:=am
    ·exact B
    obtain⟨t,hq⟩|⟨t,_⟩:=bc
    ·exfalso
     exact absurd (bo B) (by rw[w];simp)
    rw[w]at t;cases t
   have bp:N=R.length:=by simp at hf;omega
   subst bp
   rw[getElem_append_right (Nat.le_refl _)]
   simp only[Nat.sub_self,List.getElem_cons_zero]
   rw[af]
   exact(Zs w).1
  clear hown ak bb ao ap
  go_wp2_with (at_builtin;refine wpList_append_own _ rfl _ _ 25 rfl g.heap.size 3 cd (ii 0) 1 8 underlying25 bt bz cb cc rfl (by decide) u3 c (R.map ii) rfl bh.o ⟨w2.heap.size,0,none⟩ 1 1 [ii x] rfl rfl (HN.o w2) (by simp[Value.oneCell']) (by unfold maxLen;omega) (by omega) (by simp;omega) ?_;intro v3 w3 bw bs ck)
  have az:Fr u3.ownBlock.toList w2 w3:=((Fr.refl _ _).alloc _).grow bs (λcg hg=>.inl (by simp[hg]))
  go_roundw
  case rel=>
   refine⟨c+1,ae,by go_num,⟨R++[x],k2,aw,by simp[af],by simpa using bw,av.o.1,?_,by rw[<-Nat.add_assoc];exact bc,av.o.2⟩,?_⟩
   ·exact bx.fr az (λhc=>by have:=Zq.o u (by simpa using hc);have:=bi.o;have:=bk.o;omega)
   exact(ad.trans ai (by simp)).trans az (λP w=>.inr (Zq.o P (by simpa using w)))
  case measure=>simp[intOf];omega
 have bu:c=11:=by omega
 subst bu
 obtain⟨h,i,k,l,m,n,p,q,r,s,j,rfl⟩:=UR af
 have v:wr.ownsRow g.heap.size 3 1 u3 ([h,i,k,l,m,n,p,q,r,s,j].map ii).length ([h,i,k,l,m,n,p,q,r,s,j].map ii):=hown
 obtain⟨b,q0,e0,c0⟩:=gT v (i:=0) (u:=ii h) rfl
 obtain⟨g1,q1,C,c1⟩:=gT v (i:=1) (u:=ii i) rfl
 obtain⟨g2,q2,t,c2⟩:=gT v (i:=2) (u:=ii k) rfl
 obtain⟨g3,q3,E,c3⟩:=gT v (i:=3) (u:=ii l) rfl
 obtain⟨g4,q4,F,c4⟩:=gT v (i:=4) (u:=ii m) rfl
 obtain⟨g5,q5,H,c5⟩:=gT v (i:=5) (u:=ii n) rfl
 obtain⟨g6,q6,I,c6⟩:=gT v (i:=6) (u:=ii p) rfl
 obtain⟨g7,q7,J,c7⟩:=gT v (i:=7) (u:=ii q) rfl
 obtain⟨g8,q8,L,c8⟩:=gT v (i:=8) (u:=ii r) rfl
 obtain⟨g9,q9,M,c9⟩:=gT v (i:=9) (u:=ii s) rfl
 obtain⟨ch,cp,D,ax⟩:=gT v (i:=10) (u:=ii j) rfl
 subst e0
 injection C with C _ _
 injection C with C
 injection C with C _ _
 subst C
 injection t with t _ _
 injection t with t
 injection t with t _ _
 subst t
 injection E with E _ _
 injection E with E
 injection E with E _ _
 subst E
 injection F with F _ _
 injection F with F
 injection F with F _ _
 subst F
 injection H with H _ _
 injection H with H
 injection H with H _ _
 subst H
 injection I with I _ _
 injection I with I
 injection I with I _ _
 subst I
 injection J with J _ _
 injection J with J
 injection J with J _ _
 subst J
 injection L with L _ _
 injection L with L
 injection L with L _ _
 subst L
 injection M with M _ _
 injection M with M
 injection M with M _ _
 subst M
 injection D with D _ _
 injection D with D
 injection D with D _ _
 subst D
 have bf:Hi (b∉[a.heap.size]):=by
  show ¬_
  have:=bT v (b:=b) rfl
  simp
  omega
 have d:=ad.heap bj.o (by simp;exact au.o)
 clear an hown v
 go_wp2_with fail
 have K0:(wr.drew.cell? ⟨b,0,none⟩=some (ii h)/\wr.drew.cell? ⟨b,1,none⟩=some (ii i)/\wr.drew.cell? ⟨b,2,none⟩=some (ii k)/\wr.drew.cell? ⟨b,3,none⟩=some (ii l)/\wr.drew.cell? ⟨b,4,none⟩=some (ii m)/\wr.drew.cell? ⟨b,5,none⟩=some (ii n)/\wr.drew.cell? ⟨b,6,none⟩=some (ii p)/\wr.drew.cell? ⟨b,7,none⟩=some (ii q)/\wr.drew.cell? ⟨b,8,none⟩=some (ii r)/\wr.drew.cell? ⟨b,9,none⟩=some (ii s)/\wr.drew.cell? ⟨b,10,none⟩=some (ii j)):=⟨c0,c1,c2,c3,c4,c5,c6,c7,c8,c9,ax⟩
 clear c0 c1 c2 c3 c4 c5 c6 c7 c8 c9 ax
 refine wp_region_held_drew (S:=λf:World=>(f.cell? ⟨b,0,none⟩=some (ii h)/\f.cell? ⟨b,1,none⟩=some (ii i)/\f.cell? ⟨b,2,none⟩=some (ii k)/\f.cell? ⟨b,3,none⟩=some (ii l)/\f.cell? ⟨b,4,none⟩=some (ii m)/\f.cell? ⟨b,5,none⟩=some (ii n)/\f.cell? ⟨b,6,none⟩=some (ii p)/\f.cell? ⟨b,7,none⟩=some (ii q)/\f.cell? ⟨b,8,none⟩=some (ii r)/\f.cell? ⟨b,9,none⟩=some (ii s)/\f.cell? ⟨b,10,none⟩=some (ii j))) (by kernel_rfl) K0 (λhH=>?_)
 refine(show wpAnyH prog Region.Mode.any _ _ _ 35 (Array.replicate 35 false) _ _ from ?_)
 iterate 34 (refine tn 35 hH ?_;try simp only[Act.put,Z])
 refine rd 34 λK hK=>?_
 have Zr:=aA hK
 clear hK
 have r0:wr.cell? ⟨a.heap.size,0,none⟩=some (ii 0):=aB d
 have f0:wr.frozen? ⟨a.heap.size,0,none⟩=false:=aV d
 have r1:wr.cell? ⟨a.heap.size,1,none⟩=some (ii 0):=aB d
 have f1:wr.frozen? ⟨a.heap.size,1,none⟩=false:=aV d
 have r2:wr.cell? ⟨a.heap.size,2,none⟩=some (ii 0):=aB d
 have f2:wr.frozen? ⟨a.heap.size,2,none⟩=false:=aV d
 have r3:wr.cell? ⟨a.heap.size,3,none⟩=some (ii 0):=aB d
 have f3:wr.frozen? ⟨a.heap.size,3,none⟩=false:=aV d
 have r4:wr.cell? ⟨a.heap.size,4,none⟩=some (ii 0):=aB d
 have f4:wr.frozen? ⟨a.heap.size,4,none⟩=false:=aV d
 have r5:wr.cell? ⟨a.heap.size,5,none⟩=some (ii 0):=aB d
 have f5:wr.frozen? ⟨a.heap.size,5,none⟩=false:=aV d
 have r6:wr.cell? ⟨a.heap.size,6,none⟩=some (ii 0):=aB d
 have f6:wr.frozen? ⟨a.heap.size,6,none⟩=false:=aV d
 have r7:wr.cell? ⟨a.heap.size,7,none⟩=some (ii 0):=aB d
 have f7:wr.frozen? ⟨a.heap.size,7,none⟩=false:=aV d
 have r8:wr.cell? ⟨a.heap.size,8,none⟩=some (ii 0):=aB d
 have f8:wr.frozen? ⟨a.heap.size,8,none⟩=false:=aV d
 have r9:wr.cell? ⟨a.heap.size,9,none⟩=some (ii 0):=aB d
 have f9:wr.frozen? ⟨a.heap.size,9,none⟩=false:=aV d
 have ce:wr.cell? ⟨a.heap.size,10,none⟩=some (ii 0):=aB d
 have bl:wr.frozen? ⟨a.heap.size,10,none⟩=false:=aV d
 go_simp
 have h5:=set11 (v:=(⟨h,i,k,l,m,n,p,q,r,s,j⟩:U)) d
 have ac:Fr [a.heap.size] wr ((((((((((((wr).setCell ⟨a.heap.size,0,none⟩ (.int .i64 h)).setCell ⟨a.heap.size,1,none⟩ (.int .i64 i)).setCell ⟨a.heap.size,2,none⟩ (.int .i64 k)).setCell ⟨a.heap.size,3,none⟩ (.int .i64 l)).setCell ⟨a.heap.size,4,none⟩ (.int .i64 m)).setCell ⟨a.heap.size,5,none⟩ (.int .i64 n)).setCell ⟨a.heap.size,6,none⟩ (.int .i64 p)).setCell ⟨a.heap.size,7,none⟩ (.int .i64 q)).setCell ⟨a.heap.size,8,none⟩ (.int .i64 r)).setCell ⟨a.heap.size,9,none⟩ (.int .i64 s)).setCell ⟨a.heap.size,10,none⟩ (.int .i64 j)):=(Fr.refl _ _).set11 a.heap.size (⟨h,i,k,l,m,n,p,q,r,s,j⟩:U) (.inl (by simp))
 clear r0 f0 r1 f1 r2 f2 r3 f3 r4 f4 r5 f5 r6 f6 r7 f7 r8 f8 r9 f9 ce bl d
 generalize (((((((((((wr).setCell ⟨a.heap.size,0,none⟩ (.int .i64 h)).setCell ⟨a.heap.size,1,none⟩ (.int .i64 i)).setCell ⟨a.heap.size,2,none⟩ (.int .i64 k)).setCell ⟨a.heap.size,3,none⟩ (.int .i64 l)).setCell ⟨a.heap.size,4,none⟩ (.int .i64 m)).setCell ⟨a.heap.size,5,none⟩ (.int .i64 n)).setCell ⟨a.heap.size,6,none⟩ (.int .i64 p)).setCell ⟨a.heap.size,7,none⟩ (.int .i64 q)).setCell ⟨a.heap.size,8,none⟩ (.int .i64 r)).setCell ⟨a.heap.size,9,none⟩ (.int .i64 s)).setCell ⟨a.heap.size,10,none⟩ (.int .i64 j)=W5 at h5 ac |-
 have bq:b<wr.heap.size:=aI hH.1
 have br:=bf.o
 have y:∀c,W5.drew.cell? ⟨b,c,none⟩=wr.drew.cell? ⟨b,c,none⟩:=λc=>ac.cell _ _ bq br
 refine Zr.o _ _ (by rw[y,y,y,y,y,y,y,y,y,y,y];exact hH) (λhH=>?_)
 clear Zr K
 refine wpAnyH_done (by kernel_rfl) ?_ _
 go_wp2_with fail
 refine bodyPost_ret (v:=U.val (⟨h,i,k,l,m,n,p,q,r,s,j⟩:U)) (results_cell_row results139 _ _ a.heap.size 85 (U.arr (⟨h,i,k,l,m,n,p,q,r,s,j⟩:U)) (0,0) _ rfl h5 underlying85 rfl (HI.o h i k l m n p q r s j)) rfl ⟨(⟨h,i,k,l,m,n,p,q,r,s,j⟩:U),O,Q,rfl,bd.fr ac.drew (by simp;exact λB=>au.o B.symm),am,λw=>?_,λx hx=>ao x hx,?_⟩
 ·have z:=ap w
  have e0:=z 0 (by simp)
  have C:=z 1 (by simp)
  have t:=z 2 (by simp)
  have E:=z 3 (by simp)
  have F:=z 4 (by simp)
  have H:=z 5 (by simp)
  have I:=z 6 (by simp)
  have J:=z 7 (by simp)
  have L:=z 8 (by simp)
  have M:=z 9 (by simp)
  have D:=z 10 (by simp)
  simp only[List.getElem_cons_zero,List.getElem_cons_succ]at e0 C t E F H I J L M D
  rw[e0,C,t,E,F,H,I,J,L,M,D]
 exact((be.o.qO.trans ad (by simp)).trans ac (λP w=>.inr (by simp at w;omega))).drew
