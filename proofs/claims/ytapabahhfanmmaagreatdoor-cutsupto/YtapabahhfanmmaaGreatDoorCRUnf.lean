import Derived.Test.YtapabahhfanmmaaGreatDoorCTellS
import Derived.Test.YtapabahhfanmmaaGreatDoorCRefO
import Derived.Test.YtapabahhfanmmaaGreatDoorCIter
namespace Go.Proofs.YtapabahhfanmmaaGreatDoor
open Go.RowKit List Go.Proofs.Tryz
set_option maxHeartbeats 4000000
set_option maxRecDepth 100000
theorem Jp(b g e:Nat)(a:T)(c:World)(f:GS c b g e a)(j:∀m∈cG a,0<=m/\m<=1000000000)(p:a.us.length<=100):Cs 15 #[pt b] c (R0 c (.string ⟨(aQ a).toArray⟩)):=by
 have d:=aA (zJ g e a c f.row j p);obtain⟨gl,k⟩:=nm (aP a (.slice (so g) a.us.length e));have i:=f.all;rw[<-k]at d i;have l:gl.length=149:=by grind[eI]
 have HI:Hi ((prog.info? 90).map (·.size)=some gl.length):=by
  show _=_
  rw[dD,l]
 obtain⟨q,h⟩:=nm (aQ a);rw[<-h]at d |-;clear k l f h j
 delta Cs;go_in
 go_wp2_with (first|(go_at_call 39;refine(qZ b _).mono ?_;rintro n s ⟨rfl,rfl⟩)|(refine wpList_load_mid rfl 90 _ rfl b 0 rfl gl _ i X9 rfl HI.o ?_)|(go_at_call 38;refine cm d.o ?_;rintro n t ⟨rfl,r⟩))
 go_ret;simp_all
variable {t:T}
abbrev Tn:=List Cm×List Cm
def dR(b:T)(a:Tn):T:=(aO b (a.1.map aJ) (a.2.map aJ)).1
def cU(b:T)(a:Tn):List UInt8:=bE 1 (dG b.turn a.1 a.2)
structure GG (t:T):Prop where
 ok:GOk t
 os:OS t
 t0:0<=t.turn
theorem GG.play(b:GG t)(a:Tn)(d:t.turn<1000000000):GG (dR t a)/\(dR t a).turn=t.turn+1:=by have c:=nV b.ok (a.1.map aJ) (a.2.map aJ) d;have e:(dR t a).turn=t.turn+1:=c.tn;exact⟨⟨c.ok,qN b.ok b.os _ _,by have:=b.t0;omega⟩,e⟩
theorem pK(a:GG t)(c:t.turn<=1000000000):(aQ t).length<=20000:=by have:=jS (cG t) (λd b=>(nO a.ok a.os ⟨a.t0,c⟩ d b).2);have e:=a.ok.len;grind[oW,aQ]
variable {R:List Value} {a b:Nat} {H:TypeId} {v:Value} {w:World}
theorem jN{base:Nat}{size:Nat}(c:w.ownsRow base H size v b R)(j:a<=base):w.ownsRow a H size v b R:=by
 refine⟨c.1,?_⟩;obtain c|⟨f,d,e,g,i,h⟩:=c.2
 ·grind
 exact .inr ⟨f,d,e,g,qo,h⟩
theorem kS{base:Nat}{size:Nat}(c:w.ownsRow base H size v a R):∃b d,v=.slice b a d:=by
 obtain⟨rfl,rfl⟩|⟨g,e,f,rfl,_⟩:=c.2
 ·grind
 grind
abbrev zeroTurn:Array Value:=#[ii 0,.slice none 0 0,.slice none 0 0]
theorem sL:(prog.info? 106).map (·.size)=some 3:=qk
end Go.Proofs.YtapabahhfanmmaaGreatDoor
namespace Go.Proofs.YtapabahhfanmmaaGreatDoor
open Go.RowKit Classical List Go.Proofs.Tryz
set_option maxHeartbeats 4000000
set_option maxRecDepth 100000
variable {g:Cl} {a:Nat} {w x:World}
def jQ(a:Nat):Cl:=(((a%12:Nat):Int),((a/12:Nat):Int))
theorem CN(b:a<144):aE (jQ a).1 (jQ a).2=true:=by grind[bX,jQ]
theorem TC:ci (jQ a).1 (jQ a).2=a:=by grind[ci,jQ]
theorem uY(a:aE g.1 g.2=true):jQ (ci g.1 g.2)=g:=by grind[bX,jQ,ci]
theorem ST:∀b:Cl,aE b.1 b.2=true->ci b.1 b.2=a->b=jQ a:=λb d c=>by grind[uY]
structure DAt (w:World) (db:Nat) (F:Cl->Nat):Prop where
 cell:∀j,j<144->w.cell? ⟨db,j,none⟩=some (ii (F (jQ j):Nat))
 fz:∀j,w.frozen? ⟨db,j,none⟩=false
theorem DAt.at{b:Cl->Nat}(d:DAt w a b){c:Cl}(e:aE c.1 c.2=true):w.cell? ⟨a,ci c.1 c.2,none⟩=some (ii (b c:Nat)):=by grind[DAt.cell,eN,uY]
theorem DAt.same{c G:Cl->Nat}(d:DAt w a c)(e:∀b:Cl,aE b.1 b.2=true->G b=c b):DAt w a G:=⟨λg f=>by grind[CN,DAt.cell],d.fz⟩
theorem DAt.fr{S:List Nat}{d:Cl->Nat}(b:DAt w a d)(e:Fr S w x)(g:a∉S):DAt x a d:=by have f:=aI (b.cell 0 qo);exact⟨λc h=>by rw[e.cell _ _ f g];exact b.cell c h,λc=>by rw[e.frozen _ _ f g];exact b.fz c⟩
theorem DAt.set{d G:Cl->Nat}(i:DAt w a d)(c:Cl)(j:aE c.1 c.2=true)(e:Nat)(f:∀b:Cl,aE b.1 b.2=true->G b=if b=c then e else d b):DAt (w.setCell ⟨a,ci c.1 c.2,none⟩ (ii (e:Nat))) a G:=by refine⟨λh g=>?_,λh=>by grind[World.frozen?_setCell,DAt.fz]⟩;rw[f _ (CN g)];grind[ci,eA,DAt.cell,eN,uY,cE,TC]
theorem ZJ{free:Cl->Bool}{P:Nat->Cl->Prop}{n p:Nat}{c r:Int}{b:Int×Int}(f:sds[a]?=some b)(e:∀d:Cl,free d=true->aE d.1 d.2=true)(d:Cl):bM free P n p (bC c r (a+1)) d=if d=(c+b.1,r+b.2)/\free (c+b.1,r+b.2)=true/\bM free P n p (bC c r a) (c+b.1,r+b.2)=0 then n+1 else bM free P n p (bC c r a) d:=by grind[aE,mP,ZI,mO]
def oC(b:Cl->Nat)(c:Nat):Prop:=∃a:Cl,aE a.1 a.2=true/\b a=c
end Go.Proofs.YtapabahhfanmmaaGreatDoor
namespace Go.Proofs.YtapabahhfanmmaaGreatDoor
open Go.RowKit Classical List Go.Proofs.Tryz
set_option maxHeartbeats 4000000
set_option maxRecDepth 100000
variable {E F:Cl->Bool} {a:Nat} {w:World}
def eY(b c:Int)(d:Bool)(a:Cl):Bool:=if d then a.1==b&&a.2==c else bJ a.1 a.2 b c
def lJ(a:Cl->Nat):List Value:=(range 144).map λb=>ii (a (jQ b):Nat)
theorem tX(a:Cl->Nat):(lJ a).length=144:=by simp[lJ]
def gW(c b:Cl->Bool)(d:Nat)(a:Cl):Nat:=if ci a.1 a.2<d/\(c a&&b a)=true then 1 else 0
theorem VJ(b c:Cl->Bool)(a:Cl)(d:aE a.1 a.2=true):bM b (fR b c) 1 0 [] a=gW b c 144 a:=by grind[qB,gW,bW,eN,PB]
theorem VK{q:Cl}(d:aE q.1 q.2=true)(e:ci q.1 q.2=a)(b:Cl)(c:aE b.1 b.2=true):gW F E (a+1) b=if b=q then(if(F q&&E q)=true then 1 else 0)else gW F E a b:=by grind[gW,ci,bX]
theorem oD(a b:Nat):ci (a:Int) (b:Int)=b*12+a:=by grind[ci]
theorem wJ:(prog.info? 87).map (·.size)=some 144:=qk
theorem Kx:zeroCells87=Array.replicate 144 (ii 0):=qk
theorem zD(a:Cl->Nat):(lJ a).toArray.all (·.oneCell')=true:=by rw[all_toArray];apply all_eq_true.2;intro d b;obtain⟨c,_,rfl⟩:=Qk7.1 b;rfl
theorem DAt.range{b:Cl->Nat}(e:DAt w a b):w.rangeAt a 0 (lJ b):=λd g c=>by
 have f:d<144:=by grind[tX]
 unfold lJ at c;grind[DAt.cell]
theorem ZH(e:∀b:Cl,F b=true->aE b.1 b.2=true)(l:0<a)(i:¬oC (bM F (fR F E) a 144 []) (a+1)):FarX F E (bM F (fR F E) a 144 []):=by
 have n:∀c b,fR F E (c+1) b↔F b=true/\∃d,fR F E c d/\b∈aL d.1 d.2:=λc b=>zL e;have j:=λc b (g:fR F E c b)=>e b g.1;have m:∀b,bW (fR F E) (a+1) b≠a+1:=λb f=>by obtain⟨_,h,_⟩:=jX.1 f;exact i ⟨b,j _ _ h,by grind[sO]⟩
 have k:bM F (fR F E) a 144 []=bW (fR F E) a:=by grind[sO,bW,fR,IK,IJ]
 grind[DY]
theorem Fj(X pb bf:Nat)(V:T)(i j:Int)(s:Bool)(z:World)(Y:RG z X pb bf V)(h1:-1000<=i)(h2:i<=1000)(h3:-1000<=j)(h4:j<=1000):Cs 212 #[pt X,ii i,ii j,.bool s] z λk w'=>∃x:Cl->Nat,FarX (cH V.us V.bd) (eY i j s) x/\(∀c,x c<=146)/\k=.returned (.agg (lJ x).toArray)/\Fr [] z w':=by
 obtain⟨d,au⟩:=nm (cH V.us V.bd);have ac:∀c:Cl,d c=true->aE c.1 c.2=true:=by rw[au];exact EW
 have cc:Hi (∀(m t:Int) (C:World),RG C X pb bf V->Cs 184 #[pt X,ii m,ii t] C (R0 C (.bool (d (m,t))))):=λm t C hW=>by rw[au];exact tL X pb bf V m t C hW
 rw[<-au];obtain⟨e,hP⟩:=nm (fR d (eY i j s));have cu:Hi (∀f,0<f->¬oC (bM d e f 144 []) (f+1)->FarX d (eY i j s) (bM d e f 144 [])):=λf hm cq=>by rw[hP]at cq |-;exact ZH ac hm cq
 have ct:Hi (FarX d (eY i j s) (bM d e 145 0 [])):=by
  show FarX _ _ _
  have he:bM d e 145 0 []=bW e 145:=funext λc=>qB 145 c;rw[he,hP];exact DY ac qo (.inl rfl)
 have HS:Hi (∀g c,e (g+1) c↔d c=true/\∃b,e g b/\c∈aL b.1 b.2):=by rw[hP];exact λg c=>zL ac
 have HW:Hi (∀g c,e g c->aE c.1 c.2=true):=by rw[hP];exact λg c Y=>ac c Y.1
 have H1:Hi (∀c:Cl,aE c.1 c.2=true->bM d e 1 0 [] c=gW d (eY i j s) 144 c):=by rw[hP];exact VJ d (eY i j s)
 have cb:=aA ac;clear au hP ac;have dm:=Y.lt;have Zt:=Y.row.lt
 delta Cs;go_in
 go_wp2_with fail
 obtain⟨A,aj⟩:=nm ((z.alloc (.cells zeroCells87 87)).alloc (.cells zeroCells87 87));rw[<-aj];have bt:Fr [] z A:=by rw[aj];exact((r0 _ _).alloc _).alloc _
 have cr:A.heap[z.heap.size]?=some (.cells zeroCells87 87):=by rw[aj];exact dW _ _ _
 have ar:A.heap[z.heap.size+1]?=some (.cells zeroCells87 87):=by rw[aj];exact cZ _ _ _
 obtain⟨h,bj⟩:=nm (z.heap.size+1);rw[<-bj]at ar |-;have cn:DAt A h (gW d (eY i j s) 0):=by refine⟨λdh hj=>?_,λdh=>aV ar⟩;rw[aB ar,Kx];unfold gW;rw[Z0 qo];simp[hj]
 have cw:=(show Hi _ from Y.qF bt);have n1:X≠h:=qo;have n2:pb≠h:=qo;have n3:z.heap.size≠h:=qo;have cf:=aA (λC (D:Fr [h] A C)=>cw.o.fr D (qu n1) (qu n2));have ce:=aA cr;have bz:=aA (λC (D:Fr [h] A C)=>bt.trans D qt);have di:=aA bj;clear aj cr ar bt Y bj
 go_loopw [10] (fun r wr=>∃a:Nat,a<=12/\r=ii a/\Fr [h] A wr/\DAt wr h (gW d (eY i j s) (a*12))) (fun r _=>12-(intOf r).toNat)
 ·exact⟨0,by omega,rfl,r0 _ _,by rw[Zk0];exact cn⟩
 obtain⟨a,hr,rfl,F,y⟩:=hrel;clear cn
 by_cases br:a<12
 ·have bs:(a:Int)<12:=qo;go_wp2
  go_loopw [11] (fun r wr=>∃c:Nat,c<=12/\r=ii c/\Fr [h] A wr/\DAt wr h (gW d (eY i j s) (a*12+c))) (fun r _=>12-(intOf r).toNat)
  ·exact⟨0,by omega,rfl,F,y⟩
  obtain⟨c,hc,rfl,L,E⟩:=hrel;clear F y
  by_cases J:c<12
  ·have bg:(c:Int)<12:=qo
   go_wp2_with fail
   refine cm (cc.o c a _ (cf.o _ L)) ?_;rintro k w1 ⟨rfl,bl⟩
   go_wp2_with fail
   refine cm (tJ c a i j _ qo qo qo qo h1 h2 h3 h4) ?_;rintro k w2 ⟨rfl,rfl⟩;have ab:=L.qT bl;have ak:=E.fr bl qs;clear bl E L;have Q:aE (c:Int) (a:Int)=true:=bX.2 ⟨by omega,by omega,by omega,by omega⟩;have P:=ak.at (c:=((c:Int),(a:Int))) Q;dsimp only at P;rw[oD]at P;have dc:=ak.fz (a*12+c);have HN:Hi (∀b:Cl,aE b.1 b.2=true->gW d (eY i j s) (a*12+c+1) b=if b=((c:Int),(a:Int))then(if(d ((c:Int),(a:Int))&&eY i j s ((c:Int),(a:Int)))=true then 1 else 0)else gW d (eY i j s) (a*12+c) b):=λb R=>VK (q:=((c:Int),(a:Int))) Q (oD c a) b R;have W:Hi ((d ((c:Int),(a:Int))&&eY i j s ((c:Int),(a:Int)))=false->DAt w1 h (gW d (eY i j s) (a*12+(c+1)))):=λhe=>by
    refine ak.same (λb R=>?_);rw[show a*12+(c+1)=a*12+c+1 by omega,HN.o b R]
    by_cases k:b=((c:Int),(a:Int))
    ·rw[Q7 k,he,Z0 qs,k];unfold gW;rw[Z0];rintro⟨_,l⟩;rw[he]at l;cases l
    rw[Z0 k]
   have aq:Hi ((d ((c:Int),(a:Int))&&eY i j s ((c:Int),(a:Int)))=true->DAt (w1.setCell ⟨h,a*12+c,none⟩ (ii 1)) h (gW d (eY i j s) (a*12+(c+1)))):=λhe=>by
    have:=ak.set ((c:Int),(a:Int)) Q 1 (G:=gW d (eY i j s) (a*12+(c+1))) (λb R=>by rw[show a*12+(c+1)=a*12+c+1 by omega,HN.o b R,he,Q7 rfl])
    dsimp only at this;rw[oD]at this;exact this
   have w:Hi (eY i j s ((c:Int),(a:Int))=if s then((c:Int)==i&&(a:Int)==j)else bJ c a i j):=rfl;obtain⟨O,D⟩:=nn (d ((c:Int),(a:Int)));obtain⟨nr,bq⟩:=nn (bJ (c:Int) a i j);obtain⟨e1,cz⟩:∃O,((c:Int)==i)=O:=⟨_,rfl⟩;obtain⟨e2,da⟩:∃O,((a:Int)==j)=O:=⟨_,rfl⟩;rw[D]at W aq |-;rw[bq,cz,da]at w;rw[bq];rw[w.o]at W aq;clear w HN D bq ak;cases O
   ·go_wp2;go_roundw
    ·exact⟨c+1,J,by go_num,ab,W.o rfl⟩
    simp[intOf];omega
   cases s
   ·cases nr
    ·go_wp2;go_roundw
     ·exact⟨c+1,J,by go_num,ab,W.o rfl⟩
     simp[intOf];omega
    go_wp2;go_roundw
    ·exact⟨c+1,J,by go_num,ab.setCell _ _ (.inl qs),aq.o rfl⟩
    simp[intOf];omega
   cases e1
   ·go_wp2;go_roundw
    ·exact⟨c+1,J,by go_num,ab,W.o rfl⟩
    simp[intOf];omega
   cases e2
   ·go_wp2;go_roundw
    ·exact⟨c+1,J,by go_num,ab,W.o rfl⟩
    simp[intOf];omega
   go_wp2;go_roundw
   ·exact⟨c+1,J,by go_num,ab.setCell _ _ (.inl qs),aq.o rfl⟩
   simp[intOf];omega
  have bg:¬(c:Int)<12:=qo;have HC:Hi (DAt wr h (gW d (eY i j s) ((a+1)*12))):=by
   have:(a+1)*12=a*12+c:=qo
   show DAt _ _ _
   rw[this];exact E
  clear E;go_wp2;go_roundw
  ·exact⟨a+1,br,by go_num,L,HC.o⟩
  simp[intOf];omega
 have bs:¬(a:Int)<12:=qo;have Zs:Hi (DAt wr h (bM d e 1 0 [])):=by have ax:a*12=144:=qo;rw[ax]at y;exact y.same H1.o
 clear y H1;go_wp2
 go_loopw [14] (fun r wr=>∃f:Nat,0<f/\f<=145/\r=ii f/\Fr [h] A wr/\DAt wr h (bM d e f 0 [])) (fun r _=>145-(intOf r).toNat)
 ·exact⟨1,by omega,by omega,rfl,F,Zs.o⟩
 obtain⟨f,aw,hm,rfl,Zr,am⟩:=hrel;clear Zs F
 by_cases dn:f<=144
 ·have df:(f:Int)<=144:=qo;go_wp2
  go_loopw [15,16] (fun mo r wr=>∃(a:Nat) (B:Bool),a<=12/\r=ii a/\mo=.bool B/\(B=true↔oC (bM d e f (a*12) []) (f+1))/\Fr [h] A wr/\DAt wr h (bM d e f (a*12) [])) (fun _ r _=>12-(intOf r).toNat)
  ·exact⟨0,false,by omega,rfl,rfl,⟨λk=>(by cases k),λ⟨b,_,k⟩=>absurd k (by rw[Zk0,qB];have:=wS (P:=e) f b;omega)⟩,Zr,by rw[Zk0];exact am⟩
  obtain⟨a,B,dp,rfl,rfl,hB,F,y⟩:=hrel;clear am Zr
  by_cases br:a<12
  ·have bs:(a:Int)<12:=qo;have bu:=aA hB;clear hB;go_wp2
   go_loopw [15,17] (fun mo r wr=>∃(c:Nat) (B:Bool),c<=12/\r=ii c/\mo=.bool B/\(B=true↔oC (bM d e f (a*12+c) []) (f+1))/\Fr [h] A wr/\DAt wr h (bM d e f (a*12+c) [])) (fun _ r _=>12-(intOf r).toNat)
   ·exact⟨0,B,by omega,rfl,rfl,bu.o,F,y⟩
   obtain⟨c,B1,hc,rfl,rfl,ch,L,E⟩:=hrel;clear F y bu;have ao:=aA ch;clear ch
   by_cases J:c<12
   ·have bg:(c:Int)<12:=qo;have Q:aE (c:Int) (a:Int)=true:=bX.2 ⟨by omega,by omega,by omega,by omega⟩;have P:=E.at (c:=((c:Int),(a:Int))) Q;dsimp only at P;rw[oD]at P;obtain⟨q,hg⟩:=nn (bM d e f (a*12+c) [] ((c:Int),(a:Int)));rw[hg]at P;have ap:=(show Hi _ from(ZG (free:=d) (P:=e) aw (a*12+c) [] ((c:Int),(a:Int))));rw[hg]at ap;have cd:Hi (∀b:Cl,aE b.1 b.2=true->ci b.1 b.2=a*12+c->b=((c:Int),(a:Int))):=λb R k=>by rw[ST b R k];unfold jQ;apply Prod.ext<;>dsimp only<;>omega
    clear hg
    by_cases cp:q=f
    ·subst cp;have HQ:=(show Hi _ from ap.o.1 rfl);have co:DAt wr h (bM d e q (a*12+c) (bC c a 0)):=E;have ck:B1=true↔oC (bM d e q (a*12+c) (bC c a 0)) (q+1):=ao.o;have bw:=aA ck;clear ap E ao ck;go_wp2
     go_loopw [15,18] (fun mo r wr=>∃(g:Nat) (B:Bool),g<=4/\r=ii g/\mo=.bool B/\(B=true↔oC (bM d e q (a*12+c) (bC c a g)) (q+1))/\Fr [h] A wr/\DAt wr h (bM d e q (a*12+c) (bC c a g))) (fun _ r _=>4-(intOf r).toNat)
     ·exact⟨0,B1,by omega,rfl,rfl,bw.o,L,co⟩
     obtain⟨g,B2,hk,rfl,rfl,cj,Zq,bk⟩:=hrel;clear L co bw P;have az:=aA cj;clear cj
     by_cases av:g<4
     ·have dd:(g:Int)<4:=qo;obtain⟨M,hs⟩:∃M,sds[g]?=some M:=⟨_,Y2 (show g<sds.length from av)⟩;have dg:-1<=M.1/\M.1<=1 /\ -1<=M.2/\M.2<=1:=by have h5:g=0\/g=1\/g=2\/g=3:=qo;obtain rfl|rfl|rfl|rfl:=h5<;>(simp[sds]at hs;subst hs;decide)
      have ba:=(show Hi _ from λC:World=>tN (c:Int) (a:Int) g M C hs qo qo qo qo);have H:=(show Hi _ from λb:Cl=>ZJ (free:=d) (P:=e) (n:=q) (p:=a*12+c) (c:=(c:Int)) (r:=(a:Int)) hs cb.o b);obtain⟨m,hz⟩:∃m,(c:Int)+M.1=m:=⟨_,rfl⟩;obtain⟨t,hv⟩:∃m,(a:Int)+M.2=m:=⟨_,rfl⟩;rw[hz,hv]at ba H;have dq:-1<=m/\m<=12 /\ -1<=t/\t<=12:=qo;clear hz hv hs dg
      go_wp2_with fail
      refine cm (ba.o _) ?_;rintro k w1 ⟨rfl,rfl⟩
      go_wp2_with fail
      refine cm (cc.o m t _ (cf.o _ Zq)) ?_;rintro k w2 ⟨rfl,bm⟩;have bn:=Zq.qT bm;have aa:=bk.fr bm qs;clear Zq bk bm ba;obtain⟨O,D⟩:=nn (d (m,t));rw[D]at H |-;cases O
      ·have w:Hi (∀b:Cl,bM d e q (a*12+c) (bC c a (g+1)) b=bM d e q (a*12+c) (bC c a g) b):=λb=>by rw[H.o b,Z0 (by rintro⟨_,l,_⟩;cases l)]
       clear H D;go_wp2;go_roundw
       ·exact⟨g+1,B2,av,by go_num,rfl,az.o.trans ⟨fun⟨b,l,u⟩=>⟨b,l,by rw[w.o];exact u⟩,fun⟨b,l,u⟩=>⟨b,l,by rw[w.o]at u;exact u⟩⟩,bn,aa.same (fun b _=>w.o b)⟩
       simp[intOf];omega
      have ay:aE m t=true:=cb.o (m,t) D;obtain⟨p0,p1,p2,p3⟩:=bX.1 ay;have bi:=aa.at (c:=(m,t)) ay;have bh:ci m t=t.toNat*12+m.toNat:=by unfold ci;omega
      dsimp only at bi;rw[bh]at bi;have dc:=aa.fz (t.toNat*12+m.toNat);have cg:=aA ay;have cs:=aA bh;obtain⟨g2,bp⟩:=nn (bM d e q (a*12+c) (bC c a g) (m,t));rw[bp]at bi H;have dj:=aA bp;clear bp ay bh D
      by_cases bo:g2=0
      ·subst bo;have w:Hi (∀b:Cl,bM d e q (a*12+c) (bC c a (g+1)) b=if b=(m,t)then q+1 else bM d e q (a*12+c) (bC c a g) b):=λb=>by
        rw[H.o b]
        by_cases k:b=(m,t)
        ·rw[Q7 ⟨k,rfl,rfl⟩,Q7 k]
        rw[Z0 (λl=>k l.1),Z0 k]
       have cy:Hi (DAt (w2.setCell ⟨h,t.toNat*12+m.toNat,none⟩ (ii ((q:Int)+1))) h (bM d e q (a*12+c) (bC c a (g+1)))):=by have:=aa.set (m,t) cg.o (q+1) (G:=bM d e q (a*12+c) (bC c a (g+1))) (λb _=>w.o b);dsimp only at this;rw[cs.o]at this;exact this
       clear H aa;go_wp2;go_roundw
       ·exact⟨g+1,true,av,by go_num,rfl,⟨fun _=>⟨(m,t),cg.o,by rw[w.o,Q7 rfl]⟩,fun _=>rfl⟩,bn.setCell _ _ (.inl qs),cy.o⟩
       simp[intOf];omega
      have dk:((g2:Int)==0)=false:=by simpa using bo
      have w:Hi (∀b:Cl,bM d e q (a*12+c) (bC c a (g+1)) b=bM d e q (a*12+c) (bC c a g) b):=λb=>by rw[H.o b,Z0 (λl=>bo l.2.2)]
      clear H;go_wp2;go_roundw
      ·exact⟨g+1,B2,av,by go_num,rfl,az.o.trans ⟨fun⟨b,l,u⟩=>⟨b,l,by rw[w.o];exact u⟩,fun⟨b,l,u⟩=>⟨b,l,by rw[w.o]at u;exact u⟩⟩,bn,aa.same (fun b _=>w.o b)⟩
      simp[intOf];omega
     have dd:¬(g:Int)<4:=qo;have cx:Hi (g=4):=by show _=_;omega
     have I:Hi (∀b:Cl,bM d e q (a*12+(c+1)) [] b=bM d e q (a*12+c) (bC c a g) b):=λb=>by rw[cx.o,sS];exact IM (q:=((c:Int),(a:Int))) Q (oD c a) cd.o (.inl ⟨HQ.o,rfl⟩) b
     go_wp2;go_roundw
     ·exact⟨c+1,B2,J,by go_num,rfl,az.o.trans ⟨fun⟨b,l,u⟩=>⟨b,l,by rw[I.o];exact u⟩,fun⟨b,l,u⟩=>⟨b,l,by rw[I.o]at u;exact u⟩⟩,Zq,bk.same (fun b _=>I.o b)⟩
     simp[intOf];omega
    have dl:((q:Int)==(f:Int))=false:=qt;have I:Hi (∀b:Cl,bM d e f (a*12+(c+1)) [] b=bM d e f (a*12+c) [] b):=fun b=>IM (q:=((c:Int),(a:Int))) Q (oD c a) cd.o (.inr ⟨fun k=>cp (ap.o.2 k),rfl⟩) b;go_wp2;go_roundw
    ·exact⟨c+1,B1,J,by go_num,rfl,ao.o.trans ⟨fun⟨b,l,u⟩=>⟨b,l,by rw[I.o];exact u⟩,fun⟨b,l,u⟩=>⟨b,l,by rw[I.o]at u;exact u⟩⟩,L,E.same (fun b _=>I.o b)⟩
    simp[intOf];omega
   have bg:¬(c:Int)<12:=qo;have bx:Hi (a*12+c=(a+1)*12):=by show _=_;omega
   go_wp2;go_roundw
   ·exact⟨a+1,B1,br,by go_num,rfl,by rw[<-bx.o];exact ao.o,L,by rw[<-bx.o];exact E⟩
   simp[intOf];omega
  have bs:¬(a:Int)<12:=qo;have ax:a*12=144:=qo;rw[ax]at hB y;have bv:=aA hB;clear ax hB;cases B
  ·have ad:=(show Hi _ from cu.o f aw (λl=>by have:=bv.o.2 l;cases this));have ag:Hi (∀b,bM d e f 144 [] b<=146):=λb=>by rw[sO HS.o HW.o aw];have:=wS (P:=e) (f+1) b;omega
   obtain⟨x,hF⟩:=nm (bM d e f 144 []);rw[<-hF]at y ad ag;have an:=y.range;have N:=(show Hi _ from tX x);have ai:=(show Hi _ from zD x);obtain⟨v,S⟩:=nm (lJ x);rw[<-S]at an N ai;have bb:=aA S;have ae:Hi ((prog.info? 87).map (·.size)=some v.length):=by show _=_;rw[N.o];exact wJ
   have af:Hi ((prog.info? 87).map (·.size)=some v.toArray.size):=by show _=_;rw[Qx3];exact ae.o
   have HZ:Hi (zeroCells87.size=v.toArray.size):=by
    have k:v.toArray.size=144:=by rw[Qx3,N.o]
    show _=_
    rw[k];rfl
   have ah:=(show Hi _ from F.heap ce.o (qu n3));clear hF S bv y
   go_wp2_with (first
    |(refine wpList_load_mid rfl 87 _ rfl h 0 rfl v _ an underlying87 rfl ae.o ?_)
    |(refine wpList_store_row rfl 87 _ _ rfl z.heap.size v.toArray rfl rfl 87 zeroCells87 ah.o af.o HZ.o ai.o ?_))
   exact Zq8 (v:=.agg v.toArray) (Zz8 results212 _ _ z.heap.size 87 _ (0,0) _ rfl (Qz4 _ _ _ _ _ _ ah.o) underlying87 rfl af.o) rfl ⟨x,ad.o,λbc be=>ag.o (bc,be),by rw[bb.o],(bz.o _ F).setRow _ _ (.inr (Q9 _))⟩
  have I:Hi (∀b:Cl,aE b.1 b.2=true->bM d e (f+1) 0 [] b=bM d e f 144 [] b):=λb _=>by rw[qB,sO HS.o HW.o aw]
  go_wp2;go_roundw
  ·exact⟨f+1,by omega,by omega,by go_num,F,y.same I.o⟩
  simp[intOf];omega
 have df:¬(f:Int)<=144:=qo;have de:f=145:=qo;have ad:Hi (FarX d (eY i j s) (bM d e f 0 [])):=by rw[de];exact ct.o
 have ag:Hi (∀b,bM d e f 0 [] b<=146):=λb=>by rw[qB];have:=wS (P:=e) f b;omega
 obtain⟨x,hF⟩:=nm (bM d e f 0 []);rw[<-hF]at am ad ag;have an:=am.range;have N:=(show Hi _ from tX x);have ai:=(show Hi _ from zD x);obtain⟨v,S⟩:=nm (lJ x);rw[<-S]at an N ai;have bb:=aA S;have ae:Hi ((prog.info? 87).map (·.size)=some v.length):=by show _=_;rw[N.o];exact wJ
 have af:Hi ((prog.info? 87).map (·.size)=some v.toArray.size):=by show _=_;rw[Qx3];exact ae.o
 have HZ:Hi (zeroCells87.size=v.toArray.size):=by
  have k:v.toArray.size=144:=by rw[Qx3,N.o]
  show _=_
  rw[k];rfl
 have ah:=(show Hi _ from Zr.heap ce.o (qu n3));clear hF S am
 go_wp2_with (first
  |(refine wpList_load_mid rfl 87 _ rfl h 0 rfl v _ an underlying87 rfl ae.o ?_)
  |(refine wpList_store_row rfl 87 _ _ rfl z.heap.size v.toArray rfl rfl 87 zeroCells87 ah.o af.o HZ.o ai.o ?_))
 exact Zq8 (v:=.agg v.toArray) (Zz8 results212 _ _ z.heap.size 87 _ (0,0) _ rfl (Qz4 _ _ _ _ _ _ ah.o) underlying87 rfl af.o) rfl ⟨x,ad.o,λbc be=>ag.o (bc,be),by rw[bb.o],(bz.o _ Zr).setRow _ _ (.inr (Q9 _))⟩
end Go.Proofs.YtapabahhfanmmaaGreatDoor
namespace Go.Proofs.YtapabahhfanmmaaGreatDoor
open Go.RowKit Go.Maps Go.Sort List Go.Proofs.Tryz
set_option maxHeartbeats 4000000
set_option maxRecDepth 100000
variable {a:Nat} {V:Nm} {w:World}
theorem YG(b:V.length<=1000000000):Go.keyOf prog 9 (sv V)=some (.string V):=by
 have a:=Qq4;have:(⟨V.toArray⟩:ByteArray).size<=maxLen:=by show V.length<=maxLen;unfold maxLen;omega
 simp[Go.keyOf,mapKey,a,this]
theorem MapS.keys{k:Nm->Option Value}(A:MapS w a k){ns:List Nm}(v:∀b,(k b).isSome=true->b∈ns/\b.length<=1000000000)(J:ns.length<=1000000000):∃(i:List Nm) (m:DataW Unit),w.ownsMap prog 9 (λ_=>some (.lit (.bool true),[])) a i.length m/\(strKeys m).Perm i/\Maps.size m=i.length/\i.Nodup/\i.length<=ns.length/\∀b,b∈i↔(k b).isSome=true:=by
 obtain⟨d,f,y,B,o,u,E,I⟩:=A;have p:∀b,b∈d.map (·.1)↔(k b).isSome=true:=qg;have s:f.size=d.length:=by have:=V3 length o;simpa using this
 have r:=xD (d.map (·.1)) ns u (λb j=>(v b ((p b).1 j)).1);rw[Qq1]at r;have C:∀c∈f.toList,∃b,b∈d.map (·.1)/\c.key=sv b:=λc g=>by
  have:(c.key,c.val)∈d.map λe=>(sv e.1,e.2):=by rw[<-o];exact Zk5 g
  obtain⟨e,l,z⟩:=Qk7.1 this;exact⟨e.1,Zk5 l,(Prod.mk.inj z).1.symm⟩
 have x:∀c∈f.toList,∀b,c.key=sv b->b∈d.map (·.1)->Go.WideElems.rd (H:=Unit) prog 9 (λ_=>some (.lit (.bool true),[])) c=some (.string b,.lit (.bool true)):=λc _ b j D=>by simp[Go.WideElems.rd,j,YG (v b ((p b).1 D)).2]
 have t:f.toList.map (Go.WideElems.rg (H:=Unit) prog 9 (λ_=>some (.lit (.bool true),[])))=d.map λe=>(Lit.string e.1,DataW.lit (.bool true)):=by
  have n:f.toList.map (·.key)=d.map λe=>sv e.1:=by have:=V3 (List.map Prod.fst) o;simpa[map_map,Function.comp_def]using this
  refine V8 λq=>?_;rw[V4,V4];have h:=V3 (λF=>F[q]?) n;rw[V4,V4]at h;cases g:f.toList[q]? with
  |none=>grind
  |some c=>
   rw[g]at h;cases l:d[q]? with
   |none=>grind
   |some e=>rw[l]at h;have j:=m9 h;simp only[Option.map_some];rw[Go.WideElems.rg_of (x c (Q8 g) e.1 j (Zk5 (Q8 l)))]
 refine⟨d.map (·.1),.map ((f.toList.map (Go.WideElems.rg prog 9 (λ_=>some (.lit (.bool true),[])))).foldr DataW.insert []),⟨f,y,B,⟨by rw[s];unfold maxLen;omega,E,λc g=>?_⟩,by rw[s,Qq1];exact Q9 _,rfl⟩,?_,?_,u,by rw[Qq1];exact r,p⟩
 ·obtain⟨b,n,h⟩:=C c g;exact⟨_,x c g b h n⟩
 ·rw[t];refine((WideShapes.sorted_perm _).map _).trans ?_;rw[map_map];exact List.Perm.refl _
 rw[t]
 show length _=_
 rw[(WideShapes.sorted_perm _).length_eq,Qq1,Qq1]
abbrev kM(b:Gf)(c:List Nm):List Value:=c.flatMap λa=>[sv a,sv (aX b a)]
theorem VQ(b:Gf){c:List Nm}(d:c[a]?=some V):kM b (c.take (a+1))=kM b (c.take a)++[sv V,sv (aX b V)]:=by grind[take_succ_eq_append_getElem]
theorem Iq(v:Nat)(u:List Value)(ty:TypeId)(Q au:Value)(ay:List Nat)(g:Gf)(bo:List Stp)(d:World)(j:SB d v u ty Q au)(D:SVE eQ d Q au ay g bo){ns:List Nm}(aq:∀a,(g a).isSome=true->a∈ns/\a.length<=1000000000)(bh:ns.length<=1000000000)(A:(g V).isSome=true):Cs 109 #[.pointer (some ⟨v,u.length,none⟩)] d λl f=>∃(W:Value) (b:List Nm),l=.returned W/\f.ownsRow d.heap.size 115 2 W b.length (kM g b)/\b.Nodup/\b.Pairwise (λp e=>p<=e)/\(∀a,a∈b↔(g a).isSome=true)/\b.length<=ns.length/\Fr [] d f:=by
 obtain⟨bn,bd,bk,bl,bm⟩:=Z2 (show(prog.info? 115).map (λh=>(h.zero,h.size,h.bytes))=some (some (.agg #[.string ⟨#[]⟩,.string ⟨#[]⟩]),2,32) by kernel_rfl);have z:∀a,((g a).map iJ).isSome=(g a).isSome:=λa=>by simp
 obtain⟨n,rfl,an⟩:∃n,Q=.map (some n)/\MapS d n (λa=>(g a).map iJ):=by
  obtain⟨_,m⟩|m:=D.map
  ·have:(g V).map iJ=none:=m V;rw[<-z,this]at A;cases A
  exact m
 obtain⟨kl,D0,ho,q,N,ap,B,C⟩:=an.keys (ns:=ns) (λa m=>aq a (by rwa[z]at m)) bh;simp only[z]at C;have I:=j.c0;have bg:=j.lt;have X:Hi (∀f a,Fr [] d f->Cs 49 #[.pointer (some ⟨v,u.length,none⟩),sv a] f (R1 f (sv (aX g a)))):=λf a J=>DL v u.length (.map (some n)) g a f ((J.cell v _ bg qs).trans I) ((D.qF J).map) ((D.qF J).fiv_own a qs)
 obtain⟨bu,ar⟩:=nm u.length;rw[<-ar]at X I |-;have ad:=sortedKeys n kl.length D0 (λ_=>some (.lit (.bool true),[])) d ho (by rw[N];unfold maxLen;omega) (by rw[N];omega);have ac:Hi (Cs 145 #[.func (.func 190) #[] #[.pointer (so d.heap.size)]] (d.alloc (.cells #[.map (some n)] 93)) λl f=>∃(i E:Nat) (b:List Nm),l=.returned (.slice (so i) b.length E)/\(∀(h:Nat) (a:Nm),b[h]?=some a->ca f i h (sv a))/\d.heap.size<i/\i<f.heap.size/\Fr [] d f/\b.Nodup/\b.Pairwise (λp e=>p<=e)/\(∀a,a∈b↔(g a).isSome=true)/\b.length<=ns.length):=Qx1 ad (by
  rintro l f ⟨W,o,rfl,hp,r,_,ba⟩;have t:(o.mergeSort (λk w=>decide (k<=w))).Perm kl:=(List.mergeSort_perm o _).trans (hp.trans q);have Zr:(o.mergeSort (λk w=>decide (k<=w))).length=o.length:=(List.mergeSort_perm o _).length_eq;obtain⟨b,aj⟩:=nm (o.mergeSort (λk w=>decide (k<=w)));rw[<-aj]at r t Zr;have bj:0<b.length:=by rw[t.length_eq];exact m4 ((C V).2 A)
  rw[<-Zr]at r;obtain⟨i,E,rfl⟩:=bK r bj;refine⟨i,E,b,rfl,λh a hi=>?_,?_,(r.lt i rfl).2,((r0 _ _).alloc _).qT (Fr.of_below ba),t.nodup_iff.2 ap,?_,λa=>(t.mem_iff).trans (C a),by rw[t.length_eq];exact B⟩
  ·have:=r.cells (g:=i) rfl h (sv a) (by rw[V4,hi];rfl);rwa[i7,Z9]at this
  ·have:=(r.lt i rfl).1;simp at this;omega
  rw[aj];exact(List.pairwise_mergeSort (λp e bp h1 h2=>by simp at h1 h2 |-;exact List.le_trans h1 h2) (λp e=>by simp;exact List.le_total p e) o).imp λm=>by simpa using m)
 have aa:=(show Hi _ from keysOf (some n) d);clear j D an ho q N ad ar C ap B aq z A
 delta Cs;go_in
 go_wp2_with fail
 refine cm aa.o ?_;rintro l w1 ⟨rfl,rfl⟩;clear aa I
 go_wp2_with fail
 refine cm ac.o ?_;rintro l w2 ⟨i,E,b,rfl,ai,bq,be,L,ae,af,ag,B⟩;have bs:=L.size;have x:=(show Hi _ from And.intro ae (And.intro af (And.intro ag B)));have aw:=aA ai;clear ac ae af ag ai;go_wp2
 go_loopw [3,13] (fun av h wr=>∃c:Nat,c<=b.length/\h=ii c/\wr.ownsRow d.heap.size 115 2 av c (kM g (b.take c))/\Fr [] w2 wr/\∀e,av.ownBlock=some e->w2.heap.size<=e) (fun _ h _=>b.length-(intOf h).toNat)
 ·exact⟨0,Z3 _,rfl,⟨rfl,.inl ⟨rfl,rfl⟩⟩,r0 _ _,by simp[Value.ownBlock]⟩
 obtain⟨c,hn,rfl,hown,s,Zq⟩:=hrel;obtain⟨H,P,rfl⟩:=fD hown
 by_cases am:c<b.length
 ·have bf:(c:Int)<(b.length:Int):=qo;obtain⟨a,q⟩:∃a,b[c]?=some a:=⟨b[c],Y2 am⟩;have hc:=(s.cell i c be qs).trans (aw.o c a q);have Y:=(show Hi _ from X.o wr a (L.qT s));have HT:=(show Hi _ from VQ g q);obtain⟨y,ah⟩:∃k:ByteArray,k=⟨(aX g a).toArray⟩:=⟨_,rfl⟩;obtain⟨F,ak⟩:∃k:ByteArray,k=⟨a.toArray⟩:=⟨_,rfl⟩;simp only[sv,<-ah,<-ak]at hc Y HT;have HN:Hi (∀(O:Nat) (S:Value),[Value.string F,.string y][O]?=some S->(wr.alloc (.cells #[.string F,.string y] 115)).cell? ((⟨wr.heap.size,0,none⟩:Addr).add O)=some S):=by intro O S hu;rw[i7,Z9,aB (aC wr _)];simpa using hu
  have ax:Hi ((wr.alloc (.cells #[.string F,.string y] 115)).ownsRow d.heap.size 115 2 (.slice H c P) c (kM g (b.take c))):=gY hown ((r0 [] wr).alloc _) qs;have ab:=aA Zq;have bt:=s.size;clear hown Zq ah ak q
  go_wp2_with (first
   |(go_at_call 49;refine cm Y.o ?_;rintro l w3 ⟨rfl,rfl⟩)
   |(at_builtin;refine wpList_append_own_at _ rfl _ _ 51 rfl d.heap.size 115 bn (.agg #[.string ⟨#[]⟩,.string ⟨#[]⟩]) 2 32 Qq6 bd bk bl bm rfl qd (.slice H c P) c _ rfl ax.o ⟨wr.heap.size,0,none⟩ 1 1 [.string F,.string y] rfl rfl HN.o qc qm qo qt ?_;intro v3 w3 bi bc br az))
  have bb:=(s.alloc _).grow bc (fun e j=>.inr (ab.o e j));go_roundw
  ·refine⟨c+1,am,by go_num,by rw[HT.o];exact bi,bb,fun e j=>?_⟩;obtain R|R:=az
   ·rw[R]at j;exact ab.o e j
   rw[R]at j;simp at j;omega
  simp[intOf];omega
 have bf:¬(c:Int)<(b.length:Int):=qo;have M:c=b.length:=qo;have HO:Hi (wr.ownsRow d.heap.size 115 2 (.slice H c P) b.length (kM g b)):=by have:=hown;rw[M,Zq1]at this;rw[M];exact this
 clear hown M;go_wp2;go_ret;exact⟨_,rfl,b,HO.o,x.o.1,x.o.2.1,x.o.2.2.1,x.o.2.2.2,L.qT s⟩
variable {B l:List UInt8}
theorem zA(c:List UInt8)(a b:Nat):Value.string ((⟨c.toArray⟩:ByteArray).extract a b)=.string ⟨((c.drop a).take (b-a)).toArray⟩:=by congr 1;apply n9;simp_all
theorem sM:dP l B=true↔B.take l.length=l:=by grind[dP]
theorem TP(c:UInt8)(a:List UInt8):cA c (75::c::a) = if(0<(aT a).2/\(aT a).1<=40000)/\2+(aT a).2+(aT a).1+4<=(75::c::a).length/\((75::c::a).drop (2+(aT a).2+(aT a).1)).take 4=cP ((75::c::a).take (2+(aT a).2+(aT a).1))then some (((75::c::a).drop (2+(aT a).2)).take (aT a).1,(75::c::a).drop (2+(aT a).2+(aT a).1+4))else none:=by
 obtain⟨d,b,f⟩:∃d b,aT a=(d,b):=qg;have g:=(nE a).1;rw[f]at g |-;dsimp only at g |-;have l:dP [75,c] (75::c::a)=true:=sM.2 rfl;have m:(75::c::a).drop 2=a:=rfl;have h:(75::c::a).drop (2+b)=a.drop b:=qg;have i:(75::c::a).drop (2+b+d)=(a.drop b).drop d:=by grind[drop_drop]
 have j:(75::c::a).drop (2+b+d+4)=((a.drop b).drop d).drop 4:=by grind[drop_drop]
 have n:(75::c::a).length=a.length+2:=rfl;unfold cA;rw[Q7 l,m,f,h,i,j,n];dsimp only
 by_cases e:b=0\/40000<d\/(a.drop b).length<d
 ·grind
 rw[Z0 e];rw[Qz2]at e;have k:a.length+2-((a.drop b).drop d).length=2+b+d:=qg;rw[k]
 by_cases o:((a.drop b).drop d).take 4=cP ((75::c::a).take (2+b+d))
 ·have p:dP (cP ((75::c::a).take (2+b+d))) ((a.drop b).drop d)=true:=sM.2 qg;grind[iI]
 grind[dP,cP]
theorem TQ{b:UInt8}(g:¬∃a,l=75::b::a):cA b l=none:=by
 unfold cA;rw[Z0];intro c;have:=sM.1 c
 match l,this with
 |d::e::a,f=>grind
def jC(a:List UInt8)(b:Option (List UInt8×List UInt8)):Value:=match b with
 |some (c,r)=>.tuple #[ii ((a.length:Int)-r.length),.string ⟨c.toArray⟩]
 |none=>.tuple #[ii 0,.string ⟨#[]⟩]
theorem MO(b:UInt8)(n:List UInt8)(k:World)(hl:n.length<=90000000000000):Cs 147 #[.string ⟨n.toArray⟩,ii b.toNat] k (R0 k (jC n (cA b n))):=by
 by_cases z:∃a,n=75::b::a
 ·obtain⟨a,rfl⟩:=z;have S:(75::b::a).length=a.length+2:=rfl;have h2:¬((a.length:Int)+1+1<2):=qo;have b2:=b.toNat_lt;have I:∀c,((⟨(75::b::a).toArray⟩:ByteArray)[0]'c).toNat=75:=λ_=>rfl;have J:∀c,((⟨(75::b::a).toArray⟩:ByteArray)[1]'c).toNat=b.toNat:=λ_=>rfl;have F:=λq (c:SC q k.heap.size (75::b::a) 2 false)=>NE k.heap.size (75::b::a) 2 false 40000 qo q c qo;have s:=(show Hi _ from TP b a);have ag:=(nE a).1;have ah:(aT a).2<=5:=vW 5 0 0 a;have E:Hi (SC (k.alloc (.cells #[.string ⟨(75::b::a).toArray⟩,ii 2,.bool false] 232)) k.heap.size (75::b::a) 2 false):=⟨aC _ _,by simp⟩
  delta Cs;go_in
  go_wp2_with fail
  refine cm (F _ E.o) ?_;rintro e w ⟨bb,rfl,y⟩;have Q:=((r0 [] k).alloc _).trans y.fr qs;have A:(75::b::a).drop 2=a:=rfl;obtain⟨⟨_,B,R⟩,u,m⟩|⟨t,u,k',m⟩:=y.all
  ·rw[A]at B R u m;obtain⟨g,i,hf⟩:∃g i,aT a=(g,i):=⟨_,_,rfl⟩;rw[hf]at s B R u m ag ah;dsimp only at B R u m ag ah;subst u;have am:=aH m.all;have c1:ca w k.heap.size 1 (ii ((2+i:Nat):Int)):=aB m.all;have c2:ca w k.heap.size 2 (.bool false):=aB m.all;clear F E y hf A I J m
   by_cases az:a.length+2<2+i+g+4
   ·have p:Hi (cA b (75::b::a)=none):=by
     show _=none
     rw[s.o,Z0];intro c;have:=c.2.1;rw[S]at this;omega
    have af:((a.length:Int)+1+1<2+(i:Int)+(g:Int)+4):=qo;clear s;go_wp2;exact Zq8 (v:=jC [] none) (by simp[results,results147,go_sem,jC]) rfl ⟨by rw[p.o];rfl,Q⟩
   have af:¬((a.length:Int)+1+1<2+(i:Int)+(g:Int)+4):=qo;obtain⟨d,hE⟩:=nm (2+i+g);have x:Hi (∀q,Cs 144 #[.string ⟨((75::b::a).take d).toArray⟩] q (R0 q (.string ⟨(cP ((75::b::a).take d)).toArray⟩))):=λq=>Qx1 (MB _ q (by rw[Qz8];omega)) (by rintro e w' c;exact c)
   obtain⟨f,ab⟩:=nm (d+4);obtain⟨l,hA⟩:=nm (2+i);have W:=zA (75::b::a) d f;have X:=tW (75::b::a) d;have Y:=zA (75::b::a) l d;obtain⟨C,V⟩:∃r:ByteArray,r=⟨(75::b::a).toArray⟩:=⟨_,rfl⟩;have an:C.size=a.length+2:=by rw[V];rfl
   rw[<-V]at W X Y |-;have ar:d<=f:=qo;have Zq:f<=C.size:=qo;have Zr:d<=C.size:=qo;have au:l<=d:=qo;have av:(d:Int)+4=(f:Int):=qo;have aw:(2:Int)+(i:Int)=(l:Int):=qo;have ak:(l:Int)+(g:Int)=(d:Int):=qo;have ax:¬((a.length:Int)+2<(f:Int)):=qo;have ay:f<=90000000000000:=qo;have ba:IntKind.i64.wrap (f:Int)=f:=by rw[Zq2];omega
   have H:=(show Hi _ from And.intro hE (And.intro ab hA));obtain⟨C4,M⟩:=nm (cP ((75::b::a).take d));obtain⟨X4,O⟩:∃r,r=((75::b::a).drop d).take (f-d):=⟨_,rfl⟩;obtain⟨TK,N⟩:∃r,r=(75::b::a).take d:=⟨_,rfl⟩;rw[<-M]at x;rw[<-N]at x X;rw[<-O]at W;have HY:=(show Hi _ from And.intro M (And.intro O N));clear hE V ab hA M O N af an;go_wp2
   go_region_with (first|(go_at_call 144;refine cm (x.o _) ?_;rintro e w2 ⟨rfl,ad⟩))
   have ae:=Q.qT (((r0 [] w).drewN _).qT ad);have aq:w2.cell? ⟨k.heap.size,1,none⟩=some (ii (l:Int)):=by rw[(((r0 [] w).drewN _).qT ad).cell _ _ am qs,c1,H.o.2.2]
   have ac:cA b (75::b::a)=if X4=C4 then some (((75::b::a).drop l).take g,(75::b::a).drop f)else none:=by
    obtain⟨q1,q2,q3⟩:=H.o;obtain⟨p1,p2,p3⟩:=HY.o;rw[s.o,p1,p2,q2,q3,q1,Zk3]
    by_cases e:take 4 (List.drop (2+i+g) (75::b::a))=cP (take (2+i+g) (75::b::a))
    ·rw[Q7 e,Q7 ⟨⟨B,by omega⟩,by rw[S];omega,e⟩]
    rw[Z0 e,Z0 (λc=>e c.2.2)]
   have hN:=ak;have D:=aA ac;have ap:Value.string (C.extract l d)=.string ⟨(((75::b::a).drop l).take g).toArray⟩:=by rw[Y,show d-l=g by omega]
   obtain⟨CC,aa⟩:∃r,r=((75::b::a).drop l).take g:=⟨_,rfl⟩;rw[<-aa]at D ap;have aj:Hi (((75::b::a).length:Int)-((75::b::a).drop f).length=(f:Int)):=by
    show _=_
    rw[Qz2,S];omega
   obtain⟨ai,L⟩:=nm ((X4==C4));have HB:=aA L;clear W X Y ac s H HY c1 c2 aa x;simp only[<-L];clear L;cases ai
   ·have p:Hi (cA b (75::b::a)=none):=by
     show _=none
     rw[D.o,Z0 (λe=>by have:=HB.o;rw[e]at this;simp at this)]
    go_wp2;exact Zq8 (v:=jC [] none) (by simp[results,results147,go_sem,jC]) rfl ⟨by rw[p.o];rfl,ae⟩
   have p:Hi (cA b (75::b::a)=some (CC,(75::b::a).drop f)):=by
    show _=some _
    rw[D.o,Q7 (by have:=HB.o;simpa using this.symm)]
   go_wp2
   go_quiet (fail)
   go_wp2;exact Zq8 (v:=.tuple #[ii (f:Int),.string ⟨CC.toArray⟩]) (by simp[results,results147,go_sem]) rfl ⟨by rw[p.o];unfold jC;dsimp only;rw[aj.o],ae.drewN _⟩
  have c2:ca w k.heap.size 2 (.bool true):=aB m.all;unfold rF at t;rw[A]at t;have p:Hi (cA b (75::b::a)=none):=by
   show _=none
   rw[s.o,Z0];intro c;exact t ⟨rfl,c.1.1,by have:=c.1.2;omega⟩
  clear F E y A I J m t;go_wp2;exact Zq8 (v:=jC [] none) (by simp[results,results147,go_sem,jC]) rfl ⟨by rw[p.o];rfl,Q⟩
 rw[TQ z];have t:n.length<2\/∃h j a,n=h::j::a/\(h≠75\/j≠b):=by
  match n,z with
  |[],_=>exact .inl qs
  |[_],_=>exact .inl qs
  |h::j::a,c=>
   refine .inr ⟨h,j,a,rfl,?_⟩
   by_cases e:h=75
   ·exact .inr λao=>c ⟨a,by rw[e,ao]⟩
   exact .inl e
 clear z;obtain h2|⟨h,j,a,rfl,P⟩:=t
 ·delta Cs;go_in
  go_wp2;exact Zq8 (v:=jC n none) (by simp[results,results147,go_sem,jC]) rfl ⟨rfl,r0 _ _⟩
 have h2:¬((a.length:Int)+1+1<2):=qo;have b0:=h.toNat_lt;have b1:=j.toNat_lt;have b2:=b.toNat_lt;have I:∀c,((⟨(h::j::a).toArray⟩:ByteArray)[0]'c).toNat=h.toNat:=λ_=>rfl;have J:∀c,((⟨(h::j::a).toArray⟩:ByteArray)[1]'c).toNat=j.toNat:=λ_=>rfl
 by_cases ha:h=75
 ·subst ha;have hb:((j.toNat:Int)!=(b.toNat:Int))=true:=by have:=P.resolve_left (λc=>c rfl);have:j.toNat≠b.toNat:=λe=>this (UInt8.toNat_inj.1 e);simp;omega
  clear P
  delta Cs;go_in
  go_wp2;exact Zq8 (v:=jC [] none) (by simp[results,results147,go_sem,jC]) rfl ⟨rfl,r0 _ _⟩
 have hb:((h.toNat:Int)!=75)=true:=by have:h.toNat≠75:=λe=>ha (UInt8.toNat_inj.1 e);simp;omega
 clear P
 delta Cs;go_in
 go_wp2;exact Zq8 (v:=jC [] none) (by simp[results,results147,go_sem,jC]) rfl ⟨rfl,r0 _ _⟩
