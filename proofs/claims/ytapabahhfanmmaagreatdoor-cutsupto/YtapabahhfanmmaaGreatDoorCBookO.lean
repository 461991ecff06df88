import Derived.Test.YtapabahhfanmmaaGreatDoorCRecL
import Derived.Test.YtapabahhfanmmaaGreatDoorCRefN
import Derived.Test.YtapabahhfanmmaaGreatDoorCRRead
namespace Go.Proofs.YtapabahhfanmmaaGreatDoor
open Go.RowKit List Go.Proofs.Tryz
set_option maxHeartbeats 4000000
set_option maxRecDepth 100000
variable {a:Nat} {v:Value} {w:World}
set_option maxRecDepth 100000
theorem xP{base:Nat}{b:List Cm}(a:w.ownsRow base 81 5 v b.length (b.flatMap Cm.cells)):CmdR w v b:=by
 by_cases d:b.length=0
 ·obtain⟨f,h,rfl⟩:=fD a;have:=Qx4 d;subst this;exact .inl qg
 obtain⟨g,c,rfl⟩:=bK a qo;have i:=a.cells (g:=g) rfl;refine .inr ⟨g,0,c,rfl,(a.lt g rfl).2,λm j e n l=>?_⟩;have k:e<5:=qg;simp_all[sB,Addr.add_lit,Nat.zero_add]
theorem CmdR.apart{base:Nat}{d:List Cm}(c:w.ownsRow base 81 5 v d.length (d.flatMap Cm.cells))(o:a<base):CmdW w v d a:=by
 obtain b|⟨e,j,i,rfl,_,h⟩:=xP c
 ·exact .inl b
 refine .inr ⟨e,j,i,rfl,λl=>?_,h⟩
 by_cases m:d.length=0
 ·obtain⟨b,_⟩|⟨g,f,k,b,n,_⟩:=c.2
  ·cases b
  grind
 have:=(c.lt e (by
  obtain⟨g,f,b⟩:=bK c qo;rw[b];cases b
  rfl)).1
 omega
theorem PH(f:List Cm):∀b∈f.map aJ,∀a∈b.qN,0<=a/\a<=1000000000:=λb d a e=>by obtain⟨c,_,rfl⟩:=Qk7.1 d;exact uA c a e
theorem Gg(d:Int)(a b:List Cm)(g h:Value)(e:World)(x:0<=d/\d<=1000000000)(q:CmdR e g (a.map aJ))(r:CmdR e h (b.map aJ))(E:a.length<=2000000)(F:b.length<=2000000):Cs 143 #[ii d,g,h] e (R0 e (.string ⟨(dG d a b).toArray⟩)):=by
 have l:Hi (∀c,Fr [] e c->Cs 187 #[g] c (R0 c (.string (NF (dL a))))):=λc i=>by rw[rQ];exact MD (a.map aJ) g c (q.qF i) qg (PH a)
 have m:Hi (∀c,Fr [] e c->Cs 187 #[h] c (R0 c (.string (NF (dL b))))):=λc i=>by rw[rQ];exact MD (b.map aJ) h c (r.qF i) qg (PH b)
 have n:=aA (λe=>eT _ x e);have B:=eW x;have C:(NF (dL a)).size<=5+25*a.length:=rP a qo;have D:(NF (dL b)).size<=5+25*b.length:=rP b qo;have f:Hi ((⟨(dG d a b).toArray⟩:ByteArray)=NB d++NF (dL a)++NF (dL b)):=by
  show NF (d::(dL a++dL b))=_
  rw[show d::(dL a++dL b)=[d]++dL a++dL b by simp,rD,rD,rE]
 obtain⟨j,s⟩:=nm (NB d);obtain⟨k,t⟩:=nm (NF (dL a));obtain⟨y,u⟩:=nm (NF (dL b));rw[<-s]at n f B;rw[<-t]at l f C;rw[<-u]at m f D;have H:j.size+k.size<=9223372036854775807:=qo;have I:j.size+k.size+y.size<=9223372036854775807:=qo;clear s t u q r
 delta Cs;go_in
 go_wp2_with fail
 refine cm (n.o _) ?_;rintro p J ⟨rfl,v⟩
 go_wp2_with fail
 refine cm (l.o _ v) ?_;rintro p L ⟨rfl,z⟩;have w:=v.qT z
 go_wp2_with fail
 refine cm (m.o _ w) ?_;rintro p M ⟨rfl,A⟩;go_wp2;go_ret;exact⟨by rw[f.o];rfl,w.qT A⟩
theorem Gc(c d qb f:Nat)(e:T)(g:List UInt8)(h i:Value)(a:World)(b:YR a c d qb f e g)(l:1000000000<=e.turn):Cs 105 #[pt c,h,i] a (R0 a (.tuple #[.slice none 0 0,ii 4])):=by
 have j:ca a c 0 (pt d):=aB b.h;have k:=b.rg.c0;clear b
 delta Cs;go_in
 go_wp2;go_ret2;simp_all[r0]
structure RPre (w:World) (l1 l2:List Cm) (a b:Value) (w':World):Prop where
 oa:w'.ownsRow w.heap.size 81 5 a l1.length ((l1.map aJ).flatMap Cm.cells)
 ob:w'.ownsRow w.heap.size 81 5 b l2.length ((l2.map aJ).flatMap Cm.cells)
 fr:Fr [] w w'
theorem MM(e i qb X:Nat)(c:T)(w:List UInt8)(a b:List Cm)(v1 v2:Value)(d:World)(t:YR d e i qb X c w)(hn:e≠i/\e≠qb)(ai:GG c)(ht:c.turn<1000000000)(h1:CmdR d v1 a)(h2:CmdR d v2 b)(aj:a.length<=2000000)(ak:b.length<=2000000)(bv:w.length<=1000000000000):Cs 105 #[pt e,v1,v2] d λk l=> (40000<(dG c.turn a b).length/\k=.returned (.tuple #[.slice none 0 0,ii 3])/\Fr [] d l) \/((dG c.turn a b).length<=40000/\∃p C Y,k=.returned (.tuple #[p,ii 0])/\YR l e i C Y (dR c (a,b)) (w++cU c (a,b))/\Fr [e,i,qb] d l/\(C=qb\/d.heap.size<=C)/\Refs l d.heap.size p (aO c (a.map aJ) (b.map aJ)).2.1 (aO c (a.map aJ) (b.map aJ)).2.2):=by
 have c0:ca d e 0 (pt i):=aB t.h;have z:=t.rg.c0;have az:=aH t.h;have bq:=t.rg.lt;have av:=t.rg.row.lt;have C1:=aA (MC a v1 d h1 aj);have C2:=aA (λl hf=>MC b v2 l (h2.qF hf) ak);have HY:=aA t;have ap:=aA ai;have ay:=ai.t0;have bz:¬(1000000000:Int)<=c.turn:=qo;obtain⟨r,I⟩:=nm (dG c.turn a b);rw[<-I];obtain⟨y,J⟩:∃D:ByteArray,D=⟨r.toArray⟩:=⟨_,rfl⟩;have cb:y.size=r.length:=by rw[J];rfl
 have an:Hi (∀s j q,RPre d a b s j q->Cs 143 #[ii c.turn,s,j] q (R0 q (.string y))):=λs j q u=>by rw[J,I];exact Gg c.turn a b s j q ⟨ay,by omega⟩ (xP (by rw[Qq1];exact u.oa)) (xP (by rw[Qq1];exact u.ob)) aj ak
 have bk:=aA I;have bl:=aA J;clear t h1 h2 ai I J
 delta Cs;go_in
 go_wp2_with fail
 refine cm C1.o ?_;rintro k w1 ⟨s,rfl,oa,O⟩;have aq:=(show Hi (w1.ownsRow d.heap.size 81 5 s a.length ((a.map aJ).flatMap Cm.cells))from oa);have am:=(show Hi _ from C2.o w1 O);clear C1 C2 oa
 go_wp2_with fail
 refine cm am.o ?_;rintro k q ⟨j,rfl,ob,ag⟩;have B:=O.qT ag;have u:RPre d a b s j q:=⟨aF aq.o ag qs,jN ob O.size,B⟩;have CT:=(show Hi _ from an.o s j q u);have d0:=(B.cell e 0 az qs).trans c0;have d1:=(B.cell i 0 bq qs).trans z;have E:=aA u;obtain⟨aa,ac,ha⟩:=fD u.oa;obtain⟨ba,bc,v⟩:=fD u.ob;subst ha;subst v;clear am u ob c0 z aq O ag
 go_wp2_with fail
 refine cm CT.o ?_;rintro k Q ⟨rfl,Zq⟩;have af:=B.qT Zq;have M:=HY.o.qF af;have e0:ca Q e 0 (pt i):=aB M.h;clear CT d0 d1 an
 by_cases bo:40000<r.length
 ·have bn:(40000:Int)<(y.size:Int):=qo;go_wp2;go_ret2;exact .inl ⟨bo,rfl,af⟩
 have bn:¬(40000:Int)<(y.size:Int):=qo;have V:Hi (∀d,Cs 107 #[ii 1,.string y] d (R0 d (.string ⟨(bE 1 r).toArray⟩))):=λd=>by rw[bl.o];exact MH 1 qo r qo d
 have bt:=sC 1 r qo;obtain⟨W,F⟩:∃D:ByteArray,D=⟨(bE 1 r).toArray⟩:=⟨_,rfl⟩;have bu:W.size=(bE 1 r).length:=by rw[F];rfl
 rw[<-F]at V;obtain⟨x,H⟩:∃D:ByteArray,D=⟨w.toArray⟩:=⟨_,rfl⟩;have bw:x.size=w.length:=by rw[H];rfl
 have z:Q.cell? ⟨e,1,none⟩=some (.string x):=by rw[H];exact aB M.h
 have bg:Hi (Value.string (x++W)=sv (w++cU c (a,b))):=by
  show _=_
  rw[H,F,mH,bk.o];rfl
 have ar:=aA M;have Zs:x.size+W.size<=9223372036854775807:=qo;have bb:=Z1 az af.size;have h:=((r0 [] Q).drew.cell e 1 bb qs).trans z;clear F H M
 go_wp2_with fail
 refine OneFree.region (fun l:World=>l.cell? ⟨e,1,none⟩=some (.string x)) 10 qk ?_;refine(show OneFree prog Region.Mode.any _ _ _ 10 11 (Array.replicate 11 false) _ _ from ?_);refine tv 0 h ?_;refine tv 1 h ?_;refine tv 2 h ?_;refine tv 3 h ?_;refine tv 4 h ?_;refine tv 5 h ?_;refine o1 6 fun m g=>?_;have f:=aA g;clear g;go_simp;refine cm (V.o _) ?_;rintro k w4 ⟨rfl,bp⟩;have P:=((r0 [] Q).drew).qT bp;clear h;have h:=(P.cell e 1 bb qs).trans z;refine f.o _ _ ⟨fun _=>h,?_⟩;clear f m V;try simp only[Act.put,Z]
 refine o1 7 fun m g=>?_;have f:=aA g;clear g;go_simp;rw[Z0 qo];refine f.o _ _ ⟨fun _=>h,?_⟩;clear f m;try simp only[Act.put,Z]
 refine o1 8 fun m g=>?_;have f:=aA g;clear g;go_simp;refine f.o _ _ ⟨fun _=>h,?_⟩;clear f m;try simp only[Act.put,Z]
 refine o1 9 fun m g=>?_;have f:=aA g;clear g;go_simp;refine f.o _ _ ⟨fun _=>h,?_⟩;clear f m;try simp only[Act.put,Z]
 have z1:w4.frozen? ⟨e,1,none⟩=false:=aV (ar.o.qF P).h;refine o1 10 fun m g=>?_;have f:=aA g;clear g;go_simp;refine f.o _ _ ⟨fun h6=>absurd rfl h6,OneFree.done qk ?_ _⟩;clear f m;rw[bg.o];obtain⟨n,L⟩:=nm (w4.setCell ⟨e,1,none⟩ (sv (w++cU c (a,b))));rw[<-L];have N:YR n e i qb X c (w++cU c (a,b)):=by rw[L];exact(ar.o.qF P).put hn
 have Zr:Fr [e] w4 n:=by rw[L];exact(r0 _ _).setCell _ _ qs
 have ah:=(Zq.qT P).qO.trans Zr (λj v=>.inl v);have ny:∀(p:Value) (bd:Nat) (xs:List Value),q.ownsRow d.heap.size 81 5 p bd xs->∀A,p.ownBlock=some A->A∉[e]:=λp bd xs ho A hg k=>by
  have h1:A=e:=by simpa using k
  have:=(ho.lt A hg).1;omega
 have be:n.ownsRow d.heap.size 81 5 (.slice aa a.length ac) (a.map aJ).length ((a.map aJ).flatMap Cm.cells):=by rw[Qq1];exact aF E.o.oa ah (ny _ _ _ E.o.oa)
 have bf:n.ownsRow d.heap.size 81 5 (.slice ba b.length bc) (b.map aJ).length ((b.map aJ).flatMap Cm.cells):=by rw[Qq1];exact aF E.o.ob ah (ny _ _ _ E.o.ob)
 have R:Hi (Cs 95 #[pt i,.slice aa a.length ac,.slice ba b.length bc] n λk l=>∃p,k=.returned p/\RPlay n i qb (dR c (a,b)) (aO c (a.map aJ) (b.map aJ)).2.1 (aO c (a.map aJ) (b.map aJ)).2.2 p l):=yG uU i qb X c (a.map aJ) (b.map aJ) _ _ n N.rg ap.o.ok ap.o.os ay (CmdR.apart be av) (CmdR.apart bf av) (qu aj) (qu ak);have f0:ca n e 0 (pt i):=aB N.h;have bm:=aA N;have ao:=aA ((B.qO (S:=[e])).trans ah (λj v=>.inl v));obtain⟨PT,ab⟩:=nm (dR c (a,b));obtain⟨RA,ad⟩:=nm ((aO c (a.map aJ) (b.map aJ)).2.1);obtain⟨RB,ae⟩:=nm ((aO c (a.map aJ) (b.map aJ)).2.2);rw[<-ab,<-ad,<-ae]at R;have bh:=aA ab;have br:=aA ad;have bs:=aA ae;clear L N Zr be bf h z1 ab ad ae ny
 go_wp2_with fail
 refine cm R.o ?_;rintro k w6 ⟨v6,rfl,⟨C,Y,ax,au,bx⟩,aw⟩;have bj:=aA ax;have bi:=aA aw;clear R ax aw;go_wp2;go_ret2;refine .inr ⟨by omega,v6,C,Y,rfl,⟨au.heap bm.o.h qt,by rw[<-bh.o];exact bj.o⟩,?_,?_,?_⟩
 ·exact(ao.o.mono (λj v=>.inl qa)).trans au (λj v=>.inl (by simp at v;simp;omega))
 ·have:=ao.o.size;omega
 have t:=(show Refs w6 n.heap.size v6 RA RB from bi.o);grind[Hi.o,Refs.low,Fr.size]
variable {P:List Pf} {B l:List UInt8} {b c:Nat} {V:Nm} {t:T}
theorem RG.n(d:RG w a b c t):RG w a b c (nT t):=by
 refine⟨λf g=>?_,d.fz,d.row,d.len,d.ne⟩;rw[d.cell f g];unfold cW
 by_cases e:f<145
 ·rw[qG t qo];rfl
 rw[Z0 e,Z0 e];rfl
theorem Iv(a:List UInt8)(b:Nat):Value.string ((⟨a.toArray⟩:ByteArray).extract b a.length)=.string ⟨(a.drop b).toArray⟩:=by rw[zA,l8 qs]
structure YoP (fs:List Pf) (w:World) (e:Ending) (w':World):Prop where
 ex:(∃l0 t r yb gb qb cap,gU fs l0 t r/\e=.returned (.tuple #[pt yb,ii 0])/\YR w' yb gb qb cap t (iO l0 t r)/\w.heap.size<=yb/\w.heap.size<=gb/\w.heap.size<=qb/\yb≠gb/\yb≠qb)\/((∀l0 t r,¬gU fs l0 t r)/\e=.returned (.tuple #[.pointer none,ii 2]))
 fr:Fr [] w w'
def jM(a:List Pf):List UInt8:=(cV a LOG).getD []
theorem YM(b:(P.map (·.1)).Nodup)(a:fG (jM P) t l):gU P (jM P) t l:=by
 refine⟨b,?_,a⟩;unfold jM at a |-;cases c:cV P LOG with
 |some d=>rfl
 |none=>grind[JQ]
theorem GT(a:gU P l t B):fG (jM P) t B:=by unfold jM;rw[a.2.1];exact a.2.2
theorem YL(c:∀a∈P,a.2.length<=90000000000000):(jM P).length<=90000000000000:=by
 unfold jM;cases b:cV P LOG with
 |none=>simp
 |some d=>grind[LOG,cV,Option.map_eq_some_iff,mem_of_find?_eq_some]
theorem YN{b:Pf}(c:P[a]?=some b)(d:cV (P.take a) b.1=none):jM (P.take (a+1))=if b.1=LOG then b.2 else jM (P.take a):=by grind[jM,IF,LOG]
theorem YX(d:∀(b:Nat) (c:Pf),b<a->P[b]?=some c->c.1≠V):cV (P.take a) V=none:=by grind[cV,Option.map_eq_none_iff,find?_eq_none,mem_iff_getElem?]
theorem DF{c:UInt8}{b:List UInt8}(e:cA c l=some (B,b))(h:a+b.length=l.length):l.drop a=b:=by obtain⟨d,_,_,f⟩:=vF e;have g:l.length=(gP c d B++cP (gP c d B)).length+b.length:=qg;simp_all
structure OL (w:World) (yb gb:Nat) (l x:List UInt8) (t0:T) (a:Nat) (wr:World):Prop where
 ex:∃t qb cap,YR wr yb gb qb cap t l/\cO (l.drop a).length t (l.drop a)=cO x.length t0 x/\GG t/\t.turn<=1000000000/\w.heap.size<=qb/\yb≠qb
 le:a<=l.length
 fr:Fr [] w wr
theorem Fv(E:Value)(d:List Pf)(y:World)(hv:FilesV y E d)(hl:∀g∈d,g.2.length<=90000000000000)(dx:d.length<=1000000000):Cs 110 #[E] y λa u=>YoP d y a u:=by
 obtain⟨a1,lc,rfl⟩:∃a1 lc,E=.slice a1 d.length lc:=by
  obtain⟨ao,lc,rfl,rfl⟩|⟨D,N,lc,rfl,_⟩:=hv
  ·exact⟨_,_,rfl⟩
  exact⟨_,_,rfl⟩
 have HV:=aA hv;have HL:=(show Hi _ from YL hl);have ac:Hi (∀wr,Fr [] y wr->∀b g,d[b]?=some g->∃D N,a1=some ⟨D,N,none⟩/\wr.cell? ⟨D,N+b*2,none⟩=some (sv g.1)/\wr.cell? ⟨D,N+b*2+1,none⟩=some (sv g.2)):=λwr B b g M=>by
  obtain⟨ao,dn,e1,e2⟩|⟨D,N,dn,e1,I,A⟩:=(FilesV.fr HV.o B qs)
  ·rw[e2]at M;simp at M
  exact⟨D,N,by simpa using congrArg (λE:Value=>match E with|.slice j _ _=>j|_=>none) e1,A b g M⟩
 clear hv hl
 delta Cs;go_in
 go_wp2
 go_loopw [4,5] (fun lg V wr=>∃b:Nat,b<=d.length/\V=ii b/\lg=sv (jM (d.take b))/\Hi ((d.take b).map (·.1)).Nodup/\Fr [] y wr) (fun _ V _=>d.length-(intOf V).toNat)
 ·exact⟨0,Nat.zero_le _,rfl,rfl,show(List.map _ (d.take 0)).Nodup by simp,r0 _ _⟩
 obtain⟨b,hk,rfl,rfl,HD,bf⟩:=hrel;obtain⟨c,bi⟩:=nm (jM (d.take b));rw[<-bi];have Zq:=aA bi;clear bi
 by_cases aj:b<d.length
 ·have bj:(b:Int)<(d.length:Int):=qo;obtain⟨g,M⟩:∃g,d[b]?=some g:=⟨d[b],getElem?_eq_getElem aj⟩;have HP:=aA M;clear M;obtain⟨X,C⟩:∃i:ByteArray,i=⟨c.toArray⟩:=⟨_,rfl⟩;rw[sv,<-C];have ay:=aA C;clear C;go_wp2
  go_loopw [6] (fun s dp=>∃e:Nat,e<=b/\s=ii e/\Hi (∀(s:Nat) (m:Pf),s<e->d[s]?=some m->m.1≠g.1)/\Fr [] wr dp) (fun s _=>b-(intOf s).toNat)
  ·exact⟨0,Nat.zero_le _,rfl,λs _ l=>absurd l qo,r0 _ _⟩
  obtain⟨e,hm,rfl,HM,Zs⟩:=hrel;have J:=bf.qT Zs
  by_cases cf:e<b
  ·have dh:(e:Int)<(b:Int):=qo;have dz:(e:Int)<(d.length:Int):=qo;obtain⟨m,S⟩:∃g,d[e]?=some g:=⟨d[e],getElem?_eq_getElem qo⟩;obtain⟨D,N,rfl,bc,_⟩:=ac.o _ J b g HP.o;obtain⟨eq,er,e',cz,_⟩:=ac.o _ J e m S;cases e';obtain⟨aq,hA⟩:∃i:ByteArray,i=⟨m.1.toArray⟩:=⟨_,rfl⟩;obtain⟨q,r⟩:∃i:ByteArray,i=⟨g.1.toArray⟩:=⟨_,rfl⟩;rw[sv,<-r]at bc;rw[sv,<-hA]at cz;have ah:(aq.toList==q.toList)=(m.1==g.1):=by rw[hA,r,ByteArray.toList_mk,ByteArray.toList_mk]
   by_cases a:m.1=g.1
   ·have bb:(aq.toList==q.toList)=true:=by rw[ah];simpa using a
    have cq:=aA (IB HP.o (qA.2 (mem_map.2 ⟨m,mem_iff_getElem?.2 ⟨e,by rw[List.getElem?_take,if_pos cf,S]⟩,a⟩)));clear ah hA r S a;go_wp2
    go_quiet (fail)
    go_wp2;go_ret2;exact⟨.inr ⟨λl0 f z l=>cq.o l.1,rfl⟩,J.drewN _⟩
   have bb:(aq.toList==q.toList)=false:=by rw[ah];simpa using a
   have co:Hi (∀(s:Nat) (m:Pf),s<e+1->d[s]?=some m->m.1≠g.1):=λs q' I A=>by
    by_cases e1:s=e
    ·subst e1;rw[S]at A;cases A;exact a
    exact HM.o s q' qo A
   clear ah hA r S a;go_wp2
   go_quiet (fail)
   go_wp2;go_roundw
   ·exact⟨e+1,cf,by go_num,co.o,Zs.drewN _⟩
   simp[intOf];omega
  have dh:¬(e:Int)<(b:Int):=qo;have ce:e=b:=qo;have HX:Hi (cV (d.take b) g.1=none):=YX (λs m I A=>HM.o s m qo A);have bn:=aA (ID HP.o HD.o HX.o);have HS:=(show Hi _ from YN HP.o HX.o);obtain⟨D,N,rfl,bc,cx⟩:=ac.o _ J b g HP.o;obtain⟨q,r⟩:∃i:ByteArray,i=⟨g.1.toArray⟩:=⟨_,rfl⟩;obtain⟨dq,hC⟩:∃i:ByteArray,i=⟨g.2.toArray⟩:=⟨_,rfl⟩;rw[sv,<-r]at bc;rw[sv,<-hC]at cx;have ai:q.toList=g.1:=by rw[r,ByteArray.toList_mk]
  have HC:=aA hC
  by_cases a:g.1=LOG
  ·have bb:q.toList=[108,111,103]:=by rw[ai,a];rfl
   have HE:=aA a;clear ai r hC a;go_wp2;go_roundw
   ·exact⟨b+1,aj,by go_num,by rw[HS.o,if_pos HE.o,HC.o],bn.o,J⟩
   simp[intOf];omega
  have bb:(q.toList==[108,111,103])=false:=by rw[ai];exact beq_eq_false_iff_ne.2 a
  have HE:=aA a;clear ai r hC a;go_wp2;go_roundw
  ·exact⟨b+1,aj,by go_num,by rw[HS.o,if_neg HE.o,<-Zq.o,ay.o],bn.o,J⟩
  simp[intOf];omega
 have bj:¬(b:Int)<(d.length:Int):=qo;have cd:b=d.length:=qo;have HN:Hi ((d.map (·.1)).Nodup):=by have:=HD.o;rwa[cd,take_length]at this
 have ab:Hi (c=jM d):=by
  show _=_
  rw[Zq.o,cd,take_length]
 have df:c.length<=90000000000000:=by rw[ab.o];exact HL.o
 have w:=MO 2 c wr df;clear ac HV HL Zq HD;cases p:cA 2 c with
 |none=>
  have au:Hi (∀l0 f z,¬gU d l0 f z):=λl0 f z l=>by obtain⟨v,i,I,_⟩:=GT l;rw[<-ab.o,p]at I;cases I
  rw[p]at w;have x:Cs 147 #[.string ⟨c.toArray⟩,ii 2] wr (R0 wr (.tuple #[ii 0,.string ⟨#[]⟩])):=w;clear w p
  go_wp2_with fail
  refine cm x ?_;rintro a w1 ⟨rfl,bd⟩;clear x;go_wp2;go_ret2;exact⟨.inr ⟨au.o,rfl⟩,bf.qT bd⟩
 |some cr=>
  obtain⟨v,i⟩:=cr;obtain⟨eo,du⟩:=mM p;obtain⟨W,hn⟩:∃W:Nat,W+i.length=c.length:=⟨c.length-i.length,by omega⟩;have ea:((W:Int)==0)=false:=beq_eq_false_iff_ne.2 qo;have x:Cs 147 #[.string ⟨c.toArray⟩,ii 2] wr (R0 wr (.tuple #[ii (W:Int),.string ⟨v.toArray⟩])):=by
   rw[p]at w;refine cm w ?_;rintro a u ⟨rfl,l⟩;refine⟨?_,l⟩
   show Ending.returned (.tuple #[ii ((c.length:Int)-i.length),_])=_
   rw[show(c.length:Int)-i.length=W by omega]
  have ar:=aA p;have br:Hi (∀h,Cs 104 #[.string ⟨v.toArray⟩] h λa u=>RRP v h a u):=λh=>Calls.mono (Ga v h qo) (λa u l=>⟨l.1,l.2⟩);clear w p
  go_wp2_with fail
  refine cm x ?_;rintro a w1 ⟨rfl,bd⟩;have bt:=bf.qT bd;clear x
  go_wp2_with fail
  refine cm (br.o _) ?_;rintro a O ⟨hr,J⟩;have bu:=bt.qT J;obtain⟨P,t,qb,cu,rfl,an,dv,ec⟩|⟨P,rfl⟩:=hr;rotate_left
  ·have au:Hi (∀l0 f z,¬gU d l0 f z):=λl0 f z l=>by obtain⟨k,x',I,A,_⟩:=GT l;rw[<-ab.o,ar.o]at I;cases I;exact P A
   dsimp only;clear P;go_wp2;go_ret2;exact⟨.inr ⟨au.o,rfl⟩,bu⟩
  dsimp only;have bp:Hi (∀f z,cO i.length (bS v) i=(f,z)->gU d c f z):=λf z l=>by rw[ab.o];exact YM HN.o ⟨v,i,by rw[<-ab.o];exact ar.o,P,l⟩
  have eg:=bt.size;have dw:=an.lt;have ed:=an.row.lt;obtain⟨X,C⟩:∃i:ByteArray,i=⟨c.toArray⟩:=⟨_,rfl⟩;have el:X.size=c.length:=by rw[C];rfl
  obtain⟨W3,ba,bx,_⟩:=al O (.cells #[pt t,.string X] 141);have bo:Hi (OL y O.heap.size t c i (bS v) W W3):=by refine⟨⟨bS v,qb,cu,⟨by rw[ba,C];exact aC _ _,an.fr bx qs qs⟩,?_,⟨P.ok,P.os,(tC v).1⟩,(tC v).2,by omega,by omega⟩,by omega,bu.qT bx⟩;have db:=DF ar.o hn;rw[db]
  have ct:=aA ba;have ay:=aA C;have bl:O.heap.size≠t:=qo;have cc:y.heap.size<=t:=qo;have ch:y.heap.size<=O.heap.size:=qo;rw[sv,<-C];clear ba C an P br
  go_wp2_with fail
  rw[<-ct.o]
  go_loopw [12] (fun V wr=>∃j:Nat,V=ii j/\Hi (OL y O.heap.size t c i (bS v) j wr)) (fun V _=>c.length-(intOf V).toNat)
  ·exact⟨W,rfl,bo.o⟩
  obtain⟨j,rfl,H⟩:=hrel;obtain⟨f,ap,af,hy,bk,bz,dl,cg,bm⟩:=H.o.ex;have dr:=H.o.le;have ag:=H.o.fr;have bg:=hy.rg.c0;have ee:=hy.rg.row.lt;have cb:=hy.rg.lt;have ep:=aH hy.h;have HY:=aA hy;have F:=aA bz;obtain⟨n,hd⟩:=nm (c.drop j);have bw:n.length+j=c.length:=by rw[hd,length_drop];omega
  rw[<-hd]at bk;have ax:=aA bk;clear bo H hy bk bz
  by_cases aj:j<c.length
  rotate_left
  ·have bj:¬(j:Int)<(X.size:Int):=qo;have cj:Hi (n=[]):=eq_nil_of_length_eq_zero qo;clear hd;go_wp2;go_ret2;refine⟨.inl ⟨c,f,[],_,t,ap,af,bp.o f [] ?_,rfl,?_,ch,cc,cg,bl,bm⟩,ag⟩
   ·rw[<-ax.o,cj.o];rfl
   rw[iO,if_pos rfl];exact HY.o
  have bj:(j:Int)<(X.size:Int):=qo;have x1:Value.string (X.extract j c.length)=.string ⟨n.toArray⟩:=by rw[ay.o,hd];exact Iv c j
  have dt:j<=X.size:=qo;have em:IntKind.i64.wrap (j:Int)=j:=by rw[IntKind.wrap_i64];omega
  have ck:=aA hd;clear hd;have ad:Hi (cO n.length f n=(f,n)->∀h,Fr [] wr h->Cs 64 #[.pointer (so O.heap.size)] h λa u=>a=.returned (.tuple #[])/\YoP d y (.returned (.tuple #[.pointer (so O.heap.size),ii 0])) u):=λhr h B=>by refine cm (yE _ t ap af f c h (HY.o.qF B) ⟨bl,bm⟩ F.o dl) ?_;rintro a u ⟨rfl,dm,dc⟩;refine⟨rfl,.inl ⟨c,f,n,_,t,ap,af,bp.o f n (by rw[<-ax.o,hr]),rfl,?_,ch,cc,cg,bl,bm⟩,(ag.qT B).trans dc qt⟩;rw[iO,if_neg (λa=>by rw[a]at bw;simp at bw;omega)];exact dm
  have w:=MO 1 n wr qo;have ae:Hi (∀m:List UInt8,m.length<=40000->∀h,Cs 148 #[.string ⟨m.toArray⟩,ii f.turn] h λa u=>UtP m f.turn h a u):=λm S h=>Gi m f.turn h S;cases p:cA 1 n with
  |none=>
   have cn:=(show Hi _ from ad.o (lH p _));have az:=aA (λh=>ae.o [] qs h);have x:Cs 147 #[.string ⟨n.toArray⟩,ii 1] wr (R0 wr (.tuple #[ii 0,.string ⟨#[]⟩])):=by rw[p]at w;exact w
   clear w p ae ad
   go_wp2_with fail
   refine cm x ?_;rintro a w4 ⟨rfl,Q⟩;have bh:=(Q.cell t 0 cb qs).trans bg;clear x x1
   go_wp2_with fail
   refine cm (az.o _) ?_;rintro a w5 ⟨⟨Y,vb,q,rfl,r,ho⟩,R⟩;clear r ho
   go_wp2_with fail
   refine cm (cn.o _ (Q.qT R)) ?_;rintro a w6 ⟨rfl,L⟩;have aa:=aA L;clear L;go_wp2;go_ret2;exact aa.o
  |some cr=>
   obtain⟨k,r'⟩:=cr;obtain⟨ef,cy⟩:=mM p;obtain⟨e,hm⟩:∃e:Nat,e+r'.length=n.length:=⟨n.length-r'.length,by omega⟩;have dg:¬(e:Int)=0:=qo;have dy:((e:Int)==0)=false:=by simpa using dg
   have x:Cs 147 #[.string ⟨n.toArray⟩,ii 1] wr (R0 wr (.tuple #[ii (e:Int),.string ⟨k.toArray⟩])):=by
    rw[p]at w;refine cm w ?_;rintro a u ⟨rfl,l⟩;refine⟨?_,l⟩
    show Ending.returned (.tuple #[ii ((n.length:Int)-r'.length),_])=_
    rw[show(n.length:Int)-r'.length=e by omega]
   have az:=(show Hi _ from ae.o k cy);have Zr:=aA (λhn=>ad.o (pH p hn _));have aw:Hi (jD f k->∀Y vb h q,Fr [] wr h->wr.heap.size<=q->h.ownsRow q 81 5 Y (dX k).length ((dX k).flatMap Cm.cells)->h.ownsRow q 81 5 vb (dY k).length ((dY k).flatMap Cm.cells)->Cs 95 #[pt t,Y,vb] h λa u=>∃E,a=.returned E/\Hi (OL y O.heap.size t c i (bS v) (j+e) u)):=λak Y vb h q B r oa ob=>by
    have:=tZ ak.1;have la:(dX k).length=dS k:=jR _ _ _;have D:(dY k).length=fK k:=jR _ _ _;refine cm (yG uU t ap af f (dX k) (dY k) Y vb h (HY.o.rg.qF B) F.o.ok F.o.os F.o.t0 (CmdR.apart oa qo) (CmdR.apart ob qo) qo qo) ?_;rintro a u ⟨E,rfl,M⟩;obtain⟨Zt,cw,dj,R,di⟩:=M.st.h;have eh:=B.size;have ei:=ag.size;have b:=nV F.o.ok (dX k) (dY k) ak.2.2;have ek:=b.tn;have eb:=ak.2.2;have da:c.drop (j+e)=r':=by rw[<-drop_drop,<-ck.o];exact DF p hm
    refine⟨E,rfl,⟨kV f k,Zt,cw,⟨R.heap (HY.o.qF B).h qt,dj.n⟩,?_,sR ⟨b.ok,qN F.o.ok F.o.os _ _,by have:=F.o.t0;omega⟩,?_,?_,?_⟩,by omega,(ag.qT B).trans R qt⟩
    ·rw[da,<-ax.o];obtain⟨bs,dd⟩:∃bs,n.length=bs+1:=⟨n.length-1,by omega⟩;rw[dd,mU p ak];exact tR _ _ _ _ (Nat.le_refl _) qo
    ·show(aO f (dX k) (dY k)).1.turn<=_
     omega
    ·obtain a|a:=di<;>omega
    omega
   have ce:c.length-(j+e)<c.length-j:=qo;obtain⟨am,bv⟩:=nm (j+e);have ds:(j:Int)+(e:Int)=(am:Int):=qo;have en:IntKind.i64.wrap (am:Int)=am:=by rw[IntKind.wrap_i64];omega
   have cp:Hi (c.length-am<c.length-j):=by show _<_;omega
   rw[<-bv]at aw;clear bv ce;clear w p ae ad
   go_wp2_with fail
   refine cm x ?_;rintro a w4 ⟨rfl,Q⟩;have bh:=(Q.cell t 0 cb qs).trans bg;clear x x1
   go_wp2_with fail
   refine cm (az.o _) ?_;rintro a w5 ⟨⟨Y,vb,q,rfl,r,ho⟩,R⟩;have de:=(R.cell t 0 (qh Q.size) qs).trans bh;have be:=Q.qT R;have HB:=aA r;have H:=aA ho;have dk:=Q.size;clear r ho bh bg;cases q
   ·have av:Hi (¬jD f k):=λl=>by have:=HB.o.2 ⟨l.1,l.2.1⟩;cases this
    go_wp2_with fail
    refine cm (Zr.o av.o _ be) ?_;rintro a w6 ⟨rfl,L⟩;have aa:=aA L;clear L;go_wp2;go_ret2;exact aa.o
   by_cases ej:(1000000000:Int)<=f.turn
   ·have av:Hi (¬jD f k):=λl=>by have:=l.2.2;omega
    go_wp2_with fail
    refine cm (Zr.o av.o _ be) ?_;rintro a w6 ⟨rfl,L⟩;have aa:=aA L;clear L;go_wp2;go_ret2;exact aa.o
   have bq:=(show Hi _ from aw.o ⟨(HB.o.1 rfl).1,(HB.o.1 rfl).2,by omega⟩ Y vb w5 w4.heap.size be dk (H.o rfl).1 (H.o rfl).2);clear HB H aw Zr
   go_wp2_with fail
   refine cm bq.o ?_;rintro a w6 ⟨v6,rfl,cs⟩;clear bq de;go_wp2;go_roundw
   ·exact⟨am,rfl,cs.o⟩
   simpa[intOf]using cp.o
variable {R:List Value} {d:Nat} {H:TypeId}
def dM(a:List Value)(b:Nat):Value:=a.getD (b%a.length) (ii 0)
theorem tD(a:List Value)(b:Nat):dM a (b+a.length)=dM a b:=by grind[dM,Nat.add_mod_right]
theorem KP(a:List Value):aW a.length (dM a) 1=a:=by refine V8 λb=>?_;grind[nS,dM,Nat.mod_eq_of_lt,getElem?_eq_getElem,getElem?_eq_none,iD]
theorem KQ(a:List Value):aW a.length (dM a) 2=a++a:=by grind[pA,tD,KP]
theorem Mkg.rows{K:List Nat}{cs:List Value}(e:Mkg w K cs.length (dM cs) v a)(i:a<=20000000):MkR w K v cs:=by obtain⟨b,d,f,g⟩:=e;refine⟨b,a,d,f,i,g.imp_right λ⟨c,l,m,q⟩=>⟨c,l,m,λk h j r p=>?_⟩⟩;have n:j<cs.length:=qg;have o:(k+1)*cs.length<=a*cs.length:=Qx5 _ h;grind[Nat.succ_mul,dM,Nat.add_comm,Nat.add_mul_mod_self_right,Nat.mod_eq_of_lt]
structure FillG (W:World) (base n gb gc:Nat) (e:TypeId) (cs0 cs:List Value) (k:Nat) (wr:World):Prop where
 own:wr.ownsRow base e cs.length (.slice (so gb) n gc) n (aW cs.length (dM cs) k++cs0.drop (k*cs.length))
 fr:Fr [gb] W wr
theorem FillG.there{base:Nat}{e:List Value}{wr:World}(g:FillG w base a b c H R e d wr)(q:d<a):wr.there b (d*e.length) e.length:=by
 obtain⟨h,_⟩|⟨m,k,l,H,n,f,o,r,s,t⟩:=g.own.2
 ·cases h
 cases H;have j:(d+1)*e.length<=c*e.length:=Qx5 _ qo;rw[Nat.succ_mul]at j;intro u p;refine⟨?_,aV f⟩;rw[aB f,Zq3 qo];rfl
theorem FillG.put{base:Nat}{e:List Value}{wr:World}(h:FillG w base a b c H R e d wr)(r:d<a)(p:R.length=a*e.length):FillG w base a b c H R e (d+1) (wr.setCells b (d*e.length) e):=by
 refine⟨?_,Fr.setCells b _ _ _ h.fr (.inl qs)⟩;obtain⟨v,g⟩:=h.own;obtain⟨g,_⟩|⟨u,t,f,H,n,q,o,s,z,j⟩:=g
 ·cases g
 cases H;have x:(d+1)*e.length<=a*e.length:=Qx5 _ r;have y:a*e.length<=c*e.length:=qg;have A:(d+1)*e.length=d*e.length+e.length:=qg;have l:f.toList.take (d*e.length)=aW e.length (dM e) d:=by have B:=V3 (take (d*e.length)) j;grind[iD]
 have m:(f.toList.drop (d*e.length+e.length)).take (a*e.length-(d*e.length+e.length))=R.drop ((d+1)*e.length):=by rw[<-drop_take,j,drop_append,Z6 qg,iD,Z8,drop_drop];grind
 refine⟨by rw[m8,iD,Qz2,p];omega,.inr ⟨b,c,_,rfl,n,yJ b _ e (d*e.length) f wr q qo,o,s,?_,?_⟩⟩
 ·grind
 show take _ (_++_++_)=_
 have k:(f.toList.take (d*e.length)++e).length=d*e.length+e.length:=by grind
 rw[Qz0,k,l8 qo,m,l,<-pA (tD e) d 1,KP]
theorem OZ{e f:List Value}(i:R.length=e.length){K:List Nat}{d:ByteArray->List Value}(c:ByteArray)(h:∀(b:Nat) (a:Value),R[b]?=some a->∃c,e[b]?=some (.string c)/\MkR w K a (d c))(j:∀a∈f,MkR w K a (d c)):∀(b:Nat) (a:Value),(R++f)[b]?=some a->∃g,(e++f.map λ_=>Value.string c)[b]?=some (.string g)/\MkR w K a (d g):=by grind
theorem BL.files{K:List Nat}{a:Nat->List Value}(b:BL w K a)(e:(a 5).length=(a 7).length)(d:List Value)(c:ByteArray)(f:∀g∈d,MkR w K g (cF c)):BL w K (aR (aR a 5 (a 5++d)) 7 (a 7++d.map λ_=>Value.string c)):=
  ⟨b.pl,b.pr,b.pe,OZ e c b.fi f,b.st⟩
theorem BL.steps{K:List Nat}{a:Nat->List Value}(b:BL w K a)(e:(a 6).length=(a 8).length)(d:List Value)(c:ByteArray)(f:∀g∈d,MkR w K g (cS c)):BL w K (aR (aR a 6 (a 6++d)) 8 (a 8++d.map λ_=>Value.string c)):=
  ⟨b.pl,b.pr,b.pe,b.fi,OZ e c b.st f⟩
theorem XO:(prog.info? 115).map (λa=>(a.zero,a.size,a.bytes))=some (some (.agg #[.string ⟨#[]⟩,.string ⟨#[]⟩]),2,32):=qk
theorem XR:(prog.info? 51).map (λa=>(a.zero,a.size,a.bytes))=some (some (.slice none 0 0),1,24):=qk
theorem XV:(prog.info? 9).map (λa=>(a.zero,a.size,a.bytes))=some (some (.string ⟨#[]⟩),1,16):=qk
theorem Cj(e O f base:Nat)(K:List Nat)(bx:Value)(ao:List Value)(B:World)(be:Bk B e K O)(hN:O<=2200000)(V:B.ownsRow base 115 2 bx f ao)(ff:0<f)(gh:f<=10000010)(fy:e<base)(hK:∀Y∈K,Y<base):Cs 66 #[pt e,bx] B λg w'=>g=.returned (.tuple #[])/\OwnP B e O K bx.ownBlock.toList w':=by
 obtain⟨di,dd,de,df,bu⟩:=Z2 XO;obtain⟨fs,ex,fo,fp,fq⟩:=Z2 XV;obtain⟨ft,ey,fl,fm,fn⟩:=Z2 XR;obtain⟨i,y,rfl⟩:=bK V ff;have cx:ao.length=f*2:=V.1;obtain⟨gi,gj⟩:base<=i/\i<B.heap.size:=V.lt i rfl;obtain⟨⟨j,h,nx,J,P,h2,h3,h4,h5,h6,h7,h8,h9,ck,bf⟩,bs,au⟩:=be;have fg:=P.nxt;have fh:=P.fz 9;have ga:=P.lt;have ew:e≠i:=qo;obtain⟨I,R⟩:=nm (nx-1);obtain⟨E,ae⟩:=nm (B.setCell ⟨e,9,none⟩ (ii I));have Zq:Fr [e] B E:=by rw[ae];exact(r0 _ _).setCell _ _ qs
 have ay:Hi (BR E e j h I):=by
  show BR E e j h I
  rw[ae];exact P.mark I
 have dn:Hi (BL E J h):=h2.fr Zq (λc k g=>bs (by
           have:c=e:=by simpa using g
           subst this;exact(bf c k).1))
 have el:Hi (E.ownsRow base 115 2 (.slice (so i) f y) f ao):=aF V Zq (λp q g=>by simp[Value.ownBlock]at q g;omega);have HX:=(show Hi _ from And.intro h3 (And.intro h4 (And.intro h5 (And.intro h6 (And.intro h7 (And.intro ck bf))))));have ec:=aA bs;have dw:=aA au;have fe:-(3*(O:Int))-1<=I/\I<=0:=qo;have HM:=aA R;have dp:=aA Zq;have db:B.heap.size=E.heap.size:=by rw[ae];simp[World.setCell]
 have bd:=aA db;have gb:e<E.heap.size:=ay.o.lt;have fd:=ay.o.nxt;have CM:=(show Hi _ from IR I qo E);clear P h2 h3 h4 h5 h6 h7 ck bf bs au Zq V db
 delta Cs;go_in
 go_wp2_with fail
 rw[<-R,<-ae];clear R ae fg fh
 go_wp2_with fail
 refine cm CM.o ?_;rintro g wm ⟨a,rfl,bn⟩;have fi:=bn.size;obtain⟨W1,ap⟩:=nm (wm.alloc (.cells #[.string a,.string a] 115));have aa:Fr [] E W1:=by rw[ap];exact bn.alloc _
 have aw:W1.heap[wm.heap.size]?=some (.cells #[.string a,.string a] 115):=by rw[ap];exact aC _ _
 have gk:=aa.size;have fk:=aH aw;obtain⟨xb,dg⟩:=nm wm.heap.size;clear CM
 go_wp2_with fail
 rw[<-ap];rw[<-dg]at aw fk fi |-;have cd:=aA aa;have em:=aA (aF el.o aa qs);have ac:=aA (ay.o.fr aa qs qs);have Zt:=aA (dn.o.fr aa qs);have gw:xb≠i:=by have:=bd.o;omega
 have cj:Hi (∀l,Fr [i] W1 l->l.cell? ⟨xb,0,none⟩=some (.string a)/\l.cell? ⟨xb,1,none⟩=some (.string a)):=λl hf=>by have hh:=hf.heap aw qt;exact⟨aB hh,aB hh⟩
 clear aa aw fd ap dg bn
 go_loopw [6] (fun r wr=>∃d:Nat,d<=f/\r=ii d/\FillG W1 base f i y 115 ao (cF a) d wr) (fun r _=>f-(intOf r).toNat)
 ·exact⟨0,Z3 _,rfl,by simpa[aW]using em.o,r0 _ _⟩
 obtain⟨d,m,rfl,hI⟩:=hrel;obtain⟨e0,e1⟩:=cj.o wr hI.fr
 by_cases br:d<f
 ·have ez:(d:Int)<(f:Int):=qo;have aj:=hI.there br;obtain⟨o0,d0⟩:=Zq4.1 (aj 0 qs).1;obtain⟨o1,d1⟩:=Zq4.1 (aj 1 qs).1;have z0:=(aj 0 qs).2;have z1:=(aj 1 qs).2;simp only[length_cons,length_nil,Nat.zero_add,Nat.reduceAdd,Nat.add_zero]at d0 z0 d1 z1;have HP:=(show Hi _ from hI.put br cx);clear hI aj;go_wp2;go_roundw
  ·exact⟨d+1,br,by go_num,HP.o⟩
  simp[intOf];omega
 have ez:¬(d:Int)<(f:Int):=qo;have cz:d=f:=qo;obtain⟨bt,af⟩:=hI;rw[cz,Z6 (by rw[cx];exact Q9 _),Zq6]at bt;have cf:Hi (wr.ownsRow base 115 2 (.slice (so i) f y) f (aW 2 (dM (cF a)) f)):=bt;clear cz bt;obtain⟨W2,ct⟩:=nm wr;rw[<-ct]at cf af e0 e1 |-;clear ct;have fx:base<=W2.heap.size:=by have:=af.size;have:=bd.o;omega
 have dq:=aA af;have cg:Hi (∀d,∀v∈aW 2 (dM (cF a)) d,v.oneCell'=true):=λd v W=>by
  obtain⟨r,_,rfl⟩:=Qk7.1 W;have hj:r%2<2:=Nat.mod_lt _ qo;have:r%2=0\/r%2=1:=qo
  show Value.oneCell' ((cF a).getD (r%2) (ii 0))=true
  obtain g|g:=this<;>(rw[g];rfl)
 have bz:Hi (∀(l:World) (cs:Array Value),l.ownsRow base 115 2 (.slice (so i) f y) f (aW 2 (dM (cF a)) f)->(l.alloc (.cells cs 115)).ownsRow base 115 2 (.slice (so i) f y) f (aW 2 (dM (cF a)) f)):=λl cs be=>be.alloc _;have ea:Hi (∀(l:World) (r:Nat) (v:Value),(aW 2 (dM (cF a)) 1)[r]?=some v->(l.alloc (.cells #[.string a,.string a] 115)).cell? ((⟨l.heap.size,0,none⟩:Addr).add r)=some v):=λl=>dQ l (aW 2 (dM (cF a)) 1) 115;have eb:Hi (∀(l:World) (r:Nat) (v:Value),(aW 2 (dM (cF a)) 2)[r]?=some v->(l.alloc (.cells #[.string a,.string a,.string a,.string a] 115)).cell? ((⟨l.heap.size,0,none⟩:Addr).add r)=some v):=λl=>by have g:aW 2 (dM (cF a)) 2=[.string a,.string a,.string a,.string a]:=KQ (cF a);rw[g];exact dQ l [.string a,.string a,.string a,.string a] 115
 have gn:=af.size;obtain⟨n,av⟩:=nn ((h 5).length);obtain⟨a3,q3,ab⟩:=gL (ac.o.own 5 qo);rw[av]at ab;have gf:n<=3*O:=by have:=HX.o.2.2.2.2.1;omega
 have bv:∀d,d<9->(j d).ownBlock≠some i:=λd m g=>by have:=hK i (HX.o.2.2.2.2.2.1 d m i g);omega
 have ce:Hi (∀l,Fr [i] W1 l->l.cell? ⟨e,5,none⟩=some (.slice a3 n q3)/\l.frozen? ⟨e,5,none⟩=false/\l.ownsRow 0 51 1 (.slice a3 n q3) n (h 5)/\BR l e j h I/\BL l J h):=λl hf=>by
  have ar:=ac.o.fr hf qt (λd m p q=>by simp;intro g;subst g;exact bv d m q);have au:∀c∈J,c∉[i]:=λc k g=>by
   have e':c=i:=by simpa using g
   subst e';have:=hK c (HX.o.2.2.2.2.2.2 c k).1;omega
  refine⟨by rw[ar.cell 5 qo,ab],ar.fz 5,?_,ar,Zt.o.fr hf au⟩;have:=ar.own 5 qo;rw[ab,av]at this;exact this
 have cb:Hi (e∉(Value.ownBlock (.slice a3 n q3)).toList):=λg=>ac.o.nb 5 qo (by rw[ab];simpa using g);have ch:=aA ab;have dx:=aA av;have ek:=aA bv;clear af ab av bv
 go_wp2_with (first
   |(
     at_builtin
     refine eU rfl (.tmp 34) (.tmp 36) 51 rfl base 115 di (.agg #[.string ⟨#[]⟩,.string ⟨#[]⟩]) 2 32 Qq6 dd de df bu rfl (.slice (so i) f y) f (aW 2 (dM (cF a)) f) rfl (bz.o _ _ cf.o) ⟨W2.heap.size,0,none⟩ 1 1 (aW 2 (dM (cF a)) 1) rfl rfl (ea.o W2) (cg.o 1) qm qo qt qo ?_;intro v1 X S ag F;obtain⟨g1,c1,rfl⟩:=bK S qo;have ee:=aA S;have du:=aA ag;have dk:Hi (fQ (W2.alloc (.cells #[.string a,.string a] 115)) X (.slice (so i) f y) (.slice (so g1) (f+1) c1)):=F;have bg:=(dq.o.alloc _).trans (bO F) (λY D=>.inl D);have dr:=aA bg;have go:W2.heap.size<=X.heap.size:=(by have:=(bO F).size;simp at this;omega);obtain⟨e0,e1⟩:=cj.o X bg;clear S ag F bg)
   |(
     at_builtin
     refine eU rfl (.tmp 38) (.tmp 41) 51 rfl base 115 di (.agg #[.string ⟨#[]⟩,.string ⟨#[]⟩]) 2 32 Qq6 dd de df bu rfl (.slice (so i) f y) f (aW 2 (dM (cF a)) f) rfl (bz.o _ _ du.o) ⟨X.heap.size,0,none⟩ 2 2 (aW 2 (dM (cF a)) 2) rfl rfl (eb.o X) (cg.o 2) qm qo qt qo ?_;intro v2 w S ag F;obtain⟨g2,c2,rfl⟩:=bK S qo;have ef:=aA S;have dv:=aA ag;have dl:Hi (fQ (X.alloc (.cells #[.string a,.string a,.string a,.string a] 115)) w (.slice (so i) f y) (.slice (so g2) (f+2) c2)):=F;have bh:=(dr.o.alloc _).trans (bO F) (λY D=>.inl D);have az:=aA bh;have gp:X.heap.size<=w.heap.size:=(by have:=(bO F).size;simp at this;omega);obtain⟨bm,dh,da,_,_⟩:=ce.o w bh;have cw:=aI bm;have eg:=aA da;clear da;clear S ag F bh)
   |(
     at_builtin
     have ej:Hi ((w.alloc (.cells #[Value.slice (so i) f y,.slice (so g1) (f+1) c1,.slice (so g2) (f+2) c2] 51)).ownsRow 0 51 1 (.slice a3 n q3) n (h 5)):=Zq7 eg.o _;refine eU rfl (.tmp 47) (.tmp 51) 65 rfl 0 51 ft (.slice none 0 0) 1 24 underlying65 ey fl fm fn rfl (.slice a3 n q3) n (h 5) rfl ej.o ⟨w.heap.size,0,none⟩ 3 3 [Value.slice (so i) f y,.slice (so g1) (f+1) c1,.slice (so g2) (f+2) c2] rfl rfl (dQ w _ 51) qc qm qo qo qo ?_;intro v6 x H m z;obtain⟨t,s,rfl⟩:=bK H qo;have bo:=bO z;have bu:=(bo.cell e 5 qt cb.o).trans ((((r0 [] w).alloc _).cell e 5 cw qs).trans bm);have gx:=(bo.frozen e 5 qt cb.o).trans ((((r0 [] w).alloc _).frozen e 5 cw qs).trans dh);obtain⟨_,_,_,cn,cq⟩:=ce.o w az.o;have dz:=aA cq;have bj:Fr [] w (w.alloc (.cells #[Value.slice (so i) f y,.slice (so g1) (f+1) c1,.slice (so g2) (f+2) c2] 51)):=(r0 _ _).alloc _;obtain⟨A,bk⟩:∃en,en=[Value.slice (so i) f y,.slice (so g1) (f+1) c1,.slice (so g2) (f+2) c2]:=⟨_,rfl⟩;obtain⟨C,cp⟩:=(cn.fr bj qs qs).push 5 qo (.slice (so t) (n+3) s) A (by rw[bk,dx.o];exact H) (by rw[ch.o];exact z);have ds:=aA (bj.qO.trans cp (λY D=>.inl D));have dt:Hi (∀p,Value.ownBlock (.slice (so t) (n+3) s)=some p->(j 5).ownBlock=some p\/w.heap.size<=p):=λp q=>by
       obtain b|b:=gK z p q
       ·exact .inl (by rw[ch.o];exact b)
       simp at b;exact .inr qo
     obtain⟨u,bq⟩:=nn ((h 7).length);have ah:=C.own 7 qo;rw[show aR h 5 (h 5++A) 7=h 7 from rfl,show aR j 5 (.slice (so t) (n+3) s) 7=j 7 from rfl,bq]at ah;obtain⟨a4,q4,ai⟩:=gL ah;rw[ai]at ah;have gg:u<=3*O:=by have:=HX.o.2.2.2.2.1;have:=HX.o.2.1;omega
     have gd:x.cell? ⟨e,7,none⟩=some (.slice a4 u q4):=by have b:=C.cell 7 qo;rw[cE _ _ _ _ _ _ (.inr qo),show aR j 5 (.slice (so t) (n+3) s) 7=j 7 from rfl,ai]at b;exact b
     have dc:(x.setCell ⟨e,5,none⟩ (.slice (so t) (n+3) s)).heap.size=x.heap.size:=by simp[World.setCell]
     have eh:Hi (((x.setCell ⟨e,5,none⟩ (.slice (so t) (n+3) s)).alloc (.cells #[Value.string a,.string a,.string a] 9)).ownsRow 0 9 1 (.slice a4 u q4) u (h 7)):=Zq7 ah _;have ed:Hi (∀(r:Nat) (v:Value),[Value.string a,.string a,.string a][r]?=some v->((x.setCell ⟨e,5,none⟩ (.slice (so t) (n+3) s)).alloc (.cells #[Value.string a,.string a,.string a] 9)).cell? ((⟨x.heap.size,0,none⟩:Addr).add r)=some v):=by have b:=dQ (x.setCell ⟨e,5,none⟩ (.slice (so t) (n+3) s)) [Value.string a,.string a,.string a] 9;rw[dc]at b;exact b
     have cc:Hi (e∉(Value.ownBlock (.slice a4 u q4)).toList):=λg=>C.nb 7 qo (by rw[show aR j 5 (.slice (so t) (n+3) s) 7=j 7 from rfl,ai];simpa using g);have ax:=aA C;have bc:=aA ai;have dy:=aA bq;have ba:=aA bk;have ev:e<x.heap.size:=by have:=C.lt;omega
     clear cn cq bj C cp ah ai bq bk H m z bo bm dh)
   |(
     at_builtin
     refine eU rfl (.tmp 59) (.tmp 63) 38 rfl 0 9 fs (.string ⟨#[]⟩) 1 16 underlying38 ex fo fp fq rfl (.slice a4 u q4) u (h 7) rfl eh.o ⟨x.heap.size,0,none⟩ 3 3 [Value.string a,.string a,.string a] rfl rfl ed.o qc qm qo qo qo ?_;intro v9 w9 H m z;obtain⟨M,L,rfl⟩:=bK H qo;have an:Hi (Fr [] (x.setCell ⟨e,5,none⟩ (.slice (so t) (n+3) s)) ((x.setCell ⟨e,5,none⟩ (.slice (so t) (n+3) s)).alloc (.cells #[Value.string a,.string a,.string a] 9))):=(r0 _ _).alloc _;have aq:e<(x.setCell ⟨e,5,none⟩ (.slice (so t) (n+3) s)).heap.size:=by rw[dc];exact ev
     have bl:=Z1 aq an.o.size;have ge:=((bO z).cell e 7 bl cc.o).trans ((an.o.cell e 7 aq qs).trans ((ax.o.cell 7 qo).trans (by rw[show aR j 5 (.slice (so t) (n+3) s) 7=j 7 from rfl,bc.o])));have gy:=((bO z).frozen e 7 bl cc.o).trans ((an.o.frozen e 7 aq qs).trans (ax.o.fz 7));have ei:=aA H;have dm:Hi (fQ ((x.setCell ⟨e,5,none⟩ (.slice (so t) (n+3) s)).alloc (.cells #[Value.string a,.string a,.string a] 9)) w9 (.slice a4 u q4) (.slice (so M) (u+3) L)):=z;clear H m z aq bl))
 refine Q5 (v:=.tuple #[]) (Q6 rfl _ _ _) rfl ⟨rfl,?_⟩
 show OwnP B e O K [i] _
 obtain⟨N,ep,eq,fa,fb,fc⟩:=qE (tD (cF a)) ee.o dk.o dv.o ef.o dl.o;have es:∀v∈A,MkR w N v (cF a):=λv W=>by
  rw[ba.o]at W;simp only[mem_cons,not_mem_nil,or_false]at W;obtain rfl|rfl|rfl:=W
  ·exact Mkg.rows (cs:=cF a) fa qo
  ·exact Mkg.rows (cs:=cF a) fb qo
  exact Mkg.rows (cs:=cF a) fc qo
 have er:∀c∈N,c=i\/W2.heap.size<=c:=λc k=>by
  obtain b|b:=ep c k
  ·simp[Value.ownBlock]at b;exact .inl b.symm
  exact .inr b
 obtain⟨x3,x4,x5,x6,x7,Zs,fw⟩:=HX.o;obtain⟨v3,fj⟩:=nm (Value.slice (so t) (n+3) s);obtain⟨W7,et⟩:=nm (x.setCell ⟨e,5,none⟩ (.slice (so t) (n+3) s));have C:=ax.o;have bi:=ds.o;have Zr:=an.o;have z:=dm.o;have cy:=dt.o;have H:=ei.o;rw[<-et]at C bi Zr z;rw[<-fj]at C cy;obtain⟨ad,co⟩:=(C.fr Zr qs qs).push 7 qo (.slice (so M) (u+3) L) [Value.string a,.string a,.string a] (by rw[show aR h 5 (h 5++A) 7=h 7 from rfl,dy.o];exact H) (by rw[show aR j 5 v3 7=j 7 from rfl,bc.o];exact z);rw[show aR j 5 v3 7=j 7 from rfl]at co;rw[show aR h 5 (h 5++A) 7=h 7 from rfl]at ad;have am:Fr (e::((j 5).ownBlock.toList++(j 7).ownBlock.toList)) w (w9.setCell ⟨e,7,none⟩ (.slice (so M) (u+3) L)) :=
  ((bi.mono (λY D=>.inl (by obtain b|b:=Qq0.1 D<;>simp_all))).qT Zr).trans co (λY D=>.inl (by obtain b|b:=Qq0.1 D<;>simp_all))
 obtain⟨WT,eu⟩:=nm (w9.setCell ⟨e,7,none⟩ (.slice (so M) (u+3) L));rw[<-eu]at ad am |-;have gv:=am.size;have V:=λd m p q=>((ac.o.own d m).lt p q).2;have gm:B.heap.size<=W1.heap.size:=by have:=bd.o;have:=cd.o.size;omega
 have gq:=bi.size;have gu:=Zr.size;have cr:A.length=3:=by rw[ba.o];rfl
 have gc:=ac.o.lt;have gt:=az.o.size;have Q:∀c∈J++N,c≠e/\(∀d,d<9->(j d).ownBlock≠some c)/\(c∈K\/c∈[i]\/B.heap.size<=c)/\c<w.heap.size:=λc k=>by
  obtain b|b:=m5.1 k
  ·obtain⟨t1,t2⟩:=fw c b;exact⟨λg=>ec.o (g ▸ t1),t2,.inl t1,by have:=dw.o c t1;omega⟩
  have cu:=eq c b;obtain ak|ak:=er c b
  ·subst ak;exact⟨λg=>ew g.symm,ek.o,.inr (.inl qs),cu⟩
  exact⟨by omega,λd m g=>by have:=V d m c g;omega,.inr (.inr qo),cu⟩
 have fu:∀c,c≠e->(∀d,d<9->(j d).ownBlock≠some c)->c∉e::((j 5).ownBlock.toList++(j 7).ownBlock.toList):=λc P h2 R=>by
  obtain b|b:=Qq0.1 R
  ·exact P b
  obtain b|b:=m5.1 b
  ·exact h2 5 qo (qu b)
  exact h2 7 qo (qu b)
 have eo:BL WT (J++N) (aR (aR h 5 (h 5++A)) 7 (h 7++[Value.string a,.string a,.string a])):=by have b:=((dz.o.up (K':=J++N) (λc k=>Qk3 _ k)).files x4.2.1 A a (λv W=>(es v W).up (λc k=>Qk6 _ k))).fr am (λc k=>fu c (Q c k).1 (Q c k).2.1);rw[show(A.map λ_=>Value.string a)=[Value.string a,.string a,.string a] by rw[ba.o];rfl]at b;exact b
 have dj:∀d,d<9->∀p,(aR (aR j 5 v3) 7 (.slice (so M) (u+3) L) d).ownBlock=some p->(∃k',k'<9/\(j k').ownBlock=some p)\/w.heap.size<=p:=λd m p q=>by
  by_cases k4:d=7
  ·subst k4;rw[iG]at q;obtain b|b:=gK z p q
   ·exact .inl ⟨7,by omega,by rw[bc.o];exact b⟩
   exact .inr qo
  rw[iA _ _ k4]at q
  by_cases k3:d=5
  ·subst k3;rw[iG]at q;obtain b|b:=cy p q
   · exact .inl ⟨5,by omega,b⟩
   exact .inr b
  rw[iA _ _ k3]at q;exact .inl ⟨d,m,q⟩
 have bw:∀c,c∈(range 9).filterMap (λd=>(aR (aR j 5 v3) 7 (.slice (so M) (u+3) L) d).ownBlock)->∃d,d<9/\(aR (aR j 5 v3) 7 (.slice (so M) (u+3) L) d).ownBlock=some c:=λc k=>by obtain⟨d,m,g⟩:=Qk4.1 k;exact⟨d,Qk5.1 m,g⟩
 refine⟨⟨(J++N)++(range 9).filterMap (λd=>(aR (aR j 5 v3) 7 (.slice (so M) (u+3) L) d).ownBlock),⟨⟨_,_,I,J++N,ad,eo,x3,?_,?_,?_,?_,?_,fe.2,λd m p q=>?_,λc k=>⟨Qk3 _ k,λd m g=>?_⟩⟩,λR=>?_,λc k=>?_⟩,λc k=>?_⟩,?_⟩
 ·refine⟨x4.1,?_,x4.2.2⟩
  show(h 5++A).length=(h 7++[Value.string a,.string a,.string a]).length
  rw[m8,m8,cr,x4.2.1];rfl
 ·show(h 0).length<=_
  omega
 ·show(h 2).length<=_
  omega
 ·show(h 3).length<=_/\(h 5++A).length<=_/\(h 6).length<=_
  rw[m8,cr];omega
 ·omega
 ·exact Qk6 _ (Qk4.2 ⟨d,Qk5.2 m,q⟩)
 ·obtain⟨k',bp,b⟩|b:=dj d m c g
  ·exact(Q c k).2.1 k' bp b
  have:=(Q c k).2.2.2;omega
 ·obtain b|b:=m5.1 R
  ·exact(Q e b).1 rfl
  obtain⟨d,m,g⟩:=bw e b;exact ad.nb d m g
 ·obtain b|b:=m5.1 k
  ·have:=(Q c b).2.2.2;omega
  obtain⟨d,m,g⟩:=bw c b;exact((ad.own d m).lt c g).2
 ·obtain b|b:=m5.1 k
  ·exact(Q c b).2.2.1
  obtain⟨d,m,g⟩:=bw c b;obtain⟨k',bp,ak⟩|ak:=dj d m c g
  ·exact .inl (Zs k' bp c ak)
  exact .inr (.inr qo)
 refine(((dp.o.mono (λY D=>.inl qa)).qT cd.o).trans az.o (λc k=>.inl qa)).trans am (λc k=>?_);obtain b|b:=Qq0.1 k
 ·exact .inl (by simp[b])
 obtain b|b:=m5.1 b
 ·exact .inl (by simp[Zs 5 qo c (qu b)])
 exact .inl (by simp[Zs 7 qo c (qu b)])
