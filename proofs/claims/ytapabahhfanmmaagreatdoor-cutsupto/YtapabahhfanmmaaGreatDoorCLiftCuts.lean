import Derived.Test.YtapabahhfanmmaaGreatDoorCLawC0
import Derived.Test.YtapabahhfanmmaaGreatDoorCLawW
import Derived.Test.YtapabahhfanmmaaGreatDoorTie
import Derived.Test.YtapabahhfanmmaaGreatDoorCards
import Derived.SevenTiedAt
import Derived.Deep.DeepHandedRow
import Derived.Lib.LaidTab
namespace Go.Proofs.YtapabahhfanmmaaGreatDoor
open Go.RowKit List Go.Proofs.Tryz
set_option maxHeartbeats 16000000
set_option maxRecDepth 100000
variable {a:Nat}
variable {n0:Nat} {lb xb pb cap:Nat} {S bo:List Nat} {mv stv:Value} {g:Gf} {yb gb qb cap2:Nat} {fst:Int} {bv:Value} {bs:List Pf} {tv kv:Value} {sts:List T} {mk:List Mk3} {t:T} {log:List UInt8} {steps:List Stp}
theorem TU(w0 n:World)(kd R:Int)(bb:List Int)(fa sa ia ga:Option Addr)(fn fc sn dy il ic gl gc:Nat)(tx:ByteArray)(z:LX w0.heap.size n lb xb pb cap S bo mv stv g yb gb qb cap2 fst bv bs tv kv sts mk t log steps)(hh:HI bs g fst sts mk t log steps a)(hN:a<=1048576)(hn:lM R)(hg:IntsV n (.slice ga gl gc) bb)(ff:bb.length<=1000000000)(gy:w0.heap.size<=n.heap.size)(au:Sd n)(du:Tb n):Cs 70 #[pt lb,.agg #[ii kd,.slice fa fn fc,.slice sa sn dy,.string tx,.slice ia il ic,ii R,.slice ga gl gc]] n λm c=>CuP w0.heap.size n lb a m c:=by
 have HX:=aA (λc (e:Fr [] n c)=>z.qF e);obtain⟨hr,ht,gx⟩:=hh.bd qo;have dr:=hh.s0;obtain⟨ba,ev,ew,_⟩:=hh.sz;obtain⟨D9,_,lv,cu,_,_,an⟩:=hh.ex;obtain⟨l,mr,br⟩:=an.m0;have gn:l<=steps.length:=an.all (l,0,0) (by rw[br];exact List.mem_cons_self);have am:=aA hh;have ed:=aA an;have ef:=(show Hi (cQ (eB bs) steps=some D9)from cu);have ch:=aA br;have HG:=aA (λc (e:Fr [] n c)=>hg.qF e);have eo:=aA au;have ep:=aA du;have fq:=z.te;have fk:=z.me;have ey:bs.length<=100000000:=qo;obtain⟨W1,de,cx,bm⟩:=al n (.cells #[ii kd,.slice fa fn fc,.slice sa sn dy,.string tx,.slice ia il ic,ii R,.slice ga gl gc] 70);have bi:=HX.o W1 cx;have c0:ca W1 lb 0 (pt xb):=aB bi.h;have L:=(show Hi _ from qQ W1 bi.rs qo dr);clear z hh an cu br hg au du bi ev ew
 delta Cs;go_in
 go_upto_region 1 with(fail)
 rw[<-de];have hd:=aH bm;clear de
 go_wp2_with fail
 refine cm L.o ?_;rintro m i ⟨v3,rfl,Zr,bk⟩;obtain⟨p,sc,rfl⟩:=bK Zr dr;have cn:Hi (∀(f:Nat) (k:Stp),steps[f]?=some k->i.cell? ⟨p,f*4,none⟩=some (ii k.what)/\i.cell? ⟨p,f*4+1,none⟩=some (sv k.name)/\i.cell? ⟨p,f*4+2,none⟩=some (sv k.to)/\i.cell? ⟨p,f*4+3,none⟩=some (sv k.data)):=λf k E=>by have r:=Zr.cells (g:=p) rfl;have w:=r _ _ (lZ steps f 0 k E qo);have F:=r _ _ (lZ steps f 1 k E qo);have H:=r _ _ (lZ steps f 2 k E qo);have k3:=r _ _ (lZ steps f 3 k E qo);rw[Addr.add_lit,Nat.zero_add]at w F H k3;exact⟨w,F,H,k3⟩
 have fo:=Zr.lt p rfl;have bc:=cx.qT bk;have O:=HX.o i bc;obtain⟨C,kc,bq⟩:=bK O.mr fk;have c5:i.cell? ⟨lb,5,none⟩=some (.slice (so C) mk.length kc):=by rw[<-bq];exact aB O.h
 have cj:Hi (∀ad,Fr [] i ad->∀(f:Nat) (h:Mk3),mk[f]?=some h->ad.cell? ⟨C,f*3,none⟩=some (ii (h.1:Int))/\ad.cell? ⟨C,f*3+1,none⟩=some (ii (h.2.1:Int))/\ad.cell? ⟨C,f*3+2,none⟩=some (ii (h.2.2:Int))):=λad e f h E=>by have r:=O.mr.cells (g:=C) (by rw[bq];rfl);have w:=r _ _ (qF mk f 0 h E qo);have F:=r _ _ (qF mk f 1 h E qo);have H:=r _ _ (qF mk f 2 h E qo);rw[Addr.add_lit,Nat.zero_add]at w F H;exact⟨(e.cell C _ (aI w) qs).trans w,(e.cell C _ (aI w) qs).trans F,(e.cell C _ (aI w) qs).trans H⟩
 have m0:i.cell? ⟨C,0,none⟩=some (ii (l:Int)):=by have:=(cj.o i (r0 _ _) 0 (l,0,0) (by rw[ch.o];rfl)).1;rwa[Nat.zero_mul]at this
 have gw:(0:Int)<(mk.length:Int):=qo;have bn:=bk.qH bm;have o5:ca i n.heap.size 5 (ii R):=aB bn;have c2:ca i lb 2 bv:=aB O.h;obtain⟨va,vn,vc,dg⟩:∃eq R u,bv=.slice eq R u:=by obtain⟨_,_,m,_⟩|⟨_,_,_,m,_⟩:=O.bf<;>exact⟨_,_,_,m⟩
 have az:=(show Hi _ from IP bv bs i O.bf.v ey);have CP:=aA (λh (P:h=((steps.length-l+1:Nat):Int))=>Cy R h _ i P hn qo qo);rw[dg]at c2 az;have ce:=aA bn;clear L Zr c0 O bq dg bm bn
 go_wp2_with fail
 refine cm (CP.o _ (by first|omega|(simp only[IntKind.wrap_i64];omega))) ?_;rintro m hw ⟨⟨j,hq,rfl⟩,rfl⟩;clear CP
 go_wp2_with fail
 refine cm az.o ?_;rintro m J ⟨B,rfl,ap,gq,aq⟩;have he:=bk.size;have hj:=aq.size;have gt:=ap.lt;have gm:=bc.qT aq;have ck:Hi (∀o,OwB J B o->i.heap.size<=o/\o<J.heap.size):=λo A=>by have:=ap.own A;exact⟨this.1,this.2.1⟩
 have au:p≠B:=qo;have aw:Hi (∀wr,FrB B J wr->(∀I,wr.cell? ⟨p,I,none⟩=i.cell? ⟨p,I,none⟩)/\Fr [] i wr):=λwr hB=>by
  obtain⟨Z,hZ,hn⟩:=hB.keep [p] (λo A=>by simp only[mem_cons,not_mem_nil,or_false]at A;subst A;exact⟨by omega,au,λm=>by have:=ck.o _ m;omega⟩)
  refine⟨λI=>(hZ.cell p I qo (hn p qs)).trans (aq.cell p I fo.2 qs),?_⟩;obtain⟨⟨Z',h1,h2⟩,_⟩:=hB;refine aq.trans h2 (λo A=>.inr ?_);obtain j|j|j:=h1 o A
  ·omega
  ·have:=ck.o o j;omega
  omega
 have cf:Hi (DI J i.heap.size B bs steps 0 J):=⟨⟨eB bs,rfl,ap⟩,FrB.refl _ _⟩;have bj:l+j<=steps.length:=qo;clear ap az m0 o5 c2 hq;go_wp2
 go_loopw [10] (fun f wr=>∃d:Nat,d<=l+j/\f=ii d/\DI J i.heap.size B bs steps d wr) (fun f _=>l+j-(intOf f).toNat)
 ·exact⟨0,Nat.zero_le _,rfl,cf.o⟩
 clear cf;obtain⟨d,hk,rfl,hI⟩:=hrel
 by_cases gu:d<l+j
 ·have dl:(d:Int)<(l:Int)+(j:Int):=qo;have gv:(d:Int)<(steps.length:Int):=qo;obtain⟨k,hs⟩:∃k,steps[d]?=some k:=⟨_,getElem?_eq_getElem qo⟩;obtain⟨⟨ec,hE,ae⟩,af⟩:=hI;obtain⟨D',cr,cs⟩:=DV hs hE ef.o;obtain⟨b1,a1,b2,_,b3⟩:=am.o.disk qo qo hE;have W:=DS i.heap.size B ec D' k wr ae qo (am.o.fm k (mem_of_getElem? hs)).1 (λx e=>by have:=(b3 x e).2;omega) cr;obtain⟨w,F,H,k3⟩:=cn.o d k hs;have cc:=λI ge (hu:i.cell? ⟨p,I,none⟩=some ge)=>((aw.o wr af).1 I).trans hu;have g0:=cc _ _ w;have g1:=cc _ _ F;have g2:=cc _ _ H;have g3:=cc _ _ k3;obtain⟨wh,nm,gd,dt⟩:=k;obtain⟨gg,hA⟩:∃q:ByteArray,q=⟨nm.toArray⟩:=⟨_,rfl⟩;obtain⟨gh,hB⟩:∃q:ByteArray,q=⟨gd.toArray⟩:=⟨_,rfl⟩;obtain⟨gi,hC⟩:∃q:ByteArray,q=⟨dt.toArray⟩:=⟨_,rfl⟩;dsimp only[nZ,sv]at g0 g1 g2 g3 W;rw[<-hA]at g1 W;rw[<-hB]at g2 W;rw[<-hC]at g3 W;have Zs:=aA W;have ee:=aA cs;have eg:=(show Hi (FrB B J wr)from af);clear W hA hB hC hE ae cr cs b1 b2 b3 cc w F H k3 hs
  go_wp2_with fail
  refine cm Zs.o ?_;rintro m w5 ⟨rfl,ct,N⟩;have dc:DI J i.heap.size B bs steps (d+1) w5:=⟨⟨D',ee.o,ct⟩,eg.o.trans N⟩;have ei:=aA dc;clear Zs ct dc g0 g1 g2 g3;go_wp2;go_roundw
  ·exact⟨d+1,by omega,by go_num,ei.o⟩
  simp[intOf];omega
 have dl:¬(d:Int)<(l:Int)+(j:Int):=qo;have fh:d=l+j:=qo;subst fh;obtain⟨⟨aj,hD,ae⟩,af⟩:=hI;obtain⟨_,Y⟩:=aw.o wr af;have N:=bc.qT Y;obtain⟨u,r⟩:∃u,u=l+j:=⟨_,rfl⟩;rw[<-r]at hD bj;obtain⟨D',cq,dn,ds,x,e,dj,Zt⟩:=ed.o.cut u (by rw[ch.o];show l<=u;omega) bj;rw[hD]at cq;cases cq;obtain⟨gj,da,gp,gk,cw⟩:=am.o.disk qo bj hD;have co:=(Y.cell lb 5 (aI c5) qs).trans c5;have bz:=aA ae;have en:=aA Zt;have ak:=(show Hi (x∈aj/\x.name=LOG/\(cT aj).Nodup/\∀x∈aj,x.safe<=x.data.length)from⟨e,dj,dn,ds⟩);have cb:=aA cw;have go:(l:Int)+(j:Int)=(u:Int):=qo;have HC:=(show Hi (u=l+j)from r);clear af hD ae Zt e dj dn ds cw cn aw r c5 dl hk
 go_wp2_with fail
 obtain⟨X,df⟩:∃q,q=wr:=⟨_,rfl⟩;rw[<-df]at Y N bz co |-;clear df
 go_loopw [12,13,14,15] (fun k dw mo f gf=>(∃(d s' p':Nat) (Q:Bool),d<=mk.length/\k=ii s'/\dw=ii p'/\mo=.bool Q/\f=ii d/\MkI mk u d s' p' Q)/\X=gf) (fun _ _ _ f _=>mk.length-(intOf f).toNat)
 ·exact⟨⟨0,0,0,true,Nat.zero_le _,rfl,rfl,rfl,rfl,⟨rfl,rfl⟩⟩,rfl⟩
 obtain⟨⟨d,s',p',Q,hk,rfl,rfl,rfl,rfl,hM⟩,rfl⟩:=hrel
 by_cases Zq:Q=true/\d<mk.length
 ·obtain⟨rfl,bp⟩:=Zq;have dk:(d:Int)<(mk.length:Int):=qo;obtain⟨h,P⟩:∃h,mk[d]?=some h:=⟨_,getElem?_eq_getElem bp⟩;obtain⟨e0,e1,e2⟩:=cj.o X Y d h P
  by_cases ab:h.1<=u
  ·have fi:(h.1:Int)<=(l:Int)+(j:Int):=qo;have ay:=(show Hi _ from hM.yes P ab);have ax:=aA ab;clear hM P ab;go_wp2;go_roundw
   ·exact⟨⟨d+1,h.2.2,h.2.1,true,by omega,rfl,rfl,by rw[decide_eq_true ax.o],by go_num,ay.o⟩,(by first|rfl|trivial)⟩
   simp[intOf];omega
  have fi:¬(h.1:Int)<=(l:Int)+(j:Int):=qo;have ay:=(show Hi _ from hM.no P ab);have ax:=(show Hi (¬h.1<=u)from ab);clear hM P ab;go_wp2;go_roundw
  ·exact⟨⟨d+1,s',h.2.1,false,by omega,rfl,rfl,by rw[decide_eq_false ax.o],by go_num,ay.o⟩,(by first|rfl|trivial)⟩
  simp[intOf];omega
 have di:=hM.fin (by cases Q with
  |false=>exact .inl rfl
  |true=>exact .inr (by simp at Zq;omega))
 have eu:=HX.o X N;have o6:ca X n.heap.size 6 (.slice ga gl gc):=aB (Y.qH ce.o);have CT:=(show Hi _ from Jq i.heap.size B aj (.slice ga gl gc) bb X bz.o (HG.o X N) qo ff (λx e=>⟨ak.o.2.2.2 x e,by have:=(cb.o x e).2;omega⟩));have cd:=aA di;have hl:=N.size;have ez:(d<mk.length/\Q=false)\/¬d<mk.length:=by
  by_cases m:d<mk.length
  ·exact .inl ⟨m,by cases Q with
    |false=>rfl
    |true=>exact absurd ⟨rfl,m⟩ Zq⟩
  exact .inr m
 clear hM di Zq eu;obtain⟨bp,rfl⟩|bp:=ez
 focus (
     have dk:(d:Int)<(mk.length:Int):=qo
     go_wp2_with fail)
 rotate_left
 focus (
     have dk:¬(d:Int)<(mk.length:Int):=qo
     go_wp2_with fail)
 all_goals (
  clear co;refine cm CT.o ?_;rintro m w6 ⟨⟨v6,M,rfl,ag,ao⟩,bl⟩;obtain⟨av,tc,rfl⟩:=fD ag;obtain⟨l0,nn,tt,rr,fj,fg,bt,dp⟩:=ao.open ak.o.2.2.1 ak.o.1 ak.o.2.1 en.o;rw[cd.o.1]at fj;rw[cd.o.2]at fg;have be:=N.qT bl;have ho:=bl.size;have CO:=(show Hi _ from JS w0.heap.size w6 (.slice av M.length tc) M (Value.ownBlock (.slice av M.length tc)).toList da (a+1) ag.b (λo A=>by
   have:=World.ownsRow.lt ag o (qu A);omega) qo qo qo (qh ao.1) (λdw hp=>by obtain⟨f',fd,e1,e2⟩:=ao.mem hp;have:=cb.o f' fd;rw[e1];omega) (Sd.qF eo.o be) (Tb.qF ep.o be))
  have em:Hi (∀o∈(Value.ownBlock (.slice av M.length tc)).toList,n.heap.size<=o):=λo A=>by have:=World.ownsRow.lt ag o (qu A);omega
  have L:=(show Hi (sts[nn]?=some tt/\gU M l0 tt rr)from⟨bt,dp⟩);have gz:=(gs.1 bt).1;clear CT ag ao bt dp
  go_wp2_with fail
  refine cm CO.o ?_;intro m s et;obtain⟨fb,dh⟩:=et;obtain⟨ac,eb,dx,er,S7,fw,fz,g7,V,D,bx,cp,es,ea,dv,fy,fu,t7,ft,fx,l7,r7,dq,rfl,aa,bg,dm⟩|⟨fl,_⟩:=fb;rotate_left
  ·exact absurd L.o.2 (fl l0 tt rr)
  dsimp only;have bu:=(JR dq L.o.2).2.1;have cy:=be.qT dh;have fp:t7.turn-fst=(nn:Int):=by rw[bu,am.o.tu nn tt L.o.1];omega
  have ai:=kB bg.op;obtain⟨TX,bh⟩:∃q:ByteArray,q=⟨(aQ t7).toArray⟩:=⟨_,rfl⟩;have CR:Hi (∀c,Fr [] s c->Cs 57 #[pt D] c (R0 c (.string TX))):=λc e=>by rw[bh];exact qV D bx cp t7 c (aa.qF e).y.rg ai.1.ok ai.1.os ⟨ai.1.t0,ai.2.1⟩
  have ah:=HX.o s cy;obtain⟨tb,dz,bw⟩:=bK ah.tl fq;have x3:ca s lb 3 (ii fst):=aB ah.h;have x4:s.cell? ⟨lb,4,none⟩=some (.slice (so tb) sts.length dz):=by rw[<-bw];exact aB ah.h
  have x5:s.cell? ⟨tb,nn,none⟩=some (.string TX):=by have:=ah.tl.cells (g:=tb) (by rw[bw];rfl) nn (mA tt) (by rw[getElem?_map,L.o.1];rfl);rw[Addr.add_lit,Nat.zero_add]at this;rw[bh,bu];exact this
  have y1:ca s ac 1 (pt V):=aB aa.h;have y2:ca s V 0 (pt D):=aB aa.y.h;have y3:=aa.y.rg.c0;have HS:∀c,Fr [] s c->(λc:World=>(ca c ac 1 (pt V)/\ca c V 0 (pt D)/\cl c D 0 t7.turn/\cl c lb 3 fst/\ca c lb 4 (.slice (so tb) sts.length dz)/\ca c tb nn (.string TX))/\Fr [] s c) c:=λc e=>⟨⟨(e.cell ac 1 (aI y1) qs).trans y1,(e.cell V 0 (aI y2) qs).trans y2,(e.cell D 0 (aI y3) qs).trans y3,(e.cell lb 3 (aI x3) qs).trans x3,(e.cell lb 4 (aI x4) qs).trans x4,(e.cell tb nn (aI x5) qs).trans x5⟩,e⟩;have el:Hi (∀c,Fr [] s c->ca c n.heap.size 3 (.string tx)):=λc e=>aB ((((Y.qT bl).qT dh).qT e).qH ce.o);have K0:=HS s.drew ((r0 _ _).drew);have ha:(nn:Int)<(sts.length:Int):=qo;have ej:=aA aa;have eh:=aA bg;have ek:Hi (∀q∈aZ ac eb dx S7 (Value.ownBlock (.slice av M.length tc)).toList V D bx ea dv,n.heap.size<=q):=λq hx=>by
   obtain j|j:=dm q hx
   ·exact em.o q j
   omega
  clear CO aa bg dm dq bu ai bh ah bw x3 x4 x5 y1 y2 y3 o6
  go_wp2_with fail
  refine rg 16 HS K0 λb=>?_
  iterate 14 refine tn 16 b ?_
  refine wpAnyH_take (i:=14) (v:=ii (nn:Int)) (by simp only[G];rfl) qk qk qk (by exact λ_ _ _ z=>z) (.inl ⟨by rfl,?_⟩) b ?_
  ·intro c dd;go_simp
   first|(rw[fp,IntKind.wrap_i64];omega)|(rw[IntKind.wrap_i64];omega);try simp only[Act.put,Z]
  refine ta 15 b ?_;refine wpAnyH_done qk ?_ _;have K1:=HS s.drew.drew (((r0 _ _).drew).drew);clear K0 b
  go_wp2_with fail
  refine rg 26 HS K1 λb=>?_
  iterate 2 refine tn 26 b ?_
  refine tk 2 (.bool false) (by simp only[G];rfl) qk (by exact λ_ _ _ z=>z) (.inl ⟨by rfl,?_⟩) b ?_
  ·intro c dd;go_simp
   try omega;try simp only[Act.put,Z]
  refine ta 3 b ?_;refine ta 4 b ?_;refine ta 5 b ?_;refine tk 6 (.bool false) (by simp only[G];rfl) qk (by exact λ_ _ _ z=>z) (.inl ⟨by rfl,?_⟩) b ?_
  ·intro c dd;go_simp
   try omega;try simp only[Act.put,Z]
  refine ta 7 b ?_;refine ta 8 b ?_;refine ta 9 b ?_;refine ta 10 b ?_;refine ta 11 b ?_;refine ta 12 b ?_;refine ta 13 b ?_;refine ta 14 b ?_;refine ta 15 b ?_;refine ta 17 b ?_;refine ta 18 b ?_;refine ta 19 b ?_;refine ta 20 b ?_;refine ta 21 b ?_;refine ta 22 b ?_;refine ta 23 b ?_;refine rd 16 fun K hK=>?_;have cg:=aA hK;clear hK;go_simp;refine cm (CR.o _ b.2) ?_;rintro m w9 ⟨rfl,fe⟩;have ar:=b.2.qT fe;clear b;refine cg.o _ _ (HS _ ar) (fun b=>?_);clear cg K;try simp only[Act.put,Z]
  refine ta 24 b ?_;refine ta 25 b ?_;refine wpAnyH_done qk ?_ _;have o3:=el.o w9 ar;have cz:=cy.qT ar
  by_cases fr:tx.toList=[]
  ·go_wp2;go_ret2;exact⟨⟨lb,rfl,.inl rfl⟩,cz⟩
  have hv:=beq_eq_false_iff_ne.2 fr;go_wp2;go_ret2;exact⟨⟨ac,rfl,.inr ⟨_,⟨⟨ac,eb,dx,er,S7,_,fw,fz,g7,V,D,bx,cp,es,_,M,ea,dv,fy,fu,t7,ft,fx,rfl,ej.o.qF ar,eh.o,rfl⟩⟩,ek.o⟩⟩,cz⟩)
variable {P:List Pf} {c:Nat} {v:Value} {w x:World}
theorem FilesV.b(c:FilesV w v P)(d:Fr [] w x):FilesB x w.heap.size [] v P:=by
 obtain c|⟨e,k,j,f,a,g⟩:=c
 ·exact .inl c
 exact .inr ⟨e,k,j,f,Z1 a d.size,.inl a,λi l h=>by rw[d.cell e _ a qs,d.cell e _ a qs];exact g i l h⟩
theorem Hz{K:List Nat}(ai:Value)(cw:List Nat)(v:OpD)(x w:World)(hG:LR x.heap.size w ai cw c)(hB:Bk w a K (2*c))(hA:∀d∈cw,d≠a/\d∉K)(hz:∀d∈a::K,x.heap.size<=d)(hN:c<=1048576)(eu:Sd w)(ew:Tb w)(db:Fr [] x w)(hv:OpV x v)(ek:9<=v.kind)(hk:v.kind<=16):Cs 30 #[ai,pt a,.agg #[ii v.kind,.slice v.fa v.fn v.fc,.slice v.sa v.sn v.sc,.string v.tx,.slice v.ia v.il v.ic,ii v.n,.slice v.ga v.gl v.gc]] w λe j=>StepR x.heap.size w a cw K c e j:=by
 obtain⟨⟨h,B,z,bi,Q,bo,mv,gk,bm,s,r,qb,ap,dq,bv,bs,tv,kv,aj,mk,V,Zs,di,rfl,aq,hh,rfl⟩⟩:=hG;obtain⟨h1,h2,df,dg,q5,⟨fs,dc,go,eh⟩,⟨fw,hg,fy⟩,E⟩:=hv;obtain⟨S,fa,fn,fc,sa,sn,sc,tx,ia,il,ic,L,ga,gl,gc,l1,l2⟩:=v;dsimp only at hk ek h1 h2 df dg dc hg E |-;obtain⟨f,ec,ag,R⟩:=al w (.cells #[ii S,.slice fa fn fc,.slice sa sn sc,.string tx,.slice ia il ic,ii L,.slice ga gl gc] 70);have ho:w.heap.size<f.heap.size:=aH R;have gg:=db.size;obtain⟨ib,ey,gy⟩:=hh.bd qo;have ie:=aq.te;have et:=hh.s0;have A:=aA hh;have l:=(show Hi _ from aq.qF ag);have D:=(show Hi _ from hB.qF ag);have an:Hi (LR x.heap.size f (pt h) (aZ h B z Q bo s r qb tv kv) c):=⟨⟨h,B,z,bi,Q,bo,mv,gk,bm,s,r,qb,ap,dq,bv,bs,tv,kv,aj,mk,V,Zs,di,rfl,l.o,hh,rfl⟩⟩;have C:=aA hA;have HZ:=aA hz;have bg:Hi (Sd f):=Sd.qF eu ag;have bh:Hi (Tb f):=ew.qF ag;have X:Hi (Fr [] x f):=db.qT ag;have P:=aA ag;have cs:=aA R;have cp:=aA h1;have cq:=aA h2;have fj:=aA dc;have fi:=aA eh;have fm:=aA hg;have fp:=aA E;have e0:ca f w.heap.size 0 (ii S):=aB R;have gd:Hi (S=9\/S=10\/S=11\/S=12\/S=13\/S=14\/S=15\/S=16):=by show _\/_;omega
 have e1:ca f w.heap.size 1 (.slice fa fn fc):=aB R;have e2:ca f w.heap.size 2 (.slice sa sn sc):=aB R;have e3:ca f w.heap.size 3 (.string tx):=aB R;have e4:ca f w.heap.size 4 (.slice ia il ic):=aB R;have e5:ca f w.heap.size 5 (ii L):=aB R;have e6:ca f w.heap.size 6 (.slice ga gl gc):=aB R;have d0:ca f h 0 (pt B):=aB l.o.h;clear aq hB hA hz eu ew db ag hh h1 h2 dc eh hg E R ek hk q5
 delta Cs;go_in
 go_upto_region 3 with(fail)
 rw[<-ec];clear ec;obtain rfl|rfl|rfl|rfl|rfl|rfl|rfl|rfl:=gd.o
 ·have p:=(show Hi _ from OB x.heap.size tx f qo X.o.size bh.o)
  go_wp2_with fail
  refine cm p.o ?_;rintro e m ⟨⟨_,ba,L',rfl,hL,av⟩|⟨_,rfl⟩,t⟩
  ·obtain⟨⟨bc,ck,cd,bj,S1,dn,cc,ch,g1,cn,bn,ce,bk,bl,dp,Zt,cj,bx,cg,cb,t1,bz,cf,he,g,J,rfl⟩⟩:=id hL;cases he;have u:=(show Hi _ from jO m g J qo);have HL:=aA hL;have HN:=aA av;clear g hL av J
   go_wp2_with fail
   refine cm u.o ?_;rintro e i ⟨rfl,o⟩;go_wp2;go_ret2;exact⟨ba,rfl,RR.before P.o (RR.new D.o ((HL.o.qF o).more qo) HN.o (t.qT o))⟩
  dsimp only;have u:=(show Hi _ from jO m (l.o.qF t) A.o qo)
  go_wp2_with fail
  refine cm u.o ?_;rintro e i ⟨rfl,o⟩;go_wp2;go_ret2;exact⟨h,rfl,RR.before P.o (RR.same an.o D.o C.o (t.qT o))⟩
 ·have p:=(show Hi _ from Jy x f 10 L l1 l2 fa sa ia ga fn fc sn sc il ic gl gc tx l.o A.o qo D.o C.o HZ.o qo bg.o cp.o cq.o X.o df dg)
  go_wp2_with fail
  refine cm p.o ?_;rintro e m ⟨rfl,hT⟩;have H:=hT.rr;obtain⟨⟨L',K',hL,hr⟩,gf⟩:=id H;obtain⟨⟨bc,ck,cd,bj,S1,dn,cc,ch,g1,cn,bn,ce,bk,bl,dp,Zt,cj,bx,cg,cb,t1,bz,cf,he,g,J,_⟩⟩:=id hL;cases he;have N:=aA H;have u:=(show Hi _ from jO m g J qo);clear g hL hr H hT gf J
  go_wp2_with fail
  refine cm u.o ?_;rintro e i ⟨rfl,o⟩;go_wp2;go_ret2;exact⟨h,rfl,RR.before P.o (N.o.qT o)⟩
 ·have p:=(show Hi _ from LZ f l.o.rs qo)
  go_wp2_with fail
  refine cm p.o ?_;rintro e m ⟨rfl,fe,S',hp⟩;have ah:=l.o.synced hp;have d1:ca m h 1 (pt s):=aB ah.h;have d2:ca m s 0 (pt r):=aB ah.y.h;have d3:ca m r 0 (ii V.turn):=ah.y.rg.c0;obtain⟨ao,tc,ay⟩:=gL ah.tl;have d4:m.cell? ⟨h,4,none⟩=some (.slice ao aj.length tc):=by rw[<-ay];exact aB ah.h
  have M:Hi (∀L:Int,L=((aj.length-1:Nat):Int)->Cs 63 #[pt h,ii L] m λe j=>e=.returned (.tuple #[])/\MkP3 x.heap.size m h B z bi S' bo mv fe bm s r qb ap dq bv bs tv kv aj mk V Zs (di++[bQ LOG]) (aj.length-1) j):=λL E=>by rw[E];exact sQ m _ ah qs qt qo qo
  have cr:Hi (Fr (B::Q) f m):=hp.fr;have cu:=aA hp.old;clear ah hp p d0 ay
  go_wp2_with fail
  refine cm (M.o _ (by first|omega|(rw[Zq2]<;>omega))) ?_;rintro e O ⟨rfl,hm⟩;clear M d1 d2 d3 d4;obtain⟨⟨gi,az,_⟩,_⟩:=id hm;have u:=(show Hi _ from jO O az A.o.sync qo);have N:Hi (RR x.heap.size f a (aZ h B z Q bo s r qb tv kv) K c (pt h) O):=RR.marked D.o C.o cu.o cr.o (λn k=>by
   obtain b|b:=Qq0.1 k
   ·simp[b]
   exact Qk6 _ (Qk3 _ b)) hm A.o.sync
  clear az hm
  go_wp2_with fail
  refine cm u.o ?_;rintro e w6 ⟨rfl,ae⟩;go_wp2;go_ret2;exact⟨h,rfl,RR.before P.o (N.o.qT ae)⟩
 ·obtain⟨I,ax,_⟩:=kB A.o.op;obtain⟨bf,_,_,hD,hG,_⟩:=A.o.ex;have du:=(A.o.disk qo (Q9 _) (by rw[l8 (Q9 _)];exact hD)).1;have ey:=pK I ax;have p:=(show Hi _ from LW f l.o.rs qo bh.o (ns:=cT bf) (λbw hk=>(hG.has bw).1 hk) qt (nO I.ok I.os ⟨I.t0,ax⟩) I.ok.len qo);have fk:=aA I;clear I ey hD hG du
  go_wp2_with fail
  refine cm p.o ?_;rintro e m ⟨rfl,dh,v',Zu,fe,S',eq,er,es,hp⟩;have HO:=(show Hi (bm dh=none/\dh≠LOG/\dh.length<=30)from⟨eq,er,es⟩);clear eq er es;have au:=l.o.nd;simp only[dT,nodup_cons,mem_cons,not_mem_nil,or_false,not_or,nodup_nil,and_true,not_false_eq_true]at au;have ep:h∉B::Q:=λe=>by
   obtain b|b:=Qq0.1 e
   ·exact au.1.1 b
   exact l.o.ns h b qs
  have d1:ca m h 1 (pt s):=aB (hp.fr.heap l.o.h ep);have ez:YR m s r qb ap V Zs:=l.o.y.fr hp.fr (l.o.qY s (.inl rfl)) (l.o.qY r (.inr (.inl rfl))) (l.o.qY qb (.inr (.inr rfl)));have M:=(show Hi _ from yE s r qb ap V Zs m ez ⟨au.2.2.2.1.1,au.2.2.2.1.2⟩ fk.o ax);have HP:=aA hp;clear hp ez au p d0 ep
  go_wp2_with fail
  refine cm M.o ?_;rintro e i ⟨rfl,fb,o⟩;have bu:=l.o.after HP.o (.inl rfl) fb (o.mono (λn k=>.inl (by simp at k;simp[k]))) (.inl rfl);obtain⟨ao,tc,ay⟩:=gL bu.tl;have d4:i.cell? ⟨h,4,none⟩=some (.slice ao aj.length tc):=by rw[<-ay];exact aB bu.h
  have W:=(show Hi (∀L:Int,L=((aj.length-1:Nat):Int)->Cs 63 #[pt h,ii L] i _)from λL E=>by rw[E];exact sQ i _ bu qs qt qo qo);have cr:Hi (Fr (B::(Q++[s])) f i):=(HP.o.fr.mono (λn k=>.inl (by
   obtain b|b:=Qq0.1 k
   ·simp[b]
   ·simp[b]))).trans o (λn k=>.inl (by
   have e:n=s:=by simpa using k
   simp[e]))
  have cu:=aA HP.o.old;clear bu fb o M d1 ay HP
  go_wp2_with fail
  refine cm (W.o _ (by first|omega|(rw[Zq2]<;>omega))) ?_;rintro e O ⟨rfl,hm⟩;clear W d4;obtain⟨⟨gi,az,_⟩,_⟩:=id hm;have u:=(show Hi _ from jO O az (A.o.fold HO.o.1 HO.o.2.1 HO.o.2.2 v') qo);have N:Hi (RR x.heap.size f a (aZ h B z Q bo s r qb tv kv) K c (pt h) O):=RR.marked D.o C.o cu.o cr.o (λn k=>by
   obtain b|b:=Qq0.1 k
   ·simp[b]
   obtain b|b:=m5.1 b
   ·exact Qk6 _ (Qk3 _ b)
   exact Qk3 _ (by
    have e:n=s:=by simpa using b
    simp[e])) hm (A.o.fold HO.o.1 HO.o.2.1 HO.o.2.2 v')
  clear az hm
  go_wp2_with fail
  refine cm u.o ?_;rintro e w6 ⟨rfl,ae⟩;go_wp2;go_ret2;exact⟨h,rfl,RR.before P.o (N.o.qT ae)⟩
 ·have HS:∀j,Fr [] f j->(λj:World=>(j.cell? ⟨h,0,none⟩=some (pt B)/\j.cell? ⟨h,1,none⟩=some (pt s)/\j.cell? ⟨s,0,none⟩=some (pt r))/\Fr [] f j) j:=λj F=>by have g:=l.o.qF F;exact⟨⟨aB g.h,aB g.h,aB g.y.h⟩,F⟩
  have K0:=HS f.drew ((r0 _ _).drew);have p:Hi (∀j,Fr [] f j->Cs 14 #[pt B] j λe be=>∃r,e=.returned (pt r)/\j.heap.size<=r/\GS be r z bi V/\Fr [] j be):=λj F=>LY j (l.o.qF F).rs;have M:Hi (∀j,Fr [] f j->Cs 65 #[pt r] j λe be=>∃k fd fq,e=.returned (pt k)/\RG be k fd fq V/\j.heap.size<=k/\j.heap.size<=fd/\Fr [] j be):=λj F=>Fi r qb ap V j (l.o.qF F).y.rg l.o.rs.ne
  go_wp2_with fail
  refine wp_region_held_drew (S:=(λj:World=>(ca j h 0 (pt B)/\ca j h 1 (pt s)/\ca j s 0 (pt r))/\Fr [] f j)) qk K0 (λq=>?_);refine(show wpAnyH prog Region.Mode.any _ _ _ 16 (Array.replicate 16 false) _ _ from ?_)
  iterate 4 refine tn 16 q ?_
  refine ta 5 q ?_;refine ta 6 q ?_;refine ta 7 q ?_;refine ta 8 q ?_;refine ta 9 q ?_;refine ta 10 q ?_;refine ta 11 q ?_;refine rd 4 fun K' hK=>?_;have ac:=aA hK;clear hK;go_simp;refine cm (p.o _ q.2) ?_;rintro e m ⟨Y,rfl,gp,ak,t⟩;have cx:=q.2.qT t;have gh:=t.size;have hj:=cx.size;have am:=aA ak;have fl:Hi (f.heap.size<=Y):=by have:=q.2.size;show _<=_;omega
  clear q ak;refine ac.o _ _ (HS _ cx) (λq=>?_);clear ac K';try simp only[Act.put,Z]
  refine rd 12 fun K' hK=>?_;have ac:=aA hK;clear hK;go_simp;refine cm (M.o _ q.2) ?_;rintro e i ⟨E,qn,ft,rfl,aw,gv,hc,o⟩;have ad:=q.2.qT o;clear q;refine ac.o _ _ (HS _ ad) (fun q=>?_);clear ac K';try simp only[Act.put,Z]
  refine ta 13 q ?_;refine rd 14 fun K' hK=>?_;have ac:=aA hK;clear hK;go_simp;obtain⟨W4,bq⟩:=nm (i.alloc (.cells #[pt Y,pt E] 127));rw[<-bq];have ab:Fr [] i W4:=by rw[bq];exact(r0 _ _).alloc _
  have bt:W4.heap[i.heap.size]?=some (.cells #[pt Y,pt E] 127):=by rw[bq];exact aC _ _
  have aa:=ad.qT ab;clear q;refine ac.o _ _ (HS _ aa) (λq=>?_);clear ac K';try simp only[Act.put,Z]
  refine ta 15 q ?_;refine wpAnyH_done qk ?_ _;have gz:=l.o.rs.row.lt;have gt:=am.o.lt;have gq:=fl.o;have gu:=aw.lt;have ha:=aw.row.lt;have gw:=aw.ne;have hu:=o.size;have hw:=ab.size;have eg:=D.o.lt;have dd:=D.o.kl;have hd:=X.o.size;have gg:=X.o.size;obtain⟨I,ax,_⟩:=kB A.o.op;have dw:Gm W4 (.pointer (so i.heap.size)) [i.heap.size,Y,z,E,qn] V:=by refine⟨⟨i.heap.size,Y,z,bi,E,qn,ft,rfl,rfl,aB bt,aB bt,am.o.fr (o.qT ab) qs qs,aw.qF ab⟩,?_,I.ok,I.os,⟨I.t0,ax⟩⟩;simp only[nodup_cons,mem_cons,not_mem_nil,or_false,not_or,nodup_nil,and_true,not_false_eq_true];omega
  have bp:∀d∈[i.heap.size,Y,E,qn],f.heap.size<=d:=λd g=>by simp only[mem_cons,not_mem_nil,or_false]at g;omega
  have dr:∀d∈[i.heap.size,Y,z,E,qn],d≠a/\d∉K:=λd g=>by
   by_cases e:d=z
   ·rw[e];exact C.o z qs
   have:=bp d (by simp only[mem_cons,not_mem_nil,or_false]at g |-;omega);exact⟨by omega,λb=>by have:=dd d b;omega⟩
  have eb:∀d∈[i.heap.size,Y,z,E,qn],x.heap.size<=d:=λd g=>by
   by_cases e:d=z
   ·rw[e];exact l.o.lo z qs
   have:=bp d (by simp only[mem_cons,not_mem_nil,or_false]at g |-;omega);omega
  have W:=(show Hi _ from Dg _ _ K V a (2*c) l1 l2 _ _ x W4 dw (D.o.qF aa) dr qo (Sd.qF bg.o aa) cp.o cq.o (X.o.qT aa) eb df dg);have e1:ca W4 w.heap.size 1 (.slice fa fn fc):=aB (aa.qH cs.o);have e2:ca W4 w.heap.size 2 (.slice sa sn sc):=aB (aa.qH cs.o);have g0:ca W4 i.heap.size 0 (pt Y):=aB bt;have fg:=aA aa;have ct:=aA bp;obtain⟨ig,ev⟩:=nm i.heap.size;rw[<-ev]at W g0 ct |-;have hs:=aa.size;clear dw dr eb bp I cp cq cs bt ab aa ad o bq aw am t cx q p M HS K0 ev
  go_wp2_with fail
  refine cm W.o ?_;rintro e O ⟨rfl,⟨⟨L5,t5,K5,dx,ar,⟨_,em⟩,Zr,ef⟩,Zq⟩⟩;have af:Fr (a::K) f O:=fg.o.qO.trans Zq (λn k=>by
   obtain b|b:=Qq0.1 k
   ·exact .inl (by simp[b])
   obtain b|b:=m5.1 b
   ·exact .inr (ct.o n b)
   exact .inl (by simp[b]))
  have C4:=(show Hi _ from Hp _ L5 K5 t5 a (2*c+1) O dx ar ef qo);have fh:=aA af;have fo:Hi (∀d∈L5.eraseIdx 2,f.heap.size<=d):=λd g=>by
   obtain b|b:=em d g
   ·exact ct.o d b
   omega
  have dm:Hi (∀d∈K5,d∈K\/f.heap.size<=d):=λd g=>(Zr d g).imp_right (λb=>by omega);have ht:=af.size;clear dx ar em Zr ef Zq af W
  go_wp2_with fail
  refine cm C4.o ?_;rintro e w6 ⟨rfl,⟨⟨L6,t6,K6,_,dt,_,ej,_⟩,ae⟩⟩;have cy:Fr (a::K) f w6:=fh.o.trans ae (λn k=>by
   obtain b|b:=Qq0.1 k
   ·exact .inl (by simp[b])
   obtain b|b:=m5.1 b
   ·exact .inr (fo.o n b)
   exact(dm.o n b).imp_left (λai=>by simp[ai]))
  have ea:∀d∈K6,d∈K\/f.heap.size<=d:=λd g=>by
   obtain b|b:=ej d g
   ·exact dm.o d b
   exact .inr qo
  have H:=RR.booked (r:=.pointer (so h)) (L:=aZ h B z Q bo s r qb tv kv) (N:=c) an.o HZ.o C.o (dt.more qo) ea cy;have ee:=l.o.fr cy (λn k e=>by
   obtain b|b:=Qq0.1 e
   ·exact(C.o n k).1 b
   exact(C.o n k).2 b) HZ.o
  have u:=(show Hi _ from jO w6 ee A.o qo);have N:=aA H;clear C4 ee H cy ea dt ej ae
  go_wp2_with fail
  refine cm u.o ?_;rintro e w7 ⟨rfl,fx⟩;go_wp2;go_ret2;exact⟨h,rfl,RR.before P.o (N.o.qT fx)⟩
 ·obtain⟨bf,_,lv,hD,hG,eo,_⟩:=A.o.ex;obtain⟨du,_,_,_,dv⟩:=A.o.disk qo (Q9 _) (by rw[l8 (Q9 _)];exact hD);have HG:=aA hG;have ak:(bm LOG).isSome=true:=by rw[eo];rfl
  have am:=aA ak;have p:=(show Hi _ from LU f l.o.rs (ns:=cT bf) (λbw hk=>⟨(hG.has bw).1 hk,by obtain⟨fu,F,e⟩:=Qk7.1 ((hG.has bw).1 hk);have:=(dv fu F).1;rw[<-e];omega⟩) qt (k0:=LOG) ak)
  clear hD hG eo dv ak
  go_wp2_with fail
  refine cm p.o ?_;rintro e m ⟨⟨v2,ks,rfl,cz,el,_,de⟩,t⟩;have fz:0<ks.length:=m4 ((de LOG).2 am.o);have gx:ks.length=bf.length:=by have:=ND el HG.o.nd (λd=>(de d).trans (HG.o.has d));simpa using this
  have eg:=D.o.lt;have dd:=D.o.kl;have M:=(show Hi _ from Cj a (2*c) ks.length f.heap.size K v2 _ m (D.o.qF t) qo cz fz qo eg dd);have dj:Hi (∀d∈v2.ownBlock.toList,f.heap.size<=d):=λd g=>(cz.lt d (qu g)).1;clear p cz d0 el de
  go_wp2_with fail
  refine cm M.o ?_;rintro e i ⟨rfl,⟨K3,ds,ei⟩,o⟩;have gh:=t.size;have ad:Fr (a::K) f i:=t.qO.trans o (λn k=>by
   obtain b|b:=Qq0.1 k
   ·exact .inl (by simp[b])
   obtain b|b:=m5.1 b
   ·exact .inl (by simp[b])
   exact .inr (dj.o n b))
  have dy:∀d∈K3,d∈K\/f.heap.size<=d:=λd g=>by
   obtain b|b|b:=ei d g
   ·exact .inl b
   ·exact .inr (dj.o d b)
   exact .inr qo
  have br:=l.o.fr ad (λn k e=>by
   obtain b|b:=Qq0.1 e
   ·exact(C.o n k).1 b
   exact(C.o n k).2 b) HZ.o
  have d0:ca i h 0 (pt B):=aB br.h;have W:=(show Hi _ from qQ i br.rs qo et);have co:=aA ds;have ff:=aA ad;have dl:=aA dy;have gm:=aA br;have hq:=ad.size;clear M ds ad dy br ei o
  go_wp2_with fail
  refine cm W.o ?_;rintro e w4 ⟨v4,rfl,da,ab⟩;have hy:=ab.size;have ge:=co.o.kl;have C4:=(show Hi _ from Co a (2*c+1) di.length i.heap.size K3 v4 _ w4 (co.o.qF ab) qo da et qo co.o.lt ge);have dk:Hi (∀d∈v4.ownBlock.toList,i.heap.size<=d):=λd g=>(da.lt d (qu g)).1;clear W da d0
  go_wp2_with fail
  refine cm C4.o ?_;rintro e O ⟨rfl,⟨K5,ar,Zr⟩,Zq⟩;have af:Fr (a::K) f O:=(ff.o.qT ab).trans Zq (λn k=>by
   obtain b|b:=Qq0.1 k
   ·exact .inl (by simp[b])
   obtain b|b:=m5.1 b
   ·exact(dl.o n b).imp_left (λai=>by simp[ai])
   exact .inr (qh (dk.o n b)))
  have dz:∀d∈K5,d∈K\/f.heap.size<=d:=λd g=>by
   obtain b|b|b:=Zr d g
   ·exact dl.o d b
   ·exact .inr (qh (dk.o d b))
   exact .inr qo
  have H:=RR.booked (r:=.pointer (so h)) (L:=aZ h B z Q bo s r qb tv kv) (N:=c) an.o HZ.o C.o (ar.more qo) dz af;have ed:=l.o.fr af (λn k e=>by
   obtain b|b:=Qq0.1 e
   ·exact(C.o n k).1 b
   exact(C.o n k).2 b) HZ.o
  have u:=(show Hi _ from jO O ed A.o qo);have N:=aA H;clear C4 ed H af dz ar Zr Zq
  go_wp2_with fail
  refine cm u.o ?_;rintro e w6 ⟨rfl,ae⟩;go_wp2;go_ret2;exact⟨h,rfl,RR.before P.o (N.o.qT ae)⟩
 ·have p:=(show Hi _ from JS x.heap.size f _ fs [] 0 (c+1) (FilesV.b fj.o X.o) qs X.o.size qo qo qo (λgj aq=>by have:=fi.o gj aq;omega) bg.o bh.o)
  go_wp2_with fail
  refine cm p.o ?_;rintro e m ⟨⟨bc,ck,cd,bj,S1,cc,ch,g1,cn,bn,ce,bk,bl,cj,bx,cg,cb,t1,bz,cf,l0,ai,_,rfl,g,J,av⟩|⟨_,rfl⟩,t⟩
  ·have u:=(show Hi _ from jO m g J qo);have HX:=aA g;have HH:=aA J;have HN:=aA av;clear g av J p
   go_wp2_with fail
   refine cm u.o ?_;rintro e i ⟨rfl,o⟩;go_wp2;go_ret2;exact⟨bc,rfl,RR.before P.o (RR.new D.o ⟨⟨bc,ck,cd,bj,S1,[],cc,ch,g1,cn,bn,ce,bk,bl,_,_,cj,bx,cg,cb,t1,bz,cf,rfl,HX.o.qF o,HH.o,rfl⟩⟩ (λd g=>(HN.o d g).resolve_left qs) (t.qT o))⟩
  dsimp only;have u:=(show Hi _ from jO m (l.o.qF t) A.o qo);clear p
  go_wp2_with fail
  refine cm u.o ?_;rintro e i ⟨rfl,o⟩;go_wp2;go_ret2;exact⟨h,rfl,RR.before P.o (RR.same an.o D.o C.o (t.qT o))⟩
 have p:=(show Hi _ from TU x f 16 L fw fa sa ia ga fn fc sn sc il ic gl gc tx l.o A.o hN fp.o (IntsV.qF fm.o X.o) fy X.o.size bg.o bh.o)
 go_wp2_with fail
 refine cm p.o ?_;rintro e m ⟨⟨ba,rfl,en⟩,t⟩;obtain⟨L',hL,H⟩:∃L',LR x.heap.size m (pt ba) L' (c+1)/\∀i,Fr [] m i->RR x.heap.size f a (aZ h B z Q bo s r qb tv kv) K c (pt ba) i:=by
  have hl:=an.o;obtain rfl|⟨L',q1,q2⟩:=en
  ·exact⟨_,(hl.qF t).more qo,λi F=>RR.same hl D.o C.o (t.qT F)⟩
  exact⟨L',q1,λi F=>RR.new D.o (q1.qF F) q2 (t.qT F)⟩
 obtain⟨⟨bc,ck,cd,bj,S1,dn,cc,ch,g1,cn,bn,ce,bk,bl,dp,Zt,cj,bx,cg,cb,t1,bz,cf,he,g,J,_⟩⟩:=hL;cases he;have N:=aA H;have u:=(show Hi _ from jO m g J qo);clear g H J en p t
 go_wp2_with fail
 refine cm u.o ?_;rintro e i ⟨rfl,o⟩;go_wp2;go_ret2;exact⟨ba,rfl,RR.before P.o (N.o i o)⟩
theorem Ez(u:Int)(cd:u<=16)(m:List OpD)(J:Value)(c:World)(hv:uK c J m)(hl:m.length<=1048576)(ag:Sd c)(ax:Tb c):Cs 9 #[J,ii u] c (R0 c (.bool true)):=by
 obtain⟨M,Y,rfl⟩:∃M Y,J=.slice M m.length Y:=by
  obtain⟨M,Y,rfl,rfl⟩|⟨h,j,Y,rfl,_⟩:=hv
  ·exact⟨_,_,rfl⟩
  exact⟨_,_,rfl⟩
 have HV:=aA hv;have bd:=aA ag;have am:=aA ax;have ce:=ag.pos;clear hv ag ax
 delta Cs;go_in
 go_wp2_with fail
 refine cm (GO c) ?_;rintro f w1 ⟨rfl,F⟩;obtain⟨tx,X⟩:=nm wP;rw[<-X];have bp:eV tx:=by rw[X];exact YI
 have HK:Hi (∀c,Cs 25 #[] c (R0 c (.string tx))):=by rw[X];exact GO
 have ab:Hi (∀d,Fr [] c d->Cs 29 #[.string tx] d λf w=>∃sb y,f=.returned (.tuple #[pt sb,.bool true])/\LR c.heap.size w (pt sb) y 0/\(∀x∈y,d.heap.size<=x)/\Fr [] d w):=λd hw=>(OB _ tx d (qh hw.size) hw.size (Tb.qF am.o hw)).mono (by
  rintro f w ⟨⟨_,sb,y,h1,h2,h3⟩|⟨bo,_⟩,hf⟩
  ·exact⟨sb,y,h1,h2,h3,hf⟩
  exact absurd bp bo)
 clear X;have cf:=F.size
 go_wp2_with fail
 refine cm (ab.o w1 F) ?_;rintro f w2 ⟨s1,L1,rfl,ap,bf,P⟩;have cg:=P.size;have aa:=aA ap;clear ap
 go_wp2_with fail
 refine cm (HK.o w2) ?_;rintro f w3 ⟨rfl,H⟩;have ch:=H.size
 go_wp2_with fail
 refine cm (ab.o w3 ((F.qT P).qT H)) ?_;rintro f w4 ⟨s2,L2,rfl,ad,aq,Q⟩;have cj:=Q.size;obtain⟨W5,ae,R,_⟩:=al w4 (.cells #[.slice none 0 0,.slice none 0 0,.slice none 0 0,.slice none 0 0,.slice none 0 0,.slice none 0 0,.slice none 0 0,.slice none 0 0,.slice none 0 0,ii 0] 68);have Zq:Bk W5 w4.heap.size [] (2*0):=Bk.start (by rw[ae];exact aC _ _);have ay:Fr [] c w2:=F.qT P;have ar:QI c w4.heap.size 0 (pt s1) (pt s2) W5:=by
  have an:=aa.o.lt;have be:=ad.lt;refine⟨⟨L1,L2,[],(aa.o.qF (H.qT Q)).qF R,ad.qF R,Zq,λx B br=>?_,λx B=>⟨?_,qs⟩,λx B=>⟨?_,qs⟩,qs,by omega⟩,((ay.qT H).qT Q).qT R⟩
  ·have:=an x B;have:=aq x br;omega
  ·have:=an x B;omega
  have:=be x B;omega
 have ac:=aA ar;clear ad ar Zq bf aq
 go_wp2_with fail
 rw[<-ae];obtain⟨k,Zr⟩:=nm w4.heap.size;rw[<-Zr]at ac |-;clear ae Zr R Q H ay P F ab HK aa
 go_loopw [5,7,10] (fun N z ah wr=>∃b n l:Nat,b<=m.length/\ah=ii b/\N=.pointer (so n)/\z=.pointer (so l)/\QI c k b (pt n) (pt l) wr) (fun _ _ ah _=>m.length-(intOf ah).toNat)
 ·exact⟨0,s1,s2,Z3 _,rfl,rfl,rfl,ac.o⟩
 clear ac;obtain⟨b,n,l,hk,rfl,rfl,rfl,D⟩:=hrel
 by_cases A:b<m.length
 ·have bm:(b:Int)<(m.length:Int):=qo;obtain⟨h,j,rfl,bl,o,af⟩:∃h j,M=some ⟨h,j,none⟩/\h<c.heap.size/\c.rangeAt h (j+b*7) (m[b]).cells/\OpV c m[b]:=by
   obtain⟨bt,bs,e1,e2⟩|⟨h,j,bs,e1,h2,h3⟩:=HV.o
   ·rw[e2]at A;simp at A
   obtain⟨I,q2⟩:=h3 b A;exact⟨h,j,by simpa using V3 (λJ:Value=>match J with|.slice a _ _=>a|_=>none) e1,h2,I,q2⟩
  obtain⟨e,hd⟩:=nn (m[b]);rw[hd]at o af;have s:∀ai,wr.cell? ⟨h,ai,none⟩=c.cell? ⟨h,ai,none⟩:=λai=>D.fr.cell _ _ bl qs;have C:Hi (∀d,Fr [] wr d->9<=e.kind->e.kind<=16->Cs 30 #[pt n,pt k,.agg #[ii e.kind,.slice e.fa e.fn e.fc,.slice e.sa e.sn e.sc,.string e.tx,.slice e.ia e.il e.ic,ii e.n,.slice e.ga e.gl e.gc]] d λf w=>∃p,f=.returned (.tuple #[pt p,.bool true])/\QI c k (b+1) (pt p) (pt l) w):=λd hf W bk=>by have O:=D.qT hf;obtain⟨y,K,I,q2,q3,q5,q6⟩:=O.goes;refine(Hz _ y e c d I q2 q3 q5 qo (Sd.qF bd.o O.fr) (Tb.qF am.o O.fr) O.fr af W bk).mono ?_;rintro f w ⟨⟨p,he,bq⟩⟩;exact⟨p,he,q6 _ _ bq⟩
  obtain⟨g,fa,fn,fc,sa,sn,sc,ba,ia,il,ic,az,ga,gl,gc,bz,ct⟩:=e;dsimp only at C o;have c0:ca wr h (j+b*7) (ii g):=(s _).trans (o 0 _ rfl);have c1:ca wr h (j+b*7+1) (.slice fa fn fc):=(s _).trans (o 1 _ rfl);have c2:ca wr h (j+b*7+2) (.slice sa sn sc):=(s _).trans (o 2 _ rfl);have c3:ca wr h (j+b*7+3) (.string ba):=(s _).trans (o 3 _ rfl);have c4:ca wr h (j+b*7+4) (.slice ia il ic):=(s _).trans (o 4 _ rfl);have c5:ca wr h (j+b*7+5) (ii az):=(s _).trans (o 5 _ rfl);have c6:ca wr h (j+b*7+6) (.slice ga gl gc):=(s _).trans (o 6 _ rfl);have L:Hi (∀d r N z,QI c k r N z d->r<=1048578->Cs 27 #[pt k] d (R0 d (.bool true))):=λd r N z hp hN=>by obtain⟨K,hK⟩:=hp.book;exact YZ k (2*r) K d hK qo
  have HI:=aA D;have V:b+1<=1048578:=qo;clear s o af hd D;have bj:g=5\/(g≠5/\9<=g/\g<=u)\/(g≠5/\(9<=g/\u<g\/g<9)):=qo;obtain rfl|⟨bn,W,bh⟩|⟨bn,⟨W,bi⟩|bi⟩:=bj
  ·clear C;have v:∀i,QI c k (b+1) (pt l) (pt n) (wr.alloc i):=λi=>((HI.o.swap).qT ((r0 _ _).alloc i)).more qo;have q:=aA v;clear v
   go_wp2_with fail
   refine cm (L.o _ _ _ _ (q.o _) V) ?_;rintro f w6 ⟨rfl,t⟩;go_wp2;go_roundw
   ·exact⟨b+1,l,n,A,by go_num,rfl,rfl,(q.o _).qT t⟩
   simp[intOf];omega
  ·have av:(g==5)=false:=qt;have au:g<=u:=bh;have bc:Hi (∀i,Cs 30 #[pt n,pt k,.agg #[ii g,.slice fa fn fc,.slice sa sn sc,.string ba,.slice ia il ic,ii az,.slice ga gl gc]] (wr.alloc i) λf w=>∃p,f=.returned (.tuple #[pt p,.bool true])/\QI c k (b+1) (pt p) (pt l) w):=λi=>C.o _ ((r0 _ _).alloc i) W qo;clear C
   go_wp2_with fail
   refine cm (bc.o _) ?_;rintro f w6 ⟨p,rfl,aw⟩;have E:=aA aw;clear aw
   go_wp2_with fail
   refine cm (L.o _ _ _ _ E.o V) ?_;rintro f w7 ⟨rfl,S⟩;go_wp2;go_roundw
   ·exact⟨b+1,p,l,A,by go_num,rfl,rfl,E.o.qT S⟩
   simp[intOf];omega
  ·have av:(g==5)=false:=qt;have au:¬g<=u:=qo;clear C;have v:∀i,QI c k (b+1) (pt n) (pt l) (wr.alloc i):=λi=>(HI.o.qT ((r0 _ _).alloc i)).more qo;have q:=aA v;clear v
   go_wp2_with fail
   refine cm (L.o _ _ _ _ (q.o _) V) ?_;rintro f w6 ⟨rfl,t⟩;go_wp2;go_roundw
   ·exact⟨b+1,n,l,A,by go_num,rfl,rfl,(q.o _).qT t⟩
   simp[intOf];omega
  have av:(g==5)=false:=qt;have au:¬9<=g:=qo;clear C;have v:∀i,QI c k (b+1) (pt n) (pt l) (wr.alloc i):=λi=>(HI.o.qT ((r0 _ _).alloc i)).more qo;have q:=aA v;clear v
  go_wp2_with fail
  refine cm (L.o _ _ _ _ (q.o _) V) ?_;rintro f w6 ⟨rfl,t⟩;go_wp2;go_roundw
  ·exact⟨b+1,n,l,A,by go_num,rfl,rfl,(q.o _).qT t⟩
  simp[intOf];omega
 have bm:¬(b:Int)<(m.length:Int):=qo;have ak:Hi (∀d r aj z,QI c k r (pt aj) z d->r<=1048577->Cs 31 #[pt aj] d (R0 d (.bool true))):=λd r aj z hp hN=>by obtain⟨y,K,I,_⟩:=hp.goes;obtain⟨⟨cn,cz,cr,bx,S1,bu,cq,cx,g1,da,cc,cs,Zs,cb,bw,bv,cy,ck,cw,cp,t1,co,cu,he,B,u,_⟩⟩:=I;cases he;exact jO d B u hN
 have HI:=aA D;clear D
 go_wp2_with fail
 refine cm (ak.o _ _ _ _ HI.o qo) ?_;rintro f w6 ⟨rfl,t⟩;have E:=(show Hi _ from(HI.o.qT t).swap);clear t
 go_wp2_with fail
 refine cm (ak.o _ _ _ _ E.o qo) ?_;rintro f w7 ⟨rfl,S⟩;have bg:=(E.o.qT S).fr;clear S;go_wp2;go_ret;exact⟨rfl,bg⟩
theorem PN(b:List OpD)(c:Value)(a:World)(i:uK a c b)(f:b.length<=1048576)(g:Sd a)(h:Tb a):Cs 6 #[c] a (R0 a (.bool true)):=by
 have d:=Ez 16 qo b c a i f g h
 delta Cs;go_in
 go_wp2_with fail
 refine cm d ?_;rintro j k ⟨rfl,e⟩;go_wp2;go_ret;exact⟨rfl,e⟩
end Go.Proofs.YtapabahhfanmmaaGreatDoor
namespace Go.Proofs.YtapabahhfanmmaaGreatDoor
open Go.ChangeShapes Go.WideShapes Go.ChangeAt Go.WideMaps Go.WideElems Go.RowKit List Go.Proofs.Tryz
set_option maxHeartbeats 16000000
set_option maxRecDepth 100000
abbrev laidT:List (String×DataW Unit):=Rows.cutsUptoRow.laid
theorem Aq{b:World}(e:laidMetH prog laidT b):Sd b:=by have c:=e.filter (λa=>a.1 == "skirmish/land.sides");have d:laidT.filter (λa=>a.1 == "skirmish/land.sides")=GP:=qk;rw[d]at c;exact Ao c
theorem Ap{b:World}(e:laidMetH prog laidT b):Tb b:=by have c:=e.filter (λa=>a.1 == "internal/strconv.uint64pow10");have d:laidT.filter (λa=>a.1 == "internal/strconv.uint64pow10")=[("internal/strconv.uint64pow10",Lib.tabData .u64 Lib.pow10Tab)]:=qk;rw[d,MakeChecks.laidMetH_plain _ _ _ qk]at c;exact Lib.tabIs_of_head FE qk underlying303 underlying275 qk qk c
theorem TY(d:Type)(j:TypeId×Value->d)(a:World)(base:Nat)(args:Array Value)(h gs:List (DataW d))(v:List MemPlace)(r:∀(s:Nat) t b,f6.params[s]?=some t->args[s]?=some b->Value.okWide prog a .any base t b)(p:DataW.Whole j prog f6.params.toList Rows.cutsSpec.vars false a args.toList h gs v)(q:Rows.uptoSmall d (h++gs)=true)(o:laidMetH prog laidT a):Cs 6 args a λi g=>∃b,i=.returned b/\Rows.cutsSpec.post j prog f6 false true false false a args b g:=by
 have e:=p;obtain⟨S,V,m,x,rfl,P,Q⟩:=p;have l:=m;rw[params6]at l r;obtain⟨u,X,w,M,H,W,O,rfl,rfl,k,r0⟩:=trodAll_cons l;obtain⟨rfl,rfl,rfl⟩:=trodAll_nil r0;obtain rfl:args=#[u]:=qg;obtain⟨rfl,rfl⟩:=trodVars_none x;obtain⟨J,R,L,rfl⟩:=okWide_slice underlying22 (r 0 22 u rfl rfl);clear m;simp only[append_nil]at e q;have y:Rows.uptoBulk w<=1048576:=by have N:=Qj8 q;grind[Rows.uptoBulkAll]
 obtain⟨F,A,B⟩:=Aw k y;have C:=λc f=>e.lt c qo;have D:=Aq o;refine(PN F _ a A B D (Ap o)).mono λi g ⟨z,n⟩=>?_;subst z;refine⟨_,rfl,Dn (pa:=H) (pv:=[]) e (λ_ _ _=>trodAll_mk1 (shut_bool underlying4 _)) (λI E=>?_) (λ_ _=>rfl) qs n (ok_one qk rfl (okWide_bool_mk underlying4 _))⟩;exact trodAll_mk1 (Trod_stays (sp':=I) YJ qk (Qj8 qk) k (λc f=>n.below.same (C c f)) (λc f=>E c qo))
theorem Hl(a:Os):laidMet prog Rows.cutsUptoRow.laid ((World.doorLaid prog 33 a).forCall (λ_ _=>0) ⟨#[],#[.slice none 0 0],[]⟩).memory:=
  laidMet_of_run' 8 qk qk
theorem UB(c:Os){a:Type}(b:TypeId×Value->a):∃d,DataW.whole b prog ((World.doorLaid prog 33 c).forCall (λ_ _=>0) ⟨#[],#[.slice none 0 0],[]⟩).memory f6.params.toList Rows.cutsSpec.vars false #[Value.slice none 0 0].toList 8=some ([.nil],[],d):=
  ⟨[],by kernel_rfl⟩
theorem TZ(b:Os)(n:b.Started)(c:Type)(a:TypeId×Value->c)(d:Stop.Interp):ReturnsInHanded {} checked b 6 .any ((Rows.OpenSpec.upto Rows.cutsSpec).preRow a prog f6 Rows.cutsUptoRow.domain false Rows.cutsUptoRow.laid) (((Rows.OpenSpec.upto Rows.cutsSpec).at d).post a prog f6 false true false false):=by
 obtain⟨p,m⟩:=UB b a;refine returnsInHanded_of_row (C:=checked) (s:=Rows.OpenSpec.upto Rows.cutsSpec) Cf n qk func6
  (witness_row_at (enc:=a) (C:=checked) false (World.doorLaid prog 33 b) #[.slice none 0 0] rfl qk qk qk
   (OpenSpec.preRow_of_cond 8 m qk (λo k=>by cases k;kernel_rfl) qk (Hl b))) ?_
 intro e base args g gs f l i _ j _ h _ _;exact TY c a e base args g gs f l i (j _ rfl) h
theorem UC:Rows.CutsUptoSaid:=
 OpenClaim.holds_of_cond 6 f6 rfl rfl rfl rfl rfl rfl rfl ⟨rfl,rfl,rfl,rfl,rfl⟩ rfl rfl rfl rfl rfl qk func6 qk
  (Qj8 qk) (by unfold Func.isWrapper;first|(rw[Q7 (by decide +kernel)];kernel_rfl)|(rw[Z0 (by decide +kernel)];exact⟨rfl,rfl⟩))
  (λd e b c _ a=>by rw[OpenClaim.pre_eq_preRow];exact TZ d e b c a)
theorem UA(b:FuncId)(c:Func)(e:Tryz.pinned.checked.prog.funcNamed "skirmish/skirmishlaw.Cuts"=some b)(f:Tryz.pinned.checked.prog.funcs[b]?=some c):false=Tryz.pinned.checked.prog.looks []/\∀(d:Nat) a,c.params[d]?=some a->Tryz.pinned.checked.prog.wantsStandIn a=false:=by obtain rfl:b=6:=m9 ((show prog.funcNamed "skirmish/skirmishlaw.Cuts"=some 6 by kernel_rfl).symm.trans e) |>.symm;obtain rfl:c=f6:=(m9 (func6.symm.trans f)).symm;refine⟨by kernel_rfl,λd a g=>?_⟩;rw[params6]at g;obtain rfl:a=22:=qg;exact(show prog.wantsStandIn 22=false by kernel_rfl)
theorem TW:Rows.CutsUptoCardSaid:=
  Claim7.holds_tied_plain_at .later [] _ _ _ _ UC qg qk qg cutsUpto_row_tie rfl ⟨rfl,rfl⟩ qk rfl UA qk
theorem cutsupto_claim:Rows.CutsUptoCardSaid:=TW
