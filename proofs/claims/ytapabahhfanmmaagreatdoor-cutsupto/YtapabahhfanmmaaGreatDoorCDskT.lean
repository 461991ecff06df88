import Derived.Test.YtapabahhfanmmaaGreatDoorCBookO
import Derived.Test.YtapabahhfanmmaaGreatDoorCBookN
namespace Go.Proofs.YtapabahhfanmmaaGreatDoor
open Go.RowKit List Go.Proofs.Tryz
set_option maxHeartbeats 2000000
set_option maxRecDepth 100000
theorem XP:(prog.info? 113).map (λa=>(a.zero,a.size,a.bytes))=some (some (.agg #[ii 0,.string ⟨#[]⟩,.string ⟨#[]⟩,.string ⟨#[]⟩]),4,56):=qk
theorem XS:(prog.info? 34).map (λa=>(a.zero,a.size,a.bytes))=some (some (.slice none 0 0),1,24):=qk
theorem XW:(prog.info? 9).map (λa=>(a.zero,a.size,a.bytes))=some (some (.string ⟨#[]⟩),1,16):=qk
theorem Co(e P f base:Nat)(K:List Nat)(bx:Value)(ao:List Value)(B:World)(be:Bk B e K P)(hN:P<=2200000)(W:B.ownsRow base 113 4 bx f ao)(ff:0<f)(gh:f<=10000010)(fy:e<base)(hK:∀aa∈K,aa<base):Cs 68 #[pt e,bx] B λg w'=>g=.returned (.tuple #[])/\OwnP B e P K bx.ownBlock.toList w':=by
 obtain⟨di,dd,de,df,bu⟩:=Z2 XP;obtain⟨fs,ex,fo,fp,fq⟩:=Z2 XW;obtain⟨ft,ey,fl,fm,fn⟩:=Z2 XS;obtain⟨i,y,rfl⟩:=bK W ff;have cx:ao.length=f*4:=W.1;obtain⟨gi,gj⟩:base<=i/\i<B.heap.size:=W.lt i rfl;obtain⟨⟨j,h,nx,L,Q,h2,h3,h4,h5,h6,h7,h8,h9,ck,bf⟩,bs,au⟩:=be;have fg:=Q.nxt;have fh:=Q.fz 9;have ga:=Q.lt;have ew:e≠i:=qo;obtain⟨J,S⟩:=nm (nx-1);obtain⟨E,af⟩:=nm (B.setCell ⟨e,9,none⟩ (ii J));have Zq:Fr [e] B E:=by rw[af];exact(r0 _ _).setCell _ _ qs
 have ay:Hi (BR E e j h J):=by
  show BR E e j h J
  rw[af];exact Q.mark J
 have dn:Hi (BL E L h):=h2.fr Zq (λc l g=>bs (by
           have:c=e:=by simpa using g
           subst this;exact(bf c l).1))
 have el:Hi (E.ownsRow base 113 4 (.slice (so i) f y) f ao):=aF W Zq (λq r g=>by simp[Value.ownBlock]at r g;omega);have HX:=(show Hi _ from And.intro h3 (And.intro h4 (And.intro h5 (And.intro h6 (And.intro h7 (And.intro ck bf))))));have ec:=aA bs;have dw:=aA au;have fe:-(3*(P:Int))-1<=J/\J<=0:=qo;have HM:=aA S;have dp:=aA Zq;have db:B.heap.size=E.heap.size:=by rw[af];simp[World.setCell]
 have bd:=aA db;have gb:e<E.heap.size:=ay.o.lt;have fd:=ay.o.nxt;have CM:=(show Hi _ from IR J qo E);clear Q h2 h3 h4 h5 h6 h7 ck bf bs au Zq W db
 delta Cs;go_in
 go_wp2_with fail
 rw[<-S,<-af];clear S af fg fh
 go_wp2_with fail
 refine cm CM.o ?_;rintro g wm ⟨a,rfl,bn⟩;have fi:=bn.size;obtain⟨W1,ap⟩:=nm (wm.alloc (.cells #[ii (-1),.string a,.string a,.string a] 113));have ab:Fr [] E W1:=by rw[ap];exact bn.alloc _
 have aw:W1.heap[wm.heap.size]?=some (.cells #[ii (-1),.string a,.string a,.string a] 113):=by rw[ap];exact aC _ _
 have gk:=ab.size;have fk:=aH aw;obtain⟨xb,dg⟩:=nm wm.heap.size;clear CM
 go_wp2_with fail
 rw[<-ap];rw[<-dg]at aw fk fi |-;have cd:=aA ab;have em:=aA (aF el.o ab qs);have ad:=aA (ay.o.fr ab qs qs);have Zt:=aA (dn.o.fr ab qs);have gw:xb≠i:=by have:=bd.o;omega
 have cj:Hi (∀k,Fr [i] W1 k->k.cell? ⟨xb,0,none⟩=some (ii (-1))/\k.cell? ⟨xb,1,none⟩=some (.string a)/\k.cell? ⟨xb,2,none⟩=some (.string a)/\k.cell? ⟨xb,3,none⟩=some (.string a)):=λk hf=>by have hh:=hf.heap aw qt;exact⟨aB hh,aB hh,aB hh,aB hh⟩
 clear ab aw fd ap dg bn
 go_loopw [6] (fun p wr=>∃d:Nat,d<=f/\p=ii d/\FillG W1 base f i y 113 ao (cS a) d wr) (fun p _=>f-(intOf p).toNat)
 ·exact⟨0,Z3 _,rfl,by simpa[aW]using em.o,r0 _ _⟩
 obtain⟨d,m,rfl,hI⟩:=hrel;obtain⟨e0,e1,e2,e3⟩:=cj.o wr hI.fr
 by_cases br:d<f
 ·have ez:(d:Int)<(f:Int):=qo;have I:=hI.there br;obtain⟨o0,d0⟩:=Zq4.1 (I 0 qs).1;obtain⟨o1,d1⟩:=Zq4.1 (I 1 qs).1;obtain⟨o2,d2⟩:=Zq4.1 (I 2 qs).1;obtain⟨o3,d3⟩:=Zq4.1 (I 3 qs).1;have z0:=(I 0 qs).2;have z1:=(I 1 qs).2;have z2:=(I 2 qs).2;have z3:=(I 3 qs).2;simp only[length_cons,length_nil,Nat.zero_add,Nat.reduceAdd,Nat.add_zero]at d0 z0 d1 z1 d2 z2 d3 z3;have HP:=(show Hi _ from hI.put br cx);clear hI I;go_wp2;go_roundw
  ·exact⟨d+1,br,by go_num,HP.o⟩
  simp[intOf];omega
 have ez:¬(d:Int)<(f:Int):=qo;have cz:d=f:=qo;obtain⟨bt,ag⟩:=hI;rw[cz,Z6 (by rw[cx];exact Q9 _),Zq6]at bt;have cf:Hi (wr.ownsRow base 113 4 (.slice (so i) f y) f (aW 4 (dM (cS a)) f)):=bt;clear cz bt;obtain⟨W2,ct⟩:=nm wr;rw[<-ct]at cf ag e0 e1 e2 e3 |-;clear ct;have fx:base<=W2.heap.size:=by have:=ag.size;have:=bd.o;omega
 have dq:=aA ag;have cg:Hi (∀d,∀v∈aW 4 (dM (cS a)) d,v.oneCell'=true):=λd v X=>by
  obtain⟨p,_,rfl⟩:=Qk7.1 X;have hj:p%4<4:=Nat.mod_lt _ qo;have:p%4=0\/p%4=1\/p%4=2\/p%4=3:=qo
  show Value.oneCell' ((cS a).getD (p%4) (ii 0))=true
  obtain g|g|g|g:=this<;>(rw[g];rfl)
 have bz:Hi (∀(k:World) (cs:Array Value),k.ownsRow base 113 4 (.slice (so i) f y) f (aW 4 (dM (cS a)) f)->(k.alloc (.cells cs 113)).ownsRow base 113 4 (.slice (so i) f y) f (aW 4 (dM (cS a)) f)):=λk cs be=>be.alloc _;have ea:Hi (∀(k:World) (p:Nat) (v:Value),(aW 4 (dM (cS a)) 1)[p]?=some v->(k.alloc (.cells #[ii (-1),.string a,.string a,.string a] 113)).cell? ((⟨k.heap.size,0,none⟩:Addr).add p)=some v):=λk=>dQ k (aW 4 (dM (cS a)) 1) 113;have eb:Hi (∀(k:World) (p:Nat) (v:Value),(aW 4 (dM (cS a)) 2)[p]?=some v->(k.alloc (.cells #[ii (-1),.string a,.string a,.string a,ii (-1),.string a,.string a,.string a] 113)).cell? ((⟨k.heap.size,0,none⟩:Addr).add p)=some v):=λk=>by have g:aW 4 (dM (cS a)) 2=[ii (-1),.string a,.string a,.string a,ii (-1),.string a,.string a,.string a]:=KQ (cS a);grind[dQ]
 have gn:=ag.size;obtain⟨n,av⟩:=nn ((h 6).length);obtain⟨a3,q3,ac⟩:=gL (ad.o.own 6 qo);rw[av]at ac;have gf:n<=3*P:=by have:=HX.o.2.2.2.2.1;omega
 have bv:∀d,d<9->(j d).ownBlock≠some i:=λd m g=>by have:=hK i (HX.o.2.2.2.2.2.1 d m i g);omega
 have ce:Hi (∀k,Fr [i] W1 k->k.cell? ⟨e,6,none⟩=some (.slice a3 n q3)/\k.frozen? ⟨e,6,none⟩=false/\k.ownsRow 0 34 1 (.slice a3 n q3) n (h 6)/\BR k e j h J/\BL k L h):=λk hf=>by
  have ar:=ad.o.fr hf qt (λd m q r=>by simp;intro g;subst g;exact bv d m r);have au:∀c∈L,c∉[i]:=λc l g=>by
   have e':c=i:=by simpa using g
   subst e';have:=hK c (HX.o.2.2.2.2.2.2 c l).1;omega
  refine⟨by rw[ar.cell 6 qo,ac],ar.fz 6,?_,ar,Zt.o.fr hf au⟩;have:=ar.own 6 qo;rw[ac,av]at this;exact this
 have cb:Hi (e∉(Value.ownBlock (.slice a3 n q3)).toList):=λg=>ad.o.nb 6 qo (by rw[ac];simpa using g);have ch:=aA ac;have dx:=aA av;have ek:=aA bv;clear ag ac av bv
 go_wp2_with (first
   |(
     at_builtin
     refine eU rfl (.tmp 35) (.tmp 37) 34 rfl base 113 di (.agg #[ii 0,.string ⟨#[]⟩,.string ⟨#[]⟩,.string ⟨#[]⟩]) 4 56 m7 dd de df bu rfl (.slice (so i) f y) f (aW 4 (dM (cS a)) f) rfl (bz.o _ _ cf.o) ⟨W2.heap.size,0,none⟩ 1 1 (aW 4 (dM (cS a)) 1) rfl rfl (ea.o W2) (cg.o 1) qm qo qt qo ?_;intro v1 Y V ah F;obtain⟨g1,c1,rfl⟩:=bK V qo;have ee:=aA V;have du:=aA ah;have dk:Hi (fQ (W2.alloc (.cells #[ii (-1),.string a,.string a,.string a] 113)) Y (.slice (so i) f y) (.slice (so g1) (f+1) c1)):=F;have bg:=(dq.o.alloc _).trans (bO F) (λaa D=>.inl D);have dr:=aA bg;have go:W2.heap.size<=Y.heap.size:=(by have:=(bO F).size;simp at this;omega);obtain⟨e0,e1,e2,e3⟩:=cj.o Y bg;clear V ah F bg)
   |(
     at_builtin
     refine eU rfl (.tmp 39) (.tmp 42) 34 rfl base 113 di (.agg #[ii 0,.string ⟨#[]⟩,.string ⟨#[]⟩,.string ⟨#[]⟩]) 4 56 m7 dd de df bu rfl (.slice (so i) f y) f (aW 4 (dM (cS a)) f) rfl (bz.o _ _ du.o) ⟨Y.heap.size,0,none⟩ 2 2 (aW 4 (dM (cS a)) 2) rfl rfl (eb.o Y) (cg.o 2) qm qo qt qo ?_;intro v2 w V ah F;obtain⟨g2,c2,rfl⟩:=bK V qo;have ef:=aA V;have dv:=aA ah;have dl:Hi (fQ (Y.alloc (.cells #[ii (-1),.string a,.string a,.string a,ii (-1),.string a,.string a,.string a] 113)) w (.slice (so i) f y) (.slice (so g2) (f+2) c2)):=F;have bh:=(dr.o.alloc _).trans (bO F) (λaa D=>.inl D);have az:=aA bh;have gp:Y.heap.size<=w.heap.size:=(by have:=(bO F).size;simp at this;omega);obtain⟨bm,dh,da,_,_⟩:=ce.o w bh;have cw:=aI bm;have eg:=aA da;clear da;clear V ah F bh)
   |(
     at_builtin
     have ej:Hi ((w.alloc (.cells #[Value.slice (so i) f y,.slice (so g1) (f+1) c1,.slice (so g2) (f+2) c2] 34)).ownsRow 0 34 1 (.slice a3 n q3) n (h 6)):=Zq7 eg.o _;refine eU rfl (.tmp 48) (.tmp 52) 66 rfl 0 34 ft (.slice none 0 0) 1 24 underlying66 ey fl fm fn rfl (.slice a3 n q3) n (h 6) rfl ej.o ⟨w.heap.size,0,none⟩ 3 3 [Value.slice (so i) f y,.slice (so g1) (f+1) c1,.slice (so g2) (f+2) c2] rfl rfl (dQ w _ 34) qc qm qo qo qo ?_;intro v6 x H m z;obtain⟨t,s,rfl⟩:=bK H qo;have bo:=bO z;have bu:=(bo.cell e 6 qt cb.o).trans ((((r0 [] w).alloc _).cell e 6 cw qs).trans bm);have gx:=(bo.frozen e 6 qt cb.o).trans ((((r0 [] w).alloc _).frozen e 6 cw qs).trans dh);obtain⟨_,_,_,cn,cq⟩:=ce.o w az.o;have dz:=aA cq;have bj:Fr [] w (w.alloc (.cells #[Value.slice (so i) f y,.slice (so g1) (f+1) c1,.slice (so g2) (f+2) c2] 34)):=(r0 _ _).alloc _;obtain⟨A,bk⟩:∃en,en=[Value.slice (so i) f y,.slice (so g1) (f+1) c1,.slice (so g2) (f+2) c2]:=⟨_,rfl⟩;obtain⟨C,cp⟩:=(cn.fr bj qs qs).push 6 qo (.slice (so t) (n+3) s) A (by rw[bk,dx.o];exact H) (by rw[ch.o];exact z);have ds:=aA (bj.qO.trans cp (λaa D=>.inl D));have dt:Hi (∀q,Value.ownBlock (.slice (so t) (n+3) s)=some q->(j 6).ownBlock=some q\/w.heap.size<=q):=λq r=>by
       obtain b|b:=gK z q r
       ·exact .inl (by rw[ch.o];exact b)
       simp at b;exact .inr qo
     obtain⟨u,bq⟩:=nn ((h 8).length);have ai:=C.own 8 qo;rw[show aR h 6 (h 6++A) 8=h 8 from rfl,show aR j 6 (.slice (so t) (n+3) s) 8=j 8 from rfl,bq]at ai;obtain⟨a4,q4,aj⟩:=gL ai;rw[aj]at ai;have gg:u<=3*P:=by have:=HX.o.2.2.2.2.1;have:=HX.o.2.1;omega
     have gd:x.cell? ⟨e,8,none⟩=some (.slice a4 u q4):=by have b:=C.cell 8 qo;rw[cE _ _ _ _ _ _ (.inr qo),show aR j 6 (.slice (so t) (n+3) s) 8=j 8 from rfl,aj]at b;exact b
     have dc:(x.setCell ⟨e,6,none⟩ (.slice (so t) (n+3) s)).heap.size=x.heap.size:=by simp[World.setCell]
     have eh:Hi (((x.setCell ⟨e,6,none⟩ (.slice (so t) (n+3) s)).alloc (.cells #[Value.string a,.string a,.string a] 9)).ownsRow 0 9 1 (.slice a4 u q4) u (h 8)):=Zq7 ai _;have ed:Hi (∀(p:Nat) (v:Value),[Value.string a,.string a,.string a][p]?=some v->((x.setCell ⟨e,6,none⟩ (.slice (so t) (n+3) s)).alloc (.cells #[Value.string a,.string a,.string a] 9)).cell? ((⟨x.heap.size,0,none⟩:Addr).add p)=some v):=by have b:=dQ (x.setCell ⟨e,6,none⟩ (.slice (so t) (n+3) s)) [Value.string a,.string a,.string a] 9;rw[dc]at b;exact b
     have cc:Hi (e∉(Value.ownBlock (.slice a4 u q4)).toList):=λg=>C.nb 8 qo (by rw[show aR j 6 (.slice (so t) (n+3) s) 8=j 8 from rfl,aj];simpa using g);have ax:=aA C;have bc:=aA aj;have dy:=aA bq;have ba:=aA bk;have ev:e<x.heap.size:=by have:=C.lt;omega
     clear cn cq bj C cp ai aj bq bk H m z bo bm dh)
   |(
     at_builtin
     refine eU rfl (.tmp 60) (.tmp 64) 38 rfl 0 9 fs (.string ⟨#[]⟩) 1 16 underlying38 ex fo fp fq rfl (.slice a4 u q4) u (h 8) rfl eh.o ⟨x.heap.size,0,none⟩ 3 3 [Value.string a,.string a,.string a] rfl rfl ed.o qc qm qo qo qo ?_;intro v9 w9 H m z;obtain⟨N,M,rfl⟩:=bK H qo;have an:Hi (Fr [] (x.setCell ⟨e,6,none⟩ (.slice (so t) (n+3) s)) ((x.setCell ⟨e,6,none⟩ (.slice (so t) (n+3) s)).alloc (.cells #[Value.string a,.string a,.string a] 9))):=(r0 _ _).alloc _;have aq:e<(x.setCell ⟨e,6,none⟩ (.slice (so t) (n+3) s)).heap.size:=by rw[dc];exact ev
     have bl:=Z1 aq an.o.size;have ge:=((bO z).cell e 8 bl cc.o).trans ((an.o.cell e 8 aq qs).trans ((ax.o.cell 8 qo).trans (by rw[show aR j 6 (.slice (so t) (n+3) s) 8=j 8 from rfl,bc.o])));have gy:=((bO z).frozen e 8 bl cc.o).trans ((an.o.frozen e 8 aq qs).trans (ax.o.fz 8));have ei:=aA H;have dm:Hi (fQ ((x.setCell ⟨e,6,none⟩ (.slice (so t) (n+3) s)).alloc (.cells #[Value.string a,.string a,.string a] 9)) w9 (.slice a4 u q4) (.slice (so N) (u+3) M)):=z;clear H m z aq bl))
 refine Q5 (v:=.tuple #[]) (Q6 rfl _ _ _) rfl ⟨rfl,?_⟩
 show OwnP B e P K [i] _
 obtain⟨O,ep,eq,fa,fb,fc⟩:=qE (tD (cS a)) ee.o dk.o dv.o ef.o dl.o;have es:∀v∈A,MkR w O v (cS a):=λv X=>by
  rw[ba.o]at X;simp only[mem_cons,not_mem_nil,or_false]at X;obtain rfl|rfl|rfl:=X
  ·exact Mkg.rows (cs:=cS a) fa qo
  ·exact Mkg.rows (cs:=cS a) fb qo
  exact Mkg.rows (cs:=cS a) fc qo
 have er:∀c∈O,c=i\/W2.heap.size<=c:=λc l=>by
  obtain b|b:=ep c l
  ·simp[Value.ownBlock]at b;exact .inl b.symm
  exact .inr b
 obtain⟨x3,x4,x5,x6,x7,Zs,fw⟩:=HX.o;obtain⟨v3,fj⟩:=nm (Value.slice (so t) (n+3) s);obtain⟨W7,et⟩:=nm (x.setCell ⟨e,6,none⟩ (.slice (so t) (n+3) s));have C:=ax.o;have bi:=ds.o;have Zr:=an.o;have z:=dm.o;have cy:=dt.o;have H:=ei.o;rw[<-et]at C bi Zr z;rw[<-fj]at C cy;obtain⟨ae,co⟩:=(C.fr Zr qs qs).push 8 qo (.slice (so N) (u+3) M) [Value.string a,.string a,.string a] (by rw[show aR h 6 (h 6++A) 8=h 8 from rfl,dy.o];exact H) (by rw[show aR j 6 v3 8=j 8 from rfl,bc.o];exact z);rw[show aR j 6 v3 8=j 8 from rfl]at co;rw[show aR h 6 (h 6++A) 8=h 8 from rfl]at ae;have am:Fr (e::((j 6).ownBlock.toList++(j 8).ownBlock.toList)) w (w9.setCell ⟨e,8,none⟩ (.slice (so N) (u+3) M)) :=
  ((bi.mono (λaa D=>.inl (by obtain b|b:=Qq0.1 D<;>simp_all))).qT Zr).trans co (λaa D=>.inl (by obtain b|b:=Qq0.1 D<;>simp_all))
 obtain⟨WT,eu⟩:=nm (w9.setCell ⟨e,8,none⟩ (.slice (so N) (u+3) M));rw[<-eu]at ae am |-;have gv:=am.size;have W:=λd m q r=>((ad.o.own d m).lt q r).2;have gm:B.heap.size<=W1.heap.size:=by have:=bd.o;have:=cd.o.size;omega
 have gq:=bi.size;have gu:=Zr.size;have cr:A.length=3:=by rw[ba.o];rfl
 have gc:=ad.o.lt;have gt:=az.o.size;have R:∀c∈L++O,c≠e/\(∀d,d<9->(j d).ownBlock≠some c)/\(c∈K\/c∈[i]\/B.heap.size<=c)/\c<w.heap.size:=λc l=>by
  obtain b|b:=m5.1 l
  ·obtain⟨t1,t2⟩:=fw c b;exact⟨λg=>ec.o (g ▸ t1),t2,.inl t1,by have:=dw.o c t1;omega⟩
  have cu:=eq c b;obtain ak|ak:=er c b
  ·subst ak;exact⟨λg=>ew g.symm,ek.o,.inr (.inl qs),cu⟩
  exact⟨by omega,λd m g=>by have:=W d m c g;omega,.inr (.inr qo),cu⟩
 have fu:∀c,c≠e->(∀d,d<9->(j d).ownBlock≠some c)->c∉e::((j 6).ownBlock.toList++(j 8).ownBlock.toList):=λc Q h2 S=>by
  obtain b|b:=Qq0.1 S
  ·exact Q b
  obtain b|b:=m5.1 b
  ·exact h2 6 qo (qu b)
  exact h2 8 qo (qu b)
 have eo:BL WT (L++O) (aR (aR h 6 (h 6++A)) 8 (h 8++[Value.string a,.string a,.string a])):=by have b:=((dz.o.up (K':=L++O) (λc l=>Qk3 _ l)).steps x4.2.2 A a (λv X=>(es v X).up (λc l=>Qk6 _ l))).fr am (λc l=>fu c (R c l).1 (R c l).2.1);rw[show(A.map λ_=>Value.string a)=[Value.string a,.string a,.string a] by rw[ba.o];rfl]at b;exact b
 have dj:∀d,d<9->∀q,(aR (aR j 6 v3) 8 (.slice (so N) (u+3) M) d).ownBlock=some q->(∃k',k'<9/\(j k').ownBlock=some q)\/w.heap.size<=q:=λd m q r=>by
  by_cases k4:d=8
  ·subst k4;rw[iG]at r;obtain b|b:=gK z q r
   ·exact .inl ⟨8,by omega,by rw[bc.o];exact b⟩
   exact .inr qo
  rw[iA _ _ k4]at r
  by_cases k3:d=6
  ·subst k3;rw[iG]at r;obtain b|b:=cy q r
   · exact .inl ⟨6,by omega,b⟩
   exact .inr b
  rw[iA _ _ k3]at r;exact .inl ⟨d,m,r⟩
 have bw:∀c,c∈(range 9).filterMap (λd=>(aR (aR j 6 v3) 8 (.slice (so N) (u+3) M) d).ownBlock)->∃d,d<9/\(aR (aR j 6 v3) 8 (.slice (so N) (u+3) M) d).ownBlock=some c:=λc l=>by obtain⟨d,m,g⟩:=Qk4.1 l;exact⟨d,Qk5.1 m,g⟩
 refine⟨⟨(L++O)++(range 9).filterMap (λd=>(aR (aR j 6 v3) 8 (.slice (so N) (u+3) M) d).ownBlock),⟨⟨_,_,J,L++O,ae,eo,x3,?_,?_,?_,?_,?_,fe.2,λd m q r=>?_,λc l=>⟨Qk3 _ l,λd m g=>?_⟩⟩,λS=>?_,λc l=>?_⟩,λc l=>?_⟩,?_⟩
 ·refine⟨x4.1,x4.2.1,?_⟩
  show(h 6++A).length=(h 8++[Value.string a,.string a,.string a]).length
  rw[m8,m8,cr,x4.2.2];rfl
 ·show(h 0).length<=_
  omega
 ·show(h 2).length<=_
  omega
 ·show(h 3).length<=_/\(h 5).length<=_/\(h 6++A).length<=_
  rw[m8,cr];omega
 ·omega
 ·exact Qk6 _ (Qk4.2 ⟨d,Qk5.2 m,r⟩)
 ·obtain⟨k',bp,b⟩|b:=dj d m c g
  ·exact(R c l).2.1 k' bp b
  have:=(R c l).2.2.2;omega
 ·obtain b|b:=m5.1 S
  ·exact(R e b).1 rfl
  obtain⟨d,m,g⟩:=bw e b;exact ae.nb d m g
 ·obtain b|b:=m5.1 l
  ·have:=(R c b).2.2.2;omega
  obtain⟨d,m,g⟩:=bw c b;exact((ae.own d m).lt c g).2
 ·obtain b|b:=m5.1 l
  ·exact(R c b).2.2.1
  obtain⟨d,m,g⟩:=bw c b;obtain⟨k',bp,ak⟩|ak:=dj d m c g
  ·exact .inl (Zs k' bp c ak)
  exact .inr (.inr qo)
 refine(((dp.o.mono (λaa D=>.inl qa)).qT cd.o).trans az.o (λc l=>.inl qa)).trans am (λc l=>?_);obtain b|b:=Qq0.1 l
 ·exact .inl (by simp[b])
 obtain b|b:=m5.1 b
 ·exact .inl (by simp[Zs 6 qo c (qu b)])
 exact .inl (by simp[Zs 8 qo c (qu b)])
variable {L M S:List Nat} {a b:Nat} {t:T} {v:Value} {w x y:World}
theorem Kf(a:U)(b:World):(binOp BinOp.eql 85 a.val a.val).run prog b=.ok (.bool true) b:=by simp[go_sem]
theorem SR.owned{K:List Nat}{tn:Int}(h:Gm w v L t)(j:∀c∈L,c≠a/\c∉K)(e:Fr [] w x)(n:OwnP x a b K M y)(k:∀c∈M,w.heap.size<=c):SR w a L K b tn v y:=by
 have r:=h.lt;obtain⟨⟨i,l,m⟩,g⟩:=n;have u:=e.size;have o:∀c∈L,c∉a::(K++M):=qg;refine⟨⟨L,t,i,(h.qF e).fr g o,l,qg,λc f=>?_,λc f=>⟨(j c f).1,λs=>?_⟩⟩,(e.qO (S:=a::(L.eraseIdx 2++K))).trans g (λp q=>?_)⟩
 ·obtain d|d|d:=m c f
  ·exact .inl d
  ·exact .inr (k c d)
  exact .inr qo
 ·grind
 grind
theorem SR.after{K:List Nat}{tn:Int}(f:SR w a S K b tn v x)(c:Fr [] x y):SR w a S K b tn v y:=by obtain⟨⟨e,m,d,h,i,j,k,l⟩,g⟩:=f;exact⟨⟨e,m,d,h.qF c,i.qF c,j,k,l⟩,g.qT c⟩
theorem VR(t:Value)(s K:List Nat)(l:T)(d h:Nat)(g:World)(n:Gm g t s l)(m:Bk g d K h)(J:∀W∈s,W≠d/\W∉K)(hN:h<=2200000):Cs 56 #[t,pt d] g λi A=>i=.returned (.bool true)/\SR g d s K h l.turn t A:=by
 have HG:=aA n;have Y:=aA m;have X:=aA J;have af:=m.lt;have ab:=aA m.kl;have ai:l.us.length<=100:=n.ok.len;have e:=n.lt;obtain⟨⟨y,gb,pb,ae,x,qb,E,rfl,rfl,hx,P,L,N⟩,_⟩:=n;have ah:=e y qs;have ar:=e x qs;have aq:=e qb qs;have C:=Cx gb pb ae l g L;have ad:=aA N;clear L N m J e
 delta Cs;go_in
 go_wp2_with fail
 refine cm C ?_;rintro i B ⟨q,w,rfl,M,p,j⟩;have Zq:=j.size;obtain⟨a,k⟩:=nn l.us;have O:=ad.o.qF j;have r:Hi (∀f,Fr [] B f->f.cell? ⟨y,1,none⟩=some (pt x)/\f.cell? ⟨x,148,none⟩=some (.slice (so qb) a.length E)/\PRow f q w a/\PRow f qb E a):=λf b=>by have F:=O.qF b;have H:=F.qA;have I:=F.row;rw[k]at H I;refine⟨((j.qT b).cell y 1 ah qs).trans P,H,?_,I⟩;rw[<-k];exact p.fr b qs
 rw[k]at ai p |-;have am:=aA k;have ak:=aA p;obtain⟨Q,R,_,_⟩:=r.o B (r0 _ _);clear C O k p hx P
 go_wp2_with fail
 clear Q R
 go_loopw [6,7] (fun aj v wr=>aj=.bool true/\∃c:Nat,c<=a.length/\v=ii c/\Fr [] B wr) (fun _ v _=>a.length-(intOf v).toNat)
 ·exact⟨rfl,0,Z3 _,rfl,r0 _ _⟩
 obtain⟨rfl,c,hk,rfl,b⟩:=hrel
 by_cases e:c<a.length
 ·have ag:(c:Int)<(a.length:Int):=qo;obtain⟨Q,R,S,V⟩:=r.o wr b;obtain⟨z,u⟩:∃z,a[c]?=some z:=⟨a[c],Y2 e⟩;obtain⟨c0,c1,c2,c3,c4,c5,c6,c7,c8,c9,an⟩:=S.ppl.at u;obtain⟨d0,d1,d2,d3,d4,d5,d6,d7,d8,d9,ao⟩:=V.ppl.at u;have ap:=Kf z;clear S V u;go_wp2
  go_quiet (fail)
  go_wp2;go_roundw
  ·exact⟨rfl,c+1,e,by go_num,b.drewN _⟩
  simp[intOf];omega
 have ag:¬(c:Int)<(a.length:Int):=qo;have D:=Ck d h q w g.heap.size K a wr ((Y.o.qF j).qF b) hN (r.o wr b).2.2.1 qo M af ab.o;have aa:=(show Hi (Cs 100 #[pt d,.slice (so q) a.length w] wr λi A=>i=.returned (.tuple #[])/\OwnP wr d h K [q] A)from D);clear D
 go_wp2_with (go_at_call 100;refine cm aa.o ?_;rintro i w3 ⟨rfl,hown⟩;have ac:=(aA hown);clear hown)
 go_ret;exact⟨rfl,SR.owned HG.o X.o (j.qT b) ac.o (by simp;exact M)⟩
variable {c:Nat}
theorem RG.rng(d:RG w a b c t):w.rangeAt a 1 (dH t.bd):=by intro f g e;grind[gs,lA,RG.bd,dH,getElem?_range]
structure Asked (w1:World) (sb gb rb:Nat) (z0 z1 z2 z3:Int) (BL:List Value):Prop where
 lg:∀w',Fr [] w1 w'->Cs 23 #[pt gb] w' (R0 w' (.agg #[ii z0,ii z1,ii z2,ii z3]))
 lr:∀w',Fr [] w1 w'->Cs 54 #[pt rb] w' (R0 w' (.agg #[ii z0,ii z1,ii z2,ii z3]))
 cg:∀w',Fr [] w1 w'->Cs 55 #[pt gb] w' (R0 w' (.agg BL.toArray))
 rr:∀w',Fr [] w1 w'->w'.rangeAt rb 1 BL
 sz:(prog.info? 88).map (·.size)=some BL.length
 c0:∀w',Fr [] w1 w'->w'.cell? ⟨sb,0,none⟩=some (pt gb)
 c1:∀w',Fr [] w1 w'->w'.cell? ⟨sb,1,none⟩=some (pt rb)
 eq:∀w',(binOp BinOp.eql 88 (.agg BL.toArray) (.agg BL.toArray)).run prog w'=.ok (.bool true) w'
theorem Gm.asked(g:Gm w v S t):∃e c d m n o p BL,v=.pointer (so e)/\Asked w e c d m n o p BL:=by
 have l:1<=t.us.countP (aG 0)+t.us.countP (aG 1):=g.ok.bs;obtain⟨⟨e,c,j,f,d,qb,k,rfl,rfl,q,r,h,i⟩,_⟩:=g;refine⟨e,c,d,t.turn,eD t.us,t.s0,t.s1,dH t.bd,rfl,⟨λa b=>YU c j f t a (h.fr b qs qs),λa b=>?_,λa b=>SZ c j f t a (h.fr b qs qs),λa b=>(i.qF b).rng,?_,(by grind[Fr.cell,aI]),(by grind[Fr.cell,aI]),λa=>RK t.bd a⟩⟩
 ·have:=Fq d qb k t a (i.qF b);rw[zM l]at this;exact this
 grind[lA,oK]
theorem Hp(n:Value)(l K:List Nat)(B:T)(h m:Nat)(k:World)(y:Gm k n l B)(H:Bk k h K m)(F:∀f∈l,f≠h/\f∉K)(Q:m<=2200000):Cs 28 #[n,pt h] k λj b=>j=.returned (.bool true)/\SR k h l K m B.turn n b:=by
 have E:=VR n l K B h m k y H F Q;obtain⟨r,_,_,_,_,_,_,_,aa,_⟩:=y.asked;subst aa;clear y H F
 delta Cs;go_in
 go_wp2_with fail
 refine cm E ?_;rintro j e ⟨rfl,A⟩;obtain⟨L',t',K',I,_⟩:=A.ex;obtain⟨af,p,q,s,t,u,w,BL,hg,c⟩:=I.asked;cases hg;have P:=(show Hi (∀b,Fr [] e b->Cs 23 #[pt p] b (R0 b (.agg #[ii s,ii t,ii u,ii w])))from c.lg);have LR:=(show Hi (∀b,Fr [] e b->Cs 54 #[pt q] b (R0 b (.agg #[ii s,ii t,ii u,ii w])))from c.lr);have J:=(show Hi (∀b,Fr [] e b->Cs 55 #[pt p] b (R0 b (.agg BL.toArray)))from c.cg);have L:=aA (λb (x:(b.cell? ⟨r,0,none⟩=some (pt p)/\b.cell? ⟨r,1,none⟩=some (pt q)/\Fr [] e b))=>c.rr b x.2.2);have N:=aA c.sz;have g:∀b,Fr [] e b->(λb:World=>ca b r 0 (pt p)/\ca b r 1 (pt q)/\Fr [] e b) b:=λb z=>⟨c.c0 b z,c.c1 b z,z⟩;have O:=g e.drew ((r0 _ _).drew);have ab:=c.eq;have ac:=λ(f D:Operand) (C:World)=>RL f D BL.toArray C;have ad:=Hs s t u w;have ae:=λ(f D:Operand) (C:World)=>Ht f D s t u w C;have M:=aA A;clear A I c E
 go_wp2_with fail
 refine rg 30 g O λa=>?_
 iterate 6 refine tn 30 a ?_
 refine ta 7 a ?_;refine ta 8 a ?_;refine ta 9 a ?_;refine ta 10 a ?_;refine rd 6 fun K hK=>?_;have d:=aA hK;clear hK;go_simp;refine cm (P.o _ a.2.2) ?_;rintro j ai ⟨rfl,V⟩;have Y:=a.2.2.qT V;clear a;refine d.o _ _ (g _ Y) (fun a=>?_);clear d K;try simp only[Act.put,Z]
 refine rd 11 fun K hK=>?_;have d:=aA hK;clear hK;go_simp;refine cm (LR.o _ a.2.2) ?_;rintro j ag ⟨rfl,R⟩;have W:=a.2.2.qT R;clear a;refine d.o _ _ (g _ W) (fun a=>?_);clear d K;try simp only[Act.put,Z]
 iterate 7 refine tn 30 a ?_
 refine ta 20 a ?_;refine ta 21 a ?_;refine ta 22 a ?_;refine ta 23 a ?_;refine ta 24 a ?_;refine ta 25 a ?_;refine wpAnyH_take (i:=26) (oi:=_) (v:=.agg BL.toArray) (by simp only[G];rfl) qk qk qk (by exact λ_ _ _ x=>x) (yieldsIf_load_mid qk 88 (.tmp 34) rfl q 1 rfl BL _ L.o Qk0 rfl N.o) a ?_;try simp only[Act.put,Z]
 refine rd 19 fun K hK=>?_;have d:=aA hK;clear hK;go_simp;refine cm (J.o _ a.2.2) ?_;rintro j ah ⟨rfl,S⟩;have X:=a.2.2.qT S;clear a;refine d.o _ _ (g _ X) (fun a=>?_);clear d K;try simp only[Act.put,Z]
 refine ta 27 a ?_;refine ta 28 a ?_;refine ta 29 a ?_;refine wpAnyH_done qk ?_ _;go_wp2;go_ret;exact⟨rfl,SR.after M.o a.2.2⟩
theorem VH(b c e:List Value)(a d:Nat)(f:b.length=a):(b++c.drop a).take a++e++(b++c.drop a).drop (a+d)=(b++e)++c.drop (a+d):=by simp_all[take_left',drop_append,drop_of_length_le,nil_append,drop_drop]
theorem rW(d:Nat->Option (Nat×Nat))(c f e:List Value)(g:Nat)(i:Value)(h:List (Nat×Value))(a b:Nat)(k:d g=some (a,b))(l:i.cells.toList=e)(m:e.length=b)(j:c.length=a)(n:a+b<=f.length):Instr.fill d (c++f.drop a).toArray ((g,i)::h)=Instr.fill d ((c++e)++f.drop (a+b)).toArray h:=by rw[kL d _ g i h a b k qg qg];rw[l,toList_toArray,VH c f e a b j]
theorem WD:kJ prog 131=some [(0,1),(1,144),(145,2),(147,1),(148,1)]:=qk
theorem WE:uG prog 131 148=some (some (149,[.slice none 0 0])):=qk
theorem RW(a c d e:Int)(BL:List Value)(f:BL.length=144):prog.built 131 [(0,ii a),(1,.agg BL.toArray),(2,.agg #[ii c,ii d]),(3,ii e)]=some (ii a::(BL++[ii c,ii d,ii e,.slice none 0 0])).toArray:=by
 refine uV _ _ _ _ _ WD WE _ _ (λb i g=>?_);have j:b.toList.length=149:=qo;have h:b=([]++b.toList.drop 0).toArray:=qs;rw[h,rW _ [] b.toList [ii a] 0 (ii a) _ 0 1 rfl rfl rfl rfl qo,rW _ ([]++[ii a]) b.toList BL 1 (.agg BL.toArray) _ 1 144 rfl rfl f rfl qo,rW _ ([]++[ii a]++BL) b.toList [ii c,ii d] 2 (.agg #[ii c,ii d]) _ 145 2 rfl rfl rfl qg qo,rW _ ([]++[ii a]++BL++[ii c,ii d]) b.toList [ii e] 3 (ii e) _ 147 1 rfl rfl rfl qg qo,g]
 show some _=_
 simp
theorem Ku{i:Array Oper}{n:World->Prop}{d:Oper}{a:Act}(q:Region.wanted d (yielded i a.tmps)=true)(c:TypeId)(e f g h:Operand)(p:d.op=.build c #[(0,e),(1,f),(2,g),(3,h)])(j k l m:Value)(u:a.eval e=j)(v:a.eval f=k)(w:a.eval g=l)(x:a.eval h=m)(b:Array Value)(y:prog.built c [(0,j),(1,k),(2,l),(3,m)]=some b):YieldsIf prog i n d (.agg b) a:=
 .inl ⟨q,λs _=>by
  have o:prog.built c ((#[(0,e),(1,f),(2,g),(3,h)]:Array (Nat×Operand)).map λ(r,t)=>(r,a.eval t)).toList=some b:=by simp_all
  unfold execOp;simp only[p,Sem.run_bind,run_build s c _ b o,Result.andThen_ok,Sem.run_pure]⟩
structure CpI (w:World) (hb:Nat) (t:T) (k:Nat) (wr:World):Prop where
 ex:∃v,(∀j,j<149->wr.cell? ⟨hb,j,none⟩=some (cW t v j))/\wr.ownsRow w.heap.size 85 11 v k ((t.us.take k).flatMap U.cells)/\v.ownBlock≠some hb
 fz:∀j,wr.frozen? ⟨hb,j,none⟩=false
 fr:Fr [] w wr
theorem Fi(g qb ab:Nat)(d:T)(c:World)(s:RG c g qb ab d)(cc:0<d.us.length):Cs 65 #[pt g] c λh b=>∃A Y ac,h=.returned (pt A)/\RG b A Y ac d/\c.heap.size<=A/\c.heap.size<=Y/\Fr [] c b:=by
 obtain⟨cj,ce,cf,cg,ch⟩:=Z2 jU;obtain⟨t,ha⟩:=nm d.turn;obtain⟨x,ar⟩:=nm d.s0;obtain⟨y,Zq⟩:=nm d.s1;obtain⟨w,ap⟩:=nm d.next;obtain⟨BL,ah⟩:=nm (dH d.bd);have ai:BL.length=144:=by rw[ah];exact lA _
 have az:Hi ((prog.info? 88).map (·.size)=some BL.length):=by show _=_;rw[ai];exact oK
 have Zr:=(show Hi _ from RW t x y w BL ai);have co:=s.lt;have HS:∀b,Fr [] c b->(λb:World=>(cl b g 0 t/\cl b g 145 x/\cl b g 146 y/\cl b g 147 w)/\Fr [] c b) b:=λb i=>by have V:=s.qF i;exact⟨⟨ha ▸ V.c0,ar ▸ V.c145,Zq ▸ V.c146,ap ▸ V.c147⟩,i⟩
 have ay:Hi (∀b,(λb:World=>(b.cell? ⟨g,0,none⟩=some (ii t)/\b.cell? ⟨g,145,none⟩=some (ii x)/\b.cell? ⟨g,146,none⟩=some (ii y)/\b.cell? ⟨g,147,none⟩=some (ii w))/\Fr [] c b) b->b.rangeAt g 1 BL):=λb hs=>by rw[ah];exact(s.qF hs.2).rng
 have f:=HS c.drew ((r0 _ _).drew);have HG:=aA s;have au:Hi (∀e,e<149->(ii t::(BL++[ii x,ii y,ii w,.slice none 0 0]))[e]?=some (cW d (.slice none 0 0) e)):=λe hj=>by
  unfold cW
  by_cases S:e=0
  ·subst S;rw[Q7 rfl,ha];rfl
  rw[Z0 S];obtain⟨q,rfl⟩:∃q,e=q+1:=⟨e-1,by omega⟩;rw[Zz5]
  by_cases e1:q+1<145
  ·grind[dH]
  rw[Z0 e1,J8 qo,ai];have:q=144\/q=145\/q=146\/q=147:=qo;obtain rfl|rfl|rfl|rfl:=this<;>simp[ar,Zq,ap]
 clear s ha ar Zq ap ah
 delta Cs;go_in
 go_wp2_with fail
 refine rg 19 HS f λj=>?_
 iterate 7 refine tn 19 j ?_
 refine wpAnyH_take (i:=7) (oi:=_) (v:=.agg BL.toArray) (by simp only[G];rfl) qk qk qk (by exact λ_ _ _ s=>s) (yieldsIf_load_mid qk 88 (.tmp 11) rfl g 1 rfl BL _ ay.o Qk0 rfl az.o) j ?_;try simp only[Act.put,Z]
 refine ta 8 j ?_;refine ta 9 j ?_;refine ta 10 j ?_;refine ta 11 j ?_;refine ta 12 j ?_;refine ta 13 j ?_;refine ta 14 j ?_;refine ta 15 j ?_;refine wpAnyH_take (i:=16) (oi:=_) (v:=.agg (ii t::(BL++[ii x,ii y,ii w,.slice none 0 0])).toArray) (by simp only[G];rfl) qk qk qk (by exact λ_ _ _ s=>s) (Ku qk 131 (.tmp 8) (.tmp 12) (.tmp 16) (.tmp 20) rfl (ii t) (.agg BL.toArray) (.agg #[ii x,ii y]) (ii w) rfl rfl rfl rfl _ Zr.o) j ?_;try simp only[Act.put,Z]
 refine rd 17 fun K hK=>?_;have aw:=aA hK;clear hK;go_simp;obtain⟨W1,ad⟩:∃bs,bs=(c.alloc (.cells (ii t::(BL++[ii x,ii y,ii w,.slice none 0 0])).toArray 131)).drew:=⟨_,rfl⟩;rw[<-ad];have ak:Fr [] c W1:=by rw[ad];exact((r0 _ _).alloc _).drew
 have an:W1.heap[c.heap.size]?=some (.cells (ii t::(BL++[ii x,ii y,ii w,.slice none 0 0])).toArray 131):=by rw[ad];exact aC _ _
 clear j;refine aw.o _ _ (HS _ ak) (λj=>?_);clear aw K;try simp only[Act.put,Z]
 refine ta 18 j ?_;refine wpAnyH_done qk ?_ _;have bf:CpI c c.heap.size d 0 W1:=⟨⟨.slice none 0 0,λe hj=>by rw[aB an,J6];exact au.o e hj,⟨rfl,.inl ⟨rfl,rfl⟩⟩,by simp[Value.ownBlock]⟩,λe=>aV an,ak⟩;have av:=aA bf;clear bf an ak ad HS ay Zr az f j au;go_wp2
 go_loopw [4] (fun q wr=>∃a:Nat,a<=d.us.length/\q=ii a/\CpI c c.heap.size d a wr) (fun q _=>d.us.length-(intOf q).toNat)
 ·exact⟨0,Z3 _,rfl,av.o⟩
 clear av;obtain⟨a,hk,rfl,hI⟩:=hrel;have hG:=HG.o.qF hI.fr;have bt:ca wr g 148 (.slice (so qb) d.us.length ab):=hG.cell 148 qo;have cr:=hI.fr.size;have bz:=HG.o.len
 by_cases ao:a<d.us.length
 ·have cb:(a:Int)<(d.us.length:Int):=qo;have m:=hG.row.ppl a ao;obtain⟨bm,hu⟩:=nm (d.us[a]);rw[<-hu]at m;have bk:(d.us.take (a+1)).flatMap U.cells=(d.us.take a).flatMap U.cells++bm.cells:=by rw[Qj7 ao,Qz5,<-hu];simp
  obtain⟨D,E,H,I,J,L,M,N,O,P,F⟩:=bm;obtain⟨⟨ck,B,C,X⟩,Q,am⟩:=hI;obtain⟨u,v,rfl⟩:=fD C;have HC:=aA B;have HZ:=aA Q;have HO:=(show Hi (wr.ownsRow c.heap.size 85 11 (.slice u a v) a ((d.us.take a).flatMap U.cells))from C);have ax:=aA X;have br:=aA bk;have ag:=aI (B 0 qo);have bw:g<wr.heap.size:=qo;have p:=hG.row.lt;have cp:=HG.o.row.lt;have bc:wr.cell? ⟨c.heap.size,148,none⟩=some (.slice u a v):=by have:=B 148 qo;simpa[cW]using this
  have aa:∀Z b,Fr Z wr b->c.heap.size∉Z->g∉Z->qb∉Z->(λb:World=>ca b c.heap.size 148 (.slice u a v)/\ca b g 148 (.slice (so qb) d.us.length ab)/\ca b qb (a*11) (ii D)/\ca b qb (a*11+1) (ii E)/\ca b qb (a*11+2) (ii H)/\ca b qb (a*11+3) (ii I)/\ca b qb (a*11+4) (ii J)/\ca b qb (a*11+5) (ii L)/\ca b qb (a*11+6) (ii M)/\ca b qb (a*11+7) (ii N)/\ca b qb (a*11+8) (ii O)/\ca b qb (a*11+9) (ii P)/\ca b qb (a*11+10) (ii F)) b:=λZ b i R n2 n=>⟨(i.cell _ 148 ag R).trans bc,(i.cell g 148 bw n2).trans bt,(i.cell qb _ p n).trans (m 0 _ rfl),(i.cell qb _ p n).trans (m 1 _ rfl),(i.cell qb _ p n).trans (m 2 _ rfl),(i.cell qb _ p n).trans (m 3 _ rfl),(i.cell qb _ p n).trans (m 4 _ rfl),(i.cell qb _ p n).trans (m 5 _ rfl),(i.cell qb _ p n).trans (m 6 _ rfl),(i.cell qb _ p n).trans (m 7 _ rfl),(i.cell qb _ p n).trans (m 8 _ rfl),(i.cell qb _ p n).trans (m 9 _ rfl),(i.cell qb _ p n).trans (m 10 _ rfl)⟩;have f:=aa [] wr.drew ((r0 _ _).drew) qs qs qs;have cn:=Q 148;clear B C X Q bk hu m bc
  go_wp2_with fail
  refine OneFree.region (fun b:World=>b.cell? ⟨c.heap.size,148,none⟩=some (.slice u a v)/\b.cell? ⟨g,148,none⟩=some (.slice (so qb) d.us.length ab)/\b.cell? ⟨qb,a*11,none⟩=some (ii D)/\b.cell? ⟨qb,a*11+1,none⟩=some (ii E)/\b.cell? ⟨qb,a*11+2,none⟩=some (ii H)/\b.cell? ⟨qb,a*11+3,none⟩=some (ii I)/\b.cell? ⟨qb,a*11+4,none⟩=some (ii J)/\b.cell? ⟨qb,a*11+5,none⟩=some (ii L)/\b.cell? ⟨qb,a*11+6,none⟩=some (ii M)/\b.cell? ⟨qb,a*11+7,none⟩=some (ii N)/\b.cell? ⟨qb,a*11+8,none⟩=some (ii O)/\b.cell? ⟨qb,a*11+9,none⟩=some (ii P)/\b.cell? ⟨qb,a*11+10,none⟩=some (ii F)) 16 qk ?_;refine(show OneFree prog Region.Mode.any _ _ _ 16 17 (Array.replicate 17 false) _ _ from ?_);refine tv 0 f ?_;refine tv 1 f ?_;refine tv 2 f ?_;refine tv 3 f ?_;refine tv 4 f ?_;refine tv 5 f ?_;refine tv 6 f ?_;refine tv 7 f ?_;refine tv 8 f ?_;refine tv 9 f ?_;refine tv 10 f ?_;refine tv 11 f ?_;refine o1 12 fun r l=>?_;have k:=aA l;clear l;go_simp;obtain⟨W2,ae⟩:=nm ((wr.alloc (.cells #[ii D,ii E,ii H,ii I,ii J,ii L,ii M,ii N,ii O,ii P,ii F] 85)).drew);rw[<-ae];have af:Fr [] wr W2:=by rw[ae];exact((r0 _ _).alloc _).drew
  have bh:∀(e:Nat) (bn:Value),[ii D,ii E,ii H,ii I,ii J,ii L,ii M,ii N,ii O,ii P,ii F][e]?=some bn->W2.cell? ((⟨wr.heap.size,0,none⟩:Addr).add e)=some bn:=by rw[ae];exact dQ wr [ii D,ii E,ii H,ii I,ii J,ii L,ii M,ii N,ii O,ii P,ii F] 85
  have cq:=af.size;have bi:=aF HO.o af qs;clear ae f;have f:=aa [] W2 af qs qs qs;refine k.o _ _ ⟨λ_=>f,?_⟩;clear k r;try simp only[Act.put,Z]
  refine o1 13 λr l=>?_;have k:=aA l;clear l;rw[Q7 (by rfl)];refine mD _ _ 82 rfl c.heap.size 85 cj zeroU.val 11 88 Qq8 ce cf cg ch rfl (.slice u a v) a ((d.us.take a).flatMap U.cells) rfl bi ⟨wr.heap.size,0,none⟩ 1 1 [ii D,ii E,ii H,ii I,ii J,ii L,ii M,ii N,ii O,ii P,ii F] rfl rfl bh qc qm qo qo qo ?_;intro v3 w3 aq bx aj;obtain⟨z,c3,rfl⟩:=bK aq qo;have bv:=bO aj;have W:=af.qO.trans bv (λba A=>.inl A);have R:c.heap.size∉(Value.ownBlock (.slice u a v)).toList:=λh=>ax.o (qu h);have n2:g∉(Value.ownBlock (.slice u a v)).toList:=λh=>by have:=(HO.o.lt g (qu h)).1;omega
  have n:qb∉(Value.ownBlock (.slice u a v)).toList:=λh=>by have:=(HO.o.lt qb (qu h)).1;omega
  clear f;have f:=aa _ w3 W R n2 n;have z3:=(W.frozen _ 148 ag R).trans cn;have bq:=(show Hi (w3.ownsRow c.heap.size 85 11 (.slice (so z) (a+1) c3) (a+1) ((d.us.take a).flatMap U.cells++[ii D,ii E,ii H,ii I,ii J,ii L,ii M,ii N,ii O,ii P,ii F]))from aq);have bp:=(show Hi _ from gK aj);refine k.o _ _ ⟨λ_=>f,?_⟩;clear k r bh bi aq bx aj;try simp only[Act.put,Z]
  refine o1 14 fun r l=>?_;have k:=aA l;clear l;go_simp;refine k.o _ _ ⟨fun _=>f,?_⟩;clear k r;try simp only[Act.put,Z]
  refine o1 15 fun r l=>?_;have k:=aA l;clear l;go_simp;refine k.o _ _ ⟨fun _=>f,?_⟩;clear k r;try simp only[Act.put,Z]
  refine o1 16 fun r l=>?_;have k:=aA l;clear l;obtain⟨k1,k2,_⟩:=f;go_simp;refine k.o _ _ ⟨fun h6=>absurd rfl h6,OneFree.done qk ?_ _⟩;clear k r;have bu:z≠c.heap.size:=fun h=>by
   obtain bl|bl:=bp.o z rfl
   ·exact ax.o (by rw[bl,h])
   omega
  have be:Fr [] c (w3.setCell ⟨c.heap.size,148,none⟩ (.slice (so z) (a+1) c3)):=(am.trans W (λba A=>.inr (HO.o.lt ba (qu A)).1)).setCell _ _ (.inr (Q9 _));have bg:CpI c c.heap.size d (a+1) (w3.setCell ⟨c.heap.size,148,none⟩ (.slice (so z) (a+1) c3)):=by
   refine⟨⟨.slice (so z) (a+1) c3,λe hj=>?_,?_,by simp[Value.ownBlock];exact bu⟩,λe=>?_,be⟩
   ·by_cases h:e=148
    ·subst h;rw[eA _ _ _ _ _ k1];rfl
    rw[cE _ _ _ _ _ _ (.inr (λe2=>h e2.symm)),W.cell _ e ag R,HC.o e hj];unfold cW;have:=h
    by_cases S:e=0
    ·simp[S]
    by_cases e1:e<145
    ·simp[S,e1]
    have:e=145\/e=146\/e=147:=qo;obtain rfl|rfl|rfl:=this<;>rfl
   ·rw[br.o];refine aF bq.o ((r0 [c.heap.size] w3).setCell _ _ qs) (λbb hg h=>?_);have V:bb=c.heap.size:=by simpa using h
    have h2:z=bb:=by simpa[Value.ownBlock]using hg
    omega
   rw[J9,W.frozen _ e ag R];exact HZ.o e
  have bo:=aA bg;clear bg be k1 k2 z3 aa;go_wp2;go_roundw
  ·exact⟨a+1,ao,by go_num,bo.o⟩
  simp[intOf];omega
 have cb:¬(a:Int)<(d.us.length:Int):=qo;have Zs:a=d.us.length:=qo;obtain⟨⟨ck,B,C,X⟩,Q,am⟩:=hI;rw[Zs,l8 (Q9 _)]at C;obtain⟨Y,ac,rfl,cd,bj⟩:=PRow.qW C rfl cc;have HR:=(show Hi (RG wr c.heap.size Y ac d)from⟨B,Q,bj,bz,λh=>X (by rw[h];rfl)⟩);clear B Q C X bj;go_wp2;go_ret;exact⟨_,rfl,Y,⟨ac,HR.o⟩,Q9 _,cd,am⟩
variable {Q:Fl} {J:List Fl} {P:List Pf}
def TornF(c:List Fl)(d:List Pf):Prop:=d.length=c.length/\∀(e:Nat) (a:Fl),c[e]?=some a->∃b,a.safe<=b/\b<=a.data.length/\d[e]?=some (a.name,a.data.take b)
theorem TornF.nil(a:List Fl):TornF (a.take 0) []:=⟨rfl,λd b c=>by grind⟩
theorem TornF.more(e:TornF (J.take a) P)(j:J[a]?=some Q)(h:Q.safe<=b)(i:b<=Q.data.length):TornF (J.take (a+1)) (P++[(Q.name,Q.data.take b)]):=by
 have l:a<J.length:=qg;have m:P.length=a:=by rw[e.1,Qz8];omega
 refine⟨by grind,λd g c=>?_⟩;rw[List.getElem?_take]at c
 by_cases k:d<a
 ·rw[Q7 qo]at c;obtain⟨n,o,p,q⟩:=e.2 d g qg;grind
 by_cases f:d=a
 ·subst f;rw[Q7 qo,j]at c;cases c;exact⟨b,h,i,by grind⟩
 grind
structure TnP (D:List Fl) (w:World) (e:Ending) (w':World):Prop where
 ex:∃v fs,e=.returned v/\FilesO w' w.heap.size v fs/\TornF D fs
 fr:Fr [] w w'
structure TnI (D:List Fl) (w:World) (k:Nat) (v:Value) (wr:World):Prop where
 ex:∃fs,FilesO wr w.heap.size v fs/\TornF (D.take k) fs
 fr:Fr [] w wr
theorem Jq(base db:Nat)(g:List Fl)(gv:Value)(k:List Int)(i:World)(an:DK i base db g)(r:IntsV i gv k)(hl:g.length<=100000000)(cc:k.length<=1000000000)(hs:∀b∈g,b.safe<=b.data.length/\b.data.length<=90000000000000):Cs 112 #[pt db,gv] i λO w'=>TnP g i O w':=by
 obtain⟨ay,Zq,av,aw,ax⟩:=Z2 pX;obtain⟨ga,gc,rfl⟩:∃ga gc,gv=.slice ga k.length gc:=by
  obtain⟨ao,X,rfl,rfl⟩|⟨lb,lo,X,rfl,_⟩:=r
  ·exact⟨_,_,rfl⟩
  exact⟨_,_,rfl⟩
 have HG:=aA r;have bh:=aA an;have bz:=an.lt;clear an r
 delta Cs;go_in
 go_wp2
 go_loopw [5,6] (fun lv l wr=>∃f:Nat,f<=g.length/\l=ii f/\Hi (TnI g i f lv wr)) (fun _ l _=>g.length-(intOf l).toNat)
 ·exact⟨0,Z3 _,rfl,⟨[],⟨rfl,.inl ⟨rfl,rfl⟩⟩,TornF.nil g⟩,r0 _ _⟩
 obtain⟨f,hk,rfl,HI⟩:=hrel;have M:=HI.o.fr;have S:=bh.o.qF M
 by_cases Zr:f<g.length
 rotate_left
 ·have bq:¬(f:Int)<(g.length:Int):=qo;obtain⟨ao,X,c0⟩:=S.len;have HT:Hi (g.take f=g):=l8 qo;clear S;go_wp2;go_ret;obtain⟨⟨c,z,H⟩,q3⟩:=HI.o;rw[HT.o]at H;exact⟨⟨_,c,rfl,z,H⟩,q3⟩
 have bq:(f:Int)<(g.length:Int):=qo;obtain⟨b,hf⟩:∃b,g[f]?=some b:=⟨_,Y2 Zr⟩;obtain⟨lb,X,fb,fc,c0,c1,c2,c3,c4⟩:=S.at hf;obtain⟨bv,cb⟩:=hs b (Q8 hf);obtain⟨d,hA⟩:∃d:ByteArray,d=⟨b.name.toArray⟩:=⟨_,rfl⟩;obtain⟨m,hX⟩:∃d:ByteArray,d=⟨b.data.toArray⟩:=⟨_,rfl⟩;rw[sv,<-hA]at c2;rw[sv,<-hX]at c3;have Zs:m.size=b.data.length:=by rw[hX];rfl
 obtain⟨W1,bc,A,af⟩:=al wr (.cells #[.string d,.string m] 115);have e0:ca W1 wr.heap.size 0 (.string d):=aB af;have e1:ca W1 wr.heap.size 1 (.string m):=aB af;have k1:=(A.cell db 1 S.lt qs).trans c1;have k4:=(A.cell fb f (aI c4) qs).trans c4;obtain⟨t,cf⟩:∃t:Nat,t+b.safe=b.data.length:=⟨b.data.length-b.safe,by omega⟩;have ce:(b.data.length:Int)-(b.safe:Int)=(t:Int):=qo;have cp:IntKind.i64.wrap (t:Int)=t:=by rw[Zq2];omega
 have bi:=aA af;have ad:=aA bc;have HF:=aA hf;have aj:=(show Hi _ from And.intro hA hX);clear hA hX af bc hf S
 by_cases bp:0<k.length/\0<t
 rotate_left
 ·have aa:Hi (∀j J (c:List Pf),Fr [] i j->j.ownsRow i.heap.size 115 2 J (c.length+1) ((c.flatMap λe=>[sv e.1,sv e.2])++[.string d,.string m])->TornF (g.take f) c->TnI g i (f+1) J j):=λj J c Y z H=>by refine⟨⟨c++[(b.name,b.data.take b.data.length)],?_,H.more HF.o bv (Q9 _)⟩,Y⟩;rw[FilesO,m8,Qz5,Zq1];obtain⟨a1,a2⟩:=aj.o;rw[a1,a2]at z;simpa using z
  obtain⟨c,C,D⟩:=HI.o.ex;have bo:c.length=f:=by rw[D.1,Qz8];omega
  have bn:¬((0:Int)<(k.length:Int))\/((0:Int)<(k.length:Int)/\¬(0:Int)<(t:Int)):=qo;obtain bd|⟨bd,br⟩:=bn
  all_goals
   go_wp2_with fail
   rw[<-ad.o];clear ad c0 c1 c2 c3 c4
   go_quiet (fail)
   obtain⟨h,q⟩:=nm (W1.drewN nq);have Y:h.cell? ⟨wr.heap.size,0,none⟩=some (.string d):=by rw[q];simpa using e0
   have z:h.cell? ⟨wr.heap.size,1,none⟩=some (.string m):=by rw[q];simpa using e1
   have B:Fr [] wr h:=by rw[q];exact A.drewN nq
   rw[<-q];have cn:=(M.qT B).size;have ac:Hi ((h.alloc (.cells #[.string d,.string m] 115)).ownsRow i.heap.size 115 2 u5 c.length (c.flatMap λe=>[sv e.1,sv e.2])):=aF C (B.alloc _) qs;have ab:=aA (λj (r:(h.alloc (.cells #[.string d,.string m] 115)).grownBy j u5.ownBlock)=>((M.qT B).alloc _).grow r (λam r=>.inr (C.lt am r).1));have HN:Hi (∀(E:Nat) (I:Value),[Value.string d,.string m][E]?=some I->(h.alloc (.cells #[.string d,.string m] 115)).cell? ((⟨h.heap.size,0,none⟩:Addr).add E)=some I):=by intro E I hu;rw[i7,Z9,aB (aC h _)];simpa using hu
   have bk:=aA D;clear C D A q e0 e1 k1 k4
   go_wp2_with (
     at_builtin;refine wpList_append_own_at _ rfl (.tmp 68) _ 51 rfl i.heap.size 115 ay (.agg #[.string ⟨#[]⟩,.string ⟨#[]⟩]) 2 32 Qq6 Zq av aw ax rfl qd u5 c.length (c.flatMap λe=>[sv e.1,sv e.2]) rfl ac.o ⟨h.heap.size,0,none⟩ 1 1 [.string d,.string m] rfl rfl HN.o qc qm qo qt ?_
     intro v' j bg v bu bm;have bx:=(show Hi _ from aa.o j v' c (ab.o j v) bg bk.o);clear bg v bu bm)
   grind[intOf]
 obtain⟨ar,br⟩:=bp;have bd:(0:Int)<(k.length:Int):=qo;have ch:(0:Int)<(t:Int):=qo;obtain⟨l,hi⟩:=nm (f%k.length);have be:l<k.length:=by rw[hi];exact Nat.mod_lt _ ar
 have cd:(l:Int)<(k.length:Int):=qo;have cg:(f:Int).tmod (k.length:Int)=(l:Int):=by rw[Qx0 qo,hi];rfl
 obtain⟨Q,R,rfl,ae,P⟩:∃Q R,ga=some ⟨Q,R,none⟩/\i.cell? ⟨Q,R+l,none⟩=some (ii k[l])/\lM k[l]:=by
  obtain⟨ao,X,_,O⟩|⟨lb,lo,X,O,h1,h2⟩:=HG.o
  ·rw[O]at ar;simp at ar
  exact⟨lb,lo,by simpa using V3 (λbw:Value=>match bw with|.slice a _ _=>a|_=>none) O,h1 l be,h2 _ (getElem_mem be)⟩
 obtain⟨x,bf⟩:=nm (k[l]);rw[<-bf]at ae P;have bb:=((M.qT A).cell Q (R+l) (aI ae) qs).trans ae;obtain⟨c,C,D⟩:=HI.o.ex;have bo:c.length=f:=by rw[D.1,Qz8];omega
 go_wp2_with fail
 rw[<-ad.o];clear ad c0 c1 c2 c3 c4 ae bf hi
 go_quiet (fail)
 obtain⟨h,q⟩:=nm (W1.drewN nq);have L:h.heap[wr.heap.size]?=some (.cells #[.string d,.string m] 115):=by rw[q];simpa using bi.o
 have Y:ca h wr.heap.size 0 (.string d):=aB L;have z:ca h wr.heap.size 1 (.string m):=aB L;have H:h.cell? ⟨Q,R+l,none⟩=some (ii x):=by rw[q];simpa using bb
 have q3:h.frozen? ⟨wr.heap.size,1,none⟩=false:=aV L;have B:Fr [] wr h:=by rw[q];exact A.drewN nq
 rw[<-q];clear q e0 e1 k1 k4 bb A;obtain⟨y,V,bt⟩:∃y:Int,(y=if x<0 then -(x+1)else x)/\0<=y/\y<=9223372036854775807:=⟨_,rfl,by
  have:=P.1;have:=P.2
  split<;>omega⟩
 obtain⟨w,bs⟩:=nm (t+1);obtain⟨u,hr⟩:∃u:Nat,(u:Int)=y%(w:Int):=⟨(y%(w:Int)).toNat,Int.toNat_of_nonneg (Int.emod_nonneg _ qo)⟩;have ck:y.tmod (w:Int)=(u:Int):=by rw[Qx0 bt.1,hr]
 have cj:(u:Int)<w:=by rw[hr];exact Int.emod_lt_of_pos _ qo
 obtain⟨s,hm⟩:∃s,s+u=b.data.length:=⟨b.data.length-u,by omega⟩;have z1:(t:Int)+1=(w:Int):=qo;have z2:IntKind.i64.wrap (w:Int)=w:=by rw[Zq2];omega
 have z3:¬(w:Int)=0:=qo;have z4:IntKind.i64.wrap (u:Int)=u:=by rw[Zq2];omega
 have z5:(b.data.length:Int)-(u:Int)=(s:Int):=qo;have z6:IntKind.i64.wrap (s:Int)=s:=by rw[Zq2];omega
 have z7:s<=b.data.length:=qo;have bj:Hi (b.safe<=s):=by show _<=_;omega
 obtain⟨n,hY⟩:∃n:ByteArray,n=⟨(b.data.take s).toArray⟩:=⟨_,rfl⟩;have x1:Value.string (m.extract 0 s)=.string n:=by rw[hY,aj.o.2];exact tW b.data s
 have bl:=aA hY;clear hY hr hm bs;have aa:Hi (∀j J,Fr [] i j->j.ownsRow i.heap.size 115 2 J (c.length+1) ((c.flatMap λe=>[sv e.1,sv e.2])++[.string d,.string n])->TnI g i (f+1) J j):=λj J N F=>by refine⟨⟨c++[(b.name,b.data.take s)],?_,D.more HF.o bj.o z7⟩,N⟩;rw[FilesO,m8,Qz5];rw[aj.o.1,bl.o]at F;simpa using F
 obtain⟨p,ag⟩:=nm ((h.setCell ⟨wr.heap.size,1,none⟩ (.string n)).drew);have ap:p.heap[wr.heap.size]?=some (.cells #[.string d,.string n] 115):=by rw[ag];exact(iE L _).trans rfl
 have N:ca p wr.heap.size 0 (.string d):=aB ap;have F:ca p wr.heap.size 1 (.string n):=aB ap;have ah:Fr [] wr p:=by rw[ag];exact(B.setCell _ _ (.inr (Q9 _))).drew
 have co:=(M.qT ah).size;have ac:Hi ((p.alloc (.cells #[.string d,.string n] 115)).ownsRow i.heap.size 115 2 u5 c.length (c.flatMap λe=>[sv e.1,sv e.2])):=aF C (ah.alloc _) qs;have ab:=aA (λj (r:(p.alloc (.cells #[.string d,.string n] 115)).grownBy j u5.ownBlock)=>((M.qT ah).alloc _).grow r (λam r=>.inr (C.lt am r).1));have HN:Hi (∀(E:Nat) (I:Value),[Value.string d,.string n][E]?=some I->(p.alloc (.cells #[.string d,.string n] 115)).cell? ((⟨p.heap.size,0,none⟩:Addr).add E)=some I):=by intro E I hu;rw[i7,Z9,aB (aC p _)];simpa using hu
 have ba:=aA x1;have az:=aA ag;have HP:=(show Hi _ from And.intro N F);clear C D ag ap N F x1 ah
 by_cases ai:x<0
 ·rw[Q7 ai]at V;have y1:IntKind.i64.wrap (x+1)=x+1:=by have:=P.1;rw[Zq2];omega
  have y2:IntKind.i64.wrap (-(x+1))=y:=by rw[V,Zq2];have:=P.1;omega
  clear V;go_wp2
  go_region
  rw[ba.o,<-az.o];obtain⟨N,F⟩:=HP.o;clear Y z H q3 L B y1 y2 ai
  go_wp2_with (
    at_builtin;refine wpList_append_own_at _ rfl (.tmp 68) _ 51 rfl i.heap.size 115 ay (.agg #[.string ⟨#[]⟩,.string ⟨#[]⟩]) 2 32 Qq6 Zq av aw ax rfl qd u5 c.length (c.flatMap λe=>[sv e.1,sv e.2]) rfl ac.o ⟨p.heap.size,0,none⟩ 1 1 [.string d,.string n] rfl rfl HN.o qc qm qo qt ?_
    intro v' w4 W v au aq;have ak:=(show Hi _ from aa.o w4 v' (ab.o w4 v) W);clear W v au aq)
  go_roundw
  case rel=>exact⟨f+1,Zr,by go_num,ak.o⟩
  grind[intOf]
 rw[Z0 ai]at V;subst V;go_wp2
 go_region
 rw[ba.o,<-az.o];obtain⟨N,F⟩:=HP.o;clear Y z H q3 L B ai
 go_wp2_with (
   at_builtin;refine wpList_append_own_at _ rfl (.tmp 68) _ 51 rfl i.heap.size 115 ay (.agg #[.string ⟨#[]⟩,.string ⟨#[]⟩]) 2 32 Qq6 Zq av aw ax rfl qd u5 c.length (c.flatMap λe=>[sv e.1,sv e.2]) rfl ac.o ⟨p.heap.size,0,none⟩ 1 1 [.string d,.string n] rfl rfl HN.o qc qm qo qt ?_
   intro v' w4 W v au aq;have ak:=(show Hi _ from aa.o w4 v' (ab.o w4 v) W);clear W v au aq)
 go_roundw
 case rel=>exact⟨f+1,Zr,by go_num,ak.o⟩
 grind[intOf]
