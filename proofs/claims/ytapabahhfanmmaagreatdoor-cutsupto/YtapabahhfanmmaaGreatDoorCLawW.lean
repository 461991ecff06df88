import Derived.Test.YtapabahhfanmmaaGreatDoorCLawL
import Derived.Test.YtapabahhfanmmaaGreatDoorCPlayG
namespace Go.Proofs.YtapabahhfanmmaaGreatDoor
open Go.RowKit List Go.Proofs.Tryz
set_option maxHeartbeats 4000000
set_option maxRecDepth 100000
variable {a b c:Nat}
variable {n0:Nat} {lb xb pb cap:Nat} {S bo:List Nat} {mv stv:Value} {g:Gf} {yb gb qb cap2:Nat} {fst:Int} {bv:Value} {bs:List Pf} {tv kv:Value} {sts:List T} {mk:List Mk3} {t:T} {log:List UInt8} {steps:List Stp}
structure TuR (n0:Nat) (w:World) (lb:Nat) (L:List Nat) (M bb N:Nat) (K:List Nat) (w':World):Prop where
 ex:∃L' K',LR n0 w' (pt lb) L' (M+1)/\Bk w' bb K' (N+1)/\(∀x∈L',x∈L\/w.heap.size<=x)/\(∀x∈K',x∈K\/w.heap.size<=x)/\(∀x∈L',x≠bb/\x∉K')
 fr:Fr (bb::(L++K)) w w'
theorem OX{K:List Nat}(F h:World)(P:Int)(hc:¬P=0)(kd bw:Int)(n z:List Cm)(p u ia ga:Option Addr)(r q w v il ic gl gc:Nat)(tx:ByteArray)(Q:LX F.heap.size h lb xb pb cap S bo mv stv g yb gb qb cap2 fst bv bs tv kv sts mk t log steps)(y:HI bs g fst sts mk t log steps a)(hM:a<=1048577)(R:Bk h b K c)(hA:∀d∈aZ lb xb pb S bo yb gb qb tv kv,d≠b/\d∉K)(hz:∀d∈b::K,F.heap.size<=d)(hN:c<=2200000)(h1:CmdR F (.slice p r q) n)(h2:CmdR F (.slice u w v) z)(bi:Fr [] F h)(bm:n.length<=2000000)(bn:z.length<=2000000)(ay:Hi (∀e B E,Fr [] h e->e.ownsRow h.heap.size 81 5 B n.length (n.flatMap Cm.cells)->e.ownsRow h.heap.size 81 5 E z.length (z.flatMap Cm.cells)->Cs 17 #[pt xb,B,E] e (R0 e (.tuple #[.slice none 0 0,ii P]))))(az:Hi (∀e,Fr [] h e->Cs 105 #[pt yb,.slice p r q,.slice u w v] e (R0 e (.tuple #[.slice none 0 0,ii P])))):Cs 62 #[pt lb,pt b,.agg #[ii kd,.slice p r q,.slice u w v,.string tx,.slice ia il ic,ii bw,.slice ga gl gc]] h λf e=>f=.returned (.bool true)/\TuR F.heap.size h lb (aZ lb xb pb S bo yb gb qb tv kv) a b c K e:=by
 have cx:=aH Q.h;obtain⟨df,dg,cy⟩:=y.bd hM;obtain⟨ml,mx,bp⟩:=y.lastM;have co:=y.s0;have bz:=aA y;have aw:=aA bp;have HZ:=aA hz;have ct:=R.lt;have HX:=aA (λe (l:Fr [] h e)=>Q.qF l);have HB:=aA (λe (l:Fr [] h e)=>R.qF l);have ar:=aA (λe (l:Fr [] h e)=>(h1.qF bi).qF l);have Zq:=aA (λe (l:Fr [] h e)=>(h2.qF bi).qF l);have cc:=aA Q.lt;have I:=aA hA;have cq:=aA R.kl;clear Q R h1 h2 hA y bp hz;obtain⟨m,bg,ac,D⟩:=al h (.cells #[ii kd,.slice p r q,.slice u w v,.string tx,.slice ia il ic,ii bw,.slice ga gl gc] 70)
 delta Cs;go_in
 go_wp2_with fail
 rw[<-bg];have e1:ca m h.heap.size 1 (.slice p r q):=aB D;have C1:=(show Hi _ from oH n (.slice p r q) m (ar.o m ac) bm);have cz:=aH D;clear bg;refine cm C1.o ?_;rintro f H ⟨B,rfl,am,x⟩;have ad:=ac.qT x;have e2:ca H h.heap.size 2 (.slice u w v):=aB (x.qH D);have C2:=(show Hi _ from oH z (.slice u w v) H (Zq.o H ad) bn);have ax:=(show Hi (H.ownsRow m.heap.size 81 5 B n.length (n.flatMap Cm.cells))from am);have aq:=aA (λg M=>am.lt g M);clear C1 e1 am
 go_wp2_with fail
 refine cm C2.o ?_;rintro f N ⟨E,rfl,ao,C⟩;have V:=ad.qT C;have bh:=HX.o N V;have d0:ca N lb 0 (pt xb):=aB bh.h;have an:=aF ax.o C qs;have db:=x.size;have C3:=(show Hi _ from ay.o N B E V (jN an qo) (jN ao qo));have cd:=(show Hi (N.ownsRow m.heap.size 81 5 B n.length (n.flatMap Cm.cells))from an);have ab:=(show Hi (N.ownsRow H.heap.size 81 5 E z.length (z.flatMap Cm.cells))from ao);clear C2 e2 ao an bh ax ay
 go_wp2_with fail
 refine cm C3.o ?_;rintro f w4 ⟨rfl,J⟩;have W:=V.qT J;have O:∀e,Fr [] w4 e->(λe:World=>(ca e lb 1 (pt yb)/\ca e h.heap.size 1 (.slice p r q)/\ca e h.heap.size 2 (.slice u w v))/\Fr [] w4 e) e:=λe l=>by have hF:=W.qT l;have y:=((((x.qT C).qT J).qT l).qH D);exact⟨⟨aB (HX.o e hF).h,aB y,aB y⟩,l⟩
 have K0:=O w4.drew ((r0 _ _).drew);clear C3 d0
 go_wp2_with fail
 refine rg 14 O K0 λA=>?_
 iterate 8 refine tn 14 A ?_
 refine rd 8 fun K1 hK=>?_;have av:=aA hK;clear hK;go_simp;refine cm (az.o _ (W.qT A.2)) ?_;rintro f w5 ⟨rfl,bk⟩;have L:=A.2.qT bk;clear A;refine av.o _ _ (O _ L) (fun A=>?_);clear av K1;try simp only[Act.put,Z]
 iterate 5 refine tn 14 A ?_
 refine wpAnyH_done qk ?_ _;have cs:=W.qT L;have ch:=((x.qT C).qT J).qT L;have ap:=aA (J.qT L);have cr:=aA x;have aa:=aA ac;have cp:=x.size;have dc:=C.size;clear A O K0 az bk J C x W V ad L
 go_wp2_with fail
 refine cm (Hb w5) ?_;rintro f w6 ⟨rfl,ah⟩;have ae:=ch.qT ah;have f1:ca w6 h.heap.size 1 (.slice p r q):=aB (ae.qH D);have br:=aF cd.o (ap.o.qT ah) qs;have C6:=(show Hi _ from oL m.heap.size n (.slice p r q) B m w6 (ar.o m aa.o) ae (Q9 _) br bm);clear br
 go_wp2_with fail
 refine cm C6.o ?_;rintro f w7 ⟨rfl,ai⟩;have af:=ae.trans ai (λk s=>.inr (aq.o k (qu s)).1);have f2:ca w7 h.heap.size 2 (.slice u w v):=aB (af.qH D);have bt:=aF (aF ab.o (ap.o.qT ah) qs) ai (λg M f=>by have e1:=(aq.o g (qu f)).2;have e2:=(ab.o.lt g M).1;omega)
 have C7:=(show Hi _ from oL H.heap.size z (.slice u w v) E m w7 (Zq.o m aa.o) af cp bt bn);have Zs:=aA (λg M=>(ab.o.lt g M).1);clear C6 f1 bt ai
 go_wp2_with fail
 refine cm C7.o ?_;rintro f w8 ⟨rfl,bl⟩;have cj:=af.trans bl (λk s=>.inr (by have:=Zs.o k (qu s);omega));have X:=aa.o.qT cj;have C8:=(show Hi _ from Cn b c K w8 (HB.o w8 X) hN);clear C7 f2 bl
 go_wp2_with fail
 refine cm C8.o ?_;rintro f w9 ⟨rfl,cg⟩;obtain⟨⟨K',ba,bc⟩,aj⟩:=cg;have dd:=X.size;have cn:∀d∈aZ lb xb pb S bo yb gb qb tv kv,d∉b::(K++[]):=λd j f=>by
  obtain i|i:=Qq0.1 f
  ·exact(I.o d j).1 i
  exact(I.o d j).2 (qu i)
 have ag:=(HX.o w8 X).fr aj cn (λd j=>HZ.o d (qu j));have C9:=(show Hi _ from MZ w9 ag qo aw.o);have cu:(P==0)=false:=by simpa using hc
 have ce:=aA ag;have Zr:=aA ba;have au:=aA bc;clear C8 ag ba bc
 go_wp2_with fail
 refine cm C9.o ?_;rintro f bx ⟨rfl,Y⟩;have CA:=(show Hi _ from sQ bx mx.2.2 (ce.o.qF Y) co qo qo qo);clear C9
 go_wp2_with fail
 refine cm CA.o ?_;rintro f dh ⟨rfl,⟨⟨bu,bf,cw⟩,bj⟩⟩;have cb:=aA bf;clear CA bf
 go_wp2_with (go_at_call 52;refine(oV _ _).mono ?_;rintro f di ⟨rfl,rfl⟩)
 go_ret;refine⟨rfl,?_⟩;have de:=aj.size;have da:=Y.size;have ck:=cc.o;have ak:∀k∈lb::kv.ownBlock.toList,k∈aZ lb xb pb S bo yb gb qb tv kv:=λk s=>by grind
 have be:∀d∈aZ lb xb pb S bo yb gb qb tv kv,d∉K':=λd j f=>by
  obtain i|i|i:=au.o d f
  ·exact(I.o d j).2 i
  ·simp at i
  have:=ck d j;omega
 have cf:=(Zr.o.qF Y).fr bj (λf=>(I.o b (ak b f)).1 rfl) (λk s f=>be k (ak k f) s);have bq:∀d∈aZ lb xb pb S bo yb gb qb tv bu,d∈aZ lb xb pb S bo yb gb qb tv kv\/bx.heap.size<=d:=λd j=>by simp only[aZ,mem_append]at j |-;grind
 refine⟨⟨_,K',⟨⟨lb,xb,pb,cap,S,bo,mv,stv,g,yb,gb,qb,cap2,fst,bv,bs,tv,bu,sts,_,t,log,steps,rfl,cb.o,bz.o.refused aw.o,rfl⟩⟩,cf,λd j=>?_,λd j=>?_,λd j=>?_⟩,?_⟩
 ·exact(bq d j).imp_right (λi=>by omega)
 ·obtain i|i|i:=au.o d j
  ·exact .inl i
  ·simp at i
  exact .inr qo
 ·obtain i|i:=bq d j
  ·exact⟨(I.o d i).1,be d i⟩
  refine⟨by omega,λf=>?_⟩;have:=(Zr.o.kl d f);omega
 refine(((X.qO).trans aj (λk s=>.inl ?_)).qT Y).trans bj (λk s=>.inl ?_)
 ·grind
 exact Zz4 _ (Qk3 _ (ak k s))
variable {n0:Nat} {lb xb pb cap:Nat} {S bo:List Nat} {mv stv:Value} {g:Gf} {yb gb qb cap2:Nat} {fst:Int} {bv:Value} {bs:List Pf} {tv kv:Value} {sts:List T} {mk:List Mk3} {t:T} {log:List UInt8} {steps:List Stp}
theorem Ka{K:List Nat}(v k:World)(kd gi:Int)(l n:List Cm)(A E ia ga:Option Addr)(C B H F il ic gl gc:Nat)(tx:ByteArray)(ao:LX v.heap.size k lb xb pb cap S bo mv stv g yb gb qb cap2 fst bv bs tv kv sts mk t log steps)(x:HI bs g fst sts mk t log steps a)(hM:a<=1048577)(hB:Bk k b K c)(hA:∀h∈aZ lb xb pb S bo yb gb qb tv kv,h≠b/\h∉K)(hz:∀h∈b::K,v.heap.size<=h)(hN:c<=2200000)(fs:Sd k)(h1:CmdR v (.slice A C B) l)(h2:CmdR v (.slice E H F) n)(bg:Fr [] v k)(cs:l.length<=2000000)(ct:n.length<=2000000)(ht:t.turn<1000000000)(ix:l.length+n.length<=8000)(et:(dG t.turn l n).length<=40000):Cs 62 #[pt lb,pt b,.agg #[ii kd,.slice A C B,.slice E H F,.string tx,.slice ia il ic,ii gi,.slice ga gl gc]] k λe m=>e=.returned (.bool true)/\TuR v.heap.size k lb (aZ lb xb pb S bo yb gb qb tv kv) a b c K m:=by
 obtain⟨ki,kk,jt⟩:=x.bd hM;obtain⟨es,jr⟩:=x.logl hM;obtain⟨ml,mx,ff⟩:=x.lastM;have el:=ao.lo;have gv:=aA x;have du:=aA ff;have ec:=aA hz;have js:=aH ao.h;have jo:=hB.lt;have HX:=aA (λm (s:Fr [] k m)=>ao.qF s);have HB:=aA (λm (s:Fr [] k m)=>hB.qF s);have ac:Hi (CmdR v (.slice A C B) l/\CmdR v (.slice E H F) n/\Fr [] v k):=⟨h1,h2,bg⟩;have gn:=aA (λm (s:Fr [] k m)=>(h1.qF bg).qF s);have hj:=aA fs;have dt:=aA el;have bz:=(show Hi _ from(kB x.op).1);have ip:(aX g LOG).length<=99000000000000:=by rw[es];omega
 have gp:=aA (λm (s:Fr [] k m)=>(h2.qF bg).qF s);have gy:=aA ao.lt;have ak:=aA hA;have cb:=aA hB.kl;clear ao hB h1 h2 hA fs el bg x ff hz es;obtain⟨P,eo,cf,bn⟩:=al k (.cells #[ii kd,.slice A C B,.slice E H F,.string tx,.slice ia il ic,ii gi,.slice ga gl gc] 70)
 delta Cs;go_in
 go_wp2_with fail
 rw[<-eo];have e1:ca P k.heap.size 1 (.slice A C B):=aB bn;have C1:=(show Hi _ from oH l (.slice A C B) P (gn.o P cf) cs);have jv:=aH bn;clear eo;refine cm C1.o ?_;rintro e w2 ⟨aj,rfl,da,bj⟩;have ei:=cf.qT bj;have e2:ca w2 k.heap.size 2 (.slice E H F):=aB (bj.qH bn);have C2:=(show Hi _ from oH n (.slice E H F) w2 (gp.o w2 ei) ct);have dw:=(show Hi (w2.ownsRow P.heap.size 81 5 aj l.length (l.flatMap Cm.cells))from da);have am:=aA (λg u=>da.lt g u);have dp:=aA bj;clear C1 e1 da
 go_wp2_with fail
 refine cm C2.o ?_;rintro e p ⟨aw,rfl,dd,au⟩;have aq:=ei.qT au;have bf:=HX.o p aq;have d0:ca p lb 0 (pt xb):=aB bf.h;have dc:=aF dw.o au qs;have jx:=bj.size;have C3:=(show Hi _ from Ew p l n aj aw bf.rs (Sd.qF hj.o aq) bz.o ht (mT dc) (mT dd) ix et qo ip);have gz:=(show Hi (p.ownsRow P.heap.size 81 5 aj l.length (l.flatMap Cm.cells))from dc);have az:=(show Hi (p.ownsRow w2.heap.size 81 5 aw n.length (n.flatMap Cm.cells))from dd);have O:=aA bf;clear C2 e2 dd dc bf dw
 go_wp2_with fail
 refine cm C3.o ?_;rintro e w ⟨pl,rfl,de,v',D,hp,jd,je,S',fm,cj,wm,di,dj,km,fx,dk⟩;obtain⟨ra,br⟩:=nm ((aO t (l.map aJ) (n.map aJ)).2.1);obtain⟨rc,bt⟩:=nm ((aO t (l.map aJ) (n.map aJ)).2.2);rw[<-br,<-bt]at de di;have iu:=KZ t (l.map aJ) (n.map aJ);rw[<-br,<-bt,Qq1,Qq1]at iu;have he:=(show Hi (RefsA w p.heap.size pl ra rc)from de);obtain⟨N,x0,x1,it,cw,jq,fd,fe,fb⟩:=de;subst it;have X:=O.o.nd;simp only[dT,nodup_cons,mem_cons,not_mem_nil,or_false,not_or,nodup_nil,and_true,not_false_eq_true]at X;have ae:=gy.o;have ko:=ae yb qs;have jp:=ae gb qs;have ju:=ae qb qs;have ah:∀f∈xb::S,f<k.heap.size/\v.heap.size<=f/\f≠b/\f∉K/\f≠lb:=λf i=>by
  have L:f∈aZ lb xb pb S bo yb gb qb tv kv:=by
   obtain d|d:=Qq0.1 i
   · simp[d]
   simp[d]
  refine⟨ae f L,dt.o f L,(ak.o f L).1,(ak.o f L).2,λe=>?_⟩;obtain d|d:=Qq0.1 i
  ·exact X.1.1 (e.symm.trans d)
  exact O.o.ns f d (by simp[e])
 have ir:lb∉xb::S:=λe=>(ah lb e).2.2.2.2 rfl;have Zw:k.heap.size∉xb::S:=λe=>by have:=(ah _ e).1;omega
 have ai:=cj.fr;have ap:∀f∈N::gM [x0,x1],p.heap.size<=f/\f<wm.heap.size/\f≠D:=by
  obtain⟨kr,y0,y1,hq,ce,hr,hs,hw,_⟩:=di;cases hq;have ke:=aq.size;have fq:=dk.heap ce (λe=>by have:=(ah _ e).1;omega);rw[cw]at fq;cases fq;have gf:∀(af:Value) (ge:Nat) (xs:List Value),wm.ownsRow p.heap.size 3 1 af ge xs->∀f,af.ownBlock=some f->p.heap.size<=f/\f<wm.heap.size/\f≠D:=λaf ge xs ho f i=>by
   refine⟨(ho.lt f i).1,(ho.lt f i).2,λe=>?_⟩;obtain⟨rfl,_⟩|⟨g,cp,jm,rfl,_,x,_⟩:=ho.2
   · cases i
   simp[Value.ownBlock]at i;subst i;exact tQ dj x qd e.symm
  intro f i;obtain d|d:=Qq0.1 i
  ·subst d;exact⟨hr,aH ce,λe=>tQ dj ce qd e.symm⟩
  obtain⟨af,hu,fu⟩:=Qk4.1 d;simp at hu;obtain rfl|rfl:=hu
  · exact gf _ _ _ hs f fu
  exact gf _ _ _ hw f fu
 have iy:=dk.size;have eu:=((dp.o.qT au).qH bn);have bp:=ai.heap eu Zw;have ey:=ai.heap O.o.h ir;have ed:=((ac.o.2.2).qT aq).trans ai (λf i=>.inr (ah f i).2.1);have Zr:Fr [] w w.drew:=(r0 _ _).drew;have fy:=(O.o.y.fr ai (O.o.qY yb (.inl rfl)) (O.o.qY gb (.inr (.inl rfl))) (O.o.qY qb (.inr (.inr rfl)))).qF Zr;have Zt:Hi (Cs 105 #[pt yb,.slice A C B,.slice E H F] w.drew λe m=>∃v5 q ag,e=.returned (.tuple #[v5,ii 0])/\YR m yb gb q ag (dR t (l,n)) (log++cU t (l,n))/\Fr [yb,gb,qb] w.drew m/\(q=qb\/w.drew.heap.size<=q)/\Refs m w.drew.heap.size v5 ra rc):=(MM yb gb qb cap2 t log l n _ _ w.drew fy ⟨X.2.2.2.1.1,X.2.2.2.1.2⟩ bz.o ht ((ac.o.1).qF (ed.qT Zr)) ((ac.o.2.1).qF (ed.qT Zr)) cs ct qo).mono (by
  rintro e m (⟨co,_⟩|⟨_,v5,q,ag,q1,q2,q3,q4,q5⟩)
  ·omega
  exact⟨v5,q,ag,q1,q2,q3,q4,by rw[br,bt];exact q5⟩)
 have HS:∀Z m,Fr Z w m->lb∉Z->k.heap.size∉Z->(λm:World=>ca m lb 1 (pt yb)/\ca m k.heap.size 1 (.slice A C B)/\ca m k.heap.size 2 (.slice E H F)) m:=λZ m s q1 q2=>⟨aB (s.heap ey q1),aB (s.heap bp q2),aB (s.heap bp q2)⟩;have K0:=HS [] w.drew Zr qs qs;have hd:=aA cj;have jl:=aA ah;have gx:=(show Hi (w.heap[N]?=some (.cells #[x0,x1] 25))from cw);have jj:=(show Hi (w.ownsRow p.heap.size 3 1 x0 ra.length (ints ra))from fd);have jk:=(show Hi (w.ownsRow p.heap.size 3 1 x1 rc.length (ints rc))from fe);have ji:=aA fb;have ny:lb∉[yb,gb,qb]:=by simp only[mem_cons,not_mem_nil,or_false,not_or];exact⟨X.1.2.2.1,X.1.2.2.2.1,X.1.2.2.2.2⟩
 have no:k.heap.size∉[yb,gb,qb]:=by simp only[mem_cons,not_mem_nil,or_false,not_or];omega
 clear C3 d0 cj cw fd fe fb fy X br bt eu ah
 go_wp2_with fail
 refine wp_region_held_drew (S:=(λm:World=>ca m lb 1 (pt yb)/\ca m k.heap.size 1 (.slice A C B)/\ca m k.heap.size 2 (.slice E H F))) qk K0 (λhH=>?_);refine(show wpAnyH prog Region.Mode.any _ _ _ 14 (Array.replicate 14 false) _ _ from ?_)
 iterate 8 refine tn 14 hH ?_
 refine rd 8 fun K1 hK=>?_;have ds:=aA hK;clear hK;go_simp;refine cm Zt.o ?_;rintro e w5 ⟨v5,q,ag,rfl,fz,Zu,fo,fp⟩;have ad:=(Zr.qO).trans Zu (fun f i=>.inl i);clear hH;refine ds.o _ _ (HS _ w5 ad ny no) (fun hH=>?_);clear ds K1 Zt;try simp only[Act.put,Z]
 iterate 5 refine tn 14 hH ?_
 refine wpAnyH_done qk ?_ _;have ep:=O.o.after hd.o fm fz ad fo;have jz:=Y3 dp.o.size au.size;have kj:k.heap.size<=p.heap.size:=qo;have en:∀h∈aZ lb xb D S' bo yb gb q tv kv,(h∈aZ lb xb pb S bo yb gb qb tv kv\/p.heap.size<=h)/\h∉N::gM [x0,x1]:=λh j=>by
  have V:h∈aZ lb xb pb S bo yb gb qb tv kv->(h∈aZ lb xb pb S bo yb gb qb tv kv\/p.heap.size<=h)/\h∉N::gM [x0,x1]:=λd=>⟨.inl d,λe=>by have:=ae h d;have:=(ap h e).1;omega⟩;have co:wm.heap.size<=h->(h∈aZ lb xb pb S bo yb gb qb tv kv\/p.heap.size<=h)/\h∉N::gM [x0,x1]:=λd=>⟨.inr qo,λe=>by have:=(ap h e).2.1;omega⟩;obtain d|d:=m5.1 j
  ·simp only[mem_cons,not_mem_nil,or_false]at d;obtain rfl|rfl|rfl|rfl|rfl|rfl:=d
   · exact V qs
   · exact V qs
   · obtain e|e:=fm
     · exact V (by simp[e])
     exact⟨.inr e,λe2=>(ap _ e2).2.2 rfl⟩
   · exact V qs
   · exact V qs
   obtain e|e:=fo
   · exact V (by simp[e])
   exact co (Y3 iy e)
  obtain d|d:=m5.1 d
  · obtain e|e:=fx h d
    · exact V (by simp[e])
    exact co e
  exact V (Qk6 _ (Qk6 _ d))
 have an:=aA en;have hn:=aA ep;have be:Fr (xb::(S++[yb,gb,qb])) k w5:=((aq.qO).trans (vT ai) (λf i=>.inl i)).trans ad (λf i=>.inl (by simp only[mem_cons,not_mem_nil,or_false]at i;obtain e|e|e:=i<;>simp[e]));have hZ:∀f∈xb::(S++[yb,gb,qb]),f<k.heap.size/\v.heap.size<=f/\f≠b/\f∉K:=λf i=>by
  have L:f∈aZ lb xb pb S bo yb gb qb tv kv:=by
   obtain d|d:=Qq0.1 i
   · simp[d]
   obtain d|d:=m5.1 d
   · simp[d]
   simp only[mem_cons,not_mem_nil,or_false]at d;obtain e|e|e:=d<;>simp[e]
  exact⟨ae f L,dt.o f L,(ak.o f L).1,(ak.o f L).2⟩
 have hy:=(ac.o.2.2).trans be (λf i=>.inr (hZ f i).2.1);have ef:=(HB.o k (r0 _ _)).fr be (λe=>(hZ b e).2.2.1 rfl) (λf i e=>(hZ f e).2.2.2 i);have df:=RefsA.fr he.o ad (λh j=>by simp only[mem_cons,not_mem_nil,or_false]at j;omega);have C5:=(show Hi _ from NC _ _ ra rc (.slice (so N) 2 2) v5 w5 df.refs fp qo qo);have ev:=ad.heap bp no;have gt:=aA be;have HZ:=aA hZ;have gm:=aA ef;have hi:=(show Hi (RefsA w5 p.heap.size (.slice (so N) 2 2) ra rc)from df);have bx:=aA ap;have ay:Fr (xb::(S++[yb,gb,qb])) p w5:=(vT ai).trans ad (λf i=>.inl (by simp only[mem_cons,not_mem_nil,or_false]at i;obtain e|e|e:=i<;>simp[e]));have kc:=ay.size;have fi:=aF gz.o ay (λf i e=>by have:=(hZ f e).1;have:=(am.o f i).1;omega);have fj:=aF az.o ay (λf i e=>by have:=(hZ f e).1;have:=(az.o.lt f i).1;omega);have ha:=(show Hi (w5.ownsRow P.heap.size 81 5 aj l.length (l.flatMap Cm.cells))from fi);have hc:=(show Hi (w5.ownsRow w2.heap.size 81 5 aw n.length (n.flatMap Cm.cells))from fj);have iw:=Y3 (ac.o.2.2).size cf.size;clear ep en hZ ef df hH HS K0 ap ay fi fj fp fz di dj fx dk be ey bp
 go_wp2_with fail
 refine cm C5.o ?_;rintro e w6 ⟨rfl,av⟩;have ee:=hy.qT av;have cr:=av.qH ev;have f1:ca w6 k.heap.size 1 (.slice A C B):=aB cr;have C6:=(show Hi _ from oL P.heap.size l (.slice A C B) aj v w6 ac.o.1 ee iw (aF ha.o av qs) cs);clear C5 ev
 go_wp2_with fail
 refine cm C6.o ?_;rintro e w7 ⟨rfl,bk⟩;have ib:=ee.trans bk (λf i=>.inr (by have:=(am.o f (qu i)).1;omega));have ew:=bk.heap cr (λe=>by have:=(am.o _ (qu e)).1;omega);have f2:ca w7 k.heap.size 2 (.slice E H F):=aB ew;have C7:=(show Hi _ from oL w2.heap.size n (.slice E H F) aw v w7 ac.o.2.1 ib qo (aF (aF hc.o av qs) bk (λg u e=>by have e1:=(am.o g (qu e)).2;have e2:=(az.o.lt g u).1;omega)) ct)
 have gk:=aA (λg u=>az.o.lt g u);clear C6 f1 cr
 go_wp2_with fail
 refine cm C7.o ?_;rintro e w8 ⟨rfl,ig⟩;have J:=((av.qO).trans bk (λf i=>.inl (Qk3 _ i))).trans ig (λf i=>.inl (Qk6 _ i));obtain⟨gj,hD⟩:=nm (aj.ownBlock.toList++aw.ownBlock.toList);rw[<-hD]at J;have Q:∀f∈gj,P.heap.size<=f/\f<p.heap.size:=λf i=>by
  rw[hD]at i;have kb:=au.size;obtain d|d:=m5.1 i
  ·have:=am.o f (qu d);omega
  have:=gk.o f (qu d);omega
 obtain⟨kq,z0,z1,iv,cx,io,cy,cz,cu⟩:=(show RefsA w5 p.heap.size (.slice (so N) 2 2) ra rc from hi.o);cases iv;have kf:=J.size;have ez:=J.heap cx (λe=>by have:=Q _ e;omega);have fk:=aF cy J (λf i e=>by have:=Q f e;have:=bT cy i;omega);have fl:=aF cz J (λf i e=>by have:=Q f e;have:=bT cz i;omega);have eg:=gm.o.fr J (λe=>by have:=Q _ e;omega) (λf i e=>by have:=Q _ e;have:=cb.o f i;omega);have C8:=KI b c N p.heap.size K [z0,z1] w8 eg hN qs ez io qo (λh j=>by have:=cb.o h j;omega) (λW jf hv=>?_) (λgd W jf v' gg ex hv dh u=>?_);rotate_left
 ·have:W=0\/W=1:=by have:=(gs.1 hv).1;simp at this;omega
  obtain rfl|rfl:=this
  ·cases hv;exact⟨_,_,by omega,fk⟩
  cases hv;exact⟨_,_,by omega,fl⟩
 ·have ij:gd=0\/gd=1:=by have:=(gs.1 hv).1;simp at this;omega
  have ik:W=0\/W=1:=by have:=(gs.1 dh).1;simp at this;omega
  obtain rfl|rfl:=ij<;>obtain rfl|rfl:=ik
  ·exact absurd rfl ex
  ·cases hv;cases dh;exact cu gg u
  ·cases hv;cases dh;exact λe=>cu gg e u
  exact absurd rfl ex
 have hz:=ad.heap gx.o (λe=>by simp only[mem_cons,not_mem_nil,or_false]at e;omega);rw[cx]at hz;cases hz;have eq:=hn.o.fr J (λh j e=>by
  have d:=Q h e;obtain z|z:=(an.o h j).1
  ·have:=ae h z;omega
  omega) (λh j=>by have:=(Q h j).1;omega)
 have fg:∀h∈aZ lb xb D S' bo yb gb q tv kv,h≠b/\h∉K:=λh j=>by
  obtain z|z:=(an.o h j).1
  ·exact ak.o h z
  exact⟨by omega,λe=>by have:=cb.o h e;omega⟩
 have ea:=aA eq;have cc:=aA fg;have gu:=aA J;have gq:=aA Q;clear C7 eq fg cx cy cz cu fk fl eg ez J f2 ew;have C8:=aA C8
 go_wp2_with fail
 refine cm C8.o ?_;rintro e w9 ⟨rfl,hown⟩;obtain⟨⟨K',ej,ek⟩,cq⟩:=hown;have Zq:=ea.o.fr cq (λh j e=>by
  obtain d|d:=Qq0.1 e
  ·exact(cc.o h j).1 d
  ·obtain d|d:=m5.1 d
   · exact(cc.o h j).2 d
   exact(an.o h j).2 d) (λh j=>by
  obtain d|d:=Qq0.1 j
  ·exact ec.o h (by simp[d])
  obtain d|d:=m5.1 d
  · exact ec.o h (by simp[d])
  have:=(bx.o h d).1;omega)
 have dq:=aA ej;have dr:=aA ek;have eb:=aA Zq;have g1:ca w9 lb 1 (pt yb):=aB Zq.h;have g2:ca w9 yb 0 (pt gb):=aB Zq.y.h;obtain⟨I,ck⟩:∃h:ByteArray,h=⟨(aQ (dR t (l,n))).toArray⟩:=⟨_,rfl⟩;have C9:Hi (Cs 57 #[pt gb] w9 (R0 w9 (.string I))):=by rw[ck];have bm:=bz.o.play (l,n) ht;exact qV gb q ag _ w9 Zq.y.rg bm.1.ok bm.1.os ⟨bm.1.t0,by have:=bm.2;omega⟩
 have hl:Hi (mA (nT (dR t (l,n)))=.string I):=by show _=_;rw[ck,mA,ZX]
 obtain⟨dl,ft⟩:=nm (sts.map mA);have dz:=aA ft;clear C8 ej ek Zq ck ft
 go_wp2_with fail
 refine cm C9.o ?_;rintro e r ⟨rfl,bh⟩;obtain⟨jc,ih,iz,ja,jb⟩:=Z2 GE;obtain⟨aa,Y,M⟩:=fD eb.o.tl;have R:=eb.o.qF bh;have cd:=aA R;have e4:r.cell? ⟨lb,4,none⟩=some (.slice aa sts.length Y):=by rw[<-M];exact aB R.h
 have ab:Hi (Fr [] r (r.alloc (.cells #[.string I] 9))):=(r0 _ _).alloc _;have dy:Hi ((r.alloc (.cells #[.string I] 9)).ownsRow 0 9 1 (.slice aa sts.length Y) sts.length dl):=by
  show World.ownsRow _ _ _ _ _ _ _
  rw[<-M];rw[dz.o];exact aF R.tl ab.o qs
 have dv:Hi (∀(W:Nat) (af:Value),[Value.string I][W]?=some af->(r.alloc (.cells #[.string I] 9)).cell? ((⟨r.heap.size,0,none⟩:Addr).add W)=some af):=dQ r _ 9;have go:Hi (∀w7,Fr (Value.ownBlock (.slice aa sts.length Y)).toList (r.alloc (.cells #[.string I] 9)) w7->∃bl,w7.heap[lb]?=some bl/\r.heap[lb]?=some bl):=λw7 s=>⟨_,s.heap (ab.o.qH R.h) (λe=>(R.nt lb (by rw[M];simpa using e)).1 qs),R.h⟩;have jn:(r.alloc (.cells #[.string I] 9)).cell? ⟨lb,4,none⟩=some (.slice aa sts.length Y):=by rw[<-M];exact aB (ab.o.qH R.h)
 clear C9 R g1 g2
 go_wp2_with (first
  |(
    at_builtin
    refine eU rfl _ _ 38 rfl 0 9 jc (.string ⟨#[]⟩) 1 16 underlying38 ih iz ja jb rfl (.slice aa sts.length Y) sts.length dl rfl dy.o ⟨r.heap.size,0,none⟩ 1 1 [.string I] rfl rfl dv.o qc qm qo qs qo ?_;intro ks ax db im cn;obtain⟨bc,ba,rfl⟩:=bK db qo;have dx:=(show Hi (ax.ownsRow 0 9 1 (.slice (so bc) (sts.length+1) ba) (sts.length+1) (dl++[.string I]))from db);have HA:=aA cn;obtain⟨e5,z5⟩:ax.cell? ⟨lb,4,none⟩=some (.slice aa sts.length Y)/\ax.frozen? ⟨lb,4,none⟩=false:=by have x:=(ab.o.qO.trans (S:=(Value.ownBlock (.slice aa sts.length Y)).toList) (bO cn) (λf i=>.inl i)).heap cd.o.h (λe=>(cd.o.nt lb (by rw[M];simpa using e)).1 qs);rw[M]at x;exact⟨aB x,aV x⟩
    clear db im cn))
 have eh:Fr tv.ownBlock.toList r ax:=by rw[M];exact(ab.o.qO (S:=(Value.ownBlock (.slice aa sts.length Y)).toList)).trans (bO HA.o) (λf i=>.inl i)
 obtain⟨ar,cg⟩:=cd.o.putT (tv':=.slice (so bc) (sts.length+1) ba) (sts':=sts++[nT (dR t (l,n))]) eh (by rw[m8,Qx9,<-dz.o,map_singleton,hl.o];exact dx.o) qs (λg u=>by
  obtain d|d:=gK HA.o g u
  ·exact .inl (by rw[M];exact d)
  exact .inr (qh ab.o.size))
 obtain⟨dm,dg⟩:=nm (Value.slice (so bc) (sts.length+1) ba);have hk:Hi (∀g,dm.ownBlock=some g->tv.ownBlock=some g\/r.heap.size<=g):=λg u=>by
  rw[dg]at u;obtain d|d:=gK HA.o g u
  ·exact .inl (by rw[M];exact d)
  exact .inr (qh ab.o.size)
 obtain⟨jg,fw⟩:=nm (ax.setCell ⟨lb,4,none⟩ (Value.slice (so bc) (sts.length+1) ba));rw[<-fw]at ar cg |-;rw[<-dg]at ar;have dn:=(show Hi _ from MZ jg ar qo du.o);have hm:=aA ar;have Zs:=aA cg;clear ar cg eh HA dx dy dv go fw dg;refine cm dn.o ?_;rintro e jh ⟨rfl,bi⟩;have CA:=(show Hi _ from sQ jh mx.2.2 (hm.o.qF bi) qs qt qt qo);clear dn
 go_wp2_with fail
 refine cm CA.o ?_;rintro e kt ⟨rfl,⟨⟨gh,em,Zv⟩,er⟩⟩;have gw:=aA em;clear CA em
 go_wp2_with (go_at_call 52;refine(oV _ _).mono ?_;rintro e ku ⟨rfl,rfl⟩)
 go_ret;refine⟨rfl,?_⟩;have kh:=cq.size;have jw:=bh.size;have jy:=Zs.o.size;have ka:=bi.size;have kg:k.heap.size<=w8.heap.size:=qo;have iq:=ea.o.lt;have bq:=cc.o;have ch:∀h∈aZ lb xb D S' bo yb gb q tv kv,h∉K':=λh j e=>by
  obtain d|d|d:=dr.o h e
  ·exact(bq h j).2 d
  ·exact(an.o h j).2 d
  have:=iq h j;omega
 have kp:lb∈aZ lb xb D S' bo yb gb q tv kv:=qs;have bw:∀f∈lb::tv.ownBlock.toList,f∈aZ lb xb D S' bo yb gb q tv kv/\f∈aZ lb xb pb S bo yb gb qb tv kv:=λf i=>by
  obtain d|d:=Qq0.1 i
  ·simp[d]
  have:tv.ownBlock=some f:=by simpa using d
  simp[this]
 have bu:∀f∈lb::kv.ownBlock.toList,f∈aZ lb xb D S' bo yb gb q tv kv/\f∈aZ lb xb pb S bo yb gb qb tv kv:=λf i=>by
  obtain d|d:=Qq0.1 i
  ·simp[d]
  have:kv.ownBlock=some f:=by simpa using d
  simp[this]
 have ie:=(((dq.o.qF bh).fr Zs.o (λe=>(bq b (bw b e).1).1 rfl) (λf i e=>ch f (bw f e).1 i)).qF bi).fr er (λe=>(bq b (bu b e).1).1 rfl) (λf i e=>ch f (bu f e).1 i);have fh:∀h∈aZ lb xb D S' bo yb gb q dm gh,h∈aZ lb xb D S' bo yb gb q tv kv\/r.heap.size<=h:=λh j=>by
  simp only[aZ,mem_append]at j;obtain d|d|d|d|d:=j
  ·exact .inl (by simp only[aZ,mem_append];exact .inl d)
  ·exact .inl (by simp only[aZ,mem_append];exact .inr (.inl d))
  ·exact .inl (by simp only[aZ,mem_append];exact .inr (.inr (.inl d)))
  ·obtain z|z:=hk.o h (qu d)
   · exact .inl (bw h (by simp[z])).1
   exact .inr z
  obtain z|z:=Zv h (qu d)
  · exact .inl (bu h (by simp[z])).1
  exact .inr qo
 refine⟨⟨_,K',⟨⟨lb,xb,D,hp,S',bo,jd,je,_,yb,gb,q,ag,fst,bv,bs,dm,gh,_,_,_,_,_,rfl,gw.o.n,gv.o.play du.o (l,n) ht ⟨by show l.length<=_;omega,by show n.length<=_;omega⟩ et v',rfl⟩⟩,ie,λh j=>?_,λh j=>?_,λh j=>?_⟩,?_⟩
 ·obtain d|d:=fh h j
  ·exact(an.o h d).1.imp_right (λd=>by omega)
  exact .inr qo
 ·obtain d|d|d:=dr.o h j
  ·exact .inl d
  ·exact .inr (by have:=(bx.o h d).1;omega)
  exact .inr qo
 ·obtain d|d:=fh h j
  ·exact⟨(bq h d).1,ch h d⟩
  exact⟨by omega,λe=>by have:=dq.o.kl h e;omega⟩
 refine((((((gt.o.mono (S':=b::(aZ lb xb pb S bo yb gb qb tv kv++K)) (λf i=>.inl ?_)).trans gu.o (λf i=>.inr (by have:=(gq.o f i).1;omega))).trans cq (λf i=>?_)).qT bh).trans Zs.o (λf i=>.inl ?_)).qT bi).trans er (λf i=>.inl ?_)
 ·refine Zz4 _ (Qk3 _ ?_);obtain d|d:=Qq0.1 i
  · simp[d]
  obtain d|d:=m5.1 d
  · simp[d]
  simp only[mem_cons,not_mem_nil,or_false]at d;obtain e|e|e:=d<;>simp[e]
 ·obtain d|d:=Qq0.1 i
  · exact .inl (by simp[d])
  obtain d|d:=m5.1 d
  · exact .inl (Zz4 _ (Qk6 _ d))
  exact .inr (by have:=(bx.o f d).1;omega)
 ·exact Zz4 _ (Qk3 _ (bw f i).2)
 exact Zz4 _ (Qk3 _ (bu f i).2)
theorem Ag(a:Nat):1<=(bG a).length:=by grind[bG,mS]
theorem EH:∀a:List Int,a.length<=(aY a).length
 |[]=>Q9 _
 |b::a=>by rw[lS,m8,Z7];have:=Ag b.toNat;have:=EH a;omega
theorem xI:∀a:List Cm,5*a.length<=(a.flatMap λb=>(aJ b).qN).length
 |[]=>Q9 _
 |b::a=>by rw[l9,m8,Z7];have:(aJ b).qN.length=5:=rfl;have:=xI a;omega
theorem Jv(d:Int)(a b:List Cm)(e:8000<a.length+b.length):40000<(dG d a b).length:=by
 have f:=EH (lK d a b);have h:=xI a;have i:=xI b;have j:(lK d a b).length=1+((1+(a.flatMap λc=>(aJ c).qN).length)+(1+(b.flatMap λc=>(aJ c).qN).length)):=by grind[lK,dL]
 grind[dG]
variable {n0:Nat} {lb xb pb cap:Nat} {S bo:List Nat} {mv stv:Value} {g:Gf} {yb gb qb cap2:Nat} {fst:Int} {bv:Value} {bs:List Pf} {tv kv:Value} {sts:List T} {mk:List Mk3} {t:T} {log:List UInt8} {steps:List Stp}
theorem Jy{K:List Nat}(j i:World)(F H:Int)(d e:List Cm)(l q C u:Option Addr)(n m s r E D gl v:Nat)(I:ByteArray)(k:LX j.heap.size i lb xb pb cap S bo mv stv g yb gb qb cap2 fst bv bs tv kv sts mk t log steps)(p:HI bs g fst sts mk t log steps a)(z:a<=1048577)(M:Bk i b K c)(L:∀J∈aZ lb xb pb S bo yb gb qb tv kv,J≠b/\J∉K)(R:∀J∈b::K,j.heap.size<=J)(N:c<=2200000)(ae:Sd i)(w:CmdR j (.slice l n m) d)(x:CmdR j (.slice q s r) e)(o:Fr [] j i)(A:d.length<=2000000)(B:e.length<=2000000):Cs 62 #[pt lb,pt b,.agg #[ii F,.slice l n m,.slice q s r,.string I,.slice C E D,ii H,.slice u gl v]] i λac f=>ac=.returned (.bool true)/\TuR j.heap.size i lb (aZ lb xb pb S bo yb gb qb tv kv) a b c K f:=by
 have W:=(kB p.op).1;have ag:=(p.logl z).2
 by_cases Q:t.turn<1000000000
 ·by_cases ad:(dG t.turn d e).length<=40000
  ·have af:d.length+e.length<=8000:=by grind[Jv]
   exact Ka j i F H d e l q C u n m s r E D gl v I k p z M L R N ae w x o A B Q af ad
  have nd:=k.nd;simp only[dT,nodup_cons,mem_cons,not_mem_nil,or_false,not_or,nodup_nil,and_true,not_false_eq_true]at nd;refine OX j i 3 qd F H d e l q C u n m s r E D gl v I k p z M L R N w x o A B (λf X Y h O P=>?_) (λf h=>?_)
  ·obtain⟨aa,c1,rfl⟩:=gL O;obtain⟨ab,c2,rfl⟩:=gL P;refine Ex f aa ab _ _ c1 c2 (k.qF h).rs Q ?_;obtain V|V:=Zx0 8000 (d.length+e.length)
   ·exact Jn t.turn _ _ d e f (mT O) (mT P) qo qo V
   refine(OW t.turn _ _ d e f ⟨W.t0,by omega⟩ (mT O) (mT P) V).mono ?_;grind
  refine(MM yb gb qb cap2 t log d e _ _ f (k.qF h).y qo W Q (w.qF (o.qT h)) (x.qF (o.qT h)) A B qo).mono ?_;grind
 exact OX j i 4 qd F H d e l q C u n m s r E D gl v I k p z M L R N w x o A B (λf X Y h _ _=>Ey f X Y (k.qF h).rs qo) (λf h=>Gc yb gb qb cap2 t log _ _ f (k.qF h).y qo)
variable {A:Gf} {L M:List Nat} {O:List Stp} {l:List UInt8} {u v:Value} {w x y:World}
theorem RR.same{n0:Nat}{K:List Nat}(e:LR n0 w v L b)(h:Bk w a K (2*b))(f:∀d∈L,d≠a/\d∉K)(c:Fr [] w x):RR n0 w a L K b v x:=
  ⟨⟨L,K,(e.qF c).more qo,(h.qF c).more qo,qg,qg,f⟩,c.qO⟩
theorem RR.new{n0:Nat}{K:List Nat}(d:Bk w a K (2*b))(j:LR n0 x v M (b+1))(f:∀c∈M,w.heap.size<=c)(e:Fr [] w x):RR n0 w a L K b v x:=
  ⟨⟨M,K,j,(d.qF e).more qo,qg,qg,λc h=>⟨by have:=f c h;have:=d.lt;omega,λi=>by have:=f c h;have:=d.kl c i;omega⟩⟩,e.qO⟩
theorem RR.before{n0:Nat}{K:List Nat}(c:Fr [] w x)(d:RR n0 x a L K b v y):RR n0 w a L K b v y:=by obtain⟨⟨h,f,j,k,l,m,n⟩,e⟩:=d;have i:=c.size;exact⟨qg,c.qO.trans e qg⟩
theorem RR.qT{n0:Nat}{K:List Nat}(f:RR n0 w a L K b v x)(c:Fr [] x y):RR n0 w a L K b v y:=by obtain⟨⟨e,d,i,j,k,l,m⟩,h⟩:=f;exact⟨⟨e,d,i.qF c,j.qF c,k,l,m⟩,h.qT c⟩
theorem RR.booked{n0:Nat}{r:Value}{L K:List Nat}{N:Nat}(j:LR n0 w r L N)(n:∀b∈a::K,n0<=b)(f:∀b∈L,b≠a/\b∉K)(d:Bk x a M (2*(N+1)))(l:∀b∈M,b∈K\/w.heap.size<=b)(k:Fr (a::K) w x):RR n0 w a L K N r x:=by
 have m:=j.lt;refine⟨⟨L,M,(j.fr k (λh d i=>?_) n).more qo,d,λb e=>.inl e,l,λb e=>⟨(f b e).1,λi=>?_⟩⟩,k.mono (λh d=>.inl ?_)⟩
 ·obtain c|c:=Qq0.1 i
  ·exact(f h d).1 c
  exact(f h d).2 c
 ·obtain c|c:=l b i
  ·exact(f b e).2 c
  have:=m b e;omega
 obtain c|c:=Qq0.1 d
 ·simp[c]
 simp[c]
theorem TuR.rr{n0:Nat}{lb:Nat}{K:List Nat}(i:TuR n0 w lb L b a (2*b) K x):RR n0 w a L K b (pt lb) x:=by obtain⟨⟨d,c,e,f,h⟩,j⟩:=i;exact⟨⟨d,c,e,f.more qo,h⟩,j⟩
variable {n0:Nat} {lb xb pb cap:Nat} {S bo:List Nat} {mv stv:Value} {g:Gf} {yb gb qb cap2:Nat} {fst:Int} {bv:Value} {bs:List Pf} {tv kv:Value} {sts:List T} {mk:List Mk3} {t:T} {log:List UInt8} {steps:List Stp}
theorem RR.marked{K Z:List Nat}(h:Bk w a K (2*b))(s:∀d∈aZ lb xb pb S bo yb gb qb tv kv,d≠a/\d∉K)(z:∀e∈L,e∈S\/w.heap.size<=e)(j:Fr Z w x)(B:∀e∈Z,e∈aZ lb xb pb S bo yb gb qb tv kv)(q:MkP3 n0 x lb xb pb cap L bo v u A yb gb qb cap2 fst bv bs tv kv sts mk t l O c y)(p:HI bs A fst sts (mk++[(O.length,sts.length-1,c)]) t l O (b+1)):RR n0 w a (aZ lb xb pb S bo yb gb qb tv kv) K b (pt lb) y:=by
 obtain⟨⟨m,f,D⟩,o⟩:=q;have E:=j.size;have i:Fr (aZ lb xb pb S bo yb gb qb tv kv) w y:=(j.mono qg).trans o (λe C=>.inl (by grind))
 have k:∀d∈aZ lb xb pb L bo yb gb qb tv m,d∈aZ lb xb pb S bo yb gb qb tv kv\/w.heap.size<=d:=λd f=>by simp only[aZ,mem_append]at f |-;grind
 refine⟨⟨_,K,⟨⟨lb,xb,pb,cap,L,bo,v,u,A,yb,gb,qb,cap2,fst,bv,bs,tv,m,sts,_,t,l,O,rfl,f,p,rfl⟩⟩,(h.fr i qg qg).more qo,k,qg,λd f=>?_⟩,i.mono qg⟩;obtain r|r:=k d f
 ·grind
 exact⟨by have:=h.lt;omega,λn=>by have:=h.kl d n;omega⟩
structure StepR (n0:Nat) (w:World) (bb:Nat) (L K:List Nat) (N:Nat) (e:Ending) (w':World):Prop where
  ex:∃lb',e=.returned (.tuple #[pt lb',.bool true])/\RR n0 w bb L K N (pt lb') w'
