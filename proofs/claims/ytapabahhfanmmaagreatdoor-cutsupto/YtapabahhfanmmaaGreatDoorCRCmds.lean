import Derived.Test.YtapabahhfanmmaaGreatDoorCRClean
namespace Go.Proofs.YtapabahhfanmmaaGreatDoor
open Go.RowKit List Go.Proofs.Tryz
set_option maxHeartbeats 4000000
set_option maxRecDepth 100000
variable {X:List U} {a:Nat} {C:U}
theorem Do(b:T)(a:Nat):(range (a+1)).map b.bd=(range a).map b.bd++[b.bd a]:=by grind[range_succ]
theorem Ja(b:X[a]?=some C):eJ (X.take (a+1))=eJ (X.take a)++C.qN:=by grind[eJ,take_add_one]
theorem Ge(C pb ap:Nat)(a:T)(k l m n q:Int)(d:World)(O:RG d C pb ap a)(hl:a.us.length<=100)(e0:a.turn=k)(e1:fL a.us=l)(e2:a.s0=m)(e3:a.s1=n)(e4:a.next=q)(J:∀r∈[k,l,m,n,q],0<=r/\r<=1000000000)(ac:∀g,g<144->0<=a.bd g/\a.bd g<=1000000000)(au:∀t∈a.us,∀r∈t.qN,0<=r/\r<=1000000000):Cs 57 #[pt C] d (R0 d (.string (NF ([k,l,m,n,q]++(range 144).map a.bd++[(a.us.length:Int)]++eJ a.us)))):=by
 have q0:=J k qs;have q1:=J l qs;have q2:=J m qs;have q3:=J n qs;have q4:=J q qs;obtain⟨E,R⟩:=nm (NB k);have b0:E.size<=5:=by rw[R];exact eW q0
 have N0:Hi (∀d:World,Cs 101 #[ii k] d (R0 d (.string E))):=by rw[R];exact eT k q0
 obtain⟨F,V⟩:=nm (NB l);have b1:F.size<=5:=by rw[V];exact eW q1
 have N1:Hi (∀d:World,Cs 101 #[ii l] d (R0 d (.string F))):=by rw[V];exact eT l q1
 obtain⟨L,W⟩:=nm (NB m);have b2:L.size<=5:=by rw[W];exact eW q2
 have N2:Hi (∀d:World,Cs 101 #[ii m] d (R0 d (.string L))):=by rw[W];exact eT m q2
 obtain⟨N,X⟩:=nm (NB n);have b3:N.size<=5:=by rw[X];exact eW q3
 have N3:Hi (∀d:World,Cs 101 #[ii n] d (R0 d (.string N))):=by rw[X];exact eT n q3
 obtain⟨Q,Y⟩:=nm (NB q);have b4:Q.size<=5:=by rw[Y];exact eW q4
 have N4:Hi (∀d:World,Cs 101 #[ii q] d (R0 d (.string Q))):=by rw[Y];exact eT q q4
 have WN:Hi (∀P,Fr [] d P->Cs 99 #[pt C] P (R0 P (ii l))):=λP D=>by rw[<-e1];exact pF C pb ap a.us P (O.gv.qF D)
 have v:∀y,Fr [] d y->(λy:World=>(cl y C 0 k/\cl y C 145 m/\cl y C 146 n/\cl y C 147 q)/\Fr [] d y) y:=λy D=>by have f:=O.qF D;exact⟨⟨e0 ▸ f.c0,e2 ▸ f.c145,e3 ▸ f.c146,e4 ▸ f.c147⟩,D⟩
 have s1:E.size+F.size<=9223372036854775807:=qo;have s2:E.size+F.size+L.size<=9223372036854775807:=qo;have x:E.size+F.size+L.size+N.size<=9223372036854775807:=qo;have s4:E.size+F.size+L.size+N.size+Q.size<=9223372036854775807:=qo;have K0:=v d.drew ((r0 _ _).drew);have HB:Hi (NF [k,l,m,n,q]=E++F++L++N++Q):=by
  show _=_
  rw[show[k,l,m,n,q]=[k]++[l]++[m]++[n]++[q]from rfl];simp only[pO,rE,R,V,W,X,Y]
 have HL:Hi (([k,l,m,n,q]:List Int).length=5):=rfl;obtain⟨bp,hA⟩:=nm (NF ([k,l,m,n,q]++(range 144).map a.bd++[(a.us.length:Int)]++eJ a.us));rw[<-hA];have HA:=aA hA;clear hA;have HZ:=aA J;clear R V W X Y e0 e1 e2 e3 e4 J
 delta Cs;go_in
 go_wp2
 go_cut [3] (fun x wx=>x=.string (NF [k,l,m,n,q])/\Fr [] d wx)
 ·refine rg 30 v K0 λb=>?_
  iterate 4 refine tn 30 b ?_
  refine ta 5 b ?_;refine ta 9 b ?_;refine ta 10 b ?_;refine ta 11 b ?_;refine ta 12 b ?_;refine ta 13 b ?_;refine ta 16 b ?_;refine ta 17 b ?_;refine ta 18 b ?_;refine ta 19 b ?_;refine ta 20 b ?_;refine ta 23 b ?_;refine ta 24 b ?_;refine ta 25 b ?_;refine ta 26 b ?_;refine rd 4 fun K hK=>?_;have h:=aA hK;clear hK;go_simp;refine cm (N0.o _) ?_;rintro A Zs ⟨rfl,bb⟩;have bi:=b.2.qT bb;clear b;refine h.o _ _ (v _ bi) (fun b=>?_);clear h K;try simp only[Act.put,Z]
  refine rd 6 fun K hK=>?_;have h:=aA hK;clear hK;go_simp;refine cm (WN.o _ b.2) ?_;rintro A bz ⟨rfl,bc⟩;have bj:=b.2.qT bc;clear b;refine h.o _ _ (v _ bj) (fun b=>?_);clear h K;try simp only[Act.put,Z]
  refine rd 7 fun K hK=>?_;have h:=aA hK;clear hK;go_simp;refine cm (N1.o _) ?_;rintro A cb ⟨rfl,be⟩;have bk:=b.2.qT be;clear b;refine h.o _ _ (v _ bk) (fun b=>?_);clear h K;try simp only[Act.put,Z]
  refine ta 8 b ?_;refine rd 14 fun K hK=>?_;have h:=aA hK;clear hK;go_simp;refine cm (N2.o _) ?_;rintro A bv ⟨rfl,ay⟩;have bf:=b.2.qT ay;clear b;refine h.o _ _ (v _ bf) (fun b=>?_);clear h K;try simp only[Act.put,Z]
  refine ta 15 b ?_;refine rd 21 fun K hK=>?_;have h:=aA hK;clear hK;go_simp;refine cm (N3.o _) ?_;rintro A bw ⟨rfl,az⟩;have bg:=b.2.qT az;clear b;refine h.o _ _ (v _ bg) (fun b=>?_);clear h K;try simp only[Act.put,Z]
  refine ta 22 b ?_;refine rd 27 fun K hK=>?_;have h:=aA hK;clear hK;go_simp;refine cm (N4.o _) ?_;rintro A bx ⟨rfl,ba⟩;have bh:=b.2.qT ba;clear b;refine h.o _ _ (v _ bh) (fun b=>?_);clear h K;try simp only[Act.put,Z]
  iterate 2 refine tn 30 b ?_
  refine wpAnyH_done qk ?_ _
  go_wp2_with fail
  go_meet
  exact⟨by rw[HB.o],b.2⟩
 obtain⟨rfl,bl⟩:=hcut
 generalize hzs:[k,l,m,n,q]=s at *
 clear K0 v WN N0 N1 N2 N3 N4 b0 b1 b2 b3 b4 s1 s2 x s4 q0 q1 q2 q3 q4 HB hzs;have bu:=HL.o;have aj:=λr w=>(HZ.o r w).2;have an:Hi (∀e,e<=144->(NF (s++(range e).map a.bd)).size<=800):=λe hk=>by
  have:=uI (s++(range e).map a.bd) (λr w=>by
   obtain f|f:=m5.1 w
   ·exact aj r f
   obtain⟨g,hi,rfl⟩:=Qk7.1 f;exact(ac g (qh (Qk5.1 hi))).2)
  simp at this;omega
 clear HL HZ;have am:=aA ac;have ao:=aA au;have av:=aA aj;clear ac au aj;go_wp2
 go_loopw [3,4] (fun x g wr=>∃i:Nat,i<=12/\g=ii i/\x=.string (NF (s++(range (12*i)).map a.bd))/\Fr [] d wr) (fun _ g _=>12-(intOf g).toNat)
 ·exact⟨0,by omega,rfl,qs,bl⟩
 obtain⟨i,hy,rfl,rfl,D⟩:=hrel
 by_cases Zq:i<12
 ·have Zr:(i:Int)<12:=qo;go_wp2
  go_loopw [3,5] (fun x g wr=>∃j:Nat,j<=12/\g=ii j/\x=.string (NF (s++(range (12*i+j)).map a.bd))/\Fr [] d wr) (fun _ g _=>12-(intOf g).toNat)
  ·exact⟨0,by omega,rfl,rfl,D⟩
  obtain⟨j,hx,rfl,rfl,ad⟩:=hrel
  by_cases bt:j<12
  ·have bs:(j:Int)<12:=qo;have hj:12*i+j<144:=qo;have hb:=(O.qF ad).bd hj;rw[show 1+(12*i+j)=1+i*12+j by omega]at hb;obtain⟨ak,hv⟩:=nn (a.bd (12*i+j));have aa:=am.o _ hj;rw[hv]at hb aa;have z:Hi (NF (s++(range (12*i+(j+1))).map a.bd)=NF (s++(range (12*i+j)).map a.bd)++NB ak):=by
    show _=_
    rw[<-Y0,Do,hv,<-X0,pO]
   have I:=an.o (12*i+j) qo;have u:=(show Hi _ from eT ak aa);have H:=eW aa
   generalize NF (s++(range (12*i+j)).map a.bd)=S at I z |-
   generalize NB ak=B at H z u
   have ah:S.size+B.size<=9223372036854775807:=qo;clear hv aa
   go_wp2_with fail
   refine cm (u.o _) ?_;rintro A w2 ⟨rfl,ae⟩;go_wp2;go_roundw
   ·exact⟨j+1,by omega,by go_num,by rw[z.o],ad.qT ae⟩
   simp[intOf];omega
  have bn:j=12:=qo;subst bn;go_wp2;go_roundw
  ·exact⟨i+1,by omega,by go_num,rfl,ad⟩
  simp[intOf];omega
 have bo:i=12:=qo;subst bo;have hc:=(O.qF D).gv.c;have ar:0<=(a.us.length:Int)/\(a.us.length:Int)<=1000000000:=qo;have u:=(show Hi _ from eT _ ar);have H:=eW ar;have I:=an.o 144 qo;have HP:Hi (∀e,(NF (s++(range 144).map a.bd++[(a.us.length:Int)]++eJ (a.us.take e))).size<=8000):=λe=>by
  have:=uI (s++(range 144).map a.bd++[(a.us.length:Int)]++eJ (a.us.take e)) (λr w=>by
   obtain f|f:=m5.1 w
   ·obtain f|f:=m5.1 f
    ·obtain f|f:=m5.1 f
     ·exact av.o r f
     obtain⟨g,hi,rfl⟩:=Qk7.1 f;exact(am.o g (qh (Qk5.1 hi))).2
    grind
   obtain⟨t,M,w⟩:=i6.1 f;exact(ao.o t (mem_of_mem_take M) r w).2)
  have hp:=xS (a.us.take e);grind
 have z:Hi (NF (s++(range 144).map a.bd++[(a.us.length:Int)]++eJ (a.us.take 0))=NF (s++(range 144).map a.bd)++NB (a.us.length:Int)):=by
  show _=_
  rw[show eJ (a.us.take 0)=[]from rfl,Zq6,pO]
 have aq:12*12=144:=rfl;rw[aq];clear aq
 generalize s++(range 144).map a.bd=ys at I z HP HA |-
 generalize NF ys=S at I z |-
 generalize NB (a.us.length:Int)=B at H z u
 have ah:S.size+B.size<=9223372036854775807:=qo
 go_wp2_with fail
 refine cm (u.o _) ?_;rintro A w2 ⟨rfl,ae⟩
 go_wp2_with fail
 have aw:=D.qT ae;clear ah I H u hc
 go_loopw [3,6] (fun x g wr=>∃e:Nat,e<=a.us.length/\g=ii e/\x=.string (NF (ys++[(a.us.length:Int)]++eJ (a.us.take e)))/\Fr [] d wr) (fun _ g _=>a.us.length-(intOf g).toNat)
 ·exact⟨0,by omega,rfl,by rw[z.o],aw⟩
 obtain⟨e,hk,rfl,rfl,af⟩:=hrel;have ag:=O.qF af;have br:=ag.gv.c
 by_cases Zq:e<a.us.length
 ·have Zr:(e:Int)<(a.us.length:Int):=qo;obtain⟨t,M⟩:∃t,a.us[e]?=some t:=⟨a.us[e],Y2 Zq⟩;obtain⟨c0,c1,c2,c3,c4,c5,c6,c7,c8,c9,bq⟩:=ag.gv.p.at M;have ai:=ao.o t (Q8 M);have u:=(show Hi _ from Gh t ai);have H:=uI t.qN (λr w=>(ai r w).2);have ab:Hi (NF (ys++[(a.us.length:Int)]++eJ (a.us.take (e+1)))=NF (ys++[(a.us.length:Int)]++eJ (a.us.take e))++NF t.qN):=by
   show _=_
   rw[Ja M,<-X0,rD]
  have I:=HP.o e
  generalize NF (ys++[(a.us.length:Int)]++eJ (a.us.take e))=S at I ab |-
  generalize NF t.qN=B at H ab u
  have ah:S.size+B.size<=9223372036854775807:=by simp at H;omega
  clear ai M ag
  go_wp2_with fail
  refine cm (u.o _) ?_;rintro A w6 ⟨rfl,ax⟩;go_wp2;go_roundw
  ·exact⟨e+1,by omega,by go_num,by rw[ab.o],af.qT ax⟩
  simp[intOf];omega
 have Zr:¬(e:Int)<(a.us.length:Int):=qo;have bm:e=a.us.length:=qo;subst bm;go_wp2;go_ret;exact⟨by rw[HA.o,X0];rfl,af⟩
theorem qV(e i h:Nat)(a:T)(d:World)(k:RG d e i h a)(g:GOk a)(n:OS a)(o:0<=a.turn/\a.turn<=1000000000):Cs 57 #[pt e] d (R0 d (.string ⟨(aQ a).toArray⟩)):=by
 have f:=nO g n o;have p:fL a.us=eD a.us:=zM g.bs;have m:∀b∈iN a,b∈cG a:=λb c=>Qk3 _ c;have j:cG a=[a.turn,eD a.us,a.s0,a.s1,a.next]++(range 144).map a.bd++[(a.us.length:Int)]++eJ a.us:=by grind[cG,iN,iV]
 refine cm (Ge e i h a a.turn (eD a.us) a.s0 a.s1 a.next d k g.len rfl p rfl rfl rfl (λb c=>f b (m b c)) (λt r=>f _ ?_) (λu s b c=>f b ?_)) ?_
 ·grind
 ·unfold cG;exact Qk6 _ (Qk6 _ (Zz4 _ (i6.2 qg)))
 rintro q v ⟨rfl,l⟩;exact⟨by rw[<-j];rfl,l⟩
variable {l:List UInt8} {b c:Nat}
set_option maxRecDepth 100000
theorem RP.bad{e:Prop}(d:RP e l a c true):RP e l b c true:=by
 obtain⟨d,_⟩|d:=d
 ·cases d
 exact .inr d
structure LS (R:Prop) (W:World) (sb:Nat) (l:List UInt8) (n j:Nat) (v:Value) (wr:World):Prop where
 all:∃(xs:List Value) (k:Nat) (bad:Bool),wr.ownsRow W.heap.size 81 5 v j xs/\SC wr sb l k bad/\RP R l (n+1+5*j) k bad/\(bad=false->xs=(dV l n j).flatMap Cm.cells)
 fr:Fr [sb] W wr
structure LsP (R:Prop) (sb:Nat) (l:List UInt8) (n:Nat) (bad:Bool) (w:World) (e:Ending) (w':World):Prop where
  ex:∃v j xs k' bad',e=.returned v/\w'.ownsRow w.heap.size 81 5 v j xs/\SC w' sb l k' bad'/\RP R l (n+1+5*(aD l false n).toNat) k' bad'/\(bad'=false->bad=false/\j=(aD l false n).toNat/\xs=(dV l n j).flatMap Cm.cells)/\Fr [sb] w w'
theorem MI(j:Prop)(i:Nat)(c:List UInt8)(e d:Nat)(F:Bool)(u:World)(X:SC u i c d F)(k:RP j c e d F)(hl:c.length<=1000000)(O:∀h,e<=h->h<e+1+5*(aD c false e).toNat->(aM c false (h+1)).2=true->j)(hM:40000<aD c false e->j):Cs 191 #[pt i] u λa x=>LsP j i c e F u a x:=by
 obtain⟨bx,bn,bu,bv,bw⟩:=Z2 wF;have cr:=X.lt;have hn:=qY j i c e d F 40000 qo u X k qo (λg=>by
  obtain g|g:=g
  ·exact O e (Q9 _) qo g
  exact hM g)
 have D:=aA (λx h d f (A:e<=h) (B:h<e+1+5*(aD c false e).toNat) (M:SC x i c d f) (N:RP j c h d f)=>qY j i c h d f 1000000000 qo x M N qo (λg=>by
   obtain g|g:=g
   ·exact O h A B g
   have:=(iR c false h).2;omega))
 obtain⟨J,hm⟩:=nm ((aD c false e).toNat);rw[<-hm]at D;have HM:=aA hm;have cb:=aA O;clear X k O hM
 delta Cs;go_in
 go_wp2_with fail
 refine cm hn ?_;rintro a w1 ⟨P,k1,w,rfl,ac,aa,bs,ba,bh,bl⟩;have bc:Hi (w=false->F=false/\P=J):=λa=>by grind
 have be:Hi (LS j u i c e 0 (.slice none 0 0) w1):=⟨⟨[],k1,w,⟨rfl,.inl ⟨rfl,rfl⟩⟩,ac,aa,λ_=>rfl⟩,bl⟩;have bz:Hi (w=true->j):=λa=>by
  obtain⟨g,_⟩|⟨_,g⟩:=aa
  ·rw[a]at g;cases g
  exact g
 have bj:w=true->∃d,SC w1 i c d true:=λa=>⟨k1,a ▸ ac⟩;clear hn bs bh hm ac aa;go_wp2
 go_loopw [3,5] (fun Zs l wr=>∃b:Nat,l=ii b/\(b:Int)<=P/\(w=true->∃d,SC wr i c d true)/\LS j u i c e b Zs wr) (fun _ l _=>P.toNat-(intOf l).toNat)
 ·exact⟨0,rfl,ba.1,bj,be.o⟩
 obtain⟨b,rfl,co,bk,hL⟩:=hrel;obtain⟨L,d,f,hown,m,k,hx⟩:=hL.all;have Y:=hL.fr;have ck:ca wr i 2 (.bool f):=aB m.all;obtain⟨E,I,rfl⟩:=kS hown;cases f
 ·have ag:w=false:=by
   cases w
   ·rfl
   obtain⟨k',h'⟩:=bk rfl;have:=h'.all;rw[m.all]at this;grind
  obtain⟨bi,bt⟩:=bc.o ag;subst bt;have HX:=(show Hi _ from hx rfl)
  by_cases bp:b<J
  ·have bo:(b:Int)<(J:Int):=qo;have n:=aA hown;have v:=(show Hi _ from And.intro m k);obtain⟨h,ab⟩:=nm (e+1+5*b);have z:=aA (λx d f l (hi:l<5) (A:SC x i c d f) (B:RP j c (h+l) d f)=>D.o x (h+l) d f qo qo A B);have h0:=z.o wr d false 0 qo m (by rw[Nat.add_zero,ab];exact k);have HP:=aA ab;clear m k hown hx ab
   go_wp2_with fail
   refine cm h0 ?_;rintro a w2 ⟨p,k2,Q,rfl,av,aq,e2,cc,t2,ah⟩;have A:=z.o w2 k2 Q 1 qo av aq;clear h0 av aq
   go_wp2_with fail
   refine cm A ?_;rintro a w3 ⟨q,k3,R,rfl,aw,ar,e3,cd,t3,ai⟩;have B:=z.o w3 k3 R 2 qo aw ar;clear A aw ar
   go_wp2_with fail
   refine cm B ?_;rintro a w4 ⟨r,k4,S,rfl,ax,Zq,e4,ce,t4,aj⟩;have M:=z.o w4 k4 S 3 qo ax Zq;clear B ax Zq
   go_wp2_with fail
   refine cm M ?_;rintro a w5 ⟨s,k5,V,rfl,ay,Zr,e5,cf,t5,ak⟩;have N:=z.o w5 k5 V 4 qo ay Zr;clear M ay Zr
   go_wp2_with fail
   refine cm N ?_;rintro a y ⟨t,k6,b6,rfl,az,au,e6,cg,t6,am⟩;have hF:=(((ah.trans ai qs).trans aj qs).trans ak qs).trans am qs;have af:=Y.trans hF qs;have cq:=af.size;obtain⟨W,C⟩:∃W:Cm,W=⟨p,q,r,s,t⟩:=⟨_,rfl⟩;have HD:Hi (b6=false->W=oG c e b):=λa=>by
    have q5:V=false:=by cases V;rfl;rw[t6 rfl]at a;cases a
    have q4:S=false:=by cases S;rfl;rw[t5 rfl]at q5;cases q5
    have q3:R=false:=by cases R;rfl;rw[t4 rfl]at q4;cases q4
    have q2:Q=false:=by cases Q;rfl;rw[t3 rfl]at q3;cases q3
    rw[C,(e2 q2).1,(e3 q3).1,(e4 q4).1,(e5 q5).1,(e6 a).1,HP.o];rfl
   have ae:=(show Hi _ from And.intro az au);have bg:Hi ((y.alloc (.cells #[ii p,ii q,ii r,ii s,ii t] 81)).ownsRow u.heap.size 81 5 (.slice E b I) b L):=aF n.o (hF.alloc _) (λf H a=>by have:=bT n.o H;simp at a;omega);have bf:Hi (∀(l:Nat) (bb:Value),[ii p,ii q,ii r,ii s,ii t][l]?=some bb->(y.alloc (.cells #[ii p,ii q,ii r,ii s,ii t] 81)).cell? ((⟨y.heap.size,0,none⟩:Addr).add l)=some bb):=xA ⟨p,q,r,s,t⟩ y;have bd:=aA C;have ad:=aA (λf (H:(Value.slice E b I).ownBlock=some f)=>bT n.o H);have cn:b<1000000000:=by have:=ba.2;omega
   clear N az au ah ai aj ak am z D e2 e3 e4 e5 e6 t2 t3 t4 t5 t6 C n v
   go_wp2_with (at_builtin;refine wpList_append_own_at _ rfl _ _ 39 rfl u.heap.size 81 bx (.agg #[ii 0,ii 0,ii 0,ii 0,ii 0]) 5 40 Qq5 bn bu bv bw rfl qd (.slice E b I) b L rfl bg.o ⟨y.heap.size,0,none⟩ 1 1 [ii p,ii q,ii r,ii s,ii t] rfl rfl bf.o qc qm qo qt ?_;intro v7 w7 bq bm cp cj)
   have an:Fr (Value.slice E b I).ownBlock.toList (y.alloc (.cells #[ii p,ii q,ii r,ii s,ii t] 81)) w7:=iK (r0 _ _) bm (λch hg=>.inl (by simp[hg]));have br:i∉(Value.slice E b I).ownBlock.toList:=λa=>by have:=ad.o i (qu a);omega
   refine⟨⟨b+1,by simp,by omega,λa=>(by rw[ag]at a;cases a),⟨⟨L++[ii p,ii q,ii r,ii s,ii t],k6,b6,bq,(ae.o.1.fr ((r0 [] y).alloc _) qs).fr an br,?_,λa=>?_⟩,?_⟩⟩,by simp[intOf];omega⟩
   ·rw[show e+1+5*(b+1)=h+4+1 by have:=HP.o;omega];exact ae.o.2
   ·have C:=HD.o a;rw[bd.o]at C;unfold dV;rw[range_succ,Qx9,Qz5,HX.o];simp only[map_cons,map_nil,flatMap_cons,flatMap_nil,append_nil];rw[<-C];rfl
   exact(af.alloc _).trans an (λf H=>.inr (ad.o f (qu H)))
  have bo:¬(b:Int)<(J:Int):=qo;have ap:b=J:=qo;have n:=aA hown;have v:=(show Hi _ from And.intro m k);have HJ:=aA ap;clear hown m k ap D;go_wp2;go_ret;exact⟨_,b,L,d,false,rfl,n.o,v.o.1,by rw[<-HM.o,<-HJ.o];exact v.o.2,λ_=>⟨by first|rfl|exact bi,by rw[HJ.o,HM.o],HX.o⟩,Y⟩
 have n:=aA hown;have v:=(show Hi _ from And.intro m k);clear hown m k D
 by_cases bp:(b:Int)<P
 all_goals
  go_wp2;go_ret;exact⟨_,b,L,d,true,rfl,n.o,v.o.1,v.o.2.bad,λa=>(by cases a),Y⟩
theorem zK(c:a<1+1+5*dS l+1+5*fK l)(b:(aM l false (a+1)).2=true):¬gG l:=λd=>by have:=qP l (a+1) (1+1+5*dS l+1+5*fK l-(a+1)) qg;grind
structure UtP (l:List UInt8) (n:Int) (w:World) (e:Ending) (w':World):Prop where
 ex:∃va vb B,e=.returned (.tuple #[va,vb,.bool B])/\(B=true↔gG l/\aD l false 0=n)/\(B=true->w'.ownsRow w.heap.size 81 5 va (dX l).length ((dX l).flatMap Cm.cells)/\w'.ownsRow w.heap.size 81 5 vb (dY l).length ((dY l).flatMap Cm.cells))
 fr:Fr [] w w'
theorem Gi(a:List UInt8)(f:Int)(c:World)(hl:a.length<=40000):Cs 148 #[.string ⟨a.toArray⟩,ii f] c λb w'=>UtP a f c b w':=by
 obtain⟨O,n⟩:∃aw:ByteArray,aw=⟨a.toArray⟩:=⟨_,rfl⟩;have av:O.size=a.length:=by rw[n];rfl
 have ar:Hi (SC (c.alloc (.cells #[.string O,ii 0,.bool false] 232)) c.heap.size a 0 false):=⟨by rw[n];exact aC _ _,Z3 _⟩;have an:Hi (40000<aD a false 1->¬gG a):=λd I=>by have:=tZ I;have:(dS a:Int)=aD a false 1:=nM a 1;omega
 have ao:Hi (40000<aD a false (1+1+5*dS a)->¬gG a):=λd I=>by have:=tZ I;have:(fK a:Int)=aD a false (1+1+5*dS a):=nM a _;omega
 have af:=qY (¬gG a) c.heap.size a 0 0 false 1000000000 qo _ ar.o (.inl ⟨rfl,rfl⟩) qo (λp=>by
  obtain p|p:=p
  ·exact zK qo p
  have:=(iR a false 0).2;omega)
 rw[<-n];clear n
 delta Cs;go_in
 go_wp2_with fail
 refine cm af ?_;rintro b w1 ⟨s,k1,R,rfl,F,ag,V,ay,_,au⟩;have ad:=MI (¬gG a) c.heap.size a 1 k1 R w1 F ag qo (λe h1 z A=>zK (by have:e<1+1+5*dS a:=z;omega) A) an.o;have Y:=((r0 [] c).alloc _).trans au qs;have ak:=aA (λb=>(V b).1);have ba:=aH F.all;clear af F ag V
 go_wp2_with fail
 refine cm ad ?_;rintro b w2 ⟨va,J,xa,k2,S,rfl,C,H,ah,W,ab⟩;have ae:=MI (¬gG a) c.heap.size a (1+1+5*dS a) k2 S w2 H ah qo (λe h1 z A=>zK (by have:e<1+1+5*dS a+1+5*fK a:=z;omega) A) ao.o;have bb:=aH H.all;have aa:=Y.trans ab qs;have w:=aA C;have u:=aA W;obtain⟨P,ai,rfl⟩:=kS C;clear ad H ah C W
 go_wp2_with fail
 refine cm ae ?_;rintro b t ⟨vb,L,xb,h,g,rfl,D,m,E,j,ac⟩;obtain⟨Q,aj,rfl⟩:=kS D;have c1:ca t c.heap.size 1 (ii (h:Int)):=aB m.all;have c2:ca t c.heap.size 2 (.bool g):=aB m.all;have Zr:=aa.trans ac qs;have az:=ab.size;have Zq:=Y.size;have aq:=aA (aF w.o ac (λax k b=>by have:=bT w.o k;simp at b;omega));have x:Hi (((!g&&(s==f)&&((h:Int)==(a.length:Int)))=true↔gG a/\aD a false 0=f)/\(g=false->(dX a).length=J/\(dX a).flatMap Cm.cells=xa/\(dY a).length=L/\(dY a).flatMap Cm.cells=xb)):=by
  have k:g=false->S=false/\R=false:=λb=>⟨(j b).1,(u.o (j b).1).1⟩;refine⟨⟨λd=>?_,λd=>?_⟩,λb=>?_⟩
  ·simp only[Bool.and_eq_true,Bool.not_eq_true',beq_iff_eq]at d;obtain⟨⟨q1,q2⟩,q3⟩:=d;obtain⟨_,e⟩|⟨e,_⟩:=E
   ·refine⟨?_,by rw[<-ak.o (k q1).2];exact q2⟩
    show aM _ _ _=_
    rw[Z6 qo]at e;exact e
   grind
  ·obtain⟨q1,e⟩|⟨_,e⟩:=E
   ·have l:a.drop h=[]:=by have:aM a false (1+1+5*dS a+1+5*fK a)=(a.drop h,false):=e;rw[d.1]at this;exact(Prod.mk.inj this).1.symm
    have:=drop_eq_nil_iff.1 l;have:=m.le;grind[Hi.o]
   grind
  obtain⟨_,q,M⟩:=u.o (k b).1;obtain⟨_,r,N⟩:=j b;unfold dX dY;rw[jR,jR];refine⟨q.symm,?_,r.symm,?_⟩
  ·rw[M,q];rfl
  rw[N,r];rfl
 have ap:=aA D;have am:Hi (∀i,i=(!g&&(s==f)&&((h:Int)==(a.length:Int)))->∀y,Fr [] t y->UtP a f c (.returned (.tuple #[.slice P J ai,.slice Q L aj,.bool i])) y):=λi X y B=>by refine⟨⟨_,_,i,rfl,by rw[X];exact x.o.1,λd=>?_⟩,Zr.qT B⟩;rw[X]at d;simp only[Bool.and_eq_true,Bool.not_eq_true']at d;obtain⟨q,M,r,N⟩:=x.o.2 d.1.1;rw[q,M,r,N];exact⟨jN (aF aq.o B qs) Zq,jN (aF ap.o B qs) aa.size⟩
 clear ae m E D j x w u
 by_cases hv:s=f
 all_goals
  by_cases l:(h:Int)=(O.size:Int)
  all_goals
   rcases hb3:g with _|_
   all_goals
    go_wp2
    go_quiet (fail)
    go_wp2_with fail
    refine Zq8 (v:=.tuple #[.slice P J ai,.slice Q L aj,.bool (!g&&(s==f)&&((h:Int)==(a.length:Int)))]) ?_ rfl (am.o _ rfl _ ((r0 [] t).drewN _));rw[av]at l;simp[results,results148,go_sem,hb3,hv,l]
theorem Al(b:List Cm)(a:Nat)(c:Cm)(d:b[a]?=some c):(b.take (a+1)).flatMap Cm.qN=(b.take a).flatMap Cm.qN++c.qN:=by grind[take_add_one]
theorem PP(a:List Int):(NF a).size=(aY a).length:=rfl
theorem MD(b:List Cm)(Q:Value)(c:World)(D:CmdR c Q b)(au:b.length<=2000000)(S:∀j∈b,∀P∈j.qN,0<=P/\P<=1000000000):Cs 187 #[Q] c (R0 c (.string (NF ((b.length:Int)::b.flatMap Cm.qN)))):=by
 obtain⟨B,C,rfl⟩:∃B C,Q=.slice B b.length C:=by
  obtain⟨B,C,rfl,rfl⟩|⟨e,h,C,rfl,_⟩:=D
  ·simp_all
  grind
 have HL:=aA D;have ab:=aA S;have R:Hi (∀c:World,Cs 101 #[ii (b.length:Int)] c (R0 c (.string (NB (b.length:Int))))):=λc=>eT _ ⟨by omega,by omega⟩ c;have ac:Hi (∀d,(aY ((b.length:Int)::(b.take d).flatMap Cm.qN)).length<=5+25*b.length):=λd=>by
  have h1:=jS ((b.length:Int)::(b.take d).flatMap Cm.qN) (λP hn=>by grind)
  grind[xH]
 clear D S
 delta Cs;go_in
 go_wp2_with fail
 refine cm (R.o _) ?_;rintro y w1 ⟨rfl,ad⟩;obtain⟨A1,F⟩:=nm (NB (b.length:Int));rw[<-F];have Zr:=aA F;clear F R;go_wp2
 go_loopw [3,4] (fun Zq O wr=>∃d:Nat,d<=b.length/\O=ii d/\Zq=.string (NF ((b.length:Int)::(b.take d).flatMap Cm.qN))/\Fr [] c wr) (fun _ O _=>b.length-(intOf O).toNat)
 ·exact⟨0,Z3 _,rfl,by grind[Hi.o,rE],ad⟩
 obtain⟨d,hk,rfl,rfl,V⟩:=hrel;have Y:=ac.o d;rw[<-PP]at Y
 by_cases W:d<b.length
 ·have ar:(d:Int)<(b.length:Int):=qo;obtain⟨j,N⟩:∃j,b[d]?=some j:=⟨b[d],Y2 W⟩;obtain⟨e,h,rfl,z,v⟩:∃e h,B=some ⟨e,h,none⟩/\e<c.heap.size/\c.rangeAt e (h+d*5) j.cells:=by grind[Hi.o,CmdR]
  have X:=Al b d j N;have u:=ab.o j (Q8 N);obtain⟨m,n,p,q,r⟩:=j;have q0:=u m qs;obtain⟨i,H⟩:=nm (NB m);have b0:i.size<=5:=by grind[eW]
  have N0:Hi (∀c:World,Cs 101 #[ii m] c (R0 c (.string i))):=by rw[H];exact eT m q0
  have q1:=u n qs;obtain⟨k,I⟩:=nm (NB n);have b1:k.size<=5:=by grind[eW]
  have N1:Hi (∀c:World,Cs 101 #[ii n] c (R0 c (.string k))):=by rw[I];exact eT n q1
  have q2:=u p qs;obtain⟨t,J⟩:=nm (NB p);have b2:t.size<=5:=by grind[eW]
  have N2:Hi (∀c:World,Cs 101 #[ii p] c (R0 c (.string t))):=by rw[J];exact eT p q2
  have q3:=u q qs;obtain⟨x,L⟩:=nm (NB q);have b3:x.size<=5:=by grind[eW]
  have N3:Hi (∀c:World,Cs 101 #[ii q] c (R0 c (.string x))):=by rw[L];exact eT q q3
  have q4:=u r qs;obtain⟨A,M⟩:=nm (NB r);have b4:A.size<=5:=by grind[eW]
  have N4:Hi (∀c:World,Cs 101 #[ii r] c (R0 c (.string A))):=by rw[M];exact eT r q4
  have l:∀g,Fr [] c g->(λg:World=>(ca g e (h+d*5) (ii m)/\ca g e (h+d*5+1) (ii n)/\ca g e (h+d*5+2) (ii p)/\ca g e (h+d*5+3) (ii q)/\ca g e (h+d*5+4) (ii r))/\Fr [] c g) g:=λg w=>⟨⟨(w.cell e _ z qs).trans (v 0 _ rfl),(w.cell e _ z qs).trans (v 1 _ rfl),(w.cell e _ z qs).trans (v 2 _ rfl),(w.cell e _ z qs).trans (v 3 _ rfl),(w.cell e _ z qs).trans (v 4 _ rfl)⟩,w⟩;obtain⟨s,E⟩:=nm (NF ((b.length:Int)::(b.take d).flatMap Cm.qN));rw[<-E]at Y |-;have aa:Hi (NF ((b.length:Int)::(b.take (d+1)).flatMap Cm.qN)=s++i++k++t++x++A):=by
   show _=_
   rw[X,E,H,I,J,L,M];rw[show(b.length:Int)::((b.take d).flatMap Cm.qN++[m,n,p,q,r])=((b.length:Int)::(b.take d).flatMap Cm.qN)++[m]++[n]++[p]++[q]++[r] by simp];grind[pO]
  have s1:s.size+i.size<=9223372036854775807:=qo;have s2:s.size+i.size+k.size<=9223372036854775807:=qo;have s3:s.size+i.size+k.size+t.size<=9223372036854775807:=qo;have s4:s.size+i.size+k.size+t.size+x.size<=9223372036854775807:=qo;have s5:s.size+i.size+k.size+t.size+x.size+A.size<=9223372036854775807:=qo;have K0:=l wr.drew V.drew;clear E H I J L M X u q0 q1 q2 q3 q4 v N
  go_wp2_with fail
  refine rg 37 l K0 λa=>?_
  iterate 6 refine tn 37 a ?_
  refine ta 8 a ?_;refine ta 9 a ?_;refine ta 10 a ?_;refine ta 11 a ?_;refine ta 12 a ?_;refine ta 15 a ?_;refine ta 16 a ?_;refine ta 17 a ?_;refine ta 18 a ?_;refine ta 19 a ?_;refine ta 22 a ?_;refine ta 23 a ?_;refine ta 24 a ?_;refine ta 25 a ?_;refine ta 26 a ?_;refine ta 29 a ?_;refine ta 30 a ?_;refine ta 31 a ?_;refine ta 32 a ?_;refine ta 33 a ?_;refine rd 6 fun K hK=>?_;have f:=aA hK;clear hK;go_simp;refine cm (N0.o _) ?_;rintro y az ⟨rfl,ai⟩;have ap:=a.2.qT ai;clear a;refine f.o _ _ (l _ ap) (fun a=>?_);clear f K;try simp only[Act.put,Z]
  refine ta 7 a ?_;refine rd 13 fun K hK=>?_;have f:=aA hK;clear hK;go_simp;refine cm (N1.o _) ?_;rintro y av ⟨rfl,ae⟩;have aj:=a.2.qT ae;clear a;refine f.o _ _ (l _ aj) (fun a=>?_);clear f K;try simp only[Act.put,Z]
  refine ta 14 a ?_;refine rd 20 fun K hK=>?_;have f:=aA hK;clear hK;go_simp;refine cm (N2.o _) ?_;rintro y aw ⟨rfl,af⟩;have ak:=a.2.qT af;clear a;refine f.o _ _ (l _ ak) (fun a=>?_);clear f K;try simp only[Act.put,Z]
  refine ta 21 a ?_;refine rd 27 fun K hK=>?_;have f:=aA hK;clear hK;go_simp;refine cm (N3.o _) ?_;rintro y ax ⟨rfl,ag⟩;have am:=a.2.qT ag;clear a;refine f.o _ _ (l _ am) (fun a=>?_);clear f K;try simp only[Act.put,Z]
  refine ta 28 a ?_;refine rd 34 fun K hK=>?_;have f:=aA hK;clear hK;go_simp;refine cm (N4.o _) ?_;rintro y ay ⟨rfl,ah⟩;have an:=a.2.qT ah;clear a;refine f.o _ _ (l _ an) (fun a=>?_);clear f K;try simp only[Act.put,Z]
  iterate 2 refine tn 37 a ?_
  refine wpAnyH_done qk ?_ _;go_wp2;go_roundw
  ·exact⟨d+1,W,by go_num,by rw[aa.o],a.2⟩
  simp[intOf];omega
 have ar:¬(d:Int)<(b.length:Int):=qo;have aq:b.take d=b:=l8 qo;rw[aq];go_wp2;go_ret;exact⟨rfl,V⟩
