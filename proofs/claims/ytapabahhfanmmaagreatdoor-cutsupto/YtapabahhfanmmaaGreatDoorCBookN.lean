import Derived.Test.YtapabahhfanmmaaGreatDoorCRecL
import Derived.ChangeKeysEq
namespace Go.Proofs.YtapabahhfanmmaaGreatDoor
open Go.RowKit List Go.Proofs.Tryz
set_option maxHeartbeats 4000000
set_option maxRecDepth 100000
variable {V:Nm}
theorem vP{c:Nm}(f:¬V=c):∀a:List Fl,aU a V<a.length->aU (bU a c) V<(bU a c).length
 |[],b=>by grind
 |e::a,b=>by
  unfold aU at b
  by_cases d:e.name=V
  ·grind[bU,aU]
  rw[Z0 d]at b;have g:=vP f a qg;grind[bU,aU]
theorem UM(base b:Nat)(a:List Fl)(d c:Nm)(N:Fl)(e:World)(u:DK e base b a)(hl:a.length<=100000000)(ah:aU a d<a.length)(aq:¬d=c)(x:(bU a c)[aU (bU a c) d]?=some N):Cs 73 #[pt b,.agg (nZ (dI d c))] e λB f=>B=.returned (.bool true)/\DK f base b ((bU a c).set (aU (bU a c) d) {N with name:=c})/\FrB b e f:=by
 have ab:jE a d=(aU a d:Int):=by grind[jE]
 have hk:=(gs.1 x).1;have D:jE (bU a c) d=(aU (bU a c) d:Int):=by grind[jE]
 have ao:=u.lt;have ag:=u.hb;have aj:=yI a c;obtain⟨k0,ae⟩:=nm (aU a d);obtain⟨ak,R⟩:=nm (aU (bU a c) d);have L:=aA (λf Q=>by have:=pT base b a d f (u.qF Q) qo;rw[ab,<-ae]at this;exact this)
 have A:=aA (λf Q=>Gj base b a c f (u.qF Q) hl);obtain⟨I,Y⟩:=nm (bU a c);rw[<-Y]at A x D R aj hk |-;rw[<-R]at x D hk |-;have J:=aA (λf hd=>by have:=pT base b I d f hd qo;rw[D]at this;exact this)
 obtain⟨h,O⟩:∃h:ByteArray,h=⟨d.toArray⟩:=⟨_,rfl⟩;obtain⟨l,C⟩:∃h:ByteArray,h=⟨c.toArray⟩:=⟨_,rfl⟩;have an:(h.toList==l.toList)=false:=qa;have HM:=aA C;simp only[sv,<-O]at L J;simp only[sv,<-C]at A
 show Cs 73 #[pt b,.agg #[ii 3,sv d,sv c,.string ⟨#[]⟩]] e _
 simp only[sv,<-O,<-C];have W:=aA x;clear O C u ab D R ae Y x ah
 delta Cs;go_in
 obtain⟨m,aa⟩:=nm (e.alloc (.cells #[ii 3,.string h,.string l,.string ⟨#[]⟩] 113));have y:Fr [] e m:=by grind[Fr.alloc,r0]
 have H:m.heap[e.heap.size]?=some (.cells #[ii 3,.string h,.string l,.string ⟨#[]⟩] 113):=by grind[aC]
 go_wp2_with fail
 rw[<-aa];refine cm (L.o m y) ?_;rintro B w1 ⟨rfl,rfl⟩;have e0:m.cell? ⟨e.heap.size,0,none⟩=some (ii 3):=aB H;have e1:m.cell? ⟨e.heap.size,1,none⟩=some (.string h):=aB H;have e2:m.cell? ⟨e.heap.size,2,none⟩=some (.string l):=aB H;have ap:¬(k0:Int)<0:=qo;clear aa L
 go_wp2_with fail
 refine cm (A.o m y) ?_;rintro B r ⟨rfl,E,ac⟩;have X:Hi (∀n,OwB r b n->e.heap.size<=n/\n≠b):=λn w=>⟨Y3 y.size (E.own w).1,(E.own w).2.2⟩;have P:=E.wide (Y3 ag y.size);clear E;dsimp only;have ad:=ac.heap H qt;have g1:r.cell? ⟨e.heap.size,1,none⟩=some (.string h):=aB ad;have V:=J.o r P;have z:=aA P;clear A J e0 e1 e2 P
 go_wp2_with fail
 refine cm V ?_;rintro B w3 ⟨rfl,rfl⟩;obtain⟨q,lc,fb,fc,t,d1,M,d3,d4⟩:=z.o.at W.o;have ai:=aI M;have am:=aA (X.o q ⟨0,_,by omega,t,rfl⟩);have F:=z.o.lt;have p:Fr [] r r.drew:=(r0 _ _).drew;have g:(λf:World=>f.cell? ⟨b,0,none⟩=some (.slice (so q) I.length lc)/\f.cell? ⟨e.heap.size,2,none⟩=some (.string l)) r.drew:=⟨(p.cell b 0 F qs).trans t,by rw[aB (p.qH ad)];rfl⟩;have z0:=(z.o.qF p).fzL ((p.cell b 0 F qs).trans t) (ak*2);have c4:=(p.cell q _ ai qs).trans M;have hP:=(z.o.qF p).setL (j:=0) (f':={N with name:=c}) (v:=.string l) W.o ((p.cell b 0 F qs).trans t) qo (by rw[HM.o];rfl) rfl;have af:=aA hP;clear V hP d1 d3 d4 t M
 go_wp2_with fail
 refine OneFree.region (fun f:World=>f.cell? ⟨b,0,none⟩=some (.slice (so q) I.length lc)/\f.cell? ⟨e.heap.size,2,none⟩=some (.string l)) 9 qk ?_;refine(show OneFree prog Region.Mode.any _ _ _ 9 10 (Array.replicate 10 false) _ _ from ?_);refine tv 0 g ?_;refine tv 1 g ?_;refine tv 2 g ?_;refine tv 3 g ?_;refine tv 4 g ?_;refine tv 5 g ?_;refine tv 6 g ?_;refine o1 7 fun s k=>?_;have i:=aA k;clear k;go_simp;refine i.o _ _ ⟨fun _=>g,?_⟩;clear i s;try simp only[Act.put,Z]
 refine o1 8 fun s k=>?_;have i:=aA k;clear k;go_simp;refine i.o _ _ ⟨fun _=>g,?_⟩;clear i s;try simp only[Act.put,Z]
 refine o1 9 fun s k=>?_;have i:=aA k;clear k;obtain⟨k1,k2⟩:=g;go_simp;refine i.o _ _ ⟨fun h6=>absurd rfl h6,OneFree.done qk ?_ _⟩;clear i s;go_wp2;go_ret;refine⟨rfl,af.o.1,⟨[b,q],by grind[Hi.o],((y.qO.trans ac (fun n w=>.inl qg)).drew).setCell _ _ qs⟩,fun n w=>.inr (X.o n (w.fr (S:=[q]) (((r0 _ _).drew).setCell _ _ qs) F (by grind[Hi.o]))).1⟩
theorem UK(base b:Nat)(a:List Fl)(C V:Nm)(p:World)(Y:DK p base b a)(hl:a.length<=100000000)(ba:¬aU a C<a.length):Cs 73 #[pt b,.agg (nZ (bV C V))] p λd j=>d=.returned (.bool true)/\DK j base b (a++[⟨C,V,0⟩])/\FrB b p j:=by
 obtain⟨cc,bs,Zs,bz,cb⟩:=Z2 pX;obtain⟨cd,bt,bv,bw,bx⟩:=Z2 wH;have aw:jE a C = -1:=by unfold jE;rw[Z0 ba]
 have ac:=Y.lt;have bp:=Y.hb;have ah:=aA (λj Q=>by have:=pT base b a C j (Y.qF Q) qo;rw[aw]at this;exact this)
 obtain⟨⟨lv,fv,c0,c1,h3,h4,h5,h6,h7⟩,hz,_⟩:=Y;obtain⟨A,B,rfl⟩:=fD h3;obtain⟨t,u,rfl⟩:=fD h4;have cq:=hz 0;have cr:=hz 1;have H3:=(show Hi (p.ownsRow base 115 2 (.slice A a.length B) a.length (a.flatMap Fl.cells))from h3);have H4:=(show Hi (p.ownsRow base 3 1 (.slice t a.length u) a.length (iT a))from h4);have H5:=aA h5;have H6:=aA h6;have H7:=aA h7;have HZ:=aA hz;obtain⟨q,hB⟩:∃q:ByteArray,q=⟨C.toArray⟩:=⟨_,rfl⟩;obtain⟨r,hX⟩:∃r:ByteArray,r=⟨V.toArray⟩:=⟨_,rfl⟩;have bj:Hi (([⟨C,V,0⟩]:List Fl).flatMap Fl.cells=[.string q,.string r]):=by show _=_;rw[hB,hX];rfl
 simp only[sv,<-hB]at ah
 show Cs 73 #[pt b,.agg #[ii 1,sv C,.string ⟨#[]⟩,sv V]] p _
 simp only[sv,<-hB,<-hX];clear hB hX aw h3 h4 h5 h6 h7 ba hz
 delta Cs;go_in
 obtain⟨s,av,x,af⟩:=al p (.cells #[ii 1,.string q,.string ⟨#[]⟩,.string r] 113)
 go_wp2_with fail
 rw[<-av];refine cm (ah.o s x) ?_;rintro d w1 ⟨rfl,rfl⟩;have e0:s.cell? ⟨p.heap.size,0,none⟩=some (ii 1):=aB af;have W:∀X j,Fr X s j->b∉X->p.heap.size∉X->(λj:World=>j.cell? ⟨b,0,none⟩=some (.slice A a.length B)/\j.cell? ⟨p.heap.size,1,none⟩=some (.string q)/\j.cell? ⟨p.heap.size,3,none⟩=some (.string r)) j:=λX j Q n1 n2=>⟨(Q.cell b 0 (Z1 ac x.size) n1).trans ((x.cell b 0 ac qs).trans c0),by rw[aB (Q.heap af n2)];rfl,by rw[aB (Q.heap af n2)];rfl⟩;have f:=W [] s.drew ((r0 _ _).drew) qs qs;have cn:=aH af;clear av ah
 go_wp2_with fail
 refine OneFree.region (fun j:World=>j.cell? ⟨b,0,none⟩=some (.slice A a.length B)/\j.cell? ⟨p.heap.size,1,none⟩=some (.string q)/\j.cell? ⟨p.heap.size,3,none⟩=some (.string r)) 14 qk ?_;refine(show OneFree prog Region.Mode.any _ _ _ 14 15 (Array.replicate 15 false) _ _ from ?_);refine tv 0 f ?_;refine tv 1 f ?_;refine tv 2 f ?_;refine tv 3 f ?_;refine tv 4 f ?_;refine tv 5 f ?_;refine tv 6 f ?_;refine tv 7 f ?_;refine tv 8 f ?_;refine tv 9 f ?_;refine o1 10 fun v n=>?_;have m:=aA n;clear n;go_simp;obtain⟨M,ab⟩:=nm ((s.alloc (.cells #[.string q,.string r] 115)).drew);rw[<-ab];have ad:Fr [] s M:=by rw[ab];exact((r0 _ _).alloc _).drew
 have bb:∀(bf:Nat) (bg:Value),[Value.string q,.string r][bf]?=some bg->M.cell? ((⟨s.heap.size,0,none⟩:Addr).add bf)=some bg:=by rw[ab];exact dQ s [.string q,.string r] 115
 have co:=ad.size;have bc:=aF (aF H3.o x qs) ad qs;clear ab f;have f:=W [] M ad qs qs;refine m.o _ _ ⟨λ_=>f,?_⟩;clear m v;try simp only[Act.put,Z]
 refine o1 11 λv n=>?_;have m:=aA n;clear n;rw[Q7 (by rfl)];refine mD _ _ 51 rfl base 115 cc (.agg #[.string ⟨#[]⟩,.string ⟨#[]⟩]) 2 32 Qq6 bs Zs bz cb rfl (.slice A a.length B) a.length (a.flatMap Fl.cells) rfl bc ⟨s.heap.size,0,none⟩ 1 1 [.string q,.string r] rfl rfl bb qc qm qo qo qo ?_;intro v3 w3 ao bu ak;obtain⟨e,F,rfl⟩:=bK ao qo;have br:=bO ak;have E:=ad.qO.trans br (λz h=>.inl h);have ap:b∉(Value.ownBlock (.slice A a.length B)).toList:=λd=>H5.o (qu d);have ce:p.heap.size∉(Value.ownBlock (.slice A a.length B)).toList:=λd=>by have:=(H3.o.lt _ (qu d)).2;omega
 clear f;have f:=W _ w3 E ap ce;have ay:b<s.heap.size:=qo;have aq:=λi=>(E.frozen b i ay ap).trans ((x.frozen b i ac qs).trans (HZ.o i));have cf:=aq 0;have Zr:=(E.cell b 1 ay ap).trans ((x.cell b 1 ac qs).trans c1);have bl:=(show Hi (w3.ownsRow base 115 2 (.slice (so e) (a.length+1) F) (a.length+1) (a.flatMap Fl.cells++[.string q,.string r]))from ao);have ar:=aA ak;have au:=aF (aF H4.o x qs) E (λg l d=>H7.o g (qu d) l);refine m.o _ _ ⟨λ_=>f,?_⟩;clear m v bb bc ao bu ak;try simp only[Act.put,Z]
 refine o1 12 fun v n=>?_;have m:=aA n;clear n;go_simp;refine m.o _ _ ⟨fun _=>f,?_⟩;clear m v;try simp only[Act.put,Z]
 refine o1 13 fun v n=>?_;have m:=aA n;clear n;go_simp;refine m.o _ _ ⟨fun _=>f,?_⟩;clear m v;try simp only[Act.put,Z]
 refine o1 14 fun v n=>?_;have m:=aA n;clear n;obtain⟨k1,k2,k3⟩:=f;go_simp;refine m.o _ _ ⟨fun h6=>absurd rfl h6,OneFree.done qk ?_ _⟩;clear m v;obtain⟨k,H⟩:=nm (w3.setCell ⟨b,0,none⟩ (.slice (so e) (a.length+1) F));rw[<-H];have P:Fr [b] w3 k:=by rw[H];exact(r0 _ _).setCell _ _ qs
 have ax:k.cell? ⟨b,0,none⟩=some (.slice (so e) (a.length+1) F):=by rw[H];exact eA _ _ _ _ _ k1
 have bq:k.cell? ⟨b,1,none⟩=some (.slice t a.length u):=by rw[H,cE _ _ _ _ _ _ (.inr qo)];exact Zr
 have cg:∀i,k.frozen? ⟨b,i,none⟩=false:=λi=>by rw[H,show ∀(D:World) (R:Addr) (L:Value),(D.setCell R L).frozen? ⟨b,i,none⟩=D.frozen? ⟨b,i,none⟩from λD R L=>by simp];exact aq i
 have bm:e≠b:=λd=>by
  obtain⟨c,_⟩|⟨c,_⟩:=ar.o
  ·exact H5.o (by rw[<-c,d];rfl)
  have:e=M.heap.size:=by simpa[Value.ownBlock]using c
  omega
 have bd:=aF au P (λg l d=>by
  have:g=b:=by simpa using d
  subst this;exact H6.o l)
 have Zq:=(show Hi (k.ownsRow base 115 2 (.slice (so e) (a.length+1) F) (a.length+1) (a.flatMap Fl.cells++[.string q,.string r]))from aF bl.o P (λg l d=>by
  have h1:g=b:=by simpa using d
  have N:e=g:=by simpa[Value.ownBlock]using l
  omega))
 have bh:Hi ((k.alloc (.cells #[ii 0] 3)).ownsRow base 3 1 (.slice t a.length u) a.length (iT a)):=bd.alloc _;have bk:=aA (dQ k [ii 0] 3);have I:=aI ax;have cp:s.heap.size<=k.heap.size:=by have:=E.size;have:=P.size;omega
 have ag:b∉(Value.ownBlock (.slice t a.length u)).toList:=λd=>H6.o (qu d);have bi:Hi (∀y,Fr (Value.ownBlock (.slice t a.length u)).toList (k.alloc (.cells #[ii 0] 3)) y->y.cell? ⟨b,1,none⟩=some (.slice t a.length u)/\y.frozen? ⟨b,1,none⟩=false/\y.cell? ⟨b,0,none⟩=some (.slice (so e) (a.length+1) F)):=λy hf=>by have ha:Fr [] k (k.alloc (.cells #[ii 0] 3)):=(r0 _ _).alloc _;have an:=Z1 I ha.size;exact⟨(hf.cell b 1 an ag).trans ((ha.cell b 1 I qs).trans bq),(hf.frozen b 1 an ag).trans ((ha.frozen b 1 I qs).trans (cg 1)),(hf.cell b 0 an ag).trans ((ha.cell b 0 I qs).trans ax)⟩
 clear H W k1 k2 k3 cf Zr au bd aq
 go_wp2_with (
      at_builtin
      refine eU rfl _ _ 25 rfl base 3 cd (ii 0) 1 8 Z5 bt bv bw bx rfl (.slice t a.length u) a.length (iT a) rfl bh.o ⟨k.heap.size,0,none⟩ 1 1 [ii 0] rfl rfl bk.o qc qm qo qt qo ?_;intro v5 y be ck am;obtain⟨w,c5,rfl⟩:=bK be qo;obtain⟨q1,q2,q3⟩:=bi.o y (bO am))
 go_ret;have O:Fr [] k (k.alloc (.cells #[ii 0] 3)):=(r0 _ _).alloc _;have ae:=bO am;have aa:Fr [b] y (y.setCell ⟨b,1,none⟩ (.slice (so w) (a.length+1) c5)):=(r0 _ _).setCell _ _ qs;have az:=λg l=>(H4.o.lt g l).2;have ai:Value.ownBlock (.slice A a.length B)=some e\/e=M.heap.size:=by
  obtain⟨c,_⟩|⟨c,_⟩:=ar.o
  ·exact .inl (by rw[<-c];rfl)
  exact .inr (by simpa[Value.ownBlock]using c)
 have aj:Value.ownBlock (.slice t a.length u)=some w\/w=k.heap.size+1:=by
  obtain⟨c,_⟩|⟨c,_⟩:=am
  ·exact .inl (by rw[<-c];rfl)
  exact .inr (by simpa[Value.ownBlock]using c)
 have cj:=(Zq.o.lt e rfl).2;have ch:e≠w:=λd=>by
  obtain c|c:=aj
  ·obtain S|S:=ai
   ·exact H7.o e S (by rw[d];exact c)
   have:=az _ c;omega
  omega
 have bo:Value.ownBlock (.slice t a.length u)≠some e:=λc=>by
  obtain S|S:=ai
  ·exact H7.o e S c
  have:=az _ c;omega
 have bn:w≠b:=λd=>by
  obtain c|c:=aj
  ·exact H6.o (by rw[c,d])
  omega
 refine⟨rfl,⟨⟨.slice (so e) (a.length+1) F,.slice (so w) (a.length+1) c5,?_,eA _ _ _ _ _ q1,?_,?_,?_,?_,?_⟩,λi=>?_,?_⟩,?_⟩
 ·rw[cE _ _ _ _ _ _ (.inr qo)];exact q3
 ·rw[m8,Qz5,bj.o];refine aF (aF (aF Zq.o O qs) ae (λg l d=>?_)) aa (λg l d=>?_)
  ·have N:e=g:=by simpa[Value.ownBlock]using l
   exact bo (by rw[N];simpa using d)
  have N:e=g:=by simpa[Value.ownBlock]using l
  have h1:g=b:=by simpa using d
  omega
 ·rw[m8,Qx9];refine aF be aa (λg l d=>?_);have N:w=g:=by simpa[Value.ownBlock]using l
  have h1:g=b:=by simpa using d
  omega
 ·simp[Value.ownBlock];exact bm
 ·simp[Value.ownBlock];exact bn
 ·intro g l d;have N:e=g:=by simpa[Value.ownBlock]using l
  have h1:w=g:=by simpa[Value.ownBlock]using d
  omega
 ·rw[show ∀(D:World) (R:Addr) (L:Value),(D.setCell R L).frozen? ⟨b,i,none⟩=D.frozen? ⟨b,i,none⟩from λD R L=>by simp,ae.frozen b i (Z1 I O.size) ag,O.frozen b i I qs];grind
 ·exact Y3 bp (Y3 x.size (Y3 E.size (Y3 P.size (Y3 O.size (Y3 ae.size aa.size)))))
 refine⟨⟨b::((Value.ownBlock (.slice A a.length B)).toList++(Value.ownBlock (.slice t a.length u)).toList),λz h=>?_,?_⟩,λz h=>?_⟩
 ·obtain c|c:=Qq0.1 h
  ·exact .inl c
  obtain c|c:=m5.1 c
  ·exact .inr (.inl ⟨0,_,by omega,c0,by simpa using c⟩)
  exact .inr (.inl ⟨1,_,by omega,c1,by simpa using c⟩)
 ·exact((((x.qO.trans E (λz h=>.inl (by simp at h;simp[h]))).trans P (λz h=>.inl (by simp at h;simp[h]))).qT O).trans ae (λz h=>.inl (by simp at h;simp[h]))).trans aa (λz h=>.inl (by simp at h;simp[h]))
 obtain⟨i,L,hk,hc,J⟩:=h;have hk:i=0\/i=1:=qo;obtain rfl|rfl:=hk
 ·rw[cE _ _ _ _ _ _ (.inr qo),q3]at hc;cases hc;have J:e=z:=by simpa[Value.ownBlock]using J
  exact ai.imp (λc=>⟨0,_,by omega,c0,by rw[c,J]⟩) (λc=>by omega)
 rw[eA _ _ _ _ _ q1]at hc;cases hc;have J:w=z:=by simpa[Value.ownBlock]using J
 exact aj.imp (λc=>⟨1,_,by omega,c1,by rw[c,J]⟩) (λc=>by omega)
variable {Q:Fl} {J:List Fl} {a:Nat} {w:World}
def mZ(b:Stp):Prop:=((∃a d,b=bV a d)\/(∃a,b=bQ a)\/∃a c,b=dI a c)/\b.data.length<=41000
theorem LE(b:J[a]?=some Q):pC J a V=J.set a {Q with data:=Q.data++V}:=by grind[pC]
theorem NA(b:J[a]?=some Q):nY J a=J.set a {Q with safe:=Q.data.length}:=by grind[nY]
theorem JB(b:J[a]?=some Q):nK J a V=J.set a {Q with name:=V}:=by grind[nK]
theorem DS(base e:Nat)(a g:List Fl)(m:Stp)(j:World)(n:DK j base e a)(o:a.length<=100000000)(s:mZ m)(u:∀h∈a,h.data.length<=900000000000000)(l:dO a m=some g):Cs 73 #[pt e,.agg (nZ m)] j λq p=>q=.returned (.bool true)/\DK p base e g/\FrB e j p:=by
 obtain⟨⟨b,k,rfl⟩|⟨b,rfl⟩|⟨b,d,rfl⟩,t⟩:=s
 ·have f:some (if aU a b<a.length then pC a (aU a b) k else a++[⟨b,k,0⟩])=some g:=l;have v:k.length<=41000:=t
  by_cases c:aU a b<a.length
  ·rw[Q7 c]at f;cases f;obtain⟨h,i,_⟩:=nF b a c;rw[LE i];exact UL base e a b k h j n o i qg
  grind[UK]
 ·have f:(if aU a b<a.length then some (nY a (aU a b))else none)=some g:=l
  by_cases c:aU a b<a.length
  ·grind[nF,NA,UN]
  grind
 have f:(if aU a b<a.length/\b≠d then some (nK (bU a d) (aU (bU a d) b) d)else none)=some g:=l
 by_cases c:aU a b<a.length/\b≠d
 ·rw[Q7 c]at f;cases f;have r:=vP c.2 a c.1;obtain⟨h,i,_⟩:=nF b (bU a d) r;rw[JB i];exact UM base e a b d h j n o c.1 c.2 i
 grind
theorem UI{f:List Fl}{e:Stp}(d:dO J e=some f)(l:∀b∈J,b.data.length<=a):f.length<=J.length+1/\∀b∈f,b.data.length<=a+e.data.length:=by
 have q:∀(g:List Fl) (j:Nat) (b h:Fl),(∀c∈g,c.data.length<=a)->g[j]?=some b->h.data.length<=b.data.length+e.data.length->∀c∈g.set j h,c.data.length<=a+e.data.length:=qg;have p:∀k,∀c∈bU J k,c.data.length<=a:=λk c n=>l c (p9.1 n).1;unfold dO at d
 split at d
 ·grind[nF,LE]
 split at d
 ·grind[nF,NA]
 split at d
 ·split at d
  ·rename_i i
   cases d;have o:=vP i.2 J i.1;obtain⟨b,m,_⟩:=nF e.name _ o;rw[JB m];grind[yI]
  grind
 grind
theorem DT:∀(c:List Stp) (a b:List Fl) (e:Nat),cQ a c=some b->(∀d∈a,d.data.length<=e)->(∀g∈c,g.data.length<=41000)->b.length<=a.length+c.length/\∀d∈b,d.data.length<=e+41000*c.length
 |[],a,b,e,f,i,_=>by cases f;grind
 |g::c,a,b,e,f,i,l=>by
  change ((dO a g).bind λh=>cQ h c)=some b at f
  cases j:dO a g with
  |none=>grind
  |some h=>rw[j]at f;obtain⟨q,r⟩:=UI j i;have p:=l g qs;obtain⟨s,m⟩:=DT c h b (e+41000) f (λd k=>by grind) (λo n=>l o (by simp[n]));refine⟨by simp;omega,λd k=>?_⟩;have:=m d k;rw[Z7];omega
theorem DK.start(b:w.heap[a]?=some (.cells #[.slice none 0 0,.slice none 0 0] 154)):DK w w.heap.size a []:=
  ⟨⟨_,_,by rw[aB b];rfl,by rw[aB b];rfl,⟨rfl,qg⟩,⟨rfl,qg⟩,by simp[Value.ownBlock],by simp[Value.ownBlock],by simp[Value.ownBlock]⟩,λc=>aV b,Q9 _⟩
variable {L:List Nat} {P:List Pf} {b c:Nat} {u:Value} {x:World}
abbrev dT(lb xb pb yb gb qb:Nat):List Nat:=[lb,xb,pb,yb,gb,qb]
abbrev aZ(lb xb pb:Nat)(S bo:List Nat)(yb gb qb:Nat)(tv kv:Value):List Nat:=dT lb xb pb yb gb qb++(S++(bo++(tv.ownBlock.toList++kv.ownBlock.toList)))
abbrev Mk3.cells(a:Mk3):List Value:=[ii (a.1:Int),ii (a.2.1:Int),ii (a.2.2:Int)]
abbrev mA(t:T):Value:=sv (aQ t)
def FilesB(w:World)(n0:Nat)(bo:List Nat)(f:Value)(b:List Pf):Prop:=(∃h c,f=.slice h 0 c/\b=[])\/∃lb d c,f=.slice (some ⟨lb,d,none⟩) b.length c/\lb<w.heap.size/\(lb<n0\/lb∈bo)/\∀a e,b[a]?=some e->w.cell? ⟨lb,d+a*2,none⟩=some (sv e.1)/\w.cell? ⟨lb,d+a*2+1,none⟩=some (sv e.2)
theorem FilesB.v{w:World}{n0:Nat}{bo:List Nat}(a:FilesB w n0 bo u P):FilesV w u P:=by
 obtain a|⟨lb,f,e,b,c,_,d⟩:=a
 ·exact .inl a
 exact .inr qg
theorem FilesB.fr{Z:List Nat}{w w':World}{n0:Nat}{bo:List Nat}(a:FilesB w n0 bo u P)(f:Fr Z w w')(l:∀b∈bo,b∉Z)(n:∀j∈Z,n0<=j):FilesB w' n0 bo u P:=by
 obtain a|⟨lb,i,h,c,d,e,k⟩:=a
 ·exact .inl a
 have m:lb∉Z:=qg;exact .inr ⟨lb,i,h,c,Z1 d f.size,e,(by grind[Fr.cell])⟩
structure LX (n0:Nat) (w:World) (lb xb pb cap:Nat) (S bo:List Nat) (mv stv:Value) (g:Gf) (yb gb qb cap2:Nat) (fst:Int) (bv:Value) (bs:List Pf) (tv kv:Value) (sts:List T) (mk:List Mk3) (t:T) (log:List UInt8) (steps:List Stp):Prop where
 h:w.heap[lb]?=some (.cells #[pt xb,pt yb,bv,ii fst,tv,kv] 139)
 rs:RS w xb pb cap S t mv stv g steps
 y:YR w yb gb qb cap2 t log
 bf:FilesB w n0 bo bv bs
 tl:w.ownsRow 0 9 1 tv sts.length (sts.map mA)
 mr:w.ownsRow 0 194 3 kv mk.length (mk.flatMap Mk3.cells)
 te:0<sts.length
 me:0<mk.length
 nd:(dT lb xb pb yb gb qb).Nodup
 ns:∀b∈S,b∉dT lb xb pb yb gb qb
 nb:∀b∈bo,b∉dT lb xb pb yb gb qb/\b∉S/\tv.ownBlock≠some b/\kv.ownBlock≠some b
 nt:∀b,tv.ownBlock=some b->b∉dT lb xb pb yb gb qb/\b∉S/\kv.ownBlock≠some b
 nk:∀b,kv.ownBlock=some b->b∉dT lb xb pb yb gb qb/\b∉S
 bl:∀b∈bo,b<w.heap.size
 lo:∀b∈aZ lb xb pb S bo yb gb qb tv kv,n0<=b
structure HI (bs:List Pf) (g:Gf) (fst:Int) (sts:List T) (mk:List Mk3) (t:T) (log:List UInt8) (steps:List Stp) (N:Nat):Prop where
 ex:∃D safe v,cQ (eB bs) steps=some D/\DG D g/\g LOG=some (v,log)/\CI (eB bs) steps mk sts safe
 op:fG log t []
 ls:sts[sts.length-1]?=some t
 tu:∀(n:Nat) (u:T),sts[n]?=some u->u.turn=fst+n
 fm:∀s∈steps,mZ s/\s.name.length<=30/\s.to.length<=30
 s0:0<steps.length
 sl:sts.length<=N+1
 kl:mk.length<=N+1
 sz:∃a,a+steps.length<=3*N+3/\bs.length<=2000000+a/\∀p∈bs,p.1.length<=2000000/\p.2.length<=2000000+41000*a
theorem HI.more{bs:List Pf}{g:Gf}{fst:Int}{sts:List T}{mk:List Mk3}{t:T}{log:List UInt8}{steps:List Stp}(c:HI bs g fst sts mk t log steps a)(i:a<=b):HI bs g fst sts mk t log steps b:=by obtain⟨d,h,e,f⟩:=c.sz;exact{c with sl:=by have:=c.sl;omega,kl:=by have:=c.kl;omega,sz:=⟨d,by omega,e,f⟩}
structure LR (n0:Nat) (w:World) (r:Value) (L:List Nat) (N:Nat):Prop where
  ex:∃lb xb pb cap S bo mv stv g yb gb qb cap2 fst bv bs tv kv sts mk t log steps,r=.pointer (so lb)/\LX n0 w lb xb pb cap S bo mv stv g yb gb qb cap2 fst bv bs tv kv sts mk t log steps/\HI bs g fst sts mk t log steps N/\L=aZ lb xb pb S bo yb gb qb tv kv
section
variable {n0:Nat} {w w':World} {lb xb pb cap:Nat} {S bo Z:List Nat} {mv stv:Value} {g:Gf} {yb gb qb cap2:Nat} {fst:Int} {bv:Value} {bs:List Pf} {tv kv:Value} {sts:List T} {mk:List Mk3} {t:T} {log:List UInt8} {steps:List Stp}
theorem LX.fr(b:LX n0 w lb xb pb cap S bo mv stv g yb gb qb cap2 fst bv bs tv kv sts mk t log steps)(c:Fr Z w w')(f:∀a∈aZ lb xb pb S bo yb gb qb tv kv,a∉Z)(h:∀i∈Z,n0<=i):LX n0 w' lb xb pb cap S bo mv stv g yb gb qb cap2 fst bv bs tv kv sts mk t log steps:=by have e:∀a∈dT lb xb pb yb gb qb,a∉Z:=qg;exact{b with h:=c.heap b.h qg,rs:=b.rs.fr c qg (e pb qs) (λa d=>f a qg),y:=b.y.fr c (e yb qs) (e gb qs) (e qb qs),bf:=b.bf.fr c (λa d=>f a qg) h,tl:=gY b.tl c (λa d=>f a qg),mr:=gY b.mr c (λa d=>f a qg),bl:=λa d=>Z1 (b.bl a d) c.size}
theorem LX.qF(a:LX n0 w lb xb pb cap S bo mv stv g yb gb qb cap2 fst bv bs tv kv sts mk t log steps)(b:Fr [] w w'):LX n0 w' lb xb pb cap S bo mv stv g yb gb qb cap2 fst bv bs tv kv sts mk t log steps:=a.fr b qs qs
theorem LX.lt(b:LX n0 w lb xb pb cap S bo mv stv g yb gb qb cap2 fst bv bs tv kv sts mk t log steps):∀c∈aZ lb xb pb S bo yb gb qb tv kv,c<w.heap.size:=λc d=>by
 obtain a|a:=m5.1 d
 ·simp only[mem_cons,not_mem_nil,or_false]at a;obtain rfl|rfl|rfl|rfl|rfl|rfl:=a
  ·exact aH b.h
  ·exact b.rs.lt
  ·exact b.rs.row.lt
  ·exact aH b.y.h
  ·exact b.y.rg.lt
  exact b.y.rg.row.lt
 obtain a|a:=m5.1 a
 ·exact b.rs.sve.lt c a
 obtain a|a:=m5.1 a
 ·exact b.bl c a
 obtain a|a:=m5.1 a
 ·exact(b.tl.lt c qg).2
 exact(b.mr.lt c qg).2
end
theorem LR.lt{n0:Nat}{w:World}(c:LR n0 w u L a):∀b∈L,b<w.heap.size:=by obtain⟨lb,xb,pb,cap,S,bo,mv,stv,g,yb,gb,qb,cap2,fst,bv,bs,tv,kv,sts,mk,t,log,steps,_,d,_,rfl⟩:=c.ex;exact d.lt
theorem LR.lo{n0:Nat}{w:World}(c:LR n0 w u L a):∀b∈L,n0<=b:=by obtain⟨lb,xb,pb,cap,S,bo,mv,stv,g,yb,gb,qb,cap2,fst,bv,bs,tv,kv,sts,mk,t,log,steps,_,d,_,rfl⟩:=c.ex;exact d.lo
theorem LR.fr{n0:Nat}{Z:List Nat}{w w':World}(c:LR n0 w u L a)(f:Fr Z w w')(h:∀b∈L,b∉Z)(j:∀k∈Z,n0<=k):LR n0 w' u L a:=by obtain⟨⟨lb,xb,pb,cap,S,bo,mv,stv,g,yb,gb,qb,cap2,fst,bv,bs,tv,kv,sts,mk,t,log,steps,d,i,e,rfl⟩⟩:=c;exact⟨⟨lb,xb,pb,cap,S,bo,mv,stv,g,yb,gb,qb,cap2,fst,bv,bs,tv,kv,sts,mk,t,log,steps,d,i.fr f h j,e,rfl⟩⟩
theorem LR.qF{n0:Nat}{w w':World}(b:LR n0 w u L a)(c:Fr [] w w'):LR n0 w' u L a:=b.fr c qs qs
theorem LR.more{n0:Nat}{w:World}(c:LR n0 w u L a)(f:a<=b):LR n0 w u L b:=by obtain⟨⟨lb,xb,pb,cap,S,bo,mv,stv,g,yb,gb,qb,cap2,fst,bv,bs,tv,kv,sts,mk,t,log,steps,d,h,e,rfl⟩⟩:=c;exact⟨⟨lb,xb,pb,cap,S,bo,mv,stv,g,yb,gb,qb,cap2,fst,bv,bs,tv,kv,sts,mk,t,log,steps,d,h,e.more f,rfl⟩⟩
structure RR (n0:Nat) (w:World) (bb:Nat) (L K:List Nat) (N:Nat) (r':Value) (w':World):Prop where
 ex:∃L' K',LR n0 w' r' L' (N+1)/\Bk w' bb K' (2*(N+1))/\(∀x∈L',x∈L\/w.heap.size<=x)/\(∀x∈K',x∈K\/w.heap.size<=x)/\(∀x∈L',x≠bb/\x∉K')
 fr:Fr (bb::(L++K)) w w'
structure QI (w0:World) (bb N:Nat) (g h:Value) (wr:World):Prop where
 ex:∃L1 L2 K,LR w0.heap.size wr g L1 N/\LR w0.heap.size wr h L2 N/\Bk wr bb K (2*N)/\(∀x∈L1,x∉L2)/\(∀x∈L1,x≠bb/\x∉K)/\(∀x∈L2,x≠bb/\x∉K)/\(∀x∈K,w0.heap.size<=x)/\w0.heap.size<=bb
 fr:Fr [] w0 wr
theorem QI.swap{g:Value}{wr:World}(c:QI x a b g u wr):QI x a b u g wr:=by obtain⟨⟨e,f,K,h,i,j,k,l,m,n,o⟩,d⟩:=c;exact⟨qg,d⟩
theorem QI.more{g:Value}{wr:World}(e:QI x a b g u wr)(d:b<=c):QI x a c g u wr:=by obtain⟨⟨f,h,K,i,j,k,m⟩,l⟩:=e;exact⟨⟨f,h,K,i.more d,j.more d,k.more qo,m⟩,l⟩
theorem QI.qT{g:Value}{wr w':World}(d:QI x a b g u wr)(c:Fr [] wr w'):QI x a b g u w':=by obtain⟨⟨e,f,K,h,i,j,l⟩,k⟩:=d;exact⟨⟨e,f,K,h.qF c,i.qF c,j.qF c,l⟩,k.qT c⟩
theorem QI.goes{g:Value}{wr:World}(o:QI x a b g u wr):∃f K,LR x.heap.size wr g f b/\Bk wr a K (2*b)/\(∀c∈f,c≠a/\c∉K)/\(∀c∈a::K,x.heap.size<=c)/\∀i w',RR x.heap.size wr a f K b i w'->QI x a (b+1) i u w':=by
 obtain⟨⟨h,j,K,r,k,s,v,y,l,O,F⟩,A⟩:=id o;refine⟨h,K,r,s,y,qg,λi w' D=>?_⟩;obtain⟨⟨q,p,H,I,J,L,M⟩,B⟩:=D;have N:=A.size;have m:=k.lt;have z:∀c∈j,c∉a::(h++K):=qg;have E:∀c∈a::(h++K),x.heap.size<=c:=(by grind[LR.lo]);refine⟨⟨q,j,p,H,(k.fr B z E).more qo,I,λc d n=>?_,M,λc d=>⟨(l c d).1,λC=>?_⟩,λc d=>?_,F⟩,?_⟩
 ·obtain e|e:=J c d
  ·exact v c e n
  have:=m c n;omega
 ·obtain e|e:=L c C
  ·exact(l c d).2 e
  have:=m c d;omega
 ·grind
 grind[Fr.trans]
theorem QI.book{g:Value}{wr:World}(c:QI x a b g u wr):∃K,Bk wr a K (2*b):=by obtain⟨⟨d,e,K,f,h,i,_⟩,_⟩:=c;grind
variable {W:List T} {r:Value}
theorem GB:(prog.info? 194).map (λa=>(a.zero,a.size,a.bytes))=some (some (.agg #[ii 0,ii 0,ii 0]),3,24):=qk
theorem GE:(prog.info? 9).map (λa=>(a.zero,a.size,a.bytes))=some (some (.string ⟨#[]⟩),1,16):=qk
variable {n0:Nat} {lb xb pb cap:Nat} {S bo:List Nat} {mv stv:Value} {g:Gf} {yb gb qb cap2:Nat} {fst:Int} {bv:Value} {bs:List Pf} {tv kv:Value} {sts:List T} {mk:List Mk3} {t:T} {log:List UInt8} {steps:List Stp}
theorem LX.put(c:LX n0 w lb xb pb cap S bo mv stv g yb gb qb cap2 fst bv bs tv kv sts mk t log steps){j:List Mk3}(n:x.heap[lb]?=some (.cells #[pt xb,pt yb,bv,ii fst,u,r] 139))(h:Fr (lb::(tv.ownBlock.toList++kv.ownBlock.toList)) w x)(H:x.ownsRow 0 9 1 u W.length (W.map mA))(z:x.ownsRow 0 194 3 r j.length (j.flatMap Mk3.cells))(F:0<W.length)(v:0<j.length)(N:∀a,u.ownBlock=some a->tv.ownBlock=some a\/w.heap.size<=a)(I:∀a,r.ownBlock=some a->kv.ownBlock=some a\/w.heap.size<=a)(q:∀a,u.ownBlock=some a->r.ownBlock≠some a):LX n0 x lb xb pb cap S bo mv stv g yb gb qb cap2 fst bv bs u r W j t log steps:=by
 have p:=c.lt;have o:lb∈dT lb xb pb yb gb qb:=qs;have l:∀a,a∈lb::(tv.ownBlock.toList++kv.ownBlock.toList)->a=lb\/tv.ownBlock=some a\/kv.ownBlock=some a:=λa d=>by grind
 have A:=c.nd;simp only[dT,nodup_cons,mem_cons,not_mem_nil,or_false,not_or,nodup_nil,and_true,not_false_eq_true]at A;have E:∀a,a≠lb->a∈dT lb xb pb yb gb qb\/a∈S\/a∈bo->a∉lb::(tv.ownBlock.toList++kv.ownBlock.toList):=λa L d f=>by
  obtain b|b|b:=l a f
  ·omega
  ·grind[LX.nt,LX.nb]
  grind[LX.nk,LX.nb]
 have M:=Nat.le_of_lt (Nat.lt_of_le_of_lt (c.lo lb qs) (p lb qs));have B:∀a,u.ownBlock=some a\/r.ownBlock=some a->a∉dT lb xb pb yb gb qb/\a∉S/\a∉bo/\n0<=a:=λa d=>by
  have d:tv.ownBlock=some a\/kv.ownBlock=some a\/w.heap.size<=a:=by grind
  obtain b|b|b:=d
  ·exact⟨(c.nt a b).1,(c.nt a b).2.1,(by grind[LX.nb]),c.lo a (by simp[b])⟩
  ·exact⟨(c.nk a b).1,(c.nk a b).2,(by grind[LX.nb]),c.lo a (by simp[b])⟩
  have J:∀m∈aZ lb xb pb S bo yb gb qb tv kv,m≠a:=λm q f=>by grind
  grind
 have e:∀a∈dT lb xb pb yb gb qb,a≠lb->a∉lb::(tv.ownBlock.toList++kv.ownBlock.toList):=qg;have D:∀a∈S,a∉lb::(tv.ownBlock.toList++kv.ownBlock.toList):=(by grind[LX.ns]);have C:=λa d=>E a (λf=>(c.nb a d).1 (f ▸ o)) qg;refine{c with h:=n,rs:=c.rs.fr h (e xb qs qo) (e pb qs qo) D,y:=c.y.fr h (e yb qs qo) (e gb qs qo) (e qb qs qo),bf:=c.bf.fr h C (λk s=>?_),tl:=H,mr:=z,te:=F,me:=v,nb:=λa d=>⟨(c.nb a d).1,(c.nb a d).2.1,qg,qg⟩,nt:=qg,nk:=qg,bl:=λa d=>Z1 (c.bl a d) h.size,lo:=λa d=>?_}
 ·obtain b|b|b:=l k s
  ·exact b ▸ c.lo lb qs
  ·exact c.lo k (by simp[b])
  exact c.lo k (by simp[b])
 obtain b|b:=m5.1 d
 ·exact c.lo a qg
 obtain b|b:=m5.1 b
 ·exact c.lo a (by simp[b])
 obtain b|b:=m5.1 b
 ·exact c.lo a (by simp[b])
 exact(B a qg).2.2.2
theorem LX.putK(b:LX n0 w lb xb pb cap S bo mv stv g yb gb qb cap2 fst bv bs tv kv sts mk t log steps){mk':List Mk3}(j:Fr kv.ownBlock.toList w x)(o:x.ownsRow 0 194 3 u mk'.length (mk'.flatMap Mk3.cells))(n:0<mk'.length)(h:∀g,u.ownBlock=some g->kv.ownBlock=some g\/w.heap.size<=g):LX n0 (x.setCell ⟨lb,5,none⟩ u) lb xb pb cap S bo mv stv g yb gb qb cap2 fst bv bs tv u sts mk' t log steps/\Fr (lb::kv.ownBlock.toList) w (x.setCell ⟨lb,5,none⟩ u):=by
 have k:=b.lt;have i:lb∈dT lb xb pb yb gb qb:=qs;have l:Fr [lb] x (x.setCell ⟨lb,5,none⟩ u):=(r0 _ _).setCell _ _ qs;have f:Fr (lb::kv.ownBlock.toList) w (x.setCell ⟨lb,5,none⟩ u):=(j.mono qg).trans l (λa d=>.inl qg);have m:=j.heap b.h (λe=>(b.nk lb qg).1 i);have p:∀a,a∈lb::kv.ownBlock.toList->a=lb\/kv.ownBlock=some a:=λa d=>by grind
 refine⟨b.put (by rw[iE m];rfl) (f.mono qg) (gY b.tl f (λa d e=>?_)) (gY o l (λa d e=>?_)) b.te n qg h (λa d e=>?_),f⟩
 ·obtain c|c:=p a e
  ·exact(b.nt a d).1 (c ▸ i)
  exact(b.nt a d).2.2 c
 ·have:a=lb:=qg;subst this;obtain c|c:=h a d
  ·exact(b.nk a c).1 i
  have:=k a qs;omega
 obtain c|c:=h a e
 ·exact(b.nt a d).2.2 c
 have:=k a qg;omega
theorem LX.putT(b:LX n0 w lb xb pb cap S bo mv stv g yb gb qb cap2 fst bv bs tv kv sts mk t log steps){tv':Value}{sts':List T}(j:Fr tv.ownBlock.toList w x)(o:x.ownsRow 0 9 1 tv' sts'.length (sts'.map mA))(n:0<sts'.length)(h:∀g,tv'.ownBlock=some g->tv.ownBlock=some g\/w.heap.size<=g):LX n0 (x.setCell ⟨lb,4,none⟩ tv') lb xb pb cap S bo mv stv g yb gb qb cap2 fst bv bs tv' kv sts' mk t log steps/\Fr (lb::tv.ownBlock.toList) w (x.setCell ⟨lb,4,none⟩ tv'):=by
 have k:=b.lt;have i:lb∈dT lb xb pb yb gb qb:=qs;have l:Fr [lb] x (x.setCell ⟨lb,4,none⟩ tv'):=(r0 _ _).setCell _ _ qs;have f:Fr (lb::tv.ownBlock.toList) w (x.setCell ⟨lb,4,none⟩ tv'):=(j.mono qg).trans l (λa d=>.inl qg);have m:=j.heap b.h (λe=>(b.nt lb qg).1 i);have p:∀a,a∈lb::tv.ownBlock.toList->a=lb\/tv.ownBlock=some a:=λa d=>by grind
 refine⟨b.put (by rw[iE m];rfl) (f.mono qg) (gY o l (λa d e=>?_)) (gY b.mr f (λa d e=>?_)) n b.me h qg (λa d e=>?_),f⟩
 ·have:a=lb:=qg;subst this;obtain c|c:=h a d
  ·exact(b.nt a c).1 i
  have:=k a qs;omega
 ·obtain c|c:=p a e
  ·exact(b.nk a d).1 (c ▸ i)
  exact(b.nt a c).2.2 d
 obtain c|c:=h a d
 ·exact(b.nt a c).2.2 e
 have:=k a (by simp[e]);omega
theorem qF:∀(c:List Mk3) (b a:Nat) (i:Mk3),c[b]?=some i->a<3->(c.flatMap Mk3.cells)[b*3+a]?=i.cells[a]?
 |[],b,a,d,f,_=>by grind
 |e::c,0,a,d,f,h=>by grind
 |e::c,b+1,a,d,f,h=>by rw[l9,J8 qg];have:=qF c b a d qg h;rw[show(b+1)*3+a-e.cells.length=b*3+a by grind];omega
theorem MZ(b:World)(c:LX n0 b lb xb pb cap S bo mv stv g yb gb qb cap2 fst bv bs tv kv sts mk t log steps)(m:mk.length<=1000000000){j:List Mk3}{l:Mk3}(x:mk=j++[l]):Cs 106 #[pt lb] b (R0 b (ii (l.2.2:Int))):=by
 have o:=c.mr;obtain⟨e,p,rfl⟩:=bK o c.me;obtain⟨f,n⟩:=nm mk.length;rw[<-n]at m;have y:b.cell? ⟨lb,5,none⟩=some (.slice (so e) f p):=by rw[n];exact aB c.h
 have w:f=j.length+1:=qg;have q:=qF mk j.length 2 l qg qo;have cm:=o.cells (g:=e) rfl _ _ q;rw[i7,Z9]at cm;obtain⟨k,r⟩:∃k:Int,k=(l.2.2:Int):=⟨_,rfl⟩;rw[<-r]at cm |-;obtain⟨h,s⟩:=nm j.length;rw[<-s]at cm;have A:(h:Int)<(f:Int):=qo;have C:(f:Int)-1=(h:Int):=qo;have B:=m;clear c o q s r w n x m
 delta Cs;go_in
 have u:(λa:World=>(ca a lb 5 (.slice (so e) f p)/\ca a e (h*3+2) (ii k))/\Fr [] b a) b.drew:=(by grind[Fr.cell,r0,Fr.drew,aI])
 go_wp2_with fail
 refine wp_region_held_drew (S:=(λa:World=>(ca a lb 5 (.slice (so e) f p)/\ca a e (h*3+2) (ii k))/\Fr [] b a)) qk u (λd=>?_);refine(show wpAnyH prog Region.Mode.any _ _ _ 14 (Array.replicate 14 false) _ _ from ?_)
 iterate 9 refine tn 14 d ?_
 refine wpAnyH_take (i:=9) (v:=ii (h:Int)) (by simp only[G];rfl) qk qk qk (by exact λ_ _ _ c=>c) (.inl ⟨by rfl,?_⟩) d ?_
 ·intro a z;go_simp;grind[IntKind.wrap_i64];try simp only[Act.put,Z]
 refine ta 10 d ?_;refine ta 11 d ?_;refine ta 12 d ?_;refine ta 13 d ?_;refine wpAnyH_done qk ?_ _;go_wp2;go_ret;simp_all
theorem IP(E:Value)(n:List Pf)(r:World)(hv:FilesV r E n)(dr:n.length<=100000000):Cs 72 #[E] r λe h=>∃a,e=.returned (pt a)/\DK h r.heap.size a (eB n)/\r.heap.size<=a/\Fr [] r h:=by
 obtain⟨dg,ct,dd,de,df⟩:=Z2 pX;obtain⟨dh,cu,cz,da,dc⟩:=Z2 wH;obtain⟨va,vc,rfl⟩:∃cf cg,E=.slice cf n.length cg:=by
  obtain⟨ao,x,rfl,rfl⟩|⟨lb,lo,x,rfl,_⟩:=hv
  ·exact⟨_,_,rfl⟩
  exact⟨_,_,rfl⟩
 have HV:=(show Hi (FilesV r (.slice va n.length vc) n)from hv);clear hv
 delta Cs;go_in
 go_wp2_with fail
 obtain⟨W0,ac⟩:=nm (r.alloc (.cells #[.slice none 0 0,.slice none 0 0] 154));rw[<-ac];have ak:Hi (DK W0 r.heap.size r.heap.size (eB (n.take 0))/\Fr [] r W0):=by
  have bm:Fr [] r W0:=by rw[ac];exact(r0 _ _).alloc _
  exact⟨(DK.start (by rw[ac];exact aC _ _)).wide bm.size,bm⟩
 clear ac;obtain⟨a,af⟩:=nm r.heap.size;rw[<-af]at ak |-;have bl:=Nat.le_of_eq af.symm;have dp:=Nat.le_of_eq af;clear af
 go_loopw [4] (fun aw wr=>∃d:Nat,d<=n.length/\aw=ii d/\DK wr a a (eB (n.take d))/\Fr [] r wr) (fun aw _=>n.length-(intOf aw).toNat)
 ·exact⟨0,Z3 _,rfl,ak.o⟩
 clear ak;obtain⟨d,hk,rfl,H,N⟩:=hrel
 by_cases ai:d<n.length
 ·have cy:(d:Int)<(n.length:Int):=qo;obtain⟨j,hp⟩:∃j,n[d]?=some j:=⟨_,Y2 ai⟩;obtain⟨i,u,rfl,bn,ap,aq⟩:∃i u,va=some ⟨i,u,none⟩/\i<r.heap.size/\r.cell? ⟨i,u+d*2,none⟩=some (sv j.1)/\r.cell? ⟨i,u+d*2+1,none⟩=some (sv j.2):=by
   obtain⟨_,_,_,e⟩|⟨lb,lo,x,e,D,V⟩:=HV.o
   ·rw[e]at ai;cases ai
   cases e;exact⟨lb,lo,rfl,D,V d j hp⟩
  obtain⟨b,hE⟩:=nm (eB (n.take d));have Zt:b.length<=100000000:=by rw[hE];simp;omega
  have bz:Hi (eB (n.take (d+1))=b++[⟨j.1,j.2,j.2.length⟩]):=by
   show _=_
   obtain⟨S,D⟩:=gs.1 hp;rw[Qj7 S,hE,eB,eB,Qx9,D];rfl
  rw[<-hE]at H;have Zr:=H.lt;have co:=H.hb;obtain⟨⟨lv,fv,c0,c1,V,h4,h5,M,h7⟩,hz,_⟩:=H;obtain⟨J,x,rfl⟩:=fD V;obtain⟨B,C,rfl⟩:=fD h4;have H3:=(show Hi (wr.ownsRow a 115 2 (.slice J b.length x) b.length (b.flatMap Fl.cells))from V);have H4:=(show Hi (wr.ownsRow a 3 1 (.slice B b.length C) b.length (iT b))from h4);have H5:=aA h5;have H6:=aA M;have H7:=aA h7;have HZ:=aA hz;obtain⟨y,hA⟩:∃bv:ByteArray,bv=⟨j.1.toArray⟩:=⟨_,rfl⟩;obtain⟨k,hX⟩:∃k:ByteArray,k=⟨j.2.toArray⟩:=⟨_,rfl⟩;have bb:Hi (([⟨j.1,j.2,j.2.length⟩]:List Fl).flatMap Fl.cells=[.string y,.string k]/\([⟨j.1,j.2,j.2.length⟩]:List Fl).map (λch=>ii (ch.safe:Int))=[ii (k.size:Int)]):=by
   show _/\_
   rw[hA,hX];exact⟨rfl,rfl⟩
  rw[sv,<-hA]at ap;rw[sv,<-hX]at aq;have dq:i<a:=qo;have bo:i<wr.heap.size:=by have:=N.size;omega
  have HS:∀z h,Fr z wr h->a∉z->i∉z->(λh:World=>ca h a 0 (.slice J b.length x)/\ca h i (u+d*2) (.string y)/\ca h i (u+d*2+1) (.string k)) h:=λz h Q n1 n2=>⟨(Q.cell a 0 Zr n1).trans c0,(Q.cell i _ bo n2).trans ((N.cell i _ bn qs).trans ap),(Q.cell i _ bo n2).trans ((N.cell i _ bn qs).trans aq)⟩;have c:=HS [] wr.drew ((r0 _ _).drew) qs qs;have C1:=aA c1;have HF:=aA N;clear hA hX V h4 h5 M h7 hz ap aq hp hE c0 c1 N
  go_wp2_with fail
  refine OneFree.region (fun h:World=>h.cell? ⟨a,0,none⟩=some (.slice J b.length x)/\h.cell? ⟨i,u+d*2,none⟩=some (.string y)/\h.cell? ⟨i,u+d*2+1,none⟩=some (.string k)) 13 qk ?_;refine(show OneFree prog Region.Mode.any _ _ _ 13 14 (Array.replicate 14 false) _ _ from ?_);refine tv 0 c ?_;refine tv 1 c ?_;refine tv 2 c ?_;refine tv 3 c ?_;refine tv 4 c ?_;refine tv 5 c ?_;refine tv 6 c ?_;refine tv 7 c ?_;refine tv 8 c ?_;refine o1 9 fun m g=>?_;have f:=aA g;clear g;go_simp;obtain⟨L,ad⟩:=nm ((wr.alloc (.cells #[.string y,.string k] 115)).drew);rw[<-ad];have ag:Fr [] wr L:=by rw[ad];exact((r0 _ _).alloc _).drew
  have X:∀(Y:Nat) (aa:Value),[Value.string y,.string k][Y]?=some aa->L.cell? ((⟨wr.heap.size,0,none⟩:Addr).add Y)=some aa:=by rw[ad];exact dQ wr [.string y,.string k] 115
  have ds:=ag.size;have br:=aF H3.o ag qs;clear ad c;have c:=HS [] L ag qs qs;refine f.o _ _ ⟨λ_=>c,?_⟩;clear f m;try simp only[Act.put,Z]
  refine o1 10 λm g=>?_;have f:=aA g;clear g;rw[Q7 (by rfl)];refine mD _ _ 51 rfl a 115 dg (.agg #[.string ⟨#[]⟩,.string ⟨#[]⟩]) 2 32 Qq6 ct dd de df rfl (.slice J b.length x) b.length (b.flatMap Fl.cells) rfl br ⟨wr.heap.size,0,none⟩ 1 1 [.string y,.string k] rfl rfl X qc qm qo qo qo ?_;intro v3 w3 au cw am;obtain⟨q,R,rfl⟩:=bK au qo;have bp:=bO am;have O:=ag.qO.trans bp (λF v=>.inl v);have ax:a∉(Value.ownBlock (.slice J b.length x)).toList:=λe=>H5.o (qu e);have di:i∉(Value.ownBlock (.slice J b.length x)).toList:=λe=>by have:=(H3.o.lt _ (qu e)).1;omega
  clear c;have c:=HS _ w3 O ax di;have az:=λd=>(O.frozen a d Zr ax).trans (HZ.o d);have dk:=az 0;have be:=(O.cell a 1 Zr ax).trans C1.o;have cd:=(show Hi (w3.ownsRow a 115 2 (.slice (so q) (b.length+1) R) (b.length+1) (b.flatMap Fl.cells++[.string y,.string k]))from au);have ba:=aA am;have bg:=aF H4.o O (λp s e=>H7.o p (qu e) s);refine f.o _ _ ⟨λ_=>c,?_⟩;clear f m X br au cw am;try simp only[Act.put,Z]
  refine o1 11 fun m g=>?_;have f:=aA g;clear g;go_simp;refine f.o _ _ ⟨fun _=>c,?_⟩;clear f m;try simp only[Act.put,Z]
  refine o1 12 fun m g=>?_;have f:=aA g;clear g;go_simp;refine f.o _ _ ⟨fun _=>c,?_⟩;clear f m;try simp only[Act.put,Z]
  refine o1 13 fun m g=>?_;have f:=aA g;clear g;obtain⟨k1,k2,k3⟩:=c;go_simp;refine f.o _ _ ⟨fun M=>absurd rfl M,OneFree.done qk ?_ _⟩;clear f m;obtain⟨t,I⟩:=nm (w3.setCell ⟨a,0,none⟩ (.slice (so q) (b.length+1) R));rw[<-I];have W:Fr [a] w3 t:=by rw[I];exact(r0 _ _).setCell _ _ qs
  have bk:t.cell? ⟨a,0,none⟩=some (.slice (so q) (b.length+1) R):=by rw[I];exact eA _ _ _ _ _ k1
  have cp:t.cell? ⟨a,1,none⟩=some (.slice B b.length C):=by rw[I,cE _ _ _ _ _ _ (.inr qo)];exact be
  have ar:t.cell? ⟨i,u+d*2+1,none⟩=some (.string k):=by rw[I,cE _ _ _ _ _ _ (.inl qo)];exact k3
  have dl:∀d,t.frozen? ⟨a,d,none⟩=false:=λd=>by rw[I,show ∀(A:World) (j:Addr) (E:Value),(A.setCell j E).frozen? ⟨a,d,none⟩=A.frozen? ⟨a,d,none⟩from λA j E=>by simp];exact az d
  have cj:q≠a:=λe=>by
   obtain⟨l,_⟩|⟨l,_⟩:=ba.o
   ·exact H5.o (by rw[<-l,e];rfl)
   have:q=L.heap.size:=by simpa[Value.ownBlock]using l
   omega
  have bw:=aA (aF bg W (λp s e=>by
   have:p=a:=by simpa using e
   subst this;exact H6.o s))
  have bc:=(show Hi (t.ownsRow a 115 2 (.slice (so q) (b.length+1) R) (b.length+1) (b.flatMap Fl.cells++[.string y,.string k]))from aF cd.o W (λp s e=>by
   have S:p=a:=by simpa using e
   have D:q=p:=by simpa[Value.ownBlock]using s
   omega))
  have Zq:=aI bk;have cq:=aI ar;have dt:L.heap.size<=t.heap.size:=by have:=bp.size;have:=W.size;omega
  have cb:=aA ((HF.o.trans O (λF v=>.inr (by have:=(H3.o.lt F (qu v)).1;omega))).trans W (λF v=>.inr (by simp at v;omega)));have ay:a∉(Value.ownBlock (.slice B b.length C)).toList:=λe=>H6.o (qu e);have dj:i∉(Value.ownBlock (.slice B b.length C)).toList:=λe=>by have:=(H4.o.lt _ (qu e)).1;omega
  have aj:∀z h,Fr z t h->a∉z->i∉z->(λh:World=>ca h a 1 (.slice B b.length C)/\ca h i (u+d*2+1) (.string k)) h:=λz h Q n1 n2=>⟨(Q.cell a 1 Zq n1).trans cp,(Q.cell i _ cq n2).trans ar⟩;have c:=aj [] t.drew ((r0 _ _).drew) qs qs;clear I HS k1 k2 k3 dk be bg az ar
  go_wp2_with fail
  refine OneFree.region (fun h:World=>h.cell? ⟨a,1,none⟩=some (.slice B b.length C)/\h.cell? ⟨i,u+d*2+1,none⟩=some (.string k)) 15 qk ?_;refine(show OneFree prog Region.Mode.any _ _ _ 15 16 (Array.replicate 16 false) _ _ from ?_);refine tv 0 c ?_;refine tv 1 c ?_;refine tv 2 c ?_;refine tv 3 c ?_;refine tv 4 c ?_;refine tv 5 c ?_;refine tv 6 c ?_;refine tv 7 c ?_;refine tv 8 c ?_;refine tv 9 c ?_;refine tv 10 c ?_;refine o1 11 fun m g=>?_;have f:=aA g;clear g;go_simp;obtain⟨W5,ae⟩:∃A,A=(t.alloc (.cells #[ii (k.size:Int)] 3)).drew:=⟨_,rfl⟩;rw[<-ae];have ah:Fr [] t W5:=by rw[ae];exact((r0 _ _).alloc _).drew
  have X:∀(Y:Nat) (aa:Value),[ii (k.size:Int)][Y]?=some aa->W5.cell? ((⟨t.heap.size,0,none⟩:Addr).add Y)=some aa:=by rw[ae];exact dQ t [ii (k.size:Int)] 3
  have du:=ah.size;have bs:=aF bw.o ah qs;clear ae c;have c:=aj [] W5 ah qs qs;refine f.o _ _ ⟨λ_=>c,?_⟩;clear f m;try simp only[Act.put,Z]
  refine o1 12 λm g=>?_;have f:=aA g;clear g;rw[Q7 (by rfl)];refine mD _ _ 25 rfl a 3 dh (ii 0) 1 8 Z5 cu cz da dc rfl (.slice B b.length C) b.length (iT b) rfl bs ⟨t.heap.size,0,none⟩ 1 1 [ii (k.size:Int)] rfl rfl X qc qm qo qo qo ?_;intro v6 w6 av cx an;obtain⟨w,c6,rfl⟩:=bK av qo;have cs:=bO an;have P:=ah.qO.trans cs (λF v=>.inl v);clear c;have c:=aj _ w6 P ay dj;have bu:=λd=>(P.frozen a d Zq ay).trans (dl d);have dv:=bu 1;have bd:=(P.cell a 0 Zq ay).trans bk;have ce:=(show Hi (w6.ownsRow a 3 1 (.slice (so w) (b.length+1) c6) (b.length+1) (iT b++[ii (k.size:Int)]))from av);have bx:=aA an;refine f.o _ _ ⟨λ_=>c,?_⟩;clear f m X bs av cx an;try simp only[Act.put,Z]
  refine o1 13 fun m g=>?_;have f:=aA g;clear g;go_simp;refine f.o _ _ ⟨fun _=>c,?_⟩;clear f m;try simp only[Act.put,Z]
  refine o1 14 fun m g=>?_;have f:=aA g;clear g;go_simp;refine f.o _ _ ⟨fun _=>c,?_⟩;clear f m;try simp only[Act.put,Z]
  refine o1 15 fun m g=>?_;have f:=aA g;clear g;obtain⟨k1,k2⟩:=c;go_simp;refine f.o _ _ ⟨fun M=>absurd rfl M,OneFree.done qk ?_ _⟩;clear f m;have ab:Fr [a] w6 (w6.setCell ⟨a,1,none⟩ (.slice (so w) (b.length+1) c6)):=(r0 _ _).setCell _ _ qs;have cn:Value.ownBlock (.slice J b.length x)=some q\/q=L.heap.size:=by
   obtain⟨l,_⟩|⟨l,_⟩:=ba.o
   ·exact .inl (by rw[<-l];rfl)
   exact .inr (by simpa[Value.ownBlock]using l)
  have bh:Value.ownBlock (.slice B b.length C)=some w\/w=W5.heap.size:=by
   obtain⟨l,_⟩|⟨l,_⟩:=bx.o
   ·exact .inl (by rw[<-l];rfl)
   exact .inr (by simpa[Value.ownBlock]using l)
  have cr:=λp s=>(H4.o.lt p s).2;have dn:=(bc.o.lt q rfl).2;have bf:Value.ownBlock (.slice B b.length C)≠some q:=λl=>by
   obtain bt|bt:=cn
   ·exact H7.o q bt l
   have:=cr _ l;omega
  have dm:q≠w:=λe=>by
   obtain l|l:=bh
   ·exact bf (by rw[e];exact l)
   omega
  have ck:w≠a:=λe=>by
   obtain l|l:=bh
   ·exact H6.o (by rw[l,e])
   omega
  have bi:DK (w6.setCell ⟨a,1,none⟩ (.slice (so w) (b.length+1) c6)) a a (eB (n.take (d+1))):=by
   rw[bz.o];refine⟨⟨.slice (so q) (b.length+1) R,.slice (so w) (b.length+1) c6,?_,eA _ _ _ _ _ k1,?_,?_,?_,?_,?_⟩,λd=>?_,?_⟩
   ·rw[cE _ _ _ _ _ _ (.inr qo)];exact bd
   ·rw[m8,Qz5,bb.o.1];refine aF (aF bc.o P (λp s e=>?_)) ab (λp s e=>?_)
    ·have D:q=p:=by simpa[Value.ownBlock]using s
     exact bf (by rw[D];simpa using e)
    have D:q=p:=by simpa[Value.ownBlock]using s
    have S:p=a:=by simpa using e
    omega
   ·rw[m8,Qx9,bb.o.2];refine aF ce.o ab (λp s e=>?_);have D:w=p:=by simpa[Value.ownBlock]using s
    have S:p=a:=by simpa using e
    omega
   ·simp[Value.ownBlock];exact cj
   ·simp[Value.ownBlock];exact ck
   ·intro p s e;have D:q=p:=by simpa[Value.ownBlock]using s
    have S:w=p:=by simpa[Value.ownBlock]using e
    omega
   ·rw[show ∀(A:World) (j:Addr) (E:Value),(A.setCell j E).frozen? ⟨a,d,none⟩=A.frozen? ⟨a,d,none⟩from λA j E=>by simp];exact bu d
   exact Y3 co (Y3 O.size (Y3 W.size (Y3 P.size ab.size)))
  have bj:=(cb.o.trans P (fun F v=>.inr (by have:=(H4.o.lt F (qu v)).1;omega))).trans ab (fun F v=>.inr (by simp at v;omega));have Zs:=aA bi;have cc:=aA bj;clear bi bj k1 k2 bd;go_wp2;go_roundw
  ·exact⟨d+1,ai,by go_num,Zs.o,cc.o⟩
  simp[intOf];omega
 have cy:¬(d:Int)<(n.length:Int):=qo;have bq:n.take d=n:=l8 qo;rw[bq]at H;have HD:=aA H;clear H bq;go_wp2;go_ret;exact⟨a,rfl,HD.o.wide bl,bl,N⟩
theorem oV(a:Int)(b:World):Cs 52 #[ii a] b (R1 b (ii a)):=by
 delta Cs;go_in
 go_wp2;go_ret;simp_all
def wP:ByteArray:=⟨#[65,46,46,46,53,46,46,46,46,46,46,46,10,46,46,46,46,46,46,46,46,46,46,46,46,10,46,46,46,46,46,46,46,46,46,46,46,46,10,46,46,46,46,46,46,46,46,46,46,46,46,10,46,46,46,46,35,35,35,35,46,46,46,46,10,46,46,46,46,46,46,46,46,46,46,46,46,10,46,46,46,46,46,46,46,46,46,46,46,46,10,46,46,46,46,46,46,46,46,46,46,46,46,10,46,46,46,46,46,46,46,46,46,46,46,46,10,46,46,46,46,46,46,46,46,46,46,46,46,10,46,46,46,46,46,46,46,46,46,46,46,46,10,46,46,46,57,46,46,46,46,46,46,46,66,10]⟩
theorem YI:eV wP:=⟨by kernel_rfl,Qj8 qk,Qj8 qk,by kernel_rfl,by kernel_rfl⟩
theorem GO(a:World):Cs 25 #[] a (R0 a (.string wP)):=by
 delta Cs;go_in
 go_wp2;go_ret;exact⟨by kernel_rfl,r0 _ _⟩
variable {H:TypeId}
theorem wN{e:Array Value}:∀(is:List Nat),(∀d∈is,∃c,(part H e (d*b)).run prog w=.ok c w/\(Op.equalIn a H c c).run prog w=.ok true w)->(Op.eqItems a H b e e is).run prog w=.ok true w
 |[],_=>by simp[Op.eqItems]
 |d::is,f=>by obtain⟨c,g,h⟩:=f d qs;have i:=wN is (λj k=>f j qg);simp only[Op.eqItems,Sem.run_bind,g,h,Result.andThen_ok];exact i
theorem XQ:(prog.info? 3).map (·.size)=some 1:=qk
theorem SW:prog.cellsOf 3=1:=qk
theorem SY:prog.cellsOf 86=12:=qk
theorem UW(a:Nat->Int)(c:Nat)(b:Nat)(d:World):(Op.equalIn (b+2) 86 (.agg (eK a c).toArray) (.agg (eK a c).toArray)).run prog d=.ok true d:=by
 obtain⟨j,g,_⟩:=V2.1 XQ;rw[show b+2=(b+1)+1 from rfl,run_equalIn_array d (b+1) _ _ underlying86 g,SW];refine wN _ (λe h=>?_);have i:e<12:=qg;have f:(eK a c).toArray[e]?=some (ii (a (c*12+e))):=by grind[eK]
 refine⟨ii (a (c*12+e)),?_,?_⟩
 ·rw[Nat.mul_one];simp[part,isAgg,run_underlying underlying3,f]
 rw[run_equalIn_int d b 3 .i64 .i64 _ _ Qq3];simp
theorem US(a:Nat->Int)(b:Nat)(c:World):(Op.equalIn (b+3) 88 (.agg (dH a).toArray) (.agg (dH a).toArray)).run prog c=.ok true c:=by obtain⟨i,f,_⟩:=V2.1 wI;rw[show b+3=(b+2)+1 from rfl,run_equalIn_array c (b+2) _ _ Qk0 f,SY];refine wN _ (λd h=>?_);have g:d<12:=qg;refine⟨.agg (eK a d).toArray,?_,UW a d b c⟩;have e:=BK a d g;rw[<-e];simp[part,isAgg,run_underlying underlying86,sizeOf,yN]
theorem RK(a:Nat->Int)(b:World):(binOp BinOp.eql 88 (.agg (dH a).toArray) (.agg (dH a).toArray)).run prog b=.ok (.bool true) b:=by simp_all[run_eql_struct,US]
theorem RL(c d:Operand)(a:Array Value)(b:World):(eqGuard BinOp.eql 88 c d (.agg a) (.agg a)).run prog b=.ok () b:=qk
theorem UX(a b:Int)(c:World):(Op.equalIn 9999 54 (.agg #[ii a,ii b]) (.agg #[ii a,ii b])).run prog c=.ok true c:=by have u3:=Qq3;rw[show(9999:Nat)=9998+1 from rfl,Op.equalIn];simp only[Sem.run_bind,run_underlying underlying54,Result.andThen_ok];simp only[Std.Legacy.Range.forIn_eq_forIn_range',Std.Legacy.Range.size,Nat.sub_zero,Nat.add_sub_cancel,Nat.div_one,range'_succ,range'_zero,forIn_cons,forIn_nil];go_simp
theorem Hs(d e a b:Int)(c:World):(binOp BinOp.eql 56 (.agg #[ii d,ii e,ii a,ii b]) (.agg #[ii d,ii e,ii a,ii b])).run prog c=.ok (.bool true) c:=by have f:=UX a b c;simp[go_sem,f]
theorem Ht(f g:Operand)(a b c d:Int)(e:World):(eqGuard BinOp.eql 56 f g (.agg #[ii a,ii b,ii c,ii d]) (.agg #[ii a,ii b,ii c,ii d])).run prog e=.ok () e:=qk
end Go.Proofs.YtapabahhfanmmaaGreatDoor
namespace Go.Proofs.YtapabahhfanmmaaGreatDoor
open Go.RowKit Go.Maps Go.Sort Go.Shelf List Go.Proofs.Tryz
set_option maxHeartbeats 4000000
set_option maxRecDepth 100000
def FilesO(d:World)(base:Nat)(c:Value)(a:List (List UInt8×List UInt8)):Prop:=d.ownsRow base 115 2 c a.length (a.flatMap λb=>[sv b.1,sv b.2])
theorem Hb(a:World):Cs 96 #[.slice none 0 0,.slice none 0 0] a (R0 a (.bool true)):=by
 delta Cs;go_in
 go_wp2
 go_loopw [5] (fun b wr=>b=ii 0/\a=wr) (fun _ _=>0)
 ·grind
 obtain⟨rfl,rfl⟩:=hrel;go_wp2;go_ret;simp_all[r0]
theorem Cn(k W:Nat)(K:List Nat)(i:World)(ah:Bk i k K W)(hN:W<=2200000):Cs 98 #[pt k,.slice none 0 0] i λg w'=>g=.returned (.tuple #[])/\OwnP i k W K [] w':=by
 obtain⟨bj,ba,bg,bh,bi⟩:=Z2 GC;obtain⟨db,cr,cw,cx,cy⟩:=Z2 GD;obtain⟨⟨F,m,nx,A,X,h2,h3,h4,h5,h6,h7,h8,h9,Zr,au⟩,bd,bc⟩:=ah;have de:=X.lt;obtain⟨d,Q⟩:=nm i.heap.size;obtain⟨B,aa,ac,_⟩:=al i (.cells #[ii (-7)] 3);have bf:B.cell? ⟨d,0,none⟩=some (ii (-7)):=by rw[aa,Q,aB (aC _ _)];rfl
 have dn:B.heap.size=d+1:=by rw[aa,Q];simp
 have ag:=(show Hi _ from X.fr ac qs qs);have bq:=(show Hi _ from h2.fr ac qs);have HX:=(show Hi _ from And.intro h3 (And.intro h4 (And.intro h5 (And.intro h6 (And.intro h7 (And.intro Zr au))))));have br:=aA ac;have ch:=aA bf;have Zs:=aA bd;have bu:=aA bc;have cf:=aA (λc h w z=>((X.own c h).lt w z).2);clear X h2 h3 h4 h5 h6 h7 Zr au ac bf bd bc
 delta Cs;go_in
 go_wp2
 go_loopw [4] (fun da wr=>da=ii 0/\i=wr) (fun _ _=>0)
 ·exact⟨rfl,rfl⟩
 obtain⟨rfl,rfl⟩:=hrel
 go_wp2_with fail
 rw[<-aa,<-Q];have cg:=aA Q;have dl:i.heap.size<=B.heap.size:=qo;clear aa Q
 go_loopw [11] (fun p wr=>p=ii 0/\B=wr) (fun _ _=>0)
 ·exact⟨rfl,rfl⟩
 obtain⟨rfl,rfl⟩:=hrel;obtain⟨C,aj⟩:=nm B;have cb:Hi (C.ownsRow i.heap.size 25 1 (.slice none 0 0) 0 []):=⟨rfl,.inl ⟨rfl,rfl⟩⟩;rw[<-aj];have aq:Hi (Fr [] B C):=by rw[aj];exact r0 _ _
 have dg:=aq.o.size;clear aj;have ao:Hi (∀(f:World) (cs:Array Value),f.ownsRow i.heap.size 25 1 (.slice none 0 0) 0 []->(f.alloc (.cells cs 25)).ownsRow i.heap.size 25 1 (.slice none 0 0) 0 []):=λf cs ah=>ah.alloc _;have bw:Hi (∀(f:World) (p:Nat) (r:Value),[Value.slice (so d) 1 1][p]?=some r->(f.alloc (.cells #[.slice (so d) 1 1] 25)).cell? ((⟨f.heap.size,0,none⟩:Addr).add p)=some r):=λf=>dQ f _ 25;have bx:Hi (∀(f:World) (p:Nat) (r:Value),[Value.slice (so d) 1 1,.slice (so d) 1 1][p]?=some r->(f.alloc (.cells #[.slice (so d) 1 1,.slice (so d) 1 1] 25)).cell? ((⟨f.heap.size,0,none⟩:Addr).add p)=some r):=λf=>dQ f _ 25;obtain⟨l,ae⟩:=nn ((m 2).length);have af:=ag.o.own 2 qo;rw[ae]at af;obtain⟨O,R,L⟩:=gL af;rw[L]at af;have df:l<=3*W:=by have:=HX.o.2.2.2.1;omega
 have ar:Hi (∀f,Fr [] B f->f.cell? ⟨k,2,none⟩=some (.slice O l R)/\f.frozen? ⟨k,2,none⟩=false/\f.ownsRow 0 46 1 (.slice O l R) l (m 2)/\BR f k F m nx/\BL f A m):=λf hf=>by have ab:=ag.o.fr hf qs qs;refine⟨by rw[ab.cell 2 qo,L],ab.fz 2,?_,ab,bq.o.fr hf qs⟩;have:=ab.own 2 qo;rw[L,ae]at this;exact this
 have ap:Hi (k∉(Value.ownBlock (.slice O l R)).toList):=λg=>ag.o.nb 2 qo (by rw[L];simpa using g);have Zq:=aA L;have bv:=aA ae;clear L ae af
 go_wp2_with (first
  |(
    at_builtin
    refine eU rfl (.tmp 111) (.tmp 113) 46 rfl i.heap.size 25 bj (.slice none 0 0) 1 24 Qk2 ba bg bh bi rfl (.slice none 0 0) 0 [] rfl (ao.o _ _ cb.o) ⟨C.heap.size,0,none⟩ 1 1 [.slice (so d) 1 1] rfl rfl (bw.o C) qc qm qo qt qo ?_;intro v1 H E ad q;obtain⟨x,t,rfl⟩:=bK E qo;have cc:=aA E;have bt:=aA ad;have bo:Hi (fQ (C.alloc (.cells #[.slice (so d) 1 1] 25)) H (.slice none 0 0) (.slice (so x) (0+1) t)):=q;have bs:=aA ((aq.o.alloc _).trans (bO q) (λbm P=>.inl P));have dh:C.heap.size<=H.heap.size:=(by have:=(bO q).size;simp at this;omega);clear E ad q)
  |(
    at_builtin
    refine eU rfl (.tmp 115) (.tmp 118) 46 rfl i.heap.size 25 bj (.slice none 0 0) 1 24 Qk2 ba bg bh bi rfl (.slice none 0 0) 0 [] rfl (ao.o _ _ bt.o) ⟨H.heap.size,0,none⟩ 2 2 [.slice (so d) 1 1,.slice (so d) 1 1] rfl rfl (bx.o H) qc qm qo qt qo ?_;intro v2 j E ad q;obtain⟨y,u,rfl⟩:=bK E qo;have cd:=aA E;have bp:Hi (fQ (H.alloc (.cells #[.slice (so d) 1 1,.slice (so d) 1 1] 25)) j (.slice none 0 0) (.slice (so y) (0+2) u)):=q;have V:=aA ((bs.o.alloc _).trans (bO q) (λbm P=>.inl P));have di:H.heap.size<=j.heap.size:=(by have:=(bO q).size;simp at this;omega);obtain⟨ay,cz,be,_,_⟩:=ar.o j V.o;have ce:Hi ((j.alloc (.cells #[.slice none 0 0,.slice (so x) (0+1) t,.slice (so y) (0+2) u] 46)).ownsRow 0 46 1 (.slice O l R) l (m 2)):=be.alloc _;have bz:Hi (∀(p:Nat) (r:Value),[Value.slice none 0 0,.slice (so x) (0+1) t,.slice (so y) (0+2) u][p]?=some r->(j.alloc (.cells #[.slice none 0 0,.slice (so x) (0+1) t,.slice (so y) (0+2) u] 46)).cell? ((⟨j.heap.size,0,none⟩:Addr).add p)=some r):=dQ j _ 46;have ax:=aI ay;clear E ad q be)
  |(
    at_builtin
    refine eU rfl (.tmp 124) (.tmp 128) 63 rfl 0 46 db (.slice none 0 0) 1 24 underlying63 cr cw cx cy rfl (.slice O l R) l (m 2) rfl ce.o ⟨j.heap.size,0,none⟩ 3 3 [.slice none 0 0,.slice (so x) (0+1) t,.slice (so y) (0+2) u] rfl rfl bz.o qc qm qo qs qo ?_;intro v5 w5 ho h ha;obtain⟨J,I,rfl⟩:=bK ho qo;have az:=bO ha;have dk:=(az.cell k 2 qt ap.o).trans ((((r0 [] j).alloc _).cell k 2 ax qs).trans ay);have Zt:=(az.frozen k 2 qt ap.o).trans ((((r0 [] j).alloc _).frozen k 2 ax qs).trans cz)))
 refine Q5 (v:=.tuple #[]) (Q6 rfl _ _ _) rfl ⟨rfl,?_⟩;obtain⟨x3,x4,x5,x6,x7,bn,dd⟩:=HX.o;obtain⟨s,s1,s2,m0,m1,m2⟩:=qE (base:=i.heap.size) (size:=1) (n:=0) (e:=25) (pat:=λ_=>.slice (so d) 1 1) (v:=.slice none 0 0) (λ_=>rfl) (show H.ownsRow i.heap.size 25 1 (.slice (so x) (0+1) t) (0+1) [.slice (so d) 1 1]from cc.o) bo.o (show j.ownsRow i.heap.size 25 1 (.slice none 0 0) 0 []from⟨rfl,.inl ⟨rfl,rfl⟩⟩) (show j.ownsRow i.heap.size 25 1 (.slice (so y) (0+2) u) (0+2) [.slice (so d) 1 1,.slice (so d) 1 1]from cd.o) bp.o;obtain⟨_,_,_,ck,cp⟩:=ar.o j V.o;obtain⟨N,ai⟩:∃cj,cj=[Value.slice none 0 0,.slice (so x) (0+1) t,.slice (so y) (0+2) u]:=⟨_,rfl⟩;have av:Fr [] j (j.alloc (.cells #[.slice none 0 0,.slice (so x) (0+1) t,.slice (so y) (0+2) u] 46)):=(r0 _ _).alloc _;obtain⟨Y,co⟩:=(ck.fr av qs qs).push 2 qo (.slice (so J) (l+3) I) N (by rw[ai,bv.o];exact ho) (by rw[Zq.o];exact ha);have S:=av.qO.trans co (λbm P=>.inl P);obtain⟨W6,cq⟩:=nm (w5.setCell ⟨k,2,none⟩ (.slice (so J) (l+3) I));rw[<-cq]at Y S |-;have dj:=S.size;have cu:=cf.o;have ct:N.length=3:=by rw[ai];rfl
 have am:=(V.o.cell d 0 qo qs).trans ch.o;have dm:=cg.o;have dc:∀a∈s,C.heap.size<=a:=λa e=>by
  obtain b|b:=s1 a e
  ·simp[Value.ownBlock]at b
  omega
 have D:∀a∈A++(s++[d]),a≠k/\(∀c,c<9->(F c).ownBlock≠some a)/\(a∈K\/a∈([]:List Nat)\/i.heap.size<=a)/\a<j.heap.size:=λa e=>by
  obtain b|b:=m5.1 e
  ·obtain⟨t1,t2⟩:=dd a b;exact⟨λg=>Zs.o (g ▸ t1),t2,.inl t1,by have:=bu.o a t1;omega⟩
  have aw:i.heap.size<=a/\a<j.heap.size:=by
    obtain b|b:=m5.1 b
    ·have:=dc a b;have:=s2 a b;omega
    have g:a=d:=by simpa using b
    omega
  exact⟨by omega,λc h g=>by have:=cu c h a g;omega,.inr (.inr aw.1),aw.2⟩
 have cn:BL W6 (A++(s++[d])) (aR m 2 (m 2++N)):=by
  refine((cp.up (K':=A++(s++[d])) (λa e=>Qk3 _ e)).qP N (λr hu=>?_)).fr S (λa e hm=>?_)
  ·have up:∀a∈s,a∈A++(s++[d]):=λa e=>by simp[e]
   rw[ai]at hu;simp only[mem_cons,not_mem_nil,or_false]at hu;obtain rfl|rfl|rfl:=hu
   · exact(m0.up up).qP qo qs am
   · exact(m1.up up).qP qo qs am
   exact(m2.up up).qP qo qs am
  obtain b|b:=Qq0.1 hm
  · exact(D a e).1 b
  exact(D a e).2.1 2 qo (qu b)
 have bk:∀c,c<9->∀w,(aR F 2 (.slice (so J) (l+3) I) c).ownBlock=some w->(∃M,M<9/\(F M).ownBlock=some w)\/j.heap.size<=w:=λc h w z=>by
  by_cases k2:c=2
  ·subst k2;rw[iG]at z;obtain b|b:=gK ha w z
   · exact .inl ⟨2,by omega,by rw[Zq.o];exact b⟩
   simp at b;exact .inr qo
  rw[iA _ _ k2]at z;exact .inl ⟨c,h,z⟩
 have an:∀a,a∈(range 9).filterMap (λc=>(aR F 2 (.slice (so J) (l+3) I) c).ownBlock)->∃c,c<9/\(aR F 2 (.slice (so J) (l+3) I) c).ownBlock=some a:=λa e=>by obtain⟨c,h,g⟩:=Qk4.1 e;exact⟨c,Qk5.1 h,g⟩
 refine⟨⟨(A++(s++[d]))++(range 9).filterMap (λc=>(aR F 2 (.slice (so J) (l+3) I) c).ownBlock),⟨⟨_,_,nx,A++(s++[d]),Y,cn,x3,x4,?_,?_,?_,?_,h9,λc h w z=>?_,λa e=>⟨Qk3 _ e,λc h g=>?_⟩⟩,λhm=>?_,λa e=>?_⟩,λa e=>?_⟩,?_⟩
 ·show(m 0).length<=_
  omega
 ·show(m 2++N).length<=_
  rw[m8,ct];omega
 ·show(m 3).length<=_/\(m 5).length<=_/\(m 6).length<=_
  omega
 ·omega
 ·exact Qk6 _ (Qk4.2 ⟨c,Qk5.2 h,z⟩)
 ·obtain⟨M,ak,b⟩|b:=bk c h a g
  ·exact(D a e).2.1 M ak b
  have:=(D a e).2.2.2;omega
 ·obtain b|b:=m5.1 hm
  ·exact(D k b).1 rfl
  obtain⟨c,h,g⟩:=an k b;exact Y.nb c h g
 ·obtain b|b:=m5.1 e
  ·have:=(D a b).2.2.2;omega
  obtain⟨c,h,g⟩:=an a b;exact((Y.own c h).lt a g).2
 ·obtain b|b:=m5.1 e
  ·exact(D a b).2.2.1
  obtain⟨c,h,g⟩:=an a b;obtain⟨M,ak,bl⟩|bl:=bk c h a g
  · exact .inl (bn M ak a bl)
  omega
 refine((br.o.qT V.o).qO).trans S (λa e=>?_);obtain b|b:=Qq0.1 e
 ·exact .inl (by simp[b])
 exact .inl (by simp[bn 2 qo a (qu b)])
