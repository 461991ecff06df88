import Derived.Test.YtapabahhfanmmaaGreatDoorCLawL
import Derived.Test.YtapabahhfanmmaaGreatDoorCDskT
namespace Go.Proofs.YtapabahhfanmmaaGreatDoor
open Go.RowKit List Go.Proofs.Tryz
set_option maxHeartbeats 4000000
set_option maxRecDepth 100000
theorem OB(I:Nat)(b:ByteArray)(g:World)(hw:0<g.heap.size)(aq:I<=g.heap.size)(an:Tb g):Cs 29 #[.string b] g λc w'=>((eV b/\∃r V,c=.returned (.tuple #[pt r,.bool true])/\LR I w' (pt r) V 0/\∀ad∈V,g.heap.size<=ad)\/(¬eV b/\c=.returned (.tuple #[.pointer none,.bool true])))/\Fr [] g w':=by
 have w:=aA (λg=>Ff b g)
 by_cases j:eV b
 ·have p:=(show Hi _ from Ep b j g hw an);have C:GG (cB b):=⟨wT b j,wU b,by show(0:Int)<=0;omega⟩;have F:(cB b).turn<=1000000000:=by show(0:Int)<=_;omega
  have B:=vR C F;have Q:=aA C;clear C
  delta Cs;go_in
  go_wp2_with fail
  refine cm p.o ?_;rintro c u ⟨O,J,z,x,H,L,s,d,ag,ah,rfl,e,ax,Zr,ai,t⟩;have af:=aA e;clear p e
  go_wp2_with fail
  refine cm (w.o u) ?_;rintro c M ⟨⟨_,yb,Y,qb,W,rfl,k,q1,q2,q3,q4,q5⟩|⟨am,_⟩,q⟩;rotate_left
  ·exact absurd j am
  dsimp only;have e:=(show RS u O J z x (cB b) H L (λl=>if l=LOG then some (s,bE 2 (aQ (cB b)))else none) [bV d (bE 2 (aQ (cB b))),bQ d,dI d LOG]from af.o);have ay:=e.lt;have au:=e.row.lt;have aj:=e.sve.lt;have Zq:=e.np;have ao:=k.rg.ne;have av:=t.size;have aw:=q.size;obtain⟨f,E⟩:=nm (bE 2 (aQ (cB b)));rw[<-E]at e k B;have aa:BX I M O J z x [] H L (λl=>if l=LOG then some (s,f)else none) yb Y qb W (.slice none 0 0) [] (nT (cB b)) f [bV d f,bQ d,dI d LOG]:=by
   refine⟨(e.qF q).n,⟨k.h,k.rg.n⟩,.inl ⟨none,0,rfl,rfl⟩,sR Q.o,F,qs,?_,λy m c=>?_,qs,qs,λy m=>?_⟩
   ·simp only[nodup_cons,mem_cons,not_mem_nil,or_false,not_or,nodup_nil,and_true,not_false_eq_true];omega
   ·simp only[mem_cons,not_mem_nil,or_false]at c;have:=aj y m;obtain rfl|rfl|rfl|rfl|rfl:=c
    ·exact e.nrb m
    ·exact e.npb m
    ·omega
    ·omega
    omega
   simp only[cons_append,nil_append,append_nil,mem_cons]at m;obtain i|i|i|i|i|i:=m
   ·omega
   ·omega
   ·omega
   ·omega
   ·omega
   have:=ai y i;omega
  have ab:HI [] (λl=>if l=LOG then some (s,f)else none) (nT (cB b)).turn [nT (cB b)] [(3,0,0)] (nT (cB b)) f [bV d f,bQ d,dI d LOG] 0:=by
   refine HI.first (bs:=[]) (steps:=[bV d f,bQ d,dI d LOG]) (D:=[⟨LOG,f,f.length⟩]) (v:=s) (a:=0) (UJ (D:=[]) qs ag) ⟨qs,λX hf=>?_,λl az hp=>?_⟩ (Q7 rfl) (λX hf=>?_) qs (by rw[E];exact sV Q.o F) (yX ah B) qs qs qs qs
   ·have:X=⟨LOG,f,f.length⟩:=by simpa using hf
    subst this;exact⟨s,Q7 rfl⟩
   ·by_cases c:l=LOG
    ·simp[c]
    rw[Z0 c]at hp;cases hp
   grind
  have R:=aA ab;have P:=(show Hi _ from BH M none 0 0 aa qs);clear aa e k w ab E B
  go_wp2_with (go_at_call 52;refine(oV _ _).mono ?_;rintro c N ⟨rfl,rfl⟩)
  refine cm P.o ?_;rintro c N ⟨r,tv,kv,rfl,A,ap,ar,ak⟩;have S:=(show Hi _ from jO N A R.o qo);have HL:=aA A;clear P A
  go_wp2_with fail
  refine cm S.o ?_;rintro c w4 ⟨rfl,ac⟩;clear S;go_wp2;go_ret2;refine⟨.inl ⟨j,r,_,rfl,⟨⟨r,O,J,z,x,[],H,L,_,yb,Y,qb,W,_,_,[],tv,kv,_,_,nT (cB b),_,_,rfl,HL.o.qF ac,R.o,rfl⟩⟩,λad hx=>?_⟩,((t.qT q).qT ak).qT ac⟩;obtain i|i:=m5.1 hx
  ·simp only[mem_cons,not_mem_nil,or_false]at i;omega
  grind
 have p:=(show Hi _ from Er b j g)
 delta Cs;go_in
 go_wp2_with fail
 refine cm p.o ?_;rintro c u ⟨rfl,t⟩;clear p
 go_wp2_with fail
 refine cm (w.o u) ?_;rintro c M ⟨⟨k,_⟩|⟨_,rfl⟩,q⟩
 ·exact absurd k j
 dsimp only;have ae:=aA j;clear j
 go_wp2_with (go_at_call 52;refine(oV _ _).mono ?_;rintro c N ⟨rfl,rfl⟩)
 go_ret2;exact⟨.inr ⟨ae.o,rfl⟩,t.qT q⟩
variable {P:List Pf} {B l:List UInt8} {a c d:Nat} {t:T} {u:Value} {w x:World}
theorem KU:∀(c:List Pf) (b:Nat) (a:Pf),c[b]?=some a->(c.flatMap λa=>[sv a.1,sv a.2])[b*2]?=some (sv a.1)/\(c.flatMap λa=>[sv a.1,sv a.2])[b*2+1]?=some (sv a.2)
 |[],b,d,e=>by grind
 |f::c,0,d,e=>by grind
 |f::c,b+1,d,e=>by have:=KU c b d qg;rw[l9,J8 qg,J8 qg];grind
theorem FilesO.at{base:Nat}(b:FilesO w base u P):(P=[]/\∃g c,u=.slice g 0 c)\/∃a c,u=.slice (so a) P.length c/\base<=a/\a<w.heap.size/\(∀l,w.frozen? ⟨a,l,none⟩=false)/\∀d e,P[d]?=some e->w.cell? ⟨a,d*2,none⟩=some (sv e.1)/\w.cell? ⟨a,d*2+1,none⟩=some (sv e.2):=by
 by_cases i:P.length=0
 ·obtain rfl:=Qx4 i;obtain⟨g,m,rfl⟩:=fD b;grind
 obtain⟨a,c,rfl⟩:=bK b qo;refine .inr ⟨a,c,rfl,(b.lt a rfl).1,(b.lt a rfl).2,sX b rfl,λd e j=>?_⟩;obtain⟨f,h⟩:=KU P d e j;have f:=World.ownsRow.cells b (g:=a) rfl _ _ f;have h:=World.ownsRow.cells b (g:=a) rfl _ _ h;grind[Addr.add_lit]
theorem FilesO.v{base:Nat}(b:FilesO w base u P):FilesV w u P:=by
 obtain⟨rfl,c,a,rfl⟩|⟨d,a,rfl,_,e,_,f⟩:=b.at
 ·exact .inl qg
 exact .inr qg
theorem FilesO.b{base:Nat}(e:FilesO w base u P):FilesB w a u.ownBlock.toList u P:=by
 obtain⟨rfl,g,c,rfl⟩|⟨d,c,rfl,_,f,_,h⟩:=e.at
 ·exact .inl qg
 exact .inr ⟨d,0,c,rfl,f,.inr (by simp[Value.ownBlock]),λj k i=>by grind⟩
theorem JR{a b:List UInt8}{t1:T}(c:gU P l t a)(d:gU P B t1 b):l=B/\t=t1/\a=b:=by obtain⟨_,e,g⟩:=c;obtain⟨_,f,h⟩:=d;grind[Au]
theorem VD(a b:ByteArray)(c:World):(binOp BinOp.neq 115 (.agg #[.string a,.string b]) (.agg #[.string a,.string b])).run prog c=.ok (.bool false) c:=by simp[go_sem]
structure GvI (w w3:World) (gv:Value) (fs:List Pf) (k:Nat) (wr:World):Prop where
 at':∀gb c,gv=.slice (so gb) fs.length c->(∀o,wr.frozen? ⟨gb,o,none⟩=false)/\∀i p,fs[i]?=some p->(∃u u',wr.cell? ⟨gb,i*2,none⟩=some u/\wr.cell? ⟨gb,i*2+1,none⟩=some u')/\(k<=i->wr.cell? ⟨gb,i*2,none⟩=some (sv p.1)/\wr.cell? ⟨gb,i*2+1,none⟩=some (sv p.2))
 fr:Fr gv.ownBlock.toList w3 wr
theorem GvI.put{wr:World}(h:GvI w x (.slice (so a) P.length c) P d wr)(k u':Value):GvI w x (.slice (so a) P.length c) P (d+1) ((wr.setCell ⟨a,d*2,none⟩ k).setCell ⟨a,d*2+1,none⟩ u'):=by
 have z:∀(f:World) (e:Addr) (n:Value) (b:Nat),(f.setCell e n).frozen? ⟨a,b,none⟩=f.frozen? ⟨a,b,none⟩:=qa;refine⟨λr q g=>?_,((h.fr.setCell _ _ (by simp[Value.ownBlock])).setCell _ _ (by simp[Value.ownBlock]))⟩;cases g;obtain⟨A,l⟩:=h.at' a c rfl;refine⟨λb=>by grind,λi e m=>?_⟩;obtain⟨⟨o,p,u,v⟩,y⟩:=l i e m
 by_cases g:i=d
 ·grind[cE,eA]
 have j:∀b,b≠d*2->b≠d*2+1->((wr.setCell ⟨a,d*2,none⟩ k).setCell ⟨a,d*2+1,none⟩ u').cell? ⟨a,b,none⟩=wr.cell? ⟨a,b,none⟩:=λb s t=>by grind[cE]
 rw[j _ qo qo,j _ qo qo];grind
structure OsP (n0 M:Nat) (fs:List Pf) (bo:List Nat) (v:Value) (w:World) (e:Ending) (w':World):Prop where
 ex:(∃lb xb pb cap S mv stv g yb gb qb cap2 fst tv kv sts mk t log steps l0 r,gU fs l0 t r/\e=.returned (.tuple #[pt lb,.bool true])/\LX n0 w' lb xb pb cap S bo mv stv g yb gb qb cap2 fst v fs tv kv sts mk t log steps/\HI fs g fst sts mk t log steps M/\∀x∈aZ lb xb pb S bo yb gb qb tv kv,x∈bo\/w.heap.size<=x)\/((∀l0 t r,¬gU fs l0 t r)/\e=.returned (.tuple #[.pointer none,.bool true]))
 fr:Fr [] w w'
theorem JS(n0:Nat)(h:World)(aq:Value)(c:List Pf)(bo:List Nat)(a ai:Nat)(hv:FilesB h n0 bo aq c)(bq:∀f∈bo,n0<=f/\f<h.heap.size)(dt:n0<=h.heap.size)(ha:a+3<=3*ai+3)(hM:ai<=1048577)(hl:c.length<=2000000+a)(l:∀b∈c,b.1.length<=2000000/\b.2.length<=2000000+41000*a)(bz:Sd h)(cd:Tb h):Cs 69 #[aq] h λd w'=>OsP n0 ai c bo aq h d w':=by
 obtain⟨dj,db,dg,dh,di⟩:=Z2 pX;obtain⟨va,vc,rfl⟩:∃a au,aq=.slice a c.length au:=by
  obtain⟨ao,lc,rfl,rfl⟩|⟨lb,lo,lc,rfl,_⟩:=hv
  ·exact⟨_,_,rfl⟩
  exact⟨_,_,rfl⟩
 have HV:=aA (λw' (B:Fr [] h w')=>hv.fr B qs qs);have bb:Hi (∀k b,c[k]?=some b->∃s fo,va=some ⟨s,fo,none⟩/\s<h.heap.size/\h.cell? ⟨s,fo+k*2,none⟩=some (sv b.1)/\h.cell? ⟨s,fo+k*2+1,none⟩=some (sv b.2)):=λk b hk=>by
  obtain⟨_,_,_,d⟩|⟨lb,lo,lc,d,y,_,O⟩:=hv
  ·rw[d]at hk;cases hk
  cases d;exact⟨lb,lo,rfl,y,O k b hk⟩
 have bu:c.length<=1000000000:=qo;have HP:Hi (∀b∈c,b.1.length<=1000000000/\b.2.length<=90000000000000):=λb av=>by have:=l b av;omega
 have cs:=aA l;have af:=aA bq;have ct:=aA bz;have cw:=aA cd;clear hv l bq bz cd
 delta Cs;go_in
 go_wp2
 go_loopw [4,5] (fun gv r wr=>∃k:Nat,k<=c.length/\r=ii k/\FilesO wr h.heap.size gv (c.take k)/\Fr [] h wr) (fun _ r _=>c.length-(intOf r).toNat)
 ·exact⟨0,Z3 _,rfl,⟨rfl,.inl ⟨rfl,rfl⟩⟩,r0 _ _⟩
 obtain⟨k,hk,rfl,w,u⟩:=hrel
 by_cases bv:k<c.length
 ·have dd:(k:Int)<(c.length:Int):=qo;obtain⟨b,l⟩:∃b,c[k]?=some b:=⟨_,Y2 bv⟩;obtain⟨s,fo,rfl,ad,H,N⟩:=bb.o k b l;have L:=(u.cell s _ ad qs).trans H;have M:=(u.cell s _ ad qs).trans N;obtain⟨x,P⟩:∃Zq:ByteArray,Zq=⟨b.1.toArray⟩:=⟨_,rfl⟩;obtain⟨p,R⟩:∃p:ByteArray,p=⟨b.2.toArray⟩:=⟨_,rfl⟩;obtain⟨F,hE⟩:=nm (c.take k);have Zt:F.length<=1000000000:=by rw[hE];simp;omega
  have cj:Hi (∀m v',Fr [] h m->m.ownsRow h.heap.size 115 2 v' (F.length+1) ((F.flatMap λb=>[sv b.1,sv b.2])++[.string x,.string p])->FilesO m h.heap.size v' (c.take (k+1))/\Fr [] h m):=λm v' B ho=>by obtain⟨h1,y⟩:=gs.1 l;refine⟨?_,B⟩;unfold FilesO;rw[Qj7 h1,<-hE,y,m8,Qz5,flatMap_singleton,sv,sv,<-P,<-R];exact ho
  rw[<-hE]at w;rw[sv,<-P]at L;rw[sv,<-R]at M;have cq:Hi ((wr.alloc (.cells #[.string x,.string p] 115)).ownsRow h.heap.size 115 2 u4 F.length (F.flatMap λb=>[sv b.1,sv b.2])):=aF w ((r0 [] wr).alloc _) qs;have HN:Hi (∀(j:Nat) (Y:Value),[Value.string x,.string p][j]?=some Y->(wr.alloc (.cells #[.string x,.string p] 115)).cell? ((⟨wr.heap.size,0,none⟩:Addr).add j)=some Y):=by intro j Y hu;rw[i7,Z9,aB (aC wr _)];simpa using hu
  have ck:=aA (λm (hg:(wr.alloc (.cells #[.string x,.string p] 115)).grownBy m u4.ownBlock)=>(u.alloc _).grow hg (λg hg=>.inr (Zj8 w g hg).1));have ea:=u.size;clear P R hE w l H N
  go_wp2_with (
         at_builtin;refine wpList_append_own_at _ rfl (.tmp 19) _ 51 rfl h.heap.size 115 dj (.agg #[.string ⟨#[]⟩,.string ⟨#[]⟩]) 2 32 Qq6 db dg dh di rfl qd u4 F.length (F.flatMap λb=>[sv b.1,sv b.2]) rfl cq.o ⟨wr.heap.size,0,none⟩ 1 1 [.string x,.string p] rfl rfl HN.o qc qm qo qt ?_
         intro v' m bx bt df cz;have cu:=(show Hi _ from cj.o m v' (ck.o m bt) bx);clear bx bt df cz)
  go_roundw
  ·exact⟨k+1,bv,by go_num,cu.o⟩
  simp[intOf];omega
 have dd:¬(k:Int)<(c.length:Int):=qo;rw[l8 qo]at w;obtain⟨ga,v,rfl⟩:=fD w;have CO:=(show Hi _ from Ev _ c wr w.v HP.o bu (Sd.qF ct.o u) (Tb.qF cw.o u));have J:=(show Hi (FilesO wr h.heap.size (.slice ga c.length v) c)from w);clear w
 go_wp2_with fail
 refine cm CO.o ?_;intro d w2 y;obtain⟨xo,ec,rfl,az⟩:∃xo ec,d=.returned (.tuple #[.pointer xo,ii ec])/\OpP c wr (.returned (.tuple #[.pointer xo,ii ec])) w2:=by
  obtain⟨_,_,_,rb,_,_,_,_,_,_,_,_,_,_,q,_⟩|⟨_,q⟩:=id y.ex
  ·exact⟨_,_,q,q ▸ y⟩
  exact⟨_,_,q,q ▸ y⟩
 dsimp only;have ac:=az.fr;have bg:=aA az;have CY:=(show Hi _ from Fv _ c w2 (HV.o w2 (u.qT ac)).v (λb av=>(HP.o b av).2) bu);clear az y CO
 go_wp2_with fail
 refine cm CY.o ?_;intro d m O;obtain⟨yo,fc,rfl,ba⟩:∃yo fc,d=.returned (.tuple #[.pointer yo,ii fc])/\YoP c w2 (.returned (.tuple #[.pointer yo,ii fc])) m:=by
  obtain⟨_,_,_,_,_,_,_,_,q,_⟩|⟨_,q⟩:=id O.ex
  ·exact⟨_,_,q,q ▸ O⟩
  exact⟨_,_,q,q ▸ O⟩
 dsimp only;have aj:=ba.fr;have bh:=aA ba;have bl:=(u.qT ac).qT aj;have aa:=ac.qT aj;have bd:Hi (GvI h m (.slice ga c.length v) c 0 m):=by
  refine⟨λt au d=>?_,r0 _ _⟩;cases d;obtain⟨rfl,_⟩|⟨g,c',d,_,n,hz,V⟩:=J.o.at
  ·refine⟨λD=>?_,λr b l=>by cases l⟩;obtain⟨_,n⟩:=Zj8 J.o t rfl;exact(aa.frozen t D n qs).trans (sX J.o rfl D)
  cases d;refine⟨λD=>(aa.frozen t D n qs).trans (hz D),λr b l=>?_⟩;obtain⟨o,ar⟩:=V r b l;have o:=(aa.cell t _ n qs).trans o;have ar:=(aa.cell t _ n qs).trans ar;exact⟨⟨_,_,o,ar⟩,λ_=>⟨o,ar⟩⟩
 have ag:=aA (λf i=>Zj8 J.o f i);have cn:Hi (0<c.length->∃g,ga=some ⟨g,0,none⟩):=λh0=>by obtain⟨g,c',d⟩:=bK J.o h0;cases d;exact⟨g,rfl⟩
 obtain⟨dl,cf⟩:=nm wr;rw[<-cf]at ag u aa ac bg;clear ba O CY J cf;go_wp2
 go_loopw [10] (fun r dk=>∃j:Nat,j<=c.length/\r=ii j/\GvI h m (.slice ga c.length v) c j dk) (fun r _=>c.length-(intOf r).toNat)
 ·exact⟨0,Z3 _,rfl,bd.o⟩
 clear bd;obtain⟨j,hj,rfl,Q⟩:=hrel
 by_cases dc:j<c.length
 ·have de:(j:Int)<(c.length:Int):=qo;obtain⟨b,l⟩:∃b,c[j]?=some b:=⟨_,Y2 dc⟩;obtain⟨g,rfl⟩:=cn.o qo;obtain⟨dr,dq⟩:=ag.o g rfl;obtain⟨hz,V⟩:=Q.at' g v rfl;obtain⟨_,br⟩:=V j b l;obtain⟨H,N⟩:=br (Q9 _);obtain⟨s,fo,rfl,ad,L,M⟩:=bb.o j b l;have bm:Fr [g] h wr:=(bl.qO.trans Q.fr (λf i=>.inl (by simpa[Value.ownBlock]using i)));have L:=(bm.cell s _ ad qt).trans L;have M:=(bm.cell s _ ad qt).trans M;obtain⟨x,P⟩:∃Zq:ByteArray,Zq=⟨b.1.toArray⟩:=⟨_,rfl⟩;obtain⟨p,R⟩:∃p:ByteArray,p=⟨b.2.toArray⟩:=⟨_,rfl⟩;rw[sv,<-P]at L H;rw[sv,<-R]at M N;have am:=VD x p;have HI:=aA Q;clear P R hz V br Q;go_wp2
  go_quiet (fail)
  obtain⟨W4,aw⟩:=nm (wr.drewN nq);rw[<-aw];have z:Fr [] wr W4:=by rw[aw];exact(r0 _ _).drewN _
  have n:=aI H;have ah:Hi (GvI h m (.slice (so g) c.length v) c j W4):=by refine⟨λt au d=>?_,HI.o.fr.qT z⟩;cases d;obtain⟨dm,V⟩:=HI.o.at' g v rfl;refine⟨λD=>(z.frozen g D n qs).trans (dm D),λr b l=>?_⟩;obtain⟨⟨Y,u',k1,k2⟩,k3⟩:=V r b l;exact⟨⟨Y,u',(z.cell g _ n qs).trans k1,(z.cell g _ n qs).trans k2⟩,λe=>⟨(z.cell g _ n qs).trans (k3 e).1,(z.cell g _ n qs).trans (k3 e).2⟩⟩
  have e0:=(z.cell g _ n qs).trans H;have q:=(z.cell g _ n qs).trans N;have z0:=(ah.o.at' g v rfl).1 (j*2);have z1:=(ah.o.at' g v rfl).1 (j*2+1);have cr:=(show Hi _ from ah.o.put (.string ⟨#[35]⟩) (.string ⟨#[35]⟩));clear ah HI L M H N am aw;go_wp2;go_roundw
  ·exact⟨j+1,by omega,by go_num,cr.o⟩
  simp[intOf];omega
 have de:¬(j:Int)<(c.length:Int):=qo;have ak:=Q.fr;have ab:=bl.trans ak (λf i=>.inr (ag.o f (qu i)).1);obtain⟨Z,hZ⟩:=nm ((Value.ownBlock (.slice ga c.length v)).toList);rw[<-hZ]at ak;have S:∀f∈Z,f<dl.heap.size:=λf i=>(ag.o f (by rw[hZ]at i;simpa using i)).2;clear Q;obtain⟨l0,E,ap,rb,pb,bi,Zr,mv,ch,g,X,dn,cy,W,A,C,hD,hG,cb,B,am,ay,q1,q2,q3⟩|⟨ae,A⟩:=bg.o.ex
 ·cases A;obtain⟨l1,t1,r1,yb,t,qb,bj,an,A,hy,p1,p2,p3,p4,p5⟩|⟨ae,A⟩:=bh.o.ex;rotate_left
  ·exact absurd W (ae l0 E ap)
  cases A;obtain⟨rfl,rfl,rfl⟩:=JR W an;obtain⟨ax,ce,_⟩:=kB W.2.2;have dx:=ac.size;have dy:=aj.size;have Zs:=C.qF aj;have eb:=C.lt;have dv:=C.row.lt;have bp:=C.sve.lt;have du:=C.np;have dp:=hy.rg.ne;have dw:=u.size;have cc:0<X.length/\X.length<=3:=by
   obtain rfl|⟨cx,_,rfl⟩:=ay
   ·simp
   simp
  have bk:BX n0 wr rb pb bi Zr bo mv ch g yb t qb bj (.slice va c.length vc) c E (iO l0 E ap) X:=by
   refine⟨Zs.fr ak (λd=>by have:=S _ d;omega) (λd=>by have:=S _ d;omega) (λf i d=>by have:=S _ d;have:=q3 f i;omega),hy.fr ak (λd=>by have:=S _ d;omega) (λd=>by have:=S _ d;omega) (λd=>by have:=S _ d;omega),HV.o wr ab,ax,ce,cc.1,?_,λf i d=>?_,λf i=>⟨λd=>?_,λd=>?_⟩,λf i=>Z1 (af.o f i).2 ab.size,λf i=>?_⟩
   ·simp only[nodup_cons,mem_cons,not_mem_nil,or_false,not_or,nodup_nil,and_true,not_false_eq_true];omega
   ·simp only[mem_cons,not_mem_nil,or_false]at d;have:=bp f i;obtain rfl|rfl|rfl|rfl|rfl:=d
    ·exact C.nrb i
    ·exact C.npb i
    ·omega
    ·omega
    omega
   ·have:=(af.o f i).2;simp only[mem_cons,not_mem_nil,or_false]at d;omega
   ·have:=(af.o f i).2;have:=q3 f d;omega
   simp only[cons_append,nil_append,mem_cons,mem_append]at i;obtain e|e|e|e|e|e|e:=i
   ·omega
   ·omega
   ·omega
   ·omega
   ·omega
   ·have:=q3 f e;omega
   exact(af.o f e).1
  have bn:HI c g E.turn [E] [(X.length,0,0)] E (iO l0 E ap) X ai:=by
   obtain⟨Y,hu⟩:=hG.there cy B;rw[am]at hu B;refine HI.first (a:=a) hD hG hu cb B (YS W.2.2) (λcg hs=>?_) cc.1 qo hl cs.o;obtain rfl|⟨cx,hN,rfl⟩:=ay
   ·have:cg=bQ LOG:=by simpa using hs
    subst this;exact⟨yW _,sN,Z3 _⟩
   exact yX hN (vR ax ce) cg hs
  have bc:=(show Hi _ from BH wr va c.length vc bk qo);have be:=aA bn;have cp:=aA W;have I:Hi (∀f,f=rb\/f=pb\/f=yb\/f=t\/f=qb\/f∈Zr->h.heap.size<=f):=λf i=>by
   obtain e|e|e|e|e|e:=i
   ·omega
   ·omega
   ·omega
   ·omega
   ·omega
   have:=q3 f e;omega
  clear bk bn C Zs hy W an hG hD B cb ay ax am bp
  go_wp2_with (go_at_call 52;refine(oV _ _).mono ?_;rintro d w5 ⟨rfl,rfl⟩)
  refine cm bc.o ?_;rintro d w5 ⟨lb,tv,kv,rfl,hL,ds,bw,da⟩;have bf:=(show Hi _ from jO w5 hL be.o hM);have HL:=aA hL;clear bc hL
  go_wp2_with fail
  refine cm bf.o ?_;rintro d w6 ⟨rfl,bs⟩;clear bf;go_wp2;go_ret2;refine⟨.inl ⟨lb,rb,pb,bi,Zr,mv,ch,g,yb,t,qb,bj,_,tv,kv,_,_,E,_,X,l0,ap,cp.o,rfl,HL.o.qF bs,be.o,λo hx=>?_⟩,(ab.qT da).qT bs⟩;have dz:=ab.size;simp only[aZ,dT,cons_append,nil_append,mem_cons,mem_append]at hx;obtain e|e|e|e|e|e|e|e|e|e:=hx
  ·exact .inr qo
  ·exact .inr (I.o o (.inl e))
  ·exact .inr (I.o o (.inr (.inl e)))
  ·exact .inr (I.o o (.inr (.inr (.inl e))))
  ·exact .inr (I.o o (.inr (.inr (.inr (.inl e)))))
  ·exact .inr (I.o o (.inr (.inr (.inr (.inr (.inl e))))))
  ·exact .inr (I.o o (.inr (.inr (.inr (.inr (.inr e))))))
  ·exact .inl e
  ·exact .inr (by have:=bw o (.inl (qu e));omega)
  exact .inr (by have:=bw o (.inr (qu e));omega)
 cases A;obtain⟨l1,t1,r1,_,_,_,_,an,_⟩|⟨_,A⟩:=bh.o.ex
 ·exact absurd an (ae l1 t1 r1)
 cases A;have co:=aA ae;clear ae
 go_wp2_with (go_at_call 52;refine(oV _ _).mono ?_;rintro d w5 ⟨rfl,rfl⟩)
 go_ret2;exact⟨.inr ⟨co.o,rfl⟩,ab⟩
variable {Q:Fl} {J:List Fl} {W:List T} {e:Nat}
theorem IntsV.qF{v:Value}{b:List Int}(a:IntsV w v b)(f:Fr [] w x):IntsV x v b:=by
 obtain a|⟨g,i,h,c,d,e⟩:=a
 ·exact .inl a
 exact .inr (by grind[Fr.cell,aI])
theorem Cy(c h:Int)(a:Nat)(i:World)(l:h=(a:Int))(k:lM c)(m:0<a)(t:a<=1000000000):Cs 111 #[ii c,ii h] i λj n=>(∃g:Nat,g<a/\j=.returned (ii (g:Int)))/\i=n:=by
 subst l;obtain⟨p,q⟩:=k;obtain⟨b,d⟩:∃b:Nat,(b:Int)=if c<0 then -(c+1)else c:=⟨(if c<0 then -(c+1)else c).toNat,qo⟩;have r:(b:Int)<=9223372036854775807:=qo;have s:¬((a:Int)=0):=qo;have u:(b:Int).tmod (a:Int)=((b%a:Nat):Int):=qg;have e:b%a<a:=Nat.mod_lt _ m
 by_cases f:c<0
 ·rw[Q7 f]at d;have v:IntKind.i64.wrap (c+1)=c+1:=by grind[IntKind.wrap_i64]
  have w:IntKind.i64.wrap (-(c+1))=(b:Int):=by grind[IntKind.wrap_i64]
  have o:IntKind.i64.wrap ((b%a:Nat):Int)=((b%a:Nat):Int):=by grind[IntKind.wrap_i64]
  clear d
  delta Cs;go_in
  go_wp2;go_ret;exact⟨⟨b%a,e,rfl⟩,rfl⟩
 rw[Z0 f]at d;subst d;have o:IntKind.i64.wrap ((b%a:Nat):Int)=((b%a:Nat):Int):=by grind[IntKind.wrap_i64]
 delta Cs;go_in
 go_wp2;go_ret;exact⟨⟨b%a,e,rfl⟩,rfl⟩
def MkI(b:List Mk3)(a c e d:Nat)(f:Bool):Prop:=if f=true then gE b a 0=gE (b.drop c) a e/\gC b a 0=gC (b.drop c) a d else gE b a 0=e/\gC b a 0=d
theorem MkI.yes{f:List Mk3}{b:Mk3}(g:MkI f a c d e true)(h:f[c]?=some b)(i:b.1<=a):MkI f a (c+1) b.2.2 b.2.1 true:=by grind[gs,drop_eq_getElem_cons,MkI,gE,gC]
theorem MkI.no{f:List Mk3}{b:Mk3}(g:MkI f a c d e true)(h:f[c]?=some b)(i:¬b.1<=a):MkI f a (c+1) d b.2.1 false:=by grind[gs,drop_eq_getElem_cons,MkI,gE,gC]
theorem MkI.fin{b:List Mk3}{g:Bool}(f:MkI b a c d e g)(h:g=false\/b.length<=c):gE b a 0=d/\gC b a 0=e:=by
 unfold MkI at f;cases g
 ·exact f
 have h:b.length<=c:=qg;rw[Q7 rfl,drop_eq_nil_of_le h]at f;exact f
theorem TornF.open(m:TornF J P)(v:(cT J).Nodup)(p:Q∈J)(r:Q.name=LOG)(s:∀e,Q.safe<=e->e<=Q.data.length->∃b d f,a<=b/\b<=c/\W[b]?=some d/\fG (Q.data.take e) d f):∃u b d f,a<=b/\b<=c/\W[b]?=some d/\gU P u d f:=by
 obtain⟨w,q⟩:=m;have x:P.map (·.1)=cT J:=by apply V8;grind
 obtain⟨t,c⟩:=Zx5 p;obtain⟨e,n,o,l⟩:=q t Q c;obtain⟨b,d,f,h,i,j,k⟩:=s e n o;have g:(P.map (·.1)).Nodup:=qg;have:=IA g (Q8 l);rw[r]at this;exact⟨_,b,d,f,h,i,j,g,this,k⟩
theorem TornF.mem(c:TornF J P){b:Pf}(h:b∈P):∃a∈J,b.1=a.name/\b.2.length<=a.data.length:=by obtain⟨d,f⟩:=Zx5 h;have g:=(gs.1 f).1;obtain⟨a,e⟩:∃a,J[d]?=some a:=⟨_,Y2 (by rw[<-c.1];exact g)⟩;obtain⟨k,_,j,i⟩:=c.2 d a e;grind
structure CuP (n0:Nat) (w:World) (lb N:Nat) (e:Ending) (w':World):Prop where
 ex:∃lb',e=.returned (.tuple #[pt lb',.bool true])/\(lb'=lb\/∃L',LR n0 w' (pt lb') L' (N+1)/\∀x∈L',w.heap.size<=x)
 fr:Fr [] w w'
