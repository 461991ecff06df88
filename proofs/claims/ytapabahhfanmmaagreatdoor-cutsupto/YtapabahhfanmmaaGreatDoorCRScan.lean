import Derived.Test.YtapabahhfanmmaaGreatDoorCBegin
import Derived.Test.YtapabahhfanmmaaGreatDoorCLaw1
namespace Go.Proofs.YtapabahhfanmmaaGreatDoor
open Go.RowKit List Go.Proofs.Tryz
set_option maxHeartbeats 2000000
set_option maxRecDepth 100000
variable {L S:List Nat} {R:List Value} {a b:Nat} {H:TypeId} {v:Value} {w x:World}
def CmdV(e:World)(d:Value)(a:List Cm):Prop:=(∃f c,d=.slice f 0 c/\a=[])\/∃b c,d=.slice (so b) a.length c/\Cmds e b a/\b<e.heap.size
theorem CmdV.qF{v:Value}{c:List Cm}(a:CmdV w v c)(b:Fr [] w x):CmdV x v c:=by
 obtain a|⟨g,h,d,e,f⟩:=a
 ·exact .inl a
 exact .inr ⟨g,h,d,e.fr b qs,Z1 f b.size⟩
theorem DA(f e h i g:Nat)(a:T)(d:Int)(c:List Cm)(o:Value)(l b:World)(m:TS b f e h i g a)(w:TOk a)(u:CmdV l o c)(n:Fr [] l b)(v:c.length<=2000000)(y:l.heap.size<=e):Cs 118 #[pt f,ii d,o] b λr k=> ∃p,r=.returned p/\Fr [e] b k/\TS k f e h i g (bH d 0 c a).2/\k.ownsRow b.heap.size 3 1 p (bH d 0 c a).1.length (ints (bH d 0 c a).1):=by
 obtain⟨q,j,rfl,rfl⟩|⟨x,j,rfl,s,t⟩:=u
 ·exact TI f e h i g a d q j b m
 exact TH f e h i g x j a d c b m w (s.fr n qs) (Z1 t n.size) qo v
theorem tF(a:List Cm)(d:Value)(k b:World)(i:CmdV k d a)(j:a.length<=2000000):Cs 115 #[d] b λh f=>∃e,h=.returned e/\Fr [] b f/\f.ownsRow b.heap.size 3 1 e (range a.length).length (ints (range a.length)):=by
 rw[length_range];obtain⟨g,c,rfl,rfl⟩|⟨n,c,rfl,l,m⟩:=i
 ·exact KW g 0 c b qo
 exact KW _ a.length c b j
def Refs(b:World)(base:Nat)(h:Value)(c d:List Nat):Prop:=∃a g e f,h=.slice (so a) 2 g/\b.heap[a]?=some (.cells #[e,f] 25)/\base<=a/\b.ownsRow base 3 1 e c.length (ints c)/\b.ownsRow base 3 1 f d.length (ints d)
def RefsA(d:World)(base:Nat)(h:Value)(e f:List Nat):Prop:=∃a b c,h=.slice (so a) 2 2/\d.heap[a]?=some (.cells #[b,c] 25)/\base<=a/\d.ownsRow base 3 1 b e.length (ints e)/\d.ownsRow base 3 1 c f.length (ints f)/\∀g,b.ownBlock=some g->c.ownBlock≠some g
theorem RefsA.refs{base:Nat}(a:RefsA w base v S L):Refs w base v S L:=by obtain⟨g,h,i,b,c,d,e,f,_⟩:=a;exact⟨g,2,h,i,b,c,d,e,f⟩
theorem lF{base:Nat}{size:Nat}(d:w.ownsRow base H size v a R):∃b e c,v=.slice b e c:=by
 obtain⟨i,_⟩|⟨h,f,g,rfl,_⟩:=d.2
 ·grind
 grind
theorem kD{base:Nat}{size:Nat}(c:w.ownsRow base H size v a R)(e:Fr [b] w x)(g:b<base):x.ownsRow base H size v a R:=aF c e (λf d=>by have:=bT c d;grind)
theorem kE{base:Nat}{size:Nat}(c:w.ownsRow base H size v b R)(j:a<=base):w.ownsRow a H size v b R:=by
 refine⟨c.1,?_⟩;obtain h|⟨f,d,e,g,h,i⟩:=c.2
 ·grind
 exact .inr ⟨f,d,e,g,qo,i⟩
theorem VW(c:T)(a:Int)(b:Value):(aP c b).toArray.setIfInBounds 0 (ii a)=(aP {c with turn:=a} b).toArray:=by grind[aP,aK]
theorem zcGame:zeroCells90.size=149:=qk
theorem iL(l:T)(f:Option Addr)(k g:Nat):(aP l (.slice f k g)).toArray.all (·.oneCell')=true:=by
 apply Zk2;intro m j;obtain⟨a,i,rfl⟩:=Qk7.1 j;have:=Qk5.1 i;unfold aK
 by_cases h:a<148
 ·by_cases b:a=0
  ·rw[Q7 b];rfl
  by_cases c:a=1
  ·rw[Z0 b,Q7 c];rfl
  by_cases d:a=2
  ·rw[Z0 b,Z0 c,Q7 d];rfl
  by_cases e:a=3
  ·rw[Z0 b,Z0 c,Z0 d,Q7 e];rfl
  rw[Z0 b,Z0 c,Z0 d,Z0 e,Q7 h];rfl
 have:a=148:=qo;subst this;rfl
theorem play_fin(p m:Nat)(c H:T)(V W:List Cm)(X Y:Value)(a:World)(h1:CmdV a X V)(h2:CmdV a Y W)(bc:V.length<=2000000)(bd:W.length<=2000000)(hc:Hi ((PRow a p m c.us/\c.us.length<=1000/\(0<=c.turn/\c.turn<1000000000)/\bP c.us=true/\H={c with turn:=c.turn+1})\/(1000000000<=c.turn/\H=c))):Cs 74 #[.agg (aP c (.slice (so p) c.us.length m)).toArray,X,Y] a λq s=> ∃am,q=.returned (.tuple #[.agg (aP H (.slice (so p) c.us.length m)).toArray,am])/\Fr [] a s/\RefsA s a.heap.size am (range V.length) (range W.length):=by
 obtain⟨gs,A⟩:=nm ((aP c (.slice (so p) c.us.length m)).toArray);have z:gs.size=149:=by rw[A];simp[aP]
 have I:=aA A;have Q:gs[0]?=some (ii c.turn):=by rw[A];simp[aP,aK]
 have ag:gs[148]?=some (.slice (so p) c.us.length m):=by rw[A];simp[aP,aK]
 rw[<-A];have HG:=aA z;clear A z;obtain⟨C,n⟩:=nm ((a.alloc (.cells gs 90)).alloc (.cells zeroCells90 90));have L:Fr [] a C:=by rw[n];exact((r0 _ _).alloc _).alloc _
 have x:C.heap[a.heap.size]?=some (.cells gs 90):=by rw[n,dW]
 have O:C.heap[a.heap.size+1]?=some (.cells zeroCells90 90):=by rw[n,cZ]
 obtain⟨bg,be,ht,bf,ak⟩|⟨ht,ak⟩:=hc.o
 focus
  have Zq:GV C a.heap.size p m c.us:=⟨by rw[aB x];exact ag,(bg.fr L qs).ppl,be⟩;have ah:=Zq;rw[n]at ah;have HV:=(show Hi _ from ah);have B:=aA n;clear n ah
  delta Cs;go_in
  go_wp2_with (go_at_call 116;refine(qK a.heap.size p m c.us _ HV.o).mono ?_;rintro q w3 ⟨rfl,P⟩;rw[bf];rw[<-B.o]at P;have M:=P.qH x;have ay:=(aB M).trans Q;have az:w3.frozen? ⟨a.heap.size,0,none⟩=false:=aV M)
  obtain⟨e,r⟩:=nm (w3.setCell ⟨a.heap.size,0,none⟩ (ii (c.turn+1)));rw[<-r];have R:Fr [] a e:=by rw[r];exact(L.qT P).setCell _ _ (.inr (Q9 _))
  have N:e.heap[a.heap.size]?=some (.cells (gs.setIfInBounds 0 (ii (c.turn+1))) 90):=by rw[r];exact cJ M 0 _
  have ab:e.heap[a.heap.size+1]?=some (.cells zeroCells90 90):=by rw[r,Zz7 _ _ _ _ qs];exact P.qH O
  obtain⟨b,u⟩:=nm (gs.setIfInBounds 0 (ii (c.turn+1)));rw[<-u]at N;have E:b=(aP H (.slice (so p) c.us.length m)).toArray:=by rw[u,I.o,VW,ak]
  clear r u M ay az x O Q ag Zq HV B I
 rotate_left
 focus
  have ao:=(aB x).trans Q;rw[n]at ao;have B:=aA n;have au:=aA x;have av:=aA O;have Zr:=aA L;clear n x O L Q ag
  delta Cs;go_in
  go_wp2_with fail
  rw[<-B.o];obtain⟨e,r⟩:=nm C;have R:Fr [] a e:=by grind[Hi.o]
  have N:e.heap[a.heap.size]?=some (.cells gs 90):=by grind[Hi.o]
  have ab:e.heap[a.heap.size+1]?=some (.cells zeroCells90 90):=by grind[Hi.o]
  rw[<-r];obtain⟨b,u⟩:=nm gs;rw[<-u]at N;have E:b=(aP H (.slice (so p) c.us.length m)).toArray:=by rw[u,I.o,ak]
  clear r u ao au av Zr B I
 all_goals
  have v:b.size=149:=by rw[E];simp[aP]
  have ar:b.all (·.oneCell')=true:=by rw[E];exact iL _ _ _ _
  have an:=aA E;have aw:∀s,Fr [a.heap.size+1] e s->s.rangeAt a.heap.size 0 b.toList:=λs hf bl am hv=>by rw[Z9,aB (hf.heap N qs)];grind
  have bb:(prog.info? 90).map (·.size)=some b.toList.length:=by rw[dD];simp[v]
  have bh:=aH ab;clear E;have J:Fr [] e e.drew:=(r0 _ _).drew;refine wp_region_held (S:=fun s=>Fr [a.heap.size+1] e s) qk ?_;refine wpAnyH_take (i:=0) (oi:=_) (v:=.agg b.toList.toArray) rfl qk qk qk (fun _ _ _ ax=>ax) (yieldsIf_load_mid qk 90 (.tmp 3) rfl a.heap.size 0 rfl b.toList _ aw X9 rfl bb) J.qO ?_;simp only[Act.put,Array.toArray_toList];refine ty 1 X rfl (fun w0 _=>by go_simp) J.qO ?_;simp only[Act.put];refine ty 3 Y rfl (fun w0 _=>by go_simp) J.qO ?_;simp only[Act.put];refine wpAnyH_ready (rs:=[2]) qk qs ?_;refine J1 rfl (fun K hK=>?_) J2;rw[Q7 (by rfl)]
  go_wp2_with (go_at_call 115;refine(tF V X a _ h1 bc).mono ?_;rintro q w5 ⟨v0,rfl,ba,w⟩)
  have af:=J.qT ba;refine hK.out _ _ af.qO (λ_=>?_);clear hK;refine wpAnyH_ready (rs:=[4]) qk qs ?_;refine J1 rfl (λK hK=>?_) J2;rw[Q7 (by rfl)]
  go_wp2_with (go_at_call 115;refine(tF W Y a _ h2 bd).mono ?_;rintro q d ⟨v1,rfl,ae,F⟩)
  have y:=af.qT ae;refine hK.out _ _ y.qO (λ_=>?_);clear hK;obtain⟨f,k,h,rfl⟩:=lF w;obtain⟨g,l,j,rfl⟩:=lF F;have bi:=R.size;have bj:=af.size;have bk:=y.size;have ac:=y.qH ab;refine wpAnyH_ready (rs:=[5,6]) qk qs ?_;refine J1 rfl (λK hK=>?_) (J1 rfl (λK hK=>?_) J2)
  ·rw[Q7 (by rfl)]
   go_wp2_with fail
   refine hK.out _ _ (y.alloc _).qO (λ_=>?_);clear hK;refine wpAnyH_ready (rs:=[6]) qk qs ?_;refine J1 rfl (λK hK=>?_) J2;rw[Q7 (by rfl)];have ap:(d.alloc (.cells #[.slice f k h,.slice g l j] 25)).heap[a.heap.size+1]?=some (.cells zeroCells90 90):=((r0 [] d).alloc _).qH ac;refine wp_store_row 90 (.tmp 6) _ rfl (a.heap.size+1) b rfl rfl 90 _ ap (by rw[dD,v]) (by rw[v];exact zcGame) ar ?_;have t:Fr [a.heap.size+1] e ((d.alloc (.cells #[.slice f k h,.slice g l j] 25)).setRow (a.heap.size+1) b):=(y.alloc _).qO.setRow _ _ qs;have D:Fr [a.heap.size+1] d ((d.alloc (.cells #[.slice f k h,.slice g l j] 25)).setRow (a.heap.size+1) b):=((r0 _ _).alloc _).setRow _ _ qs;have aj:((d.alloc (.cells #[.slice f k h,.slice g l j] 25)).setRow (a.heap.size+1) b).heap[a.heap.size+1]?=some (.cells b 90):=Qz4 _ _ _ _ _ _ ap;have ad:((d.alloc (.cells #[.slice f k h,.slice g l j] 25)).setRow (a.heap.size+1) b).heap[d.heap.size]?=some (.cells #[.slice f k h,.slice g l j] 25):=by rw[Qx6 _ _ _ _ qo];exact aC _ _
   refine hK.out _ _ t (fun _=>?_);clear hK;simp only[Act.put];refine ty 7 (.slice (so d.heap.size) 2 2) rfl (fun w0 _=>by go_simp) t ?_;refine wpAnyH_done qk ?_ _
   go_wp2_with fail
   have ai:e.drew.heap.size=e.heap.size:=rfl;rw[ai]at w;refine Zq8 (v:=.tuple #[.agg b,.slice (so d.heap.size) 2 2]) (cD results74 _ _ (a.heap.size+1) 90 b (0,0) _ _ rfl rfl aj X9 rfl (by rw[dD,v])) rfl ⟨_,by rw[an.o],?_,d.heap.size,_,_,rfl,ad,by omega,?_,?_,λaa z q=>by have h1:=w.lt aa z;have h2:=bT F q;omega⟩
   ·exact R.trans t qs
   ·exact kE (kD (aF w ae qs) D qo) qo
   exact kE (kD F D qo) qo
  rw[Q7 (by rfl)];refine wp_store_row 90 (.tmp 6) _ rfl (a.heap.size+1) b rfl rfl 90 _ ac (by rw[dD,v]) (by rw[v];exact zcGame) ar ?_;have aq:Fr [a.heap.size+1] e (d.setRow (a.heap.size+1) b):=y.qO.setRow _ _ qs;refine hK.out _ _ aq (λ_=>?_);clear hK;simp only[Act.put];refine wpAnyH_ready (rs:=[5]) qk qs ?_;refine J1 rfl (λK hK=>?_) J2;rw[Q7 (by rfl)]
  go_wp2_with fail
  have t:Fr [a.heap.size+1] e ((d.setRow (a.heap.size+1) b).alloc (.cells #[.slice f k h,.slice g l j] 25)):=aq.alloc _;have D:Fr [a.heap.size+1] d ((d.setRow (a.heap.size+1) b).alloc (.cells #[.slice f k h,.slice g l j] 25)):=((r0 _ _).setRow _ _ qs).alloc _;have aj:((d.setRow (a.heap.size+1) b).alloc (.cells #[.slice f k h,.slice g l j] 25)).heap[a.heap.size+1]?=some (.cells b 90):=((r0 [] _).alloc _).qH (Qz4 _ _ _ _ _ _ ac);have ad:((d.setRow (a.heap.size+1) b).alloc (.cells #[.slice f k h,.slice g l j] 25)).heap[d.heap.size]?=some (.cells #[.slice f k h,.slice g l j] 25):=lT _ _ _ qs;refine hK.out _ _ t (fun _=>?_);clear hK;refine ty 7 (.slice (so d.heap.size) 2 2) rfl (fun w0 _=>by go_simp) t ?_;refine wpAnyH_done qk ?_ _
  go_wp2_with fail
  have ai:e.drew.heap.size=e.heap.size:=rfl;rw[ai]at w;refine Zq8 (v:=.tuple #[.agg b,.slice (so d.heap.size) 2 2]) (cD results74 _ _ (a.heap.size+1) 90 b (0,0) _ _ rfl rfl aj X9 rfl (by rw[dD,v])) rfl ⟨_,by rw[an.o],?_,d.heap.size,_,_,rfl,ad,by omega,?_,?_,λaa z q=>by have h1:=w.lt aa z;have h2:=bT F q;omega⟩
  ·exact R.trans t qs
  ·exact kE (kD (aF w ae qs) D qo) qo
  exact kE (kD F D qo) qo
theorem Dl(f c:Nat)(a:T)(d e:List Cm)(g h:Value)(b:World)(r:PRow b f c a.us)(p:a.us.length<=1000)(s:0<=a.turn/\a.turn<1000000000)(l:CmdV b g d)(m:CmdV b h e)(n:d.length<=2000000)(o:e.length<=2000000)(q:bP a.us=true):Cs 74 #[.agg (aP a (.slice (so f) a.us.length c)).toArray,g,h] b λk j=> ∃i,k=.returned (.tuple #[.agg (aP {a with turn:=a.turn+1} (.slice (so f) a.us.length c)).toArray,i])/\Fr [] b j/\RefsA j b.heap.size i (range d.length) (range e.length):=
 play_fin f c a _ d e g h b l m n o (.inl ⟨r,p,s,q,rfl⟩)
theorem Dj(h e:Nat)(a:T)(c d:List Cm)(f g:Value)(b:World)(p:1000000000<=a.turn)(l:CmdV b f c)(m:CmdV b g d)(n:c.length<=2000000)(o:d.length<=2000000):Cs 74 #[.agg (aP a (.slice (so h) a.us.length e)).toArray,f,g] b λk j=> ∃i,k=.returned (.tuple #[.agg (aP a (.slice (so h) a.us.length e)).toArray,i])/\Fr [] b j/\RefsA j b.heap.size i (range c.length) (range d.length):=
 play_fin h e a _ c d f g b l m n o (.inr ⟨p,rfl⟩)
theorem ZK(a:World):(Instr.makeSlice 46 (ii 2) (ii 2)).run prog a=.ok (.slice (so a.heap.size) 2 2) (a.alloc (.cells #[.slice none 0 0,.slice none 0 0] 25)):=qk
theorem Dk(u r:Nat)(a:T)(g h:List Cm)(bd be:Value)(b:World)(eb:Sd b)(dy:GOk a)(av:PRow b u r a.us)(cb:a.us.length<=1000)(dw:0<a.us.length)(ht:0<=a.turn/\a.turn<1000000000)(y:CmdV b bd g)(z:CmdV b be h)(dt:g.length<=2000000)(du:h.length<=2000000)(ap:bP a.us=false):Cs 74 #[.agg (aP a (.slice (so u) a.us.length r)).toArray,bd,be] b λd H=> ∃bg i m,d=.returned (.tuple #[.agg (aP (aO a g h).1 (.slice (so i) (aO a g h).1.us.length m)).toArray,bg])/\Fr [] b H/\PRow H i m (aO a g h).1.us/\b.heap.size<=i/\RefsA H b.heap.size bg (aO a g h).2.1 (aO a g h).2.2:=by
 obtain⟨gs,t⟩:=nm ((aP a (.slice (so u) a.us.length r)).toArray);have D:gs.size=149:=by rw[t];simp[aP]
 have cz:=aA t;have dr:gs[0]?=some (ii a.turn):=by rw[t];simp[aP,aK]
 have bx:gs[148]?=some (.slice (so u) a.us.length r):=by rw[t];simp[aP,aK]
 have bv:∀j,Fr [] b j->Cs 117 #[.agg gs] j λd H=>∃c i m e q,d=.returned (pt c)/\Fr [] j H/\TS H c i m e q (dN a)/\j.heap.size<=c/\j.heap.size<=i/\j.heap.size<=e/\j.heap.size<=q:=λj hf=>by rw[t];exact QW u r a j (av.fr hf qs) dw cb
 have bh:=aA bv;rw[<-t];clear bv;have HG:=aA D;clear t D;obtain⟨Q,A⟩:=nm ((b.alloc (.cells gs 90)).alloc (.cells zeroCells90 90));have ah:Fr [] b Q:=by rw[A];exact((r0 _ _).alloc _).alloc _
 have ai:Q.heap[b.heap.size]?=some (.cells gs 90):=by rw[A,dW]
 have aj:Q.heap[b.heap.size+1]?=some (.cells zeroCells90 90):=by rw[A,cZ]
 have bz:GV Q b.heap.size u r a.us:=⟨by rw[aB ai];exact bx,(av.fr ah qs).ppl,cb⟩;have ao:=bz;rw[A]at ao;have HV:=(show Hi _ from ao);have HW:=aA A;clear A ao
 delta Cs;go_in
 go_wp2_with (first|(go_at_call 116;refine(qK b.heap.size u r a.us _ HV.o).mono ?_;rintro d j ⟨rfl,s⟩;rw[ap];rw[<-HW.o]at s;have bm:=s.qH ai)|(refine wpList_load_row rfl 90 _ rfl b.heap.size rfl 90 gs (0,0) _ bm X9 rfl (by rw[dD,HG.o]) ?_))
 refine cm (bh.o j (ah.qT s)) ?_;rintro d w4 ⟨c,i,m,e,q,rfl,an,E,q1,q2,q3,q4⟩;have bo:=an.qH (s.qH aj);have cr:=(ah.qT s).qT an;have es:=aH aj;have em:=s.size;clear bm ai aj bz HV HW dr bx cz HG bh av s;have dv:=ZK
 go_wp2_with fail
 obtain⟨W5,W⟩:=nm (w4.alloc (.cells #[.slice none 0 0,.slice none 0 0] 25));rw[<-W];have aa:Fr [] w4 W5:=by rw[W];exact(r0 _ _).alloc _
 have S:W5.heap[w4.heap.size]?=some (.cells #[.slice none 0 0,.slice none 0 0] 25):=by rw[W];exact aC _ _
 clear W;obtain⟨f,cj⟩:=nm w4.heap.size;have ec:=E.lt;have dz:=E.row.lt;have ds:=E.held.lt;have dp:=E.ways.lt;rw[<-cj]at S ec dz ds dp |-;have cs:=cr.qT aa;have bp:=aa.qH bo;have co:=E.qF aa;have ef:b.heap.size+1<c/\b.heap.size+1<i/\b.heap.size+1<e/\b.heap.size+1<q:=qo;have cd:TOk (dN a):=dy;clear cj aa bo cr E an dv q1 q2 q3 q4;obtain⟨R,o0⟩:=lN 0 (λ_=>False) g 0 cd (λ_ d=>d);refine cm (DA c i m e q (dN a) 0 g bd b W5 co cd y cs dt qo) ?_;rintro d w6 ⟨v0,rfl,ab,az,O⟩;obtain⟨a0,n0,c0,rfl⟩:=lF O;have I:=ab.heap S qt;have ck:=aH S;have bq:=ab.heap bp qt;have ct:=cs.trans ab qt;have dk:ca w6 f 0 (.slice none 0 0):=aB I;have dl:w6.frozen? ⟨f,0,none⟩=false:=aV I;obtain⟨t1,aw⟩:=nn ((bH 0 0 g (dN a)).2);obtain⟨r1,Zr⟩:=nn ((bH 0 0 g (dN a)).1);rw[aw]at R o0 az;rw[Zr]at O;have df:=aA aw;have dc:=aA Zr;clear aw Zr S co
 go_wp2_with fail
 obtain⟨W7,X⟩:=nm (w6.setCell ⟨f,0,none⟩ (.slice a0 n0 c0));rw[<-X];have J:Fr [f] w6 W7:=by rw[X];exact(r0 _ _).setCell _ _ qs
 have bk:W7.heap[f]?=some (.cells #[.slice a0 n0 c0,.slice none 0 0] 25):=by rw[X];exact(cJ I 0 _).trans qs
 have ej:=aH I;have ek:b.heap.size+1<f:=qo;have cu:=ct.trans J qt;have br:=J.heap bq qt;have cp:=az.fr J qt qt qt qt;have en:=ab.size;have cf:=kD O J ck;have cx:=aA (λag D=>(O.lt ag D).2);clear X I dk dl az bq ct O bp;obtain⟨x,o1⟩:=lN 1 (λ_=>False) h 0 R.ok (λ_ d=>d);refine cm (DA c i m e q t1 1 h be b W7 cp R.ok z cu du qo) ?_;rintro d w8 ⟨v1,rfl,L,ba,ad⟩;obtain⟨a1,n1,c1,rfl⟩:=lF ad;have V:=L.heap bk qt;have bt:=L.heap br qt;have cw:=cu.trans L qt;have dm:ca w8 f 1 (.slice none 0 0):=aB V;have dn:w8.frozen? ⟨f,1,none⟩=false:=aV V;have cg:=kD cf L qo;obtain⟨n,ax⟩:=nn ((bH 1 0 h t1).2);obtain⟨r2,au⟩:=nn ((bH 1 0 h t1).1);rw[ax]at x o1 ba;rw[au]at ad;have dg:=aA ax;have dd:=aA au;clear ax au bk cp cf br
 go_wp2_with fail
 obtain⟨W9,Y⟩:=nm (w8.setCell ⟨f,1,none⟩ (.slice a1 n1 c1));rw[<-Y];have C:Fr [f] w8 W9:=by rw[Y];exact(r0 _ _).setCell _ _ qs
 have bl:W9.heap[f]?=some (.cells #[.slice a0 n0 c0,.slice a1 n1 c1] 25):=by rw[Y];exact(cJ V 1 _).trans qs
 have bc:=cw.trans C qt;have bu:=C.heap bt qt;have cq:=ba.fr C qt qt qt qt;have eo:=J.size;have aq:=kD cg C ck;have ar:=kD ad C qo;have cc:bP n.us=false:=by rw[o1,o0];exact ap
 have dx:0<n.us.length:=by have y:=x.ok.bs;have z:=Zk1 (p:=aG 0) (l:=n.us);have h3:=Zk1 (p:=aG 1) (l:=n.us);omega
 have Zs:=rH n.us x.ok cc (yH x.ok.rise);have am:=QF c i m e q n W9 cq (eb.fr bc qs) x.ok cc dx;obtain⟨v,ay⟩:=nn (fY n.us n);rw[ay]at Zs am;have dh:=aA ay;have cn:v.turn=a.turn:=by rw[Zs.tn,x.tn,R.tn];rfl
 clear Y V dm dn ba bt cw cg ad ay;refine cm am ?_;rintro d w ⟨rfl,bf,af,B,F,ei⟩;have dj:=B.heap bl qt;have Zt:=B.heap bu qt;have ed:=bc.trans B qt;have ch:=aF aq B (λae e=>by have:=bT aq e;simp;omega);have Zq:=aF ar B (λae e=>by have:=bT ar e;simp;omega);have bw:w.cell? ⟨c,0,none⟩=some (ii v.turn):=by have:=F.cell 0 qo;simpa[aK]using this
 have et:=F.fz 0;rw[cn]at bw;have eq:=bc.size;have el:=B.size;have eh:=F.row.lt;clear bl bu cq aq ar am;have ak:(w.setCell ⟨c,0,none⟩ (ii (a.turn+1))).rangeAt c 0 (aP {v with turn:=a.turn+1} (.slice (so bf) v.us.length af)):=by
  intro k bg P;have hj:k<149:=by have:=(List.getElem?_eq_some_iff.1 P).1;rwa[eI]at this
  unfold aP at P;rw[V4,Zk4 hj]at P;simp only[Option.map_some,Option.some.injEq]at P;rw[<-P,Z9]
  by_cases h0:k=0
  ·subst h0;rw[eA _ _ _ _ _ bw];simp[aK]
  rw[cE _ _ _ _ _ _ (.inr (λd=>h0 d.symm)),F.cell k qo];unfold aK;have ee:¬k=149:=qo;simp only[h0,if_false]
  by_cases y:k=1
  ·simp[y]
  by_cases z:k=2
  ·simp[z]
  by_cases h3:k=3
  ·simp[h3]
  by_cases h8:k<148
  ·simp[y,z,h3,h8]
  have:k=148:=qo;subst this;simp
 have bn:(w.setCell ⟨c,0,none⟩ (ii (a.turn+1))).heap[b.heap.size+1]?=some (.cells zeroCells90 90):=by rw[Zz7 _ _ _ _ qt];exact Zt
 have dq:Fr [c] w (w.setCell ⟨c,0,none⟩ (ii (a.turn+1))):=(r0 _ _).setCell _ _ qs;obtain⟨gl,N⟩:=nm (aP {v with turn:=a.turn+1} (.slice (so bf) v.us.length af));have ac:gl.length=149:=by rw[N];exact eI _ _
 have ce:gl.toArray.all (·.oneCell')=true:=by rw[N];exact iL _ _ _ _
 rw[<-N]at ak;have cy:=aA N;have da:=aA ac;have db:=aA ce;have de:=aA ak;have bj:=aA bn;have bi:Hi ((prog.info? 90).map (·.size)=some gl.toArray.size):=by
  show _=_
  rw[dD,Qx3,ac]
 have di:Hi (zeroCells90.size=gl.toArray.size):=by
  show _=_
  exact zcGame.trans (by simp[ac])
 clear N ac ce ak bn
 go_wp2_with (first|(refine wpList_load_mid rfl 90 _ rfl c 0 rfl gl _ de.o X9 rfl (by rw[dD,da.o]) ?_)|(refine wpList_store_row rfl 90 _ _ rfl (b.heap.size+1) gl.toArray rfl rfl 90 _ bj.o bi.o di.o db.o ?_))
 refine Zq8 (v:=.tuple #[.agg gl.toArray,.slice (so f) 2 2]) (cD results74 _ _ (b.heap.size+1) 90 gl.toArray (0,0) _ _ rfl rfl (Qz4 _ _ _ _ _ _ bj.o) X9 rfl bi.o) rfl ?_;have ea:aO a g h=({v with turn:=a.turn+1},r1,r2):=by unfold aO;rw[Z0 qo,Z0 (by rw[ap];simp)];simp only[df.o,dc.o,dg.o,dd.o,dh.o,cn]
 rw[ea];have M:Fr [c,b.heap.size+1] w ((w.setCell ⟨c,0,none⟩ (ii (a.turn+1))).setRow (b.heap.size+1) gl.toArray):=(dq.mono qs).setRow _ _ qs;have ep:=L.size;have er:=C.size;have eg:=F.n1;refine⟨_,bf,af,by rw[cy.o],ed.trans M qt,F.row.fr M qt,by omega,f,_,_,rfl,M.heap dj qt,by omega,?_,?_,λag D d=>by have y:=cx.o ag D;have z:=bT Zq d;omega⟩
 ·exact kE (aF ch M (λae e=>by have:=bT ch e;simp;omega)) qo
 exact kE (aF Zq M (λae e=>by have:=bT Zq e;simp;omega)) qo
variable {M:List Nat} {c:Nat} {t:T}
theorem LA(e f:Nat)(a:T)(b c:List Cm)(g h:Value)(d:World)(y:Sd d)(w:GOk a)(r:PRow d e f a.us)(p:a.us.length<=1000)(v:0<a.us.length)(A:0<=a.turn)(l:CmdV d g b)(m:CmdV d h c)(n:b.length<=2000000)(o:c.length<=2000000):Cs 74 #[.agg (aP a (.slice (so e) a.us.length f)).toArray,g,h] d λu j=> ∃t i k,u=.returned (.tuple #[.agg (aP (aO a b c).1 (.slice (so i) (aO a b c).1.us.length k)).toArray,t])/\Fr [] d j/\PRow j i k (aO a b c).1.us/\(i=e\/d.heap.size<=i)/\RefsA j d.heap.size t (aO a b c).2.1 (aO a b c).2.2:=by
 by_cases z:1000000000<=a.turn
 ·grind[aO,Calls.mono,Dj,PRow.fr]
 have s:0<=a.turn/\a.turn<1000000000:=qo;cases q:bP a.us with
 |false=>refine(Dk e f a b c g h d y w r p v s l m n o q).mono ?_;grind
 |true=>
  have x:aO a b c=({a with turn:=a.turn+1},range b.length,range c.length):=by grind[aO]
  rw[x];refine(Dl e f a b c g h d r p s l m n o q).mono ?_;grind[PRow.fr]
theorem Refs.fr{S:List Nat}{base:Nat}(g:Refs w base v L M)(c:Fr S w x)(f:∀o∈S,o<base):Refs x base v L M:=by obtain⟨k,l,m,n,h,i,j,d,e⟩:=g;exact⟨k,l,m,n,h,c.heap i (λa=>by grind),j,aF d c (λM b a=>by have:=f _ a;have:=bT d b;omega),aF e c (λM b a=>by have:=f _ a;have:=bT e b;omega)⟩
theorem RefsA.fr{S:List Nat}{base:Nat}(g:RefsA w base v L M)(c:Fr S w x)(f:∀o∈S,o<base):RefsA x base v L M:=by obtain⟨l,m,n,h,i,j,d,e,k⟩:=g;exact⟨l,m,n,h,c.heap i (λa=>by grind),j,aF d c (λM b a=>by have:=f _ a;have:=bT d b;omega),aF e c (λM b a=>by have:=f _ a;have:=bT e b;omega),k⟩
theorem GS.all(g:GS w a b c t):w.rangeAt a 0 (aP t (.slice (so b) t.us.length c)):=by
 intro f h d;have e:f<149:=by grind[eI]
 unfold aP at d;rw[V4,Zk4 e]at d;grind[GS.cell]
theorem TA(c:w.rangeAt a 0 (aP t v)):∀b,b<149->w.cell? ⟨a,b,none⟩=some (aK t v 0 0 b):=by intro b d;have:=c b (aK t v 0 0 b) (by grind[aP]);grind
theorem KY(c:GOk t)(a b:List Cm):GOk (aO t a b).1:=by grind[aO,Played.ok,nV]
theorem Dm(c:GOk t)(d:0<=t.turn/\t.turn<=1000000000)(a b:List Cm):0<=(aO t a b).1.turn/\(aO t a b).1.turn<=1000000000:=by grind[aO,Played.tn,nV]
theorem VX(b x B:Nat)(f:T)(h i:List Cm)(L M:Value)(d:World)(g:GS d b x B f)(aq:Sd d)(aa:GOk f)(ht:0<=f.turn)(C:CmdV d L h)(S:CmdV d M i)(am:h.length<=2000000)(u:i.length<=2000000):Cs 33 #[pt b,L,M] d λe q=> ∃y j s,e=.returned y/\Fr [b] d q/\GS q b j s (aO f h i).1/\(j=x\/d.heap.size<=j)/\RefsA q d.heap.size y (aO f h i).2.1 (aO f h i).2.2:=by
 have ak:=g.lt;obtain⟨gs,w⟩:=nm (aP f (.slice (so x) f.us.length B));have Y:gs.length=149:=by rw[w];simp[aP]
 have E:=g.all;rw[<-w]at E;have H:=λq (v:Fr [] d q)=>LA x B f h i L M q (aq.qF v) aa (g.row.fr v qs) g.len g.ne ht (C.qF v) (S.qF v) am u;rw[<-w]at H;have P:=aA H;have N:=aA E;have HI:Hi ((prog.info? 90).map (·.size)=some gs.length):=by
  show _=_
  rw[dD,Y]
 clear w H E Y
 delta Cs;go_in
 go_wp2_with (first|(go_at_call 39;refine(qZ b _).mono ?_;rintro e w1 ⟨rfl,rfl⟩)|(refine wpList_load_mid rfl 90 _ rfl b 0 rfl gs _ N.o X9 rfl HI.o ?_))
 refine cm (P.o d (r0 _ _)) ?_;rintro e c ⟨y,j,s,rfl,F,ad,ac,an⟩;obtain⟨n,J⟩:=nn ((aO f h i).1);rw[J]at ad |-;obtain⟨a,t⟩:=nm (aP n (.slice (so j) n.us.length s));rw[<-t];have Q:=(show Hi _ from J);have u:a.length=149:=by rw[t];exact eI _ _
 have O:Hi (a.toArray.all (·.oneCell')=true):=by
  show _=_
  rw[t];exact iL _ _ _ _
 have A:Hi ((prog.info? 90).map (·.size)=some a.toArray.size):=by
  show _=_
  rw[dD,Qx3,u]
 have aj:Hi (zeroCells90.size=a.toArray.size):=by
  show _=_
  exact zcGame.trans (by simp[u])
 have ag:=aA t;clear J t P N HI;have m:Fr [] d ((c.alloc (.cells zeroCells90 90)).setRow c.heap.size a.toArray):=(F.alloc _).setRow _ _ (.inr F.size);have k:=g.fr m qs qs;have R:Hi (((c.alloc (.cells zeroCells90 90)).setRow c.heap.size a.toArray).there b 0 a.toArray.size):=by intro ae hj;rw[Qx3,u]at hj;exact⟨by rw[Z9,k.cell ae hj];rfl,by rw[Z9];exact k.fz ae⟩
 have ai:Hi (((c.alloc (.cells zeroCells90 90)).setRow c.heap.size a.toArray).heap[c.heap.size]?=some (.cells a.toArray 90)):=Qz4 _ _ _ _ _ _ (aC _ _);have af:=aA m;have ah:=aA k;clear m k
 go_wp2_with (first|(refine wpList_store_row rfl 90 _ _ rfl c.heap.size a.toArray rfl rfl 90 zeroCells90 (aC c _) A.o aj.o O.o ?_)|(refine wpList_load_row rfl 90 _ rfl c.heap.size rfl 90 a.toArray (0,0) _ ai.o X9 rfl A.o ?_)|(refine wpList_store_mid rfl 90 _ _ rfl b 0 a.toArray rfl rfl R.o A.o O.o ?_))
 go_ret;obtain⟨r,X⟩:=nm ((c.alloc (.cells zeroCells90 90)).setRow c.heap.size a.toArray);have m:=af.o;have k:=ah.o;have W:=R.o;rw[<-X]at m k W |-;have D:Fr [b] r (r.setCells b 0 a):=Fr.setCells b _ _ _ (r0 _ _) (.inl qs);have V:Fr [] c r:=by rw[X];exact((r0 _ _).alloc _).setRow _ _ (.inr (Q9 _))
 have Zq:=g.row.lt;have hz:=g.z;have Zr:=F.size;have ab:j≠b:=by
  obtain e|e:=ac
  ·rw[e];exact λe=>g.n1 e.symm
  omega
 have ao:(r.setCells b 0 a).rangeAt b 0 a:=World.rangeAt_setCells_same _ _ _ _ (qu W);have ap:(r.setCells b 0 a).rangeAt b 0 (aP n (.slice (so j) n.us.length s)):=by rw[<-ag.o];exact ao
 have I:=KY aa h i;rw[Q.o]at I;refine⟨y,j,s,rfl,(m.mono qs).trans D qs,?_,ac,?_⟩
 ·rw[Q.o];refine⟨TA ap,λar=>?_,(ad.fr V qs).fr D (by simp;exact ab),Y3 I.len qo,?_,λe=>ab e.symm,hz.1,by omega⟩
  ·rw[World.frozen?_setCells];exact k.fz ar
  have C:=I.bs;have S:=Zk1 (p:=aG 0) (l:=n.us);have h3:=Zk1 (p:=aG 1) (l:=n.us);dsimp only at C;omega
 exact(an.fr V qs).fr D (by simp;exact ak)
def oQ(a:Cm):Int:=min (min (min (min a.unit a.what) a.x) a.y) a.target
def oP(a:Cm):Int:=max (max (max (max a.unit a.what) a.x) a.y) a.target
def aJ(a:Cm):Cm:=if oQ a<0\/1000000000<oP a then⟨0,0,0,0,0⟩else a
theorem Ks(a:Cm):(0<=(aJ a).unit/\(aJ a).unit<=1000000000)/\(0<=(aJ a).what/\(aJ a).what<=1000000000)/\(0<=(aJ a).x/\(aJ a).x<=1000000000)/\(0<=(aJ a).y/\(aJ a).y<=1000000000)/\(0<=(aJ a).target/\(aJ a).target<=1000000000):=by
 unfold aJ
 split
 ·simp
 rename_i b
 unfold oQ oP at b;omega
theorem Ha(k:Array TypeId)(j:TypeId)(c d e f g:Int)(h:World):(Builtin.min_ k j #[ii c,ii d,ii e,ii f,ii g]).run prog h=.ok (ii (min (min (min (min c d) e) f) g)) h:=by have i:∀a b:Int,(if b<a then b else a)=min a b:=qo;simp[Builtin.min_,Builtin.min2,i]
theorem Gz(k:Array TypeId)(j:TypeId)(c d e f g:Int)(h:World):(Builtin.max_ k j #[ii c,ii d,ii e,ii f,ii g]).run prog h=.ok (ii (max (max (max (max c d) e) f) g)) h:=by have i:∀a b:Int,(if a<b then b else a)=max a b:=qo;simp[Builtin.max_,Builtin.max2,i]
theorem zQ{j:Array Oper}{k:List Oper}{b:Oper}{a:Act}{i:Exit->Act->World->Prop}(z:b.guard=none)(m n o p q:Operand)(l:Array TypeId)(A:b.op=.call {callee:=.builtin .min,args:=#[m,n,o,p,q],argTypes:=l})(c d e f g:Int)(s:a.eval m=ii c)(t:a.eval n=ii d)(u:a.eval o=ii e)(v:a.eval p=ii f)(x:a.eval q=ii g)(h:Int)(y:min (min (min (min c d) e) f) g=h)(r:wpList prog j i k (a.put b.dst (ii h)) w):wpList prog j i (b::k) a w:=by subst y;refine wpList_plain z λK hK=>?_;have B:=Ha l b.type c d e f g w;unfold Oper.wp execOp;simp only[A,resolve,invoke,builtin,Sem.run_bind,Sem.run_pure,Result.andThen_ok,map_toArray,map_cons,map_nil,s,t,u,v,x,B];exact hK _ _ r
theorem zP{j:Array Oper}{k:List Oper}{b:Oper}{a:Act}{i:Exit->Act->World->Prop}(z:b.guard=none)(m n o p q:Operand)(l:Array TypeId)(A:b.op=.call {callee:=.builtin .max,args:=#[m,n,o,p,q],argTypes:=l})(c d e f g:Int)(s:a.eval m=ii c)(t:a.eval n=ii d)(u:a.eval o=ii e)(v:a.eval p=ii f)(x:a.eval q=ii g)(h:Int)(y:max (max (max (max c d) e) f) g=h)(r:wpList prog j i k (a.put b.dst (ii h)) w):wpList prog j i (b::k) a w:=by subst y;refine wpList_plain z λK hK=>?_;have B:=Gz l b.type c d e f g w;unfold Oper.wp execOp;simp only[A,resolve,invoke,builtin,Sem.run_bind,Sem.run_pure,Result.andThen_ok,map_toArray,map_cons,map_nil,s,t,u,v,x,B];exact hK _ _ r
theorem FZ:(prog.info? 81).map (·.size)=some 5:=qk
theorem Kr(a:Cm)(i:World):Cs 122 #[a.val] i λj k=>j=.returned (aJ a).val/\Fr [] i k:=by
 obtain⟨b,g⟩:=nn (oQ a);obtain⟨c,h⟩:=nn (oP a);have d:Hi (min (min (min (min a.unit a.what) a.x) a.y) a.target=b):=g;have e:Hi (max (max (max (max a.unit a.what) a.x) a.y) a.target=c):=h;have l:Hi (aJ a=if b<0\/1000000000<c then⟨0,0,0,0,0⟩else a):=by show _=_;grind[aJ]
 clear g h
 by_cases m:b<0
 ·have f:Hi (aJ a=⟨0,0,0,0,0⟩):=qg
  delta Cs;go_in
  go_wp2_with (first|(refine zQ rfl _ _ _ _ _ _ rfl a.unit a.what a.x a.y a.target rfl rfl rfl rfl rfl b d.o ?_)|(refine zP rfl _ _ _ _ _ _ rfl a.unit a.what a.x a.y a.target rfl rfl rfl rfl rfl c e.o ?_))
  exact Zq8 (v:=Cm.val ⟨0,0,0,0,0⟩) (by simp[results,results122,go_sem]) rfl (by grind[Hi.o,Fr.alloc,r0])
 by_cases n:1000000000<c
 ·have f:Hi (aJ a=⟨0,0,0,0,0⟩):=qg
  delta Cs;go_in
  go_wp2_with (first|(refine zQ rfl _ _ _ _ _ _ rfl a.unit a.what a.x a.y a.target rfl rfl rfl rfl rfl b d.o ?_)|(refine zP rfl _ _ _ _ _ _ rfl a.unit a.what a.x a.y a.target rfl rfl rfl rfl rfl c e.o ?_))
  exact Zq8 (v:=Cm.val ⟨0,0,0,0,0⟩) (by simp[results,results122,go_sem]) rfl (by grind[Hi.o,Fr.alloc,r0])
 have f:Hi (aJ a=a):=qg
 delta Cs;go_in
 go_wp2_with (first|(refine zQ rfl _ _ _ _ _ _ rfl a.unit a.what a.x a.y a.target rfl rfl rfl rfl rfl b d.o ?_)|(refine zP rfl _ _ _ _ _ _ rfl a.unit a.what a.x a.y a.target rfl rfl rfl rfl rfl c e.o ?_))
 exact Zq8 (v:=a.val) (by simp[results,results122,go_sem]) rfl (by grind[Hi.o,Fr.alloc,r0])
variable {n:Int} {l:List UInt8}
structure SC (w:World) (sb:Nat) (l:List UInt8) (k:Nat) (bad:Bool):Prop where
 all:w.heap[sb]?=some (.cells #[.string ⟨l.toArray⟩,ii k,.bool bad] 232)
 le:k<=l.length
theorem SC.fr{S:List Nat}{c:Bool}(d:SC w a l b c)(e:Fr S w x)(f:a∉S):SC x a l b c:=⟨e.heap d.all f,d.le⟩
theorem SC.lt{c:Bool}(d:SC w a l b c):a<w.heap.size:=aH d.all
theorem SC.toBad{d:Bool}(c:SC w a l b d):SC (w.setCell ⟨a,2,none⟩ (.bool true)) a l b true:=⟨by rw[lY c.all];rfl,c.le⟩
theorem SC.toNext{c:Bool}(d:SC w a l b c)(e:b<l.length):SC (w.setCell ⟨a,1,none⟩ (ii ((b:Int)+1))) a l (b+1) c:=⟨by rw[lY d.all];rfl,e⟩
def rF(b:List UInt8)(a:Nat)(c:Bool)(d:Int):Prop:=c=false/\0<(aT (b.drop a)).2/\((aT (b.drop a)).1:Int)<=d
structure SN (w:World) (sb:Nat) (l:List UInt8) (k:Nat) (bad:Bool) (most:Int) (n:Int) (w':World):Prop where
 fr:Fr [sb] w w'
 all:(rF l k bad most/\n=(aT (l.drop k)).1/\SC w' sb l (k+(aT (l.drop k)).2) false)\/(¬rF l k bad most/\n=0/\∃k',SC w' sb l k' true)
theorem SN.wrong{d:Bool}(f:¬rF l b d n)(e:Fr [a] w x)(g:SC x a l c true):SN w a l b d n 0 x:=⟨e,qg⟩
theorem NE(d:Nat)(c:List UInt8)(m:Nat)(x:Bool)(k:Int)(hm:0<=k/\k<=1000000000)(h:World)(f:SC h d c m x)(hl:c.length<=100000000000000):Cs 138 #[pt d,ii k] h λam s=>∃E:Int,am=.returned (ii E)/\SN h d c m x k E s:=by
 have HL:=f.lt;cases x
 ·obtain⟨q,R⟩:∃q:ByteArray,q=⟨c.toArray⟩:=⟨_,rfl⟩;have bc:q.size=c.length:=by rw[R];rfl
  have HG:Hi (∀a (g:a<c.length) (n:a<q.size),(q[a]'n).toNat=(c[a]'g).toNat):=λa g n=>by subst R;rfl
  have HC:Hi (∀{h:World} {a:Nat} {x:Bool},SC h d c a x->h.cell? ⟨d,0,none⟩=some (.string q)/\h.cell? ⟨d,1,none⟩=some (ii a)/\h.cell? ⟨d,2,none⟩=some (.bool x)/\h.frozen? ⟨d,1,none⟩=false/\h.frozen? ⟨d,2,none⟩=false):=λf=>by rw[R];exact⟨aB f.all,aB f.all,aB f.all,aV f.all,aV f.all⟩
  obtain⟨r,C⟩:=nm (c.drop m);have az:r.length=c.length-m:=by rw[C,Qz2]
  have ak:Hi (∀a (g:a<r.length) (n:m+a<c.length),(r[a]'g)=(c[m+a]'n)):=λa g n=>by subst C;simp
  obtain⟨j,M⟩:=nn (aT r);have aj:=aA M;have aa:Hi (∀{E:Int} {s:World},Fr [d] h s->0<j.2->(j.1:Int)<=k->E=j.1->SC s d c (m+j.2) false->SN h d c m false k E s):=λl g n h3 J=>by rw[<-M,C]at g n h3 J;exact⟨l,.inl ⟨⟨rfl,g,n⟩,h3,J⟩⟩
  have B:Hi (∀{k':Nat} {s:World},Fr [d] h s->¬(0<j.2/\(j.1:Int)<=k)->SC s d c k' true->SN h d c m false k 0 s):=λl g J=>by rw[<-M,C]at g;exact SN.wrong (λW=>g W.2) l J
  have ay:=f.le;clear R M C
  delta Cs;go_in
  go_wp2
  go_loopw [5,6,7] (fun ai t u wr=>∃a e:Nat,a<=5/\a<=r.length/\u=ii a/\ai=ii e/\t=ii ((128^a:Nat):Int)/\e<128^a/\Hi (j=fO (5-a) a e (r.drop a))/\SC wr d c (m+a) false/\Fr [d] h wr) (fun _ _ u _=>5-(intOf u).toNat)
  ·exact⟨0,0,by omega,by omega,rfl,rfl,rfl,by omega,aj.o.symm,f,r0 _ _⟩
  obtain⟨a,e,av,ax,rfl,rfl,rfl,hS,I,D,l⟩:=hrel;obtain⟨v,z⟩:=nm (m+a);rw[<-z]at D;have S:=aA z;obtain⟨c0,c1,c2,z1,z2⟩:=HC.o D
  by_cases L:a<5
  ·have ao:(a:Int)<5:=qo
   by_cases g:a<r.length
   ·have n:m+a<c.length:=qo;have ad:v<q.size:=qo;have ac:v<c.length:=qo;have an:¬(q.size:Int)<=(v:Int):=qo;obtain⟨b,O⟩:∃b:Nat,(r[a]'g).toNat=b:=⟨_,rfl⟩;have hb:(q[v]'ad).toNat=b:=(HG.o v ac ad).trans (by subst z;rw[<-ak.o a g n];exact O);have Zr:b<256:=by rw[<-O];exact(r[a]'g).toNat_lt
    have ah:=OH (b:=b) hS L;have hp:128^a<=128^4:=Xq1 qo qo;obtain⟨t,Q⟩:∃t:Nat,t=128^a:=⟨_,rfl⟩;obtain⟨i,N⟩:∃i:Nat,i=e+b%128*128^a:=⟨_,rfl⟩;obtain⟨F,X⟩:∃F:Nat,F=b%128:=⟨_,rfl⟩;rw[<-N]at ah;rw[<-Q]at hp |-;have ag:t*F=i-e:=by rw[N,<-Q,<-X,Nat.mul_comm];omega
    have Zq:e<=i:=qo;have bb:(b:Int).tmod 128=(F:Int):=by rw[X,Qx0 qo];omega
    have ba:(t:Int)*(F:Int)=(i:Int)-(e:Int):=by rw[<-Int.natCast_mul,ag];omega
    have Y:=(show Hi _ from O);have ab:=(show Hi _ from N);have HM:Hi (128*t=128^(a+1)):=by show _=_;rw[Q,Nat.pow_succ,Nat.mul_comm]
    clear O N X Q ag z;have A:=D.toNext ac;go_wp2
    go_region
    go_wp2
    go_region
    by_cases af:128<=b
    ·have ar:¬(b:Int)<128:=qo;go_wp2;go_roundw
     ·exact⟨a+1,i,by omega,by omega,by go_num,by rw[show(e:Int)+((i:Int)-(e:Int))=(i:Int) by omega],by rw[<-HM.o];push_cast;rfl,ah.1,(show Hi _ from by show _=_;rw[I.o,FA g L Y.o af,ab.o]),by rw[<-Y0,<-S.o];exact A.fr (r0 [] _).drew.drew qs,(l.setCell _ _ qs).drew.drew⟩
     simp[intOf];omega
    have ar:(b:Int)<128:=qo;have w:=EZ (S:=e) g L Y.o af;have ae:i=e+b*128^a:=by rw[ab.o,Qz9 qo]
    rw[<-I.o,<-ae]at w;have w:=aA w;clear ae
    by_cases y:b=0/\0<a
    ·have aw:(0:Int)<(a:Int):=qo;have P:((b:Int)==0)=true:=qt;have p:j=(0,0):=by rw[w.o,Q7 (.inl y)]
     subst p;clear y;go_wp2;go_ret;exact⟨0,rfl,B.o ((l.setCell _ _ qs).setCell _ _ qs).drew.drew qs (A.toBad.fr (r0 [] _).drew.drew qs)⟩
    by_cases au:k<(i:Int)
    ·have ap:k<(e:Int)+((i:Int)-(e:Int)):=qo;have p:¬(0<j.2/\(j.1:Int)<=k):=by
      rw[w.o]
      split
      ·simp
      exact λf=>by have:=f.2;dsimp only at this;omega
     by_cases V:b=0
     ·have aq:¬(0:Int)<(a:Int):=qo;have P:((b:Int)==0)=true:=qt;clear y V;go_wp2;go_ret;exact⟨0,rfl,B.o ((l.setCell _ _ qs).setCell _ _ qs).drew.drew p (A.toBad.fr (r0 [] _).drew.drew qs)⟩
     have P:((b:Int)==0)=false:=qt;clear y;go_wp2;go_ret;exact⟨0,rfl,B.o ((l.setCell _ _ qs).setCell _ _ qs).drew.drew p (A.toBad.fr (r0 [] _).drew.drew qs)⟩
    have ap:¬k<(e:Int)+((i:Int)-(e:Int)):=qo;have p:j=(i,a+1):=by rw[w.o,Z0 qo]
    subst p;have H:Hi ((e:Int)+((i:Int)-(e:Int))=(i:Int)/\(i:Int)<=k):=by show _/\_;omega
    by_cases V:b=0
    ·have aq:¬(0:Int)<(a:Int):=qo;have P:((b:Int)==0)=true:=qt;clear y V;go_wp2;go_ret;exact⟨_,rfl,aa.o (l.setCell _ _ qs).drew.drew qs H.o.2 H.o.1 (by rw[<-Y0,<-S.o];exact A.fr (r0 [] _).drew.drew qs)⟩
    have P:((b:Int)==0)=false:=qt;clear y;go_wp2;go_ret;exact⟨_,rfl,aa.o (l.setCell _ _ qs).drew.drew qs H.o.2 H.o.1 (by rw[<-Y0,<-S.o];exact A.fr (r0 [] _).drew.drew qs)⟩
   have n:v=c.length:=qo;have an:(q.size:Int)<=(v:Int):=qo;clear z;have p:j=(0,0):=by rw[I.o];exact vX (λf=>g f.1)
   subst p;go_wp2
   go_region
   go_wp2;go_ret;exact⟨0,rfl,B.o (l.setCell _ _ qs).drew qs (D.toBad.fr (r0 [] _).drew qs)⟩
  have ao:¬(a:Int)<5:=qo;clear z;have p:j=(0,0):=by rw[I.o];exact vX (λf=>L f.2)
  subst p;go_wp2;go_ret;exact⟨0,rfl,B.o (l.setCell _ _ qs) qs D.toBad⟩
 have c2:ca h d 2 (.bool true):=aB f.all;have z2:h.frozen? ⟨d,2,none⟩=false:=aV f.all
 delta Cs;go_in
 go_wp2
 go_loopw [5,6,7] (fun ai t u wr=>u=ii 0/\wr=h) (fun _ _ u _=>5-(intOf u).toNat)
 ·exact⟨rfl,rfl⟩
 obtain⟨rfl,rfl⟩:=hrel;go_wp2;go_ret;exact⟨0,rfl,SN.wrong (λW=>by cases W.1) ((r0 _ _).setCell _ _ qs) f.toBad⟩
