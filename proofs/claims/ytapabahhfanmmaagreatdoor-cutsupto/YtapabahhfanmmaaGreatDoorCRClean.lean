import Derived.Test.YtapabahhfanmmaaGreatDoorCRefH
namespace Go.Proofs.YtapabahhfanmmaaGreatDoor
open Go.RowKit List Go.Proofs.Tryz
set_option maxHeartbeats 4000000
set_option maxRecDepth 100000
variable {A:Gf} {L S:List Nat} {O:List Stp} {a b c:Nat} {t:T} {r u v:Value} {w x:World}
set_option maxRecDepth 100000
abbrev gl(a:T)(c b:Nat):List Value:=aP a (.slice (so c) a.us.length b)
structure RS (w:World) (rb pb cap:Nat) (S:List Nat) (t:T) (mv stv:Value) (g:Gf) (steps:List Stp):Prop where
 bl:SB w rb (gl t pb cap) 97 mv stv
 sve:SVE eQ w mv stv S g steps
 row:PRow w pb cap t.us
 nrb:rb∉S
 npb:pb∉S
 np:pb≠rb
 len:t.us.length<=1000
 ne:0<t.us.length
 z:0<rb/\0<pb
theorem RS.lt(d:RS w a b c S t v u A O):a<w.heap.size:=d.bl.lt
theorem RS.fr{S:List Nat}(d:RS w a b c S t v u A O)(e:Fr L w x)(g:a∉L)(h:b∉L)(i:∀f∈S,f∉L):RS x a b c S t v u A O:=
  {d with bl:=d.bl.fr e g,sve:=d.sve.fr e i,row:=d.row.fr e h}
theorem RS.qF(d:RS w a b c S t u r A O)(e:Fr [] w x):RS x a b c S t u r A O:=d.fr e qs qs qs
theorem RS.all(d:RS w a b c S t v u A O):w.rangeAt a 0 (gl t b c):=by intro e h g;have f:e<(gl t b c).length:=qg;rw[Z9,aB d.bl];grind
theorem lX(a:Nat)(b:World):Cs 36 #[pt a] b (R1 b (pt a)):=by
 delta Cs;go_in
 go_wp2;go_ret;simp_all
theorem qQ(d:World)(f:RS d a b c S t v u A O)(j:O.length<=10000000)(k:0<O.length):Cs 13 #[pt a] d λe i=>∃g,e=.returned g/\i.ownsRow d.heap.size 113 4 g O.length (O.flatMap Stp.cells)/\Fr [] d i:=by
 have h:=Is a (gl t b c) 97 v u O d f.bl f.sve.st j k;rw[eI]at h;clear f
 delta Cs;go_in
 go_wp2_with (go_at_call 36;refine(lX a _).mono ?_;rintro e l ⟨rfl,rfl⟩)
 refine cm h ?_;rintro e l ⟨g,rfl,n,m⟩;go_wp2;go_ret;simp_all
theorem LY(d:World)(e:RS d a b c S t u r A O):Cs 14 #[pt a] d λh k=>∃f,h=.returned (pt f)/\d.heap.size<=f/\GS k f b c t/\Fr [] d k:=by
 have j:=e.all;obtain⟨gs,g⟩:=nm (gl t b c);rw[<-g]at j;have s:gs.length=149:=by grind[eI]
 have HI:Hi ((prog.info? 90).map (·.size)=some gs.length):=by
  show _=_
  rw[dD,s]
 have l:Hi (prog.built 100 [(0,.agg gs.toArray)]=some gs.toArray):=SG _ qo;have m:=aA g;have n:=aA e.row;have q:=e.len;have w:=e.ne;have y:=e.row.lt;have B:=e.z;clear g e
 delta Cs;go_in
 go_wp2_with (first|(go_at_call 36;refine(lX a _).mono ?_;rintro h D ⟨rfl,rfl⟩)|(refine wpList_load_mid rfl 90 _ rfl a 0 rfl gs _ j X9 rfl HI.o ?_)|(refine PE rfl 100 0 (.tmp 7) rfl (.agg gs.toArray) rfl gs.toArray l.o ?_))
 have i:Fr [] d (d.alloc (.cells gs.toArray 100)):=(r0 _ _).alloc _;have p:(d.alloc (.cells gs.toArray 100)).heap[d.heap.size]?=some (.cells gs.toArray 100):=aC _ _;refine Zq8 (v:=.pointer (so d.heap.size)) (by simp[results,results14,go_sem]) rfl ⟨d.heap.size,rfl,Q9 _,⟨fun C x=>?_,qa,PRow.fr n.o i qs,q,w,by omega,by omega,by omega⟩,i⟩;rw[aB p,m.o];grind[aP]
structure RPost (w:World) (rb:Nat) (S:List Nat) (t:T) (g:Gf) (steps:List Stp) (w':World) (pb cap:Nat) (mv stv:Value) (S':List Nat):Prop where
 rs:RS w' rb pb cap S' t mv stv g steps
 fr:Fr (rb::S) w w'
 old:∀b∈S',b∈S\/w.heap.size<=b
theorem RS.post{i:Value}{g:Gf}{h:List Stp}(d:RS w a b c S t v u A O)(e:SPost w a (gl t b c) 97 S eQ g h x r i L):RPost w a S t g h x b c r i L:=by
 have k:=d.row.lt;refine⟨⟨e.bl,e.sve,d.row.fr e.fr ?_,e.nsb,λj=>?_,d.np,d.len,d.ne,d.z⟩,e.fr,e.old⟩
 ·grind[RS.np,RS.npb]
 obtain f|f:=e.old b j
 ·exact d.npb f
 omega
theorem LZ(h:World)(g:RS h a b c S t v u A O)(x:O.length<=10000000):Cs 19 #[pt a] h λj f=>j=.returned (ii t.turn)/\∃e d,RPost h a S t A (O++[bQ LOG]) f b c v e d:=by
 have i:=zC a (gl t b c) 97 eQ v u S A O LOG h g.bl g.sve g.nrb x;rw[eI]at i;have q:=aA (λf e d (m:SPost h a (gl t b c) 97 S eQ A (O++[bQ LOG]) f v e d)=>g.post m);have p:Hi (∀f e d,SPost h a (gl t b c) 97 S eQ A (O++[bQ LOG]) f v e d->f.cell? ⟨a,0,none⟩=some (ii t.turn)):=λf e d m=>by have:=(g.post m).rs.all 0 (ii t.turn) (by simp[gl,aP,aK]);omega
 obtain⟨y,l⟩:∃z:ByteArray,z=⟨LOG.toArray⟩:=⟨_,rfl⟩;have s:y=⟨#[108,111,103]⟩:=l;rw[sv,<-l,s]at i;clear g l s
 delta Cs;go_in
 go_wp2_with (go_at_call 36;refine(lX a _).mono ?_;rintro j n ⟨rfl,rfl⟩)
 refine cm i ?_;rintro j n ⟨rfl,e,d,k⟩;have B:=p.o n e d k;have r:=q.o n e d k;clear i k p q;have w:=aA r;clear r;go_wp2;go_ret;exact⟨rfl,e,d,w.o⟩
variable {l:List UInt8}
set_option maxRecDepth 100000
theorem pG{e:Program}{l:Func}{g h i:Tmp}{ty:TypeId}(o:l.results=#[.cell g ty,.tmp h,.tmp i])(a:Array Value)(d:World)(c:Nat)(n:TypeId)(b:Array Value)(m:Nat×Nat)(f:TypeDesc)(k j:Value)(w:a.getD g undef=.pointer (so c))(x:a.getD h undef=k)(y:a.getD i undef=j)(q:d.heap[c]?=some (.cells b n m))(t:e.underlying ty=some f)(p:(match f with|.struct _|.array _ _=>true|_=>false)=true)(r:(e.info? ty).map (·.size)=some b.size):(results l a).run e d=.ok (.tuple #[.agg b,k,j]) d:=by have s:a[g]?.getD undef=.pointer (so c):=qa;have u:a[h]?.getD undef=k:=qa;have v:a[i]?.getD undef=j:=qa;simp[results,o,s,u,v,asAddr,run_loadVar_row d c n ty b m f q t p r]
theorem LI(f:Nat)(c:List UInt8)(b g:Nat)(e:World)(v:RdAt e f (aM c false b).1 (aM c false b).2)(n:c.length<=1000000)(W:aD c false b=g)(av:g<=1000000000):Cs 125 #[pt f] e λh i=>∃t a,h=.returned t/\CJ e c f (b+1+5*a) t a ((dV c b a).flatMap Cm.cells) i/\a<=g/\(a=g\/(aM c false (b+1+5*a)).2=true):=by
 obtain⟨ar,ak,ao,ap,aq⟩:=Z2 wF;have p:=v.lt;have aa:CJ e c f b (.slice none 0 0) 0 [] e:=⟨v,⟨rfl,qg⟩,r0 _ _⟩;have z:=aa.next p n;rw[W]at z;clear v W aa
 delta Cs;go_in
 go_wp2_with fail
 refine cm z ?_;rintro h w1 ⟨rfl,ab⟩;have F:=aA ab;clear z ab;go_wp2
 go_loopw [3,4] (fun t B wr=>∃a:Nat,a<=g/\B=ii ((g:Int)-a)/\CJ e c f (b+1+5*a) t a ((dV c b a).flatMap Cm.cells) wr) (fun _ B _=>(intOf B).toNat)
 ·exact⟨0,by omega,by go_num,F.o⟩
 obtain⟨a,hk,rfl,w⟩:=hrel;clear F;have A:=tO f _ _ wr w.rd;obtain⟨ai,r⟩:=nm ((aM c false (b+1+5*a)).2);rw[<-r]at A;have E:=aA r;have q:=aA A;have j:=aA w;clear A w r
 by_cases am:a<g
 ·have an:(0:Int)<(g:Int)-a:=qo;cases ai;rotate_left
  ·go_wp2_with fail
   refine cm q.o ?_;rintro h w2 ⟨rfl,k⟩;clear q;go_wp2;go_ret;exact⟨_,a,rfl,⟨j.o.rd.fr k qs,aF j.o.own k qs,j.o.fr.qT k⟩,hk,.inr E.o.symm⟩
  obtain⟨d,m⟩:=nm (oG c b a);have O:aD c false (b+1+5*a)=d.unit:=by rw[m];rfl
  have P:aD c false (b+1+5*a+1)=d.what:=by rw[m];rfl
  have Q:aD c false (b+1+5*a+1+1)=d.x:=by rw[m];rfl
  have R:aD c false (b+1+5*a+1+1+1)=d.y:=by rw[m];rfl
  have V:aD c false (b+1+5*a+1+1+1+1)=d.target:=by rw[m];rfl
  have Zr:Hi ((dV c b (a+1)).flatMap Cm.cells=(dV c b a).flatMap Cm.cells++d.cells):=by
   show _=_
   grind[dV,range_succ]
  go_wp2_with fail
  refine cm q.o ?_;rintro h w2 ⟨rfl,k⟩;have ac:CJ e c f (b+1+5*a) u3 a ((dV c b a).flatMap Cm.cells) w2:=⟨j.o.rd.fr k qs,aF j.o.own k qs,j.o.fr.qT k⟩;have C:=ac.next p n;rw[O]at C;have J:=aA (λi (l:CJ e c f (b+1+5*a+1) u3 a ((dV c b a).flatMap Cm.cells) i)=>P ▸ l.next p n);have L:=aA (λi (l:CJ e c f (b+1+5*a+1+1) u3 a ((dV c b a).flatMap Cm.cells) i)=>Q ▸ l.next p n);have M:=aA (λi (l:CJ e c f (b+1+5*a+1+1+1) u3 a ((dV c b a).flatMap Cm.cells) i)=>R ▸ l.next p n);have N:=aA (λi (l:CJ e c f (b+1+5*a+1+1+1+1) u3 a ((dV c b a).flatMap Cm.cells) i)=>V ▸ l.next p n);have I:=aA C;clear C O P Q R V ac m q E
  go_wp2_with fail
  refine cm I.o ?_;rintro h w3 ⟨rfl,ad⟩
  go_wp2_with fail
  refine cm (J.o _ ad) ?_;rintro h w4 ⟨rfl,ae⟩
  go_wp2_with fail
  refine cm (L.o _ ae) ?_;rintro h w5 ⟨rfl,af⟩
  go_wp2_with fail
  refine cm (M.o _ af) ?_;rintro h w6 ⟨rfl,ag⟩
  go_wp2_with fail
  refine cm (N.o _ ag) ?_;rintro h D ⟨rfl,s⟩;have H:=aA s;have u:Hi ((D.alloc (.cells #[ii d.unit,ii d.what,ii d.x,ii d.y,ii d.target] 81)).ownsRow e.heap.size 81 5 u3 a ((dV c b a).flatMap Cm.cells)):=(s.alloc _).own;have ay:=s.fr.size;clear ad ae af ag s I J L M N
  go_wp2_with (at_builtin;refine wpList_append_own_at _ rfl _ _ 39 rfl e.heap.size 81 ar (.agg #[ii 0,ii 0,ii 0,ii 0,ii 0]) 5 40 Qq5 ak ao ap aq rfl qd u3 a ((dV c b a).flatMap Cm.cells) rfl u.o ⟨D.heap.size,0,none⟩ 1 1 d.cells rfl rfl (xA d D) qc qm qo qt ?_;intro v' w8 ax Y aw au)
  go_roundw
  ·refine⟨a+1,am,by go_num,?_,?_,?_⟩
   ·rw[show b+1+5*(a+1)=b+1+5*a+1+1+1+1+1 by omega];have h7:=(H.o.alloc (.cells #[ii d.unit,ii d.what,ii d.x,ii d.y,ii d.target] 81)).rd;exact h7.fr (iK (S:=u3.ownBlock.toList) (r0 _ _) Y (λaj X=>.inl qg)) (λhm=>by have r:=bT u.o (show u3.ownBlock=some f by grind);omega)
   ·grind[Hi.o]
   exact iK (H.o.fr.alloc _) Y (λaj X=>.inr (bT u.o X))
  simp[intOf];omega
 have an:¬(0:Int)<(g:Int)-a:=qo;have ah:a=g:=qo;have Zq:=aA ah;clear ah q;go_wp2;go_ret;exact⟨_,rfl,a,j.o,hk,qo⟩
theorem LH(b:List UInt8):∀a,(aM b false a).2=false->(aM b false a).1.length+a<=b.length
 |0,_=>Q9 _
 |a+1,d=>by have c:((aM b false a).2||(aT (aM b false a).1).2==0)=false:=d;simp at c;have:=LH b a c.1;grind[aM,aT,nE,length_drop]
theorem tZ(a:gG l):5*dS l+5*fK l+3<=l.length:=by have:=LH l (1+1+5*dS l+1+5*fK l) (by rw[a]);omega
def PR(a:List UInt8)(b:World)(d:Ending)(c:World):Prop:=Fr [] b c/\((gG a/\∃e f,d=.returned (.tuple #[.agg #[ii (aD a false 0),e,f],.bool true])/\c.ownsRow b.heap.size 81 5 e (dX a).length ((dX a).flatMap Cm.cells)/\c.ownsRow b.heap.size 81 5 f (dY a).length ((dY a).flatMap Cm.cells))\/(¬gG a/\d=.returned (.tuple #[.agg zeroTurn,.bool false])))
theorem Jz{k2:Nat}(h:a<=dS l)(e:a=dS l\/(aM l false (1+1+5*a)).2=true)(i:a=dS l->k2<=fK l/\(k2=fK l\/(aM l false (1+1+5*a+1+5*k2)).2=true)):((!(aM l false (1+1+5*a+1+5*k2)).2&&(aM l false (1+1+5*a+1+5*k2)).1.isEmpty)=true↔gG l)/\(gG l->a=dS l/\k2=fK l):=by
 have f:gG l->a=dS l/\k2=fK l:=λc=>by have j:∀d,d<=1+1+5*dS l+1+5*fK l->(aM l false d).2=false:=(by grind[qP,dS,fK,Nat.add_sub_cancel']);grind
 refine⟨⟨λc=>?_,λc=>?_⟩,f⟩
 ·simp at c;have g:a=dS l:=by
   obtain b|b:=e
   ·exact b
   rw[qP l (1+1+5*a) (1+5*k2) qg]at b;cases b
  grind
 grind
theorem Ej(a:List UInt8)(c:World)(H:a.length<=1000000):Cs 81 #[.string ⟨a.toArray⟩] c λg y=>PR a c g y:=by
 obtain⟨j,I⟩:=nm (aD a false 0);have HN:=aA I
 delta Cs;go_in
 go_wp2_with fail
 refine cm (sT a _) ?_;rintro g w1 ⟨p,rfl,ar,ai,E⟩;have aj:RdAt w1 p (aM a false 0).1 (aM a false 0).2:=ai;have J:=xB p a false 0 w1 aj H;rw[<-I]at J
 go_wp2_with fail
 refine cm J ?_;rintro g w2 ⟨rfl,L,F⟩;have ag:=LI p a 1 (dS a) w2 L H (nM a 1).symm (by have:=(iR a false 1).2;unfold dS;omega);have P:=aA ag;have V:=E.qH (aC c (.cells zeroTurn 106));have av:c.heap.size<p:=by simp at ar;omega
 have W:=F.heap V qt;have ak:=(((r0 [] c).alloc _).qT E).trans F qt;have aw:=L.lt;clear J I ai aj L ag V E F
 go_wp2_with fail
 refine cm P.o ?_;rintro g w3 ⟨v1,b,rfl,n,ac,ad⟩;have ah:=LI p a (1+1+5*b) (aD a false (1+1+5*b)).toNat w3 n.rd H (nM a _).symm (by have:=(iR a false (1+1+5*b)).2;omega);have A:=(show Hi _ from And.intro ac ad);clear ac ad;have Q:=aA ah;have X:=n.fr.heap W qt;have am:=ak.trans n.fr qt;have B:=aA n.own;have ax:=n.fr.size;clear P n ah W
 go_wp2_with fail
 refine cm Q.o ?_;rintro g l ⟨v2,d,rfl,k,ae,af⟩;have Y:=k.fr.heap X qt;have Zq:=am.trans k.fr qt;have ay:=k.fr.size;have r:=aA (aF B.o k.fr (λao q=>by have:=bT B.o q;simp;omega));have s:=aA k.own;have au:c.heap.size<w2.heap.size:=qo;have D:=λ(y:World) (hf:Fr [] l y)=>vJ p _ _ y (k.rd.fr hf qs);have z:Hi _:=Jz (k2:=d) A.o.1 A.o.2 (λg=>⟨by unfold fK;rw[<-g];exact ae,by unfold fK;rw[<-g];exact af⟩);obtain⟨ap,C⟩:=nm ((!(aM a false (1+1+5*b+1+5*d)).2&&(aM a false (1+1+5*b+1+5*d)).1.isEmpty));rw[<-C]at D;have M:=aA C;clear C ae af A;have N:=aA D;clear Q k D X;obtain⟨e,h,rfl⟩:=kS r.o;obtain⟨f,i,rfl⟩:=kS s.o;clear B
 go_wp2_with fail
 refine cm (N.o _ ((r0 [] l).alloc _)) ?_;rintro g m ⟨rfl,ab⟩;have x:=((r0 [] l).alloc _).qT ab;have w:=ab.qH (aC l (.cells #[ii j,.slice e b h,.slice f d i] 106));have aa:=x.qH Y;have c0:ca m l.heap.size 0 (ii j):=aB w;have c1:ca m l.heap.size 1 (.slice e b h):=aB w;have c2:ca m l.heap.size 2 (.slice f d i):=aB w;have t:=aA aa;have HI:Hi ((prog.info? 106).map (·.size)=some (#[ii j,.slice e b h,.slice f d i]:Array Value).size):=by show _=some 3;exact sL
 have O:Hi ((#[ii j,.slice e b h,.slice f d i]:Array Value).all (·.oneCell')=true):=by show _=_;simp[Value.oneCell']
 have S:Hi (zeroTurn.size=(#[ii j,.slice e b h,.slice f d i]:Array Value).size):=by show _=_;rfl
 clear Y aa w N;have an:=Zq.qT x;cases ap
 ·have aq:Hi (¬gG a):=λZr=>by grind[Hi.o]
  clear c0 c1 c2 HI O S z M r s
  go_wp2_with (refine wpList_store_row rfl 106 _ _ rfl c.heap.size zeroTurn rfl rfl 106 zeroTurn t.o sL rfl qc ?_)
  have u:Fr [c.heap.size] m (m.setRow c.heap.size zeroTurn):=(r0 _ _).setRow _ _ (.inl qs);exact Zq8 (v:=.tuple #[.agg zeroTurn,.bool false]) (cD results81 _ _ c.heap.size 106 zeroTurn (0,0) _ _ rfl rfl (Qz4 _ _ _ _ _ _ t.o) underlying106 rfl sL) rfl ⟨an.trans u qs,.inr ⟨aq.o,rfl⟩⟩
 have R:=aA (z.o.1.1 M.o.symm);have HE:Hi _:=z.o.2 R.o
 go_wp2_with (refine wpList_store_row rfl 106 _ _ rfl c.heap.size #[ii j,.slice e b h,.slice f d i] rfl rfl 106 zeroTurn t.o HI.o S.o O.o ?_)
 have u:Fr [c.heap.size] m (m.setRow c.heap.size #[ii j,.slice e b h,.slice f d i]):=(r0 _ _).setRow _ _ (.inl qs);refine Zq8 (v:=.tuple #[.agg #[ii j,.slice e b h,.slice f d i],.bool true]) (cD results81 _ _ c.heap.size 106 #[ii j,.slice e b h,.slice f d i] (0,0) _ _ rfl rfl (Qz4 _ _ _ _ _ _ t.o) underlying106 rfl HI.o) rfl ⟨an.setRow _ _ (.inr (Q9 _)),.inl ⟨R.o,_,_,by rw[HN.o],?_,?_⟩⟩
 ·have:=jN (aF (aF r.o x qs) u (λao q=>by have:=bT r.o q;simp;omega)) ak.size;grind[dX,jR,Hi.o]
 have:=jN (aF (aF s.o x qs) u (λao q=>by have:=bT s.o q;simp;omega)) am.size;grind[dY,jR,Hi.o]
variable {X:List U}
theorem Fq(d r p:Nat)(a:T)(b:World)(j:RG b d r p a):Cs 54 #[pt d] b (R0 b (.agg #[ii a.turn,ii (fL a.us),ii a.s0,ii a.s1])):=by
 have C:=j.lt;obtain⟨i,g,l,_⟩:=al b (.cells #[ii 0,ii 0,ii 0,ii 0] 56);have y:i.heap[b.heap.size]?=some (.cells #[ii 0,ii 0,ii 0,ii 0] 56):=by rw[g];exact aC b _
 have f:Fr [] i (b.alloc (.cells #[ii 0,ii 0,ii 0,ii 0] 56)).drew:=by rw[g];exact(r0 _ _).drew
 have F:i.heap.size=b.heap.size+1:=by rw[g];simp
 have h:∀c,Fr [] b c->(λc:World=>cl c d 0 a.turn/\cl c d 145 a.s0/\cl c d 146 a.s1) c:=by intro c z;have k:=j.fr z qs qs;exact⟨k.c0,k.c145,k.c146⟩
 have s:=h _ (l.qT f);clear g
 delta Cs;go_in
 go_wp2
 go_region_held (fun c:World=>ca c d 0 (ii a.turn)/\ca c d 145 (ii a.s0)/\ca c d 146 (ii a.s1))
  (first|with_reducible exact s|with_reducible exact h _ m|(refine h _ ?_;with_reducible exact(((m.setCell _ _ (.inr (Q9 _))).setCell _ _ (.inr (Q9 _))).setCell _ _ (.inr (Q9 _))).setCell _ _ (.inr (Q9 _))))
  (first|(go_at_call 99;refine(pF d r p a.us _ (j.gv.qF (l.qT f))).mono ?_;rintro B o ⟨rfl,q⟩;have m:=(l.qT f).qT q;have n:=(f.qT q).qH y;have D:∀e,o.cell? ⟨b.heap.size,e,none⟩=#[ii 0,ii 0,ii 0,ii 0][e]?:=(λe=>aB n);have E:∀e,o.frozen? ⟨b.heap.size,e,none⟩=false:=(λe=>aV n)))
 all_goals
  go_wp2_with fail
  have t:=cJ n 0 (ii a.turn);have u:=cJ t 1 (ii (fL a.us));have w:=cJ u 2 (ii a.s0);have x:=cJ w 3 (ii a.s1);have A:((((o.setCell ⟨b.heap.size,0,none⟩ (ii a.turn)).setCell ⟨b.heap.size,1,none⟩ (ii (fL a.us))).setCell ⟨b.heap.size,2,none⟩ (ii a.s0)).setCell ⟨b.heap.size,3,none⟩ (ii a.s1)).heap[b.heap.size]?=some (.cells #[ii a.turn,ii (fL a.us),ii a.s0,ii a.s1] 56):=by simpa using x
  exact Zq8 (v:=.agg #[ii a.turn,ii (fL a.us),ii a.s0,ii a.s1]) (Zz8 results54 _ _ b.heap.size 56 _ (0,0) _ rfl A underlying56 rfl GF) rfl ⟨rfl,(((m.setCell _ _ (.inr (Q9 _))).setCell _ _ (.inr (Q9 _))).setCell _ _ (.inr (Q9 _))).setCell _ _ (.inr (Q9 _))⟩
theorem OA(a:Int):(dK X a).isSome=X.any (aG a):=by grind[dK]
theorem EB(a:Int):(cK X a).isSome=X.any (aG a):=by have:∀X:List U,(X.find? (aG a)).isSome=X.any (aG a):=qg;exact this X
theorem zM(a:1<=X.countP (aG 0)+X.countP (aG 1)):fL X=eD X:=by grind[aG,countP_eq_zero,any_eq_false,fL,eD,OA,EB]
theorem Di(A s:Nat)(d:T)(e:List UInt8)(a:World)(X:e.length<=1000000)(N:¬jD d e):Cs 42 #[.agg (gl d A s).toArray,.string ⟨e.toArray⟩] a (R0 a (.tuple #[.agg (gl d A s).toArray,.slice none 0 0,.bool false])):=by
 obtain⟨gl,p⟩:=nm (gl d A s);have J:gl.length=149:=by rw[p];exact eI _ _
 have I:gl.toArray[0]?=some (ii d.turn):=by rw[p];simp[aP,aK]
 have D:Hi (gl.toArray.all (·.oneCell')=true):=by
  show _=_
  grind[iL]
 have f:Hi ((prog.info? 90).map (·.size)=some gl.toArray.size):=by
  show _=_
  rw[dD,Qx3,J]
 have E:Hi (zeroCells90.size=gl.toArray.size):=by
  show _=_
  simp_all
 rw[<-p];have C:=aA N;clear p J N
 delta Cs;go_in
 go_wp2_with fail
 obtain⟨m,x⟩:=nm ((a.alloc (.cells gl.toArray 90)).alloc (.cells zeroCells90 90));rw[<-x];have Y:Fr [] a m:=by grind[Fr.alloc,r0]
 have F:m.heap[a.heap.size]?=some (.cells gl.toArray 90):=by grind[eL,aC]
 have H:m.heap[a.heap.size+1]?=some (.cells zeroCells90 90):=by rw[x];exact cZ _ _ _
 clear x;refine cm (Ej e m X) ?_;have l:Hi (∀b,Fr [] a b->b.heap[a.heap.size+1]?=some (.cells zeroCells90 90)->Fr [] a (b.setRow (a.heap.size+1) gl.toArray)/\(b.setRow (a.heap.size+1) gl.toArray).heap[a.heap.size+1]?=some (.cells gl.toArray 90)):=λb g c=>⟨g.setRow _ _ (.inr qo),Qz4 _ _ _ _ _ _ c⟩;rintro ad B ⟨y,k⟩;have u:=y.qH F;have w:=y.qH H;have aa:=Y.qT y;have n:∀t:Array Value,∃b,b=B.alloc (.cells t 106)/\b.cell? ⟨a.heap.size,0,none⟩=some (ii d.turn)/\b.heap[a.heap.size]?=some (.cells gl.toArray 90)/\b.heap[a.heap.size+1]?=some (.cells zeroCells90 90)/\Fr [] a b:=λt=>by have g:Fr [] B (B.alloc (.cells t 106)):=(r0 _ _).alloc _;exact⟨_,rfl,(aB (g.qH u)).trans I,g.qH u,g.qH w,aa.qT g⟩
 have ae:=aH w;clear F H I u w;obtain⟨k,v1,v2,rfl,P,Q⟩|⟨k,rfl⟩:=k
 ·dsimp only;obtain⟨R,ab,rfl⟩:=kS P;obtain⟨S,ac,rfl⟩:=kS Q;obtain⟨z,O⟩:=nm (aD e false 0);obtain⟨m1,L⟩:=nm ((dX e).length);obtain⟨m2,M⟩:=nm ((dY e).length);have V:¬z=d.turn\/z=d.turn/\(1000000000:Int)<=d.turn:=by grind[Hi.o]
  rw[<-O,<-L,<-M];obtain⟨b,rfl,W,j,c,i⟩:=n #[ii z,.slice R m1 ab,.slice S m2 ac];have q:=aA j;have r:=aA c;have h:=(show Hi _ from l.o _ i c);clear k P Q O L M n j c i l C;obtain af|⟨rfl,ht⟩:=V
  all_goals
   go_wp2_with (first|(refine wpList_load_row rfl 90 _ rfl a.heap.size rfl 90 gl.toArray (0,0) _ q.o X9 rfl f.o ?_)|(refine wpList_store_row rfl 90 _ _ rfl (a.heap.size+1) gl.toArray rfl rfl 90 zeroCells90 r.o f.o E.o D.o ?_))
   exact Zq8 (v:=.tuple #[.agg gl.toArray,.slice none 0 0,.bool false]) (pG results42 _ _ (a.heap.size+1) 90 gl.toArray (0,0) _ _ _ rfl rfl rfl h.o.2 X9 rfl f.o) rfl ⟨rfl,h.o.1⟩
 obtain⟨b,rfl,W,j,c,i⟩:=n zeroTurn;have q:=aA j;have r:=aA c;have h:=(show Hi _ from l.o _ i c);clear k n j c i l C
 go_wp2_with (first|(refine wpList_load_row rfl 90 _ rfl a.heap.size rfl 90 gl.toArray (0,0) _ q.o X9 rfl f.o ?_)|(refine wpList_store_row rfl 90 _ _ rfl (a.heap.size+1) gl.toArray rfl rfl 90 zeroCells90 r.o f.o E.o D.o ?_))
 exact Zq8 (v:=.tuple #[.agg gl.toArray,.slice none 0 0,.bool false]) (pG results42 _ _ (a.heap.size+1) 90 gl.toArray (0,0) _ _ _ rfl rfl rfl h.o.2 X9 rfl f.o) rfl ⟨rfl,h.o.1⟩
def jF(a:Int):Bool:=decide (0<=a)&&decide (a<=1000000000)
theorem qR(a:Int)(b:World):Cs 186 #[ii a] b (R1 b (.bool (jF a))):=by
 unfold jF
 by_cases c:0<=a
 ·by_cases d:a<=1000000000
  ·delta Cs;go_in
   go_wp2;go_ret;simp_all
  delta Cs;go_in
  go_wp2;go_ret;simp_all
 delta Cs;go_in
 go_wp2;go_ret;exact⟨by simp;omega,rfl⟩
theorem Kt(a:Cm):aJ a=if(jF a.unit&&(jF a.what&&(jF a.x&&(jF a.y&&jF a.target))))=true then a else⟨0,0,0,0,0⟩:=by
 have b:0<=oQ a↔((((0<=a.unit/\0<=a.what)/\0<=a.x)/\0<=a.y)/\0<=a.target):=by grind[oQ]
 have c:oP a<=1000000000↔((((a.unit<=1000000000/\a.what<=1000000000)/\a.x<=1000000000)/\a.y<=1000000000)/\a.target<=1000000000):=by unfold oP;simp only[Int.max_le]
 grind[aJ,jF,oQ,oP]
structure ClI (w:World) (l:List Cm) (k:Nat) (v:Value) (wr:World):Prop where
 own:wr.ownsRow w.heap.size 81 5 v k (((l.map aJ).take k).flatMap Cm.cells)
 fr:Fr [] w wr
theorem MC(d:List Cm)(L:Value)(a:World)(aa:CmdR a L d)(bz:d.length<=2000000):Cs 142 #[L] a λp w'=>∃V,p=.returned V/\w'.ownsRow a.heap.size 81 5 V d.length ((d.map aJ).flatMap Cm.cells)/\Fr [] a w':=by
 obtain⟨bi,br,bw,bx,Zs⟩:=Z2 FY;obtain⟨N,S,rfl⟩:∃N S,L=.slice N d.length S:=by
  obtain⟨N,S,rfl,rfl⟩|⟨f,m,S,rfl,_⟩:=aa
  ·exact⟨_,_,rfl⟩
  grind
 have HL:=aA aa;clear aa
 delta Cs;go_in
 go_wp2
 go_loopw [3,4] (fun L ag wr=>∃b:Nat,b<=d.length/\ag=ii b/\ClI a d b L wr) (fun _ ag _=>d.length-(intOf ag).toNat)
 ·exact⟨0,Z3 _,rfl,⟨rfl,.inl ⟨rfl,rfl⟩⟩,r0 _ _⟩
 obtain⟨b,hk,rfl,hown,R⟩:=hrel
 by_cases ae:b<d.length
 ·have bf:(b:Int)<(d.length:Int):=qo;obtain⟨h,hc⟩:∃h,d[b]?=some h:=⟨d[b],Y2 ae⟩;obtain⟨f,m,rfl,bs,A⟩:∃f m,N=some ⟨f,m,none⟩/\f<a.heap.size/\a.rangeAt f (m+b*5) h.cells:=by grind[Hi.o,CmdR]
  have z:∀s,wr.cell? ⟨f,s,none⟩=a.cell? ⟨f,s,none⟩:=λs=>R.cell _ _ bs qs;have Y:wr.cell? ⟨f,m+b*5,none⟩=some (ii h.unit):=(z _).trans (A 0 _ rfl);have c1:wr.cell? ⟨f,m+b*5+1,none⟩=some (ii h.what):=(z _).trans (A 1 _ rfl);have c2:wr.cell? ⟨f,m+b*5+2,none⟩=some (ii h.x):=(z _).trans (A 2 _ rfl);have c3:wr.cell? ⟨f,m+b*5+3,none⟩=some (ii h.y):=(z _).trans (A 3 _ rfl);have c4:wr.cell? ⟨f,m+b*5+4,none⟩=some (ii h.target):=(z _).trans (A 4 _ rfl);have ar:=aA (λt H=>(hown.lt t H).1);have Zq:=aA (λt H=>(hown.lt t H).2);have X:=aA hown;have bh:=R.size;have M:Hi (((d.map aJ).take (b+1)).flatMap Cm.cells=((d.map aJ).take b).flatMap Cm.cells++(aJ h).cells):=by
   show _=_
   grind[take_add_one]
  have n:=(show Hi _ from And.intro br (And.intro bw (And.intro bx Zs)));have J:=Kt h;have bm:=M;obtain⟨ca,i,j,k,l⟩:=h;dsimp only at Y c1 c2 c3 c4 J;obtain⟨o,h0⟩:=nn (jF ca);obtain⟨r,P⟩:=nn (jF i);obtain⟨u,F⟩:=nn (jF j);obtain⟨E,h3⟩:=nn (jF k);obtain⟨O,h4⟩:=nn (jF l);rw[h0,P,F,h3,h4]at J;obtain⟨ap,w⟩:=nn (aJ ⟨ca,i,j,k,l⟩);rw[w]at J M;have ba:=aA J;have au:=(show Hi (∀a,Cs 186 #[ii ca] a (R1 a (.bool o)))from λa=>h0 ▸ qR ca a);have av:=(show Hi (∀a,Cs 186 #[ii i] a (R1 a (.bool r)))from λa=>P ▸ qR i a);have aw:=(show Hi (∀a,Cs 186 #[ii j] a (R1 a (.bool u)))from λa=>F ▸ qR j a);have ax:=(show Hi (∀a,Cs 186 #[ii k] a (R1 a (.bool E)))from λa=>h3 ▸ qR k a);have ay:=(show Hi (∀a,Cs 186 #[ii l] a (R1 a (.bool O)))from λa=>h4 ▸ qR l a);have C:=aA R;clear hown A z hc h0 P F h3 h4 J w bm R;obtain⟨wo,bg⟩:=nm wr;rw[<-bg]at Y c1 c2 c3 c4 Zq X C bh |-;clear bg;obtain⟨g,bd,be,q⟩:=al wo (.cells #[ii ca,ii i,ii j,ii k,ii l] 81)
  go_wp2_with fail
  rw[<-bd];obtain⟨e,hB⟩:=nm wo.heap.size;rw[<-hB]at q |-;have e0:g.cell? ⟨e,0,none⟩=some (ii ca):=aB q;have e1:g.cell? ⟨e,1,none⟩=some (ii i):=aB q;have e2:g.cell? ⟨e,2,none⟩=some (ii j):=aB q;have e3:g.cell? ⟨e,3,none⟩=some (ii k):=aB q;have e4:g.cell? ⟨e,4,none⟩=some (ii l):=aB q;have aq:=aA hB;have Zr:=aA q;have D:=aA be;clear Y c1 c2 c3 c4 bd hB q be bh bf;refine cm (au.o _) ?_;rintro p W ⟨rfl,rfl⟩;clear au
  go_wp2_with fail
  refine cm (av.o _) ?_;rintro p W ⟨rfl,rfl⟩;clear av
  go_wp2_with fail
  refine cm (aw.o _) ?_;rintro p W ⟨rfl,rfl⟩;clear aw
  go_wp2_with fail
  refine cm (ax.o _) ?_;rintro p W ⟨rfl,rfl⟩;clear ax
  go_wp2_with fail
  refine cm (ay.o _) ?_;rintro p W ⟨rfl,rfl⟩;clear ay;have H:(o=false)\/(o=true/\r=false)\/(o=true/\r=true/\u=false)\/(o=true/\r=true/\u=true/\E=false)\/(o=true/\r=true/\u=true/\E=true/\O=false)\/(o=true/\r=true/\u=true/\E=true/\O=true):=by cases o<;>cases r<;>cases u<;>cases E<;>cases O<;>simp
  have bv:=D.o.size;have bl:Hi (∀c bj,Fr [] g c->(c.alloc bj).ownsRow a.heap.size 81 5 u3 b (((d.map aJ).take b).flatMap Cm.cells)):=λc bj F=>aF (aF X.o (D.o.qT F) qs) ((r0 [] c).alloc _) qs;have az:Hi (∀(c:World) (ah ai aj ak am:Int) (s:Nat) (an:Value),[ii ah,ii ai,ii aj,ii ak,ii am][s]?=some an->(c.alloc (.cells #[ii ah,ii ai,ii aj,ii ak,ii am] 81)).cell? ((⟨c.heap.size,0,none⟩:Addr).add s)=some an):=λc ah ai aj ak am s an hu=>by rw[i7,Z9,aB (aC c _)];simpa using hu
  have cg:=Y3 C.o.size bv;obtain rfl|⟨rfl,rfl⟩|⟨rfl,rfl,rfl⟩|⟨rfl,rfl,rfl,rfl⟩|⟨rfl,rfl,rfl,rfl,rfl⟩|⟨rfl,rfl,rfl,rfl,rfl⟩:=H
  rotate_left 5
  ·have w:ap=⟨ca,i,j,k,l⟩:=by have:=ba.o;simpa using this
   subst w
   go_wp2_with (at_builtin;refine wpList_append_own _ rfl _ _ 39 rfl a.heap.size 81 bi (Cm.val ⟨0,0,0,0,0⟩) 5 40 Qq5 n.o.1 n.o.2.1 n.o.2.2.1 n.o.2.2.2 rfl qd u3 b (((d.map aJ).take b).flatMap Cm.cells) rfl (bl.o g _ (r0 _ _)) ⟨g.heap.size,0,none⟩ 1 1 [ii ca,ii i,ii j,ii k,ii l] rfl rfl (az.o g ca i j k l) qc qm qo qt ?_;intro V w3 af ad bu)
   have ac:=((C.o.qT D.o).alloc _).grow ad (fun v I=>.inr (ar.o v I));go_roundw
   ·exact⟨b+1,ae,by go_num,by rw[M.o];exact af,ac⟩
   simp[intOf];omega
  all_goals
   have w:ap=⟨0,0,0,0,0⟩:=by have:=ba.o;simpa using this
   subst w;obtain⟨c,Q⟩:=nm (g.setRow e #[ii 0,ii 0,ii 0,ii 0,ii 0]);have B:c.heap[e]?=some (.cells #[ii 0,ii 0,ii 0,ii 0,ii 0] 81):=by rw[Q];exact Qz4 _ _ _ _ _ _ Zr.o
   have ab:Fr [e] g c:=by rw[Q];exact(r0 _ _).setRow _ _ (.inl qs)
   have bb:=(C.o.qT D.o).trans ab (by simp;have:=aq.o;have:=C.o.size;omega);have g0:c.cell? ⟨e,0,none⟩=some (ii 0):=aB B;have g1:c.cell? ⟨e,1,none⟩=some (ii 0):=aB B;have g2:c.cell? ⟨e,2,none⟩=some (ii 0):=aB B;have g3:c.cell? ⟨e,3,none⟩=some (ii 0):=aB B;have g4:c.cell? ⟨e,4,none⟩=some (ii 0):=aB B;have bt:∀t,u3.ownBlock=some t->t∉[e]:=λv I p=>by
    have P:v=e:=by simpa using p
    have:=Zq.o v I;have:=aq.o;omega
   have bc:(c.alloc (.cells #[ii 0,ii 0,ii 0,ii 0,ii 0] 81)).ownsRow a.heap.size 81 5 u3 b (((d.map aJ).take b).flatMap Cm.cells):=aF (aF (aF X.o D.o qs) ab bt) ((r0 [] c).alloc _) qs;have bk:=aA bc;have bo:Hi ((prog.info? 81).map (·.size)=some (#[ii 0,ii 0,ii 0,ii 0,ii 0]:Array Value).size):=by show _=some 5;exact FZ
   have bp:Hi ((#[ii 0,ii 0,ii 0,ii 0,ii 0]:Array Value).all (·.oneCell')=true):=by show _=_;simp[Value.oneCell']
   have bq:Hi ((#[ii ca,ii i,ii j,ii k,ii l]:Array Value).size=(#[ii 0,ii 0,ii 0,ii 0,ii 0]:Array Value).size):=by show _=_;rfl
   have cf:=bb.size;have bn:=aA Q;clear B ab bc Q
   go_wp2_with (first
    |(refine wpList_store_row rfl 81 _ _ rfl e #[ii 0,ii 0,ii 0,ii 0,ii 0] rfl rfl 81 #[ii ca,ii i,ii j,ii k,ii l] Zr.o bo.o bq.o bp.o ?_;rw[<-bn.o])
    |(at_builtin;refine wpList_append_own _ rfl _ _ 39 rfl a.heap.size 81 bi (Cm.val ⟨0,0,0,0,0⟩) 5 40 Qq5 n.o.1 n.o.2.1 n.o.2.2.1 n.o.2.2.2 rfl qd u3 b (((d.map aJ).take b).flatMap Cm.cells) rfl bk.o ⟨c.heap.size,0,none⟩ 1 1 [ii 0,ii 0,ii 0,ii 0,ii 0] rfl rfl (az.o c 0 0 0 0 0) qc qm qo qt ?_;intro V w3 af ad bu))
   have ac:=(bb.alloc _).grow ad (fun v I=>.inr (ar.o v I));go_roundw
   ·exact⟨b+1,ae,by go_num,by rw[M.o];exact af,ac⟩
   simp[intOf];omega
 have:b=d.length:=qo;subst this;have bf:¬(d.length:Int)<(d.length:Int):=qo;rw[l8 qs]at hown;go_wp2;go_ret;simp_all
