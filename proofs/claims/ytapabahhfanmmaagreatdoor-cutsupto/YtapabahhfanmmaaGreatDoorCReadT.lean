import Derived.Test.YtapabahhfanmmaaGreatDoorCRNil
namespace Go.Proofs.YtapabahhfanmmaaGreatDoor
open Go.RowKit List Go.Proofs.Tryz
set_option maxHeartbeats 8000000
set_option maxRecDepth 100000
set_option maxRecDepth 100000
theorem XH(b:Nat)(c:Int)(a:World)(h:a.cell? ⟨b,148,none⟩=some (.slice none 0 0))(i:a.cell? ⟨b,1,none⟩=some (ii c)):Cs 174 #[pt b] a λe g=>BP (0<c) a e g:=by
 delta Cs;go_in
 go_wp2
 go_loopw [3,11] (fun f d wr=>d=ii 0/\f=ii 0/\a=wr) (fun _ d _=>0)
 ·grind
 obtain⟨rfl,rfl,rfl⟩:=hrel
 by_cases j:0<c
 ·go_wp2;go_ret;exact⟨true,rfl,qa,r0 _ _⟩
 go_wp2;go_ret;exact⟨false,rfl,qa,r0 _ _⟩
theorem SX(a:World):Cs 149 #[.slice none 0 0] a λf e=>∃d,f=.returned (.map (some d))/\MapF e d (λ_=>none)/\Fr [] a e:=by
 have g:=@run_makeMap prog
 delta Cs;go_in
 go_wp2_with fail
 obtain⟨b,c⟩:=nm (a.alloc (.map #[] 0));have j:MapF b a.heap.size (λ_=>none):=MapF.made (clock:=0) (by grind[aC]);have i:Fr [] a b:=by grind[Fr.alloc,r0]
 rw[<-c];clear c g
 go_loopw [9] (fun h wr=>h=ii 0/\b=wr) (fun _ _=>0)
 ·grind
 obtain⟨rfl,rfl⟩:=hrel;go_wp2;go_ret;simp_all
theorem Cw(f:Nat)(a:World)(g:a.cell? ⟨f,148,none⟩=some (.slice none 0 0)):Cs 175 #[pt f] a λe b=>BP True a e b:=by
 have k:=aI g;have i:=aA SX;have j:Hi (∀b c,MapF b c (λ_=>none)->∀ty,(Builtin.len_ #[205] ty #[.map (some c)]).run prog b=.ok (ii 0) b):=λb c d ty=>d.count [] nodup_nil qg 205 3 ty j9
 delta Cs;go_in
 go_wp2
 go_loopw [10] (fun l wr=>l=ii 0/\a=wr) (fun _ _=>0)
 ·grind
 obtain⟨rfl,rfl⟩:=hrel;go_wp2
 go_region_with (first|(go_at_call 149;refine cm (i.o _) ?_;rintro e m ⟨c,rfl,d,h⟩;have p:=j.o m c d;have n:=(((r0 [] a).drew.qT h).cell _ _ k qs).trans g))
 all_goals
  go_wp2;go_ret;exact⟨true,rfl,qa,(r0 [] a).drew.qT h⟩
theorem QV(c:Nat)(a:World)(f:a.cell? ⟨c,148,none⟩=some (.slice none 0 0)):Cs 176 #[pt c] a λg l=>BP False a g l:=by
 have j:=aI f;have h:(a.alloc (.cells #[ii 0,ii 0] 54)).cell? ⟨c,148,none⟩=some (.slice none 0 0):=(((r0 [] a).alloc _).cell _ _ j qs).trans f
 delta Cs;go_in
 go_wp2_with fail
 obtain⟨b,d⟩:=nm (a.alloc (.cells #[ii 0,ii 0] 54));have e:b.heap[a.heap.size]?=some (.cells #[ii 0,ii 0] 54):=by grind[aC]
 have i:Fr [] a b:=by grind[Fr.alloc,r0]
 rw[<-d]at h |-;clear d
 go_loopw [11] (fun k wr=>k=ii 0/\b=wr) (fun _ _=>0)
 ·grind
 obtain⟨rfl,rfl⟩:=hrel;have m:ca b a.heap.size 0 (ii 0):=aB e;have n:ca b a.heap.size 1 (ii 0):=aB e
 go_wp2_with fail
 all_goals
  go_ret;exact⟨false,rfl,qa,i⟩
theorem ZN(d:Nat)(j:T)(e:World)(q:∀a,Fr [] e a->a.rangeAt d 4 (dH j.bd))(i:e.cell? ⟨d,148,none⟩=some (.slice none 0 0))(p:e.cell? ⟨d,1,none⟩=some (ii j.next)):Cs 133 #[pt d] e (R0 e (.bool false)):=by
 have k:=aI i;obtain⟨y,n⟩:∃x:Prop,x=(∀s,s<144->j.bd s<=10):=⟨_,rfl⟩;have t:Hi (∀a,Fr [] e a->Cs 173 #[pt d] a λh E=>BP y a h E):=λa f=>by rw[n];exact BJ d j a (q a f)
 have u:=aA (λa (f:Fr [] e a)=>XH d j.next a ((f.cell _ _ k qs).trans i) ((f.cell _ _ k qs).trans p));have v:=aA (λa (f:Fr [] e a)=>Cw d a ((f.cell _ _ k qs).trans i));have w:=aA (λa (f:Fr [] e a)=>QV d a ((f.cell _ _ k qs).trans i));clear q i p n
 delta Cs;go_in
 go_wp2_with fail
 refine cm (t.o _ (r0 _ _)) ?_;rintro h H ⟨g,rfl,b,l⟩;have c:=aA b;clear b;cases g
 ·go_wp2;go_ret;exact⟨rfl,l⟩
 clear c
 go_wp2_with fail
 refine cm (u.o _ l) ?_;rintro h I ⟨g,rfl,b,B⟩;have c:=aA b;clear b;have m:=l.qT B;cases g
 ·go_wp2;go_ret;exact⟨rfl,m⟩
 clear c
 go_wp2_with fail
 refine cm (v.o _ m) ?_;rintro h J ⟨g,rfl,b,C⟩;have c:=aA b;clear b;have r:=m.qT C;have A:=c.o.2 p8;subst A;clear c
 go_wp2_with fail
 refine cm (w.o _ r) ?_;rintro h L ⟨g,rfl,b,D⟩;have c:=aA b;clear b;have F:=r.qT D;have z:g=false:=by cases g;rfl;exact(c.o.1 rfl).elim
 subst z;clear c;go_wp2;go_ret;simp_all
variable {l:List UInt8} {a b c:Nat} {t:T} {C:U} {v:Value} {w x:World}
def uE:T:=⟨0,0,0,0,λ_=>0,[],λ_=>none⟩
def dA(a:T)(b e d:Nat):T:=⟨if 0<b then a.turn else 0,if 3<b then a.next else 0,if 1<b then a.s0 else 0,if 2<b then a.s1 else 0,λc=>if c<e then a.bd c else 0,a.us.take d,λ_=>none⟩
theorem mY:zeroCells90=(aP uE (.slice none 0 0)).toArray:=qk
theorem Ee(b:T)(a:Value):aP uE a=aP (dA b 0 0 0) a:=by grind[aP,aK,dA,uE]
theorem Dy(c:T)(b:Value):∀a,a<149->a≠0->aK (dA c 0 0 0) b 0 0 a=aK (dA c 1 0 0) b 0 0 a:=λa _ d=>by unfold aK dA;grind
theorem Ea(c:T)(b:Value):∀a,a<149->a≠2->aK (dA c 1 0 0) b 0 0 a=aK (dA c 2 0 0) b 0 0 a:=λa _ d=>by unfold aK dA;grind
theorem Eb(c:T)(b:Value):∀a,a<149->a≠3->aK (dA c 2 0 0) b 0 0 a=aK (dA c 3 0 0) b 0 0 a:=λa _ d=>by unfold aK dA;grind
theorem Dz(c:T)(b:Value):∀a,a<149->a≠1->aK (dA c 3 0 0) b 0 0 a=aK (dA c 4 0 0) b 0 0 a:=λa _ d=>by unfold aK dA;grind
theorem Ec(d:T)(c:Value)(b:Nat):∀a,a<149->a≠4+b->aK (dA d 4 b 0) c 0 0 a=aK (dA d 4 (b+1) 0) c 0 0 a:=λa _ e=>by unfold aK dA;grind
theorem Ed(b:T)(e f:Value)(c d:Nat):∀a,a<149->a≠148->aK (dA b 4 144 c) e 0 0 a=aK (dA b 4 144 d) f 0 0 a:=λa _ g=>by unfold aK dA;grind
theorem tH(c:T)(b:Value)(d:Nat):∀a,a<149->aK (dA c 4 144 d) b 0 0 a=aK c b 0 0 a:=λa e=>by unfold aK dA;grind
theorem VV(f d:T)(e c:Value)(a:Nat)(g:Value)(k:a<149)(j:∀b,b<149->b≠a->aK f e 0 0 b=aK d c 0 0 b)(l:aK d c 0 0 a=g):(aP f e).toArray.setIfInBounds a g=(aP d c).toArray:=by
 apply Zk8;intro i;rw[Zk9]
 by_cases h:a=i
 ·simp_all[aP]
 rw[Z0 h];simp only[aP,getElem?_toArray,getElem?_map];grind
structure RJ (w0:World) (l:List UInt8) (rb A:Nat) (n:Nat) (t:T) (pv:Value) (w:World):Prop where
 rd:RdAt w rb (aM l false n).1 (aM l false n).2
 g:w.heap[A]?=some (.cells (aP t pv).toArray 90)
 fr:Fr [rb,A] w0 w
theorem RJ.cell(d:RJ w l a b c t v x)(k:Nat)(e:k<149):x.cell? ⟨b,k,none⟩=some (aK t v 0 0 k):=by rw[aB d.g];grind[aP]
theorem RJ.fz(d:RJ w l a b c t v x)(e:Nat):x.frozen? ⟨b,e,none⟩=false:=aV d.g
theorem RJ.put{t':T}{pv':Value}(h:RJ w l a b c t v x)(n:a≠b)(d:Nat)(f:Value)(k:d<149)(j:∀e,e<149->e≠d->aK t v 0 0 e=aK t' pv' 0 0 e)(m:aK t' pv' 0 0 d=f):RJ w l a b c t' pv' (x.setCell ⟨b,d,none⟩ f):=by
 refine⟨⟨?_⟩,?_,h.fr.setCell _ _ qs⟩
 ·grind[Below.heap_setCell,RdAt.all,RJ.rd]
 rw[lY h.g,VV t t' v pv' d f k j m]
theorem RJ.next(d:RJ w l a b c t v x)(k:a≠b)(i:l.length<=2000000):Cs 124 #[pt a] x λe j=>e=.returned (ii (aD l false c))/\RJ w l a b (c+1) t v j:=by refine cm (xC a l false c x d.rd i) ?_;rintro e m ⟨rfl,h,f⟩;exact⟨rfl,h,f.heap d.g qg,d.fr.trans f qs⟩
theorem RJ.unit(d:RJ w l a b c t v x)(m:a≠b)(k:l.length<=2000000)(n:iF (λj=>aD l false (c+j))=C):Cs 132 #[pt a] x λf i=>f=.returned C.val/\RJ w l a b (c+11) t v i/\Fr [a] x i:=by refine cm (El a _ _ x d.rd (Y3 (yC l false c) k)) ?_;rintro f o ⟨rfl,h,e⟩;rw[yA]at h;refine⟨?_,⟨h,e.heap d.g qg,d.fr.trans e qs⟩,e⟩;grind[aD,aM]
theorem RJ.at148(d:RJ w l a b c t v x):x.cell? ⟨b,148,none⟩=some v:=by have:=d.cell 148 qo;grind[aK]
theorem Ab(c:U)(a:World)(b:Nat)(d:Value)(e:c.cells[b]?=some d):(a.alloc (.cells c.arr 85)).cell? ((⟨a.heap.size,0,none⟩:Addr).add b)=some d:=by simp_all[Addr.add_lit,Nat.zero_add]
structure RdP (l:List UInt8) (t:T):Prop where
 n0:aD l false 0=t.turn
 n2:aD l false 2=t.s0
 n3:aD l false 3=t.s1
 n4:aD l false 4=t.next
 nb:∀j,j<144->aD l false (5+j)=t.bd j
 nl:aD l false 149=t.us.length
 nu:∀i u,t.us[i]?=some u->iF (λf=>aD l false (150+11*i+f))=u
theorem Cr(a:List UInt8):RdP a (bS a):=⟨rfl,rfl,rfl,rfl,(by grind[oZ]),(tB a).symm,(by grind[sZ])⟩
theorem mG:prog.built 90 []=some zeroCells90:=qk
theorem gS:(prog.info? 90).map (·.size)=some zeroCells90.size:=qk
theorem lE:zeroCells90.all (·.oneCell')=true:=qk
def zY(g:List UInt8)(b:T)(c:World)(f:Ending)(d:World):Prop:=
 (PL g/\∃a e,f=.returned (.tuple #[.agg (aP b (.slice (so a) b.us.length e)).toArray,.bool true])/\PRow d a e b.us/\c.heap.size<=a/\Fr [] c d) \/
 (¬PL g/\f=.returned (.tuple #[.agg (aP uE (.slice none 0 0)).toArray,.bool false])/\Fr [] c d)
abbrev zX(a:List UInt8)(c:World)(b:Ending)(d:World):Prop:=zY a (bS a) c b d
theorem LK(b:List UInt8)(f:World)(hl:b.length<=2000000)(ei:0<f.heap.size):Cs 90 #[.string ⟨b.toArray⟩] f λg n=>zX b f g n:=by
 obtain⟨a,ht⟩:=nm (bS b);have F:Hi (RdP b a):=by rw[ht];exact Cr b
 have E:Hi (PL b↔(a.us.length<=100/\aD b false 1=eD a.us/\aM b false (150+11*a.us.length)=([],false)/\GOk a/\OS a)):=by
  show _↔_
  rw[ht,<-xQ b];exact⟨λe=>⟨e.len,e.win,e.ne,e.ok,e.os⟩,λe=>⟨e.1,e.2.1,e.2.2.1,e.2.2.2.1,e.2.2.2.2⟩⟩
 have cj:Hi (a.us.length<=100->Bnd a):=by rw[ht];exact tA b
 have H:Hi (∀g n,zY b a f g n->zX b f g n):=by rw[ht];exact λ_ _ e=>e
 clear ht;obtain⟨wn,cd⟩:=nn (aD b false 1);have ap:=aA cd;clear cd;have A:Hi (∀{w0:World} {i c bb:Nat} {a:T} {m:Value} {f:World} (j:Int),aD b false bb=j->RJ w0 b i c bb a m f->i≠c->Cs 124 #[pt i] f λg n=>g=.returned (ii j)/\RJ w0 b i c (bb+1) a m n):=λj hx e hn=>hx ▸ e.next hn hl
 delta Cs;go_in
 go_wp2_with fail
 have cc:Fr [] f (f.alloc (.cells zeroCells90 90)):=(r0 _ _).alloc _;have cf:=aC f (.cells zeroCells90 90);refine cm (sT b _) ?_;rintro g w1 ⟨i,rfl,bv,aw,af⟩;have bx:=cc.qT af;have bj:=af.qH cf;have ax:=aw.lt
 go_wp2_with fail
 obtain⟨l,aa⟩:=nm (w1.alloc (.cells zeroCells90 90));rw[<-aa];obtain⟨c,hA⟩:=nm w1.heap.size;rw[<-hA];have s:i≠c:=qo;have P:Fr [] w1 l:=by rw[aa];exact(r0 _ _).alloc _
 have j0:RJ l b i c 0 (dA a 0 0 0) (.slice none 0 0) l:=⟨aw.fr P qs,by rw[hA,aa,aC,mY,Ee a],r0 _ _⟩;have bk:=P.qH bj;have ay:=bx.qT P;have ej:f.heap.size<c:=by have:=af.size;simp at this;omega
 have el:f.heap.size<i:=by simp at bv;omega
 have HA:=aA hA;have cx:=aA ax;have bc:Hi (w1.heap.size<l.heap.size):=by show w1.heap.size<l.heap.size;rw[aa];simp
 clear aa hA bv aw af cf bj ax P bx cc;refine cm (A.o _ F.o.n0 j0 s) ?_;rintro g z ⟨rfl,j1⟩;have c0:=j1.cell 0 qo;have z0:=j1.fz 0;clear j0
 go_wp2_with fail
 have j2:=j1.put (t':=dA a 1 0 0) (pv':=.slice none 0 0) s 0 (ii a.turn) qo (Dy a _) rfl;obtain⟨w4,bz⟩:=nm (z.setCell ⟨c,0,none⟩ (ii a.turn));rw[<-bz]at j2 |-;clear bz c0 z0 j1;refine cm (A.o _ ap.o j2 s) ?_;rintro g w5 ⟨rfl,j3⟩;clear j2
 go_wp2_with fail
 refine cm (A.o _ F.o.n2 j3 s) ?_;rintro g w6 ⟨rfl,j4⟩;clear j3
 go_wp2_with fail
 refine cm (A.o _ F.o.n3 j4 s) ?_;rintro g w7 ⟨rfl,V⟩;clear j4;have c2:=V.cell 2 qo;have c3:=V.cell 3 qo;have z2:=V.fz 2;have z3:=V.fz 3
 go_wp2_with fail
 have j6:=(V.put (t':=dA a 2 0 0) (pv':=.slice none 0 0) s 2 (ii a.s0) qo (Ea a _) rfl).put (t':=dA a 3 0 0) (pv':=.slice none 0 0) s 3 (ii a.s1) qo (Eb a _) rfl;obtain⟨w8,cb⟩:=nm ((w7.setCell ⟨c,2,none⟩ (ii a.s0)).setCell ⟨c,3,none⟩ (ii a.s1));rw[<-cb]at j6 |-;clear cb c2 c3 z2 z3 V;refine cm (A.o _ F.o.n4 j6 s) ?_;rintro g w9 ⟨rfl,j7⟩;clear j6;have c1:=j7.cell 1 qo;have z1:=j7.fz 1
 go_wp2_with fail
 have j8:=j7.put (t':=dA a 4 0 0) (pv':=.slice none 0 0) s 1 (ii a.next) qo (Dz a _) rfl;obtain⟨eq,Zs⟩:=nm (w9.setCell ⟨c,1,none⟩ (ii a.next));rw[<-Zs]at j8 |-;clear Zs c1 z1 j7
 go_loopw [26] (fun w wr=>∃k:Nat,k<=12/\w=ii k/\RJ l b i c (5+k*12) (dA a 4 (k*12) 0) (.slice none 0 0) wr) (fun w _=>12-(intOf w).toNat)
 ·exact⟨0,by omega,rfl,j8⟩
 obtain⟨k,en,rfl,h⟩:=hrel;clear j8
 by_cases ds:k<12
 ·have dt:(k:Int)<12:=qo;have HJ:=aA h;clear h
  go_wp2_with fail
  obtain⟨wo,ce⟩:=nm wr;rw[<-ce]at HJ |-;clear ce
  go_loopw [29] (fun w wr=>∃j:Nat,j<=12/\w=ii j/\RJ l b i c (5+(k*12+j)) (dA a 4 (k*12+j) 0) (.slice none 0 0) wr) (fun w _=>12-(intOf w).toNat)
  ·exact⟨0,by omega,rfl,HJ.o⟩
  obtain⟨j,em,rfl,L⟩:=hrel
  by_cases dq:j<12
  ·have dr:(j:Int)<12:=qo;have Y:RJ l b i c (5+(k*12+j)) (dA a 4 (k*12+j) 0) (.slice none 0 0) wr.drew:=⟨⟨L.rd.all⟩,L.g,L.fr.drew⟩;have cq:=aA Y;have bq:=F.o.nb (k*12+j) qo;have cs:=aA bq;clear L Y bq;go_wp2
   go_region_with (first|(go_at_call 124;refine cm (A.o _ cs.o cq.o s) ?_;rintro g z ⟨rfl,jn⟩;have cn:=jn.cell (4+(k*12+j)) qo;have zn:=jn.fz (4+(k*12+j));rw[<-Y0]at cn zn))
   all_goals
    go_wp2;go_roundw
    ·refine⟨j+1,dq,by go_num,?_⟩;rw[show 4+k*12+j=4+(k*12+j) by omega];exact jn.put s (4+(k*12+j)) _ qo (Ec a _ _) (by unfold aK dA;rw[Z0 qo,Z0 qo,Z0 qo,Z0 qo,Q7 qo];dsimp only;rw[Q7 qo,show 4+(k*12+j)-4=k*12+j by omega])
    simp[intOf];omega
  have dr:¬(j:Int)<12:=qo;have ch:j=12:=qo;have HX:=aA ch;clear ch;go_wp2;go_roundw
  ·exact⟨k+1,ds,by go_num,by have:=HX.o;rw[this,show k*12+12=(k+1)*12 by omega]at L;exact L⟩
  simp[intOf];omega
 have dt:¬(k:Int)<12:=qo;have ba:k=12:=qo;rw[ba]at h;have HY:=aA ba;clear ba
 go_wp2_with fail
 refine cm (A.o _ F.o.nl h s) ?_;rintro g er ⟨rfl,jl⟩;clear h
 by_cases bo:(100:Int)<(a.us.length:Int)
 ·have x:Hi (¬PL b):=λe=>by have:=(E.o.1 e).1;omega
  have u:=ay.trans jl.fr qt;have p:=jl.fr.heap bk qt;clear jl;have q:=aA p;clear p
  go_wp2_with (first|(refine mB rfl 90 rfl zeroCells90 mG ?_)|(refine wpList_store_row rfl 90 _ _ rfl f.heap.size zeroCells90 rfl rfl 90 zeroCells90 q.o gS rfl lE ?_))
  refine Zq8 (v:=.tuple #[.agg zeroCells90,.bool false]) (cD Xq7 _ _ f.heap.size 90 zeroCells90 (0,0) _ _ rfl rfl (Qz4 _ _ _ _ _ _ q.o) X9 rfl gS) rfl (H.o _ _ (.inr ⟨x.o,by rw[mY],u.setRow _ _ (.inr (Q9 _))⟩))
 have ef:=bo;have Zr:a.us.length<=100:=qo;clear bo
 go_wp2_with fail
 obtain⟨dx,dj,R,du,dv⟩:=Z2 jU;have dc:c<l.heap.size:=by rw[HA.o];exact bc.o
 have ax:i<l.heap.size:=by have:=cx.o;have:=bc.o;omega
 have bp:∀ad:Value,(∀B,ad.ownBlock=some B->l.heap.size<=B)->ad.ownBlock≠some c/\ad.ownBlock≠some i:=λad D=>⟨λg=>by have:=D c g;omega,λg=>by have:=D i g;omega⟩;have X:=aA bp;have ae:=aA dc;clear bp
 go_loopw [47] (fun w wr=>∃(d:Nat) (m:Value),d<=a.us.length/\w=ii d/\RJ l b i c (150+11*d) (dA a 4 144 d) m wr/\wr.ownsRow l.heap.size 85 11 m d ((a.us.take d).flatMap U.cells)/\Hi (d=0->m=.slice none 0 0)) (fun w _=>a.us.length-(intOf w).toNat)
 ·exact⟨0,.slice none 0 0,by omega,rfl,jl,⟨rfl,.inl ⟨rfl,rfl⟩⟩,(show Hi _ from λ_=>rfl)⟩
 obtain⟨d,m,hk,rfl,h,hown,ao⟩:=hrel;clear jl
 by_cases bn:d<a.us.length
 ·have dm:(d:Int)<(a.us.length:Int):=qo;obtain⟨C,hu⟩:∃C,a.us[d]?=some C:=⟨a.us[d],Y2 bn⟩;have bt:=F.o.nu d C hu;have Y:RJ l b i c (150+11*d) (dA a 4 144 d) m wr.drew:=⟨⟨h.rd.all⟩,h.g,h.fr.drew⟩;have cz:Hi (Cs 132 #[pt i] wr.drew λg n=>∃ac,g=.returned ac/\(ac=C.val/\RJ l b i c (150+11*d+11) (dA a 4 144 d) m n/\Fr [i] wr.drew n)):=Qx1 (Y.unit s hl bt) (λg n e=>⟨C.val,e.1,rfl,e.2⟩);have cy:Hi ((a.us.take (d+1)).flatMap U.cells=(a.us.take d).flatMap U.cells++C.cells):=by
   show _=_
   obtain⟨dl,rfl⟩:=gs.1 hu;rw[Qj7 dl,Qz5];simp
  have bu:=λB (hb:m.ownBlock=some B)=>bT hown hb;have W:=aA bu;have cu:=aA hown;have hc:=h.at148;have ee:=aH h.g;clear h Y hown bu hu bt;go_wp2
  go_region_law (first
   |(refine pJ rfl (.tmp 50) (.tmp 53) 82 rfl l.heap.size 85 dx zeroU.val 11 88 Qq8 dj R du dv rfl qd m d ((a.us.take d).flatMap U.cells) (by simp[Act.eval]) ct.o ⟨z.heap.size,0,none⟩ 1 1 C.cells (by simp[Act.eval]) rfl (Ab C z) qc qm qo qt ?_;intro v' w4 av bm eb;obtain⟨g',db,rfl⟩:=bK av qo;have ai:=Fr.grow (S:=m.ownBlock.toList) (r0 _ _) bm (λbh hg=>.inl (by simp[hg]));have ec:=(ai.cell c 148 qt (by have:=(X.o m W.o).1;simp;exact this)).trans ((((r0 [] z).alloc _).cell c 148 bi qs).trans de);have eo:=(ai.frozen c 148 qt (by have:=(X.o m W.o).1;simp;exact this)).trans ((((r0 [] z).alloc _).frozen c 148 bi qs).trans dw))
   |(refine Id rfl 132 51 222 rfl (pt i) rfl (λ_=>by kernel_rfl) cz.o ?_;rintro ac z ⟨rfl,J,di⟩;have de:=J.at148;have dw:=J.fz 148;have bi:=aH J.g;have eh:=J.fr.size;have ct:Hi ((z.alloc (.cells C.arr 85)).ownsRow l.heap.size 85 11 m d ((a.us.take d).flatMap U.cells)):=aF cu.o (Fr.alloc (S:=[i]) (Fr.trans (Fr.drew (r0 [i] wr)) di qs) _) (λB hb=>by have:=W.o B hb;simp;omega)))
  all_goals
   go_wp2;go_roundw
   ·obtain⟨nA,nR⟩:=X.o m W.o;have ed:l.heap.size<=g':=bT av rfl;have j4:RJ l b i c (150+11*d+11) (dA a 4 144 d) m w4:=by
     refine⟨⟨?_⟩,?_,(J.fr.alloc _).grow bm (λbh hg=>.inr (W.o bh hg))⟩
     ·exact ai.heap (((r0 [] z).alloc _).qH J.rd.all) (by simp;exact nR)
     exact ai.heap (((r0 [] z).alloc _).qH J.g) (by simp;exact nA)
    refine⟨d+1,_,bn,by go_num,j4.put (t':=dA a 4 144 (d+1)) (pv':=.slice (so g') (d+1) db) s 148 _ qo (Ed a _ _ _ _) rfl,?_⟩;refine⟨?_,(show Hi _ from fun e=>by omega)⟩;rw[cy.o];refine aF av ((r0 [c] w4).setCell _ _ qs) (fun B hb=>?_);simp[Value.ownBlock]at hb;have:=ae.o;simp;omega
   simp[intOf];omega
 have dm:¬(d:Int)<(a.us.length:Int):=qo;have dk:d=a.us.length:=qo;subst dk;rw[Zq1]at hown;have aq:=vJ i _ _ wr h.rd;obtain⟨ak,hD⟩:=nm ((!(aM b false (150+11*a.us.length)).2&&(aM b false (150+11*a.us.length)).1.isEmpty));rw[<-hD]at aq;have bd:=aA aq;have HD:Hi (ak=true↔aM b false (150+11*a.us.length)=([],false)):=by
  show _↔_
  rw[hD]
  generalize aM b false (150+11*a.us.length)=ac
  obtain⟨r1,r2⟩:=ac;cases r2<;>simp
 have cg:=h.fr;have N:=ay.trans cg qt;have M:=cg.heap bk qt;clear aq hD;obtain R|br:=Zj6 a.us.length
 ·have x:Hi (¬PL b):=λe=>by have hq:=(E.o.1 e).2.2.2.1.bs;dsimp only at hq;rw[length_eq_zero_iff]at R;rw[R]at hq;simp at hq
  have Zt:=ao.o R;subst Zt;have an:=aA (λn (I:Fr [] wr n)=>ZN c a n (λep P v ad D=>by
    have Q:v<144:=by have:=(gs.1 D).1;rwa[lA]at this
    have dd:c<wr.heap.size:=aH h.g;have dh:=I.qT P;have df:=dh.cell c (4+v) dd qs;rw[df,h.cell (4+v) qo,tH a _ _ _ qo];unfold dH at D;rw[V4,Zk4 Q]at D;simp only[Option.map_some,Option.some.injEq]at D;rw[<-D];unfold aK;rw[Z0 qo,Z0 qo,Z0 qo,Z0 qo,Q7 qo,show 4+v-4=v by omega]) ((I.cell _ _ (aH h.g) qs).trans h.at148) (by
    rw[I.cell _ _ (aH h.g) qs,h.cell 1 qo,tH a _ _ _ qo]
    rfl))
  clear h hown A X ao R
  go_wp2_with fail
  refine cm bd.o ?_;rintro g dy ⟨rfl,y⟩;cases ak
  ·have u:=N.qT y;have p:=y.qH M;have q:=aA p;clear p
   go_wp2_with (first|(refine mB rfl 90 rfl zeroCells90 mG ?_)|(refine wpList_store_row rfl 90 _ _ rfl f.heap.size zeroCells90 rfl rfl 90 zeroCells90 q.o gS rfl lE ?_))
   refine Zq8 (v:=.tuple #[.agg zeroCells90,.bool false]) (cD Xq7 _ _ f.heap.size 90 zeroCells90 (0,0) _ _ rfl rfl (Qz4 _ _ _ _ _ _ q.o) X9 rfl gS) rfl (H.o _ _ (.inr ⟨x.o,by rw[mY],u.setRow _ _ (.inr (Q9 _))⟩))
  go_wp2_with fail
  refine cm (an.o _ y) ?_;rintro g dz ⟨rfl,ag⟩;have u:=N.qT (y.qT ag);have p:=(y.qT ag).qH M;have q:=aA p;clear p
  go_wp2_with (first|(refine mB rfl 90 rfl zeroCells90 mG ?_)|(refine wpList_store_row rfl 90 _ _ rfl f.heap.size zeroCells90 rfl rfl 90 zeroCells90 q.o gS rfl lE ?_))
  refine Zq8 (v:=.tuple #[.agg zeroCells90,.bool false]) (cD Xq7 _ _ f.heap.size 90 zeroCells90 (0,0) _ _ rfl rfl (Qz4 _ _ _ _ _ _ q.o) X9 rfl gS) rfl (H.o _ _ (.inr ⟨x.o,by rw[mY],u.setRow _ _ (.inr (Q9 _))⟩))
 obtain⟨r,t,rfl,bw⟩:∃r t,m=.slice (so r) a.us.length t/\PRow wr r t a.us:=by obtain⟨r,t,h1,h2⟩:=PRow.qW hown rfl br;exact⟨r,t,h1,h2.2⟩
 have eg:l.heap.size<=r:=bT hown rfl;have Zq:GS wr c r t a:=by
  refine⟨λv Q=>?_,λv=>h.fz v,bw,by omega,br,?_,?_⟩
  ·rw[h.cell v Q,tH a _ _ v Q]
  ·have:=ae.o;omega
  have:=ae.o;omega
 have an:=aA (λn (I:Fr [] wr n)=>ZM c r t a n (Zq.fr I qs qs) (cj.o Zr));have da:=aA (λn I=>zN c r t a.us n (Zq.gv.qF I));have be:Hi (wr.heap[c]?=some (.cells (aP a (.slice (so r) a.us.length t)).toArray 90)):=by
  show _=_
  rw[h.g];have:aP (dA a 4 144 a.us.length) (.slice (so r) a.us.length t)=aP a (.slice (so r) a.us.length t):=by unfold aP;apply map_congr_left;intro v Q;exact tH a _ _ v (Qk5.1 Q)
  rw[this]
 have cr:=aA Zr;clear h hown Zq A X ao Zr
 go_wp2_with fail
 refine cm bd.o ?_;rintro g dy ⟨rfl,y⟩;cases ak
 ·have x:Hi (¬PL b):=λe=>by have:=HD.o.2 (E.o.1 e).2.2.1;cases this
  have u:=N.qT y;have p:=y.qH M;have q:=aA p;clear p
  go_wp2_with (first|(refine mB rfl 90 rfl zeroCells90 mG ?_)|(refine wpList_store_row rfl 90 _ _ rfl f.heap.size zeroCells90 rfl rfl 90 zeroCells90 q.o gS rfl lE ?_))
  refine Zq8 (v:=.tuple #[.agg zeroCells90,.bool false]) (cD Xq7 _ _ f.heap.size 90 zeroCells90 (0,0) _ _ rfl rfl (Qz4 _ _ _ _ _ _ q.o) X9 rfl gS) rfl (H.o _ _ (.inr ⟨x.o,by rw[mY],u.setRow _ _ (.inr (Q9 _))⟩))
 have ck:=aA (HD.o.1 rfl);clear HD
 go_wp2_with fail
 refine cm (an.o _ y) ?_;rintro g dz ⟨B,rfl,bl,ag⟩;have ah:=y.qT ag;have am:=aA bl;clear bl;cases B
 ·have x:Hi (¬PL b):=λe=>by have:=am.o.2 (E.o.1 e).2.2.2;cases this
  have u:=N.qT ah;have p:=ah.qH M;have q:=aA p;clear p
  go_wp2_with (first|(refine mB rfl 90 rfl zeroCells90 mG ?_)|(refine wpList_store_row rfl 90 _ _ rfl f.heap.size zeroCells90 rfl rfl 90 zeroCells90 q.o gS rfl lE ?_))
  refine Zq8 (v:=.tuple #[.agg zeroCells90,.bool false]) (cD Xq7 _ _ f.heap.size 90 zeroCells90 (0,0) _ _ rfl rfl (Qz4 _ _ _ _ _ _ q.o) X9 rfl gS) rfl (H.o _ _ (.inr ⟨x.o,by rw[mY],u.setRow _ _ (.inr (Q9 _))⟩))
 have bf:=aA (am.o.1 rfl);clear am
 go_wp2_with fail
 refine cm (da.o _ ah) ?_;rintro g ea ⟨rfl,dg⟩;have O:=ah.qT dg;obtain⟨wi,az⟩:=nn (eD a.us);rw[az]at E |-
 by_cases aj:wi=wn
 rotate_left
 ·have x:Hi (¬PL b):=λe=>by have:=(E.o.1 e).2.1;rw[ap.o]at this;exact aj this.symm
  have ek:(wi==wn)=false:=by simpa using aj
  have u:=N.qT O;have p:=O.qH M;clear az;have q:=aA p;clear p
  go_wp2_with (first|(refine mB rfl 90 rfl zeroCells90 mG ?_)|(refine wpList_store_row rfl 90 _ _ rfl f.heap.size zeroCells90 rfl rfl 90 zeroCells90 q.o gS rfl lE ?_))
  refine Zq8 (v:=.tuple #[.agg zeroCells90,.bool false]) (cD Xq7 _ _ f.heap.size 90 zeroCells90 (0,0) _ _ rfl rfl (Qz4 _ _ _ _ _ _ q.o) X9 rfl gS) rfl (H.o _ _ (.inr ⟨x.o,by rw[mY],u.setRow _ _ (.inr (Q9 _))⟩))
 have cw:=aA (E.o.2 ⟨cr.o,by rw[ap.o];exact aj.symm,ck.o,bf.o.1,bf.o.2⟩);subst aj;clear az;obtain⟨gl,ab⟩:=nm (aP a (.slice (so r) a.us.length t));have au:gl.length=149:=by rw[ab];exact eI _ _
 have HO:Hi (gl.toArray.all (·.oneCell')=true):=by
  show _=_
  rw[ab];exact iL _ _ _ _
 have HI:Hi ((prog.info? 90).map (·.size)=some gl.toArray.size):=by
  show _=_
  rw[dD,Qx3,au]
 have HZ:Hi (zeroCells90.size=gl.toArray.size):=by
  show _=_
  exact zcGame.trans (by simp[au])
 have ar:=be.o;rw[<-ab]at ar;have co:=aA (O.qH ar);have bg:=aA (O.qH M);have cp:=aA ab;clear au ar ab be
 go_wp2_with (first|(refine wpList_load_row rfl 90 _ rfl c rfl 90 gl.toArray (0,0) _ co.o X9 rfl HI.o ?_)|(refine wpList_store_row rfl 90 _ _ rfl f.heap.size gl.toArray rfl rfl 90 zeroCells90 bg.o HI.o HZ.o HO.o ?_))
 have u:=N.qT O;have dp:f.heap.size<=r:=by have:=ay.size;omega
 refine Zq8 (v:=.tuple #[.agg gl.toArray,.bool true]) (cD Xq7 _ _ f.heap.size 90 gl.toArray (0,0) _ _ rfl rfl (Qz4 _ _ _ _ _ _ bg.o) X9 rfl HI.o) rfl (H.o _ _ (.inl ⟨cw.o,r,t,by rw[cp.o],?_,dp,u.setRow _ _ (.inr (Q9 _))⟩));have dn:=bw.fr O qs;exact dn.fr (((r0 [f.heap.size] ea).setRow _ _ (.inl qs))) (by simp;have:=ae.o;omega)
