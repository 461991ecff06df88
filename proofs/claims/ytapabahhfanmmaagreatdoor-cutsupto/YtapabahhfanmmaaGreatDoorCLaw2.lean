import Derived.Test.YtapabahhfanmmaaGreatDoorCRScan
namespace Go.Proofs.YtapabahhfanmmaaGreatDoor
open Go.RowKit List Go.Proofs.Tryz
set_option maxHeartbeats 4000000
set_option maxRecDepth 100000
variable {B l:List UInt8} {u v:Value} {w x y z:World}
abbrev Cm.qN(a:Cm):List Int:=[a.unit,a.what,a.x,a.y,a.target]
def dL(a:List Cm):List Int:=(a.length:Int)::a.flatMap λb=>(aJ b).qN
theorem TF(c:List Cm)(b:Nat)(a:Cm)(d:c[b]?=some a):(c.take (b+1)).flatMap (λa=>(aJ a).qN)=(c.take b).flatMap (λa=>(aJ a).qN)++(aJ a).qN:=by grind[take_succ_eq_append_getElem]
theorem uA(b:Cm):∀a∈(aJ b).qN,0<=a/\a<=1000000000:=by simp_all[Ks,mem_cons,not_mem_nil]
theorem vM:∀a:List Cm,(a.flatMap λb=>(aJ b).qN).length=5*a.length
 |[]=>rfl
 |b::a=>by rw[l9,m8,vM a];simp;omega
theorem TG(b:List Cm)(c:Nat):(aY ((b.take c).flatMap λa=>(aJ a).qN)).length<=25*b.length:=by
 have g:=jS ((b.take c).flatMap λa=>(aJ a).qN) (λf e=>by obtain⟨a,_,d⟩:=i6.1 e;exact(uA a f d).2)
 grind[vM]
def CmdB(e:World)(base:Nat)(d:Value)(b:List Cm):Prop:=(∃f c,d=.slice f 0 c/\b=[])\/∃a c,d=.slice (so a) b.length c/\Cmds e a b/\a<base/\a<e.heap.size
theorem ApM.trans{base:Nat}{tv:Value}(c:ApM w base tv l v x)(d:Fr [] x y)(a:ApM y base v B u z):ApM w base tv B u z:=by
 have h:=c.fr.size;have i:=d.size;refine⟨a.own,(c.fr.qT d).trans a.fr (λj g=>?_),?_⟩
 ·grind[ApM.blk]
 obtain e|⟨b,e,f⟩:=a.blk
 ·grind[ApM.blk]
 grind
theorem AM(base:Nat)(tv E:Value)(i:List UInt8)(d:List Cm)(g:World)(hown:ownM g base tv i)(A:CmdB g base E d)(hl:i.length<=1000000)(an:d.length<=10000)(ac:base<=g.heap.size):Cs 80 #[tv,E] g λj w'=>∃s,j=.returned s/\ApM g base tv (i++aY (dL d)) s w':=by
 obtain⟨u,r,rfl⟩:∃u r,E=.slice u d.length r:=by
  obtain⟨ao,r,rfl,rfl⟩|⟨l,r,rfl,_⟩:=A
  ·simp_all
  grind
 have X:=aA A;have t:=aA hown;clear A hown
 delta Cs;go_in
 go_wp2_with fail
 have O:=rK base g.heap.size 0 1 tv i [(d.length:Int)] (g.alloc (.cells #[ii (d.length:Int)] 3)) (t.o.fr ((r0 [] g).alloc _) qs) qg
  qa
  (λj=>by grind[ownM.base,Hi.o]) qo qs qt qs
 refine cm O ?_;rintro j w1 ⟨v1,rfl,L⟩;have h:ApM g base tv (i++aY [(d.length:Int)]++aY ((d.take 0).flatMap λc=>(aJ c).qN)) v1 w1:=by have:=(ApM.start t.o).trans ((r0 [] g).alloc _) L;grind[aY]
 have W:=aA h;clear O L h;go_wp2
 go_loopw [0,14] (fun s D wr=>∃f:Nat,f<=d.length/\D=ii f/\ApM g base tv (i++aY [(d.length:Int)]++aY ((d.take f).flatMap fun c=>(aJ c).qN)) s wr) (fun _ D _=>d.length-(intOf D).toNat)
 ·grind[Hi.o]
 obtain⟨f,hk,rfl,h⟩:=hrel;clear W
 by_cases aq:f<d.length
 ·have af:(f:Int)<(d.length:Int):=qo;obtain⟨c,z⟩:∃c,d[f]?=some c:=qa;obtain⟨l,rfl,R⟩:∃l,u=some ⟨l,0,none⟩/\Cmds wr l d:=by
   obtain⟨ao,ah,v,J⟩|⟨l,ah,v,w,h2,k⟩:=X.o
   ·grind
   refine⟨l,by grind,w.fr h.fr (λhm=>?_)⟩;have:tv.ownBlock=some l:=qg;have:=(t.o.base this).1;omega
  obtain⟨c0,c1,c2,c3,c4⟩:=R.at z;have aa:=(show Hi _ from TF d f c z);have ap:=TG d f;have m:=aA h;clear R z h
  go_wp2_with fail
  refine cm (Kr c _) ?_;rintro j V ⟨rfl,B⟩;have C:=B.qH (aC wr (.cells #[ii c.unit,ii c.what,ii c.x,ii c.y,ii c.target] 81));have I:=(show Hi _ from uA c);obtain⟨a,S⟩:=nn (aJ c);rw[S]at aa I |-;have HI:Hi ((prog.info? 81).map (·.size)=some (#[ii a.unit,ii a.what,ii a.x,ii a.y,ii a.target]:Array Value).size):=by show _=some 5;exact FZ
  have Y:Hi ((#[ii a.unit,ii a.what,ii a.x,ii a.y,ii a.target]:Array Value).all (·.oneCell')=true):=by show _=_;simp[Value.oneCell']
  have HZ:Hi ((#[ii c.unit,ii c.what,ii c.x,ii c.y,ii c.target]:Array Value).size=(#[ii a.unit,ii a.what,ii a.x,ii a.y,ii a.target]:Array Value).size):=by show _=_;rfl
  have F:=aA C;have ar:=((r0 [] wr).alloc _).qT B;have ak:=aH C;clear S B C c0 c1 c2 c3 c4;obtain⟨e,p⟩:=nm (V.setRow wr.heap.size #[ii a.unit,ii a.what,ii a.x,ii a.y,ii a.target]);have k:e.heap[wr.heap.size]?=some (.cells #[ii a.unit,ii a.what,ii a.x,ii a.y,ii a.target] 81):=by rw[p];exact Qz4 _ _ _ _ _ _ F.o
  have q:Fr [] wr e:=by simp_all[Fr.setRow]
  have e0:ca e wr.heap.size 0 (ii a.unit):=aB k;have v:ca e wr.heap.size 1 (ii a.what):=aB k;have J:ca e wr.heap.size 2 (ii a.x):=aB k;have e3:ca e wr.heap.size 3 (ii a.y):=aB k;have e4:ca e wr.heap.size 4 (ii a.target):=aB k;rw[p]at e0 v J e3 e4;have H:=aA p;clear p k
  go_wp2_with (refine wpList_store_row rfl 81 _ _ rfl wr.heap.size #[ii a.unit,ii a.what,ii a.x,ii a.y,ii a.target] rfl rfl 81 #[ii c.unit,ii c.what,ii c.x,ii c.y,ii c.target] F.o HI.o HZ.o Y.o ?_)
  rw[<-H.o];have ag:V.heap.size=e.heap.size:=by rw[H.o];simp[World.setRow]
  rw[ag];have ab:=m.o.own.fr q qs;have ae:=λb (hb:u0.ownBlock=some b)=>Z1 (m.o.own.base hb).2 q.size;have am:=Y3 ac (Y3 m.o.fr.size q.size);have ad:(i++aY [(d.length:Int)]++aY ((d.take f).flatMap λc=>(aJ c).qN)).length<=10000000:=by
   have w:=jS [(d.length:Int)] (λai hn=>by
     have:ai=(d.length:Int):=by simpa using hn
     omega)
   rw[m8,m8];simp at w;omega
  have P:=rK base e.heap.size 0 5 u0 _ [a.unit,a.what,a.x,a.y,a.target] (e.alloc (.cells #[ii a.unit,ii a.what,ii a.x,ii a.y,ii a.target] 3)) (ab.fr ((r0 [] e).alloc _) qs) I.o
   (λn hj=>by
    rw[aB (aC e _),Z9];have:n=0\/n=1\/n=2\/n=3\/n=4:=by simp at hj;omega
    obtain rfl|rfl|rfl|rfl|rfl:=this<;>rfl)
   (λj=>by have:=ae _ j;omega) ad qs qt qs
  refine cm P ?_;rintro j w4 ⟨v4,rfl,M⟩;have N:=m.o.trans (q.alloc _) M;clear P M;have aj:=aA N;clear N;go_wp2;go_roundw
  ·grind[Hi.o,lR,append_assoc]
  simp[intOf];omega
 have af:¬(f:Int)<(d.length:Int):=qo;rw[l8 qo]at h;have Q:i++aY [(d.length:Int)]++aY (d.flatMap λc=>(aJ c).qN)=i++aY (dL d):=by grind[dL,aY]
 rw[Q]at h;have m:=aA h;clear h Q;go_wp2;go_ret;exact⟨_,rfl,m.o⟩
set_option maxRecDepth 100000
def lK(c:Int)(a b:List Cm):List Int:=c::(dL a++dL b)
def dG(c:Int)(a b:List Cm):List UInt8:=aY (lK c a b)
theorem vC(c:List Cm)(f:c.length<=1000000000):∀b∈dL c,0<=b/\b<=1000000000:=λb a=>by
 unfold dL at a;obtain rfl|a:=Qq0.1 a
 ·omega
 obtain⟨d,_,e⟩:=i6.1 a;exact uA d b e
theorem TE(a:List Cm):(dL a).length=1+5*a.length:=by grind[dL,length_cons,vM]
theorem rP(a:List Cm)(d:a.length<=1000000000):(aY (dL a)).length<=5+25*a.length:=by have:=jS (dL a) (λc b=>(vC a qo c b).2);grind[TE]
theorem CmdV.low{c:List Cm}(a:CmdV w v c)(b:Fr [] w x){base:Nat}(i:w.heap.size<=base):CmdB x base v c:=by
 obtain a|⟨g,h,d,e,f⟩:=a
 ·exact .inl a
 exact .inr ⟨g,h,d,e.fr b qs,by omega,Z1 f b.size⟩
theorem CmdB.fr{S:List Nat}{c:List Cm}{base:Nat}(a:CmdB w base v c)(b:Fr S w x)(l:∀h∈S,base<=h):CmdB x base v c:=by
 obtain a|⟨i,j,d,e,f,g⟩:=a
 ·exact .inl a
 exact .inr ⟨i,j,d,e.fr b (λk=>by grind),f,Z1 g b.size⟩
theorem CmdV.shape{c:List Cm}(d:CmdV w v c):∃b a,v=.slice b c.length a:=by
 obtain⟨b,a,rfl,rfl⟩|⟨e,a,rfl,_⟩:=d
 ·simp_all
 grind
theorem OW(a:Int)(W X:Value)(b c:List Cm)(f:World)(hn:0<=a/\a<=1000000000)(u:CmdV f W b)(v:CmdV f X c)(aw:b.length+c.length<=8000):Cs 41 #[.agg #[ii a,W,X]] f λh w'=>(((dG a b c).length<=40000/\h=.returned (.tuple #[.string ⟨(dG a b c).toArray⟩,.bool true]))\/(40000<(dG a b c).length/\h=.returned (.tuple #[.string ⟨#[]⟩,.bool false])))/\Fr [] f w':=by
 obtain⟨l,r,rfl⟩:=u.shape;obtain⟨m,s,rfl⟩:=v.shape;obtain⟨d,O⟩:=nm (f.alloc (.cells #[ii a,.slice l b.length r,.slice m c.length s] 106));have A:d.heap[f.heap.size]?=some (.cells #[ii a,.slice l b.length r,.slice m c.length s] 106):=by grind[aC]
 have j:Fr [] f d:=by grind[Fr.alloc,r0]
 have P:=u.low j (base:=d.heap.size) j.size;have Q:=v.low j (base:=d.heap.size) j.size;have aa:=aA P;have ab:=aA Q;have H:=aA O;have aq:=aH A;have ak:¬(8000:Int)<(b.length:Int)+(c.length:Int):=qo;clear u v P Q O
 delta Cs;go_in
 go_wp2_with fail
 rw[<-H.o];have S:f.heap.size+1=d.heap.size:=by rw[H.o];simp
 rw[S];have J:=rK d.heap.size d.heap.size 0 1 (.slice none 0 0) [] [a] (d.alloc (.cells #[ii a] 3)) (Cg _ _) (λax hm=>by grind)
  (λan hj=>by
   have au:an=0:=by simpa using hj
   simp_all)
  (by simp[Value.ownBlock]) qs qs qs qs
 refine cm J ?_;rintro h D ⟨t,rfl,w⟩;have p:=((r0 [] d).alloc _).trans w.fr (by simp[kA,Value.ownBlock]);have y:ownM D d.heap.size t (aY [a]):=w.own;have ah:=p.qH A;have d1:ca D f.heap.size 1 (.slice l b.length r):=aB ah;have av:(aY [a]).length<=5:=by grind[jS]
 have L:=AM d.heap.size t (.slice l b.length r) (aY [a]) b D y (aa.o.fr p qs) qo qo p.size;have ac:=aA y;have E:=aA L;clear J w y S L
 go_wp2_with fail
 refine cm E.o ?_;rintro h Y ⟨C,rfl,n⟩;have af:∀e∈kA t,d.heap.size<=e:=λe g=>(ac.o.base (show t.ownBlock=some e by simpa[kA]using g)).1;have q:=p.trans n.fr (λe g=>.inr (af e g));have ai:=q.qH A;have d2:ca Y f.heap.size 2 (.slice m c.length s):=aB ai;have ar:=rP b qo;have M:=AM d.heap.size C (.slice m c.length s) (aY [a]++aY (dL b)) c Y n.own (ab.o.fr q qs) qg qo q.size;have ad:=aA n.own;have F:=aA M;clear E n M d1
 go_wp2_with fail
 refine cm F.o ?_;rintro h w4 ⟨v4,rfl,x⟩;have ag:∀e∈kA C,d.heap.size<=e:=λe g=>(ad.o.base (show C.ownBlock=some e by simpa[kA]using g)).1;have ae:=q.trans x.fr (λe g=>.inr (ag e g));have N:aY [a]++aY (dL b)++aY (dL c)=dG a b c:=by unfold dG lK;grind[lS,dL,lR,vN,append_assoc]
 have i:=x.own;rw[N]at i;have Zq:=rP c qo;have B:(dG a b c).length<=1000000:=by grind
 have am:=i.string;obtain⟨k,z⟩:=nm (dG a b c);rw[<-z]at i B am;have HT:=aA z;obtain⟨I,V,rfl⟩:∃I V,v4=.slice I k.length V:=by
  obtain⟨rfl,h0⟩|⟨ap,ao,rfl,_⟩:=i
  ·grind
  grind
 have R:=j.qT ae;clear F x N z i d2 ak
 by_cases Zr:k.length<=40000
 ·have aj:¬(40000:Int)<(k.length:Int):=qo;clear B;go_wp2;go_ret2;exact⟨.inl ⟨by grind[Hi.o],by rw[<-HT.o];rfl⟩,R⟩
 have aj:(40000:Int)<(k.length:Int):=qo;clear B;go_wp2;go_ret2;exact⟨.inr ⟨by grind[Hi.o],rfl⟩,R⟩
theorem Jn(h:Int)(f g:Value)(a b:List Cm)(c:World)(d:CmdV c f a)(e:CmdV c g b)(k:a.length<=1000000000)(l:b.length<=1000000000)(n:8000<a.length+b.length):Cs 41 #[.agg #[ii h,f,g]] c (R0 c (.tuple #[.string ⟨#[]⟩,.bool false])):=by
 obtain⟨i,o,rfl⟩:=d.shape;obtain⟨j,p,rfl⟩:=e.shape;have m:(8000:Int)<(a.length:Int)+(b.length:Int):=qo;clear d e
 delta Cs;go_in
 go_wp2;go_ret2;simp_all[Fr.alloc,r0]
variable {R:List Value} {a b c:Nat}
theorem wF:(prog.info? 81).map (λa=>(a.zero,a.size,a.bytes))=some (some (.agg #[ii 0,ii 0,ii 0,ii 0,ii 0]),5,40):=qk
structure CJ (W:World) (l:List UInt8) (rb m:Nat) (v:Value) (k:Nat) (xs:List Value) (w:World):Prop where
 rd:RdAt w rb (aM l false m).1 (aM l false m).2
 own:w.ownsRow W.heap.size 81 5 v k xs
 fr:Fr [rb] W w
theorem CJ.next(d:CJ w l a b v c R x)(m:a<w.heap.size)(i:l.length<=1000000):Cs 124 #[pt a] x λe j=>e=.returned (ii (aD l false b))/\CJ w l a (b+1) v c R j:=by refine cm (xB a l false b x d.rd i) ?_;rintro e n ⟨rfl,g,f⟩;exact⟨rfl,g,aF d.own f (λk h=>by have:=bT d.own h;grind),d.fr.trans f qs⟩
theorem CJ.alloc(e:CJ w l a b v c R x)(d:Obj):CJ w l a b v c R (x.alloc d):=
  ⟨e.rd.fr ((r0 [] x).alloc d) qs,aF e.own ((r0 [] x).alloc d) qs,e.fr.alloc d⟩
theorem xA(a:Cm)(b:World)(c:Nat)(d:Value)(e:a.cells[c]?=some d):(b.alloc (.cells #[ii a.unit,ii a.what,ii a.x,ii a.y,ii a.target] 81)).cell? ((⟨b.heap.size,0,none⟩:Addr).add c)=some d:=by simp_all[Addr.add_lit,Nat.zero_add]
structure ReadsT (l:List UInt8) (n:Int) (a b:List Cm):Prop where
 n0:aD l false 0=n
 na:aD l false 1=a.length
 ca:∀i d,a[i]?=some d->aD l false (1+1+5*i)=d.unit/\aD l false (1+1+5*i+1)=d.what/\aD l false (1+1+5*i+1+1)=d.x/\aD l false (1+1+5*i+1+1+1)=d.y/\aD l false (1+1+5*i+1+1+1+1)=d.target
 nb:aD l false (1+1+5*a.length)=b.length
 cb:∀i d,b[i]?=some d->aD l false (1+1+5*a.length+1+5*i)=d.unit/\aD l false (1+1+5*a.length+1+5*i+1)=d.what/\aD l false (1+1+5*a.length+1+5*i+1+1)=d.x/\aD l false (1+1+5*a.length+1+5*i+1+1+1)=d.y/\aD l false (1+1+5*a.length+1+5*i+1+1+1+1)=d.target
 ok:∀i,i<=1+1+5*a.length+1+5*b.length->(aM l false i).2=false
 ne:aM l false (1+1+5*a.length+1+5*b.length)=([],false)
theorem xG:∀(d:List Cm) (b a:Nat) (c:Cm),d[b]?=some c->a<5->(d.flatMap Cm.qN)[5*b+a]?=c.qN[a]?
 |[],_,_,_,e,_=>by grind
 |g::d,0,a,c,e,f=>by grind
 |g::d,b+1,a,c,e,f=>by rw[l9,J8 qt];have:5*(b+1)+a-g.qN.length=5*b+a:=qg;rw[this];exact xG d b a c qg f
theorem rQ(a:List Cm):dL a=((a.map aJ).length:Int)::(a.map aJ).flatMap Cm.qN:=by grind[dL,length_map,flatMap_map]
theorem xH(a:List Cm):(a.flatMap Cm.qN).length=5*a.length:=by
 induction a with
 |nil=>rfl
 |cons c a b=>rw[l9,m8,b];simp;omega
theorem LN(f:Int)(h i:List Cm)(u:0<=f/\f<=1000000000)(w:h.length<=10000)(x:i.length<=10000):ReadsT (dG f h i) f (h.map aJ) (i.map aJ):=by
 have n:∀e∈lK f h i,0<=e/\e<=1000000000:=λe g=>by
  unfold lK at g;obtain rfl|g:=Qq0.1 g
  ·exact u
  obtain g|g:=m5.1 g
  ·exact vC h qo e g
  exact vC i qo e g
 have q:lK f h i=f::(((h.map aJ).length:Int)::((h.map aJ).flatMap Cm.qN++(((i.map aJ).length:Int)::(i.map aJ).flatMap Cm.qN))):=by unfold lK;rw[rQ,rQ];rfl
 unfold dG;rw[q]at n |-
 generalize h.map aJ=A at *
 generalize i.map aJ=B at *
 have p:=xH A;have v:=xH B;have j:∀(m:Nat) (e:Int),(f::((A.length:Int)::(A.flatMap Cm.qN++((B.length:Int)::B.flatMap Cm.qN))))[m]?=some e->aD (aY (f::((A.length:Int)::(A.flatMap Cm.qN++((B.length:Int)::B.flatMap Cm.qN))))) false m=e:=λm e s=>by obtain⟨t,rfl⟩:=gs.1 s;have:=JL m _ [] t n;rwa[Zq6]at this
 have k:∀a b d e,A[a]?=some b->d<5->b.qN[d]?=some e->aD (aY (f::((A.length:Int)::(A.flatMap Cm.qN++((B.length:Int)::B.flatMap Cm.qN))))) false (1+1+5*a+d)=e:=λa b d e c o g=>j _ _ (by have y:=(gs.1 c).1;rw[show 1+1+5*a+d=(5*a+d)+1+1 by omega,Zz5,Zz5,J7 qo,xG A a d b c o];exact g)
 have l:∀a b d e,B[a]?=some b->d<5->b.qN[d]?=some e->aD (aY (f::((A.length:Int)::(A.flatMap Cm.qN++((B.length:Int)::B.flatMap Cm.qN))))) false (1+1+5*A.length+1+5*a+d)=e:=λa b d e c o g=>j _ _ (by rw[show 1+1+5*A.length+1+5*a+d=(5*A.length+((5*a+d)+1))+1+1 by omega,Zz5,Zz5,J8 qo,p,show 5*A.length+(5*a+d+1)-5*A.length=(5*a+d)+1 by omega,Zz5,xG B a d b c o];exact g)
 have r:∀a,a<=1+1+5*A.length+1+5*B.length->aM (aY (f::((A.length:Int)::(A.flatMap Cm.qN++((B.length:Int)::B.flatMap Cm.qN))))) false a=(aY ((f::((A.length:Int)::(A.flatMap Cm.qN++((B.length:Int)::B.flatMap Cm.qN)))).drop a),false):=λa c=>by have:=tG a (f::((A.length:Int)::(A.flatMap Cm.qN++((B.length:Int)::B.flatMap Cm.qN)))) [] qg n;grind
 refine⟨j 0 _ rfl,j 1 _ rfl,λa b c=>⟨k a b 0 _ c qo rfl,k a b 1 _ c qo rfl,k a b 2 _ c qo rfl,k a b 3 _ c qo rfl,k a b 4 _ c qo rfl⟩,j _ _ ?_,λa b c=>⟨l a b 0 _ c qo rfl,l a b 1 _ c qo rfl,l a b 2 _ c qo rfl,l a b 3 _ c qo rfl,l a b 4 _ c qo rfl⟩,λa c=>by grind,?_⟩
 ·rw[show 1+1+5*A.length=(5*A.length)+1+1 by omega,Zz5,Zz5,J8 qo,p,Nat.sub_self];rfl
 rw[r _ qo,Z6 qg];rfl
variable {X:List U} {d:Nat} {t:T} {C:U}
def cW(b:T)(c:Value)(a:Nat):Value:=
  if a=0 then ii b.turn else if a<145 then ii (b.bd (a-1))else if a=145 then ii b.s0 else if a=146 then ii b.s1 else if a=147 then ii b.next else c
structure RG (w:World) (gb pb cap:Nat) (t:T):Prop where
 cell:∀k,k<149->w.cell? ⟨gb,k,none⟩=some (cW t (.slice (so pb) t.us.length cap) k)
 fz:∀k,w.frozen? ⟨gb,k,none⟩=false
 row:PRow w pb cap t.us
 len:t.us.length<=1000
 ne:gb≠pb
theorem RG.lt(d:RG w a b c t):a<w.heap.size:=aI (d.cell 0 qo)
theorem RG.fr{S:List Nat}(d:RG w a b c t)(e:Fr S w x)(g:a∉S)(h:b∉S):RG x a b c t:=
  ⟨λf i=>by rw[e.cell _ _ d.lt g];exact d.cell f i,λf=>by rw[e.frozen _ _ d.lt g];exact d.fz f,d.row.fr e h,d.len,d.ne⟩
theorem RG.qF(d:RG w a b c t)(e:Fr [] w x):RG x a b c t:=d.fr e qs qs
theorem RG.gv(d:RG w a b c t):GV w a b c t.us:=⟨d.cell 148 qo,d.row.ppl,d.len⟩
theorem RG.c0(d:RG w a b c t):w.cell? ⟨a,0,none⟩=some (ii t.turn):=d.cell 0 qo
theorem RG.c145(d:RG w a b c t):w.cell? ⟨a,145,none⟩=some (ii t.s0):=d.cell 145 qo
theorem RG.c146(d:RG w a b c t):w.cell? ⟨a,146,none⟩=some (ii t.s1):=d.cell 146 qo
theorem RG.c147(d:RG w a b c t):w.cell? ⟨a,147,none⟩=some (ii t.next):=d.cell 147 qo
theorem RG.qA(d:RG w a b c t):w.cell? ⟨a,148,none⟩=some (.slice (so b) t.us.length c):=d.cell 148 qo
theorem RG.bd(e:RG w a b c t)(f:d<144):w.cell? ⟨a,1+d,none⟩=some (ii (t.bd d)):=by rw[e.cell (1+d) qo];grind[cW]
def fJ(a:Option Nat):Int:=match a with|some i=>i|none=> -1
theorem sI{p:U->Bool}(b:∀a (b:a<X.length),p X[a]=false):X.findIdx? p=none:=by grind[mem_iff_getElem]
theorem sJ{p:U->Bool}(e:X[a]?=some C)(d:p C=true)(c:∀b,b<a->∀(c:b<X.length),p X[b]=false):X.findIdx? p=some a:=by grind[findIdx?_eq_some_iff_getElem]
theorem mQ{p:U->Bool}(e:X[a]?=some C)(d:p C=false)(c:∀b,b<a->∀(c:b<X.length),p X[b]=false):∀b,b<a+1->∀(c:b<X.length),p X[b]=false:=qg
theorem Fk(q J D:Nat)(a:List U)(id:Int)(i:World)(j:GV i q J D a):Cs 177 #[pt q,ii id] i (R0 i (ii (fJ (bI a id)))):=by
 have P:=j.len;have F:=j.c;have M:=aI F
 delta Cs;go_in
 go_wp2
 go_loopw [5] (fun m wr=>∃b:Nat,b<=a.length/\m=ii b/\(∀e,e<b->∀(E:e<a.length),(a[e].id==id)=false)/\Fr [] i wr) (fun m _=>a.length-(intOf m).toNat)
 ·exact⟨0,Z3 _,rfl,λe E=>by omega,r0 _ _⟩
 obtain⟨b,O,rfl,h,g⟩:=hrel;have r:=j.qF g;have N:=r.c
 by_cases s:b<a.length
 ·have I:(b:Int)<(a.length:Int):=qo;obtain⟨d,l⟩:∃d,a[b]?=some d:=⟨a[b],Y2 s⟩;obtain⟨L,t,v,w,x,y,z,A,B,C,u⟩:=r.p.at l;have n:=(show Hi (a[b]?=some d)from l);have f:=aA h;clear l h t v w x y z A B C u
  by_cases k:(d.id==id)=true
  ·go_wp2;go_ret;exact⟨by unfold bI;rw[sJ (p:=λd:U=>d.id==id) n.o k f.o];rfl,g⟩
  simp only[Bool.not_eq_true]at k;go_wp2;go_roundw
  ·exact⟨b+1,s,by go_num,mQ (p:=fun d:U=>d.id==id) n.o k f.o,g⟩
  simp[intOf];omega
 have I:¬(b:Int)<(a.length:Int):=qo;have f:=aA h;clear h;go_wp2;go_ret;exact⟨by unfold bI;rw[sI (p:=λd:U=>d.id==id) (λe H=>f.o e qo H)];rfl,g⟩
variable {n p:Int}
set_option maxRecDepth 100000
def dK(b:List U)(a:Int):Option Nat:=b.findIdx? (aG a)
def fL(a:List U):Int:=if(dK a 0).isSome=false then 2 else if(dK a 1).isSome=false then 1 else 0
theorem FU(a:Option Nat):decide (fJ a<0) = !a.isSome:=by
 cases a with
 |none=>rfl
 |some b=>exact decide_eq_false (by show ¬(b:Int)<0;omega)
theorem yD(r J E:Nat)(b:List U)(e:Int)(j:World)(l:GV j r J E b):Cs 137 #[pt r,ii e] j (R0 j (ii (fJ (dK b e)))):=by
 have R:=l.len;have F:=l.c;have O:=aI F
 delta Cs;go_in
 go_wp2
 go_loopw [5] (fun q wr=>∃a:Nat,a<=b.length/\q=ii a/\(∀h,h<a->∀(N:h<b.length),aG e b[h]=false)/\Fr [] j wr) (fun q _=>b.length-(intOf q).toNat)
 ·grind[r0]
 obtain⟨a,Q,rfl,u,g⟩:=hrel;have s:=l.qF g;have P:=s.c;have i:=aA u;clear u
 by_cases t:a<b.length
 ·have I:(a:Int)<(b.length:Int):=qo;obtain⟨d,o⟩:∃d,b[a]?=some d:=qa;obtain⟨v,L,M,x,y,z,A,B,C,D,w⟩:=s.p.at o;have k:=(show Hi (b[a]?=some d)from o);clear o v x y z A B C D w
  by_cases m:(d.kind==1)=true
  ·by_cases n:(d.owner==e)=true
   ·have f:Hi (aG e d=true):=by simp[Hi,aG,m,n]
    go_wp2;go_ret;exact⟨by unfold dK;rw[sJ k.o f.o i.o];rfl,g⟩
   simp only[Bool.not_eq_true]at n;have f:Hi (aG e d=false):=by simp[Hi,aG,n]
   go_wp2;go_roundw
   ·exact⟨a+1,t,by go_num,mQ k.o f.o i.o,g⟩
   simp[intOf];omega
  simp only[Bool.not_eq_true]at m;have f:Hi (aG e d=false):=by simp[Hi,aG,m]
  go_wp2;go_roundw
  ·exact⟨a+1,t,by go_num,mQ k.o f.o i.o,g⟩
  simp[intOf];omega
 have I:¬(a:Int)<(b.length:Int):=qo;go_wp2;go_ret;exact⟨by unfold dK;rw[sI (λh H=>i.o h qo H)];rfl,g⟩
theorem pF(b d c:Nat)(a:List U)(e:World)(g:GV e b d c a):Cs 99 #[pt b] e (R0 e (ii (fL a))):=by
 delta Cs;go_in
 go_wp2_with fail
 refine(yD b d c a 0 _ g).mono ?_;rintro j n ⟨rfl,f⟩
 generalize k:(dK a 0).isSome=b0
 have h:=FU (dK a 0);rw[k]at h;cases b0
 ·go_wp2;go_ret;simp_all[fL]
 go_wp2_with fail
 refine(yD b d c a 1 _ (g.qF f)).mono ?_;rintro j o ⟨rfl,m⟩
 generalize l:(dK a 1).isSome=b1
 have i:=FU (dK a 1);rw[l]at i;cases b1
 all_goals
  go_wp2;go_ret;exact⟨by simp_all[fL],f.qT m⟩
theorem fC(b c:Int)(a:World):Cs 185 #[ii b,ii c] a (R1 a (.bool (aE b c))):=by
 delta Cs;go_in
 go_wp2
 all_goals
  go_ret;exact⟨lG (by simp[aE, *]<;>omega),rfl⟩
theorem tJ(b c d a:Int)(h:World)(w:-1000<=b)(x:b<=1000)(y:-1000<=c)(z:c<=1000)(A:-1000<=d)(B:d<=1000)(C:-1000<=a)(D:a<=1000):Cs 214 #[ii b,ii c,ii d,ii a] h (R1 h (.bool (bJ b c d a))):=by
 have g:Hi (bJ b c d a=((b-d==0&&(c-a==1||c-a==-1))||(c-a==0&&(b-d==1||b-d==-1)))):=by
  show _=_
  grind[bJ]
 obtain⟨e,p⟩:=nn (b-d);obtain⟨f,q⟩:=nn (c-a);rw[p,q]at g;have E:-2000<=e/\e<=2000:=qo;have F:-2000<=f/\f<=2000:=qo;obtain⟨r,i⟩:=nn ((e==0));obtain⟨s,j⟩:=nn ((e==1));obtain⟨t,k⟩:=nn ((e==-1));obtain⟨r0,l⟩:=nn ((f==0));obtain⟨u,m⟩:=nn ((f==1));obtain⟨v,n⟩:=nn ((f==-1));rw[i,j,k,l,m,n]at g
 delta Cs;go_in
 cases r<;>cases s<;>cases t<;>cases r0<;>cases u<;>cases v
 all_goals
  go_wp2;go_ret;exact⟨lG (by rw[g.o];rfl),rfl⟩
theorem Gq{a b:Int}(c:n=a)(d:p=b):Ending.returned (.tuple #[ii n,ii p])=.returned (.tuple #[ii a,ii b]):=qg
theorem tN(b c:Int)(a:Nat)(e:Int×Int)(f:World)(d:sds[a]?=some e)(h:-1000<=b)(i:b<=1000)(j:-1000<=c)(k:c<=1000):Cs 213 #[ii b,ii c,ii a] f (R1 f (.tuple #[ii (b+e.1),ii (c+e.2)])):=by have l:a<4:=(gs.1 d).1;have g:a=0\/a=1\/a=2\/a=3:=qo;obtain rfl|rfl|rfl|rfl:=g<;>(simp[sds]at d;subst d;delta Cs;go_in;go_wp2_with fail;go_ret2;refine⟨Gq ?_ ?_,rfl⟩<;>(omega)<;>omega)
variable {g h:Cl} {E F:Cl->Bool}
def Path(c:Cl->Bool)(b:Cl):Nat->Cl->Prop
 |0,a=>a=b
 |e+1,d=>∃a,Path c b e a/\d∈aL a.1 a.2/\c d=true
theorem Path.nil:Path F g 0 g:=rfl
theorem Path.snoc{b:Cl}(c:Path F g a h)(d:b∈aL h.1 h.2)(e:F b=true):Path F g (a+1) b:=⟨h,c,d,e⟩
theorem Path.ind{d:∀b a,Path F g b a->Prop}(nil:d 0 g .nil)(snoc:∀{b:Nat} {a h:Cl} (c:Path F g b a) (e:h∈aL a.1 a.2) (f:F h=true),d b a c->d (b+1) h (.snoc c e f)):∀{b:Nat} {a:Cl} (c:Path F g b a),d b a c
 |0,_,rfl=>nil
 |_+1,_,⟨_,c,e,f⟩=>snoc c e f (Path.ind nil snoc c)
theorem Path.cons(d:h∈aL g.1 g.2)(e:F h=true){b:Cl}(c:Path F h a b):Path F g (a+1) b:=by
 induction c using Path.ind with
 |nil=>exact .snoc .nil d e
 |snoc _ i f j=>exact .snoc j i f
structure Lev (free ends:Cl->Bool) (a:Cl) (s:Bs) (lv:Cl->Nat) (m:Nat):Prop where
 inv:BInv a s
 a0:lv a=0
 path:∀c∈s.q,Path free a (lv c) c
 fst:∀c f,s.g c=some f->f∈aL a.1 a.2/\free f=true/\∃k,lv c=k+1/\Path free f k c
 noend:∀c∈s.q,ends c=false
 mono:∀(j k:Nat) (c d:Cl),j<=k->s.q[j]?=some c->s.q[k]?=some d->lv c<=lv d
 top:∀c∈s.q,lv c<=m+1
 idx:∀(j:Nat) (c:Cl),s.q[j]?=some c->lv c<=j
theorem pQ{i:Nat}{cur:Cl}(R:F h=false):∀(x:List Cl) (e:Bs) (f:Cl->Nat),Lev F E h e f (f cur)->e.q[i]?=some cur->(∀b∈x,b∈aL cur.1 cur.2) ->(∀m,bR F E i cur x e=.inl m->m∈aL h.1 h.2/\F m=true/\∃b,E b=true/\Path F m (f cur) b) /\(∀o,bR F E i cur x e=.inr o->∃w,Lev F E h o w (f cur)/\(∀c∈e.q,w c=f c)/\(∃j,o.q=e.q++j)/\∀b∈x,F b=true->b∈o.q/\w b<=f cur+1)
 |[],e,f,d,_,_=>by unfold bR;refine⟨λm d=>(by cases d),λo u=>?_⟩;cases u;exact⟨f,d,λ_ _=>rfl,⟨[],by simp⟩,λb hn=>absurd hn qs⟩
 |b::x,e,f,d,t,X=>by
  obtain⟨af,M,b2,b3,N⟩:=d.inv;have aa:=Q8 t;have W:=X b qs;have ag:F b=true->(if 0<i then(e.g cur).getD (0,0)else b)∈aL h.1 h.2/\F (if 0<i then(e.g cur).getD (0,0)else b)=true/\Path F (if 0<i then(e.g cur).getD (0,0)else b) (f cur) b:=by
   intro p
   by_cases h0:0<i
   ·rw[Q7 h0];have V:cur∈af:=by rw[M]at t;obtain⟨v,rfl⟩:∃v,i=v+1:=⟨i-1,by omega⟩;exact Q8 (qu t)
    obtain⟨m,ab⟩:=Zq4.1 ((N cur).2 V);obtain⟨p1,p2,z,p3,p4⟩:=d.fst cur m ab;rw[ab,p3];exact⟨p1,p2,.snoc p4 W p⟩
   grind[Lev.a0,Path.nil]
  unfold bR
  split
  ·rename_i a
   obtain⟨I,J⟩:=pQ R (i:=i) x e f d t (λj n=>X j (by simp[n]));refine⟨I,λo u=>?_⟩;obtain⟨w,q1,A,q3,q4⟩:=J o u;refine⟨w,q1,A,q3,λj n p=>?_⟩;obtain rfl|n:=Qq0.1 n
   ·have u:(e.g j).isSome=true:=by rw[p]at a;simpa using a
    have Y:j∈e.q:=by rw[M];exact Zz4 _ ((N j).1 u)
    obtain⟨L,C⟩:=q3;exact⟨by rw[C];exact Qk3 _ Y,by rw[A j Y];exact d.top j Y⟩
   exact q4 j n p
  rename_i a
  have p:F b=true:=by
   cases d:F b with
   |true=>rfl
   |false=>simp[d]at a
  have hg:(e.g b).isSome=false:=by
   cases d:(e.g b).isSome with
   |false=>rfl
   |true=>simp[d]at a
  have an:b∉af:=λV=>by have:=(N b).2 V;rw[hg]at this;cases this
  have ad:b≠h:=λk=>by rw[k,R]at p;cases p
  have ae:b∉e.q:=by rw[M];simp;exact⟨ad,an⟩
  obtain⟨f1,f2,f3⟩:=ag p
  split
  ·rename_i Q
   refine⟨λm S=>?_,λo S=>(by cases S)⟩;cases S;exact⟨f1,f2,b,Q,f3⟩
  rename_i Q
  have am:cur≠b:=λk=>ae (k ▸ aa);obtain⟨D,ac⟩:∃L:Cl->Nat,L=λc=>if c=b then f cur+1 else f c:=⟨_,rfl⟩;have r:D b=f cur+1:=by rw[ac];simp
  have H:∀c,c≠b->D c=f c:=λc a=>by rw[ac];simp[a]
  have s:=λc a=>H c (λk=>ae (k ▸ a));have ec:=H cur am;have ak:=(gs.1 t).1;have L1:Lev F E h ⟨e.q++[b],λz=>if z=b then some (if 0<i then(e.g cur).getD (0,0)else b)else e.g z⟩ D (D cur):=by
   refine⟨d.inv.add b _ hg (nL _ _ b W),by rw[H h (λk=>ad k.symm)];exact d.a0,?_,?_,?_,?_,?_,?_⟩
   ·intro c a;obtain a|a:=m5.1 a
    ·rw[s c a];exact d.path c a
    simp at a;subst a;rw[r];exact .snoc (d.path cur aa) W p
   ·intro c m B;dsimp only at B
    by_cases k:c=b
    ·rw[Q7 k]at B;cases B;subst k;exact⟨f1,f2,f cur,r,f3⟩
    rw[Z0 k]at B;rw[H c k];exact d.fst c m B
   ·intro c a;obtain a|a:=m5.1 a
    ·exact d.noend c a
    simp at a;subst a;simpa using Q
   ·intro v z c O ah l y;dsimp only at l y
    by_cases aj:z<e.q.length
    ·rw[J7 aj]at y;rw[J7 qo]at l;rw[s c (Q8 l),s O (Q8 y)];exact d.mono v z c O ah l y
    rw[J8 qo]at y;have P:O=b:=by have:=Q8 y;simpa using this
    rw[P,r];have a:=Q8 l;obtain a|a:=m5.1 a
    ·rw[s c a];exact d.top c a
    simp at a;subst a;rw[r];exact Q9 _
   ·intro c a;rw[ec];obtain a|a:=m5.1 a
    ·rw[s c a];exact d.top c a
    simp at a;subst a;rw[r];exact Q9 _
   intro v c l;dsimp only at l
   by_cases ai:v<e.q.length
   ·rw[J7 ai]at l;rw[s c (Q8 l)];exact d.idx v c l
   rw[J8 qo]at l;have P:c=b:=by have:=Q8 l;simpa using this
   rw[P,r];have:=d.idx i cur t;omega
  obtain⟨I,J⟩:=pQ R (i:=i) (cur:=cur) x _ D L1 (by dsimp only;rw[J7 ak];exact t) (λj n=>X j (by simp[n]));rw[ec]at I J;refine⟨I,λo u=>?_⟩;obtain⟨w,q1,A,⟨L,C⟩,q4⟩:=J o u;dsimp only at A C;refine⟨w,q1,λc a=>by rw[A c (Qk3 _ a),s c a],⟨b::L,by rw[C];simp⟩,λj n ao=>?_⟩;obtain rfl|n:=Qq0.1 n
  ·exact⟨by rw[C];simp,by rw[A j qs,r];exact Q9 _⟩
  grind
theorem oN{f:Bs}{e:Cl->Nat}(l:Lev F E g f e b)(n:∀d h,d<a->f.q[d]?=some h->∀i∈aL h.1 h.2,F i=true->i∈f.q/\e i<=e h+1)(k:Path F g c h):(h∈f.q/\e h<=c)\/∃d j,a<=d/\f.q[d]?=some j/\e j+1<=c:=by
 induction k using Path.ind with
 |nil=>obtain⟨s,m,_⟩:=l.inv;grind[Lev.a0]
 |snoc k p o r=>grind[getElem?_of_mem]
theorem GR{b:Bs}{m:Cl->Nat}(c:Lev F E g b m a)(h:aE g.1 g.2=true):b.q.length<=144:=by
 obtain⟨l,n,o,p,f⟩:=c.inv;have r:g∉l:=λj=>by obtain⟨e,i⟩:=Zq4.1 ((f g).2 j);obtain⟨_,_,u,s,_⟩:=c.fst g e i;grind[Lev.a0]
 have t:=c.inv.on h;have k:b.q.Nodup:=qg;have:(b.q.map (λd=>ci d.1 d.2)).length<=144:=by
  apply xF
  ·rw[Nodup,pairwise_map];apply Pairwise.imp_of_mem _ k;grind[bX,ci]
  grind[eN]
 grind
def zV(c f:Cl->Bool)(a e:Cl):Prop:=
  (e∈aL a.1 a.2/\c e=true/\∃g h,g<=143/\f h=true/\Path c e g h/\∀d b,f b=true->Path c a d b->g+1<=d)\/(e=a/\∀d b,f b=true->¬Path c a d b)
theorem AZ(w:F g=false)(r:aE g.1 g.2=true):∀(fuel a:Nat) (e:Bs) (d:Cl->Nat) (p:Nat),fuel+a=146->Lev F E g e d p->(∀c,e.q[a]?=some c->p<=d c) ->(∀i c,i<a->e.q[i]?=some c->∀h∈aL c.1 c.2,F h=true->h∈e.q/\d h<=d c+1)->zV F E g (eG F E g fuel a e)
 |0,a,e,d,p,N,f,_,m=>by
  unfold eG;refine .inr ⟨rfl,λi h n o=>?_⟩;have O:=GR f r;obtain⟨l,_⟩|⟨z,u,l,v,_⟩:=oN f m o
  ·grind[Lev.noend]
  grind
 |fuel+1,a,e,d,p,N,f,P,m=>by
  unfold eG;cases j:e.q[a]? with
  |none=>
   refine .inr ⟨rfl,λi h n o=>?_⟩;obtain⟨l,_⟩|⟨z,u,l,v,_⟩:=oN f m o
   ·grind[Lev.noend]
   grind
  |some b=>
   dsimp only;have J:Lev F E g e d (d b):={f with top:=λc k=>Y3 (f.top c k) (qh (P b j))};obtain⟨V,W⟩:=pQ w (i:=a) (cur:=b) (aL b.1 b.2) e d J j (λ_ n=>n);cases y:bR F E a b (aL b.1 b.2) e with
   |inl B=>
    obtain⟨C,D,h,H,I⟩:=V B y;have O:=GR f r;have x:=(gs.1 j).1;have aa:=f.idx a b j;refine .inl ⟨C,D,d b,h,by omega,H,I,λi X s o=>?_⟩;obtain⟨l,_⟩|⟨z,u,l,v,h3⟩:=oN f m o
    ·grind[Lev.noend]
    grind[Lev.mono]
   |inr t=>
    dsimp only;obtain⟨R,A,S,⟨X,s⟩,q4⟩:=W t y;have x:=(gs.1 j).1;have L:=Q8 j;have Q:t.q[a]?=some b:=by rw[s,J7 x];exact j
    refine AZ w r fuel (a+1) t R (d b) qo A (λc k=>?_) ?_
    ·have:=A.mono a (a+1) b c qo Q k;rw[S b L]at this;exact this
    intro i c hj k h n M;rw[s,J7 qo]at k
    by_cases Y:i=a
    ·grind
    obtain⟨p1,p2⟩:=m i c qo k h n M;grind
theorem RC(b:F g=false)(a:aE g.1 g.2=true)(c:E g=false):zV F E g (dU F E g):=by
 unfold dU;refine AZ b a 146 0 _ (λ_=>0) 0 rfl ⟨BInv.start g,rfl,?_,?_,?_,?_,?_,?_⟩ qo qo
 ·grind[Path.nil]
 ·grind
 ·grind
 ·omega
 ·omega
 omega
def fW(a b:Cl):Nat:=(aL a.1 a.2).idxOf b
structure OrdF (free:Cl->Bool) (a:Cl) (s:Bs) (lv:Cl->Nat):Prop where
 mono2:∀(j k:Nat) (c d f e:Cl),j<=k->s.q[j]?=some c->s.q[k]?=some d->lv c=lv d->s.g c=some f->s.g d=some e->fW a f<=fW a e
 min:∀(c f:Cl),s.g c=some f->∀(f':Cl) (k:Nat),lv c=k+1->f'∈aL a.1 a.2->free f'=true->Path free f' k c->fW a f<=fW a f'
theorem Lev.seen{c:Bs}{d:Cl->Nat}(f:Lev F E h c d a){b:Cl}(k:b∈c.q)(l:0<d b):∃e,c.g b=some e:=by obtain⟨m,i,_,_,j⟩:=f.inv;grind[Lev.a0,Option.isSome_iff_exists]
theorem Lev.got{b:Bs}{f:Cl->Nat}(e:Lev F E h b f a){c d:Cl}(k:b.g c=some d):c∈b.q:=by obtain⟨l,i,_,_,j⟩:=e.inv;grind
theorem JA{b:Cl}{d:Bs}{e:Cl->Nat}(m:Lev F E h d e (e b))(x:OrdF F h d e)(v:d.q[a]?=some b)(z:∀c k,c<a->d.q[c]?=some k->∀f∈aL k.1 k.2,F f=true->f∈d.q/\e f<=e k+1){l:Cl}(u:d.g b=some l){f i:Cl}(P:f∉d.q)(r:i∈aL h.1 h.2)(s:F i=true)(j:Path F i (e b) f):fW h l<=fW h i:=by
 obtain⟨_,_,C,A,_⟩:=m.fst b l u;rw[A]at j;obtain⟨o,j,O,L⟩:=j;have B:=Path.cons r s j;obtain⟨n,y⟩|⟨c,D,n,y,J⟩:=oN m z B
 ·obtain⟨c,w⟩:=Zx5 n
  by_cases M:c<a
  ·grind
  have N:=m.mono a c b o qo v w;obtain⟨p,t⟩:=m.seen n qo;have H:=x.mono2 a c b o l p qo v w qo u t;have I:=x.min o p t i C qo r s j;omega
 grind[Lev.mono]
theorem QR{b:List Cl}{c:Bs}:bR F E a g (h::b) c=match bR F E a g [h] c with|.inl f=>.inl f|.inr s'=>bR F E a g b s':=by grind[bR]
theorem FV{b a c:List Cl}(d:b=a++g::c)(e:g∉a):b.idxOf g=a.length:=by grind
theorem XK{b a c:List Cl}(d:b=a++c)(e:g∈a):b.idxOf g<a.length:=by grind
theorem XJ{b a c:List Cl}(d:b=a++c)(e:g∉a):a.length<=b.idxOf g:=by grind
theorem uR{i:Nat}{cur:Cl}(ae:F g=false):∀(s:List Cl) (b:Bs) (l:Cl->Nat),Lev F E g b l (l cur)->OrdF F g b l->b.q[i]?=some cur->(∀a∈s,a∈aL cur.1 cur.2) ->(∀x f,x<i->b.q[x]?=some f->∀a∈aL f.1 f.2,F a=true->a∈b.q/\l a<=l f+1) ->(i=0->∃o,aL g.1 g.2=o++s/\(∀d c,b.g d=some c->c∈o)/\∀a∈o,F a=true->(b.g a).isSome=true) ->(0<i->∀d c,b.g d=some c->l d=l cur+1->fW g c<=fW g ((b.g cur).getD (0,0))) ->(∀c,bR F E i cur s b=.inl c->∀A n',A∈aL g.1 g.2->F A=true->E n'=true->Path F A (l cur) n'->fW g c<=fW g A) /\(∀t,bR F E i cur s b=.inr t->∃D,Lev F E g t D (l cur)/\OrdF F g t D/\(∀f∈b.q,D f=l f)/\(∃h,t.q=b.q++h)/\(∀a∈s,F a=true->a∈t.q/\D a<=l cur+1)/\(0<i->t.g cur=b.g cur/\∀d c,t.g d=some c->D d=l cur+1->fW g c<=fW g ((b.g cur).getD (0,0))))
 |[],b,l,j,M,_,_,_,_,aa=>by unfold bR;refine⟨λc j=>(by cases j),λt N=>?_⟩;cases N;exact⟨l,j,M,λ_ _=>rfl,⟨[],qs⟩,λa hn=>absurd hn qs,λag=>⟨rfl,aa ag⟩⟩
 |a::s,b,l,j,M,v,am,V,ah,aa=>by
  obtain⟨ax,b1,b2,b3,b4⟩:=j.inv;have ap:=Q8 v;have an:=λ(p:i=0)=>by subst p;rw[b1]at v;simpa using v.symm
  have ao:=λ(m:0<i)=>by
   have L:cur∈ax:=by rw[b1]at v;obtain⟨x,rfl⟩:∃x,i=x+1:=⟨i-1,by omega⟩;exact Q8 (qu v)
   exact Zq4.1 ((b4 cur).2 L)
  by_cases u:((b.g a).isSome||!F a)=true
  ·have p:bR F E i cur (a::s) b=bR F E i cur s b:=by rw[bR,Q7 u]
   rw[p];obtain⟨ai,aj⟩:=uR ae (i:=i) s b l j M v (λh e=>am h (by simp[e])) V (λm=>by
    obtain⟨o,w,J,z⟩:=ah m;refine⟨o++[a],by rw[w];simp,λd c n=>Qk3 _ (J d c n),λh e B=>?_⟩;obtain e|e:=m5.1 e
    ·exact z h e B
    have:h=a:=by simpa using e
    subst this;rw[B]at u;simpa using u) aa
   refine⟨ai,λt N=>?_⟩;obtain⟨D,q1,q2,Q,q4,q5,q6⟩:=aj t N;refine⟨D,q1,q2,Q,q4,λh e B=>?_,q6⟩;obtain rfl|e:=Qq0.1 e
   ·have N:(b.g h).isSome=true:=by rw[B]at u;simpa using u
    have hq:h∈b.q:=by rw[b1];exact Zz4 _ ((b4 h).1 N)
    obtain⟨ay,hx⟩:=q4;exact⟨by rw[hx];exact Qk3 _ hq,by rw[Q h hq];exact j.top h hq⟩
   grind
  have B:F a=true:=by
   cases j:F a with
   |true=>rfl
   |false=>simp[j]at u
  have hg:(b.g a).isSome=false:=by
   cases j:(b.g a).isSome with
   |false=>rfl
   |true=>simp[j]at u
  have bh:a∉ax:=λL=>by have:=(b4 a).2 L;rw[hg]at this;cases this
  have bg:a≠g:=λp=>by rw[p,ae]at B;cases B
  have ab:a∉b.q:=by rw[b1];simp;exact⟨bg,bh⟩
  have av:∀o:List Cl,(∀a∈o,F a=true->(b.g a).isSome=true)->a∉o:=λo z e=>by have:=z a e B;rw[hg]at this;cases this
  by_cases he:E a=true
  ·have p:bR F E i cur (a::s) b=.inl (if 0<i then(b.g cur).getD (0,0)else a):=by rw[bR,Z0 u,Q7 he]
   rw[p];refine⟨λc Y=>?_,λt Y=>(by cases Y)⟩;cases Y;intro A n' ad X Zr I;have au:n'∉b.q:=λe=>by rw[j.noend n' e]at Zr;cases Zr
   by_cases m:0<i
   ·rw[Q7 m];obtain⟨fc,W⟩:=ao m;rw[W];exact JA j M v V W au ad X I
   rw[Z0 m];have ag:i=0:=qo;have az:=an ag;rw[az,j.a0]at I;cases I;obtain⟨o,w,J,z⟩:=ah ag;have e1:=FV w (av o z);have e2:A∉o:=λe=>by obtain⟨bi,ba⟩:=Zq4.1 (z A e X);exact au (j.got ba)
   have e3:=XJ w e2;unfold fW;omega
  have aw:bR F E i cur [a] b=.inr ⟨b.q++[a],λk=>if k=a then some (if 0<i then(b.g cur).getD (0,0)else a)else b.g k⟩:=by simp only[bR];rw[Z0 u,Z0 he]
  have p:bR F E i cur (a::s) b=bR F E i cur s ⟨b.q++[a],λk=>if k=a then some (if 0<i then(b.g cur).getD (0,0)else a)else b.g k⟩:=by rw[QR,aw]
  obtain⟨ak,L1,C,_,l4⟩:=(pQ ae (i:=i) (cur:=cur) [a] b l j v (λh e=>(by simpa using e:h=a) ▸ am a qs)).2 _ aw;rw[p];have bf:=(gs.1 v).1;have ec:=C cur ap;have en:ak a=l cur+1:=by
   have h1:=(l4 a qs B).2;have h2:=L1.path a qs;obtain h3|h3:=Zx0 (l cur) (ak a)
   ·omega
   obtain⟨h4,_⟩|⟨x,d,h4,h5,h6⟩:=oN j V h2
   ·exact absurd h4 ab
   have:=j.mono i x cur d h4 v h5;omega
  have O:=λd c (n:d≠a) (Y:(if d=a then some (if 0<i then(b.g cur).getD (0,0)else a)else b.g d)=some c)=>by rwa[Z0 n]at Y
  have be:∀d c,b.g d=some c->l d=l cur+1->fW g c<=fW g (if 0<i then(b.g cur).getD (0,0)else a):=λd c n L=>by
   by_cases m:0<i
   ·rw[Q7 m];exact aa m d c n L
   rw[Z0 m];obtain⟨o,w,J,z⟩:=ah qo;have e1:=FV w (av o z);have e2:=XK w (J d c n);unfold fW;omega
  have O1:OrdF F g ⟨b.q++[a],λk=>if k=a then some (if 0<i then(b.g cur).getD (0,0)else a)else b.g k⟩ ak:=by
   refine⟨?_,?_⟩
   ·intro x k f d c e' bb P y ar r ac;dsimp only at P y r ac
    by_cases bd:k<b.q.length
    ·rw[J7 bd]at y;rw[J7 qo]at P;have m1:=Q8 P;have m2:=Q8 y;exact M.mono2 x k f d c e' bb P y (by rw[<-C f m1,<-C d m2];exact ar) (O f c (λp=>ab (p ▸ m1)) r) (O d e' (λp=>ab (p ▸ m2)) ac)
    rw[J8 qo]at y;have n:d=a:=by have:=Q8 y;simpa using this
    subst n;rw[Q7 rfl]at ac;cases ac
    by_cases H:f=d
    ·subst H;rw[Q7 rfl]at r;cases r;exact Q9 _
    have R:=O f c H r;have m1:=j.got R;exact be f c R (by rw[<-C f m1,ar,en])
   intro f c r A k y ad X I;dsimp only at r
   by_cases H:f=a
   ·subst H;rw[Q7 rfl]at r;cases r;have bc:k=l cur:=qo;subst bc
    by_cases m:0<i
    ·rw[Q7 m];obtain⟨fc,W⟩:=ao m;rw[W];exact JA j M v V W ab ad X I
    rw[Z0 m];rw[an qo,j.a0]at I;cases I;exact Q9 _
   have R:=O f c H r;exact M.min f c R A k (by rw[<-C f (j.got R)];exact y) ad X I
  have bj:∀k,k≠a->(λk=>if k=a then some (if 0<i then(b.g cur).getD (0,0)else a)else b.g k) k=b.g k:=λk y=>by dsimp only;rw[Z0 y]
  have H:cur≠a:=λp=>ab (p ▸ ap);obtain⟨ai,aj⟩:=uR ae (i:=i) (cur:=cur) s _ ak (by rw[ec];exact L1) O1 (by dsimp only;rw[J7 bf];exact v) (λh e=>am h (by simp[e]))
   (λx f P r h e af=>by dsimp only at r |-;rw[J7 qo]at r;obtain⟨w,J⟩:=V x f P r h e af;exact⟨Qk3 _ w,by rw[C h w,C f (Q8 r)];exact J⟩)
   (λm=>by
    obtain⟨o,w,J,z⟩:=ah m;refine⟨o++[a],by rw[w];simp,λd c n=>?_,λh e af=>?_⟩
    ·dsimp only at n
     by_cases S:d=a
     ·rw[Q7 S,Z0 qo]at n;cases n;simp
     exact Qk3 _ (J d c (O d c S n))
    dsimp only;obtain e|e:=m5.1 e
    ·by_cases Zq:h=a
     ·rw[Q7 Zq];rfl
     rw[Z0 Zq];exact z h e af
    have:h=a:=by simpa using e
    rw[Q7 this];rfl)
   (λm d c n L=>by
    dsimp only at n |-;rw[Z0 H]
    by_cases S:d=a
    ·rw[Q7 S,Q7 m]at n;cases n;exact Q9 _
    have aq:=O d c S n;exact aa m d c aq (by rw[<-C d (j.got aq),<-ec];exact L))
  rw[ec]at ai aj;refine⟨ai,λt N=>?_⟩;obtain⟨D,q1,q2,Q,⟨ay,hx⟩,q5,q6⟩:=aj t N;dsimp only at Q hx q6;rw[Z0 H]at q6;refine⟨D,q1,q2,λf u=>by rw[Q f (Qk3 _ u),C f u],⟨a::ay,by rw[hx];simp⟩,λh e af=>?_,q6⟩;obtain rfl|e:=Qq0.1 e
  ·exact⟨by rw[hx];simp,by rw[Q h qs,en];exact Q9 _⟩
  grind
def zU(c d:Cl->Bool)(a f:Cl):Prop:=f≠a->∀e i,d i=true->Path c f e i->(∀g h,d h=true->Path c a g h->e+1<=g)->∀b j,b∈aL a.1 a.2->c b=true->d j=true->Path c b e j->fW a f<=fW a b
theorem AX(w:F h=false):∀(fuel a:Nat) (d:Bs) (e:Cl->Nat) (t:Nat),Lev F E h d e t->OrdF F h d e->(∀b,d.q[a]?=some b->t<=e b) ->(∀m b,m<a->d.q[m]?=some b->∀k∈aL b.1 b.2,F k=true->k∈d.q/\e k<=e b+1)->(a=0->∀f,d.g f=none) ->(0<a->∀b l,d.q[a]?=some b->d.g b=some l->∀f i,d.g f=some i->e f=e b+1->fW h i<=fW h l)->zU F E h (eG F E h fuel a d)
 |0,a,d,e,t,o,_,_,_,_,_=>by unfold eG;exact λad=>qg
 |fuel+1,a,d,e,t,o,ho,hm,v,am,ao=>by
  unfold eG;cases r:d.q[a]? with
  |none=>exact λad=>qg
  |some c=>
   dsimp only;obtain⟨ag,b1,b2,b3,b4⟩:=o.inv;have H:Lev F E h d e (e c):={o with top:=λb j=>Y3 (o.top b j) qg};have J:=Q8 r;have ab:=(gs.1 r).1;have ai:a=0->c=h:=λS=>by grind
   have I:0<a->∃i,d.g c=some i:=λp=>by
    have M:c∈ag:=by grind
    grind[Option.isSome_iff_exists]
   obtain⟨r1,r2⟩:=uR w (i:=a) (cur:=c) (aL c.1 c.2) d e H ho r qg v
    (λp=>⟨[],by grind,λf i s=>qg,qg⟩)
    (λp f i s M=>by obtain⟨l,x⟩:=I p;grind)
   cases N:bR F E a c (aL c.1 c.2) d with
   |inl i=>
    dsimp only;obtain⟨C,D,k,W,X⟩:=(pQ w (i:=a) (cur:=c) (aL c.1 c.2) d e H r qg).1 i N;intro _ af n1 aq ae ac f' n' aj ak ap hp;have u:=ac _ k W (Path.cons C D X);have B:e c<=af:=by
     obtain⟨Y,_⟩|⟨m,f,Y,h2,h3⟩:=oN o v (Path.cons C D ae)
     ·grind[Lev.noend]
     grind[Lev.mono]
    grind
   |inr z=>
    dsimp only;obtain⟨ah,n,P,Q,⟨ar,O⟩,q5,q6⟩:=r2 z N;have y:z.q[a]?=some c:=by rw[O,J7 ab];exact r
    refine AX w fuel (a+1) z ah (e c) n P (λb j=>?_) ?_ (λp=>absurd p qo) (λ_ b l j x f i s M=>?_)
    ·have:=n.mono a (a+1) c b qo y j;rw[Q c J]at this;exact this
    ·intro m b hj j k hn hf;rw[O,J7 qo]at j
     by_cases S:m=a
     ·grind
     obtain⟨p1,p2⟩:=v m b qo j k hn hf;grind
    have m1:=n.mono a (a+1) c b qo y j;rw[Q c J]at m1;have m2:=n.top f (n.got s);obtain⟨_,_,kc,an,_⟩:=n.fst b l x;have L:0<a:=by grind[Lev.a0]
    obtain⟨u,B⟩:=q6 L;obtain⟨V,aa⟩:=I L;have A:=B f i s qo;rw[aa]at A u;have R:=P.mono2 a (a+1) c b V l qo y j qg u x;exact Y3 A R
theorem QY(a:F g=false)(b:E g=false):zU F E g (dU F E g):=by
 unfold dU;refine AX a 146 0 _ (λ_=>0) 0 ⟨BInv.start g,rfl,?_,?_,?_,?_,?_,?_⟩ ⟨?_,?_⟩ qo qo qg qo
 ·grind[Path.nil]
 ·grind
 ·grind
 ·omega
 ·omega
 ·omega
 ·grind
 omega
end Go.Proofs.YtapabahhfanmmaaGreatDoor
namespace Go.Proofs.YtapabahhfanmmaaGreatDoor
open Go.RowKit Classical List Go.Proofs.Tryz
set_option maxHeartbeats 4000000
set_option maxRecDepth 100000
variable {g h:Cl} {E F:Cl->Bool} {a b:Nat}
theorem JD(f:aE g.1 g.2=true)(a:h∈aL g.1 g.2):g∈aL h.1 h.2:=by unfold aL sds at a |-;obtain⟨b,c⟩:=g;obtain⟨d,e⟩:=h;simp only[map_cons,map_nil,mem_filter,mem_cons,Prod.mk.injEq,not_mem_nil,or_false]at a |-;grind
theorem Path.uncons(d:Path F g a h):∀b,a=b+1->∃c,c∈aL g.1 g.2/\F c=true/\Path F c b h:=by
 induction d using Path.ind with
 |nil=>omega
 |snoc f k i m=>
  rename_i a h n
  intro b j;have e:a=b:=qo;subst e;cases a with
  |zero=>cases f;grind[Path.nil]
  |succ l=>grind[Path.snoc]
def fR(b d:Cl->Bool)(e:Nat)(a:Cl):Prop:=b a=true/\∃c,d c=true/\Path b a e c
theorem PB:fR F E 0 g↔F g=true/\E g=true:=by
 constructor
 ·rintro⟨a,d,b,c⟩;cases c;grind
 rintro⟨a,b⟩;exact⟨a,g,b,.nil⟩
theorem zL(i:∀e:Cl,F e=true->aE e.1 e.2=true):fR F E (a+1) g↔F g=true/\∃c,fR F E a c/\g∈aL c.1 c.2:=by
 constructor
 ·rintro⟨b,d,f,h⟩;obtain⟨j,k,l,m⟩:=h.uncons a rfl;exact⟨b,j,⟨l,d,f,m⟩,JD (i g b) k⟩
 rintro⟨b,c,⟨o,d,n,p⟩,f⟩;exact⟨b,d,n,(by grind[Path.cons,JD])⟩
def bW[∀d:Prop,Decidable d](b:Nat->Cl->Prop):Nat->Cl->Nat
 |0,_=>0
 |a+1,c=>if bW b a c≠0 then bW b a c else if b a c then a+1 else 0
theorem oO{c:Nat->Cl->Prop}:∀{b:Nat} {a:Cl},bW c b a=0↔∀d,d<b->¬c d a
 |0,a=>by simp[bW]
 |b+1,a=>by have e:=@oO c b a;grind[bW]
theorem jX{c:Nat->Cl->Prop}:∀{d:Nat} {b:Cl} {a:Nat},bW c d b=a+1↔a<d/\c a b/\∀e,e<a->¬c e b
 |0,b,a=>by simp[bW]
 |d+1,b,a=>by have f:=@jX c d b a;grind[oO,bW]
theorem wS{P:Nat->Cl->Prop}(a:Nat)(b:Cl):bW P a b<=a:=by
 cases c:bW P a b with
 |zero=>omega
 |succ d=>have:=jX.1 c;omega
theorem IL{c:Nat->Cl->Prop}(n:∀h g,c (h+1) g↔F g=true/\∃b,c h b/\g∈aL b.1 b.2)(o:0<a)(i:bW c a g=0):bW c (a+1) g=a+1↔F g=true/\∃b,bW c a b=a/\g∈aL b.1 b.2:=by
 obtain⟨d,rfl⟩:∃d,a=d+1:=qa;have p:=oO.1 i;constructor
 ·intro j;obtain⟨_,k,_⟩:=jX.1 j;obtain⟨e,b,l,f⟩:=(n d g).1 k;refine⟨e,b,?_,f⟩;apply jX.2;grind
 rintro⟨e,b,m,f⟩;obtain⟨_,l,_⟩:=jX.1 m;apply jX.2;grind
theorem IJ{b:Nat->Cl->Prop}(c:bW b a g≠0):bW b (a+1) g=bW b a g:=by rw[bW,Q7 c]
theorem IK{b:Nat->Cl->Prop}(c:bW b a g=0)(d:bW b (a+1) g≠a+1):bW b (a+1) g=0:=by grind[bW]
def bM[∀e:Prop,Decidable e](f:Cl->Bool)(d:Nat->Cl->Prop)(c e:Nat)(g:List Cl)(b:Cl):Nat:=
  if bW d c b≠0 then bW d c b else if f b=true/\(b∈g\/∃a,ci a.1 a.2<e/\aE a.1 a.2=true/\bW d c a=c/\b∈aL a.1 a.2)then c+1 else 0
theorem qB{a:Nat->Cl->Prop}(c:Nat)(b:Cl):bM F a c 0 [] b=bW a c b:=by grind[bM]
theorem sO{c:Nat->Cl->Prop}(j:∀e b,c (e+1) b↔F b=true/\∃d,c e d/\b∈aL d.1 d.2)(o:∀e b,c e b->aE b.1 b.2=true)(h:0<a)(b:Cl):bM F c a 144 [] b=bW c (a+1) b:=by
 unfold bM
 split
 ·grind[IJ]
 rename_i p
 have f:bW c a b=0:=qo
 split
 ·rename_i g
  obtain⟨m,g|⟨d,_,_,i,n⟩⟩:=g
  ·grind
  exact((IL j h f).2 qg).symm
 rename_i g
 refine(IK f (λl=>?_)).symm;obtain⟨m,d,i,n⟩:=(IL j h f).1 l;obtain⟨k,rfl⟩:∃k,a=k+1:=⟨a-1,qo⟩;have q:=o _ _ (jX.1 i).2.1;grind[eN]
theorem ZG{free:Cl->Bool}{P:Nat->Cl->Prop}(e:0<a)(d:Nat)(c:List Cl)(b:Cl):bM free P a d c b=a↔bW P a b=a:=by grind[bM]
theorem ZI{d:Nat->Cl->Prop}{f:List Cl}(c e:Cl):bM F d a b (f++[c]) e=if e=c/\F c=true/\bM F d a b f c=0 then a+1 else bM F d a b f e:=by grind[bM,bW,ci,aE,aL]
theorem IM{e:Nat->Cl->Prop}{q:Cl}(o:aE q.1 q.2=true)(p:ci q.1 q.2=b)(k:∀c:Cl,aE c.1 c.2=true->ci c.1 c.2=b->c=q){f:List Cl}(g:(bW e a q=a/\f=aL q.1 q.2)\/(bW e a q≠a/\f=[]))(d:Cl):bM F e a (b+1) [] d=bM F e a b f d:=by
 have j:(F d=true/\(d∈([]:List Cl)\/∃c,ci c.1 c.2<b+1/\aE c.1 c.2=true/\bW e a c=a/\d∈aL c.1 c.2))↔(F d=true/\(d∈f\/∃c,ci c.1 c.2<b/\aE c.1 c.2=true/\bW e a c=a/\d∈aL c.1 c.2)):=by
  constructor
  ·rintro⟨i,h|⟨c,r,n,l,m⟩⟩
   ·grind
   grind
  grind
 grind[bM]
theorem ZF{d:Nat->Cl->Prop}(i:∀c b,d (c+1) b↔F b=true/\∃f,d c f/\b∈aL f.1 f.2)(t:0<a)(r:∀b,bW d (a+1) b≠a+1):∀c b,a<=c->d c b->∃e,e<a/\d e b:=by
 have j:∀b,d a b->∃e,e<a/\d e b:=λb h=>by
  by_cases u:bW d a b=0
  ·simp_all[jX,oO]
  obtain⟨c,l⟩:∃c,bW d a b=c+1:=⟨bW d a b-1,by omega⟩;simp_all[jX]
 intro c
 induction c with
 |zero=>omega
 |succ c p=>
  intro b l h
  by_cases q:a=c+1
  ·grind
  obtain⟨k,f,o,m⟩:=(i c b).1 h;obtain⟨e,s,n⟩:=p f qo o
  by_cases g:e+1=a
  ·rw[<-g]at j;have:=j b ((i e b).2 ⟨k,f,n,m⟩);rw[g]at this;exact this
  exact⟨e+1,by omega,qg⟩
structure FarX (free ends:Cl->Bool) (d:Cl->Nat):Prop where
 is:∀c k,d c=k+1->fR free ends k c/\∀m,m<k->¬fR free ends m c
 all:∀c k,k<=143->fR free ends k c->d c≠0
theorem DY(i:∀e:Cl,F e=true->aE e.1 e.2=true)(h:0<a)(c:a=145\/∀b,bW (fR F E) (a+1) b≠a+1):FarX F E (bW (fR F E) a):=by
 refine⟨λb d f=>(jX.1 f).2,λb d f j g=>?_⟩;have n:=oO.1 g
 by_cases k:d<a
 ·grind
 obtain c|c:=c
 ·omega
 obtain⟨o,l,m⟩:=ZF (λd b=>zL i) h c d b qo j;grind
def eM(a:Cl->Nat):List Cl->Nat×Cl->Nat×Cl
 |[],c=>c
 |n::ns,(b,r)=>if 0<a n/\(b=0\/a n<b)then eM a ns (a n,n)else eM a ns (b,r)
theorem xT(a:Cl->Nat)(q:Cl):∀(d e:List Cl) (f:Nat×Cl),((f=(0,q)/\∀c∈e,a c=0)\/(f.2∈e/\f.1=a f.2/\0<a f.2/\∀c∈e,0<a c->a f.2<=a c/\(a c=a f.2->e.idxOf f.2<=e.idxOf c))) ->((eM a d f=(0,q)/\∀c∈e++d,a c=0)\/((eM a d f).2∈e++d/\0<a (eM a d f).2/\∀c∈e++d,0<a c->a (eM a d f).2<=a c/\(a c=a (eM a d f).2->(e++d).idxOf (eM a d f).2<=(e++d).idxOf c)))
 |[],e,f,h=>by
  rw[Zq6];obtain h|⟨j,m,l,k⟩:=h
  ·exact .inl h
  exact .inr ⟨j,l,k⟩
 |n::d,e,(b,r),h=>by
  have i:e++n::d=(e++[n])++d:=qs;rw[i];unfold eM
  split
  ·rename_i s
   refine xT a q d (e++[n]) (a n,n) (.inr ⟨qs,rfl,s.1,λc o p=>?_⟩);dsimp only;obtain g|g:=m5.1 o
   ·obtain⟨_,h⟩|⟨j,m,l,k⟩:=h
    ·have:=h c g;omega
    dsimp only at j m l k;have:=(k c g p).1;omega
   have:c=n:=by simpa using g
   subst this;exact⟨Q9 _,λ_=>Q9 _⟩
  rename_i s
  refine xT a q d (e++[n]) (b,r) ?_;obtain⟨t,h⟩|⟨j,m,l,k⟩:=h
  ·refine .inl ⟨t,λc o=>?_⟩;obtain g|g:=m5.1 o
   ·exact h c g
   have:c=n:=by simpa using g
   subst this;have u:b=0:=by simpa using V3 Prod.fst t
   obtain i|i:=Zj6 (a c)
   ·exact i
   exact absurd ⟨i,.inl u⟩ s
  dsimp only at j m l k;refine .inr ⟨by simp[j],m,l,λc o p=>?_⟩;dsimp only;rw[idxOf_append,Q7 j,idxOf_append];obtain g|g:=m5.1 o
  ·rw[Q7 g];exact k c g p
  have:c=n:=by simpa using g
  subst this;have w:a r<=a c:=by
   obtain i|i:=Zx0 (a c) (a r)
   ·exact absurd ⟨p,.inr qo⟩ s
   exact i
  refine⟨w,λv=>?_⟩
  split
  ·rename_i x;exact(k c x p).2 v
  have:=Zj7 j;omega
theorem Cz{a:Cl}(r:F a=false)(O:aE a.1 a.2=true)(B:E a=false){d:Cl->Nat}(A:FarX F E d):(eM d (aL a.1 a.2) (0,a)).2=dU F E a:=by
 have z:=RC r O B;have y:=QY r B;obtain⟨e,S⟩:=nn (dU F E a);rw[S]at z y |-;have g:=xT d a (aL a.1 a.2) [] (0,a) (.inl ⟨rfl,by simp⟩);rw[Z8]at g;have q:∀c,0<d c->∃b,d c=b+1/\fR F E b c/\∀D,D<b->¬fR F E D c:=λc hc=>⟨d c-1,by omega,A.is c (d c-1) qo⟩;obtain⟨i,f,b,t,N,n,o,x⟩|⟨i,f⟩:=z
 ·have P:=A.all e b N ⟨f,t,n,o⟩;obtain⟨_,g⟩|⟨h,m,v⟩:=g
  ·exact absurd (g e i) P
  obtain⟨w,V⟩:=nn ((eM d (aL a.1 a.2) (0,a)).2);rw[V]at h m v |-;obtain⟨s,e1,⟨j,u,k,l⟩,e5⟩:=q w m;obtain⟨C,f1,⟨f2,n3,f3,f4⟩,M⟩:=q e qo;have W:=x _ u k (Path.cons h j l);have X:=(v e i qo).1;have Y:C<=b:=by
   obtain p|p:=Zx0 b C
   ·exact absurd ⟨f,t,n,o⟩ (M b p)
   exact p
  have Q:s=b:=qo;subst Q;have R:e≠a:=λL=>by rw[L,r]at f;cases f
  have H:=y R s t n o x w u h j k l;have b2:=(v e i qo).2 qo;unfold fW at H;have b3:(aL a.1 a.2).idxOf w=(aL a.1 a.2).idxOf e:=qo;have I:=getElem_idxOf (Zj7 h);have J:=getElem_idxOf (Zj7 i);rw[<-I,<-J];congr 1
 obtain⟨g,_⟩|⟨h,m,_⟩:=g
 ·grind
 obtain⟨s,_,⟨j,u,k,l⟩,_⟩:=q _ m;exact absurd (Path.cons h j l) (f _ _ k)
variable {X:List U} {t:T} {C:U}
def lI(c:List U)(a:Cl):Bool:=c.any λb=>b.x==a.1&&b.y==a.2
def cH(c:List U)(b:Nat->Int)(a:Cl):Bool:=aE a.1 a.2&&(b (ci a.1 a.2)==0&&!lI c a)
theorem EW{b:Nat->Int}:∀a:Cl,cH X b a=true->aE a.1 a.2=true:=λa c=>by grind[cH]
theorem XC(d:TOk t)(a:Cl):(t.held a).isSome=lI t.us a:=by
 rw[Bool.eq_iff_iff];unfold lI;rw[any_eq_true];constructor
 ·grind[Option.isSome_iff_exists,TOk.hel]
 rintro⟨b,e,f⟩;have c:(b.x,b.y)=a:=by grind
 rw[<-c,(d.all b e).hd];rfl
theorem EV(b:TOk t)(a:Cl)(c:aE a.1 a.2=true):cR (bN t.held) t.bd a.1 a.2=cH t.us t.bd a:=by unfold cR cH;grind[XC]
theorem AU{g h:Cl->Bool}(i:∀a:Cl,aE a.1 a.2=true->F a=E a/\g a=h a)(f:Nat)(e:Cl):∀(c:List Cl) (b:Bs),(∀d∈c,aE d.1 d.2=true)->bR F g f e c b=bR E h f e c b
 |[],b,_=>rfl
 |d::c,b,l=>by obtain⟨j,k⟩:=i d qg;unfold bR;rw[j,k];have o:=λb=>AU i f e c b (λm n=>l m qg);grind
theorem AV{g f:Cl->Bool}(h:∀a:Cl,aE a.1 a.2=true->F a=E a/\g a=f a)(e:Cl):∀(fuel b:Nat) (c:Bs),eG F g e fuel b c=eG E f e fuel b c
 |0,_,_=>rfl
 |fuel+1,b,c=>by
  unfold eG;cases j:c.q[b]? with
  |none=>rfl
  |some d=>
   dsimp only;rw[AU h b d _ c (nL _ _)];cases bR E f b d (aL d.1 d.2) c with
   |inl a=>rfl
   |inr i=>exact AV h e fuel (b+1) i
theorem QX{c d:Cl->Bool}(e:∀a:Cl,aE a.1 a.2=true->F a=E a/\c a=d a)(b:Cl):dU F c b=dU E d b:=AV e b _ _ _
theorem Km(d:TOk t)(h:C∈t.us)(j:∀b:Cl,aE b.1 b.2=true->F b=E b)(f:E (C.x,C.y)=false){c:Cl->Nat}(e:FarX (cH t.us t.bd) E c):(eM c (aL C.x C.y) (0,(C.x,C.y))).2=dB t C F:=by
 have k:lI t.us (C.x,C.y)=true:=by grind[lI]
 have g:cH t.us t.bd (C.x,C.y)=false:=by grind[cH]
 have:=Cz (a:=(C.x,C.y)) g (d.all C h).on f e;rw[this];exact QX (λb i=>(by grind[EV])) _
theorem Hr(c:Nat)(d:Nat->Int)(f:U)(a:Cm)(b:World)(g:BdAt b c d)(j:c<b.heap.size):Cs 161 #[pt c,f.val,a.val] b (R0 b (.bool (aE a.x a.y&&(d (ci a.x a.y)!=10)))):=by
 have e:Fr [] b ((b.alloc (.cells f.arr 85)).alloc (.cells #[ii a.unit,ii a.what,ii a.x,ii a.y,ii a.target] 81)):=((r0 _ _).alloc _).alloc _;have h:=zF c d f a _ (g.fr e qs) (Z1 j e.size);have i:=aA h;clear h g
 delta Cs;go_in
 go_wp2_with (go_at_call 157;refine cm i.o ?_;rintro l m ⟨rfl,k⟩)
 go_ret;exact⟨rfl,e.qT k⟩
variable {L S:List Nat} {v:Value} {w:World}
def pB(a b:List Nat)(c:Nat):List Nat:=if c=0 then a else b
theorem XX(b:a<S.length):(ints S)[a]?=some (ii ((S[a]'b:Nat):Int)):=by grind
theorem MU{base:Nat}(d:w.ownsRow base 3 1 v S.length (ints S)):∃b c,v=.slice b S.length c/\∀a (e:a<S.length),∃g,b=some ⟨g,0,none⟩/\w.cell? ⟨g,a,none⟩=some (ii ((S[a]'e:Nat):Int)):=by obtain⟨b,c,rfl⟩:=gL d;refine⟨b,c,rfl,λa e=>?_⟩;obtain⟨g,h,f⟩:=bK d qo;cases f;refine⟨g,rfl,?_⟩;have:=d.cells (g:=g) rfl a _ (XX e);grind[Addr.add_lit]
theorem Refs.rows{base:Nat}(j:Refs w base v S L):∃d g,v=.slice (so d) 2 g/\∀a,a<2->∃b c,w.cell? ⟨d,a,none⟩=some (.slice b (pB S L a).length c)/\∀e (m:e<(pB S L a).length),∃h,b=some ⟨h,0,none⟩/\w.cell? ⟨h,e,none⟩=some (ii (((pB S L a)[e]'m:Nat):Int)):=by
 obtain⟨d,g,o,p,rfl,i,_,k,l⟩:=j;refine⟨d,g,rfl,λa n=>?_⟩;have:a=0\/a=1:=qo;obtain rfl|rfl:=this
 ·obtain⟨b,c,rfl,f⟩:=MU k;exact⟨b,c,by rw[aB i];rfl,f⟩
 obtain⟨b,c,rfl,f⟩:=MU l;exact⟨b,c,by rw[aB i];rfl,f⟩
theorem NC(base P:Nat)(i j:List Nat)(E F:Value)(e:World)(y:Refs e base E i j)(z:Refs e P F i j)(ha:i.length<=2000000)(hb:j.length<=2000000):Cs 96 #[E,F] e (R0 e (.bool true)):=by
 obtain⟨V,rc,rfl,B⟩:=y.rows;obtain⟨W,ab,rfl,C⟩:=z.rows;have N:=aA B;have O:=(show Hi _ from C);have M:Hi (∀b,(pB i j b).length<=2000000):=λb=>by grind[pB]
 have I:Hi (∀b,b<2->∃(c:List Nat) (n:Option Addr) (s:Nat) (p:Option Addr) (t:Nat),c.length<=2000000/\e.cell? ⟨V,b,none⟩=some (.slice n c.length s)/\e.cell? ⟨W,b,none⟩=some (.slice p c.length t)/\(∀a (k:a<c.length),∃h,n=some ⟨h,0,none⟩/\e.cell? ⟨h,a,none⟩=some (ii ((c[a]'k:Nat):Int)))/\(∀a (k:a<c.length),∃h,p=some ⟨h,0,none⟩/\e.cell? ⟨h,a,none⟩=some (ii ((c[a]'k:Nat):Int)))):=λb Q=>by grind[pB]
 clear y z B C N O M
 delta Cs;go_in
 go_wp2
 go_loopw [5] (fun b wr=>∃a:Nat,a<=2/\b=ii a/\Fr [] e wr) (fun b _=>2-(intOf b).toNat)
 ·grind[r0]
 obtain⟨b,Q,rfl,d⟩:=hrel
 by_cases A:b<2
 ·have R:(b:Int)<2:=qo;obtain⟨c,n,s,p,t,aa,f,g,u,v⟩:=I.o b A;have w:=(d.cell _ _ (aI f) qs).trans f;have x:=(d.cell _ _ (aI g) qs).trans g;have J:=aA u;have L:=(show Hi _ from v);clear u v;go_wp2
  go_quiet (fail)
  go_wp2
  go_loopw [6] (fun r wr=>∃a:Nat,a<=c.length/\r=ii a/\Fr [] e wr) (fun r _=>c.length-(intOf r).toNat)
  ·exact⟨0,Z3 _,rfl,d.drewN _⟩
  clear w x d;obtain⟨a,k,rfl,d⟩:=hrel;have w:=(d.cell _ _ (aI f) qs).trans f;have x:=(d.cell _ _ (aI g) qs).trans g
  by_cases q:a<c.length
  ·have S:(a:Int)<(c.length:Int):=qo;obtain⟨h,rfl,l⟩:=J.o a q;obtain⟨g',rfl,m⟩:=L.o a q;obtain⟨H,D⟩:∃H:Nat,c[a]=H:=⟨_,rfl⟩;rw[D]at l m;have X:=(d.cell _ _ (aI l) qs).trans l;have Y:=(d.cell _ _ (aI m) qs).trans m;clear l m D f g;go_wp2
   go_quiet (fail)
   go_wp2;go_roundw
   ·exact⟨a+1,q,by go_num,d.drewN _⟩
   simp[intOf];omega
  have S:¬(a:Int)<(c.length:Int):=qo;clear f g;go_wp2;go_roundw
  ·exact⟨b+1,A,by go_num,d⟩
  simp[intOf];omega
 have R:¬(b:Int)<2:=qo;go_wp2;go_ret;exact⟨rfl,d⟩
