import Derived.Test.YtapabahhfanmmaaGreatDoorCInv2
import Derived.Test.YtapabahhfanmmaaGreatDoorCFrCut
namespace Go.Proofs.YtapabahhfanmmaaGreatDoor
open Go.RowKit List Go.Proofs.Tryz
set_option maxHeartbeats 4000000
set_option maxRecDepth 100000
variable {X Y:List U} {s t:T} {C:U}
theorem Good.trans{b:T}{g Q:Int->Prop}(d:Good t g b)(e:Good b Q s)(m:∀f,g f->Q f->False):Good t (λf=>g f\/Q f) s:=by
 refine⟨e.ok,Zx4 d.nx e.nx,?_,Zx4 e.we d.we,e.tn.trans d.tn⟩;intro r p;obtain j|⟨q,o,c⟩:=e.rel r p
 ·exact .inl (Zx4 d.nx j)
 obtain j|⟨l,n,a⟩:=d.rel q o
 ·grind[Near1.id]
 refine .inr ⟨l,n,c.id.trans a.id,c.kind.trans a.kind,c.owner.trans a.owner,Zx4 c.life a.life,?_,?_⟩
 ·by_cases k:g l.id
  ·obtain⟨h,i⟩:=c.stay (λv=>m _ k (by grind[Near1.id]));rw[h,i];exact a.near
  obtain⟨h,i⟩:=a.stay k;rw[<-h,<-i];exact c.near
 intro u;obtain⟨h,i⟩:=a.stay qg;grind[Near1.stay,Near1.id]
theorem Good.weaken{b Q:Int->Prop}(a:Good t b s)(i:∀c,b c->Q c):Good t Q s:=
  ⟨a.ok,a.nx,λg d=>(a.rel g d).imp id (λ⟨h,e,f⟩=>⟨h,e,{f with stay:=(by grind[Near1.stay])}⟩),a.we,a.tn⟩
def bZ(c:T)(b:U)(a:Cm):Bool:=
 if a.what=0 then true
 else if a.what=1 then(b.kind==2||b.kind==3)&&(aE a.x a.y&&c.bd (ci a.x a.y)!=10)
 else if a.what=2 then b.kind==2&&(aE a.x a.y&&jB (c.bd (ci a.x a.y)))
 else if a.what=3 then b.kind==3&&iC c.us b.owner a.target
 else if a.what=4 then b.kind==1&&(a.x==2||a.x==3)
 else false
def fU(a:Cm):Cm:=
 if a.what=0 then⟨a.unit,a.what,0,0,0⟩
 else if a.what=3 then⟨a.unit,a.what,0,0,a.target⟩
 else if a.what=4 then⟨a.unit,a.what,a.x,0,0⟩
 else⟨a.unit,a.what,a.x,a.y,0⟩
def fF(a:T)(e:Int)(b:Cm):Bool×T:=
 match bI a.us b.unit with
 |none=>(false,a)
 |some d=>
  match a.us[d]? with
  |none=>(false,a)
  |some c=>if c.owner=e/\bZ a c b=true then(true,{a with us:=a.us.set d (c.ordered (fU b))})else(false,a)
def bH(d:Int):Nat->List Cm->T->List Nat×T
 |_,[],b=>([],b)
 |c,f::g,b=>
  let e:=fF b d f
  let a:=bH d (c+1) g e.2
  (if e.1=true then a.1 else c::a.1,a.2)
theorem Jc{a:Cm}(b:bZ t C a=true):kH (C.ordered (fU a)):=by grind[bZ,fU,kH]
theorem tY(c:TOk t)(f:Int)(b:Cm)(d:Int->Prop):Good t d (fF t f b).2/\(fF t f b).2.us.map (λa=>(a.kind,a.owner))=t.us.map (λa=>(a.kind,a.owner)):=by
 unfold fF;cases j:bI t.us b.unit with
 |none=>grind[Good.refl]
 |some i=>
  dsimp only;cases h:t.us[i]? with
  |none=>grind[Good.refl]
  |some a=>
   dsimp only;have e:=c.all a qg
   split
   ·rename_i g
    refine⟨?_,(by grind[qD])⟩;exact Good.put c h d (u':=a.ordered (fU b)) rfl rfl rfl rfl c.st c.bd qg rfl rfl rfl rfl rfl ⟨e.lf.1,Zx3 _⟩ e.ld (Jc g.2) qg
   grind[Good.refl]
theorem Ce(f:Y.map (λa=>(a.kind,a.owner))=X.map (λa=>(a.kind,a.owner))):bP Y=bP X:=by
 have g:∀(c:Int) (b:List U),(cK b c).isSome=(b.map (λa=>(a.kind,a.owner))).any (λd=>d.1==1&&d.2==c):=λc b=>by
  unfold cK
  induction b with
  |nil=>rfl
  |cons e b h=>grind[aG]
 grind[bP]
theorem lN(e:Int)(b:Int->Prop):∀(d:List Cm) (c:Nat) {a:T},TOk a->(∀m,b m->False)->Good a b (bH e c d a).2/\bP (bH e c d a).2.us=bP a.us
 |[],_,_,f,_=>⟨Good.refl f _,rfl⟩
 |h::d,c,a,f,l=>by obtain⟨g,i⟩:=tY f e h b;obtain⟨j,k⟩:=lN e b d (c+1) g.ok l;exact⟨(g.trans j qg).weaken qg,k.trans (Ce i)⟩
def iB(a:T)(c:U):T:=
 match bI a.us c.id with
 |none=>a
 |some b=>match a.us[b]? with|none=>a|some u=>eS a u
def fY:List U->T->T
 |[],a=>a
 |b::c,a=>if bP (iB a b).us=true then iB a b else fY c (iB a b)
theorem rI(b:TOk t)(c:bP t.us=false)(a:U):Good t (·=a.id) (iB t a):=by grind[iB,bI,Good.refl,kU,uN]
theorem rH:∀(b:List U) {a:T},TOk a->bP a.us=false->(b.map U.id).Nodup->Good a (λg=>g∈b.map U.id) (fY b a)
 |[],a,c,_,_=>Good.refl c _
 |h::b,a,c,f,d=>by
  have e:=rI c f h;rw[Y5,V1]at d;unfold fY
  split
  ·grind[Good.weaken]
  rename_i j
  have i:=rH b e.ok qg d.2;grind[Good.weaken,Good.trans,mem_cons_of_mem]
def dC(d:List U):Cl->Option Int:=d.foldl (λc a=>λb=>if b=(a.x,a.y)then some a.id else c b) (λ_=>none)
theorem sF:∀(d:List U) (e:Cl->Option Int) (b:Cl) (c:Int),(∀a∈d,(a.x,a.y)=b->a.id=c)->d.foldl (λf a=>λg=>if g=(a.x,a.y)then some a.id else f g) e b=(if d.any (λa=>decide ((a.x,a.y)=b))=true then some c else e b)
 |[],e,b,c,_=>by simp
 |a::d,e,b,c,f=>by rw[foldl_cons,sF d _ b c (λh i=>f h qg)];grind
theorem XB(d:TOk t):dC t.us=t.held:=by
 funext b;unfold dC;cases g:t.held b with
 |none=>
  have h:∀a∈t.us,(a.x,a.y)≠b:=λa c e=>by have:=(d.all a c).hd;grind
  rw[sF t.us _ b 0 qg,Z0];grind
 |some f=>
  rw[sF t.us _ b f (λa c e=>by have:=(d.all a c).hd;grind),Q7]
  grind[TOk.hel]
def GOk(a:T):Prop:=TOk {a with held:=dC a.us}
def dN(a:T):T:={a with held:=dC a.us}
def aO(a:T)(first c:List Cm):T×List Nat×List Nat:=
 if 1000000000<=a.turn then(a,range first.length,range c.length)
 else if bP a.us=true then({a with turn:=a.turn+1},range first.length,range c.length)
 else
  let d:=bH 0 0 first (dN a)
  let b:=bH 1 0 c d.2
  let e:=fY b.2.us b.2
  ({e with turn:=e.turn+1},d.1,b.1)
structure Played (t t':T):Prop where
 ok:GOk t'
 rel:∀v'∈t'.us,t.next<=v'.id\/∃v∈t.us,Near1 (λ_=>True) v v'
 we:mX t'<=mX t
 tn:t'.turn=t.turn+1
theorem yH(a:Rise X):(X.map U.id).Nodup:=by grind[tP]
theorem nV(b:GOk t)(first c:List Cm)(m:t.turn<1000000000):Played t (aO t first c).1:=by
 unfold aO;rw[Z0 qo];have h:TOk (dN t):=b
 split
 ·exact⟨⟨b.rise,b.all,b.hel,b.nx,b.st,b.bd,b.len,b.b0,b.b1,b.bs⟩,(by grind[Near1.same]),Zx3 _,rfl⟩
 rename_i k
 dsimp only;have l:bP (dN t).us=false:=by show bP t.us=false;grind
 obtain⟨f,n⟩:=lN 0 (λ_=>False) first 0 h qg
 obtain⟨d,o1⟩:=lN 1 (λ_=>False) c 0 f.ok qg;have g:=rH (bH 1 0 c (bH 0 0 first (dN t)).2).2.us d.ok qg (yH d.ok.rise);have a:=((f.trans d qg).trans g (λ_ j _=>by grind)).weaken (Q:=λ_=>True) qg;obtain⟨e,i⟩:=nn (fY (bH 1 0 c (bH 0 0 first (dN t)).2).2.us (bH 1 0 c (bH 0 0 first (dN t)).2).2);rw[i]at a |-;refine⟨?_,a.rel,a.we,by dsimp only;rw[a.tn];rfl⟩
 show TOk {e with turn:=e.turn+1,held:=dC e.us}
 rw[XB a.ok];exact⟨a.ok.rise,a.ok.all,a.ok.hel,a.ok.nx,a.ok.st,a.ok.bd,a.ok.len,a.ok.b0,a.ok.b1,a.ok.bs⟩
variable {a b c:Nat} {w:World}
set_option maxRecDepth 100000
def dH(a:Nat->Int):List Value:=(range 144).map λb=>ii (a b)
theorem lA(a:Nat->Int):(dH a).length=144:=by simp[dH]
theorem RI(a:Nat->Int):(dH a).toArray.all (·.oneCell')=true:=by apply Zk2;intro d b;obtain⟨c,_,rfl⟩:=Qk7.1 b;rfl
theorem oK:(prog.info? 88).map (·.size)=some 144:=qk
theorem GF:(prog.info? 56).map (·.size)=some 4:=qk
theorem Kw:zeroCells88.size=144:=qk
theorem GS.board(e:GS w a b c t):w.rangeAt a 4 (dH t.bd):=by
 intro d h g;have f:d<144:=by grind[lA]
 rw[e.cell (4+d) qo];grind[dH,aK]
theorem SZ(c n k:Nat)(a:T)(b:World)(e:GS b c n k a):Cs 55 #[pt c] b (R0 b (.agg (dH a.bd).toArray)):=by
 have p:=e.lt;have f:=λm=>(e.fr ((r0 [] b).alloc m) qs qs).board;have j:=aA f;have g:(prog.info? 88).map (·.size)=some (dH a.bd).length:=by grind[lA,oK]
 have l:(prog.info? 88).map (·.size)=some (dH a.bd).toArray.size:=qo;have h:=aA g;have d:=qo;have i:Hi (zeroCells88.size=(dH a.bd).toArray.size):=by grind[Kw,size_toArray,lA]
 clear f g l
 delta Cs;go_in
 go_wp2_with (first
  |(go_at_call 39;refine(qZ c _).mono ?_;rintro o q ⟨rfl,rfl⟩)
  |(refine wpList_load_mid rfl 88 _ rfl c 4 rfl (dH a.bd) _ (j.o _) Qk0 rfl h.o ?_)
  |(refine wpList_store_row rfl 88 _ _ rfl b.heap.size (dH a.bd).toArray rfl rfl 88 zeroCells88 (aC b _) d.o i.o (RI _) ?_))
 exact Zq8 (v:=.agg (dH a.bd).toArray) (Zz8 results55 _ _ b.heap.size 88 _ (0,0) _ rfl (Qz4 _ _ _ _ _ _ (aC b _)) Qk0 rfl d.o) rfl ⟨rfl,((r0 _ _).alloc _).setRow _ _ (.inr (Q9 _))⟩
theorem YU(d r p:Nat)(a:T)(b:World)(k:GS b d r p a):Cs 23 #[pt d] b (R0 b (.agg #[ii a.turn,ii (eD a.us),ii a.s0,ii a.s1])):=by
 have C:=k.lt;obtain⟨j,g,m,_⟩:=al b (.cells #[ii 0,ii 0,ii 0,ii 0] 56);have z:j.heap[b.heap.size]?=some (.cells #[ii 0,ii 0,ii 0,ii 0] 56):=by rw[g];exact aC b _
 have f:Fr [] j (b.alloc (.cells #[ii 0,ii 0,ii 0,ii 0] 56)).drew:=by rw[g];exact(r0 _ _).drew
 have F:j.heap.size=b.heap.size+1:=by rw[g];simp
 have i:∀c,Fr [] b c->(λc:World=>cl c d 0 a.turn/\cl c d 2 a.s0/\cl c d 3 a.s1) c:=by
  intro c A;have l:=k.fr A qs qs;refine⟨?_,?_,?_⟩
  ·have:=l.cell 0 qo;simpa[aK]using this
  ·have:=l.cell 2 qo;simpa[aK]using this
  have:=l.cell 3 qo;simpa[aK]using this
 have s:=i _ (m.qT f);clear g
 delta Cs;go_in
 go_wp2_with (go_at_call 39;refine(qZ d _).mono ?_;rintro t h ⟨rfl,rfl⟩)
 go_region_held (fun c:World=>ca c d 0 (ii a.turn)/\ca c d 2 (ii a.s0)/\ca c d 3 (ii a.s1))
  (first|with_reducible exact s|with_reducible exact i _ n|(refine i _ ?_;with_reducible exact(((n.setCell _ _ (.inr (Q9 _))).setCell _ _ (.inr (Q9 _))).setCell _ _ (.inr (Q9 _))).setCell _ _ (.inr (Q9 _))))
  (first|(go_at_call 50;refine(zN d r p a.us _ (k.gv.qF (m.qT f))).mono ?_;rintro t h ⟨rfl,q⟩;have n:=(m.qT f).qT q;have o:=(f.qT q).qH z;have D:∀e,h.cell? ⟨b.heap.size,e,none⟩=#[ii 0,ii 0,ii 0,ii 0][e]?:=(λe=>aB o);have E:∀e,h.frozen? ⟨b.heap.size,e,none⟩=false:=(λe=>aV o)))
 all_goals
  go_wp2_with fail
  have u:=cJ o 0 (ii a.turn);have w:=cJ u 1 (ii (eD a.us));have x:=cJ w 2 (ii a.s0);have y:=cJ x 3 (ii a.s1);have B:((((h.setCell ⟨b.heap.size,0,none⟩ (ii a.turn)).setCell ⟨b.heap.size,1,none⟩ (ii (eD a.us))).setCell ⟨b.heap.size,2,none⟩ (ii a.s0)).setCell ⟨b.heap.size,3,none⟩ (ii a.s1)).heap[b.heap.size]?=some (.cells #[ii a.turn,ii (eD a.us),ii a.s0,ii a.s1] 56):=by simpa using y
  exact Zq8 (v:=.agg #[ii a.turn,ii (eD a.us),ii a.s0,ii a.s1]) (Zz8 results23 _ _ b.heap.size 56 _ (0,0) _ rfl B underlying56 rfl GF) rfl ⟨rfl,(((n.setCell _ _ (.inr (Q9 _))).setCell _ _ (.inr (Q9 _))).setCell _ _ (.inr (Q9 _))).setCell _ _ (.inr (Q9 _))⟩
theorem CV(r u:Nat)(d:List U)(i:World)(D:PRow i r u d)(am:d.length<=1000):Cs 149 #[.slice (so r) d.length u] i λv a=>∃c,v=.returned (.map (some c))/\i.heap.size<=c/\MapF a c (bN (dC d))/\Fr [] i a:=by
 have ac:=@run_makeMap prog;have aq:=D.lt
 delta Cs;go_in
 go_wp2_with fail
 obtain⟨c,n⟩:=nm i.heap.size;rw[<-n];obtain⟨j,w⟩:=nm (i.alloc (.map #[] 0));rw[<-w];have af:Fr [] i j:=by grind[Fr.alloc,r0]
 have an:MapF j c (bN (dC (d.take 0))):=by have:MapF j c (λ_=>none):=MapF.made (clock:=0) (by grind[aC]);exact this
 have ad:=(D.fr af qs).ppl;have ap:r≠c:=qo;have ar:j.heap.size=c+1:=qa;have ah:=aA n;clear w ac n
 go_loopw [9] (fun q wr=>∃g:Nat,g<=d.length/\q=ii g/\MapF wr c (bN (dC (d.take g)))/\Fr [c] j wr) (fun q _=>d.length-(intOf q).toNat)
 ·grind[r0]
 obtain⟨g,hk,rfl,k,p⟩:=hrel
 by_cases ab:g<d.length
 ·obtain⟨b,E⟩:∃ag,d[g]?=some ag:=qa;obtain⟨J,L,N,O,P,Q,R,S,V,W,M⟩:=(ad.fr p qg).at E;have C:dC (d.take (g+1))=λt=>if t=(b.x,b.y)then some b.id else dC (d.take g) t:=by unfold dC;grind[take_succ_eq_append_getElem]
  have H:=aA C;have I:=aA k;have Zq:=p.size;have ak:=k.lt;clear E C k
  go_wp2_with fail
  obtain⟨h,z⟩:=nm (wr.alloc (.cells b.arr 85));rw[<-z];have A:Fr [] wr h:=by grind[Fr.alloc,r0]
  have f:h.heap[wr.heap.size]?=some (.cells b.arr 85):=by grind[aC]
  have ae:=MapF.fr I.o A qs;clear z J L N O P Q R S V W M;have l:∀a,Fr [c] h a->(λa:World=>cl a wr.heap.size 0 b.id/\cl a wr.heap.size 1 b.owner/\cl a wr.heap.size 2 b.kind/\cl a wr.heap.size 3 b.x/\cl a wr.heap.size 4 b.y/\cl a wr.heap.size 5 b.life/\cl a wr.heap.size 6 b.load/\cl a wr.heap.size 7 b.what/\cl a wr.heap.size 8 b.tox/\cl a wr.heap.size 9 b.toy/\cl a wr.heap.size 10 b.target/\Fr [c] h a) a:=λa e=>⟨aB (e.heap f qg),aB (e.heap f qg),aB (e.heap f qg),aB (e.heap f qg),aB (e.heap f qg),aB (e.heap f qg),aB (e.heap f qg),aB (e.heap f qg),aB (e.heap f qg),aB (e.heap f qg),aB (e.heap f qg),e⟩;have s:Fr [] h h.drew:=(r0 _ _).drew;have K0:=l _ s.qO
  go_region_held (fun a:World=>fM wr.heap.size b a (Fr [c] h a))
   (first|omega|omega|omega)
   (first|(go_at_call 192;refine(iH b _).mono ?_;rintro v w3 ⟨rfl,X⟩;have m:=s.qT X;have ai:=l w3 m.qO;obtain⟨F,au,ao,Y,Zr⟩:=mV (MapF.fr ae m qs) 205 3 j9 b.x b.y (ii b.id);have B:Fr [c] h F:=m.qO.trans Y qs;have aj:=l F B))
  all_goals
   go_wp2;go_roundw
   ·refine⟨g+1,ab,by go_num,?_,(p.qT A).trans B qs⟩;rw[H.o];grind
   simp[intOf];omega
 have aa:g=d.length:=qo;subst aa;rw[Zq1]at k;go_wp2;go_ret;exact⟨c,rfl,by grind[Hi.o],k,(by grind[Fr.trans,Fr.qO,Hi.o])⟩
abbrev zero12:Array Value:=#[ii 0,ii 0,ii 0,ii 0,ii 0,ii 0,ii 0,ii 0,ii 0,ii 0,ii 0,ii 0]
def eK(a:Nat->Int)(c:Nat):List Value:=(range 12).map λb=>ii (a (c*12+b))
theorem MS(a:Nat->Int)(b:Nat):(eK a b).length=12:=by simp[eK]
theorem MT(a:Nat->Int)(b:Nat):(eK a b).toArray.all (·.oneCell')=true:=by simp[eK,Value.oneCell']
theorem wI:(prog.info? 86).map (·.size)=some 12:=qk
theorem yN:t86.size=12:=qk
theorem BK(b:Nat->Int)(a:Nat)(c:a<12):(dH b).toArray.extract (a*12) (a*12+12)=(eK b a).toArray:=by grind[dH,eK]
theorem Hm:t3.size=1:=qk
theorem MY(b:Nat->Int)(a:Nat)(f:a<12)(c:World):(Instr.index 88 (.agg (dH b).toArray) (ii a)).run prog c=.ok (.agg (eK b a).toArray) c:=by
 have e:(part 86 (dH b).toArray (a*12)).run prog c=.ok (.agg (eK b a).toArray) c:=by have d:=BK b a f;rw[<-d];simp[part,isAgg,run_underlying underlying86,sizeOf,yN]
 simp[Instr.index,run_underlying underlying88,asIntOf,sizeOf,yN,e];omega
theorem Gx(b:Nat->Int)(c a:Nat)(g:a<12)(d:World):(Instr.index 86 (.agg (eK b c).toArray) (ii a)).run prog d=.ok (ii (b (c*12+a))) d:=by
 have e:(eK b c).toArray[a]?=some (ii (b (c*12+a))):=by grind[eK]
 have f:(part 3 (eK b c).toArray a).run prog d=.ok (ii (b (c*12+a))) d:=by simp[part,isAgg,run_underlying underlying3,e]
 simp[Instr.index,run_underlying underlying86,asIntOf,sizeOf,Hm,f];omega
variable {B l:List UInt8}
theorem wK(a b:List UInt8):dP a (a++b)=true:=by grind[dP]
theorem wM(a:B.length<l.length):dP l B=false:=by grind[dP]
theorem xY(b:UInt8)(a:List UInt8):dF b a=75::b::(bG a.length++a):=by grind[dF]
theorem DH(b:UInt8)(a c:List UInt8)(i:a.length<=40000):cA b (bE b a++c)=some (a,c):=by
 have j:bE b a++c=[75,b]++(bG a.length++(a++(cP (dF b a)++c))):=by grind[bE,xY]
 have d:(bE b a++c).drop 2=bG a.length++(a++(cP (dF b a)++c)):=qg;have e:=rZ a.length (a++(cP (dF b a)++c)) qo;have k:=oU a.length;have f:dP [75,b] (bE b a++c)=true:=by grind[wK]
 have h:((bE b a++c).drop 2).drop (bG a.length).length=a++(cP (dF b a)++c):=qg;have hb3:(a++(cP (dF b a)++c)).drop a.length=cP (dF b a)++c:=Xq4;have g:(bE b a++c).take ((bE b a++c).length-(cP (dF b a)++c).length)=dF b a:=by
  have:bE b a++c=dF b a++(cP (dF b a)++c):=by grind[bE]
  rw[this,m8,Nat.add_sub_cancel,take_left]
 unfold cA;rw[Q7 f,d,e];dsimp only;rw[Xq4,hb3,g,Z0 (by rw[m8];omega),Q7 (wK _ _)];congr 2;grind
theorem TT(b:UInt8)(a:List UInt8)(e:Nat)(k:a.length<=40000)(m:e<(bE b a).length):cA b ((bE b a).take e)=none:=by
 have n:bE b a=[75,b]++(bG a.length++(a++cP (dF b a))):=by grind[bE,xY]
 unfold cA
 by_cases j:e<2
 ·grind[wM]
 obtain⟨c,rfl⟩:∃c,e=2+c:=⟨e-2,by omega⟩;have f:((bE b a).take (2+c)).drop 2=(bG a.length++(a++cP (dF b a))).take c:=by grind[drop_take]
 rw[f];have o:(bE b a).length=2+((bG a.length).length+(a.length+4)):=by grind[iI]
 by_cases h:dP [75,b] ((bE b a).take (2+c))=true
 ·rw[Q7 h]
  by_cases p:c<(bG a.length).length
  ·grind[bG,cP,dF,aT,EY]
  obtain⟨d,rfl⟩:∃d,c=(bG a.length).length+d:=⟨c-(bG a.length).length,by omega⟩;have i:(bG a.length++(a++cP (dF b a))).take ((bG a.length).length+d)=bG a.length++(a++cP (dF b a)).take d:=by simp_all[take_append,take_of_length_le]
  have g:=rZ a.length ((a++cP (dF b a)).take d) qo;have q:=oU a.length;rw[i,g];dsimp only;rw[Xq4]
  by_cases l:d<a.length
  ·grind
  rw[Z0 (by rw[Qz8,m8,iI];omega),Z0];rw[wM]
  ·simp
  rw[iI,Qz2,Qz8,m8,iI];omega
 grind
theorem rR(a:UInt8):cA a []=none:=by grind[cA,wM]
theorem sC(b:UInt8)(a:List UInt8)(c:a.length<=40000):(bE b a).length<=a.length+11/\0<(bE b a).length:=by have:=jZ 5 a.length qo qo;grind[bE,xY,length_append,iI]
def gD(b:List U)(a:Nat):Int:=match a with|0=>0|a+1=>(b[a]?.map U.id).getD 0
theorem YK(d:Rise X)(aA:∀C∈X,1<=C.id)(c:X[a]?=some C):gD X a<C.id:=by
 cases a with
 |zero=>have:=aA C (Q8 c);show(0:Int)<C.id;omega
 |succ b=>
  have f:b+1<X.length:=qg;have e:X[b]?=some (X[b]'qo):=qg;have:=d.lt e c qo
  show(X[b]?.map U.id).getD 0<C.id
  grind
variable {P:List Pf} {V:Nm}
theorem qA:cV P V≠none↔V∈P.map (·.1):=by grind[cV,Option.map_eq_none_iff,find?_eq_none]
theorem YV(c:List Pf)(b:Pf)(a:Nm):cV (c++[b]) a=(cV c a).or (if a=b.1 then some b.2 else none):=by grind[cV]
theorem OO{b:Pf}(c:P[a]?=some b):P.take (a+1)=P.take a++[b]:=by grind[take_succ_eq_append_getElem]
theorem IF{b:Pf}(d:P[a]?=some b)(e:cV (P.take a) b.1=none)(c:Nm):cV (P.take (a+1)) c=if c=b.1 then some b.2 else cV (P.take a) c:=by rw[OO d,YV];grind
theorem ID{b:Pf}(c:P[a]?=some b)(e:((P.take a).map (·.1)).Nodup)(d:cV (P.take a) b.1=none):((P.take (a+1)).map (·.1)).Nodup:=by rw[OO c,Qx9,nodup_append];grind[qA]
theorem IB{b:Pf}(c:P[a]?=some b)(d:cV (P.take a) b.1≠none):¬(P.map (·.1)).Nodup:=(by grind[GZ])
def PQ(b:World)(a:List Pf)(e:Ending)(c:World):Prop:=((a.map (·.1)).Nodup/\∃g d f,e=.returned (.tuple #[.agg #[g,.slice none 0 0],.bool true])/\SVE eQ c g (.slice none 0 0) d f []/\(∀h,(f h).map (·.2)=cV a h)/\(∀i∈d,b.heap.size<=i)/\Fr [] b c)\/(¬(a.map (·.1)).Nodup/\e=.returned (.tuple #[.agg #[.map none,.slice none 0 0],.bool false])/\Fr [] b c)
theorem Ir(ap:Value)(e:List Pf)(a:World)(V:FilesV a ap e)(hl:∀d∈e,d.1.length<=1000000000/\d.2.length<=100000000000000)(bz:e.length<=1000000000):Cs 47 #[ap] a λc h=>PQ a e c h:=by
 obtain⟨a1,W,rfl⟩:∃a1 W,ap=.slice a1 e.length W:=by
  obtain⟨ao,W,rfl,rfl⟩|⟨J,L,W,rfl,_⟩:=V
  ·exact⟨_,_,rfl⟩
  exact⟨_,_,rfl⟩
 have HV:=aA V;clear V
 delta Cs;go_in
 go_wp2_with fail
 obtain⟨z,Q⟩:=nm ((a.alloc (.cells #[.map none,.slice none 0 0] 95)).alloc (.cells #[.map none,.slice none 0 0] 95));rw[<-Q];have bv:Fr [] a z:=by rw[Q];exact((r0 _ _).alloc _).alloc _
 have bo:z.heap[a.heap.size]?=some (.cells #[.map none,.slice none 0 0] 95):=by rw[Q];exact dW _ _ _
 have ax:SB z (a.heap.size+1) [] 95 (.map none) (.slice none 0 0):=by show z.heap[a.heap.size+1]?=_;rw[Q];exact cZ _ _ _
 have az:OfI a (a.heap.size+1) e 0 z:=⟨⟨.map none,[],λ_=>none,ax,SVE.empty z,λM=>rfl,qs,qs⟩,bv⟩;have Zq:=aA az;clear ax az Q
 go_loopw [9] (fun an wr=>∃i:Nat,i<=e.length/\an=ii i/\Hi ((e.take i).map (·.1)).Nodup/\OfI a (a.heap.size+1) e i wr/\wr.heap[a.heap.size]?=some (.cells #[.map none,.slice none 0 0] 95)) (fun an _=>e.length-(intOf an).toNat)
 ·exact⟨0,Z3 _,rfl,show(List.map _ (e.take 0)).Nodup by simp,Zq.o,bo⟩
 obtain⟨i,hk,rfl,HD,t,p⟩:=hrel;clear Zq
 by_cases ae:i<e.length
 ·have br:(i:Int)<(e.length:Int):=qo;obtain⟨d,H⟩:∃d,e[i]?=some d:=⟨e[i],Y2 ae⟩;obtain⟨J,L,rfl,ai,aj⟩:∃J L,a1=some ⟨J,L,none⟩/\wr.cell? ⟨J,L+i*2,none⟩=some (sv d.1)/\wr.cell? ⟨J,L+i*2+1,none⟩=some (sv d.2):=by
   have V:FilesV a (.slice a1 e.length W) e:=HV.o;obtain⟨ao,bw,e1,e2⟩|⟨J,L,bw,e1,h1,h2⟩:=(V.fr t.fr qs)
   ·rw[e2]at ae;simp at ae
   grind
  obtain⟨mv,Y,A,f,k,u,C,S⟩:=t.ex;have bf:=hl d (Q8 H);have bb:=f.c0;have am:=t.fr;have Zs:=f.lt;obtain⟨l,I⟩:∃aq:ByteArray,aq=⟨d.1.toArray⟩:=⟨_,rfl⟩;obtain⟨r,ab⟩:∃aq:ByteArray,aq=⟨d.2.toArray⟩:=⟨_,rfl⟩;rw[sv,<-I]at ai;rw[sv,<-ab]at aj;obtain⟨W2,D,af,B⟩:=al wr (.cells #[.string l,.string r] 115);have f0:ca W2 wr.heap.size 0 (.string l):=aB B;have f1:ca W2 wr.heap.size 1 (.string r):=aB B;have q:=wB (a.heap.size+1) 0 mv A d.1 W2 (f.fr af qs).c0 (k.qF af).map (k.ones d.1);rw[sv,<-I]at q;obtain w|⟨bh,w⟩:A d.1=none\/∃bh,A d.1=some bh:=by cases A d.1<;>simp
  rotate_left
  ·rw[w]at q;have bm:=aA (IB H (by rw[<-u d.1,w];simp));have a0:ca wr a.heap.size 0 (.map none):=aB p;have av:ca wr a.heap.size 1 (.slice none 0 0):=aB p;clear I ab f k u C S w t bb H;rw[D]at f0 f1 q;have O:=aA D;have N:=aA q;clear D q
   go_wp2_with fail
   refine cm N.o ?_;rintro c j ⟨rfl,F⟩;rw[<-O.o]at F;have n:=af.qT F;have P:=n.qH p;have c0:ca j a.heap.size 0 (.map none):=aB P;have c1:ca j a.heap.size 1 (.slice none 0 0):=aB P;have z0:j.frozen? ⟨a.heap.size,0,none⟩=false:=aV P;have z1:j.frozen? ⟨a.heap.size,1,none⟩=false:=aV P;clear N O f0 f1 ai aj a0 av B
   go_wp2_with fail
   have ad:Fr [a.heap.size] j ((j.setCell ⟨a.heap.size,0,none⟩ (.map none)).setCell ⟨a.heap.size,1,none⟩ (.slice none 0 0)):=((r0 _ _).setCell _ _ (.inl qs)).setCell _ _ (.inl qs);have hh:((j.setCell ⟨a.heap.size,0,none⟩ (.map none)).setCell ⟨a.heap.size,1,none⟩ (.slice none 0 0)).heap[a.heap.size]?=some (.cells #[.map none,.slice none 0 0] 95):=by rw[iE (iE P _)];rfl
   exact Zq8 (v:=.tuple #[.agg #[.map none,.slice none 0 0],.bool false]) (cD results47 _ _ a.heap.size 95 #[.map none,.slice none 0 0] (0,0) _ _ rfl rfl hh underlying95 rfl qk) rfl (.inr ⟨bm.o,rfl,(am.qT n).trans ad (λb f=>.inr (by simp at f;omega))⟩)
  rw[w]at q;have HX:Hi (cV (e.take i) d.1=none):=by show _=none;rw[<-u d.1,w];rfl
  have bj:=aA (ID H HD.o HX.o);have bi:Hi (∀g,Cs 88 #[.string l] g (R0 g (.string l))):=λg=>by rw[I];exact It d.1 g bf.1
  obtain⟨X,CB,R,bc,ak⟩:=TL d.2 bf.2;rw[<-ab]at R;have Zr:Hi (∀g m,Fr [] W2 g->Fr [] (X g) m->Cs 82 #[.pointer (so (a.heap.size+1)),.string l,.agg #[.slice (so g.heap.size) d.2.length (CB g)]] m λc h=>c=.returned (.tuple #[])/\OfI a (a.heap.size+1) e (i+1) h/\h.heap[a.heap.size]?=some (.cells #[.map none,.slice none 0 0] 95)/\h.heap[wr.heap.size]?=some (.cells #[.string l,.string r] 115)):=λg m h0 h2=>by
   have h1:=af.qT h0;have n:=(h1.qT (ak g)).qT h2;have ce:=h0.size;have cb:=aH B;have ho:=(bc g).fr h2 qs;have cc:=h1.size;have cd:=am.size;have bu:=(k.qF n).mono (S':=g.heap.size::Y) (λb f=>by simp[f]) (λb f=>by
    obtain rfl|f:=Qq0.1 f
    ·exact(ho.base (b:=g.heap.size) rfl).2
    exact(k.qF n).lt b f)
   have bs:a.heap.size+1∉g.heap.size::Y:=λc=>by
    obtain c|c:=Qq0.1 c
    ·omega
    exact S c
   have bg:=xZ (a.heap.size+1) [] 95 eQ mv (.slice none 0 0) (g.heap.size::Y) A [] d.1 _ d.2 m (f.fr n qs) bu bs (ho.weak (Z3 _)) (λb E=>by
    have bp:g.heap.size=b:=by simpa[Value.ownBlock]using E
    subst bp;refine⟨qs,λc=>?_,by simp[Value.ownBlock],λk' p' _ bq bt=>?_⟩
    ·have:=k.lt _ (k.mb _ c).1;omega
    have:=k.lt _ (k.blk k' p' _ qs bq bt).1;omega)
   rw[sv,<-I]at bg;refine cm bg ?_;rintro c h ⟨rfl,bx,S',x⟩;refine⟨rfl,⟨⟨bx,S',_,x.bl,x.sve.weak (λ_ s=>s.1),λM=>?_,λb E=>?_,x.nsb⟩,?_⟩,?_,x.fr.heap (((h0.qT (ak g)).qT h2).qH B) (λc=>?_)⟩
   ·rw[IF H HX.o M,<-u M]
    by_cases c:M=d.1<;>simp[c]
   ·obtain h4|h4:=x.old b E
    ·obtain rfl|h4:=Qq0.1 h4
     ·omega
     exact C b h4
    have:=n.size;omega
   ·exact(am.qT n).trans x.fr (λb E=>by
     obtain rfl|E:=Qq0.1 E
     ·exact .inr qo
     grind)
   ·refine x.fr.heap (n.qH p) (λc=>?_);grind
   obtain c|c:=Qq0.1 c
   ·omega
   obtain c|c:=Qq0.1 c
   ·omega
   have:=k.lt _ c;omega
  clear I ab f k u C S w bc t bb H;rw[D]at f0 f1 q;have O:=aA D;have N:=aA q;have ar:=aA R;clear D q R
  go_wp2_with fail
  refine cm N.o ?_;rintro c j ⟨rfl,F⟩;rw[<-O.o]at F;have aa:=F.qH B;have bd:=F.drew;have y:∀h,h.heap[wr.heap.size]?=some (.cells #[.string l,.string r] 115)->(λh:World=>ca h wr.heap.size 0 (.string l)/\ca h wr.heap.size 1 (.string r)) h:=λh s=>⟨aB s,aB s⟩;have K0:=y j.drew aa;have ag:=λg (s:g.heap[wr.heap.size]?=some (.cells #[.string l,.string r] 115))=>(ak g).qH s;have K1:=y (X j.drew) (ag _ aa);have bn:Hi (∀m,Fr [] (X j.drew) m->Cs 82 #[.pointer (so (a.heap.size+1)),.string l,.agg #[.slice (so j.heap.size) d.2.length (CB j.drew)]] m λc h=>c=.returned (.tuple #[])/\OfI a (a.heap.size+1) e (i+1) h/\h.heap[a.heap.size]?=some (.cells #[.map none,.slice none 0 0] 95)/\h.heap[wr.heap.size]?=some (.cells #[.string l,.string r] 115)):=λm s=>Zr.o j.drew m bd s;have R:=ar.o;clear f0 f1 N ar ai aj O;go_wp2
  go_region_held (fun h:World=>ca h wr.heap.size 0 (.string l)/\ca h wr.heap.size 1 (.string r))
   (first|with_reducible exact K0|with_reducible exact K1|with_reducible exact K5|with_reducible exact K6|with_reducible exact K7)
   (first
    |(go_at_call 88;refine cm (bi.o _) ?_;rintro c w5 ⟨rfl,ac⟩;have ay:=(by first|exact ac.qH (show j.drew.heap[wr.heap.size]?=_ from aa)|exact ac.qH (ag _ (show j.drew.heap[wr.heap.size]?=_ from aa)));have K5:=y w5 ay;have K6:=y (X w5) (ag w5 ay))
    |(go_at_call 82;first|(with_reducible refine cm (Zr.o _ _ (bd.qT ac) (r0 _ _)) ?_;rintro c w7 ⟨rfl,ba,aw,ah⟩;have K7:=y w7 ah)|(with_reducible refine cm (bn.o _ ac) ?_;rintro c w7 ⟨rfl,ba,aw,ah⟩;have K7:=y w7 ah)))
  all_goals
   clear R;go_wp2;go_roundw
   ·exact⟨i+1,ae,by go_num,bj.o,ba,aw⟩
   simp[intOf];omega
 have br:¬(i:Int)<(e.length:Int):=qo;have be:i=e.length:=qo;obtain⟨mv,Y,A,f,k,u,C,S⟩:=t.ex;obtain⟨v,rfl⟩:∃v,mv=.map v:=by
  obtain⟨rfl,_⟩|⟨cf,rfl,_⟩:=k.map
  ·exact⟨_,rfl⟩
  exact⟨_,rfl⟩
 have c0:ca wr (a.heap.size+1) 0 (.map v):=f.c0;have c1:ca wr (a.heap.size+1) 1 (.slice none 0 0):=f.c1;have a0:ca wr a.heap.size 0 (.map none):=aB p;have av:ca wr a.heap.size 1 (.slice none 0 0):=aB p;have z0:wr.frozen? ⟨a.heap.size,0,none⟩=false:=aV p;have z1:wr.frozen? ⟨a.heap.size,1,none⟩=false:=aV p;have bk:=aA t.fr;have HN:Hi ((e.map (·.1)).Nodup):=by have:=HD.o;rwa[be,Zq1]at this
 have HS:=aA k;have HG:=aA (λM=>by have:=u M;rwa[be,Zq1]at this);have au:=aA C;clear t f k u C S
 go_wp2_with fail
 have ad:Fr [a.heap.size] wr ((wr.setCell ⟨a.heap.size,0,none⟩ (.map v)).setCell ⟨a.heap.size,1,none⟩ (.slice none 0 0)):=((r0 _ _).setCell _ _ (.inl qs)).setCell _ _ (.inl qs);have hh:((wr.setCell ⟨a.heap.size,0,none⟩ (.map v)).setCell ⟨a.heap.size,1,none⟩ (.slice none 0 0)).heap[a.heap.size]?=some (.cells #[.map v,.slice none 0 0] 95):=by rw[iE (iE p _)];rfl
 refine Zq8 (v:=.tuple #[.agg #[.map v,.slice none 0 0],.bool true]) (cD results47 _ _ a.heap.size 95 #[.map v,.slice none 0 0] (0,0) _ _ rfl rfl hh underlying95 rfl qk) rfl (.inl ⟨HN.o,_,_,_,rfl,HS.o.fr ad (λb f c=>?_),HG.o,λb f=>?_,bk.o.trans ad qs⟩)
 ·have:=au.o b f;have:b=a.heap.size:=by simpa using c
  omega
 have:=au.o b f;omega
