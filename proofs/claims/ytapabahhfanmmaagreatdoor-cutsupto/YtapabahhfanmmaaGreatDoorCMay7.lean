import Derived.Test.YtapabahhfanmmaaGreatDoorCMay5
import Derived.Test.YtapabahhfanmmaaGreatDoorCLaw2
namespace Go.Proofs.YtapabahhfanmmaaGreatDoor
open Go.RowKit List Go.Proofs.Tryz
set_option maxHeartbeats 4000000
set_option maxRecDepth 100000
variable {n p:Int} {X:List U} {a:Nat} {t:T} {C:U}
def jT(c:List U)(a b id:Int):Bool:=match look c id with|some v=>v.owner !=b|none=>decide (1<=id)&&decide (id<a)
theorem FQ{id:Int}(c:Rise X)(b:bI X id=some a):iC X p id=jT X n p id:=by grind[kU,look,wR,iC,jT]
theorem FP{id:Int}(a:bI X id=none):jT X n p id=(decide (1<=id)&&decide (id<n)):=by grind[look,bI,jT]
theorem FR{id:Int}(aA:∀a∈X,1<=a.id/\a.id<n)(b:Rise X):jT X n p id=true↔(1<=id/\id<n/\∀a∈X,a.id=id->a.owner≠p):=by unfold jT;grind[look,mem_of_find?_eq_some,getElem?_of_mem,wR,Option.some.inj,find?_eq_none]
theorem Hq(i z t:Nat)(h:List U)(c:U)(a:Cm)(g:Int)(b:World)(n:GV b i z t h)(w:Rise h)(R:b.cell? ⟨i,1,none⟩=some (ii g)):Cs 164 #[pt i,c.val,a.val] b (R0 b (.bool (jT h g c.owner a.target))):=by
 have P:=aI n.c;have F:Fr [] b ((b.alloc (.cells c.arr 85)).alloc (.cells #[ii a.unit,ii a.what,ii a.x,ii a.y,ii a.target] 81)):=((r0 _ _).alloc _).alloc _;have A:Hi (∀q:Nat,bI h a.target=some q->iC h c.owner a.target=jT h g c.owner a.target):=λq Q=>FQ w Q;have B:Hi (bI h a.target=none->jT h g c.owner a.target=(decide (1<=a.target)&&decide (a.target<g))):=λN=>FP N;have I:=aA (λe u=>pU i z t h a.target e (n.qF u) w);have J:=aA (λe u=>OV i z t h c a e (n.qF u) w);clear n;obtain⟨W,E⟩:=nm (jT h g c.owner a.target);rw[<-E]at A B |-;clear E
 delta Cs;go_in
 go_wp2_with fail
 refine cm (I.o _ F) ?_;rintro L d ⟨q,M,rfl,v,m⟩;have l:=F.qT v;have f:=v.qH (show((b.alloc (.cells c.arr 85)).alloc (.cells #[ii a.unit,ii a.what,ii a.x,ii a.y,ii a.target] 81)).heap[b.heap.size]?=some (.cells c.arr 85)from(eL _ _ _ qs).trans (aC _ _));have k:=v.qH (cZ b (.cells c.arr 85) (.cells #[ii a.unit,ii a.what,ii a.x,ii a.y,ii a.target] 81));have D:ca d (b.heap.size+1) 4 (ii a.target):=aB k;have H:=(l.cell _ _ P qs).trans R;cases M
 ·have r:=aA (B.o (qu m));clear f k m;have ac:=aI D;have ab:=aI H;have s:(λe:World=>(ca e (b.heap.size+1) 4 (ii a.target)/\ca e i 1 (ii g))/\Fr [] d e) d.drew:=⟨⟨D,H⟩,(r0 _ _).drew⟩
  go_wp2_with fail
  by_cases p:(1:Int)<=a.target
  ·by_cases ad:a.target<g
   ·skip
    refine wp_region_held_drew (S:=λe:World=>(cl e (b.heap.size+1) 4 a.target/\cl e i 1 g)/\Fr [] d e) qk s (λj=>?_);refine(show wpAnyH prog Region.Mode.any _ _ _ 13 (Array.replicate 13 false) _ _ from ?_)
    iterate 13 refine tn 13 j ?_
    refine wpAnyH_done qk ?_ _;go_wp2;go_ret;exact⟨by rw[r.o];first|(simp[p];omega)|(simp[p];done)|(simp;omega),l.qT j.2⟩
   skip
   refine wp_region_held_drew (S:=λe:World=>(cl e (b.heap.size+1) 4 a.target/\cl e i 1 g)/\Fr [] d e) qk s (λj=>?_);refine(show wpAnyH prog Region.Mode.any _ _ _ 13 (Array.replicate 13 false) _ _ from ?_)
   iterate 13 refine tn 13 j ?_
   refine wpAnyH_done qk ?_ _;go_wp2;go_ret;exact⟨by rw[r.o];first|(simp[p];omega)|(simp[p];done)|(simp;omega),l.qT j.2⟩
  skip
  refine wp_region_held_drew (S:=λe:World=>(cl e (b.heap.size+1) 4 a.target/\cl e i 1 g)/\Fr [] d e) qk s (λj=>?_);refine(show wpAnyH prog Region.Mode.any _ _ _ 13 (Array.replicate 13 false) _ _ from ?_)
  iterate 13 refine tn 13 j ?_
  refine wpAnyH_done qk ?_ _;go_wp2;go_ret;exact⟨by rw[r.o];simp;omega,l.qT j.2⟩
 rw[Q7 rfl]at m;have V:=A.o q m;have C:=J.o _ l;rw[V]at C;obtain⟨X,Y,a2,a3,a4,a5,a6,a7,a8,a9,aa⟩:d.cell? ⟨b.heap.size,0,none⟩=some (ii c.id)/\d.cell? ⟨b.heap.size,1,none⟩=some (ii c.owner)/\d.cell? ⟨b.heap.size,2,none⟩=some (ii c.kind)/\d.cell? ⟨b.heap.size,3,none⟩=some (ii c.x)/\d.cell? ⟨b.heap.size,4,none⟩=some (ii c.y)/\d.cell? ⟨b.heap.size,5,none⟩=some (ii c.life)/\d.cell? ⟨b.heap.size,6,none⟩=some (ii c.load)/\d.cell? ⟨b.heap.size,7,none⟩=some (ii c.what)/\d.cell? ⟨b.heap.size,8,none⟩=some (ii c.tox)/\d.cell? ⟨b.heap.size,9,none⟩=some (ii c.toy)/\d.cell? ⟨b.heap.size,10,none⟩=some (ii c.target) :=
  ⟨aB f,aB f,aB f,aB f,aB f,aB f,aB f,aB f,aB f,aB f,aB f⟩
 have d0:ca d (b.heap.size+1) 0 (ii a.unit):=aB k;have d1:ca d (b.heap.size+1) 1 (ii a.what):=aB k;have d2:ca d (b.heap.size+1) 2 (ii a.x):=aB k;have d3:ca d (b.heap.size+1) 3 (ii a.y):=aB k;clear f k m
 go_wp2_with fail
 refine cm C ?_;rintro L w2 ⟨rfl,O⟩;go_wp2;go_ret;exact⟨rfl,l.qT O⟩
abbrev dZ(b:T)(a:U):Prop:=kH a/\zW b a
theorem iS(d:¬(C.what=0\/(C.what=1/\(C.kind=2\/C.kind=3))\/(C.what=2/\C.kind=2)\/(C.what=3/\C.kind=3)\/(C.what=4/\C.kind=1))):¬dZ t C:=by
 rintro⟨c,_⟩;obtain a|⟨a,b⟩|⟨a,b,_⟩|⟨a,b⟩|⟨a,b,_⟩:=c
 ·grind
 ·omega
 ·omega
 ·omega
 omega
theorem xO(b:C.what=0):dZ t C↔((⟨C.cm.unit,C.cm.what,0,0,0⟩:Cm)=C.cm/\true=true):=by
 constructor
 ·rintro⟨_,⟨_,e,f,g⟩|⟨a,_⟩|⟨a,_⟩|⟨a,_⟩⟩
  ·grind
  all_goals omega
 rintro⟨c,_⟩;have d:(⟨C.id,C.what,0,0,0⟩:Cm)=⟨C.id,C.what,C.tox,C.toy,C.target⟩:=c;injection d with _ _ h3 h4 h5;exact⟨.inl b,.inl ⟨b,h3.symm,h4.symm,h5.symm⟩⟩
theorem qJ(a:C.what=1/\(C.kind=2\/C.kind=3)\/C.what=2/\C.kind=2):dZ t C↔((⟨C.cm.unit,C.cm.what,C.cm.x,C.cm.y,0⟩:Cm)=C.cm/\(aE C.cm.x C.cm.y&&(t.bd (ci C.cm.x C.cm.y)!=10))=true):=by
 constructor
 ·rintro⟨_,⟨b,_⟩|⟨_,g,h,i⟩|⟨b,_⟩|⟨b,_⟩⟩
  ·omega
  ·grind
  all_goals omega
 rintro⟨c,e⟩;have d:(⟨C.id,C.what,C.tox,C.toy,0⟩:Cm)=⟨C.id,C.what,C.tox,C.toy,C.target⟩:=c;injection d with _ _ h3 h4 h5;have f:(aE C.tox C.toy&&(t.bd (ci C.tox C.toy)!=10))=true:=e;simp only[Bool.and_eq_true,bne_iff_ne]at f;refine⟨?_,.inr qg⟩;obtain a|a:=a
 ·exact .inr (.inl a)
 exact .inr qg
theorem JW(h:C.what=3/\C.kind=3)(aA:∀b∈t.us,1<=b.id/\b.id<t.next)(j:Rise t.us):dZ t C↔((⟨C.cm.unit,C.cm.what,0,0,C.cm.target⟩:Cm)=C.cm/\jT t.us t.next C.owner C.cm.target=true):=by
 constructor
 ·rintro⟨_,⟨a,_⟩|⟨a,_⟩|⟨_,e,f,g⟩|⟨a,_⟩⟩
  ·omega
  ·omega
  ·grind[FR]
  omega
 rintro⟨c,i⟩;have d:(⟨C.id,C.what,0,0,C.target⟩:Cm)=⟨C.id,C.what,C.tox,C.toy,C.target⟩:=c;injection d with _ _ h3 h4 h5;exact⟨.inr qo,.inr (by grind[FR])⟩
theorem JV(j:C.what=4/\C.kind=1):dZ t C↔((⟨C.cm.unit,C.cm.what,C.cm.x,0,0⟩:Cm)=C.cm/\(C.cm.x==2||C.cm.x==3)=true):=by
 constructor
 ·rintro⟨g,h⟩;have i:C.tox=2\/C.tox=3:=by
   obtain a|⟨a,_⟩|⟨a,_⟩|⟨a,_⟩|⟨_,_,i⟩:=g
   ·omega
   ·omega
   ·omega
   ·omega
   omega
  obtain⟨b,c⟩:C.toy=0/\C.target=0:=by
   obtain⟨a,_⟩|⟨a,_⟩|⟨a,_⟩|⟨_,b,c⟩:=h
   ·omega
   ·omega
   ·omega
   omega
  grind
 rintro⟨d,f⟩;have e:(⟨C.id,C.what,C.tox,0,0⟩:Cm)=⟨C.id,C.what,C.tox,C.toy,C.target⟩:=d;injection e with _ _ h3 h4 h5;have k:(C.tox==2||C.tox==3)=true:=f;exact⟨.inr qg,.inr qo⟩
theorem Bz(g E x:Nat)(f:T)(b:U)(a:World)(n:GS a g E x f)(C:Rise f.us)(aA:∀F∈f.us,1<=F.id/\F.id<f.next)(m:b.kind=1\/b.kind=2\/b.kind=3):Cs 211 #[pt g,b.val] a λc e=>BP (dZ f b) a c e:=by
 have y:BdAt a g f.bd:=λN A=>by have:=n.cell (4+N) qo;grind[aK]
 have z:=n.lt;have R:a.cell? ⟨g,1,none⟩=some (ii f.next):=by have:=n.cell 1 qo;grind[aK]
 have p:∀e,Fr [] a e->Cs 167 #[pt g,b.val,b.cm.val] e (R0 e (.bool true)):=λe _=>OT _ b b.cm e;have D:=λe (j:Fr [] a e)=>zF g f.bd b b.cm e (y.fr j qs) (Z1 z j.size);have Q:=λe (j:Fr [] a e)=>Hr g f.bd b b.cm e (y.fr j qs) (Z1 z j.size);have A:=λe j=>Hq g E x f.us b b.cm f.next e (n.gv.qF j) C (by grind[Fr.cell]);have H:=λe (_:Fr [] a e)=>OU (pt g) b b.cm e;have u:=GL b.cm;have t:=GJ b.cm;have P:=GM b.cm;have O:=GK b.cm;have B:=GI b m;have i:=λv k l w q o (s:(∀a,Cs 193 #[eO b,ii b.what] a (R0 a (.tuple #[.agg #[fv v,fv k,fv l,fv w],.bool true])))) (r:(dZ f b↔(q=b.cm/\o=true))) (L:(∀e,Fr [] a e->Cs k #[pt g,b.val,b.cm.val] e (R0 e (.bool o)))) (M:(∀e,Cs l #[b.cm.val] e (R0 e q.val))) (I:(∀(args:Array Value) (a:World),(callFunc k args).run prog a=.ok (.enter k args) a)) (J:(∀(args:Array Value) (a:World),(callFunc l args).run prog a=.ok (.enter l args) a))=>JY g b (fv v) (fv k) (fv l) (fv w) true (eO b) _ a (.inl ⟨v,k,l,w,rfl,rfl,rfl,rfl⟩) B s (.inr ⟨rfl,k,l,q,o,rfl,rfl,r,L,M,I,J⟩);have h:=λ(s:(∀a,Cs 193 #[eO b,ii b.what] a (R0 a (.tuple #[.agg #[.nilFunc,.nilFunc,.nilFunc,.nilFunc],.bool false])))) (r:¬dZ f b)=>JY g b .nilFunc .nilFunc .nilFunc .nilFunc false (eO b) _ a (.inr ⟨rfl,rfl,rfl,rfl⟩) B s (.inl ⟨rfl,r⟩);obtain c|c|c|c|c|c|c:=rA b.what
 ·exact h (λa=>by unfold eO;split;exact kG _ _ a (.inl c);split;exact kG _ _ a (.inl c);exact kG _ _ a (.inl c)) (iS qo)
 ·exact h (λa=>by unfold eO;split;exact kG _ _ a (.inr c);split;exact kG _ _ a (.inr c);exact kG _ _ a (.inr c)) (iS qo)
 ·obtain d|d|d:=m
  ·exact i _ _ _ _ _ _ (λa=>by rw[c];unfold eO;rw[Q7 d];exact yO a) (xO c) p u (λ_ _=>by kernel_rfl) (λ_ _=>by kernel_rfl)
  ·exact i _ _ _ _ _ _ (λa=>by rw[c];unfold eO;rw[Z0 qo,Q7 d];exact yQ a) (xO c) p u (λ_ _=>by kernel_rfl) (λ_ _=>by kernel_rfl)
  exact i _ _ _ _ _ _ (λa=>by rw[c];unfold eO;rw[Z0 qo,Z0 qo];exact yT a) (xO c) p u (λ_ _=>by kernel_rfl) (λ_ _=>by kernel_rfl)
 ·obtain d|d|d:=m
  ·exact h (λa=>by rw[c];unfold eO;rw[Q7 d];exact NT a) (iS qo)
  ·exact i _ _ _ _ _ _ (λa=>by rw[c];unfold eO;rw[Z0 qo,Q7 d];exact yR a) (qJ qo) D t (λ_ _=>by kernel_rfl) (λ_ _=>by kernel_rfl)
  exact i _ _ _ _ _ _ (λa=>by rw[c];unfold eO;rw[Z0 qo,Z0 qo];exact yU a) (qJ qo) D t (λ_ _=>by kernel_rfl) (λ_ _=>by kernel_rfl)
 ·obtain d|d|d:=m
  ·exact h (λa=>by rw[c];unfold eO;rw[Q7 d];exact NU a) (iS qo)
  ·exact i _ _ _ _ _ _ (λa=>by rw[c];unfold eO;rw[Z0 qo,Q7 d];exact yS a) (qJ qo) Q t (λ_ _=>by kernel_rfl) (λ_ _=>by kernel_rfl)
  exact h (λa=>by rw[c];unfold eO;rw[Z0 qo,Z0 qo];exact NY a) (iS qo)
 ·obtain d|d|d:=m
  ·exact h (λa=>by rw[c];unfold eO;rw[Q7 d];exact NV a) (iS qo)
  ·exact h (λa=>by rw[c];unfold eO;rw[Z0 qo,Q7 d];exact NW a) (iS qo)
  exact i _ _ _ _ _ _ (λa=>by rw[c];unfold eO;rw[Z0 qo,Z0 qo];exact yV a) (JW ⟨c,d⟩ aA C) A P (λ_ _=>by kernel_rfl) (λ_ _=>by kernel_rfl)
 obtain d|d|d:=m
 ·exact i _ _ _ _ _ _ (λa=>by rw[c];unfold eO;rw[Q7 d];exact yP a) (JV ⟨c,d⟩) H O (λ_ _=>by kernel_rfl) (λ_ _=>by kernel_rfl)
 ·exact h (λa=>by rw[c];unfold eO;rw[Z0 qo,Q7 d];exact NX a) (iS qo)
 exact h (λa=>by rw[c];unfold eO;rw[Z0 qo,Z0 qo];exact NZ a) (iS qo)
variable {g:Cl} {w:World}
theorem xE{e:Type}[DecidableEq e]:∀(a b:List e),a.Nodup->(∀c∈a,c∈b)->a.length<=b.length
 |[],_,_,_=>Z3 _
 |c::a,b,d,f=>by rw[V1]at d;have g:=f c qs;have h:=xE a (b.erase c) d.2 qg;grind
theorem MapF.count{e:Int×Int->Option Value}(i:MapF w a e)(b:List (Int×Int))(o:b.Nodup)(t:∀c,(e c).isSome=true↔c∈b)(f g ty:TypeId)(p:prog.underlying f=some (.map 159 g)):(Builtin.len_ #[f] ty #[.map (some a)]).run prog w=.ok (ii b.length) w:=by
 obtain⟨d,h,s,l,m,n,u⟩:=i;have j:h.size=d.length:=by have:=V3 length m;simpa using this
 have v:∀c,c∈d.map (·.1)↔c∈b:=qg;have k:d.length=b.length:=by have q:=xE (d.map (·.1)) b n qg;have r:=xE b (d.map (·.1)) o qg;grind
 rw[<-k,<-j];simp[Builtin.len_,run_underlying p,MapKept.run_getObj_map l,goInt,Result.andThen]
theorem DM{d:Type}[DecidableEq d]:∀a:List d,∃b:List d,b.Nodup/\(∀c,c∈b↔c∈a)/\b.length<=a.length/\(b.length=a.length↔a.Nodup)
 |[]=>qg
 |c::a=>by
  obtain⟨b,e,f,g,h⟩:=DM a
  by_cases i:c∈a
  ·grind
  refine⟨c::b,qg,λj=>?_,by grind,?_⟩
  ·grind
  grind
abbrev lC(b:List U):List Cl:=b.map (λa=>(a.x,a.y))
theorem FO:∀(d:List U) (b:Cl->Option Int) (a:Cl),(d.foldl (λf c=>λe=>if e=(c.x,c.y)then some c.id else f e) b a).isSome=true↔(a∈lC d\/(b a).isSome=true)
 |[],b,a=>by simp
 |c::d,b,a=>by rw[foldl_cons,FO d _ a];grind
theorem FN(b:List U)(a:Cl):(bN (dC b) a).isSome=true↔a∈lC b:=by simp_all[dC,Option.isSome_map,FO]
theorem FM(c:(lC X).Nodup)(d:C∈X):dC X (C.x,C.y)=some C.id:=by
 unfold dC;rw[sF X _ (C.x,C.y) C.id (λn e f=>by obtain⟨l,a⟩:=Zx5 d;obtain⟨m,b⟩:=Zx5 e;obtain⟨i,g⟩:=gs.1 a;obtain⟨j,h⟩:=gs.1 b;have k:=Zj9.1 c;grind),Q7]
 grind
theorem XD(d:(lC X).Nodup)(b:dC X g=some n):∃a∈X,a.id=n/\(a.x,a.y)=g:=by have c:=(FN X g).1 qg;grind[FM]
theorem BN{a:Nat->Int}(b:kY a C):C.kind=1\/C.kind=2\/C.kind=3:=by obtain⟨_,c,d,_⟩:=b;grind[nJ]
theorem Cv(r P H:Nat)(b:T)(p:World)(d:GS p r P H b)(ao:Rise b.us)(ak:∀t∈b.us,1<=t.id/\t.id<b.next):Cs 175 #[pt r] p λe c=>BP ((∀a∈b.us,kY b.bd a/\dZ b a)/\(lC b.us).Nodup) p e c:=by
 have L:=d.gv.c;have av:=d.len;have D:=d.lt;have X:=aA d.row.ppl;have HB:Hi (∀a∈b.us,∀c,Fr [] p c->Cs 210 #[pt r,a.val] c λe m=>BP (kY b.bd a) c e m):=λa n c C=>RM r a b.bd c (λO hi=>by grind[GS.cell,GS.fr,aK]) (Z1 D C.size)
 have HO:Hi (∀a∈b.us,kY b.bd a->∀c,Fr [] p c->Cs 211 #[pt r,a.val] c λe m=>BP (dZ b a) c e m):=λa n g c C=>Bz r P H b a c (d.fr C qs qs) ao ak (BN g);have S:Hi (∀c,Fr [] p c->Cs 149 #[.slice (so P) b.us.length H] c λe m=>∃g,e=.returned (.map (some g))/\MapF m g (bN (dC b.us))/\Fr [] c m):=λc C=>by refine cm (CV P H b.us c (d.row.fr C qs) d.len) ?_;rintro e f ⟨g,rfl,_,w,l⟩;exact⟨g,rfl,w,l⟩
 obtain⟨B,ag,ah,ai,aa⟩:=DM (lC b.us);have z:Hi (∀c g,MapF c g (bN (dC b.us))->∀ty,(Builtin.len_ #[205] ty #[.map (some g)]).run prog c=.ok (ii B.length) c):=λc g w ty=>w.count B ag (λae=>(FN b.us ae).trans (ah ae).symm) 205 3 ty j9;rw[Qq1]at aa;obtain⟨q,I⟩:∃q:U->Prop,q=kY b.bd:=⟨_,rfl⟩;obtain⟨u,hO⟩:∃u:U->Prop,u=dZ b:=⟨_,rfl⟩;have hQ:((∀a∈b.us,kY b.bd a/\dZ b a)/\(lC b.us).Nodup)=((∀a∈b.us,q a/\u a)/\B.length=b.us.length):=by rw[I,hO,propext aa]
 rw[hQ];obtain⟨ad,J⟩:∃ad:Prop,ad=((∀a∈b.us,q a/\u a)/\B.length=b.us.length):=⟨_,rfl⟩;rw[<-J];have Q:Hi (∀a∈b.us,∀c,Fr [] p c->Cs 210 #[pt r,a.val] c λe m=>BP (q a) c e m):=by rw[I];exact HB
 have W:Hi (∀a∈b.us,q a->∀c,Fr [] p c->Cs 211 #[pt r,a.val] c λe m=>BP (u a) c e m):=by rw[I,hO];exact HO
 obtain⟨F,hn⟩:=nm B.length;rw[<-hn]at z J;have A:=(show Hi _ from J);clear HB HO I hO hQ J;obtain⟨h,ac⟩:=nm b.us;rw[<-ac]at L av X Q W S z A;have az:F<=h.length:=by rw[hn,ac];simpa using ai
 clear d ao ak ac ag ah ai aa hn
 delta Cs;go_in
 go_wp2
 go_loopw [10] (fun O wr=>∃k:Nat,k<=h.length/\O=ii k/\Hi (∀s t,s<k->h[s]?=some t->q t/\u t)/\Fr [] p wr) (fun O _=>h.length-(intOf O).toNat)
 ·exact⟨0,qo,rfl,(show Hi _ from λs _ M=>by omega),r0 _ _⟩
 obtain⟨k,hk,rfl,HI,j⟩:=hrel
 by_cases am:k<h.length
 ·have ax:(k:Int)<(h.length:Int):=qo;obtain⟨a,n⟩:∃a,h[k]?=some a:=⟨h[k],Y2 am⟩;obtain⟨c0,c1,c2,c3,c4,c5,c6,c7,c8,c9,Zq⟩:=(Ppl.fr X.o j qs).at n;have af:=Q.o a (Q8 n);have an:=W.o a (Q8 n);have ap:=(show Hi _ from af);have ar:=(show Hi _ from an);have HU:=(show Hi _ from n);clear n af an
  go_wp2_with fail
  refine cm (ap.o _ (j.alloc _)) ?_;rintro e f ⟨Y,rfl,v,l⟩;have N:=(j.alloc (.cells a.arr 85)).qT l;cases Y
  ·have R:=(show Hi _ from v);clear v;go_wp2;go_ret;exact⟨false,rfl,⟨λd=>(by cases d),λd=>(by rw[A.o]at d;exact R.o.2 (d.1 a (Q8 HU.o)).1)⟩,N⟩
  have aq:=aA (v.1 rfl);have i:=l.qH (aC wr (.cells a.arr 85));obtain⟨a0,a1,a2,a3,a4,a5,a6,a7,a8,a9,ay⟩:f.cell? ⟨wr.heap.size,0,none⟩=some (ii a.id)/\f.cell? ⟨wr.heap.size,1,none⟩=some (ii a.owner)/\f.cell? ⟨wr.heap.size,2,none⟩=some (ii a.kind)/\f.cell? ⟨wr.heap.size,3,none⟩=some (ii a.x)/\f.cell? ⟨wr.heap.size,4,none⟩=some (ii a.y)/\f.cell? ⟨wr.heap.size,5,none⟩=some (ii a.life)/\f.cell? ⟨wr.heap.size,6,none⟩=some (ii a.load)/\f.cell? ⟨wr.heap.size,7,none⟩=some (ii a.what)/\f.cell? ⟨wr.heap.size,8,none⟩=some (ii a.tox)/\f.cell? ⟨wr.heap.size,9,none⟩=some (ii a.toy)/\f.cell? ⟨wr.heap.size,10,none⟩=some (ii a.target) :=
   ⟨aB i,aB i,aB i,aB i,aB i,aB i,aB i,aB i,aB i,aB i,aB i⟩
  clear i c0 c1 c2 c3 c4 c5 c6 c7 c8 c9 Zq v
  go_wp2_with fail
  refine cm (ar.o aq.o _ N) ?_;rintro e w2 ⟨Y,rfl,v,aj⟩;have R:=(show Hi _ from v);clear v;cases Y
  ·go_wp2;go_ret;exact⟨false,rfl,⟨λd=>(by cases d),λd=>(by rw[A.o]at d;exact R.o.2 (d.1 a (Q8 HU.o)).2)⟩,N.qT aj⟩
  go_wp2;go_roundw
  ·exact⟨k+1,am,by go_num,(show Hi _ from fun s t M hv=>by
   by_cases au:s<k
   ·exact HI.o s t au hv
   grind[Hi.o]),N.qT aj⟩
  simp[intOf];omega
 have ax:¬(k:Int)<(h.length:Int):=qo;have ba:=(j.cell _ _ D qs).trans L;have bb:=Z1 D j.size;have HA:Hi (∀a∈h,q a/\u a):=λa n=>by obtain⟨s,M⟩:=Zx5 n;exact HI.o s a (by have:=(gs.1 M).1;omega) M
 clear Q W X HI
 by_cases E:F=h.length
 ·have ab:(F:Int)=(h.length:Int):=qo;have V:=(show Hi _ from E);rw[E]at z;clear E ab;go_wp2
  go_region_with (first|(go_at_call 149;refine cm (S.o _ ?_) ?_;exact j.drew;rintro e f ⟨g,rfl,w,l⟩;have aw:=z.o f g w;have Zr:=((j.drew.qT l).cell _ _ D qs).trans L))
  all_goals
   go_wp2;go_ret;exact⟨true,rfl,⟨λ_=>by rw[A.o];exact⟨HA.o,V.o⟩,λ_=>rfl⟩,j.drew.qT l⟩
 have ab:¬(F:Int)=(h.length:Int):=qo;have bc:((F:Int)==(h.length:Int))=false:=by simpa using ab
 have V:=(show Hi _ from E);clear E;go_wp2
 go_region_with (first|(go_at_call 149;refine cm (S.o _ ?_) ?_;exact j.drew;rintro e f ⟨g,rfl,w,l⟩;have aw:=z.o f g w;have Zr:=((j.drew.qT l).cell _ _ D qs).trans L))
 all_goals
  go_wp2;go_ret;exact⟨false,rfl,⟨λd=>(by cases d),λd=>(by rw[A.o]at d;exact absurd d.2 V.o)⟩,j.drew.qT l⟩
