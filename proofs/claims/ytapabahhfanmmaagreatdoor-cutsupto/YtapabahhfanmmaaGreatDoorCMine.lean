import Derived.Test.YtapabahhfanmmaaGreatDoorCGoB
namespace Go.Proofs.YtapabahhfanmmaaGreatDoor
open Go.RowKit List Go.Proofs.Tryz
set_option maxHeartbeats 2000000
set_option maxRecDepth 100000
def dB(b:T)(c:U)(d:Cl->Bool):Cl:=dU (λa=>cR (bN b.held) b.bd a.1 a.2) d (c.x,c.y)
def gI(c:T)(a:U):U×T:=
 if(a.x==a.tox&&a.y==a.toy)=true then(a.idle,c)
 else(a.to (dB c a λb=>b.1==a.tox&&b.2==a.toy),c.qM a (dB c a λb=>b.1==a.tox&&b.2==a.toy))
theorem ZP(A I D k j:Nat)(d:T)(a:U)(b:World)(h:TS b A I D k j d)(ad:Sd b)(ab:aE a.x a.y=true):Cs 159 #[pt A,a.val] b λt c=> t=.returned (gI d a).1.val/\Fr [k,j] b c/\TS c A I D k j (gI d a).2:=by
 obtain⟨B,E⟩:=nn ((a.x==a.tox&&a.y==a.toy));have hq:∀r:World,(binOp BinOp.eql 159 (cv a.x a.y) (cv a.tox a.toy)).run prog r=.ok (.bool B) r:=λr=>by rw[vK,E]
 have ac:=λ(ah ai:Operand) (r:World)=>FK ah ai a.x a.y a.tox a.toy r;have J:=aA E;clear E;obtain⟨g,i⟩:=nm (((b.alloc (.cells a.arr 85)).alloc (.cells zeroU.arr 85)).alloc (.cells #[ii a.tox,ii a.toy] 159));have am:g.heap.size=b.heap.size+1+1+1:=by rw[i];simp
 have X:Fr [] b g:=by rw[i];exact(((r0 _ _).alloc _).alloc _).alloc _
 have P:g.heap[b.heap.size]?=some (.cells a.arr 85):=by rw[i,eL _ _ _ qt,dW]
 have Y:g.heap[b.heap.size+1]?=some (.cells zeroU.arr 85):=by rw[i,eL _ _ _ qs,cZ]
 have O:g.heap[b.heap.size+1+1]?=some (.cells #[ii a.tox,ii a.toy] 159):=by rw[i,kO]
 have C:∀c,Fr [] g c->(λc:World=>cl c b.heap.size 0 a.id/\cl c b.heap.size 1 a.owner/\cl c b.heap.size 2 a.kind/\cl c b.heap.size 3 a.x/\cl c b.heap.size 4 a.y/\cl c b.heap.size 5 a.life/\cl c b.heap.size 6 a.load/\cl c b.heap.size 7 a.what/\cl c b.heap.size 8 a.tox/\cl c b.heap.size 9 a.toy/\cl c b.heap.size 10 a.target/\cl c (b.heap.size+1+1) 0 a.tox/\cl c (b.heap.size+1+1) 1 a.toy) c:=by intro c Q;have f:=Q.qH P;have S:=Q.qH O;exact⟨aB f,aB f,aB f,aB f,aB f,aB f,aB f,aB f,aB f,aB f,aB f,aB S,aB S⟩
 have N:Fr [] g ((((b.alloc (.cells a.arr 85)).alloc (.cells zeroU.arr 85)).alloc (.cells #[ii a.tox,ii a.toy] 159)).drew):=by rw[i];exact(r0 _ _).drew
 have M:=C _ N;clear i
 delta Cs;go_in
 go_wp2
 go_cut [14] (fun ag wx=>ag=.bool B/\Fr [] g wx)
 ·go_region_held (fun c:World=>fM b.heap.size a c (ca c (b.heap.size+1+1) 0 (ii a.tox)/\ca c (b.heap.size+1+1) 1 (ii a.toy)))
   (first|exact M|exact C _ R)
   (first|(go_at_call 192;refine(iH a _).mono ?_;rintro t w1 ⟨rfl,aa⟩;have R:Fr [] g w1:=N.qT aa))
  all_goals
   go_wp2_with fail
   go_meet
   exact⟨rfl,R⟩
 obtain⟨rfl,u⟩:=hcut;have x:=u.qH P;have w:=u.qH Y;have v:=u.qH O;have y:=X.qT u;have hl:=aH w;have L:=aA w;clear M C hq ac;have hz:=h.z;have aj:=h.ways.lt;have ak:=h.held.lt;have V:=h.qF y;have ae:=ad.qF y;cases B
 ·have n:gI d a=(a.to (dB d a λe=>e.1==a.tox&&e.2==a.toy),d.qM a (dB d a λe=>e.1==a.tox&&e.2==a.toy)):=by unfold gI;rw[J.o];rfl
  have m:=aA n;clear n w
  go_wp2_with (refine wpList_load_row rfl 85 _ rfl b.heap.size rfl 85 a.arr (0,0) _ x Q3 rfl aS ?_)
  refine(WH A I D k j (b.heap.size+1+1) d a a.tox a.toy _ V ae ab (aB v) (aB v) qo).mono ?_;rintro t s ⟨rfl,l,af⟩;have p:=l.heap L.o qt;obtain⟨q,H⟩:=nm (a.to (dU (λe=>cR (bN d.held) d.bd e.1 e.2) (λe=>e.1==a.tox&&e.2==a.toy) (a.x,a.y)));rw[<-H];have W:=aA H;clear H x v
  go_wp2_with (refine wpList_store_row rfl 85 _ _ rfl (b.heap.size+1) q.arr rfl rfl 85 _ p aS rfl (U.one _) ?_)
  have F:Fr [k,j] b (s.setRow (b.heap.size+1) q.arr):=(y.qO.trans l qs).setRow _ _ (.inr qo);refine Zq8 (v:=q.val) (Zz8 results159 _ _ (b.heap.size+1) 85 q.arr (0,0) _ rfl (Qz4 _ _ _ q.arr _ _ p) Q3 rfl aS) rfl ⟨?_,F,?_⟩
  ·rw[m.o,W.o];rfl
  rw[m.o];exact af.fr ((r0 [b.heap.size+1] s).setRow _ _ qs) (by simp;have:=h.lt;omega) (by simp;have:=h.row.lt;omega) qt qt
 have n:gI d a=(a.idle,d):=by unfold gI;rw[J.o];rfl
 have m:=aA n;clear n w
 go_wp2_with (refine wpList_load_row rfl 85 _ rfl b.heap.size rfl 85 a.arr (0,0) _ x Q3 rfl aS ?_)
 refine(sG a _).mono ?_;rintro t s ⟨rfl,l⟩;have p:=l.heap L.o qs;clear x v
 go_wp2_with (refine wpList_store_row rfl 85 _ _ rfl (b.heap.size+1) a.idle.arr rfl rfl 85 _ p aS rfl (U.one _) ?_)
 have F:Fr [k,j] b (s.setRow (b.heap.size+1) a.idle.arr):=(y.qT l).qO.setRow _ _ (.inr qo);refine Zq8 (v:=a.idle.val) (Zz8 results159 _ _ (b.heap.size+1) 85 a.idle.arr (0,0) _ rfl (Qz4 _ _ _ a.idle.arr _ _ p) Q3 rfl aS) rfl ⟨?_,F,?_⟩
 ·rw[m.o]
 rw[m.o];exact(V.qF l).fr ((r0 [b.heap.size+1] s).setRow _ _ qs) (by simp;have:=h.lt;omega) (by simp;have:=h.row.lt;omega) qt qt
variable {S:List Nat} {a b c d e:Nat} {H:TypeId} {C:U} {w:World}
theorem cJ{b:Array Value}(e:w.heap[a]?=some (.cells b H))(c:Nat)(d:Value):(w.setCell ⟨a,c,none⟩ d).heap[a]?=some (.cells (b.setIfInBounds c d) H):=by grind[setCell_eq_setRow,setRow_heap]
theorem set11{z v:U}(b:w.heap[a]?=some (.cells z.arr H)):(((((((((((w.setCell ⟨a,0,none⟩ (ii v.id)).setCell ⟨a,1,none⟩ (ii v.owner)).setCell ⟨a,2,none⟩ (ii v.kind)).setCell ⟨a,3,none⟩ (ii v.x)).setCell ⟨a,4,none⟩ (ii v.y)).setCell ⟨a,5,none⟩ (ii v.life)).setCell ⟨a,6,none⟩ (ii v.load)).setCell ⟨a,7,none⟩ (ii v.what)).setCell ⟨a,8,none⟩ (ii v.tox)).setCell ⟨a,9,none⟩ (ii v.toy)).setCell ⟨a,10,none⟩ (ii v.target)).heap[a]?=some (.cells v.arr H):=by have c:=cJ b 0 (ii v.id);have d:=cJ c 1 (ii v.owner);have f:=cJ d 2 (ii v.kind);have g:=cJ f 3 (ii v.x);have h:=cJ g 4 (ii v.y);have i:=cJ h 5 (ii v.life);have j:=cJ i 6 (ii v.load);have k:=cJ j 7 (ii v.what);have l:=cJ k 8 (ii v.tox);have m:=cJ l 9 (ii v.toy);have e:=cJ m 10 (ii v.target);simpa using e
theorem Fr.set11{c:World}(d:Fr S w c)(a:Nat)(v:U)(b:a∈S\/w.heap.size<=a):Fr S w (((((((((((c.setCell ⟨a,0,none⟩ (ii v.id)).setCell ⟨a,1,none⟩ (ii v.owner)).setCell ⟨a,2,none⟩ (ii v.kind)).setCell ⟨a,3,none⟩ (ii v.x)).setCell ⟨a,4,none⟩ (ii v.y)).setCell ⟨a,5,none⟩ (ii v.life)).setCell ⟨a,6,none⟩ (ii v.load)).setCell ⟨a,7,none⟩ (ii v.what)).setCell ⟨a,8,none⟩ (ii v.tox)).setCell ⟨a,9,none⟩ (ii v.toy)).setCell ⟨a,10,none⟩ (ii v.target)):=
  ((((((((((d.setCell ⟨a,0,none⟩ _ b).setCell ⟨a,1,none⟩ _ b).setCell ⟨a,2,none⟩ _ b).setCell ⟨a,3,none⟩ _ b).setCell ⟨a,4,none⟩ _ b).setCell ⟨a,5,none⟩ _ b).setCell ⟨a,6,none⟩ _ b).setCell ⟨a,7,none⟩ _ b).setCell ⟨a,8,none⟩ _ b).setCell ⟨a,9,none⟩ _ b).setCell ⟨a,10,none⟩ _ b
theorem CU(d e g b c h i j k l f:Int)(a:World):Cs 192 #[.agg #[ii d,ii e,ii g,ii b,ii c,ii h,ii i,ii j,ii k,ii l,ii f]] a (R0 a (cv b c)):=iH ⟨d,e,g,b,c,h,i,j,k,l,f⟩ a
theorem zG(e:T)(f:Int)(d:Value)(c b a:Nat)(g:a≠2):aK {e with s0:=f} d c b a=aK e d c b a:=by grind[aK]
theorem zH(e:T)(f:Int)(d:Value)(c b a:Nat)(g:a≠3):aK {e with s1:=f} d c b a=aK e d c b a:=by grind[aK]
theorem cE(e:World)(c d a b:Nat)(f:Value)(g:c≠a\/d≠b):(e.setCell ⟨c,d,none⟩ f).cell? ⟨a,b,none⟩=e.cell? ⟨a,b,none⟩:=
  (by grind[World.cell?_setCell_other])
theorem eA(d:World)(a b:Nat)(c e:Value)(f:d.cell? ⟨a,b,none⟩=some e):(d.setCell ⟨a,b,none⟩ c).cell? ⟨a,b,none⟩=some c:=
  (by grind[World.cell?_setCell_same'])
def T.qK(a:T)(b:Int):Int:=if b=0 then a.s0 else a.s1
def T.qS(a:T)(c b:Int):T:=if c=0 then{a with s0:=b} else{a with s1:=b}
def fH(b:T)(a:U):U×T:=
 match cK b.us a.owner with
 |none=>(a,b)
 |some c=>
  if bJ a.x a.y c.x c.y=true then({a with load:=0},b.qS a.owner (min (b.qK a.owner+a.load) 1000000000))
  else(a.to (dB b a λd=>bJ c.x c.y d.1 d.2),b.qM a (dB b a λd=>bJ c.x c.y d.1 d.2))
variable {s t:T}
theorem bring_put{wc:World}{k:Nat}{x:Int}(f:Nat)(h:TS wc a b c d e t)(y:wc.heap[f]?=some (.cells C.arr 85))(v:wc.heap[f+1]?=some (.cells zeroU.arr 85))(u:k=2/\s={t with s0:=x}\/k=3/\s={t with s1:=x})(o:Hi (a<f/\b<f/\d<f/\e<f))(g:World)(j:g=((wc.setCell ⟨a,k,none⟩ (ii x)).setCell ⟨f,6,none⟩ (ii 0)).drew.drew):g.heap[f]?=some (.cells (U.arr {C with load:=0}) 85)/\g.heap[f+1]?=some (.cells zeroU.arr 85)/\Fr [a,f,f+1] wc (g.setRow (f+1) (U.arr {C with load:=0}))/\TS (g.setRow (f+1) (U.arr {C with load:=0})) a b c d e s:=by
 obtain⟨z,A,B,D⟩:=o;have l:Fr [a,f,f+1] wc (g.setRow (f+1) (U.arr {C with load:=0})):=by grind[Fr.setRow,Fr.drew,Fr.setCell,r0]
 have p:wc.cell? ⟨a,k,none⟩=_:=h.cell k qo;refine⟨?_,?_,l,?_⟩
 ·rw[j];have n:(wc.setCell ⟨a,k,none⟩ (ii x)).heap[f]?=some (.cells C.arr 85):=by grind[Below.heap_setCell]
  exact(cJ n 6 (ii 0)).trans qs
 ·rw[j]
  show((wc.setCell ⟨a,k,none⟩ (ii x)).setCell ⟨f,6,none⟩ (ii 0)).heap[f+1]?=_
  grind[Below.heap_setCell]
 have m:s.us=t.us/\s.held=t.held:=qg;refine{h with cell:=?_,fz:=?_,row:=?_,len:=?_,held:=?_,ways:=h.ways.fr l (by grind[TS.n3])}
 ·intro i q;rw[cell_setRow_other _ _ _ _ qg,j]
  show(((wc.setCell ⟨a,k,none⟩ (ii x)).setCell ⟨f,6,none⟩ (ii 0))).cell? ⟨a,i,none⟩=_
  rw[cE _ f 6 a i _ qo]
  by_cases r:i=k
  ·grind[eA,aK]
  grind[cE,TS.cell,zG,zH]
 ·intro i;rw[Zx7 (w:=g) (Qx6 _ _ _ _ qg),j]
  show(((wc.setCell ⟨a,k,none⟩ (ii x)).setCell ⟨f,6,none⟩ (ii 0))).frozen? ⟨a,i,none⟩=false
  grind[World.frozen?_setCell,TS.fz]
 ·rw[m.1];exact h.row.fr l (by grind[TS.n1])
 ·grind[TS.len]
 rw[m.2];exact h.held.fr l (by grind[TS.n2])
theorem RT(i L t g j:Nat)(f:T)(b:U)(d:World)(B:TS d i L t g j f)(bo:Sd d)(be:aE b.x b.y=true)(hown:b.owner=0\/b.owner=1)(ax:∀R,cK f.us b.owner=some R->aE R.x R.y=true)(ag:0<=f.qK b.owner/\f.qK b.owner<=1000000000)(bl:0<=b.load/\b.load<=5):Cs 205 #[pt i,b.val] d λF a=> F=.returned (fH f b).1.val/\Fr [i,g,j] d a/\TS a i L t g j (fH f b).2:=by
 have hz:=B.z;have bx:=B.ways.lt;have bz:=B.held.lt;have cj:=B.lt;have ce:=B.row.lt;obtain⟨n,C⟩:=nm ((d.alloc (.cells b.arr 85)).alloc (.cells zeroU.arr 85));have ch:n.heap.size=d.heap.size+1+1:=by rw[C];simp
 have aw:Fr [] d n:=by rw[C];exact((r0 _ _).alloc _).alloc _
 have hU:n.heap[d.heap.size]?=some (.cells b.arr 85):=by rw[C,dW]
 have hR:n.heap[d.heap.size+1]?=some (.cells zeroU.arr 85):=by rw[C,cZ]
 have A:∀a,Fr [] n a->(λa:World=>cl a d.heap.size 1 b.owner/\Fr [] n a) a:=λa q=>⟨aB (q.qH hU),q⟩;have KF:Fr [] n (((d.alloc (.cells b.arr 85)).alloc (.cells zeroU.arr 85)).drew):=by rw[C];exact(r0 _ _).drew
 have KA:Fr [] n ((((d.alloc (.cells b.arr 85)).alloc (.cells zeroU.arr 85)).alloc (.cells zeroU.arr 85)).drew):=by rw[C];exact((r0 _ _).alloc _).drew
 have K0:=A _ KF;obtain⟨c,az⟩:=nn ((cK f.us b.owner).getD zeroU);obtain⟨hr,bc⟩:=nn ((cK f.us b.owner).isSome);have au:=aA az;have aj:=aA bc;clear C az bc
 delta Cs;go_in
 go_wp2
 go_cut [5,6] (fun s5 s6 w=>∃e:Nat,s5=.pointer (so e)/\s6=.bool hr/\w.heap[e]?=some (.cells c.arr 85)/\d.heap.size+1<e/\Fr [] n w)
 ·go_region_held (fun a:World=>ca a d.heap.size 1 (ii b.owner)/\Fr [] n a)
   (first|with_reducible exact K0|with_reducible exact A _ H|with_reducible exact A _ (H.alloc _)|with_reducible exact A _ KA|with_reducible exact A _ (H.set11 (d.heap.size+1+1) c (.inr qo)))
   (first|(go_at_call 92;refine(pR i L t f.us b.owner _ (B.gv.qF (aw.qT (Q1 qb)))).mono ?_;rintro F v ⟨rfl,r⟩;rw[au.o,aj.o];have H:=Fr.qT (Q1 qb) r;obtain⟨Zs,ck⟩:=r.qC;have q4:d.heap.size+1+1<=v.heap.size:=(qh H.size);(first|(have q3:d.heap.size+1+1<v.heap.size:=(by have:=r.size;simp at this;omega))|skip)))
  all_goals
   go_wp2_with fail
   go_meet
   (first|(have bh:v.heap[d.heap.size+1+1]?=some (.cells zeroU.arr 85):=r.qH (by exact kO d _ _ _))|skip)
   refine⟨_,rfl,rfl,?_,by omega,?_⟩
   ·first
    |with_reducible exact aC _ _
    |exact set11 bh
   first
   |with_reducible exact H.alloc _
   |exact H.set11 (d.heap.size+1+1) c (.inr qo)
 obtain⟨e,rfl,rfl,an,cd,ad⟩:=hcut;have ah:=ad.qH hU;have af:=ad.qH hR;have ai:=aw.qT ad;have hl:=aH af;have HR:=aA af;have Zq:=B.qF ai;have ar:=bo.qF ai;cases hr
 ·have X:fH f b=(b,f):=by
   unfold fH;have:=aj.o;cases g:cK f.us b.owner with
   |none=>rfl
   |some R=>rw[g]at this;simp at this
  have p:=aA X;clear X af K0 A KF KA
  go_wp2_with (first|(refine wpList_load_row rfl 85 _ rfl d.heap.size rfl 85 b.arr (0,0) _ ah Q3 rfl aS ?_)|(refine wpList_store_row rfl 85 _ _ rfl (d.heap.size+1) b.arr rfl rfl 85 _ HR.o aS rfl (U.one _) ?_))
  have am:Fr [i,g,j] d (wc.setRow (d.heap.size+1) b.arr):=ai.qO.setRow _ _ (.inr qo);refine Zq8 (v:=b.val) (Zz8 results205 _ _ (d.heap.size+1) 85 b.arr (0,0) _ rfl (Qz4 _ _ _ b.arr _ _ HR.o) Q3 rfl aS) rfl ⟨?_,am,?_⟩
  ·rw[p.o]
  rw[p.o];exact Zq.fr ((r0 [d.heap.size+1] wc).setRow _ _ qs) qt qt qt qt
 have hbase:cK f.us b.owner=some c:=by
  have h1:=aj.o;have h2:=au.o;cases g:cK f.us b.owner with
  |none=>rw[g]at h1;simp at h1
  |some R=>rw[g]at h2;simp at h2;rw[h2]
 have ay:=ax c hbase;obtain⟨p0,p1,p2,p3⟩:=bX.1 be;obtain⟨p4,p5,p6,p7⟩:=bX.1 ay;obtain⟨Zr,hA⟩:=nn (bJ b.x b.y c.x c.y);have ak:∀a,Fr [] wc a->(λa:World=>Fr [] n a/\Fr [] wc a/\fM d.heap.size b a (ca a e 0 (ii c.id)/\ca a e 1 (ii c.owner)/\ca a e 2 (ii c.kind)/\ca a e 3 (ii c.x)/\ca a e 4 (ii c.y)/\ca a e 5 (ii c.life)/\ca a e 6 (ii c.load)/\ca a e 7 (ii c.what)/\ca a e 8 (ii c.tox)/\ca a e 9 (ii c.toy)/\ca a e 10 (ii c.target))) a:=λa q=>by have h:=q.qH ah;have g:=q.qH an;exact⟨ad.qT q,q,aB h,aB h,aB h,aB h,aB h,aB h,aB h,aB h,aB h,aB h,aB h,aB g,aB g,aB g,aB g,aB g,aB g,aB g,aB g,aB g,aB g,aB g⟩
 have K4:=ak wc.drew ((r0 [] wc).drew);have M:=aA hbase;have E:=aA hA;clear hbase hA af K0 A KF KA ax;go_wp2
 go_cut [25] (fun bv w=>bv=.bool (!Zr)/\Fr [] wc w)
 ·go_region_held (fun a:World=>Fr [] n a/\Fr [] wc a/\fM d.heap.size b a (ca a e 0 (ii c.id)/\ca a e 1 (ii c.owner)/\ca a e 2 (ii c.kind)/\ca a e 3 (ii c.x)/\ca a e 4 (ii c.y)/\ca a e 5 (ii c.life)/\ca a e 6 (ii c.load)/\ca a e 7 (ii c.what)/\ca a e 8 (ii c.tox)/\ca a e 9 (ii c.toy)/\ca a e 10 (ii c.target)))
   (first|with_reducible exact K4|with_reducible exact ak _ aa)
   (first|(go_at_call 192;refine(CU _ _ _ _ _ _ _ _ _ _ _ _).mono ?_;rintro F v ⟨rfl,r⟩;have aa:=Fr.qT (Zz9 (Q1 qb)) r)|(go_at_call 206;refine(pP b.x b.y c.x c.y _ (ar.qF (Zz9 (Q1 qb))) qo qo qo qo qo qo qo qo).mono ?_;rintro F v ⟨rfl,r⟩;rw[E.o];have aa:=Fr.qT (Zz9 (Q1 qb)) r))
  all_goals
   go_wp2_with fail
   go_meet
   exact⟨rfl,aa⟩
 obtain⟨rfl,I⟩:=hcut;have bg:=ai.qT I;have u:=I.qH ah;have hby:=I.qH an;have bf:=I.qH HR.o;have s:=Zq.qF I;have br:=ar.qF I;have N:=aA bf;clear ah an Zq ar ak K4 bf;cases Zr
 ·have X:fH f b=(b.to (dB f b λl=>bJ c.x c.y l.1 l.2),f.qM b (dB f b λl=>bJ c.x c.y l.1 l.2)):=by unfold fH;rw[M.o];simp only;rw[E.o];rfl
  have p:=aA X;clear X;obtain⟨m,hv⟩:=nn (b.to (dU (λl=>cR (bN f.held) f.bd l.1 l.2) (λl=>bJ c.x c.y l.1 l.2) (b.x,b.y)));have HV:=aA hv;clear hv;have O:∀a,Fr [d.heap.size+1,g,j] wc a->(λa:World=>fM d.heap.size b a (ca a e 0 (ii c.id)/\ca a e 1 (ii c.owner)/\ca a e 2 (ii c.kind)/\ca a e 3 (ii c.x)/\ca a e 4 (ii c.y)/\ca a e 5 (ii c.life)/\ca a e 6 (ii c.load)/\ca a e 7 (ii c.what)/\ca a e 8 (ii c.tox)/\ca a e 9 (ii c.toy)/\ca a e 10 (ii c.target))) a:=λa q=>by have h:=q.heap u qt;have g:=q.heap hby qt;exact⟨aB h,aB h,aB h,aB h,aB h,aB h,aB h,aB h,aB h,aB h,aB h,aB g,aB g,aB g,aB g,aB g,aB g,aB g,aB g,aB g,aB g,aB g⟩
  have K5:=O wc.drew ((r0 _ wc).drew);have bm:∀(fn:Fn) (first t:Array Value) (d:World),(Instr.makeFunc fn first t).run prog d=.ok (.func fn first t) d:=λ_ _ _ _=>rfl;go_wp2
  go_cut [] (fun w=>w.heap[d.heap.size+1]?=some (.cells m.arr 85)/\Fr [d.heap.size+1,g,j] wc w/\TS w i L t g j (f.qM b (dB f b fun l=>bJ c.x c.y l.1 l.2)))
  ·go_region_held (fun a:World=>fM d.heap.size b a (ca a e 0 (ii c.id)/\ca a e 1 (ii c.owner)/\ca a e 2 (ii c.kind)/\ca a e 3 (ii c.x)/\ca a e 4 (ii c.y)/\ca a e 5 (ii c.life)/\ca a e 6 (ii c.load)/\ca a e 7 (ii c.what)/\ca a e 8 (ii c.tox)/\ca a e 9 (ii c.toy)/\ca a e 10 (ii c.target)))
    (first|with_reducible exact K5|with_reducible exact O _ bj|with_reducible exact O _ ao|with_reducible exact O _ (ao.set11 (d.heap.size+1) m (.inl qs)))
    (first|(go_at_call 192;refine(CU _ _ _ _ _ _ _ _ _ _ _ _).mono ?_;rintro F v ⟨rfl,r⟩;have ac:=((r0 [] wc).drew).qT r;have aa:Fr [g,j] wc v:=ac.qO;have bj:Fr [d.heap.size+1,g,j] wc v:=ac.qO)|(go_at_call 202;refine(vZ i L t g j f b c.x c.y _ (s.qF ac) (br.qF ac) be ay).mono ?_;rintro F w5 ⟨rfl,bi,bt⟩;rw[HV.o];have ba:=aa.trans bi qs;have ao:Fr [d.heap.size+1,g,j] wc w5:=ba.mono qs;have aq:=ba.heap N.o qt;have cf:∀J,w5.cell? ⟨d.heap.size+1,J,none⟩=zeroU.arr[J]?:=(λJ=>aB aq);have cg:∀J,w5.frozen? ⟨d.heap.size+1,J,none⟩=false:=(λJ=>aV aq)))
   all_goals
    go_wp2_with fail
    go_meet
    exact⟨set11 aq,ao.set11 (d.heap.size+1) m (.inl qs),bt.fr ((r0 [d.heap.size+1] w5).set11 (d.heap.size+1) m qs) qt qt qt qt⟩
  obtain⟨bn,bk,bu⟩:=hcut;clear O K5 bm
  go_wp2_with fail
  have am:=(bg.qO (S:=[i,g,j])).trans bk qs;refine Zq8 (v:=m.val) (Zz8 results205 _ _ (d.heap.size+1) 85 m.arr (0,0) _ rfl bn Q3 rfl aS) rfl ⟨?_,am,?_⟩
  ·rw[p.o,<-HV.o];rfl
  rw[p.o];exact bu
 have u1:ca wc d.heap.size 1 (ii b.owner):=aB u;have u6:ca wc d.heap.size 6 (ii b.load):=aB u;have cn:wc.frozen? ⟨d.heap.size,6,none⟩=false:=aV u;have dn:¬(i=d.heap.size):=qo;have bw:¬(d.heap.size=i):=qo;have ae:Hi (i<d.heap.size/\L<d.heap.size/\g<d.heap.size/\j<d.heap.size):=by show _/\_;omega
 obtain⟨cb,cc⟩:=bl;obtain ho|ho:=hown
 focus
  have c2:wc.cell? ⟨i,2,none⟩=some (ii f.s0):=by have:=s.cell 2 qo;simpa[aK]using this
  have z2:=s.fz 2;have D:f.qK b.owner=f.s0:=by unfold T.qK;rw[Q7 ho]
  rw[D]at ag;obtain⟨bp,bq⟩:=ag;have Q:=aA D;have P:Hi (∀m,f.qS b.owner m={f with s0:=m}):=λm=>by unfold T.qS;rw[Q7 ho]
  clear D
  by_cases ap:f.s0+b.load<=1000000000
  focus
   have p:Hi (fH f b=({b with load:=0},{f with s0:=(f.s0+b.load)})):=by
    show _=_
    unfold fH;rw[M.o];simp only;rw[E.o,P.o,Q.o,Q7 rfl,Int.min_eq_left ap]
   obtain⟨ab,V,Y,W⟩:=bring_put (k:=2) (x:=f.s0+b.load) d.heap.size s u N.o (.inl ⟨rfl,rfl⟩) ae _ rfl
  rotate_left
  focus
   have p:Hi (fH f b=({b with load:=0},{f with s0:=1000000000})):=by
    show _=_
    unfold fH;rw[M.o];simp only;rw[E.o,P.o,Q.o,Q7 rfl,Int.min_eq_right qo]
   obtain⟨ab,V,Y,W⟩:=bring_put (k:=2) (x:=1000000000) d.heap.size s u N.o (.inl ⟨rfl,rfl⟩) ae _ rfl
 rotate_left 2
 focus
  have c2:wc.cell? ⟨i,3,none⟩=some (ii f.s1):=by have:=s.cell 3 qo;simpa[aK]using this
  have z2:=s.fz 3;have D:f.qK b.owner=f.s1:=by unfold T.qK;rw[Z0 qo]
  rw[D]at ag;obtain⟨bp,bq⟩:=ag;have Q:=aA D;have P:Hi (∀m,f.qS b.owner m={f with s1:=m}):=λm=>by unfold T.qS;rw[Z0 qo]
  clear D
  by_cases ap:f.s1+b.load<=1000000000
  focus
   have p:Hi (fH f b=({b with load:=0},{f with s1:=(f.s1+b.load)})):=by
    show _=_
    unfold fH;rw[M.o];simp only;rw[E.o,P.o,Q.o,Q7 rfl,Int.min_eq_left ap]
   obtain⟨ab,V,Y,W⟩:=bring_put (k:=3) (x:=f.s1+b.load) d.heap.size s u N.o (.inr ⟨rfl,rfl⟩) ae _ rfl
  rotate_left
  focus
   have p:Hi (fH f b=({b with load:=0},{f with s1:=1000000000})):=by
    show _=_
    unfold fH;rw[M.o];simp only;rw[E.o,P.o,Q.o,Q7 rfl,Int.min_eq_right qo]
   obtain⟨ab,V,Y,W⟩:=bring_put (k:=3) (x:=1000000000) d.heap.size s u N.o (.inr ⟨rfl,rfl⟩) ae _ rfl
 all_goals
  have av:=(show Hi _ from And.intro Y W);clear Y W;go_wp2
  go_region
  go_wp2
  go_region
  go_wp2_with (first|(refine wpList_load_row rfl 85 _ rfl d.heap.size rfl 85 (U.arr {b with load:=0}) (0,0) _ ab Q3 rfl aS ?_)|(refine wpList_store_row rfl 85 _ _ rfl (d.heap.size+1) (U.arr {b with load:=0}) rfl rfl 85 _ V aS rfl (U.one _) ?_))
  refine Zq8 (v:=U.val {b with load:=0}) (Zz8 results205 _ _ (d.heap.size+1) 85 (U.arr {b with load:=0}) (0,0) _ rfl (Qz4 _ _ _ _ _ _ V) Q3 rfl aS) rfl ⟨?_,(bg.qO (S:=[i,g,j])).trans av.o.1 qs,?_⟩
  ·rw[p.o]
  rw[p.o];exact av.o.2
def jB(a:Int):Bool:=decide (0<a)&&decide (a<10)
def T.qB(b:T)(c:Nat)(d:Int):T:={b with bd:=λa=>if a=c then d else b.bd a}
theorem Jk(h:T)(c:Int)(g:Value)(e d a:Nat)(i:a<144)(b:Nat)(f:b=4+a):aK (h.qB a c) g e d b=ii c:=by subst f;grind[aK,T.qB]
theorem Jl(f:T)(g:Int)(e:Value)(c b d a:Nat)(h:a≠4+d):aK (f.qB d g) e c b a=aK f e c b a:=by unfold aK;grind[T.qB]
def eR(b:T)(a:U):U×T:=
 if 0<a.load then fH b a
 else if jB (b.bd (ci a.tox a.toy))=true then
  if bJ a.x a.y a.tox a.toy=true then({a with load:=min (b.bd (ci a.tox a.toy)) 5},b.qB (ci a.tox a.toy) (b.bd (ci a.tox a.toy)-min (b.bd (ci a.tox a.toy)) 5))
  else(a.to (dB b a λc=>bJ a.tox a.toy c.1 c.2),b.qM a (dB b a λc=>bJ a.tox a.toy c.1 c.2))
 else(a.idle,b)
theorem ZO(d pb C l k:Nat)(g:T)(a:U)(b:World)(w:TS b d pb C l k g)(bf:Sd b)(ao:aE a.x a.y=true)(ac:aE a.tox a.toy=true)(hown:a.owner=0\/a.owner=1)(bq:∀ak,cK g.us a.owner=some ak->aE ak.x ak.y=true)(bz:0<=g.qK a.owner/\g.qK a.owner<=1000000000)(bt:0<=a.load/\a.load<=5)(ba:a.kind=2):Cs 162 #[pt d,a.val] b λh c=> h=.returned (eR g a).1.val/\Fr [d,l,k] b c/\TS c d pb C l k (eR g a).2:=by
 have bi:=aA ba;clear ba;have hz:=w.z;have cj:=w.ways.lt;have ck:=w.held.lt;have cc:=w.lt;have cu:=w.row.lt;obtain⟨W2,O⟩:=nm ((b.alloc (.cells a.arr 85)).alloc (.cells zeroU.arr 85));have Zs:W2.heap.size=b.heap.size+1+1:=by rw[O];simp
 have bk:Fr [] b W2:=by rw[O];exact((r0 _ _).alloc _).alloc _
 have hU:W2.heap[b.heap.size]?=some (.cells a.arr 85):=by rw[O,dW]
 have hR:W2.heap[b.heap.size+1]?=some (.cells zeroU.arr 85):=by rw[O,cZ]
 by_cases bv:0<a.load
 ·have q:eR g a=fH g a:=by unfold eR;rw[Q7 bv]
  have n:=aA q;clear q
  delta Cs;go_in
  go_wp2_with fail
  refine(RT d pb C l k g a _ (w.qF (((r0 _ _).alloc _).alloc _)) (bf.qF (((r0 _ _).alloc _).alloc _)) ao hown bq bz bt).mono ?_;rintro h A ⟨rfl,t,ar⟩;obtain⟨f,I⟩:=nn ((fH g a).1);rw[I];have HV:=aA I;clear I;have x:=t.heap (cZ b _ _) qt
  go_wp2_with (refine wpList_store_row rfl 85 _ _ rfl (b.heap.size+1) f.arr rfl rfl 85 _ x aS rfl (U.one _) ?_)
  have E:Fr [d,l,k] b (A.setRow (b.heap.size+1) f.arr):=(((((r0 [] b).alloc _).alloc _).qO (S:=[d,l,k])).trans t qs).setRow _ _ (.inr qo);refine Zq8 (v:=f.val) (Zz8 results162 _ _ (b.heap.size+1) 85 f.arr (0,0) _ rfl (Qz4 _ _ _ f.arr _ _ x) Q3 rfl aS) rfl ⟨?_,E,?_⟩
  ·rw[n.o,HV.o]
  rw[n.o];exact ar.fr ((r0 [b.heap.size+1] A).setRow _ _ qs) qt qt qt qt
 obtain⟨cz,da,db,dc⟩:=bX.1 ac;obtain⟨p0,p1,p2,p3⟩:=bX.1 ao;clear O;obtain⟨B,D⟩:=nm (((b.alloc (.cells a.arr 85)).alloc (.cells zeroU.arr 85)).alloc (.cells #[ii a.tox,ii a.toy] 159));have cw:B.heap.size=b.heap.size+1+1+1:=by rw[D];simp
 have bl:Fr [] b B:=by rw[D];exact(((r0 _ _).alloc _).alloc _).alloc _
 have bo:B.heap[b.heap.size]?=some (.cells a.arr 85):=by rw[D,eL _ _ _ qt,dW]
 have bn:B.heap[b.heap.size+1]?=some (.cells zeroU.arr 85):=by rw[D,eL _ _ _ qs,cZ]
 have bm:B.heap[b.heap.size+1+1]?=some (.cells #[ii a.tox,ii a.toy] 159):=by rw[D,kO]
 have KF:Fr [] B ((((b.alloc (.cells a.arr 85)).alloc (.cells zeroU.arr 85)).alloc (.cells #[ii a.tox,ii a.toy] 159)).drew):=by rw[D];exact(r0 _ _).drew
 have P:=w.tv.b _ (eN ac);obtain⟨f,I⟩:=nn (g.bd (ci a.tox a.toy));rw[I]at P;have aj:=aA I;unfold ci at P;rw[<-Y0]at P;clear D I hU hR Zs bk
 delta Cs;go_in
 go_wp2
 go_cut [6] (fun s6 X=>s6=.pointer (some ⟨d,4+a.toy.toNat*12+a.tox.toNat,none⟩)/\Fr [] B X)
 ·go_region
  go_wp2_with fail
  go_meet
  exact⟨rfl,KF⟩
 obtain⟨rfl,ab⟩:=hcut;have V:=bl.qT ab;have R:=ab.qH bo;have ap:=ab.qH bn;have an:=ab.qH bm;have ad:=w.qF V;have aq:=bf.qF V;have ay:wc.cell? ⟨d,4+a.toy.toNat*12+a.tox.toNat,none⟩=some (ii f):=(V.cell _ _ cc qs).trans P;have cn:=aH R;have co:=aH ap;have cd:=ad.lt;have av:=aA ap;clear ap KF P
 go_wp2_with fail
 refine(GH f _).mono ?_;rintro h M ⟨rfl,rfl⟩;obtain⟨bj,hO⟩:=nn ((decide (0<f)&&decide (f<10)));rw[hO];have Y:=aA hO;clear hO;cases bj
 ·have q:eR g a=(a.idle,g):=by unfold eR jB;rw[Z0 qo,aj.o,Y.o];rfl
  have n:=aA q;clear q
  go_wp2_with (refine wpList_load_row rfl 85 _ rfl b.heap.size rfl 85 a.arr (0,0) _ R Q3 rfl aS ?_)
  refine(sG a _).mono ?_;rintro h A ⟨rfl,t⟩;have x:=t.qH av.o
  go_wp2_with (refine wpList_store_row rfl 85 _ _ rfl (b.heap.size+1) a.idle.arr rfl rfl 85 _ x aS rfl (U.one _) ?_)
  have E:Fr [d,l,k] b (A.setRow (b.heap.size+1) a.idle.arr):=(V.qT t).qO.setRow _ _ (.inr qo);refine Zq8 (v:=a.idle.val) (Zz8 results162 _ _ (b.heap.size+1) 85 a.idle.arr (0,0) _ rfl (Qz4 _ _ _ a.idle.arr _ _ x) Q3 rfl aS) rfl ⟨?_,E,?_⟩
  ·rw[n.o]
  rw[n.o];exact(ad.qF t).fr ((r0 [b.heap.size+1] A).setRow _ _ qs) qt qt qt qt
 obtain⟨au,hA⟩:=nn (bJ a.x a.y a.tox a.toy);have af:=aA hA;clear hA;have ag:∀c,Fr [] wc c->(λc:World=>Fr [] wc c/\fM b.heap.size a c (ca c (b.heap.size+1+1) 0 (ii a.tox)/\ca c (b.heap.size+1+1) 1 (ii a.toy))) c:=λc i=>by have r:=i.qH R;have hg:=i.qH an;exact⟨i,aB r,aB r,aB r,aB r,aB r,aB r,aB r,aB r,aB r,aB r,aB r,aB hg,aB hg⟩
 have K7:=ag wc.drew ((r0 [] wc).drew);go_wp2
 go_cut [39] (fun cf X=>cf=.bool (!au)/\Fr [] wc X)
 ·go_region_held (fun c:World=>Fr [] wc c/\fM b.heap.size a c (ca c (b.heap.size+1+1) 0 (ii a.tox)/\ca c (b.heap.size+1+1) 1 (ii a.toy)))
   (first|with_reducible exact K7|with_reducible exact ag _ m)
   (first|(go_at_call 192;refine(iH a _).mono ?_;rintro h M ⟨rfl,F⟩;have m:=Fr.qT (Zz9 qb) F)|(go_at_call 206;refine(pP a.x a.y a.tox a.toy _ (aq.qF (Zz9 qb)) qo qo qo qo qo qo qo qo).mono ?_;rintro h M ⟨rfl,F⟩;rw[af.o];have m:=Fr.qT (Zz9 qb) F))
  all_goals
   go_wp2_with fail
   go_meet
   exact⟨rfl,m⟩
 obtain⟨rfl,H⟩:=hcut;have Zr:=V.qT H;have u:=H.qH R;have az:=H.qH an;have be:=H.qH av.o;have L:=ad.qF H;have bg:=aq.qF H;have am:=(H.cell d (4+a.toy.toNat*12+a.tox.toNat) cd qs).trans ay;have N:=aA be;clear R an ad aq ag K7 be ay;cases au
 ·have q:eR g a=(a.to (dB g a λp=>bJ a.tox a.toy p.1 p.2),g.qM a (dB g a λp=>bJ a.tox a.toy p.1 p.2)):=by unfold eR jB;rw[Z0 qo,aj.o,Y.o,Q7 rfl,af.o];rfl
  have n:=aA q;clear q;have cr:∀(fn:Fn) (first C:Array Value) (b:World),(Instr.makeFunc fn first C).run prog b=.ok (.func fn first C) b:=λ_ _ _ _=>rfl
  go_wp2_with (first|(refine wpList_load_row rfl 85 _ rfl b.heap.size rfl 85 a.arr (0,0) _ u Q3 rfl aS ?_)|(refine wpList_load_row rfl 159 _ rfl (b.heap.size+1+1) rfl 159 #[ii a.tox,ii a.toy] (0,0) _ az Y8 rfl iY ?_))
  refine(vZ d pb C l k g a a.tox a.toy _ L bg ao ac).mono ?_;rintro h A ⟨rfl,t,ar⟩;have x:=t.heap N.o qt;obtain⟨W,hq⟩:=nm (a.to (dU (λp=>cR (bN g.held) g.bd p.1 p.2) (λp=>bJ a.tox a.toy p.1 p.2) (a.x,a.y)));rw[<-hq];have HQ:=aA hq;clear hq
  go_wp2_with (refine wpList_store_row rfl 85 _ _ rfl (b.heap.size+1) W.arr rfl rfl 85 _ x aS rfl (U.one _) ?_)
  have E:Fr [d,l,k] b (A.setRow (b.heap.size+1) W.arr):=((Zr.qO (S:=[d,l,k])).trans t qs).setRow _ _ (.inr qo);refine Zq8 (v:=W.val) (Zz8 results162 _ _ (b.heap.size+1) 85 W.arr (0,0) _ rfl (Qz4 _ _ _ W.arr _ _ x) Q3 rfl aS) rfl ⟨?_,E,?_⟩
  ·rw[n.o,HQ.o];rfl
  rw[n.o];exact ar.fr ((r0 [b.heap.size+1] A).setRow _ _ qs) qt qt qt qt
 have u6:ca wc b.heap.size 6 (ii a.load):=aB u;have bh:wc.frozen? ⟨b.heap.size,6,none⟩=false:=aV u;have z2:=L.fz (4+a.toy.toNat*12+a.tox.toNat);have dn:¬(d=b.heap.size):=qo;have ch:¬(b.heap.size=d):=qo;have bx:0<f/\f<10:=by have:=Y.o;simpa using this
 obtain⟨cx,cy⟩:=bx;obtain⟨e,hm⟩:=nn (min f 5);have bw:0<e/\e<=f/\e<=5:=qo;obtain⟨cp,ct,cq⟩:=bw;have HM:=aA hm;have cb:=aH u;have ax:wc.cell? ⟨b.heap.size,2,none⟩=some (ii 2):=by rw[show(ii 2:Value)=ii a.kind from V3 (λae:Int=>(ii ae:Value)) bi.o.symm];exact aB u
 have J:∀c,Fr [] wc c->(λc:World=>Fr [b.heap.size] wc c/\ca c b.heap.size 2 (ii 2)/\ca c d (4+a.toy.toNat*12+a.tox.toNat) (ii f)) c:=λc i=>⟨i.qO,(i.cell _ _ cb qs).trans ax,(i.cell d _ L.lt qs).trans am⟩;have ai:Hi (∀c,Fr [] wc c->ca c b.heap.size 6 (ii a.load)/\c.frozen? ⟨b.heap.size,6,none⟩=false):=λc i=>⟨aB (i.qH u),aV (i.qH u)⟩;have ah:∀(c:World) (ae:Int),Fr [] wc c->(λc:World=>Fr [b.heap.size] wc c/\c.cell? ⟨b.heap.size,2,none⟩=some (ii 2)/\c.cell? ⟨d,4+a.toy.toNat*12+a.tox.toNat,none⟩=some (ii f)) (c.setCell ⟨b.heap.size,6,none⟩ (ii ae)):=λc ae i=>⟨i.qO.setCell _ _ (.inl qs),(cE _ b.heap.size 6 b.heap.size 2 _ (.inr qo)).trans (J c i).2.1,(cE _ b.heap.size 6 d _ _ (.inl qo)).trans (J c i).2.2⟩;have K8:=J wc.drew ((r0 [] wc).drew);have bu:∀b,(Instr.field 220 jL 2).run prog b=.ok (ii 5) b:=λb=>by kernel_rfl
 clear hm u6 bh;go_wp2
 go_cut [] (fun X=>∃j,Fr [] wc j/\X=j.setCell ⟨b.heap.size,6,none⟩ (ii e))
 ·by_cases cs:f<=5
  ·have h:e=f:=by have:=HM.o;omega
   subst h;have hq:¬(5<e):=qo
   go_region_held (fun c:World=>Fr [b.heap.size] wc c/\ca c b.heap.size 2 (ii 2)/\ca c d (4+a.toy.toNat*12+a.tox.toNat) (ii e))
    (first|with_reducible exact K8|with_reducible exact J _ m|with_reducible exact ah _ _ m)
    (first|(go_at_call 121;refine(lU _).mono ?_;rintro h M ⟨rfl,F⟩;have m:=Fr.qT ((r0 [] wc).drew) F;obtain⟨u61,cg⟩:=ai.o M m))
   all_goals
    go_wp2_with fail
    go_meet
    exact⟨_,m,rfl⟩
  have h:e=5:=by have:=HM.o;omega
  subst h
  go_region_held (fun c:World=>Fr [b.heap.size] wc c/\ca c b.heap.size 2 (ii 2)/\ca c d (4+a.toy.toNat*12+a.tox.toNat) (ii f))
   (first|with_reducible exact K8|with_reducible exact J _ m|with_reducible exact ah _ _ m)
   (first|(go_at_call 121;refine(lU _).mono ?_;rintro h M ⟨rfl,F⟩;have m:=Fr.qT ((r0 [] wc).drew) F;obtain⟨u61,cg⟩:=ai.o M m))
  all_goals
   go_wp2_with fail
   go_meet
   exact⟨_,m,rfl⟩
 obtain⟨j,Q,rfl⟩:=hcut;have ce:=Zr.qT Q;have Zq:=Q.qH u;have bc:=Q.qH N.o;have s:=L.qF Q;have br:=(Q.cell d (4+a.toy.toNat*12+a.tox.toNat) L.lt qs).trans am;clear J ai ah K8 bu ax u az bg am L N z2 Zr;have u6:ca j b.heap.size 6 (ii a.load):=aB Zq;have bh:j.frozen? ⟨b.heap.size,6,none⟩=false:=aV Zq;have z2:=s.fz (4+a.toy.toNat*12+a.tox.toNat);have N:=aA bc;clear bc;have q:eR g a=({a with load:=e},g.qB (ci a.tox a.toy) (f-e)):=by unfold eR jB;rw[Z0 qo,aj.o,Y.o,Q7 rfl,af.o,Q7 rfl,HM.o]
 have n:=aA q;have bp:((j.setCell ⟨b.heap.size,6,none⟩ (ii e)).setCell ⟨d,4+a.toy.toNat*12+a.tox.toNat,none⟩ (ii (f-e))).drew.heap[b.heap.size]?=some (.cells (U.arr {a with load:=e}) 85):=by have h1:=cJ Zq 6 (ii e);refine Eq.trans (b:=(j.setCell ⟨b.heap.size,6,none⟩ (ii e)).heap[b.heap.size]?) (Zz7 _ _ _ _ qt) (h1.trans qs)
 have aw:((j.setCell ⟨b.heap.size,6,none⟩ (ii e)).setCell ⟨d,4+a.toy.toNat*12+a.tox.toNat,none⟩ (ii (f-e))).drew.heap[b.heap.size+1]?=some (.cells zeroU.arr 85):=by
  show((j.setCell ⟨b.heap.size,6,none⟩ (ii e)).setCell ⟨d,4+a.toy.toNat*12+a.tox.toNat,none⟩ (ii (f-e))).heap[b.heap.size+1]?=_
  rw[Zz7 _ _ _ _ qt,Zz7 _ _ _ _ qs];exact N.o
 clear q;go_wp2
 go_region
 go_wp2_with (first|(refine wpList_load_row rfl 85 _ rfl b.heap.size rfl 85 (U.arr {a with load:=e}) (0,0) _ bp Q3 rfl aS ?_)|(refine wpList_store_row rfl 85 _ _ rfl (b.heap.size+1) (U.arr {a with load:=e}) rfl rfl 85 _ aw aS rfl (U.one _) ?_))
 have aa:Fr [d,b.heap.size,b.heap.size+1] j (((j.setCell ⟨b.heap.size,6,none⟩ (ii e)).setCell ⟨d,4+a.toy.toNat*12+a.tox.toNat,none⟩ (ii (f-e))).drew.setRow (b.heap.size+1) (U.arr {a with load:=e})) :=
  (((((r0 _ _).setCell _ _ qs).setCell _ _ qs).drew).setRow _ _ qs)
 have E:=((ce.qO (S:=[d,l,k])).trans aa qs);refine Zq8 (v:=U.val {a with load:=e}) (Zz8 results162 _ _ (b.heap.size+1) 85 (U.arr {a with load:=e}) (0,0) _ rfl (Qz4 _ _ _ _ _ _ aw) Q3 rfl aS) rfl ⟨?_,E,?_⟩
 ·rw[n.o]
 rw[n.o];refine{s with cell:=?_,fz:=?_,row:=s.row.fr aa (by simp;exact⟨λh=>s.n1 h.symm,by omega,by omega⟩),held:=s.held.fr aa (by simp;exact⟨λh=>s.n2 h.symm,by omega,by omega⟩),ways:=s.ways.fr aa (by simp;exact⟨λh=>s.n3 h.symm,by omega,by omega⟩)}
 ·intro v hj;rw[cell_setRow_other _ _ _ _ qt]
  show(((j.setCell ⟨b.heap.size,6,none⟩ (ii e)).setCell ⟨d,4+a.toy.toNat*12+a.tox.toNat,none⟩ (ii (f-e)))).cell? ⟨d,v,none⟩=_
  by_cases bs:v=4+a.toy.toNat*12+a.tox.toNat
  ·subst bs;rw[eA _ _ _ _ (ii f) ((cE _ b.heap.size 6 d _ _ (.inl qo)).trans br)];exact V3 some (Jk g _ _ l k (ci a.tox a.toy) (eN ac) _ (by unfold ci;omega)).symm
  rw[cE _ d (4+a.toy.toNat*12+a.tox.toNat) d v _ (.inr qo),cE _ b.heap.size 6 d v _ (.inl qo),s.cell v hj];exact V3 some (Jl g _ _ l k (ci a.tox a.toy) v (by unfold ci;omega)).symm
 intro v;rw[Zx7 (w:=((j.setCell ⟨b.heap.size,6,none⟩ (ii e)).setCell ⟨d,4+a.toy.toNat*12+a.tox.toNat,none⟩ (ii (f-e))).drew) (Qx6 _ _ _ _ qt)]
 show(((j.setCell ⟨b.heap.size,6,none⟩ (ii e)).setCell ⟨d,4+a.toy.toNat*12+a.tox.toNat,none⟩ (ii (f-e)))).frozen? ⟨d,v,none⟩=false
 rw[J9,J9];exact s.fz v
