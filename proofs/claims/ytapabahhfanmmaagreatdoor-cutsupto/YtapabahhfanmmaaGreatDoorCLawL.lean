import Derived.Test.YtapabahhfanmmaaGreatDoorCBookN
import Derived.Test.YtapabahhfanmmaaGreatDoorCBookO
import Derived.Sort.Walk0
namespace Go.Proofs.YtapabahhfanmmaaGreatDoor
open Go.RowKit List Go.Proofs.Tryz
set_option maxHeartbeats 4000000
set_option maxRecDepth 100000
variable {n0:Nat} {lb xb pb cap:Nat} {S bo:List Nat} {mv stv:Value} {g:Gf} {yb gb qb cap2:Nat} {fst:Int} {bv:Value} {bs:List Pf} {tv kv:Value} {sts:List T} {mk:List Mk3} {t:T} {log:List UInt8} {steps:List Stp}
structure MkP3 (n0:Nat) (w:World) (lb xb pb cap:Nat) (S bo:List Nat) (mv stv:Value) (g:Gf) (yb gb qb cap2:Nat) (fst:Int) (bv:Value) (bs:List Pf) (tv kv:Value) (sts:List T) (mk:List Mk3) (t:T) (log:List UInt8) (steps:List Stp) (n:Nat) (w':World):Prop where
 ex:∃kv',LX n0 w' lb xb pb cap S bo mv stv g yb gb qb cap2 fst bv bs tv kv' sts (mk++[(steps.length,sts.length-1,n)]) t log steps/\∀g,kv'.ownBlock=some g->kv.ownBlock=some g\/w.heap.size<=g
 fr:Fr (lb::kv.ownBlock.toList) w w'
theorem sQ(n:World)(j:Nat)(e:LX n0 n lb xb pb cap S bo mv stv g yb gb qb cap2 fst bv bs tv kv sts mk t log steps)(am:0<steps.length)(an:steps.length<=10000000)(bc:sts.length<=1000000000)(ak:mk.length<=1000000000):Cs 63 #[pt lb,ii (j:Int)] n λm d=>m=.returned (.tuple #[])/\MkP3 n0 n lb xb pb cap S bo mv stv g yb gb qb cap2 fst bv bs tv kv sts mk t log steps j d:=by
 obtain⟨Zq,ah,ap,aq,ar⟩:=Z2 GB;have c0:ca n lb 0 (pt xb):=aB e.h;have M:=(show Hi _ from qQ n e.rs an am);have bb:=e.te;have p:=e.mr;obtain⟨f,y⟩:=nm mk.length;obtain⟨z,H⟩:=nm (mk.flatMap Mk3.cells);rw[<-y,<-H]at p;rw[<-y]at ak;have HM:=(show Hi (f=mk.length/\z=mk.flatMap Mk3.cells)from⟨y,H⟩);have aw:=p.1;obtain⟨q,r,aj⟩:=fD p;obtain⟨ta,tc,ao⟩:=fD e.tl;subst aj;subst ao;have N:=aA e;have ac:=(show Hi (n.ownsRow 0 194 3 (.slice q f r) f z)from p);obtain⟨k,X⟩:=nm (sts.length-1);have HQ:=aA X;have ax:(sts.length:Int)-1=(k:Int):=qo;have ay:k<=1000000000:=qo;have av:=aH e.h;clear e p X y H
 delta Cs;go_in
 go_wp2_with fail
 refine cm M.o ?_;rintro m l ⟨v1,rfl,V,w⟩;obtain⟨sa,sc,rfl⟩:=fD V;have u:=N.o.qF w;have A:∀Z d,Fr Z l d->lb∉Z->(λd:World=>ca d lb 4 (.slice ta sts.length tc)/\ca d lb 5 (.slice q f r)) d:=λZ d P Q=>⟨aB (P.heap u.h Q),aB (P.heap u.h Q)⟩;have a:=A [] l.drew ((r0 _ _).drew) qs;have az:=w.size;have O:=aA u;clear M V c0 u
 go_wp2_with fail
 refine OneFree.region (λd:World=>d.cell? ⟨lb,4,none⟩=some (.slice ta sts.length tc)/\d.cell? ⟨lb,5,none⟩=some (.slice q f r)) 19 qk ?_;refine(show OneFree prog Region.Mode.any _ _ _ 19 20 (Array.replicate 20 false) _ _ from ?_);refine tv 0 a ?_;refine tv 1 a ?_;refine tv 2 a ?_;refine tv 3 a ?_;refine tv 4 a ?_;refine tv 5 a ?_;refine tv 6 a ?_;refine tv 7 a ?_;refine tv 8 a ?_;refine tv 9 a ?_;refine tv 10 a ?_;refine tv 11 a ?_;refine OneFree.take (i:=12) (v:=ii (k:Int)) (by simp only[G];rfl) qk qk qk qk qd (by exact λ_ _ _ e=>e) (.inl ⟨by rfl,?_⟩) a ?_
 ·intro d au;go_simp;grind[IntKind.wrap_i64];try simp only[Act.put,Z]
 refine tv 13 a ?_;refine tv 14 a ?_;refine o1 15 fun h c=>?_;have b:=aA c;clear c;go_simp;obtain⟨B,s⟩:∃ad,ad=(l.alloc (.cells #[ii (steps.length:Int),ii (k:Int),ii (j:Int)] 194)).drew:=⟨_,rfl⟩;rw[<-s];have x:Fr [] l B:=by rw[s];exact((r0 _ _).alloc _).drew
 have R:∀(Y:Nat) (ab:Value),[ii (steps.length:Int),ii (k:Int),ii (j:Int)][Y]?=some ab->B.cell? ((⟨l.heap.size,0,none⟩:Addr).add Y)=some ab:=by rw[s];exact dQ l [ii (steps.length:Int),ii (k:Int),ii (j:Int)] 194
 have ba:=x.size;have W:=aF (aF ac.o w qs) x qs;clear s a;have a:=A [] B x qs;refine b.o _ _ ⟨λ_=>a,?_⟩;clear b h;try simp only[Act.put,Z]
 refine o1 16 λh c=>?_;have b:=aA c;clear c;rw[Q7 (by rfl)];refine mD _ _ 137 rfl 0 194 Zq (.agg #[ii 0,ii 0,ii 0]) 3 24 underlying137 ah ap aq ar rfl (.slice q f r) f z rfl W ⟨l.heap.size,0,none⟩ 1 1 [ii (steps.length:Int),ii (k:Int),ii (j:Int)] rfl rfl R qc qm qo qo qo ?_;intro v3 J I ai D;obtain⟨g3,c3,rfl⟩:=bK I qo;have ag:=bO D;have C:=x.qO.trans ag (λae E=>.inl E);have aa:lb∉(Value.ownBlock (.slice q f r)).toList:=λm=>(N.o.nk lb (qu m)).1 qs;clear a;have a:=A _ J C aa;have z5:J.frozen? ⟨lb,5,none⟩=false:=aV (C.heap O.o.h aa);have L:=(show Hi _ from gK D);have Zr:=(show Hi (J.ownsRow 0 194 3 (.slice (so g3) (f+1) c3) (f+1) (z++[ii (steps.length:Int),ii (k:Int),ii (j:Int)]))from I);refine b.o _ _ ⟨λ_=>a,?_⟩;clear b h R W I ai D;try simp only[Act.put,Z]
 refine o1 17 fun h c=>?_;have b:=aA c;clear c;go_simp;refine b.o _ _ ⟨fun _=>a,?_⟩;clear b h;try simp only[Act.put,Z]
 refine o1 18 fun h c=>?_;have b:=aA c;clear c;go_simp;refine b.o _ _ ⟨fun _=>a,?_⟩;clear b h;try simp only[Act.put,Z]
 refine o1 19 fun h c=>?_;have b:=aA c;clear c;obtain⟨k1,k2⟩:=a;go_simp;refine b.o _ _ ⟨fun h6=>absurd rfl h6,OneFree.done qk ?_ _⟩;clear b h;refine Q5 (v:=.tuple #[]) (Q6 rfl _ _ _) rfl ⟨rfl,?_⟩;obtain⟨e1,e2⟩:=HM.o;obtain⟨hL,af⟩:=O.o.putK (mk':=mk++[(steps.length,sts.length-1,j)]) C (by grind[Hi.o]) qs (fun g F=>(L.o g F).imp_right (fun m=>by omega))
 exact⟨⟨_,hL,λg F=>(L.o g F).imp_right (λm=>by omega)⟩,(w.qO).trans af (λae E=>.inl E)⟩
variable {w x:World}
variable {n0:Nat} {lb xb pb cap:Nat} {S bo:List Nat} {mv stv:Value} {g:Gf} {yb gb qb cap2:Nat} {fst:Int} {bv:Value} {bs:List Pf} {tv kv:Value} {sts:List T} {mk:List Mk3} {t:T} {log:List UInt8} {steps:List Stp}
structure BX (n0:Nat) (w:World) (xb pb cap:Nat) (S bo:List Nat) (mv stv:Value) (g:Gf) (yb gb qb cap2:Nat) (bv:Value) (bs:List Pf) (t:T) (log:List UInt8) (steps:List Stp):Prop where
 rs:RS w xb pb cap S t mv stv g steps
 y:YR w yb gb qb cap2 t log
 bf:FilesB w n0 bo bv bs
 gg:GG t
 tn:t.turn<=1000000000
 s0:0<steps.length
 nd:[xb,pb,yb,gb,qb].Nodup
 ns:∀b∈S,b∉[xb,pb,yb,gb,qb]
 nb:∀b∈bo,b∉[xb,pb,yb,gb,qb]/\b∉S
 bl:∀b∈bo,b<w.heap.size
 lo:∀b∈[xb,pb,yb,gb,qb]++(S++bo),n0<=b
theorem BX.qF(a:BX n0 w xb pb cap S bo mv stv g yb gb qb cap2 bv bs t log steps)(b:Fr [] w x):BX n0 x xb pb cap S bo mv stv g yb gb qb cap2 bv bs t log steps:={a with rs:=a.rs.qF b,y:=a.y.qF b,bf:=a.bf.fr b qs qs,bl:=λc d=>Z1 (a.bl c d) b.size}
theorem BH(d:World)(z:Option Addr)(B A:Nat)(l:BX n0 d xb pb cap S bo mv stv g yb gb qb cap2 (.slice z B A) bs t log steps)(br:steps.length<=10000000):Cs 61 #[pt xb,pt yb,.slice z B A] d λc j=>∃lb tv kv,c=.returned (pt lb)/\LX n0 j lb xb pb cap S bo mv stv g yb gb qb cap2 t.turn (.slice z B A) bs tv kv [t] [(steps.length,0,0)] t log steps/\d.heap.size<=lb/\(∀g,tv.ownBlock=some g\/kv.ownBlock=some g->d.heap.size<=g)/\Fr [] d j:=by
 obtain⟨cb,bm,bx,Zs,bz⟩:=Z2 GB;obtain⟨cc,bp,bt,bu,bw⟩:=Z2 GE;have c0:ca d yb 0 (pt gb):=aB l.y.h;have c1:=l.y.rg.c0;have au:=aH l.y.h;have bj:=l.y.rg.lt;have co:=l.s0;have V:=aA (λj r=>qV gb qb cap2 t j (l.y.rg.qF r) l.gg.ok l.gg.os ⟨l.gg.t0,l.tn⟩);have am:=aA (λj r=>qQ j (l.rs.qF r) br l.s0);obtain⟨u,I⟩:∃cd:ByteArray,cd=⟨(aQ t).toArray⟩:=⟨_,rfl⟩;rw[<-I]at V;have m:=aA l;have bb:=aA I;clear l I
 delta Cs;go_in
 obtain⟨W,ao,ad,R⟩:=al d (.cells #[pt xb,pt yb,.slice z B A,ii t.turn,.slice none 0 0,.slice none 0 0] 139);have cp:=aH R;have F:∀j,Fr [] W j->(λj:World=>ca j d.heap.size 4 (.slice none 0 0)/\ca j yb 0 (pt gb)) j:=λj r=>⟨aB (r.qH R),((ad.qT r).cell yb 0 au qs).trans c0⟩
 go_wp2_with fail
 rw[<-ao];have e:=F W.drew ((r0 _ _).drew);clear ao c0 c1;refine OneFree.region (fun j:World=>j.cell? ⟨d.heap.size,4,none⟩=some (.slice none 0 0)/\j.cell? ⟨yb,0,none⟩=some (pt gb)) 14 qk ?_;refine(show OneFree prog Region.Mode.any _ _ _ 14 15 (Array.replicate 15 false) _ _ from ?_);refine tv 0 e ?_;refine tv 1 e ?_;refine tv 2 e ?_;refine tv 3 e ?_;refine tv 4 e ?_;refine tv 5 e ?_;refine tv 6 e ?_;refine tv 7 e ?_;refine tv 8 e ?_;refine o1 9 fun n i=>?_;have h:=aA i;clear i;go_simp;refine cm (V.o _ ad.drew) ?_;rintro c E ⟨rfl,bh⟩;have P:=((r0 [] W).drew).qT bh;clear e;have e:=F E P;refine h.o _ _ ⟨fun _=>e,?_⟩;clear h n V;try simp only[Act.put,Z]
 refine o1 10 fun n i=>?_;have h:=aA i;clear i;go_simp;obtain⟨H,N⟩:=nm (E.alloc (.cells #[.string u] 9));rw[<-N];have ae:Fr [] E H:=by rw[N];exact(r0 _ _).alloc _
 have ar:∀(J:Nat) (aw:Value),[Value.string u][J]?=some aw->H.cell? ((⟨E.heap.size,0,none⟩:Addr).add J)=some aw:=by rw[N];exact dQ E [.string u] 9
 clear N e;have e:=F H (P.qT ae);refine h.o _ _ ⟨λ_=>e,?_⟩;clear h n;try simp only[Act.put,Z]
 refine o1 11 λn i=>?_;have h:=aA i;clear i;rw[Q7 (by rfl)];refine mD _ _ 38 rfl 0 9 cc (.string ⟨#[]⟩) 1 16 underlying38 bp bt bu bw rfl (.slice none 0 0) 0 [] rfl ⟨rfl,.inl ⟨rfl,rfl⟩⟩ ⟨E.heap.size,0,none⟩ 1 1 [.string u] rfl rfl ar qc qm qo qo qo ?_;intro v4 y aj bq ab;obtain⟨k,v,rfl⟩:=bK aj qo;have bi:Fr [] H y:=bO ab;have M:=(P.qT ae).qT bi;have ce:H.heap.size<=k:=by
  obtain a|a:=gK ab k rfl
  ·cases a
  exact a
 clear e;have e:=F y M;have z4:y.frozen? ⟨d.heap.size,4,none⟩=false:=aV (M.qH R);have ak:=(show Hi (y.ownsRow 0 9 1 (.slice (so k) (0+1) v) (0+1) ([]++[.string u]))from aj);refine h.o _ _ ⟨λ_=>e,?_⟩;clear h n ar aj bq ab;try simp only[Act.put,Z]
 refine o1 12 fun n i=>?_;have h:=aA i;clear i;go_simp;refine h.o _ _ ⟨fun _=>e,?_⟩;clear h n;try simp only[Act.put,Z]
 refine o1 13 fun n i=>?_;have h:=aA i;clear i;go_simp;refine h.o _ _ ⟨fun _=>e,?_⟩;clear h n;try simp only[Act.put,Z]
 refine o1 14 fun n i=>?_;have h:=aA i;clear i;obtain⟨k1,k2⟩:=e;go_simp;refine h.o _ _ ⟨fun h6=>absurd rfl h6,OneFree.done qk ?_ _⟩;clear h n;obtain⟨X,D⟩:=nm (y.setCell ⟨d.heap.size,4,none⟩ (.slice (so k) (0+1) v))
 first|rw[<-D]|(rw[Z9]at D;rw[<-D])
 have bk:X.heap[d.heap.size]?=some (.cells #[pt xb,pt yb,.slice z B A,ii t.turn,.slice (so k) 1 v,.slice none 0 0] 139):=by rw[D,iE (M.qH R)];rfl
 have af:Fr [d.heap.size] y X:=by rw[D];exact(r0 _ _).setCell _ _ qs
 have an:=(ad.qT M).trans af qs;have CS:=(show Hi _ from am.o X an);clear D am F k1 k2 z4
 go_wp2_with fail
 refine cm CS.o ?_;rintro c p ⟨v6,rfl,Zq,Q⟩;obtain⟨sa,sc,rfl⟩:=fD Zq;have ah:=Q.qH bk;have d5:ca p d.heap.size 5 (.slice none 0 0):=aB ah;have cj:=aH ah;have az:Hi ((p.alloc (.cells #[ii (steps.length:Int),ii 0,ii 0] 194)).ownsRow 0 194 3 (.slice none 0 0) 0 []):=⟨rfl,.inl ⟨rfl,rfl⟩⟩;have ay:Hi (∀(J:Nat) (av:Value),[ii (steps.length:Int),ii 0,ii 0][J]?=some av->(p.alloc (.cells #[ii (steps.length:Int),ii 0,ii 0] 194)).cell? ((⟨p.heap.size,0,none⟩:Addr).add J)=some av):=dQ p _ 194;have ax:=aA (λs (r:Fr [] (p.alloc (.cells #[ii (steps.length:Int),ii 0,ii 0] 194)) s)=>r.qH (((r0 [] p).alloc _).qH ah));clear CS Zq
 go_wp2_with (
       at_builtin
       refine eU rfl _ _ 137 rfl 0 194 cb (.agg #[ii 0,ii 0,ii 0]) 3 24 underlying137 bm bx Zs bz rfl (.slice none 0 0) 0 [] rfl az.o ⟨p.heap.size,0,none⟩ 1 1 [ii (steps.length:Int),ii 0,ii 0] rfl rfl ay.o qc qm qo qs qo ?_;intro v7 s Zr cg ac;obtain⟨q,L,rfl⟩:=bK Zr qo;have ai:=ax.o s (bO ac);have e5:ca s d.heap.size 5 (.slice none 0 0):=aB ai;have z5:s.frozen? ⟨d.heap.size,5,none⟩=false:=aV ai)
 go_ret;have bd:Fr [] p (p.alloc (.cells #[ii (steps.length:Int),ii 0,ii 0] 194)):=(r0 _ _).alloc _;have ap:=bd.qT (bO ac);have cf:p.heap.size<=q:=by
  obtain a|a:=gK ac q rfl
  ·cases a
  simp at a;omega
 have be:=(an.qT Q).qT ap;obtain⟨Y,aa⟩:=nm (s.setCell ⟨d.heap.size,5,none⟩ (.slice (so q) 1 L));have ag:Fr [d.heap.size] s Y:=by rw[aa];exact(r0 _ _).setCell _ _ qs
 have bg:=be.trans ag qs;have O:=m.o.qF bg;have s3:=ae.size;have s2:=P.size;have ch:=(ak.o.lt k rfl).2;have s5:=af.size;have s6:=Q.size;have x:∀b,b∈[xb,pb,yb,gb,qb]\/b∈S++bo->b<d.heap.size:=λb f=>by
  obtain a|a:=f
  ·simp only[mem_cons,not_mem_nil,or_false]at a;obtain rfl|rfl|rfl|rfl|rfl:=a
   ·exact m.o.rs.lt
   ·exact m.o.rs.row.lt
   ·exact au
   ·exact bj
   exact m.o.y.rg.row.lt
  obtain a|a:=m5.1 a
  ·exact m.o.rs.sve.lt b a
  exact m.o.bl b a
 have cn:n0<=d.heap.size:=by have:=m.o.lo xb qs;have:=x xb qs;omega
 have I:mA t=.string u:=by rw[bb.o]
 refine⟨d.heap.size,.slice (so k) 1 v,.slice (so q) 1 L,rfl,?_,Q9 _,λg hg=>?_,?_⟩
 ·have aq:LX n0 Y d.heap.size xb pb cap S bo mv stv g yb gb qb cap2 t.turn (.slice z B A) bs (.slice (so k) 1 v) (.slice (so q) 1 L) [t] [(steps.length,0,0)] t log steps:=by
   refine⟨?_,O.rs,O.y,O.bf,?_,?_,qs,qs,?_,λb f c=>?_,λb f=>?_,λb f=>?_,λb f=>?_,O.bl,λb f=>?_⟩
   ·rw[aa,iE ai];rfl
   ·show Y.ownsRow 0 9 1 (.slice (so k) 1 v) 1 [mA t]
    rw[I];refine gY (gY (gY (show y.ownsRow 0 9 1 (.slice (so k) 1 v) 1 [.string u]from ak.o) af (λb f c=>?_)) (Q.qT ap) qs) ag (λb f c=>?_)
    ·have C:k=b:=by simpa[Value.ownBlock]using f
     have h2:b=d.heap.size:=by simpa using c
     omega
    have C:k=b:=by simpa[Value.ownBlock]using f
    have h2:b=d.heap.size:=by simpa using c
    omega
   ·refine gY (show s.ownsRow 0 194 3 (.slice (so q) 1 L) 1 [ii (steps.length:Int),ii 0,ii 0]from Zr) ag (λb f c=>?_);have C:q=b:=by simpa[Value.ownBlock]using f
    have h2:b=d.heap.size:=by simpa using c
    omega
   ·refine V1.2 ⟨λc=>?_,m.o.nd⟩;have:=x _ (.inl c);omega
   ·obtain a|a:=Qq0.1 c
    ·have:=x b (.inr (Qk3 _ f));omega
    exact m.o.ns b f a
   ·have ck:=m.o.bl b f;refine⟨λc=>?_,(m.o.nb b f).2,λc=>?_,λc=>?_⟩
    ·obtain a|a:=Qq0.1 c
     ·omega
     exact(m.o.nb b f).1 a
    ·have C:k=b:=by simpa[Value.ownBlock]using c
     omega
    have C:q=b:=by simpa[Value.ownBlock]using c
    omega
   ·have C:k=b:=by simpa[Value.ownBlock]using f
    refine⟨λc=>?_,λc=>?_,λc=>?_⟩
    ·obtain a|a:=Qq0.1 c
     ·omega
     have:=x b (.inl a);omega
    ·have:=x b (.inr (Qk3 _ c));omega
    have h2:q=b:=by simpa[Value.ownBlock]using c
    omega
   ·have C:q=b:=by simpa[Value.ownBlock]using f
    refine⟨λc=>?_,λc=>?_⟩
    ·obtain a|a:=Qq0.1 c
     ·omega
     have:=x b (.inl a);omega
    have:=x b (.inr (Qk3 _ c));omega
   simp only[aZ,dT,cons_append,nil_append,mem_cons,mem_append,Value.ownBlock,Option.toList_some,not_mem_nil,or_false]at f;have w:=m.o.lo;obtain a|a|a|a|a|a|a|a|a|a:=f
   ·omega
   ·exact w b (by simp[a])
   ·exact w b (by simp[a])
   ·exact w b (by simp[a])
   ·exact w b (by simp[a])
   ·exact w b (by simp[a])
   ·exact w b (by simp[a])
   ·exact w b (by simp[a])
   ·omega
   omega
  rw[aa]at aq;exact aq
 ·simp only[Value.ownBlock,Option.some.injEq]at hg;omega
 grind
variable {J:List Fl} {O:List Stp} {a:Nat} {V:Nm}
theorem sN:LOG.length<=30:=qd
theorem OD(c a:Nm)(b:a.length<=41000):mZ (bV c a):=⟨qg,b⟩
theorem yW(a:Nm):mZ (bQ a):=⟨qg,by simp⟩
theorem Ip(b a:Nm):mZ (dI b a):=⟨qg,by simp⟩
theorem vR{t:T}(a:GG t)(b:t.turn<=1000000000):(bE 2 (aQ t)).length<=41000:=by grind[pK,sC,aQ]
def uL(a:Stp):Prop:=mZ a/\a.name.length<=30/\a.to.length<=30
theorem yX{d:Nm}(a:V.length<=30)(e:d.length<=41000):∀c∈[bV V d,bQ V,dI V LOG],uL c:=λc b=>by
 simp only[mem_cons,not_mem_nil,or_false]at b;obtain rfl|rfl|rfl:=b
 ·exact⟨OD _ _ e,a,Z3 _⟩
 ·exact⟨yW _,a,Z3 _⟩
 exact⟨Ip _ _,a,sN⟩
section
variable {bs:List Pf} {g:Gf} {fst:Int} {sts:List T} {mk:List Mk3} {t:T} {log:List UInt8} {steps:List Stp} {N:Nat}
theorem HI.safe(e:HI bs g fst sts mk t log steps N){c:List Mk3}{b:Mk3}(f:mk=c++[b]):∃a d,cQ (eB bs) steps=some a/\DG a g/\g LOG=some (d,log)/\CI (eB bs) steps mk sts b.2.2:=by grind[HI.ex,CI.ml,List.append_inj',cons.injEq]
theorem HI.lastM(c:HI bs g fst sts mk t log steps N):∃a b,mk=a++[b]:=by grind[HI.ex,CI.ml]
theorem HI.grow(c:HI bs g fst sts mk t log steps N)(f:O.length<=3):∃a,a+(steps++O).length<=3*(N+1)+3/\bs.length<=2000000+a/\∀b∈bs,b.1.length<=2000000/\b.2.length<=2000000+41000*a:=by obtain⟨a,e,d⟩:=c.sz;exact⟨a,by grind,d⟩
theorem HI.also(b:HI bs g fst sts mk t log steps N)(d:∀a∈O,uL a):∀a∈steps++O,mZ a/\a.name.length<=30/\a.to.length<=30:=λa c=>(m5.1 c).elim (b.fm a) (d a)
theorem HI.play(b:HI bs g fst sts mk t log steps N){B:List Mk3}{f:Mk3}(A:mk=B++[f])(a:Tn)(o:t.turn<1000000000)(z:a.1.length<=10000/\a.2.length<=10000)(v:(dG t.turn a.1 a.2).length<=40000)(e:Value):HI bs (λp=>if p=LOG then some (e,aX g LOG++cU t a)else g p) fst (sts++[nT (dR t a)]) (mk++[((steps++[bV LOG (cU t a)]).length,(sts++[nT (dR t a)]).length-1,f.2.2)]) (nT (dR t a)) (log++cU t a) (steps++[bV LOG (cU t a)]) (N+1):=by
 obtain⟨E,O,k,l,n,j⟩:=b.safe A;obtain⟨h,m,d,u⟩:=l.log n;obtain⟨s,i,I⟩:=j.play k m d (by rw[u];exact b.op) b.ls a o z v;obtain⟨_,y,_⟩:=j.at k m d;have J:aX g LOG=log:=by unfold aX;rw[n]
 have x:=(kB b.op).1.play a o;have w:(cU t a).length<=41000:=by
  have i:=sC 1 (dG t.turn a.1 a.2) qo
  show(bE 1 (dG t.turn a.1 a.2)).length<=41000
  omega
 have M:=(gs.1 b.ls).1;refine⟨⟨_,f.2.2,e,i,?_,qg,s⟩,qg,by simp,λq D c=>?_,b.also (λC L=>?_),by simp,by have:=b.sl;grind,by have:=b.kl;grind,b.grow qs⟩
 ·have:=l.put y (f':={h with data:=h.data++cU t a}) rfl e;grind
 ·by_cases d:q<sts.length
  ·grind[HI.tu]
  rw[J8 qo]at c;have r:q-sts.length=0:=by grind
  rw[r]at c;have c:nT (dR t a)=D:=qg;rw[<-c];have F:(nT (dR t a)).turn=t.turn+1:=x.2;have H:=b.tu _ _ b.ls;omega
 have:C=bV LOG (cU t a):=qg;subst this;exact⟨OD _ _ w,sN,Z3 _⟩
theorem HI.refused(a:HI bs g fst sts mk t log steps N){l:List Mk3}{b:Mk3}(k:mk=l++[b]):HI bs g fst sts (mk++[(steps.length,sts.length-1,b.2.2)]) t log steps (N+1):=by obtain⟨c,m,h,i,j,f⟩:=a.safe k;obtain⟨d,n,e⟩:=a.sz;exact{a with ex:=⟨c,_,m,h,i,j,f.refused⟩,sl:=by have:=a.sl;omega,kl:=by have:=a.kl;grind,sz:=⟨d,by omega,e⟩}
theorem HI.sync(a:HI bs g fst sts mk t log steps N):HI bs g fst sts (mk++[((steps++[bQ LOG]).length,sts.length-1,sts.length-1)]) t log (steps++[bQ LOG]) (N+1):=by
 obtain⟨j,q,r,c,f,h,b⟩:=a.ex;obtain⟨k,d,e,n⟩:=f.log h;obtain⟨l,m⟩:=b.sync c d e (by grind[HI.op]) a.ls;obtain⟨_,o,_⟩:=b.at c d e;exact⟨(by grind[DG.same]),a.op,a.ls,a.tu,a.also (λi p=>by have:i=bQ LOG:=qg;subst this;exact⟨yW _,sN,Z3 _⟩),by simp,by have:=a.sl;omega,by have:=a.kl;grind,a.grow qs⟩
theorem HI.fold(a:HI bs g fst sts mk t log steps N)(h:g V=none)(i:V≠LOG)(r:V.length<=30)(d:Value):HI bs (λc=>if c=V then none else if c=LOG then some (d,bE 2 (aQ t))else g c) fst sts (mk++[((steps++[bV V (bE 2 (aQ t)),bQ V,dI V LOG]).length,sts.length-1,sts.length-1)]) t (bE 2 (aQ t)) (steps++[bV V (bE 2 (aQ t)),bQ V,dI V LOG]) (N+1):=by obtain⟨s,w,x,n,b,p,m⟩:=a.ex;obtain⟨u,o,q,v⟩:=b.log p;obtain⟨e,f,j⟩:=kB a.op;obtain⟨k,l⟩:=m.fold n o q e f j a.ls (b.no h) i rfl;refine⟨⟨_,_,d,l,(b.fold h _ d).resolve_right i,by grind,k⟩,by grind[sV],a.ls,a.tu,a.also (yX r (vR e f)),by simp,by have:=a.sl;omega,by have:=a.kl;grind,a.grow qs⟩
theorem HI.first{D:List Fl}{v:Value}{a:Nat}(f:cQ (eB bs) steps=some D)(h:DG D g)(j:g LOG=some (v,log))(p:∀b∈D,b.safe<=b.data.length)(o:(⟨LOG,log,log.length⟩:Fl)∈D)(l:fG log t [])(k:∀n∈steps,uL n)(d:0<steps.length)(e:a+steps.length<=3*N+3)(i:bs.length<=2000000+a)(m:∀c∈bs,c.1.length<=2000000/\c.2.length<=2000000+41000*a):HI bs g t.turn [t] [(steps.length,0,0)] t log steps N:=
  ⟨⟨D,0,v,f,h,j,(by grind[CI.first,DG.nd])⟩,l,rfl,qg,k,d,by simp,by simp,⟨a,e,i,m⟩⟩
theorem DU:∀(d:List Stp) (b a:List Fl),cQ b d=some a->(∀c∈b,c.name.length<=2000000)->(∀f∈d,f.name.length<=30/\f.to.length<=30)->∀c∈a,c.name.length<=2000000
 |[],b,a,e,h,_=>by cases e;exact h
 |f::d,b,a,e,h,m=>by obtain⟨i,k,j⟩:=Option.bind_eq_some_iff.1 e;refine DU d i a j (λc l=>?_) qg;grind[dO,pC,nY,bU,nK]
theorem HI.disk(d:HI bs g fst sts mk t log steps N)(q:N<=1048577)(r:a<=steps.length)(f:cQ (eB bs) (steps.take a)=some J):J.length<=10000000/\∃b,b<=3*N+3/\J.length<=2000000+b/\∀c∈J,c.name.length<=2000000/\c.data.length<=2000000+41000*b:=by obtain⟨b,n,o,p⟩:=d.sz;obtain⟨h,i⟩:=DT (steps.take a) (eB bs) J (2000000+41000*b) f qg (λe m=>(d.fm e qg).1.2);have j:=DU (steps.take a) (eB bs) J f qg (λe m=>(d.fm e qg).2);have l:(steps.take a).length=a:=qg;have s:(eB bs).length=bs.length:=qs;rw[l]at h i;exact⟨by omega,b+a,by omega,by omega,λc k=>⟨j c k,by grind⟩⟩
theorem HI.logl(a:HI bs g fst sts mk t log steps N)(d:N<=1048577):aX g LOG=log/\log.length<=200000000000:=by obtain⟨f,p,q,b,c,e,l⟩:=a.ex;obtain⟨i,n,o,m⟩:=c.log e;obtain⟨_,h,j,_,k⟩:=a.disk d (Q9 _) (by rw[l8 (Q9 _)];exact b);grind[aX]
theorem HI.bd(a:HI bs g fst sts mk t log steps N)(d:N<=1048577):steps.length<=3145734/\sts.length<=1048578/\mk.length<=1048578:=by obtain⟨b,c,_⟩:=a.sz;have:=a.sl;have:=a.kl;omega
end
variable {A:Gf} {L:List Nat} {l:List UInt8} {b c d:Nat} {s:T} {u v:Value} {y:World}
variable {n0:Nat} {lb xb pb cap:Nat} {S bo:List Nat} {mv stv:Value} {g:Gf} {yb gb qb cap2:Nat} {fst:Int} {bv:Value} {bs:List Pf} {tv kv:Value} {sts:List T} {mk:List Mk3} {t:T} {log:List UInt8} {steps:List Stp}
theorem LX.remake(i:LX n0 w lb xb pb cap S bo mv stv g yb gb qb cap2 fst bv bs tv kv sts mk t log steps){m:Nat}(N:RS x xb a b L s v u A O)(y':YR x yb gb c d s l)(z:Fr (xb::(S++[yb,gb,qb])) w x)(af:a=pb\/w.heap.size<=a)(H:∀e∈L,e∈S\/w.heap.size<=e)(ao:a<m)(ab:∀e∈L,e<m)(ag:c=qb\/m<=c)(hm:w.heap.size<=m):LX n0 x lb xb a b L bo v u A yb gb c d fst bv bs tv kv sts mk s l O:=by
 have n:=i.lt;have J:=i.nd;simp only[dT,nodup_cons,mem_cons,not_mem_nil,or_false,not_or,nodup_nil,and_true,not_false_eq_true]at J;obtain⟨⟨P,Q,R,V,W⟩,⟨X,Y,b3,b4⟩,⟨c1,c2,c3⟩,⟨d1,d2⟩,e1⟩:=J;have C:=n lb qs;have I:=n xb qs;have an:=n pb qs;have ah:=n yb qs;have ad:=n gb qs;have ap:=n qb qs;have D:∀e,e∉dT lb xb pb yb gb qb->e∉S->e∉xb::(S++[yb,gb,qb]):=λe q F p=>by grind
 have ak:lb∉S:=λp=>i.ns lb p qs;have ae:lb∉xb::(S++[yb,gb,qb]):=λp=>by
  obtain h|h:=Qq0.1 p
  ·grind
  obtain h|h:=m5.1 h
  ·grind
  simp only[mem_cons,not_mem_nil,or_false]at h;grind
 have ac:∀e∈L,e≠lb/\e≠xb/\e≠pb/\e≠yb/\e≠gb/\e≠qb:=λe f=>by
  obtain h|h:=H e f
  ·have:=i.ns e h;simp only[dT,mem_cons,not_mem_nil,or_false,not_or]at this;omega
  omega
 have M:∀k,k<w.heap.size->¬k=pb->¬k=a:=qg;have nq:∀k,k<m->¬k=qb->¬k=c:=qg;have B:∀k,k<w.heap.size->k<m:=qo;have pq:¬a=c:=by grind
 have ai:¬a=yb:=qg;have aa:¬a=gb:=qg;have r:∀e,e<w.heap.size->e∉dT lb xb pb yb gb qb->e∉S->e∉dT lb xb a yb gb c/\e∉L:=λe aj q F=>by simp only[dT,mem_cons,not_mem_nil,or_false,not_or]at q |-;grind
 have j:=i.lo;have am:=Nat.le_of_lt (Nat.lt_of_le_of_lt (j lb qs) C);refine{i with h:=z.heap i.h ae,rs:=N,y:=y',bf:=i.bf.fr z (λe f=>D e (i.nb e f).1 (i.nb e f).2.1) (λE hz=>?_),tl:=gY i.tl z (λe f=>D e (i.nt e f).1 (i.nt e f).2.1),mr:=gY i.mr z (λe f=>D e (i.nk e f).1 (i.nk e f).2),nd:=?_,ns:=λe f=>?_,nb:=λe f=>⟨(r e (i.bl e f) (i.nb e f).1 (i.nb e f).2.1).1,(r e (i.bl e f) (i.nb e f).1 (i.nb e f).2.1).2,(i.nb e f).2.2⟩,nt:=λe f=>⟨(r e (n e (by simp[f])) (i.nt e f).1 (i.nt e f).2.1).1,(r e (n e (by simp[f])) (i.nt e f).1 (i.nt e f).2.1).2,(i.nt e f).2.2⟩,nk:=λe f=>r e (n e (by simp[f])) (i.nk e f).1 (i.nk e f).2,bl:=λe f=>Z1 (i.bl e f) z.size,lo:=λe f=>?_}
 ·obtain h|h:=Qq0.1 hz
  ·exact j E (by simp[h])
  obtain h|h:=m5.1 h
  ·exact j E (by simp[h])
  simp only[mem_cons,not_mem_nil,or_false]at h;obtain h|h|h:=h<;>exact j E (by simp[h])
 ·simp only[dT,nodup_cons,mem_cons,not_mem_nil,or_false,not_or,nodup_nil,and_true,not_false_eq_true];exact⟨⟨P,M lb C Q,R,V,nq lb (B _ C) W⟩,⟨M xb I X,Y,b3,nq xb (B _ I) b4⟩,⟨ai,aa,pq⟩,⟨d1,nq yb (B _ ah) d2⟩,nq gb (B _ ad) e1⟩
 ·simp only[dT,mem_cons,not_mem_nil,or_false,not_or];have q:=ac e f;have F:=ab e f;refine⟨q.1,q.2.1,λp=>N.npb (p ▸ f),q.2.2.2.1,q.2.2.2.2.1,λp=>?_⟩;grind
 simp only[aZ,dT,cons_append,nil_append,mem_cons,mem_append]at f;obtain h|h|h|h|h|h|h|h:=f
 ·exact j e (by simp[h])
 ·exact j e (by simp[h])
 ·obtain o|o:=af
  ·exact j e (by simp[h,o])
  omega
 ·exact j e (by simp[h])
 ·exact j e (by simp[h])
 ·obtain o|o:=ag
  ·exact j e (by simp[h,o])
  omega
 ·obtain o|o:=H e h
  ·exact j e (by simp[o])
  omega
 exact j e (by simp only[aZ,dT,cons_append,nil_append,mem_cons,mem_append];grind)
theorem vT(a:Fr (xb::S) w x):Fr (xb::(S++[yb,gb,qb])) w x:=(by grind[Fr.mono])
theorem LX.qY(c:LX n0 w lb xb pb cap S bo mv stv g yb gb qb cap2 fst bv bs tv kv sts mk t log steps):∀a,a=yb\/a=gb\/a=qb->a∉xb::S:=λa i h=>by have b:=c.nd;simp only[dT,nodup_cons,mem_cons,not_mem_nil,or_false,not_or,nodup_nil,and_true,not_false_eq_true]at b;obtain⟨_,⟨_,d,e,f⟩,_⟩:=b;have j:a∈dT lb xb pb yb gb qb:=qa;grind[LX.ns]
theorem LX.after(f:LX n0 w lb xb pb cap S bo mv stv g yb gb qb cap2 fst bv bs tv kv sts mk t log steps)(e:RPost w xb S s A O x a b v u L)(r:a=pb\/w.heap.size<=a)(D:YR y yb gb c d s l)(i:Fr [yb,gb,qb] x y)(B:c=qb\/x.heap.size<=c):LX n0 y lb xb a b L bo v u A yb gb c d fst bv bs tv kv sts mk s l O:=by
 have j:=f.nd;simp only[dT,nodup_cons,mem_cons,not_mem_nil,or_false,not_or,nodup_nil,and_true,not_false_eq_true]at j;obtain⟨_,⟨_,E,F,H⟩,⟨I,J,M⟩,_⟩:=j;have Q:=f.lt yb qs;have N:=f.lt gb qs;have P:=f.lt qb qs;have q:∀h∈L,h∉[yb,gb,qb]:=λh o n=>by
  simp only[mem_cons,not_mem_nil,or_false]at n;obtain k|k:=e.old h o
  ·exact f.ns h k qg
  omega
 have C:xb∉[yb,gb,qb]:=by grind
 have z:a∉[yb,gb,qb]:=by grind
 have p:Fr (xb::(S++[yb,gb,qb])) w y:=(vT e.fr).trans i qg;exact f.remake (m:=x.heap.size) (e.rs.fr i C z q) D p r e.old e.rs.row.lt e.rs.sve.lt B e.fr.size
theorem LX.synced(a:LX n0 w lb xb pb cap S bo mv stv g yb gb qb cap2 fst bv bs tv kv sts mk t log steps)(b:RPost w xb S t g O x pb cap v u L):LX n0 x lb xb pb cap L bo v u g yb gb qb cap2 fst bv bs tv kv sts mk t log O:=
  a.after b (.inl rfl) (a.y.fr b.fr (a.qY yb (.inl rfl)) (by grind[LX.qY]) (by grind[LX.qY])) (r0 _ _) (.inl rfl)
theorem RS.n(a:RS w xb pb cap S t mv stv g steps):RS w xb pb cap S (nT t) mv stv g steps:={a with bl:=by rw[FF];exact a.bl,row:=a.row,len:=a.len,ne:=a.ne}
theorem LX.n(a:LX n0 w lb xb pb cap S bo mv stv g yb gb qb cap2 fst bv bs tv kv sts mk t log steps):LX n0 w lb xb pb cap S bo mv stv g yb gb qb cap2 fst bv bs tv kv sts mk (nT t) log steps:={a with rs:=a.rs.n,y:=⟨a.y.h,a.y.rg.n⟩}
theorem YQ(m A g:Nat)(d:List Pf)(l:List UInt8)(h:World)(E:d.length<=1000000000)(s:∀e a,d[e]?=some a->h.cell? ⟨m,e*2,none⟩=some (sv a.1)/\h.cell? ⟨m,e*2+1,none⟩=some (sv a.2))(n:d[g]?=some (LOG,l))(r:∀e a,e<g->d[e]?=some a->a.1≠LOG):Cs 71 #[.slice (so m) d.length A] h (R1 h (.tuple #[sv l,.bool true])):=by
 have H:=(gs.1 n).1;have u:=aA s;have v:=aA n;have t:=aA r;clear s n r
 delta Cs;go_in
 go_wp2
 go_loopw [4] (fun q wr=>(∃b:Nat,b<=g/\q=ii b)/\h=wr) (fun q _=>g-(intOf q).toNat)
 ·exact⟨⟨0,Z3 _,rfl⟩,rfl⟩
 obtain⟨⟨b,D,rfl⟩,rfl⟩:=hrel;have F:(b:Int)<(d.length:Int):=qo;obtain⟨a,f⟩:∃a,d[b]?=some a:=⟨_,Y2 qo⟩;obtain⟨y,z⟩:=u.o b a f;obtain⟨c,i⟩:∃c:ByteArray,c=⟨a.1.toArray⟩:=⟨_,rfl⟩;obtain⟨x,j⟩:∃c:ByteArray,c=⟨a.2.toArray⟩:=⟨_,rfl⟩;have k:c.toList=a.1:=by rw[i,Qk8]
 rw[sv,<-i]at y;rw[sv,<-j]at z
 by_cases C:b=g
 ·subst C;have p:=m9 (f.symm.trans v.o);have B:c.toList=[108,111,103]:=by rw[k,p];rfl
  have w:Hi (Value.string x=sv l):=by show _=_;rw[j,p]
  clear k i j f p;go_wp2;go_ret2;exact⟨by rw[w.o];rfl,rfl⟩
 have B:(c.toList==[108,111,103])=false:=by rw[k];exact beq_eq_false_iff_ne.2 (t.o b a qo f)
 clear k i j f
 go_wp2_with fail
 grind[intOf]
theorem VF{a b c d:ByteArray}(f:a.toList=c.toList/\b.toList=d.toList)(e:World):(binOp BinOp.eql 115 (.agg #[.string a,.string b]) (.agg #[.string c,.string d])).run prog e=.ok (.bool true) e:=by simp[go_sem,f]
theorem VE{a d b e:ByteArray}(f:¬(a.toList=b.toList/\d.toList=e.toList))(g:World):(binOp BinOp.eql 115 (.agg #[.string a,.string d]) (.agg #[.string b,.string e])).run prog g=.ok (.bool false) g:=by
 simp only[not_and]at f
 by_cases c:a.toList=b.toList
 ·simp[go_sem,c,f c]
 simp[go_sem,c]
theorem lZ:∀(c:List Stp) (b a:Nat) (h:Stp),c[b]?=some h->a<4->(c.flatMap Stp.cells)[b*4+a]?=h.cells[a]?
 |[],b,a,d,f,_=>by grind
 |e::c,0,a,d,f,g=>by grind
 |e::c,b+1,a,d,f,g=>by rw[l9,J8 qg];have:=lZ c b a d qg g;rw[show(b+1)*4+a-e.cells.length=b*4+a by grind];omega
theorem EO(d:Gf):∀(c:List Nm) (b:Nat) (a:Nm),c[b]?=some a->(kM d c)[b*2]?=some (sv a)/\(kM d c)[b*2+1]?=some (sv (aX d a))
 |[],b,a,e=>by grind
 |f::c,0,a,e=>by grind
 |f::c,b+1,a,e=>by have:=EO d c b a qg;rw[kM,l9,J8 qg,J8 qg];grind
theorem QM{c:List Nm}(k:c.Pairwise (λV b=>V<=b))(j:c.Nodup){b:Nm}(d:c[a]?=some V)(e:c[a+1]?=some b):Op.bytesLess V b=true:=by obtain⟨h,f⟩:=gs.1 d;obtain⟨i,g⟩:=gs.1 e;grind[pairwise_iff_getElem,bytesLess_eq,List.le_antisymm]
theorem ND{d:Type}[DecidableEq d]{a b:List d}(f:a.Nodup)(g:b.Nodup)(e:∀c,c∈a↔c∈b):a.length=b.length:=((List.perm_ext_iff_of_nodup f g).2 e).length_eq
structure DI (w:World) (base db:Nat) (bs:List Pf) (steps:List Stp) (k:Nat) (wr:World):Prop where
 ex:∃D,cQ (eB bs) (steps.take k)=some D/\DK wr base db D
 fr:FrB db w wr
variable {n0:Nat} {lb xb pb cap:Nat} {S bo:List Nat} {mv stv:Value} {g:Gf} {yb gb qb cap2:Nat} {fst:Int} {bv:Value} {bs:List Pf} {tv kv:Value} {sts:List T} {mk:List Mk3} {t:T} {log:List UInt8} {steps:List Stp}
theorem jO(aa:World)(N:LX n0 aa lb xb pb cap S bo mv stv g yb gb qb cap2 fst bv bs tv kv sts mk t log steps)(L:HI bs g fst sts mk t log steps a)(hN:a<=1048577):Cs 31 #[pt lb] aa (R0 aa (.bool true)):=by
 have c0:ca aa lb 0 (pt xb):=aB N.h;have HX:=aA (λf (j:Fr [] aa f)=>N.qF j);obtain⟨fn,_,_⟩:=L.bd hN;obtain⟨s,_,lv,hD,hG,bj,_⟩:=L.ex;obtain⟨cz,em⟩:=L.logl hN;obtain⟨cn,_,_,_,co⟩:=L.disk hN (Q9 _) (by rw[l8 (Q9 _)];exact hD);have dj:=L.s0;obtain⟨da,dl,_⟩:=kB L.op;obtain⟨ba,dv,dw,_⟩:=L.sz;have bu:=(show Hi _ from LU aa N.rs (ns:=cT s) (λk M=>⟨(hG.has k).1 M,by obtain⟨b,j,h⟩:=Qk7.1 ((hG.has k).1 M);have:=(co b j).1;rw[<-h];omega⟩) qt (k0:=LOG) (by rw[bj];rfl))
 have bx:=aA L;have br:=(show Hi (cQ (eB bs) steps=some s)from hD);have HG:=aA hG;have R:=aA da;have cd:=(show Hi (g LOG=some (lv,log)/\aX g LOG=log)from⟨bj,cz⟩);obtain⟨dx,cy⟩:∃x:ByteArray,x=⟨log.toArray⟩:=⟨_,rfl⟩;have bt:=aA cy;clear N da cy L hD hG bj cz co
 delta Cs;go_in
 go_wp2_with fail
 refine cm bu.o ?_;rintro h w ⟨⟨v1,e,rfl,ao,am,de,an⟩,bb⟩;have bk:LOG∈e:=(an LOG).2 (by rw[cd.o.1];rfl);have el:0<e.length:=m4 bk;have ai:e.length=s.length:=by have:=ND am HG.o.nd (λx=>(an x).trans (HG.o.has x));simpa using this
 obtain⟨l,fc,rfl⟩:=bK ao el;have bg:=ao.cells (g:=l) rfl;have HQ:Hi (∀d k,e[d]?=some k->w.cell? ⟨l,d*2,none⟩=some (sv k)/\w.cell? ⟨l,d*2+1,none⟩=some (sv (aX g k))):=λd k O=>by obtain⟨Y,q1⟩:=EO g e d k O;have a0:=bg _ _ Y;have a1:=bg _ _ q1;rw[i7,Z9]at a0 a1;exact⟨a0,a1⟩
 have ec:=(ao.lt l rfl).2;have ad:=HX.o w bb;have c1:ca w lb 1 (pt yb):=aB ad.h;have c2:ca w lb 2 bv:=aB ad.h;have y1:w.cell? ⟨yb,1,none⟩=some (.string dx):=by rw[bt.o];exact aB ad.y.h
 have cb:Hi (Cs 71 #[.slice (so l) e.length fc] w (R1 w (.tuple #[.string dx,.bool true]))):=by
  obtain⟨m,hm⟩:=Zx5 bk;obtain⟨en,eo⟩:=gs.1 hm;have:=YQ l fc m (e.map λk=>(k,aX g k)) log w qt (λn ev hp=>by
   rw[V4]at hp;obtain⟨k,M,h⟩:=V2.1 hp;rw[<-h];exact HQ.o n k M) (by rw[V4,hm,Option.map_some,cd.o.2]) (λn ev hj hp h=>by rw[V4]at hp;obtain⟨k,M,e2⟩:=V2.1 hp;obtain⟨ej,ek⟩:=gs.1 M;rw[<-e2]at h;exact Zj9.1 am n m ej en hj (by rw[ek,eo];exact h))
  rw[Qq1]at this;rw[bt.o];exact this
 obtain⟨va,vn,vc,cw⟩:∃H o dr,bv=.slice H o dr:=by obtain⟨_,_,h,_⟩|⟨_,_,_,h,_⟩:=ad.bf<;>exact⟨_,_,_,h⟩
 have Zr:=(show Hi _ from IP bv bs w ad.bf.v qo);rw[cw]at c2 Zr;have Zq:=(show Hi (e.length=s.length)from ai);have ey:=(show Hi (s.length<=10000000)from cn);have fe:e.length<=10000000:=qo;have HK:=(show Hi (e.Nodup/\e.Pairwise (λH u=>H<=u)/\∀k,k∈e↔(g k).isSome=true)from⟨am,de,an⟩);clear bu ao bg ad c0 am de an bk cw ai cn dv dw em
 go_wp2_with fail
 refine cm cb.o ?_;rintro h fq ⟨rfl,rfl⟩;clear cb
 go_wp2_with fail
 refine cm Zr.o ?_;rintro h w2 ⟨C,rfl,cx,ez,be⟩;have bc:=bb.qT be;have ax:=HX.o w2 bc;have d0:ca w2 lb 0 (pt xb):=aB ax.h;have cf:=(show Hi _ from qQ w2 ax.rs qo dj);have ar:=aA cx;clear c1 c2 y1 ax cx
 go_wp2_with fail
 refine cm cf.o ?_;rintro h B ⟨v3,rfl,ap,ae⟩;obtain⟨A,sc,rfl⟩:=bK ap dj;have fa:=bc.qT ae;have ce:Hi (∀(d:Nat) (r:Stp),steps[d]?=some r->B.cell? ⟨A,d*4,none⟩=some (ii r.what)/\B.cell? ⟨A,d*4+1,none⟩=some (sv r.name)/\B.cell? ⟨A,d*4+2,none⟩=some (sv r.to)/\B.cell? ⟨A,d*4+3,none⟩=some (sv r.data)):=λd r O=>by have hc:=ap.cells (g:=A) rfl;have k0:=hc _ _ (lZ steps d 0 r O qo);have k1:=hc _ _ (lZ steps d 1 r O qo);have k2:=hc _ _ (lZ steps d 2 r O qo);have k3:=hc _ _ (lZ steps d 3 r O qo);rw[i7,Z9]at k0 k1 k2 k3;exact⟨k0,k1,k2,k3⟩
 have dk:=ap.lt A rfl;have dz:=ar.o.lt;have fj:=bb.size;have fk:=be.size;have fl:=ae.size;have cj:=ar.o.qF ae;have au:Hi (∀u,OwB B C u->w.heap.size<=u/\u<w2.heap.size):=λu D=>by have:=ar.o.own (D.fr ae dz qs);exact⟨this.1,this.2.1⟩
 have ef:l≠C:=qo;have eu:A≠C:=qo;have Zs:Hi (DI B w.heap.size C bs steps 0 B):=⟨⟨eB bs,rfl,cj⟩,FrB.refl _ _⟩;have bz:Hi (∀wr,FrB C B wr->(∀q,wr.cell? ⟨A,q,none⟩=B.cell? ⟨A,q,none⟩)/\(∀q,wr.cell? ⟨l,q,none⟩=w.cell? ⟨l,q,none⟩)/\Fr [] aa wr):=λwr I=>by
  obtain⟨Z,hZ,hn⟩:=I.keep [A,l] (λu D=>by
   simp only[mem_cons,not_mem_nil,or_false]at D;obtain rfl|rfl:=D
   ·exact⟨dk.2,eu,λh=>by have:=au.o _ h;omega⟩
   exact⟨by omega,ef,λh=>by have:=au.o _ h;omega⟩)
  refine⟨λq=>hZ.cell A q dk.2 (hn A qs),λq=>(hZ.cell l q qo (hn l qs)).trans ((be.qT ae).cell l q ec qs),?_⟩;obtain⟨⟨Z',h1,h2⟩,_⟩:=I;refine(bc.qT ae).trans h2 (λu D=>.inr ?_);obtain z|z|z:=h1 u D
  ·omega
  ·have:=au.o u z;omega
  omega
 clear cf ap d0 cj Zr;go_wp2
 go_loopw [8] (fun d wr=>∃k:Nat,k<=steps.length/\d=ii k/\DI B w.heap.size C bs steps k wr) (fun d _=>steps.length-(intOf d).toNat)
 ·exact⟨0,Z3 _,rfl,Zs.o⟩
 clear Zs;obtain⟨k,M,rfl,hI⟩:=hrel
 by_cases dg:k<steps.length
 ·have dh:(k:Int)<(steps.length:Int):=qo;obtain⟨r,hs⟩:∃r,steps[k]?=some r:=⟨_,Y2 dg⟩;obtain⟨⟨bn,hE,ab⟩,ah⟩:=hI;obtain⟨D',cg,ch⟩:=DV hs hE br.o;obtain⟨b1,a1,b2,_,b3⟩:=bx.o.disk hN M hE;have CD:=DS w.heap.size C bn D' r wr ab qo (bx.o.fm r (Q8 hs)).1 (λb j=>by have:=(b3 b j).2;omega) cg;obtain⟨k0,k1,k2,k3⟩:=ce.o k r hs;have cc:=λq dn (hu:B.cell? ⟨A,q,none⟩=some dn)=>((bz.o wr ah).1 q).trans hu;have g0:=cc _ _ k0;have g1:=cc _ _ k1;have g2:=cc _ _ k2;have g3:=cc _ _ k3;obtain⟨wh,nm,ew,dt⟩:=r;obtain⟨p,F⟩:∃x:ByteArray,x=⟨nm.toArray⟩:=⟨_,rfl⟩;obtain⟨aq,I⟩:∃x:ByteArray,x=⟨ew.toArray⟩:=⟨_,rfl⟩;obtain⟨P,hC⟩:∃x:ByteArray,x=⟨dt.toArray⟩:=⟨_,rfl⟩;dsimp only[nZ,sv]at g0 g1 g2 g3 CD;rw[<-F]at g1 CD;rw[<-I]at g2 CD;rw[<-hC]at g3 CD;have bq:=aA CD;have Zt:=aA ch;have dp:=(show Hi (FrB C B wr)from ah);clear CD F I hC hE ab cg ch b1 b2 b3 cc k0 k1 k2 k3 hs
  go_wp2_with fail
  refine cm bq.o ?_;rintro h w4 ⟨rfl,ck,ds⟩;have cr:DI B w.heap.size C bs steps (k+1) w4:=⟨⟨D',Zt.o,ck⟩,dp.o.trans ds⟩;have dq:=aA cr;clear bq ck cr g0 g1 g2 g3;go_wp2;go_roundw
  ·exact⟨k+1,dg,by go_num,dq.o⟩
  simp[intOf];omega
 have dh:¬(k:Int)<(steps.length:Int):=qo;have dd:steps.take k=steps:=l8 qo;obtain⟨⟨bn,hE,ab⟩,ah⟩:=hI;rw[dd,br.o]at hE;cases hE;obtain⟨_,bl,cp⟩:=bz.o wr ah;have ai:=Zq.o;obtain⟨E,aj,r0,di⟩:∃E aj,wr.cell? ⟨C,0,none⟩=some (.slice (so E) e.length aj)/\∀(n:Nat) (b:Fl),s[n]?=some b->wr.cell? ⟨E,n*2,none⟩=some (sv b.name)/\wr.cell? ⟨E,n*2+1,none⟩=some (sv b.data):=by obtain⟨f0,ea⟩:∃b,s[0]?=some b:=⟨_,Y2 qo⟩;obtain⟨E,aj,_,_,r0,_⟩:=ab.at (k:=0) ea;refine⟨E,aj,by rw[ai];exact r0,λn b hj=>?_⟩;obtain⟨fo,fp,_,_,dm,_,r2,r3,_⟩:=ab.at (k:=n) hj;rw[r0]at dm;cases dm;exact⟨r2,r3⟩
 have dy:=aI r0;have bp:Hi (∀V,Fr [] wr V->V.cell? ⟨C,0,none⟩=some (.slice (so E) e.length aj)/\(∀(n:Nat) (b:Fl),s[n]?=some b->V.cell? ⟨E,n*2,none⟩=some (sv b.name)/\V.cell? ⟨E,n*2+1,none⟩=some (sv b.data))/\∀d k,e[d]?=some k->V.cell? ⟨l,d*2,none⟩=some (sv k)/\V.cell? ⟨l,d*2+1,none⟩=some (sv (aX g k))):=λV j=>by
  refine⟨(j.cell C 0 dy qs).trans r0,λn b hj=>?_,λd k O=>?_⟩
  ·obtain⟨H,u⟩:=di n b hj;exact⟨(j.cell E _ (aI H) qs).trans H,(j.cell E _ (aI H) qs).trans u⟩
  obtain⟨H,u⟩:=HQ.o d k O;have a':=(bl _).trans H;exact⟨(j.cell l _ (aI a') qs).trans a',(j.cell l _ (aI a') qs).trans ((bl _).trans u)⟩
 clear ab dd ce bl di ah ai
 go_wp2_with fail
 obtain⟨W5,ct⟩:∃x,x=wr:=⟨_,rfl⟩;rw[<-ct]at cp bp |-;clear ct r0 dh M
 go_loopw [10] (fun d bm=>(∃o:Nat,o<=e.length/\d=ii o)/\Fr [] W5 bm) (fun d _=>e.length-(intOf d).toNat)
 ·exact⟨⟨0,Z3 _,rfl⟩,Fr.refl _ _⟩
 obtain⟨⟨o,hn,rfl⟩,aw⟩:=hrel
 by_cases es:o<e.length
 ·have er:(o:Int)<(e.length:Int):=qo;obtain⟨i,bi⟩:∃k,e[o]?=some k:=⟨_,Y2 es⟩
  go_wp2_with fail
  obtain⟨W6,cu⟩:∃x,x=wr:=⟨_,rfl⟩;rw[<-cu]at aw |-;clear cu;obtain⟨P,hC⟩:∃p:ByteArray,p=⟨i.toArray⟩:=⟨_,rfl⟩;obtain⟨av,hX⟩:∃p:ByteArray,p=⟨(aX g i).toArray⟩:=⟨_,rfl⟩;have Q:Hi (P.toList=i/\av.toList=aX g i/\sv i=.string P/\sv (aX g i)=.string av):=⟨by rw[hC,Qk8],by rw[hX,Qk8],by rw[hC],by rw[hX]⟩;clear hC hX
  go_loopw [11,12] (fun u n bm=>∃m:Nat,m<=e.length/\n=ii m/\u=.bool ((s.take m).any fun b=>b.name==i&&b.data==aX g i)/\Fr [] W5 bm) (fun _ n _=>e.length-(intOf n).toNat)
  ·exact⟨0,Z3 _,rfl,rfl,aw⟩
  obtain⟨m,hm,rfl,D,ac⟩:=hrel;obtain⟨m0,m1,m2⟩:=bp.o wr ac;obtain⟨p0,p1⟩:=m2 o i bi;rw[Q.o.2.2.1]at p0;rw[Q.o.2.2.2]at p1
  by_cases fg:m<e.length
  ·have ep:(m:Int)<(e.length:Int):=qo;obtain⟨b,j⟩:∃b,s[m]?=some b:=⟨_,Y2 (qh Zq.o)⟩;obtain⟨Y,q1⟩:=m1 m b j;have X:(s.take (m+1)).any (λb=>b.name==i&&b.data==aX g i)=((s.take m).any (λb=>b.name==i&&b.data==aX g i)||(b.name==i&&b.data==aX g i)):=by obtain⟨h1,h2⟩:=gs.1 j;rw[Qj7 h1,List.any_append,h2];simp
   obtain⟨p,F⟩:∃p:ByteArray,p=⟨b.name.toArray⟩:=⟨_,rfl⟩;obtain⟨aq,I⟩:∃p:ByteArray,p=⟨b.data.toArray⟩:=⟨_,rfl⟩;have W:p.toList=b.name/\aq.toList=b.data:=⟨by rw[F,Qk8],by rw[I,Qk8]⟩;rw[sv,<-F]at Y;rw[sv,<-I]at q1;clear F I m1 m2;obtain⟨q,ho⟩:∃q,q=(s.take m).any (λb=>b.name==i&&b.data==aX g i):=⟨_,rfl⟩;rw[<-ho]at D X;clear ho;subst D;cases q with
   |true=>
    have ag:=aA X;clear X W;go_wp2
    go_quiet (fail)
    go_wp2;go_roundw
    ·exact⟨m+1,by omega,by go_num,by rw[ag.o];rfl,ac.drewN _⟩
    simp[intOf];omega
   |false=>
    by_cases J:p.toList=P.toList/\aq.toList=av.toList
    ·have eg:=VF J;have ag:Hi ((s.take (m+1)).any (λb=>b.name==i&&b.data==aX g i)=true):=by
      show _=_
      rw[W.1,W.2,Q.o.1,Q.o.2.1]at J;rw[X,J.1,J.2];simp
     clear X W J;go_wp2
     go_quiet (fail)
     go_wp2;go_roundw
     ·exact⟨m+1,by omega,by go_num,by rw[ag.o],ac.drewN _⟩
     simp[intOf];omega
    have eg:=VE J;have ag:Hi ((s.take (m+1)).any (λb=>b.name==i&&b.data==aX g i)=false):=by
     show _=_
     rw[W.1,W.2,Q.o.1,Q.o.2.1]at J;rw[X,Bool.false_or];exact Bool.eq_false_iff.2 (λh=>J (qu h))
    clear X W J;go_wp2
    go_quiet (fail)
    go_wp2;go_roundw
    ·exact⟨m+1,by omega,by go_num,by rw[ag.o],ac.drewN _⟩
    simp[intOf];omega
  have ep:¬(m:Int)<(e.length:Int):=qo;have az:(s.take m).any (λb=>b.name==i&&b.data==aX g i)=true:=by
   rw[l8 (qh Zq.o)];obtain⟨b,j,h⟩:=Qk7.1 ((HG.o.has i).1 ((HK.o.2.2 i).1 (Q8 bi)));obtain⟨dn,hu⟩:=HG.o.there b j;refine any_eq_true.2 ⟨b,j,?_⟩;have:aX g i=b.data:=by unfold aX;rw[<-h,hu]
   rw[this,h];simp
  rw[az]at D;subst D
  by_cases eq:o=0
  ·subst eq;clear m1 m2 az p1;go_wp2
   go_quiet (fail)
   go_wp2;go_roundw
   ·exact⟨⟨1,by omega,by go_num⟩,ac.drewN _⟩
   simp[intOf];omega
  obtain⟨z,hq⟩:∃z,o=z+1:=⟨o-1,by omega⟩;have et:(o:Int)-1=(z:Int):=qo;have fh:(0:Int)<(o:Int):=qo;have fi:(z:Int)<(e.length:Int):=qo;obtain⟨kp,bh⟩:∃k,e[z]?=some k:=⟨_,Y2 qo⟩;obtain⟨Y,_⟩:=m2 z kp bh;have df:=QM HK.o.2.1 HK.o.1 bh (by rw[<-hq];exact bi);obtain⟨p,F⟩:∃p:ByteArray,p=⟨kp.toArray⟩:=⟨_,rfl⟩;rw[sv,<-F]at Y;have ff:Op.bytesLess p.toList P.toList=true:=by rw[F,Qk8,Q.o.1];exact df
  have K0:(λf:World=>(ca f l (z*2) (.string p)/\ca f l (o*2) (.string P))/\Fr [] W5 f) wr.drew:=⟨⟨((Fr.refl [] wr).drew.cell l _ (aI Y) qs).trans Y,((Fr.refl [] wr).drew.cell l _ (aI p0) qs).trans p0⟩,ac.drew⟩;clear m1 m2 az p1 F df bh hq
  go_wp2_with fail
  refine wp_region_held_drew (S:=(λf:World=>(ca f l (z*2) (.string p)/\ca f l (o*2) (.string P))/\Fr [] W5 f)) qk K0 (λc=>?_);refine(show wpAnyH prog Region.Mode.any _ _ _ 20 (Array.replicate 20 false) _ _ from ?_)
  iterate 4 refine tn 20 c ?_
  refine tk 4 (.bool true) (by simp only[G];rfl) qk (by exact λ_ _ _ N=>N) (.inl ⟨by rfl,?_⟩) c ?_
  ·intro f du;go_simp;omega;try simp only[Act.put,Z]
  refine ta 5 c ?_;refine ta 6 c ?_;refine ta 7 c ?_;refine wpAnyH_take (i:=8) (v:=ii (z:Int)) (by simp only[G];rfl) qk qk qk (by exact λ_ _ _ N=>N) (.inl ⟨by rfl,?_⟩) c ?_
  ·intro f du;go_simp
   first|(rw[et,Zq2];omega)|(rw[Zq2];omega);try simp only[Act.put,Z]
  refine ta 9 c ?_;refine ta 10 c ?_;refine ta 11 c ?_;refine ta 12 c ?_;refine ta 13 c ?_;refine ta 14 c ?_;refine ta 15 c ?_;refine ta 16 c ?_;refine ta 17 c ?_;refine ta 18 c ?_;refine ta 19 c ?_;refine wpAnyH_done qk ?_ _;go_wp2;go_roundw
  ·exact⟨⟨o+1,by omega,by go_num⟩,c.2⟩
  simp[intOf];omega
 have er:¬(o:Int)<(e.length:Int):=qo;have cq:=cp.qT aw;have ay:=HX.o wr cq;have n0:ca wr lb 0 (pt xb):=aB ay.h;have bw:=(show Hi _ from LY wr ay.rs);clear ay
 go_wp2_with fail
 refine cm bw.o ?_;rintro h w6 ⟨g6,rfl,fd,dc,eb⟩;have ak:=cq.qT eb;have CT:=aA (λf (j:Fr [] w6 f)=>Jp g6 pb cap t f (dc.fr j qs qs) (nO R.o.ok R.o.os ⟨R.o.t0,dl⟩) R.o.ok.len);have CR:=aA (λf j=>qV gb qb cap2 t f (HX.o f (ak.qT j)).y.rg R.o.ok R.o.os ⟨R.o.t0,dl⟩);obtain⟨TX,cs⟩:∃x:ByteArray,x=⟨(aQ t).toArray⟩:=⟨_,rfl⟩;rw[<-cs]at CT CR;have HS:∀f,Fr [] w6 f->(λf:World=>(ca f lb 1 (pt yb)/\ca f yb 0 (pt gb))/\Fr [] w6 f) f:=λf j=>⟨⟨aB (HX.o f (ak.qT j)).h,aB (HX.o f (ak.qT j)).y.h⟩,j⟩;have K0:=HS w6.drew ((Fr.refl _ _).drew);clear bw dc cs n0
 go_wp2_with fail
 refine rg 16 HS K0 λc=>?_
 iterate 4 refine tn 16 c ?_
 refine ta 5 c ?_;refine ta 6 c ?_;refine ta 7 c ?_;refine ta 8 c ?_;refine ta 9 c ?_;refine ta 10 c ?_;refine ta 11 c ?_;refine rd 4 fun K hK=>?_;have af:=aA hK;clear hK;go_simp;refine cm (CT.o _ c.2) ?_;rintro h ft ⟨rfl,ee⟩;have ei:=c.2.qT ee;clear c;refine af.o _ _ (HS _ ei) (fun c=>?_);clear af K;try simp only[Act.put,Z]
 refine rd 12 fun K hK=>?_;have af:=aA hK;clear hK;go_simp;refine cm (CR.o _ c.2) ?_;rintro h fs ⟨rfl,ed⟩;have eh:=c.2.qT ed;clear c;refine af.o _ _ (HS _ eh) (fun c=>?_);clear af K;try simp only[Act.put,Z]
 iterate 3 refine tn 16 c ?_
 refine wpAnyH_done qk ?_ _;go_wp2;go_ret;exact⟨rfl,ak.qT c.2⟩
