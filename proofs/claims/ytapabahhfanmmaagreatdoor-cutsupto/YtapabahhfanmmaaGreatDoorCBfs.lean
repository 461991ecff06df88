import Derived.Test.YtapabahhfanmmaaGreatDoorCTakes
import Derived.Deep.QuietTactic
import Derived.BigQuiet
import Derived.Maps.OwnSet
import Derived.Defers
namespace Go.Proofs.YtapabahhfanmmaaGreatDoor
open Go.RowKit List Go.Proofs.Tryz
set_option maxHeartbeats 1000000
set_option maxRecDepth 100000
variable {n p:Int} {a:Nat} {w x:World}
set_option maxRecDepth 100000
def BdAt(d:World)(b:Nat)(c:Nat->Int):Prop:=∀a,a<144->d.cell? ⟨b,4+a,none⟩=some (ii (c a))
theorem BdAt.fr{S:List Nat}{b:Nat->Int}(c:BdAt w a b)(g:Fr S w x)(h:a∉S):BdAt x a b:=λe d=>by have f:=c e d;grind[Fr.cell,aI]
def ci(a b:Int):Nat:=b.toNat*12+a.toNat
theorem eN(a:aE n p=true):ci n p<144:=by grind[bX,ci]
theorem kR(b c:Int)(a:World)(d:Bool)(e:aE b c=d):Cs 201 #[cv b c] a (R0 a (.bool d)):=e ▸ Ar b c a
theorem Jh(c:Nat)(d:Nat->Int)(m:U)(a:Cm)(b:World)(h:BdAt b c d)(p:c<b.heap.size)(f:aE a.x a.y=true):Cs 157 #[pt c,m.val,a.val] b (R0 b (.bool (d (ci a.x a.y)!=10))):=by
 have l:=eN f;obtain⟨q,r,s,t⟩:=bX.1 f;have e:=h _ l;obtain⟨n,j⟩:=nm (d (ci a.x a.y));rw[<-j]at e |-;clear h j;unfold ci at e;rw[<-Y0]at e
 delta Cs;go_in
 go_wp2
 go_region_held (fun g=>g.cell? ⟨b.heap.size+1,2,none⟩=some (ii a.x)/\g.cell? ⟨b.heap.size+1,3,none⟩=some (ii a.y)/\g.cell? ⟨c,4+a.y.toNat*12+a.x.toNat,none⟩=some (ii n)) (first|(go_keep;done)|(refine⟨?_,?_,?_⟩<;>(rw[k _ _ (by first|(simp;done)|(simp;omega))];simp[*])))
  (first|(go_at_call 201;refine(kR _ _ _ _ f).mono ?_;rintro o v ⟨rfl,i⟩;obtain⟨k,u⟩:=i.qC))
 go_wp2;go_ret;exact⟨rfl,((((r0 _ _).alloc _).alloc _).drew).qT i⟩
theorem Ji(l:Nat)(k:U)(a:Cm)(d:World)(m:aE a.x a.y=false):Cs 157 #[pt l,k.val,a.val] d (R0 d (.bool false)):=by
 delta Cs;go_in
 go_wp2;refine wp_region_held (S:=λf=>f.cell? ⟨d.heap.size+1,2,none⟩=some (ii a.x)/\f.cell? ⟨d.heap.size+1,3,none⟩=some (ii a.y)) qk ?_;have e:(λf:World=>f.cell? ⟨d.heap.size+1,2,none⟩=some (ii a.x)/\f.cell? ⟨d.heap.size+1,3,none⟩=some (ii a.y)) ((d.alloc (.cells k.arr 85)).alloc (.cells #[ii a.unit,ii a.what,ii a.x,ii a.y,ii a.target] 81)).drew:=by simp
 refine ty 0 (.pointer (some ⟨d.heap.size+1,2,none⟩)) rfl ?_ e ?_
 ·intro i c;obtain⟨g,h⟩:=c;go_simp
 simp only[Act.put];refine ty 1 (ii a.x) rfl ?_ e ?_
 ·intro i c;obtain⟨g,h⟩:=c;go_simp
 simp only[Act.put];refine ty 2 (.pointer (some ⟨d.heap.size+1,3,none⟩)) rfl ?_ e ?_
 ·intro i c;obtain⟨g,h⟩:=c;go_simp
 simp only[Act.put];refine ty 3 (ii a.y) rfl ?_ e ?_
 ·intro i c;obtain⟨g,h⟩:=c;go_simp
 simp only[Act.put];refine ty 4 (.agg #[ii a.x,ii a.y]) rfl ?_ e ?_
 ·intro i c;obtain⟨g,h⟩:=c;go_simp
 simp only[Act.put];refine wpAnyH_ready (rs:=[5]) qk qs ?_;refine J1 rfl (λK hK=>?_) J2;rw[Q7 (by rfl)]
 go_wp2_with (go_at_call 201;refine(kR _ _ _ _ m).mono ?_;rintro o n ⟨rfl,j⟩)
 have b:(λf:World=>f.cell? ⟨d.heap.size+1,2,none⟩=some (ii a.x)/\f.cell? ⟨d.heap.size+1,3,none⟩=some (ii a.y)) n:=by exact⟨(j.cell (d.heap.size+1) 2 qs qs).trans e.1,(j.cell (d.heap.size+1) 3 qs qs).trans e.2⟩
 refine hK.out _ _ b (λ_=>?_);clear hK e;refine ty 6 (.bool false) rfl ?_ b ?_
 ·intro i c;obtain⟨g,h⟩:=c;go_simp
 simp only[Act.put];refine tz 7 b ?_;simp only[Act.put];refine tz 8 b ?_;simp only[Act.put];refine tz 9 b ?_;simp only[Act.put];refine tz 10 b ?_;simp only[Act.put];refine tz 11 b ?_;simp only[Act.put];refine tz 12 b ?_;simp only[Act.put];refine tz 13 b ?_;simp only[Act.put];refine tz 14 b ?_;simp only[Act.put];refine tz 15 b ?_;simp only[Act.put];refine tz 16 b ?_;simp only[Act.put];refine tz 17 b ?_;simp only[Act.put];refine ty 18 (.bool false) rfl ?_ b ?_
 ·intro i c;obtain⟨g,h⟩:=c;go_simp
 simp only[Act.put];refine ty 19 (.bool false) rfl ?_ b ?_
 ·intro i c;obtain⟨g,h⟩:=c;go_simp
 simp only[Act.put];refine wpAnyH_done qk ?_ _;go_wp2;go_ret;exact⟨rfl,((((r0 _ _).alloc _).alloc _).drew).qT j⟩
theorem zF(c:Nat)(e:Nat->Int)(f:U)(a:Cm)(b:World)(h:BdAt b c e)(g:c<b.heap.size):Cs 157 #[pt c,f.val,a.val] b (R0 b (.bool (aE a.x a.y&&(e (ci a.x a.y)!=10)))):=by
 cases d:aE a.x a.y
 ·simpa[d]using Ji c f a b d
 simpa[d]using Jh c e f a b h g d
theorem Jf(c:Nat)(d:Nat->Int)(n:U)(a:Cm)(b:World)(h:BdAt b c d)(q:c<b.heap.size)(f:aE a.x a.y=true):Cs 160 #[pt c,n.val,a.val] b (R0 b (.bool (decide (0<d (ci a.x a.y))&&decide (d (ci a.x a.y)<10)))):=by
 have m:=eN f;obtain⟨r,s,t,u⟩:=bX.1 f;have e:=h _ m;obtain⟨o,j⟩:=nm (d (ci a.x a.y));rw[<-j]at e |-;clear h j;unfold ci at e;rw[<-Y0]at e
 delta Cs;go_in
 go_wp2
 go_region_held (fun g=>g.cell? ⟨b.heap.size+1,2,none⟩=some (ii a.x)/\g.cell? ⟨b.heap.size+1,3,none⟩=some (ii a.y)/\g.cell? ⟨c,4+a.y.toNat*12+a.x.toNat,none⟩=some (ii o)) (first|(go_keep;done)|(refine⟨?_,?_,?_⟩<;>(rw[l _ _ (by first|(simp;done)|(simp;omega))];simp[*])))
  (first|(go_at_call 201;refine(kR _ _ _ _ f).mono ?_;rintro k p ⟨rfl,i⟩;obtain⟨l,v⟩:=i.qC)|(go_at_call 204;refine(GH _ _).mono ?_;rintro k p ⟨rfl,rfl⟩))
 go_wp2;go_ret;exact⟨rfl,((((r0 _ _).alloc _).alloc _).drew).qT i⟩
theorem Jg(l:Nat)(k:U)(a:Cm)(d:World)(m:aE a.x a.y=false):Cs 160 #[pt l,k.val,a.val] d (R0 d (.bool false)):=by
 delta Cs;go_in
 go_wp2;refine wp_region_held (S:=λf=>f.cell? ⟨d.heap.size+1,2,none⟩=some (ii a.x)/\f.cell? ⟨d.heap.size+1,3,none⟩=some (ii a.y)) qk ?_;have e:(λf:World=>f.cell? ⟨d.heap.size+1,2,none⟩=some (ii a.x)/\f.cell? ⟨d.heap.size+1,3,none⟩=some (ii a.y)) ((d.alloc (.cells k.arr 85)).alloc (.cells #[ii a.unit,ii a.what,ii a.x,ii a.y,ii a.target] 81)).drew:=by simp
 refine ty 0 (.pointer (some ⟨d.heap.size+1,2,none⟩)) rfl ?_ e ?_
 ·intro i c;obtain⟨g,h⟩:=c;go_simp
 simp only[Act.put];refine ty 1 (ii a.x) rfl ?_ e ?_
 ·intro i c;obtain⟨g,h⟩:=c;go_simp
 simp only[Act.put];refine ty 2 (.pointer (some ⟨d.heap.size+1,3,none⟩)) rfl ?_ e ?_
 ·intro i c;obtain⟨g,h⟩:=c;go_simp
 simp only[Act.put];refine ty 3 (ii a.y) rfl ?_ e ?_
 ·intro i c;obtain⟨g,h⟩:=c;go_simp
 simp only[Act.put];refine ty 4 (.agg #[ii a.x,ii a.y]) rfl ?_ e ?_
 ·intro i c;obtain⟨g,h⟩:=c;go_simp
 simp only[Act.put];refine wpAnyH_ready (rs:=[5]) qk qs ?_;refine J1 rfl (λK hK=>?_) J2;rw[Q7 (by rfl)]
 go_wp2_with (go_at_call 201;refine(kR _ _ _ _ m).mono ?_;rintro o n ⟨rfl,j⟩)
 have b:(λf:World=>f.cell? ⟨d.heap.size+1,2,none⟩=some (ii a.x)/\f.cell? ⟨d.heap.size+1,3,none⟩=some (ii a.y)) n:=by exact⟨(j.cell (d.heap.size+1) 2 qs qs).trans e.1,(j.cell (d.heap.size+1) 3 qs qs).trans e.2⟩
 refine hK.out _ _ b (λ_=>?_);clear hK e;refine ty 6 (.bool false) rfl ?_ b ?_
 ·intro i c;obtain⟨g,h⟩:=c;go_simp
 simp only[Act.put];refine tz 7 b ?_;simp only[Act.put];refine tz 8 b ?_;simp only[Act.put];refine tz 9 b ?_;simp only[Act.put];refine tz 10 b ?_;simp only[Act.put];refine tz 11 b ?_;simp only[Act.put];refine tz 12 b ?_;simp only[Act.put];refine tz 13 b ?_;simp only[Act.put];refine tz 14 b ?_;simp only[Act.put];refine tz 15 b ?_;simp only[Act.put];refine tz 16 b ?_;simp only[Act.put];refine tz 17 b ?_;simp only[Act.put];refine ty 18 (.bool false) rfl ?_ b ?_
 ·intro i c;obtain⟨g,h⟩:=c;go_simp
 simp only[Act.put];refine ty 19 (.bool false) rfl ?_ b ?_
 ·intro i c;obtain⟨g,h⟩:=c;go_simp
 simp only[Act.put];refine wpAnyH_done qk ?_ _;go_wp2;go_ret;exact⟨rfl,((((r0 _ _).alloc _).alloc _).drew).qT j⟩
theorem Je(c:Nat)(d:Nat->Int)(f:U)(a:Cm)(b:World)(h:BdAt b c d)(g:c<b.heap.size):Cs 160 #[pt c,f.val,a.val] b (R0 b (.bool (aE a.x a.y&&(decide (0<d (ci a.x a.y))&&decide (d (ci a.x a.y)<10))))):=by
 cases e:aE a.x a.y
 ·simpa[e]using Jg c f a b e
 simpa[e]using Jf c d f a b h g e
variable {X:List U} {C:U}
def look(b:List U)(id:Int):Option U:=b.find? (λa=>a.id==id)
theorem IE{id:Int}(b:∀a∈X,a.id≠id):look X id=none:=by grind[look]
theorem wR(f:Rise X)(b:X[a]?=some C):look X C.id=some C:=by unfold look;obtain⟨e,c⟩:=gs.1 b;rw[Y1];refine⟨by simp,a,e,c,λg d=>?_⟩;have:=f.lt (Y2 (show g<X.length by omega)) b d;grind
def iC(b:List U)(a:Int)(id:Int):Bool:=match look b id with|some t=>t.owner !=a|none=>false
theorem OV(f m i:Nat)(a:List U)(b:U)(d:Cm)(c:World)(h:GV c f m i a)(r:Rise a):Cs 163 #[pt f,b.val,d.val] c (R0 c (.bool (iC a b.owner d.target))):=by
 delta Cs;go_in
 go_wp2_with fail
 refine(EA f m i a d.target _ (h.qF (((r0 _ _).alloc _).alloc _)) r).mono ?_;rintro H u ⟨s,I,rfl,j,q⟩;have g:=(((r0 [] c).alloc _).alloc _).qT j;have k:=h.qF g;have hown:ca u c.heap.size 1 (ii b.owner):=aB (j.qH (dW c _ _));have J:=k.c;have M:=h.len;obtain⟨rfl,t,l,aA⟩|⟨rfl,n⟩:=q
 ·have e:Hi (iC a b.owner d.target=(t.owner !=b.owner)):=by
   show iC _ _ _=_
   grind[iC,wR]
  have L:s<a.length:=qg;obtain⟨v,w,y,z,A,B,C,D,E,F,x⟩:=k.p.at l;clear aA l;go_wp2
  go_quiet (fail)
  go_wp2;go_ret;exact⟨by rw[e.o];rfl,g.drewN _⟩
 have e:Hi (iC a b.owner d.target=false):=by
  show iC _ _ _=_
  grind[iC,IE]
 clear n;go_wp2
 go_quiet (fail)
 go_wp2;go_ret;exact⟨by rw[e.o];rfl,g.drewN _⟩
variable {S:List Nat} {R:List Value} {H:TypeId} {v:Value} {y:World}
theorem Fr.grown{row:Option Nat}(a:Fr S w x)(b:x.grownBy y row)(g:∀c,row=some c->c∈S\/w.heap.size<=c):Fr S w y:=
 ⟨b.os.trans a.os,b.tape.trans a.tape,b.output.trans a.output,Y3 a.size b.size,λe d f=>(b.block e (Z1 d a.size) qg).trans (a.block e d f)⟩
theorem cM{base:Nat}{size:Nat}(f:w.ownsRow base H size v a R)(i:Fr S w x)(k:∀b,v.ownBlock=some b->b∉S):x.ownsRow base H size v a R:=by
 obtain⟨g,c⟩:=f;refine⟨g,?_⟩;obtain c|⟨b,d,e,rfl,h,j,l⟩:=c
 ·grind
 exact .inr ⟨b,d,e,rfl,h,i.heap j (k b rfl),l⟩
theorem sY{base:Nat}{size:Nat}(d:w.ownsRow base H size v a R):∀b,v.ownBlock=some b->base<=b:=by
 obtain⟨_,e⟩:=d;obtain⟨rfl,_⟩|⟨h,f,g,rfl,i,_⟩:=e
 ·intro b c;simp[Value.ownBlock]at c
 intro b c;simp[Value.ownBlock]at c;omega
theorem mI(b:World)(e:List Value)(g:TypeId)(d:Nat)(f:b.heap.size=d):∀a c,e[a]?=some c->(b.alloc (.cells e.toArray g)).cell? ((⟨d,0,none⟩:Addr).add a)=some c:=by
 intro a c h;subst f;have:((⟨b.heap.size,0,none⟩:Addr).add a)=⟨b.heap.size,a,none⟩:=by unfold Addr.add;grind
 simp_all
def sds:List (Int×Int):=[(0,-1),(1,0),(0,1),(-1,0)]
def aL(c d:Int):List (Int×Int):=(sds.map λb=>(c+b.1,d+b.2)).filter λa=>aE a.1 a.2
abbrev fT(b:List (Int×Int)):List Value:=b.flatMap λa=>[ii a.1,ii a.2]
theorem wG:(prog.info? 159).map (λa=>(a.zero,a.size,a.bytes))=some (some (cv 0 0),2,16):=qk
def bC(d e:Int)(c:Nat):List (Int×Int):=((sds.take c).map λb=>(d+b.1,e+b.2)).filter λa=>aE a.1 a.2
theorem sS(a b:Int):bC a b 4=aL a b:=rfl
theorem qH(b c:Int)(a:Nat):(bC b c a).length<=a:=by grind[bC]
theorem mP(b c:Int)(d:Nat)(a:Int×Int)(e:sds[d]?=some a)(f:aE (b+a.1) (c+a.2)=true):bC b c (d+1)=bC b c d++[(b+a.1,c+a.2)]:=by grind[gs,bC,take_succ_eq_append_getElem]
theorem mO(c d:Int)(a:Nat)(b:Int×Int)(e:sds[a]?=some b)(f:aE (c+b.1) (d+b.2)=false):bC c d (a+1)=bC c d a:=by grind[gs,bC,take_succ_eq_append_getElem]
theorem wZ(a b:Int)(f:World)(N:Sd f)(R:-1000<=a)(S:a<=1000)(V:-1000<=b)(W:b<=1000):Cs 198 #[cv a b] f λu O=>∃B,u=.returned B/\Fr [] f O/\O.ownsRow (f.heap.size+1) 159 2 B (aL a b).length (fT (aL a b)):=by
 obtain⟨s0,s1,s2,s3,s4,s5,s6,s7⟩:=N.cells;have Y:=N.pos;obtain⟨A,w,x,y,z⟩:=Z2 wG
 delta Cs;go_in
 go_wp2
 go_loopw [3,8] (fun B J wr=>∃n:Nat,n<=4/\J=ii n/\Fr [] (f.alloc (.cells #[ii a,ii b] 159)) wr/\wr.ownsRow (f.heap.size+1) 159 2 B (bC a b n).length (fT (bC a b n))) (fun _ J _=>4-(intOf J).toNat)
 ·exact⟨0,by omega,rfl,r0 _ _,rfl,.inl ⟨rfl,rfl⟩⟩
 obtain⟨n,X,rfl,t,hown⟩:=hrel;have v:=t.qH (aC f _);have P:ca wr f.heap.size 0 (ii a):=aB v;have Q:ca wr f.heap.size 1 (ii b):=aB v;have aa:=aH v;clear v;have i0:=NP;have i1:=NQ;have i2:=NR;have i3:=NS;rcases(show n=0\/n=1\/n=2\/n=3\/n=4 by omega)with rfl|rfl|rfl|rfl|rfl
 ·obtain⟨l,m⟩:=nn (aE a (b+-1));have g:=aA m;clear m;have H:=qH a b 0
  go_wp2_with fail
  refine(kR _ _ _ l g.o).mono ?_;rintro u c ⟨rfl,i⟩;have j:=((t.alloc _).alloc _).qT i;have k:=cM hown (((r0 [] wr).alloc _).alloc _ |>.qT i) qs;have e:=i.qH (cZ wr _ _);have D:ca c (wr.heap.size+1) 0 (ii a):=aB e;have E:ca c (wr.heap.size+1) 1 (ii (b+-1)):=aB e;have F:f.heap.size+1<=c.heap.size:=by have:=j.size;simp at this;omega
  have C:=aA e;clear e;cases l
  ·have d:=mO a b 0 (0,(-1)) rfl (qu g.o);have h:=aA d;clear d;go_wp2;go_roundw
   ·exact⟨0+1,by omega,rfl,j,by rw[h.o];exact k⟩
   simp[intOf]
  have d:bC a b (0+1)=bC a b 0++[(a,(b+-1))]:=by rw[mP a b 0 (0,(-1)) rfl (qu g.o)];simp
  have h:=aA d;clear d
  go_wp2_with (first
   |(at_builtin;refine wpList_append_own _ rfl _ _ 269 rfl (f.heap.size+1) 159 A (cv 0 0) 2 16 Y4 w x y z rfl qd _ _ _ rfl (cM k ((r0 [] c).alloc _) qs) ⟨c.heap.size,0,none⟩ 1 1 [ii a,ii (b+-1)] rfl rfl (mI c [ii a,ii (b+-1)] _ _ rfl) qc qm qo qt ?_;intro L M q p I)
   |fail)
  go_roundw
  ·exact⟨0+1,by omega,rfl,(j.alloc _).grown p (λs r=>.inr (by have:=sY k s r;simp;omega)),by rw[h.o];simpa[fT]using q⟩
  simp[intOf]
 ·obtain⟨l,m⟩:=nn (aE (a+1) b);have g:=aA m;clear m;have H:=qH a b 1
  go_wp2_with fail
  refine(kR _ _ _ l g.o).mono ?_;rintro u c ⟨rfl,i⟩;have j:=((t.alloc _).alloc _).qT i;have k:=cM hown (((r0 [] wr).alloc _).alloc _ |>.qT i) qs;have e:=i.qH (cZ wr _ _);have D:ca c (wr.heap.size+1) 0 (ii (a+1)):=aB e;have E:ca c (wr.heap.size+1) 1 (ii b):=aB e;have F:f.heap.size+1<=c.heap.size:=by have:=j.size;simp at this;omega
  have C:=aA e;clear e;cases l
  ·have d:=mO a b 1 (1,0) rfl (qu g.o);have h:=aA d;clear d;go_wp2;go_roundw
   ·exact⟨1+1,by omega,rfl,j,by rw[h.o];exact k⟩
   simp[intOf]
  have d:bC a b (1+1)=bC a b 1++[((a+1),b)]:=by rw[mP a b 1 (1,0) rfl (qu g.o)];simp
  have h:=aA d;clear d
  go_wp2_with (first
   |(at_builtin;refine wpList_append_own _ rfl _ _ 269 rfl (f.heap.size+1) 159 A (cv 0 0) 2 16 Y4 w x y z rfl qd _ _ _ rfl (cM k ((r0 [] c).alloc _) qs) ⟨c.heap.size,0,none⟩ 1 1 [ii (a+1),ii b] rfl rfl (mI c [ii (a+1),ii b] _ _ rfl) qc qm qo qt ?_;intro L M q p I)
   |fail)
  go_roundw
  ·exact⟨1+1,by omega,rfl,(j.alloc _).grown p (λs r=>.inr (by have:=sY k s r;simp;omega)),by rw[h.o];simpa[fT]using q⟩
  simp[intOf]
 ·obtain⟨l,m⟩:=nn (aE a (b+1));have g:=aA m;clear m;have H:=qH a b 2
  go_wp2_with fail
  refine(kR _ _ _ l g.o).mono ?_;rintro u c ⟨rfl,i⟩;have j:=((t.alloc _).alloc _).qT i;have k:=cM hown (((r0 [] wr).alloc _).alloc _ |>.qT i) qs;have e:=i.qH (cZ wr _ _);have D:ca c (wr.heap.size+1) 0 (ii a):=aB e;have E:ca c (wr.heap.size+1) 1 (ii (b+1)):=aB e;have F:f.heap.size+1<=c.heap.size:=by have:=j.size;simp at this;omega
  have C:=aA e;clear e;cases l
  ·have d:=mO a b 2 (0,1) rfl (qu g.o);have h:=aA d;clear d;go_wp2;go_roundw
   ·exact⟨2+1,by omega,rfl,j,by rw[h.o];exact k⟩
   simp[intOf]
  have d:bC a b (2+1)=bC a b 2++[(a,(b+1))]:=by rw[mP a b 2 (0,1) rfl (qu g.o)];simp
  have h:=aA d;clear d
  go_wp2_with (first
   |(at_builtin;refine wpList_append_own _ rfl _ _ 269 rfl (f.heap.size+1) 159 A (cv 0 0) 2 16 Y4 w x y z rfl qd _ _ _ rfl (cM k ((r0 [] c).alloc _) qs) ⟨c.heap.size,0,none⟩ 1 1 [ii a,ii (b+1)] rfl rfl (mI c [ii a,ii (b+1)] _ _ rfl) qc qm qo qt ?_;intro L M q p I)
   |fail)
  go_roundw
  ·exact⟨2+1,by omega,rfl,(j.alloc _).grown p (λs r=>.inr (by have:=sY k s r;simp;omega)),by rw[h.o];simpa[fT]using q⟩
  simp[intOf]
 ·obtain⟨l,m⟩:=nn (aE (a+-1) b);have g:=aA m;clear m;have H:=qH a b 3
  go_wp2_with fail
  refine(kR _ _ _ l g.o).mono ?_;rintro u c ⟨rfl,i⟩;have j:=((t.alloc _).alloc _).qT i;have k:=cM hown (((r0 [] wr).alloc _).alloc _ |>.qT i) qs;have e:=i.qH (cZ wr _ _);have D:ca c (wr.heap.size+1) 0 (ii (a+-1)):=aB e;have E:ca c (wr.heap.size+1) 1 (ii b):=aB e;have F:f.heap.size+1<=c.heap.size:=by have:=j.size;simp at this;omega
  have C:=aA e;clear e;cases l
  ·have d:=mO a b 3 ((-1),0) rfl (qu g.o);have h:=aA d;clear d;go_wp2;go_roundw
   ·exact⟨3+1,by omega,rfl,j,by rw[h.o];exact k⟩
   simp[intOf]
  have d:bC a b (3+1)=bC a b 3++[((a+-1),b)]:=by rw[mP a b 3 ((-1),0) rfl (qu g.o)];simp
  have h:=aA d;clear d
  go_wp2_with (first
   |(at_builtin;refine wpList_append_own _ rfl _ _ 269 rfl (f.heap.size+1) 159 A (cv 0 0) 2 16 Y4 w x y z rfl qd _ _ _ rfl (cM k ((r0 [] c).alloc _) qs) ⟨c.heap.size,0,none⟩ 1 1 [ii (a+-1),ii b] rfl rfl (mI c [ii (a+-1),ii b] _ _ rfl) qc qm qo qt ?_;intro L M q p I)
   |fail)
  go_roundw
  ·exact⟨3+1,by omega,rfl,(j.alloc _).grown p (λs r=>.inr (by have:=sY k s r;simp;omega)),by rw[h.o];simpa[fT]using q⟩
  simp[intOf]
 go_wp2;go_ret;exact⟨_,rfl,((r0 _ _).alloc _).qT t,hown⟩
variable {b:Nat}
theorem UV(a b c d:Int)(e:World):(Op.equal 159 (cv a b) (cv c d)).run prog e=.ok (a==c&&b==d) e:=by
 have f:=vK a b c d e;rw[show binOp BinOp.eql 159 (cv a b) (cv c d)=(Op.equal 159 (cv a b) (cv c d) >>= λg=>pure (.bool g))from rfl,X2]at f;cases i:(Op.equal 159 (cv a b) (cv c d)).run prog e with
 |ok j h=>simp_all
 |halt k h=>simp_all
theorem oE(d:Bool)(b c:Int)(a:World):(Instr.checkKey d 10000 159 (cv b c)).run prog a=.ok () a:=qk
theorem Hu(a b:Int)(c:World):(Instr.keyThatStays (cv a b) (cv a b)).run prog c=.ok (cv a b) c:=by
 have:Instr.sameBits 10000 (cv a b) (cv a b)=true:=by simp[Instr.sameBits]
 simp[Instr.keyThatStays,this]
theorem AN(f g:Int)(i:World):∀(d:List ((Int×Int)×Value)) (e:List MapEntry) (c:Nat),e.map (λh=>(h.key,h.val))=d.map (λa=>(cv a.1.1 a.1.2,a.2)) ->(Instr.findAsking 159 (cv f g) e c).run prog i=.ok (match d.findIdx? (λa=>a.1==(f,g)) with|some j=>some (c+j,((d[j]?).map (·.2)).getD undef)|none=>none) i
 |[],[],c,_=>by simp[Instr.findAsking]
 |[],_::_,_,b=>by simp at b
 |_::_,[],_,b=>by simp at b
 |a::d,h::e,c,b=>by
  simp only[map_cons,cons.injEq,Prod.mk.injEq]at b;obtain⟨⟨k,n⟩,l⟩:=b;have o:=AN f g i d e (c+1) l;simp only[Instr.findAsking,k,Sem.run_bind,UV,Result.andThen_ok,findIdx?_cons]
  by_cases m:a.1=(f,g)
  ·simp_all
  grind
theorem rX(e f:Int)(g:World)(c:List ((Int×Int)×Value))(a:List MapEntry)(h:a.map (λb=>(b.key,b.val))=c.map (λd=>(cv d.1.1 d.1.2,d.2))):(Instr.findKey 159 (cv e f) a).run prog g=.ok (match c.findIdx? (λd=>d.1==(e,f)) with|some j=>some (j,((c[j]?).map (·.2)).getD undef)|none=>none) g:=by
 unfold Instr.findKey;rw[X2,run_underlying Y8];simp only[Result.andThen_ok];cases a with
 |nil=>
  cases c with
  |nil=>simp[Instr.findNow]
  |cons _ _=>simp at h
 |cons b a=>
  have i:Instr.findNow (.struct #[{name := "X",type:=3,offset:=0,embedded:=false,tag := "",pkgPath := "",byteOffset:=0},{name := "Y",type:=3,offset:=1,embedded:=false,tag := "",pkgPath := "",byteOffset:=8}]) (cv e f) (b::a) 0=none:=by simp[Instr.findNow,Instr.sameNow]
  rw[i];simp only;have:=AN e f g c (b::a) 0 h;simpa using this
theorem lQ{e:Type}(b:e->Bool):∀(a:List e),(∃d c,a.findIdx? b=some d/\a[d]?=some c/\b c=true/\a.find? b=some c)\/(a.findIdx? b=none/\a.find? b=none)
 |[]=>qg
 |f::a=>by
  cases k:b f with
  |true=>grind
  |false=>
   obtain⟨d,c,g,h,i,j⟩|⟨g,h⟩:=lQ b a
   ·grind
   grind
def MapF(h:World)(g:Nat)(f:Int×Int->Option Value):Prop:=
 ∃(b:List ((Int×Int)×Value)) (d:Array MapEntry) (clock:Nat),h.heap[g]?=some (.map d clock)/\d.toList.map (λc=>(c.key,c.val))=b.map (λa=>(cv a.1.1 a.1.2,a.2)) /\
  (b.map (·.1)).Nodup/\∀e,(b.find? (λa=>a.1==e)).map (·.2)=f e
theorem MapF.fr{S:List Nat}{b:Int×Int->Option Value}(e:MapF w a b)(g:Fr S w x)(h:a∉S):MapF x a b:=by obtain⟨i,d,c,f,j⟩:=e;exact⟨i,d,c,g.heap f h,j⟩
theorem MapF.lt{b:Int×Int->Option Value}(c:MapF w a b):a<w.heap.size:=by obtain⟨g,e,d,f,h⟩:=c;grind
theorem MapF.made{clock:Nat}(b:w.heap[a]?=some (.map #[] clock)):MapF w a (λ_=>none):=
  ⟨[],#[],clock,b,rfl,by simp,by simp⟩
theorem MapF.look{d:Int×Int->Option Value}(m:MapF w a d)(j g:TypeId)(s:prog.underlying j=some (.map 159 g))(k:Value)(t:(zeroValue g).run prog w=.ok k w)(b c:Int):(Instr.lookup j (.map (some a)) (cv b c) true).run prog w=.ok (.tuple #[(d (b,c)).getD k,.bool (d (b,c)).isSome]) w:=by
 obtain⟨h,l,u,o,r,_,p⟩:=m;rw[<-p (b,c)];have q:=rX b c w h l.toList r;simp only[Instr.lookup,Sem.run_bind,run_underlying s,Result.andThen_ok,MapKept.run_getObj_map o,Sem.run_pure,oE,q];rcases lQ (λi:(Int×Int)×Value=>i.1==(b,c)) h with⟨x,i,e,f,v,n⟩|⟨e,f⟩
 ·rw[e,n];simp[f]
 rw[e,f];simp[t]
theorem MapF.look1{g:Int×Int->Option Value}(m:MapF w a g)(j f:TypeId)(s:prog.underlying j=some (.map 159 f))(k:Value)(t:(zeroValue f).run prog w=.ok k w)(b c:Int):(Instr.lookup j (.map (some a)) (cv b c) false).run prog w=.ok ((g (b,c)).getD k) w:=by
 obtain⟨h,l,u,o,r,_,p⟩:=m;rw[<-p (b,c)];have q:=rX b c w h l.toList r;simp only[Instr.lookup,Sem.run_bind,run_underlying s,Result.andThen_ok,MapKept.run_getObj_map o,Sem.run_pure,oE,q];rcases lQ (λi:(Int×Int)×Value=>i.1==(b,c)) h with⟨x,i,d,e,v,n⟩|⟨d,e⟩
 ·rw[d,n];simp[e]
 rw[d,e];simp[t]
theorem Fr.setObj(a:Fr S w x)(b:Nat)(c:Obj)(d:b∈S\/w.heap.size<=b):Fr S w {x with heap:=x.heap.setIfInBounds b c}:=
  ⟨a.os,a.tape,a.output,by simpa using a.size,(by grind[Array.getElem?_setIfInBounds_ne,Fr.block])⟩
theorem Ad{c:List ((Int×Int)×Value)}(i:(c.map (·.1)).Nodup){d e:(Int×Int)×Value}(f:c[a]?=some d)(g:c[b]?=some e)(h:d.1=e.1):a=b:=by grind[pairwise_iff_getElem]
def oR(c:List ((Int×Int)×Value))(a:Int×Int)(d:Value):List ((Int×Int)×Value):=c.map λb=>if b.1=a then(a,d)else b
theorem ZR(a:List ((Int×Int)×Value))(b:Int×Int)(c:Value):(oR a b c).map (·.1)=a.map (·.1):=by grind[oR,map_map,map_congr_left]
theorem ZQ(d:List ((Int×Int)×Value))(c b:Int×Int)(e:Value):((oR d c e).find? (λa=>a.1==b)).map (·.2)=if b=c then(d.find? (λa=>a.1==c)).map (λ_=>e)else(d.find? (λa=>a.1==b)).map (·.2):=by
 unfold oR;rw[find?_map];have g:((λa:(Int×Int)×Value=>a.1==b) ∘ λa=>if a.1=c then(c,e)else a)=λa=>a.1==b:=by grind
 rw[g]
 split
 ·subst b;cases f:d.find? (λa=>a.1==c)with
  |none=>simp
  |some a=>grind
 rename_i h
 cases f:d.find? (λa=>a.1==b)with
 |none=>simp
 |some a=>grind
theorem qC{d e:Type}(c:d->e):∀(b:List d) (a:Nat),(b.eraseIdx a).map c=(b.map c).eraseIdx a
 |[],_=>by simp
 |_::_,0=>by simp
 |f::b,a+1=>by simp[qC c b a]
theorem DW(d:Int×Int):∀(a:List ((Int×Int)×Value)) (e:Nat),(a.map (·.1)).Nodup->a.findIdx? (λb=>b.1==d)=some e->a.eraseIdx e=a.filter λb=>b.1 !=d
 |[],_,_,c=>by grind
 |b::a,e,f,c=>by
  simp only[map_cons,nodup_cons]at f;rw[findIdx?_cons]at c
  by_cases j:b.1=d
  ·grind[filter_eq_self]
  have h:(b.1==d)=false:=qg;rw[h]at c;simp only[Bool.false_eq_true,if_false,Option.map_eq_some_iff]at c;obtain⟨i,g,rfl⟩:=c;rw[filter_cons_of_pos qg,eraseIdx_cons_succ,DW d a i f.2 g]
theorem MapF.update{x:Int×Int->Option Value}(E:MapF w a x)(C g:TypeId)(A:prog.underlying C=some (.map 159 g))(b c:Int)(f:Value):∃m,(Instr.mapUpdate C (.map (some a)) (cv b c) f).run prog w=.ok () {w with heap:=w.heap.setIfInBounds a m}/\MapF {w with heap:=w.heap.setIfInBounds a m} a (λB=>if B=(b,c)then some f else x B):=by
 obtain⟨j,d,i,l,s,I,N⟩:=E;have P:=aH l;have y:=rX b c w j d.toList s;have z:∀m,({w with heap:=w.heap.setIfInBounds a m}:World).heap[a]?=some m:=qg;rcases lQ (λv:(Int×Int)×Value=>v.1==(b,c)) j with⟨e,v,p,k,L,M⟩|⟨p,k⟩
 ·have t:v.1=(b,c):=qg;have O:e<j.length:=qg;have H:(d[e]?).map (·.key)=some (cv b c):=by
   have:=V3 (λn=>n[e]?) s;simp only[getElem?_map,k,Option.map_some]at this;have F:d[e]?=d.toList[e]?:=qs;rw[F];cases o:d.toList[e]? with
   |none=>simp[o]at this
   |some D=>rw[o]at this;simp only[Option.map_some,Option.some.injEq,Prod.mk.injEq]at this;simp[this.1,t]
  refine⟨.map (d.modify e λg=>{g with key:=cv b c,val:=f}) i,?_,oR j (b,c) f,d.modify e λg=>{g with key:=cv b c,val:=f},i,z _,?_,?_,?_⟩
  ·simp[Instr.mapUpdate,run_underlying A,MapKept.run_getObj_map l,oE,y,p,H,Hu,MapKept.run_setObj_map _ l,Result.andThen]
  ·apply V8;intro u;have h:=V3 (λn=>n[u]?) s;simp only[getElem?_map,oR,Array.getElem?_toList,Array.getElem?_modify]at h |-
   by_cases r:e=u
   ·subst r;rw[Q7 rfl,k];rw[k]at h;cases o:d[e]? with
    |none=>simp[o]at h
    |some D=>simp[t]
   rw[Z0 r];cases q:j[u]? with
   |none=>rw[q]at h;simpa using h
   |some n=>have J:¬n.1=(b,c):=λg=>r (Ad I k q (t.trans g.symm));rw[q]at h;simpa[J]using h
  ·grind[ZR]
  simp_all[ZQ]
 refine⟨.map (d.push {key:=cv b c,val:=f,born:=i}) (i+1),?_,j++[((b,c),f)],d.push {key:=cv b c,val:=f,born:=i},i+1,z _,?_,?_,?_⟩
 ·simp[Instr.mapUpdate,run_underlying A,MapKept.run_getObj_map l,oE,y,p,MapKept.run_setObj_map _ l,Result.andThen]
 ·grind
 ·grind
 grind
theorem MapF.del{m:Int×Int->Option Value}(u:MapF w a m)(s ty x t:TypeId)(q:prog.underlying s=some (.map 159 t))(b c:Int):∃g,(Builtin.delete_ #[s,x] ty #[.map (some a),cv b c]).run prog w=.ok (.tuple #[]) {w with heap:=w.heap.setIfInBounds a g}/\MapF {w with heap:=w.heap.setIfInBounds a g} a (λr=>if r=(b,c)then none else m r):=by
 obtain⟨f,d,h,e,k,o,A⟩:=u;have B:=aH e;have n:=rX b c w f d.toList k;have p:∀g,({w with heap:=w.heap.setIfInBounds a g}:World).heap[a]?=some g:=qg;rcases lQ (λj:(Int×Int)×Value=>j.1==(b,c)) f with⟨l,j,i,v,y,z⟩|⟨i,v⟩
 ·refine⟨.map (d.eraseIdxIfInBounds l) h,?_,f.filter (λj=>j.1 !=(b,c)),d.eraseIdxIfInBounds l,h,p _,?_,?_,?_⟩
  ·simp[Builtin.delete_,run_underlying q,MapKept.run_getObj_map e,oE,n,i,MapKept.run_setObj_map _ e,Result.andThen]
  ·rw[<-DW (b,c) f l o i,Array.toList_eraseIdxIfInBounds,qC,qC,k]
  ·grind
  grind
 refine⟨.map d h,?_,f,d,h,p _,k,o,?_⟩
 ·simp[Builtin.delete_,run_underlying q,MapKept.run_getObj_map e,oE,n,i,MapKept.run_setObj_map _ e,Result.andThen]
 grind
theorem MapF.clear{g:Int×Int->Option Value}(h:MapF w a g)(e ty f:TypeId)(i:prog.underlying e=some (.map 159 f)):∃d,(Builtin.clear_ #[e] ty #[.map (some a)]).run prog w=.ok (.tuple #[]) {w with heap:=w.heap.setIfInBounds a d}/\MapF {w with heap:=w.heap.setIfInBounds a d} a (λ_=>none):=by
 obtain⟨o,j,c,b,l,n,k⟩:=h;have m:=aH b;refine⟨.map #[] c,?_,MapF.made (clock:=c) ?_⟩
 ·simp[Builtin.clear_,run_underlying i,MapKept.run_getObj_map b,MapKept.run_setObj_map _ b,Result.andThen]
 grind
variable {d:Nat}
structure TV (w:World) (tb hb:Nat) (held:Int×Int->Option Value) (bd:Nat->Int):Prop where
 c:w.cell? ⟨tb,149,none⟩=some (.map (some hb))
 m:MapF w hb held
 b:BdAt w tb bd
theorem TV.fr{S:List Nat}{held:Int×Int->Option Value}{g:Nat->Int}(e:TV w a d held g)(f:Fr S w x)(h:a∉S)(i:d∉S):TV x a d held g:=
  ⟨by rw[f.cell a _ (aI e.c) h];exact e.c,e.m.fr f i,e.b.fr f h⟩
def cR(held:Int×Int->Option Value)(c:Nat->Int)(a b:Int):Bool:= !(held (a,b)).isSome&&c (ci a b)==0
theorem PK(a:World):(zeroValue 3).run prog a=.ok (ii 0) a:=qk
theorem uD(a:World):(zeroValue 159).run prog a=.ok (cv 0 0) a:=qk
theorem vV(u j:Nat)(held:Int×Int->Option Value)(g:Nat->Int)(a d:Int)(f:World)(h:TV f u j held g)(p:aE a d=true):Cs 199 #[pt u,cv a d] f (R0 f (.bool (cR held g a d))):=by
 have q:∀i e,(Instr.lookup 205 (.map (some j)) (cv a d) true).run prog ((f.alloc e).drewN i)=.ok (.tuple #[(held (a,d)).getD (ii 0),.bool (held (a,d)).isSome]) ((f.alloc e).drewN i):=λi e=>(h.m.fr (((r0 [] f).alloc e).drewN i) qs).look _ _ j9 _ (PK _) a d
 have r:∀e,(Instr.lookup 205 (.map (some j)) (cv a d) true).run prog ((f.alloc e).drew)=.ok (.tuple #[(held (a,d)).getD (ii 0),.bool (held (a,d)).isSome]) ((f.alloc e).drew):=λe=>(h.m.fr (((r0 [] f).alloc e).drew) qs).look _ _ j9 _ (PK _) a d
 have w:=eN p;obtain⟨z,A,B,C⟩:=bX.1 p;have k:=h.b _ w;have v:=h.c;have y:=aI v;obtain⟨x,s⟩:=nm (g (ci a d));rw[<-s]at k;obtain⟨D,t⟩:=nm ((held (a,d)).getD (ii 0));rw[<-t]at q r;obtain⟨l,o⟩:=nm ((held (a,d)).isSome);rw[<-o]at q r;have n:Hi (cR held g a d=(!l&&x==0)):=by show cR held g a d=_;grind[cR]
 clear s t o;unfold ci at k;rw[<-Y0]at k;cases l
 ·delta Cs;go_in
  go_wp2
  go_quiet (fail)
  go_wp2
  go_quiet (fail)
  go_wp2;go_ret;exact⟨by rw[n.o];rfl,by grind[r0,Fr.drewN,Fr.alloc]⟩
 delta Cs;go_in
 go_wp2
 go_quiet (fail)
 go_wp2
 go_quiet (fail)
 go_wp2;go_ret;exact⟨by rw[n.o];rfl,by grind[r0,Fr.drewN,Fr.alloc]⟩
theorem OC{P:Program}{fr:Frame}{cs:List Frame}{w w':World}{args:Array Value}{ds:List Deferred}{b:Builtin}{at_:Array TypeId}{ty:TypeId}{consts:Array Bool}{v:Value}(hm:fr.mode=.returning)(hd:fr.defers={target:=.builtin b at_ ty consts,args}::ds)(hi:(invoke (.builtin b at_ ty consts) args).run P w=.ok (.value v) w'):step P (lone fr cs w)=.next (lone {fr with defers:=ds} cs w'):=by refine step_lone_go ?_;simp[stepG,unwind,callDeferred,hm,hd,hi]
def RO(P:Program)(fn:Func)(R:Ending->World->Prop):Exit->Act->World->Prop
 |.normal,a,w|.ret,a,w=>∃b at_ ty consts args v0 w',a.defers=[{target:=.builtin b at_ ty consts,args}]/\(invoke (.builtin b at_ ty consts) args).run P w=.ok (.value v0) w'/\∃v,(results fn a.tmps).run P w'=.ok v w'/\R (.returned v) w'
 |.outgrown,_,w=>R .outgrown w
 |_,_,_=>False
theorem CL{P:Program}{f:FuncId}{fn:Func}{c:Code}{args:Array Value}{w:World}{R:Ending->World->Prop}(hf:P.funcs[f]?=some fn)(hb:fn.body=some c)(h:c.wp P (RO P fn R) {tmps:=args++Array.replicate (fn.ntmps-args.size) undef,defers:=[]} w):Calls P f args w R:=by
 intro cs
 let b:Frame:={(default:Frame)with fn:=f,kind:=.normal}
 have henter:Frame.enter P f args .normal =
   b.at {tmps:=args++Array.replicate (fn.ntmps-args.size) undef,defers:=[]} [.code c]:=by simp[Frame.enter,Frame.at,hf,hb,b]
 obtain⟨e,a',w',hq,harr⟩:=h b [] cs;rw[<-henter]at harr;cases e with
 |normal=>obtain⟨bb,at_,ty,consts,ar,v0,w2,hd,hi,v,hr,hR⟩:=hq;have h1:=OC (fr:={b.at a' []with mode:=.returning}) (cs:=cs) rfl hd hi;exact⟨.returned v,w2,_,hR,Comes.of_steps (Steps.trans harr (.one step_end)) (Steps.one h1),rfl,rfl,rfl,rfl,fn,hf,hr⟩
 |ret=>obtain⟨todo,hs₀⟩:=harr;obtain⟨bb,at_,ty,consts,ar,v0,w2,hd,hi,v,hr,hR⟩:=hq;have h1:=OC (fr:={b.at a' todo with mode:=.returning}) (cs:=cs) rfl hd hi;exact⟨.returned v,w2,_,hR,Comes.of_steps hs₀ (Steps.one h1),rfl,rfl,rfl,rfl,fn,hf,hr⟩
 |panic chain=>exact hq.elim
 |exit id=>exact hq.elim
 |goto l=>exact hq.elim
 |outgrown=>exact⟨.outgrown,w',b,hq,harr.resolve_left (by simp[b]),rfl,p8⟩
abbrev Cl:=Int×Int
structure Bs where
 q:List Cl
 g:Cl->Option Cl
def bR(f e:Cl->Bool)(d:Nat)(c:Cl):List Cl->Bs->Sum Cl Bs
 |[],a=>.inr a
 |b::i,a=>
  if(a.g b).isSome||!f b then bR f e d c i a
  else if e b then .inl (if 0<d then(a.g c).getD (0,0)else b)
  else bR f e d c i ⟨a.q++[b],λh=>if h=b then some (if 0<d then(a.g c).getD (0,0)else b)else a.g h⟩
def eG(e d:Cl->Bool)(c:Cl):Nat->Nat->Bs->Cl
 |0,_,_=>c
 |fuel+1,b,f=>
  match f.q[b]? with
  |none=>c
  |some a=>
   match bR e d b a (aL a.1 a.2) f with
   |.inl g=>g
   |.inr h=>eG e d c fuel (b+1) h
def dU(c b:Cl->Bool)(a:Cl):Cl:=eG c b a 146 0 ⟨[a],λ_=>none⟩
structure BInv (start:Cl) (s:Bs):Prop where
  q:∃l,s.q=start::l/\l.Nodup/\(∀c∈l,aE c.1 c.2=true)/\∀c,(s.g c).isSome=true↔c∈l
variable {g h:Cl}
theorem BInv.start(a:Cl):BInv a ⟨[a],λ_=>none⟩:=⟨[],rfl,by simp,by simp,by simp⟩
theorem BInv.add{b:Bs}(e:BInv h b)(a d:Cl)(m:(b.g a).isSome=false)(n:aE a.1 a.2=true):BInv h ⟨b.q++[a],λc=>if c=a then some d else b.g c⟩:=by
 obtain⟨f,i,j,k,l⟩:=e;refine⟨f++[a],by grind,?_,?_,?_⟩
 ·grind
 ·grind
 grind
theorem GQ(b:Nat->Bool):∀(a:List Nat),a.length=(a.filter b).length+(a.filter (λc=> !b c)).length
 |[]=>rfl
 |d::a=>by have:=GQ b a;grind
theorem xF:∀(c:Nat) (a:List Nat),a.Nodup->(∀b∈a,b<c)->a.length<=c
 |0,a,_,f=>by
  cases a with
  |nil=>simp
  |cons e a=>exact absurd (f e qs) qo
 |c+1,a,k,f=>by
  have g:=xF c (a.filter (λb=>b !=c)) qg qg;have h:a.length<=(a.filter (λb=>b !=c)).length+1:=by
   have i:(a.filter (λb=> !(b !=c))).length<=1:=by
    have j:∀(d:List Nat),d.Nodup->(d.filter (λb=> !(b !=c))).length<=1:=by
     intro d
     induction d with
     |nil=>simp
     |cons e d l=>grind[filter_eq_nil_iff]
    grind
   grind[GQ]
  omega
theorem BInv.len{b:Bs}(c:BInv g b):b.q.length<=145:=by
 obtain⟨f,d,e,h,_⟩:=c;rw[d];have:(f.map (λa=>ci a.1 a.2)).length<=144:=by
  apply xF
  ·rw[Nodup,pairwise_map];apply Pairwise.imp_of_mem _ e;grind[bX,ci]
  grind[eN]
 grind
theorem BInv.on{b:Bs}(c:BInv g b)(f:aE g.1 g.2=true):∀a∈b.q,aE a.1 a.2=true:=by obtain⟨h,d,_,e,_⟩:=c;grind
theorem nL(c d:Int):∀a∈aL c d,aE a.1 a.2=true:=by intro a b;exact(p9.1 b).2
theorem wX(a b:Int):(aL a b).length<=4:=qH a b 4
theorem wY(b c:Int)(d:aE b c=true):0<(aL b c).length:=by
 obtain⟨e,f,g,h⟩:=bX.1 d
 by_cases i:b<11
 ·exact m4 (a:=(b+1,c+0)) (p9.2 ⟨by simp[sds],by grind[bX]⟩)
 exact m4 (a:=(b+-1,c+0)) (p9.2 ⟨by simp[sds],by grind[bX]⟩)
