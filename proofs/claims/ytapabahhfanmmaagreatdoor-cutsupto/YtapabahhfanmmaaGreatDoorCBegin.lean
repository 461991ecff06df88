import Derived.Test.YtapabahhfanmmaaGreatDoorCActA
import Derived.Test.YtapabahhfanmmaaGreatDoorCStoreL
namespace Go.Proofs.YtapabahhfanmmaaGreatDoor
open Go.RowKit List Go.Proofs.Tryz
set_option maxHeartbeats 8000000
set_option maxRecDepth 100000
structure CanS (tb:Nat) (u:U) (c:Cm) (w:World) (K:Value) (n1 n0 n2 n3:Nat) (B:Bool) (c':Cm):Prop where
 hs:∀w,Cs 193 #[K,ii c.what] w (R0 w (.tuple #[.agg #[fv n1,fv n0,fv n2,fv n3],.bool true]))
 h1:∀w',Fr [] w w'->Cs n1 #[pt tb,u.val,c.val] w' (R0 w' (.bool B))
 h2:∀w',Cs n2 #[c.val] w' (R0 w' c'.val)
 f1:∀(args:Array Value) (w:World),(callFunc n1 args).run prog w=.ok (.enter n1 args) w
 f2:∀(args:Array Value) (w:World),(callFunc n2 args).run prog w=.ok (.enter n2 args) w
def zZ(j:Nat)(k:U)(c:Cm)(a:World)(K:Value)(e:Option (Bool×Cm)):Prop:=
  (e=none/\∀a,Cs 193 #[K,ii c.what] a (R0 a (.tuple #[tU,.bool false])))\/∃g f h i b d,e=some (b,d)/\CanS j k c a K g f h i b d
def kX(a:T)(e:Int)(d:Cm)(f:U->Option (Bool×Cm)):Bool×T:=
 match bI a.us d.unit with
 |none=>(false,a)
 |some c=>
  match a.us[c]? with
  |none=>(false,a)
  |some b=>if b.owner=e then(match f b with|some (true,c')=>(true,{a with us:=a.us.set c (b.ordered c')})|_=>(false,a))else(false,a)
theorem Jb(H n W hb bb:Nat)(i:T)(w:Int)(b:Cm)(B:U->Option (Bool×Cm))(K:U->Value)(e:World)(L:TS e H n W hb bb i)(bp:Rise i.us)(hk:∀c∈i.us,∀e,Cs 121 #[ii c.kind] e (R0 e (K c)))(A:∀c∈i.us,zZ H c b e (K c) (B c)):Cs 151 #[pt H,ii w,b.val] e λE a=> E=.returned (.bool (kX i w b B).1)/\Fr [n] e a/\TS a H n W hb bb (kX i w b B).2:=by
 have hz:=L.z;have Zs:=L.ways.lt;have cb:=L.held.lt;have cg:=L.lt;have cf:=L.row.lt;obtain⟨I,ae⟩:=nm (e.alloc (.cells #[ii b.unit,ii b.what,ii b.x,ii b.y,ii b.target] 81));have bq:I.heap.size=e.heap.size+1:=by rw[ae];simp
 have am:Fr [] e I:=by rw[ae];exact(r0 _ _).alloc _
 have hC:I.heap[e.heap.size]?=some (.cells #[ii b.unit,ii b.what,ii b.x,ii b.y,ii b.target] 81):=by rw[ae,aC]
 have h:∀a,Fr [] I a->(λa:World=>cl a e.heap.size 0 b.unit/\Fr [] I a) a:=λa d=>⟨aB (d.qH hC),d⟩;have q:Fr [] I (e.alloc (.cells #[ii b.unit,ii b.what,ii b.x,ii b.y,ii b.target] 81)).drew:=by rw[ae];exact(r0 _ _).drew
 have t:=h _ q;clear ae
 delta Cs;go_in
 go_wp2
 go_cut [7,8] (fun s7 s8 s=>∃(O:Nat) (X:Bool),s7=ii O/\s8=.bool X/\bI i.us b.unit=(if X=true then some O else none)/\Fr [] I s)
 ·go_region_held (fun a:World=>ca a e.heap.size 0 (ii b.unit)/\Fr [] I a)
   (first|with_reducible exact t|with_reducible exact h _ g)
   (first|(go_at_call 152;refine(pU H n W i.us b.unit _ (L.gv.qF (am.qT (Q1 qb))) bp).mono ?_;rintro E C ⟨O,X,rfl,k,bo⟩;have g:=Fr.qT (Q1 qb) k))
  all_goals
   go_wp2_with fail
   go_meet
   exact⟨O,X,rfl,rfl,bo,g⟩
 obtain⟨O,X,rfl,rfl,R,ap⟩:=hcut;have ac:=am.qT ap;have ab:=L.qF ac;have ao:=ap.qH hC;clear h t q;cases X
 ·have j:kX i w b B=(false,i):=by unfold kX;rw[R];rfl
  have D:=aA j;clear j R hk A;go_wp2;go_ret;rw[D.o];exact⟨rfl,ac.qO,ab⟩
 rw[Q7 rfl]at R;obtain⟨c,N,bs⟩:=kU R;have bn:=(gs.1 N).1;have cc:=L.len;have bk:=ab.gv.c;obtain⟨c0,c1,c2,c3,c4,c5,c6,c7,c8,c9,ay⟩:=ab.row.ppl.at N;have j:kX i w b B=if c.owner=w then(match B c with|some (true,V)=>(true,{i with us:=i.us.set O (c.ordered V)})|_=>(false,i))else(false,i):=by unfold kX;rw[R];dsimp only;rw[N]
 by_cases ag:(c.owner==w)=true
 ·rw[Q7 (qu ag)]at j;have aj:=hk c (Q8 N);have bf:=A c (Q8 N);have HU:=aA N;have D:=aA j;clear N hk A j R bs
  go_wp2_with fail
  obtain⟨p,af⟩:=nm (wc.alloc (.cells c.arr 85));rw[<-af];have l:Fr [] wc p:=by rw[af];exact(r0 _ _).alloc _
  have ai:p.heap[wc.heap.size]?=some (.cells c.arr 85):=by rw[af];exact aC _ _
  have br:wc.heap.size<p.heap.size:=by rw[af];simp
  have an:=l.qH ao;have ar:=ab.qF l;have Zr:=ac.qT l;have bu:=ac.size;have bl:=aH ao;clear bq af ao ab ap bk c0 c1 c2 c3 c4 c5 c6 c7 c8 c9 ay ac hC am ag;obtain⟨f,bc⟩:=nm wc.heap.size;rw[<-bc]at ai br bl bu |-;clear bc l;obtain⟨su,aq⟩:=nn (B c);have ad:=(show Hi _ from aq);rw[aq]at bf;clear aq;have h:∀a,Fr [] p a->(λa:World=>cl a f 2 c.kind/\cl a e.heap.size 1 b.what/\Fr [] p a) a:=λa d=>⟨aB (d.qH ai),aB (d.qH an),d⟩;have q:Fr [] p p.drew:=(r0 _ _).drew;have t:=h _ q;obtain⟨rfl,A⟩|⟨n1,n0,n2,n3,ax,V,rfl,A,h1,h2,f1,f2⟩:=bf
  ·go_cut [11] (fun av s=>av=.bool false/\Fr [] p s)
   ·go_region_held (fun a:World=>ca a f 2 (ii c.kind)/\ca a e.heap.size 1 (ii b.what)/\Fr [] p a)
     (first|exact t|exact h _ m|exact h _ (m.alloc _)|exact h _ g|exact h _ (g.alloc _)|exact h _ (q.alloc _)|exact h _ ((((m.setCell _ _ (.inr (by first|exact Q9 _|exact g.size))).setCell _ _ (.inr (by first|exact Q9 _|exact g.size))).setCell _ _ (.inr (by first|exact Q9 _|exact g.size))).setCell _ _ (.inr (by first|exact Q9 _|exact g.size))))
     (first|(go_at_call 121;refine(aj _).mono ?_;rintro E C ⟨rfl,k⟩;obtain⟨bi,bv⟩:=k.qC;have q1:f<C.heap.size:=(by have:=k.size;simp at this;omega);(first|(have q2:p.heap.size<C.heap.size:=(by have:=k.size;simp at this;omega))|skip);have g:=Fr.qT (Q1 (Q1 qb)) k)|(go_at_call 193;refine(A _).mono ?_;rintro E w2 ⟨rfl,l⟩;obtain⟨bj,bw⟩:=l.qC;have q3:=l.size;have m:=Fr.qT (Q1 (Q1 qb)) l))
    all_goals
     go_wp2_with fail
     go_meet
     refine⟨rfl,?_⟩
     first
     |with_reducible exact m.alloc _
     |exact(((m.setCell _ _ (.inr (by first|exact Q9 _|exact g.size))).setCell _ _ (.inr (by first|exact Q9 _|exact g.size))).setCell _ _ (.inr (by first|exact Q9 _|exact g.size))).setCell _ _ (.inr (by first|exact Q9 _|exact g.size))
   obtain⟨rfl,Q⟩:=hcut;clear h t q aj A;go_wp2
   go_cut [65] (fun aw s=>aw=.bool true/\Fr [] p s)
   ·go_quiet (fail)
    go_wp2_with fail
    go_meet
    exact⟨rfl,Q.drewN _⟩
   obtain⟨rfl,F⟩:=hcut;go_wp2;go_ret;have j:kX i w b B=(false,i):=by rw[D.o,ad.o]
   rw[j];exact⟨rfl,(Zr.qT F).qO,ar.qF F⟩
  go_cut [10,11] (fun bx av s=>∃J:Nat,bx=.pointer (so J)/\av=.bool true/\s.heap[J]?=some (.cells #[fv n1,fv n0,fv n2,fv n3] 217)/\f<J/\Fr [] p s)
  ·go_region_held (fun a:World=>ca a f 2 (ii c.kind)/\ca a e.heap.size 1 (ii b.what)/\Fr [] p a)
    (first|exact t|exact h _ m|exact h _ (m.alloc _)|exact h _ g|exact h _ (g.alloc _)|exact h _ (q.alloc _)|exact h _ ((((m.setCell _ _ (.inr (by first|exact Q9 _|exact g.size))).setCell _ _ (.inr (by first|exact Q9 _|exact g.size))).setCell _ _ (.inr (by first|exact Q9 _|exact g.size))).setCell _ _ (.inr (by first|exact Q9 _|exact g.size))))
    (first|(go_at_call 121;refine(aj _).mono ?_;rintro E C ⟨rfl,k⟩;obtain⟨bi,bv⟩:=k.qC;have q1:f<C.heap.size:=(by have:=k.size;simp at this;omega);(first|(have q2:p.heap.size<C.heap.size:=(by have:=k.size;simp at this;omega))|skip);have g:=Fr.qT (Q1 (Q1 qb)) k)|(go_at_call 193;refine(A _).mono ?_;rintro E w2 ⟨rfl,l⟩;obtain⟨bj,bw⟩:=l.qC;have q3:=l.size;have m:=Fr.qT (Q1 (Q1 qb)) l))
   all_goals
    go_wp2_with fail
    go_meet
    refine⟨_,rfl,rfl,?_,?_,?_⟩
    ·first
     |with_reducible exact aC _ _
     |exact pI (l.qH (aC C _)) _ _ _ _
     |exact pI (l.qH (k.qH (aC p _))) _ _ _ _
    ·have:=m.size;omega
    first
    |with_reducible exact m.alloc _
    |exact(((m.setCell _ _ (.inr (by first|exact Q9 _|exact g.size))).setCell _ _ (.inr (by first|exact Q9 _|exact g.size))).setCell _ _ (.inr (by first|exact Q9 _|exact g.size))).setCell _ _ (.inr (by first|exact Q9 _|exact g.size))
  obtain⟨J,rfl,rfl,hg,cd,Q⟩:=hcut;clear h t q aj A;have r:=Q.qH ai;have M:=Q.qH an;have Zq:=ar.qF Q;have ak:=Zr.qT Q;obtain⟨S,az⟩:=nm wc;rw[<-az]at r M Zq ak hg |-;clear az Q ai an ar Zr;have h:∀a,Fr [] S a->(λa:World=>ca a J 0 (fv n1)/\cl a f 0 c.id/\cl a f 1 c.owner/\cl a f 2 c.kind/\cl a f 3 c.x/\cl a f 4 c.y/\cl a f 5 c.life/\cl a f 6 c.load/\cl a f 7 c.what/\cl a f 8 c.tox/\cl a f 9 c.toy/\cl a f 10 c.target/\cl a e.heap.size 0 b.unit/\cl a e.heap.size 1 b.what/\cl a e.heap.size 2 b.x/\cl a e.heap.size 3 b.y/\cl a e.heap.size 4 b.target/\Fr [] S a) a:=λa d=>⟨aB (d.qH hg),aB (d.qH r),aB (d.qH r),aB (d.qH r),aB (d.qH r),aB (d.qH r),aB (d.qH r),aB (d.qH r),aB (d.qH r),aB (d.qH r),aB (d.qH r),aB (d.qH r),aB (d.qH M),aB (d.qH M),aB (d.qH M),aB (d.qH M),aB (d.qH M),d⟩;have q:Fr [] S S.drew:=(r0 _ _).drew;have t:=h _ q;go_wp2
  go_cut [65] (fun aw s=>aw=.bool (!ax)/\Fr [] S s)
  ·go_region_held (fun a:World=>ca a J 0 (fv n1)/\fM f c a (ca a e.heap.size 0 (ii b.unit)/\ca a e.heap.size 1 (ii b.what)/\ca a e.heap.size 2 (ii b.x)/\ca a e.heap.size 3 (ii b.y)/\ca a e.heap.size 4 (ii b.target)/\Fr [] S a))
    (first|with_reducible exact t|with_reducible exact h _ g)
    (first|(refine cm (h1 _ (ak.qT (Q1 (Q1 (Q1 (Q1 (Q1 (Q1 (Q1 (Q1 (Q1 (Q1 (Q1 (Q1 (Q1 (Q1 (Q1 (Q1 (Q1 qb))))))))))))))))))) ?_;rintro E C ⟨rfl,k⟩;have g:=Fr.qT (Q1 (Q1 (Q1 (Q1 (Q1 (Q1 (Q1 (Q1 (Q1 (Q1 (Q1 (Q1 (Q1 (Q1 (Q1 (Q1 (Q1 qb))))))))))))))))) k))
   all_goals
    go_wp2_with fail
    go_meet
    exact⟨rfl,g⟩
  obtain⟨rfl,F⟩:=hcut;clear h t q h1 f1;have u:=F.qH r;have Y:=F.qH M;have aa:=Zq.qF F;have au:=ak.qT F;have be:=F.qH hg;obtain⟨P,ba⟩:=nm wc;rw[<-ba]at u Y aa au be |-;clear ba F r M Zq ak hg;cases ax
  ·have j:kX i w b B=(false,i):=by rw[D.o,ad.o]
   have HR:=aA j;clear j D ad;go_wp2;go_ret;rw[HR.o];exact⟨rfl,au.qO,aa⟩
  have j:kX i w b B=(true,{i with us:=i.us.set O (c.ordered V)}):=by rw[D.o,ad.o]
  have HR:=aA j;clear j D ad;have h:∀a,Fr [n] P a->(λa:World=>ca a H 148 (.slice (so n) i.us.length W)/\ca a J 2 (fv n2)/\cl a f 0 c.id/\cl a f 1 c.owner/\cl a f 2 c.kind/\cl a f 3 c.x/\cl a f 4 c.y/\cl a f 5 c.life/\cl a f 6 c.load/\cl a f 7 c.what/\cl a f 8 c.tox/\cl a f 9 c.toy/\cl a f 10 c.target/\cl a e.heap.size 0 b.unit/\cl a e.heap.size 1 b.what/\cl a e.heap.size 2 b.x/\cl a e.heap.size 3 b.y/\cl a e.heap.size 4 b.target/\Fr [n] P a) a:=λa d=>⟨(d.cell H 148 aa.lt (by simp;exact aa.n1)).trans aa.gv.c,aB (d.heap be qt),aB (d.heap u qt),aB (d.heap u qt),aB (d.heap u qt),aB (d.heap u qt),aB (d.heap u qt),aB (d.heap u qt),aB (d.heap u qt),aB (d.heap u qt),aB (d.heap u qt),aB (d.heap u qt),aB (d.heap u qt),aB (d.heap Y qt),aB (d.heap Y qt),aB (d.heap Y qt),aB (d.heap Y qt),aB (d.heap Y qt),d⟩;have q:Fr [] P P.drew:=(r0 _ _).drew;have t:=h _ q.qO;have v:n∈[n]\/P.heap.size<=n:=.inl qs;go_wp2
  go_cut [] (fun s=>Fr [n] e s/\TS s H n W hb bb {i with us:=i.us.set O (c.ordered V)})
  ·go_region_held (fun a:World=>ca a H 148 (.slice (so n) i.us.length W)/\ca a J 2 (fv n2)/\fM f c a (ca a e.heap.size 0 (ii b.unit)/\ca a e.heap.size 1 (ii b.what)/\ca a e.heap.size 2 (ii b.x)/\ca a e.heap.size 3 (ii b.y)/\ca a e.heap.size 4 (ii b.target)/\Fr [n] P a))
    (first|with_reducible exact t|with_reducible exact bg|with_reducible exact bh|(with_reducible refine h _ ?_;with_reducible exact(((((((((((bd.setCell _ _ v).setCell _ _ v).setCell _ _ v).setCell _ _ v).setCell _ _ v).setCell _ _ v).setCell _ _ v).setCell _ _ v).setCell _ _ v).setCell _ _ v).setCell _ _ v)))
    (first|(go_at_call 194;refine(JZ c V _).mono ?_;rintro E w2 ⟨rfl,l⟩;have m:=g.qT l;have bd:Fr [n] P w2:=m.qO;have bh:=h w2 bd;have ah:=aa.qF m;obtain⟨c0,c1,c2,c3,c4,c5,c6,c7,c8,c9,ay⟩:=ah.row.ppl.at HU.o;have bz:=ah.row.fz)|(refine cm (h2 _) ?_;rintro E C ⟨rfl,k⟩;have g:=q.qT k;have bg:=h C g.qO))
   all_goals
    go_wp2_with fail
    go_meet
    have bt:Fr [n] e w2:=(au.qT m).qO;refine⟨?_,?_⟩
    ·with_reducible exact(((((((((((bt.setCell _ _ (.inl qs)).setCell _ _ (.inl qs)).setCell _ _ (.inl qs)).setCell _ _ (.inl qs)).setCell _ _ (.inl qs)).setCell _ _ (.inl qs)).setCell _ _ (.inl qs)).setCell _ _ (.inl qs)).setCell _ _ (.inl qs)).setCell _ _ (.inl qs)).setCell _ _ (.inl qs))
    exact ah.putU bn (c.ordered V)
  obtain⟨bm,ah⟩:=hcut;go_wp2;go_ret;rw[HR.o];exact⟨rfl,bm,ah⟩
 have ce:(c.owner==w)=false:=by simpa using ag
 rw[Z0 (qu ag)]at j;have D:=aA j;clear j R hk A N ag;go_wp2;go_ret;rw[D.o];exact⟨rfl,ac.qO,ab⟩
def gA(b:U)(a:Cm):Bool:=a.what==0||(a.what==1&&(b.kind==2||b.kind==3))||(a.what==2&&b.kind==2)||(a.what==3&&b.kind==3)||(a.what==4&&b.kind==1)
def qX(c:T)(a:Cm)(b:U):Option (Bool×Cm):=if gA b a=true then some (bZ c b a,fU a)else none
def eO(a:U):Value:=if a.kind=1 then jV else if a.kind=2 then jL else jW
theorem Iw(b:T)(c:Int)(a:Cm):kX b c a (qX b a)=fF b c a:=by
 unfold kX fF;cases bI b.us a.unit with
 |none=>rfl
 |some d=>grind[qX,gA,bZ]
theorem rA(a:Int):a<0\/5<=a\/a=0\/a=1\/a=2\/a=3\/a=4:=qo
theorem Hc(j u q w v:Nat)(g:T)(a:Cm)(f:U)(d:World)(m:TS d j u q w v g)(A:Rise g.us)(z:f.kind=1\/f.kind=2\/f.kind=3):zZ j f a d (eO f) (qX g a f):=by
 have r:=m.tv.b;have s:=m.lt;have l:a.what=0->∀e,Fr [] d e->Cs 167 #[pt j,f.val,a.val] e (R0 e (.bool (bZ g f a))):=λc e _=>by
  have:bZ g f a=true:=by grind[bZ]
  rw[this];exact OT _ f a e
 have t:a.what=1->(f.kind=2\/f.kind=3)->∀e,Fr [] d e->Cs 157 #[pt j,f.val,a.val] e (R0 e (.bool (bZ g f a))):=λc h e i=>by
  have:bZ g f a=(aE a.x a.y&&(g.bd (ci a.x a.y)!=10)):=by grind[bZ]
  rw[this];exact zF j g.bd f a e (r.fr i qs) (Z1 s i.size)
 have n:a.what=0->∀e,Cs 168 #[a.val] e λc p=>c=.returned (fU a).val/\Fr [] e p:=λc e=>by
  have:fU a=⟨a.unit,a.what,0,0,0⟩:=by grind[fU]
  rw[this];exact GL a e
 have o:a.what=1\/a.what=2->∀e,Cs 158 #[a.val] e λc p=>c=.returned (fU a).val/\Fr [] e p:=λc e=>by
  have:fU a=⟨a.unit,a.what,a.x,a.y,0⟩:=by grind[fU]
  rw[this];exact GJ a e
 have k:(a.what<0\/5<=a.what)->gA f a=false:=(by grind[gA]);unfold eO qX;obtain h|h|h:=z
 ·rw[Q7 h];obtain c|c|c|c|c|c|c:=rA a.what
  ·rw[k (.inl c),Z0 qs];exact .inl ⟨rfl,λd=>kG _ a.what d (.inl c)⟩
  ·rw[k (.inr c),Z0 qs];exact .inl ⟨rfl,λd=>kG _ a.what d (.inr c)⟩
  ·rw[Q7 (by simp[gA,c])];exact .inr ⟨167,167,168,169,_,_,rfl,λd=>by rw[c];exact yO d,l c,n c,λ_ _=>by kernel_rfl,λ_ _=>by kernel_rfl⟩
  ·rw[Z0 (by grind[gA])];exact .inl ⟨rfl,λd=>by rw[c];exact NT d⟩
  ·rw[Z0 (by grind[gA])];exact .inl ⟨rfl,λd=>by rw[c];exact NU d⟩
  ·rw[Z0 (by grind[gA])];exact .inl ⟨rfl,λd=>by rw[c];exact NV d⟩
  rw[Q7 (by grind[gA])];refine .inr ⟨154,154,155,156,_,_,rfl,λd=>by rw[c];exact yP d,λe _=>?_,λe=>?_,λ_ _=>by kernel_rfl,λ_ _=>by kernel_rfl⟩
  ·have:bZ g f a=(a.x==2||a.x==3):=by grind[bZ]
   rw[this];exact OU _ f a e
  have:fU a=⟨a.unit,a.what,a.x,0,0⟩:=by grind[fU]
  rw[this];exact GK a e
 ·rw[Z0 qo,Q7 h];obtain c|c|c|c|c|c|c:=rA a.what
  ·rw[k (.inl c),Z0 qs];exact .inl ⟨rfl,λd=>kG _ a.what d (.inl c)⟩
  ·rw[k (.inr c),Z0 qs];exact .inl ⟨rfl,λd=>kG _ a.what d (.inr c)⟩
  ·rw[Q7 (by simp[gA,c])];exact .inr ⟨167,167,168,169,_,_,rfl,λd=>by rw[c];exact yQ d,l c,n c,λ_ _=>by kernel_rfl,λ_ _=>by kernel_rfl⟩
  ·rw[Q7 (by grind[gA])];exact .inr ⟨157,157,158,159,_,_,rfl,λd=>by rw[c];exact yR d,t c (.inl h),o (.inl c),λ_ _=>by kernel_rfl,λ_ _=>by kernel_rfl⟩
  ·rw[Q7 (by grind[gA])];refine .inr ⟨160,161,158,162,_,_,rfl,λd=>by rw[c];exact yS d,λe i=>?_,o (.inr c),λ_ _=>by kernel_rfl,λ_ _=>by kernel_rfl⟩;have:bZ g f a=(aE a.x a.y&&(decide (0<g.bd (ci a.x a.y))&&decide (g.bd (ci a.x a.y)<10))):=by grind[bZ,jB]
   rw[this];exact Je j g.bd f a e (r.fr i qs) (Z1 s i.size)
  ·rw[Z0 (by grind[gA])];exact .inl ⟨rfl,λd=>by rw[c];exact NW d⟩
  rw[Z0 (by grind[gA])];exact .inl ⟨rfl,λd=>by rw[c];exact NX d⟩
 rw[Z0 qo,Z0 qo];obtain c|c|c|c|c|c|c:=rA a.what
 ·rw[k (.inl c),Z0 qs];exact .inl ⟨rfl,λd=>kG _ a.what d (.inl c)⟩
 ·rw[k (.inr c),Z0 qs];exact .inl ⟨rfl,λd=>kG _ a.what d (.inr c)⟩
 ·rw[Q7 (by simp[gA,c])];exact .inr ⟨167,167,168,169,_,_,rfl,λd=>by rw[c];exact yT d,l c,n c,λ_ _=>by kernel_rfl,λ_ _=>by kernel_rfl⟩
 ·rw[Q7 (by grind[gA])];exact .inr ⟨157,157,158,159,_,_,rfl,λd=>by rw[c];exact yU d,t c (.inr h),o (.inl c),λ_ _=>by kernel_rfl,λ_ _=>by kernel_rfl⟩
 ·rw[Z0 (by grind[gA])];exact .inl ⟨rfl,λd=>by rw[c];exact NY d⟩
 ·rw[Q7 (by grind[gA])];refine .inr ⟨163,164,165,166,_,_,rfl,λd=>by rw[c];exact yV d,λe i=>?_,λe=>?_,λ_ _=>by kernel_rfl,λ_ _=>by kernel_rfl⟩
  ·have:bZ g f a=iC g.us f.owner a.target:=by grind[bZ]
   rw[this];exact OV j u q g.us f a e (m.qF i).gv A
  have:fU a=⟨a.unit,a.what,0,0,a.target⟩:=by grind[fU]
  rw[this];exact GM a e
 rw[Z0 (by grind[gA])];exact .inl ⟨rfl,λd=>by rw[c];exact NZ d⟩
theorem GI(b:U)(d:b.kind=1\/b.kind=2\/b.kind=3)(c:World):Cs 121 #[ii b.kind] c (R0 c (eO b)):=by
 unfold eO;obtain a|a|a:=d
 ·rw[a,Q7 rfl];exact oM c
 ·rw[a,Z0 qo,Q7 rfl];exact lU c
 rw[a,Z0 qo,Z0 qo];exact nH c
theorem Iz(d c h i g:Nat)(a:T)(k:Int)(b:Cm)(f:World)(m:TS f d c h i g a)(j:TOk a):Cs 151 #[pt d,ii k,b.val] f λo n=> o=.returned (.bool (fF a k b).1)/\Fr [c] f n/\TS n d c h i g (fF a k b).2:=by rw[<-Iw];exact Jb d c h i g a k b (qX a b) eO f m j.rise (λe l=>GI e (j.all e l).kd) (λe l=>Hc d c h i g a b e f m j.rise (j.all e l).kd)
variable {R:List Value} {a:Nat} {H:TypeId} {v:Value} {w x:World}
def Cmds(e:World)(c:Nat)(b:List Cm):Prop:=∀(a:Nat) (d:a<b.length),e.rangeAt c (a*5) (b[a]'d).cells
theorem Cmds.fr{S:List Nat}{b:List Cm}(c:Cmds w a b)(j:Fr S w x)(k:a∉S):Cmds x a b:=λf d g h e=>by have i:=c f d g h e;grind[Fr.cell,aI]
theorem Cmds.at{k:Nat}{d:List Cm}{c:Cm}(e:Cmds w a d)(f:d[k]?=some c):w.cell? ⟨a,k*5,none⟩=some (ii c.unit)/\w.cell? ⟨a,k*5+1,none⟩=some (ii c.what)/\w.cell? ⟨a,k*5+2,none⟩=some (ii c.x)/\w.cell? ⟨a,k*5+3,none⟩=some (ii c.y)/\w.cell? ⟨a,k*5+4,none⟩=some (ii c.target):=by obtain⟨g,rfl⟩:=gs.1 f;have b:=e k g;exact⟨b 0 _ rfl,b 1 _ rfl,b 2 _ rfl,b 3 _ rfl,b 4 _ rfl⟩
abbrev ints(a:List Nat):List Value:=a.map λ(b:Nat)=>ii (b:Int)
theorem pY:(prog.info? 3).map (λa=>(a.zero,a.size,a.bytes))=some (some (ii 0),1,8):=qk
theorem bT{base:Nat}{size:Nat}(e:w.ownsRow base H size v a R){b:Nat}(c:v.ownBlock=some b):base<=b:=by
 obtain⟨d,_⟩|⟨h,f,g,rfl,d,_⟩:=e.2
 ·rw[d]at c;simp[Value.ownBlock]at c
 simp[Value.ownBlock]at c;omega
theorem vA(a:Int)(c:Nat)(b:Cm)(e:List Cm)(d:T):bH a c (b::e) d=(if(fF d a b).1=true then(bH a (c+1) e (fF d a b).2).1 else c::(bH a (c+1) e (fF d a b).2).1,(bH a (c+1) e (fF d a b).2).2):=rfl
structure CmdI (w:World) (tb pb cap hb bb:Nat) (p:Int) (t:T) (l:List Cm) (k:Nat) (v:Value) (wr:World):Prop where
 ex:∃t' rs,TS wr tb pb cap hb bb t'/\TOk t'/\rs.length<=k/\wr.ownsRow w.heap.size 3 1 v rs.length (ints rs)/\(rs++(bH p k (l.drop k) t').1,(bH p k (l.drop k) t').2)=bH p 0 l t
 fr:Fr [pb] w wr
theorem TH(q h s g r t lc:Nat)(i:T)(e:Int)(c:List Cm)(d:World)(m:TS d q h s g r i)(ag:TOk i)(R:Cmds d t c)(af:t<d.heap.size)(aw:t≠h)(av:c.length<=2000000):Cs 118 #[pt q,ii e,.slice (so t) c.length lc] d λB L=> ∃v,B=.returned v/\Fr [h] d L/\TS L q h s g r (bH e 0 c i).2/\L.ownsRow d.heap.size 3 1 v (bH e 0 c i).1.length (ints (bH e 0 c i).1):=by
 obtain⟨am,ae,ai,aj,ak⟩:=Z2 pY;have ba:=m.row.lt
 delta Cs;go_in
 go_wp2
 go_loopw [7,12] (fun v H wr=>∃b:Nat,b<=c.length/\H=ii b/\CmdI d q h s g r e i c b v wr) (fun _ H _=>c.length-(intOf H).toNat)
 ·exact⟨0,Z3 _,rfl,⟨i,[],m,ag,Q9 _,⟨rfl,qg⟩,by simp⟩,r0 _ _⟩
 obtain⟨b,hk,rfl,hI⟩:=hrel;obtain⟨⟨u,j,V,D,bc,hown,n⟩,p⟩:=hI
 by_cases S:b<c.length
 ·obtain⟨a,P⟩:∃a,c[b]?=some a:=qa;have Q:c.drop b=a::c.drop (b+1):=by grind[drop_eq_getElem_cons]
  rw[Q,vA]at n;obtain⟨c0,c1,c2,c3,c4⟩:=(R.fr p qg).at P;have F:=Iz q h s g r u e a (wr.alloc (.cells #[ii a.unit,ii a.what,ii a.x,ii a.y,ii a.target] 81)) (V.qF ((r0 _ _).alloc _)) D;have C:=(tY D e a (λ_=>True)).1.ok;have au:=Z1 af p.size;obtain⟨aa,N⟩:=nn ((fF u e a).1);obtain⟨Y,E⟩:=nn ((fF u e a).2);rw[N,E]at F n;rw[E]at C;have M:=aA F;have z:=aA hown;have an:=aA n;have w:=aA p;clear V n Q P p F N E hown D R;have be:=w.o.size;have HN:Hi (∀(A:World) (I:Nat) (J:Value),[ii (b:Int)][I]?=some J->(A.alloc (.cells #[ii b] 3)).cell? ((⟨A.heap.size,0,none⟩:Addr).add I)=some J):=by intro A I J hu;simp_all[gs,Addr.add_lit]
  have O:=λk (g:u7.ownBlock=some k)=>bT z.o g;have ao:=aA O;have ab:Hi (∀f,Fr [h] (wr.alloc (.cells #[ii a.unit,ii a.what,ii a.x,ii a.y,ii a.target] 81)) f->(f.alloc (.cells #[ii b] 3)).ownsRow d.heap.size 3 1 u7 j.length (ints j)):=λf hf=>aF (aF (aF z.o ((r0 [] wr).alloc _) qs) hf (λk g=>by grind)) ((r0 [] f).alloc _) qs;clear O;cases aa
  ·go_wp2_with (first|(go_at_call 151;refine cm M.o ?_;rintro B f ⟨rfl,l,W⟩)|(at_builtin;refine wpList_append_own _ rfl _ _ 25 rfl d.heap.size 3 am (ii 0) 1 8 Z5 ae ai aj ak rfl qd u7 j.length (ints j) rfl (ab.o _ l) ⟨f.heap.size,0,none⟩ 1 1 [ii (b:Int)] rfl rfl (HN.o f) qc qm qo (by have:=l.size;simp at this |-;omega) ?_;intro v' w3 az ad ax))
   have Zq:Fr u7.ownBlock.toList f w3:=((r0 _ _).alloc _).grow ad (fun ap hg=>.inl qg);have X:=(w.o.alloc _).trans l qs;have ah:Fr [h] d w3:=(by grind[Fr.trans,Hi.o]);have bd:=m.lt;have Zr:=m.held.lt;have ar:=m.ways.lt;have ay:∀k,k<d.heap.size->k∉u7.ownBlock.toList:=(by grind[Hi.o]);go_roundw
   ·refine⟨b+1,S,by go_num,⟨Y,j++[b],(by grind[TS.fr]),C,qg,?_,?_⟩,ah⟩
    ·grind
    grind[Hi.o]
   simp[intOf];omega
  go_wp2_with (first|(go_at_call 151;refine cm M.o ?_;rintro B f ⟨rfl,l,W⟩))
  have X:=(w.o.alloc _).trans l qs;go_roundw
  ·refine⟨b+1,S,by go_num,⟨Y,j,W,C,by omega,?_,?_⟩,X⟩
   ·exact aF (aF z.o ((r0 [] wr).alloc _) qs) l (λk g=>by grind[Hi.o])
   grind[Hi.o]
  simp[intOf];omega
 have ac:=n;rw[Z6 qo]at ac;go_wp2;go_ret;have aq:(j,u)=bH e 0 c i:=by grind[bH]
 refine⟨u7,rfl,p,?_,?_⟩
 ·grind
 grind
set_option maxRecDepth 100000
theorem TI(f e i j h:Nat)(c:T)(b:Int)(k:Option Addr)(o:Nat)(a:World)(m:TS a f e i j h c):Cs 118 #[pt f,ii b,.slice k 0 o] a λl g=> ∃d,l=.returned d/\Fr [e] a g/\TS g f e i j h (bH b 0 [] c).2/\g.ownsRow a.heap.size 3 1 d (bH b 0 [] c).1.length (ints (bH b 0 [] c).1):=by
 delta Cs;go_in
 go_wp2
 go_loopw [7,12] (fun d n wr=>d=.slice none 0 0/\n=ii 0/\a=wr) (fun _ _ _=>0)
 ·grind
 obtain⟨rfl,rfl,rfl⟩:=hrel;go_wp2;go_ret;exact⟨_,rfl,r0 _ _,m,⟨rfl,.inl ⟨rfl,rfl⟩⟩⟩
structure PlI (w:World) (k:Nat) (v:Value) (wr:World):Prop where
 own:wr.ownsRow w.heap.size 3 1 v k (ints (range k))
 fr:Fr [] w wr
theorem KW(n:Option Addr)(c z:Nat)(d:World)(C:c<=2000000):Cs 115 #[.slice n c z] d λp k=> ∃e,p=.returned e/\Fr [] d k/\k.ownsRow d.heap.size 3 1 e c (ints (range c)):=by
 obtain⟨y,t,v,w,x⟩:=Z2 pY
 delta Cs;go_in
 go_wp2
 go_loopw [3,7] (fun e g wr=>∃a:Nat,a<=c/\g=ii a/\PlI d a e wr) (fun _ g _=>c-(intOf g).toNat)
 ·exact⟨0,Z3 _,rfl,⟨rfl,qg⟩,r0 _ _⟩
 obtain⟨a,B,rfl,hown,j⟩:=hrel
 by_cases u:a<c
 ·have l:Hi (∀(f:World) (h:Nat) (i:Value),[ii (a:Int)][h]?=some i->(f.alloc (.cells #[ii a] 3)).cell? ((⟨f.heap.size,0,none⟩:Addr).add h)=some i):=by intro f h i F;simp_all[gs,Addr.add_lit]
  have A:=aA (λb (q:u3.ownBlock=some b)=>bT hown q);have m:Hi ((wr.alloc (.cells #[ii a] 3)).ownsRow d.heap.size 3 1 u3 a (ints (range a))):=aF hown ((r0 [] wr).alloc _) qs;have H:=j.size;clear hown
  go_wp2_with (at_builtin;refine wpList_append_own _ rfl _ _ 25 rfl d.heap.size 3 y (ii 0) 1 8 Z5 t v w x rfl qd u3 a (ints (range a)) rfl m.o ⟨wr.heap.size,0,none⟩ 1 1 [ii (a:Int)] rfl rfl (l.o wr) qc qm qo qt ?_;intro I J E s D)
  have r:=(j.alloc _).grow s (by grind[Hi.o]);go_roundw
  ·refine⟨a+1,u,by go_num,?_,r⟩;grind[range_succ]
  simp[intOf];omega
 have:a=c:=qo;subst this;go_wp2;go_ret;simp_all
def aP(b:T)(a:Value):List Value:=(range 149).map (aK b a 0 0)
theorem eI(b:T)(a:Value):(aP b a).length=149:=by simp[aP]
theorem ES(c:Nat):∀(d:List Value) (b:Nat) (a:Array Value),c+b+d.length<=a.size->((d.zipIdx b).foldl (λ(a:Array Value) e=>a.setIfInBounds (c+e.2) e.1) a).toList=a.toList.take (c+b)++d++a.toList.drop (c+b+d.length)
 |[],b,a,_=>by simp
 |h::d,b,a,f=>by rw[zipIdx_cons,foldl_cons,ES c d (b+1) _ qg];have g:c+b<a.toList.length:=qg;simp only[Array.toList_setIfInBounds,length_cons];grind[zE,rU]
theorem VG(b:Nat)(c:Array Value)(a:Array Value)(e:b+c.size<=a.size):c.zipIdx.foldl (λ(a:Array Value) (d,j)=>a.setIfInBounds (b+j) d) a=(a.toList.take b++c.toList++a.toList.drop (b+c.size)).toArray:=by have:=ES b c.toList 0 a qo;grind[Array.toList_zipIdx]
theorem kL(d:Nat->Option (Nat×Nat))(a:Array Value)(e:Nat)(c:Value)(f:List (Nat×Value))(b size:Nat)(g:d e=some (b,size))(h:c.cells.size=size)(i:b+size<=a.size):Instr.fill d a ((e,c)::f)=Instr.fill d (a.toList.take b++c.cells.toList++a.toList.drop (b+size)).toArray f:=by rw[Instr.fill,g];dsimp only;rw[Z0 qg,VG b c.cells a qo,h]
def kJ(a:Program)(d:TypeId):Option (List (Nat×Nat)):=match a.underlying d with|some (.struct fs)=>fs.toList.mapM (λb=>(a.info? b.type).map λc=>(b.offset,c.size))|_=>none
def uF(a:Program)(c:TypeId):Option (Option Nat):=(a.info? c).map (λb=>b.zero.map (·.cells.size))
theorem BQ(c:TypeId)(k:List (Nat×Nat))(i:Nat)(a:kJ prog c=some k)(b:uF prog c=some (some i))(j:List (Nat×Value))(f:Array Value)(m:∀d:Array Value,d.size=i->Instr.fill (k.toArray[·]?) d j=some f):prog.built c j=some f:=by
 unfold Program.built;unfold kJ at a;unfold uF at b;cases g:prog.info? c with
 |none=>rw[g]at b;simp at b
 |some n=>
  rw[g]at b;cases e:n.zero with
  |none=>simp[e]at b
  |some d=>
   simp[e]at b;cases h:prog.underlying c with
   |none=>rw[h]at a;simp at a
   |some l=>
    rw[h]at a;cases l<;>try(simp at a;done)
    dsimp only at a |-;rw[e,a];exact m d.cells b
theorem Jw:kJ prog 210=some [(0,149),(149,1),(150,1)]:=qk
theorem Jx:uF prog 210=some (some 151):=qk
theorem Kc{l:List Value}(c:l.length=2):∃a b,l=[a,b]:=by
 match l,c with
 |[a,b],_=>grind
theorem BS(gs:Array Value)(n:gs.size=149)(a c:Option Nat):prog.built 210 [(0,.agg gs),(1,.map a),(2,.agg #[.map c])]=some (gs.toList++[Value.map a,Value.map c]).toArray:=by
 refine BQ _ _ _ Jw Jx _ _ (λe q=>?_);have r:e.toList.length=151:=qo;obtain⟨d,b,o⟩:=Kc (l:=e.toList.drop 149) qg;have p:gs.toList.length=149:=qo;have h:(Value.agg gs).cells=gs:=rfl;have i:(Value.map a).cells.toList=[Value.map a]:=rfl;have j:(Value.agg #[.map c]).cells.toList=[Value.map c]:=rfl;have f:(gs.toList++[d,b]).take 149=gs.toList:=qg;have g:(gs.toList++[d,b]).drop 150=[b]:=by simp_all[drop_append,drop_of_length_le]
 have k:(gs.toList++[Value.map a,b]).take 150=gs.toList++[Value.map a]:=by simp_all[take_append,take_of_length_le]
 have m:(gs.toList++[Value.map a,b]).drop 151=[]:=Z6 qg;rw[kL _ _ _ _ _ 0 149 rfl (by exact n) qo,h];simp only[take_zero,nil_append,Nat.zero_add,o];rw[kL _ _ _ _ _ 149 1 rfl rfl qg,i];simp only[Nat.reduceAdd];rw[f,g];simp only[append_assoc,cons_append,nil_append];rw[kL _ _ _ _ _ 150 1 rfl rfl qg,j];simp only[Nat.reduceAdd];rw[k,m];simp[Instr.fill]
theorem Kv{e:Array Oper}{g:World->Prop}{c:Oper}{a:Act}(j:Region.wanted c (yielded e a.tmps)=true)(d:TypeId)(f:Array (Nat×Operand))(i:c.op=.build d f)(b:Array Value)(h:prog.built d (f.map λ(k,m)=>(k,a.eval m)).toList=some b):YieldsIf prog e g c (.agg b) a:=
 .inl ⟨j,λl _=>by
  unfold execOp;simp only[i,Sem.run_bind,run_build l d _ b h,Result.andThen_ok]
  rfl⟩
theorem lT(a:World)(c:Obj)(b:Nat)(d:a.heap.size=b):(a.alloc c).heap[b]?=some c:=by grind[aC]
theorem dD:(prog.info? 90).map (·.size)=some 149:=qk
theorem QW(j g:Nat)(b:T)(a:World)(Q:PRow a j g b.us)(ay:0<b.us.length)(P:b.us.length<=1000):Cs 117 #[.agg (aP b (.slice (so j) b.us.length g)).toArray] a λh e=> ∃c r t d f,h=.returned (pt c)/\Fr [] a e/\TS e c r t d f (dN b)/\a.heap.size<=c/\a.heap.size<=r/\a.heap.size<=d/\a.heap.size<=f:=by
 obtain⟨gs,F⟩:=nm ((aP b (.slice (so j) b.us.length g)).toArray);have E:gs.size=149:=by rw[F];simp[aP]
 have W:=aA F;rw[<-F];clear F;obtain⟨s,aa,Y,B⟩:=al a (.cells gs 90);have X:∀e,Fr [] s e->e.rangeAt a.heap.size 0 gs.toList:=λe N bt bu hv=>by rw[Z9,aB (N.qH B)];simpa using hv
 have ae:(prog.info? 90).map (·.size)=some gs.toList.length:=by rw[dD];simp[E]
 have ap:∀(x y:Option Nat) (e:World),(Instr.build 210 #[(0,.agg gs),(1,.map x),(2,.agg #[.map y])]).run prog e=.ok (.agg (gs.toList++[Value.map x,Value.map y]).toArray) e:=λx y e=>run_build e _ _ _ (BS gs E x y);have ax:=@run_makeMap prog;have p:Fr [] s (a.alloc (.cells gs 90)).drew:=by rw[aa];exact(r0 _ _).drew
 clear aa
 delta Cs;go_in
 go_wp2_with fail
 have am:∀e,Fr [] s e->e.cell? ⟨a.heap.size,148,none⟩=some (.slice (so j) b.us.length g):=λe N=>by rw[aB (N.qH B),W.o];simp[aP,aK]
 go_cut [3] (fun s3 I=>∃c d f:Nat,s3=.pointer (so c)/\I.heap[c]?=some (.cells (gs.toList++[Value.map (some d),Value.map (some f)]).toArray 210)/\MapF I d (bN (dC b.us))/\I.heap[f]?=some (.map #[] 0)/\a.heap.size<c/\a.heap.size<d/\a.heap.size<f/\d≠f/\Fr [] s I)
 ·refine wp_region_held (S:=fun e=>Fr [] s e) qk ?_;refine wpAnyH_take (i:=0) (oi:=_) (v:=.agg gs.toList.toArray) rfl qk qk qk (fun _ _ _ m=>m) (yieldsIf_load_mid qk 90 (.tmp 1) rfl a.heap.size 0 rfl gs.toList _ X X9 rfl ae) p ?_;simp only[Act.put,Array.toArray_toList];refine ty 1 (.pointer (some ⟨a.heap.size,148,none⟩)) rfl (fun V _=>by go_simp) p ?_;simp only[Act.put];refine ty 2 (.slice (so j) b.us.length g) rfl (fun V hS=>by have bg:=am V hS;go_simp) p ?_;simp only[Act.put];refine wpAnyH_ready (rs:=[3]) qk qs ?_;refine J1 rfl (fun K hK=>?_) J2;rw[Q7 (by rfl)]
  go_wp2_with (go_at_call 149;refine cm (CV j g b.us _ (Q.fr (Y.qT p) qs) P) ?_;rintro h n ⟨d,rfl,aw,af,ab⟩)
  have ac:=p.qT ab;refine hK.out _ _ ac (λ_=>?_);clear hK;refine wpAnyH_ready (rs:=[4]) qk qs ?_;refine J1 rfl (λK hK=>?_) J2;rw[Q7 (by rfl)]
  go_wp2_with (go_at_call 150;refine(Aa _).mono ?_;rintro h k ⟨rfl,R⟩)
  have l:Fr [] n k:=by rw[<-R];exact((r0 _ _).alloc _).alloc _
  have u:=ac.qT l;refine hK.out _ _ u (λ_=>?_);clear hK;refine wpAnyH_take (i:=5) (oi:=_) (v:=.agg (gs.toList++[Value.map (some d),Value.map (some (n.heap.size+1))]).toArray) rfl qk qk qk (λ_ _ _ m=>m) (Kv qk 210 #[(0,.tmp 4),(1,.tmp 7),(2,.tmp 8)] rfl _ (by simpa[Act.eval]using BS gs E (some d) (some (n.heap.size+1)))) u ?_;simp only[Act.put];refine wpAnyH_ready (rs:=[6]) qk qs ?_;refine J1 rfl (λK hK=>?_) J2;rw[Q7 (by rfl)]
  go_wp2_with fail
  refine hK.out _ _ (Fr.alloc u _) (fun _=>?_);clear hK;refine wpAnyH_take (i:=7) (oi:=_) (v:=.pointer (so k.heap.size)) rfl qk qk qk (fun _ _ _ m=>m) (.inl ⟨by kernel_rfl,fun V _=>by go_simp⟩) (Fr.alloc u _) ?_;refine wpAnyH_done qk ?_ _
  go_wp2_with fail
  go_meet
  have bp:k.heap.size=n.heap.size+1+1:=by rw[<-R];simp
  have az:=ab.size;have bi:=MapF.lt af;have bj:a.heap.size+1<=d:=by simpa using aw
  have bo:a.heap.size+1<=n.heap.size:=by simpa using az
  have ao:k.heap[n.heap.size+1]?=some (.map #[] 0):=by rw[<-R];exact lT _ _ _ qs
  exact⟨k.heap.size,d,n.heap.size+1,rfl,aC _ _,MapF.fr (MapF.fr af l qs) ((r0 [] k).alloc _) qs,((r0 [] k).alloc _).qH ao,by omega,by omega,by omega,by omega,u.alloc _⟩
 obtain⟨c,d,f,rfl,hT,C,L,l1,l2,l3,n6,ad⟩:=hcut;have O:=ad.qH B;have ak:=Y.qT ad;have ag:gs[148]?=some (.slice (so j) b.us.length g):=by rw[W.o];simp[aP,aK]
 have ar:wc.cell? ⟨a.heap.size,148,none⟩=some (.slice (so j) b.us.length g):=by rw[aB O];exact ag
 have bn:=Q.lt;have ai:=Q.fr ak qs;have w:=aA hT;have HX:=aA O;clear p X ae ap ax B O hT;have Zq:wc.cell? ⟨c,148,none⟩=some (.slice (so j) b.us.length g):=by rw[aB w.o];grind
 have Zr:wc.frozen? ⟨c,148,none⟩=false:=aV w.o;clear ag;have br:=aH w.o;have bs:=aH HX.o;have bk:¬a.heap.size=c:=qo;have bl:¬c=a.heap.size:=qo
 go_wp2_with (go_at_call 75;refine(uZ j g b.us _ ai P ay).mono ?_;rintro h k ⟨r,t,rfl,bm,ah,l⟩;obtain⟨aq,bc⟩:=l.qC)
 obtain⟨J,q⟩:=nm (k.setCell ⟨c,148,none⟩ (.slice (so r) b.us.length t));rw[<-q];have D:Fr [c] k J:=by rw[q];exact(r0 _ _).setCell _ _ qs
 have M:=l.qH w.o;have bf:=C.lt;have an:∃A z,wc.heap[d]?=some (.map A z):=by obtain⟨_,A,z,m,_⟩:=C;exact⟨A,z,m⟩
 obtain⟨A,z,be⟩:=an;have bd:=aH L;have H:c≠d/\c≠f:=by grind[Hi.o]
 have ba:TS J c r t d f {b with held:=dC b.us}:=by
  refine⟨λv hk=>?_,λv=>?_,ah.fr D qt,P,?_,?_,by omega,H.1,H.2,by omega,by omega,n6,by omega⟩
  ·by_cases av:v=148
   ·grind[eA,aK]
   rw[q,cE _ _ _ _ _ _ (.inr (λh=>av h.symm)),aB M];simp only[getElem?_toArray];have au:gs.toList.length=149:=by simpa using E
   by_cases bh:v<149
   ·rw[J7 qo];grind[aP,Hi.o,getElem?_range,aK,dC]
   rw[J8 qo,au];have:v=149\/v=150:=qo;obtain rfl|rfl:=this<;>simp[aK]
  ·rw[q,J9];exact aV M
  ·exact(MapF.fr (MapF.fr C l qs) D (by simp;exact λh=>H.1 h.symm))
  exact(MapF.made (l.qH L)).fr D (by simp;exact λh=>H.2 h.symm)
 have aj:Fr [] a J:=by rw[q];exact(ak.qT l).setCell _ _ (.inr (by show a.heap.size<=c;omega))
 clear q M Zq Zr ar D C L aq bc ah ai;have bq:=aj.size;go_wp2;go_ret;exact⟨c,r,t,d,f,rfl,aj,ba,by omega,by omega,by omega,by omega⟩
