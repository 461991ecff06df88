import Derived.Test.YtapabahhfanmmaaGreatDoorCRNum
import Derived.Test.YtapabahhfanmmaaGreatDoorCOver
import Derived.Lib.BufferWrite
import Derived.Deep.DeepCutAuto
import Derived.Deep.RegionLaw
import Derived.Lib.SliceRun
import Derived.Laws.BitsAllLaws
namespace Go.Proofs.YtapabahhfanmmaaGreatDoor
open Go.RowKit List Go.Proofs.Tryz
set_option maxHeartbeats 4000000
set_option maxRecDepth 100000
variable {A:Gf} {L S:List Nat} {O:List Stp} {R:List Value} {a:Nat} {r u v:Value} {w x y z:World}
theorem sK:(prog.info? 113).map (λa=>(a.zero,a.size,a.bytes))=some (some (.agg #[ii 0,.string ⟨#[]⟩,.string ⟨#[]⟩,.string ⟨#[]⟩]),4,56):=qk
theorem SVE.step{j:Nm->Prop}(c:SVE j w v u S A O)(l:Stp)(hown:x.ownsRow 0 113 4 r (O.length+1) (O.flatMap Stp.cells++l.cells))(n:w.grownBy x u.ownBlock)(m:r.ownBlock=u.ownBlock\/∃a,r.ownBlock=some a/\w.heap.size<=a):SVE j x v r (r.ownBlock.toList++S) A (O++[l]):=by
 have i:Fr u.ownBlock.toList w x:=iK (r0 _ _) n (λa b=>.inl qg);have B:∀a,a∈S->u.ownBlock≠some a->r.ownBlock≠some a:=λa b z h=>by
  obtain k|⟨o,k,y⟩:=m
  ·grind
  rw[k]at h;have:=c.lt a b;grind
 refine⟨c.map.fr i (λa b h=>(c.mb a b).2 qg),λf g d e=>(c.own f g d e).fr i (λa b h=>(c.blk f g a d e b).2.2.1 qg),?_,?_,?_,?_,?_⟩
 ·intro f g a d e b;obtain⟨p,q,s,t⟩:=c.blk f g a d e b;grind
 ·grind[SVE.mb]
 ·grind
 ·grind
 intro a b;obtain b|b:=m5.1 b
 ·exact(MV hown qg).2
 exact Z1 (c.lt a b) i.size
theorem SPost.keeps{ty:TypeId}{c:Nm->Prop}(b:SPost w a R ty S c A O x v u L)(e:Fr [] x y)(g:y.grownBy z u.ownBlock):SB z a R ty v u:=
  (b.bl.fr e qs).fr (iK (r0 u.ownBlock.toList y) g (λh f=>.inl (by simp[f]))) (λd=>b.nsb (b.sve.sb _ (qu d)))
theorem SPost.note{ty:TypeId}{j:Nm->Prop}(b:SPost w a R ty S j A O x v u L)(f:Fr [] x y)(i:Stp)(hown:z.ownsRow 0 113 4 r (O.length+1) (O.flatMap Stp.cells++i.cells))(h:y.grownBy z u.ownBlock)(k:r.ownBlock=u.ownBlock\/r.ownBlock=some y.heap.size)(s:a<w.heap.size):SPost w a R ty S j A (O++[i]) (z.setCell ⟨a,R.length+1,none⟩ r) v r (r.ownBlock.toList++L):=by
 have B:=b.fr.size;have t:=f.size;have p:=(b.sve.qF f).step i hown h qg;have o:=b.keeps f h;have l:a∉r.ownBlock.toList++L:=λg=>by
  obtain g|g:=m5.1 g
  ·obtain e|e:=k
   ·exact b.nsb (b.sve.sb _ qg)
   grind
  exact b.nsb g
 have n:=iK (b.fr.qT f) h (λc d=>by
  obtain m|m:=b.old c (b.sve.sb c d)
  ·grind
  omega)
 refine⟨o.set1 r,p.fr ((r0 [a] z).setCell _ _ (.inl qs)) (λc d e=>l ((show c=a by grind) ▸ d)),n.setCell _ _ (.inl qs),λc d=>?_,l⟩;obtain d|d:=m5.1 d
 ·have q:r.ownBlock=some c:=qg;obtain e|e:=k
  ·exact b.old c (b.sve.sb c qg)
  grind
 exact b.old c d
theorem zC(d:Nat)(m:List Value)(ty:TypeId)(B:Nm->Prop)(A f:Value)(S:List Nat)(E:Gf)(g:List Stp)(l:Nm)(e:World)(b:SB e d m ty A f)(H:SVE B e A f S E g)(ad:d∉S)(hl:g.length<=10000000):Cs 45 #[.pointer (some ⟨d,m.length,none⟩),sv l] e λa w'=>a=.returned (.tuple #[])/\∃ak R,SPost e d m ty S B E (g++[bQ l]) w' A ak R:=by
 obtain⟨ai,ab,af,ag,ah⟩:=Z2 sK;have Y:=b.c1;have aa:=b.fz (m.length+1);have ap:=b.lt;obtain⟨L,y⟩:=nm m.length;rw[<-y]at Y aa |-;have O:=aA y;clear y;obtain⟨s,r⟩:∃t:ByteArray,t=⟨l.toArray⟩:=⟨_,rfl⟩;have am:=aA r;rw[sv,<-r];have I:(bQ l).cells=[ii 2,.string s,.string ⟨#[]⟩,.string ⟨#[]⟩]:=by rw[r]
 clear r;obtain⟨h,x⟩:=nm (e.alloc (.cells #[ii 2,.string s,.string ⟨#[]⟩,.string ⟨#[]⟩] 113));have k:Fr [] e h:=by grind[Fr.alloc,r0]
 have u:=aA (H.qF k);have M:=aA (b.fr k qs);have D:=aA u.o.st;have C:Hi (∀(J:Nat) (t:Value),([ii 2,.string s,.string ⟨#[]⟩,.string ⟨#[]⟩]:List Value)[J]?=some t->h.cell? ((⟨e.heap.size,0,none⟩:Addr).add J)=some t):=by simp_all[Addr.add_lit,Nat.zero_add]
 have P:=aA I;have w:=aA (λc (p:h.grownBy c f.ownBlock)=>M.o.fr (iK (r0 f.ownBlock.toList h) p (λo b=>.inl (by simp[b]))) (λa=>ad (u.o.sb _ (qu a))));have N:Hi (∀c,h.grownBy c f.ownBlock->c.cell? ⟨d,L+1,none⟩=some f/\c.frozen? ⟨d,L+1,none⟩=false):=λc p=>⟨by rw[O.o];exact(w.o c p).c1,(w.o c p).fz _⟩;rw[x]at D C;have Q:=aA x;clear b H x I
 delta Cs;go_in
 go_wp2_with (at_builtin;refine wpList_append_own_at _ rfl _ _ 34 rfl 0 113 ai (.agg #[ii 0,.string ⟨#[]⟩,.string ⟨#[]⟩,.string ⟨#[]⟩]) 4 56 m7 ab af ag ah rfl qd f g.length (g.flatMap Stp.cells) rfl D.o ⟨e.heap.size,0,none⟩ 1 1 [ii 2,.string s,.string ⟨#[]⟩,.string ⟨#[]⟩] rfl rfl C.o qc qm qo (Z3 _) ?_;intro n c z j aq i;rw[<-Q.o]at j i;obtain⟨ao,ar⟩:=N.o c j;obtain⟨V,aj,rfl⟩:=fD z)
 obtain⟨n,ae⟩:=nm (Value.slice V (g.length+1) aj);rw[<-ae]at z i |-;have an:=w.o c j;have ac:=u.o.step (bQ l) (by rw[P.o];exact z) j (i.imp_right (λa=>⟨_,a,Q9 _⟩));have F:d∉n.ownBlock.toList++S:=λq=>by
  obtain q|q:=m5.1 q
  ·obtain a|a:=i
   ·grind[SVE.sb,Hi.o]
   rw[a]at q;have:=k.size;grind
  grind
 have W:=iK (k.qO (S:=d::S)) j (by grind[SVE.sb,Hi.o]);refine Q5 (v:=.tuple #[]) (Q6 rfl _ _ _) rfl ⟨rfl,n,n.ownBlock.toList++S,?_,?_,W.setCell _ _ (.inl qs),λo b=>?_,F⟩
 ·grind[Hi.o,SB.set1]
 ·exact ac.fr ((r0 [d] c).setCell _ _ (.inl qs)) (λo b a=>F ((show o=d by simpa using a) ▸ b))
 obtain b|b:=m5.1 b
 ·have X:n.ownBlock=some o:=qg;obtain a|a:=i
  ·grind[SVE.sb,Hi.o]
  rw[a]at X;have:=k.size;grind
 grind
theorem SVE.fiv_own{b:Nm->Prop}(c:SVE b w v u S A O)(a:Nm)(d:¬b a):ownM w 0 (eH A a) (aX A a):=by
 unfold eH aX;cases e:A a with
 |none=>exact .inl qg
 |some f=>exact c.own a f d e
theorem SVE.fiv_blk{e:Nm->Prop}(h:SVE e w v u S A O)(c:Nm)(i:¬e c)(b:(eH A c).ownBlock=some a):a∈S/\jY v≠some a/\u.ownBlock≠some a/\∀g d,¬e g->A g=some d->d.1.ownBlock=some a->g=c:=by
 unfold eH at b;cases f:A c with
 |none=>rw[f]at b;simp[Value.ownBlock]at b
 |some d=>rw[f]at b;exact h.blk c d a i f b
theorem SVE.hole{f:Nm->Prop}(c:SVE f w v u S A O)(d:Nm)(j:¬f d)(h:Fr (eH A d).ownBlock.toList w x):SVE (λb=>f b\/b=d) x v u S A O:=by have p:∀a,a∈(eH A d).ownBlock.toList->a∈S/\jY v≠some a/\u.ownBlock≠some a/\∀b e,¬f b->A b=some e->e.1.ownBlock=some a->b=d:=λa g=>c.fiv_blk d j qg;refine⟨c.map.fr h qg,λb e k i=>(c.own b e qg i).fr h qg,λb e a k i g=>?_,c.mb,gY c.st h qg,c.sb,λa g=>Z1 (c.lt a g) h.size⟩;obtain⟨l,m,n,o⟩:=c.blk b e a qg i g;grind
theorem uQ(i:Nat)(s:List Value)(ty:TypeId)(z:Nm->Prop)(y k:Value)(S:List Nat)(d:Gf)(t:List Stp)(a:Nm)(j:List UInt8)(e:World)(c:SB e i s ty y k)(W:SVE z e y k S d t)(cn:i∉S)(C:¬z a)(hl:t.length<=10000000)(hx:(aX d a).length+j.length<=100000000000000):Cs 43 #[.pointer (some ⟨i,s.length,none⟩),sv a,sv j] e λf w'=>f=.returned (.tuple #[])/\∃v' Zs cb S',SPost e i s ty S z (λh=>if h=a then some (v',aX d a++j)else d h) (t++[bV a j]) w' Zs cb S':=by
 obtain⟨bx,br,bu,bv,bw⟩:=Z2 sK;have V:=c.c0;have bs:=c.lt;have an:=W.map.lookG1 a;have hown:=W.fiv_own a C;obtain⟨o,r,X⟩:=hown.slice;rw[X]at an;obtain⟨P,ho⟩:=nm s.length;rw[<-ho]at V |-;have A:=aA ho;clear ho;obtain⟨Y,Zq⟩:∃j:ByteArray,j=⟨a.toArray⟩:=⟨_,rfl⟩;obtain⟨J,ai⟩:∃Q:ByteArray,Q=⟨j.toArray⟩:=⟨_,rfl⟩;have bm:=aA Zq;have bj:=aA ai;rw[sv,<-Zq]at an |-;rw[sv,<-ai];have cc:Hi ((bV a j).cells=[ii 1,.string Y,.string ⟨#[]⟩,.string J]):=qg;clear Zq ai;obtain⟨w,ae⟩:=nm (e.alloc (.cells #[.slice o (aX d a).length r] 174));have q:Fr [] e w:=by grind[Fr.alloc,r0]
 have B:Hi (ownM w 0 (.slice o (aX d a).length r) (aX d a)):=by have:=hown.fr q qs;rw[X]at this;exact this
 have aa:Hi (w.heap[e.heap.size]?=some (.cells #[.slice o (aX d a).length r] 174)):=by show _=_;grind[aC]
 have bk:=aA X;have g:=aA W;have HB:=aA c;have ab:Hi (∀l,w.grownBy l (Value.slice o (aX d a).length r).ownBlock->l.cell? ⟨e.heap.size,0,none⟩=some (.slice o (aX d a).length r)/\l.frozen? ⟨e.heap.size,0,none⟩=false):=λl x=>by
  have hf:Fr (Value.slice o (aX d a).length r).ownBlock.toList w l:=iK (r0 _ _) x (λb c=>.inl qg);have hn:e.heap.size∉(Value.slice o (aX d a).length r).ownBlock.toList:=λf=>by have:=(hown.base (b:=e.heap.size) qg).2;omega
  have:=hf.heap aa.o hn;exact⟨aB this,aV this⟩
 rw[ae]at B ab;have aw:=aA ae;clear c W hown X ae V;have V:e.cell? ⟨i,P,none⟩=some y:=by rw[A.o];exact(show SB _ _ _ _ _ _ from HB.o).c0
 delta Cs;go_in
 go_wp2_with (at_builtin;refine PD rfl _ _ rfl 0 (.slice o (aX d a).length r) (aX d a) j rfl B.o (show Value.string J=_ by rw[bj.o]) hx (Z3 _) ?_;intro n l N aj p;obtain⟨cf,cq⟩:=ab.o l aj;obtain⟨ac,av,rfl⟩:=N.slice)
 rw[<-aw.o]at aj p;have bf:Value.slice ac (aX d a++j).length av=.slice ac ((aX d a).length+j.length) av:=by rw[m8]
 rw[bf]at N p;obtain⟨n,Zr⟩:=nm (Value.slice ac ((aX d a).length+j.length) av);have cd:=aA Zr;rw[<-Zr]at N p |-;clear bf Zr ab;have ba:w.grownBy l (eH d a).ownBlock:=by grind[Hi.o]
 have L:Fr (eH d a).ownBlock.toList w l:=iK (r0 _ _) ba (λb c=>.inl qg);have ah:=λb (c:(eH d a).ownBlock=some b)=>(g.o.fiv_blk a C c).1;have ad:=L.heap aa.o (λf=>by have:=g.o.lt _ (ah _ (qu f));omega);obtain⟨I,af⟩:=nm (l.setCell ⟨e.heap.size,0,none⟩ n);have D:Fr [e.heap.size] l I:=by grind[Fr.setCell,r0]
 have co:=aH ad;have bo:I.heap[e.heap.size]?=some (.cells #[n] 174):=by rw[af,iE ad];rfl
 have bd:=(g.o.qF q).hole a C L;have ar:=bd.fr D (λb c f=>Nat.lt_irrefl _ ((show b=e.heap.size by grind) ▸ g.o.lt b c));have cp:=D.size;have bp:∀b,n.ownBlock=some b->b∈S\/e.heap.size<=b:=λb c=>by grind[Hi.o]
 have ay:∀b,n.ownBlock=some b->b≠e.heap.size:=λb c f=>by
  obtain m|⟨b',m,am⟩:=p
  ·have:=g.o.lt b (ah b (by grind[Hi.o]));omega
  grind[Hi.o]
 have ap:=N.fr D (λb c f=>ay b c qg);have be:SVE (λh=>z h\/h=a) I y k (n.ownBlock.toList++S) d t:=ar.mono (λb c=>by grind) (λb c=>by
  obtain c|c:=m5.1 c
  ·exact(ap.base qg).2
  exact ar.lt b c)
 have bg:=((q.qO (S:=i::S)).trans L (λb c=>.inl qg)).trans D qs;have hb3:SB I i s ty y k:=((show SB e i s ty y k from HB.o).fr q qs).fr (L.mono (S':=e.heap.size::S) (λb c=>.inl qg)) qg |>.fr D qg;have bb:i∉n.ownBlock.toList++S:=λhm=>by grind
 have aq:=xZ i s ty (λh=>z h\/h=a) y k (n.ownBlock.toList++S) d t a n (aX d a++j) I hb3 be bb ap (λb c=>by
  refine⟨qg,λf=>?_,λf=>?_,λh bh M x bc=>?_⟩
  ·obtain m|⟨b',m,am⟩:=p
   ·exact(g.o.fiv_blk a C (by grind[Hi.o])).2.1 f
   rw[m]at c;have:=m9 c;have:=g.o.lt b (g.o.mb b f).1;have:=q.size;omega
  ·obtain m|⟨b',m,am⟩:=p
   ·exact(g.o.fiv_blk a C (by grind[Hi.o])).2.2.1 f
   rw[m]at c;have:=m9 c;have:=g.o.lt b (g.o.sb b f);have:=q.size;omega
  obtain m|⟨b',m,am⟩:=p
  ·exact(g.o.fiv_blk a C (by grind[Hi.o])).2.2.2 h bh (λf=>M (.inl f)) x bc
  rw[m]at c;have:=m9 c;have:=g.o.lt b (g.o.blk h bh b (λf=>M (.inl f)) x bc).1;have:=q.size;omega)
 rw[<-A.o,sv,<-bm.o]at aq;rw[<-af];clear ad bd ar be hb3 L aj p N ap af;refine cm aq ?_;rintro f F ⟨rfl,bz,S4,E⟩;clear aq;have hP:SPost e i s ty S z (λh=>if h=a then some (n,aX d a++j)else d h) t F bz k S4:=⟨E.bl,E.sve.weak (λh M=>M.1.resolve_right M.2),bg.trans E.fr (λb c=>by
   grind),λb c=>by
   obtain h1|h1:=E.old b c
   ·grind
   omega,E.nsb⟩
 have u:=aA hP;clear E hP bp ay ah bo bg bb g HB bk B aa aw V D ba q an;obtain⟨R,ag⟩:=nm (F.alloc (.cells #[ii 1,.string Y,.string ⟨#[]⟩,.string J] 113));have O:Fr [] F R:=by grind[Fr.alloc,r0]
 have cg:F.cell? ⟨i,P+1,none⟩=some k:=by rw[A.o];exact u.o.bl.c1
 have bq:R.cell? ⟨i,P+1,none⟩=some k:=by rw[A.o];exact(u.o.bl.fr O qs).c1
 have B:=aA ((u.o.sve.qF O).st);have HN:Hi (∀(au:Nat) (Q:Value),([ii 1,.string Y,.string ⟨#[]⟩,.string J]:List Value)[au]?=some Q->R.cell? ((⟨F.heap.size,0,none⟩:Addr).add au)=some Q):=by intro au Q hy;simp_all[Addr.add_lit,Nat.zero_add]
 have bi:Hi (∀H,R.grownBy H k.ownBlock->H.cell? ⟨i,P+1,none⟩=some k/\H.frozen? ⟨i,P+1,none⟩=false):=λH x=>⟨by rw[A.o];exact(u.o.keeps O x).c1,(u.o.keeps O x).fz _⟩;rw[ag]at B HN bq;have bn:=aA ag;clear ag;have cj:=u.o.bl.lt
 go_wp2_with (at_builtin;refine wpList_append_own_at _ rfl _ _ 34 rfl 0 113 bx (.agg #[ii 0,.string ⟨#[]⟩,.string ⟨#[]⟩,.string ⟨#[]⟩]) 4 56 m7 br bu bv bw rfl qd k t.length (t.flatMap Stp.cells) rfl B.o ⟨F.heap.size,0,none⟩ 1 1 [ii 1,.string Y,.string ⟨#[]⟩,.string J] rfl rfl HN.o qc qm qo (Z3 _) ?_;intro v' H bt ak ck ax;rw[<-bn.o]at ak ax;obtain⟨ch,cr⟩:=bi.o H ak;obtain⟨ce,cs,rfl⟩:=fD bt)
 have az:=u.o.note O (bV a j) (by grind[Hi.o]) ak ax bs;rw[<-A.o]at az;exact Q5 (v:=.tuple #[]) (Q6 rfl _ _ _) rfl ⟨rfl,_,_,_,_,az⟩
theorem He{d:Nm->Option Value}(g:MapS w a d)(ty f:TypeId)(c:Nm):∃b,(Builtin.delete_ #[93,f] ty #[.map (some a),sv c]).run prog w=.ok (.tuple #[]) b/\MapS b a (λe=>if e=c then none else d e)/\Fr [a] w b:=by obtain⟨j,h,i⟩:=g.del 93 ty f 174 n8 c;grind[Fr.setObj,r0]
theorem SVE.del{n:Nm->Prop}(e:SVE n w (.map (some a)) v S A O)(h:Nm)(i:MapS x a (λb=>if b=h then none else(A b).map iJ))(l:Fr [a] w x):SVE (λb=>n b/\b≠h) x (.map (some a)) v S (λb=>if b=h then none else A b) O:=by
 have o:∀c,v.ownBlock=some c->c∉[a]:=λc g i=>by have:c=a:=qg;subst this;exact(e.mb c rfl).2 g
 refine⟨.inr ⟨a,rfl,i.congr (λb=>?_)⟩,?_,?_,e.mb,gY e.st l o,e.sb,λc g=>Z1 (e.lt c g) l.size⟩
 ·by_cases d:b=h<;>simp[d]
 ·intro b j k f
  by_cases d:b=h
  ·rw[Q7 d]at f;cases f
  rw[Z0 d]at f;exact(e.own b j (λm=>k ⟨m,d⟩) f).fr l (λc g i=>(e.blk b j c (λm=>k ⟨m,d⟩) f g).2.1 (by simp[jY];exact(by simpa using i:c=a).symm))
 intro b j c k f g
 by_cases d:b=h
 ·grind
 rw[Z0 d]at f;obtain⟨p,q,r,s⟩:=e.blk b j c qg f g;grind
abbrev eQ:Nm->Prop:=λ_=>False
theorem MP(d:Nat)(k:List Value)(ty:TypeId)(N g:Value)(p:List Nat)(b:Gf)(j:List Stp)(a e:Nm)(l:World)(w:SB l d k ty N g)(J:SVE eQ l N g p b j)(ak:d∉p)(hl:j.length<=10000000):Cs 86 #[.pointer (some ⟨d,k.length,none⟩),sv a,sv e] l λB w'=>B=.returned (.tuple #[])/\∃ar Zr S',SPost l d k ty p eQ (λc=>if c=a then none else if c=e then some (eH b a,aX b a)else b c) (j++[dI a e]) w' ar Zr S':=by
 obtain⟨aq,ah,am,an,ap⟩:=Z2 sK;have ai:=w.lt;have F:=J.map.lookG1 a;have hown:=J.fiv_own a qs;obtain⟨ao,lc,z⟩:=hown.slice;have y:=xZ d k ty (λc=>c=e\/c=a) N g p b j e (eH b a) (aX b a) l w (by grind[SVE.weak]) ak hown (by grind[SVE.fiv_blk]);have V:=w.c0;obtain⟨r,H⟩:=nm k.length;rw[<-H]at V y |-;have o:=aA H;clear H;obtain⟨A,L⟩:∃au:ByteArray,au=⟨a.toArray⟩:=⟨_,rfl⟩;obtain⟨u,D⟩:∃s:ByteArray,s=⟨e.toArray⟩:=⟨_,rfl⟩;have ac:=aA L;have av:=aA D;rw[sv,<-L]at F |-;rw[sv,<-D]at y |-;have ax:Hi ((dI a e).cells=[ii 3,.string A,.string u,.string ⟨#[]⟩]):=qg;clear L D;rw[z]at F;have I:=y;rw[show Value.agg #[eH b a]=.agg #[.slice ao (aX b a).length lc] by rw[z]]at I;have aw:=aA z;clear w J hown z y
 delta Cs;go_in
 go_wp2_with fail
 refine cm I ?_;rintro B w4 ⟨rfl,Zq,S4,f⟩;clear I;obtain⟨h,rfl,Y⟩:∃h,Zq=.map (some h)/\MapS w4 h (λc=>((if c=e then some (eH b a,aX b a)else b c:Option (Value×List UInt8))).map iJ):=by
  obtain⟨_,Q⟩|⟨h,h1,Q⟩:=f.sve.map
  ·have:=Q e;grind
  grind
 have bb:w4.cell? ⟨d,r,none⟩=some (.map (some h)):=by rw[o.o];exact f.bl.c0
 obtain⟨m,af,X,x⟩:=He Y 0 9 a;rw[sv,<-ac.o]at af;have aa:=(f.sve.mb h rfl).1;have R:SPost l d k ty p eQ (λc=>if c=a then none else if c=e then some (eH b a,aX b a)else b c) j m (.map (some h)) g S4 :=
  ⟨f.bl.fr x (λB=>f.nsb ((show d=h by grind) ▸ aa)),(f.sve.del a X x).weak qg,f.fr.trans x (by grind[SPost.old]),f.old,f.nsb⟩
 have i:=aA R;clear f R Y X x aa F V;obtain⟨t,C⟩:=nm (m.alloc (.cells #[ii 3,.string A,.string u,.string ⟨#[]⟩] 113));have q:Fr [] m t:=by grind[Fr.alloc,r0]
 have az:m.cell? ⟨d,r+1,none⟩=some g:=by rw[o.o];exact i.o.bl.c1
 have ae:t.cell? ⟨d,r+1,none⟩=some g:=by rw[o.o];exact(i.o.bl.fr q qs).c1
 have P:=aA ((i.o.sve.qF q).st);have O:Hi (∀(M:Nat) (s:Value),([ii 3,.string A,.string u,.string ⟨#[]⟩]:List Value)[M]?=some s->t.cell? ((⟨m.heap.size,0,none⟩:Addr).add M)=some s):=by intro M s hy;simp_all[Addr.add_lit,Nat.zero_add]
 have ab:Hi (∀n,t.grownBy n g.ownBlock->n.cell? ⟨d,r+1,none⟩=some g/\n.frozen? ⟨d,r+1,none⟩=false):=λn W=>⟨by rw[o.o];exact(i.o.keeps q W).c1,(i.o.keeps q W).fz _⟩;rw[C]at P O ae;have ad:=aA C;clear C;have bc:=i.o.bl.lt
 go_wp2_with (at_builtin;refine wpList_append_own_at _ rfl _ _ 34 rfl 0 113 aq (.agg #[ii 0,.string ⟨#[]⟩,.string ⟨#[]⟩,.string ⟨#[]⟩]) 4 56 m7 ah am an ap rfl qd g j.length (j.flatMap Stp.cells) rfl P.o ⟨m.heap.size,0,none⟩ 1 1 [ii 3,.string A,.string u,.string ⟨#[]⟩] rfl rfl O.o qc qm qo qo ?_;intro v' n aj E bd S;rw[<-ad.o]at E S;obtain⟨ba,be⟩:=ab.o n E;obtain⟨ay,bf,rfl⟩:=fD aj)
 have ag:=i.o.note q (dI a e) (by grind[Hi.o]) E S ai;rw[<-o.o]at ag;exact Q5 (v:=.tuple #[]) (Q6 rfl _ _ _) rfl qg
set_option maxRecDepth 100000
theorem Dp:prog.underlying 255=some (.pointer 5):=qk
theorem XL:(prog.info? 5).map (λa=>(a.zero,a.size,a.bytes))=some (some (.int .u8 0),1,1):=qk
theorem YO(f:List UInt8)(b:World)(H:f.length<=1000000000):Cs 128 #[.string ⟨f.toArray⟩] b (R0 b (.string ⟨f.toArray⟩)):=by
 obtain⟨a,e⟩:∃a:ByteArray,a=⟨f.toArray⟩:=⟨_,rfl⟩;have n:a.size=f.length:=by rw[e];rfl
 have m:a.data.toList=f:=by rw[e]
 rw[<-e];clear e
 by_cases q:a.size=0
 ·have e:a=⟨#[]⟩:=by apply n9;grind
  subst e;clear n m
  delta Cs;go_in
  go_wp2;go_ret;simp_all[r0]
 obtain⟨o,l,A,B,J⟩:=Z2 XL;have x:(prog.info? 5).map (·.size)=some 1:=qg;have v:prog.cellsOf 5=1:=by simp[Program.cellsOf,l,B]
 obtain⟨c,i⟩:=nm (madeCells (Value.int .u8 0).cells (((a.size:Nat):Int).toNat*o.size));have E:c.size=a.size:=by grind[size_madeCells]
 have I:∀g:World,(Instr.makeSlice 168 (ii (a.size:Int)) (ii (a.size:Int))).run prog g=.ok (.slice (so g.heap.size) a.size a.size) (g.alloc (.cells c 5)):=λg=>by have h:=run_make (P:=prog) g 168 5 o (.int .u8 0) l6 l A .i64 .i64 (a.size:Int) (a.size:Int) qo qo qg qo;rw[<-i]at h;simpa using h
 clear i;have w:=Lib.run_copy_row_string (P:=prog) (b.alloc (.cells c 5)) 168 9 3 5 b.heap.size 0 a.size a.size a c 5 l6 x (aC b _) qo qo;obtain⟨d,j⟩:=nm ((c.toList.take 0++Lib.byteCells a.data.toList++c.toList.drop (0+a.size)).toArray);rw[<-j]at w;have s:d.toList=Lib.byteCells a.data.toList:=by simp_all
 have F:d.size=a.size:=by grind[Lib.byteCells_length]
 have k:((b.alloc (.cells c 5)).setRow b.heap.size d).heap[b.heap.size]?=some (.cells d 5 (0,0)):=(by grind[setRow_heap,aC]);have y:a.data.toList≠[]:=λD=>q qg;have r:=Lib.run_unsafeString_row (P:=prog) ((b.alloc (.cells c 5)).setRow b.heap.size d) 255 3 9 5 Dp v b.heap.size d.size (by unfold World.shape?;rw[k]) a.data.toList y qg qg
  (λC L z=>Lib.cells_of_row k d.size C _ (by rw[l8 qg,s];simp[Lib.byteCells,z]))
 rw[<-Lib.size_eq]at r;clear j n m
 delta Cs;go_in
 go_wp2;go_ret;have t:Below b.heap.size b (b.alloc (.cells c 5)):=(Below.refl _ b).alloc qo _;have u:Below b.heap.size (b.alloc (.cells c 5)) ((b.alloc (.cells c 5)).setRow b.heap.size d):=⟨rfl,rfl,rfl,qs,(by grind[setRow_other])⟩;exact⟨rfl,Fr.of_below (Lib.below_freeze (t.trans u) (p:=⟨b.heap.size,0,none⟩) qg _)⟩
theorem It(a:List UInt8)(b:World)(f:a.length<=1000000000):Cs 88 #[.string ⟨a.toArray⟩] b (R0 b (.string ⟨a.toArray⟩)):=by
 have c:=YO a b f;obtain⟨e,d⟩:∃e:ByteArray,e=⟨a.toArray⟩:=⟨_,rfl⟩;rw[<-d]at c |-;clear d
 delta Cs;go_in
 go_wp2_with fail
 refine cm c ?_;rintro g i ⟨rfl,h⟩;go_wp2;go_ret;simp_all
variable {M:List Nat}
theorem SPost.refl{ty:TypeId}{b:Nm->Prop}(c:SB w a R ty v u)(d:SVE b w v u S A O)(e:a∉S):SPost w a R ty S b A O w v u S:=⟨c,d,r0 _ _,qg,e⟩
theorem SPost.qT{ty:TypeId}{S:List Nat}{d:Nm->Prop}(b:SPost w a R ty S d A O x v u L)(c:Fr [] x y):SPost w a R ty S d A O y v u L:=
  ⟨b.bl.fr c qs,b.sve.qF c,b.fr.qT c,b.old,b.nsb⟩
theorem SPost.trans{ty:TypeId}{S:List Nat}{i d:Nm->Prop}{e:Gf}{g:List Stp}{h:Value}(f:SPost w a R ty S i A O x v u L)(c:SPost x a R ty L d e g y r h M):SPost w a R ty S d e g y r h M:=by
 have k:=f.fr.size;refine⟨c.bl,c.sve,f.fr.trans c.fr (λb j=>?_),λb j=>?_,c.nsb⟩
 ·grind[SPost.old]
 grind[SPost.old]
theorem SVE.ones(d:SVE eQ w v u S A O)(c:Nm):∃a e b,eH A c=.slice a e b:=by obtain⟨a,b,f⟩:=(d.fiv_own c qs).slice;grind
set_option maxRecDepth 100000
theorem NK(a:List Stp):(a.flatMap Stp.cells).length=a.length*4:=by
 induction a with
 |nil=>rfl
 |cons c a b=>rw[l9,m8,b];grind
theorem Hh(d:List Stp):∀b∈d.flatMap Stp.cells,b.oneCell'=true:=by intro b c;obtain⟨e,_,a⟩:=i6.1 c;simp at a;obtain rfl|rfl|rfl|rfl:=a<;>rfl
theorem Hy(l:Value)(a:List Stp)(b:World)(hown:b.ownsRow 0 113 4 l a.length (a.flatMap Stp.cells))(R:a.length<=10000000)(S:0<a.length):Cs 78 #[l] b λr p=>∃h,r=.returned h/\p.ownsRow b.heap.size 113 4 h a.length (a.flatMap Stp.cells)/\Fr [] b p:=by
 obtain⟨D,u,A,B,C⟩:=Z2 sK;obtain⟨e,c,d,rfl,_,j,Q,O,y,z⟩:∃f c d,l=.slice (so f) a.length c/\0<=f/\b.heap[f]?=some (.cells d 113)/\a.length<=c/\c<=maxLen/\d.size=c*4/\d.toList.take (a.length*4)=a.flatMap Stp.cells:=by
  obtain⟨_,E⟩|⟨f,c,d,F,H,I,J,L,M,N⟩:=hown.2
  ·omega
  grind
 have V:∀m:World,(binOp BinOp.eql 34 (.slice (so e) a.length c) (.slice none 0 0)).run prog m=.ok (.bool false) m:=λm=>by kernel_rfl
 have hnews:∀(i:World),i.heap[e]?=b.heap[e]?->∀g k,(a.flatMap Stp.cells)[g]?=some k->i.cell? ((⟨e,0,none⟩:Addr).add g)=some k:=by intro i s g k X;have P:g<a.length*4:=qg;rw[i7,Z9,aB (s.trans j)];grind
 have q:=aA hnews;have x:=aH j;clear hnews j y z hown;have w:(b.alloc (.cells #[] 113)).ownsRow b.heap.size 113 4 (.slice (so b.heap.size) 0 0) 0 []:=⟨rfl,.inr ⟨_,0,#[],rfl,Q9 _,aC _ _,Q9 _,by decide,rfl,rfl⟩⟩
 delta Cs;go_in
 go_wp2_with (at_builtin;refine wpList_append_own _ rfl _ _ 34 rfl b.heap.size 113 D (.agg #[ii 0,.string ⟨#[]⟩,.string ⟨#[]⟩,.string ⟨#[]⟩]) 4 56 m7 u A B C rfl qd (.slice (so b.heap.size) 0 0) 0 [] rfl w ⟨e,0,none⟩ a.length c (a.flatMap Stp.cells) rfl (NK a) (q.o _ (eL _ _ _ x)) (Hh a) qo qo qs ?_;intro h w2 n t W)
 go_ret;simp only[Nat.zero_add,nil_append]at n;exact⟨h,rfl,n,iK ((r0 [] b).alloc _) t (λY v=>.inr (by simp[Value.ownBlock]at v;omega))⟩
theorem Is(i:Nat)(c:List Value)(ty:TypeId)(o d:Value)(a:List Stp)(b:World)(g:SB b i c ty o d)(hown:b.ownsRow 0 113 4 d a.length (a.flatMap Stp.cells))(m:a.length<=10000000)(n:0<a.length):Cs 37 #[.pointer (some ⟨i,c.length,none⟩)] b λf j=>∃e,f=.returned e/\j.ownsRow b.heap.size 113 4 e a.length (a.flatMap Stp.cells)/\Fr [] b j:=by
 have k:=g.c1;have l:=Hy d a b hown m n;obtain⟨r,h⟩:=nm c.length;rw[<-h]at k |-;clear h hown g
 delta Cs;go_in
 go_wp2_with fail
 refine cm l ?_;rintro f s ⟨e,rfl,q,p⟩;go_wp2;go_ret;simp_all
abbrev Pf:=List UInt8×List UInt8
def FilesV(g:World)(h:Value)(c:List Pf):Prop:=(∃i d,h=.slice i 0 d/\c=[])\/∃a e d,h=.slice (some ⟨a,e,none⟩) c.length d/\a<g.heap.size/\∀b f,c[b]?=some f->g.cell? ⟨a,e+b*2,none⟩=some (sv f.1)/\g.cell? ⟨a,e+b*2+1,none⟩=some (sv f.2)
variable {P:List Pf}
theorem FilesV.fr{S:List Nat}(a:FilesV w v P)(f:Fr S w x)(l:∀c∈S,w.heap.size<=c):FilesV x v P:=by
 obtain a|⟨b,h,g,d,e,j⟩:=a
 ·exact .inl a
 have k:b∉S:=λi=>by grind
 exact .inr ⟨b,h,g,d,Z1 e f.size,(by grind[Fr.cell])⟩
def cV(a:List Pf)(b:Nm):Option (List UInt8):=(a.find? (λc=>c.1==b)).map (·.2)
theorem GZ{b:Pf}(d:(P.map (·.1)).Nodup)(c:P[a]?=some b):cV (P.take a) b.1=none:=by unfold cV;rw[Option.map_eq_none_iff,find?_eq_none];grind[getElem?_of_mem,gs,length_take,getElem?_take_of_lt,pairwise_iff_getElem]
theorem YT{c:Pf}(f:(P.map (·.1)).Nodup)(d:P[a]?=some c)(b:Nm):cV (P.take (a+1)) b=if b=c.1 then some c.2 else cV (P.take a) b:=by obtain⟨h,g⟩:=gs.1 d;have e:=GZ f d;unfold cV at e |-;grind[take_succ_eq_append_getElem]
theorem TL(b:List UInt8)(j:b.length<=100000000000000):∃(f:World->World) (g:World->Nat),(∀a,(convert 9 168 (.string ⟨b.toArray⟩)).run prog a=.ok (.slice (so a.heap.size) b.length (g a)) (f a))/\(∀a,ownM (f a) a.heap.size (.slice (so a.heap.size) b.length (g a)) b)/\∀a,Fr [] a (f a):=by
 have d:∀a:World,∃(c:Nat) (e:World),(convert 9 168 (.string ⟨b.toArray⟩)).run prog a=.ok (.slice (so a.heap.size) b.length c) e/\ownM e a.heap.size (.slice (so a.heap.size) b.length c) b/\Fr [] a e:=λa=>by
  obtain⟨k,e,n,i,h,o⟩:=DC b a j;obtain⟨c,rfl⟩:∃c,k=.slice (so a.heap.size) b.length c:=by
   obtain⟨rfl,_⟩|⟨m,l,rfl,_⟩:=i
   ·simp[Value.ownBlock]at h
   simp[Value.ownBlock]at h;grind
  grind
 exact⟨λa=>Classical.choose (i8 (d a)),λa=>Classical.choose (d a),λa=>(i8 (i8 (d a))).1,λa=>(i8 (i8 (d a))).2.1,λa=>(i8 (i8 (d a))).2.2⟩
theorem SVE.empty(f:World):SVE eQ f (.map none) (.slice none 0 0) [] (λ_=>none) []:=by
 refine⟨.inl qg,λd e _ a=>?_,λd e c _ a=>?_,λc b=>?_,⟨rfl,.inl ⟨rfl,rfl⟩⟩,λc b=>?_,by simp⟩
 ·simp at a
 ·simp at a
 ·simp[jY]at b
 simp[Value.ownBlock]at b
structure OfI (w:World) (sb:Nat) (l:List Pf) (k:Nat) (wr:World):Prop where
 ex:∃mv S g,SB wr sb [] 95 mv (.slice none 0 0)/\SVE eQ wr mv (.slice none 0 0) S g []/\(∀n,(g n).map (·.2)=cV (l.take k) n)/\(∀b∈S,w.heap.size+2<=b)/\sb∉S
 fr:Fr [] w wr
abbrev LV{h:Type}(g:World)(l:Nat)(j:h->List Value)(f:Value)(a:List h):Prop:=(∃i d,f=.slice i 0 d/\a=[])\/∃c e d,f=.slice (some ⟨c,e,none⟩) a.length d/\c<g.heap.size/\∀(b:Nat) (k:b<a.length),g.rangeAt c (e+b*l) (j (a[b]'k))
def CmdR(c:World)(b:Value)(a:List Cm):Prop:=LV c 5 Cm.cells b a
theorem CmdR.qF{v:Value}{d:List Cm}(a:CmdR w v d)(c:Fr [] w x):CmdR x v d:=by
 obtain a|⟨e,m,l,f,b,g⟩:=a
 ·exact .inl a
 refine .inr ⟨e,m,l,f,Z1 b c.size,λk h j n i=>?_⟩;rw[c.cell e _ b qs];exact g k h j n i
structure OpD where
 kind:Int
 fa:Option Addr
 fn:Nat
 fc:Nat
 sa:Option Addr
 sn:Nat
 sc:Nat
 tx:ByteArray
 ia:Option Addr
 il:Nat
 ic:Nat
 n:Int
 ga:Option Addr
 gl:Nat
 gc:Nat
 fst:List Cm
 snd:List Cm
abbrev OpD.f(a:OpD):Value:=.slice a.fa a.fn a.fc
abbrev OpD.s(a:OpD):Value:=.slice a.sa a.sn a.sc
abbrev OpD.cells(a:OpD):List Value:=[ii a.kind,.slice a.fa a.fn a.fc,.slice a.sa a.sn a.sc,.string a.tx,.slice a.ia a.il a.ic,ii a.n,.slice a.ga a.gl a.gc]
structure OpV (w:World) (d:OpD):Prop where
 f:CmdR w d.f d.fst
 s:CmdR w d.s d.snd
 fl:d.fst.length<=2000000
 sl:d.snd.length<=2000000
 tl:d.tx.data.toList.length<=2000000
 fs:∃l,FilesV w (.slice d.ia d.il d.ic) l/\l.length<=2000000/\∀p∈l,p.1.length<=2000000/\p.2.length<=2000000
 gn:∃l,IntsV w (.slice d.ga d.gl d.gc) l/\l.length<=1000000000
 n:lM d.n
def uK(e:World)(h:Value)(a:List OpD):Prop:=(∃i d,h=.slice i 0 d/\a=[])\/∃c g d,h=.slice (some ⟨c,g,none⟩) a.length d/\c<e.heap.size/\∀(b:Nat) (f:b<a.length),e.rangeAt c (g+b*7) (a[b]'f).cells/\OpV e (a[b]'f)
end Go.Proofs.YtapabahhfanmmaaGreatDoor
namespace Go.Proofs.YtapabahhfanmmaaGreatDoor
open Go.ChangeShapes Go.WideShapes Go.ChangeAt Go.WideMaps Go.WideElems Go.RowKit List Go.Proofs.Tryz
set_option maxHeartbeats 4000000
set_option maxRecDepth 100000
theorem SI{H:Type}(a:DataW H):1<=Rows.uptoBulk a:=by
 obtain b|_|_|_|_|_|_|_:=a
 ·cases b<;>simp[Rows.uptoBulk]
 all_goals simp[Rows.uptoBulk]
theorem BU{H:Type}:∀a:List (DataW H),a.length<=Rows.uptoBulkAll a
 |[]=>Z3 _
 |b::a=>by have c:=SI b;have d:=BU a;grind[Rows.uptoBulkAll]
theorem BT{H:Type}{c:DataW H}:∀{b:List (DataW H)},c∈b->Rows.uptoBulk c<=Rows.uptoBulkAll b
 |[],a=>by cases a
 |d::b,a=>by
  simp only[Rows.uptoBulkAll];obtain rfl|a:=Qq0.1 a
  ·omega
  have:=BT a;omega
theorem SH{H:Type}{d:DataW H}{l:List (DataW H)}{i:Nat}(a:l[i]?=some d):Rows.uptoBulk d<=Rows.uptoBulkAll l:=BT qg
theorem QH{w:World}{a:Addr}{c:Value}(b:w.cell? (a.add 0)=some c):a=⟨a.block,a.off,none⟩:=by
 have d:=uO (i:=0) b;have:a.add 0=a:=by simp[Addr.add]
 grind
section
variable {H:Type} {enc:TypeId×Value->H} {w:World} {base:Nat} {spare:Nat->Bool} {held:Bool} {fuel:Nat} {cs:List Value} {x:DataW H×List MemPlace}
theorem qI{B:Type}{A n:TypeId}{k:Nat}(h:B->List Value)(j:B->Nat->Prop)(N:0<k)(M:∀b,(h b).length=k)(O:prog.underlying A=some (.slice n))(C:prog.cellsOf n=k)(D:∀(r:Nat) (cs:List Value) (x:DataW H×List MemPlace),DataW.trod enc prog w base spare held r n cs=some x->∃b,cs=h b/\j b (Rows.uptoBulk x.1))(E:DataW.trod enc prog w base spare held fuel A cs=some x):∃t s v q,cs=[.slice t s v]/\LV w k h (.slice t s v) q/\q.length<=Rows.uptoBulk x.1/\∀b∈q,∃u,u<=Rows.uptoBulk x.1/\j b u:=by
 obtain⟨rfl,rfl⟩|⟨c,d,m,r,s,g,V,rfl,_,aa,Y,hm,rfl,z⟩:=Deep.open_slice O E
 ·exact⟨none,0,0,[],rfl,qg,Z3 _,by simp⟩
 have ab:d<=r:=qg
 by_cases F:d=0
 ·subst F;exact⟨some c,0,m,[],rfl,qg,Z3 _,by simp⟩
 rw[C]at z;have y:∀a,a<d->∃b,(∀f i,(h b)[f]?=some i->w.cell? ((c.add (a*k)).add f)=some i)/\j b (Rows.uptoBulk (g a)):=by intro a l;obtain⟨W,I,J⟩:=z a qo;obtain⟨b,rfl,Q⟩:=D _ _ _ J;refine⟨b,λf i p=>?_,Q⟩;rw[(World.cells?_some I).2.2 f qg];exact p
 obtain⟨X,P,_⟩:=y 0 qo;have e:=P 0 _ (Y2 (by rw[M];exact N));rw[show(c.add (0*k)).add 0=c.add 0 by simp[Addr.add]]at e;have o:∀a:Fin d,∃b,w.rangeAt c.block (c.off+a.1*k) (h b)/\j b (Rows.uptoBulk (g a.1)):=by intro ⟨a,l⟩;obtain⟨b,R,S⟩:=y a l;refine⟨b,λf i p=>?_,S⟩;have:=R f i p;rw[uO (i:=a*k) e,i7]at this;exact this
 refine⟨some c,d,m,ofFn (λa=>Classical.choose (o a)),rfl,.inr ⟨c.block,c.off,m,?_,?_,λa l=>?_⟩,?_,λb L=>?_⟩
 ·rw[length_ofFn,<-QH e]
 ·rw[uO (i:=0) e]at e;exact aI e
 ·rw[List.getElem_ofFn];exact(i8 (o ⟨a,by simpa using l⟩)).1
 ·rw[length_ofFn];have:=BU ((range d).map g);simp only[length_map,length_range]at this;simp only[Rows.uptoBulk];omega
 obtain⟨a,rfl⟩:=List.mem_ofFn.1 L;refine⟨_,?_,(i8 (o a)).2⟩;have:=SH (l:=(range d).map g) (i:=a.1) (d:=g a.1) qg;grind[Rows.uptoBulk]
theorem pair_of{e:Type}{a:List e}(d:a.length=2):∃b c,a=[b,c]:=by
 match a,d with
 |[b,c],_=>grind
theorem five_of{h:Type}{a:List h}(g:a.length=5):∃b c d e f,a=[b,c,d,e,f]:=by
 match a,g with
 |[b,c,d,e,f],_=>grind
theorem seven_of{j:Type}{a:List j}(i:a.length=7):∃b c d e f g h,a=[b,c,d,e,f,g,h]:=by
 match a,i with
 |[b,c,d,e,f,g,h],_=>grind
theorem CH:prog.cellsOf 3=1:=qk
theorem CK:prog.cellsOf 9=1:=qk
theorem JP(o:Nat)(cs:List Value)(x:DataW H×List MemPlace)(i:DataW.trod enc prog w base spare held o 81 cs=some x):∃c:Cm,cs=c.cells/\True:=by obtain⟨p,D,_,rfl,b,C,a⟩:=DataW.trod_struct underlying81 i;rw[show prog.cellsOf 81=5 by kernel_rfl]at b;obtain⟨v,y,z,A,B,rfl⟩:=five_of b;obtain⟨q,r,s,t,u,rfl⟩:=five_of (show p.length=5 by omega);obtain⟨j,d,_,_⟩:=Qq2 (x:=q) Qq3 (a 0 _ rfl);obtain⟨k,e,_,_⟩:=Qq2 (x:=r) Qq3 (a 1 _ rfl);obtain⟨l,f,_,_⟩:=Qq2 (x:=s) Qq3 (a 2 _ rfl);obtain⟨m,g,_,_⟩:=Qq2 (x:=t) Qq3 (a 3 _ rfl);obtain⟨n,h,_,_⟩:=Qq2 (x:=u) Qq3 (a 4 _ rfl);simp[CH]at d e f g h;exact⟨⟨j,k,l,m,n⟩,by grind,p8⟩
theorem At(i:Nat)(cs:List Value)(x:DataW H×List MemPlace)(h:DataW.trod enc prog w base spare held i 115 cs=some x):∃a:Pf,cs=[sv a.1,sv a.2]/\a.1.length<=Rows.uptoBulk x.1/\a.2.length<=Rows.uptoBulk x.1:=by obtain⟨l,r,_,rfl,c,q,b⟩:=DataW.trod_struct underlying115 h;rw[show prog.cellsOf 115=2 by kernel_rfl]at c;obtain⟨o,p,rfl⟩:=pair_of c;obtain⟨m,n,rfl⟩:=pair_of (show l.length=2 by omega);obtain⟨d,f,j,_⟩:=DataW.trod_string (x:=m) Qq4 (b 0 _ rfl);obtain⟨e,g,k,_⟩:=DataW.trod_string (x:=n) Qq4 (b 1 _ rfl);simp[CK]at f g;refine⟨⟨d.data.toList,e.data.toList⟩,by simp_all,?_⟩;rw[j,k];simp[Rows.uptoBulk,Rows.uptoBulkAll];omega
theorem xN(f:Nat)(cs:List Value)(x:DataW H×List MemPlace)(c:DataW.trod enc prog w base spare held f 3 cs=some x):∃a:Int,cs=[ii a]/\lM a:=by obtain⟨e,b,_,d⟩:=Qq2 Qq3 c;exact⟨e,b,bounds_i64 d⟩
theorem LV.files{g:Value}{e:List Pf}(a:LV w 2 (λb=>[sv b.1,sv b.2]) g e):FilesV w g e:=by
 obtain a|⟨k,m,l,h,i,c⟩:=a
 ·exact .inl a
 exact .inr ⟨k,m,l,h,i,λd b j=>by obtain⟨f,rfl⟩:=gs.1 j;exact⟨c d f 0 _ rfl,c d f 1 _ rfl⟩⟩
theorem LV.ints{c:Value}{b:List Int}(a:LV w 1 (λl=>[ii l]) c b)(g:∀d∈b,lM d):IntsV w c b:=by
 obtain a|⟨i,k,j,e,n,f⟩:=a
 ·exact .inl a
 exact .inr ⟨i,k,j,e,λh m=>by simpa using f h m 0 _ rfl,g⟩
theorem Av(L:Nat)(cs:List Value)(x:DataW H×List MemPlace)(z:DataW.trod enc prog w base spare held L 70 cs=some x):∃e:OpD,cs=e.cells/\(Rows.uptoBulk x.1<=1048576->OpV w e):=by
 obtain⟨xs,c,_,rfl,f,aa,a⟩:=DataW.trod_struct underlying70 z;rw[show prog.cellsOf 70=7 by kernel_rfl]at f;have i:prog.cellsOf 39=1:=qk;have cF:prog.cellsOf 51=1:=qk;have j:prog.cellsOf 25=1:=qk;obtain⟨c0,c1,c2,c3,c4,c5,c6,rfl⟩:=seven_of f;obtain⟨y0,y1,y2,h,y4,y5,y6,rfl⟩:=seven_of (show xs.length=7 by omega);obtain⟨F,k,_⟩:=xN _ _ y0 (a 0 _ rfl);obtain⟨r,u,s,t,l,P,b1,_⟩:=qI (k:=5) (x:=y1) Cm.cells (λ_ _=>True) qo qg Qq5 qk JP (a 1 _ rfl);obtain⟨V,Y,W,X,m,Q,b2,_⟩:=qI (k:=5) (x:=y2) Cm.cells (λ_ _=>True) qo qg Qq5 qk JP (a 2 _ rfl);obtain⟨g,n,x3,_⟩:=DataW.trod_string (x:=h) Qq4 (a 3 _ rfl);obtain⟨C,E,D,I,o,R,b4,N⟩:=qI (k:=2) (x:=y4) (λb:Pf=>[sv b.1,sv b.2]) (λb d=>b.1.length<=d/\b.2.length<=d) qo qg Qq6 qk At (a 4 _ rfl);obtain⟨M,p,O⟩:=xN _ _ y5 (a 5 _ rfl);obtain⟨v,gl,y,J,q,S,b6,p6⟩:=qI (k:=1) (x:=y6) (λc:Int=>[ii c]) (λc _=>lM c) qo qg Z5 qk xN (a 6 _ rfl);simp[CH,CK,i,cF,j]at k l m n o p q;refine⟨⟨F,r,u,s,V,Y,W,g,C,E,D,M,v,gl,y,t,X⟩,qg,λA=>?_⟩;simp only[map_cons,map_nil,Rows.uptoBulk,Rows.uptoBulkAll]at A;have b3:g.data.toList.length<=Rows.uptoBulk h.1:=by grind[Rows.uptoBulk]
 exact⟨P,Q,qg,qg,qg,⟨I,R.files,by omega,λb B=>by obtain⟨d,h1,h2,h3⟩:=N b B;omega⟩,⟨J,S.ints qg,by omega⟩,O⟩
theorem Aw{e:Option Addr}{g f:Nat}{a:DataW H}{s:List MemPlace}(c:DataW.Trod enc prog w base spare held 22 (.slice e g f) a s)(v:Rows.uptoBulk a<=1048576):∃b,uK w (.slice e g f) b/\b.length<=1048576:=by
 obtain⟨fuel,c⟩:=c;obtain⟨t,A,u,b,i,d,y,z⟩:=qI (k:=7) OpD.cells (λa h=>h<=1048576->OpV w a) qo qa underlying22 qk Av c;cases i;refine⟨b,?_,qg⟩;obtain d|⟨p,r,q,j,l,m⟩:=d
 ·exact .inl d
 refine .inr ⟨p,r,q,j,l,λo n=>⟨m o n,?_⟩⟩;grind[getElem_mem]
end
variable {a:Nat} {v:Value} {w:World}
theorem jU:(prog.info? 85).map (λa=>(a.zero,a.size,a.bytes))=some (some zeroU.val,11,88):=qk
theorem pV(a:List U):(a.flatMap U.cells).length=a.length*11:=by
 induction a with
 |nil=>rfl
 |cons c a b=>rw[l9,m8,b];simp;omega
theorem EK(d:List U):∀b∈d.flatMap U.cells,b.oneCell'=true:=by intro b c;obtain⟨e,_,a⟩:=i6.1 c;simp at a;obtain rfl|rfl|rfl|rfl|rfl|rfl|rfl|rfl|rfl|rfl|rfl:=a<;>rfl
theorem PRow.qW{base:Nat}{us:List U}(e:w.ownsRow base 85 11 v a (us.flatMap U.cells))(j:a=us.length)(p:0<a):∃c b,v=.slice (so c) us.length b/\base<=c/\PRow w c b us:=by
 subst j;obtain⟨_,f⟩:=e;obtain⟨_,l⟩|⟨d,b,k,rfl,i,o,g,h,m,n⟩:=f
 ·omega
 exact⟨d,b,rfl,i,⟨qg,g,h⟩⟩
theorem uZ(c f:Nat)(a:List U)(b:World)(x:PRow b c f a)(L:a.length<=1000)(v:0<a.length):Cs 75 #[.slice (so c) a.length f] b λq n=>∃e g,q=.returned (.slice (so e) a.length g)/\b.heap.size<=e/\PRow n e g a/\Fr [] b n:=by
 obtain⟨F,t,C,D,E⟩:=Z2 jU;have M:∀k:World,(binOp BinOp.eql 82 (.slice (so c) a.length f) (.slice none 0 0)).run prog k=.ok (.bool false) k:=λk=>by kernel_rfl
 obtain⟨H,l,A,B⟩:=x.h;have hnews:∀(i:World),i.heap[c]?=b.heap[c]?->∀d j,(a.flatMap U.cells)[d]?=some j->i.cell? ((⟨c,0,none⟩:Addr).add d)=some j:=by
  intro i I d j O;have J:((⟨c,0,none⟩:Addr).add d)=⟨c,d,none⟩:=by unfold Addr.add;grind
  grind[aB]
 have p:=aA hnews;have y:=aH l;clear hnews l A B;have w:(b.alloc (.cells #[] 85)).ownsRow b.heap.size 85 11 (.slice (so b.heap.size) 0 0) 0 []:=⟨rfl,.inr ⟨_,0,#[],rfl,Q9 _,aC _ _,Q9 _,by decide,rfl,rfl⟩⟩
 delta Cs;go_in
 go_wp2_with (first
  |(at_builtin;refine wpList_append_own _ rfl _ _ 82 rfl b.heap.size 85 F zeroU.val 11 88 Qq8 t C D E rfl qd (.slice (so b.heap.size) 0 0) 0 [] rfl w ⟨c,0,none⟩ a.length f (a.flatMap U.cells) rfl (pV a) (p.o _ (eL _ _ _ y)) (EK a) qm qo qs ?_;intro R S m s N)
  |fail)
 go_ret;simp only[Nat.zero_add,nil_append]at m;obtain⟨e,g,P,r,z⟩:=PRow.qW m rfl v;refine⟨e,g,?_,r,z,?_⟩
 ·simp_all
 exact((r0 [] b).alloc _).grown s (λQ u=>.inr (by simp[Value.ownBlock]at u;omega))
theorem Ib{h:Program}{q:Array Oper}{c:Oper}{d:Act}{K:Act->World->Prop}{u:Exit->Act->World->Prop}{t:Prop}(D:c.guard=none)(r s:Operand)(k:TypeId)(F:c.op=Op.call {callee:=Callee.builtin Builtin.append,args:=#[r,s],argTypes:=#[k,k]})(j:TypeId)(n:TypeInfo)(size:Nat)(v:h.underlying k=some (.slice j))(y:h.info? j=some n)(z:n.size=size)(e a i:Nat)(f:Array Value)(A:w.heap[e]?=some (.cells f j (0,0)))(J:d.eval r=.slice (so e) a i)(m:Addr)(g o:Nat)(b:List Value)(M:d.eval s=.slice (some m) g o)(E:b.length=g*size)(B:∀p l,b[p]?=some l->w.cell? (m.add p)=some l)(x:∀l∈b,l.oneCell'=true)(H:a+g<=i)(C:a*size+b.length<=f.size)(hK:K (d.put c.dst (.slice (so e) (a+g) i)) (w.setRow e (f.toList.take (a*size)++b++f.toList.drop (a*size+b.length)).toArray)):if Region.wanted c (yielded q d.tmps)=true then Oper.wp h c d w K u else t:=by
 have L:Region.wanted c (yielded q d.tmps)=true:=by simp[Region.wanted,D]
 rw[Q7 L];subst z;have I:=run_append_room (P:=h) w k c.type j n v y e a i f A m g o b E B x H C;unfold Oper.wp;simp only[execOp,F,resolve,invoke,builtin,Sem.run_bind,Sem.run_pure,Result.andThen_ok,map_toArray,map_cons,map_nil,J,M,I];exact hK
theorem EN(b:List U)(a:Nat):(b.take a).flatMap U.cells=(b.flatMap U.cells).take (a*11):=by
 induction b generalizing a with
 |nil=>simp
 |cons c b e=>
  cases a with
  |zero=>simp
  |succ a=>have d:(c.cells).length=11:=rfl;rw[take_succ_cons,l9,l9,e,Qz0,l8 (l:=c.cells) qo,d,show(a+1)*11-11=a*11 by omega]
theorem EI(b:List U)(a:Nat):(b.drop a).flatMap U.cells=(b.flatMap U.cells).drop (a*11):=by
 induction b generalizing a with
 |nil=>simp
 |cons c b e=>
  cases a with
  |zero=>simp
  |succ a=>have d:(c.cells).length=11:=rfl;rw[drop_succ_cons,l9,e,drop_append,Z6 (l:=c.cells) qo,Z8,d,show(a+1)*11-11=a*11 by omega]
theorem Kz:(Builtin.zeroCells zeroU.val.cells 1).toList=zeroU.cells:=qk
theorem Gy(d:World)(ty:TypeId)(c b f:Nat)(a:Array Value)(g:d.heap[c]?=some (.cells a 85 (0,0)))(i:b+11<=a.size):(Builtin.clear_ #[82] ty #[.slice (some ⟨c,b,none⟩) 1 f]).run prog d=.ok (.tuple #[]) (d.setRow c (a.toList.take b++zeroU.cells++a.toList.drop (b+11)).toArray):=by have e:=run_storeCells_at prog c b 85 zeroU.cells 0 a d g qo qc;simp only[Nat.add_zero]at e;have h:=Kz;simp[Builtin.clear_,run_underlying underlying82,zeroValue85,h,e]
theorem UF(c e a:Nat)(b:List U)(h:World)(t:PRow h c e b)(am:b.length<=1000)(B:a<b.length):Cs 221 #[.slice (so c) b.length e,ii a,ii (a+1:Nat)] h λV I=>V=.returned (.slice (so c) (b.length-1) e)/\PRow I c e (b.eraseIdx a)/\Fr [c] h I:=by
 obtain⟨af,ac,aq,ae,ar⟩:=Z2 jU;obtain⟨f,r,w,x⟩:=t.h;have ak:=t.le;have aa:=t.cap;unfold maxLen at aa;have an:=aH r;obtain⟨d,hnews⟩:=nm ((b.flatMap U.cells).drop ((a+1)*11));have s:d.length=(b.length-(a+1))*11:=by rw[hnews,Qz2,pV,Nat.sub_mul]
 have E:∀u k,d[u]?=some k->h.cell? ⟨c,(a+1)*11+u,none⟩=some k:=by
  intro u k y;have hj:u<(b.length-(a+1))*11:=by rw[<-s];exact(gs.1 y).1
  rw[hnews,getElem?_drop,<-x,Qz3 qo]at y;rw[aB r];simpa using y
 obtain⟨n,hA,ad⟩:∃n:Addr,(if e=a+1 then some (⟨c,0,none⟩:Addr)else some ⟨c,(a+1)*11,none⟩)=some n/\Hi (∀m k,d[m]?=some k->h.drew.cell? (n.add m)=some k):=by
  by_cases A:e=a+1
  ·refine⟨⟨c,0,none⟩,by simp[A],λm j g=>?_⟩;have X:d.length=0:=by rw[s];omega
   rw[length_eq_zero_iff.1 X]at g;simp at g
  refine⟨⟨c,(a+1)*11,none⟩,by simp[A],λm j g=>?_⟩;rw[i7];exact E m j g
 have H:=aA s;have s2:Hi (∀j∈d,j.oneCell'=true):=by intro j g;rw[hnews]at g;exact EK b j (mem_of_mem_drop g)
 obtain⟨i,q⟩:=nm ((f.toList.take (a*11)++d++f.toList.drop (a*11+d.length)).toArray);have F:i.size=e*11:=by rw[q];simp[w];omega
 obtain⟨l,p⟩:=nm (h.drew.setRow c i);have v:l.heap[c]?=some (.cells i 85 (0,0)):=by rw[p];exact Qz4 _ _ _ _ _ _ r
 have C:a+(b.length-(a+1))=b.length-1:=qo;have D:b.length-(a+(b.length-(a+1)))=1:=qo;have ag:∀ty,(Builtin.clear_ #[82] ty #[.slice (some ⟨c,(a+(b.length-(a+1)))*11,none⟩) (b.length-(a+(b.length-(a+1)))) (e-(a+(b.length-(a+1))))]).run prog l=.ok (.tuple #[]) (l.setRow c (i.toList.take ((b.length-1)*11)++zeroU.cells++i.toList.drop ((b.length-1)*11+11)).toArray) :=
  λty=>by rw[D,C];exact Gy l ty c _ _ i v qo
 clear C D;have M:Hi (a*11+d.length<=f.size):=by show _<=_;omega
 have N:=aA r;have S:Hi (l=h.drew.setRow c (f.toList.take (a*11)++d++f.toList.drop (a*11+d.length)).toArray):=by show _=_;rw[p,q]
 have O:=aA p;have L:=aA q;have J:=aA v;have R:=aA x;have Q:=aA w;have z:=aA F;have P:=aA hnews;clear p q v hnews E x w F s;have ah:a<=e:=qo;have ai:a+1<=e:=qo;have aj:a+1<=b.length:=B;have ao:(0:Int)<=(a:Int)+1:=qo;have ap:(a:Int)+1<=(b.length:Int):=qo
 delta Cs;go_in
 go_wp2
 go_region_law (refine Ib rfl (.tmp 22) (.tmp 25) 82 rfl 85 af 11 Qq8 ac ae c a e f N.o (by simp[Act.eval,Act.put]) n (b.length-(a+1)) (e-(a+1)) d (by simp[Act.eval,Act.put]) H.o ad.o s2.o qo M.o ?_;rw[<-S.o])
 go_wp2;go_ret;have ab:(b.eraseIdx a).length=b.length-1:=by rw[length_eraseIdx];simp[B]
 refine⟨by rw[show b.length-1=a+(b.length-(a+1)) by omega];rfl,⟨⟨_,Qz4 _ _ _ _ _ _ J.o,?_,?_⟩,by omega,t.cap⟩,?_⟩
 ·have:=z.o;simp;omega
 ·have Y:=z.o;have h2:=L.o;have h3:=R.o;have h4:=P.o;have h5:=H.o;have h6:=Q.o;have W:(b.eraseIdx a).flatMap U.cells=f.toList.take (a*11)++d:=by rw[eraseIdx_eq_take_drop_succ,Qz5,h4];rw[EN,EI,<-h3,take_take];congr 2;omega
  rw[ab,W];have e2:(f.toList.take (a*11)++d).length=(b.length-1)*11:=by simp[h5,h6];omega
  show take _ (_++_)=_
  rw[Qz6 (by simp[Y];omega),take_take,Nat.min_self,h2]
  show take _ (_++_++_)=_
  rw[Qz6 qo,l8 qo]
 rw[O.o];exact(((r0 _ _).drew).setRow _ _ qs).setRow _ _ qs
variable {b c:Nat} {t:T} {x:World}
structure GS (w:World) (gb pb cap:Nat) (t:T):Prop where
 cell:∀k,k<149->w.cell? ⟨gb,k,none⟩=some (aK t (.slice (so pb) t.us.length cap) 0 0 k)
 fz:∀k,w.frozen? ⟨gb,k,none⟩=false
 row:PRow w pb cap t.us
 len:t.us.length<=1000
 ne:0<t.us.length
 n1:gb≠pb
 z:0<gb/\0<pb
theorem GS.lt(d:GS w a b c t):a<w.heap.size:=aI (d.cell 0 qo)
theorem GS.fr{S:List Nat}(d:GS w a b c t)(f:Fr S w x)(g:a∉S)(h:b∉S):GS x a b c t:=
 {d with
  cell:=λe i=>by rw[f.cell a e d.lt g];exact d.cell e i
  fz:=λe=>by rw[f.frozen a e d.lt g];exact d.fz e
  row:=d.row.fr f h}
theorem GS.gv(d:GS w a b c t):GV w a b c t.us:=
  ⟨by grind[GS.cell,aK],d.row.ppl,d.len⟩
theorem qZ(a:Nat)(b:World):Cs 39 #[pt a] b (R1 b (pt a)):=by
 delta Cs;go_in
 go_wp2;go_ret;simp_all
theorem Cx(h j i:Nat)(e:T)(f:World)(d:GS f h j i e):Cs 34 #[pt h] f λg k=>∃a b,g=.returned (.slice (so a) e.us.length b)/\f.heap.size<=a/\PRow k a b e.us/\Fr [] f k:=by
 have p:=d.gv.c
 delta Cs;go_in
 go_wp2_with (first|(go_at_call 39;refine(qZ h _).mono ?_;rintro g o ⟨rfl,rfl⟩)|(go_at_call 75;refine(uZ j i e.us _ d.row d.len d.ne).mono ?_;rintro g o ⟨a,b,rfl,l,n,m⟩))
 go_ret;exact⟨a,b,rfl,l,n,m⟩
theorem Id{i:Array Oper}{b:Oper}{d:Act}{K:Act->World->Prop}{l:Exit->Act->World->Prop}{k:Prop}(o:b.guard=none)(e:Nat)(j:Nat)(ty:TypeId)(p:b.op=Op.call {callee:=Callee.value (Operand.func e),args:=#[.tmp j],argTypes:=#[ty]})(f:Value)(s:d.tmps[j]?.getD undef=f)(n:∀w,(callFunc e #[f]).run prog w=.ok (.enter e #[f]) w){g:Value->World->Prop}(m:Cs e #[f] w λh c=>∃a,h=.returned a/\g a c)(hK:∀a c,g a c->K (d.put b.dst a) c):if Region.wanted b (yielded i d.tmps)=true then Oper.wp prog b d w K l else k:=by
 have r:Region.wanted b (yielded i d.tmps)=true:=by simp[Region.wanted,o]
 rw[Q7 r];unfold Oper.wp;simp[execOp,p,resolve,invoke,s,n,go_sem];refine cm m ?_;rintro h c ⟨a,rfl,q⟩;exact hK a c q
set_option maxRecDepth 100000
theorem toList_mk(a:List UInt8):(⟨a.toArray⟩:ByteArray).toList=a:=by simp_all
def dP(a b:List UInt8):Bool:=decide (b.take a.length=a)
theorem tW(a:List UInt8)(b:Nat):Value.string ((⟨a.toArray⟩:ByteArray).extract 0 b)=.string ⟨(a.take b).toArray⟩:=by congr 1;apply n9;simp_all
theorem SO(b a:List UInt8):(((⟨b.toArray⟩:ByteArray).extract 0 a.length).toList==(⟨a.toArray⟩:ByteArray).toList)=decide (b.take a.length=a):=by
 have c:(⟨b.toArray⟩:ByteArray).extract 0 a.length=⟨(b.take a.length).toArray⟩:=by apply n9;simp_all
 grind[toList_mk]
theorem WS(b a:List UInt8)(h:World):Cs 209 #[.string ⟨b.toArray⟩,.string ⟨a.toArray⟩] h (R1 h (.bool (dP a b))):=by
 have e:=SO b a;have c:Hi (dP a b=decide (b.take a.length=a)):=rfl;have d:Hi (¬a.length<=b.length->dP a b=false):=λq=>by unfold dP;rw[decide_eq_false];intro j;have:=V3 length j;rw[Qz8]at this;omega
 obtain⟨m,f⟩:∃n:ByteArray,n=⟨a.toArray⟩:=⟨_,rfl⟩;have r:m.size=a.length:=by rw[f];rfl
 rw[<-f]at e |-;obtain⟨p,g⟩:=nn (decide (b.take a.length=a));rw[g]at e c;clear f g
 by_cases k:a.length<=b.length
 ·have l:(a.length:Int)<=(b.length:Int):=qo;clear d
  delta Cs;go_in
  go_wp2;go_ret;exact⟨by rw[c.o];rfl,rfl⟩
 have l:¬(a.length:Int)<=(b.length:Int):=qo;have i:=(show Hi _ from d.o k);clear d c e
 delta Cs;go_in
 go_wp2;go_ret;exact⟨by rw[i.o];rfl,rfl⟩
theorem YP(b a:List UInt8)(g:World):Cs 172 #[.string ⟨b.toArray⟩,.string ⟨a.toArray⟩] g (R1 g (.tuple #[.string ⟨(if dP a b=true then b.drop a.length else b).toArray⟩,.bool (dP a b)])):=by
 have c:=WS b a g;have m:=yZ b a.length;have d:Hi (dP a b=true->a.length<=b.length):=λr=>by grind[dP]
 obtain⟨q,e⟩:∃h:ByteArray,h=⟨(b.drop a.length).toArray⟩:=⟨_,rfl⟩;rw[<-e]at m;have k:=aA e;obtain⟨n,f⟩:∃h:ByteArray,h=⟨a.toArray⟩:=⟨_,rfl⟩;have u:n.size=a.length:=by rw[f];rfl
 rw[<-f]at c |-;obtain⟨j,i⟩:=nn (dP a b);rw[i]at c d |-;clear f i e;cases j
 ·delta Cs;go_in
  go_wp2_with (go_at_call 209;refine cm c ?_;rintro l p ⟨rfl,rfl⟩)
  go_ret2;simp_all
 have s:=d.o rfl;have t:(a.length:Int)<=(b.length:Int):=qo;clear d
 delta Cs;go_in
 go_wp2_with (go_at_call 209;refine cm c ?_;rintro l p ⟨rfl,rfl⟩)
 go_ret2;exact⟨by rw[<-k.o];rfl,rfl⟩
theorem DE(a b:List UInt8)(d:World):Cs 129 #[.string ⟨a.toArray⟩,.string ⟨b.toArray⟩] d (R1 d (.tuple #[.string ⟨(if dP b a=true then a.drop b.length else a).toArray⟩,.bool (dP b a)])):=by
 have c:=YP a b d;obtain⟨i,f⟩:∃g:ByteArray,g=⟨(if dP b a=true then a.drop b.length else a).toArray⟩:=⟨_,rfl⟩;rw[<-f]at c |-;obtain⟨h,e⟩:=nn (dP b a);rw[e]at c |-;clear f e
 delta Cs;go_in
 go_wp2_with (go_at_call 172;refine cm c ?_;rintro j k ⟨rfl,rfl⟩)
 go_ret2;simp_all
theorem XF(a b:Nat)(e:a<4294967296)(f:b<4294967296):bits .xor .i64 (a:Int) (b:Int)=((a ^^^ b:Nat):Int):=by
 have g:a ^^^ b<2^32:=Nat.xor_lt_two_pow qo qo;have c:(BitVec.ofInt 64 (a:Int)).toNat=a:=by grind
 have d:(BitVec.ofInt 64 (b:Int)).toNat=b:=by grind
 show IntKind.i64.wrap ((BitVec.ofInt 64 (a:Int) ^^^ BitVec.ofInt 64 (b:Int)).toNat:Int)=_
 grind[IntKind.wrap_i64]
theorem PI(a b:Int)(c:0<=a)(d:a<=4294967295)(e:0<=b)(f:b<=4294967295):bits .xor .i64 a b=bits .xor .u32 a b:=by grind[u32_xor,XF]
theorem TN(Z:Int)(b:0<=Z)(c:Z<=4294967295)(a:Z%2=1):bits .xor .i64 (Z/2) 3988292384=iX Z:=by grind[iX,PI,u32_and]
theorem TM(Z:Int)(a:0<=Z)(c:Z<=4294967295)(b:¬Z%2=1):Z/2=iX Z:=by
 unfold iX;rw[u32_and Z 1 a qo qo qo];have:Z.toNat &&& (1:Int).toNat=0:=by grind
 rw[this];grind[u32_xor]
theorem TO(Z:Int)(b:0<=Z)(d:Z<=4294967295):4294967295-Z=bits .xor .u32 IntKind.u32.max Z:=by
 have a:IntKind.u32.max=4294967295:=qd;rw[a,u32_xor _ Z qo qo b qo];have c:Z.toNat<2^32:=qo;have:(4294967295:Int).toNat ^^^ Z.toNat=4294967295-Z.toNat:=by
  have e:(BitVec.allOnes 32 ^^^ BitVec.ofNat 32 Z.toNat).toNat=4294967295-Z.toNat:=by rw[BitVec.allOnes_xor,BitVec.toNat_not,BitVec.toNat_ofNat,Qz9 c]
  grind
 omega
theorem MB(c:List UInt8)(m:World)(V:c.length<=100000000):Cs 144 #[.string ⟨c.toArray⟩] m (R0 m (.string ⟨(cP c).toArray⟩)):=by
 obtain⟨j,p⟩:∃j:ByteArray,j=⟨c.toArray⟩:=⟨_,rfl⟩;have aa:j.size=c.length:=by rw[p];rfl
 have y:Hi (∀b (f:b<c.length) (v:b<j.size),(j[b]'v).toNat=(c[b]'f).toNat):=λb f v=>by subst p;rfl
 rw[<-p];clear p
 delta Cs;go_in
 go_wp2
 go_loopw [3,4] (fun t h wr=>∃(b:Nat) (e:Int),b<=c.length/\h=ii b/\t=ii e/\(0<=e/\e<=4294967295)/\Hi (e=lD c b)/\m=wr) (fun _ h _=>c.length-(intOf h).toNat)
 ·exact⟨0,4294967295,by omega,rfl,rfl,by omega,rfl,rfl⟩
 obtain⟨b,e,S,rfl,rfl,N,H,rfl⟩:=hrel
 by_cases n:b<c.length
 ·have C:b<j.size:=qo;obtain⟨i,s⟩:∃i:Nat,(c[b]'n).toNat=i:=⟨_,rfl⟩;have O:=(y.o b n C).trans s;have P:i<256:=by rw[<-s];exact(c[b]'n).toNat_lt
  have A:Hi (lD c (b+1)=jI 8 (bits .xor .u32 e (i:Int))):=by grind[jI,lD,getElem?_eq_getElem,Hi.o]
  have r:=PI e i qo qo qo qo;clear s;go_wp2
  go_loopw [3,5] (fun t h wr=>∃(d:Nat) (Z:Int),d<=8/\h=ii d/\t=ii Z/\(0<=Z/\Z<=4294967295)/\Hi (Z=jI d (bits .xor .u32 e (i:Int)))/\m=wr) (fun _ h _=>8-(intOf h).toNat)
  ·exact⟨0,_,by omega,rfl,by first|rfl|rw[r],by first|exact pL _ _ _|(rw[r];exact pL _ _ _),by first|exact(aA rfl)|exact(aA r),rfl⟩
  obtain⟨d,Z,Q,rfl,rfl,g,q,rfl⟩:=hrel
  by_cases R:d<8
  ·have E:(d:Int)<8:=qo;have X:Z.tdiv 2=Z/2:=Int.tdiv_eq_ediv_of_nonneg g.1;have W:Z.tmod 2=Z%2:=Qx0 g.1
   by_cases f:Z%2=1
   ·have l:=TN Z g.1 g.2 f;have B:(Z%2==1)=true:=qa;have k:=aA l;clear l f;go_wp2;go_roundw
    ·exact⟨d+1,iX Z,by omega,by go_num,by rw[<-k.o],pL _ _ _,(by show iX Z=iX (jI d _);rw[q.o]),p8⟩
    simp[intOf];omega
   have l:=TM Z g.1 g.2 f;have B:(Z%2==1)=false:=qa;have k:=aA l;clear l f;go_wp2;go_roundw
   ·exact⟨d+1,iX Z,by omega,by go_num,by rw[<-k.o],pL _ _ _,(by show iX Z=iX (jI d _);rw[q.o]),p8⟩
   simp[intOf];omega
  have E:¬(d:Int)<8:=qo;have x:d=8:=qo;have z:=aA x;clear x;go_wp2;go_roundw
  ·exact⟨b+1,Z,n,by go_num,rfl,g,(by show Z=_;rw[A.o,q.o,z.o]),p8⟩
  simp[intOf];omega
 have F:b=c.length:=qo;obtain⟨a,w⟩:=nm (4294967295-e);have M:0<=a/\a<=4294967295:=qo;have k:Hi (oI c=a):=by show bits .xor .u32 IntKind.u32.max (lD c c.length)=_;grind[TO,Hi.o]
 have m0:a.tmod 256=a%256:=qg;have I:a.tdiv 256=a/256:=qg;have J:a.tdiv 65536=a/65536:=qg;have L:a.tdiv 16777216=a/16777216:=qg;have m1:(a/256).tmod 256=a/256%256:=qg;have m2:(a/65536).tmod 256=a/65536%256:=qg;have D:=ET a (a/256) (a/65536) (a/16777216) m;have u:Hi (a/16777216%256=a/16777216):=by show _=_;omega
 rw[u.o]at D;have w0:a%256%256=a%256:=qo;have w1:a/256%256%256=a/256%256:=qo;have w2:a/65536%256%256=a/65536%256:=qo;have Y:=w.symm;clear F w;go_wp2;go_ret;exact⟨by unfold cP;rw[k.o,u.o];rfl,(r0 _ _).alloc _⟩
theorem MJ(a:Nat)(e:a<=10000000000)(b:World):Cs 101 #[ii a] b λc d=>c=.returned (.string ⟨(bG a).toArray⟩)/\Fr [] b d:=
  Qx1 (yF 4 a qo qo b) qg
theorem MH(b:Nat)(z:b<128)(a:List UInt8)(B:a.length<=50000000)(f:World):Cs 107 #[ii b,.string ⟨a.toArray⟩] f (R0 f (.string ⟨(bE (UInt8.ofNat b) a).toArray⟩)):=by
 have n:=MJ b qo;have p:=MJ a.length qo;obtain⟨c,i⟩:∃d:ByteArray,d=⟨(bG b).toArray⟩:=⟨_,rfl⟩;obtain⟨e,j⟩:∃d:ByteArray,d=⟨(bG a.length).toArray⟩:=⟨_,rfl⟩;obtain⟨g,l⟩:∃d:ByteArray,d=⟨a.toArray⟩:=⟨_,rfl⟩;have L:c.size<=6:=by rw[i];exact jZ 6 b qo qo
 have M:e.size<=6:=by rw[j];exact jZ 6 a.length qo qo
 have N:g.size=a.length:=by rw[l];rfl
 have k:Hi ((⟨#[75]⟩:ByteArray)++c++e++g=⟨(dF (UInt8.ofNat b) a).toArray⟩):=by
  show _=_
  rw[i,j,l,show(⟨#[75]⟩:ByteArray)=⟨([75]:List UInt8).toArray⟩from rfl,mH,mH,mH,mR z];rfl
 have q:=MB (dF (UInt8.ofNat b) a);have r:(dF (UInt8.ofNat b) a).length<=100000000:=by have:=V3 ByteArray.size k.o;have h:(⟨(dF (UInt8.ofNat b) a).toArray⟩:ByteArray).size=(dF (UInt8.ofNat b) a).length:=rfl;rw[h]at this;simp only[ByteArray.size_append]at this;have A:(⟨#[75]⟩:ByteArray).size=1:=rfl;omega
 obtain⟨K,hK⟩:∃d:ByteArray,d=⟨(cP (dF (UInt8.ofNat b) a)).toArray⟩:=⟨_,rfl⟩;have O:K.size=4:=by rw[hK];rfl
 have t:Hi (∀m:ByteArray,m=((⟨#[75]⟩:ByteArray)++c++e++g)++K->m=⟨(bE (UInt8.ofNat b) a).toArray⟩):=λm h=>by rw[h,k.o,hK,mH];rfl
 have s:Hi (∀f,Cs 144 #[.string ((⟨#[75]⟩:ByteArray)++c++e++g)] f (R0 f (.string K))):=λf=>by rw[k.o,hK];exact q f r
 rw[<-i]at n;rw[<-j]at p;rw[<-l];have u:=aA n;have v:=aA p;have C:1+c.size<=9223372036854775807:=qo;have D:1+c.size+e.size<=9223372036854775807:=qo;have E:1+c.size+e.size+g.size<=9223372036854775807:=qo;have F:1+c.size+e.size+g.size+K.size<=9223372036854775807:=qo;clear n p i j l hK q k r
 delta Cs;go_in
 go_wp2_with fail
 refine cm (u.o _) ?_;rintro h H ⟨rfl,w⟩
 go_wp2_with fail
 refine cm (v.o _) ?_;rintro h I ⟨rfl,x⟩
 go_wp2_with fail
 refine cm (s.o _) ?_;rintro h J ⟨rfl,y⟩;go_wp2;go_ret;exact⟨by rw[<-t.o _ rfl];rfl,(w.qT x).qT y⟩
theorem Gw{P:Program}(a:World)(base:Nat)(p ty d:TypeId)(f:TypeInfo)(q:Value)(size bytes:Nat)(B:P.underlying p=some (.slice d))(z:P.info? d=some f)(I:f.zero=some q)(hsize:f.size=size)(hby:f.bytes=bytes)(hzs:q.cells.size=size)(t:Value)(b:Nat)(h:List Value)(hown:a.ownsRow base d size t b h)(r:Addr)(c u:Nat)(e:List Value)(o:e.length=c*size)(hnews:∀J w,e[J]?=some w->a.cell? (r.add J)=some w)(N:∀w∈e,w.oneCell'=true)(h63:b+c<=maxLen)(hbytes:(b+c)*bytes<=140737488355328)(hbase:base<=a.heap.size)(X:0<c):∃x l,(Builtin.append_ #[p,p] ty #[t,.slice (some r) c u]).run P a=.ok x l/\l.ownsRow base d size x (b+c) (h++e)/\l.ownsRow base d size t b h /\((x.ownBlock=t.ownBlock/\a.grownBy l t.ownBlock)\/(x.ownBlock=some a.heap.size/\a.grownBy l none)):=by
 subst hsize;subst hby;have aa:b+c<=9223372036854775807:=by simp only[maxLen]at h63;omega
 have F:(h++e).length=(b+c)*f.size:=by rw[m8,hown.1,o,Nat.add_mul]
 have D:∀(k:Nat),k<b+c ->
   (a.drew.alloc (.cells (h.toArray++e.toArray++Builtin.zeroCells q.cells (grownCap a (b+c) k d-(b+c))) d)).ownsRow base d f.size
    (.slice (so a.heap.size) (b+c) (grownCap a (b+c) k d)) (b+c) (h++e) /\
   a.grownBy (a.drew.alloc (.cells (h.toArray++e.toArray++Builtin.zeroCells q.cells (grownCap a (b+c) k d-(b+c))) d)) none:=by
  intro k Y;have R:=grownCap_ge a (b+c) k d;have v:=grownCap_le_maxLen a (b+c) k d h63;refine⟨⟨F,.inr ⟨a.heap.size,_,_,rfl,hbase,heap_alloc_new a.drew _,R,v,?_,?_⟩⟩,⟨rfl,rfl,rfl,qs,λC n _=>Qx2 a.drew _ C n⟩⟩
  ·simp only[Array.size_append,size_toArray,size_zeroCells,hzs,hown.1,o,<-Nat.add_mul];grind
  grind
 have L:=λl (M:a.grownBy l none)=>hown.kept M qg;obtain⟨rfl,rfl⟩|⟨g,j,m,rfl,E,y,S,v,O,ab⟩:=hown.2
 ·have W:h=[]:=Qx4 qg;subst W;have s:=run_append_nil (P:=P) a p ty d f q B z I r c u e o hnews qo qo qg;have i:=D 0 qo;have n:=L _ i.2;simp only[Nat.zero_add,nil_append,Array.empty_append]at i n |-;exact⟨_,_,s,i.1,n,.inr ⟨rfl,i.2⟩⟩
 by_cases A:b+c<=j
 ·have Q:b*f.size+e.length<=m.size:=by rw[o,O,<-Nat.add_mul];exact Qx5 _ A
  have s:=run_append_room (P:=P) a p ty d f B z g b j m y r c u e o hnews N A Q;have H:(m.toList.take (b*f.size)++e++m.toList.drop (b*f.size+e.length)).toArray.size=j*f.size:=by grind
  refine⟨_,_,s,⟨F,.inr ⟨g,j,_,rfl,E,Qz4 a g m _ d _ y,A,v,H,?_⟩⟩,⟨hown.1,.inr ⟨g,j,_,rfl,E,Qz4 a g m _ d _ y,S,v,H,?_⟩⟩,.inl ⟨rfl,rfl,rfl,rfl,qs,λC _ n=>Qx6 a g C _ (λd=>n (by simp[Value.ownBlock,d]))⟩⟩
  ·grind
  grind
 have V:=hown.cells (g:=g) rfl;have s:=run_append_grow (P:=P) a p ty d f q B z I ⟨g,0,none⟩ b j h hown.1 V r c u e o hnews qo qo (growslice_fits qo hbytes);have i:=D j qo;exact⟨_,_,s,i.1,L _ i.2,.inr ⟨rfl,i.2⟩⟩
theorem mD{i:Program}{k:Oper}{j:Act}{K:Act->World->Prop}{u:Exit->Act->World->Prop}(s t:Operand)(l:TypeId)(E:k.op=.call {callee:=.builtin .append,args:=#[s,t],argTypes:=#[l,l]})(base:Nat)(c:TypeId)(g:TypeInfo)(p:Value)(size bytes:Nat)(I:i.underlying l=some (.slice c))(B:i.info? c=some g)(L:g.zero=some p)(hsize:g.size=size)(hby:g.bytes=bytes)(hzs:p.cells.size=size)(e:Value)(d:Nat)(n:List Value)(H:j.eval s=e)(hown:w.ownsRow base c size e d n)(o:Addr)(a q:Nat)(h:List Value)(J:j.eval t=.slice (some o) a q)(C:h.length=a*size)(hnews:∀r m,h[r]?=some m->w.cell? (o.add r)=some m)(x:∀m∈h,m.oneCell'=true)(h63:d+a<=maxLen)(hbytes:(d+a)*bytes<=140737488355328)(hbase:base<=w.heap.size)(D:0<a)(v:∀f b,b.ownsRow base c size f (d+a) (n++h)->b.ownsRow base c size e d n->((f.ownBlock=e.ownBlock/\w.grownBy b e.ownBlock)\/(f.ownBlock=some w.heap.size/\w.grownBy b none))->K (j.put k.dst f) b):k.wp i j w K u:=by obtain⟨f,b,F,y,z,A⟩:=Gw (P:=i) w base l k.type c g p size bytes I B L hsize hby hzs e d n hown o a q h C hnews x h63 hbytes hbase D;unfold Oper.wp execOp;simp only[E,resolve,invoke,builtin,Sem.run_bind,Sem.run_pure,Result.andThen_ok,map_toArray,map_cons,map_nil,H,J,F];exact v f b y z A
theorem eU{d:Program}{s:Array Oper}{t:List Oper}{g:Oper}{f:Act}{q:Exit->Act->World->Prop}(u:g.guard=none)(o p:Operand)(j:TypeId)(x:g.op=.call {callee:=.builtin .append,args:=#[o,p],argTypes:=#[j,j]})(base:Nat)(e:TypeId)(i:TypeInfo)(z:Value)(size bytes:Nat)(ht:d.underlying j=some (.slice e))(hi:d.info? e=some i)(hz:i.zero=some z)(hsize:i.size=size)(hby:i.bytes=bytes)(hzs:z.cells.size=size)(v:Value)(n:Nat)(xs:List Value)(hs:f.eval o=v)(hown:w.ownsRow base e size v n xs)(ad:Addr)(m c:Nat)(a:List Value)(hx:f.eval p=.slice (some ad) m c)(hl:a.length=m*size)(hnews:∀r k,a[r]?=some k->w.cell? (ad.add r)=some k)(h1:∀k∈a,k.oneCell'=true)(h63:n+m<=maxLen)(hbytes:(n+m)*bytes<=140737488355328)(hbase:base<=w.heap.size)(hm:0<m)(h:∀l b,b.ownsRow base e size l (n+m) (xs++a)->b.ownsRow base e size v n xs->((l.ownBlock=v.ownBlock/\w.grownBy b v.ownBlock)\/(l.ownBlock=some w.heap.size/\w.grownBy b none))->wpList d s q t (f.put g.dst l) b):wpList d s q (g::t) f w:=
 wpList_plain u λ_ hK=>mD o p j x base e i z size bytes ht hi hz hsize hby hzs v n xs hs hown ad m c a hx hl hnews h1 h63 hbytes hbase hm qg
theorem BV(a:Int):∃b:UInt8,(b.toNat:Int)=a%256:=⟨UInt8.ofNat (a%256).toNat,by have c:(UInt8.ofNat (a%256).toNat).toNat=(a%256).toNat%256:=qs;omega⟩
theorem IR(a:Int)(m:-100000000<=a/\a<=0)(d:World):Cs 108 #[ii a] d λj l=>∃k,j=.returned (.string k)/\Fr [] d l:=by
 obtain⟨e,g⟩:=BV (-a);obtain⟨f,h⟩:=BV (wrap64 (-a.tdiv 256));have i:=OY e f d;rw[g,h]at i;obtain⟨b,c⟩:∃b:ByteArray,b=⟨[e,f].toArray⟩:=⟨_,rfl⟩;have n:1+b.size<=9223372036854775807:=by rw[c];show 1+2<=_;omega
 rw[<-c]at i;clear g h c
 delta Cs;go_in
 go_wp2;go_ret;simp_all[Fr.alloc,r0]
