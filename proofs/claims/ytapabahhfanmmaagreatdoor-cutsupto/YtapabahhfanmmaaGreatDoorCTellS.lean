import Derived.Test.YtapabahhfanmmaaGreatDoorCParseP
namespace Go.Proofs.YtapabahhfanmmaaGreatDoor
open Go.RowKit List Go.Proofs.Tryz
set_option maxHeartbeats 8000000
set_option maxRecDepth 100000
variable {n:Int} {l:List UInt8} {t:T} {C:U} {v:Value} {w x y:World}
structure TxtI (W1:World) (L:List UInt8) (v:Value) (w:World):Prop where
 own:ownM w W1.heap.size v L
 fr:Fr [] W1 w
theorem TxtI.qF{v:Value}(a:TxtI w l v x)(b:Fr [] x y):TxtI w l v y:=⟨a.own.fr b qs,a.fr.qT b⟩
theorem TxtI.append(b:TxtI w l v x)(c g j:Nat)(a:List Int)(p:∀i∈a,0<=i/\i<=1000000000)(m:∀f (b:f<a.length),x.cell? ⟨c,g+f,none⟩=some (ii a[f]))(n:v.ownBlock≠some c)(t:l.length<=100000)(o:a.length<=10000)(q:c<x.heap.size):Cs 79 #[v,.slice (some ⟨c,g,none⟩) a.length j] x λh k=>∃d,h=.returned d/\TxtI w (l++aY a) d k/\Fr (kA v) x k:=by refine cm (rK w.heap.size c g j v l a x b.own p m n qo o b.fr.size q) ?_;rintro h u ⟨d,rfl,e⟩;refine⟨d,rfl,⟨e.own,b.fr.trans e.fr (λr s=>.inr ?_)⟩,e.fr⟩;have:v.ownBlock=some r:=qg;exact(b.own.base this).1
theorem EJ{a:List Int}(c:∀b∈a,0<=b/\b<=1000000000){k:Nat}:(aY (a.take k)).length<=5*a.length:=by grind[jS]
theorem Am(a:T):(cG a).take 5=iN a:=by unfold cG;rw[Qz6 (by show 5<=5;omega)];exact l8 (by show 5<=5;omega)
theorem xJ(a:T)(b:Nat)(d:b<=144):(cG a).take (5+b)=iN a++(iV a).take b:=by unfold cG;have c:(iN a).length=5:=rfl;simp_all[take_append,take_of_length_le,lB]
theorem BM(b:T)(a:Nat)(c:a<=144):(iV b).take a=(range a).map b.bd:=by unfold iV;rw[<-map_take,take_range,Nat.min_eq_left c]
theorem Aj(a:T)(b:Nat)(d:b<12):(cG a).take (5+(b+1)*12)=(cG a).take (5+b*12)++(range 12).map (λc=>a.bd (b*12+c)):=by rw[xJ a _ qo,xJ a _ qo,BM a _ qo,BM a _ qo,X0,show(b+1)*12=b*12+12 by omega,range_add,Qx9,map_map];rfl
theorem xK(a:T)(b:Nat):(cG a).take (150+11*b)=iN a++(iV a++((a.us.length:Int)::(eJ a.us).take (11*b))):=by unfold cG;have c:(iN a).length=5:=rfl;rw[Qz0,c,l8 (l:=iN a) qo,Qz0,lB,l8 (l:=iV a) (by grind[lB]),show 150+11*b-5-144=11*b+1 by omega,take_succ_cons]
theorem KT:∀(a:List U) (b:Nat) (c:U),a[b]?=some c->(eJ a).take (11*(b+1))=(eJ a).take (11*b)++c.qN
 |[],_,_,f=>by grind
 |e::a,0,c,f=>by simp_all[U.qN,eJ]
 |e::a,b+1,c,f=>by
  have h:=KT a b c qg;have g:∀d,(e.qN++eJ a).take (11*(d+1))=e.qN++(eJ a).take (11*d):=λd=>by rw[Qz0,l8 qt];congr 2
  simp_all[U.qN,eJ]
theorem Ai(a:T):(cG a).take 150=(cG a).take (5+12*12)++[(a.us.length:Int)]:=by have:=xK a 0;rw[Nat.mul_zero,Nat.add_zero,take_zero]at this;grind[xJ,take_of_length_le,lB,append_assoc]
theorem Ak(c:T)(b:Nat)(a:U)(d:c.us[b]?=some a):(cG c).take (150+11*(b+1))=((cG c).take (150+11*b)++[a.id,a.owner,a.kind,a.x,a.y,a.life,a.load])++[a.what,a.tox,a.toy,a.target]:=by simp_all[xK,KT]
theorem Kg(a:C∈t.us)(b:n∈C.qN):n∈cG t:=by unfold cG;exact Qk6 _ (Qk6 _ (Zz4 _ (i6.2 qg)))
theorem zJ(w z:Nat)(a:T)(e:World)(ax:PRow e w z a.us)(N:∀l∈cG a,0<=l/\l<=1000000000)(cg:a.us.length<=100):Cs 38 #[.agg (aP a (.slice (so w) a.us.length z)).toArray] e (R0 e (.string ⟨(aQ a).toArray⟩)):=by
 obtain⟨gl,O⟩:=nm (aP a (.slice (so w) a.us.length z));rw[<-O];obtain⟨j,ar,az,Zr⟩:=al e (.cells gl.toArray 90);have Y:∀c,Fr [] j c->∀g,g<149->c.cell? ⟨e.heap.size,g,none⟩=some (aK a (.slice (so w) a.us.length z) 0 0 g):=λc k g hk=>by rw[aB (k.qH Zr),O];simp[aP,getElem?_range hk]
 have ah:=ax.fr az qs;have ch:e.heap.size<j.heap.size:=aH Zr;have y:=aA Y;have bg:Hi (∀c,Fr [] j c->Cs 50 #[.pointer (so e.heap.size)] c (R0 c (ii (eD a.us)))):=λc k=>zN e.heap.size w z a.us c ⟨by have:=Y c k 148 qo;simpa[aK]using this,(ah.fr k qs).ppl,by omega⟩;have cb:=aA O;have bf:=aA ar;have av:=EJ N (k:=150+11*a.us.length);rw[oW]at av;have I:Hi (∀g,(aY ((cG a).take g)).length<=10000):=λg=>by have:=EJ N (k:=g);rw[oW]at this;omega
 have H:=aA N;have bc:Hi (∀c,Fr [] j c->Ppl c w a.us):=λc k=>(ah.fr k qs).ppl;have E:Hi (∀{L:List UInt8} {v:Value} {e:World} (_:TxtI j L v e) (B S nc:Nat) (u:List Int) (_:∀h∈u,0<=h/\h<=1000000000) (_:∀d (t:d<u.length),e.cell? ⟨B,S+d,none⟩=some (ii u[d])) (_:v.ownBlock≠some B) (_:L.length<=100000) (_:u.length<=10000) (_:B<e.heap.size),
  Cs 79 #[v,.slice (some ⟨B,S,none⟩) u.length nc] e λi c=>∃v',i=.returned v'/\TxtI j (L++aY u) v' c/\Fr (kA v) e c):=λt B S nc u bh bi bj bm i bn=>t.append B S nc u bh bi bj bm i bn
 clear O ar N av Y ax ah
 delta Cs;go_in
 go_wp2_with fail
 rw[<-bf.o];have D:∀c,Fr [] j c->(λc:World=>cl c e.heap.size 0 a.turn/\cl c e.heap.size 1 a.next/\cl c e.heap.size 2 a.s0/\cl c e.heap.size 3 a.s1/\Fr [] j c) c:=λc k=>⟨y.o c k 0 qo,y.o c k 1 qo,y.o c k 2 qo,y.o c k 3 qo,k⟩;have K0:=D _ (r0 [] j).drew;have ak:Hi (∀h∈[a.turn,eD a.us,a.s0,a.s1,a.next],0<=h/\h<=1000000000):=λh n=>H.o h (by have:h∈iN a:=n;unfold cG;exact Qk3 _ this);have C5:∀(J:World) (d:Nat) (t:d<[a.turn,eD a.us,a.s0,a.s1,a.next].length),(J.alloc (.cells #[ii a.turn,ii (eD a.us),ii a.s0,ii a.s1,ii a.next] 3)).cell? ⟨J.heap.size,0+d,none⟩=some (ii [a.turn,eD a.us,a.s0,a.s1,a.next][d]):=λJ d t=>by
  rw[aB (aC J _),Z9];have:d=0\/d=1\/d=2\/d=3\/d=4:=by simp at t;omega
  obtain rfl|rfl|rfl|rfl|rfl:=this<;>rfl
 go_cut [3] (fun s3 wx=>TxtI j (aY ((cG a).take 5)) s3 wx)
 ·go_region_held (fun c:World=>ca c e.heap.size 0 (ii a.turn)/\ca c e.heap.size 1 (ii a.next)/\ca c e.heap.size 2 (ii a.s0)/\ca c e.heap.size 3 (ii a.s1)/\Fr [] j c)
   (first|with_reducible exact K0|with_reducible exact D _ aa|with_reducible exact D _ (aa.alloc _)|with_reducible exact D _ s.fr)
   (first|(go_at_call 50;refine cm (bg.o _ (Q1 (Q1 (Q1 (Q1 qb))))) ?_;rintro i w2 ⟨rfl,br⟩;have aa:Fr [] j w2:=Fr.qT (Q1 (Q1 (Q1 (Q1 qb)))) br)|(go_at_call 79;refine cm (E.o (L:=[]) (v:=.slice none 0 0) ⟨Cg _ _,aa.alloc _⟩ w2.heap.size 0 5 [a.turn,eD a.us,a.s0,a.s1,a.next] ak.o (C5 w2) (by simp[Value.ownBlock]) qs qs qs) ?_;rintro i w3 ⟨v3,rfl,s,Zq⟩))
  all_goals
   go_wp2_with fail
   go_meet
   rw[Am];exact s
 have aw:∀c,Fr [] j c->c.rangeAt e.heap.size 4 (dH a.bd):=λc k d v R=>by
  have r:d<144:=by have:=(gs.1 R).1;rwa[lA]at this
  rw[y.o c k (4+d) qo];unfold aK;rw[Z0 qo,Z0 qo,Z0 qo,Z0 qo,Q7 qo,show 4+d-4=d by omega];unfold dH at R;rw[V4,Zk4 r]at R;exact R
 have af:=aw _ hcut.fr;have V:Hi (∀(f:Nat) (_:f<12) (e:World),(Instr.index 88 (.agg (dH a.bd).toArray) (ii f)).run prog e=.ok (.agg (eK a.bd f).toArray) e):=MY a.bd;have am:Hi (∀f,(eK a.bd f).length=12/\(eK a.bd f).toArray.all (·.oneCell')=true):=λf=>⟨MS _ _,MT _ _⟩;obtain⟨bl,X⟩:=nm (dH a.bd);have aj:Hi ((prog.info? 88).map (·.size)=some bl.length):=by
  show _=_
  rw[oK,X,lA]
 rw[<-X]at af V;have ap:=aA hcut;clear X aw D K0 C5 ak hcut
 go_wp2_with (refine wpList_load_mid rfl 88 _ rfl e.heap.size 4 rfl bl _ af Qk0 rfl aj.o ?_)
 go_loopw [3,23] (fun v A wr=>∃f:Nat,f<=12/\A=ii f/\TxtI j (aY ((cG a).take (5+f*12))) v wr) (fun _ A _=>12-(intOf A).toNat)
 ·exact⟨0,by omega,rfl,ap.o⟩
 obtain⟨f,ck,rfl,m⟩:=hrel
 by_cases ad:f<12
 ·have Zs:(f:Int)<12:=qo;have hr:=V.o f ad;obtain⟨P,ag⟩:=am.o f;have ai:∀d (t:d<12),(eK a.bd f)[d]?=some (ii (a.bd (f*12+d))):=λd t=>by simp[eK,getElem?_range t]
  obtain⟨C,ae⟩:=nn (eK a.bd f);rw[ae]at hr P ag;simp only[ae]at ai;have HO:=aA ag;have HI:Hi ((prog.info? 86).map (·.size)=some C.toArray.size):=by
   show _=_
   rw[wI,Qx3,P]
  have HZ:Hi (zero12.size=C.toArray.size):=by show 12=C.toArray.size;rw[Qx3,P]
  have be:=aA ai;have p:=aA m;clear P ag ae ai m
  go_wp2_with (refine wpList_store_row rfl 86 _ _ rfl wr.heap.size C.toArray rfl rfl 86 zero12 (aC wr _) HI.o HZ.o HO.o ?_)
  obtain⟨W3,M⟩:=nm ((wr.alloc (.cells zero12 86)).setRow wr.heap.size C.toArray);rw[<-M];have Zq:Fr [] wr W3:=by rw[M];exact((r0 _ _).alloc _).setRow _ _ (.inr (Q9 _))
  have ab:W3.heap[wr.heap.size]?=some (.cells C.toArray 86):=by rw[M];exact Qz4 _ _ _ _ _ _ (aC _ _)
  have q:=E.o (p.o.qF Zq) wr.heap.size 0 12 ((range 12).map (λl=>a.bd (f*12+l))) (λh n=>by obtain⟨l,hx,rfl⟩:=Qk7.1 n;have cj:=Qk5.1 hx;refine H.o _ ?_;unfold cG;refine Qk6 _ (Qk3 _ ?_);exact Qk7.2 ⟨f*12+l,Qk5.2 qo,rfl⟩)
   (λd r=>by
    have ac:d<12:=by simpa using r
    rw[aB ab,Z9,J6,be.o d ac];simp)
   (λi=>by have:=(p.o.own.base i).2;omega) (Y3 (I.o _) qo) qs (aH ab)
  have bo:((range 12).map (fun l=>a.bd (f*12+l))).length=12:=qs;rw[bo]at q;have ba:=(show Hi _ from Aj a f ad);clear M ab;refine cm q ?_;rintro i w4 ⟨v4,rfl,s,bs⟩;clear q;go_wp2;go_roundw
  ·exact⟨f+1,ad,by go_num,by rw[ba.o,lR];exact s⟩
  simp[intOf];omega
 have Zs:¬(f:Int)<12:=qo;have hy:f=12:=qo;subst hy;have bq:wr.cell? ⟨e.heap.size,148,none⟩=some (.slice (so w) a.us.length z):=by have:=y.o wr m.fr 148 qo;simpa[aK]using this
 have p:=aA m;clear m V am aj af ap
 go_wp2_with fail
 have q:=E.o (p.o.qF ((r0 [] wr).alloc (.cells #[ii (a.us.length:Int)] 3))) wr.heap.size 0 1 [(a.us.length:Int)] (λh n=>H.o h (by
   have:h=(a.us.length:Int):=by simpa using n
   subst this;unfold cG;exact Qk6 _ (Qk6 _ qs)))
  (λd r=>by
   have ac:d=0:=by simpa using r
   subst ac;rw[aB (aC wr _)]
   rfl)
  (λi=>by have:=(p.o.own.base i).2;omega) (Y3 (I.o _) qo) qs qs
 refine cm q ?_;rintro i w4 ⟨v4,rfl,s,bs⟩;rw[<-lR,<-Ai]at s;have cd:w4.cell? ⟨e.heap.size,148,none⟩=some (.slice (so w) a.us.length z):=by have:=y.o w4 s.fr 148 qo;simpa[aK]using this
 have an:=aA s;clear q s p bq;go_wp2
 go_loopw [3,39] (fun v A wr=>∃g:Nat,g<=a.us.length/\A=ii g/\TxtI j (aY ((cG a).take (150+11*g))) v wr) (fun _ A _=>a.us.length-(intOf A).toNat)
 ·exact⟨0,by omega,rfl,an.o⟩
 obtain⟨g,hk,rfl,m⟩:=hrel
 by_cases au:g<a.us.length
 ·have bw:(g:Int)<(a.us.length:Int):=qo;obtain⟨b,Q⟩:∃b,a.us[g]?=some b:=⟨a.us[g],Y2 au⟩;obtain⟨c0,c1,c2,c3,c4,c5,c6,c7,c8,c9,bk⟩:=(bc.o wr m.fr).at Q;have bb:=(show Hi _ from Ak a g b Q);have W:Hi (∀l,l∈b.qN->0<=l/\l<=1000000000):=λl hx=>H.o l (Kg (Q8 Q) hx);have p:=aA m;clear m Q
  go_wp2_with fail
  have bp:Fr [] wr ((wr.alloc (.cells b.arr 85)).alloc (.cells #[ii b.id,ii b.owner,ii b.kind,ii b.x,ii b.y,ii b.life,ii b.load] 3)):=((r0 [] wr).alloc _).alloc _;have q:=E.o (p.o.qF bp) (wr.heap.size+1) 0 7 [b.id,b.owner,b.kind,b.x,b.y,b.life,b.load] (λh n=>W.o h (by simp only[mem_cons,not_mem_nil,or_false]at n |-;omega))
   (λd r=>by
    rw[aB (cZ wr _ _),Z9];have:d=0\/d=1\/d=2\/d=3\/d=4\/d=5\/d=6:=by simp at r;omega
    obtain rfl|rfl|rfl|rfl|rfl|rfl|rfl:=this<;>rfl)
   (λi=>by have:=(p.o.own.base i).2;omega) (Y3 (I.o _) qo) qs qs
  refine cm q ?_;rintro i x ⟨v5,rfl,ay,bt⟩;have F:x.heap[wr.heap.size]?=some (.cells b.arr 85):=bt.heap ((eL _ _ _ qs).trans (aC _ _)) (λhm=>by have:=(p.o.own.base (show u3.ownBlock=some wr.heap.size by simpa[kA]using hm)).2;omega)
  have e7:ca x wr.heap.size 7 (ii b.what):=aB F;have e8:ca x wr.heap.size 8 (ii b.tox):=aB F;have e9:ca x wr.heap.size 9 (ii b.toy):=aB F;have cc:ca x wr.heap.size 10 (ii b.target):=aB F;have bx:(aY ((cG a).take (150+11*g))++aY [b.id,b.owner,b.kind,b.x,b.y,b.life,b.load]).length<=100000:=by have h1:=I.o (150+11*g);have h2:=jS [b.id,b.owner,b.kind,b.x,b.y,b.life,b.load] (λh n=>(W.o h (by simp only[mem_cons,not_mem_nil,or_false]at n |-;omega)).2);rw[m8];simp at h2;omega
  have ao:=aA ay;clear q ay F c0 c1 c2 c3 c4 c5 c6 c7 c8 c9 bk
  go_wp2_with fail
  have aq:=E.o (ao.o.qF ((r0 [] x).alloc (.cells #[ii b.what,ii b.tox,ii b.toy,ii b.target] 3))) x.heap.size 0 4 [b.what,b.tox,b.toy,b.target] (λh n=>W.o h (by simp only[mem_cons,not_mem_nil,or_false]at n |-;omega))
   (λd r=>by
    rw[aB (aC x _),Z9];have:d=0\/d=1\/d=2\/d=3:=by simp at r;omega
    obtain rfl|rfl|rfl|rfl:=this<;>rfl)
   (λi=>by have:=(ao.o.own.base i).2;omega) bx qs qs
  refine cm aq ?_;rintro i w6 ⟨v6,rfl,bz,cf⟩;clear aq;go_wp2;go_roundw
  ·exact⟨g+1,au,by go_num,by rw[bb.o,lR,lR];exact bz⟩
  simp[intOf];omega
 have bw:¬(g:Int)<(a.us.length:Int):=qo;have bv:g=a.us.length:=qo;subst bv;rw[l8 (by rw[oW];exact Q9 _)]at m;have ce:=m.own.string;have bu:=az.qT m.fr;clear m an;go_wp2;go_ret;exact⟨rfl,bu⟩
