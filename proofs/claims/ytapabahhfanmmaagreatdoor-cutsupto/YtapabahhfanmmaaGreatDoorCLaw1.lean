import Derived.Test.YtapabahhfanmmaaGreatDoorCActA
import Derived.Test.YtapabahhfanmmaaGreatDoorCStoreL
import Derived.Test.YtapabahhfanmmaaGreatDoorCItoa
namespace Go.Proofs.YtapabahhfanmmaaGreatDoor
open Go.RowKit List Go.Proofs.Tryz
set_option maxHeartbeats 4000000
set_option maxRecDepth 100000
variable {a:Nat} {t:T} {C:U}
theorem Dq(a:T)(b:U):(cY a b).us.map U.id=a.us.map U.id:=by grind[cY,bI,kU,qD]
theorem QB(b:TOk t)(c:t.us[a]?=some C)(d:bP t.us=false):Rise (dJ t C).2.us:=by have e:=(uN b c d).ok.rise;grind[tP,eS,Dq]
theorem tV(a:TOk t)(b:Int):0<=t.qK b/\t.qK b<=1000000000:=by
 unfold T.qK
 split
 ·exact a.st.1
 exact a.st.2
theorem VO:rC 8 (ii 5) (ii 5) (.bool true) (fv 167) (fv 167) (fv 168) (fv 169) (fv 157) (fv 157) (fv 158) (fv 159) (fv 160) (fv 161) (fv 158) (fv 162) .nilFunc .nilFunc .nilFunc .nilFunc .nilFunc .nilFunc .nilFunc .nilFunc:=λa=>by kernel_rfl
theorem VP:rC 12 (ii 8) (ii 0) (.bool true) (fv 167) (fv 167) (fv 168) (fv 169) (fv 157) (fv 157) (fv 158) (fv 159) .nilFunc .nilFunc .nilFunc .nilFunc (fv 163) (fv 164) (fv 165) (fv 166) .nilFunc .nilFunc .nilFunc .nilFunc:=λa=>by kernel_rfl
theorem QC(f i l h j:Nat)(d:T)(J:Nat)(c:U)(a:World)(n:TS a f i l h j d)(v:Sd a)(q:TOk d)(H:d.us[J]?=some c)(I:bP d.us=false):Cs 153 #[pt f,c.val] a λe g=> e=.returned (.tuple #[])/\∃p u,Fr [f,i,h,j] a g/\TS g f p u h j (eS d c)/\(p=i\/a.heap.size<=p):=by
 have o:=q.all c qg;have r:=QB q H I;have F:=λb (h:cK d.us c.owner=some b)=>(q.all b (Zx6 h)).on;have A:=tV q c.owner;unfold eS;have w:c.what=0->∀g,Fr [] a g->Cs 169 #[pt f,c.val] g λe t=>e=.returned (dJ d c).1.val/\∃p u,Fr [f,i,h,j] g t/\TS t f p u h j (dJ d c).2/\(p=i\/g.heap.size<=p):=by
  intro e g m;have:dJ d c=(c,d):=by grind[dJ]
  rw[this];exact(Gp _ c g).mono λe t ⟨C,z⟩=>⟨C,i,l,z.qO,(n.qF m).qF z,.inl rfl⟩
 have x:c.what=1->∀g,Fr [] a g->Cs 159 #[pt f,c.val] g λe t=>e=.returned (dJ d c).1.val/\∃p u,Fr [f,i,h,j] g t/\TS t f p u h j (dJ d c).2/\(p=i\/g.heap.size<=p):=by
  intro e g m;have:dJ d c=gI d c:=by grind[dJ]
  rw[this];exact(ZP f i l h j d c g (n.qF m) (v.qF m) o.on).mono (by grind[Fr.mono])
 obtain e|⟨e,k⟩|⟨e,k,E⟩|⟨e,k⟩|⟨e,k,s⟩:=o.od
 ·have w:=w e;obtain k|k|k:=o.kd
  ·exact mF f i l h j d c jV 167 167 168 169 (dJ d c) a n (λa=>by rw[k];exact oM a) (λa=>by rw[e];exact yO a) w r (λ_ _=>by kernel_rfl)
  ·exact mF f i l h j d c jL 167 167 168 169 (dJ d c) a n (λa=>by rw[k];exact lU a) (λa=>by rw[e];exact yQ a) w r (λ_ _=>by kernel_rfl)
  exact mF f i l h j d c jW 167 167 168 169 (dJ d c) a n (λa=>by rw[k];exact nH a) (λa=>by rw[e];exact yT a) w r (λ_ _=>by kernel_rfl)
 ·have x:=x e;obtain k|k:=k
  ·exact mF f i l h j d c jL 157 157 158 159 (dJ d c) a n (λa=>by rw[k];exact lU a) (λa=>by rw[e];exact yR a) x r (λ_ _=>by kernel_rfl)
  exact mF f i l h j d c jW 157 157 158 159 (dJ d c) a n (λa=>by rw[k];exact nH a) (λa=>by rw[e];exact yU a) x r (λ_ _=>by kernel_rfl)
 ·refine mF f i l h j d c jL 160 161 158 162 (dJ d c) a n (λa=>by rw[k];exact lU a) (λa=>by rw[e];exact yS a) ?_ r (λ_ _=>by kernel_rfl);intro g m;have:dJ d c=eR d c:=by grind[dJ]
  rw[this];exact(ZO f i l h j d c g (n.qF m) (v.qF m) o.on E o.ow F A ⟨o.ld.1,o.ld.2.1⟩ k).mono (by grind[Fr.mono])
 ·refine mF f i l h j d c jW 163 164 165 166 (dJ d c) a n (λa=>by rw[k];exact nH a) (λa=>by rw[e];exact yV a) ?_ r (λ_ _=>by kernel_rfl);intro g m;have:dJ d c=fI d c:=by grind[dJ]
  rw[this];exact(XE f i l h j d c g (n.qF m) (v.qF m) q.rise o.on (λy B=>⟨(q.all y B).on,by have:=(q.all y B).lf;omega,by have C:=(q.all y B).lf;have z:=GU y.kind;omega⟩)).mono qg
 refine mF f i l h j d c jV 154 154 155 156 (dJ d c) a n (λa=>by rw[k];exact oM a) (λa=>by rw[e];exact yP a) ?_ r (λ_ _=>by kernel_rfl);intro g m;have:dJ d c=eF d c:=by grind[dJ]
 rw[this];have D:0<=d.next:=by have:=q.nx.1;omega
 obtain s|s:=s
 ·exact BO f i l h j d c 8 5 _ _ _ _ _ _ _ _ _ _ _ _ _ _ _ _ _ _ _ _ _ _ g (by grind[lU]) VO (by rw[s];rfl) (by rw[s];rfl) (n.qF m) (v.qF m) o.on o.ow D A qo xL
 exact BO f i l h j d c 12 8 _ _ _ _ _ _ _ _ _ _ _ _ _ _ _ _ _ _ _ _ _ _ g (by grind[nH]) VP (by rw[s];rfl) (by rw[s];rfl) (n.qF m) (v.qF m) o.on o.ow D A qo xM
variable {D:U}
structure ActI (w:World) (tb pb hb bb:Nat) (t:T) (cl ccap k:Nat) (wr:World):Prop where
 ex:∃pb' cap' t',TS wr tb pb' cap' hb bb t'/\TOk t'/\bP t'.us=false/\fY (t.us.drop k) t'=fY t.us t/\(pb'=pb\/w.heap.size<=pb')/\pb'≠cl
 fr:Fr [tb,pb,hb,bb] w wr
 row:PRow wr cl ccap t.us
theorem rG(b:U)(c:List U)(a:T):fY (b::c) a=if bP (iB a b).us=true then iB a b else fY c (iB a b):=rfl
theorem AE(a:bI t.us C.id=none):iB t C=t:=by grind[iB]
theorem PS(b:bI t.us C.id=some a)(c:t.us[a]?=some D):iB t C=eS t D:=by grind[iB]
theorem QF(j u S C B:Nat)(a:T)(w:World)(f:TS w j u S C B a)(ay:Sd w)(Zr:TOk a)(Zq:bP a.us=false)(ar:0<a.us.length):Cs 119 #[pt j] w λe d=> e=.returned (.tuple #[])/\∃k p,Fr [j,u,C,B] w d/\TS d j k p C B (fY a.us a)/\(k=u\/w.heap.size<=k):=by
 have hz:=f.z;have bc:=f.ways.lt;have bh:=f.held.lt;have bp:=f.lt;have bn:=f.row.lt;have hc:=f.gv.c;have bk:=f.len
 delta Cs;go_in
 go_wp2_with (first|(go_at_call 75;refine(uZ u S a.us _ f.row f.len ar).mono ?_;rintro e w1 ⟨cl,ao,rfl,be,ax,J⟩))
 clear hc
 go_loopw [13] (fun h wr=>∃i:Nat,i<=a.us.length/\h=ii i/\ActI w j u C B a cl ao i wr) (fun h _=>a.us.length-(intOf h).toNat)
 ·exact⟨0,Z3 _,rfl,⟨u,S,a,f.qF J,Zr,Zq,rfl,.inl rfl,by omega⟩,J.qO,ax⟩
 obtain⟨i,hk,rfl,hI⟩:=hrel;obtain⟨⟨k,p,l,q,M,D,b,aa,au⟩,X,I⟩:=hI
 by_cases ai:i<a.us.length
 ·obtain⟨m,hv⟩:∃P,a.us[i]?=some P:=qa;have ae:a.us.drop i=m::a.us.drop (i+1):=by grind[drop_eq_getElem_cons]
  rw[ae]at b;rw[rG]at b;obtain⟨c0,c1,c2,c3,c4,c5,c6,c7,c8,c9,ac⟩:=I.ppl.at hv;have bq:=q.lt;have bo:=q.row.lt;have bi:=q.held.lt;have bd:=q.ways.lt;have bf:=I.lt;have HT:=aA q;have Q:=aA b;have ab:=aA I;have E:=aA X;clear q b ae hv I X
  go_wp2_with fail
  obtain⟨n,V⟩:=nm (wr.alloc (.cells m.arr 85));rw[<-V];have ag:Fr [] wr n:=by simp_all[Fr.alloc,r0]
  have ak:n.heap[wr.heap.size]?=some (.cells m.arr 85):=by rw[V];exact aC _ _
  clear V c0 c1 c2 c3 c4 c5 c6 c7 c8 c9 ac;have R:∀d,Fr [] n d->(λd:World=>ca d wr.heap.size 0 (ii m.id)/\Fr [] n d) d:=λd hf=>⟨aB (hf.qH ak),hf⟩;have K0:=R n.drew ((r0 _ _).drew)
  go_cut [4,5] (fun s4 s5 wx=>∃(h:Nat) (x:Bool),s4=ii h/\s5=.bool x/\bI l.us m.id=(if x=true then some h else none)/\Fr [] n wx)
  ·go_region_held (fun d:World=>ca d wr.heap.size 0 (ii m.id)/\Fr [] n d)
    (first|omega|with_reducible exact R _ ah)
    (first|(go_at_call 152;refine(pU j k p l.us m.id _ (HT.o.gv.qF (ag.qT (Q1 qo))) M.rise).mono ?_;rintro e w1 ⟨h,x,rfl,J,aw⟩;have ah:=Fr.qT (Q1 qo) J))
   all_goals
    go_wp2_with fail
    go_meet
    exact⟨h,x,rfl,rfl,aw,ah⟩
  obtain⟨h,x,rfl,rfl,N,aq⟩:=hcut;have t:=ag.qT aq;have s:=HT.o.qF t;clear R K0 ak;cases x
  ·have H:iB l m=l:=AE qa;have b:=Q.o;rw[H,D,Z0 qs]at b
   go_wp2_with (first|(go_at_call 116;refine(qK j k p l.us _ s.gv).mono ?_;rintro e w3 ⟨rfl,g⟩;rw[D]))
   go_roundw
   ·exact⟨i+1,ai,by go_num,⟨k,p,l,s.qF g,M,D,b,aa,au⟩,(E.o.qT t).qT g,(ab.o.fr t qs).fr g qs⟩
   simp[intOf];omega
  rw[Q7 rfl]at N;obtain⟨P,y,ba⟩:=kU N;have H:=PS N y;have b:=Q.o;rw[H]at b;have Y:=uN M y D;have bg:=s.gv.c;have bj:=(gs.1 y).1;have bl:=s.len;obtain⟨c0,c1,c2,c3,c4,c5,c6,c7,c8,c9,ac⟩:=s.row.ppl.at y;have az:=(ay.fr E.o qt).qF t;have W:=QC j k p C B l h P wc s az M y D;obtain⟨O,r⟩:=nn (eS l P);rw[r]at Y b W;have HC:=aA W;have HL:=aA b;have HG:=aA Y;obtain⟨an,hB⟩:=nn (bP O.us);have A:=aA hB;have br:=t.size;clear y b Q N H hB W Y r ba s
  go_wp2_with fail
  refine cm HC.o ?_;rintro e w2 ⟨rfl,v,F,af,r,bm⟩;have am:=(E.o.qT t).trans af (by
   intro bt hx;simp at hx;obtain rfl|rfl|rfl|rfl:=hx
   ·simp
   ·obtain e|e:=aa
    ·simp[e]
    omega
   ·simp
   simp)
  have bs:=E.o.size;have aj:v=u\/w.heap.size<=v:=by omega
  have av:v≠cl:=by omega
  have ap:=(ab.o.fr t qs).fr af qt;have L:=HL.o;cases an
  ·rw[A.o,Z0 qs]at L
   go_wp2_with (first|(go_at_call 116;refine(qK j v F O.us _ r.gv).mono ?_;rintro e w3 ⟨rfl,g⟩;rw[A.o]))
   go_roundw
   ·exact⟨i+1,ai,by go_num,⟨v,F,O,r.qF g,HG.o.ok,A.o,L,aj,av⟩,am.qT g,ap.fr g qs⟩
   simp[intOf];omega
  rw[A.o,Q7 rfl]at L
  go_wp2_with (first|(go_at_call 116;refine(qK j v F O.us _ r.gv).mono ?_;rintro e w3 ⟨rfl,g⟩;rw[A.o]))
  refine Zq8 (v:=.tuple #[]) (Q6 rfl _ _ _) rfl ⟨rfl,v,F,am.qT g,?_,aj⟩;rw[<-L];exact r.qF g
 have ad:=b;rw[Z6 qo]at ad
 go_wp2_with fail
 refine Q5 (v:=.tuple #[]) (Q6 rfl _ _ _) rfl ⟨rfl,k,p,X,?_,aa⟩;rw[<-ad];exact q
variable {b:Nat}
set_option maxRecDepth 100000
def gZ(a:Nat):Nm:=LOG++[46]++jK a
theorem Js(c:gZ a=gZ b):a=b:=UE (List.append_cancel_left c)
theorem Ju(a:Nat):gZ a≠LOG:=λb=>by simp_all[gZ]
theorem Jr(a:Nat):Value.string ((⟨LOG.toArray⟩:ByteArray)++⟨#[46]⟩++⟨(jK a).toArray⟩)=sv (gZ a):=by congr 1
theorem xD{d:Type}[BEq d][LawfulBEq d]:∀(a b:List d),a.Nodup->(∀c∈a,c∈b)->a.length<=b.length
 |[],_,_,_=>Z3 _
 |c::a,b,f,e=>by obtain⟨g,h⟩:=V1.1 f;have k:=e c qs;have:=xD a (b.erase c) h (λi l=>(List.mem_erase_of_ne (λj=>g qg)).2 (e i qg));grind
theorem Jt{c:List Nm}(d:∀b,1<=b->b<a->gZ b∈c):a<=c.length+1:=by
 have:=xD ((range (a-1)).map λb=>gZ (b+1)) c (by grind[Pairwise.imp,List.pairwise_lt_range,Js]) qg
 grind
theorem Kj(l w:Nat)(v:Value)(b:Gf)(c:World)(P:c.cell? ⟨l,w,none⟩=some v)(H:MapO c v (λj=>(b j).map iJ))(J:∀a,∃O S R,eH b a=.slice O S R)(ac:l<c.heap.size)(L:Tb c){k:List Nm}(Q:∀j,(b j).isSome=true->j∈k)(ab:k.length<=1000000000):Cs 85 #[.pointer (some ⟨l,w,none⟩),sv LOG] c λo g=>∃f,o=.returned (sv f)/\b f=none/\f≠LOG/\f.length<=30/\Fr [] c g:=by
 have z:=aA (λg a (d:Fr [] c g)=>wB l w v b a g (by grind[Fr.cell]) (H.fr d qs) (J a));have HI:=aA (λg a (I:a<=1000000001) (d:Fr [] c g)=>XZ a qo g (L.qF d));have A:Hi (∀a,(∀e,1<=e->e<a->(b (gZ e)).isSome=true)->a<=k.length+1):=λa aa=>Jt qg;obtain⟨N,t⟩:∃x:ByteArray,x=⟨LOG.toArray⟩:=⟨_,rfl⟩;have ad:N.size=3:=by rw[t];rfl
 have y:Hi (∀a,Value.string (N++⟨#[46]⟩++⟨(jK a).toArray⟩)=sv (gZ a)):=λa=>by grind[Jr]
 have B:Hi (∀a,a<=1000000001->(⟨(jK a).toArray⟩:ByteArray).size<=21):=λa I=>DQ a qo;rw[sv,<-t];clear t H J P L Q
 delta Cs;go_in
 go_wp2
 go_loopw [5] (fun u wr=>∃a:Nat,u=ii a/\1<=a/\(∀e,1<=e->e<a->(b (gZ e)).isSome=true)/\Fr [] c wr) (fun u _=>k.length+2-(intOf u).toNat)
 ·exact⟨1,rfl,Q9 _,qo,r0 _ _⟩
 obtain⟨a,rfl,h1,p,d⟩:=hrel;have I:=A.o a p;have X:=aA p;have D:=y.o a;have M:=B.o a qo;obtain⟨W,C⟩:∃x:ByteArray,x=⟨(jK a).toArray⟩:=⟨_,rfl⟩;have s:=HI.o wr a qo d;rw[<-C]at s D M;clear p y B A HI C
 go_wp2_with fail
 refine cm s ?_;rintro o V ⟨rfl,q⟩;clear s;have F:=z.o V (gZ a) (d.qT q)
 go_wp2_with fail
 refine cm F ?_;rintro o w2 ⟨rfl,E⟩;clear D M F z;have m:=(show Hi _ from Ju a);have n:Hi ((gZ a).length<=30):=by
  show _<=30
  have:=DQ a qo;unfold gZ;rw[m8];simp only[length_append]at this |-
  show 4+_<=30
  omega
 cases r:b (gZ a)with
 |none=>have i:=aA r;obtain⟨f,h⟩:=nm (gZ a);rw[<-h]at i m n |-;clear r h;go_wp2;go_ret;exact⟨f,rfl,i.o,m.o,n.o,(d.qT q).qT E⟩
 |some ae=>
  have i:Hi ((b (gZ a)).isSome=true):=by show _=true;simp_all
  obtain⟨f,h⟩:=nm (gZ a);rw[<-h]at i m n |-;have Y:=aA h;clear r h;go_wp2;go_roundw
  ·refine⟨a+1,by go_num,by omega,fun e q1 q2=>?_,(d.qT q).qT E⟩;grind[Hi.o]
  simp[intOf];omega
theorem Gl(c:Nat)(d:List Value)(ty:TypeId)(n u:Value)(m:List Nat)(b:Gf)(p:List Stp)(l:List UInt8)(e:World)(j:SB e c d ty n u)(k:SVE eQ e n u m b p)(N:c∉m)(ad:Tb e){Q:List Nm}(ac:∀g,(b g).isSome=true->g∈Q)(ab:Q.length<=1000000000)(hl:p.length<=9999990)(hx:l.length<=1000000000):Cs 46 #[.pointer (some ⟨c,d.length,none⟩),sv LOG,sv l] e λh w'=>h=.returned (.tuple #[])/\∃a v' ae ag V,b a=none/\a≠LOG/\a.length<=30/\SPost e c d ty m eQ (λg=>if g=a then none else if g=LOG then some (v',l)else b g) (p++[bV a l,bQ a,dI a LOG]) w' ae ag V:=by
 have t:=Kj c d.length n b e j.c0 k.map k.ones j.lt ad ac ab;obtain⟨S,C⟩:=nm LOG;rw[<-C]at t |-;clear C;have w:=aA (λa q (hN:b a=none) (E:Fr [] e q)=>uQ c d ty eQ n u m b p a l q (j.fr E qs) (k.qF E) N qs qo (by grind[aX]));have z:=(show Hi _ from SPost.refl j k N);clear j k
 delta Cs;go_in
 go_wp2_with fail
 refine cm t ?_;rintro h q ⟨a,rfl,s,H,A,F⟩;have aa:aX b a=[]:=by grind[aX]
 have r:=(show Hi _ from And.intro s (And.intro H A));have B:=w.o a q s F;clear t s H A w
 go_wp2_with fail
 refine cm B ?_;rintro h w2 ⟨rfl,v2,P,ah,W,I⟩;have f:=(z.o.qT F).trans I;rw[aa,Z8]at f;have O:=zC c d ty eQ P ah W _ _ a w2 f.bl f.sve f.nsb qg;have x:=aA f;clear I f B z
 go_wp2_with fail
 refine cm O ?_;rintro h w3 ⟨rfl,ai,X,J⟩;have i:=x.o.trans J;have M:=MP c d ty P ai X _ _ a S w3 i.bl i.sve i.nsb qg;have y:=aA i;clear J i O x
 go_wp2_with fail
 refine cm M ?_;rintro h w4 ⟨rfl,af,aj,Y,L⟩;have D:=y.o.trans L;have R:=aA D;clear L D M y
 go_wp2_with fail
 refine Q5 (v:=.tuple #[]) (Q6 rfl _ _ _) rfl ⟨rfl,a,v2,af,aj,Y,r.o.1,r.o.2.1,r.o.2.2,?_⟩;have ak:=R.o;simp_all[bV,bQ,dI,eH,aX]
variable {n:Int} {R:List Value} {c:Nat} {v:Value} {w x:World}
def Mks(h:World)(K:List Nat)(g:Value)(f:Int):Prop:=∃c a e,g=.slice c a e/\a<=3000000/\(a=0\/∃b,c=some ⟨b,0,none⟩/\b∈K/\∀d,d<a->h.cell? ⟨b,d,none⟩=some (ii f))
def kQ(a:Int):U:=⟨a,0,0,0,0,a,0,0,0,0,0⟩
def MkU(h:World)(K:List Nat)(g:Value)(f:Int):Prop:=∃c a e,g=.slice c a e/\a<=3000000/\(a=0\/∃b,c=some ⟨b,0,none⟩/\b∈K/\∀d,d<a->h.rangeAt b (d*11) (kQ f).cells)
def MkP(f:World)(K:List Nat)(h:Value):Prop:=∃d a g,h=.slice d a g/\a<=3000000/\(a=0\/∃b,d=some ⟨b,0,none⟩/\b∈K/\∀e,e<a->∃c i,f.cell? ⟨b,e,none⟩=some (.slice (so c) 1 i)/\c∈K/\f.cell? ⟨c,0,none⟩=some (ii (-7)))
theorem Mks.fr{S K:List Nat}(d:Mks w K v n)(i:Fr S w x)(j:∀b∈K,b∉S):Mks x K v n:=by obtain⟨a,g,c,e,f,h⟩:=d;refine⟨a,g,c,e,f,?_⟩;grind[Fr.cell,aI]
theorem MkU.fr{S K:List Nat}(l:MkU w K v n)(p:Fr S w x)(q:∀a∈K,a∉S):MkU x K v n:=by
 obtain⟨j,r,k,m,o,b⟩:=l;refine⟨j,r,k,m,o,?_⟩;obtain b|⟨a,s,g,h⟩:=b
 ·omega
 exact .inr ⟨a,s,g,λf c e i d=>by rw[p.cell a _ (aI (h f c e i d)) (q a g)];exact h f c e i d⟩
theorem MkP.fr{S K:List Nat}(d:MkP w K v)(i:Fr S w x)(j:∀b∈K,b∉S):MkP x K v:=by obtain⟨a,g,c,e,f,h⟩:=d;refine⟨a,g,c,e,f,?_⟩;grind[Fr.cell,aI]
theorem Mks.up{K K':List Nat}(d:Mks w K v n)(i:∀b∈K,b∈K'):Mks w K' v n:=by obtain⟨a,g,c,e,f,h⟩:=d;exact⟨a,g,c,e,f,qg⟩
theorem MkU.up{K K':List Nat}(d:MkU w K v n)(i:∀b∈K,b∈K'):MkU w K' v n:=by obtain⟨a,g,c,e,f,h⟩:=d;exact⟨a,g,c,e,f,qg⟩
theorem MkP.up{K K':List Nat}(f:MkP w K v)(b:∀a∈K,a∈K'):MkP w K' v:=by obtain⟨d,l,e,g,h,i⟩:=f;refine⟨d,l,e,g,h,i.imp_right λ⟨a,m,n,o⟩=>⟨a,m,b a n,λk j=>?_⟩⟩;obtain⟨c,s,p,q,r⟩:=o k j;exact⟨c,s,p,b c q,r⟩
def MkR(h:World)(K:List Nat)(g:Value)(d:List Value):Prop:=∃c a f,g=.slice c a f/\a<=20000000/\(a=0\/∃b,c=some ⟨b,0,none⟩/\b∈K/\∀e,e<a->h.rangeAt b (e*d.length) d)
abbrev cF(a:ByteArray):List Value:=[.string a,.string a]
abbrev cS(a:ByteArray):List Value:=[ii (-1),.string a,.string a,.string a]
theorem MkR.fr{S K:List Nat}(l:MkR w K v R)(o:Fr S w x)(p:∀a∈K,a∉S):MkR x K v R:=by
 obtain⟨j,q,k,m,n,b⟩:=l;refine⟨j,q,k,m,n,?_⟩;obtain b|⟨a,r,g,h⟩:=b
 ·omega
 exact .inr ⟨a,r,g,λf c e i d=>by rw[o.cell a _ (aI (h f c e i d)) (p a g)];exact h f c e i d⟩
theorem MkR.up{K K':List Nat}(d:MkR w K v R)(i:∀b∈K,b∈K'):MkR w K' v R:=by obtain⟨a,g,c,e,f,h⟩:=d;exact⟨a,g,c,e,f,qg⟩
def AR(a:Nat):TypeId:=if a=0 then 25 else if a=2 then 46 else if a=3 then 82 else if a=5 then 51 else if a=6 then 34 else if a=7\/a=8 then 9 else 3
def aR{a:Type}(c:Nat->a)(d:Nat)(e:a):Nat->a:=λb=>if b=d then e else c b
theorem iG{c:Type}(d:Nat->c)(a:Nat)(b:c):aR d a b a=b:=Q7 rfl
theorem iA{d:Type}(c:Nat->d)(f:d)(e:b≠a):aR c a f b=c b:=Z0 e
structure BR (w:World) (bb:Nat) (rv:Nat->Value) (xs:Nat->List Value) (nx:Int):Prop where
 cell:∀k,k<9->w.cell? ⟨bb,k,none⟩=some (rv k)
 nxt:w.cell? ⟨bb,9,none⟩=some (ii nx)
 fz:∀k,w.frozen? ⟨bb,k,none⟩=false
 own:∀k,k<9->w.ownsRow 0 (AR k) 1 (rv k) (xs k).length (xs k)
 nb:∀k,k<9->(rv k).ownBlock≠some bb
 ap:∀i j,i<9->j<9->i≠j->∀g,(rv i).ownBlock=some g->(rv j).ownBlock≠some g
theorem BR.lt{c:Nat->Value}{d:Nat->List Value}(b:BR w a c d n):a<w.heap.size:=aI b.nxt
theorem BR.fr{S:List Nat}{g:Nat->Value}{i:Nat->List Value}(c:BR w a g i n)(d:Fr S w x)(f:a∉S)(j:∀b,b<9->∀h,(g b).ownBlock=some h->h∉S):BR x a g i n:=
 {c with
  cell:=λb e=>by rw[d.cell a b c.lt f];exact c.cell b e
  nxt:=by rw[d.cell a 9 c.lt f];exact c.nxt
  fz:=λb=>by rw[d.frozen a b c.lt f];exact c.fz b
  own:=λb e=>aF (c.own b e) d (j b e)}
theorem sE(c:World)(d:Addr)(e:Value)(a b:Nat):(c.setCell d e).frozen? ⟨a,b,none⟩=c.frozen? ⟨a,b,none⟩:=qs
theorem BR.mark{f:Nat->Value}{g:Nat->List Value}(b:BR w a f g n)(e:Int):BR (w.setCell ⟨a,9,none⟩ (ii e)) a f g e:=
 {b with
  cell:=(by grind[cE,BR.cell])
  nxt:=eA _ _ _ _ _ b.nxt
  fz:=λc=>by grind[sE,BR.fz]
  own:=λc d=>aF (b.own c d) ((r0 [a] w).setCell _ _ qs) (λi j h=>b.nb c d qg)}
theorem BR.push{f:Nat->Value}{l:Nat->List Value}(h:BR w a f l n)(b:Nat)(u:b<9)(e:Value)(m:List Value)(C:x.ownsRow 0 (AR b) 1 e ((l b).length+m.length) (l b++m))(p:(e.ownBlock=(f b).ownBlock/\w.grownBy x (f b).ownBlock)\/(e.ownBlock=some w.heap.size/\w.grownBy x none)):BR (x.setCell ⟨a,b,none⟩ e) a (aR f b e) (aR l b (l b++m)) n/\Fr (a::(f b).ownBlock.toList) w (x.setCell ⟨a,b,none⟩ e):=by
 have q:Fr (f b).ownBlock.toList w x:=by
  obtain⟨_,d⟩|⟨_,d⟩:=p
  ·exact(r0 _ _).grow d (λg d=>.inl qg)
  exact(r0 _ _).grow d qg
 have y:a∉(f b).ownBlock.toList:=λj=>h.nb b u qg;have v:=h.lt;have E:e.ownBlock≠some a:=by grind
 have D:∀i,i<9->i≠b->∀g,e.ownBlock=some g->(f i).ownBlock≠some g:=by
  intro i r B g d j;obtain⟨o,_⟩|⟨o,_⟩:=p
  ·grind[BR.ap]
  rw[o]at d;cases d;have:=(h.own i r).lt _ j;omega
 have z:∀c,x.cell? ⟨a,c,none⟩=w.cell? ⟨a,c,none⟩:=(by grind[Fr.cell]);have t:Fr [a] x (x.setCell ⟨a,b,none⟩ e):=(r0 _ _).setCell _ _ qs;refine⟨⟨λc k=>?_,?_,λc=>?_,λc k=>?_,λc k=>?_,λi c r k A g d=>?_⟩,?_⟩
 ·grind[iG,eA,BR.cell,iA,cE]
 ·grind[cE,BR.nxt]
 ·rw[sE,q.frozen a c v y];exact h.fz c
 ·by_cases j:c=b
  ·grind[iG,length_append,aF]
  rw[iA _ _ j,iA _ _ j];refine aF (aF (h.own c k) q (λg d s=>?_)) t (λg d s=>h.nb c k qg);grind[BR.ap]
 ·grind[iG,iA,BR.nb]
 ·grind[iG,iA,BR.ap]
 grind[Fr.setCell,Fr.mono,mem_cons_of_mem]
structure BL (w:World) (K:List Nat) (xs:Nat->List Value):Prop where
 pl:∀(i:Nat) (v:Value),(xs 0)[i]?=some v->∃m,(xs 1)[i]?=some (ii m)/\Mks w K v m
 pr:∀(i:Nat) (v:Value),(xs 2)[i]?=some v->MkP w K v
 pe:∀(i:Nat) (v:Value),(xs 3)[i]?=some v->∃m,(xs 4)[i]?=some (ii m)/\MkU w K v m
 fi:∀(i:Nat) (v:Value),(xs 5)[i]?=some v->∃m,(xs 7)[i]?=some (.string m)/\MkR w K v (cF m)
 st:∀(i:Nat) (v:Value),(xs 6)[i]?=some v->∃m,(xs 8)[i]?=some (.string m)/\MkR w K v (cS m)
theorem BL.fr{S K:List Nat}{a:Nat->List Value}(c:BL w K a)(d:Fr S w x)(e:∀b∈K,b∉S):BL x K a:=
  ⟨(by grind[BL.pl,Mks.fr]),λg h f=>(c.pr g h f).fr d e,(by grind[BL.pe,MkU.fr]),(by grind[BL.fi,MkR.fr]),(by grind[BL.st,MkR.fr])⟩
theorem BL.up{K K':List Nat}{a:Nat->List Value}(c:BL w K a)(d:∀b∈K,b∈K'):BL w K' a:=
  ⟨(by grind[BL.pl,Mks.up]),λf g e=>(c.pr f g e).up d,(by grind[BL.pe,MkU.up]),(by grind[BL.fi,MkR.up]),(by grind[BL.st,MkR.up])⟩
structure Bk (w:World) (bb:Nat) (K:List Nat) (N:Nat):Prop where
 ex:∃rv xs nx KL,BR w bb rv xs nx/\BL w KL xs/\(xs 0).length=(xs 1).length/\((xs 3).length=(xs 4).length/\(xs 5).length=(xs 7).length/\(xs 6).length=(xs 8).length)/\(xs 0).length<=8*N/\(xs 2).length<=3*N/\((xs 3).length<=4*N/\(xs 5).length<=3*N/\(xs 6).length<=3*N) /\ -(3*(N:Int))<=nx/\nx<=0/\(∀k,k<9->∀g,(rv k).ownBlock=some g->g∈K)/\(∀b∈KL,b∈K/\∀k,k<9->(rv k).ownBlock≠some b)
 nb:bb∉K
 kl:∀b∈K,b<w.heap.size
theorem Bk.fr{S K:List Nat}(f:Bk w a K b)(p:Fr S w x)(d:a∉S)(z:∀c∈K,c∉S):Bk x a K b:=by obtain⟨⟨t,u,s,e,v,y,i,j,k,l,m,n,o,g,h⟩,r,q⟩:=f;exact⟨⟨t,u,s,e,(by grind[BR.fr]),(by grind[BL.fr]),i,j,k,l,m,n,o,g,h⟩,r,λc d=>Z1 (q c d) p.size⟩
theorem Bk.qF{K:List Nat}(c:Bk w a K b)(d:Fr [] w x):Bk x a K b:=c.fr d qs qs
theorem Bk.more{K:List Nat}(e:Bk w a K b)(v:b<=c):Bk w a K c:=by obtain⟨⟨p,q,o,d,f,i,j,k,r,s,t,u,l,g,h⟩,n,m⟩:=e;exact⟨⟨p,q,o,d,f,i,j,k,by omega,by omega,by omega,by omega,l,g,h⟩,n,m⟩
theorem Bk.lt{K:List Nat}(c:Bk w a K b):a<w.heap.size:=by obtain⟨⟨g,h,f,e,d,_⟩,_,_⟩:=c;exact d.lt
theorem Bk.start{ty:TypeId}(f:w.heap[a]?=some (.cells #[.slice none 0 0,.slice none 0 0,.slice none 0 0,.slice none 0 0,.slice none 0 0,.slice none 0 0,.slice none 0 0,.slice none 0 0,.slice none 0 0,ii 0] ty)):Bk w a [] 0:=by
 refine⟨⟨λ_=>.slice none 0 0,λ_=>[],0,[],⟨λb h=>?_,?_,λb=>aV f,λb h=>⟨rfl,qg⟩,λb h i=>?_,λd k _ _ _ j g=>?_⟩,⟨λd e c=>?_,λd e c=>?_,λd e c=>?_,λd e c=>?_,λd e c=>?_⟩,rfl,⟨rfl,rfl,rfl⟩,by simp,by simp,by simp,by simp,by simp,λb h j g=>?_,by simp⟩,by simp,by simp⟩
 ·rw[aB f];have:b=0\/b=1\/b=2\/b=3\/b=4\/b=5\/b=6\/b=7\/b=8:=qo;obtain rfl|rfl|rfl|rfl|rfl|rfl|rfl|rfl|rfl:=this<;>rfl
 ·rw[aB f];rfl
 ·cases i
 ·cases g
 ·simp at c
 ·simp at c
 ·simp at c
 ·simp at c
 ·grind
 cases g
variable {H:TypeId}
theorem gL{w:World}{base:Nat}{size:Nat}{xs:List Value}(d:w.ownsRow base H size v a xs):∃b c,v=.slice b a c:=by
 obtain⟨rfl,rfl⟩|⟨g,e,f,rfl,_⟩:=d.2
 ·grind
 grind
theorem gT{w:World}{base:Nat}{xs:List Value}(b:w.ownsRow base H 1 v xs.length xs){i:Nat}{u:Value}(e:xs[i]?=some u):∃a c,v=.slice (so a) xs.length c/\w.cell? ⟨a,i,none⟩=some u:=by have f:i<xs.length:=qg;obtain⟨g,d,rfl⟩:=bK b qo;refine⟨g,d,rfl,?_⟩;have:=b.cells (g:=g) rfl i u e;grind[Addr.add_lit]
section
variable {w:World} {bb:Nat} {rv:Nat->Value} {xs:Nat->List Value} {nx:Int} {KL:List Nat}
theorem BR.len(d:BR w bb rv xs nx){k:Nat}(c:k<9):∃a b,w.cell? ⟨bb,k,none⟩=some (.slice a (xs k).length b):=by obtain⟨a,b,e⟩:=gL (d.own k c);grind[BR.cell]
theorem BR.two(g:BR w bb rv xs nx){p q:Nat}(m:p<9)(n:q<9)(y:(xs p).length=(xs q).length){i:ByteArray}(o:(xs p)[a]?=some v)(l:(xs q)[a]?=some (.string i))(k:MkR w KL v R):∃d j qb qc c b f,w.cell? ⟨bb,p,none⟩=some (.slice (so d) (xs p).length j)/\w.cell? ⟨bb,q,none⟩=some (.slice (so qb) (xs p).length qc)/\w.cell? ⟨d,a,none⟩=some (.slice c b f)/\w.cell? ⟨qb,a,none⟩=some (.string i)/\b<=20000000/\∀h,h<b->∃e,c=some ⟨e,0,none⟩/\w.rangeAt e (h*R.length) R:=by obtain⟨c,b,f,rfl,z,x⟩:=k;obtain⟨d,j,r,s⟩:=gT (g.own p m) o;obtain⟨qb,qc,t,u⟩:=gT (g.own q n) l;grind[BR.cell]
theorem VC(a:ByteArray)(w:World):(binOp BinOp.neq 115 (.agg (cF a).toArray) (.agg (cF a).toArray)).run prog w=.ok (.bool false) w:=by simp[go_sem]
theorem Ik(a:ByteArray)(w:World):(binOp BinOp.neq 113 (.agg (cS a).toArray) (.agg (cS a).toArray)).run prog w=.ok (.bool false) w:=by simp[go_sem]
end
theorem En{rv:Nat->Value}{xs:Nat->List Value}{nx:Int}{KL:List Nat}(bb J:Nat)(w:World)(W:BR w bb rv xs nx)(X:BL w KL xs)(Y:(xs 5).length=(xs 7).length/\(xs 6).length=(xs 8).length)(h7:(xs 5).length<=3*J/\(xs 6).length<=3*J)(hN:J<=2200000):Cs 59 #[pt bb] w (R0 w (.bool true)):=by
 have D:=aA (λQ (b:Fr [] w Q)=>W.fr b qs qs);have S:=aA (λQ (b:Fr [] w Q)=>X.fr b qs);have R:=aA Y;obtain⟨ab,ac⟩:=h7;clear W X Y;obtain⟨z,N⟩:=nn ((xs 5).length);obtain⟨A,O⟩:=nn ((xs 6).length);rw[N]at ab;rw[O]at ac;have V:=aA N;have I:=aA O;clear N O
 delta Cs;go_in
 go_wp2
 go_loopw [3] (fun a wr=>∃k:Nat,k<=z/\a=ii k/\Fr [] w wr) (fun a _=>z-(intOf a).toNat)
 ·exact⟨0,Z3 _,rfl,r0 _ _⟩
 obtain⟨a,hi,rfl,b⟩:=hrel
 by_cases F:a<z
 ·have L:(a:Int)<(z:Int):=qo;obtain⟨h,e⟩:∃h,(xs 5)[a]?=some h:=⟨_,Y2 (by grind[Hi.o])⟩;obtain⟨m,v,x⟩:=(S.o wr b).fi a h e;obtain⟨pb,pc,qb,qc,ao,g,aa,f,i,j,n,e5,t⟩:=(D.o wr b).two (p:=5) (q:=7) qo qo R.o.1 e v x;rw[V.o]at f i;have s:=aA t;clear t e v x
  go_wp2_with fail
  obtain⟨C,y⟩:=nm wr;rw[<-y]at b f i j n s |-;clear y;have H:=aA b
  go_loopw [5] (fun r wr=>∃k:Nat,k<=g/\r=ii k/\Fr [] C wr) (fun r _=>g-(intOf r).toNat)
  ·exact⟨0,Z3 _,rfl,r0 _ _⟩
  obtain⟨k,hk,rfl,o⟩:=hrel;have c:=λd B h (e:C.cell? ⟨d,B,none⟩=some h)=>(o.cell d B (aI e) qs).trans e;have f1:=c _ _ _ f;have f3:=c _ _ _ j
  by_cases u:k<g
  ·have M:(k:Int)<(g:Int):=qo;obtain⟨d,rfl,l⟩:=s.o k u;have g0:ca wr d (k*2) (.string m):=c _ _ _ (l 0 _ rfl);have g1:ca wr d (k*2+1) (.string m):=c _ _ _ (l 1 _ rfl);have P:=VC m;simp only[cF]at P;clear c f i j n l;go_wp2;go_roundw
   ·exact⟨k+1,u,by go_num,o⟩
   simp[intOf];omega
  have M:¬(k:Int)<(g:Int):=qo;clear c f i j n;go_wp2;go_roundw
  ·exact⟨a+1,F,by go_num,H.o.qT o⟩
  simp[intOf];omega
 have L:¬(a:Int)<(z:Int):=qo;obtain⟨a0,c0,E⟩:=(D.o wr b).len (k:=5) qo;rw[V.o]at E;go_wp2
 go_loopw [6] (fun a wr=>∃k:Nat,k<=A/\a=ii k/\Fr [] w wr) (fun a _=>A-(intOf a).toNat)
 ·exact⟨0,Z3 _,rfl,b⟩
 clear b E;obtain⟨a,hi,rfl,b⟩:=hrel
 by_cases F:a<A
 ·have L:(a:Int)<(A:Int):=qo;obtain⟨h,e⟩:∃h,(xs 6)[a]?=some h:=⟨_,Y2 (by rw[I.o];exact F)⟩;obtain⟨m,v,x⟩:=(S.o wr b).st a h e;obtain⟨pb,pc,qb,qc,ao,g,aa,f,i,j,n,e5,t⟩:=(D.o wr b).two (p:=6) (q:=8) qo qo R.o.2 e v x;rw[I.o]at f i;have s:=aA t;clear t e v x
  go_wp2_with fail
  obtain⟨C,y⟩:=nm wr;rw[<-y]at b f i j n s |-;clear y;have H:=aA b
  go_loopw [8] (fun r wr=>∃k:Nat,k<=g/\r=ii k/\Fr [] C wr) (fun r _=>g-(intOf r).toNat)
  ·exact⟨0,Z3 _,rfl,r0 _ _⟩
  obtain⟨k,hk,rfl,o⟩:=hrel;have c:=λd B h (e:C.cell? ⟨d,B,none⟩=some h)=>(o.cell d B (aI e) qs).trans e;have f1:=c _ _ _ f;have f3:=c _ _ _ j
  by_cases u:k<g
  ·have M:(k:Int)<(g:Int):=qo;obtain⟨d,rfl,l⟩:=s.o k u;have g0:ca wr d (k*4) (ii (-1)):=c _ _ _ (l 0 _ rfl);have g1:ca wr d (k*4+1) (.string m):=c _ _ _ (l 1 _ rfl);have g2:ca wr d (k*4+2) (.string m):=c _ _ _ (l 2 _ rfl);have g3:ca wr d (k*4+3) (.string m):=c _ _ _ (l 3 _ rfl);have P:=Ik m;simp only[cS]at P;clear c f i j n l;go_wp2;go_roundw
   ·exact⟨k+1,u,by go_num,o⟩
   simp[intOf];omega
  have M:¬(k:Int)<(g:Int):=qo;clear c f i j n;go_wp2;go_roundw
  ·exact⟨a+1,F,by go_num,H.o.qT o⟩
  simp[intOf];omega
 have L:¬(a:Int)<(A:Int):=qo;obtain⟨a0,c0,E⟩:=(D.o wr b).len (k:=6) qo;rw[I.o]at E;go_wp2;go_ret;simp_all
section
variable {w:World} {bb:Nat} {rv:Nat->Value} {xs:Nat->List Value} {nx:Int} {KL:List Nat}
theorem BR.place(h:BR w bb rv xs nx)(m:BL w KL xs)(t:(xs 0).length=(xs 1).length){i:Nat}(u:i<(xs 0).length):∃d l qb qc b a g c,w.cell? ⟨bb,0,none⟩=some (.slice (so d) (xs 0).length l)/\w.cell? ⟨bb,1,none⟩=some (.slice (so qb) (xs 0).length qc)/\w.cell? ⟨d,i,none⟩=some (.slice b a g)/\w.cell? ⟨qb,i,none⟩=some (ii c)/\a<=3000000/\∀k,k<a->∃f,b=some ⟨f,0,none⟩/\w.cell? ⟨f,k,none⟩=some (ii c):=by obtain⟨e,j⟩:∃e,(xs 0)[i]?=some e:=qa;obtain⟨c,n,b,a,g,rfl,v,s⟩:=m.pl i e j;obtain⟨d,l,o,p⟩:=gT (h.own 0 qo) j;obtain⟨qb,qc,q,r⟩:=gT (h.own 1 qo) n;grind[BR.cell]
theorem BR.pair(m:BR w bb rv xs nx)(l:BL w KL xs){i:Nat}(r:i<(xs 2).length):∃c j b a f,w.cell? ⟨bb,2,none⟩=some (.slice (so c) (xs 2).length j)/\w.cell? ⟨c,i,none⟩=some (.slice b a f)/\a<=3000000/\∀h,h<a->∃e k n,b=some ⟨e,0,none⟩/\w.cell? ⟨e,h,none⟩=some (.slice (so k) 1 n)/\w.cell? ⟨k,0,none⟩=some (ii (-7)):=by obtain⟨d,g⟩:∃d,(xs 2)[i]?=some d:=qa;obtain⟨b,a,f,rfl,s,q⟩:=l.pr i d g;obtain⟨c,j,o,p⟩:=gT (m.own 2 qo) g;grind[BR.cell]
theorem BR.folk(d:BR w bb rv xs nx)(t:BL w KL xs)(r:(xs 3).length=(xs 4).length){i:Nat}(z:i<(xs 3).length):∃g j qb qc b a h f,w.cell? ⟨bb,3,none⟩=some (.slice (so g) (xs 3).length j)/\w.cell? ⟨bb,4,none⟩=some (.slice (so qb) (xs 3).length qc)/\w.cell? ⟨g,i,none⟩=some (.slice b a h)/\w.cell? ⟨qb,i,none⟩=some (ii f)/\a<=3000000/\∀e,e<a->∃c,b=some ⟨c,0,none⟩/\w.rangeAt c (e*11) (kQ f).cells:=by
 obtain⟨k,m⟩:∃k,(xs 3)[i]?=some k:=qa;obtain⟨f,u,b,a,h,rfl,v,l⟩:=t.pe i k m;obtain⟨g,j,n,o⟩:=gT (d.own 3 qo) m;obtain⟨qb,qc,p,q⟩:=gT (d.own 4 qo) u;refine⟨g,j,qb,qc,b,a,h,f,by rw[d.cell 3 qo,n],by rw[d.cell 4 qo,p,r],o,q,v,λe s=>?_⟩;obtain l|⟨c,x,_,y⟩:=l
 ·omega
 exact⟨c,x,y e s⟩
end
theorem Kh(a:U)(w:World):(binOp BinOp.neq 85 a.val a.val).run prog w=.ok (.bool false) w:=by simp[go_sem]
theorem YZ(bb M:Nat)(K:List Nat)(w:World)(ac:Bk w bb K M)(hN:M<=2200000):Calls prog 27 #[.pointer (some ⟨bb,0,none⟩)] w (R0 w (.bool true)):=by
 obtain⟨⟨rv,xs,nx,KL,h1,h2,h3,N,h5,h6,O,_⟩,_⟩:=ac;have v:=aA (λS (b:Fr [] w S)=>h1.fr b qs qs);have F:=aA (λS (b:Fr [] w S)=>h2.fr b qs);have ad:=h5;have ae:=h6;have af:=O.1;have H3:=aA h3;have H4:=aA N.1;have aa:=aA N.2;have H7:=aA O.2;clear h1 h2 h3 N h5 h6 O;obtain⟨B,P⟩:=nn ((xs 0).length);obtain⟨C,Q⟩:=nn ((xs 2).length);obtain⟨D,R⟩:=nn ((xs 3).length);rw[P]at ad;rw[Q]at ae;rw[R]at af;have I:=aA P;have J:=aA Q;have L:=aA R;clear P Q R
 go_enter func27,ntmps27
 go_wp2
 go_loopw [3] (fun i wr=>∃k:Nat,k<=B/\i=ii k/\Fr [] w wr) (fun i _=>B-(intOf i).toNat)
 ·exact⟨0,Z3 _,rfl,Fr.refl _ _⟩
 obtain⟨i,hi,rfl,b⟩:=hrel
 by_cases p:i<B
 ·have z:(i:Int)<(B:Int):=qo;obtain⟨pb,pc,qb,qc,W,f,X,H,e,j,g,m,e5,o⟩:=(v.o wr b).place (F.o wr b) H3.o (i:=i) (by rw[I.o];exact p);rw[I.o]at e j;have n:=aA o;clear o
  go_wp2_with fail
  obtain⟨u,s⟩:=nm wr;rw[<-s]at b e j g m n |-;clear s;have y:=aA b
  go_loopw [4] (fun l wr=>∃k:Nat,k<=f/\l=ii k/\Fr [] u wr) (fun l _=>f-(intOf l).toNat)
  ·exact⟨0,Z3 _,rfl,Fr.refl _ _⟩
  obtain⟨k,hk,rfl,h⟩:=hrel;have a:=λc t E (r:u.cell? ⟨c,t,none⟩=some E)=>(h.cell c t (aI r) qs).trans r;have f1:=a _ _ _ e;have f2:=a _ _ _ j;have f3:=a _ _ _ g;have f4:=a _ _ _ m
  by_cases q:k<f
  ·have A:(k:Int)<(f:Int):=qo;obtain⟨c,rfl,d⟩:=n.o k q;have f7:=a _ _ _ d;clear a e j g m d;go_wp2
   go_quiet (fail)
   go_wp2;go_roundw
   ·exact⟨k+1,q,by go_num,h.drewN _⟩
   simp[intOf];omega
  have A:¬(k:Int)<(f:Int):=qo;clear a e j g m;go_wp2;go_roundw
  ·exact⟨i+1,p,by go_num,y.o.qT h⟩
  simp[intOf];omega
 have z:¬(i:Int)<(B:Int):=qo;obtain⟨V,Y,x⟩:=(v.o wr b).len (k:=0) qo;rw[I.o]at x;go_wp2
 go_loopw [5] (fun i wr=>∃k:Nat,k<=C/\i=ii k/\Fr [] w wr) (fun i _=>C-(intOf i).toNat)
 ·exact⟨0,Z3 _,rfl,b⟩
 clear b x;obtain⟨i,hi,rfl,b⟩:=hrel
 by_cases p:i<C
 ·have z:(i:Int)<(C:Int):=qo;obtain⟨pb,pc,W,f,X,e,g,e5,o⟩:=(v.o wr b).pair (F.o wr b) (i:=i) (by rw[J.o];exact p);rw[J.o]at e;have n:=aA o;clear o
  go_wp2_with fail
  obtain⟨u,s⟩:=nm wr;rw[<-s]at b e g n |-;clear s;have y:=aA b
  go_loopw [6] (fun l wr=>∃k:Nat,k<=f/\l=ii k/\Fr [] u wr) (fun l _=>f-(intOf l).toNat)
  ·exact⟨0,Z3 _,rfl,Fr.refl _ _⟩
  obtain⟨k,hk,rfl,h⟩:=hrel;have a:=λc t E (r:u.cell? ⟨c,t,none⟩=some E)=>(h.cell c t (aI r) qs).trans r;have f1:=a _ _ _ e;have f3:=a _ _ _ g
  by_cases q:k<f
  ·have A:(k:Int)<(f:Int):=qo;obtain⟨c,aj,xc,rfl,d,e8⟩:=n.o k q;have f7:=a _ _ _ d;have f8:=a _ _ _ e8;clear a e g d e8;go_wp2;go_roundw
   ·exact⟨k+1,q,by go_num,h⟩
   simp[intOf];omega
  have A:¬(k:Int)<(f:Int):=qo;clear a e g;go_wp2;go_roundw
  ·exact⟨i+1,p,by go_num,y.o.qT h⟩
  simp[intOf];omega
 have z:¬(i:Int)<(C:Int):=qo;obtain⟨V,Y,x⟩:=(v.o wr b).len (k:=2) qo;rw[J.o]at x;go_wp2
 go_loopw [7] (fun i wr=>∃k:Nat,k<=D/\i=ii k/\Fr [] w wr) (fun i _=>D-(intOf i).toNat)
 ·exact⟨0,Z3 _,rfl,b⟩
 clear b x;obtain⟨i,hi,rfl,b⟩:=hrel
 by_cases p:i<D
 ·have z:(i:Int)<(D:Int):=qo;obtain⟨pb,pc,qb,qc,W,f,X,H,e,j,g,m,e5,o⟩:=(v.o wr b).folk (F.o wr b) H4.o (i:=i) (by rw[L.o];exact p);rw[L.o]at e j;have n:=aA o;clear o
  go_wp2_with fail
  obtain⟨u,s⟩:=nm wr;rw[<-s]at b e j g m n |-;clear s;have y:=aA b
  go_loopw [8] (fun l wr=>∃k:Nat,k<=f/\l=ii k/\Fr [] u wr) (fun l _=>f-(intOf l).toNat)
  ·exact⟨0,Z3 _,rfl,Fr.refl _ _⟩
  obtain⟨k,hk,rfl,h⟩:=hrel;have a:=λc t E (r:u.cell? ⟨c,t,none⟩=some E)=>(h.cell c t (aI r) qs).trans r;have f1:=a _ _ _ e;have f2:=a _ _ _ j;have f3:=a _ _ _ g;have f4:=a _ _ _ m
  by_cases q:k<f
  ·have A:(k:Int)<(f:Int):=qo;obtain⟨c,rfl,d⟩:=n.o k q;have g0:wr.cell? ⟨c,k*11,none⟩=some (ii H):=a _ _ _ (d 0 _ rfl);have g1:wr.cell? ⟨c,k*11+1,none⟩=some (ii 0):=a _ _ _ (d 1 _ rfl);have g2:wr.cell? ⟨c,k*11+2,none⟩=some (ii 0):=a _ _ _ (d 2 _ rfl);have g3:wr.cell? ⟨c,k*11+3,none⟩=some (ii 0):=a _ _ _ (d 3 _ rfl);have g4:wr.cell? ⟨c,k*11+4,none⟩=some (ii 0):=a _ _ _ (d 4 _ rfl);have g5:wr.cell? ⟨c,k*11+5,none⟩=some (ii H):=a _ _ _ (d 5 _ rfl);have g6:wr.cell? ⟨c,k*11+6,none⟩=some (ii 0):=a _ _ _ (d 6 _ rfl);have g7:wr.cell? ⟨c,k*11+7,none⟩=some (ii 0):=a _ _ _ (d 7 _ rfl);have g8:wr.cell? ⟨c,k*11+8,none⟩=some (ii 0):=a _ _ _ (d 8 _ rfl);have g9:wr.cell? ⟨c,k*11+9,none⟩=some (ii 0):=a _ _ _ (d 9 _ rfl);have ai:wr.cell? ⟨c,k*11+10,none⟩=some (ii 0):=a _ _ _ (d 10 _ rfl);have ag:=Kh (kQ H);simp only[kQ,U.val]at ag;clear a e j g m d;go_wp2
   go_quiet (fail)
   go_wp2;go_roundw
   ·exact⟨k+1,q,by go_num,h.drewN _⟩
   simp[intOf];omega
  have A:¬(k:Int)<(f:Int):=qo;clear a e j g m;go_wp2;go_roundw
  ·exact⟨i+1,p,by go_num,y.o.qT h⟩
  simp[intOf];omega
 have z:¬(i:Int)<(D:Int):=qo;obtain⟨V,Y,x⟩:=(v.o wr b).len (k:=3) qo;rw[L.o]at x;have ab:=(show Hi _ from En bb M wr (v.o wr b) (F.o wr b) aa.o H7.o hN)
 go_wp2_with (go_at_call 59;refine cm ab.o ?_;rintro ah w2 ⟨rfl,h⟩)
 go_ret;exact⟨rfl,b.qT h⟩
variable {p:Int} {r u:Value}
def aW(size:Nat)(pat:Nat->Value)(n:Nat):List Value:=(range (n*size)).map pat
theorem iD(size:Nat)(pat:Nat->Value)(n:Nat):(aW size pat n).length=n*size:=by simp[aW]
theorem nS{size:Nat}{pat:Nat->Value}{n:Nat}(b:a<n*size):(aW size pat n)[a]?=some (pat a):=by grind[aW]
theorem KO{size:Nat}{pat:Nat->Value}(b:∀c,pat (c+size)=pat c)(a:Nat):∀n,pat (a+n*size)=pat a
 |0=>by simp
 |n+1=>by have:=b (a+n*size);rw[show a+(n+1)*size=a+n*size+size by grind,this];exact KO b a n
theorem pA{size:Nat}{pat:Nat->Value}(d:∀c,pat (c+size)=pat c)(n a:Nat):aW size pat n++aW size pat a=aW size pat (n+a):=by
 apply V8;intro b;have h:(n+a)*size=n*size+a*size:=qg
 by_cases f:b<n*size
 ·grind[getElem?_append_left,iD,nS]
 rw[J8 (by grind[iD]),iD]
 by_cases g:b<n*size+a*size
 ·rw[nS qo,nS qo];have:=KO d (b-n*size) n;grind
 grind[iD]
def Mkg(w:World)(K:List Nat)(size:Nat)(pat:Nat->Value)(v:Value)(n:Nat):Prop:=∃c d,v=.slice c n d/\(n=0\/∃a,c=some ⟨a,0,none⟩/\a∈K/\∀b,b<n*size->w.cell? ⟨a,b,none⟩=some (pat b))
theorem Mkg.of_own{w:World}{base n size:Nat}{e:TypeId}{v:Value}{pat:Nat->Value}{K:List Nat}(b:w.ownsRow base e size v n (aW size pat n))(h:∀a,v.ownBlock=some a->a∈K):Mkg w K size pat v n:=by
 have f:=λa (g:v.ownBlock=some a)=>b.cells g;obtain⟨rfl,rfl⟩|⟨a,d,j,rfl,_⟩:=b.2
 ·exact⟨none,0,rfl,.inl rfl⟩
 refine⟨_,d,rfl,.inr ⟨a,rfl,h a rfl,λc i=>?_⟩⟩;have:=f a rfl c (pat c) (nS i);grind[Addr.add_lit]
theorem Mkg.up{w:World}{K K':List Nat}{size n:Nat}{pat:Nat->Value}{v:Value}(d:Mkg w K size pat v n)(h:∀b∈K,b∈K'):Mkg w K' size pat v n:=by obtain⟨a,c,f,g⟩:=d;exact⟨a,c,f,qg⟩
theorem Mkg.fr{S:List Nat}{w:World}{K:List Nat}{size n:Nat}{pat:Nat->Value}{v:Value}(d:Mkg w K size pat v n)(h:Fr S w x)(i:∀b∈K,b∉S):Mkg x K size pat v n:=by obtain⟨a,c,f,g⟩:=d;exact⟨a,c,f,(by grind[Fr.cell,aI])⟩
theorem Mkg.app{w:World}{K:List Nat}{base size:Nat}{e:TypeId}{pat:Nat->Value}{v:Value}(m:Mkg w K size pat u a)(t:x.ownsRow base e size r b (aW size pat b))(s:a<=b)(q:(r.ownBlock=v.ownBlock/\w.grownBy x v.ownBlock)\/(r.ownBlock=some w.heap.size/\w.grownBy x none)):Mkg x K size pat u a:=by
 obtain⟨j,k,o,p⟩:=m;refine⟨j,k,o,p.imp_right λ⟨g,y,z,i⟩=>⟨g,y,z,λc f=>?_⟩⟩;obtain⟨l,d⟩|⟨_,d⟩:=q
 ·by_cases h:some g=v.ownBlock
  ·have:=t.cells (l.trans h.symm) c (pat c) (nS (Z1 f (Qx5 _ s)));rwa[i7,Z9]at this
  exact d.cell (i c f) h
 exact d.cell (i c f) qs
theorem Ia{l:Program}{t:Array Oper}{c:Oper}{b:Act}{w:World}{K:Act->World->Prop}{x:Exit->Act->World->Prop}{u:Prop}(z:c.guard=none)(o p:Operand)(h:TypeId)(D:c.op=Op.call {callee:=Callee.builtin Builtin.append,args:=#[o,p],argTypes:=#[h,h]})(base:Nat)(e:TypeId)(d:TypeInfo)(q:Value)(size bytes:Nat)(F:l.underlying h=some (.slice e))(A:l.info? e=some d)(J:d.zero=some q)(hsize:d.size=size)(hby:d.bytes=bytes)(hzs:q.cells.size=size)(v:Value)(n:Nat)(k:List Value)(E:b.eval o=v)(hown:w.ownsRow base e size v n k)(m:Addr)(a r:Nat)(f:List Value)(I:b.eval p=.slice (some m) a r)(B:f.length=a*size)(hnews:∀s i,f[s]?=some i->w.cell? (m.add s)=some i)(y:∀i∈f,i.oneCell'=true)(h63:n+a<=maxLen)(hbytes:(n+a)*bytes<=140737488355328)(hbase:base<=w.heap.size)(C:0<a)(hK:∀j g,g.ownsRow base e size j (n+a) (k++f)->g.ownsRow base e size v n k->((j.ownBlock=v.ownBlock/\w.grownBy g v.ownBlock)\/(j.ownBlock=some w.heap.size/\w.grownBy g none))->K (b.put c.dst j) g):if Region.wanted c (yielded t b.tmps)=true then Oper.wp l c b w K x else u:=by
 have H:Region.wanted c (yielded t b.tmps)=true:=by simp[Region.wanted,z]
 rw[Q7 H];exact mD o p h D base e d q size bytes F A J hsize hby hzs v n k E hown m a r f I B hnews y h63 hbytes hbase C hK
theorem bO{w:World}{v:Value}(b:(u.ownBlock=v.ownBlock/\w.grownBy x v.ownBlock)\/(u.ownBlock=some w.heap.size/\w.grownBy x none)):Fr v.ownBlock.toList w x:=by
 obtain⟨_,a⟩|⟨_,a⟩:=b
 ·exact(r0 _ _).grow a (λc a=>.inl qg)
 exact(r0 _ _).grow a qg
theorem gK{w:World}{v:Value}(b:(u.ownBlock=v.ownBlock/\w.grownBy x v.ownBlock)\/(u.ownBlock=some w.heap.size/\w.grownBy x none)):∀a,u.ownBlock=some a->v.ownBlock=some a\/w.heap.size<=a:=by grind
theorem dQ(a:World)(b:List Value)(e:TypeId):∀(c:Nat) (d:Value),b[c]?=some d->(a.alloc (.cells b.toArray e)).cell? ((⟨a.heap.size,0,none⟩:Addr).add c)=some d:=by simp_all[Addr.add_lit,Nat.zero_add]
def lV(a:Int):Nat->Value:=λ_=>ii a
def fB(b:Int):Nat->Value:=λa=>(kQ b).cells.getD (a%11) (ii 0)
theorem KK(b:Int):∀a,lV b (a+1)=lV b a:=λ_=>rfl
theorem KN(b:Int):∀a,fB b (a+11)=fB b a:=λa=>by grind[fB,Nat.add_mod_right]
theorem Mkg.ints{w:World}{K:List Nat}{v:Value}{n:Nat}(d:Mkg w K 1 (lV p) v n)(h:n<=3000000):Mks w K v p:=by obtain⟨a,c,f,g⟩:=d;exact⟨a,n,c,f,h,g.imp_right λ⟨b,j,k,l⟩=>⟨b,j,k,λi m=>l i qo⟩⟩
theorem Mkg.units{w:World}{K:List Nat}{v:Value}{n:Nat}(h:Mkg w K 11 (fB p) v n)(k:n<=3000000):MkU w K v p:=by obtain⟨d,g,i,j⟩:=h;refine⟨d,n,g,i,k,j.imp_right λ⟨f,l,m,o⟩=>⟨f,l,m,λc r a s b=>?_⟩⟩;have q:a<11:=(gs.1 b).1;rw[o (c*11+a) qo];unfold fB;rw[show(c*11+a)%11=a by omega,getD_eq_getElem?_getD,b];rfl
theorem Mkg.qP{w:World}{K:List Nat}{v:Value}{n:Nat}(f:Mkg w K 1 (λ_=>.slice (so a) 1 b) v n)(h:n<=3000000)(k:a∈K)(j:w.cell? ⟨a,0,none⟩=some (ii (-7))):MkP w K v:=by obtain⟨c,d,g,i⟩:=f;exact⟨c,n,d,g,h,qg⟩
theorem Cu(a:Int):aW 11 (fB a) 1=(kQ a).cells:=rfl
def fQ(w b:World)(v a:Value):Prop:=(a.ownBlock=v.ownBlock/\w.grownBy b v.ownBlock)\/(a.ownBlock=some w.heap.size/\w.grownBy b none)
section
variable {base size n:Nat} {e:TypeId} {pat:Nat->Value} {v v1 v2 v3:Value} {w w1 w2 w3:World} {o1 o2 o3:Obj}
theorem qE(m:∀j,pat (j+size)=pat j)(g:w1.ownsRow base e size v1 (n+1) (aW size pat n++aW size pat 1))(i:fQ (w.alloc o1) w1 v v1)(o:w2.ownsRow base e size v n (aW size pat n))(h:w2.ownsRow base e size v2 (n+2) (aW size pat n++aW size pat 2))(f:fQ (w1.alloc o2) w2 v v2):∃c:List Nat,(∀b∈c,v.ownBlock=some b\/w.heap.size<=b)/\(∀b∈c,b<w2.heap.size)/\Mkg w2 c size pat v n/\Mkg w2 c size pat v1 (n+1)/\Mkg w2 c size pat v2 (n+2):=by
 have k:=bO i;have l:=bO f;have q:=k.size;have r:=l.size;simp at q r;rw[pA m]at g h;refine⟨v.ownBlock.toList++(v1.ownBlock.toList++v2.ownBlock.toList),?_,?_,?_,?_,?_⟩
 ·intro b a;simp only[mem_append,Option.mem_toList]at a;obtain a|a|a:=a
  ·grind
  ·obtain d|d:=gK i b a
   ·grind
   simp at d;omega
  obtain d|d:=gK f b a
  ·grind
  simp at d;omega
 ·intro b a;simp only[mem_append,Option.mem_toList]at a;obtain a|a|a:=a
  ·exact(o.lt b a).2
  ·have:=(g.lt b a).2;omega
  exact(h.lt b a).2
 ·grind[Mkg.of_own]
 ·have p:Mkg w1 (v.ownBlock.toList++(v1.ownBlock.toList++v2.ownBlock.toList)) size pat v1 (n+1):=Mkg.of_own g (λs t=>by grind);exact(p.fr ((r0 [] w1).alloc o2) qs).app h qo f
 grind[Mkg.of_own]
theorem IU(j:∀k,pat (k+size)=pat k)(q:w1.ownsRow base e size v1 (n+1) (aW size pat n++aW size pat 1))(h:fQ (w.alloc o1) w1 v v1)(s:w2.ownsRow base e size v n (aW size pat n))(r:w2.ownsRow base e size v2 (n+2) (aW size pat n++aW size pat 2))(i:fQ (w1.alloc o2) w2 v v2)(f:w3.ownsRow base e size v3 (n+3) (aW size pat n++aW size pat 3))(d:fQ (w2.alloc o3) w3 v v3):∃a:List Nat,(∀b∈a,v.ownBlock=some b\/w.heap.size<=b)/\(∀b∈a,b<w3.heap.size)/\Mkg w3 a size pat v n/\Mkg w3 a size pat v1 (n+1)/\Mkg w3 a size pat v2 (n+2)/\Mkg w3 a size pat v3 (n+3):=by
 obtain⟨a,B,C,t,u,x⟩:=qE j q h s r i;have m:=bO h;have o:=bO i;have p:=bO d;have y:=m.size;have z:=o.size;have A:=p.size;simp at y z A;rw[pA j]at f;have g:∀b∈a,b∈a++v3.ownBlock.toList:=qg;have al:=(r0 [] w2).alloc o3;refine⟨a++v3.ownBlock.toList,?_,?_,?_,?_,?_,?_⟩
 ·intro b c;obtain c|c:=m5.1 c
  ·grind
  obtain l|l:=gK d b qg
  ·grind
  simp at l;omega
 ·intro b c;obtain c|c:=m5.1 c
  ·grind
  exact(f.lt b qg).2
 ·exact((t.up g).fr al qs).app f qo d
 ·exact((u.up g).fr al qs).app f qo d
 ·exact((x.up g).fr al qs).app f qo d
 grind[Mkg.of_own]
end
theorem IV{c:Type}{b:List c}{v:c}(d:b[a]?=some v):(b.map λ_=>u)[a]?=some u:=by grind
theorem BL.places{w:World}{K:List Nat}{a:Nat->List Value}(c:BL w K a)(i:(a 0).length=(a 1).length)(b:List Value)(f:Int)(k:∀v∈b,Mks w K v f):BL w K (aR (aR a 0 (a 0++b)) 1 (a 1++b.map λ_=>ii f)):=by
 refine⟨?_,c.pr,c.pe,c.fi,c.st⟩
 show ∀(d:Nat) (v:Value),(a 0++b)[d]?=some v->∃h,(a 1++b.map λ_=>ii f)[d]?=some (ii h)/\Mks w K v h
 intro d v g
 by_cases j:d<(a 0).length
 ·grind[BL.pl]
 rw[J8 qo]at g;rw[J8 qo,<-i];exact⟨f,IV g,qg⟩
theorem BL.people{w:World}{K:List Nat}{a:Nat->List Value}(c:BL w K a)(i:(a 3).length=(a 4).length)(b:List Value)(f:Int)(k:∀v∈b,MkU w K v f):BL w K (aR (aR a 3 (a 3++b)) 4 (a 4++b.map λ_=>ii f)):=by
 refine⟨c.pl,c.pr,?_,c.fi,c.st⟩
 show ∀(d:Nat) (v:Value),(a 3++b)[d]?=some v->∃h,(a 4++b.map λ_=>ii f)[d]?=some (ii h)/\MkU w K v h
 intro d v g
 by_cases j:d<(a 3).length
 ·grind[BL.pe]
 rw[J8 qo]at g;rw[J8 qo,<-i];exact⟨f,IV g,qg⟩
theorem BL.qP{w:World}{K:List Nat}{b:Nat->List Value}(a:BL w K b)(c:List Value)(f:∀v∈c,MkP w K v):BL w K (aR b 2 (b 2++c)):=by
 refine⟨a.pl,?_,a.pe,a.fi,a.st⟩
 show ∀(d:Nat) (v:Value),(b 2++c)[d]?=some v->MkP w K v
 grind[BL.pr]
set_option maxRecDepth 100000
abbrev Cm.arr(a:Cm):Array Value:=#[ii a.unit,ii a.what,ii a.x,ii a.y,ii a.target]
theorem FY:(prog.info? 81).map (λa=>(a.zero,a.size,a.bytes))=some (some (Cm.val ⟨0,0,0,0,0⟩),5,40):=qk
theorem Cm.one(a:Cm):∀b∈a.cells,b.oneCell'=true:=qc
structure CopI (w:World) (l:List Cm) (k:Nat) (v:Value) (wr:World):Prop where
 own:wr.ownsRow w.heap.size 81 5 v k ((l.take k).flatMap Cm.cells)
 fr:Fr [] w wr
theorem oH(b:List Cm)(j:Value)(e:World)(m:CmdR e j b)(aa:b.length<=2000000):Cs 94 #[j] e λz s=>∃q,z=.returned q/\s.ownsRow e.heap.size 81 5 q b.length (b.flatMap Cm.cells)/\Fr [] e s:=by
 obtain⟨M,E,I,J,L⟩:=Z2 FY;obtain⟨k,l,rfl⟩:∃k l,j=.slice k b.length l:=by
  obtain⟨k,l,rfl,rfl⟩|⟨d,f,l,rfl,_⟩:=m
  ·simp_all
  grind
 have O:=aA m;clear m
 delta Cs;go_in
 go_wp2
 go_loopw [3,4] (fun j n wr=>∃a:Nat,a<=b.length/\n=ii a/\CopI e b a j wr) (fun _ n _=>b.length-(intOf n).toNat)
 ·exact⟨0,Z3 _,rfl,⟨rfl,qg⟩,r0 _ _⟩
 obtain⟨a,X,rfl,hown,r⟩:=hrel
 by_cases F:a<b.length
 ·have H:(a:Int)<(b.length:Int):=qo;obtain⟨c,B⟩:∃c,b[a]?=some c:=qa;obtain⟨d,f,rfl,Y,h⟩:∃d f,k=some ⟨d,f,none⟩/\d<e.heap.size/\e.rangeAt d (f+a*5) c.cells:=by grind[Hi.o,CmdR]
  have g:∀i,wr.cell? ⟨d,i,none⟩=e.cell? ⟨d,i,none⟩:=(by grind[Fr.cell]);have Q:ca wr d (f+a*5) (ii c.unit):=(g _).trans (h 0 _ rfl);have R:ca wr d (f+a*5+1) (ii c.what):=(g _).trans (h 1 _ rfl);have S:ca wr d (f+a*5+2) (ii c.x):=(g _).trans (h 2 _ rfl);have V:ca wr d (f+a*5+3) (ii c.y):=(g _).trans (h 3 _ rfl);have W:ca wr d (f+a*5+4) (ii c.target):=(g _).trans (h 4 _ rfl);have t:Hi (∀(i:Nat) (p:Value),c.cells[i]?=some p->(wr.alloc (.cells c.arr 81)).cell? ((⟨wr.heap.size,0,none⟩:Addr).add i)=some p):=by intro i p hu;simp_all[Addr.add_lit,Nat.zero_add]
  have N:=aA (λw A=>(hown.lt w A).1);have v:Hi ((wr.alloc (.cells c.arr 81)).ownsRow e.heap.size 81 5 u3 a ((b.take a).flatMap Cm.cells)):=aF hown ((r0 [] wr).alloc _) qs;have ad:=r.size;have P:Hi ((b.take (a+1)).flatMap Cm.cells=(b.take a).flatMap Cm.cells++c.cells):=by
   show _=_
   grind[take_add_one]
  have u:=(show Hi _ from Cm.one c);clear hown h g B
  go_wp2_with (at_builtin;refine wpList_append_own _ rfl _ _ 39 rfl e.heap.size 81 M (Cm.val ⟨0,0,0,0,0⟩) 5 40 Qq5 E I J L rfl qd u3 a ((b.take a).flatMap Cm.cells) rfl v.o ⟨wr.heap.size,0,none⟩ 1 1 c.cells rfl rfl t.o u.o qm qo qt ?_;intro q w3 ac D ab)
  have C:=(r.alloc _).grow D (by grind[Hi.o]);go_roundw
  ·exact⟨a+1,F,by go_num,by grind[Hi.o],C⟩
  simp[intOf];omega
 have:a=b.length:=qo;subst this;have H:¬(b.length:Int)<(b.length:Int):=qo;rw[Zq1]at hown;go_wp2;go_ret;simp_all
theorem sB:∀(c:List Cm) (b a:Nat) (d:b<c.length),a<5->(c.flatMap Cm.cells)[b*5+a]?=(c[b]'d).cells[a]?
 |[],b,a,d,_=>by grind
 |e::c,0,a,d,f=>by grind[getElem?_append_left]
 |e::c,b+1,a,d,f=>by rw[l9,J8 qt];have:=sB c b a qg f;rw[show(b+1)*5+a-e.cells.length=b*5+a by grind];grind
structure KepI (w:World) (gb:Nat) (l:List Cm) (k:Nat) (wr:World):Prop where
 cs:∀(i:Nat) (h:i<l.length),k<=i->wr.rangeAt gb (i*5) (l[i]'h).cells
 th:∀i,i<l.length*5->(wr.cell? ⟨gb,i,none⟩).isSome=true/\wr.frozen? ⟨gb,i,none⟩=false
 fr:Fr [gb] w wr
theorem TD(a:Cm)(b:World):(binOp BinOp.eql 81 a.val a.val).run prog b=.ok (.bool true) b:=by simp[go_sem]
theorem KepI.drewN{d:List Cm}{wr:World}(c:KepI w a d b wr)(e:Nat):KepI w a d b (wr.drewN e):=⟨c.cs,c.th,c.fr.drewN e⟩
theorem KepI.put{f:List Cm}{wr:World}(c:KepI w a f b wr)(m:b<f.length)(g:Cm):KepI w a f (b+1) (wr.setCells a (b*5) g.cells):=by
 refine⟨λi e n d k j=>?_,λi e=>?_,Fr.setCells a _ _ _ c.fr (.inl qs)⟩
 ·have h:d<5:=qg;rw[World.cell?_setCells_out _ _ _ _ _ (λ_ _=>by grind)];exact c.cs i e qo d k j
 rw[World.frozen?_setCells];refine⟨?_,(c.th i e).2⟩
 by_cases l:i<b*5\/b*5+5<=i
 ·grind[World.cell?_setCells_out,KepI.th]
 have:=Zj5 a g.cells (b*5) wr (λd h=>(c.th (b*5+d) (by simp at h;omega)).1) (i-b*5) qg;rw[show b*5+(i-b*5)=i by omega]at this;grind
theorem oL(base:Nat)(b:List Cm)(A s:Value)(n h:World)(v:CmdR n A b)(D:Fr [] n h)(ab:n.heap.size<=base)(hown:h.ownsRow base 81 5 s b.length (b.flatMap Cm.cells))(ag:b.length<=2000000):Cs 97 #[s,A] h λB S=>B=.returned (.bool true)/\Fr s.ownBlock.toList h S:=by
 obtain⟨p,t,rfl⟩:∃p t,A=.slice p b.length t:=by
  obtain⟨p,t,rfl,rfl⟩|⟨d,g,t,rfl,_⟩:=v
  ·simp_all
  grind
 have V:=aA v;clear v
 by_cases Q:b.length=0
 ·rw[Q]
  delta Cs;go_in
  go_wp2
  go_loopw [5,6] (fun u i wr=>u=.bool true/\i=ii 0/\h=wr) (fun _ _ _=>0)
  ·grind
  obtain⟨rfl,rfl,rfl⟩:=hrel;go_wp2;go_ret;simp_all[r0]
 obtain⟨e,aa,r,rfl,ad,w,ae,_,af,L⟩:∃e q r,s=.slice (so e) b.length q/\base<=e/\h.heap[e]?=some (.cells r 81 (0,0))/\b.length<=q/\q<=maxLen/\r.size=q*5/\r.toList.take (b.length*5)=b.flatMap Cm.cells:=by
  obtain⟨_,I⟩|I:=hown.2
  ·omega
  omega
 have F:KepI h e b 0 h:=by
  refine⟨λi E _ m ai P=>?_,λi E=>⟨?_,aV w⟩,r0 _ _⟩
  ·have M:m<5:=qg;have B:=(sB b i m E M).trans P;grind[aB]
  rw[aB w,Zq3 qo];rfl
 have W:=aA F;clear F L w hown
 delta Cs;go_in
 go_wp2
 go_loopw [5,6] (fun u i wr=>u=.bool true/\∃a:Nat,a<=b.length/\i=ii a/\KepI h e b a wr) (fun _ i _=>b.length-(intOf i).toNat)
 ·grind[Hi.o,CmdR]
 obtain⟨rfl,a,hk,rfl,f⟩:=hrel
 by_cases z:a<b.length
 ·have O:(a:Int)<(b.length:Int):=qo;obtain⟨c,J⟩:∃c,b[a]?=some c:=qa;have C:b[a]=c:=qg;obtain⟨d,g,rfl,N,l⟩:∃d g,p=some ⟨d,g,none⟩/\d<n.heap.size/\n.rangeAt d (g+a*5) c.cells:=by grind[Hi.o,CmdR]
  have ah:=D.size;have k:∀m,wr.cell? ⟨d,m,none⟩=n.cell? ⟨d,m,none⟩:=λm=>(f.fr.cell _ _ qo qg).trans (D.cell _ _ N qs);have X:ca wr d (g+a*5) (ii c.unit):=(k _).trans (l 0 _ rfl);have Y:ca wr d (g+a*5+1) (ii c.what):=(k _).trans (l 1 _ rfl);have c2:ca wr d (g+a*5+2) (ii c.x):=(k _).trans (l 2 _ rfl);have c3:ca wr d (g+a*5+3) (ii c.y):=(k _).trans (l 3 _ rfl);have c4:ca wr d (g+a*5+4) (ii c.target):=(k _).trans (l 4 _ rfl);have j:=f.cs a z qo;rw[C]at j;have d0:ca wr e (a*5) (ii c.unit):=j 0 _ rfl;have d1:ca wr e (a*5+1) (ii c.what):=j 1 _ rfl;have d2:ca wr e (a*5+2) (ii c.x):=j 2 _ rfl;have d3:ca wr e (a*5+3) (ii c.y):=j 3 _ rfl;have d4:ca wr e (a*5+4) (ii c.target):=j 4 _ rfl;have z0:=(f.th (a*5) qo).2;have z1:=(f.th (a*5+1) qo).2;have z2:=(f.th (a*5+2) qo).2;have z3:=(f.th (a*5+3) qo).2;have z4:=(f.th (a*5+4) qo).2;have H:=aA (λR=>(f.drewN R).put z ⟨-9,-9,0,0,0⟩);have ac:=TD c;clear f j k l J C;go_wp2
  go_quiet (fail)
  go_wp2;go_roundw
  ·exact⟨rfl,a+1,z,by go_num,H.o _⟩
  simp[intOf];omega
 have O:¬(a:Int)<(b.length:Int):=qo;go_wp2;go_ret;exact⟨rfl,f.fr⟩
