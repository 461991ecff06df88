import Derived.Test.YtapabahhfanmmaaGreatDoorCOpsW
import Derived.Test.YtapabahhfanmmaaGreatDoorCRefN
namespace Go.Proofs.YtapabahhfanmmaaGreatDoor
open Go.RowKit List Go.Proofs.Tryz
set_option maxHeartbeats 2000000
set_option maxRecDepth 100000
variable {X:List U} {a b c:Nat} {H:TypeId} {v:Value} {w:World}
theorem vB(d:Int):∀(b:List Cm) (a:Nat) (c:T),(bH d a b c).1.length<=b.length
 |[],a,c=>by simp[bH]
 |e::b,a,c=>by rw[vA];have:=vB d b (a+1) (fF c d e).2;grind
theorem KZ(c:T)(a b:List Cm):(aO c a b).2.1.length<=a.length/\(aO c a b).2.2.length<=b.length:=by grind[aO,vB]
theorem mT{base:Nat}{b:List Cm}(a:w.ownsRow base 81 5 v b.length (b.flatMap Cm.cells)):CmdV w v b:=by
 by_cases d:b.length=0
 ·obtain⟨f,h,rfl⟩:=gL a;have:=Qx4 d;subst this;exact .inl qg
 obtain⟨g,c,rfl⟩:=bK a qo;have i:=a.cells (g:=g) rfl;refine .inr ⟨g,c,rfl,λm j e n l=>?_,(a.lt g rfl).2⟩;have k:e<5:=qg;simp_all[sB,Addr.add_lit,Nat.zero_add]
theorem tQ{d:Array Value}{e:Nat×Nat}(f:PRow w b c X)(g:w.heap[a]?=some (.cells d H e))(h:H≠85):b≠a:=(by grind[PRow.h])
theorem Dg(af:Value)(ae K:List Nat)(s:T)(l H:Nat)(m n:List Cm)(v1 v2:Value)(F j:World)(hG:Gm j af ae s)(hB:Bk j l K H)(A:∀e∈ae,e≠l/\e∉K)(hN:H<=2200000)(dj:Sd j)(I:CmdR F v1 m)(h2:CmdR F v2 n)(ck:Fr [] F j)(aj:∀e∈ae,F.heap.size<=e)(ao:m.length<=2000000)(ap:n.length<=2000000):Cs 53 #[af,pt l,v1,v2] j λb w'=>b=.returned (.bool true)/\SR j l ae K H s.turn af w':=by
 have B:=hG.lt;obtain⟨⟨g,h,pb,bz,i,qb,cc,rfl,rfl,f,hy,cp,de⟩,ek,M,bi,bn⟩:=hG;simp only[nodup_cons,mem_cons,not_mem_nil,or_false,not_or,nodup_nil,and_true,not_false_eq_true]at ek;have N:=B g qs;have co:=B h qs;have ew:=B pb qs;have dh:=B i qs;have ey:=B qb qs;have ev:=aj h qs;have fb:=aj i qs;have dc:=aj qb qs;have ag:=A g qs;have J:=A h qs;have ed:=A pb qs;have L:=A i qs;have cf:=A qb qs;have eu:=hB.lt;have cr:=hB.kl;have en:=KZ s m n;have C:=And.intro (KY M m n) (Dm M bn m n);have cz:=qN M bi m n;have C1:=oH m v1 j (I.qF ck) ao;have dr:=aA cp;have dz:=aA de;have HB:=aA hB;have bw:=aA M;have du:=aA bi;have H1:=aA I;have H2:=aA h2;have dw:=aA C;have dx:=aA cz;have ea:=aA dj;have ad:=aA cr;have aa:=aA ck;clear cp de hB A B aj M bi I h2 C cz dj cr
 delta Cs;go_in
 go_wp2_with fail
 refine cm C1 ?_;rintro b w1 ⟨bq,rfl,bg,ay⟩;have fd:=ay.size;have C2:=oH n v2 w1 (CmdR.qF H2.o (aa.o.qT ay)) ap;clear C1
 go_wp2_with fail
 refine cm C2 ?_;rintro b r ⟨br,rfl,bh,am⟩;have fe:=am.size;have Q:=ay.qT am;have fk:=(Q.cell g 0 N qs).trans f;have cu:=aF bg am qs;have C3:=VX h pb bz s m n bq br r (dr.o.fr Q qs qs) (Sd.qF ea.o Q) bw.o bn.1 (mT cu) (mT bh) ao ap;have bu:=aA bg;have bv:=aA bh;clear C2 bg bh cu
 go_wp2_with fail
 refine cm C3 ?_;rintro b v ⟨dm,k,cb,rfl,az,bc,da,bk⟩;have ff:=az.size;obtain⟨t',bm⟩:=nn ((aO s m n).1);obtain⟨ra,Zq⟩:=nn ((aO s m n).2.1);obtain⟨rc,Zr⟩:=nn ((aO s m n).2.2);have R:=(Q.qO (S:=[h])).trans az qs;have cd:=aa.o.trans R qt;have df:RG v i qb cc s:=dz.o.fr R qt qt;have fl:v.cell? ⟨g,1,none⟩=some (pt i):=(R.cell g 1 N qt).trans hy;have C4:=yG uU i qb cc s m n v1 v2 v df bw.o du.o bn.1 (CmdR.at H1.o cd dc) (CmdR.at H2.o cd dc) ao ap;rw[bm,Zq,Zr]at C4;rw[Zq,Zr]at bk;rw[bm]at bc;rw[Zq,Zr]at en;have bx:=aA bk;have ac:=aA bc;clear C3 bk bc df Zq Zr
 go_wp2_with fail
 refine cm C4 ?_;rintro b w4 ⟨l',rfl,⟨o,eb,dg,x,bj⟩,dd⟩;have fg:=x.size;have bl:=RefsA.fr bx.o x qt;have C5:=NC _ _ ra rc dm l' w4 bl.refs dd qo qo;have Zs:=aA dg;clear C4 dg dd
 go_wp2_with fail
 refine cm C5 ?_;rintro b w5 ⟨rfl,ba⟩;have fh:=ba.size;have aw:Fr [h,i,qb] r w5:=((az.mono (λe f=>.inl qa)).trans x (λe f=>.inl (by simp at f;simp;omega))).qT ba;have ce:=(aa.o.qT Q).trans aw qt;have ak:=λa c=>Zj8 bu.o a c;have ax:=λa c=>Zj8 bv.o a c;have cw:=aF (aF bu.o am qs) aw (λa c=>by have:=ak a c;simp;omega);have cx:=aF bv.o aw (λa c=>by have:=ax a c;simp;omega);have eq:=aa.o.size;have C6:=oL j.heap.size m v1 bq F w5 H1.o ce eq cw ao;have dy:=aA bl;clear C5 bl cw
 go_wp2_with fail
 refine cm C6 ?_;rintro b w6 ⟨rfl,an⟩;have fi:=an.size;have ec:=ce.trans an (λa c=>.inr (by have:=ak a (qu c);omega));have cy:=aF cx an (λa c b=>by have:=ax a c;have:=ak a (qu b);omega);have C7:=oL w1.heap.size n v2 br F w6 H2.o ec qo cy ap;clear C6 cx cy
 go_wp2_with fail
 refine cm C7 ?_;rintro b w7 ⟨rfl,cn⟩;have fj:=cn.size;obtain⟨q,t,u,ej,bd,ei,be,bf,ct⟩:=(show RefsA w4 r.heap.size dm ra rc from dy.o);obtain⟨av,hD⟩:=nm (bq.ownBlock.toList++br.ownBlock.toList);have w:∀a∈av,j.heap.size<=a/\a<r.heap.size:=λa c=>by
  rw[hD]at c;obtain d|d:=m5.1 c
  ·have:=ak a (qu d);omega
  have:=ax a (qu d);omega
 have z:=(((ba.qO (S:=av)).trans an (λa c=>.inl (by rw[hD];exact Qk3 _ c))).trans cn (λa c=>.inl (by rw[hD];exact Qk6 _ c)));have cs:=z.heap bd (λb=>by have:=w _ b;omega);have el:=aF be z (λa c b=>by have:=w a b;have:=bT be c;omega);have em:=aF bf z (λa c b=>by have:=w a b;have:=bT bf c;omega);have cg:Bk w7 l K H:=by
  have fA:Fr [h,i,qb] j w4:=(R.mono (λe f=>.inl qa)).trans x (λe f=>.inl (by simp at f;simp;omega));refine(HB.o.fr fA qt (λa c b=>?_)).fr z (λb=>by have:=w _ b;omega) (λa c b=>by have:=w _ b;have:=ad.o a c;omega);simp at b;obtain rfl|rfl|rfl:=b
  ·exact J.2 c
  ·exact L.2 c
  exact cf.2 c
 have C8:=KI l H q r.heap.size K [t,u] w7 cg hN qs cs ei qo (λe f=>by have:=ad.o e f;omega) (λV Y y=>?_) (λdk V Y v' gg cq y bo hg=>?_);rotate_left
 ·have:V=0\/V=1:=by have:=(gs.1 y).1;simp at this;omega
  obtain rfl|rfl:=this
  ·cases y;exact⟨_,_,by omega,el⟩
  cases y;exact⟨_,_,by omega,em⟩
 ·have eg:dk=0\/dk=1:=by have:=(gs.1 y).1;simp at this;omega
  have eh:V=0\/V=1:=by have:=(gs.1 bo).1;simp at this;omega
  obtain rfl|rfl:=eg<;>obtain rfl|rfl:=eh
  ·exact absurd rfl cq
  ·cases y;cases bo;exact ct gg hg
  ·cases y;cases bo;exact λb=>ct gg b hg
  exact absurd rfl cq
 subst ej;have ab:=aA z;have bt:=aA bd;have ds:=aA (λa c=>be.lt a c);have dt:=aA (λa c=>bf.lt a c);clear C7 cg cs z bd
 go_wp2_with fail
 refine cm C8 ?_;rintro b w8 ⟨rfl,hown⟩;have dv:=aA hown;clear C8 hown;go_wp2;go_ret;refine⟨rfl,?_⟩;obtain⟨⟨K',ee,cj⟩,ai⟩:=dv.o;have C:=dw.o;have db:=dx.o;rw[bm]at C db;have fc:=aH bt.o;have ex:=ac.o.row.lt;have ez:=Zs.o.row.lt;have ah:∀a∈q::gM [t,u],r.heap.size<=a/\a<w4.heap.size:=λa c=>by
  obtain d|d:=Qq0.1 c
  ·omega
  obtain⟨es,O,P⟩:=Qk4.1 d;simp at O;obtain rfl|rfl:=O
  ·exact ds.o a P
  exact dt.o a P
 have ch:∀a∈q::gM [t,u],a≠k/\a<v.heap.size:=λa c=>by
  obtain⟨fm,y0,y1,e1,e2,e3,e4,e5,_⟩:=(show RefsA v r.heap.size _ ra rc from bx.o);cases e1;have di:=x.block q (aH e2) qt;rw[bt.o,e2]at di;cases di;obtain d|d:=Qq0.1 c
  ·subst d;exact⟨λb=>tQ ac.o.row e2 qd b.symm,aH e2⟩
  obtain⟨es,O,P⟩:=Qk4.1 d;simp at O;have dl:∀(Y:Value) (dn:Nat) (xs:List Value),v.ownsRow r.heap.size 3 1 Y dn xs->Y.ownBlock=some a->a≠k/\a<v.heap.size:=λY dn xs ho au=>by
   refine⟨λb=>?_,(ho.lt a au).2⟩;obtain⟨rfl,_⟩|⟨af,bz,et,rfl,_,hh,_⟩:=ho.2
   ·cases au
   simp[Value.ownBlock]at au;subst au;exact tQ ac.o.row hh qd b.symm
  obtain rfl|rfl:=O
  ·exact dl _ _ _ e4 P
  exact dl _ _ _ e5 P
 have aq:k≠l/\k∉K:=by
  obtain b|b:=da
  ·rw[b];exact ed
  exact⟨by omega,λd=>by have:=ad.o k d;omega⟩
 have ar:o≠l/\o∉K:=by
  obtain b|b:=bj
  ·rw[b];exact cf
  exact⟨by omega,λd=>by have:=ad.o o d;omega⟩
 have W:∀a,a≠l->a∉K->a∉q::gM [t,u]->a∉l::(K++q::gM [t,u]):=λa I h2 h3 p=>by
  obtain d|d:=Qq0.1 p
  ·exact I d
  obtain d|d:=m5.1 d
  ·exact h2 d
  exact h3 d
 have D:∀a,a<j.heap.size->a∉q::gM [t,u]:=λa c p=>by have:=ah a p;omega
 have X:∀a,a<j.heap.size\/r.heap.size<=a->a∉av:=λa c p=>by have:=w a p;omega
 have Zt:k∉q::gM [t,u]:=λp=>(ch k p).1 rfl;have dp:o∉q::gM [t,u]:=λp=>by have:=ah o p;have:=(ch o p).2;obtain b|b:=bj<;>omega
 have eo:k<j.heap.size\/r.heap.size<=k:=by obtain b|b:=da<;>omega
 have fa:o<j.heap.size\/v.heap.size<=o:=by obtain b|b:=bj<;>omega
 have ef:GS w8 h k cb t':=((ac.o.fr x qt qt).fr ab.o (X h qo) (X k eo)).fr ai (W h J.1 J.2 (D h co)) (W k aq.1 aq.2 Zt);have ep:=(Zs.o.fr ab.o (X i qo) (X o qo)).fr ai (W i L.1 L.2 (D i dh)) (W o ar.1 ar.2 dp);have bs:Fr [h,i,qb] j w4:=(R.mono (λe f=>.inl qa)).trans x (λe f=>.inl (by simp at f;simp;omega));have dq:∀E,w8.cell? ⟨g,E,none⟩=j.cell? ⟨g,E,none⟩:=λE=>by rw[ai.cell g E qo (W g ag.1 ag.2 (D g N)),ab.o.cell g E qo (X g qo),bs.cell g E N qt]
 refine⟨⟨[g,h,k,i,o],t',K',⟨⟨g,h,k,cb,i,o,eb,rfl,rfl,(dq 0).trans f,(dq 1).trans hy,ef,ep⟩,?_,C.1,db,C.2⟩,ee,⟨?_,?_⟩,?_,?_⟩,?_⟩
 ·simp only[nodup_cons,mem_cons,not_mem_nil,or_false,not_or,nodup_nil,and_true,not_false_eq_true];omega
 ·intro e f;simp only[mem_cons,not_mem_nil,or_false]at f |-;omega
 ·intro e f;have er:e∈[g,h,i,o]:=f
  show e∈[g,h,i,qb]\/_
  simp only[mem_cons,not_mem_nil,or_false]at er |-;omega
 ·intro e f;obtain d|d|d:=cj e f
  ·exact .inl d
  ·exact .inr (qh (ah e d))
  exact .inr qo
 ·intro e f;have bp:e≠l/\e∉K/\e∉q::gM [t,u]/\e<w7.heap.size:=by
   simp only[mem_cons,not_mem_nil,or_false]at f;obtain rfl|rfl|rfl|rfl|rfl:=f
   ·exact⟨ag.1,ag.2,D _ N,by omega⟩
   ·exact⟨J.1,J.2,D _ co,by omega⟩
   ·exact⟨aq.1,aq.2,Zt,by omega⟩
   ·exact⟨L.1,L.2,D _ dh,by omega⟩
   exact⟨ar.1,ar.2,dp,by omega⟩
  refine⟨bp.1,λp=>?_⟩;obtain d|d|d:=cj e p
  ·exact bp.2.1 d
  ·exact bp.2.2.1 d
  omega
 refine((bs.mono (S':=l::([g,h,pb,i,qb].eraseIdx 2++K)) (λe f=>.inl ?_)).trans ab.o (λa c=>.inr (w a c).1)).trans ai (λa c=>?_)
 ·show e∈l::([g,h,i,qb]++K)
  simp only[mem_cons,not_mem_nil,or_false]at f;simp only[mem_cons,mem_append,not_mem_nil,or_false];omega
 obtain d|d:=Qq0.1 c
 ·exact .inl (by simp[d])
 obtain d|d:=m5.1 d
 ·exact .inl (by simp[d])
 exact .inr (qh (ah a d))
