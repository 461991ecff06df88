import Derived.Test.YtapabahhfanmmaaGreatDoorCRClean
import Derived.Test.YtapabahhfanmmaaGreatDoorCRefM
import Derived.Test.YtapabahhfanmmaaGreatDoorCRefK
namespace Go.Proofs.YtapabahhfanmmaaGreatDoor
open Go.RowKit List Go.Proofs.Tryz
set_option maxHeartbeats 4000000
set_option maxRecDepth 100000
variable {L S:List Nat} {a:Nat} {v:Value} {w:World}
theorem CZ{base:Nat}{b:List Cm}(d:w.ownsRow base 81 5 v b.length (b.flatMap Cm.cells)):CmdV w v b:=by
 obtain⟨rfl,n⟩|⟨h,g,l,rfl,r,e,o,p,q,i⟩:=d.2
 ·exact .inl qg
 refine .inr ⟨h,g,rfl,λa t c y j=>?_,aH e⟩;have u:c<5:=qg;rw[aB e];have:=V3 (λk:List Value=>k[a*5+c]?) i;simp only[getElem?_take_of_lt (show a*5+c<b.length*5 by omega)]at this;rw[<-V9,this,<-j];have s:∀(b:List Cm) (a:Nat) (d:a<b.length),(b.flatMap Cm.cells)[a*5+c]?=(b[a]'d).cells[c]?:=by
  intro b
  induction b with
  |nil=>grind
  |cons f b x=>
   intro a d;cases a with
   |zero=>rw[l9,J7 qg];simp
   |succ a=>rw[l9,J8 qt];have m:(a+1)*5+c-f.cells.length=a*5+c:=qg;grind
 grind
theorem Refs.low{base:Nat}(c:Refs w base v S L)(b:a<=base):Refs w a v S L:=by obtain⟨h,i,j,k,d,e,l,f,g⟩:=c;exact⟨h,i,j,k,d,e,qo,jN f b,jN g b⟩
theorem RefsA.low{base:Nat}(c:RefsA w base v S L)(b:a<=base):RefsA w a v S L:=by obtain⟨i,j,k,d,e,l,f,g,h⟩:=c;exact⟨i,j,k,d,e,qo,jN f b,jN g b,h⟩
theorem KX(i s:Nat)(a:T)(b c:List Cm)(M:List UInt8)(d:World)(Zr:Sd d)(L:GOk a)(X:PRow d i s a.us)(ht:0<=a.turn/\a.turn<1000000000)(hr:ReadsT M a.turn b c)(hl:M.length<=1000000)(ha:b.length<=10000)(hb:c.length<=10000):Calls prog 42 #[.agg (aP a (.slice (some ⟨i,0,none⟩) a.us.length s)).toArray,.string ⟨M.toArray⟩] d λl g=> ∃y j t,l=.returned (.tuple #[.agg (aP (aO a b c).1 (.slice (some ⟨j,0,none⟩) (aO a b c).1.us.length t)).toArray,y,.bool true])/\Fr [] d g/\PRow g j t (aO a b c).1.us/\(j=i\/d.heap.size<=j)/\RefsA g d.heap.size y (aO a b c).2.1 (aO a b c).2.2:=by
 have bn:a.us.length<=100:=L.len;have bg:0<a.us.length:=by have:=L.bs;grind
 have P:Hi (∀(g:World) (z A:Value),Fr [] d g->CmdV g z b->CmdV g A c->Calls prog 74 #[.agg (aP a (.slice (some ⟨i,0,none⟩) a.us.length s)).toArray,z,A] g λl ab=>∃y j t,l=.returned (.tuple #[.agg (aP (aO a b c).1 (.slice (some ⟨j,0,none⟩) (aO a b c).1.us.length t)).toArray,y])/\Fr [] g ab/\PRow ab j t (aO a b c).1.us/\(j=i\/g.heap.size<=j)/\RefsA ab g.heap.size y (aO a b c).2.1 (aO a b c).2.2) :=
  λg z A hf h1 h2=>LA i s a b c z A g (Zr.qF hf) L (X.fr hf qs) qo bg ht.1 h1 h2 qo qo
 obtain⟨gl,H⟩:=nm (aP a (.slice (some ⟨i,0,none⟩) a.us.length s));have an:gl.length=149:=by rw[H];exact eI _ _
 have am:gl.toArray[0]?=some (ii a.turn):=by rw[H];simp[aP,aK]
 rw[<-H]at P |-;have ay:Hi ((prog.info? 90).map (·.size)=some gl.toArray.size):=by
  show _=_
  rw[dD,List.size_toArray,an]
 have HR:=aA hr;have az:Hi (i<d.heap.size):=X.lt;clear H an hr X Zr L
 go_enter func42,ntmps42
 go_wp2_with fail
 obtain⟨r,w⟩:=nm ((d.alloc (.cells gl.toArray 90)).alloc (.cells zeroCells90 90));rw[<-w];have bj:Fr [] d r:=by rw[w];exact((Fr.refl _ _).alloc _).alloc _
 have Q:r.heap[d.heap.size]?=some (.cells gl.toArray 90):=by rw[w];exact(eL _ _ _ qs).trans (aC _ _)
 have v:r.heap[d.heap.size+1]?=some (.cells zeroCells90 90):=by rw[w];exact cZ _ _ _
 obtain⟨G,D⟩:=nm d.heap.size;obtain⟨f,E⟩:=nm (d.heap.size+1);have ao:d.heap.size+1<r.heap.size:=aH v;rw[<-D]at Q |-;rw[<-D]at E ao v;rw[<-E]at ao v |-;have HG:=aA D;have HN:=aA E;clear w D E;obtain⟨au,q0,qa,qb⟩:=Eo HR.o;refine cm (Ej M r hl) ?_;rintro l h ⟨F,⟨_,z,A,rfl,I,J⟩|⟨bh,_⟩⟩;rotate_left
 ·exact absurd au bh
 rw[q0];rw[qa]at I;rw[qb]at J;clear q0 qa qb au;have Y:=bj.qT F;have u:=F.qH Q;have R:=F.qH v;have aj:=CZ I;have ak:=CZ J;obtain⟨m,p,rfl⟩:=kS I;obtain⟨n,q,rfl⟩:=kS J;have g0:(h.alloc (.cells #[ii a.turn,.slice m b.length p,.slice n c.length q] 106)).cell? ⟨G,0,none⟩=some (ii a.turn):=(((Fr.refl [] h).alloc _).cell G 0 (aH u) qs).trans ((aB u).trans am);have bl:=aH u;have ag:=P.o (h.alloc (.cells #[ii a.turn,.slice m b.length p,.slice n c.length q] 106)) _ _ (Y.alloc _) (aj.qF ((Fr.refl [] h).alloc _)) (ak.qF ((Fr.refl [] h).alloc _));have af:=aA ag;have ac:Hi ((h.alloc (.cells #[ii a.turn,.slice m b.length p,.slice n c.length q] 106)).heap[G]?=some (.cells gl.toArray 90)):=((Fr.refl [] h).alloc _).qH u;have O:=(show Hi _ from(((Fr.refl [] h).alloc (.cells #[ii a.turn,.slice m b.length p,.slice n c.length q] 106)).qH R));clear P ag I J aj ak Q v u R am HR;have bp:¬(1000000000:Int)<=a.turn:=qo
 go_wp2_with (refine wpList_load_row rfl 90 _ rfl G rfl 90 gl.toArray (0,0) _ ac.o X9 rfl ay.o ?_)
 refine cm af.o ?_;rintro l B ⟨v4,aa,ah,rfl,S,ar,ap,bi⟩;dsimp only;obtain⟨e,x⟩:=nm (aP (aO a b c).1 (.slice (some ⟨aa,0,none⟩) (aO a b c).1.us.length ah));have W:e.length=149:=by rw[x];exact eI _ _
 have ae:Hi (e.toArray.all (·.oneCell')=true):=by
  show _=_
  rw[x];exact iL _ _ _ _
 have C:Hi ((prog.info? 90).map (·.size)=some e.toArray.size):=by
  show _=_
  rw[dD,List.size_toArray,W]
 have bd:Hi (zeroCells90.size=e.toArray.size):=by
  show _=_
  exact zcGame.trans (by simp[W])
 have ad:=(show Hi _ from S.qH O.o);have ax:=aA x;rw[<-x];obtain⟨aw,x0,x1,av,_⟩:=bi;have aq:RefsA B (h.alloc (.cells #[ii a.turn,.slice m b.length p,.slice n c.length q] 106)).heap.size v4 (aO a b c).2.1 (aO a b c).2.2:=⟨aw,x0,x1,av,by assumption⟩;subst av;have bb:=(show Hi _ from aq);have be:Fr [] d B:=(Y.alloc _).qT S;have bm:d.heap.size<f:=by have:=HN.o;have:=HG.o;omega
 have Zq:d.heap.size<=(h.alloc (.cells #[ii a.turn,.slice m b.length p,.slice n c.length q] 106)).heap.size:=(Y.alloc _).size;have R:f<h.heap.size:=by have:=aH O.o;have h5:=F.size;omega
 have ba:=aA ar;have bo:i<d.heap.size:=az.o;clear x W S af aq ar O ac g0;have N:Hi ((B.setRow f e.toArray).heap[f]?=some (.cells e.toArray 90)):=Qz4 _ _ _ _ _ _ ad.o;have bc:Hi (e.toArray.size=e.toArray.size):=rfl
 go_wp2_with (first|(refine wpList_store_row rfl 90 _ _ rfl f e.toArray rfl rfl 90 zeroCells90 ad.o C.o bd.o ae.o ?_)|(refine wpList_load_row rfl 90 _ rfl f rfl 90 e.toArray (0,0) _ N.o X9 rfl C.o ?_)|(refine wpList_store_row rfl 90 _ _ rfl f e.toArray rfl rfl 90 e.toArray N.o C.o bc.o ae.o ?_))
 obtain⟨W6,ai⟩:=nm ((B.setRow f e.toArray).setRow f e.toArray);rw[<-ai];have V:Fr [f] B W6:=by grind[Fr.setRow,Fr.refl]
 have bf:W6.heap[f]?=some (.cells e.toArray 90):=by rw[ai];exact Qz4 _ _ _ _ _ _ N.o
 refine Zq8 (v:=.tuple #[.agg e.toArray,.slice (some ⟨aw,0,none⟩) 2 2,.bool true]) (pG results42 _ _ f 90 e.toArray (0,0) _ _ _ rfl rfl rfl bf X9 rfl C.o) rfl ⟨_,aa,ah,by rw[ax.o],be.trans V qt,?_,?_,?_⟩
 ·refine PRow.fr ba.o V (λl=>?_);have e':aa=f:=by simpa using l
  obtain k|k:=ap
  ·omega
  simp at k;omega
 ·obtain k|k:=ap
  ·exact Or.inl k
  exact Or.inr (Y3 Zq k)
 have k:=(show RefsA _ _ _ _ _ from bb.o);have h':=k.fr V (λbk hx=>by
  have:bk=f:=by simpa using hx
  simp;omega)
 exact h'.low Zq
variable {A:Gf} {O:List Stp} {b c:Nat} {t:T} {u:Value}
theorem NH{ty:TypeId}{g:Nat×Nat}:∀(d:List Value) (b:Nat) (f:World) (c:List Value),f.heap[a]?=some (.cells c.toArray ty g)->b+d.length<=c.length->(f.setCells a b d).heap[a]?=some (.cells (c.take b++d++c.drop (b+d.length)).toArray ty g)
 |[],b,f,c,h,_=>by
  show f.heap[a]?=_
  simp_all
 |e::d,b,f,c,h,k=>by
  have p:b+(d.length+1)<=c.length:=k;have i:=iE (o:=b) h e;have j:c.toArray.setIfInBounds b e=(c.take b++e::c.drop (b+1)).toArray:=by grind[set_eq_take_append_cons_drop]
  rw[j]at i;have m:=NH d (b+1) _ _ i qg
  show((f.setCell ⟨a,b,none⟩ e).setCells a (b+1) d).heap[a]?=_
  rw[m];congr 3;have l:(c.take b).length=b:=qg;have n:(c.take b++e::c.drop (b+1)).take (b+1)=c.take b++[e]:=by grind
  have o:(c.take b++e::c.drop (b+1)).drop (b+1+d.length)=c.drop (b+(d.length+1)):=by rw[drop_append,l,Z6 qo,show b+1+d.length-b=d.length+1 by omega,Z8,drop_succ_cons,drop_drop];grind
  simp_all
theorem FH(a:GOk t):0<t.us.length:=by have:=a.bs;grind
theorem Ew{S:List Nat}(h:World)(d e:List Cm)(cb cc:Value)(D:RS h a b c S t v u A O)(Zs:Sd h)(L:GG t)(ht:t.turn<1000000000)(r:CmdV h cb d)(h2:CmdV h cc e)(cy:d.length+e.length<=8000)(de:(dG t.turn d e).length<=40000)(ct:O.length<=10000000)(dd:(aX A LOG).length<=99000000000000):Cs 17 #[pt a,cb,cc] h λf g=>∃s,f=.returned (.tuple #[s,ii 0])/\RefsA g h.heap.size s (aO t (d.map aJ) (e.map aJ)).2.1 (aO t (d.map aJ) (e.map aJ)).2.2/\∃v' n H W Y w,(n=b\/h.heap.size<=n)/\RPost h a S (dR t (d,e)) (λV=>if V=LOG then some (v',aX A LOG++cU t (d,e))else A V) (O++[bV LOG (cU t (d,e))]) g n H W Y w/\∃wm,RefsA wm h.heap.size s (aO t (d.map aJ) (e.map aJ)).2.1 (aO t (d.map aJ) (e.map aJ)).2.2/\PRow wm n H (dR t (d,e)).us/\h.heap.size<=wm.heap.size/\(∀k∈w,k∈S\/wm.heap.size<=k)/\Fr (a::S) wm g:=by
 have br:t.turn<=1000000000:=qo;have df:(cU t (d,e)).length<=41000:=by
  have h2:=sC 1 (dG t.turn d e) qo
  show(bE 1 (dG t.turn d e)).length<=41000
  omega
 have ai:=D.all;have c0:h.cell? ⟨a,0,none⟩=some (ii t.turn):=ai 0 _ (by simp[gl,aP,aK]);obtain⟨cp,cz,rfl⟩:=r.shape;obtain⟨cq,da,rfl⟩:=h2.shape;have ao:Hi (Cs 41 #[.agg #[ii t.turn,.slice cp d.length cz,.slice cq e.length da]] h (R0 h (.tuple #[.string ⟨(dG t.turn d e).toArray⟩,.bool true]))):=by
  have D:=OW t.turn _ _ d e h ⟨L.t0,br⟩ r h2 cy;exact D.mono (by grind)
 have ae:Hi (∀g,Fr [] h g->Cs 42 #[.agg (gl t b c).toArray,.string ⟨(dG t.turn d e).toArray⟩] g λf y=>∃s n H,f=.returned (.tuple #[.agg (gl (dR t (d,e)) n H).toArray,s,.bool true])/\Fr [] g y/\PRow y n H (dR t (d,e)).us/\(n=b\/g.heap.size<=n)/\RefsA y g.heap.size s (aO t (d.map aJ) (e.map aJ)).2.1 (aO t (d.map aJ) (e.map aJ)).2.2):=λg l=>KX b c t (d.map aJ) (e.map aJ) _ g (Zs.qF l) L.ok (D.row.fr l qs) ⟨L.t0,ht⟩ (LN t.turn d e ⟨L.t0,br⟩ qo qo) qo qt qt;have aa:Hi (∀g,Cs 44 #[.int .u8 1,.string ⟨(dG t.turn d e).toArray⟩] g (R0 g (.string ⟨(cU t (d,e)).toArray⟩))):=λg=>vU 1 (dG t.turn d e) g qo;have dj:¬(1000000000:Int)<=t.turn:=qo;obtain⟨gs,ak⟩:=nm (gl t b c);have am:gs.length=149:=by rw[ak];exact eI _ _
 have HI:Hi ((prog.info? 90).map (·.size)=some gs.length):=by
  show _=_
  rw[dD,am]
 rw[<-ak]at ae ai;obtain⟨TB,bq⟩:=nm (dG t.turn d e);rw[<-bq]at ao ae aa;obtain⟨FB,ar⟩:=nm (cU t (d,e));rw[<-ar]at aa |-;have be:Hi (∀g,Fr [] h g->g.rangeAt a 0 gs):=λg l ax s hv=>by have r:=ai ax s hv;grind[Fr.cell,aI]
 have B:=aA D;have bb:=aA ak;have ce:=aA ar;clear r h2 bq Zs ak ar
 delta Cs;go_in
 go_wp2_with (first|(go_at_call 36;refine(lX a _).mono ?_;rintro f w1 ⟨rfl,rfl⟩))
 refine cm ao.o ?_;rintro f w1 ⟨rfl,I⟩;have bt:=be.o w1 I;clear ai c0 ao D be
 go_wp2_with (refine wpList_load_mid rfl 90 _ rfl a 0 rfl gs _ bt X9 rfl HI.o ?_)
 refine cm (ae.o _ I) ?_;rintro f p ⟨v2,x,C,rfl,bs,bx,Q,cx⟩;obtain⟨i,M⟩:=nm (gl (dR t (d,e)) x C);have P:i.length=149:=by rw[M];exact eI _ _
 have ad:Hi (i.toArray.all (·.oneCell')=true):=by
  show _=_
  rw[M];exact iL _ _ _ _
 have cj:Hi (∀cd∈i,cd.oneCell'=true):=λcd hu=>by have:=ad.o;simp_all
 have ab:Hi ((prog.info? 90).map (·.size)=some i.toArray.size):=by
  show _=_
  rw[dD,Qx3,P]
 have cg:Hi ((prog.info? 90).map (·.size)=some i.length):=by
  show _=_
  rw[dD,P]
 have bj:Hi (zeroCells90.size=i.toArray.size):=by
  show _=_
  exact zcGame.trans (by simp[P])
 have ba:=aA M;rw[<-M];have ac:=aA P;obtain⟨X,x0,x1,bz,bv⟩:=cx;have bd:Hi (RefsA p w1.heap.size v2 (aO t (d.map aJ) (e.map aJ)).2.1 (aO t (d.map aJ) (e.map aJ)).2.2):=⟨X,x0,x1,bz,bv⟩;subst bz;have bf:=aA bx;clear M bv bx bt P ae;obtain⟨q,av⟩:=nm ((p.alloc (.cells zeroCells90 90)).setRow p.heap.size i.toArray);have aj:Fr [] p q:=by simp_all[Fr.setRow,Fr.alloc,r0]
 have bc:Hi (q.heap[p.heap.size]?=some (.cells i.toArray 90)):=by show _=_;rw[av];exact Qz4 _ _ _ _ _ _ (aC _ _)
 have aq:=(I.qT bs).qT aj;have Zq:=RS.qF B.o aq;have af:q.heap[a]?=some (.cells (gs++[v,u]).toArray 97):=by have:=Zq.bl;unfold SB at this;rwa[<-bb.o]at this
 have bg:Hi (q.there a 0 i.toArray.size):=λax hj=>by
  have dg:ax<149:=by rw[Qx3,ac.o]at hj;exact hj
  refine⟨?_,aV af⟩;rw[aB af,Z9,Zq3 qt];rfl
 obtain⟨j,ah⟩:=nm (q.setCells a 0 i);have J:Fr [a] q j:=by rw[ah];exact vS a i 0 q (r0 _ _) (.inl qs)
 have bk:j.heap[a]?=some (.cells (i++[v,u]).toArray 97):=by rw[ah,NH i 0 q (gs++[v,u]) af (by rw[m8,am,ac.o];omega)];rw[take_zero,Z8,Z9,ac.o,drop_append,am,Nat.sub_self,drop_zero,Z6 qo,Z8]
 have cu:=(show RS _ _ _ _ _ _ _ _ _ _ from B.o).row.lt;have bw:=(show RS _ _ _ _ _ _ _ _ _ _ from B.o).lt;have au:=(show RS _ _ _ _ _ _ _ _ _ _ from B.o).sve.lt;have aw:=I.size;have Zr:RS j a x C S (dR t (d,e)) v u A O:=by
  have E:=(show RS _ _ _ _ _ _ _ _ _ _ from B.o);have N:=nV L.ok (d.map aJ) (e.map aJ) ht;have dh:(dR t (d,e)).us.length<=100:=N.ok.len;have cw:0<(dR t (d,e)).us.length:=FH N.ok;have bu:x≠a:=by
   obtain f|f:=Q
   ·rw[f];exact E.np
   omega
  refine⟨?_,Zq.sve.fr J (λk m f=>E.nrb ((show k=a by simpa using f) ▸ m)),(bf.o.fr aj qs).fr J (qu bu),E.nrb,λhm=>?_,bu,by omega,cw,E.z.1,?_⟩
  ·show j.heap[a]?=_
   rw[bk,ba.o]
  ·obtain f|f:=Q
   ·rw[f]at hm;exact E.npb hm
   have:=au _ hm;omega
  obtain f|f:=Q
  ·rw[f];exact E.z.2
  omega
 have ag:=(aq.qO (S:=a::S)).trans J qs;have an:Hi (RefsA j h.heap.size (.slice (so X) 2 2) (aO t (d.map aJ) (e.map aJ)).2.1 (aO t (d.map aJ) (e.map aJ)).2.2):=by
  have r:=RefsA.fr bd.o aj qs;exact(r.fr J (λay R=>by
   have:ay=a:=by simpa using R
   omega)).low aw
 have az:Hi (∀g,Fr [] j g->Cs 43 #[.pointer (some ⟨a,149,none⟩),.string ⟨#[108,111,103]⟩,.string ⟨FB.toArray⟩] g λf y=>f=.returned (.tuple #[])/\RefsA y h.heap.size (.slice (so X) 2 2) (aO t (d.map aJ) (e.map aJ)).2.1 (aO t (d.map aJ) (e.map aJ)).2.2/\∃v' W Y w,RPost h a S (dR t (d,e)) (λV=>if V=LOG then some (v',aX A LOG++FB)else A V) (O++[bV LOG FB]) y x C W Y w/\(∀k∈w,k∈S\/j.heap.size<=k)/\Fr (a::S) j y):=λg l=>by
  have hR:=Zr.qF l;have N:=uQ a (gl (dR t (d,e)) x C) 97 eQ v u S A O LOG FB g hR.bl hR.sve hR.nrb qs ct (by have:=ce.o;rw[this];omega);rw[eI]at N;refine cm N ?_;rintro f p ⟨rfl,v',W,Y,w,hp⟩;have F:=hR.post hp;have di:=ag.size;refine⟨rfl,?_,v',W,Y,w,⟨F.rs,(ag.qT l).trans F.fr (λk m=>.inl m),λk m=>(F.old k m).imp_right (λf=>by have:=l.size;omega)⟩,λk m=>(F.old k m).imp_right (λf=>Y3 l.size f),(l.qO).trans F.fr (λk m=>.inl m)⟩;have r:RefsA g h.heap.size _ _ _:=RefsA.fr an.o l qs;exact r.fr F.fr (λay R=>by
   obtain rfl|R:=Qq0.1 R
   ·exact bw
   exact au ay R)
 have cn:=aA (Q.imp_right (λf=>Y3 aw f));have ap:Hi (RefsA j h.heap.size (.slice (so X) 2 2) (aO t (d.map aJ) (e.map aJ)).2.1 (aO t (d.map aJ) (e.map aJ)).2.2/\PRow j x C (dR t (d,e)).us/\h.heap.size<=j.heap.size):=⟨an.o,Zr.row,ag.size⟩;have bh:=aA av;have bi:=aA ah;clear av ah af bk Zq Zr I bs aj J aq ag Q cu bw au aw am
 go_wp2_with (first|(refine wpList_store_row rfl 90 _ _ rfl p.heap.size i.toArray rfl rfl 90 zeroCells90 (aC p _) ab.o bj.o ad.o ?_;rw[<-bh.o])|(refine wpList_load_row rfl 90 _ rfl p.heap.size rfl 90 i.toArray (0,0) _ bc.o X9 rfl ab.o ?_)|(refine wpList_store_mid rfl 90 _ _ rfl a 0 i.toArray rfl rfl bg.o ab.o ad.o ?_;rw[toList_toArray,<-bi.o]))
 simp only[Act.put];have cr:Fr [] j j.drew:=(r0 _ _).drew;clear bh bi bg ab ad cj cg bj bc bd an bf ac HI B ba bb
 go_region_held (fun _:World=>True)
  (exact p8)
  (first|(go_at_call 44;refine cm (aa.o _) ?_;rintro f w5 ⟨rfl,cs⟩)|(go_at_call 43;refine cm (az.o _ (cr.qT cs)) ?_;rintro f w6 ⟨rfl,bp,v6,db,dc,S6,bo,bn,bm⟩))
 all_goals
  have ck:=aA bo;have co:=aA bp;have ch:=aA bn;have cf:=aA bm;clear bo bp az aa bn bm;go_wp2;exact Zq8 (v:=.tuple #[.slice (so X) 2 2,ii 0]) (by simp[results,results17,go_sem]) rfl ⟨_,rfl,co.o,v6,x,C,db,dc,S6,cn.o,ck.o,j,ap.o.1,ap.o.2.1,ap.o.2.2,ch.o,cf.o⟩
def Iu(a:Value):Nat:=match a with|.string b=>b.size|_=>0
theorem FF(b:T)(d c:Nat):gl (nT b) d c=gl b d c:=by
 unfold gl aP;refine map_congr_left λa e=>?_;have e:a<149:=qg;unfold aK
 by_cases f:a<148
 ·rw[qG b qo];rfl
 have:a=148:=qo;subst this;rfl
structure LQ (w:World) (nb pb:Nat) (t:T) (l:List UInt8) (s:Value) (wr:World):Prop where
 ex:∃t' l' pb' cap',s=sv l'/\cO l'.length t' l'=cO l.length t l/\l'.length<=l.length/\GG t'/\wr.heap[nb]?=some (.cells (gl t' pb' cap').toArray 90)/\PRow wr pb' cap' t'.us/\(pb'=pb\/w.heap.size<=pb')/\pb'≠nb/\pb'≠nb+1
 fr:Fr [] w wr
theorem Dh(w Q:Nat)(g:T)(d:List UInt8)(a:World)(ar:Sd a)(q:GG g)(B:PRow a w Q g.us)(hl:d.length<=100000000000000):Cs 91 #[.agg (gl g w Q).toArray,sv d] a λe f=>∃l s,e=.returned (.tuple #[.agg (gl (cO d.length g d).1 l s).toArray,sv (cO d.length g d).2])/\PRow f l s (cO d.length g d).1.us/\(l=w\/a.heap.size<=l)/\Fr [] a f:=by
 obtain⟨gs,an⟩:=nm (gl g w Q);obtain⟨tx,Zq⟩:∃au:ByteArray,au=⟨d.toArray⟩:=⟨_,rfl⟩;rw[sv,<-Zq,<-an];have aw:=aA an;have bw:=aA Zq;clear an Zq
 delta Cs;go_in
 go_wp2_with fail
 obtain⟨P,H⟩:=nm ((a.alloc (.cells gs.toArray 90)).alloc (.cells zeroCells90 90));rw[<-H];have bo:Fr [] a P:=by rw[H];exact((r0 _ _).alloc _).alloc _
 have bg:P.heap[a.heap.size]?=some (.cells gs.toArray 90):=by rw[H];exact dW _ _ _
 have bh:P.heap[a.heap.size+1]?=some (.cells zeroCells90 90):=by rw[H];exact cZ _ _ _
 have co:=B.lt;have bi:LQ a a.heap.size w g d (.string tx) P:=⟨⟨g,d,w,Q,by rw[bw.o],rfl,Q9 _,q,by rw[<-aw.o];exact bg,B.fr bo qs,.inl rfl,by omega,by omega⟩,bo⟩;have ay:=aA bi;have ax:=aA bh;clear H bg bh bi q B aw
 go_loopw [1] (fun Zr wr=>LQ a a.heap.size w g d Zr wr/\wr.heap[a.heap.size+1]?=some (.cells zeroCells90 90)) (fun Zr _=>Iu Zr)
 ·exact⟨ay.o,ax.o⟩
 obtain⟨hI,hZ⟩:=hrel;obtain⟨h,v,l,s,rfl,bk,cn,q,hN,B,bm,ce,aq⟩:=hI.ex;have Y:=hI.fr;have hcut:=sD 1 v wr qo;obtain⟨c,M⟩:=nm (gl h l s);have ao:c.length=149:=by rw[M];exact eI _ _
 rw[<-M]at hN;have n:Hi ((prog.info? 90).map (·.size)=some c.toArray.size):=by
  show _=_
  rw[dD,Qx3,ao]
 have am:Hi (zeroCells90.size=c.toArray.size):=by
  show _=_
  exact zcGame.trans (by simp[ao])
 have ah:Hi (c.toArray.all (·.oneCell')=true):=by
  show _=_
  rw[M];exact iL _ _ _ _
 have N:=aA M;have ai:=aA B;have af:=aA bk;have z:=aA hN;have F:=aA hZ;clear hI ay M B bk hN hZ ax;obtain⟨D,ab⟩:∃au:ByteArray,au=⟨v.toArray⟩:=⟨_,rfl⟩;rw[<-ab]at hcut;rw[sv,<-ab];have aj:=(show Hi _ from ab);clear ab;cases p:cA 1 v with
 |none=>
  have E:Hi (cO d.length g d=(h,v)):=by
   show _=_
   rw[<-af.o,lH p]
  rw[p]at hcut;have y:Cs 89 #[.string D,.int .u8 1] wr (R0 wr (.tuple #[.string ⟨#[]⟩,.string ⟨#[]⟩,.bool false])):=hcut;clear hcut p
  go_wp2_with fail
  refine cm y ?_;rintro e w2 ⟨rfl,i⟩;have x:=(show Hi _ from i.qH z.o);have bc:=(show Hi _ from i.qH F.o);clear y
  go_wp2_with (first|(refine wpList_load_row rfl 90 _ rfl a.heap.size rfl 90 c.toArray (0,0) _ x.o X9 rfl n.o ?_)|(refine wpList_store_row rfl 90 _ _ rfl (a.heap.size+1) c.toArray rfl rfl 90 zeroCells90 bc.o n.o am.o ah.o ?_))
  have J:Fr [a.heap.size+1] w2 (w2.setRow (a.heap.size+1) c.toArray):=(r0 _ _).setRow _ _ (.inl qs);have cw:=aH F.o;refine Zq8 (v:=.tuple #[.agg c.toArray,.string D]) (cD results91 _ _ (a.heap.size+1) 90 c.toArray (0,0) _ _ rfl rfl (Qz4 _ _ _ _ _ _ bc.o) X9 rfl n.o) rfl ⟨l,s,?_,?_,bm,(Y.qT i).trans J qs⟩
  ·rw[E.o,N.o,aj.o]
  rw[E.o];refine(ai.o.fr i qs).fr J (λe=>?_);exact aq (qu e)
 |some cr=>
  obtain⟨b,A⟩:=cr;obtain⟨cj,ck⟩:=mM p;rw[p]at hcut;have y:Cs 89 #[.string D,.int .u8 1] wr (R0 wr (.tuple #[.string ⟨b.toArray⟩,.string ⟨A.toArray⟩,.bool true])):=hcut;have cp:=aH z.o
  by_cases m:jD h b
  rotate_left
  ·have E:Hi (cO d.length g d=(h,v)):=by
    show _=_
    rw[<-af.o,pH p m]
   have ba:Hi (∀f,Cs 42 #[.agg c.toArray,.string ⟨b.toArray⟩] f (R0 f (.tuple #[.agg c.toArray,.slice none 0 0,.bool false]))):=λf=>by rw[N.o];exact Di l s h b f qo m
   clear hcut p m ar
   go_wp2_with fail
   refine cm y ?_;rintro e w2 ⟨rfl,i⟩;have x:=(show Hi _ from i.qH z.o);clear y
   go_wp2_with (refine wpList_load_row rfl 90 _ rfl a.heap.size rfl 90 c.toArray (0,0) _ x.o X9 rfl n.o ?_)
   refine cm (ba.o _) ?_;rintro e k ⟨rfl,I⟩;obtain⟨r,t⟩:=nm ((k.alloc (.cells zeroCells90 90)).setRow k.heap.size c.toArray);have u:Fr [] wr r:=by rw[t];exact((i.qT I).alloc _).setRow _ _ (.inr (by have:=(i.qT I).size;omega))
   have O:=(show Hi _ from u.qH z.o);have bd:=(show Hi _ from u.qH F.o);have ak:=aA t;clear t ba x
   go_wp2_with (first|(refine wpList_store_row rfl 90 _ _ rfl k.heap.size c.toArray rfl rfl 90 zeroCells90 (aC k _) n.o am.o ah.o ?_;rw[<-ak.o])|(refine wpList_load_row rfl 90 _ rfl a.heap.size rfl 90 c.toArray (0,0) _ O.o X9 rfl n.o ?_)|(refine wpList_store_row rfl 90 _ _ rfl (a.heap.size+1) c.toArray rfl rfl 90 zeroCells90 bd.o n.o am.o ah.o ?_))
   have J:Fr [a.heap.size+1] r (r.setRow (a.heap.size+1) c.toArray):=(r0 _ _).setRow _ _ (.inl qs);refine Zq8 (v:=.tuple #[.agg c.toArray,.string D]) (cD results91 _ _ (a.heap.size+1) 90 c.toArray (0,0) _ _ rfl rfl (Qz4 _ _ _ _ _ _ bd.o) X9 rfl n.o) rfl ⟨l,s,?_,?_,bm,(Y.qT u).trans J qs⟩
   ·rw[E.o,N.o,aj.o]
   rw[E.o];refine(ai.o.fr u qs).fr J (λe=>?_);exact aq (qu e)
  have bb:Hi (∀f,Fr [] wr f->Cs 42 #[.agg c.toArray,.string ⟨b.toArray⟩] f λe ae=>∃ad C R,e=.returned (.tuple #[.agg (gl (kV h b) C R).toArray,ad,.bool true])/\Fr [] f ae/\PRow ae C R (kV h b).us/\(C=l\/f.heap.size<=C)/\RefsA ae f.heap.size ad (aO h (dX b) (dY b)).2.1 (aO h (dX b) (dY b)).2.2):=λf W=>by have:=tZ m.1;have la:(dX b).length=dS b:=jR _ _ _;have lb:(dY b).length=fK b:=jR _ _ _;have hr:=Kb m.1;rw[m.2.1]at hr;rw[N.o];unfold kV;have cc:=KX l s h (dX b) (dY b) _ f (ar.qF (Y.qT W)) q.ok (PRow.fr ai.o W qs) ⟨q.t0,m.2.2⟩ hr qo qo qo;refine cm cc ?_;rintro e ae ⟨ad,C,R,rfl,ch⟩;exact⟨ad,C,R,by rw[FF],ch⟩
  have av:Hi (cO A.length (kV h b) A=cO d.length g d):=by
   show _=_
   obtain⟨bf,W⟩:∃bf,v.length=bf+1:=⟨v.length-1,by omega⟩;rw[<-af.o,W,mU p m];grind[tR]
  have bv:Hi (A.length<D.size):=by
   show _<_
   have e1:D.size=v.length:=by rw[aj.o];rfl
   omega
  have bs:Hi (GG (kV h b)):=by have bq:=nV q.ok (dX b) (dY b) m.2.2;have cu:=bq.tn;exact sR ⟨bq.ok,qN q.ok q.os _ _,by have:=q.t0;omega⟩
  have cq:=aH F.o;clear hcut p m ar
  go_wp2_with fail
  refine cm y ?_;rintro e w2 ⟨rfl,i⟩;have x:=(show Hi _ from i.qH z.o);have cs:=i.size;clear y
  go_wp2_with (refine wpList_load_row rfl 90 _ rfl a.heap.size rfl 90 c.toArray (0,0) _ x.o X9 rfl n.o ?_)
  refine cm (bb.o _ i) ?_;rintro e k ⟨v3,ac,be,rfl,I,bn,cd,cf⟩;obtain⟨cx,x0,x1,cg,_⟩:=cf;subst cg;obtain⟨j,L⟩:=nm (gl (kV h b) ac be);have aa:j.length=149:=by rw[L];exact eI _ _
  have ag:Hi ((prog.info? 90).map (·.size)=some j.toArray.size):=by
   show _=_
   rw[dD,Qx3,aa]
  have Zs:Hi (zeroCells90.size=j.toArray.size):=by
   show _=_
   exact zcGame.trans (by simp[aa])
  have az:Hi (j.toArray.all (·.oneCell')=true):=by
   show _=_
   rw[L];exact iL _ _ _ _
  have bt:=aA L;rw[<-L];obtain⟨r,t⟩:=nm ((k.alloc (.cells zeroCells90 90)).setRow k.heap.size j.toArray);have u:Fr [] k r:=by rw[t];exact((r0 _ _).alloc _).setRow _ _ (.inr (Q9 _))
  have bu:Hi (r.heap[k.heap.size]?=some (.cells j.toArray 90)):=by show _=_;rw[t];exact Qz4 _ _ _ _ _ _ (aC _ _)
  have S:=(i.qT I).qT u;have O:=aA (S.qH z.o);have cb:Hi (c.toArray.size=j.toArray.size):=by show _=_;simp[ao,aa]
  obtain⟨W5,V⟩:=nm (r.setRow a.heap.size j.toArray);have X:Fr [a.heap.size] r W5:=by rw[V];exact(r0 _ _).setRow _ _ (.inl qs)
  have bj:W5.heap[a.heap.size]?=some (.cells j.toArray 90):=by rw[V];exact Qz4 _ _ _ _ _ _ O.o
  have ct:=I.size;have bl:LQ a a.heap.size w g d (.string ⟨A.toArray⟩) W5:=by
   have ap:ac≠a.heap.size/\ac≠a.heap.size+1:=by
    obtain e|e:=cd
    ·rw[e];exact⟨ce,aq⟩
    omega
   refine⟨⟨kV h b,A,ac,be,rfl,av.o,by omega,bs.o,by rw[bj,bt.o],(bn.fr u qs).fr X (qu ap.1),?_,ap.1,ap.2⟩,(Y.qT S).trans X qs⟩;omega
  have bp:=X.heap (S.qH F.o) qs;have br:=aA bl;have ak:=aA t;have bx:=aA V;have bz:=aA bp;clear L aa t V u X S bl bp bj bn bb av x
  go_wp2_with (first|(refine wpList_store_row rfl 90 _ _ rfl k.heap.size j.toArray rfl rfl 90 zeroCells90 (aC k _) ag.o Zs.o az.o ?_;rw[<-ak.o])|(refine wpList_load_row rfl 90 _ rfl k.heap.size rfl 90 j.toArray (0,0) _ bu.o X9 rfl ag.o ?_)|(refine wpList_store_row rfl 90 _ _ rfl a.heap.size j.toArray rfl rfl 90 c.toArray O.o ag.o cb.o az.o ?_;rw[<-bx.o]))
  exact⟨⟨br.o,bz.o⟩,bv.o⟩
variable {x y:World}
def pN:Prop:=∀(b f g:Nat) (a:T) (e:Nat) (c:U) (d:World),RG d b f g a->a.us[e]?=some c->TOk a->bP a.us=false->c.what=4 ->
  Cs 183 #[pt b,ii e] d λh i=>h=.returned (.tuple #[])/\RStep d b f (eS a c) i
theorem BB(b:List U)(a:Int):(dK b a).isSome=(cK b a).isSome:=by grind[dK,cK]
theorem rB(a:List U):fL a=0↔bP a=false:=by grind[fL,bP,BB,cK]
theorem RStep.same(e:RG w a b c t)(d:Fr [] w x):RStep w a b t x:=⟨b,c,e.qF d,d.qO,.inl rfl⟩
theorem RStep.after(c:Fr [] w x)(e:RStep x a b t y):RStep w a b t y:=by obtain⟨i,d,f,g,h⟩:=e.h;exact⟨i,d,f,c.qO.trans g qs,h.imp id (λj=>Y3 c.size j)⟩
theorem Fb(ae:pN)(e c g:Nat)(b:T)(id:Int)(z:World)(E:RG z e c g b)(af:TOk b)(ag:OS b):Cs 135 #[pt e,ii id] z λd w'=>d=.returned (.tuple #[])/\RStep z e c (jP b id) w':=by
 have k:=pD e c g b.us id z E.gv;have s:=pF e c g b.us z E.gv;obtain⟨D,hR⟩:∃D:T,D=jP b id:=⟨_,rfl⟩;rw[<-hR];have Y:=aA hR;have B:=aA E;have j:=aA af;have ad:=aA ag;have ai:=aA ae;have Zq:=E.len;clear hR E af ag ae;cases w:bI b.us id with
 |none=>
  rw[w]at k;have h:Hi (D=b):=by show _=_;rw[Y.o];unfold jP gH;rw[w];simp
  delta Cs;go_in
  go_wp2_with fail
  refine cm k ?_;rintro d M ⟨rfl,rfl⟩;dsimp only[fJ];clear k s;go_wp2;exact Zq8 (v:=.tuple #[]) (Q6 rfl _ _ _) rfl ⟨rfl,by rw[h.o];exact RStep.same B.o (r0 _ _)⟩
 |some l=>
  obtain⟨a,J,-⟩:=kU w;rw[w]at k;have aq:=(gs.1 J).1;have ar:(l:Int)<(b.us.length:Int):=qo;have ap:¬(l:Int)<0:=qo
  by_cases u:bP b.us=true
  ·have h:Hi (D=b):=by show _=_;rw[Y.o];unfold jP;rw[Q7 u]
   have ak:(fL b.us !=0)=true:=by
    have:fL b.us≠0:=λd=>by rw[(rB _).1 d]at u;cases u
    simpa using this
   obtain⟨Zr,aj⟩:=nn (fL b.us);rw[aj]at s ak
   delta Cs;go_in
   go_wp2_with fail
   refine cm k ?_;rintro d M ⟨rfl,rfl⟩;dsimp only[fJ];clear k
   go_wp2_with fail
   refine cm s ?_;rintro d M ⟨rfl,F⟩;go_wp2;exact Zq8 (v:=.tuple #[]) (Q6 rfl _ _ _) rfl ⟨rfl,by rw[h.o];exact RStep.same B.o F⟩
  have X:bP b.us=false:=by simpa using u
  have h:Hi (D=eS b a):=by show _=_;rw[Y.o];unfold jP gH;rw[Z0 u,w];dsimp only;rw[J]
  rw[(rB _).2 X]at s;have hu:=j.o.all a (Q8 J);have t:=hu.od;have HI:=aA J;have HU:=aA hu;clear w J u
  delta Cs;go_in
  go_wp2_with fail
  refine cm k ?_;rintro d M ⟨rfl,rfl⟩;dsimp only[fJ];clear k
  go_wp2_with fail
  refine cm s ?_;rintro d M ⟨rfl,F⟩;clear s;have ab:=B.o.qF F;have ao:=ab.qA;obtain⟨c0,c1,c2,c3,c4,c5,c6,c7,c8,c9,an⟩:=ab.gv.p.at HI.o;obtain⟨W3,aa⟩:=nm (M.alloc (.cells a.arr 85));have n:Fr [] z W3:=by rw[aa];exact F.alloc _
  have q:=(show Hi _ from B.o.qF n);have r:=aA aa;clear aa ab;rcases(show a.what=0\/a.what=1\/a.what=2\/a.what=3\/a.what=4 by unfold kH at t;omega)with f|f|f|f|f
  ·have A:Hi (eS b a=b):=by
    show _=_
    have:dJ b a=(a,b):=by unfold dJ;simp[f]
    unfold eS;rw[this];exact lW j.o.rise HI.o
   have Q:(a.what==1)=false:=qt;have R:(a.what==2)=false:=qt;have V:(a.what==3)=false:=qt;have W:(a.what==4)=false:=qt;clear t f;go_wp2;exact Q5 (v:=.tuple #[]) (Q6 rfl _ _ _) rfl ⟨rfl,by rw[h.o,A.o];exact RStep.same B.o (F.alloc _)⟩
  ·have A:Hi (eS b a=cY (gI b a).2 (gI b a).1):=by show _=_;unfold eS dJ;simp[f]
   obtain⟨m0,m1,m2,m3⟩:0<=a.tox/\a.tox<12/\0<=a.toy/\a.toy<12:=by
    obtain⟨P,_⟩|⟨_,P,_⟩|⟨P,_⟩|⟨P,_⟩:=ad.o a (Q8 HI.o)
    ·omega
    ·exact bX.1 P
    ·omega
    omega
   have Q:(a.what==1)=true:=qt;have R:(a.what==2)=false:=qt;have V:(a.what==3)=false:=qt;have W:(a.what==4)=false:=qt;clear t f
   by_cases i:(a.x==a.tox&&a.y==a.toy)=true
   ·have ac:(a.x==a.tox)=true:=by simp at i;simpa using i.1
    have am:(a.y==a.toy)=true:=by simp at i;simpa using i.2
    have O:Hi (gI b a=(a.idle,b)):=by show _=_;unfold gI;rw[Q7 i]
    clear i
    go_wp2_with fail
    rw[<-r.o];refine cm (qT e c g b l a _ q.o HI.o) ?_;rintro d N ⟨rfl,I,H⟩
    go_wp2_with fail
    refine Zq8 (v:=.tuple #[]) (Q6 rfl _ _ _) rfl ⟨rfl,?_⟩;rw[h.o,A.o,O.o];exact⟨c,g,RG.idled j.o HI.o I,(n.qO (S:=[e,c])).trans H qs,.inl rfl⟩
   have O:Hi (gI b a=(a.to (dB b a λm=>m.1==a.tox&&m.2==a.toy),b.qM a (dB b a λm=>m.1==a.tox&&m.2==a.toy))):=by show _=_;unfold gI;rw[Z0 i]
   have HX:Hi ((a.x==a.tox&&a.y==a.toy)=false):=by show _=_;simpa using i
   by_cases ac:(a.x==a.tox)=true
   ·have am:(a.y==a.toy)=false:=by have:=HX.o;rw[ac]at this;simpa using this
    clear i
    go_wp2_with fail
    rw[<-r.o];refine cm (qU e c g b l a a.tox a.toy true _ q.o HI.o HU.o.on qo qo qo qo) ?_;rintro d N ⟨rfl,ah,hX,I,H⟩
    go_wp2_with fail
    refine Q5 (v:=.tuple #[]) (Q6 rfl _ _ _) rfl ⟨rfl,?_⟩;rw[h.o,A.o,O.o];exact⟨c,g,RG.went (x:=a.tox) (y:=a.toy) (onto:=true) j.o HI.o (λm=>rfl) HX.o hX I,(n.qO (S:=[e,c])).trans H qs,.inl rfl⟩
   simp only[Bool.not_eq_true]at ac;clear i
   go_wp2_with fail
   rw[<-r.o];refine cm (qU e c g b l a a.tox a.toy true _ q.o HI.o HU.o.on qo qo qo qo) ?_;rintro d N ⟨rfl,ah,hX,I,H⟩
   go_wp2_with fail
   refine Q5 (v:=.tuple #[]) (Q6 rfl _ _ _) rfl ⟨rfl,?_⟩;rw[h.o,A.o,O.o];exact⟨c,g,RG.went (x:=a.tox) (y:=a.toy) (onto:=true) j.o HI.o (λm=>rfl) HX.o hX I,(n.qO (S:=[e,c])).trans H qs,.inl rfl⟩
  ·have C:=aA f;have Q:(a.what==1)=false:=qt;have R:(a.what==2)=true:=qt;have V:(a.what==3)=false:=qt;have W:(a.what==4)=false:=qt;clear t f
   go_wp2_with fail
   rw[<-r.o];refine cm (Fs e c g b l a _ q.o HI.o j.o ad.o X C.o) ?_;rintro d N ⟨rfl,L⟩;go_wp2;exact Q5 (v:=.tuple #[]) (Q6 rfl _ _ _) rfl ⟨rfl,by rw[h.o];exact RStep.after n L⟩
  ·have C:=aA f;have Q:(a.what==1)=false:=qt;have R:(a.what==2)=false:=qt;have V:(a.what==3)=true:=qt;have W:(a.what==4)=false:=qt;clear t f
   go_wp2_with fail
   rw[<-r.o];refine cm (Fp e c g b l a _ q.o HI.o j.o X C.o) ?_;rintro d N ⟨rfl,L⟩;go_wp2;exact Q5 (v:=.tuple #[]) (Q6 rfl _ _ _) rfl ⟨rfl,by rw[h.o];exact RStep.after n L⟩
  have C:=aA f;have Q:(a.what==1)=false:=qt;have R:(a.what==2)=false:=qt;have V:(a.what==3)=false:=qt;have W:(a.what==4)=true:=qt;clear t f
  go_wp2_with fail
  rw[<-r.o];refine cm (ai.o e c g b l a _ q.o HI.o j.o X C.o) ?_;rintro d N ⟨rfl,L⟩;go_wp2;exact Q5 (v:=.tuple #[]) (Q6 rfl _ _ _) rfl ⟨rfl,by rw[h.o];exact RStep.after n L⟩
theorem tK(k m q:Nat)(e:T)(am:Int)(c:List Cm)(F:Value)(d:World)(l:RG d k m q e)(N:fL e.us≠0\/1000000000<=e.turn)(C:CmdW d F c m)(aq:c.length<=2000000):Cs 134 #[pt k,ii am,F] d λw w'=>∃u,w=.returned u/\RCmd d k m q e (range c.length) u w':=by
 obtain⟨aj,ad,ag,ah,ai⟩:=Z2 pY;obtain⟨i,t,rfl⟩:∃i t,F=.slice i c.length t:=by
  obtain⟨i,t,rfl,rfl⟩|⟨g,h,t,rfl,_⟩:=C
  ·simp_all
  grind
 have W:=aA C;have Zq:=l.pl;have ap:=l.lt;have v:=aA l;have y:=pF k m q e.us d l.gv;obtain⟨H,Q⟩:=nn (fL e.us);rw[Q]at y N;clear l C Q
 delta Cs;go_in
 go_wp2_with fail
 refine cm y ?_;rintro w w1 ⟨rfl,L⟩;have B:=v.o.qF L;have av:=B.c0;have an:=aA B;clear y B;have ab:(H=0/\1000000000<=e.turn)\/(H !=0)=true:=by
  by_cases Zr:H=0
  ·omega
  simp_all
 clear N;obtain⟨rfl,aw⟩|au:=ab
 all_goals
  go_wp2
  go_loopw [7,9] (fun u E wr=>∃a:Nat,a<=c.length/\E=ii a/\wr.ownsRow d.heap.size 3 1 u (range a).length (ints (range a))/\Fr [] d wr) (fun _ E _=>c.length-(intOf E).toNat)
  ·exact⟨0,Z3 _,rfl,⟨rfl,qg⟩,L⟩
  obtain⟨a,hk,rfl,hown,f⟩:=hrel
  by_cases r:a<c.length
  ·have ae:(a:Int)<(c.length:Int):=qo;obtain⟨j,z⟩:∃j,c[a]?=some j:=⟨c[a],Y2 r⟩;obtain⟨g,h,rfl,A⟩:∃g h,i=some ⟨g,h,none⟩/\d.cell? ⟨g,h+a*5,none⟩=some (ii j.unit):=by
    obtain⟨i,ak,e1,e2⟩|⟨g,h,ak,e1,h2,h3⟩:=W.o
    ·grind
    refine⟨g,h,by grind,?_⟩;have:=h3 a r;rw[Y2 r]at z;rw[m9 z]at this;exact this 0 _ rfl
   have c0:=(f.cell _ _ (aI A) qs).trans A;have x:=pD k m q e.us j.unit wr (v.o.qF f).gv;have J:=aA hown;have ax:=f.size;have X:Hi (∀(p:World) (s:Nat) (I:Value),[ii (a:Int)][s]?=some I->(p.alloc (.cells #[ii a] 3)).cell? ((⟨p.heap.size,0,none⟩:Addr).add s)=some I):=by
    intro p s I R;have hj:s=0:=by have:=(gs.1 R).1;simp at this;exact this
    subst hj;rw[i7,aB (aC p _)];simpa using R
   have V:=aA (λb (hb:u7.ownBlock=some b)=>bT J.o hb);have n:Hi ((wr.alloc (.cells #[ii a] 3)).ownsRow d.heap.size 3 1 u7 (range a).length (ints (range a))):=aF J.o ((r0 [] wr).alloc _) qs;have af:(range a).length=a:=length_range;obtain⟨S,D⟩:=nm (range a);rw[<-D]at n af;have Y:=aA D;obtain⟨pl,P⟩:=nn (fJ (bI e.us j.unit));rw[P]at x;clear hown z A D P
   go_wp2_with fail
   refine cm x ?_;rintro w w2 ⟨rfl,rfl⟩;clear x
   go_wp2_with (at_builtin;refine wpList_append_own _ rfl _ _ 25 rfl d.heap.size 3 aj (ii 0) 1 8 Z5 ad ag ah ai rfl qd u7 S.length (ints S) rfl n.o ⟨wr.heap.size,0,none⟩ 1 1 [ii (a:Int)] rfl rfl (X.o wr) qc qm qo qt ?_;intro v' w3 O ac ar)
   go_roundw
   ·refine⟨a+1,r,by go_num,?_,(f.alloc _).grow ac (fun aa hg=>.inr (V.o aa hg))⟩;rw[Y.o]at O;rw[range_succ,m8];simpa using O
   simp[intOf];omega
  have ae:¬(a:Int)<(c.length:Int):=qo;have M:a=c.length:=qo;have n:Hi (wr.ownsRow d.heap.size 3 1 u7 (range c.length).length (ints (range c.length))):=by rw[<-M];exact hown
  clear hown M;go_wp2;go_ret;exact⟨u7,rfl,v.o.qF f,n.o,f.qO⟩
set_option maxRecDepth 100000
theorem CmdW.fr{e:List Cm}{S:List Nat}(d:CmdW w v e a)(t:Fr S w x)(s:∀c,c<w.heap.size->c≠a->c∉S)(g:b=a\/w.heap.size<=b):CmdW x v e b:=by
 obtain d|⟨n,p,o,h,i,f⟩:=d
 ·exact .inl d
 by_cases u:e.length=0
 ·exact .inl qg
 refine .inr ⟨n,p,o,h,?_,λl j m q k=>?_⟩
 ·obtain rfl|g:=g
  ·exact i
  have:=aI (f 0 qo 0 _ rfl);omega
 have r:=f l j m q k;grind[Fr.cell,aI]
structure RPlay (w:World) (gb pb:Nat) (t:T) (a b:List Nat) (v:Value) (w':World):Prop where
 st:RStep w gb pb t w'
 refs:Refs w' w.heap.size v a b
structure RLoop (W:World) (gb pb:Nat) (tf:T) (n0 id:Int) (wr:World):Prop where
  h:∃t pb' cap',RH tf n0 id t/\RG wr gb pb' cap' t/\Fr [gb,pb] W wr/\(pb'=pb\/W.heap.size<=pb')
theorem Fc(w:pN)(a h:Nat)(n:T)(g id:Int)(c wr:World)(t:RLoop c a h n g id wr)(aA:id<g):Cs 135 #[pt a,ii id] wr λk j=>k=.returned (.tuple #[])/\∃b i o f,RH n g f b/\id<f/\eX id b.us b.next=f/\RG j a i o b/\Fr [a,h] c j/\(i=h\/c.heap.size<=i):=by
 obtain⟨m,B,p,e,u,l,v⟩:=t.h;refine(Fb w a B p m id wr u e.ok e.os).mono λk j ⟨x,y⟩=>⟨x,?_⟩;obtain⟨C,q,r,s,d⟩:=y.h;obtain⟨z,A⟩:=e.next aA;refine⟨jP m id,C,q,_,z,A,rfl,r,l.trans s ?_,?_⟩
 ·grind
 obtain rfl|d:=d
 ·exact v
 exact .inr (Y3 l.size d)
theorem ML(aa:pN)(a b q:Nat)(t0 c e:T)(Q V:List Nat)(ai aj:Value)(g:World)(be:a<g.heap.size)(bg:b<g.heap.size)(M:Cs 134 #[pt a,ii 0,ai] g λf v=>∃k,f=.returned k/\RCmd g a b q t0 Q k v)(N:∀p,Fr [b] g p->RG p a b q t0->Cs 134 #[pt a,ii 1,aj] p λf v=>∃k,f=.returned k/\RCmd p a b q c V k v)(bj:0<=c.turn/\c.turn<1000000000)(ac:RH e c.next 1 c)(z:e.turn=c.turn):Cs 95 #[pt a,ai,aj] g λf v=>∃k,f=.returned k/\RPlay g a b {e with turn:=e.turn+1} Q V k v:=by
 have am:=(show Hi _ from N);have au:=(show Hi _ from ac);have an:=(show Hi _ from z);have ak:=(show Hi _ from aa);clear N ac z aa
 delta Cs;go_in
 go_wp2_with fail
 refine cm M ?_;rintro f p ⟨v0,rfl,l⟩;clear M
 go_wp2_with fail
 refine cm (am.o p l.fr l.rg) ?_;rintro f D ⟨v1,rfl,j⟩;have F:=(show Hi _ from l);have O:=(show Hi _ from j);obtain⟨R,k0,W,rfl⟩:=lF l.own;obtain⟨S,k1,X,rfl⟩:=lF j.own;obtain⟨i,u⟩:=nm (D.alloc (.cells #[.slice R k0 W,.slice S k1 X] 25));have P:=(show Hi _ from u);have A:RG i a b q c:=by rw[u];exact j.rg.qF ((r0 _ _).alloc _)
 have bb:=A.c0;have ay:=A.c147;have ba:=j.rg.c0;have ax:=j.rg.c147;have bk:¬1000000000<=c.turn:=qo;have ao:=(show Hi _ from A);have bf:=j.rg.lt;have ae:=l.fr.trans j.fr qs;have ag:Fr [b] g i:=by rw[u];exact ae.alloc _
 have az:=l.fr.size;have ab:i.heap[D.heap.size]?=some (.cells #[.slice R k0 W,.slice S k1 X] 25):=by rw[u];exact aC _ _
 have ad:=ae.size;clear u A l j bb ay
 go_wp2_with fail
 rw[<-P.o];clear ba ax
 go_loopw [11] (fun I wr=>∃id:Int,I=ii id/\RLoop i a b e c.next id wr) (fun I _=>(c.next-intOf I).toNat)
 ·exact⟨1,rfl,c,b,q,au.o,ao.o,r0 _ _,.inl rfl⟩
 obtain⟨id,rfl,x⟩:=hrel
 by_cases aA:id<c.next
 ·go_wp2_with fail
  refine cm (Fc ak.o a b e c.next id i wr x aA) ?_;rintro f w4 ⟨rfl,L,B,w,ah,r,s,t,m,Y,g6⟩;have hA:=Fa a B w L id w4 m;rw[t]at hA;have Zq:Hi (∀E,Fr [] w4 E->RLoop i a b e c.next ah E):=λE hf=>⟨L,B,w,r,m.qF hf,Y.qT hf,g6⟩;clear r t m Y g6 x
  go_wp2_with fail
  refine cm hA ?_;rintro f E ⟨rfl,aw⟩;go_wp2;go_roundw
  ·exact⟨ah,rfl,Zq.o _ aw⟩
  simp[intOf];omega
 obtain⟨L,B,w,r,s,t,m⟩:=x.h;have bc:=r.last qo;subst bc;have bh:=s.c0;have bd:=s.fz 0;have z:=an.o;have bi:0<=e.turn/\e.turn<1000000000:=qo;have aq:=(show Hi _ from s);have ap:=(show Hi _ from t);have ar:=(show Hi _ from m);have Zr:=(show Hi _ from ab);clear r s t m x z ab;go_wp2;go_ret;have av:=ag.size;have y:Fr [a,b] i (wr.setCell ⟨a,0,none⟩ (ii (e.turn+1))):=ap.o.setCell _ _ (.inl qs);have H:∀d,g.heap.size<=d->d∉[a,b]:=λd n=>by simp;omega
 have af:Fr [] D i:=by rw[P.o];exact(r0 _ _).alloc _
 refine⟨_,rfl,⟨⟨B,w,aq.o.setTn (e.turn+1),(ag.mono (S':=[a,b]) qs).trans y qs,ar.o.imp (λd=>d) (λd=>Y3 av d)⟩⟩,⟨D.heap.size,2,_,_,rfl,y.heap Zr.o (H _ ad),ad,?_,?_⟩⟩
 ·have C:=aF F.o.own O.o.fr (λd n=>by have:=bT F.o.own n;simp;omega);have J:=aF C af qs;exact aF J y (λd n=>H d (bT F.o.own n))
 have C:=kE O.o.own az;have J:=aF C af qs;exact aF J y (λd n=>H d (bT C n))
theorem Fz(b a k:Nat)(i:T)(s v:List Nat)(A B:Value)(f:World)(P:a<f.heap.size)(R:1000000000<=i.turn)(p:Cs 134 #[pt b,ii 0,A] f λd j=>∃c,d=.returned c/\RCmd f b a k i s c j)(q:∀h,Fr [a] f h->RG h b a k i->Cs 134 #[pt b,ii 1,B] h λd j=>∃c,d=.returned c/\RCmd h b a k i v c j):Cs 95 #[pt b,A,B] f λd j=>∃c,d=.returned c/\RPlay f b a i s v c j:=by
 have C:=aA q;clear q
 delta Cs;go_in
 go_wp2_with fail
 refine cm p ?_;rintro d h ⟨S,rfl,e⟩;clear p
 go_wp2_with fail
 refine cm (C.o h e.fr e.rg) ?_;rintro d l ⟨V,rfl,g⟩;have r:=aA e;have m:=aA g;obtain⟨t,y,w,rfl⟩:=lF e.own;obtain⟨u,z,x,rfl⟩:=lF g.own;have Q:=g.rg.c0;have O:=g.rg.lt;have I:=e.fr.trans g.fr qs;have H:=e.fr.size;have F:=I.size;clear e g;go_wp2;go_ret;obtain⟨n,D⟩:=nm (l.alloc (.cells #[.slice t y w,.slice u z x] 25));have L:Fr [a] f n:=by grind[Fr.alloc]
 have E:n.heap[l.heap.size]?=some (.cells #[.slice t y w,.slice u z x] 25):=by grind[aC]
 have J:Fr [] l n:=by grind[Fr.alloc,r0]
 rw[<-D];refine⟨_,rfl,⟨⟨a,k,m.o.rg.qF J,L.mono (S':=[b,a]) qs,.inl rfl⟩⟩,⟨l.heap.size,2,_,_,rfl,E,F,?_,?_⟩⟩
 ·have N:=aF r.o.own m.o.fr (λW M=>by have:=bT r.o.own M;simp;omega);grind[aF]
 have N:=kE m.o.own H;grind[aF]
theorem yG(A:pN)(e d g:Nat)(a:T)(b c:List Cm)(j i:Value)(f:World)(k:RG f e d g a)(O:GOk a)(P:OS a)(aa:0<=a.turn)(t:CmdW f j b d)(Y:CmdW f i c d)(v:b.length<=2000000)(w:c.length<=2000000):Cs 95 #[pt e,j,i] f λs H=>∃r,s=.returned r/\RPlay f e d (aO a b c).1 (aO a b c).2.1 (aO a b c).2.2 r H:=by
 have z:RG f e d g (dN a):=k.of rfl rfl rfl rfl rfl rfl;have p:TOk (dN a):=O;have C:OS (dN a):=P;have u:∀h,Fr [d] f h->CmdW h i c d:=(by grind[CmdW.fr])
 by_cases x:1000000000<=a.turn
 ·have q:aO a b c=(a,range b.length,range c.length):=by grind[aO]
  rw[q];exact Fz e d g a _ _ j i f k.pl x (tK e d g a 0 b j f k (.inr x) t v) (λh m n=>tK e d g a 1 c i h n (.inr x) (u h m) w)
 have D:0<=a.turn/\a.turn<1000000000:=qo
 by_cases Q:bP a.us=true
 ·have y:aO a b c=({a with turn:=a.turn+1},range b.length,range c.length):=by grind[aO]
  rw[y];have E:fL a.us≠0:=λs=>by grind[rB]
  refine(ML A e d g (dN a) (dN a) (dN a) _ _ j i f k.lt k.pl (tK e d g (dN a) 0 b j f z (.inl E) t v) (λh m n=>tK e d g (dN a) 1 c i h n (.inl E) (u h m) w) D (RH.over p C Q) rfl).mono λs H ⟨r,N,q⟩=>⟨r,N,?_⟩;obtain⟨V,I,l,J,L⟩:=q.st.h;exact⟨⟨V,I,l.of rfl rfl rfl rfl rfl rfl,J,L⟩,q.refs⟩
 have B:bP a.us=false:=qg;have y:aO a b c=({fY (bH 1 0 c (bH 0 0 b (dN a)).2).2.us (bH 1 0 c (bH 0 0 b (dN a)).2).2 with turn:=(fY (bH 1 0 c (bH 0 0 b (dN a)).2).2.us (bH 1 0 c (bH 0 0 b (dN a)).2).2).turn+1},(bH 0 0 b (dN a)).1,(bH 1 0 c (bH 0 0 b (dN a)).2).1):=by grind[aO]
 rw[y];obtain⟨o,S⟩:=lN 0 (λ_=>False) b 0 p qg;obtain⟨l,o1⟩:=lN 1 (λ_=>False) c 0 o.ok qg;have W:=pS 0 b 0 p C;have X:=pS 1 c 0 o.ok W;have R:bP (bH 0 0 b (dN a)).2.us=false:=by rw[S];exact B
 have F:bP (bH 1 0 c (bH 0 0 b (dN a)).2).2.us=false:=qg;have t1:(bH 1 0 c (bH 0 0 b (dN a)).2).2.turn=a.turn:=l.tn.trans o.tn;have M:=rH (bH 1 0 c (bH 0 0 b (dN a)).2).2.us l.ok F (yH l.ok.rise);exact ML A e d g _ _ _ _ _ j i f k.lt k.pl (ME e d g (dN a) 0 b j f z p ((rB _).2 B) D.2 t v) (λh m n=>ME e d g _ 1 c i h n o.ok ((rB _).2 R) (by grind[Good.tn]) (u h m) w) qo (RH.first l.ok X F) M.tn
structure Gm (w:World) (g:Value) (L:List Nat) (t:T):Prop where
 ex:∃sb gb pb cap rb qb cap2,g=.pointer (so sb)/\L=[sb,gb,pb,rb,qb]/\w.cell? ⟨sb,0,none⟩=some (pt gb)/\w.cell? ⟨sb,1,none⟩=some (pt rb)/\GS w gb pb cap t/\RG w rb qb cap2 t
 nd:L.Nodup
 ok:GOk t
 os:OS t
 tn:0<=t.turn/\t.turn<=1000000000
theorem Gm.lt(e:Gm w v S t):∀a∈S,a<w.heap.size:=by
 obtain⟨m,i,k,g,l,qb,h,_,rfl,f,j,b,c⟩:=e.ex;intro a d;simp only[mem_cons,not_mem_nil,or_false]at d;obtain rfl|rfl|rfl|rfl|rfl:=d
 ·exact aI f
 ·exact b.lt
 ·exact b.row.lt
 ·exact c.lt
 exact c.row.lt
theorem Gm.fr{S:List Nat}(a:Gm w v L t)(r:Fr S w x)(u:∀b∈L,b∉S):Gm x v L t:=by
 have s:=a.lt;obtain⟨⟨m,e,k,c,l,qb,d,f,rfl,n,o,p,q⟩,g,h,i,j⟩:=a;refine⟨⟨m,e,k,c,l,qb,d,f,rfl,?_,?_,(by grind[GS.fr]),(by grind[RG.fr])⟩,g,h,i,j⟩
 ·grind[Fr.cell]
 grind[Fr.cell]
theorem Gm.qF(a:Gm w u S t)(b:Fr [] w x):Gm x u S t:=a.fr b qs
structure SR (w:World) (bb:Nat) (L K:List Nat) (N:Nat) (tn:Int) (g':Value) (w':World):Prop where
 ex:∃L' t' K',Gm w' g' L' t'/\Bk w' bb K' (N+1)/\((∀x∈L',x∈L\/w.heap.size<=x)/\∀x∈L'.eraseIdx 2,x∈L.eraseIdx 2\/w.heap.size<=x)/\(∀x∈K',x∈K\/w.heap.size<=x)/\(∀x∈L',x≠bb/\x∉K')
 fr:Fr (bb::(L.eraseIdx 2++K)) w w'
variable {n:Int} {X:List U}
theorem XU:(prog.info? 82).map (λa=>(a.zero,a.size,a.bytes))=some (some (.slice none 0 0),1,24):=qk
theorem MQ(b:Int):∀a,(replicate a (kQ b)).flatMap U.cells=aW 11 (fB b) a
 |0=>rfl
 |a+1=>by rw[replicate_succ',Qz5,MQ b a,<-pA (KN b) a 1,Cu];simp
theorem Gk{d:Type}(c:d)(b:List d)(a:Nat)(e:a<b.length):(replicate a c++b.drop a).set a c=replicate (a+1) c++b.drop (a+1):=by rw[Zz1 _ _ qs,length_replicate,Nat.sub_self,Zz2 e,set_cons_zero,replicate_succ',X0];rfl
structure FolkI (W:World) (pb cap:Nat) (us:List U) (m:Int) (k:Nat) (wr:World):Prop where
 row:PRow wr pb cap (replicate k (kQ m)++us.drop k)
 fr:Fr [pb] W wr
theorem FolkI.put{wr:World}(d:FolkI w a b X n c wr)(e:c<X.length):FolkI w a b X n (c+1) (wr.setCells a (c*11) (kQ n).cells):=by refine⟨?_,Fr.setCells a _ _ _ d.fr (.inl qs)⟩;have:=d.row.put (i:=c) qg (kQ n);grind[Gk]
theorem Ck(f ac k r base:Nat)(K:List Nat)(e:List U)(N:World)(bm:Bk N f K ac)(hN:ac<=2200000)(ao:PRow N k r e)(hc:e.length<=1000)(fq:base<=k)(gi:f<base)(hK:∀X∈K,X<base):Cs 100 #[pt f,.slice (so k) e.length r] N λg O=>g=.returned (.tuple #[])/\OwnP N f ac K [k] O:=by
 obtain⟨cb,bx,Zs,bz,ap⟩:=Z2 jU;obtain⟨gc,fj,fw,fx,fy⟩:=Z2 GA;obtain⟨gd,fk,fs,ft,fu⟩:=Z2 XU;have gp:=ao.lt;obtain⟨⟨q,l,nx,P,h1,h2,h3,h4,h5,h6,h7,h8,h9,db,bn⟩,bw,ax⟩:=bm;have fo:=h1.nxt;have fp:=h1.fz 9;have gj:=h1.lt;have fe:f≠k:=qo;obtain⟨a,hm⟩:=nm (nx-1);obtain⟨J,ai⟩:=nm (N.setCell ⟨f,9,none⟩ (ii a));have aw:Fr [f] N J:=by rw[ai];exact(r0 _ _).setCell _ _ qs
 have bd:Hi (BR J f q l a):=by
  show BR J f q l a
  rw[ai];exact h1.mark a
 have ee:Hi (BL J P l):=h2.fr aw (λc n g=>bw (by
          have:c=f:=by simpa using g
          subst this;exact(bn c n).1))
 have ex:Hi (PRow J k r e):=ao.fr aw qt;have HX:=(show Hi _ from And.intro h3 (And.intro h4 (And.intro h5 (And.intro h6 (And.intro h7 (And.intro db bn))))));have es:=aA bw;have el:=aA ax;have fn:-(3*(ac:Int))-1<=a/\a<=0:=qo;have HM:=aA hm;have eg:=aA aw;have dy:N.heap.size=J.heap.size:=by rw[ai];simp[World.setCell]
 have bj:=aA dy;have gk:f<J.heap.size:=bd.o.lt;have fm:ca J f 9 (ii a):=bd.o.nxt;clear h1 h2 h3 h4 h5 h6 h7 db bn bw ax aw ao dy
 delta Cs;go_in
 go_wp2_with fail
 rw[<-hm,<-ai];clear hm ai fo fp
 go_cut [4] (fun s4 wx=>∃s:Nat,s4=.pointer (so s)/\wx.heap[s]?=some (.cells (kQ a).arr 85)/\J.heap.size<=s/\Fr [] J wx)
 ·go_region
  all_goals
   go_wp2_with fail
   go_meet
   exact⟨_,rfl,aC J _,Q9 _,((r0 _ _).alloc _).drew⟩
 obtain⟨s,rfl,az,he,ad⟩:=hcut;obtain⟨W1,dj⟩:=nm wc;rw[<-dj]at az ad |-;clear dj;have be:=aA ad;have ey:=aA (ex.o.fr ad qs);have ag:=aA (bd.o.fr ad qs qs);have ef:=aA (ee.o.fr ad qs);have hi:=aH az;have hl:s≠k:=by have:=bj.o;omega
 have hd:s≠f:=qo;have bk:Hi (∀h,Fr [k] W1 h->h.cell? ⟨s,0,none⟩=some (ii a)/\h.cell? ⟨s,1,none⟩=some (ii 0)/\h.cell? ⟨s,2,none⟩=some (ii 0)/\h.cell? ⟨s,3,none⟩=some (ii 0)/\h.cell? ⟨s,4,none⟩=some (ii 0)/\h.cell? ⟨s,5,none⟩=some (ii a)/\h.cell? ⟨s,6,none⟩=some (ii 0)/\h.cell? ⟨s,7,none⟩=some (ii 0)/\h.cell? ⟨s,8,none⟩=some (ii 0)/\h.cell? ⟨s,9,none⟩=some (ii 0)/\h.cell? ⟨s,10,none⟩=some (ii 0)):=λh hf=>by have D:=hf.heap az qt;exact⟨aB D,aB D,aB D,aB D,aB D,aB D,aB D,aB D,aB D,aB D,aB D⟩
 clear ad az fm;go_wp2
 go_loopw [5] (fun m wr=>∃b:Nat,b<=e.length/\m=ii b/\FolkI W1 k r e a b wr) (fun m _=>e.length-(intOf m).toNat)
 ·exact⟨0,Z3 _,rfl,ey.o,r0 _ _⟩
 obtain⟨b,p,rfl,u⟩:=hrel;obtain⟨e0,e1,R,e3,e4,e5,e6,e7,e8,e9,bl⟩:=bk.o wr u.fr
 by_cases dq:b<e.length
 ·have fl:(b:Int)<(e.length:Int):=qo;have F:=u.row.there (i:=b) qt;obtain⟨o0,d0⟩:=Zq4.1 (F 0 qo).1;obtain⟨o1,d1⟩:=Zq4.1 (F 1 qo).1;obtain⟨o2,d2⟩:=Zq4.1 (F 2 qo).1;obtain⟨o3,d3⟩:=Zq4.1 (F 3 qo).1;obtain⟨o4,d4⟩:=Zq4.1 (F 4 qo).1;obtain⟨o5,d5⟩:=Zq4.1 (F 5 qo).1;obtain⟨o6,d6⟩:=Zq4.1 (F 6 qo).1;obtain⟨o7,d7⟩:=Zq4.1 (F 7 qo).1;obtain⟨o8,d8⟩:=Zq4.1 (F 8 qo).1;obtain⟨o9,d9⟩:=Zq4.1 (F 9 qo).1;obtain⟨hp,gg⟩:=Zq4.1 (F 10 qo).1;have z0:=u.row.fz (b*11);have z1:=u.row.fz (b*11+1);have z2:=u.row.fz (b*11+2);have z3:=u.row.fz (b*11+3);have z4:=u.row.fz (b*11+4);have z5:=u.row.fz (b*11+5);have z6:=u.row.fz (b*11+6);have z7:=u.row.fz (b*11+7);have z8:=u.row.fz (b*11+8);have z9:=u.row.fz (b*11+9);have hq:=u.row.fz (b*11+10);simp only[Nat.add_zero]at d0;have HP:=(show Hi _ from u.put dq);clear u F;go_wp2;go_roundw
  ·exact⟨b+1,dq,by go_num,HP.o⟩
  simp[intOf];omega
 have fl:¬(b:Int)<(e.length:Int):=qo;have Zt:b=e.length:=qo;obtain⟨am,aj⟩:=u;rw[Zt,Z6 (Q9 _),Zq6]at am;have bh:Hi (wr.ownsRow base 85 11 (.slice (so k) e.length r) e.length (aW 11 (fB a) e.length)):=by obtain⟨fb,D,hs,ht⟩:=am.h;rw[length_replicate,MQ]at ht;have dp:=am.le;rw[length_replicate]at dp;exact⟨by rw[iD],.inr ⟨k,r,fb,rfl,fq,D,dp,am.cap,hs,ht⟩⟩
 clear Zt am;obtain⟨W2,dk⟩:=nm wr;rw[<-dk]at bh aj e0 e1 R e3 e4 e5 e6 e7 e8 e9 bl |-;clear dk;have gh:base<=W2.heap.size:=by have:=aj.size;have:=be.o.size;have:=bj.o;omega
 have eh:=aA aj;have bi:Hi (∀b,∀x∈aW 11 (fB a) b,x.oneCell'=true):=λb x hu=>by obtain⟨m,_,rfl⟩:=Qk7.1 hu;have hj:m%11<11:=Nat.mod_lt _ qo;have:m%11=0\/m%11=1\/m%11=2\/m%11=3\/m%11=4\/m%11=5\/m%11=6\/m%11=7\/m%11=8\/m%11=9\/m%11=10:=qo;unfold fB;obtain g|g|g|g|g|g|g|g|g|g|g:=this<;>(rw[g];rfl)
 have Zq:Hi (∀(h:World) (cs:Array Value),h.ownsRow base 85 11 (.slice (so k) e.length r) e.length (aW 11 (fB a) e.length)->(h.alloc (.cells cs 85)).ownsRow base 85 11 (.slice (so k) e.length r) e.length (aW 11 (fB a) e.length)):=λh cs bm=>bm.alloc _;have cr:Hi (∀(h:World) (m:Nat) (x:Value),(aW 11 (fB a) 1)[m]?=some x->(h.alloc (.cells #[Value.int IntKind.i64 a,ii 0,ii 0,ii 0,ii 0,ii a,ii 0,ii 0,ii 0,ii 0,ii 0] 85)).cell? ((⟨h.heap.size,0,none⟩:Addr).add m)=some x):=λh=>dQ h (aW 11 (fB a) 1) 85;have ct:Hi (∀(h:World) (m:Nat) (x:Value),(aW 11 (fB a) 2)[m]?=some x->(h.alloc (.cells #[Value.int IntKind.i64 a,ii 0,ii 0,ii 0,ii 0,ii a,ii 0,ii 0,ii 0,ii 0,ii 0,Value.int IntKind.i64 a,ii 0,ii 0,ii 0,ii 0,ii a,ii 0,ii 0,ii 0,ii 0,ii 0] 85)).cell? ((⟨h.heap.size,0,none⟩:Addr).add m)=some x):=λh=>dQ h (aW 11 (fB a) 2) 85;have cu:Hi (∀(h:World) (m:Nat) (x:Value),(aW 11 (fB a) 3)[m]?=some x->(h.alloc (.cells #[Value.int IntKind.i64 a,ii 0,ii 0,ii 0,ii 0,ii a,ii 0,ii 0,ii 0,ii 0,ii 0,Value.int IntKind.i64 a,ii 0,ii 0,ii 0,ii 0,ii a,ii 0,ii 0,ii 0,ii 0,ii 0,Value.int IntKind.i64 a,ii 0,ii 0,ii 0,ii 0,ii a,ii 0,ii 0,ii 0,ii 0,ii 0] 85)).cell? ((⟨h.heap.size,0,none⟩:Addr).add m)=some x):=λh=>dQ h (aW 11 (fB a) 3) 85;have gt:=aj.size;obtain⟨E,ay⟩:=nn ((l 3).length);obtain⟨a3,q3,af⟩:=gL (ag.o.own 3 qo);rw[ay]at af;have gn:E<=4*ac:=by have:=HX.o.2.2.2.2.1;omega
 have cc:∀b,b<9->(q b).ownBlock≠some k:=λb p g=>by have:=hK k (HX.o.2.2.2.2.2.1 b p k g);omega
 have cn:Hi (∀h,Fr [k] W1 h->h.cell? ⟨f,3,none⟩=some (.slice a3 E q3)/\h.frozen? ⟨f,3,none⟩=false/\h.ownsRow 0 82 1 (.slice a3 E q3) E (l 3)/\BR h f q l a/\BL h P l):=λh hf=>by
  have av:=ag.o.fr hf qt (λb p t z=>by simp;intro g;subst g;exact cc b p z);have ax:∀c∈P,c∉[k]:=λc n g=>by
   have e':c=k:=by simpa using g
   subst e';have:=hK c (HX.o.2.2.2.2.2.2 c n).1;omega
  refine⟨by rw[av.cell 3 qo,af],av.fz 3,?_,av,ef.o.fr hf ax⟩;have:=av.own 3 qo;rw[af,ay]at this;exact this
 have cj:Hi (f∉(Value.ownBlock (.slice a3 E q3)).toList):=λg=>ag.o.nb 3 qo (by rw[af];simpa using g);have cz:=aA af;have eo:=aA ay;have ew:=aA cc;clear aj af ay cc
 go_wp2_with (first
   |(
     at_builtin
     refine eU rfl (.tmp 35) (.tmp 37) 82 rfl base 85 cb zeroU.val 11 88 Qq8 bx Zs bz ap rfl (.slice (so k) e.length r) e.length (aW 11 (fB a) e.length) rfl (Zq.o _ _ bh.o) ⟨W2.heap.size,0,none⟩ 1 1 (aW 11 (fB a) 1) rfl rfl (cr.o W2) (bi.o 1) qm qo qt qo ?_;intro v1 w3 L V C;obtain⟨g1,c1,rfl⟩:=bK L qo;have cw:=aA L;have cp:=aA V;have cf:Hi (fQ (W2.alloc (.cells #[Value.int IntKind.i64 a,ii 0,ii 0,ii 0,ii 0,ii a,ii 0,ii 0,ii 0,ii 0,ii 0] 85)) w3 (.slice (so k) e.length r) (.slice (so g1) (e.length+1) c1)):=C;have bo:=(eh.o.alloc _).trans (bO C) (λX H=>.inl H);have ei:=aA bo;have gu:W2.heap.size<=w3.heap.size:=(by have:=(bO C).size;simp at this;omega);obtain⟨e0,e1,R,e3,e4,e5,e6,e7,e8,e9,bl⟩:=bk.o w3 bo;clear L V C bo)
   |(
     at_builtin
     refine eU rfl (.tmp 39) (.tmp 42) 82 rfl base 85 cb zeroU.val 11 88 Qq8 bx Zs bz ap rfl (.slice (so k) e.length r) e.length (aW 11 (fB a) e.length) rfl (Zq.o _ _ cp.o) ⟨w3.heap.size,0,none⟩ 2 2 (aW 11 (fB a) 2) rfl rfl (ct.o w3) (bi.o 2) qm qo qt qo ?_;intro v2 w4 L V C;obtain⟨g2,c2,rfl⟩:=bK L qo;have cx:=aA L;have bg:=aA V;have cg:Hi (fQ (w3.alloc (.cells #[Value.int IntKind.i64 a,ii 0,ii 0,ii 0,ii 0,ii a,ii 0,ii 0,ii 0,ii 0,ii 0,Value.int IntKind.i64 a,ii 0,ii 0,ii 0,ii 0,ii a,ii 0,ii 0,ii 0,ii 0,ii 0] 85)) w4 (.slice (so k) e.length r) (.slice (so g2) (e.length+2) c2)):=C;have bp:=(ei.o.alloc _).trans (bO C) (λX H=>.inl H);have ej:=aA bp;have gv:w3.heap.size<=w4.heap.size:=(by have:=(bO C).size;simp at this;omega);obtain⟨e0,e1,R,e3,e4,e5,e6,e7,e8,e9,bl⟩:=bk.o w4 bp;clear L V C bp)
   |(
     at_builtin
     refine eU rfl (.tmp 44) (.tmp 48) 82 rfl base 85 cb zeroU.val 11 88 Qq8 bx Zs bz ap rfl (.slice (so k) e.length r) e.length (aW 11 (fB a) e.length) rfl (Zq.o _ _ bg.o) ⟨w4.heap.size,0,none⟩ 3 3 (aW 11 (fB a) 3) rfl rfl (cu.o w4) (bi.o 3) qm qo qt qo ?_;intro W y L V C;obtain⟨g3,c3,rfl⟩:=bK L qo;have cy:=aA L;have ek:=aA V;have ch:Hi (fQ (w4.alloc (.cells #[Value.int IntKind.i64 a,ii 0,ii 0,ii 0,ii 0,ii a,ii 0,ii 0,ii 0,ii 0,ii 0,Value.int IntKind.i64 a,ii 0,ii 0,ii 0,ii 0,ii a,ii 0,ii 0,ii 0,ii 0,ii 0,Value.int IntKind.i64 a,ii 0,ii 0,ii 0,ii 0,ii a,ii 0,ii 0,ii 0,ii 0,ii 0] 85)) y (.slice (so k) e.length r) (.slice (so g3) (e.length+3) c3)):=C;have bq:=(ej.o.alloc _).trans (bO C) (λX H=>.inl H);have bf:=aA bq;have gw:w4.heap.size<=y.heap.size:=(by have:=(bO C).size;simp at this;omega);obtain⟨bt,ea,dw,_,_⟩:=cn.o y bq;have dn:=aI bt;have et:=aA dw;clear dw;clear L V C bq)
   |(
     at_builtin
     have ev:Hi ((y.alloc (.cells #[Value.slice (so k) e.length r,.slice (so g1) (e.length+1) c1,.slice (so g2) (e.length+2) c2,.slice (so g3) (e.length+3) c3] 82)).ownsRow 0 82 1 (.slice a3 E q3) E (l 3)):=Zq7 et.o _;refine eU rfl (.tmp 54) (.tmp 59) 64 rfl 0 82 gd (.slice none 0 0) 1 24 underlying64 fk fs ft fu rfl (.slice a3 E q3) E (l 3) rfl ev.o ⟨y.heap.size,0,none⟩ 4 4 [Value.slice (so k) e.length r,.slice (so g1) (e.length+1) c1,.slice (so g2) (e.length+2) c2,.slice (so g3) (e.length+3) c3] rfl rfl (dQ y _ 82) qc qm qo qs qo ?_;intro v6 w6 ho p S;obtain⟨g6,c6,rfl⟩:=bK ho qo;have ab:=bO S;have ap:=(ab.cell f 3 qt cj.o).trans ((((r0 [] y).alloc _).cell f 3 dn qs).trans bt);have ga:=(ab.frozen f 3 qt cj.o).trans ((((r0 [] y).alloc _).frozen f 3 dn qs).trans ea)))
 obtain⟨Y,df,dg,dr,ds,dt,du⟩:=IU (KN a) cw.o cf.o bg.o cx.o cg.o cy.o ch.o;obtain⟨I,Zr⟩:∃fa,fa=[Value.slice (so k) e.length r,.slice (so g1) (e.length+1) c1,.slice (so g2) (e.length+2) c2,.slice (so g3) (e.length+3) c3]:=⟨_,rfl⟩;have er:Hi (∀x∈I,MkU y Y x a):=λx hu=>by
  rw[Zr]at hu;simp only[mem_cons,not_mem_nil,or_false]at hu;obtain rfl|rfl|rfl|rfl:=hu
  ·exact dr.units qo
  ·exact ds.units qo
  ·exact dt.units qo
  exact du.units qo
 have em:Hi (∀c∈Y,c=k\/W2.heap.size<=c):=λc n=>by
  obtain d|d:=df c n
  ·simp[Value.ownBlock]at d;exact .inl d.symm
  exact .inr d
 have en:=aA dg;obtain⟨_,_,_,dc,dh⟩:=cn.o y bf.o;have eq:=aA dh;have ez:=aA (λb p t z=>((ag.o.own b p).lt t z).2);have br:Fr [] y (y.alloc (.cells #[Value.slice (so k) e.length r,.slice (so g1) (e.length+1) c1,.slice (so g2) (e.length+2) c2,.slice (so g3) (e.length+3) c3] 82)):=(r0 _ _).alloc _;obtain⟨M,de⟩:=(dc.fr br qs qs).push 3 qo (.slice (so g6) (E+4) c6) I (by rw[Zr,eo.o];exact ho) (by rw[cz.o];exact S);have ba:=br.qO.trans de (λX H=>.inl H);have co:Hi (∀t,Value.ownBlock (.slice (so g6) (E+4) c6)=some t->(q 3).ownBlock=some t\/y.heap.size<=t):=λt z=>by
  obtain d|d:=gK S t z
  ·exact .inl (by rw[cz.o];exact d)
  simp at d;exact .inr qo
 obtain⟨Q,dl⟩:=nm (w6.setCell ⟨f,3,none⟩ (.slice (so g6) (E+4) c6));rw[<-dl]at M ba |-;obtain⟨W,dz⟩:=nm (Value.slice (so g6) (E+4) c6);rw[<-dz]at M co;obtain⟨w,bv⟩:=nn ((l 4).length);have e1:aR l 3 (l 3++I) 4=l 4:=rfl;have R:aR q 3 W 4=q 4:=rfl;have ak:=M.own 4 qo;rw[e1,R,bv]at ak;obtain⟨a4,q4,an⟩:=gL ak;rw[an]at ak;have go:w<=4*ac:=by have:=HX.o.2.2.2.2.1;have:=HX.o.2.1;omega
 have ff:Q.cell? ⟨f,4,none⟩=some (.slice a4 w q4):=by rw[M.cell 4 qo,R,an]
 have gb:=M.fz 4;have fg:=M.nxt;have bs:=M.lt;have eu:=aA ak;have bc:Hi (f∉(Value.ownBlock (.slice a4 w q4)).toList):=fun g=>M.nb 4 qo (by rw[R,an];simpa using g);have ed:=aA M;have ck:=aA ba;have da:=aA an;have ep:=aA bv;have cq:=aA Zr;clear dr ds dt du df dg dc dh br M de ba dl dz e1 R ak an bv Zr ho p S ab ap ga bt ea bh cw cx cy cp bg ek cf cg ch cr ct cu Zq;have HS:Hi (∀O,Fr [] Q O->ca O f 4 (.slice a4 w q4)/\ca O f 9 (ii a)):=fun O hf=>⟨(hf.cell f 4 bs qs).trans ff,(hf.cell f 9 bs qs).trans fg⟩;have j:=HS.o Q.drew ((r0 _ _).drew);refine TwoFree.region (fun O:World=>O.cell? ⟨f,4,none⟩=some (.slice a4 w q4)/\O.cell? ⟨f,9,none⟩=some (ii a)) 25 qk ?_;refine(show TwoFree prog Region.Mode.any _ _ _ 25 26 (Array.replicate 26 false) _ _ from ?_);refine tw 0 (fun _=>j) ?_;refine tw 1 (fun _=>j) ?_;refine tw 2 (fun _=>j) ?_;refine tw 3 (fun _=>j) ?_;refine tt 4 j ?_;refine tw 5 (fun _=>j) ?_;refine tw 6 (fun _=>j) ?_;refine tw 7 (fun _=>j) ?_;refine tt 8 j ?_;refine tw 9 (fun _=>j) ?_;refine tw 10 (fun _=>j) ?_;refine tw 11 (fun _=>j) ?_;refine tt 12 j ?_;refine tw 13 (fun _=>j) ?_;refine tw 14 (fun _=>j) ?_;refine tw 15 (fun _=>j) ?_;refine tt 16 j ?_;refine tw 17 (fun _=>j) ?_;refine tw 18 (fun _=>j) ?_;refine tw 19 (fun _=>j) ?_;refine tt 20 j ?_;refine t1 21 fun K' B=>?_;have A:=aA B;clear B;go_simp;obtain⟨W8,au⟩:=nm ((Q.alloc (.cells #[ii a,ii a,ii a,ii a] 3)).drew);rw[<-au];have ae:Fr [] Q W8:=by rw[au];exact((r0 _ _).alloc _).drew
 have dv:∀(m:Nat) (ec:Value),[ii a,ii a,ii a,ii a][m]?=some ec->W8.cell? ((⟨Q.heap.size,0,none⟩:Addr).add m)=some ec:=by rw[au];exact dQ Q [ii a,ii a,ii a,ii a] 3
 have gy:=ae.size;have dx:W8.ownsRow 0 3 1 (.slice a4 w q4) w (l 4):=aF eu.o ae qs;clear au;clear j;have j:=HS.o W8 ae;refine A.o _ _ ⟨λ_ _=>j,?_⟩;clear A K';try simp only[Act.put,Z]
 refine t1 22 λK' B=>?_;have A:=aA B;clear B;rw[Q7 (by rfl)];refine mD _ _ 25 rfl 0 3 gc (ii 0) 1 8 Z5 fj fw fx fy rfl (.slice a4 w q4) w (l 4) rfl dx ⟨Q.heap.size,0,none⟩ 4 4 [ii a,ii a,ii a,ii a] rfl rfl dv qc qm qo qo qo ?_;intro v9 w9 ho p S;obtain⟨g9,c9,rfl⟩:=bK ho qo;have ab:=bO S;have fh:=(ab.cell f 4 qo bc.o).trans j.1;have fi:=(ab.cell f 9 qo bc.o).trans j.2;have hn:=(ab.frozen f 4 qo bc.o).trans ((ae.frozen f 4 bs qs).trans gb);clear j;have j:=And.intro fh fi;refine A.o _ _ ⟨λ_ _=>j,?_⟩;clear A K' dv dx;try simp only[Act.put,Z]
 refine t1 23 fun K' B=>?_;have A:=aA B;clear B;go_simp;refine A.o _ _ ⟨fun _ _=>j,?_⟩;clear A K';try simp only[Act.put,Z]
 refine t1 24 fun K' B=>?_;have A:=aA B;clear B;go_simp;refine A.o _ _ ⟨fun _ _=>j,?_⟩;clear A K';try simp only[Act.put,Z]
 refine t1 25 fun K' B=>?_;have A:=aA B;clear B;go_simp;refine A.o _ _ ⟨fun h6=>absurd rfl h6,TwoFree.done qk ?_ _⟩;clear A K';refine Q5 (v:=.tuple #[]) (Q6 rfl _ _ _) rfl ⟨rfl,?_⟩;obtain⟨x3,x4,x5,x6,x7,ce,gf⟩:=HX.o;obtain⟨ah,dd⟩:=(ed.o.fr ae qs qs).push 4 qo (.slice (so g9) (w+4) c9) [ii a,ii a,ii a,ii a] (by rw[show aR l 3 (l 3++I) 4=l 4 from rfl,ep.o];exact ho) (by rw[show aR q 3 W 4=q 4 from rfl,da.o];exact S);rw[show aR q 3 W 4=q 4 from rfl]at dd;rw[show aR l 3 (l 3++I) 4=l 4 from rfl]at ah;have ar:Fr (f::((q 3).ownBlock.toList++(q 4).ownBlock.toList)) y (w9.setCell ⟨f,4,none⟩ (.slice (so g9) (w+4) c9)) :=
  ((ck.o.mono (λX H=>.inl (by obtain d|d:=Qq0.1 H<;>simp_all))).qT ae).trans dd (λX H=>.inl (by obtain d|d:=Qq0.1 H<;>simp_all))
 obtain⟨WT,fd⟩:=nm (w9.setCell ⟨f,4,none⟩ (.slice (so g9) (w+4) c9));rw[<-fd]at ah ar |-;have gz:=ar.size;have ao:=ez.o;have gq:N.heap.size<=W1.heap.size:=by have:=bj.o;have:=be.o.size;omega
 have gx:=ck.o.size;have di:I.length=4:=by rw[cq.o];rfl
 have gm:=ag.o.lt;have aa:∀c∈P++Y,c≠f/\(∀b,b<9->(q b).ownBlock≠some c)/\(c∈K\/c∈[k]\/N.heap.size<=c)/\c<y.heap.size:=λc n=>by
  obtain d|d:=m5.1 n
  ·obtain⟨t1,t2⟩:=gf c d;exact⟨λg=>es.o (g ▸ t1),t2,.inl t1,by have:=el.o c t1;omega⟩
  have dm:=en.o c d;obtain aq|aq:=em.o c d
  ·subst aq;exact⟨λg=>fe g.symm,ew.o,.inr (.inl qs),dm⟩
  exact⟨by omega,λb p g=>by have:=ao b p c g;omega,.inr (.inr qo),dm⟩
 have ge:∀c,c≠f->(∀b,b<9->(q b).ownBlock≠some c)->c∉f::((q 3).ownBlock.toList++(q 4).ownBlock.toList):=λc h1 h2 hm=>by
  obtain d|d:=Qq0.1 hm
  ·exact h1 d
  obtain d|d:=m5.1 d
  ·exact h2 3 qo (qu d)
  exact h2 4 qo (qu d)
 have fc:BL WT (P++Y) (aR (aR l 3 (l 3++I)) 4 (l 4++[ii a,ii a,ii a,ii a])):=by have d:=((eq.o.up (K':=P++Y) (λc n=>Qk3 _ n)).people x4.1 I a (λx hu=>(er.o x hu).up (λc n=>Qk6 _ n))).fr ar (λc n=>ge c (aa c n).1 (aa c n).2.1);rw[show(I.map λ_=>ii a)=[ii a,ii a,ii a,ii a] by rw[cq.o];rfl]at d;exact d
 have eb:∀b,b<9->∀t,(aR (aR q 3 W) 4 (.slice (so g9) (w+4) c9) b).ownBlock=some t->(∃k',k'<9/\(q k').ownBlock=some t)\/y.heap.size<=t:=λb p t z=>by
  by_cases k4:b=4
  ·subst k4;rw[iG]at z;obtain d|d:=gK S t z
   ·exact .inl ⟨4,by omega,by rw[da.o];exact d⟩
   exact .inr qo
  rw[iA _ _ k4]at z
  by_cases k3:b=3
  ·subst k3;rw[iG]at z;obtain d|d:=co.o t z
   · exact .inl ⟨3,by omega,d⟩
   exact .inr d
  rw[iA _ _ k3]at z;exact .inl ⟨b,p,z⟩
 have cd:∀c,c∈(range 9).filterMap (λb=>(aR (aR q 3 W) 4 (.slice (so g9) (w+4) c9) b).ownBlock)->∃b,b<9/\(aR (aR q 3 W) 4 (.slice (so g9) (w+4) c9) b).ownBlock=some c:=λc n=>by obtain⟨b,p,g⟩:=Qk4.1 n;exact⟨b,Qk5.1 p,g⟩
 refine⟨⟨(P++Y)++(range 9).filterMap (λb=>(aR (aR q 3 W) 4 (.slice (so g9) (w+4) c9) b).ownBlock),⟨⟨_,_,a,P++Y,ah,fc,x3,?_,?_,?_,?_,?_,fn.2,λb p t z=>?_,λc n=>⟨Qk3 _ n,λb p g=>?_⟩⟩,λhm=>?_,λc n=>?_⟩,λc n=>?_⟩,?_⟩
 ·refine⟨?_,x4.2⟩
  show(l 3++I).length=(l 4++[ii a,ii a,ii a,ii a]).length
  rw[m8,m8,di,x4.1];rfl
 ·show(l 0).length<=_
  omega
 ·show(l 2).length<=_
  omega
 ·show(l 3++I).length<=_/\(l 5).length<=_/\(l 6).length<=_
  rw[m8,di];omega
 ·omega
 ·exact Qk6 _ (Qk4.2 ⟨b,Qk5.2 p,z⟩)
 ·obtain⟨k',bu,d⟩|d:=eb b p c g
  ·exact(aa c n).2.1 k' bu d
  have:=(aa c n).2.2.2;omega
 ·obtain d|d:=m5.1 hm
  ·exact(aa f d).1 rfl
  obtain⟨b,p,g⟩:=cd f d;exact ah.nb b p g
 ·obtain d|d:=m5.1 n
  ·have:=(aa c d).2.2.2;omega
  obtain⟨b,p,g⟩:=cd c d;exact((ah.own b p).lt c g).2
 ·obtain d|d:=m5.1 n
  ·exact(aa c d).2.2.1
  obtain⟨b,p,g⟩:=cd c d;obtain⟨k',bu,aq⟩|aq:=eb b p c g
  ·exact .inl (ce k' bu c aq)
  exact .inr (.inr (qh bf.o.size))
 refine(((eg.o.mono (λX H=>.inl qa)).qT be.o).trans bf.o (λc n=>.inl qa)).trans ar (λc n=>?_);obtain d|d:=Qq0.1 n
 ·exact .inl (by simp[d])
 obtain d|d:=m5.1 d
 ·exact .inl (by simp[ce 3 qo c (qu d)])
 exact .inl (by simp[ce 4 qo c (qu d)])
