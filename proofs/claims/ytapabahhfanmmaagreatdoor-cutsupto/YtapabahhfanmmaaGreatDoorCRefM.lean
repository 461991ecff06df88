import Derived.Test.YtapabahhfanmmaaGreatDoorCRefH
namespace Go.Proofs.YtapabahhfanmmaaGreatDoor
open Go.RowKit List Go.Proofs.Tryz
set_option maxHeartbeats 2000000
variable {n:Int} {a b c d:Nat} {s t:T} {C:U} {w:World}
set_option maxRecDepth 100000
theorem Fe(q I D:Nat)(b:List U)(e:Int)(i:World)(k:GV i q I D b):Cs 137 #[pt q,ii e] i (R1 i (ii (fJ (dK b e)))):=by
 have Q:=k.len;have E:=k.c;have N:=aI E
 delta Cs;go_in
 go_wp2
 go_loopw [5] (fun o wr=>∃a:Nat,a<=b.length/\o=ii a/\(∀g,g<a->∀(M:g<b.length),aG e b[g]=false)/\i=wr) (fun o _=>b.length-(intOf o).toNat)
 ·grind
 obtain⟨a,P,rfl,t,rfl⟩:=hrel;have r:=k;have O:=r.c;have h:=aA t;clear t
 by_cases s:a<b.length
 ·have H:(a:Int)<(b.length:Int):=qo;obtain⟨d,n⟩:∃d,b[a]?=some d:=qa;obtain⟨u,J,L,w,x,y,z,A,B,C,v⟩:=r.p.at n;have j:=(show Hi (b[a]?=some d)from n);clear n u w x y z A B C v
  by_cases l:(d.kind==1)=true
  ·by_cases m:(d.owner==e)=true
   ·have f:Hi (aG e d=true):=by simp[Hi,aG,l,m]
    go_wp2;go_ret;exact⟨by unfold dK;rw[sJ j.o f.o h.o];rfl,rfl⟩
   simp only[Bool.not_eq_true]at m;have f:Hi (aG e d=false):=by simp[Hi,aG,m]
   go_wp2;go_roundw
   ·exact⟨a+1,s,by go_num,mQ j.o f.o h.o,p8⟩
   simp[intOf];omega
  simp only[Bool.not_eq_true]at l;have f:Hi (aG e d=false):=by simp[Hi,aG,l]
  go_wp2;go_roundw
  ·exact⟨a+1,s,by go_num,mQ j.o f.o h.o,p8⟩
  simp[intOf];omega
 have H:¬(a:Int)<(b.length:Int):=qo;go_wp2;go_ret;exact⟨by unfold dK;rw[sI (λg F=>h.o g qo F)];rfl,rfl⟩
theorem RG.setG(f:RG w a b c t)(e:Nat)(l:e<148)(h:Value)(i:s.us=t.us)(j:∀g d,d<149->cW s g d=if d=e then h else cW t g d):RG (w.setCell ⟨a,e,none⟩ h) a b c s:=by
 refine⟨λd k=>?_,λd=>by grind[World.frozen?_setCell,RG.fz],?_,by grind[RG.len],f.ne⟩
 ·grind[eA,RG.cell,cE]
 rw[i];exact f.row.fr (S:=[a]) ((r0 _ _).setCell _ _ (.inl qs)) (by grind[RG.ne])
theorem RG.setS0(e:RG w a b c t)(d:Int):RG (w.setCell ⟨a,145,none⟩ (ii d)) a b c {t with s0:=d}:=(by grind[RG.setG,cW])
theorem RG.setS1(e:RG w a b c t)(d:Int):RG (w.setCell ⟨a,146,none⟩ (ii d)) a b c {t with s1:=d}:=(by grind[RG.setG,cW])
theorem RG.setNx(e:RG w a b c t)(d:Int):RG (w.setCell ⟨a,147,none⟩ (ii d)) a b c {t with next:=d}:=(by grind[RG.setG,cW])
theorem RG.setTn(e:RG w a b c t)(d:Int):RG (w.setCell ⟨a,0,none⟩ (ii d)) a b c {t with turn:=d}:=(by grind[RG.setG,cW])
theorem RG.setB(g:RG w a b c t)(i:d<144)(f:Int):RG (w.setCell ⟨a,1+d,none⟩ (ii f)) a b c (t.qB d f):=g.setG (1+d) qo _ rfl (λk h j=>by
 by_cases e:h=1+d
 ·subst e;grind[cW,T.qB]
 rw[Z0 e];unfold cW T.qB;grind)
theorem QE(a:C.what=2):eS t C=cY (eR t C).2 (eR t C).1:=by grind[eS,dJ]
theorem QT(h:bP t.us=false)(i:n=0\/n=1):∃c b,dK t.us n=some c/\t.us[c]?=some b/\cK t.us n=some b:=by
 have a:(cK t.us n).isSome=true:=by grind[bP]
 obtain⟨b,a⟩:=Zq4.1 a;unfold cK at a |-;rw[Y1]at a;obtain⟨d,c,g,e,f⟩:=a;refine⟨c,b,?_,by grind,?_⟩
 ·grind[dK,findIdx?_eq_some_iff_getElem]
 grind[find?_eq_some_iff_getElem]
theorem Fs(e d r:Nat)(c:T)(t:Nat)(a:U)(g:World)(ad:RG g e d r c)(hi:c.us[t]?=some a)(Zr:TOk c)(Zs:OS c)(ct:bP c.us=false)(hw:a.what=2):Cs 181 #[pt e,ii t] g λO b=>O=.returned (.tuple #[])/\RStep g e d (eS c a) b:=by
 rw[QE hw];obtain⟨ab,hR⟩:∃ab:T,ab=cY (eR c a).2 (eR c a).1:=⟨_,rfl⟩;rw[<-hR];have HR:=aA hR;have W:=Zr.all a (Q8 hi);obtain⟨an,cy⟩:aE a.tox a.toy=true/\c.bd (ci a.tox a.toy)≠10:=by
  obtain⟨aq,_⟩|⟨_,aq,f,_⟩|⟨aq,_⟩|⟨aq,_⟩:=Zs a (Q8 hi)
  ·omega
  ·exact⟨aq,f⟩
  ·omega
  omega
 clear hR hw Zs;have dg:=ad.len;have db:=(gs.1 hi).1;have dc:(t:Int)<(c.us.length:Int):=qo;obtain⟨p0,p1,p2,p3⟩:=bX.1 W.on;obtain⟨t0,t1,t2,t3⟩:=bX.1 an;obtain⟨l,f,bu,Zq,bv⟩:=QT ct W.ow;have dd:=(gs.1 Zq).1;have de:(l:Int)<(c.us.length:Int):=qo;have co:=Zr.all f (Q8 Zq);obtain⟨b0,b1,b2,b3⟩:=bX.1 co.on;have hc:=ad.qA;obtain⟨c0,c1,c2,c3,c4,c5,c6,c7,c8,c9,cn⟩:=ad.gv.p.at hi;obtain⟨W1,bt,bg,bk⟩:=al g (.cells a.arr 85);have ck:=aA bt;have R:=aA Zr;have HI:=aA hi;have HH:=aA ad;have cg:=aA bv;have cj:=aA Zq;have HB:Hi (∀ai,Fr [] W1 ai->Cs 137 #[pt e,ii a.owner] ai (R1 ai (ii l))):=λai F=>by have:=Fe e d r c.us a.owner ai (ad.qF (bg.qT F)).gv;rw[bu]at this;exact this
 have I:∀b,Fr [] W1 b->(λb:World=>b.cell? ⟨e,148,none⟩=some (.slice (so d) c.us.length r)/\cl b g.heap.size 1 a.owner/\b.cell? ⟨d,l*11,none⟩=some (ii f.id)/\b.cell? ⟨d,l*11+1,none⟩=some (ii f.owner)/\b.cell? ⟨d,l*11+2,none⟩=some (ii f.kind)/\b.cell? ⟨d,l*11+3,none⟩=some (ii f.x)/\b.cell? ⟨d,l*11+4,none⟩=some (ii f.y)/\b.cell? ⟨d,l*11+5,none⟩=some (ii f.life)/\b.cell? ⟨d,l*11+6,none⟩=some (ii f.load)/\b.cell? ⟨d,l*11+7,none⟩=some (ii f.what)/\b.cell? ⟨d,l*11+8,none⟩=some (ii f.tox)/\b.cell? ⟨d,l*11+9,none⟩=some (ii f.toy)/\b.cell? ⟨d,l*11+10,none⟩=some (ii f.target)) b:=λb F=>by have hg:=HH.o.qF (bg.qT F);exact⟨hg.qA,aB (F.qH bk),hg.gv.p.at cj.o⟩
 have KF:Fr [] W1 W1.drew:=(r0 _ _).drew;have K0:=I _ KF;clear Zr hi ad bt bu Zq bv
 delta Cs;go_in
 go_wp2_with fail
 rw[<-ck.o];clear c0 c1 c2 c3 c4 c5 c6 c7 c8 c9 cn hc;obtain⟨vb,bl⟩:=nm W1.heap.size;have bp:=aA bl
 go_cut [5] (fun s5 wx=>s5=.pointer (so vb)/\Fr [] W1 wx/\wx.heap[vb]?=some (.cells f.arr 85))
 ·clear bl
  go_region_held (fun b:World=>b.cell? ⟨e,148,none⟩=some (.slice (so d) c.us.length r)/\b.cell? ⟨g.heap.size,1,none⟩=some (ii a.owner)/\b.cell? ⟨d,l*11,none⟩=some (ii f.id)/\b.cell? ⟨d,l*11+1,none⟩=some (ii f.owner)/\b.cell? ⟨d,l*11+2,none⟩=some (ii f.kind)/\b.cell? ⟨d,l*11+3,none⟩=some (ii f.x)/\b.cell? ⟨d,l*11+4,none⟩=some (ii f.y)/\b.cell? ⟨d,l*11+5,none⟩=some (ii f.life)/\b.cell? ⟨d,l*11+6,none⟩=some (ii f.load)/\b.cell? ⟨d,l*11+7,none⟩=some (ii f.what)/\b.cell? ⟨d,l*11+8,none⟩=some (ii f.tox)/\b.cell? ⟨d,l*11+9,none⟩=some (ii f.toy)/\b.cell? ⟨d,l*11+10,none⟩=some (ii f.target))
   (first|with_reducible exact K0|(refine I _ ?_;with_reducible exact(r0 _ _).drew.alloc _)|(refine I _ ?_;with_reducible exact((r0 _ _).alloc _).drew))
   (first|(go_at_call 137;refine(HB.o _ (by first|exact(r0 _ _).drew|exact(r0 _ _).drew.alloc _|exact((r0 _ _).alloc _).drew)).mono ?_;rintro O w2 ⟨rfl,rfl⟩))
  all_goals
   go_wp2_with fail
   go_meet
   refine⟨by rw[bp.o],((r0 _ _).alloc _).drew,?_⟩;rw[rT,bp.o];exact aC _ _
 obtain⟨rfl,bi,aw⟩:=hcut;clear bl K0 KF I HB;have af:=bi.qH bk;have cb:=bg.qT bi;have ux:wc.cell? ⟨g.heap.size,3,none⟩=some (ii a.x):=aB af;have uy:wc.cell? ⟨g.heap.size,4,none⟩=some (ii a.y):=aB af;have cd:wc.cell? ⟨g.heap.size,8,none⟩=some (ii a.tox):=aB af;have ce:wc.cell? ⟨g.heap.size,9,none⟩=some (ii a.toy):=aB af;have bx:wc.cell? ⟨vb,3,none⟩=some (ii f.x):=aB aw;have bY:wc.cell? ⟨vb,4,none⟩=some (ii f.y):=aB aw;have ch:=(show Hi _ from HH.o.qF cb)
 go_wp2_with fail
 refine cm (tJ a.x a.y f.x f.y _ qo qo qo qo qo qo qo qo) ?_;rintro O w3 ⟨rfl,rfl⟩
 go_wp2_with fail
 refine cm (tJ a.x a.y a.tox a.toy _ qo qo qo qo qo qo qo qo) ?_;rintro O w3 ⟨rfl,rfl⟩;obtain⟨q,au⟩:=nn (c.bd (ci a.tox a.toy));have bc:=ch.o.bd (eN an);rw[show 1+ci a.tox a.toy=1+a.toy.toNat*12+a.tox.toNat by unfold ci;omega,au]at bc;have cu:=R.o.bd _ (eN an);rw[au]at cu cy;have bo:=aA au;obtain⟨A1,ba⟩:=nn (bJ a.x a.y f.x f.y);obtain⟨A2,bb⟩:=nn (bJ a.x a.y a.tox a.toy);rw[ba,bb];have bm:=aA ba;have bn:=aA bb;clear au ba bb ux uy;go_wp2
 go_cut [8] (fun s8 wx=>s8=ii q/\Fr [] wc wx)
 ·have K0:(λb:World=>b.cell? ⟨g.heap.size,8,none⟩=some (ii a.tox)/\b.cell? ⟨g.heap.size,9,none⟩=some (ii a.toy)/\b.cell? ⟨e,1+a.toy.toNat*12+a.tox.toNat,none⟩=some (ii q)) wc.drew:=⟨by simpa using cd,by simpa using ce,by simpa using bc⟩
  go_region_held (fun b:World=>b.cell? ⟨g.heap.size,8,none⟩=some (ii a.tox)/\b.cell? ⟨g.heap.size,9,none⟩=some (ii a.toy)/\b.cell? ⟨e,1+a.toy.toNat*12+a.tox.toNat,none⟩=some (ii q)) (with_reducible exact K0) (fail)
  all_goals
   go_wp2_with fail
   go_meet
   exact⟨rfl,(r0 _ _).drew⟩
 obtain⟨rfl,ar⟩:=hcut;have av:=ar.qH af;have bz:=ar.qH aw;have J:=cb.qT ar;have ae:=HH.o.qF J;have H:=aA ae;have L:wc.cell? ⟨g.heap.size,1,none⟩=some (ii a.owner):=aB av;have ul:wc.cell? ⟨g.heap.size,6,none⟩=some (ii a.load):=aB av;have dx:wc.cell? ⟨g.heap.size,8,none⟩=some (ii a.tox):=aB av;have dy:wc.cell? ⟨g.heap.size,9,none⟩=some (ii a.toy):=aB av;have ex:wc.cell? ⟨vb,3,none⟩=some (ii f.x):=aB bz;have ey:wc.cell? ⟨vb,4,none⟩=some (ii f.y):=aB bz;have bw:=ae.qA;have cs:=ae.ne;have dh:¬d=e:=λO=>cs O.symm;obtain⟨_,_,_,_,_,_,d6,_,_,_,_⟩:=ae.gv.p.at HI.o;have ac:=ae.frz (t*11+6);have dj:=HH.o.lt;have di:=HH.o.pl;have ag:¬g.heap.size=e:=qo;have cc:¬g.heap.size=d:=qo;have dk:¬e=g.heap.size:=qo;have dl:¬d=g.heap.size:=qo;have df:=W.ld;have cx:=tV R.o a.owner;clear cd ce bx bY bc ar bi af aw ae bk
 by_cases hl:0<a.load
 ·have M:Hi (eR c a=if A1=true then({a with load:=0},c.qS a.owner (min (c.qK a.owner+a.load) 1000000000))else(a.to (dB c a λz=>bJ f.x f.y z.1 z.2),c.qM a (dB c a λz=>bJ f.x f.y z.1 z.2))):=by
   show _=_
   unfold eR fH;rw[Q7 hl,cg.o];dsimp only;rw[bm.o]
  cases A1
  ·go_wp2_with fail
   refine cm (qU e d r c t a f.x f.y false _ H.o HI.o W.on qo qo qo qo) ?_;rintro O w4 ⟨rfl,cf,hX,am,ak⟩
   go_wp2_with fail
   refine Q5 (v:=.tuple #[]) (Q6 rfl _ _ _) rfl ⟨rfl,d,r,?_,(J.qO (S:=[e,d])).trans ak qs,.inl rfl⟩;rw[HR.o,M.o,Z0 qs];exact RG.went (x:=f.x) (y:=f.y) (onto:=false) R.o HI.o (λz=>uP _ _ _ _) bm.o hX am
  obtain⟨i,hs⟩:=nn (c.qK a.owner);rw[hs]at cx;have V:=aA hs;clear hs;obtain Q|Q:=W.ow
  ·have aj:wc.cell? ⟨e,145,none⟩=some (ii i):=by have:=H.o.c145;rwa[show c.s0=i by have:=V.o;rw[Q]at this;simpa[T.qK]using this]at this
   rw[Q]at L;have az:=H.o.fz 145;have ay:=aA Q;clear Q;obtain⟨ld,cq⟩:=nm a.load;have h:(λb:World=>b.cell? ⟨g.heap.size,1,none⟩=some (ii 0)/\b.cell? ⟨e,145,none⟩=some (ii i)/\b.cell? ⟨g.heap.size,6,none⟩=some (ii a.load)) wc.drew:=⟨by simpa using L,by simpa using aj,by simpa using ul⟩
   go_wp2_with fail
   refine OneFree.region (fun b:World=>b.cell? ⟨g.heap.size,1,none⟩=some (ii 0)/\b.cell? ⟨e,145,none⟩=some (ii i)/\b.cell? ⟨g.heap.size,6,none⟩=some (ii a.load)) 16 qk ?_;refine(show OneFree prog Region.Mode.any _ _ _ 16 17 (Array.replicate 17 false) _ _ from ?_);refine tv 0 h ?_;refine tv 1 h ?_;refine tv 2 h ?_;refine tv 3 h ?_;refine tv 4 h ?_;refine tv 5 h ?_;refine tv 6 h ?_;refine tv 7 h ?_;refine tv 8 h ?_;refine tv 9 h ?_;refine tv 10 h ?_;refine tv 11 h ?_;refine tv 12 h ?_;refine o1 13 fun u n=>?_;have m:=aA n;clear n;go_simp;refine m.o _ _ ⟨fun _=>h,?_⟩;clear m u;try simp only[Act.put,Z]
   refine o1 14 fun u n=>?_;have m:=aA n;clear n;go_simp;refine m.o _ _ ⟨fun _=>h,?_⟩;clear m u;try simp only[Act.put,Z]
   refine o1 15 fun u n=>?_;have m:=aA n;clear n;go_simp;refine m.o _ _ ⟨fun _=>h,?_⟩;clear m u;try simp only[Act.put,Z]
   refine o1 16 fun u n=>?_;have m:=aA n;clear n;go_simp;refine m.o _ _ ⟨fun h6=>absurd rfl h6,OneFree.done qk ?_ _⟩;clear m u;rw[show IntKind.i64.wrap (i+a.load)=i+a.load by rw[Zq2];have:=V.o;omega];obtain⟨k,w⟩:=nm ((wc.setCell ⟨e,145,none⟩ (ii (i+a.load))).drew);have B:Fr [e] wc k:=by rw[w];exact((r0 _ _).setCell _ _ (.inl qs)).drew
   have C:RG k e d r {c with s0:=i+a.load}:=by rw[w];exact(H.o.setS0 (i+a.load)).qF ((r0 _ _).drew)
   rw[<-w];have aa:=(B.cell _ _ (aI L) (qu ag)).trans L;have be:k.cell? ⟨e,145,none⟩=some (ii (i+a.load)):=C.c145;have E:=aA C;have cp:=W.ld;have X:Hi (ab=cY (c.qS a.owner (min (c.qK a.owner+a.load) 1000000000)) {a with load:=0}):=by show _=_;rw[HR.o,M.o,Q7 p8]
   have ah:Hi (∀A:Int,cY (c.qS a.owner A) {a with load:=0}={c with s0:=A,us:=c.us.set t {a with load:=0} }):=λA=>by
    have e1:c.qS a.owner A={c with s0:=A}:=by rw[ay.o];rfl
    rw[e1];exact kW (t:={c with s0:=A}) (u:=a) (u':={a with load:=0}) R.o.rise HI.o rfl
   clear w h aj L ul C az bw d6 ac;have K5:(λb:World=>b.cell? ⟨g.heap.size,1,none⟩=some (ii 0)/\b.cell? ⟨e,145,none⟩=some (ii (i+a.load))) k.drew:=⟨by simpa using aa,by simpa using be⟩;go_wp2
   go_region_held (fun b:World=>b.cell? ⟨g.heap.size,1,none⟩=some (ii 0)/\b.cell? ⟨e,145,none⟩=some (ii (i+a.load))) (with_reducible exact K5) (fail)
   by_cases cr:1000000000<i+a.load
   ·have Y:Hi (min (c.qK a.owner+a.load) 1000000000=1000000000):=by show _=_;have:=V.o;rw[this];omega
    have N:=λb (F:Fr [e] k b)=>(F.cell _ _ (aI aa) (qu ag)).trans aa;have K9:=N k.drew.drew ((r0 _ _).drew.drew);have bs:=E.o.fz 145;go_wp2
    go_region_held (fun b:World=>b.cell? ⟨g.heap.size,1,none⟩=some (ii 0)) (first|with_reducible exact K9|(refine N _ ?_;exact(((r0 _ _).setCell _ _ (.inl qs)).drew).drew)|(refine N _ ?_;exact(((r0 _ _).drew.setCell _ _ (.inl qs)).drew))|(refine N _ ?_;exact(((r0 _ _).drew.drew.setCell _ _ (.inl qs))))) (fail)
    obtain⟨W6,P⟩:=nm ((k.setCell ⟨e,145,none⟩ (ii 1000000000)).drew.drew);have bh:Fr [e] k W6:=by rw[P];exact(((r0 _ _).setCell _ _ (.inl qs)).drew).drew
    have s:RG W6 e d r {c with s0:=1000000000}:=by rw[P];exact(E.o.setS0 1000000000).qF ((r0 _ _).drew.drew)
    rw[<-P];have bf:=s.qA;obtain⟨_,_,_,_,_,_,e6,_,_,_,_⟩:=s.gv.p.at HI.o;have ac:=s.frz (t*11+6);have ax:=aA s;clear P s
    go_wp2_with fail
    refine Q5 (v:=.tuple #[]) (Q6 rfl _ _ _) rfl ⟨rfl,d,r,?_,?_,.inl rfl⟩
    ·rw[X.o,Y.o,ah.o];exact ax.o.qD (u':={a with load:=0}) (v:=ii 0) HI.o (j:=6) qo rfl
    exact((((J.qO (S:=[e,d])).trans B qs).trans bh qs)).setCell _ _ (.inl qs)
   have Y:Hi (min (c.qK a.owner+a.load) 1000000000=i+a.load):=by show _=_;have:=V.o;rw[this];omega
   have s:=E.o.qF ((r0 [] k).drew);have bf:=s.qA;obtain⟨_,_,_,_,_,_,e6,_,_,_,_⟩:=s.gv.p.at HI.o;have ac:=s.frz (t*11+6);clear s
   go_wp2_with fail
   refine Q5 (v:=.tuple #[]) (Q6 rfl _ _ _) rfl ⟨rfl,d,r,?_,?_,.inl rfl⟩
   ·rw[X.o,Y.o,ah.o];exact(E.o.qD (u':={a with load:=0}) (v:=ii 0) HI.o (j:=6) qo rfl).qF ((r0 _ _).drew)
   exact(((J.qO (S:=[e,d])).trans B qs).setCell _ _ (.inl qs)).drew
  have aj:wc.cell? ⟨e,146,none⟩=some (ii i):=by have:=H.o.c146;rwa[show c.s1=i by have:=V.o;rw[Q]at this;simpa[T.qK]using this]at this
  rw[Q]at L;have az:=H.o.fz 146;have ay:=aA Q;clear Q;obtain⟨ld,cq⟩:=nm a.load;have h:(λb:World=>b.cell? ⟨g.heap.size,1,none⟩=some (ii 1)/\b.cell? ⟨e,146,none⟩=some (ii i)/\b.cell? ⟨g.heap.size,6,none⟩=some (ii a.load)) wc.drew:=⟨by simpa using L,by simpa using aj,by simpa using ul⟩
  go_wp2_with fail
  refine OneFree.region (fun b:World=>b.cell? ⟨g.heap.size,1,none⟩=some (ii 1)/\b.cell? ⟨e,146,none⟩=some (ii i)/\b.cell? ⟨g.heap.size,6,none⟩=some (ii a.load)) 16 qk ?_;refine(show OneFree prog Region.Mode.any _ _ _ 16 17 (Array.replicate 17 false) _ _ from ?_);refine tv 0 h ?_;refine tv 1 h ?_;refine tv 2 h ?_;refine tv 3 h ?_;refine tv 4 h ?_;refine tv 5 h ?_;refine tv 6 h ?_;refine tv 7 h ?_;refine tv 8 h ?_;refine tv 9 h ?_;refine tv 10 h ?_;refine tv 11 h ?_;refine tv 12 h ?_;refine o1 13 fun u n=>?_;have m:=aA n;clear n;go_simp;refine m.o _ _ ⟨fun _=>h,?_⟩;clear m u;try simp only[Act.put,Z]
  refine o1 14 fun u n=>?_;have m:=aA n;clear n;go_simp;refine m.o _ _ ⟨fun _=>h,?_⟩;clear m u;try simp only[Act.put,Z]
  refine o1 15 fun u n=>?_;have m:=aA n;clear n;go_simp;refine m.o _ _ ⟨fun _=>h,?_⟩;clear m u;try simp only[Act.put,Z]
  refine o1 16 fun u n=>?_;have m:=aA n;clear n;go_simp;refine m.o _ _ ⟨fun h6=>absurd rfl h6,OneFree.done qk ?_ _⟩;clear m u;rw[show IntKind.i64.wrap (i+a.load)=i+a.load by rw[Zq2];have:=V.o;omega];obtain⟨k,w⟩:=nm ((wc.setCell ⟨e,146,none⟩ (ii (i+a.load))).drew);have B:Fr [e] wc k:=by rw[w];exact((r0 _ _).setCell _ _ (.inl qs)).drew
  have C:RG k e d r {c with s1:=i+a.load}:=by rw[w];exact(H.o.setS1 (i+a.load)).qF ((r0 _ _).drew)
  rw[<-w];have aa:=(B.cell _ _ (aI L) (qu ag)).trans L;have be:k.cell? ⟨e,146,none⟩=some (ii (i+a.load)):=C.c146;have E:=aA C;have cp:=W.ld;have X:Hi (ab=cY (c.qS a.owner (min (c.qK a.owner+a.load) 1000000000)) {a with load:=0}):=by show _=_;rw[HR.o,M.o,Q7 p8]
  have ah:Hi (∀A:Int,cY (c.qS a.owner A) {a with load:=0}={c with s1:=A,us:=c.us.set t {a with load:=0} }):=λA=>by
   have e1:c.qS a.owner A={c with s1:=A}:=by rw[ay.o];rfl
   rw[e1];exact kW (t:={c with s1:=A}) (u:=a) (u':={a with load:=0}) R.o.rise HI.o rfl
  clear w h aj L ul C az bw d6 ac;have K5:(λb:World=>b.cell? ⟨g.heap.size,1,none⟩=some (ii 1)/\b.cell? ⟨e,146,none⟩=some (ii (i+a.load))) k.drew:=⟨by simpa using aa,by simpa using be⟩;go_wp2
  go_region_held (fun b:World=>b.cell? ⟨g.heap.size,1,none⟩=some (ii 1)/\b.cell? ⟨e,146,none⟩=some (ii (i+a.load))) (with_reducible exact K5) (fail)
  by_cases cr:1000000000<i+a.load
  ·have Y:Hi (min (c.qK a.owner+a.load) 1000000000=1000000000):=by show _=_;have:=V.o;rw[this];omega
   have N:=λb (F:Fr [e] k b)=>(F.cell _ _ (aI aa) (qu ag)).trans aa;have K9:=N k.drew.drew ((r0 _ _).drew.drew);have bs:=E.o.fz 146;go_wp2
   go_region_held (fun b:World=>b.cell? ⟨g.heap.size,1,none⟩=some (ii 1)) (first|with_reducible exact K9|(refine N _ ?_;exact(((r0 _ _).setCell _ _ (.inl qs)).drew).drew)|(refine N _ ?_;exact(((r0 _ _).drew.setCell _ _ (.inl qs)).drew))|(refine N _ ?_;exact(((r0 _ _).drew.drew.setCell _ _ (.inl qs))))) (fail)
   obtain⟨W6,P⟩:=nm ((k.setCell ⟨e,146,none⟩ (ii 1000000000)).drew.drew);have bh:Fr [e] k W6:=by rw[P];exact(((r0 _ _).setCell _ _ (.inl qs)).drew).drew
   have s:RG W6 e d r {c with s1:=1000000000}:=by rw[P];exact(E.o.setS1 1000000000).qF ((r0 _ _).drew.drew)
   rw[<-P];have bf:=s.qA;obtain⟨_,_,_,_,_,_,e6,_,_,_,_⟩:=s.gv.p.at HI.o;have ac:=s.frz (t*11+6);have ax:=aA s;clear P s
   go_wp2_with fail
   refine Q5 (v:=.tuple #[]) (Q6 rfl _ _ _) rfl ⟨rfl,d,r,?_,?_,.inl rfl⟩
   ·rw[X.o,Y.o,ah.o];exact ax.o.qD (u':={a with load:=0}) (v:=ii 0) HI.o (j:=6) qo rfl
   exact((((J.qO (S:=[e,d])).trans B qs).trans bh qs)).setCell _ _ (.inl qs)
  have Y:Hi (min (c.qK a.owner+a.load) 1000000000=i+a.load):=by show _=_;have:=V.o;rw[this];omega
  have s:=E.o.qF ((r0 [] k).drew);have bf:=s.qA;obtain⟨_,_,_,_,_,_,e6,_,_,_,_⟩:=s.gv.p.at HI.o;have ac:=s.frz (t*11+6);clear s
  go_wp2_with fail
  refine Q5 (v:=.tuple #[]) (Q6 rfl _ _ _) rfl ⟨rfl,d,r,?_,?_,.inl rfl⟩
  ·rw[X.o,Y.o,ah.o];exact(E.o.qD (u':={a with load:=0}) (v:=ii 0) HI.o (j:=6) qo rfl).qF ((r0 _ _).drew)
  exact(((J.qO (S:=[e,d])).trans B qs).setCell _ _ (.inl qs)).drew
 have M:Hi (eR c a=if jB q=true then(if A2=true then({a with load:=min q 5},c.qB (ci a.tox a.toy) (q-min q 5))else(a.to (dB c a λz=>bJ a.tox a.toy z.1 z.2),c.qM a (dB c a λz=>bJ a.tox a.toy z.1 z.2)))else(a.idle,c)):=by
  show _=_
  unfold eR;rw[Z0 hl,bo.o,bn.o]
 by_cases h0:q=0
 ·subst h0
  go_wp2_with fail
  refine cm (qT e d r c t a _ H.o HI.o) ?_;rintro O w4 ⟨rfl,am,ak⟩
  go_wp2_with fail
  refine Q5 (v:=.tuple #[]) (Q6 rfl _ _ _) rfl ⟨rfl,d,r,?_,(J.qO (S:=[e,d])).trans ak qs,.inl rfl⟩;rw[HR.o,M.o,Z0 qd];exact RG.idled R.o HI.o am
 have cz:(q==0)=false:=by simpa using h0
 have cw:jB q=true:=by unfold jB;simp;omega
 rw[cw]at M;cases A2
 ·go_wp2_with fail
  refine cm (qU e d r c t a a.tox a.toy false _ H.o HI.o W.on qo qo qo qo) ?_;rintro O w4 ⟨rfl,cf,hX,am,ak⟩
  go_wp2_with fail
  refine Q5 (v:=.tuple #[]) (Q6 rfl _ _ _) rfl ⟨rfl,d,r,?_,(J.qO (S:=[e,d])).trans ak qs,.inl rfl⟩;rw[HR.o,M.o,Q7 p8,Z0 qs];exact RG.went (x:=a.tox) (y:=a.toy) (onto:=false) R.o HI.o (λz=>uP _ _ _ _) bn.o hX am
 obtain⟨D,hn⟩:=nn (min q 5);rw[hn]at M;have X:Hi (ab={c.qB (ci a.tox a.toy) (q-D)with us:=c.us.set t {a with load:=D} }):=by
  show _=_
  rw[HR.o,M.o,Q7 rfl,Q7 rfl];exact kW (t:=c.qB (ci a.tox a.toy) (q-D)) (u:=a) (u':={a with load:=D}) R.o.rise HI.o rfl
 obtain⟨k,w⟩:=nm (wc.setCell ⟨d,t*11+6,none⟩ (ii D));have B:Fr [d] wc k:=by rw[w];exact(r0 _ _).setCell _ _ (.inl qs)
 have C:RG k e d r {c with us:=c.us.set t {a with load:=D} }:=by rw[w];exact H.o.qD (u':={a with load:=D}) (v:=ii D) HI.o (j:=6) qo rfl
 have ap:=aA w;have bq:=(B.cell _ _ (aI dx) (qu cc)).trans dx;have br:=(B.cell _ _ (aI dy) (qu cc)).trans dy;have da:k.cell? ⟨e,1+a.toy.toNat*12+a.tox.toNat,none⟩=some (ii q):=by have:=C.bd (eN an);rwa[show 1+ci a.tox a.toy=1+a.toy.toNat*12+a.tox.toNat by unfold ci;omega,show c.bd (ci a.tox a.toy)=q from bo.o]at this
 have bs:=C.fz (1+a.toy.toNat*12+a.tox.toNat);have I:∀b,Fr [e] k b->(λb:World=>cl b g.heap.size 8 a.tox/\cl b g.heap.size 9 a.toy) b:=λb F=>⟨(F.cell _ _ (aI bq) (qu ag)).trans bq,(F.cell _ _ (aI br) (qu ag)).trans br⟩;have K5:=I k.drew ((r0 _ _).drew);have E:=aA C;have ao:Hi (RG (k.setCell ⟨e,1+a.toy.toNat*12+a.tox.toNat,none⟩ (ii (q-D))) e d r ab):=by have h7:=E.o.setB (eN an) (q-D);rw[show 1+ci a.tox a.toy=1+a.toy.toNat*12+a.tox.toNat by unfold ci;omega]at h7;rw[X.o];exact h7.of rfl rfl rfl rfl rfl rfl
 clear w C
 by_cases h5:q<5
 ·have bj:D=q:=qo;rw[bj]at ao ap
  go_wp2_with fail
  rw[<-ap.o]
  go_region_held (fun b:World=>b.cell? ⟨g.heap.size,8,none⟩=some (ii a.tox)/\b.cell? ⟨g.heap.size,9,none⟩=some (ii a.toy)) (first|with_reducible exact K5|(refine I _ ?_;exact((r0 _ _).setCell _ _ (.inl qs)).drew)|(refine I _ ?_;exact(r0 _ _).drew.setCell _ _ (.inl qs))) (fail)
  go_wp2_with fail
  refine Q5 (v:=.tuple #[]) (Q6 rfl _ _ _) rfl ⟨rfl,d,r,?_,?_,.inl rfl⟩
  ·rw[show IntKind.i64.wrap 0=q-q by rw[Zq2];omega];exact ao.o.qF ((r0 _ _).drew)
  exact(((J.qO (S:=[e,d])).trans B qs).setCell _ _ (.inl qs)).drew
 have bj:D=5:=qo;rw[bj]at ao ap
 go_wp2_with fail
 rw[<-ap.o]
 go_region_held (fun b:World=>b.cell? ⟨g.heap.size,8,none⟩=some (ii a.tox)/\b.cell? ⟨g.heap.size,9,none⟩=some (ii a.toy)) (first|with_reducible exact K5|(refine I _ ?_;exact((r0 _ _).setCell _ _ (.inl qs)).drew)|(refine I _ ?_;exact(r0 _ _).drew.setCell _ _ (.inl qs))) (fail)
 go_wp2_with fail
 refine Q5 (v:=.tuple #[]) (Q6 rfl _ _ _) rfl ⟨rfl,d,r,?_,?_,.inl rfl⟩
 ·rw[show IntKind.i64.wrap (q-5)=q-5 by rw[Zq2];omega];exact ao.o.qF ((r0 _ _).drew)
 exact(((J.qO (S:=[e,d])).trans B qs).setCell _ _ (.inl qs)).drew
