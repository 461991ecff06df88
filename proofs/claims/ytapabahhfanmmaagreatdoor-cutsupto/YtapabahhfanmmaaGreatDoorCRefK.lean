import Derived.Test.YtapabahhfanmmaaGreatDoorCBookW
import Derived.Test.YtapabahhfanmmaaGreatDoorCRefH
namespace Go.Proofs.YtapabahhfanmmaaGreatDoor
open Go.RowKit List Go.Proofs.Tryz
set_option maxHeartbeats 2000000
set_option maxRecDepth 100000
variable {a b c:Nat} {t:T} {C:U} {w:World}
def CmdW(j:World)(f:Value)(a:List Cm)(i:Nat):Prop:=(∃g d,f=.slice g 0 d/\a=[])\/∃c e d,f=.slice (some ⟨c,e,none⟩) a.length d/\c≠i/\∀(b:Nat) (h:b<a.length),j.rangeAt c (e+b*5) (a[b]'h).cells
structure RCmdI (w:World) (gb pb cap:Nat) (p:Int) (t:T) (l:List Cm) (k:Nat) (v:Value) (wr:World):Prop where
 ex:∃t' rs,RG wr gb pb cap t'/\TOk t'/\rs.length<=k/\wr.ownsRow w.heap.size 3 1 v rs.length (ints rs)/\(rs++(bH p k (l.drop k) t').1,(bH p k (l.drop k) t').2)=bH p 0 l t
 fr:Fr [pb] w wr
structure RCmd (w:World) (gb pb cap:Nat) (t:T) (rs:List Nat) (v:Value) (w':World):Prop where
 rg:RG w' gb pb cap t
 own:w'.ownsRow w.heap.size 3 1 v rs.length (ints rs)
 fr:Fr [pb] w w'
theorem RG.put11(e:RG w a b c t){i:Nat}(d:t.us[i]?=some C)(u':U):RG (((((((((((w.setCell ⟨b,i*11,none⟩ (ii u'.id)).setCell ⟨b,i*11+1,none⟩ (ii u'.owner)).setCell ⟨b,i*11+2,none⟩ (ii u'.kind)).setCell ⟨b,i*11+3,none⟩ (ii u'.x)).setCell ⟨b,i*11+4,none⟩ (ii u'.y)).setCell ⟨b,i*11+5,none⟩ (ii u'.life)).setCell ⟨b,i*11+6,none⟩ (ii u'.load)).setCell ⟨b,i*11+7,none⟩ (ii u'.what)).setCell ⟨b,i*11+8,none⟩ (ii u'.tox)).setCell ⟨b,i*11+9,none⟩ (ii u'.toy)).setCell ⟨b,i*11+10,none⟩ (ii u'.target)) a b c {t with us:=t.us.set i u'}:=by have f:=e.qD (u':={C with id:=u'.id}) (v:=ii u'.id) (i:=i) d (j:=0) qo rfl;have g:=f.qD (u':={C with id:=u'.id,owner:=u'.owner}) (v:=ii u'.owner) (i:=i) (bF d) (j:=1) qo rfl;have h:=g.qD (u':={C with id:=u'.id,owner:=u'.owner,kind:=u'.kind}) (v:=ii u'.kind) (i:=i) (bF (bF d)) (j:=2) qo rfl;have k:=h.qD (u':={C with id:=u'.id,owner:=u'.owner,kind:=u'.kind,x:=u'.x}) (v:=ii u'.x) (i:=i) (bF (bF (bF d))) (j:=3) qo rfl;have l:=k.qD (u':={C with id:=u'.id,owner:=u'.owner,kind:=u'.kind,x:=u'.x,y:=u'.y}) (v:=ii u'.y) (i:=i) (bF (bF (bF (bF d)))) (j:=4) qo rfl;have m:=l.qD (u':={C with id:=u'.id,owner:=u'.owner,kind:=u'.kind,x:=u'.x,y:=u'.y,life:=u'.life}) (v:=ii u'.life) (i:=i) (bF (bF (bF (bF (bF d))))) (j:=5) qo rfl;have n:=m.qD (u':={C with id:=u'.id,owner:=u'.owner,kind:=u'.kind,x:=u'.x,y:=u'.y,life:=u'.life,load:=u'.load}) (v:=ii u'.load) (i:=i) (bF (bF (bF (bF (bF (bF d)))))) (j:=6) qo rfl;have o:=n.qD (u':={C with id:=u'.id,owner:=u'.owner,kind:=u'.kind,x:=u'.x,y:=u'.y,life:=u'.life,load:=u'.load,what:=u'.what}) (v:=ii u'.what) (i:=i) (bF (bF (bF (bF (bF (bF (bF d))))))) (j:=7) qo rfl;have p:=o.qD (u':={C with id:=u'.id,owner:=u'.owner,kind:=u'.kind,x:=u'.x,y:=u'.y,life:=u'.life,load:=u'.load,what:=u'.what,tox:=u'.tox}) (v:=ii u'.tox) (i:=i) (bF (bF (bF (bF (bF (bF (bF (bF d)))))))) (j:=8) qo rfl;have q:=p.qD (u':={C with id:=u'.id,owner:=u'.owner,kind:=u'.kind,x:=u'.x,y:=u'.y,life:=u'.life,load:=u'.load,what:=u'.what,tox:=u'.tox,toy:=u'.toy}) (v:=ii u'.toy) (i:=i) (bF (bF (bF (bF (bF (bF (bF (bF (bF d))))))))) (j:=9) qo rfl;have r:=q.qD (u':={C with id:=u'.id,owner:=u'.owner,kind:=u'.kind,x:=u'.x,y:=u'.y,life:=u'.life,load:=u'.load,what:=u'.what,tox:=u'.tox,toy:=u'.toy,target:=u'.target}) (v:=ii u'.target) (i:=i) (bF (bF (bF (bF (bF (bF (bF (bF (bF (bF d)))))))))) (j:=10) qo rfl;simp_all
theorem Ix{p:Int}{a:Cm}(b:bI t.us a.unit=none):fF t p a=(false,t):=by grind[fF]
theorem Iy{p:Int}{b:Cm}(c:bI t.us b.unit=some a)(d:t.us[a]?=some C):fF t p b=if C.owner=p/\bZ t C b=true then(true,{t with us:=t.us.set a (C.ordered (fU b))})else(false,t):=by grind[fF]
theorem ME(w c B:Nat)(x:T)(p:Int)(l:List Cm)(lv:Value)(m:World)(ab:RG m w c B x)(bj:TOk x)(bk:fL x.us=0)(cz:x.turn<1000000000)(hl:CmdW m lv l c)(ct:l.length<=2000000):Cs 134 #[pt w,ii p,lv] m λN a=>∃ah,N=.returned ah/\RCmd m w c B (bH p 0 l x).2 (bH p 0 l x).1 ah a:=by
 obtain⟨ax,aq,Zr,au,av⟩:=Z2 pY;obtain⟨ao,lc,rfl⟩:∃ao lc,lv=.slice ao l.length lc:=by
  obtain⟨ao,lc,rfl,rfl⟩|⟨j,k,lc,rfl,_⟩:=hl
  ·exact⟨_,_,rfl⟩
  exact⟨_,_,rfl⟩
 have HL:=aA hl;have cb:=ab.pl;have bs:=ab.lt;have HH:=aA ab;have bp:=aA bj;have hW:=pF w c B x.us m ab.gv;rw[bk]at hW;clear ab bj hl bk
 delta Cs;go_in
 go_wp2_with fail
 refine cm hW ?_;rintro N w1 ⟨rfl,bf⟩;have ap:=HH.o.qF bf;have cc:=ap.c0;have da:¬1000000000<=x.turn:=qo;clear hW
 go_wp2_with fail
 have bm:=aA ap;clear ap cc
 go_loopw [7,9] (fun ah aw wr=>∃e:Nat,e<=l.length/\aw=ii e/\RCmdI m w c B p x l e ah wr) (fun _ aw _=>l.length-(intOf aw).toNat)
 ·exact⟨0,Z3 _,rfl,⟨x,[],bm.o,bp.o,Q9 _,⟨rfl,.inl ⟨rfl,rfl⟩⟩,qs⟩,bf.qO⟩
 obtain⟨e,hk,rfl,hI⟩:=hrel;obtain⟨⟨i,t,ht,ar,cx,hown,ag⟩,ac⟩:=hI
 by_cases Q:e<l.length
 ·have bx:(e:Int)<(l.length:Int):=qo;obtain⟨g,hc⟩:∃g,l[e]?=some g:=⟨l[e],Y2 Q⟩;have be:l.drop e=g::l.drop (e+1):=by rw[Zz2 Q];congr 1;rw[Y2 Q]at hc;exact m9 hc
  rw[be,vA]at ag;obtain⟨j,k,rfl,bw,W⟩:∃j k,ao=some ⟨j,k,none⟩/\j≠c/\m.rangeAt j (k+e*5) g.cells:=by grind[Hi.o,CmdW]
  have bv:=aI (W 0 _ rfl);have HC:Hi (∀n,Fr [c] m n->n.cell? ⟨j,k+e*5,none⟩=some (ii g.unit)/\n.cell? ⟨j,k+e*5+1,none⟩=some (ii g.what)/\n.cell? ⟨j,k+e*5+2,none⟩=some (ii g.x)/\n.cell? ⟨j,k+e*5+3,none⟩=some (ii g.y)/\n.cell? ⟨j,k+e*5+4,none⟩=some (ii g.target)):=λn C=>by have I:∀b,n.cell? ⟨j,b,none⟩=m.cell? ⟨j,b,none⟩:=λb=>C.cell _ _ bv (qu bw);exact⟨(I _).trans (W 0 _ rfl),(I _).trans (W 1 _ rfl),(I _).trans (W 2 _ rfl),(I _).trans (W 3 _ rfl),(I _).trans (W 4 _ rfl)⟩
  obtain⟨c0,_,_,_,_⟩:=HC.o _ ac;have bt:=(tY ar p g (λ_=>True)).1.ok;have H:=pD w c B i.us g.unit wr ht.gv;have M:=aA ht;have HO:=aA hown;have bl:=aA ag;have HF:=aA ac;have az:=(show Hi _ from ar);have de:=ac.size;have HN:Hi (∀(n:World) (b:Nat) (f:Value),[ii (e:Int)][b]?=some f->(n.alloc (.cells #[ii e] 3)).cell? ((⟨n.heap.size,0,none⟩:Addr).add b)=some f):=by
   intro n b f hu;have L:b=0:=by have:=(gs.1 hu).1;simp at this;exact this
   subst L;rw[i7,aB (aC n _)];simpa using hu
  have an:=λv (E:u7.ownBlock=some v)=>bT HO.o E;have ai:=aA an;have aj:Hi (∀A,Fr [c] wr A->(A.alloc (.cells #[ii e] 3)).ownsRow m.heap.size 3 1 u7 t.length (ints t)):=λA C=>aF (aF HO.o C (λv E=>by have:=an v E;simp;omega)) ((r0 [] A).alloc _) qs;have ak:Hi (∀A r v',Fr [] wr A->fF i p g=(false,i)->r.ownsRow m.heap.size 3 1 v' (t.length+1) (ints t++[ii (e:Int)])->(A.alloc (.cells #[ii e] 3)).grownBy r u7.ownBlock->RCmdI m w c B p x l (e+1) v' r):=λA r v' bg db R P=>by
   have O:Fr u7.ownBlock.toList A r:=((r0 _ _).alloc _).grow P (λcp q=>.inl (by simp[q]));have cf:=HF.o.qT bg;have cg:=cf.trans O (λv E=>.inr (ai.o v (qu E)));have bi:∀v,v<m.heap.size->v∉u7.ownBlock.toList:=λv E hm=>by have:=ai.o v (qu hm);omega
   refine⟨⟨i,t++[e],(M.o.qF bg).fr O (bi _ bs) (bi _ cb),az.o,by simp;omega,by simpa using R,?_⟩,cg⟩;grind
  clear ht ag be hc ac hown ar an;cases hp:bI i.us g.unit with
  |none=>
   rw[hp]at H;have aa:=(show Hi _ from Ix (p:=p) hp)
   go_wp2_with fail
   refine cm H ?_;rintro N A ⟨rfl,rfl⟩;dsimp only[fJ];clear H
   go_wp2_with (at_builtin;refine wpList_append_own _ rfl _ _ 25 rfl m.heap.size 3 ax (ii 0) 1 8 Z5 aq Zr au av rfl qd u7 t.length (ints t) rfl (aj.o _ (r0 _ _)) ⟨wr.heap.size,0,none⟩ 1 1 [ii (e:Int)] rfl rfl (HN.o wr) qc qm qo qt ?_;intro v' r R P bh)
   go_roundw
   ·exact⟨e+1,Q,by go_num,ak.o _ _ _ (r0 _ _) aa.o R P⟩
   simp[intOf];omega
  |some b=>
   obtain⟨f,L,-⟩:=kU hp;rw[hp]at H;have aa:=(show Hi _ from Iy (p:=p) hp L);have cr:=(gs.1 L).1;have cs:(b:Int)<(i.us.length:Int):=qo;have cq:¬(b:Int)<0:=qo;have cy:=M.o.len;have br:=M.o.qA;obtain⟨_,d1,_,_,_,_,_,_,_,_,_⟩:=M.o.gv.p.at L;have s:=aA L;have bu:=(az.o.all f (Q8 L)).kd;clear hp L
   by_cases ad:f.owner=p
   ·have bz:(f.owner !=p)=false:=by simpa using ad
    have F:Hi (fF i p g=if bZ i f g=true then(true,{i with us:=i.us.set b (f.ordered (fU g))})else(false,i)):=by
     show _=_
     rw[aa.o];simp only[ad,true_and]
    clear ad aa;have ae:=aA (λn C=>MK w c B i f g n (M.o.qF C) bu);have ba:=(show Hi _ from λE:bZ i f g=true=>Fw E);obtain⟨d,Zq⟩:=nm (kF f g);obtain⟨ay,hB⟩:=nn (bZ i f g);rw[<-Zq,hB]at ae;rw[<-Zq,hB]at ba;rw[hB]at F;have u:∀a,Fr [] wr a->(λa:World=>ca a w 148 (.slice (so c) i.us.length B)/\ca a c (b*11) (ii f.id)/\ca a c (b*11+1) (ii f.owner)/\ca a c (b*11+2) (ii f.kind)/\ca a c (b*11+3) (ii f.x)/\ca a c (b*11+4) (ii f.y)/\ca a c (b*11+5) (ii f.life)/\ca a c (b*11+6) (ii f.load)/\ca a c (b*11+7) (ii f.what)/\ca a c (b*11+8) (ii f.tox)/\ca a c (b*11+9) (ii f.toy)/\ca a c (b*11+10) (ii f.target)/\ca a j (k+e*5) (ii g.unit)/\ca a j (k+e*5+1) (ii g.what)/\ca a j (k+e*5+2) (ii g.x)/\ca a j (k+e*5+3) (ii g.y)/\ca a j (k+e*5+4) (ii g.target)) a:=λa C=>by have q:=M.o.qF C;exact⟨q.qA,(q.gv.p.at s.o).1,(q.gv.p.at s.o).2.1,(q.gv.p.at s.o).2.2.1,(q.gv.p.at s.o).2.2.2.1,(q.gv.p.at s.o).2.2.2.2.1,(q.gv.p.at s.o).2.2.2.2.2.1,(q.gv.p.at s.o).2.2.2.2.2.2.1,(q.gv.p.at s.o).2.2.2.2.2.2.2.1,(q.gv.p.at s.o).2.2.2.2.2.2.2.2.1,(q.gv.p.at s.o).2.2.2.2.2.2.2.2.2.1,(q.gv.p.at s.o).2.2.2.2.2.2.2.2.2.2,HC.o _ (HF.o.qT C)⟩
    have S:Fr [] wr wr.drew:=(r0 _ _).drew;have KA:Fr [] wr (wr.alloc (.cells #[ii 0,ii 0,ii 0,ii 0,ii 0,ii 0,ii 0,ii 0,ii 0,ii 0,ii 0] 85)).drew:=((r0 _ _).alloc _).drew;have K0:=u _ S;have KS:=u _ KA;have KH:(wr.alloc (.cells #[ii 0,ii 0,ii 0,ii 0,ii 0,ii 0,ii 0,ii 0,ii 0,ii 0,ii 0] 85)).drew.heap[wr.heap.size]?=some (.cells #[ii 0,ii 0,ii 0,ii 0,ii 0,ii 0,ii 0,ii 0,ii 0,ii 0,ii 0] 85):=aC wr _;clear Zq hB
    go_wp2_with fail
    refine cm H ?_;rintro N A ⟨rfl,rfl⟩;dsimp only[fJ];clear H;go_wp2
    go_cut [11,12] (fun ck cn wx=>∃h,ck=.pointer (so h)/\cn=.bool ay/\Fr [] wr wx/\wr.heap.size<=h/\wx.heap[h]?=some (.cells d.arr 85))
    ·go_region_held (fun a:World=>ca a w 148 (.slice (so c) i.us.length B)/\ca a c (b*11) (ii f.id)/\ca a c (b*11+1) (ii f.owner)/\ca a c (b*11+2) (ii f.kind)/\ca a c (b*11+3) (ii f.x)/\ca a c (b*11+4) (ii f.y)/\ca a c (b*11+5) (ii f.life)/\ca a c (b*11+6) (ii f.load)/\ca a c (b*11+7) (ii f.what)/\ca a c (b*11+8) (ii f.tox)/\ca a c (b*11+9) (ii f.toy)/\ca a c (b*11+10) (ii f.target)/\ca a j (k+e*5) (ii g.unit)/\ca a j (k+e*5+1) (ii g.what)/\ca a j (k+e*5+2) (ii g.x)/\ca a j (k+e*5+3) (ii g.y)/\ca a j (k+e*5+4) (ii g.target))
      (first|with_reducible exact K0|with_reducible exact KS|with_reducible exact am|with_reducible exact bb|with_reducible exact bc)
      (first|(go_at_call 178;with_reducible refine cm (ae.o _ S) ?_;rintro N r ⟨rfl,O⟩;have J:=S.qT O;have am:=u r J;have bb:=u _ (J.alloc (.cells #[ii 0,ii 0,ii 0,ii 0,ii 0,ii 0,ii 0,ii 0,ii 0,ii 0,ii 0] 85));have bc:=u _ (J.alloc (.cells d.arr 85));have af:=p8)|(go_at_call 178;with_reducible refine cm (ae.o _ KA) ?_;rintro N r ⟨rfl,O⟩;have J:=KA.qT O;have am:=u r J;have V:=(((((((((((J).setCell ⟨wr.heap.size,0,none⟩ (ii d.id) (.inr (Q9 _))).setCell ⟨wr.heap.size,1,none⟩ (ii d.owner) (.inr (Q9 _))).setCell ⟨wr.heap.size,2,none⟩ (ii d.kind) (.inr (Q9 _))).setCell ⟨wr.heap.size,3,none⟩ (ii d.x) (.inr (Q9 _))).setCell ⟨wr.heap.size,4,none⟩ (ii d.y) (.inr (Q9 _))).setCell ⟨wr.heap.size,5,none⟩ (ii d.life) (.inr (Q9 _))).setCell ⟨wr.heap.size,6,none⟩ (ii d.load) (.inr (Q9 _))).setCell ⟨wr.heap.size,7,none⟩ (ii d.what) (.inr (Q9 _))).setCell ⟨wr.heap.size,8,none⟩ (ii d.tox) (.inr (Q9 _))).setCell ⟨wr.heap.size,9,none⟩ (ii d.toy) (.inr (Q9 _))).setCell ⟨wr.heap.size,10,none⟩ (ii d.target) (.inr (Q9 _));have bb:=u _ V;have bc:=am;have af:=O.qH KH;have cu:∀b,r.cell? ⟨wr.heap.size,b,none⟩=#[ii 0,ii 0,ii 0,ii 0,ii 0,ii 0,ii 0,ii 0,ii 0,ii 0,ii 0][b]?:=(λb=>aB af);have cw:∀b,r.frozen? ⟨wr.heap.size,b,none⟩=false:=(λb=>aV af)))
     ·go_wp2_with fail
      go_meet
      exact⟨_,rfl,rfl,J.alloc _,J.size,aC _ _⟩
     go_wp2_with fail
     go_meet
     exact⟨_,rfl,rfl,V,Q9 _,set11 (z:=zeroU) (v:=d) af⟩
    obtain⟨h,rfl,rfl,X,dc,ce⟩:=hcut;clear K0 KS S KA u ae KH c0 br d1;cases ay
    ·rw[Z0 qs]at F;have dd:=X.size
     go_wp2_with (at_builtin;refine wpList_append_own _ rfl _ _ 25 rfl m.heap.size 3 ax (ii 0) 1 8 Z5 aq Zr au av rfl qd u7 t.length (ints t) rfl (aj.o _ X.qO) ⟨wc.heap.size,0,none⟩ 1 1 [ii (e:Int)] rfl rfl (HN.o wc) qc qm qo qt ?_;intro v' r R P bh)
     go_roundw
     ·exact⟨e+1,Q,by go_num,ak.o _ _ _ X F.o R P⟩
     simp[intOf];omega
    rw[Q7 rfl]at F;have HU:=(show Hi _ from ba.o rfl);have Y:=M.o.qF X;have bo:=aA Y;have Zs:=Y.ne;have cd:¬h=c:=qo;have I:=Y.qA;obtain⟨y0,y1,y2,y3,y4,y5,y6,y7,y8,y9,df⟩:=Y.gv.p.at s.o;have fz:=λcj=>Y.frz cj;have u:∀a,Fr [c] wc a->(λa:World=>ca a w 148 (.slice (so c) i.us.length B)/\cl a h 0 d.id/\cl a h 1 d.owner/\cl a h 2 d.kind/\cl a h 3 d.x/\cl a h 4 d.y/\cl a h 5 d.life/\cl a h 6 d.load/\cl a h 7 d.what/\cl a h 8 d.tox/\cl a h 9 d.toy/\cl a h 10 d.target) a:=λa C=>by have D:=C.heap ce (qu cd);exact⟨(C.cell _ _ (aI I) (qu Zs)).trans I,aB D,aB D,aB D,aB D,aB D,aB D,aB D,aB D,aB D,aB D,aB D⟩
    have S:Fr [c] wc wc.drew:=(r0 _ _).drew;have K0:=u _ S;have V:=((((((((((((r0 [c] wc)).setCell ⟨c,b*11,none⟩ (ii d.id) (.inl qs)).setCell ⟨c,b*11+1,none⟩ (ii d.owner) (.inl qs)).setCell ⟨c,b*11+2,none⟩ (ii d.kind) (.inl qs)).setCell ⟨c,b*11+3,none⟩ (ii d.x) (.inl qs)).setCell ⟨c,b*11+4,none⟩ (ii d.y) (.inl qs)).setCell ⟨c,b*11+5,none⟩ (ii d.life) (.inl qs)).setCell ⟨c,b*11+6,none⟩ (ii d.load) (.inl qs)).setCell ⟨c,b*11+7,none⟩ (ii d.what) (.inl qs)).setCell ⟨c,b*11+8,none⟩ (ii d.tox) (.inl qs)).setCell ⟨c,b*11+9,none⟩ (ii d.toy) (.inl qs)).setCell ⟨c,b*11+10,none⟩ (ii d.target) (.inl qs);have KS:=u _ V.drew;have bn:=(show Hi _ from bo.o.put11 s.o d);clear Y u;go_wp2
    go_region_held (fun a:World=>ca a w 148 (.slice (so c) i.us.length B)/\ca a h 0 (ii d.id)/\ca a h 1 (ii d.owner)/\ca a h 2 (ii d.kind)/\ca a h 3 (ii d.x)/\ca a h 4 (ii d.y)/\ca a h 5 (ii d.life)/\ca a h 6 (ii d.load)/\ca a h 7 (ii d.what)/\ca a h 8 (ii d.tox)/\ca a h 9 (ii d.toy)/\ca a h 10 (ii d.target)) (first|with_reducible exact K0|with_reducible exact KS) (fail)
    go_wp2;go_roundw
    ·have ch:=((HF.o.qT X).trans V qs).drew;refine⟨e+1,Q,by go_num,⟨{i with us:=i.us.set b (f.ordered (fU g))},t,?_,?_,by omega,?_,?_⟩,ch⟩
     ·rw[<-HU.o];exact bn.o.qF ((r0 _ _).drew)
     ·have:=bt;rw[F.o]at this;exact this
     ·exact aF (aF HO.o X qs) V.drew (λv E=>by have:=ai.o v E;simp;omega)
     have:=bl.o;rw[F.o]at this;simpa using this
    simp[intOf];omega
   have bz:(f.owner !=p)=true:=by simpa using ad
   have F:Hi (fF i p g=(false,i)):=by
    show _=_
    rw[aa.o,Z0 (λco=>ad co.1)]
   go_wp2_with fail
   refine cm H ?_;rintro N A ⟨rfl,rfl⟩;dsimp only[fJ];clear H
   go_wp2_with (at_builtin;refine wpList_append_own _ rfl _ _ 25 rfl m.heap.size 3 ax (ii 0) 1 8 Z5 aq Zr au av rfl qd u7 t.length (ints t) rfl (aj.o _ (r0 _ _)) ⟨wr.heap.size,0,none⟩ 1 1 [ii (e:Int)] rfl rfl (HN.o wr) qc qm qo qt ?_;intro v' r R P bh)
   go_roundw
   ·exact⟨e+1,Q,by go_num,ak.o _ _ _ (r0 _ _) F.o R P⟩
   simp[intOf];omega
 have bd:=ag;rw[Z6 qo]at bd;have bx:¬(e:Int)<(l.length:Int):=qo;go_wp2;go_ret;have bq:(t,i)=bH p 0 l x:=by simpa[bH]using bd
 refine⟨u7,rfl,?_⟩;rw[<-bq];exact⟨ht,hown,ac⟩
