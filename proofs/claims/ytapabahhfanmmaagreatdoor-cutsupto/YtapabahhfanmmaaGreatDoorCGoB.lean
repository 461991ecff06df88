import Derived.Test.YtapabahhfanmmaaGreatDoorCOver
import Derived.Deep.DeepCutAuto
namespace Go.Proofs.YtapabahhfanmmaaGreatDoor
open Go.RowKit List Go.Proofs.Tryz
set_option maxHeartbeats 4000000
set_option maxRecDepth 100000
variable {a:Nat} {H:TypeId} {u v:Value} {w x:World}
theorem Fr.cells1(d:Fr [a] w x):(∀b c,b<w.heap.size->¬(b=a)->x.cell? ⟨b,c,none⟩=w.cell? ⟨b,c,none⟩)/\(∀b c,b<w.heap.size->¬(b=a)->x.frozen? ⟨b,c,none⟩=w.frozen? ⟨b,c,none⟩):=
  (by grind[Fr.cell,Fr.frozen])
theorem MapF.alloc{b:Int×Int->Option Value}(d:MapF w a b)(c:Obj):MapF (w.alloc c) a b:=d.fr ((r0 [] w).alloc c) qs
theorem MapF.setCell{c:Int×Int->Option Value}(e:MapF w a c)(b:Addr)(d:Value)(f:a≠b.block):MapF (w.setCell b d) a c:=by refine e.fr ((r0 [b.block] w).setCell b d qs) qg
theorem tS(e:w.heap[a]?=some (.cells #[v,u] H))(b c:Value):((w.setCell ⟨a,0,none⟩ b).setCell ⟨a,1,none⟩ c).heap[a]?=some (.cells #[b,c] H):=by have g:=Zz6 w a 0 #[v,u] H (0,0) b e;have d:=Qz4 w a #[v,u] (#[v,u].setIfInBounds 0 b) H (0,0) e;rw[<-g]at d;have h:=Zz6 (w.setCell ⟨a,0,none⟩ b) a 1 _ H (0,0) c d;have f:=Qz4 _ a _ ((#[v,u].setIfInBounds 0 b).setIfInBounds 1 c) H (0,0) d;rw[<-h]at f;simpa using f
theorem vI{g:Int×Int->Option Value}(j:MapF w a g)(b ty i f:TypeId)(k:prog.underlying b=some (.map 159 f))(d e:Int):∃c,(Builtin.delete_ #[b,i] ty #[.map (some a),cv d e]).run prog w=.ok (.tuple #[]) c/\MapF c a (λh=>if h=(d,e)then none else g h)/\Fr [a] w c:=by obtain⟨n,l,m⟩:=j.del b ty i f k d e;grind[Fr.setObj,r0]
abbrev U.to(b:U)(a:Cl):U:={b with x:=a.1,y:=a.2}
variable {C:U}
theorem NG(e:w.heap[a]?=some (.cells C.arr H))(b c:Int):((w.setCell ⟨a,3,none⟩ (ii b)).setCell ⟨a,4,none⟩ (ii c)).heap[a]?=some (.cells (C.to (b,c)).arr H):=by have g:=Zz6 w a 3 C.arr H (0,0) (ii b) e;have d:=Qz4 w a C.arr (C.arr.setIfInBounds 3 (ii b)) H (0,0) e;rw[<-g]at d;have h:=Zz6 (w.setCell ⟨a,3,none⟩ (ii b)) a 4 _ H (0,0) (ii c) d;have f:=Qz4 _ a _ ((C.arr.setIfInBounds 3 (ii b)).setIfInBounds 4 (ii c)) H (0,0) d;rw[<-h]at f;simpa using f
abbrev T.qM(c:T)(b:U)(d:Cl):T:={c with held:=λa=>if a=d then some b.id else if a=(b.x,b.y)then none else c.held a}
theorem goG_any(N:FuncId)(Y aa:Array Value)(H:Cl->Bool)(i pb aj j e:Nat)(n:T)(c:U)(b:World)(m:TS b i pb aj j e n)(bn:Sd b)(bl:aE c.x c.y=true)(bi:∀(args:Array Value) (b:World),(callFunc N args).run prog b=.ok (.enter N args) b)(az:Hi (∀I O P,Fr [e] b I->aE O P=true->Cs N (Y++#[cv O P]++aa) I (R0 I (.bool (H (O,P)))))):Cs 202 #[pt i,c.val,.func (.func N) Y aa] b λu a=> u=.returned (c.to (dU (λt=>cR (bN n.held) n.bd t.1 t.2) H (c.x,c.y))).val/\Fr [j,e] b a/\TS a i pb aj j e (n.qM c (dU (λt=>cR (bN n.held) n.bd t.1 t.2) H (c.x,c.y))):=by
 have hz:=m.z;have ay:=m.lt;obtain⟨k,A⟩:=nm ((b.alloc (.cells c.arr 85)).alloc (.cells zeroU.arr 85));have bx:k.heap.size=b.heap.size+1+1:=by rw[A];simp
 have y:Fr [e] b k:=by rw[A];exact((r0 _ _).alloc _).alloc _
 have ab:k.heap[b.heap.size]?=some (.cells c.arr 85):=by rw[A,dW]
 have be:k.heap[b.heap.size+1]?=some (.cells zeroU.arr 85):=by rw[A,cZ]
 have bq:=m.ways.lt;have s:∀a,Fr [e] k a->MapF a e (λ_=>none)->(λa:World=>cl a b.heap.size 0 c.id/\cl a b.heap.size 1 c.owner/\cl a b.heap.size 2 c.kind/\cl a b.heap.size 3 c.x/\cl a b.heap.size 4 c.y/\cl a b.heap.size 5 c.life/\cl a b.heap.size 6 c.load/\cl a b.heap.size 7 c.what/\cl a b.heap.size 8 c.tox/\cl a b.heap.size 9 c.toy/\cl a b.heap.size 10 c.target/\ca a i 150 (.map (some e))/\MapF a e (λ_=>none)/\Fr [e] k a) a:=by intro a w hm;have f:=w.heap ab qt;have bh:=((y.trans w qs).cell i 150 ay (by simp;exact m.n3)).trans m.c150;exact⟨aB f,aB f,aB f,aB f,aB f,aB f,aB f,aB f,aB f,aB f,aB f,bh,hm,w⟩
 have x:=λa (B:(λa:World=>a.cell? ⟨b.heap.size,0,none⟩=some (ii c.id)/\a.cell? ⟨b.heap.size,1,none⟩=some (ii c.owner)/\a.cell? ⟨b.heap.size,2,none⟩=some (ii c.kind)/\a.cell? ⟨b.heap.size,3,none⟩=some (ii c.x)/\a.cell? ⟨b.heap.size,4,none⟩=some (ii c.y)/\a.cell? ⟨b.heap.size,5,none⟩=some (ii c.life)/\a.cell? ⟨b.heap.size,6,none⟩=some (ii c.load)/\a.cell? ⟨b.heap.size,7,none⟩=some (ii c.what)/\a.cell? ⟨b.heap.size,8,none⟩=some (ii c.tox)/\a.cell? ⟨b.heap.size,9,none⟩=some (ii c.toy)/\a.cell? ⟨b.heap.size,10,none⟩=some (ii c.target)/\a.cell? ⟨i,150,none⟩=some (.map (some e))/\MapF a e (λ_=>none)/\Fr [e] k a) a)=>B.2.2.2.2.2.2.2.2.2.2.2.2.2;have R:=λa (B:(λa:World=>a.cell? ⟨b.heap.size,0,none⟩=some (ii c.id)/\a.cell? ⟨b.heap.size,1,none⟩=some (ii c.owner)/\a.cell? ⟨b.heap.size,2,none⟩=some (ii c.kind)/\a.cell? ⟨b.heap.size,3,none⟩=some (ii c.x)/\a.cell? ⟨b.heap.size,4,none⟩=some (ii c.y)/\a.cell? ⟨b.heap.size,5,none⟩=some (ii c.life)/\a.cell? ⟨b.heap.size,6,none⟩=some (ii c.load)/\a.cell? ⟨b.heap.size,7,none⟩=some (ii c.what)/\a.cell? ⟨b.heap.size,8,none⟩=some (ii c.tox)/\a.cell? ⟨b.heap.size,9,none⟩=some (ii c.toy)/\a.cell? ⟨b.heap.size,10,none⟩=some (ii c.target)/\a.cell? ⟨i,150,none⟩=some (.map (some e))/\MapF a e (λ_=>none)/\Fr [e] k a) a)=>B.2.2.2.2.2.2.2.2.2.2.2.2.1;have SD:=λa B=>bn.fr (y.trans (x a B) qs) qt;have ah:=λa B=>m.tv.fr (y.trans (x a B) qs) (by simp;exact m.n3) (by simp;exact m.n6);have HW:=aA A;have Q:(λa:World=>fM b.heap.size c a (ca a i 150 (.map (some e))/\MapF a e (λ_=>none)/\Fr [e] k a)) (((b.alloc (.cells c.arr 85)).alloc (.cells zeroU.arr 85)).drew):=by refine s _ ?_ (m.ways.fr ((((r0 [] b).alloc _).alloc _).drew) qs);rw[A];exact(r0 _ _).drew
 have ba:=aA m;have KF:=x _ Q;have KM:=R _ Q;clear A;have q1:¬(b.heap.size+1+1=e):=qo;obtain⟨d,hR⟩:=nn (dU (λt=>cR (bN n.held) n.bd t.1 t.2) H (c.x,c.y));have HR:=aA hR;rw[hR];clear hR
 delta Cs;go_in
 go_wp2
 go_cut [7] (fun s7 r=>∃h:Nat,s7=.pointer (so h)/\r.heap[h]?=some (.cells #[ii d.1,ii d.2] 159)/\b.heap.size+1<h/\Fr [e] k r/\MapF r e (fun _=>none))
 ·go_region_held (fun a:World=>fM b.heap.size c a (ca a i 150 (.map (some e))/\MapF a e (fun _=>none)/\Fr [e] k a))
   (first|exact Q|exact s _ E M|exact s _ (E.alloc _) (M.alloc _)|exact s _ ar au|exact s _ (ar.alloc _) (au.alloc _)|exact s _ (KF.alloc _) (KM.alloc _)|exact s _ ((E.setCell _ _ (.inr qt)).setCell _ _ (.inr qt)) ((M.setCell _ _ qt).setCell _ _ qt))
   (first|(go_at_call 192;refine(iH c _).mono ?_;rintro u X ⟨rfl,p⟩;obtain⟨br,bz⟩:=p.qC;have q2:¬(X.heap.size=e):=(by have:=p.size;simp at this;omega);have q4:=(by have:=p.size;simp at this;omega);(first|(have q3:b.heap.size+1+1<X.heap.size:=(by have:=p.size;simp at this;omega))|skip);have ar:=Fr.qT (x _ qb) p;have au:=MapF.fr (R _ qb) p qs)|(go_at_call 220;refine(step_any N Y aa H i j e (bN n.held) n.bd c.x c.y _ (SD _ qb) (ah _ qb) (R _ qb) qo m.n3 m.n6 bl bi (λI O P w ho=>az.o I O P ((y.trans (x _ qb) qs).trans w qs) ho)).mono ?_;rintro u w2 ⟨rfl,W,M⟩;rw[HR.o];obtain⟨bs,cb⟩:=W.cells1;have E:=Fr.trans (x _ qb) W qs))
  all_goals
   go_wp2_with fail
   go_meet
   refine⟨_,rfl,?_,?_,?_,?_⟩
   ·first
    |with_reducible exact aC _ _
    |with_reducible exact tS (W.heap (aC X _) qt) _ _
    |with_reducible exact tS (W.heap (p.qH (kO b _ _ _)) qt) _ _
   ·have:=E.size;omega
   ·first
    |with_reducible exact E.alloc _
    |with_reducible exact(E.setCell _ _ (.inr qt)).setCell _ _ (.inr qt)
   first
   |with_reducible exact M.alloc _
   |with_reducible exact(M.setCell _ _ qt).setCell _ _ qt
 obtain⟨h,rfl,am,bv,ae,av⟩:=hcut;have an:=y.trans ae qs;have g:=ba.o;have HM:=g.held.fr an (by simp;exact g.n6);have ac:Fr [j,e] k wc:=ae.mono qs;have bu:=g.held.lt;have D:∀a,Fr [j,e] k a->(λa:World=>a.cell? ⟨b.heap.size,0,none⟩=some (ii c.id)/\a.cell? ⟨b.heap.size,1,none⟩=some (ii c.owner)/\a.cell? ⟨b.heap.size,2,none⟩=some (ii c.kind)/\a.cell? ⟨b.heap.size,3,none⟩=some (ii c.x)/\a.cell? ⟨b.heap.size,4,none⟩=some (ii c.y)/\a.cell? ⟨b.heap.size,5,none⟩=some (ii c.life)/\a.cell? ⟨b.heap.size,6,none⟩=some (ii c.load)/\a.cell? ⟨b.heap.size,7,none⟩=some (ii c.what)/\a.cell? ⟨b.heap.size,8,none⟩=some (ii c.tox)/\a.cell? ⟨b.heap.size,9,none⟩=some (ii c.toy)/\a.cell? ⟨b.heap.size,10,none⟩=some (ii c.target)/\a.cell? ⟨i,149,none⟩=some (.map (some j))) a:=by intro a w;have f:=w.heap ab qt;have bg:=((y.mono (S':=[j,e]) qs).trans w qs).cell i 149 ay (by simp;exact⟨g.n2,g.n3⟩) |>.trans g.tv.c;exact⟨aB f,aB f,aB f,aB f,aB f,aB f,aB f,aB f,aB f,aB f,aB f,bg⟩
 have K2:=D wc.drew ac.drew;have ag:=HM.fr ((r0 [] wc).drew) qs;clear s x R SD ah Q KF KM m q1;go_wp2
 go_cut [] (fun r=>Fr [j,e] k r/\MapF r j (fun q=>if q=(c.x,c.y)then none else bN n.held q)/\MapF r e (fun _=>none)/\r.heap[h]?=some (.cells #[ii d.1,ii d.2] 159))
 ·go_region_held (fun a:World=>fM b.heap.size c a (ca a i 149 (.map (some j))))
   (first|exact K2|exact D _ ap|exact D _ aq)
   (first|(go_at_call 192;refine(iH c _).mono ?_;rintro u X ⟨rfl,p⟩;have ap:=ac.drew.qT p;obtain⟨wd,bt,bj,ad⟩:=vI (ag.fr p qs) 205 0 159 3 j9 c.x c.y;have aq:=ap.trans ad qs))
  all_goals
   go_wp2_with fail
   go_meet
   exact⟨aq,bj,(av.fr ((r0 [] wc).drew.qT p) qs).fr ad (by simp;exact λu=>g.n6 u.symm),ad.heap (p.qH (show wc.drew.heap[h]?=_ from am)) qt⟩
 obtain⟨L,Zr,aw,V⟩:=hcut;have af:=L.heap ab qt;have ax:=L.heap be qt;obtain⟨l,bo,bk,F,Zs⟩:=mV (Zr.fr ((r0 [] wc).drew) qs) 205 3 j9 d.1 d.2 (ii c.id);have Zq:=L.drew.trans F qs;have ai:=(D wc L).2.2.2.2.2.2.2.2.2.2.2;have K3:(λa:World=>ca a b.heap.size 0 (ii c.id)/\ca a h 0 (ii d.1)/\ca a h 1 (ii d.2)/\ca a i 149 (.map (some j))) wc.drew:=⟨aB (show wc.drew.heap[b.heap.size]?=_ from af),aB (show wc.drew.heap[h]?=_ from V),aB (show wc.drew.heap[h]?=_ from V),ai⟩;have J:=F.heap (show wc.drew.heap[h]?=_ from V) qt;have C:=F.heap (show wc.drew.heap[b.heap.size]?=_ from af) qt;have bm:=F.heap (show wc.drew.heap[b.heap.size+1]?=_ from ax) qt;have K4:(λa:World=>ca a b.heap.size 0 (ii c.id)/\ca a h 0 (ii d.1)/\ca a h 1 (ii d.2)/\ca a i 149 (.map (some j))) l:=⟨aB C,aB J,aB J,(D l Zq).2.2.2.2.2.2.2.2.2.2.2⟩;have bw:=(aw.fr ((r0 [] wc).drew) qs).fr F (by simp;exact λu=>g.n6 u.symm);clear D K2 HM ag an ac av am ae;go_wp2
 go_cut [] (fun r=>l=r)
 ·go_region_held (fun a:World=>ca a b.heap.size 0 (ii c.id)/\ca a h 0 (ii d.1)/\ca a h 1 (ii d.2)/\ca a i 149 (.map (some j)))
   (first|exact K3|exact K4)
   (fail)
  all_goals
   go_wp2_with fail
   go_meet
   rfl
 obtain rfl:=hcut;have t0:ca l h 0 (ii d.1):=aB J;have t1:ca l h 1 (ii d.2):=aB J;have v3:ca l b.heap.size 3 (ii c.x):=aB C;have v4:ca l b.heap.size 4 (ii c.y):=aB C;have z3:l.frozen? ⟨b.heap.size,3,none⟩=false:=aV C;have z4:l.frozen? ⟨b.heap.size,4,none⟩=false:=aV C;have d7:¬(h=b.heap.size):=qo;have bc:¬(b.heap.size=h):=qo;clear bo Zr aw V L K3 K4 ai af ax F;go_wp2
 go_region
 have bf:((l.setCell ⟨b.heap.size,3,none⟩ (ii d.1)).setCell ⟨b.heap.size,4,none⟩ (ii d.2)).drew.heap[b.heap.size]?=some (.cells (c.to d).arr 85):=NG C d.1 d.2;have ak:((l.setCell ⟨b.heap.size,3,none⟩ (ii d.1)).setCell ⟨b.heap.size,4,none⟩ (ii d.2)).drew.heap[b.heap.size+1]?=some (.cells zeroU.arr 85):=by
  show((l.setCell ⟨b.heap.size,3,none⟩ (ii d.1)).setCell ⟨b.heap.size,4,none⟩ (ii d.2)).heap[b.heap.size+1]?=_
  rw[Zz7 _ _ _ _ qs,Zz7 _ _ _ _ qs];omega
 clear t0 t1 v3 v4 z3 z4 C bm J d7 bc
 go_wp2_with (first|(refine wpList_load_row rfl 85 _ rfl b.heap.size rfl 85 (c.to d).arr (0,0) _ bf Q3 rfl aS ?_)|(refine wpList_store_row rfl 85 _ _ rfl (b.heap.size+1) (c.to d).arr rfl rfl 85 _ ak aS rfl (U.one _) ?_))
 have bp:=(y.mono (S':=[j,e]) qs).trans Zq qs;have ao:Fr [b.heap.size,b.heap.size+1] l ((((l.setCell ⟨b.heap.size,3,none⟩ (ii d.1)).setCell ⟨b.heap.size,4,none⟩ (ii d.2)).drew).setRow (b.heap.size+1) (c.to d).arr) :=
  ((((r0 _ _).setCell _ _ qs).setCell _ _ qs).drew).setRow _ _ qs
 have S:=bp.trans ao qs;refine Zq8 (v:=(c.to d).val) (Zz8 results202 _ _ (b.heap.size+1) 85 (c.to d).arr (0,0) _ rfl (Qz4 _ _ _ (c.to d).arr _ _ ak) Q3 rfl aS) rfl ⟨rfl,S,?_⟩;refine{g with cell:=?_,fz:=?_,row:=?_,held:=?_,ways:=?_}
 ·intro q hk;rw[S.cell i q g.lt (by simp;exact⟨g.n2,g.n3⟩)];exact g.cell q hk
 ·intro q;rw[S.frozen i q g.lt (by simp;exact⟨g.n2,g.n3⟩)];exact g.fz q
 ·exact g.row.fr S (by simp;exact⟨g.n4,g.n5⟩)
 ·have:=bk.fr ao qt;have he:(λq=>if q=(d.1,d.2)then some (ii c.id)else if q=(c.x,c.y)then none else bN n.held q)=bN (n.qM c d).held:=by grind
  grind
 grind[MapF.fr]
theorem vZ(i k j h g:Nat)(c:T)(b:U)(d e:Int)(f:World)(l:TS f i k j h g c)(m:Sd f)(t:aE b.x b.y=true)(r:aE d e=true):Cs 202 #[pt i,b.val,.func (.func 206) #[cv d e] #[]] f λp n=> p=.returned (b.to (dU (λa=>cR (bN c.held) c.bd a.1 a.2) (λa=>bJ d e a.1 a.2) (b.x,b.y))).val/\Fr [h,g] f n/\TS n i k j h g (c.qM b (dU (λa=>cR (bN c.held) c.bd a.1 a.2) (λa=>bJ d e a.1 a.2) (b.x,b.y))):=by have w:=l.z;refine goG_any _ _ _ _ i k j h g c b f l m t qa (λo u v q s=>?_);obtain⟨C,D,E,F⟩:=bX.1 s;obtain⟨x,y,A,B⟩:=bX.1 r;simpa using pP d e u v o (m.fr q qg) qo qo qo qo qo qo qo qo
theorem WH(j l k i e f:Nat)(c:T)(b:U)(g h:Int)(d:World)(p:TS d j l k i e c)(r:Sd d)(q:aE b.x b.y=true)(v:d.cell? ⟨f,0,none⟩=some (ii g))(w:d.cell? ⟨f,1,none⟩=some (ii h))(x:f≠e):Cs 202 #[pt j,b.val,.func (.func 203) #[] #[pt f]] d λo m=> o=.returned (b.to (dU (λa=>cR (bN c.held) c.bd a.1 a.2) (λa=>a.1==g&&a.2==h) (b.x,b.y))).val/\Fr [i,e] d m/\TS m j l k i e (c.qM b (dU (λa=>cR (bN c.held) c.bd a.1 a.2) (λa=>a.1==g&&a.2==h) (b.x,b.y))):=
 goG_any _ _ _ _ j l k i e c b d p r q qa (λn s t u _=>by simpa using FG s t g h f n (by grind[Fr.cell,aI]) (by grind[Fr.cell,aI]))
