import Derived.Test.YtapabahhfanmmaaGreatDoorCInv3
namespace Go.Proofs.YtapabahhfanmmaaGreatDoor
open Go.RowKit List
def eN (a f:Cl):Nat:=(aG a.1 a.2).idxOf f
structure OrdF (free:Cl->Bool) (a:Cl) (s:Bs) (lv:Cl->Nat):Prop where
 mono2:∀ (j k:Nat) (c d f e:Cl),j<=k->s.q[j]?=some c->s.q[k]?=some d->lv c=lv d->s.g c=some f->s.g d=some e->eN a f<=eN a e
 min:∀ (c f:Cl),s.g c=some f->∀ (f':Cl) (k:Nat),lv c=k+1->f'∈aG a.1 a.2->free f'=true->Path free f' k c->eN a f<=eN a f'
theorem Lev.seen {free ends:Cl->Bool}{a:Cl}{s:Bs}{d:Cl->Nat}{m:Nat}(h:Lev free ends a s d m){c:Cl}(b:c∈s.q)(i:0 < d c):∃ f,s.g c=some f:=by
 obtain ⟨l,b1,_,_,e⟩:=h.inv
 rw [b1] at b
 rcases mem_cons.1 b with rfl|hl
 ·rw [h.a0] at i;omega
 exact Option.isSome_iff_exists.1 ((e c).2 hl)
theorem Lev.got {free ends:Cl->Bool}{a:Cl}{s:Bs}{e:Cl->Nat}{m:Nat}(h:Lev free ends a s e m){c f:Cl}(d:s.g c=some f):c∈s.q:=by
 obtain ⟨l,b1,_,_,b⟩:=h.inv
 rw [b1]
 exact mem_cons_of_mem _ ((b c).1 (by rw [d];rfl))
theorem xF {free ends:Cl->Bool} {a:Cl} {i:Nat} {cur:Cl} {s:Bs} {b:Cl->Nat} (h:Lev free ends a s b (b cur)) (ho:OrdF free a s b) (hi:s.q[i]?=some cur)
  (e:∀ j c,j < i->s.q[j]?=some c->∀ n∈aG c.1 c.2,free n=true->n∈s.q/\b n<=b c+1) {f:Cl} (A:s.g cur=some f) {n f':Cl} (w:n∉s.q) (k:f'∈aG a.1 a.2) (l:free f'=true) (o:Path free f' (b cur) n):eN a f<=eN a f':=by
 obtain ⟨_,_,B,v,_⟩:=h.fst cur f A
 rw [v] at o
 obtain ⟨p,o,hn,r⟩:=o
 have x:=Path.cons k l o
 rcases lC h e x with ⟨h1,z⟩|⟨j,d,h1,z,E⟩
 ·obtain ⟨j,t⟩:=getElem?_of_mem h1
  by_cases u:j < i
  ·exact absurd (e j p u t n hn r).1 w
  have hm:=h.mono i j cur p (by omega) hi t
  obtain ⟨y,m⟩:=h.seen h1 (by omega)
  have C:=ho.mono2 i j cur p f y (by omega) hi t (by omega) A m
  have D:=ho.min p y m f' B (by omega) k l o
  omega
 have:=h.mono i j cur d h1 hi z
 omega
theorem DM {free ends:Cl->Bool}{i:Nat}{cur n:Cl}{ns:List Cl}{s:Bs}:bF free ends i cur (n :: ns) s=match bF free ends i cur [n] s with|.inl f=>.inl f|.inr s'=>bF free ends i cur ns s':=by
 simp only [bF]
 split
 ·rfl
 split <;> rfl
theorem vZ {l a ns:List Cl}{n:Cl}(h:l=a ++ n :: ns)(hn:n∉a):l.idxOf n=a.length:=by
 rw [h,idxOf_append,if_neg hn]
 simp
theorem JF {l a ns:List Cl}{n:Cl}(h:l=a ++ ns)(hn:n∈a):l.idxOf n < a.length:=by
 rw [h,idxOf_append,if_pos hn]
 exact idxOf_lt_length_of_mem hn
theorem JE {l a ns:List Cl}{n:Cl}(h:l=a ++ ns)(hn:n∉a):a.length<=l.idxOf n:=by
 rw [h,idxOf_append,if_neg hn]
 omega
theorem pV {free ends:Cl->Bool}{a:Cl}{i:Nat}{cur:Cl}(Q:free a=false):∀ (ns:List Cl) (s:Bs) (p:Cl->Nat),Lev free ends a s p (p cur)->OrdF free a s p->s.q[i]?=some cur->(∀ n∈ns,n∈aG cur.1 cur.2) ->
  (∀ j c,j < i->s.q[j]?=some c->∀ n∈aG c.1 c.2,free n=true->n∈s.q/\p n<=p c+1) ->
  (i=0->∃ b,aG a.1 a.2=b ++ ns/\(∀ d f,s.g d=some f->f∈b)/\∀ n∈b,free n=true->(s.g n).isSome=true) ->
  (0 < i->∀ d f,s.g d=some f->p d=p cur+1->eN a f<=eN a ((s.g cur).getD (0,0))) ->
  (∀ f,bF free ends i cur ns s=.inl f->∀ f' n',f'∈aG a.1 a.2->free f'=true->ends n'=true->Path free f' (p cur) n'->eN a f<=eN a f') /\
  (∀ s',bF free ends i cur ns s=.inr s'->∃ t,Lev free ends a s' t (p cur)/\OrdF free a s' t/\(∀ c∈s.q,t c=p c)/\(∃ m,s'.q=s.q ++ m)/\(∀ n∈ns,free n=true->n∈s'.q/\t n<=p cur+1)/\(0 < i->s'.g cur=s.g cur/\∀ d f,s'.g d=some f->t d=p cur+1->eN a f<=eN a ((s.g cur).getD (0,0))))
 | [],s,p,h,ho,_,_,_,_,I=>by
  unfold bF
  refine ⟨fun f h=>(by cases h),fun s' hs=>?_⟩
  cases hs
  exact ⟨p,h,ho,fun _ _=>rfl,⟨[],by simp⟩,fun n hn=>absurd hn (by simp),fun R=>⟨rfl,I R⟩⟩
 | n :: ns,s,p,h,ho,hi,ab,D,w,I=>by
  obtain ⟨l,b1,b2,b3,b4⟩:=h.inv
  have W:cur∈s.q:=mem_of_getElem? hi
  have ac:i=0->cur=a:=fun e=>by subst e;rw [b1] at hi;simpa using hi.symm
  have ad:0 < i->∃ f,s.g cur=some f:=fun r=>by
   have hl:cur∈l:=by
    rw [b1] at hi
    obtain ⟨j,rfl⟩:∃ j,i=j+1:=⟨i - 1,by omega⟩
    exact mem_of_getElem? (by simpa using hi)
   exact Option.isSome_iff_exists.1 ((b4 cur).2 hl)
  by_cases z:((s.g n).isSome || !free n)=true
  ·have e:bF free ends i cur (n :: ns) s=bF free ends i cur ns s:=by rw [bF,if_pos z]
   rw [e]
   obtain ⟨S,V⟩:=pV Q (i:=i) ns s p h ho hi (fun m hm=>ab m (by simp [hm])) D (fun r=>by
    obtain ⟨b,A,p2,N⟩:=w r
    refine ⟨b ++ [n],by rw [A];simp,fun d f u=>mem_append_left _ (p2 d f u),fun m hm L=>?_⟩
    rcases mem_append.1 hm with hm|hm
    ·exact N m hm L
    have:m=n:=by simpa using hm
    subst this
    rw [L] at z
    simpa using z) I
   refine ⟨S,fun s' hs=>?_⟩
   obtain ⟨t,q1,q2,q3,q4,q5,q6⟩:=V s' hs
   refine ⟨t,q1,q2,q3,q4,fun m hm L=>?_,q6⟩
   rcases mem_cons.1 hm with rfl|hm
   ·have hs:(s.g m).isSome=true:=by
     rw [L] at z
     simpa using z
    have hq:m∈s.q:=by rw [b1];exact mem_cons_of_mem _ ((b4 m).1 hs)
    obtain ⟨x,hx⟩:=q4
    exact ⟨by rw [hx];exact mem_append_left _ hq,by rw [q3 m hq];exact h.top m hq⟩
   exact q5 m hm L
  have L:free n=true:=by
   cases h:free n with
   | true=>rfl
   | false=>simp [h] at z
  have hg:(s.g n).isSome=false:=by
   cases h:(s.g n).isSome with
   | false=>rfl
   | true=>simp [h] at z
  have ar:n∉l:=fun hl=>by have:=(b4 n).2 hl;rw [hg] at this;cases this
  have aq:n≠a:=fun e=>by rw [e,Q] at L;cases L
  have J:n∉s.q:=by rw [b1];simp;exact ⟨aq,ar⟩
  have aj:∀ b:List Cl,(∀ n∈b,free n=true->(s.g n).isSome=true)->n∉b:=fun b N hm=>by
   have:=N n hm L
   rw [hg] at this
   cases this
  by_cases he:ends n=true
  ·have e:bF free ends i cur (n :: ns) s=.inl (if 0 < i then (s.g cur).getD (0,0) else n):=by rw [bF,if_neg z,if_pos he]
   rw [e]
   refine ⟨fun f hh=>?_,fun s' hh=>(by cases hh)⟩
   cases hh
   intro f' n' P F ai Y
   have X:n'∉s.q:=fun hm=>by rw [h.noend n' hm] at ai;cases ai
   by_cases r:0 < i
   ·rw [if_pos r]
    obtain ⟨fc,E⟩:=ad r
    rw [E]
    exact xF h ho hi D E X P F Y
   rw [if_neg r]
   have R:i=0:=by omega
   have al:=ac R
   rw [al,h.a0] at Y
   cases Y
   obtain ⟨b,A,p2,N⟩:=w R
   have e1:=vZ A (aj b N)
   have e2:f'∉b:=fun hm=>by
    obtain ⟨g,am⟩:=Option.isSome_iff_exists.1 (N f' hm F)
    exact X (h.got am)
   have e3:=JE A e2
   unfold eN
   omega
  have ak:bF free ends i cur [n] s=.inr ⟨s.q ++ [n],fun k=>if k=n then some (if 0 < i then (s.g cur).getD (0,0) else n) else s.g k⟩:=by simp only [bF];rw [if_neg z,if_neg he]
  have e:bF free ends i cur (n :: ns) s=bF free ends i cur ns ⟨s.q ++ [n],fun k=>if k=n then some (if 0 < i then (s.g cur).getD (0,0) else n) else s.g k⟩:=by rw [DM,ak]
  obtain ⟨K,L1,l2,_,l4⟩:=(lY Q (i:=i) (cur:=cur) [n] s p h hi (fun m hm=>(by simpa using hm:m=n) ▸ ab n (by simp))).2 _ ak
  rw [e]
  have af:i < s.q.length:=(gs.1 hi).1
  have ec:K cur=p cur:=l2 cur W
  have en:K n=p cur+1:=by
   have h1:=(l4 n (by simp) L).2
   have h2:=L1.path n (by simp)
   rcases Nat.lt_or_ge (p cur) (K n) with h3|h3
   ·omega
   rcases lC h D h2 with ⟨h4,_⟩|⟨j,d,h4,h5,h6⟩
   ·exact absurd h4 J
   have:=h.mono i j cur d h4 hi h5
   omega
  have y:∀ d f,d≠n->(if d=n then some (if 0 < i then (s.g cur).getD (0,0) else n) else s.g d)=some f->s.g d=some f:=fun d f u hh=>by rwa [if_neg u] at hh
  have aa:∀ d f,s.g d=some f->p d=p cur+1->eN a f<=eN a (if 0 < i then (s.g cur).getD (0,0) else n):=fun d f u hl=>by
   by_cases r:0 < i
   ·rw [if_pos r];exact I r d f u hl
   rw [if_neg r]
   obtain ⟨b,A,p2,N⟩:=w (by omega)
   have e1:=vZ A (aj b N)
   have e2:=JF A (p2 d f u)
   unfold eN
   omega
  have O1:OrdF free a ⟨s.q ++ [n],fun k=>if k=n then some (if 0 < i then (s.g cur).getD (0,0) else n) else s.g k⟩ K:=by
   refine ⟨?_,?_⟩
   ·intro j k c d f e' an hj M ag o O
    dsimp only at hj M o O
    by_cases ap:k < s.q.length
    ·rw [getElem?_append_left ap] at M
     rw [getElem?_append_left (by omega)] at hj
     have m1:=mem_of_getElem? hj
     have m2:=mem_of_getElem? M
     exact ho.mono2 j k c d f e' an hj M (by rw [<- l2 c m1,<- l2 d m2];exact ag) (y c f (fun e=>J (e ▸ m1)) o) (y d e' (fun e=>J (e ▸ m2)) O)
    rw [getElem?_append_right (by omega)] at M
    have u:d=n:=by
     have:=mem_of_getElem? M
     simpa using this
    subst u
    rw [if_pos rfl] at O
    cases O
    by_cases v:c=d
    ·subst v
     rw [if_pos rfl] at o
     cases o
     exact Nat.le_refl _
    have B:=y c f v o
    have m1:=h.got B
    exact aa c f B (by rw [<- l2 c m1,ag,en])
   intro c f o f' k M P F Y
   dsimp only at o
   by_cases v:c=n
   ·subst v
    rw [if_pos rfl] at o
    cases o
    have ao:k=p cur:=by omega
    subst ao
    by_cases r:0 < i
    ·rw [if_pos r]
     obtain ⟨fc,E⟩:=ad r
     rw [E]
     exact xF h ho hi D E J P F Y
    rw [if_neg r]
    rw [ac (by omega),h.a0] at Y
    cases Y
    exact Nat.le_refl _
   have B:=y c f v o
   exact ho.min c f B f' k (by rw [<- l2 c (h.got B)];exact M) P F Y
  have Zq:∀ k,k≠n->(fun k=>if k=n then some (if 0 < i then (s.g cur).getD (0,0) else n) else s.g k) k=s.g k:=fun k M=>by dsimp only;rw [if_neg M]
  have v:cur≠n:=fun e=>J (e ▸ W)
  obtain ⟨S,V⟩:=pV Q (i:=i) (cur:=cur) ns _ K (by rw [ec];exact L1) O1 (by dsimp only;rw [getElem?_append_left af];exact hi) (fun m hm=>ab m (by simp [hm]))
   (fun j c hj o m hm H=>by
    dsimp only at o |-
    rw [getElem?_append_left (by omega)] at o
    obtain ⟨A,p2⟩:=D j c hj o m hm H
    exact ⟨mem_append_left _ A,by rw [l2 m A,l2 c (mem_of_getElem? o)];exact p2⟩)
   (fun r=>by
    obtain ⟨b,A,p2,N⟩:=w r
    refine ⟨b ++ [n],by rw [A];simp,fun d f u=>?_,fun m hm H=>?_⟩
    ·dsimp only at u
     by_cases C:d=n
     ·rw [if_pos C,if_neg (by omega)] at u
      cases u
      simp
     exact mem_append_left _ (p2 d f (y d f C u))
    dsimp only
    rcases mem_append.1 hm with hm|hm
    ·by_cases ah:m=n
     ·rw [if_pos ah];rfl
     rw [if_neg ah];exact N m hm H
    have:m=n:=by simpa using hm
    rw [if_pos this];rfl)
   (fun r d f u hl=>by
    dsimp only at u |-
    rw [if_neg v]
    by_cases C:d=n
    ·rw [if_pos C,if_pos r] at u
     cases u
     exact Nat.le_refl _
    have ae:=y d f C u
    exact I r d f ae (by rw [<- l2 d (h.got ae),<- ec];exact hl))
  rw [ec] at S V
  refine ⟨S,fun s' hs=>?_⟩
  obtain ⟨t,q1,q2,q3,⟨x,hx⟩,q5,q6⟩:=V s' hs
  dsimp only at q3 hx q6
  rw [if_neg v] at q6
  refine ⟨t,q1,q2,fun c z=>by rw [q3 c (mem_append_left _ z),l2 c z],⟨n :: x,by rw [hx];simp⟩,fun m hm H=>?_,q6⟩
  rcases mem_cons.1 hm with rfl|hm
  ·exact ⟨by rw [hx];simp,by rw [q3 m (by simp),en];exact Nat.le_refl _⟩
  exact q5 m hm H
def sU (free ends:Cl->Bool)(a r:Cl):Prop:=r≠a->∀ k n,ends n=true->Path free r k n->(∀ j m,ends m=true->Path free a j m->k+1<=j)->∀ f' b,f'∈aG a.1 a.2->free f'=true->ends b=true->Path free f' k b->eN a r<=eN a f'
theorem tR {free ends:Cl->Bool}{a:Cl}(z:free a=false):∀ (fuel i:Nat) (s:Bs) (b:Cl->Nat) (m:Nat),Lev free ends a s b m->OrdF free a s b->(∀ c,s.q[i]?=some c->m<=b c) ->
  (∀ j c,j < i->s.q[j]?=some c->∀ n∈aG c.1 c.2,free n=true->n∈s.q/\b n<=b c+1)->(i=0->∀ d,s.g d=none) ->
  (0 < i->∀ c v,s.q[i]?=some c->s.g c=some v->∀ d f,s.g d=some f->b d=b c+1->eN a f<=eN a v)->sU free ends a (cY free ends a fuel i s)
 | 0,i,s,b,m,h,_,_,_,_,_=>by
  unfold cY
  exact fun A=>absurd rfl A
 | fuel+1,i,s,b,m,h,ho,hm,y,O,Q=>by
  unfold cY
  cases p:s.q[i]? with
  | none=>exact fun A=>absurd rfl A
  | some cur =>
   dsimp only
   obtain ⟨l,b1,b2,b3,b4⟩:=h.inv
   have h':Lev free ends a s b (b cur):={ h with top:=fun c t=>Nat.le_trans (h.top c t) (by have:=hm cur p;omega) }
   have o:cur∈s.q:=mem_of_getElem? p
   have P:=(gs.1 p).1
   have E:i=0->cur=a:=fun e=>by subst e;rw [b1] at p;simpa using p.symm
   have F:0 < i->∃ f,s.g cur=some f:=fun r=>by
    have hl:cur∈l:=by
     rw [b1] at p
     obtain ⟨j,rfl⟩:∃ j,i=j+1:=⟨i - 1,by omega⟩
     exact mem_of_getElem? (by simpa using p)
    exact Option.isSome_iff_exists.1 ((b4 cur).2 hl)
   obtain ⟨r1,r2⟩:=pV z (i:=i) (cur:=cur) (aG cur.1 cur.2) s b h' ho p (fun _ hn=>hn) y
    (fun r=>⟨[],by rw [E r];rfl,fun d f w=>(by rw [O r d] at w;cases w),fun n hn=>absurd hn (by simp)⟩)
    (fun r d f w hl=>by
     obtain ⟨v,u⟩:=F r
     rw [u]
     exact Q r cur v p u d f w hl)
   cases V:bF free ends i cur (aG cur.1 cur.2) s with
   | inl f =>
    dsimp only
    obtain ⟨g1,g2,n,g3,g4⟩:=(lY z (i:=i) (cur:=cur) (aG cur.1 cur.2) s b h' p (fun _ hn=>hn)).1 f V
    intro _ k n1 J S I f' n' L N R hp
    have K:=I _ n g3 (Path.cons g1 g2 g4)
    have Y:b cur<=k:=by
     rcases lC h y (Path.cons g1 g2 S) with ⟨h1,_⟩|⟨j,d,h1,h2,h3⟩
     ·rw [h.noend n1 h1] at J;cases J
     have:=h.mono i j cur d h1 p h2
     omega
    have e3:k=b cur:=by omega
    subst e3
    exact r1 f V f' n' L N R hp
   | inr s' =>
    dsimp only
    obtain ⟨W,C,q2,D,⟨x,hx⟩,q5,q6⟩:=r2 s' V
    have B:s'.q[i]?=some cur:=by rw [hx,getElem?_append_left P];exact p
    refine tR z fuel (i+1) s' W (b cur) C q2 (fun c t=>?_) ?_ (fun r=>absurd r (by omega)) (fun _ c v t u d f w hl=>?_)
    ·have:=C.mono i (i+1) cur c (by omega) B t
     rw [D cur o] at this
     exact this
    ·intro j c hj t n hn hf
     rw [hx,getElem?_append_left (by omega)] at t
     by_cases e:j=i
     ·subst e
      rw [p] at t
      cases t
      rw [D cur o]
      exact q5 n hn hf
     obtain ⟨p1,p2⟩:=y j c (by omega) t n hn hf
     rw [D c (mem_of_getElem? t),D n p1]
     exact ⟨by rw [hx];exact mem_append_left _ p1,p2⟩
    have m1:=C.mono i (i+1) cur c (by omega) B t
    rw [D cur o] at m1
    have m2:=C.top d (C.got w)
    obtain ⟨_,_,kc,aa,_⟩:=C.fst c v u
    have H:0 < i:=by
     rcases Nat.eq_zero_or_pos i with r|r
     ·have:=E r
      rw [this,h.a0] at m1 m2
      omega
     exact r
    obtain ⟨K,Y⟩:=q6 H
    obtain ⟨f0,M⟩:=F H
    have X:=Y d f w (by omega)
    rw [M] at X K
    have a2:=q2.mono2 i (i+1) cur c f0 v (by omega) B t (by rw [D cur o];omega) K u
    exact Nat.le_trans X a2
theorem DS {free ends:Cl->Bool}{a:Cl}(i:free a=false)(g:ends a=false):sU free ends a (cQ free ends a):=by
 unfold cQ
 refine tR i 146 0 _ (fun _=>0) 0 ⟨BInv.start a,rfl,?_,?_,?_,?_,?_,?_⟩ ⟨?_,?_⟩ (fun _ _=>Nat.le_refl _) (fun j _ l=>by omega) (fun _ _=>rfl) (fun h=>by omega)
 ·intro c b;simp at b;subst b;exact .nil
 ·intro c f h;cases h
 ·intro c b;simp at b;subst b;exact g
 ·intro j k c d _ _ _;exact Nat.le_refl _
 ·intro c _;omega
 ·intro j c _;omega
 ·intro j k c d f e _ _ _ _ h;cases h
 intro c f h;cases h
end Go.Proofs.YtapabahhfanmmaaGreatDoor
namespace Go.Proofs.YtapabahhfanmmaaGreatDoor
open Go.RowKit Classical List
theorem xI {a b:Cl}(h:aD a.1 a.2=true)(c:b∈aG a.1 a.2):a∈aG b.1 b.2:=by
 unfold aG sds at c |-
 obtain ⟨d,e⟩:=a
 obtain ⟨b1,f⟩:=b
 simp only [map_cons,map_nil,mem_filter,mem_cons,Prod.mk.injEq,not_mem_nil,or_false] at c |-
 refine ⟨?_,h⟩
 omega
theorem Path.uncons {free:Cl->Bool}{a:Cl}{k:Nat}{c:Cl}(h:Path free a k c):∀ j,k=j+1->∃ p,p∈aG a.1 a.2/\free p=true/\Path free p j c:=by
 induction h using Path.ind with
 | nil=>intro j g;omega
 | snoc l hn d m =>
  rename_i k c n
  intro j g
  have b:k=j:=by omega
  subst b
  cases k with
  | zero =>
   cases l
   exact ⟨n,hn,d,.nil⟩
  | succ i =>
   obtain ⟨p,h1,e,f⟩:=m i rfl
   exact ⟨p,h1,e,.snoc f hn d⟩
def eH (free ends:Cl->Bool)(k:Nat)(c:Cl):Prop:=free c=true/\∃ n,ends n=true/\Path free c k n
theorem BO {free ends:Cl->Bool}{c:Cl}:eH free ends 0 c↔free c=true/\ends c=true:=by
 constructor
 ·rintro ⟨h1,n,a,b⟩
  cases b
  exact ⟨h1,a⟩
 rintro ⟨h1,a⟩
 exact ⟨h1,c,a,.nil⟩
theorem sO {free ends:Cl->Bool}{k:Nat}{c:Cl}(a:∀ x:Cl,free x=true->aD x.1 x.2=true):eH free ends (k+1) c↔free c=true/\∃ q,eH free ends k q/\c∈aG q.1 q.2:=by
 constructor
 ·rintro ⟨h1,n,b,e⟩
  obtain ⟨p,f,g,h⟩:=e.uncons k rfl
  exact ⟨h1,p,⟨g,n,b,h⟩,xI (a c h1) f⟩
 rintro ⟨h1,q,⟨d,n,i,j⟩,b⟩
 exact ⟨h1,n,i,Path.cons (xI (a q d) b) d j⟩
def bJ [∀ p:Prop,Decidable p] (P:Nat->Cl->Prop):Nat->Cl->Nat
 | 0,_=>0
 | n+1,c=>if bJ P n c≠0 then bJ P n c else if P n c then n+1 else 0
theorem lD {P:Nat->Cl->Prop}:∀ {n:Nat} {c:Cl},bJ P n c=0↔∀ m,m < n->¬ P m c
 | 0,c=>by simp [bJ]
 | n+1,c=>by
  have d:=@lD P n c
  unfold bJ
  constructor
  ·intro h m hm b
   split at h
   ·rename_i h1;exact h1 h
   rename_i h1
   have a:bJ P n c=0:=by omega
   split at h
   ·omega
   rename_i f
   by_cases e:m=n
   ·subst e;exact f b
   exact d.1 a m (by omega) b
  intro h
  have a:bJ P n c=0:=d.2 (fun m hm=>h m (by omega))
  rw [if_neg (by omega),if_neg (h n (by omega))]
theorem iB {P:Nat->Cl->Prop}:∀ {n:Nat} {c:Cl} {k:Nat},bJ P n c=k+1↔k < n/\P k c/\∀ m,m < k->¬ P m c
 | 0,c,k=>by simp [bJ]
 | n+1,c,k=>by
  have d:=@iB P n c k
  have hz:=@lD P n c
  unfold bJ
  constructor
  ·intro h
   split at h
   ·obtain ⟨h1,a,b⟩:=d.1 h
    exact ⟨by omega,a,b⟩
   rename_i h1
   split at h
   ·rename_i a
    have:k=n:=by omega
    subst this
    exact ⟨by omega,a,hz.1 (by omega)⟩
   omega
  rintro ⟨h1,a,b⟩
  by_cases e:k < n
  ·have:=d.2 ⟨e,a,b⟩
   rw [if_pos (by omega),this]
  have:k=n:=by omega
  subst this
  rw [if_neg (by have:=hz.2 b;omega),if_pos a]
theorem rE {P:Nat->Cl->Prop}(n:Nat)(c:Cl):bJ P n c<=n:=by
 cases h:bJ P n c with
 | zero=>omega
 | succ k=>have:=iB.1 h;omega
theorem wV {free:Cl->Bool}{P:Nat->Cl->Prop}(hs:∀ k c,P (k+1) c↔free c=true/\∃ q,P k q/\c∈aG q.1 q.2){n:Nat}(hn:0 < n){c:Cl}(h:bJ P n c=0):bJ P (n+1) c=n+1↔free c=true/\∃ q,bJ P n q=n/\c∈aG q.1 q.2:=by
 obtain ⟨m,rfl⟩:∃ m,n=m+1:=⟨n - 1,by omega⟩
 have hz:=lD.1 h
 constructor
 ·intro h1
  obtain ⟨_,e,_⟩:=iB.1 h1
  obtain ⟨a,q,b,hm⟩:=(hs m c).1 e
  refine ⟨a,q,?_,hm⟩
  apply iB.2
  exact ⟨by omega,b,fun i hi d=>hz (i+1) (by omega) ((hs i c).2 ⟨a,q,d,hm⟩)⟩
 rintro ⟨a,q,d,hm⟩
 obtain ⟨_,b,_⟩:=iB.1 d
 apply iB.2
 exact ⟨by omega,(hs m c).2 ⟨a,q,b,hm⟩,hz⟩
theorem wT {P:Nat->Cl->Prop}{n:Nat}{c:Cl}(h:bJ P n c≠0):bJ P (n+1) c=bJ P n c:=by
  rw [bJ,if_pos h]
theorem wU {P:Nat->Cl->Prop}{n:Nat}{c:Cl}(h:bJ P n c=0)(h1:bJ P (n+1) c≠n+1):bJ P (n+1) c=0:=by
 cases e:bJ P (n+1) c with
 | zero=>rfl
 | succ k =>
  obtain ⟨d,b,_⟩:=iB.1 e
  by_cases a:k=n
  ·subst a;exact absurd e h1
  exact absurd b (lD.1 h k (by omega))
def bC [∀ p:Prop,Decidable p] (free:Cl->Bool)(P:Nat->Cl->Prop)(n p:Nat)(ns:List Cl)(c:Cl):Nat :=
  if bJ P n c≠0 then bJ P n c else if free c=true/\(c∈ns\/∃ q,ci q.1 q.2 < p/\aD q.1 q.2=true/\bJ P n q=n/\c∈aG q.1 q.2) then n+1 else 0
theorem mK {free:Cl->Bool}{P:Nat->Cl->Prop}(n:Nat)(c:Cl):bC free P n 0 [] c=bJ P n c:=by
 unfold bC
 split
 ·rfl
 rename_i h
 rw [if_neg (by rintro ⟨_,h1|⟨q,h1,_⟩⟩ <;> simp at h1)]
 omega
theorem oF {free:Cl->Bool}{P:Nat->Cl->Prop}(hs:∀ k c,P (k+1) c↔free c=true/\∃ q,P k q/\c∈aG q.1 q.2)(g:∀ k c,P k c->aD c.1 c.2=true){n:Nat}(hn:0 < n)(c:Cl):bC free P n 144 [] c=bJ P (n+1) c:=by
 unfold bC
 split
 ·rename_i h
  rw [wT h]
 rename_i h
 have d:bJ P n c=0:=by omega
 split
 ·rename_i h1
  obtain ⟨f,h1|⟨q,_,_,b,hm⟩⟩:=h1
  ·simp at h1
  exact ((wV hs hn d).2 ⟨f,q,b,hm⟩).symm
 rename_i h1
 refine (wU d (fun e=>?_)).symm
 obtain ⟨f,q,b,hm⟩:=(wV hs hn d).1 e
 obtain ⟨m,rfl⟩:∃ m,n=m+1:=⟨n - 1,by omega⟩
 have a:=g _ _ (iB.1 b).2.1
 exact h1 ⟨f,.inr ⟨q,eK a,a,b,hm⟩⟩
theorem LC {free:Cl->Bool}{P:Nat->Cl->Prop}{n:Nat}(hn:0 < n)(p:Nat)(ns:List Cl)(c:Cl):bC free P n p ns c=n↔bJ P n c=n:=by
 unfold bC
 constructor
 ·intro h
  split at h
  ·exact h
  split at h <;> omega
 intro h
 rw [if_pos (by omega),h]
theorem LE {free:Cl->Bool}{P:Nat->Cl->Prop}{n p:Nat}{ns:List Cl}(q c:Cl):bC free P n p (ns ++ [q]) c=if c=q/\free q=true/\bC free P n p ns q=0 then n+1 else bC free P n p ns c:=by
 by_cases d:c=q/\free q=true/\bC free P n p ns q=0
 ·rw [if_pos d]
  obtain ⟨rfl,h1,a⟩:=d
  unfold bC at a |-
  by_cases b:bJ P n c≠0
  ·rw [if_pos b] at a
   exact absurd a b
  rw [if_neg b,if_pos ⟨h1,.inl (by simp)⟩]
 rw [if_neg d]
 unfold bC at d |-
 by_cases b:bJ P n c≠0
 ·rw [if_pos b,if_pos b]
 rw [if_neg b,if_neg b]
 by_cases h1:free c=true/\(c∈ns\/∃ q,ci q.1 q.2 < p/\aD q.1 q.2=true/\bJ P n q=n/\c∈aG q.1 q.2)
 ·rw [if_pos h1,if_pos ⟨h1.1,h1.2.imp (fun h=>mem_append_left _ h) id⟩]
 rw [if_neg h1,if_neg]
 rintro ⟨e,a|a⟩
 ·rcases mem_append.1 a with a|a
  ·exact h1 ⟨e,.inl a⟩
  have:c=q:=by simpa using a
  subst this
  refine d ⟨rfl,e,?_⟩
  rw [if_neg b,if_neg h1]
 exact h1 ⟨e,.inr a⟩
theorem wW {free:Cl->Bool}{P:Nat->Cl->Prop}{n:Nat}{p:Nat}{q:Cl}(j:aD q.1 q.2=true)(k:ci q.1 q.2=p)(b:∀ x:Cl,aD x.1 x.2=true->ci x.1 x.2=p->x=q){ns:List Cl}(h:(bJ P n q=n/\ns=aG q.1 q.2)\/(bJ P n q≠n/\ns=[]))(c:Cl):bC free P n (p+1) [] c=bC free P n p ns c:=by
 have a:(free c=true/\(c∈([]:List Cl)\/∃ x,ci x.1 x.2 < p+1/\aD x.1 x.2=true/\bJ P n x=n/\c∈aG x.1 x.2))↔(free c=true/\(c∈ns\/∃ x,ci x.1 x.2 < p/\aD x.1 x.2=true/\bJ P n x=n/\c∈aG x.1 x.2)):=by
  constructor
  ·rintro ⟨g,h1|⟨x,hx,ho,hl,hm⟩⟩
   ·simp at h1
   refine ⟨g,?_⟩
   by_cases e:ci x.1 x.2=p
   ·have:=b x ho e
    subst this
    rcases h with ⟨_,h⟩|⟨h,_⟩
    ·rw [h];exact .inl hm
    exact absurd hl h
   exact .inr ⟨x,by omega,ho,hl,hm⟩
  rintro ⟨g,h1|⟨x,hx,ho,hl,hm⟩⟩
  ·rcases h with ⟨i,h⟩|⟨_,h⟩
   ·rw [h] at h1
    exact ⟨g,.inr ⟨q,by omega,j,i,h1⟩⟩
   rw [h] at h1;simp at h1
  exact ⟨g,.inr ⟨x,by omega,ho,hl,hm⟩⟩
 unfold bC
 by_cases d:bJ P n c≠0
 ·rw [if_pos d,if_pos d]
 rw [if_neg d,if_neg d]
 by_cases f:free c=true/\(c∈ns\/∃ x,ci x.1 x.2 < p/\aD x.1 x.2=true/\bJ P n x=n/\c∈aG x.1 x.2)
 ·rw [if_pos f,if_pos (a.2 f)]
 rw [if_neg f,if_neg (fun x=>f (a.1 x))]
theorem LB {free:Cl->Bool}{P:Nat->Cl->Prop}(hs:∀ k c,P (k+1) c↔free c=true/\∃ q,P k q/\c∈aG q.1 q.2){n:Nat}(hn:0 < n)(h:∀ c,bJ P (n+1) c≠n+1):∀ k c,n<=k->P k c->∃ m,m < n/\P m c:=by
 have a:∀ c,P n c->∃ m,m < n/\P m c:=fun c d=>by
  by_cases hz:bJ P n c=0
  ·exact absurd (iB.2 ⟨Nat.lt_succ_self n,d,lD.1 hz⟩) (h c)
  obtain ⟨k,f⟩:∃ k,bJ P n c=k+1:=⟨bJ P n c - 1,by omega⟩
  obtain ⟨h1,j,_⟩:=iB.1 f
  exact ⟨k,h1,j⟩
 intro k
 induction k with
 | zero=>intro c f _;omega
 | succ k p =>
  intro c f d
  by_cases e:n=k+1
  ·subst e;exact a c d
  obtain ⟨i,q,o,hm⟩:=(hs k c).1 d
  obtain ⟨m,l,b⟩:=p q (by omega) o
  by_cases g:m+1=n
  ·rw [<- g] at a
   have:=a c ((hs m c).2 ⟨i,q,b,hm⟩)
   rw [g] at this
   exact this
  exact ⟨m+1,by omega,(hs m c).2 ⟨i,q,b,hm⟩⟩
structure FarX (free ends:Cl->Bool) (d:Cl->Nat):Prop where
 is:∀ c k,d c=k+1->eH free ends k c/\∀ m,m < k->¬ eH free ends m c
 all:∀ c k,k<=143->eH free ends k c->d c≠0
theorem uT {free ends:Cl->Bool}(a:∀ x:Cl,free x=true->aD x.1 x.2=true){n:Nat}(hn:0 < n)(h:n=145\/∀ c,bJ (eH free ends) (n+1) c≠n+1):FarX free ends (bJ (eH free ends) n):=by
 refine ⟨fun c k b=>(iB.1 b).2,fun c k b hw d=>?_⟩
 have hz:=lD.1 d
 by_cases e:k < n
 ·exact hz k e hw
 rcases h with h|h
 ·omega
 obtain ⟨m,h1,f⟩:=LB (fun k c=>sO a) hn h k c (by omega) hw
 exact hz m h1 f
def dJ (d:Cl->Nat):List Cl->Nat×Cl->Nat×Cl
 | [],s=>s
 | n :: ns,(b,r)=>if 0 < d n/\(b=0\/d n < b) then dJ d ns (d n,n) else dJ d ns (b,r)
theorem rS (d:Cl->Nat)(a:Cl):∀ (ns c:List Cl) (s:Nat×Cl),((s=(0,a)/\∀ f∈c,d f=0)\/(s.2∈c/\s.1=d s.2/\0 < d s.2/\∀ f∈c,0 < d f->d s.2<=d f/\(d f=d s.2->c.idxOf s.2<=c.idxOf f))) ->
  ((dJ d ns s=(0,a)/\∀ f∈c ++ ns,d f=0)\/((dJ d ns s).2∈c ++ ns/\0 < d (dJ d ns s).2/\∀ f∈c ++ ns,0 < d f->d (dJ d ns s).2<=d f/\(d f=d (dJ d ns s).2->(c ++ ns).idxOf (dJ d ns s).2<=(c ++ ns).idxOf f)))
 | [],c,s,h=>by
  rw [append_nil]
  rcases h with h|⟨h1,k,j,i⟩
  ·exact .inl h
  exact .inr ⟨h1,j,i⟩
 | n :: ns,c,(b,r),h=>by
  have e:c ++ n :: ns=(c ++ [n]) ++ ns:=by simp
  rw [e]
  unfold dJ
  split
  ·rename_i o
   refine rS d a ns (c ++ [n]) (d n,n) (.inr ⟨by simp,rfl,o.1,fun f l m=>?_⟩)
   dsimp only
   rcases mem_append.1 l with g|g
   ·rcases h with ⟨_,h⟩|⟨h1,k,j,i⟩
    ·have:=h f g
     omega
    dsimp only at h1 k j i
    have:=(i f g m).1
    omega
   have:f=n:=by simpa using g
   subst this
   exact ⟨Nat.le_refl _,fun _=>Nat.le_refl _⟩
  rename_i o
  refine rS d a ns (c ++ [n]) (b,r) ?_
  rcases h with ⟨q,h⟩|⟨h1,k,j,i⟩
  ·refine .inl ⟨q,fun f l=>?_⟩
   rcases mem_append.1 l with g|g
   ·exact h f g
   have:f=n:=by simpa using g
   subst this
   have hb:b=0:=by simpa using congrArg Prod.fst q
   rcases Nat.eq_zero_or_pos (d f) with e|e
   ·exact e
   exact absurd ⟨e,.inl hb⟩ o
  dsimp only at h1 k j i
  refine .inr ⟨by simp [h1],k,j,fun f l m=>?_⟩
  dsimp only
  rw [idxOf_append,if_pos h1,idxOf_append]
  rcases mem_append.1 l with g|g
  ·rw [if_pos g]
   exact i f g m
  have:f=n:=by simpa using g
  subst this
  have p:d r<=d f:=by
   rcases Nat.lt_or_ge (d f) (d r) with e|e
   ·exact absurd ⟨m,.inr (by omega)⟩ o
   exact e
  refine ⟨p,fun t=>?_⟩
  split
  ·rename_i hm;exact (i f hm m).2 t
  have:=idxOf_lt_length_of_mem h1
  omega
theorem OH {free ends:Cl->Bool}{a:Cl}(f:free a=false)(L:aD a.1 a.2=true)(o:ends a=false){d:Cl->Nat}(E:FarX free ends d):(dJ d (aG a.1 a.2) (0,a)).2=cQ free ends a:=by
 have D:=DU f L o
 have h1:=DS f o
 obtain ⟨r,N⟩:∃ r,cQ free ends a=r:=⟨_,rfl⟩
 rw [N] at D h1 |-
 have g:=rS d a (aG a.1 a.2) [] (0,a) (.inl ⟨rfl,by simp⟩)
 rw [nil_append] at g
 have b:∀ c,0 < d c->∃ k,d c=k+1/\eH free ends k c/\∀ m,m < k->¬ eH free ends m c:=fun c hc=>⟨d c - 1,by omega,E.is c (d c - 1) (by omega)⟩
 rcases D with ⟨i,j,k,n,K,v,w,C⟩|⟨i,j⟩
 ·have x:=E.all r k K ⟨j,n,v,w⟩
  rcases g with ⟨_,g⟩|⟨l,u,B⟩
  ·exact absurd (g r i) x
  obtain ⟨s,hs⟩:∃ s,(dJ d (aG a.1 a.2) (0,a)).2=s:=⟨_,rfl⟩
  rw [hs] at l u B |-
  obtain ⟨z,V,⟨p,A,q,t⟩,W⟩:=b s u
  obtain ⟨F,X,⟨Y,n3,f3,f4⟩,J⟩:=b r (by omega)
  have O:=C _ A q (Path.cons l p t)
  have P:=(B r i (by omega)).1
  have Q:F<=k:=by
   rcases Nat.lt_or_ge k F with h|h
   ·exact absurd ⟨j,n,v,w⟩ (J k h)
   exact h
  have M:z=k:=by omega
  subst M
  have y:r≠a:=fun e=>by rw [e,f] at j;cases j
  have b1:=h1 y z n v w C s A l p q t
  have R:=(B r i (by omega)).2 (by omega)
  unfold eN at b1
  have S:(aG a.1 a.2).idxOf s=(aG a.1 a.2).idxOf r:=by omega
  have H:=getElem_idxOf (idxOf_lt_length_of_mem l)
  have I:=getElem_idxOf (idxOf_lt_length_of_mem i)
  rw [<- H,<- I]
  congr 1
 rcases g with ⟨g,_⟩|⟨l,u,_⟩
 ·rw [g,i]
 obtain ⟨z,_,⟨p,A,q,t⟩,_⟩:=b _ u
 exact absurd (Path.cons l p t) (j _ _ q)
def kA (us:List U)(c:Cl):Bool:=us.any fun u=>u.x==c.1&&u.y==c.2
def cH (us:List U)(a:Nat->Int)(c:Cl):Bool:=aD c.1 c.2&&(a (ci c.1 c.2)==0 && !kA us c)
theorem vP {us:List U}{a:Nat->Int}:∀ c:Cl,cH us a c=true->aD c.1 c.2=true:=fun c h=>by
 unfold cH at h
 simp at h
 exact h.1
theorem JB {t:T}(h:TOk t)(c:Cl):(t.held c).isSome=kA t.us c:=by
 rw [Bool.eq_iff_iff]
 unfold kA
 rw [any_eq_true]
 constructor
 ·intro h1
  obtain ⟨i,hi⟩:=Option.isSome_iff_exists.1 h1
  obtain ⟨u,a,_,e⟩:=h.hel c i hi
  refine ⟨u,a,?_⟩
  rw [<- e]
  simp
 rintro ⟨u,a,e⟩
 have b:(u.x,u.y)=c:=by
  simp at e
  exact Prod.ext e.1 e.2
 rw [<- b,(h.all u a).hd]
 rfl
theorem vO {t:T}(h:TOk t)(c:Cl)(a:aD c.1 c.2=true):bX (bG t.held) t.bd c.1 c.2=cH t.us t.bd c:=by
 unfold bX cH
 rw [a,<- JB h c]
 simp [bG,Bool.and_comm]
theorem tO {f f' e a:Cl->Bool}(h:∀ c:Cl,aD c.1 c.2=true->f c=f' c/\e c=a c)(i:Nat)(cur:Cl):∀ (ns:List Cl) (s:Bs),(∀ n∈ns,aD n.1 n.2=true)->bF f e i cur ns s=bF f' a i cur ns s
 | [],s,_=>rfl
 | n :: ns,s,hn=>by
  obtain ⟨h1,b⟩:=h n (hn n (by simp))
  unfold bF
  rw [h1,b]
  have d:=fun s=>tO h i cur ns s (fun m hm=>hn m (by simp [hm]))
  simp only [d]
theorem tP {f f' e b:Cl->Bool}(h:∀ c:Cl,aD c.1 c.2=true->f c=f' c/\e c=b c)(a:Cl):∀ (fuel i:Nat) (s:Bs),cY f e a fuel i s=cY f' b a fuel i s
 | 0,_,_=>rfl
 | fuel+1,i,s=>by
  unfold cY
  cases d:s.q[i]? with
  | none=>rfl
  | some cur =>
   dsimp only
   rw [tO h i cur _ s (kJ _ _)]
   cases bF f' b i cur (aG cur.1 cur.2) s with
   | inl c=>rfl
   | inr s'=>exact tP h a fuel (i+1) s'
theorem DR {f f' e b:Cl->Bool}(h:∀ c:Cl,aD c.1 c.2=true->f c=f' c/\e c=b c)(a:Cl):cQ f e a=cQ f' b a:=tP h a _ _ _
theorem UU {t:T}(h:TOk t){u:U}(i:u∈t.us){ends b:Cl->Bool}(k:∀ c:Cl,aD c.1 c.2=true->ends c=b c)(e:b (u.x,u.y)=false){d:Cl->Nat}(j:FarX (cH t.us t.bd) b d):(dJ d (aG u.x u.y) (0,(u.x,u.y))).2=cE t u ends:=by
 have hs:kA t.us (u.x,u.y)=true:=by
  unfold kA
  rw [any_eq_true]
  exact ⟨u,i,by simp⟩
 have f:cH t.us t.bd (u.x,u.y)=false:=by
  unfold cH
  rw [hs]
  simp
 have:=OH (a:=(u.x,u.y)) f (h.all u i).on e j
 rw [this]
 exact DR (fun c g=>⟨(vO h c g).symm,(k c g).symm⟩) _
