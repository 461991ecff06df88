import Derived.Test.YtapabahhfanmmaaGreatDoorCInv3
namespace Go.Proofs.YtapabahhfanmmaaGreatDoor
open Go.RowKit Classical
def psn (a f:Cl):Nat:=(qj0 a.1 a.2).idxOf f
structure OrdF (free:Cl->Bool) (a:Cl) (s:Bs) (lv:Cl->Nat):Prop where
 mono2:∀ (j k:Nat) (c d f e:Cl),j<=k->s.q[j]?=some c->s.q[k]?=some d->lv c=lv d->s.g c=some f->s.g d=some e->psn a f<=psn a e
 min:∀ (c f:Cl),s.g c=some f->∀ (f':Cl) (k:Nat),lv c=k+1->f'∈qj0 a.1 a.2->free f'=true->Path free f' k c->psn a f<=psn a f'
theorem Lev.seen {free ends:Cl->Bool}{a:Cl}{s:Bs}{lv:Cl->Nat}{m:Nat}(h:Lev free ends a s lv m){c:Cl}(hc:c∈s.q)(hp:0 < lv c):∃ f,s.g c=some f:=by
 obtain ⟨l,b1,_,_,b4⟩:=h.inv
 rw [b1] at hc
 rcases List.mem_cons.1 hc with rfl|hl
 ·rw [h.a0] at hp;omega
 ·exact Option.isSome_iff_exists.1 ((b4 c).2 hl)
theorem Lev.got {free ends:Cl->Bool}{a:Cl}{s:Bs}{lv:Cl->Nat}{m:Nat}(h:Lev free ends a s lv m){c f:Cl}(hc:s.g c=some f):c∈s.q:=by
 obtain ⟨l,b1,_,_,b4⟩:=h.inv
 rw [b1]
 exact List.mem_cons_of_mem _ ((b4 c).1 (by rw [hc];rfl))
theorem kv6 {free ends:Cl->Bool} {a:Cl} {i:Nat} {cur:Cl} {s:Bs} {lv:Cl->Nat} (h:Lev free ends a s lv (lv cur)) (ho:OrdF free a s lv) (hi:s.q[i]?=some cur)
  (hex:∀ j c,j < i->s.q[j]?=some c->∀ n∈qj0 c.1 c.2,free n=true->n∈s.q/\lv n<=lv c+1) {f:Cl} (hg:s.g cur=some f) {n f':Cl} (hnq:n∉s.q) (hf':f'∈qj0 a.1 a.2) (hff:free f'=true) (hp:Path free f' (lv cur) n):psn a f<=psn a f':=by
 obtain ⟨_,_,k0,hk0,_⟩:=h.fst cur f hg
 rw [hk0] at hp
 obtain ⟨p, hp, hn, hfn⟩ := hp
 have hpa:=Path.cons hf' hff hp
 rcases jy5 h hex hpa with ⟨h1,h2⟩|⟨j,d,h1,h2,h3⟩
 ·obtain ⟨j,hj⟩:=List.getElem?_of_mem h1
  by_cases hji:j < i
  ·exact absurd (hex j p hji hj n hn hfn).1 hnq
  ·have hm:=h.mono i j cur p (by omega) hi hj
   obtain ⟨fp,hfp⟩:=h.seen h1 (by omega)
   have e1:=ho.mono2 i j cur p f fp (by omega) hi hj (by omega) hg hfp
   have e2:=ho.min p fp hfp f' k0 (by omega) hf' hff hp
   omega
 ·have:=h.mono i j cur d h1 hi h2
  omega
theorem qqz8 {free ends:Cl->Bool}{i:Nat}{cur n:Cl}{ns:List Cl}{s:Bs}:bIn free ends i cur (n :: ns) s=match bIn free ends i cur [n] s with|.inl f=>.inl f|.inr s'=>bIn free ends i cur ns s':=by
 simp only [bIn]
 split
 ·rfl
 ·split <;> rfl
theorem fq8 {l pre ns:List Cl}{n:Cl}(h:l=pre ++ n :: ns)(hn:n∉pre):l.idxOf n=pre.length:=by
 rw [h,List.idxOf_append,if_neg hn]
 simp
theorem qjj0 {l pre ns:List Cl}{n:Cl}(h:l=pre ++ ns)(hn:n∈pre):l.idxOf n < pre.length:=by
 rw [h,List.idxOf_append,if_pos hn]
 exact List.idxOf_lt_length_of_mem hn
theorem qjz9 {l pre ns:List Cl}{n:Cl}(h:l=pre ++ ns)(hn:n∉pre):pre.length<=l.idxOf n:=by
 rw [h,List.idxOf_append,if_neg hn]
 omega
theorem yv5 {free ends:Cl->Bool}{a:Cl}{i:Nat}{cur:Cl}(hfa:free a=false):∀ (ns:List Cl) (s:Bs) (lv:Cl->Nat),Lev free ends a s lv (lv cur)->OrdF free a s lv->s.q[i]?=some cur->(∀ n∈ns,n∈qj0 cur.1 cur.2) ->
  (∀ j c,j < i->s.q[j]?=some c->∀ n∈qj0 c.1 c.2,free n=true->n∈s.q/\lv n<=lv c+1) ->
  (i=0->∃ pre,qj0 a.1 a.2=pre ++ ns/\(∀ d f,s.g d=some f->f∈pre)/\∀ n∈pre,free n=true->(s.g n).isSome=true) ->
  (0 < i->∀ d f,s.g d=some f->lv d=lv cur+1->psn a f<=psn a ((s.g cur).getD (0,0))) ->
  (∀ f,bIn free ends i cur ns s=.inl f->∀ f' n',f'∈qj0 a.1 a.2->free f'=true->ends n'=true->Path free f' (lv cur) n'->psn a f<=psn a f') /\
  (∀ s',bIn free ends i cur ns s=.inr s'->∃ lv',Lev free ends a s' lv' (lv cur)/\OrdF free a s' lv'/\(∀ c∈s.q,lv' c=lv c)/\(∃ m,s'.q=s.q ++ m)/\(∀ n∈ns,free n=true->n∈s'.q/\lv' n<=lv cur+1)/\(0 < i->s'.g cur=s.g cur/\∀ d f,s'.g d=some f->lv' d=lv cur+1->psn a f<=psn a ((s.g cur).getD (0,0))))
 | [],s,lv,h,ho,_,_,_,_,hla=>by
  unfold bIn
  refine ⟨fun f h=>(by cases h),fun s' hs=>?_⟩
  cases hs
  exact ⟨lv,h,ho,fun _ _=>rfl,⟨[],by simp⟩,fun n hn=>absurd hn (by simp),fun hi0=>⟨rfl,hla hi0⟩⟩
 | n :: ns,s,lv,h,ho,hi,hns,hex,hpre,hla=>by
  obtain ⟨l,b1,b2,b3,b4⟩:=h.inv
  have hcur:cur∈s.q:=List.mem_of_getElem? hi
  have hca:i=0->cur=a:=fun e=>by subst e;rw [b1] at hi;simpa using hi.symm
  have hcg:0 < i->∃ f,s.g cur=some f:=fun h0=>by
   have hl:cur∈l:=by
    rw [b1] at hi
    obtain ⟨j,rfl⟩:∃ j,i=j+1:=⟨i - 1,by omega⟩
    exact List.mem_of_getElem? (by simpa using hi)
   exact Option.isSome_iff_exists.1 ((b4 cur).2 hl)
  by_cases hc:((s.g n).isSome || !free n)=true
  ·have e:bIn free ends i cur (n :: ns) s=bIn free ends i cur ns s:=by rw [bIn,if_pos hc]
   rw [e]
   obtain ⟨ih1,ih2⟩:=yv5 hfa (i:=i) ns s lv h ho hi (fun m hm=>hns m (by simp [hm])) hex (fun h0=>by
    obtain ⟨pre,p1,p2,p3⟩:=hpre h0
    refine ⟨pre ++ [n],by rw [p1];simp,fun d f hd=>List.mem_append_left _ (p2 d f hd),fun m hm hf=>?_⟩
    rcases List.mem_append.1 hm with hm|hm
    ·exact p3 m hm hf
    ·have:m=n:=by simpa using hm
     subst this
     rw [hf] at hc
     simpa using hc) hla
   refine ⟨ih1,fun s' hs=>?_⟩
   obtain ⟨lv',q1,q2,q3,q4,q5,q6⟩:=ih2 s' hs
   refine ⟨lv',q1,q2,q3,q4,fun m hm hf=>?_,q6⟩
   rcases List.mem_cons.1 hm with rfl|hm
   ·have hs:(s.g m).isSome=true:=by
     rw [hf] at hc
     simpa using hc
    have hq:m∈s.q:=by rw [b1];exact List.mem_cons_of_mem _ ((b4 m).1 hs)
    obtain ⟨x,hx⟩:=q4
    exact ⟨by rw [hx];exact List.mem_append_left _ hq,by rw [q3 m hq];exact h.top m hq⟩
   ·exact q5 m hm hf
  ·have hf:free n=true:=by
    cases h:free n with
    | true=>rfl
    | false=>simp [h] at hc
   have hg:(s.g n).isSome=false:=by
    cases h:(s.g n).isSome with
    | false=>rfl
    | true=>simp [h] at hc
   have hnl:n∉l:=fun hl=>by have:=(b4 n).2 hl;rw [hg] at this;cases this
   have hna:n≠a:=fun e=>by rw [e,hfa] at hf;cases hf
   have hnq:n∉s.q:=by rw [b1];simp;exact ⟨hna,hnl⟩
   have hnp:∀ pre:List Cl,(∀ n∈pre,free n=true->(s.g n).isSome=true)->n∉pre:=fun pre p3 hm=>by
    have:=p3 n hm hf
    rw [hg] at this
    cases this
   by_cases he:ends n=true
   ·have e:bIn free ends i cur (n :: ns) s=.inl (if 0 < i then (s.g cur).getD (0,0) else n):=by rw [bIn,if_neg hc,if_pos he]
    rw [e]
    refine ⟨fun f hh=>?_,fun s' hh=>(by cases hh)⟩
    cases hh
    intro f' n' hf' hff hn' hp
    have hn'q:n'∉s.q:=fun hm=>by rw [h.noend n' hm] at hn';cases hn'
    by_cases h0:0 < i
    ·rw [if_pos h0]
     obtain ⟨fc,hfc⟩:=hcg h0
     rw [hfc]
     exact kv6 h ho hi hex hfc hn'q hf' hff hp
    ·rw [if_neg h0]
     have hi0:i=0:=by omega
     have hce:=hca hi0
     rw [hce,h.a0] at hp
     cases hp
     obtain ⟨pre,p1,p2,p3⟩:=hpre hi0
     have e1:=fq8 p1 (hnp pre p3)
     have e2:f'∉pre:=fun hm=>by
      obtain ⟨g,hg'⟩:=Option.isSome_iff_exists.1 (p3 f' hm hff)
      exact hn'q (h.got hg')
     have e3:=qjz9 p1 e2
     unfold psn
     omega
   ·have hs1:bIn free ends i cur [n] s=.inr ⟨s.q ++ [n],fun k=>if k=n then some (if 0 < i then (s.g cur).getD (0,0) else n) else s.g k⟩:=by simp only [bIn];rw [if_neg hc,if_neg he]
    have e:bIn free ends i cur (n :: ns) s=bIn free ends i cur ns ⟨s.q ++ [n],fun k=>if k=n then some (if 0 < i then (s.g cur).getD (0,0) else n) else s.g k⟩:=by rw [qqz8,hs1]
    obtain ⟨lv1,L1,l2,_,l4⟩:=(yj6 hfa (i:=i) (cur:=cur) [n] s lv h hi (fun m hm=>(by simpa using hm:m=n) ▸ hns n (by simp))).2 _ hs1
    rw [e]
    have hlen:i < s.q.length:=(List.getElem?_eq_some_iff.1 hi).1
    have ec:lv1 cur=lv cur:=l2 cur hcur
    have en:lv1 n=lv cur+1:=by
     have h1:=(l4 n (by simp) hf).2
     have h2:=L1.path n (by simp)
     rcases Nat.lt_or_ge (lv cur) (lv1 n) with h3|h3
     ·omega
     ·rcases jy5 h hex h2 with ⟨h4,_⟩|⟨j,d,h4,h5,h6⟩
      ·exact absurd h4 hnq
      ·have:=h.mono i j cur d h4 hi h5
       omega
    have hgo:∀ d f,d≠n->(if d=n then some (if 0 < i then (s.g cur).getD (0,0) else n) else s.g d)=some f->s.g d=some f:=fun d f hd hh=>by rwa [if_neg hd] at hh
    have hlast:∀ d f,s.g d=some f->lv d=lv cur+1->psn a f<=psn a (if 0 < i then (s.g cur).getD (0,0) else n):=fun d f hd hl=>by
     by_cases h0:0 < i
     ·rw [if_pos h0];exact hla h0 d f hd hl
     ·rw [if_neg h0]
      obtain ⟨pre,p1,p2,p3⟩:=hpre (by omega)
      have e1:=fq8 p1 (hnp pre p3)
      have e2:=qjj0 p1 (p2 d f hd)
      unfold psn
      omega
    have O1:OrdF free a ⟨s.q ++ [n],fun k=>if k=n then some (if 0 < i then (s.g cur).getD (0,0) else n) else s.g k⟩ lv1:=by
     refine ⟨?_,?_⟩
     ·intro j k c d f e' hjk hj hk hlv hc' hd'
      dsimp only at hj hk hc' hd'
      by_cases hkl:k < s.q.length
      ·rw [List.getElem?_append_left hkl] at hk
       rw [List.getElem?_append_left (by omega)] at hj
       have m1:=List.mem_of_getElem? hj
       have m2:=List.mem_of_getElem? hk
       exact ho.mono2 j k c d f e' hjk hj hk (by rw [<- l2 c m1,<- l2 d m2];exact hlv) (hgo c f (fun e=>hnq (e ▸ m1)) hc') (hgo d e' (fun e=>hnq (e ▸ m2)) hd')
      ·rw [List.getElem?_append_right (by omega)] at hk
       have hd:d=n:=by
        have:=List.mem_of_getElem? hk
        simpa using this
       subst hd
       rw [if_pos rfl] at hd'
       cases hd'
       by_cases hcn:c=d
       ·subst hcn
        rw [if_pos rfl] at hc'
        cases hc'
        exact Nat.le_refl _
       ·have hc2:=hgo c f hcn hc'
        have m1:=h.got hc2
        exact hlast c f hc2 (by rw [<- l2 c m1,hlv,en])
     ·intro c f hc' f' k hk hf' hff hp
      dsimp only at hc'
      by_cases hcn:c=n
      ·subst hcn
       rw [if_pos rfl] at hc'
       cases hc'
       have hkk:k=lv cur:=by omega
       subst hkk
       by_cases h0:0 < i
       ·rw [if_pos h0]
        obtain ⟨fc,hfc⟩:=hcg h0
        rw [hfc]
        exact kv6 h ho hi hex hfc hnq hf' hff hp
       ·rw [if_neg h0]
        rw [hca (by omega),h.a0] at hp
        cases hp
        exact Nat.le_refl _
      ·have hc2:=hgo c f hcn hc'
       exact ho.min c f hc2 f' k (by rw [<- l2 c (h.got hc2)];exact hk) hf' hff hp
    have hgc:∀ k,k≠n->(fun k=>if k=n then some (if 0 < i then (s.g cur).getD (0,0) else n) else s.g k) k=s.g k:=fun k hk=>by dsimp only;rw [if_neg hk]
    have hcn:cur≠n:=fun e=>hnq (e ▸ hcur)
    obtain ⟨ih1,ih2⟩:=yv5 hfa (i:=i) (cur:=cur) ns _ lv1 (by rw [ec];exact L1) O1 (by dsimp only;rw [List.getElem?_append_left hlen];exact hi) (fun m hm=>hns m (by simp [hm]))
     (fun j c hj hc' m hm hfm=>by
      dsimp only at hc' |-
      rw [List.getElem?_append_left (by omega)] at hc'
      obtain ⟨p1,p2⟩:=hex j c hj hc' m hm hfm
      exact ⟨List.mem_append_left _ p1,by rw [l2 m p1,l2 c (List.mem_of_getElem? hc')];exact p2⟩)
     (fun h0=>by
      obtain ⟨pre,p1,p2,p3⟩:=hpre h0
      refine ⟨pre ++ [n],by rw [p1];simp,fun d f hd=>?_,fun m hm hfm=>?_⟩
      ·dsimp only at hd
       by_cases hdn:d=n
       ·rw [if_pos hdn,if_neg (by omega)] at hd
        cases hd
        simp
       ·exact List.mem_append_left _ (p2 d f (hgo d f hdn hd))
      ·dsimp only
       rcases List.mem_append.1 hm with hm|hm
       ·by_cases hmn:m=n
        ·rw [if_pos hmn];rfl
        ·rw [if_neg hmn];exact p3 m hm hfm
       ·have:m=n:=by simpa using hm
        rw [if_pos this];rfl)
     (fun h0 d f hd hl=>by
      dsimp only at hd |-
      rw [if_neg hcn]
      by_cases hdn:d=n
      ·rw [if_pos hdn,if_pos h0] at hd
       cases hd
       exact Nat.le_refl _
      ·have hd2:=hgo d f hdn hd
       exact hla h0 d f hd2 (by rw [<- l2 d (h.got hd2),<- ec];exact hl))
    rw [ec] at ih1 ih2
    refine ⟨ih1,fun s' hs=>?_⟩
    obtain ⟨lv',q1,q2,q3,⟨x,hx⟩,q5,q6⟩:=ih2 s' hs
    dsimp only at q3 hx q6
    rw [if_neg hcn] at q6
    refine ⟨lv',q1,q2,fun c hc=>by rw [q3 c (List.mem_append_left _ hc),l2 c hc],⟨n :: x,by rw [hx];simp⟩,fun m hm hfm=>?_,q6⟩
    rcases List.mem_cons.1 hm with rfl|hm
    ·exact ⟨by rw [hx];simp,by rw [q3 m (by simp),en];exact Nat.le_refl _⟩
    ·exact q5 m hm hfm
def dq3 (free ends:Cl->Bool)(a r:Cl):Prop:=r≠a->∀ k n,ends n=true->Path free r k n->(∀ j m,ends m=true->Path free a j m->k+1<=j)->∀ f' n',f'∈qj0 a.1 a.2->free f'=true->ends n'=true->Path free f' k n'->psn a r<=psn a f'
theorem vz8 {free ends:Cl->Bool}{a:Cl}(hfa:free a=false):∀ (fuel i:Nat) (s:Bs) (lv:Cl->Nat) (m:Nat),Lev free ends a s lv m->OrdF free a s lv->(∀ c,s.q[i]?=some c->m<=lv c) ->
  (∀ j c,j < i->s.q[j]?=some c->∀ n∈qj0 c.1 c.2,free n=true->n∈s.q/\lv n<=lv c+1)->(i=0->∀ d,s.g d=none) ->
  (0 < i->∀ c fc,s.q[i]?=some c->s.g c=some fc->∀ d f,s.g d=some f->lv d=lv c+1->psn a f<=psn a fc)->dq3 free ends a (zk7 free ends a fuel i s)
 | 0,i,s,lv,m,h,_,_,_,_,_=>by
  unfold zk7
  exact fun hne=>absurd rfl hne
 | fuel+1,i,s,lv,m,h,ho,hm,hex,hg0,hla=>by
  unfold zk7
  cases hq:s.q[i]? with
  | none=>exact fun hne=>absurd rfl hne
  | some cur =>
   dsimp only
   obtain ⟨l,b1,b2,b3,b4⟩:=h.inv
   have h':Lev free ends a s lv (lv cur):={ h with top:=fun c hc=>Nat.le_trans (h.top c hc) (by have:=hm cur hq;omega) }
   have hcur:cur∈s.q:=List.mem_of_getElem? hq
   have hil:=(List.getElem?_eq_some_iff.1 hq).1
   have hca:i=0->cur=a:=fun e=>by subst e;rw [b1] at hq;simpa using hq.symm
   have hcg:0 < i->∃ f,s.g cur=some f:=fun h0=>by
    have hl:cur∈l:=by
     rw [b1] at hq
     obtain ⟨j,rfl⟩:∃ j,i=j+1:=⟨i - 1,by omega⟩
     exact List.mem_of_getElem? (by simpa using hq)
    exact Option.isSome_iff_exists.1 ((b4 cur).2 hl)
   obtain ⟨r1,r2⟩:=yv5 hfa (i:=i) (cur:=cur) (qj0 cur.1 cur.2) s lv h' ho hq (fun _ hn=>hn) hex
    (fun h0=>⟨[],by rw [hca h0];rfl,fun d f hd=>(by rw [hg0 h0 d] at hd;cases hd),fun n hn=>absurd hn (by simp)⟩)
    (fun h0 d f hd hl=>by
     obtain ⟨fc,hfc⟩:=hcg h0
     rw [hfc]
     exact hla h0 cur fc hq hfc d f hd hl)
   cases hr:bIn free ends i cur (qj0 cur.1 cur.2) s with
   | inl f =>
    dsimp only
    obtain ⟨g1,g2,n,g3,g4⟩:=(yj6 hfa (i:=i) (cur:=cur) (qj0 cur.1 cur.2) s lv h' hq (fun _ hn=>hn)).1 f hr
    intro _ k n1 hn1 hp1 hmin f' n' hf' hff hn' hp
    have e1:=hmin _ n g3 (Path.cons g1 g2 g4)
    have e2:lv cur<=k:=by
     rcases jy5 h hex (Path.cons g1 g2 hp1) with ⟨h1,_⟩|⟨j,d,h1,h2,h3⟩
     ·rw [h.noend n1 h1] at hn1;cases hn1
     ·have:=h.mono i j cur d h1 hq h2
      omega
    have e3:k=lv cur:=by omega
    subst e3
    exact r1 f hr f' n' hf' hff hn' hp
   | inr s' =>
    dsimp only
    obtain ⟨lv',q1,q2,q3,⟨x,hx⟩,q5,q6⟩:=r2 s' hr
    have hq':s'.q[i]?=some cur:=by rw [hx,List.getElem?_append_left hil];exact hq
    refine vz8 hfa fuel (i+1) s' lv' (lv cur) q1 q2 (fun c hc=>?_) ?_ (fun h0=>absurd h0 (by omega)) (fun _ c fc hc hfc d f hd hl=>?_)
    ·have:=q1.mono i (i+1) cur c (by omega) hq' hc
     rw [q3 cur hcur] at this
     exact this
    ·intro j c hj hc n hn hf
     rw [hx,List.getElem?_append_left (by omega)] at hc
     by_cases e:j=i
     ·subst e
      rw [hq] at hc
      cases hc
      rw [q3 cur hcur]
      exact q5 n hn hf
     ·obtain ⟨p1,p2⟩:=hex j c (by omega) hc n hn hf
      rw [q3 c (List.mem_of_getElem? hc),q3 n p1]
      exact ⟨by rw [hx];exact List.mem_append_left _ p1,p2⟩
    ·have m1:=q1.mono i (i+1) cur c (by omega) hq' hc
     rw [q3 cur hcur] at m1
     have m2:=q1.top d (q1.got hd)
     obtain ⟨_,_,kc,hkc,_⟩:=q1.fst c fc hfc
     have hi0:0 < i:=by
      rcases Nat.eq_zero_or_pos i with h0|h0
      ·have:=hca h0
       rw [this,h.a0] at m1 m2
       omega
      ·exact h0
     obtain ⟨e1,e2⟩:=q6 hi0
     obtain ⟨f0,hf0⟩:=hcg hi0
     have a1:=e2 d f hd (by omega)
     rw [hf0] at a1 e1
     have a2:=q2.mono2 i (i+1) cur c f0 fc (by omega) hq' hc (by rw [q3 cur hcur];omega) e1 hfc
     exact Nat.le_trans a1 a2
theorem fx1 {free ends:Cl->Bool}{a:Cl}(hfa:free a=false)(hea:ends a=false):dq3 free ends a (bfs free ends a):=by
 unfold bfs
 refine vz8 hfa 146 0 _ (fun _=>0) 0 ⟨BInv.start a,rfl,?_,?_,?_,?_,?_,?_⟩ ⟨?_,?_⟩ (fun _ _=>Nat.le_refl _) (fun j _ hj=>by omega) (fun _ _=>rfl) (fun h=>by omega)
 ·intro c hc;simp at hc;subst hc;exact .nil
 ·intro c f h;cases h
 ·intro c hc;simp at hc;subst hc;exact hea
 ·intro j k c d _ _ _;exact Nat.le_refl _
 ·intro c _;omega
 ·intro j c _;omega
 ·intro j k c d f e _ _ _ _ h;cases h
 ·intro c f h;cases h
theorem xk3 {a b:Cl}(h:onB a.1 a.2=true)(h2:b∈qj0 a.1 a.2):a∈qj0 b.1 b.2:=by
 unfold qj0 sds at h2 |-
 obtain ⟨a1,a2⟩:=a
 obtain ⟨b1,b2⟩:=b
 simp only [List.map_cons,List.map_nil,List.mem_filter,List.mem_cons,Prod.mk.injEq,List.not_mem_nil,or_false] at h2 |-
 refine ⟨?_,h⟩
 omega
theorem Path.uncons {free:Cl->Bool}{a:Cl}{k:Nat}{c:Cl}(h:Path free a k c):∀ j,k=j+1->∃ p,p∈qj0 a.1 a.2/\free p=true/\Path free p j c:=by
 induction h using Path.ind with
 | nil=>intro j hj;omega
 | snoc hp hn hf ih =>
  rename_i k c n
  intro j hj
  have hkj:k=j:=by omega
  subst hkj
  cases k with
  | zero =>
   cases hp
   exact ⟨n,hn,hf,.nil⟩
  | succ i =>
   obtain ⟨p,h1,h2,h3⟩:=ih i rfl
   exact ⟨p,h1,h2,.snoc h3 hn hf⟩
def jz8 (free ends:Cl->Bool)(k:Nat)(c:Cl):Prop:=free c=true/\∃ n,ends n=true/\Path free c k n
theorem xv9 {free ends:Cl->Bool}{c:Cl}:jz8 free ends 0 c↔free c=true/\ends c=true:=by
 constructor
 ·rintro ⟨h1,n,h2,h3⟩
  cases h3
  exact ⟨h1,h2⟩
 ·rintro ⟨h1,h2⟩
  exact ⟨h1,c,h2,.nil⟩
theorem yw5 {free ends:Cl->Bool}{k:Nat}{c:Cl}(hon:∀ x:Cl,free x=true->onB x.1 x.2=true):jz8 free ends (k+1) c↔free c=true/\∃ q,jz8 free ends k q/\c∈qj0 q.1 q.2:=by
 constructor
 ·rintro ⟨h1,n,h2,h3⟩
  obtain ⟨p,p1,p2,p3⟩:=h3.uncons k rfl
  exact ⟨h1,p,⟨p2,n,h2,p3⟩,xk3 (hon c h1) p1⟩
 ·rintro ⟨h1,q,⟨q1,n,q2,q3⟩,h2⟩
  exact ⟨h1,n,q2,Path.cons (xk3 (hon q q1) h2) q1 q3⟩
def lvK [∀ p:Prop,Decidable p] (P:Nat->Cl->Prop):Nat->Cl->Nat
 | 0,_=>0
 | n+1,c=>if lvK P n c≠0 then lvK P n c else if P n c then n+1 else 0
theorem jx1 {P:Nat->Cl->Prop}:∀ {n:Nat} {c:Cl},lvK P n c=0↔∀ m,m < n->¬ P m c
 | 0,c=>by simp [lvK]
 | n+1,c=>by
  have ih:=@jx1 P n c
  unfold lvK
  constructor
  ·intro h m hm hp
   split at h
   ·rename_i h1;exact h1 h
   ·rename_i h1
    have h0:lvK P n c=0:=by omega
    split at h
    ·omega
    ·rename_i h2
     by_cases e:m=n
     ·subst e;exact h2 hp
     ·exact ih.1 h0 m (by omega) hp
  ·intro h
   have h0:lvK P n c=0:=ih.2 (fun m hm=>h m (by omega))
   rw [if_neg (by omega),if_neg (h n (by omega))]
theorem zz3 {P:Nat->Cl->Prop}:∀ {n:Nat} {c:Cl} {k:Nat},lvK P n c=k+1↔k < n/\P k c/\∀ m,m < k->¬ P m c
 | 0,c,k=>by simp [lvK]
 | n+1,c,k=>by
  have ih:=@zz3 P n c k
  have hz:=@jx1 P n c
  unfold lvK
  constructor
  ·intro h
   split at h
   ·obtain ⟨h1,h2,h3⟩:=ih.1 h
    exact ⟨by omega,h2,h3⟩
   ·rename_i h1
    split at h
    ·rename_i h2
     have:k=n:=by omega
     subst this
     exact ⟨by omega,h2,hz.1 (by omega)⟩
    ·omega
  ·rintro ⟨h1,h2,h3⟩
   by_cases e:k < n
   ·have:=ih.2 ⟨e,h2,h3⟩
    rw [if_pos (by omega),this]
   ·have:k=n:=by omega
    subst this
    rw [if_neg (by have:=hz.2 h3;omega),if_pos h2]
theorem gk4 {P:Nat->Cl->Prop}(n:Nat)(c:Cl):lvK P n c<=n:=by
 cases h:lvK P n c with
 | zero=>omega
 | succ k=>have:=zz3.1 h;omega
theorem kv1 {free:Cl->Bool}{P:Nat->Cl->Prop}(hs:∀ k c,P (k+1) c↔free c=true/\∃ q,P k q/\c∈qj0 q.1 q.2){n:Nat}(hn:0 < n){c:Cl}(h:lvK P n c=0):lvK P (n+1) c=n+1↔free c=true/\∃ q,lvK P n q=n/\c∈qj0 q.1 q.2:=by
 obtain ⟨m,rfl⟩:∃ m,n=m+1:=⟨n - 1,by omega⟩
 have hz:=jx1.1 h
 constructor
 ·intro h1
  obtain ⟨_,h2,_⟩:=zz3.1 h1
  obtain ⟨hf,q,hp,hm⟩:=(hs m c).1 h2
  refine ⟨hf,q,?_,hm⟩
  apply zz3.2
  exact ⟨by omega,hp,fun i hi hq=>hz (i+1) (by omega) ((hs i c).2 ⟨hf,q,hq,hm⟩)⟩
 ·rintro ⟨hf,q,hq,hm⟩
  obtain ⟨_,hp,_⟩:=zz3.1 hq
  apply zz3.2
  exact ⟨by omega,(hs m c).2 ⟨hf,q,hp,hm⟩,hz⟩
theorem kv0 {P:Nat->Cl->Prop}{n:Nat}{c:Cl}(h:lvK P n c≠0):lvK P (n+1) c=lvK P n c:=by
 rw [lvK, if_pos h]
theorem fz1 {P:Nat->Cl->Prop}{n:Nat}{c:Cl}(h:lvK P n c=0)(h1:lvK P (n+1) c≠n+1):lvK P (n+1) c=0:=by
 cases e:lvK P (n+1) c with
 | zero=>rfl
 | succ k =>
  obtain ⟨hk,hp,_⟩:=zz3.1 e
  by_cases hkn:k=n
  ·subst hkn;exact absurd e h1
  ·exact absurd hp (jx1.1 h k (by omega))
def lvM [∀ p:Prop,Decidable p] (free:Cl->Bool) (P:Nat->Cl->Prop) (n p:Nat) (ns:List Cl) (c:Cl):Nat :=
  if lvK P n c≠0 then lvK P n c else if free c=true/\(c∈ns\/∃ q,ci q.1 q.2 < p/\onB q.1 q.2=true/\lvK P n q=n/\c∈qj0 q.1 q.2) then n+1 else 0
theorem jx2 {free:Cl->Bool}{P:Nat->Cl->Prop}(n:Nat)(c:Cl):lvM free P n 0 [] c=lvK P n c:=by
 unfold lvM
 split
 ·rfl
 ·rename_i h
  rw [if_neg (by rintro ⟨_,h1|⟨q,h1,_⟩⟩ <;> simp at h1)]
  omega
theorem vq7 {free:Cl->Bool}{P:Nat->Cl->Prop}(hs:∀ k c,P (k+1) c↔free c=true/\∃ q,P k q/\c∈qj0 q.1 q.2)(hon:∀ k c,P k c->onB c.1 c.2=true){n:Nat}(hn:0 < n)(c:Cl):lvM free P n 144 [] c=lvK P (n+1) c:=by
 unfold lvM
 split
 ·rename_i h
  rw [kv0 h]
 ·rename_i h
  have h0:lvK P n c=0:=by omega
  split
  ·rename_i h1
   obtain ⟨hf,h1|⟨q,_,_,hq,hm⟩⟩:=h1
   ·simp at h1
   ·exact ((kv1 hs hn h0).2 ⟨hf,q,hq,hm⟩).symm
  ·rename_i h1
   refine (fz1 h0 (fun e=>?_)).symm
   obtain ⟨hf,q,hq,hm⟩:=(kv1 hs hn h0).1 e
   obtain ⟨m,rfl⟩:∃ m,n=m+1:=⟨n - 1,by omega⟩
   have hq2:=hon _ _ (zz3.1 hq).2.1
   exact h1 ⟨hf,Or.inr ⟨q,zz0 hq2,hq2,hq,hm⟩⟩
theorem qjj6 {free:Cl->Bool}{P:Nat->Cl->Prop}{n:Nat}(hn:0 < n)(p:Nat)(ns:List Cl)(c:Cl):lvM free P n p ns c=n↔lvK P n c=n:=by
 unfold lvM
 constructor
 ·intro h
  split at h
  ·exact h
  ·split at h <;> omega
 ·intro h
  rw [if_pos (by omega),h]
theorem qqx5 {free:Cl->Bool}{P:Nat->Cl->Prop}{n p:Nat}{ns:List Cl}(q c:Cl):lvM free P n p (ns ++ [q]) c=if c=q/\free q=true/\lvM free P n p ns q=0 then n+1 else lvM free P n p ns c:=by
 by_cases hc:c=q/\free q=true/\lvM free P n p ns q=0
 ·rw [if_pos hc]
  obtain ⟨rfl,h1,h2⟩:=hc
  unfold lvM at h2 |-
  by_cases h0:lvK P n c≠0
  ·rw [if_pos h0] at h2
   exact absurd h2 h0
  ·rw [if_neg h0,if_pos ⟨h1,Or.inl (by simp)⟩]
 ·rw [if_neg hc]
  unfold lvM at hc |-
  by_cases h0:lvK P n c≠0
  ·rw [if_pos h0,if_pos h0]
  ·rw [if_neg h0,if_neg h0]
   by_cases h1:free c=true/\(c∈ns\/∃ q,ci q.1 q.2 < p/\onB q.1 q.2=true/\lvK P n q=n/\c∈qj0 q.1 q.2)
   ·rw [if_pos h1,if_pos ⟨h1.1,h1.2.imp (fun h=>List.mem_append_left _ h) id⟩]
   ·rw [if_neg h1,if_neg]
    rintro ⟨hf,h2|h2⟩
    ·rcases List.mem_append.1 h2 with h2|h2
     ·exact h1 ⟨hf,Or.inl h2⟩
     ·have:c=q:=by simpa using h2
      subst this
      refine hc ⟨rfl,hf,?_⟩
      rw [if_neg h0,if_neg h1]
    ·exact h1 ⟨hf,Or.inr h2⟩
theorem kv2 {free:Cl->Bool}{P:Nat->Cl->Prop}{n:Nat}{p:Nat}{q:Cl}(hq:onB q.1 q.2=true)(hqp:ci q.1 q.2=p)(hinj:∀ x:Cl,onB x.1 x.2=true->ci x.1 x.2=p->x=q){ns:List Cl}(h:(lvK P n q=n/\ns=qj0 q.1 q.2)\/(lvK P n q≠n/\ns=[]))(c:Cl):lvM free P n (p+1) [] c=lvM free P n p ns c:=by
 have hiff:(free c=true/\(c∈([]:List Cl)\/∃ x,ci x.1 x.2 < p+1/\onB x.1 x.2=true/\lvK P n x=n/\c∈qj0 x.1 x.2))↔(free c=true/\(c∈ns\/∃ x,ci x.1 x.2 < p/\onB x.1 x.2=true/\lvK P n x=n/\c∈qj0 x.1 x.2)):=by
  constructor
  ·rintro ⟨hf,h1|⟨x,hx,ho,hl,hm⟩⟩
   ·simp at h1
   ·refine ⟨hf,?_⟩
    by_cases e:ci x.1 x.2=p
    ·have:=hinj x ho e
     subst this
     rcases h with ⟨_,h⟩|⟨h,_⟩
     ·rw [h];exact Or.inl hm
     ·exact absurd hl h
    ·exact Or.inr ⟨x,by omega,ho,hl,hm⟩
  ·rintro ⟨hf,h1|⟨x,hx,ho,hl,hm⟩⟩
   ·rcases h with ⟨h2,h⟩|⟨_,h⟩
    ·rw [h] at h1
     exact ⟨hf,Or.inr ⟨q,by omega,hq,h2,h1⟩⟩
    ·rw [h] at h1;simp at h1
   ·exact ⟨hf,Or.inr ⟨x,by omega,ho,hl,hm⟩⟩
 unfold lvM
 by_cases h0:lvK P n c≠0
 ·rw [if_pos h0,if_pos h0]
 ·rw [if_neg h0,if_neg h0]
  by_cases hc:free c=true/\(c∈ns\/∃ x,ci x.1 x.2 < p/\onB x.1 x.2=true/\lvK P n x=n/\c∈qj0 x.1 x.2)
  ·rw [if_pos hc,if_pos (hiff.2 hc)]
  ·rw [if_neg hc,if_neg (fun x=>hc (hiff.1 x))]
theorem dk5 {free:Cl->Bool}{P:Nat->Cl->Prop}(hs:∀ k c,P (k+1) c↔free c=true/\∃ q,P k q/\c∈qj0 q.1 q.2){n:Nat}(hn:0 < n)(h:∀ c,lvK P (n+1) c≠n+1):∀ k c,n<=k->P k c->∃ m,m < n/\P m c:=by
 have hstep:∀ c,P n c->∃ m,m < n/\P m c:=fun c hp=>by
  by_cases hz:lvK P n c=0
  ·exact absurd (zz3.2 ⟨Nat.lt_succ_self n,hp,jx1.1 hz⟩) (h c)
  ·obtain ⟨k,hk⟩:∃ k,lvK P n c=k+1:=⟨lvK P n c - 1,by omega⟩
   obtain ⟨h1,h2,_⟩:=zz3.1 hk
   exact ⟨k,h1,h2⟩
 intro k
 induction k with
 | zero=>intro c hk _;omega
 | succ k ih =>
  intro c hk hp
  by_cases e:n=k+1
  ·subst e;exact hstep c hp
  ·obtain ⟨hf,q,hq,hm⟩:=(hs k c).1 hp
   obtain ⟨m,hm1,hm2⟩:=ih q (by omega) hq
   by_cases e2:m+1=n
   ·rw [<- e2] at hstep
    have:=hstep c ((hs m c).2 ⟨hf,q,hm2,hm⟩)
    rw [e2] at this
    exact this
   ·exact ⟨m+1,by omega,(hs m c).2 ⟨hf,q,hm2,hm⟩⟩
structure FarX (free ends:Cl->Bool) (d:Cl->Nat):Prop where
 is:∀ c k,d c=k+1->jz8 free ends k c/\∀ m,m < k->¬ jz8 free ends m c
 all:∀ c k,k<=143->jz8 free ends k c->d c≠0
theorem fq0 {free ends:Cl->Bool}(hon:∀ x:Cl,free x=true->onB x.1 x.2=true){n:Nat}(hn:0 < n)(h:n=145\/∀ c,lvK (jz8 free ends) (n+1) c≠n+1):FarX free ends (lvK (jz8 free ends) n):=by
 refine ⟨fun c k hk=>(zz3.1 hk).2,fun c k hk hw h0=>?_⟩
 have hz:=jx1.1 h0
 by_cases e:k < n
 ·exact hz k e hw
 ·rcases h with h|h
  ·omega
  ·obtain ⟨m,h1,h2⟩:=dk5 (fun k c=>yw5 hon) hn h k c (by omega) hw
   exact hz m h1 h2
def zq9 (d:Cl->Nat):List Cl->Nat×Cl->Nat×Cl
 | [],s=>s
 | n :: ns,(b,r)=>if 0 < d n/\(b=0\/d n < b) then zq9 d ns (d n,n) else zq9 d ns (b,r)
theorem vv2 (d:Cl->Nat)(a:Cl):∀ (ns pre:List Cl) (s:Nat×Cl),((s=(0,a)/\∀ f∈pre,d f=0)\/(s.2∈pre/\s.1=d s.2/\0 < d s.2/\∀ f∈pre,0 < d f->d s.2<=d f/\(d f=d s.2->pre.idxOf s.2<=pre.idxOf f))) ->
  ((zq9 d ns s=(0,a)/\∀ f∈pre ++ ns,d f=0)\/((zq9 d ns s).2∈pre ++ ns/\0 < d (zq9 d ns s).2/\∀ f∈pre ++ ns,0 < d f->d (zq9 d ns s).2<=d f/\(d f=d (zq9 d ns s).2->(pre ++ ns).idxOf (zq9 d ns s).2<=(pre ++ ns).idxOf f)))
 | [],pre,s,h=>by
  rw [List.append_nil]
  rcases h with h|⟨h1,h2,h3,h4⟩
  ·exact Or.inl h
  ·exact Or.inr ⟨h1,h3,h4⟩
 | n :: ns,pre,(b,r),h=>by
  have e:pre ++ n :: ns=(pre ++ [n]) ++ ns:=by simp
  rw [e]
  unfold zq9
  split
  ·rename_i hc
   refine vv2 d a ns (pre ++ [n]) (d n,n) (Or.inr ⟨by simp,rfl,hc.1,fun f hf hp=>?_⟩)
   dsimp only
   rcases List.mem_append.1 hf with hf1|hf1
   ·rcases h with ⟨_,h⟩|⟨h1,h2,h3,h4⟩
    ·have:=h f hf1
     omega
    ·dsimp only at h1 h2 h3 h4
     have:=(h4 f hf1 hp).1
     omega
   ·have:f=n:=by simpa using hf1
    subst this
    exact ⟨Nat.le_refl _,fun _=>Nat.le_refl _⟩
  ·rename_i hc
   refine vv2 d a ns (pre ++ [n]) (b,r) ?_
   rcases h with ⟨h0,h⟩|⟨h1,h2,h3,h4⟩
   ·refine Or.inl ⟨h0,fun f hf=>?_⟩
    rcases List.mem_append.1 hf with hf1|hf1
    ·exact h f hf1
    ·have:f=n:=by simpa using hf1
     subst this
     have hb:b=0:=by simpa using congrArg Prod.fst h0
     rcases Nat.eq_zero_or_pos (d f) with e|e
     ·exact e
     ·exact absurd ⟨e,Or.inl hb⟩ hc
   ·dsimp only at h1 h2 h3 h4
    refine Or.inr ⟨by simp [h1],h2,h3,fun f hf hp=>?_⟩
    dsimp only
    rw [List.idxOf_append,if_pos h1,List.idxOf_append]
    rcases List.mem_append.1 hf with hf1|hf1
    ·rw [if_pos hf1]
     exact h4 f hf1 hp
    ·have:f=n:=by simpa using hf1
     subst this
     have hle:d r<=d f:=by
      rcases Nat.lt_or_ge (d f) (d r) with e|e
      ·exact absurd ⟨hp,Or.inr (by omega)⟩ hc
      ·exact e
     refine ⟨hle,fun hd=>?_⟩
     split
     ·rename_i hm;exact (h4 f hm hp).2 hd
     ·have:=List.idxOf_lt_length_of_mem h1
      omega
theorem dw2 {free ends:Cl->Bool}{a:Cl}(hfa:free a=false)(ha:onB a.1 a.2=true)(hea:ends a=false){d:Cl->Nat}(hd:FarX free ends d):(zq9 d (qj0 a.1 a.2) (0,a)).2=bfs free ends a:=by
 have hF:=fx2 hfa ha hea
 have h1:=fx1 hfa hea
 obtain ⟨r,hr⟩:∃ r,bfs free ends a=r:=⟨_,rfl⟩
 rw [hr] at hF h1 |-
 have hp:=vv2 d a (qj0 a.1 a.2) [] (0,a) (Or.inl ⟨rfl,by simp⟩)
 rw [List.nil_append] at hp
 have hdw:∀ c,0 < d c->∃ k,d c=k+1/\jz8 free ends k c/\∀ m,m < k->¬ jz8 free ends m c:=fun c hc=>⟨d c - 1,by omega,hd.is c (d c - 1) (by omega)⟩
 rcases hF with ⟨g1,g2,k,n,gk,gn,gp,gm⟩|⟨g1,g2⟩
 ·have hdr:=hd.all r k gk ⟨g2,n,gn,gp⟩
  rcases hp with ⟨_,hp⟩|⟨p1,p2,p3⟩
  ·exact absurd (hp r g1) hdr
  ·obtain ⟨s,hs⟩:∃ s,(zq9 d (qj0 a.1 a.2) (0,a)).2=s:=⟨_,rfl⟩
   rw [hs] at p1 p2 p3 |-
   obtain ⟨ks,e1,⟨e2,n2,e3,e4⟩,e5⟩:=hdw s p2
   obtain ⟨kr,f1,⟨f2,n3,f3,f4⟩,f5⟩:=hdw r (by omega)
   have a1:=gm _ n2 e3 (Path.cons p1 e2 e4)
   have a2:=(p3 r g1 (by omega)).1
   have a3:kr<=k:=by
    rcases Nat.lt_or_ge k kr with h|h
    ·exact absurd ⟨g2,n,gn,gp⟩ (f5 k h)
    ·exact h
   have hk:ks=k:=by omega
   subst hk
   have hne:r≠a:=fun e=>by rw [e,hfa] at g2;cases g2
   have b1:=h1 hne ks n gn gp gm s n2 p1 e2 e3 e4
   have b2:=(p3 r g1 (by omega)).2 (by omega)
   unfold psn at b1
   have b3:(qj0 a.1 a.2).idxOf s=(qj0 a.1 a.2).idxOf r:=by omega
   have c1:=List.getElem_idxOf (List.idxOf_lt_length_of_mem p1)
   have c2:=List.getElem_idxOf (List.idxOf_lt_length_of_mem g1)
   rw [<- c1,<- c2]
   congr 1
 ·rcases hp with ⟨hp,_⟩|⟨p1,p2,_⟩
  ·rw [hp,g1]
  ·obtain ⟨ks,_,⟨e2,n2,e3,e4⟩,_⟩:=hdw _ p2
   exact absurd (Path.cons p1 e2 e4) (g2 _ _ e3)
def zv8 (us:List U)(c:Cl):Bool:=us.any fun u=>u.x==c.1&&u.y==c.2
def qk5 (us:List U)(bd:Nat->Int)(c:Cl):Bool:=onB c.1 c.2&&(bd (ci c.1 c.2)==0 && !zv8 us c)
theorem kx7 {us:List U}{bd:Nat->Int}:∀ c:Cl,qk5 us bd c=true->onB c.1 c.2=true:=fun c h=>by
 unfold qk5 at h
 simp at h
 exact h.1
theorem fk7 {t:T}(h:TOk t)(c:Cl):(t.held c).isSome=zv8 t.us c:=by
 rw [Bool.eq_iff_iff]
 unfold zv8
 rw [List.any_eq_true]
 constructor
 ·intro h1
  obtain ⟨i,hi⟩:=Option.isSome_iff_exists.1 h1
  obtain ⟨u,hu,_,e⟩:=h.hel c i hi
  refine ⟨u,hu,?_⟩
  rw [<- e]
  simp
 ·rintro ⟨u,hu,e⟩
  have e':(u.x,u.y)=c:=by
   simp at e
   exact Prod.ext e.1 e.2
  rw [<- e',(h.all u hu).hd]
  rfl
theorem kx6 {t:T}(h:TOk t)(c:Cl)(hc:onB c.1 c.2=true):qv3 (qx2 t.held) t.bd c.1 c.2=qk5 t.us t.bd c:=by
 unfold qv3 qk5
 rw [hc,<- fk7 h c]
 simp [qx2,Bool.and_comm]
theorem xz6 {f f' e e':Cl->Bool}(h:∀ c:Cl,onB c.1 c.2=true->f c=f' c/\e c=e' c)(i:Nat)(cur:Cl):∀ (ns:List Cl) (s:Bs),(∀ n∈ns,onB n.1 n.2=true)->bIn f e i cur ns s=bIn f' e' i cur ns s
 | [],s,_=>rfl
 | n :: ns,s,hn=>by
  obtain ⟨h1,h2⟩:=h n (hn n (by simp))
  unfold bIn
  rw [h1,h2]
  have ih:=fun s=>xz6 h i cur ns s (fun m hm=>hn m (by simp [hm]))
  simp only [ih]
theorem vz7 {f f' e e':Cl->Bool}(h:∀ c:Cl,onB c.1 c.2=true->f c=f' c/\e c=e' c)(a:Cl):∀ (fuel i:Nat) (s:Bs),zk7 f e a fuel i s=zk7 f' e' a fuel i s
 | 0,_,_=>rfl
 | fuel+1,i,s=>by
  unfold zk7
  cases hq:s.q[i]? with
  | none=>rfl
  | some cur =>
   dsimp only
   rw [xz6 h i cur _ s (jk0 _ _)]
   cases bIn f' e' i cur (qj0 cur.1 cur.2) s with
   | inl c=>rfl
   | inr s'=>exact vz7 h a fuel (i+1) s'
theorem fx0 {f f' e e':Cl->Bool}(h:∀ c:Cl,onB c.1 c.2=true->f c=f' c/\e c=e' c)(a:Cl):bfs f e a=bfs f' e' a:=vz7 h a _ _ _
theorem qzx2 {t:T}(h:TOk t){u:U}(hu:u∈t.us){ends ends':Cl->Bool}(he:∀ c:Cl,onB c.1 c.2=true->ends c=ends' c)(hea:ends' (u.x,u.y)=false){d:Cl->Nat}(hd:FarX (qk5 t.us t.bd) ends' d):(zq9 d (qj0 u.x u.y) (0,(u.x,u.y))).2=qv7 t u ends:=by
 have hs:zv8 t.us (u.x,u.y)=true:=by
  unfold zv8
  rw [List.any_eq_true]
  exact ⟨u,hu,by simp⟩
 have hfa:qk5 t.us t.bd (u.x,u.y)=false:=by
  unfold qk5
  rw [hs]
  simp
 have:=dw2 (a:=(u.x,u.y)) hfa (h.all u hu).on hea hd
 rw [this]
 exact fx0 (fun c hc=>⟨(kx6 h c hc).symm,(he c hc).symm⟩) _
end Go.Proofs.YtapabahhfanmmaaGreatDoor
