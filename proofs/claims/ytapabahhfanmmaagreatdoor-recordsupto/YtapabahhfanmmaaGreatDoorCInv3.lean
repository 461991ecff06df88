import Derived.Test.YtapabahhfanmmaaGreatDoorCBuild
namespace Go.Proofs.YtapabahhfanmmaaGreatDoor
open Go.RowKit List
set_option maxHeartbeats 1000000
theorem pW {free ends:Cl->Bool}{a:Cl}{i:Nat}{cur:Cl}:∀ (ns:List Cl) (s:Bs),(∀ k c,s.g k=some c->c∈aG a.1 a.2/\free c=true)->(0 < i->(s.g cur).isSome=true)->(i=0->∀ n∈ns,n∈aG a.1 a.2) ->
  (∀ c,bF free ends i cur ns s=.inl c->c∈aG a.1 a.2/\free c=true) /\
  (∀ s',bF free ends i cur ns s=.inr s'->(∀ k c,s'.g k=some c->c∈aG a.1 a.2/\free c=true)/\(∃ m,s'.q=s.q ++ m/\∀ n∈m,(s'.g n).isSome=true)/\∀ k,(s.g k).isSome=true->(s'.g k).isSome=true)
 | [],s,h1,_,_=>by
  unfold bF
  refine ⟨fun c h=>(by cases h),fun s' h=>?_⟩
  cases h
  exact ⟨h1,⟨[],by simp,by simp⟩,fun _ h=>h⟩
 | n :: ns,s,h1,j,l=>by
  unfold bF
  have hn:free n=true->(if 0 < i then (s.g cur).getD (0,0) else n)∈aG a.1 a.2/\free (if 0 < i then (s.g cur).getD (0,0) else n)=true:=by
   intro f
   by_cases hi:0 < i
   ·rw [if_pos hi]
    obtain ⟨c,e⟩:=Option.isSome_iff_exists.1 (j hi)
    rw [e]
    exact h1 _ _ e
   rw [if_neg hi]
   exact ⟨l (by omega) n (by simp),f⟩
  split
  ·exact pW ns s h1 j (fun hi m hm=>l hi m (by simp [hm]))
  rename_i e
  have f:free n=true:=by
   cases h:free n with
   | true=>rfl
   | false=>simp [h] at e
  split
  ·refine ⟨fun c h=>?_,fun s' h=>by cases h⟩
   cases h
   exact hn f
  have p:=pW (free:=free) (ends:=ends) (a:=a) (i:=i) (cur:=cur) ns ⟨s.q ++ [n],fun k=>if k=n then some (if 0 < i then (s.g cur).getD (0,0) else n) else s.g k⟩
   (fun k c b=>by
    dsimp only at b
    by_cases d:k=n
    ·rw [if_pos d] at b
     cases b
     exact hn f
    rw [if_neg d] at b
    exact h1 k c b)
   (fun hi=>by
    dsimp only
    by_cases d:cur=n
    ·rw [if_pos d];rfl
    rw [if_neg d];exact j hi)
   (fun hi m hm=>l hi m (by simp [hm]))
  refine ⟨p.1,fun s' h=>?_⟩
  obtain ⟨r,⟨m,t,u⟩,o⟩:=p.2 s' h
  refine ⟨r,⟨n :: m,by rw [t];simp,fun k b=>?_⟩,fun k b=>o k ?_⟩
  ·rcases mem_cons.1 b with rfl|b
   ·exact o k (by simp)
   exact u k b
  dsimp only
  by_cases d:k=n
  ·rw [if_pos d];rfl
  rw [if_neg d];exact b
theorem tU {free ends:Cl->Bool}{a:Cl}:∀ (fuel i:Nat) (s:Bs),(∀ k c,s.g k=some c->c∈aG a.1 a.2/\free c=true)->(∀ j c,0 < j->s.q[j]?=some c->(s.g c).isSome=true)->s.q[0]?=some a ->
  cY free ends a fuel i s=a\/(cY free ends a fuel i s∈aG a.1 a.2/\free (cY free ends a fuel i s)=true)
 | 0,i,s,_,_,_=>by unfold cY;exact .inl rfl
 | fuel+1,i,s,h1,f,d=>by
  unfold cY
  cases e:s.q[i]? with
  | none=>exact .inl rfl
  | some cur =>
   dsimp only
   have hb:=pW (free:=free) (ends:=ends) (a:=a) (i:=i) (cur:=cur) (aG cur.1 cur.2) s h1 (fun hi=>f i cur hi e) (fun hi n hn=>by
    subst hi
    rw [d] at e
    cases e
    exact hn)
   cases h:bF free ends i cur (aG cur.1 cur.2) s with
   | inl c=>exact .inr (hb.1 c h)
   | inr s' =>
    obtain ⟨p,⟨m,l,r⟩,t⟩:=hb.2 s' h
    refine tU fuel (i+1) s' p (fun j c o b=>?_) ?_
    ·rw [l] at b
     by_cases hl:j < s.q.length
     ·rw [getElem?_append_left hl] at b
      exact t c (f j c o b)
     rw [getElem?_append_right (by omega)] at b
     exact r c (mem_of_getElem? b)
    have hl:0 < s.q.length:=(gs.1 d).1
    rw [l,getElem?_append_left hl]
    exact d
theorem DT (free ends:Cl->Bool)(a:Cl):cQ free ends a=a\/(cQ free ends a∈aG a.1 a.2/\free (cQ free ends a)=true):=by
 unfold cQ
 refine tU 146 0 _ (fun k c h=>by cases h) (fun j c b h=>?_) rfl
 cases j with
 | zero=>omega
 | succ j=>simp at h
theorem xH {x y:Int}{c:Cl}(h:c∈aG x y):aD c.1 c.2=true/\(c.1 - x)*(c.1 - x)+(c.2 - y)*(c.2 - y)=1:=by
 refine ⟨kJ x y c h,?_⟩
 have h1:=(mem_filter.1 h).1
 simp [sds] at h1
 rcases h1 with rfl|rfl|rfl|rfl <;> simp <;> omega
theorem mM {α β:Type}(f:α->β):∀ (l:List α) (i:Nat) (u u':α),l[i]?=some u->f u'=f u->(l.set i u').map f=l.map f
 | [],_,_,_,h,_=>by simp at h
 | a :: l,0,u,u',h,e=>by simp at h;subst h;simp [e]
 | a :: l,i+1,u,u',h,e=>by simpa using mM f l i u u' (by simpa using h) e
theorem sC {α:Type}:∀ (l:List α) (i:Nat) (u:α),l[i]?=some u->l.set i u=l
 | [],_,_,h=>by simp at h
 | a :: l,0,u,h=>by simp at h;subst h;rfl
 | a :: l,i+1,u,h=>by simpa using sC l i u (by simpa using h)
theorem jU {α:Type}{l:List α}{i:Nat}{u' v:α}(h:v∈l.set i u'):v=u'\/∃ j,j≠i/\l[j]?=some v:=by
 obtain ⟨j,a⟩:=getElem?_of_mem h
 rw [getElem?_set] at a
 by_cases e:i=j
 ·rw [if_pos e] at a
  by_cases hl:i < l.length
  ·rw [if_pos hl] at a;cases a;exact .inl rfl
  rw [if_neg hl] at a;cases a
 rw [if_neg e] at a
 exact .inr ⟨j,fun h=>e h.symm,a⟩
theorem xD {α:Type}{l:List α}{i:Nat}{u u':α}(h:l[i]?=some u):u'∈l.set i u':=by
 have hl:=(gs.1 h).1
 exact mem_of_getElem? (i:=i) (by rw [getElem?_set_self hl])
theorem xE {α:Type}{l:List α}{i j:Nat}{u' v:α}(h:l[j]?=some v)(hn:j≠i):v∈l.set i u' :=
  mem_of_getElem? (i:=j) (by rw [getElem?_set_ne (fun e=>hn e.symm)];exact h)
theorem sJ (f:U->Int):∀ (l:List U) (i:Nat) (u u':U),l[i]?=some u->((l.set i u').map f).sum=(l.map f).sum - f u+f u'
 | [],_,_,_,h=>by simp at h
 | a :: l,0,u,u',h=>by simp at h;subst h;simp;omega
 | a :: l,i+1,u,u',h=>by
  have:=sJ f l i u u' (by simpa using h)
  simp at this |-
  omega
theorem BA (f:U->Int):∀ (l:List U) (i:Nat) (u:U),l[i]?=some u->((l.eraseIdx i).map f).sum=(l.map f).sum - f u
 | [],_,_,h=>by simp at h
 | a :: l,0,u,h=>by simp at h;subst h;simp;omega
 | a :: l,i+1,u,h=>by
  have:=BA f l i u (by simpa using h)
  simp at this |-
  omega
theorem qH (p:U->Bool):∀ (l:List U) (i:Nat) (u:U),l[i]?=some u->(l.eraseIdx i).countP p+(if p u then 1 else 0)=l.countP p
 | [],_,_,h=>by simp at h
 | a :: l,0,u,h=>by simp at h;subst h;simp [countP_cons]
 | a :: l,i+1,u,h=>by
  have:=qH p l i u (by simpa using h)
  simp only [eraseIdx_cons_succ,countP_cons] at this |-
  omega
theorem jR (p:U->Bool)(l:List U)(i:Nat)(u u':U)(h:l[i]?=some u)(e:p u'=p u):(l.set i u').countP p=l.countP p:=by
 have h1:∀ m:List U,m.countP p=(m.map p).countP id:=fun m=>by rw [countP_map];rfl
 rw [h1,h1,mM p l i u u' h e]
theorem BB (f:Nat->Int)(k:Nat)(v:Int):∀ n,k < n->((range n).map fun i=>if i=k then v else f i).sum=((range n).map f).sum - f k+v
 | 0,h=>by omega
 | n+1,h=>by
  rw [range_succ,map_append,map_append,sum_append,sum_append]
  by_cases e:k < n
  ·rw [BB f k v n e]
   have:n≠k:=by omega
   rw [map_singleton,map_singleton,if_neg this]
   omega
  have:n=k:=by omega
  subst this
  have a:((range n).map fun i=>if i=n then v else f i)=(range n).map f:=by
   apply map_congr_left
   intro i hi
   have:=mem_range.1 hi
   rw [if_neg (by omega)]
  rw [a,map_singleton,map_singleton,if_pos rfl]
  simp
def iQ (u:U):Prop:=u.what=0\/(u.what=1/\(u.kind=2\/u.kind=3))\/(u.what=2/\u.kind=2/\aD u.tox u.toy=true)\/(u.what=3/\u.kind=3)\/(u.what=4/\u.kind=1/\(u.tox=2\/u.tox=3))
structure UOk (bd:Nat->Int) (held:Cl->Option Int) (next:Int) (u:U):Prop where
 on:aD u.x u.y=true
 gr:bd (ci u.x u.y)=0
 hd:held (u.x,u.y)=some u.id
 ow:u.owner=0\/u.owner=1
 kd:u.kind=1\/u.kind=2\/u.kind=3
 lf:1<=u.life/\u.life<=cT u.kind
 ld:0<=u.load/\u.load<=5/\(0 < u.load->u.kind=2)
 id:1<=u.id/\u.id < next
 od:iQ u
structure TOk (t:T):Prop where
 rise:Rise t.us
 all:∀ u∈t.us,UOk t.bd t.held t.next u
 hel:∀ c i,t.held c=some i->∃ u∈t.us,u.id=i/\(u.x,u.y)=c
 nx:1<=t.next/\t.next<=1000000000
 st:(0<=t.s0/\t.s0<=1000000000)/\(0<=t.s1/\t.s1<=1000000000)
 bd:∀ i,i < 144->0<=t.bd i/\t.bd i<=10
 len:t.us.length<=100
 b0:t.us.countP (aT 0)<=1
 b1:t.us.countP (aT 1)<=1
 bs:1<=t.us.countP (aT 0)+t.us.countP (aT 1)
def kM (a:Nat->Int)(i:Nat):Int:=if a i < 10 then a i else 0
def kN (a:Nat->Int):Int:=((range 144).map (kM a)).sum
def worth (u:U):Int:=u.load+eT u.kind
def kD (t:T):Int:=t.s0+t.s1+kN t.bd+(t.us.map worth).sum
theorem oZ {us:List U}:Rise us↔(us.map U.id).Pairwise (· < ·):=by unfold Rise;rw [pairwise_map]
theorem Rise.set {us:List U}(h:Rise us){i:Nat}{u u':U}(hi:us[i]?=some u)(e:u'.id=u.id):Rise (us.set i u'):=by
 rw [oZ] at h |-
 rwa [mM U.id us i u u' hi e]
theorem Rise.ne {us:List U}(h:Rise us){i j:Nat}{a b:U}(hi:us[i]?=some a)(d:us[j]?=some b)(c:i≠j):a.id≠b.id:=by
 rcases Nat.lt_or_gt_of_ne c with h1|h1
 ·have:=h.lt hi d h1;omega
 have:=h.lt d hi h1;omega
theorem NU (us:List U):bD us=false↔1<=us.countP (aT 0)/\1<=us.countP (aT 1):=by
 have h:∀ o,(bT us o).isSome=true↔1<=us.countP (aT o):=fun o=>by
  unfold bT
  rw [find?_isSome,show (1<=us.countP (aT o))↔0 < us.countP (aT o) from Iff.rfl,countP_pos_iff]
 unfold bD
 rw [<- h 0,<- h 1]
 cases (bT us 0).isSome <;> cases (bT us 1).isSome <;> simp
theorem wR (k:Int):cT k<=40:=by unfold cT;split <;> (try split) <;> omega
theorem TOk.put {t d:T} (h:TOk t) {i:Nat} {u u':U} (hi:t.us[i]?=some u) (a:d.us=t.us.set i u') (m:d.held=t.held) (p:d.next=t.next)
  (A:(0<=d.s0/\d.s0<=1000000000)/\(0<=d.s1/\d.s1<=1000000000)) (w:∀ k,k < 144->0<=d.bd k/\d.bd k<=10) (l:∀ k,t.bd k=0->d.bd k=0)
  (q:u'.id=u.id) (B:u'.owner=u.owner) (C:u'.kind=u.kind) (r:u'.x=u.x) (s:u'.y=u.y) (hl:1<=u'.life/\u'.life<=cT u'.kind) (z:0<=u'.load/\u'.load<=5/\(0 < u'.load->u'.kind=2)) (ho:iQ u'):TOk d:=by
 have g:=h.all u (mem_of_getElem? hi)
 have b:∀ o,aT o u'=aT o u:=fun o=>by unfold aT;rw [B,C]
 refine ⟨?_,?_,?_,?_,A,w,?_,?_,?_,?_⟩
 ·rw [a];exact h.rise.set hi q
 ·intro v f
  rw [a] at f
  rw [m,p]
  rcases jU f with rfl|⟨j,_,n⟩
  ·exact ⟨by rw [r,s];exact g.on,by rw [r,s];exact l _ g.gr,by rw [r,s,q];exact g.hd,by rw [B];exact g.ow,by rw [C];exact g.kd,hl,z,by rw [q];exact g.id,ho⟩
  have f:=h.all v (mem_of_getElem? n)
  exact { f with gr:=l _ f.gr }
 ·intro c k E
  rw [m] at E
  obtain ⟨v,f,h1,D⟩:=h.hel c k E
  rw [a]
  obtain ⟨j,n⟩:=getElem?_of_mem f
  by_cases e:j=i
  ·subst e
   rw [hi] at n
   cases n
   exact ⟨u',xD hi,by rw [q];exact h1,by rw [r,s];exact D⟩
  exact ⟨v,xE n e,h1,D⟩
 ·rw [p];exact h.nx
 ·rw [a,length_set];exact h.len
 ·rw [a,jR _ _ i u u' hi (b 0)];exact h.b0
 ·rw [a,jR _ _ i u u' hi (b 1)];exact h.b1
 rw [a,jR _ _ i u u' hi (b 0),jR _ _ i u u' hi (b 1)];exact h.bs
theorem TOk.go {t:T}(h:TOk t){i:Nat}{u:U}(hi:t.us[i]?=some u)(c:Cl)(s:aD c.1 c.2=true)(z:t.bd (ci c.1 c.2)=0)(r:t.held c=none):TOk { t.moved u c with us:=t.us.set i (u.to c) }:=by
 have p:=h.all u (mem_of_getElem? hi)
 have a:∀ o,aT o (u.to c)=aT o u:=fun o=>rfl
 have w:(u.x,u.y)≠c:=fun e=>by have:=p.hd;rw [e,r] at this;cases this
 refine ⟨h.rise.set hi rfl,?_,?_,h.nx,h.st,h.bd,?_,?_,?_,?_⟩
 ·intro v f
  rcases jU f with rfl|⟨j,n,g⟩
  ·exact { p with on:=s,gr:=z,hd:=by simp }
  have f:=h.all v (mem_of_getElem? g)
  have hn:=h.rise.ne g hi n
  refine { f with hd:=?_ }
  dsimp only
  rw [if_neg (fun e=>by have:=f.hd;rw [e,r] at this;cases this),if_neg (fun e=>by have h1:=f.hd;rw [e,p.hd] at h1;exact hn (Option.some.inj h1).symm)]
  exact f.hd
 ·intro d k b
  dsimp only at b
  by_cases l:d=c
  ·rw [if_pos l] at b
   cases b
   exact ⟨u.to c,xD hi,rfl,l.symm⟩
  rw [if_neg l] at b
  by_cases m:d=(u.x,u.y)
  ·rw [if_pos m] at b;cases b
  rw [if_neg m] at b
  obtain ⟨v,f,h1,q⟩:=h.hel d k b
  obtain ⟨j,g⟩:=getElem?_of_mem f
  have:j≠i:=fun e=>by
   subst e
   rw [hi] at g
   cases g
   exact m q.symm
  exact ⟨v,xE g this,h1,q⟩
 ·dsimp only;rw [length_set];exact h.len
 ·dsimp only;rw [jR _ _ i u _ hi (a 0)];exact h.b0
 ·dsimp only;rw [jR _ _ i u _ hi (a 1)];exact h.b1
 dsimp only;rw [jR _ _ i u _ hi (a 0),jR _ _ i u _ hi (a 1)];exact h.bs
theorem TOk.gone {t:T}(h:TOk t){j:Nat}{v:U}(c:t.us[j]?=some v)(g:bD t.us=false):TOk { t with us:=t.us.eraseIdx j,held:=fun k=>if k=(v.x,v.y) then none else t.held k }:=by
 have s:=h.all v (mem_of_getElem? c)
 have l:=qH (aT 0) _ _ _ c
 have o:=qH (aT 1) _ _ _ c
 have z:=(NU _).1 g
 have q:=h.b0
 have r:=h.b1
 refine ⟨Pairwise.sublist (eraseIdx_sublist _ _) h.rise,?_,?_,h.nx,h.st,h.bd,?_,?_,?_,?_⟩
 ·intro u b
  obtain ⟨k,f,a⟩:=mem_eraseIdx_iff_getElem?.1 b
  have b:=h.all u (mem_of_getElem? a)
  have hn:=h.rise.ne a c f
  refine { b with hd:=?_ }
  dsimp only
  rw [if_neg (fun e=>by have h1:=b.hd;rw [e,s.hd] at h1;exact hn (Option.some.inj h1).symm)]
  exact b.hd
 ·intro d k a
  dsimp only at a
  by_cases e:d=(v.x,v.y)
  ·rw [if_pos e] at a;cases a
  rw [if_neg e] at a
  obtain ⟨u,b,h1,n⟩:=h.hel d k a
  obtain ⟨m,hm⟩:=getElem?_of_mem b
  refine ⟨u,mem_eraseIdx_iff_getElem?.2 ⟨m,fun p=>?_,hm⟩,h1,n⟩
  subst p
  rw [c] at hm
  cases hm
  exact e n.symm
 ·dsimp only
  exact Nat.le_trans (eraseIdx_sublist _ _).length_le h.len
 ·dsimp only;omega
 ·dsimp only;omega
 dsimp only
 have:¬ (aT 0 v=true/\aT 1 v=true):=by
  unfold aT
  simp
  omega
 by_cases i:aT 0 v=true
 ·rw [if_pos i] at l
  rw [if_neg (fun w=>this ⟨i,w⟩)] at o
  omega
 rw [if_neg i] at l
 omega
theorem TOk.new {t:T} (h:TOk t) (o k:Int) (c:Cl) (n q:Int) (w:aD c.1 c.2=true) (y:t.bd (ci c.1 c.2)=0) (x:t.held c=none) (ho:o=0\/o=1) (l:k=2\/k=3) (r:t.us.length < 100) (z:t.next < 1000000000)
  (m:(0<=n/\n<=1000000000)/\(0<=q/\q<=1000000000)):TOk { t with s0:=n,s1:=q,us:=t.us ++ [aS t.next o k c.1 c.2 (cT k)],next:=t.next+1,held:=fun d=>if d=c then some t.next else t.held d }:=by
 have g:∀ p,aT p (aS t.next o k c.1 c.2 (cT k))=false:=fun p=>by
  unfold aT aS
  rcases l with rfl|rfl <;> rfl
 have hn:=h.nx
 refine ⟨?_,?_,?_,?_,m,h.bd,?_,?_,?_,?_⟩
 ·show Rise (t.us ++ [_])
  unfold Rise
  rw [pairwise_append]
  refine ⟨h.rise,by simp,fun a u b hb=>?_⟩
  simp at hb
  subst hb
  exact (h.all a u).id.2
 ·intro v f
  dsimp only at f |-
  rcases mem_append.1 f with f|f
  ·have f:=h.all v f
   refine { f with hd:=?_,id:=⟨f.id.1,by have:=f.id.2;omega⟩ }
   rw [if_neg (fun e=>by have:=f.hd;rw [e,x] at this;cases this)]
   exact f.hd
  simp at f
  subst f
  refine ⟨w,y,by simp,ho,.inr l,?_,by simp,⟨hn.1,show t.next < t.next+1 by omega⟩,.inl rfl⟩
  unfold aS cT
  rcases l with rfl|rfl <;> simp
 ·intro d i j
  dsimp only at j |-
  by_cases e:d=c
  ·rw [if_pos e] at j
   cases j
   exact ⟨aS t.next o k c.1 c.2 (cT k),mem_append_right _ (by simp),rfl,e.symm⟩
  rw [if_neg e] at j
  obtain ⟨v,f,h1,s⟩:=h.hel d i j
  exact ⟨v,mem_append_left _ f,h1,s⟩
 ·dsimp only;omega
 ·dsimp only;simp;omega
 ·dsimp only;rw [countP_append];simp [g];exact h.b0
 ·dsimp only;rw [countP_append];simp [g];exact h.b1
 dsimp only;rw [countP_append,countP_append];simp [g];exact h.bs
def cD (t:T)(u:U):T:=match bQ t.us u.id with|some i=>{ t with us:=t.us.set i u }|none=>t
def cK (t:T)(u:U):U×T:=if u.what=1 then eZ t u else if u.what=2 then dM t u else if u.what=3 then eC t u else if u.what=4 then cX t u else (u,t)
def dN (t:T)(u:U):T:=cD (cK t u).2 (cK t u).1
structure Near1 (P:Int->Prop) (v v':U):Prop where
 id:v'.id=v.id
 kind:v'.kind=v.kind
 owner:v'.owner=v.owner
 life:v'.life<=v.life
 near:(v'.x - v.x)*(v'.x - v.x)+(v'.y - v.y)*(v'.y - v.y)<=1
 stay:¬ P v.id->v'.x=v.x/\v'.y=v.y
theorem Near1.same (P:Int->Prop)(v:U):Near1 P v v:=⟨rfl,rfl,rfl,Int.le_refl _,by simp,fun _=>⟨rfl,rfl⟩⟩
structure Good (t:T) (P:Int->Prop) (t':T):Prop where
 ok:TOk t'
 nx:t.next<=t'.next
 rel:∀ v'∈t'.us,t.next<=v'.id\/∃ v∈t.us,Near1 P v v'
 we:kD t'<=kD t
 tn:t'.turn=t.turn
theorem Good.refl {t:T}(h:TOk t)(P:Int->Prop):Good t P t:=⟨h,Int.le_refl _,fun v a=>.inr ⟨v,a,Near1.same P v⟩,Int.le_refl _,rfl⟩
theorem iM {t:T}{i:Nat}{u u':U}(a:Rise t.us)(hi:t.us[i]?=some u)(e:u'.id=u.id):cD t u'={ t with us:=t.us.set i u' }:=by
 unfold cD
 rw [rU a hi e.symm]
theorem jI {t:T}{i:Nat}{u:U}(a:Rise t.us)(hi:t.us[i]?=some u):cD t u=t:=by
  rw [iM a hi rfl,sC _ _ _ hi]
theorem Good.put {t a:T} (h:TOk t) {i:Nat} {u u':U} (hi:t.us[i]?=some u) (P:Int->Prop) (b:a.us=t.us.set i u') (m:a.held=t.held) (c:a.next=t.next) (p:a.turn=t.turn)
  (o:(0<=a.s0/\a.s0<=1000000000)/\(0<=a.s1/\a.s1<=1000000000)) (l:∀ k,k < 144->0<=a.bd k/\a.bd k<=10) (g:∀ k,t.bd k=0->a.bd k=0)
  (q:u'.id=u.id) (r:u'.owner=u.owner) (d:u'.kind=u.kind) (e:u'.x=u.x) (f:u'.y=u.y) (hl:1<=u'.life/\u'.life<=u.life) (n:0<=u'.load/\u'.load<=5/\(0 < u'.load->u'.kind=2)) (ho:iQ u')
  (hw:a.s0+a.s1+kN a.bd+u'.load<=t.s0+t.s1+kN t.bd+u.load):Good t P a:=by
 have z:=h.all u (mem_of_getElem? hi)
 refine ⟨h.put hi b m c o l g q r d e f ⟨hl.1,by rw [d];exact Int.le_trans hl.2 z.lf.2⟩ n ho,by rw [c];exact Int.le_refl _,?_,?_,p⟩
 ·intro v s
  rw [b] at s
  rcases jU s with rfl|⟨j,_,w⟩
  ·exact .inr ⟨u,mem_of_getElem? hi,q,d,r,hl.2,by rw [e,f];simp,fun _=>⟨e,f⟩⟩
  exact .inr ⟨v,mem_of_getElem? w,Near1.same P v⟩
 unfold kD
 rw [b,sJ worth _ i u u' hi]
 have:worth u'=u'.load+eT u.kind:=by unfold worth;rw [d]
 have:worth u=u.load+eT u.kind:=rfl
 omega
theorem vQ {t:T}{c:Cl}(h:bX (bG t.held) t.bd c.1 c.2=true):t.held c=none/\t.bd (ci c.1 c.2)=0:=by
 unfold bX bG at h
 simp at h
 exact ⟨h.1,h.2⟩
theorem Good.go {t:T}(h:TOk t){i:Nat}{u:U}(hi:t.us[i]?=some u)(ends:Cl->Bool):Good t (·=u.id) (cD (t.moved u (cE t u ends)) (u.to (cE t u ends))):=by
 have p:=h.all u (mem_of_getElem? hi)
 rcases DT (fun c=>bX (bG t.held) t.bd c.1 c.2) ends (u.x,u.y) with e|⟨h1,b⟩
 ·have d:cE t u ends=(u.x,u.y):=e
  rw [d,jI (t:=t.moved u (u.x,u.y)) (u:=u.to (u.x,u.y)) h.rise hi]
  have:t.moved u (u.x,u.y)=t:=by
   have m:(fun k=>if k=(u.x,u.y) then some u.id else if k=(u.x,u.y) then none else t.held k)=t.held:=by
    funext k
    by_cases a:k=(u.x,u.y)
    ·rw [if_pos a,a,p.hd]
    rw [if_neg a,if_neg a]
   show { t with held:=_ }=t
   rw [m]
  rw [this]
  exact Good.refl h _
 have h1:cE t u ends∈aG u.x u.y:=h1
 have b:bX (bG t.held) t.bd (cE t u ends).1 (cE t u ends).2=true:=b
 obtain ⟨c,l⟩:∃ c,cE t u ends=c:=⟨_,rfl⟩
 rw [l] at h1 b |-
 obtain ⟨f,g⟩:=vQ b
 obtain ⟨r,s⟩:=xH h1
 rw [iM (t:=t.moved u c) (u:=u) (u':=u.to c) h.rise hi rfl]
 refine ⟨h.go hi c r g f,Int.le_refl _,?_,?_,rfl⟩
 ·intro v q
  rcases jU q with rfl|⟨j,o,n⟩
  ·exact .inr ⟨u,mem_of_getElem? hi,rfl,rfl,rfl,Int.le_refl _,by simp only;omega,fun hn=>absurd rfl hn⟩
  exact .inr ⟨v,mem_of_getElem? n,Near1.same _ v⟩
 unfold kD
 dsimp only
 rw [sJ worth _ i u _ hi]
 have:worth (u.to c)=worth u:=rfl
 omega
theorem Good.same {t:T}(h:TOk t){i:Nat}{u:U}(hi:t.us[i]?=some u)(u':U)(a:u'.id=u.id)(d:u'.owner=u.owner)(b:u'.kind=u.kind)(f:u'.x=u.x)(g:u'.y=u.y)(j:u'.life=u.life)(k:u'.load=u.load)(ho:iQ u'):Good t (·=u.id) (cD t u'):=by
 have c:=h.all u (mem_of_getElem? hi)
 rw [iM h.rise hi a]
 exact Good.put h hi (·=u.id) (u':=u') rfl rfl rfl rfl h.st h.bd (fun _ e=>e) a d b f g (by rw [j];exact ⟨c.lf.1,Int.le_refl _⟩) (by rw [k,b];exact c.ld) ho (by simp only;omega)
theorem Good.idle {t:T}(h:TOk t){i:Nat}{u:U}(hi:t.us[i]?=some u):Good t (·=u.id) (cD t u.idle):=Good.same h hi u.idle rfl rfl rfl rfl rfl rfl rfl (.inl rfl)
theorem Good.stay {t:T}(h:TOk t){i:Nat}{u:U}(hi:t.us[i]?=some u):Good t (·=u.id) (cD t u):=by rw [jI h.rise hi];exact Good.refl h _
theorem CW {t:T}(h:TOk t){i:Nat}{u:U}(hi:t.us[i]?=some u):Good t (·=u.id) (cD (eZ t u).2 (eZ t u).1):=by
 unfold eZ
 split
 ·exact Good.idle h hi
 exact Good.go h hi _
theorem CN {t:T}(h:TOk t){i:Nat}{u:U}(hi:t.us[i]?=some u):Good t (·=u.id) (cD (eB t u).2 (eB t u).1):=by
 have b:=h.all u (mem_of_getElem? hi)
 have f:=h.st
 have d:=b.ld
 unfold eB
 split
 ·exact Good.stay h hi
 split
 ·have a:∀ o v,(t.setStock o v).us=t.us:=fun o v=>by unfold T.setStock;split <;> rfl
  dsimp only
  rw [iM (t:=t.setStock u.owner _) (u:=u) (u':={ u with load:=0 }) (by rw [a];exact h.rise) (by rw [a];exact hi) rfl,a]
  rcases b.ow with ho|ho
  ·rw [show t.setStock u.owner=fun v=>{ t with s0:=v } from funext fun v=>by unfold T.setStock;rw [if_pos ho],show t.stock u.owner=t.s0 by unfold T.stock;rw [if_pos ho]]
   dsimp only
   refine Good.put h hi (·=u.id) (u':={ u with load:=0 }) rfl rfl rfl rfl ?_ h.bd (fun _ e=>e) rfl rfl rfl rfl rfl ⟨b.lf.1,Int.le_refl _⟩ (by simp) b.od ?_
   ·dsimp only;omega
   dsimp only;omega
  have c:¬ u.owner=0:=by omega
  rw [show t.setStock u.owner=fun v=>{ t with s1:=v } from funext fun v=>by unfold T.setStock;rw [if_neg c],show t.stock u.owner=t.s1 by unfold T.stock;rw [if_neg c]]
  dsimp only
  refine Good.put h hi (·=u.id) (u':={ u with load:=0 }) rfl rfl rfl rfl ?_ h.bd (fun _ e=>e) rfl rfl rfl rfl rfl ⟨b.lf.1,Int.le_refl _⟩ (by simp) b.od ?_
  ·dsimp only;omega
  dsimp only;omega
 exact Good.go h hi _
theorem NS (t:T)(k:Nat)(v:Int)(b:k < 144)(a:t.bd k < 10)(c:v < 10):kN (t.setBd k v).bd=kN t.bd - t.bd k+v:=by
 unfold kN
 have h1:kM (t.setBd k v).bd=fun i=>if i=k then v else kM t.bd i:=by
  funext i
  unfold kM T.setBd
  dsimp only
  by_cases e:i=k
  ·simp [e,c]
  simp [e]
 rw [h1,BB (kM t.bd) k v 144 b]
 have:kM t.bd k=t.bd k:=by unfold kM;rw [if_pos a]
 rw [this]
theorem CV {t:T}(h:TOk t){i:Nat}{u:U}(hi:t.us[i]?=some u)(n:aD u.tox u.toy=true)(l:u.kind=2):Good t (·=u.id) (cD (dM t u).2 (dM t u).1):=by
 have o:=h.all u (mem_of_getElem? hi)
 have p:=o.ld
 unfold dM
 split
 ·exact CN h hi
 rename_i q
 split
 ·rename_i a
  have g:=eK n
  have hb:=h.bd _ g
  unfold gK at a
  simp at a
  split
  ·obtain ⟨k,m⟩:∃ k,ci u.tox u.toy=k:=⟨_,rfl⟩
   rw [m] at g hb a |-
   obtain ⟨b,c⟩:∃ b,t.bd k=b:=⟨_,rfl⟩
   have d:=c
   dsimp only
   rw [c] at hb a |-
   rw [iM (t:=t.setBd k _) (u:=u) (u':={ u with load:=min b 5 }) h.rise hi rfl]
   refine Good.put h hi (·=u.id) (u':={ u with load:=min b 5 }) rfl rfl rfl rfl h.st ?_ ?_ rfl rfl rfl rfl rfl ⟨o.lf.1,Int.le_refl _⟩ ⟨by dsimp only;omega,by dsimp only;omega,fun _=>l⟩ o.od ?_
   ·intro j f
    show 0<=(if j=k then b - min b 5 else t.bd j)/\(if j=k then b - min b 5 else t.bd j)<=10
    split
    ·omega
    exact h.bd j f
   ·intro j f
    show (if j=k then b - min b 5 else t.bd j)=0
    split
    ·rename_i e;subst e;omega
    exact f
   have:=NS t k (b - min b 5) g (by omega) (by omega)
   show t.s0+t.s1+kN (t.setBd k (b - min b 5)).bd+min b 5<=_
   rw [this,d]
   omega
  exact Good.go h hi _
 exact Good.idle h hi
theorem tG {x y a b:Int}(h:aY x y a b=true):(x,y)≠(a,b):=by
 intro e
 cases e
 unfold aY at h
 simp at h
theorem CP {t:T}(h:TOk t){i:Nat}{u:U}(hi:t.us[i]?=some u)(g:bD t.us=false):Good t (·=u.id) (cD (eC t u).2 (eC t u).1):=by
 unfold eC
 cases l:bQ t.us u.target with
 | none=>exact Good.idle h hi
 | some j =>
  dsimp only
  cases a:t.us[j]? with
  | none=>exact Good.idle h hi
  | some v =>
   dsimp only
   have k:=h.all v (mem_of_getElem? a)
   split
   ·rename_i b
    have f:=tG b
    have d:i≠j:=fun e=>by
     subst e
     rw [hi] at a
     cases a
     exact f rfl
    dsimp only
    unfold T.harm
    rw [a]
    dsimp only
    split
    ·have c:=h.gone a g
     obtain ⟨m,hm⟩:=getElem?_of_mem (mem_eraseIdx_iff_getElem?.2 ⟨i,d,hi⟩)
     rw [jI c.rise hm]
     refine ⟨c,Int.le_refl _,?_,?_,rfl⟩
     ·intro x hx
      exact .inr ⟨x,mem_of_mem_eraseIdx hx,Near1.same _ x⟩
     unfold kD
     dsimp only
     rw [BA worth _ j v a]
     have h1:0<=worth v:=by
      have:=k.ld.1
      unfold worth eT
      split <;> (try split) <;> omega
     omega
    have c:Good t (·=u.id) { t with us:=t.us.set j { v with life:=v.life - 3 } }:=Good.put h a (·=u.id) (u':={ v with life:=v.life - 3 }) rfl rfl rfl rfl h.st h.bd (fun _ e=>e) rfl rfl rfl rfl rfl ⟨by dsimp only;omega,by dsimp only;omega⟩ k.ld k.od (by dsimp only;omega)
    have hm:(t.us.set j { v with life:=v.life - 3 })[i]?=some u:=by rw [getElem?_set_ne (fun e=>d e.symm)];exact hi
    rw [jI c.ok.rise hm]
    exact c
   exact Good.go h hi _
theorem CO {t:T}(h:TOk t){i:Nat}{u:U}(hi:t.us[i]?=some u)(s:u.tox=2\/u.tox=3):Good t (·=u.id) (cD (cX t u).2 (cX t u).1):=by
 have p:=h.all u (mem_of_getElem? hi)
 have w:=h.st
 unfold cX
 split
 ·exact Good.stay h hi
 split
 ·exact Good.stay h hi
 split
 ·exact Good.stay h hi
 cases o:(aG u.x u.y).find? (fun c=>bX (bG t.held) t.bd c.1 c.2) with
 | none=>exact Good.stay h hi
 | some c =>
  rename_i k B C
  dsimp only
  have g:=mem_of_find?_eq_some o
  have m:=find?_some o
  obtain ⟨q,r⟩:=vQ m
  obtain ⟨A,E⟩:=xH g
  have l:0<=eT u.tox:=by unfold eT;split <;> (try split) <;> omega
  have a:∀ b e:Int,(0<=b/\b<=1000000000)/\(0<=e/\e<=1000000000)->b+e=t.s0+t.s1 - eT u.tox ->
    Good t (·=u.id) (cD { t with s0:=b,s1:=e,us:=t.us ++ [aS t.next u.owner u.tox c.1 c.2 (cT u.tox)],next:=t.next+1,held:=fun d=>if d=c then some t.next else t.held d } u.idle):=by
   intro b e hs D
   have j:=h.new u.owner u.tox c b e A r q p.ow s (by omega) (by omega) hs
   have n:(t.us ++ [aS t.next u.owner u.tox c.1 c.2 (cT u.tox)])[i]?=some u:=by
    rw [getElem?_append_left (gs.1 hi).1];exact hi
   have f:=Good.idle j n
   refine ⟨f.ok,Int.le_trans (by simp only;omega) f.nx,?_,?_,f.tn⟩
   ·intro v z
    rcases f.rel v z with h1|⟨x,hx,hn⟩
    ·exact .inl (Int.le_trans (by simp only;omega) h1)
    rcases mem_append.1 hx with hx|hx
    ·exact .inr ⟨x,hx,hn⟩
    simp at hx
    subst hx
    exact .inl (by rw [hn.id];exact Int.le_refl _)
   refine Int.le_trans f.we ?_
   unfold kD
   dsimp only
   rw [map_append,sum_append]
   have:([aS t.next u.owner u.tox c.1 c.2 (cT u.tox)].map worth).sum=eT u.tox:=by simp [worth,aS]
   rw [this]
   omega
  rcases p.ow with ho|ho
  ·rw [ho] at k a |-
   have:=a (t.s0 - eT u.tox) t.s1 (by simp [T.stock] at k;omega) (by omega)
   simpa [T.added,T.setStock,T.stock] using this
  rw [ho] at k a |-
  have:=a t.s0 (t.s1 - eT u.tox) (by simp [T.stock] at k;omega) (by omega)
  simpa [T.added,T.setStock,T.stock] using this
theorem pT {t:T}(h:TOk t){i:Nat}{u:U}(hi:t.us[i]?=some u)(b:bD t.us=false):Good t (·=u.id) (dN t u):=by
 have d:=h.all u (mem_of_getElem? hi)
 unfold dN cK
 rcases d.od with e|⟨e,_⟩|⟨e,a,c⟩|⟨e,_⟩|⟨e,_,a⟩
 ·simp only [e]
  exact Good.stay h hi
 ·simp only [e]
  exact CW h hi
 ·simp only [e]
  exact CV h hi c a
 ·simp only [e]
  exact CP h hi b
 simp only [e]
 exact CO h hi a
theorem Good.trans {a b c:T}{P Q:Int->Prop}(h1:Good a P b)(j:Good b Q c)(q:∀ i,P i->Q i->False):Good a (fun i=>P i\/Q i) c:=by
 refine ⟨j.ok,Int.le_trans h1.nx j.nx,?_,Int.le_trans j.we h1.we,j.tn.trans h1.tn⟩
 intro t n
 rcases j.rel t n with h|⟨s,m,e⟩
 ·exact .inl (Int.le_trans h1.nx h)
 rcases h1.rel s m with h|⟨v,r,d⟩
 ·exact .inl (by rw [e.id];exact h)
 refine .inr ⟨v,r,e.id.trans d.id,e.kind.trans d.kind,e.owner.trans d.owner,Int.le_trans e.life d.life,?_,?_⟩
 ·by_cases k:P v.id
  ·obtain ⟨f,g⟩:=e.stay (fun l=>q _ k (by rw [<- d.id];exact l))
   rw [f,g]
   exact d.near
  obtain ⟨f,g⟩:=d.stay k
  rw [<- f,<- g]
  exact e.near
 intro hn
 obtain ⟨f,g⟩:=d.stay (fun k=>hn (.inl k))
 obtain ⟨o,p⟩:=e.stay (fun l=>hn (.inr (by rw [<- d.id];exact l)))
 exact ⟨o.trans f,p.trans g⟩
theorem Good.weaken {a b:T}{P Q:Int->Prop}(h:Good a P b)(c:∀ i,P i->Q i):Good a Q b :=
  ⟨h.ok,h.nx,fun v e=>(h.rel v e).imp id (fun ⟨x,hx,n⟩=>⟨x,hx,{ n with stay:=fun hn=>n.stay (fun d=>hn (c _ d)) }⟩),h.we,h.tn⟩
def bN (t:T)(u:U)(c:Cm):Bool :=
 if c.what=0 then true
 else if c.what=1 then (u.kind==2||u.kind==3)&&(aD c.x c.y&&t.bd (ci c.x c.y) != 10)
 else if c.what=2 then u.kind==2&&(aD c.x c.y&&gK (t.bd (ci c.x c.y)))
 else if c.what=3 then u.kind==3&&gY t.us u.owner c.target
 else if c.what=4 then u.kind==1&&(c.x==2||c.x==3)
 else false
def eM (c:Cm):Cm :=
 if c.what=0 then ⟨c.unit,c.what,0,0,0⟩
 else if c.what=3 then ⟨c.unit,c.what,0,0,c.target⟩
 else if c.what=4 then ⟨c.unit,c.what,c.x,0,0⟩
 else ⟨c.unit,c.what,c.x,c.y,0⟩
def dZ (t:T)(p:Int)(c:Cm):Bool×T :=
 match bQ t.us c.unit with
 | none=>(false,t)
 | some i =>
  match t.us[i]? with
  | none=>(false,t)
  | some u=>if u.owner=p/\bN t u c=true then (true,{ t with us:=t.us.set i (u.ordered (eM c)) }) else (false,t)
def aW (p:Int):Nat->List Cm->T->List Nat×T
 | _,[],t=>([],t)
 | k,c :: l,t =>
  let r:=dZ t p c
  let q:=aW p (k+1) l r.2
  (if r.1=true then q.1 else k :: q.1,q.2)
theorem TO {t:T}{u:U}{c:Cm}(h:bN t u c=true):iQ (u.ordered (eM c)):=by
 unfold bN at h
 unfold eM iQ
 split at h
 ·rename_i e;simp [e]
 split at h
 ·rename_i e;simp [e] at h |-;exact h.1
 split at h
 ·rename_i e;simp [e] at h |-;exact ⟨h.1,h.2.1⟩
 split at h
 ·rename_i e;simp [e] at h |-;exact h.1
 split at h
 ·rename_i e;simp [e] at h |-;exact h
 cases h
theorem pH {t:T}(h:TOk t)(p:Int)(c:Cm)(P:Int->Prop):Good t P (dZ t p c).2/\(dZ t p c).2.us.map (fun u=>(u.kind,u.owner))=t.us.map (fun u=>(u.kind,u.owner)):=by
 unfold dZ
 cases d:bQ t.us c.unit with
 | none=>exact ⟨Good.refl h _,rfl⟩
 | some i =>
  dsimp only
  cases hi:t.us[i]? with
  | none=>exact ⟨Good.refl h _,rfl⟩
  | some u =>
   dsimp only
   have a:=h.all u (mem_of_getElem? hi)
   split
   ·rename_i b
    refine ⟨?_,mM _ _ i u _ hi rfl⟩
    exact Good.put h hi P (u':=u.ordered (eM c)) rfl rfl rfl rfl h.st h.bd (fun _ e=>e) rfl rfl rfl rfl rfl ⟨a.lf.1,Int.le_refl _⟩ a.ld (TO b.2) (Int.le_refl _)
   exact ⟨Good.refl h _,rfl⟩
theorem NV {us b:List U}(h:b.map (fun u=>(u.kind,u.owner))=us.map (fun u=>(u.kind,u.owner))):bD b=bD us:=by
 have h1:∀ (o:Int) (l:List U),(bT l o).isSome=(l.map (fun u=>(u.kind,u.owner))).any (fun q=>q.1==1&&q.2==o):=fun o l=>by
  unfold bT
  induction l with
  | nil=>rfl
  | cons a l c =>
   rw [find?_cons,map_cons,any_cons,<- c]
   unfold aT
   cases (a.kind==1&&a.owner==o) <;> simp
 unfold bD
 rw [h1,h1,h1,h1,h]
theorem iZ (p:Int)(P:Int->Prop):∀ (l:List Cm) (k:Nat) {t:T},TOk t->(∀ i,P i->False)->Good t P (aW p k l t).2/\bD (aW p k l t).2.us=bD t.us
 | [],_,_,h,_=>⟨Good.refl h _,rfl⟩
 | c :: l,k,t,h,a=>by
  obtain ⟨h1,b⟩:=pH h p c P
  obtain ⟨d,e⟩:=iZ p P l (k+1) h1.ok a
  exact ⟨(h1.trans d (fun i hi _=>a i hi)).weaken (fun i hi=>hi.elim id id),e.trans (NV b)⟩
def fX (t:T)(v:U):T :=
 match bQ t.us v.id with
 | none=>t
 | some i=>match t.us[i]? with|none=>t|some u=>dN t u
def eQ:List U->T->T
 | [],t=>t
 | v :: l,t=>if bD (fX t v).us=true then fX t v else eQ l (fX t v)
theorem nJ {t:T}(h:TOk t)(a:bD t.us=false)(v:U):Good t (·=v.id) (fX t v):=by
 unfold fX
 cases c:bQ t.us v.id with
 | none=>exact Good.refl h _
 | some i =>
  dsimp only
  obtain ⟨u,hi,b⟩:=iV c
  rw [hi]
  dsimp only
  rw [<- b]
  exact pT h hi a
theorem nI:∀ (l:List U) {t:T},TOk t->bD t.us=false->(l.map U.id).Nodup->Good t (fun i=>i∈l.map U.id) (eQ l t)
 | [],t,h,_,_=>Good.refl h _
 | v :: l,t,h,b,a=>by
  have h1:=nJ h b v
  rw [map_cons,nodup_cons] at a
  unfold eQ
  split
  ·exact h1.weaken (fun i hi=>by subst hi;simp)
  rename_i ho
  have c:=nI l h1.ok (by simpa using ho) a.2
  exact (h1.trans c (fun i e hi=>a.1 (by subst e;exact hi))).weaken (fun i hi=>by
   rcases hi with e|hi
   ·subst e;simp
   exact mem_cons_of_mem _ hi)
def fP (us:List U):Cl->Option Int:=us.foldl (fun h u=>fun k=>if k=(u.x,u.y) then some u.id else h k) (fun _=>none)
theorem qV:∀ (us:List U) (d:Cl->Option Int) (c:Cl) (i:Int),(∀ u∈us,(u.x,u.y)=c->u.id=i)->us.foldl (fun h u=>fun k=>if k=(u.x,u.y) then some u.id else h k) d c=(if us.any (fun u=>decide ((u.x,u.y)=c))=true then some i else d c)
 | [],d,c,i,_=>by simp
 | u :: us,d,c,i,h=>by
  rw [foldl_cons,qV us _ c i (fun v f=>h v (by simp [f]))]
  by_cases b:(u.x,u.y)=c
  ·have:=h u (by simp) b
   by_cases a:us.any (fun u=>decide ((u.x,u.y)=c))=true
   ·rw [if_pos a,if_pos (by simp at a |-;exact .inr a)]
   rw [if_neg a,if_pos b.symm,if_pos (by rw [any_cons];simp [b]),this]
  by_cases a:us.any (fun u=>decide ((u.x,u.y)=c))=true
  ·rw [if_pos a,if_pos (by simp at a |-;exact .inr a)]
  rw [if_neg a,if_neg (fun e=>b e.symm),if_neg (by rw [any_cons];simp [b] at a |-;exact a)]
theorem JA {t:T}(h:TOk t):fP t.us=t.held:=by
 funext c
 unfold fP
 cases d:t.held c with
 | none =>
  have b:∀ u∈t.us,(u.x,u.y)≠c:=fun u a e=>by
   have:=(h.all u a).hd
   rw [e,d] at this
   cases this
  rw [qV t.us _ c 0 (fun u a e=>absurd e (b u a)),if_neg]
  simp only [any_eq_true,decide_eq_true_eq,not_exists,not_and]
  exact b
 | some i =>
  rw [qV t.us _ c i (fun u a e=>by
   have:=(h.all u a).hd
   rw [e,d] at this
   cases this
   rfl),if_pos]
  obtain ⟨u,a,_,e⟩:=h.hel c i d
  simp only [any_eq_true,decide_eq_true_eq]
  exact ⟨u,a,e⟩
def fI (t:T):Prop:=TOk { t with held:=fP t.us }
def cO (t:T):T:={ t with held:=fP t.us }
def aM (t:T)(first a:List Cm):T×List Nat×List Nat :=
 if 1000000000<=t.turn then (t,range first.length,range a.length)
 else if bD t.us=true then ({ t with turn:=t.turn+1 },range first.length,range a.length)
 else
  let c:=aW 0 0 first (cO t)
  let b:=aW 1 0 a c.2
  let d:=eQ b.2.us b.2
  ({ d with turn:=d.turn+1 },c.1,b.1)
structure Played (t t':T):Prop where
 ok:fI t'
 rel:∀ v'∈t'.us,t.next<=v'.id\/∃ v∈t.us,Near1 (fun _=>True) v v'
 we:kD t'<=kD t
 tn:t'.turn=t.turn+1
theorem rZ {us:List U}(h:Rise us):(us.map U.id).Nodup:=by
 rw [oZ] at h
 exact h.imp (fun h=>by omega)
theorem oR {t:T}(h:fI t)(first a:List Cm)(ht:t.turn < 1000000000):Played t (aM t first a).1:=by
 unfold aM
 rw [if_neg (by omega)]
 have hb:TOk (cO t):=h
 split
 ·exact ⟨⟨h.rise,h.all,h.hel,h.nx,h.st,h.bd,h.len,h.b0,h.b1,h.bs⟩,fun v l=>.inr ⟨v,l,Near1.same _ v⟩,Int.le_refl _,rfl⟩
 rename_i d
 dsimp only
 have b:bD (cO t).us=false:=by show bD t.us=false;simpa using d
 obtain ⟨j,m⟩:=iZ 0 (fun _=>False) first 0 hb (fun _ e=>e)
 obtain ⟨c,o1⟩:=iZ 1 (fun _=>False) a 0 j.ok (fun _ e=>e)
 have k:=nI (aW 1 0 a (aW 0 0 first (cO t)).2).2.us c.ok (by rw [o1,m];exact b) (rZ c.ok.rise)
 have g:=((j.trans c (fun _ e _=>e)).trans k (fun _ e _=>by rcases e with e|e <;> exact e)).weaken (Q:=fun _=>True) (fun _ _=>trivial)
 obtain ⟨i,f⟩:∃ x,eQ (aW 1 0 a (aW 0 0 first (cO t)).2).2.us (aW 1 0 a (aW 0 0 first (cO t)).2).2=x:=⟨_,rfl⟩
 rw [f] at g |-
 refine ⟨?_,g.rel,g.we,by dsimp only;rw [g.tn];rfl⟩
 show TOk { i with turn:=i.turn+1,held:=fP i.us }
 rw [JA g.ok]
 exact ⟨g.ok.rise,g.ok.all,g.ok.hel,g.ok.nx,g.ok.st,g.ok.bd,g.ok.len,g.ok.b0,g.ok.b1,g.ok.bs⟩
set_option maxRecDepth 100000
def cW (a:Nat->Int):List Value:=(range 144).map fun i=>ii (a i)
theorem jN (a:Nat->Int):(cW a).length=144:=by simp [cW]
theorem DY (a:Nat->Int):(cW a).toArray.all (·.oneCell')=true:=by
 apply all_oneCell_toArray
 intro v b
 obtain ⟨i,_,rfl⟩:=mem_map.1 b
 rfl
theorem mH:(Tryz.prog.info? 88).map (·.size)=some 144:=by kernel_rfl
theorem wL:(Tryz.prog.info? 56).map (·.size)=some 4:=by kernel_rfl
theorem VE:Tryz.zeroCells88.size=144:=by kernel_rfl
theorem GS.board {w:World}{c e b:Nat}{t:T}(h:GS w c e b t):w.rangeAt c 4 (cW t.bd):=by
 intro j v a
 have d:j < 144:=by have:=(gs.1 a).1;rwa [jN] at this
 rw [h.cell (4+j) (by omega)]
 unfold cW at a
 rw [getElem?_map,getElem?_range d] at a
 simp only [Option.map_some,Option.some.injEq] at a
 rw [<- a]
 unfold aN
 rw [if_neg (by omega),if_neg (by omega),if_neg (by omega),if_neg (by omega),if_pos (by omega),show 4+j - 4=j by omega]
theorem EW (c m d:Nat)(t:T)(w:World)(h:GS w c m d t) :
  Cs 55 #[.pointer (so c)] w fun e n=>e=.returned (.agg (cW t.bd).toArray)/\Fr [] w n:=by
 have l:=h.lt
 have g:∀ o,(w.alloc o).rangeAt c 4 (cW t.bd):=fun o=>(h.fr ((r0 [] w).alloc o) (by simp) (by simp)).board
 have k:=aA g
 have b:(Tryz.prog.info? 88).map (·.size)=some (cW t.bd).length:=by rw [jN];exact mH
 have a:(Tryz.prog.info? 88).map (·.size)=some (cW t.bd).toArray.size:=by rw [size_toArray];exact b
 have i:=aA b
 have f:=aA a
 have j:Hi (Tryz.zeroCells88.size=(cW t.bd).toArray.size):=by show _=_;rw [VE,size_toArray,jN]
 clear g b a
 go_enter Tryz.func55,Tryz.ntmps55
 go_wp2_with (first
  | (go_at_call 39;refine (nB c _).mono ?_;rintro e p ⟨rfl,rfl⟩)
  | (refine wpList_load_mid rfl 88 _ rfl c 4 rfl (cW t.bd) _ (k.o _) Tryz.underlying88 rfl i.o ?_)
  | (refine wpList_store_row rfl 88 _ _ rfl w.heap.size (cW t.bd).toArray rfl rfl 88 Tryz.zeroCells88 (aC w _) f.o j.o (DY _) ?_))
 exact bodyPost_ret (v:=.agg (cW t.bd).toArray) (results_cell_row Tryz.results55 _ _ w.heap.size 88 _ (0,0) _ rfl (setRow_heap _ _ _ _ _ _ (aC w _)) Tryz.underlying88 rfl f.o) rfl ⟨rfl,((r0 _ _).alloc _).setRow _ _ (.inr (Nat.le_refl _))⟩
theorem KP (c q i:Nat)(t:T)(w:World)(h:GS w c q i t) :
  Cs 23 #[.pointer (so c)] w fun e a=>e=.returned (.agg #[ii t.turn,ii (eA t.us),ii t.s0,ii t.s1])/\Fr [] w a:=by
 have A:=h.lt
 obtain ⟨n,b⟩:∃ W,W=w.alloc (.cells #[ii 0,ii 0,ii 0,ii 0] 56):=⟨_,rfl⟩
 have d:Fr [] w n:=by rw [b];exact (r0 _ _).alloc _
 have y:n.heap[w.heap.size]?=some (.cells #[ii 0,ii 0,ii 0,ii 0] 56):=by rw [b];exact aC w _
 have m:Fr [] n (w.alloc (.cells #[ii 0,ii 0,ii 0,ii 0] 56)).drew:=by rw [b];exact (r0 _ _).drew
 have E:n.heap.size=w.heap.size+1:=by rw [b];simp
 have o:∀ a,Fr [] w a->(fun a:World=>cl a c 0 t.turn/\cl a c 2 t.s0/\cl a c 3 t.s1) a:=by
  intro a z
  have p:=h.fr z (by simp) (by simp)
  refine ⟨?_,?_,?_⟩
  ·have:=p.cell 0 (by omega);simpa [aN] using this
  ·have:=p.cell 2 (by omega);simpa [aN] using this
  have:=p.cell 3 (by omega);simpa [aN] using this
 have r:=o _ (d.then0 m)
 clear b
 go_enter Tryz.func23,Tryz.ntmps23
 go_wp2_with (go_at_call 39;refine (nB c _).mono ?_;rintro e l ⟨rfl,rfl⟩)
 go_region_held (fun a:World=>ca a c 0 (ii t.turn)/\ca a c 2 (ii t.s0)/\ca a c 3 (ii t.s1))
  (first|with_reducible exact r|with_reducible exact o _ f|(refine o _ ?_;with_reducible exact (((f.setCell _ _ (.inr (Nat.le_refl _))).setCell _ _ (.inr (Nat.le_refl _))).setCell _ _ (.inr (Nat.le_refl _))).setCell _ _ (.inr (Nat.le_refl _))))
  (first|(go_at_call 50;refine (BQ c q i t.us _ (h.gv.fr0 (d.then0 m))).mono ?_;rintro e l ⟨rfl,k⟩;have f:Fr [] w l:=(d.then0 m).then0 k;have g:=(m.then0 k).heap0 y;have C:∀ j,l.cell? ⟨w.heap.size,j,none⟩=#[ii 0,ii 0,ii 0,ii 0][j]?:=(fun j=>aB g);have D:∀ j,l.frozen? ⟨w.heap.size,j,none⟩=false:=(fun j=>bI g)))
 all_goals
  go_wp2_with fail
  have s:=bS g 0 (ii t.turn)
  have h1:=bS s 1 (ii (eA t.us))
  have u:=bS h1 2 (ii t.s0)
  have x:=bS u 3 (ii t.s1)
  have B:((((l.setCell ⟨w.heap.size,0,none⟩ (ii t.turn)).setCell ⟨w.heap.size,1,none⟩ (ii (eA t.us))).setCell ⟨w.heap.size,2,none⟩ (ii t.s0)).setCell ⟨w.heap.size,3,none⟩ (ii t.s1)).heap[w.heap.size]?=some (.cells #[ii t.turn,ii (eA t.us),ii t.s0,ii t.s1] 56):=by simpa using x
  exact bodyPost_ret (v:=.agg #[ii t.turn,ii (eA t.us),ii t.s0,ii t.s1]) (results_cell_row Tryz.results23 _ _ w.heap.size 56 _ (0,0) _ rfl B Tryz.underlying56 rfl wL) rfl ⟨rfl,(((f.setCell _ _ (.inr (Nat.le_refl _))).setCell _ _ (.inr (Nat.le_refl _))).setCell _ _ (.inr (Nat.le_refl _))).setCell _ _ (.inr (Nat.le_refl _))⟩
abbrev zero12:Array Value:=#[ii 0,ii 0,ii 0,ii 0,ii 0,ii 0,ii 0,ii 0,ii 0,ii 0,ii 0,ii 0]
def fH (a:Nat->Int)(y:Nat):List Value:=(range 12).map fun x=>ii (a (y*12+x))
theorem QZ (a:Nat->Int)(y:Nat):(fH a y).length=12:=by simp [fH]
theorem RC (a:Nat->Int)(y:Nat):(fH a y).toArray.all (·.oneCell')=true:=by
  simp [fH,Value.oneCell']
theorem wH:(Tryz.prog.info? 86).map (·.size)=some 12:=by kernel_rfl
theorem sE:Tryz.t86.size=12:=by kernel_rfl
theorem tX (a:Nat->Int)(y:Nat)(b:y < 12):(cW a).toArray.extract (y*12) (y*12+12)=(fH a y).toArray:=by
 apply Array.ext_getElem?
 intro i
 simp only [cW,fH,Array.getElem?_extract,getElem?_toArray,getElem?_map]
 by_cases hi:i < 12
 ·rw [if_pos (by simp;omega),getElem?_range (by omega),getElem?_range hi]
  rfl
 rw [if_neg (by simp;omega),getElem?_eq_none (by simp;omega)]
 rfl
theorem RL (a:Nat->Int)(y:Nat)(c:y < 12)(w:World):(Instr.index 88 (.agg (cW a).toArray) (.int .i64 y)).run Tryz.prog w=.ok (.agg (fH a y).toArray) w:=by
 have b:(part 86 (cW a).toArray (y*12)).run Tryz.prog w=.ok (.agg (fH a y).toArray) w:=by
  have hb:=tX a y c
  rw [<- hb]
  simp [part,isAgg,run_underlying Tryz.underlying86,sizeOf,sE]
 simp [Instr.index,run_underlying Tryz.underlying88,asIntOf,sizeOf,sE,b]
 omega
def Path (free:Cl->Bool)(a:Cl):Nat->Cl->Prop
 | 0,c=>c=a
 | k+1,n=>∃ c,Path free a k c/\n∈aG c.1 c.2/\free n=true
theorem Path.nil {free:Cl->Bool}{a:Cl}:Path free a 0 a:=rfl
theorem Path.snoc {free:Cl->Bool}{a:Cl}{k:Nat}{c n:Cl}(h:Path free a k c)(h1:n∈aG c.1 c.2)(b:free n=true):Path free a (k+1) n:=⟨c,h,h1,b⟩
theorem Path.ind {free:Cl->Bool}{a:Cl}{M:∀ k c,Path free a k c->Prop}(nil:M 0 a .nil)(snoc:∀ {k:Nat} {c n:Cl} (h:Path free a k c) (h1:n∈aG c.1 c.2) (b:free n=true),M k c h->M (k+1) n (.snoc h h1 b)):∀ {k:Nat} {c:Cl} (h:Path free a k c),M k c h
 | 0,_,rfl=>nil
 | _+1,_,⟨_,h,h1,b⟩=>snoc h h1 b (Path.ind nil snoc h)
theorem Path.cons {free:Cl->Bool}{a f:Cl}(h1:f∈aG a.1 a.2)(b:free f=true){k:Nat}{c:Cl}(h:Path free f k c):Path free a (k+1) c:=by
 induction h using Path.ind with
 | nil=>exact .snoc .nil h1 b
 | snoc _ hn d e=>exact .snoc e hn d
structure Lev (free ends:Cl->Bool) (a:Cl) (s:Bs) (lv:Cl->Nat) (m:Nat):Prop where
 inv:BInv a s
 a0:lv a=0
 path:∀ c∈s.q,Path free a (lv c) c
 fst:∀ c f,s.g c=some f->f∈aG a.1 a.2/\free f=true/\∃ k,lv c=k+1/\Path free f k c
 noend:∀ c∈s.q,ends c=false
 mono:∀ (j k:Nat) (c d:Cl),j<=k->s.q[j]?=some c->s.q[k]?=some d->lv c<=lv d
 top:∀ c∈s.q,lv c<=m+1
 idx:∀ (j:Nat) (c:Cl),s.q[j]?=some c->lv c<=j
theorem lY {free ends:Cl->Bool}{a:Cl}{i:Nat}{cur:Cl}(D:free a=false):∀ (ns:List Cl) (s:Bs) (o:Cl->Nat),Lev free ends a s o (o cur)->s.q[i]?=some cur->(∀ n∈ns,n∈aG cur.1 cur.2) ->
  (∀ f,bF free ends i cur ns s=.inl f->f∈aG a.1 a.2/\free f=true/\∃ n,ends n=true/\Path free f (o cur) n) /\
  (∀ s',bF free ends i cur ns s=.inr s'->∃ p,Lev free ends a s' p (o cur)/\(∀ c∈s.q,p c=o c)/\(∃ m,s'.q=s.q ++ m)/\∀ n∈ns,free n=true->n∈s'.q/\p n<=o cur+1)
 | [],s,o,h,_,_=>by
  unfold bF
  refine ⟨fun f h=>(by cases h),fun s' hs=>?_⟩
  cases hs
  exact ⟨o,h,fun _ _=>rfl,⟨[],by simp⟩,fun n hn=>absurd hn (by simp)⟩
 | n :: ns,s,o,h,hi,E=>by
  obtain ⟨l,b1,b2,b3,P⟩:=h.inv
  have A:cur∈s.q:=mem_of_getElem? hi
  have w:=E n (by simp)
  have J:free n=true->(if 0 < i then (s.g cur).getD (0,0) else n)∈aG a.1 a.2/\free (if 0 < i then (s.g cur).getD (0,0) else n)=true/\Path free (if 0 < i then (s.g cur).getD (0,0) else n) (o cur) n:=by
   intro v
   by_cases h0:0 < i
   ·rw [if_pos h0]
    have hl:cur∈l:=by
     rw [b1] at hi
     obtain ⟨j,rfl⟩:∃ j,i=j+1:=⟨i - 1,by omega⟩
     exact mem_of_getElem? (by simpa using hi)
    obtain ⟨f,I⟩:=Option.isSome_iff_exists.1 ((P cur).2 hl)
    obtain ⟨p1,p2,k,p3,p4⟩:=h.fst cur f I
    rw [I,p3]
    exact ⟨p1,p2,.snoc p4 w v⟩
   rw [if_neg h0]
   have:cur=a:=by
    have e:i=0:=by omega
    subst e
    rw [b1] at hi
    simpa using hi.symm
   subst this
   rw [h.a0]
   exact ⟨w,v,.nil⟩
  unfold bF
  split
  ·rename_i b
   obtain ⟨y,z⟩:=lY D (i:=i) ns s o h hi (fun m hm=>E m (by simp [hm]))
   refine ⟨y,fun s' hs=>?_⟩
   obtain ⟨p,q1,H,q3,q4⟩:=z s' hs
   refine ⟨p,q1,H,q3,fun m hm v=>?_⟩
   rcases mem_cons.1 hm with rfl|hm
   ·have hs:(s.g m).isSome=true:=by
     rw [v] at b
     simpa using b
    have hq:m∈s.q:=by rw [b1];exact mem_cons_of_mem _ ((P m).1 hs)
    obtain ⟨x,hx⟩:=q3
    exact ⟨by rw [hx];exact mem_append_left _ hq,by rw [H m hq];exact h.top m hq⟩
   exact q4 m hm v
  rename_i b
  have v:free n=true:=by
   cases h:free n with
   | true=>rfl
   | false=>simp [h] at b
  have hg:(s.g n).isSome=false:=by
   cases h:(s.g n).isSome with
   | false=>rfl
   | true=>simp [h] at b
  have ab:n∉l:=fun hl=>by have:=(P n).2 hl;rw [hg] at this;cases this
  have M:n≠a:=fun e=>by rw [e,D] at v;cases v
  have N:n∉s.q:=by rw [b1];simp;exact ⟨M,ab⟩
  obtain ⟨f1,f2,f3⟩:=J v
  split
  ·rename_i R
   refine ⟨fun f V=>?_,fun s' V=>(by cases V)⟩
   cases V
   exact ⟨f1,f2,n,R,f3⟩
  rename_i R
  have aa:cur≠n:=fun e=>N (e ▸ A)
  obtain ⟨r,L⟩:∃ x:Cl->Nat,x=fun c=>if c=n then o cur+1 else o c:=⟨_,rfl⟩
  have B:r n=o cur+1:=by rw [L];simp
  have O:∀ c,c≠n->r c=o c:=fun c b=>by rw [L];simp [b]
  have C:∀ c∈s.q,r c=o c:=fun c b=>O c (fun e=>N (e ▸ b))
  have ec:r cur=o cur:=O cur aa
  have K:i < s.q.length:=(gs.1 hi).1
  have L1:Lev free ends a ⟨s.q ++ [n],fun k=>if k=n then some (if 0 < i then (s.g cur).getD (0,0) else n) else s.g k⟩ r (r cur):=by
   refine ⟨h.inv.add n _ hg (kJ _ _ n w),by rw [O a (fun e=>M e.symm)];exact h.a0,?_,?_,?_,?_,?_,?_⟩
   ·intro c b
    rcases mem_append.1 b with b|b
    ·rw [C c b];exact h.path c b
    simp at b;subst b;rw [B];exact .snoc (h.path cur A) w v
   ·intro c f u
    dsimp only at u
    by_cases e:c=n
    ·rw [if_pos e] at u
     cases u
     subst e
     exact ⟨f1,f2,o cur,B,f3⟩
    rw [if_neg e] at u
    rw [O c e]
    exact h.fst c f u
   ·intro c b
    rcases mem_append.1 b with b|b
    ·exact h.noend c b
    simp at b;subst b;simpa using R
   ·intro j k c d W t F
    dsimp only at t F
    by_cases Y:k < s.q.length
    ·rw [getElem?_append_left Y] at F
     rw [getElem?_append_left (by omega)] at t
     rw [C c (mem_of_getElem? t),C d (mem_of_getElem? F)]
     exact h.mono j k c d W t F
    rw [getElem?_append_right (by omega)] at F
    have Q:d=n:=by
     have:=mem_of_getElem? F
     simpa using this
    rw [Q,B]
    have b:c∈s.q ++ [n]:=mem_of_getElem? t
    rcases mem_append.1 b with b|b
    ·rw [C c b];exact h.top c b
    simp at b;subst b;rw [B];exact Nat.le_refl _
   ·intro c b
    rw [ec]
    rcases mem_append.1 b with b|b
    ·rw [C c b];exact h.top c b
    simp at b;subst b;rw [B];exact Nat.le_refl _
   intro j c t
   dsimp only at t
   by_cases X:j < s.q.length
   ·rw [getElem?_append_left X] at t
    rw [C c (mem_of_getElem? t)]
    exact h.idx j c t
   rw [getElem?_append_right (by omega)] at t
   have Q:c=n:=by
    have:=mem_of_getElem? t
    simpa using this
   rw [Q,B]
   have:=h.idx i cur hi
   omega
  obtain ⟨y,z⟩:=lY D (i:=i) (cur:=cur) ns _ r L1 (by dsimp only;rw [getElem?_append_left K];exact hi) (fun m hm=>E m (by simp [hm]))
  rw [ec] at y z
  refine ⟨y,fun s' hs=>?_⟩
  obtain ⟨p,q1,H,⟨x,hx⟩,q4⟩:=z s' hs
  dsimp only at H hx
  refine ⟨p,q1,fun c b=>by rw [H c (mem_append_left _ b),C c b],⟨n :: x,by rw [hx];simp⟩,fun m hm S=>?_⟩
  rcases mem_cons.1 hm with rfl|hm
  ·exact ⟨by rw [hx];simp,by rw [H m (by simp),B];exact Nat.le_refl _⟩
  exact q4 m hm S
theorem lC {free ends:Cl->Bool}{a:Cl}{i:Nat}{s:Bs}{b:Cl->Nat}{m:Nat}(h:Lev free ends a s b m)(e:∀ j c,j < i->s.q[j]?=some c->∀ n∈aG c.1 c.2,free n=true->n∈s.q/\b n<=b c+1){k:Nat}{c:Cl}(o:Path free a k c) :
  (c∈s.q/\b c<=k)\/∃ j d,i<=j/\s.q[j]?=some d/\b d+1<=k:=by
 induction o using Path.ind with
 | nil =>
  obtain ⟨l,b1,_⟩:=h.inv
  exact .inl ⟨by rw [b1];simp,by rw [h.a0];exact Nat.le_refl _⟩
 | snoc o hn t u =>
  rename_i k c n
  rcases u with ⟨r,hl⟩|⟨j,d,h1,p,w⟩
  ·obtain ⟨j,g⟩:=getElem?_of_mem r
   by_cases f:j < i
   ·obtain ⟨v,x⟩:=e j c f g n hn t
    exact .inl ⟨v,by omega⟩
   exact .inr ⟨j,c,by omega,g,by omega⟩
  exact .inr ⟨j,d,h1,p,by omega⟩
theorem wQ {free ends:Cl->Bool}{a:Cl}{s:Bs}{w:Cl->Nat}{m:Nat}(h:Lev free ends a s w m)(r:aD a.1 a.2=true):s.q.length<=144:=by
 obtain ⟨l,h1,o,y,p⟩:=h.inv
 have g:a∉l:=fun hl=>by
  obtain ⟨f,u⟩:=Option.isSome_iff_exists.1 ((p a).2 hl)
  obtain ⟨_,_,k,v,_⟩:=h.fst a f u
  rw [h.a0] at v
  omega
 have b:=h.inv.on r
 have j:s.q.Nodup:=by rw [h1,nodup_cons];exact ⟨g,o⟩
 have:(s.q.map (fun c=>ci c.1 c.2)).length<=144:=by
  apply rK
  ·rw [Nodup,pairwise_map]
   apply Pairwise.imp_of_mem _ j
   intro c d i t n e
   apply n
   have z:=bM.1 (b c i)
   have A:=bM.1 (b d t)
   unfold ci at e
   apply Prod.ext <;> omega
  intro x hx
  obtain ⟨c,i,rfl⟩:=mem_map.1 hx
  exact eK (b c i)
 simpa using this
def sV (free ends:Cl->Bool)(a r:Cl):Prop :=
  (r∈aG a.1 a.2/\free r=true/\∃ k n,k<=143/\ends n=true/\Path free r k n/\∀ j m,ends m=true->Path free a j m->k+1<=j)\/(r=a/\∀ j m,ends m=true->¬ Path free a j m)
theorem tT {free ends:Cl->Bool}{a:Cl}(t:free a=false)(y:aD a.1 a.2=true):∀ (fuel i:Nat) (s:Bs) (g:Cl->Nat) (m:Nat),fuel+i=146->Lev free ends a s g m->(∀ c,s.q[i]?=some c->m<=g c) ->
  (∀ j c,j < i->s.q[j]?=some c->∀ n∈aG c.1 c.2,free n=true->n∈s.q/\g n<=g c+1)->sV free ends a (cY free ends a fuel i s)
 | 0,i,s,g,m,z,h,_,b=>by
  unfold cY
  refine .inr ⟨rfl,fun j n hn v=>?_⟩
  have hl:=wQ h y
  rcases lC h b v with ⟨h1,_⟩|⟨k,d,h1,r,_⟩
  ·rw [h.noend n h1] at hn;cases hn
  have:=(gs.1 r).1
  omega
 | fuel+1,i,s,g,m,z,h,hm,b=>by
  unfold cY
  cases l:s.q[i]? with
  | none =>
   refine .inr ⟨rfl,fun j n hn v=>?_⟩
   rcases lC h b v with ⟨h1,_⟩|⟨k,d,h1,r,_⟩
   ·rw [h.noend n h1] at hn;cases hn
   have M:=(gs.1 r).1
   have S:=List.getElem?_eq_none_iff.1 l
   omega
  | some cur =>
   dsimp only
   have L:Lev free ends a s g (g cur):={ h with top:=fun c o=>Nat.le_trans (h.top c o) (by have:=hm cur l;omega) }
   obtain ⟨Q,R⟩:=lY t (i:=i) (cur:=cur) (aG cur.1 cur.2) s g L l (fun _ hn=>hn)
   cases D:bF free ends i cur (aG cur.1 cur.2) s with
   | inl f =>
    obtain ⟨H,I,n,J,K⟩:=Q f D
    have hl:=wQ h y
    have u:=(gs.1 l).1
    have N:=h.idx i cur l
    refine .inl ⟨H,I,g cur,n,by omega,J,K,fun j x hx v=>?_⟩
    rcases lC h b v with ⟨h1,_⟩|⟨k,d,h1,r,M⟩
    ·rw [h.noend x h1] at hx;cases hx
    have:=h.mono i k cur d h1 l r
    omega
   | inr s' =>
    dsimp only
    obtain ⟨B,F,w,⟨x,hx⟩,P⟩:=R s' D
    have u:=(gs.1 l).1
    have p:cur∈s.q:=mem_of_getElem? l
    have A:s'.q[i]?=some cur:=by rw [hx,getElem?_append_left u];exact l
    refine tT t y fuel (i+1) s' B (g cur) (by omega) F (fun c o=>?_) ?_
    ·have:=F.mono i (i+1) cur c (by omega) A o
     rw [w cur p] at this
     exact this
    intro j c V o n hn C
    rw [hx,getElem?_append_left (by omega)] at o
    by_cases e:j=i
    ·subst e
     rw [l] at o
     cases o
     rw [w cur p]
     exact P n hn C
    obtain ⟨E,O⟩:=b j c (by omega) o n hn C
    rw [w c (mem_of_getElem? o),w n E]
    exact ⟨by rw [hx];exact mem_append_left _ E,O⟩
theorem DU {free ends:Cl->Bool}{a:Cl}(g:free a=false)(i:aD a.1 a.2=true)(e:ends a=false):sV free ends a (cQ free ends a):=by
 unfold cQ
 refine tT g i 146 0 _ (fun _=>0) 0 rfl ⟨BInv.start a,rfl,?_,?_,?_,?_,?_,?_⟩ (fun _ _=>Nat.le_refl _) (fun j _ l=>by omega)
 ·intro c b;simp at b;subst b;exact .nil
 ·intro c f h;cases h
 ·intro c b;simp at b;subst b;exact e
 ·intro j k c d _ _ _;exact Nat.le_refl _
 ·intro c _;omega
 intro j c _;omega
