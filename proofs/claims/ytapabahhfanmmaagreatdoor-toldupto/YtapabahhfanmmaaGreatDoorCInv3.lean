import Derived.Test.YtapabahhfanmmaaGreatDoorCBuild
namespace Go.Proofs.YtapabahhfanmmaaGreatDoor
open Go.RowKit
theorem vz6 {free ends:Cl->Bool}{a:Cl}{i:Nat}{cur:Cl}:∀ (ns:List Cl) (s:Bs),(∀ k c,s.g k=some c->c∈qj0 a.1 a.2/\free c=true)->(0 < i->(s.g cur).isSome=true)->(i=0->∀ n∈ns,n∈qj0 a.1 a.2) ->
  (∀ c,bIn free ends i cur ns s=.inl c->c∈qj0 a.1 a.2/\free c=true) /\
  (∀ s',bIn free ends i cur ns s=.inr s'->(∀ k c,s'.g k=some c->c∈qj0 a.1 a.2/\free c=true)/\(∃ m,s'.q=s.q ++ m/\∀ n∈m,(s'.g n).isSome=true)/\∀ k,(s.g k).isSome=true->(s'.g k).isSome=true)
 | [],s,h1,_,_=>by
  unfold bIn
  refine ⟨fun c h=>(by cases h),fun s' h=>?_⟩
  cases h
  exact ⟨h1,⟨[],by simp,by simp⟩,fun _ h=>h⟩
 | n :: ns,s,h1,h2,h3=>by
  unfold bIn
  have hn:free n=true->(if 0 < i then (s.g cur).getD (0,0) else n)∈qj0 a.1 a.2/\free (if 0 < i then (s.g cur).getD (0,0) else n)=true:=by
   intro hf
   by_cases hi:0 < i
   ·rw [if_pos hi]
    obtain ⟨c,hc⟩:=Option.isSome_iff_exists.1 (h2 hi)
    rw [hc]
    exact h1 _ _ hc
   ·rw [if_neg hi]
    exact ⟨h3 (by omega) n (by simp),hf⟩
  split
  ·exact vz6 ns s h1 h2 (fun hi m hm=>h3 hi m (by simp [hm]))
  ·rename_i hc
   have hf:free n=true:=by
    cases h:free n with
    | true=>rfl
    | false=>simp [h] at hc
   split
   ·refine ⟨fun c h=>?_,fun s' h=>by cases h⟩
    cases h
    exact hn hf
   ·have ih:=vz6 (free:=free) (ends:=ends) (a:=a) (i:=i) (cur:=cur) ns ⟨s.q ++ [n],fun k=>if k=n then some (if 0 < i then (s.g cur).getD (0,0) else n) else s.g k⟩
     (fun k c hk=>by
      dsimp only at hk
      by_cases he:k=n
      ·rw [if_pos he] at hk
       cases hk
       exact hn hf
      ·rw [if_neg he] at hk
       exact h1 k c hk)
     (fun hi=>by
      dsimp only
      by_cases he:cur=n
      ·rw [if_pos he];rfl
      ·rw [if_neg he];exact h2 hi)
     (fun hi m hm=>h3 hi m (by simp [hm]))
    refine ⟨ih.1,fun s' h=>?_⟩
    obtain ⟨i1,⟨m,i2,i3⟩,i4⟩:=ih.2 s' h
    refine ⟨i1,⟨n :: m,by rw [i2];simp,fun k hk=>?_⟩,fun k hk=>i4 k ?_⟩
    ·rcases List.mem_cons.1 hk with rfl|hk
     ·exact i4 k (by simp)
     ·exact i3 k hk
    ·dsimp only
     by_cases he:k=n
     ·rw [if_pos he];rfl
     ·rw [if_neg he];exact hk
theorem xz7 {free ends:Cl->Bool}{a:Cl}:∀ (fuel i:Nat) (s:Bs),(∀ k c,s.g k=some c->c∈qj0 a.1 a.2/\free c=true)->(∀ j c,0 < j->s.q[j]?=some c->(s.g c).isSome=true)->s.q[0]?=some a ->
  zk7 free ends a fuel i s=a\/(zk7 free ends a fuel i s∈qj0 a.1 a.2/\free (zk7 free ends a fuel i s)=true)
 | 0,i,s,_,_,_=>by unfold zk7;exact Or.inl rfl
 | fuel+1,i,s,h1,h2,h3=>by
  unfold zk7
  cases hq:s.q[i]? with
  | none=>exact Or.inl rfl
  | some cur =>
   dsimp only
   have hb:=vz6 (free:=free) (ends:=ends) (a:=a) (i:=i) (cur:=cur) (qj0 cur.1 cur.2) s h1 (fun hi=>h2 i cur hi hq) (fun hi n hn=>by
    subst hi
    rw [h3] at hq
    cases hq
    exact hn)
   cases hr:bIn free ends i cur (qj0 cur.1 cur.2) s with
   | inl c=>exact Or.inr (hb.1 c hr)
   | inr s' =>
    obtain ⟨i1,⟨m,i2,i3⟩,i4⟩:=hb.2 s' hr
    refine xz7 fuel (i+1) s' i1 (fun j c hj hc=>?_) ?_
    ·rw [i2] at hc
     by_cases hl:j < s.q.length
     ·rw [List.getElem?_append_left hl] at hc
      exact i4 c (h2 j c hj hc)
     ·rw [List.getElem?_append_right (by omega)] at hc
      exact i3 c (List.mem_of_getElem? hc)
    ·have hl:0 < s.q.length:=(List.getElem?_eq_some_iff.1 h3).1
     rw [i2,List.getElem?_append_left hl]
     exact h3
theorem dz4 (free ends:Cl->Bool)(a:Cl):bfs free ends a=a\/(bfs free ends a∈qj0 a.1 a.2/\free (bfs free ends a)=true):=by
 unfold bfs
 refine xz7 146 0 _ (fun k c h=>by cases h) (fun j c hj h=>?_) rfl
 cases j with
 | zero=>omega
 | succ j=>simp at h
theorem xk2 {x y:Int}{c:Cl}(h:c∈qj0 x y):onB c.1 c.2=true/\(c.1 - x)*(c.1 - x)+(c.2 - y)*(c.2 - y)=1:=by
 refine ⟨jk0 x y c h,?_⟩
 have h1:=(List.mem_filter.1 h).1
 simp [sds] at h1
 rcases h1 with rfl|rfl|rfl|rfl <;> simp <;> omega
theorem zk9 {α β:Type}(f:α->β):∀ (l:List α) (i:Nat) (u u':α),l[i]?=some u->f u'=f u->(l.set i u').map f=l.map f
 | [],_,_,_,h,_=>by simp at h
 | a :: l,0,u,u',h,e=>by simp at h;subst h;simp [e]
 | a :: l,i+1,u,u',h,e=>by simpa using zk9 f l i u u' (by simpa using h) e
theorem vv6 {α:Type}:∀ (l:List α) (i:Nat) (u:α),l[i]?=some u->l.set i u=l
 | [],_,_,h=>by simp at h
 | a :: l,0,u,h=>by simp at h;subst h;rfl
 | a :: l,i+1,u,h=>by simpa using vv6 l i u (by simpa using h)
theorem zv9 {α:Type}{l:List α}{i:Nat}{u' v:α}(h:v∈l.set i u'):v=u'\/∃ j,j≠i/\l[j]?=some v:=by
 obtain ⟨j,hj⟩:=List.getElem?_of_mem h
 rw [List.getElem?_set] at hj
 by_cases e:i=j
 ·rw [if_pos e] at hj
  by_cases hl:i < l.length
  ·rw [if_pos hl] at hj;cases hj;exact Or.inl rfl
  ·rw [if_neg hl] at hj;cases hj
 ·rw [if_neg e] at hj
  exact Or.inr ⟨j,fun h=>e h.symm,hj⟩
theorem vk0 {α:Type}{l:List α}{i:Nat}{u u':α}(h:l[i]?=some u):u'∈l.set i u':=by
 have hl:=(List.getElem?_eq_some_iff.1 h).1
 exact List.mem_of_getElem? (i:=i) (by rw [List.getElem?_set_self hl])
theorem vk1 {α:Type}{l:List α}{i j:Nat}{u' v:α}(h:l[j]?=some v)(hn:j≠i):v∈l.set i u' :=
  List.mem_of_getElem? (i:=j) (by rw [List.getElem?_set_ne (fun e=>hn e.symm)];exact h)
theorem kq8 (f:U->Int):∀ (l:List U) (i:Nat) (u u':U),l[i]?=some u->((l.set i u').map f).sum=(l.map f).sum - f u+f u'
 | [],_,_,_,h=>by simp at h
 | a :: l,0,u,u',h=>by simp at h;subst h;simp;omega
 | a :: l,i+1,u,u',h=>by
  have:=kq8 f l i u u' (by simpa using h)
  simp at this |-
  omega
theorem xv6 (f:U->Int):∀ (l:List U) (i:Nat) (u:U),l[i]?=some u->((l.eraseIdx i).map f).sum=(l.map f).sum - f u
 | [],_,_,h=>by simp at h
 | a :: l,0,u,h=>by simp at h;subst h;simp;omega
 | a :: l,i+1,u,h=>by
  have:=xv6 f l i u (by simpa using h)
  simp at this |-
  omega
theorem jv2 (p:U->Bool):∀ (l:List U) (i:Nat) (u:U),l[i]?=some u->(l.eraseIdx i).countP p+(if p u then 1 else 0)=l.countP p
 | [],_,_,h=>by simp at h
 | a :: l,0,u,h=>by simp at h;subst h;simp [List.countP_cons]
 | a :: l,i+1,u,h=>by
  have:=jv2 p l i u (by simpa using h)
  simp only [List.eraseIdx_cons_succ,List.countP_cons] at this |-
  omega
theorem zx8 (p:U->Bool)(l:List U)(i:Nat)(u u':U)(h:l[i]?=some u)(e:p u'=p u):(l.set i u').countP p=l.countP p:=by
 have h1:∀ m:List U,m.countP p=(m.map p).countP id:=fun m=>by rw [List.countP_map];rfl
 rw [h1,h1,zk9 p l i u u' h e]
theorem yq6 (f:Nat->Int)(k:Nat)(v:Int):∀ n,k < n->((List.range n).map fun i=>if i=k then v else f i).sum=((List.range n).map f).sum - f k+v
 | 0,h=>by omega
 | n+1,h=>by
  rw [List.range_succ,List.map_append,List.map_append,List.sum_append,List.sum_append]
  by_cases e:k < n
  ·rw [yq6 f k v n e]
   have:n≠k:=by omega
   rw [List.map_singleton,List.map_singleton,if_neg this]
   omega
  ·have:n=k:=by omega
   subst this
   have h2:((List.range n).map fun i=>if i=n then v else f i)=(List.range n).map f:=by
    apply List.map_congr_left
    intro i hi
    have:=List.mem_range.1 hi
    rw [if_neg (by omega)]
   rw [h2,List.map_singleton,List.map_singleton,if_pos rfl]
   simp
def jk9 (u:U):Prop:=u.what=0\/(u.what=1/\(u.kind=2\/u.kind=3))\/(u.what=2/\u.kind=2/\onB u.tox u.toy=true)\/(u.what=3/\u.kind=3)\/(u.what=4/\u.kind=1/\(u.tox=2\/u.tox=3))
structure UOk (bd:Nat->Int) (held:Cl->Option Int) (next:Int) (u:U):Prop where
 on:onB u.x u.y=true
 gr:bd (ci u.x u.y)=0
 hd:held (u.x,u.y)=some u.id
 ow:u.owner=0\/u.owner=1
 kd:u.kind=1\/u.kind=2\/u.kind=3
 lf:1<=u.life/\u.life<=qx9 u.kind
 ld:0<=u.load/\u.load<=5/\(0 < u.load->u.kind=2)
 id:1<=u.id/\u.id < next
 od:jk9 u
structure TOk (t:T):Prop where
 rise:Rise t.us
 all:∀ u∈t.us,UOk t.bd t.held t.next u
 hel:∀ c i,t.held c=some i->∃ u∈t.us,u.id=i/\(u.x,u.y)=c
 nx:1<=t.next/\t.next<=1000000000
 st:(0<=t.s0/\t.s0<=1000000000)/\(0<=t.s1/\t.s1<=1000000000)
 bd:∀ i,i < 144->0<=t.bd i/\t.bd i<=10
 len:t.us.length<=100
 b0:t.us.countP (qq4 0)<=1
 b1:t.us.countP (qq4 1)<=1
 bs:1<=t.us.countP (qq4 0)+t.us.countP (qq4 1)
def vk8 (bd:Nat->Int)(i:Nat):Int:=if bd i < 10 then bd i else 0
def yz5 (bd:Nat->Int):Int:=((List.range 144).map (vk8 bd)).sum
def worth (u:U):Int:=u.load+zq6 u.kind
def jy0 (t:T):Int:=t.s0+t.s1+yz5 t.bd+(t.us.map worth).sum
theorem yk6 {us:List U}:Rise us↔(us.map U.id).Pairwise (· < ·):=by unfold Rise;rw [List.pairwise_map]
theorem Rise.set {us:List U}(h:Rise us){i:Nat}{u u':U}(hi:us[i]?=some u)(e:u'.id=u.id):Rise (us.set i u'):=by
 rw [yk6] at h |-
 rwa [zk9 U.id us i u u' hi e]
theorem Rise.ne {us:List U}(h:Rise us){i j:Nat}{a b:U}(hi:us[i]?=some a)(hj:us[j]?=some b)(hij:i≠j):a.id≠b.id:=by
 rcases Nat.lt_or_gt_of_ne hij with h1|h1
 ·have:=h.lt hi hj h1;omega
 ·have:=h.lt hj hi h1;omega
theorem dw0 (us:List U):qx3 us=false↔1<=us.countP (qq4 0)/\1<=us.countP (qq4 1):=by
 have h:∀ o,(qj8 us o).isSome=true↔1<=us.countP (qq4 o):=fun o=>by
  unfold qj8
  rw [List.find?_isSome,show (1<=us.countP (qq4 o))↔0 < us.countP (qq4 o) from Iff.rfl,List.countP_pos_iff]
 unfold qx3
 rw [<- h 0,<- h 1]
 cases (qj8 us 0).isSome <;> cases (qj8 us 1).isSome <;> simp
theorem xx8 (k:Int):qx9 k<=40:=by unfold qx9;split <;> (try split) <;> omega
theorem TOk.put {t t':T} (h:TOk t) {i:Nat} {u u':U} (hi:t.us[i]?=some u) (hus:t'.us=t.us.set i u') (hhe:t'.held=t.held) (hnx:t'.next=t.next)
  (hst:(0<=t'.s0/\t'.s0<=1000000000)/\(0<=t'.s1/\t'.s1<=1000000000)) (hbd:∀ k,k < 144->0<=t'.bd k/\t'.bd k<=10) (hb0:∀ k,t.bd k=0->t'.bd k=0)
  (e1:u'.id=u.id) (e2:u'.owner=u.owner) (e3:u'.kind=u.kind) (e4:u'.x=u.x) (e5:u'.y=u.y) (hl:1<=u'.life/\u'.life<=qx9 u'.kind) (hld:0<=u'.load/\u'.load<=5/\(0 < u'.load->u'.kind=2)) (ho:jk9 u'):TOk t':=by
 have hu:=h.all u (List.mem_of_getElem? hi)
 have hisb:∀ o,qq4 o u'=qq4 o u:=fun o=>by unfold qq4;rw [e2,e3]
 refine ⟨?_,?_,?_,?_,hst,hbd,?_,?_,?_,?_⟩
 ·rw [hus];exact h.rise.set hi e1
 ·intro v hv
  rw [hus] at hv
  rw [hhe,hnx]
  rcases zv9 hv with rfl|⟨j,_,hj⟩
  ·exact ⟨by rw [e4,e5];exact hu.on,by rw [e4,e5];exact hb0 _ hu.gr,by rw [e4,e5,e1];exact hu.hd,by rw [e2];exact hu.ow,by rw [e3];exact hu.kd,hl,hld,by rw [e1];exact hu.id,ho⟩
  ·have hv:=h.all v (List.mem_of_getElem? hj)
   exact { hv with gr:=hb0 _ hv.gr }
 ·intro c k hk
  rw [hhe] at hk
  obtain ⟨v,hv,h1,h2⟩:=h.hel c k hk
  rw [hus]
  obtain ⟨j,hj⟩:=List.getElem?_of_mem hv
  by_cases e:j=i
  ·subst e
   rw [hi] at hj
   cases hj
   exact ⟨u',vk0 hi,by rw [e1];exact h1,by rw [e4,e5];exact h2⟩
  ·exact ⟨v,vk1 hj e,h1,h2⟩
 ·rw [hnx];exact h.nx
 ·rw [hus,List.length_set];exact h.len
 ·rw [hus,zx8 _ _ i u u' hi (hisb 0)];exact h.b0
 ·rw [hus,zx8 _ _ i u u' hi (hisb 1)];exact h.b1
 ·rw [hus,zx8 _ _ i u u' hi (hisb 0),zx8 _ _ i u u' hi (hisb 1)];exact h.bs
theorem TOk.go {t:T}(h:TOk t){i:Nat}{u:U}(hi:t.us[i]?=some u)(c:Cl)(hc:onB c.1 c.2=true)(hg:t.bd (ci c.1 c.2)=0)(hf:t.held c=none):TOk { t.moved u c with us:=t.us.set i (u.to c) }:=by
 have hu:=h.all u (List.mem_of_getElem? hi)
 have hisb:∀ o,qq4 o (u.to c)=qq4 o u:=fun o=>rfl
 have hcu:(u.x,u.y)≠c:=fun e=>by have:=hu.hd;rw [e,hf] at this;cases this
 refine ⟨h.rise.set hi rfl,?_,?_,h.nx,h.st,h.bd,?_,?_,?_,?_⟩
 ·intro v hv
  rcases zv9 hv with rfl|⟨j,hne,hj⟩
  ·exact { hu with on:=hc,gr:=hg,hd:=by simp }
  ·have hv:=h.all v (List.mem_of_getElem? hj)
   have hn:=h.rise.ne hj hi hne
   refine { hv with hd:=?_ }
   dsimp only
   rw [if_neg (fun e=>by have:=hv.hd;rw [e,hf] at this;cases this),if_neg (fun e=>by have h1:=hv.hd;rw [e,hu.hd] at h1;exact hn (Option.some.inj h1).symm)]
   exact hv.hd
 ·intro d k hk
  dsimp only at hk
  by_cases e1:d=c
  ·rw [if_pos e1] at hk
   cases hk
   exact ⟨u.to c,vk0 hi,rfl,e1.symm⟩
  ·rw [if_neg e1] at hk
   by_cases e2:d=(u.x,u.y)
   ·rw [if_pos e2] at hk;cases hk
   ·rw [if_neg e2] at hk
    obtain ⟨v,hv,h1,h2⟩:=h.hel d k hk
    obtain ⟨j,hj⟩:=List.getElem?_of_mem hv
    have:j≠i:=fun e=>by
     subst e
     rw [hi] at hj
     cases hj
     exact e2 h2.symm
    exact ⟨v,vk1 hj this,h1,h2⟩
 ·dsimp only;rw [List.length_set];exact h.len
 ·dsimp only;rw [zx8 _ _ i u _ hi (hisb 0)];exact h.b0
 ·dsimp only;rw [zx8 _ _ i u _ hi (hisb 1)];exact h.b1
 ·dsimp only;rw [zx8 _ _ i u _ hi (hisb 0),zx8 _ _ i u _ hi (hisb 1)];exact h.bs
theorem TOk.gone {t:T}(h:TOk t){j:Nat}{v:U}(hj:t.us[j]?=some v)(hno:qx3 t.us=false):TOk { t with us:=t.us.eraseIdx j,held:=fun k=>if k=(v.x,v.y) then none else t.held k }:=by
 have hv:=h.all v (List.mem_of_getElem? hj)
 have c0:=jv2 (qq4 0) _ _ _ hj
 have c1:=jv2 (qq4 1) _ _ _ hj
 have hh:=(dw0 _).1 hno
 have hb0:=h.b0
 have hb1:=h.b1
 refine ⟨List.Pairwise.sublist (List.eraseIdx_sublist _ _) h.rise,?_,?_,h.nx,h.st,h.bd,?_,?_,?_,?_⟩
 ·intro u hu
  obtain ⟨k,hne,hk⟩:=List.mem_eraseIdx_iff_getElem?.1 hu
  have hu:=h.all u (List.mem_of_getElem? hk)
  have hn:=h.rise.ne hk hj hne
  refine { hu with hd:=?_ }
  dsimp only
  rw [if_neg (fun e=>by have h1:=hu.hd;rw [e,hv.hd] at h1;exact hn (Option.some.inj h1).symm)]
  exact hu.hd
 ·intro d k hk
  dsimp only at hk
  by_cases e:d=(v.x,v.y)
  ·rw [if_pos e] at hk;cases hk
  ·rw [if_neg e] at hk
   obtain ⟨u,hu,h1,h2⟩:=h.hel d k hk
   obtain ⟨m,hm⟩:=List.getElem?_of_mem hu
   refine ⟨u,List.mem_eraseIdx_iff_getElem?.2 ⟨m,fun e2=>?_,hm⟩,h1,h2⟩
   subst e2
   rw [hj] at hm
   cases hm
   exact e h2.symm
 ·dsimp only
  exact Nat.le_trans (List.eraseIdx_sublist _ _).length_le h.len
 ·dsimp only;omega
 ·dsimp only;omega
 ·dsimp only
  have:¬ (qq4 0 v=true/\qq4 1 v=true):=by
   unfold qq4
   simp
   omega
  by_cases p0:qq4 0 v=true
  ·rw [if_pos p0] at c0
   rw [if_neg (fun p1=>this ⟨p0,p1⟩)] at c1
   omega
  ·rw [if_neg p0] at c0
   omega
theorem TOk.new {t:T} (h:TOk t) (o k:Int) (c:Cl) (s0 s1:Int) (hc:onB c.1 c.2=true) (hg:t.bd (ci c.1 c.2)=0) (hf:t.held c=none) (ho:o=0\/o=1) (hk:k=2\/k=3) (hlen:t.us.length < 100) (hnx:t.next < 1000000000)
  (hst:(0<=s0/\s0<=1000000000)/\(0<=s1/\s1<=1000000000)):TOk { t with s0:=s0,s1:=s1,us:=t.us ++ [qk4 t.next o k c.1 c.2 (qx9 k)],next:=t.next+1,held:=fun d=>if d=c then some t.next else t.held d }:=by
 have hnb:∀ p,qq4 p (qk4 t.next o k c.1 c.2 (qx9 k))=false:=fun p=>by
  unfold qq4 qk4
  rcases hk with rfl|rfl <;> rfl
 have hn:=h.nx
 refine ⟨?_,?_,?_,?_,hst,h.bd,?_,?_,?_,?_⟩
 ·show Rise (t.us ++ [_])
  unfold Rise
  rw [List.pairwise_append]
  refine ⟨h.rise,by simp,fun a ha b hb=>?_⟩
  simp at hb
  subst hb
  exact (h.all a ha).id.2
 ·intro v hv
  dsimp only at hv |-
  rcases List.mem_append.1 hv with hv|hv
  ·have hv:=h.all v hv
   refine { hv with hd:=?_,id:=⟨hv.id.1,by have:=hv.id.2;omega⟩ }
   rw [if_neg (fun e=>by have:=hv.hd;rw [e,hf] at this;cases this)]
   exact hv.hd
  ·simp at hv
   subst hv
   refine ⟨hc,hg,by simp,ho,Or.inr hk,?_,by simp,⟨hn.1,show t.next < t.next+1 by omega⟩,Or.inl rfl⟩
   unfold qk4 qx9
   rcases hk with rfl|rfl <;> simp
 ·intro d i hd
  dsimp only at hd |-
  by_cases e:d=c
  ·rw [if_pos e] at hd
   cases hd
   exact ⟨qk4 t.next o k c.1 c.2 (qx9 k),List.mem_append_right _ (by simp),rfl,e.symm⟩
  ·rw [if_neg e] at hd
   obtain ⟨v,hv,h1,h2⟩:=h.hel d i hd
   exact ⟨v,List.mem_append_left _ hv,h1,h2⟩
 ·dsimp only;omega
 ·dsimp only;simp;omega
 ·dsimp only;rw [List.countP_append];simp [hnb];exact h.b0
 ·dsimp only;rw [List.countP_append];simp [hnb];exact h.b1
 ·dsimp only;rw [List.countP_append,List.countP_append];simp [hnb];exact h.bs
def qj4 (t:T)(u:U):T:=match qz0 t.us u.id with|some i=>{ t with us:=t.us.set i u }|none=>t
def qv9 (t:T)(u:U):U×T:=if u.what=1 then qw6 t u else if u.what=2 then qv1 t u else if u.what=3 then qy0 t u else if u.what=4 then qj7 t u else (u,t)
def qw3 (t:T)(u:U):T:=qj4 (qv9 t u).2 (qv9 t u).1
structure Near1 (P:Int->Prop) (v v':U):Prop where
 id:v'.id=v.id
 kind:v'.kind=v.kind
 owner:v'.owner=v.owner
 life:v'.life<=v.life
 near:(v'.x - v.x)*(v'.x - v.x)+(v'.y - v.y)*(v'.y - v.y)<=1
 stay:¬ P v.id->v'.x=v.x/\v'.y=v.y
theorem Near1.same (P:Int->Prop)(v:U):Near1 P v v:=⟨rfl,rfl,rfl,Int.le_refl _,by simp,fun _=>⟨rfl,rfl⟩⟩
structure Good (t:T) (P:Int->Prop) (t':T):Prop where
 ok:TOk t'
 nx:t.next<=t'.next
 rel:∀ v'∈t'.us,t.next<=v'.id\/∃ v∈t.us,Near1 P v v'
 we:jy0 t'<=jy0 t
 tn:t'.turn=t.turn
theorem Good.refl {t:T}(h:TOk t)(P:Int->Prop):Good t P t:=⟨h,Int.le_refl _,fun v hv=>Or.inr ⟨v,hv,Near1.same P v⟩,Int.le_refl _,rfl⟩
theorem qy2 {t:T}{i:Nat}{u u':U}(hr:Rise t.us)(hi:t.us[i]?=some u)(e:u'.id=u.id):qj4 t u'={ t with us:=t.us.set i u' }:=by
 unfold qj4
 rw [jk3 hr hi e.symm]
theorem qw9 {t:T}{i:Nat}{u:U}(hr:Rise t.us)(hi:t.us[i]?=some u):qj4 t u=t:=by
  rw [qy2 hr hi rfl,vv6 _ _ _ hi]
theorem Good.put {t t':T} (h:TOk t) {i:Nat} {u u':U} (hi:t.us[i]?=some u) (P:Int->Prop) (hus:t'.us=t.us.set i u') (hhe:t'.held=t.held) (hnx:t'.next=t.next) (htn:t'.turn=t.turn)
  (hst:(0<=t'.s0/\t'.s0<=1000000000)/\(0<=t'.s1/\t'.s1<=1000000000)) (hbd:∀ k,k < 144->0<=t'.bd k/\t'.bd k<=10) (hb0:∀ k,t.bd k=0->t'.bd k=0)
  (e1:u'.id=u.id) (e2:u'.owner=u.owner) (e3:u'.kind=u.kind) (e4:u'.x=u.x) (e5:u'.y=u.y) (hl:1<=u'.life/\u'.life<=u.life) (hld:0<=u'.load/\u'.load<=5/\(0 < u'.load->u'.kind=2)) (ho:jk9 u')
  (hw:t'.s0+t'.s1+yz5 t'.bd+u'.load<=t.s0+t.s1+yz5 t.bd+u.load):Good t P t':=by
 have hu:=h.all u (List.mem_of_getElem? hi)
 refine ⟨h.put hi hus hhe hnx hst hbd hb0 e1 e2 e3 e4 e5 ⟨hl.1,by rw [e3];exact Int.le_trans hl.2 hu.lf.2⟩ hld ho,by rw [hnx];exact Int.le_refl _,?_,?_,htn⟩
 ·intro v hv
  rw [hus] at hv
  rcases zv9 hv with rfl|⟨j,_,hj⟩
  ·exact Or.inr ⟨u,List.mem_of_getElem? hi,e1,e3,e2,hl.2,by rw [e4,e5];simp,fun _=>⟨e4,e5⟩⟩
  ·exact Or.inr ⟨v,List.mem_of_getElem? hj,Near1.same P v⟩
 ·unfold jy0
  rw [hus,kq8 worth _ i u u' hi]
  have:worth u'=u'.load+zq6 u.kind:=by unfold worth;rw [e3]
  have:worth u=u.load+zq6 u.kind:=rfl
  omega
theorem kx8 {t:T}{c:Cl}(h:qv3 (qx2 t.held) t.bd c.1 c.2=true):t.held c=none/\t.bd (ci c.1 c.2)=0:=by
 unfold qv3 qx2 at h
 simp at h
 exact ⟨h.1,h.2⟩
theorem Good.go {t:T}(h:TOk t){i:Nat}{u:U}(hi:t.us[i]?=some u)(ends:Cl->Bool):Good t (·=u.id) (qj4 (t.moved u (qv7 t u ends)) (u.to (qv7 t u ends))):=by
 have hu:=h.all u (List.mem_of_getElem? hi)
 rcases dz4 (fun c=>qv3 (qx2 t.held) t.bd c.1 c.2) ends (u.x,u.y) with e|⟨h1,h2⟩
 ·have e':qv7 t u ends=(u.x,u.y):=e
  rw [e',qw9 (t:=t.moved u (u.x,u.y)) (u:=u.to (u.x,u.y)) h.rise hi]
  have:t.moved u (u.x,u.y)=t:=by
   have hh:(fun k=>if k=(u.x,u.y) then some u.id else if k=(u.x,u.y) then none else t.held k)=t.held:=by
    funext k
    by_cases ek:k=(u.x,u.y)
    ·rw [if_pos ek,ek,hu.hd]
    ·rw [if_neg ek,if_neg ek]
   show { t with held:=_ }=t
   rw [hh]
  rw [this]
  exact Good.refl h _
 ·have h1:qv7 t u ends∈qj0 u.x u.y:=h1
  have h2:qv3 (qx2 t.held) t.bd (qv7 t u ends).1 (qv7 t u ends).2=true:=h2
  obtain ⟨c,hc⟩:∃ c,qv7 t u ends=c:=⟨_,rfl⟩
  rw [hc] at h1 h2 |-
  obtain ⟨f1,f2⟩:=kx8 h2
  obtain ⟨n1,n2⟩:=xk2 h1
  rw [qy2 (t:=t.moved u c) (u:=u) (u':=u.to c) h.rise hi rfl]
  refine ⟨h.go hi c n1 f2 f1,Int.le_refl _,?_,?_,rfl⟩
  ·intro v hv
   rcases zv9 hv with rfl|⟨j,hne,hj⟩
   ·exact Or.inr ⟨u,List.mem_of_getElem? hi,rfl,rfl,rfl,Int.le_refl _,by simp only;omega,fun hn=>absurd rfl hn⟩
   ·exact Or.inr ⟨v,List.mem_of_getElem? hj,Near1.same _ v⟩
  ·unfold jy0
   dsimp only
   rw [kq8 worth _ i u _ hi]
   have:worth (u.to c)=worth u:=rfl
   omega
theorem Good.same {t:T}(h:TOk t){i:Nat}{u:U}(hi:t.us[i]?=some u)(u':U)(e1:u'.id=u.id)(e2:u'.owner=u.owner)(e3:u'.kind=u.kind)(e4:u'.x=u.x)(e5:u'.y=u.y)(e6:u'.life=u.life)(e7:u'.load=u.load)(ho:jk9 u'):Good t (·=u.id) (qj4 t u'):=by
 have hu:=h.all u (List.mem_of_getElem? hi)
 rw [qy2 h.rise hi e1]
 exact Good.put h hi (·=u.id) (u':=u') rfl rfl rfl rfl h.st h.bd (fun _ e=>e) e1 e2 e3 e4 e5 (by rw [e6];exact ⟨hu.lf.1,Int.le_refl _⟩) (by rw [e7,e3];exact hu.ld) ho (by simp only;omega)
theorem Good.idle {t:T}(h:TOk t){i:Nat}{u:U}(hi:t.us[i]?=some u):Good t (·=u.id) (qj4 t u.idle):=Good.same h hi u.idle rfl rfl rfl rfl rfl rfl rfl (Or.inl rfl)
theorem Good.stay {t:T}(h:TOk t){i:Nat}{u:U}(hi:t.us[i]?=some u):Good t (·=u.id) (qj4 t u):=by rw [qw9 h.rise hi];exact Good.refl h _
theorem gj1 {t:T}(h:TOk t){i:Nat}{u:U}(hi:t.us[i]?=some u):Good t (·=u.id) (qj4 (qw6 t u).2 (qw6 t u).1):=by
 unfold qw6
 split
 ·exact Good.idle h hi
 ·exact Good.go h hi _
theorem kz4 {t:T}(h:TOk t){i:Nat}{u:U}(hi:t.us[i]?=some u):Good t (·=u.id) (qj4 (qk3 t u).2 (qk3 t u).1):=by
 have hu:=h.all u (List.mem_of_getElem? hi)
 have hst:=h.st
 have hld:=hu.ld
 unfold qk3
 split
 ·exact Good.stay h hi
 ·split
  ·have hus:∀ o v,(t.setStock o v).us=t.us:=fun o v=>by unfold T.setStock;split <;> rfl
   dsimp only
   rw [qy2 (t:=t.setStock u.owner _) (u:=u) (u':={ u with load:=0 }) (by rw [hus];exact h.rise) (by rw [hus];exact hi) rfl,hus]
   rcases hu.ow with ho|ho
   ·rw [show t.setStock u.owner=fun v=>{ t with s0:=v } from funext fun v=>by unfold T.setStock;rw [if_pos ho],show t.stock u.owner=t.s0 by unfold T.stock;rw [if_pos ho]]
    dsimp only
    refine Good.put h hi (·=u.id) (u':={ u with load:=0 }) rfl rfl rfl rfl ?_ h.bd (fun _ e=>e) rfl rfl rfl rfl rfl ⟨hu.lf.1,Int.le_refl _⟩ (by simp) hu.od ?_
    ·dsimp only;omega
    ·dsimp only;omega
   ·have ho':¬ u.owner=0:=by omega
    rw [show t.setStock u.owner=fun v=>{ t with s1:=v } from funext fun v=>by unfold T.setStock;rw [if_neg ho'],show t.stock u.owner=t.s1 by unfold T.stock;rw [if_neg ho']]
    dsimp only
    refine Good.put h hi (·=u.id) (u':={ u with load:=0 }) rfl rfl rfl rfl ?_ h.bd (fun _ e=>e) rfl rfl rfl rfl rfl ⟨hu.lf.1,Int.le_refl _⟩ (by simp) hu.od ?_
    ·dsimp only;omega
    ·dsimp only;omega
  ·exact Good.go h hi _
theorem gv0 (t:T)(k:Nat)(v:Int)(hk:k < 144)(h0:t.bd k < 10)(hv:v < 10):yz5 (t.setBd k v).bd=yz5 t.bd - t.bd k+v:=by
 unfold yz5
 have h1:vk8 (t.setBd k v).bd=fun i=>if i=k then v else vk8 t.bd i:=by
  funext i
  unfold vk8 T.setBd
  dsimp only
  by_cases e:i=k
  ·simp [e,hv]
  ·simp [e]
 rw [h1,yq6 (vk8 t.bd) k v 144 hk]
 have:vk8 t.bd k=t.bd k:=by unfold vk8;rw [if_pos h0]
 rw [this]
theorem gj0 {t:T}(h:TOk t){i:Nat}{u:U}(hi:t.us[i]?=some u)(hon:onB u.tox u.toy=true)(hkd:u.kind=2):Good t (·=u.id) (qj4 (qv1 t u).2 (qv1 t u).1):=by
 have hu:=h.all u (List.mem_of_getElem? hi)
 have hld:=hu.ld
 unfold qv1
 split
 ·exact kz4 h hi
 ·rename_i h0
  split
  ·rename_i hore
   have hk:=zz0 hon
   have hb:=h.bd _ hk
   unfold yx9 at hore
   simp at hore
   split
   ·obtain ⟨k,hkk⟩:∃ k,ci u.tox u.toy=k:=⟨_,rfl⟩
    rw [hkk] at hk hb hore |-
    obtain ⟨b,hbb⟩:∃ b,t.bd k=b:=⟨_,rfl⟩
    have hbb':=hbb
    dsimp only
    rw [hbb] at hb hore |-
    rw [qy2 (t:=t.setBd k _) (u:=u) (u':={ u with load:=min b 5 }) h.rise hi rfl]
    refine Good.put h hi (·=u.id) (u':={ u with load:=min b 5 }) rfl rfl rfl rfl h.st ?_ ?_ rfl rfl rfl rfl rfl ⟨hu.lf.1,Int.le_refl _⟩ ⟨by dsimp only;omega,by dsimp only;omega,fun _=>hkd⟩ hu.od ?_
    ·intro j hj
     show 0<=(if j=k then b - min b 5 else t.bd j)/\(if j=k then b - min b 5 else t.bd j)<=10
     split
     ·omega
     ·exact h.bd j hj
    ·intro j hj
     show (if j=k then b - min b 5 else t.bd j)=0
     split
     ·rename_i e;subst e;omega
     ·exact hj
    ·have:=gv0 t k (b - min b 5) hk (by omega) (by omega)
     show t.s0+t.s1+yz5 (t.setBd k (b - min b 5)).bd+min b 5<=_
     rw [this,hbb']
     omega
   ·exact Good.go h hi _
  ·exact Good.idle h hi
theorem gy4 {x y x' y':Int}(h:qv5 x y x' y'=true):(x,y)≠(x',y'):=by
 intro e
 cases e
 unfold qv5 at h
 simp at h
theorem fj7 {t:T}(h:TOk t){i:Nat}{u:U}(hi:t.us[i]?=some u)(hno:qx3 t.us=false):Good t (·=u.id) (qj4 (qy0 t u).2 (qy0 t u).1):=by
 unfold qy0
 cases hp:qz0 t.us u.target with
 | none=>exact Good.idle h hi
 | some j =>
  dsimp only
  cases hj:t.us[j]? with
  | none=>exact Good.idle h hi
  | some v =>
   dsimp only
   have hv:=h.all v (List.mem_of_getElem? hj)
   split
   ·rename_i hadj
    have hne:=gy4 hadj
    have hij:i≠j:=fun e=>by
     subst e
     rw [hi] at hj
     cases hj
     exact hne rfl
    dsimp only
    unfold T.harm
    rw [hj]
    dsimp only
    split
    ·have hg:=h.gone hj hno
     obtain ⟨m,hm⟩:=List.getElem?_of_mem (List.mem_eraseIdx_iff_getElem?.2 ⟨i,hij,hi⟩)
     rw [qw9 hg.rise hm]
     refine ⟨hg,Int.le_refl _,?_,?_,rfl⟩
     ·intro x hx
      exact Or.inr ⟨x,List.mem_of_mem_eraseIdx hx,Near1.same _ x⟩
     ·unfold jy0
      dsimp only
      rw [xv6 worth _ j v hj]
      have h1:0<=worth v:=by
       have:=hv.ld.1
       unfold worth zq6
       split <;> (try split) <;> omega
      omega
    ·have hg:Good t (·=u.id) { t with us:=t.us.set j { v with life:=v.life - 3 } }:=Good.put h hj (·=u.id) (u':={ v with life:=v.life - 3 }) rfl rfl rfl rfl h.st h.bd (fun _ e=>e) rfl rfl rfl rfl rfl ⟨by dsimp only;omega,by dsimp only;omega⟩ hv.ld hv.od (by dsimp only;omega)
     have hm:(t.us.set j { v with life:=v.life - 3 })[i]?=some u:=by rw [List.getElem?_set_ne (fun e=>hij e.symm)];exact hi
     rw [qw9 hg.ok.rise hm]
     exact hg
   ·exact Good.go h hi _
theorem kz5 {t:T}(h:TOk t){i:Nat}{u:U}(hi:t.us[i]?=some u)(hk:u.tox=2\/u.tox=3):Good t (·=u.id) (qj4 (qj7 t u).2 (qj7 t u).1):=by
 have hu:=h.all u (List.mem_of_getElem? hi)
 have hst:=h.st
 unfold qj7
 split
 ·exact Good.stay h hi
 ·split
  ·exact Good.stay h hi
  ·split
   ·exact Good.stay h hi
   ·cases hc:(qj0 u.x u.y).find? (fun c=>qv3 (qx2 t.held) t.bd c.1 c.2) with
    | none=>exact Good.stay h hi
    | some c =>
     rename_i c1 c2 c3
     dsimp only
     have hmem:=List.mem_of_find?_eq_some hc
     have hfr:=List.find?_some hc
     obtain ⟨f1,f2⟩:=kx8 hfr
     obtain ⟨n1,n2⟩:=xk2 hmem
     have hcost:0<=zq6 u.tox:=by unfold zq6;split <;> (try split) <;> omega
     have key:∀ s0 s1:Int,(0<=s0/\s0<=1000000000)/\(0<=s1/\s1<=1000000000)->s0+s1=t.s0+t.s1 - zq6 u.tox ->
       Good t (·=u.id) (qj4 { t with s0:=s0,s1:=s1,us:=t.us ++ [qk4 t.next u.owner u.tox c.1 c.2 (qx9 u.tox)],next:=t.next+1,held:=fun d=>if d=c then some t.next else t.held d } u.idle):=by
      intro s0 s1 hs he
      have hnew:=h.new u.owner u.tox c s0 s1 n1 f2 f1 hu.ow hk (by omega) (by omega) hs
      have hi':(t.us ++ [qk4 t.next u.owner u.tox c.1 c.2 (qx9 u.tox)])[i]?=some u:=by
       rw [List.getElem?_append_left (List.getElem?_eq_some_iff.1 hi).1];exact hi
      have hg:=Good.idle hnew hi'
      refine ⟨hg.ok,Int.le_trans (by simp only;omega) hg.nx,?_,?_,hg.tn⟩
      ·intro v hv
       rcases hg.rel v hv with h1|⟨x,hx,hn⟩
       ·exact Or.inl (Int.le_trans (by simp only;omega) h1)
       ·rcases List.mem_append.1 hx with hx|hx
        ·exact Or.inr ⟨x,hx,hn⟩
        ·simp at hx
         subst hx
         exact Or.inl (by rw [hn.id];exact Int.le_refl _)
      ·refine Int.le_trans hg.we ?_
       unfold jy0
       dsimp only
       rw [List.map_append,List.sum_append]
       have:([qk4 t.next u.owner u.tox c.1 c.2 (qx9 u.tox)].map worth).sum=zq6 u.tox:=by simp [worth,qk4]
       rw [this]
       omega
     rcases hu.ow with ho|ho
     ·rw [ho] at c1 key |-
      have:=key (t.s0 - zq6 u.tox) t.s1 (by simp [T.stock] at c1;omega) (by omega)
      simpa [T.added,T.setStock,T.stock] using this
     ·rw [ho] at c1 key |-
      have:=key t.s0 (t.s1 - zq6 u.tox) (by simp [T.stock] at c1;omega) (by omega)
      simpa [T.added,T.setStock,T.stock] using this
theorem yv3 {t:T}(h:TOk t){i:Nat}{u:U}(hi:t.us[i]?=some u)(hno:qx3 t.us=false):Good t (·=u.id) (qw3 t u):=by
 have hu:=h.all u (List.mem_of_getElem? hi)
 unfold qw3 qv9
 rcases hu.od with e|⟨e,_⟩|⟨e,e2,e3⟩|⟨e,_⟩|⟨e,_,e2⟩
 ·simp only [e]
  exact Good.stay h hi
 ·simp only [e]
  exact gj1 h hi
 ·simp only [e]
  exact gj0 h hi e3 e2
 ·simp only [e]
  exact fj7 h hi hno
 ·simp only [e]
  exact kz5 h hi e2
theorem Good.trans {a b c:T}{P Q:Int->Prop}(h1:Good a P b)(h2:Good b Q c)(hd:∀ i,P i->Q i->False):Good a (fun i=>P i\/Q i) c:=by
 refine ⟨h2.ok,Int.le_trans h1.nx h2.nx,?_,Int.le_trans h2.we h1.we,h2.tn.trans h1.tn⟩
 intro v2 hv2
 rcases h2.rel v2 hv2 with h|⟨v1,hv1,n2⟩
 ·exact Or.inl (Int.le_trans h1.nx h)
 ·rcases h1.rel v1 hv1 with h|⟨v,hv,n1⟩
  ·exact Or.inl (by rw [n2.id];exact h)
  ·refine Or.inr ⟨v,hv,n2.id.trans n1.id,n2.kind.trans n1.kind,n2.owner.trans n1.owner,Int.le_trans n2.life n1.life,?_,?_⟩
   ·by_cases hp:P v.id
    ·obtain ⟨e1,e2⟩:=n2.stay (fun hq=>hd _ hp (by rw [<- n1.id];exact hq))
     rw [e1,e2]
     exact n1.near
    ·obtain ⟨e1,e2⟩:=n1.stay hp
     rw [<- e1,<- e2]
     exact n2.near
   ·intro hn
    obtain ⟨e1,e2⟩:=n1.stay (fun hp=>hn (Or.inl hp))
    obtain ⟨e3,e4⟩:=n2.stay (fun hq=>hn (Or.inr (by rw [<- n1.id];exact hq)))
    exact ⟨e3.trans e1,e4.trans e2⟩
theorem Good.weaken {a b:T}{P Q:Int->Prop}(h:Good a P b)(hpq:∀ i,P i->Q i):Good a Q b :=
  ⟨h.ok,h.nx,fun v hv=>(h.rel v hv).imp id (fun ⟨x,hx,n⟩=>⟨x,hx,{ n with stay:=fun hn=>n.stay (fun hp=>hn (hpq _ hp)) }⟩),h.we,h.tn⟩
def qj3 (t:T)(u:U)(c:Cm):Bool :=
 if c.what=0 then true
 else if c.what=1 then (u.kind==2||u.kind==3)&&(onB c.x c.y&&t.bd (ci c.x c.y) != 10)
 else if c.what=2 then u.kind==2&&(onB c.x c.y&&yx9 (t.bd (ci c.x c.y)))
 else if c.what=3 then u.kind==3&&jy9 t.us u.owner c.target
 else if c.what=4 then u.kind==1&&(c.x==2||c.x==3)
 else false
def zx3 (c:Cm):Cm :=
 if c.what=0 then ⟨c.unit,c.what,0,0,0⟩
 else if c.what=3 then ⟨c.unit,c.what,0,0,c.target⟩
 else if c.what=4 then ⟨c.unit,c.what,c.x,0,0⟩
 else ⟨c.unit,c.what,c.x,c.y,0⟩
def zj1 (t:T)(p:Int)(c:Cm):Bool×T :=
 match qz0 t.us c.unit with
 | none=>(false,t)
 | some i =>
  match t.us[i]? with
  | none=>(false,t)
  | some u=>if u.owner=p/\qj3 t u c=true then (true,{ t with us:=t.us.set i (u.ordered (zx3 c)) }) else (false,t)
def qz6 (p:Int):Nat->List Cm->T->List Nat×T
 | _,[],t=>([],t)
 | k,c :: l,t =>
  let r:=zj1 t p c
  let q:=qz6 p (k+1) l r.2
  (if r.1=true then q.1 else k :: q.1,q.2)
theorem qqq5 {t:T}{u:U}{c:Cm}(h:qj3 t u c=true):jk9 (u.ordered (zx3 c)):=by
 unfold qj3 at h
 unfold zx3 jk9
 split at h
 ·rename_i e;simp [e]
 ·split at h
  ·rename_i e;simp [e] at h |-;exact h.1
  ·split at h
   ·rename_i e;simp [e] at h |-;exact ⟨h.1,h.2.1⟩
   ·split at h
    ·rename_i e;simp [e] at h |-;exact h.1
    ·split at h
     ·rename_i e;simp [e] at h |-;exact h
     ·cases h
theorem vz1 {t:T}(h:TOk t)(p:Int)(c:Cm)(P:Int->Prop):Good t P (zj1 t p c).2/\(zj1 t p c).2.us.map (fun u=>(u.kind,u.owner))=t.us.map (fun u=>(u.kind,u.owner)):=by
 unfold zj1
 cases hp:qz0 t.us c.unit with
 | none=>exact ⟨Good.refl h _,rfl⟩
 | some i =>
  dsimp only
  cases hi:t.us[i]? with
  | none=>exact ⟨Good.refl h _,rfl⟩
  | some u =>
   dsimp only
   have hu:=h.all u (List.mem_of_getElem? hi)
   split
   ·rename_i hc
    refine ⟨?_,zk9 _ _ i u _ hi rfl⟩
    exact Good.put h hi P (u':=u.ordered (zx3 c)) rfl rfl rfl rfl h.st h.bd (fun _ e=>e) rfl rfl rfl rfl rfl ⟨hu.lf.1,Int.le_refl _⟩ hu.ld (qqq5 hc.2) (Int.le_refl _)
   ·exact ⟨Good.refl h _,rfl⟩
theorem dw1 {us us':List U}(h:us'.map (fun u=>(u.kind,u.owner))=us.map (fun u=>(u.kind,u.owner))):qx3 us'=qx3 us:=by
 have h1:∀ (o:Int) (l:List U),(qj8 l o).isSome=(l.map (fun u=>(u.kind,u.owner))).any (fun q=>q.1==1&&q.2==o):=fun o l=>by
  unfold qj8
  induction l with
  | nil=>rfl
  | cons a l ih =>
   rw [List.find?_cons,List.map_cons,List.any_cons,<- ih]
   unfold qq4
   cases (a.kind==1&&a.owner==o) <;> simp
 unfold qx3
 rw [h1,h1,h1,h1,h]
theorem jx7 (p:Int)(P:Int->Prop):∀ (l:List Cm) (k:Nat) {t:T},TOk t->(∀ i,P i->False)->Good t P (qz6 p k l t).2/\qx3 (qz6 p k l t).2.us=qx3 t.us
 | [],_,_,h,_=>⟨Good.refl h _,rfl⟩
 | c :: l,k,t,h,hP=>by
  obtain ⟨h1,h2⟩:=vz1 h p c P
  obtain ⟨h3,h4⟩:=jx7 p P l (k+1) h1.ok hP
  exact ⟨(h1.trans h3 (fun i hi _=>hP i hi)).weaken (fun i hi=>hi.elim id id),h4.trans (dw1 h2)⟩
def zw6 (t:T)(v:U):T :=
 match qz0 t.us v.id with
 | none=>t
 | some i=>match t.us[i]? with|none=>t|some u=>qw3 t u
def zq5:List U->T->T
 | [],t=>t
 | v :: l,t=>if qx3 (zw6 t v).us=true then zw6 t v else zq5 l (zw6 t v)
theorem yj3 {t:T}(h:TOk t)(hno:qx3 t.us=false)(v:U):Good t (·=v.id) (zw6 t v):=by
 unfold zw6
 cases hp:qz0 t.us v.id with
 | none=>exact Good.refl h _
 | some i =>
  dsimp only
  obtain ⟨u,hi,he⟩:=qv8 hp
  rw [hi]
  dsimp only
  rw [<- he]
  exact yv3 h hi hno
theorem jy3:∀ (l:List U) {t:T},TOk t->qx3 t.us=false->(l.map U.id).Nodup->Good t (fun i=>i∈l.map U.id) (zq5 l t)
 | [],t,h,_,_=>Good.refl h _
 | v :: l,t,h,hno,hnd=>by
  have h1:=yj3 h hno v
  rw [List.map_cons,List.nodup_cons] at hnd
  unfold zq5
  split
  ·exact h1.weaken (fun i hi=>by subst hi;simp)
  ·rename_i ho
   have h2:=jy3 l h1.ok (by simpa using ho) hnd.2
   exact (h1.trans h2 (fun i e hi=>hnd.1 (by subst e;exact hi))).weaken (fun i hi=>by
    rcases hi with e|hi
    ·subst e;simp
    ·exact List.mem_cons_of_mem _ hi)
def qx8 (us:List U):Cl->Option Int:=us.foldl (fun h u=>fun k=>if k=(u.x,u.y) then some u.id else h k) (fun _=>none)
theorem jy4:∀ (us:List U) (h0:Cl->Option Int) (c:Cl) (i:Int),(∀ u∈us,(u.x,u.y)=c->u.id=i)->us.foldl (fun h u=>fun k=>if k=(u.x,u.y) then some u.id else h k) h0 c=(if us.any (fun u=>decide ((u.x,u.y)=c))=true then some i else h0 c)
 | [],h0,c,i,_=>by simp
 | u :: us,h0,c,i,h=>by
  rw [List.foldl_cons,jy4 us _ c i (fun v hv=>h v (by simp [hv]))]
  by_cases hc:(u.x,u.y)=c
  ·have:=h u (by simp) hc
   by_cases ha:us.any (fun u=>decide ((u.x,u.y)=c))=true
   ·rw [if_pos ha,if_pos (by simp at ha |-;exact Or.inr ha)]
   ·rw [if_neg ha,if_pos hc.symm,if_pos (by rw [List.any_cons];simp [hc]),this]
  ·by_cases ha:us.any (fun u=>decide ((u.x,u.y)=c))=true
   ·rw [if_pos ha,if_pos (by simp at ha |-;exact Or.inr ha)]
   ·rw [if_neg ha,if_neg (fun e=>hc e.symm),if_neg (by rw [List.any_cons];simp [hc] at ha |-;exact ha)]
theorem qqj7 {t:T}(h:TOk t):qx8 t.us=t.held:=by
 funext c
 unfold qx8
 cases hc:t.held c with
 | none =>
  have hno:∀ u∈t.us,(u.x,u.y)≠c:=fun u hu e=>by
   have:=(h.all u hu).hd
   rw [e,hc] at this
   cases this
  rw [jy4 t.us _ c 0 (fun u hu e=>absurd e (hno u hu)),if_neg]
  simp only [List.any_eq_true,decide_eq_true_eq,not_exists,not_and]
  exact hno
 | some i =>
  rw [jy4 t.us _ c i (fun u hu e=>by
   have:=(h.all u hu).hd
   rw [e,hc] at this
   cases this
   rfl),if_pos]
  obtain ⟨u,hu,_,e⟩:=h.hel c i hc
  simp only [List.any_eq_true,decide_eq_true_eq]
  exact ⟨u,hu,e⟩
def GOk (t:T):Prop:=TOk { t with held:=qx8 t.us }
def qk7 (t:T):T:={ t with held:=qx8 t.us }
def qk6 (t:T)(first second:List Cm):T×List Nat×List Nat :=
 if 1000000000<=t.turn then (t,List.range first.length,List.range second.length)
 else if qx3 t.us=true then ({ t with turn:=t.turn+1 },List.range first.length,List.range second.length)
 else
  let q0:=qz6 0 0 first (qk7 t)
  let q1:=qz6 1 0 second q0.2
  let t4:=zq5 q1.2.us q1.2
  ({ t4 with turn:=t4.turn+1 },q0.1,q1.1)
structure Played (t t':T):Prop where
 ok:GOk t'
 rel:∀ v'∈t'.us,t.next<=v'.id\/∃ v∈t.us,Near1 (fun _=>True) v v'
 we:jy0 t'<=jy0 t
 tn:t'.turn=t.turn+1
theorem yz7 {us:List U}(h:Rise us):(us.map U.id).Nodup:=by
 rw [yk6] at h
 exact h.imp (fun h=>by omega)
theorem fz7 {t:T}(h:GOk t)(first second:List Cm)(ht:t.turn < 1000000000):Played t (qk6 t first second).1:=by
 unfold qk6
 rw [if_neg (by omega)]
 have hb:TOk (qk7 t):=h
 split
 ·exact ⟨⟨h.rise,h.all,h.hel,h.nx,h.st,h.bd,h.len,h.b0,h.b1,h.bs⟩,fun v hv=>Or.inr ⟨v,hv,Near1.same _ v⟩,Int.le_refl _,rfl⟩
 ·rename_i hno
  dsimp only
  have hno':qx3 (qk7 t).us=false:=by show qx3 t.us=false;simpa using hno
  obtain ⟨g0,o0⟩:=jx7 0 (fun _=>False) first 0 hb (fun _ e=>e)
  obtain ⟨g1,o1⟩:=jx7 1 (fun _=>False) second 0 g0.ok (fun _ e=>e)
  have g2:=jy3 (qz6 1 0 second (qz6 0 0 first (qk7 t)).2).2.us g1.ok (by rw [o1,o0];exact hno') (yz7 g1.ok.rise)
  have g:=((g0.trans g1 (fun _ e _=>e)).trans g2 (fun _ e _=>by rcases e with e|e <;> exact e)).weaken (Q:=fun _=>True) (fun _ _=>trivial)
  obtain ⟨t4,ht4⟩:∃ x,zq5 (qz6 1 0 second (qz6 0 0 first (qk7 t)).2).2.us (qz6 1 0 second (qz6 0 0 first (qk7 t)).2).2=x:=⟨_,rfl⟩
  rw [ht4] at g |-
  refine ⟨?_,g.rel,g.we,by dsimp only;rw [g.tn];rfl⟩
  show TOk { t4 with turn:=t4.turn+1,held:=qx8 t4.us }
  rw [qqj7 g.ok]
  exact ⟨g.ok.rise,g.ok.all,g.ok.hel,g.ok.nx,g.ok.st,g.ok.bd,g.ok.len,g.ok.b0,g.ok.b1,g.ok.bs⟩
def Path (free : Cl → Bool) (a : Cl) : Nat → Cl → Prop
 | 0, c => c = a
 | k + 1, n => ∃ c, Path free a k c ∧ n ∈ qj0 c.1 c.2 ∧ free n = true
theorem Path.nil {free : Cl → Bool} {a : Cl} : Path free a 0 a := rfl
theorem Path.snoc {free : Cl → Bool} {a : Cl} {k : Nat} {c n : Cl} (h : Path free a k c) (h1 : n ∈ qj0 c.1 c.2) (h2 : free n = true) : Path free a (k + 1) n := ⟨c, h, h1, h2⟩
theorem Path.ind {free : Cl → Bool} {a : Cl} {M : ∀ k c, Path free a k c → Prop} (nil : M 0 a .nil) (snoc : ∀ {k : Nat} {c n : Cl} (h : Path free a k c) (h1 : n ∈ qj0 c.1 c.2) (h2 : free n = true), M k c h → M (k + 1) n (.snoc h h1 h2)) : ∀ {k : Nat} {c : Cl} (h : Path free a k c), M k c h
 | 0, _, rfl => nil
 | _ + 1, _, ⟨_, h, h1, h2⟩ => snoc h h1 h2 (Path.ind nil snoc h)
theorem Path.cons {free:Cl->Bool}{a f:Cl}(h1:f∈qj0 a.1 a.2)(h2:free f=true){k:Nat}{c:Cl}(h:Path free f k c):Path free a (k+1) c:=by
 induction h using Path.ind with
 | nil=>exact .snoc .nil h1 h2
 | snoc _ hn hf ih=>exact .snoc ih hn hf
structure Lev (free ends:Cl->Bool) (a:Cl) (s:Bs) (lv:Cl->Nat) (m:Nat):Prop where
 inv:BInv a s
 a0:lv a=0
 path:∀ c∈s.q,Path free a (lv c) c
 fst:∀ c f,s.g c=some f->f∈qj0 a.1 a.2/\free f=true/\∃ k,lv c=k+1/\Path free f k c
 noend:∀ c∈s.q,ends c=false
 mono:∀ (j k:Nat) (c d:Cl),j<=k->s.q[j]?=some c->s.q[k]?=some d->lv c<=lv d
 top:∀ c∈s.q,lv c<=m+1
 idx:∀ (j:Nat) (c:Cl),s.q[j]?=some c->lv c<=j
theorem yj6 {free ends:Cl->Bool}{a:Cl}{i:Nat}{cur:Cl}(hfa:free a=false):∀ (ns:List Cl) (s:Bs) (lv:Cl->Nat),Lev free ends a s lv (lv cur)->s.q[i]?=some cur->(∀ n∈ns,n∈qj0 cur.1 cur.2) ->
  (∀ f,bIn free ends i cur ns s=.inl f->f∈qj0 a.1 a.2/\free f=true/\∃ n,ends n=true/\Path free f (lv cur) n) /\
  (∀ s',bIn free ends i cur ns s=.inr s'->∃ lv',Lev free ends a s' lv' (lv cur)/\(∀ c∈s.q,lv' c=lv c)/\(∃ m,s'.q=s.q ++ m)/\∀ n∈ns,free n=true->n∈s'.q/\lv' n<=lv cur+1)
 | [],s,lv,h,_,_=>by
  unfold bIn
  refine ⟨fun f h=>(by cases h),fun s' hs=>?_⟩
  cases hs
  exact ⟨lv,h,fun _ _=>rfl,⟨[],by simp⟩,fun n hn=>absurd hn (by simp)⟩
 | n :: ns,s,lv,h,hi,hns=>by
  obtain ⟨l,b1,b2,b3,b4⟩:=h.inv
  have hcur:cur∈s.q:=List.mem_of_getElem? hi
  have hnn:=hns n (by simp)
  have hfst:free n=true->(if 0 < i then (s.g cur).getD (0,0) else n)∈qj0 a.1 a.2/\free (if 0 < i then (s.g cur).getD (0,0) else n)=true/\Path free (if 0 < i then (s.g cur).getD (0,0) else n) (lv cur) n:=by
   intro hf
   by_cases h0:0 < i
   ·rw [if_pos h0]
    have hl:cur∈l:=by
     rw [b1] at hi
     obtain ⟨j,rfl⟩:∃ j,i=j+1:=⟨i - 1,by omega⟩
     exact List.mem_of_getElem? (by simpa using hi)
    obtain ⟨f,hfg⟩:=Option.isSome_iff_exists.1 ((b4 cur).2 hl)
    obtain ⟨p1,p2,k,p3,p4⟩:=h.fst cur f hfg
    rw [hfg,p3]
    exact ⟨p1,p2,.snoc p4 hnn hf⟩
   ·rw [if_neg h0]
    have:cur=a:=by
     have e:i=0:=by omega
     subst e
     rw [b1] at hi
     simpa using hi.symm
    subst this
    rw [h.a0]
    exact ⟨hnn,hf,.nil⟩
  unfold bIn
  split
  ·rename_i hc
   obtain ⟨ih1,ih2⟩:=yj6 hfa (i:=i) ns s lv h hi (fun m hm=>hns m (by simp [hm]))
   refine ⟨ih1,fun s' hs=>?_⟩
   obtain ⟨lv',q1,q2,q3,q4⟩:=ih2 s' hs
   refine ⟨lv',q1,q2,q3,fun m hm hf=>?_⟩
   rcases List.mem_cons.1 hm with rfl|hm
   ·have hs:(s.g m).isSome=true:=by
     rw [hf] at hc
     simpa using hc
    have hq:m∈s.q:=by rw [b1];exact List.mem_cons_of_mem _ ((b4 m).1 hs)
    obtain ⟨x,hx⟩:=q3
    exact ⟨by rw [hx];exact List.mem_append_left _ hq,by rw [q2 m hq];exact h.top m hq⟩
   ·exact q4 m hm hf
  ·rename_i hc
   have hf:free n=true:=by
    cases h:free n with
    | true=>rfl
    | false=>simp [h] at hc
   have hg:(s.g n).isSome=false:=by
    cases h:(s.g n).isSome with
    | false=>rfl
    | true=>simp [h] at hc
   have hnl:n∉l:=fun hl=>by have:=(b4 n).2 hl;rw [hg] at this;cases this
   have hna:n≠a:=fun e=>by rw [e,hfa] at hf;cases hf
   have hnq:n∉s.q:=by rw [b1];simp;exact ⟨hna,hnl⟩
   obtain ⟨f1,f2,f3⟩:=hfst hf
   split
   ·rename_i he
    refine ⟨fun f hh=>?_,fun s' hh=>(by cases hh)⟩
    cases hh
    exact ⟨f1,f2,n,he,f3⟩
   ·rename_i he
    have hne:cur≠n:=fun e=>hnq (e ▸ hcur)
    obtain ⟨lv1,hlv⟩:∃ x:Cl->Nat,x=fun c=>if c=n then lv cur+1 else lv c:=⟨_,rfl⟩
    have e1:lv1 n=lv cur+1:=by rw [hlv];simp
    have e2:∀ c,c≠n->lv1 c=lv c:=fun c hc=>by rw [hlv];simp [hc]
    have e3:∀ c∈s.q,lv1 c=lv c:=fun c hc=>e2 c (fun e=>hnq (e ▸ hc))
    have ec:lv1 cur=lv cur:=e2 cur hne
    have hlen:i < s.q.length:=(List.getElem?_eq_some_iff.1 hi).1
    have L1:Lev free ends a ⟨s.q ++ [n],fun k=>if k=n then some (if 0 < i then (s.g cur).getD (0,0) else n) else s.g k⟩ lv1 (lv1 cur):=by
     refine ⟨h.inv.add n _ hg (jk0 _ _ n hnn),by rw [e2 a (fun e=>hna e.symm)];exact h.a0,?_,?_,?_,?_,?_,?_⟩
     ·intro c hc
      rcases List.mem_append.1 hc with hc|hc
      ·rw [e3 c hc];exact h.path c hc
      ·simp at hc;subst hc;rw [e1];exact .snoc (h.path cur hcur) hnn hf
     ·intro c f hcf
      dsimp only at hcf
      by_cases e:c=n
      ·rw [if_pos e] at hcf
       cases hcf
       subst e
       exact ⟨f1,f2,lv cur,e1,f3⟩
      ·rw [if_neg e] at hcf
       rw [e2 c e]
       exact h.fst c f hcf
     ·intro c hc
      rcases List.mem_append.1 hc with hc|hc
      ·exact h.noend c hc
      ·simp at hc;subst hc;simpa using he
     ·intro j k c d hjk hj hk
      dsimp only at hj hk
      by_cases hkl:k < s.q.length
      ·rw [List.getElem?_append_left hkl] at hk
       rw [List.getElem?_append_left (by omega)] at hj
       rw [e3 c (List.mem_of_getElem? hj),e3 d (List.mem_of_getElem? hk)]
       exact h.mono j k c d hjk hj hk
      ·rw [List.getElem?_append_right (by omega)] at hk
       have hd:d=n:=by
        have:=List.mem_of_getElem? hk
        simpa using this
       rw [hd,e1]
       have hc:c∈s.q ++ [n]:=List.mem_of_getElem? hj
       rcases List.mem_append.1 hc with hc|hc
       ·rw [e3 c hc];exact h.top c hc
       ·simp at hc;subst hc;rw [e1];exact Nat.le_refl _
     ·intro c hc
      rw [ec]
      rcases List.mem_append.1 hc with hc|hc
      ·rw [e3 c hc];exact h.top c hc
      ·simp at hc;subst hc;rw [e1];exact Nat.le_refl _
     ·intro j c hj
      dsimp only at hj
      by_cases hjl:j < s.q.length
      ·rw [List.getElem?_append_left hjl] at hj
       rw [e3 c (List.mem_of_getElem? hj)]
       exact h.idx j c hj
      ·rw [List.getElem?_append_right (by omega)] at hj
       have hd:c=n:=by
        have:=List.mem_of_getElem? hj
        simpa using this
       rw [hd,e1]
       have:=h.idx i cur hi
       omega
    obtain ⟨ih1,ih2⟩:=yj6 hfa (i:=i) (cur:=cur) ns _ lv1 L1 (by dsimp only;rw [List.getElem?_append_left hlen];exact hi) (fun m hm=>hns m (by simp [hm]))
    rw [ec] at ih1 ih2
    refine ⟨ih1,fun s' hs=>?_⟩
    obtain ⟨lv',q1,q2,⟨x,hx⟩,q4⟩:=ih2 s' hs
    dsimp only at q2 hx
    refine ⟨lv',q1,fun c hc=>by rw [q2 c (List.mem_append_left _ hc),e3 c hc],⟨n :: x,by rw [hx];simp⟩,fun m hm hfm=>?_⟩
    rcases List.mem_cons.1 hm with rfl|hm
    ·exact ⟨by rw [hx];simp,by rw [q2 m (by simp),e1];exact Nat.le_refl _⟩
    ·exact q4 m hm hfm
theorem jy5 {free ends:Cl->Bool}{a:Cl}{i:Nat}{s:Bs}{lv:Cl->Nat}{m:Nat}(h:Lev free ends a s lv m)(hex:∀ j c,j < i->s.q[j]?=some c->∀ n∈qj0 c.1 c.2,free n=true->n∈s.q/\lv n<=lv c+1){k:Nat}{c:Cl}(hp:Path free a k c) :
  (c∈s.q/\lv c<=k)\/∃ j d,i<=j/\s.q[j]?=some d/\lv d+1<=k:=by
 induction hp using Path.ind with
 | nil =>
  obtain ⟨l,b1,_⟩:=h.inv
  exact Or.inl ⟨by rw [b1];simp,by rw [h.a0];exact Nat.le_refl _⟩
 | snoc hp hn hf ih =>
  rename_i k c n
  rcases ih with ⟨hc,hl⟩|⟨j,d,h1,h2,h3⟩
  ·obtain ⟨j,hj⟩:=List.getElem?_of_mem hc
   by_cases hji:j < i
   ·obtain ⟨p1,p2⟩:=hex j c hji hj n hn hf
    exact Or.inl ⟨p1,by omega⟩
   ·exact Or.inr ⟨j,c,by omega,hj,by omega⟩
  ·exact Or.inr ⟨j,d,h1,h2,by omega⟩
theorem fz0 {free ends:Cl->Bool}{a:Cl}{s:Bs}{lv:Cl->Nat}{m:Nat}(h:Lev free ends a s lv m)(ha:onB a.1 a.2=true):s.q.length<=144:=by
 obtain ⟨l,h1,h2,h3,h4⟩:=h.inv
 have hal:a∉l:=fun hl=>by
  obtain ⟨f,hf⟩:=Option.isSome_iff_exists.1 ((h4 a).2 hl)
  obtain ⟨_,_,k,hk,_⟩:=h.fst a f hf
  rw [h.a0] at hk
  omega
 have hon:=h.inv.on ha
 have hnd:s.q.Nodup:=by rw [h1,List.nodup_cons];exact ⟨hal,h2⟩
 have:(s.q.map (fun c=>ci c.1 c.2)).length<=144:=by
  apply jk1
  ·rw [List.Nodup,List.pairwise_map]
   apply List.Pairwise.imp_of_mem _ hnd
   intro c d hc hd hne e
   apply hne
   have h5:=qz3.1 (hon c hc)
   have h6:=qz3.1 (hon d hd)
   unfold ci at e
   apply Prod.ext <;> omega
  ·intro x hx
   obtain ⟨c,hc,rfl⟩:=List.mem_map.1 hx
   exact zz0 (hon c hc)
 simpa using this
def qzx5 (free ends:Cl->Bool)(a r:Cl):Prop :=
  (r∈qj0 a.1 a.2/\free r=true/\∃ k n,k<=143/\ends n=true/\Path free r k n/\∀ j m,ends m=true->Path free a j m->k+1<=j)\/(r=a/\∀ j m,ends m=true->¬ Path free a j m)
theorem kj0 {free ends:Cl->Bool}{a:Cl}(hfa:free a=false)(ha:onB a.1 a.2=true):∀ (fuel i:Nat) (s:Bs) (lv:Cl->Nat) (m:Nat),fuel+i=146->Lev free ends a s lv m->(∀ c,s.q[i]?=some c->m<=lv c) ->
  (∀ j c,j < i->s.q[j]?=some c->∀ n∈qj0 c.1 c.2,free n=true->n∈s.q/\lv n<=lv c+1)->qzx5 free ends a (zk7 free ends a fuel i s)
 | 0,i,s,lv,m,hfu,h,_,hex=>by
  unfold zk7
  refine Or.inr ⟨rfl,fun j n hn hp=>?_⟩
  have hl:=fz0 h ha
  rcases jy5 h hex hp with ⟨h1,_⟩|⟨k,d,h1,h2,_⟩
  ·rw [h.noend n h1] at hn;cases hn
  ·have:=(List.getElem?_eq_some_iff.1 h2).1
   omega
 | fuel+1,i,s,lv,m,hfu,h,hm,hex=>by
  unfold zk7
  cases hq:s.q[i]? with
  | none =>
   refine Or.inr ⟨rfl,fun j n hn hp=>?_⟩
   rcases jy5 h hex hp with ⟨h1,_⟩|⟨k,d,h1,h2,_⟩
   ·rw [h.noend n h1] at hn;cases hn
   ·have h3:=(List.getElem?_eq_some_iff.1 h2).1
    have h4:=List.getElem?_eq_none_iff.1 hq
    omega
  | some cur =>
   dsimp only
   have h':Lev free ends a s lv (lv cur):={ h with top:=fun c hc=>Nat.le_trans (h.top c hc) (by have:=hm cur hq;omega) }
   obtain ⟨r1,r2⟩:=yj6 hfa (i:=i) (cur:=cur) (qj0 cur.1 cur.2) s lv h' hq (fun _ hn=>hn)
   cases hr:bIn free ends i cur (qj0 cur.1 cur.2) s with
   | inl f =>
    obtain ⟨g1,g2,n,g3,g4⟩:=r1 f hr
    have hl:=fz0 h ha
    have hil:=(List.getElem?_eq_some_iff.1 hq).1
    have hii:=h.idx i cur hq
    refine Or.inl ⟨g1,g2,lv cur,n,by omega,g3,g4,fun j x hx hp=>?_⟩
    rcases jy5 h hex hp with ⟨h1,_⟩|⟨k,d,h1,h2,h3⟩
    ·rw [h.noend x h1] at hx;cases hx
    ·have:=h.mono i k cur d h1 hq h2
     omega
   | inr s' =>
    dsimp only
    obtain ⟨lv',q1,q2,⟨x,hx⟩,q4⟩:=r2 s' hr
    have hil:=(List.getElem?_eq_some_iff.1 hq).1
    have hcur:cur∈s.q:=List.mem_of_getElem? hq
    have hq':s'.q[i]?=some cur:=by rw [hx,List.getElem?_append_left hil];exact hq
    refine kj0 hfa ha fuel (i+1) s' lv' (lv cur) (by omega) q1 (fun c hc=>?_) ?_
    ·have:=q1.mono i (i+1) cur c (by omega) hq' hc
     rw [q2 cur hcur] at this
     exact this
    ·intro j c hj hc n hn hf
     rw [hx,List.getElem?_append_left (by omega)] at hc
     by_cases e:j=i
     ·subst e
      rw [hq] at hc
      cases hc
      rw [q2 cur hcur]
      exact q4 n hn hf
     ·obtain ⟨p1,p2⟩:=hex j c (by omega) hc n hn hf
      rw [q2 c (List.mem_of_getElem? hc),q2 n p1]
      exact ⟨by rw [hx];exact List.mem_append_left _ p1,p2⟩
theorem fx2 {free ends:Cl->Bool}{a:Cl}(hfa:free a=false)(ha:onB a.1 a.2=true)(hea:ends a=false):qzx5 free ends a (bfs free ends a):=by
 unfold bfs
 refine kj0 hfa ha 146 0 _ (fun _=>0) 0 rfl ⟨BInv.start a,rfl,?_,?_,?_,?_,?_,?_⟩ (fun _ _=>Nat.le_refl _) (fun j _ hj=>by omega)
 ·intro c hc;simp at hc;subst hc;exact .nil
 ·intro c f h;cases h
 ·intro c hc;simp at hc;subst hc;exact hea
 ·intro j k c d _ _ _;exact Nat.le_refl _
 ·intro c _;omega
 ·intro j c _;omega
end Go.Proofs.YtapabahhfanmmaaGreatDoor
