import Derived.Test.YtapabahhfanmmaaGreatDoorCOrds
import Derived.Test.YtapabahhfanmmaaGreatDoorCRefD
import Derived.Test.YtapabahhfanmmaaGreatDoorCStoreP
namespace Go.Proofs.YtapabahhfanmmaaGreatDoor
open Go.RowKit
set_option maxRecDepth 100000
set_option maxHeartbeats 2000000
def zk5 (t:T)(id:Int):T :=
 match qz0 t.us id with
 | none=>t
 | some i=>match t.us[i]? with|none=>t|some u=>qw3 t u
theorem kz2 (t:T)(v:U):zw6 t v=zk5 t v.id:=rfl
theorem dq7 {t:T}(h:TOk t)(hno:qx3 t.us=false)(id:Int):Good t (·=id) (zk5 t id):=yj3 h hno ⟨id,0,0,0,0,0,0,0,0,0,0⟩
theorem dq8 {t:T}(h:TOk t)(ho:OS t)(hno:qx3 t.us=false)(id:Int):OS (zk5 t id):=kz3 h ho hno ⟨id,0,0,0,0,0,0,0,0,0,0⟩
def qv4 (id:Int):List U->Int->Int
 | [],b=>b
 | u :: us,b=>qv4 id us (if id < u.id/\u.id < b then u.id else b)
theorem yq8 (id:Int):∀ (us:List U) (b:Int),qv4 id us b<=b/\(∀ u∈us,id < u.id->qv4 id us b<=u.id)/\(qv4 id us b=b\/∃ u∈us,u.id=qv4 id us b/\id < u.id)
 | [],b=>⟨Int.le_refl _,by simp,Or.inl rfl⟩
 | u :: us,b=>by
  obtain ⟨h1,h2,h3⟩:=yq8 id us (if id < u.id/\u.id < b then u.id else b)
  unfold qv4
  by_cases hc:id < u.id/\u.id < b
  ·rw [if_pos hc] at h1 h2 h3 |-
   refine ⟨by omega,fun v hv hi=>?_,?_⟩
   ·rcases List.mem_cons.1 hv with rfl|hv
    ·exact h1
    ·exact h2 v hv hi
   ·rcases h3 with h3|⟨v,hv,h4⟩
    ·exact Or.inr ⟨u,by simp,h3.symm,hc.1⟩
    ·exact Or.inr ⟨v,by simp [hv],h4⟩
  ·rw [if_neg hc] at h1 h2 h3 |-
   refine ⟨h1,fun v hv hi=>?_,?_⟩
   ·rcases List.mem_cons.1 hv with rfl|hv
    ·omega
    ·exact h2 v hv hi
   ·rcases h3 with h3|⟨v,hv,h4⟩
    ·exact Or.inl h3
    ·exact Or.inr ⟨v,by simp [hv],h4⟩
theorem yw8 (t:T)(hno:qx3 t.us=false)(m:Int):∀ (l:List U),(∀ v∈l,v.id < m->qz0 t.us v.id=none)->(l.map U.id).Pairwise (· < ·)->zq5 l t=zq5 (l.filter fun v=>decide (m<=v.id)) t
 | [],_,_=>rfl
 | v :: l,h,hp=>by
  rw [List.map_cons,List.pairwise_cons] at hp
  by_cases hm:m<=v.id
  ·have e:(v :: l).filter (fun v=>decide (m<=v.id))=v :: l:=by
    rw [List.filter_eq_self]
    intro x hx
    rcases List.mem_cons.1 hx with rfl|hx
    ·simpa using hm
    ·have:=hp.1 x.id (List.mem_map_of_mem hx)
     simp
     omega
   rw [e]
  ·have hn:=h v (by simp) (by omega)
   rw [List.filter_cons_of_neg (by simpa using hm),jz1,vz5 hn,if_neg (by rw [hno];simp)]
   exact yw8 t hno m l (fun x hx hxm=>h x (by simp [hx]) hxm) hp.2
structure RH (tf:T) (n0 id:Int) (t:T):Prop where
 ok:TOk t
 os:OS t
 nx:n0<=t.next
 fin:(qx3 t.us=true/\tf=t)\/(qx3 t.us=false/\∃ l:List U,(l.map U.id).Pairwise (· < ·)/\(∀ v∈l,id<=v.id/\v.id < n0)/\(∀ u∈t.us,id<=u.id->u.id < n0->u.id∈l.map U.id)/\tf=zq5 l t)
theorem RH.first {t:T}(h:TOk t)(ho:OS t)(hno:qx3 t.us=false):RH (zq5 t.us t) t.next 1 t :=
  ⟨h,ho,Int.le_refl _,Or.inr ⟨hno,t.us,yk6.1 h.rise,fun v hv=>(h.all v hv).id,fun _ hu _ _=>List.mem_map_of_mem hu,rfl⟩⟩
theorem RH.over {t:T}(h:TOk t)(ho:OS t)(hov:qx3 t.us=true):RH t t.next 1 t:=⟨h,ho,Int.le_refl _,Or.inl ⟨hov,rfl⟩⟩
theorem RH.last {tf t:T}{n0 id:Int}(h:RH tf n0 id t)(hid:n0<=id):tf=t:=by
 rcases h.fin with ⟨_,h1⟩|⟨_,l,_,h2,_,h4⟩
 ·exact h1
 ·have:l=[]:=by
   cases l with
   | nil=>rfl
   | cons v l=>have:=h2 v (by simp);omega
  subst this
  exact h4
def zx5 (t:T)(id:Int):T:=if qx3 t.us=true then t else zk5 t id
theorem RH.next {tf t:T}{n0 id:Int}(h:RH tf n0 id t)(hid:id < n0):RH tf n0 (qv4 id (zx5 t id).us (zx5 t id).next) (zx5 t id)/\id < qv4 id (zx5 t id).us (zx5 t id).next:=by
 have hgt:∀ t':T,n0<=t'.next->id < qv4 id t'.us t'.next:=fun t' hn=>by
  obtain ⟨_,_,h3⟩:=yq8 id t'.us t'.next
  rcases h3 with h3|⟨u,_,h4,h5⟩ <;> omega
 unfold zx5
 rcases h.fin with ⟨ho,h1⟩|⟨ho,l,l1,l2,l3,l4⟩
 ·rw [if_pos ho]
  exact ⟨⟨h.ok,h.os,h.nx,Or.inl ⟨ho,h1⟩⟩,hgt t h.nx⟩
 ·rw [if_neg (by rw [ho];simp)]
  have hG:=dq7 h.ok ho id
  have hOS:=dq8 h.ok h.os ho id
  have hnx:n0<=(zk5 t id).next:=Int.le_trans h.nx hG.nx
  refine ⟨⟨hG.ok,hOS,hnx,?_⟩,hgt _ hnx⟩
  by_cases ho2:qx3 (zk5 t id).us=true
  ·
   refine Or.inl ⟨ho2,?_⟩
   have hin:id∈l.map U.id:=by
    apply Classical.byContradiction
    intro hni
    have hp:qz0 t.us id=none:=zy0 (fun u hu e=>hni (by rw [<- e];exact l3 u hu (by omega) (by omega)))
    have e:zk5 t id=t:=by unfold zk5;rw [hp]
    rw [e,ho] at ho2
    cases ho2
   cases l with
   | nil=>simp at hin
   | cons v l =>
    have hv:v.id=id:=by
     rw [List.map_cons,List.pairwise_cons] at l1
     rcases List.mem_cons.1 hin with e|e
     ·exact e.symm
     ·have:=l1.1 id e
      have:=(l2 v (by simp)).1
      omega
    rw [l4,jz1,kz2,hv,if_pos ho2]
  ·have ho3:qx3 (zk5 t id).us=false:=by simpa using ho2
   refine Or.inr ⟨ho3,?_⟩
   obtain ⟨a1,a2,a3⟩:=yq8 id (zk5 t id).us (zk5 t id).next
   obtain ⟨l',m1,m2,m3,m4⟩:∃ l':List U,(l'.map U.id).Pairwise (· < ·)/\(∀ v∈l',id < v.id/\v.id < n0)/\(∀ u∈t.us,id < u.id->u.id < n0->u.id∈l'.map U.id)/\tf=zq5 l' (zk5 t id):=by
    by_cases hin:id∈l.map U.id
    ·cases l with
     | nil=>simp at hin
     | cons v l =>
      rw [List.map_cons,List.pairwise_cons] at l1
      have hv:v.id=id:=by
       rcases List.mem_cons.1 hin with e|e
       ·exact e.symm
       ·have:=l1.1 id e
        have:=(l2 v (by simp)).1
        omega
      refine ⟨l,l1.2,fun x hx=>⟨by have:=l1.1 x.id (List.mem_map_of_mem hx);omega,(l2 x (by simp [hx])).2⟩,fun u hu h1 h2=>?_,?_⟩
      ·have:=l3 u hu (by omega) h2
       rw [List.map_cons] at this
       rcases List.mem_cons.1 this with e|e
       ·omega
       ·exact e
      ·rw [l4,jz1,kz2,hv,if_neg ho2]
    ·have hp:qz0 t.us id=none:=zy0 (fun u hu e=>hin (by rw [<- e];exact l3 u hu (by omega) (by omega)))
     have e:zk5 t id=t:=by unfold zk5;rw [hp]
     refine ⟨l,l1,fun v hv=>⟨?_,(l2 v hv).2⟩,fun u hu h1 h2=>l3 u hu (by omega) h2,by rw [e];exact l4⟩
     have h1:=(l2 v hv).1
     rcases Int.lt_or_eq_of_le h1 with h2|h2
     ·exact h2
     ·exact absurd (by rw [h2];exact List.mem_map_of_mem hv) hin
   have hcov:∀ u∈(zk5 t id).us,id < u.id->u.id < n0->u.id∈l'.map U.id:=fun u hu h1 h2=>by
    rcases hG.rel u hu with h3|⟨v,hv,hn⟩
    ·have:=h.nx;omega
    ·rw [hn.id] at h1 h2 |-
     exact m3 v hv h1 h2
   refine ⟨l'.filter fun v=>decide (qv4 id (zk5 t id).us (zk5 t id).next<=v.id),?_,?_,?_,?_⟩
   ·exact m1.sublist ((List.filter_sublist).map _)
   ·intro v hv
    obtain ⟨hv1,hv2⟩:=List.mem_filter.1 hv
    exact ⟨by simpa using hv2,(m2 v hv1).2⟩
   ·intro u hu h1 h2
    have hiu:id < u.id:=by
     rcases a3 with a3|⟨x,_,a4,a5⟩ <;> omega
    obtain ⟨v,hv,e⟩:=List.mem_map.1 (hcov u hu hiu h2)
    rw [<- e]
    refine List.mem_map_of_mem (List.mem_filter.2 ⟨hv,?_⟩)
    rw [e]
    simpa using h1
   ·rw [m4]
    refine yw8 _ ho3 _ l' (fun v hv hlt=>zy0 (fun u hu e=>?_)) m1
    have h1:=(m2 v hv).1
    have:=a2 u hu (by omega)
    omega
theorem vz4 (id:Int)(u:U):∀ (us:List U) (b:Int),qv4 id (us ++ [u]) b=if id < u.id/\u.id < qv4 id us b then u.id else qv4 id us b
 | [],b=>rfl
 | v :: us,b=>by
  rw [List.cons_append]
  unfold qv4
  exact vz4 id u us _
theorem xv7 {us:List U}{k:Nat}{u:U}(hu:us[k]?=some u):us.take (k+1)=us.take k ++ [u]:=by
 rw [List.take_add_one,hu]
 rfl
theorem xy9 (gb pb cap:Nat)(t:T)(id:Int)(w:World)(h:RG w gb pb cap t) :
  Calls Tryz.prog 136 #[.pointer (some ⟨gb,0,none⟩),.int .i64 id] w fun e w'=>e=.returned (.int .i64 (qv4 id t.us t.next))/\Fr [] w w':=by
 have hlen:=h.len
 have hg:=h.gv
 have hc:=hg.c
 have hn:=h.c147
 go_enter Tryz.func136,Tryz.ntmps136
 go_wp2_with fail
 go_loopw [5,6] (fun b i wr=>∃ k:Nat,k<=t.us.length/\i=.int .i64 k/\b=.int .i64 (qv4 id (t.us.take k) t.next)/\Fr [] w wr) (fun _ i _=>t.us.length - (intOf i).toNat)
 case atStart=>exact ⟨0,Nat.zero_le _,rfl,rfl,Fr.refl _ _⟩
 case round =>
  obtain ⟨k,hk,rfl,rfl,hf⟩:=hrel
  have hg2:=hg.fr0 hf
  have hc2:=hg2.c
  by_cases hlt:k < t.us.length
  ·have hlti:(k:Int) < (t.us.length:Int):=by omega
   obtain ⟨u,hu⟩:∃ u,t.us[k]?=some u:=⟨t.us[k],List.getElem?_eq_getElem hlt⟩
   obtain ⟨c0,c1,c2,c3,c4,c5,c6,c7,c8,c9,c10⟩:=hg2.p.at hu
   have HS:Hid (qv4 id (t.us.take (k+1)) t.next=if id < u.id/\u.id < qv4 id (t.us.take k) t.next then u.id else qv4 id (t.us.take k) t.next):=by
    show _=_
    rw [xv7 hu,vz4]
   obtain ⟨b,hb⟩:∃ b,qv4 id (t.us.take k) t.next=b:=⟨_,rfl⟩
   rw [hb] at HS |-
   clear hu hb c1 c2 c3 c4 c5 c6 c7 c8 c9 c10
   by_cases h1:id < u.id
   ·by_cases h2:u.id < b
    ·go_wp2_with fail
     go_roundw
     case rel=>exact ⟨k+1,hlt,by go_num,by rw [HS.out,if_pos ⟨h1,h2⟩],hf⟩
     case measure=>simp [intOf];omega
    ·go_wp2_with fail
     go_roundw
     case rel=>exact ⟨k+1,hlt,by go_num,by rw [HS.out,if_neg (fun x=>h2 x.2)],hf⟩
     case measure=>simp [intOf];omega
   ·go_wp2_with fail
    go_roundw
    case rel=>exact ⟨k+1,hlt,by go_num,by rw [HS.out,if_neg (fun x=>h1 x.1)],hf⟩
    case measure=>simp [intOf];omega
  ·have hlti:¬ (k:Int) < (t.us.length:Int):=by omega
   have hke:k=t.us.length:=by omega
   have HK:Hid (qv4 id (t.us.take k) t.next=qv4 id t.us t.next):=by
    show _=_
    rw [hke,List.take_length]
   obtain ⟨b,hb⟩:∃ b,qv4 id (t.us.take k) t.next=b:=⟨_,rfl⟩
   rw [hb] at HK |-
   clear hb hke
   go_wp2_with fail
   go_ret
   exact ⟨by rw [<- HK.out];rfl,hf⟩
theorem zk1 (k:Int)(w:World):Calls Tryz.prog 93 #[.int .i64 k] w fun e w'=>e=.returned (.int .i64 (qx9 k))/\w=w':=by
 by_cases h1:k=1
 ·subst h1
  go_enter Tryz.func93,Tryz.ntmps93
  go_wp2_with fail
  go_ret
  exact ⟨rfl,rfl⟩
 ·by_cases h2:k=2
  ·subst h2
   go_enter Tryz.func93,Tryz.ntmps93
   go_wp2_with fail
   go_ret
   exact ⟨rfl,rfl⟩
  ·have e1:(k==1)=false:=by simpa using h1
   have e2:(k==2)=false:=by simpa using h2
   go_enter Tryz.func93,Tryz.ntmps93
   go_wp2_with fail
   go_ret
   exact ⟨fj3 (by unfold qx9;rw [if_neg h1,if_neg h2]),rfl⟩
theorem yy6 (k:Int)(hk:k=2\/k=3)(w:World):Calls Tryz.prog 215 #[.int .i64 k] w fun e w'=>e=.returned (.int .i64 (zq6 k))/\w=w':=by
 rcases hk with rfl|rfl <;> (go_enter Tryz.func215,Tryz.ntmps215;go_wp2_with fail;go_ret;exact ⟨rfl,rfl⟩)
theorem kx4:∀ (us:List U) (i j:Nat) (u u':U) (v:Value),us[i]?=some u->j < 11->u'.cells=u.cells.set j v->(us.flatMap U.cells).set (i*11+j) v=(us.set i u').flatMap U.cells
 | [],i,_,_,_,_,h,_,_=>by simp at h
 | a :: l,0,j,u,u',v,h,hj,hc=>by
  have:a=u:=by simpa using h
  subst this
  rw [List.set_cons_zero,List.flatMap_cons,List.flatMap_cons,hc,Nat.zero_mul,Nat.zero_add,List.set_append_left _ _ (by simpa using hj)]
 | a :: l,i+1,j,u,u',v,h,hj,hc=>by
  have ih:=kx4 l i j u u' v (by simpa using h) hj hc
  rw [List.set_cons_succ,List.flatMap_cons,List.flatMap_cons,<- ih,List.set_append_right _ _ (by simp;omega)]
  congr 2
  simp
  omega
theorem PRow.setC {w:World}{pb cap:Nat}{us:List U}(h:PRow w pb cap us){i j:Nat}{u u':U}{v:Value}(hi:us[i]?=some u)(hj:j < 11)(hc:u'.cells=u.cells.set j v):PRow (w.setCell ⟨pb,i*11+j,none⟩ v) pb cap (us.set i u'):=by
 obtain ⟨cur,h1,h2,h3⟩:=h.h
 refine ⟨⟨cur.setIfInBounds (i*11+j) v,kq5 h1 v,by simpa using h2,?_⟩,by rw [List.length_set];exact h.le,h.cap⟩
 rw [List.length_set,Array.toList_setIfInBounds,List.take_set,h3,kx4 us i j u u' v hi hj hc]
theorem RG.setC {w:World}{gb pb cap:Nat}{t:T}(h:RG w gb pb cap t){i j:Nat}{u u':U}{v:Value}(hi:t.us[i]?=some u)(hj:j < 11)(hc:u'.cells=u.cells.set j v):RG (w.setCell ⟨pb,i*11+j,none⟩ v) gb pb cap { t with us:=t.us.set i u' }:=by
 refine ⟨fun k hk=>?_,fun k=>by rw [World.frozen?_setCell];exact h.fz k,h.row.setC hi hj hc,by simpa using h.len,h.ne⟩
 rw [qz1 _ _ _ _ _ _ (Or.inl (fun e=>h.ne e.symm)),h.cell k hk]
 show _=some (qw2 { t with us:=t.us.set i u' } (.slice (some ⟨pb,0,none⟩) (t.us.set i u').length cap) k)
 rw [List.length_set]
 rfl
theorem RG.frz {w:World}{gb pb cap:Nat}{t:T}(h:RG w gb pb cap t)(k:Nat):w.frozen? ⟨pb,k,none⟩=false:=by
 obtain ⟨cur,h1,_⟩:=h.row.h
 exact qq0 h1
theorem RG.pl {w:World}{gb pb cap:Nat}{t:T}(h:RG w gb pb cap t):pb < w.heap.size:=by
 obtain ⟨cur,h1,_⟩:=h.row.h
 exact qq2 h1
theorem qz2 {us:List U}{i:Nat}{u u':U}(hi:us[i]?=some u):(us.set i u')[i]?=some u':=by
  rw [List.getElem?_set_self (List.getElem?_eq_some_iff.1 hi).1]
theorem RG.idle {w:World}{gb pb cap:Nat}{t:T}(h:RG w gb pb cap t){i:Nat}{u:U}(hi:t.us[i]?=some u):RG ((((w.setCell ⟨pb,i*11+7,none⟩ (ii 0)).setCell ⟨pb,i*11+8,none⟩ (ii 0)).setCell ⟨pb,i*11+9,none⟩ (ii 0)).setCell ⟨pb,i*11+10,none⟩ (ii 0)) gb pb cap { t with us:=t.us.set i u.idle }:=by
 have h1:=h.setC (u':={ u with what:=0 }) (v:=ii 0) hi (j:=7) (by omega) rfl
 have h2:=h1.setC (u':={ u with what:=0,tox:=0 }) (v:=ii 0) (i:=i) (qz2 hi) (j:=8) (by omega) rfl
 have h3:=h2.setC (u':={ u with what:=0,tox:=0,toy:=0 }) (v:=ii 0) (i:=i) (qz2 (qz2 hi)) (j:=9) (by omega) rfl
 have h4:=h3.setC (u':=u.idle) (v:=ii 0) (i:=i) (qz2 (qz2 (qz2 hi))) (j:=10) (by omega) rfl
 simp only [List.set_set] at h4
 exact h4
theorem zw1 (gb pb cap:Nat)(t:T)(i:Nat)(u:U)(w:World)(h:RG w gb pb cap t)(hi:t.us[i]?=some u) :
  Calls Tryz.prog 179 #[.pointer (some ⟨gb,0,none⟩),.int .i64 i] w fun e w'=>e=.returned (.tuple #[])/\RG w' gb pb cap { t with us:=t.us.set i u.idle }/\Fr [pb] w w':=by
 have hlen:=h.len
 have hil:=(List.getElem?_eq_some_iff.1 hi).1
 have hili:(i:Int) < (t.us.length:Int):=by omega
 have hc:=h.c148
 have hne:=h.ne
 have f7:=h.frz (i*11+7)
 have f8:=h.frz (i*11+8)
 have f9:=h.frz (i*11+9)
 have f10:=h.frz (i*11+10)
 obtain ⟨_,_,_,_,_,_,_,c7,c8,c9,c10⟩:=h.gv.p.at hi
 have hne2:¬ pb=gb:=fun e=>hne e.symm
 obtain ⟨P,hP⟩:∃ P:World->Prop,P=fun w'=>RG w' gb pb cap { t with us:=t.us.set i u.idle }:=⟨_,rfl⟩
 have HG:Hid (P ((((w.setCell ⟨pb,i*11+7,none⟩ (ii 0)).setCell ⟨pb,i*11+8,none⟩ (ii 0)).setCell ⟨pb,i*11+9,none⟩ (ii 0)).setCell ⟨pb,i*11+10,none⟩ (ii 0))):=by rw [hP];exact h.idle hi
 have e:∀ w',P w'↔RG w' gb pb cap { t with us:=t.us.set i u.idle }:=fun w'=>by rw [hP]
 refine Calls.mono (R:=fun e w'=>e=.returned (.tuple #[])/\P w'/\Fr [pb] w w') ?_ (fun e' w' ⟨a,b,c⟩=>⟨a,(e w').1 b,c⟩)
 clear hi h e hP
 go_enter Tryz.func179,Tryz.ntmps179
 go_wp2_with fail
 exact bodyPost_end (v:=.tuple #[]) (results_none rfl _ _ _) rfl ⟨rfl,HG.out,((((Fr.refl _ _).setCell _ _ (Or.inl (by simp))).setCell _ _ (Or.inl (by simp))).setCell _ _ (Or.inl (by simp))).setCell _ _ (Or.inl (by simp))⟩
theorem yz6 (d:Cl->Nat)(n:Cl):∀ (l:List Cl) (s:Nat×Cl),zq9 d (l ++ [n]) s=if 0 < d n/\((zq9 d l s).1=0\/d n < (zq9 d l s).1) then (d n,n) else zq9 d l s
 | [],(b,r)=>rfl
 | a :: l,(b,r)=>by
  rw [List.cons_append]
  unfold zq9
  split
  ·exact yz6 d n l _
  ·exact yz6 d n l _
theorem RG.to {w:World}{gb pb cap:Nat}{t:T}{i:Nat}{u:U}{c:Cl}(h:RG w gb pb cap { t with us:=t.us.set i (u.to c) })(hi:t.us[i]?=some u)(z v:Int):RG ((w.setCell ⟨pb,i*11+3,none⟩ (ii z)).setCell ⟨pb,i*11+4,none⟩ (ii v)) gb pb cap { t with us:=t.us.set i (u.to (z,v)) }:=by
 have h1:=h.setC (u':={ u.to c with x:=z }) (v:=ii z) (i:=i) (qz2 hi) (j:=3) (by omega) rfl
 have h2:=h1.setC (u':=u.to (z,v)) (v:=ii v) (i:=i) (qz2 (qz2 hi)) (j:=4) (by omega) rfl
 simp only [List.set_set] at h2
 exact h2
theorem zw2 (gb pb cap:Nat)(t:T)(i:Nat)(u:U)(x y:Int)(onto:Bool)(w:World)(h:RG w gb pb cap t)(hi:t.us[i]?=some u)(hon:onB u.x u.y=true)(h1:-1000<=x)(h2:x<=1000)(h3:-1000<=y)(h4:y<=1000) :
  Calls Tryz.prog 180 #[.pointer (some ⟨gb,0,none⟩),.int .i64 i,.int .i64 x,.int .i64 y,.bool onto] w fun e w'=>e=.returned (.tuple #[])/\∃ F:Cl->Nat,FarX (qk5 t.us t.bd) (zj0 x y onto) F/\RG w' gb pb cap { t with us:=t.us.set i (u.to (zq9 F (qj0 u.x u.y) (0,(u.x,u.y))).2) }/\Fr [pb] w w':=by
 have hlen:=h.len
 have hil:=(List.getElem?_eq_some_iff.1 hi).1
 have hili:(i:Int) < (t.us.length:Int):=by omega
 obtain ⟨p0,p1,p2,p3⟩:=qz3.1 hon
 go_enter Tryz.func180,Tryz.ntmps180
 go_wp2_with fail
 refine Calls.mono (gw1 gb pb cap t x y onto _ h h1 h2 h3 h4) ?_
 rintro e w1 ⟨F,hX,hle,rfl,hf1⟩
 dsimp only
 have HX:=hid hX
 have HT1:=(show Hid _ from vw6 F)
 have HT:=(show Hid _ from yk8 F)
 obtain ⟨tl,htl⟩:∃ tl,tl=xq3 F:=⟨_,rfl⟩
 rw [<- htl] at HT HT1 |-
 have HTL:=hid htl
 have HI2:Hid ((Tryz.prog.info? 87).map (·.size)=some tl.toArray.size):=by show _=_;rw [List.size_toArray,HT.out];exact xw8
 have HZ:Hid (Tryz.zeroCells87.size=tl.toArray.size):=by
  have e:tl.toArray.size=144:=by rw [List.size_toArray,HT.out]
  show _=_
  rw [e]
  rfl
 obtain ⟨W2,hW2⟩:∃ W,W=(w1.alloc (.cells Tryz.zeroCells87 87)).setRow w1.heap.size tl.toArray:=⟨_,rfl⟩
 have hf2:Fr [] w W2:=by rw [hW2];exact (hf1.alloc _).setRow _ _ (Or.inr hf1.size)
 have hd2:W2.heap[w1.heap.size]?=some (.cells tl.toArray 87):=by rw [hW2];exact setRow_heap _ _ _ _ _ _ (qq6 w1 _)
 have hs2:W2.heap.size=w1.heap.size+1:=by rw [hW2];simp [World.setRow]
 have hg2:=h.fr0 hf2
 have hc2:=hg2.c148
 obtain ⟨c0,c1,c2,c3,c4,c5,c6,c7,c8,c9,c10⟩:=hg2.gv.p.at hi
 have HW2:=hid hW2
 have HS2:=hid hs2
 clear hX htl hW2 hs2
 go_wp2_with (refine wpList_store_row rfl 87 _ _ rfl w1.heap.size tl.toArray rfl rfl 87 Tryz.zeroCells87 (qq6 w1 _) HI2.out HZ.out HT1.out ?_;rw [<- HW2.out])
 obtain ⟨W3,hW3⟩:∃ W,W=W2.alloc (.cells u.arr 85):=⟨_,rfl⟩
 rw [<- hW3]
 obtain ⟨db,hdb⟩:∃ d,d=w1.heap.size:=⟨_,rfl⟩
 obtain ⟨ub,hub⟩:∃ d,d=W2.heap.size:=⟨_,rfl⟩
 rw [<- hdb] at hd2 |-
 rw [<- hub]
 have hs2:=HS2.out
 have hgl:=h.lt
 have hpl:=h.pl
 have hs1:=hf1.size
 have n1:db≠pb:=by omega
 have n2:ub≠pb:=by omega
 have hf3:Fr [] w W3:=by rw [hW3];exact hf2.alloc _
 have hu3:W3.heap[ub]?=some (.cells u.arr 85):=by rw [hW3,hub];exact qq6 _ _
 have hd3:W3.heap[db]?=some (.cells tl.toArray 87):=by rw [hW3,qz7 _ _ _ (by omega)];exact hd2
 have HD:Hid (∀ W,Fr [pb] W3 W->DAt W db F):=fun W hf=>by
  have h5:=hf.heap hd3 (by simpa using n1)
  refine ⟨fun j hj=>?_,fun j=>qq0 h5⟩
  rw [j9 h5,HTL.out]
  simp [xq3,hj]
 have HU:Hid (∀ W,Fr [pb] W3 W->W.heap[ub]?=some (.cells u.arr 85)):=fun W hf=>hf.heap hu3 (by simpa using n2)
 have HG3:Hid (RG W3 gb pb cap { t with us:=t.us.set i (u.to (zq9 F (qj2 u.x u.y 0) (0,(u.x,u.y))).2) }):=by
  have h5:=h.fr0 hf3
  have e:t.us.set i (u.to (u.x,u.y))=t.us:=vv6 t.us i u hi
  show RG W3 gb pb cap { t with us:=t.us.set i (u.to (u.x,u.y)) }
  rw [e]
  exact h5
 have HI:=hid hi
 have HLE:=hid hle
 clear hW3 hu3 hd3 hd2 HW2 c0 c1 c2 c3 c4 c5 c6 c7 c8 c9 c10 hc2 hg2 hs2 HS2 h hi hdb hub hle
 go_loopw [12,13] (fun b k wr=>∃ n:Nat,n<=4/\k=.int .i64 n/\b=.int .i64 ((zq9 F (qj2 u.x u.y n) (0,(u.x,u.y))).1:Nat)/\Fr [pb] W3 wr/\RG wr gb pb cap { t with us:=t.us.set i (u.to (zq9 F (qj2 u.x u.y n) (0,(u.x,u.y))).2) }) (fun _ k _=>4 - (intOf k).toNat)
 case atStart=>exact ⟨0,by omega,rfl,rfl,Fr.refl _ _,HG3.out⟩
 case round =>
  obtain ⟨n,hn,rfl,rfl,hfk,hgk⟩:=hrel
  have HGK:=hid hgk
  have hck:=hgk.c148
  have e5:(t.us.set i (u.to (zq9 F (qj2 u.x u.y n) (0,(u.x,u.y))).2)).length=t.us.length:=List.length_set
  dsimp only at hck
  rw [e5] at hck
  have fz3:=hgk.frz (i*11+3)
  have fz4:=hgk.frz (i*11+4)
  obtain ⟨_,_,_,c3,c4,_,_,_,_,_,_⟩:=hgk.gv.p.at (qz2 HI.out)
  have hne:=hgk.ne
  clear hgk HG3
  by_cases hn4:n < 4
  ·have hn4i:(n:Int) < 4:=by omega
   obtain ⟨s,hs⟩:∃ s,sds[n]?=some s:=⟨_,List.getElem?_eq_getElem (show n < sds.length from hn4)⟩
   have hsb:-1<=s.1/\s.1<=1 /\ -1<=s.2/\s.2<=1:=by
    have h5:n=0\/n=1\/n=2\/n=3:=by omega
    rcases h5 with rfl|rfl|rfl|rfl <;> (simp [sds] at hs;subst hs;decide)
   have HSD:=(show Hid _ from fun W:World=>jz6 u.x u.y n s W hs (by omega) (by omega) (by omega) (by omega))
   have HYES:Hid (onB (u.x+s.1) (u.y+s.2)=true->qj2 u.x u.y (n+1)=qj2 u.x u.y n ++ [(u.x+s.1,u.y+s.2)]):=fun ho=>zk0 u.x u.y n s hs ho
   have HNO:Hid (onB (u.x+s.1) (u.y+s.2)=false->qj2 u.x u.y (n+1)=qj2 u.x u.y n):=fun ho=>zw0 u.x u.y n s hs ho
   obtain ⟨z,hz⟩:∃ z,u.x+s.1=z:=⟨_,rfl⟩
   obtain ⟨v,hv⟩:∃ z,u.y+s.2=z:=⟨_,rfl⟩
   rw [hz,hv] at HSD HYES HNO
   have hzb:-1<=z/\z<=12 /\ -1<=v/\v<=12:=by omega
   have hub:=HU.out _ hfk
   have ux:wr.cell? ⟨ub,3,none⟩=some (ii u.x):=j9 hub
   have uy:wr.cell? ⟨ub,4,none⟩=some (ii u.y):=j9 hub
   obtain ⟨l,hl⟩:∃ l,zq9 F (qj2 u.x u.y n) (0,(u.x,u.y))=l:=⟨_,rfl⟩
   have HPS:Hid (∀ q:Cl,zq9 F (qj2 u.x u.y n ++ [q]) (0,(u.x,u.y))=if 0 < F q/\(l.1=0\/F q < l.1) then (F q,q) else l):=fun q=>by rw [yz6,hl]
   have HL:=hid hl
   rw [hl] at HGK c3 c4 |-
   have hne2:¬ pb=gb:=fun e=>hne e.symm
   clear hz hv hs hsb hub hl e5
   go_wp2_with fail
   refine Calls.mono (HSD.out _) ?_
   rintro e w4 ⟨rfl,rfl⟩
   dsimp only
   go_wp2_with fail
   refine Calls.mono (qx1 z v _) ?_
   rintro e w5 ⟨rfl,rfl⟩
   dsimp only
   obtain ⟨l1,hl1⟩:∃ x,l.1=x:=⟨_,rfl⟩
   rw [hl1] at HPS |-
   cases hzo:onB z v
   ·have HE:=(show Hid _ from HNO.out hzo)
    go_wp2_with fail
    go_roundw
    case rel=>exact ⟨n+1,hn4,by go_num,by rw [HE.out,HL.out,hl1],hfk,by rw [HE.out,HL.out];exact HGK.out⟩
    case measure=>simp [intOf];omega
   ·obtain ⟨q0,q1,q2,q3⟩:=qz3.1 hzo
    have hcz:=(HD.out _ hfk).at (c:=(z,v)) hzo
    have hcie:ci z v=v.toNat*12+z.toNat:=by unfold ci;omega
    dsimp only at hcz
    rw [hcie] at hcz
    have HE:=(show Hid _ from HYES.out hzo)
    have HPQ:=(show Hid _ from HPS.out (z,v))
    have hgb:=HLE.out (z,v)
    obtain ⟨g,hg⟩:∃ g,F (z,v)=g:=⟨_,rfl⟩
    rw [hg] at hcz HPQ hgb
    clear hzo hcie hg
    have HKEEP:Hid (¬ (0 < g/\(l1=0\/g < l1))->zq9 F (qj2 u.x u.y (n+1)) (0,(u.x,u.y))=l):=fun hc=>by rw [HE.out,HPQ.out,if_neg hc]
    have HSET:Hid ((0 < g/\(l1=0\/g < l1))->zq9 F (qj2 u.x u.y (n+1)) (0,(u.x,u.y))=(g,(z,v))):=fun hc=>by rw [HE.out,HPQ.out,if_pos hc]
    clear HE HPQ
    by_cases hg0:0 < g
    ·have hg0i:0 < (g:Int):=by omega
     by_cases hl0:l1=0
     ·have HS:=(show Hid _ from HSET.out ⟨hg0,Or.inl hl0⟩)
      have hl0b:((l1:Int)==0)=true:=by simp;omega
      go_wp2_with fail
      go_roundw
      case rel=>exact ⟨n+1,hn4,by go_num,by rw [HS.out],(hfk.setCell _ _ (Or.inl (by simp))).setCell _ _ (Or.inl (by simp)),by rw [HS.out];exact RG.to HGK.out HI.out z v⟩
      case measure=>simp [intOf];omega
     ·have hl0b:((l1:Int)==0)=false:=by simp;omega
      by_cases hlt:g < l1
      ·have HS:=(show Hid _ from HSET.out ⟨hg0,Or.inr hlt⟩)
       have hlti:(g:Int) < (l1:Int):=by omega
       go_wp2_with fail
       go_roundw
       case rel=>exact ⟨n+1,hn4,by go_num,by rw [HS.out],(hfk.setCell _ _ (Or.inl (by simp))).setCell _ _ (Or.inl (by simp)),by rw [HS.out];exact RG.to HGK.out HI.out z v⟩
       case measure=>simp [intOf];omega
      ·have HS:=(show Hid _ from HKEEP.out (fun hc=>by omega))
       have hlti:¬ (g:Int) < (l1:Int):=by omega
       go_wp2_with fail
       go_roundw
       case rel=>exact ⟨n+1,hn4,by go_num,by rw [HS.out,hl1],hfk,by rw [HS.out];exact HGK.out⟩
       case measure=>simp [intOf];omega
    ·have HS:=(show Hid _ from HKEEP.out (fun hc=>hg0 hc.1))
     have hg0i:¬ 0 < (g:Int):=by omega
     go_wp2_with fail
     go_roundw
     case rel=>exact ⟨n+1,hn4,by go_num,by rw [HS.out,hl1],hfk,by rw [HS.out];exact HGK.out⟩
     case measure=>simp [intOf];omega
  ·have hn4i:¬ (n:Int) < 4:=by omega
   have HN4:Hid (n=4):=by show _=_;omega
   go_wp2_with fail
   refine bodyPost_end (v:=.tuple #[]) (results_none rfl _ _ _) rfl ⟨rfl,F,HX.out,?_,hf3.of0.trans hfk (by simp)⟩
   have:=HGK.out
   rw [HN4.out,vq8] at this
   exact this
end Go.Proofs.YtapabahhfanmmaaGreatDoor
