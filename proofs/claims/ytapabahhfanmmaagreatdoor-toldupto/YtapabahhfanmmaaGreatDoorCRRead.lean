import Derived.Test.YtapabahhfanmmaaGreatDoorCMayN
import Derived.Test.YtapabahhfanmmaaGreatDoorCRStand
import Derived.Test.YtapabahhfanmmaaGreatDoorCRefK
import Derived.Test.YtapabahhfanmmaaGreatDoorCRScanU
import Derived.Test.YtapabahhfanmmaaGreatDoorCRefM
namespace Go.Proofs.YtapabahhfanmmaaGreatDoor
open Go.RowKit
set_option maxRecDepth 100000
set_option maxHeartbeats 8000000
def T.upto (t:T)(k:Nat):T:={ t with us:=t.us.take k }
def zq2 (t:T)(u:U):Bool :=
 if u.what=2 then u.kind==2&&(onB u.tox u.toy&&t.bd (ci u.tox u.toy) != 10)
 else if u.what=3/\qz0 t.us u.target=none then u.kind==3&&(decide (1<=u.target)&&decide (u.target < t.next))
 else qj3 t u u.cm
theorem gw9 {us:List U}{k:Nat}{v:U}(h:v∈us.take k):∃ j,j < k/\us[j]?=some v:=by
 obtain ⟨j,hj⟩:=List.getElem?_of_mem h
 have hl:j < (us.take k).length:=(List.getElem?_eq_some_iff.1 hj).1
 rw [List.length_take] at hl
 rw [List.getElem?_take_of_lt (by omega)] at hj
 exact ⟨j,by omega,hj⟩
theorem ky5 {u:U}:zw5 u u.cm=u↔(u.tox=(if u.what=1\/u.what=2\/u.what=4 then u.tox else 0)/\u.toy=(if u.what=1\/u.what=2 then u.toy else 0)/\u.target=(if u.what=3 then u.target else 0)):=by
 obtain ⟨a0,a1,a2,a3,a4,a5,a6,a7,a8,a9,a10⟩:=u
 unfold zw5
 simp only [U.mk.injEq,true_and]
 constructor
 ·rintro ⟨h1,h2,h3⟩;exact ⟨h1.symm,h2.symm,h3.symm⟩
 ·rintro ⟨h1,h2,h3⟩;exact ⟨h1.symm,h2.symm,h3.symm⟩
theorem kw1 {t:T}{u:U}(hri:Rise t.us)(hid:∀ v∈t.us,1<=v.id/\v.id < t.next):(zq2 t u=true/\zw5 u u.cm=u)↔zk2 t u:=by
 rw [ky5]
 unfold zq2 qj3
 rcases jq9 u.what with e|e|e|e|e|e|e
 ·have hn:¬ zk2 t u:=zz2 (by omega)
  have h0:¬ u.what=0:=by omega
  have h1:¬ u.what=1:=by omega
  have h2:¬ u.what=2:=by omega
  have h3:¬ u.what=3:=by omega
  have h4:¬ u.what=4:=by omega
  simp [h0,h1,h2,h3,h4,hn]
 ·have hn:¬ zk2 t u:=zz2 (by omega)
  have h0:¬ u.what=0:=by omega
  have h1:¬ u.what=1:=by omega
  have h2:¬ u.what=2:=by omega
  have h3:¬ u.what=3:=by omega
  have h4:¬ u.what=4:=by omega
  simp [h0,h1,h2,h3,h4,hn]
 ·simp only [e]
  constructor
  ·rintro ⟨_,h1,h2,h3⟩
   exact ⟨Or.inl e,Or.inl ⟨e,by simpa using h1,by simpa using h2,by simpa using h3⟩⟩
  ·rintro ⟨_,⟨_,b,c,d⟩|⟨a,_⟩|⟨a,_⟩|⟨a,_⟩⟩
   ·simp [b,c,d]
   all_goals omega
 ·by_cases hk:u.kind=2\/u.kind=3
  ·rw [vk7 (Or.inl ⟨e,hk⟩)]
   have hk':(u.kind==2||u.kind==3)=true:=by simpa using hk
   have e2:((⟨u.cm.unit,u.cm.what,u.cm.x,u.cm.y,0⟩:Cm)=u.cm)↔u.target=0:=by
    show ((⟨u.id,u.what,u.tox,u.toy,0⟩:Cm)=⟨u.id,u.what,u.tox,u.toy,u.target⟩)↔_
    simp only [Cm.mk.injEq,true_and]
    exact eq_comm
   rw [e2]
   simp [e,hk']
   exact and_comm
  ·have hn:¬ zk2 t u:=zz2 (by omega)
   have hk':(u.kind==2||u.kind==3)=false:=by simpa using hk
   simp [e,hn,hk']
 ·by_cases hk:u.kind=2
  ·rw [vk7 (Or.inr ⟨e,hk⟩)]
   have e2:((⟨u.cm.unit,u.cm.what,u.cm.x,u.cm.y,0⟩:Cm)=u.cm)↔u.target=0:=by
    show ((⟨u.id,u.what,u.tox,u.toy,0⟩:Cm)=⟨u.id,u.what,u.tox,u.toy,u.target⟩)↔_
    simp only [Cm.mk.injEq,true_and]
    exact eq_comm
   rw [e2]
   simp [e,hk]
   exact and_comm
  ·have hn:¬ zk2 t u:=zz2 (by omega)
   simp [e,hn,hk]
 ·by_cases hk:u.kind=3
  ·rw [dv9 ⟨e,hk⟩ hid hri]
   have e2:((⟨u.cm.unit,u.cm.what,0,0,u.cm.target⟩:Cm)=u.cm)↔(u.tox=0/\u.toy=0):=by
    show ((⟨u.id,u.what,0,0,u.target⟩:Cm)=⟨u.id,u.what,u.tox,u.toy,u.target⟩)↔_
    simp only [Cm.mk.injEq,true_and,and_true]
    exact ⟨fun h=>⟨h.1.symm,h.2.symm⟩,fun h=>⟨h.1.symm,h.2.symm⟩⟩
   rw [e2]
   cases hp:qz0 t.us u.target with
   | none =>
    have:=xx3 (nx:=t.next) (o:=u.owner) hp
    rw [show u.cm.target=u.target from rfl,this]
    simp [e,hk]
    exact and_comm
   | some i =>
    have:=xx4 (nx:=t.next) (o:=u.owner) hri hp
    rw [show u.cm.target=u.target from rfl,<- this]
    simp [e,hk]
    exact and_comm
  ·have hn:¬ zk2 t u:=zz2 (by omega)
   simp [e,hn,hk]
 ·by_cases hk:u.kind=1
  ·rw [dv8 ⟨e,hk⟩]
   have e2:((⟨u.cm.unit,u.cm.what,u.cm.x,0,0⟩:Cm)=u.cm)↔(u.toy=0/\u.target=0):=by
    show ((⟨u.id,u.what,u.tox,0,0⟩:Cm)=⟨u.id,u.what,u.tox,u.toy,u.target⟩)↔_
    simp only [Cm.mk.injEq,true_and]
    exact ⟨fun h=>⟨h.1.symm,h.2.symm⟩,fun h=>⟨h.1.symm,h.2.symm⟩⟩
   rw [e2]
   simp [e,hk]
   exact and_comm
  ·have hn:¬ zk2 t u:=zz2 (by omega)
   simp [e,hn,hk]
theorem gy5 {us:List U}{k:Nat}{u:U}(hu:us[k]?=some u)(o:Int):(us.take (k+1)).countP (qq4 o)=(us.take k).countP (qq4 o)+(if qq4 o u=true then 1 else 0):=by
 obtain ⟨hl,rfl⟩:=List.getElem?_eq_some_iff.1 hu
 rw [List.take_succ_eq_append_getElem hl,List.countP_append]
 simp [List.countP_cons]
theorem xz8 {us:List U}{o:Int}:qw0 us o=none↔us.countP (qq4 o)=0:=by
 unfold qw0
 rw [List.findIdx?_eq_none_iff,List.countP_eq_zero]
 exact ⟨fun h a ha=>by simp [h a ha],fun h a ha=>by simpa using h a ha⟩
theorem vj1 {us:List U}{o:Int}(h:∀ k u,us[k]?=some u->qq4 o u=true->qw0 (us.take k) o=none):us.countP (qq4 o)<=1:=by
 have:∀ k,k<=us.length->(us.take k).countP (qq4 o)<=1:=by
  intro k
  induction k with
  | zero=>intro _;simp
  | succ k ih =>
   intro hk
   have hu:us[k]?=some us[k]:=List.getElem?_eq_getElem (by omega)
   rw [gy5 hu]
   by_cases hb:qq4 o us[k]=true
   ·rw [xz8.1 (h k _ hu hb),if_pos hb]
    omega
   ·rw [if_neg hb]
    exact ih (by omega)
 have:=this us.length (Nat.le_refl _)
 rwa [List.take_length] at this
theorem vj2 {us:List U}{o:Int}(hc:us.countP (qq4 o)<=1){k:Nat}{u:U}(hu:us[k]?=some u)(hb:qq4 o u=true):qw0 (us.take k) o=none:=by
 rw [xz8]
 have h1:=gy5 hu o
 rw [if_pos hb] at h1
 have h2:(us.take (k+1)).countP (qq4 o)<=us.countP (qq4 o):=List.Sublist.countP_le (List.take_sublist _ _)
 omega
theorem kj1 {us:List U}(hbs:0 < us.countP (fun u=>u.kind==1))(ho:∀ u∈us,u.owner=0\/u.owner=1):1<=us.countP (qq4 0)+us.countP (qq4 1):=by
 obtain ⟨u,hu,hu1⟩:=List.countP_pos_iff.1 hbs
 have hu1':u.kind=1:=by simpa using hu1
 rcases ho u hu with o|o
 ·have:0 < us.countP (qq4 0):=List.countP_pos_iff.2 ⟨u,hu,by unfold qq4;simp [hu1',o]⟩
  omega
 ·have:0 < us.countP (qq4 1):=List.countP_pos_iff.2 ⟨u,hu,by unfold qq4;simp [hu1',o]⟩
  omega
theorem kk2 {t:T}(hb:Bnd t)(hok:GOk t)(hos:OS t){k:Nat}{u:U}(hu:t.us[k]?=some u):qx6 (t.upto k) u (zq8 t.us k)/\(u.kind=1->qw0 (t.us.take k) u.owner=none):=by
 obtain ⟨_,h2,⟨h3,h4⟩,h5,h6,_⟩:=(xy1 hb).2 ⟨hok,hos⟩
 have hm:=List.mem_of_getElem? hu
 have q:UOk t.bd (qx8 t.us) t.next u:=hok.all u hm
 refine ⟨⟨h2.1 k u hu,q.id.2,by have:=q.ow;omega,by have:=q.kd;omega,by have:=q.kd;omega,?_,q.lf.1,q.lf.2,q.ld.2.1,?_⟩,fun e=>?_⟩
 ·show qk5 (t.us.take k) t.bd (u.x,u.y)=true
  unfold qk5
  have hgr:t.bd (ci u.x u.y)=0:=q.gr
  have hon:onB u.x u.y=true:=q.on
  simp only [hon,hgr,Bool.true_and,beq_self_eq_true,Bool.not_eq_true']
  unfold zv8
  rw [List.any_eq_false]
  intro v hv
  obtain ⟨j,hj,hjv⟩:=gw9 hv
  simp only [Bool.and_eq_true,beq_iff_eq,not_and]
  intro ex ey
  obtain ⟨hli,ei⟩:=List.getElem?_eq_some_iff.1 hu
  obtain ⟨hlj,ej⟩:=List.getElem?_eq_some_iff.1 hjv
  refine List.pairwise_iff_getElem.1 h4 j k (by simpa using hlj) (by simpa using hli) hj ?_
  simp [ei,ej,ex,ey]
 ·have:=q.ld
  by_cases h0:0 < u.load
  ·exact Or.inr (this.2.2 h0)
  ·exact Or.inl (by omega)
 ·have ho:=q.ow
  have hbs:qq4 u.owner u=true:=by unfold qq4;simp [e]
  rcases ho with o|o
  ·rw [o] at hbs |-;exact vj2 h5 hu hbs
  ·rw [o] at hbs |-;exact vj2 h6 hu hbs
theorem qqj4 {t:T}(hb:Bnd t)(hbd:∀ i,i < 144->t.bd i<=10)(hs:∀ k u,t.us[k]?=some u->qx6 (t.upto k) u (zq8 t.us k)/\(u.kind=1->qw0 (t.us.take k) u.owner=none))(hbs:0 < t.us.countP (fun u=>u.kind==1)) :
  (Rise t.us/\∀ v∈t.us,1<=v.id/\v.id < t.next)/\(∀ u∈t.us,u.kind=1\/u.kind=2\/u.kind=3)/\((∀ u∈t.us,zk2 t u)->GOk t/\OS t):=by
 have hids:yw7 t.us t.next:=by
  refine ⟨fun k u hu=>(hs k u hu).1.1,?_⟩
  have:0 < t.us.length:=by
   rcases Nat.eq_zero_or_pos t.us.length with e|e
   ·rw [List.length_eq_zero_iff] at e
    rw [e] at hbs
    simp at hbs
   ·exact e
  obtain ⟨m,hm⟩:∃ m,t.us.length=m+1:=⟨t.us.length - 1,by omega⟩
  rw [hm,jx9 (by omega)]
  exact (hs m _ (List.getElem?_eq_getElem (by omega))).1.2.1
 have hk:∀ u∈t.us,u.kind=1\/u.kind=2\/u.kind=3:=fun u hu=>by
  obtain ⟨i,hi⟩:=List.getElem?_of_mem hu
  have:=(hs i u hi).1
  obtain ⟨_,_,_,a,b,_⟩:=this
  omega
 refine ⟨⟨vx6 hids,gk0 hids⟩,hk,fun hor=>(xy1 hb).1 ⟨hbd,hids,⟨fun u hu=>⟨?_,hor u hu⟩,?_⟩,?_,?_,?_⟩⟩
 ·obtain ⟨i,hi⟩:=List.getElem?_of_mem hu
  obtain ⟨_,_,a3,_,_,a6,a7,a8,a9,a10⟩:=(hs i u hi).1
  have hf:qk5 (t.us.take i) t.bd (u.x,u.y)=true:=a6
  unfold qk5 at hf
  simp only [Bool.and_eq_true,beq_iff_eq] at hf
  refine ⟨a3,a7,by rw [xw9 (hk u hu)];exact a8,?_,hf.1,hf.2.1⟩
  show u.load<=if u.kind=2 then 5 else 0
  rcases a10 with e|e
  ·rw [e];split <;> omega
  ·rw [if_pos e];exact a9
 ·rw [List.Nodup,List.pairwise_map,List.pairwise_iff_getElem]
  intro i j hi hj hij e
  have e':((t.us[i]'hi).x,(t.us[i]'hi).y)=((t.us[j]'hj).x,(t.us[j]'hj).y):=e
  obtain ⟨_,_,_,_,_,a6,_⟩:=(hs j _ (List.getElem?_eq_getElem hj)).1
  have hf:qk5 (t.us.take j) t.bd ((t.us[j]'hj).x,(t.us[j]'hj).y)=true:=a6
  unfold qk5 at hf
  simp only [Bool.and_eq_true,Bool.not_eq_true'] at hf
  have hno:=hf.2.2
  unfold zv8 at hno
  rw [List.any_eq_false] at hno
  have hmem:(t.us[i]'hi)∈t.us.take j:=by
   rw [List.mem_iff_getElem?]
   exact ⟨i,by rw [List.getElem?_take_of_lt hij];exact List.getElem?_eq_getElem hi⟩
  have:=hno _ hmem
  simp only [Prod.mk.injEq] at e'
  simp [e'.1,e'.2] at this
 ·exact vj1 (fun k u hu hb1=>by
   have h1:u.kind=1/\u.owner=0:=by unfold qq4 at hb1;simpa using hb1
   have:=(hs k u hu).2 h1.1
   rwa [h1.2] at this)
 ·exact vj1 (fun k u hu hb1=>by
   have h1:u.kind=1/\u.owner=1:=by unfold qq4 at hb1;simpa using hb1
   have:=(hs k u hu).2 h1.1
   rwa [h1.2] at this)
 ·exact kj1 hbs (fun u hu=>by
   obtain ⟨i,hi⟩:=List.getElem?_of_mem hu
   have a3:=(hs i u hi).1.2.2.1
   have ho:=(hb.us u hu).1
   omega)
def zy9 (t:T)(pv:Value):List Value:=(List.range 149).map (qw2 t pv)
theorem zy4 (t:T)(pv:Value):(zy9 t pv).length=149:=by unfold zy9;simp
theorem jq0 (t:T)(pv:Value){k:Nat}(hk:k < 149):(zy9 t pv)[k]?=some (qw2 t pv k):=by unfold zy9;rw [List.getElem?_map,List.getElem?_range hk];rfl
def yz9 (t:T)(k:Nat)(v:Int):T:=if k=0 then { t with turn:=v } else if k < 145 then { t with bd:=fun j=>if j=k - 1 then v else t.bd j } else if k=145 then { t with s0:=v } else if k=146 then { t with s1:=v } else { t with next:=v }
theorem fw8 (t:T)(pv:Value)(k i:Nat)(v:Int)(hk:k < 148):qw2 (yz9 t k v) pv i=if i=k then ii v else qw2 t pv i:=by
 unfold qw2 yz9
 by_cases h0:k=0
 ·subst h0
  simp only [if_true]
  by_cases h:i=0
  ·rw [if_pos h,if_pos h]
  ·rw [if_neg h,if_neg h,if_neg h]
 ·rw [if_neg h0]
  by_cases h1:k < 145
  ·rw [if_pos h1]
   by_cases h:i=k
   ·rw [if_neg (by omega),if_pos (by omega),if_pos h]
    dsimp only
    rw [if_pos (by omega)]
   ·rw [if_neg h]
    by_cases hi0:i=0
    ·rw [if_pos hi0,if_pos hi0]
    ·rw [if_neg hi0,if_neg hi0]
     by_cases hi1:i < 145
     ·rw [if_pos hi1,if_pos hi1]
      dsimp only
      rw [if_neg (by omega)]
     ·rw [if_neg hi1,if_neg hi1]
  ·rw [if_neg h1]
   by_cases h2:k=145
   ·rw [if_pos h2]
    by_cases h:i=k
    ·rw [if_neg (by omega),if_neg (by omega),if_pos (by omega),if_pos h]
    ·rw [if_neg h]
     by_cases hi0:i=0
     ·rw [if_pos hi0,if_pos hi0]
     ·rw [if_neg hi0,if_neg hi0]
      by_cases hi1:i < 145
      ·rw [if_pos hi1,if_pos hi1]
      ·rw [if_neg hi1,if_neg hi1,if_neg (show ¬ i=145 by omega),if_neg (show ¬ i=145 by omega)]
   ·rw [if_neg h2]
    by_cases h3:k=146
    ·rw [if_pos h3]
     by_cases h:i=k
     ·rw [if_neg (by omega),if_neg (by omega),if_neg (by omega),if_pos (by omega),if_pos h]
     ·rw [if_neg h]
      by_cases hi0:i=0
      ·rw [if_pos hi0,if_pos hi0]
      ·rw [if_neg hi0,if_neg hi0]
       by_cases hi1:i < 145
       ·rw [if_pos hi1,if_pos hi1]
       ·rw [if_neg hi1,if_neg hi1]
        by_cases hi2:i=145
        ·rw [if_pos hi2,if_pos hi2]
        ·rw [if_neg hi2,if_neg hi2,if_neg (show ¬ i=146 by omega),if_neg (show ¬ i=146 by omega)]
    ·rw [if_neg h3]
     by_cases h:i=k
     ·rw [if_neg (by omega),if_neg (by omega),if_neg (by omega),if_neg (by omega),if_pos (by omega),if_pos h]
     ·rw [if_neg h]
      by_cases hi0:i=0
      ·rw [if_pos hi0,if_pos hi0]
      ·rw [if_neg hi0,if_neg hi0]
       by_cases hi1:i < 145
       ·rw [if_pos hi1,if_pos hi1]
       ·rw [if_neg hi1,if_neg hi1]
        by_cases hi2:i=145
        ·rw [if_pos hi2,if_pos hi2]
        ·rw [if_neg hi2,if_neg hi2]
         by_cases hi3:i=146
         ·rw [if_pos hi3,if_pos hi3]
         ·rw [if_neg hi3,if_neg hi3,if_neg (show ¬ i=147 by omega),if_neg (show ¬ i=147 by omega)]
theorem fk6 (t:T)(pv:Value)(k:Nat)(v:Int)(hk:k < 148):(zy9 t pv).toArray.setIfInBounds k (ii v)=(zy9 (yz9 t k v) pv).toArray:=by
 apply Array.ext_getElem?
 intro i
 rw [Array.getElem?_setIfInBounds]
 by_cases hi:i < 149
 ·rw [List.getElem?_toArray,List.getElem?_toArray,jq0 _ _ hi,jq0 _ _ hi,fw8 t pv k i v hk]
  by_cases e:k=i
  ·rw [if_pos e,if_pos (by simp [zy4];omega),if_pos e.symm]
  ·rw [if_neg e,if_neg (fun h=>e h.symm)]
 ·rw [if_neg (by omega),List.getElem?_toArray,List.getElem?_toArray,List.getElem?_eq_none (by rw [zy4];omega),List.getElem?_eq_none (by rw [zy4];omega)]
theorem gx7 (t:T)(pv pv':Value):(zy9 t pv).toArray.setIfInBounds 148 pv'=(zy9 t pv').toArray:=by
 apply Array.ext_getElem?
 intro i
 rw [Array.getElem?_setIfInBounds]
 by_cases hi:i < 149
 ·rw [List.getElem?_toArray,List.getElem?_toArray,jq0 _ _ hi,jq0 _ _ hi]
  by_cases e:148=i
  ·rw [if_pos e,if_pos (by simp [zy4])]
   subst e
   rfl
  ·rw [if_neg e]
   unfold qw2
   by_cases h0:i=0
   ·rw [if_pos h0,if_pos h0]
   by_cases h1:i < 145
   ·rw [if_neg h0,if_neg h0,if_pos h1,if_pos h1]
   by_cases h2:i=145
   ·rw [if_neg h0,if_neg h0,if_neg h1,if_neg h1,if_pos h2,if_pos h2]
   by_cases h3:i=146
   ·rw [if_neg h0,if_neg h0,if_neg h1,if_neg h1,if_neg h2,if_neg h2,if_pos h3,if_pos h3]
   rw [if_neg h0,if_neg h0,if_neg h1,if_neg h1,if_neg h2,if_neg h2,if_neg h3,if_neg h3,if_pos (by omega),if_pos (by omega)]
 ·rw [if_neg (by omega),List.getElem?_toArray,List.getElem?_toArray,List.getElem?_eq_none (by rw [zy4];omega),List.getElem?_eq_none (by rw [zy4];omega)]
def hdT (t:T)(s m:Nat):T:=⟨if 0 < s then t.turn else 0,if 3 < s then t.next else 0,if 1 < s then t.s0 else 0,if 2 < s then t.s1 else 0,fun j=>if j < m then t.bd j else 0,[],fun _=>none⟩
theorem hd_0 (t:T):yz9 (hdT t 0 0) 0 t.turn=hdT t 1 0:=by unfold yz9 hdT;simp
theorem hd_1 (t:T):yz9 (hdT t 1 0) 145 t.s0=hdT t 2 0:=by unfold yz9 hdT;simp
theorem hd_2 (t:T):yz9 (hdT t 2 0) 146 t.s1=hdT t 3 0:=by unfold yz9 hdT;simp
theorem hd_3 (t:T):yz9 (hdT t 3 0) 147 t.next=hdT t 4 0:=by unfold yz9 hdT;simp
theorem hd_b (t:T)(m:Nat)(hm:m < 144):yz9 (hdT t 4 m) (1+m) (t.bd m)=hdT t 4 (m+1):=by
 unfold yz9 hdT
 rw [if_neg (by omega),if_pos (by omega)]
 congr 1
 funext j
 dsimp only
 by_cases e:j=m
 ·subst e
  rw [if_pos (by omega),if_pos (by omega)]
 ·rw [if_neg (by omega)]
  by_cases h:j < m
  ·rw [if_pos h,if_pos (by omega)]
  ·rw [if_neg h,if_neg (by omega)]
theorem qjz7 (t:T)(pv:Value):zy9 (hdT t 4 144) pv=zy9 t pv:=by
 unfold zy9
 apply List.map_congr_left
 intro j hj
 have hj:=List.mem_range.1 hj
 unfold qw2 hdT
 by_cases h0:j=0
 ·simp [h0]
 by_cases h1:j < 145
 ·rw [if_neg h0,if_neg h0,if_pos h1,if_pos h1]
  dsimp only
  rw [if_pos (by omega)]
 ·simp [h0,h1]
theorem qxq3:Tryz.zeroCells131=(zy9 (hdT (qj5 []) 0 0) (.slice none 0 0)).toArray:=by kernel_rfl
theorem qqj6 (t t':T):hdT t 0 0=hdT t' 0 0:=by unfold hdT;simp
structure RQ (w0:World) (l:List UInt8) (sb A n:Nat) (t':T) (pv:Value) (Q:Prop) (w:World):Prop where
 ex:∃ (k:Nat) (bad:Bool) (t:T),SC w sb l k bad/\RP (¬ PL l) l n k bad/\w.heap[A]?=some (.cells (zy9 t pv).toArray 131)/\(bad=false->t=t'/\Q)
 fr:Fr [sb,A] w0 w
structure RV (w0:World) (l:List UInt8) (sb A n:Nat) (t':T) (pv:Value) (Q:Prop) (most v:Int) (w:World):Prop where
 ex:∃ (k:Nat) (bad:Bool) (t:T),SC w sb l k bad/\RP (¬ PL l) l (n+1) k bad/\w.heap[A]?=some (.cells (zy9 t pv).toArray 131)/\(bad=false->t=t'/\Q/\v=nth l false n/\v<=most)
 bd:0<=v/\v<=1000000000
 fr:Fr [sb,A] w0 w
theorem RQ.drew {w0:World}{l:List UInt8}{sb A n:Nat}{t':T}{pv:Value}{Q:Prop}{w:World}(h:RQ w0 l sb A n t' pv Q w):RQ w0 l sb A n t' pv Q w.drew:=by
 obtain ⟨⟨k,bad,t,h1,h2,h3,h4⟩,hf⟩:=h
 exact ⟨⟨k,bad,t,⟨h1.all,h1.le⟩,h2,h3,h4⟩,hf.drew⟩
theorem RQ.num {w0:World}{l:List UInt8}{sb A n:Nat}{t':T}{pv:Value}{Q:Prop}{w:World}(h:RQ w0 l sb A n t' pv Q w)(hne:sb≠A)(hl:l.length<=2000000)(most:Int)(hm:0<=most/\most<=1000000000)(hR:(rdN l false (n+1)).2=true\/most < nth l false n->¬ PL l) :
  Calls Tryz.prog 138 #[.pointer (some ⟨sb,0,none⟩),.int .i64 most] w fun e w'=>∃ v,e=.returned (.int .i64 v)/\RV w0 l sb A n t' pv Q most v w':=by
 obtain ⟨⟨k,bad,t,h1,h2,h3,h4⟩,hf⟩:=h
 refine Calls.mono (xv3 (¬ PL l) sb l n k bad most hm w h1 h2 hl hR) ?_
 rintro e w' ⟨v,k',bad',rfl,g1,g2,g3,g4,g5,g6⟩
 refine ⟨v,rfl,⟨k',bad',t,g1,g2,g6.heap h3 (by simp;exact fun e=>hne e.symm),fun hb=>?_⟩,g4,hf.trans g6 (by simp)⟩
 have hb0:bad=false:=by
  cases bad
  ·rfl
  ·rw [g5 rfl] at hb;cases hb
 obtain ⟨a,b⟩:=h4 hb0
 exact ⟨a,b,g3 hb⟩
theorem RV.put {w0:World}{l:List UInt8}{sb A n:Nat}{t' t2:T}{pv:Value}{Q:Prop}{most v:Int}{w:World}(h:RV w0 l sb A n t' pv Q most v w)(hne:sb≠A)(k:Nat)(hk:k < 148)(ht:yz9 t' k (nth l false n)=t2)(Q':Prop)(hQ:Q->nth l false n<=most->Q'):RQ w0 l sb A (n+1) t2 pv Q' (w.setCell ⟨A,k,none⟩ (ii v)):=by
 obtain ⟨⟨k',bad,t,h1,h2,h3,h4⟩,_,hf⟩:=h
 refine ⟨⟨k',bad,yz9 t k v,⟨by rw [Below.heap_setCell _ _ _ _ hne];exact h1.all,h1.le⟩,h2,by rw [zv1 h3,fk6 t pv k v hk],fun hb=>?_⟩,hf.setCell _ _ (by simp)⟩
 obtain ⟨a,b,c,d⟩:=h4 hb
 subst c
 exact ⟨by rw [a,ht],hQ b d⟩
theorem RV.keep {w0:World}{l:List UInt8}{sb A n:Nat}{t':T}{pv:Value}{Q:Prop}{most v:Int}{w:World}(h:RV w0 l sb A n t' pv Q most v w):RQ w0 l sb A (n+1) t' pv (Q/\v=nth l false n/\v<=most) w:=by
 obtain ⟨⟨k',bad,t,h1,h2,h3,h4⟩,_,hf⟩:=h
 exact ⟨⟨k',bad,t,h1,h2,h3,h4⟩,hf⟩
theorem RV.cell {w0:World}{l:List UInt8}{sb A n:Nat}{t':T}{pv:Value}{Q:Prop}{most v:Int}{w:World}(h:RV w0 l sb A n t' pv Q most v w){k:Nat}(hk:k < 149):∃ c,w.cell? ⟨A,k,none⟩=some c:=by
 obtain ⟨⟨k',bad,t,h1,h2,h3,h4⟩,_,hf⟩:=h
 exact ⟨_,by rw [j9 h3,List.getElem?_toArray];exact jq0 t pv hk⟩
theorem RV.fz {w0:World}{l:List UInt8}{sb A n:Nat}{t':T}{pv:Value}{Q:Prop}{most v:Int}{w:World}(h:RV w0 l sb A n t' pv Q most v w)(k:Nat):w.frozen? ⟨A,k,none⟩=false:=by
 obtain ⟨⟨k',bad,t,h1,h2,h3,h4⟩,_,hf⟩:=h
 exact qq0 h3
theorem kw7 {l:List UInt8}(h:PL l){n:Nat}(hn:n<=150+11*(qj5 l).us.length):(rdN l false n).2=false:=by
 cases hb:(rdN l false n).2
 ·rfl
 ·have:=xy5 hb _ hn
  rw [h.ne] at this
  cases this
theorem gv5 {l:List UInt8}{n:Nat}(hn:n < 150){most:Int}(hm:PL l->nth l false n<=most):(rdN l false (n+1)).2=true\/most < nth l false n->¬ PL l:=by
 rintro (h|h) hp
 ·rw [kw7 hp (by omega)] at h;cases h
 ·have:=hm hp;omega
theorem yk2 {l:List UInt8}{n:Nat}(hn:n < 150):(rdN l false (n+1)).2=true\/1000000000 < nth l false n->¬ PL l:=gv5 hn (fun _=>(jj0 l false n).2)
theorem dw4 {l:List UInt8}{j:Nat}(hj:j < 144):(rdN l false (5+j+1)).2=true\/10 < nth l false (5+j)->¬ PL l:=gv5 (by omega) (fun h=>by have:=(h.ok.bd j hj).2;dsimp only at this;rwa [jx4 l hj] at this)
theorem qzz5 {l:List UInt8}:(rdN l false (149+1)).2=true\/100 < nth l false 149->¬ PL l:=gv5 (by omega) (fun h=>h.len)
theorem qzz6 {l:List UInt8}{k:Nat}(hk:k < (qj5 l).us.length):(rdN l false (150+11*k+11)).2=true->¬ PL l:=fun h hp=>by
  rw [kw7 hp (by omega)] at h;cases h
set_option maxRecDepth 100000
theorem dz8:Tryz.prog.built 131 []=some Tryz.zeroCells131:=by kernel_rfl
theorem ky2 (gb:Nat)(t:T)(x y:Int)(w:World)(hu:t.us=[])(hb:∀ j,j < 144->w.cell? ⟨gb,1+j,none⟩=some (ii (t.bd j)))(hc:w.cell? ⟨gb,148,none⟩=some (.slice none 0 0)) :
  Calls Tryz.prog 184 #[.pointer (some ⟨gb,0,none⟩),.int .i64 x,.int .i64 y] w fun e w'=>e=.returned (.bool (qk5 t.us t.bd (x,y)))/\Fr [] w w':=by
 go_enter Tryz.func184,Tryz.ntmps184
 go_wp2_with fail
 refine (qx1 x y _).mono ?_
 rintro e w1 ⟨rfl,rfl⟩
 have HR:Hid (qk5 t.us t.bd (x,y)=(onB x y&&(t.bd (ci x y)==0&&true))):=by show _=_;rw [hu];rfl
 cases hon:onB x y
 ·rw [hon] at HR
  go_wp2_with fail
  go_ret
  exact ⟨by rw [HR.out];rfl,Fr.refl _ _⟩
 ·rw [hon] at HR
  obtain ⟨p0,p1,p2,p3⟩:=qz3.1 hon
  have hb:=hb _ (zz0 hon)
  obtain ⟨v,hv⟩:∃ v,t.bd (ci x y)=v:=⟨_,rfl⟩
  rw [hv] at hb HR
  have e1:1+ci x y=1+y.toNat*12+x.toNat:=by unfold ci;omega
  rw [e1] at hb
  clear hv hon
  by_cases hv0:v=0
  ·subst hv0
   go_wp2_with fail
   go_loopw [8] (fun i wr=>i=.int .i64 0/\w=wr) (fun _ _=>0)
   case atStart=>exact ⟨rfl,rfl⟩
   case round =>
    obtain ⟨rfl,rfl⟩:=hrel
    go_wp2_with fail
    go_ret
    exact ⟨by rw [HR.out];rfl,Fr.refl _ _⟩
  ·have hvb:(v==0)=false:=by simpa using hv0
   have hvn:(v != 0)=true:=by simpa using hv0
   go_wp2_with fail
   go_ret
   exact ⟨by rw [HR.out,hvb];rfl,Fr.refl _ _⟩
theorem ky0 (b:Nat)(o:Int)(w:World)(hc:w.cell? ⟨b,148,none⟩=some (.slice none 0 0)) :
  Calls Tryz.prog 137 #[.pointer (some ⟨b,0,none⟩),.int .i64 o] w fun e w'=>e=.returned (.int .i64 (jq2 (qw0 [] o)))/\Fr [] w w':=by
 go_enter Tryz.func137,Tryz.ntmps137
 go_wp2_with fail
 go_loopw [5] (fun i wr=>i=.int .i64 0/\w=wr) (fun _ _=>0)
 case atStart=>exact ⟨rfl,rfl⟩
 case round =>
  obtain ⟨rfl,rfl⟩:=hrel
  go_wp2_with fail
  go_ret
  exact ⟨rfl,Fr.refl _ _⟩
structure RLP (w0:World) (l:List UInt8) (t:T) (sb A k:Nat) (pv:Value) (w:World):Prop where
 ex:∃ kk,SC w sb l kk false/\rdN l false (150+11*k)=(l.drop kk,false)
 g:w.heap[A]?=some (.cells (zy9 t pv).toArray 131)
 own:w.ownsRow w0.heap.size 85 11 pv k ((t.us.take k).flatMap U.cells)
 nil:k=0->pv=.slice none 0 0
 st:∀ j v,j < k->t.us[j]?=some v->qx6 (t.upto j) v (zq8 t.us j)/\(v.kind=1->qw0 (t.us.take j) v.owner=none)
 fr:Fr [sb,A] w0 w
theorem RLP.cell {w0:World}{l:List UInt8}{t:T}{sb A k:Nat}{pv:Value}{w:World}(h:RLP w0 l t sb A k pv w){S:List Nat}{w':World}(hf:Fr S w w')(hA:A∉S){j:Nat}(hj:j < 149):w'.cell? ⟨A,j,none⟩=some (qw2 t pv j):=by
 rw [j9 (hf.heap h.g hA),List.getElem?_toArray]
 exact jq0 t pv hj
theorem RLP.rg {w0:World}{l:List UInt8}{t:T}{sb A k:Nat}{pv:Value}{w:World}(h:RLP w0 l t sb A k pv w)(hk:k<=t.us.length)(h100:t.us.length<=100)(h0:0 < k)(hA:A < w0.heap.size)(hs:sb < w0.heap.size)(hn:sb≠A) :
  ∃ pb cap,pv=.slice (some ⟨pb,0,none⟩) k cap/\w0.heap.size<=pb/\∀ w',Fr [sb] w w'->RG w' A pb cap (t.upto k):=by
 have hl:(t.us.take k).length=k:=by rw [List.length_take];omega
 obtain ⟨pb,cap,e1,e2,e3⟩:=PRow.of_owns h.own hl.symm h0
 rw [hl] at e1
 refine ⟨pb,cap,e1,e2,fun w' hf=>⟨fun j hj=>?_,fun j=>?_,e3.fr hf (by simp;omega),?_,by omega⟩⟩
 ·rw [h.cell hf (by simp;exact fun e=>hn e.symm) hj]
  show some (qw2 t pv j)=some (qw2 (t.upto k) (.slice (some ⟨pb,0,none⟩) (t.us.take k).length cap) j)
  rw [hl,e1]
  rfl
 ·exact qq0 (hf.heap h.g (by simp;exact fun e=>hn e.symm))
 ·show (t.us.take k).length<=1000
  omega
theorem RLP.stands {w0:World}{l:List UInt8}{t:T}{sb A k:Nat}{pv:Value}{w:World}(h:RLP w0 l t sb A k pv w)(hk:k<=t.us.length)(h100:t.us.length<=100)(hA:A < w0.heap.size)(hs:sb < w0.heap.size)(hn:sb≠A)(u:U)(last:Int)(w':World)(hf:Fr [sb] w w') :
  Calls Tryz.prog 140 #[.pointer (some ⟨A,0,none⟩),u.val,.int .i64 last] w' fun e w''=>BP (qx6 (t.upto k) u last) w' e w'':=by
 rcases Nat.eq_zero_or_pos k with e|e
 ·subst e
  have hp:=h.nil rfl
  subst hp
  have hAs:A∉[sb]:=by simp;exact fun e=>hn e.symm
  refine yq5 A (t.upto 0) u last w' (fun w2 hf2=>?_) (fun w2 hf2=>?_)
  ·rw [h.cell (hf.then0 hf2) hAs (by omega)];rfl
  ·refine ky2 A (t.upto 0) u.x u.y w2 rfl (fun j hj=>?_) ?_
   ·rw [h.cell (hf.then0 hf2) hAs (by omega)]
    unfold qw2
    rw [if_neg (by omega),if_pos (by omega),show 1+j - 1=j by omega]
    rfl
   ·rw [h.cell (hf.then0 hf2) hAs (by omega)];rfl
 ·obtain ⟨pb,cap,_,_,hr⟩:=h.rg hk h100 e hA hs hn
  exact xq0 A pb cap (t.upto k) u last w' (hr w' hf)
theorem RLP.base {w0:World}{l:List UInt8}{t:T}{sb A k:Nat}{pv:Value}{w:World}(h:RLP w0 l t sb A k pv w)(hk:k<=t.us.length)(h100:t.us.length<=100)(hA:A < w0.heap.size)(hs:sb < w0.heap.size)(hn:sb≠A)(o:Int)(w':World)(hf:Fr [sb] w w') :
  Calls Tryz.prog 137 #[.pointer (some ⟨A,0,none⟩),.int .i64 o] w' fun e w''=>e=.returned (.int .i64 (jq2 (qw0 (t.us.take k) o)))/\Fr [] w' w'':=by
 rcases Nat.eq_zero_or_pos k with e|e
 ·subst e
  have hp:=h.nil rfl
  subst hp
  exact ky0 A o w' (by rw [h.cell hf (by simp;exact fun e=>hn e.symm) (by omega)];rfl)
 ·obtain ⟨pb,cap,_,_,hr⟩:=h.rg hk h100 e hA hs hn
  exact jw3 A pb cap (t.us.take k) o w' (hr w' hf).gv
theorem vk4 (u:U)(W:World)(j:Nat)(v:Value)(hu:u.cells[j]?=some v):(W.alloc (.cells u.arr 85)).cell? ((⟨W.heap.size,0,none⟩:Addr).add j)=some v:=by
 rw [Addr.add_lit,Nat.zero_add,j9 (qq6 W _)]
 simpa using hu
theorem RLP.off {w0:World}{l:List UInt8}{t:T}{sb A k:Nat}{pv:Value}{w:World}(h:RLP w0 l t sb A k pv w)(hA:A < w0.heap.size)(hs:sb < w0.heap.size):A∉pv.ownBlock.toList/\sb∉pv.ownBlock.toList:=by
 constructor
 ·intro e
  have:=qj1 h.own (b:=A) (by simpa using e)
  omega
 ·intro e
  have:=qj1 h.own (b:=sb) (by simpa using e)
  omega
theorem RLP.grown {w0:World}{l:List UInt8}{t:T}{sb A k:Nat}{pv:Value}{w X w4:World}(h:RLP w0 l t sb A k pv w)(hX:Fr [sb] w X)(hgr:X.grownBy w4 pv.ownBlock)(hA:A < w0.heap.size)(hs:sb < w0.heap.size)(hn:sb≠A):w4.cell? ⟨A,148,none⟩=some pv/\w4.frozen? ⟨A,148,none⟩=false:=by
 obtain ⟨o1,o2⟩:=h.off hA hs
 have hgf:=Fr.grow (S:=pv.ownBlock.toList) (Fr.refl _ _) hgr (fun g hg=>Or.inl (by simp [hg]))
 have hh:=hgf.heap (hX.heap h.g (by simp;exact fun e=>hn e.symm)) o1
 exact ⟨by rw [j9 hh,List.getElem?_toArray,jq0 t pv (by omega)];rfl,qq0 hh⟩
theorem RLP.push {w0:World} {l:List UInt8} {t:T} {sb A k k':Nat} {pv v':Value} {u:U} {w X w4:World} (h:RLP w0 l t sb A k pv w) (hX:Fr [sb] w X) (hsc:SC X sb l k' false) (hrd:rdN l false (150+11*k+11)=(l.drop k',false)) (hgr:X.grownBy w4 pv.ownBlock)
  (hown:w4.ownsRow w0.heap.size 85 11 v' (k+1) ((t.us.take k).flatMap U.cells ++ u.cells)) (hu:t.us[k]?=some u) (hst:qx6 (t.upto k) u (zq8 t.us k)/\(u.kind=1->qw0 (t.us.take k) u.owner=none)) (hA:A < w0.heap.size) (hs:sb < w0.heap.size) (hn:sb≠A) :
  RLP w0 l t sb A (k+1) v' (w4.setCell ⟨A,148,none⟩ v'):=by
 obtain ⟨o1,o2⟩:=h.off hA hs
 have hgf:=Fr.grow (S:=pv.ownBlock.toList) (Fr.refl _ _) hgr (fun g hg=>Or.inl (by simp [hg]))
 have hh:=hgf.heap (hX.heap h.g (by simp;exact fun e=>hn e.symm)) o1
 have hs4:=hgf.heap hsc.all o2
 refine ⟨⟨k',⟨by rw [Below.heap_setCell _ _ _ _ hn];exact hs4,hsc.le⟩,hrd⟩,by rw [zv1 hh,gx7],?_,fun e=>by omega,fun j v hj hv=>?_,?_⟩
 ·have htk:(t.us.take (k+1)).flatMap U.cells=(t.us.take k).flatMap U.cells ++ u.cells:=by
   obtain ⟨hl',rfl⟩:=List.getElem?_eq_some_iff.1 hu
   rw [List.take_succ_eq_append_getElem hl',List.flatMap_append]
   simp
  rw [htk]
  refine qq7 hown ((Fr.refl [A] w4).setCell _ _ (by simp)) (fun b hb=>?_)
  have:=qj1 hown hb
  simp
  omega
 ·by_cases e:j < k
  ·exact h.st j v e hv
  ·have:j=k:=by omega
   subst this
   rw [hu] at hv
   cases hv
   exact hst
 ·have hw:Fr [sb,A] w0 X:=h.fr.trans hX (by simp)
  refine Fr.setCell (hw.grow hgr (fun g hg=>Or.inr (qj1 h.own hg))) _ _ (by simp)
theorem fw2 {l:List UInt8}(h:PL l){k:Nat}{u:U}(hu:(qj5 l).us[k]?=some u):qx6 ((qj5 l).upto k) u (zq8 (qj5 l).us k)/\(u.kind=1->qw0 ((qj5 l).us.take k) u.owner=none) :=
  kk2 (jy6 l (by have:=h.len;rwa [jw1] at this)) h.ok h.os hu
theorem dw3 {l:List UInt8}(h:PL l):0 < (qj5 l).us.countP (fun u=>u.kind==1):=by
 have hb:=h.ok.bs
 dsimp only at hb
 have h0:(qj5 l).us.countP (qq4 0)<=(qj5 l).us.countP (fun u=>u.kind==1):=List.countP_mono_left (fun u _ hu=>by unfold qq4 at hu;simp at hu;simp [hu.1])
 have h1:(qj5 l).us.countP (qq4 1)<=(qj5 l).us.countP (fun u=>u.kind==1):=List.countP_mono_left (fun u _ hu=>by unfold qq4 at hu;simp at hu;simp [hu.1])
 omega
def uB (a b:U):Bool:=decide (a.id=b.id/\a.owner=b.owner/\a.kind=b.kind/\a.x=b.x/\a.y=b.y/\a.life=b.life/\a.load=b.load/\a.what=b.what/\a.tox=b.tox/\a.toy=b.toy/\a.target=b.target)
theorem jj3 (a b:U):uB a b=true↔a=b:=by
 obtain ⟨a0,a1,a2,a3,a4,a5,a6,a7,a8,a9,a10⟩:=a
 obtain ⟨b0,b1,b2,b3,b4,b5,b6,b7,b8,b9,b10⟩:=b
 simp [uB]
theorem qjz6 (x y:Operand)(a b:U)(w:World):(eqGuard BinOp.eql 85 x y a.val b.val).run Tryz.prog w=.ok () w:=by kernel_rfl
theorem eqUT (a:U)(w:World):(binOp BinOp.eql 85 a.val a.val).run Tryz.prog w=.ok (.bool true) w:=by
  simp [go_sem]
theorem eqU2 (a b:U)(w:World):(binOp BinOp.eql 85 a.val b.val).run Tryz.prog w=.ok (.bool (uB a b)) w:=by
 by_cases h:a=b
 ·subst h
  rw [(jj3 a a).2 rfl]
  exact eqUT a w
 ·rw [show uB a b=false from by cases hb:uB a b;rfl;exact absurd ((jj3 a b).1 hb) h]
  obtain ⟨a0,a1,a2,a3,a4,a5,a6,a7,a8,a9,a10⟩:=a
  obtain ⟨b0,b1,b2,b3,b4,b5,b6,b7,b8,b9,b10⟩:=b
  simp only [U.mk.injEq] at h
  by_cases h0:a0=b0
  ·by_cases h1:a1=b1
   ·by_cases h2:a2=b2
    ·by_cases h3:a3=b3
     ·by_cases h4:a4=b4
      ·by_cases h5:a5=b5
       ·by_cases h6:a6=b6
        ·by_cases h7:a7=b7
         ·by_cases h8:a8=b8
          ·by_cases h9:a9=b9
           ·have h10:¬ a10=b10:=fun h10=>h ⟨h0,h1,h2,h3,h4,h5,h6,h7,h8,h9,h10⟩
            simp [go_sem,h0,h1,h2,h3,h4,h5,h6,h7,h8,h9,h10]
           ·simp [go_sem,h0,h1,h2,h3,h4,h5,h6,h7,h8,h9]
          ·simp [go_sem,h0,h1,h2,h3,h4,h5,h6,h7,h8]
         ·simp [go_sem,h0,h1,h2,h3,h4,h5,h6,h7]
        ·simp [go_sem,h0,h1,h2,h3,h4,h5,h6]
       ·simp [go_sem,h0,h1,h2,h3,h4,h5]
      ·simp [go_sem,h0,h1,h2,h3,h4]
     ·simp [go_sem,h0,h1,h2,h3]
    ·simp [go_sem,h0,h1,h2]
   ·simp [go_sem,h0,h1]
  ·simp [go_sem,h0]
theorem vq2 (gb pb cap:Nat)(t:T)(u:U)(w:World)(h:RG w gb pb cap t)(hkd:u.kind=1\/u.kind=2\/u.kind=3) :
  Calls Tryz.prog 141 #[.pointer (some ⟨gb,0,none⟩),u.val] w fun e w'=>BP (zq2 t u=true/\zw5 u u.cm=u) w e w':=by
 obtain ⟨Q,hQ⟩:∃ Q:Prop,Q=(zq2 t u=true/\zw5 u u.cm=u):=⟨_,rfl⟩
 rw [<- hQ]
 obtain ⟨ru,hru⟩:∃ r,r=zw5 u u.cm:=⟨_,rfl⟩
 obtain ⟨tb,htb⟩:∃ b,qj3 t u u.cm=b:=⟨_,rfl⟩
 have HO:Hid (∀ w',Fr [] w w'->Calls Tryz.prog 178 #[.pointer (some ⟨gb,0,none⟩),u.val,u.cm.val] w' fun e w''=>e=.returned (.tuple #[ru.val,.bool tb])/\Fr [] w' w''):=fun w' hf=>by rw [hru,<- htb];exact jw5 gb pb cap t u u.cm w' (h.fr0 hf) hkd
 have HF:Hid (∀ w',Fr [] w w'->Calls Tryz.prog 177 #[.pointer (some ⟨gb,0,none⟩),.int .i64 u.target] w' fun e w''=>e=.returned (.int .i64 (jq2 (qz0 t.us u.target)))/\Fr [] w' w''):=fun w' hf=>ky1 gb pb cap t.us u.target w' (h.fr0 hf).gv
 have HNX:Hid (∀ w',Fr [] w w'->w'.cell? ⟨gb,147,none⟩=some (ii t.next)):=fun w' hf=>(h.fr0 hf).c147
 have HBD:Hid (∀ j,j < 144->∀ w',Fr [] w w'->w'.cell? ⟨gb,1+j,none⟩=some (ii (t.bd j))):=fun j hj w' hf=>(h.fr0 hf).bd hj
 have HQ:Hid (Q↔(zq2 t u=true/\ru=u)):=by show _↔_;rw [hQ,hru]
 have HTB:=hid htb
 have heq:=eqU2 ru u
 have hgd:=fun (x y:Operand) (w0:World)=>qjz6 x y ru u w0
 clear h hQ hru htb
 go_enter Tryz.func141,Tryz.ntmps141
 go_wp2_with fail
 obtain ⟨W2,hW2⟩:∃ W,W=(w.alloc (.cells u.arr 85)).alloc (.cells #[ii u.id,ii u.what,ii u.tox,ii u.toy,ii u.target] 81):=⟨_,rfl⟩
 rw [<- hW2]
 have hw2:Fr [] w W2:=by rw [hW2];exact ((Fr.refl _ _).alloc _).alloc _
 have hU2:W2.heap[w.heap.size]?=some (.cells u.arr 85):=by rw [hW2];exact (qz7 _ _ _ (by simp)).trans (qq6 _ _)
 clear hW2
 refine Calls.mono (HO.out _ hw2) ?_
 rintro e w3 ⟨rfl,hf3⟩
 dsimp only
 have hw3:=hw2.then0 hf3
 have hU3:=hf3.heap0 hU2
 obtain ⟨b2,hb2⟩:∃ b,b=w.heap.size:=⟨_,rfl⟩
 rw [<- hb2] at hU3 |-
 have hs3:b2 < w3.heap.size:=qq2 hU3
 obtain ⟨W4,hW4⟩:∃ W,W=w3.alloc (.cells ru.arr 85):=⟨_,rfl⟩
 have hw4:Fr [] w W4:=by rw [hW4];exact hw3.alloc _
 have hU4:W4.heap[b2]?=some (.cells u.arr 85):=by rw [hW4];exact (qz7 _ _ _ hs3).trans hU3
 have hV4:W4.heap[w3.heap.size]?=some (.cells ru.arr 85):=by rw [hW4];exact qq6 _ _
 obtain ⟨k0,k1,k2,k3,k4,k5,k6,k7,k8,k9,k10⟩:w3.cell? ⟨b2,0,none⟩=some (ii u.id)/\w3.cell? ⟨b2,1,none⟩=some (ii u.owner)/\w3.cell? ⟨b2,2,none⟩=some (ii u.kind)/\w3.cell? ⟨b2,3,none⟩=some (ii u.x)/\w3.cell? ⟨b2,4,none⟩=some (ii u.y)/\w3.cell? ⟨b2,5,none⟩=some (ii u.life)/\w3.cell? ⟨b2,6,none⟩=some (ii u.load)/\w3.cell? ⟨b2,7,none⟩=some (ii u.what)/\w3.cell? ⟨b2,8,none⟩=some (ii u.tox)/\w3.cell? ⟨b2,9,none⟩=some (ii u.toy)/\w3.cell? ⟨b2,10,none⟩=some (ii u.target):=⟨j9 hU3,j9 hU3,j9 hU3,j9 hU3,j9 hU3,j9 hU3,j9 hU3,j9 hU3,j9 hU3,j9 hU3,j9 hU3⟩
 obtain ⟨vb,hvb⟩:∃ b,b=w3.heap.size:=⟨_,rfl⟩
 have HVB:=hid hvb
 have HW4:=hid hW4
 clear hU2 hw2 HO hf3 hb2 hvb hW4 hw3 hU3
 by_cases ew:u.what=2
 ·have ewb:(u.what==2)=true:=by simpa using ew
  have ew3:(u.what==3)=false:=by rw [ew];rfl
  have HE:Hid (zq2 t u=(u.kind==2&&(onB u.tox u.toy&&t.bd (ci u.tox u.toy) != 10))):=by show _=_;unfold zq2;rw [if_pos ew]
  clear ew
  go_wp2_with (first|(go_at_call 185;refine (qx1 _ _ _).mono ?_;rintro e w5 ⟨rfl,rfl⟩))
  rw [<- HW4.out,<- HVB.out]
  rw [<- HVB.out] at hV4
  clear k0 k1 k2 k3 k4 k5 k6 k7 k8 k9 k10
  obtain ⟨ob,hob⟩:∃ b,onB u.tox u.toy=b:=⟨_,rfl⟩
  rw [hob] at HE |-
  have HOB:=hid hob
  clear hob hs3
  by_cases ek:u.kind=2
  ·have ekb:(u.kind==2)=true:=by simpa using ek
   clear ek
   cases ob
   ·have HOK:Hid (zq2 t u=false):=by show _=_;rw [HE.out];simp
    clear HE
    have HS:∀ w',Fr [] W4 w'->(fun w':World=>((cl w' b2 0 u.id/\cl w' b2 1 u.owner/\cl w' b2 2 u.kind/\cl w' b2 3 u.x/\cl w' b2 4 u.y/\cl w' b2 5 u.life/\cl w' b2 6 u.load/\cl w' b2 7 u.what/\cl w' b2 8 u.tox/\cl w' b2 9 u.toy/\cl w' b2 10 u.target)/\(cl w' vb 0 ru.id/\cl w' vb 1 ru.owner/\cl w' vb 2 ru.kind/\cl w' vb 3 ru.x/\cl w' vb 4 ru.y/\cl w' vb 5 ru.life/\cl w' vb 6 ru.load/\cl w' vb 7 ru.what/\cl w' vb 8 ru.tox/\cl w' vb 9 ru.toy/\cl w' vb 10 ru.target)/\cl w' gb 147 t.next)/\Fr [] W4 w') w':=fun w' hf=>⟨⟨⟨j9 (hf.heap0 hU4),j9 (hf.heap0 hU4),j9 (hf.heap0 hU4),j9 (hf.heap0 hU4),j9 (hf.heap0 hU4),j9 (hf.heap0 hU4),j9 (hf.heap0 hU4),j9 (hf.heap0 hU4),j9 (hf.heap0 hU4),j9 (hf.heap0 hU4),j9 (hf.heap0 hU4)⟩,⟨j9 (hf.heap0 hV4),j9 (hf.heap0 hV4),j9 (hf.heap0 hV4),j9 (hf.heap0 hV4),j9 (hf.heap0 hV4),j9 (hf.heap0 hV4),j9 (hf.heap0 hV4),j9 (hf.heap0 hV4),j9 (hf.heap0 hV4),j9 (hf.heap0 hV4),j9 (hf.heap0 hV4)⟩,HNX.out _ (hw4.then0 hf)⟩,hf⟩
    have K0:=HS _ (Fr.refl [] W4).drew
    refine wp_region_held_drew (S:=fun w':World=>((cl w' b2 0 u.id/\cl w' b2 1 u.owner/\cl w' b2 2 u.kind/\cl w' b2 3 u.x/\cl w' b2 4 u.y/\cl w' b2 5 u.life/\cl w' b2 6 u.load/\cl w' b2 7 u.what/\cl w' b2 8 u.tox/\cl w' b2 9 u.toy/\cl w' b2 10 u.target)/\(cl w' vb 0 ru.id/\cl w' vb 1 ru.owner/\cl w' vb 2 ru.kind/\cl w' vb 3 ru.x/\cl w' vb 4 ru.y/\cl w' vb 5 ru.life/\cl w' vb 6 ru.load/\cl w' vb 7 ru.what/\cl w' vb 8 ru.tox/\cl w' vb 9 ru.toy/\cl w' vb 10 ru.target)/\cl w' gb 147 t.next)/\Fr [] W4 w') (by kernel_rfl) K0 (fun hH=>?_)
    refine (show wpAnyH Tryz.prog Region.Mode.any _ _ _ 20 (Array.replicate 20 false) _ _ from ?_)
    iterate 20 (refine tn 20 hH ?_;try simp only [Act.put,Z])
    refine wpAnyH_done (by kernel_rfl) ?_ _
    go_wp2_with fail
    go_ret
    exact ⟨false,rfl,⟨fun h=>(by cases h),fun h=>(by have:=(HQ.out.1 h).1;rw [HOK.out] at this;cases this)⟩,hw4.then0 hH.2⟩
   ·obtain ⟨p0,p1,p2,p3⟩:=qz3.1 HOB.out
    have hci:ci u.tox u.toy < 144:=zz0 HOB.out
    obtain ⟨bv,hbv⟩:∃ v,t.bd (ci u.tox u.toy)=v:=⟨_,rfl⟩
    have HB1:=(show Hid _ from HBD.out _ hci)
    rw [hbv] at HB1 HE
    rw [show 1+ci u.tox u.toy=1+u.toy.toNat*12+u.tox.toNat by unfold ci;omega] at HB1
    clear hci hbv HOB HBD
    by_cases e10:bv=10
    ·have e10b:(bv != 10)=false:=by simpa using e10
     have HOK:Hid (zq2 t u=false):=by show _=_;rw [HE.out,e10b];simp
     clear HE e10
     have HS:∀ w',Fr [] W4 w'->(fun w':World=>((cl w' b2 0 u.id/\cl w' b2 1 u.owner/\cl w' b2 2 u.kind/\cl w' b2 3 u.x/\cl w' b2 4 u.y/\cl w' b2 5 u.life/\cl w' b2 6 u.load/\cl w' b2 7 u.what/\cl w' b2 8 u.tox/\cl w' b2 9 u.toy/\cl w' b2 10 u.target)/\(cl w' vb 0 ru.id/\cl w' vb 1 ru.owner/\cl w' vb 2 ru.kind/\cl w' vb 3 ru.x/\cl w' vb 4 ru.y/\cl w' vb 5 ru.life/\cl w' vb 6 ru.load/\cl w' vb 7 ru.what/\cl w' vb 8 ru.tox/\cl w' vb 9 ru.toy/\cl w' vb 10 ru.target)/\cl w' gb 147 t.next/\w'.cell? ⟨gb,1+u.toy.toNat*12+u.tox.toNat,none⟩=some (ii bv))/\Fr [] W4 w') w':=fun w' hf=>⟨⟨⟨j9 (hf.heap0 hU4),j9 (hf.heap0 hU4),j9 (hf.heap0 hU4),j9 (hf.heap0 hU4),j9 (hf.heap0 hU4),j9 (hf.heap0 hU4),j9 (hf.heap0 hU4),j9 (hf.heap0 hU4),j9 (hf.heap0 hU4),j9 (hf.heap0 hU4),j9 (hf.heap0 hU4)⟩,⟨j9 (hf.heap0 hV4),j9 (hf.heap0 hV4),j9 (hf.heap0 hV4),j9 (hf.heap0 hV4),j9 (hf.heap0 hV4),j9 (hf.heap0 hV4),j9 (hf.heap0 hV4),j9 (hf.heap0 hV4),j9 (hf.heap0 hV4),j9 (hf.heap0 hV4),j9 (hf.heap0 hV4)⟩,HNX.out _ (hw4.then0 hf),HB1.out _ (hw4.then0 hf)⟩,hf⟩
     have K0:=HS _ (Fr.refl [] W4).drew
     refine wp_region_held_drew (S:=fun w':World=>((cl w' b2 0 u.id/\cl w' b2 1 u.owner/\cl w' b2 2 u.kind/\cl w' b2 3 u.x/\cl w' b2 4 u.y/\cl w' b2 5 u.life/\cl w' b2 6 u.load/\cl w' b2 7 u.what/\cl w' b2 8 u.tox/\cl w' b2 9 u.toy/\cl w' b2 10 u.target)/\(cl w' vb 0 ru.id/\cl w' vb 1 ru.owner/\cl w' vb 2 ru.kind/\cl w' vb 3 ru.x/\cl w' vb 4 ru.y/\cl w' vb 5 ru.life/\cl w' vb 6 ru.load/\cl w' vb 7 ru.what/\cl w' vb 8 ru.tox/\cl w' vb 9 ru.toy/\cl w' vb 10 ru.target)/\cl w' gb 147 t.next/\w'.cell? ⟨gb,1+u.toy.toNat*12+u.tox.toNat,none⟩=some (ii bv))/\Fr [] W4 w') (by kernel_rfl) K0 (fun hH=>?_)
     refine (show wpAnyH Tryz.prog Region.Mode.any _ _ _ 20 (Array.replicate 20 false) _ _ from ?_)
     iterate 20 (refine tn 20 hH ?_;try simp only [Act.put,Z])
     refine wpAnyH_done (by kernel_rfl) ?_ _
     go_wp2_with fail
     go_ret
     exact ⟨false,rfl,⟨fun h=>(by cases h),fun h=>(by have:=(HQ.out.1 h).1;rw [HOK.out] at this;cases this)⟩,hw4.then0 hH.2⟩
    ·have e10b:(bv != 10)=true:=by simpa using e10
     have HOK:Hid (zq2 t u=true):=by show _=_;rw [HE.out,e10b,ekb];rfl
     clear HE
     have HS:∀ w',Fr [] W4 w'->(fun w':World=>((cl w' b2 0 u.id/\cl w' b2 1 u.owner/\cl w' b2 2 u.kind/\cl w' b2 3 u.x/\cl w' b2 4 u.y/\cl w' b2 5 u.life/\cl w' b2 6 u.load/\cl w' b2 7 u.what/\cl w' b2 8 u.tox/\cl w' b2 9 u.toy/\cl w' b2 10 u.target)/\(cl w' vb 0 ru.id/\cl w' vb 1 ru.owner/\cl w' vb 2 ru.kind/\cl w' vb 3 ru.x/\cl w' vb 4 ru.y/\cl w' vb 5 ru.life/\cl w' vb 6 ru.load/\cl w' vb 7 ru.what/\cl w' vb 8 ru.tox/\cl w' vb 9 ru.toy/\cl w' vb 10 ru.target)/\cl w' gb 147 t.next/\w'.cell? ⟨gb,1+u.toy.toNat*12+u.tox.toNat,none⟩=some (ii bv))/\Fr [] W4 w') w':=fun w' hf=>⟨⟨⟨j9 (hf.heap0 hU4),j9 (hf.heap0 hU4),j9 (hf.heap0 hU4),j9 (hf.heap0 hU4),j9 (hf.heap0 hU4),j9 (hf.heap0 hU4),j9 (hf.heap0 hU4),j9 (hf.heap0 hU4),j9 (hf.heap0 hU4),j9 (hf.heap0 hU4),j9 (hf.heap0 hU4)⟩,⟨j9 (hf.heap0 hV4),j9 (hf.heap0 hV4),j9 (hf.heap0 hV4),j9 (hf.heap0 hV4),j9 (hf.heap0 hV4),j9 (hf.heap0 hV4),j9 (hf.heap0 hV4),j9 (hf.heap0 hV4),j9 (hf.heap0 hV4),j9 (hf.heap0 hV4),j9 (hf.heap0 hV4)⟩,HNX.out _ (hw4.then0 hf),HB1.out _ (hw4.then0 hf)⟩,hf⟩
     have K0:=HS _ (Fr.refl [] W4).drew
     refine wp_region_held_drew (S:=fun w':World=>((cl w' b2 0 u.id/\cl w' b2 1 u.owner/\cl w' b2 2 u.kind/\cl w' b2 3 u.x/\cl w' b2 4 u.y/\cl w' b2 5 u.life/\cl w' b2 6 u.load/\cl w' b2 7 u.what/\cl w' b2 8 u.tox/\cl w' b2 9 u.toy/\cl w' b2 10 u.target)/\(cl w' vb 0 ru.id/\cl w' vb 1 ru.owner/\cl w' vb 2 ru.kind/\cl w' vb 3 ru.x/\cl w' vb 4 ru.y/\cl w' vb 5 ru.life/\cl w' vb 6 ru.load/\cl w' vb 7 ru.what/\cl w' vb 8 ru.tox/\cl w' vb 9 ru.toy/\cl w' vb 10 ru.target)/\cl w' gb 147 t.next/\w'.cell? ⟨gb,1+u.toy.toNat*12+u.tox.toNat,none⟩=some (ii bv))/\Fr [] W4 w') (by kernel_rfl) K0 (fun hH=>?_)
     refine (show wpAnyH Tryz.prog Region.Mode.any _ _ _ 20 (Array.replicate 20 false) _ _ from ?_)
     iterate 20 (refine tn 20 hH ?_;try simp only [Act.put,Z])
     refine wpAnyH_done (by kernel_rfl) ?_ _
     go_wp2_with fail
     go_ret
     exact ⟨uB ru u,rfl,⟨fun h=>HQ.out.2 ⟨HOK.out,(jj3 _ _).1 h⟩,fun h=>(jj3 _ _).2 (HQ.out.1 h).2⟩,hw4.then0 hH.2⟩
  ·have ekb:(u.kind==2)=false:=by simpa using ek
   have HOK:Hid (zq2 t u=false):=by show _=_;rw [HE.out,ekb];rfl
   clear HE ek
   have HS:∀ w',Fr [] W4 w'->(fun w':World=>((cl w' b2 0 u.id/\cl w' b2 1 u.owner/\cl w' b2 2 u.kind/\cl w' b2 3 u.x/\cl w' b2 4 u.y/\cl w' b2 5 u.life/\cl w' b2 6 u.load/\cl w' b2 7 u.what/\cl w' b2 8 u.tox/\cl w' b2 9 u.toy/\cl w' b2 10 u.target)/\(cl w' vb 0 ru.id/\cl w' vb 1 ru.owner/\cl w' vb 2 ru.kind/\cl w' vb 3 ru.x/\cl w' vb 4 ru.y/\cl w' vb 5 ru.life/\cl w' vb 6 ru.load/\cl w' vb 7 ru.what/\cl w' vb 8 ru.tox/\cl w' vb 9 ru.toy/\cl w' vb 10 ru.target)/\cl w' gb 147 t.next)/\Fr [] W4 w') w':=fun w' hf=>⟨⟨⟨j9 (hf.heap0 hU4),j9 (hf.heap0 hU4),j9 (hf.heap0 hU4),j9 (hf.heap0 hU4),j9 (hf.heap0 hU4),j9 (hf.heap0 hU4),j9 (hf.heap0 hU4),j9 (hf.heap0 hU4),j9 (hf.heap0 hU4),j9 (hf.heap0 hU4),j9 (hf.heap0 hU4)⟩,⟨j9 (hf.heap0 hV4),j9 (hf.heap0 hV4),j9 (hf.heap0 hV4),j9 (hf.heap0 hV4),j9 (hf.heap0 hV4),j9 (hf.heap0 hV4),j9 (hf.heap0 hV4),j9 (hf.heap0 hV4),j9 (hf.heap0 hV4),j9 (hf.heap0 hV4),j9 (hf.heap0 hV4)⟩,HNX.out _ (hw4.then0 hf)⟩,hf⟩
   have K0:=HS _ (Fr.refl [] W4).drew
   refine wp_region_held_drew (S:=fun w':World=>((cl w' b2 0 u.id/\cl w' b2 1 u.owner/\cl w' b2 2 u.kind/\cl w' b2 3 u.x/\cl w' b2 4 u.y/\cl w' b2 5 u.life/\cl w' b2 6 u.load/\cl w' b2 7 u.what/\cl w' b2 8 u.tox/\cl w' b2 9 u.toy/\cl w' b2 10 u.target)/\(cl w' vb 0 ru.id/\cl w' vb 1 ru.owner/\cl w' vb 2 ru.kind/\cl w' vb 3 ru.x/\cl w' vb 4 ru.y/\cl w' vb 5 ru.life/\cl w' vb 6 ru.load/\cl w' vb 7 ru.what/\cl w' vb 8 ru.tox/\cl w' vb 9 ru.toy/\cl w' vb 10 ru.target)/\cl w' gb 147 t.next)/\Fr [] W4 w') (by kernel_rfl) K0 (fun hH=>?_)
   refine (show wpAnyH Tryz.prog Region.Mode.any _ _ _ 20 (Array.replicate 20 false) _ _ from ?_)
   iterate 20 (refine tn 20 hH ?_;try simp only [Act.put,Z])
   refine wpAnyH_done (by kernel_rfl) ?_ _
   go_wp2_with fail
   go_ret
   exact ⟨false,rfl,⟨fun h=>(by cases h),fun h=>(by have:=(HQ.out.1 h).1;rw [HOK.out] at this;cases this)⟩,hw4.then0 hH.2⟩
 ·have ewb:(u.what==2)=false:=by simpa using ew
  rw [<- HVB.out] at hV4
  by_cases e3:u.what=3
  ·have e3b:(u.what==3)=true:=by simpa using e3
   have HE:Hid (zq2 t u=if qz0 t.us u.target=none then u.kind==3&&(decide (1<=u.target)&&decide (u.target < t.next)) else tb):=by show _=_;unfold zq2;rw [if_neg ew,HTB.out];simp only [e3,true_and]
   clear ew e3
   go_wp2_with fail
   rw [<- HW4.out,<- HVB.out]
   refine Calls.mono (HF.out _ hw4) ?_
   rintro e w5 ⟨rfl,hf5⟩
   dsimp only
   have hw5:=hw4.then0 hf5
   have hU5:=hf5.heap0 hU4
   have hV5:=hf5.heap0 hV4
   clear hU4 hV4 hw4 hs3 k0 k1 k2 k3 k4 k5 k6 k7 k8 k9 k10 HVB HW4
   obtain ⟨W5,hW5⟩:∃ W,W=w5:=⟨_,rfl⟩
   rw [<- hW5] at hw5 hU5 hV5 |-
   clear hW5 hf5
   obtain ⟨po,hpo⟩:∃ p,qz0 t.us u.target=p:=⟨_,rfl⟩
   rw [hpo] at HE |-
   clear hpo
   rcases po with _|i
   ·have HE2:Hid (zq2 t u=(u.kind==3&&(decide (1<=u.target)&&decide (u.target < t.next)))):=by show _=_;rw [HE.out,if_pos rfl]
    have hidx:jq2 none = -1:=rfl
    rw [hidx]
    clear HE hidx
    have HS:∀ w',Fr [] W5 w'->(fun w':World=>((cl w' b2 0 u.id/\cl w' b2 1 u.owner/\cl w' b2 2 u.kind/\cl w' b2 3 u.x/\cl w' b2 4 u.y/\cl w' b2 5 u.life/\cl w' b2 6 u.load/\cl w' b2 7 u.what/\cl w' b2 8 u.tox/\cl w' b2 9 u.toy/\cl w' b2 10 u.target)/\(cl w' vb 0 ru.id/\cl w' vb 1 ru.owner/\cl w' vb 2 ru.kind/\cl w' vb 3 ru.x/\cl w' vb 4 ru.y/\cl w' vb 5 ru.life/\cl w' vb 6 ru.load/\cl w' vb 7 ru.what/\cl w' vb 8 ru.tox/\cl w' vb 9 ru.toy/\cl w' vb 10 ru.target)/\cl w' gb 147 t.next)/\Fr [] W5 w') w':=fun w' hf=>⟨⟨⟨j9 (hf.heap0 hU5),j9 (hf.heap0 hU5),j9 (hf.heap0 hU5),j9 (hf.heap0 hU5),j9 (hf.heap0 hU5),j9 (hf.heap0 hU5),j9 (hf.heap0 hU5),j9 (hf.heap0 hU5),j9 (hf.heap0 hU5),j9 (hf.heap0 hU5),j9 (hf.heap0 hU5)⟩,⟨j9 (hf.heap0 hV5),j9 (hf.heap0 hV5),j9 (hf.heap0 hV5),j9 (hf.heap0 hV5),j9 (hf.heap0 hV5),j9 (hf.heap0 hV5),j9 (hf.heap0 hV5),j9 (hf.heap0 hV5),j9 (hf.heap0 hV5),j9 (hf.heap0 hV5),j9 (hf.heap0 hV5)⟩,HNX.out _ (hw5.then0 hf)⟩,hf⟩
    obtain ⟨u0,u1,u2,u3,u4,u5,u6,u7,u8,u9,u10⟩:W5.cell? ⟨b2,0,none⟩=some (ii u.id)/\W5.cell? ⟨b2,1,none⟩=some (ii u.owner)/\W5.cell? ⟨b2,2,none⟩=some (ii u.kind)/\W5.cell? ⟨b2,3,none⟩=some (ii u.x)/\W5.cell? ⟨b2,4,none⟩=some (ii u.y)/\W5.cell? ⟨b2,5,none⟩=some (ii u.life)/\W5.cell? ⟨b2,6,none⟩=some (ii u.load)/\W5.cell? ⟨b2,7,none⟩=some (ii u.what)/\W5.cell? ⟨b2,8,none⟩=some (ii u.tox)/\W5.cell? ⟨b2,9,none⟩=some (ii u.toy)/\W5.cell? ⟨b2,10,none⟩=some (ii u.target):=⟨j9 hU5,j9 hU5,j9 hU5,j9 hU5,j9 hU5,j9 hU5,j9 hU5,j9 hU5,j9 hU5,j9 hU5,j9 hU5⟩
    obtain ⟨v0,v1,v2,v3,v4,v5,v6,v7,v8,v9,v10⟩:W5.cell? ⟨vb,0,none⟩=some (ii ru.id)/\W5.cell? ⟨vb,1,none⟩=some (ii ru.owner)/\W5.cell? ⟨vb,2,none⟩=some (ii ru.kind)/\W5.cell? ⟨vb,3,none⟩=some (ii ru.x)/\W5.cell? ⟨vb,4,none⟩=some (ii ru.y)/\W5.cell? ⟨vb,5,none⟩=some (ii ru.life)/\W5.cell? ⟨vb,6,none⟩=some (ii ru.load)/\W5.cell? ⟨vb,7,none⟩=some (ii ru.what)/\W5.cell? ⟨vb,8,none⟩=some (ii ru.tox)/\W5.cell? ⟨vb,9,none⟩=some (ii ru.toy)/\W5.cell? ⟨vb,10,none⟩=some (ii ru.target):=⟨j9 hV5,j9 hV5,j9 hV5,j9 hV5,j9 hV5,j9 hV5,j9 hV5,j9 hV5,j9 hV5,j9 hV5,j9 hV5⟩
    have K0:=HS _ (Fr.refl [] W5).drew
    go_wp2_with fail
    clear u0 u1 u2 u3 u4 u5 u6 u7 u8 u9 u10 v0 v1 v2 v3 v4 v5 v6 v7 v8 v9 v10
    by_cases ek:u.kind=3
    ·have ekb:(u.kind==3)=true:=by simpa using ek
     clear ek
     by_cases t1:1<=u.target
     ·skip
      by_cases t2:u.target < t.next
      ·have HOK:Hid (zq2 t u=true):=by show _=_;rw [HE2.out,ekb];simp [t1,t2]
       clear HE2
       refine wp_region_held_drew (S:=fun w':World=>((cl w' b2 0 u.id/\cl w' b2 1 u.owner/\cl w' b2 2 u.kind/\cl w' b2 3 u.x/\cl w' b2 4 u.y/\cl w' b2 5 u.life/\cl w' b2 6 u.load/\cl w' b2 7 u.what/\cl w' b2 8 u.tox/\cl w' b2 9 u.toy/\cl w' b2 10 u.target)/\(cl w' vb 0 ru.id/\cl w' vb 1 ru.owner/\cl w' vb 2 ru.kind/\cl w' vb 3 ru.x/\cl w' vb 4 ru.y/\cl w' vb 5 ru.life/\cl w' vb 6 ru.load/\cl w' vb 7 ru.what/\cl w' vb 8 ru.tox/\cl w' vb 9 ru.toy/\cl w' vb 10 ru.target)/\cl w' gb 147 t.next)/\Fr [] W5 w') (by kernel_rfl) K0 (fun hH=>?_)
       refine (show wpAnyH Tryz.prog Region.Mode.any _ _ _ 18 (Array.replicate 18 false) _ _ from ?_)
       iterate 18 (refine tn 18 hH ?_;try simp only [Act.put,Z])
       refine wpAnyH_done (by kernel_rfl) ?_ _
       go_wp2_with fail
       go_ret
       exact ⟨uB ru u,rfl,⟨fun h=>HQ.out.2 ⟨HOK.out,(jj3 _ _).1 h⟩,fun h=>(jj3 _ _).2 (HQ.out.1 h).2⟩,hw5.then0 hH.2⟩
      ·have HOK:Hid (zq2 t u=false):=by show _=_;rw [HE2.out,ekb];simp [t2]
       clear HE2
       refine wp_region_held_drew (S:=fun w':World=>((cl w' b2 0 u.id/\cl w' b2 1 u.owner/\cl w' b2 2 u.kind/\cl w' b2 3 u.x/\cl w' b2 4 u.y/\cl w' b2 5 u.life/\cl w' b2 6 u.load/\cl w' b2 7 u.what/\cl w' b2 8 u.tox/\cl w' b2 9 u.toy/\cl w' b2 10 u.target)/\(cl w' vb 0 ru.id/\cl w' vb 1 ru.owner/\cl w' vb 2 ru.kind/\cl w' vb 3 ru.x/\cl w' vb 4 ru.y/\cl w' vb 5 ru.life/\cl w' vb 6 ru.load/\cl w' vb 7 ru.what/\cl w' vb 8 ru.tox/\cl w' vb 9 ru.toy/\cl w' vb 10 ru.target)/\cl w' gb 147 t.next)/\Fr [] W5 w') (by kernel_rfl) K0 (fun hH=>?_)
       refine (show wpAnyH Tryz.prog Region.Mode.any _ _ _ 18 (Array.replicate 18 false) _ _ from ?_)
       iterate 18 (refine tn 18 hH ?_;try simp only [Act.put,Z])
       refine wpAnyH_done (by kernel_rfl) ?_ _
       go_wp2_with fail
       go_ret
       exact ⟨false,rfl,⟨fun h=>(by cases h),fun h=>(by have:=(HQ.out.1 h).1;rw [HOK.out] at this;cases this)⟩,hw5.then0 hH.2⟩
     ·have HOK:Hid (zq2 t u=false):=by show _=_;rw [HE2.out,ekb];simp [t1]
      clear HE2
      refine wp_region_held_drew (S:=fun w':World=>((cl w' b2 0 u.id/\cl w' b2 1 u.owner/\cl w' b2 2 u.kind/\cl w' b2 3 u.x/\cl w' b2 4 u.y/\cl w' b2 5 u.life/\cl w' b2 6 u.load/\cl w' b2 7 u.what/\cl w' b2 8 u.tox/\cl w' b2 9 u.toy/\cl w' b2 10 u.target)/\(cl w' vb 0 ru.id/\cl w' vb 1 ru.owner/\cl w' vb 2 ru.kind/\cl w' vb 3 ru.x/\cl w' vb 4 ru.y/\cl w' vb 5 ru.life/\cl w' vb 6 ru.load/\cl w' vb 7 ru.what/\cl w' vb 8 ru.tox/\cl w' vb 9 ru.toy/\cl w' vb 10 ru.target)/\cl w' gb 147 t.next)/\Fr [] W5 w') (by kernel_rfl) K0 (fun hH=>?_)
      refine (show wpAnyH Tryz.prog Region.Mode.any _ _ _ 18 (Array.replicate 18 false) _ _ from ?_)
      iterate 18 (refine tn 18 hH ?_;try simp only [Act.put,Z])
      refine wpAnyH_done (by kernel_rfl) ?_ _
      go_wp2_with fail
      go_ret
      exact ⟨false,rfl,⟨fun h=>(by cases h),fun h=>(by have:=(HQ.out.1 h).1;rw [HOK.out] at this;cases this)⟩,hw5.then0 hH.2⟩
    ·have ekb:(u.kind==3)=false:=by simpa using ek
     have HOK:Hid (zq2 t u=false):=by show _=_;rw [HE2.out,ekb];rfl
     clear HE2 ek
     refine wp_region_held_drew (S:=fun w':World=>((cl w' b2 0 u.id/\cl w' b2 1 u.owner/\cl w' b2 2 u.kind/\cl w' b2 3 u.x/\cl w' b2 4 u.y/\cl w' b2 5 u.life/\cl w' b2 6 u.load/\cl w' b2 7 u.what/\cl w' b2 8 u.tox/\cl w' b2 9 u.toy/\cl w' b2 10 u.target)/\(cl w' vb 0 ru.id/\cl w' vb 1 ru.owner/\cl w' vb 2 ru.kind/\cl w' vb 3 ru.x/\cl w' vb 4 ru.y/\cl w' vb 5 ru.life/\cl w' vb 6 ru.load/\cl w' vb 7 ru.what/\cl w' vb 8 ru.tox/\cl w' vb 9 ru.toy/\cl w' vb 10 ru.target)/\cl w' gb 147 t.next)/\Fr [] W5 w') (by kernel_rfl) K0 (fun hH=>?_)
     refine (show wpAnyH Tryz.prog Region.Mode.any _ _ _ 18 (Array.replicate 18 false) _ _ from ?_)
     iterate 18 (refine tn 18 hH ?_;try simp only [Act.put,Z])
     refine wpAnyH_done (by kernel_rfl) ?_ _
     go_wp2_with fail
     go_ret
     exact ⟨false,rfl,⟨fun h=>(by cases h),fun h=>(by have:=(HQ.out.1 h).1;rw [HOK.out] at this;cases this)⟩,hw5.then0 hH.2⟩
   ·have HOK:Hid (zq2 t u=tb):=by show _=_;rw [HE.out,if_neg (by simp)]
    have hidx:jq2 (some i)=(i:Int):=rfl
    rw [hidx]
    clear HE hidx
    have hi0:¬ (i:Int) < 0:=by omega
    obtain ⟨u0,u1,u2,u3,u4,u5,u6,u7,u8,u9,u10⟩:W5.cell? ⟨b2,0,none⟩=some (ii u.id)/\W5.cell? ⟨b2,1,none⟩=some (ii u.owner)/\W5.cell? ⟨b2,2,none⟩=some (ii u.kind)/\W5.cell? ⟨b2,3,none⟩=some (ii u.x)/\W5.cell? ⟨b2,4,none⟩=some (ii u.y)/\W5.cell? ⟨b2,5,none⟩=some (ii u.life)/\W5.cell? ⟨b2,6,none⟩=some (ii u.load)/\W5.cell? ⟨b2,7,none⟩=some (ii u.what)/\W5.cell? ⟨b2,8,none⟩=some (ii u.tox)/\W5.cell? ⟨b2,9,none⟩=some (ii u.toy)/\W5.cell? ⟨b2,10,none⟩=some (ii u.target):=⟨j9 hU5,j9 hU5,j9 hU5,j9 hU5,j9 hU5,j9 hU5,j9 hU5,j9 hU5,j9 hU5,j9 hU5,j9 hU5⟩
    obtain ⟨v0,v1,v2,v3,v4,v5,v6,v7,v8,v9,v10⟩:W5.cell? ⟨vb,0,none⟩=some (ii ru.id)/\W5.cell? ⟨vb,1,none⟩=some (ii ru.owner)/\W5.cell? ⟨vb,2,none⟩=some (ii ru.kind)/\W5.cell? ⟨vb,3,none⟩=some (ii ru.x)/\W5.cell? ⟨vb,4,none⟩=some (ii ru.y)/\W5.cell? ⟨vb,5,none⟩=some (ii ru.life)/\W5.cell? ⟨vb,6,none⟩=some (ii ru.load)/\W5.cell? ⟨vb,7,none⟩=some (ii ru.what)/\W5.cell? ⟨vb,8,none⟩=some (ii ru.tox)/\W5.cell? ⟨vb,9,none⟩=some (ii ru.toy)/\W5.cell? ⟨vb,10,none⟩=some (ii ru.target):=⟨j9 hV5,j9 hV5,j9 hV5,j9 hV5,j9 hV5,j9 hV5,j9 hV5,j9 hV5,j9 hV5,j9 hV5,j9 hV5⟩
    cases tb
    ·skip
     go_wp2_with fail
     go_ret
     exact ⟨false,rfl,⟨fun h=>(by cases h),fun h=>(by have:=(HQ.out.1 h).1;rw [HOK.out] at this;cases this)⟩,hw5⟩
    ·skip
     go_wp2_with fail
     go_ret
     exact ⟨uB ru u,rfl,⟨fun h=>HQ.out.2 ⟨HOK.out,(jj3 _ _).1 h⟩,fun h=>(jj3 _ _).2 (HQ.out.1 h).2⟩,hw5⟩
  ·have e3b:(u.what==3)=false:=by simpa using e3
   have HOK:Hid (zq2 t u=tb):=by show _=_;unfold zq2;rw [if_neg ew,if_neg (fun h=>e3 h.1),HTB.out]
   clear ew e3
   skip
   cases tb
   ·skip
    go_wp2_with fail
    go_ret
    rw [<- HW4.out]
    exact ⟨false,rfl,⟨fun h=>(by cases h),fun h=>(by have:=(HQ.out.1 h).1;rw [HOK.out] at this;cases this)⟩,hw4⟩
   ·skip
    go_wp2_with fail
    go_ret
    rw [<- HW4.out]
    exact ⟨uB ru u,rfl,⟨fun h=>HQ.out.2 ⟨HOK.out,(jj3 _ _).1 h⟩,fun h=>(jj3 _ _).2 (HQ.out.1 h).2⟩,hw4⟩
structure RRP (l:List UInt8) (w:World) (e:Ending) (w':World):Prop where
 h:(PL l/\∃ gb pb cap,e=.returned (.tuple #[.pointer (some ⟨gb,0,none⟩),.int .i64 0])/\RG w' gb pb cap (qj5 l)/\w.heap.size<=gb/\w.heap.size<=pb)\/(¬ PL l/\e=.returned (.tuple #[.pointer none,.int .i64 2]))
 fr:Fr [] w w'
theorem qqz4 {t:T}{k:Nat}(h:t.us.length<=k):t.upto k=t:=by
 unfold T.upto
 rw [List.take_of_length_le h]
theorem dx0 {t:T}(hok:GOk t)(hos:OS t):∀ u∈t.us,zk2 t u:=fun u hu=>⟨(hok.all u hu).od,hos u hu⟩
theorem qjx7 {l:List UInt8}(h:PL l):∀ u∈(qj5 l).us,zk2 (qj5 l) u:=dx0 h.ok h.os
theorem kq1 (l:List UInt8)(t:T)(w:World)(hl:l.length<=2000000)(ht:t=qj5 l) :
  Calls Tryz.prog 104 #[.string ⟨l.toArray⟩] w fun e w'=>RRP l w e w':=by
 have HNX:Hid (∀ {w0:World} {sb A n:Nat} {t':T} {pv:Value} {Q:Prop} {w:World} (most:Int),(0<=most/\most<=1000000000)->((rdN l false (n+1)).2=true\/most < nth l false n->¬ PL l)->RQ w0 l sb A n t' pv Q w->sb≠A->Calls Tryz.prog 138 #[.pointer (some ⟨sb,0,none⟩),.int .i64 most] w fun e w'=>∃ v,e=.returned (.int .i64 v)/\RV w0 l sb A n t' pv Q most v w'):=fun most hm hR h hn=>h.num hn hl most hm hR
 have HT:=(show Hid _ from ht)
 have HLL:Hid (l.length<=2000000):=hl
 obtain ⟨W2,hW2⟩:∃ W,W=(w.alloc (.cells #[.string ⟨l.toArray⟩,.int .i64 0,.bool false] 232)).alloc (.cells Tryz.zeroCells131 131):=⟨_,rfl⟩
 have hw2:Fr [] w W2:=by rw [hW2];exact ((Fr.refl _ _).alloc _).alloc _
 have hS2:W2.heap[w.heap.size]?=some (.cells #[.string ⟨l.toArray⟩,.int .i64 0,.bool false] 232):=by rw [hW2,qz8]
 have hG2:W2.heap[w.heap.size+1]?=some (.cells Tryz.zeroCells131 131):=by rw [hW2,qz4]
 have j0:RQ W2 l w.heap.size (w.heap.size+1) 0 (hdT t 0 0) (.slice none 0 0) True W2:=⟨⟨0,false,hdT t 0 0,⟨hS2,Nat.zero_le _⟩,Or.inl ⟨rfl,rfl⟩,by rw [hG2,qxq3,qqj6 (qj5 []) t],fun _=>⟨rfl,trivial⟩⟩,Fr.refl _ _⟩
 have HWW:=(show Hid _ from hW2)
 have hsz:W2.heap.size=w.heap.size+2:=by rw [hW2];simp
 clear ht hW2 hS2 hG2
 go_enter Tryz.func104,Tryz.ntmps104
 go_wp2_with (refine zq4 rfl 131 rfl Tryz.zeroCells131 dz8 ?_)
 rw [<- HWW.out]
 obtain ⟨sb,hsb⟩:∃ b,b=w.heap.size:=⟨_,rfl⟩
 obtain ⟨A,hA⟩:∃ b,b=w.heap.size+1:=⟨_,rfl⟩
 rw [<- hA,<- hsb] at j0 |-
 have hne:sb≠A:=by omega
 have HSZ:Hid (sb=w.heap.size/\A=w.heap.size+1/\W2.heap.size=w.heap.size+2):=⟨hsb,hA,hsz⟩
 clear hsb hA hsz HWW
 refine Calls.mono (HNX.out 1000000000 (by omega) (yk2 (by omega)) j0 hne) ?_
 rintro e w3 ⟨v0,rfl,r1⟩
 dsimp only
 obtain ⟨c0,cc0⟩:=r1.cell (k:=0) (by omega)
 have z0:=r1.fz 0
 clear j0
 go_wp2_with fail
 have j2:=r1.put hne 0 (by omega) (t2:=hdT t 1 0) (by rw [<- hd_0,HT.out];rfl) True (fun _ _=>trivial)
 obtain ⟨w4,hw4⟩:∃ W,W=w3.setCell ⟨A,0,none⟩ (.int .i64 v0):=⟨_,rfl⟩
 rw [<- hw4] at j2 |-
 clear hw4 cc0 z0 r1
 refine Calls.mono (HNX.out 1000000000 (by omega) (yk2 (by omega)) j2 hne) ?_
 rintro e w5 ⟨wn,rfl,r2⟩
 dsimp only
 have j3:=r2.keep
 clear j2 r2
 go_wp2_with fail
 have J3:=(show Hid _ from j3.drew)
 clear j3
 go_region_with (first|(go_at_call 138;refine Calls.mono (HNX.out 1000000000 (by omega) (yk2 (by omega)) J3.out hne) ?_;rintro e w6 ⟨v2,rfl,r3⟩;obtain ⟨c2,cc2⟩:=r3.cell (k:=145) (by omega);have z2:=r3.fz 145))
 have j4:=r3.put hne 145 (by omega) (t2:=hdT t 2 0) (by rw [<- hd_1,HT.out];rfl) (wn=nth l false 1) (fun h _=>h.2.1)
 obtain ⟨w7,hw7⟩:∃ W,W=w6.setCell ⟨A,145,none⟩ (.int .i64 v2):=⟨_,rfl⟩
 rw [<- hw7] at j4
 go_wp2_with fail
 rw [<- hw7]
 clear hw7 cc2 z2 r3
 have J4:=(show Hid _ from j4.drew)
 clear j4
 go_region_with (first|(go_at_call 138;refine Calls.mono (HNX.out 1000000000 (by omega) (yk2 (by omega)) J4.out hne) ?_;rintro e w8 ⟨v3,rfl,r4⟩;obtain ⟨c3,cc3⟩:=r4.cell (k:=146) (by omega);have z3:=r4.fz 146))
 have j5:=r4.put hne 146 (by omega) (t2:=hdT t 3 0) (by rw [<- hd_2,HT.out];rfl) (wn=nth l false 1) (fun h _=>h)
 obtain ⟨w9,hw9⟩:∃ W,W=w8.setCell ⟨A,146,none⟩ (.int .i64 v3):=⟨_,rfl⟩
 rw [<- hw9] at j5
 go_wp2_with fail
 rw [<- hw9]
 clear hw9 cc3 z3 r4
 refine Calls.mono (HNX.out 1000000000 (by omega) (yk2 (by omega)) j5 hne) ?_
 rintro e w10 ⟨v4,rfl,r5⟩
 dsimp only
 obtain ⟨c4,cc4⟩:=r5.cell (k:=147) (by omega)
 have z4:=r5.fz 147
 clear j5
 go_wp2_with fail
 have j6:=r5.put hne 147 (by omega) (t2:=hdT t 4 0) (by rw [<- hd_3,HT.out];rfl) (wn=nth l false 1/\∀ j,j < 0*12->nth l false (5+j)<=10) (fun h _=>⟨h,fun j hj=>by omega⟩)
 obtain ⟨w11,hw11⟩:∃ W,W=w10.setCell ⟨A,147,none⟩ (.int .i64 v4):=⟨_,rfl⟩
 rw [<- hw11] at j6 |-
 clear hw11 cc4 z4 r5
 go_loopw [7] (fun i wr=>∃ y:Nat,y<=12/\i=.int .i64 y/\RQ W2 l sb A (5+y*12) (hdT t 4 (y*12)) (.slice none 0 0) (wn=nth l false 1/\∀ j,j < y*12->nth l false (5+j)<=10) wr) (fun i _=>12 - (intOf i).toNat)
 case atStart=>exact ⟨0,by omega,rfl,j6⟩
 case round =>
  obtain ⟨y,hy12,rfl,hJ⟩:=hrel
  clear j6
  by_cases hyt:y < 12
  ·have hyti:(y:Int) < 12:=by omega
   have HJ:=(show Hid _ from hJ)
   clear hJ
   go_wp2_with fail
   obtain ⟨wo,hwo⟩:∃ x,x=wr:=⟨_,rfl⟩
   rw [<- hwo] at HJ |-
   clear hwo
   go_loopw [8] (fun i wr=>∃ x:Nat,x<=12/\i=.int .i64 x/\RQ W2 l sb A (5+(y*12+x)) (hdT t 4 (y*12+x)) (.slice none 0 0) (wn=nth l false 1/\∀ j,j < y*12+x->nth l false (5+j)<=10) wr) (fun i _=>12 - (intOf i).toNat)
   case atStart=>exact ⟨0,by omega,rfl,HJ.out⟩
   case round =>
    obtain ⟨x,hx12,rfl,hJx⟩:=hrel
    by_cases hxt:x < 12
    ·have hxti:(x:Int) < 12:=by omega
     have HJD:=(show Hid _ from hJx.drew)
     clear hJx
     go_wp2_with fail
     go_region_with (first|(go_at_call 138;refine Calls.mono (HNX.out 10 (by omega) (dw4 (by omega)) HJD.out hne) ?_;rintro e w3 ⟨vb,rfl,rb⟩;obtain ⟨cb,ccb⟩:=rb.cell (k:=1+(y*12+x)) (by omega);have zb:=rb.fz (1+(y*12+x));rw [<- Nat.add_assoc] at ccb zb))
     all_goals
      go_wp2_with fail
      go_roundw
      case rel =>
       refine ⟨x+1,hxt,by go_num,?_⟩
       rw [show 1+y*12+x=1+(y*12+x) by omega]
       exact rb.put hne (1+(y*12+x)) (by omega) (t2:=hdT t 4 (y*12+(x+1))) (by
        rw [<- Nat.add_assoc (y*12) x 1,<- hd_b t (y*12+x) (by omega),HT.out,jx4 l (by omega)]) _ (fun h hm=>⟨h.1,fun j hj=>by
         by_cases hj2:j < y*12+x
         ·exact h.2 j hj2
         ·have:j=y*12+x:=by omega
          subst this
          exact hm⟩)
      case measure=>simp [intOf];omega
    ·have hxti:¬ (x:Int) < 12:=by omega
     have hx2:x=12:=by omega
     have HX:=(show Hid _ from hx2)
     have HJX:=(show Hid _ from hJx)
     clear hx2 hJx
     go_wp2_with fail
     go_roundw
     case rel=>exact ⟨y+1,hyt,by go_num,by have h:=HJX.out;rw [HX.out,show y*12+12=(y+1)*12 by omega] at h;exact h⟩
     case measure=>simp [intOf];omega
  ·have hyti:¬ (y:Int) < 12:=by omega
   have hy2:y=12:=by omega
   subst hy2
   have HJ:=(show Hid _ from hJ)
   clear hJ
   go_wp2_with fail
   refine Calls.mono (HNX.out 100 (by omega) qzz5 HJ.out hne) ?_
   rintro e w12 ⟨N,rfl,rn⟩
   dsimp only
   clear HNX HJ
   obtain ⟨⟨kk,bad,tt,hsc,hrp,hg12,hbad⟩,hNb,hf12⟩:=rn
   cases bad
   rotate_left
   ·have HNO:Hid (¬ PL l):=by
     rcases hrp with ⟨e,_⟩|⟨_,h⟩
     ·cases e
     ·exact h
    have cb:w12.cell? ⟨sb,2,none⟩=some (.bool true):=j9 hsc.all
    have hw12:Fr [] w w12:=hw2.trans hf12 (by simp;have:=HSZ.out;omega)
    clear hsc hrp hg12 hbad hf12
    go_wp2_with fail
    go_loopw [12] (fun i wr=>i=.int .i64 0/\w12=wr) (fun _ _=>0)
    case atStart=>exact ⟨rfl,rfl⟩
    case round =>
     obtain ⟨rfl,rfl⟩:=hrel
     by_cases hN:0 < N
     ·go_wp2_with fail
      go_ret2
      exact ⟨Or.inr ⟨HNO.out,rfl⟩,hw12⟩
     ·go_wp2_with fail
      go_ret2
      exact ⟨Or.inr ⟨HNO.out,rfl⟩,hw12⟩
   ·obtain ⟨htt,⟨hwn,hbd⟩,hN1,hN2⟩:=hbad rfl
    have hrd:rdN l false 150=(l.drop kk,false):=by
     rcases hrp with ⟨_,h⟩|⟨e,_⟩
     ·exact h
     ·cases e
    have hlen:(t.us.length:Int)=N:=by rw [HT.out,jy7 l,hN1]
    subst hlen
    have h100:t.us.length<=100:=by omega
    subst htt
    have jl:RLP W2 l t sb A 0 (.slice none 0 0) w12:=⟨⟨kk,hsc,hrd⟩,by rw [hg12,qjz7],⟨rfl,Or.inl ⟨rfl,rfl⟩⟩,fun _=>rfl,fun j _ hj=>by omega,hf12⟩
    have HBD:Hid (∀ j,j < 144->t.bd j<=10):=fun j hj=>by rw [HT.out,jx4 l hj];exact hbd j hj
    have HWN:=(show Hid _ from hwn)
    have HA2:Hid (A < W2.heap.size):=by have:=HSZ.out;show _ < _;omega
    have HS2:Hid (sb < W2.heap.size):=by have:=HSZ.out;show _ < _;omega
    obtain ⟨inf,hi0,hz0,hz1,hz2⟩:=info_parts jv6
    clear hsc hrp hg12 hbad hf12 hbd hwn hN1 hN2 hrd hNb
    go_wp2_with fail
    go_loopw [10,11,12] (fun la ba i wr=>∃ (k:Nat) (pv:Value),k<=t.us.length/\la=.int .i64 (zq8 t.us k)/\ba=.int .i64 ((t.us.take k).countP (fun u=>u.kind==1):Nat)/\i=.int .i64 k/\RLP W2 l t sb A k pv wr) (fun _ _ i _=>t.us.length - (intOf i).toNat)
    case atStart=>exact ⟨0,_,by omega,rfl,rfl,rfl,jl⟩
    case round =>
     obtain ⟨k,pv,hk,rfl,rfl,rfl,hL⟩:=hrel
     clear jl
     obtain ⟨kk,hsc,hrd⟩:=hL.ex
     have cb:wr.cell? ⟨sb,2,none⟩=some (.bool false):=j9 hsc.all
     have HLP:=(show Hid _ from hL)
     obtain ⟨la,hla⟩:∃ x,zq8 t.us k=x:=⟨_,rfl⟩
     obtain ⟨bc,hbc⟩:∃ x,(t.us.take k).countP (fun u=>u.kind==1)=x:=⟨_,rfl⟩
     have hbl:bc<=1000:=by
      have:=List.countP_le_length (p:=fun u:U=>u.kind==1) (l:=t.us.take k)
      rw [List.length_take] at this
      omega
     rw [hla,hbc]
     by_cases hlt:k < t.us.length
     ·have hlti:(k:Int) < (t.us.length:Int):=by omega
      obtain ⟨v,hv⟩:∃ v,t.us[k]?=some v:=⟨t.us[k],List.getElem?_eq_getElem hlt⟩
      have HUN:Hid (Calls Tryz.prog 139 #[.pointer (some ⟨sb,0,none⟩)] wr fun e w'=>∃ (u:U) (k':Nat) (bad':Bool),e=.returned u.val/\SC w' sb l k' bad'/\RP (¬ PL l) l (150+11*k+11) k' bad'/\(bad'=false->u=zx2 (fun f=>nth l false (150+11*k+f)))/\(∀ x∈u.nums,0<=x/\x<=1000000000)/\Fr [sb] wr w'):=kq4 (¬ PL l) sb l (150+11*k) kk false wr hsc (Or.inl ⟨rfl,hrd⟩) HLL.out (qzz6 (by rw [<- HT.out];exact hlt))
      have HSTD:Hid (∀ u w',Fr [sb] wr w'->Calls Tryz.prog 140 #[.pointer (some ⟨A,0,none⟩),u.val,.int .i64 la] w' fun e w''=>BP (qx6 (t.upto k) u la) w' e w''):=fun u w' hf=>hL.stands hk h100 HA2.out HS2.out hne u la w' hf
      have HBAS:Hid (∀ o w',Fr [sb] wr w'->Calls Tryz.prog 137 #[.pointer (some ⟨A,0,none⟩),.int .i64 o] w' fun e w''=>e=.returned (.int .i64 (jq2 (qw0 (t.us.take k) o)))/\Fr [] w' w''):=fun o w' hf=>hL.base hk h100 HA2.out HS2.out hne o w' hf
      have HPS:Hid (PL l->qx6 (t.upto k) v la/\(v.kind=1->qw0 (t.us.take k) v.owner=none)):=fun hp=>by
       have hv':=hv
       rw [HT.out] at hv'
       have:=fw2 hp hv'
       rw [<- HT.out,hla] at this
       exact this
      have HVU:Hid (zx2 (fun f=>nth l false (150+11*k+f))=v):=by
       have hv':=hv
       rw [HT.out] at hv'
       exact yk0 l hv'
      have HUU:=(show Hid _ from hv)
      have HLA:=(show Hid _ from hla)
      have HBC:=(show Hid _ from hbc)
      have hend0:Fr [] w wr:=hw2.trans hL.fr (by simp;have:=HSZ.out;omega)
      clear hL hsc hrd hv hla hbc
      go_wp2_with fail
      refine Calls.mono HUN.out ?_
      rintro e w13 ⟨u,k',bad',rfl,hsc',hrp',hu',_,hf13⟩
      dsimp only
      have hscl:=hsc'.le
      have hs13:=hsc'.all
      have HU':=(show Hid _ from hu')
      have HRP:=(show Hid _ from hrp')
      clear hsc' hu' hrp' cb
      go_wp2_with fail
      have hfa:Fr [sb] wr (w13.alloc (.cells u.arr 85)):=hf13.alloc _
      refine Calls.mono (HSTD.out u _ hfa) ?_
      rintro e w14 ⟨ok,rfl,hok,hf14⟩
      dsimp only
      have HOK:=(show Hid _ from hok)
      have hfw14:Fr [sb] wr w14:=hfa.then0 hf14
      have hsw14:=hf14.heap0 (((Fr.refl [] w13).alloc (.cells u.arr 85)).heap0 hs13)
      have hU14:=hf14.heap0 (qq6 w13 (.cells u.arr 85))
      have cb:w14.cell? ⟨sb,2,none⟩=some (.bool bad'):=j9 hsw14
      obtain ⟨ub,hub⟩:∃ b,b=w13.heap.size:=⟨_,rfl⟩
      rw [<- hub] at hU14 |-
      obtain ⟨u0,u1,u2,u3,u4,u5,u6,u7,u8,u9,u10⟩:w14.cell? ⟨ub,0,none⟩=some (ii u.id)/\w14.cell? ⟨ub,1,none⟩=some (ii u.owner)/\w14.cell? ⟨ub,2,none⟩=some (ii u.kind)/\w14.cell? ⟨ub,3,none⟩=some (ii u.x)/\w14.cell? ⟨ub,4,none⟩=some (ii u.y)/\w14.cell? ⟨ub,5,none⟩=some (ii u.life)/\w14.cell? ⟨ub,6,none⟩=some (ii u.load)/\w14.cell? ⟨ub,7,none⟩=some (ii u.what)/\w14.cell? ⟨ub,8,none⟩=some (ii u.tox)/\w14.cell? ⟨ub,9,none⟩=some (ii u.toy)/\w14.cell? ⟨ub,10,none⟩=some (ii u.target):=⟨j9 hU14,j9 hU14,j9 hU14,j9 hU14,j9 hU14,j9 hU14,j9 hU14,j9 hU14,j9 hU14,j9 hU14,j9 hU14⟩
      have hend:Fr [] w w14:=hend0.trans hfw14 (by simp;have:=HSZ.out;omega)
      clear hok hf14 hf13 hfa hs13 hub
      cases bad'
      rotate_left
      ·have HNO:Hid (¬ PL l):=by
        rcases HRP.out with ⟨e,_⟩|⟨_,h⟩
        ·cases e
        ·exact h
       go_wp2_with fail
       go_ret2
       exact ⟨Or.inr ⟨HNO.out,rfl⟩,hend⟩
      have huv:u=v:=(HU'.out rfl).trans HVU.out
      subst huv
      cases ok
      ·have HNO:Hid (¬ PL l):=fun hp=>by have:=HOK.out.2 (HPS.out hp).1;cases this
       go_wp2_with fail
       go_ret2
       exact ⟨Or.inr ⟨HNO.out,rfl⟩,hend⟩
      have HRD:Hid (rdN l false (150+11*k+11)=(l.drop k',false)):=by
       rcases HRP.out with ⟨_,h⟩|⟨e,_⟩
       ·exact h
       ·cases e
      have HSA:Hid (qx6 (t.upto k) u la):=HOK.out.1 rfl
      have HTS:Hid (t.us.take (k+1)=t.us.take k ++ [u]):=by
       show _=_
       obtain ⟨hl',h2⟩:=List.getElem?_eq_some_iff.1 HUU.out
       rw [List.take_succ_eq_append_getElem hl',h2]
      clear HUN HSTD HVU HU' HRP HOK
      by_cases hkd:(u.kind==1)=true
      ·have HCNT:Hid ((t.us.take (k+1)).countP (fun u=>u.kind==1)=bc+1):=by
        show _=_
        rw [HTS.out,List.countP_append,HBC.out]
        simp [hkd]
       have HKD:Hid (u.kind=1):=by show _=_;simpa using hkd
       go_wp2_with fail
       refine Calls.mono (HBAS.out u.owner _ hfw14) ?_
       rintro e w15 ⟨rfl,hf15⟩
       dsimp only
       have hfw15:Fr [sb] wr w15:=hfw14.then0 hf15
       have hsw15:=hf15.heap0 hsw14
       have hU15:=hf15.heap0 hU14
       have hend2:=hend.then0 hf15
       clear u0 u1 u2 u3 u4 u5 u6 u7 u8 u9 u10
       obtain ⟨u0,u1,u2,u3,u4,u5,u6,u7,u8,u9,u10⟩:w15.cell? ⟨ub,0,none⟩=some (ii u.id)/\w15.cell? ⟨ub,1,none⟩=some (ii u.owner)/\w15.cell? ⟨ub,2,none⟩=some (ii u.kind)/\w15.cell? ⟨ub,3,none⟩=some (ii u.x)/\w15.cell? ⟨ub,4,none⟩=some (ii u.y)/\w15.cell? ⟨ub,5,none⟩=some (ii u.life)/\w15.cell? ⟨ub,6,none⟩=some (ii u.load)/\w15.cell? ⟨ub,7,none⟩=some (ii u.what)/\w15.cell? ⟨ub,8,none⟩=some (ii u.tox)/\w15.cell? ⟨ub,9,none⟩=some (ii u.toy)/\w15.cell? ⟨ub,10,none⟩=some (ii u.target):=⟨j9 hU15,j9 hU15,j9 hU15,j9 hU15,j9 hU15,j9 hU15,j9 hU15,j9 hU15,j9 hU15,j9 hU15,j9 hU15⟩
       obtain ⟨bo,hbo⟩:∃ x,qw0 (t.us.take k) u.owner=x:=⟨_,rfl⟩
       rw [hbo]
       have HBO:=(show Hid _ from hbo)
       clear hbo hsw14 hU14 hf15 HBAS cb
       rcases bo with _|i
       ·have hidx:jq2 none = -1:=rfl
        rw [hidx]
        have HST2:Hid (qx6 (t.upto k) u (zq8 t.us k)/\(u.kind=1->qw0 (t.us.take k) u.owner=none)):=⟨by rw [HLA.out];exact HSA.out,fun _=>HBO.out⟩
        clear hidx HPS HSA
        have HSC:=(show Hid _ from (⟨hsw15,hscl⟩:SC w15 sb l k' false))
        have HFW:Hid (Fr [sb] wr w15):=hfw15
        have hcW:=HLP.out.cell HFW.out (by simp;exact fun e=>hne e.symm) (j:=148) (by omega)
        have hcW2:w15.cell? ⟨A,148,none⟩=some pv:=hcW
        have hAW:A < w15.heap.size:=qq1 hcW2
        have hzW:w15.frozen? ⟨A,148,none⟩=false:=qq0 (HFW.out.heap HLP.out.g (by simp;exact fun e=>hne e.symm))
        have HO2:Hid ((w15.drew.alloc (.cells u.arr 85)).ownsRow W2.heap.size 85 11 pv k ((t.us.take k).flatMap U.cells)):=qq7 HLP.out.own ((HFW.out.drew).alloc _) (fun b hb e=>(HLP.out.off HA2.out HS2.out).2 (by simp at e;subst e;simp [hb]))
        clear hcW
        go_wp2_with fail
        go_region_law (first
         | (refine qy5 rfl (.tmp 114) (.tmp 116) 82 rfl W2.heap.size 85 inf zeroU.val 11 88 Tryz.underlying82 hi0 hz0 hz1 hz2 rfl (by decide) pv k ((t.us.take k).flatMap U.cells) (by simp [Act.eval]) HO2.out ⟨w15.heap.size,0,none⟩ 1 1 u.cells (by simp [Act.eval]) rfl (vk4 u w15.drew) (by simp [Value.oneCell']) (by unfold maxLen;omega) (by omega) (by have:=(HFW.out.size);have:=HLP.out.fr.size;simp;omega) ?_;intro v' w4 hown' hgrow hat;obtain ⟨g',cap',rfl⟩:=qx0 hown' (by omega);obtain ⟨hc4,hz4⟩:=HLP.out.grown ((HFW.out.drew).alloc _) hgrow HA2.out HS2.out hne))
        all_goals
         go_wp2_with fail
         go_roundw
         case rel =>
          have hX:Fr [sb] wr (w15.drew.alloc (.cells u.arr 85)):=(HFW.out.drew).alloc _
          have hscX:SC (w15.drew.alloc (.cells u.arr 85)) sb l k' false:=SC.fr HSC.out (((Fr.refl [] w15).drew).alloc _) (by simp)
          refine ⟨k+1,_,hlt,?_,?_,by go_num,RLP.push HLP.out hX hscX HRD.out hgrow hown' HUU.out HST2.out HA2.out HS2.out hne⟩
          ·rw [jx9 hlt,(List.getElem?_eq_some_iff.1 HUU.out).2]
          ·rw [HCNT.out];go_num
         case measure=>simp [intOf];omega
       ·have hidx:jq2 (some i)=(i:Int):=rfl
        rw [hidx]
        have hi0':0<=(i:Int):=by omega
        have HNO:Hid (¬ PL l):=fun hp=>by have:=(HPS.out hp).2 HKD.out;rw [HBO.out] at this;cases this
        go_wp2_with fail
        go_ret2
        exact ⟨Or.inr ⟨HNO.out,rfl⟩,hend2⟩
      ·simp only [Bool.not_eq_true] at hkd
       have HCNT:Hid ((t.us.take (k+1)).countP (fun u=>u.kind==1)=bc):=by
        show _=_
        rw [HTS.out,List.countP_append,HBC.out]
        simp [hkd]
       have HST2:Hid (qx6 (t.upto k) u (zq8 t.us k)/\(u.kind=1->qw0 (t.us.take k) u.owner=none)):=⟨by rw [HLA.out];exact HSA.out,fun e=>by rw [e] at hkd;cases hkd⟩
       clear HPS HSA HBAS
       have HSC:=(show Hid _ from (⟨hsw14,hscl⟩:SC w14 sb l k' false))
       have HFW:Hid (Fr [sb] wr w14):=hfw14
       have hcW:=HLP.out.cell HFW.out (by simp;exact fun e=>hne e.symm) (j:=148) (by omega)
       have hcW2:w14.cell? ⟨A,148,none⟩=some pv:=hcW
       have hAW:A < w14.heap.size:=qq1 hcW2
       have hzW:w14.frozen? ⟨A,148,none⟩=false:=qq0 (HFW.out.heap HLP.out.g (by simp;exact fun e=>hne e.symm))
       have HO2:Hid ((w14.drew.alloc (.cells u.arr 85)).ownsRow W2.heap.size 85 11 pv k ((t.us.take k).flatMap U.cells)):=qq7 HLP.out.own ((HFW.out.drew).alloc _) (fun b hb e=>(HLP.out.off HA2.out HS2.out).2 (by simp at e;subst e;simp [hb]))
       clear hcW
       go_wp2_with fail
       go_region_law (first
        | (refine qy5 rfl (.tmp 114) (.tmp 116) 82 rfl W2.heap.size 85 inf zeroU.val 11 88 Tryz.underlying82 hi0 hz0 hz1 hz2 rfl (by decide) pv k ((t.us.take k).flatMap U.cells) (by simp [Act.eval]) HO2.out ⟨w14.heap.size,0,none⟩ 1 1 u.cells (by simp [Act.eval]) rfl (vk4 u w14.drew) (by simp [Value.oneCell']) (by unfold maxLen;omega) (by omega) (by have:=(HFW.out.size);have:=HLP.out.fr.size;simp;omega) ?_;intro v' w4 hown' hgrow hat;obtain ⟨g',cap',rfl⟩:=qx0 hown' (by omega);obtain ⟨hc4,hz4⟩:=HLP.out.grown ((HFW.out.drew).alloc _) hgrow HA2.out HS2.out hne))
       all_goals
        go_wp2_with fail
        go_roundw
        case rel =>
         have hX:Fr [sb] wr (w14.drew.alloc (.cells u.arr 85)):=(HFW.out.drew).alloc _
         have hscX:SC (w14.drew.alloc (.cells u.arr 85)) sb l k' false:=SC.fr HSC.out (((Fr.refl [] w14).drew).alloc _) (by simp)
         refine ⟨k+1,_,hlt,?_,?_,by go_num,RLP.push HLP.out hX hscX HRD.out hgrow hown' HUU.out HST2.out HA2.out HS2.out hne⟩
         ·rw [jx9 hlt,(List.getElem?_eq_some_iff.1 HUU.out).2]
         ·rw [HCNT.out]
        case measure=>simp [intOf];omega
     ·have hlti:¬ (k:Int) < (t.us.length:Int):=by omega
      have hke:k=t.us.length:=by omega
      have cat:wr.cell? ⟨sb,1,none⟩=some (.int .i64 kk):=j9 hsc.all
      have hend:Fr [] w wr:=hw2.trans hL.fr (by simp;have:=HSZ.out;omega)
      have HPN:Hid (PL l->¬ kk < l.length):=fun hp=>by
       have h1:=hp.ne
       rw [<- HT.out,<- hke,hrd] at h1
       have h2:(l.drop kk).length=0:=by rw [(Prod.mk.inj h1).1];rfl
       rw [List.length_drop] at h2
       omega
      have HPB:Hid (PL l->0 < bc):=fun hp=>by
       have:=dw3 hp
       rw [<- HT.out] at this
       rw [hke,List.take_length] at hbc
       omega
      have hszl:(⟨l.toArray⟩:ByteArray).size=l.length:=by simp [ByteArray.size]
      by_cases hat:(kk:Int) < (l.length:Int)
      ·have HNO:Hid (¬ PL l):=fun hp=>HPN.out hp (by omega)
       clear hL hsc hrd hla hbc hke
       go_wp2_with fail
       go_ret2
       exact ⟨Or.inr ⟨HNO.out,rfl⟩,hend⟩
      by_cases hb0:bc=0
      ·have HNO:Hid (¬ PL l):=fun hp=>by have:=HPB.out hp;omega
       subst hb0
       clear hL hsc hrd hla hbc hke
       go_wp2_with fail
       go_ret2
       exact ⟨Or.inr ⟨HNO.out,rfl⟩,hend⟩
      have hb0b:((bc:Int)==0)=false:=by simp;omega
      have HPK:Hid (0 < t.us.countP (fun u=>u.kind==1)):=by
       show 0 < _
       rw [hke,List.take_length] at hbc
       omega
      have hk0:0 < t.us.length:=Nat.lt_of_lt_of_le HPK.out List.countP_le_length
      obtain ⟨pb,cap,hpv,hpb,hrg⟩:=hL.rg hk h100 (by omega) HA2.out HS2.out hne
      rw [qqz4 (by omega)] at hrg
      have HRG:=(show Hid _ from hrg)
      obtain ⟨⟨hri,hid⟩,hkds,hgood⟩:=qqj4 (t:=t) (by rw [HT.out];exact jy6 l (by rw [<- HT.out];exact h100)) HBD.out (fun j v hv=>hL.st j v (by have:=(List.getElem?_eq_some_iff.1 hv).1;omega) hv) HPK.out
      have HWIN:Hid (qy3 t.us=zk4 t.us):=vw9 (kj1 HPK.out (fun u hu=>by
       obtain ⟨i,hi⟩:=List.getElem?_of_mem hu
       have a3:=(hL.st i u (by have:=(List.getElem?_eq_some_iff.1 hi).1;omega) hi).1.2.2.1
       have a0:=((jy6 l (by rw [<- HT.out];exact h100)).us u (by rw [<- HT.out];exact hu)).1
       omega))
      have HRI:=(show Hid _ from hri)
      have HID:=(show Hid _ from hid)
      have HKDS:=(show Hid _ from hkds)
      have HGOOD:=(show Hid _ from hgood)
      have HNE:Hid (rdN l false (150+11*t.us.length)=([],false)):=by
       show _=_
       rw [<- hke,hrd,List.drop_of_length_le (by omega)]
      have hWC:=fun w' (hf:Fr [] wr w')=>zz6 A pb cap t.us w' (hrg w' hf.of0).gv
      have HWC:=(show Hid _ from hWC)
      have HPB2:Hid (w.heap.size<=pb):=by have:=HSZ.out;show _<=_;omega
      clear hL hsc hrd hla hbc hri hid hkds hgood hrg hWC HLP
      go_wp2_with fail
      refine Calls.mono (HWC.out _ (Fr.refl _ _)) ?_
      rintro e w16 ⟨rfl,hf16⟩
      dsimp only
      obtain ⟨rw0,hrw⟩:∃ x,qy3 t.us=x:=⟨_,rfl⟩
      rw [hrw] at HWIN |-
      have HRW:=(show Hid _ from hrw)
      have hend16:=hend.then0 hf16
      clear hrw
      by_cases hwe:wn=rw0
      rotate_left
      ·have hwb:(wn != rw0)=true:=by simpa using hwe
       have HNO:Hid (¬ PL l):=fun hp=>by
        have h1:=hp.win
        rw [<- HT.out,<- HWIN.out,<- HWN.out] at h1
        exact hwe h1
       go_wp2_with fail
       go_ret2
       exact ⟨Or.inr ⟨HNO.out,rfl⟩,hend16⟩
      subst hwe
      have HPL:Hid ((∀ u∈t.us,zk2 t u)->PL l):=fun h=>by
       have hg:=HGOOD.out h
       have h3:nth l false 149<=100:=by rw [jw1,<- HT.out];exact h100
       refine ⟨h3,?_,?_,?_,?_⟩
       ·rw [<- HWN.out,HWIN.out,HT.out]
       ·rw [<- HT.out];exact HNE.out
       ·rw [<- HT.out];exact hg.1
       ·rw [<- HT.out];exact hg.2
      have hpr16:=HRG.out w16 hf16.of0
      have HR16:=(show Hid _ from hpr16)
      have HORD:Hid (∀ u∈t.us,∀ w',Fr [] w16 w'->Calls Tryz.prog 141 #[.pointer (some ⟨A,0,none⟩),u.val] w' fun e w''=>BP (zk2 t u) w' e w''):=fun u hu w' hf=>by
       rw [<- propext (kw1 HRI.out HID.out)]
       exact vq2 A pb cap t u w' (hpr16.fr0 hf) (HKDS.out u hu)
      have HPO:Hid (PL l->∀ u∈t.us,zk2 t u):=fun hp=>by rw [HT.out];exact qjx7 hp
      obtain ⟨OR,hOR⟩:∃ P:U->Prop,P=zk2 t:=⟨_,rfl⟩
      rw [<- hOR] at HORD HPL HPO
      clear hOR
      have HPP:Hid (Ppl w16 pb t.us):=hpr16.row.ppl
      have hc16:=hpr16.c148
      have hAl:=hpr16.lt
      clear hpr16 HRG HWC HGOOD
      go_wp2_with fail
      clear hke hpv hb0 hb0b hat cat cb hszl hlti hbl HPN HPB HPK HWIN HRW HNE HID HRI HKDS hk0 hk hlt hpb hf16 hend
      go_loopw [15] (fun i wr=>∃ k:Nat,k<=t.us.length/\i=.int .i64 k/\Hid (∀ j v,j < k->t.us[j]?=some v->OR v)/\Fr [] w16 wr) (fun i _=>t.us.length - (intOf i).toNat)
      case atStart=>exact ⟨0,by omega,rfl,(show Hid _ from fun j _ hj=>by omega),Fr.refl _ _⟩
      case round =>
       obtain ⟨q,hq,rfl,HI,hfq⟩:=hrel
       have hcq:=(hfq.cell _ _ hAl (by simp)).trans hc16
       by_cases hqt:q < t.us.length
       ·have hqti:(q:Int) < (t.us.length:Int):=by omega
        obtain ⟨u,hu⟩:∃ u,t.us[q]?=some u:=⟨t.us[q],List.getElem?_eq_getElem hqt⟩
        obtain ⟨c0,c1,c2,c3,c4,c5,c6,c7,c8,c9,c10⟩:=(Ppl.fr HPP.out hfq (by simp)).at hu
        have HOU:=(show Hid _ from HORD.out u (List.mem_of_getElem? hu))
        have HUQ:=(show Hid _ from hu)
        clear hu
        go_wp2_with fail
        clear c0 c1 c2 c3 c4 c5 c6 c7 c8 c9 c10
        refine Calls.mono (HOU.out _ hfq) ?_
        rintro e w17 ⟨b,rfl,hbb,hf17⟩
        dsimp only
        have HBB:=(show Hid _ from hbb)
        clear hbb
        have hw17:=hfq.then0 hf17
        cases b
        ·have HNO:Hid (¬ PL l):=fun hp=>by
          have:=HBB.out.2 (HPO.out hp u (List.mem_of_getElem? HUQ.out))
          cases this
         clear HBB
         go_wp2_with fail
         go_ret2
         exact ⟨Or.inr ⟨HNO.out,rfl⟩,hend16.then0 hw17⟩
        ·have HOT:Hid (OR u):=HBB.out.1 rfl
         clear HBB
         go_wp2_with fail
         go_roundw
         case rel=>exact ⟨q+1,hqt,by go_num,(show Hid _ from fun j v hj hv=>by
          by_cases hjq:j < q
          ·exact HI.out j v hjq hv
          ·have:j=q:=by omega
           subst this
           rw [HUQ.out] at hv
           cases hv
           exact HOT.out),hw17⟩
         case measure=>simp [intOf];omega
       ·have hqti:¬ (q:Int) < (t.us.length:Int):=by omega
        have HALL:Hid (∀ u∈t.us,OR u):=fun u hu=>by
         obtain ⟨j,hj⟩:=List.getElem?_of_mem hu
         exact HI.out j u (by have:=(List.getElem?_eq_some_iff.1 hj).1;omega) hj
        clear HI
        go_wp2_with fail
        go_ret2
        exact ⟨Or.inl ⟨HPL.out HALL.out,A,pb,cap,rfl,by rw [<- HT.out];exact HR16.out.fr0 hfq,by have:=HSZ.out;omega,HPB2.out⟩,hend16.then0 hfq⟩
theorem ky8 (l:List UInt8)(w:World)(hl:l.length<=2000000) :
  Calls Tryz.prog 104 #[.string ⟨l.toArray⟩] w fun e w'=>((PL l/\∃ gb pb cap,e=.returned (.tuple #[.pointer (some ⟨gb,0,none⟩),.int .i64 0])/\RG w' gb pb cap (qj5 l)/\w.heap.size<=gb/\w.heap.size<=pb)\/(¬ PL l/\e=.returned (.tuple #[.pointer none,.int .i64 2])))/\Fr [] w w' :=
 (kq1 l _ w hl rfl).mono fun _ _ h=>⟨h.h,h.fr⟩
end Go.Proofs.YtapabahhfanmmaaGreatDoor
