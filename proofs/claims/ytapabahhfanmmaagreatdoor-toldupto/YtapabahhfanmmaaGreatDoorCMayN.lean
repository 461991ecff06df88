import Derived.Test.YtapabahhfanmmaaGreatDoorCMay6
namespace Go.Proofs.YtapabahhfanmmaaGreatDoor
open Go.RowKit
set_option maxRecDepth 100000
set_option maxHeartbeats 4000000
theorem yw2 {α:Type} [DecidableEq α]:∀ (a b:List α),a.Nodup->(∀ x∈a,x∈b)->a.length<=b.length
 | [],_,_,_=>Nat.zero_le _
 | x :: a,b,hn,hs=>by
  rw [List.nodup_cons] at hn
  have hx:=hs x (by simp)
  have ih:=yw2 a (b.erase x) hn.2 (fun y hy=>(List.mem_erase_of_ne (fun e=>hn.1 (by rw [<- e];exact hy))).2 (hs y (by simp [hy])))
  rw [List.length_erase_of_mem hx] at ih
  have:=List.length_pos_of_mem hx
  simp only [List.length_cons]
  omega
theorem MapF.count {w:World}{r:Nat}{f:Int×Int->Option Value}(h:MapF w r f)(cs:List (Int×Int))(hnd:cs.Nodup)(hf:∀ c,(f c).isSome=true↔c∈cs)(t e ty:TypeId)(ht:Tryz.prog.underlying t=some (.map 159 e)) :
  (Builtin.len_ #[t] ty #[.map (some r)]).run Tryz.prog w=.ok (.int .i64 cs.length) w:=by
 obtain ⟨l,es,clock,hb,he,hn,hk⟩:=h
 have h1:es.size=l.length:=by
  have:=congrArg List.length he
  simpa using this
 have hm:∀ c,c∈l.map (·.1)↔c∈cs:=fun c=>by
  rw [<- hf c,<- hk c,Option.isSome_map,List.find?_isSome]
  constructor
  ·intro hc
   obtain ⟨p,hp,rfl⟩:=List.mem_map.1 hc
   exact ⟨p,hp,by simp⟩
  ·rintro ⟨p,hp,hc⟩
   exact List.mem_map.2 ⟨p,hp,by simpa using hc⟩
 have h2:l.length=cs.length:=by
  have a1:=yw2 (l.map (·.1)) cs hn (fun x hx=>(hm x).1 hx)
  have a2:=yw2 cs (l.map (·.1)) hnd (fun x hx=>(hm x).2 hx)
  rw [List.length_map] at a1 a2
  omega
 rw [<- h2,<- h1]
 simp [Builtin.len_,run_underlying ht,MapKept.run_getObj_map hb,goInt,Result.andThen]
theorem qzx7 {α:Type} [DecidableEq α]:∀ l:List α,∃ cs:List α,cs.Nodup/\(∀ x,x∈cs↔x∈l)/\cs.length<=l.length/\(cs.length=l.length↔l.Nodup)
 | []=>⟨[],List.nodup_nil,fun _=>Iff.rfl,Nat.le_refl _,by simp⟩
 | x :: l=>by
  obtain ⟨cs,h1,h2,h3,h4⟩:=qzx7 l
  by_cases hx:x∈l
  ·refine ⟨cs,h1,fun y=>?_,by simp;omega,?_⟩
   ·rw [h2 y,List.mem_cons]
    exact ⟨Or.inr,fun h=>h.elim (fun e=>e ▸ hx) id⟩
   ·simp only [List.length_cons,List.nodup_cons]
    exact ⟨fun h=>by omega,fun h=>absurd hx h.1⟩
  ·refine ⟨x :: cs,List.nodup_cons.2 ⟨fun h=>hx ((h2 x).1 h),h1⟩,fun y=>?_,by simp;omega,?_⟩
   ·rw [List.mem_cons,List.mem_cons,h2 y]
   ·simp only [List.length_cons,List.nodup_cons]
    rw [<- h4]
    exact ⟨fun h=>⟨hx,by omega⟩,fun h=>by omega⟩
abbrev jz9 (us:List U):List Cl:=us.map (fun u=>(u.x,u.y))
theorem xx2:∀ (us:List U) (h0:Cl->Option Int) (c:Cl),(us.foldl (fun h u=>fun k=>if k=(u.x,u.y) then some u.id else h k) h0 c).isSome=true↔(c∈jz9 us\/(h0 c).isSome=true)
 | [],h0,c=>by simp
 | u :: us,h0,c=>by
  rw [List.foldl_cons,xx2 us _ c]
  show _↔(c∈(u.x,u.y) :: jz9 us\/_)
  rw [List.mem_cons]
  by_cases hc:c=(u.x,u.y)
  ·simp [hc]
  ·simp [hc]
theorem kk3 (us:List U)(c:Cl):(qx2 (qx8 us) c).isSome=true↔c∈jz9 us:=by
 show ((qx8 us c).map fun i=>ii i).isSome=true↔_
 rw [Option.isSome_map]
 unfold qx8
 rw [xx2]
 simp
theorem fq5 {us:List U}(hnd:(jz9 us).Nodup){u:U}(hu:u∈us):qx8 us (u.x,u.y)=some u.id:=by
 unfold qx8
 rw [jy4 us _ (u.x,u.y) u.id (fun v hv e=>by
  obtain ⟨i,hi⟩:=List.getElem?_of_mem hu
  obtain ⟨j,hj⟩:=List.getElem?_of_mem hv
  obtain ⟨hli,ei⟩:=List.getElem?_eq_some_iff.1 hi
  obtain ⟨hlj,ej⟩:=List.getElem?_eq_some_iff.1 hj
  have hpw:=List.pairwise_iff_getElem.1 hnd
  by_cases hij:i=j
  ·subst hij
   rw [<- ei,<- ej]
  ·exfalso
   rcases Nat.lt_or_gt_of_ne hij with h|h
   ·refine hpw i j (by simpa using hli) (by simpa using hlj) h ?_
    simp [ei,ej,e]
   ·refine hpw j i (by simpa using hlj) (by simpa using hli) h ?_
    simp [ei,ej,e]),if_pos]
 simp only [List.any_eq_true,decide_eq_true_eq]
 exact ⟨u,hu,rfl⟩
theorem dx4 {us:List U}(hnd:(jz9 us).Nodup){c:Cl}{i:Int}(h:qx8 us c=some i):∃ u∈us,u.id=i/\(u.x,u.y)=c:=by
 have hm:=(kk3 us c).1 (by show ((qx8 us c).map fun i=>ii i).isSome=true;rw [h];rfl)
 obtain ⟨u,hu,rfl⟩:=List.mem_map.1 hm
 have:=fq5 hnd hu
 rw [h] at this
 exact ⟨u,hu,(Option.some.inj this).symm,rfl⟩
theorem xz9 {bd:Nat->Int}{u:U}(h:yq0 bd u):u.kind=1\/u.kind=2\/u.kind=3:=by
 obtain ⟨_,h1,h2,_⟩:=h
 unfold vx9 at h2
 by_cases a:u.kind=1
 ·exact Or.inl a
 ·by_cases b:u.kind=2
  ·exact Or.inr (Or.inl b)
  ·by_cases c:u.kind=3
   ·exact Or.inr (Or.inr c)
   ·rw [if_neg a,if_neg b,if_neg c] at h2
    omega
theorem vy7 (gb pb cap:Nat)(t:T)(w:World)(h:GS w gb pb cap t)(hri:Rise t.us)(hid:∀ v∈t.us,1<=v.id/\v.id < t.next) :
  Calls Tryz.prog 175 #[.pointer (some ⟨gb,0,none⟩)] w fun e w'=>BP ((∀ u∈t.us,yq0 t.bd u/\zk2 t u)/\(jz9 t.us).Nodup) w e w':=by
 have hc:=h.gv.c
 have hlen:=h.len
 have hgl:=h.lt
 have HP:Hid (Ppl w pb t.us):=h.row.ppl
 have HB:Hid (∀ u∈t.us,∀ w',Fr [] w w'->Calls Tryz.prog 210 #[.pointer (some ⟨gb,0,none⟩),u.val] w' fun e w''=>BP (yq0 t.bd u) w' e w''):=fun u hu w' hf=>kj2 gb u t.bd w' (fun i hi=>by
   have:=(h.fr hf (by simp) (by simp)).cell (4+i) (by omega)
   rw [this]
   unfold qq9
   rw [if_neg (by omega),if_neg (by omega),if_neg (by omega),if_neg (by omega),if_pos (by omega),show 4+i - 4=i by omega]) (Nat.lt_of_lt_of_le hgl hf.size)
 have HO:Hid (∀ u∈t.us,yq0 t.bd u->∀ w',Fr [] w w'->Calls Tryz.prog 211 #[.pointer (some ⟨gb,0,none⟩),u.val] w' fun e w''=>BP (zk2 t u) w' e w''):=fun u hu hb w' hf=>fv9 gb pb cap t u w' (h.fr hf (by simp) (by simp)) hri hid (xz9 hb)
 have HCE:Hid (∀ w',Fr [] w w'->Calls Tryz.prog 149 #[.slice (some ⟨pb,0,none⟩) t.us.length cap] w' fun e w''=>∃ hb,e=.returned (.map (some hb))/\MapF w'' hb (qx2 (qx8 t.us))/\Fr [] w' w''):=fun w' hf=>by
  refine Calls.mono (yy2 pb cap t.us w' (h.row.fr hf (by simp)) h.len) ?_
  rintro e w1 ⟨hb,rfl,_,hm,hf1⟩
  exact ⟨hb,rfl,hm,hf1⟩
 obtain ⟨cs,hd1,hd2,hd3,hd4⟩:=qzx7 (jz9 t.us)
 have HN:Hid (∀ w' hb,MapF w' hb (qx2 (qx8 t.us))->∀ ty,(Builtin.len_ #[205] ty #[.map (some hb)]).run Tryz.prog w'=.ok (.int .i64 cs.length) w'):=fun w' hb hm ty=>hm.count cs hd1 (fun c=>(kk3 t.us c).trans (hd2 c).symm) 205 3 ty Tryz.underlying205
 rw [List.length_map] at hd4
 obtain ⟨B,hB⟩:∃ B:U->Prop,B=yq0 t.bd:=⟨_,rfl⟩
 obtain ⟨O,hO⟩:∃ O:U->Prop,O=zk2 t:=⟨_,rfl⟩
 have hQ:((∀ u∈t.us,yq0 t.bd u/\zk2 t u)/\(jz9 t.us).Nodup)=((∀ u∈t.us,B u/\O u)/\cs.length=t.us.length):=by rw [hB,hO,propext hd4]
 rw [hQ]
 obtain ⟨Q,hQQ⟩:∃ Q:Prop,Q=((∀ u∈t.us,B u/\O u)/\cs.length=t.us.length):=⟨_,rfl⟩
 rw [<- hQQ]
 have HB2:Hid (∀ u∈t.us,∀ w',Fr [] w w'->Calls Tryz.prog 210 #[.pointer (some ⟨gb,0,none⟩),u.val] w' fun e w''=>BP (B u) w' e w''):=by rw [hB];exact HB
 have HO2:Hid (∀ u∈t.us,B u->∀ w',Fr [] w w'->Calls Tryz.prog 211 #[.pointer (some ⟨gb,0,none⟩),u.val] w' fun e w''=>BP (O u) w' e w''):=by rw [hB,hO];exact HO
 obtain ⟨n,hn⟩:∃ n,n=cs.length:=⟨_,rfl⟩
 rw [<- hn] at HN hQQ
 have HQ:=(show Hid _ from hQQ)
 clear HB HO hB hO hQ hQQ
 obtain ⟨us,hus⟩:∃ us,us=t.us:=⟨_,rfl⟩
 rw [<- hus] at hc hlen HP HB2 HO2 HCE HN HQ
 have hcl:n<=us.length:=by rw [hn,hus];simpa using hd3
 clear h hri hid hus hd1 hd2 hd3 hd4 hn
 go_enter Tryz.func175,Tryz.ntmps175
 go_wp2_with fail
 go_loopw [10] (fun i wr=>∃ k:Nat,k<=us.length/\i=.int .i64 k/\Hid (∀ j v,j < k->us[j]?=some v->B v/\O v)/\Fr [] w wr) (fun i _=>us.length - (intOf i).toNat)
 case atStart=>exact ⟨0,by omega,rfl,(show Hid _ from fun j _ hj=>by omega),Fr.refl _ _⟩
 case round =>
  obtain ⟨k,hk,rfl,HI,hfr⟩:=hrel
  by_cases hlt:k < us.length
  ·have hlti:(k:Int) < (us.length:Int):=by omega
   obtain ⟨u,hu⟩:∃ u,us[k]?=some u:=⟨us[k],List.getElem?_eq_getElem hlt⟩
   obtain ⟨c0,c1,c2,c3,c4,c5,c6,c7,c8,c9,c10⟩:=(Ppl.fr HP.out hfr (by simp)).at hu
   have hb1:=HB2.out u (List.mem_of_getElem? hu)
   have ho1:=HO2.out u (List.mem_of_getElem? hu)
   have HB1:=(show Hid _ from hb1)
   have HO1:=(show Hid _ from ho1)
   have HU:=(show Hid _ from hu)
   clear hu hb1 ho1
   go_wp2_with fail
   refine Calls.mono (HB1.out _ (hfr.alloc _)) ?_
   rintro e w1 ⟨b,rfl,hbb,hf1⟩
   dsimp only
   have hw1:=(hfr.alloc (.cells u.arr 85)).then0 hf1
   cases b
   ·have HBB:=(show Hid _ from hbb)
    clear hbb
    go_wp2_with fail
    go_ret
    exact ⟨false,rfl,⟨fun h=>(by cases h),fun h=>(by rw [HQ.out] at h;exact HBB.out.2 (h.1 u (List.mem_of_getElem? HU.out)).1)⟩,hw1⟩
   ·have HBU:Hid (B u):=hbb.1 rfl
    have hU1:=hf1.heap0 (qq6 wr (.cells u.arr 85))
    obtain ⟨a0,a1,a2,a3,a4,a5,a6,a7,a8,a9,a10⟩:w1.cell? ⟨wr.heap.size,0,none⟩=some (ii u.id)/\w1.cell? ⟨wr.heap.size,1,none⟩=some (ii u.owner)/\w1.cell? ⟨wr.heap.size,2,none⟩=some (ii u.kind)/\w1.cell? ⟨wr.heap.size,3,none⟩=some (ii u.x)/\w1.cell? ⟨wr.heap.size,4,none⟩=some (ii u.y)/\w1.cell? ⟨wr.heap.size,5,none⟩=some (ii u.life)/\w1.cell? ⟨wr.heap.size,6,none⟩=some (ii u.load)/\w1.cell? ⟨wr.heap.size,7,none⟩=some (ii u.what)/\w1.cell? ⟨wr.heap.size,8,none⟩=some (ii u.tox)/\w1.cell? ⟨wr.heap.size,9,none⟩=some (ii u.toy)/\w1.cell? ⟨wr.heap.size,10,none⟩=some (ii u.target) :=
     ⟨j9 hU1,j9 hU1,j9 hU1,j9 hU1,j9 hU1,j9 hU1,j9 hU1,j9 hU1,j9 hU1,j9 hU1,j9 hU1⟩
    clear hU1 c0 c1 c2 c3 c4 c5 c6 c7 c8 c9 c10 hbb
    go_wp2_with fail
    refine Calls.mono (HO1.out HBU.out _ hw1) ?_
    rintro e w2 ⟨b,rfl,hbb,hf2⟩
    dsimp only
    have HBB:=(show Hid _ from hbb)
    clear hbb
    cases b
    ·go_wp2_with fail
     go_ret
     exact ⟨false,rfl,⟨fun h=>(by cases h),fun h=>(by rw [HQ.out] at h;exact HBB.out.2 (h.1 u (List.mem_of_getElem? HU.out)).2)⟩,hw1.then0 hf2⟩
    ·go_wp2_with fail
     go_roundw
     case rel=>exact ⟨k+1,hlt,by go_num,(show Hid _ from fun j v hj hv=>by
      by_cases hjk:j < k
      ·exact HI.out j v hjk hv
      ·have:j=k:=by omega
       subst this
       rw [HU.out] at hv
       cases hv
       exact ⟨HBU.out,HBB.out.1 rfl⟩),hw1.then0 hf2⟩
     case measure=>simp [intOf];omega
  ·have hlti:¬ (k:Int) < (us.length:Int):=by omega
   have hcr:=(hfr.cell _ _ hgl (by simp)).trans hc
   have hgr:gb < wr.heap.size:=Nat.lt_of_lt_of_le hgl hfr.size
   have HA:Hid (∀ u∈us,B u/\O u):=fun u hu=>by
    obtain ⟨j,hj⟩:=List.getElem?_of_mem hu
    exact HI.out j u (by have:=(List.getElem?_eq_some_iff.1 hj).1;omega) hj
   clear HB2 HO2 HP HI
   by_cases hnn:n=us.length
   ·have hni:(n:Int)=(us.length:Int):=by omega
    have HNN:=(show Hid _ from hnn)
    rw [hnn] at HN
    clear hnn hni
    go_wp2_with fail
    go_region_with (first|(go_at_call 149;refine Calls.mono (HCE.out _ ?_) ?_;exact hfr.drew;rintro e w1 ⟨hb,rfl,hm,hf1⟩;have hln:=HN.out w1 hb hm;have hc1:=((hfr.drew.then0 hf1).cell _ _ hgl (by simp)).trans hc))
    all_goals
     go_wp2_with fail
     go_ret
     exact ⟨true,rfl,⟨fun _=>by rw [HQ.out];exact ⟨HA.out,HNN.out⟩,fun _=>rfl⟩,hfr.drew.then0 hf1⟩
   ·have hni:¬ (n:Int)=(us.length:Int):=by omega
    have hnb:((n:Int)==(us.length:Int))=false:=by simpa using hni
    have HNN:=(show Hid _ from hnn)
    clear hnn
    go_wp2_with fail
    go_region_with (first|(go_at_call 149;refine Calls.mono (HCE.out _ ?_) ?_;exact hfr.drew;rintro e w1 ⟨hb,rfl,hm,hf1⟩;have hln:=HN.out w1 hb hm;have hc1:=((hfr.drew.then0 hf1).cell _ _ hgl (by simp)).trans hc))
    all_goals
     go_wp2_with fail
     go_ret
     exact ⟨false,rfl,⟨fun h=>(by cases h),fun h=>(by rw [HQ.out] at h;exact absurd h.2 HNN.out)⟩,hfr.drew.then0 hf1⟩
structure Bnd (t:T):Prop where
 len:t.us.length<=100
 nx:t.next<=1000000000
 st:(0<=t.s0/\t.s0<=1000000000)/\(0<=t.s1/\t.s1<=1000000000)
 bd:∀ i,i < 144->0<=t.bd i
 us:∀ u∈t.us,0<=u.owner/\0<=u.load
theorem zq4 {ops:Array Oper} {rest:List Oper} {o:Oper} {a:Act} {w:World} {Q:Exit->Act->World->Prop} (hg:o.guard=none) (t:TypeId) (ho:o.op=.build t #[]) (cells:Array Value)
  (hc:Tryz.prog.built t []=some cells) (h:wpList Tryz.prog ops Q rest (a.put o.dst (.agg cells)) w):wpList Tryz.prog ops Q (o :: rest) a w :=
 wpList_plain hg fun _ hK=>by
  have hc':Tryz.prog.built t ((#[]:Array (Nat×Operand)).map fun (i,x)=>(i,a.eval x)).toList=some cells:=by
   simp [hc]
  unfold Oper.wp execOp
  simp only [ho,Sem.run_bind,run_build w t _ cells hc',Result.andThen_ok]
  exact hK _ _ h
theorem jx9 {us:List U}{k:Nat}(h:k < us.length):zq8 us (k+1)=(us[k]'h).id:=by
 show (us[k]?.map U.id).getD 0=_
 rw [List.getElem?_eq_getElem h]
 rfl
theorem xw6 {us:List U}{nx:Int}(h:yw7 us nx):∀ (d i:Nat) (hj:i+d+1 < us.length),(us[i]'(by omega)).id < (us[i+d+1]'hj).id
 | 0,i,hj=>by
  have:=h.1 (i+1) _ (List.getElem?_eq_getElem hj)
  rw [jx9 (by omega)] at this
  exact this
 | d+1,i,hj=>by
  have h1:=xw6 h d i (by omega)
  have h2:=h.1 (i+d+1+1) _ (List.getElem?_eq_getElem (show i+d+1+1 < us.length by omega))
  rw [jx9 (by omega)] at h2
  exact Int.lt_trans h1 h2
theorem vx6 {us:List U}{nx:Int}(h:yw7 us nx):Rise us:=by
 show List.Pairwise _ us
 rw [List.pairwise_iff_getElem]
 intro i j hi hj hij
 obtain ⟨d,rfl⟩:∃ d,j=i+d+1:=⟨j - i - 1,by omega⟩
 exact xw6 h d i hj
theorem gk0 {us:List U}{nx:Int}(h:yw7 us nx):∀ v∈us,1<=v.id/\v.id < nx:=fun v hv=>by
 obtain ⟨i,hi⟩:=List.getElem?_of_mem hv
 obtain ⟨hl,rfl⟩:=List.getElem?_eq_some_iff.1 hi
 have h0:=h.1 0 _ (List.getElem?_eq_getElem (show 0 < us.length by omega))
 have hz:zq8 us 0=0:=rfl
 have hn:=h.2
 obtain ⟨m,hm⟩:∃ m,us.length=m+1:=⟨us.length - 1,by omega⟩
 rw [hm,jx9 (by omega)] at hn
 constructor
 ·rcases Nat.eq_zero_or_pos i with e|e
  ·subst e;omega
  ·obtain ⟨d,rfl⟩:∃ d,i=0+d+1:=⟨i - 1,by omega⟩
   have:=xw6 h d 0 hl
   omega
 ·rcases Nat.lt_or_ge i m with e|e
  ·obtain ⟨d,rfl⟩:∃ d,m=i+d+1:=⟨m - i - 1,by omega⟩
   have:=xw6 h d i (by omega)
   omega
  ·have:i=m:=by omega
   subst this
   exact hn
theorem qjz8 {us:List U}{nx:Int}(hri:Rise us)(hid:∀ v∈us,1<=v.id/\v.id < nx)(hn:1<=nx):yw7 us nx:=by
 refine ⟨fun k u hu=>qqx2 hri (fun v hv=>(hid v hv).1) hu,?_⟩
 rcases Nat.eq_zero_or_pos us.length with e|e
 ·rw [e];show (0:Int) < nx;omega
 ·obtain ⟨m,hm⟩:∃ m,us.length=m+1:=⟨us.length - 1,by omega⟩
  rw [hm,jx9 (by omega)]
  exact (hid _ (List.getElem_mem _)).2
theorem xw9 {k:Int}(h:k=1\/k=2\/k=3):vx9 k=qx9 k:=by
 unfold vx9 qx9
 rcases h with rfl|rfl|rfl <;> rfl
theorem xy1 {t:T}(hb:Bnd t):((∀ i,i < 144->t.bd i<=10)/\yw7 t.us t.next/\((∀ u∈t.us,yq0 t.bd u/\zk2 t u)/\(jz9 t.us).Nodup)/\(t.us.countP (qq4 0)<=1/\t.us.countP (qq4 1)<=1/\1<=t.us.countP (qq4 0)+t.us.countP (qq4 1)))↔(GOk t/\OS t):=by
 constructor
 ·rintro ⟨h1,h2,⟨h3,h4⟩,h5,h6,h7⟩
  have hri:=vx6 h2
  have hid:=gk0 h2
  refine ⟨?_,fun u hu=>(h3 u hu).2.2⟩
  show TOk { t with held:=qx8 t.us }
  refine ⟨hri,fun u hu=>?_,fun c i hc=>dx4 h4 hc,?_,hb.st,fun i hi=>⟨hb.bd i hi,h1 i hi⟩,hb.len,h5,h6,h7⟩
  ·obtain ⟨b1,b2,b3,b4,b5,b6⟩:=(h3 u hu).1
   have hk:=xz9 (h3 u hu).1
   have hu':=hb.us u hu
   have hlo:kk9 u.kind=if u.kind=2 then 5 else 0:=rfl
   refine ⟨b5,b6,fq5 h4 hu,by omega,hk,⟨b2,by rw [<- xw9 hk];exact b3⟩,?_,hid u hu,(h3 u hu).2.1⟩
   rw [hlo] at b4
   by_cases e:u.kind=2
   ·rw [if_pos e] at b4
    exact ⟨hu'.2,b4,fun _=>e⟩
   ·rw [if_neg e] at b4
    exact ⟨hu'.2,by omega,fun h=>by omega⟩
  ·refine ⟨?_,hb.nx⟩
   show 1<=t.next
   rcases Nat.eq_zero_or_pos t.us.length with e|e
   ·have:=h2.2
    rw [e] at this
    have hz:zq8 t.us 0=0:=rfl
    omega
   ·have:=hid _ (List.getElem_mem e)
    omega
 ·rintro ⟨h1,h2⟩
  have k:TOk { t with held:=qx8 t.us }:=h1
  have hri:Rise t.us:=k.rise
  have hid:∀ v∈t.us,1<=v.id/\v.id < t.next:=fun v hv=>(k.all v hv).id
  refine ⟨fun i hi=>(k.bd i hi).2,qjz8 hri hid k.nx.1,⟨fun u hu=>?_,?_⟩,k.b0,k.b1,k.bs⟩
  ·have q:=k.all u hu
   refine ⟨⟨by have:=q.ow;omega,q.lf.1,by rw [xw9 q.kd];exact q.lf.2,?_,q.on,q.gr⟩,q.od,h2 u hu⟩
   have hl:=q.ld
   show u.load<=if u.kind=2 then 5 else 0
   by_cases e:u.kind=2
   ·rw [if_pos e];exact hl.2.1
   ·rw [if_neg e]
    by_cases h0:0 < u.load
    ·exact absurd (hl.2.2 h0) e
    ·omega
  ·rw [List.Nodup,List.pairwise_map,List.pairwise_iff_getElem]
   intro i j hi hj hij e
   have e1:qx8 t.us _=_:=(k.all _ (List.getElem_mem hi)).hd
   have e2:qx8 t.us _=_:=(k.all _ (List.getElem_mem hj)).hd
   have e':((t.us[i]'hi).x,(t.us[i]'hi).y)=((t.us[j]'hj).x,(t.us[j]'hj).y):=e
   rw [e',e2] at e1
   have hr:(t.us[i]'hi).id < (t.us[j]'hj).id:=List.pairwise_iff_getElem.1 hri i j hi hj hij
   have:=Option.some.inj e1
   omega
theorem jw1 (l:List UInt8):(nth l false 149<=100)=((qj5 l).us.length<=100):=by
 have:=jy7 l
 apply propext
 omega
theorem jy6 (l:List UInt8)(h:(qj5 l).us.length<=100):Bnd (qj5 l):=by
 refine ⟨h,(jj0 l false 4).2,⟨jj0 l false 2,jj0 l false 3⟩,fun i hi=>?_,fun u hu=>?_⟩
 ·rw [jx4 l hi];exact (jj0 l false _).1
 ·obtain ⟨i,hi⟩:=List.getElem?_of_mem hu
  have:=yk0 l hi
  rw [<- this]
  exact ⟨(jj0 l false _).1,(jj0 l false _).1⟩
theorem fv1 (gb pb cap:Nat)(t:T)(w:World)(h:GS w gb pb cap t)(hb:Bnd t) :
  Calls Tryz.prog 133 #[.pointer (some ⟨gb,0,none⟩)] w fun e w'=>BP (GOk t/\OS t) w e w':=by
 rw [<- propext (xy1 hb)]
 obtain ⟨P1,h1⟩:∃ P:Prop,P=(∀ i,i < 144->t.bd i<=10):=⟨_,rfl⟩
 obtain ⟨P2,h2⟩:∃ P:Prop,P=yw7 t.us t.next:=⟨_,rfl⟩
 obtain ⟨P3,h3⟩:∃ P:Prop,P=((∀ u∈t.us,yq0 t.bd u/\zk2 t u)/\(jz9 t.us).Nodup):=⟨_,rfl⟩
 obtain ⟨P4,h4⟩:∃ P:Prop,P=(t.us.countP (qq4 0)<=1/\t.us.countP (qq4 1)<=1/\1<=t.us.countP (qq4 0)+t.us.countP (qq4 1)):=⟨_,rfl⟩
 have H1:Hid (∀ w',Fr [] w w'->Calls Tryz.prog 173 #[.pointer (some ⟨gb,0,none⟩)] w' fun e w''=>BP P1 w' e w''):=fun w' hf=>by rw [h1];exact yj9 gb t w' (h.fr hf (by simp) (by simp)).board
 have H2:Hid (∀ w',Fr [] w w'->Calls Tryz.prog 174 #[.pointer (some ⟨gb,0,none⟩)] w' fun e w''=>BP P2 w' e w''):=fun w' hf=>by rw [h2];exact gx8 gb pb cap t w' (h.fr hf (by simp) (by simp))
 have H3:Hid (P2->∀ w',Fr [] w w'->Calls Tryz.prog 175 #[.pointer (some ⟨gb,0,none⟩)] w' fun e w''=>BP P3 w' e w''):=fun q w' hf=>by rw [h2] at q;rw [h3];exact vy7 gb pb cap t w' (h.fr hf (by simp) (by simp)) (vx6 q) (gk0 q)
 have H4:Hid (P3->∀ w',Fr [] w w'->Calls Tryz.prog 176 #[.pointer (some ⟨gb,0,none⟩)] w' fun e w''=>BP P4 w' e w''):=fun q w' hf=>by rw [h3] at q;rw [h4];exact xw0 gb pb cap t w' (h.fr hf (by simp) (by simp)) (fun u hu=>by have a:=(q.1 u hu).1.1;have b:=hb.us u hu;omega)
 rw [<- h1,<- h2,<- h3,<- h4]
 clear h hb h1 h2 h3 h4
 go_enter Tryz.func133,Tryz.ntmps133
 go_wp2_with fail
 refine Calls.mono (H1.out _ (Fr.refl _ _)) ?_
 rintro e w1 ⟨b,rfl,hb1,hf1⟩
 dsimp only
 have HB1:=hid hb1
 clear hb1
 cases b
 ·go_wp2_with fail
  go_ret
  exact ⟨false,rfl,⟨fun h=>(by cases h),fun h=>HB1.out.2 h.1⟩,hf1⟩
 have K1:Hid P1:=HB1.out.1 rfl
 clear HB1
 go_wp2_with fail
 refine Calls.mono (H2.out _ hf1) ?_
 rintro e w2 ⟨b,rfl,hb1,hf2⟩
 dsimp only
 have HB1:=hid hb1
 clear hb1
 have hw2:=hf1.then0 hf2
 cases b
 ·go_wp2_with fail
  go_ret
  exact ⟨false,rfl,⟨fun h=>(by cases h),fun h=>HB1.out.2 h.2.1⟩,hw2⟩
 have K2:Hid P2:=HB1.out.1 rfl
 clear HB1
 go_wp2_with fail
 refine Calls.mono (H3.out K2.out _ hw2) ?_
 rintro e w3 ⟨b,rfl,hb1,hf3⟩
 dsimp only
 have HB1:=hid hb1
 clear hb1
 have hw3:=hw2.then0 hf3
 cases b
 ·go_wp2_with fail
  go_ret
  exact ⟨false,rfl,⟨fun h=>(by cases h),fun h=>HB1.out.2 h.2.2.1⟩,hw3⟩
 have K3:Hid P3:=HB1.out.1 rfl
 clear HB1
 go_wp2_with fail
 refine Calls.mono (H4.out K3.out _ hw3) ?_
 rintro e w4 ⟨b,rfl,hb1,hf4⟩
 dsimp only
 have HB1:=hid hb1
 clear hb1
 have hw4:=hw3.then0 hf4
 go_wp2_with fail
 go_ret
 exact ⟨b,rfl,⟨fun h=>⟨K1.out,K2.out,K3.out,HB1.out.1 h⟩,fun h=>HB1.out.2 h.2.2.2⟩,hw4⟩
set_option maxRecDepth 100000
theorem gx9 (gb:Nat)(nx:Int)(w:World)(hc:w.cell? ⟨gb,148,none⟩=some (.slice none 0 0))(hcn:w.cell? ⟨gb,1,none⟩=some (ii nx)) :
  Calls Tryz.prog 174 #[.pointer (some ⟨gb,0,none⟩)] w fun e w'=>BP (0 < nx) w e w':=by
 go_enter Tryz.func174,Tryz.ntmps174
 go_wp2_with fail
 go_loopw [3,11] (fun v i wr=>i=.int .i64 0/\v=.int .i64 0/\w=wr) (fun _ i _=>0)
 case atStart=>exact ⟨rfl,rfl,rfl⟩
 case round =>
  obtain ⟨rfl,rfl,rfl⟩:=hrel
  by_cases hen:0 < nx
  ·go_wp2_with fail
   go_ret
   exact ⟨true,rfl,⟨fun _=>hen,fun _=>rfl⟩,Fr.refl _ _⟩
  ·go_wp2_with fail
   go_ret
   exact ⟨false,rfl,⟨fun h=>(by cases h),fun h=>(by omega)⟩,Fr.refl _ _⟩
theorem kj6 (w:World) :
  Calls Tryz.prog 149 #[.slice none 0 0] w fun e w'=>∃ hb,e=.returned (.map (some hb))/\MapF w' hb (fun _=>none)/\Fr [] w w':=by
 have hmm:=@run_makeMap Tryz.prog
 go_enter Tryz.func149,Tryz.ntmps149
 go_wp2_with fail
 obtain ⟨W5,hW5⟩:∃ W,W=w.alloc (.map #[] 0):=⟨_,rfl⟩
 have hm5:MapF W5 w.heap.size (fun _=>none):=MapF.made (clock:=0) (by rw [hW5];exact qq6 _ _)
 have hf5:Fr [] w W5:=by rw [hW5];exact (Fr.refl _ _).alloc _
 rw [<- hW5]
 clear hW5 hmm
 go_loopw [9] (fun i wr=>i=.int .i64 0/\W5=wr) (fun _ _=>0)
 case atStart=>exact ⟨rfl,rfl⟩
 case round =>
  obtain ⟨rfl,rfl⟩:=hrel
  go_wp2_with fail
  go_ret
  exact ⟨_,rfl,hm5,hf5⟩
theorem vy8 (gb:Nat)(w:World)(hc:w.cell? ⟨gb,148,none⟩=some (.slice none 0 0)) :
  Calls Tryz.prog 175 #[.pointer (some ⟨gb,0,none⟩)] w fun e w'=>BP True w e w':=by
 have hgl:=qq1 hc
 have HCE:=hid kj6
 have HN:Hid (∀ w' hb,MapF w' hb (fun _=>none)->∀ ty,(Builtin.len_ #[205] ty #[.map (some hb)]).run Tryz.prog w'=.ok (.int .i64 0) w'):=fun w' hb hm ty=>hm.count [] List.nodup_nil (fun c=>by simp) 205 3 ty Tryz.underlying205
 go_enter Tryz.func175,Tryz.ntmps175
 go_wp2_with fail
 go_loopw [10] (fun i wr=>i=.int .i64 0/\w=wr) (fun _ _=>0)
 case atStart=>exact ⟨rfl,rfl⟩
 case round =>
  obtain ⟨rfl,rfl⟩:=hrel
  go_wp2_with fail
  go_region_with (first|(go_at_call 149;refine Calls.mono (HCE.out _) ?_;rintro e w1 ⟨hb,rfl,hm,hf1⟩;have hln:=HN.out w1 hb hm;have hc1:=(((Fr.refl [] w).drew.then0 hf1).cell _ _ hgl (by simp)).trans hc))
  all_goals
   go_wp2_with fail
   go_ret
   exact ⟨true,rfl,⟨fun _=>trivial,fun _=>rfl⟩,(Fr.refl [] w).drew.then0 hf1⟩
theorem xw1 (gb:Nat)(w:World)(hc:w.cell? ⟨gb,148,none⟩=some (.slice none 0 0)) :
  Calls Tryz.prog 176 #[.pointer (some ⟨gb,0,none⟩)] w fun e w'=>BP False w e w':=by
 have hgl:=qq1 hc
 have hc1:(w.alloc (.cells #[ii 0,ii 0] 54)).cell? ⟨gb,148,none⟩=some (.slice none 0 0):=(((Fr.refl [] w).alloc _).cell _ _ hgl (by simp)).trans hc
 go_enter Tryz.func176,Tryz.ntmps176
 go_wp2_with fail
 obtain ⟨W5,hW5⟩:∃ W,W=w.alloc (.cells #[ii 0,ii 0] 54):=⟨_,rfl⟩
 have hb5:W5.heap[w.heap.size]?=some (.cells #[ii 0,ii 0] 54):=by rw [hW5];exact qq6 _ _
 have hf5:Fr [] w W5:=by rw [hW5];exact (Fr.refl _ _).alloc _
 rw [<- hW5] at hc1 |-
 clear hW5
 go_loopw [11] (fun i wr=>i=.int .i64 0/\W5=wr) (fun _ _=>0)
 case atStart=>exact ⟨rfl,rfl⟩
 case round =>
  obtain ⟨rfl,rfl⟩:=hrel
  have cb0:W5.cell? ⟨w.heap.size,0,none⟩=some (ii 0):=j9 hb5
  have cb1:W5.cell? ⟨w.heap.size,1,none⟩=some (ii 0):=j9 hb5
  go_wp2_with fail
  all_goals
   go_ret
   exact ⟨false,rfl,⟨fun h=>(by cases h),fun h=>h.elim⟩,hf5⟩
theorem fv2 (gb:Nat)(t:T)(w:World)(hrg:∀ w',Fr [] w w'->w'.rangeAt gb 4 (qk8 t.bd))(hc:w.cell? ⟨gb,148,none⟩=some (.slice none 0 0))(hcn:w.cell? ⟨gb,1,none⟩=some (ii t.next)) :
  Calls Tryz.prog 133 #[.pointer (some ⟨gb,0,none⟩)] w fun e w'=>e=.returned (.bool false)/\Fr [] w w':=by
 have hgl:=qq1 hc
 obtain ⟨P1,h1⟩:∃ P:Prop,P=(∀ i,i < 144->t.bd i<=10):=⟨_,rfl⟩
 have H1:Hid (∀ w',Fr [] w w'->Calls Tryz.prog 173 #[.pointer (some ⟨gb,0,none⟩)] w' fun e w''=>BP P1 w' e w''):=fun w' hf=>by rw [h1];exact yj9 gb t w' (hrg w' hf)
 have H2:Hid (∀ w',Fr [] w w'->Calls Tryz.prog 174 #[.pointer (some ⟨gb,0,none⟩)] w' fun e w''=>BP (0 < t.next) w' e w''):=fun w' hf=>gx9 gb t.next w' ((hf.cell _ _ hgl (by simp)).trans hc) ((hf.cell _ _ hgl (by simp)).trans hcn)
 have H3:Hid (∀ w',Fr [] w w'->Calls Tryz.prog 175 #[.pointer (some ⟨gb,0,none⟩)] w' fun e w''=>BP True w' e w''):=fun w' hf=>vy8 gb w' ((hf.cell _ _ hgl (by simp)).trans hc)
 have H4:Hid (∀ w',Fr [] w w'->Calls Tryz.prog 176 #[.pointer (some ⟨gb,0,none⟩)] w' fun e w''=>BP False w' e w''):=fun w' hf=>xw1 gb w' ((hf.cell _ _ hgl (by simp)).trans hc)
 clear hrg hc hcn h1
 go_enter Tryz.func133,Tryz.ntmps133
 go_wp2_with fail
 refine Calls.mono (H1.out _ (Fr.refl _ _)) ?_
 rintro e w1 ⟨b,rfl,hb1,hf1⟩
 dsimp only
 have HB1:=hid hb1
 clear hb1
 cases b
 ·go_wp2_with fail
  go_ret
  exact ⟨rfl,hf1⟩
 clear HB1
 go_wp2_with fail
 refine Calls.mono (H2.out _ hf1) ?_
 rintro e w2 ⟨b,rfl,hb1,hf2⟩
 dsimp only
 have HB1:=hid hb1
 clear hb1
 have hw2:=hf1.then0 hf2
 cases b
 ·go_wp2_with fail
  go_ret
  exact ⟨rfl,hw2⟩
 clear HB1
 go_wp2_with fail
 refine Calls.mono (H3.out _ hw2) ?_
 rintro e w3 ⟨b,rfl,hb1,hf3⟩
 dsimp only
 have HB1:=hid hb1
 clear hb1
 have hw3:=hw2.then0 hf3
 have hbt:b=true:=HB1.out.2 trivial
 subst hbt
 clear HB1
 go_wp2_with fail
 refine Calls.mono (H4.out _ hw3) ?_
 rintro e w4 ⟨b,rfl,hb1,hf4⟩
 dsimp only
 have HB1:=hid hb1
 clear hb1
 have hw4:=hw3.then0 hf4
 have hbf:b=false:=by cases b;rfl;exact (HB1.out.1 rfl).elim
 subst hbf
 clear HB1
 go_wp2_with fail
 go_ret
 exact ⟨rfl,hw4⟩
end Go.Proofs.YtapabahhfanmmaaGreatDoor
