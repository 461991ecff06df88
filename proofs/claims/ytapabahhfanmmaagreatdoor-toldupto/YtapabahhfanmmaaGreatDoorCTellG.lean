import Derived.Test.YtapabahhfanmmaaGreatDoorCOrds
import Derived.Test.YtapabahhfanmmaaGreatDoorCReadU
import Derived.Laws.IdiomStrings
namespace Go.Proofs.YtapabahhfanmmaaGreatDoor
open Go.RowKit
set_option maxRecDepth 100000
set_option maxHeartbeats 8000000
abbrev U.nums (u:U):List Int:=[u.id,u.owner,u.kind,u.x,u.y,u.life,u.load,u.what,u.tox,u.toy,u.target]
def jq1 (t:T):List Int:=[t.turn,zk4 t.us,t.s0,t.s1,t.next]
def zy5 (t:T):List Int:=(List.range 144).map t.bd
def qk2 (us:List U):List Int:=us.flatMap U.nums
def qj9 (t:T):List Int:=jq1 t ++ (zy5 t ++ ((t.us.length:Int) :: qk2 t.us))
def zj2 (t:T):List UInt8:=qw5 (qj9 t)
theorem zq0 (t:T):(zy5 t).length=144:=by simp [zy5]
theorem jw2:∀ us:List U,(qk2 us).length=11*us.length
 | []=>rfl
 | u :: us=>by
  show (u.nums ++ qk2 us).length=_
  rw [List.length_append,jw2 us]
  simp
  omega
theorem zv4 (t:T):(qj9 t).length=150+11*t.us.length:=by
 unfold qj9
 rw [List.length_append,List.length_append,zq0,List.length_cons,jw2]
 show 5+_=_
 omega
theorem xk9:∀ (us:List U) (i f:Nat) (u:U),us[i]?=some u->f < 11->(qk2 us)[11*i+f]?=u.nums[f]?
 | [],_,_,_,h,_=>by simp at h
 | v :: us,0,f,u,h,hf=>by
  have hv:v=u:=by simpa using h
  subst hv
  show (v.nums ++ qk2 us)[11*0+f]?=_
  rw [List.getElem?_append_left (by simp;omega),Nat.mul_zero,Nat.zero_add]
 | v :: us,i+1,f,u,h,hf=>by
  show (v.nums ++ qk2 us)[11*(i+1)+f]?=_
  rw [List.getElem?_append_right (by simp;omega)]
  have:11*(i+1)+f - v.nums.length=11*i+f:=by simp;omega
  rw [this]
  exact xk9 us i f u (by simpa using h) hf
theorem qxq2 (us:List U):0<=zk4 us/\zk4 us<=2:=by
 unfold zk4
 split
 ·omega
 ·split <;> omega
theorem qzx1 {t:T}(h:GOk t)(ho:OS t){u:U}(hu:u∈t.us):∀ x∈u.nums,0<=x/\x<=1000000000:=by
 have k:=h.all u hu
 have hnx:=h.nx
 have hid:=k.id
 have how:=k.ow
 have hkd:=k.kd
 have hlf:=k.lf
 have hld:=k.ld
 have hod:=k.od
 obtain ⟨o1,o2,o3,o4⟩:=qz3.1 k.on
 have hll:qx9 u.kind<=40:=by unfold qx9;split;omega;split <;> omega
 dsimp only at hid hnx
 have hor:(0<=u.what/\u.what<=4)/\(0<=u.tox/\u.tox<=1000000000)/\(0<=u.toy/\u.toy<=1000000000)/\(0<=u.target/\u.target<=1000000000):=by
  unfold jk9 at hod
  rcases ho u hu with ⟨a1,a2,a3,a4⟩|⟨a1,a2,a3,a4⟩|⟨a1,a2,a3,a4,a5,a6⟩|⟨a1,a2,a3⟩
  ·omega
  ·obtain ⟨b1,b2,b3,b4⟩:=qz3.1 a2
   omega
  ·omega
  ·omega
 intro x hx
 simp only [List.mem_cons,List.not_mem_nil,or_false] at hx
 rcases hx with rfl|rfl|rfl|rfl|rfl|rfl|rfl|rfl|rfl|rfl|rfl <;> omega
theorem vz0 {t:T}(h:GOk t)(ho:OS t)(ht:0<=t.turn/\t.turn<=1000000000):∀ x∈qj9 t,0<=x/\x<=1000000000:=by
 have hnx:=h.nx
 have hst:=h.st
 have hwn:=qxq2 t.us
 have hln:=h.len
 dsimp only at hnx hst hln
 intro x hx
 unfold qj9 at hx
 rcases List.mem_append.1 hx with hx|hx
 ·unfold jq1 at hx
  simp only [List.mem_cons,List.not_mem_nil,or_false] at hx
  rcases hx with rfl|rfl|rfl|rfl|rfl <;> omega
 ·rcases List.mem_append.1 hx with hx|hx
  ·obtain ⟨j,hj,rfl⟩:=List.mem_map.1 hx
   have:=h.bd j (List.mem_range.1 hj)
   dsimp only at this
   omega
  ·rcases List.mem_cons.1 hx with rfl|hx
   ·omega
   ·obtain ⟨u,hu,hx⟩:=List.mem_flatMap.1 hx
    exact qzx1 h ho hu x hx
structure Reads (l:List UInt8) (t:T):Prop where
 n0:nth l false 0=t.turn
 n1:nth l false 1=zk4 t.us
 n2:nth l false 2=t.s0
 n3:nth l false 3=t.s1
 n4:nth l false 4=t.next
 nb:∀ j,j < 144->nth l false (5+j)=t.bd j
 nl:nth l false 149=t.us.length
 nu:∀ i u,t.us[i]?=some u->zx2 (fun f=>nth l false (150+11*i+f))=u
 ne:rdN l false (150+11*t.us.length)=([],false)
theorem xy2 {ns:List Int}(hb:∀ x∈ns,0<=x/\x<=1000000000){n:Nat}{x:Int}(h:ns[n]?=some x):nth (qw5 ns) false n=x:=by
 obtain ⟨hl,rfl⟩:=List.getElem?_eq_some_iff.1 h
 have:=dv3 n ns [] hl hb
 rwa [List.append_nil] at this
theorem fv5 {t:T}{i f:Nat}{u:U}(h:t.us[i]?=some u)(hf:f < 11):(qj9 t)[150+11*i+f]?=u.nums[f]?:=by
 unfold qj9
 have h5:(jq1 t).length=5:=rfl
 rw [List.getElem?_append_right (by omega),List.getElem?_append_right (by rw [zq0];omega),zq0,h5,show 150+11*i+f - 5 - 144=(11*i+f)+1 by omega,List.getElem?_cons_succ]
 exact xk9 t.us i f u h hf
theorem gv7 {t:T}(h:GOk t)(ho:OS t)(ht:0<=t.turn/\t.turn<=1000000000):Reads (zj2 t) t:=by
 have hb:=vz0 h ho ht
 have h5:(jq1 t).length=5:=rfl
 have hh:∀ k x,(jq1 t)[k]?=some x->nth (zj2 t) false k=x:=fun k x hk=>xy2 hb (by
  unfold qj9
  rw [List.getElem?_append_left (by rw [h5];exact (List.getElem?_eq_some_iff.1 hk).1)]
  exact hk)
 refine ⟨hh 0 _ rfl,hh 1 _ rfl,hh 2 _ rfl,hh 3 _ rfl,hh 4 _ rfl,fun j hj=>xy2 hb ?_,xy2 hb ?_,fun i u hu=>?_,?_⟩
 ·unfold qj9
  rw [List.getElem?_append_right (by omega),h5,show 5+j - 5=j by omega,List.getElem?_append_left (by rw [zq0];exact hj)]
  simp [zy5,List.getElem?_range hj]
 ·unfold qj9
  rw [List.getElem?_append_right (by omega),List.getElem?_append_right (by rw [zq0];omega),zq0,h5]
  rfl
 ·have hu':∀ f x,f < 11->u.nums[f]?=some x->nth (zj2 t) false (150+11*i+f)=x:=fun f x hf hx=>xy2 hb (by rw [fv5 hu hf];exact hx)
  show U.mk (nth (zj2 t) false (150+11*i+0)) (nth (zj2 t) false (150+11*i+1)) (nth (zj2 t) false (150+11*i+2)) (nth (zj2 t) false (150+11*i+3)) (nth (zj2 t) false (150+11*i+4)) (nth (zj2 t) false (150+11*i+5)) (nth (zj2 t) false (150+11*i+6)) (nth (zj2 t) false (150+11*i+7)) (nth (zj2 t) false (150+11*i+8)) (nth (zj2 t) false (150+11*i+9)) (nth (zj2 t) false (150+11*i+10))=u
  rw [hu' 0 _ (by omega) rfl,hu' 1 _ (by omega) rfl,hu' 2 _ (by omega) rfl,hu' 3 _ (by omega) rfl,hu' 4 _ (by omega) rfl,hu' 5 _ (by omega) rfl,hu' 6 _ (by omega) rfl,hu' 7 _ (by omega) rfl,hu' 8 _ (by omega) rfl,hu' 9 _ (by omega) rfl,hu' 10 _ (by omega) rfl]
 ·have:=vv4 (150+11*t.us.length) (qj9 t) [] (by rw [zv4];exact Nat.le_refl _) hb
  rw [List.append_nil,List.append_nil,List.drop_of_length_le (by rw [zv4];exact Nat.le_refl _)] at this
  exact this
theorem qqq9 {t:T}(h:GOk t)(ho:OS t)(ht:0<=t.turn/\t.turn<=1000000000):(zj2 t).length<=100000:=by
 have:=zy3 (qj9 t) (fun n hn=>(vz0 h ho ht n hn).2)
 have hl:=h.len
 dsimp only at hl
 rw [zv4] at this
 unfold zj2
 omega
theorem qxq9:(Tryz.prog.info? 5).map (fun i=>(i.zero,i.size,i.bytes))=some (some (.int .u8 0),1,1):=by kernel_rfl
abbrev ob (v:Value):List Nat:=v.ownBlock.toList
structure ApI (w:World) (base:Nat) (tv:Value) (l:List UInt8) (v:Value) (wr:World):Prop where
 own:wr.ownsRow base 5 1 v l.length (zj4 l)
 fr:Fr (ob tv) w wr
 blk:v.ownBlock=tv.ownBlock\/∃ b,v.ownBlock=some b/\w.heap.size<=b
theorem ApI.start {w:World}{base:Nat}{tv:Value}{l:List UInt8}(h:w.ownsRow base 5 1 tv l.length (zj4 l)):ApI w base tv l tv w:=⟨h,Fr.refl _ _,Or.inl rfl⟩
theorem ApI.next {w:World} {base:Nat} {tv:Value} {l m:List UInt8} {v v':Value} {wr w2 w3:World} (h:ApI w base tv l v wr) (hf:Fr [] wr w2) (hown:w3.ownsRow base 5 1 v' (l ++ m).length (zj4 (l ++ m))) (hg:w2.grownBy w3 v.ownBlock)
  (hb:v'.ownBlock=v.ownBlock\/v'.ownBlock=some w2.heap.size):ApI w base tv (l ++ m) v' w3:=by
 have hs:=h.fr.size
 have hs2:=hf.size
 refine ⟨hown,(h.fr.then0 hf).grow hg (fun g hg=>?_),?_⟩
 ·rcases h.blk with e|⟨b,e,hb⟩
  ·exact Or.inl (by rw [e] at hg;simp [ob,hg])
  ·rw [e] at hg;cases hg;exact Or.inr hb
 ·rcases hb with e|e
  ·rw [e];exact h.blk
  ·exact Or.inr ⟨_,e,by omega⟩
theorem kv8 (x:Int)(W:World)(j:Nat)(u:Value)(hu:[Value.int .u8 x][j]?=some u):(W.alloc (.cells #[.int .u8 x] 5)).cell? ((⟨W.heap.size,0,none⟩:Addr).add j)=some u:=by
 have hj:j=0:=by
  have:=(List.getElem?_eq_some_iff.1 hu).1
  simp at this
  exact this
 subst hj
 rw [Addr.add_lit,j9 (qq6 W _)]
 simpa using hu
theorem kw2 {w:World}{base:Nat}{v:Value}{l:List UInt8}{x:Int}{b:UInt8}(h:w.ownsRow base 5 1 v (l.length+1) (zj4 l ++ [.int .u8 x]))(hb:yy0 b=.int .u8 x):w.ownsRow base 5 1 v (l ++ [b]).length (zj4 (l ++ [b])):=by
 rw [vy3]
 show w.ownsRow base 5 1 v (l ++ [b]).length (zj4 l ++ [yy0 b])
 rw [hb,List.length_append]
 exact h
theorem gj5 (base nb no nc:Nat) (tv:Value) (l:List UInt8) (ns:List Int) (w:World) (hown:w.ownsRow base 5 1 tv l.length (zj4 l)) (hns:∀ n∈ns,0<=n/\n<=1000000000) (hc:∀ j (h:j < ns.length),w.cell? ⟨nb,no+j,none⟩=some (ii ns[j]))
  (hnb:tv.ownBlock≠some nb) (hl:l.length<=100000) (hnl:ns.length<=10000) (hbw:base<=w.heap.size) (hnw:nb < w.heap.size) :
  Calls Tryz.prog 79 #[tv,.slice (some ⟨nb,no,none⟩) ns.length nc] w fun e w' =>
   ∃ v,e=.returned v/\ApI w base tv (l ++ qw5 ns) v w':=by
 obtain ⟨inf,hi0,hz0,hz1,hz2⟩:=info_parts qxq9
 have HC:=hid hc
 have HNS:=hid hns
 have HOW:=hid hown
 clear hc hns hown
 have HBW:=hid hbw
 have HNB:Hid (∀ (wr:World) (v:Value) (m:List UInt8),ApI w base tv m v wr->∀ j (h:j < ns.length),wr.cell? ⟨nb,no+j,none⟩=some (ii ns[j])):=fun wr v m hA j hj=>by
  rw [hA.fr.cell nb _ hnw (by simp [ob];exact hnb)]
  exact HC.out j hj
 go_enter Tryz.func79,Tryz.ntmps79
 go_wp2_with fail
 go_loopw [0,9] (fun v i wr=>∃ k:Nat,k<=ns.length/\i=.int .i64 k/\ApI w base tv (l ++ qw5 (ns.take k)) v wr) (fun _ i _=>ns.length - (intOf i).toNat)
 case atStart=>exact ⟨0,Nat.zero_le _,rfl,by rw [List.take_zero,fk4,List.append_nil];exact ApI.start HOW.out⟩
 case round =>
  obtain ⟨k,hk,rfl,hA⟩:=hrel
  by_cases hlt:k < ns.length
  ·have hlti:(k:Int) < (ns.length:Int):=by omega
   have hcell:=HNB.out wr _ _ hA k hlt
   obtain ⟨n0,hn0,hn1⟩:∃ n0:Nat,ns[k]=(n0:Int)/\n0<=1000000000:=by
    have:=HNS.out ns[k] (List.getElem_mem hlt)
    exact ⟨ns[k].toNat,by omega,by omega⟩
   have hlen:(l ++ qw5 (ns.take k)).length<=150000:=by
    have:=zy3 (ns.take k) (fun n hn=>(HNS.out n (List.mem_of_mem_take hn)).2)
    rw [List.length_append]
    simp at this
    omega
   have HFL:Hid (l ++ qw5 (ns.take (k+1))=(l ++ qw5 (ns.take k)) ++ zk3 n0):=by
    show _=_
    rw [List.take_succ_eq_append_getElem hlt,zj7,hn0,List.append_assoc]
    simp [qw5]
   rw [hn0] at hcell
   obtain ⟨L,hL⟩:∃ L,L=l ++ qw5 (ns.take k):=⟨_,rfl⟩
   rw [<- hL] at hA hlen HFL
   have HA:=hid hA
   clear hL hn0 hA
   go_wp2_with fail
   obtain ⟨wo,hwo⟩:∃ x,x=wr:=⟨_,rfl⟩
   rw [<- hwo] at HA |-
   clear hwo hcell
   go_loopw [0,6] (fun v i wr=>∃ (m:Nat) (pre:List UInt8),i=.int .i64 m/\m<=1000000000/\pre.length<=10/\Hid (pre ++ zk3 m=zk3 n0)/\ApI w base tv (L ++ pre) v wr) (fun _ i _=>(intOf i).toNat)
   case atStart=>exact ⟨n0,[],rfl,hn1,by simp,rfl,by rw [List.append_nil];exact HA.out⟩
   case round =>
    obtain ⟨m,pre,rfl,hm,hpl,hpre,hA⟩:=hrel
    by_cases hbig:128<=m
    ·have hbi:¬ (m:Int) < 128:=by omega
     have hbj:(128:Int)<=(m:Int):=by omega
     obtain ⟨q,hq⟩:∃ q:Nat,(m:Int) % 128=q:=⟨m % 128,by omega⟩
     have hq2:q < 128:=by omega
     have hor:=qxz4 q hq2
     have HA:=hid hA
     clear hA
     have HO2:Hid ((wr.alloc (.cells #[.int .u8 ((q:Int)+128)] 5)).ownsRow base 5 1 u0 (L ++ pre).length (zj4 (L ++ pre))):=qq7 HA.out.own ((Fr.refl [] wr).alloc _) (by simp)
     have hws:=HA.out.fr.size
     have hlp:(L ++ pre).length<=160000:=by rw [List.length_append];omega
     have HQ:=hid hq
     go_wp2_with (at_builtin;refine wpList_append_own_at _ rfl _ _ 168 rfl base 5 inf (.int .u8 0) 1 1 Tryz.underlying168 hi0 hz0 hz1 hz2 rfl (by decide) u0 (L ++ pre).length (zj4 (L ++ pre)) rfl HO2.out ⟨wr.heap.size,0,none⟩ 1 1 [.int .u8 ((q:Int)+128)] rfl rfl (kv8 _ wr) (by simp [Value.oneCell']) (by unfold maxLen;omega) (by omega) (by simp;omega) ?_;intro v' w3 hown3 hgrow hnil3 hat3)
     go_roundw
     case rel =>
      have hqm:q=m % 128:=by have:=HQ.out;omega
      refine ⟨m / 128,pre ++ [UInt8.ofNat (q+128)],by go_num,by omega,?_,?_,?_⟩
      ·have h1:(pre ++ zk3 m).length<=5:=by rw [hpre.out];exact jv9 5 n0 (by omega) (by omega)
       have h2:=jk2 m
       rw [List.length_append] at h1 |-
       simp
       omega
      ·show pre ++ [UInt8.ofNat (q+128)] ++ zk3 (m / 128)=zk3 n0
       rw [<- hpre.out,jv8 (n:=m) (by omega),hqm,List.append_assoc]
       rfl
      ·rw [<- List.append_assoc]
       exact HA.out.next ((Fr.refl [] wr).alloc _) (kw2 hown3 (by rw [hqm,fx9];rfl)) hgrow hat3
     case measure=>simp [intOf];omega
    ·have hbi:(m:Int) < 128:=by omega
     have HA:=hid hA
     clear hA
     have HO2:Hid ((wr.alloc (.cells #[.int .u8 (m:Int)] 5)).ownsRow base 5 1 u0 (L ++ pre).length (zj4 (L ++ pre))):=qq7 HA.out.own ((Fr.refl [] wr).alloc _) (by simp)
     have hws:=HA.out.fr.size
     have hlp:(L ++ pre).length<=160000:=by rw [List.length_append];omega
     go_wp2_with (at_builtin;refine wpList_append_own_at _ rfl _ _ 168 rfl base 5 inf (.int .u8 0) 1 1 Tryz.underlying168 hi0 hz0 hz1 hz2 rfl (by decide) u0 (L ++ pre).length (zj4 (L ++ pre)) rfl HO2.out ⟨wr.heap.size,0,none⟩ 1 1 [.int .u8 (m:Int)] rfl rfl (kv8 _ wr) (by simp [Value.oneCell']) (by unfold maxLen;omega) (by omega) (by simp;omega) ?_;intro v' w3 hown3 hgrow hnil3 hat3)
     go_roundw
     case rel =>
      refine ⟨k+1,hlt,by go_num,?_⟩
      rw [HFL.out]
      have h1:zk3 n0=pre ++ [UInt8.ofNat m]:=by rw [<- hpre.out,jq5 (by omega)]
      rw [h1,<- List.append_assoc]
      exact HA.out.next ((Fr.refl [] wr).alloc _) (kw2 hown3 (fx8 m (by omega))) hgrow hat3
     case measure=>simp [intOf];omega
  ·have hlti:¬ (k:Int) < (ns.length:Int):=by omega
   rw [List.take_of_length_le (by omega)] at hA
   have HA:=hid hA
   clear hA
   go_wp2_with fail
   go_ret
   exact ⟨_,rfl,HA.out⟩
theorem gv1 {w:World}{base:Nat}{v:Value}{l:List UInt8}(h:w.ownsRow base 5 1 v l.length (zj4 l))(hl:0 < l.length):(convert 168 9 v).run Tryz.prog w=.ok (.string ⟨l.toArray⟩) w:=by
 rcases h.2 with ⟨_,h2⟩|⟨g,cap,cur,rfl,hb,hg,h1,h2,h3,h4⟩
 ·omega
 ·refine run_convert_bytes_back w 168 9 5 ⟨g,0,none⟩ cap l Tryz.underlying168 Tryz.underlying5 Tryz.underlying9 (fun j hj=>?_)
  rw [Addr.add_lit,Nat.zero_add,j9 hg]
  have:=congrArg (fun x:List Value=>x[j]?) h4
  simp only [List.getElem?_take_of_lt (show j < l.length*1 by omega)] at this
  rw [<- Array.getElem?_toList,this]
  simp [zj4,yy0,hj]
theorem vk9 {w:World}{base n:Nat}{e:TypeId}{size:Nat}{v:Value}{xs:List Value}(h:w.ownsRow base e size v n xs){b:Nat}(hb:v.ownBlock=some b):b < w.heap.size:=by
 rcases h.2 with ⟨h1,_⟩|⟨g,cap,cur,rfl,h1,hg,_⟩
 ·rw [h1] at hb;simp [Value.ownBlock] at hb
 ·simp [Value.ownBlock] at hb
  subst hb
  exact qq2 hg
structure TxtI (W1:World) (L:List UInt8) (v:Value) (w:World):Prop where
 own:w.ownsRow W1.heap.size 5 1 v L.length (zj4 L)
 fr:Fr [] W1 w
theorem TxtI.fr0 {W1:World}{L:List UInt8}{v:Value}{w w':World}(h:TxtI W1 L v w)(hf:Fr [] w w'):TxtI W1 L v w':=⟨qq7 h.own hf (by simp),h.fr.then0 hf⟩
theorem TxtI.append {W1:World}{L:List UInt8}{v:Value}{w:World}(h:TxtI W1 L v w)(nb no nc:Nat)(ns:List Int)(hns:∀ n∈ns,0<=n/\n<=1000000000)(hc:∀ j (h:j < ns.length),w.cell? ⟨nb,no+j,none⟩=some (ii ns[j]))(hnb:v.ownBlock≠some nb)(hl:L.length<=100000)(hnl:ns.length<=10000)(hnw:nb < w.heap.size) :
  Calls Tryz.prog 79 #[v,.slice (some ⟨nb,no,none⟩) ns.length nc] w fun e w'=>∃ v',e=.returned v'/\TxtI W1 (L ++ qw5 ns) v' w'/\Fr (ob v) w w':=by
 refine Calls.mono (gj5 W1.heap.size nb no nc v L ns w h.own hns hc hnb hl hnl h.fr.size hnw) ?_
 rintro e w1 ⟨v',rfl,hA⟩
 refine ⟨v',rfl,⟨hA.own,h.fr.trans hA.fr (fun i hi=>Or.inr ?_)⟩,hA.fr⟩
 have:v.ownBlock=some i:=by simpa [ob] using hi
 exact qj1 h.own this
theorem fq2 {ns:List Int}(h:∀ x∈ns,0<=x/\x<=1000000000){k:Nat}:(qw5 (ns.take k)).length<=5*ns.length:=by
 have:=zy3 (ns.take k) (fun n hn=>(h n (List.mem_of_mem_take hn)).2)
 have h2:(ns.take k).length<=ns.length:=by simp;omega
 omega
theorem vk6 (t:T):(qj9 t).take 5=jq1 t:=by
 unfold qj9
 rw [List.take_append_of_le_length (by show 5<=5;omega)]
 exact List.take_of_length_le (by show 5<=5;omega)
theorem zw3 (t:T)(m:Nat)(hm:m<=144):(qj9 t).take (5+m)=jq1 t ++ (zy5 t).take m:=by
 unfold qj9
 have h5:(jq1 t).length=5:=rfl
 rw [List.take_append,h5,show 5+m - 5=m by omega,List.take_of_length_le (by omega),List.take_append_of_le_length (by rw [zq0];exact hm)]
theorem vj5 (t:T)(m:Nat)(hm:m<=144):(zy5 t).take m=(List.range m).map t.bd:=by
 unfold zy5
 rw [<- List.map_take,List.take_range,Nat.min_eq_left hm]
theorem vy6 (t:T)(y:Nat)(hy:y < 12):(qj9 t).take (5+(y+1)*12)=(qj9 t).take (5+y*12) ++ (List.range 12).map (fun x=>t.bd (y*12+x)):=by
 rw [zw3 t _ (by omega),zw3 t _ (by omega),vj5 t _ (by omega),vj5 t _ (by omega),List.append_assoc,show (y+1)*12=y*12+12 by omega,List.range_add,List.map_append,List.map_map]
 rfl
theorem zv5 (t:T)(k:Nat):(qj9 t).take (150+11*k)=jq1 t ++ (zy5 t ++ ((t.us.length:Int) :: (qk2 t.us).take (11*k))):=by
 unfold qj9
 have h5:(jq1 t).length=5:=rfl
 rw [List.take_append,h5,List.take_of_length_le (l:=jq1 t) (by omega),List.take_append,zq0,List.take_of_length_le (l:=zy5 t) (by rw [zq0];omega),show 150+11*k - 5 - 144=11*k+1 by omega,List.take_succ_cons]
theorem yy5:∀ (us:List U) (k:Nat) (u:U),us[k]?=some u->(qk2 us).take (11*(k+1))=(qk2 us).take (11*k) ++ u.nums
 | [],_,_,h=>by simp at h
 | v :: us,0,u,h=>by
  have hv:v=u:=by simpa using h
  subst hv
  show (v.nums ++ qk2 us).take (11*(0+1))=_
  rw [List.take_append_of_le_length (by simp)]
  simp
 | v :: us,k+1,u,h=>by
  have ih:=yy5 us k u (by simpa using h)
  have e1:∀ m,(v.nums ++ qk2 us).take (11*(m+1))=v.nums ++ (qk2 us).take (11*m):=fun m=>by
   rw [List.take_append,List.take_of_length_le (by simp;omega)]
   congr 2
  show (v.nums ++ qk2 us).take (11*(k+1+1))=(v.nums ++ qk2 us).take (11*(k+1)) ++ u.nums
  rw [e1,e1,ih,List.append_assoc]
theorem vy5 (t:T):(qj9 t).take 150=(qj9 t).take (5+12*12) ++ [(t.us.length:Int)]:=by
 have:=zv5 t 0
 rw [Nat.mul_zero,Nat.add_zero,List.take_zero] at this
 rw [this,zw3 t _ (by omega),List.take_of_length_le (by rw [zq0];omega),List.append_assoc]
theorem vk5 (t:T)(k:Nat)(u:U)(hu:t.us[k]?=some u):(qj9 t).take (150+11*(k+1))=((qj9 t).take (150+11*k) ++ [u.id,u.owner,u.kind,u.x,u.y,u.life,u.load]) ++ [u.what,u.tox,u.toy,u.target]:=by
 rw [zv5,zv5,yy5 t.us k u hu]
 simp
theorem qqz2 {t:T}{u:U}(hu:u∈t.us){x:Int}(hx:x∈u.nums):x∈qj9 t:=by
 unfold qj9
 exact List.mem_append_right _ (List.mem_append_right _ (List.mem_cons_of_mem _ (List.mem_flatMap.2 ⟨u,hu,hx⟩)))
theorem xq7 (pb cap:Nat)(t:T)(w:World)(hrow:PRow w pb cap t.us)(hb:∀ x∈qj9 t,0<=x/\x<=1000000000)(hlen:t.us.length<=100) :
  Calls Tryz.prog 38 #[.agg (qz5 t (.slice (some ⟨pb,0,none⟩) t.us.length cap)).toArray] w fun e w'=>e=.returned (.string ⟨(zj2 t).toArray⟩)/\Fr [] w w':=by
 obtain ⟨gl,hgl⟩:∃ x,x=qz5 t (.slice (some ⟨pb,0,none⟩) t.us.length cap):=⟨_,rfl⟩
 rw [<- hgl]
 obtain ⟨W1,hW1⟩:∃ W,W=w.alloc (.cells gl.toArray 90):=⟨_,rfl⟩
 have hh1:W1.heap[w.heap.size]?=some (.cells gl.toArray 90):=by rw [hW1];exact qq6 _ _
 have hw1:Fr [] w W1:=by rw [hW1];exact (Fr.refl _ _).alloc _
 have hcg:∀ w',Fr [] W1 w'->∀ k,k < 149->w'.cell? ⟨w.heap.size,k,none⟩=some (qq9 t (.slice (some ⟨pb,0,none⟩) t.us.length cap) 0 0 k):=fun w' hf k hk=>by
  rw [j9 (hf.heap0 hh1),hgl]
  simp [qz5,List.getElem?_range hk]
 have hrow1:=hrow.fr hw1 (by simp)
 have hne1:w.heap.size < W1.heap.size:=qq2 hh1
 have HCG:=hid hcg
 have HWN:Hid (∀ w',Fr [] W1 w'->Calls Tryz.prog 50 #[.pointer (some ⟨w.heap.size,0,none⟩)] w' fun e w''=>e=.returned (.int .i64 (zk4 t.us))/\Fr [] w' w''):=fun w' hf=>yj1 w.heap.size pb cap t.us w' ⟨by have:=hcg w' hf 148 (by omega);simpa [qq9] using this,(hrow1.fr hf (by simp)).ppl,by omega⟩
 have HGE:=hid hgl
 have HW1:=hid hW1
 have hlb:=fq2 hb (k:=150+11*t.us.length)
 rw [zv4] at hlb
 have HLB:Hid (∀ k,(qw5 ((qj9 t).take k)).length<=10000):=fun k=>by have:=fq2 hb (k:=k);rw [zv4] at this;omega
 have HB:=hid hb
 have HPP:Hid (∀ w',Fr [] W1 w'->Ppl w' pb t.us):=fun w' hf=>(hrow1.fr hf (by simp)).ppl
 have HTI:Hid (∀ {L:List UInt8} {v:Value} {w:World} (_:TxtI W1 L v w) (nb no nc:Nat) (ns:List Int) (_:∀ n∈ns,0<=n/\n<=1000000000) (_:∀ j (h:j < ns.length),w.cell? ⟨nb,no+j,none⟩=some (ii ns[j])) (_:v.ownBlock≠some nb) (_:L.length<=100000) (_:ns.length<=10000) (_:nb < w.heap.size),
  Calls Tryz.prog 79 #[v,.slice (some ⟨nb,no,none⟩) ns.length nc] w fun e w'=>∃ v',e=.returned v'/\TxtI W1 (L ++ qw5 ns) v' w'/\Fr (ob v) w w'):=fun h nb no nc ns a b c d e f=>h.append nb no nc ns a b c d e f
 clear hgl hW1 hb hlb hcg hrow hrow1
 go_enter Tryz.func38,Tryz.ntmps38
 go_wp2_with fail
 rw [<- HW1.out]
 have HS:∀ w',Fr [] W1 w'->(fun w':World=>cl w' w.heap.size 0 t.turn/\cl w' w.heap.size 1 t.next/\cl w' w.heap.size 2 t.s0/\cl w' w.heap.size 3 t.s1/\Fr [] W1 w') w':=fun w' hf=>⟨HCG.out w' hf 0 (by omega),HCG.out w' hf 1 (by omega),HCG.out w' hf 2 (by omega),HCG.out w' hf 3 (by omega),hf⟩
 have K0:=HS _ (Fr.refl [] W1).drew
 have HN5:Hid (∀ n∈[t.turn,zk4 t.us,t.s0,t.s1,t.next],0<=n/\n<=1000000000):=fun n hn=>HB.out n (by have:n∈jq1 t:=hn;unfold qj9;exact List.mem_append_left _ this)
 have C5:∀ (W:World) (j:Nat) (h:j < [t.turn,zk4 t.us,t.s0,t.s1,t.next].length),(W.alloc (.cells #[ii t.turn,ii (zk4 t.us),ii t.s0,ii t.s1,ii t.next] 3)).cell? ⟨W.heap.size,0+j,none⟩=some (ii [t.turn,zk4 t.us,t.s0,t.s1,t.next][j]):=fun W j h=>by
  rw [j9 (qq6 W _),Nat.zero_add]
  have:j=0\/j=1\/j=2\/j=3\/j=4:=by simp at h;omega
  rcases this with rfl|rfl|rfl|rfl|rfl <;> rfl
 go_cut [3] (fun s3 wx=>TxtI W1 (qw5 ((qj9 t).take 5)) s3 wx)
 case first =>
  go_region_held (fun w':World=>w'.cell? ⟨w.heap.size,0,none⟩=some (ii t.turn)/\w'.cell? ⟨w.heap.size,1,none⟩=some (ii t.next)/\w'.cell? ⟨w.heap.size,2,none⟩=some (ii t.s0)/\w'.cell? ⟨w.heap.size,3,none⟩=some (ii t.s1)/\Fr [] W1 w')
   (first|with_reducible exact K0|with_reducible exact HS _ hfr1|with_reducible exact HS _ (hfr1.alloc _)|with_reducible exact HS _ hti.fr)
   (first|(go_at_call 50;refine Calls.mono (HWN.out _ (And.right (And.right (And.right (And.right (by assumption)))))) ?_;rintro e w2 ⟨rfl,hf2⟩;have hfr1:Fr [] W1 w2:=Fr.then0 (And.right (And.right (And.right (And.right (by assumption))))) hf2)|(go_at_call 79;refine Calls.mono (HTI.out (L:=[]) (v:=.slice none 0 0) ⟨⟨rfl,Or.inl ⟨rfl,rfl⟩⟩,hfr1.alloc _⟩ w2.heap.size 0 5 [t.turn,zk4 t.us,t.s0,t.s1,t.next] HN5.out (C5 w2) (by simp [Value.ownBlock]) (by simp) (by simp) (by simp)) ?_;rintro e w3 ⟨v3,rfl,hti,hf3⟩))
  all_goals
   go_wp2_with fail
   go_meet
   rw [vk6]
   exact hti
 case rest =>
  have hrg:∀ w',Fr [] W1 w'->w'.rangeAt w.heap.size 4 (qk8 t.bd):=fun w' hf j v hv=>by
   have hj:j < 144:=by have:=(List.getElem?_eq_some_iff.1 hv).1;rwa [zz1] at this
   rw [HCG.out w' hf (4+j) (by omega)]
   unfold qq9
   rw [if_neg (by omega),if_neg (by omega),if_neg (by omega),if_neg (by omega),if_pos (by omega),show 4+j - 4=j by omega]
   unfold qk8 at hv
   rw [List.getElem?_map,List.getElem?_range hj] at hv
   exact hv
  have hrgc:=hrg _ hcut.fr
  have HRow:Hid (∀ (y:Nat) (_:y < 12) (w:World),(Instr.index 88 (.agg (qk8 t.bd).toArray) (.int .i64 y)).run Tryz.prog w=.ok (.agg (zv2 t.bd y).toArray) w):=fj4 t.bd
  have HRL:Hid (∀ y,(zv2 t.bd y).length=12/\(zv2 t.bd y).toArray.all (·.oneCell')=true):=fun y=>⟨gq2 _ _,gq3 _ _⟩
  obtain ⟨bl,hbl⟩:∃ x,x=qk8 t.bd:=⟨_,rfl⟩
  have HIB:Hid ((Tryz.prog.info? 88).map (·.size)=some bl.length):=by
   show _=_
   rw [jj7,hbl,zz1]
  rw [<- hbl] at hrgc HRow
  have HTX:=hid hcut
  clear hbl hrg HS K0 C5 HN5 hcut
  go_wp2_with (refine wpList_load_mid rfl 88 _ rfl w.heap.size 4 rfl bl _ hrgc Tryz.underlying88 rfl HIB.out ?_)
  go_loopw [3,23] (fun v i wr=>∃ y:Nat,y<=12/\i=.int .i64 y/\TxtI W1 (qw5 ((qj9 t).take (5+y*12))) v wr) (fun _ i _=>12 - (intOf i).toNat)
  case atStart=>exact ⟨0,by omega,rfl,HTX.out⟩
  case round =>
   obtain ⟨y,hy12,rfl,hT⟩:=hrel
   by_cases hlt:y < 12
   ·have hlti:(y:Int) < 12:=by omega
    have hr:=HRow.out y hlt
    obtain ⟨hrl,hro⟩:=HRL.out y
    have hrv:∀ j (h:j < 12),(zv2 t.bd y)[j]?=some (ii (t.bd (y*12+j))):=fun j h=>by simp [zv2,List.getElem?_range h]
    obtain ⟨r,hr'⟩:∃ r,zv2 t.bd y=r:=⟨_,rfl⟩
    rw [hr'] at hr hrl hro
    simp only [hr'] at hrv
    have HO:=hid hro
    have HI:Hid ((Tryz.prog.info? 86).map (·.size)=some r.toArray.size):=by
     show _=_
     rw [xw7,List.size_toArray,hrl]
    have HZ:Hid (zero12.size=r.toArray.size):=by show 12=r.toArray.size;rw [List.size_toArray,hrl]
    have HRV:=hid hrv
    have HT:=hid hT
    clear hrl hro hr' hrv hT
    go_wp2_with (refine wpList_store_row rfl 86 _ _ rfl wr.heap.size r.toArray rfl rfl 86 zero12 (qq6 wr _) HI.out HZ.out HO.out ?_)
    obtain ⟨W3,hW3⟩:∃ W,W=(wr.alloc (.cells zero12 86)).setRow wr.heap.size r.toArray:=⟨_,rfl⟩
    rw [<- hW3]
    have hf3:Fr [] wr W3:=by rw [hW3];exact ((Fr.refl _ _).alloc _).setRow _ _ (Or.inr (Nat.le_refl _))
    have hh3:W3.heap[wr.heap.size]?=some (.cells r.toArray 86):=by rw [hW3];exact setRow_heap _ _ _ _ _ _ (qq6 _ _)
    have hAp:=HTI.out (HT.out.fr0 hf3) wr.heap.size 0 12 ((List.range 12).map (fun x=>t.bd (y*12+x))) (fun n hn=>by
      obtain ⟨x,hx,rfl⟩:=List.mem_map.1 hn
      have hx12:=List.mem_range.1 hx
      refine HB.out _ ?_
      unfold qj9
      refine List.mem_append_right _ (List.mem_append_left _ ?_)
      exact List.mem_map.2 ⟨y*12+x,List.mem_range.2 (by omega),rfl⟩)
     (fun j hj=>by
      have hj':j < 12:=by simpa using hj
      rw [j9 hh3,Nat.zero_add,List.getElem?_toArray,HRV.out j hj']
      simp)
     (fun e=>by have:=vk9 HT.out.own e;omega) (Nat.le_trans (HLB.out _) (by omega)) (by simp) (qq2 hh3)
    have h12:((List.range 12).map (fun x=>t.bd (y*12+x))).length=12:=by simp
    rw [h12] at hAp
    have HNR:=(show Hid _ from vy6 t y hlt)
    clear hW3 hh3
    refine Calls.mono hAp ?_
    rintro e w4 ⟨v4,rfl,hti,hf4⟩
    dsimp only
    clear hAp
    go_wp2_with fail
    go_roundw
    case rel=>exact ⟨y+1,hlt,by go_num,by rw [HNR.out,zj7];exact hti⟩
    case measure=>simp [intOf];omega
   ·have hlti:¬ (y:Int) < 12:=by omega
    have hy:y=12:=by omega
    subst hy
    have hcp:wr.cell? ⟨w.heap.size,148,none⟩=some (.slice (some ⟨pb,0,none⟩) t.us.length cap):=by
     have:=HCG.out wr hT.fr 148 (by omega)
     simpa [qq9] using this
    have HT:=hid hT
    clear hT HRow HRL HIB hrgc HTX
    go_wp2_with fail
    have hAp:=HTI.out (HT.out.fr0 ((Fr.refl [] wr).alloc (.cells #[ii (t.us.length:Int)] 3))) wr.heap.size 0 1 [(t.us.length:Int)] (fun n hn=>HB.out n (by
      have:n=(t.us.length:Int):=by simpa using hn
      subst this
      unfold qj9
      exact List.mem_append_right _ (List.mem_append_right _ (by simp))))
     (fun j hj=>by
      have hj':j=0:=by simpa using hj
      subst hj'
      rw [j9 (qq6 wr _)]
      rfl)
     (fun e=>by have:=vk9 HT.out.own e;omega) (Nat.le_trans (HLB.out _) (by omega)) (by simp) (by simp)
    refine Calls.mono hAp ?_
    rintro e w4 ⟨v4,rfl,hti,hf4⟩
    dsimp only
    rw [<- zj7,<- vy5] at hti
    have hcp4:w4.cell? ⟨w.heap.size,148,none⟩=some (.slice (some ⟨pb,0,none⟩) t.us.length cap):=by
     have:=HCG.out w4 hti.fr 148 (by omega)
     simpa [qq9] using this
    have HT4:=hid hti
    clear hAp hti HT hcp
    go_wp2_with fail
    go_loopw [3,39] (fun v i wr=>∃ k:Nat,k<=t.us.length/\i=.int .i64 k/\TxtI W1 (qw5 ((qj9 t).take (150+11*k))) v wr) (fun _ i _=>t.us.length - (intOf i).toNat)
    case atStart=>exact ⟨0,by omega,rfl,HT4.out⟩
    case round =>
     obtain ⟨k,hk,rfl,hT⟩:=hrel
     by_cases hkl:k < t.us.length
     ·have hkli:(k:Int) < (t.us.length:Int):=by omega
      obtain ⟨u,hu⟩:∃ u,t.us[k]?=some u:=⟨t.us[k],List.getElem?_eq_getElem hkl⟩
      obtain ⟨c0,c1,c2,c3,c4,c5,c6,c7,c8,c9,c10⟩:=(HPP.out wr hT.fr).at hu
      have HNU:=(show Hid _ from vk5 t k u hu)
      have HUM:Hid (∀ x,x∈u.nums->0<=x/\x<=1000000000):=fun x hx=>HB.out x (qqz2 (List.mem_of_getElem? hu) hx)
      have HT:=hid hT
      clear hT hu
      go_wp2_with fail
      have h7f:Fr [] wr ((wr.alloc (.cells u.arr 85)).alloc (.cells #[ii u.id,ii u.owner,ii u.kind,ii u.x,ii u.y,ii u.life,ii u.load] 3)):=((Fr.refl [] wr).alloc _).alloc _
      have hAp:=HTI.out (HT.out.fr0 h7f) (wr.heap.size+1) 0 7 [u.id,u.owner,u.kind,u.x,u.y,u.life,u.load] (fun n hn=>HUM.out n (by
        simp only [List.mem_cons,List.not_mem_nil,or_false] at hn |-
        omega))
       (fun j hj=>by
        rw [j9 (qz4 wr _ _),Nat.zero_add]
        have:j=0\/j=1\/j=2\/j=3\/j=4\/j=5\/j=6:=by simp at hj;omega
        rcases this with rfl|rfl|rfl|rfl|rfl|rfl|rfl <;> rfl)
       (fun e=>by have:=vk9 HT.out.own e;omega) (Nat.le_trans (HLB.out _) (by omega)) (by simp) (by simp)
      refine Calls.mono hAp ?_
      rintro e w5 ⟨v5,rfl,ht5,hf5⟩
      dsimp only
      have hU5:w5.heap[wr.heap.size]?=some (.cells u.arr 85):=hf5.heap ((qz7 _ _ _ (by simp)).trans (qq6 _ _)) (fun hm=>by
       have:=vk9 HT.out.own (show u3.ownBlock=some wr.heap.size by simpa [ob] using hm)
       omega)
      have e7:w5.cell? ⟨wr.heap.size,7,none⟩=some (ii u.what):=j9 hU5
      have e8:w5.cell? ⟨wr.heap.size,8,none⟩=some (ii u.tox):=j9 hU5
      have e9:w5.cell? ⟨wr.heap.size,9,none⟩=some (ii u.toy):=j9 hU5
      have e10:w5.cell? ⟨wr.heap.size,10,none⟩=some (ii u.target):=j9 hU5
      have hl5:(qw5 ((qj9 t).take (150+11*k)) ++ qw5 [u.id,u.owner,u.kind,u.x,u.y,u.life,u.load]).length<=100000:=by
       have h1:=HLB.out (150+11*k)
       have h2:=zy3 [u.id,u.owner,u.kind,u.x,u.y,u.life,u.load] (fun n hn=>(HUM.out n (by simp only [List.mem_cons,List.not_mem_nil,or_false] at hn |-;omega)).2)
       rw [List.length_append]
       simp at h2
       omega
      have HT5:=hid ht5
      clear hAp ht5 hU5 c0 c1 c2 c3 c4 c5 c6 c7 c8 c9 c10
      go_wp2_with fail
      have hAq:=HTI.out (HT5.out.fr0 ((Fr.refl [] w5).alloc (.cells #[ii u.what,ii u.tox,ii u.toy,ii u.target] 3))) w5.heap.size 0 4 [u.what,u.tox,u.toy,u.target] (fun n hn=>HUM.out n (by
        simp only [List.mem_cons,List.not_mem_nil,or_false] at hn |-
        omega))
       (fun j hj=>by
        rw [j9 (qq6 w5 _),Nat.zero_add]
        have:j=0\/j=1\/j=2\/j=3:=by simp at hj;omega
        rcases this with rfl|rfl|rfl|rfl <;> rfl)
       (fun e=>by have:=vk9 HT5.out.own e;omega) hl5 (by simp) (by simp)
      refine Calls.mono hAq ?_
      rintro e w6 ⟨v6,rfl,ht6,hf6⟩
      dsimp only
      clear hAq
      go_wp2_with fail
      go_roundw
      case rel=>exact ⟨k+1,hkl,by go_num,by rw [HNU.out,zj7,zj7];exact ht6⟩
      case measure=>simp [intOf];omega
     ·have hkli:¬ (k:Int) < (t.us.length:Int):=by omega
      have hke:k=t.us.length:=by omega
      subst hke
      rw [List.take_of_length_le (by rw [zv4];exact Nat.le_refl _)] at hT
      have hpos:0 < (qw5 (qj9 t)).length:=by
       have:=jk2 t.turn.toNat
       unfold qj9 jq1
       rw [List.cons_append,zy8,List.length_append]
       omega
      have hcv:=gv1 hT.own hpos
      have hfe:=hw1.then0 hT.fr
      clear hT HT4
      go_wp2_with fail
      go_ret
      exact ⟨rfl,hfe⟩
theorem qqq8 (gb pb cap:Nat)(t:T)(w:World)(h:GS w gb pb cap t)(hb:∀ x∈qj9 t,0<=x/\x<=1000000000)(hlen:t.us.length<=100) :
  Calls Tryz.prog 15 #[.pointer (some ⟨gb,0,none⟩)] w fun e w'=>e=.returned (.string ⟨(zj2 t).toArray⟩)/\Fr [] w w':=by
 have HTS:Hid (Calls Tryz.prog 38 #[.agg (qz5 t (.slice (some ⟨pb,0,none⟩) t.us.length cap)).toArray] w fun e w'=>e=.returned (.string ⟨(zj2 t).toArray⟩)/\Fr [] w w'):=xq7 pb cap t w h.row hb hlen
 obtain ⟨gl,hgl⟩:∃ x,x=qz5 t (.slice (some ⟨pb,0,none⟩) t.us.length cap):=⟨_,rfl⟩
 have hall:=h.all
 rw [<- hgl] at HTS hall
 have hll:gl.length=149:=by rw [hgl];exact zq7 _ _
 have HI:Hid ((Tryz.prog.info? 90).map (·.size)=some gl.length):=by
  show _=_
  rw [qx7,hll]
 obtain ⟨L,hL⟩:∃ L,L=zj2 t:=⟨_,rfl⟩
 rw [<- hL] at HTS |-
 clear hgl hll h hL hb
 go_enter Tryz.func15,Tryz.ntmps15
 go_wp2_with (first|(go_at_call 39;refine (jx5 gb _).mono ?_;rintro e w1 ⟨rfl,rfl⟩)|(refine wpList_load_mid rfl 90 _ rfl gb 0 rfl gl _ hall Tryz.underlying90 rfl HI.out ?_)|(go_at_call 38;refine Calls.mono HTS.out ?_;rintro e w2 ⟨rfl,hf2⟩))
 go_ret
 exact ⟨rfl,hf2⟩
end Go.Proofs.YtapabahhfanmmaaGreatDoor
