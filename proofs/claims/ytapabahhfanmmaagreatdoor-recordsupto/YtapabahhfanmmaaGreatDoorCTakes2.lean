import Derived.Test.YtapabahhfanmmaaGreatDoorCOver
namespace Go.Proofs.YtapabahhfanmmaaGreatDoor
open Go.RowKit List
set_option maxRecDepth 100000
set_option maxHeartbeats 800000
def Rise (us:List U):Prop:=us.Pairwise (fun a b=>a.id < b.id)
theorem Rise.lt {us:List U}(h:Rise us){i j:Nat}{a b:U}(hi:us[i]?=some a)(e:us[j]?=some b)(c:i < j):a.id < b.id:=by
 obtain ⟨h1,rfl⟩:=gs.1 hi
 obtain ⟨d,rfl⟩:=gs.1 e
 exact pairwise_iff_getElem.1 h i j h1 d c
theorem DV (I B:Nat)(us:List U)(id:Int)(w:World)(H:Ppl w I us)(hs:Rise us)(E:us.length<=1000) :
  Cs 195 #[.slice (so I) us.length B,.int .i64 id,fv 196] w fun e w'=>∃ (i:Nat) (f:Bool),e=.returned (.tuple #[.int .i64 i,.bool f])/\Fr [] w w' /\
   (f=true/\(∃ u,us[i]?=some u/\u.id=id)\/f=false/\∀ u∈us,u.id≠id):=by
 go_enter Tryz.func195,Tryz.ntmps195
 go_wp2
 go_loopw [9,10] (fun a b wr=>∃ i j:Nat,i<=j/\j<=us.length/\a=.int .i64 i/\b=.int .i64 j/\(∀ k u,us[k]?=some u->k < i->u.id < id)/\(∀ k u,us[k]?=some u->j<=k->id<=u.id)/\Fr [] w wr) (fun a b _=>((intOf b) - (intOf a)).toNat)
 case atStart=>exact ⟨0,us.length,Nat.zero_le _,Nat.le_refl _,rfl,rfl,fun k u _ h=>by omega,fun k u g h=>by have:=(gs.1 g).1;omega,r0 _ _⟩
 obtain ⟨i,j,W,X,rfl,rfl,s,y,n⟩:=hrel
 by_cases Y:i < j
 ·have hm:(i+j) / 2 < us.length:=by omega
  obtain ⟨u,t⟩:∃ u,us[(i+j) / 2]?=some u:=⟨us[(i+j) / 2],getElem?_eq_getElem hm⟩
  obtain ⟨J,K,L,M,N,O,P,Q,R,S,A⟩:=(H.fr n (by simp)).at t
  have l:=(show Hi (us[(i+j) / 2]?=some u) from t)
  clear t
  go_wp2_with fail
  refine (uU u id _).mono ?_
  rintro e w1 ⟨rfl,d⟩
  by_cases m:u.id < id
  ·have c:gN u.id id = -1:=by simp [gN,m]
   rw [c]
   clear c
   go_wp2
   go_roundw
   case rel =>
    refine ⟨(i+j) / 2+1,j,by omega,X,by go_num,rfl,fun k v g F=>?_,y,n.then0 d⟩
    rcases Nat.lt_or_ge k ((i+j) / 2) with h|h
    ·exact Int.lt_trans (hs.lt g l.o h) m
    have r:k=(i+j) / 2:=by omega
    subst r
    have:=l.o;rw [g] at this;rw [Option.some.inj this];exact m
   case measure=>simp [intOf];omega
  have c:(gN u.id id < 0)=False:=by
   simp only [gN,if_neg m,eq_iff_iff,iff_false];split <;> omega
  generalize gN u.id id=q at c |-
  have hq:¬ q < 0:=by simp [c]
  clear c
  go_wp2
  go_roundw
  case rel =>
   refine ⟨i,(i+j) / 2,by omega,by omega,rfl,by go_num,s,fun k v g C=>?_,n.then0 d⟩
   rcases Nat.lt_or_ge ((i+j) / 2) k with h|h
   ·have:=hs.lt l.o g h;omega
   have r:k=(i+j) / 2:=by omega
   subst r
   have:=l.o;rw [g] at this;rw [Option.some.inj this];omega
  case measure=>simp [intOf];omega
 have z:i=j:=by omega
 subst z
 by_cases x:i < us.length
 ·obtain ⟨u,t⟩:∃ u,us[i]?=some u:=⟨us[i],getElem?_eq_getElem x⟩
  obtain ⟨J,K,L,M,N,O,P,Q,R,S,A⟩:=(H.fr n (by simp)).at t
  have l:=(show Hi (us[i]?=some u) from t)
  clear t
  go_wp2_with fail
  refine (uU u id _).mono ?_
  rintro e w1 ⟨rfl,d⟩
  have C:=y i u l.o (Nat.le_refl _)
  by_cases m:u.id=id
  ·have c:gN u.id id=0:=by simp [gN,m]
   rw [c]
   clear c
   go_wp2
   go_ret2
   exact ⟨i,true,rfl,n.then0 d,.inl ⟨rfl,u,l.o,m⟩⟩
  have c:(gN u.id id==0)=false:=by
   have h1:¬ u.id < id:=by omega
   have V:id < u.id:=by omega
   simp [gN,h1,V]
  generalize gN u.id id=q at c |-
  go_wp2
  go_ret2
  refine ⟨i,false,rfl,n.then0 d,.inr ⟨rfl,fun v D=>?_⟩⟩
  obtain ⟨k,g,rfl⟩:=mem_iff_getElem.1 D
  have p:us[k]?=some us[k]:=getElem?_eq_getElem g
  rcases Nat.lt_trichotomy k i with h|h|h
  ·have:=s k _ p h;omega
  ·subst h;have:=l.o;rw [p] at this;rw [Option.some.inj this];exact m
  have:=hs.lt l.o p h;omega
 go_wp2
 go_ret2
 refine ⟨i,false,rfl,n,.inr ⟨rfl,fun v D=>?_⟩⟩
 obtain ⟨k,g,rfl⟩:=mem_iff_getElem.1 D
 have:=s k _ (getElem?_eq_getElem g) (by omega)
 omega
set_option maxRecDepth 100000
theorem uV (b h a:Nat)(us:List U)(id:Int)(w:World)(d:GV w b h a us)(hs:Rise us) :
  Cs 152 #[.pointer (so b),.int .i64 id] w fun e l=>∃ (i:Nat) (f:Bool),e=.returned (.tuple #[.int .i64 i,.bool f])/\Fr [] w l /\
   (f=true/\(∃ u,us[i]?=some u/\u.id=id)\/f=false/\∀ u∈us,u.id≠id):=by
 have m:=d.c
 go_enter Tryz.func152,Tryz.ntmps152
 go_wp2_with fail
 refine (DV h a us id _ d.p hs d.len).mono ?_
 rintro e n ⟨i,f,rfl,k,g⟩
 have j:=aA g
 clear g
 go_wp2
 go_ret2
 exact ⟨i,f,rfl,k,j.o⟩
theorem OW (w:World):(Instr.field 220 gZ 3).run Tryz.prog w=.ok (.bool false) w:=by kernel_rfl
theorem OX (w:World):(Instr.field 220 gR 3).run Tryz.prog w=.ok (.bool true) w:=by kernel_rfl
theorem OY (w:World):(Instr.field 220 iA 3).run Tryz.prog w=.ok (.bool true) w:=by kernel_rfl
theorem OV (w:World):(Instr.field 220 rC 3).run Tryz.prog w=.ok (.bool false) w:=by kernel_rfl
theorem TR (g:Value)(u:U)(c:Cm)(w:World) :
  Calls Tryz.prog 154 #[g,u.val,c.val] w fun e n=>e=.returned (.bool (c.x==2||c.x==3))/\Fr [] w n:=by
 obtain ⟨q,r,d,s,p⟩:=c
 have r0:=OV
 have t:=OW
 have v:=OX
 have y:=OY
 by_cases h1:d=1
 ·subst h1
  go_enter Tryz.func154,Tryz.ntmps154
  go_wp2_with (go_at_call 121;refine (mJ _).mono ?_;rintro e j ⟨rfl,f⟩)
  go_ret
  exact ⟨rfl,(((Fr.refl _ _).alloc _).alloc _).then0 f⟩
 by_cases h:d=2
 ·subst h
  go_enter Tryz.func154,Tryz.ntmps154
  go_wp2_with (go_at_call 121;refine (jT _).mono ?_;rintro e j ⟨rfl,f⟩)
  go_ret
  exact ⟨rfl,(((Fr.refl _ _).alloc _).alloc _).then0 f⟩
 by_cases i:d=3
 ·subst i
  go_enter Tryz.func154,Tryz.ntmps154
  go_wp2_with (go_at_call 121;refine (lB _).mono ?_;rintro e j ⟨rfl,f⟩)
  go_ret
  exact ⟨rfl,(((Fr.refl _ _).alloc _).alloc _).then0 f⟩
 have m:Hi ((d==1)=false):=by simp [Hi,h1]
 have k:Hi ((d==2)=false):=by simp [Hi,h]
 have l:Hi ((d==3)=false):=by simp [Hi,i]
 clear h1 h i
 go_enter Tryz.func154,Tryz.ntmps154
 go_wp2_with (go_at_call 121;refine (KE d _ m.o k.o l.o).mono ?_;rintro e j ⟨rfl,f⟩)
 go_ret
 exact ⟨iW (by have a:=k.o;have b:=l.o;rw [a,b];rfl),(((Fr.refl _ _).alloc _).alloc _).then0 f⟩
set_option maxRecDepth 100000
def BdAt (w:World)(b:Nat)(a:Nat->Int):Prop:=∀ i,i < 144->w.cell? ⟨b,4+i,none⟩=some (.int .i64 (a i))
theorem BdAt.fr {S:List Nat}{w c:World}{b:Nat}{a:Nat->Int}(h:BdAt w b a)(d:Fr S w c)(hn:b∉S):BdAt c b a:=fun i hi=>by
 have h1:=h i hi
 rw [d.cell b _ (aI h1) hn];exact h1
def ci (x y:Int):Nat:=y.toNat*12+x.toNat
theorem eK {x y:Int}(h:aD x y=true):ci x y < 144:=by rw [bM] at h;unfold ci;omega
theorem jX (x y:Int)(w:World)(B:Bool)(h:aD x y=B) :
    Cs 201 #[cv x y] w fun e a=>e=.returned (.bool B)/\Fr [] w a:=h ▸ ML x y w
theorem UA (b:Nat)(h:Nat->Int)(u:U)(c:Cm)(w:World)(f:BdAt w b h)(hb:b < w.heap.size)(d:aD c.x c.y=true) :
  Cs 157 #[.pointer (so b),u.val,c.val] w fun e g=>e=.returned (.bool (h (ci c.x c.y) != 10))/\Fr [] w g:=by
 have i:=eK d
 obtain ⟨m,n,o,p⟩:=bM.1 d
 have a:=f _ i
 obtain ⟨v,k⟩:∃ v,v=h (ci c.x c.y):=⟨_,rfl⟩
 rw [<- k] at a |-
 clear f k
 unfold ci at a
 rw [<- Nat.add_assoc] at a
 go_enter Tryz.func157,Tryz.ntmps157
 go_wp2
 go_region_held (fun g=>g.cell? ⟨w.heap.size+1,2,none⟩=some (ii c.x)/\g.cell? ⟨w.heap.size+1,3,none⟩=some (ii c.y)/\g.cell? ⟨b,4+c.y.toNat*12+c.x.toNat,none⟩=some (ii v)) (first|(go_keep;done)|(refine ⟨?_,?_,?_⟩ <;> (rw [l _ _ (by first|(simp;done)|(simp;omega))];simp [*])))
  (first|(go_at_call 201;refine (jX _ _ _ _ d).mono ?_;rintro e q ⟨rfl,j⟩;obtain ⟨l,hz⟩:=j.cells0))
 go_wp2
 go_ret
 exact ⟨rfl,((((r0 _ _).alloc _).alloc _).drew).then0 j⟩
theorem UB (b:Nat)(u:U)(c:Cm)(w:World)(k:aD c.x c.y=false) :
  Cs 157 #[.pointer (so b),u.val,c.val] w fun e h=>e=.returned (.bool false)/\Fr [] w h:=by
 go_enter Tryz.func157,Tryz.ntmps157
 go_wp2
 refine wp_region_held (S:=fun h=>h.cell? ⟨w.heap.size+1,2,none⟩=some (ii c.x)/\h.cell? ⟨w.heap.size+1,3,none⟩=some (ii c.y)) (by kernel_rfl) ?_
 have i:(fun h:World=>h.cell? ⟨w.heap.size+1,2,none⟩=some (ii c.x)/\h.cell? ⟨w.heap.size+1,3,none⟩=some (ii c.y)) ((w.alloc (.cells u.arr 85)).alloc (.cells #[ii c.unit,ii c.what,ii c.x,ii c.y,ii c.target] 81)).drew:=by
  simp
 refine ty 0 (.pointer (some ⟨w.heap.size+1,2,none⟩)) rfl ?_ i ?_
 ·intro w0 d;obtain ⟨f,g⟩:=d;go_simp
 simp only [Act.put]
 refine ty 1 (ii c.x) rfl ?_ i ?_
 ·intro w0 d;obtain ⟨f,g⟩:=d;go_simp
 simp only [Act.put]
 refine ty 2 (.pointer (some ⟨w.heap.size+1,3,none⟩)) rfl ?_ i ?_
 ·intro w0 d;obtain ⟨f,g⟩:=d;go_simp
 simp only [Act.put]
 refine ty 3 (ii c.y) rfl ?_ i ?_
 ·intro w0 d;obtain ⟨f,g⟩:=d;go_simp
 simp only [Act.put]
 refine ty 4 (.agg #[ii c.x,ii c.y]) rfl ?_ i ?_
 ·intro w0 d;obtain ⟨f,g⟩:=d;go_simp
 simp only [Act.put]
 refine wpAnyH_ready (rs:=[5]) (by kernel_rfl) (by simp) ?_
 refine AllReadyH.cons rfl (fun K hK=>?_) AllReadyH.nil
 rw [if_pos (by rfl)]
 go_wp2_with (go_at_call 201;refine (jX _ _ _ _ k).mono ?_;rintro e l ⟨rfl,j⟩)
 have a:(fun h:World=>h.cell? ⟨w.heap.size+1,2,none⟩=some (ii c.x)/\h.cell? ⟨w.heap.size+1,3,none⟩=some (ii c.y)) l:=by
  exact ⟨(j.cell (w.heap.size+1) 2 (by simp) (by simp)).trans i.1,(j.cell (w.heap.size+1) 3 (by simp) (by simp)).trans i.2⟩
 refine hK.out _ _ a (fun _=>?_)
 clear hK i
 refine ty 6 (.bool false) rfl ?_ a ?_
 ·intro w0 d;obtain ⟨f,g⟩:=d;go_simp
 simp only [Act.put]
 refine tz 7 a ?_
 simp only [Act.put]
 refine tz 8 a ?_
 simp only [Act.put]
 refine tz 9 a ?_
 simp only [Act.put]
 refine tz 10 a ?_
 simp only [Act.put]
 refine tz 11 a ?_
 simp only [Act.put]
 refine tz 12 a ?_
 simp only [Act.put]
 refine tz 13 a ?_
 simp only [Act.put]
 refine tz 14 a ?_
 simp only [Act.put]
 refine tz 15 a ?_
 simp only [Act.put]
 refine tz 16 a ?_
 simp only [Act.put]
 refine tz 17 a ?_
 simp only [Act.put]
 refine ty 18 (.bool false) rfl ?_ a ?_
 ·intro w0 d;obtain ⟨f,g⟩:=d;go_simp
 simp only [Act.put]
 refine ty 19 (.bool false) rfl ?_ a ?_
 ·intro w0 d;obtain ⟨f,g⟩:=d;go_simp
 simp only [Act.put]
 refine wpAnyH_done (by kernel_rfl) ?_ _
 go_wp2
 go_ret
 exact ⟨rfl,((((r0 _ _).alloc _).alloc _).drew).then0 j⟩
theorem TZ (b:Nat)(a:Nat->Int)(u:U)(c:Cm)(w:World)(d:BdAt w b a)(hb:b < w.heap.size) :
  Cs 157 #[.pointer (so b),u.val,c.val] w fun e f=>e=.returned (.bool (aD c.x c.y&&(a (ci c.x c.y) != 10)))/\Fr [] w f:=by
 cases h:aD c.x c.y
 ·simpa [h] using UB b u c w h
 simpa [h] using UA b a u c w d hb h
theorem TW (b:Nat)(h:Nat->Int)(u:U)(c:Cm)(w:World)(f:BdAt w b h)(hb:b < w.heap.size)(d:aD c.x c.y=true) :
  Cs 160 #[.pointer (so b),u.val,c.val] w fun e g=>e=.returned (.bool (decide (0 < h (ci c.x c.y))&&decide (h (ci c.x c.y) < 10)))/\Fr [] w g:=by
 have i:=eK d
 obtain ⟨m,n,o,p⟩:=bM.1 d
 have a:=f _ i
 obtain ⟨v,k⟩:∃ v,v=h (ci c.x c.y):=⟨_,rfl⟩
 rw [<- k] at a |-
 clear f k
 unfold ci at a
 rw [<- Nat.add_assoc] at a
 go_enter Tryz.func160,Tryz.ntmps160
 go_wp2
 go_region_held (fun g=>g.cell? ⟨w.heap.size+1,2,none⟩=some (ii c.x)/\g.cell? ⟨w.heap.size+1,3,none⟩=some (ii c.y)/\g.cell? ⟨b,4+c.y.toNat*12+c.x.toNat,none⟩=some (ii v)) (first|(go_keep;done)|(refine ⟨?_,?_,?_⟩ <;> (rw [l _ _ (by first|(simp;done)|(simp;omega))];simp [*])))
  (first|(go_at_call 201;refine (jX _ _ _ _ d).mono ?_;rintro e q ⟨rfl,j⟩;obtain ⟨l,hz⟩:=j.cells0)|(go_at_call 204;refine (wM _ _).mono ?_;rintro e q ⟨rfl,rfl⟩))
 go_wp2
 go_ret
 exact ⟨rfl,((((r0 _ _).alloc _).alloc _).drew).then0 j⟩
theorem TY (b:Nat)(u:U)(c:Cm)(w:World)(k:aD c.x c.y=false) :
  Cs 160 #[.pointer (so b),u.val,c.val] w fun e h=>e=.returned (.bool false)/\Fr [] w h:=by
 go_enter Tryz.func160,Tryz.ntmps160
 go_wp2
 refine wp_region_held (S:=fun h=>h.cell? ⟨w.heap.size+1,2,none⟩=some (ii c.x)/\h.cell? ⟨w.heap.size+1,3,none⟩=some (ii c.y)) (by kernel_rfl) ?_
 have i:(fun h:World=>h.cell? ⟨w.heap.size+1,2,none⟩=some (ii c.x)/\h.cell? ⟨w.heap.size+1,3,none⟩=some (ii c.y)) ((w.alloc (.cells u.arr 85)).alloc (.cells #[ii c.unit,ii c.what,ii c.x,ii c.y,ii c.target] 81)).drew:=by
  simp
 refine ty 0 (.pointer (some ⟨w.heap.size+1,2,none⟩)) rfl ?_ i ?_
 ·intro w0 d;obtain ⟨f,g⟩:=d;go_simp
 simp only [Act.put]
 refine ty 1 (ii c.x) rfl ?_ i ?_
 ·intro w0 d;obtain ⟨f,g⟩:=d;go_simp
 simp only [Act.put]
 refine ty 2 (.pointer (some ⟨w.heap.size+1,3,none⟩)) rfl ?_ i ?_
 ·intro w0 d;obtain ⟨f,g⟩:=d;go_simp
 simp only [Act.put]
 refine ty 3 (ii c.y) rfl ?_ i ?_
 ·intro w0 d;obtain ⟨f,g⟩:=d;go_simp
 simp only [Act.put]
 refine ty 4 (.agg #[ii c.x,ii c.y]) rfl ?_ i ?_
 ·intro w0 d;obtain ⟨f,g⟩:=d;go_simp
 simp only [Act.put]
 refine wpAnyH_ready (rs:=[5]) (by kernel_rfl) (by simp) ?_
 refine AllReadyH.cons rfl (fun K hK=>?_) AllReadyH.nil
 rw [if_pos (by rfl)]
 go_wp2_with (go_at_call 201;refine (jX _ _ _ _ k).mono ?_;rintro e l ⟨rfl,j⟩)
 have a:(fun h:World=>h.cell? ⟨w.heap.size+1,2,none⟩=some (ii c.x)/\h.cell? ⟨w.heap.size+1,3,none⟩=some (ii c.y)) l:=by
  exact ⟨(j.cell (w.heap.size+1) 2 (by simp) (by simp)).trans i.1,(j.cell (w.heap.size+1) 3 (by simp) (by simp)).trans i.2⟩
 refine hK.out _ _ a (fun _=>?_)
 clear hK i
 refine ty 6 (.bool false) rfl ?_ a ?_
 ·intro w0 d;obtain ⟨f,g⟩:=d;go_simp
 simp only [Act.put]
 refine tz 7 a ?_
 simp only [Act.put]
 refine tz 8 a ?_
 simp only [Act.put]
 refine tz 9 a ?_
 simp only [Act.put]
 refine tz 10 a ?_
 simp only [Act.put]
 refine tz 11 a ?_
 simp only [Act.put]
 refine tz 12 a ?_
 simp only [Act.put]
 refine tz 13 a ?_
 simp only [Act.put]
 refine tz 14 a ?_
 simp only [Act.put]
 refine tz 15 a ?_
 simp only [Act.put]
 refine tz 16 a ?_
 simp only [Act.put]
 refine tz 17 a ?_
 simp only [Act.put]
 refine ty 18 (.bool false) rfl ?_ a ?_
 ·intro w0 d;obtain ⟨f,g⟩:=d;go_simp
 simp only [Act.put]
 refine ty 19 (.bool false) rfl ?_ a ?_
 ·intro w0 d;obtain ⟨f,g⟩:=d;go_simp
 simp only [Act.put]
 refine wpAnyH_done (by kernel_rfl) ?_ _
 go_wp2
 go_ret
 exact ⟨rfl,((((r0 _ _).alloc _).alloc _).drew).then0 j⟩
theorem TU (b:Nat)(a:Nat->Int)(u:U)(c:Cm)(w:World)(d:BdAt w b a)(hb:b < w.heap.size) :
  Cs 160 #[.pointer (so b),u.val,c.val] w fun e f=>e=.returned (.bool (aD c.x c.y&&(decide (0 < a (ci c.x c.y))&&decide (a (ci c.x c.y) < 10))))/\Fr [] w f:=by
 cases h:aD c.x c.y
 ·simpa [h] using TY b u c w h
 simpa [h] using TW b a u c w d hb h
