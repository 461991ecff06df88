import Derived.Test.YtapabahhfanmmaaGreatDoorCMay4
namespace Go.Proofs.YtapabahhfanmmaaGreatDoor
open Go.RowKit
set_option maxRecDepth 100000
set_option maxHeartbeats 8000000
abbrev U.cm (u:U):Cm:=⟨u.id,u.what,u.tox,u.toy,u.target⟩
theorem dx1 (x y:Operand)(c d:Cm)(w:World):(eqGuard BinOp.eql 81 x y c.val d.val).run Tryz.prog w=.ok () w:=by kernel_rfl
theorem qjz3 (c:Cm)(w:World):(binOp BinOp.eql 81 c.val c.val).run Tryz.prog w=.ok (.bool true) w:=by
  simp [go_sem]
def cmB (c d:Cm):Bool:=decide (c.unit=d.unit/\c.what=d.what/\c.x=d.x/\c.y=d.y/\c.target=d.target)
theorem vq6 (c d:Cm):cmB c d=true↔c=d:=by
 obtain ⟨a1,a2,a3,a4,a5⟩:=c
 obtain ⟨b1,b2,b3,b4,b5⟩:=d
 simp [cmB]
theorem qjz2 (c d:Cm)(w:World):(binOp BinOp.eql 81 c.val d.val).run Tryz.prog w=.ok (.bool (cmB c d)) w:=by
 by_cases h:c=d
 ·subst h
  rw [(vq6 c c).2 rfl]
  exact qjz3 c w
 ·rw [show cmB c d=false from by cases hb:cmB c d;rfl;exact absurd ((vq6 c d).1 hb) h]
  obtain ⟨a1,a2,a3,a4,a5⟩:=c
  obtain ⟨b1,b2,b3,b4,b5⟩:=d
  have h':¬ (a1=b1/\a2=b2/\a3=b3/\a4=b4/\a5=b5):=fun ⟨h1,h2,h3,h4,h5⟩=>h (by rw [h1,h2,h3,h4,h5])
  by_cases h1:a1=b1
  ·by_cases h2:a2=b2
   ·by_cases h3:a3=b3
    ·by_cases h4:a4=b4
     ·have h5:¬ a5=b5:=fun h5=>h' ⟨h1,h2,h3,h4,h5⟩
      simp [go_sem,h1,h2,h3,h4,h5]
     ·simp [go_sem,h1,h2,h3,h4]
    ·simp [go_sem,h1,h2,h3]
   ·simp [go_sem,h1,h2]
  ·simp [go_sem,h1]
theorem yx8 (gb:Nat) (u:U) (f1 f0 f2 f3:Value) (can:Bool) (K:Value) (Q:Prop) (w:World) (hfs:(∃ n1 n0 n2 n3:Nat,f1=fv n1/\f0=fv n0/\f2=fv n2/\f3=fv n3)\/(f1=.nilFunc/\f0=.nilFunc/\f2=.nilFunc/\f3=.nilFunc)) (hk:∀ w,Calls Tryz.prog 121 #[.int .i64 u.kind] w fun e w'=>e=.returned K/\Fr [] w w')
  (hs:∀ w,Calls Tryz.prog 193 #[K,.int .i64 u.what] w fun e w'=>e=.returned (.tuple #[.agg #[f1,f0,f2,f3],.bool can])/\Fr [] w w')
  (hq:(can=false/\¬ Q)\/(can=true/\∃ (n0 n2:Nat) (c':Cm) (B:Bool),f0=fv n0/\f2=fv n2/\(Q↔(c'=u.cm/\B=true)) /\
   (∀ w',Fr [] w w'->Calls Tryz.prog n0 #[.pointer (some ⟨gb,0,none⟩),u.val,u.cm.val] w' fun e w''=>e=.returned (.bool B)/\Fr [] w' w'')/\(∀ w',Calls Tryz.prog n2 #[u.cm.val] w' fun e w''=>e=.returned c'.val/\Fr [] w' w'') /\
   (∀ (args:Array Value) (w:World),(callFunc n0 args).run Tryz.prog w=.ok (.enter n0 args) w)/\(∀ (args:Array Value) (w:World),(callFunc n2 args).run Tryz.prog w=.ok (.enter n2 args) w))) :
  Calls Tryz.prog 211 #[.pointer (some ⟨gb,0,none⟩),u.val] w fun e w'=>BP Q w e w':=by
 have HQ:=hid hq
 clear hq
 go_enter Tryz.func211,Tryz.ntmps211
 go_wp2_with fail
 obtain ⟨W2,hW2⟩:∃ W,W=(w.alloc (.cells u.arr 85)).alloc (.cells #[ii u.id,ii u.what,ii u.tox,ii u.toy,ii u.target] 81):=⟨_,rfl⟩
 rw [<- hW2]
 have hw2:Fr [] w W2:=by rw [hW2];exact ((Fr.refl _ _).alloc _).alloc _
 have hU2:W2.heap[w.heap.size]?=some (.cells u.arr 85):=by rw [hW2];exact (qz7 _ _ _ (by simp)).trans (qq6 _ _)
 have hC2:W2.heap[w.heap.size+1]?=some (.cells #[ii u.id,ii u.what,ii u.tox,ii u.toy,ii u.target] 81):=by rw [hW2];exact qz4 _ _ _
 obtain ⟨b2,hb2⟩:∃ b,b=w.heap.size:=⟨_,rfl⟩
 rw [<- hb2] at hU2 hC2 |-
 obtain ⟨cb,hcb⟩:∃ b,b=b2+1:=⟨_,rfl⟩
 rw [<- hcb] at hC2 |-
 have hs2:cb < W2.heap.size:=qq2 hC2
 have hs2b:b2 < W2.heap.size:=qq2 hU2
 clear hW2 hb2 hcb
 have HS:∀ w',Fr [] W2 w'->(fun w':World=>cl w' b2 2 u.kind/\cl w' b2 7 u.what/\Fr [] W2 w') w':=fun w' hf=>⟨j9 (hf.heap0 hU2),j9 (hf.heap0 hU2),hf⟩
 have KF:Fr [] W2 W2.drew:=(Fr.refl _ _).drew
 have K0:=HS _ KF
 go_cut [6,7] (fun s6 s7 wx=>∃ g:Nat,s6=.pointer (some ⟨g,0,none⟩)/\s7=.bool can/\wx.heap[g]?=some (.cells #[f1,f0,f2,f3] 217)/\Fr [] W2 wx)
 case first =>
  rcases hfs with ⟨m1,m0,m2,m3,rfl,rfl,rfl,rfl⟩|⟨rfl,rfl,rfl,rfl⟩
  all_goals
   go_region_held (fun w':World=>w'.cell? ⟨b2,2,none⟩=some (ii u.kind)/\w'.cell? ⟨b2,7,none⟩=some (ii u.what)/\Fr [] W2 w')
    (first|exact K0|exact HS _ hfr2|exact HS _ (hfr2.alloc _)|exact HS _ hfr1|exact HS _ (hfr1.alloc _)|exact HS _ (KF.alloc _)|exact HS _ ((((hfr2.setCell _ _ (Or.inr (by first|exact Nat.le_refl _|exact hfr1.size))).setCell _ _ (Or.inr (by first|exact Nat.le_refl _|exact hfr1.size))).setCell _ _ (Or.inr (by first|exact Nat.le_refl _|exact hfr1.size))).setCell _ _ (Or.inr (by first|exact Nat.le_refl _|exact hfr1.size))))
    (first|(go_at_call 121;refine (hk _).mono ?_;rintro e w1 ⟨rfl,hf1⟩;obtain ⟨hc1,hz1⟩:=hf1.cells0;have q1:b2 < w1.heap.size:=(by have:=hf1.size;simp at this;omega);(first|(have q2:W2.heap.size < w1.heap.size:=(by have:=hf1.size;simp at this;omega))|skip);have hfr1:Fr [] W2 w1:=Fr.then0 (And.right (And.right (by assumption))) hf1)|(go_at_call 193;refine (hs _).mono ?_;rintro e w2 ⟨rfl,hf2⟩;obtain ⟨hc2,hz2⟩:=hf2.cells0;have q3:=hf2.size;have hfr2:Fr [] W2 w2:=Fr.then0 (And.right (And.right (by assumption))) hf2))
   all_goals
    go_wp2_with fail
    go_meet
    refine ⟨_,rfl,rfl,?_,?_⟩
    ·first
     | with_reducible exact qq6 _ _
     | exact fy2 (hf2.heap0 (qq6 w1 _)) _ _ _ _
     | exact fy2 (hf2.heap0 (hf1.heap0 (qq6 W2 _))) _ _ _ _
    ·first
     | with_reducible exact hfr2.alloc _
     | exact (((hfr2.setCell _ _ (Or.inr (by first|exact Nat.le_refl _|exact hfr1.size))).setCell _ _ (Or.inr (by first|exact Nat.le_refl _|exact hfr1.size))).setCell _ _ (Or.inr (by first|exact Nat.le_refl _|exact hfr1.size))).setCell _ _ (Or.inr (by first|exact Nat.le_refl _|exact hfr1.size))
 case rest =>
  obtain ⟨g,rfl,rfl,hg,hf3⟩:=hcut
  clear HS K0 KF hk hs hfs
  have hU3:=hf3.heap0 hU2
  have hC3:=hf3.heap0 hC2
  have hw3:=hw2.then0 hf3
  obtain ⟨W3,hW3⟩:∃ W,W=wc:=⟨_,rfl⟩
  rw [<- hW3] at hU3 hC3 hw3 hg |-
  clear hW3 hf3 hU2 hC2 hw2
  have HS:∀ w',Fr [] W3 w'->(fun w':World=>((w'.cell? ⟨g,1,none⟩=some f0/\w'.cell? ⟨g,2,none⟩=some f2)/\(cl w' b2 0 u.id/\cl w' b2 1 u.owner/\cl w' b2 2 u.kind/\cl w' b2 3 u.x/\cl w' b2 4 u.y/\cl w' b2 5 u.life/\cl w' b2 6 u.load/\cl w' b2 7 u.what/\cl w' b2 8 u.tox/\cl w' b2 9 u.toy/\cl w' b2 10 u.target)/\(cl w' cb 0 u.id/\cl w' cb 1 u.what/\cl w' cb 2 u.tox/\cl w' cb 3 u.toy/\cl w' cb 4 u.target))/\Fr [] W3 w') w':=fun w' hf=>⟨⟨⟨j9 (hf.heap0 hg),j9 (hf.heap0 hg)⟩,⟨j9 (hf.heap0 hU3),j9 (hf.heap0 hU3),j9 (hf.heap0 hU3),j9 (hf.heap0 hU3),j9 (hf.heap0 hU3),j9 (hf.heap0 hU3),j9 (hf.heap0 hU3),j9 (hf.heap0 hU3),j9 (hf.heap0 hU3),j9 (hf.heap0 hU3),j9 (hf.heap0 hU3)⟩,j9 (hf.heap0 hC3),j9 (hf.heap0 hC3),j9 (hf.heap0 hC3),j9 (hf.heap0 hC3),j9 (hf.heap0 hC3)⟩,hf⟩
  have K0:=HS _ (Fr.refl [] W3).drew
  go_wp2_with fail
  rcases HQ.out with ⟨rfl,hno⟩|⟨rfl,n0,n2,c',B,rfl,rfl,hqq,h0,h2,e0,e2⟩
  ·skip
   refine wp_region_held_drew (S:=fun w':World=>((w'.cell? ⟨g,1,none⟩=some f0/\w'.cell? ⟨g,2,none⟩=some f2)/\(cl w' b2 0 u.id/\cl w' b2 1 u.owner/\cl w' b2 2 u.kind/\cl w' b2 3 u.x/\cl w' b2 4 u.y/\cl w' b2 5 u.life/\cl w' b2 6 u.load/\cl w' b2 7 u.what/\cl w' b2 8 u.tox/\cl w' b2 9 u.toy/\cl w' b2 10 u.target)/\(cl w' cb 0 u.id/\cl w' cb 1 u.what/\cl w' cb 2 u.tox/\cl w' cb 3 u.toy/\cl w' cb 4 u.target))/\Fr [] W3 w') (by kernel_rfl) K0 (fun hH=>?_)
   refine (show wpAnyH Tryz.prog Region.Mode.any _ _ _ 18 (Array.replicate 18 false) _ _ from ?_)
   iterate 18 (refine tn 18 hH ?_;try simp only [Act.put,Z])
   refine wpAnyH_done (by kernel_rfl) ?_ _
   go_wp2_with fail
   go_ret
   exact ⟨false,rfl,⟨fun h=>(by cases h),fun h=>(by first|exact (hno h).elim|exact h.elim|simp_all)⟩,hw3.then0 hH.2⟩
  ·skip
   have H0:=hid h0
   have H2:=hid h2
   have HQQ:=hid hqq
   clear h0 h2 hqq HQ
   have hgd:=fun (x y:Operand) (w0:World)=>dx1 x y c' u.cm w0
   have heq:=qjz2 c' u.cm
   by_cases hcc:c'=u.cm
   ·skip
    have hd:cmB c' u.cm=true:=(vq6 _ _).2 hcc
    have HCC:=hid hcc
    clear hcc
    rw [hd] at heq
    clear hd
    refine wp_region_held_drew (S:=fun w':World=>((w'.cell? ⟨g,1,none⟩=some (fv n0)/\w'.cell? ⟨g,2,none⟩=some (fv n2))/\(cl w' b2 0 u.id/\cl w' b2 1 u.owner/\cl w' b2 2 u.kind/\cl w' b2 3 u.x/\cl w' b2 4 u.y/\cl w' b2 5 u.life/\cl w' b2 6 u.load/\cl w' b2 7 u.what/\cl w' b2 8 u.tox/\cl w' b2 9 u.toy/\cl w' b2 10 u.target)/\(cl w' cb 0 u.id/\cl w' cb 1 u.what/\cl w' cb 2 u.tox/\cl w' cb 3 u.toy/\cl w' cb 4 u.target))/\Fr [] W3 w') (by kernel_rfl) K0 (fun hH=>?_)
    refine (show wpAnyH Tryz.prog Region.Mode.any _ _ _ 18 (Array.replicate 18 false) _ _ from ?_)
    iterate 5 (refine tn 18 hH ?_;try simp only [Act.put,Z])
    refine ta 6 hH ?_;try simp only [Act.put,Z]
    refine wpAnyH_ready (rs:=[5]) (by kernel_rfl) (by simp) ?_
    refine AllReadyH.cons (by simp only [G];rfl) (fun K hK=>?_) AllReadyH.nil
    have HKK:=hid hK
    clear hK
    go_simp
    refine Calls.mono (H2.out _) ?_
    rintro e wc5 ⟨rfl,hfc5⟩
    dsimp only
    have hfr5:=hH.2.then0 hfc5
    clear hH
    refine HKK.out _ _ (HS _ hfr5) (fun hH=>?_)
    clear HKK K;try simp only [Act.put,Z]
    iterate 8 (refine tn 18 hH ?_;try simp only [Act.put,Z])
    refine wpAnyH_ready (rs:=[15]) (by kernel_rfl) (by simp) ?_
    refine AllReadyH.cons (by simp only [G];rfl) (fun K hK=>?_) AllReadyH.nil
    have HKK:=hid hK
    clear hK
    go_simp
    refine Calls.mono (H0.out _ (hw3.then0 hH.2)) ?_
    rintro e wc15 ⟨rfl,hfc15⟩
    dsimp only
    have hfr15:=hH.2.then0 hfc15
    clear hH
    refine HKK.out _ _ (HS _ hfr15) (fun hH=>?_)
    clear HKK K;try simp only [Act.put,Z]
    iterate 2 (refine tn 18 hH ?_;try simp only [Act.put,Z])
    refine wpAnyH_done (by kernel_rfl) ?_ _
    go_wp2_with fail
    go_ret
    exact ⟨B,rfl,⟨fun h=>HQQ.out.2 ⟨HCC.out,h⟩,fun h=>(HQQ.out.1 h).2⟩,hw3.then0 hH.2⟩
   ·skip
    have hd:cmB c' u.cm=false:=by cases hb:cmB c' u.cm;rfl;exact absurd ((vq6 _ _).1 hb) hcc
    have HCC:=hid hcc
    clear hcc
    rw [hd] at heq
    clear hd
    refine wp_region_held_drew (S:=fun w':World=>((w'.cell? ⟨g,1,none⟩=some (fv n0)/\w'.cell? ⟨g,2,none⟩=some (fv n2))/\(cl w' b2 0 u.id/\cl w' b2 1 u.owner/\cl w' b2 2 u.kind/\cl w' b2 3 u.x/\cl w' b2 4 u.y/\cl w' b2 5 u.life/\cl w' b2 6 u.load/\cl w' b2 7 u.what/\cl w' b2 8 u.tox/\cl w' b2 9 u.toy/\cl w' b2 10 u.target)/\(cl w' cb 0 u.id/\cl w' cb 1 u.what/\cl w' cb 2 u.tox/\cl w' cb 3 u.toy/\cl w' cb 4 u.target))/\Fr [] W3 w') (by kernel_rfl) K0 (fun hH=>?_)
    refine (show wpAnyH Tryz.prog Region.Mode.any _ _ _ 18 (Array.replicate 18 false) _ _ from ?_)
    iterate 5 (refine tn 18 hH ?_;try simp only [Act.put,Z])
    refine ta 6 hH ?_;try simp only [Act.put,Z]
    refine wpAnyH_ready (rs:=[5]) (by kernel_rfl) (by simp) ?_
    refine AllReadyH.cons (by simp only [G];rfl) (fun K hK=>?_) AllReadyH.nil
    have HKK:=hid hK
    clear hK
    go_simp
    refine Calls.mono (H2.out _) ?_
    rintro e wc5 ⟨rfl,hfc5⟩
    dsimp only
    have hfr5:=hH.2.then0 hfc5
    clear hH
    refine HKK.out _ _ (HS _ hfr5) (fun hH=>?_)
    clear HKK K;try simp only [Act.put,Z]
    iterate 11 (refine tn 18 hH ?_;try simp only [Act.put,Z])
    refine wpAnyH_done (by kernel_rfl) ?_ _
    go_wp2_with fail
    go_ret
    exact ⟨false,rfl,⟨fun h=>(by cases h),fun h=>(HCC.out (HQQ.out.1 h).1).elim⟩,hw3.then0 hH.2⟩
def vq1 (us:List U)(nx o id:Int):Bool:=match look us id with|some v=>v.owner != o|none=>decide (1<=id)&&decide (id < nx)
theorem xx4 {us:List U}{nx o id:Int}(hs:Rise us){i:Nat}(h:qz0 us id=some i):jy9 us o id=vq1 us nx o id:=by
 obtain ⟨v,hv,e⟩:=qv8 h
 have:look us id=some v:=by rw [<- e];exact yw0 hs hv
 unfold jy9 vq1
 rw [this]
theorem xx3 {us:List U}{nx o id:Int}(h:qz0 us id=none):vq1 us nx o id=(decide (1<=id)&&decide (id < nx)):=by
 have:look us id=none:=xx9 (fun u hu e=>by
  unfold qz0 at h
  rw [List.findIdx?_eq_none_iff] at h
  have:=h u hu
  simp [e] at this)
 unfold vq1
 rw [this]
theorem kk4 {us:List U}{nx o id:Int}(hid:∀ v∈us,1<=v.id/\v.id < nx)(hs:Rise us):vq1 us nx o id=true↔(1<=id/\id < nx/\∀ v∈us,v.id=id->v.owner≠o):=by
 unfold vq1
 cases h:look us id with
 | some v =>
  have hm:v∈us:=List.mem_of_find?_eq_some h
  have he:v.id=id:=by have:=List.find?_some h;simpa using this
  have:=hid v hm
  rw [he] at this
  constructor
  ·intro hb
   refine ⟨this.1,this.2,fun u hu e=>?_⟩
   obtain ⟨i,hi⟩:=List.getElem?_of_mem hu
   have:=yw0 hs hi
   rw [e,h] at this
   rw [<- Option.some.inj this]
   simpa using hb
  ·rintro ⟨_,_,h3⟩
   simpa using h3 v hm he
 | none =>
  have hno:∀ v∈us,v.id≠id:=fun v hv e=>by
   unfold look at h
   rw [List.find?_eq_none] at h
   have:=h v hv
   simp [e] at this
  simp only [Bool.and_eq_true,decide_eq_true_eq]
  constructor
  ·rintro ⟨a,b⟩
   exact ⟨a,b,fun v hv e=>absurd e (hno v hv)⟩
  ·rintro ⟨a,b,_⟩
   exact ⟨a,b⟩
theorem xq2 (b pb cap:Nat)(us:List U)(u:U)(c:Cm)(nx:Int)(w:World)(hg:GV w b pb cap us)(hs:Rise us)(hn:w.cell? ⟨b,1,none⟩=some (ii nx)) :
  Calls Tryz.prog 164 #[.pointer (some ⟨b,0,none⟩),u.val,c.val] w fun e w'=>e=.returned (.bool (vq1 us nx u.owner c.target))/\Fr [] w w':=by
 have hgl:=qq1 hg.c
 have hf0:Fr [] w ((w.alloc (.cells u.arr 85)).alloc (.cells #[ii c.unit,ii c.what,ii c.x,ii c.y,ii c.target] 81)):=((Fr.refl _ _).alloc _).alloc _
 have H3:Hid (∀ i:Nat,qz0 us c.target=some i->jy9 us u.owner c.target=vq1 us nx u.owner c.target):=fun i hi=>xx4 hs hi
 have H4:Hid (qz0 us c.target=none->vq1 us nx u.owner c.target=(decide (1<=c.target)&&decide (c.target < nx))):=fun h=>xx3 h
 have HF:Hid (∀ w',Fr [] w w'->Calls Tryz.prog 152 #[.pointer (some ⟨b,0,none⟩),.int .i64 c.target] w' fun e w''=>∃ (i:Nat) (f:Bool),e=.returned (.tuple #[.int .i64 i,.bool f])/\Fr [] w' w''/\qz0 us c.target=(if f=true then some i else none)):=fun w' hf=>yx3 b pb cap us c.target w' (hg.fr0 hf) hs
 have HT:Hid (∀ w',Fr [] w w'->Calls Tryz.prog 163 #[.pointer (some ⟨b,0,none⟩),u.val,c.val] w' fun e w''=>e=.returned (.bool (jy9 us u.owner c.target))/\Fr [] w' w''):=fun w' hf=>yv0 b pb cap us u c w' (hg.fr0 hf) hs
 clear hg
 obtain ⟨A,hA⟩:∃ A,A=vq1 us nx u.owner c.target:=⟨_,rfl⟩
 rw [<- hA] at H3 H4 |-
 clear hA
 go_enter Tryz.func164,Tryz.ntmps164
 go_wp2_with fail
 refine Calls.mono (HF.out _ hf0) ?_
 rintro e w1 ⟨i,f,rfl,hf1,hpl⟩
 dsimp only
 have hw1:=hf0.then0 hf1
 have hU1:=hf1.heap0 (show ((w.alloc (.cells u.arr 85)).alloc (.cells #[ii c.unit,ii c.what,ii c.x,ii c.y,ii c.target] 81)).heap[w.heap.size]?=some (.cells u.arr 85) from (qz7 _ _ _ (by simp)).trans (qq6 _ _))
 have hC1:=hf1.heap0 (qz4 w (.cells u.arr 85) (.cells #[ii c.unit,ii c.what,ii c.x,ii c.y,ii c.target] 81))
 have ct:w1.cell? ⟨w.heap.size+1,4,none⟩=some (ii c.target):=j9 hC1
 have hnx:=(hw1.cell _ _ hgl (by simp)).trans hn
 cases f
 ·have HV:Hid (A=(decide (1<=c.target)&&decide (c.target < nx))):=H4.out (by simpa using hpl)
  clear hU1 hC1 hpl
  have hcl:w.heap.size+1 < w1.heap.size:=qq1 ct
  have hbl:b < w1.heap.size:=qq1 hnx
  have K0:(fun w':World=>(w'.cell? ⟨w.heap.size+1,4,none⟩=some (ii c.target)/\w'.cell? ⟨b,1,none⟩=some (ii nx))/\Fr [] w1 w') w1.drew:=⟨⟨ct,hnx⟩,(Fr.refl _ _).drew⟩
  go_wp2_with fail
  by_cases ht1:(1:Int)<=c.target
  ·by_cases ht2:c.target < nx
   ·skip
    refine wp_region_held_drew (S:=fun w':World=>(cl w' (w.heap.size+1) 4 c.target/\cl w' b 1 nx)/\Fr [] w1 w') (by kernel_rfl) K0 (fun hH=>?_)
    refine (show wpAnyH Tryz.prog Region.Mode.any _ _ _ 13 (Array.replicate 13 false) _ _ from ?_)
    iterate 13 (refine tn 13 hH ?_;try simp only [Act.put,Z])
    refine wpAnyH_done (by kernel_rfl) ?_ _
    go_wp2_with fail
    go_ret
    exact ⟨by rw [HV.out];first|(simp [ht1];omega)|(simp [ht1];done)|(simp;omega),hw1.then0 hH.2⟩
   ·skip
    refine wp_region_held_drew (S:=fun w':World=>(cl w' (w.heap.size+1) 4 c.target/\cl w' b 1 nx)/\Fr [] w1 w') (by kernel_rfl) K0 (fun hH=>?_)
    refine (show wpAnyH Tryz.prog Region.Mode.any _ _ _ 13 (Array.replicate 13 false) _ _ from ?_)
    iterate 13 (refine tn 13 hH ?_;try simp only [Act.put,Z])
    refine wpAnyH_done (by kernel_rfl) ?_ _
    go_wp2_with fail
    go_ret
    exact ⟨by rw [HV.out];first|(simp [ht1];omega)|(simp [ht1];done)|(simp;omega),hw1.then0 hH.2⟩
  ·skip
   refine wp_region_held_drew (S:=fun w':World=>(cl w' (w.heap.size+1) 4 c.target/\cl w' b 1 nx)/\Fr [] w1 w') (by kernel_rfl) K0 (fun hH=>?_)
   refine (show wpAnyH Tryz.prog Region.Mode.any _ _ _ 13 (Array.replicate 13 false) _ _ from ?_)
   iterate 13 (refine tn 13 hH ?_;try simp only [Act.put,Z])
   refine wpAnyH_done (by kernel_rfl) ?_ _
   go_wp2_with fail
   go_ret
   exact ⟨by rw [HV.out];simp;omega,hw1.then0 hH.2⟩
 ·rw [if_pos rfl] at hpl
  have ht:=H3.out i hpl
  have HT1:=HT.out _ hw1
  rw [ht] at HT1
  obtain ⟨a0,a1,a2,a3,a4,a5,a6,a7,a8,a9,a10⟩:w1.cell? ⟨w.heap.size,0,none⟩=some (ii u.id)/\w1.cell? ⟨w.heap.size,1,none⟩=some (ii u.owner)/\w1.cell? ⟨w.heap.size,2,none⟩=some (ii u.kind)/\w1.cell? ⟨w.heap.size,3,none⟩=some (ii u.x)/\w1.cell? ⟨w.heap.size,4,none⟩=some (ii u.y)/\w1.cell? ⟨w.heap.size,5,none⟩=some (ii u.life)/\w1.cell? ⟨w.heap.size,6,none⟩=some (ii u.load)/\w1.cell? ⟨w.heap.size,7,none⟩=some (ii u.what)/\w1.cell? ⟨w.heap.size,8,none⟩=some (ii u.tox)/\w1.cell? ⟨w.heap.size,9,none⟩=some (ii u.toy)/\w1.cell? ⟨w.heap.size,10,none⟩=some (ii u.target) :=
   ⟨j9 hU1,j9 hU1,j9 hU1,j9 hU1,j9 hU1,j9 hU1,j9 hU1,j9 hU1,j9 hU1,j9 hU1,j9 hU1⟩
  have d0:w1.cell? ⟨w.heap.size+1,0,none⟩=some (ii c.unit):=j9 hC1
  have d1:w1.cell? ⟨w.heap.size+1,1,none⟩=some (ii c.what):=j9 hC1
  have d2:w1.cell? ⟨w.heap.size+1,2,none⟩=some (ii c.x):=j9 hC1
  have d3:w1.cell? ⟨w.heap.size+1,3,none⟩=some (ii c.y):=j9 hC1
  clear hU1 hC1 hpl
  go_wp2_with fail
  refine Calls.mono HT1 ?_
  rintro e w2 ⟨rfl,hf2⟩
  dsimp only
  go_wp2_with fail
  go_ret
  exact ⟨rfl,hw1.then0 hf2⟩
abbrev zk2 (t:T)(u:U):Prop:=jk9 u/\OrdS t u
theorem zz2 {t:T}{u:U}(h:¬ (u.what=0\/(u.what=1/\(u.kind=2\/u.kind=3))\/(u.what=2/\u.kind=2)\/(u.what=3/\u.kind=3)\/(u.what=4/\u.kind=1))):¬ zk2 t u:=by
 rintro ⟨ho,_⟩
 rcases ho with e|⟨e,f⟩|⟨e,f,_⟩|⟨e,f⟩|⟨e,f,_⟩
 ·exact h (Or.inl e)
 ·exact h (Or.inr (Or.inl ⟨e,f⟩))
 ·exact h (Or.inr (Or.inr (Or.inl ⟨e,f⟩)))
 ·exact h (Or.inr (Or.inr (Or.inr (Or.inl ⟨e,f⟩))))
 ·exact h (Or.inr (Or.inr (Or.inr (Or.inr ⟨e,f⟩))))
theorem gk9 {t:T}{u:U}(h:u.what=0):zk2 t u↔((⟨u.cm.unit,u.cm.what,0,0,0⟩:Cm)=u.cm/\true=true):=by
 constructor
 ·rintro ⟨_,⟨_,b,c,d⟩|⟨a,_⟩|⟨a,_⟩|⟨a,_⟩⟩
  ·exact ⟨by show (⟨u.id,u.what,0,0,0⟩:Cm)=⟨u.id,u.what,u.tox,u.toy,u.target⟩;rw [b,c,d],rfl⟩
  all_goals omega
 ·rintro ⟨e,_⟩
  have e':(⟨u.id,u.what,0,0,0⟩:Cm)=⟨u.id,u.what,u.tox,u.toy,u.target⟩:=e
  injection e' with _ _ h3 h4 h5
  exact ⟨Or.inl h,Or.inl ⟨h,h3.symm,h4.symm,h5.symm⟩⟩
theorem vk7 {t:T}{u:U}(h:u.what=1/\(u.kind=2\/u.kind=3)\/u.what=2/\u.kind=2):zk2 t u↔((⟨u.cm.unit,u.cm.what,u.cm.x,u.cm.y,0⟩:Cm)=u.cm/\(onB u.cm.x u.cm.y&&(t.bd (ci u.cm.x u.cm.y) != 10))=true):=by
 constructor
 ·rintro ⟨_,⟨a,_⟩|⟨_,b,c,d⟩|⟨a,_⟩|⟨a,_⟩⟩
  ·omega
  ·refine ⟨by show (⟨u.id,u.what,u.tox,u.toy,0⟩:Cm)=⟨u.id,u.what,u.tox,u.toy,u.target⟩;rw [d],?_⟩
   show (onB u.tox u.toy&&(t.bd (ci u.tox u.toy) != 10))=true
   simp [b,c]
  all_goals omega
 ·rintro ⟨e,hb⟩
  have e':(⟨u.id,u.what,u.tox,u.toy,0⟩:Cm)=⟨u.id,u.what,u.tox,u.toy,u.target⟩:=e
  injection e' with _ _ h3 h4 h5
  have hb':(onB u.tox u.toy&&(t.bd (ci u.tox u.toy) != 10))=true:=hb
  simp only [Bool.and_eq_true,bne_iff_ne] at hb'
  refine ⟨?_,Or.inr (Or.inl ⟨by omega,hb'.1,hb'.2,h5.symm⟩)⟩
  rcases h with h|h
  ·exact Or.inr (Or.inl h)
  ·exact Or.inr (Or.inr (Or.inl ⟨h.1,h.2,hb'.1⟩))
theorem dv9 {t:T}{u:U}(h:u.what=3/\u.kind=3)(hid:∀ v∈t.us,1<=v.id/\v.id < t.next)(hs:Rise t.us):zk2 t u↔((⟨u.cm.unit,u.cm.what,0,0,u.cm.target⟩:Cm)=u.cm/\vq1 t.us t.next u.owner u.cm.target=true):=by
 constructor
 ·rintro ⟨_,⟨a,_⟩|⟨a,_⟩|⟨_,b,c,d⟩|⟨a,_⟩⟩
  ·omega
  ·omega
  ·refine ⟨by show (⟨u.id,u.what,0,0,u.target⟩:Cm)=⟨u.id,u.what,u.tox,u.toy,u.target⟩;rw [b,c],(kk4 hid hs).2 d⟩
  ·omega
 ·rintro ⟨e,hb⟩
  have e':(⟨u.id,u.what,0,0,u.target⟩:Cm)=⟨u.id,u.what,u.tox,u.toy,u.target⟩:=e
  injection e' with _ _ h3 h4 h5
  exact ⟨Or.inr (Or.inr (Or.inr (Or.inl h))),Or.inr (Or.inr (Or.inl ⟨h.1,h3.symm,h4.symm,(kk4 hid hs).1 hb⟩))⟩
theorem dv8 {t:T}{u:U}(h:u.what=4/\u.kind=1):zk2 t u↔((⟨u.cm.unit,u.cm.what,u.cm.x,0,0⟩:Cm)=u.cm/\(u.cm.x==2||u.cm.x==3)=true):=by
 constructor
 ·rintro ⟨ho,hs⟩
  have k:u.tox=2\/u.tox=3:=by
   rcases ho with a|⟨a,_⟩|⟨a,_⟩|⟨a,_⟩|⟨_,_,k⟩
   ·omega
   ·omega
   ·omega
   ·omega
   ·exact k
  obtain ⟨b,c⟩:u.toy=0/\u.target=0:=by
   rcases hs with ⟨a,_⟩|⟨a,_⟩|⟨a,_⟩|⟨_,b,c⟩
   ·omega
   ·omega
   ·omega
   ·exact ⟨b,c⟩
  refine ⟨by show (⟨u.id,u.what,u.tox,0,0⟩:Cm)=⟨u.id,u.what,u.tox,u.toy,u.target⟩;rw [b,c],?_⟩
  show (u.tox==2||u.tox==3)=true
  simpa using k
 ·rintro ⟨e,hb⟩
  have e':(⟨u.id,u.what,u.tox,0,0⟩:Cm)=⟨u.id,u.what,u.tox,u.toy,u.target⟩:=e
  injection e' with _ _ h3 h4 h5
  have hb':(u.tox==2||u.tox==3)=true:=hb
  exact ⟨Or.inr (Or.inr (Or.inr (Or.inr ⟨h.1,h.2,by simpa using hb'⟩))),Or.inr (Or.inr (Or.inr ⟨h.1,h4.symm,h5.symm⟩))⟩
theorem fv9 (gb pb cap:Nat)(t:T)(u:U)(w:World)(h:GS w gb pb cap t)(hri:Rise t.us)(hid:∀ v∈t.us,1<=v.id/\v.id < t.next)(hkd:u.kind=1\/u.kind=2\/u.kind=3) :
  Calls Tryz.prog 211 #[.pointer (some ⟨gb,0,none⟩),u.val] w fun e w'=>BP (zk2 t u) w e w':=by
 have hbd:BdAt w gb t.bd:=fun i hi=>by
  have:=h.cell (4+i) (by omega)
  rw [this]
  unfold qq9
  rw [if_neg (by omega),if_neg (by omega),if_neg (by omega),if_neg (by omega),if_pos (by omega),show 4+i - 4=i by omega]
 have hgl:=h.lt
 have hnx:w.cell? ⟨gb,1,none⟩=some (ii t.next):=by have:=h.cell 1 (by omega);simpa [qq9] using this
 have any0:∀ w',Fr [] w w'->Calls Tryz.prog 167 #[.pointer (some ⟨gb,0,none⟩),u.val,u.cm.val] w' fun e w''=>e=.returned (.bool true)/\Fr [] w' w'':=fun w' _=>yk9 _ u u.cm w'
 have mv:∀ w',Fr [] w w'->Calls Tryz.prog 157 #[.pointer (some ⟨gb,0,none⟩),u.val,u.cm.val] w' fun e w''=>e=.returned (.bool (onB u.cm.x u.cm.y&&(t.bd (ci u.cm.x u.cm.y) != 10)))/\Fr [] w' w'':=fun w' hf=>jj2 gb t.bd u u.cm w' (hbd.fr hf (by simp)) (Nat.lt_of_lt_of_le hgl hf.size)
 have mi:∀ w',Fr [] w w'->Calls Tryz.prog 161 #[.pointer (some ⟨gb,0,none⟩),u.val,u.cm.val] w' fun e w''=>e=.returned (.bool (onB u.cm.x u.cm.y&&(t.bd (ci u.cm.x u.cm.y) != 10)))/\Fr [] w' w'':=fun w' hf=>vw5 gb t.bd u u.cm w' (hbd.fr hf (by simp)) (Nat.lt_of_lt_of_le hgl hf.size)
 have hi:∀ w',Fr [] w w'->Calls Tryz.prog 164 #[.pointer (some ⟨gb,0,none⟩),u.val,u.cm.val] w' fun e w''=>e=.returned (.bool (vq1 t.us t.next u.owner u.cm.target))/\Fr [] w' w'':=fun w' hf=>xq2 gb pb cap t.us u u.cm t.next w' (h.gv.fr0 hf) hri ((hf.cell _ _ hgl (by simp)).trans hnx)
 have bu:∀ w',Fr [] w w'->Calls Tryz.prog 154 #[.pointer (some ⟨gb,0,none⟩),u.val,u.cm.val] w' fun e w''=>e=.returned (.bool (u.cm.x==2||u.cm.x==3))/\Fr [] w' w'':=fun w' _=>jw8 (.pointer (some ⟨gb,0,none⟩)) u u.cm w'
 have kN:=jj8 u.cm
 have kC:=yq2 u.cm
 have kT:=jk6 u.cm
 have kK:=yq3 u.cm
 have hk:=fq9 u hkd
 have go:∀ (n1 n0 n2 n3:Nat) (c':Cm) (B:Bool),(∀ w,Calls Tryz.prog 193 #[kOf u,.int .i64 u.what] w fun e w'=>e=.returned (.tuple #[.agg #[fv n1,fv n0,fv n2,fv n3],.bool true])/\Fr [] w w')->(zk2 t u↔(c'=u.cm/\B=true))->(∀ w',Fr [] w w'->Calls Tryz.prog n0 #[.pointer (some ⟨gb,0,none⟩),u.val,u.cm.val] w' fun e w''=>e=.returned (.bool B)/\Fr [] w' w'')->(∀ w',Calls Tryz.prog n2 #[u.cm.val] w' fun e w''=>e=.returned c'.val/\Fr [] w' w'')->(∀ (args:Array Value) (w:World),(callFunc n0 args).run Tryz.prog w=.ok (.enter n0 args) w)->(∀ (args:Array Value) (w:World),(callFunc n2 args).run Tryz.prog w=.ok (.enter n2 args) w)->Calls Tryz.prog 211 #[.pointer (some ⟨gb,0,none⟩),u.val] w fun e w'=>BP (zk2 t u) w e w':=fun n1 n0 n2 n3 c' B hs hq h0 h2 e0 e2 =>
  yx8 gb u (fv n1) (fv n0) (fv n2) (fv n3) true (kOf u) _ w (Or.inl ⟨n1,n0,n2,n3,rfl,rfl,rfl,rfl⟩) hk hs (Or.inr ⟨rfl,n0,n2,c',B,rfl,rfl,hq,h0,h2,e0,e2⟩)
 have no:(∀ w,Calls Tryz.prog 193 #[kOf u,.int .i64 u.what] w fun e w'=>e=.returned (.tuple #[.agg #[.nilFunc,.nilFunc,.nilFunc,.nilFunc],.bool false])/\Fr [] w w')->¬ zk2 t u->Calls Tryz.prog 211 #[.pointer (some ⟨gb,0,none⟩),u.val] w fun e w'=>BP (zk2 t u) w e w':=fun hs hq =>
  yx8 gb u .nilFunc .nilFunc .nilFunc .nilFunc false (kOf u) _ w (Or.inr ⟨rfl,rfl,rfl,rfl⟩) hk hs (Or.inl ⟨rfl,hq⟩)
 rcases jq9 u.what with e|e|e|e|e|e|e
 ·exact no (fun w=>by unfold kOf;split;exact qy4 _ _ w (Or.inl e);split;exact qy4 _ _ w (Or.inl e);exact qy4 _ _ w (Or.inl e)) (zz2 (by omega))
 ·exact no (fun w=>by unfold kOf;split;exact qy4 _ _ w (Or.inr e);split;exact qy4 _ _ w (Or.inr e);exact qy4 _ _ w (Or.inr e)) (zz2 (by omega))
 ·rcases hkd with k|k|k
  ·exact go _ _ _ _ _ _ (fun w=>by rw [e];unfold kOf;rw [if_pos k];exact vv7 w) (gk9 e) any0 kN (fun _ _=>by kernel_rfl) (fun _ _=>by kernel_rfl)
  ·exact go _ _ _ _ _ _ (fun w=>by rw [e];unfold kOf;rw [if_neg (by omega),if_pos k];exact vv9 w) (gk9 e) any0 kN (fun _ _=>by kernel_rfl) (fun _ _=>by kernel_rfl)
  ·exact go _ _ _ _ _ _ (fun w=>by rw [e];unfold kOf;rw [if_neg (by omega),if_neg (by omega)];exact vw2 w) (gk9 e) any0 kN (fun _ _=>by kernel_rfl) (fun _ _=>by kernel_rfl)
 ·rcases hkd with k|k|k
  ·exact no (fun w=>by rw [e];unfold kOf;rw [if_pos k];exact gq7 w) (zz2 (by omega))
  ·exact go _ _ _ _ _ _ (fun w=>by rw [e];unfold kOf;rw [if_neg (by omega),if_pos k];exact vw0 w) (vk7 (by omega)) mv kC (fun _ _=>by kernel_rfl) (fun _ _=>by kernel_rfl)
  ·exact go _ _ _ _ _ _ (fun w=>by rw [e];unfold kOf;rw [if_neg (by omega),if_neg (by omega)];exact vw3 w) (vk7 (by omega)) mv kC (fun _ _=>by kernel_rfl) (fun _ _=>by kernel_rfl)
 ·rcases hkd with k|k|k
  ·exact no (fun w=>by rw [e];unfold kOf;rw [if_pos k];exact gq8 w) (zz2 (by omega))
  ·exact go _ _ _ _ _ _ (fun w=>by rw [e];unfold kOf;rw [if_neg (by omega),if_pos k];exact vw1 w) (vk7 (by omega)) mi kC (fun _ _=>by kernel_rfl) (fun _ _=>by kernel_rfl)
  ·exact no (fun w=>by rw [e];unfold kOf;rw [if_neg (by omega),if_neg (by omega)];exact gz2 w) (zz2 (by omega))
 ·rcases hkd with k|k|k
  ·exact no (fun w=>by rw [e];unfold kOf;rw [if_pos k];exact gq9 w) (zz2 (by omega))
  ·exact no (fun w=>by rw [e];unfold kOf;rw [if_neg (by omega),if_pos k];exact gz0 w) (zz2 (by omega))
  ·exact go _ _ _ _ _ _ (fun w=>by rw [e];unfold kOf;rw [if_neg (by omega),if_neg (by omega)];exact vw4 w) (dv9 ⟨e,k⟩ hid hri) hi kT (fun _ _=>by kernel_rfl) (fun _ _=>by kernel_rfl)
 ·rcases hkd with k|k|k
  ·exact go _ _ _ _ _ _ (fun w=>by rw [e];unfold kOf;rw [if_pos k];exact vv8 w) (dv8 ⟨e,k⟩) bu kK (fun _ _=>by kernel_rfl) (fun _ _=>by kernel_rfl)
  ·exact no (fun w=>by rw [e];unfold kOf;rw [if_neg (by omega),if_pos k];exact gz1 w) (zz2 (by omega))
  ·exact no (fun w=>by rw [e];unfold kOf;rw [if_neg (by omega),if_neg (by omega)];exact gz3 w) (zz2 (by omega))
end Go.Proofs.YtapabahhfanmmaaGreatDoor
