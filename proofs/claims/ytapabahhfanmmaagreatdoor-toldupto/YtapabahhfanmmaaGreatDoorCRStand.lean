import Derived.Test.YtapabahhfanmmaaGreatDoorCRTell
import Derived.Test.YtapabahhfanmmaaGreatDoorCRefG
namespace Go.Proofs.YtapabahhfanmmaaGreatDoor
open Go.RowKit
set_option maxRecDepth 100000
set_option maxHeartbeats 8000000
def qx6 (t:T)(u:U)(last:Int):Prop :=
  last < u.id/\u.id < t.next/\u.owner<=1/\1<=u.kind/\u.kind<=3/\qk5 t.us t.bd (u.x,u.y)=true/\1<=u.life/\u.life<=qx9 u.kind/\u.load<=5/\(u.load=0\/u.kind=2)
theorem jq6 (k:Int)(w:World):Calls Tryz.prog 93 #[.int .i64 k] w fun e w'=>e=.returned (.int .i64 (qx9 k))/\Fr [] w w' :=
  Calls.mono (zk1 k w) fun _ _ h=>⟨h.1,h.2 ▸ Fr.refl _ _⟩
theorem yq5 (gb:Nat)(t:T)(u:U)(last:Int)(w:World)(hn:∀ w',Fr [] w w'->w'.cell? ⟨gb,147,none⟩=some (ii t.next))(hfr:∀ w',Fr [] w w'->Calls Tryz.prog 184 #[.pointer (some ⟨gb,0,none⟩),.int .i64 u.x,.int .i64 u.y] w' fun e w''=>e=.returned (.bool (qk5 t.us t.bd (u.x,u.y)))/\Fr [] w' w'') :
  Calls Tryz.prog 140 #[.pointer (some ⟨gb,0,none⟩),u.val,.int .i64 last] w fun e w'=>BP (qx6 t u last) w e w':=by
 obtain ⟨W1,hW1⟩:∃ W,W=w.alloc (.cells u.arr 85):=⟨_,rfl⟩
 have hf1:Fr [] w W1:=by rw [hW1];exact (Fr.refl _ _).alloc _
 have hh1:W1.heap[w.heap.size]?=some (.cells u.arr 85):=by rw [hW1];exact qq6 _ _
 have c3:W1.cell? ⟨w.heap.size,3,none⟩=some (ii u.x):=j9 hh1
 have c4:W1.cell? ⟨w.heap.size,4,none⟩=some (ii u.y):=j9 hh1
 have HS:∀ w',Fr [] W1 w'->(fun w':World=>(cl w' w.heap.size 0 u.id/\cl w' w.heap.size 1 u.owner/\cl w' w.heap.size 2 u.kind/\cl w' w.heap.size 5 u.life/\cl w' w.heap.size 6 u.load/\cl w' gb 147 t.next)/\Fr [] W1 w') w':=fun w' hf=>by
  have hh:=hf.heap0 hh1
  exact ⟨⟨j9 hh,j9 hh,j9 hh,j9 hh,j9 hh,hn _ (hf1.then0 hf)⟩,hf⟩
 have HFC:=(show Hid _ from hfr W1 hf1)
 clear hh1
 go_enter Tryz.func140,Tryz.ntmps140
 go_wp2_with fail
 rw [<- hW1]
 clear hW1
 refine Calls.mono HFC.out ?_
 rintro e w2 ⟨rfl,hf2⟩
 dsimp only
 obtain ⟨fb,hfb⟩:∃ fb,qk5 t.us t.bd (u.x,u.y)=fb:=⟨_,rfl⟩
 rw [hfb]
 have HFR:=hid hfb
 have HF1:=hid hf1
 clear hfb hf1 hn hfr c3 c4 HFC
 go_wp2_with fail
 have K0:=HS _ hf2.drew
 by_cases h0:u.id<=last
 ·skip
  refine wp_region_held_drew (S:=fun w':World=>(cl w' w.heap.size 0 u.id/\cl w' w.heap.size 1 u.owner/\cl w' w.heap.size 2 u.kind/\cl w' w.heap.size 5 u.life/\cl w' w.heap.size 6 u.load/\cl w' gb 147 t.next)/\Fr [] W1 w') (by kernel_rfl) K0 (fun hH=>?_)
  refine (show wpAnyH Tryz.prog Region.Mode.any _ _ _ 32 (Array.replicate 32 false) _ _ from ?_)
  iterate 32 (refine tn 32 hH ?_;try simp only [Act.put,Z])
  refine wpAnyH_done (by kernel_rfl) ?_ _
  go_wp2_with fail
  go_ret
  exact ⟨false,rfl,⟨fun h=>(by cases h),fun h=>(by unfold qx6 at h;omega)⟩,HF1.out.then0 hH.2⟩
 ·skip
  by_cases h1:t.next<=u.id
  ·skip
   refine wp_region_held_drew (S:=fun w':World=>(cl w' w.heap.size 0 u.id/\cl w' w.heap.size 1 u.owner/\cl w' w.heap.size 2 u.kind/\cl w' w.heap.size 5 u.life/\cl w' w.heap.size 6 u.load/\cl w' gb 147 t.next)/\Fr [] W1 w') (by kernel_rfl) K0 (fun hH=>?_)
   refine (show wpAnyH Tryz.prog Region.Mode.any _ _ _ 32 (Array.replicate 32 false) _ _ from ?_)
   iterate 32 (refine tn 32 hH ?_;try simp only [Act.put,Z])
   refine wpAnyH_done (by kernel_rfl) ?_ _
   go_wp2_with fail
   go_ret
   exact ⟨false,rfl,⟨fun h=>(by cases h),fun h=>(by unfold qx6 at h;omega)⟩,HF1.out.then0 hH.2⟩
  ·skip
   by_cases h2:1 < u.owner
   ·skip
    refine wp_region_held_drew (S:=fun w':World=>(cl w' w.heap.size 0 u.id/\cl w' w.heap.size 1 u.owner/\cl w' w.heap.size 2 u.kind/\cl w' w.heap.size 5 u.life/\cl w' w.heap.size 6 u.load/\cl w' gb 147 t.next)/\Fr [] W1 w') (by kernel_rfl) K0 (fun hH=>?_)
    refine (show wpAnyH Tryz.prog Region.Mode.any _ _ _ 32 (Array.replicate 32 false) _ _ from ?_)
    iterate 32 (refine tn 32 hH ?_;try simp only [Act.put,Z])
    refine wpAnyH_done (by kernel_rfl) ?_ _
    go_wp2_with fail
    go_ret
    exact ⟨false,rfl,⟨fun h=>(by cases h),fun h=>(by unfold qx6 at h;omega)⟩,HF1.out.then0 hH.2⟩
   ·skip
    by_cases h3:u.kind < 1
    ·skip
     refine wp_region_held_drew (S:=fun w':World=>(cl w' w.heap.size 0 u.id/\cl w' w.heap.size 1 u.owner/\cl w' w.heap.size 2 u.kind/\cl w' w.heap.size 5 u.life/\cl w' w.heap.size 6 u.load/\cl w' gb 147 t.next)/\Fr [] W1 w') (by kernel_rfl) K0 (fun hH=>?_)
     refine (show wpAnyH Tryz.prog Region.Mode.any _ _ _ 32 (Array.replicate 32 false) _ _ from ?_)
     iterate 32 (refine tn 32 hH ?_;try simp only [Act.put,Z])
     refine wpAnyH_done (by kernel_rfl) ?_ _
     go_wp2_with fail
     go_ret
     exact ⟨false,rfl,⟨fun h=>(by cases h),fun h=>(by unfold qx6 at h;omega)⟩,HF1.out.then0 hH.2⟩
    ·skip
     by_cases h4:3 < u.kind
     ·skip
      refine wp_region_held_drew (S:=fun w':World=>(cl w' w.heap.size 0 u.id/\cl w' w.heap.size 1 u.owner/\cl w' w.heap.size 2 u.kind/\cl w' w.heap.size 5 u.life/\cl w' w.heap.size 6 u.load/\cl w' gb 147 t.next)/\Fr [] W1 w') (by kernel_rfl) K0 (fun hH=>?_)
      refine (show wpAnyH Tryz.prog Region.Mode.any _ _ _ 32 (Array.replicate 32 false) _ _ from ?_)
      iterate 32 (refine tn 32 hH ?_;try simp only [Act.put,Z])
      refine wpAnyH_done (by kernel_rfl) ?_ _
      go_wp2_with fail
      go_ret
      exact ⟨false,rfl,⟨fun h=>(by cases h),fun h=>(by unfold qx6 at h;omega)⟩,HF1.out.then0 hH.2⟩
     ·skip
      cases fb
      ·skip
       refine wp_region_held_drew (S:=fun w':World=>(cl w' w.heap.size 0 u.id/\cl w' w.heap.size 1 u.owner/\cl w' w.heap.size 2 u.kind/\cl w' w.heap.size 5 u.life/\cl w' w.heap.size 6 u.load/\cl w' gb 147 t.next)/\Fr [] W1 w') (by kernel_rfl) K0 (fun hH=>?_)
       refine (show wpAnyH Tryz.prog Region.Mode.any _ _ _ 32 (Array.replicate 32 false) _ _ from ?_)
       iterate 32 (refine tn 32 hH ?_;try simp only [Act.put,Z])
       refine wpAnyH_done (by kernel_rfl) ?_ _
       go_wp2_with fail
       go_ret
       exact ⟨false,rfl,⟨fun h=>(by cases h),fun h=>(by unfold qx6 at h;rw [HFR.out] at h;simp at h)⟩,HF1.out.then0 hH.2⟩
      ·skip
       refine wp_region_held_drew (S:=fun w':World=>(cl w' w.heap.size 0 u.id/\cl w' w.heap.size 1 u.owner/\cl w' w.heap.size 2 u.kind/\cl w' w.heap.size 5 u.life/\cl w' w.heap.size 6 u.load/\cl w' gb 147 t.next)/\Fr [] W1 w') (by kernel_rfl) K0 (fun hH=>?_)
       refine (show wpAnyH Tryz.prog Region.Mode.any _ _ _ 32 (Array.replicate 32 false) _ _ from ?_)
       iterate 32 (refine tn 32 hH ?_;try simp only [Act.put,Z])
       refine wpAnyH_done (by kernel_rfl) ?_ _
       have K1:=hH.2
       clear K0 hH
       have K0:=HS _ K1.drew
       clear K1
       go_wp2_with fail
       by_cases l0:1<=u.life
       ·skip
        by_cases l1:u.life<=qx9 u.kind
        ·skip
         by_cases l2:u.load<=5
         ·skip
          by_cases l3:u.load=0
          ·have l3b:(u.load==0)=true:=by simpa using l3
           have HT:Hid (qx6 t u last):=by show qx6 t u last;unfold qx6;rw [HFR.out];exact ⟨by omega,by omega,by omega,by omega,by omega,rfl,l0,l1,l2,Or.inl l3⟩
           clear l3
           refine wp_region_held_drew (S:=fun w':World=>(cl w' w.heap.size 0 u.id/\cl w' w.heap.size 1 u.owner/\cl w' w.heap.size 2 u.kind/\cl w' w.heap.size 5 u.life/\cl w' w.heap.size 6 u.load/\cl w' gb 147 t.next)/\Fr [] W1 w') (by kernel_rfl) K0 (fun hH=>?_)
           refine (show wpAnyH Tryz.prog Region.Mode.any _ _ _ 27 (Array.replicate 27 false) _ _ from ?_)
           iterate 8 (refine tn 27 hH ?_;try simp only [Act.put,Z])
           refine wpAnyH_ready (rs:=[8]) (by kernel_rfl) (by simp) ?_
           refine AllReadyH.cons (by simp only [G];rfl) (fun K hK=>?_) AllReadyH.nil
           have HKK:=hid hK
           clear hK
           go_simp
           refine Calls.mono (jq6 u.kind _) ?_
           rintro e wc8 ⟨rfl,hfc8⟩
           dsimp only
           have hfr8:=hH.2.then0 hfc8
           clear hH
           refine HKK.out _ _ (HS _ hfr8) (fun hH=>?_)
           clear HKK K;try simp only [Act.put,Z]
           iterate 18 (refine tn 27 hH ?_;try simp only [Act.put,Z])
           refine wpAnyH_done (by kernel_rfl) ?_ _
           go_wp2_with fail
           go_ret
           exact ⟨true,rfl,⟨fun _=>HT.out,fun _=>rfl⟩,HF1.out.then0 hH.2⟩
          ·have l3b:(u.load==0)=false:=by simpa using l3
           by_cases l4:u.kind=2
           ·have l4b:(u.kind==2)=true:=by simpa using l4
            have HT:Hid (qx6 t u last):=by show qx6 t u last;unfold qx6;rw [HFR.out];exact ⟨by omega,by omega,by omega,by omega,by omega,rfl,l0,l1,l2,Or.inr l4⟩
            clear l4
            refine wp_region_held_drew (S:=fun w':World=>(cl w' w.heap.size 0 u.id/\cl w' w.heap.size 1 u.owner/\cl w' w.heap.size 2 u.kind/\cl w' w.heap.size 5 u.life/\cl w' w.heap.size 6 u.load/\cl w' gb 147 t.next)/\Fr [] W1 w') (by kernel_rfl) K0 (fun hH=>?_)
            refine (show wpAnyH Tryz.prog Region.Mode.any _ _ _ 27 (Array.replicate 27 false) _ _ from ?_)
            iterate 8 (refine tn 27 hH ?_;try simp only [Act.put,Z])
            refine wpAnyH_ready (rs:=[8]) (by kernel_rfl) (by simp) ?_
            refine AllReadyH.cons (by simp only [G];rfl) (fun K hK=>?_) AllReadyH.nil
            have HKK:=hid hK
            clear hK
            go_simp
            refine Calls.mono (jq6 u.kind _) ?_
            rintro e wc8 ⟨rfl,hfc8⟩
            dsimp only
            have hfr8:=hH.2.then0 hfc8
            clear hH
            refine HKK.out _ _ (HS _ hfr8) (fun hH=>?_)
            clear HKK K;try simp only [Act.put,Z]
            iterate 18 (refine tn 27 hH ?_;try simp only [Act.put,Z])
            refine wpAnyH_done (by kernel_rfl) ?_ _
            go_wp2_with fail
            go_ret
            exact ⟨true,rfl,⟨fun _=>HT.out,fun _=>rfl⟩,HF1.out.then0 hH.2⟩
           ·have l4b:(u.kind==2)=false:=by simpa using l4
            refine wp_region_held_drew (S:=fun w':World=>(cl w' w.heap.size 0 u.id/\cl w' w.heap.size 1 u.owner/\cl w' w.heap.size 2 u.kind/\cl w' w.heap.size 5 u.life/\cl w' w.heap.size 6 u.load/\cl w' gb 147 t.next)/\Fr [] W1 w') (by kernel_rfl) K0 (fun hH=>?_)
            refine (show wpAnyH Tryz.prog Region.Mode.any _ _ _ 27 (Array.replicate 27 false) _ _ from ?_)
            iterate 8 (refine tn 27 hH ?_;try simp only [Act.put,Z])
            refine wpAnyH_ready (rs:=[8]) (by kernel_rfl) (by simp) ?_
            refine AllReadyH.cons (by simp only [G];rfl) (fun K hK=>?_) AllReadyH.nil
            have HKK:=hid hK
            clear hK
            go_simp
            refine Calls.mono (jq6 u.kind _) ?_
            rintro e wc8 ⟨rfl,hfc8⟩
            dsimp only
            have hfr8:=hH.2.then0 hfc8
            clear hH
            refine HKK.out _ _ (HS _ hfr8) (fun hH=>?_)
            clear HKK K;try simp only [Act.put,Z]
            iterate 18 (refine tn 27 hH ?_;try simp only [Act.put,Z])
            refine wpAnyH_done (by kernel_rfl) ?_ _
            go_wp2_with fail
            go_ret
            exact ⟨false,rfl,⟨fun h=>(by cases h),fun h=>(by unfold qx6 at h;omega)⟩,HF1.out.then0 hH.2⟩
         ·skip
          refine wp_region_held_drew (S:=fun w':World=>(cl w' w.heap.size 0 u.id/\cl w' w.heap.size 1 u.owner/\cl w' w.heap.size 2 u.kind/\cl w' w.heap.size 5 u.life/\cl w' w.heap.size 6 u.load/\cl w' gb 147 t.next)/\Fr [] W1 w') (by kernel_rfl) K0 (fun hH=>?_)
          refine (show wpAnyH Tryz.prog Region.Mode.any _ _ _ 27 (Array.replicate 27 false) _ _ from ?_)
          iterate 8 (refine tn 27 hH ?_;try simp only [Act.put,Z])
          refine wpAnyH_ready (rs:=[8]) (by kernel_rfl) (by simp) ?_
          refine AllReadyH.cons (by simp only [G];rfl) (fun K hK=>?_) AllReadyH.nil
          have HKK:=hid hK
          clear hK
          go_simp
          refine Calls.mono (jq6 u.kind _) ?_
          rintro e wc8 ⟨rfl,hfc8⟩
          dsimp only
          have hfr8:=hH.2.then0 hfc8
          clear hH
          refine HKK.out _ _ (HS _ hfr8) (fun hH=>?_)
          clear HKK K;try simp only [Act.put,Z]
          iterate 18 (refine tn 27 hH ?_;try simp only [Act.put,Z])
          refine wpAnyH_done (by kernel_rfl) ?_ _
          go_wp2_with fail
          go_ret
          exact ⟨false,rfl,⟨fun h=>(by cases h),fun h=>(by unfold qx6 at h;omega)⟩,HF1.out.then0 hH.2⟩
        ·skip
         refine wp_region_held_drew (S:=fun w':World=>(cl w' w.heap.size 0 u.id/\cl w' w.heap.size 1 u.owner/\cl w' w.heap.size 2 u.kind/\cl w' w.heap.size 5 u.life/\cl w' w.heap.size 6 u.load/\cl w' gb 147 t.next)/\Fr [] W1 w') (by kernel_rfl) K0 (fun hH=>?_)
         refine (show wpAnyH Tryz.prog Region.Mode.any _ _ _ 27 (Array.replicate 27 false) _ _ from ?_)
         iterate 8 (refine tn 27 hH ?_;try simp only [Act.put,Z])
         refine wpAnyH_ready (rs:=[8]) (by kernel_rfl) (by simp) ?_
         refine AllReadyH.cons (by simp only [G];rfl) (fun K hK=>?_) AllReadyH.nil
         have HKK:=hid hK
         clear hK
         go_simp
         refine Calls.mono (jq6 u.kind _) ?_
         rintro e wc8 ⟨rfl,hfc8⟩
         dsimp only
         have hfr8:=hH.2.then0 hfc8
         clear hH
         refine HKK.out _ _ (HS _ hfr8) (fun hH=>?_)
         clear HKK K;try simp only [Act.put,Z]
         iterate 18 (refine tn 27 hH ?_;try simp only [Act.put,Z])
         refine wpAnyH_done (by kernel_rfl) ?_ _
         go_wp2_with fail
         go_ret
         exact ⟨false,rfl,⟨fun h=>(by cases h),fun h=>(by unfold qx6 at h;omega)⟩,HF1.out.then0 hH.2⟩
       ·skip
        refine wp_region_held_drew (S:=fun w':World=>(cl w' w.heap.size 0 u.id/\cl w' w.heap.size 1 u.owner/\cl w' w.heap.size 2 u.kind/\cl w' w.heap.size 5 u.life/\cl w' w.heap.size 6 u.load/\cl w' gb 147 t.next)/\Fr [] W1 w') (by kernel_rfl) K0 (fun hH=>?_)
        refine (show wpAnyH Tryz.prog Region.Mode.any _ _ _ 27 (Array.replicate 27 false) _ _ from ?_)
        iterate 27 (refine tn 27 hH ?_;try simp only [Act.put,Z])
        refine wpAnyH_done (by kernel_rfl) ?_ _
        go_wp2_with fail
        go_ret
        exact ⟨false,rfl,⟨fun h=>(by cases h),fun h=>(by unfold qx6 at h;omega)⟩,HF1.out.then0 hH.2⟩
theorem xq0 (gb pb cap:Nat)(t:T)(u:U)(last:Int)(w:World)(h:RG w gb pb cap t) :
  Calls Tryz.prog 140 #[.pointer (some ⟨gb,0,none⟩),u.val,.int .i64 last] w fun e w'=>BP (qx6 t u last) w e w' :=
 yq5 gb t u last w (fun _ hf=>(h.fr0 hf).c147) (fun w' hf=>jz5 gb pb cap t u.x u.y w' (h.fr0 hf))
end Go.Proofs.YtapabahhfanmmaaGreatDoor
