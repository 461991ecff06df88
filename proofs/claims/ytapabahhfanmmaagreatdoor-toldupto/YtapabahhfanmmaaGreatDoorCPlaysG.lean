import Derived.Test.YtapabahhfanmmaaGreatDoorCReadH
import Derived.Test.YtapabahhfanmmaaGreatDoorCRRead
import Derived.Test.YtapabahhfanmmaaGreatDoorCMade
import Derived.Test.YtapabahhfanmmaaGreatDoorCPlayG
namespace Go.Proofs.YtapabahhfanmmaaGreatDoor
open Go.RowKit
set_option maxRecDepth 100000
set_option maxHeartbeats 2000000
theorem yk4 (l:List UInt8)(w:World)(hl:l.length<=2000000)(hw:0 < w.heap.size) :
  Calls Tryz.prog 58 #[.string ⟨l.toArray⟩] w fun e w'=>((PL l/\∃ sb L,e=.returned (.tuple #[.pointer (some ⟨sb,0,none⟩),.bool true])/\Gm w' (.pointer (some ⟨sb,0,none⟩)) L (qj5 l)/\∀ x∈L,w.heap.size<=x)\/(¬ PL l/\e=.returned (.tuple #[.pointer none,.bool true])))/\Fr [] w w':=by
 have H1:Hid (∀ w,0 < w.heap.size->Calls Tryz.prog 103 #[.string ⟨l.toArray⟩] w fun e w'=>((PL l/\∃ gb pb cap,e=.returned (.tuple #[.pointer (some ⟨gb,0,none⟩),.int .i64 0])/\GS w' gb pb cap (qj5 l)/\w.heap.size<=gb/\w.heap.size<=pb)\/(¬ PL l/\e=.returned (.tuple #[.pointer none,.int .i64 2])))/\Fr [] w w'):=fun w hw=>dw7 l w hl hw
 have H2:Hid (∀ w,Calls Tryz.prog 104 #[.string ⟨l.toArray⟩] w fun e w'=>((PL l/\∃ gb pb cap,e=.returned (.tuple #[.pointer (some ⟨gb,0,none⟩),.int .i64 0])/\RG w' gb pb cap (qj5 l)/\w.heap.size<=gb/\w.heap.size<=pb)\/(¬ PL l/\e=.returned (.tuple #[.pointer none,.int .i64 2])))/\Fr [] w w'):=fun w=>ky8 l w hl
 go_enter Tryz.func58,Tryz.ntmps58
 go_wp2_with fail
 refine Calls.mono (H1.out w hw) ?_
 rintro e w1 ⟨⟨hok,gb,pb,cap,rfl,hgs,q1,q2⟩|⟨hno,rfl⟩,hf1⟩
 ·dsimp only
  go_wp2_with fail
  refine Calls.mono (H2.out w1) ?_
  rintro e w2 ⟨⟨_,rb,qb,cap2,rfl,hrg,q3,q4⟩|⟨hno,_⟩,hf2⟩
  rotate_left
  ·exact absurd hok hno
  dsimp only
  have HGS:=hid hgs
  have HRG:=hid hrg
  have HOK:=hid hok
  clear hgs hrg hok
  go_wp2_with (go_at_call 52;refine (vq9 _ _).mono ?_;rintro e w3 ⟨rfl,rfl⟩)
  go_ret2
  have hh:=qq6 w2 (.cells #[.pointer (some ⟨gb,0,none⟩),.pointer (some ⟨rb,0,none⟩)] 127)
  have hs1:=hf1.size
  have hs2:=hf2.size
  have l1:=HGS.out.lt
  have l2:=HGS.out.row.lt
  have l3:=HRG.out.lt
  have l4:=HRG.out.row.lt
  have hn1:=HGS.out.n1
  have hn2:=HRG.out.ne
  have hf3:Fr [] w2 (w2.alloc (.cells #[.pointer (some ⟨gb,0,none⟩),.pointer (some ⟨rb,0,none⟩)] 127)):=(Fr.refl _ _).alloc _
  refine ⟨Or.inl ⟨HOK.out,w2.heap.size,[w2.heap.size,gb,pb,rb,qb],rfl,⟨⟨w2.heap.size,gb,pb,cap,rb,qb,cap2,rfl,rfl,by rw [j9 hh];rfl,by rw [j9 hh];rfl,(HGS.out.fr hf2 (by simp) (by simp)).fr hf3 (by simp) (by simp),HRG.out.fr0 hf3⟩,?_,HOK.out.ok,HOK.out.os,gv3 l⟩,?_⟩,(hf1.then0 hf2).then0 hf3⟩
  ·simp only [List.nodup_cons,List.mem_cons,List.not_mem_nil,or_false,not_or,List.nodup_nil,and_true,not_false_eq_true]
   omega
  ·intro x hx
   simp only [List.mem_cons,List.not_mem_nil,or_false] at hx
   omega
 ·dsimp only
  go_wp2_with fail
  refine Calls.mono (H2.out w1) ?_
  rintro e w2 ⟨⟨hok,_⟩|⟨_,rfl⟩,hf2⟩
  ·exact absurd hok hno
  dsimp only
  have HNO:=hid hno
  clear hno
  go_wp2_with (go_at_call 52;refine (vq9 _ _).mono ?_;rintro e w3 ⟨rfl,rfl⟩)
  go_ret2
  exact ⟨Or.inr ⟨HNO.out,rfl⟩,hf1.then0 hf2⟩
theorem SR.before {w w1 w2:World}{bb N:Nat}{L K:List Nat}{tn:Int}{g:Value}(hf:Fr [] w w1)(h:SR w1 bb L K N tn g w2):SR w bb L K N tn g w2:=by
 obtain ⟨⟨L',t',K',q1,q2,q3,q4,q5⟩,hF⟩:=h
 have hs:=hf.size
 exact ⟨⟨L',t',K',q1,q2,fun x hx=>(q3 x hx).imp_right (fun q=>by omega),fun x hx=>(q4 x hx).imp_right (fun q=>by omega),q5⟩,hf.of0.trans hF (fun b hb=>Or.inl hb)⟩
structure ToldB (w1:World) (sb gb rb:Nat) (TX:ByteArray):Prop where
 tg:∀ w',Fr [] w1 w'->Calls Tryz.prog 15 #[.pointer (some ⟨gb,0,none⟩)] w' fun e w''=>e=.returned (.string TX)/\Fr [] w' w''
 tr:∀ w',Fr [] w1 w'->Calls Tryz.prog 57 #[.pointer (some ⟨rb,0,none⟩)] w' fun e w''=>e=.returned (.string TX)/\Fr [] w' w''
 c0:∀ w',Fr [] w1 w'->w'.cell? ⟨sb,0,none⟩=some (.pointer (some ⟨gb,0,none⟩))
 c1:∀ w',Fr [] w1 w'->w'.cell? ⟨sb,1,none⟩=some (.pointer (some ⟨rb,0,none⟩))
 rd:∀ w',0 < w'.heap.size->Calls Tryz.prog 58 #[.string TX] w' fun e w''=>(∃ sb' L' t',e=.returned (.tuple #[.pointer (some ⟨sb',0,none⟩),.bool true])/\Gm w'' (.pointer (some ⟨sb',0,none⟩)) L' t'/\∀ x∈L',w'.heap.size<=x)/\Fr [] w' w''
theorem Gm.told {w:World}{g:Value}{L:List Nat}{t:T}(h:Gm w g L t):∃ sb gb rb TX,g=.pointer (some ⟨sb,0,none⟩)/\ToldB w sb gb rb TX:=by
 obtain ⟨⟨sb,gb,pb,cap,rb,qb,cap2,rfl,rfl,hx,hy,hgs,hrg⟩,_,hok,hos,htn⟩:=h
 refine ⟨sb,gb,rb,⟨(zj2 t).toArray⟩,rfl,⟨fun w' hf=>qqq8 gb pb cap t w' (hgs.fr hf (by simp) (by simp)) (vz0 hok hos htn) hok.len,fun w' hf=>ky9 rb qb cap2 t w' (hrg.fr0 hf) hok hos htn,fun w' hf=>(hf.cell sb 0 (qq1 hx) (by simp)).trans hx,fun w' hf=>(hf.cell sb 1 (qq1 hy) (by simp)).trans hy,fun w' hw=>?_⟩⟩
 refine (yk4 (zj2 t) w' (Nat.le_trans (qqq9 hok hos htn) (by omega)) hw).mono ?_
 rintro e w'' ⟨⟨_,sb',L',he,hG,hL⟩|⟨hno,_⟩,hf⟩
 ·exact ⟨⟨sb',L',_,he,hG,hL⟩,hf⟩
 ·exact absurd (qzx0 hok hos htn) hno
structure StepP (w:World) (bb:Nat) (L K:List Nat) (N:Nat) (tn:Int) (e:Ending) (w':World):Prop where
  ex:∃ sb',e=.returned (.tuple #[.pointer (some ⟨sb',0,none⟩),.bool true])/\SR w bb L K N tn (.pointer (some ⟨sb',0,none⟩)) w'
theorem fy7 (g:Value) (L K:List Nat) (t:T) (bb N:Nat) (d:OpD) (w0 w:World) (hG:Gm w g L t) (hB:Bk w bb K N) (hA:∀ x∈L,x≠bb/\x∉K) (hN:N<=2000000) (hsd:Sd w) (hv:OpV w0 d) (hf0:Fr [] w0 w)
  (hL0:∀ x∈L,w0.heap.size<=x) (hk:d.kind<=8) :
  Calls Tryz.prog 26 #[g,.pointer (some ⟨bb,0,none⟩),.agg #[ii d.kind,.slice d.fa d.fn d.fc,.slice d.sa d.sn d.sc,.string d.tx,.slice d.ia d.il d.ic,ii d.n,.slice d.ga d.gl d.gc]] w fun e w'=>StepP w bb L K N t.turn e w':=by
 obtain ⟨sb,_,_,_,_,_,_,_,hg0,_⟩:=hG.asked
 subst hg0
 obtain ⟨kd,fa,fn,fc,sa,sn,sc,tx,ia,il,ic,n,ga,gl,gc,fst,snd⟩:=d
 dsimp only at hk |-
 obtain ⟨W1,hW1⟩:∃ W,W=w.alloc (.cells #[ii kd,.slice fa fn fc,.slice sa sn sc,.string tx,.slice ia il ic,ii n,.slice ga gl gc] 70):=⟨_,rfl⟩
 have hf1:Fr [] w W1:=by rw [hW1];exact (Fr.refl _ _).alloc _
 have hh1:W1.heap[w.heap.size]?=some (.cells #[ii kd,.slice fa fn fc,.slice sa sn sc,.string tx,.slice ia il ic,ii n,.slice ga gl gc] 70):=by rw [hW1];exact qq6 _ _
 have e0:W1.cell? ⟨w.heap.size,0,none⟩=some (ii kd):=j9 hh1
 have e1:W1.cell? ⟨w.heap.size,1,none⟩=some (.slice fa fn fc):=j9 hh1
 have e2:W1.cell? ⟨w.heap.size,2,none⟩=some (.slice sa sn sc):=j9 hh1
 have e3:W1.cell? ⟨w.heap.size,3,none⟩=some (.string tx):=j9 hh1
 have hG1:=hG.fr0 hf1
 have hB1:=hB.fr0 hf1
 have HG:=hid hG
 have HB:=hid hB
 have HA:=hid hA
 have HG1:=hid hG1
 have HB1:=hid hB1
 have HSD:=hid hsd
 have HV:=hid hv
 have HF0:=hid hf0
 have HL0:=hid hL0
 have HF1:=hid hf1
 have hpos:=hB.lt
 clear hG hB hA hsd hv hf0 hL0 hf1 hh1 hG1 hB1
 go_enter Tryz.func26,Tryz.ntmps26
 go_upto_region 3 with (fail)
 rw [<- hW1]
 clear hW1
 have hkc:kd=1\/kd=2\/kd=3\/kd=4\/kd=6\/kd=7\/kd=8\/(kd<=0\/kd=5):=by omega
 rcases hkc with rfl|rfl|rfl|rfl|rfl|rfl|rfl|hk0
 ·have C1:Hid (Calls Tryz.prog 24 #[.string tx] W1 fun e w'=>((zz9 tx/\∃ sb L,e=.returned (.tuple #[.pointer (some ⟨sb,0,none⟩),.bool true])/\Gm w' (.pointer (some ⟨sb,0,none⟩)) L (zz4 tx)/\∀ x∈L,W1.heap.size<=x)\/(¬ zz9 tx/\e=.returned (.tuple #[.pointer none,.bool true])))/\Fr [] W1 w'):=kv3 tx W1 (by have:=HF1.out.size;omega)
  go_wp2_with fail
  refine Calls.mono C1.out ?_
  rintro e w2 ⟨⟨_,sb',L',rfl,hGn,hLn⟩|⟨_,rfl⟩,hf2⟩
  ·dsimp only
   have HGN:=hid hGn
   have HLN:=hid hLn
   clear hGn hLn
   go_wp2_with fail
   go_ret2
   exact ⟨sb',rfl,SR.before HF1.out (SR.new HB1.out HGN.out HLN.out hf2)⟩
  ·dsimp only
   go_wp2_with fail
   go_ret2
   exact ⟨sb,rfl,SR.before HF1.out (SR.same HG1.out HB1.out HA.out hf2)⟩
 ·have C2:Hid (Calls Tryz.prog 53 #[.pointer (some ⟨sb,0,none⟩),.pointer (some ⟨bb,0,none⟩),.slice fa fn fc,.slice sa sn sc] W1 fun e w'=>e=.returned (.bool true)/\SR W1 bb L K N t.turn (.pointer (some ⟨sb,0,none⟩)) w'):=fw3 _ L K t bb N fst snd _ _ w0 W1 HG1.out HB1.out HA.out hN (Sd.fr0 HSD.out HF1.out) HV.out.f HV.out.s (HF0.out.then0 HF1.out) HL0.out HV.out.fl HV.out.sl
  go_wp2_with fail
  refine Calls.mono C2.out ?_
  rintro e w2 ⟨rfl,hsr⟩
  dsimp only
  have HSR:=hid hsr
  clear hsr
  go_wp2_with fail
  go_ret2
  exact ⟨sb,rfl,SR.before HF1.out HSR.out⟩
 ·obtain ⟨sb1,gb,rb,z0,z1,z2,z3,BL,hg,hq⟩:=HG1.out.asked
  cases hg
  have LG:=(show Hid (∀ w',Fr [] W1 w'->Calls Tryz.prog 23 #[.pointer (some ⟨gb,0,none⟩)] w' fun e w''=>e=.returned (.agg #[ii z0,ii z1,ii z2,ii z3])/\Fr [] w' w'') from hq.lg)
  have LR:=(show Hid (∀ w',Fr [] W1 w'->Calls Tryz.prog 54 #[.pointer (some ⟨rb,0,none⟩)] w' fun e w''=>e=.returned (.agg #[ii z0,ii z1,ii z2,ii z3])/\Fr [] w' w'') from hq.lr)
  have CG:=(show Hid (∀ w',Fr [] W1 w'->Calls Tryz.prog 55 #[.pointer (some ⟨gb,0,none⟩)] w' fun e w''=>e=.returned (.agg BL.toArray)/\Fr [] w' w'') from hq.cg)
  have HRR:Hid (∀ w',(w'.cell? ⟨sb,0,none⟩=some (.pointer (some ⟨gb,0,none⟩))/\w'.cell? ⟨sb,1,none⟩=some (.pointer (some ⟨rb,0,none⟩))/\Fr [] W1 w')->w'.rangeAt rb 1 BL):=fun w' h=>hq.rr w' h.2.2
  have HSZ:=hid hq.sz
  have HS:∀ w',Fr [] W1 w'->(fun w':World=>w'.cell? ⟨sb,0,none⟩=some (.pointer (some ⟨gb,0,none⟩))/\w'.cell? ⟨sb,1,none⟩=some (.pointer (some ⟨rb,0,none⟩))/\Fr [] W1 w') w':=fun w' hf=>⟨hq.c0 w' hf,hq.c1 w' hf,hf⟩
  have K0:=HS W1.drew ((Fr.refl _ _).drew)
  have hbe:=hq.eq
  have hbg:=fun (x y:Operand) (w0:World)=>yw9 x y BL.toArray w0
  have hse:=xv5 z0 z1 z2 z3
  have hsg:=fun (x y:Operand) (w0:World)=>yy7 x y z0 z1 z2 z3 w0
  clear hq
  go_wp2_with fail
  refine wp_region_held_drew (S:=fun w':World=>w'.cell? ⟨sb,0,none⟩=some (.pointer (some ⟨gb,0,none⟩))/\w'.cell? ⟨sb,1,none⟩=some (.pointer (some ⟨rb,0,none⟩))/\Fr [] W1 w') (by kernel_rfl) K0 (fun hH=>?_)
  refine (show wpAnyH Tryz.prog Region.Mode.any _ _ _ 27 (Array.replicate 27 false) _ _ from ?_)
  iterate 4 (refine tn 27 hH ?_;try simp only [Act.put,Z])
  refine ta 5 hH ?_;try simp only [Act.put,Z]
  refine ta 6 hH ?_;try simp only [Act.put,Z]
  refine ta 7 hH ?_;try simp only [Act.put,Z]
  refine ta 8 hH ?_;try simp only [Act.put,Z]
  refine wpAnyH_ready (rs:=[4]) (by kernel_rfl) (by simp) ?_
  refine AllReadyH.cons (by simp only [G];rfl) (fun K hK=>?_) AllReadyH.nil
  have HKK:=hid hK
  clear hK
  go_simp
  refine Calls.mono (LG.out _ hH.2.2) ?_
  rintro e wc4 ⟨rfl,hfc4⟩
  dsimp only
  have hfr4:=hH.2.2.then0 hfc4
  clear hH
  refine HKK.out _ _ (HS _ hfr4) (fun hH=>?_)
  clear HKK K;try simp only [Act.put,Z]
  refine wpAnyH_ready (rs:=[9]) (by kernel_rfl) (by simp) ?_
  refine AllReadyH.cons (by simp only [G];rfl) (fun K hK=>?_) AllReadyH.nil
  have HKK:=hid hK
  clear hK
  go_simp
  refine Calls.mono (LR.out _ hH.2.2) ?_
  rintro e wc9 ⟨rfl,hfc9⟩
  dsimp only
  have hfr9:=hH.2.2.then0 hfc9
  clear hH
  refine HKK.out _ _ (HS _ hfr9) (fun hH=>?_)
  clear HKK K;try simp only [Act.put,Z]
  iterate 6 (refine tn 27 hH ?_;try simp only [Act.put,Z])
  refine ta 17 hH ?_;try simp only [Act.put,Z]
  refine ta 18 hH ?_;try simp only [Act.put,Z]
  refine ta 19 hH ?_;try simp only [Act.put,Z]
  refine ta 20 hH ?_;try simp only [Act.put,Z]
  refine ta 21 hH ?_;try simp only [Act.put,Z]
  refine ta 22 hH ?_;try simp only [Act.put,Z]
  refine wpAnyH_take (i:=23) (oi:=_) (v:=.agg BL.toArray) (by simp only [G];rfl) (by kernel_rfl) (by kernel_rfl) (by kernel_rfl) (by exact fun _ _ _ h=>h) (yieldsIf_load_mid (by kernel_rfl) 88 (.tmp 54) rfl rb 1 rfl BL _ HRR.out Tryz.underlying88 rfl HSZ.out) hH ?_;try simp only [Act.put,Z]
  refine wpAnyH_ready (rs:=[16]) (by kernel_rfl) (by simp) ?_
  refine AllReadyH.cons (by simp only [G];rfl) (fun K hK=>?_) AllReadyH.nil
  have HKK:=hid hK
  clear hK
  go_simp
  refine Calls.mono (CG.out _ hH.2.2) ?_
  rintro e wc16 ⟨rfl,hfc16⟩
  dsimp only
  have hfr16:=hH.2.2.then0 hfc16
  clear hH
  refine HKK.out _ _ (HS _ hfr16) (fun hH=>?_)
  clear HKK K;try simp only [Act.put,Z]
  refine ta 24 hH ?_;try simp only [Act.put,Z]
  refine ta 25 hH ?_;try simp only [Act.put,Z]
  refine ta 26 hH ?_;try simp only [Act.put,Z]
  refine wpAnyH_done (by kernel_rfl) ?_ _
  clear HS hbe hbg hse hsg LG LR CG HRR HSZ
  have HHF:=hid hH.2.2
  clear hH
  go_wp2_with fail
  go_ret2
  exact ⟨sb,rfl,SR.before HF1.out (SR.same HG1.out HB1.out HA.out HHF.out)⟩
 ·have C4:Hid (Calls Tryz.prog 56 #[.pointer (some ⟨sb,0,none⟩),.pointer (some ⟨bb,0,none⟩)] W1 fun e w'=>e=.returned (.bool true)/\SR W1 bb L K N t.turn (.pointer (some ⟨sb,0,none⟩)) w'):=xx0 _ L K t bb N W1 HG1.out HB1.out HA.out hN
  go_wp2_with fail
  refine Calls.mono C4.out ?_
  rintro e w2 ⟨rfl,hsr⟩
  dsimp only
  have HSR:=hid hsr
  clear hsr
  go_wp2_with fail
  go_ret2
  exact ⟨sb,rfl,SR.before HF1.out HSR.out⟩
 ·obtain ⟨sb1,gb,rb,TX,hg,hq⟩:=HG1.out.told
  cases hg
  have TG:=(show Hid (∀ w',Fr [] W1 w'->Calls Tryz.prog 15 #[.pointer (some ⟨gb,0,none⟩)] w' fun e w''=>e=.returned (.string TX)/\Fr [] w' w'') from hq.tg)
  have TR:=(show Hid (∀ w',Fr [] W1 w'->Calls Tryz.prog 57 #[.pointer (some ⟨rb,0,none⟩)] w' fun e w''=>e=.returned (.string TX)/\Fr [] w' w'') from hq.tr)
  have HS:∀ w',Fr [] W1 w'->(fun w':World=>w'.cell? ⟨sb,0,none⟩=some (.pointer (some ⟨gb,0,none⟩))/\w'.cell? ⟨sb,1,none⟩=some (.pointer (some ⟨rb,0,none⟩))/\Fr [] W1 w') w':=fun w' hf=>⟨hq.c0 w' hf,hq.c1 w' hf,hf⟩
  have K0:=HS W1.drew ((Fr.refl _ _).drew)
  have hte:∀ w0:World,(binOp BinOp.eql 9 (.string TX) (.string TX)).run Tryz.prog w0=.ok (.bool true) w0:=fun w0=>by simp [go_sem]
  clear hq
  go_wp2_with fail
  refine wp_region_held_drew (S:=fun w':World=>w'.cell? ⟨sb,0,none⟩=some (.pointer (some ⟨gb,0,none⟩))/\w'.cell? ⟨sb,1,none⟩=some (.pointer (some ⟨rb,0,none⟩))/\Fr [] W1 w') (by kernel_rfl) K0 (fun hH=>?_)
  refine (show wpAnyH Tryz.prog Region.Mode.any _ _ _ 12 (Array.replicate 12 false) _ _ from ?_)
  iterate 4 (refine tn 12 hH ?_;try simp only [Act.put,Z])
  refine ta 5 hH ?_;try simp only [Act.put,Z]
  refine ta 6 hH ?_;try simp only [Act.put,Z]
  refine ta 7 hH ?_;try simp only [Act.put,Z]
  refine ta 8 hH ?_;try simp only [Act.put,Z]
  refine wpAnyH_ready (rs:=[4]) (by kernel_rfl) (by simp) ?_
  refine AllReadyH.cons (by simp only [G];rfl) (fun K hK=>?_) AllReadyH.nil
  have HKK:=hid hK
  clear hK
  go_simp
  refine Calls.mono (TG.out _ hH.2.2) ?_
  rintro e wc4 ⟨rfl,hfc4⟩
  dsimp only
  have hfr4:=hH.2.2.then0 hfc4
  clear hH
  refine HKK.out _ _ (HS _ hfr4) (fun hH=>?_)
  clear HKK K;try simp only [Act.put,Z]
  refine wpAnyH_ready (rs:=[9]) (by kernel_rfl) (by simp) ?_
  refine AllReadyH.cons (by simp only [G];rfl) (fun K hK=>?_) AllReadyH.nil
  have HKK:=hid hK
  clear hK
  go_simp
  refine Calls.mono (TR.out _ hH.2.2) ?_
  rintro e wc9 ⟨rfl,hfc9⟩
  dsimp only
  have hfr9:=hH.2.2.then0 hfc9
  clear hH
  refine HKK.out _ _ (HS _ hfr9) (fun hH=>?_)
  clear HKK K;try simp only [Act.put,Z]
  iterate 2 (refine tn 12 hH ?_;try simp only [Act.put,Z])
  refine wpAnyH_done (by kernel_rfl) ?_ _
  clear HS hte TG TR
  have HHF:=hid hH.2.2
  clear hH
  go_wp2_with fail
  go_ret2
  exact ⟨sb,rfl,SR.before HF1.out (SR.same HG1.out HB1.out HA.out HHF.out)⟩
 ·obtain ⟨sb1,gb,rb,TX,hg,hq⟩:=HG1.out.told
  cases hg
  have TG:=(show Hid (∀ w',Fr [] W1 w'->Calls Tryz.prog 15 #[.pointer (some ⟨gb,0,none⟩)] w' fun e w''=>e=.returned (.string TX)/\Fr [] w' w'') from hq.tg)
  have RB:=(show Hid (∀ w',0 < w'.heap.size->Calls Tryz.prog 58 #[.string TX] w' fun e w''=>(∃ sb' L' t',e=.returned (.tuple #[.pointer (some ⟨sb',0,none⟩),.bool true])/\Gm w'' (.pointer (some ⟨sb',0,none⟩)) L' t'/\∀ x∈L',w'.heap.size<=x)/\Fr [] w' w'') from hq.rd)
  have c0:=hq.c0 W1 (Fr.refl _ _)
  clear hq
  go_wp2_with fail
  refine Calls.mono (TG.out _ (Fr.refl _ _)) ?_
  rintro e w2 ⟨rfl,hf2⟩
  dsimp only
  have hp2:0 < w2.heap.size:=by have:=HF1.out.size;have:=hf2.size;omega
  go_wp2_with fail
  refine Calls.mono (RB.out w2 hp2) ?_
  rintro e w3 ⟨⟨sb',L',t',rfl,hGn,hLn⟩,hf3⟩
  dsimp only
  have HGN:=hid hGn
  have HLN:=hid hLn
  clear hGn hLn
  go_wp2_with fail
  go_ret2
  exact ⟨sb',rfl,SR.before HF1.out (SR.new HB1.out HGN.out (fun x hx=>Nat.le_trans hf2.size (HLN.out x hx)) (hf2.then0 hf3))⟩
 ·have C8:Hid (Calls Tryz.prog 58 #[.string tx] W1 fun e w'=>((PL tx.data.toList/\∃ sb L,e=.returned (.tuple #[.pointer (some ⟨sb,0,none⟩),.bool true])/\Gm w' (.pointer (some ⟨sb,0,none⟩)) L (qj5 tx.data.toList)/\∀ x∈L,W1.heap.size<=x)\/(¬ PL tx.data.toList/\e=.returned (.tuple #[.pointer none,.bool true])))/\Fr [] W1 w'):=by
   have:=yk4 tx.data.toList W1 HV.out.tl (by have:=HF1.out.size;omega)
   rwa [show (⟨tx.data.toList.toArray⟩:ByteArray)=tx by simp] at this
  go_wp2_with fail
  refine Calls.mono C8.out ?_
  rintro e w2 ⟨⟨_,sb',L',rfl,hGn,hLn⟩|⟨_,rfl⟩,hf2⟩
  ·dsimp only
   have HGN:=hid hGn
   have HLN:=hid hLn
   clear hGn hLn
   go_wp2_with fail
   go_ret2
   exact ⟨sb',rfl,SR.before HF1.out (SR.new HB1.out HGN.out HLN.out hf2)⟩
  ·dsimp only
   go_wp2_with fail
   go_ret2
   exact ⟨sb,rfl,SR.before HF1.out (SR.same HG1.out HB1.out HA.out hf2)⟩
 ·have a1:(kd==1)=false:=by simp;omega
  have a2:(kd==2)=false:=by simp;omega
  have a3:(kd==3)=false:=by simp;omega
  have a4:(kd==4)=false:=by simp;omega
  have a6:(kd==6)=false:=by simp;omega
  have a7:(kd==7)=false:=by simp;omega
  have a8:(kd==8)=false:=by simp;omega
  go_wp2_with fail
  go_ret2
  exact ⟨sb,rfl,SR.before HF1.out (SR.same HG1.out HB1.out HA.out (Fr.refl _ _))⟩
theorem PI.goes {w0:World}{bb N:Nat}{g h:Value}{wr:World}(H:PI w0 bb N g h wr):∃ L t K,Gm wr g L t/\Bk wr bb K N/\(∀ x∈L,x≠bb/\x∉K)/\(∀ x∈L,w0.heap.size<=x)/\∀ g' w',SR wr bb L K N t.turn g' w'->PI w0 bb (N+1) g' h w':=by
 obtain ⟨⟨L1,L2,t1,t2,K,a,b,c,d,e,f,k,l,m,n⟩,hf⟩:=id H
 refine ⟨L1,t1,K,a,c,e,k,fun g' w' hs=>?_⟩
 obtain ⟨⟨L',t',K',q1,q2,q3,q4,q5⟩,hf2⟩:=hs
 have hsz:=hf.size
 have h2:=b.lt
 have h2n:∀ x∈L2,x∉bb :: (L1 ++ K):=fun x hx hm=>by
  rcases List.mem_cons.1 hm with h1|h1
  ·exact (f x hx).1 h1
  ·rcases List.mem_append.1 h1 with h1|h1
   ·exact d x h1 hx
   ·exact (f x hx).2 h1
 refine ⟨⟨L',L2,t',t2,K',q1,b.fr hf2 h2n,q2,fun x hx h2x=>?_,q5,fun x hx=>⟨(f x hx).1,fun hk=>?_⟩,fun x hx=>?_,l,fun x hx=>?_,n⟩,?_⟩
 ·rcases q3 x hx with h1|h1
  ·exact d x h1 h2x
  ·have:=h2 x h2x;omega
 ·rcases q4 x hk with h1|h1
  ·exact (f x hx).2 h1
  ·have:=h2 x hx;omega
 ·rcases q3 x hx with h1|h1
  ·exact k x h1
  ·omega
 ·rcases q4 x hx with h1|h1
  ·exact m x h1
  ·omega
 ·refine hf.trans hf2 (fun x hx=>Or.inr ?_)
  rcases List.mem_cons.1 hx with rfl|h1
  ·exact n
  ·rcases List.mem_append.1 h1 with h1|h1
   ·exact k x h1
   ·exact m x h1
theorem PI.book {w0:World}{bb N:Nat}{g h:Value}{wr:World}(H:PI w0 bb N g h wr):∃ K,Bk wr bb K N:=by
 obtain ⟨⟨L1,L2,t1,t2,K,a,b,c,_⟩,_⟩:=H
 exact ⟨K,c⟩
theorem fw6 (hi:Int)(hhi:hi<=8)(l:List OpD)(v:Value)(w:World)(hv:qjq4 w v l)(hl:l.length<=1048576)(hsd:Sd w) :
  Calls Tryz.prog 8 #[v,.int .i64 hi] w fun e w'=>e=.returned (.bool true)/\Fr [] w w':=by
 obtain ⟨ao,lc,rfl⟩:∃ ao lc,v=.slice ao l.length lc:=by
  rcases hv with ⟨ao,lc,rfl,rfl⟩|⟨lb,lo,lc,rfl,_⟩
  ·exact ⟨_,_,rfl⟩
  ·exact ⟨_,_,rfl⟩
 have HV:=hid hv
 have HSD:=hid hsd
 have hpos:=hsd.pos
 clear hv hsd
 go_enter Tryz.func8,Tryz.ntmps8
 go_wp2_with fail
 refine Calls.mono (xx7 w) ?_
 rintro e w1 ⟨rfl,hf1⟩
 dsimp only
 obtain ⟨tx,htx⟩:∃ x,x=gk2:=⟨_,rfl⟩
 rw [<- htx]
 have hok:zz9 tx:=by rw [htx];exact dk1
 have HK:Hid (∀ w,Calls Tryz.prog 25 #[] w fun e w'=>e=.returned (.string tx)/\Fr [] w w'):=by rw [htx];exact xx7
 have HMD:Hid (∀ w,0 < w.heap.size->Calls Tryz.prog 24 #[.string tx] w fun e w'=>∃ sb L,e=.returned (.tuple #[.pointer (some ⟨sb,0,none⟩),.bool true])/\Gm w' (.pointer (some ⟨sb,0,none⟩)) L (zz4 tx)/\(∀ x∈L,w.heap.size<=x)/\Fr [] w w'):=fun w hw=>(kv3 tx w hw).mono (by
  rintro e w' ⟨⟨_,sb,L,h1,h2,h3⟩|⟨hno,_⟩,hf⟩
  ·exact ⟨sb,L,h1,h2,h3,hf⟩
  ·exact absurd hok hno)
 clear htx
 have hs1:=hf1.size
 go_wp2_with fail
 refine Calls.mono (HMD.out w1 (by omega)) ?_
 rintro e w2 ⟨s1,L1,rfl,hG1,hL1,hf2⟩
 dsimp only
 have hs2:=hf2.size
 have HG1:=hid hG1
 clear hG1
 go_wp2_with fail
 refine Calls.mono (HK.out w2) ?_
 rintro e w3 ⟨rfl,hf3⟩
 dsimp only
 have hs3:=hf3.size
 go_wp2_with fail
 refine Calls.mono (HMD.out w3 (by omega)) ?_
 rintro e w4 ⟨s2,L2,rfl,hG2,hL2,hf4⟩
 dsimp only
 have hs4:=hf4.size
 obtain ⟨W5,hW5⟩:∃ W,W=w4.alloc (.cells #[.slice none 0 0,.slice none 0 0,.slice none 0 0,.slice none 0 0,.slice none 0 0,.slice none 0 0,.slice none 0 0,.slice none 0 0,.slice none 0 0,ii 0] 68):=⟨_,rfl⟩
 have hf5:Fr [] w4 W5:=by rw [hW5];exact (Fr.refl _ _).alloc _
 have hb5:Bk W5 w4.heap.size [] 0:=Bk.start (by rw [hW5];exact qq6 _ _)
 have hw2:Fr [] w w2:=hf1.then0 hf2
 have hPI:PI w w4.heap.size 0 (.pointer (some ⟨s1,0,none⟩)) (.pointer (some ⟨s2,0,none⟩)) W5:=by
  have h1l:=HG1.out.lt
  have h2l:=hG2.lt
  refine ⟨⟨L1,L2,zz4 tx,zz4 tx,[],(HG1.out.fr0 (hf3.then0 hf4)).fr0 hf5,hG2.fr0 hf5,hb5,fun x hx hx2=>?_,fun x hx=>⟨?_,by simp⟩,fun x hx=>⟨?_,by simp⟩,fun x hx=>?_,fun x hx=>?_,by simp,by omega⟩,((hw2.then0 hf3).then0 hf4).then0 hf5⟩
  ·have:=h1l x hx;have:=hL2 x hx2;omega
  ·have:=h1l x hx;omega
  ·have:=h2l x hx;omega
  ·have:=hL1 x hx;omega
  ·have:=hL2 x hx;omega
 have HPI:=hid hPI
 clear hG2 hPI hb5 hL1 hL2
 go_wp2_with fail
 rw [<- hW5]
 obtain ⟨bb,hbb⟩:∃ x,x=w4.heap.size:=⟨_,rfl⟩
 rw [<- hbb] at HPI |-
 clear hW5 hbb hf5 hf4 hf3 hw2 hf2 hf1 HMD HK HG1
 go_loopw [5,7,10] (fun g h i wr=>∃ k sb1 sb2:Nat,k<=l.length/\i=.int .i64 k/\g=.pointer (some ⟨sb1,0,none⟩)/\h=.pointer (some ⟨sb2,0,none⟩)/\PI w bb k (.pointer (some ⟨sb1,0,none⟩)) (.pointer (some ⟨sb2,0,none⟩)) wr) (fun _ _ i _=>l.length - (intOf i).toNat)
 case atStart=>exact ⟨0,s1,s2,Nat.zero_le _,rfl,rfl,rfl,HPI.out⟩
 case round =>
  clear HPI
  obtain ⟨k,sb1,sb2,hk,rfl,rfl,rfl,hI⟩:=hrel
  by_cases hlt:k < l.length
  ·have hlti:(k:Int) < (l.length:Int):=by omega
   obtain ⟨lb,lo,rfl,hlb,hcs,hop⟩:∃ lb lo,ao=some ⟨lb,lo,none⟩/\lb < w.heap.size/\w.rangeAt lb (lo+k*7) (l[k]).cells/\OpV w l[k]:=by
    rcases HV.out with ⟨ao',lc',e1,e2⟩|⟨lb,lo,lc',e1,h2,h3⟩
    ·rw [e2] at hlt;simp at hlt
    ·obtain ⟨q1,q2⟩:=h3 k hlt
     exact ⟨lb,lo,by simpa using congrArg (fun v:Value=>match v with|.slice a _ _=>a|_=>none) e1,h2,q1,q2⟩
   obtain ⟨d,hd⟩:∃ d,l[k]=d:=⟨_,rfl⟩
   rw [hd] at hcs hop
   have hcc:∀ j,wr.cell? ⟨lb,j,none⟩=w.cell? ⟨lb,j,none⟩:=fun j=>hI.fr.cell _ _ hlb (by simp)
   have HST:Hid (∀ W,Fr [] wr W->d.kind<=8->Calls Tryz.prog 26 #[.pointer (some ⟨sb1,0,none⟩),.pointer (some ⟨bb,0,none⟩),.agg #[ii d.kind,.slice d.fa d.fn d.fc,.slice d.sa d.sn d.sc,.string d.tx,.slice d.ia d.il d.ic,ii d.n,.slice d.ga d.gl d.gc]] W fun e w'=>∃ sb',e=.returned (.tuple #[.pointer (some ⟨sb',0,none⟩),.bool true])/\PI w bb (k+1) (.pointer (some ⟨sb',0,none⟩)) (.pointer (some ⟨sb2,0,none⟩)) w'):=fun W hf hkd=>by
    have hI':=hI.then0 hf
    obtain ⟨L,t,K,q1,q2,q3,q5,q6⟩:=hI'.goes
    refine (fy7 _ L K t bb k d w W q1 q2 q3 (by omega) (Sd.fr0 HSD.out hI'.fr) hop hI'.fr q5 hkd).mono ?_
    rintro e w' ⟨sb',he,hsr⟩
    exact ⟨sb',he,q6 _ _ hsr⟩
   obtain ⟨kd,fa,fn,fc,sa,sn,sc,tx2,ia,il,ic,n,ga,gl,gc,fst,snd⟩:=d
   dsimp only at HST hcs
   have c0:wr.cell? ⟨lb,lo+k*7,none⟩=some (ii kd):=(hcc _).trans (hcs 0 _ rfl)
   have c1:wr.cell? ⟨lb,lo+k*7+1,none⟩=some (.slice fa fn fc):=(hcc _).trans (hcs 1 _ rfl)
   have c2:wr.cell? ⟨lb,lo+k*7+2,none⟩=some (.slice sa sn sc):=(hcc _).trans (hcs 2 _ rfl)
   have c3:wr.cell? ⟨lb,lo+k*7+3,none⟩=some (.string tx2):=(hcc _).trans (hcs 3 _ rfl)
   have c4:wr.cell? ⟨lb,lo+k*7+4,none⟩=some (.slice ia il ic):=(hcc _).trans (hcs 4 _ rfl)
   have c5:wr.cell? ⟨lb,lo+k*7+5,none⟩=some (ii n):=(hcc _).trans (hcs 5 _ rfl)
   have c6:wr.cell? ⟨lb,lo+k*7+6,none⟩=some (.slice ga gl gc):=(hcc _).trans (hcs 6 _ rfl)
   have HLK:Hid (∀ W N g h,PI w bb N g h W->N<=2000000->Calls Tryz.prog 27 #[.pointer (some ⟨bb,0,none⟩)] W fun e w'=>e=.returned (.bool true)/\Fr [] W w'):=fun W N g h hp hN=>by
    obtain ⟨K,hK⟩:=hp.book
    exact fk9 bb N K W hK hN
   have HI:=hid hI
   have hk2:k+1<=2000000:=by omega
   clear hcc hcs hop hd hI
   have hkc:kd=5\/(kd≠5/\kd<=hi)\/(kd≠5/\hi < kd):=by omega
   rcases hkc with rfl|⟨hn5',hk4⟩|⟨hn5',hk6⟩
   ·clear HST
    have hp5:∀ o,PI w bb (k+1) (.pointer (some ⟨sb2,0,none⟩)) (.pointer (some ⟨sb1,0,none⟩)) (wr.alloc o):=fun o=>((HI.out.swap).then0 ((Fr.refl _ _).alloc o)).more (by omega)
    have HP5:=hid hp5
    clear hp5
    go_wp2_with fail
    refine Calls.mono (HLK.out _ _ _ _ (HP5.out _) hk2) ?_
    rintro e w6 ⟨rfl,hf6⟩
    dsimp only
    go_wp2_with fail
    go_roundw
    case rel=>exact ⟨k+1,sb2,sb1,hlt,by go_num,rfl,rfl,(HP5.out _).then0 hf6⟩
    case measure=>simp [intOf];omega
   ·have hn5:(kd==5)=false:=by simp;omega
    have hle5:kd<=hi:=hk4
    have HS2:Hid (∀ o,Calls Tryz.prog 26 #[.pointer (some ⟨sb1,0,none⟩),.pointer (some ⟨bb,0,none⟩),.agg #[ii kd,.slice fa fn fc,.slice sa sn sc,.string tx2,.slice ia il ic,ii n,.slice ga gl gc]] (wr.alloc o) fun e w'=>∃ sb',e=.returned (.tuple #[.pointer (some ⟨sb',0,none⟩),.bool true])/\PI w bb (k+1) (.pointer (some ⟨sb',0,none⟩)) (.pointer (some ⟨sb2,0,none⟩)) w'):=fun o=>HST.out _ ((Fr.refl _ _).alloc o) (by omega)
    clear HST
    go_wp2_with fail
    refine Calls.mono (HS2.out _) ?_
    rintro e w6 ⟨sb',rfl,hp6⟩
    dsimp only
    have HP6:=hid hp6
    clear hp6
    go_wp2_with fail
    refine Calls.mono (HLK.out _ _ _ _ HP6.out hk2) ?_
    rintro e w7 ⟨rfl,hf7⟩
    dsimp only
    go_wp2_with fail
    go_roundw
    case rel=>exact ⟨k+1,sb',sb2,hlt,by go_num,rfl,rfl,HP6.out.then0 hf7⟩
    case measure=>simp [intOf];omega
   ·have hn5:(kd==5)=false:=by simp;omega
    have hle5:¬ kd<=hi:=by omega
    clear HST
    have hp5:∀ o,PI w bb (k+1) (.pointer (some ⟨sb1,0,none⟩)) (.pointer (some ⟨sb2,0,none⟩)) (wr.alloc o):=fun o=>(HI.out.then0 ((Fr.refl _ _).alloc o)).more (by omega)
    have HP5:=hid hp5
    clear hp5
    go_wp2_with fail
    refine Calls.mono (HLK.out _ _ _ _ (HP5.out _) hk2) ?_
    rintro e w6 ⟨rfl,hf6⟩
    dsimp only
    go_wp2_with fail
    go_roundw
    case rel=>exact ⟨k+1,sb1,sb2,hlt,by go_num,rfl,rfl,(HP5.out _).then0 hf6⟩
    case measure=>simp [intOf];omega
  ·have hlti:¬ (k:Int) < (l.length:Int):=by omega
   have HSA:Hid (∀ W N s h,PI w bb N (.pointer (some ⟨s,0,none⟩)) h W->N<=2000000->Calls Tryz.prog 28 #[.pointer (some ⟨s,0,none⟩),.pointer (some ⟨bb,0,none⟩)] W fun e w'=>e=.returned (.bool true)/\PI w bb (N+1) (.pointer (some ⟨s,0,none⟩)) h w'):=fun W N s h hp hN=>by
    obtain ⟨L,t,K,q1,q2,q3,q5,q6⟩:=hp.goes
    refine (gw5 _ L K t bb N W q1 q2 q3 hN).mono ?_
    rintro e w' ⟨he,hsr⟩
    exact ⟨he,q6 _ _ hsr⟩
   have HI:=hid hI
   clear hI
   go_wp2_with fail
   refine Calls.mono (HSA.out _ _ _ _ HI.out (by omega)) ?_
   rintro e w6 ⟨rfl,hp6⟩
   dsimp only
   have HP6:=hid hp6.swap
   clear hp6
   go_wp2_with fail
   refine Calls.mono (HSA.out _ _ _ _ HP6.out (by omega)) ?_
   rintro e w7 ⟨rfl,hp7⟩
   dsimp only
   have hfin:=hp7.fr
   clear hp7
   go_wp2_with fail
   go_ret
   exact ⟨rfl,hfin⟩
theorem dq6 (l:List OpD)(v:Value)(w:World)(hv:qjq4 w v l)(hl:l.length<=1048576)(hsd:Sd w) :
  Calls Tryz.prog 4 #[v] w fun e w'=>e=.returned (.bool true)/\Fr [] w w':=by
 have C:=fw6 8 (by omega) l v w hv hl hsd
 go_enter Tryz.func4,Tryz.ntmps4
 go_wp2_with fail
 refine Calls.mono C ?_
 rintro e w1 ⟨rfl,hf1⟩
 dsimp only
 go_wp2_with fail
 go_ret
 exact ⟨rfl,hf1⟩
end Go.Proofs.YtapabahhfanmmaaGreatDoor
