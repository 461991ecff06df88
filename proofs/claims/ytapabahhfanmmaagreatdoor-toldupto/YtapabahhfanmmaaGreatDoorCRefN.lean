import Derived.Test.YtapabahhfanmmaaGreatDoorCRefV
namespace Go.Proofs.YtapabahhfanmmaaGreatDoor
open Go.RowKit
set_option maxHeartbeats 2000000
set_option maxRecDepth 100000
theorem yj4 {t:T}{u:U}(hw:u.what=4):qw3 t u=qj4 (qj7 t u).2 (qj7 t u).1:=by unfold qw3 qv9;simp [hw]
theorem PRow.owns {w:World}{pb cap:Nat}{us:List U}(h:PRow w pb cap us):w.ownsRow 0 85 11 (.slice (some ⟨pb,0,none⟩) us.length cap) us.length (us.flatMap U.cells):=by
 obtain ⟨cur,h1,h2,h3⟩:=h.h
 exact ⟨jv5 us,Or.inr ⟨pb,cap,cur,rfl,Nat.zero_le _,h1,h.le,h.cap,h2,h3⟩⟩
theorem RG.relist' {w:World}{gb:Nat}{t:T}{pv:Value}(hc:∀ k,k < 149->w.cell? ⟨gb,k,none⟩=some (qw2 t pv k))(hz:∀ k,w.frozen? ⟨gb,k,none⟩=false){pb' cap':Nat}{us':List U}(hr:PRow w pb' cap' us')(hn:gb≠pb')(hl:us'.length<=1000):RG (w.setCell ⟨gb,148,none⟩ (.slice (some ⟨pb',0,none⟩) us'.length cap')) gb pb' cap' { t with us:=us' }:=by
 refine ⟨fun k hk=>?_,fun k=>by rw [World.frozen?_setCell];exact hz k,hr.fr (S:=[gb]) ((Fr.refl _ _).setCell _ _ (Or.inl (by simp))) (by simpa using fun e=>hn e.symm),hl,hn⟩
 by_cases e:k=148
 ·subst e
  rw [qk0 _ _ _ _ _ (hc 148 hk)]
  rfl
 ·rw [qz1 _ _ _ _ _ _ (Or.inr (fun x=>e x.symm)),hc k hk]
  unfold qw2
  dsimp only
  by_cases e0:k=0
  ·rw [if_pos e0,if_pos e0]
  by_cases e1:k < 145
  ·rw [if_neg e0,if_neg e0,if_pos e1,if_pos e1]
  by_cases e2:k=145
  ·rw [if_neg e0,if_neg e0,if_neg e1,if_neg e1,if_pos e2,if_pos e2]
  by_cases e3:k=146
  ·rw [if_neg e0,if_neg e0,if_neg e1,if_neg e1,if_neg e2,if_neg e2,if_pos e3,if_pos e3]
  ·rw [if_neg e0,if_neg e0,if_neg e1,if_neg e1,if_neg e2,if_neg e2,if_neg e3,if_neg e3,if_pos (by omega),if_pos (by omega)]
theorem yv1 {P:Program} (w:World) {o:Oper} {a:Act} {K:Act->World->Prop} {Q:Exit->Act->World->Prop} (s x:Operand) (t:TypeId)
  (ho:o.op=.call { callee:=.builtin .append,args:=#[s,x],argTypes:=#[t,t] })
  (base:Nat) (e:TypeId) (i:TypeInfo) (z:Value) (size bytes:Nat) (ht:P.underlying t=some (.slice e)) (hi:P.info? e=some i) (hz:i.zero=some z)
  (hsize:i.size=size) (hby:i.bytes=bytes) (hzs:z.cells.size=size) (hsz:0 < size)
  (v:Value) (n:Nat) (xs:List Value) (hs:a.eval s=v) (hown:w.ownsRow base e size v n xs)
  (ad:Addr) (m c:Nat) (news:List Value) (hx:a.eval x=.slice (some ad) m c) (hl:news.length=m*size) (hnews:∀ j u,news[j]?=some u->w.cell? (ad.add j)=some u) (h1:∀ u∈news,u.oneCell'=true)
  (h63:n+m<=maxLen) (hbytes:(n+m)*bytes<=140737488355328) (hbase:base<=w.heap.size)
  (h:∀ v' w',w'.ownsRow base e size v' (n+m) (xs ++ news)->w.grownBy w' v.ownBlock->(v'.ownBlock=v.ownBlock\/v'.ownBlock=some w.heap.size)->K (a.put o.dst v') w'):o.wp P a w K Q:=by
 obtain ⟨v',w',hr,h2,h3,h4,h5⟩:=run_append_own_at (P:=P) w base t o.type e i z size bytes ht hi hz hsize hby hzs hsz v n xs hown ad m c news hl hnews h1 h63 hbytes hbase
 unfold Oper.wp execOp
 simp only [ho,resolve,invoke,builtin,Sem.run_bind,Sem.run_pure,Result.andThen_ok,List.map_toArray,List.map_cons,List.map_nil,hs,hx,hr]
 simp only [Oper.upon]
 exact h v' w' h2 h3 h5
theorem xv2 {t:T}(hok:TOk t){i:Nat}{u:U}(hi:t.us[i]?=some u)(X:T)(hX:X.us=t.us)(o k x y L:Int):qj4 (X.added o k x y L) u.idle={ X.added o k x y L with us:=t.us.set i u.idle ++ [qk4 X.next o k x y L] }:=by
 have hp:qz0 t.us u.id=some i:=jk3 hok.rise hi rfl
 have hl:=(List.getElem?_eq_some_iff.1 hi).1
 have hp2:qz0 (X.added o k x y L).us u.idle.id=some i:=by
  show qz0 (X.us ++ [qk4 X.next o k x y L]) u.id=some i
  rw [hX]
  unfold qz0 at hp |-
  rw [List.findIdx?_append,hp]
  rfl
 unfold qj4
 rw [hp2]
 dsimp only
 show { X.added o k x y L with us:=(X.us ++ [qk4 X.next o k x y L]).set i u.idle }=_
 rw [hX,List.set_append_left _ _ hl]
theorem xj5 {t:T}(hok:TOk t){x y:Int}:(qj0 x y).find? (fun c=>qv3 (qx2 t.held) t.bd c.1 c.2)=(qj0 x y).find? (fun c=>qk5 t.us t.bd c):=by
 have hall:∀ (l:List Cl),(∀ c∈l,onB c.1 c.2=true)->l.find? (fun c=>qv3 (qx2 t.held) t.bd c.1 c.2)=l.find? (fun c=>qk5 t.us t.bd c):=by
  intro l
  induction l with
  | nil=>intro _;rfl
  | cons a l ih =>
   intro h
   rw [List.find?_cons,List.find?_cons,kx6 hok a (h a (by simp)),ih (fun c hc=>h c (by simp [hc]))]
 exact hall _ (jk0 x y)
theorem fq1 {us:List U}{bd:Nat->Int}{x y:Int}{n:Nat}{sd:Int×Int}(hsd:sds[n]?=some sd)(hno:∀ c∈qj2 x y n,qk5 us bd c=false)(hf:qk5 us bd (x+sd.1,y+sd.2)=true):(qj0 x y).find? (fun c=>qk5 us bd c)=some (x+sd.1,y+sd.2):=by
 have ho:=kx7 _ hf
 obtain ⟨hl,he⟩:=List.getElem?_eq_some_iff.1 hsd
 have hs:sds=sds.take n ++ sd :: sds.drop (n+1):=by
  rw [<- he,List.getElem_cons_drop,List.take_append_drop]
 unfold qj0
 rw [hs,List.map_append,List.filter_append,List.find?_append]
 have h1:(((sds.take n).map fun s=>(x+s.1,y+s.2)).filter fun c=>onB c.1 c.2).find? (fun c=>qk5 us bd c)=none:=by
  rw [List.find?_eq_none]
  intro c hc
  simp [hno c hc]
 rw [h1,List.map_cons,List.filter_cons_of_pos (by simpa using ho),List.find?_cons_of_pos (by simpa using hf)]
 rfl
theorem gv9 (gb pb cap:Nat)(t:T)(i:Nat)(u:U)(w:World)(h:RG w gb pb cap t)(hi:t.us[i]?=some u)(hok:TOk t)(hw:u.what=4)(how:u.owner=0) :
  Calls Tryz.prog 183 #[.pointer (some ⟨gb,0,none⟩),.int .i64 i] w fun e w'=>e=.returned (.tuple #[])/\RStep w gb pb (qw3 t u) w':=by
 rw [yj4 hw]
 obtain ⟨R,hR⟩:∃ R:T,R=qj4 (qj7 t u).2 (qj7 t u).1:=⟨_,rfl⟩
 rw [<- hR]
 have HR:=hid hR
 have hu:=hok.all u (List.mem_of_getElem? hi)
 have hkd:u.tox=2\/u.tox=3:=by have:=hu.od;unfold jk9 at this;omega
 obtain ⟨cst,hcst⟩:∃ k,zq6 u.tox=k:=⟨_,rfl⟩
 have HC:Hid (∀ W:World,Calls Tryz.prog 215 #[.int .i64 u.tox] W fun e w'=>e=.returned (.int .i64 cst)/\W=w'):=fun W=>by rw [<- hcst];exact yy6 u.tox hkd W
 have HCS:=hid hcst
 have hcb:0<=cst/\cst<=8:=by rw [<- hcst];rcases hkd with e|e <;> rw [e] <;> decide
 obtain ⟨s,hs⟩:∃ s,t.stock u.owner=s:=⟨_,rfl⟩
 have hss:t.s0=s:=by rw [how] at hs;simpa [T.stock] using hs
 have hst:=yk7 hok u.owner
 rw [hs] at hst
 have hlen:=h.len
 have hil:=(List.getElem?_eq_some_iff.1 hi).1
 have hili:(i:Int) < (t.us.length:Int):=by omega
 obtain ⟨p0,p1,p2,p3⟩:=qz3.1 hu.on
 have hc:=h.c148
 obtain ⟨c0,c1,c2,c3,c4,c5,c6,c7,c8,c9,c10⟩:=h.gv.p.at hi
 obtain ⟨W1,hW1⟩:∃ W,W=w.alloc (.cells u.arr 85):=⟨_,rfl⟩
 have hf1:Fr [] w W1:=by rw [hW1];exact (Fr.refl _ _).alloc _
 have hu1:W1.heap[w.heap.size]?=some (.cells u.arr 85):=by rw [hW1];exact qq6 _ _
 have HW1:=hid hW1
 have HG1:=(show Hid _ from h.fr0 hf1)
 have K0:(fun w':World=>cl w' w.heap.size 1 0/\cl w' gb 145 s/\w'.cell? ⟨gb,148,none⟩=some (.slice (some ⟨pb,0,none⟩) t.us.length cap)/\cl w' gb 147 t.next) W1.drew:=by
  have hg:=h.fr0 (hf1.then0 ((Fr.refl [] W1).drew))
  have h1:=hg.c145
  rw [hss] at h1
  have h2:W1.drew.cell? ⟨w.heap.size,1,none⟩=some (ii u.owner):=j9 (((Fr.refl [] W1).drew).heap0 hu1)
  rw [how] at h2
  exact ⟨h2,h1,hg.c148,hg.c147⟩
 have tx1:W1.cell? ⟨w.heap.size,8,none⟩=some (ii u.tox):=j9 hu1
 have HOK:=hid hok
 have HI:=hid hi
 have HH:=hid h
 have HS:=hid hs
 have HOW:=hid how
 clear hok hi h hW1 hR hw hs hcst how hss
 go_enter Tryz.func183,Tryz.ntmps183
 go_wp2_with fail
 rw [<- HW1.out]
 obtain ⟨B,hB⟩:∃ B:Bool,(decide (s < cst)||(decide (100<=(t.us.length:Int))||decide (1000000000<=t.next)))=B:=⟨_,rfl⟩
 have HB:=hid hB
 go_cut [43] (fun s43 wx=>s43=.bool B/\Fr [] W1 wx)
 case first =>
  by_cases a1:s < cst
  ·have HBT:Hid (B=true):=by show _=_;rw [<- hB];simp [a1]
   clear hB c0 c1 c2 c3 c4 c5 c6 c7 c8 c9 c10 hc
   refine wp_region_held_drew (S:=fun w':World=>cl w' w.heap.size 1 0/\cl w' gb 145 s/\w'.cell? ⟨gb,148,none⟩=some (.slice (some ⟨pb,0,none⟩) t.us.length cap)/\cl w' gb 147 t.next) (by kernel_rfl) K0 (fun hH=>?_)
   refine (show wpAnyH Tryz.prog Region.Mode.any _ _ _ 25 (Array.replicate 25 false) _ _ from ?_)
   iterate 8 (refine tn 25 hH ?_;try simp only [Act.put,Z])
   refine wpAnyH_ready (rs:=[8]) (by kernel_rfl) (by simp) ?_
   refine AllReadyH.cons (by simp only [G];rfl) (fun K hK=>?_) AllReadyH.nil
   go_simp
   refine Calls.mono (HC.out _) ?_
   rintro e w2 ⟨rfl,rfl⟩
   dsimp only
   refine hK.out _ _ K0 (fun hH=>?_)
   clear hK K;try simp only [Act.put,Z]
   iterate 16 (refine tn 25 hH ?_;try simp only [Act.put,Z])
   refine wpAnyH_done (by kernel_rfl) ?_ _
   go_wp2_with fail
   go_meet
   exact ⟨by rw [HBT.out],(Fr.refl _ _).drew⟩
  ·have a1b:decide (s < cst)=false:=decide_eq_false a1
   by_cases a2:100<=(t.us.length:Int)
   ·have HBT:Hid (B=true):=by show _=_;rw [<- hB];simp [a2]
    clear hB c0 c1 c2 c3 c4 c5 c6 c7 c8 c9 c10 hc a1
    refine wp_region_held_drew (S:=fun w':World=>cl w' w.heap.size 1 0/\cl w' gb 145 s/\w'.cell? ⟨gb,148,none⟩=some (.slice (some ⟨pb,0,none⟩) t.us.length cap)/\cl w' gb 147 t.next) (by kernel_rfl) K0 (fun hH=>?_)
    refine (show wpAnyH Tryz.prog Region.Mode.any _ _ _ 25 (Array.replicate 25 false) _ _ from ?_)
    iterate 8 (refine tn 25 hH ?_;try simp only [Act.put,Z])
    refine wpAnyH_ready (rs:=[8]) (by kernel_rfl) (by simp) ?_
    refine AllReadyH.cons (by simp only [G];rfl) (fun K hK=>?_) AllReadyH.nil
    go_simp
    refine Calls.mono (HC.out _) ?_
    rintro e w2 ⟨rfl,rfl⟩
    dsimp only
    refine hK.out _ _ K0 (fun hH=>?_)
    clear hK K;try simp only [Act.put,Z]
    iterate 16 (refine tn 25 hH ?_;try simp only [Act.put,Z])
    refine wpAnyH_done (by kernel_rfl) ?_ _
    go_wp2_with fail
    go_meet
    exact ⟨by rw [HBT.out],(Fr.refl _ _).drew⟩
   ·have a2b:decide (100<=(t.us.length:Int))=false:=decide_eq_false a2
    have HBT:Hid (B=decide (1000000000<=t.next)):=by show _=_;rw [<- hB,a1b,a2b];rfl
    clear hB c0 c1 c2 c3 c4 c5 c6 c7 c8 c9 c10 hc a1 a2
    refine wp_region_held_drew (S:=fun w':World=>cl w' w.heap.size 1 0/\cl w' gb 145 s/\w'.cell? ⟨gb,148,none⟩=some (.slice (some ⟨pb,0,none⟩) t.us.length cap)/\cl w' gb 147 t.next) (by kernel_rfl) K0 (fun hH=>?_)
    refine (show wpAnyH Tryz.prog Region.Mode.any _ _ _ 25 (Array.replicate 25 false) _ _ from ?_)
    iterate 8 (refine tn 25 hH ?_;try simp only [Act.put,Z])
    refine wpAnyH_ready (rs:=[8]) (by kernel_rfl) (by simp) ?_
    refine AllReadyH.cons (by simp only [G];rfl) (fun K hK=>?_) AllReadyH.nil
    go_simp
    refine Calls.mono (HC.out _) ?_
    rintro e w2 ⟨rfl,rfl⟩
    dsimp only
    refine hK.out _ _ K0 (fun hH=>?_)
    clear hK K;try simp only [Act.put,Z]
    iterate 16 (refine tn 25 hH ?_;try simp only [Act.put,Z])
    refine wpAnyH_done (by kernel_rfl) ?_ _
    go_wp2_with fail
    go_meet
    exact ⟨by rw [HBT.out],(Fr.refl _ _).drew⟩
 case rest =>
  obtain ⟨rfl,hfc⟩:=hcut
  have hwc:=hf1.then0 hfc
  have HGC:=(show Hid _ from HH.out.fr0 hwc)
  have HSTAY:Hid (qj7 t u=(u,t)->R=t):=fun e=>by rw [HR.out,e];exact qw9 HOK.out.rise HI.out
  clear hB c0 c1 c2 c3 c4 c5 c6 c7 c8 c9 c10 hc K0 tx1
  cases B
  ·have hB0:=HB.out
   have HX:Hid (qj7 t u=match (qj0 u.x u.y).find? (fun c=>qk5 t.us t.bd c) with|none=>(u,t)|some c=>(u.idle,T.added { t.setStock u.owner (t.stock u.owner - zq6 u.tox) with held:=fun k=>if k=c then some t.next else t.held k } u.owner u.tox c.1 c.2 (qx9 u.tox))):=by
    simp at hB0
    show _=_
    unfold qj7
    rw [HS.out,HCS.out,if_neg (by omega),if_neg (by omega),if_neg (by omega),xj5 HOK.out]
    cases (qj0 u.x u.y).find? (fun c=>qk5 t.us t.bd c) <;> rfl
   clear hB0
   have huc:=hfc.heap0 hu1
   go_wp2_with fail
   go_loopw [6] (fun k wr=>∃ n:Nat,n<=4/\k=.int .i64 n/\(∀ c∈qj2 u.x u.y n,qk5 t.us t.bd c=false)/\Fr [] wc wr) (fun k _=>4 - (intOf k).toNat)
   case atStart=>exact ⟨0,by omega,rfl,fun c hc=>by simp [qj2] at hc,Fr.refl _ _⟩
   case round =>
    obtain ⟨n,hn,rfl,hnf,hfk⟩:=hrel
    have HNF:=hid hnf
    clear hnf
    by_cases hn4:n < 4
    ·have hn4i:(n:Int) < 4:=by omega
     obtain ⟨sd,hsd⟩:∃ s,sds[n]?=some s:=⟨_,List.getElem?_eq_getElem (show n < sds.length from hn4)⟩
     have hsb:-1<=sd.1/\sd.1<=1 /\ -1<=sd.2/\sd.2<=1:=by
      have h5:n=0\/n=1\/n=2\/n=3:=by omega
      rcases h5 with rfl|rfl|rfl|rfl <;> (simp [sds] at hsd;subst hsd;decide)
     have HSD:=(show Hid _ from fun W:World=>jz6 u.x u.y n sd W hsd (by omega) (by omega) (by omega) (by omega))
     have HYES:Hid (onB (u.x+sd.1) (u.y+sd.2)=true->qj2 u.x u.y (n+1)=qj2 u.x u.y n ++ [(u.x+sd.1,u.y+sd.2)]):=fun ho=>zk0 u.x u.y n sd hsd ho
     have HNO:Hid (onB (u.x+sd.1) (u.y+sd.2)=false->qj2 u.x u.y (n+1)=qj2 u.x u.y n):=fun ho=>zw0 u.x u.y n sd hsd ho
     have HFND:Hid (qk5 t.us t.bd (u.x+sd.1,u.y+sd.2)=true->(qj0 u.x u.y).find? (fun c=>qk5 t.us t.bd c)=some (u.x+sd.1,u.y+sd.2)):=fun hf=>fq1 hsd HNF.out hf
     obtain ⟨z,hz⟩:∃ z,u.x+sd.1=z:=⟨_,rfl⟩
     obtain ⟨v,hv⟩:∃ z,u.y+sd.2=z:=⟨_,rfl⟩
     rw [hz,hv] at HSD HYES HNO HFND
     have hub:=hfk.heap0 huc
     have ux:wr.cell? ⟨w.heap.size,3,none⟩=some (ii u.x):=j9 hub
     have uy:wr.cell? ⟨w.heap.size,4,none⟩=some (ii u.y):=j9 hub
     clear hz hv hsd hsb
     go_wp2_with fail
     refine Calls.mono (HSD.out _) ?_
     rintro e w3 ⟨rfl,rfl⟩
     dsimp only
     have hFR:=jz5 gb pb cap t z v wr (HGC.out.fr0 hfk)
     obtain ⟨f,hf⟩:∃ f,qk5 t.us t.bd (z,v)=f:=⟨_,rfl⟩
     rw [hf] at hFR HFND
     have HFE:=hid hf
     clear hf
     go_wp2_with fail
     refine Calls.mono hFR ?_
     rintro e w4 ⟨rfl,hf4⟩
     dsimp only
     clear hFR ux uy
     cases f
     ·have HN2:Hid (∀ c∈qj2 u.x u.y (n+1),qk5 t.us t.bd c=false):=fun c hc=>by
       by_cases ho:onB z v=true
       ·rw [HYES.out ho] at hc
        rcases List.mem_append.1 hc with hc|hc
        ·exact HNF.out c hc
        ·have:c=(z,v):=by simpa using hc
         rw [this]
         exact HFE.out
       ·rw [HNO.out (by simpa using ho)] at hc
        exact HNF.out c hc
      go_wp2_with fail
      go_roundw
      case rel=>exact ⟨n+1,hn4,by go_num,HN2.out,hfk.then0 hf4⟩
      case measure=>simp [intOf];omega
     ·have hff:=HFND.out rfl
      have HFF:=hid hff
      have hfw:=hfk.then0 hf4
      have hud:=hfw.heap0 huc
      have hgd:=HGC.out.fr0 hfw
      have uo:w4.cell? ⟨w.heap.size,1,none⟩=some (ii 0):=by
       have:w4.cell? ⟨w.heap.size,1,none⟩=some (ii u.owner):=j9 hud
       rwa [HOW.out] at this
      have hcs:w4.cell? ⟨gb,145,none⟩=some (ii s):=by
       have:=hgd.c145
       rwa [show t.s0=s by have:=HS.out;rw [HOW.out] at this;simpa [T.stock] using this] at this
      have fzs:=hgd.fz 145
      have hH:(fun w':World=>w'.cell? ⟨w.heap.size,1,none⟩=some (ii 0)/\w'.cell? ⟨gb,145,none⟩=some (ii s)) w4.drew:=⟨by simpa using uo,by simpa using hcs⟩
      have HGD:=hid hgd
      clear hff hgd
      go_wp2_with fail
      refine TwoFree.region (fun w':World=>w'.cell? ⟨w.heap.size,1,none⟩=some (ii 0)/\w'.cell? ⟨gb,145,none⟩=some (ii s)) 16 (by kernel_rfl) ?_
      refine (show TwoFree Tryz.prog Region.Mode.any _ _ _ 16 17 (Array.replicate 17 false) _ _ from ?_)
      refine tw 0 (fun _=>hH) ?_;try simp only [Act.put,Z]
      refine tw 1 (fun _=>hH) ?_;try simp only [Act.put,Z]
      refine tt 2 hH ?_;try simp only [Act.put,Z]
      refine tw 3 (fun _=>hH) ?_;try simp only [Act.put,Z]
      refine tw 4 (fun _=>hH) ?_;try simp only [Act.put,Z]
      refine tt 5 hH ?_;try simp only [Act.put,Z]
      refine tw 6 (fun _=>hH) ?_;try simp only [Act.put,Z]
      refine tw 7 (fun _=>hH) ?_;try simp only [Act.put,Z]
      refine tw 8 (fun _=>hH) ?_;try simp only [Act.put,Z]
      refine tt 9 hH ?_;try simp only [Act.put,Z]
      refine tw 10 (fun _=>hH) ?_;try simp only [Act.put,Z]
      refine tw 13 (fun _=>hH) ?_;try simp only [Act.put,Z]
      refine tw 14 (fun _=>hH) ?_;try simp only [Act.put,Z]
      refine TwoFree.one (i:=11) (by kernel_rfl) ?_
      refine wpOp_step (by simp only [G];rfl) (fun K' hK0=>?_)
      have HK:=hid hK0
      clear hK0
      go_simp
      refine Calls.mono (HC.out _) ?_
      rintro e w5 ⟨rfl,rfl⟩
      dsimp only
      refine HK.out _ _ ⟨fun _ _=>hH,?_⟩
      clear HK K';try simp only [Act.put,Z]
      refine tw 12 (fun _=>hH) ?_;try simp only [Act.put,Z]
      refine TwoFree.one (i:=15) (by kernel_rfl) ?_
      refine wpOp_step (by simp only [G];rfl) (fun K' hK0=>?_)
      have HK:=hid hK0
      clear hK0
      go_simp
      refine HK.out _ _ ⟨fun _ _=>hH,?_⟩
      clear HK K';try simp only [Act.put,Z]
      refine TwoFree.one (i:=16) (by kernel_rfl) ?_
      refine wpOp_step (by simp only [G];rfl) (fun K' hK0=>?_)
      have HK:=hid hK0
      clear hK0
      go_simp
      refine HK.out _ _ ⟨fun h6=>absurd rfl h6,TwoFree.done (by kernel_rfl) ?_ _⟩
      clear HK K'
      rw [show IntKind.i64.wrap (s - cst)=s - cst by rw [IntKind.wrap_i64];omega]
      obtain ⟨W5,hW5⟩:∃ W,W=(w4.setCell ⟨gb,145,none⟩ (.int .i64 (s - cst))).drew:=⟨_,rfl⟩
      have hf5:Fr [gb] w4 W5:=by rw [hW5];exact ((Fr.refl _ _).setCell _ _ (Or.inl (by simp))).drew
      have hg5:RG W5 gb pb cap { t with s0:=s - cst }:=by rw [hW5];exact (HGD.out.setS0 (s - cst)).fr0 ((Fr.refl _ _).drew)
      rw [<- hW5]
      have hgl:=HH.out.lt
      have hpl:=HH.out.pl
      have hud5:=hf5.heap hud (by simp;omega)
      clear hW5 hH uo hcs fzs
      go_wp2_with fail
      refine Calls.mono (zw1 gb pb cap { t with s0:=s - cst } i u W5 hg5 HI.out) ?_
      rintro e w6 ⟨rfl,hg6,hf6⟩
      dsimp only at hg6 |-
      have hud6:=hf6.heap hud5 (by simp;omega)
      have hw6:Fr [gb,pb] w w6:=(((hwc.then0 hfw).of0 (S:=[gb,pb])).trans hf5 (by simp)).trans hf6 (by simp)
      have HS11:∀ w',Fr [pb] w6 w'->(fun w':World=>w'.cell? ⟨gb,148,none⟩=some (.slice (some ⟨pb,0,none⟩) t.us.length cap)/\w'.cell? ⟨gb,147,none⟩=some (ii t.next)/\w'.cell? ⟨w.heap.size,1,none⟩=some (ii 0)) w':=fun w' hf=>by
       have h1:=hg6.c148
       have h2:=hg6.c147
       have h3:w6.cell? ⟨w.heap.size,1,none⟩=some (ii u.owner):=j9 hud6
       dsimp only at h1 h2
       rw [List.length_set] at h1
       rw [HOW.out] at h3
       have hng:=hg6.ne
       exact ⟨(hf.cell _ _ (qq1 h1) (by simpa using hng)).trans h1,(hf.cell _ _ (qq1 h2) (by simpa using hng)).trans h2,(hf.cell _ _ (qq1 h3) (by simp;omega)).trans h3⟩
      have hH:=HS11 w6.drew ((Fr.refl _ _).drew)
      have HLF:Hid (∀ W:World,Calls Tryz.prog 93 #[.int .i64 u.tox] W fun e w'=>e=.returned (.int .i64 (qx9 u.tox))/\W=w'):=fun W=>zk1 u.tox W
      have HG6:=hid hg6
      clear hg5 hg6
      go_wp2_with fail
      refine TwoFree.region (fun w':World=>w'.cell? ⟨gb,148,none⟩=some (.slice (some ⟨pb,0,none⟩) t.us.length cap)/\w'.cell? ⟨gb,147,none⟩=some (ii t.next)/\w'.cell? ⟨w.heap.size,1,none⟩=some (ii 0)) 21 (by kernel_rfl) ?_
      refine (show TwoFree Tryz.prog Region.Mode.any _ _ _ 21 22 (Array.replicate 22 false) _ _ from ?_)
      refine tw 0 (fun _=>hH) ?_;try simp only [Act.put,Z]
      refine tw 1 (fun _=>hH) ?_;try simp only [Act.put,Z]
      refine tw 2 (fun _=>hH) ?_;try simp only [Act.put,Z]
      refine tw 3 (fun _=>hH) ?_;try simp only [Act.put,Z]
      refine tt 4 hH ?_;try simp only [Act.put,Z]
      refine tw 5 (fun _=>hH) ?_;try simp only [Act.put,Z]
      refine tw 6 (fun _=>hH) ?_;try simp only [Act.put,Z]
      refine tw 7 (fun _=>hH) ?_;try simp only [Act.put,Z]
      refine tt 8 hH ?_;try simp only [Act.put,Z]
      refine tw 9 (fun _=>hH) ?_;try simp only [Act.put,Z]
      refine tt 10 hH ?_;try simp only [Act.put,Z]
      refine tw 11 (fun _=>hH) ?_;try simp only [Act.put,Z]
      refine tw 12 (fun _=>hH) ?_;try simp only [Act.put,Z]
      refine tw 13 (fun _=>hH) ?_;try simp only [Act.put,Z]
      refine tw 14 (fun _=>hH) ?_;try simp only [Act.put,Z]
      refine TwoFree.one (i:=15) (by kernel_rfl) ?_
      refine wpOp_step (by simp only [G];rfl) (fun K' hK0=>?_)
      have HK:=hid hK0
      clear hK0
      go_simp
      refine Calls.mono (HLF.out _) ?_
      rintro e w7 ⟨rfl,rfl⟩
      dsimp only
      refine HK.out _ _ ⟨fun _ _=>hH,?_⟩
      clear HK K';try simp only [Act.put,Z]
      refine tw 16 (fun _=>hH) ?_;try simp only [Act.put,Z]
      refine TwoFree.one (i:=17) (by kernel_rfl) ?_
      refine wpOp_step (by simp only [G];rfl) (fun K' hK0=>?_)
      have HK:=hid hK0
      clear hK0
      go_simp
      obtain ⟨nU,hnU⟩:∃ x:U,x=⟨t.next,0,u.tox,z,v,qx9 u.tox,0,0,0,0,0⟩:=⟨_,rfl⟩
      obtain ⟨W7,hW7⟩:∃ W,W=(w6.alloc (.cells #[ii t.next,ii 0,.int .i64 u.tox,.int .i64 z,.int .i64 v,.int .i64 (qx9 u.tox),.int .i64 0,.int .i64 0,.int .i64 0,.int .i64 0,.int .i64 0] 85)).drew:=⟨_,rfl⟩
      rw [<- hW7]
      have hf7:Fr [] w6 W7:=by rw [hW7];exact ((Fr.refl _ _).alloc _).drew
      have hn7:W7.heap[w6.heap.size]?=some (.cells nU.arr 85):=by rw [hW7,qx4,hnU];exact qq6 _ _
      have hH7:=HS11 W7 hf7.of0
      clear hH
      have hH:=hH7
      clear hH7 hW7
      refine HK.out _ _ ⟨fun _ _=>hH,?_⟩
      clear HK K';try simp only [Act.put,Z]
      have hg7:=HG6.out.fr0 hf7
      have hrow7:=hg7.row.owns
      dsimp only at hrow7
      rw [List.length_set] at hrow7
      have hnw:∀ (j:Nat) (y:Value),nU.cells[j]?=some y->W7.cell? ((⟨w6.heap.size,0,none⟩:Addr).add j)=some y:=by
       intro j y hy
       rw [Addr.add_lit,Nat.zero_add,j9 hn7]
       simpa using hy
      obtain ⟨inf,hi0,hz0,hz1,hz2⟩:=info_parts jv6
      have hW7s:=hf7.size
      refine TwoFree.one (i:=18) (by kernel_rfl) ?_
      refine wpOp_step (by simp only [G];rfl) (fun K' hK0=>?_)
      have HK:=hid hK0
      clear hK0
      rw [if_pos (by rfl)]
      refine yv1 _ _ _ 82 rfl 0 85 inf zeroU.val 11 88 Tryz.underlying82 hi0 hz0 hz1 hz2 rfl (by decide) (.slice (some ⟨pb,0,none⟩) t.us.length cap) t.us.length _ rfl hrow7 ⟨w6.heap.size,0,none⟩ 1 1 nU.cells rfl rfl hnw (by simp [Value.oneCell']) (by unfold maxLen;omega) (by omega) (Nat.zero_le _) ?_
      intro y' w8 hown8 hgrow hat8
      have hf8:Fr [pb] W7 w8:=(Fr.refl _ _).grow hgrow (fun g hg=>Or.inl (by simp [Value.ownBlock] at hg;simp [hg]))
      have hf68:Fr [pb] w6 w8:=(hf7.of0 (S:=[pb])).trans hf8 (by simp)
      have hH8:=HS11 w8 hf68
      have efl:(t.us.set i u.idle).flatMap U.cells ++ nU.cells=(t.us.set i u.idle ++ [nU]).flatMap U.cells:=by simp
      rw [efl] at hown8
      obtain ⟨pb',cap',rfl,hbb,hrow8⟩:=PRow.of_owns hown8 (by simp) (by omega)
      have hpb2:pb'=pb\/pb'=W7.heap.size:=by simpa [Value.ownBlock] using hat8
      clear hat8
      have hng:=HG6.out.ne
      have hgl6:=HG6.out.lt
      have HCC:Hid (∀ k,k < 149->w8.cell? ⟨gb,k,none⟩=some (qw2 { t with s0:=s - cst,us:=t.us.set i u.idle } (.slice (some ⟨pb,0,none⟩) (t.us.set i u.idle).length cap) k)):=fun k hk=>(hf68.cell _ _ hgl6 (by simpa using hng)).trans (HG6.out.cell k hk)
      have HFZ:Hid (∀ k,w8.frozen? ⟨gb,k,none⟩=false):=fun k=>(hf68.frozen _ _ hgl6 (by simpa using hng)).trans (HG6.out.fz k)
      have fz8:=HFZ.out 148
      have HRW:=hid hrow8
      clear hH
      have hH:=hH8
      clear hH8
      refine HK.out _ _ ⟨fun _ _=>hH,?_⟩
      clear HK K' hrow7 hnw hgrow hown8 hrow8 efl HS11 hn7;try simp only [Act.put,Z]
      refine TwoFree.one (i:=19) (by kernel_rfl) ?_
      refine wpOp_step (by simp only [G];rfl) (fun K' hK0=>?_)
      have HK:=hid hK0
      clear hK0
      go_simp
      refine HK.out _ _ ⟨fun _ _=>hH,?_⟩
      clear HK K';try simp only [Act.put,Z]
      refine TwoFree.one (i:=20) (by kernel_rfl) ?_
      refine wpOp_step (by simp only [G];rfl) (fun K' hK0=>?_)
      have HK:=hid hK0
      clear hK0
      go_simp
      refine HK.out _ _ ⟨fun _ _=>hH,?_⟩
      clear HK K';try simp only [Act.put,Z]
      refine TwoFree.one (i:=21) (by kernel_rfl) ?_
      refine wpOp_step (by simp only [G];rfl) (fun K' hK0=>?_)
      have HK:=hid hK0
      clear hK0
      go_simp
      refine HK.out _ _ ⟨fun h6=>absurd rfl h6,TwoFree.done (by kernel_rfl) ?_ _⟩
      clear HK K'
      have hgp:gb≠pb':=by
       rcases hpb2 with e|e
       ·exact fun x=>hng (x.trans e)
       ·have:=hgl6;have:=hf7.size;omega
      have hg9:=RG.relist' HCC.out HFZ.out HRW.out hgp (by have hB0:=HB.out;simp at hB0;simp;omega)
      rw [show (t.us.set i u.idle ++ [nU]).length=t.us.length+1 by simp] at hg9
      obtain ⟨W9,hW9⟩:∃ W,W=w8.setCell ⟨gb,148,none⟩ (.slice (some ⟨pb',0,none⟩) (t.us.length+1) cap'):=⟨_,rfl⟩
      rw [<- hW9] at hg9 |-
      have hf9:Fr [gb] w8 W9:=by rw [hW9];exact (Fr.refl _ _).setCell _ _ (Or.inl (by simp))
      have hn9:=hg9.c147
      dsimp only at hn9
      have fz9:=hg9.fz 147
      have hnb:=HOK.out.nx
      have HG9:=hid hg9
      have hw8:Fr [gb,pb] w w8:=hw6.trans hf68 (by simp)
      have hw8s:=hw6.size
      clear hW9 hg9 hH
      go_wp2_with fail
      refine bodyPost_ret (v:=.tuple #[]) (results_none rfl _ _ _) rfl ⟨rfl,pb',cap',?_,((hw8.trans hf9 (by simp)).setCell _ _ (Or.inl (by simp))),hpb2.imp id (fun x=>by omega)⟩
      rw [HR.out,HX.out,HFF.out]
      dsimp only
      rw [xv2 HOK.out HI.out _ (by rw [HOW.out];rfl)]
      rw [hnU] at HG9
      exact (HG9.out.setNx (t.next+1)).of (by rw [HOW.out];rfl) (by rw [HOW.out];rfl) (by rw [HS.out,HCS.out,HOW.out];rfl) (by rw [HOW.out];rfl) (by rw [HOW.out];rfl) (by rw [HOW.out];rfl)
    ·have hn4i:¬ (n:Int) < 4:=by omega
     have HN4:Hid (n=4):=by show _=_;omega
     have HE:Hid (R=t):=by
      refine HSTAY.out ?_
      rw [HX.out]
      have:(qj0 u.x u.y).find? (fun c=>qk5 t.us t.bd c)=none:=by
       rw [List.find?_eq_none]
       intro c hc
       have:=HNF.out c (by rw [HN4.out,vq8];exact hc)
       simp [this]
      rw [this]
     go_wp2_with fail
     exact bodyPost_end (v:=.tuple #[]) (results_none rfl _ _ _) rfl ⟨rfl,by rw [HE.out];exact RStep.same HH.out (hwc.then0 hfk)⟩
  ·have HE:Hid (R=t):=by
    refine HSTAY.out ?_
    have hB1:=HB.out
    simp at hB1
    unfold qj7
    rw [HS.out,HCS.out]
    by_cases a1:s < cst
    ·rw [if_pos a1]
    ·by_cases a2:100<=t.us.length
     ·rw [if_neg a1,if_pos a2]
     ·rw [if_neg a1,if_neg a2,if_pos (by omega)]
   go_wp2_with fail
   exact bodyPost_ret (v:=.tuple #[]) (results_none rfl _ _ _) rfl ⟨rfl,by rw [HE.out];exact RStep.same HH.out hwc⟩
theorem gw0 (gb pb cap:Nat)(t:T)(i:Nat)(u:U)(w:World)(h:RG w gb pb cap t)(hi:t.us[i]?=some u)(hok:TOk t)(hw:u.what=4)(how:u.owner=1) :
  Calls Tryz.prog 183 #[.pointer (some ⟨gb,0,none⟩),.int .i64 i] w fun e w'=>e=.returned (.tuple #[])/\RStep w gb pb (qw3 t u) w':=by
 rw [yj4 hw]
 obtain ⟨R,hR⟩:∃ R:T,R=qj4 (qj7 t u).2 (qj7 t u).1:=⟨_,rfl⟩
 rw [<- hR]
 have HR:=hid hR
 have hu:=hok.all u (List.mem_of_getElem? hi)
 have hkd:u.tox=2\/u.tox=3:=by have:=hu.od;unfold jk9 at this;omega
 obtain ⟨cst,hcst⟩:∃ k,zq6 u.tox=k:=⟨_,rfl⟩
 have HC:Hid (∀ W:World,Calls Tryz.prog 215 #[.int .i64 u.tox] W fun e w'=>e=.returned (.int .i64 cst)/\W=w'):=fun W=>by rw [<- hcst];exact yy6 u.tox hkd W
 have HCS:=hid hcst
 have hcb:0<=cst/\cst<=8:=by rw [<- hcst];rcases hkd with e|e <;> rw [e] <;> decide
 obtain ⟨s,hs⟩:∃ s,t.stock u.owner=s:=⟨_,rfl⟩
 have hss:t.s1=s:=by rw [how] at hs;simpa [T.stock] using hs
 have hst:=yk7 hok u.owner
 rw [hs] at hst
 have hlen:=h.len
 have hil:=(List.getElem?_eq_some_iff.1 hi).1
 have hili:(i:Int) < (t.us.length:Int):=by omega
 obtain ⟨p0,p1,p2,p3⟩:=qz3.1 hu.on
 have hc:=h.c148
 obtain ⟨c0,c1,c2,c3,c4,c5,c6,c7,c8,c9,c10⟩:=h.gv.p.at hi
 obtain ⟨W1,hW1⟩:∃ W,W=w.alloc (.cells u.arr 85):=⟨_,rfl⟩
 have hf1:Fr [] w W1:=by rw [hW1];exact (Fr.refl _ _).alloc _
 have hu1:W1.heap[w.heap.size]?=some (.cells u.arr 85):=by rw [hW1];exact qq6 _ _
 have HW1:=hid hW1
 have HG1:=(show Hid _ from h.fr0 hf1)
 have K0:(fun w':World=>cl w' w.heap.size 1 1/\cl w' gb 146 s/\w'.cell? ⟨gb,148,none⟩=some (.slice (some ⟨pb,0,none⟩) t.us.length cap)/\cl w' gb 147 t.next) W1.drew:=by
  have hg:=h.fr0 (hf1.then0 ((Fr.refl [] W1).drew))
  have h1:=hg.c146
  rw [hss] at h1
  have h2:W1.drew.cell? ⟨w.heap.size,1,none⟩=some (ii u.owner):=j9 (((Fr.refl [] W1).drew).heap0 hu1)
  rw [how] at h2
  exact ⟨h2,h1,hg.c148,hg.c147⟩
 have tx1:W1.cell? ⟨w.heap.size,8,none⟩=some (ii u.tox):=j9 hu1
 have HOK:=hid hok
 have HI:=hid hi
 have HH:=hid h
 have HS:=hid hs
 have HOW:=hid how
 clear hok hi h hW1 hR hw hs hcst how hss
 go_enter Tryz.func183,Tryz.ntmps183
 go_wp2_with fail
 rw [<- HW1.out]
 obtain ⟨B,hB⟩:∃ B:Bool,(decide (s < cst)||(decide (100<=(t.us.length:Int))||decide (1000000000<=t.next)))=B:=⟨_,rfl⟩
 have HB:=hid hB
 go_cut [43] (fun s43 wx=>s43=.bool B/\Fr [] W1 wx)
 case first =>
  by_cases a1:s < cst
  ·have HBT:Hid (B=true):=by show _=_;rw [<- hB];simp [a1]
   clear hB c0 c1 c2 c3 c4 c5 c6 c7 c8 c9 c10 hc
   refine wp_region_held_drew (S:=fun w':World=>cl w' w.heap.size 1 1/\cl w' gb 146 s/\w'.cell? ⟨gb,148,none⟩=some (.slice (some ⟨pb,0,none⟩) t.us.length cap)/\cl w' gb 147 t.next) (by kernel_rfl) K0 (fun hH=>?_)
   refine (show wpAnyH Tryz.prog Region.Mode.any _ _ _ 25 (Array.replicate 25 false) _ _ from ?_)
   iterate 8 (refine tn 25 hH ?_;try simp only [Act.put,Z])
   refine wpAnyH_ready (rs:=[8]) (by kernel_rfl) (by simp) ?_
   refine AllReadyH.cons (by simp only [G];rfl) (fun K hK=>?_) AllReadyH.nil
   go_simp
   refine Calls.mono (HC.out _) ?_
   rintro e w2 ⟨rfl,rfl⟩
   dsimp only
   refine hK.out _ _ K0 (fun hH=>?_)
   clear hK K;try simp only [Act.put,Z]
   iterate 16 (refine tn 25 hH ?_;try simp only [Act.put,Z])
   refine wpAnyH_done (by kernel_rfl) ?_ _
   go_wp2_with fail
   go_meet
   exact ⟨by rw [HBT.out],(Fr.refl _ _).drew⟩
  ·have a1b:decide (s < cst)=false:=decide_eq_false a1
   by_cases a2:100<=(t.us.length:Int)
   ·have HBT:Hid (B=true):=by show _=_;rw [<- hB];simp [a2]
    clear hB c0 c1 c2 c3 c4 c5 c6 c7 c8 c9 c10 hc a1
    refine wp_region_held_drew (S:=fun w':World=>cl w' w.heap.size 1 1/\cl w' gb 146 s/\w'.cell? ⟨gb,148,none⟩=some (.slice (some ⟨pb,0,none⟩) t.us.length cap)/\cl w' gb 147 t.next) (by kernel_rfl) K0 (fun hH=>?_)
    refine (show wpAnyH Tryz.prog Region.Mode.any _ _ _ 25 (Array.replicate 25 false) _ _ from ?_)
    iterate 8 (refine tn 25 hH ?_;try simp only [Act.put,Z])
    refine wpAnyH_ready (rs:=[8]) (by kernel_rfl) (by simp) ?_
    refine AllReadyH.cons (by simp only [G];rfl) (fun K hK=>?_) AllReadyH.nil
    go_simp
    refine Calls.mono (HC.out _) ?_
    rintro e w2 ⟨rfl,rfl⟩
    dsimp only
    refine hK.out _ _ K0 (fun hH=>?_)
    clear hK K;try simp only [Act.put,Z]
    iterate 16 (refine tn 25 hH ?_;try simp only [Act.put,Z])
    refine wpAnyH_done (by kernel_rfl) ?_ _
    go_wp2_with fail
    go_meet
    exact ⟨by rw [HBT.out],(Fr.refl _ _).drew⟩
   ·have a2b:decide (100<=(t.us.length:Int))=false:=decide_eq_false a2
    have HBT:Hid (B=decide (1000000000<=t.next)):=by show _=_;rw [<- hB,a1b,a2b];rfl
    clear hB c0 c1 c2 c3 c4 c5 c6 c7 c8 c9 c10 hc a1 a2
    refine wp_region_held_drew (S:=fun w':World=>cl w' w.heap.size 1 1/\cl w' gb 146 s/\w'.cell? ⟨gb,148,none⟩=some (.slice (some ⟨pb,0,none⟩) t.us.length cap)/\cl w' gb 147 t.next) (by kernel_rfl) K0 (fun hH=>?_)
    refine (show wpAnyH Tryz.prog Region.Mode.any _ _ _ 25 (Array.replicate 25 false) _ _ from ?_)
    iterate 8 (refine tn 25 hH ?_;try simp only [Act.put,Z])
    refine wpAnyH_ready (rs:=[8]) (by kernel_rfl) (by simp) ?_
    refine AllReadyH.cons (by simp only [G];rfl) (fun K hK=>?_) AllReadyH.nil
    go_simp
    refine Calls.mono (HC.out _) ?_
    rintro e w2 ⟨rfl,rfl⟩
    dsimp only
    refine hK.out _ _ K0 (fun hH=>?_)
    clear hK K;try simp only [Act.put,Z]
    iterate 16 (refine tn 25 hH ?_;try simp only [Act.put,Z])
    refine wpAnyH_done (by kernel_rfl) ?_ _
    go_wp2_with fail
    go_meet
    exact ⟨by rw [HBT.out],(Fr.refl _ _).drew⟩
 case rest =>
  obtain ⟨rfl,hfc⟩:=hcut
  have hwc:=hf1.then0 hfc
  have HGC:=(show Hid _ from HH.out.fr0 hwc)
  have HSTAY:Hid (qj7 t u=(u,t)->R=t):=fun e=>by rw [HR.out,e];exact qw9 HOK.out.rise HI.out
  clear hB c0 c1 c2 c3 c4 c5 c6 c7 c8 c9 c10 hc K0 tx1
  cases B
  ·have hB0:=HB.out
   have HX:Hid (qj7 t u=match (qj0 u.x u.y).find? (fun c=>qk5 t.us t.bd c) with|none=>(u,t)|some c=>(u.idle,T.added { t.setStock u.owner (t.stock u.owner - zq6 u.tox) with held:=fun k=>if k=c then some t.next else t.held k } u.owner u.tox c.1 c.2 (qx9 u.tox))):=by
    simp at hB0
    show _=_
    unfold qj7
    rw [HS.out,HCS.out,if_neg (by omega),if_neg (by omega),if_neg (by omega),xj5 HOK.out]
    cases (qj0 u.x u.y).find? (fun c=>qk5 t.us t.bd c) <;> rfl
   clear hB0
   have huc:=hfc.heap0 hu1
   go_wp2_with fail
   go_loopw [6] (fun k wr=>∃ n:Nat,n<=4/\k=.int .i64 n/\(∀ c∈qj2 u.x u.y n,qk5 t.us t.bd c=false)/\Fr [] wc wr) (fun k _=>4 - (intOf k).toNat)
   case atStart=>exact ⟨0,by omega,rfl,fun c hc=>by simp [qj2] at hc,Fr.refl _ _⟩
   case round =>
    obtain ⟨n,hn,rfl,hnf,hfk⟩:=hrel
    have HNF:=hid hnf
    clear hnf
    by_cases hn4:n < 4
    ·have hn4i:(n:Int) < 4:=by omega
     obtain ⟨sd,hsd⟩:∃ s,sds[n]?=some s:=⟨_,List.getElem?_eq_getElem (show n < sds.length from hn4)⟩
     have hsb:-1<=sd.1/\sd.1<=1 /\ -1<=sd.2/\sd.2<=1:=by
      have h5:n=0\/n=1\/n=2\/n=3:=by omega
      rcases h5 with rfl|rfl|rfl|rfl <;> (simp [sds] at hsd;subst hsd;decide)
     have HSD:=(show Hid _ from fun W:World=>jz6 u.x u.y n sd W hsd (by omega) (by omega) (by omega) (by omega))
     have HYES:Hid (onB (u.x+sd.1) (u.y+sd.2)=true->qj2 u.x u.y (n+1)=qj2 u.x u.y n ++ [(u.x+sd.1,u.y+sd.2)]):=fun ho=>zk0 u.x u.y n sd hsd ho
     have HNO:Hid (onB (u.x+sd.1) (u.y+sd.2)=false->qj2 u.x u.y (n+1)=qj2 u.x u.y n):=fun ho=>zw0 u.x u.y n sd hsd ho
     have HFND:Hid (qk5 t.us t.bd (u.x+sd.1,u.y+sd.2)=true->(qj0 u.x u.y).find? (fun c=>qk5 t.us t.bd c)=some (u.x+sd.1,u.y+sd.2)):=fun hf=>fq1 hsd HNF.out hf
     obtain ⟨z,hz⟩:∃ z,u.x+sd.1=z:=⟨_,rfl⟩
     obtain ⟨v,hv⟩:∃ z,u.y+sd.2=z:=⟨_,rfl⟩
     rw [hz,hv] at HSD HYES HNO HFND
     have hub:=hfk.heap0 huc
     have ux:wr.cell? ⟨w.heap.size,3,none⟩=some (ii u.x):=j9 hub
     have uy:wr.cell? ⟨w.heap.size,4,none⟩=some (ii u.y):=j9 hub
     clear hz hv hsd hsb
     go_wp2_with fail
     refine Calls.mono (HSD.out _) ?_
     rintro e w3 ⟨rfl,rfl⟩
     dsimp only
     have hFR:=jz5 gb pb cap t z v wr (HGC.out.fr0 hfk)
     obtain ⟨f,hf⟩:∃ f,qk5 t.us t.bd (z,v)=f:=⟨_,rfl⟩
     rw [hf] at hFR HFND
     have HFE:=hid hf
     clear hf
     go_wp2_with fail
     refine Calls.mono hFR ?_
     rintro e w4 ⟨rfl,hf4⟩
     dsimp only
     clear hFR ux uy
     cases f
     ·have HN2:Hid (∀ c∈qj2 u.x u.y (n+1),qk5 t.us t.bd c=false):=fun c hc=>by
       by_cases ho:onB z v=true
       ·rw [HYES.out ho] at hc
        rcases List.mem_append.1 hc with hc|hc
        ·exact HNF.out c hc
        ·have:c=(z,v):=by simpa using hc
         rw [this]
         exact HFE.out
       ·rw [HNO.out (by simpa using ho)] at hc
        exact HNF.out c hc
      go_wp2_with fail
      go_roundw
      case rel=>exact ⟨n+1,hn4,by go_num,HN2.out,hfk.then0 hf4⟩
      case measure=>simp [intOf];omega
     ·have hff:=HFND.out rfl
      have HFF:=hid hff
      have hfw:=hfk.then0 hf4
      have hud:=hfw.heap0 huc
      have hgd:=HGC.out.fr0 hfw
      have uo:w4.cell? ⟨w.heap.size,1,none⟩=some (ii 1):=by
       have:w4.cell? ⟨w.heap.size,1,none⟩=some (ii u.owner):=j9 hud
       rwa [HOW.out] at this
      have hcs:w4.cell? ⟨gb,146,none⟩=some (ii s):=by
       have:=hgd.c146
       rwa [show t.s1=s by have:=HS.out;rw [HOW.out] at this;simpa [T.stock] using this] at this
      have fzs:=hgd.fz 146
      have hH:(fun w':World=>w'.cell? ⟨w.heap.size,1,none⟩=some (ii 1)/\w'.cell? ⟨gb,146,none⟩=some (ii s)) w4.drew:=⟨by simpa using uo,by simpa using hcs⟩
      have HGD:=hid hgd
      clear hff hgd
      go_wp2_with fail
      refine TwoFree.region (fun w':World=>w'.cell? ⟨w.heap.size,1,none⟩=some (ii 1)/\w'.cell? ⟨gb,146,none⟩=some (ii s)) 16 (by kernel_rfl) ?_
      refine (show TwoFree Tryz.prog Region.Mode.any _ _ _ 16 17 (Array.replicate 17 false) _ _ from ?_)
      refine tw 0 (fun _=>hH) ?_;try simp only [Act.put,Z]
      refine tw 1 (fun _=>hH) ?_;try simp only [Act.put,Z]
      refine tt 2 hH ?_;try simp only [Act.put,Z]
      refine tw 3 (fun _=>hH) ?_;try simp only [Act.put,Z]
      refine tw 4 (fun _=>hH) ?_;try simp only [Act.put,Z]
      refine tt 5 hH ?_;try simp only [Act.put,Z]
      refine tw 6 (fun _=>hH) ?_;try simp only [Act.put,Z]
      refine tw 7 (fun _=>hH) ?_;try simp only [Act.put,Z]
      refine tw 8 (fun _=>hH) ?_;try simp only [Act.put,Z]
      refine tt 9 hH ?_;try simp only [Act.put,Z]
      refine tw 10 (fun _=>hH) ?_;try simp only [Act.put,Z]
      refine tw 13 (fun _=>hH) ?_;try simp only [Act.put,Z]
      refine tw 14 (fun _=>hH) ?_;try simp only [Act.put,Z]
      refine TwoFree.one (i:=11) (by kernel_rfl) ?_
      refine wpOp_step (by simp only [G];rfl) (fun K' hK0=>?_)
      have HK:=hid hK0
      clear hK0
      go_simp
      refine Calls.mono (HC.out _) ?_
      rintro e w5 ⟨rfl,rfl⟩
      dsimp only
      refine HK.out _ _ ⟨fun _ _=>hH,?_⟩
      clear HK K';try simp only [Act.put,Z]
      refine tw 12 (fun _=>hH) ?_;try simp only [Act.put,Z]
      refine TwoFree.one (i:=15) (by kernel_rfl) ?_
      refine wpOp_step (by simp only [G];rfl) (fun K' hK0=>?_)
      have HK:=hid hK0
      clear hK0
      go_simp
      refine HK.out _ _ ⟨fun _ _=>hH,?_⟩
      clear HK K';try simp only [Act.put,Z]
      refine TwoFree.one (i:=16) (by kernel_rfl) ?_
      refine wpOp_step (by simp only [G];rfl) (fun K' hK0=>?_)
      have HK:=hid hK0
      clear hK0
      go_simp
      refine HK.out _ _ ⟨fun h6=>absurd rfl h6,TwoFree.done (by kernel_rfl) ?_ _⟩
      clear HK K'
      rw [show IntKind.i64.wrap (s - cst)=s - cst by rw [IntKind.wrap_i64];omega]
      obtain ⟨W5,hW5⟩:∃ W,W=(w4.setCell ⟨gb,146,none⟩ (.int .i64 (s - cst))).drew:=⟨_,rfl⟩
      have hf5:Fr [gb] w4 W5:=by rw [hW5];exact ((Fr.refl _ _).setCell _ _ (Or.inl (by simp))).drew
      have hg5:RG W5 gb pb cap { t with s1:=s - cst }:=by rw [hW5];exact (HGD.out.setS1 (s - cst)).fr0 ((Fr.refl _ _).drew)
      rw [<- hW5]
      have hgl:=HH.out.lt
      have hpl:=HH.out.pl
      have hud5:=hf5.heap hud (by simp;omega)
      clear hW5 hH uo hcs fzs
      go_wp2_with fail
      refine Calls.mono (zw1 gb pb cap { t with s1:=s - cst } i u W5 hg5 HI.out) ?_
      rintro e w6 ⟨rfl,hg6,hf6⟩
      dsimp only at hg6 |-
      have hud6:=hf6.heap hud5 (by simp;omega)
      have hw6:Fr [gb,pb] w w6:=(((hwc.then0 hfw).of0 (S:=[gb,pb])).trans hf5 (by simp)).trans hf6 (by simp)
      have HS11:∀ w',Fr [pb] w6 w'->(fun w':World=>w'.cell? ⟨gb,148,none⟩=some (.slice (some ⟨pb,0,none⟩) t.us.length cap)/\w'.cell? ⟨gb,147,none⟩=some (ii t.next)/\w'.cell? ⟨w.heap.size,1,none⟩=some (ii 1)) w':=fun w' hf=>by
       have h1:=hg6.c148
       have h2:=hg6.c147
       have h3:w6.cell? ⟨w.heap.size,1,none⟩=some (ii u.owner):=j9 hud6
       dsimp only at h1 h2
       rw [List.length_set] at h1
       rw [HOW.out] at h3
       have hng:=hg6.ne
       exact ⟨(hf.cell _ _ (qq1 h1) (by simpa using hng)).trans h1,(hf.cell _ _ (qq1 h2) (by simpa using hng)).trans h2,(hf.cell _ _ (qq1 h3) (by simp;omega)).trans h3⟩
      have hH:=HS11 w6.drew ((Fr.refl _ _).drew)
      have HLF:Hid (∀ W:World,Calls Tryz.prog 93 #[.int .i64 u.tox] W fun e w'=>e=.returned (.int .i64 (qx9 u.tox))/\W=w'):=fun W=>zk1 u.tox W
      have HG6:=hid hg6
      clear hg5 hg6
      go_wp2_with fail
      refine TwoFree.region (fun w':World=>w'.cell? ⟨gb,148,none⟩=some (.slice (some ⟨pb,0,none⟩) t.us.length cap)/\w'.cell? ⟨gb,147,none⟩=some (ii t.next)/\w'.cell? ⟨w.heap.size,1,none⟩=some (ii 1)) 21 (by kernel_rfl) ?_
      refine (show TwoFree Tryz.prog Region.Mode.any _ _ _ 21 22 (Array.replicate 22 false) _ _ from ?_)
      refine tw 0 (fun _=>hH) ?_;try simp only [Act.put,Z]
      refine tw 1 (fun _=>hH) ?_;try simp only [Act.put,Z]
      refine tw 2 (fun _=>hH) ?_;try simp only [Act.put,Z]
      refine tw 3 (fun _=>hH) ?_;try simp only [Act.put,Z]
      refine tt 4 hH ?_;try simp only [Act.put,Z]
      refine tw 5 (fun _=>hH) ?_;try simp only [Act.put,Z]
      refine tw 6 (fun _=>hH) ?_;try simp only [Act.put,Z]
      refine tw 7 (fun _=>hH) ?_;try simp only [Act.put,Z]
      refine tt 8 hH ?_;try simp only [Act.put,Z]
      refine tw 9 (fun _=>hH) ?_;try simp only [Act.put,Z]
      refine tt 10 hH ?_;try simp only [Act.put,Z]
      refine tw 11 (fun _=>hH) ?_;try simp only [Act.put,Z]
      refine tw 12 (fun _=>hH) ?_;try simp only [Act.put,Z]
      refine tw 13 (fun _=>hH) ?_;try simp only [Act.put,Z]
      refine tw 14 (fun _=>hH) ?_;try simp only [Act.put,Z]
      refine TwoFree.one (i:=15) (by kernel_rfl) ?_
      refine wpOp_step (by simp only [G];rfl) (fun K' hK0=>?_)
      have HK:=hid hK0
      clear hK0
      go_simp
      refine Calls.mono (HLF.out _) ?_
      rintro e w7 ⟨rfl,rfl⟩
      dsimp only
      refine HK.out _ _ ⟨fun _ _=>hH,?_⟩
      clear HK K';try simp only [Act.put,Z]
      refine tw 16 (fun _=>hH) ?_;try simp only [Act.put,Z]
      refine TwoFree.one (i:=17) (by kernel_rfl) ?_
      refine wpOp_step (by simp only [G];rfl) (fun K' hK0=>?_)
      have HK:=hid hK0
      clear hK0
      go_simp
      obtain ⟨nU,hnU⟩:∃ x:U,x=⟨t.next,1,u.tox,z,v,qx9 u.tox,0,0,0,0,0⟩:=⟨_,rfl⟩
      obtain ⟨W7,hW7⟩:∃ W,W=(w6.alloc (.cells #[ii t.next,ii 1,.int .i64 u.tox,.int .i64 z,.int .i64 v,.int .i64 (qx9 u.tox),.int .i64 0,.int .i64 0,.int .i64 0,.int .i64 0,.int .i64 0] 85)).drew:=⟨_,rfl⟩
      rw [<- hW7]
      have hf7:Fr [] w6 W7:=by rw [hW7];exact ((Fr.refl _ _).alloc _).drew
      have hn7:W7.heap[w6.heap.size]?=some (.cells nU.arr 85):=by rw [hW7,qx4,hnU];exact qq6 _ _
      have hH7:=HS11 W7 hf7.of0
      clear hH
      have hH:=hH7
      clear hH7 hW7
      refine HK.out _ _ ⟨fun _ _=>hH,?_⟩
      clear HK K';try simp only [Act.put,Z]
      have hg7:=HG6.out.fr0 hf7
      have hrow7:=hg7.row.owns
      dsimp only at hrow7
      rw [List.length_set] at hrow7
      have hnw:∀ (j:Nat) (y:Value),nU.cells[j]?=some y->W7.cell? ((⟨w6.heap.size,0,none⟩:Addr).add j)=some y:=by
       intro j y hy
       rw [Addr.add_lit,Nat.zero_add,j9 hn7]
       simpa using hy
      obtain ⟨inf,hi0,hz0,hz1,hz2⟩:=info_parts jv6
      have hW7s:=hf7.size
      refine TwoFree.one (i:=18) (by kernel_rfl) ?_
      refine wpOp_step (by simp only [G];rfl) (fun K' hK0=>?_)
      have HK:=hid hK0
      clear hK0
      rw [if_pos (by rfl)]
      refine yv1 _ _ _ 82 rfl 0 85 inf zeroU.val 11 88 Tryz.underlying82 hi0 hz0 hz1 hz2 rfl (by decide) (.slice (some ⟨pb,0,none⟩) t.us.length cap) t.us.length _ rfl hrow7 ⟨w6.heap.size,0,none⟩ 1 1 nU.cells rfl rfl hnw (by simp [Value.oneCell']) (by unfold maxLen;omega) (by omega) (Nat.zero_le _) ?_
      intro y' w8 hown8 hgrow hat8
      have hf8:Fr [pb] W7 w8:=(Fr.refl _ _).grow hgrow (fun g hg=>Or.inl (by simp [Value.ownBlock] at hg;simp [hg]))
      have hf68:Fr [pb] w6 w8:=(hf7.of0 (S:=[pb])).trans hf8 (by simp)
      have hH8:=HS11 w8 hf68
      have efl:(t.us.set i u.idle).flatMap U.cells ++ nU.cells=(t.us.set i u.idle ++ [nU]).flatMap U.cells:=by simp
      rw [efl] at hown8
      obtain ⟨pb',cap',rfl,hbb,hrow8⟩:=PRow.of_owns hown8 (by simp) (by omega)
      have hpb2:pb'=pb\/pb'=W7.heap.size:=by simpa [Value.ownBlock] using hat8
      clear hat8
      have hng:=HG6.out.ne
      have hgl6:=HG6.out.lt
      have HCC:Hid (∀ k,k < 149->w8.cell? ⟨gb,k,none⟩=some (qw2 { t with s1:=s - cst,us:=t.us.set i u.idle } (.slice (some ⟨pb,0,none⟩) (t.us.set i u.idle).length cap) k)):=fun k hk=>(hf68.cell _ _ hgl6 (by simpa using hng)).trans (HG6.out.cell k hk)
      have HFZ:Hid (∀ k,w8.frozen? ⟨gb,k,none⟩=false):=fun k=>(hf68.frozen _ _ hgl6 (by simpa using hng)).trans (HG6.out.fz k)
      have fz8:=HFZ.out 148
      have HRW:=hid hrow8
      clear hH
      have hH:=hH8
      clear hH8
      refine HK.out _ _ ⟨fun _ _=>hH,?_⟩
      clear HK K' hrow7 hnw hgrow hown8 hrow8 efl HS11 hn7;try simp only [Act.put,Z]
      refine TwoFree.one (i:=19) (by kernel_rfl) ?_
      refine wpOp_step (by simp only [G];rfl) (fun K' hK0=>?_)
      have HK:=hid hK0
      clear hK0
      go_simp
      refine HK.out _ _ ⟨fun _ _=>hH,?_⟩
      clear HK K';try simp only [Act.put,Z]
      refine TwoFree.one (i:=20) (by kernel_rfl) ?_
      refine wpOp_step (by simp only [G];rfl) (fun K' hK0=>?_)
      have HK:=hid hK0
      clear hK0
      go_simp
      refine HK.out _ _ ⟨fun _ _=>hH,?_⟩
      clear HK K';try simp only [Act.put,Z]
      refine TwoFree.one (i:=21) (by kernel_rfl) ?_
      refine wpOp_step (by simp only [G];rfl) (fun K' hK0=>?_)
      have HK:=hid hK0
      clear hK0
      go_simp
      refine HK.out _ _ ⟨fun h6=>absurd rfl h6,TwoFree.done (by kernel_rfl) ?_ _⟩
      clear HK K'
      have hgp:gb≠pb':=by
       rcases hpb2 with e|e
       ·exact fun x=>hng (x.trans e)
       ·have:=hgl6;have:=hf7.size;omega
      have hg9:=RG.relist' HCC.out HFZ.out HRW.out hgp (by have hB0:=HB.out;simp at hB0;simp;omega)
      rw [show (t.us.set i u.idle ++ [nU]).length=t.us.length+1 by simp] at hg9
      obtain ⟨W9,hW9⟩:∃ W,W=w8.setCell ⟨gb,148,none⟩ (.slice (some ⟨pb',0,none⟩) (t.us.length+1) cap'):=⟨_,rfl⟩
      rw [<- hW9] at hg9 |-
      have hf9:Fr [gb] w8 W9:=by rw [hW9];exact (Fr.refl _ _).setCell _ _ (Or.inl (by simp))
      have hn9:=hg9.c147
      dsimp only at hn9
      have fz9:=hg9.fz 147
      have hnb:=HOK.out.nx
      have HG9:=hid hg9
      have hw8:Fr [gb,pb] w w8:=hw6.trans hf68 (by simp)
      have hw8s:=hw6.size
      clear hW9 hg9 hH
      go_wp2_with fail
      refine bodyPost_ret (v:=.tuple #[]) (results_none rfl _ _ _) rfl ⟨rfl,pb',cap',?_,((hw8.trans hf9 (by simp)).setCell _ _ (Or.inl (by simp))),hpb2.imp id (fun x=>by omega)⟩
      rw [HR.out,HX.out,HFF.out]
      dsimp only
      rw [xv2 HOK.out HI.out _ (by rw [HOW.out];rfl)]
      rw [hnU] at HG9
      exact (HG9.out.setNx (t.next+1)).of (by rw [HOW.out];rfl) (by rw [HOW.out];rfl) (by rw [HOW.out];rfl) (by rw [HS.out,HCS.out,HOW.out];rfl) (by rw [HOW.out];rfl) (by rw [HOW.out];rfl)
    ·have hn4i:¬ (n:Int) < 4:=by omega
     have HN4:Hid (n=4):=by show _=_;omega
     have HE:Hid (R=t):=by
      refine HSTAY.out ?_
      rw [HX.out]
      have:(qj0 u.x u.y).find? (fun c=>qk5 t.us t.bd c)=none:=by
       rw [List.find?_eq_none]
       intro c hc
       have:=HNF.out c (by rw [HN4.out,vq8];exact hc)
       simp [this]
      rw [this]
     go_wp2_with fail
     exact bodyPost_end (v:=.tuple #[]) (results_none rfl _ _ _) rfl ⟨rfl,by rw [HE.out];exact RStep.same HH.out (hwc.then0 hfk)⟩
  ·have HE:Hid (R=t):=by
    refine HSTAY.out ?_
    have hB1:=HB.out
    simp at hB1
    unfold qj7
    rw [HS.out,HCS.out]
    by_cases a1:s < cst
    ·rw [if_pos a1]
    ·by_cases a2:100<=t.us.length
     ·rw [if_neg a1,if_pos a2]
     ·rw [if_neg a1,if_neg a2,if_pos (by omega)]
   go_wp2_with fail
   exact bodyPost_ret (v:=.tuple #[]) (results_none rfl _ _ _) rfl ⟨rfl,by rw [HE.out];exact RStep.same HH.out hwc⟩
theorem dz6:yj2:=by
 intro gb pb cap t i u w h hi hok _ hw
 rcases (hok.all u (List.mem_of_getElem? hi)).ow with e|e
 ·exact gv9 gb pb cap t i u w h hi hok hw e
 ·exact gw0 gb pb cap t i u w h hi hok hw e
end Go.Proofs.YtapabahhfanmmaaGreatDoor
