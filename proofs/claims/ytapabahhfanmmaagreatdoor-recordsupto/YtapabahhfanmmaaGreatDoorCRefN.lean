import Derived.Test.YtapabahhfanmmaaGreatDoorCRefV
namespace Go.Proofs.YtapabahhfanmmaaGreatDoor
open Go.RowKit List
set_option maxHeartbeats 2000000
set_option maxRecDepth 100000
theorem tC {t:T}{u:U}(hw:u.what=4):dN t u=cD (cX t u).2 (cX t u).1:=by unfold dN cK;simp [hw]
theorem PRow.owns {w:World}{b a:Nat}{us:List U}(h:PRow w b a us):w.ownsRow 0 85 11 (.slice (so b) us.length a) us.length (us.flatMap U.cells):=by
 obtain ⟨cur,h1,c,d⟩:=h.h
 exact ⟨mD us,.inr ⟨b,a,cur,rfl,Nat.zero_le _,h1,h.le,h.cap,c,d⟩⟩
theorem RG.relist' {w:World}{h:Nat}{t:T}{pv:Value}(j:∀ k,k < 149->w.cell? ⟨h,k,none⟩=some (dF t pv k))(hz:∀ k,w.frozen? ⟨h,k,none⟩=false){c a:Nat}{d:List U}(m:PRow w c a d)(hn:h≠c)(hl:d.length<=1000):RG (w.setCell ⟨h,148,none⟩ (.slice (so c) d.length a)) h c a { t with us:=d }:=by
 refine ⟨fun k l=>?_,fun k=>by rw [World.frozen?_setCell];exact hz k,m.fr (S:=[h]) ((r0 _ _).setCell _ _ (.inl (by simp))) (by simpa using fun e=>hn e.symm),hl,hn⟩
 by_cases e:k=148
 ·subst e
  rw [dO _ _ _ _ _ (j 148 l)]
  rfl
 rw [cA _ _ _ _ _ _ (.inr (fun x=>e x.symm)),j k l]
 unfold dF
 dsimp only
 by_cases b:k=0
 ·rw [if_pos b,if_pos b]
 by_cases f:k < 145
 ·rw [if_neg b,if_neg b,if_pos f,if_pos f]
 by_cases g:k=145
 ·rw [if_neg b,if_neg b,if_neg f,if_neg f,if_pos g,if_pos g]
 by_cases i:k=146
 ·rw [if_neg b,if_neg b,if_neg f,if_neg f,if_neg g,if_neg g,if_pos i,if_pos i]
 rw [if_neg b,if_neg b,if_neg f,if_neg f,if_neg g,if_neg g,if_neg i,if_neg i,if_pos (by omega),if_pos (by omega)]
theorem BV {P:Program} (w:World) {o:Oper} {a:Act} {K:Act->World->Prop} {Q:Exit->Act->World->Prop} (s x:Operand) (t:TypeId)
  (ho:o.op=.call { callee:=.builtin .append,args:=#[s,x],argTypes:=#[t,t] })
  (base:Nat) (e:TypeId) (i:TypeInfo) (z:Value) (size bytes:Nat) (ht:P.underlying t=some (.slice e)) (hi:P.info? e=some i) (hz:i.zero=some z)
  (hsize:i.size=size) (hby:i.bytes=bytes) (hzs:z.cells.size=size) (g:0 < size)
  (v:Value) (n:Nat) (xs:List Value) (hs:a.eval s=v) (hown:w.ownsRow base e size v n xs)
  (ad:Addr) (m c:Nat) (b:List Value) (hx:a.eval x=.slice (some ad) m c) (hl:b.length=m*size) (hnews:∀ j u,b[j]?=some u->w.cell? (ad.add j)=some u) (h1:∀ u∈b,u.oneCell'=true)
  (h63:n+m<=maxLen) (hbytes:(n+m)*bytes<=140737488355328) (hbase:base<=w.heap.size)
  (h:∀ d f,f.ownsRow base e size d (n+m) (xs ++ b)->w.grownBy f v.ownBlock->(d.ownBlock=v.ownBlock\/d.ownBlock=some w.heap.size)->K (a.put o.dst d) f):o.wp P a w K Q:=by
 obtain ⟨d,f,q,k,l,r,p⟩:=run_append_own_at (P:=P) w base t o.type e i z size bytes ht hi hz hsize hby hzs g v n xs hown ad m c b hl hnews h1 h63 hbytes hbase
 unfold Oper.wp execOp
 simp only [ho,resolve,invoke,builtin,Sem.run_bind,Sem.run_pure,Result.andThen_ok,map_toArray,map_cons,map_nil,hs,hx,q]
 simp only [Oper.upon]
 exact h d f k l p
theorem yS {t:T}(a:TOk t){i:Nat}{u:U}(hi:t.us[i]?=some u)(X:T)(c:X.us=t.us)(o k x y L:Int):cD (X.added o k x y L) u.idle={ X.added o k x y L with us:=t.us.set i u.idle ++ [aS X.next o k x y L] }:=by
 have d:bQ t.us u.id=some i:=rU a.rise hi rfl
 have hl:=(gs.1 hi).1
 have b:bQ (X.added o k x y L).us u.idle.id=some i:=by
  show bQ (X.us ++ [aS X.next o k x y L]) u.id=some i
  rw [c]
  unfold bQ at d |-
  rw [findIdx?_append,d]
  rfl
 unfold cD
 rw [b]
 dsimp only
 show { X.added o k x y L with us:=(X.us ++ [aS X.next o k x y L]).set i u.idle }=_
 rw [c,set_append_left _ _ hl]
theorem uY {t:T}(d:TOk t){x y:Int}:(aG x y).find? (fun c=>bX (bG t.held) t.bd c.1 c.2)=(aG x y).find? (fun c=>cH t.us t.bd c):=by
 have b:∀ (l:List Cl),(∀ c∈l,aD c.1 c.2=true)->l.find? (fun c=>bX (bG t.held) t.bd c.1 c.2)=l.find? (fun c=>cH t.us t.bd c):=by
  intro l
  induction l with
  | nil=>intro _;rfl
  | cons a l f =>
   intro h
   rw [find?_cons,find?_cons,vO d a (h a (by simp)),f (fun c e=>h c (by simp [e]))]
 exact b _ (kJ x y)
theorem uX {us:List U}{b:Nat->Int}{x y:Int}{n:Nat}{a:Int×Int}(e:sds[n]?=some a)(d:∀ c∈aR x y n,cH us b c=false)(f:cH us b (x+a.1,y+a.2)=true):(aG x y).find? (fun c=>cH us b c)=some (x+a.1,y+a.2):=by
 have ho:=vP _ f
 obtain ⟨hl,h⟩:=gs.1 e
 have hs:sds=sds.take n ++ a :: sds.drop (n+1):=by
  rw [<- h,getElem_cons_drop,take_append_drop]
 unfold aG
 rw [hs,map_append,filter_append,find?_append]
 have h1:(((sds.take n).map fun s=>(x+s.1,y+s.2)).filter fun c=>aD c.1 c.2).find? (fun c=>cH us b c)=none:=by
  rw [find?_eq_none]
  intro c g
  simp [d c g]
 rw [h1,map_cons,filter_cons_of_pos (by simpa using ho),find?_cons_of_pos (by simpa using f)]
 rfl
theorem PZ (l C r:Nat)(t:T)(i:Nat)(u:U)(w:World)(h:RG w l C r t)(hi:t.us[i]?=some u)(ao:TOk t)(hw:u.what=4)(ap:u.owner=0) :
  Cs 183 #[.pointer (so l),.int .i64 i] w fun e d=>e=.returned (.tuple #[])/\RStep w l C (dN t u) d:=by
 rw [tC hw]
 obtain ⟨R,hR⟩:∃ R:T,R=cD (cX t u).2 (cX t u).1:=⟨_,rfl⟩
 rw [<- hR]
 have HR:=aA hR
 have hu:=ao.all u (mem_of_getElem? hi)
 have br:u.tox=2\/u.tox=3:=by have:=hu.od;unfold iQ at this;omega
 obtain ⟨m,L⟩:∃ k,eT u.tox=k:=⟨_,rfl⟩
 have HC:Hi (∀ W:World,Cs 215 #[.int .i64 u.tox] W fun e d=>e=.returned (.int .i64 m)/\W=d):=fun W=>by rw [<- L];exact zF u.tox br W
 have av:=aA L
 have dt:0<=m/\m<=8:=by rw [<- L];rcases br with e|e <;> rw [e] <;> decide
 obtain ⟨s,hs⟩:∃ s,t.stock u.owner=s:=⟨_,rfl⟩
 have Zs:t.s0=s:=by rw [ap] at hs;simpa [T.stock] using hs
 have dd:=pF ao u.owner
 rw [hs] at dd
 have dn:=h.len
 have dv:=(gs.1 hi).1
 have dm:(i:Int) < (t.us.length:Int):=by omega
 obtain ⟨p0,p1,p2,p3⟩:=bM.1 hu.on
 have F:=h.c148
 obtain ⟨c0,c1,c2,c3,c4,c5,c6,c7,c8,c9,ai⟩:=h.gv.p.at hi
 obtain ⟨W1,ak⟩:∃ W,W=w.alloc (.cells u.arr 85):=⟨_,rfl⟩
 have ay:Fr [] w W1:=by rw [ak];exact (r0 _ _).alloc _
 have ba:W1.heap[w.heap.size]?=some (.cells u.arr 85):=by rw [ak];exact aC _ _
 have cq:=aA ak
 have dp:=(show Hi _ from h.fr0 ay)
 have K0:(fun d:World=>ca d w.heap.size 1 (ii 0)/\ca d l 145 (ii s)/\ca d l 148 (.slice (so C) t.us.length r)/\ca d l 147 (ii t.next)) W1.drew:=by
  have hg:=h.fr0 (ay.then0 ((r0 [] W1).drew))
  have h1:=hg.c145
  rw [Zs] at h1
  have h2:ca W1.drew w.heap.size 1 (ii u.owner):=aB (((r0 [] W1).drew).heap0 ba)
  rw [ap] at h2
  exact ⟨h2,h1,hg.c148,hg.c147⟩
 have dk:ca W1 w.heap.size 8 (ii u.tox):=aB ba
 have ah:=aA ao
 have HI:=aA hi
 have HH:=aA h
 have HS:=aA hs
 have A:=aA ap
 clear ao hi h ak hR hw hs L ap Zs
 go_enter Tryz.func183,Tryz.ntmps183
 go_wp2_with fail
 rw [<- cq.o]
 obtain ⟨B,hB⟩:∃ B:Bool,(decide (s < m)||(decide (100<=(t.us.length:Int))||decide (1000000000<=t.next)))=B:=⟨_,rfl⟩
 have HB:=aA hB
 go_cut [43] (fun dj wx=>dj=.bool B/\Fr [] W1 wx)
 case first =>
  by_cases a1:s < m
  ·have Q:Hi (B=true):=by show _=_;rw [<- hB];simp [a1]
   clear hB c0 c1 c2 c3 c4 c5 c6 c7 c8 c9 ai F
   refine wp_region_held_drew (S:=fun d:World=>cl d w.heap.size 1 0/\cl d l 145 s/\ca d l 148 (.slice (so C) t.us.length r)/\cl d l 147 t.next) (by kernel_rfl) K0 (fun a=>?_)
   refine (show wpAnyH Tryz.prog Region.Mode.any _ _ _ 25 (Array.replicate 25 false) _ _ from ?_)
   iterate 8 (refine tn 25 a ?_;try simp only [Act.put,Z])
   refine rd 8 fun K hK=>?_
   go_simp
   refine Calls.mono (HC.o _) ?_
   rintro e w2 ⟨rfl,rfl⟩
   refine hK.out _ _ K0 (fun a=>?_)
   clear hK K;try simp only [Act.put,Z]
   iterate 16 (refine tn 25 a ?_;try simp only [Act.put,Z])
   refine wpAnyH_done (by kernel_rfl) ?_ _
   go_wp2_with fail
   go_meet
   exact ⟨by rw [Q.o],(r0 _ _).drew⟩
  have cr:decide (s < m)=false:=decide_eq_false a1
  by_cases a2:100<=(t.us.length:Int)
  ·have Q:Hi (B=true):=by show _=_;rw [<- hB];simp [a2]
   clear hB c0 c1 c2 c3 c4 c5 c6 c7 c8 c9 ai F a1
   refine wp_region_held_drew (S:=fun d:World=>cl d w.heap.size 1 0/\cl d l 145 s/\ca d l 148 (.slice (so C) t.us.length r)/\cl d l 147 t.next) (by kernel_rfl) K0 (fun a=>?_)
   refine (show wpAnyH Tryz.prog Region.Mode.any _ _ _ 25 (Array.replicate 25 false) _ _ from ?_)
   iterate 8 (refine tn 25 a ?_;try simp only [Act.put,Z])
   refine rd 8 fun K hK=>?_
   go_simp
   refine Calls.mono (HC.o _) ?_
   rintro e w2 ⟨rfl,rfl⟩
   refine hK.out _ _ K0 (fun a=>?_)
   clear hK K;try simp only [Act.put,Z]
   iterate 16 (refine tn 25 a ?_;try simp only [Act.put,Z])
   refine wpAnyH_done (by kernel_rfl) ?_ _
   go_wp2_with fail
   go_meet
   exact ⟨by rw [Q.o],(r0 _ _).drew⟩
  have cs:decide (100<=(t.us.length:Int))=false:=decide_eq_false a2
  have Q:Hi (B=decide (1000000000<=t.next)):=by show _=_;rw [<- hB,cr,cs];rfl
  clear hB c0 c1 c2 c3 c4 c5 c6 c7 c8 c9 ai F a1 a2
  refine wp_region_held_drew (S:=fun d:World=>cl d w.heap.size 1 0/\cl d l 145 s/\ca d l 148 (.slice (so C) t.us.length r)/\cl d l 147 t.next) (by kernel_rfl) K0 (fun a=>?_)
  refine (show wpAnyH Tryz.prog Region.Mode.any _ _ _ 25 (Array.replicate 25 false) _ _ from ?_)
  iterate 8 (refine tn 25 a ?_;try simp only [Act.put,Z])
  refine rd 8 fun K hK=>?_
  go_simp
  refine Calls.mono (HC.o _) ?_
  rintro e w2 ⟨rfl,rfl⟩
  refine hK.out _ _ K0 (fun a=>?_)
  clear hK K;try simp only [Act.put,Z]
  iterate 16 (refine tn 25 a ?_;try simp only [Act.put,Z])
  refine wpAnyH_done (by kernel_rfl) ?_ _
  go_wp2_with fail
  go_meet
  exact ⟨by rw [Q.o],(r0 _ _).drew⟩
 case rest =>
  obtain ⟨rfl,bo⟩:=hcut
  have aq:=ay.then0 bo
  have be:=(show Hi _ from HH.o.fr0 aq)
  have Y:Hi (cX t u=(u,t)->R=t):=fun e=>by rw [HR.o,e];exact jI ah.o.rise HI.o
  clear hB c0 c1 c2 c3 c4 c5 c6 c7 c8 c9 ai F K0 dk
  cases B
  ·have aj:=HB.o
   have HX:Hi (cX t u=match (aG u.x u.y).find? (fun c=>cH t.us t.bd c) with|none=>(u,t)|some c=>(u.idle,T.added { t.setStock u.owner (t.stock u.owner - eT u.tox) with held:=fun k=>if k=c then some t.next else t.held k } u.owner u.tox c.1 c.2 (cT u.tox))):=by
    simp at aj
    show _=_
    unfold cX
    rw [HS.o,av.o,if_neg (by omega),if_neg (by omega),if_neg (by omega),uY ah.o]
    cases (aG u.x u.y).find? (fun c=>cH t.us t.bd c) <;> rfl
   clear aj
   have cb:=bo.heap0 ba
   go_wp2_with fail
   go_loopw [6] (fun k wr=>∃ n:Nat,n<=4/\k=.int .i64 n/\(∀ c∈aR u.x u.y n,cH t.us t.bd c=false)/\Fr [] wc wr) (fun k _=>4 - (intOf k).toNat)
   case atStart=>exact ⟨0,by omega,rfl,fun c F=>by simp [aR] at F,r0 _ _⟩
   obtain ⟨n,hn,rfl,bw,ab⟩:=hrel
   have ag:=aA bw
   clear bw
   by_cases bs:n < 4
   ·have bt:(n:Int) < 4:=by omega
    obtain ⟨E,I⟩:∃ s,sds[n]?=some s:=⟨_,getElem?_eq_getElem (show n < sds.length from bs)⟩
    have dc:-1<=E.1/\E.1<=1 /\ -1<=E.2/\E.2<=1:=by
     have h5:n=0\/n=1\/n=2\/n=3:=by omega
     rcases h5 with rfl|rfl|rfl|rfl <;> (simp [sds] at I;subst I;decide)
    have bg:=(show Hi _ from fun W:World=>oX u.x u.y n E W I (by omega) (by omega) (by omega) (by omega))
    have ar:Hi (aD (u.x+E.1) (u.y+E.2)=true->aR u.x u.y (n+1)=aR u.x u.y n ++ [(u.x+E.1,u.y+E.2)]):=fun ho=>jW u.x u.y n E I ho
    have bf:Hi (aD (u.x+E.1) (u.y+E.2)=false->aR u.x u.y (n+1)=aR u.x u.y n):=fun ho=>jV u.x u.y n E I ho
    have V:Hi (cH t.us t.bd (u.x+E.1,u.y+E.2)=true->(aG u.x u.y).find? (fun c=>cH t.us t.bd c)=some (u.x+E.1,u.y+E.2)):=fun hf=>uX I ag.o hf
    obtain ⟨z,hz⟩:∃ z,u.x+E.1=z:=⟨_,rfl⟩
    obtain ⟨v,hv⟩:∃ z,u.y+E.2=z:=⟨_,rfl⟩
    rw [hz,hv] at bg ar bf V
    have bz:=ab.heap0 cb
    have ux:ca wr w.heap.size 3 (ii u.x):=aB bz
    have uy:ca wr w.heap.size 4 (ii u.y):=aB bz
    clear hz hv I dc
    go_wp2_with fail
    refine Calls.mono (bg.o _) ?_
    rintro e w3 ⟨rfl,rfl⟩
    have aw:=rX l C r t z v wr (be.o.fr0 ab)
    obtain ⟨f,hf⟩:∃ f,cH t.us t.bd (z,v)=f:=⟨_,rfl⟩
    rw [hf] at aw V
    have ch:=aA hf
    clear hf
    go_wp2_with fail
    refine Calls.mono aw ?_
    rintro e w4 ⟨rfl,bl⟩
    clear aw ux uy
    cases f
    ·have cn:Hi (∀ c∈aR u.x u.y (n+1),cH t.us t.bd c=false):=fun c F=>by
      by_cases ho:aD z v=true
      ·rw [ar.o ho] at F
       rcases mem_append.1 F with F|F
       ·exact ag.o c F
       have:c=(z,v):=by simpa using F
       rw [this]
       exact ch.o
      rw [bf.o (by simpa using ho)] at F
      exact ag.o c F
     go_wp2_with fail
     go_roundw
     case rel=>exact ⟨n+1,bs,by go_num,cn.o,ab.then0 bl⟩
     case measure=>simp [intOf];omega
    have bp:=V.o rfl
    have cj:=aA bp
    have az:=ab.then0 bl
    have cc:=az.heap0 cb
    have an:=be.o.fr0 az
    have uo:w4.cell? ⟨w.heap.size,1,none⟩=some (ii 0):=by
     have:w4.cell? ⟨w.heap.size,1,none⟩=some (ii u.owner):=aB cc
     rwa [A.o] at this
    have bk:w4.cell? ⟨l,145,none⟩=some (ii s):=by
     have:=an.c145
     rwa [show t.s0=s by have:=HS.o;rw [A.o] at this;simpa [T.stock] using this] at this
    have ct:=an.fz 145
    have a:(fun d:World=>d.cell? ⟨w.heap.size,1,none⟩=some (ii 0)/\d.cell? ⟨l,145,none⟩=some (ii s)) w4.drew:=⟨by simpa using uo,by simpa using bk⟩
    have ck:=aA an
    clear bp an
    go_wp2_with fail
    refine TwoFree.region (fun d:World=>d.cell? ⟨w.heap.size,1,none⟩=some (ii 0)/\d.cell? ⟨l,145,none⟩=some (ii s)) 16 (by kernel_rfl) ?_
    refine (show TwoFree Tryz.prog Region.Mode.any _ _ _ 16 17 (Array.replicate 17 false) _ _ from ?_)
    refine tw 0 (fun _=>a) ?_;try simp only [Act.put,Z]
    refine tw 1 (fun _=>a) ?_;try simp only [Act.put,Z]
    refine tt 2 a ?_;try simp only [Act.put,Z]
    refine tw 3 (fun _=>a) ?_;try simp only [Act.put,Z]
    refine tw 4 (fun _=>a) ?_;try simp only [Act.put,Z]
    refine tt 5 a ?_;try simp only [Act.put,Z]
    refine tw 6 (fun _=>a) ?_;try simp only [Act.put,Z]
    refine tw 7 (fun _=>a) ?_;try simp only [Act.put,Z]
    refine tw 8 (fun _=>a) ?_;try simp only [Act.put,Z]
    refine tt 9 a ?_;try simp only [Act.put,Z]
    refine tw 10 (fun _=>a) ?_;try simp only [Act.put,Z]
    refine tw 13 (fun _=>a) ?_;try simp only [Act.put,Z]
    refine tw 14 (fun _=>a) ?_;try simp only [Act.put,Z]
    refine t1 11 fun K' b=>?_
    have q:=aA b
    clear b
    go_simp
    refine Calls.mono (HC.o _) ?_
    rintro e w5 ⟨rfl,rfl⟩
    refine q.o _ _ ⟨fun _ _=>a,?_⟩
    clear q K';try simp only [Act.put,Z]
    refine tw 12 (fun _=>a) ?_;try simp only [Act.put,Z]
    refine t1 15 fun K' b=>?_
    have q:=aA b
    clear b
    go_simp
    refine q.o _ _ ⟨fun _ _=>a,?_⟩
    clear q K';try simp only [Act.put,Z]
    refine t1 16 fun K' b=>?_
    have q:=aA b
    clear b
    go_simp
    refine q.o _ _ ⟨fun h6=>absurd rfl h6,TwoFree.done (by kernel_rfl) ?_ _⟩
    clear q K'
    rw [show IntKind.i64.wrap (s - m)=s - m by rw [IntKind.wrap_i64];omega]
    obtain ⟨W5,al⟩:∃ W,W=(w4.setCell ⟨l,145,none⟩ (.int .i64 (s - m))).drew:=⟨_,rfl⟩
    have bm:Fr [l] w4 W5:=by rw [al];exact ((r0 _ _).setCell _ _ (.inl (by simp))).drew
    have bq:RG W5 l C r { t with s0:=s - m }:=by rw [al];exact (ck.o.setS0 (s - m)).fr0 ((r0 _ _).drew)
    rw [<- al]
    have du:=HH.o.lt
    have dx:=HH.o.pl
    have cd:=bm.heap cc (by simp;omega)
    clear al a uo bk ct
    go_wp2_with fail
    refine Calls.mono (mV l C r { t with s0:=s - m } i u W5 bq HI.o) ?_
    rintro e w6 ⟨rfl,N,bn⟩
    dsimp only at N |-
    have ce:=bn.heap cd (by simp;omega)
    have cf:Fr [l,C] w w6:=(((aq.then0 az).of0 (S:=[l,C])).trans bm (by simp)).trans bn (by simp)
    have J:∀ d,Fr [C] w6 d->(fun d:World=>d.cell? ⟨l,148,none⟩=some (.slice (so C) t.us.length r)/\d.cell? ⟨l,147,none⟩=some (ii t.next)/\d.cell? ⟨w.heap.size,1,none⟩=some (ii 0)) d:=fun d hf=>by
     have h1:=N.c148
     have h2:=N.c147
     have h3:ca w6 w.heap.size 1 (ii u.owner):=aB ce
     dsimp only at h1 h2
     rw [length_set] at h1
     rw [A.o] at h3
     have P:=N.ne
     exact ⟨(hf.cell _ _ (aI h1) (by simpa using P)).trans h1,(hf.cell _ _ (aI h2) (by simpa using P)).trans h2,(hf.cell _ _ (aI h3) (by simp;omega)).trans h3⟩
    have a:=J w6.drew ((r0 _ _).drew)
    have cm:Hi (∀ W:World,Cs 93 #[.int .i64 u.tox] W fun e d=>e=.returned (.int .i64 (cT u.tox))/\W=d):=fun W=>mU u.tox W
    have X:=aA N
    clear bq N
    go_wp2_with fail
    refine TwoFree.region (fun d:World=>d.cell? ⟨l,148,none⟩=some (.slice (so C) t.us.length r)/\d.cell? ⟨l,147,none⟩=some (ii t.next)/\d.cell? ⟨w.heap.size,1,none⟩=some (ii 0)) 21 (by kernel_rfl) ?_
    refine (show TwoFree Tryz.prog Region.Mode.any _ _ _ 21 22 (Array.replicate 22 false) _ _ from ?_)
    refine tw 0 (fun _=>a) ?_;try simp only [Act.put,Z]
    refine tw 1 (fun _=>a) ?_;try simp only [Act.put,Z]
    refine tw 2 (fun _=>a) ?_;try simp only [Act.put,Z]
    refine tw 3 (fun _=>a) ?_;try simp only [Act.put,Z]
    refine tt 4 a ?_;try simp only [Act.put,Z]
    refine tw 5 (fun _=>a) ?_;try simp only [Act.put,Z]
    refine tw 6 (fun _=>a) ?_;try simp only [Act.put,Z]
    refine tw 7 (fun _=>a) ?_;try simp only [Act.put,Z]
    refine tt 8 a ?_;try simp only [Act.put,Z]
    refine tw 9 (fun _=>a) ?_;try simp only [Act.put,Z]
    refine tt 10 a ?_;try simp only [Act.put,Z]
    refine tw 11 (fun _=>a) ?_;try simp only [Act.put,Z]
    refine tw 12 (fun _=>a) ?_;try simp only [Act.put,Z]
    refine tw 13 (fun _=>a) ?_;try simp only [Act.put,Z]
    refine tw 14 (fun _=>a) ?_;try simp only [Act.put,Z]
    refine t1 15 fun K' b=>?_
    have q:=aA b
    clear b
    go_simp
    refine Calls.mono (cm.o _) ?_
    rintro e w7 ⟨rfl,rfl⟩
    refine q.o _ _ ⟨fun _ _=>a,?_⟩
    clear q K';try simp only [Act.put,Z]
    refine tw 16 (fun _=>a) ?_;try simp only [Act.put,Z]
    refine t1 17 fun K' b=>?_
    have q:=aA b
    clear b
    go_simp
    obtain ⟨nU,bv⟩:∃ x:U,x=⟨t.next,0,u.tox,z,v,cT u.tox,0,0,0,0,0⟩:=⟨_,rfl⟩
    obtain ⟨W7,am⟩:∃ W,W=(w6.alloc (.cells #[ii t.next,ii 0,.int .i64 u.tox,.int .i64 z,.int .i64 v,.int .i64 (cT u.tox),.int .i64 0,.int .i64 0,.int .i64 0,.int .i64 0,.int .i64 0] 85)).drew:=⟨_,rfl⟩
    rw [<- am]
    have aa:Fr [] w6 W7:=by rw [am];exact ((r0 _ _).alloc _).drew
    have bu:W7.heap[w6.heap.size]?=some (.cells nU.arr 85):=by rw [am,nR,bv];exact aC _ _
    have bi:=J W7 aa.of0
    clear a
    have a:=bi
    clear bi am
    refine q.o _ _ ⟨fun _ _=>a,?_⟩
    clear q K';try simp only [Act.put,Z]
    have cy:=X.o.fr0 aa
    have D:=cy.row.owns
    dsimp only at D
    rw [length_set] at D
    have bx:∀ (j:Nat) (y:Value),nU.cells[j]?=some y->W7.cell? ((⟨w6.heap.size,0,none⟩:Addr).add j)=some y:=by
     intro j y hy
     rw [Addr.add_lit,Nat.zero_add,aB bu]
     simpa using hy
    obtain ⟨di,da,df,dg,dh⟩:=info_parts iT
    have dl:=aa.size
    refine t1 18 fun K' b=>?_
    have q:=aA b
    clear b
    rw [if_pos (by rfl)]
    refine BV _ _ _ 82 rfl 0 85 di zeroU.val 11 88 Tryz.underlying82 da df dg dh rfl (by decide) (.slice (so C) t.us.length r) t.us.length _ rfl D ⟨w6.heap.size,0,none⟩ 1 1 nU.cells rfl rfl bx (by simp [Value.oneCell']) (by unfold maxLen;omega) (by omega) (Nat.zero_le _) ?_
    intro y' w8 H ad Zr
    have cw:Fr [C] W7 w8:=(r0 _ _).grow ad (fun g hg=>.inl (by simp [Value.ownBlock] at hg;simp [hg]))
    have M:Fr [C] w6 w8:=(aa.of0 (S:=[C])).trans cw (by simp)
    have bj:=J w8 M
    have bh:(t.us.set i u.idle).flatMap U.cells ++ nU.cells=(t.us.set i u.idle ++ [nU]).flatMap U.cells:=by simp
    rw [bh] at H
    obtain ⟨af,Zq,rfl,ds,ae⟩:=PRow.of_owns H (by simp) (by omega)
    have au:af=C\/af=W7.heap.size:=by simpa [Value.ownBlock] using Zr
    clear Zr
    have P:=X.o.ne
    have ac:=X.o.lt
    have cg:Hi (∀ k,k < 149->w8.cell? ⟨l,k,none⟩=some (dF { t with s0:=s - m,us:=t.us.set i u.idle } (.slice (so C) (t.us.set i u.idle).length r) k)):=fun k hk=>(M.cell _ _ ac (by simpa using P)).trans (X.o.cell k hk)
    have bb:Hi (∀ k,w8.frozen? ⟨l,k,none⟩=false):=fun k=>(M.frozen _ _ ac (by simpa using P)).trans (X.o.fz k)
    have dq:=bb.o 148
    have cp:=aA ae
    clear a
    have a:=bj
    clear bj
    refine q.o _ _ ⟨fun _ _=>a,?_⟩
    clear q K' D bx ad H ae bh J bu;try simp only [Act.put,Z]
    refine t1 19 fun K' b=>?_
    have q:=aA b
    clear b
    go_simp
    refine q.o _ _ ⟨fun _ _=>a,?_⟩
    clear q K';try simp only [Act.put,Z]
    refine t1 20 fun K' b=>?_
    have q:=aA b
    clear b
    go_simp
    refine q.o _ _ ⟨fun _ _=>a,?_⟩
    clear q K';try simp only [Act.put,Z]
    refine t1 21 fun K' b=>?_
    have q:=aA b
    clear b
    go_simp
    refine q.o _ _ ⟨fun h6=>absurd rfl h6,TwoFree.done (by kernel_rfl) ?_ _⟩
    clear q K'
    have cz:l≠af:=by
     rcases au with e|e
     ·exact fun x=>P (x.trans e)
     have:=ac;have:=aa.size;omega
    have O:=RG.relist' cg.o bb.o cp.o cz (by have aj:=HB.o;simp at aj;simp;omega)
    rw [show (t.us.set i u.idle ++ [nU]).length=t.us.length+1 by simp] at O
    obtain ⟨W9,ax⟩:∃ W,W=w8.setCell ⟨l,148,none⟩ (.slice (so af) (t.us.length+1) Zq):=⟨_,rfl⟩
    rw [<- ax] at O |-
    have cx:Fr [l] w8 W9:=by rw [ax];exact (r0 _ _).setCell _ _ (.inl (by simp))
    have db:=O.c147
    dsimp only at db
    have dr:=O.fz 147
    have dw:=ah.o.nx
    have bc:=aA O
    have de:Fr [l,C] w w8:=cf.trans M (by simp)
    have Zt:=cf.size
    clear ax O a
    go_wp2_with fail
    refine bodyPost_ret (v:=.tuple #[]) (results_none rfl _ _ _) rfl ⟨rfl,af,Zq,?_,((de.trans cx (by simp)).setCell _ _ (.inl (by simp))),au.imp id (fun x=>by omega)⟩
    rw [HR.o,HX.o,cj.o]
    dsimp only
    rw [yS ah.o HI.o _ (by rw [A.o];rfl)]
    rw [bv] at bc
    exact (bc.o.setNx (t.next+1)).of (by rw [A.o];rfl) (by rw [A.o];rfl) (by rw [HS.o,av.o,A.o];rfl) (by rw [A.o];rfl) (by rw [A.o];rfl) (by rw [A.o];rfl)
   have bt:¬ (n:Int) < 4:=by omega
   have co:Hi (n=4):=by show _=_;omega
   have HE:Hi (R=t):=by
    refine Y.o ?_
    rw [HX.o]
    have:(aG u.x u.y).find? (fun c=>cH t.us t.bd c)=none:=by
     rw [find?_eq_none]
     intro c F
     have:=ag.o c (by rw [co.o,oH];exact F)
     simp [this]
    rw [this]
   go_wp2_with fail
   exact bodyPost_end (v:=.tuple #[]) (results_none rfl _ _ _) rfl ⟨rfl,by rw [HE.o];exact RStep.same HH.o (aq.then0 ab)⟩
  have HE:Hi (R=t):=by
   refine Y.o ?_
   have cu:=HB.o
   simp at cu
   unfold cX
   rw [HS.o,av.o]
   by_cases a1:s < m
   ·rw [if_pos a1]
   by_cases a2:100<=t.us.length
   ·rw [if_neg a1,if_pos a2]
   rw [if_neg a1,if_neg a2,if_pos (by omega)]
  go_wp2_with fail
  exact bodyPost_ret (v:=.tuple #[]) (results_none rfl _ _ _) rfl ⟨rfl,by rw [HE.o];exact RStep.same HH.o aq⟩
theorem QA (l C r:Nat)(t:T)(i:Nat)(u:U)(w:World)(h:RG w l C r t)(hi:t.us[i]?=some u)(ao:TOk t)(hw:u.what=4)(ap:u.owner=1) :
  Cs 183 #[.pointer (so l),.int .i64 i] w fun e d=>e=.returned (.tuple #[])/\RStep w l C (dN t u) d:=by
 rw [tC hw]
 obtain ⟨R,hR⟩:∃ R:T,R=cD (cX t u).2 (cX t u).1:=⟨_,rfl⟩
 rw [<- hR]
 have HR:=aA hR
 have hu:=ao.all u (mem_of_getElem? hi)
 have br:u.tox=2\/u.tox=3:=by have:=hu.od;unfold iQ at this;omega
 obtain ⟨m,L⟩:∃ k,eT u.tox=k:=⟨_,rfl⟩
 have HC:Hi (∀ W:World,Cs 215 #[.int .i64 u.tox] W fun e d=>e=.returned (.int .i64 m)/\W=d):=fun W=>by rw [<- L];exact zF u.tox br W
 have av:=aA L
 have dt:0<=m/\m<=8:=by rw [<- L];rcases br with e|e <;> rw [e] <;> decide
 obtain ⟨s,hs⟩:∃ s,t.stock u.owner=s:=⟨_,rfl⟩
 have Zs:t.s1=s:=by rw [ap] at hs;simpa [T.stock] using hs
 have dd:=pF ao u.owner
 rw [hs] at dd
 have dn:=h.len
 have dv:=(gs.1 hi).1
 have dm:(i:Int) < (t.us.length:Int):=by omega
 obtain ⟨p0,p1,p2,p3⟩:=bM.1 hu.on
 have F:=h.c148
 obtain ⟨c0,c1,c2,c3,c4,c5,c6,c7,c8,c9,ai⟩:=h.gv.p.at hi
 obtain ⟨W1,ak⟩:∃ W,W=w.alloc (.cells u.arr 85):=⟨_,rfl⟩
 have ay:Fr [] w W1:=by rw [ak];exact (r0 _ _).alloc _
 have ba:W1.heap[w.heap.size]?=some (.cells u.arr 85):=by rw [ak];exact aC _ _
 have cq:=aA ak
 have dp:=(show Hi _ from h.fr0 ay)
 have K0:(fun d:World=>ca d w.heap.size 1 (ii 1)/\ca d l 146 (ii s)/\ca d l 148 (.slice (so C) t.us.length r)/\ca d l 147 (ii t.next)) W1.drew:=by
  have hg:=h.fr0 (ay.then0 ((r0 [] W1).drew))
  have h1:=hg.c146
  rw [Zs] at h1
  have h2:ca W1.drew w.heap.size 1 (ii u.owner):=aB (((r0 [] W1).drew).heap0 ba)
  rw [ap] at h2
  exact ⟨h2,h1,hg.c148,hg.c147⟩
 have dk:ca W1 w.heap.size 8 (ii u.tox):=aB ba
 have ah:=aA ao
 have HI:=aA hi
 have HH:=aA h
 have HS:=aA hs
 have A:=aA ap
 clear ao hi h ak hR hw hs L ap Zs
 go_enter Tryz.func183,Tryz.ntmps183
 go_wp2_with fail
 rw [<- cq.o]
 obtain ⟨B,hB⟩:∃ B:Bool,(decide (s < m)||(decide (100<=(t.us.length:Int))||decide (1000000000<=t.next)))=B:=⟨_,rfl⟩
 have HB:=aA hB
 go_cut [43] (fun dj wx=>dj=.bool B/\Fr [] W1 wx)
 case first =>
  by_cases a1:s < m
  ·have Q:Hi (B=true):=by show _=_;rw [<- hB];simp [a1]
   clear hB c0 c1 c2 c3 c4 c5 c6 c7 c8 c9 ai F
   refine wp_region_held_drew (S:=fun d:World=>cl d w.heap.size 1 1/\cl d l 146 s/\ca d l 148 (.slice (so C) t.us.length r)/\cl d l 147 t.next) (by kernel_rfl) K0 (fun a=>?_)
   refine (show wpAnyH Tryz.prog Region.Mode.any _ _ _ 25 (Array.replicate 25 false) _ _ from ?_)
   iterate 8 (refine tn 25 a ?_;try simp only [Act.put,Z])
   refine rd 8 fun K hK=>?_
   go_simp
   refine Calls.mono (HC.o _) ?_
   rintro e w2 ⟨rfl,rfl⟩
   refine hK.out _ _ K0 (fun a=>?_)
   clear hK K;try simp only [Act.put,Z]
   iterate 16 (refine tn 25 a ?_;try simp only [Act.put,Z])
   refine wpAnyH_done (by kernel_rfl) ?_ _
   go_wp2_with fail
   go_meet
   exact ⟨by rw [Q.o],(r0 _ _).drew⟩
  have cr:decide (s < m)=false:=decide_eq_false a1
  by_cases a2:100<=(t.us.length:Int)
  ·have Q:Hi (B=true):=by show _=_;rw [<- hB];simp [a2]
   clear hB c0 c1 c2 c3 c4 c5 c6 c7 c8 c9 ai F a1
   refine wp_region_held_drew (S:=fun d:World=>cl d w.heap.size 1 1/\cl d l 146 s/\ca d l 148 (.slice (so C) t.us.length r)/\cl d l 147 t.next) (by kernel_rfl) K0 (fun a=>?_)
   refine (show wpAnyH Tryz.prog Region.Mode.any _ _ _ 25 (Array.replicate 25 false) _ _ from ?_)
   iterate 8 (refine tn 25 a ?_;try simp only [Act.put,Z])
   refine rd 8 fun K hK=>?_
   go_simp
   refine Calls.mono (HC.o _) ?_
   rintro e w2 ⟨rfl,rfl⟩
   refine hK.out _ _ K0 (fun a=>?_)
   clear hK K;try simp only [Act.put,Z]
   iterate 16 (refine tn 25 a ?_;try simp only [Act.put,Z])
   refine wpAnyH_done (by kernel_rfl) ?_ _
   go_wp2_with fail
   go_meet
   exact ⟨by rw [Q.o],(r0 _ _).drew⟩
  have cs:decide (100<=(t.us.length:Int))=false:=decide_eq_false a2
  have Q:Hi (B=decide (1000000000<=t.next)):=by show _=_;rw [<- hB,cr,cs];rfl
  clear hB c0 c1 c2 c3 c4 c5 c6 c7 c8 c9 ai F a1 a2
  refine wp_region_held_drew (S:=fun d:World=>cl d w.heap.size 1 1/\cl d l 146 s/\ca d l 148 (.slice (so C) t.us.length r)/\cl d l 147 t.next) (by kernel_rfl) K0 (fun a=>?_)
  refine (show wpAnyH Tryz.prog Region.Mode.any _ _ _ 25 (Array.replicate 25 false) _ _ from ?_)
  iterate 8 (refine tn 25 a ?_;try simp only [Act.put,Z])
  refine rd 8 fun K hK=>?_
  go_simp
  refine Calls.mono (HC.o _) ?_
  rintro e w2 ⟨rfl,rfl⟩
  refine hK.out _ _ K0 (fun a=>?_)
  clear hK K;try simp only [Act.put,Z]
  iterate 16 (refine tn 25 a ?_;try simp only [Act.put,Z])
  refine wpAnyH_done (by kernel_rfl) ?_ _
  go_wp2_with fail
  go_meet
  exact ⟨by rw [Q.o],(r0 _ _).drew⟩
 case rest =>
  obtain ⟨rfl,bo⟩:=hcut
  have aq:=ay.then0 bo
  have be:=(show Hi _ from HH.o.fr0 aq)
  have Y:Hi (cX t u=(u,t)->R=t):=fun e=>by rw [HR.o,e];exact jI ah.o.rise HI.o
  clear hB c0 c1 c2 c3 c4 c5 c6 c7 c8 c9 ai F K0 dk
  cases B
  ·have aj:=HB.o
   have HX:Hi (cX t u=match (aG u.x u.y).find? (fun c=>cH t.us t.bd c) with|none=>(u,t)|some c=>(u.idle,T.added { t.setStock u.owner (t.stock u.owner - eT u.tox) with held:=fun k=>if k=c then some t.next else t.held k } u.owner u.tox c.1 c.2 (cT u.tox))):=by
    simp at aj
    show _=_
    unfold cX
    rw [HS.o,av.o,if_neg (by omega),if_neg (by omega),if_neg (by omega),uY ah.o]
    cases (aG u.x u.y).find? (fun c=>cH t.us t.bd c) <;> rfl
   clear aj
   have cb:=bo.heap0 ba
   go_wp2_with fail
   go_loopw [6] (fun k wr=>∃ n:Nat,n<=4/\k=.int .i64 n/\(∀ c∈aR u.x u.y n,cH t.us t.bd c=false)/\Fr [] wc wr) (fun k _=>4 - (intOf k).toNat)
   case atStart=>exact ⟨0,by omega,rfl,fun c F=>by simp [aR] at F,r0 _ _⟩
   obtain ⟨n,hn,rfl,bw,ab⟩:=hrel
   have ag:=aA bw
   clear bw
   by_cases bs:n < 4
   ·have bt:(n:Int) < 4:=by omega
    obtain ⟨E,I⟩:∃ s,sds[n]?=some s:=⟨_,getElem?_eq_getElem (show n < sds.length from bs)⟩
    have dc:-1<=E.1/\E.1<=1 /\ -1<=E.2/\E.2<=1:=by
     have h5:n=0\/n=1\/n=2\/n=3:=by omega
     rcases h5 with rfl|rfl|rfl|rfl <;> (simp [sds] at I;subst I;decide)
    have bg:=(show Hi _ from fun W:World=>oX u.x u.y n E W I (by omega) (by omega) (by omega) (by omega))
    have ar:Hi (aD (u.x+E.1) (u.y+E.2)=true->aR u.x u.y (n+1)=aR u.x u.y n ++ [(u.x+E.1,u.y+E.2)]):=fun ho=>jW u.x u.y n E I ho
    have bf:Hi (aD (u.x+E.1) (u.y+E.2)=false->aR u.x u.y (n+1)=aR u.x u.y n):=fun ho=>jV u.x u.y n E I ho
    have V:Hi (cH t.us t.bd (u.x+E.1,u.y+E.2)=true->(aG u.x u.y).find? (fun c=>cH t.us t.bd c)=some (u.x+E.1,u.y+E.2)):=fun hf=>uX I ag.o hf
    obtain ⟨z,hz⟩:∃ z,u.x+E.1=z:=⟨_,rfl⟩
    obtain ⟨v,hv⟩:∃ z,u.y+E.2=z:=⟨_,rfl⟩
    rw [hz,hv] at bg ar bf V
    have bz:=ab.heap0 cb
    have ux:ca wr w.heap.size 3 (ii u.x):=aB bz
    have uy:ca wr w.heap.size 4 (ii u.y):=aB bz
    clear hz hv I dc
    go_wp2_with fail
    refine Calls.mono (bg.o _) ?_
    rintro e w3 ⟨rfl,rfl⟩
    have aw:=rX l C r t z v wr (be.o.fr0 ab)
    obtain ⟨f,hf⟩:∃ f,cH t.us t.bd (z,v)=f:=⟨_,rfl⟩
    rw [hf] at aw V
    have ch:=aA hf
    clear hf
    go_wp2_with fail
    refine Calls.mono aw ?_
    rintro e w4 ⟨rfl,bl⟩
    clear aw ux uy
    cases f
    ·have cn:Hi (∀ c∈aR u.x u.y (n+1),cH t.us t.bd c=false):=fun c F=>by
      by_cases ho:aD z v=true
      ·rw [ar.o ho] at F
       rcases mem_append.1 F with F|F
       ·exact ag.o c F
       have:c=(z,v):=by simpa using F
       rw [this]
       exact ch.o
      rw [bf.o (by simpa using ho)] at F
      exact ag.o c F
     go_wp2_with fail
     go_roundw
     case rel=>exact ⟨n+1,bs,by go_num,cn.o,ab.then0 bl⟩
     case measure=>simp [intOf];omega
    have bp:=V.o rfl
    have cj:=aA bp
    have az:=ab.then0 bl
    have cc:=az.heap0 cb
    have an:=be.o.fr0 az
    have uo:w4.cell? ⟨w.heap.size,1,none⟩=some (ii 1):=by
     have:w4.cell? ⟨w.heap.size,1,none⟩=some (ii u.owner):=aB cc
     rwa [A.o] at this
    have bk:w4.cell? ⟨l,146,none⟩=some (ii s):=by
     have:=an.c146
     rwa [show t.s1=s by have:=HS.o;rw [A.o] at this;simpa [T.stock] using this] at this
    have ct:=an.fz 146
    have a:(fun d:World=>d.cell? ⟨w.heap.size,1,none⟩=some (ii 1)/\d.cell? ⟨l,146,none⟩=some (ii s)) w4.drew:=⟨by simpa using uo,by simpa using bk⟩
    have ck:=aA an
    clear bp an
    go_wp2_with fail
    refine TwoFree.region (fun d:World=>d.cell? ⟨w.heap.size,1,none⟩=some (ii 1)/\d.cell? ⟨l,146,none⟩=some (ii s)) 16 (by kernel_rfl) ?_
    refine (show TwoFree Tryz.prog Region.Mode.any _ _ _ 16 17 (Array.replicate 17 false) _ _ from ?_)
    refine tw 0 (fun _=>a) ?_;try simp only [Act.put,Z]
    refine tw 1 (fun _=>a) ?_;try simp only [Act.put,Z]
    refine tt 2 a ?_;try simp only [Act.put,Z]
    refine tw 3 (fun _=>a) ?_;try simp only [Act.put,Z]
    refine tw 4 (fun _=>a) ?_;try simp only [Act.put,Z]
    refine tt 5 a ?_;try simp only [Act.put,Z]
    refine tw 6 (fun _=>a) ?_;try simp only [Act.put,Z]
    refine tw 7 (fun _=>a) ?_;try simp only [Act.put,Z]
    refine tw 8 (fun _=>a) ?_;try simp only [Act.put,Z]
    refine tt 9 a ?_;try simp only [Act.put,Z]
    refine tw 10 (fun _=>a) ?_;try simp only [Act.put,Z]
    refine tw 13 (fun _=>a) ?_;try simp only [Act.put,Z]
    refine tw 14 (fun _=>a) ?_;try simp only [Act.put,Z]
    refine t1 11 fun K' b=>?_
    have q:=aA b
    clear b
    go_simp
    refine Calls.mono (HC.o _) ?_
    rintro e w5 ⟨rfl,rfl⟩
    refine q.o _ _ ⟨fun _ _=>a,?_⟩
    clear q K';try simp only [Act.put,Z]
    refine tw 12 (fun _=>a) ?_;try simp only [Act.put,Z]
    refine t1 15 fun K' b=>?_
    have q:=aA b
    clear b
    go_simp
    refine q.o _ _ ⟨fun _ _=>a,?_⟩
    clear q K';try simp only [Act.put,Z]
    refine t1 16 fun K' b=>?_
    have q:=aA b
    clear b
    go_simp
    refine q.o _ _ ⟨fun h6=>absurd rfl h6,TwoFree.done (by kernel_rfl) ?_ _⟩
    clear q K'
    rw [show IntKind.i64.wrap (s - m)=s - m by rw [IntKind.wrap_i64];omega]
    obtain ⟨W5,al⟩:∃ W,W=(w4.setCell ⟨l,146,none⟩ (.int .i64 (s - m))).drew:=⟨_,rfl⟩
    have bm:Fr [l] w4 W5:=by rw [al];exact ((r0 _ _).setCell _ _ (.inl (by simp))).drew
    have bq:RG W5 l C r { t with s1:=s - m }:=by rw [al];exact (ck.o.setS1 (s - m)).fr0 ((r0 _ _).drew)
    rw [<- al]
    have du:=HH.o.lt
    have dx:=HH.o.pl
    have cd:=bm.heap cc (by simp;omega)
    clear al a uo bk ct
    go_wp2_with fail
    refine Calls.mono (mV l C r { t with s1:=s - m } i u W5 bq HI.o) ?_
    rintro e w6 ⟨rfl,N,bn⟩
    dsimp only at N |-
    have ce:=bn.heap cd (by simp;omega)
    have cf:Fr [l,C] w w6:=(((aq.then0 az).of0 (S:=[l,C])).trans bm (by simp)).trans bn (by simp)
    have J:∀ d,Fr [C] w6 d->(fun d:World=>d.cell? ⟨l,148,none⟩=some (.slice (so C) t.us.length r)/\d.cell? ⟨l,147,none⟩=some (ii t.next)/\d.cell? ⟨w.heap.size,1,none⟩=some (ii 1)) d:=fun d hf=>by
     have h1:=N.c148
     have h2:=N.c147
     have h3:ca w6 w.heap.size 1 (ii u.owner):=aB ce
     dsimp only at h1 h2
     rw [length_set] at h1
     rw [A.o] at h3
     have P:=N.ne
     exact ⟨(hf.cell _ _ (aI h1) (by simpa using P)).trans h1,(hf.cell _ _ (aI h2) (by simpa using P)).trans h2,(hf.cell _ _ (aI h3) (by simp;omega)).trans h3⟩
    have a:=J w6.drew ((r0 _ _).drew)
    have cm:Hi (∀ W:World,Cs 93 #[.int .i64 u.tox] W fun e d=>e=.returned (.int .i64 (cT u.tox))/\W=d):=fun W=>mU u.tox W
    have X:=aA N
    clear bq N
    go_wp2_with fail
    refine TwoFree.region (fun d:World=>d.cell? ⟨l,148,none⟩=some (.slice (so C) t.us.length r)/\d.cell? ⟨l,147,none⟩=some (ii t.next)/\d.cell? ⟨w.heap.size,1,none⟩=some (ii 1)) 21 (by kernel_rfl) ?_
    refine (show TwoFree Tryz.prog Region.Mode.any _ _ _ 21 22 (Array.replicate 22 false) _ _ from ?_)
    refine tw 0 (fun _=>a) ?_;try simp only [Act.put,Z]
    refine tw 1 (fun _=>a) ?_;try simp only [Act.put,Z]
    refine tw 2 (fun _=>a) ?_;try simp only [Act.put,Z]
    refine tw 3 (fun _=>a) ?_;try simp only [Act.put,Z]
    refine tt 4 a ?_;try simp only [Act.put,Z]
    refine tw 5 (fun _=>a) ?_;try simp only [Act.put,Z]
    refine tw 6 (fun _=>a) ?_;try simp only [Act.put,Z]
    refine tw 7 (fun _=>a) ?_;try simp only [Act.put,Z]
    refine tt 8 a ?_;try simp only [Act.put,Z]
    refine tw 9 (fun _=>a) ?_;try simp only [Act.put,Z]
    refine tt 10 a ?_;try simp only [Act.put,Z]
    refine tw 11 (fun _=>a) ?_;try simp only [Act.put,Z]
    refine tw 12 (fun _=>a) ?_;try simp only [Act.put,Z]
    refine tw 13 (fun _=>a) ?_;try simp only [Act.put,Z]
    refine tw 14 (fun _=>a) ?_;try simp only [Act.put,Z]
    refine t1 15 fun K' b=>?_
    have q:=aA b
    clear b
    go_simp
    refine Calls.mono (cm.o _) ?_
    rintro e w7 ⟨rfl,rfl⟩
    refine q.o _ _ ⟨fun _ _=>a,?_⟩
    clear q K';try simp only [Act.put,Z]
    refine tw 16 (fun _=>a) ?_;try simp only [Act.put,Z]
    refine t1 17 fun K' b=>?_
    have q:=aA b
    clear b
    go_simp
    obtain ⟨nU,bv⟩:∃ x:U,x=⟨t.next,1,u.tox,z,v,cT u.tox,0,0,0,0,0⟩:=⟨_,rfl⟩
    obtain ⟨W7,am⟩:∃ W,W=(w6.alloc (.cells #[ii t.next,ii 1,.int .i64 u.tox,.int .i64 z,.int .i64 v,.int .i64 (cT u.tox),.int .i64 0,.int .i64 0,.int .i64 0,.int .i64 0,.int .i64 0] 85)).drew:=⟨_,rfl⟩
    rw [<- am]
    have aa:Fr [] w6 W7:=by rw [am];exact ((r0 _ _).alloc _).drew
    have bu:W7.heap[w6.heap.size]?=some (.cells nU.arr 85):=by rw [am,nR,bv];exact aC _ _
    have bi:=J W7 aa.of0
    clear a
    have a:=bi
    clear bi am
    refine q.o _ _ ⟨fun _ _=>a,?_⟩
    clear q K';try simp only [Act.put,Z]
    have cy:=X.o.fr0 aa
    have D:=cy.row.owns
    dsimp only at D
    rw [length_set] at D
    have bx:∀ (j:Nat) (y:Value),nU.cells[j]?=some y->W7.cell? ((⟨w6.heap.size,0,none⟩:Addr).add j)=some y:=by
     intro j y hy
     rw [Addr.add_lit,Nat.zero_add,aB bu]
     simpa using hy
    obtain ⟨di,da,df,dg,dh⟩:=info_parts iT
    have dl:=aa.size
    refine t1 18 fun K' b=>?_
    have q:=aA b
    clear b
    rw [if_pos (by rfl)]
    refine BV _ _ _ 82 rfl 0 85 di zeroU.val 11 88 Tryz.underlying82 da df dg dh rfl (by decide) (.slice (so C) t.us.length r) t.us.length _ rfl D ⟨w6.heap.size,0,none⟩ 1 1 nU.cells rfl rfl bx (by simp [Value.oneCell']) (by unfold maxLen;omega) (by omega) (Nat.zero_le _) ?_
    intro y' w8 H ad Zr
    have cw:Fr [C] W7 w8:=(r0 _ _).grow ad (fun g hg=>.inl (by simp [Value.ownBlock] at hg;simp [hg]))
    have M:Fr [C] w6 w8:=(aa.of0 (S:=[C])).trans cw (by simp)
    have bj:=J w8 M
    have bh:(t.us.set i u.idle).flatMap U.cells ++ nU.cells=(t.us.set i u.idle ++ [nU]).flatMap U.cells:=by simp
    rw [bh] at H
    obtain ⟨af,Zq,rfl,ds,ae⟩:=PRow.of_owns H (by simp) (by omega)
    have au:af=C\/af=W7.heap.size:=by simpa [Value.ownBlock] using Zr
    clear Zr
    have P:=X.o.ne
    have ac:=X.o.lt
    have cg:Hi (∀ k,k < 149->w8.cell? ⟨l,k,none⟩=some (dF { t with s1:=s - m,us:=t.us.set i u.idle } (.slice (so C) (t.us.set i u.idle).length r) k)):=fun k hk=>(M.cell _ _ ac (by simpa using P)).trans (X.o.cell k hk)
    have bb:Hi (∀ k,w8.frozen? ⟨l,k,none⟩=false):=fun k=>(M.frozen _ _ ac (by simpa using P)).trans (X.o.fz k)
    have dq:=bb.o 148
    have cp:=aA ae
    clear a
    have a:=bj
    clear bj
    refine q.o _ _ ⟨fun _ _=>a,?_⟩
    clear q K' D bx ad H ae bh J bu;try simp only [Act.put,Z]
    refine t1 19 fun K' b=>?_
    have q:=aA b
    clear b
    go_simp
    refine q.o _ _ ⟨fun _ _=>a,?_⟩
    clear q K';try simp only [Act.put,Z]
    refine t1 20 fun K' b=>?_
    have q:=aA b
    clear b
    go_simp
    refine q.o _ _ ⟨fun _ _=>a,?_⟩
    clear q K';try simp only [Act.put,Z]
    refine t1 21 fun K' b=>?_
    have q:=aA b
    clear b
    go_simp
    refine q.o _ _ ⟨fun h6=>absurd rfl h6,TwoFree.done (by kernel_rfl) ?_ _⟩
    clear q K'
    have cz:l≠af:=by
     rcases au with e|e
     ·exact fun x=>P (x.trans e)
     have:=ac;have:=aa.size;omega
    have O:=RG.relist' cg.o bb.o cp.o cz (by have aj:=HB.o;simp at aj;simp;omega)
    rw [show (t.us.set i u.idle ++ [nU]).length=t.us.length+1 by simp] at O
    obtain ⟨W9,ax⟩:∃ W,W=w8.setCell ⟨l,148,none⟩ (.slice (so af) (t.us.length+1) Zq):=⟨_,rfl⟩
    rw [<- ax] at O |-
    have cx:Fr [l] w8 W9:=by rw [ax];exact (r0 _ _).setCell _ _ (.inl (by simp))
    have db:=O.c147
    dsimp only at db
    have dr:=O.fz 147
    have dw:=ah.o.nx
    have bc:=aA O
    have de:Fr [l,C] w w8:=cf.trans M (by simp)
    have Zt:=cf.size
    clear ax O a
    go_wp2_with fail
    refine bodyPost_ret (v:=.tuple #[]) (results_none rfl _ _ _) rfl ⟨rfl,af,Zq,?_,((de.trans cx (by simp)).setCell _ _ (.inl (by simp))),au.imp id (fun x=>by omega)⟩
    rw [HR.o,HX.o,cj.o]
    dsimp only
    rw [yS ah.o HI.o _ (by rw [A.o];rfl)]
    rw [bv] at bc
    exact (bc.o.setNx (t.next+1)).of (by rw [A.o];rfl) (by rw [A.o];rfl) (by rw [A.o];rfl) (by rw [HS.o,av.o,A.o];rfl) (by rw [A.o];rfl) (by rw [A.o];rfl)
   have bt:¬ (n:Int) < 4:=by omega
   have co:Hi (n=4):=by show _=_;omega
   have HE:Hi (R=t):=by
    refine Y.o ?_
    rw [HX.o]
    have:(aG u.x u.y).find? (fun c=>cH t.us t.bd c)=none:=by
     rw [find?_eq_none]
     intro c F
     have:=ag.o c (by rw [co.o,oH];exact F)
     simp [this]
    rw [this]
   go_wp2_with fail
   exact bodyPost_end (v:=.tuple #[]) (results_none rfl _ _ _) rfl ⟨rfl,by rw [HE.o];exact RStep.same HH.o (aq.then0 ab)⟩
  have HE:Hi (R=t):=by
   refine Y.o ?_
   have cu:=HB.o
   simp at cu
   unfold cX
   rw [HS.o,av.o]
   by_cases a1:s < m
   ·rw [if_pos a1]
   by_cases a2:100<=t.us.length
   ·rw [if_neg a1,if_pos a2]
   rw [if_neg a1,if_neg a2,if_pos (by omega)]
  go_wp2_with fail
  exact bodyPost_ret (v:=.tuple #[]) (results_none rfl _ _ _) rfl ⟨rfl,by rw [HE.o];exact RStep.same HH.o aq⟩
theorem uA:lT:=by
 intro c d b t i u w h hi a _ hw
 rcases (a.all u (mem_of_getElem? hi)).ow with e|e
 ·exact PZ c d b t i u w h hi a hw e
 exact QA c d b t i u w h hi a hw e
