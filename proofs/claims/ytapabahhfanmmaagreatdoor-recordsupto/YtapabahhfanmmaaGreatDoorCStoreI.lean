import Derived.Test.YtapabahhfanmmaaGreatDoorCStoreH
import Derived.Test.YtapabahhfanmmaaGreatDoorCPlayT
import Derived.Test.YtapabahhfanmmaaGreatDoorCNewY
import Derived.Shelf.SlIter.Nil
import Derived.Shelf.SortM.Plain
import Derived.Shelf.SortM.SortNone
import Derived.Ground.GgzProg
import Derived.Ground.SlgmProg
import Derived.Test.YtapabahhfanmmaaGreatDoorProg
import Derived.Test.YtapabahhfanmmaaGreatDoorCDskS
namespace Go.Proofs.YtapabahhfanmmaaGreatDoor
open Go.RowKit List
set_option maxRecDepth 100000
set_option maxHeartbeats 4000000
set_option maxRecDepth 100000
abbrev gl (t:T)(b a:Nat):List Value:=aQ t (.slice (so b) t.us.length a)
structure RS (w:World) (rb pb cap:Nat) (S:List Nat) (t:T) (mv stv:Value) (g:Gf) (steps:List Stp):Prop where
 bl:SB w rb (gl t pb cap) 97 mv stv
 sve:SVE fS w mv stv S g steps
 row:PRow w pb cap t.us
 nrb:rb∉S
 npb:pb∉S
 np:pb≠rb
 len:t.us.length<=1000
 ne:0 < t.us.length
 z:0 < rb/\0 < pb
theorem RS.lt {w:World}{d f b:Nat}{S:List Nat}{t:T}{e c:Value}{g:Gf}{a:List Stp}(h:RS w d f b S t e c g a):d < w.heap.size:=h.bl.lt
theorem RS.fr {S':List Nat}{w k:World}{i f c:Nat}{S:List Nat}{t:T}{j d:Value}{g:Gf}{a:List Stp}(h:RS w i f c S t j d g a)(e:Fr S' w k)(h1:i∉S')(l:f∉S')(m:∀ b∈S,b∉S'):RS k i f c S t j d g a :=
  { h with bl:=h.bl.fr e h1,sve:=h.sve.fr e m,row:=h.row.fr e l }
theorem RS.fr0 {w i:World}{f e b:Nat}{S:List Nat}{t:T}{d c:Value}{g:Gf}{a:List Stp}(h:RS w f e b S t d c g a)(j:Fr [] w i):RS i f e b S t d c g a:=h.fr j (by simp) (by simp) (by simp)
theorem RS.all {w:World}{f c a:Nat}{S:List Nat}{t:T}{k d:Value}{g:Gf}{b:List Stp}(h:RS w f c a S t k d g b):w.rangeAt f 0 (gl t c a):=by
 intro j v e
 have i:j < (gl t c a).length:=(gs.1 e).1
 rw [Nat.zero_add,aB h.bl]
 simp only [getElem?_toArray]
 rw [getElem?_append_left i]
 exact e
theorem jZ (a:Nat)(w:World) :
  Cs 36 #[.pointer (so a)] w fun e b=>e=.returned (.pointer (so a))/\w=b:=by
 go_enter Tryz.func36,Tryz.ntmps36
 go_wp2
 go_ret
 exact ⟨rfl,rfl⟩
theorem oT {f o b:Nat}{S:List Nat}{t:T}{n d:Value}{g:Gf}{a:List Stp}(w:World)(h:RS w f o b S t n d g a)(c:a.length<=10000000)(k:0 < a.length) :
  Cs 13 #[.pointer (so f)] w fun e p=>∃ i,e=.returned i/\p.ownsRow w.heap.size 113 4 i a.length (a.flatMap Stp.cells)/\Fr [] w p:=by
 have m:=TF f (gl t o b) 97 n d a w h.bl h.sve.st c k
 rw [fC] at m
 clear h
 go_enter Tryz.func13,Tryz.ntmps13
 go_wp2_with (go_at_call 36;refine (jZ f _).mono ?_;rintro e q ⟨rfl,rfl⟩)
 refine Calls.mono m ?_
 rintro e q ⟨i,rfl,l,j⟩
 go_wp2_with fail
 go_ret
 exact ⟨i,rfl,l,j⟩
theorem zA {j q c:Nat}{S:List Nat}{t:T}{E r:Value}{g:Gf}{d:List Stp}(w:World)(h:RS w j q c S t E r g d) :
  Cs 14 #[.pointer (so j)] w fun e y=>∃ n,e=.returned (.pointer (so n))/\w.heap.size<=n/\GS y n q c t/\Fr [] w y:=by
 have b:=h.all
 obtain ⟨gs,a⟩:∃ x,x=gl t q c:=⟨_,rfl⟩
 rw [<- a] at b
 have i:gs.length=149:=by rw [a];exact fC _ _
 have A:Hi ((Tryz.prog.info? 90).map (·.size)=some gs.length):=by
  show _=_
  rw [dE,i]
 have l:Hi (Tryz.prog.built 100 [(0,.agg gs.toArray)]=some gs.toArray):=EI _ (by simp [i])
 have m:=aA a
 have B:=aA h.row
 have f:=h.len
 have p:=h.ne
 have D:=h.row.lt
 have hz:=h.z
 clear a h
 go_enter Tryz.func14,Tryz.ntmps14
 go_wp2_with (first|(go_at_call 36;refine (jZ j _).mono ?_;rintro e F ⟨rfl,rfl⟩)|(refine wpList_load_mid rfl 90 _ rfl j 0 rfl gs _ b Tryz.underlying90 rfl A.o ?_)|(refine BU rfl 100 0 (.tmp 7) rfl (.agg gs.toArray) rfl gs.toArray l.o ?_))
 have s:Fr [] w (w.alloc (.cells gs.toArray 100)):=(r0 _ _).alloc _
 have u:(w.alloc (.cells gs.toArray 100)).heap[w.heap.size]?=some (.cells gs.toArray 100):=aC _ _
 refine bodyPost_ret (v:=.pointer (so w.heap.size)) (by simp [results,Tryz.results14,go_sem]) rfl ⟨w.heap.size,rfl,Nat.le_refl _,⟨fun k C=>?_,fun k=>bI u,PRow.fr B.o s (by simp),f,p,by omega,by omega,by omega⟩,s⟩
 rw [aB u,m.o]
 simp only [getElem?_toArray]
 unfold gl aQ
 rw [getElem?_map,getElem?_range C]
 rfl
structure RPost (w:World) (rb:Nat) (S:List Nat) (t:T) (g:Gf) (steps:List Stp) (w':World) (pb cap:Nat) (mv stv:Value) (S':List Nat):Prop where
 rs:RS w' rb pb cap S' t mv stv g steps
 fr:Fr (rb :: S) w w'
 old:∀ b∈S',b∈S\/w.heap.size<=b
theorem RS.post {w n:World}{j i c:Nat}{S S':List Nat}{t:T}{p l f b:Value}{g m:Gf}{d a:List Stp}(h:RS w j i c S t p l g d)(k:SPost w j (gl t i c) 97 S fS m a n f b S'):RPost w j S t m a n i c f b S':=by
 have o:=h.row.lt
 refine ⟨⟨k.bl,k.sve,h.row.fr k.fr ?_,k.nsb,fun hm=>?_,h.np,h.len,h.ne,h.z⟩,k.fr,k.old⟩
 ·intro hm
  rcases mem_cons.1 hm with e|e
  ·exact h.np e
  exact h.npb e
 rcases k.old i hm with e|e
 ·exact h.npb e
 omega
theorem PK {d m c:Nat}{S:List Nat}{t:T}{l q:Value}{g:Gf}{b:List Stp}(w:World)(h:RS w d m c S t l q g b)(p:b.length<=10000000) :
  Cs 19 #[.pointer (so d)] w fun e f=>e=.returned (.int .i64 t.turn)/\∃ a S',RPost w d S t g (b ++ [dB LOG]) f m c l a S':=by
 have r:=BE d (gl t m c) 97 fS l q S g b LOG w h.bl h.sve h.nrb p
 rw [fC] at r
 have n:Hi (∀ f a S',SPost w d (gl t m c) 97 S fS g (b ++ [dB LOG]) f l a S'->RPost w d S t g (b ++ [dB LOG]) f m c l a S'):=fun f a S' k=>h.post k
 have v:Hi (∀ f a S',SPost w d (gl t m c) 97 S fS g (b ++ [dB LOG]) f l a S'->f.cell? ⟨d,0,none⟩=some (ii t.turn)):=fun f a S' k=>by
  have:=(h.post k).rs.all 0 (ii t.turn) (by simp [gl,aQ,aN])
  exact this
 obtain ⟨A,j⟩:∃ x:ByteArray,x=⟨LOG.toArray⟩:=⟨_,rfl⟩
 have i:A=⟨#[108,111,103]⟩:=j
 rw [sv,<- j,i] at r
 clear h j i
 go_enter Tryz.func19,Tryz.ntmps19
 go_wp2_with (go_at_call 36;refine (jZ d _).mono ?_;rintro e u ⟨rfl,rfl⟩)
 refine Calls.mono r ?_
 rintro e u ⟨rfl,a,S',s⟩
 have B:=v.o u a S' s
 have y:=n.o u a S' s
 clear r s v n
 have z:=aA y
 clear y
 go_wp2_with fail
 go_ret
 exact ⟨rfl,a,S',z.o⟩
theorem yZ {f D l:Nat}{S:List Nat}{t:T}{mv N:Value}{g:Gf}{a:List Stp}(w:World)(h:RS w f D l S t mv N g a)(J:a.length<=9999990)(h2:(g bO).isSome=true->g iP=none)(hb:∀ x∈cB t,0<=x/\x<=1000000000)(hl:t.us.length<=100)(aa:(bH t).length<=40000) :
  Cs 20 #[.pointer (so f)] w fun e d=>e=.returned (.tuple #[])/\∃ E m c S',RPost w f S t (fun k=>if k=cZ g then none else if k=LOG then some (E,bU 2 (bH t)) else g k) (a ++ [dA (cZ g) (bU 2 (bH t)),dB (cZ g),eV (cZ g) LOG]) d D l m c S':=by
 have z:Hi (∀ d,Fr [] w d->Cs 38 #[.agg (gl t D l).toArray] d fun e n=>e=.returned (.string ⟨(bH t).toArray⟩)/\Fr [] d n):=fun d C=>BH D l t d (h.row.fr C (by simp)) hb hl
 have u:Hi (∀ d,Cs 44 #[.int .u8 2,.string ⟨(bH t).toArray⟩] d fun e n=>e=.returned (.string ⟨(bU 2 (bH t)).toArray⟩)/\Fr [] d n):=fun d=>vN 2 (bH t) d (by omega)
 have I:(bU 2 (bH t)).length<=1000000000:=by
  have:=iL 5 (bH t).length (by omega) (by omega)
  unfold bU fG
  rw [length_append,qI,length_append,length_append]
  simp
  omega
 obtain ⟨gs,p⟩:∃ x,x=gl t D l:=⟨_,rfl⟩
 have M:gs.length=149:=by rw [p];exact fC _ _
 obtain ⟨L,X⟩:∃ L,L=bH t:=⟨_,rfl⟩
 obtain ⟨O,B⟩:∃ F,F=bU 2 (bH t):=⟨_,rfl⟩
 have Q:Hi (∀ d,Fr [] w d->Cs 46 #[.pointer (some ⟨f,149,none⟩),.string ⟨#[108,111,103]⟩,.string ⟨O.toArray⟩] d fun e n=>e=.returned (.tuple #[])/\∃ E m c S',RPost w f S t (fun k=>if k=cZ g then none else if k=LOG then some (E,O) else g k) (a ++ [dA (cZ g) O,dB (cZ g),eV (cZ g) LOG]) n D l m c S'/\n.rangeAt f 0 gs):=fun d C=>by
  have P:=h.fr0 C
  have Y:=QU f (gl t D l) 97 mv N S g a O d P.bl P.sve P.nrb h2 J (by rw [B];exact I)
  rw [fC] at Y
  refine Calls.mono Y ?_
  rintro e w2 ⟨rfl,E,m,c,S',hp⟩
  have H:=P.post hp
  exact ⟨rfl,E,m,c,S',⟨H.rs,(C.of0 (S:=f :: S)).trans H.fr (fun b hb=>.inl hb),fun b hb=>(H.old b hb).imp_right (fun e=>Nat.le_trans C.size e)⟩,by rw [p];exact H.rs.all⟩
 have q:=h.all
 rw [<- p] at q z
 rw [<- B] at u |-
 rw [<- X] at z u
 have HI:Hi ((Tryz.prog.info? 90).map (·.size)=some gs.length):=by
  show _=_
  rw [dE,M]
 clear p M h X hb B I
 have y:∀ d,Fr [] w d->d.rangeAt f 0 gs:=fun d C j v hv=>by
  have h1:=q j v hv
  exact (C.cell _ _ (aI h1) (by simp)).trans h1
 have R:Fr [] w w.drew:=(r0 _ _).drew
 have A:=y _ R
 go_enter Tryz.func20,Tryz.ntmps20
 go_wp2_with (go_at_call 36;refine (jZ f _).mono ?_;rintro e w1 ⟨rfl,rfl⟩)
 refine wp_region_held (S:=fun d=>d.rangeAt f 0 gs) (by kernel_rfl) ?_
 refine ty 0 (.pointer (so f)) rfl (fun w0 _=>by go_simp) A ?_
 simp only [Act.put]
 refine ty 1 (.pointer (so f)) rfl (fun w0 _=>by go_simp) A ?_
 simp only [Act.put]
 refine ty 2 (.pointer (some ⟨f,149,none⟩)) rfl (fun w0 _=>by go_simp) A ?_
 simp only [Act.put]
 refine ty 3 (.pointer (so f)) rfl (fun w0 _=>by go_simp) A ?_
 simp only [Act.put]
 refine ty 4 (.pointer (so f)) rfl (fun w0 _=>by go_simp) A ?_
 simp only [Act.put]
 refine ty 5 (.pointer (so f)) rfl (fun w0 _=>by go_simp) A ?_
 simp only [Act.put]
 refine wpAnyH_take (i:=6) (oi:=_) (v:=.agg gs.toArray) rfl (by kernel_rfl) (by kernel_rfl) (by kernel_rfl) (fun _ _ _ h=>h) (yieldsIf_load_mid (by kernel_rfl) 90 (.tmp 9) rfl f 0 rfl gs _ (fun _ h=>h) Tryz.underlying90 rfl HI.o) A ?_
 simp only [Act.put]
 refine wpAnyH_ready (rs:=[7]) (by kernel_rfl) (by simp) ?_
 refine AllReadyH.cons rfl (fun K hK=>?_) AllReadyH.nil
 rw [if_pos (by rfl)]
 go_wp2_with (go_at_call 38;refine Calls.mono (z.o _ R) ?_;rintro e w1 ⟨rfl,V⟩)
 have r:=R.then0 V
 refine hK.out _ _ (y _ r) (fun _=>?_)
 clear hK
 refine wpAnyH_ready (rs:=[8]) (by kernel_rfl) (by simp) ?_
 refine AllReadyH.cons rfl (fun K hK=>?_) AllReadyH.nil
 rw [if_pos (by rfl)]
 go_wp2_with (go_at_call 44;refine Calls.mono (u.o _) ?_;rintro e w2 ⟨rfl,W⟩)
 have s:=r.then0 W
 refine hK.out _ _ (y _ s) (fun _=>?_)
 clear hK
 refine wpAnyH_ready (rs:=[9]) (by kernel_rfl) (by simp) ?_
 refine AllReadyH.cons rfl (fun K hK=>?_) AllReadyH.nil
 rw [if_pos (by rfl)]
 go_wp2_with (go_at_call 46;refine Calls.mono (Q.o _ s) ?_;rintro e w3 ⟨rfl,E,m,c,S',H,hA⟩)
 refine hK.out _ _ hA (fun _=>?_)
 clear hK
 refine wpAnyH_done (by kernel_rfl) ?_ _
 exact bodyPost_end (v:=.tuple #[]) (results_none rfl _ _ _) rfl ⟨rfl,E,m,c,S',H⟩
abbrev Tn:=List Cm×List Cm
def eD (t:T)(p:Tn):T:=(aM t (p.1.map aE) (p.2.map aE)).1
def eW (t:T)(p:Tn):List UInt8:=bU 1 (cV t.turn p.1 p.2)
structure GG (t:T):Prop where
 ok:fI t
 os:OS t
 t0:0<=t.turn
theorem GG.play {t:T}(h:GG t)(p:Tn)(ht:t.turn < 1000000000):GG (eD t p)/\(eD t p).turn=t.turn+1:=by
 have k:=oR h.ok (p.1.map aE) (p.2.map aE) ht
 have a:(eD t p).turn=t.turn+1:=k.tn
 exact ⟨⟨k.ok,yO h.ok h.os _ _,by have:=h.t0;omega⟩,a⟩
theorem pI {t:T}(h:GG t)(ht:t.turn<=1000000000):(bH t).length<=20000:=by
 have:=gV (cB t) (fun n hn=>(mP h.ok h.os ⟨h.t0,ht⟩ n hn).2)
 have hl:=h.ok.len
 dsimp only at hl
 rw [oK] at this
 unfold bH
 omega
theorem zZ {b:Nat}{ty:TypeId}{fz:Nat×Nat}:∀ (a:List Value) (o:Nat) (w:World) (cs:List Value),w.heap[b]?=some (.cells cs.toArray ty fz)->o+a.length<=cs.length->(w.setCells b o a).heap[b]?=some (.cells (cs.take o ++ a ++ cs.drop (o+a.length)).toArray ty fz)
 | [],o,w,cs,h,_=>by
  show w.heap[b]?=_
  rw [h]
  simp
 | v :: a,o,w,cs,h,hl=>by
  have g:o+(a.length+1)<=cs.length:=hl
  have h1:=iN (o:=o) h v
  have e:cs.toArray.setIfInBounds o v=(cs.take o ++ v :: cs.drop (o+1)).toArray:=by
   rw [setIfInBounds_toArray,set_eq_take_append_cons_drop,if_pos (by omega)]
  rw [e] at h1
  have i:=zZ a (o+1) _ _ h1 (by simp;omega)
  show ((w.setCell ⟨b,o,none⟩ v).setCells b (o+1) a).heap[b]?=_
  rw [i]
  congr 3
  have c:(cs.take o).length=o:=by rw [length_take];omega
  have d:(cs.take o ++ v :: cs.drop (o+1)).take (o+1)=cs.take o ++ [v]:=by
   rw [take_append,c,take_of_length_le (by omega),show o+1 - o=1 by omega]
   rfl
  have f:(cs.take o ++ v :: cs.drop (o+1)).drop (o+1+a.length)=cs.drop (o+(a.length+1)):=by
   rw [drop_append,c,drop_of_length_le (by omega),show o+1+a.length - o=a.length+1 by omega,nil_append,drop_succ_cons,drop_drop]
   congr 1
   omega
  rw [d,f]
  simp
theorem IR {t:T}(h:fI t):0 < t.us.length:=by
 have:=h.bs
 dsimp only at this
 rcases Nat.eq_zero_or_pos t.us.length with e|e
 ·rw [length_eq_zero_iff] at e
  rw [e] at this
  simp at this
 exact e
theorem PH {f pb I:Nat}{S:List Nat}{t:T}{mv A:Value}{g:Gf}{c:List Stp}(w:World)(a l2:List Cm)(bs bt:Value)(h:RS w f pb I S t mv A g c)(bp:Sd w)(L:GG t)(ht:t.turn < 1000000000)(h1:CmdV w bs a)(h2:CmdV w bt l2)(bq:a.length+l2.length<=8000)(cp:(cV t.turn a l2).length<=40000)(bm:c.length<=10000000)(cr:(bR g LOG).length<=99000000000000) :
  Cs 17 #[.pointer (so f),bs,bt] w fun e d=>∃ v,e=.returned (.tuple #[v,.int .i64 0])/\RefsA d w.heap.size v (aM t (a.map aE) (l2.map aE)).2.1 (aM t (a.map aE) (l2.map aE)).2.2/\∃ v' l p P r S',(l=pb\/w.heap.size<=l)/\RPost w f S (eD t (a,l2)) (fun k=>if k=LOG then some (v',bR g LOG ++ eW t (a,l2)) else g k) (c ++ [dA LOG (eW t (a,l2))]) d l p P r S'/\∃ wm,RefsA wm w.heap.size v (aM t (a.map aE) (l2.map aE)).2.1 (aM t (a.map aE) (l2.map aE)).2.2/\PRow wm l p (eD t (a,l2)).us/\w.heap.size<=wm.heap.size/\(∀ b∈S',b∈S\/wm.heap.size<=b)/\Fr (f :: S) wm d:=by
 have bi:t.turn<=1000000000:=by omega
 have cs:(eW t (a,l2)).length<=41000:=by
  have h2:=mF 1 (cV t.turn a l2) (by omega)
  show (bU 1 (cV t.turn a l2)).length<=41000
  omega
 have B:=h.all
 have c0:w.cell? ⟨f,0,none⟩=some (ii t.turn):=B 0 _ (by simp [gl,aQ,aN])
 obtain ⟨ce,cm,rfl⟩:=h1.shape
 obtain ⟨cf,cn,rfl⟩:=h2.shape
 have ak:Hi (Cs 41 #[.agg #[ii t.turn,.slice ce a.length cm,.slice cf l2.length cn]] w fun e d=>e=.returned (.tuple #[.string ⟨(cV t.turn a l2).toArray⟩,.bool true])/\Fr [] w d):=by
  have h:=BI t.turn _ _ a l2 w ⟨L.t0,bi⟩ h1 h2 bq
  exact h.mono (by
   rintro e d ⟨⟨_,h1⟩|⟨h1,_⟩,D⟩
   ·exact ⟨h1,D⟩
   omega)
 have Y:Hi (∀ d,Fr [] w d->Cs 42 #[.agg (gl t pb I).toArray,.string ⟨(cV t.turn a l2).toArray⟩] d fun e n=>∃ v l p,e=.returned (.tuple #[.agg (gl (eD t (a,l2)) l p).toArray,v,.bool true])/\Fr [] d n/\PRow n l p (eD t (a,l2)).us/\(l=pb\/d.heap.size<=l)/\RefsA n d.heap.size v (aM t (a.map aE) (l2.map aE)).2.1 (aM t (a.map aE) (l2.map aE)).2.2):=fun d D=>OJ pb I t (a.map aE) (l2.map aE) _ d (bp.fr0 D) L.ok (h.row.fr D (by simp)) ⟨L.t0,ht⟩ (PC t.turn a l2 ⟨L.t0,bi⟩ (by omega) (by omega)) (by omega) (by simp;omega) (by simp;omega)
 have Q:Hi (∀ d,Cs 44 #[.int .u8 1,.string ⟨(cV t.turn a l2).toArray⟩] d fun e n=>e=.returned (.string ⟨(eW t (a,l2)).toArray⟩)/\Fr [] d n):=fun d=>vN 1 (cV t.turn a l2) d (by omega)
 have cw:¬ (1000000000:Int)<=t.turn:=by omega
 obtain ⟨gs,af⟩:∃ x,x=gl t pb I:=⟨_,rfl⟩
 have ag:gs.length=149:=by rw [af];exact fC _ _
 have HI:Hi ((Tryz.prog.info? 90).map (·.size)=some gs.length):=by
  show _=_
  rw [dE,ag]
 rw [<- af] at Y B
 obtain ⟨TB,bh⟩:∃ x,x=cV t.turn a l2:=⟨_,rfl⟩
 rw [<- bh] at ak Y Q
 obtain ⟨FB,an⟩:∃ x,x=eW t (a,l2):=⟨_,rfl⟩
 rw [<- an] at Q |-
 have ax:Hi (∀ d,Fr [] w d->d.rangeAt f 0 gs):=fun d D j v hv=>by
  have h1:=B j v hv
  exact (D.cell _ _ (aI h1) (by simp)).trans h1
 have C:=aA h
 have au:=aA af
 have bv:=aA an
 clear h1 h2 bh bp af an
 go_enter Tryz.func17,Tryz.ntmps17
 go_wp2_with (first|(go_at_call 36;refine (jZ f _).mono ?_;rintro e w1 ⟨rfl,rfl⟩))
 refine Calls.mono ak.o ?_
 rintro e w1 ⟨rfl,J⟩
 have bk:=ax.o w1 J
 clear B c0 ak h ax
 go_wp2_with (refine wpList_load_mid rfl 90 _ rfl f 0 rfl gs _ bk Tryz.underlying90 rfl HI.o ?_)
 refine Calls.mono (Y.o _ J) ?_
 rintro e w2 ⟨v2,m,i,rfl,bj,O,q,ck⟩
 obtain ⟨s,M⟩:∃ x,x=gl (eD t (a,l2)) m i:=⟨_,rfl⟩
 have N:s.length=149:=by rw [M];exact fC _ _
 have X:Hi (s.toArray.all (·.oneCell')=true):=by
  show _=_
  rw [M];exact jS _ _ _ _
 have bz:Hi (∀ u∈s,u.oneCell'=true):=fun u hu=>by
  have:=X.o
  rw [Array.all_eq_true'] at this
  exact this u (by simpa using hu)
 have R:Hi ((Tryz.prog.info? 90).map (·.size)=some s.toArray.size):=by
  show _=_
  rw [dE,size_toArray,N]
 have bx:Hi ((Tryz.prog.info? 90).map (·.size)=some s.length):=by
  show _=_
  rw [dE,N]
 have bb:Hi (Tryz.zeroCells90.size=s.toArray.size):=by
  show _=_
  exact zcGame.trans (by simp [N])
 have Zr:=aA M
 rw [<- M]
 have V:=aA N
 obtain ⟨E,x0,x1,br,ai⟩:=ck
 have aw:Hi (RefsA w2 w1.heap.size v2 (aM t (a.map aE) (l2.map aE)).2.1 (aM t (a.map aE) (l2.map aE)).2.2):=⟨E,x0,x1,br,ai⟩
 subst br
 have ah:=aA O
 clear M ai O bk N Y
 obtain ⟨H,ac⟩:∃ W,W=(w2.alloc (.cells Tryz.zeroCells90 90)).setRow w2.heap.size s.toArray:=⟨_,rfl⟩
 have ae:Fr [] w2 H:=by rw [ac];exact ((r0 _ _).alloc _).setRow _ _ (.inr (Nat.le_refl _))
 have av:Hi (H.heap[w2.heap.size]?=some (.cells s.toArray 90)):=by show _=_;rw [ac];exact setRow_heap _ _ _ _ _ _ (aC _ _)
 have am:Fr [] w H:=(J.then0 bj).then0 ae
 have ao:RS H f pb I S t mv A g c:=RS.fr0 C.o am
 have aa:H.heap[f]?=some (.cells (gs ++ [mv,A]).toArray 97):=by
  have:=ao.bl
  unfold SB at this
  rwa [<- au.o] at this
 have ay:Hi (H.there f 0 s.toArray.size):=fun j hj=>by
  have ct:j < 149:=by rw [size_toArray,V.o] at hj;exact hj
  refine ⟨?_,bI aa⟩
  rw [aB aa,Nat.zero_add,Array.getElem?_eq_getElem (by simp;omega)]
  rfl
 obtain ⟨y,ad⟩:∃ W,W=H.setCells f 0 s:=⟨_,rfl⟩
 have K:Fr [f] H y:=by rw [ad];exact qR f s 0 H (r0 _ _) (.inl (by simp))
 have bc:y.heap[f]?=some (.cells (s ++ [mv,A]).toArray 97):=by
  rw [ad,zZ s 0 H (gs ++ [mv,A]) aa (by rw [length_append,ag,V.o];omega)]
  rw [take_zero,nil_append,Nat.zero_add,V.o,drop_append,ag,Nat.sub_self,drop_zero,drop_of_length_le (by omega),nil_append]
 have bo:=(show RS _ _ _ _ _ _ _ _ _ _ from C.o).row.lt
 have aj:=(show RS _ _ _ _ _ _ _ _ _ _ from C.o).lt
 have aq:=(show RS _ _ _ _ _ _ _ _ _ _ from C.o).sve.lt
 have ar:=J.size
 have ap:RS y f m i S (eD t (a,l2)) mv A g c:=by
  have h0:=(show RS _ _ _ _ _ _ _ _ _ _ from C.o)
  have hk:=oR L.ok (a.map aE) (l2.map aE) ht
  have cu:(eD t (a,l2)).us.length<=100:=hk.ok.len
  have cj:0 < (eD t (a,l2)).us.length:=IR hk.ok
  have bn:m≠f:=by
   rcases q with e|e
   ·rw [e];exact h0.np
   omega
  refine ⟨?_,ao.sve.fr K (fun b hb e=>h0.nrb ((show b=f by simpa using e) ▸ hb)),(ah.o.fr ae (by simp)).fr K (by simpa using bn),h0.nrb,fun hm=>?_,bn,by omega,cj,h0.z.1,?_⟩
  ·show y.heap[f]?=_
   rw [bc,Zr.o]
  ·rcases q with e|e
   ·rw [e] at hm;exact h0.npb hm
   have:=aq _ hm;omega
  rcases q with e|e
  ·rw [e];exact h0.z.2
  omega
 have ab:Fr (f :: S) w y:=(am.of0 (S:=f :: S)).trans K (by simp)
 have F:Hi (RefsA y w.heap.size (.slice (so E) 2 2) (aM t (a.map aE) (l2.map aE)).2.1 (aM t (a.map aE) (l2.map aE)).2.2):=by
  have h1:RefsA H w1.heap.size (.slice (so E) 2 2) (aM t (a.map aE) (l2.map aE)).2.1 (aM t (a.map aE) (l2.map aE)).2.2:=RefsA.fr aw.o ae (by simp)
  exact (h1.fr K (fun x hx=>by
   have:x=f:=by simpa using hx
   omega)).low ar
 have Zq:Hi (∀ d,Fr [] y d->Cs 43 #[.pointer (some ⟨f,149,none⟩),.string ⟨#[108,111,103]⟩,.string ⟨FB.toArray⟩] d fun e n=>e=.returned (.tuple #[])/\RefsA n w.heap.size (.slice (so E) 2 2) (aM t (a.map aE) (l2.map aE)).2.1 (aM t (a.map aE) (l2.map aE)).2.2/\∃ v' P r S',RPost w f S (eD t (a,l2)) (fun k=>if k=LOG then some (v',bR g LOG ++ FB) else g k) (c ++ [dA LOG FB]) n m i P r S'/\(∀ b∈S',b∈S\/y.heap.size<=b)/\Fr (f :: S) y n):=fun d D=>by
  have hR:=ap.fr0 D
  have hk:=tI f (gl (eD t (a,l2)) m i) 97 fS mv A S g c LOG FB d hR.bl hR.sve hR.nrb (by simp) bm (by have:=bv.o;rw [this];omega)
  rw [fC] at hk
  refine Calls.mono hk ?_
  rintro e w2 ⟨rfl,v',P,r,S',hp⟩
  have hP:=hR.post hp
  have cq:=ab.size
  refine ⟨rfl,?_,v',P,r,S',⟨hP.rs,(ab.then0 D).trans hP.fr (fun b hb=>.inl hb),fun b hb=>(hP.old b hb).imp_right (fun e=>by have:=D.size;omega)⟩,fun b hb=>(hP.old b hb).imp_right (fun e=>Nat.le_trans D.size e),(D.of0).trans hP.fr (fun b hb=>.inl hb)⟩
  have h1:RefsA d w.heap.size _ _ _:=RefsA.fr F.o D (by simp)
  exact h1.fr hP.fr (fun x hx=>by
   rcases mem_cons.1 hx with rfl|hx
   ·exact aj
   exact aq x hx)
 have cc:Hi (m=pb\/w.heap.size<=m):=q.imp_right (fun e=>Nat.le_trans ar e)
 have al:Hi (RefsA y w.heap.size (.slice (so E) 2 2) (aM t (a.map aE) (l2.map aE)).2.1 (aM t (a.map aE) (l2.map aE)).2.2/\PRow y m i (eD t (a,l2)).us/\w.heap.size<=y.heap.size):=⟨F.o,ap.row,ab.size⟩
 have az:=aA ac
 have ba:=aA ad
 clear ac ad aa bc ao ap J bj ae K am ab q bo aj aq ar ag
 go_wp2_with (first|(refine wpList_store_row rfl 90 _ _ rfl w2.heap.size s.toArray rfl rfl 90 Tryz.zeroCells90 (aC w2 _) R.o bb.o X.o ?_;rw [<- az.o])|(refine wpList_load_row rfl 90 _ rfl w2.heap.size rfl 90 s.toArray (0,0) _ av.o Tryz.underlying90 rfl R.o ?_)|(refine wpList_store_mid rfl 90 _ _ rfl f 0 s.toArray rfl rfl ay.o R.o X.o ?_;rw [toList_toArray,<- ba.o]))
 simp only [Act.put]
 have cg:Fr [] y y.drew:=(r0 _ _).drew
 clear az ba ay R X bz bx bb av aw F ah V HI C Zr au
 go_region_held (fun _:World=>True)
  (exact trivial)
  (first|(go_at_call 44;refine Calls.mono (Q.o _) ?_;rintro e w5 ⟨rfl,ch⟩)|(go_at_call 43;refine Calls.mono (Zq.o _ (cg.then0 ch)) ?_;rintro e w6 ⟨rfl,bg,v6,co,bu,S6,bf,be,bd⟩))
 all_goals
  have cb:=aA bf
  have cd:=aA bg
  have Zs:=aA be
  have bw:=aA bd
  clear bf bg Zq Q be bd
  go_wp2_with fail
  exact bodyPost_ret (v:=.tuple #[.slice (so E) 2 2,.int .i64 0]) (by simp [results,Tryz.results17,go_sem]) rfl ⟨_,rfl,cd.o,v6,m,i,co,bu,S6,cc.o,cb.o,y,al.o.1,al.o.2.1,al.o.2.2,Zs.o,bw.o⟩
def pN (P:Program)(t:TypeId)(m:Nat):Option (Option (Nat×List Value)):=(P.info? t).map (fun i=>i.zero.map (fun z=>(z.cells.size,z.cells.toList.drop m)))
theorem uC (t:TypeId)(a:List (Nat×Nat))(n m:Nat)(e:List Value)(f:iH Tryz.prog t=some a)(hz:pN Tryz.prog t m=some (some (n,e)))(c:List (Nat×Value))(b:Array Value)(h:∀ z:Array Value,z.size=n->z.toList.drop m=e->Instr.fill (a.toArray[·]?) z c=some b):Tryz.prog.built t c=some b:=by
 unfold Program.built
 unfold iH at f
 unfold pN at hz
 cases hi:Tryz.prog.info? t with
 | none=>rw [hi] at hz;simp at hz
 | some it =>
  rw [hi] at hz
  cases g:it.zero with
  | none=>simp [g] at hz
  | some z =>
   simp only [g,Option.map_some,Option.some.injEq,Prod.mk.injEq] at hz
   cases i:Tryz.prog.underlying t with
   | none=>rw [i] at f;simp at f
   | some d =>
    rw [i] at f
    cases d <;> try (simp at f;done)
    dsimp only at f |-
    rw [g,f]
    exact h z.cells hz.1 hz.2
theorem PG:iH Tryz.prog 97=some [(0,149),(149,2)]:=by kernel_rfl
theorem PL:pN Tryz.prog 97 149=some (some (151,[.map none,.slice none 0 0])):=by kernel_rfl
theorem EG (gs:List Value)(a:gs.length=149):Tryz.prog.built 97 [(0,.agg gs.toArray)]=some (gs ++ [Value.map none,Value.slice none 0 0]).toArray:=by
 refine uC _ _ _ _ _ PG PL _ _ (fun z hz ht=>?_)
 rw [jB _ _ _ _ _ 0 149 rfl (by show gs.toArray.size=149;simp [a]) (by omega)]
 show some _=_
 congr 2
 show z.toList.take 0 ++ gs.toArray.toList ++ z.toList.drop (0+149)=_
 rw [Nat.zero_add,ht,take_zero,nil_append,toList_toArray]
theorem PF (L:ByteArray)(d:T)(m:GG d)(ae:d.us.length=2)(ad:d.turn=0)(p:Hi (∀ w:World,Cs 35 #[.string L] w fun e C=>∃ j a,e=.returned (.tuple #[.agg (gl d j a).toArray,.bool true])/\PRow C j a d.us/\w.heap.size<=j/\Fr [] w C))(w:World)(hw:0 < w.heap.size) :
  Cs 11 #[.string L] w fun e C=>∃ M j a S mv N B,e=.returned (.tuple #[.pointer (so M),.int .i64 0])/\RS C M j a S d mv N (fun k=>if k=LOG then some (B,bU 2 (bH d)) else none) [dA bO (bU 2 (bH d)),dB bO,eV bO LOG]/\w.heap.size<=M/\w.heap.size<=j/\(∀ b∈S,w.heap.size<=b)/\Fr [] w C:=by
 have ac:=pI m (by omega)
 go_enter Tryz.func11,Tryz.ntmps11
 go_wp2_with fail
 refine Calls.mono (p.o _) ?_
 rintro e c ⟨j,a,rfl,g,J,u⟩
 obtain ⟨gs,f⟩:∃ x,x=gl d j a:=⟨_,rfl⟩
 rw [<- f]
 have n:gs.length=149:=by rw [f];exact fC _ _
 have R:Hi (gs.toArray.all (·.oneCell')=true):=by
  show _=_
  rw [f];exact jS _ _ _ _
 have E:=aA f
 have r:Hi ((Tryz.prog.info? 90).map (·.size)=some gs.toArray.size):=by
  show _=_
  rw [dE,size_toArray,n]
 have F:Hi (Tryz.zeroCells90.size=gs.toArray.size):=by
  show _=_
  exact zcGame.trans (by simp [n])
 have D:Hi (Tryz.prog.built 97 [(0,.agg gs.toArray)]=some (gs ++ [Value.map none,Value.slice none 0 0]).toArray):=EG gs n
 have Q:Hi (((c.alloc (.cells Tryz.zeroCells90 90)).setRow c.heap.size gs.toArray).heap[c.heap.size]?=some (.cells gs.toArray 90)):=setRow_heap _ _ _ _ _ _ (aC _ _)
 obtain ⟨s,l⟩:∃ W,W=((c.alloc (.cells Tryz.zeroCells90 90)).setRow c.heap.size gs.toArray).alloc (.cells (gs ++ [Value.map none,Value.slice none 0 0]).toArray 97):=⟨_,rfl⟩
 have i:Fr [] c s:=by rw [l];exact (((r0 _ _).alloc _).setRow _ _ (.inr (Nat.le_refl _))).alloc _
 have Y:s.heap[c.heap.size+1]?=some (.cells (gs ++ [Value.map none,Value.slice none 0 0]).toArray 97):=by rw [l];exact jF _ _ _ (by simp)
 have ab:=u.size
 have aa:=g.lt
 have t:RS s (c.heap.size+1) j a [] d (.map none) (.slice none 0 0) (fun _=>none) []:=⟨by show _=_;rw [Y,E.o],SVE.empty s,g.fr i (by simp),by simp,by simp,by omega,by omega,by omega,by omega,by omega⟩
 have y:=yZ s t (by simp) (by simp) (mP m.ok m.os ⟨m.t0,by omega⟩) (by omega) (by omega)
 have q:=aA y
 have z:=u.then0 i
 have P:=i.size
 have I:=aA l
 clear f n p y t l g
 go_wp2_with (first|(refine wpList_store_row rfl 90 _ _ rfl c.heap.size gs.toArray rfl rfl 90 Tryz.zeroCells90 (aC c _) r.o F.o R.o ?_)|(refine wpList_load_row rfl 90 _ rfl c.heap.size rfl 90 gs.toArray (0,0) _ Q.o Tryz.underlying90 rfl r.o ?_)|(refine BU rfl 97 0 (.tmp 14) rfl (.agg gs.toArray) rfl (gs ++ [Value.map none,Value.slice none 0 0]).toArray D.o ?_))
 rw [<- I.o]
 refine Calls.mono q.o ?_
 rintro e w3 ⟨rfl,B,K,A,S',O⟩
 have H:=aA O
 clear q O
 go_wp2_with fail
 refine bodyPost_ret (v:=.tuple #[.pointer (so (c.heap.size+1)),.int .i64 0]) (by simp [results,Tryz.results11,go_sem]) rfl ⟨c.heap.size+1,j,a,S',K,A,B,rfl,?_,by omega,J,fun b hb=>?_,z.trans H.o.fr (by simp;omega)⟩
 ·have h:=H.o.rs
  have V:cZ (fun _=>none)=bO:=rfl
  rw [V,nil_append] at h
  have X:(fun k=>if k=bO then none else if k=LOG then some (B,bU 2 (bH d)) else none)=(fun k=>if k=LOG then some (B,bU 2 (bH d)) else (none:Option (Value×List UInt8))):=by
   funext k
   by_cases e:k=bO
   ·rw [if_pos e,if_neg (by rw [e];decide)]
   rw [if_neg e]
  rw [X] at h
  exact h
 rcases H.o.old b hb with h1|h1
 ·simp at h1
 have:=z.size;omega
set_option maxRecDepth 100000
theorem PJ {b k c:Nat}{S:List Nat}{t:T}{j i:Value}{g:Gf}{a:List Stp}(w:World)(d f:Value)(h:RS w b k c S t j i g a)(ht:1000000000<=t.turn) :
  Cs 17 #[.pointer (so b),d,f] w fun e l=>e=.returned (.tuple #[.slice none 0 0,.int .i64 4])/\Fr [] w l:=by
 have m:w.cell? ⟨b,0,none⟩=some (ii t.turn):=h.all 0 _ (by simp [gl,aQ,aN])
 clear h
 go_enter Tryz.func17,Tryz.ntmps17
 go_wp2_with (first|(go_at_call 36;refine (jZ b _).mono ?_;rintro e n ⟨rfl,rfl⟩))
 go_ret2
 exact ⟨rfl,r0 _ _⟩
theorem PI {j u k:Nat} {S:List Nat} {t:T} {s m:Value} {g:Gf} {a:List Stp} (w:World) (b c:Option Addr) (o p f i:Nat) (h:RS w j u k S t s m g a) (ht:t.turn < 1000000000)
  (d:Cs 41 #[.agg #[ii t.turn,.slice b o f,.slice c p i]] w fun e n=>e=.returned (.tuple #[.string ⟨#[]⟩,.bool false])/\Fr [] w n) :
  Cs 17 #[.pointer (so j),.slice b o f,.slice c p i] w fun e n=>e=.returned (.tuple #[.slice none 0 0,.int .i64 3])/\Fr [] w n:=by
 have q:w.cell? ⟨j,0,none⟩=some (ii t.turn):=h.all 0 _ (by simp [gl,aQ,aN])
 have r:¬ (1000000000:Int)<=t.turn:=by omega
 clear h
 go_enter Tryz.func17,Tryz.ntmps17
 go_wp2_with (first|(go_at_call 36;refine (jZ j _).mono ?_;rintro e v ⟨rfl,rfl⟩))
 refine Calls.mono d ?_
 rintro e v ⟨rfl,l⟩
 clear q d
 go_wp2_with fail
 go_ret2
 exact ⟨rfl,l⟩
theorem PD (a:ByteArray)(hm:dS a)(w:World)(hw:0 < w.heap.size) :
  Cs 11 #[.string a] w fun e i=>∃ g d c S n h o,e=.returned (.tuple #[.pointer (so g),.int .i64 0])/\RS i g d c S (bP a) n h (fun k=>if k=LOG then some (o,bU 2 (bH (bP a))) else none) [dA bO (bU 2 (bH (bP a))),dB bO,eV bO LOG]/\w.heap.size<=g/\w.heap.size<=d/\(∀ b∈S,w.heap.size<=b)/\Fr [] w i :=
 PF a (bP a) ⟨rF a hm,rG a,by show (0:Int)<=0;omega⟩ rfl rfl (fun w=>(zU a w).mono (by
  rintro e i ⟨⟨_,d,c,h1,j,l⟩|⟨f,_⟩,m⟩
  ·exact ⟨d,c,h1,j,l,m⟩
  exact absurd hm f)) w hw
theorem PE (c:ByteArray)(hm:¬ dS c)(w:World) :
  Cs 11 #[.string c] w fun e d=>e=.returned (.tuple #[.pointer none,.int .i64 1])/\Fr [] w d:=by
 have i:Hi (Cs 35 #[.string c] w fun e d=>e=.returned (.tuple #[.agg Tryz.zeroCells90,.bool false])/\Fr [] w d):=(zU c w).mono (by
  rintro e d ⟨⟨k,_⟩|⟨_,h1⟩,j⟩
  ·exact absurd k hm
  exact ⟨h1,j⟩)
 clear hm
 go_enter Tryz.func11,Tryz.ntmps11
 go_wp2_with fail
 refine Calls.mono i.o ?_
 rintro e f ⟨rfl,b⟩
 obtain ⟨gs,a⟩:∃ x,x=Tryz.zeroCells90:=⟨_,rfl⟩
 have g:Hi ((Tryz.prog.info? 90).map (·.size)=some gs.size):=by show _=_;rw [a];exact pK
 have h:Hi (Tryz.zeroCells90.size=gs.size):=by show _=_;rw [a]
 have l:Hi (gs.all (·.oneCell')=true):=by show _=_;rw [a];exact sS
 go_wp2_with (first|(refine wpList_store_row rfl 90 _ _ rfl f.heap.size Tryz.zeroCells90 rfl rfl 90 Tryz.zeroCells90 (aC f _) pK rfl sS ?_))
 go_ret2
 exact ⟨rfl,(b.alloc _).setRow _ _ (.inr b.size)⟩
end Go.Proofs.YtapabahhfanmmaaGreatDoor
namespace Go.Proofs
open Go.RowKit Go.Maps Go.Sort Go.Shelf List
set_option maxRecDepth 100000
def Tryz.keys146_ren:Go.Shelf.Ren:=⟨fun|7=>146|10=>190|n=>n,fun|23=>93|26=>9|3=>174|28=>239|0=>0|27=>238|33=>177|4=>4|n=>n,fun|n=>n⟩
theorem Tryz.keys146:Go.Proofs.SlLaysZ.n7 Tryz.prog Tryz.keys146_ren:={
 mixed:=by kernel_rfl,f7:=⟨Tryz.f146.name,by decide,Tryz.func146.trans (congrArg some (by kernel_rfl))⟩,f10:=⟨Tryz.f190.name,by decide,Tryz.func190.trans (congrArg some (by kernel_rfl))⟩,
 t0:=Tryz.underlying0,a0:=Tryz.isAgg0,z0:=Tryz.sizeOf0,v0:=Tryz.zeroValue0,t4:=Tryz.underlying4,a4:=Tryz.isAgg4,z4:=Tryz.sizeOf4,v4:=Tryz.zeroValue4,t23:=Tryz.underlying93,a23:=Tryz.isAgg93,
 z23:=Tryz.sizeOf93,v23:=Tryz.zeroValue93,t26:=Tryz.underlying9,a26:=Tryz.isAgg9,z26:=Tryz.sizeOf9,v26:=Tryz.zeroValue9,t27:=Tryz.underlying238,a27:=Tryz.isAgg238,z27:=Tryz.sizeOf238,
 v27:=Tryz.zeroValue238,t28:=Tryz.underlying239,a28:=Tryz.isAgg239,z28:=Tryz.sizeOf239,v28:=Tryz.zeroValue239,t33:=Tryz.underlying177,a33:=Tryz.isAgg177,z33:=Tryz.sizeOf177,
 v33:=Tryz.zeroValue177 }
def Tryz.sorted145_ren:Go.Shelf.Ren:=⟨fun|6=>145|8=>188|9=>189|11=>216|13=>218|12=>217|23=>235|24=>236|14=>226|15=>227|16=>228|17=>229|18=>230|19=>231|20=>232|21=>233|22=>234|25=>241|26=>242|27=>243|28=>244|29=>245|30=>246|31=>249|n=>n,fun|26=>9|28=>239|24=>38|0=>0|3=>3|37=>226|48=>225|50=>275|4=>4|40=>295|39=>294|45=>248|5=>5|9=>9|51=>305|55=>274|57=>310|58=>253|33=>177|n=>n,fun|n=>n⟩
theorem Tryz.sorted145:Go.Proofs.SlLaysZ.n6 Tryz.prog Tryz.sorted145_ren:={
 mixed:=by kernel_rfl,f6:=⟨Tryz.f145.name,by decide,Tryz.func145.trans (congrArg some (by kernel_rfl))⟩,f8:=⟨Tryz.f188.name,by decide,Tryz.func188.trans (congrArg some (by kernel_rfl))⟩,
 f11:=⟨Tryz.f216.name,by decide,Tryz.func216.trans (congrArg some (by kernel_rfl))⟩,t0:=Tryz.underlying0,a0:=Tryz.isAgg0,z0:=Tryz.sizeOf0,v0:=Tryz.zeroValue0,t24:=Tryz.underlying38,
 a24:=Tryz.isAgg38,z24:=Tryz.sizeOf38,v24:=Tryz.zeroValue38,t26:=Tryz.underlying9,a26:=Tryz.isAgg9,z26:=Tryz.sizeOf9,v26:=Tryz.zeroValue9,t28:=Tryz.underlying239,a28:=Tryz.isAgg239,
 z28:=Tryz.sizeOf239,v28:=Tryz.zeroValue239,i26:=by kernel_rfl }
def Tryz.sort189_ren:Go.Shelf.Ren:=⟨fun|6=>189|8=>218|9=>217|19=>235|20=>236|21=>226|22=>227|23=>228|24=>229|25=>230|26=>231|27=>232|28=>233|29=>234|36=>241|31=>242|32=>243|37=>244|38=>245|39=>246|41=>249|n=>n,fun|27=>38|29=>9|3=>3|32=>226|26=>38|0=>0|44=>225|46=>275|4=>4|36=>295|35=>294|41=>248|5=>5|9=>9|53=>305|57=>274|63=>310|64=>253|n=>n,fun|n=>n⟩
theorem Tryz.sort189:Go.Proofs.SlLaysM.n6 Tryz.prog Tryz.sort189_ren:={
 mixed:=by kernel_rfl,f6:=⟨Tryz.f189.name,by decide,Tryz.func189.trans (congrArg some (by kernel_rfl))⟩,f8:=Tryz.func218.trans (congrArg some (by kernel_rfl)),
 f9:=⟨Tryz.f217.name,by decide,Tryz.func217.trans (congrArg some (by kernel_rfl))⟩,f19:=Tryz.func235.trans (congrArg some (by kernel_rfl)),f20:=Tryz.func236.trans (congrArg some (by kernel_rfl)),
 f21:=⟨Tryz.f226.name,by decide,Tryz.func226.trans (congrArg some (by kernel_rfl))⟩,f22:=⟨Tryz.f227.name,by decide,Tryz.func227.trans (congrArg some (by kernel_rfl))⟩,
 f23:=⟨Tryz.f228.name,by decide,Tryz.func228.trans (congrArg some (by kernel_rfl))⟩,f24:=⟨Tryz.f229.name,by decide,Tryz.func229.trans (congrArg some (by kernel_rfl))⟩,
 f25:=⟨Tryz.f230.name,by decide,Tryz.func230.trans (congrArg some (by kernel_rfl))⟩,f26:=⟨Tryz.f231.name,by decide,Tryz.func231.trans (congrArg some (by kernel_rfl))⟩,
 f27:=⟨Tryz.f232.name,by decide,Tryz.func232.trans (congrArg some (by kernel_rfl))⟩,f28:=⟨Tryz.f233.name,by decide,Tryz.func233.trans (congrArg some (by kernel_rfl))⟩,
 f29:=⟨Tryz.f234.name,by decide,Tryz.func234.trans (congrArg some (by kernel_rfl))⟩,f31:=Tryz.func242.trans (congrArg some (by kernel_rfl)),f32:=Tryz.func243.trans (congrArg some (by kernel_rfl)),
 f36:=⟨Tryz.f241.name,by decide,Tryz.func241.trans (congrArg some (by kernel_rfl))⟩,f37:=⟨Tryz.f244.name,by decide,Tryz.func244.trans (congrArg some (by kernel_rfl))⟩,
 f38:=⟨Tryz.f245.name,by decide,Tryz.func245.trans (congrArg some (by kernel_rfl))⟩,f39:=⟨Tryz.f246.name,by decide,Tryz.func246.trans (congrArg some (by kernel_rfl))⟩,
 f41:=⟨Tryz.f249.name,by decide,Tryz.func249.trans (congrArg some (by kernel_rfl))⟩,t0:=Tryz.underlying0,a0:=Tryz.isAgg0,z0:=Tryz.sizeOf0,v0:=Tryz.zeroValue0,t3:=Tryz.underlying3,a3:=Tryz.isAgg3,
 z3:=Tryz.sizeOf3,v3:=Tryz.zeroValue3,t4:=Tryz.underlying4,a4:=Tryz.isAgg4,z4:=Tryz.sizeOf4,v4:=Tryz.zeroValue4,t5:=Tryz.underlying5,a5:=Tryz.isAgg5,z5:=Tryz.sizeOf5,v5:=Tryz.zeroValue5,
 t9:=Tryz.underlying9,a9:=Tryz.isAgg9,z9:=Tryz.sizeOf9,v9:=Tryz.zeroValue9,t26:=Tryz.underlying38,a26:=Tryz.isAgg38,z26:=Tryz.sizeOf38,v26:=Tryz.zeroValue38,t27:=Tryz.underlying38,
 a27:=Tryz.isAgg38,z27:=Tryz.sizeOf38,v27:=Tryz.zeroValue38,t29:=Tryz.underlying9,a29:=Tryz.isAgg9,z29:=Tryz.sizeOf9,v29:=Tryz.zeroValue9,t32:=Tryz.underlying226,a32:=Tryz.isAgg226,
 z32:=Tryz.sizeOf226,v32:=Tryz.zeroValue226,t35:=Tryz.underlying294,a35:=Tryz.isAgg294,z35:=Tryz.sizeOf294,v35:=Tryz.zeroValue294,t36:=Tryz.underlying295,a36:=Tryz.isAgg295,z36:=Tryz.sizeOf295,
 v36:=Tryz.zeroValue295,t41:=Tryz.underlying248,a41:=Tryz.isAgg248,z41:=Tryz.sizeOf248,v41:=Tryz.zeroValue248,t44:=Tryz.underlying225,a44:=Tryz.isAgg225,z44:=Tryz.sizeOf225,
 v44:=Tryz.zeroValue225,t46:=Tryz.underlying275,a46:=Tryz.isAgg275,z46:=Tryz.sizeOf275,v46:=Tryz.zeroValue275,t53:=Tryz.underlying305,a53:=Tryz.isAgg305,z53:=Tryz.sizeOf305,
 v53:=Tryz.zeroValue305,t57:=Tryz.underlying274,a57:=Tryz.isAgg274,z57:=Tryz.sizeOf274,v57:=Tryz.zeroValue274,t63:=Tryz.underlying310,a63:=Tryz.isAgg310,z63:=Tryz.sizeOf310,
 v63:=Tryz.zeroValue310,t64:=Tryz.underlying253,a64:=Tryz.isAgg253,z64:=Tryz.sizeOf253,v64:=Tryz.zeroValue253 }
theorem Tryz.sorts145 (m:Nat):AnyZ.SortsIn Tryz.prog Tryz.sorted145_ren Fence.wide m :=
 ⟨fun c e a g W f b d=>callsIn_wide.2 (AnyM.slices_Sort_string Tryz.sort189 c e a g W f b d),
  fun p a W=>callsIn_wide.2 (AnyM.slices_Sort_string_none Tryz.sort189 p a W)⟩
theorem Tryz.keysOf (a:Option Nat)(W:World):Calls Tryz.prog 146 #[.map a] W fun e b=>e=.returned (.func (.func 190) #[] #[.pointer (some ⟨W.heap.size,0,none⟩)])/\b=W.alloc (.cells #[.map a] 93) :=
  (callsIn_wide (n:=5)).1 (AnyZ.keys_in Tryz.keys146 Fence.wide 5 trivial rfl a W)
theorem Tryz.sortedKeys {H:Type}(b h:Nat)(a:DataW H)(R:Value->Option (DataW H×List MemPlace))(w:World)(hown:w.ownsMap Tryz.prog 9 R b h a)(d:Maps.size a<=maxLen)(hbytes:Maps.size a*16<=140737488355328) :
  Calls Tryz.prog 145 #[.func (.func 190) #[] #[.pointer (some ⟨w.heap.size,0,none⟩)]] (w.alloc (.cells #[.map (some b)] 93)) fun e i=>∃ (v:Value) (c:List (List UInt8)),e=.returned v/\c.Perm (strKeys a) /\
   i.ownsRow (w.alloc (.cells #[.map (some b)] 93)).heap.size 9 1 v c.length ((c.mergeSort (fun x y=>decide (x<=y))).map encStr)/\(v=.slice none 0 0↔c=[])/\Below (w.alloc (.cells #[.map (some b)] 93)).heap.size (w.alloc (.cells #[.map (some b)] 93)) i:=by
 have g:=hown.lt
 have f:SeqGives Fence.wide 2 Tryz.prog 190 #[.pointer (some ⟨w.heap.size,0,none⟩)] encStr (fun c=>c.Perm (strKeys a)) (Maps.size a) (w.alloc (.cells #[.map (some b)] 93)) :=
  AnyZ.keys_gives (ρ:=Tryz.keys146_ren) { Tryz.keys146 with } Fence.wide _ trivial rfl (by omega) w.heap.size b h a _ (by simp) (by simp) (by
   obtain ⟨k,clock,hb,j,hs,l⟩:=hown
   exact ⟨k,clock,(Below.heap_alloc _ _ b g).trans hb,j,hs,l⟩)
 exact (callsIn_wide (n:=5)).1 (AnyZ.sorted_in Tryz.sorted145 Fence.wide 5 trivial trivial trivial trivial rfl (by omega) (Tryz.sorts145 _) (enters_of Tryz.func189 (by kernel_rfl) rfl) 190 #[.pointer (some ⟨w.heap.size,0,none⟩)] trivial (enters_of Tryz.func190 (by kernel_rfl) rfl) _ _ d hbytes _ f)
end Go.Proofs
namespace Go.Proofs.YtapabahhfanmmaaGreatDoor
open Go.RowKit Go.Maps Go.Sort Go.Shelf List
set_option maxRecDepth 100000
theorem uZ:∀ (l:List (List UInt8×Value)) (p:List UInt8×Value),p∈l->∃ q,l.find? (fun x=>x.1==p.1)=some q
 | [],p,h=>by simp at h
 | a :: l,p,h=>by
  rw [find?_cons]
  by_cases e:(a.1==p.1)=true
  ·rw [e];exact ⟨a,rfl⟩
  rcases mem_cons.1 h with rfl|h
  ·simp at e
  rw [Bool.not_eq_true] at e
  rw [e]
  exact uZ l p h
theorem MapS.one {w:World}{r:Nat}{V:Value}(h:MapS w r (fun k=>if k=LOG then some V else none)):∃ m:DataW Unit,w.ownsMap Tryz.prog 9 (fun _=>some (.lit (.bool true),[])) r 1 m/\strKeys m=[LOG]/\Maps.size m=1:=by
 obtain ⟨l,n,clock,hb,hl,f,t,j⟩:=h
 have d:∀ p∈l,p.1=LOG:=fun p z=>by
  obtain ⟨q,A⟩:=uZ l p z
  have:=j p.1
  rw [A] at this
  dsimp only [Option.map_some] at this
  by_cases e:p.1=LOG
  ·exact e
  rw [if_neg e] at this;cases this
 have s:∃ v,l=[(LOG,v)]:=by
  match l,f,d,j with
  | [],_,_,j=>have:=j LOG;simp at this
  | [p],_,d,_=>exact ⟨p.2,by rw [<- d p (by simp)]⟩
  | p :: q :: l,f,d,_ =>
   have h1:=d p (by simp)
   have u:=d q (by simp)
   simp [h1,u] at f
 obtain ⟨v,rfl⟩:=s
 obtain ⟨e,g⟩:∃ e,n.toList=[e]:=by
  have:=congrArg length hl
  simp at this
  match h:n.toList,this with
  | [e],_=>exact ⟨e,rfl⟩
  | [],q=>rw [<- Array.length_toList,h] at q;simp at q
  | a :: b :: c,q=>rw [<- Array.length_toList,h] at q;simp at q
 have y:e.key=sv LOG:=by rw [g] at hl;simp at hl;exact hl.1
 have o:Go.keyOf Tryz.prog 9 e.key=some (.string LOG):=by rw [y];kernel_rfl
 have i:Go.WideElems.rd (H:=Unit) Tryz.prog 9 (fun _=>some (.lit (.bool true),[])) e=some (.string LOG,.lit (.bool true)):=by simp [Go.WideElems.rd,o]
 refine ⟨.map [(.string LOG,.lit (.bool true))],⟨n,clock,hb,⟨?_,t,fun x hx=>?_⟩,?_,?_⟩,rfl,rfl⟩
 ·rw [<- Array.length_toList,g];simp [maxLen]
 ·rw [g] at hx
  have:x=e:=by simpa using hx
  subst this
  exact ⟨_,i⟩
 ·rw [<- Array.length_toList,g];simp
 rw [g]
 simp only [map_cons,map_nil,foldr_cons,foldr_nil,Go.WideElems.rg_of i]
 rfl
abbrev iJ (v:Value)(d:List UInt8):Gf:=fun k=>if k=LOG then some (v,d) else none
theorem KN (v:Value)(d:List UInt8):(fun k=>(iJ v d k).map gF)=(fun k=>if k=LOG then some (gF (v,d)) else none):=by
 funext k
 by_cases e:k=LOG
 ·simp [iJ,e]
 simp [iJ,e]
def pO (w:World)(base:Nat)(v:Value)(l:List (List UInt8×List UInt8)):Prop:=w.ownsRow base 115 2 v l.length (l.flatMap fun p=>[sv p.1,sv p.2])
theorem TE (O:Nat)(c:List Value)(ty:TypeId)(mv P:Value)(S:List Nat)(v:Value)(d:List UInt8)(C:List Stp)(w:World)(hb:SB w O c ty mv P)(hs:SVE fS w mv P S (iJ v d) C) :
  Cs 109 #[.pointer (some ⟨O,c.length,none⟩)] w fun e b=>∃ Q,e=.returned Q/\pO b w.heap.size Q [(LOG,d)]/\Fr [] w b:=by
 obtain ⟨aj,ab,ag,ah,ai⟩:=info_parts (show (Tryz.prog.info? 115).map (fun i=>(i.zero,i.size,i.bytes))=some (some (.agg #[.string ⟨#[]⟩,.string ⟨#[]⟩]),2,32) by kernel_rfl)
 obtain ⟨r,rfl,M⟩:∃ r,mv=.map (some r)/\MapS w r (fun k=>if k=LOG then some (gF (v,d)) else none):=by
  have:=hs.map
  rw [KN] at this
  rcases this with ⟨_,h⟩|h
  ·have:=h LOG;simp at this
  exact h
 obtain ⟨D0,ho,hk,B⟩:=M.one
 have W:=hb.c0
 have ad:=hb.lt
 have L:ownM w 0 (dG (iJ v d) LOG) (bR (iJ v d) LOG):=hs.own LOG (v,d) (by simp) (by simp [iJ])
 have K:bR (iJ v d) LOG=d:=by simp [bR,iJ]
 have m:Hi (∀ b,Fr [] w b->Cs 49 #[.pointer (some ⟨O,c.length,none⟩),sv LOG] b fun e ak=>e=.returned (sv d)/\b=ak):=fun b X=>by
  have:=FN O c.length (.map (some r)) (iJ v d) LOG b ((X.cell O _ ad (by simp)).trans W) ((hs.fr0 X).map) (L.fr X (by simp))
  rw [K] at this
  exact this
 obtain ⟨o,N⟩:∃ o,o=c.length:=⟨_,rfl⟩
 rw [<- N] at m W |-
 have q:=Tryz.sortedKeys r 1 D0 (fun _=>some (.lit (.bool true),[])) w ho (by rw [B];decide) (by rw [B];decide)
 rw [hk] at q
 have n:Hi (Cs 145 #[.func (.func 190) #[] #[.pointer (so w.heap.size)]] (w.alloc (.cells #[.map (some r)] 93)) fun e b=>∃ l R,e=.returned (.slice (so l) 1 R)/\ca b l 0 (sv LOG)/\w.heap.size<=l/\Fr [] w b):=q.mono (by
  rintro e b ⟨Q,ss,rfl,hp,f,_,J⟩
  have af:ss=[LOG]:=perm_singleton.1 hp
  subst af
  have a:b.ownsRow (w.alloc (.cells #[.map (some r)] 93)).heap.size 9 1 Q 1 [sv LOG]:=by
   rw [mergeSort_singleton] at f
   exact f
  obtain ⟨l,R,rfl⟩:=bK a (by omega)
  have hc:=a.cells (g:=l) rfl 0 (sv LOG) rfl
  rw [Addr.add_lit,Nat.zero_add] at hc
  refine ⟨l,R,rfl,hc,?_,?_⟩
  ·have:=(a.lt l rfl).1;simp at this;omega
  exact ((r0 _ _).alloc _).then0 (Fr.of_below J))
 have I:=(show Hi _ from Tryz.keysOf (some r) w)
 obtain ⟨F,z⟩:∃ x:ByteArray,x=⟨LOG.toArray⟩:=⟨_,rfl⟩
 obtain ⟨E,s⟩:∃ x:ByteArray,x=⟨d.toArray⟩:=⟨_,rfl⟩
 simp only [sv,<- z,<- s] at m n
 have HR:Hi (([(LOG,d)]:List (List UInt8×List UInt8)).flatMap (fun p=>[sv p.1,sv p.2])=[.string F,.string E]):=by show _=_;rw [z,s];rfl
 clear hb hs M ho hk B L K q z s N
 go_enter Tryz.func109,Tryz.ntmps109
 go_wp2_with fail
 refine Calls.mono I.o ?_
 rintro e w1 ⟨rfl,rfl⟩
 clear I W
 go_wp2_with fail
 refine Calls.mono n.o ?_
 rintro e D ⟨l,R,rfl,ac,am,t⟩
 have an:=aI ac
 have ao:=t.size
 clear n
 go_wp2_with fail
 go_loopw [3,13] (fun v i wr=>(v=.slice none 0 0/\i=.int .i64 0/\D=wr)\/(i=.int .i64 1/\wr.ownsRow w.heap.size 115 2 v 1 [.string F,.string E]/\Fr [] w wr)) (fun _ i _=>1 - (intOf i).toNat)
 case atStart=>exact .inl ⟨rfl,rfl,rfl⟩
 rcases hrel with ⟨rfl,rfl,rfl⟩|⟨rfl,hown,aa⟩
 ·have H:=(show Hi _ from m.o D t)
  have HN:Hi (∀ (j:Nat) (u:Value),[Value.string F,.string E][j]?=some u->(D.alloc (.cells #[.string F,.string E] 115)).cell? ((⟨D.heap.size,0,none⟩:Addr).add j)=some u):=by
   intro j u hu
   rw [Addr.add_lit,Nat.zero_add,aB (aC D _)]
   simpa using hu
  have V:Hi ((D.alloc (.cells #[.string F,.string E] 115)).ownsRow w.heap.size 115 2 (.slice none 0 0) 0 []):=⟨rfl,.inl ⟨rfl,rfl⟩⟩
  go_wp2_with (first
   | (go_at_call 49;refine Calls.mono H.o ?_;rintro e w3 ⟨rfl,rfl⟩)
   | (at_builtin;refine wpList_append_own_at _ rfl _ _ 51 rfl w.heap.size 115 aj (.agg #[.string ⟨#[]⟩,.string ⟨#[]⟩]) 2 32 Tryz.underlying51 ab ag ah ai rfl (by decide) (.slice none 0 0) 0 [] rfl V.o ⟨D.heap.size,0,none⟩ 1 1 [.string F,.string E] rfl rfl HN.o (by simp [Value.oneCell']) (by unfold maxLen;omega) (by omega) (by simp;omega) ?_;intro Q w3 A y ae al))
  have Y:Fr [] w w3:=(t.alloc _).grow y (fun g hg=>by simp [Value.ownBlock] at hg)
  go_roundw
  case rel=>exact .inr ⟨by go_num,A,Y⟩
  case measure=>simp [intOf]
 go_wp2_with fail
 go_ret
 refine ⟨_,rfl,?_,aa⟩
 unfold pO
 rw [HR.o]
 exact hown
theorem yY {f m b:Nat}{S:List Nat}{t:T}{l c v:Value}{d:List UInt8}{a:List Stp}(w:World)(h:RS w f m b S t l c (iJ v d) a) :
  Cs 67 #[.pointer (so f)] w fun e n=>∃ g,e=.returned g/\pO n w.heap.size g [(LOG,d)]/\Fr [] w n:=by
 have k:=TE f (gl t m b) 97 l c S v d a w h.bl h.sve
 rw [fC] at k
 clear h
 go_enter Tryz.func67,Tryz.ntmps67
 go_wp2_with (go_at_call 36;refine (jZ f _).mono ?_;rintro e o ⟨rfl,rfl⟩)
 refine Calls.mono k ?_
 rintro e o ⟨g,rfl,j,i⟩
 go_wp2_with fail
 go_ret
 exact ⟨g,rfl,j,i⟩
