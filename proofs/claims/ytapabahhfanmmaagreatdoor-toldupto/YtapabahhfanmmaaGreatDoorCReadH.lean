import Derived.Test.YtapabahhfanmmaaGreatDoorCMayN
namespace Go.Proofs.YtapabahhfanmmaaGreatDoor
open Go.RowKit
set_option maxRecDepth 100000
set_option maxHeartbeats 8000000
def gz7:T:=⟨0,0,0,0,fun _=>0,[],fun _=>none⟩
def rdT (t:T)(s m k:Nat):T:=⟨if 0 < s then t.turn else 0,if 3 < s then t.next else 0,if 1 < s then t.s0 else 0,if 2 < s then t.s1 else 0,fun j=>if j < m then t.bd j else 0,t.us.take k,fun _=>none⟩
theorem jz7:Tryz.zeroCells90=(qz5 gz7 (.slice none 0 0)).toArray:=by kernel_rfl
theorem qzj5 (t:T)(pv:Value):qz5 gz7 pv=qz5 (rdT t 0 0 0) pv:=by
 unfold qz5
 apply List.map_congr_left
 intro j _
 unfold qq9 rdT gz7
 simp
theorem qxz5 (t:T)(pv:Value):∀ j,j < 149->j≠0->qq9 (rdT t 0 0 0) pv 0 0 j=qq9 (rdT t 1 0 0) pv 0 0 j:=fun j _ hn=>by
  unfold qq9 rdT;simp [hn]
theorem qxz7 (t:T)(pv:Value):∀ j,j < 149->j≠2->qq9 (rdT t 1 0 0) pv 0 0 j=qq9 (rdT t 2 0 0) pv 0 0 j:=fun j _ hn=>by
  unfold qq9 rdT;simp [hn]
theorem qxz8 (t:T)(pv:Value):∀ j,j < 149->j≠3->qq9 (rdT t 2 0 0) pv 0 0 j=qq9 (rdT t 3 0 0) pv 0 0 j:=fun j _ hn=>by
  unfold qq9 rdT;simp [hn]
theorem qxz6 (t:T)(pv:Value):∀ j,j < 149->j≠1->qq9 (rdT t 3 0 0) pv 0 0 j=qq9 (rdT t 4 0 0) pv 0 0 j:=fun j _ hn=>by
  unfold qq9 rdT;simp [hn]
theorem qxz9 (t:T)(pv:Value)(m:Nat):∀ j,j < 149->j≠4+m->qq9 (rdT t 4 m 0) pv 0 0 j=qq9 (rdT t 4 (m+1) 0) pv 0 0 j:=fun j _ hn=>by
 unfold qq9 rdT
 simp only
 split;rfl
 split;rfl
 split;rfl
 split;rfl
 split
 ·by_cases h:j - 4 < m
  ·rw [if_pos h,if_pos (by omega)]
  ·rw [if_neg h,if_neg (by omega)]
 ·rfl
theorem qxj0 (t:T)(pv pv':Value)(k k':Nat):∀ j,j < 149->j≠148->qq9 (rdT t 4 144 k) pv 0 0 j=qq9 (rdT t 4 144 k') pv' 0 0 j:=fun j _ hn=>by
 unfold qq9 rdT
 simp [hn]
theorem xy7 (t:T)(pv:Value)(k:Nat):∀ j,j < 149->qq9 (rdT t 4 144 k) pv 0 0 j=qq9 t pv 0 0 j:=fun j hj=>by
 unfold qq9 rdT
 simp only
 split;rfl
 split;rfl
 split;rfl
 split;rfl
 split
 ·rw [if_pos (by omega)]
 ·rfl
theorem fk5 (t t':T)(pv pv':Value)(k:Nat)(v:Value)(hk:k < 149)(he:∀ j,j < 149->j≠k->qq9 t pv 0 0 j=qq9 t' pv' 0 0 j)(hv:qq9 t' pv' 0 0 k=v):(qz5 t pv).toArray.setIfInBounds k v=(qz5 t' pv').toArray:=by
 apply Array.ext_getElem?
 intro i
 rw [Array.getElem?_setIfInBounds]
 by_cases e:k=i
 ·subst e
  rw [if_pos rfl,if_pos (by simp [qz5];omega)]
  simp [qz5,List.getElem?_range hk,hv]
 ·rw [if_neg e]
  simp only [qz5,List.getElem?_toArray,List.getElem?_map]
  by_cases hi:i < 149
  ·rw [List.getElem?_range hi]
   simp only [Option.map_some]
   rw [he i hi (fun h=>e h.symm)]
  ·rw [List.getElem?_eq_none (by simp;omega)]
   rfl
structure RJ (w0:World) (l:List UInt8) (rb A:Nat) (n:Nat) (t:T) (pv:Value) (w:World):Prop where
 rd:RdAt w rb (rdN l false n).1 (rdN l false n).2
 g:w.heap[A]?=some (.cells (qz5 t pv).toArray 90)
 fr:Fr [rb,A] w0 w
theorem RJ.cell {w0:World}{l:List UInt8}{rb A n:Nat}{t:T}{pv:Value}{w:World}(h:RJ w0 l rb A n t pv w)(k:Nat)(hk:k < 149):w.cell? ⟨A,k,none⟩=some (qq9 t pv 0 0 k):=by
 rw [j9 h.g]
 simp [qz5,List.getElem?_range hk]
theorem RJ.fz {w0:World}{l:List UInt8}{rb A n:Nat}{t:T}{pv:Value}{w:World}(h:RJ w0 l rb A n t pv w)(k:Nat):w.frozen? ⟨A,k,none⟩=false:=qq0 h.g
theorem RJ.put {w0:World}{l:List UInt8}{rb A n:Nat}{t t':T}{pv pv':Value}{w:World}(h:RJ w0 l rb A n t pv w)(hn:rb≠A)(k:Nat)(v:Value)(hk:k < 149)(he:∀ j,j < 149->j≠k->qq9 t pv 0 0 j=qq9 t' pv' 0 0 j)(hv:qq9 t' pv' 0 0 k=v):RJ w0 l rb A n t' pv' (w.setCell ⟨A,k,none⟩ v):=by
 refine ⟨⟨?_⟩,?_,h.fr.setCell _ _ (by simp)⟩
 ·rw [Below.heap_setCell _ _ _ _ hn];exact h.rd.all
 ·rw [zv1 h.g,fk5 t t' pv pv' k v hk he hv]
theorem RJ.next {w0:World}{l:List UInt8}{rb A n:Nat}{t:T}{pv:Value}{w:World}(h:RJ w0 l rb A n t pv w)(hn:rb≠A)(hl:l.length<=2000000) :
  Calls Tryz.prog 124 #[.pointer (some ⟨rb,0,none⟩)] w fun e w'=>e=.returned (.int .i64 (nth l false n))/\RJ w0 l rb A (n+1) t pv w':=by
 refine Calls.mono (xk4 rb l false n w h.rd hl) ?_
 rintro e w1 ⟨rfl,h1,h2⟩
 exact ⟨rfl,h1,h2.heap h.g (by simp;exact fun e=>hn e.symm),h.fr.trans h2 (by simp)⟩
theorem RJ.unit {w0:World}{l:List UInt8}{rb A n:Nat}{t:T}{pv:Value}{w:World}(h:RJ w0 l rb A n t pv w)(hn:rb≠A)(hl:l.length<=2000000){u:U}(hu:zx2 (fun f=>nth l false (n+f))=u) :
  Calls Tryz.prog 132 #[.pointer (some ⟨rb,0,none⟩)] w fun e w'=>e=.returned u.val/\RJ w0 l rb A (n+11) t pv w'/\Fr [rb] w w':=by
 refine Calls.mono (xy8 rb _ _ w h.rd (Nat.le_trans (xy6 l false n) hl)) ?_
 rintro e w1 ⟨rfl,h1,h2⟩
 rw [xy4] at h1
 refine ⟨?_,⟨h1,h2.heap h.g (by simp;exact fun e=>hn e.symm),h.fr.trans h2 (by simp)⟩,h2⟩
 rw [show nth (rdN l false n).1 (rdN l false n).2=fun f=>nth l false (n+f) from funext fun f=>qqx7 l false n f,hu]
theorem RJ.at148 {w0:World}{l:List UInt8}{rb A n:Nat}{t:T}{pv:Value}{w:World}(h:RJ w0 l rb A n t pv w):w.cell? ⟨A,148,none⟩=some pv:=by
 have:=h.cell 148 (by omega)
 simpa [qq9] using this
theorem fv3 (u:U)(W:World)(j:Nat)(v:Value)(hu:u.cells[j]?=some v):(W.alloc (.cells u.arr 85)).cell? ((⟨W.heap.size,0,none⟩:Addr).add j)=some v:=by
 rw [Addr.add_lit,Nat.zero_add,j9 (qq6 W _)]
 simpa using hu
structure RdP (l:List UInt8) (t:T):Prop where
 n0:nth l false 0=t.turn
 n2:nth l false 2=t.s0
 n3:nth l false 3=t.s1
 n4:nth l false 4=t.next
 nb:∀ j,j < 144->nth l false (5+j)=t.bd j
 nl:nth l false 149=t.us.length
 nu:∀ i u,t.us[i]?=some u->zx2 (fun f=>nth l false (150+11*i+f))=u
theorem fw1 (l:List UInt8):RdP l (qj5 l):=⟨rfl,rfl,rfl,rfl,fun _ hj=>(jx4 l hj).symm,(jy7 l).symm,fun _ _ hu=>yk0 l hu⟩
theorem jj5:Tryz.prog.built 90 []=some Tryz.zeroCells90:=by kernel_rfl
theorem jk5:(Tryz.prog.info? 90).map (·.size)=some Tryz.zeroCells90.size:=by kernel_rfl
theorem xk6:Tryz.zeroCells90.all (·.oneCell')=true:=by kernel_rfl
def RSQ (l:List UInt8)(t:T)(w:World)(e:Ending)(w':World):Prop :=
 (PL l/\∃ pb cap,e=.returned (.tuple #[.agg (qz5 t (.slice (some ⟨pb,0,none⟩) t.us.length cap)).toArray,.bool true])/\PRow w' pb cap t.us/\w.heap.size<=pb/\Fr [] w w') \/
 (¬ PL l/\e=.returned (.tuple #[.agg (qz5 gz7 (.slice none 0 0)).toArray,.bool false])/\Fr [] w w')
abbrev RSP (l:List UInt8)(w:World)(e:Ending)(w':World):Prop:=RSQ l (qj5 l) w e w'
theorem vy9 (l:List UInt8)(w:World)(hl:l.length<=2000000)(hw0:0 < w.heap.size) :
  Calls Tryz.prog 90 #[.string ⟨l.toArray⟩] w fun e w'=>RSP l w e w':=by
 obtain ⟨t,ht⟩:∃ t,t=qj5 l:=⟨_,rfl⟩
 have HRD:Hid (RdP l t):=by rw [ht];exact fw1 l
 have HPL:Hid (PL l↔(t.us.length<=100/\nth l false 1=zk4 t.us/\rdN l false (150+11*t.us.length)=([],false)/\GOk t/\OS t)):=by
  show _↔_
  rw [ht,<- jw1 l]
  exact ⟨fun h=>⟨h.len,h.win,h.ne,h.ok,h.os⟩,fun h=>⟨h.1,h.2.1,h.2.2.1,h.2.2.2.1,h.2.2.2.2⟩⟩
 have HBN:Hid (t.us.length<=100->Bnd t):=by rw [ht];exact jy6 l
 have HRS:Hid (∀ e w',RSQ l t w e w'->RSP l w e w'):=by rw [ht];exact fun _ _ h=>h
 clear ht
 obtain ⟨wn,hwn⟩:∃ x,nth l false 1=x:=⟨_,rfl⟩
 have HWI:=hid hwn
 clear hwn
 have HNX:Hid (∀ {w0:World} {rb A n:Nat} {t:T} {pv:Value} {w:World} (x:Int),nth l false n=x->RJ w0 l rb A n t pv w->rb≠A->Calls Tryz.prog 124 #[.pointer (some ⟨rb,0,none⟩)] w fun e w'=>e=.returned (.int .i64 x)/\RJ w0 l rb A (n+1) t pv w'):=fun x hx h hn=>hx ▸ h.next hn hl
 go_enter Tryz.func90,Tryz.ntmps90
 go_wp2_with fail
 have hwa:Fr [] w (w.alloc (.cells Tryz.zeroCells90 90)):=(Fr.refl _ _).alloc _
 have hwr:=qq6 w (.cells Tryz.zeroCells90 90)
 refine Calls.mono (vy4 l _) ?_
 rintro e w1 ⟨rb,rfl,hrb,hrd,hf1⟩
 dsimp only
 have hw1:=hwa.then0 hf1
 have hR1:=hf1.heap0 hwr
 have hrl:=hrd.lt
 go_wp2_with fail
 obtain ⟨W2,hW2⟩:∃ W,W=w1.alloc (.cells Tryz.zeroCells90 90):=⟨_,rfl⟩
 rw [<- hW2]
 obtain ⟨A,hA⟩:∃ A,A=w1.heap.size:=⟨_,rfl⟩
 rw [<- hA]
 have hne:rb≠A:=by omega
 have hf2:Fr [] w1 W2:=by rw [hW2];exact (Fr.refl _ _).alloc _
 have j0:RJ W2 l rb A 0 (rdT t 0 0 0) (.slice none 0 0) W2:=⟨hrd.fr hf2 (by simp),by rw [hA,hW2,qq6,jz7,qzj5 t],Fr.refl _ _⟩
 have hR2:=hf2.heap0 hR1
 have hw2:=hw1.then0 hf2
 have hwA:w.heap.size < A:=by have:=hf1.size;simp at this;omega
 have hwrb:w.heap.size < rb:=by simp at hrb;omega
 have HA:=hid hA
 have HRL:Hid (rb < w1.heap.size):=hrl
 have HAL:Hid (w1.heap.size < W2.heap.size):=by show w1.heap.size < W2.heap.size;rw [hW2];simp
 clear hW2 hA hrb hrd hf1 hwr hR1 hrl hf2 hw1 hwa
 refine Calls.mono (HNX.out _ HRD.out.n0 j0 hne) ?_
 rintro e w3 ⟨rfl,j1⟩
 dsimp only
 have c0:=j1.cell 0 (by omega)
 have z0:=j1.fz 0
 clear j0
 go_wp2_with fail
 have j2:=j1.put (t':=rdT t 1 0 0) (pv':=.slice none 0 0) hne 0 (.int .i64 t.turn) (by omega) (qxz5 t _) rfl
 obtain ⟨w4,hw4⟩:∃ W,W=w3.setCell ⟨A,0,none⟩ (.int .i64 t.turn):=⟨_,rfl⟩
 rw [<- hw4] at j2 |-
 clear hw4 c0 z0 j1
 refine Calls.mono (HNX.out _ HWI.out j2 hne) ?_
 rintro e w5 ⟨rfl,j3⟩
 dsimp only
 clear j2
 go_wp2_with fail
 refine Calls.mono (HNX.out _ HRD.out.n2 j3 hne) ?_
 rintro e w6 ⟨rfl,j4⟩
 dsimp only
 clear j3
 go_wp2_with fail
 refine Calls.mono (HNX.out _ HRD.out.n3 j4 hne) ?_
 rintro e w7 ⟨rfl,j5⟩
 dsimp only
 clear j4
 have c2:=j5.cell 2 (by omega)
 have c3:=j5.cell 3 (by omega)
 have z2:=j5.fz 2
 have z3:=j5.fz 3
 go_wp2_with fail
 have j6:=(j5.put (t':=rdT t 2 0 0) (pv':=.slice none 0 0) hne 2 (.int .i64 t.s0) (by omega) (qxz7 t _) rfl).put (t':=rdT t 3 0 0) (pv':=.slice none 0 0) hne 3 (.int .i64 t.s1) (by omega) (qxz8 t _) rfl
 obtain ⟨w8,hw8⟩:∃ W,W=(w7.setCell ⟨A,2,none⟩ (.int .i64 t.s0)).setCell ⟨A,3,none⟩ (.int .i64 t.s1):=⟨_,rfl⟩
 rw [<- hw8] at j6 |-
 clear hw8 c2 c3 z2 z3 j5
 refine Calls.mono (HNX.out _ HRD.out.n4 j6 hne) ?_
 rintro e w9 ⟨rfl,j7⟩
 dsimp only
 clear j6
 have c1:=j7.cell 1 (by omega)
 have z1:=j7.fz 1
 go_wp2_with fail
 have j8:=j7.put (t':=rdT t 4 0 0) (pv':=.slice none 0 0) hne 1 (.int .i64 t.next) (by omega) (qxz6 t _) rfl
 obtain ⟨w10,hw10⟩:∃ W,W=w9.setCell ⟨A,1,none⟩ (.int .i64 t.next):=⟨_,rfl⟩
 rw [<- hw10] at j8 |-
 clear hw10 c1 z1 j7
 go_loopw [26] (fun i wr=>∃ y:Nat,y<=12/\i=.int .i64 y/\RJ W2 l rb A (5+y*12) (rdT t 4 (y*12) 0) (.slice none 0 0) wr) (fun i _=>12 - (intOf i).toNat)
 case atStart=>exact ⟨0,by omega,rfl,j8⟩
 case round =>
  obtain ⟨y,hy12,rfl,hJ⟩:=hrel
  clear j8
  by_cases hyt:y < 12
  ·have hyti:(y:Int) < 12:=by omega
   have HJ:=hid hJ
   clear hJ
   go_wp2_with fail
   obtain ⟨wo,hwo⟩:∃ x,x=wr:=⟨_,rfl⟩
   rw [<- hwo] at HJ |-
   clear hwo
   go_loopw [29] (fun i wr=>∃ x:Nat,x<=12/\i=.int .i64 x/\RJ W2 l rb A (5+(y*12+x)) (rdT t 4 (y*12+x) 0) (.slice none 0 0) wr) (fun i _=>12 - (intOf i).toNat)
   case atStart=>exact ⟨0,by omega,rfl,HJ.out⟩
   case round =>
    obtain ⟨x,hx12,rfl,hJx⟩:=hrel
    by_cases hxt:x < 12
    ·have hxti:(x:Int) < 12:=by omega
     have hJd:RJ W2 l rb A (5+(y*12+x)) (rdT t 4 (y*12+x) 0) (.slice none 0 0) wr.drew:=⟨⟨hJx.rd.all⟩,hJx.g,hJx.fr.drew⟩
     have HJD:=hid hJd
     have hnb:=HRD.out.nb (y*12+x) (by omega)
     have HNB:=hid hnb
     clear hJx hJd hnb
     go_wp2_with fail
     go_region_with (first|(go_at_call 124;refine Calls.mono (HNX.out _ HNB.out HJD.out hne) ?_;rintro e w3 ⟨rfl,jn⟩;have cn:=jn.cell (4+(y*12+x)) (by omega);have zn:=jn.fz (4+(y*12+x));rw [<- Nat.add_assoc] at cn zn))
     all_goals
      go_wp2_with fail
      go_roundw
      case rel =>
       refine ⟨x+1,hxt,by go_num,?_⟩
       rw [show 4+y*12+x=4+(y*12+x) by omega]
       exact jn.put hne (4+(y*12+x)) _ (by omega) (qxz9 t _ _) (by
        unfold qq9 rdT
        rw [if_neg (by omega),if_neg (by omega),if_neg (by omega),if_neg (by omega),if_pos (by omega)]
        dsimp only
        rw [if_pos (by omega),show 4+(y*12+x) - 4=y*12+x by omega])
      case measure=>simp [intOf];omega
    ·have hxti:¬ (x:Int) < 12:=by omega
     have hx2:x=12:=by omega
     have HX:=hid hx2
     clear hx2
     go_wp2_with fail
     go_roundw
     case rel=>exact ⟨y+1,hyt,by go_num,by have:=HX.out;rw [this,show y*12+12=(y+1)*12 by omega] at hJx;exact hJx⟩
     case measure=>simp [intOf];omega
  ·have hyti:¬ (y:Int) < 12:=by omega
   have hy2:y=12:=by omega
   rw [hy2] at hJ
   have HY:=hid hy2
   clear hy2
   go_wp2_with fail
   refine Calls.mono (HNX.out _ HRD.out.nl hJ hne) ?_
   rintro e w11 ⟨rfl,jl⟩
   dsimp only
   clear hJ
   by_cases hmany:(100:Int) < (t.us.length:Int)
   ·have HNO:Hid (¬ PL l):=fun h=>by have:=(HPL.out.1 h).1;omega
    have hend:Fr [] w w11:=hw2.trans jl.fr (by simp;omega)
    have HR:=jl.fr.heap hR2 (by simp;omega)
    clear jl
    have HR2:=hid HR
    clear HR
    go_wp2_with (first|(refine zq4 rfl 90 rfl Tryz.zeroCells90 jj5 ?_)|(refine wpList_store_row rfl 90 _ _ rfl w.heap.size Tryz.zeroCells90 rfl rfl 90 Tryz.zeroCells90 HR2.out jk5 rfl xk6 ?_))
    refine bodyPost_ret (v:=.tuple #[.agg Tryz.zeroCells90,.bool false]) (qq3 Tryz.results90 _ _ w.heap.size 90 Tryz.zeroCells90 (0,0) _ _ rfl rfl (setRow_heap _ _ _ _ _ _ HR2.out) Tryz.underlying90 rfl jk5) rfl (HRS.out _ _ (Or.inr ⟨HNO.out,by rw [jz7],hend.setRow _ _ (Or.inr (Nat.le_refl _))⟩))
   have hlei:¬ (100:Int) < (t.us.length:Int):=hmany
   have hlen:t.us.length<=100:=by omega
   clear hmany
   go_wp2_with fail
   obtain ⟨inf,hi0,hz0,hz1,hz2⟩:=info_parts jv6
   have hAl:A < W2.heap.size:=by
    rw [HA.out]
    exact HAL.out
   have hrl:rb < W2.heap.size:=by have:=HRL.out;have:=HAL.out;omega
   have hnA:∀ v:Value,(∀ b,v.ownBlock=some b->W2.heap.size<=b)->v.ownBlock≠some A/\v.ownBlock≠some rb:=fun v hv=>⟨fun e=>by have:=hv A e;omega,fun e=>by have:=hv rb e;omega⟩
   have HnA:=hid hnA
   have HHA:=hid hAl
   clear hnA
   go_loopw [47] (fun i wr=>∃ (k:Nat) (pv:Value),k<=t.us.length/\i=.int .i64 k/\RJ W2 l rb A (150+11*k) (rdT t 4 144 k) pv wr/\wr.ownsRow W2.heap.size 85 11 pv k ((t.us.take k).flatMap U.cells)/\Hid (k=0->pv=.slice none 0 0)) (fun i _=>t.us.length - (intOf i).toNat)
   case atStart=>exact ⟨0,.slice none 0 0,by omega,rfl,jl,⟨rfl,Or.inl ⟨rfl,rfl⟩⟩,(show Hid _ from fun _=>rfl)⟩
   case round =>
    obtain ⟨k,pv,hk,rfl,hJ,hown,HNIL⟩:=hrel
    clear jl
    by_cases hlt:k < t.us.length
    ·have hlti:(k:Int) < (t.us.length:Int):=by omega
     obtain ⟨u,hu⟩:∃ u,t.us[k]?=some u:=⟨t.us[k],List.getElem?_eq_getElem hlt⟩
     have hnu:=HRD.out.nu k u hu
     have hJd:RJ W2 l rb A (150+11*k) (rdT t 4 144 k) pv wr.drew:=⟨⟨hJ.rd.all⟩,hJ.g,hJ.fr.drew⟩
     have HUN:Hid (Calls Tryz.prog 132 #[.pointer (some ⟨rb,0,none⟩)] wr.drew fun e w'=>∃ r,e=.returned r/\(r=u.val/\RJ W2 l rb A (150+11*k+11) (rdT t 4 144 k) pv w'/\Fr [rb] wr.drew w')):=Calls.mono (hJd.unit hne hl hnu) (fun e w' h=>⟨u.val,h.1,rfl,h.2⟩)
     have HTK:Hid ((t.us.take (k+1)).flatMap U.cells=(t.us.take k).flatMap U.cells ++ u.cells):=by
      show _=_
      obtain ⟨hl',rfl⟩:=List.getElem?_eq_some_iff.1 hu
      rw [List.take_succ_eq_append_getElem hl',List.flatMap_append]
      simp
     have hob:∀ b,pv.ownBlock=some b->W2.heap.size<=b:=fun b hb=>qj1 hown hb
     have HOB:=hid hob
     have HOW:Hid (wr.ownsRow W2.heap.size 85 11 pv k ((t.us.take k).flatMap U.cells)):=hown
     have hc:=hJ.at148
     have hgA:A < wr.heap.size:=qq2 hJ.g
     clear hJ hJd hown hob hu hnu
     go_wp2_with fail
     go_region_law (first
      | (refine qy5 rfl (.tmp 50) (.tmp 53) 82 rfl W2.heap.size 85 inf zeroU.val 11 88 Tryz.underlying82 hi0 hz0 hz1 hz2 rfl (by decide) pv k ((t.us.take k).flatMap U.cells) (by simp [Act.eval]) HO2.out ⟨w3.heap.size,0,none⟩ 1 1 u.cells (by simp [Act.eval]) rfl (fv3 u w3) (by simp [Value.oneCell']) (by unfold maxLen;omega) (by omega) (by simp;omega) ?_;intro v' w4 hown' hgrow hat;obtain ⟨g',cap',rfl⟩:=qx0 hown' (by omega);have hgf:=Fr.grow (S:=pv.ownBlock.toList) (Fr.refl _ _) hgrow (fun g hg=>Or.inl (by simp [hg]));have hc4:w4.cell? ⟨A,148,none⟩=some pv:=(hgf.cell A 148 (by simp;omega) (by have:=(HnA.out pv HOB.out).1;simp;exact this)).trans ((((Fr.refl [] w3).alloc _).cell A 148 hA3 (by simp)).trans hc3);have hz4:w4.frozen? ⟨A,148,none⟩=false:=(hgf.frozen A 148 (by simp;omega) (by have:=(HnA.out pv HOB.out).1;simp;exact this)).trans ((((Fr.refl [] w3).alloc _).frozen A 148 hA3 (by simp)).trans hz3))
      | (refine gw6 rfl 132 51 222 rfl (.pointer (some ⟨rb,0,none⟩)) rfl (fun _=>by kernel_rfl) HUN.out ?_;rintro r w3 ⟨rfl,ju,hfu⟩;have hc3:=ju.at148;have hz3:=ju.fz 148;have hA3:A < w3.heap.size:=qq2 ju.g;have hs3:=ju.fr.size;have HO2:Hid ((w3.alloc (.cells u.arr 85)).ownsRow W2.heap.size 85 11 pv k ((t.us.take k).flatMap U.cells)):=qq7 HOW.out (Fr.alloc (S:=[rb]) (Fr.trans (Fr.drew (Fr.refl [rb] wr)) hfu (by simp)) _) (fun b hb=>by have:=HOB.out b hb;simp;omega)))
     all_goals
      go_wp2_with fail
      go_roundw
      case rel =>
       obtain ⟨nA,nR⟩:=HnA.out pv HOB.out
       have hg1:W2.heap.size<=g':=qj1 hown' rfl
       have j4:RJ W2 l rb A (150+11*k+11) (rdT t 4 144 k) pv w4:=by
        refine ⟨⟨?_⟩,?_,(ju.fr.alloc _).grow hgrow (fun g hg=>Or.inr (HOB.out g hg))⟩
        ·exact hgf.heap (((Fr.refl [] w3).alloc _).heap0 ju.rd.all) (by simp;exact nR)
        ·exact hgf.heap (((Fr.refl [] w3).alloc _).heap0 ju.g) (by simp;exact nA)
       refine ⟨k+1,_,hlt,by go_num,j4.put (t':=rdT t 4 144 (k+1)) (pv':=.slice (some ⟨g',0,none⟩) (k+1) cap') hne 148 _ (by omega) (qxj0 t _ _ _ _) rfl,?_⟩
       refine ⟨?_,(show Hid _ from fun h=>by omega)⟩
       rw [HTK.out]
       refine qq7 hown' ((Fr.refl [A] w4).setCell _ _ (by simp)) (fun b hb=>?_)
       simp [Value.ownBlock] at hb
       have:=HHA.out
       simp
       omega
      case measure=>simp [intOf];omega
    ·have hlti:¬ (k:Int) < (t.us.length:Int):=by omega
     have hke:k=t.us.length:=by omega
     subst hke
     rw [List.take_length] at hown
     have hdn:=dj3 rb _ _ wr hJ.rd
     obtain ⟨D,hD⟩:∃ b,b=(!(rdN l false (150+11*t.us.length)).2&&(rdN l false (150+11*t.us.length)).1.isEmpty):=⟨_,rfl⟩
     rw [<- hD] at hdn
     have HDN:=hid hdn
     have HD:Hid (D=true↔rdN l false (150+11*t.us.length)=([],false)):=by
      show _↔_
      rw [hD]
      generalize rdN l false (150+11*t.us.length)=r
      obtain ⟨r1,r2⟩:=r
      cases r2 <;> simp
     have hwr2:Fr [rb,A] W2 wr:=hJ.fr
     have hend0:Fr [] w wr:=hw2.trans hwr2 (by simp;omega)
     have hRr:=hwr2.heap hR2 (by simp;omega)
     clear hdn hD
     rcases Nat.eq_zero_or_pos t.us.length with hz0|hne0
     ·have HNO:Hid (¬ PL l):=fun h=>by
       have hq:=(HPL.out.1 h).2.2.2.1.bs
       dsimp only at hq
       rw [List.length_eq_zero_iff] at hz0
       rw [hz0] at hq
       simp at hq
      have hpv:=HNIL.out hz0
      subst hpv
      have HMB:Hid (∀ w',Fr [] wr w'->Calls Tryz.prog 133 #[.pointer (some ⟨A,0,none⟩)] w' fun e w''=>e=.returned (.bool false)/\Fr [] w' w''):=fun w' hf=>fv2 A t w' (fun w'' hf2 j v hv=>by
        have hj:j < 144:=by have:=(List.getElem?_eq_some_iff.1 hv).1;rwa [zz1] at this
        have hAw:A < wr.heap.size:=qq2 hJ.g
        have hff:=hf.then0 hf2
        have hcc:=hff.cell A (4+j) hAw (by simp)
        rw [hcc,hJ.cell (4+j) (by omega),xy7 t _ _ _ (by omega)]
        unfold qk8 at hv
        rw [List.getElem?_map,List.getElem?_range hj] at hv
        simp only [Option.map_some,Option.some.injEq] at hv
        rw [<- hv]
        unfold qq9
        rw [if_neg (by omega),if_neg (by omega),if_neg (by omega),if_neg (by omega),if_pos (by omega),show 4+j - 4=j by omega]) ((hf.cell _ _ (qq2 hJ.g) (by simp)).trans hJ.at148) (by
        rw [hf.cell _ _ (qq2 hJ.g) (by simp),hJ.cell 1 (by omega),xy7 t _ _ _ (by omega)]
        rfl)
      clear hJ hown HNX HnA HNIL hz0
      go_wp2_with fail
      refine Calls.mono HDN.out ?_
      rintro e w12 ⟨rfl,hf12⟩
      dsimp only
      cases D
      ·have hend:=hend0.then0 hf12
       have HR:=hf12.heap0 hRr
       have HR2:=hid HR
       clear HR
       go_wp2_with (first|(refine zq4 rfl 90 rfl Tryz.zeroCells90 jj5 ?_)|(refine wpList_store_row rfl 90 _ _ rfl w.heap.size Tryz.zeroCells90 rfl rfl 90 Tryz.zeroCells90 HR2.out jk5 rfl xk6 ?_))
       refine bodyPost_ret (v:=.tuple #[.agg Tryz.zeroCells90,.bool false]) (qq3 Tryz.results90 _ _ w.heap.size 90 Tryz.zeroCells90 (0,0) _ _ rfl rfl (setRow_heap _ _ _ _ _ _ HR2.out) Tryz.underlying90 rfl jk5) rfl (HRS.out _ _ (Or.inr ⟨HNO.out,by rw [jz7],hend.setRow _ _ (Or.inr (Nat.le_refl _))⟩))
      ·go_wp2_with fail
       refine Calls.mono (HMB.out _ hf12) ?_
       rintro e w13 ⟨rfl,hf13⟩
       dsimp only
       have hend:=hend0.then0 (hf12.then0 hf13)
       have HR:=(hf12.then0 hf13).heap0 hRr
       have HR2:=hid HR
       clear HR
       go_wp2_with (first|(refine zq4 rfl 90 rfl Tryz.zeroCells90 jj5 ?_)|(refine wpList_store_row rfl 90 _ _ rfl w.heap.size Tryz.zeroCells90 rfl rfl 90 Tryz.zeroCells90 HR2.out jk5 rfl xk6 ?_))
       refine bodyPost_ret (v:=.tuple #[.agg Tryz.zeroCells90,.bool false]) (qq3 Tryz.results90 _ _ w.heap.size 90 Tryz.zeroCells90 (0,0) _ _ rfl rfl (setRow_heap _ _ _ _ _ _ HR2.out) Tryz.underlying90 rfl jk5) rfl (HRS.out _ _ (Or.inr ⟨HNO.out,by rw [jz7],hend.setRow _ _ (Or.inr (Nat.le_refl _))⟩))
     obtain ⟨pb,cap,rfl,hrow⟩:∃ pb cap,pv=.slice (some ⟨pb,0,none⟩) t.us.length cap/\PRow wr pb cap t.us:=by
      obtain ⟨pb,cap,h1,h2⟩:=PRow.of_owns hown rfl hne0
      exact ⟨pb,cap,h1,h2.2⟩
     have hpbl:W2.heap.size<=pb:=qj1 hown rfl
     have hgs:GS wr A pb cap t:=by
      refine ⟨fun j hj=>?_,fun j=>hJ.fz j,hrow,by omega,hne0,?_,?_⟩
      ·rw [hJ.cell j hj,xy7 t _ _ j hj]
      ·have:=HHA.out;omega
      ·have:=HHA.out;omega
     have HMB:Hid (∀ w',Fr [] wr w'->Calls Tryz.prog 133 #[.pointer (some ⟨A,0,none⟩)] w' fun e w''=>BP (GOk t/\OS t) w' e w''):=fun w' hf=>fv1 A pb cap t w' (hgs.fr hf (by simp) (by simp)) (HBN.out hlen)
     have HWN:Hid (∀ w',Fr [] wr w'->Calls Tryz.prog 50 #[.pointer (some ⟨A,0,none⟩)] w' fun e w''=>e=.returned (.int .i64 (zk4 t.us))/\Fr [] w' w''):=fun w' hf=>yj1 A pb cap t.us w' (hgs.gv.fr0 hf)
     have HGL:Hid (wr.heap[A]?=some (.cells (qz5 t (.slice (some ⟨pb,0,none⟩) t.us.length cap)).toArray 90)):=by
      show _=_
      rw [hJ.g]
      have:qz5 (rdT t 4 144 t.us.length) (.slice (some ⟨pb,0,none⟩) t.us.length cap)=qz5 t (.slice (some ⟨pb,0,none⟩) t.us.length cap):=by
       unfold qz5
       apply List.map_congr_left
       intro j hj
       exact xy7 t _ _ j (List.mem_range.1 hj)
      rw [this]
     have HLN:Hid (t.us.length<=100):=hlen
     clear hJ hown hgs HNX HnA HNIL hlen
     go_wp2_with fail
     refine Calls.mono HDN.out ?_
     rintro e w12 ⟨rfl,hf12⟩
     dsimp only
     cases D
     ·have HNO:Hid (¬ PL l):=fun h=>by have:=HD.out.2 (HPL.out.1 h).2.2.1;cases this
      have hend:=hend0.then0 hf12
      have HR:=hf12.heap0 hRr
      have HR2:=hid HR
      clear HR
      go_wp2_with (first|(refine zq4 rfl 90 rfl Tryz.zeroCells90 jj5 ?_)|(refine wpList_store_row rfl 90 _ _ rfl w.heap.size Tryz.zeroCells90 rfl rfl 90 Tryz.zeroCells90 HR2.out jk5 rfl xk6 ?_))
      refine bodyPost_ret (v:=.tuple #[.agg Tryz.zeroCells90,.bool false]) (qq3 Tryz.results90 _ _ w.heap.size 90 Tryz.zeroCells90 (0,0) _ _ rfl rfl (setRow_heap _ _ _ _ _ _ HR2.out) Tryz.underlying90 rfl jk5) rfl (HRS.out _ _ (Or.inr ⟨HNO.out,by rw [jz7],hend.setRow _ _ (Or.inr (Nat.le_refl _))⟩))
     have HD2:Hid (rdN l false (150+11*t.us.length)=([],false)):=HD.out.1 rfl
     clear HD
     go_wp2_with fail
     refine Calls.mono (HMB.out _ hf12) ?_
     rintro e w13 ⟨b,rfl,hbb,hf13⟩
     dsimp only
     have hf13':=hf12.then0 hf13
     have HBB:=hid hbb
     clear hbb
     cases b
     ·have HNO:Hid (¬ PL l):=fun h=>by have:=HBB.out.2 (HPL.out.1 h).2.2.2;cases this
      have hend:=hend0.then0 hf13'
      have HR:=hf13'.heap0 hRr
      have HR2:=hid HR
      clear HR
      go_wp2_with (first|(refine zq4 rfl 90 rfl Tryz.zeroCells90 jj5 ?_)|(refine wpList_store_row rfl 90 _ _ rfl w.heap.size Tryz.zeroCells90 rfl rfl 90 Tryz.zeroCells90 HR2.out jk5 rfl xk6 ?_))
      refine bodyPost_ret (v:=.tuple #[.agg Tryz.zeroCells90,.bool false]) (qq3 Tryz.results90 _ _ w.heap.size 90 Tryz.zeroCells90 (0,0) _ _ rfl rfl (setRow_heap _ _ _ _ _ _ HR2.out) Tryz.underlying90 rfl jk5) rfl (HRS.out _ _ (Or.inr ⟨HNO.out,by rw [jz7],hend.setRow _ _ (Or.inr (Nat.le_refl _))⟩))
     have HGO:Hid (GOk t/\OS t):=HBB.out.1 rfl
     clear HBB
     go_wp2_with fail
     refine Calls.mono (HWN.out _ hf13') ?_
     rintro e w14 ⟨rfl,hf14⟩
     dsimp only
     have hf14':=hf13'.then0 hf14
     obtain ⟨wi,hwi⟩:∃ x,zk4 t.us=x:=⟨_,rfl⟩
     rw [hwi] at HPL |-
     by_cases hwe:wi=wn
     rotate_left
     ·have HNO:Hid (¬ PL l):=fun h=>by have:=(HPL.out.1 h).2.1;rw [HWI.out] at this;exact hwe this.symm
      have hwb:(wi==wn)=false:=by simpa using hwe
      have hend:=hend0.then0 hf14'
      have HR:=hf14'.heap0 hRr
      clear hwi
      have HR2:=hid HR
      clear HR
      go_wp2_with (first|(refine zq4 rfl 90 rfl Tryz.zeroCells90 jj5 ?_)|(refine wpList_store_row rfl 90 _ _ rfl w.heap.size Tryz.zeroCells90 rfl rfl 90 Tryz.zeroCells90 HR2.out jk5 rfl xk6 ?_))
      refine bodyPost_ret (v:=.tuple #[.agg Tryz.zeroCells90,.bool false]) (qq3 Tryz.results90 _ _ w.heap.size 90 Tryz.zeroCells90 (0,0) _ _ rfl rfl (setRow_heap _ _ _ _ _ _ HR2.out) Tryz.underlying90 rfl jk5) rfl (HRS.out _ _ (Or.inr ⟨HNO.out,by rw [jz7],hend.setRow _ _ (Or.inr (Nat.le_refl _))⟩))
     have HPL2:Hid (PL l):=HPL.out.2 ⟨HLN.out,by rw [HWI.out];exact hwe.symm,HD2.out,HGO.out.1,HGO.out.2⟩
     subst hwe
     clear hwi
     obtain ⟨gl,hgl⟩:∃ x,x=qz5 t (.slice (some ⟨pb,0,none⟩) t.us.length cap):=⟨_,rfl⟩
     have hll:gl.length=149:=by rw [hgl];exact zq7 _ _
     have HO:Hid (gl.toArray.all (·.oneCell')=true):=by
      show _=_
      rw [hgl];exact zx9 _ _ _ _
     have HI:Hid ((Tryz.prog.info? 90).map (·.size)=some gl.toArray.size):=by
      show _=_
      rw [qx7,List.size_toArray,hll]
     have HZ:Hid (Tryz.zeroCells90.size=gl.toArray.size):=by
      show _=_
      exact zcGame.trans (by simp [hll])
     have hga:=HGL.out
     rw [<- hgl] at hga
     have HG14:Hid (w14.heap[A]?=some (.cells gl.toArray 90)):=hf14'.heap0 hga
     have HR14:Hid (w14.heap[w.heap.size]?=some (.cells Tryz.zeroCells90 90)):=hf14'.heap0 hRr
     have HGE:=hid hgl
     clear hll hga hgl HGL
     go_wp2_with (first|(refine wpList_load_row rfl 90 _ rfl A rfl 90 gl.toArray (0,0) _ HG14.out Tryz.underlying90 rfl HI.out ?_)|(refine wpList_store_row rfl 90 _ _ rfl w.heap.size gl.toArray rfl rfl 90 Tryz.zeroCells90 HR14.out HI.out HZ.out HO.out ?_))
     have hend:Fr [] w w14:=hend0.then0 hf14'
     have hpw:w.heap.size<=pb:=by have:=hw2.size;omega
     refine bodyPost_ret (v:=.tuple #[.agg gl.toArray,.bool true]) (qq3 Tryz.results90 _ _ w.heap.size 90 gl.toArray (0,0) _ _ rfl rfl (setRow_heap _ _ _ _ _ _ HR14.out) Tryz.underlying90 rfl HI.out) rfl (HRS.out _ _ (Or.inl ⟨HPL2.out,pb,cap,by rw [HGE.out],?_,hpw,hend.setRow _ _ (Or.inr (Nat.le_refl _))⟩))
     have hp14:=hrow.fr hf14' (by simp)
     exact hp14.fr (((Fr.refl [w.heap.size] w14).setRow _ _ (Or.inl (by simp)))) (by simp;have:=HHA.out;omega)
theorem dj9 {t:T}(h:GOk t):0 < t.us.length/\t.us.length<=100:=by
 have hb:=h.bs
 dsimp only at hb
 have h2:t.us.length<=100:=h.len
 rcases Nat.eq_zero_or_pos t.us.length with e|e
 ·rw [List.length_eq_zero_iff] at e
  rw [e] at hb
  simp at hb
 ·exact ⟨e,h2⟩
theorem dw7 (l:List UInt8)(w:World)(hl:l.length<=2000000)(hw0:0 < w.heap.size) :
  Calls Tryz.prog 103 #[.string ⟨l.toArray⟩] w fun e w'=>((PL l/\∃ gb pb cap,e=.returned (.tuple #[.pointer (some ⟨gb,0,none⟩),.int .i64 0])/\GS w' gb pb cap (qj5 l)/\w.heap.size<=gb/\w.heap.size<=pb)\/(¬ PL l/\e=.returned (.tuple #[.pointer none,.int .i64 2])))/\Fr [] w w':=by
 have HRS:Hid (∀ w',0 < w'.heap.size->Calls Tryz.prog 90 #[.string ⟨l.toArray⟩] w' fun e w''=>RSP l w' e w''):=fun w' h0=>vy9 l w' hl h0
 have HNE:Hid (PL l->0 < (qj5 l).us.length/\(qj5 l).us.length<=100):=fun h=>dj9 h.ok
 obtain ⟨t,ht⟩:∃ t,t=qj5 l:=⟨_,rfl⟩
 have HRS2:Hid (∀ w',0 < w'.heap.size->Calls Tryz.prog 90 #[.string ⟨l.toArray⟩] w' fun e w''=>RSQ l t w' e w''):=by rw [ht];exact HRS
 clear HRS
 have HRS:=HRS2
 clear HRS2
 rw [<- ht] at HNE |-
 clear ht
 go_enter Tryz.func103,Tryz.ntmps103
 go_wp2_with fail
 refine Calls.mono (HRS.out _ hw0) ?_
 rintro e w1 (⟨hpl,pb,cap,rfl,hrow,hpb,hf1⟩|⟨hpl,rfl,hf1⟩)
 ·dsimp only
  obtain ⟨hne,hlen⟩:=HNE.out hpl
  have HPL:=hid hpl
  obtain ⟨gl,hgl⟩:∃ x,x=qz5 t (.slice (some ⟨pb,0,none⟩) t.us.length cap):=⟨_,rfl⟩
  rw [<- hgl]
  have hll:gl.length=149:=by rw [hgl];exact zq7 _ _
  have HO:Hid (gl.toArray.all (·.oneCell')=true):=by
   show _=_
   rw [hgl];exact zx9 _ _ _ _
  have HGE:=hid hgl
  have HL2:Hid ((Tryz.prog.info? 90).map (·.size)=some gl.toArray.size):=by
   show _=_
   rw [qx7,List.size_toArray,hll]
  have HL3:Hid (Tryz.zeroCells90.size=gl.toArray.size):=by
   show _=_
   exact zcGame.trans (by simp [hll])
  have HBS:Hid (Tryz.prog.built 100 [(0,.agg gl.toArray)]=some gl.toArray):=kj4 _ (by simp [hll])
  have HH:Hid (((w1.alloc (.cells Tryz.zeroCells90 90)).setRow w1.heap.size gl.toArray).heap[w1.heap.size]?=some (.cells gl.toArray 90)):=setRow_heap _ _ _ _ _ _ (qq6 _ _)
  clear hgl hll HRS hpl HNE
  go_wp2_with (first|(refine wpList_store_row rfl 90 _ _ rfl w1.heap.size gl.toArray rfl rfl 90 Tryz.zeroCells90 (qq6 w1 _) HL2.out HL3.out HO.out ?_)|(refine wpList_load_row rfl 90 _ rfl w1.heap.size rfl 90 gl.toArray (0,0) _ HH.out Tryz.underlying90 rfl HL2.out ?_)|(refine yq7 rfl 100 0 (.tmp 13) rfl (.agg gl.toArray) rfl gl.toArray HBS.out ?_))
  have hs1:=hf1.size
  have hF:Fr [] w (((w1.alloc (.cells Tryz.zeroCells90 90)).setRow w1.heap.size gl.toArray).alloc (.cells gl.toArray 100)):=((hf1.alloc _).setRow _ _ (Or.inr hs1)).alloc _
  have h1F:Fr [] w1 (((w1.alloc (.cells Tryz.zeroCells90 90)).setRow w1.heap.size gl.toArray).alloc (.cells gl.toArray 100)):=(((Fr.refl _ _).alloc _).setRow _ _ (Or.inr (Nat.le_refl _))).alloc _
  have hh:(((w1.alloc (.cells Tryz.zeroCells90 90)).setRow w1.heap.size gl.toArray).alloc (.cells gl.toArray 100)).heap[w1.heap.size+1]?=some (.cells gl.toArray 100):=yq1 _ _ _ (by simp)
  have hpl:=hrow.lt
  refine bodyPost_ret (v:=.tuple #[.pointer (some ⟨w1.heap.size+1,0,none⟩),.int .i64 0]) (by simp [results,Tryz.results103,go_sem]) rfl ⟨Or.inl ⟨HPL.out,w1.heap.size+1,pb,cap,rfl,⟨fun k hk=>?_,fun k=>qq0 hh,hrow.fr h1F (by simp),by omega,hne,by omega,by omega,by omega⟩,by omega,hpb⟩,hF⟩
  rw [j9 hh,HGE.out]
  simp only [List.getElem?_toArray]
  unfold qz5
  rw [List.getElem?_map,List.getElem?_range hk]
  rfl
 ·dsimp only
  have HPL:=hid hpl
  obtain ⟨gl,hgl⟩:∃ x,x=qz5 gz7 (.slice none 0 0):=⟨_,rfl⟩
  rw [<- hgl]
  have hll:gl.length=149:=by rw [hgl];exact zq7 _ _
  have HO:Hid (gl.toArray.all (·.oneCell')=true):=by
   show _=_
   rw [hgl,<- jz7];kernel_rfl
  have HL2:Hid ((Tryz.prog.info? 90).map (·.size)=some gl.toArray.size):=by
   show _=_
   rw [qx7,List.size_toArray,hll]
  have HL3:Hid (Tryz.zeroCells90.size=gl.toArray.size):=by
   show _=_
   exact zcGame.trans (by simp [hll])
  clear hgl hll HRS hpl HNE
  have hs1:=hf1.size
  go_wp2_with (first|(refine wpList_store_row rfl 90 _ _ rfl w1.heap.size gl.toArray rfl rfl 90 Tryz.zeroCells90 (qq6 w1 _) HL2.out HL3.out HO.out ?_))
  have hF:Fr [] w ((w1.alloc (.cells Tryz.zeroCells90 90)).setRow w1.heap.size gl.toArray):=(hf1.alloc _).setRow _ _ (Or.inr hs1)
  refine bodyPost_ret (v:=.tuple #[.pointer none,.int .i64 2]) (by simp [results,Tryz.results103,go_sem]) rfl ⟨Or.inr ⟨HPL.out,rfl⟩,hF⟩
end Go.Proofs.YtapabahhfanmmaaGreatDoor
