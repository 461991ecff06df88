import Derived.Test.YtapabahhfanmmaaGreatDoorCRefH
namespace Go.Proofs.YtapabahhfanmmaaGreatDoor
open Go.RowKit List
set_option maxHeartbeats 2000000
set_option maxRecDepth 100000
theorem PX (b L t:Nat)(us:List U)(o:Int)(w:World)(v:GV w b L t us) :
  Cs 137 #[.pointer (so b),.int .i64 o] w fun e M=>e=.returned (.int .i64 (gH (fJ us o)))/\w=M:=by
 have y:=v.len
 have I:=v.c
 have hb:=aI I
 go_enter Tryz.func137,Tryz.ntmps137
 go_wp2_with fail
 go_loopw [5] (fun i wr=>∃ k:Nat,k<=us.length/\i=.int .i64 k/\(∀ j,j < k->∀ (h:j < us.length),aT o us[j]=false)/\w=wr) (fun i _=>us.length - (intOf i).toNat)
 case atStart=>exact ⟨0,Nat.zero_le _,rfl,fun j h=>by omega,rfl⟩
 obtain ⟨k,P,rfl,n,rfl⟩:=hrel
 have l:=v
 have J:=l.c
 have q:=aA n
 clear n
 by_cases d:k < us.length
 ·have m:(k:Int) < (us.length:Int):=by omega
  obtain ⟨u,x⟩:∃ u,us[k]?=some u:=⟨us[k],getElem?_eq_getElem d⟩
  obtain ⟨z,N,O,A,B,C,D,E,F,H,s⟩:=l.p.at x
  have r:=(show Hi (us[k]?=some u) from x)
  clear x z A B C D E F H s
  by_cases a:(u.kind==1)=true
  ·by_cases f:(u.owner==o)=true
   ·have g:Hi (aT o u=true):=by simp [Hi,aT,a,f]
    go_wp2_with fail
    go_ret
    exact ⟨by unfold fJ;rw [qY r.o g.o q.o];rfl,rfl⟩
   simp only [Bool.not_eq_true] at f
   have g:Hi (aT o u=false):=by simp [Hi,aT,f]
   go_wp2_with fail
   go_roundw
   case rel=>exact ⟨k+1,d,by go_num,kK r.o g.o q.o,trivial⟩
   case measure=>simp [intOf];omega
  simp only [Bool.not_eq_true] at a
  have g:Hi (aT o u=false):=by simp [Hi,aT,a]
  go_wp2_with fail
  go_roundw
  case rel=>exact ⟨k+1,d,by go_num,kK r.o g.o q.o,trivial⟩
  case measure=>simp [intOf];omega
 have m:¬ (k:Int) < (us.length:Int):=by omega
 go_wp2_with fail
 go_ret
 exact ⟨by unfold fJ;rw [qX (fun j K=>q.o j (by omega) K)];rfl,rfl⟩
theorem RG.setG {w:World}{c i b:Nat}{t g:T}(h:RG w c i b t)(d:Nat)(l:d < 148)(v:Value)(a:g.us=t.us)(j:∀ pv k,k < 149->dF g pv k=if k=d then v else dF t pv k):RG (w.setCell ⟨c,d,none⟩ v) c i b g:=by
 refine ⟨fun k f=>?_,fun k=>by rw [World.frozen?_setCell];exact h.fz k,?_,by rw [a];exact h.len,h.ne⟩
 ·rw [j _ k f,a]
  by_cases e:k=d
  ·subst e
   rw [dO _ _ _ _ _ (h.cell k f),if_pos rfl]
  rw [cA _ _ _ _ _ _ (.inr (fun x=>e x.symm)),if_neg e,h.cell k f]
 rw [a]
 exact h.row.fr (S:=[c]) ((r0 _ _).setCell _ _ (.inl (by simp))) (by simpa using fun e=>h.ne e.symm)
theorem RG.setS0 {w:World}{b c a:Nat}{t:T}(h:RG w b c a t)(v:Int):RG (w.setCell ⟨b,145,none⟩ (ii v)) b c a { t with s0:=v }:=h.setG 145 (by omega) _ rfl (fun pv k d=>by
 by_cases e:k=145
 ·subst e;rfl
 simp [dF,e])
theorem RG.setS1 {w:World}{b c a:Nat}{t:T}(h:RG w b c a t)(v:Int):RG (w.setCell ⟨b,146,none⟩ (ii v)) b c a { t with s1:=v }:=h.setG 146 (by omega) _ rfl (fun pv k d=>by
 by_cases e:k=146
 ·subst e;rfl
 simp [dF,e])
theorem RG.setNx {w:World}{b c a:Nat}{t:T}(h:RG w b c a t)(v:Int):RG (w.setCell ⟨b,147,none⟩ (ii v)) b c a { t with next:=v }:=h.setG 147 (by omega) _ rfl (fun pv k d=>by
 by_cases e:k=147
 ·subst e;rfl
 simp [dF,e])
theorem RG.setTn {w:World}{b c a:Nat}{t:T}(h:RG w b c a t)(v:Int):RG (w.setCell ⟨b,0,none⟩ (ii v)) b c a { t with turn:=v }:=h.setG 0 (by omega) _ rfl (fun pv k d=>by
 by_cases e:k=0
 ·subst e;rfl
 simp [dF,e])
theorem RG.setB {w:World}{c d a:Nat}{t:T}(h:RG w c d a t){j:Nat}(f:j < 144)(v:Int):RG (w.setCell ⟨c,1+j,none⟩ (ii v)) c d a (t.setBd j v):=h.setG (1+j) (by omega) _ rfl (fun pv k g=>by
 by_cases e:k=1+j
 ·subst e
  unfold dF
  rw [if_neg (by omega),if_pos (by omega),if_pos rfl]
  simp [T.setBd]
 rw [if_neg e]
 unfold dF T.setBd
 dsimp only
 by_cases b:k=0
 ·rw [if_pos b,if_pos b]
 rw [if_neg b,if_neg b,if_neg (show ¬ k - 1=j by omega)])
theorem DA {t:T}{u:U}(hw:u.what=2):dN t u=cD (dM t u).2 (dM t u).1:=by unfold dN cK;simp [hw]
theorem DO {t:T}(a:bD t.us=false){o:Int}(ho:o=0\/o=1):∃ k b,fJ t.us o=some k/\t.us[k]?=some b/\bT t.us o=some b:=by
 have hb:(bT t.us o).isSome=true:=by
  unfold bD at a
  simp at a
  rcases ho with rfl|rfl
  ·exact a.1
  exact a.2
 obtain ⟨b,hb⟩:=Option.isSome_iff_exists.1 hb
 unfold bT at hb |-
 rw [find?_eq_some_iff_getElem] at hb
 obtain ⟨h1,k,d,c,e⟩:=hb
 refine ⟨k,b,?_,by rw [getElem?_eq_getElem d,c],?_⟩
 ·unfold fJ
  rw [findIdx?_eq_some_iff_getElem]
  exact ⟨d,by rw [c];exact h1,fun j f=>by simpa using e j f⟩
 rw [find?_eq_some_iff_getElem]
 exact ⟨h1,k,d,c,e⟩
theorem QH (g f z:Nat)(t:T)(i:Nat)(u:U)(w:World)(h:RG w g f z t)(hi:t.us[i]?=some u)(Zr:TOk t)(Zs:OS t)(co:bD t.us=false)(hw:u.what=2) :
  Cs 181 #[.pointer (so g),.int .i64 i] w fun e d=>e=.returned (.tuple #[])/\RStep w g f (dN t u) d:=by
 rw [DA hw]
 obtain ⟨R,hR⟩:∃ R:T,R=cD (dM t u).2 (dM t u).1:=⟨_,rfl⟩
 rw [<- hR]
 have HR:=aA hR
 have hu:=Zr.all u (mem_of_getElem? hi)
 obtain ⟨aa,cr⟩:aD u.tox u.toy=true/\t.bd (ci u.tox u.toy)≠10:=by
  rcases Zs u (mem_of_getElem? hi) with ⟨a,_⟩|⟨_,a,b,_⟩|⟨a,_⟩|⟨a,_⟩
  ·omega
  ·exact ⟨a,b⟩
  ·omega
  omega
 clear hR hw Zs
 have cw:=h.len
 have db:=(gs.1 hi).1
 have ct:(i:Int) < (t.us.length:Int):=by omega
 obtain ⟨p0,p1,p2,p3⟩:=bM.1 hu.on
 obtain ⟨t0,t1,t2,t3⟩:=bM.1 aa
 obtain ⟨k,b,br,Zq,bs⟩:=DO co hu.ow
 have dc:=(gs.1 Zq).1
 have cu:(k:Int) < (t.us.length:Int):=by omega
 have ck:=Zr.all b (mem_of_getElem? Zq)
 obtain ⟨b0,b1,b2,b3⟩:=bM.1 ck.on
 have hc:=h.c148
 obtain ⟨c0,c1,c2,c3,c4,c5,c6,c7,c8,c9,cj⟩:=h.gv.p.at hi
 obtain ⟨W1,aq⟩:∃ W,W=w.alloc (.cells u.arr 85):=⟨_,rfl⟩
 have bg:Fr [] w W1:=by rw [aq];exact (r0 _ _).alloc _
 have bj:W1.heap[w.heap.size]?=some (.cells u.arr 85):=by rw [aq];exact aC _ _
 have ch:=aA aq
 have X:=aA Zr
 have O:=aA hi
 have HH:=aA h
 have ce:=aA bs
 have cg:=aA Zq
 have HB:Hi (∀ W,Fr [] W1 W->Cs 137 #[.pointer (so g),.int .i64 u.owner] W fun e d=>e=.returned (.int .i64 k)/\W=d):=fun W hf=>by
  have:=PX g f z t.us u.owner W (h.fr0 (bg.then0 hf)).gv
  rw [br] at this
  exact this
 have HS:∀ d,Fr [] W1 d->(fun d:World=>d.cell? ⟨g,148,none⟩=some (.slice (so f) t.us.length z)/\cl d w.heap.size 1 u.owner/\d.cell? ⟨f,k*11,none⟩=some (ii b.id)/\d.cell? ⟨f,k*11+1,none⟩=some (ii b.owner)/\d.cell? ⟨f,k*11+2,none⟩=some (ii b.kind)/\d.cell? ⟨f,k*11+3,none⟩=some (ii b.x)/\d.cell? ⟨f,k*11+4,none⟩=some (ii b.y)/\d.cell? ⟨f,k*11+5,none⟩=some (ii b.life)/\d.cell? ⟨f,k*11+6,none⟩=some (ii b.load)/\d.cell? ⟨f,k*11+7,none⟩=some (ii b.what)/\d.cell? ⟨f,k*11+8,none⟩=some (ii b.tox)/\d.cell? ⟨f,k*11+9,none⟩=some (ii b.toy)/\d.cell? ⟨f,k*11+10,none⟩=some (ii b.target)) d:=fun d hf=>by
  have hg:=HH.o.fr0 (bg.then0 hf)
  exact ⟨hg.c148,aB (hf.heap0 bj),hg.gv.p.at cg.o⟩
 have KF:Fr [] W1 W1.drew:=(r0 _ _).drew
 have K0:=HS _ KF
 clear Zr hi h aq br Zq bs
 go_enter Tryz.func181,Tryz.ntmps181
 go_wp2_with fail
 rw [<- ch.o]
 clear c0 c1 c2 c3 c4 c5 c6 c7 c8 c9 cj hc
 obtain ⟨vb,bk⟩:∃ x,x=W1.heap.size:=⟨_,rfl⟩
 have bn:=aA bk
 go_cut [5] (fun s5 wx=>s5=.pointer (so vb)/\Fr [] W1 wx/\wx.heap[vb]?=some (.cells b.arr 85))
 case first =>
  clear bk
  go_region_held (fun d:World=>d.cell? ⟨g,148,none⟩=some (.slice (so f) t.us.length z)/\d.cell? ⟨w.heap.size,1,none⟩=some (ii u.owner)/\d.cell? ⟨f,k*11,none⟩=some (ii b.id)/\d.cell? ⟨f,k*11+1,none⟩=some (ii b.owner)/\d.cell? ⟨f,k*11+2,none⟩=some (ii b.kind)/\d.cell? ⟨f,k*11+3,none⟩=some (ii b.x)/\d.cell? ⟨f,k*11+4,none⟩=some (ii b.y)/\d.cell? ⟨f,k*11+5,none⟩=some (ii b.life)/\d.cell? ⟨f,k*11+6,none⟩=some (ii b.load)/\d.cell? ⟨f,k*11+7,none⟩=some (ii b.what)/\d.cell? ⟨f,k*11+8,none⟩=some (ii b.tox)/\d.cell? ⟨f,k*11+9,none⟩=some (ii b.toy)/\d.cell? ⟨f,k*11+10,none⟩=some (ii b.target))
   (first|with_reducible exact K0|(refine HS _ ?_;with_reducible exact (r0 _ _).drew.alloc _)|(refine HS _ ?_;with_reducible exact ((r0 _ _).alloc _).drew))
   (first|(go_at_call 137;refine (HB.o _ (by first|exact (r0 _ _).drew|exact (r0 _ _).drew.alloc _|exact ((r0 _ _).alloc _).drew)).mono ?_;rintro e w2 ⟨rfl,rfl⟩))
  all_goals
   go_wp2_with fail
   go_meet
   refine ⟨by rw [bn.o],((r0 _ _).alloc _).drew,?_⟩
   rw [nR,bn.o]
   exact aC _ _
 case rest =>
  obtain ⟨rfl,bi,av⟩:=hcut
  clear bk K0 KF HS HB
  have ah:=bi.heap0 bj
  have cb:=bg.then0 bi
  have ux:wc.cell? ⟨w.heap.size,3,none⟩=some (ii u.x):=aB ah
  have uy:wc.cell? ⟨w.heap.size,4,none⟩=some (ii u.y):=aB ah
  have cc:wc.cell? ⟨w.heap.size,8,none⟩=some (ii u.tox):=aB ah
  have cd:wc.cell? ⟨w.heap.size,9,none⟩=some (ii u.toy):=aB ah
  have bx:wc.cell? ⟨vb,3,none⟩=some (ii b.x):=aB av
  have bY:wc.cell? ⟨vb,4,none⟩=some (ii b.y):=aB av
  have cf:=(show Hi _ from HH.o.fr0 cb)
  go_wp2_with fail
  refine Calls.mono (oU u.x u.y b.x b.y _ (by omega) (by omega) (by omega) (by omega) (by omega) (by omega) (by omega) (by omega)) ?_
  rintro e w3 ⟨rfl,rfl⟩
  go_wp2_with fail
  refine Calls.mono (oU u.x u.y u.tox u.toy _ (by omega) (by omega) (by omega) (by omega) (by omega) (by omega) (by omega) (by omega)) ?_
  rintro e w3 ⟨rfl,rfl⟩
  obtain ⟨r,ae⟩:∃ v,t.bd (ci u.tox u.toy)=v:=⟨_,rfl⟩
  have bc:=cf.o.bd (eK aa)
  rw [show 1+ci u.tox u.toy=1+u.toy.toNat*12+u.tox.toNat by unfold ci;omega,ae] at bc
  have cp:=X.o.bd _ (eK aa)
  rw [ae] at cp cr
  have aw:=aA ae
  obtain ⟨A1,ba⟩:∃ A,aY u.x u.y b.x b.y=A:=⟨_,rfl⟩
  obtain ⟨A2,bb⟩:∃ A,aY u.x u.y u.tox u.toy=A:=⟨_,rfl⟩
  rw [ba,bb]
  have bl:=aA ba
  have bm:=aA bb
  clear ae ba bb ux uy
  go_wp2_with fail
  go_cut [8] (fun s8 wx=>s8=.int .i64 r/\Fr [] wc wx)
  case first =>
   have K0:(fun d:World=>d.cell? ⟨w.heap.size,8,none⟩=some (ii u.tox)/\d.cell? ⟨w.heap.size,9,none⟩=some (ii u.toy)/\d.cell? ⟨g,1+u.toy.toNat*12+u.tox.toNat,none⟩=some (ii r)) wc.drew:=⟨by simpa using cc,by simpa using cd,by simpa using bc⟩
   go_region_held (fun d:World=>d.cell? ⟨w.heap.size,8,none⟩=some (ii u.tox)/\d.cell? ⟨w.heap.size,9,none⟩=some (ii u.toy)/\d.cell? ⟨g,1+u.toy.toNat*12+u.tox.toNat,none⟩=some (ii r)) (with_reducible exact K0) (fail)
   all_goals
    go_wp2_with fail
    go_meet
    exact ⟨rfl,(r0 _ _).drew⟩
  case rest =>
   obtain ⟨rfl,ar⟩:=hcut
   have au:=ar.heap0 ah
   have bz:=ar.heap0 av
   have M:=cb.then0 ar
   have ag:=HH.o.fr0 M
   have L:=aA ag
   have uo:wc.cell? ⟨w.heap.size,1,none⟩=some (ii u.owner):=aB au
   have ul:wc.cell? ⟨w.heap.size,6,none⟩=some (ii u.load):=aB au
   have dx:wc.cell? ⟨w.heap.size,8,none⟩=some (ii u.tox):=aB au
   have dy:wc.cell? ⟨w.heap.size,9,none⟩=some (ii u.toy):=aB au
   have ex:wc.cell? ⟨vb,3,none⟩=some (ii b.x):=aB bz
   have ey:wc.cell? ⟨vb,4,none⟩=some (ii b.y):=aB bz
   have bt:=ag.c148
   have cn:=ag.ne
   have cx:¬ f=g:=fun e=>cn e.symm
   obtain ⟨_,_,_,_,_,_,d6,_,_,_,_⟩:=ag.gv.p.at O.o
   have af:=ag.frz (i*11+6)
   have df:=HH.o.lt
   have de:=HH.o.pl
   have ai:¬ w.heap.size=g:=by omega
   have ax:¬ w.heap.size=f:=by omega
   have cy:¬ g=w.heap.size:=by omega
   have cz:¬ f=w.heap.size:=by omega
   have dd:=hu.ld
   have cq:=pF X.o u.owner
   clear cc cd bx bY bc ar bi ah av ag bj
   by_cases hl:0 < u.load
   ·have N:Hi (dM t u=if A1=true then ({ u with load:=0 },t.setStock u.owner (min (t.stock u.owner+u.load) 1000000000)) else (u.to (cE t u fun c=>aY b.x b.y c.1 c.2),t.moved u (cE t u fun c=>aY b.x b.y c.1 c.2))):=by
     show _=_
     unfold dM eB
     rw [if_pos hl,ce.o]
     dsimp only
     rw [bl.o]
    cases A1
    ·go_wp2_with fail
     refine Calls.mono (mW g f z t i u b.x b.y false _ L.o O.o hu.on (by omega) (by omega) (by omega) (by omega)) ?_
     rintro e w4 ⟨rfl,F,hX,an,am⟩
     go_wp2_with fail
     refine bodyPost_end (v:=.tuple #[]) (results_none rfl _ _ _) rfl ⟨rfl,f,z,?_,(M.of0 (S:=[g,f])).trans am (by simp),.inl rfl⟩
     rw [HR.o,N.o,if_neg (by simp)]
     exact RG.went (x:=b.x) (y:=b.y) (onto:=false) X.o O.o (fun c=>pU _ _ _ _) bl.o hX an
    obtain ⟨s,hs⟩:∃ s,t.stock u.owner=s:=⟨_,rfl⟩
    rw [hs] at cq
    have Y:=aA hs
    clear hs
    rcases hu.ow with V|V
    ·have al:wc.cell? ⟨g,145,none⟩=some (ii s):=by
      have:=L.o.c145
      rwa [show t.s0=s by have:=Y.o;rw [V] at this;simpa [T.stock] using this] at this
     rw [V] at uo
     have az:=L.o.fz 145
     have aj:=aA V
     clear V
     obtain ⟨ld,bv⟩:∃ l,l=u.load:=⟨_,rfl⟩
     have C:(fun d:World=>d.cell? ⟨w.heap.size,1,none⟩=some (ii 0)/\d.cell? ⟨g,145,none⟩=some (ii s)/\d.cell? ⟨w.heap.size,6,none⟩=some (ii u.load)) wc.drew:=⟨by simpa using uo,by simpa using al,by simpa using ul⟩
     go_wp2_with fail
     refine OneFree.region (fun d:World=>d.cell? ⟨w.heap.size,1,none⟩=some (ii 0)/\d.cell? ⟨g,145,none⟩=some (ii s)/\d.cell? ⟨w.heap.size,6,none⟩=some (ii u.load)) 16 (by kernel_rfl) ?_
     refine (show OneFree Tryz.prog Region.Mode.any _ _ _ 16 17 (Array.replicate 17 false) _ _ from ?_)
     refine tv 0 C ?_;try simp only [Act.put,Z]
     refine tv 1 C ?_;try simp only [Act.put,Z]
     refine tv 2 C ?_;try simp only [Act.put,Z]
     refine tv 3 C ?_;try simp only [Act.put,Z]
     refine tv 4 C ?_;try simp only [Act.put,Z]
     refine tv 5 C ?_;try simp only [Act.put,Z]
     refine tv 6 C ?_;try simp only [Act.put,Z]
     refine tv 7 C ?_;try simp only [Act.put,Z]
     refine tv 8 C ?_;try simp only [Act.put,Z]
     refine tv 9 C ?_;try simp only [Act.put,Z]
     refine tv 10 C ?_;try simp only [Act.put,Z]
     refine tv 11 C ?_;try simp only [Act.put,Z]
     refine tv 12 C ?_;try simp only [Act.put,Z]
     refine o1 13 fun K' q=>?_
     have K:=aA q
     clear q
     go_simp
     refine K.o _ _ ⟨fun _=>C,?_⟩
     clear K K';try simp only [Act.put,Z]
     refine o1 14 fun K' q=>?_
     have K:=aA q
     clear q
     go_simp
     refine K.o _ _ ⟨fun _=>C,?_⟩
     clear K K';try simp only [Act.put,Z]
     refine o1 15 fun K' q=>?_
     have K:=aA q
     clear q
     go_simp
     refine K.o _ _ ⟨fun _=>C,?_⟩
     clear K K';try simp only [Act.put,Z]
     refine o1 16 fun K' q=>?_
     have K:=aA q
     clear q
     go_simp
     refine K.o _ _ ⟨fun h6=>absurd rfl h6,OneFree.done (by kernel_rfl) ?_ _⟩
     clear K K'
     rw [show IntKind.i64.wrap (s+u.load)=s+u.load by rw [IntKind.wrap_i64];have:=Y.o;omega]
     obtain ⟨D,E⟩:∃ W,W=(wc.setCell ⟨g,145,none⟩ (.int .i64 (s+u.load))).drew:=⟨_,rfl⟩
     have H:Fr [g] wc D:=by rw [E];exact ((r0 _ _).setCell _ _ (.inl (by simp))).drew
     have I:RG D g f z { t with s0:=s+u.load }:=by rw [E];exact (L.o.setS0 (s+u.load)).fr0 ((r0 _ _).drew)
     rw [<- E]
     have ac:D.cell? ⟨w.heap.size,1,none⟩=some (ii 0):=(H.cell _ _ (aI uo) (by simpa using ai)).trans uo
     have be:D.cell? ⟨g,145,none⟩=some (ii (s+u.load)):=I.c145
     have J:=aA I
     have bu:=hu.ld
     have ab:Hi (R=cD (t.setStock u.owner (min (t.stock u.owner+u.load) 1000000000)) { u with load:=0 }):=by show _=_;rw [HR.o,N.o,if_pos trivial]
     have ak:Hi (∀ m:Int,cD (t.setStock u.owner m) { u with load:=0 }={ t with s0:=m,us:=t.us.set i { u with load:=0 } }):=fun m=>by
      have e1:t.setStock u.owner m={ t with s0:=m }:=by rw [aj.o];rfl
      rw [e1]
      exact iM (t:={ t with s0:=m }) (u:=u) (u':={ u with load:=0 }) X.o.rise O.o rfl
     clear E C al uo ul I az bt d6 af
     have K5:(fun d:World=>d.cell? ⟨w.heap.size,1,none⟩=some (ii 0)/\d.cell? ⟨g,145,none⟩=some (ii (s+u.load))) D.drew:=⟨by simpa using ac,by simpa using be⟩
     go_wp2_with fail
     go_region_held (fun d:World=>d.cell? ⟨w.heap.size,1,none⟩=some (ii 0)/\d.cell? ⟨g,145,none⟩=some (ii (s+u.load))) (with_reducible exact K5) (fail)
     by_cases cm:1000000000 < s+u.load
     ·have HM:Hi (min (t.stock u.owner+u.load) 1000000000=1000000000):=by show _=_;have:=Y.o;rw [this];omega
      have P:∀ d,Fr [g] D d->(fun d:World=>d.cell? ⟨w.heap.size,1,none⟩=some (ii 0)) d:=fun d hf=>(hf.cell _ _ (aI ac) (by simpa using ai)).trans ac
      have K9:=P D.drew.drew ((r0 _ _).drew.drew)
      have bq:=J.o.fz 145
      go_wp2_with fail
      go_region_held (fun d:World=>d.cell? ⟨w.heap.size,1,none⟩=some (ii 0)) (first|with_reducible exact K9|(refine P _ ?_;exact (((r0 _ _).setCell _ _ (.inl (by simp))).drew).drew)|(refine P _ ?_;exact (((r0 _ _).drew.setCell _ _ (.inl (by simp))).drew))|(refine P _ ?_;exact (((r0 _ _).drew.drew.setCell _ _ (.inl (by simp)))))) (fail)
      obtain ⟨W6,Q⟩:∃ W,W=(D.setCell ⟨g,145,none⟩ (.int .i64 1000000000)).drew.drew:=⟨_,rfl⟩
      have bh:Fr [g] D W6:=by rw [Q];exact (((r0 _ _).setCell _ _ (.inl (by simp))).drew).drew
      have B:RG W6 g f z { t with s0:=1000000000 }:=by rw [Q];exact (J.o.setS0 1000000000).fr0 ((r0 _ _).drew.drew)
      rw [<- Q]
      have bf:=B.c148
      obtain ⟨_,_,_,_,_,_,e6,_,_,_,_⟩:=B.gv.p.at O.o
      have af:=B.frz (i*11+6)
      have ay:=aA B
      clear Q B
      go_wp2_with fail
      refine bodyPost_end (v:=.tuple #[]) (results_none rfl _ _ _) rfl ⟨rfl,f,z,?_,?_,.inl rfl⟩
      ·rw [ab.o,HM.o,ak.o]
       exact ay.o.setC (u':={ u with load:=0 }) (v:=ii 0) O.o (j:=6) (by omega) rfl
      exact ((((M.of0 (S:=[g,f])).trans H (by simp)).trans bh (by simp))).setCell _ _ (.inl (by simp))
     have HM:Hi (min (t.stock u.owner+u.load) 1000000000=s+u.load):=by show _=_;have:=Y.o;rw [this];omega
     have B:=J.o.fr0 ((r0 [] D).drew)
     have bf:=B.c148
     obtain ⟨_,_,_,_,_,_,e6,_,_,_,_⟩:=B.gv.p.at O.o
     have af:=B.frz (i*11+6)
     clear B
     go_wp2_with fail
     refine bodyPost_end (v:=.tuple #[]) (results_none rfl _ _ _) rfl ⟨rfl,f,z,?_,?_,.inl rfl⟩
     ·rw [ab.o,HM.o,ak.o]
      exact (J.o.setC (u':={ u with load:=0 }) (v:=ii 0) O.o (j:=6) (by omega) rfl).fr0 ((r0 _ _).drew)
     exact (((M.of0 (S:=[g,f])).trans H (by simp)).setCell _ _ (.inl (by simp))).drew
    have al:wc.cell? ⟨g,146,none⟩=some (ii s):=by
     have:=L.o.c146
     rwa [show t.s1=s by have:=Y.o;rw [V] at this;simpa [T.stock] using this] at this
    rw [V] at uo
    have az:=L.o.fz 146
    have aj:=aA V
    clear V
    obtain ⟨ld,bv⟩:∃ l,l=u.load:=⟨_,rfl⟩
    have C:(fun d:World=>d.cell? ⟨w.heap.size,1,none⟩=some (ii 1)/\d.cell? ⟨g,146,none⟩=some (ii s)/\d.cell? ⟨w.heap.size,6,none⟩=some (ii u.load)) wc.drew:=⟨by simpa using uo,by simpa using al,by simpa using ul⟩
    go_wp2_with fail
    refine OneFree.region (fun d:World=>d.cell? ⟨w.heap.size,1,none⟩=some (ii 1)/\d.cell? ⟨g,146,none⟩=some (ii s)/\d.cell? ⟨w.heap.size,6,none⟩=some (ii u.load)) 16 (by kernel_rfl) ?_
    refine (show OneFree Tryz.prog Region.Mode.any _ _ _ 16 17 (Array.replicate 17 false) _ _ from ?_)
    refine tv 0 C ?_;try simp only [Act.put,Z]
    refine tv 1 C ?_;try simp only [Act.put,Z]
    refine tv 2 C ?_;try simp only [Act.put,Z]
    refine tv 3 C ?_;try simp only [Act.put,Z]
    refine tv 4 C ?_;try simp only [Act.put,Z]
    refine tv 5 C ?_;try simp only [Act.put,Z]
    refine tv 6 C ?_;try simp only [Act.put,Z]
    refine tv 7 C ?_;try simp only [Act.put,Z]
    refine tv 8 C ?_;try simp only [Act.put,Z]
    refine tv 9 C ?_;try simp only [Act.put,Z]
    refine tv 10 C ?_;try simp only [Act.put,Z]
    refine tv 11 C ?_;try simp only [Act.put,Z]
    refine tv 12 C ?_;try simp only [Act.put,Z]
    refine o1 13 fun K' q=>?_
    have K:=aA q
    clear q
    go_simp
    refine K.o _ _ ⟨fun _=>C,?_⟩
    clear K K';try simp only [Act.put,Z]
    refine o1 14 fun K' q=>?_
    have K:=aA q
    clear q
    go_simp
    refine K.o _ _ ⟨fun _=>C,?_⟩
    clear K K';try simp only [Act.put,Z]
    refine o1 15 fun K' q=>?_
    have K:=aA q
    clear q
    go_simp
    refine K.o _ _ ⟨fun _=>C,?_⟩
    clear K K';try simp only [Act.put,Z]
    refine o1 16 fun K' q=>?_
    have K:=aA q
    clear q
    go_simp
    refine K.o _ _ ⟨fun h6=>absurd rfl h6,OneFree.done (by kernel_rfl) ?_ _⟩
    clear K K'
    rw [show IntKind.i64.wrap (s+u.load)=s+u.load by rw [IntKind.wrap_i64];have:=Y.o;omega]
    obtain ⟨D,E⟩:∃ W,W=(wc.setCell ⟨g,146,none⟩ (.int .i64 (s+u.load))).drew:=⟨_,rfl⟩
    have H:Fr [g] wc D:=by rw [E];exact ((r0 _ _).setCell _ _ (.inl (by simp))).drew
    have I:RG D g f z { t with s1:=s+u.load }:=by rw [E];exact (L.o.setS1 (s+u.load)).fr0 ((r0 _ _).drew)
    rw [<- E]
    have ac:D.cell? ⟨w.heap.size,1,none⟩=some (ii 1):=(H.cell _ _ (aI uo) (by simpa using ai)).trans uo
    have be:D.cell? ⟨g,146,none⟩=some (ii (s+u.load)):=I.c146
    have J:=aA I
    have bu:=hu.ld
    have ab:Hi (R=cD (t.setStock u.owner (min (t.stock u.owner+u.load) 1000000000)) { u with load:=0 }):=by show _=_;rw [HR.o,N.o,if_pos trivial]
    have ak:Hi (∀ m:Int,cD (t.setStock u.owner m) { u with load:=0 }={ t with s1:=m,us:=t.us.set i { u with load:=0 } }):=fun m=>by
     have e1:t.setStock u.owner m={ t with s1:=m }:=by rw [aj.o];rfl
     rw [e1]
     exact iM (t:={ t with s1:=m }) (u:=u) (u':={ u with load:=0 }) X.o.rise O.o rfl
    clear E C al uo ul I az bt d6 af
    have K5:(fun d:World=>d.cell? ⟨w.heap.size,1,none⟩=some (ii 1)/\d.cell? ⟨g,146,none⟩=some (ii (s+u.load))) D.drew:=⟨by simpa using ac,by simpa using be⟩
    go_wp2_with fail
    go_region_held (fun d:World=>d.cell? ⟨w.heap.size,1,none⟩=some (ii 1)/\d.cell? ⟨g,146,none⟩=some (ii (s+u.load))) (with_reducible exact K5) (fail)
    by_cases cm:1000000000 < s+u.load
    ·have HM:Hi (min (t.stock u.owner+u.load) 1000000000=1000000000):=by show _=_;have:=Y.o;rw [this];omega
     have P:∀ d,Fr [g] D d->(fun d:World=>d.cell? ⟨w.heap.size,1,none⟩=some (ii 1)) d:=fun d hf=>(hf.cell _ _ (aI ac) (by simpa using ai)).trans ac
     have K9:=P D.drew.drew ((r0 _ _).drew.drew)
     have bq:=J.o.fz 146
     go_wp2_with fail
     go_region_held (fun d:World=>d.cell? ⟨w.heap.size,1,none⟩=some (ii 1)) (first|with_reducible exact K9|(refine P _ ?_;exact (((r0 _ _).setCell _ _ (.inl (by simp))).drew).drew)|(refine P _ ?_;exact (((r0 _ _).drew.setCell _ _ (.inl (by simp))).drew))|(refine P _ ?_;exact (((r0 _ _).drew.drew.setCell _ _ (.inl (by simp)))))) (fail)
     obtain ⟨W6,Q⟩:∃ W,W=(D.setCell ⟨g,146,none⟩ (.int .i64 1000000000)).drew.drew:=⟨_,rfl⟩
     have bh:Fr [g] D W6:=by rw [Q];exact (((r0 _ _).setCell _ _ (.inl (by simp))).drew).drew
     have B:RG W6 g f z { t with s1:=1000000000 }:=by rw [Q];exact (J.o.setS1 1000000000).fr0 ((r0 _ _).drew.drew)
     rw [<- Q]
     have bf:=B.c148
     obtain ⟨_,_,_,_,_,_,e6,_,_,_,_⟩:=B.gv.p.at O.o
     have af:=B.frz (i*11+6)
     have ay:=aA B
     clear Q B
     go_wp2_with fail
     refine bodyPost_end (v:=.tuple #[]) (results_none rfl _ _ _) rfl ⟨rfl,f,z,?_,?_,.inl rfl⟩
     ·rw [ab.o,HM.o,ak.o]
      exact ay.o.setC (u':={ u with load:=0 }) (v:=ii 0) O.o (j:=6) (by omega) rfl
     exact ((((M.of0 (S:=[g,f])).trans H (by simp)).trans bh (by simp))).setCell _ _ (.inl (by simp))
    have HM:Hi (min (t.stock u.owner+u.load) 1000000000=s+u.load):=by show _=_;have:=Y.o;rw [this];omega
    have B:=J.o.fr0 ((r0 [] D).drew)
    have bf:=B.c148
    obtain ⟨_,_,_,_,_,_,e6,_,_,_,_⟩:=B.gv.p.at O.o
    have af:=B.frz (i*11+6)
    clear B
    go_wp2_with fail
    refine bodyPost_end (v:=.tuple #[]) (results_none rfl _ _ _) rfl ⟨rfl,f,z,?_,?_,.inl rfl⟩
    ·rw [ab.o,HM.o,ak.o]
     exact (J.o.setC (u':={ u with load:=0 }) (v:=ii 0) O.o (j:=6) (by omega) rfl).fr0 ((r0 _ _).drew)
    exact (((M.of0 (S:=[g,f])).trans H (by simp)).setCell _ _ (.inl (by simp))).drew
   have N:Hi (dM t u=if gK r=true then (if A2=true then ({ u with load:=min r 5 },t.setBd (ci u.tox u.toy) (r - min r 5)) else (u.to (cE t u fun c=>aY u.tox u.toy c.1 c.2),t.moved u (cE t u fun c=>aY u.tox u.toy c.1 c.2))) else (u.idle,t)):=by
    show _=_
    unfold dM
    rw [if_neg hl,aw.o,bm.o]
   by_cases h0:r=0
   ·subst h0
    go_wp2_with fail
    refine Calls.mono (mV g f z t i u _ L.o O.o) ?_
    rintro e w4 ⟨rfl,an,am⟩
    go_wp2_with fail
    refine bodyPost_end (v:=.tuple #[]) (results_none rfl _ _ _) rfl ⟨rfl,f,z,?_,(M.of0 (S:=[g,f])).trans am (by simp),.inl rfl⟩
    rw [HR.o,N.o,if_neg (by decide)]
    exact RG.idled X.o O.o an
   have da:(r==0)=false:=by simpa using h0
   have bw:gK r=true:=by unfold gK;simp;omega
   rw [bw] at N
   cases A2
   ·go_wp2_with fail
    refine Calls.mono (mW g f z t i u u.tox u.toy false _ L.o O.o hu.on (by omega) (by omega) (by omega) (by omega)) ?_
    rintro e w4 ⟨rfl,F,hX,an,am⟩
    go_wp2_with fail
    refine bodyPost_end (v:=.tuple #[]) (results_none rfl _ _ _) rfl ⟨rfl,f,z,?_,(M.of0 (S:=[g,f])).trans am (by simp),.inl rfl⟩
    rw [HR.o,N.o,if_pos trivial,if_neg (by simp)]
    exact RG.went (x:=u.tox) (y:=u.toy) (onto:=false) X.o O.o (fun c=>pU _ _ _ _) bm.o hX an
   obtain ⟨n,hn⟩:∃ n,min r 5=n:=⟨_,rfl⟩
   rw [hn] at N
   have ab:Hi (R={ t.setBd (ci u.tox u.toy) (r - n) with us:=t.us.set i { u with load:=n } }):=by
    show _=_
    rw [HR.o,N.o,if_pos rfl,if_pos rfl]
    exact iM (t:=t.setBd (ci u.tox u.toy) (r - n)) (u:=u) (u':={ u with load:=n }) X.o.rise O.o rfl
   obtain ⟨D,E⟩:∃ W,W=wc.setCell ⟨f,i*11+6,none⟩ (.int .i64 n):=⟨_,rfl⟩
   have H:Fr [f] wc D:=by rw [E];exact (r0 _ _).setCell _ _ (.inl (by simp))
   have I:RG D g f z { t with us:=t.us.set i { u with load:=n } }:=by rw [E];exact L.o.setC (u':={ u with load:=n }) (v:=ii n) O.o (j:=6) (by omega) rfl
   have ap:=aA E
   have bo:D.cell? ⟨w.heap.size,8,none⟩=some (ii u.tox):=(H.cell _ _ (aI dx) (by simpa using ax)).trans dx
   have bp:D.cell? ⟨w.heap.size,9,none⟩=some (ii u.toy):=(H.cell _ _ (aI dy) (by simpa using ax)).trans dy
   have cs:D.cell? ⟨g,1+u.toy.toNat*12+u.tox.toNat,none⟩=some (ii r):=by
    have:=I.bd (eK aa)
    rwa [show 1+ci u.tox u.toy=1+u.toy.toNat*12+u.tox.toNat by unfold ci;omega,show t.bd (ci u.tox u.toy)=r from aw.o] at this
   have bq:=I.fz (1+u.toy.toNat*12+u.tox.toNat)
   have HS:∀ d,Fr [g] D d->(fun d:World=>cl d w.heap.size 8 u.tox/\cl d w.heap.size 9 u.toy) d:=fun d hf=>⟨(hf.cell _ _ (aI bo) (by simpa using ai)).trans bo,(hf.cell _ _ (aI bp) (by simpa using ai)).trans bp⟩
   have K5:=HS D.drew ((r0 _ _).drew)
   have J:=aA I
   have ad:Hi (RG (D.setCell ⟨g,1+u.toy.toNat*12+u.tox.toNat,none⟩ (.int .i64 (r - n))) g f z R):=by
    have h7:=J.o.setB (eK aa) (r - n)
    rw [show 1+ci u.tox u.toy=1+u.toy.toNat*12+u.tox.toNat by unfold ci;omega] at h7
    rw [ab.o]
    exact h7.of rfl rfl rfl rfl rfl rfl
   clear E I
   by_cases h5:r < 5
   ·have ao:n=r:=by omega
    rw [ao] at ad ap
    go_wp2_with fail
    rw [<- ap.o]
    go_region_held (fun d:World=>d.cell? ⟨w.heap.size,8,none⟩=some (ii u.tox)/\d.cell? ⟨w.heap.size,9,none⟩=some (ii u.toy)) (first|with_reducible exact K5|(refine HS _ ?_;exact ((r0 _ _).setCell _ _ (.inl (by simp))).drew)|(refine HS _ ?_;exact (r0 _ _).drew.setCell _ _ (.inl (by simp)))) (fail)
    go_wp2_with fail
    refine bodyPost_end (v:=.tuple #[]) (results_none rfl _ _ _) rfl ⟨rfl,f,z,?_,?_,.inl rfl⟩
    ·rw [show IntKind.i64.wrap 0=r - r by rw [IntKind.wrap_i64];omega]
     exact ad.o.fr0 ((r0 _ _).drew)
    exact (((M.of0 (S:=[g,f])).trans H (by simp)).setCell _ _ (.inl (by simp))).drew
   have ao:n=5:=by omega
   rw [ao] at ad ap
   go_wp2_with fail
   rw [<- ap.o]
   go_region_held (fun d:World=>d.cell? ⟨w.heap.size,8,none⟩=some (ii u.tox)/\d.cell? ⟨w.heap.size,9,none⟩=some (ii u.toy)) (first|with_reducible exact K5|(refine HS _ ?_;exact ((r0 _ _).setCell _ _ (.inl (by simp))).drew)|(refine HS _ ?_;exact (r0 _ _).drew.setCell _ _ (.inl (by simp)))) (fail)
   go_wp2_with fail
   refine bodyPost_end (v:=.tuple #[]) (results_none rfl _ _ _) rfl ⟨rfl,f,z,?_,?_,.inl rfl⟩
   ·rw [show IntKind.i64.wrap (r - 5)=r - 5 by rw [IntKind.wrap_i64];omega]
    exact ad.o.fr0 ((r0 _ _).drew)
   exact (((M.of0 (S:=[g,f])).trans H (by simp)).setCell _ _ (.inl (by simp))).drew
