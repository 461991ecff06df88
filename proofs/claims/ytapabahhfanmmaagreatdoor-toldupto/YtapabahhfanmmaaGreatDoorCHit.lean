import Derived.Test.YtapabahhfanmmaaGreatDoorCMine
namespace Go.Proofs.YtapabahhfanmmaaGreatDoor
open Go.RowKit
set_option maxRecDepth 100000
set_option maxHeartbeats 2000000
theorem jj1 {α:Type}:∀ (l:List α) (o:Nat) (v:α),o < l.length->(l.set o v).take (o+1)=l.take o ++ [v]
 | [],_,_,h=>by simp at h
 | a :: l,0,v,_=>by simp
 | a :: l,o+1,v,h=>by simp [jj1 l o v (by simpa using h)]
theorem jz2 {α:Type}:∀ (l:List α) (o n:Nat) (v:α),o < n->(l.set o v).drop n=l.drop n
 | [],_,_,_,_=>by simp
 | a :: l,0,n+1,v,_=>by simp
 | a :: l,o+1,n+1,v,h=>by simp [jz2 l o n v (by omega)]
theorem jw7 (b:Nat)(t:TypeId):∀ (vs:List Value) (o:Nat) (cur:Array Value) (w:World),w.heap[b]?=some (.cells cur t)->o+vs.length<=cur.size->(w.setCells b o vs).heap[b]?=some (.cells (cur.toList.take o ++ vs ++ cur.toList.drop (o+vs.length)).toArray t)
 | [],o,cur,w,h,_=>by
  show w.heap[b]?=_
  rw [h]
  simp
 | v :: r,o,cur,w,h,hl=>by
  have h1:=qz9 h o v
  simp only [List.length_cons] at hl
  have h2:=jw7 b t r (o+1) _ _ h1 (by rw [Array.size_setIfInBounds];omega)
  show ((w.setCell ⟨b,o,none⟩ v).setCells b (o+1) r).heap[b]?=_
  rw [h2]
  congr 2
  have ho:o < cur.toList.length:=by rw [Array.length_toList];omega
  rw [Array.toList_setIfInBounds,jj1 _ _ _ ho,jz2 _ _ _ _ (by omega),List.length_cons,show o+1+r.length=o+(r.length+1) by omega]
  simp
theorem Fr.setCells {S:List Nat}{a:World}(b:Nat):∀ (vs:List Value) (o:Nat) (c:World),Fr S a c->(b∈S\/a.heap.size<=b)->Fr S a (c.setCells b o vs)
 | [],_,_,h,_=>h
 | v :: r,o,_,h,hb=>Fr.setCells b r (o+1) _ (h.setCell ⟨b,o,none⟩ v hb) hb
theorem dj7 (us:List U)(i:Nat)(u':U)(hi:i < us.length):(us.set i u').flatMap U.cells=(us.flatMap U.cells).take (i*11) ++ u'.cells ++ (us.flatMap U.cells).drop (i*11+11):=by
  rw [List.set_eq_take_append_cons_drop,if_pos hi,List.flatMap_append,List.flatMap_cons,xj9,xj7,List.append_assoc,show (i+1)*11=i*11+11 by omega]
theorem PRow.there {w:World}{pb cap i:Nat}{us:List U}(h:PRow w pb cap us)(hi:i < us.length):w.there pb (i*11) 11:=by
 obtain ⟨cur,hh,hs,ht⟩:=h.h
 have hle:=h.le
 intro j hj
 refine ⟨?_,qq0 hh⟩
 rw [j9 hh,Array.getElem?_eq_getElem (by omega)]
 rfl
theorem PRow.put {w:World}{pb cap i:Nat}{us:List U}(h:PRow w pb cap us)(hi:i < us.length)(u':U):PRow (w.setCells pb (i*11) u'.cells) pb cap (us.set i u'):=by
 obtain ⟨cur,hh,hs,ht⟩:=h.h
 have hle:=h.le
 have hcl:u'.cells.length=11:=rfl
 refine ⟨⟨_,jw7 pb _ u'.cells (i*11) cur w hh (by omega),?_,?_⟩,by simpa using hle,h.cap⟩
 ·simp;omega
 ·rw [dj7 us i u' hi,List.length_set,<- ht]
  show List.take _ (_ ++ _ ++ _)=_
  rw [hcl,List.take_take,Nat.min_eq_left (by omega),List.drop_take]
  have e:(List.take (i*11) cur.toList ++ u'.cells).length=i*11+11:=by
   rw [List.length_append,List.length_take,hcl,Array.length_toList];omega
  rw [List.take_append,e,List.take_of_length_le (by omega)]
theorem xj8 (v:Int):∀ (us:List U) (i:Nat) (u:U),us[i]?=some u->(us.flatMap U.cells).set (i*11+5) (.int .i64 v)=(us.set i { u with life:=v }).flatMap U.cells
 | [],i,u,h=>by simp at h
 | a :: us,0,u,h=>by
  simp at h
  subst h
  simp
 | a :: us,i+1,u,h=>by
  have hl:(a.cells).length=11:=rfl
  have ih:=xj8 v us i u (by simpa using h)
  rw [List.set_cons_succ,List.flatMap_cons,List.flatMap_cons,<- ih,List.set_append,if_neg (by omega),hl,show (i+1)*11+5 - 11=i*11+5 by omega]
theorem PRow.life {w:World}{pb cap i:Nat}{us:List U}{u:U}(h:PRow w pb cap us)(hi:us[i]?=some u)(v:Int):PRow (w.setCell ⟨pb,i*11+5,none⟩ (.int .i64 v)) pb cap (us.set i { u with life:=v }):=by
 obtain ⟨cur,hh,hs,ht⟩:=h.h
 refine ⟨⟨_,qz9 hh (i*11+5) _,?_,?_⟩,by simpa using h.le,h.cap⟩
 ·rw [Array.size_setIfInBounds];exact hs
 ·rw [List.length_set,<- xj8 v us i u hi,<- ht,Array.toList_setIfInBounds,List.take_set]
theorem PRow.fz {w:World}{pb cap:Nat}{us:List U}(h:PRow w pb cap us)(o:Nat):w.frozen? ⟨pb,o,none⟩=false:=by
 obtain ⟨cur,hh,hs,ht⟩:=h.h
 exact qq0 hh
theorem yy8 {α:Type}:∀ (l:List α) (o n:Nat) (v:α),n<=o->(l.set o v).take n=l.take n
 | [],_,_,_,_=>by simp
 | _ :: _,_,0,_,_=>by simp
 | a :: l,o+1,n+1,v,h=>by simp [yy8 l o n v (by omega)]
theorem qqq7 (t:T)(p q:Value)(hb bb k:Nat)(hk:k≠148):qq9 t p hb bb k=qq9 t q hb bb k:=by
 unfold qq9
 simp [hk]
theorem MapF.of_eq {w:World}{r:Nat}{f g:Int×Int->Option Value}(h:MapF w r f)(e:∀ k,f k=g k):MapF w r g:=by
 have:f=g:=funext e
 rw [<- this];exact h
def T.harm (t:T)(i:Nat):T :=
 match t.us[i]? with
 | none=>t
 | some u=>if u.life - 3<=0 then { t with us:=t.us.eraseIdx i,held:=fun k=>if k=(u.x,u.y) then none else t.held k } else { t with us:=t.us.set i { u with life:=u.life - 3 } }
theorem kx0 (pb cap i:Nat)(us:List U)(w:World)(hp:PRow w pb cap us)(hlen:us.length<=1000)(hi:i < us.length) :
    Calls Tryz.prog 221 #[.slice (some ⟨pb,0,none⟩) us.length cap,.int .i64 i,.int .i64 ((i:Int)+1)] w fun e w'=>e=.returned (.slice (some ⟨pb,0,none⟩) (us.length - 1) cap)/\PRow w' pb cap (us.eraseIdx i)/\Fr [pb] w w':=gx3 pb cap i us w hp hlen hi
theorem dx2 (tb pb cap hb bb:Nat)(t:T)(i:Nat)(u:U)(w:World)(h:TS w tb pb cap hb bb t)(hi:t.us[i]?=some u)(hlf:-1000<=u.life/\u.life<=1000) :
  Calls Tryz.prog 207 #[.pointer (some ⟨tb,0,none⟩),.int .i64 i] w fun e w' =>
   e=.returned (.tuple #[])/\Fr [tb,pb,hb] w w'/\TS w' tb pb cap hb bb (t.harm i):=by
 have hz:=h.z
 have hbl:=h.ways.lt
 have hhl:=h.held.lt
 have htl:=h.lt
 have hpl:=h.row.lt
 have hil:i < t.us.length:=(List.getElem?_eq_some_iff.1 hi).1
 have hlen:=h.len
 have hc:=h.gv.c
 have hcz:=h.fz 148
 obtain ⟨c0,c1,c2,c3,c4,c5,c6,c7,c8,c9,c10⟩:=h.row.ppl.at hi
 have z5:=h.row.fz (i*11+5)
 have HI:=hid hi
 by_cases hd:u.life - 3<=0
 ·have hact:t.harm i={ t with us:=t.us.eraseIdx i,held:=fun k=>if k=(u.x,u.y) then none else t.held k }:=by unfold T.harm;rw [hi];exact if_pos hd
  have HA:=hid hact
  obtain ⟨W1,hW1⟩:∃ W,W=w.setCell ⟨pb,i*11+5,none⟩ (.int .i64 (u.life - 3)):=⟨_,rfl⟩
  have hrow1:PRow W1 pb cap (t.us.set i { u with life:=u.life - 3 }):=by rw [hW1];exact h.row.life hi _
  have hi1:(t.us.set i { u with life:=u.life - 3 })[i]?=some { u with life:=u.life - 3 }:=by rw [List.getElem?_set_self hil]
  have h01:Fr [pb] w W1:=by rw [hW1];exact (Fr.refl _ _).setCell _ _ (by simp)
  have hs1:W1.heap.size=w.heap.size:=by rw [hW1];simp [World.setCell]
  have hm1:MapF W1 hb (qx2 t.held):=h.held.fr h01 (by simp;exact fun e=>h.n4 e.symm)
  have HS:∀ w',Fr [hb] W1 w'->(fun w':World=>w'.cell? ⟨pb,i*11,none⟩=some (ii u.id)/\w'.cell? ⟨pb,i*11+1,none⟩=some (ii u.owner)/\w'.cell? ⟨pb,i*11+2,none⟩=some (ii u.kind)/\w'.cell? ⟨pb,i*11+3,none⟩=some (ii u.x)/\w'.cell? ⟨pb,i*11+4,none⟩=some (ii u.y)/\w'.cell? ⟨pb,i*11+5,none⟩=some (ii (u.life - 3))/\w'.cell? ⟨pb,i*11+6,none⟩=some (ii u.load)/\w'.cell? ⟨pb,i*11+7,none⟩=some (ii u.what)/\w'.cell? ⟨pb,i*11+8,none⟩=some (ii u.tox)/\w'.cell? ⟨pb,i*11+9,none⟩=some (ii u.toy)/\w'.cell? ⟨pb,i*11+10,none⟩=some (ii u.target)/\w'.cell? ⟨tb,149,none⟩=some (.map (some hb))/\Fr [hb] W1 w') w':=by
   intro w' hf
   obtain ⟨d0,d1,d2,d3,d4,d5,d6,d7,d8,d9,d10⟩:=(hrow1.fr hf (by simp;exact h.n4)).ppl.at hi1
   refine ⟨d0,d1,d2,d3,d4,d5,d6,d7,d8,d9,d10,?_,hf⟩
   rw [hf.cell tb 149 (by omega) (by simp;exact h.n2),h01.cell tb 149 htl (by simp;exact h.n1)]
   exact h.tv.c
  have KF:Fr [hb] W1 (w.setCell ⟨pb,i*11+5,none⟩ (.int .i64 (u.life - 3))).drew:=by rw [hW1];exact (Fr.refl _ _).drew
  have K0:=HS _ KF
  have hn2:=h.n2
  have HT:=hid h
  clear hi hact hi1 h
  go_enter Tryz.func207,Tryz.ntmps207
  go_wp2_with fail
  go_cut [] (fun wx=>Fr [hb] W1 wx/\MapF wx hb (fun k=>if k=(u.x,u.y) then none else qx2 t.held k))
  case first =>
   go_region_held (fun w':World=>w'.cell? ⟨pb,i*11,none⟩=some (ii u.id)/\w'.cell? ⟨pb,i*11+1,none⟩=some (ii u.owner)/\w'.cell? ⟨pb,i*11+2,none⟩=some (ii u.kind)/\w'.cell? ⟨pb,i*11+3,none⟩=some (ii u.x)/\w'.cell? ⟨pb,i*11+4,none⟩=some (ii u.y)/\w'.cell? ⟨pb,i*11+5,none⟩=some (ii (u.life - 3))/\w'.cell? ⟨pb,i*11+6,none⟩=some (ii u.load)/\w'.cell? ⟨pb,i*11+7,none⟩=some (ii u.what)/\w'.cell? ⟨pb,i*11+8,none⟩=some (ii u.tox)/\w'.cell? ⟨pb,i*11+9,none⟩=some (ii u.toy)/\w'.cell? ⟨pb,i*11+10,none⟩=some (ii u.target)/\w'.cell? ⟨tb,149,none⟩=some (.map (some hb))/\Fr [hb] W1 w')
    (first|with_reducible exact K0|with_reducible exact HS _ hfk|with_reducible exact HS _ hfm)
    (first|(go_at_call 192;refine (qv2 { u with life:=u.life - 3 } _).mono ?_;rintro e w1 ⟨rfl,hf1⟩;have hfk:Fr [hb] W1 w1:=KF.then0 hf1;obtain ⟨wd,hdel,hmd,hfd⟩:=gx2 (hm1.fr (Fr.then0 (S:=[]) (by rw [hW1];exact (Fr.refl _ _).drew) hf1) (by simp)) 205 0 159 3 Tryz.underlying205 u.x u.y;have hfm:Fr [hb] W1 wd:=hfk.trans hfd (by simp)))
   all_goals
    go_wp2_with fail
    go_meet
    exact ⟨hfm,hmd⟩
  case rest =>
   obtain ⟨hfx,hmx⟩:=hcut
   have h:=HT.out
   have hn1:=h.n1
   have hn4:=h.n4
   have hcx:wc.cell? ⟨tb,148,none⟩=some (.slice (some ⟨pb,0,none⟩) t.us.length cap):=by
    rw [hfx.cell tb 148 (by omega) (by simp;exact h.n2),h01.cell tb 148 htl (by simp;exact h.n1)];exact hc
   have hzx:wc.frozen? ⟨tb,148,none⟩=false:=by
    rw [hfx.frozen tb 148 (by omega) (by simp;exact h.n2),h01.frozen tb 148 htl (by simp;exact h.n1)];exact hcz
   have hrx:=hrow1.fr hfx (by simp;exact h.n4)
   have hlx:(t.us.set i { u with life:=u.life - 3 }).length=t.us.length:=List.length_set
   have HC:=kx0 pb cap i _ wc hrx (by omega) (by omega)
   rw [hlx] at HC
   have htx:tb < wc.heap.size:=by have:=hfx.size;omega
   have HX:=hid hfx
   have HL:=hid hlx
   clear HS K0 KF hW1 hrx hrow1 hc c0 c1 c2 c3 c4 c5 c6 c7 c8 c9 c10 z5 hcz hlx hfx
   go_wp2_with (go_at_call 221;refine HC.mono ?_;rintro e w2 ⟨rfl,hrow2,hf2⟩;have hc2:=(hf2.cell tb 148 htx (by simp;exact hn1)).trans hcx;have hz2:=(hf2.frozen tb 148 htx (by simp;exact hn1)).trans hzx)
   have hfx:=HX.out
   have hc2':w2.cell? ⟨tb,148,none⟩=some (.slice (some ⟨pb,0,none⟩) t.us.length cap):=hc2
   have e1:(t.us.set i { u with life:=u.life - 3 }).eraseIdx i=t.us.eraseIdx i:=by
    rw [List.eraseIdx_eq_take_drop_succ,List.eraseIdx_eq_take_drop_succ,yy8 _ _ _ _ (Nat.le_refl _),jz2 _ _ _ _ (Nat.lt_succ_self _)]
   have e2:(t.us.eraseIdx i).length=t.us.length - 1:=by rw [List.length_eraseIdx];simp [hil]
   have hall:Fr [tb,pb,hb] w (w2.setCell ⟨tb,148,none⟩ (.slice (some ⟨pb,0,none⟩) (t.us.length - 1) cap)) :=
    ((((h01.mono (S':=[tb,pb,hb]) (by simp)).trans hfx (by simp)).trans hf2 (by simp)).setCell _ _ (by simp))
   have hf3:Fr [tb] w2 (w2.setCell ⟨tb,148,none⟩ (.slice (some ⟨pb,0,none⟩) (t.us.length - 1) cap)):=(Fr.refl _ _).setCell _ _ (by simp)
   refine bodyPost_end (v:=.tuple #[]) (results_none rfl _ _ _) rfl ⟨rfl,hall,?_⟩
   rw [HA.out]
   rw [e1] at hrow2
   refine { h with cell:=?_,fz:=?_,row:=?_,held:=?_,ways:=?_,len:=?_ }
   ·intro k hk
    show _=some (qq9 t (.slice (some ⟨pb,0,none⟩) (t.us.eraseIdx i).length cap) hb bb k)
    rw [e2]
    by_cases h148:k=148
    ·subst h148
     rw [qk0 _ _ _ _ _ hc2']
     simp [qq9]
    ·rw [qz1 _ tb 148 tb k _ (Or.inr (by omega)),hf2.cell tb k htx (by simp;exact hn1),hfx.cell tb k (by omega) (by simp;exact hn2),h01.cell tb k htl (by simp;exact hn1),h.cell k hk]
     exact congrArg some (qqq7 t _ _ hb bb k h148)
   ·intro k
    rw [World.frozen?_setCell,hf2.frozen tb k htx (by simp;exact hn1),hfx.frozen tb k (by omega) (by simp;exact hn2),h01.frozen tb k htl (by simp;exact hn1)]
    exact h.fz k
   ·exact hrow2.fr hf3 (by simp;exact fun e=>hn1 e.symm)
   ·show (t.us.eraseIdx i).length<=1000
    omega
   ·refine ((hmx.fr hf2 (by simp;exact fun e=>hn4 e.symm)).fr hf3 (by simp;exact fun e=>hn2 e.symm)).of_eq ?_
    intro k
    show _=Option.map _ (if k=(u.x,u.y) then none else t.held k)
    by_cases hk:k=(u.x,u.y)
    ·rw [if_pos hk,if_pos hk];rfl
    ·rw [if_neg hk,if_neg hk]
   ·exact ((((h.ways.fr h01 (by simp;exact fun e=>h.n5 e.symm)).fr hfx (by simp;exact fun e=>h.n6 e.symm)).fr hf2 (by simp;exact fun e=>h.n5 e.symm)).fr hf3 (by simp;exact fun e=>h.n3 e.symm))
 ·have hact:t.harm i={ t with us:=t.us.set i { u with life:=u.life - 3 } }:=by unfold T.harm;rw [hi];exact if_neg hd
  have HA:=hid hact
  have HT:=hid h
  clear hi hact h
  go_enter Tryz.func207,Tryz.ntmps207
  go_wp2_with fail
  have h:=HT.out
  have hf1:Fr [pb] w (w.setCell ⟨pb,i*11+5,none⟩ (.int .i64 (u.life - 3))):=(Fr.refl _ _).setCell _ _ (by simp)
  refine bodyPost_end (v:=.tuple #[]) (results_none rfl _ _ _) rfl ⟨rfl,hf1.mono (by simp),?_⟩
  rw [HA.out]
  refine { h with cell:=?_,fz:=?_,row:=?_,held:=?_,ways:=?_,len:=?_ }
  ·intro k hk
   show _=some (qq9 t (.slice (some ⟨pb,0,none⟩) (t.us.set i _).length cap) hb bb k)
   rw [List.length_set,hf1.cell tb k htl (by simp;exact h.n1)]
   exact h.cell k hk
  ·intro k
   rw [hf1.frozen tb k htl (by simp;exact h.n1)]
   exact h.fz k
  ·exact h.row.life HI.out _
  ·show (t.us.set i _).length<=1000
   rw [List.length_set];exact hlen
  ·exact h.held.fr hf1 (by simp;exact fun e=>h.n4 e.symm)
  ·exact h.ways.fr hf1 (by simp;exact fun e=>h.n5 e.symm)
def qz0 (us:List U)(id:Int):Option Nat:=us.findIdx? (fun u=>u.id==id)
theorem jk3 {us:List U}{id:Int}{i:Nat}{u:U}(hr:Rise us)(hi:us[i]?=some u)(hu:u.id=id):qz0 us id=some i:=by
 obtain ⟨hl,rfl⟩:=List.getElem?_eq_some_iff.1 hi
 unfold qz0
 rw [List.findIdx?_eq_some_iff_getElem]
 refine ⟨hl,by simpa using hu,fun j hj=>?_⟩
 have:=hr.lt (List.getElem?_eq_getElem (by omega:j < us.length)) hi hj
 simp
 omega
theorem zy0 {us:List U}{id:Int}(h:∀ u∈us,u.id≠id):qz0 us id=none:=by
 unfold qz0
 rw [List.findIdx?_eq_none_iff]
 intro x hx
 simpa using h x hx
theorem qv8 {us:List U}{id:Int}{i:Nat}(h:qz0 us id=some i):∃ u,us[i]?=some u/\u.id=id:=by
 unfold qz0 at h
 rw [List.findIdx?_eq_some_iff_getElem] at h
 obtain ⟨hl,hu,_⟩:=h
 exact ⟨us[i],List.getElem?_eq_getElem hl,by simpa using hu⟩
theorem yx3 (b pb cap:Nat)(us:List U)(id:Int)(w:World)(hg:GV w b pb cap us)(hs:Rise us) :
  Calls Tryz.prog 152 #[.pointer (some ⟨b,0,none⟩),.int .i64 id] w fun e w'=>∃ (i:Nat) (f:Bool),e=.returned (.tuple #[.int .i64 i,.bool f])/\Fr [] w w' /\
   qz0 us id=(if f=true then some i else none):=by
 refine (kx1 b pb cap us id w hg hs).mono ?_
 rintro e w' ⟨i,f,he,hf,h⟩
 refine ⟨i,f,he,hf,?_⟩
 rcases h with ⟨rfl,u,hu,hid⟩|⟨rfl,hn⟩
 ·rw [if_pos rfl];exact jk3 hs hu hid
 ·rw [if_neg (by simp)];exact zy0 hn
def qy0 (t:T)(u:U):U×T :=
 match qz0 t.us u.target with
 | none=>(u.idle,t)
 | some i =>
  match t.us[i]? with
  | none=>(u.idle,t)
  | some v =>
   if qv5 u.x u.y v.x v.y=true then (u,t.harm i)
   else (u.to (qv7 t u fun c=>qv5 v.x v.y c.1 c.2),t.moved u (qv7 t u fun c=>qv5 v.x v.y c.1 c.2))
theorem qqj8 (tb pb cap hb bb:Nat)(t:T)(u:U)(w:World)(h:TS w tb pb cap hb bb t)(hsd:Sd w)(hri:Rise t.us)(hon:onB u.x u.y=true)(hall:∀ v∈t.us,onB v.x v.y=true /\ -1000<=v.life/\v.life<=1000) :
  Calls Tryz.prog 166 #[.pointer (some ⟨tb,0,none⟩),u.val] w fun e w' =>
   e=.returned (qy0 t u).1.val/\Fr [tb,pb,hb,bb] w w'/\TS w' tb pb cap hb bb (qy0 t u).2:=by
 have hz:=h.z
 have hbl:=h.ways.lt
 have hhl:=h.held.lt
 have htl:=h.lt
 have hpl:=h.row.lt
 obtain ⟨W2,hW2⟩:∃ W,W=(w.alloc (.cells u.arr 85)).alloc (.cells zeroU.arr 85):=⟨_,rfl⟩
 have hs2:W2.heap.size=w.heap.size+1+1:=by rw [hW2];simp
 have h02:Fr [] w W2:=by rw [hW2];exact ((Fr.refl _ _).alloc _).alloc _
 have hU:W2.heap[w.heap.size]?=some (.cells u.arr 85):=by rw [hW2,qz8]
 have hR:W2.heap[w.heap.size+1]?=some (.cells zeroU.arr 85):=by rw [hW2,qz4]
 have HS:∀ w',Fr [] W2 w'->(fun w':World=>cl w' w.heap.size 10 u.target/\Fr [] W2 w') w':=fun w' hf=>⟨j9 (hf.heap0 hU),hf⟩
 have KF:Fr [] W2 (((w.alloc (.cells u.arr 85)).alloc (.cells zeroU.arr 85)).drew):=by rw [hW2];exact (Fr.refl _ _).drew
 have K0:=HS _ KF
 clear hW2
 go_enter Tryz.func166,Tryz.ntmps166
 go_wp2_with fail
 go_cut [5,6] (fun s5 s6 wx=>∃ (i:Nat) (f:Bool),s5=.int .i64 i/\s6=.bool f/\qz0 t.us u.target=(if f=true then some i else none)/\Fr [] W2 wx)
 case first =>
  go_region_held (fun w':World=>w'.cell? ⟨w.heap.size,10,none⟩=some (ii u.target)/\Fr [] W2 w')
   (first|with_reducible exact K0|with_reducible exact HS _ hfr1)
   (first|(go_at_call 152;refine (yx3 tb pb cap t.us u.target _ (h.gv.fr0 (h02.then0 (And.right (by assumption)))) hri).mono ?_;rintro e w1 ⟨i,f,rfl,hf1,hpl1⟩;have hfr1:Fr [] W2 w1:=Fr.then0 (And.right (by assumption)) hf1))
  all_goals
   go_wp2_with fail
   go_meet
   exact ⟨i,f,rfl,rfl,hpl1,hfr1⟩
 case rest =>
  obtain ⟨i,f,rfl,rfl,hplace,hfx⟩:=hcut
  have hux:=hfx.heap0 hU
  have hrx:=hfx.heap0 hR
  have hwx:=h02.then0 hfx
  have hl:=qq2 hrx
  have HRX:=hid hrx
  have hts:=h.fr0 hwx
  have hsx:=hsd.fr0 hwx
  cases f
  ·have hact:qy0 t u=(u.idle,t):=by unfold qy0;rw [hplace];rfl
   have HA:=hid hact
   clear hact hrx K0 HS KF hplace
   go_wp2_with (refine wpList_load_row rfl 85 _ rfl w.heap.size rfl 85 u.arr (0,0) _ hux Tryz.underlying85 rfl qq5 ?_)
   refine (yx4 u _).mono ?_
   rintro e w5 ⟨rfl,hf5⟩
   have hr5:=hf5.heap0 HRX.out
   go_wp2_with (refine wpList_store_row rfl 85 _ _ rfl (w.heap.size+1) u.idle.arr rfl rfl 85 _ hr5 qq5 rfl (U.one _) ?_)
   have hall:Fr [tb,pb,hb,bb] w (w5.setRow (w.heap.size+1) u.idle.arr):=(hwx.then0 hf5).of0.setRow _ _ (Or.inr (by omega))
   refine bodyPost_ret (v:=u.idle.val) (results_cell_row Tryz.results166 _ _ (w.heap.size+1) 85 u.idle.arr (0,0) _ rfl (setRow_heap _ _ _ u.idle.arr _ _ hr5) Tryz.underlying85 rfl qq5) rfl ⟨?_,hall,?_⟩
   ·rw [HA.out]
   ·rw [HA.out]
    exact (hts.fr0 hf5).fr ((Fr.refl [w.heap.size+1] w5).setRow _ _ (by simp)) (by simp;omega) (by simp;omega) (by simp;omega) (by simp;omega)
  ·rw [if_pos rfl] at hplace
   obtain ⟨v,hv,hvid⟩:=qv8 hplace
   obtain ⟨hvon,hvl1,hvl2⟩:=hall v (List.mem_of_getElem? hv)
   have hil:i < t.us.length:=(List.getElem?_eq_some_iff.1 hv).1
   have hlen:=h.len
   have hcx:=hts.gv.c
   obtain ⟨c0,c1,c2,c3,c4,c5,c6,c7,c8,c9,c10⟩:=hts.row.ppl.at hv
   have HV:=hid hv
   have HPL:=hid hplace
   clear hv hplace hrx K0 HS KF hall hvid
   go_wp2_with fail
   refine (qv2 v _).mono ?_
   rintro e w3 ⟨rfl,hf3⟩
   obtain ⟨p0,p1,p2,p3⟩:=qz3.1 hon
   obtain ⟨p4,p5,p6,p7⟩:=qz3.1 hvon
   go_wp2_with fail
   have hfg:Fr [] wc (w3.alloc (.cells #[ii v.x,ii v.y] 159)):=hf3.alloc _
   have hgg:(w3.alloc (.cells #[ii v.x,ii v.y] 159)).heap[w3.heap.size]?=some (.cells #[ii v.x,ii v.y] 159):=qq6 _ _
   have hlg:w.heap.size+1 < w3.heap.size:=Nat.lt_of_lt_of_le hl hf3.size
   obtain ⟨g,hg⟩:∃ g,g=w3.heap.size:=⟨_,rfl⟩
   obtain ⟨WG,hWG⟩:∃ W,W=w3.alloc (.cells #[ii v.x,ii v.y] 159):=⟨_,rfl⟩
   rw [<- hWG] at hfg hgg |-
   rw [<- hg] at hgg hlg |-
   have hwg:=hwx.then0 hfg
   have hug:=hfg.heap0 hux
   have htg:=hts.fr0 hfg
   have hsg:=hsx.fr0 hfg
   have hrg:=hfg.heap0 HRX.out
   have HRG:=hid hrg
   clear hWG hg hf3 hux hts hsx hrg hcx c0 c1 c2 c3 c4 c5 c6 c7 c8 c9 c10 HRX hfg hwx
   obtain ⟨A,hA⟩:∃ A,qv5 u.x u.y v.x v.y=A:=⟨_,rfl⟩
   have HAA:=hid hA
   clear hA
   have HS7:∀ w',Fr [] WG w'->(fun w':World=>Fr [] WG w'/\w'.cell? ⟨w.heap.size,0,none⟩=some (ii u.id)/\w'.cell? ⟨w.heap.size,1,none⟩=some (ii u.owner)/\w'.cell? ⟨w.heap.size,2,none⟩=some (ii u.kind)/\w'.cell? ⟨w.heap.size,3,none⟩=some (ii u.x)/\w'.cell? ⟨w.heap.size,4,none⟩=some (ii u.y)/\w'.cell? ⟨w.heap.size,5,none⟩=some (ii u.life)/\w'.cell? ⟨w.heap.size,6,none⟩=some (ii u.load)/\w'.cell? ⟨w.heap.size,7,none⟩=some (ii u.what)/\w'.cell? ⟨w.heap.size,8,none⟩=some (ii u.tox)/\w'.cell? ⟨w.heap.size,9,none⟩=some (ii u.toy)/\w'.cell? ⟨w.heap.size,10,none⟩=some (ii u.target)/\w'.cell? ⟨g,0,none⟩=some (ii v.x)/\w'.cell? ⟨g,1,none⟩=some (ii v.y)) w':=fun w' hf=>by
    have hu:=hf.heap0 hug
    have hg:=hf.heap0 hgg
    exact ⟨hf,j9 hu,j9 hu,j9 hu,j9 hu,j9 hu,j9 hu,j9 hu,j9 hu,j9 hu,j9 hu,j9 hu,j9 hg,j9 hg⟩
   have K7:=HS7 WG.drew ((Fr.refl [] WG).drew)
   go_cut [34] (fun s34 wx=>s34=.bool (!A)/\Fr [] WG wx)
   case first =>
    go_region_held (fun w':World=>Fr [] WG w'/\w'.cell? ⟨w.heap.size,0,none⟩=some (ii u.id)/\w'.cell? ⟨w.heap.size,1,none⟩=some (ii u.owner)/\w'.cell? ⟨w.heap.size,2,none⟩=some (ii u.kind)/\w'.cell? ⟨w.heap.size,3,none⟩=some (ii u.x)/\w'.cell? ⟨w.heap.size,4,none⟩=some (ii u.y)/\w'.cell? ⟨w.heap.size,5,none⟩=some (ii u.life)/\w'.cell? ⟨w.heap.size,6,none⟩=some (ii u.load)/\w'.cell? ⟨w.heap.size,7,none⟩=some (ii u.what)/\w'.cell? ⟨w.heap.size,8,none⟩=some (ii u.tox)/\w'.cell? ⟨w.heap.size,9,none⟩=some (ii u.toy)/\w'.cell? ⟨w.heap.size,10,none⟩=some (ii u.target)/\w'.cell? ⟨g,0,none⟩=some (ii v.x)/\w'.cell? ⟨g,1,none⟩=some (ii v.y))
     (first|with_reducible exact K7|with_reducible exact HS7 _ hfk)
     (first|(go_at_call 192;refine (qv2 u _).mono ?_;rintro e w1 ⟨rfl,hf1⟩;have hfk:Fr [] WG w1:=Fr.then0 (And.left (by assumption)) hf1)|(go_at_call 206;refine (zk6 u.x u.y v.x v.y _ (hsg.fr0 (And.left (by assumption))) (by omega) (by omega) (by omega) (by omega) (by omega) (by omega) (by omega) (by omega)).mono ?_;rintro e w1 ⟨rfl,hf1⟩;rw [HAA.out];have hfk:Fr [] WG w1:=Fr.then0 (And.left (by assumption)) hf1))
    all_goals
     go_wp2_with fail
     go_meet
     exact ⟨rfl,hfk⟩
   case rest =>
    obtain ⟨rfl,hfy⟩:=hcut
    have hwy:=hwg.then0 hfy
    have huy:=hfy.heap0 hug
    have hgy:=hfy.heap0 hgg
    have hry:=hfy.heap0 HRG.out
    have hty:=htg.fr0 hfy
    have hsy:=hsg.fr0 hfy
    have HRY:=hid hry
    clear hug hgg htg hsg HS7 K7 hry
    cases A
    ·have hact:qy0 t u=(u.to (qv7 t u fun c=>qv5 v.x v.y c.1 c.2),t.moved u (qv7 t u fun c=>qv5 v.x v.y c.1 c.2)):=by
      unfold qy0;rw [HPL.out];simp only [HV.out];rw [HAA.out];rfl
     have HA:=hid hact
     clear hact
     have hmf:∀ (fn:Fn) (first cap:Array Value) (w:World),(Instr.makeFunc fn first cap).run Tryz.prog w=.ok (.func fn first cap) w:=fun _ _ _ _=>rfl
     go_wp2_with (first|(refine wpList_load_row rfl 85 _ rfl w.heap.size rfl 85 u.arr (0,0) _ huy Tryz.underlying85 rfl qq5 ?_)|(refine wpList_load_row rfl 159 _ rfl g rfl 159 #[ii v.x,ii v.y] (0,0) _ hgy Tryz.underlying159 rfl qw1 ?_))
     refine (xw5 tb pb cap hb bb t u v.x v.y _ hty hsy hon hvon).mono ?_
     rintro e w5 ⟨rfl,hf5,ht5⟩
     have hr5:=hf5.heap HRY.out (by simp;omega)
     obtain ⟨q,hq⟩:∃ q,q=u.to (bfs (fun c=>qv3 (qx2 t.held) t.bd c.1 c.2) (fun c=>qv5 v.x v.y c.1 c.2) (u.x,u.y)):=⟨_,rfl⟩
     rw [<- hq]
     have HQ:=hid hq
     clear hq
     go_wp2_with (refine wpList_store_row rfl 85 _ _ rfl (w.heap.size+1) q.arr rfl rfl 85 _ hr5 qq5 rfl (U.one _) ?_)
     have hall:Fr [tb,pb,hb,bb] w (w5.setRow (w.heap.size+1) q.arr):=((hwy.of0 (S:=[tb,pb,hb,bb])).trans hf5 (by simp)).setRow _ _ (Or.inr (by omega))
     refine bodyPost_ret (v:=q.val) (results_cell_row Tryz.results166 _ _ (w.heap.size+1) 85 q.arr (0,0) _ rfl (setRow_heap _ _ _ q.arr _ _ hr5) Tryz.underlying85 rfl qq5) rfl ⟨?_,hall,?_⟩
     ·rw [HA.out,HQ.out];rfl
     ·rw [HA.out]
      exact ht5.fr ((Fr.refl [w.heap.size+1] w5).setRow _ _ (by simp)) (by simp;omega) (by simp;omega) (by simp;omega) (by simp;omega)
    ·have hact:qy0 t u=(u,t.harm i):=by
      unfold qy0;rw [HPL.out];simp only [HV.out];rw [HAA.out];rfl
     have HA:=hid hact
     clear hact
     go_wp2_with (first|(go_at_call 207;refine (dx2 tb pb cap hb bb t i v _ hty HV.out ⟨hvl1,hvl2⟩).mono ?_;rintro e w5 ⟨rfl,hf5,ht5⟩;have hu5:=hf5.heap huy (by simp;omega);have hr5:=hf5.heap HRY.out (by simp;omega);have HR5:=(hid hr5);clear hr5)|(refine wpList_load_row rfl 85 _ rfl w.heap.size rfl 85 u.arr (0,0) _ hu5 Tryz.underlying85 rfl qq5 ?_)|(refine wpList_store_row rfl 85 _ _ rfl (w.heap.size+1) u.arr rfl rfl 85 _ HR5.out qq5 rfl (U.one _) ?_))
     have hall:Fr [tb,pb,hb,bb] w (w5.setRow (w.heap.size+1) u.arr):=((hwy.of0 (S:=[tb,pb,hb,bb])).trans hf5 (by simp)).setRow _ _ (Or.inr (by omega))
     refine bodyPost_ret (v:=u.val) (results_cell_row Tryz.results166 _ _ (w.heap.size+1) 85 u.arr (0,0) _ rfl (setRow_heap _ _ _ u.arr _ _ HR5.out) Tryz.underlying85 rfl qq5) rfl ⟨?_,hall,?_⟩
     ·rw [HA.out]
     ·rw [HA.out]
      exact ht5.fr ((Fr.refl [w.heap.size+1] w5).setRow _ _ (by simp)) (by simp;omega) (by simp;omega) (by simp;omega) (by simp;omega)
end Go.Proofs.YtapabahhfanmmaaGreatDoor
