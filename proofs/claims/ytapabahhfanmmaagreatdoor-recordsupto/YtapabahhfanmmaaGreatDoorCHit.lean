import Derived.Test.YtapabahhfanmmaaGreatDoorCMine
namespace Go.Proofs.YtapabahhfanmmaaGreatDoor
open Go.RowKit List
set_option maxRecDepth 100000
set_option maxHeartbeats 2000000
theorem sL {α:Type}:∀ (l:List α) (o:Nat) (v:α),o < l.length->(l.set o v).take (o+1)=l.take o ++ [v]
 | [],_,_,h=>by simp at h
 | a :: l,0,v,_=>by simp
 | a :: l,o+1,v,h=>by simp [sL l o v (by simpa using h)]
theorem nS {α:Type}:∀ (l:List α) (o n:Nat) (v:α),o < n->(l.set o v).drop n=l.drop n
 | [],_,_,_,_=>by simp
 | a :: l,0,n+1,v,_=>by simp
 | a :: l,o+1,n+1,v,h=>by simp [nS l o n v (by omega)]
theorem sB (b:Nat)(t:TypeId):∀ (a:List Value) (o:Nat) (cur:Array Value) (w:World),w.heap[b]?=some (.cells cur t)->o+a.length<=cur.size->(w.setCells b o a).heap[b]?=some (.cells (cur.toList.take o ++ a ++ cur.toList.drop (o+a.length)).toArray t)
 | [],o,cur,w,h,_=>by
  show w.heap[b]?=_
  rw [h]
  simp
 | v :: r,o,cur,w,h,hl=>by
  have h1:=bS h o v
  simp only [length_cons] at hl
  have c:=sB b t r (o+1) _ _ h1 (by rw [Array.size_setIfInBounds];omega)
  show ((w.setCell ⟨b,o,none⟩ v).setCells b (o+1) r).heap[b]?=_
  rw [c]
  congr 2
  have ho:o < cur.toList.length:=by rw [Array.length_toList];omega
  rw [Array.toList_setIfInBounds,sL _ _ _ ho,nS _ _ _ _ (by omega),length_cons,show o+1+r.length=o+(r.length+1) by omega]
  simp
theorem Fr.setCells {S:List Nat}{a:World}(b:Nat):∀ (d:List Value) (o:Nat) (c:World),Fr S a c->(b∈S\/a.heap.size<=b)->Fr S a (c.setCells b o d)
 | [],_,_,h,_=>h
 | v :: r,o,_,h,hb=>Fr.setCells b r (o+1) _ (h.setCell ⟨b,o,none⟩ v hb) hb
theorem GZ (us:List U)(i:Nat)(u':U)(hi:i < us.length):(us.set i u').flatMap U.cells=(us.flatMap U.cells).take (i*11) ++ u'.cells ++ (us.flatMap U.cells).drop (i*11+11):=by
  rw [set_eq_take_append_cons_drop,if_pos hi,flatMap_append,flatMap_cons,vI,vD,append_assoc,show (i+1)*11=i*11+11 by omega]
theorem PRow.there {w:World}{c a i:Nat}{us:List U}(h:PRow w c a us)(hi:i < us.length):w.there c (i*11) 11:=by
 obtain ⟨cur,b,hs,ht⟩:=h.h
 have d:=h.le
 intro j e
 refine ⟨?_,bI b⟩
 rw [aB b,Array.getElem?_eq_getElem (by omega)]
 rfl
theorem PRow.put {w:World}{c a i:Nat}{us:List U}(h:PRow w c a us)(hi:i < us.length)(u':U):PRow (w.setCells c (i*11) u'.cells) c a (us.set i u'):=by
 obtain ⟨cur,f,hs,ht⟩:=h.h
 have d:=h.le
 have b:u'.cells.length=11:=rfl
 refine ⟨⟨_,sB c _ u'.cells (i*11) cur w f (by omega),?_,?_⟩,by simpa using d,h.cap⟩
 ·simp;omega
 rw [GZ us i u' hi,length_set,<- ht]
 show take _ (_ ++ _ ++ _)=_
 rw [b,take_take,Nat.min_eq_left (by omega),drop_take]
 have e:(take (i*11) cur.toList ++ u'.cells).length=i*11+11:=by
  rw [length_append,length_take,b,Array.length_toList];omega
 rw [take_append,e,take_of_length_le (by omega)]
theorem vH (v:Int):∀ (us:List U) (i:Nat) (u:U),us[i]?=some u->(us.flatMap U.cells).set (i*11+5) (.int .i64 v)=(us.set i { u with life:=v }).flatMap U.cells
 | [],i,u,h=>by simp at h
 | a :: us,0,u,h=>by
  simp at h
  subst h
  simp
 | a :: us,i+1,u,h=>by
  have hl:(a.cells).length=11:=rfl
  have b:=vH v us i u (by simpa using h)
  rw [set_cons_succ,flatMap_cons,flatMap_cons,<- b,set_append,if_neg (by omega),hl,show (i+1)*11+5 - 11=i*11+5 by omega]
theorem PRow.life {w:World}{b a i:Nat}{us:List U}{u:U}(h:PRow w b a us)(hi:us[i]?=some u)(v:Int):PRow (w.setCell ⟨b,i*11+5,none⟩ (.int .i64 v)) b a (us.set i { u with life:=v }):=by
 obtain ⟨cur,c,hs,ht⟩:=h.h
 refine ⟨⟨_,bS c (i*11+5) _,?_,?_⟩,by simpa using h.le,h.cap⟩
 ·rw [Array.size_setIfInBounds];exact hs
 rw [length_set,<- vH v us i u hi,<- ht,Array.toList_setIfInBounds,take_set]
theorem PRow.fz {w:World}{b a:Nat}{us:List U}(h:PRow w b a us)(o:Nat):w.frozen? ⟨b,o,none⟩=false:=by
 obtain ⟨cur,c,hs,ht⟩:=h.h
 exact bI c
theorem BF {α:Type}:∀ (l:List α) (o n:Nat) (v:α),n<=o->(l.set o v).take n=l.take n
 | [],_,_,_,_=>by simp
 | _ :: _,_,0,_,_=>by simp
 | a :: l,o+1,n+1,v,h=>by simp [BF l o n v (by omega)]
theorem UE (t:T)(p q:Value)(hb a k:Nat)(b:k≠148):aN t p hb a k=aN t q hb a k:=by
 unfold aN
 simp [b]
theorem MapF.of_eq {w:World}{r:Nat}{f g:Int×Int->Option Value}(h:MapF w r f)(e:∀ k,f k=g k):MapF w r g:=by
 have:f=g:=funext e
 rw [<- this];exact h
def T.harm (t:T)(i:Nat):T :=
 match t.us[i]? with
 | none=>t
 | some u=>if u.life - 3<=0 then { t with us:=t.us.eraseIdx i,held:=fun k=>if k=(u.x,u.y) then none else t.held k } else { t with us:=t.us.set i { u with life:=u.life - 3 } }
theorem FP (b a i:Nat)(us:List U)(w:World)(f:PRow w b a us)(c:us.length<=1000)(hi:i < us.length) :
    Cs 221 #[.slice (so b) us.length a,.int .i64 i,.int .i64 ((i:Int)+1)] w fun e d=>e=.returned (.slice (so b) (us.length - 1) a)/\PRow d b a (us.eraseIdx i)/\Fr [b] w d:=FO b a i us w f c hi
theorem IV (d a g hb J:Nat)(t:T)(i:Nat)(u:U)(w:World)(h:TS w d a g hb J t)(hi:t.us[i]?=some u)(an:-1000<=u.life/\u.life<=1000) :
  Cs 207 #[.pointer (so d),.int .i64 i] w fun e b =>
   e=.returned (.tuple #[])/\Fr [d,a,hb] w b/\TS b d a g hb J (t.harm i):=by
 have hz:=h.z
 have al:=h.ways.lt
 have am:=h.held.lt
 have r:=h.lt
 have ao:=h.row.lt
 have Q:i < t.us.length:=(gs.1 hi).1
 have R:=h.len
 have hc:=h.gv.c
 have M:=h.fz 148
 obtain ⟨c0,c1,c2,c3,c4,c5,c6,c7,c8,c9,aa⟩:=h.row.ppl.at hi
 have z5:=h.row.fz (i*11+5)
 have HI:=aA hi
 by_cases hd:u.life - 3<=0
 ·have l:t.harm i={ t with us:=t.us.eraseIdx i,held:=fun k=>if k=(u.x,u.y) then none else t.held k }:=by unfold T.harm;rw [hi];exact if_pos hd
  have HA:=aA l
  obtain ⟨A,s⟩:∃ W,W=w.setCell ⟨a,i*11+5,none⟩ (.int .i64 (u.life - 3)):=⟨_,rfl⟩
  have q:PRow A a g (t.us.set i { u with life:=u.life - 3 }):=by rw [s];exact h.row.life hi _
  have P:(t.us.set i { u with life:=u.life - 3 })[i]?=some { u with life:=u.life - 3 }:=by rw [getElem?_set_self Q]
  have j:Fr [a] w A:=by rw [s];exact (r0 _ _).setCell _ _ (by simp)
  have ap:A.heap.size=w.heap.size:=by rw [s];simp [World.setCell]
  have af:MapF A hb (bG t.held):=h.held.fr j (by simp;exact fun e=>h.n4 e.symm)
  have X:∀ b,Fr [hb] A b->(fun b:World=>b.cell? ⟨a,i*11,none⟩=some (ii u.id)/\b.cell? ⟨a,i*11+1,none⟩=some (ii u.owner)/\b.cell? ⟨a,i*11+2,none⟩=some (ii u.kind)/\b.cell? ⟨a,i*11+3,none⟩=some (ii u.x)/\b.cell? ⟨a,i*11+4,none⟩=some (ii u.y)/\b.cell? ⟨a,i*11+5,none⟩=some (ii (u.life - 3))/\b.cell? ⟨a,i*11+6,none⟩=some (ii u.load)/\b.cell? ⟨a,i*11+7,none⟩=some (ii u.what)/\b.cell? ⟨a,i*11+8,none⟩=some (ii u.tox)/\b.cell? ⟨a,i*11+9,none⟩=some (ii u.toy)/\b.cell? ⟨a,i*11+10,none⟩=some (ii u.target)/\b.cell? ⟨d,149,none⟩=some (.map (some hb))/\Fr [hb] A b) b:=by
   intro b hf
   obtain ⟨d0,d1,d2,d3,d4,d5,d6,d7,d8,d9,ab⟩:=(q.fr hf (by simp;exact h.n4)).ppl.at P
   refine ⟨d0,d1,d2,d3,d4,d5,d6,d7,d8,d9,ab,?_,hf⟩
   rw [hf.cell d 149 (by omega) (by simp;exact h.n2),j.cell d 149 r (by simp;exact h.n1)]
   exact h.tv.c
  have KF:Fr [hb] A (w.setCell ⟨a,i*11+5,none⟩ (.int .i64 (u.life - 3))).drew:=by rw [s];exact (r0 _ _).drew
  have K0:=X _ KF
  have I:=h.n2
  have HT:=aA h
  clear hi l P h
  go_enter Tryz.func207,Tryz.ntmps207
  go_wp2_with fail
  go_cut [] (fun wx=>Fr [hb] A wx/\MapF wx hb (fun k=>if k=(u.x,u.y) then none else bG t.held k))
  case first =>
   go_region_held (fun b:World=>b.cell? ⟨a,i*11,none⟩=some (ii u.id)/\b.cell? ⟨a,i*11+1,none⟩=some (ii u.owner)/\b.cell? ⟨a,i*11+2,none⟩=some (ii u.kind)/\b.cell? ⟨a,i*11+3,none⟩=some (ii u.x)/\b.cell? ⟨a,i*11+4,none⟩=some (ii u.y)/\b.cell? ⟨a,i*11+5,none⟩=some (ii (u.life - 3))/\b.cell? ⟨a,i*11+6,none⟩=some (ii u.load)/\b.cell? ⟨a,i*11+7,none⟩=some (ii u.what)/\b.cell? ⟨a,i*11+8,none⟩=some (ii u.tox)/\b.cell? ⟨a,i*11+9,none⟩=some (ii u.toy)/\b.cell? ⟨a,i*11+10,none⟩=some (ii u.target)/\b.cell? ⟨d,149,none⟩=some (.map (some hb))/\Fr [hb] A b)
    (first|with_reducible exact K0|with_reducible exact X _ N|with_reducible exact X _ O)
    (first|(go_at_call 192;refine (gU { u with life:=u.life - 3 } _).mono ?_;rintro e w1 ⟨rfl,m⟩;have N:Fr [hb] A w1:=KF.then0 m;obtain ⟨wd,ak,ag,ae⟩:=qJ (af.fr (Fr.then0 (S:=[]) (by rw [s];exact (r0 _ _).drew) m) (by simp)) 205 0 159 3 Tryz.underlying205 u.x u.y;have O:Fr [hb] A wd:=N.trans ae (by simp)))
   all_goals
    go_wp2_with fail
    go_meet
    exact ⟨O,ag⟩
  case rest =>
   obtain ⟨f,ah⟩:=hcut
   have h:=HT.o
   have p:=h.n1
   have ai:=h.n4
   have ad:wc.cell? ⟨d,148,none⟩=some (.slice (so a) t.us.length g):=by
    rw [f.cell d 148 (by omega) (by simp;exact h.n2),j.cell d 148 r (by simp;exact h.n1)];exact hc
   have aj:wc.frozen? ⟨d,148,none⟩=false:=by
    rw [f.frozen d 148 (by omega) (by simp;exact h.n2),j.frozen d 148 r (by simp;exact h.n1)];exact M
   have V:=q.fr f (by simp;exact h.n4)
   have H:(t.us.set i { u with life:=u.life - 3 }).length=t.us.length:=length_set
   have HC:=FP a g i _ wc V (by omega) (by omega)
   rw [H] at HC
   have C:d < wc.heap.size:=by have:=f.size;omega
   have HX:=aA f
   have HL:=aA H
   clear X K0 KF s V q hc c0 c1 c2 c3 c4 c5 c6 c7 c8 c9 aa z5 M H f
   go_wp2_with (go_at_call 221;refine HC.mono ?_;rintro e Y ⟨rfl,B,n⟩;have ac:=(n.cell d 148 C (by simp;exact p)).trans ad;have aq:=(n.frozen d 148 C (by simp;exact p)).trans aj)
   have f:=HX.o
   have L:Y.cell? ⟨d,148,none⟩=some (.slice (so a) t.us.length g):=ac
   have e1:(t.us.set i { u with life:=u.life - 3 }).eraseIdx i=t.us.eraseIdx i:=by
    rw [eraseIdx_eq_take_drop_succ,eraseIdx_eq_take_drop_succ,BF _ _ _ _ (Nat.le_refl _),nS _ _ _ _ (Nat.lt_succ_self _)]
   have e2:(t.us.eraseIdx i).length=t.us.length - 1:=by rw [length_eraseIdx];simp [Q]
   have K:Fr [d,a,hb] w (Y.setCell ⟨d,148,none⟩ (.slice (so a) (t.us.length - 1) g)) :=
    ((((j.mono (S':=[d,a,hb]) (by simp)).trans f (by simp)).trans n (by simp)).setCell _ _ (by simp))
   have F:Fr [d] Y (Y.setCell ⟨d,148,none⟩ (.slice (so a) (t.us.length - 1) g)):=(r0 _ _).setCell _ _ (by simp)
   refine bodyPost_end (v:=.tuple #[]) (results_none rfl _ _ _) rfl ⟨rfl,K,?_⟩
   rw [HA.o]
   rw [e1] at B
   refine { h with cell:=?_,fz:=?_,row:=?_,held:=?_,ways:=?_,len:=?_ }
   ·intro k E
    show _=some (aN t (.slice (so a) (t.us.eraseIdx i).length g) hb J k)
    rw [e2]
    by_cases D:k=148
    ·subst D
     rw [dO _ _ _ _ _ L]
     simp [aN]
    rw [cA _ d 148 d k _ (.inr (by omega)),n.cell d k C (by simp;exact p),f.cell d k (by omega) (by simp;exact I),j.cell d k r (by simp;exact p),h.cell k E]
    exact congrArg some (UE t _ _ hb J k D)
   ·intro k
    rw [World.frozen?_setCell,n.frozen d k C (by simp;exact p),f.frozen d k (by omega) (by simp;exact I),j.frozen d k r (by simp;exact p)]
    exact h.fz k
   ·exact B.fr F (by simp;exact fun e=>p e.symm)
   ·show (t.us.eraseIdx i).length<=1000
    omega
   ·refine ((ah.fr n (by simp;exact fun e=>ai e.symm)).fr F (by simp;exact fun e=>I e.symm)).of_eq ?_
    intro k
    show _=Option.map _ (if k=(u.x,u.y) then none else t.held k)
    by_cases E:k=(u.x,u.y)
    ·rw [if_pos E,if_pos E];rfl
    rw [if_neg E,if_neg E]
   exact ((((h.ways.fr j (by simp;exact fun e=>h.n5 e.symm)).fr f (by simp;exact fun e=>h.n6 e.symm)).fr n (by simp;exact fun e=>h.n5 e.symm)).fr F (by simp;exact fun e=>h.n3 e.symm))
 have l:t.harm i={ t with us:=t.us.set i { u with life:=u.life - 3 } }:=by unfold T.harm;rw [hi];exact if_neg hd
 have HA:=aA l
 have HT:=aA h
 clear hi l h
 go_enter Tryz.func207,Tryz.ntmps207
 go_wp2_with fail
 have h:=HT.o
 have m:Fr [a] w (w.setCell ⟨a,i*11+5,none⟩ (.int .i64 (u.life - 3))):=(r0 _ _).setCell _ _ (by simp)
 refine bodyPost_end (v:=.tuple #[]) (results_none rfl _ _ _) rfl ⟨rfl,m.mono (by simp),?_⟩
 rw [HA.o]
 refine { h with cell:=?_,fz:=?_,row:=?_,held:=?_,ways:=?_,len:=?_ }
 ·intro k E
  show _=some (aN t (.slice (so a) (t.us.set i _).length g) hb J k)
  rw [length_set,m.cell d k r (by simp;exact h.n1)]
  exact h.cell k E
 ·intro k
  rw [m.frozen d k r (by simp;exact h.n1)]
  exact h.fz k
 ·exact h.row.life HI.o _
 ·show (t.us.set i _).length<=1000
  rw [length_set];exact R
 ·exact h.held.fr m (by simp;exact fun e=>h.n4 e.symm)
 exact h.ways.fr m (by simp;exact fun e=>h.n5 e.symm)
def bQ (us:List U)(id:Int):Option Nat:=us.findIdx? (fun u=>u.id==id)
theorem rU {us:List U}{id:Int}{i:Nat}{u:U}(b:Rise us)(hi:us[i]?=some u)(c:u.id=id):bQ us id=some i:=by
 obtain ⟨hl,rfl⟩:=gs.1 hi
 unfold bQ
 rw [findIdx?_eq_some_iff_getElem]
 refine ⟨hl,by simpa using c,fun j a=>?_⟩
 have:=b.lt (getElem?_eq_getElem (by omega:j < us.length)) hi a
 simp
 omega
theorem oP {us:List U}{id:Int}(h:∀ u∈us,u.id≠id):bQ us id=none:=by
 unfold bQ
 rw [findIdx?_eq_none_iff]
 intro x hx
 simpa using h x hx
theorem iV {us:List U}{id:Int}{i:Nat}(h:bQ us id=some i):∃ u,us[i]?=some u/\u.id=id:=by
 unfold bQ at h
 rw [findIdx?_eq_some_iff_getElem] at h
 obtain ⟨hl,a,_⟩:=h
 exact ⟨us[i],getElem?_eq_getElem hl,by simpa using a⟩
theorem nY (b c a:Nat)(us:List U)(id:Int)(w:World)(k:GV w b c a us)(hs:Rise us) :
  Cs 152 #[.pointer (so b),.int .i64 id] w fun e d=>∃ (i:Nat) (f:Bool),e=.returned (.tuple #[.int .i64 i,.bool f])/\Fr [] w d /\
   bQ us id=(if f=true then some i else none):=by
 refine (uV b c a us id w k hs).mono ?_
 rintro e d ⟨i,f,g,j,h⟩
 refine ⟨i,f,g,j,?_⟩
 rcases h with ⟨rfl,u,l,aA⟩|⟨rfl,hn⟩
 ·rw [if_pos rfl];exact rU hs l aA
 rw [if_neg (by simp)];exact oP hn
def eC (t:T)(u:U):U×T :=
 match bQ t.us u.target with
 | none=>(u.idle,t)
 | some i =>
  match t.us[i]? with
  | none=>(u.idle,t)
  | some v =>
   if aY u.x u.y v.x v.y=true then (u,t.harm i)
   else (u.to (cE t u fun c=>aY v.x v.y c.1 c.2),t.moved u (cE t u fun c=>aY v.x v.y c.1 c.2))
theorem JC (s H l hb J:Nat)(t:T)(u:U)(w:World)(h:TS w s H l hb J t)(be:Sd w)(bc:Rise t.us)(ak:aD u.x u.y=true)(d:∀ v∈t.us,aD v.x v.y=true /\ -1000<=v.life/\v.life<=1000) :
  Cs 166 #[.pointer (so s),u.val] w fun e j =>
   e=.returned (eC t u).1.val/\Fr [s,H,hb,J] w j/\TS j s H l hb J (eC t u).2:=by
 have hz:=h.z
 have bk:=h.ways.lt
 have bl:=h.held.lt
 have bq:=h.lt
 have bo:=h.row.lt
 obtain ⟨I,p⟩:∃ W,W=(w.alloc (.cells u.arr 85)).alloc (.cells zeroU.arr 85):=⟨_,rfl⟩
 have bp:I.heap.size=w.heap.size+1+1:=by rw [p];simp
 have ai:Fr [] w I:=by rw [p];exact ((r0 _ _).alloc _).alloc _
 have hU:I.heap[w.heap.size]?=some (.cells u.arr 85):=by rw [p,dD]
 have hR:I.heap[w.heap.size+1]?=some (.cells zeroU.arr 85):=by rw [p,cR]
 have HS:∀ j,Fr [] I j->(fun j:World=>cl j w.heap.size 10 u.target/\Fr [] I j) j:=fun j hf=>⟨aB (hf.heap0 hU),hf⟩
 have KF:Fr [] I (((w.alloc (.cells u.arr 85)).alloc (.cells zeroU.arr 85)).drew):=by rw [p];exact (r0 _ _).drew
 have K0:=HS _ KF
 clear p
 go_enter Tryz.func166,Tryz.ntmps166
 go_wp2_with fail
 go_cut [5,6] (fun s5 s6 wx=>∃ (i:Nat) (f:Bool),s5=.int .i64 i/\s6=.bool f/\bQ t.us u.target=(if f=true then some i else none)/\Fr [] I wx)
 case first =>
  go_region_held (fun j:World=>ca j w.heap.size 10 (ii u.target)/\Fr [] I j)
   (first|with_reducible exact K0|with_reducible exact HS _ N)
   (first|(go_at_call 152;refine (nY s H l t.us u.target _ (h.gv.fr0 (ai.then0 (And.right (by assumption)))) bc).mono ?_;rintro e w1 ⟨i,f,rfl,B,al⟩;have N:Fr [] I w1:=Fr.then0 (And.right (by assumption)) B))
  all_goals
   go_wp2_with fail
   go_meet
   exact ⟨i,f,rfl,rfl,al,N⟩
 case rest =>
  obtain ⟨i,f,rfl,rfl,a,aa⟩:=hcut
  have ae:=aa.heap0 hU
  have K:=aa.heap0 hR
  have F:=ai.then0 aa
  have hl:=aH K
  have R:=aA K
  have D:=h.fr0 F
  have ao:=be.fr0 F
  cases f
  ·have b:eC t u=(u.idle,t):=by unfold eC;rw [a];rfl
   have L:=aA b
   clear b K K0 HS KF a
   go_wp2_with (refine wpList_load_row rfl 85 _ rfl w.heap.size rfl 85 u.arr (0,0) _ ae Tryz.underlying85 rfl aL ?_)
   refine (oC u _).mono ?_
   rintro e P ⟨rfl,k⟩
   have m:=k.heap0 R.o
   go_wp2_with (refine wpList_store_row rfl 85 _ _ rfl (w.heap.size+1) u.idle.arr rfl rfl 85 _ m aL rfl (U.one _) ?_)
   have d:Fr [s,H,hb,J] w (P.setRow (w.heap.size+1) u.idle.arr):=(F.then0 k).of0.setRow _ _ (.inr (by omega))
   refine bodyPost_ret (v:=u.idle.val) (results_cell_row Tryz.results166 _ _ (w.heap.size+1) 85 u.idle.arr (0,0) _ rfl (setRow_heap _ _ _ u.idle.arr _ _ m) Tryz.underlying85 rfl aL) rfl ⟨?_,d,?_⟩
   ·rw [L.o]
   rw [L.o]
   exact (D.fr0 k).fr ((r0 [w.heap.size+1] P).setRow _ _ (by simp)) (by simp;omega) (by simp;omega) (by simp;omega) (by simp;omega)
  rw [if_pos rfl] at a
  obtain ⟨v,hv,Zq⟩:=iV a
  obtain ⟨O,Zr,au⟩:=d v (mem_of_getElem? hv)
  have bm:i < t.us.length:=(gs.1 hv).1
  have bj:=h.len
  have ay:=D.gv.c
  obtain ⟨c0,c1,c2,c3,c4,c5,c6,c7,c8,c9,ax⟩:=D.row.ppl.at hv
  have HV:=aA hv
  have af:=aA a
  clear hv a K K0 HS KF d Zq
  go_wp2_with fail
  refine (gU v _).mono ?_
  rintro e w3 ⟨rfl,X⟩
  obtain ⟨p0,p1,p2,p3⟩:=bM.1 ak
  obtain ⟨p4,p5,p6,p7⟩:=bM.1 O
  go_wp2_with fail
  have n:Fr [] wc (w3.alloc (.cells #[ii v.x,ii v.y] 159)):=X.alloc _
  have C:(w3.alloc (.cells #[ii v.x,ii v.y] 159)).heap[w3.heap.size]?=some (.cells #[ii v.x,ii v.y] 159):=aC _ _
  have ba:w.heap.size+1 < w3.heap.size:=Nat.lt_of_lt_of_le hl X.size
  obtain ⟨g,hg⟩:∃ g,g=w3.heap.size:=⟨_,rfl⟩
  obtain ⟨M,aj⟩:∃ W,W=w3.alloc (.cells #[ii v.x,ii v.y] 159):=⟨_,rfl⟩
  rw [<- aj] at n C |-
  rw [<- hg] at C ba |-
  have bh:=F.then0 n
  have ad:=n.heap0 ae
  have ap:=D.fr0 n
  have ab:=ao.fr0 n
  have am:=n.heap0 R.o
  have aw:=aA am
  clear aj hg X ae D ao am ay c0 c1 c2 c3 c4 c5 c6 c7 c8 c9 ax R n F
  obtain ⟨A,hA⟩:∃ A,aY u.x u.y v.x v.y=A:=⟨_,rfl⟩
  have Q:=aA hA
  clear hA
  have V:∀ j,Fr [] M j->(fun j:World=>Fr [] M j/\dC w.heap.size u j (ca j g 0 (ii v.x)/\ca j g 1 (ii v.y))) j:=fun j hf=>by
   have E:=hf.heap0 ad
   have hg:=hf.heap0 C
   exact ⟨hf,aB E,aB E,aB E,aB E,aB E,aB E,aB E,aB E,aB E,aB E,aB E,aB hg,aB hg⟩
  have K7:=V M.drew ((r0 [] M).drew)
  go_cut [34] (fun bi wx=>bi=.bool (!A)/\Fr [] M wx)
  case first =>
   go_region_held (fun j:World=>Fr [] M j/\dC w.heap.size u j (ca j g 0 (ii v.x)/\ca j g 1 (ii v.y)))
    (first|with_reducible exact K7|with_reducible exact V _ Y)
    (first|(go_at_call 192;refine (gU u _).mono ?_;rintro e w1 ⟨rfl,B⟩;have Y:Fr [] M w1:=Fr.then0 (And.left (by assumption)) B)|(go_at_call 206;refine (lX u.x u.y v.x v.y _ (ab.fr0 (And.left (by assumption))) (by omega) (by omega) (by omega) (by omega) (by omega) (by omega) (by omega) (by omega)).mono ?_;rintro e w1 ⟨rfl,B⟩;rw [Q.o];have Y:Fr [] M w1:=Fr.then0 (And.left (by assumption)) B))
   all_goals
    go_wp2_with fail
    go_meet
    exact ⟨rfl,Y⟩
  case rest =>
   obtain ⟨rfl,r⟩:=hcut
   have av:=bh.then0 r
   have ar:=r.heap0 ad
   have az:=r.heap0 C
   have an:=r.heap0 aw.o
   have aq:=ap.fr0 r
   have bf:=ab.fr0 r
   have ah:=aA an
   clear ad C ap ab V K7 an
   cases A
   ·have b:eC t u=(u.to (cE t u fun c=>aY v.x v.y c.1 c.2),t.moved u (cE t u fun c=>aY v.x v.y c.1 c.2)):=by
     unfold eC;rw [af.o];simp only [HV.o];rw [Q.o];rfl
    have L:=aA b
    clear b
    have bn:∀ (fn:Fn) (first l:Array Value) (w:World),(Instr.makeFunc fn first l).run Tryz.prog w=.ok (.func fn first l) w:=fun _ _ _ _=>rfl
    go_wp2_with (first|(refine wpList_load_row rfl 85 _ rfl w.heap.size rfl 85 u.arr (0,0) _ ar Tryz.underlying85 rfl aL ?_)|(refine wpList_load_row rfl 159 _ rfl g rfl 159 #[ii v.x,ii v.y] (0,0) _ az Tryz.underlying159 rfl gI ?_))
    refine (qT s H l hb J t u v.x v.y _ aq bf ak O).mono ?_
    rintro e P ⟨rfl,k,ac⟩
    have m:=k.heap ah.o (by simp;omega)
    obtain ⟨q,hq⟩:∃ q,q=u.to (cQ (fun c=>bX (bG t.held) t.bd c.1 c.2) (fun c=>aY v.x v.y c.1 c.2) (u.x,u.y)):=⟨_,rfl⟩
    rw [<- hq]
    have HQ:=aA hq
    clear hq
    go_wp2_with (refine wpList_store_row rfl 85 _ _ rfl (w.heap.size+1) q.arr rfl rfl 85 _ m aL rfl (U.one _) ?_)
    have d:Fr [s,H,hb,J] w (P.setRow (w.heap.size+1) q.arr):=((av.of0 (S:=[s,H,hb,J])).trans k (by simp)).setRow _ _ (.inr (by omega))
    refine bodyPost_ret (v:=q.val) (results_cell_row Tryz.results166 _ _ (w.heap.size+1) 85 q.arr (0,0) _ rfl (setRow_heap _ _ _ q.arr _ _ m) Tryz.underlying85 rfl aL) rfl ⟨?_,d,?_⟩
    ·rw [L.o,HQ.o];rfl
    rw [L.o]
    exact ac.fr ((r0 [w.heap.size+1] P).setRow _ _ (by simp)) (by simp;omega) (by simp;omega) (by simp;omega) (by simp;omega)
   have b:eC t u=(u,t.harm i):=by
    unfold eC;rw [af.o];simp only [HV.o];rw [Q.o];rfl
   have L:=aA b
   clear b
   go_wp2_with (first|(go_at_call 207;refine (IV s H l hb J t i v _ aq HV.o ⟨Zr,au⟩).mono ?_;rintro e P ⟨rfl,k,ac⟩;have bg:=k.heap ar (by simp;omega);have m:=k.heap ah.o (by simp;omega);have ag:=(aA m);clear m)|(refine wpList_load_row rfl 85 _ rfl w.heap.size rfl 85 u.arr (0,0) _ bg Tryz.underlying85 rfl aL ?_)|(refine wpList_store_row rfl 85 _ _ rfl (w.heap.size+1) u.arr rfl rfl 85 _ ag.o aL rfl (U.one _) ?_))
   have d:Fr [s,H,hb,J] w (P.setRow (w.heap.size+1) u.arr):=((av.of0 (S:=[s,H,hb,J])).trans k (by simp)).setRow _ _ (.inr (by omega))
   refine bodyPost_ret (v:=u.val) (results_cell_row Tryz.results166 _ _ (w.heap.size+1) 85 u.arr (0,0) _ rfl (setRow_heap _ _ _ u.arr _ _ ag.o) Tryz.underlying85 rfl aL) rfl ⟨?_,d,?_⟩
   ·rw [L.o]
   rw [L.o]
   exact ac.fr ((r0 [w.heap.size+1] P).setRow _ _ (by simp)) (by simp;omega) (by simp;omega) (by simp;omega) (by simp;omega)
