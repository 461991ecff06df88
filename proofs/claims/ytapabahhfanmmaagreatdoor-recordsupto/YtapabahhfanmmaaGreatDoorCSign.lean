import Derived.Test.YtapabahhfanmmaaGreatDoorCTakes2
import Derived.Deep.QuietTactic
import Derived.BigQuiet
namespace Go.Proofs.YtapabahhfanmmaaGreatDoor
open Go.RowKit List
set_option maxRecDepth 100000
set_option maxHeartbeats 400000
def look (us:List U)(id:Int):Option U:=us.find? (fun u=>u.id==id)
theorem KQ {us:List U}{id:Int}(h:∀ u∈us,u.id≠id):look us id=none:=by
  unfold look;rw [find?_eq_none];intro u a;simp [h u a]
theorem KU {us:List U}(hs:Rise us){i:Nat}{u:U}(hi:us[i]?=some u):look us u.id=some u:=by
 unfold look
 obtain ⟨hl,a⟩:=gs.1 hi
 rw [find?_eq_some_iff_getElem]
 refine ⟨by simp,i,hl,a,fun j b=>?_⟩
 have:=hs.lt (getElem?_eq_getElem (show j < us.length by omega)) hi b
 simp;omega
def gY (us:List U)(o:Int)(id:Int):Bool:=match look us id with|some t=>t.owner != o|none=>false
theorem TT (b n d:Nat)(us:List U)(u:U)(c:Cm)(w:World)(k:GV w b n d us)(hs:Rise us) :
  Cs 163 #[.pointer (so b),u.val,c.val] w fun e v=>e=.returned (.bool (gY us u.owner c.target))/\Fr [] w v:=by
 go_enter Tryz.func163,Tryz.ntmps163
 go_wp2_with fail
 refine (uV b n d us c.target _ (k.fr0 (((r0 _ _).alloc _).alloc _)) hs).mono ?_
 rintro e x ⟨i,f,rfl,l,s⟩
 have a:=(((r0 [] w).alloc _).alloc _).then0 l
 have g:=k.fr0 a
 have hown:ca x w.heap.size 1 (ii u.owner):=aB (l.heap0 (dD w _ _))
 have J:=g.c
 have m:=k.len
 rcases s with ⟨rfl,t,ht,aA⟩|⟨rfl,h⟩
 ·have j:Hi (gY us u.owner c.target=(t.owner != u.owner)):=by
   show gY _ _ _=_
   unfold gY;rw [<- aA,KU hs ht]
  have r:i < us.length:=(gs.1 ht).1
  obtain ⟨y,z,A,B,C,D,E,F,H,I,q⟩:=g.p.at ht
  clear aA ht
  go_wp2_with fail
  go_quiet (fail)
  go_wp2
  go_ret
  exact ⟨by rw [j.o];rfl,a.drewN _⟩
 have j:Hi (gY us u.owner c.target=false):=by
  show gY _ _ _=_
  unfold gY;rw [KQ h]
 clear h
 go_wp2_with fail
 go_quiet (fail)
 go_wp2
 go_ret
 exact ⟨by rw [j.o];rfl,a.drewN _⟩
set_option maxRecDepth 100000
def dY (s:Int):Int×Int×Bool :=
 if s=46 then (0,-1,true) else if s=35 then (10,-1,true) else if 49<=s/\s<=57 then (s - 48,-1,true) else if s=65 then (0,0,true) else if s=66 then (0,1,true) else (0,-1,false)
theorem oS (s:Int)(w:World)(l:0<=s)(h1:s<=255) :
  Cs 120 #[.int .u8 s] w fun e h=>e=.returned (.tuple #[.int .i64 (dY s).1,.int .i64 (dY s).2.1,.bool (dY s).2.2])/\w=h:=by
 by_cases a:s=46
 ·subst a
  go_enter Tryz.func120,Tryz.ntmps120
  go_wp2
  go_ret3
  exact ⟨rfl,rfl⟩
 by_cases b:s=35
 ·subst b
  go_enter Tryz.func120,Tryz.ntmps120
  go_wp2
  go_ret3
  exact ⟨rfl,rfl⟩
 have m:(s==46)=false:=by simp [a]
 have hb:(s==35)=false:=by simp [b]
 by_cases c:49<=s/\s<=57
 ·have g:Hi (dY s=(s - 48,-1,true)):=by show dY s=_;unfold dY;rw [if_neg a,if_neg b,if_pos c]
  obtain ⟨i,j⟩:=c
  clear a b
  go_enter Tryz.func120,Tryz.ntmps120
  go_wp2
  go_ret3
  exact ⟨by rw [g.o];rfl,rfl⟩
 by_cases d:s=65
 ·subst d
  go_enter Tryz.func120,Tryz.ntmps120
  go_wp2
  go_ret3
  exact ⟨rfl,rfl⟩
 by_cases e:s=66
 ·subst e
  go_enter Tryz.func120,Tryz.ntmps120
  go_wp2
  go_ret3
  exact ⟨rfl,rfl⟩
 have n:(s==65)=false:=by simp [d]
 have p:(s==66)=false:=by simp [e]
 have g:Hi (dY s=(0,-1,false)):=by show dY s=_;unfold dY;rw [if_neg a,if_neg b,if_neg c,if_neg d,if_neg e]
 by_cases f:49<=s
 ·have k:¬ s<=57:=by omega
  clear a b c d e
  go_enter Tryz.func120,Tryz.ntmps120
  go_wp2
  go_ret3
  exact ⟨by rw [g.o];rfl,rfl⟩
 clear a b c d e
 go_enter Tryz.func120,Tryz.ntmps120
 go_wp2
 go_ret3
 exact ⟨by rw [g.o];rfl,rfl⟩
theorem vT (x y a b:Int)(c:Nat)(w:World)(hx:w.cell? ⟨c,0,none⟩=some (ii a))(i:w.cell? ⟨c,1,none⟩=some (ii b)) :
  Cs 203 #[cv x y,.pointer (so c)] w fun e h=>e=.returned (.bool (x==a&&y==b))/\Fr [] w h:=by
 have g:=aI hx
 obtain ⟨B,d⟩:∃ B,(x==a&&y==b)=B:=⟨_,rfl⟩
 have f:=aA d
 rw [d]
 clear d
 go_enter Tryz.func203,Tryz.ntmps203
 go_wp2_with (refine jL rfl _ _ _ _ rfl rfl x y a b rfl rfl B f.o ?_)
 go_ret
 exact ⟨rfl,(r0 _ _).alloc _⟩
theorem LU (w:World) :
  Cs 150 #[] w fun e b=>e=.returned (.agg #[.map (some (w.heap.size+1))])/\(w.alloc (.cells #[.map (some (w.heap.size+1))] 208)).alloc (.map #[] 0)=b:=by
 have a:=@run_makeMap Tryz.prog
 go_enter Tryz.func150,Tryz.ntmps150
 go_wp2
 exact bodyPost_ret (v:=.agg #[.map (some (w.heap.size+1))]) (by simp [results,Tryz.results150,go_sem]) rfl ⟨rfl,rfl⟩
