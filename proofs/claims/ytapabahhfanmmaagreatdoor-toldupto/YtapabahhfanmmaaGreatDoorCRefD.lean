import Derived.Test.YtapabahhfanmmaaGreatDoorCRow12
import Derived.Test.YtapabahhfanmmaaGreatDoorCRFree
namespace Go.Proofs.YtapabahhfanmmaaGreatDoor
open Go.RowKit Classical
set_option maxRecDepth 100000
set_option maxHeartbeats 4000000
def qw2 (t:T)(pv:Value)(k:Nat):Value :=
  if k=0 then ii t.turn else if k < 145 then ii (t.bd (k - 1)) else if k=145 then ii t.s0 else if k=146 then ii t.s1 else if k=147 then ii t.next else pv
structure RG (w:World) (gb pb cap:Nat) (t:T):Prop where
 cell:∀ k,k < 149->w.cell? ⟨gb,k,none⟩=some (qw2 t (.slice (some ⟨pb,0,none⟩) t.us.length cap) k)
 fz:∀ k,w.frozen? ⟨gb,k,none⟩=false
 row:PRow w pb cap t.us
 len:t.us.length<=1000
 ne:gb≠pb
theorem RG.lt {w:World}{gb pb cap:Nat}{t:T}(h:RG w gb pb cap t):gb < w.heap.size:=qq1 (h.cell 0 (by omega))
theorem RG.fr {S:List Nat}{w w':World}{gb pb cap:Nat}{t:T}(h:RG w gb pb cap t)(hf:Fr S w w')(h1:gb∉S)(h2:pb∉S):RG w' gb pb cap t :=
  ⟨fun k hk=>by rw [hf.cell _ _ h.lt h1];exact h.cell k hk,fun k=>by rw [hf.frozen _ _ h.lt h1];exact h.fz k,h.row.fr hf h2,h.len,h.ne⟩
theorem RG.fr0 {w w':World}{gb pb cap:Nat}{t:T}(h:RG w gb pb cap t)(hf:Fr [] w w'):RG w' gb pb cap t:=h.fr hf (by simp) (by simp)
theorem RG.gv {w:World}{gb pb cap:Nat}{t:T}(h:RG w gb pb cap t):GV w gb pb cap t.us:=⟨h.cell 148 (by omega),h.row.ppl,h.len⟩
theorem RG.c0 {w:World}{gb pb cap:Nat}{t:T}(h:RG w gb pb cap t):w.cell? ⟨gb,0,none⟩=some (ii t.turn):=h.cell 0 (by omega)
theorem RG.c145 {w:World}{gb pb cap:Nat}{t:T}(h:RG w gb pb cap t):w.cell? ⟨gb,145,none⟩=some (ii t.s0):=h.cell 145 (by omega)
theorem RG.c146 {w:World}{gb pb cap:Nat}{t:T}(h:RG w gb pb cap t):w.cell? ⟨gb,146,none⟩=some (ii t.s1):=h.cell 146 (by omega)
theorem RG.c147 {w:World}{gb pb cap:Nat}{t:T}(h:RG w gb pb cap t):w.cell? ⟨gb,147,none⟩=some (ii t.next):=h.cell 147 (by omega)
theorem RG.c148 {w:World}{gb pb cap:Nat}{t:T}(h:RG w gb pb cap t):w.cell? ⟨gb,148,none⟩=some (.slice (some ⟨pb,0,none⟩) t.us.length cap):=h.cell 148 (by omega)
theorem RG.bd {w:World}{gb pb cap:Nat}{t:T}(h:RG w gb pb cap t){j:Nat}(hj:j < 144):w.cell? ⟨gb,1+j,none⟩=some (ii (t.bd j)):=by
 rw [h.cell (1+j) (by omega)]
 unfold qw2
 rw [if_neg (by omega),if_pos (by omega)]
 congr 3
 omega
def jq2 (o:Option Nat):Int:=match o with|some i=>i|none => -1
theorem yx5 {us:List U}{p:U->Bool}(h:∀ j (h:j < us.length),p us[j]=false):us.findIdx? p=none:=by
 rw [List.findIdx?_eq_none_iff]
 intro x hx
 obtain ⟨j,hj,rfl⟩:=List.mem_iff_getElem.1 hx
 exact h j hj
theorem yx6 {us:List U}{p:U->Bool}{k:Nat}{u:U}(hu:us[k]?=some u)(hp:p u=true)(h:∀ j,j < k->∀ (h:j < us.length),p us[j]=false):us.findIdx? p=some k:=by
 obtain ⟨hl,rfl⟩:=List.getElem?_eq_some_iff.1 hu
 rw [List.findIdx?_eq_some_iff_getElem]
 exact ⟨hl,hp,fun j hj=>by simp [h j hj (by omega)]⟩
theorem jz4 {us:List U}{p:U->Bool}{k:Nat}{u:U}(hu:us[k]?=some u)(hp:p u=false)(h:∀ j,j < k->∀ (h:j < us.length),p us[j]=false):∀ j,j < k+1->∀ (h:j < us.length),p us[j]=false:=fun j hj hl=>by
 rcases Nat.lt_or_ge j k with h1|h1
 ·exact h j h1 hl
 ·have:j=k:=by omega
  subst this
  rw [List.getElem?_eq_getElem hl] at hu
  rw [Option.some.inj hu]
  exact hp
theorem ky1 (b pb cap:Nat)(us:List U)(id:Int)(w:World)(hg:GV w b pb cap us) :
  Calls Tryz.prog 177 #[.pointer (some ⟨b,0,none⟩),.int .i64 id] w fun e w'=>e=.returned (.int .i64 (jq2 (qz0 us id)))/\Fr [] w w':=by
 have hlen:=hg.len
 have hc:=hg.c
 have hb:=qq1 hc
 go_enter Tryz.func177,Tryz.ntmps177
 go_wp2_with fail
 go_loopw [5] (fun i wr=>∃ k:Nat,k<=us.length/\i=.int .i64 k/\(∀ j,j < k->∀ (h:j < us.length),(us[j].id==id)=false)/\Fr [] w wr) (fun i _=>us.length - (intOf i).toNat)
 case atStart=>exact ⟨0,Nat.zero_le _,rfl,fun j h=>by omega,Fr.refl _ _⟩
 case round =>
  obtain ⟨k,hk,rfl,hno,hf⟩:=hrel
  have hg2:=hg.fr0 hf
  have hc2:=hg2.c
  by_cases hlt:k < us.length
  ·have hlti:(k:Int) < (us.length:Int):=by omega
   obtain ⟨u,hu⟩:∃ u,us[k]?=some u:=⟨us[k],List.getElem?_eq_getElem hlt⟩
   obtain ⟨c0,c1,c2,c3,c4,c5,c6,c7,c8,c9,c10⟩:=hg2.p.at hu
   have HU:=(show Hid (us[k]?=some u) from hu)
   have HN:=hid hno
   clear hu hno c1 c2 c3 c4 c5 c6 c7 c8 c9 c10
   by_cases hk1:(u.id==id)=true
   ·go_wp2_with fail
    go_ret
    exact ⟨by unfold qz0;rw [yx6 (p:=fun u:U=>u.id==id) HU.out hk1 HN.out];rfl,hf⟩
   ·simp only [Bool.not_eq_true] at hk1
    go_wp2_with fail
    go_roundw
    case rel=>exact ⟨k+1,hlt,by go_num,jz4 (p:=fun u:U=>u.id==id) HU.out hk1 HN.out,hf⟩
    case measure=>simp [intOf];omega
  ·have hlti:¬ (k:Int) < (us.length:Int):=by omega
   have HN:=hid hno
   clear hno
   go_wp2_with fail
   go_ret
   exact ⟨by unfold qz0;rw [yx5 (p:=fun u:U=>u.id==id) (fun j hj=>HN.out j (by omega) hj)];rfl,hf⟩
set_option maxRecDepth 100000
def qw0 (us:List U)(o:Int):Option Nat:=us.findIdx? (qq4 o)
def qy3 (us:List U):Int:=if (qw0 us 0).isSome=false then 2 else if (qw0 us 1).isSome=false then 1 else 0
theorem fq7 (o:Option Nat):decide (jq2 o < 0) = !o.isSome:=by
 cases o with
 | none=>rfl
 | some n=>exact decide_eq_false (by show ¬ (n:Int) < 0;omega)
theorem jw3 (b pb cap:Nat)(us:List U)(o:Int)(w:World)(hg:GV w b pb cap us) :
  Calls Tryz.prog 137 #[.pointer (some ⟨b,0,none⟩),.int .i64 o] w fun e w'=>e=.returned (.int .i64 (jq2 (qw0 us o)))/\Fr [] w w':=by
 have hlen:=hg.len
 have hc:=hg.c
 have hb:=qq1 hc
 go_enter Tryz.func137,Tryz.ntmps137
 go_wp2_with fail
 go_loopw [5] (fun i wr=>∃ k:Nat,k<=us.length/\i=.int .i64 k/\(∀ j,j < k->∀ (h:j < us.length),qq4 o us[j]=false)/\Fr [] w wr) (fun i _=>us.length - (intOf i).toNat)
 case atStart=>exact ⟨0,Nat.zero_le _,rfl,fun j h=>by omega,Fr.refl _ _⟩
 case round =>
  obtain ⟨k,hk,rfl,hno,hf⟩:=hrel
  have hg2:=hg.fr0 hf
  have hc2:=hg2.c
  have HN:=hid hno
  clear hno
  by_cases hlt:k < us.length
  ·have hlti:(k:Int) < (us.length:Int):=by omega
   obtain ⟨u,hu⟩:∃ u,us[k]?=some u:=⟨us[k],List.getElem?_eq_getElem hlt⟩
   obtain ⟨c0,c1,c2,c3,c4,c5,c6,c7,c8,c9,c10⟩:=hg2.p.at hu
   have HU:=(show Hid (us[k]?=some u) from hu)
   clear hu c0 c3 c4 c5 c6 c7 c8 c9 c10
   by_cases hk1:(u.kind==1)=true
   ·by_cases ho1:(u.owner==o)=true
    ·have HB:Hid (qq4 o u=true):=by simp [Hid,qq4,hk1,ho1]
     go_wp2_with fail
     go_ret
     exact ⟨by unfold qw0;rw [yx6 HU.out HB.out HN.out];rfl,hf⟩
    ·simp only [Bool.not_eq_true] at ho1
     have HB:Hid (qq4 o u=false):=by simp [Hid,qq4,ho1]
     go_wp2_with fail
     go_roundw
     case rel=>exact ⟨k+1,hlt,by go_num,jz4 HU.out HB.out HN.out,hf⟩
     case measure=>simp [intOf];omega
   ·simp only [Bool.not_eq_true] at hk1
    have HB:Hid (qq4 o u=false):=by simp [Hid,qq4,hk1]
    go_wp2_with fail
    go_roundw
    case rel=>exact ⟨k+1,hlt,by go_num,jz4 HU.out HB.out HN.out,hf⟩
    case measure=>simp [intOf];omega
  ·have hlti:¬ (k:Int) < (us.length:Int):=by omega
   go_wp2_with fail
   go_ret
   exact ⟨by unfold qw0;rw [yx5 (fun j hj=>HN.out j (by omega) hj)];rfl,hf⟩
theorem zz6 (b pb cap:Nat)(us:List U)(w:World)(hg:GV w b pb cap us) :
  Calls Tryz.prog 99 #[.pointer (some ⟨b,0,none⟩)] w fun e w'=>e=.returned (.int .i64 (qy3 us))/\Fr [] w w':=by
 go_enter Tryz.func99,Tryz.ntmps99
 go_wp2_with fail
 refine (jw3 b pb cap us 0 _ hg).mono ?_
 rintro e w1 ⟨rfl,hf1⟩
 generalize hb0:(qw0 us 0).isSome=b0
 have d0:=fq7 (qw0 us 0)
 rw [hb0] at d0
 cases b0
 ·go_wp2_with fail
  go_ret
  exact ⟨by unfold qy3;rw [if_pos hb0];rfl,hf1⟩
 ·go_wp2_with fail
  refine (jw3 b pb cap us 1 _ (hg.fr0 hf1)).mono ?_
  rintro e w2 ⟨rfl,hf2⟩
  generalize hb1:(qw0 us 1).isSome=b1
  have d1:=fq7 (qw0 us 1)
  rw [hb1] at d1
  cases b1
  all_goals
   go_wp2_with fail
   go_ret
   exact ⟨by unfold qy3;rw [hb0,hb1];rfl,hf1.then0 hf2⟩
theorem qx1 (x y:Int)(w:World) :
  Calls Tryz.prog 185 #[.int .i64 x,.int .i64 y] w fun e w'=>e=.returned (.bool (onB x y))/\w=w':=by
 go_enter Tryz.func185,Tryz.ntmps185
 go_wp2
 all_goals
  go_ret
  exact ⟨zx4 (by simp [onB, *] <;> omega),rfl⟩
theorem jk4 (x y z v:Int)(w:World)(h1:-1000<=x)(h2:x<=1000)(h3:-1000<=y)(h4:y<=1000)(h5:-1000<=z)(h6:z<=1000)(h7:-1000<=v)(h8:v<=1000) :
  Calls Tryz.prog 214 #[.int .i64 x,.int .i64 y,.int .i64 z,.int .i64 v] w fun e w'=>e=.returned (.bool (qv5 x y z v))/\w=w':=by
 have HA:Hid (qv5 x y z v=((x - z==0&&(y - v==1||y - v == -1))||(y - v==0&&(x - z==1||x - z == -1)))):=by
  show _=_
  unfold qv5
  rw [Bool.eq_iff_iff]
  simp
  omega
 obtain ⟨dx,hdx⟩:∃ d,x - z=d:=⟨_,rfl⟩
 obtain ⟨dy,hdy⟩:∃ d,y - v=d:=⟨_,rfl⟩
 rw [hdx,hdy] at HA
 have hb1:-2000<=dx/\dx<=2000:=by omega
 have hb2:-2000<=dy/\dy<=2000:=by omega
 obtain ⟨q0,e0⟩:∃ q,(dx==0)=q:=⟨_,rfl⟩
 obtain ⟨q1,e1⟩:∃ q,(dx==1)=q:=⟨_,rfl⟩
 obtain ⟨q2,e2⟩:∃ q,(dx == -1)=q:=⟨_,rfl⟩
 obtain ⟨r0,g0⟩:∃ q,(dy==0)=q:=⟨_,rfl⟩
 obtain ⟨r1,g1⟩:∃ q,(dy==1)=q:=⟨_,rfl⟩
 obtain ⟨r2,g2⟩:∃ q,(dy == -1)=q:=⟨_,rfl⟩
 rw [e0,e1,e2,g0,g1,g2] at HA
 go_enter Tryz.func214,Tryz.ntmps214
 cases q0 <;> cases q1 <;> cases q2 <;> cases r0 <;> cases r1 <;> cases r2
 all_goals
  go_wp2_with fail
  go_ret
  exact ⟨zx4 (by rw [HA.out];rfl),rfl⟩
theorem qjx8 {a b c d:Int}(h1:a=c)(h2:b=d):Ending.returned (.tuple #[.int .i64 a,.int .i64 b])=.returned (.tuple #[.int .i64 c,.int .i64 d]):=by rw [h1,h2]
theorem jz6 (x y:Int)(k:Nat)(s:Int×Int)(w:World)(hs:sds[k]?=some s)(h1:-1000<=x)(h2:x<=1000)(h3:-1000<=y)(h4:y<=1000) :
  Calls Tryz.prog 213 #[.int .i64 x,.int .i64 y,.int .i64 k] w fun e w'=>e=.returned (.tuple #[.int .i64 (x+s.1),.int .i64 (y+s.2)])/\w=w':=by
 have hk:k < 4:=(List.getElem?_eq_some_iff.1 hs).1
 have h5:k=0\/k=1\/k=2\/k=3:=by omega
 rcases h5 with rfl|rfl|rfl|rfl <;> (simp [sds] at hs;subst hs;go_enter Tryz.func213,Tryz.ntmps213;go_wp2_with fail;go_ret2;refine ⟨qjx8 ?_ ?_,rfl⟩ <;> (try dsimp only) <;> omega)
theorem qqz7 {us:List U}{p:U->Bool}{k:Nat}{u:U}(hu:us[k]?=some u)(hp:p u=true):us.any p=true:=by
 rw [List.any_eq_true]
 exact ⟨u,List.mem_of_getElem? hu,hp⟩
theorem dq9 {us:List U}{p:U->Bool}(h:∀ j (h:j < us.length),p us[j]=false):us.any p=false:=by
 rw [List.any_eq_false]
 intro x hx
 obtain ⟨j,hj,rfl⟩:=List.mem_iff_getElem.1 hx
 simp [h j hj]
theorem jz5 (gb pb cap:Nat)(t:T)(x y:Int)(w:World)(h:RG w gb pb cap t) :
  Calls Tryz.prog 184 #[.pointer (some ⟨gb,0,none⟩),.int .i64 x,.int .i64 y] w fun e w'=>e=.returned (.bool (qk5 t.us t.bd (x,y)))/\Fr [] w w':=by
 have hlen:=h.len
 go_enter Tryz.func184,Tryz.ntmps184
 go_wp2_with fail
 refine (qx1 x y _).mono ?_
 rintro e w1 ⟨rfl,rfl⟩
 have HR:Hid (qk5 t.us t.bd (x,y)=(onB x y&&(t.bd (ci x y)==0 && !zv8 t.us (x,y)))):=rfl
 cases hon:onB x y
 ·rw [hon] at HR
  go_wp2_with fail
  go_ret
  exact ⟨by rw [HR.out];rfl,Fr.refl _ _⟩
 ·rw [hon] at HR
  obtain ⟨p0,p1,p2,p3⟩:=qz3.1 hon
  have hci:ci x y < 144:=zz0 hon
  have hb:=h.bd hci
  obtain ⟨v,hv⟩:∃ v,t.bd (ci x y)=v:=⟨_,rfl⟩
  rw [hv] at hb HR
  have e1:1+ci x y=1+y.toNat*12+x.toNat:=by unfold ci;omega
  rw [e1] at hb
  clear hv hci hon
  by_cases hv0:v=0
  ·subst hv0
   have hg:=h.gv
   have hc:=hg.c
   go_wp2_with fail
   go_loopw [8] (fun i wr=>∃ k:Nat,k<=t.us.length/\i=.int .i64 k/\(∀ j,j < k->∀ (h:j < t.us.length),(t.us[j].x==x&&t.us[j].y==y)=false)/\Fr [] w wr) (fun i _=>t.us.length - (intOf i).toNat)
   case atStart=>exact ⟨0,Nat.zero_le _,rfl,fun j h=>by omega,Fr.refl _ _⟩
   case round =>
    obtain ⟨k,hk,rfl,hno,hf⟩:=hrel
    have hg2:=hg.fr0 hf
    have hc2:=hg2.c
    have HN:=hid hno
    clear hno
    by_cases hlt:k < t.us.length
    ·have hlti:(k:Int) < (t.us.length:Int):=by omega
     obtain ⟨u,hu⟩:∃ u,t.us[k]?=some u:=⟨t.us[k],List.getElem?_eq_getElem hlt⟩
     obtain ⟨c0,c1,c2,c3,c4,c5,c6,c7,c8,c9,c10⟩:=hg2.p.at hu
     have HU:=(show Hid (t.us[k]?=some u) from hu)
     clear hu c0 c1 c2 c5 c6 c7 c8 c9 c10
     by_cases hk1:(u.x==x)=true
     ·by_cases ho1:(u.y==y)=true
      ·have HB:Hid ((u.x==x&&u.y==y)=true):=by simp [Hid,hk1,ho1]
       go_wp2_with fail
       go_ret
       exact ⟨by
        have:=qqz7 (p:=fun u:U=>u.x==x&&u.y==y) HU.out HB.out
        rw [HR.out]
        unfold zv8
        rw [this]
        rfl,hf⟩
      ·simp only [Bool.not_eq_true] at ho1
       have HB:Hid ((u.x==x&&u.y==y)=false):=by simp [Hid,ho1]
       go_wp2_with fail
       go_roundw
       case rel=>exact ⟨k+1,hlt,by go_num,jz4 (p:=fun u:U=>u.x==x&&u.y==y) HU.out HB.out HN.out,hf⟩
       case measure=>simp [intOf];omega
     ·simp only [Bool.not_eq_true] at hk1
      have HB:Hid ((u.x==x&&u.y==y)=false):=by simp [Hid,hk1]
      go_wp2_with fail
      go_roundw
      case rel=>exact ⟨k+1,hlt,by go_num,jz4 (p:=fun u:U=>u.x==x&&u.y==y) HU.out HB.out HN.out,hf⟩
      case measure=>simp [intOf];omega
    ·have hlti:¬ (k:Int) < (t.us.length:Int):=by omega
     go_wp2_with fail
     go_ret
     exact ⟨by
      have:=dq9 (p:=fun u:U=>u.x==x&&u.y==y) (fun j hj=>HN.out j (by omega) hj)
      rw [HR.out]
      unfold zv8
      rw [this]
      rfl,hf⟩
  ·have hv0b:(v==0)=false:=by simpa using hv0
   go_wp2_with fail
   go_ret
   exact ⟨by rw [HR.out,hv0b];rfl,Fr.refl _ _⟩
def vq0 (j:Nat):Cl:=(((j % 12:Nat):Int),((j / 12:Nat):Int))
theorem gy9 {j:Nat}(h:j < 144):onB (vq0 j).1 (vq0 j).2=true:=by
 apply qz3.2
 unfold vq0
 dsimp only
 omega
theorem qqz9 {j:Nat}:ci (vq0 j).1 (vq0 j).2=j:=by
 unfold ci vq0
 dsimp only
 omega
theorem xw2 {c:Cl}(h:onB c.1 c.2=true):vq0 (ci c.1 c.2)=c:=by
 obtain ⟨h1,h2,h3,h4⟩:=qz3.1 h
 unfold vq0 ci
 apply Prod.ext
 ·dsimp only;omega
 ·dsimp only;omega
theorem dj0 {p:Nat}:∀ x:Cl,onB x.1 x.2=true->ci x.1 x.2=p->x=vq0 p:=fun x ho e=>by rw [<- e,xw2 ho]
structure DAt (w:World) (db:Nat) (F:Cl->Nat):Prop where
 cell:∀ j,j < 144->w.cell? ⟨db,j,none⟩=some (ii (F (vq0 j):Nat))
 fz:∀ j,w.frozen? ⟨db,j,none⟩=false
theorem DAt.at {w:World}{db:Nat}{F:Cl->Nat}(h:DAt w db F){c:Cl}(hc:onB c.1 c.2=true):w.cell? ⟨db,ci c.1 c.2,none⟩=some (ii (F c:Nat)):=by
  rw [h.cell _ (zz0 hc),xw2 hc]
theorem DAt.same {w:World}{db:Nat}{F G:Cl->Nat}(h:DAt w db F)(e:∀ c:Cl,onB c.1 c.2=true->G c=F c):DAt w db G:=⟨fun j hj=>by rw [e _ (gy9 hj)];exact h.cell j hj,h.fz⟩
theorem DAt.fr {S:List Nat}{w w':World}{db:Nat}{F:Cl->Nat}(h:DAt w db F)(hf:Fr S w w')(hn:db∉S):DAt w' db F:=by
 have hl:=qq1 (h.cell 0 (by omega))
 exact ⟨fun j hj=>by rw [hf.cell _ _ hl hn];exact h.cell j hj,fun j=>by rw [hf.frozen _ _ hl hn];exact h.fz j⟩
theorem DAt.set {w:World}{db:Nat}{F G:Cl->Nat}(h:DAt w db F)(q:Cl)(hq:onB q.1 q.2=true)(n:Nat)(e:∀ c:Cl,onB c.1 c.2=true->G c=if c=q then n else F c):DAt (w.setCell ⟨db,ci q.1 q.2,none⟩ (.int .i64 (n:Nat))) db G:=by
 refine ⟨fun j hj=>?_,fun j=>by rw [World.frozen?_setCell];exact h.fz j⟩
 rw [e _ (gy9 hj)]
 by_cases hji:j=ci q.1 q.2
 ·subst hji
  rw [qk0 _ _ _ _ _ (h.cell _ (zz0 hq)),if_pos (xw2 hq)]
 ·rw [qz1 _ db _ db j _ (Or.inr (fun x=>hji x.symm)),if_neg (fun x=>hji (by rw [<- x,qqz9]))]
  exact h.cell j hj
theorem dk7 {free:Cl->Bool}{P:Nat->Cl->Prop}{n p:Nat}{c r:Int}{k:Nat}{s:Int×Int}(hs:sds[k]?=some s)(hon:∀ x:Cl,free x=true->onB x.1 x.2=true)(x:Cl) :
  lvM free P n p (qj2 c r (k+1)) x=if x=(c+s.1,r+s.2)/\free (c+s.1,r+s.2)=true/\lvM free P n p (qj2 c r k) (c+s.1,r+s.2)=0 then n+1 else lvM free P n p (qj2 c r k) x:=by
 by_cases ho:onB (c+s.1) (r+s.2)=true
 ·rw [zk0 c r k s hs ho,qqx5]
 ·rw [zw0 c r k s hs (by simpa using ho),if_neg]
  rintro ⟨_,h,_⟩
  exact ho (hon _ h)
def xz3 (F:Cl->Nat)(m:Nat):Prop:=∃ c:Cl,onB c.1 c.2=true/\F c=m
def zj0 (x y:Int)(onto:Bool)(c:Cl):Bool:=if onto then c.1==x&&c.2==y else qv5 c.1 c.2 x y
def xq3 (F:Cl->Nat):List Value:=(List.range 144).map fun j=>ii (F (vq0 j):Nat)
theorem yk8 (F:Cl->Nat):(xq3 F).length=144:=by simp [xq3]
def qy7 (free ends:Cl->Bool)(p:Nat)(c:Cl):Nat:=if ci c.1 c.2 < p/\(free c&&ends c)=true then 1 else 0
theorem fk3 (free ends:Cl->Bool)(c:Cl)(hc:onB c.1 c.2=true):lvM free (jz8 free ends) 1 0 [] c=qy7 free ends 144 c:=by
 rw [jx2]
 unfold qy7 lvK lvK
 have:=zz0 hc
 by_cases h:(free c&&ends c)=true
 ·rw [if_neg (by simp),if_pos (xv9.2 (by simpa using h)),if_pos ⟨this,h⟩]
 ·rw [if_neg (by simp),if_neg (fun x=>h (by simpa using xv9.1 x)),if_neg (fun x=>h x.2)]
theorem gx5 {free ends:Cl->Bool}{p:Nat}{q:Cl}(hq:onB q.1 q.2=true)(hqp:ci q.1 q.2=p)(c:Cl)(hc:onB c.1 c.2=true):qy7 free ends (p+1) c=if c=q then (if (free q&&ends q)=true then 1 else 0) else qy7 free ends p c:=by
 unfold qy7
 by_cases e:c=q
 ·subst e
  rw [if_pos rfl,hqp]
  by_cases h:(free c&&ends c)=true
  ·rw [if_pos ⟨by omega,h⟩,if_pos h]
  ·rw [if_neg (fun x=>h x.2),if_neg h]
 ·rw [if_neg e]
  have:ci c.1 c.2≠p:=fun x=>e (by
   obtain ⟨h1,h2,h3,h4⟩:=qz3.1 hq
   obtain ⟨g1,g2,g3,g4⟩:=qz3.1 hc
   unfold ci at x hqp
   apply Prod.ext <;> omega)
  by_cases h:ci c.1 c.2 < p/\(free c&&ends c)=true
  ·rw [if_pos h,if_pos ⟨by omega,h.2⟩]
  ·rw [if_neg h,if_neg (fun x=>h ⟨by omega,x.2⟩)]
theorem yv6 (c r:Nat):ci (c:Int) (r:Int)=r*12+c:=by unfold ci;omega
theorem xw8:(Tryz.prog.info? 87).map (·.size)=some 144:=by kernel_rfl
theorem qxj4:Tryz.zeroCells87=Array.replicate 144 (ii 0):=by kernel_rfl
theorem vw6 (F:Cl->Nat):(xq3 F).toArray.all (·.oneCell')=true:=by
 rw [List.all_toArray]
 apply List.all_eq_true.2
 intro v hv
 obtain ⟨j,_,rfl⟩:=List.mem_map.1 hv
 rfl
theorem DAt.range {w:World}{db:Nat}{F:Cl->Nat}(h:DAt w db F):w.rangeAt db 0 (xq3 F):=fun j v hv=>by
 have hj:j < 144:=by have:=(List.getElem?_eq_some_iff.1 hv).1;rwa [yk8] at this
 unfold xq3 at hv
 rw [List.getElem?_map,List.getElem?_range hj] at hv
 rw [Nat.zero_add,h.cell j hj]
 simpa using hv
theorem dk6 {free ends:Cl->Bool}(hfon:∀ c:Cl,free c=true->onB c.1 c.2=true){m:Nat}(hm:0 < m)(hno:¬ xz3 (lvM free (jz8 free ends) m 144 []) (m+1)):FarX free ends (lvM free (jz8 free ends) m 144 []):=by
 have hs:∀ k c,jz8 free ends (k+1) c↔free c=true/\∃ q,jz8 free ends k q/\c∈qj0 q.1 q.2:=fun k c=>yw5 hfon
 have hw:∀ k c,jz8 free ends k c->onB c.1 c.2=true:=fun k c h=>hfon c h.1
 have hnone:∀ c,lvK (jz8 free ends) (m+1) c≠m+1:=fun c e=>by
  obtain ⟨_,h2,_⟩:=zz3.1 e
  exact hno ⟨c,hw _ _ h2,by rw [vq7 hs hw hm];exact e⟩
 have he:lvM free (jz8 free ends) m 144 []=lvK (jz8 free ends) m:=by
  funext c
  rw [vq7 hs hw hm]
  by_cases h0:lvK (jz8 free ends) m c=0
  ·rw [fz1 h0 (hnone c),h0]
  ·exact kv0 h0
 rw [he]
 exact fq0 hfon hm (Or.inr hnone)
theorem gw1 (gb pb cap:Nat)(t:T)(x y:Int)(onto:Bool)(w:World)(h:RG w gb pb cap t)(h1:-1000<=x)(h2:x<=1000)(h3:-1000<=y)(h4:y<=1000) :
  Calls Tryz.prog 212 #[.pointer (some ⟨gb,0,none⟩),.int .i64 x,.int .i64 y,.bool onto] w fun e w'=>∃ F:Cl->Nat,FarX (qk5 t.us t.bd) (zj0 x y onto) F/\(∀ c,F c<=146)/\e=.returned (.agg (xq3 F).toArray)/\Fr [] w w':=by
 obtain ⟨free,hfree⟩:∃ f,f=qk5 t.us t.bd:=⟨_,rfl⟩
 have hfon:∀ c:Cl,free c=true->onB c.1 c.2=true:=by rw [hfree];exact kx7
 have HFR:Hid (∀ (z v:Int) (W:World),RG W gb pb cap t->Calls Tryz.prog 184 #[.pointer (some ⟨gb,0,none⟩),.int .i64 z,.int .i64 v] W fun e w'=>e=.returned (.bool (free (z,v)))/\Fr [] W w'):=fun z v W hW=>by rw [hfree];exact jz5 gb pb cap t z v W hW
 rw [<- hfree]
 obtain ⟨P,hP⟩:∃ P,P=jz8 free (zj0 x y onto):=⟨_,rfl⟩
 have HFX:Hid (∀ m,0 < m->¬ xz3 (lvM free P m 144 []) (m+1)->FarX free (zj0 x y onto) (lvM free P m 144 [])):=fun m hm hno=>by rw [hP] at hno |-;exact dk6 hfon hm hno
 have HF5:Hid (FarX free (zj0 x y onto) (lvM free P 145 0 [])):=by
  show FarX _ _ _
  have he:lvM free P 145 0 []=lvK P 145:=funext fun c=>jx2 145 c
  rw [he,hP]
  exact fq0 hfon (by omega) (Or.inl rfl)
 have HS:Hid (∀ k c,P (k+1) c↔free c=true/\∃ q,P k q/\c∈qj0 q.1 q.2):=by rw [hP];exact fun k c=>yw5 hfon
 have HW:Hid (∀ k c,P k c->onB c.1 c.2=true):=by rw [hP];exact fun k c h=>hfon c h.1
 have H1:Hid (∀ c:Cl,onB c.1 c.2=true->lvM free P 1 0 [] c=qy7 free (zj0 x y onto) 144 c):=by rw [hP];exact fk3 free (zj0 x y onto)
 have HFO:=hid hfon
 clear hfree hP hfon
 have hgl:=h.lt
 have hpl:pb < w.heap.size:=h.row.lt
 go_enter Tryz.func212,Tryz.ntmps212
 go_wp2_with fail
 obtain ⟨W0,hW0⟩:∃ W,W=(w.alloc (.cells Tryz.zeroCells87 87)).alloc (.cells Tryz.zeroCells87 87):=⟨_,rfl⟩
 rw [<- hW0]
 have hw0:Fr [] w W0:=by rw [hW0];exact ((Fr.refl _ _).alloc _).alloc _
 have hres:W0.heap[w.heap.size]?=some (.cells Tryz.zeroCells87 87):=by rw [hW0];exact qz8 _ _ _
 have hdb:W0.heap[w.heap.size+1]?=some (.cells Tryz.zeroCells87 87):=by rw [hW0];exact qz4 _ _ _
 obtain ⟨db,hdbe⟩:∃ d,d=w.heap.size+1:=⟨_,rfl⟩
 rw [<- hdbe] at hdb |-
 have hd0:DAt W0 db (qy7 free (zj0 x y onto) 0):=by
  refine ⟨fun j hj=>?_,fun j=>qq0 hdb⟩
  rw [j9 hdb,qxj4]
  unfold qy7
  rw [if_neg (by omega)]
  simp [hj]
 have HG0:=(show Hid _ from h.fr0 hw0)
 have n1:gb≠db:=by omega
 have n2:pb≠db:=by omega
 have n3:w.heap.size≠db:=by omega
 have HRG:Hid (∀ W,Fr [db] W0 W->RG W gb pb cap t):=fun W hf=>HG0.out.fr hf (by simpa using n1) (by simpa using n2)
 have HRE:=hid hres
 have HEND:Hid (∀ W,Fr [db] W0 W->Fr [] w W):=fun W hf=>hw0.trans hf (by simp;omega)
 have HDB:=hid hdbe
 clear hW0 hres hdb hw0 h hdbe
 go_loopw [10] (fun i wr=>∃ r:Nat,r<=12/\i=.int .i64 r/\Fr [db] W0 wr/\DAt wr db (qy7 free (zj0 x y onto) (r*12))) (fun i _=>12 - (intOf i).toNat)
 case atStart=>exact ⟨0,by omega,rfl,Fr.refl _ _,by rw [Nat.zero_mul];exact hd0⟩
 case round =>
  obtain ⟨r,hr,rfl,hfr,hdr⟩:=hrel
  clear hd0
  by_cases hr12:r < 12
  ·have hr12i:(r:Int) < 12:=by omega
   go_wp2_with fail
   go_loopw [11] (fun i wr=>∃ c:Nat,c<=12/\i=.int .i64 c/\Fr [db] W0 wr/\DAt wr db (qy7 free (zj0 x y onto) (r*12+c))) (fun i _=>12 - (intOf i).toNat)
   case atStart=>exact ⟨0,by omega,rfl,hfr,hdr⟩
   case round =>
    obtain ⟨c,hc,rfl,hfc,hdc⟩:=hrel
    clear hfr hdr
    by_cases hc12:c < 12
    ·have hc12i:(c:Int) < 12:=by omega
     go_wp2_with fail
     refine Calls.mono (HFR.out c r _ (HRG.out _ hfc)) ?_
     rintro e w1 ⟨rfl,hf1⟩
     dsimp only
     go_wp2_with fail
     refine Calls.mono (jk4 c r x y _ (by omega) (by omega) (by omega) (by omega) h1 h2 h3 h4) ?_
     rintro e w2 ⟨rfl,rfl⟩
     dsimp only
     have hfc1:=hfc.then0 hf1
     have hdc1:=hdc.fr hf1 (by simp)
     clear hf1 hdc hfc
     have hon:onB (c:Int) (r:Int)=true:=qz3.2 ⟨by omega,by omega,by omega,by omega⟩
     have hcell:=hdc1.at (c:=((c:Int),(r:Int))) hon
     dsimp only at hcell
     rw [yv6] at hcell
     have hfz:=hdc1.fz (r*12+c)
     have HN:Hid (∀ q:Cl,onB q.1 q.2=true->qy7 free (zj0 x y onto) (r*12+c+1) q=if q=((c:Int),(r:Int)) then (if (free ((c:Int),(r:Int))&&zj0 x y onto ((c:Int),(r:Int)))=true then 1 else 0) else qy7 free (zj0 x y onto) (r*12+c) q):=fun q hq=>gx5 (q:=((c:Int),(r:Int))) hon (yv6 c r) q hq
     have HNO:Hid ((free ((c:Int),(r:Int))&&zj0 x y onto ((c:Int),(r:Int)))=false->DAt w1 db (qy7 free (zj0 x y onto) (r*12+(c+1)))):=fun he=>by
      refine hdc1.same (fun q hq=>?_)
      rw [show r*12+(c+1)=r*12+c+1 by omega,HN.out q hq]
      by_cases e:q=((c:Int),(r:Int))
      ·rw [if_pos e,he,if_neg (by simp),e]
       unfold qy7
       rw [if_neg]
       rintro ⟨_,h6⟩
       rw [he] at h6
       cases h6
      ·rw [if_neg e]
     have HYES:Hid ((free ((c:Int),(r:Int))&&zj0 x y onto ((c:Int),(r:Int)))=true->DAt (w1.setCell ⟨db,r*12+c,none⟩ (.int .i64 1)) db (qy7 free (zj0 x y onto) (r*12+(c+1)))):=fun he=>by
      have:=hdc1.set ((c:Int),(r:Int)) hon 1 (G:=qy7 free (zj0 x y onto) (r*12+(c+1))) (fun q hq=>by
       rw [show r*12+(c+1)=r*12+c+1 by omega,HN.out q hq,he,if_pos rfl])
      dsimp only at this
      rw [yv6] at this
      exact this
     have HE:Hid (zj0 x y onto ((c:Int),(r:Int))=if onto then ((c:Int)==x&&(r:Int)==y) else qv5 c r x y):=rfl
     obtain ⟨f,hf⟩:∃ f,free ((c:Int),(r:Int))=f:=⟨_,rfl⟩
     obtain ⟨nr,hnr⟩:∃ f,qv5 (c:Int) r x y=f:=⟨_,rfl⟩
     obtain ⟨e1,he1⟩:∃ f,((c:Int)==x)=f:=⟨_,rfl⟩
     obtain ⟨e2,he2⟩:∃ f,((r:Int)==y)=f:=⟨_,rfl⟩
     rw [hf] at HNO HYES |-
     rw [hnr,he1,he2] at HE
     rw [hnr]
     rw [HE.out] at HNO HYES
     clear HE HN hf hnr hdc1
     cases f
     ·go_wp2_with fail
      go_roundw
      case rel=>exact ⟨c+1,hc12,by go_num,hfc1,HNO.out rfl⟩
      case measure=>simp [intOf];omega
     ·cases onto
      ·cases nr
       ·go_wp2_with fail
        go_roundw
        case rel=>exact ⟨c+1,hc12,by go_num,hfc1,HNO.out rfl⟩
        case measure=>simp [intOf];omega
       ·go_wp2_with fail
        go_roundw
        case rel=>exact ⟨c+1,hc12,by go_num,hfc1.setCell _ _ (Or.inl (by simp)),HYES.out rfl⟩
        case measure=>simp [intOf];omega
      ·cases e1
       ·go_wp2_with fail
        go_roundw
        case rel=>exact ⟨c+1,hc12,by go_num,hfc1,HNO.out rfl⟩
        case measure=>simp [intOf];omega
       ·cases e2
        ·go_wp2_with fail
         go_roundw
         case rel=>exact ⟨c+1,hc12,by go_num,hfc1,HNO.out rfl⟩
         case measure=>simp [intOf];omega
        ·go_wp2_with fail
         go_roundw
         case rel=>exact ⟨c+1,hc12,by go_num,hfc1.setCell _ _ (Or.inl (by simp)),HYES.out rfl⟩
         case measure=>simp [intOf];omega
    ·have hc12i:¬ (c:Int) < 12:=by omega
     have HC:Hid (DAt wr db (qy7 free (zj0 x y onto) ((r+1)*12))):=by
      have:(r+1)*12=r*12+c:=by omega
      show DAt _ _ _
      rw [this]
      exact hdc
     clear hdc
     go_wp2_with fail
     go_roundw
     case rel=>exact ⟨r+1,hr12,by go_num,hfc,HC.out⟩
     case measure=>simp [intOf];omega
  ·have hr12i:¬ (r:Int) < 12:=by omega
   have HD1:Hid (DAt wr db (lvM free P 1 0 [])):=by
    have hre:r*12=144:=by omega
    rw [hre] at hdr
    exact hdr.same H1.out
   clear hdr H1
   go_wp2_with fail
   go_loopw [14] (fun i wr=>∃ m:Nat,0 < m/\m<=145/\i=.int .i64 m/\Fr [db] W0 wr/\DAt wr db (lvM free P m 0 [])) (fun i _=>145 - (intOf i).toNat)
   case atStart=>exact ⟨1,by omega,by omega,rfl,hfr,HD1.out⟩
   case round =>
    obtain ⟨m,hm0,hm,rfl,hfm,hdm⟩:=hrel
    clear HD1 hfr
    by_cases hml:m<=144
    ·have hmli:(m:Int)<=144:=by omega
     go_wp2_with fail
     go_loopw [15,16] (fun mo i wr=>∃ (r:Nat) (B:Bool),r<=12/\i=.int .i64 r/\mo=.bool B/\(B=true↔xz3 (lvM free P m (r*12) []) (m+1))/\Fr [db] W0 wr/\DAt wr db (lvM free P m (r*12) [])) (fun _ i _=>12 - (intOf i).toNat)
     case atStart=>exact ⟨0,false,by omega,rfl,rfl,⟨fun e=>(by cases e),fun ⟨q,_,e⟩=>absurd e (by
      rw [Nat.zero_mul,jx2]
      have:=gk4 (P:=P) m q
      omega)⟩,hfm,by rw [Nat.zero_mul];exact hdm⟩
     case round =>
      obtain ⟨r,B,hr',rfl,rfl,hB,hfr,hdr⟩:=hrel
      clear hdm hfm
      by_cases hr12:r < 12
      ·have hr12i:(r:Int) < 12:=by omega
       have HB0:=hid hB
       clear hB
       go_wp2_with fail
       go_loopw [15,17] (fun mo i wr=>∃ (c:Nat) (B:Bool),c<=12/\i=.int .i64 c/\mo=.bool B/\(B=true↔xz3 (lvM free P m (r*12+c) []) (m+1))/\Fr [db] W0 wr/\DAt wr db (lvM free P m (r*12+c) [])) (fun _ i _=>12 - (intOf i).toNat)
       case atStart=>exact ⟨0,B,by omega,rfl,rfl,HB0.out,hfr,hdr⟩
       case round =>
        obtain ⟨c,B1,hc,rfl,rfl,hB1,hfc,hdc⟩:=hrel
        clear hfr hdr HB0
        have HB1:=hid hB1
        clear hB1
        by_cases hc12:c < 12
        ·have hc12i:(c:Int) < 12:=by omega
         have hon:onB (c:Int) (r:Int)=true:=qz3.2 ⟨by omega,by omega,by omega,by omega⟩
         have hcell:=hdc.at (c:=((c:Int),(r:Int))) hon
         dsimp only at hcell
         rw [yv6] at hcell
         obtain ⟨g,hg⟩:∃ g,lvM free P m (r*12+c) [] ((c:Int),(r:Int))=g:=⟨_,rfl⟩
         rw [hg] at hcell
         have HGM:=(show Hid _ from (qjj6 (free:=free) (P:=P) hm0 (r*12+c) [] ((c:Int),(r:Int))))
         rw [hg] at HGM
         have HINJ:Hid (∀ q:Cl,onB q.1 q.2=true->ci q.1 q.2=r*12+c->q=((c:Int),(r:Int))):=fun q hq e=>by
          rw [dj0 q hq e]
          unfold vq0
          apply Prod.ext <;> dsimp only <;> omega
         clear hg
         by_cases hgm:g=m
         ·subst hgm
          have HQ:=(show Hid _ from HGM.out.1 rfl)
          have hdk:DAt wr db (lvM free P g (r*12+c) (qj2 c r 0)):=hdc
          have hBk:B1=true↔xz3 (lvM free P g (r*12+c) (qj2 c r 0)) (g+1):=HB1.out
          have HBK:=hid hBk
          clear HGM hdc HB1 hBk
          go_wp2_with fail
          go_loopw [15,18] (fun mo i wr=>∃ (k:Nat) (B:Bool),k<=4/\i=.int .i64 k/\mo=.bool B/\(B=true↔xz3 (lvM free P g (r*12+c) (qj2 c r k)) (g+1))/\Fr [db] W0 wr/\DAt wr db (lvM free P g (r*12+c) (qj2 c r k))) (fun _ i _=>4 - (intOf i).toNat)
          case atStart=>exact ⟨0,B1,by omega,rfl,rfl,HBK.out,hfc,hdk⟩
          case round =>
           obtain ⟨k,B2,hk,rfl,rfl,hB2,hfk,hdk2⟩:=hrel
           clear hfc hdk HBK hcell
           have HB2:=hid hB2
           clear hB2
           by_cases hk4:k < 4
           ·have hk4i:(k:Int) < 4:=by omega
            obtain ⟨s,hs⟩:∃ s,sds[k]?=some s:=⟨_,List.getElem?_eq_getElem (show k < sds.length from hk4)⟩
            have hsb:-1<=s.1/\s.1<=1 /\ -1<=s.2/\s.2<=1:=by
             have h5:k=0\/k=1\/k=2\/k=3:=by omega
             rcases h5 with rfl|rfl|rfl|rfl <;> (simp [sds] at hs;subst hs;decide)
            have HSD:=(show Hid _ from fun W:World=>jz6 (c:Int) (r:Int) k s W hs (by omega) (by omega) (by omega) (by omega))
            have HLS:=(show Hid _ from fun q:Cl=>dk7 (free:=free) (P:=P) (n:=g) (p:=r*12+c) (c:=(c:Int)) (r:=(r:Int)) hs HFO.out q)
            obtain ⟨z,hz⟩:∃ z,(c:Int)+s.1=z:=⟨_,rfl⟩
            obtain ⟨v,hv⟩:∃ z,(r:Int)+s.2=z:=⟨_,rfl⟩
            rw [hz,hv] at HSD HLS
            have hzb:-1<=z/\z<=12 /\ -1<=v/\v<=12:=by omega
            clear hz hv hs hsb
            go_wp2_with fail
            refine Calls.mono (HSD.out _) ?_
            rintro e w1 ⟨rfl,rfl⟩
            dsimp only
            go_wp2_with fail
            refine Calls.mono (HFR.out z v _ (HRG.out _ hfk)) ?_
            rintro e w2 ⟨rfl,hf2⟩
            dsimp only
            have hfk2:=hfk.then0 hf2
            have hdk3:=hdk2.fr hf2 (by simp)
            clear hfk hdk2 hf2 HSD
            obtain ⟨f,hf⟩:∃ f,free (z,v)=f:=⟨_,rfl⟩
            rw [hf] at HLS |-
            cases f
            ·have HE:Hid (∀ q:Cl,lvM free P g (r*12+c) (qj2 c r (k+1)) q=lvM free P g (r*12+c) (qj2 c r k) q):=fun q=>by rw [HLS.out q,if_neg (by rintro ⟨_,h6,_⟩;cases h6)]
             clear HLS hf
             go_wp2_with fail
             go_roundw
             case rel=>exact ⟨k+1,B2,hk4,by go_num,rfl,HB2.out.trans ⟨fun ⟨q,h6,h7⟩=>⟨q,h6,by rw [HE.out];exact h7⟩,fun ⟨q,h6,h7⟩=>⟨q,h6,by rw [HE.out] at h7;exact h7⟩⟩,hfk2,hdk3.same (fun q _=>HE.out q)⟩
             case measure=>simp [intOf];omega
            ·have hzo:onB z v=true:=HFO.out (z,v) hf
             obtain ⟨p0,p1,p2,p3⟩:=qz3.1 hzo
             have hcz:=hdk3.at (c:=(z,v)) hzo
             have hcie:ci z v=v.toNat*12+z.toNat:=by unfold ci;omega
             dsimp only at hcz
             rw [hcie] at hcz
             have hfz:=hdk3.fz (v.toNat*12+z.toNat)
             have HZO:=hid hzo
             have HCI:=hid hcie
             obtain ⟨g2,hg2⟩:∃ g2,lvM free P g (r*12+c) (qj2 c r k) (z,v)=g2:=⟨_,rfl⟩
             rw [hg2] at hcz HLS
             have HG2:=hid hg2
             clear hg2 hzo hcie hf
             by_cases hg0:g2=0
             ·subst hg0
              have HE:Hid (∀ q:Cl,lvM free P g (r*12+c) (qj2 c r (k+1)) q=if q=(z,v) then g+1 else lvM free P g (r*12+c) (qj2 c r k) q):=fun q=>by
               rw [HLS.out q]
               by_cases e:q=(z,v)
               ·rw [if_pos ⟨e,rfl,rfl⟩,if_pos e]
               ·rw [if_neg (fun h6=>e h6.1),if_neg e]
              have HST:Hid (DAt (w2.setCell ⟨db,v.toNat*12+z.toNat,none⟩ (.int .i64 ((g:Int)+1))) db (lvM free P g (r*12+c) (qj2 c r (k+1)))):=by
               have:=hdk3.set (z,v) HZO.out (g+1) (G:=lvM free P g (r*12+c) (qj2 c r (k+1))) (fun q _=>HE.out q)
               dsimp only at this
               rw [HCI.out] at this
               exact this
              clear HLS hdk3
              go_wp2_with fail
              go_roundw
              case rel=>exact ⟨k+1,true,hk4,by go_num,rfl,⟨fun _=>⟨(z,v),HZO.out,by rw [HE.out,if_pos rfl]⟩,fun _=>rfl⟩,hfk2.setCell _ _ (Or.inl (by simp)),HST.out⟩
              case measure=>simp [intOf];omega
             ·have hg0b:((g2:Int)==0)=false:=by simpa using hg0
              have HE:Hid (∀ q:Cl,lvM free P g (r*12+c) (qj2 c r (k+1)) q=lvM free P g (r*12+c) (qj2 c r k) q):=fun q=>by rw [HLS.out q,if_neg (fun h6=>hg0 h6.2.2)]
              clear HLS
              go_wp2_with fail
              go_roundw
              case rel=>exact ⟨k+1,B2,hk4,by go_num,rfl,HB2.out.trans ⟨fun ⟨q,h6,h7⟩=>⟨q,h6,by rw [HE.out];exact h7⟩,fun ⟨q,h6,h7⟩=>⟨q,h6,by rw [HE.out] at h7;exact h7⟩⟩,hfk2,hdk3.same (fun q _=>HE.out q)⟩
              case measure=>simp [intOf];omega
           ·have hk4i:¬ (k:Int) < 4:=by omega
            have HK4:Hid (k=4):=by show _=_;omega
            have HNX:Hid (∀ q:Cl,lvM free P g (r*12+(c+1)) [] q=lvM free P g (r*12+c) (qj2 c r k) q):=fun q=>by
             rw [HK4.out,vq8]
             exact kv2 (q:=((c:Int),(r:Int))) hon (yv6 c r) HINJ.out (Or.inl ⟨HQ.out,rfl⟩) q
            go_wp2_with fail
            go_roundw
            case rel=>exact ⟨c+1,B2,hc12,by go_num,rfl,HB2.out.trans ⟨fun ⟨q,h6,h7⟩=>⟨q,h6,by rw [HNX.out];exact h7⟩,fun ⟨q,h6,h7⟩=>⟨q,h6,by rw [HNX.out] at h7;exact h7⟩⟩,hfk,hdk2.same (fun q _=>HNX.out q)⟩
            case measure=>simp [intOf];omega
         ·have hgb:((g:Int)==(m:Int))=false:=by simp;omega
          have HNX:Hid (∀ q:Cl,lvM free P m (r*12+(c+1)) [] q=lvM free P m (r*12+c) [] q):=fun q=>kv2 (q:=((c:Int),(r:Int))) hon (yv6 c r) HINJ.out (Or.inr ⟨fun e=>hgm (HGM.out.2 e),rfl⟩) q
          go_wp2_with fail
          go_roundw
          case rel=>exact ⟨c+1,B1,hc12,by go_num,rfl,HB1.out.trans ⟨fun ⟨q,h6,h7⟩=>⟨q,h6,by rw [HNX.out];exact h7⟩,fun ⟨q,h6,h7⟩=>⟨q,h6,by rw [HNX.out] at h7;exact h7⟩⟩,hfc,hdc.same (fun q _=>HNX.out q)⟩
          case measure=>simp [intOf];omega
        ·have hc12i:¬ (c:Int) < 12:=by omega
         have HCE:Hid (r*12+c=(r+1)*12):=by show _=_;omega
         go_wp2_with fail
         go_roundw
         case rel=>exact ⟨r+1,B1,hr12,by go_num,rfl,by rw [<- HCE.out];exact HB1.out,hfc,by rw [<- HCE.out];exact hdc⟩
         case measure=>simp [intOf];omega
      ·have hr12i:¬ (r:Int) < 12:=by omega
       have hre:r*12=144:=by omega
       rw [hre] at hB hdr
       have HBB:=hid hB
       clear hre hB
       cases B
       ·have HFF:=(show Hid _ from HFX.out m hm0 (fun h6=>by have:=HBB.out.2 h6;cases this))
        have HLE:Hid (∀ q,lvM free P m 144 [] q<=146):=fun q=>by
         rw [vq7 HS.out HW.out hm0]
         have:=gk4 (P:=P) (m+1) q
         omega
        obtain ⟨F,hF⟩:∃ F,F=lvM free P m 144 []:=⟨_,rfl⟩
        rw [<- hF] at hdr HFF HLE
        have hrg:=hdr.range
        have HT:=(show Hid _ from yk8 F)
        have HT1:=(show Hid _ from vw6 F)
        obtain ⟨tl,htl⟩:∃ tl,tl=xq3 F:=⟨_,rfl⟩
        rw [<- htl] at hrg HT HT1
        have HTL:=hid htl
        have HI1:Hid ((Tryz.prog.info? 87).map (·.size)=some tl.length):=by show _=_;rw [HT.out];exact xw8
        have HI2:Hid ((Tryz.prog.info? 87).map (·.size)=some tl.toArray.size):=by show _=_;rw [List.size_toArray];exact HI1.out
        have HZ:Hid (Tryz.zeroCells87.size=tl.toArray.size):=by
         have e:tl.toArray.size=144:=by rw [List.size_toArray,HT.out]
         show _=_
         rw [e]
         rfl
        have HRES:=(show Hid _ from hfr.heap HRE.out (by simpa using n3))
        clear hF htl HBB hdr
        go_wp2_with (first
         | (refine wpList_load_mid rfl 87 _ rfl db 0 rfl tl _ hrg Tryz.underlying87 rfl HI1.out ?_)
         | (refine wpList_store_row rfl 87 _ _ rfl w.heap.size tl.toArray rfl rfl 87 Tryz.zeroCells87 HRES.out HI2.out HZ.out HT1.out ?_))
        exact bodyPost_ret (v:=.agg tl.toArray) (results_cell_row Tryz.results212 _ _ w.heap.size 87 _ (0,0) _ rfl (setRow_heap _ _ _ _ _ _ HRES.out) Tryz.underlying87 rfl HI2.out) rfl ⟨F,HFF.out,fun a b=>HLE.out (a,b),by rw [HTL.out],(HEND.out _ hfr).setRow _ _ (Or.inr (Nat.le_refl _))⟩
       ·have HNX:Hid (∀ q:Cl,onB q.1 q.2=true->lvM free P (m+1) 0 [] q=lvM free P m 144 [] q):=fun q _=>by rw [jx2,vq7 HS.out HW.out hm0]
        go_wp2_with fail
        go_roundw
        case rel=>exact ⟨m+1,by omega,by omega,by go_num,hfr,hdr.same HNX.out⟩
        case measure=>simp [intOf];omega
    ·have hmli:¬ (m:Int)<=144:=by omega
     have hme:m=145:=by omega
     have HFF:Hid (FarX free (zj0 x y onto) (lvM free P m 0 [])):=by rw [hme];exact HF5.out
     have HLE:Hid (∀ q,lvM free P m 0 [] q<=146):=fun q=>by
      rw [jx2]
      have:=gk4 (P:=P) m q
      omega
     obtain ⟨F,hF⟩:∃ F,F=lvM free P m 0 []:=⟨_,rfl⟩
     rw [<- hF] at hdm HFF HLE
     have hrg:=hdm.range
     have HT:=(show Hid _ from yk8 F)
     have HT1:=(show Hid _ from vw6 F)
     obtain ⟨tl,htl⟩:∃ tl,tl=xq3 F:=⟨_,rfl⟩
     rw [<- htl] at hrg HT HT1
     have HTL:=hid htl
     have HI1:Hid ((Tryz.prog.info? 87).map (·.size)=some tl.length):=by show _=_;rw [HT.out];exact xw8
     have HI2:Hid ((Tryz.prog.info? 87).map (·.size)=some tl.toArray.size):=by show _=_;rw [List.size_toArray];exact HI1.out
     have HZ:Hid (Tryz.zeroCells87.size=tl.toArray.size):=by
      have e:tl.toArray.size=144:=by rw [List.size_toArray,HT.out]
      show _=_
      rw [e]
      rfl
     have HRES:=(show Hid _ from hfm.heap HRE.out (by simpa using n3))
     clear hF htl hdm
     go_wp2_with (first
      | (refine wpList_load_mid rfl 87 _ rfl db 0 rfl tl _ hrg Tryz.underlying87 rfl HI1.out ?_)
      | (refine wpList_store_row rfl 87 _ _ rfl w.heap.size tl.toArray rfl rfl 87 Tryz.zeroCells87 HRES.out HI2.out HZ.out HT1.out ?_))
     exact bodyPost_ret (v:=.agg tl.toArray) (results_cell_row Tryz.results212 _ _ w.heap.size 87 _ (0,0) _ rfl (setRow_heap _ _ _ _ _ _ HRES.out) Tryz.underlying87 rfl HI2.out) rfl ⟨F,HFF.out,fun a b=>HLE.out (a,b),by rw [HTL.out],(HEND.out _ hfm).setRow _ _ (Or.inr (Nat.le_refl _))⟩
end Go.Proofs.YtapabahhfanmmaaGreatDoor
