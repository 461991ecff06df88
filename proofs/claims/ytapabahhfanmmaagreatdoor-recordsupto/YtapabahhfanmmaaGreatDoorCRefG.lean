import Derived.Test.YtapabahhfanmmaaGreatDoorCRFree
import Derived.Test.YtapabahhfanmmaaGreatDoorCStoreP
import Derived.Test.YtapabahhfanmmaaGreatDoorCOrds
namespace Go.Proofs.YtapabahhfanmmaaGreatDoor
open Go.RowKit List
set_option maxRecDepth 100000
set_option maxHeartbeats 4000000
def dF (t:T)(pv:Value)(k:Nat):Value :=
  if k=0 then ii t.turn else if k < 145 then ii (t.bd (k - 1)) else if k=145 then ii t.s0 else if k=146 then ii t.s1 else if k=147 then ii t.next else pv
structure RG (w:World) (gb pb cap:Nat) (t:T):Prop where
 cell:∀ k,k < 149->w.cell? ⟨gb,k,none⟩=some (dF t (.slice (so pb) t.us.length cap) k)
 fz:∀ k,w.frozen? ⟨gb,k,none⟩=false
 row:PRow w pb cap t.us
 len:t.us.length<=1000
 ne:gb≠pb
theorem RG.lt {w:World}{b c a:Nat}{t:T}(h:RG w b c a t):b < w.heap.size:=aI (h.cell 0 (by omega))
theorem RG.fr {S:List Nat}{w e:World}{b d a:Nat}{t:T}(h:RG w b d a t)(c:Fr S w e)(h1:b∉S)(f:d∉S):RG e b d a t :=
  ⟨fun k g=>by rw [c.cell _ _ h.lt h1];exact h.cell k g,fun k=>by rw [c.frozen _ _ h.lt h1];exact h.fz k,h.row.fr c f,h.len,h.ne⟩
theorem RG.fr0 {w d:World}{b c a:Nat}{t:T}(h:RG w b c a t)(e:Fr [] w d):RG d b c a t:=h.fr e (by simp) (by simp)
theorem RG.gv {w:World}{b c a:Nat}{t:T}(h:RG w b c a t):GV w b c a t.us:=⟨h.cell 148 (by omega),h.row.ppl,h.len⟩
theorem RG.c0 {w:World}{b c a:Nat}{t:T}(h:RG w b c a t):w.cell? ⟨b,0,none⟩=some (ii t.turn):=h.cell 0 (by omega)
theorem RG.c145 {w:World}{b c a:Nat}{t:T}(h:RG w b c a t):w.cell? ⟨b,145,none⟩=some (ii t.s0):=h.cell 145 (by omega)
theorem RG.c146 {w:World}{b c a:Nat}{t:T}(h:RG w b c a t):w.cell? ⟨b,146,none⟩=some (ii t.s1):=h.cell 146 (by omega)
theorem RG.c147 {w:World}{b c a:Nat}{t:T}(h:RG w b c a t):w.cell? ⟨b,147,none⟩=some (ii t.next):=h.cell 147 (by omega)
theorem RG.c148 {w:World}{b c a:Nat}{t:T}(h:RG w b c a t):w.cell? ⟨b,148,none⟩=some (.slice (so c) t.us.length a):=h.cell 148 (by omega)
theorem RG.bd {w:World}{b c a:Nat}{t:T}(h:RG w b c a t){j:Nat}(d:j < 144):w.cell? ⟨b,1+j,none⟩=some (ii (t.bd j)):=by
 rw [h.cell (1+j) (by omega)]
 unfold dF
 rw [if_neg (by omega),if_pos (by omega)]
 congr 3
 omega
def gH (o:Option Nat):Int:=match o with|some i=>i|none => -1
theorem qX {us:List U}{p:U->Bool}(h:∀ j (h:j < us.length),p us[j]=false):us.findIdx? p=none:=by
 rw [findIdx?_eq_none_iff]
 intro x hx
 obtain ⟨j,a,rfl⟩:=mem_iff_getElem.1 hx
 exact h j a
theorem qY {us:List U}{p:U->Bool}{k:Nat}{u:U}(c:us[k]?=some u)(b:p u=true)(h:∀ j,j < k->∀ (h:j < us.length),p us[j]=false):us.findIdx? p=some k:=by
 obtain ⟨hl,rfl⟩:=gs.1 c
 rw [findIdx?_eq_some_iff_getElem]
 exact ⟨hl,b,fun j a=>by simp [h j a (by omega)]⟩
theorem kK {us:List U}{p:U->Bool}{k:Nat}{u:U}(a:us[k]?=some u)(b:p u=false)(h:∀ j,j < k->∀ (h:j < us.length),p us[j]=false):∀ j,j < k+1->∀ (h:j < us.length),p us[j]=false:=fun j c hl=>by
 rcases Nat.lt_or_ge j k with h1|h1
 ·exact h j h1 hl
 have:j=k:=by omega
 subst this
 rw [getElem?_eq_getElem hl] at a
 rw [Option.some.inj a]
 exact b
set_option maxRecDepth 100000
def fJ (us:List U)(o:Int):Option Nat:=us.findIdx? (aT o)
def eO (us:List U):Int:=if (fJ us 0).isSome=false then 2 else if (fJ us 1).isSome=false then 1 else 0
theorem vY (o:Option Nat):decide (gH o < 0) = !o.isSome:=by
 cases o with
 | none=>rfl
 | some n=>exact decide_eq_false (by show ¬ (n:Int) < 0;omega)
theorem zB (b M v:Nat)(us:List U)(o:Int)(w:World)(x:GV w b M v us) :
  Cs 137 #[.pointer (so b),.int .i64 o] w fun e N=>e=.returned (.int .i64 (gH (fJ us o)))/\Fr [] w N:=by
 have z:=x.len
 have J:=x.c
 have hb:=aI J
 go_enter Tryz.func137,Tryz.ntmps137
 go_wp2_with fail
 go_loopw [5] (fun i wr=>∃ k:Nat,k<=us.length/\i=.int .i64 k/\(∀ j,j < k->∀ (h:j < us.length),aT o us[j]=false)/\Fr [] w wr) (fun i _=>us.length - (intOf i).toNat)
 case atStart=>exact ⟨0,Nat.zero_le _,rfl,fun j h=>by omega,r0 _ _⟩
 obtain ⟨k,Q,rfl,q,l⟩:=hrel
 have m:=x.fr0 l
 have K:=m.c
 have r:=aA q
 clear q
 by_cases d:k < us.length
 ·have n:(k:Int) < (us.length:Int):=by omega
  obtain ⟨u,y⟩:∃ u,us[k]?=some u:=⟨us[k],getElem?_eq_getElem d⟩
  obtain ⟨A,O,P,B,C,D,E,F,H,I,t⟩:=m.p.at y
  have s:=(show Hi (us[k]?=some u) from y)
  clear y A B C D E F H I t
  by_cases a:(u.kind==1)=true
  ·by_cases f:(u.owner==o)=true
   ·have g:Hi (aT o u=true):=by simp [Hi,aT,a,f]
    go_wp2_with fail
    go_ret
    exact ⟨by unfold fJ;rw [qY s.o g.o r.o];rfl,l⟩
   simp only [Bool.not_eq_true] at f
   have g:Hi (aT o u=false):=by simp [Hi,aT,f]
   go_wp2_with fail
   go_roundw
   case rel=>exact ⟨k+1,d,by go_num,kK s.o g.o r.o,l⟩
   case measure=>simp [intOf];omega
  simp only [Bool.not_eq_true] at a
  have g:Hi (aT o u=false):=by simp [Hi,aT,a]
  go_wp2_with fail
  go_roundw
  case rel=>exact ⟨k+1,d,by go_num,kK s.o g.o r.o,l⟩
  case measure=>simp [intOf];omega
 have n:¬ (k:Int) < (us.length:Int):=by omega
 go_wp2_with fail
 go_ret
 exact ⟨by unfold fJ;rw [qX (fun j L=>r.o j (by omega) L)];rfl,l⟩
theorem mX (b h a:Nat)(us:List U)(w:World)(i:GV w b h a us) :
  Cs 99 #[.pointer (so b)] w fun e l=>e=.returned (.int .i64 (eO us))/\Fr [] w l:=by
 go_enter Tryz.func99,Tryz.ntmps99
 go_wp2_with fail
 refine (zB b h a us 0 _ i).mono ?_
 rintro e m ⟨rfl,d⟩
 generalize c:(fJ us 0).isSome=b0
 have j:=vY (fJ us 0)
 rw [c] at j
 cases b0
 ·go_wp2_with fail
  go_ret
  exact ⟨by unfold eO;rw [if_pos c];rfl,d⟩
 go_wp2_with fail
 refine (zB b h a us 1 _ (i.fr0 d)).mono ?_
 rintro e n ⟨rfl,g⟩
 generalize f:(fJ us 1).isSome=b1
 have k:=vY (fJ us 1)
 rw [f] at k
 cases b1
 all_goals
  go_wp2_with fail
  go_ret
  exact ⟨by unfold eO;rw [c,f];rfl,d.then0 g⟩
theorem eF (x y:Int)(w:World) :
  Cs 185 #[.int .i64 x,.int .i64 y] w fun e a=>e=.returned (.bool (aD x y))/\w=a:=by
 go_enter Tryz.func185,Tryz.ntmps185
 go_wp2
 all_goals
  go_ret
  exact ⟨iW (by simp [aD, *] <;> omega),rfl⟩
theorem oU (x y z v:Int)(w:World)(h1:-1000<=x)(C:x<=1000)(D:-1000<=y)(E:y<=1000)(F:-1000<=z)(H:z<=1000)(I:-1000<=v)(J:v<=1000) :
  Cs 214 #[.int .i64 x,.int .i64 y,.int .i64 z,.int .i64 v] w fun e B=>e=.returned (.bool (aY x y z v))/\w=B:=by
 have c:Hi (aY x y z v=((x - z==0&&(y - v==1||y - v == -1))||(y - v==0&&(x - z==1||x - z == -1)))):=by
  show _=_
  unfold aY
  rw [Bool.eq_iff_iff]
  simp
  omega
 obtain ⟨a,f⟩:∃ d,x - z=d:=⟨_,rfl⟩
 obtain ⟨b,g⟩:∃ d,y - v=d:=⟨_,rfl⟩
 rw [f,g] at c
 have n:-2000<=a/\a<=2000:=by omega
 have p:-2000<=b/\b<=2000:=by omega
 obtain ⟨r,h⟩:∃ q,(a==0)=q:=⟨_,rfl⟩
 obtain ⟨s,i⟩:∃ q,(a==1)=q:=⟨_,rfl⟩
 obtain ⟨t,j⟩:∃ q,(a == -1)=q:=⟨_,rfl⟩
 obtain ⟨r0,k⟩:∃ q,(b==0)=q:=⟨_,rfl⟩
 obtain ⟨u,l⟩:∃ q,(b==1)=q:=⟨_,rfl⟩
 obtain ⟨A,m⟩:∃ q,(b == -1)=q:=⟨_,rfl⟩
 rw [h,i,j,k,l,m] at c
 go_enter Tryz.func214,Tryz.ntmps214
 cases r <;> cases s <;> cases t <;> cases r0 <;> cases u <;> cases A
 all_goals
  go_wp2_with fail
  go_ret
  exact ⟨iW (by rw [c.o];rfl),rfl⟩
theorem QX {a b c d:Int}(h1:a=c)(e:b=d):Ending.returned (.tuple #[.int .i64 a,.int .i64 b])=.returned (.tuple #[.int .i64 c,.int .i64 d]):=by rw [h1,e]
theorem oX (x y:Int)(k:Nat)(s:Int×Int)(w:World)(hs:sds[k]?=some s)(h1:-1000<=x)(c:x<=1000)(d:-1000<=y)(f:y<=1000) :
  Cs 213 #[.int .i64 x,.int .i64 y,.int .i64 k] w fun e b=>e=.returned (.tuple #[.int .i64 (x+s.1),.int .i64 (y+s.2)])/\w=b:=by
 have g:k < 4:=(gs.1 hs).1
 have a:k=0\/k=1\/k=2\/k=3:=by omega
 rcases a with rfl|rfl|rfl|rfl <;> (simp [sds] at hs;subst hs;go_enter Tryz.func213,Tryz.ntmps213;go_wp2_with fail;go_ret2;refine ⟨QX ?_ ?_,rfl⟩ <;> (try dsimp only) <;> omega)
theorem DD {us:List U}{p:U->Bool}{k:Nat}{u:U}(b:us[k]?=some u)(a:p u=true):us.any p=true:=by
 rw [any_eq_true]
 exact ⟨u,mem_of_getElem? b,a⟩
theorem DE {us:List U}{p:U->Bool}(h:∀ j (h:j < us.length),p us[j]=false):us.any p=false:=by
 rw [any_eq_false]
 intro x hx
 obtain ⟨j,a,rfl⟩:=mem_iff_getElem.1 hx
 simp [h j a]
theorem rX (H Y E:Nat)(t:T)(x y:Int)(w:World)(h:RG w H Y E t) :
  Cs 184 #[.pointer (so H),.int .i64 x,.int .i64 y] w fun e w'=>e=.returned (.bool (cH t.us t.bd (x,y)))/\Fr [] w w':=by
 have J:=h.len
 go_enter Tryz.func184,Tryz.ntmps184
 go_wp2_with fail
 refine (eF x y _).mono ?_
 rintro e w1 ⟨rfl,rfl⟩
 have b:Hi (cH t.us t.bd (x,y)=(aD x y&&(t.bd (ci x y)==0 && !kA t.us (x,y)))):=rfl
 cases a:aD x y
 ·rw [a] at b
  go_wp2_with fail
  go_ret
  exact ⟨by rw [b.o];rfl,r0 _ _⟩
 rw [a] at b
 obtain ⟨p0,p1,p2,p3⟩:=bM.1 a
 have m:ci x y < 144:=eK a
 have hb:=h.bd m
 obtain ⟨v,K⟩:∃ v,t.bd (ci x y)=v:=⟨_,rfl⟩
 rw [K] at hb b
 have V:1+ci x y=1+y.toNat*12+x.toNat:=by unfold ci;omega
 rw [V] at hb
 clear K m a
 by_cases z:v=0
 ·subst z
  have I:=h.gv
  have hc:=I.c
  go_wp2_with fail
  go_loopw [8] (fun i wr=>∃ k:Nat,k<=t.us.length/\i=.int .i64 k/\(∀ j,j < k->∀ (h:j < t.us.length),(t.us[j].x==x&&t.us[j].y==y)=false)/\Fr [] w wr) (fun i _=>t.us.length - (intOf i).toNat)
  case atStart=>exact ⟨0,Nat.zero_le _,rfl,fun j h=>by omega,r0 _ _⟩
  obtain ⟨k,hk,rfl,s,n⟩:=hrel
  have q:=I.fr0 n
  have W:=q.c
  have B:=aA s
  clear s
  by_cases f:k < t.us.length
  ·have r:(k:Int) < (t.us.length:Int):=by omega
   obtain ⟨u,F⟩:∃ u,t.us[k]?=some u:=⟨t.us[k],getElem?_eq_getElem f⟩
   obtain ⟨L,M,N,c3,c4,O,P,Q,R,S,D⟩:=q.p.at F
   have C:=(show Hi (t.us[k]?=some u) from F)
   clear F L M N O P Q R S D
   by_cases d:(u.x==x)=true
   ·by_cases g:(u.y==y)=true
    ·have l:Hi ((u.x==x&&u.y==y)=true):=by simp [Hi,d,g]
     go_wp2_with fail
     go_ret
     exact ⟨by
      have:=DD (p:=fun u:U=>u.x==x&&u.y==y) C.o l.o
      rw [b.o]
      unfold kA
      rw [this]
      rfl,n⟩
    simp only [Bool.not_eq_true] at g
    have l:Hi ((u.x==x&&u.y==y)=false):=by simp [Hi,g]
    go_wp2_with fail
    go_roundw
    case rel=>exact ⟨k+1,f,by go_num,kK (p:=fun u:U=>u.x==x&&u.y==y) C.o l.o B.o,n⟩
    case measure=>simp [intOf];omega
   simp only [Bool.not_eq_true] at d
   have l:Hi ((u.x==x&&u.y==y)=false):=by simp [Hi,d]
   go_wp2_with fail
   go_roundw
   case rel=>exact ⟨k+1,f,by go_num,kK (p:=fun u:U=>u.x==x&&u.y==y) C.o l.o B.o,n⟩
   case measure=>simp [intOf];omega
  have r:¬ (k:Int) < (t.us.length:Int):=by omega
  go_wp2_with fail
  go_ret
  exact ⟨by
   have:=DE (p:=fun u:U=>u.x==x&&u.y==y) (fun j X=>B.o j (by omega) X)
   rw [b.o]
   unfold kA
   rw [this]
   rfl,n⟩
 have A:(v==0)=false:=by simpa using z
 go_wp2_with fail
 go_ret
 exact ⟨by rw [b.o,A];rfl,r0 _ _⟩
end Go.Proofs.YtapabahhfanmmaaGreatDoor
namespace Go.Proofs.YtapabahhfanmmaaGreatDoor
open Go.RowKit Classical List
set_option maxRecDepth 100000
def gT (j:Nat):Cl:=(((j % 12:Nat):Int),((j / 12:Nat):Int))
theorem uK {j:Nat}(h:j < 144):aD (gT j).1 (gT j).2=true:=by
 apply bM.2
 unfold gT
 dsimp only
 omega
theorem EZ {j:Nat}:ci (gT j).1 (gT j).2=j:=by
 unfold ci gT
 dsimp only
 omega
theorem qB {c:Cl}(h:aD c.1 c.2=true):gT (ci c.1 c.2)=c:=by
 obtain ⟨h1,a,b,d⟩:=bM.1 h
 unfold gT ci
 apply Prod.ext
 ·dsimp only;omega
 dsimp only;omega
theorem ER {p:Nat}:∀ x:Cl,aD x.1 x.2=true->ci x.1 x.2=p->x=gT p:=fun x ho e=>by rw [<- e,qB ho]
structure DAt (w:World) (db:Nat) (F:Cl->Nat):Prop where
 cell:∀ j,j < 144->w.cell? ⟨db,j,none⟩=some (ii (F (gT j):Nat))
 fz:∀ j,w.frozen? ⟨db,j,none⟩=false
theorem DAt.at {w:World}{a:Nat}{F:Cl->Nat}(h:DAt w a F){c:Cl}(b:aD c.1 c.2=true):w.cell? ⟨a,ci c.1 c.2,none⟩=some (ii (F c:Nat)):=by
  rw [h.cell _ (eK b),qB b]
theorem DAt.same {w:World}{a:Nat}{F G:Cl->Nat}(h:DAt w a F)(e:∀ c:Cl,aD c.1 c.2=true->G c=F c):DAt w a G:=⟨fun j b=>by rw [e _ (uK b)];exact h.cell j b,h.fz⟩
theorem DAt.fr {S:List Nat}{w c:World}{a:Nat}{F:Cl->Nat}(h:DAt w a F)(b:Fr S w c)(hn:a∉S):DAt c a F:=by
 have hl:=aI (h.cell 0 (by omega))
 exact ⟨fun j d=>by rw [b.cell _ _ hl hn];exact h.cell j d,fun j=>by rw [b.frozen _ _ hl hn];exact h.fz j⟩
theorem DAt.set {w:World}{b:Nat}{F G:Cl->Nat}(h:DAt w b F)(q:Cl)(f:aD q.1 q.2=true)(n:Nat)(e:∀ c:Cl,aD c.1 c.2=true->G c=if c=q then n else F c):DAt (w.setCell ⟨b,ci q.1 q.2,none⟩ (.int .i64 (n:Nat))) b G:=by
 refine ⟨fun j d=>?_,fun j=>by rw [World.frozen?_setCell];exact h.fz j⟩
 rw [e _ (uK d)]
 by_cases a:j=ci q.1 q.2
 ·subst a
  rw [dO _ _ _ _ _ (h.cell _ (eK f)),if_pos (qB f)]
 rw [cA _ b _ b j _ (.inr (fun x=>a x.symm)),if_neg (fun x=>a (by rw [<- x,EZ]))]
 exact h.cell j d
theorem LF {free:Cl->Bool}{P:Nat->Cl->Prop}{n p:Nat}{c r:Int}{k:Nat}{s:Int×Int}(hs:sds[k]?=some s)(a:∀ x:Cl,free x=true->aD x.1 x.2=true)(x:Cl) :
  bC free P n p (aR c r (k+1)) x=if x=(c+s.1,r+s.2)/\free (c+s.1,r+s.2)=true/\bC free P n p (aR c r k) (c+s.1,r+s.2)=0 then n+1 else bC free P n p (aR c r k) x:=by
 by_cases ho:aD (c+s.1) (r+s.2)=true
 ·rw [jW c r k s hs ho,LE]
 rw [jV c r k s hs (by simpa using ho),if_neg]
 rintro ⟨_,h,_⟩
 exact ho (a _ h)
def kU (F:Cl->Nat)(m:Nat):Prop:=∃ c:Cl,aD c.1 c.2=true/\F c=m
end Go.Proofs.YtapabahhfanmmaaGreatDoor
namespace Go.Proofs.YtapabahhfanmmaaGreatDoor
open Go.RowKit Classical List
set_option maxRecDepth 100000
def dV (x y:Int)(onto:Bool)(c:Cl):Bool:=if onto then c.1==x&&c.2==y else aY c.1 c.2 x y
def iX (F:Cl->Nat):List Value:=(range 144).map fun j=>ii (F (gT j):Nat)
theorem pG (F:Cl->Nat):(iX F).length=144:=by simp [iX]
def fV (free ends:Cl->Bool)(p:Nat)(c:Cl):Nat:=if ci c.1 c.2 < p/\(free c&&ends c)=true then 1 else 0
theorem GR (free ends:Cl->Bool)(c:Cl)(a:aD c.1 c.2=true):bC free (eH free ends) 1 0 [] c=fV free ends 144 c:=by
 rw [mK]
 unfold fV bJ bJ
 have:=eK a
 by_cases h:(free c&&ends c)=true
 ·rw [if_neg (by simp),if_pos (BO.2 (by simpa using h)),if_pos ⟨this,h⟩]
 rw [if_neg (by simp),if_neg (fun x=>h (by simpa using BO.1 x)),if_neg (fun x=>h x.2)]
theorem GU {free ends:Cl->Bool}{p:Nat}{q:Cl}(d:aD q.1 q.2=true)(a:ci q.1 q.2=p)(c:Cl)(b:aD c.1 c.2=true):fV free ends (p+1) c=if c=q then (if (free q&&ends q)=true then 1 else 0) else fV free ends p c:=by
 unfold fV
 by_cases e:c=q
 ·subst e
  rw [if_pos rfl,a]
  by_cases h:(free c&&ends c)=true
  ·rw [if_pos ⟨by omega,h⟩,if_pos h]
  rw [if_neg (fun x=>h x.2),if_neg h]
 rw [if_neg e]
 have:ci c.1 c.2≠p:=fun x=>e (by
  obtain ⟨h1,k,l,m⟩:=bM.1 d
  obtain ⟨f,g,i,j⟩:=bM.1 b
  unfold ci at x a
  apply Prod.ext <;> omega)
 by_cases h:ci c.1 c.2 < p/\(free c&&ends c)=true
 ·rw [if_pos h,if_pos ⟨by omega,h.2⟩]
 rw [if_neg h,if_neg (fun x=>h ⟨by omega,x.2⟩)]
theorem kV (c r:Nat):ci (c:Int) (r:Int)=r*12+c:=by unfold ci;omega
theorem rA:(Tryz.prog.info? 87).map (·.size)=some 144:=by kernel_rfl
theorem VF:Tryz.zeroCells87=Array.replicate 144 (ii 0):=by kernel_rfl
theorem sK (F:Cl->Nat):(iX F).toArray.all (·.oneCell')=true:=by
 rw [all_toArray]
 apply all_eq_true.2
 intro v a
 obtain ⟨j,_,rfl⟩:=mem_map.1 a
 rfl
theorem DAt.range {w:World}{b:Nat}{F:Cl->Nat}(h:DAt w b F):w.rangeAt b 0 (iX F):=fun j v a=>by
 have c:j < 144:=by have:=(gs.1 a).1;rwa [pG] at this
 unfold iX at a
 rw [getElem?_map,getElem?_range c] at a
 rw [Nat.zero_add,h.cell j c]
 simpa using a
theorem LD {free ends:Cl->Bool}(a:∀ c:Cl,free c=true->aD c.1 c.2=true){m:Nat}(hm:0 < m)(f:¬ kU (bC free (eH free ends) m 144 []) (m+1)):FarX free ends (bC free (eH free ends) m 144 []):=by
 have hs:∀ k c,eH free ends (k+1) c↔free c=true/\∃ q,eH free ends k q/\c∈aG q.1 q.2:=fun k c=>sO a
 have hw:∀ k c,eH free ends k c->aD c.1 c.2=true:=fun k c h=>a c h.1
 have b:∀ c,bJ (eH free ends) (m+1) c≠m+1:=fun c e=>by
  obtain ⟨_,g,_⟩:=iB.1 e
  exact f ⟨c,hw _ _ g,by rw [oF hs hw hm];exact e⟩
 have i:bC free (eH free ends) m 144 []=bJ (eH free ends) m:=by
  funext c
  rw [oF hs hw hm]
  by_cases d:bJ (eH free ends) m c=0
  ·rw [wU d (b c),d]
  exact wT d
 rw [i]
 exact uT a hm (.inr b)
theorem QD (gb pb Zr:Nat)(t:T)(x y:Int)(onto:Bool)(w:World)(h:RG w gb pb Zr t)(h1:-1000<=x)(h2:x<=1000)(h3:-1000<=y)(h4:y<=1000) :
  Cs 212 #[.pointer (so gb),.int .i64 x,.int .i64 y,.bool onto] w fun e w'=>∃ F:Cl->Nat,FarX (cH t.us t.bd) (dV x y onto) F/\(∀ c,F c<=146)/\e=.returned (.agg (iX F).toArray)/\Fr [] w w':=by
 obtain ⟨free,Q⟩:∃ f,f=cH t.us t.bd:=⟨_,rfl⟩
 have K:∀ c:Cl,free c=true->aD c.1 c.2=true:=by rw [Q];exact vP
 have bv:Hi (∀ (z v:Int) (W:World),RG W gb pb Zr t->Cs 184 #[.pointer (so gb),.int .i64 z,.int .i64 v] W fun e w'=>e=.returned (.bool (free (z,v)))/\Fr [] W w'):=fun z v W hW=>by rw [Q];exact rX gb pb Zr t z v W hW
 rw [<- Q]
 obtain ⟨P,hP⟩:∃ P,P=eH free (dV x y onto):=⟨_,rfl⟩
 have cn:Hi (∀ m,0 < m->¬ kU (bC free P m 144 []) (m+1)->FarX free (dV x y onto) (bC free P m 144 [])):=fun m hm cj=>by rw [hP] at cj |-;exact LD K hm cj
 have cm:Hi (FarX free (dV x y onto) (bC free P 145 0 [])):=by
  show FarX _ _ _
  have he:bC free P 145 0 []=bJ P 145:=funext fun c=>mK 145 c
  rw [he,hP]
  exact uT K (by omega) (.inl rfl)
 have HS:Hi (∀ k c,P (k+1) c↔free c=true/\∃ q,P k q/\c∈aG q.1 q.2):=by rw [hP];exact fun k c=>sO K
 have HW:Hi (∀ k c,P k c->aD c.1 c.2=true):=by rw [hP];exact fun k c h=>K c h.1
 have H1:Hi (∀ c:Cl,aD c.1 c.2=true->bC free P 1 0 [] c=fV free (dV x y onto) 144 c):=by rw [hP];exact GR free (dV x y onto)
 have bu:=aA K
 clear Q hP K
 have dc:=h.lt
 have de:pb < w.heap.size:=h.row.lt
 go_enter Tryz.func212,Tryz.ntmps212
 go_wp2_with fail
 obtain ⟨W0,aj⟩:∃ W,W=(w.alloc (.cells Tryz.zeroCells87 87)).alloc (.cells Tryz.zeroCells87 87):=⟨_,rfl⟩
 rw [<- aj]
 have bo:Fr [] w W0:=by rw [aj];exact ((r0 _ _).alloc _).alloc _
 have be:W0.heap[w.heap.size]?=some (.cells Tryz.zeroCells87 87):=by rw [aj];exact dD _ _ _
 have au:W0.heap[w.heap.size+1]?=some (.cells Tryz.zeroCells87 87):=by rw [aj];exact cR _ _ _
 obtain ⟨A,al⟩:∃ d,d=w.heap.size+1:=⟨_,rfl⟩
 rw [<- al] at au |-
 have cd:DAt W0 A (fV free (dV x y onto) 0):=by
  refine ⟨fun j hj=>?_,fun j=>bI au⟩
  rw [aB au,VF]
  unfold fV
  rw [if_neg (by omega)]
  simp [hj]
 have co:=(show Hi _ from h.fr0 bo)
 have n1:gb≠A:=by omega
 have n2:pb≠A:=by omega
 have n3:w.heap.size≠A:=by omega
 have bx:Hi (∀ W,Fr [A] W0 W->RG W gb pb Zr t):=fun W hf=>co.o.fr hf (by simpa using n1) (by simpa using n2)
 have bw:=aA be
 have bb:Hi (∀ W,Fr [A] W0 W->Fr [] w W):=fun W hf=>bo.trans hf (by simp;omega)
 have cy:=aA al
 clear aj be au bo h al
 go_loopw [10] (fun i wr=>∃ r:Nat,r<=12/\i=.int .i64 r/\Fr [A] W0 wr/\DAt wr A (fV free (dV x y onto) (r*12))) (fun i _=>12 - (intOf i).toNat)
 case atStart=>exact ⟨0,by omega,rfl,r0 _ _,by rw [Nat.zero_mul];exact cd⟩
 obtain ⟨r,hr,rfl,H,C⟩:=hrel
 clear cd
 by_cases ap:r < 12
 ·have aa:(r:Int) < 12:=by omega
  go_wp2_with fail
  go_loopw [11] (fun i wr=>∃ c:Nat,c<=12/\i=.int .i64 c/\Fr [A] W0 wr/\DAt wr A (fV free (dV x y onto) (r*12+c))) (fun i _=>12 - (intOf i).toNat)
  case atStart=>exact ⟨0,by omega,rfl,H,C⟩
  obtain ⟨c,hc,rfl,O,E⟩:=hrel
  clear H C
  by_cases u:c < 12
  ·have X:(c:Int) < 12:=by omega
   go_wp2_with fail
   refine Calls.mono (bv.o c r _ (bx.o _ O)) ?_
   rintro e w1 ⟨rfl,bj⟩
   go_wp2_with fail
   refine Calls.mono (oU c r x y _ (by omega) (by omega) (by omega) (by omega) h1 h2 h3 h4) ?_
   rintro e w2 ⟨rfl,rfl⟩
   have J:=O.then0 bj
   have V:=E.fr bj (by simp)
   clear bj E O
   have Y:aD (c:Int) (r:Int)=true:=bM.2 ⟨by omega,by omega,by omega,by omega⟩
   have l:=V.at (c:=((c:Int),(r:Int))) Y
   dsimp only at l
   rw [kV] at l
   have ct:=V.fz (r*12+c)
   have HN:Hi (∀ q:Cl,aD q.1 q.2=true->fV free (dV x y onto) (r*12+c+1) q=if q=((c:Int),(r:Int)) then (if (free ((c:Int),(r:Int))&&dV x y onto ((c:Int),(r:Int)))=true then 1 else 0) else fV free (dV x y onto) (r*12+c) q):=fun q hq=>GU (q:=((c:Int),(r:Int))) Y (kV c r) q hq
   have ad:Hi ((free ((c:Int),(r:Int))&&dV x y onto ((c:Int),(r:Int)))=false->DAt w1 A (fV free (dV x y onto) (r*12+(c+1)))):=fun he=>by
    refine V.same (fun q hq=>?_)
    rw [show r*12+(c+1)=r*12+c+1 by omega,HN.o q hq]
    by_cases e:q=((c:Int),(r:Int))
    ·rw [if_pos e,he,if_neg (by simp),e]
     unfold fV
     rw [if_neg]
     rintro ⟨_,D⟩
     rw [he] at D
     cases D
    rw [if_neg e]
   have ac:Hi ((free ((c:Int),(r:Int))&&dV x y onto ((c:Int),(r:Int)))=true->DAt (w1.setCell ⟨A,r*12+c,none⟩ (.int .i64 1)) A (fV free (dV x y onto) (r*12+(c+1)))):=fun he=>by
    have:=V.set ((c:Int),(r:Int)) Y 1 (G:=fV free (dV x y onto) (r*12+(c+1))) (fun q hq=>by
     rw [show r*12+(c+1)=r*12+c+1 by omega,HN.o q hq,he,if_pos rfl])
    dsimp only at this
    rw [kV] at this
    exact this
   have HE:Hi (dV x y onto ((c:Int),(r:Int))=if onto then ((c:Int)==x&&(r:Int)==y) else aY c r x y):=rfl
   obtain ⟨f,hf⟩:∃ f,free ((c:Int),(r:Int))=f:=⟨_,rfl⟩
   obtain ⟨nr,bn⟩:∃ f,aY (c:Int) r x y=f:=⟨_,rfl⟩
   obtain ⟨e1,cr⟩:∃ f,((c:Int)==x)=f:=⟨_,rfl⟩
   obtain ⟨e2,cs⟩:∃ f,((r:Int)==y)=f:=⟨_,rfl⟩
   rw [hf] at ad ac |-
   rw [bn,cr,cs] at HE
   rw [bn]
   rw [HE.o] at ad ac
   clear HE HN hf bn V
   cases f
   ·go_wp2_with fail
    go_roundw
    case rel=>exact ⟨c+1,u,by go_num,J,ad.o rfl⟩
    case measure=>simp [intOf];omega
   cases onto
   ·cases nr
    ·go_wp2_with fail
     go_roundw
     case rel=>exact ⟨c+1,u,by go_num,J,ad.o rfl⟩
     case measure=>simp [intOf];omega
    go_wp2_with fail
    go_roundw
    case rel=>exact ⟨c+1,u,by go_num,J.setCell _ _ (.inl (by simp)),ac.o rfl⟩
    case measure=>simp [intOf];omega
   cases e1
   ·go_wp2_with fail
    go_roundw
    case rel=>exact ⟨c+1,u,by go_num,J,ad.o rfl⟩
    case measure=>simp [intOf];omega
   cases e2
   ·go_wp2_with fail
    go_roundw
    case rel=>exact ⟨c+1,u,by go_num,J,ad.o rfl⟩
    case measure=>simp [intOf];omega
   go_wp2_with fail
   go_roundw
   case rel=>exact ⟨c+1,u,by go_num,J.setCell _ _ (.inl (by simp)),ac.o rfl⟩
   case measure=>simp [intOf];omega
  have X:¬ (c:Int) < 12:=by omega
  have HC:Hi (DAt wr A (fV free (dV x y onto) ((r+1)*12))):=by
   have:(r+1)*12=r*12+c:=by omega
   show DAt _ _ _
   rw [this]
   exact E
  clear E
  go_wp2_with fail
  go_roundw
  case rel=>exact ⟨r+1,ap,by go_num,O,HC.o⟩
  case measure=>simp [intOf];omega
 have aa:¬ (r:Int) < 12:=by omega
 have bt:Hi (DAt wr A (bC free P 1 0 [])):=by
  have az:r*12=144:=by omega
  rw [az] at C
  exact C.same H1.o
 clear C H1
 go_wp2_with fail
 go_loopw [14] (fun i wr=>∃ m:Nat,0 < m/\m<=145/\i=.int .i64 m/\Fr [A] W0 wr/\DAt wr A (bC free P m 0 [])) (fun i _=>145 - (intOf i).toNat)
 case atStart=>exact ⟨1,by omega,by omega,rfl,H,bt.o⟩
 obtain ⟨m,ay,hm,rfl,aw,an⟩:=hrel
 clear bt H
 by_cases dd:m<=144
 ·have ch:(m:Int)<=144:=by omega
  go_wp2_with fail
  go_loopw [15,16] (fun mo i wr=>∃ (r:Nat) (B:Bool),r<=12/\i=.int .i64 r/\mo=.bool B/\(B=true↔kU (bC free P m (r*12) []) (m+1))/\Fr [A] W0 wr/\DAt wr A (bC free P m (r*12) [])) (fun _ i _=>12 - (intOf i).toNat)
  case atStart=>exact ⟨0,false,by omega,rfl,rfl,⟨fun e=>(by cases e),fun ⟨q,_,e⟩=>absurd e (by
   rw [Nat.zero_mul,mK]
   have:=rE (P:=P) m q
   omega)⟩,aw,by rw [Nat.zero_mul];exact an⟩
  obtain ⟨r,B,df,rfl,rfl,hB,H,C⟩:=hrel
  clear an aw
  by_cases ap:r < 12
  ·have aa:(r:Int) < 12:=by omega
   have bp:=aA hB
   clear hB
   go_wp2_with fail
   go_loopw [15,17] (fun mo i wr=>∃ (c:Nat) (B:Bool),c<=12/\i=.int .i64 c/\mo=.bool B/\(B=true↔kU (bC free P m (r*12+c) []) (m+1))/\Fr [A] W0 wr/\DAt wr A (bC free P m (r*12+c) [])) (fun _ i _=>12 - (intOf i).toNat)
   case atStart=>exact ⟨0,B,by omega,rfl,rfl,bp.o,H,C⟩
   obtain ⟨c,B1,hc,rfl,rfl,bz,O,E⟩:=hrel
   clear H C bp
   have ar:=aA bz
   clear bz
   by_cases u:c < 12
   ·have X:(c:Int) < 12:=by omega
    have Y:aD (c:Int) (r:Int)=true:=bM.2 ⟨by omega,by omega,by omega,by omega⟩
    have l:=E.at (c:=((c:Int),(r:Int))) Y
    dsimp only at l
    rw [kV] at l
    obtain ⟨g,hg⟩:∃ g,bC free P m (r*12+c) [] ((c:Int),(r:Int))=g:=⟨_,rfl⟩
    rw [hg] at l
    have Zq:=(show Hi _ from (LC (free:=free) (P:=P) ay (r*12+c) [] ((c:Int),(r:Int))))
    rw [hg] at Zq
    have bc:Hi (∀ q:Cl,aD q.1 q.2=true->ci q.1 q.2=r*12+c->q=((c:Int),(r:Int))):=fun q hq e=>by
     rw [ER q hq e]
     unfold gT
     apply Prod.ext <;> dsimp only <;> omega
    clear hg
    by_cases cf:g=m
    ·subst cf
     have HQ:=(show Hi _ from Zq.o.1 rfl)
     have ce:DAt wr A (bC free P g (r*12+c) (aR c r 0)):=E
     have cc:B1=true↔kU (bC free P g (r*12+c) (aR c r 0)) (g+1):=ar.o
     have br:=aA cc
     clear Zq E ar cc
     go_wp2_with fail
     go_loopw [15,18] (fun mo i wr=>∃ (k:Nat) (B:Bool),k<=4/\i=.int .i64 k/\mo=.bool B/\(B=true↔kU (bC free P g (r*12+c) (aR c r k)) (g+1))/\Fr [A] W0 wr/\DAt wr A (bC free P g (r*12+c) (aR c r k))) (fun _ i _=>4 - (intOf i).toNat)
     case atStart=>exact ⟨0,B1,by omega,rfl,rfl,br.o,O,ce⟩
     obtain ⟨k,B2,hk,rfl,rfl,cb,av,am⟩:=hrel
     clear O ce br l
     have bf:=aA cb
     clear cb
     by_cases ax:k < 4
     ·have cg:(k:Int) < 4:=by omega
      obtain ⟨s,hs⟩:∃ s,sds[k]?=some s:=⟨_,getElem?_eq_getElem (show k < sds.length from ax)⟩
      have cw:-1<=s.1/\s.1<=1 /\ -1<=s.2/\s.2<=1:=by
       have h5:k=0\/k=1\/k=2\/k=3:=by omega
       rcases h5 with rfl|rfl|rfl|rfl <;> (simp [sds] at hs;subst hs;decide)
      have bg:=(show Hi _ from fun W:World=>oX (c:Int) (r:Int) k s W hs (by omega) (by omega) (by omega) (by omega))
      have L:=(show Hi _ from fun q:Cl=>LF (free:=free) (P:=P) (n:=g) (p:=r*12+c) (c:=(c:Int)) (r:=(r:Int)) hs bu.o q)
      obtain ⟨z,hz⟩:∃ z,(c:Int)+s.1=z:=⟨_,rfl⟩
      obtain ⟨v,hv⟩:∃ z,(r:Int)+s.2=z:=⟨_,rfl⟩
      rw [hz,hv] at bg L
      have dg:-1<=z/\z<=12 /\ -1<=v/\v<=12:=by omega
      clear hz hv hs cw
      go_wp2_with fail
      refine Calls.mono (bg.o _) ?_
      rintro e w1 ⟨rfl,rfl⟩
      go_wp2_with fail
      refine Calls.mono (bv.o z v _ (bx.o _ av)) ?_
      rintro e w2 ⟨rfl,bk⟩
      have ao:=av.then0 bk
      have I:=am.fr bk (by simp)
      clear av am bk bg
      obtain ⟨f,hf⟩:∃ f,free (z,v)=f:=⟨_,rfl⟩
      rw [hf] at L |-
      cases f
      ·have HE:Hi (∀ q:Cl,bC free P g (r*12+c) (aR c r (k+1)) q=bC free P g (r*12+c) (aR c r k) q):=fun q=>by rw [L.o q,if_neg (by rintro ⟨_,D,_⟩;cases D)]
       clear L hf
       go_wp2_with fail
       go_roundw
       case rel=>exact ⟨k+1,B2,ax,by go_num,rfl,bf.o.trans ⟨fun ⟨q,D,N⟩=>⟨q,D,by rw [HE.o];exact N⟩,fun ⟨q,D,N⟩=>⟨q,D,by rw [HE.o] at N;exact N⟩⟩,ao,I.same (fun q _=>HE.o q)⟩
       case measure=>simp [intOf];omega
      have ba:aD z v=true:=bu.o (z,v) hf
      obtain ⟨p0,p1,p2,p3⟩:=bM.1 ba
      have bi:=I.at (c:=(z,v)) ba
      have ak:ci z v=v.toNat*12+z.toNat:=by unfold ci;omega
      dsimp only at bi
      rw [ak] at bi
      have ct:=I.fz (v.toNat*12+z.toNat)
      have Zs:=aA ba
      have ck:=aA ak
      obtain ⟨g2,bm⟩:∃ g2,bC free P g (r*12+c) (aR c r k) (z,v)=g2:=⟨_,rfl⟩
      rw [bm] at bi L
      have cz:=aA bm
      clear bm ba ak hf
      by_cases bl:g2=0
      ·subst bl
       have HE:Hi (∀ q:Cl,bC free P g (r*12+c) (aR c r (k+1)) q=if q=(z,v) then g+1 else bC free P g (r*12+c) (aR c r k) q):=fun q=>by
        rw [L.o q]
        by_cases e:q=(z,v)
        ·rw [if_pos ⟨e,rfl,rfl⟩,if_pos e]
        rw [if_neg (fun D=>e D.1),if_neg e]
       have cq:Hi (DAt (w2.setCell ⟨A,v.toNat*12+z.toNat,none⟩ (.int .i64 ((g:Int)+1))) A (bC free P g (r*12+c) (aR c r (k+1)))):=by
        have:=I.set (z,v) Zs.o (g+1) (G:=bC free P g (r*12+c) (aR c r (k+1))) (fun q _=>HE.o q)
        dsimp only at this
        rw [ck.o] at this
        exact this
       clear L I
       go_wp2_with fail
       go_roundw
       case rel=>exact ⟨k+1,true,ax,by go_num,rfl,⟨fun _=>⟨(z,v),Zs.o,by rw [HE.o,if_pos rfl]⟩,fun _=>rfl⟩,ao.setCell _ _ (.inl (by simp)),cq.o⟩
       case measure=>simp [intOf];omega
      have cx:((g2:Int)==0)=false:=by simpa using bl
      have HE:Hi (∀ q:Cl,bC free P g (r*12+c) (aR c r (k+1)) q=bC free P g (r*12+c) (aR c r k) q):=fun q=>by rw [L.o q,if_neg (fun D=>bl D.2.2)]
      clear L
      go_wp2_with fail
      go_roundw
      case rel=>exact ⟨k+1,B2,ax,by go_num,rfl,bf.o.trans ⟨fun ⟨q,D,N⟩=>⟨q,D,by rw [HE.o];exact N⟩,fun ⟨q,D,N⟩=>⟨q,D,by rw [HE.o] at N;exact N⟩⟩,ao,I.same (fun q _=>HE.o q)⟩
      case measure=>simp [intOf];omega
     have cg:¬ (k:Int) < 4:=by omega
     have cp:Hi (k=4):=by show _=_;omega
     have M:Hi (∀ q:Cl,bC free P g (r*12+(c+1)) [] q=bC free P g (r*12+c) (aR c r k) q):=fun q=>by
      rw [cp.o,oH]
      exact wW (q:=((c:Int),(r:Int))) Y (kV c r) bc.o (.inl ⟨HQ.o,rfl⟩) q
     go_wp2_with fail
     go_roundw
     case rel=>exact ⟨c+1,B2,u,by go_num,rfl,bf.o.trans ⟨fun ⟨q,D,N⟩=>⟨q,D,by rw [M.o];exact N⟩,fun ⟨q,D,N⟩=>⟨q,D,by rw [M.o] at N;exact N⟩⟩,av,am.same (fun q _=>M.o q)⟩
     case measure=>simp [intOf];omega
    have da:((g:Int)==(m:Int))=false:=by simp;omega
    have M:Hi (∀ q:Cl,bC free P m (r*12+(c+1)) [] q=bC free P m (r*12+c) [] q):=fun q=>wW (q:=((c:Int),(r:Int))) Y (kV c r) bc.o (.inr ⟨fun e=>cf (Zq.o.2 e),rfl⟩) q
    go_wp2_with fail
    go_roundw
    case rel=>exact ⟨c+1,B1,u,by go_num,rfl,ar.o.trans ⟨fun ⟨q,D,N⟩=>⟨q,D,by rw [M.o];exact N⟩,fun ⟨q,D,N⟩=>⟨q,D,by rw [M.o] at N;exact N⟩⟩,O,E.same (fun q _=>M.o q)⟩
    case measure=>simp [intOf];omega
   have X:¬ (c:Int) < 12:=by omega
   have bs:Hi (r*12+c=(r+1)*12):=by show _=_;omega
   go_wp2_with fail
   go_roundw
   case rel=>exact ⟨r+1,B1,ap,by go_num,rfl,by rw [<- bs.o];exact ar.o,O,by rw [<- bs.o];exact E⟩
   case measure=>simp [intOf];omega
  have aa:¬ (r:Int) < 12:=by omega
  have az:r*12=144:=by omega
  rw [az] at hB C
  have bq:=aA hB
  clear az hB
  cases B
  ·have ae:=(show Hi _ from cn.o m ay (fun D=>by have:=bq.o.2 D;cases this))
   have ah:Hi (∀ q,bC free P m 144 [] q<=146):=fun q=>by
    rw [oF HS.o HW.o ay]
    have:=rE (P:=P) (m+1) q
    omega
   obtain ⟨F,hF⟩:∃ F,F=bC free P m 144 []:=⟨_,rfl⟩
   rw [<- hF] at C ae ah
   have aq:=C.range
   have HT:=(show Hi _ from pG F)
   have ai:=(show Hi _ from sK F)
   obtain ⟨R,ab⟩:∃ R,R=iX F:=⟨_,rfl⟩
   rw [<- ab] at aq HT ai
   have bh:=aA ab
   have af:Hi ((Tryz.prog.info? 87).map (·.size)=some R.length):=by show _=_;rw [HT.o];exact rA
   have ag:Hi ((Tryz.prog.info? 87).map (·.size)=some R.toArray.size):=by show _=_;rw [size_toArray];exact af.o
   have HZ:Hi (Tryz.zeroCells87.size=R.toArray.size):=by
    have e:R.toArray.size=144:=by rw [size_toArray,HT.o]
    show _=_
    rw [e]
    rfl
   have S:=(show Hi _ from H.heap bw.o (by simpa using n3))
   clear hF ab bq C
   go_wp2_with (first
    | (refine wpList_load_mid rfl 87 _ rfl A 0 rfl R _ aq Tryz.underlying87 rfl af.o ?_)
    | (refine wpList_store_row rfl 87 _ _ rfl w.heap.size R.toArray rfl rfl 87 Tryz.zeroCells87 S.o ag.o HZ.o ai.o ?_))
   exact bodyPost_ret (v:=.agg R.toArray) (results_cell_row Tryz.results212 _ _ w.heap.size 87 _ (0,0) _ rfl (setRow_heap _ _ _ _ _ _ S.o) Tryz.underlying87 rfl ag.o) rfl ⟨F,ae.o,fun a b=>ah.o (a,b),by rw [bh.o],(bb.o _ H).setRow _ _ (.inr (Nat.le_refl _))⟩
  have M:Hi (∀ q:Cl,aD q.1 q.2=true->bC free P (m+1) 0 [] q=bC free P m 144 [] q):=fun q _=>by rw [mK,oF HS.o HW.o ay]
  go_wp2_with fail
  go_roundw
  case rel=>exact ⟨m+1,by omega,by omega,by go_num,H,C.same M.o⟩
  case measure=>simp [intOf];omega
 have ch:¬ (m:Int)<=144:=by omega
 have cu:m=145:=by omega
 have ae:Hi (FarX free (dV x y onto) (bC free P m 0 [])):=by rw [cu];exact cm.o
 have ah:Hi (∀ q,bC free P m 0 [] q<=146):=fun q=>by
  rw [mK]
  have:=rE (P:=P) m q
  omega
 obtain ⟨F,hF⟩:∃ F,F=bC free P m 0 []:=⟨_,rfl⟩
 rw [<- hF] at an ae ah
 have aq:=an.range
 have HT:=(show Hi _ from pG F)
 have ai:=(show Hi _ from sK F)
 obtain ⟨R,ab⟩:∃ R,R=iX F:=⟨_,rfl⟩
 rw [<- ab] at aq HT ai
 have bh:=aA ab
 have af:Hi ((Tryz.prog.info? 87).map (·.size)=some R.length):=by show _=_;rw [HT.o];exact rA
 have ag:Hi ((Tryz.prog.info? 87).map (·.size)=some R.toArray.size):=by show _=_;rw [size_toArray];exact af.o
 have HZ:Hi (Tryz.zeroCells87.size=R.toArray.size):=by
  have e:R.toArray.size=144:=by rw [size_toArray,HT.o]
  show _=_
  rw [e]
  rfl
 have S:=(show Hi _ from aw.heap bw.o (by simpa using n3))
 clear hF ab an
 go_wp2_with (first
  | (refine wpList_load_mid rfl 87 _ rfl A 0 rfl R _ aq Tryz.underlying87 rfl af.o ?_)
  | (refine wpList_store_row rfl 87 _ _ rfl w.heap.size R.toArray rfl rfl 87 Tryz.zeroCells87 S.o ag.o HZ.o ai.o ?_))
 exact bodyPost_ret (v:=.agg R.toArray) (results_cell_row Tryz.results212 _ _ w.heap.size 87 _ (0,0) _ rfl (setRow_heap _ _ _ _ _ _ S.o) Tryz.underlying87 rfl ag.o) rfl ⟨F,ae.o,fun a b=>ah.o (a,b),by rw [bh.o],(bb.o _ aw).setRow _ _ (.inr (Nat.le_refl _))⟩
theorem vG:∀ (us:List U) (i j:Nat) (u u':U) (v:Value),us[i]?=some u->j < 11->u'.cells=u.cells.set j v->(us.flatMap U.cells).set (i*11+j) v=(us.set i u').flatMap U.cells
 | [],i,_,_,_,_,h,_,_=>by simp at h
 | a :: l,0,j,u,u',v,h,c,b=>by
  have:a=u:=by simpa using h
  subst this
  rw [set_cons_zero,flatMap_cons,flatMap_cons,b,Nat.zero_mul,Nat.zero_add,set_append_left _ _ (by simpa using c)]
 | a :: l,i+1,j,u,u',v,h,c,b=>by
  have d:=vG l i j u u' v (by simpa using h) c b
  rw [set_cons_succ,flatMap_cons,flatMap_cons,<- d,set_append_right _ _ (by simp;omega)]
  congr 2
  simp
  omega
theorem PRow.setC {w:World}{b a:Nat}{us:List U}(h:PRow w b a us){i j:Nat}{u u':U}{v:Value}(hi:us[i]?=some u)(f:j < 11)(e:u'.cells=u.cells.set j v):PRow (w.setCell ⟨b,i*11+j,none⟩ v) b a (us.set i u'):=by
 obtain ⟨cur,h1,c,d⟩:=h.h
 refine ⟨⟨cur.setIfInBounds (i*11+j) v,iN h1 v,by simpa using c,?_⟩,by rw [length_set];exact h.le,h.cap⟩
 rw [length_set,Array.toList_setIfInBounds,take_set,d,vG us i j u u' v hi f e]
theorem RG.setC {w:World}{c b a:Nat}{t:T}(h:RG w c b a t){i j:Nat}{u u':U}{v:Value}(hi:t.us[i]?=some u)(f:j < 11)(d:u'.cells=u.cells.set j v):RG (w.setCell ⟨b,i*11+j,none⟩ v) c b a { t with us:=t.us.set i u' }:=by
 refine ⟨fun k g=>?_,fun k=>by rw [World.frozen?_setCell];exact h.fz k,h.row.setC hi f d,by simpa using h.len,h.ne⟩
 rw [cA _ _ _ _ _ _ (.inl (fun e=>h.ne e.symm)),h.cell k g]
 show _=some (dF { t with us:=t.us.set i u' } (.slice (so b) (t.us.set i u').length a) k)
 rw [length_set]
 rfl
theorem RG.frz {w:World}{c b a:Nat}{t:T}(h:RG w c b a t)(k:Nat):w.frozen? ⟨b,k,none⟩=false:=by
 obtain ⟨cur,h1,_⟩:=h.row.h
 exact bI h1
theorem RG.pl {w:World}{c b a:Nat}{t:T}(h:RG w c b a t):b < w.heap.size:=by
 obtain ⟨cur,h1,_⟩:=h.row.h
 exact aH h1
theorem aV {us:List U}{i:Nat}{u u':U}(hi:us[i]?=some u):(us.set i u')[i]?=some u':=by
  rw [getElem?_set_self (gs.1 hi).1]
theorem RG.idle {w:World}{c a b:Nat}{t:T}(h:RG w c a b t){i:Nat}{u:U}(hi:t.us[i]?=some u):RG ((((w.setCell ⟨a,i*11+7,none⟩ (ii 0)).setCell ⟨a,i*11+8,none⟩ (ii 0)).setCell ⟨a,i*11+9,none⟩ (ii 0)).setCell ⟨a,i*11+10,none⟩ (ii 0)) c a b { t with us:=t.us.set i u.idle }:=by
 have h1:=h.setC (u':={ u with what:=0 }) (v:=ii 0) hi (j:=7) (by omega) rfl
 have e:=h1.setC (u':={ u with what:=0,tox:=0 }) (v:=ii 0) (i:=i) (aV hi) (j:=8) (by omega) rfl
 have f:=e.setC (u':={ u with what:=0,tox:=0,toy:=0 }) (v:=ii 0) (i:=i) (aV (aV hi)) (j:=9) (by omega) rfl
 have d:=f.setC (u':=u.idle) (v:=ii 0) (i:=i) (aV (aV (aV hi))) (j:=10) (by omega) rfl
 simp only [set_set] at d
 exact d
theorem mV (j f g:Nat)(t:T)(i:Nat)(u:U)(w:World)(h:RG w j f g t)(hi:t.us[i]?=some u) :
  Cs 179 #[.pointer (so j),.int .i64 i] w fun e d=>e=.returned (.tuple #[])/\RG d j f g { t with us:=t.us.set i u.idle }/\Fr [f] w d:=by
 have n:=h.len
 have y:=(gs.1 hi).1
 have m:(i:Int) < (t.us.length:Int):=by omega
 have F:=h.c148
 have l:=h.ne
 have D:=h.frz (i*11+7)
 have E:=h.frz (i*11+8)
 have f9:=h.frz (i*11+9)
 have x:=h.frz (i*11+10)
 obtain ⟨_,_,_,_,_,_,_,z,A,B,s⟩:=h.gv.p.at hi
 have q:¬ f=j:=fun e=>l e.symm
 obtain ⟨P,k⟩:∃ P:World->Prop,P=fun d=>RG d j f g { t with us:=t.us.set i u.idle }:=⟨_,rfl⟩
 have r:Hi (P ((((w.setCell ⟨f,i*11+7,none⟩ (ii 0)).setCell ⟨f,i*11+8,none⟩ (ii 0)).setCell ⟨f,i*11+9,none⟩ (ii 0)).setCell ⟨f,i*11+10,none⟩ (ii 0))):=by rw [k];exact h.idle hi
 have e:∀ d,P d↔RG d j f g { t with us:=t.us.set i u.idle }:=fun d=>by rw [k]
 refine Calls.mono (R:=fun e d=>e=.returned (.tuple #[])/\P d/\Fr [f] w d) ?_ (fun C d ⟨a,b,c⟩=>⟨a,(e d).1 b,c⟩)
 clear hi h e k
 go_enter Tryz.func179,Tryz.ntmps179
 go_wp2_with fail
 exact bodyPost_end (v:=.tuple #[]) (results_none rfl _ _ _) rfl ⟨rfl,r.o,((((r0 _ _).setCell _ _ (.inl (by simp))).setCell _ _ (.inl (by simp))).setCell _ _ (.inl (by simp))).setCell _ _ (.inl (by simp))⟩
theorem rT (d:Cl->Nat)(n:Cl):∀ (l:List Cl) (s:Nat×Cl),dJ d (l ++ [n]) s=if 0 < d n/\((dJ d l s).1=0\/d n < (dJ d l s).1) then (d n,n) else dJ d l s
 | [],(b,r)=>rfl
 | a :: l,(b,r)=>by
  rw [cons_append]
  unfold dJ
  split
  ·exact rT d n l _
  exact rT d n l _
theorem RG.to {w:World}{d b a:Nat}{t:T}{i:Nat}{u:U}{c:Cl}(h:RG w d b a { t with us:=t.us.set i (u.to c) })(hi:t.us[i]?=some u)(z v:Int):RG ((w.setCell ⟨b,i*11+3,none⟩ (ii z)).setCell ⟨b,i*11+4,none⟩ (ii v)) d b a { t with us:=t.us.set i (u.to (z,v)) }:=by
 have h1:=h.setC (u':={ u.to c with x:=z }) (v:=ii z) (i:=i) (aV hi) (j:=3) (by omega) rfl
 have e:=h1.setC (u':=u.to (z,v)) (v:=ii v) (i:=i) (aV (aV hi)) (j:=4) (by omega) rfl
 simp only [set_set] at e
 exact e
theorem mW (S C A:Nat)(t:T)(i:Nat)(u:U)(x y:Int)(onto:Bool)(w:World)(h:RG w S C A t)(hi:t.us[i]?=some u)(bi:aD u.x u.y=true)(h1:-1000<=x)(h2:x<=1000)(h3:-1000<=y)(h4:y<=1000) :
  Cs 180 #[.pointer (so S),.int .i64 i,.int .i64 x,.int .i64 y,.bool onto] w fun e w'=>e=.returned (.tuple #[])/\∃ F:Cl->Nat,FarX (cH t.us t.bd) (dV x y onto) F/\RG w' S C A { t with us:=t.us.set i (u.to (dJ F (aG u.x u.y) (0,(u.x,u.y))).2) }/\Fr [C] w w':=by
 have bl:=h.len
 have bq:=(gs.1 hi).1
 have bk:(i:Int) < (t.us.length:Int):=by omega
 obtain ⟨p0,p1,p2,p3⟩:=bM.1 bi
 go_enter Tryz.func180,Tryz.ntmps180
 go_wp2_with fail
 refine Calls.mono (QD S C A t x y onto _ h h1 h2 h3 h4) ?_
 rintro e X ⟨F,hX,Zr,rfl,ab⟩
 have HX:=aA hX
 have ak:=(show Hi _ from sK F)
 have HT:=(show Hi _ from pG F)
 obtain ⟨O,ae⟩:∃ O,O=iX F:=⟨_,rfl⟩
 rw [<- ae] at HT ak |-
 have ba:=aA ae
 have ax:Hi ((Tryz.prog.info? 87).map (·.size)=some O.toArray.size):=by show _=_;rw [size_toArray,HT.o];exact rA
 have HZ:Hi (Tryz.zeroCells87.size=O.toArray.size):=by
  have e:O.toArray.size=144:=by rw [size_toArray,HT.o]
  show _=_
  rw [e]
  rfl
 obtain ⟨W2,H⟩:∃ W,W=(X.alloc (.cells Tryz.zeroCells87 87)).setRow X.heap.size O.toArray:=⟨_,rfl⟩
 have ap:Fr [] w W2:=by rw [H];exact (ab.alloc _).setRow _ _ (.inr ab.size)
 have aa:W2.heap[X.heap.size]?=some (.cells O.toArray 87):=by rw [H];exact setRow_heap _ _ _ _ _ _ (aC X _)
 have N:W2.heap.size=X.heap.size+1:=by rw [H];simp [World.setRow]
 have ad:=h.fr0 ap
 have bc:=ad.c148
 obtain ⟨c0,c1,c2,c3,c4,c5,c6,c7,c8,c9,bb⟩:=ad.gv.p.at hi
 have al:=aA H
 have ai:=aA N
 clear hX ae H N
 go_wp2_with (refine wpList_store_row rfl 87 _ _ rfl X.heap.size O.toArray rfl rfl 87 Tryz.zeroCells87 (aC X _) ax.o HZ.o ak.o ?_;rw [<- al.o])
 obtain ⟨R,I⟩:∃ W,W=W2.alloc (.cells u.arr 85):=⟨_,rfl⟩
 rw [<- I]
 obtain ⟨db,ao⟩:∃ d,d=X.heap.size:=⟨_,rfl⟩
 obtain ⟨ub,r⟩:∃ d,d=W2.heap.size:=⟨_,rfl⟩
 rw [<- ao] at aa |-
 rw [<- r]
 have N:=ai.o
 have bp:=h.lt
 have br:=h.pl
 have bs:=ab.size
 have n1:db≠C:=by omega
 have n2:ub≠C:=by omega
 have aq:Fr [] w R:=by rw [I];exact ap.alloc _
 have aw:R.heap[ub]?=some (.cells u.arr 85):=by rw [I,r];exact aC _ _
 have an:R.heap[db]?=some (.cells O.toArray 87):=by rw [I,fD _ _ _ (by omega)];exact aa
 have HD:Hi (∀ W,Fr [C] R W->DAt W db F):=fun W hf=>by
  have h5:=hf.heap an (by simpa using n1)
  refine ⟨fun j hj=>?_,fun j=>bI h5⟩
  rw [aB h5,ba.o]
  simp [iX,hj]
 have HU:Hi (∀ W,Fr [C] R W->W.heap[ub]?=some (.cells u.arr 85)):=fun W hf=>hf.heap aw (by simpa using n2)
 have af:Hi (RG R S C A { t with us:=t.us.set i (u.to (dJ F (aR u.x u.y 0) (0,(u.x,u.y))).2) }):=by
  have h5:=h.fr0 aq
  have e:t.us.set i (u.to (u.x,u.y))=t.us:=sC t.us i u hi
  show RG R S C A { t with us:=t.us.set i (u.to (u.x,u.y)) }
  rw [e]
  exact h5
 have HI:=aA hi
 have ay:=aA Zr
 clear I aw an aa al c0 c1 c2 c3 c4 c5 c6 c7 c8 c9 bb bc ad N ai h hi ao r Zr
 go_loopw [12,13] (fun b k wr=>∃ n:Nat,n<=4/\k=.int .i64 n/\b=.int .i64 ((dJ F (aR u.x u.y n) (0,(u.x,u.y))).1:Nat)/\Fr [C] R wr/\RG wr S C A { t with us:=t.us.set i (u.to (dJ F (aR u.x u.y n) (0,(u.x,u.y))).2) }) (fun _ k _=>4 - (intOf k).toNat)
 case atStart=>exact ⟨0,by omega,rfl,rfl,r0 _ _,af.o⟩
 obtain ⟨n,hn,rfl,rfl,a,m⟩:=hrel
 have f:=aA m
 have am:=m.c148
 have e5:(t.us.set i (u.to (dJ F (aR u.x u.y n) (0,(u.x,u.y))).2)).length=t.us.length:=length_set
 dsimp only at am
 rw [e5] at am
 have bn:=m.frz (i*11+3)
 have bo:=m.frz (i*11+4)
 obtain ⟨_,_,_,c3,c4,_,_,_,_,_,_⟩:=m.gv.p.at (aV HI.o)
 have bh:=m.ne
 clear m af
 by_cases B:n < 4
 ·have av:(n:Int) < 4:=by omega
  obtain ⟨s,hs⟩:∃ s,sds[n]?=some s:=⟨_,getElem?_eq_getElem (show n < sds.length from B)⟩
  have bj:-1<=s.1/\s.1<=1 /\ -1<=s.2/\s.2<=1:=by
   have h5:n=0\/n=1\/n=2\/n=3:=by omega
   rcases h5 with rfl|rfl|rfl|rfl <;> (simp [sds] at hs;subst hs;decide)
  have aj:=(show Hi _ from fun W:World=>oX u.x u.y n s W hs (by omega) (by omega) (by omega) (by omega))
  have Q:Hi (aD (u.x+s.1) (u.y+s.2)=true->aR u.x u.y (n+1)=aR u.x u.y n ++ [(u.x+s.1,u.y+s.2)]):=fun ho=>jW u.x u.y n s hs ho
  have ag:Hi (aD (u.x+s.1) (u.y+s.2)=false->aR u.x u.y (n+1)=aR u.x u.y n):=fun ho=>jV u.x u.y n s hs ho
  obtain ⟨z,hz⟩:∃ z,u.x+s.1=z:=⟨_,rfl⟩
  obtain ⟨v,hv⟩:∃ z,u.y+s.2=z:=⟨_,rfl⟩
  rw [hz,hv] at aj Q ag
  have bt:-1<=z/\z<=12 /\ -1<=v/\v<=12:=by omega
  have r:=HU.o _ a
  have ux:ca wr ub 3 (ii u.x):=aB r
  have uy:ca wr ub 4 (ii u.y):=aB r
  obtain ⟨l,hl⟩:∃ l,dJ F (aR u.x u.y n) (0,(u.x,u.y))=l:=⟨_,rfl⟩
  have ah:Hi (∀ q:Cl,dJ F (aR u.x u.y n ++ [q]) (0,(u.x,u.y))=if 0 < F q/\(l.1=0\/F q < l.1) then (F q,q) else l):=fun q=>by rw [rT,hl]
  have HL:=aA hl
  rw [hl] at f c3 c4 |-
  have bm:¬ C=S:=fun e=>bh e.symm
  clear hz hv hs bj r hl e5
  go_wp2_with fail
  refine Calls.mono (aj.o _) ?_
  rintro e w4 ⟨rfl,rfl⟩
  go_wp2_with fail
  refine Calls.mono (eF z v _) ?_
  rintro e w5 ⟨rfl,rfl⟩
  obtain ⟨K,M⟩:∃ x,l.1=x:=⟨_,rfl⟩
  rw [M] at ah |-
  cases J:aD z v
  ·have HE:=(show Hi _ from ag.o J)
   go_wp2_with fail
   go_roundw
   case rel=>exact ⟨n+1,B,by go_num,by rw [HE.o,HL.o,M],a,by rw [HE.o,HL.o];exact f.o⟩
   case measure=>simp [intOf];omega
  obtain ⟨q0,q1,q2,q3⟩:=bM.1 J
  have Y:=(HD.o _ a).at (c:=(z,v)) J
  have V:ci z v=v.toNat*12+z.toNat:=by unfold ci;omega
  dsimp only at Y
  rw [V] at Y
  have HE:=(show Hi _ from Q.o J)
  have L:=(show Hi _ from ah.o (z,v))
  have be:=ay.o (z,v)
  obtain ⟨g,hg⟩:∃ g,F (z,v)=g:=⟨_,rfl⟩
  rw [hg] at Y L be
  clear J V hg
  have D:Hi (¬ (0 < g/\(K=0\/g < K))->dJ F (aR u.x u.y (n+1)) (0,(u.x,u.y))=l):=fun hc=>by rw [HE.o,L.o,if_neg hc]
  have P:Hi ((0 < g/\(K=0\/g < K))->dJ F (aR u.x u.y (n+1)) (0,(u.x,u.y))=(g,(z,v))):=fun hc=>by rw [HE.o,L.o,if_pos hc]
  clear HE L
  by_cases ac:0 < g
  ·have ar:0 < (g:Int):=by omega
   by_cases bf:K=0
   ·have E:=(show Hi _ from P.o ⟨ac,.inl bf⟩)
    have Zq:((K:Int)==0)=true:=by simp;omega
    go_wp2_with fail
    go_roundw
    case rel=>exact ⟨n+1,B,by go_num,by rw [E.o],(a.setCell _ _ (.inl (by simp))).setCell _ _ (.inl (by simp)),by rw [E.o];exact RG.to f.o HI.o z v⟩
    case measure=>simp [intOf];omega
   have Zq:((K:Int)==0)=false:=by simp;omega
   by_cases bg:g < K
   ·have E:=(show Hi _ from P.o ⟨ac,.inr bg⟩)
    have au:(g:Int) < (K:Int):=by omega
    go_wp2_with fail
    go_roundw
    case rel=>exact ⟨n+1,B,by go_num,by rw [E.o],(a.setCell _ _ (.inl (by simp))).setCell _ _ (.inl (by simp)),by rw [E.o];exact RG.to f.o HI.o z v⟩
    case measure=>simp [intOf];omega
   have E:=(show Hi _ from D.o (fun hc=>by omega))
   have au:¬ (g:Int) < (K:Int):=by omega
   go_wp2_with fail
   go_roundw
   case rel=>exact ⟨n+1,B,by go_num,by rw [E.o,M],a,by rw [E.o];exact f.o⟩
   case measure=>simp [intOf];omega
  have E:=(show Hi _ from D.o (fun hc=>ac hc.1))
  have ar:¬ 0 < (g:Int):=by omega
  go_wp2_with fail
  go_roundw
  case rel=>exact ⟨n+1,B,by go_num,by rw [E.o,M],a,by rw [E.o];exact f.o⟩
  case measure=>simp [intOf];omega
 have av:¬ (n:Int) < 4:=by omega
 have az:Hi (n=4):=by show _=_;omega
 go_wp2_with fail
 refine bodyPost_end (v:=.tuple #[]) (results_none rfl _ _ _) rfl ⟨rfl,F,HX.o,?_,aq.of0.trans a (by simp)⟩
 have:=f.o
 rw [az.o,oH] at this
 exact this
def eY (t:T)(id:Int):T :=
 match bQ t.us id with
 | none=>t
 | some i=>match t.us[i]? with|none=>t|some u=>dN t u
theorem sZ (t:T)(v:U):fX t v=eY t v.id:=rfl
theorem CQ {t:T}(h:TOk t)(a:bD t.us=false)(id:Int):Good t (·=id) (eY t id):=nJ h a ⟨id,0,0,0,0,0,0,0,0,0,0⟩
theorem CU {t:T}(h:TOk t)(ho:OS t)(a:bD t.us=false)(id:Int):OS (eY t id):=tB h ho a ⟨id,0,0,0,0,0,0,0,0,0,0⟩
def dU (id:Int):List U->Int->Int
 | [],b=>b
 | u :: us,b=>dU id us (if id < u.id/\u.id < b then u.id else b)
theorem pS (id:Int):∀ (us:List U) (b:Int),dU id us b<=b/\(∀ u∈us,id < u.id->dU id us b<=u.id)/\(dU id us b=b\/∃ u∈us,u.id=dU id us b/\id < u.id)
 | [],b=>⟨Int.le_refl _,by simp,.inl rfl⟩
 | u :: us,b=>by
  obtain ⟨h1,d,c⟩:=pS id us (if id < u.id/\u.id < b then u.id else b)
  unfold dU
  by_cases f:id < u.id/\u.id < b
  ·rw [if_pos f] at h1 d c |-
   refine ⟨by omega,fun v a hi=>?_,?_⟩
   ·rcases mem_cons.1 a with rfl|a
    ·exact h1
    exact d v a hi
   rcases c with c|⟨v,a,e⟩
   ·exact .inr ⟨u,by simp,c.symm,f.1⟩
   exact .inr ⟨v,by simp [a],e⟩
  rw [if_neg f] at h1 d c |-
  refine ⟨h1,fun v a hi=>?_,?_⟩
  ·rcases mem_cons.1 a with rfl|a
   ·omega
   exact d v a hi
  rcases c with c|⟨v,a,e⟩
  ·exact .inl c
  exact .inr ⟨v,by simp [a],e⟩
theorem sY (t:T)(a:bD t.us=false)(m:Int):∀ (l:List U),(∀ v∈l,v.id < m->bQ t.us v.id=none)->(l.map U.id).Pairwise (· < ·)->eQ l t=eQ (l.filter fun v=>decide (m<=v.id)) t
 | [],_,_=>rfl
 | v :: l,h,b=>by
  rw [map_cons,pairwise_cons] at b
  by_cases hm:m<=v.id
  ·have e:(v :: l).filter (fun v=>decide (m<=v.id))=v :: l:=by
    rw [filter_eq_self]
    intro x hx
    rcases mem_cons.1 hx with rfl|hx
    ·simpa using hm
    have:=b.1 x.id (mem_map_of_mem hx)
    simp
    omega
   rw [e]
  have hn:=h v (by simp) (by omega)
  rw [filter_cons_of_neg (by simpa using hm),nH,tA hn,if_neg (by rw [a];simp)]
  exact sY t a m l (fun x hx c=>h x (by simp [hx]) c) b.2
structure RH (tf:T) (n0 id:Int) (t:T):Prop where
 ok:TOk t
 os:OS t
 nx:n0<=t.next
 fin:(bD t.us=true/\tf=t)\/(bD t.us=false/\∃ l:List U,(l.map U.id).Pairwise (· < ·)/\(∀ v∈l,id<=v.id/\v.id < n0)/\(∀ u∈t.us,id<=u.id->u.id < n0->u.id∈l.map U.id)/\tf=eQ l t)
theorem RH.first {t:T}(h:TOk t)(ho:OS t)(a:bD t.us=false):RH (eQ t.us t) t.next 1 t :=
  ⟨h,ho,Int.le_refl _,.inr ⟨a,t.us,oZ.1 h.rise,fun v c=>(h.all v c).id,fun _ b _ _=>mem_map_of_mem b,rfl⟩⟩
theorem RH.over {t:T}(h:TOk t)(ho:OS t)(a:bD t.us=true):RH t t.next 1 t:=⟨h,ho,Int.le_refl _,.inl ⟨a,rfl⟩⟩
theorem RH.last {b t:T}{a id:Int}(h:RH b a id t)(aA:a<=id):b=t:=by
 rcases h.fin with ⟨_,h1⟩|⟨_,l,_,c,_,d⟩
 ·exact h1
 have:l=[]:=by
  cases l with
  | nil=>rfl
  | cons v l=>have:=c v (by simp);omega
 subst this
 exact d
def gS (t:T)(id:Int):T:=if bD t.us=true then t else eY t id
theorem RH.next {E t:T}{i id:Int}(h:RH E i id t)(aA:id < i):RH E i (dU id (gS t id).us (gS t id).next) (gS t id)/\id < dU id (gS t id).us (gS t id).next:=by
 have n:∀ k:T,i<=k.next->id < dU id k.us k.next:=fun k hn=>by
  obtain ⟨_,_,r⟩:=pS id k.us k.next
  rcases r with r|⟨u,_,Q,R⟩ <;> omega
 unfold gS
 rcases h.fin with ⟨ho,h1⟩|⟨ho,l,j,l2,q,D⟩
 ·rw [if_pos ho]
  exact ⟨⟨h.ok,h.os,h.nx,.inl ⟨ho,h1⟩⟩,n t h.nx⟩
 rw [if_neg (by rw [ho];simp)]
 have s:=CQ h.ok ho id
 have w:=CU h.ok h.os ho id
 have o:i<=(eY t id).next:=Int.le_trans h.nx s.nx
 refine ⟨⟨s.ok,w,o,?_⟩,n _ o⟩
 by_cases c:bD (eY t id).us=true
 ·
  refine .inl ⟨c,?_⟩
  have a:id∈l.map U.id:=by
   apply Classical.byContradiction
   intro z
   have A:bQ t.us id=none:=oP (fun u d e=>z (by rw [<- e];exact q u d (by omega) (by omega)))
   have e:eY t id=t:=by unfold eY;rw [A]
   rw [e,ho] at c
   cases c
  cases l with
  | nil=>simp at a
  | cons v l =>
   have b:v.id=id:=by
    rw [map_cons,pairwise_cons] at j
    rcases mem_cons.1 a with e|e
    ·exact e.symm
    have:=j.1 id e
    have:=(l2 v (by simp)).1
    omega
   rw [D,nH,sZ,b,if_pos c]
 have p:bD (eY t id).us=false:=by simpa using c
 refine .inr ⟨p,?_⟩
 obtain ⟨N,J,F⟩:=pS id (eY t id).us (eY t id).next
 obtain ⟨g,H,I,L,M⟩:∃ g:List U,(g.map U.id).Pairwise (· < ·)/\(∀ v∈g,id < v.id/\v.id < i)/\(∀ u∈t.us,id < u.id->u.id < i->u.id∈g.map U.id)/\E=eQ g (eY t id):=by
  by_cases a:id∈l.map U.id
  ·cases l with
   | nil=>simp at a
   | cons v l =>
    rw [map_cons,pairwise_cons] at j
    have b:v.id=id:=by
     rcases mem_cons.1 a with e|e
     ·exact e.symm
     have:=j.1 id e
     have:=(l2 v (by simp)).1
     omega
    refine ⟨l,j.2,fun x hx=>⟨by have:=j.1 x.id (mem_map_of_mem hx);omega,(l2 x (by simp [hx])).2⟩,fun u d h1 f=>?_,?_⟩
    ·have:=q u d (by omega) f
     rw [map_cons] at this
     rcases mem_cons.1 this with e|e
     ·omega
     exact e
    rw [D,nH,sZ,b,if_neg c]
  have A:bQ t.us id=none:=oP (fun u d e=>a (by rw [<- e];exact q u d (by omega) (by omega)))
  have e:eY t id=t:=by unfold eY;rw [A]
  refine ⟨l,j,fun v b=>⟨?_,(l2 v b).2⟩,fun u d h1 f=>q u d (by omega) f,by rw [e];exact D⟩
  have h1:=(l2 v b).1
  rcases Int.lt_or_eq_of_le h1 with f|f
  ·exact f
  exact absurd (by rw [f];exact mem_map_of_mem b) a
 have m:∀ u∈(eY t id).us,id < u.id->u.id < i->u.id∈g.map U.id:=fun u d h1 f=>by
  rcases s.rel u d with r|⟨v,b,hn⟩
  ·have:=h.nx;omega
  rw [hn.id] at h1 f |-
  exact L v b h1 f
 refine ⟨g.filter fun v=>decide (dU id (eY t id).us (eY t id).next<=v.id),?_,?_,?_,?_⟩
 ·exact H.sublist ((filter_sublist).map _)
 ·intro v b
  obtain ⟨B,C⟩:=mem_filter.1 b
  exact ⟨by simpa using C,(I v B).2⟩
 ·intro u d h1 f
  have y:id < u.id:=by
   rcases F with F|⟨x,_,O,P⟩ <;> omega
  obtain ⟨v,b,e⟩:=mem_map.1 (m u d y f)
  rw [<- e]
  refine mem_map_of_mem (mem_filter.2 ⟨b,?_⟩)
  rw [e]
  simpa using h1
 rw [M]
 refine sY _ p _ g (fun v b K=>oP (fun u d e=>?_)) H
 have h1:=(I v b).1
 have:=J u d (by omega)
 omega
theorem sW (id:Int)(u:U):∀ (us:List U) (b:Int),dU id (us ++ [u]) b=if id < u.id/\u.id < dU id us b then u.id else dU id us b
 | [],b=>rfl
 | v :: us,b=>by
  rw [cons_append]
  unfold dU
  exact sW id u us _
theorem BG {us:List U}{k:Nat}{u:U}(a:us[k]?=some u):us.take (k+1)=us.take k ++ [u]:=by
 rw [take_add_one,a]
 rfl
theorem PU (s L n:Nat)(t:T)(id:Int)(w:World)(h:RG w s L n t) :
  Cs 136 #[.pointer (so s),.int .i64 id] w fun e M=>e=.returned (.int .i64 (dU id t.us t.next))/\Fr [] w M:=by
 have z:=h.len
 have y:=h.gv
 have O:=y.c
 have hn:=h.c147
 go_enter Tryz.func136,Tryz.ntmps136
 go_wp2_with fail
 go_loopw [5,6] (fun b i wr=>∃ k:Nat,k<=t.us.length/\i=.int .i64 k/\b=.int .i64 (dU id (t.us.take k) t.next)/\Fr [] w wr) (fun _ i _=>t.us.length - (intOf i).toNat)
 case atStart=>exact ⟨0,Nat.zero_le _,rfl,rfl,r0 _ _⟩
 obtain ⟨k,P,rfl,rfl,d⟩:=hrel
 have f:=y.fr0 d
 have K:=f.c
 by_cases a:k < t.us.length
 ·have j:(k:Int) < (t.us.length:Int):=by omega
  obtain ⟨u,q⟩:∃ u,t.us[k]?=some u:=⟨t.us[k],getElem?_eq_getElem a⟩
  obtain ⟨N,A,B,C,D,E,F,H,I,J,m⟩:=f.p.at q
  have l:Hi (dU id (t.us.take (k+1)) t.next=if id < u.id/\u.id < dU id (t.us.take k) t.next then u.id else dU id (t.us.take k) t.next):=by
   show _=_
   rw [BG q,sW]
  obtain ⟨b,hb⟩:∃ b,dU id (t.us.take k) t.next=b:=⟨_,rfl⟩
  rw [hb] at l |-
  clear q hb A B C D E F H I J m
  by_cases h1:id < u.id
  ·by_cases v:u.id < b
   ·go_wp2_with fail
    go_roundw
    case rel=>exact ⟨k+1,a,by go_num,by rw [l.o,if_pos ⟨h1,v⟩],d⟩
    case measure=>simp [intOf];omega
   go_wp2_with fail
   go_roundw
   case rel=>exact ⟨k+1,a,by go_num,by rw [l.o,if_neg (fun x=>v x.2)],d⟩
   case measure=>simp [intOf];omega
  go_wp2_with fail
  go_roundw
  case rel=>exact ⟨k+1,a,by go_num,by rw [l.o,if_neg (fun x=>h1 x.1)],d⟩
  case measure=>simp [intOf];omega
 have j:¬ (k:Int) < (t.us.length:Int):=by omega
 have g:k=t.us.length:=by omega
 have r:Hi (dU id (t.us.take k) t.next=dU id t.us t.next):=by
  show _=_
  rw [g,take_length]
 obtain ⟨b,hb⟩:∃ b,dU id (t.us.take k) t.next=b:=⟨_,rfl⟩
 rw [hb] at r |-
 clear hb g
 go_wp2_with fail
 go_ret
 exact ⟨by rw [<- r.o];rfl,d⟩
theorem mU (k:Int)(w:World):Cs 93 #[.int .i64 k] w fun e b=>e=.returned (.int .i64 (cT k))/\w=b:=by
 by_cases h1:k=1
 ·subst h1
  go_enter Tryz.func93,Tryz.ntmps93
  go_wp2_with fail
  go_ret
  exact ⟨rfl,rfl⟩
 by_cases a:k=2
 ·subst a
  go_enter Tryz.func93,Tryz.ntmps93
  go_wp2_with fail
  go_ret
  exact ⟨rfl,rfl⟩
 have c:(k==1)=false:=by simpa using h1
 have d:(k==2)=false:=by simpa using a
 go_enter Tryz.func93,Tryz.ntmps93
 go_wp2_with fail
 go_ret
 exact ⟨zP (by unfold cT;rw [if_neg h1,if_neg a]),rfl⟩
theorem zF (k:Int)(a:k=2\/k=3)(w:World):Cs 215 #[.int .i64 k] w fun e b=>e=.returned (.int .i64 (eT k))/\w=b:=by
 rcases a with rfl|rfl <;> (go_enter Tryz.func215,Tryz.ntmps215;go_wp2_with fail;go_ret;exact ⟨rfl,rfl⟩)
