import Derived.Test.YtapabahhfanmmaaGreatDoorCRTell
namespace Go.Proofs.YtapabahhfanmmaaGreatDoor
open Go.RowKit
set_option maxRecDepth 100000
set_option maxHeartbeats 8000000
theorem yj9 (gb:Nat)(t:T)(w:World)(hrg:w.rangeAt gb 4 (qk8 t.bd)) :
  Calls Tryz.prog 173 #[.pointer (some ⟨gb,0,none⟩)] w fun e w'=>BP (∀ i,i < 144->t.bd i<=10) w e w':=by
 have HRow:Hid (∀ (y:Nat) (_:y < 12) (w:World),(Instr.index 88 (.agg (qk8 t.bd).toArray) (.int .i64 y)).run Tryz.prog w=.ok (.agg (zv2 t.bd y).toArray) w):=fj4 t.bd
 have HAt:Hid (∀ (y x:Nat) (_:x < 12) (w:World),(Instr.index 86 (.agg (zv2 t.bd y).toArray) (.int .i64 x)).run Tryz.prog w=.ok (ii (t.bd (y*12+x))) w):=qjx9 t.bd
 have HRL:Hid (∀ y,(zv2 t.bd y).length=12/\(zv2 t.bd y).toArray.all (·.oneCell')=true):=fun y=>⟨gq2 _ _,gq3 _ _⟩
 obtain ⟨bl,hbl⟩:∃ x,x=qk8 t.bd:=⟨_,rfl⟩
 have HIB:Hid ((Tryz.prog.info? 88).map (·.size)=some bl.length):=by
  show _=_
  rw [jj7,hbl,zz1]
 obtain ⟨rw_,hrw⟩:∃ f,f=zv2 t.bd:=⟨_,rfl⟩
 rw [<- hbl] at hrg HRow
 rw [<- hrw] at HRow HAt HRL
 obtain ⟨bd,hbdd⟩:∃ b,b=t.bd:=⟨_,rfl⟩
 rw [<- hbdd] at HAt |-
 clear hbl hrw hbdd
 go_enter Tryz.func173,Tryz.ntmps173
 go_wp2_with (refine wpList_load_mid rfl 88 _ rfl gb 4 rfl bl _ hrg Tryz.underlying88 rfl HIB.out ?_)
 go_loopw [11] (fun i wr=>∃ y:Nat,y<=12/\i=.int .i64 y/\Hid (∀ j,j < y*12->bd j<=10)/\Fr [] w wr) (fun i _=>12 - (intOf i).toNat)
 case atStart=>exact ⟨0,by omega,rfl,(show Hid _ from fun j hj=>by omega),Fr.refl _ _⟩
 case round =>
  obtain ⟨y,hy12,rfl,HB,hfr⟩:=hrel
  by_cases hlt:y < 12
  ·have hlti:(y:Int) < 12:=by omega
   have hr:=HRow.out y hlt
   have ha:=HAt.out y
   obtain ⟨hrl,hro⟩:=HRL.out y
   obtain ⟨r,hr'⟩:∃ r,rw_ y=r:=⟨_,rfl⟩
   rw [hr'] at hr hrl hro
   simp only [hr'] at ha
   have HO:=hid hro
   have HI:Hid ((Tryz.prog.info? 86).map (·.size)=some r.toArray.size):=by
    show _=_
    rw [xw7,List.size_toArray,hrl]
   have HZ:Hid (zero12.size=r.toArray.size):=by show 12=r.toArray.size;rw [List.size_toArray,hrl]
   have HH:Hid (((wr.alloc (.cells zero12 86)).setRow wr.heap.size r.toArray).heap[wr.heap.size]?=some (.cells r.toArray 86)):=setRow_heap _ _ _ _ _ _ (qq6 _ _)
   have HA:=hid ha
   clear hrl hro ha hr'
   go_wp2_with (first|(refine wpList_store_row rfl 86 _ _ rfl wr.heap.size r.toArray rfl rfl 86 zero12 (qq6 wr _) HI.out HZ.out HO.out ?_)|(refine wpList_load_row rfl 86 _ rfl wr.heap.size rfl 86 r.toArray (0,0) _ HH.out Tryz.underlying86 rfl HI.out ?_))
   obtain ⟨W2,hW2⟩:∃ W,W=(wr.alloc (.cells zero12 86)).setRow wr.heap.size r.toArray:=⟨_,rfl⟩
   have hf2:Fr [] wr W2:=by rw [hW2];exact ((Fr.refl _ _).alloc _).setRow _ _ (Or.inr (Nat.le_refl _))
   rw [<- hW2]
   clear hW2 HH HI HZ HO hr
   go_loopw [15] (fun i wx=>∃ x:Nat,x<=12/\i=.int .i64 x/\Hid (∀ j,j < y*12+x->bd j<=10)/\W2=wx) (fun i _=>12 - (intOf i).toNat)
   case atStart=>exact ⟨0,by omega,rfl,HB,rfl⟩
   case round =>
    obtain ⟨x,hx12,rfl,HB2,rfl⟩:=hrel
    by_cases hxt:x < 12
    ·have hxti:(x:Int) < 12:=by omega
     have ha:=HA.out x hxt
     obtain ⟨b,hb'⟩:∃ b,bd (y*12+x)=b:=⟨_,rfl⟩
     rw [hb'] at ha
     have HBE:=(show Hid _ from hb')
     clear hb'
     by_cases hnb:10 < b
     ·go_wp2_with fail
      go_ret
      exact ⟨false,rfl,⟨fun h=>(by cases h),fun h=>(by have:=h (y*12+x) (by omega);rw [HBE.out] at this;omega)⟩,hfr.then0 hf2⟩
     ·go_wp2_with fail
      go_roundw
      case rel=>exact ⟨x+1,hxt,by go_num,(show Hid _ from fun j hj=>by
       by_cases hj2:j < y*12+x
       ·exact HB2.out j hj2
       ·have:j=y*12+x:=by omega
        subst this
        rw [HBE.out];omega),trivial⟩
      case measure=>simp [intOf];omega
    ·have hxti:¬ (x:Int) < 12:=by omega
     go_wp2_with fail
     go_roundw
     case rel=>exact ⟨y+1,hlt,by go_num,(show Hid _ from fun j hj=>HB2.out j (by omega)),hfr.then0 hf2⟩
     case measure=>simp [intOf];omega
  ·have hlti:¬ (y:Int) < 12:=by omega
   go_wp2_with fail
   go_ret
   exact ⟨true,rfl,⟨fun _ i hi=>HB.out i (by omega),fun _=>rfl⟩,hfr⟩
def zq8 (us:List U)(k:Nat):Int:=match k with|0=>0|k+1=>(us[k]?.map U.id).getD 0
theorem qqx2 {us:List U}(hri:Rise us)(hid:∀ u∈us,1<=u.id){k:Nat}{u:U}(hu:us[k]?=some u):zq8 us k < u.id:=by
 cases k with
 | zero=>have:=hid u (List.mem_of_getElem? hu);show (0:Int) < u.id;omega
 | succ j =>
  have hl:j+1 < us.length:=(List.getElem?_eq_some_iff.1 hu).1
  have hv:us[j]?=some (us[j]'(by omega)):=List.getElem?_eq_getElem (by omega)
  have:=hri.lt hv hu (by omega)
  show (us[j]?.map U.id).getD 0 < u.id
  rw [hv]
  exact this
def yw7 (us:List U)(nx:Int):Prop:=(∀ k u,us[k]?=some u->zq8 us k < u.id)/\zq8 us us.length < nx
theorem gx8 (gb pb cap:Nat)(t:T)(w:World)(h:GS w gb pb cap t) :
  Calls Tryz.prog 174 #[.pointer (some ⟨gb,0,none⟩)] w fun e w'=>BP (yw7 t.us t.next) w e w':=by
 have hc:=h.gv.c
 have hcn:w.cell? ⟨gb,1,none⟩=some (ii t.next):=by have:=h.cell 1 (by omega);simpa [qq9] using this
 have hlen:=h.len
 have hne:=h.ne
 have HP:Hid (Ppl w pb t.us):=h.row.ppl
 have hlt:=h.lt
 obtain ⟨us,hus⟩:∃ us,us=t.us:=⟨_,rfl⟩
 rw [<- hus] at hc hlen hne HP |-
 obtain ⟨nx,hnx⟩:∃ n,n=t.next:=⟨_,rfl⟩
 rw [<- hnx] at hcn |-
 clear h hus hnx
 go_enter Tryz.func174,Tryz.ntmps174
 go_wp2_with fail
 go_loopw [3,11] (fun v i wr=>∃ k:Nat,k<=us.length/\i=.int .i64 k/\v=.int .i64 (zq8 us k)/\Hid (∀ j v,j < k->us[j]?=some v->zq8 us j < v.id)/\Fr [] w wr) (fun _ i _=>us.length - (intOf i).toNat)
 case atStart=>exact ⟨0,by omega,rfl,rfl,(show Hid _ from fun j _ hj=>by omega),Fr.refl _ _⟩
 case round =>
  obtain ⟨k,hk,rfl,rfl,HB,hfr⟩:=hrel
  by_cases hlt:k < us.length
  ·have hlti:(k:Int) < (us.length:Int):=by omega
   obtain ⟨u,hu⟩:∃ u,us[k]?=some u:=⟨us[k],List.getElem?_eq_getElem hlt⟩
   obtain ⟨c0,c1,c2,c3,c4,c5,c6,c7,c8,c9,c10⟩:=(Ppl.fr HP.out hfr (by simp)).at hu
   have HN:Hid (zq8 us (k+1)=u.id):=by show (us[k]?.map U.id).getD 0=u.id;rw [hu];rfl
   obtain ⟨la,hla⟩:∃ x,zq8 us k=x:=⟨_,rfl⟩
   have HU:=hid hu
   have HLA:=hid hla
   rw [hla]
   clear hu hla
   by_cases hnl:u.id<=la
   ·go_wp2_with fail
    go_ret
    exact ⟨false,rfl,⟨fun h=>(by cases h),fun h=>(by have:=h.1 k u HU.out;rw [HLA.out] at this;omega)⟩,hfr.alloc _⟩
   ·go_wp2_with fail
    go_roundw
    case rel=>exact ⟨k+1,hlt,by go_num,by rw [HN.out],(show Hid _ from fun j v hj hv=>by
     by_cases hjk:j < k
     ·exact HB.out j v hjk hv
     ·have:j=k:=by omega
      subst this
      rw [HU.out] at hv
      cases hv
      rw [HLA.out];omega),hfr.alloc _⟩
    case measure=>simp [intOf];omega
  ·have hlti:¬ (k:Int) < (us.length:Int):=by omega
   have hkl:k=us.length:=by omega
   have HKL:=hid hkl
   obtain ⟨la,hla⟩:∃ x,zq8 us k=x:=⟨_,rfl⟩
   have HLA:=hid hla
   rw [hla]
   have hcr:=(hfr.cell _ _ (by omega) (by simp)).trans hcn
   clear hla hkl
   by_cases hen:la < nx
   ·go_wp2_with fail
    go_ret
    exact ⟨true,rfl,⟨fun _=>⟨fun j v hv=>HB.out j v (by have:=(List.getElem?_eq_some_iff.1 hv).1;have:=HKL.out;omega) hv,by rw [<- HKL.out,HLA.out];exact hen⟩,fun _=>rfl⟩,hfr⟩
   ·go_wp2_with fail
    go_ret
    exact ⟨false,rfl,⟨fun h=>(by cases h),fun h=>(by have:=h.2;rw [<- HKL.out,HLA.out] at this;omega)⟩,hfr⟩
theorem xw0 (gb pb cap:Nat)(t:T)(w:World)(h:GS w gb pb cap t)(how:∀ u∈t.us,u.owner=0\/u.owner=1) :
  Calls Tryz.prog 176 #[.pointer (some ⟨gb,0,none⟩)] w fun e w'=>BP (t.us.countP (qq4 0)<=1/\t.us.countP (qq4 1)<=1/\1<=t.us.countP (qq4 0)+t.us.countP (qq4 1)) w e w':=by
 have hc:=h.gv.c
 have hlen:=h.len
 have HP:Hid (Ppl w pb t.us):=h.row.ppl
 have hgl:=h.lt
 obtain ⟨us,hus⟩:∃ us,us=t.us:=⟨_,rfl⟩
 rw [<- hus] at hc hlen HP how |-
 have HOW:=hid how
 clear h how hus
 obtain ⟨Q,hQ⟩:∃ Q:Prop,Q=(us.countP (qq4 0)<=1/\us.countP (qq4 1)<=1/\1<=us.countP (qq4 0)+us.countP (qq4 1)):=⟨_,rfl⟩
 rw [<- hQ]
 have HQ:=hid hQ
 clear hQ
 have hc1:(w.alloc (.cells #[ii 0,ii 0] 54)).cell? ⟨gb,148,none⟩=some (.slice (some ⟨pb,0,none⟩) us.length cap):=(((Fr.refl [] w).alloc _).cell _ _ hgl (by simp)).trans hc
 go_enter Tryz.func176,Tryz.ntmps176
 go_wp2_with fail
 go_loopw [11] (fun i wr=>∃ k:Nat,k<=us.length/\i=.int .i64 k/\wr.heap[w.heap.size]?=some (.cells #[ii ((us.take k).countP (qq4 0):Nat),ii ((us.take k).countP (qq4 1):Nat)] 54)/\Fr [] w wr) (fun i _=>us.length - (intOf i).toNat)
 case atStart=>exact ⟨0,by omega,rfl,qq6 _ _,(Fr.refl _ _).alloc _⟩
 case round =>
  obtain ⟨k,hk,rfl,hb,hfr⟩:=hrel
  have cb0:wr.cell? ⟨w.heap.size,0,none⟩=some (ii ((us.take k).countP (qq4 0):Nat)):=j9 hb
  have cb1:wr.cell? ⟨w.heap.size,1,none⟩=some (ii ((us.take k).countP (qq4 1):Nat)):=j9 hb
  have z0:wr.frozen? ⟨w.heap.size,0,none⟩=false:=qq0 hb
  have z1:wr.frozen? ⟨w.heap.size,1,none⟩=false:=qq0 hb
  have hsl:w.heap.size < wr.heap.size:=qq2 hb
  have ht0:(us.take k).countP (qq4 0)<=1000:=Nat.le_trans (List.countP_le_length) (by simp;omega)
  have ht1:(us.take k).countP (qq4 1)<=1000:=Nat.le_trans (List.countP_le_length) (by simp;omega)
  obtain ⟨n0,hn0⟩:∃ n,(us.take k).countP (qq4 0)=n:=⟨_,rfl⟩
  obtain ⟨n1,hn1⟩:∃ n,(us.take k).countP (qq4 1)=n:=⟨_,rfl⟩
  rw [hn0] at cb0 hb ht0
  rw [hn1] at cb1 hb ht1
  have HB:=hid hb
  by_cases hlt:k < us.length
  ·have hlti:(k:Int) < (us.length:Int):=by omega
   obtain ⟨u,hu⟩:∃ u,us[k]?=some u:=⟨us[k],List.getElem?_eq_getElem hlt⟩
   obtain ⟨c0,c1,c2,c3,c4,c5,c6,c7,c8,c9,c10⟩:=(Ppl.fr HP.out hfr (by simp)).at hu
   have hou:=HOW.out u (List.mem_of_getElem? hu)
   have hs:∀ o,(us.take (k+1)).countP (qq4 o)=(us.take k).countP (qq4 o)+(if qq4 o u=true then 1 else 0):=fun o=>by
    obtain ⟨hl,rfl⟩:=List.getElem?_eq_some_iff.1 hu
    rw [List.take_succ_eq_append_getElem hl,List.countP_append]
    simp [List.countP_cons]
   have HS0:=(show Hid _ from (hs 0).trans (by rw [hn0]))
   have HS1:=(show Hid _ from (hs 1).trans (by rw [hn1]))
   clear hu hs hn0 hn1 hb
   by_cases hkd:(u.kind==1)=true
   ·rcases hou with ho|ho
    ·have HO:=hid ho
     have e0:Hid (qq4 0 u=true):=by show qq4 0 u=true;unfold qq4;rw [hkd,ho];rfl
     have e1:Hid (qq4 1 u=false):=by show qq4 1 u=false;unfold qq4;rw [hkd,ho];rfl
     rw [ho] at c1
     clear ho
     go_wp2_with fail
     go_roundw
     case rel =>
      refine ⟨k+1,hlt,by go_num,?_,(hfr.setCell _ _ (Or.inr (Nat.le_refl _))).alloc _⟩
      rw [qz7 _ _ _ (by simpa [World.setCell] using hsl),zv1 HB.out,HS0.out,HS1.out,e0.out,e1.out]
      rfl
     case measure=>simp [intOf];omega
    ·have HO:=hid ho
     have e0:Hid (qq4 0 u=false):=by show qq4 0 u=false;unfold qq4;rw [hkd,ho];rfl
     have e1:Hid (qq4 1 u=true):=by show qq4 1 u=true;unfold qq4;rw [hkd,ho];rfl
     rw [ho] at c1
     clear ho
     go_wp2_with fail
     go_roundw
     case rel =>
      refine ⟨k+1,hlt,by go_num,?_,(hfr.setCell _ _ (Or.inr (Nat.le_refl _))).alloc _⟩
      rw [qz7 _ _ _ (by simpa [World.setCell] using hsl),zv1 HB.out,HS0.out,HS1.out,e0.out,e1.out]
      rfl
     case measure=>simp [intOf];omega
   ·simp only [Bool.not_eq_true] at hkd
    have e0:Hid (qq4 0 u=false):=by show qq4 0 u=false;unfold qq4;rw [hkd];rfl
    have e1:Hid (qq4 1 u=false):=by show qq4 1 u=false;unfold qq4;rw [hkd];rfl
    clear hou
    go_wp2_with fail
    go_roundw
    case rel =>
     refine ⟨k+1,hlt,by go_num,?_,hfr.alloc _⟩
     rw [qz7 _ _ _ hsl,HB.out,HS0.out,HS1.out,e0.out,e1.out]
     rfl
    case measure=>simp [intOf];omega
  ·have hlti:¬ (k:Int) < (us.length:Int):=by omega
   have hkl:us.take k=us:=List.take_of_length_le (by omega)
   rw [hkl] at hn0 hn1
   have HQ2:Hid (Q↔n0<=1/\n1<=1/\1<=n0+n1):=by show _↔_;rw [HQ.out,hn0,hn1]
   clear hkl hn0 hn1 hb
   by_cases b0:(n0:Int)<=1
   ·by_cases b1:(n1:Int)<=1
    ·by_cases b2:1<=(n0:Int)+(n1:Int)
     ·go_wp2_with fail
      all_goals
       go_ret
       exact ⟨true,rfl,⟨fun _=>HQ2.out.2 (by omega),fun _=>rfl⟩,hfr⟩
     ·go_wp2_with fail
      all_goals
       go_ret
       exact ⟨false,rfl,⟨fun h=>(by cases h),fun h=>(by have:=HQ2.out.1 h;omega)⟩,hfr⟩
    ·go_wp2_with fail
     all_goals
      go_ret
      exact ⟨false,rfl,⟨fun h=>(by cases h),fun h=>(by have:=HQ2.out.1 h;omega)⟩,hfr⟩
   ·go_wp2_with fail
    all_goals
     go_ret
     exact ⟨false,rfl,⟨fun h=>(by cases h),fun h=>(by have:=HQ2.out.1 h;omega)⟩,hfr⟩
def kcA (k:Int):Array Value:=if k=1 then kc1 else if k=2 then kc2 else if k=3 then kc3 else kz
def vx9 (k:Int):Int:=if k=1 then 40 else if k=2 then 8 else if k=3 then 12 else 0
def kk9 (k:Int):Int:=if k=2 then 5 else 0
theorem dx7 (k:Int):(kcA k)[0]?=some (ii (vx9 k)):=by unfold kcA vx9;split;rfl;split;rfl;split <;> rfl
theorem dx8 (k:Int):(kcA k)[2]?=some (ii (kk9 k)):=by
 unfold kcA kk9
 by_cases h1:k=1
 ·subst h1;rfl
 ·rw [if_neg h1]
  by_cases h2:k=2
  ·rw [if_pos h2,if_pos h2];rfl
  ·rw [if_neg h2,if_neg h2];split <;> rfl
theorem dx9 (k:Int):(kcA k).size=24:=by unfold kcA;split;rfl;split;rfl;split <;> rfl
theorem oneZ:kz.all (·.oneCell')=true:=by simp [Value.oneCell']
theorem qqx1 (k:Int):(kcA k).all (·.oneCell')=true:=by unfold kcA;split;exact one1;split;exact qjj9;split;exact qjx0;exact oneZ
theorem gk1 (k:Int)(w:World):Calls Tryz.prog 121 #[.int .i64 k] w fun e w'=>e=.returned (.agg (kcA k))/\Fr [] w w':=by
 unfold kcA
 by_cases h1:k=1
 ·rw [if_pos h1,h1];exact jx0 w
 ·by_cases h2:k=2
  ·rw [if_neg h1,if_pos h2,h2];exact zk8 w
  ·by_cases h3:k=3
   ·rw [if_neg h1,if_neg h2,if_pos h3,h3];exact jq3 w
   ·rw [if_neg h1,if_neg h2,if_neg h3];exact kk8 k w (by simpa using h1) (by simpa using h2) (by simpa using h3)
def yq0 (bd:Nat->Int)(u:U):Prop:=u.owner<=1/\1<=u.life/\u.life<=vx9 u.kind/\u.load<=kk9 u.kind/\onB u.x u.y=true/\bd (ci u.x u.y)=0
theorem kj2 (gb:Nat)(u:U)(bd:Nat->Int)(w:World)(hbd:BdAt w gb bd)(hgl:gb < w.heap.size) :
  Calls Tryz.prog 210 #[.pointer (some ⟨gb,0,none⟩),u.val] w fun e w'=>BP (yq0 bd u) w e w':=by
 have HK:=(show Hid _ from gk1 u.kind)
 have hl1:=dx7 u.kind
 have hl2:=dx8 u.kind
 have hks:=dx9 u.kind
 have hko:=qqx1 u.kind
 obtain ⟨Q,hQ⟩:∃ Q:Prop,Q=yq0 bd u:=⟨_,rfl⟩
 rw [<- hQ]
 obtain ⟨LL,hLL⟩:∃ x,x=kk9 u.kind:=⟨_,rfl⟩
 obtain ⟨LF,hLF⟩:∃ x,x=vx9 u.kind:=⟨_,rfl⟩
 obtain ⟨kc,hkc⟩:∃ x,x=kcA u.kind:=⟨_,rfl⟩
 rw [<- hkc] at HK hl1 hl2 hks hko
 rw [<- hLL] at hl2
 rw [<- hLF] at hl1
 have HQ:Hid (Q↔(u.owner<=1/\1<=u.life/\u.life<=LF/\u.load<=LL/\onB u.x u.y=true/\bd (ci u.x u.y)=0)):=by show _↔_;rw [hQ,hLL,hLF];rfl
 clear hQ hLL hLF hkc
 have HB0:=hid hbd
 clear hbd
 go_enter Tryz.func210,Tryz.ntmps210
 go_wp2_with fail
 refine Calls.mono (HK.out _) ?_
 rintro e w1 ⟨rfl,hf1⟩
 dsimp only
 have HI:Hid ((Tryz.prog.info? 220).map (·.size)=some kc.size):=by show _=_;rw [qy8,hks]
 have HZ:Hid (kz.size=kc.size):=by show 24=kc.size;rw [hks]
 have HO:=hid hko
 clear hks hko HK
 go_wp2_with (refine wpList_store_row rfl 220 _ _ rfl w1.heap.size kc rfl rfl 220 kz (qq6 w1 _) HI.out HZ.out HO.out ?_)
 obtain ⟨W2,hW2⟩:∃ W,W=(w1.alloc (.cells kz 220)).setRow w1.heap.size kc:=⟨_,rfl⟩
 rw [<- hW2]
 have hf2:Fr [] w1 W2:=by rw [hW2];exact ((Fr.refl _ _).alloc _).setRow _ _ (Or.inr (Nat.le_refl _))
 have hh2:W2.heap[w1.heap.size]?=some (.cells kc 220):=by rw [hW2];exact setRow_heap _ _ _ _ _ _ (qq6 _ _)
 have hU1:=hf1.heap0 (qq6 w (.cells u.arr 85))
 have hU2:=hf2.heap0 hU1
 have hf02:Fr [] w W2:=(((Fr.refl [] w).alloc _).then0 hf1).then0 hf2
 have HBD:Hid (BdAt W2 gb bd):=fun i hi=>(hf02.cell _ _ hgl (by simp)).trans (HB0.out i hi)
 have HGL:Hid (gb < W2.heap.size):=Nat.lt_of_lt_of_le hgl hf02.size
 have k0:W2.cell? ⟨w1.heap.size,0,none⟩=some (ii LF):=(j9 hh2).trans hl1
 have k2:W2.cell? ⟨w1.heap.size,2,none⟩=some (ii LL):=(j9 hh2).trans hl2
 have hw1l:w1.heap.size < W2.heap.size:=qq2 hh2
 obtain ⟨kb,hkb⟩:∃ x,x=w1.heap.size:=⟨_,rfl⟩
 rw [<- hkb] at k0 k2 hw1l |-
 have HS:∀ w',Fr [] W2 w'->(fun w':World=>((cl w' w.heap.size 0 u.id/\cl w' w.heap.size 1 u.owner/\cl w' w.heap.size 2 u.kind/\cl w' w.heap.size 3 u.x/\cl w' w.heap.size 4 u.y/\cl w' w.heap.size 5 u.life/\cl w' w.heap.size 6 u.load/\cl w' w.heap.size 7 u.what/\cl w' w.heap.size 8 u.tox/\cl w' w.heap.size 9 u.toy/\cl w' w.heap.size 10 u.target)/\(cl w' kb 0 LF/\cl w' kb 2 LL))/\Fr [] W2 w') w':=fun w' hf =>
  ⟨⟨⟨j9 (hf.heap0 hU2),j9 (hf.heap0 hU2),j9 (hf.heap0 hU2),j9 (hf.heap0 hU2),j9 (hf.heap0 hU2),j9 (hf.heap0 hU2),j9 (hf.heap0 hU2),j9 (hf.heap0 hU2),j9 (hf.heap0 hU2),j9 (hf.heap0 hU2),j9 (hf.heap0 hU2)⟩,(hf.cell _ _ hw1l (by simp)).trans k0,(hf.cell _ _ hw1l (by simp)).trans k2⟩,hf⟩
 clear hW2 hh2 hU1 hf1 hf2 hkb hl1 hl2 HI HZ HO k0 k2 HB0
 by_cases h0:u.owner<=1
 ·skip
  by_cases h1:1<=u.life
  ·skip
   by_cases h2:u.life<=LF
   ·skip
    by_cases h3:u.load<=LL
    ·skip
     cases hon:onB u.x u.y
     ·skip
      have HON:=hid hon
      clear hon
      have K0:=HS _ (Fr.refl [] W2).drew
      refine wp_region_held_drew (S:=fun w':World=>((cl w' w.heap.size 0 u.id/\cl w' w.heap.size 1 u.owner/\cl w' w.heap.size 2 u.kind/\cl w' w.heap.size 3 u.x/\cl w' w.heap.size 4 u.y/\cl w' w.heap.size 5 u.life/\cl w' w.heap.size 6 u.load/\cl w' w.heap.size 7 u.what/\cl w' w.heap.size 8 u.tox/\cl w' w.heap.size 9 u.toy/\cl w' w.heap.size 10 u.target)/\(cl w' kb 0 LF/\cl w' kb 2 LL))/\Fr [] W2 w') (by kernel_rfl) K0 (fun hH=>?_)
      refine (show wpAnyH Tryz.prog Region.Mode.any _ _ _ 41 (Array.replicate 41 false) _ _ from ?_)
      iterate 24 (refine tn 41 hH ?_;try simp only [Act.put,Z])
      refine wpAnyH_ready (rs:=[24]) (by kernel_rfl) (by simp) ?_
      refine AllReadyH.cons (by simp only [G];rfl) (fun K hK=>?_) AllReadyH.nil
      have HKK:=hid hK
      clear hK
      go_simp
      refine Calls.mono (qv2 u _) ?_
      rintro e wc24 ⟨rfl,hfc24⟩
      dsimp only
      have hfr24:=hH.2.then0 hfc24
      clear hH
      refine HKK.out _ _ (HS _ hfr24) (fun hH=>?_)
      clear HKK K;try simp only [Act.put,Z]
      refine wpAnyH_ready (rs:=[25]) (by kernel_rfl) (by simp) ?_
      refine AllReadyH.cons (by simp only [G];rfl) (fun K hK=>?_) AllReadyH.nil
      have HKK:=hid hK
      clear hK
      go_simp
      refine Calls.mono (qy1 _ _ _ _ HON.out) ?_
      rintro e wc25 ⟨rfl,hfc25⟩
      dsimp only
      have hfr25:=hH.2.then0 hfc25
      clear hH
      refine HKK.out _ _ (HS _ hfr25) (fun hH=>?_)
      clear HKK K;try simp only [Act.put,Z]
      iterate 15 (refine tn 41 hH ?_;try simp only [Act.put,Z])
      refine wpAnyH_done (by kernel_rfl) ?_ _
      go_wp2_with fail
      go_ret
      exact ⟨false,rfl,⟨fun h=>(by cases h),fun h=>(by obtain ⟨p1,p2,p3,p4,p5,p6⟩:=HQ.out.1 h;rw [HON.out] at p5;cases p5)⟩,hf02.then0 hH.2⟩
     ·skip
      obtain ⟨o1,o2,o3,o4⟩:=qz3.1 hon
      have hcell:=HBD.out _ (zz0 hon)
      obtain ⟨z,hz⟩:∃ z,bd (ci u.x u.y)=z:=⟨_,rfl⟩
      rw [hz] at hcell
      have HZ:=hid hz
      unfold ci at hcell
      rw [<- Nat.add_assoc] at hcell
      have HON:=hid hon
      clear hon hz
      have HS':∀ w',Fr [] W2 w'->(fun w':World=>((w'.cell? ⟨w.heap.size,0,none⟩=some (ii u.id)/\w'.cell? ⟨w.heap.size,1,none⟩=some (ii u.owner)/\w'.cell? ⟨w.heap.size,2,none⟩=some (ii u.kind)/\w'.cell? ⟨w.heap.size,3,none⟩=some (ii u.x)/\w'.cell? ⟨w.heap.size,4,none⟩=some (ii u.y)/\w'.cell? ⟨w.heap.size,5,none⟩=some (ii u.life)/\w'.cell? ⟨w.heap.size,6,none⟩=some (ii u.load)/\w'.cell? ⟨w.heap.size,7,none⟩=some (ii u.what)/\w'.cell? ⟨w.heap.size,8,none⟩=some (ii u.tox)/\w'.cell? ⟨w.heap.size,9,none⟩=some (ii u.toy)/\w'.cell? ⟨w.heap.size,10,none⟩=some (ii u.target))/\(w'.cell? ⟨kb,0,none⟩=some (ii LF)/\w'.cell? ⟨kb,2,none⟩=some (ii LL))/\w'.cell? ⟨gb,4+u.y.toNat*12+u.x.toNat,none⟩=some (ii z))/\Fr [] W2 w') w':=fun w' hf=>⟨⟨(HS w' hf).1.1,(HS w' hf).1.2,(hf.cell _ _ HGL.out (by simp)).trans hcell⟩,hf⟩
      have K0:=HS' _ (Fr.refl [] W2).drew
      clear hcell HS
      have HS:=HS'
      clear HS'
      cases hze:(z==0)
      ·skip
       have HZE:=hid hze
       refine wp_region_held_drew (S:=fun w':World=>((cl w' w.heap.size 0 u.id/\cl w' w.heap.size 1 u.owner/\cl w' w.heap.size 2 u.kind/\cl w' w.heap.size 3 u.x/\cl w' w.heap.size 4 u.y/\cl w' w.heap.size 5 u.life/\cl w' w.heap.size 6 u.load/\cl w' w.heap.size 7 u.what/\cl w' w.heap.size 8 u.tox/\cl w' w.heap.size 9 u.toy/\cl w' w.heap.size 10 u.target)/\(cl w' kb 0 LF/\cl w' kb 2 LL)/\w'.cell? ⟨gb,4+u.y.toNat*12+u.x.toNat,none⟩=some (ii z))/\Fr [] W2 w') (by kernel_rfl) K0 (fun hH=>?_)
       refine (show wpAnyH Tryz.prog Region.Mode.any _ _ _ 41 (Array.replicate 41 false) _ _ from ?_)
       iterate 24 (refine tn 41 hH ?_;try simp only [Act.put,Z])
       refine wpAnyH_ready (rs:=[24]) (by kernel_rfl) (by simp) ?_
       refine AllReadyH.cons (by simp only [G];rfl) (fun K hK=>?_) AllReadyH.nil
       have HKK:=hid hK
       clear hK
       go_simp
       refine Calls.mono (qv2 u _) ?_
       rintro e wc24 ⟨rfl,hfc24⟩
       dsimp only
       have hfr24:=hH.2.then0 hfc24
       clear hH
       refine HKK.out _ _ (HS _ hfr24) (fun hH=>?_)
       clear HKK K;try simp only [Act.put,Z]
       refine wpAnyH_ready (rs:=[25]) (by kernel_rfl) (by simp) ?_
       refine AllReadyH.cons (by simp only [G];rfl) (fun K hK=>?_) AllReadyH.nil
       have HKK:=hid hK
       clear hK
       go_simp
       refine Calls.mono (qy1 _ _ _ _ HON.out) ?_
       rintro e wc25 ⟨rfl,hfc25⟩
       dsimp only
       have hfr25:=hH.2.then0 hfc25
       clear hH
       refine HKK.out _ _ (HS _ hfr25) (fun hH=>?_)
       clear HKK K;try simp only [Act.put,Z]
       iterate 15 (refine tn 41 hH ?_;try simp only [Act.put,Z])
       refine wpAnyH_done (by kernel_rfl) ?_ _
       go_wp2_with fail
       go_ret
       exact ⟨false,rfl,⟨fun h=>(by cases h),fun h=>(by obtain ⟨p1,p2,p3,p4,p5,p6⟩:=HQ.out.1 h;rw [HZ.out] at p6;have:=HZE.out;simp [p6] at this)⟩,hf02.then0 hH.2⟩
      ·skip
       have HZE:=hid hze
       refine wp_region_held_drew (S:=fun w':World=>((cl w' w.heap.size 0 u.id/\cl w' w.heap.size 1 u.owner/\cl w' w.heap.size 2 u.kind/\cl w' w.heap.size 3 u.x/\cl w' w.heap.size 4 u.y/\cl w' w.heap.size 5 u.life/\cl w' w.heap.size 6 u.load/\cl w' w.heap.size 7 u.what/\cl w' w.heap.size 8 u.tox/\cl w' w.heap.size 9 u.toy/\cl w' w.heap.size 10 u.target)/\(cl w' kb 0 LF/\cl w' kb 2 LL)/\w'.cell? ⟨gb,4+u.y.toNat*12+u.x.toNat,none⟩=some (ii z))/\Fr [] W2 w') (by kernel_rfl) K0 (fun hH=>?_)
       refine (show wpAnyH Tryz.prog Region.Mode.any _ _ _ 41 (Array.replicate 41 false) _ _ from ?_)
       iterate 24 (refine tn 41 hH ?_;try simp only [Act.put,Z])
       refine wpAnyH_ready (rs:=[24]) (by kernel_rfl) (by simp) ?_
       refine AllReadyH.cons (by simp only [G];rfl) (fun K hK=>?_) AllReadyH.nil
       have HKK:=hid hK
       clear hK
       go_simp
       refine Calls.mono (qv2 u _) ?_
       rintro e wc24 ⟨rfl,hfc24⟩
       dsimp only
       have hfr24:=hH.2.then0 hfc24
       clear hH
       refine HKK.out _ _ (HS _ hfr24) (fun hH=>?_)
       clear HKK K;try simp only [Act.put,Z]
       refine wpAnyH_ready (rs:=[25]) (by kernel_rfl) (by simp) ?_
       refine AllReadyH.cons (by simp only [G];rfl) (fun K hK=>?_) AllReadyH.nil
       have HKK:=hid hK
       clear hK
       go_simp
       refine Calls.mono (qy1 _ _ _ _ HON.out) ?_
       rintro e wc25 ⟨rfl,hfc25⟩
       dsimp only
       have hfr25:=hH.2.then0 hfc25
       clear hH
       refine HKK.out _ _ (HS _ hfr25) (fun hH=>?_)
       clear HKK K;try simp only [Act.put,Z]
       iterate 15 (refine tn 41 hH ?_;try simp only [Act.put,Z])
       refine wpAnyH_done (by kernel_rfl) ?_ _
       go_wp2_with fail
       go_ret
       exact ⟨true,rfl,⟨fun _=>HQ.out.2 ⟨h0,h1,h2,h3,HON.out,by rw [HZ.out];simpa using HZE.out⟩,fun _=>rfl⟩,hf02.then0 hH.2⟩
    ·skip
     have K0:=HS _ (Fr.refl [] W2).drew
     refine wp_region_held_drew (S:=fun w':World=>((cl w' w.heap.size 0 u.id/\cl w' w.heap.size 1 u.owner/\cl w' w.heap.size 2 u.kind/\cl w' w.heap.size 3 u.x/\cl w' w.heap.size 4 u.y/\cl w' w.heap.size 5 u.life/\cl w' w.heap.size 6 u.load/\cl w' w.heap.size 7 u.what/\cl w' w.heap.size 8 u.tox/\cl w' w.heap.size 9 u.toy/\cl w' w.heap.size 10 u.target)/\(cl w' kb 0 LF/\cl w' kb 2 LL))/\Fr [] W2 w') (by kernel_rfl) K0 (fun hH=>?_)
     refine (show wpAnyH Tryz.prog Region.Mode.any _ _ _ 41 (Array.replicate 41 false) _ _ from ?_)
     iterate 41 (refine tn 41 hH ?_;try simp only [Act.put,Z])
     refine wpAnyH_done (by kernel_rfl) ?_ _
     go_wp2_with fail
     go_ret
     exact ⟨false,rfl,⟨fun h=>(by cases h),fun h=>(by obtain ⟨p1,p2,p3,p4,p5,p6⟩:=HQ.out.1 h;omega)⟩,hf02.then0 hH.2⟩
   ·skip
    have K0:=HS _ (Fr.refl [] W2).drew
    refine wp_region_held_drew (S:=fun w':World=>((cl w' w.heap.size 0 u.id/\cl w' w.heap.size 1 u.owner/\cl w' w.heap.size 2 u.kind/\cl w' w.heap.size 3 u.x/\cl w' w.heap.size 4 u.y/\cl w' w.heap.size 5 u.life/\cl w' w.heap.size 6 u.load/\cl w' w.heap.size 7 u.what/\cl w' w.heap.size 8 u.tox/\cl w' w.heap.size 9 u.toy/\cl w' w.heap.size 10 u.target)/\(cl w' kb 0 LF/\cl w' kb 2 LL))/\Fr [] W2 w') (by kernel_rfl) K0 (fun hH=>?_)
    refine (show wpAnyH Tryz.prog Region.Mode.any _ _ _ 41 (Array.replicate 41 false) _ _ from ?_)
    iterate 41 (refine tn 41 hH ?_;try simp only [Act.put,Z])
    refine wpAnyH_done (by kernel_rfl) ?_ _
    go_wp2_with fail
    go_ret
    exact ⟨false,rfl,⟨fun h=>(by cases h),fun h=>(by obtain ⟨p1,p2,p3,p4,p5,p6⟩:=HQ.out.1 h;omega)⟩,hf02.then0 hH.2⟩
  ·skip
   have K0:=HS _ (Fr.refl [] W2).drew
   refine wp_region_held_drew (S:=fun w':World=>((cl w' w.heap.size 0 u.id/\cl w' w.heap.size 1 u.owner/\cl w' w.heap.size 2 u.kind/\cl w' w.heap.size 3 u.x/\cl w' w.heap.size 4 u.y/\cl w' w.heap.size 5 u.life/\cl w' w.heap.size 6 u.load/\cl w' w.heap.size 7 u.what/\cl w' w.heap.size 8 u.tox/\cl w' w.heap.size 9 u.toy/\cl w' w.heap.size 10 u.target)/\(cl w' kb 0 LF/\cl w' kb 2 LL))/\Fr [] W2 w') (by kernel_rfl) K0 (fun hH=>?_)
   refine (show wpAnyH Tryz.prog Region.Mode.any _ _ _ 41 (Array.replicate 41 false) _ _ from ?_)
   iterate 41 (refine tn 41 hH ?_;try simp only [Act.put,Z])
   refine wpAnyH_done (by kernel_rfl) ?_ _
   go_wp2_with fail
   go_ret
   exact ⟨false,rfl,⟨fun h=>(by cases h),fun h=>(by obtain ⟨p1,p2,p3,p4,p5,p6⟩:=HQ.out.1 h;omega)⟩,hf02.then0 hH.2⟩
 ·skip
  have K0:=HS _ (Fr.refl [] W2).drew
  refine wp_region_held_drew (S:=fun w':World=>((cl w' w.heap.size 0 u.id/\cl w' w.heap.size 1 u.owner/\cl w' w.heap.size 2 u.kind/\cl w' w.heap.size 3 u.x/\cl w' w.heap.size 4 u.y/\cl w' w.heap.size 5 u.life/\cl w' w.heap.size 6 u.load/\cl w' w.heap.size 7 u.what/\cl w' w.heap.size 8 u.tox/\cl w' w.heap.size 9 u.toy/\cl w' w.heap.size 10 u.target)/\(cl w' kb 0 LF/\cl w' kb 2 LL))/\Fr [] W2 w') (by kernel_rfl) K0 (fun hH=>?_)
  refine (show wpAnyH Tryz.prog Region.Mode.any _ _ _ 41 (Array.replicate 41 false) _ _ from ?_)
  iterate 41 (refine tn 41 hH ?_;try simp only [Act.put,Z])
  refine wpAnyH_done (by kernel_rfl) ?_ _
  go_wp2_with fail
  go_ret
  exact ⟨false,rfl,⟨fun h=>(by cases h),fun h=>(by obtain ⟨p1,p2,p3,p4,p5,p6⟩:=HQ.out.1 h;omega)⟩,hf02.then0 hH.2⟩
theorem vw5 (b:Nat)(bd:Nat->Int)(u:U)(c:Cm)(w:World)(hbd:BdAt w b bd)(hb:b < w.heap.size) :
  Calls Tryz.prog 161 #[.pointer (some ⟨b,0,none⟩),u.val,c.val] w fun e w'=>e=.returned (.bool (onB c.x c.y&&(bd (ci c.x c.y) != 10)))/\Fr [] w w':=by
 have hf:Fr [] w ((w.alloc (.cells u.arr 85)).alloc (.cells #[ii c.unit,ii c.what,ii c.x,ii c.y,ii c.target] 81)):=((Fr.refl _ _).alloc _).alloc _
 have ht:=jj2 b bd u c _ (hbd.fr hf (by simp)) (Nat.lt_of_lt_of_le hb hf.size)
 have HT:=hid ht
 clear ht hbd
 go_enter Tryz.func161,Tryz.ntmps161
 go_wp2_with (go_at_call 157;refine Calls.mono HT.out ?_;rintro e w1 ⟨rfl,hf1⟩)
 go_ret
 exact ⟨rfl,hf.then0 hf1⟩
end Go.Proofs.YtapabahhfanmmaaGreatDoor
