import Derived.Test.YtapabahhfanmmaaGreatDoorCTake
namespace Go.Proofs.YtapabahhfanmmaaGreatDoor
open Go.RowKit
set_option maxRecDepth 100000
set_option maxHeartbeats 2000000
def jj6 (u:U)(c:Cm):Bool:=c.what==0||(c.what==1&&(u.kind==2||u.kind==3))||(c.what==2&&u.kind==2)||(c.what==3&&u.kind==3)||(c.what==4&&u.kind==1)
def sOf (t:T)(c:Cm)(u:U):Option (Bool×Cm):=if jj6 u c=true then some (qj3 t u c,zx3 c) else none
def kOf (u:U):Value:=if u.kind=1 then jk7 else if u.kind=2 then jj9 else jk8
theorem fy8 (t:T)(p:Int)(c:Cm):jq8 t p c (sOf t c)=zj1 t p c:=by
 unfold jq8 zj1
 cases qz0 t.us c.unit with
 | none=>rfl
 | some i =>
  dsimp only
  cases t.us[i]? with
  | none=>rfl
  | some u =>
   dsimp only
   by_cases ho:u.owner=p
   ·simp only [ho,if_true,true_and]
    unfold sOf
    by_cases hc:jj6 u c=true
    ·rw [if_pos hc]
     cases qj3 t u c <;> rfl
    ·rw [if_neg hc]
     have:qj3 t u c=false:=by
      unfold qj3
      unfold jj6 at hc
      simp at hc
      split
      ·rename_i e;exact absurd e hc.1.1.1.1
      ·split
       ·rename_i e;simp;intro h;have:=hc.1.1.1.2 e;omega
       ·split
        ·rename_i e;simp;intro h;exact absurd h (hc.1.1.2 e)
        ·split
         ·rename_i e;simp;intro h;exact absurd h (hc.1.2 e)
         ·split
          ·rename_i e;simp;intro h;exact absurd h (hc.2 e)
          ·rfl
     rw [this]
     simp
   ·simp [ho]
theorem jq9 (x:Int):x < 0\/5<=x\/x=0\/x=1\/x=2\/x=3\/x=4:=by omega
theorem dy2 (tb pb cap hb bb:Nat)(t:T)(c:Cm)(u:U)(w:World)(h:TS w tb pb cap hb bb t)(hri:Rise t.us)(hkd:u.kind=1\/u.kind=2\/u.kind=3):Says tb u c w (kOf u) (sOf t c u):=by
 have hbd:BdAt w tb t.bd:=h.tv.b
 have htl:=h.lt
 have any0:c.what=0->∀ w',Fr [] w w'->Calls Tryz.prog 167 #[.pointer (some ⟨tb,0,none⟩),u.val,c.val] w' fun e w''=>e=.returned (.bool (qj3 t u c))/\Fr [] w' w'':=fun e w' _=>by
  have:qj3 t u c=true:=by unfold qj3;rw [if_pos e]
  rw [this]
  exact yk9 _ u c w'
 have mv:c.what=1->(u.kind=2\/u.kind=3)->∀ w',Fr [] w w'->Calls Tryz.prog 157 #[.pointer (some ⟨tb,0,none⟩),u.val,c.val] w' fun e w''=>e=.returned (.bool (qj3 t u c))/\Fr [] w' w'':=fun e ek w' hf=>by
  have:qj3 t u c=(onB c.x c.y&&(t.bd (ci c.x c.y) != 10)):=by
   unfold qj3
   rw [if_neg (by omega),if_pos e]
   rcases ek with ek|ek <;> simp [ek]
  rw [this]
  exact jj2 tb t.bd u c w' (hbd.fr hf (by simp)) (Nat.lt_of_lt_of_le htl hf.size)
 have k0:c.what=0->∀ w',Calls Tryz.prog 168 #[c.val] w' fun e w''=>e=.returned (zx3 c).val/\Fr [] w' w'':=fun e w'=>by
  have:zx3 c=⟨c.unit,c.what,0,0,0⟩:=by unfold zx3;rw [if_pos e]
  rw [this]
  exact jj8 c w'
 have kc:c.what=1\/c.what=2->∀ w',Calls Tryz.prog 158 #[c.val] w' fun e w''=>e=.returned (zx3 c).val/\Fr [] w' w'':=fun e w'=>by
  have:zx3 c=⟨c.unit,c.what,c.x,c.y,0⟩:=by unfold zx3;rw [if_neg (by omega),if_neg (by omega),if_neg (by omega)]
  rw [this]
  exact yq2 c w'
 have out:(c.what < 0\/5<=c.what)->jj6 u c=false:=fun e=>by
  have e0:(c.what==0)=false:=by simp;omega
  have e1:(c.what==1)=false:=by simp;omega
  have e2:(c.what==2)=false:=by simp;omega
  have e3:(c.what==3)=false:=by simp;omega
  have e4:(c.what==4)=false:=by simp;omega
  unfold jj6
  simp [e0,e1,e2,e3,e4]
 unfold kOf sOf
 rcases hkd with ek|ek|ek
 ·rw [if_pos ek]
  rcases jq9 c.what with e|e|e|e|e|e|e
  ·rw [out (Or.inl e),if_neg (by simp)];exact Or.inl ⟨rfl, fun w=>qy4 _ c.what w (Or.inl e)⟩
  ·rw [out (Or.inr e),if_neg (by simp)];exact Or.inl ⟨rfl, fun w=>qy4 _ c.what w (Or.inr e)⟩
  ·rw [if_pos (by simp [jj6,e])]
   exact Or.inr ⟨167, 167, 168, 169, _, _, rfl, fun w=>by rw [e];exact vv7 w, any0 e, k0 e, fun _ _=>by kernel_rfl, fun _ _=>by kernel_rfl⟩
  ·rw [if_neg (by simp [jj6,e,ek])];exact Or.inl ⟨rfl, fun w=>by rw [e];exact gq7 w⟩
  ·rw [if_neg (by simp [jj6,e,ek])];exact Or.inl ⟨rfl, fun w=>by rw [e];exact gq8 w⟩
  ·rw [if_neg (by simp [jj6,e,ek])];exact Or.inl ⟨rfl, fun w=>by rw [e];exact gq9 w⟩
  ·rw [if_pos (by simp [jj6,e,ek])]
   refine Or.inr ⟨154, 154, 155, 156, _, _, rfl, fun w=>by rw [e];exact vv8 w, fun w' _=>?_, fun w'=>?_, fun _ _=>by kernel_rfl, fun _ _=>by kernel_rfl⟩
   ·have:qj3 t u c=(c.x==2||c.x==3):=by
     unfold qj3
     rw [if_neg (by omega),if_neg (by omega),if_neg (by omega),if_neg (by omega),if_pos e]
     simp [ek]
    rw [this]
    exact jw8 _ u c w'
   ·have:zx3 c=⟨c.unit,c.what,c.x,0,0⟩:=by unfold zx3;rw [if_neg (by omega),if_neg (by omega),if_pos e]
    rw [this]
    exact yq3 c w'
 ·rw [if_neg (by omega),if_pos ek]
  rcases jq9 c.what with e|e|e|e|e|e|e
  ·rw [out (Or.inl e),if_neg (by simp)];exact Or.inl ⟨rfl, fun w=>qy4 _ c.what w (Or.inl e)⟩
  ·rw [out (Or.inr e),if_neg (by simp)];exact Or.inl ⟨rfl, fun w=>qy4 _ c.what w (Or.inr e)⟩
  ·rw [if_pos (by simp [jj6,e])]
   exact Or.inr ⟨167, 167, 168, 169, _, _, rfl, fun w=>by rw [e];exact vv9 w, any0 e, k0 e, fun _ _=>by kernel_rfl, fun _ _=>by kernel_rfl⟩
  ·rw [if_pos (by simp [jj6,e,ek])]
   exact Or.inr ⟨157, 157, 158, 159, _, _, rfl, fun w=>by rw [e];exact vw0 w, mv e (Or.inl ek), kc (Or.inl e), fun _ _=>by kernel_rfl, fun _ _=>by kernel_rfl⟩
  ·rw [if_pos (by simp [jj6,e,ek])]
   refine Or.inr ⟨160, 161, 158, 162, _, _, rfl, fun w=>by rw [e];exact vw1 w, fun w' hf=>?_, kc (Or.inr e), fun _ _=>by kernel_rfl, fun _ _=>by kernel_rfl⟩
   have:qj3 t u c=(onB c.x c.y&&(decide (0 < t.bd (ci c.x c.y))&&decide (t.bd (ci c.x c.y) < 10))):=by
    unfold qj3 yx9
    rw [if_neg (by omega),if_neg (by omega),if_pos e]
    simp [ek]
   rw [this]
   exact xq4 tb t.bd u c w' (hbd.fr hf (by simp)) (Nat.lt_of_lt_of_le htl hf.size)
  ·rw [if_neg (by simp [jj6,e,ek])];exact Or.inl ⟨rfl, fun w=>by rw [e];exact gz0 w⟩
  ·rw [if_neg (by simp [jj6,e,ek])];exact Or.inl ⟨rfl, fun w=>by rw [e];exact gz1 w⟩
 ·rw [if_neg (by omega),if_neg (by omega)]
  rcases jq9 c.what with e|e|e|e|e|e|e
  ·rw [out (Or.inl e),if_neg (by simp)];exact Or.inl ⟨rfl, fun w=>qy4 _ c.what w (Or.inl e)⟩
  ·rw [out (Or.inr e),if_neg (by simp)];exact Or.inl ⟨rfl, fun w=>qy4 _ c.what w (Or.inr e)⟩
  ·rw [if_pos (by simp [jj6,e])]
   exact Or.inr ⟨167, 167, 168, 169, _, _, rfl, fun w=>by rw [e];exact vw2 w, any0 e, k0 e, fun _ _=>by kernel_rfl, fun _ _=>by kernel_rfl⟩
  ·rw [if_pos (by simp [jj6,e,ek])]
   exact Or.inr ⟨157, 157, 158, 159, _, _, rfl, fun w=>by rw [e];exact vw3 w, mv e (Or.inr ek), kc (Or.inl e), fun _ _=>by kernel_rfl, fun _ _=>by kernel_rfl⟩
  ·rw [if_neg (by simp [jj6,e,ek])];exact Or.inl ⟨rfl, fun w=>by rw [e];exact gz2 w⟩
  ·rw [if_pos (by simp [jj6,e,ek])]
   refine Or.inr ⟨163, 164, 165, 166, _, _, rfl, fun w=>by rw [e];exact vw4 w, fun w' hf=>?_, fun w'=>?_, fun _ _=>by kernel_rfl, fun _ _=>by kernel_rfl⟩
   ·have:qj3 t u c=jy9 t.us u.owner c.target:=by
     unfold qj3
     rw [if_neg (by omega),if_neg (by omega),if_neg (by omega),if_pos e]
     simp [ek]
    rw [this]
    exact yv0 tb pb cap t.us u c w' (h.fr0 hf).gv hri
   ·have:zx3 c=⟨c.unit,c.what,0,0,c.target⟩:=by unfold zx3;rw [if_neg (by omega),if_pos e]
    rw [this]
    exact jk6 c w'
  ·rw [if_neg (by simp [jj6,e,ek])];exact Or.inl ⟨rfl, fun w=>by rw [e];exact gz3 w⟩
theorem fq9 (u:U)(hkd:u.kind=1\/u.kind=2\/u.kind=3)(w:World):Calls Tryz.prog 121 #[.int .i64 u.kind] w fun e w'=>e=.returned (kOf u)/\Fr [] w w':=by
 unfold kOf
 rcases hkd with ek|ek|ek
 ·rw [ek,if_pos rfl];exact jx0 w
 ·rw [ek,if_neg (by omega),if_pos rfl];exact zk8 w
 ·rw [ek,if_neg (by omega),if_neg (by omega)];exact jq3 w
theorem qqq3 (tb pb cap hb bb:Nat)(t:T)(p:Int)(c:Cm)(w:World)(h:TS w tb pb cap hb bb t)(hok:TOk t) :
  Calls Tryz.prog 151 #[.pointer (some ⟨tb,0,none⟩),.int .i64 p,c.val] w fun e w' =>
   e=.returned (.bool (zj1 t p c).1)/\Fr [pb] w w'/\TS w' tb pb cap hb bb (zj1 t p c).2:=by
 rw [<- fy8]
 exact qqq4 tb pb cap hb bb t p c (sOf t c) kOf w h hok.rise (fun u hu=>fq9 u (hok.all u hu).kd) (fun u hu=>dy2 tb pb cap hb bb t c u w h hok.rise (hok.all u hu).kd)
def Cmds (w:World)(b:Nat)(l:List Cm):Prop:=∀ (i:Nat) (h:i < l.length),w.rangeAt b (i*5) (l[i]'h).cells
theorem Cmds.fr {S:List Nat}{w w':World}{b:Nat}{l:List Cm}(h:Cmds w b l)(hf:Fr S w w')(hn:b∉S):Cmds w' b l:=fun i hi j v hv=>by
 have h1:=h i hi j v hv
 rw [hf.cell b _ (qq1 h1) hn];exact h1
theorem Cmds.at {w:World}{b k:Nat}{l:List Cm}{c:Cm}(h:Cmds w b l)(hk:l[k]?=some c) :
  w.cell? ⟨b,k*5,none⟩=some (ii c.unit)/\w.cell? ⟨b,k*5+1,none⟩=some (ii c.what)/\w.cell? ⟨b,k*5+2,none⟩=some (ii c.x)/\w.cell? ⟨b,k*5+3,none⟩=some (ii c.y)/\w.cell? ⟨b,k*5+4,none⟩=some (ii c.target):=by
 obtain ⟨hl,rfl⟩:=List.getElem?_eq_some_iff.1 hk
 have h1:=h k hl
 exact ⟨h1 0 _ rfl,h1 1 _ rfl,h1 2 _ rfl,h1 3 _ rfl,h1 4 _ rfl⟩
abbrev ints (l:List Nat):List Value:=l.map fun (n:Nat)=>ii (n:Int)
theorem kk6:(Tryz.prog.info? 3).map (fun i=>(i.zero,i.size,i.bytes))=some (some (ii 0),1,8):=by kernel_rfl
theorem qj1 {w:World}{base n:Nat}{e:TypeId}{size:Nat}{v:Value}{xs:List Value}(h:w.ownsRow base e size v n xs){b:Nat}(hb:v.ownBlock=some b):base<=b:=by
 rcases h.2 with ⟨h1,_⟩|⟨g,cap,cur,rfl,h1,_⟩
 ·rw [h1] at hb;simp [Value.ownBlock] at hb
 ·simp [Value.ownBlock] at hb;omega
theorem jv1 (p:Int)(k:Nat)(c:Cm)(l:List Cm)(t:T):qz6 p k (c :: l) t=(if (zj1 t p c).1=true then (qz6 p (k+1) l (zj1 t p c).2).1 else k :: (qz6 p (k+1) l (zj1 t p c).2).1,(qz6 p (k+1) l (zj1 t p c).2).2):=rfl
structure CmdI (w:World) (tb pb cap hb bb:Nat) (p:Int) (t:T) (l:List Cm) (k:Nat) (v:Value) (wr:World):Prop where
 ex:∃ t' rs,TS wr tb pb cap hb bb t'/\TOk t'/\rs.length<=k/\wr.ownsRow w.heap.size 3 1 v rs.length (ints rs)/\(rs ++ (qz6 p k (l.drop k) t').1,(qz6 p k (l.drop k) t').2)=qz6 p 0 l t
 fr:Fr [pb] w wr
theorem kj7 (tb pb cap hb bb lb lc:Nat)(t:T)(p:Int)(l:List Cm)(w:World)(h:TS w tb pb cap hb bb t)(hok:TOk t)(hl:Cmds w lb l)(hlb:lb < w.heap.size)(hlp:lb≠pb)(hlen:l.length<=2000000) :
  Calls Tryz.prog 118 #[.pointer (some ⟨tb,0,none⟩),.int .i64 p,.slice (some ⟨lb,0,none⟩) l.length lc] w fun e w' =>
   ∃ v,e=.returned v/\Fr [pb] w w'/\TS w' tb pb cap hb bb (qz6 p 0 l t).2/\w'.ownsRow w.heap.size 3 1 v (qz6 p 0 l t).1.length (ints (qz6 p 0 l t).1):=by
 obtain ⟨inf,hi0,hz0,hz1,hz2⟩:=info_parts kk6
 have hpl:=h.row.lt
 go_enter Tryz.func118,Tryz.ntmps118
 go_wp2_with fail
 go_loopw [7,12] (fun v i wr=>∃ k:Nat,k<=l.length/\i=.int .i64 k/\CmdI w tb pb cap hb bb p t l k v wr) (fun _ i _=>l.length - (intOf i).toNat)
 case atStart=>exact ⟨0,Nat.zero_le _,rfl,⟨t,[],h,hok,Nat.le_refl _,⟨rfl,Or.inl ⟨rfl,rfl⟩⟩,by simp⟩,Fr.refl _ _⟩
 case round =>
  obtain ⟨k,hk,rfl,hI⟩:=hrel
  obtain ⟨⟨t',rs,ht,hok',hrl,hown,hall⟩,hfr⟩:=hI
  by_cases hlt:k < l.length
  ·obtain ⟨c,hc⟩:∃ c,l[k]?=some c:=⟨l[k],List.getElem?_eq_getElem hlt⟩
   have hdrop:l.drop k=c :: l.drop (k+1):=by
    rw [List.drop_eq_getElem_cons hlt]
    congr 1
    rw [List.getElem?_eq_getElem hlt] at hc
    exact Option.some.inj hc
   rw [hdrop,jv1] at hall
   obtain ⟨c0,c1,c2,c3,c4⟩:=(hl.fr hfr (by simp;exact hlp)).at hc
   have htake:=qqq3 tb pb cap hb bb t' p c (wr.alloc (.cells #[ii c.unit,ii c.what,ii c.x,ii c.y,ii c.target] 81)) (ht.fr0 ((Fr.refl _ _).alloc _)) hok'
   have hgood:=(vz1 hok' p c (fun _=>True)).1.ok
   have hlbl:lb < wr.heap.size:=Nat.lt_of_lt_of_le hlb hfr.size
   obtain ⟨B,hB⟩:∃ B,(zj1 t' p c).1=B:=⟨_,rfl⟩
   obtain ⟨t2,ht2⟩:∃ x,(zj1 t' p c).2=x:=⟨_,rfl⟩
   rw [hB,ht2] at htake hall
   rw [ht2] at hgood
   have HT:=hid htake
   have HO:=hid hown
   have HALL:=hid hall
   have HF:=hid hfr
   clear ht hall hdrop hc hfr htake hB ht2 hown hok' hl
   have hwr:=HF.out.size
   have HN:Hid (∀ (W:World) (j:Nat) (u:Value),[ii (k:Int)][j]?=some u->(W.alloc (.cells #[.int .i64 k] 3)).cell? ((⟨W.heap.size,0,none⟩:Addr).add j)=some u):=by
    intro W j u hu
    have hj:j=0:=by
     have:=(List.getElem?_eq_some_iff.1 hu).1
     simp at this
     exact this
    subst hj
    rw [Addr.add_lit,j9 (qq6 W _)]
    simpa using hu
   have hb1:∀ b,u7.ownBlock=some b->w.heap.size<=b:=fun b hb=>qj1 HO.out hb
   have HB1:=hid hb1
   have HOW:Hid (∀ w2,Fr [pb] (wr.alloc (.cells #[ii c.unit,ii c.what,ii c.x,ii c.y,ii c.target] 81)) w2->(w2.alloc (.cells #[.int .i64 k] 3)).ownsRow w.heap.size 3 1 u7 rs.length (ints rs)):=fun w2 hf=>qq7 (qq7 (qq7 HO.out ((Fr.refl [] wr).alloc _) (by simp)) hf (fun b hb=>by have:=hb1 b hb;simp;omega)) ((Fr.refl [] w2).alloc _) (by simp)
   clear hb1
   cases B
   ·go_wp2_with (first|(go_at_call 151;refine Calls.mono HT.out ?_;rintro e w2 ⟨rfl,hf2,hts2⟩)|(at_builtin;refine wpList_append_own _ rfl _ _ 25 rfl w.heap.size 3 inf (ii 0) 1 8 Tryz.underlying25 hi0 hz0 hz1 hz2 rfl (by decide) u7 rs.length (ints rs) rfl (HOW.out _ hf2) ⟨w2.heap.size,0,none⟩ 1 1 [ii (k:Int)] rfl rfl (HN.out w2) (by simp [Value.oneCell']) (by unfold maxLen;omega) (by omega) (by have:=hf2.size;simp at this |-;omega) ?_;intro v' w3 hown3 hgrow hnil3))
    have hf3:Fr u7.ownBlock.toList w2 w3:=((Fr.refl _ _).alloc _).grow hgrow (fun g hg=>Or.inl (by simp [hg]))
    have hw2:Fr [pb] w w2:=(HF.out.alloc _).trans hf2 (by simp)
    have hw3:Fr [pb] w w3:=hw2.trans hf3 (fun b hb=>Or.inr (HB1.out b (by simpa using hb)))
    have htl:=h.lt
    have hhl:=h.held.lt
    have hbl:=h.ways.lt
    have hno:∀ b,b < w.heap.size->b∉u7.ownBlock.toList:=fun b hb hm=>by
     have:=HB1.out b (by simpa using hm)
     omega
    go_roundw
    case rel =>
     refine ⟨k+1,hlt,by go_num,⟨t2,rs ++ [k],hts2.fr hf3 (hno _ htl) (hno _ hpl) (hno _ hhl) (hno _ hbl),hgood,by simp;omega,?_,?_⟩,hw3⟩
     ·simpa using hown3
     ·have:=HALL.out
      simpa using this
    case measure=>simp [intOf];omega
   ·go_wp2_with (first|(go_at_call 151;refine Calls.mono HT.out ?_;rintro e w2 ⟨rfl,hf2,hts2⟩))
    have hw2:Fr [pb] w w2:=(HF.out.alloc _).trans hf2 (by simp)
    go_roundw
    case rel =>
     refine ⟨k+1,hlt,by go_num,⟨t2,rs,hts2,hgood,by omega,?_,?_⟩,hw2⟩
     ·exact qq7 (qq7 HO.out ((Fr.refl [] wr).alloc _) (by simp)) hf2 (fun b hb=>by have:=HB1.out b hb;simp;omega)
     ·have:=HALL.out
      simpa using this
    case measure=>simp [intOf];omega
  ·have hall':=hall
   rw [List.drop_of_length_le (by omega)] at hall'
   go_wp2_with fail
   go_ret
   have hall2:(rs,t')=qz6 p 0 l t:=by simpa [qz6] using hall'
   refine ⟨u7,rfl,hfr,?_,?_⟩
   ·rw [<- hall2];exact ht
   ·rw [<- hall2];exact hown
end Go.Proofs.YtapabahhfanmmaaGreatDoor
