import Derived.Test.YtapabahhfanmmaaGreatDoorCTake
namespace Go.Proofs.YtapabahhfanmmaaGreatDoor
open Go.RowKit List
set_option maxRecDepth 100000
set_option maxHeartbeats 2000000
def eS (u:U)(c:Cm):Bool:=c.what==0||(c.what==1&&(u.kind==2||u.kind==3))||(c.what==2&&u.kind==2)||(c.what==3&&u.kind==3)||(c.what==4&&u.kind==1)
def mZ (t:T)(c:Cm)(u:U):Option (Bool×Cm):=if eS u c=true then some (bN t u c,eM c) else none
def mI (u:U):Value:=if u.kind=1 then gZ else if u.kind=2 then gR else iA
theorem TI (t:T)(p:Int)(c:Cm):iO t p c (mZ t c)=dZ t p c:=by
 unfold iO dZ
 cases bQ t.us c.unit with
 | none=>rfl
 | some i =>
  dsimp only
  cases t.us[i]? with
  | none=>rfl
  | some u =>
   dsimp only
   by_cases ho:u.owner=p
   ·simp only [ho,if_true,true_and]
    unfold mZ
    by_cases a:eS u c=true
    ·rw [if_pos a]
     cases bN t u c <;> rfl
    rw [if_neg a]
    have:bN t u c=false:=by
     unfold bN
     unfold eS at a
     simp at a
     split
     ·rename_i e;exact absurd e a.1.1.1.1
     split
     ·rename_i e;simp;intro h;have:=a.1.1.1.2 e;omega
     split
     ·rename_i e;simp;intro h;exact absurd h (a.1.1.2 e)
     split
     ·rename_i e;simp;intro h;exact absurd h (a.1.2 e)
     split
     ·rename_i e;simp;intro h;exact absurd h (a.2 e)
     rfl
    rw [this]
    simp
   simp [ho]
theorem sP (x:Int):x < 0\/5<=x\/x=0\/x=1\/x=2\/x=3\/x=4:=by omega
theorem RO (j v l hb z:Nat)(t:T)(c:Cm)(u:U)(w:World)(h:TS w j v l hb z t)(p:Rise t.us)(o:u.kind=1\/u.kind=2\/u.kind=3):Says j u c w (mI u) (mZ t c u):=by
 have m:BdAt w j t.bd:=h.tv.b
 have n:=h.lt
 have i:c.what=0->∀ a,Fr [] w a->Cs 167 #[.pointer (so j),u.val,c.val] a fun e f=>e=.returned (.bool (bN t u c))/\Fr [] a f:=fun e a _=>by
  have:bN t u c=true:=by unfold bN;rw [if_pos e]
  rw [this]
  exact TQ _ u c a
 have s:c.what=1->(u.kind=2\/u.kind=3)->∀ a,Fr [] w a->Cs 157 #[.pointer (so j),u.val,c.val] a fun e f=>e=.returned (.bool (bN t u c))/\Fr [] a f:=fun e d a k=>by
  have:bN t u c=(aD c.x c.y&&(t.bd (ci c.x c.y) != 10)):=by
   unfold bN
   rw [if_neg (by omega),if_pos e]
   rcases d with d|d <;> simp [d]
  rw [this]
  exact TZ j t.bd u c a (m.fr k (by simp)) (Nat.lt_of_lt_of_le n k.size)
 have q:c.what=0->∀ a,Cs 168 #[c.val] a fun e f=>e=.returned (eM c).val/\Fr [] a f:=fun e a=>by
  have:eM c=⟨c.unit,c.what,0,0,0⟩:=by unfold eM;rw [if_pos e]
  rw [this]
  exact KB c a
 have r:c.what=1\/c.what=2->∀ a,Cs 158 #[c.val] a fun e f=>e=.returned (eM c).val/\Fr [] a f:=fun e a=>by
  have:eM c=⟨c.unit,c.what,c.x,c.y,0⟩:=by unfold eM;rw [if_neg (by omega),if_neg (by omega),if_neg (by omega)]
  rw [this]
  exact JY c a
 have g:(c.what < 0\/5<=c.what)->eS u c=false:=fun e=>by
  have A:(c.what==0)=false:=by simp;omega
  have B:(c.what==1)=false:=by simp;omega
  have C:(c.what==2)=false:=by simp;omega
  have D:(c.what==3)=false:=by simp;omega
  have E:(c.what==4)=false:=by simp;omega
  unfold eS
  simp [A,B,C,D,E]
 unfold mI mZ
 rcases o with d|d|d
 ·rw [if_pos d]
  rcases sP c.what with e|e|e|e|e|e|e
  ·rw [g (.inl e),if_neg (by simp)];exact .inl ⟨rfl,fun w=>lP _ c.what w (.inl e)⟩
  ·rw [g (.inr e),if_neg (by simp)];exact .inl ⟨rfl,fun w=>lP _ c.what w (.inr e)⟩
  ·rw [if_pos (by simp [eS,e])]
   exact .inr ⟨167,167,168,169,_,_,rfl,fun w=>by rw [e];exact AK w,i e,q e,fun _ _=>by kernel_rfl,fun _ _=>by kernel_rfl⟩
  ·rw [if_neg (by simp [eS,e,d])];exact .inl ⟨rfl,fun w=>by rw [e];exact SA w⟩
  ·rw [if_neg (by simp [eS,e,d])];exact .inl ⟨rfl,fun w=>by rw [e];exact SC w⟩
  ·rw [if_neg (by simp [eS,e,d])];exact .inl ⟨rfl,fun w=>by rw [e];exact SE w⟩
  rw [if_pos (by simp [eS,e,d])]
  refine .inr ⟨154,154,155,156,_,_,rfl,fun w=>by rw [e];exact AL w,fun a _=>?_,fun a=>?_,fun _ _=>by kernel_rfl,fun _ _=>by kernel_rfl⟩
  ·have:bN t u c=(c.x==2||c.x==3):=by
    unfold bN
    rw [if_neg (by omega),if_neg (by omega),if_neg (by omega),if_neg (by omega),if_pos e]
    simp [d]
   rw [this]
   exact TR _ u c a
  have:eM c=⟨c.unit,c.what,c.x,0,0⟩:=by unfold eM;rw [if_neg (by omega),if_neg (by omega),if_pos e]
  rw [this]
  exact JZ c a
 ·rw [if_neg (by omega),if_pos d]
  rcases sP c.what with e|e|e|e|e|e|e
  ·rw [g (.inl e),if_neg (by simp)];exact .inl ⟨rfl,fun w=>lP _ c.what w (.inl e)⟩
  ·rw [g (.inr e),if_neg (by simp)];exact .inl ⟨rfl,fun w=>lP _ c.what w (.inr e)⟩
  ·rw [if_pos (by simp [eS,e])]
   exact .inr ⟨167,167,168,169,_,_,rfl,fun w=>by rw [e];exact AM w,i e,q e,fun _ _=>by kernel_rfl,fun _ _=>by kernel_rfl⟩
  ·rw [if_pos (by simp [eS,e,d])]
   exact .inr ⟨157,157,158,159,_,_,rfl,fun w=>by rw [e];exact AN w,s e (.inl d),r (.inl e),fun _ _=>by kernel_rfl,fun _ _=>by kernel_rfl⟩
  ·rw [if_pos (by simp [eS,e,d])]
   refine .inr ⟨160,161,158,162,_,_,rfl,fun w=>by rw [e];exact AO w,fun a k=>?_,r (.inr e),fun _ _=>by kernel_rfl,fun _ _=>by kernel_rfl⟩
   have:bN t u c=(aD c.x c.y&&(decide (0 < t.bd (ci c.x c.y))&&decide (t.bd (ci c.x c.y) < 10))):=by
    unfold bN gK
    rw [if_neg (by omega),if_neg (by omega),if_pos e]
    simp [d]
   rw [this]
   exact TU j t.bd u c a (m.fr k (by simp)) (Nat.lt_of_lt_of_le n k.size)
  ·rw [if_neg (by simp [eS,e,d])];exact .inl ⟨rfl,fun w=>by rw [e];exact SF w⟩
  rw [if_neg (by simp [eS,e,d])];exact .inl ⟨rfl,fun w=>by rw [e];exact SG w⟩
 rw [if_neg (by omega),if_neg (by omega)]
 rcases sP c.what with e|e|e|e|e|e|e
 ·rw [g (.inl e),if_neg (by simp)];exact .inl ⟨rfl,fun w=>lP _ c.what w (.inl e)⟩
 ·rw [g (.inr e),if_neg (by simp)];exact .inl ⟨rfl,fun w=>lP _ c.what w (.inr e)⟩
 ·rw [if_pos (by simp [eS,e])]
  exact .inr ⟨167,167,168,169,_,_,rfl,fun w=>by rw [e];exact AP w,i e,q e,fun _ _=>by kernel_rfl,fun _ _=>by kernel_rfl⟩
 ·rw [if_pos (by simp [eS,e,d])]
  exact .inr ⟨157,157,158,159,_,_,rfl,fun w=>by rw [e];exact AQ w,s e (.inr d),r (.inl e),fun _ _=>by kernel_rfl,fun _ _=>by kernel_rfl⟩
 ·rw [if_neg (by simp [eS,e,d])];exact .inl ⟨rfl,fun w=>by rw [e];exact SH w⟩
 ·rw [if_pos (by simp [eS,e,d])]
  refine .inr ⟨163,164,165,166,_,_,rfl,fun w=>by rw [e];exact AR w,fun a k=>?_,fun a=>?_,fun _ _=>by kernel_rfl,fun _ _=>by kernel_rfl⟩
  ·have:bN t u c=gY t.us u.owner c.target:=by
    unfold bN
    rw [if_neg (by omega),if_neg (by omega),if_neg (by omega),if_pos e]
    simp [d]
   rw [this]
   exact TT j v l t.us u c a (h.fr0 k).gv p
  have:eM c=⟨c.unit,c.what,0,0,c.target⟩:=by unfold eM;rw [if_neg (by omega),if_pos e]
  rw [this]
  exact KC c a
 rw [if_neg (by simp [eS,e,d])];exact .inl ⟨rfl,fun w=>by rw [e];exact SI w⟩
theorem JX (u:U)(b:u.kind=1\/u.kind=2\/u.kind=3)(w:World):Cs 121 #[.int .i64 u.kind] w fun e c=>e=.returned (mI u)/\Fr [] w c:=by
 unfold mI
 rcases b with a|a|a
 ·rw [a,if_pos rfl];exact mJ w
 ·rw [a,if_neg (by omega),if_pos rfl];exact jT w
 rw [a,if_neg (by omega),if_neg (by omega)];exact lB w
theorem TL (f d a hb g:Nat)(t:T)(p:Int)(c:Cm)(w:World)(h:TS w f d a hb g t)(b:TOk t) :
  Cs 151 #[.pointer (so f),.int .i64 p,c.val] w fun e j =>
   e=.returned (.bool (dZ t p c).1)/\Fr [d] w j/\TS j f d a hb g (dZ t p c).2:=by
 rw [<- TI]
 exact TN f d a hb g t p c (mZ t c) mI w h b.rise (fun u i=>JX u (b.all u i).kd) (fun u i=>RO f d a hb g t c u w h b.rise (b.all u i).kd)
def Cmds (w:World)(b:Nat)(l:List Cm):Prop:=∀ (i:Nat) (h:i < l.length),w.rangeAt b (i*5) (l[i]'h).cells
theorem Cmds.fr {S:List Nat}{w a:World}{b:Nat}{l:List Cm}(h:Cmds w b l)(c:Fr S w a)(hn:b∉S):Cmds a b l:=fun i hi j v d=>by
 have h1:=h i hi j v d
 rw [c.cell b _ (aI h1) hn];exact h1
theorem Cmds.at {w:World}{b k:Nat}{l:List Cm}{c:Cm}(h:Cmds w b l)(a:l[k]?=some c) :
  w.cell? ⟨b,k*5,none⟩=some (ii c.unit)/\w.cell? ⟨b,k*5+1,none⟩=some (ii c.what)/\w.cell? ⟨b,k*5+2,none⟩=some (ii c.x)/\w.cell? ⟨b,k*5+3,none⟩=some (ii c.y)/\w.cell? ⟨b,k*5+4,none⟩=some (ii c.target):=by
 obtain ⟨hl,rfl⟩:=gs.1 a
 have h1:=h k hl
 exact ⟨h1 0 _ rfl,h1 1 _ rfl,h1 2 _ rfl,h1 3 _ rfl,h1 4 _ rfl⟩
abbrev ints (l:List Nat):List Value:=l.map fun (n:Nat)=>ii (n:Int)
theorem oD:(Tryz.prog.info? 3).map (fun i=>(i.zero,i.size,i.bytes))=some (some (ii 0),1,8):=by kernel_rfl
theorem cG {w:World}{base n:Nat}{e:TypeId}{size:Nat}{v:Value}{xs:List Value}(h:w.ownsRow base e size v n xs){b:Nat}(hb:v.ownBlock=some b):base<=b:=by
 rcases h.2 with ⟨h1,_⟩|⟨g,a,cur,rfl,h1,_⟩
 ·rw [h1] at hb;simp [Value.ownBlock] at hb
 simp [Value.ownBlock] at hb;omega
theorem qD (p:Int)(k:Nat)(c:Cm)(l:List Cm)(t:T):aW p k (c :: l) t=(if (dZ t p c).1=true then (aW p (k+1) l (dZ t p c).2).1 else k :: (aW p (k+1) l (dZ t p c).2).1,(aW p (k+1) l (dZ t p c).2).2):=rfl
structure CmdI (w:World) (tb pb cap hb bb:Nat) (p:Int) (t:T) (l:List Cm) (k:Nat) (v:Value) (wr:World):Prop where
 ex:∃ t' rs,TS wr tb pb cap hb bb t'/\TOk t'/\rs.length<=k/\wr.ownsRow w.heap.size 3 1 v rs.length (ints rs)/\(rs ++ (aW p k (l.drop k) t').1,(aW p k (l.drop k) t').2)=aW p 0 l t
 fr:Fr [pb] w wr
theorem FG (R E F hb S Q lc:Nat)(t:T)(p:Int)(l:List Cm)(w:World)(h:TS w R E F hb S t)(ah:TOk t)(hl:Cmds w Q l)(ae:Q < w.heap.size)(af:Q≠E)(aq:l.length<=2000000) :
  Cs 118 #[.pointer (so R),.int .i64 p,.slice (so Q) l.length lc] w fun e w' =>
   ∃ v,e=.returned v/\Fr [E] w w'/\TS w' R E F hb S (aW p 0 l t).2/\w'.ownsRow w.heap.size 3 1 v (aW p 0 l t).1.length (ints (aW p 0 l t).1):=by
 obtain ⟨ao,ad,al,am,an⟩:=info_parts oD
 have ai:=h.row.lt
 go_enter Tryz.func118,Tryz.ntmps118
 go_wp2_with fail
 go_loopw [7,12] (fun v i wr=>∃ k:Nat,k<=l.length/\i=.int .i64 k/\CmdI w R E F hb S p t l k v wr) (fun _ i _=>l.length - (intOf i).toNat)
 case atStart=>exact ⟨0,Nat.zero_le _,rfl,⟨t,[],h,ah,Nat.le_refl _,⟨rfl,.inl ⟨rfl,rfl⟩⟩,by simp⟩,r0 _ _⟩
 obtain ⟨k,hk,rfl,hI⟩:=hrel
 obtain ⟨⟨X,rs,ht,A,ar,hown,a⟩,s⟩:=hI
 by_cases z:k < l.length
 ·obtain ⟨c,V⟩:∃ c,l[k]?=some c:=⟨l[k],getElem?_eq_getElem z⟩
  have r:l.drop k=c :: l.drop (k+1):=by
   rw [drop_eq_getElem_cons z]
   congr 1
   rw [getElem?_eq_getElem z] at V
   exact Option.some.inj V
  rw [r,qD] at a
  obtain ⟨c0,c1,c2,c3,c4⟩:=(hl.fr s (by simp;exact af)).at V
  have f:=TL R E F hb S X p c (wr.alloc (.cells #[ii c.unit,ii c.what,ii c.x,ii c.y,ii c.target] 81)) (ht.fr0 ((r0 _ _).alloc _)) A
  have d:=(pH A p c (fun _=>True)).1.ok
  have ap:Q < wr.heap.size:=Nat.lt_of_lt_of_le ae s.size
  obtain ⟨B,hB⟩:∃ B,(dZ X p c).1=B:=⟨_,rfl⟩
  obtain ⟨t2,N⟩:∃ x,(dZ X p c).2=x:=⟨_,rfl⟩
  rw [hB,N] at f a
  rw [N] at d
  have HT:=aA f
  have HO:=aA hown
  have I:=aA a
  have Y:=aA s
  clear ht a r V s f hB N hown A hl
  have Zq:=Y.o.size
  have HN:Hi (∀ (W:World) (j:Nat) (u:Value),[ii (k:Int)][j]?=some u->(W.alloc (.cells #[.int .i64 k] 3)).cell? ((⟨W.heap.size,0,none⟩:Addr).add j)=some u):=by
   intro W j u hu
   have hj:j=0:=by
    have:=(gs.1 hu).1
    simp at this
    exact this
   subst hj
   rw [Addr.add_lit,aB (aC W _)]
   simpa using hu
  have K:∀ b,u7.ownBlock=some b->w.heap.size<=b:=fun b hb=>cG HO.o hb
  have J:=aA K
  have aa:Hi (∀ D,Fr [E] (wr.alloc (.cells #[ii c.unit,ii c.what,ii c.x,ii c.y,ii c.target] 81)) D->(D.alloc (.cells #[.int .i64 k] 3)).ownsRow w.heap.size 3 1 u7 rs.length (ints rs)):=fun D hf=>aF (aF (aF HO.o ((r0 [] wr).alloc _) (by simp)) hf (fun b hb=>by have:=K b hb;simp;omega)) ((r0 [] D).alloc _) (by simp)
  clear K
  cases B
  ·go_wp2_with (first|(go_at_call 151;refine Calls.mono HT.o ?_;rintro e D ⟨rfl,m,C⟩)|(at_builtin;refine wpList_append_own _ rfl _ _ 25 rfl w.heap.size 3 ao (ii 0) 1 8 Tryz.underlying25 ad al am an rfl (by decide) u7 rs.length (ints rs) rfl (aa.o _ m) ⟨D.heap.size,0,none⟩ 1 1 [ii (k:Int)] rfl rfl (HN.o D) (by simp [Value.oneCell']) (by unfold maxLen;omega) (by omega) (by have:=m.size;simp at this |-;omega) ?_;intro v' w3 M L ag))
   have P:Fr u7.ownBlock.toList D w3:=((r0 _ _).alloc _).grow L (fun g hg=>.inl (by simp [hg]))
   have O:Fr [E] w D:=(Y.o.alloc _).trans m (by simp)
   have ak:Fr [E] w w3:=O.trans P (fun b hb=>.inr (J.o b (by simpa using hb)))
   have aj:=h.lt
   have ac:=h.held.lt
   have ab:=h.ways.lt
   have H:∀ b,b < w.heap.size->b∉u7.ownBlock.toList:=fun b hb hm=>by
    have:=J.o b (by simpa using hm)
    omega
   go_roundw
   case rel =>
    refine ⟨k+1,z,by go_num,⟨t2,rs ++ [k],C.fr P (H _ aj) (H _ ai) (H _ ac) (H _ ab),d,by simp;omega,?_,?_⟩,ak⟩
    ·simpa using M
    have:=I.o
    simpa using this
   case measure=>simp [intOf];omega
  go_wp2_with (first|(go_at_call 151;refine Calls.mono HT.o ?_;rintro e D ⟨rfl,m,C⟩))
  have O:Fr [E] w D:=(Y.o.alloc _).trans m (by simp)
  go_roundw
  case rel =>
   refine ⟨k+1,z,by go_num,⟨t2,rs,C,d,by omega,?_,?_⟩,O⟩
   ·exact aF (aF HO.o ((r0 [] wr).alloc _) (by simp)) m (fun b hb=>by have:=J.o b hb;simp;omega)
   have:=I.o
   simpa using this
  case measure=>simp [intOf];omega
 have n:=a
 rw [drop_of_length_le (by omega)] at n
 go_wp2_with fail
 go_ret
 have q:(rs,X)=aW p 0 l t:=by simpa [aW] using n
 refine ⟨u7,rfl,s,?_,?_⟩
 ·rw [<- q];exact ht
 rw [<- q];exact hown
