import Derived.Test.YtapabahhfanmmaaGreatDoorCHit
namespace Go.Proofs.YtapabahhfanmmaaGreatDoor
open Go.RowKit
set_option maxRecDepth 100000
set_option maxHeartbeats 4000000
theorem qy5 {P:Program} {ops:Array Oper} {op:Oper} {a:Act} {w:World} {K:Act->World->Prop} {Q:Exit->Act->World->Prop} {E:Prop}
  (hg:op.guard=none) (s x:Operand) (t:TypeId) (hop:op.op=Op.call { callee:=Callee.builtin Builtin.append,args:=#[s,x],argTypes:=#[t,t] })
  (base:Nat) (e:TypeId) (i:TypeInfo) (z:Value) (size bytes:Nat) (ht:P.underlying t=some (.slice e)) (hi:P.info? e=some i) (hz:i.zero=some z)
  (hsize:i.size=size) (hby:i.bytes=bytes) (hzs:z.cells.size=size) (hsz:0 < size)
  (v:Value) (n:Nat) (xs:List Value) (hs:a.eval s=v) (hown:w.ownsRow base e size v n xs)
  (ad:Addr) (m c:Nat) (news:List Value) (hx:a.eval x=.slice (some ad) m c) (hl:news.length=m*size) (hnews:∀ j u,news[j]?=some u->w.cell? (ad.add j)=some u) (h1:∀ u∈news,u.oneCell'=true)
  (h63:n+m<=maxLen) (hbytes:(n+m)*bytes<=140737488355328) (hbase:base<=w.heap.size)
  (hK:∀ v' w',w'.ownsRow base e size v' (n+m) (xs ++ news)->w.grownBy w' v.ownBlock->(v'.ownBlock=v.ownBlock\/v'.ownBlock=some w.heap.size)->K (a.put op.dst v') w') :
  if Region.wanted op (yielded ops a.tmps)=true then Oper.wp P op a w K Q else E:=by
 have hw:Region.wanted op (yielded ops a.tmps)=true:=by simp [Region.wanted,hg]
 rw [if_pos hw]
 obtain ⟨v',w',hr,h2,h3,_,h5⟩:=run_append_own_at (P:=P) w base t op.type e i z size bytes ht hi hz hsize hby hzs hsz v n xs hown ad m c news hl hnews h1 h63 hbytes hbase
 unfold Oper.wp
 simp only [execOp,hop,resolve,invoke,builtin,Sem.run_bind,Sem.run_pure,Result.andThen_ok,List.map_toArray,List.map_cons,List.map_nil,hs,hx,hr]
 exact hK v' w' h2 h3 h5
theorem qq7 {S:List Nat}{w w':World}{base n:Nat}{e:TypeId}{size:Nat}{v:Value}{xs:List Value}(h:w.ownsRow base e size v n xs)(hf:Fr S w w')(hn:∀ b,v.ownBlock=some b->b∉S):w'.ownsRow base e size v n xs:=by
 refine ⟨h.1,?_⟩
 rcases h.2 with h2|⟨g,cap,cur,rfl,hb,hg,r⟩
 ·exact Or.inl h2
 ·exact Or.inr ⟨g,cap,cur,rfl,hb,hf.heap hg (hn g rfl),r⟩
theorem qx0 {w:World}{base n:Nat}{e:TypeId}{size:Nat}{v:Value}{xs:List Value}(h:w.ownsRow base e size v n xs)(hn:0 < n):∃ g cap,v=.slice (some ⟨g,0,none⟩) n cap:=by
 rcases h.2 with ⟨_,h2⟩|⟨g,cap,cur,rfl,_⟩
 ·omega
 ·exact ⟨g,cap,rfl⟩
theorem Fr.grow {S:List Nat}{a b c:World}{row:Option Nat}(h:Fr S a b)(k:b.grownBy c row)(hs:∀ g,row=some g->g∈S\/a.heap.size<=g):Fr S a c:=h.grown k hs
abbrev vz3 (k L:Int)(a1 a2 a3 a4 a5 a6 a7 a8 a9 a10 a11 a12 a13 a14 a15 a16 a17 a18 a19 a20 a21 a22 a23:Value):Prop:=∀ w,Calls Tryz.prog 121 #[.int .i64 k] w fun e w'=>e=.returned (.agg #[ii L,a1,a2,a3,a4,a5,a6,a7,a8,a9,a10,a11,a12,a13,a14,a15,a16,a17,a18,a19,a20,a21,a22,a23])/\Fr [] w w'
abbrev qk4 (id o k x y L:Int):U:=⟨id,o,k,x,y,L,0,0,0,0,0⟩
theorem gy3 (gb base:Nat) (next o k x y L:Int) (a1 a2 a3 a4 a5 a6 a7 a8 a9 a10 a11 a12 a13 a14 a15 a16 a17 a18 a19 a20 a21 a22 a23 v:Value) (us:List U) (w:World) (hk:vz3 k L a1 a2 a3 a4 a5 a6 a7 a8 a9 a10 a11 a12 a13 a14 a15 a16 a17 a18 a19 a20 a21 a22 a23) (hfld:∀ w,(Instr.field 220 (Value.agg #[ii L,a1,a2,a3,a4,a5,a6,a7,a8,a9,a10,a11,a12,a13,a14,a15,a16,a17,a18,a19,a20,a21,a22,a23]) 0).run Tryz.prog w=.ok (ii L) w) (hgb:gb < w.heap.size)
  (hn:w.cell? ⟨gb,1,none⟩=some (ii next)) (hzn:w.frozen? ⟨gb,1,none⟩=false) (hv:w.cell? ⟨gb,148,none⟩=some v) (hzv:w.frozen? ⟨gb,148,none⟩=false) (hown:w.ownsRow base 85 11 v us.length (us.flatMap U.cells)) (hne:v.ownBlock≠some gb)
  (hlen:us.length < 1000) (hnx:0<=next/\next<=1000000000) (hbs:base<=w.heap.size) :
  Calls Tryz.prog 77 #[.pointer (some ⟨gb,0,none⟩),.int .i64 o,.int .i64 k,cv x y] w fun e w' =>
   e=.returned (.tuple #[])/\∃ v',w'.cell? ⟨gb,148,none⟩=some v'/\w'.cell? ⟨gb,1,none⟩=some (ii (next+1))/\w'.ownsRow base 85 11 v' (us.length+1) ((us ++ [qk4 next o k x y L]).flatMap U.cells) /\
    (v'.ownBlock=v.ownBlock\/∃ b,v'.ownBlock=some b/\w.heap.size<=b)/\Fr (gb :: v.ownBlock.toList) w w'/\(∀ j,j≠1->j≠148->w'.cell? ⟨gb,j,none⟩=w.cell? ⟨gb,j,none⟩)/\(∀ j,w'.frozen? ⟨gb,j,none⟩=w.frozen? ⟨gb,j,none⟩):=by
 obtain ⟨W1,hW1⟩:∃ W,W=w.alloc (.cells #[ii x,ii y] 159):=⟨_,rfl⟩
 have hs1:W1.heap.size=w.heap.size+1:=by rw [hW1];simp
 have h01:Fr [] w W1:=by rw [hW1];exact (Fr.refl _ _).alloc _
 have hC:W1.heap[w.heap.size]?=some (.cells #[ii x,ii y] 159):=by rw [hW1,qq6]
 have HS:∀ w',Fr [] W1 w'->(fun w':World=>cl w' gb 1 next/\cl w' w.heap.size 0 x/\cl w' w.heap.size 1 y/\Fr [] W1 w') w':=fun w' hf=>⟨((h01.then0 hf).cell gb 1 hgb (by simp)).trans hn,j9 (hf.heap0 hC),j9 (hf.heap0 hC),hf⟩
 have KF:Fr [] W1 (w.alloc (.cells #[ii x,ii y] 159)).drew:=by rw [hW1];exact (Fr.refl _ _).drew
 have KA:Fr [] W1 ((w.alloc (.cells #[ii x,ii y] 159)).alloc (.cells zeroU.arr 85)).drew:=by rw [hW1];exact ((Fr.refl _ _).alloc _).drew
 have K0:=HS _ KF
 clear hW1
 go_enter Tryz.func77,Tryz.ntmps77
 go_wp2_with fail
 go_cut [8] (fun s8 wx=>∃ b8:Nat,s8=.pointer (some ⟨b8,0,none⟩)/\wx.heap[b8]?=some (.cells (qk4 next o k x y L).arr 85)/\w.heap.size < b8/\Fr [] W1 wx)
 case first =>
  go_region_held (fun w':World=>w'.cell? ⟨gb,1,none⟩=some (ii next)/\w'.cell? ⟨w.heap.size,0,none⟩=some (ii x)/\w'.cell? ⟨w.heap.size,1,none⟩=some (ii y)/\Fr [] W1 w')
   (first|with_reducible exact K0|with_reducible exact HS _ hfr1|with_reducible exact HS _ (hfr1.alloc _)|with_reducible exact HS _ KA|with_reducible exact HS _ (hfr1.set11 (w.heap.size+1) (qk4 next o k x y L) (Or.inr (by omega))))
   (first|(go_at_call 121;refine (hk _).mono ?_;rintro e w1 ⟨rfl,hf1⟩;have hfr1:Fr [] W1 w1:=Fr.then0 (And.right (And.right (And.right (by assumption)))) hf1;obtain ⟨hc1,hz1⟩:=hf1.cells0;have q4:w.heap.size+1<=w1.heap.size:=(by have:=hfr1.size;omega);(first|(have q3:w.heap.size+1 < w1.heap.size:=(by have:=hf1.size;simp at this;omega))|skip)))
  all_goals
   go_wp2_with fail
   go_meet
   (first|(have hb0:w1.heap[w.heap.size+1]?=some (.cells zeroU.arr 85):=hf1.heap0 (by exact qz4 w _ _))|skip)
   refine ⟨_,rfl,?_,by omega,?_⟩
   ·first
    | with_reducible exact qq6 _ _
    | exact set11 (v:=qk4 next o k x y L) hb0
   ·first
    | with_reducible exact hfr1.alloc _
    | exact hfr1.set11 (w.heap.size+1) (qk4 next o k x y L) (Or.inr (by omega))
 case rest =>
  obtain ⟨b8,rfl,hb8,hlt8,hfx⟩:=hcut
  have hwx:=h01.then0 hfx
  have hbx:gb < wc.heap.size:=Nat.lt_of_lt_of_le hgb hwx.size
  have hvx:wc.cell? ⟨gb,148,none⟩=some v:=(hwx.cell gb 148 hgb (by simp)).trans hv
  have hzx:wc.frozen? ⟨gb,148,none⟩=false:=(hwx.frozen gb 148 hgb (by simp)).trans hzv
  have hnx1:wc.cell? ⟨gb,1,none⟩=some (ii next):=(hwx.cell gb 1 hgb (by simp)).trans hn
  have hnz1:wc.frozen? ⟨gb,1,none⟩=false:=(hwx.frozen gb 1 hgb (by simp)).trans hzn
  clear HS K0 KF KA
  have e0:wc.cell? ⟨b8,0,none⟩=some (ii next):=j9 hb8
  have e1:wc.cell? ⟨b8,1,none⟩=some (ii o):=j9 hb8
  have e2:wc.cell? ⟨b8,2,none⟩=some (ii k):=j9 hb8
  have e3:wc.cell? ⟨b8,3,none⟩=some (ii x):=j9 hb8
  have e4:wc.cell? ⟨b8,4,none⟩=some (ii y):=j9 hb8
  have e5:wc.cell? ⟨b8,5,none⟩=some (ii L):=j9 hb8
  have e6:wc.cell? ⟨b8,6,none⟩=some (ii 0):=j9 hb8
  have e7:wc.cell? ⟨b8,7,none⟩=some (ii 0):=j9 hb8
  have e8:wc.cell? ⟨b8,8,none⟩=some (ii 0):=j9 hb8
  have e9:wc.cell? ⟨b8,9,none⟩=some (ii 0):=j9 hb8
  have e10:wc.cell? ⟨b8,10,none⟩=some (ii 0):=j9 hb8
  obtain ⟨inf,hi0,hz0,hz1,hz2⟩:=info_parts jv6
  have hF2:Fr [] w (wc.drew.alloc (.cells (qk4 next o k x y L).arr 85)):=(hwx.drew).alloc _
  have hown2:(wc.drew.alloc (.cells (qk4 next o k x y L).arr 85)).ownsRow base 85 11 v us.length (us.flatMap U.cells):=qq7 hown hF2 (by simp)
  have hsrc:∀ j u,(qk4 next o k x y L).cells[j]?=some u->(wc.drew.alloc (.cells (qk4 next o k x y L).arr 85)).cell? ((⟨wc.heap.size,0,none⟩:Addr).add j)=some u:=by
   intro j u hu
   rw [Addr.add_lit,Nat.zero_add,j9 (show (wc.drew.alloc (.cells (qk4 next o k x y L).arr 85)).heap[wc.heap.size]?=_ from qq6 wc.drew _)]
   simpa using hu
  have HS:=hid hsrc
  have HO:=hid hown2
  have HOW:=hid hown
  have HB8:=hid hb8
  have HFX:=hid hfx
  have HF2:=hid hF2
  have HN2:Hid (v.ownBlock≠some gb):=hne
  have HN:Hid (gb∉v.ownBlock.toList):=by show _∉_;intro h;apply hne;simpa using h
  clear hsrc hown2 hown hb8 hfx hF2
  go_wp2_with fail
  go_cut [] (fun wx=>∃ v',wx.cell? ⟨gb,148,none⟩=some v'/\wx.cell? ⟨gb,1,none⟩=some (ii next)/\wx.ownsRow base 85 11 v' (us.length+1) ((us ++ [qk4 next o k x y L]).flatMap U.cells) /\
    (v'.ownBlock=v.ownBlock\/∃ b,v'.ownBlock=some b/\w.heap.size<=b)/\Fr (gb :: v.ownBlock.toList) w wx/\(∀ j,j≠1->j≠148->wx.cell? ⟨gb,j,none⟩=w.cell? ⟨gb,j,none⟩)/\(∀ j,wx.frozen? ⟨gb,j,none⟩=w.frozen? ⟨gb,j,none⟩))
  case first =>
   go_region_law (refine qy5 rfl (.tmp 27) (.tmp 29) 82 rfl base 85 inf zeroU.val 11 88 Tryz.underlying82 hi0 hz0 hz1 hz2 rfl (by decide) v us.length (us.flatMap U.cells) (by simp [Act.eval]) HO.out ⟨wc.heap.size,0,none⟩ 1 1 (qk4 next o k x y L).cells (by simp [Act.eval]) rfl HS.out (by simp [Value.oneCell']) (by unfold maxLen;omega) (by omega) (by have:=hwx.size;simp;omega) ?_;intro v' w2 hown' hgrow hat;obtain ⟨g',cap',rfl⟩:=qx0 hown' (by omega);have hgf:=Fr.grow (S:=v.ownBlock.toList) (Fr.refl _ _) hgrow (fun g hg=>Or.inl (by simp [hg]));have hv2:w2.cell? ⟨gb,148,none⟩=some v:=(hgf.cell gb 148 (by simp;omega) HN.out).trans ((Fr.cell (Fr.alloc ((Fr.refl [] wc).drew) _) gb 148 hbx (by simp)).trans hvx);have hz2':w2.frozen? ⟨gb,148,none⟩=false:=(hgf.frozen gb 148 (by simp;omega) HN.out).trans ((Fr.frozen (Fr.alloc ((Fr.refl [] wc).drew) _) gb 148 hbx (by simp)).trans hzx))
   all_goals
    go_wp2_with fail
    go_meet
    have hF3:=(HF2.out.of0 (S:=gb :: v.ownBlock.toList)).grow hgrow (fun g hg=>Or.inl (by simp [hg]))
    have hF4:=hF3.setCell ⟨gb,148,none⟩ (.slice (some ⟨g',0,none⟩) (us.length+1) cap') (Or.inl (by simp))
    have hne2:g'≠gb:=by
     rcases hat with h1|h1
     ·intro e;subst e;exact HN2.out h1.symm
     ·intro e;subst e;simp [Value.ownBlock] at h1;omega
    have hcj:∀ j,w2.cell? ⟨gb,j,none⟩=w.cell? ⟨gb,j,none⟩:=fun j=>(hgf.cell gb j (by simp;omega) HN.out).trans (HF2.out.cell gb j hgb (by simp))
    have hfj:∀ j,w2.frozen? ⟨gb,j,none⟩=w.frozen? ⟨gb,j,none⟩:=fun j=>(hgf.frozen gb j (by simp;omega) HN.out).trans (HF2.out.frozen gb j hgb (by simp))
    refine ⟨.slice (some ⟨g',0,none⟩) (us.length+1) cap',qk0 _ _ _ _ _ hv2,?_,?_,?_,hF4,?_,?_⟩
    ·rw [qz1 _ gb 148 gb 1 _ (Or.inr (by omega)),hcj];exact hn
    ·rw [List.flatMap_append,List.flatMap_cons,List.flatMap_nil,List.append_nil]
     exact qq7 hown' ((Fr.refl [gb] w2).setCell _ _ (by simp)) (by intro b hb;simp [Value.ownBlock] at hb;subst hb;simpa using hne2)
    ·rcases hat with h1|h1
     ·exact Or.inl h1
     ·refine Or.inr ⟨_,h1,?_⟩
      have:=hwx.size
      simp
      omega
    ·intro j hj1 hj2
     rw [qz1 _ gb 148 gb j _ (Or.inr (by omega)),hcj]
    ·intro j
     rw [World.frozen?_setCell];exact hfj j
  case rest =>
   obtain ⟨v',hv',hn',hown',hat,hfy,hcj,hfj⟩:=hcut
   have hzn':wc.frozen? ⟨gb,1,none⟩=false:=(hfj 1).trans hzn
   have hnn:next<=1000000000:=hnx.2
   have hnn':0<=next:=hnx.1
   have HN':=(show Hid _ from hv')
   have HO':=(show Hid _ from hown')
   clear hv' hown'
   go_wp2_with fail
   refine bodyPost_end (v:=.tuple #[]) (results_none rfl _ _ _) rfl ⟨rfl,v',?_,?_,?_,hat,hfy.setCell _ _ (Or.inl (by simp)),?_,?_⟩
   ·rw [qz1 _ gb 1 gb 148 _ (Or.inr (by omega))];exact HN'.out
   ·exact qk0 _ _ _ _ _ hn'
   ·refine qq7 HO'.out ((Fr.refl [gb] wc).setCell _ _ (by simp)) ?_
    intro b hb
    simp
    rcases hat with h1|⟨b',h1,h2⟩
    ·intro e;subst e;exact hne (h1.symm.trans hb)
    ·rw [hb] at h1;cases h1;omega
   ·intro j h1 h2
    rw [qz1 _ gb 1 gb j _ (Or.inr (by omega))];exact hcj j h1 h2
   ·intro j
    rw [World.frozen?_setCell];exact hfj j
abbrev jy2 (L:Int)(a1 a2 a3 a4 a5 a6 a7 a8 a9 a10 a11 a12 a13 a14 a15 a16 a17 a18 a19 a20 a21 a22 a23:Value):Prop:=∀ w,(Instr.field 220 (Value.agg #[ii L,a1,a2,a3,a4,a5,a6,a7,a8,a9,a10,a11,a12,a13,a14,a15,a16,a17,a18,a19,a20,a21,a22,a23]) 0).run Tryz.prog w=.ok (ii L) w
def T.added (t:T)(o k x y L:Int):T:={ t with us:=t.us ++ [qk4 t.next o k x y L],next:=t.next+1 }
theorem qjq5 (tb pb cap hb bb:Nat)(t:T)(o k x y L:Int)(a1 a2 a3 a4 a5 a6 a7 a8 a9 a10 a11 a12 a13 a14 a15 a16 a17 a18 a19 a20 a21 a22 a23:Value)(w:World)(h:TS w tb pb cap hb bb t)(hk:vz3 k L a1 a2 a3 a4 a5 a6 a7 a8 a9 a10 a11 a12 a13 a14 a15 a16 a17 a18 a19 a20 a21 a22 a23)(hfld:jy2 L a1 a2 a3 a4 a5 a6 a7 a8 a9 a10 a11 a12 a13 a14 a15 a16 a17 a18 a19 a20 a21 a22 a23)(hlen:t.us.length < 1000)(hnx:0<=t.next/\t.next<=1000000000) :
  Calls Tryz.prog 77 #[.pointer (some ⟨tb,0,none⟩),.int .i64 o,.int .i64 k,cv x y] w fun e w' =>
   e=.returned (.tuple #[])/\∃ pb' cap',TS w' tb pb' cap' hb bb (t.added o k x y L)/\Fr [tb,pb] w w'/\(pb'=pb\/w.heap.size<=pb'):=by
 have htl:=h.lt
 have hpl:=h.row.lt
 have hhl:=h.held.lt
 have hbl:=h.ways.lt
 have hz:=h.z
 have hown:w.ownsRow 1 85 11 (.slice (some ⟨pb,0,none⟩) t.us.length cap) t.us.length (t.us.flatMap U.cells):=by
  obtain ⟨cur,hh,hs,ht⟩:=h.row.h
  exact ⟨jv5 _,Or.inr ⟨pb,cap,cur,rfl,hz.2.1,hh,h.row.le,h.row.cap,hs,ht⟩⟩
 have hn:w.cell? ⟨tb,1,none⟩=some (ii t.next):=by have:=h.cell 1 (by omega);simpa [qq9] using this
 have hv:=h.gv.c
 refine (gy3 tb 1 t.next o k x y L a1 a2 a3 a4 a5 a6 a7 a8 a9 a10 a11 a12 a13 a14 a15 a16 a17 a18 a19 a20 a21 a22 a23 _ t.us w hk hfld htl hn (h.fz 1) hv (h.fz 148) hown (by simp [Value.ownBlock];exact fun e=>h.n1 e.symm) hlen hnx (by omega)).mono ?_
 rintro e w' ⟨rfl,v',hv',hn',hown',hat,hfr,hcj,hfj⟩
 refine ⟨rfl,?_⟩
 obtain ⟨g',cap',hvv,hb',hrow⟩:=PRow.of_owns (us:=t.us ++ [qk4 t.next o k x y L]) hown' (by simp) (by omega)
 subst hvv
 have hfr':Fr [tb,pb] w w':=by simpa [Value.ownBlock] using hfr
 have hg:g'=pb\/w.heap.size<=g':=by
  rcases hat with h1|⟨b,h1,h2⟩
  ·simp [Value.ownBlock] at h1;exact Or.inl h1
  ·simp [Value.ownBlock] at h1;subst h1;exact Or.inr h2
 have hll:(t.us ++ [qk4 t.next o k x y L]).length=t.us.length+1:=by simp
 refine ⟨g',cap',⟨?_,?_,hrow,?_,h.held.fr hfr' ?_,h.ways.fr hfr' ?_,?_,h.n2,h.n3,?_,?_,h.n6,?_⟩,hfr',hg⟩
 ·intro j hj
  by_cases h1:j=1
  ·subst h1;rw [hn'];simp [qq9,T.added]
  ·by_cases h2:j=148
   ·subst h2;rw [hv'];simp [qq9,T.added]
   ·rw [hcj j h1 h2,h.cell j hj]
    unfold qq9 T.added
    simp [h1,h2]
 ·intro j;rw [hfj];exact h.fz j
 ·show (t.us ++ [qk4 t.next o k x y L]).length<=1000
  omega
 ·simp;exact ⟨fun e=>h.n2 e.symm,fun e=>h.n4 e.symm⟩
 ·simp;exact ⟨fun e=>h.n3 e.symm,fun e=>h.n5 e.symm⟩
 ·rcases hg with e|e
  ·rw [e];exact h.n1
  ·omega
 ·rcases hg with e|e
  ·rw [e];exact h.n4
  ·omega
 ·rcases hg with e|e
  ·rw [e];exact h.n5
  ·omega
 ·exact ⟨hz.1,by omega,hz.2.2⟩
def zq6 (k:Int):Int:=if k=2 then 5 else if k=3 then 8 else 0
def qx9 (k:Int):Int:=if k=1 then 40 else if k=2 then 8 else 12
def qj7 (t:T)(u:U):U×T :=
 if t.stock u.owner < zq6 u.tox then (u,t)
 else if 100<=t.us.length then (u,t)
 else if 1000000000<=t.next then (u,t)
 else match (qj0 u.x u.y).find? (fun c=>qv3 (qx2 t.held) t.bd c.1 c.2) with
  | none=>(u,t)
  | some c=>(u.idle,T.added { t.setStock u.owner (t.stock u.owner - zq6 u.tox) with held:=fun k=>if k=c then some t.next else t.held k } u.owner u.tox c.1 c.2 (qx9 u.tox))
theorem TS.setStock {w:World}{tb pb cap hb bb:Nat}{t:T}(h:TS w tb pb cap hb bb t)(o v:Int)(ho:o=0\/o=1):TS (w.setCell ⟨tb,2+o.toNat,none⟩ (.int .i64 v)) tb pb cap hb bb (t.setStock o v):=by
 have hf:Fr [tb] w (w.setCell ⟨tb,2+o.toNat,none⟩ (.int .i64 v)):=(Fr.refl _ _).setCell _ _ (by simp)
 have hus:(t.setStock o v).us=t.us:=by unfold T.setStock;split <;> rfl
 have hhe:(t.setStock o v).held=t.held:=by unfold T.setStock;split <;> rfl
 refine ⟨?_,?_,?_,?_,?_,?_,h.n1,h.n2,h.n3,h.n4,h.n5,h.n6,h.z⟩
 ·intro j hj
  rw [hus]
  rcases ho with rfl|rfl
  ·by_cases h2:j=2
   ·subst h2
    rw [show (2:Nat)+Int.toNat 0=2 from rfl,qk0 _ _ _ _ _ (h.cell 2 (by omega))]
    simp [qq9,T.setStock]
   ·rw [show (2:Nat)+Int.toNat 0=2 from rfl,qz1 _ tb 2 tb j _ (Or.inr (by omega)),h.cell j hj]
    exact congrArg some (vw7 t v _ hb bb j h2).symm
  ·by_cases h2:j=3
   ·subst h2
    rw [show (2:Nat)+Int.toNat 1=3 from rfl,qk0 _ _ _ _ _ (h.cell 3 (by omega))]
    simp [qq9,T.setStock]
   ·rw [show (2:Nat)+Int.toNat 1=3 from rfl,qz1 _ tb 3 tb j _ (Or.inr (by omega)),h.cell j hj]
    exact congrArg some (vw8 t v _ hb bb j h2).symm
 ·intro j;rw [World.frozen?_setCell];exact h.fz j
 ·rw [hus];exact h.row.fr hf (by simp;exact fun e=>h.n1 e.symm)
 ·rw [hus];exact h.len
 ·rw [hhe];exact h.held.fr hf (by simp;exact fun e=>h.n2 e.symm)
 ·exact h.ways.fr hf (by simp;exact fun e=>h.n3 e.symm)
theorem TS.setHeld {w w':World}{tb pb cap hb bb:Nat}{t:T}(h:TS w tb pb cap hb bb t)(hf:Fr [hb] w w')(h':Cl->Option Int)(hm:MapF w' hb (qx2 h')):TS w' tb pb cap hb bb { t with held:=h' } :=
 { h with
  cell:=fun k hk=>by rw [hf.cell tb k h.lt (by simp;exact h.n2)];exact h.cell k hk
  fz:=fun k=>by rw [hf.frozen tb k h.lt (by simp;exact h.n2)];exact h.fz k
  row:=h.row.fr hf (by simp;exact h.n4)
  held:=hm
  ways:=h.ways.fr hf (by simp;exact fun e=>h.n6 e.symm) }
theorem xj0 (tb pb cap hb bb:Nat) (t:T) (u:U) (L C:Int) (a2 a3 a4 a5 a6 a7 a8 a9 a10 a11 a12 a13 a14 a15 a16 a17 a18 a19 a20 a21 a22 a23:Value) (w:World) (hk:vz3 u.tox L (ii C) a2 a3 a4 a5 a6 a7 a8 a9 a10 a11 a12 a13 a14 a15 a16 a17 a18 a19 a20 a21 a22 a23) (hfld:jy2 L (ii C) a2 a3 a4 a5 a6 a7 a8 a9 a10 a11 a12 a13 a14 a15 a16 a17 a18 a19 a20 a21 a22 a23) (hL:qx9 u.tox=L) (hC:zq6 u.tox=C)
  (h:TS w tb pb cap hb bb t) (hsd:Sd w) (hon:onB u.x u.y=true) (hown:u.owner=0\/u.owner=1) (hnx:0<=t.next) (hst:0<=t.stock u.owner/\t.stock u.owner<=1000000000) (hCC:0<=C/\C<=10) (hone:(#[ii L,ii C,a2,a3,a4,a5,a6,a7,a8,a9,a10,a11,a12,a13,a14,a15,a16,a17,a18,a19,a20,a21,a22,a23]:Array Value).all (·.oneCell')=true) :
  Calls Tryz.prog 156 #[.pointer (some ⟨tb,0,none⟩),u.val] w fun e w' =>
   e=.returned (qj7 t u).1.val/\∃ pb' cap',Fr [tb,pb,hb,bb] w w'/\TS w' tb pb' cap' hb bb (qj7 t u).2/\(pb'=pb\/w.heap.size<=pb'):=by
 have hz:=h.z
 have hbl:=h.ways.lt
 have hhl:=h.held.lt
 have htl:=h.lt
 have hpl:=h.row.lt
 obtain ⟨W2,hW2⟩:∃ W,W=(w.alloc (.cells u.arr 85)).alloc (.cells zeroU.arr 85):=⟨_,rfl⟩
 have hs2:W2.heap.size=w.heap.size+1+1:=by rw [hW2];simp
 have h02:Fr [] w W2:=by rw [hW2];exact ((Fr.refl _ _).alloc _).alloc _
 have hU:W2.heap[w.heap.size]?=some (.cells u.arr 85):=by rw [hW2,qz8]
 have hR:W2.heap[w.heap.size+1]?=some (.cells zeroU.arr 85):=by rw [hW2,qz4]
 have KF:Fr [] W2 ((w.alloc (.cells u.arr 85)).alloc (.cells zeroU.arr 85)):=by rw [hW2];exact Fr.refl _ _
 clear hW2
 have HO:=hid hone
 clear hone
 go_enter Tryz.func156,Tryz.ntmps156
 go_wp2_with fail
 refine (hk _).mono ?_
 rintro e w3 ⟨rfl,hf3⟩
 go_wp2_with (refine yw6 rfl 220 _ _ rfl w3.heap.size 0 #[ii L,ii C,a2,a3,a4,a5,a6,a7,a8,a9,a10,a11,a12,a13,a14,a15,a16,a17,a18,a19,a20,a21,a22,a23] kz #[ii L,ii C,a2,a3,a4,a5,a6,a7,a8,a9,a10,a11,a12,a13,a14,a15,a16,a17,a18,a19,a20,a21,a22,a23] 220 rfl rfl rfl qy8 HO.out (by simp) rfl ?_)
 have hl:w.heap.size+1 < W2.heap.size:=by omega
 have hfg:Fr [] W2 (w3.alloc (.cells #[ii L,ii C,a2,a3,a4,a5,a6,a7,a8,a9,a10,a11,a12,a13,a14,a15,a16,a17,a18,a19,a20,a21,a22,a23] 220)):=(KF.then0 hf3).alloc _
 have hgg:(w3.alloc (.cells #[ii L,ii C,a2,a3,a4,a5,a6,a7,a8,a9,a10,a11,a12,a13,a14,a15,a16,a17,a18,a19,a20,a21,a22,a23] 220)).heap[w3.heap.size]?=some (.cells #[ii L,ii C,a2,a3,a4,a5,a6,a7,a8,a9,a10,a11,a12,a13,a14,a15,a16,a17,a18,a19,a20,a21,a22,a23] 220):=qq6 _ _
 have hlg:w.heap.size+1 < w3.heap.size:=Nat.lt_of_lt_of_le hl (KF.then0 hf3).size
 obtain ⟨g,hg⟩:∃ g,g=w3.heap.size:=⟨_,rfl⟩
 obtain ⟨WG,hWG⟩:∃ W,W=w3.alloc (.cells #[ii L,ii C,a2,a3,a4,a5,a6,a7,a8,a9,a10,a11,a12,a13,a14,a15,a16,a17,a18,a19,a20,a21,a22,a23] 220):=⟨_,rfl⟩
 rw [<- hWG] at hfg hgg |-
 rw [<- hg] at hgg hlg |-
 have hwg:=h02.then0 hfg
 have hug:=hfg.heap0 hU
 have hrg:=hfg.heap0 hR
 have htg:=h.fr0 hwg
 have hsg:=hsd.fr0 hwg
 have HRG:=hid hrg
 clear hWG hg hf3 hrg KF hU hR
 have u1:WG.cell? ⟨w.heap.size,1,none⟩=some (ii u.owner):=j9 hug
 have kc1:WG.cell? ⟨g,1,none⟩=some (ii C):=j9 hgg
 have c1:WG.cell? ⟨tb,1,none⟩=some (ii t.next):=by have:=htg.cell 1 (by omega);simpa [qq9] using this
 have c148:=htg.gv.c
 have hlen:=h.len
 have hst0:WG.cell? ⟨tb,2+u.owner.toNat,none⟩=some (ii (t.stock u.owner)):=by
  rcases hown with ho|ho
  ·rw [ho];have:=htg.cell 2 (by omega);simpa [qq9,T.stock] using this
  ·rw [ho];have:=htg.cell 3 (by omega);simpa [qq9,T.stock] using this
 obtain ⟨st,hst'⟩:∃ s,t.stock u.owner=s:=⟨_,rfl⟩
 rw [hst'] at hst0 hst
 have HST:=(show Hid _ from hst')
 have HCC:=hid hC
 have HLL:=hid hL
 have ho1:0<=u.owner:=by rcases hown with ho|ho <;> omega
 have ho2:u.owner < 2:=by rcases hown with ho|ho <;> omega
 clear hst' hC hL
 rw [show ∀ a:Act,a.put none undef=a from fun _=>rfl]
 go_cut [38] (fun s38 wx=>s38=.bool (decide (st < C)||(decide (100<=t.us.length)||decide (1000000000<=t.next)))/\Fr [] WG wx)
 case first =>
  by_cases hA:st < C
  ·go_quiet (fail)
   go_wp2_with fail
   go_meet
   exact ⟨by simp [hA],(Fr.refl _ _).drewN _⟩
  ·by_cases hB:100<=t.us.length
   ·have hBi:(100:Int)<=(t.us.length:Int):=by omega
    go_quiet (fail)
    go_wp2_with fail
    go_meet
    exact ⟨by simp [hB],(Fr.refl _ _).drewN _⟩
   ·have hBi:¬ ((100:Int)<=(t.us.length:Int)):=by omega
    go_quiet (fail)
    go_wp2_with fail
    go_meet
    exact ⟨by simp [hB];omega,(Fr.refl _ _).drewN _⟩
 case rest =>
  obtain ⟨rfl,hfy⟩:=hcut
  have hwy:=hwg.then0 hfy
  have huy:=hfy.heap0 hug
  have hgy:=hfy.heap0 hgg
  have hry:=hfy.heap0 HRG.out
  have hty:=htg.fr0 hfy
  have hsy:=hsg.fr0 hfy
  have HRY:=hid hry
  clear hug hgg htg hsg hry HRG u1 kc1 c1 c148 hst0
  obtain ⟨D,hD⟩:∃ D,(decide (st < C)||(decide (100<=t.us.length)||decide (1000000000<=t.next)))=D:=⟨_,rfl⟩
  rw [hD]
  have HD:=hid hD
  clear hD
  cases D
  ·have hu':∀ j,wc.cell? ⟨w.heap.size,j,none⟩=u.arr[j]?:=fun j=>j9 huy
   obtain ⟨p0,p1,p2,p3⟩:=qz3.1 hon
   go_wp2_with (first|(refine wpList_load_row rfl 85 _ rfl w.heap.size rfl 85 u.arr (0,0) _ huy Tryz.underlying85 rfl qq5 ?_)|(go_at_call 192;refine (qv2 u _).mono ?_;rintro e w4 ⟨rfl,hf4⟩)|(go_at_call 198;refine (jq4 u.x u.y _ (hsy.fr0 hf4) (by omega) (by omega) (by omega) (by omega)).mono ?_;rintro e w5 ⟨nv,rfl,hf5,hnown⟩;obtain ⟨gn,capn,hnv,hgn,hgnl⟩:=jw6 hnown (vk3 u.x u.y hon);subst hnv))
   have hf45:=hf4.then0 hf5
   have hnl:=vk2 u.x u.y
   clear hu'
   go_loopw [44] (fun i wr=>∃ m:Nat,i=.int .i64 m/\m<=(qj0 u.x u.y).length/\(∀ j c,j < m->(qj0 u.x u.y)[j]?=some c->qv3 (qx2 t.held) t.bd c.1 c.2=false)/\Fr [] w5 wr) (fun i _=>4 - (intOf i).toNat)
   case atStart=>exact ⟨0,rfl,Nat.zero_le _,fun j c hj=>by omega,Fr.refl _ _⟩
   case round =>
    obtain ⟨m,rfl,hml,hno,hfr⟩:=hrel
    have hfw:=hf45.then0 hfr
    have hwr:=hwy.then0 hfw
    have hur:=hfw.heap0 huy
    have hgr:=hfw.heap0 hgy
    have hrr:=hfw.heap0 HRY.out
    have htr:=hty.fr0 hfw
    have hnr:=qq8 hnown hfr (by simp)
    have HRR:=hid hrr
    have HNO:=hid hno
    clear hrr hno
    by_cases hmlt:m < (qj0 u.x u.y).length
    ·obtain ⟨⟨nx,ny⟩,hn⟩:∃ c,(qj0 u.x u.y)[m]?=some c:=⟨(qj0 u.x u.y)[m],List.getElem?_eq_getElem hmlt⟩
     obtain ⟨gn',capn',hge,_,n0,n1⟩:=yz8 hnr rfl hn
     obtain ⟨rfl,rfl⟩:gn'=gn/\capn'=capn:=by simp at hge;exact ⟨hge.1.symm,hge.2.symm⟩
     have hnon:onB nx ny=true:=jk0 u.x u.y (nx,ny) (List.mem_of_getElem? hn)
     obtain ⟨F,hF⟩:∃ F,qv3 (qx2 t.held) t.bd nx ny=F:=⟨_,rfl⟩
     have HF:=hid hF
     have HN:=hid hn
     have hal:∀ o,Fr [] wr (wr.alloc o):=fun o=>(Fr.refl _ _).alloc o
     clear hge hF hn
     go_wp2_with fail
     refine (vx4 tb hb (qx2 t.held) t.bd nx ny _ (htr.fr0 (hal _)).tv hnon).mono ?_
     rintro e w6 ⟨rfl,hf6⟩
     rw [HF.out]
     have hf6':=(hal _).then0 hf6
     have hcc:=hf6.heap0 (qq6 wr _)
     cases F
     ·go_wp2_with fail
      go_roundw
      case rel =>
       refine ⟨m+1,by go_num,hmlt,fun j c hj hc=>?_,hfr.then0 hf6'⟩
       rcases Nat.lt_or_ge j m with h1|h1
       ·exact HNO.out j c h1 hc
       ·have:j=m:=by omega
        subst this
        rw [HN.out] at hc
        cases hc
        exact HF.out
      case measure=>simp [intOf];omega
     ·obtain ⟨gc,hgc⟩:∃ g,g=wr.heap.size:=⟨_,rfl⟩
      rw [<- hgc] at hcc |-
      have hlc:w.heap.size+1 < gc:=by rw [hgc];exact qq2 HRR.out
      have hlc2:g < gc:=by rw [hgc];exact qq2 hgr
      have hlc3:tb < gc/\pb < gc/\hb < gc/\bb < gc:=by rw [hgc];exact ⟨htr.lt,htr.row.lt,htr.held.lt,htr.ways.lt⟩
      have ht6:=htr.fr0 hf6'
      have hu6:=hf6'.heap0 hur
      have hg6:=hf6'.heap0 hgr
      have hr6:=hf6'.heap0 HRR.out
      have hw6:=hwr.then0 hf6'
      have htl6:=ht6.lt
      have HR6:=hid hr6
      have HA:Hid (qj7 t u=(u.idle,T.added { t.setStock u.owner (st - C) with held:=fun k=>if k=(nx,ny) then some t.next else t.held k } u.owner u.tox nx ny L)):=by
       have hd:=HD.out
       simp only [Bool.or_eq_false_iff,decide_eq_false_iff_not] at hd
       have hfind:(qj0 u.x u.y).find? (fun c=>qv3 (qx2 t.held) t.bd c.1 c.2)=some (nx,ny):=by
        obtain ⟨hl1,hl2⟩:=List.getElem?_eq_some_iff.1 HN.out
        rw [List.find?_eq_some_iff_getElem]
        exact ⟨HF.out,m,hl1,hl2,fun j hj=>by rw [HNO.out j _ hj (List.getElem?_eq_getElem (by omega))];rfl⟩
       show _=_
       unfold qj7
       rw [HST.out,HCC.out,HLL.out,if_neg hd.1,if_neg hd.2.1,if_neg hd.2.2,hfind]
      clear HRR HNO HN HF hnr hr6 hur hgr hgc hal hf6' hf6 n0 n1
      have u1:w6.cell? ⟨w.heap.size,1,none⟩=some (ii u.owner):=j9 hu6
      have kc1:w6.cell? ⟨g,1,none⟩=some (ii C):=j9 hg6
      have hst0:w6.cell? ⟨tb,2+u.owner.toNat,none⟩=some (ii st):=by
       rw [<- HST.out]
       rcases hown with ho|ho
       ·rw [ho];have:=ht6.cell 2 (by omega);simpa [qq9,T.stock] using this
       ·rw [ho];have:=ht6.cell 3 (by omega);simpa [qq9,T.stock] using this
      have hsz0:=ht6.fz (2+u.owner.toNat)
      obtain ⟨hst1,hst2⟩:=hst
      obtain ⟨hC1,hC2⟩:=hCC
      go_wp2_with fail
      go_cut [] (fun wx=>Fr [tb] w6 wx/\TS wx tb pb cap hb bb (t.setStock u.owner (st - C)))
      case first =>
       go_region
       go_wp2_with fail
       go_meet
       exact ⟨((Fr.refl _ _).drew).setCell _ _ (by simp),(ht6.fr0 ((Fr.refl [] w6).drew)).setStock u.owner (st - C) hown⟩
      case rest =>
       obtain ⟨hf7,ht7⟩:=hcut
       have hnx7:(t.setStock u.owner (st - C)).next=t.next:=by unfold T.setStock;split <;> rfl
       have hus7:(t.setStock u.owner (st - C)).us=t.us:=by unfold T.setStock;split <;> rfl
       have hhe7:(t.setStock u.owner (st - C)).held=t.held:=by unfold T.setStock;split <;> rfl
       obtain ⟨t7,ht7e⟩:∃ t7,t.setStock u.owner (st - C)=t7:=⟨_,rfl⟩
       rw [ht7e] at ht7 hnx7 hus7 hhe7
       rw [ht7e] at HA
       have hc7:=hf7.heap hcc (by simp;omega)
       have hu7:=hf7.heap hu6 (by simp;omega)
       have hg7:=hf7.heap hg6 (by simp;omega)
       have hr7:=hf7.heap HR6.out (by simp;omega)
       have hw7:Fr [tb] w wc:=(hw6.of0 (S:=[tb])).trans hf7 (by simp)
       have HR7:=hid hr7
       have c1:wc.cell? ⟨tb,1,none⟩=some (ii t.next):=by rw [<- hnx7];have:=ht7.cell 1 (by omega);simpa [qq9] using this
       have c149:=ht7.tv.c
       obtain ⟨wu,hup,hmu,hfu,hszu⟩:=jw9 (ht7.held.fr ((Fr.refl [] wc).drew) (by simp)) 205 3 Tryz.underlying205 nx ny (ii t.next)
       have hfu':Fr [hb] wc wu:=((Fr.refl [hb] wc).drew).trans hfu (by simp)
       have hmu':MapF wu hb (qx2 (fun k=>if k=(nx,ny) then some t.next else t.held k)):=by
        refine hmu.of_eq ?_
        intro k
        show _=Option.map _ (if k=(nx,ny) then some t.next else t.held k)
        rw [hhe7]
        by_cases hk:k=(nx,ny)
        ·rw [if_pos hk,if_pos hk];rfl
        ·rw [if_neg hk,if_neg hk]
       have K3:(fun w':World=>w'.cell? ⟨gc,0,none⟩=some (ii nx)/\w'.cell? ⟨gc,1,none⟩=some (ii ny)/\w'.cell? ⟨tb,149,none⟩=some (.map (some hb))/\w'.cell? ⟨tb,1,none⟩=some (ii t.next)) wc.drew:=⟨j9 (show wc.drew.heap[gc]?=_ from hc7),j9 (show wc.drew.heap[gc]?=_ from hc7),c149,c1⟩
       have hcu:=hfu'.heap hc7 (by simp;omega)
       have K4:(fun w':World=>w'.cell? ⟨gc,0,none⟩=some (ii nx)/\w'.cell? ⟨gc,1,none⟩=some (ii ny)/\w'.cell? ⟨tb,149,none⟩=some (.map (some hb))/\w'.cell? ⟨tb,1,none⟩=some (ii t.next)) wu:=⟨j9 hcu,j9 hcu,(hfu'.cell tb 149 ht7.lt (by simp;exact ht7.n2)).trans c149,(hfu'.cell tb 1 ht7.lt (by simp;exact ht7.n2)).trans c1⟩
       have ht8:TS wu tb pb cap hb bb { t7 with held:=fun k=>if k=(nx,ny) then some t.next else t.held k }:=ht7.setHeld hfu' _ hmu'
       clear hcc hu6 hg6 u1 kc1 hst0 hsz0 ht6 hty htr htl6
       go_wp2_with fail
       go_cut [] (fun wx=>wu=wx)
       case first =>
        go_region_held (fun w':World=>w'.cell? ⟨gc,0,none⟩=some (ii nx)/\w'.cell? ⟨gc,1,none⟩=some (ii ny)/\w'.cell? ⟨tb,149,none⟩=some (.map (some hb))/\w'.cell? ⟨tb,1,none⟩=some (ii t.next))
         (first|exact K3|exact K4)
         (fail)
        all_goals
         go_wp2_with fail
         go_meet
         rfl
       case rest =>
        obtain rfl:=hcut
        have hu8:=hfu'.heap hu7 (by simp;omega)
        have hr8:=hfu'.heap HR7.out (by simp;omega)
        have hw8:Fr [tb,hb] w wu:=(hw7.mono (S':=[tb,hb]) (by simp)).trans hfu' (by simp)
        have HR8:=hid hr8
        have hr8':=hr8
        have u1:wu.cell? ⟨w.heap.size,1,none⟩=some (ii u.owner):=j9 hu8
        have u8':wu.cell? ⟨w.heap.size,8,none⟩=some (ii u.tox):=j9 hu8
        have q0:wu.cell? ⟨gc,0,none⟩=some (ii nx):=K4.1
        have q1:wu.cell? ⟨gc,1,none⟩=some (ii ny):=K4.2.1
        have htl8:=ht8.lt
        have HS9:∀ w',Fr [tb,pb] wu w'->(fun w':World=>w'.cell? ⟨gc,0,none⟩=some (ii nx)/\w'.cell? ⟨gc,1,none⟩=some (ii ny)/\w'.cell? ⟨w.heap.size,1,none⟩=some (ii u.owner)/\w'.cell? ⟨w.heap.size,8,none⟩=some (ii u.tox)) w':=fun w' hf=>by
         have h1:=hf.heap hu8 (by simp;omega)
         have h2:=hf.heap hcu (by simp;omega)
         exact ⟨j9 h2,j9 h2,j9 h1,j9 h1⟩
        have K9:=HS9 wu.drew ((Fr.refl _ _).drew)
        have hlt:t.us.length < 100/\t.next < 1000000000:=by
         have hd:=HD.out
         simp only [Bool.or_eq_false_iff,decide_eq_false_iff_not] at hd
         omega
        obtain ⟨t8,ht8e⟩:∃ t8,({ t7 with held:=fun k=>if k=(nx,ny) then some t.next else t.held k }:T)=t8:=⟨_,rfl⟩
        have hn8:t8.next=t.next:=by rw [<- ht8e];exact hnx7
        have hus8:t8.us=t.us:=by rw [<- ht8e];exact hus7
        rw [ht8e] at ht8 HA
        have HADD:=qjq5 tb pb cap hb bb t8 u.owner u.tox nx ny L (ii C) a2 a3 a4 a5 a6 a7 a8 a9 a10 a11 a12 a13 a14 a15 a16 a17 a18 a19 a20 a21 a22 a23 wu.drew (ht8.fr0 ((Fr.refl [] wu).drew)) hk hfld (by rw [hus8];omega) (by rw [hn8];omega)
        clear K3 K4 hup hmu hfu c1 c149 hu7 hg7 hc7 hcu HR7 HR6
        go_wp2_with fail
        go_cut [] (fun wx=>∃ pb' cap',TS wx tb pb' cap' hb bb (t8.added u.owner u.tox nx ny L)/\Fr [tb,pb] wu wx/\(pb'=pb\/wu.heap.size<=pb'))
        case first =>
         go_region_held (fun w':World=>w'.cell? ⟨gc,0,none⟩=some (ii nx)/\w'.cell? ⟨gc,1,none⟩=some (ii ny)/\w'.cell? ⟨w.heap.size,1,none⟩=some (ii u.owner)/\w'.cell? ⟨w.heap.size,8,none⟩=some (ii u.tox))
          (first|with_reducible exact K9|with_reducible exact HS9 _ hfm)
          (first|(go_at_call 77;refine HADD.mono ?_;rintro e w9 ⟨rfl,pb',cap',ht9,hf9,hp9⟩;have hfm:Fr [tb,pb] wu w9:=Fr.trans ((Fr.refl _ _).drew) hf9 (by simp)))
         all_goals
          go_wp2_with fail
          go_meet
          exact ⟨pb',cap',ht9,hfm,hp9⟩
        case rest =>
         obtain ⟨pb',cap',ht9,hf9,hp9⟩:=hcut
         have hu9:=hf9.heap hu8 (by simp;omega)
         have hr9:=hf9.heap HR8.out (by simp;omega)
         have hw9:Fr [tb,pb,hb,bb] w wc:=(hw8.mono (S':=[tb,pb,hb,bb]) (by simp)).trans hf9 (by simp)
         have HR9:=hid hr9
         have hpl9:=ht9.row.lt
         clear HS9 K9 HADD hr9 hr8 HR8
         go_wp2_with (first|(refine wpList_load_row rfl 85 _ rfl w.heap.size rfl 85 u.arr (0,0) _ hu9 Tryz.underlying85 rfl qq5 ?_)|(go_at_call 200;refine (yx4 u _).mono ?_;rintro e w10 ⟨rfl,hf10⟩;have hr10:=hf10.heap0 HR9.out;have HR10:=(hid hr10);clear hr10)|(refine wpList_store_row rfl 85 _ _ rfl (w.heap.size+1) u.idle.arr rfl rfl 85 _ HR10.out qq5 rfl (U.one _) ?_))
         have hall:Fr [tb,pb,hb,bb] w (w10.setRow (w.heap.size+1) u.idle.arr):=(hw9.then0 hf10).setRow _ _ (Or.inr (by omega))
         have h1:=hw8.size
         have h2:=qq2 hr8'
         have h3:pb'=pb\/w.heap.size+1 < pb':=by rcases hp9 with e|e;exact Or.inl e;exact Or.inr (by omega)
         refine bodyPost_ret (v:=u.idle.val) (results_cell_row Tryz.results156 _ _ (w.heap.size+1) 85 u.idle.arr (0,0) _ rfl (setRow_heap _ _ _ u.idle.arr _ _ HR10.out) Tryz.underlying85 rfl qq5) rfl ⟨?_,pb',cap',hall,?_,by rcases h3 with e|e;exact Or.inl e;exact Or.inr (by omega)⟩
         ·rw [HA.out]
         ·rw [HA.out]
          exact (ht9.fr0 hf10).fr ((Fr.refl [w.heap.size+1] _).setRow _ _ (by simp)) (by simp;omega) (by simp;omega) (by simp;omega) (by simp;omega)
    ·have hnone:(qj0 u.x u.y).find? (fun c=>qv3 (qx2 t.held) t.bd c.1 c.2)=none:=by
      rw [List.find?_eq_none]
      intro c hc
      obtain ⟨j,hj,rfl⟩:=List.mem_iff_getElem.1 hc
      rw [HNO.out j _ (by omega) (List.getElem?_eq_getElem hj)]
      simp
     have hact:qj7 t u=(u,t):=by
      have hd:=HD.out
      simp only [Bool.or_eq_false_iff,decide_eq_false_iff_not] at hd
      unfold qj7
      rw [HST.out,HCC.out,if_neg hd.1,if_neg hd.2.1,if_neg hd.2.2,hnone]
     have HA:=hid hact
     clear hact hnone
     go_wp2_with (first|(refine wpList_load_row rfl 85 _ rfl w.heap.size rfl 85 u.arr (0,0) _ hur Tryz.underlying85 rfl qq5 ?_)|(refine wpList_store_row rfl 85 _ _ rfl (w.heap.size+1) u.arr rfl rfl 85 _ HRR.out qq5 rfl (U.one _) ?_))
     have hall:Fr [tb,pb,hb,bb] w (wr.setRow (w.heap.size+1) u.arr):=(hwr.of0 (S:=[tb,pb,hb,bb])).setRow _ _ (Or.inr (by omega))
     refine bodyPost_ret (v:=u.val) (results_cell_row Tryz.results156 _ _ (w.heap.size+1) 85 u.arr (0,0) _ rfl (setRow_heap _ _ _ u.arr _ _ HRR.out) Tryz.underlying85 rfl qq5) rfl ⟨?_,pb,cap,hall,?_,Or.inl rfl⟩
     ·rw [HA.out]
     ·rw [HA.out]
      exact htr.fr ((Fr.refl [w.heap.size+1] _).setRow _ _ (by simp)) (by simp;omega) (by simp;omega) (by simp;omega) (by simp;omega)
  ·have hact:qj7 t u=(u,t):=by
    have hd:=HD.out
    simp only [Bool.or_eq_true,decide_eq_true_eq] at hd
    unfold qj7
    rw [HST.out,HCC.out]
    by_cases hA:st < C
    ·rw [if_pos hA]
    ·rw [if_neg hA]
     by_cases hB:100<=t.us.length
     ·rw [if_pos hB]
     ·rw [if_neg hB,if_pos (by rcases hd with h|h|h;exact absurd h hA;exact absurd h hB;exact h)]
   have HA:=hid hact
   clear hact
   go_wp2_with (first|(refine wpList_load_row rfl 85 _ rfl w.heap.size rfl 85 u.arr (0,0) _ huy Tryz.underlying85 rfl qq5 ?_)|(refine wpList_store_row rfl 85 _ _ rfl (w.heap.size+1) u.arr rfl rfl 85 _ HRY.out qq5 rfl (U.one _) ?_))
   have hall:Fr [tb,pb,hb,bb] w (wc.setRow (w.heap.size+1) u.arr):=(hwy.of0 (S:=[tb,pb,hb,bb])).setRow _ _ (Or.inr (by omega))
   refine bodyPost_ret (v:=u.val) (results_cell_row Tryz.results156 _ _ (w.heap.size+1) 85 u.arr (0,0) _ rfl (setRow_heap _ _ _ u.arr _ _ HRY.out) Tryz.underlying85 rfl qq5) rfl ⟨?_,pb,cap,hall,?_,Or.inl rfl⟩
   ·rw [HA.out]
   ·rw [HA.out]
    exact hty.fr ((Fr.refl [w.heap.size+1] _).setRow _ _ (by simp)) (by simp;omega) (by simp;omega) (by simp;omega) (by simp;omega)
end Go.Proofs.YtapabahhfanmmaaGreatDoor
