import Derived.Test.YtapabahhfanmmaaGreatDoorCLawL
namespace Go.Proofs.YtapabahhfanmmaaGreatDoor
open Go.RowKit List
set_option maxRecDepth 100000
set_option maxHeartbeats 2000000
theorem wG:(Tryz.prog.info? 194).map (fun i=>(i.zero,i.size,i.bytes))=some (some (.agg #[ii 0,ii 0,ii 0]),3,24):=by kernel_rfl
theorem wK:(Tryz.prog.info? 9).map (fun i=>(i.zero,i.size,i.bytes))=some (some (.string ⟨#[]⟩),1,16):=by kernel_rfl
theorem LX.putK {a x r C:Nat}{S:List Nat}{Q H v:Value}{z p s o:Nat}{D:Int}{tv i:Value}{u A:List Value}{t:T}{F:List UInt8}{f:List Stp}{w B:World}(h:LX w a x r C S Q H v z p s o D tv i u A t F f){c:Value}{marks':List Value}{m:Nat}(P:Fr i.ownBlock.toList w B)(ho:B.ownsRow 0 194 3 c m marks')(hm:0 < m)(M:∀ k,k < marks'.length->∃ n,marks'[k]?=some (ii n))(V:∀ g,c.ownBlock=some g->i.ownBlock=some g\/w.heap.size<=g) :
  LX (B.setCell ⟨a,5,none⟩ c) a x r C S Q H v z p s o D tv c u marks' t F f/\Fr (a :: i.ownBlock.toList) w (B.setCell ⟨a,5,none⟩ c):=by
 have L:=h.lt
 have hn:∀ b,b∈cP a x r z p s\/b∈S\/tv.ownBlock=some b->b∉i.ownBlock.toList:=fun b hb e=>by
  have J:i.ownBlock=some b:=by simpa using e
  rcases hb with q|q|q
  ·exact (h.nk b J).1 q
  ·exact (h.nk b J).2 q
  exact (h.nt b q).2.2 J
 have hz:Fr [a] B (B.setCell ⟨a,5,none⟩ c):=(r0 _ _).setCell _ _ (by simp)
 have I:Fr (a :: i.ownBlock.toList) w (B.setCell ⟨a,5,none⟩ c):=(P.mono (fun b hb=>.inl (mem_cons_of_mem _ hb))).trans hz (fun b hb=>.inl (by simp at hb;simp [hb]))
 have W:=h.nd
 simp only [cP,nodup_cons,mem_cons,not_mem_nil,or_false,not_or,nodup_nil,and_true,not_false_eq_true] at W
 have E:∀ b,b∈cP a x r z p s->b≠a->b∉a :: i.ownBlock.toList:=fun b hb N e=>by
  rcases mem_cons.1 e with q|q
  ·exact N q
  exact hn b (.inl hb) q
 have l:a∈cP a x r z p s:=by simp
 have O:∀ b∈S,b∉a :: i.ownBlock.toList:=fun b hb e=>by
  rcases mem_cons.1 e with q|q
  ·exact h.ns b hb (q ▸ l)
  exact hn b (.inr (.inl hb)) q
 have K:=P.heap h.h (hn a (.inl l))
 have j:∀ g,c.ownBlock=some g->g∉cP a x r z p s/\g∉S/\tv.ownBlock≠some g:=fun g R=>by
  rcases V g R with q|q
  ·exact ⟨(h.nk g q).1,(h.nk g q).2,fun e=>(h.nt g e).2.2 q⟩
  have d:∀ b∈aU a x r S z p s tv i,b≠g:=fun b hb e=>by have:=L b hb;omega
  exact ⟨fun e=>d g (mem_append_left _ e) rfl,fun e=>d g (by simp [e]) rfl,fun e=>d g (by simp [e]) rfl⟩
 refine ⟨{ h with h:=?_,rs:=?_,y:=?_,tl:=?_,mr:=⟨m,?_,hm⟩,mi:=M,nt:=fun b hb=>⟨(h.nt b hb).1,(h.nt b hb).2.1,fun e=>(j b e).2.2 hb⟩,nk:=fun b hb=>⟨(j b hb).1,(j b hb).2.1⟩ },I⟩
 ·rw [iN K];rfl
 ·exact h.rs.fr I (E x (by simp) (by omega)) (E r (by simp) (by omega)) O
 ·exact h.y.fr I (E z (by simp) (by omega)) (E p (by simp) (by omega)) (E s (by simp) (by omega))
 ·exact fZ h.tl I (fun b hb e=>by
   rcases mem_cons.1 e with q|q
   ·exact (h.nt b hb).1 (q ▸ l)
   exact hn b (.inr (.inr hb)) q)
 exact fZ ho hz (fun b hb e=>(j b hb).1 (by
    have:b=a:=by simpa using e
    rw [this];exact l))
theorem LX.putT {a o l s:Nat}{S:List Nat}{O C v:Value}{p k n j:Nat}{u:Int}{tv A:Value}{D d:List Value}{t:T}{B:List UInt8}{f:List Stp}{w r:World}(h:LX w a o l s S O C v p k n j u tv A D d t B f){tv':Value}{told':List Value}(N:Fr tv.ownBlock.toList w r)(ho:r.ownsRow 0 9 1 tv' told'.length told')(hm:0 < told'.length)(Q:∀ g,tv'.ownBlock=some g->tv.ownBlock=some g\/w.heap.size<=g) :
  LX (r.setCell ⟨a,4,none⟩ tv') a o l s S O C v p k n j u tv' A told' d t B f/\Fr (a :: tv.ownBlock.toList) w (r.setCell ⟨a,4,none⟩ tv'):=by
 have I:=h.lt
 have hn:∀ b,b∈cP a o l p k n\/b∈S\/A.ownBlock=some b->b∉tv.ownBlock.toList:=fun b hb e=>by
  have F:tv.ownBlock=some b:=by simpa using e
  rcases hb with q|q|q
  ·exact (h.nt b F).1 q
  ·exact (h.nt b F).2.1 q
  exact (h.nt b F).2.2 q
 have hz:Fr [a] r (r.setCell ⟨a,4,none⟩ tv'):=(r0 _ _).setCell _ _ (by simp)
 have E:Fr (a :: tv.ownBlock.toList) w (r.setCell ⟨a,4,none⟩ tv'):=(N.mono (fun b hb=>.inl (mem_cons_of_mem _ hb))).trans hz (fun b hb=>.inl (by simp at hb;simp [hb]))
 have R:=h.nd
 simp only [cP,nodup_cons,mem_cons,not_mem_nil,or_false,not_or,nodup_nil,and_true,not_false_eq_true] at R
 have x:∀ b,b∈cP a o l p k n->b≠a->b∉a :: tv.ownBlock.toList:=fun b hb L e=>by
  rcases mem_cons.1 e with q|q
  ·exact L q
  exact hn b (.inl hb) q
 have i:a∈cP a o l p k n:=by simp
 have M:∀ b∈S,b∉a :: tv.ownBlock.toList:=fun b hb e=>by
  rcases mem_cons.1 e with q|q
  ·exact h.ns b hb (q ▸ i)
  exact hn b (.inr (.inl hb)) q
 have H:=N.heap h.h (hn a (.inl i))
 have z:∀ g,tv'.ownBlock=some g->g∉cP a o l p k n/\g∉S/\A.ownBlock≠some g:=fun g P=>by
  rcases Q g P with q|q
  ·exact h.nt g q
  have c:∀ b∈aU a o l S p k n tv A,b≠g:=fun b hb e=>by have:=I b hb;omega
  exact ⟨fun e=>c g (mem_append_left _ e) rfl,fun e=>c g (by simp [e]) rfl,fun e=>c g (by simp [e]) rfl⟩
 obtain ⟨m,K,J⟩:=h.mr
 refine ⟨{ h with h:=?_,rs:=?_,y:=?_,tl:=?_,te:=hm,mr:=⟨m,?_,J⟩,nt:=fun b hb=>z b hb },E⟩
 ·rw [iN H];rfl
 ·exact h.rs.fr E (x o (by simp) (by omega)) (x l (by simp) (by omega)) M
 ·exact h.y.fr E (x p (by simp) (by omega)) (x k (by simp) (by omega)) (x n (by simp) (by omega))
 ·exact fZ ho hz (fun b hb e=>(z b hb).1 (by
     have:b=a:=by simpa using e
     rw [this];exact i))
 exact fZ K E (fun b hb e=>by
  rcases mem_cons.1 e with q|q
  ·exact (h.nk b hb).1 (q ▸ i)
  exact hn b (.inr (.inr hb)) q)
theorem zV {l P N s:Nat}{S:List Nat}{M B v:Value}{Q H O o:Nat}{u:Int}{tv L:Value}{p a:List Value}{t:T}{A:List UInt8}{j:List Stp}(w:World)(h:LX w l P N s S M B v Q H O o u tv L p a t A j)(K:a.length<=1000000000) :
  Cs 106 #[.pointer (so l)] w fun e b=>∃ n,e=.returned (.int .i64 n)/\Fr [] w b:=by
 obtain ⟨m,c,x⟩:=h.mr
 have hl:=c.1
 obtain ⟨f,z,rfl⟩:=bK c x
 have C:ca w l 5 (.slice (so f) m z):=aB h.h
 obtain ⟨n,hn⟩:=h.mi ((m - 1)*3+2) (by omega)
 have r:=c.cells (g:=f) rfl _ _ hn
 rw [Addr.add_lit,Nat.zero_add] at r
 obtain ⟨q,E⟩:∃ k,k=m - 1:=⟨_,rfl⟩
 rw [<- E] at r
 have J:(q:Int) < (m:Int):=by omega
 have y:(m:Int) - 1=(q:Int):=by omega
 have D:m<=1000000000:=by omega
 clear h c hn hl E
 go_enter Tryz.func106,Tryz.ntmps106
 have F:(fun b:World=>(ca b l 5 (.slice (so f) m z)/\ca b f (q*3+2) (ii n))/\Fr [] w b) w.drew:=⟨⟨((r0 [] w).drew.cell l 5 (aI C) (by simp)).trans C,((r0 [] w).drew.cell f _ (aI r) (by simp)).trans r⟩,(r0 _ _).drew⟩
 go_wp2_with fail
 refine wp_region_held_drew (S:=(fun b:World=>(ca b l 5 (.slice (so f) m z)/\ca b f (q*3+2) (ii n))/\Fr [] w b)) (by kernel_rfl) F (fun d=>?_)
 refine (show wpAnyH Tryz.prog Region.Mode.any _ _ _ 14 (Array.replicate 14 false) _ _ from ?_)
 iterate 9 (refine tn 14 d ?_;try simp only [Act.put,Z])
 refine wpAnyH_take (i:=9) (v:=.int .i64 (q:Int)) (by simp only [G];rfl) (by kernel_rfl) (by kernel_rfl) (by kernel_rfl) (by exact fun _ _ _ h=>h) (.inl ⟨by rfl,?_⟩) d ?_
 ·intro b I
  go_simp
  first|(rw [y,IntKind.wrap_i64];omega)|(rw [IntKind.wrap_i64];omega);try simp only [Act.put,Z]
 refine ta 10 d ?_;try simp only [Act.put,Z]
 refine ta 11 d ?_;try simp only [Act.put,Z]
 refine ta 12 d ?_;try simp only [Act.put,Z]
 refine ta 13 d ?_;try simp only [Act.put,Z]
 refine wpAnyH_done (by kernel_rfl) ?_ _
 go_wp2_with fail
 go_ret
 exact ⟨_,rfl,d.2⟩
structure MkP3 (w:World) (lb xb pb cap:Nat) (S:List Nat) (mv stv v:Value) (yb gb qb cap2:Nat) (fst:Int) (tv kv:Value) (told marks:List Value) (t:T) (log:List UInt8) (steps:List Stp) (w':World):Prop where
 ex:∃ kv' marks',LX w' lb xb pb cap S mv stv v yb gb qb cap2 fst tv kv' told marks' t log steps/\marks'.length=marks.length+3/\∀ g,kv'.ownBlock=some g->kv.ownBlock=some g\/w.heap.size<=g
 fr:Fr (lb :: kv.ownBlock.toList) w w'
theorem oG {r xb pb N:Nat}{S:List Nat}{mv aa v:Value}{yb gb qb C:Nat}{O:Int}{tv kv:Value}{l a:List Value}{t:T}{X:List UInt8}{c:List Stp}(w:World)(n:Int)(h:LX w r xb pb N S mv aa v yb gb qb C O tv kv l a t X c)(aj:c.length<=10000000)(az:l.length<=1000000000)(Zq:a.length<=1000000000) :
  Cs 63 #[.pointer (so r),.int .i64 n] w fun e s=>e=.returned (.tuple #[])/\MkP3 w r xb pb N S mv aa v yb gb qb C O tv kv l a t X c s:=by
 obtain ⟨ao,af,al,am,an⟩:=info_parts wG
 have c0:ca w r 0 (.pointer (so xb)):=aB h.h
 have L:=(show Hi _ from oT w h.rs aj h.s0)
 have av:=h.s0
 have ay:=h.te
 obtain ⟨m,B,ar⟩:=h.mr
 have Zr:=B.1
 obtain ⟨I,J,ah⟩:=fR B
 obtain ⟨ta,tc,ak⟩:=fR h.tl
 subst ah
 subst ak
 have HX:=aA h
 have ab:=(show Hi (w.ownsRow 0 194 3 (.slice I m J) m a) from B)
 obtain ⟨q,hq⟩:∃ k,k=l.length - 1:=⟨_,rfl⟩
 have ai:(l.length:Int) - 1=(q:Int):=by omega
 have au:q<=1000000000:=by omega
 have aq:=aH h.h
 clear h B hq
 go_enter Tryz.func63,Tryz.ntmps63
 go_wp2_with fail
 refine Calls.mono L.o ?_
 rintro e D ⟨v1,rfl,R,z⟩
 obtain ⟨sa,sc,rfl⟩:=fR R
 have x:=HX.o.fr0 z
 have HS:∀ Z s,Fr Z D s->r∉Z->(fun s:World=>ca s r 4 (.slice ta l.length tc)/\ca s r 5 (.slice I m J)) s:=fun Z s hf hn=>⟨aB (hf.heap x.h hn),aB (hf.heap x.h hn)⟩
 have f:=HS [] D.drew ((r0 _ _).drew) (by simp)
 have aw:=z.size
 have M:=aA x
 clear L R c0 x
 go_wp2_with fail
 refine OneFree.region (fun s:World=>s.cell? ⟨r,4,none⟩=some (.slice ta l.length tc)/\s.cell? ⟨r,5,none⟩=some (.slice I m J)) 19 (by kernel_rfl) ?_
 refine (show OneFree Tryz.prog Region.Mode.any _ _ _ 19 20 (Array.replicate 20 false) _ _ from ?_)
 refine tv 0 f ?_;try simp only [Act.put,Z]
 refine tv 1 f ?_;try simp only [Act.put,Z]
 refine tv 2 f ?_;try simp only [Act.put,Z]
 refine tv 3 f ?_;try simp only [Act.put,Z]
 refine tv 4 f ?_;try simp only [Act.put,Z]
 refine tv 5 f ?_;try simp only [Act.put,Z]
 refine tv 6 f ?_;try simp only [Act.put,Z]
 refine tv 7 f ?_;try simp only [Act.put,Z]
 refine tv 8 f ?_;try simp only [Act.put,Z]
 refine tv 9 f ?_;try simp only [Act.put,Z]
 refine tv 10 f ?_;try simp only [Act.put,Z]
 refine tv 11 f ?_;try simp only [Act.put,Z]
 refine OneFree.take (i:=12) (v:=.int .i64 (q:Int)) (by simp only [G];rfl) (by kernel_rfl) (by kernel_rfl) (by kernel_rfl) (by kernel_rfl) (by decide) (by exact fun _ _ _ h=>h) (.inl ⟨by rfl,?_⟩) f ?_
 ·intro s ap
  go_simp
  first|(rw [ai,IntKind.wrap_i64];omega)|(rw [IntKind.wrap_i64];omega);try simp only [Act.put,Z]
 refine tv 13 f ?_;try simp only [Act.put,Z]
 refine tv 14 f ?_;try simp only [Act.put,Z]
 refine o1 15 fun K' d=>?_
 have p:=aA d
 clear d
 go_simp
 obtain ⟨W2,u⟩:∃ W,W=(D.alloc (.cells #[ii (c.length:Int),ii (q:Int),ii n] 194)).drew:=⟨_,rfl⟩
 rw [<- u]
 have A:Fr [] D W2:=by rw [u];exact ((r0 _ _).alloc _).drew
 have Q:∀ (j:Nat) (y:Value),[ii (c.length:Int),ii (q:Int),ii n][j]?=some y->W2.cell? ((⟨D.heap.size,0,none⟩:Addr).add j)=some y:=by rw [u];exact cU D [ii (c.length:Int),ii (q:Int),ii n] 194
 have ax:=A.size
 have V:W2.ownsRow 0 194 3 (.slice I m J) m a:=aF (aF ab.o z (by simp)) A (by simp)
 clear u f
 have f:=HS [] W2 A (by simp)
 refine p.o _ _ ⟨fun _=>f,?_⟩
 clear p K';try simp only [Act.put,Z]
 refine o1 16 fun K' d=>?_
 have p:=aA d
 clear d
 rw [if_pos (by rfl)]
 refine kS _ _ 137 rfl 0 194 ao (.agg #[ii 0,ii 0,ii 0]) 3 24 Tryz.underlying137 af al am an rfl (.slice I m J) m a rfl V ⟨D.heap.size,0,none⟩ 1 1 [ii (c.length:Int),ii (q:Int),ii n] rfl rfl Q (by simp [Value.oneCell']) (by unfold maxLen;omega) (by omega) (by omega) (by omega) ?_
 intro v3 w3 H ag F
 obtain ⟨g3,c3,rfl⟩:=bK H (by omega)
 have ae:=bE F
 have E:Fr (Value.ownBlock (.slice I m J)).toList D w3:=A.of0.trans ae (fun b hb=>.inl hb)
 have Y:r∉(Value.ownBlock (.slice I m J)).toList:=fun e=>(HX.o.nk r (by simpa using e)).1 (by simp)
 clear f
 have f:=HS _ w3 E Y
 have z5:w3.frozen? ⟨r,5,none⟩=false:=bI (E.heap M.o.h Y)
 have K:=(show Hi _ from fE F)
 have ac:=(show Hi (w3.ownsRow 0 194 3 (.slice (so g3) (m+1) c3) (m+1) (a ++ [ii (c.length:Int),ii (q:Int),ii n])) from H)
 refine p.o _ _ ⟨fun _=>f,?_⟩
 clear p K' Q V H ag F;try simp only [Act.put,Z]
 refine o1 17 fun K' d=>?_
 have p:=aA d
 clear d
 go_simp
 refine p.o _ _ ⟨fun _=>f,?_⟩
 clear p K';try simp only [Act.put,Z]
 refine o1 18 fun K' d=>?_
 have p:=aA d
 clear d
 go_simp
 refine p.o _ _ ⟨fun _=>f,?_⟩
 clear p K';try simp only [Act.put,Z]
 refine o1 19 fun K' d=>?_
 have p:=aA d
 clear d
 obtain ⟨k1,k2⟩:=f
 go_simp
 refine p.o _ _ ⟨fun h6=>absurd rfl h6,OneFree.done (by kernel_rfl) ?_ _⟩
 clear p K'
 refine bodyPost_end (v:=.tuple #[]) (results_none rfl _ _ _) rfl ⟨rfl,?_⟩
 obtain ⟨hL,ad⟩:=M.o.putK (marks':=a ++ [ii (c.length:Int),ii (q:Int),ii n]) E ac.o (by omega) (fun k hk=>by
  by_cases P:k < a.length
  ·rw [getElem?_append_left P]
   exact HX.o.mi k P
  rw [getElem?_append_right (by omega)]
  have:k - a.length=0\/k - a.length=1\/k - a.length=2:=by simp at hk;omega
  rcases this with e|e|e <;> (rw [e];exact ⟨_,rfl⟩)) (fun g hg=>(K.o g hg).imp_right (fun e=>by omega))
 exact ⟨⟨_,_,hL,by simp,fun g hg=>(K.o g hg).imp_right (fun e=>by omega)⟩,(z.of0).trans ad (fun b hb=>.inl hb)⟩
structure BX (w:World) (xb pb cap:Nat) (S:List Nat) (mv stv v:Value) (yb gb qb cap2:Nat) (t:T) (log:List UInt8) (steps:List Stp):Prop where
 rs:RS w xb pb cap S t mv stv (dH v log) steps
 y:YR w yb gb qb cap2 t log
 gg:GG t
 tn:t.turn<=1000000000
 dd:∃ s,eL [] steps=some [⟨LOG,log,s⟩]
 fm:∀ s∈steps,kE s
 s0:0 < steps.length
 nd:[xb,pb,yb,gb,qb].Nodup
 ns:∀ b∈S,b∉[xb,pb,yb,gb,qb]
theorem BX.fr0 {w l:World}{m j c:Nat}{S:List Nat}{i e v:Value}{n f k b:Nat}{t:T}{d:List UInt8}{a:List Stp}(h:BX w m j c S i e v n f k b t d a)(g:Fr [] w l):BX l m j c S i e v n f k b t d a:={ h with rs:=h.rs.fr0 g,y:=h.y.fr0 g }
theorem DQ {D pb aa:Nat}{S:List Nat}{mv am v:Value}{s F qb n:Nat}{t:T}{al:List UInt8}{a:List Stp}(w:World)(h:BX w D pb aa S mv am v s F qb n t al a)(bk:a.length<=10000000) :
  Cs 61 #[.pointer (so D),.pointer (so s),.slice none 0 0] w fun e d=>∃ lb bb tv kv V C,e=.returned (.pointer (so lb))/\LX d lb D pb aa S mv am v s F qb n bb tv kv V C t al a/\V.length=1/\C.length=3/\w.heap.size<=lb/\(∀ g,tv.ownBlock=some g\/kv.ownBlock=some g->w.heap.size<=g)/\Fr [] w d:=by
 obtain ⟨br,bh,bo,bp,bq⟩:=info_parts wG
 obtain ⟨ax,bi,bl,bm,bn⟩:=info_parts wK
 have c0:ca w s 0 (.pointer (so F)):=aB h.y.h
 have c1:=h.y.rg.c0
 have aw:=aH h.y.h
 have bf:=h.y.rg.lt
 have Zs:=h.s0
 have CR:Hi (∀ d,Fr [] w d->Cs 57 #[.pointer (so F)] d fun e O=>e=.returned (.string ⟨(bH t).toArray⟩)/\Fr [] d O):=fun d R=>oY F qb n t d (h.y.rg.fr0 R) h.gg.ok h.gg.os ⟨h.gg.t0,h.tn⟩
 have ao:Hi (∀ d,Fr [] w d->Cs 13 #[.pointer (so D)] d fun e O=>∃ v',e=.returned v'/\O.ownsRow d.heap.size 113 4 v' a.length (a.flatMap Stp.cells)/\Fr [] d O):=fun d R=>oT d (h.rs.fr0 R) bk h.s0
 obtain ⟨P,aq⟩:∃ x:ByteArray,x=⟨(bH t).toArray⟩:=⟨_,rfl⟩
 rw [<- aq] at CR
 have Y:=aA h
 clear h aq
 go_enter Tryz.func61,Tryz.ntmps61
 obtain ⟨Q,I⟩:∃ W,W=w.alloc (.cells #[.pointer (so D),.pointer (so s),.slice none 0 0,ii t.turn,.slice none 0 0,.slice none 0 0] 139):=⟨_,rfl⟩
 have ae:Fr [] w Q:=by rw [I];exact (r0 _ _).alloc _
 have N:Q.heap[w.heap.size]?=some (.cells #[.pointer (so D),.pointer (so s),.slice none 0 0,ii t.turn,.slice none 0 0,.slice none 0 0] 139):=by rw [I];exact aC _ _
 have bz:w.heap.size < Q.heap.size:=aH N
 have HS:∀ d,Fr [] Q d->(fun d:World=>ca d w.heap.size 4 (.slice none 0 0)/\ca d s 0 (.pointer (so F))) d:=fun d R=>⟨aB (R.heap0 N),((ae.then0 R).cell s 0 aw (by simp)).trans c0⟩
 go_wp2_with fail
 rw [<- I]
 have f:=HS Q.drew ((r0 _ _).drew)
 clear I c0 c1
 refine OneFree.region (fun d:World=>d.cell? ⟨w.heap.size,4,none⟩=some (.slice none 0 0)/\d.cell? ⟨s,0,none⟩=some (.pointer (so F))) 14 (by kernel_rfl) ?_
 refine (show OneFree Tryz.prog Region.Mode.any _ _ _ 14 15 (Array.replicate 15 false) _ _ from ?_)
 refine tv 0 f ?_;try simp only [Act.put,Z]
 refine tv 1 f ?_;try simp only [Act.put,Z]
 refine tv 2 f ?_;try simp only [Act.put,Z]
 refine tv 3 f ?_;try simp only [Act.put,Z]
 refine tv 4 f ?_;try simp only [Act.put,Z]
 refine tv 5 f ?_;try simp only [Act.put,Z]
 refine tv 6 f ?_;try simp only [Act.put,Z]
 refine tv 7 f ?_;try simp only [Act.put,Z]
 refine tv 8 f ?_;try simp only [Act.put,Z]
 refine o1 9 fun K' c=>?_
 have l:=aA c
 clear c
 go_simp
 refine Calls.mono (CR.o _ ae.drew) ?_
 rintro e w2 ⟨rfl,ar⟩
 have L:Fr [] Q w2:=((r0 [] Q).drew).then0 ar
 clear f
 have f:=HS w2 L
 refine l.o _ _ ⟨fun _=>f,?_⟩
 clear l K' CR;try simp only [Act.put,Z]
 refine o1 10 fun K' c=>?_
 have l:=aA c
 clear c
 go_simp
 obtain ⟨W3,J⟩:∃ W,W=w2.alloc (.cells #[.string P] 9):=⟨_,rfl⟩
 rw [<- J]
 have af:Fr [] w2 W3:=by rw [J];exact (r0 _ _).alloc _
 have Zr:∀ (j:Nat) (y:Value),[Value.string P][j]?=some y->W3.cell? ((⟨w2.heap.size,0,none⟩:Addr).add j)=some y:=by rw [J];exact cU w2 [.string P] 9
 clear J f
 have f:=HS W3 (L.then0 af)
 refine l.o _ _ ⟨fun _=>f,?_⟩
 clear l K';try simp only [Act.put,Z]
 refine o1 11 fun K' c=>?_
 have l:=aA c
 clear c
 rw [if_pos (by rfl)]
 refine kS _ _ 38 rfl 0 9 ax (.string ⟨#[]⟩) 1 16 Tryz.underlying38 bi bl bm bn rfl (.slice none 0 0) 0 [] rfl ⟨rfl,.inl ⟨rfl,rfl⟩⟩ ⟨w2.heap.size,0,none⟩ 1 1 [.string P] rfl rfl Zr (by simp [Value.oneCell']) (by unfold maxLen;omega) (by omega) (by omega) (by omega) ?_
 intro v4 X ak bj ac
 obtain ⟨p,c4,rfl⟩:=bK ak (by omega)
 have be:Fr [] W3 X:=bE ac
 have H:Fr [] Q X:=(L.then0 af).then0 be
 have bs:W3.heap.size<=p:=by
  rcases fE ac p rfl with q|q
  ·cases q
  exact q
 clear f
 have f:=HS X H
 have z4:X.frozen? ⟨w.heap.size,4,none⟩=false:=bI (H.heap0 N)
 have an:=(show Hi (X.ownsRow 0 9 1 (.slice (so p) (0+1) c4) (0+1) ([] ++ [.string P])) from ak)
 refine l.o _ _ ⟨fun _=>f,?_⟩
 clear l K' Zr ak bj ac;try simp only [Act.put,Z]
 refine o1 12 fun K' c=>?_
 have l:=aA c
 clear c
 go_simp
 refine l.o _ _ ⟨fun _=>f,?_⟩
 clear l K';try simp only [Act.put,Z]
 refine o1 13 fun K' c=>?_
 have l:=aA c
 clear c
 go_simp
 refine l.o _ _ ⟨fun _=>f,?_⟩
 clear l K';try simp only [Act.put,Z]
 refine o1 14 fun K' c=>?_
 have l:=aA c
 clear c
 obtain ⟨k1,k2⟩:=f
 go_simp
 refine l.o _ _ ⟨fun h6=>absurd rfl h6,OneFree.done (by kernel_rfl) ?_ _⟩
 clear l K'
 obtain ⟨W5,r⟩:∃ W,W=X.setCell ⟨w.heap.size,4,none⟩ (.slice (so p) (0+1) c4):=⟨_,rfl⟩
 first|rw [<- r]|(rw [Nat.zero_add] at r;rw [<- r])
 have bg:W5.heap[w.heap.size]?=some (.cells #[.pointer (so D),.pointer (so s),.slice none 0 0,ii t.turn,.slice (so p) 1 c4,.slice none 0 0] 139):=by rw [r,iN (H.heap0 N)];rfl
 have ag:Fr [w.heap.size] X W5:=by rw [r];exact (r0 _ _).setCell _ _ (by simp)
 have ap:Fr [] w W5:=(ae.then0 H).trans ag (by simp)
 have CS:=(show Hi _ from ao.o W5 ap)
 clear r ao HS k1 k2 z4
 go_wp2_with fail
 refine Calls.mono CS.o ?_
 rintro e z ⟨v6,rfl,au,M⟩
 obtain ⟨sa,sc,rfl⟩:=fR au
 have ai:=M.heap0 bg
 have d5:ca z w.heap.size 5 (.slice none 0 0):=aB ai
 have bx:=aH ai
 have ba:Hi ((z.alloc (.cells #[ii (a.length:Int),ii 0,ii 0] 194)).ownsRow 0 194 3 (.slice none 0 0) 0 []):=⟨rfl,.inl ⟨rfl,rfl⟩⟩
 have az:Hi (∀ (j:Nat) (u:Value),[ii (a.length:Int),ii 0,ii 0][j]?=some u->(z.alloc (.cells #[ii (a.length:Int),ii 0,ii 0] 194)).cell? ((⟨z.heap.size,0,none⟩:Addr).add j)=some u):=cU z _ 194
 have ay:Hi (∀ A,Fr [] (z.alloc (.cells #[ii (a.length:Int),ii 0,ii 0] 194)) A->A.heap[w.heap.size]?=some (.cells #[.pointer (so D),.pointer (so s),.slice none 0 0,ii t.turn,.slice (so p) 1 c4,.slice none 0 0] 139)):=fun A R=>R.heap0 (((r0 [] z).alloc _).heap0 ai)
 clear CS au
 go_wp2_with (
       at_builtin
       refine dR rfl _ _ 137 rfl 0 194 br (.agg #[ii 0,ii 0,ii 0]) 3 24 Tryz.underlying137 bh bo bp bq rfl (.slice none 0 0) 0 [] rfl ba.o ⟨z.heap.size,0,none⟩ 1 1 [ii (a.length:Int),ii 0,ii 0] rfl rfl az.o (by simp [Value.oneCell']) (by unfold maxLen;omega) (by omega) (by simp) (by omega) ?_
       intro v7 A av bv ad
       obtain ⟨E,c7,rfl⟩:=bK av (by omega)
       have aj:=ay.o A (bE ad)
       have e5:ca A w.heap.size 5 (.slice none 0 0):=aB aj
       have z5:A.frozen? ⟨w.heap.size,5,none⟩=false:=bI aj)
 go_ret
 have bc:Fr [] z (z.alloc (.cells #[ii (a.length:Int),ii 0,ii 0] 194)):=(r0 _ _).alloc _
 have Zq:Fr [] z A:=bc.then0 (bE ad)
 have bt:z.heap.size<=E:=by
  rcases fE ad E rfl with q|q
  ·cases q
  simp at q;omega
 have bd:Fr [] w A:=(ap.then0 M).then0 Zq
 obtain ⟨W8,K⟩:∃ W,W=A.setCell ⟨w.heap.size,5,none⟩ (.slice (so E) 1 c7):=⟨_,rfl⟩
 have ah:Fr [w.heap.size] A W8:=by rw [K];exact (r0 _ _).setCell _ _ (by simp)
 have ab:Fr [] w W8:=bd.trans ah (by simp)
 have m:=Y.o.fr0 ab
 have s3:=af.size
 have s2:=L.size
 have bw:=(an.o.lt p rfl).2
 have s5:=ag.size
 have s6:=M.size
 have i:∀ b,b∈[D,pb,s,F,qb]\/b∈S->b < w.heap.size:=fun b hb=>by
  rcases hb with q|q
  ·simp only [mem_cons,not_mem_nil,or_false] at q
   rcases q with rfl|rfl|rfl|rfl|rfl
   ·exact Y.o.rs.lt
   ·exact Y.o.rs.row.lt
   ·exact aw
   ·exact bf
   exact Y.o.y.rg.row.lt
  exact Y.o.rs.sve.lt b q
 refine ⟨w.heap.size,t.turn,.slice (so p) 1 c4,.slice (so E) 1 c7,[.string P],[ii (a.length:Int),ii 0,ii 0],rfl,?_,rfl,rfl,Nat.le_refl _,fun g hg=>?_,?_⟩
 ·have B:LX W8 w.heap.size D pb aa S mv am v s F qb n t.turn (.slice (so p) 1 c4) (.slice (so E) 1 c7) [.string P] [ii (a.length:Int),ii 0,ii 0] t al a:=by
   refine ⟨?_,m.rs,m.y,?_,⟨1,?_,by omega⟩,fun k hk=>?_,by simp,m.gg,m.tn,m.dd,m.fm,m.s0,?_,fun b hb e=>?_,fun b hb=>?_,fun b hb=>?_⟩
   ·rw [K,iN aj];rfl
   ·refine fZ (fZ (fZ (show X.ownsRow 0 9 1 (.slice (so p) 1 c4) 1 [.string P] from an.o) ag (fun b hb e=>?_)) (M.then0 Zq) (by simp)) ah (fun b hb e=>?_)
    ·have h1:p=b:=by simpa [Value.ownBlock] using hb
     have h2:b=w.heap.size:=by simpa using e
     omega
    have h1:p=b:=by simpa [Value.ownBlock] using hb
    have h2:b=w.heap.size:=by simpa using e
    omega
   ·refine fZ (show A.ownsRow 0 194 3 (.slice (so E) 1 c7) 1 [ii (a.length:Int),ii 0,ii 0] from av) ah (fun b hb e=>?_)
    have h1:E=b:=by simpa [Value.ownBlock] using hb
    have h2:b=w.heap.size:=by simpa using e
    omega
   ·have bu:k < 3:=hk
    have:k=0\/k=1\/k=2:=by omega
    rcases this with rfl|rfl|rfl <;> exact ⟨_,rfl⟩
   ·refine nodup_cons.2 ⟨fun e=>?_,Y.o.nd⟩
    have:=i _ (.inl e)
    omega
   ·rcases mem_cons.1 e with q|q
    ·have:=i b (.inr hb);omega
    exact Y.o.ns b hb q
   ·have h1:p=b:=by simpa [Value.ownBlock] using hb
    refine ⟨fun e=>?_,fun e=>?_,fun e=>?_⟩
    ·rcases mem_cons.1 e with q|q
     ·omega
     have:=i b (.inl q);omega
    ·have:=i b (.inr e);omega
    have h2:E=b:=by simpa [Value.ownBlock] using e
    omega
   have h1:E=b:=by simpa [Value.ownBlock] using hb
   refine ⟨fun e=>?_,fun e=>?_⟩
   ·rcases mem_cons.1 e with q|q
    ·omega
    have:=i b (.inl q);omega
   have:=i b (.inr e);omega
  rw [K] at B
  exact B
 ·simp only [Value.ownBlock,Option.some.injEq] at hg
  omega
 rw [K] at ab
 exact ab
theorem sG (n x:Nm)(h:x.length<=41000):kE (dA n x):=⟨.inl ⟨n,x,rfl⟩,h⟩
theorem sH (n:Nm):kE (dB n):=⟨.inr (.inl ⟨n,rfl⟩),by simp⟩
theorem AX (n m:Nm):kE (eV n m):=⟨.inr (.inr ⟨n,m,rfl⟩),by simp⟩
theorem qQ {t:T}(h:GG t)(ht:t.turn<=1000000000):(bU 2 (bH t)).length<=41000:=by
 have h1:=pI h ht
 have a:=mF 2 (bH t) (by omega)
 omega
theorem AV (c:ByteArray)(w:World)(hw:0 < w.heap.size) :
  Cs 29 #[.string c] w fun e H=>((dS c/\∃ E L,e=.returned (.tuple #[.pointer (so E),.bool true])/\LR H (.pointer (so E)) L 0/\∀ x∈L,w.heap.size<=x)\/(¬ dS c/\e=.returned (.tuple #[.pointer none,.bool true])))/\Fr [] w H:=by
 have J:Hi (∀ w,Cs 60 #[.string c] w fun e H=>((dS c/\∃ l r t f,e=.returned (.tuple #[.pointer (so l),.int .i64 0])/\YR H l r t f (bP c) (bU 2 (bH (bP c)))/\w.heap.size<=l/\w.heap.size<=r/\w.heap.size<=t/\l≠r/\l≠t)\/(¬ dS c/\e=.returned (.tuple #[.pointer none,.int .i64 1])))/\Fr [] w H):=fun w=>PY c w
 by_cases d:dS c
 ·have u:=(show Hi _ from PD c d w hw)
  have m:GG (bP c):=⟨rF c d,rG c,by show (0:Int)<=0;omega⟩
  have C:(bP c).turn<=1000000000:=by show (0:Int)<=_;omega
  have B:=qQ m C
  have M:=aA m
  clear m
  go_enter Tryz.func29,Tryz.ntmps29
  go_wp2_with fail
  refine Calls.mono u.o ?_
  rintro e I ⟨xb,pb,f,S,Y,p,v',rfl,a,aj,ae,R,h⟩
  have O:=aA a
  clear u a
  go_wp2_with fail
  refine Calls.mono (J.o I) ?_
  rintro e w2 ⟨⟨_,l,r,t,i,rfl,D,q1,q2,q3,q4,q5⟩|⟨X,_⟩,g⟩
  rotate_left
  ·exact absurd d X
  dsimp only
  have a:=(show RS I xb pb f S (bP c) Y p (fun k=>if k=LOG then some (v',bU 2 (bH (bP c))) else none) [dA bO (bU 2 (bH (bP c))),dB bO,eV bO LOG] from O.o)
  have ak:=a.lt
  have af:=a.row.lt
  have V:=a.sve.lt
  have ad:=a.np
  have aa:=D.rg.ne
  have ag:=h.size
  have ah:=g.size
  have z:BX w2 xb pb f S Y p v' l r t i (bP c) (bU 2 (bH (bP c))) [dA bO (bU 2 (bH (bP c))),dB bO,eV bO LOG]:=by
   refine ⟨a.fr0 g,D,M.o,C,⟨_,GB _⟩,fun s hs=>?_,by simp,?_,fun b hb e=>?_⟩
   ·simp only [mem_cons,not_mem_nil,or_false] at hs
    rcases hs with rfl|rfl|rfl
    ·exact sG _ _ B
    ·exact sH _
    exact AX _ _
   ·simp only [nodup_cons,mem_cons,not_mem_nil,or_false,not_or,nodup_nil,and_true,not_false_eq_true]
    omega
   simp only [mem_cons,not_mem_nil,or_false] at e
   have:=V b hb
   rcases e with rfl|rfl|rfl|rfl|rfl
   ·exact a.nrb hb
   ·exact a.npb hb
   ·omega
   ·omega
   omega
  have v:=(show Hi _ from DQ w2 z (by simp))
  have K:=aA B
  clear z a D J
  go_wp2_with (go_at_call 52;refine (oJ _ _).mono ?_;rintro e w3 ⟨rfl,rfl⟩)
  refine Calls.mono v.o ?_
  rintro e w3 ⟨E,P,tv,kv,F,n,rfl,Q,ai,ac,ab,j,W⟩
  have y:=(show Hi _ from jK w3 Q (by simp))
  have HL:=aA Q
  clear v Q
  go_wp2_with fail
  refine Calls.mono y.o ?_
  rintro e w4 ⟨rfl,A⟩
  clear y
  go_wp2_with fail
  go_ret2
  refine ⟨.inl ⟨d,E,_,rfl,⟨⟨E,xb,pb,f,S,Y,p,v',l,r,t,i,P,tv,kv,F,n,bP c,_,_,rfl,HL.o.fr0 A,rfl,by omega,by omega,by simp,by have:=K.o;omega⟩⟩,fun x hx=>?_⟩,((h.then0 g).then0 W).then0 A⟩
  rcases mem_append.1 hx with q|q
  ·simp only [mem_cons,not_mem_nil,or_false] at q
   omega
  rcases mem_append.1 q with q|q
  ·exact R x q
  rcases mem_append.1 q with q|q
  ·have:=j x (.inl (by simpa using q));omega
  have:=j x (.inr (by simpa using q));omega
 have u:=(show Hi _ from PE c d w)
 go_enter Tryz.func29,Tryz.ntmps29
 go_wp2_with fail
 refine Calls.mono u.o ?_
 rintro e I ⟨rfl,h⟩
 clear u
 go_wp2_with fail
 refine Calls.mono (J.o I) ?_
 rintro e w2 ⟨⟨D,_⟩|⟨_,rfl⟩,g⟩
 ·exact absurd D d
 dsimp only
 have N:=aA d
 clear d
 go_wp2_with (go_at_call 52;refine (oJ _ _).mono ?_;rintro e w3 ⟨rfl,rfl⟩)
 go_ret2
 exact ⟨.inr ⟨N.o,rfl⟩,h.then0 g⟩
theorem fQ {x y n:Nat}(h:x < n)(a:n<=y):¬ x=y:=by omega
theorem LX.remake {r p L aa:Nat} {S:List Nat} {mv ak v:Value} {l j u M:Nat} {N:Int} {tv kv:Value} {C o:List Value} {t:T} {aj:List UInt8} {I:List Stp} {w w':World} (h:LX w r p L aa S mv ak v l j u M N tv kv C o t aj I)
  {c z:Nat} {S':List Nat} {W B v':Value} {i n:Nat} {Y:T} {g:List UInt8} {a:List Stp} {m:Nat} (X:RS w' p c z S' Y W B (dH v' g) a) (y':YR w' l j i n Y g) (hF:Fr (p :: (S ++ [l,j,u])) w w')
  (P:c=L\/w.heap.size<=c) (hS:∀ b∈S',b∈S\/w.heap.size<=b) (Q:c < m) (ac:∀ b∈S',b < m) (V:i=u\/m<=i) (hm:w.heap.size<=m) (gg:GG Y) (tn:Y.turn<=1000000000) (dd:∃ s,eL [] a=some [⟨LOG,g,s⟩]) (fm:∀ s∈a,kE s) (s0:0 < a.length) :
  LX w' r p c z S' W B v' l j i n N tv kv C o Y g a:=by
 have d:=h.lt
 have nd:=h.nd
 simp only [cP,nodup_cons,mem_cons,not_mem_nil,or_false,not_or,nodup_nil,and_true,not_false_eq_true] at nd
 obtain ⟨⟨a1,a2,a3,a4,a5⟩,⟨b1,b2,b3,b4⟩,⟨c1,c2,c3⟩,⟨d1,d2⟩,e1⟩:=nd
 have E:=d r (by simp)
 have F:=d p (by simp)
 have ai:=d L (by simp)
 have H:=d l (by simp)
 have D:=d j (by simp)
 have R:=d u (by simp)
 have O:∀ b,b∉cP r p L l j u->b∉S->b∉p :: (S ++ [l,j,u]):=fun b h1 h2 e=>by
  rcases mem_cons.1 e with q|q
  ·exact h1 (by simp [q])
  rcases mem_append.1 q with q|q
  ·exact h2 q
  exact h1 (by simp only [mem_cons,not_mem_nil,or_false] at q;rcases q with q|q|q <;> simp [q])
 have af:r∉S:=fun e=>h.ns r e (by simp)
 have ag:r∉p :: (S ++ [l,j,u]):=fun e=>by
  rcases mem_cons.1 e with q|q
  ·exact a1 q
  rcases mem_append.1 q with q|q
  ·exact af q
  simp only [mem_cons,not_mem_nil,or_false] at q
  rcases q with q|q|q
  ·exact a3 q
  ·exact a4 q
  exact a5 q
 obtain ⟨k,ah,ae⟩:=h.mr
 have ad:∀ b∈S',b≠r/\b≠p/\b≠L/\b≠l/\b≠j/\b≠u:=fun b hb=>by
  rcases hS b hb with q|q
  ·have:=h.ns b q
   simp only [cP,mem_cons,not_mem_nil,or_false,not_or] at this
   exact this
  exact ⟨fun e=>fQ E q e.symm,fun e=>fQ F q e.symm,fun e=>fQ ai q e.symm,fun e=>fQ H q e.symm,fun e=>fQ D q e.symm,fun e=>fQ R q e.symm⟩
 have K:∀ x,x < w.heap.size->¬ x=L->¬ x=c:=fun x hx hn=>by
  rcases P with q|q
  ·rw [q];exact hn
  exact fQ hx q
 have A:∀ x,x < m->¬ x=u->¬ x=i:=fun x hx hn=>by
  rcases V with q|q
  ·rw [q];exact hn
  exact fQ hx q
 have J:∀ x,x < w.heap.size->x < m:=fun x hx=>Nat.lt_of_lt_of_le hx hm
 have pq:¬ c=i:=by
  rcases P with q|q
  ·exact A c Q (by rw [q];exact c3)
  exact A c Q (fun e=>fQ R q e.symm)
 have al:¬ c=l:=fun e=>K l H (fun e=>c1 e.symm) e.symm
 have ab:¬ c=j:=fun e=>K j D (fun e=>c2 e.symm) e.symm
 refine { h with h:=hF.heap h.h ag,rs:=X,y:=y',tl:=fZ h.tl hF (fun b hb=>O b (h.nt b hb).1 (h.nt b hb).2.1),mr:=⟨k,fZ ah hF (fun b hb=>O b (h.nk b hb).1 (h.nk b hb).2),ae⟩,gg:=gg,tn:=tn,dd:=dd,fm:=fm,s0:=s0,nd:=?_,ns:=fun b hb=>?_,nt:=fun b hb=>?_,nk:=fun b hb=>?_ }
 ·simp only [cP,nodup_cons,mem_cons,not_mem_nil,or_false,not_or,nodup_nil,and_true,not_false_eq_true]
  exact ⟨⟨a1,K r E a2,a3,a4,A r (J _ E) a5⟩,⟨K p F b1,b2,b3,A p (J _ F) b4⟩,⟨al,ab,pq⟩,⟨d1,A l (J _ H) d2⟩,A j (J _ D) e1⟩
 ·simp only [cP,mem_cons,not_mem_nil,or_false,not_or]
  have h1:=ad b hb
  have h2:=ac b hb
  refine ⟨h1.1,h1.2.1,fun e=>X.npb (e ▸ hb),h1.2.2.2.1,h1.2.2.2.2.1,fun e=>?_⟩
  rcases V with q|q
  ·exact h1.2.2.2.2.2 (e.trans q)
  exact fQ h2 q e
 ·have f:=d b (by simp [hb])
  have h1:=(h.nt b hb).1
  simp only [cP,mem_cons,not_mem_nil,or_false,not_or] at h1
  refine ⟨?_,fun e=>?_,(h.nt b hb).2.2⟩
  ·simp only [cP,mem_cons,not_mem_nil,or_false,not_or]
   exact ⟨h1.1,h1.2.1,K b f h1.2.2.1,h1.2.2.2.1,h1.2.2.2.2.1,A b (J _ f) h1.2.2.2.2.2⟩
  rcases hS b e with q|q
  ·exact (h.nt b hb).2.1 q
  exact fQ f q rfl
 have f:=d b (by simp [hb])
 have h1:=(h.nk b hb).1
 simp only [cP,mem_cons,not_mem_nil,or_false,not_or] at h1
 refine ⟨?_,fun e=>?_⟩
 ·simp only [cP,mem_cons,not_mem_nil,or_false,not_or]
  exact ⟨h1.1,h1.2.1,K b f h1.2.2.1,h1.2.2.2.1,h1.2.2.2.2.1,A b (J _ f) h1.2.2.2.2.2⟩
 rcases hS b e with q|q
 ·exact (h.nk b hb).2 q
 exact fQ f q rfl
theorem mE {xb yb gb qb:Nat}{S:List Nat}{w a:World}(h:Fr (xb :: S) w a):Fr (xb :: (S ++ [yb,gb,qb])) w a:=h.mono (fun b hb=>.inl (by
 rcases mem_cons.1 hb with q|q
 ·simp [q]
 simp [q]))
section
variable {lb xb pb cap:Nat} {S:List Nat} {mv stv v:Value} {yb gb qb cap2:Nat} {fst:Int} {tv kv:Value} {told marks:List Value} {t:T} {log:List UInt8} {steps:List Stp} {w:World}
theorem LX.yapart (h:LX w lb xb pb cap S mv stv v yb gb qb cap2 fst tv kv told marks t log steps):∀ b,b=yb\/b=gb\/b=qb->b∉xb :: S:=fun b hb e=>by
 have c:=h.nd
 simp only [cP,nodup_cons,mem_cons,not_mem_nil,or_false,not_or,nodup_nil,and_true,not_false_eq_true] at c
 obtain ⟨_,⟨_,d,f,g⟩,_⟩:=c
 have a:b∈cP lb xb pb yb gb qb:=by rcases hb with q|q|q <;> simp [q]
 rcases mem_cons.1 e with q|q
 ·rcases hb with r|r|r
  ·exact d (q.symm.trans r)
  ·exact f (q.symm.trans r)
  exact g (q.symm.trans r)
 exact h.ns b q a
theorem LX.synced (h:LX w lb xb pb cap S mv stv v yb gb qb cap2 fst tv kv told marks t log steps){d:World}{c a:Value}{S':List Nat}(b:RPost w xb S t (dH v log) (steps ++ [dB LOG]) d pb cap c a S'):LX d lb xb pb cap S' c a v yb gb qb cap2 fst tv kv told marks t log (steps ++ [dB LOG]):=by
 obtain ⟨s,e⟩:=h.dd
 refine h.remake (m:=d.heap.size) b.rs (h.y.fr b.fr (h.yapart yb (.inl rfl)) (h.yapart gb (.inr (.inl rfl))) (h.yapart qb (.inr (.inr rfl)))) (mE b.fr) (.inl rfl) b.old b.rs.row.lt b.rs.sve.lt (.inl rfl) b.fr.size h.gg h.tn ⟨log.length,?_⟩ (fun x hx=>?_) (by simp)
 ·rw [kH,e,Option.bind_some,qK,GD]
 rcases mem_append.1 hx with q|q
 ·exact h.fm x q
 have:x=dB LOG:=by simpa using q
 subst this
 exact sH LOG
theorem KJ (v b:Value)(log d:List UInt8):(fun k=>if k=cZ (dH v log) then none else if k=LOG then some (b,d) else dH v log k)=dH b d:=by
 funext k
 have ho:cZ (dH v log)=bO:=rfl
 rw [ho]
 by_cases a:k=bO
 ·rw [if_pos a]
  show none=if k=LOG then _ else none
  rw [if_neg (by rw [a];decide)]
 rw [if_neg a]
 by_cases e:k=LOG
 ·simp [dH,e]
 simp [dH,e]
theorem LX.folded (h:LX w lb xb pb cap S mv stv v yb gb qb cap2 fst tv kv told marks t log steps){r g:World}{f a p:Value}{S':List Nat}(i:RPost w xb S t (fun k=>if k=cZ (dH v log) then none else if k=LOG then some (p,bU 2 (bH t)) else dH v log k) (steps ++ [dA (cZ (dH v log)) (bU 2 (bH t)),dB (cZ (dH v log)),eV (cZ (dH v log)) LOG]) r pb cap f a S')(z:YR g yb gb qb cap2 t (bU 2 (bH t)))(j:Fr [yb] r g) :
  LX g lb xb pb cap S' f a p yb gb qb cap2 fst tv kv told marks t (bU 2 (bH t)) (steps ++ [dA bO (bU 2 (bH t)),dB bO,eV bO LOG]):=by
 obtain ⟨s,y⟩:=h.dd
 have c:=i.rs
 rw [KJ] at c
 have ho:cZ (dH v log)=bO:=rfl
 rw [ho] at c
 have o:=h.nd
 simp only [cP,nodup_cons,mem_cons,not_mem_nil,or_false,not_or,nodup_nil,and_true,not_false_eq_true] at o
 have A:=h.lt yb (by simp)
 have n:∀ b∈S',b∉[yb]:=fun b hb e=>by
  have u:b=yb:=by simpa using e
  rcases i.old b hb with q|q
  ·exact h.ns b q (by simp [u])
  omega
 have d:RS g xb pb cap S' t f a (dH p (bU 2 (bH t))) (steps ++ [dA bO (bU 2 (bH t)),dB bO,eV bO LOG]):=c.fr j (by simp;exact o.2.1.2.1) (by simp;exact o.2.2.1.1) n
 have l:Fr (xb :: (S ++ [yb,gb,qb])) w g:=(mE i.fr).trans j (fun b hb=>.inl (by
  have e:b=yb:=by simpa using hb
  simp [e]))
 refine h.remake (m:=g.heap.size) d z l (.inl rfl) i.old d.row.lt d.sve.lt (.inl rfl) (Nat.le_trans i.fr.size j.size) h.gg h.tn ⟨(bU 2 (bH t)).length,?_⟩ (fun x hx=>?_) (by simp)
 ·rw [kH,y,Option.bind_some]
  exact GC log _ s
 rcases mem_append.1 hx with q|q
 ·exact h.fm x q
 simp only [mem_cons,not_mem_nil,or_false] at q
 rcases q with rfl|rfl|rfl
 ·exact sG _ _ (qQ h.gg h.tn)
 ·exact sH _
 exact AX _ _
end
section
variable {lb xb pb cap:Nat} {S:List Nat} {mv stv v:Value} {yb gb qb cap2:Nat} {fst:Int} {tv kv:Value} {told marks:List Value} {t:T} {log:List UInt8} {steps:List Stp} {w:World}
theorem KK (v a:Value)(log x:List UInt8):(fun k=>if k=LOG then some (a,bR (dH v log) LOG ++ x) else dH v log k)=dH a (log ++ x):=by
 funext k
 by_cases e:k=LOG
 ·simp [dH,e,bR]
 simp [dH,e]
theorem LX.played (h:LX w lb xb pb cap S mv stv v yb gb qb cap2 fst tv kv told marks t log steps) {a l2:List Cm} {z A:World} {d g:Nat} {y i L:Value} {S':List Nat} {f c:Nat} (ht:t.turn < 1000000000) (J:(cV t.turn a l2).length<=40000)
  (j:RPost w xb S (eD t (a,l2)) (fun k=>if k=LOG then some (L,bR (dH v log) LOG ++ eW t (a,l2)) else dH v log k) (steps ++ [dA LOG (eW t (a,l2))]) z d g y i S') (p:d=pb\/w.heap.size<=d)
  (W:YR A yb gb f c (eD t (a,l2)) (log ++ eW t (a,l2))) (I:Fr [yb,gb,qb] z A) (F:f=qb\/z.heap.size<=f) :
  LX A lb xb d g S' y i L yb gb f c fst tv kv told marks (eD t (a,l2)) (log ++ eW t (a,l2)) (steps ++ [dA LOG (eW t (a,l2))]):=by
 obtain ⟨s,V⟩:=h.dd
 have o:=j.rs
 rw [KK] at o
 have n:=h.gg.play (a,l2) ht
 have B:(eW t (a,l2)).length<=41000:=by
  have X:=mF 1 (cV t.turn a l2) (by omega)
  show (bU 1 (cV t.turn a l2)).length<=41000
  omega
 have K:=h.nd
 simp only [cP,nodup_cons,mem_cons,not_mem_nil,or_false,not_or,nodup_nil,and_true,not_false_eq_true] at K
 obtain ⟨_,⟨_,M,N,O⟩,⟨P,Q,R⟩,_⟩:=K
 have u:=h.lt yb (by simp)
 have l:=h.lt gb (by simp)
 have r:=h.lt qb (by simp)
 have D:∀ b∈S',b∉[yb,gb,qb]:=fun b hb e=>by
  simp only [mem_cons,not_mem_nil,or_false] at e
  rcases j.old b hb with q|q
  ·exact h.ns b q (by rcases e with e|e|e <;> simp [e])
  rcases e with e|e|e
  ·exact fQ u q e.symm
  ·exact fQ l q e.symm
  exact fQ r q e.symm
 have H:xb∉[yb,gb,qb]:=by
  simp only [mem_cons,not_mem_nil,or_false,not_or]
  exact ⟨M,N,O⟩
 have E:d∉[yb,gb,qb]:=by
  simp only [mem_cons,not_mem_nil,or_false,not_or]
  rcases p with q|q
  ·rw [q];exact ⟨P,Q,R⟩
  exact ⟨fun e=>fQ u q e.symm,fun e=>fQ l q e.symm,fun e=>fQ r q e.symm⟩
 have C:Fr (xb :: (S ++ [yb,gb,qb])) w A:=(mE j.fr).trans I (fun b hb=>.inl (by
  simp only [mem_cons,not_mem_nil,or_false] at hb
  rcases hb with e|e|e <;> simp [e]))
 refine h.remake (m:=z.heap.size) (o.fr I H E D) W C p j.old j.rs.row.lt j.rs.sve.lt F j.fr.size n.1 (by have:=n.2;omega) ⟨s,?_⟩ (fun x hx=>?_) (by simp)
 ·rw [kH,V,Option.bind_some,qK,GA]
 rcases mem_append.1 hx with q|q
 ·exact h.fm x q
 have:x=dA LOG (eW t (a,l2)):=by simpa using q
 subst this
 exact sG _ _ B
end
