import Derived.Test.YtapabahhfanmmaaGreatDoorCBuild
namespace Go.Proofs.YtapabahhfanmmaaGreatDoor
open Go.RowKit
set_option maxHeartbeats 2000000
theorem vq3 {P:Program} (w:World) (base:Nat) (t ty e:TypeId) (i:TypeInfo) (z:Value) (size bytes:Nat) (ht:P.underlying t=some (.slice e)) (hi:P.info? e=some i) (hz:i.zero=some z)
  (hsize:i.size=size) (hby:i.bytes=bytes) (hzs:z.cells.size=size)
  (v:Value) (n:Nat) (xs:List Value) (hown:w.ownsRow base e size v n xs)
  (a:Addr) (m c:Nat) (news:List Value) (hl:news.length=m*size) (hnews:∀ j u,news[j]?=some u->w.cell? (a.add j)=some u) (h1:∀ u∈news,u.oneCell'=true)
  (h63:n+m<=maxLen) (hbytes:(n+m)*bytes<=140737488355328) (hbase:base<=w.heap.size) (hm:0 < m) :
  ∃ v' w',(Builtin.append_ #[t,t] ty #[v,.slice (some a) m c]).run P w=.ok v' w'/\w'.ownsRow base e size v' (n+m) (xs ++ news)/\w'.ownsRow base e size v n xs /\
   ((v'.ownBlock=v.ownBlock/\w.grownBy w' v.ownBlock)\/(v'.ownBlock=some w.heap.size/\w.grownBy w' none)):=by
 subst hsize
 subst hby
 have hsmall:n+m<=9223372036854775807:=by simp only [maxLen] at h63;omega
 have hlen:(xs ++ news).length=(n+m)*i.size:=by rw [List.length_append,hown.1,hl,Nat.add_mul]
 have grown:∀ (old:Nat),old < n+m ->
   (w.drew.alloc (.cells (xs.toArray ++ news.toArray ++ Builtin.zeroCells z.cells (grownCap w (n+m) old e - (n+m))) e)).ownsRow base e i.size
    (.slice (some ⟨w.heap.size,0,none⟩) (n+m) (grownCap w (n+m) old e)) (n+m) (xs ++ news) /\
   w.grownBy (w.drew.alloc (.cells (xs.toArray ++ news.toArray ++ Builtin.zeroCells z.cells (grownCap w (n+m) old e - (n+m))) e)) none:=by
  intro old ho
  have hge:=grownCap_ge w (n+m) old e
  have hcm:grownCap w (n+m) old e<=maxLen:=grownCap_le_maxLen w (n+m) old e h63
  refine ⟨⟨hlen,.inr ⟨w.heap.size,_,_,rfl,hbase,heap_alloc_new w.drew _,hge,hcm,?_,?_⟩⟩,⟨rfl,rfl,rfl,by simp,fun k hk _=>Below.heap_alloc w.drew _ k hk⟩⟩
  ·simp only [Array.size_append,List.size_toArray,size_zeroCells,hzs,hown.1,hl,<- Nat.add_mul]
   congr 1
   omega
  ·simp only [Array.toList_append,List.append_assoc]
   rw [<- List.append_assoc,<- hlen]
   exact List.take_left
 have kept:∀ w',w.grownBy w' none->w'.ownsRow base e i.size v n xs:=fun w' h=>hown.kept h (by cases v.ownBlock <;> simp)
 rcases hown.2 with ⟨rfl,rfl⟩|⟨g,cap,cur,rfl,hbg,hg,hnc,hcm,hcs,htake⟩
 ·have hx:xs=[]:=List.eq_nil_of_length_eq_zero (by simpa using hown.1)
  subst hx
  have hr:=run_append_nil (P:=P) w t ty e i z ht hi hz a m c news hl hnews (by omega) (by omega) (by have hb:=hbytes;simp only [Nat.zero_add] at hb;omega)
  have hgr:=grown 0 (by omega)
  have hk:=kept _ hgr.2
  simp only [Nat.zero_add,List.nil_append,Array.empty_append] at hgr hk |-
  exact ⟨_,_,hr,hgr.1,hk,Or.inr ⟨rfl,hgr.2⟩⟩
 ·by_cases hroom:n+m<=cap
  ·have hfit:n*i.size+news.length<=cur.size:=by rw [hl,hcs,<- Nat.add_mul];exact Nat.mul_le_mul_right _ hroom
   have hr:=run_append_room (P:=P) w t ty e i ht hi g n cap cur hg a m c news hl hnews h1 hroom hfit
   have hsz:(cur.toList.take (n*i.size) ++ news ++ cur.toList.drop (n*i.size+news.length)).toArray.size=cap*i.size:=by
    simp only [List.size_toArray,List.length_append,List.length_take,List.length_drop,Array.length_toList]
    omega
   refine ⟨_,_,hr,⟨hlen,.inr ⟨g,cap,_,rfl,hbg,setRow_heap w g cur _ e _ hg,hroom,hcm,hsz,?_⟩⟩,⟨hown.1,.inr ⟨g,cap,_,rfl,hbg,setRow_heap w g cur _ e _ hg,hnc,hcm,hsz,?_⟩⟩,Or.inl ⟨rfl,rfl,rfl,rfl,by simp,fun k _ hk=>setRow_other w g k _ (fun e=>hk (by simp [Value.ownBlock,e]))⟩⟩
   ·rw [htake,<- hlen]
    exact List.take_left
   ·rw [htake,List.append_assoc,<- hown.1]
    exact List.take_left
  ·have holds:∀ j u,xs[j]?=some u->w.cell? ((⟨g,0,none⟩:Addr).add j)=some u:=hown.cells (g:=g) rfl
   have hr:=run_append_grow (P:=P) w t ty e i z ht hi hz ⟨g,0,none⟩ n cap xs hown.1 holds a m c news hl hnews (by omega) (by omega) (growslice_fits (by omega) hbytes)
   have hgr:=grown cap (by omega)
   exact ⟨_,_,hr,hgr.1,kept _ hgr.2,Or.inr ⟨rfl,hgr.2⟩⟩
theorem jz0 {P:Program} {w:World} {o:Oper} {a:Act} {K:Act->World->Prop} {Q:Exit->Act->World->Prop} (s x:Operand) (t:TypeId)
  (ho:o.op=.call { callee:=.builtin .append,args:=#[s,x],argTypes:=#[t,t] })
  (base:Nat) (e:TypeId) (i:TypeInfo) (z:Value) (size bytes:Nat) (ht:P.underlying t=some (.slice e)) (hi:P.info? e=some i) (hz:i.zero=some z)
  (hsize:i.size=size) (hby:i.bytes=bytes) (hzs:z.cells.size=size)
  (v:Value) (n:Nat) (xs:List Value) (hs:a.eval s=v) (hown:w.ownsRow base e size v n xs)
  (ad:Addr) (m c:Nat) (news:List Value) (hx:a.eval x=.slice (some ad) m c) (hl:news.length=m*size) (hnews:∀ j u,news[j]?=some u->w.cell? (ad.add j)=some u) (h1:∀ u∈news,u.oneCell'=true)
  (h63:n+m<=maxLen) (hbytes:(n+m)*bytes<=140737488355328) (hbase:base<=w.heap.size) (hm:0 < m)
  (h:∀ v' w',w'.ownsRow base e size v' (n+m) (xs ++ news)->w'.ownsRow base e size v n xs->((v'.ownBlock=v.ownBlock/\w.grownBy w' v.ownBlock)\/(v'.ownBlock=some w.heap.size/\w.grownBy w' none))->K (a.put o.dst v') w'):o.wp P a w K Q:=by
 obtain ⟨v',w',hr,h2,h3,h4⟩:=vq3 (P:=P) w base t o.type e i z size bytes ht hi hz hsize hby hzs v n xs hown ad m c news hl hnews h1 h63 hbytes hbase hm
 unfold Oper.wp execOp
 simp only [ho,resolve,invoke,builtin,Sem.run_bind,Sem.run_pure,Result.andThen_ok,List.map_toArray,List.map_cons,List.map_nil,hs,hx,hr]
 exact h v' w' h2 h3 h4
theorem qj6 {P:Program} {w:World} {ops:Array Oper} {rest:List Oper} {o:Oper} {a:Act} {Q:Exit->Act->World->Prop} (hgd:o.guard=none) (s x:Operand) (t:TypeId)
  (ho:o.op=.call { callee:=.builtin .append,args:=#[s,x],argTypes:=#[t,t] })
  (base:Nat) (e:TypeId) (i:TypeInfo) (z:Value) (size bytes:Nat) (ht:P.underlying t=some (.slice e)) (hi:P.info? e=some i) (hz:i.zero=some z)
  (hsize:i.size=size) (hby:i.bytes=bytes) (hzs:z.cells.size=size)
  (v:Value) (n:Nat) (xs:List Value) (hs:a.eval s=v) (hown:w.ownsRow base e size v n xs)
  (ad:Addr) (m c:Nat) (news:List Value) (hx:a.eval x=.slice (some ad) m c) (hl:news.length=m*size) (hnews:∀ j u,news[j]?=some u->w.cell? (ad.add j)=some u) (h1:∀ u∈news,u.oneCell'=true)
  (h63:n+m<=maxLen) (hbytes:(n+m)*bytes<=140737488355328) (hbase:base<=w.heap.size) (hm:0 < m)
  (h:∀ v' w',w'.ownsRow base e size v' (n+m) (xs ++ news)->w'.ownsRow base e size v n xs->((v'.ownBlock=v.ownBlock/\w.grownBy w' v.ownBlock)\/(v'.ownBlock=some w.heap.size/\w.grownBy w' none))->wpList P ops Q rest (a.put o.dst v') w'):wpList P ops Q (o :: rest) a w :=
 wpList_plain hgd fun _ hK=>jz0 s x t ho base e i z size bytes ht hi hz hsize hby hzs v n xs hs hown ad m c news hx hl hnews h1 h63 hbytes hbase hm fun v' w' h2 h3 h4=>hK _ _ (h v' w' h2 h3 h4)
def Mks (w:World)(K:List Nat)(v:Value)(m:Int):Prop:=∃ ao n c,v=.slice ao n c/\n<=3000000/\(n=0\/∃ b,ao=some ⟨b,0,none⟩/\b∈K/\∀ k,k < n->w.cell? ⟨b,k,none⟩=some (ii m))
def jv7 (m:Int):U:=⟨m,0,0,0,0,m,0,0,0,0,0⟩
def MkU (w:World)(K:List Nat)(v:Value)(m:Int):Prop:=∃ ao n c,v=.slice ao n c/\n<=3000000/\(n=0\/∃ b,ao=some ⟨b,0,none⟩/\b∈K/\∀ k,k < n->w.rangeAt b (k*11) (jv7 m).cells)
def MkP (w:World)(K:List Nat)(v:Value):Prop:=∃ ao n c,v=.slice ao n c/\n<=3000000/\(n=0\/∃ b,ao=some ⟨b,0,none⟩/\b∈K/\∀ k,k < n->∃ x xc,w.cell? ⟨b,k,none⟩=some (.slice (some ⟨x,0,none⟩) 1 xc)/\x∈K/\w.cell? ⟨x,0,none⟩=some (ii (-7)))
theorem Mks.fr {S K:List Nat}{w w':World}{v:Value}{m:Int}(h:Mks w K v m)(hf:Fr S w w')(hs:∀ b∈K,b∉S):Mks w' K v m:=by
 obtain ⟨ao,n,c,h1,h2,h3⟩:=h
 refine ⟨ao,n,c,h1,h2,?_⟩
 rcases h3 with h3|⟨b,q1,q2,q3⟩
 ·exact Or.inl h3
 ·exact Or.inr ⟨b,q1,q2,fun k hk=>by rw [hf.cell b k (qq1 (q3 k hk)) (hs b q2)];exact q3 k hk⟩
theorem MkU.fr {S K:List Nat}{w w':World}{v:Value}{m:Int}(h:MkU w K v m)(hf:Fr S w w')(hs:∀ b∈K,b∉S):MkU w' K v m:=by
 obtain ⟨ao,n,c,h1,h2,h3⟩:=h
 refine ⟨ao,n,c,h1,h2,?_⟩
 rcases h3 with h3|⟨b,q1,q2,q3⟩
 ·exact Or.inl h3
 ·exact Or.inr ⟨b,q1,q2,fun k hk j u hu=>by rw [hf.cell b _ (qq1 (q3 k hk j u hu)) (hs b q2)];exact q3 k hk j u hu⟩
theorem MkP.fr {S K:List Nat}{w w':World}{v:Value}(h:MkP w K v)(hf:Fr S w w')(hs:∀ b∈K,b∉S):MkP w' K v:=by
 obtain ⟨ao,n,c,h1,h2,h3⟩:=h
 refine ⟨ao,n,c,h1,h2,?_⟩
 rcases h3 with h3|⟨b,q1,q2,q3⟩
 ·exact Or.inl h3
 ·refine Or.inr ⟨b,q1,q2,fun k hk=>?_⟩
  obtain ⟨x,xc,r1,r2,r3⟩:=q3 k hk
  exact ⟨x,xc,by rw [hf.cell b k (qq1 r1) (hs b q2)];exact r1,r2,by rw [hf.cell x 0 (qq1 r3) (hs x r2)];exact r3⟩
theorem Mks.up {K K':List Nat}{w:World}{v:Value}{m:Int}(h:Mks w K v m)(hk:∀ b∈K,b∈K'):Mks w K' v m:=by
 obtain ⟨ao,n,c,h1,h2,h3⟩:=h
 exact ⟨ao,n,c,h1,h2,h3.imp_right fun ⟨b,q1,q2,q3⟩=>⟨b,q1,hk b q2,q3⟩⟩
theorem MkU.up {K K':List Nat}{w:World}{v:Value}{m:Int}(h:MkU w K v m)(hk:∀ b∈K,b∈K'):MkU w K' v m:=by
 obtain ⟨ao,n,c,h1,h2,h3⟩:=h
 exact ⟨ao,n,c,h1,h2,h3.imp_right fun ⟨b,q1,q2,q3⟩=>⟨b,q1,hk b q2,q3⟩⟩
theorem MkP.up {K K':List Nat}{w:World}{v:Value}(h:MkP w K v)(hk:∀ b∈K,b∈K'):MkP w K' v:=by
 obtain ⟨ao,n,c,h1,h2,h3⟩:=h
 refine ⟨ao,n,c,h1,h2,h3.imp_right fun ⟨b,q1,q2,q3⟩=>⟨b,q1,hk b q2,fun k hk'=>?_⟩⟩
 obtain ⟨x,xc,r1,r2,r3⟩:=q3 k hk'
 exact ⟨x,xc,r1,hk x r2,r3⟩
def bEl (k:Nat):TypeId:=if k=0 then 25 else if k=2 then 46 else if k=3 then 82 else 3
def upd {α:Type}(f:Nat->α)(k:Nat)(v:α):Nat->α:=fun i=>if i=k then v else f i
theorem zj5 {α:Type}(f:Nat->α)(k:Nat)(v:α):upd f k v k=v:=if_pos rfl
theorem qy6 {α:Type}(f:Nat->α){k i:Nat}(v:α)(h:i≠k):upd f k v i=f i:=if_neg h
structure BR (w:World) (bb:Nat) (rv:Nat->Value) (xs:Nat->List Value) (nx:Int):Prop where
 cell:∀ k,k < 5->w.cell? ⟨bb,k,none⟩=some (rv k)
 nils:∀ k,5<=k->k < 9->w.cell? ⟨bb,k,none⟩=some (.slice none 0 0)
 nxt:w.cell? ⟨bb,9,none⟩=some (ii nx)
 fz:∀ k,w.frozen? ⟨bb,k,none⟩=false
 own:∀ k,k < 5->w.ownsRow 0 (bEl k) 1 (rv k) (xs k).length (xs k)
 nb:∀ k,k < 5->(rv k).ownBlock≠some bb
 ap:∀ i j,i < 5->j < 5->i≠j->∀ g,(rv i).ownBlock=some g->(rv j).ownBlock≠some g
theorem BR.lt {w:World}{bb:Nat}{rv:Nat->Value}{xs:Nat->List Value}{nx:Int}(h:BR w bb rv xs nx):bb < w.heap.size:=qq1 h.nxt
theorem BR.fr {S:List Nat}{w w':World}{bb:Nat}{rv:Nat->Value}{xs:Nat->List Value}{nx:Int}(h:BR w bb rv xs nx)(hf:Fr S w w')(hb:bb∉S)(hs:∀ k,k < 5->∀ g,(rv k).ownBlock=some g->g∉S):BR w' bb rv xs nx :=
 { h with
  cell:=fun k hk=>by rw [hf.cell bb k h.lt hb];exact h.cell k hk
  nils:=fun k h1 h2=>by rw [hf.cell bb k h.lt hb];exact h.nils k h1 h2
  nxt:=by rw [hf.cell bb 9 h.lt hb];exact h.nxt
  fz:=fun k=>by rw [hf.frozen bb k h.lt hb];exact h.fz k
  own:=fun k hk=>qq7 (h.own k hk) hf (hs k hk) }
theorem jx8 (w:World)(p:Addr)(v:Value)(b k:Nat):(w.setCell p v).frozen? ⟨b,k,none⟩=w.frozen? ⟨b,k,none⟩:=by simp
theorem BR.mark {w:World}{bb:Nat}{rv:Nat->Value}{xs:Nat->List Value}{nx:Int}(h:BR w bb rv xs nx)(n:Int):BR (w.setCell ⟨bb,9,none⟩ (ii n)) bb rv xs n :=
 { h with
  cell:=fun k hk=>by rw [qz1 _ _ _ _ _ _ (Or.inr (by omega))];exact h.cell k hk
  nils:=fun k h1 h2=>by rw [qz1 _ _ _ _ _ _ (Or.inr (by omega))];exact h.nils k h1 h2
  nxt:=qk0 _ _ _ _ _ h.nxt
  fz:=fun k=>by rw [jx8];exact h.fz k
  own:=fun k hk=>qq7 (h.own k hk) ((Fr.refl [bb] w).setCell _ _ (by simp)) (fun g hg e=>h.nb k hk (by rw [hg];simpa using e)) }
theorem BR.push {w w':World} {bb:Nat} {rv:Nat->Value} {xs:Nat->List Value} {nx:Int} (h:BR w bb rv xs nx) (k:Nat) (hk:k < 5) (v':Value) (news:List Value)
  (ho:w'.ownsRow 0 (bEl k) 1 v' ((xs k).length+news.length) (xs k ++ news))
  (ha:(v'.ownBlock=(rv k).ownBlock/\w.grownBy w' (rv k).ownBlock)\/(v'.ownBlock=some w.heap.size/\w.grownBy w' none)) :
  BR (w'.setCell ⟨bb,k,none⟩ v') bb (upd rv k v') (upd xs k (xs k ++ news)) nx/\Fr (bb :: (rv k).ownBlock.toList) w (w'.setCell ⟨bb,k,none⟩ v'):=by
 have hf1:Fr (rv k).ownBlock.toList w w':=by
  rcases ha with ⟨_,hg⟩|⟨_,hg⟩
  ·exact (Fr.refl _ _).grow hg (fun g hg=>Or.inl (by simp [hg]))
  ·exact (Fr.refl _ _).grow hg (fun g hg=>by cases hg)
 have hnb:bb∉(rv k).ownBlock.toList:=fun e=>h.nb k hk (by simpa using e)
 have hlt:=h.lt
 have hv':v'.ownBlock≠some bb:=by
  rcases ha with ⟨e,_⟩|⟨e,_⟩
  ·rw [e];exact h.nb k hk
  ·rw [e];intro e2;cases e2;omega
 have hoth:∀ i,i < 5->i≠k->∀ g,v'.ownBlock=some g->(rv i).ownBlock≠some g:=by
  intro i hi hik g hg e
  rcases ha with ⟨e1,_⟩|⟨e1,_⟩
  ·rw [e1] at hg
   exact h.ap k i hk hi (fun e=>hik e.symm) g hg e
  ·rw [e1] at hg
   cases hg
   have:=(h.own i hi).lt _ e
   omega
 have c:∀ j,w'.cell? ⟨bb,j,none⟩=w.cell? ⟨bb,j,none⟩:=fun j=>hf1.cell bb j hlt hnb
 have hf2:Fr [bb] w' (w'.setCell ⟨bb,k,none⟩ v'):=(Fr.refl _ _).setCell _ _ (by simp)
 refine ⟨⟨fun j hj=>?_,fun j h1 h2=>?_,?_,fun j=>?_,fun j hj=>?_,fun j hj=>?_,fun i j hi hj hij g hg=>?_⟩,?_⟩
 ·by_cases e:j=k
  ·subst e
   rw [zj5,qk0 _ _ _ _ _ ((c j).trans (h.cell j hj))]
  ·rw [qy6 _ _ e,qz1 _ _ _ _ _ _ (Or.inr (fun e2=>e e2.symm)),c]
   exact h.cell j hj
 ·rw [qz1 _ _ _ _ _ _ (Or.inr (by omega)),c];exact h.nils j h1 h2
 ·rw [qz1 _ _ _ _ _ _ (Or.inr (by omega)),c];exact h.nxt
 ·rw [jx8,hf1.frozen bb j hlt hnb];exact h.fz j
 ·by_cases e:j=k
  ·subst e
   rw [zj5,zj5,List.length_append]
   exact qq7 ho hf2 (fun g hg e=>hv' (by rw [hg];simpa using e))
  ·rw [qy6 _ _ e,qy6 _ _ e]
   refine qq7 (qq7 (h.own j hj) hf1 (fun g hg e2=>?_)) hf2 (fun g hg e2=>h.nb j hj (by rw [hg];simpa using e2))
   exact h.ap j k hj hk e g hg (by simpa using e2)
 ·by_cases e:j=k
  ·subst e
   rw [zj5];exact hv'
  ·rw [qy6 _ _ e];exact h.nb j hj
 ·by_cases e:i=k
  ·subst e
   rw [zj5] at hg
   rw [qy6 _ _ (fun e=>hij e.symm)]
   exact hoth j hj (fun e=>hij e.symm) g hg
  ·rw [qy6 _ _ e] at hg
   by_cases e2:j=k
   ·subst e2
    rw [zj5]
    exact fun e3=>hoth i hi e g e3 hg
   ·rw [qy6 _ _ e2]
    exact h.ap i j hi hj hij g hg
 ·exact (hf1.mono (fun g hg=>Or.inl (List.mem_cons_of_mem _ hg))).setCell _ _ (by simp)
structure BL (w:World) (K:List Nat) (xs:Nat->List Value):Prop where
 pl:∀ (i:Nat) (v:Value),(xs 0)[i]?=some v->∃ m,(xs 1)[i]?=some (ii m)/\Mks w K v m
 pr:∀ (i:Nat) (v:Value),(xs 2)[i]?=some v->MkP w K v
 pe:∀ (i:Nat) (v:Value),(xs 3)[i]?=some v->∃ m,(xs 4)[i]?=some (ii m)/\MkU w K v m
theorem BL.fr {S K:List Nat}{w w':World}{xs:Nat->List Value}(h:BL w K xs)(hf:Fr S w w')(hs:∀ b∈K,b∉S):BL w' K xs :=
  ⟨fun i v hv=>by obtain ⟨m,h1,h2⟩:=h.pl i v hv;exact ⟨m,h1,h2.fr hf hs⟩,fun i v hv=>(h.pr i v hv).fr hf hs,fun i v hv=>by obtain ⟨m,h1,h2⟩:=h.pe i v hv;exact ⟨m,h1,h2.fr hf hs⟩⟩
theorem BL.up {K K':List Nat}{w:World}{xs:Nat->List Value}(h:BL w K xs)(hk:∀ b∈K,b∈K'):BL w K' xs :=
  ⟨fun i v hv=>by obtain ⟨m,h1,h2⟩:=h.pl i v hv;exact ⟨m,h1,h2.up hk⟩,fun i v hv=>(h.pr i v hv).up hk,fun i v hv=>by obtain ⟨m,h1,h2⟩:=h.pe i v hv;exact ⟨m,h1,h2.up hk⟩⟩
structure Bk (w:World) (bb:Nat) (K:List Nat) (N:Nat):Prop where
 ex:∃ rv xs nx KL,BR w bb rv xs nx/\BL w KL xs/\(xs 0).length=(xs 1).length/\(xs 3).length=(xs 4).length/\(xs 0).length<=8*N/\(xs 2).length<=3*N/\(xs 3).length<=4*N /\ -(3*(N:Int))<=nx/\nx<=0/\(∀ k,k < 5->∀ g,(rv k).ownBlock=some g->g∈K)/\(∀ b∈KL,b∈K/\∀ k,k < 5->(rv k).ownBlock≠some b)
 nb:bb∉K
 kl:∀ b∈K,b < w.heap.size
theorem Bk.fr {S K:List Nat}{w w':World}{bb N:Nat}(h:Bk w bb K N)(hf:Fr S w w')(hb:bb∉S)(hs:∀ b∈K,b∉S):Bk w' bb K N:=by
 obtain ⟨⟨rv,xs,nx,KL,h1,h2,h3,h4,h5,h6,h7,h8,h9,h10,h11⟩,hn,hkl⟩:=h
 exact ⟨⟨rv,xs,nx,KL,h1.fr hf hb (fun k hk g hg=>hs g (h10 k hk g hg)),h2.fr hf (fun b hb=>hs b (h11 b hb).1),h3,h4,h5,h6,h7,h8,h9,h10,h11⟩,hn,fun b hb=>Nat.lt_of_lt_of_le (hkl b hb) hf.size⟩
theorem Bk.fr0 {K:List Nat}{w w':World}{bb N:Nat}(h:Bk w bb K N)(hf:Fr [] w w'):Bk w' bb K N:=h.fr hf (by simp) (by simp)
theorem Bk.more {K:List Nat}{w:World}{bb N M:Nat}(h:Bk w bb K N)(hm:N<=M):Bk w bb K M:=by
 obtain ⟨⟨rv,xs,nx,KL,h1,h2,h3,h4,h5,h6,h7,h8,h9,h10,h11⟩,hn,hkl⟩:=h
 exact ⟨⟨rv,xs,nx,KL,h1,h2,h3,h4,by omega,by omega,by omega,by omega,h9,h10,h11⟩,hn,hkl⟩
theorem Bk.lt {K:List Nat}{w:World}{bb N:Nat}(h:Bk w bb K N):bb < w.heap.size:=by
 obtain ⟨⟨rv,xs,nx,KL,h1,_⟩,_,_⟩:=h
 exact h1.lt
theorem Bk.start {w:World}{bb:Nat}{ty:TypeId}(h:w.heap[bb]?=some (.cells #[.slice none 0 0,.slice none 0 0,.slice none 0 0,.slice none 0 0,.slice none 0 0,.slice none 0 0,.slice none 0 0,.slice none 0 0,.slice none 0 0,ii 0] ty)):Bk w bb [] 0:=by
 refine ⟨⟨fun _=>.slice none 0 0,fun _=>[],0,[],⟨fun k hk=>?_,fun k h1 h2=>?_,?_,fun k=>qq0 h,fun k hk=>⟨rfl,Or.inl ⟨rfl,rfl⟩⟩,fun k hk e=>?_,fun i j _ _ _ g hg=>?_⟩,⟨fun i v hv=>?_,fun i v hv=>?_,fun i v hv=>?_⟩,rfl,rfl,by simp,by simp,by simp,by simp,by simp,fun k hk g hg=>?_,by simp⟩,by simp,by simp⟩
 ·rw [j9 h]
  have:k=0\/k=1\/k=2\/k=3\/k=4:=by omega
  rcases this with rfl|rfl|rfl|rfl|rfl <;> rfl
 ·rw [j9 h]
  have:k=5\/k=6\/k=7\/k=8:=by omega
  rcases this with rfl|rfl|rfl|rfl <;> rfl
 ·rw [j9 h];rfl
 ·cases e
 ·cases hg
 ·simp at hv
 ·simp at hv
 ·simp at hv
 ·cases hg
def qw8 (size:Nat)(pat:Nat->Value)(n:Nat):List Value:=(List.range (n*size)).map pat
theorem zv0 (size:Nat)(pat:Nat->Value)(n:Nat):(qw8 size pat n).length=n*size:=by simp [qw8]
theorem jy8 {size:Nat}{pat:Nat->Value}{n k:Nat}(h:k < n*size):(qw8 size pat n)[k]?=some (pat k):=by
 unfold qw8
 rw [List.getElem?_map,List.getElem?_range h]
 rfl
theorem fz2 {size:Nat}{pat:Nat->Value}(hp:∀ k,pat (k+size)=pat k)(j:Nat):∀ n,pat (j+n*size)=pat j
 | 0=>by simp
 | n+1=>by
  have:=hp (j+n*size)
  rw [show j+(n+1)*size=j+n*size+size by rw [Nat.add_mul];omega,this]
  exact fz2 hp j n
theorem yk1 {size:Nat}{pat:Nat->Value}(hp:∀ k,pat (k+size)=pat k)(n m:Nat):qw8 size pat n ++ qw8 size pat m=qw8 size pat (n+m):=by
 apply List.ext_getElem?
 intro i
 have hadd:(n+m)*size=n*size+m*size:=Nat.add_mul n m size
 by_cases h1:i < n*size
 ·rw [List.getElem?_append_left (by rw [zv0];exact h1),jy8 h1,jy8 (by omega)]
 ·rw [List.getElem?_append_right (by rw [zv0];omega),zv0]
  by_cases h2:i < n*size+m*size
  ·rw [jy8 (by omega),jy8 (by omega)]
   have:=fz2 hp (i - n*size) n
   rw [show i - n*size+n*size=i by omega] at this
   rw [this]
  ·rw [List.getElem?_eq_none (by rw [zv0];omega),List.getElem?_eq_none (by rw [zv0];omega)]
def Mkg (w:World)(K:List Nat)(size:Nat)(pat:Nat->Value)(v:Value)(n:Nat):Prop:=∃ ao c,v=.slice ao n c/\(n=0\/∃ b,ao=some ⟨b,0,none⟩/\b∈K/\∀ k,k < n*size->w.cell? ⟨b,k,none⟩=some (pat k))
theorem Mkg.of_own {w:World}{base n size:Nat}{e:TypeId}{v:Value}{pat:Nat->Value}{K:List Nat}(h:w.ownsRow base e size v n (qw8 size pat n))(hk:∀ g,v.ownBlock=some g->g∈K):Mkg w K size pat v n:=by
 have hc:=fun g (hg:v.ownBlock=some g)=>h.cells hg
 rcases h.2 with ⟨rfl,rfl⟩|⟨g,cap,cur,rfl,_⟩
 ·exact ⟨none,0,rfl,Or.inl rfl⟩
 ·refine ⟨_,cap,rfl,Or.inr ⟨g,rfl,hk g rfl,fun k hk2=>?_⟩⟩
  have:=hc g rfl k (pat k) (jy8 hk2)
  rwa [Addr.add_lit,Nat.zero_add] at this
theorem Mkg.up {w:World}{K K':List Nat}{size n:Nat}{pat:Nat->Value}{v:Value}(h:Mkg w K size pat v n)(hk:∀ b∈K,b∈K'):Mkg w K' size pat v n:=by
 obtain ⟨ao,c,h1,h2⟩:=h
 exact ⟨ao,c,h1,h2.imp_right fun ⟨b,q1,q2,q3⟩=>⟨b,q1,hk b q2,q3⟩⟩
theorem Mkg.fr {S:List Nat}{w w':World}{K:List Nat}{size n:Nat}{pat:Nat->Value}{v:Value}(h:Mkg w K size pat v n)(hf:Fr S w w')(hs:∀ b∈K,b∉S):Mkg w' K size pat v n:=by
 obtain ⟨ao,c,h1,h2⟩:=h
 exact ⟨ao,c,h1,h2.imp_right fun ⟨b,q1,q2,q3⟩=>⟨b,q1,q2,fun k hk=>by rw [hf.cell b k (qq1 (q3 k hk)) (hs b q2)];exact q3 k hk⟩⟩
theorem Mkg.app {w w':World} {K:List Nat} {base size nd n':Nat} {e:TypeId} {pat:Nat->Value} {d v v':Value} (h:Mkg w K size pat d nd) (ho:w'.ownsRow base e size v' n' (qw8 size pat n')) (hle:nd<=n')
  (ha:(v'.ownBlock=v.ownBlock/\w.grownBy w' v.ownBlock)\/(v'.ownBlock=some w.heap.size/\w.grownBy w' none)):Mkg w' K size pat d nd:=by
 obtain ⟨ao,c,h1,h2⟩:=h
 refine ⟨ao,c,h1,h2.imp_right fun ⟨b,q1,q2,q3⟩=>⟨b,q1,q2,fun k hk=>?_⟩⟩
 rcases ha with ⟨e1,hg⟩|⟨_,hg⟩
 ·by_cases hb:some b=v.ownBlock
  ·have:=ho.cells (e1.trans hb.symm) k (pat k) (jy8 (Nat.lt_of_lt_of_le hk (Nat.mul_le_mul_right _ hle)))
   rwa [Addr.add_lit,Nat.zero_add] at this
  ·exact hg.cell (q3 k hk) hb
 ·exact hg.cell (q3 k hk) (by simp)
theorem yw4 {P:Program} {ops:Array Oper} {op:Oper} {a:Act} {w:World} {K:Act->World->Prop} {Q:Exit->Act->World->Prop} {E:Prop}
  (hg:op.guard=none) (s x:Operand) (t:TypeId) (hop:op.op=Op.call { callee:=Callee.builtin Builtin.append,args:=#[s,x],argTypes:=#[t,t] })
  (base:Nat) (e:TypeId) (i:TypeInfo) (z:Value) (size bytes:Nat) (ht:P.underlying t=some (.slice e)) (hi:P.info? e=some i) (hz:i.zero=some z)
  (hsize:i.size=size) (hby:i.bytes=bytes) (hzs:z.cells.size=size)
  (v:Value) (n:Nat) (xs:List Value) (hs:a.eval s=v) (hown:w.ownsRow base e size v n xs)
  (ad:Addr) (m c:Nat) (news:List Value) (hx:a.eval x=.slice (some ad) m c) (hl:news.length=m*size) (hnews:∀ j u,news[j]?=some u->w.cell? (ad.add j)=some u) (h1:∀ u∈news,u.oneCell'=true)
  (h63:n+m<=maxLen) (hbytes:(n+m)*bytes<=140737488355328) (hbase:base<=w.heap.size) (hm:0 < m)
  (hK:∀ v' w',w'.ownsRow base e size v' (n+m) (xs ++ news)->w'.ownsRow base e size v n xs->((v'.ownBlock=v.ownBlock/\w.grownBy w' v.ownBlock)\/(v'.ownBlock=some w.heap.size/\w.grownBy w' none))->K (a.put op.dst v') w') :
  if Region.wanted op (yielded ops a.tmps)=true then Oper.wp P op a w K Q else E:=by
 have hw:Region.wanted op (yielded ops a.tmps)=true:=by simp [Region.wanted,hg]
 rw [if_pos hw]
 exact jz0 s x t hop base e i z size bytes ht hi hz hsize hby hzs v n xs hs hown ad m c news hx hl hnews h1 h63 hbytes hbase hm hK
theorem qk9 {w w':World}{v v':Value}(ha:(v'.ownBlock=v.ownBlock/\w.grownBy w' v.ownBlock)\/(v'.ownBlock=some w.heap.size/\w.grownBy w' none)):Fr v.ownBlock.toList w w':=by
 rcases ha with ⟨_,hg⟩|⟨_,hg⟩
 ·exact (Fr.refl _ _).grow hg (fun g hg=>Or.inl (by simp [hg]))
 ·exact (Fr.refl _ _).grow hg (fun g hg=>by cases hg)
theorem jz3 {w w':World}{v v':Value}(ha:(v'.ownBlock=v.ownBlock/\w.grownBy w' v.ownBlock)\/(v'.ownBlock=some w.heap.size/\w.grownBy w' none)):∀ g,v'.ownBlock=some g->v.ownBlock=some g\/w.heap.size<=g:=by
 intro g hg
 rcases ha with ⟨e,_⟩|⟨e,_⟩
 ·exact Or.inl (e ▸ hg)
 ·rw [e] at hg;cases hg;exact Or.inr (Nat.le_refl _)
theorem zj8 (W:World)(cs:List Value)(e:TypeId):∀ (j:Nat) (u:Value),cs[j]?=some u->(W.alloc (.cells cs.toArray e)).cell? ((⟨W.heap.size,0,none⟩:Addr).add j)=some u:=by
 intro j u hu
 rw [Addr.add_lit,Nat.zero_add,j9 (qq6 W _)]
 simpa using hu
def xy3 (m:Int):Nat->Value:=fun _=>ii m
def zw9 (m:Int):Nat->Value:=fun k=>(jv7 m).cells.getD (k % 11) (ii 0)
theorem kw5 (m:Int):∀ k,xy3 m (k+1)=xy3 m k:=fun _=>rfl
theorem kw6 (m:Int):∀ k,zw9 m (k+11)=zw9 m k:=fun k=>by unfold zw9;rw [Nat.add_mod_right]
theorem Mkg.ints {w:World}{K:List Nat}{m:Int}{v:Value}{n:Nat}(h:Mkg w K 1 (xy3 m) v n)(hn:n<=3000000):Mks w K v m:=by
 obtain ⟨ao,c,h1,h2⟩:=h
 exact ⟨ao,n,c,h1,hn,h2.imp_right fun ⟨b,q1,q2,q3⟩=>⟨b,q1,q2,fun k hk=>q3 k (by omega)⟩⟩
theorem Mkg.units {w:World}{K:List Nat}{m:Int}{v:Value}{n:Nat}(h:Mkg w K 11 (zw9 m) v n)(hn:n<=3000000):MkU w K v m:=by
 obtain ⟨ao,c,h1,h2⟩:=h
 refine ⟨ao,n,c,h1,hn,h2.imp_right fun ⟨b,q1,q2,q3⟩=>⟨b,q1,q2,fun k hk j u hu=>?_⟩⟩
 have hj:j < 11:=(List.getElem?_eq_some_iff.1 hu).1
 rw [q3 (k*11+j) (by omega)]
 unfold zw9
 rw [show (k*11+j) % 11=j by omega,List.getD_eq_getElem?_getD,hu]
 rfl
theorem Mkg.pairs {w:World}{K:List Nat}{v:Value}{n x xc:Nat}(h:Mkg w K 1 (fun _=>.slice (some ⟨x,0,none⟩) 1 xc) v n)(hn:n<=3000000)(hx:x∈K)(hc:w.cell? ⟨x,0,none⟩=some (ii (-7))):MkP w K v:=by
 obtain ⟨ao,c,h1,h2⟩:=h
 exact ⟨ao,n,c,h1,hn,h2.imp_right fun ⟨b,q1,q2,q3⟩=>⟨b,q1,q2,fun k hk=>⟨x,xc,q3 k (by omega),hx,hc⟩⟩⟩
theorem qzz4 (m:Int):qw8 11 (zw9 m) 1=(jv7 m).cells:=rfl
def jj4 (w w':World)(v v':Value):Prop:=(v'.ownBlock=v.ownBlock/\w.grownBy w' v.ownBlock)\/(v'.ownBlock=some w.heap.size/\w.grownBy w' none)
section
variable {base size n:Nat} {e:TypeId} {pat:Nat->Value} {v v1 v2 v3:Value} {w w1 w2 w3:World} {o1 o2 o3:Obj}
theorem dk8 (hp:∀ k,pat (k+size)=pat k)
  (h1:w1.ownsRow base e size v1 (n+1) (qw8 size pat n ++ qw8 size pat 1)) (a1:jj4 (w.alloc o1) w1 v v1)
  (k2:w2.ownsRow base e size v n (qw8 size pat n)) (h2:w2.ownsRow base e size v2 (n+2) (qw8 size pat n ++ qw8 size pat 2)) (a2:jj4 (w1.alloc o2) w2 v v2) :
  ∃ KS:List Nat,(∀ b∈KS,v.ownBlock=some b\/w.heap.size<=b)/\(∀ b∈KS,b < w2.heap.size)/\Mkg w2 KS size pat v n/\Mkg w2 KS size pat v1 (n+1)/\Mkg w2 KS size pat v2 (n+2):=by
 have f1:=qk9 a1
 have f2:=qk9 a2
 have s1:=f1.size
 have s2:=f2.size
 simp at s1 s2
 rw [yk1 hp] at h1 h2
 refine ⟨v.ownBlock.toList ++ (v1.ownBlock.toList ++ v2.ownBlock.toList),?_,?_,?_,?_,?_⟩
 ·intro b hb
  simp only [List.mem_append,Option.mem_toList] at hb
  rcases hb with hb|hb|hb
  ·exact Or.inl hb
  ·rcases jz3 a1 b hb with q|q
   ·exact Or.inl q
   ·simp at q;exact Or.inr (by omega)
  ·rcases jz3 a2 b hb with q|q
   ·exact Or.inl q
   ·simp at q;exact Or.inr (by omega)
 ·intro b hb
  simp only [List.mem_append,Option.mem_toList] at hb
  rcases hb with hb|hb|hb
  ·exact (k2.lt b hb).2
  ·have:=(h1.lt b hb).2;omega
  ·exact (h2.lt b hb).2
 ·exact Mkg.of_own k2 (fun g hg=>by simp [hg])
 ·have m1:Mkg w1 (v.ownBlock.toList ++ (v1.ownBlock.toList ++ v2.ownBlock.toList)) size pat v1 (n+1):=Mkg.of_own h1 (fun g hg=>by simp [hg])
  exact (m1.fr ((Fr.refl [] w1).alloc o2) (by simp)).app h2 (by omega) a2
 ·exact Mkg.of_own h2 (fun g hg=>by simp [hg])
theorem dk9 (hp:∀ k,pat (k+size)=pat k)
  (h1:w1.ownsRow base e size v1 (n+1) (qw8 size pat n ++ qw8 size pat 1)) (a1:jj4 (w.alloc o1) w1 v v1)
  (k2:w2.ownsRow base e size v n (qw8 size pat n)) (h2:w2.ownsRow base e size v2 (n+2) (qw8 size pat n ++ qw8 size pat 2)) (a2:jj4 (w1.alloc o2) w2 v v2)
  (h3:w3.ownsRow base e size v3 (n+3) (qw8 size pat n ++ qw8 size pat 3)) (a3:jj4 (w2.alloc o3) w3 v v3) :
  ∃ KS:List Nat,(∀ b∈KS,v.ownBlock=some b\/w.heap.size<=b)/\(∀ b∈KS,b < w3.heap.size)/\Mkg w3 KS size pat v n/\Mkg w3 KS size pat v1 (n+1)/\Mkg w3 KS size pat v2 (n+2)/\Mkg w3 KS size pat v3 (n+3):=by
 obtain ⟨KS,q1,q2,q3,q4,q5⟩:=dk8 hp h1 a1 k2 h2 a2
 have f1:=qk9 a1
 have f2:=qk9 a2
 have f3:=qk9 a3
 have s1:=f1.size
 have s2:=f2.size
 have s3:=f3.size
 simp at s1 s2 s3
 rw [yk1 hp] at h3
 have up:∀ b∈KS,b∈KS ++ v3.ownBlock.toList:=fun b hb=>List.mem_append_left _ hb
 have al:=(Fr.refl [] w2).alloc o3
 refine ⟨KS ++ v3.ownBlock.toList,?_,?_,?_,?_,?_,?_⟩
 ·intro b hb
  rcases List.mem_append.1 hb with hb|hb
  ·exact q1 b hb
  ·rcases jz3 a3 b (by simpa using hb) with q|q
   ·exact Or.inl q
   ·simp at q;exact Or.inr (by omega)
 ·intro b hb
  rcases List.mem_append.1 hb with hb|hb
  ·have:=q2 b hb;omega
  ·exact (h3.lt b (by simpa using hb)).2
 ·exact ((q3.up up).fr al (by simp)).app h3 (by omega) a3
 ·exact ((q4.up up).fr al (by simp)).app h3 (by omega) a3
 ·exact ((q5.up up).fr al (by simp)).app h3 (by omega) a3
 ·exact Mkg.of_own h3 (fun g hg=>by simp [hg])
end
theorem kv5 {α:Type}{l:List α}{i:Nat}{v:α}{m:Value}(h:l[i]?=some v):(l.map fun _=>m)[i]?=some m:=by
 rw [List.getElem?_map,h]
 rfl
theorem BL.places {w:World}{K:List Nat}{xs:Nat->List Value}(h:BL w K xs)(hl:(xs 0).length=(xs 1).length)(vs:List Value)(m:Int)(hv:∀ v∈vs,Mks w K v m):BL w K (upd (upd xs 0 (xs 0 ++ vs)) 1 (xs 1 ++ vs.map fun _=>ii m)):=by
 refine ⟨?_,h.pr,h.pe⟩
 show ∀ (i:Nat) (v:Value),(xs 0 ++ vs)[i]?=some v->∃ m',(xs 1 ++ vs.map fun _=>ii m)[i]?=some (ii m')/\Mks w K v m'
 intro i v hv2
 by_cases hi:i < (xs 0).length
 ·rw [List.getElem?_append_left hi] at hv2
  rw [List.getElem?_append_left (by omega)]
  exact h.pl i v hv2
 ·rw [List.getElem?_append_right (by omega)] at hv2
  rw [List.getElem?_append_right (by omega),<- hl]
  exact ⟨m,kv5 hv2,hv v (List.mem_of_getElem? hv2)⟩
theorem BL.people {w:World}{K:List Nat}{xs:Nat->List Value}(h:BL w K xs)(hl:(xs 3).length=(xs 4).length)(vs:List Value)(m:Int)(hv:∀ v∈vs,MkU w K v m):BL w K (upd (upd xs 3 (xs 3 ++ vs)) 4 (xs 4 ++ vs.map fun _=>ii m)):=by
 refine ⟨h.pl,h.pr,?_⟩
 show ∀ (i:Nat) (v:Value),(xs 3 ++ vs)[i]?=some v->∃ m',(xs 4 ++ vs.map fun _=>ii m)[i]?=some (ii m')/\MkU w K v m'
 intro i v hv2
 by_cases hi:i < (xs 3).length
 ·rw [List.getElem?_append_left hi] at hv2
  rw [List.getElem?_append_left (by omega)]
  exact h.pe i v hv2
 ·rw [List.getElem?_append_right (by omega)] at hv2
  rw [List.getElem?_append_right (by omega),<- hl]
  exact ⟨m,kv5 hv2,hv v (List.mem_of_getElem? hv2)⟩
theorem BL.pairs {w:World}{K:List Nat}{xs:Nat->List Value}(h:BL w K xs)(vs:List Value)(hv:∀ v∈vs,MkP w K v):BL w K (upd xs 2 (xs 2 ++ vs)):=by
 refine ⟨h.pl,?_,h.pe⟩
 show ∀ (i:Nat) (v:Value),(xs 2 ++ vs)[i]?=some v->MkP w K v
 intro i v hv2
 by_cases hi:i < (xs 2).length
 ·rw [List.getElem?_append_left hi] at hv2
  exact h.pr i v hv2
 ·rw [List.getElem?_append_right (by omega)] at hv2
  exact hv v (List.mem_of_getElem? hv2)
set_option maxRecDepth 100000
theorem zv6 {w:World}{base n:Nat}{e:TypeId}{size:Nat}{v:Value}{xs:List Value}(h:w.ownsRow base e size v n xs):∃ ao c,v=.slice ao n c:=by
 rcases h.2 with ⟨rfl,rfl⟩|⟨g,cap,cur,rfl,_⟩
 ·exact ⟨_,_,rfl⟩
 ·exact ⟨_,_,rfl⟩
theorem zx1 {w:World}{base:Nat}{e:TypeId}{v:Value}{xs:List Value}(h:w.ownsRow base e 1 v xs.length xs){i:Nat}{u:Value}(hu:xs[i]?=some u):∃ b c,v=.slice (some ⟨b,0,none⟩) xs.length c/\w.cell? ⟨b,i,none⟩=some u:=by
 have hi:i < xs.length:=(List.getElem?_eq_some_iff.1 hu).1
 obtain ⟨g,cap,rfl⟩:=qx0 h (by omega)
 refine ⟨g,cap,rfl,?_⟩
 have:=h.cells (g:=g) rfl i u hu
 rwa [Addr.add_lit,Nat.zero_add] at this
section
variable {w:World} {bb:Nat} {rv:Nat->Value} {xs:Nat->List Value} {nx:Int} {KL:List Nat}
theorem BR.place (hr:BR w bb rv xs nx)(hl:BL w KL xs)(he:(xs 0).length=(xs 1).length){i:Nat}(hi:i < (xs 0).length):∃ pb pc qb qc ao n c m,w.cell? ⟨bb,0,none⟩=some (.slice (some ⟨pb,0,none⟩) (xs 0).length pc)/\w.cell? ⟨bb,1,none⟩=some (.slice (some ⟨qb,0,none⟩) (xs 0).length qc)/\w.cell? ⟨pb,i,none⟩=some (.slice ao n c)/\w.cell? ⟨qb,i,none⟩=some (ii m)/\n<=3000000/\∀ k,k < n->∃ b,ao=some ⟨b,0,none⟩/\w.cell? ⟨b,k,none⟩=some (ii m):=by
 obtain ⟨v,hv⟩:∃ v,(xs 0)[i]?=some v:=⟨_,List.getElem?_eq_getElem hi⟩
 obtain ⟨m,hm,ao,n,c,rfl,hn,hb⟩:=hl.pl i v hv
 obtain ⟨pb,pc,e1,e2⟩:=zx1 (hr.own 0 (by omega)) hv
 obtain ⟨qb,qc,e3,e4⟩:=zx1 (hr.own 1 (by omega)) hm
 refine ⟨pb,pc,qb,qc,ao,n,c,m,by rw [hr.cell 0 (by omega),e1],by rw [hr.cell 1 (by omega),e3,he],e2,e4,hn,fun k hk=>?_⟩
 rcases hb with hb|⟨b,q1,_,q3⟩
 ·omega
 ·exact ⟨b,q1,q3 k hk⟩
theorem BR.pair (hr:BR w bb rv xs nx)(hl:BL w KL xs){i:Nat}(hi:i < (xs 2).length):∃ pb pc ao n c,w.cell? ⟨bb,2,none⟩=some (.slice (some ⟨pb,0,none⟩) (xs 2).length pc)/\w.cell? ⟨pb,i,none⟩=some (.slice ao n c)/\n<=3000000/\∀ k,k < n->∃ b x xc,ao=some ⟨b,0,none⟩/\w.cell? ⟨b,k,none⟩=some (.slice (some ⟨x,0,none⟩) 1 xc)/\w.cell? ⟨x,0,none⟩=some (ii (-7)):=by
 obtain ⟨v,hv⟩:∃ v,(xs 2)[i]?=some v:=⟨_,List.getElem?_eq_getElem hi⟩
 obtain ⟨ao,n,c,rfl,hn,hb⟩:=hl.pr i v hv
 obtain ⟨pb,pc,e1,e2⟩:=zx1 (hr.own 2 (by omega)) hv
 refine ⟨pb,pc,ao,n,c,by rw [hr.cell 2 (by omega),e1],e2,hn,fun k hk=>?_⟩
 rcases hb with hb|⟨b,q1,_,q3⟩
 ·omega
 ·obtain ⟨x,xc,r1,_,r3⟩:=q3 k hk
  exact ⟨b,x,xc,q1,r1,r3⟩
theorem BR.folk (hr:BR w bb rv xs nx)(hl:BL w KL xs)(he:(xs 3).length=(xs 4).length){i:Nat}(hi:i < (xs 3).length):∃ pb pc qb qc ao n c m,w.cell? ⟨bb,3,none⟩=some (.slice (some ⟨pb,0,none⟩) (xs 3).length pc)/\w.cell? ⟨bb,4,none⟩=some (.slice (some ⟨qb,0,none⟩) (xs 3).length qc)/\w.cell? ⟨pb,i,none⟩=some (.slice ao n c)/\w.cell? ⟨qb,i,none⟩=some (ii m)/\n<=3000000/\∀ k,k < n->∃ b,ao=some ⟨b,0,none⟩/\w.rangeAt b (k*11) (jv7 m).cells:=by
 obtain ⟨v,hv⟩:∃ v,(xs 3)[i]?=some v:=⟨_,List.getElem?_eq_getElem hi⟩
 obtain ⟨m,hm,ao,n,c,rfl,hn,hb⟩:=hl.pe i v hv
 obtain ⟨pb,pc,e1,e2⟩:=zx1 (hr.own 3 (by omega)) hv
 obtain ⟨qb,qc,e3,e4⟩:=zx1 (hr.own 4 (by omega)) hm
 refine ⟨pb,pc,qb,qc,ao,n,c,m,by rw [hr.cell 3 (by omega),e1],by rw [hr.cell 4 (by omega),e3,he],e2,e4,hn,fun k hk=>?_⟩
 rcases hb with hb|⟨b,q1,_,q3⟩
 ·omega
 ·exact ⟨b,q1,q3 k hk⟩
theorem BR.len (hr:BR w bb rv xs nx){k:Nat}(hk:k < 5):∃ ao c,w.cell? ⟨bb,k,none⟩=some (.slice ao (xs k).length c):=by
 obtain ⟨ao,c,e⟩:=zv6 (hr.own k hk)
 exact ⟨ao,c,by rw [hr.cell k hk,e]⟩
end
theorem fw9 (bb:Nat)(w:World)(h5:w.cell? ⟨bb,5,none⟩=some (.slice none 0 0))(h6:w.cell? ⟨bb,6,none⟩=some (.slice none 0 0)) :
  Calls Tryz.prog 59 #[.pointer (some ⟨bb,0,none⟩)] w fun e w'=>e=.returned (.bool true)/\Fr [] w w':=by
 go_enter Tryz.func59,Tryz.ntmps59
 go_wp2_with fail
 go_loopw [3] (fun i wr=>i=.int .i64 0/\w=wr) (fun _ _=>0)
 case atStart=>exact ⟨rfl,rfl⟩
 case round =>
  obtain ⟨rfl,rfl⟩:=hrel
  go_wp2_with fail
  go_loopw [6] (fun i wr=>i=.int .i64 0/\w=wr) (fun _ _=>0)
  case atStart=>exact ⟨rfl,rfl⟩
  case round =>
   obtain ⟨rfl,rfl⟩:=hrel
   go_wp2_with fail
   go_ret
   exact ⟨rfl,Fr.refl _ _⟩
theorem qqz3 (u:U)(w:World):(binOp BinOp.neq 85 u.val u.val).run Tryz.prog w=.ok (.bool false) w:=by
  simp [go_sem]
theorem fk9 (bb N:Nat)(K:List Nat)(w:World)(h:Bk w bb K N)(hN:N<=2000000) :
  Calls Tryz.prog 27 #[.pointer (some ⟨bb,0,none⟩)] w fun e w'=>e=.returned (.bool true)/\Fr [] w w':=by
 obtain ⟨⟨rv,xs,nx,KL,h1,h2,h3,h4,h5,h6,h7,_⟩,_⟩:=h
 have HR:Hid (∀ w',Fr [] w w'->BR w' bb rv xs nx):=fun w' hf=>h1.fr hf (by simp) (by simp)
 have HLs:Hid (∀ w',Fr [] w w'->BL w' KL xs):=fun w' hf=>h2.fr hf (by simp)
 have hl0:=h5
 have hl2:=h6
 have hl3:=h7
 have H3:=hid h3
 have H4:=hid h4
 clear h1 h2 h3 h4 h5 h6 h7
 obtain ⟨n0,hn0⟩:∃ n,(xs 0).length=n:=⟨_,rfl⟩
 obtain ⟨n2,hn2⟩:∃ n,(xs 2).length=n:=⟨_,rfl⟩
 obtain ⟨n3,hn3⟩:∃ n,(xs 3).length=n:=⟨_,rfl⟩
 rw [hn0] at hl0
 rw [hn2] at hl2
 rw [hn3] at hl3
 have HN0:=hid hn0
 have HN2:=hid hn2
 have HN3:=hid hn3
 clear hn0 hn2 hn3
 go_enter Tryz.func27,Tryz.ntmps27
 go_wp2_with fail
 go_loopw [3] (fun i wr=>∃ k:Nat,k<=n0/\i=.int .i64 k/\Fr [] w wr) (fun i _=>n0 - (intOf i).toNat)
 case atStart=>exact ⟨0,Nat.zero_le _,rfl,Fr.refl _ _⟩
 case round =>
  obtain ⟨i,hi,rfl,hf⟩:=hrel
  by_cases hlt:i < n0
  ·have hlti:(i:Int) < (n0:Int):=by omega
   obtain ⟨pb,pc,qb,qc,ao,n,c,m,e1,e2,e3,e4,e5,e6⟩:=(HR.out wr hf).place (HLs.out wr hf) H3.out (i:=i) (by rw [HN0.out];exact hlt)
   rw [HN0.out] at e1 e2
   have HE6:=hid e6
   clear e6
   go_wp2_with fail
   obtain ⟨wo,hwo⟩:∃ x,x=wr:=⟨_,rfl⟩
   rw [<- hwo] at hf e1 e2 e3 e4 HE6 |-
   clear hwo
   have HF:=hid hf
   go_loopw [4] (fun j wr=>∃ k:Nat,k<=n/\j=.int .i64 k/\Fr [] wo wr) (fun j _=>n - (intOf j).toNat)
   case atStart=>exact ⟨0,Nat.zero_le _,rfl,Fr.refl _ _⟩
   case round =>
    obtain ⟨k,hk,rfl,hf2⟩:=hrel
    have cc:∀ b o v,wo.cell? ⟨b,o,none⟩=some v->wr.cell? ⟨b,o,none⟩=some v:=fun b o v hv=>(hf2.cell b o (qq1 hv) (by simp)).trans hv
    have f1:=cc _ _ _ e1
    have f2:=cc _ _ _ e2
    have f3:=cc _ _ _ e3
    have f4:=cc _ _ _ e4
    by_cases hlt2:k < n
    ·have hlti2:(k:Int) < (n:Int):=by omega
     obtain ⟨b,rfl,e7⟩:=HE6.out k hlt2
     have f7:=cc _ _ _ e7
     clear cc e1 e2 e3 e4 e7
     go_wp2_with fail
     go_quiet (fail)
     go_wp2_with fail
     go_roundw
     case rel=>exact ⟨k+1,hlt2,by go_num,hf2.drewN _⟩
     case measure=>simp [intOf];omega
    ·have hlti2:¬ (k:Int) < (n:Int):=by omega
     clear cc e1 e2 e3 e4
     go_wp2_with fail
     go_roundw
     case rel=>exact ⟨i+1,hlt,by go_num,HF.out.then0 hf2⟩
     case measure=>simp [intOf];omega
  ·have hlti:¬ (i:Int) < (n0:Int):=by omega
   obtain ⟨a0,c0,e0⟩:=(HR.out wr hf).len (k:=0) (by omega)
   rw [HN0.out] at e0
   go_wp2_with fail
   go_loopw [5] (fun i wr=>∃ k:Nat,k<=n2/\i=.int .i64 k/\Fr [] w wr) (fun i _=>n2 - (intOf i).toNat)
   case atStart=>exact ⟨0,Nat.zero_le _,rfl,hf⟩
   case round =>
    clear hf e0
    obtain ⟨i,hi,rfl,hf⟩:=hrel
    by_cases hlt:i < n2
    ·have hlti:(i:Int) < (n2:Int):=by omega
     obtain ⟨pb,pc,ao,n,c,e1,e3,e5,e6⟩:=(HR.out wr hf).pair (HLs.out wr hf) (i:=i) (by rw [HN2.out];exact hlt)
     rw [HN2.out] at e1
     have HE6:=hid e6
     clear e6
     go_wp2_with fail
     obtain ⟨wo,hwo⟩:∃ x,x=wr:=⟨_,rfl⟩
     rw [<- hwo] at hf e1 e3 HE6 |-
     clear hwo
     have HF:=hid hf
     go_loopw [6] (fun j wr=>∃ k:Nat,k<=n/\j=.int .i64 k/\Fr [] wo wr) (fun j _=>n - (intOf j).toNat)
     case atStart=>exact ⟨0,Nat.zero_le _,rfl,Fr.refl _ _⟩
     case round =>
      obtain ⟨k,hk,rfl,hf2⟩:=hrel
      have cc:∀ b o v,wo.cell? ⟨b,o,none⟩=some v->wr.cell? ⟨b,o,none⟩=some v:=fun b o v hv=>(hf2.cell b o (qq1 hv) (by simp)).trans hv
      have f1:=cc _ _ _ e1
      have f3:=cc _ _ _ e3
      by_cases hlt2:k < n
      ·have hlti2:(k:Int) < (n:Int):=by omega
       obtain ⟨b,x,xc,rfl,e7,e8⟩:=HE6.out k hlt2
       have f7:=cc _ _ _ e7
       have f8:=cc _ _ _ e8
       clear cc e1 e3 e7 e8
       go_wp2_with fail
       go_roundw
       case rel=>exact ⟨k+1,hlt2,by go_num,hf2⟩
       case measure=>simp [intOf];omega
      ·have hlti2:¬ (k:Int) < (n:Int):=by omega
       clear cc e1 e3
       go_wp2_with fail
       go_roundw
       case rel=>exact ⟨i+1,hlt,by go_num,HF.out.then0 hf2⟩
       case measure=>simp [intOf];omega
    ·have hlti:¬ (i:Int) < (n2:Int):=by omega
     obtain ⟨a0,c0,e0⟩:=(HR.out wr hf).len (k:=2) (by omega)
     rw [HN2.out] at e0
     go_wp2_with fail
     go_loopw [7] (fun i wr=>∃ k:Nat,k<=n3/\i=.int .i64 k/\Fr [] w wr) (fun i _=>n3 - (intOf i).toNat)
     case atStart=>exact ⟨0,Nat.zero_le _,rfl,hf⟩
     case round =>
      clear hf e0
      obtain ⟨i,hi,rfl,hf⟩:=hrel
      by_cases hlt:i < n3
      ·have hlti:(i:Int) < (n3:Int):=by omega
       obtain ⟨pb,pc,qb,qc,ao,n,c,m,e1,e2,e3,e4,e5,e6⟩:=(HR.out wr hf).folk (HLs.out wr hf) H4.out (i:=i) (by rw [HN3.out];exact hlt)
       rw [HN3.out] at e1 e2
       have HE6:=hid e6
       clear e6
       go_wp2_with fail
       obtain ⟨wo,hwo⟩:∃ x,x=wr:=⟨_,rfl⟩
       rw [<- hwo] at hf e1 e2 e3 e4 HE6 |-
       clear hwo
       have HF:=hid hf
       go_loopw [8] (fun j wr=>∃ k:Nat,k<=n/\j=.int .i64 k/\Fr [] wo wr) (fun j _=>n - (intOf j).toNat)
       case atStart=>exact ⟨0,Nat.zero_le _,rfl,Fr.refl _ _⟩
       case round =>
        obtain ⟨k,hk,rfl,hf2⟩:=hrel
        have cc:∀ b o v,wo.cell? ⟨b,o,none⟩=some v->wr.cell? ⟨b,o,none⟩=some v:=fun b o v hv=>(hf2.cell b o (qq1 hv) (by simp)).trans hv
        have f1:=cc _ _ _ e1
        have f2:=cc _ _ _ e2
        have f3:=cc _ _ _ e3
        have f4:=cc _ _ _ e4
        by_cases hlt2:k < n
        ·have hlti2:(k:Int) < (n:Int):=by omega
         obtain ⟨b,rfl,e7⟩:=HE6.out k hlt2
         have g0:wr.cell? ⟨b,k*11,none⟩=some (ii m):=cc _ _ _ (e7 0 _ rfl)
         have g1:wr.cell? ⟨b,k*11+1,none⟩=some (ii 0):=cc _ _ _ (e7 1 _ rfl)
         have g2:wr.cell? ⟨b,k*11+2,none⟩=some (ii 0):=cc _ _ _ (e7 2 _ rfl)
         have g3:wr.cell? ⟨b,k*11+3,none⟩=some (ii 0):=cc _ _ _ (e7 3 _ rfl)
         have g4:wr.cell? ⟨b,k*11+4,none⟩=some (ii 0):=cc _ _ _ (e7 4 _ rfl)
         have g5:wr.cell? ⟨b,k*11+5,none⟩=some (ii m):=cc _ _ _ (e7 5 _ rfl)
         have g6:wr.cell? ⟨b,k*11+6,none⟩=some (ii 0):=cc _ _ _ (e7 6 _ rfl)
         have g7:wr.cell? ⟨b,k*11+7,none⟩=some (ii 0):=cc _ _ _ (e7 7 _ rfl)
         have g8:wr.cell? ⟨b,k*11+8,none⟩=some (ii 0):=cc _ _ _ (e7 8 _ rfl)
         have g9:wr.cell? ⟨b,k*11+9,none⟩=some (ii 0):=cc _ _ _ (e7 9 _ rfl)
         have g10:wr.cell? ⟨b,k*11+10,none⟩=some (ii 0):=cc _ _ _ (e7 10 _ rfl)
         have hne:=qqz3 (jv7 m)
         simp only [jv7,U.val] at hne
         clear cc e1 e2 e3 e4 e7
         go_wp2_with fail
         go_quiet (fail)
         go_wp2_with fail
         go_roundw
         case rel=>exact ⟨k+1,hlt2,by go_num,hf2.drewN _⟩
         case measure=>simp [intOf];omega
        ·have hlti2:¬ (k:Int) < (n:Int):=by omega
         clear cc e1 e2 e3 e4
         go_wp2_with fail
         go_roundw
         case rel=>exact ⟨i+1,hlt,by go_num,HF.out.then0 hf2⟩
         case measure=>simp [intOf];omega
      ·have hlti:¬ (i:Int) < (n3:Int):=by omega
       obtain ⟨a0,c0,e0⟩:=(HR.out wr hf).len (k:=3) (by omega)
       rw [HN3.out] at e0
       have e5:=(HR.out wr hf).nils 5 (by omega) (by omega)
       have e6:=(HR.out wr hf).nils 6 (by omega) (by omega)
       have HRD:=(show Hid _ from fw9 bb wr e5 e6)
       clear e5 e6
       go_wp2_with (go_at_call 59;refine Calls.mono HRD.out ?_;rintro e w2 ⟨rfl,hf2⟩)
       go_ret
       exact ⟨rfl,hf.then0 hf2⟩
end Go.Proofs.YtapabahhfanmmaaGreatDoor
