import Derived.Test.YtapabahhfanmmaaGreatDoorCBuild
namespace Go.Proofs.YtapabahhfanmmaaGreatDoor
open Go.RowKit List
set_option maxRecDepth 100000
set_option maxHeartbeats 2000000
theorem RF {P:Program} (w:World) (base:Nat) (t ty e:TypeId) (i:TypeInfo) (z:Value) (size bytes:Nat) (ht:P.underlying t=some (.slice e)) (hi:P.info? e=some i) (hz:i.zero=some z)
  (hsize:i.size=size) (hby:i.bytes=bytes) (hzs:z.cells.size=size)
  (v:Value) (n:Nat) (xs:List Value) (hown:w.ownsRow base e size v n xs)
  (a:Addr) (m c:Nat) (b:List Value) (hl:b.length=m*size) (hnews:∀ j u,b[j]?=some u->w.cell? (a.add j)=some u) (h1:∀ u∈b,u.oneCell'=true)
  (h63:n+m<=maxLen) (hbytes:(n+m)*bytes<=140737488355328) (hbase:base<=w.heap.size) (hm:0 < m) :
  ∃ I x,(Builtin.append_ #[t,t] ty #[v,.slice (some a) m c]).run P w=.ok I x/\x.ownsRow base e size I (n+m) (xs ++ b)/\x.ownsRow base e size v n xs /\
   ((I.ownBlock=v.ownBlock/\w.grownBy x v.ownBlock)\/(I.ownBlock=some w.heap.size/\w.grownBy x none)):=by
 subst hsize
 subst hby
 have H:n+m<=9223372036854775807:=by simp only [maxLen] at h63;omega
 have p:(xs ++ b).length=(n+m)*i.size:=by rw [length_append,hown.1,hl,Nat.add_mul]
 have q:∀ (f:Nat),f < n+m ->
   (w.drew.alloc (.cells (xs.toArray ++ b.toArray ++ Builtin.zeroCells z.cells (grownCap w (n+m) f e - (n+m))) e)).ownsRow base e i.size
    (.slice (so w.heap.size) (n+m) (grownCap w (n+m) f e)) (n+m) (xs ++ b) /\
   w.grownBy (w.drew.alloc (.cells (xs.toArray ++ b.toArray ++ Builtin.zeroCells z.cells (grownCap w (n+m) f e - (n+m))) e)) none:=by
  intro f ho
  have L:=grownCap_ge w (n+m) f e
  have s:grownCap w (n+m) f e<=maxLen:=grownCap_le_maxLen w (n+m) f e h63
  refine ⟨⟨p,.inr ⟨w.heap.size,_,_,rfl,hbase,heap_alloc_new w.drew _,L,s,?_,?_⟩⟩,⟨rfl,rfl,rfl,by simp,fun k B _=>Below.heap_alloc w.drew _ k B⟩⟩
  ·simp only [Array.size_append,size_toArray,size_zeroCells,hzs,hown.1,hl,<- Nat.add_mul]
   congr 1
   omega
  simp only [Array.toList_append,append_assoc]
  rw [<- append_assoc,<- p]
  exact take_left
 have y:∀ x,w.grownBy x none->x.ownsRow base e i.size v n xs:=fun x h=>hown.kept h (by cases v.ownBlock <;> simp)
 rcases hown.2 with ⟨rfl,rfl⟩|⟨g,l,cur,rfl,C,K,M,s,J,r⟩
 ·have hx:xs=[]:=eq_nil_of_length_eq_zero (by simpa using hown.1)
  subst hx
  have E:=run_append_nil (P:=P) w t ty e i z ht hi hz a m c b hl hnews (by omega) (by omega) (by have hb:=hbytes;simp only [Nat.zero_add] at hb;omega)
  have d:=q 0 (by omega)
  have B:=y _ d.2
  simp only [Nat.zero_add,nil_append,Array.empty_append] at d B |-
  exact ⟨_,_,E,d.1,B,.inr ⟨rfl,d.2⟩⟩
 by_cases o:n+m<=l
 ·have D:n*i.size+b.length<=cur.size:=by rw [hl,J,<- Nat.add_mul];exact Nat.mul_le_mul_right _ o
  have E:=run_append_room (P:=P) w t ty e i ht hi g n l cur K a m c b hl hnews h1 o D
  have F:(cur.toList.take (n*i.size) ++ b ++ cur.toList.drop (n*i.size+b.length)).toArray.size=l*i.size:=by
   simp only [size_toArray,length_append,length_take,length_drop,Array.length_toList]
   omega
  refine ⟨_,_,E,⟨p,.inr ⟨g,l,_,rfl,C,setRow_heap w g cur _ e _ K,o,s,F,?_⟩⟩,⟨hown.1,.inr ⟨g,l,_,rfl,C,setRow_heap w g cur _ e _ K,M,s,F,?_⟩⟩,.inl ⟨rfl,rfl,rfl,rfl,by simp,fun k _ B=>setRow_other w g k _ (fun e=>B (by simp [Value.ownBlock,e]))⟩⟩
  ·rw [r,<- p]
   exact take_left
  rw [r,append_assoc,<- hown.1]
  exact take_left
 have A:∀ j u,xs[j]?=some u->w.cell? ((⟨g,0,none⟩:Addr).add j)=some u:=hown.cells (g:=g) rfl
 have E:=run_append_grow (P:=P) w t ty e i z ht hi hz ⟨g,0,none⟩ n l xs hown.1 A a m c b hl hnews (by omega) (by omega) (growslice_fits (by omega) hbytes)
 have d:=q l (by omega)
 exact ⟨_,_,E,d.1,y _ d.2,.inr ⟨rfl,d.2⟩⟩
theorem kS {P:Program} {w:World} {o:Oper} {a:Act} {K:Act->World->Prop} {Q:Exit->Act->World->Prop} (s x:Operand) (t:TypeId)
  (ho:o.op=.call { callee:=.builtin .append,args:=#[s,x],argTypes:=#[t,t] })
  (base:Nat) (e:TypeId) (i:TypeInfo) (z:Value) (size bytes:Nat) (ht:P.underlying t=some (.slice e)) (hi:P.info? e=some i) (hz:i.zero=some z)
  (hsize:i.size=size) (hby:i.bytes=bytes) (hzs:z.cells.size=size)
  (v:Value) (n:Nat) (xs:List Value) (hs:a.eval s=v) (hown:w.ownsRow base e size v n xs)
  (ad:Addr) (m c:Nat) (b:List Value) (hx:a.eval x=.slice (some ad) m c) (hl:b.length=m*size) (hnews:∀ j u,b[j]?=some u->w.cell? (ad.add j)=some u) (h1:∀ u∈b,u.oneCell'=true)
  (h63:n+m<=maxLen) (hbytes:(n+m)*bytes<=140737488355328) (hbase:base<=w.heap.size) (hm:0 < m)
  (h:∀ f d,d.ownsRow base e size f (n+m) (xs ++ b)->d.ownsRow base e size v n xs->((f.ownBlock=v.ownBlock/\w.grownBy d v.ownBlock)\/(f.ownBlock=some w.heap.size/\w.grownBy d none))->K (a.put o.dst f) d):o.wp P a w K Q:=by
 obtain ⟨f,d,p,g,k,l⟩:=RF (P:=P) w base t o.type e i z size bytes ht hi hz hsize hby hzs v n xs hown ad m c b hl hnews h1 h63 hbytes hbase hm
 unfold Oper.wp execOp
 simp only [ho,resolve,invoke,builtin,Sem.run_bind,Sem.run_pure,Result.andThen_ok,map_toArray,map_cons,map_nil,hs,hx,p]
 exact h f d g k l
theorem dR {P:Program} {w:World} {g:Array Oper} {rest:List Oper} {o:Oper} {a:Act} {Q:Exit->Act->World->Prop} (k:o.guard=none) (s x:Operand) (t:TypeId)
  (ho:o.op=.call { callee:=.builtin .append,args:=#[s,x],argTypes:=#[t,t] })
  (base:Nat) (e:TypeId) (i:TypeInfo) (z:Value) (size bytes:Nat) (ht:P.underlying t=some (.slice e)) (hi:P.info? e=some i) (hz:i.zero=some z)
  (hsize:i.size=size) (hby:i.bytes=bytes) (hzs:z.cells.size=size)
  (v:Value) (n:Nat) (xs:List Value) (hs:a.eval s=v) (hown:w.ownsRow base e size v n xs)
  (ad:Addr) (m c:Nat) (b:List Value) (hx:a.eval x=.slice (some ad) m c) (hl:b.length=m*size) (hnews:∀ j u,b[j]?=some u->w.cell? (ad.add j)=some u) (h1:∀ u∈b,u.oneCell'=true)
  (h63:n+m<=maxLen) (hbytes:(n+m)*bytes<=140737488355328) (hbase:base<=w.heap.size) (hm:0 < m)
  (h:∀ f d,d.ownsRow base e size f (n+m) (xs ++ b)->d.ownsRow base e size v n xs->((f.ownBlock=v.ownBlock/\w.grownBy d v.ownBlock)\/(f.ownBlock=some w.heap.size/\w.grownBy d none))->wpList P g Q rest (a.put o.dst f) d):wpList P g Q (o :: rest) a w :=
 wpList_plain k fun _ hK=>kS s x t ho base e i z size bytes ht hi hz hsize hby hzs v n xs hs hown ad m c b hx hl hnews h1 h63 hbytes hbase hm fun f d l p q=>hK _ _ (h f d l p q)
def Mks (w:World)(K:List Nat)(v:Value)(m:Int):Prop:=∃ a n c,v=.slice a n c/\n<=3000000/\(n=0\/∃ b,a=some ⟨b,0,none⟩/\b∈K/\∀ k,k < n->w.cell? ⟨b,k,none⟩=some (ii m))
def iK (m:Int):U:=⟨m,0,0,0,0,m,0,0,0,0,0⟩
def MkU (w:World)(K:List Nat)(v:Value)(m:Int):Prop:=∃ a n c,v=.slice a n c/\n<=3000000/\(n=0\/∃ b,a=some ⟨b,0,none⟩/\b∈K/\∀ k,k < n->w.rangeAt b (k*11) (iK m).cells)
def MkP (w:World)(K:List Nat)(v:Value):Prop:=∃ a n c,v=.slice a n c/\n<=3000000/\(n=0\/∃ b,a=some ⟨b,0,none⟩/\b∈K/\∀ k,k < n->∃ x d,w.cell? ⟨b,k,none⟩=some (.slice (so x) 1 d)/\x∈K/\w.cell? ⟨x,0,none⟩=some (ii (-7)))
theorem Mks.fr {S K:List Nat}{w g:World}{v:Value}{m:Int}(h:Mks w K v m)(l:Fr S w g)(hs:∀ b∈K,b∉S):Mks g K v m:=by
 obtain ⟨i,n,c,h1,j,a⟩:=h
 refine ⟨i,n,c,h1,j,?_⟩
 rcases a with a|⟨b,o,e,f⟩
 ·exact .inl a
 exact .inr ⟨b,o,e,fun k d=>by rw [l.cell b k (aI (f k d)) (hs b e)];exact f k d⟩
theorem MkU.fr {S K:List Nat}{w i:World}{v:Value}{m:Int}(h:MkU w K v m)(p:Fr S w i)(hs:∀ b∈K,b∉S):MkU i K v m:=by
 obtain ⟨l,n,c,h1,o,a⟩:=h
 refine ⟨l,n,c,h1,o,?_⟩
 rcases a with a|⟨b,q,f,g⟩
 ·exact .inl a
 exact .inr ⟨b,q,f,fun k d j u e=>by rw [p.cell b _ (aI (g k d j u e)) (hs b f)];exact g k d j u e⟩
theorem MkP.fr {S K:List Nat}{w j:World}{v:Value}(h:MkP w K v)(d:Fr S w j)(hs:∀ b∈K,b∉S):MkP j K v:=by
 obtain ⟨l,n,c,h1,m,a⟩:=h
 refine ⟨l,n,c,h1,m,?_⟩
 rcases a with a|⟨b,p,e,q⟩
 ·exact .inl a
 refine .inr ⟨b,p,e,fun k o=>?_⟩
 obtain ⟨x,r,f,g,i⟩:=q k o
 exact ⟨x,r,by rw [d.cell b k (aI f) (hs b e)];exact f,g,by rw [d.cell x 0 (aI i) (hs x g)];exact i⟩
theorem Mks.up {K K':List Nat}{w:World}{v:Value}{m:Int}(h:Mks w K v m)(f:∀ b∈K,b∈K'):Mks w K' v m:=by
 obtain ⟨a,n,c,h1,d,e⟩:=h
 exact ⟨a,n,c,h1,d,e.imp_right fun ⟨b,g,i,j⟩=>⟨b,g,f b i,j⟩⟩
theorem MkU.up {K K':List Nat}{w:World}{v:Value}{m:Int}(h:MkU w K v m)(f:∀ b∈K,b∈K'):MkU w K' v m:=by
 obtain ⟨a,n,c,h1,d,e⟩:=h
 exact ⟨a,n,c,h1,d,e.imp_right fun ⟨b,g,i,j⟩=>⟨b,g,f b i,j⟩⟩
theorem MkP.up {K K':List Nat}{w:World}{v:Value}(h:MkP w K v)(d:∀ b∈K,b∈K'):MkP w K' v:=by
 obtain ⟨e,n,c,h1,f,g⟩:=h
 refine ⟨e,n,c,h1,f,g.imp_right fun ⟨b,i,j,l⟩=>⟨b,i,d b j,fun k a=>?_⟩⟩
 obtain ⟨x,q,m,o,p⟩:=l k a
 exact ⟨x,q,m,d x o,p⟩
def MkR (w:World)(K:List Nat)(v:Value)(cs:List Value):Prop:=∃ a n c,v=.slice a n c/\n<=20000000/\(n=0\/∃ b,a=some ⟨b,0,none⟩/\b∈K/\∀ k,k < n->w.rangeAt b (k*cs.length) cs)
abbrev cF (m:ByteArray):List Value:=[.string m,.string m]
abbrev cS (m:ByteArray):List Value:=[ii (-1),.string m,.string m,.string m]
theorem MkR.fr {S K:List Nat}{w i:World}{v:Value}{cs:List Value}(h:MkR w K v cs)(o:Fr S w i)(hs:∀ b∈K,b∉S):MkR i K v cs:=by
 obtain ⟨l,n,c,h1,m,a⟩:=h
 refine ⟨l,n,c,h1,m,?_⟩
 rcases a with a|⟨b,p,f,g⟩
 ·exact .inl a
 exact .inr ⟨b,p,f,fun k d j u e=>by rw [o.cell b _ (aI (g k d j u e)) (hs b f)];exact g k d j u e⟩
theorem MkR.up {K K':List Nat}{w:World}{v:Value}{cs:List Value}(h:MkR w K v cs)(f:∀ b∈K,b∈K'):MkR w K' v cs:=by
 obtain ⟨a,n,c,h1,d,e⟩:=h
 exact ⟨a,n,c,h1,d,e.imp_right fun ⟨b,g,i,j⟩=>⟨b,g,f b i,j⟩⟩
def tN (k:Nat):TypeId:=if k=0 then 25 else if k=2 then 46 else if k=3 then 82 else if k=5 then 51 else if k=6 then 34 else if k=7\/k=8 then 9 else 3
def aK {α:Type}(f:Nat->α)(k:Nat)(v:α):Nat->α:=fun i=>if i=k then v else f i
theorem gA {α:Type}(f:Nat->α)(k:Nat)(v:α):aK f k v k=v:=if_pos rfl
theorem fW {α:Type}(f:Nat->α){k i:Nat}(v:α)(h:i≠k):aK f k v i=f i:=if_neg h
structure BR (w:World) (bb:Nat) (rv:Nat->Value) (xs:Nat->List Value) (nx:Int):Prop where
 cell:∀ k,k < 9->w.cell? ⟨bb,k,none⟩=some (rv k)
 nxt:w.cell? ⟨bb,9,none⟩=some (ii nx)
 fz:∀ k,w.frozen? ⟨bb,k,none⟩=false
 own:∀ k,k < 9->w.ownsRow 0 (tN k) 1 (rv k) (xs k).length (xs k)
 nb:∀ k,k < 9->(rv k).ownBlock≠some bb
 ap:∀ i j,i < 9->j < 9->i≠j->∀ g,(rv i).ownBlock=some g->(rv j).ownBlock≠some g
theorem BR.lt {w:World}{a:Nat}{c:Nat->Value}{xs:Nat->List Value}{b:Int}(h:BR w a c xs b):a < w.heap.size:=aI h.nxt
theorem BR.fr {S:List Nat}{w f:World}{a:Nat}{d:Nat->Value}{xs:Nat->List Value}{e:Int}(h:BR w a d xs e)(b:Fr S w f)(hb:a∉S)(hs:∀ k,k < 9->∀ g,(d k).ownBlock=some g->g∉S):BR f a d xs e :=
 { h with
  cell:=fun k c=>by rw [b.cell a k h.lt hb];exact h.cell k c
  nxt:=by rw [b.cell a 9 h.lt hb];exact h.nxt
  fz:=fun k=>by rw [b.frozen a k h.lt hb];exact h.fz k
  own:=fun k c=>aF (h.own k c) b (hs k c) }
theorem oB (w:World)(p:Addr)(v:Value)(b k:Nat):(w.setCell p v).frozen? ⟨b,k,none⟩=w.frozen? ⟨b,k,none⟩:=by simp
theorem BR.mark {w:World}{a:Nat}{c:Nat->Value}{xs:Nat->List Value}{f:Int}(h:BR w a c xs f)(n:Int):BR (w.setCell ⟨a,9,none⟩ (ii n)) a c xs n :=
 { h with
  cell:=fun k b=>by rw [cA _ _ _ _ _ _ (.inr (by omega))];exact h.cell k b
  nxt:=dO _ _ _ _ _ h.nxt
  fz:=fun k=>by rw [oB];exact h.fz k
  own:=fun k b=>aF (h.own k b) ((r0 [a] w).setCell _ _ (by simp)) (fun g d e=>h.nb k b (by rw [d];simpa using e)) }
theorem BR.push {w o:World} {b:Nat} {q:Nat->Value} {xs:Nat->List Value} {B:Int} (h:BR w b q xs B) (k:Nat) (x:k < 9) (n:Value) (f:List Value)
  (ho:o.ownsRow 0 (tN k) 1 n ((xs k).length+f.length) (xs k ++ f))
  (z:(n.ownBlock=(q k).ownBlock/\w.grownBy o (q k).ownBlock)\/(n.ownBlock=some w.heap.size/\w.grownBy o none)) :
  BR (o.setCell ⟨b,k,none⟩ n) b (aK q k n) (aK xs k (xs k ++ f)) B/\Fr (b :: (q k).ownBlock.toList) w (o.setCell ⟨b,k,none⟩ n):=by
 have m:Fr (q k).ownBlock.toList w o:=by
  rcases z with ⟨_,a⟩|⟨_,a⟩
  ·exact (r0 _ _).grow a (fun g a=>.inl (by simp [a]))
  exact (r0 _ _).grow a (fun g a=>by cases a)
 have u:b∉(q k).ownBlock.toList:=fun e=>h.nb k x (by simpa using e)
 have t:=h.lt
 have v:n.ownBlock≠some b:=by
  rcases z with ⟨e,_⟩|⟨e,_⟩
  ·rw [e];exact h.nb k x
  rw [e];intro l;cases l;omega
 have p:∀ i,i < 9->i≠k->∀ g,n.ownBlock=some g->(q i).ownBlock≠some g:=by
  intro i hi A g a e
  rcases z with ⟨y,_⟩|⟨y,_⟩
  ·rw [y] at a
   exact h.ap k i x hi (fun e=>A e.symm) g a e
  rw [y] at a
  cases a
  have:=(h.own i hi).lt _ e
  omega
 have c:∀ j,o.cell? ⟨b,j,none⟩=w.cell? ⟨b,j,none⟩:=fun j=>m.cell b j t u
 have s:Fr [b] o (o.setCell ⟨b,k,none⟩ n):=(r0 _ _).setCell _ _ (by simp)
 refine ⟨⟨fun j d=>?_,?_,fun j=>?_,fun j d=>?_,fun j d=>?_,fun i j hi d r g a=>?_⟩,?_⟩
 ·by_cases e:j=k
  ·subst e
   rw [gA,dO _ _ _ _ _ ((c j).trans (h.cell j d))]
  rw [fW _ _ e,cA _ _ _ _ _ _ (.inr (fun l=>e l.symm)),c]
  exact h.cell j d
 ·rw [cA _ _ _ _ _ _ (.inr (by omega)),c];exact h.nxt
 ·rw [oB,m.frozen b j t u];exact h.fz j
 ·by_cases e:j=k
  ·subst e
   rw [gA,gA,length_append]
   exact aF ho s (fun g a e=>v (by rw [a];simpa using e))
  rw [fW _ _ e,fW _ _ e]
  refine aF (aF (h.own j d) m (fun g a l=>?_)) s (fun g a l=>h.nb j d (by rw [a];simpa using l))
  exact h.ap j k d x e g a (by simpa using l)
 ·by_cases e:j=k
  ·subst e
   rw [gA];exact v
  rw [fW _ _ e];exact h.nb j d
 ·by_cases e:i=k
  ·subst e
   rw [gA] at a
   rw [fW _ _ (fun e=>r e.symm)]
   exact p j d (fun e=>r e.symm) g a
  rw [fW _ _ e] at a
  by_cases l:j=k
  ·subst l
   rw [gA]
   exact fun C=>p i hi e g C a
  rw [fW _ _ l]
  exact h.ap i j hi d r g a
 exact (m.mono (fun g a=>.inl (mem_cons_of_mem _ a))).setCell _ _ (by simp)
structure BL (w:World) (K:List Nat) (xs:Nat->List Value):Prop where
 pl:∀ (i:Nat) (v:Value),(xs 0)[i]?=some v->∃ m,(xs 1)[i]?=some (ii m)/\Mks w K v m
 pr:∀ (i:Nat) (v:Value),(xs 2)[i]?=some v->MkP w K v
 pe:∀ (i:Nat) (v:Value),(xs 3)[i]?=some v->∃ m,(xs 4)[i]?=some (ii m)/\MkU w K v m
 fi:∀ (i:Nat) (v:Value),(xs 5)[i]?=some v->∃ m,(xs 7)[i]?=some (.string m)/\MkR w K v (cF m)
 st:∀ (i:Nat) (v:Value),(xs 6)[i]?=some v->∃ m,(xs 8)[i]?=some (.string m)/\MkR w K v (cS m)
theorem BL.fr {S K:List Nat}{w e:World}{xs:Nat->List Value}(h:BL w K xs)(d:Fr S w e)(hs:∀ b∈K,b∉S):BL e K xs :=
  ⟨fun i v a=>by obtain ⟨m,h1,c⟩:=h.pl i v a;exact ⟨m,h1,c.fr d hs⟩,fun i v a=>(h.pr i v a).fr d hs,fun i v a=>by obtain ⟨m,h1,c⟩:=h.pe i v a;exact ⟨m,h1,c.fr d hs⟩,fun i v a=>by obtain ⟨m,h1,c⟩:=h.fi i v a;exact ⟨m,h1,c.fr d hs⟩,fun i v a=>by obtain ⟨m,h1,c⟩:=h.st i v a;exact ⟨m,h1,c.fr d hs⟩⟩
theorem BL.up {K K':List Nat}{w:World}{xs:Nat->List Value}(h:BL w K xs)(d:∀ b∈K,b∈K'):BL w K' xs :=
  ⟨fun i v a=>by obtain ⟨m,h1,c⟩:=h.pl i v a;exact ⟨m,h1,c.up d⟩,fun i v a=>(h.pr i v a).up d,fun i v a=>by obtain ⟨m,h1,c⟩:=h.pe i v a;exact ⟨m,h1,c.up d⟩,fun i v a=>by obtain ⟨m,h1,c⟩:=h.fi i v a;exact ⟨m,h1,c.up d⟩,fun i v a=>by obtain ⟨m,h1,c⟩:=h.st i v a;exact ⟨m,h1,c.up d⟩⟩
structure Bk (w:World) (bb:Nat) (K:List Nat) (N:Nat):Prop where
 ex:∃ rv xs nx KL,BR w bb rv xs nx/\BL w KL xs/\(xs 0).length=(xs 1).length/\((xs 3).length=(xs 4).length/\(xs 5).length=(xs 7).length/\(xs 6).length=(xs 8).length)/\(xs 0).length<=8*N/\(xs 2).length<=3*N/\((xs 3).length<=4*N/\(xs 5).length<=3*N/\(xs 6).length<=3*N) /\ -(3*(N:Int))<=nx/\nx<=0/\(∀ k,k < 9->∀ g,(rv k).ownBlock=some g->g∈K)/\(∀ b∈KL,b∈K/\∀ k,k < 9->(rv k).ownBlock≠some b)
 nb:bb∉K
 kl:∀ b∈K,b < w.heap.size
theorem Bk.fr {S K:List Nat}{w i:World}{d N:Nat}(h:Bk w d K N)(e:Fr S w i)(hb:d∉S)(hs:∀ b∈K,b∉S):Bk i d K N:=by
 obtain ⟨⟨x,xs,v,j,h1,l,m,n,o,p,q,r,s,a,c⟩,hn,f⟩:=h
 exact ⟨⟨x,xs,v,j,h1.fr e hb (fun k u g t=>hs g (a k u g t)),l.fr e (fun b hb=>hs b (c b hb).1),m,n,o,p,q,r,s,a,c⟩,hn,fun b hb=>Nat.lt_of_lt_of_le (f b hb) e.size⟩
theorem Bk.fr0 {K:List Nat}{w b:World}{a N:Nat}(h:Bk w a K N)(c:Fr [] w b):Bk b a K N:=h.fr c (by simp) (by simp)
theorem Bk.more {K:List Nat}{w:World}{d N M:Nat}(h:Bk w d K N)(hm:N<=M):Bk w d K M:=by
 obtain ⟨⟨l,xs,k,e,h1,f,g,i,m,n,o,p,j,a,b⟩,hn,c⟩:=h
 exact ⟨⟨l,xs,k,e,h1,f,g,i,by omega,by omega,by omega,by omega,j,a,b⟩,hn,c⟩
theorem Bk.lt {K:List Nat}{w:World}{a N:Nat}(h:Bk w a K N):a < w.heap.size:=by
 obtain ⟨⟨d,xs,c,b,h1,_⟩,_,_⟩:=h
 exact h1.lt
theorem Bk.start {w:World}{d:Nat}{ty:TypeId}(h:w.heap[d]?=some (.cells #[.slice none 0 0,.slice none 0 0,.slice none 0 0,.slice none 0 0,.slice none 0 0,.slice none 0 0,.slice none 0 0,.slice none 0 0,.slice none 0 0,ii 0] ty)):Bk w d [] 0:=by
 refine ⟨⟨fun _=>.slice none 0 0,fun _=>[],0,[],⟨fun k c=>?_,?_,fun k=>bI h,fun k c=>⟨rfl,.inl ⟨rfl,rfl⟩⟩,fun k c e=>?_,fun i j _ _ _ g b=>?_⟩,⟨fun i v a=>?_,fun i v a=>?_,fun i v a=>?_,fun i v a=>?_,fun i v a=>?_⟩,rfl,⟨rfl,rfl,rfl⟩,by simp,by simp,by simp,by simp,by simp,fun k c g b=>?_,by simp⟩,by simp,by simp⟩
 ·rw [aB h]
  have:k=0\/k=1\/k=2\/k=3\/k=4\/k=5\/k=6\/k=7\/k=8:=by omega
  rcases this with rfl|rfl|rfl|rfl|rfl|rfl|rfl|rfl|rfl <;> rfl
 ·rw [aB h];rfl
 ·cases e
 ·cases b
 ·simp at a
 ·simp at a
 ·simp at a
 ·simp at a
 ·simp at a
 cases b
theorem fF {w:World}{base n:Nat}{e:TypeId}{size:Nat}{v:Value}{xs:List Value}(h:w.ownsRow base e size v n xs):∃ a c,v=.slice a n c:=by
 rcases h.2 with ⟨rfl,rfl⟩|⟨g,b,cur,rfl,_⟩
 ·exact ⟨_,_,rfl⟩
 exact ⟨_,_,rfl⟩
theorem kO {w:World}{base:Nat}{e:TypeId}{v:Value}{xs:List Value}(h:w.ownsRow base e 1 v xs.length xs){i:Nat}{u:Value}(d:xs[i]?=some u):∃ b c,v=.slice (so b) xs.length c/\w.cell? ⟨b,i,none⟩=some u:=by
 have hi:i < xs.length:=(gs.1 d).1
 obtain ⟨g,a,rfl⟩:=bK h (by omega)
 refine ⟨g,a,rfl,?_⟩
 have:=h.cells (g:=g) rfl i u d
 rwa [Addr.add_lit,Nat.zero_add] at this
section
variable {w:World} {bb:Nat} {rv:Nat->Value} {xs:Nat->List Value} {nx:Int} {KL:List Nat}
theorem BR.len (d:BR w bb rv xs nx){k:Nat}(b:k < 9):∃ a c,w.cell? ⟨bb,k,none⟩=some (.slice a (xs k).length c):=by
 obtain ⟨a,c,e⟩:=fF (d.own k b)
 exact ⟨a,c,by rw [d.cell k b,e]⟩
theorem BR.two (d:BR w bb rv xs nx){p q:Nat}(l:p < 9)(o:q < 9)(x:(xs p).length=(xs q).length){i:Nat}{v:Value}{m:ByteArray}{cs:List Value}(y:(xs p)[i]?=some v)(hm:(xs q)[i]?=some (.string m))(g:MkR w KL v cs):∃ e h f j a n c,w.cell? ⟨bb,p,none⟩=some (.slice (so e) (xs p).length h)/\w.cell? ⟨bb,q,none⟩=some (.slice (so f) (xs p).length j)/\w.cell? ⟨e,i,none⟩=some (.slice a n c)/\w.cell? ⟨f,i,none⟩=some (.string m)/\n<=20000000/\∀ k,k < n->∃ b,a=some ⟨b,0,none⟩/\w.rangeAt b (k*cs.length) cs:=by
 obtain ⟨a,n,c,rfl,hn,hb⟩:=g
 obtain ⟨e,h,r,s⟩:=kO (d.own p l) y
 obtain ⟨f,j,t,u⟩:=kO (d.own q o) hm
 refine ⟨e,h,f,j,a,n,c,by rw [d.cell p l,r],by rw [d.cell q o,t,x],s,u,hn,fun k g=>?_⟩
 rcases hb with hb|⟨b,z,_,A⟩
 ·omega
 exact ⟨b,z,A k g⟩
theorem GN (m:ByteArray)(w:World):(binOp BinOp.neq 115 (.agg (cF m).toArray) (.agg (cF m).toArray)).run Tryz.prog w=.ok (.bool false) w:=by
  simp [go_sem]
theorem TA (m:ByteArray)(w:World):(binOp BinOp.neq 113 (.agg (cS m).toArray) (.agg (cS m).toArray)).run Tryz.prog w=.ok (.bool false) w:=by
  simp [go_sem]
end
theorem PB {rv:Nat->Value}{xs:Nat->List Value}{nx:Int}{KL:List Nat}(bb N:Nat)(w:World)(h1:BR w bb rv xs nx)(h2:BL w KL xs)(h4:(xs 5).length=(xs 7).length/\(xs 6).length=(xs 8).length)(h7:(xs 5).length<=3*N/\(xs 6).length<=3*N)(hN:N<=2200000) :
  Cs 59 #[.pointer (so bb)] w fun e D=>e=.returned (.bool true)/\Fr [] w D:=by
 have R:Hi (∀ D,Fr [] w D->BR D bb rv xs nx):=fun D a=>h1.fr a (by simp) (by simp)
 have L:Hi (∀ D,Fr [] w D->BL D KL xs):=fun D a=>h2.fr a (by simp)
 have Y:=aA h4
 obtain ⟨W,X⟩:=h7
 clear h1 h2 h4
 obtain ⟨O,I⟩:∃ n,(xs 5).length=n:=⟨_,rfl⟩
 obtain ⟨P,J⟩:∃ n,(xs 6).length=n:=⟨_,rfl⟩
 rw [I] at W
 rw [J] at X
 have E:=aA I
 have F:=aA J
 clear I J
 go_enter Tryz.func59,Tryz.ntmps59
 go_wp2_with fail
 go_loopw [3] (fun i wr=>∃ k:Nat,k<=O/\i=.int .i64 k/\Fr [] w wr) (fun i _=>O - (intOf i).toNat)
 case atStart=>exact ⟨0,Nat.zero_le _,rfl,r0 _ _⟩
 obtain ⟨i,hi,rfl,a⟩:=hrel
 by_cases t:i < O
 ·have u:(i:Int) < (O:Int):=by omega
  obtain ⟨v,l⟩:∃ v,(xs 5)[i]?=some v:=⟨_,getElem?_eq_getElem (by rw [E.o];exact t)⟩
  obtain ⟨m,hm,y⟩:=(L.o wr a).fi i v l
  obtain ⟨pb,pc,qb,qc,ao,n,c,s,A,B,H,e5,M⟩:=(R.o wr a).two (p:=5) (q:=7) (by omega) (by omega) Y.o.1 l hm y
  rw [E.o] at s A
  have r:=aA M
  clear M l hm y
  go_wp2_with fail
  obtain ⟨Q,z⟩:∃ x,x=wr:=⟨_,rfl⟩
  rw [<- z] at a s A B H r |-
  clear z
  have V:=aA a
  go_loopw [5] (fun j wr=>∃ k:Nat,k<=n/\j=.int .i64 k/\Fr [] Q wr) (fun j _=>n - (intOf j).toNat)
  case atStart=>exact ⟨0,Nat.zero_le _,rfl,r0 _ _⟩
  obtain ⟨k,hk,rfl,g⟩:=hrel
  have f:∀ b o v,Q.cell? ⟨b,o,none⟩=some v->wr.cell? ⟨b,o,none⟩=some v:=fun b o v l=>(g.cell b o (aI l) (by simp)).trans l
  have f1:=f _ _ _ s
  have f3:=f _ _ _ B
  by_cases d:k < n
  ·have h:(k:Int) < (n:Int):=by omega
   obtain ⟨b,rfl,C⟩:=r.o k d
   have g0:ca wr b (k*2) (.string m):=f _ _ _ (C 0 _ rfl)
   have g1:ca wr b (k*2+1) (.string m):=f _ _ _ (C 1 _ rfl)
   have K:=GN m
   simp only [cF] at K
   clear f s A B H C
   go_wp2_with fail
   go_roundw
   case rel=>exact ⟨k+1,d,by go_num,g⟩
   case measure=>simp [intOf];omega
  have h:¬ (k:Int) < (n:Int):=by omega
  clear f s A B H
  go_wp2_with fail
  go_roundw
  case rel=>exact ⟨i+1,t,by go_num,V.o.then0 g⟩
  case measure=>simp [intOf];omega
 have u:¬ (i:Int) < (O:Int):=by omega
 obtain ⟨a0,c0,S⟩:=(R.o wr a).len (k:=5) (by omega)
 rw [E.o] at S
 go_wp2_with fail
 go_loopw [6] (fun i wr=>∃ k:Nat,k<=P/\i=.int .i64 k/\Fr [] w wr) (fun i _=>P - (intOf i).toNat)
 case atStart=>exact ⟨0,Nat.zero_le _,rfl,a⟩
 clear a S
 obtain ⟨i,hi,rfl,a⟩:=hrel
 by_cases t:i < P
 ·have u:(i:Int) < (P:Int):=by omega
  obtain ⟨v,l⟩:∃ v,(xs 6)[i]?=some v:=⟨_,getElem?_eq_getElem (by rw [F.o];exact t)⟩
  obtain ⟨m,hm,y⟩:=(L.o wr a).st i v l
  obtain ⟨pb,pc,qb,qc,ao,n,c,s,A,B,H,e5,M⟩:=(R.o wr a).two (p:=6) (q:=8) (by omega) (by omega) Y.o.2 l hm y
  rw [F.o] at s A
  have r:=aA M
  clear M l hm y
  go_wp2_with fail
  obtain ⟨Q,z⟩:∃ x,x=wr:=⟨_,rfl⟩
  rw [<- z] at a s A B H r |-
  clear z
  have V:=aA a
  go_loopw [8] (fun j wr=>∃ k:Nat,k<=n/\j=.int .i64 k/\Fr [] Q wr) (fun j _=>n - (intOf j).toNat)
  case atStart=>exact ⟨0,Nat.zero_le _,rfl,r0 _ _⟩
  obtain ⟨k,hk,rfl,g⟩:=hrel
  have f:∀ b o v,Q.cell? ⟨b,o,none⟩=some v->wr.cell? ⟨b,o,none⟩=some v:=fun b o v l=>(g.cell b o (aI l) (by simp)).trans l
  have f1:=f _ _ _ s
  have f3:=f _ _ _ B
  by_cases d:k < n
  ·have h:(k:Int) < (n:Int):=by omega
   obtain ⟨b,rfl,C⟩:=r.o k d
   have g0:ca wr b (k*4) (ii (-1)):=f _ _ _ (C 0 _ rfl)
   have g1:ca wr b (k*4+1) (.string m):=f _ _ _ (C 1 _ rfl)
   have g2:ca wr b (k*4+2) (.string m):=f _ _ _ (C 2 _ rfl)
   have g3:ca wr b (k*4+3) (.string m):=f _ _ _ (C 3 _ rfl)
   have K:=TA m
   simp only [cS] at K
   clear f s A B H C
   go_wp2_with fail
   go_roundw
   case rel=>exact ⟨k+1,d,by go_num,g⟩
   case measure=>simp [intOf];omega
  have h:¬ (k:Int) < (n:Int):=by omega
  clear f s A B H
  go_wp2_with fail
  go_roundw
  case rel=>exact ⟨i+1,t,by go_num,V.o.then0 g⟩
  case measure=>simp [intOf];omega
 have u:¬ (i:Int) < (P:Int):=by omega
 obtain ⟨a0,c0,S⟩:=(R.o wr a).len (k:=6) (by omega)
 rw [F.o] at S
 go_wp2_with fail
 go_ret
 exact ⟨rfl,a⟩
section
variable {w:World} {bb:Nat} {rv:Nat->Value} {xs:Nat->List Value} {nx:Int} {KL:List Nat}
theorem BR.place (d:BR w bb rv xs nx)(hl:BL w KL xs)(r:(xs 0).length=(xs 1).length){i:Nat}(hi:i < (xs 0).length):∃ e g f h a n c m,w.cell? ⟨bb,0,none⟩=some (.slice (so e) (xs 0).length g)/\w.cell? ⟨bb,1,none⟩=some (.slice (so f) (xs 0).length h)/\w.cell? ⟨e,i,none⟩=some (.slice a n c)/\w.cell? ⟨f,i,none⟩=some (ii m)/\n<=3000000/\∀ k,k < n->∃ b,a=some ⟨b,0,none⟩/\w.cell? ⟨b,k,none⟩=some (ii m):=by
 obtain ⟨v,j⟩:∃ v,(xs 0)[i]?=some v:=⟨_,getElem?_eq_getElem hi⟩
 obtain ⟨m,hm,a,n,c,rfl,hn,hb⟩:=hl.pl i v j
 obtain ⟨e,g,l,o⟩:=kO (d.own 0 (by omega)) j
 obtain ⟨f,h,p,q⟩:=kO (d.own 1 (by omega)) hm
 refine ⟨e,g,f,h,a,n,c,m,by rw [d.cell 0 (by omega),l],by rw [d.cell 1 (by omega),p,r],o,q,hn,fun k s=>?_⟩
 rcases hb with hb|⟨b,t,_,u⟩
 ·omega
 exact ⟨b,t,u k s⟩
theorem BR.pair (g:BR w bb rv xs nx)(hl:BL w KL xs){i:Nat}(hi:i < (xs 2).length):∃ d e a n c,w.cell? ⟨bb,2,none⟩=some (.slice (so d) (xs 2).length e)/\w.cell? ⟨d,i,none⟩=some (.slice a n c)/\n<=3000000/\∀ k,k < n->∃ b x f,a=some ⟨b,0,none⟩/\w.cell? ⟨b,k,none⟩=some (.slice (so x) 1 f)/\w.cell? ⟨x,0,none⟩=some (ii (-7)):=by
 obtain ⟨v,h⟩:∃ v,(xs 2)[i]?=some v:=⟨_,getElem?_eq_getElem hi⟩
 obtain ⟨a,n,c,rfl,hn,hb⟩:=hl.pr i v h
 obtain ⟨d,e,j,l⟩:=kO (g.own 2 (by omega)) h
 refine ⟨d,e,a,n,c,by rw [g.cell 2 (by omega),j],l,hn,fun k m=>?_⟩
 rcases hb with hb|⟨b,o,_,p⟩
 ·omega
 obtain ⟨x,f,q,_,r⟩:=p k m
 exact ⟨b,x,f,o,q,r⟩
theorem BR.folk (d:BR w bb rv xs nx)(hl:BL w KL xs)(r:(xs 3).length=(xs 4).length){i:Nat}(hi:i < (xs 3).length):∃ e g f h a n c m,w.cell? ⟨bb,3,none⟩=some (.slice (so e) (xs 3).length g)/\w.cell? ⟨bb,4,none⟩=some (.slice (so f) (xs 3).length h)/\w.cell? ⟨e,i,none⟩=some (.slice a n c)/\w.cell? ⟨f,i,none⟩=some (ii m)/\n<=3000000/\∀ k,k < n->∃ b,a=some ⟨b,0,none⟩/\w.rangeAt b (k*11) (iK m).cells:=by
 obtain ⟨v,j⟩:∃ v,(xs 3)[i]?=some v:=⟨_,getElem?_eq_getElem hi⟩
 obtain ⟨m,hm,a,n,c,rfl,hn,hb⟩:=hl.pe i v j
 obtain ⟨e,g,l,o⟩:=kO (d.own 3 (by omega)) j
 obtain ⟨f,h,p,q⟩:=kO (d.own 4 (by omega)) hm
 refine ⟨e,g,f,h,a,n,c,m,by rw [d.cell 3 (by omega),l],by rw [d.cell 4 (by omega),p,r],o,q,hn,fun k s=>?_⟩
 rcases hb with hb|⟨b,t,_,u⟩
 ·omega
 exact ⟨b,t,u k s⟩
end
theorem UR (u:U)(w:World):(binOp BinOp.neq 85 u.val u.val).run Tryz.prog w=.ok (.bool false) w:=by
  simp [go_sem]
theorem KV (bb N:Nat)(K:List Nat)(w:World)(h:Bk w bb K N)(hN:N<=2200000) :
  Calls Tryz.prog 27 #[.pointer (some ⟨bb,0,none⟩)] w fun e C=>e=.returned (.bool true)/\Fr [] w C:=by
 obtain ⟨⟨rv,xs,nx,KL,h1,h2,h3,h4,h5,h6,h7,_⟩,_⟩:=h
 have L:Hi (∀ C,Fr [] w C->BR C bb rv xs nx):=fun C d=>h1.fr d (by simp) (by simp)
 have A:Hi (∀ C,Fr [] w C->BL C KL xs):=fun C d=>h2.fr d (by simp)
 have aa:=h5
 have ab:=h6
 have ac:=h7.1
 have H3:=aA h3
 have H4:=aA h4.1
 have X:=aA h4.2
 have H7:=aA h7.2
 clear h1 h2 h3 h4 h5 h6 h7
 obtain ⟨S,O⟩:∃ n,(xs 0).length=n:=⟨_,rfl⟩
 obtain ⟨V,P⟩:∃ n,(xs 2).length=n:=⟨_,rfl⟩
 obtain ⟨W,Q⟩:∃ n,(xs 3).length=n:=⟨_,rfl⟩
 rw [O] at aa
 rw [P] at ab
 rw [Q] at ac
 have H:=aA O
 have I:=aA P
 have J:=aA Q
 clear O P Q
 go_enter Tryz.func27,Tryz.ntmps27
 go_wp2_with fail
 go_loopw [3] (fun i wr=>∃ k:Nat,k<=S/\i=.int .i64 k/\Fr [] w wr) (fun i _=>S - (intOf i).toNat)
 case atStart=>exact ⟨0,Nat.zero_le _,rfl,Fr.refl _ _⟩
 obtain ⟨i,hi,rfl,d⟩:=hrel
 by_cases s:i < S
 ·have t:(i:Int) < (S:Int):=by omega
  obtain ⟨pb,pc,qb,qc,ao,n,c,m,r,z,y,B,e5,D⟩:=(L.o wr d).place (A.o wr d) H3.o (i:=i) (by rw [H.o];exact s)
  rw [H.o] at r z
  have q:=aA D
  clear D
  go_wp2_with fail
  obtain ⟨F,u⟩:∃ x,x=wr:=⟨_,rfl⟩
  rw [<- u] at d r z y B q |-
  clear u
  have R:=aA d
  go_loopw [4] (fun j wr=>∃ k:Nat,k<=n/\j=.int .i64 k/\Fr [] F wr) (fun j _=>n - (intOf j).toNat)
  case atStart=>exact ⟨0,Nat.zero_le _,rfl,Fr.refl _ _⟩
  obtain ⟨k,hk,rfl,f⟩:=hrel
  have a:∀ b o v,F.cell? ⟨b,o,none⟩=some v->wr.cell? ⟨b,o,none⟩=some v:=fun b o v E=>(f.cell b o (aI E) (by simp)).trans E
  have f1:=a _ _ _ r
  have f2:=a _ _ _ z
  have f3:=a _ _ _ y
  have f4:=a _ _ _ B
  by_cases g:k < n
  ·have l:(k:Int) < (n:Int):=by omega
   obtain ⟨b,rfl,p⟩:=q.o k g
   have f7:=a _ _ _ p
   clear a r z y B p
   go_wp2_with fail
   go_quiet (fail)
   go_wp2_with fail
   go_roundw
   case rel=>exact ⟨k+1,g,by go_num,f.drewN _⟩
   case measure=>simp [intOf];omega
  have l:¬ (k:Int) < (n:Int):=by omega
  clear a r z y B
  go_wp2_with fail
  go_roundw
  case rel=>exact ⟨i+1,s,by go_num,R.o.then0 f⟩
  case measure=>simp [intOf];omega
 have t:¬ (i:Int) < (S:Int):=by omega
 obtain ⟨a0,c0,M⟩:=(L.o wr d).len (k:=0) (by omega)
 rw [H.o] at M
 go_wp2_with fail
 go_loopw [5] (fun i wr=>∃ k:Nat,k<=V/\i=.int .i64 k/\Fr [] w wr) (fun i _=>V - (intOf i).toNat)
 case atStart=>exact ⟨0,Nat.zero_le _,rfl,d⟩
 clear d M
 obtain ⟨i,hi,rfl,d⟩:=hrel
 by_cases s:i < V
 ·have t:(i:Int) < (V:Int):=by omega
  obtain ⟨pb,pc,ao,n,c,r,y,e5,D⟩:=(L.o wr d).pair (A.o wr d) (i:=i) (by rw [I.o];exact s)
  rw [I.o] at r
  have q:=aA D
  clear D
  go_wp2_with fail
  obtain ⟨F,u⟩:∃ x,x=wr:=⟨_,rfl⟩
  rw [<- u] at d r y q |-
  clear u
  have R:=aA d
  go_loopw [6] (fun j wr=>∃ k:Nat,k<=n/\j=.int .i64 k/\Fr [] F wr) (fun j _=>n - (intOf j).toNat)
  case atStart=>exact ⟨0,Nat.zero_le _,rfl,Fr.refl _ _⟩
  obtain ⟨k,hk,rfl,f⟩:=hrel
  have a:∀ b o v,F.cell? ⟨b,o,none⟩=some v->wr.cell? ⟨b,o,none⟩=some v:=fun b o v E=>(f.cell b o (aI E) (by simp)).trans E
  have f1:=a _ _ _ r
  have f3:=a _ _ _ y
  by_cases g:k < n
  ·have l:(k:Int) < (n:Int):=by omega
   obtain ⟨b,x,xc,rfl,p,e8⟩:=q.o k g
   have f7:=a _ _ _ p
   have f8:=a _ _ _ e8
   clear a r y p e8
   go_wp2_with fail
   go_roundw
   case rel=>exact ⟨k+1,g,by go_num,f⟩
   case measure=>simp [intOf];omega
  have l:¬ (k:Int) < (n:Int):=by omega
  clear a r y
  go_wp2_with fail
  go_roundw
  case rel=>exact ⟨i+1,s,by go_num,R.o.then0 f⟩
  case measure=>simp [intOf];omega
 have t:¬ (i:Int) < (V:Int):=by omega
 obtain ⟨a0,c0,M⟩:=(L.o wr d).len (k:=2) (by omega)
 rw [I.o] at M
 go_wp2_with fail
 go_loopw [7] (fun i wr=>∃ k:Nat,k<=W/\i=.int .i64 k/\Fr [] w wr) (fun i _=>W - (intOf i).toNat)
 case atStart=>exact ⟨0,Nat.zero_le _,rfl,d⟩
 clear d M
 obtain ⟨i,hi,rfl,d⟩:=hrel
 by_cases s:i < W
 ·have t:(i:Int) < (W:Int):=by omega
  obtain ⟨pb,pc,qb,qc,ao,n,c,m,r,z,y,B,e5,D⟩:=(L.o wr d).folk (A.o wr d) H4.o (i:=i) (by rw [J.o];exact s)
  rw [J.o] at r z
  have q:=aA D
  clear D
  go_wp2_with fail
  obtain ⟨F,u⟩:∃ x,x=wr:=⟨_,rfl⟩
  rw [<- u] at d r z y B q |-
  clear u
  have R:=aA d
  go_loopw [8] (fun j wr=>∃ k:Nat,k<=n/\j=.int .i64 k/\Fr [] F wr) (fun j _=>n - (intOf j).toNat)
  case atStart=>exact ⟨0,Nat.zero_le _,rfl,Fr.refl _ _⟩
  obtain ⟨k,hk,rfl,f⟩:=hrel
  have a:∀ b o v,F.cell? ⟨b,o,none⟩=some v->wr.cell? ⟨b,o,none⟩=some v:=fun b o v E=>(f.cell b o (aI E) (by simp)).trans E
  have f1:=a _ _ _ r
  have f2:=a _ _ _ z
  have f3:=a _ _ _ y
  have f4:=a _ _ _ B
  by_cases g:k < n
  ·have l:(k:Int) < (n:Int):=by omega
   obtain ⟨b,rfl,p⟩:=q.o k g
   have g0:wr.cell? ⟨b,k*11,none⟩=some (ii m):=a _ _ _ (p 0 _ rfl)
   have g1:wr.cell? ⟨b,k*11+1,none⟩=some (ii 0):=a _ _ _ (p 1 _ rfl)
   have g2:wr.cell? ⟨b,k*11+2,none⟩=some (ii 0):=a _ _ _ (p 2 _ rfl)
   have g3:wr.cell? ⟨b,k*11+3,none⟩=some (ii 0):=a _ _ _ (p 3 _ rfl)
   have g4:wr.cell? ⟨b,k*11+4,none⟩=some (ii 0):=a _ _ _ (p 4 _ rfl)
   have g5:wr.cell? ⟨b,k*11+5,none⟩=some (ii m):=a _ _ _ (p 5 _ rfl)
   have g6:wr.cell? ⟨b,k*11+6,none⟩=some (ii 0):=a _ _ _ (p 6 _ rfl)
   have g7:wr.cell? ⟨b,k*11+7,none⟩=some (ii 0):=a _ _ _ (p 7 _ rfl)
   have g8:wr.cell? ⟨b,k*11+8,none⟩=some (ii 0):=a _ _ _ (p 8 _ rfl)
   have g9:wr.cell? ⟨b,k*11+9,none⟩=some (ii 0):=a _ _ _ (p 9 _ rfl)
   have ae:wr.cell? ⟨b,k*11+10,none⟩=some (ii 0):=a _ _ _ (p 10 _ rfl)
   have ad:=UR (iK m)
   simp only [iK,U.val] at ad
   clear a r z y B p
   go_wp2_with fail
   go_quiet (fail)
   go_wp2_with fail
   go_roundw
   case rel=>exact ⟨k+1,g,by go_num,f.drewN _⟩
   case measure=>simp [intOf];omega
  have l:¬ (k:Int) < (n:Int):=by omega
  clear a r z y B
  go_wp2_with fail
  go_roundw
  case rel=>exact ⟨i+1,s,by go_num,R.o.then0 f⟩
  case measure=>simp [intOf];omega
 have t:¬ (i:Int) < (W:Int):=by omega
 obtain ⟨a0,c0,M⟩:=(L.o wr d).len (k:=3) (by omega)
 rw [J.o] at M
 have Y:=(show Hi _ from PB bb N wr (L.o wr d) (A.o wr d) X.o H7.o hN)
 go_wp2_with (go_at_call 59;refine Calls.mono Y.o ?_;rintro e w2 ⟨rfl,f⟩)
 go_ret
 exact ⟨rfl,d.then0 f⟩
def aO (size:Nat)(pat:Nat->Value)(n:Nat):List Value:=(range (n*size)).map pat
theorem fY (size:Nat)(pat:Nat->Value)(n:Nat):(aO size pat n).length=n*size:=by simp [aO]
theorem kP {size:Nat}{pat:Nat->Value}{n k:Nat}(h:k < n*size):(aO size pat n)[k]?=some (pat k):=by
 unfold aO
 rw [getElem?_map,getElem?_range h]
 rfl
theorem yH {size:Nat}{pat:Nat->Value}(a:∀ k,pat (k+size)=pat k)(j:Nat):∀ n,pat (j+n*size)=pat j
 | 0=>by simp
 | n+1=>by
  have:=a (j+n*size)
  rw [show j+(n+1)*size=j+n*size+size by rw [Nat.add_mul];omega,this]
  exact yH a j n
theorem lL {size:Nat}{pat:Nat->Value}(b:∀ k,pat (k+size)=pat k)(n m:Nat):aO size pat n ++ aO size pat m=aO size pat (n+m):=by
 apply ext_getElem?
 intro i
 have a:(n+m)*size=n*size+m*size:=Nat.add_mul n m size
 by_cases h1:i < n*size
 ·rw [getElem?_append_left (by rw [fY];exact h1),kP h1,kP (by omega)]
 rw [getElem?_append_right (by rw [fY];omega),fY]
 by_cases c:i < n*size+m*size
 ·rw [kP (by omega),kP (by omega)]
  have:=yH b (i - n*size) n
  rw [show i - n*size+n*size=i by omega] at this
  rw [this]
 rw [getElem?_eq_none (by rw [fY];omega),getElem?_eq_none (by rw [fY];omega)]
def Mkg (w:World)(K:List Nat)(size:Nat)(pat:Nat->Value)(v:Value)(n:Nat):Prop:=∃ a c,v=.slice a n c/\(n=0\/∃ b,a=some ⟨b,0,none⟩/\b∈K/\∀ k,k < n*size->w.cell? ⟨b,k,none⟩=some (pat k))
theorem Mkg.of_own {w:World}{base n size:Nat}{e:TypeId}{v:Value}{pat:Nat->Value}{K:List Nat}(h:w.ownsRow base e size v n (aO size pat n))(f:∀ g,v.ownBlock=some g->g∈K):Mkg w K size pat v n:=by
 have c:=fun g (d:v.ownBlock=some g)=>h.cells d
 rcases h.2 with ⟨rfl,rfl⟩|⟨g,a,cur,rfl,_⟩
 ·exact ⟨none,0,rfl,.inl rfl⟩
 refine ⟨_,a,rfl,.inr ⟨g,rfl,f g rfl,fun k b=>?_⟩⟩
 have:=c g rfl k (pat k) (kP b)
 rwa [Addr.add_lit,Nat.zero_add] at this
theorem Mkg.up {w:World}{K K':List Nat}{size n:Nat}{pat:Nat->Value}{v:Value}(h:Mkg w K size pat v n)(f:∀ b∈K,b∈K'):Mkg w K' size pat v n:=by
 obtain ⟨a,c,h1,d⟩:=h
 exact ⟨a,c,h1,d.imp_right fun ⟨b,g,i,j⟩=>⟨b,g,f b i,j⟩⟩
theorem Mkg.fr {S:List Nat}{w g:World}{K:List Nat}{size n:Nat}{pat:Nat->Value}{v:Value}(h:Mkg w K size pat v n)(l:Fr S w g)(hs:∀ b∈K,b∉S):Mkg g K size pat v n:=by
 obtain ⟨i,c,h1,j⟩:=h
 exact ⟨i,c,h1,j.imp_right fun ⟨b,m,d,f⟩=>⟨b,m,d,fun k a=>by rw [l.cell b k (aI (f k a)) (hs b d)];exact f k a⟩⟩
theorem Mkg.app {w a:World} {K:List Nat} {base size l j:Nat} {e:TypeId} {pat:Nat->Value} {d v m:Value} (h:Mkg w K size pat d l) (ho:a.ownsRow base e size m j (aO size pat j)) (i:l<=j)
  (s:(m.ownBlock=v.ownBlock/\w.grownBy a v.ownBlock)\/(m.ownBlock=some w.heap.size/\w.grownBy a none)):Mkg a K size pat d l:=by
 obtain ⟨p,c,h1,r⟩:=h
 refine ⟨p,c,h1,r.imp_right fun ⟨b,t,u,o⟩=>⟨b,t,u,fun k g=>?_⟩⟩
 rcases s with ⟨q,f⟩|⟨_,f⟩
 ·by_cases hb:some b=v.ownBlock
  ·have:=ho.cells (q.trans hb.symm) k (pat k) (kP (Nat.lt_of_lt_of_le g (Nat.mul_le_mul_right _ i)))
   rwa [Addr.add_lit,Nat.zero_add] at this
  exact f.cell (o k g) hb
 exact f.cell (o k g) (by simp)
theorem ST {P:Program} {f:Array Oper} {d:Oper} {a:Act} {w:World} {K:Act->World->Prop} {Q:Exit->Act->World->Prop} {E:Prop}
  (l:d.guard=none) (s x:Operand) (t:TypeId) (k:d.op=Op.call { callee:=Callee.builtin Builtin.append,args:=#[s,x],argTypes:=#[t,t] })
  (base:Nat) (e:TypeId) (i:TypeInfo) (z:Value) (size bytes:Nat) (ht:P.underlying t=some (.slice e)) (hi:P.info? e=some i) (hz:i.zero=some z)
  (hsize:i.size=size) (hby:i.bytes=bytes) (hzs:z.cells.size=size)
  (v:Value) (n:Nat) (xs:List Value) (hs:a.eval s=v) (hown:w.ownsRow base e size v n xs)
  (ad:Addr) (m c:Nat) (b:List Value) (hx:a.eval x=.slice (some ad) m c) (hl:b.length=m*size) (hnews:∀ j u,b[j]?=some u->w.cell? (ad.add j)=some u) (h1:∀ u∈b,u.oneCell'=true)
  (h63:n+m<=maxLen) (hbytes:(n+m)*bytes<=140737488355328) (hbase:base<=w.heap.size) (hm:0 < m)
  (hK:∀ h g,g.ownsRow base e size h (n+m) (xs ++ b)->g.ownsRow base e size v n xs->((h.ownBlock=v.ownBlock/\w.grownBy g v.ownBlock)\/(h.ownBlock=some w.heap.size/\w.grownBy g none))->K (a.put d.dst h) g) :
  if Region.wanted d (yielded f a.tmps)=true then Oper.wp P d a w K Q else E:=by
 have hw:Region.wanted d (yielded f a.tmps)=true:=by simp [Region.wanted,l]
 rw [if_pos hw]
 exact kS s x t k base e i z size bytes ht hi hz hsize hby hzs v n xs hs hown ad m c b hx hl hnews h1 h63 hbytes hbase hm hK
theorem bE {w b:World}{v c:Value}(d:(c.ownBlock=v.ownBlock/\w.grownBy b v.ownBlock)\/(c.ownBlock=some w.heap.size/\w.grownBy b none)):Fr v.ownBlock.toList w b:=by
 rcases d with ⟨_,a⟩|⟨_,a⟩
 ·exact (r0 _ _).grow a (fun g a=>.inl (by simp [a]))
 exact (r0 _ _).grow a (fun g a=>by cases a)
theorem fE {w c:World}{v b:Value}(d:(b.ownBlock=v.ownBlock/\w.grownBy c v.ownBlock)\/(b.ownBlock=some w.heap.size/\w.grownBy c none)):∀ g,b.ownBlock=some g->v.ownBlock=some g\/w.heap.size<=g:=by
 intro g a
 rcases d with ⟨e,_⟩|⟨e,_⟩
 ·exact .inl (e ▸ a)
 rw [e] at a;cases a;exact .inr (Nat.le_refl _)
theorem cU (W:World)(cs:List Value)(e:TypeId):∀ (j:Nat) (u:Value),cs[j]?=some u->(W.alloc (.cells cs.toArray e)).cell? ((⟨W.heap.size,0,none⟩:Addr).add j)=some u:=by
 intro j u a
 rw [Addr.add_lit,Nat.zero_add,aB (aC W _)]
 simpa using a
def jH (m:Int):Nat->Value:=fun _=>ii m
def dX (m:Int):Nat->Value:=fun k=>(iK m).cells.getD (k % 11) (ii 0)
theorem yF (m:Int):∀ k,jH m (k+1)=jH m k:=fun _=>rfl
theorem yG (m:Int):∀ k,dX m (k+11)=dX m k:=fun k=>by unfold dX;rw [Nat.add_mod_right]
theorem Mkg.ints {w:World}{K:List Nat}{m:Int}{v:Value}{n:Nat}(h:Mkg w K 1 (jH m) v n)(hn:n<=3000000):Mks w K v m:=by
 obtain ⟨a,c,h1,d⟩:=h
 exact ⟨a,n,c,h1,hn,d.imp_right fun ⟨b,f,g,i⟩=>⟨b,f,g,fun k j=>i k (by omega)⟩⟩
theorem Mkg.units {w:World}{K:List Nat}{m:Int}{v:Value}{n:Nat}(h:Mkg w K 11 (dX m) v n)(hn:n<=3000000):MkU w K v m:=by
 obtain ⟨d,c,h1,f⟩:=h
 refine ⟨d,n,c,h1,hn,f.imp_right fun ⟨b,g,i,l⟩=>⟨b,g,i,fun k p j u a=>?_⟩⟩
 have o:j < 11:=(gs.1 a).1
 rw [l (k*11+j) (by omega)]
 unfold dX
 rw [show (k*11+j) % 11=j by omega,getD_eq_getElem?_getD,a]
 rfl
theorem Mkg.pairs {w:World}{K:List Nat}{v:Value}{n x a:Nat}(h:Mkg w K 1 (fun _=>.slice (so x) 1 a) v n)(hn:n<=3000000)(hx:x∈K)(g:w.cell? ⟨x,0,none⟩=some (ii (-7))):MkP w K v:=by
 obtain ⟨d,c,h1,f⟩:=h
 exact ⟨d,n,c,h1,hn,f.imp_right fun ⟨b,i,j,l⟩=>⟨b,i,j,fun k m=>⟨x,a,l k (by omega),hx,g⟩⟩⟩
theorem OE (m:Int):aO 11 (dX m) 1=(iK m).cells:=rfl
def eG (w b:World)(v a:Value):Prop:=(a.ownBlock=v.ownBlock/\w.grownBy b v.ownBlock)\/(a.ownBlock=some w.heap.size/\w.grownBy b none)
section
variable {base size n:Nat} {e:TypeId} {pat:Nat->Value} {v v1 v2 v3:Value} {w w1 w2 w3:World} {o1 o2 o3:Obj}
theorem mN (m:∀ k,pat (k+size)=pat k)
  (h1:w1.ownsRow base e size v1 (n+1) (aO size pat n ++ aO size pat 1)) (h:eG (w.alloc o1) w1 v v1)
  (i:w2.ownsRow base e size v n (aO size pat n)) (d:w2.ownsRow base e size v2 (n+2) (aO size pat n ++ aO size pat 2)) (f:eG (w1.alloc o2) w2 v v2) :
  ∃ a:List Nat,(∀ b∈a,v.ownBlock=some b\/w.heap.size<=b)/\(∀ b∈a,b < w2.heap.size)/\Mkg w2 a size pat v n/\Mkg w2 a size pat v1 (n+1)/\Mkg w2 a size pat v2 (n+2):=by
 have j:=bE h
 have l:=bE f
 have p:=j.size
 have r:=l.size
 simp at p r
 rw [lL m] at h1 d
 refine ⟨v.ownBlock.toList ++ (v1.ownBlock.toList ++ v2.ownBlock.toList),?_,?_,?_,?_,?_⟩
 ·intro b hb
  simp only [mem_append,Option.mem_toList] at hb
  rcases hb with hb|hb|hb
  ·exact .inl hb
  ·rcases fE h b hb with q|q
   ·exact .inl q
   simp at q;exact .inr (by omega)
  rcases fE f b hb with q|q
  ·exact .inl q
  simp at q;exact .inr (by omega)
 ·intro b hb
  simp only [mem_append,Option.mem_toList] at hb
  rcases hb with hb|hb|hb
  ·exact (i.lt b hb).2
  ·have:=(h1.lt b hb).2;omega
  exact (d.lt b hb).2
 ·exact Mkg.of_own i (fun g c=>by simp [c])
 ·have o:Mkg w1 (v.ownBlock.toList ++ (v1.ownBlock.toList ++ v2.ownBlock.toList)) size pat v1 (n+1):=Mkg.of_own h1 (fun g c=>by simp [c])
  exact (o.fr ((r0 [] w1).alloc o2) (by simp)).app d (by omega) f
 exact Mkg.of_own d (fun g c=>by simp [c])
theorem wZ (l:∀ k,pat (k+size)=pat k)
  (h1:w1.ownsRow base e size v1 (n+1) (aO size pat n ++ aO size pat 1)) (i:eG (w.alloc o1) w1 v v1)
  (t:w2.ownsRow base e size v n (aO size pat n)) (r:w2.ownsRow base e size v2 (n+2) (aO size pat n ++ aO size pat 2)) (j:eG (w1.alloc o2) w2 v v2)
  (c:w3.ownsRow base e size v3 (n+3) (aO size pat n ++ aO size pat 3)) (d:eG (w2.alloc o3) w3 v v3) :
  ∃ a:List Nat,(∀ b∈a,v.ownBlock=some b\/w.heap.size<=b)/\(∀ b∈a,b < w3.heap.size)/\Mkg w3 a size pat v n/\Mkg w3 a size pat v1 (n+1)/\Mkg w3 a size pat v2 (n+2)/\Mkg w3 a size pat v3 (n+3):=by
 obtain ⟨a,u,x,y,z,A⟩:=mN l h1 i t r j
 have m:=bE i
 have o:=bE j
 have p:=bE d
 have B:=m.size
 have C:=o.size
 have D:=p.size
 simp at B C D
 rw [lL l] at c
 have h:∀ b∈a,b∈a ++ v3.ownBlock.toList:=fun b hb=>mem_append_left _ hb
 have f:=(r0 [] w2).alloc o3
 refine ⟨a ++ v3.ownBlock.toList,?_,?_,?_,?_,?_,?_⟩
 ·intro b hb
  rcases mem_append.1 hb with hb|hb
  ·exact u b hb
  rcases fE d b (by simpa using hb) with q|q
  ·exact .inl q
  simp at q;exact .inr (by omega)
 ·intro b hb
  rcases mem_append.1 hb with hb|hb
  ·have:=x b hb;omega
  exact (c.lt b (by simpa using hb)).2
 ·exact ((y.up h).fr f (by simp)).app c (by omega) d
 ·exact ((z.up h).fr f (by simp)).app c (by omega) d
 ·exact ((A.up h).fr f (by simp)).app c (by omega) d
 exact Mkg.of_own c (fun g s=>by simp [s])
end
theorem xA {α:Type}{l:List α}{i:Nat}{v:α}{m:Value}(h:l[i]?=some v):(l.map fun _=>m)[i]?=some m:=by
 rw [getElem?_map,h]
 rfl
theorem BL.places {w:World}{K:List Nat}{xs:Nat->List Value}(h:BL w K xs)(hl:(xs 0).length=(xs 1).length)(b:List Value)(m:Int)(d:∀ v∈b,Mks w K v m):BL w K (aK (aK xs 0 (xs 0 ++ b)) 1 (xs 1 ++ b.map fun _=>ii m)):=by
 refine ⟨?_,h.pr,h.pe,h.fi,h.st⟩
 show ∀ (i:Nat) (v:Value),(xs 0 ++ b)[i]?=some v->∃ c,(xs 1 ++ b.map fun _=>ii m)[i]?=some (ii c)/\Mks w K v c
 intro i v a
 by_cases hi:i < (xs 0).length
 ·rw [getElem?_append_left hi] at a
  rw [getElem?_append_left (by omega)]
  exact h.pl i v a
 rw [getElem?_append_right (by omega)] at a
 rw [getElem?_append_right (by omega),<- hl]
 exact ⟨m,xA a,d v (mem_of_getElem? a)⟩
theorem BL.people {w:World}{K:List Nat}{xs:Nat->List Value}(h:BL w K xs)(hl:(xs 3).length=(xs 4).length)(b:List Value)(m:Int)(d:∀ v∈b,MkU w K v m):BL w K (aK (aK xs 3 (xs 3 ++ b)) 4 (xs 4 ++ b.map fun _=>ii m)):=by
 refine ⟨h.pl,h.pr,?_,h.fi,h.st⟩
 show ∀ (i:Nat) (v:Value),(xs 3 ++ b)[i]?=some v->∃ c,(xs 4 ++ b.map fun _=>ii m)[i]?=some (ii c)/\MkU w K v c
 intro i v a
 by_cases hi:i < (xs 3).length
 ·rw [getElem?_append_left hi] at a
  rw [getElem?_append_left (by omega)]
  exact h.pe i v a
 rw [getElem?_append_right (by omega)] at a
 rw [getElem?_append_right (by omega),<- hl]
 exact ⟨m,xA a,d v (mem_of_getElem? a)⟩
theorem BL.pairs {w:World}{K:List Nat}{xs:Nat->List Value}(h:BL w K xs)(b:List Value)(c:∀ v∈b,MkP w K v):BL w K (aK xs 2 (xs 2 ++ b)):=by
 refine ⟨h.pl,?_,h.pe,h.fi,h.st⟩
 show ∀ (i:Nat) (v:Value),(xs 2 ++ b)[i]?=some v->MkP w K v
 intro i v a
 by_cases hi:i < (xs 2).length
 ·rw [getElem?_append_left hi] at a
  exact h.pr i v a
 rw [getElem?_append_right (by omega)] at a
 exact c v (mem_of_getElem? a)
