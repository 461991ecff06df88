import Derived.Test.YtapabahhfanmmaaGreatDoorCRCopy
namespace Go.Proofs.YtapabahhfanmmaaGreatDoor
open Go.RowKit List
set_option maxHeartbeats 4000000
abbrev dH (v:Value)(d:List UInt8):Gf:=fun k=>if k=LOG then some (v,d) else none
abbrev cP (b e c f a d:Nat):List Nat:=[b,e,c,f,a,d]
structure LX (w:World) (lb xb pb cap:Nat) (S:List Nat) (mv stv v:Value) (yb gb qb cap2:Nat) (fst:Int) (tv kv:Value) (told marks:List Value) (t:T) (log:List UInt8) (steps:List Stp):Prop where
 h:w.heap[lb]?=some (.cells #[.pointer (so xb),.pointer (so yb),.slice none 0 0,ii fst,tv,kv] 139)
 rs:RS w xb pb cap S t mv stv (dH v log) steps
 y:YR w yb gb qb cap2 t log
 tl:w.ownsRow 0 9 1 tv told.length told
 mr:∃ m,w.ownsRow 0 194 3 kv m marks/\0 < m
 mi:∀ k,k < marks.length->∃ n,marks[k]?=some (ii n)
 te:0 < told.length
 gg:GG t
 tn:t.turn<=1000000000
 dd:∃ s,eL [] steps=some [⟨LOG,log,s⟩]
 fm:∀ s∈steps,kE s
 s0:0 < steps.length
 nd:(cP lb xb pb yb gb qb).Nodup
 ns:∀ b∈S,b∉cP lb xb pb yb gb qb
 nt:∀ b,tv.ownBlock=some b->b∉cP lb xb pb yb gb qb/\b∉S/\kv.ownBlock≠some b
 nk:∀ b,kv.ownBlock=some b->b∉cP lb xb pb yb gb qb/\b∉S
abbrev aU (c f d:Nat)(S:List Nat)(g a e:Nat)(tv b:Value):List Nat:=cP c f d g a e ++ (S ++ (tv.ownBlock.toList ++ b.ownBlock.toList))
structure LR (w:World) (r:Value) (L:List Nat) (N:Nat):Prop where
  ex:∃ lb xb pb cap S mv stv v yb gb qb cap2 fst tv kv told marks t log steps,r=.pointer (so lb)/\LX w lb xb pb cap S mv stv v yb gb qb cap2 fst tv kv told marks t log steps/\L=aU lb xb pb S yb gb qb tv kv/\told.length<=N+1/\marks.length<=3*N+3/\steps.length<=3*N+3/\log.length<=41000*(N+1)
theorem LX.fr {Z:List Nat}{w z:World}{l r o g:Nat}{S:List Nat}{x q v:Value}{s j p d:Nat}{i:Int}{tv u:Value}{e a:List Value}{t:T}{n:List UInt8}{c:List Stp}(h:LX w l r o g S x q v s j p d i tv u e a t n c)(k:Fr Z w z)(hs:∀ b∈aU l r o S s j p tv u,b∉Z):LX z l r o g S x q v s j p d i tv u e a t n c:=by
 have f:∀ b∈cP l r o s j p,b∉Z:=fun b hb=>hs b (mem_append_left _ hb)
 refine { h with h:=k.heap h.h (f l (by simp)),rs:=h.rs.fr k (f r (by simp)) (f o (by simp)) (fun b hb=>hs b (by simp [hb])),y:=h.y.fr k (f s (by simp)) (f j (by simp)) (f p (by simp)),tl:=fZ h.tl k (fun b hb=>hs b (by simp [hb])),mr:=?_ }
 obtain ⟨m,hm,A⟩:=h.mr
 exact ⟨m,fZ hm k (fun b hb=>hs b (by simp [hb])),A⟩
theorem LX.fr0 {w p:World}{l q n e:Nat}{S:List Nat}{m i v:Value}{r j o c:Nat}{f:Int}{tv k:Value}{d a:List Value}{t:T}{g:List UInt8}{b:List Stp}(h:LX w l q n e S m i v r j o c f tv k d a t g b)(s:Fr [] w p):LX p l q n e S m i v r j o c f tv k d a t g b:=h.fr s (by simp)
theorem LX.lt {w:World}{n r o f:Nat}{S:List Nat}{u j v:Value}{s k p d:Nat}{g:Int}{tv l:Value}{e a:List Value}{t:T}{i:List UInt8}{c:List Stp}(h:LX w n r o f S u j v s k p d g tv l e a t i c):∀ b∈aU n r o S s k p tv l,b < w.heap.size:=fun b hb=>by
 rcases mem_append.1 hb with q|q
 ·simp only [mem_cons,not_mem_nil,or_false] at q
  rcases q with rfl|rfl|rfl|rfl|rfl|rfl
  ·exact aH h.h
  ·exact h.rs.lt
  ·exact h.rs.row.lt
  ·exact aH h.y.h
  ·exact h.y.rg.lt
  exact h.y.rg.row.lt
 rcases mem_append.1 q with q|q
 ·exact h.rs.sve.lt b q
 rcases mem_append.1 q with q|q
 ·exact (h.tl.lt b (by simpa using q)).2
 obtain ⟨m,hm,_⟩:=h.mr
 exact (hm.lt b (by simpa using q)).2
theorem LR.lt {w:World}{r:Value}{L:List Nat}{N:Nat}(h:LR w r L N):∀ b∈L,b < w.heap.size:=by
 obtain ⟨m,q,o,f,S,n,j,v,s,k,p,d,g,tv,l,e,a,t,i,c,_,hx,rfl,_⟩:=h.ex
 exact hx.lt
theorem LR.fr {Z:List Nat}{w k:World}{r:Value}{L:List Nat}{N:Nat}(h:LR w r L N)(n:Fr Z w k)(hs:∀ b∈L,b∉Z):LR k r L N:=by
 obtain ⟨⟨p,x,s,f,S,q,j,v,y,l,u,d,g,tv,o,e,a,t,i,c,h1,hx,rfl,m⟩⟩:=h
 exact ⟨⟨p,x,s,f,S,q,j,v,y,l,u,d,g,tv,o,e,a,t,i,c,h1,hx.fr n hs,rfl,m⟩⟩
theorem LR.fr0 {w a:World}{r:Value}{L:List Nat}{N:Nat}(h:LR w r L N)(b:Fr [] w a):LR a r L N:=h.fr b (by simp)
theorem LR.more {w:World}{r:Value}{L:List Nat}{N M:Nat}(h:LR w r L N)(hm:N<=M):LR w r L M:=by
 obtain ⟨⟨m,q,o,e,S,n,i,v,s,j,p,c,f,tv,l,d,a,t,g,b,h1,hx,k,u,x,y,z⟩⟩:=h
 exact ⟨⟨m,q,o,e,S,n,i,v,s,j,p,c,f,tv,l,d,a,t,g,b,h1,hx,k,by omega,by omega,by omega,by omega⟩⟩
structure RR (w:World) (bb:Nat) (L K:List Nat) (N:Nat) (r':Value) (w':World):Prop where
 ex:∃ L' K',LR w' r' L' (N+1)/\Bk w' bb K' (2*(N+1))/\(∀ x∈L',x∈L\/w.heap.size<=x)/\(∀ x∈K',x∈K\/w.heap.size<=x)/\(∀ x∈L',x≠bb/\x∉K')
 fr:Fr (bb :: (L ++ K)) w w'
structure QI (w0:World) (bb N:Nat) (g h:Value) (wr:World):Prop where
 ex:∃ L1 L2 K,LR wr g L1 N/\LR wr h L2 N/\Bk wr bb K (2*N)/\(∀ x∈L1,x∉L2)/\(∀ x∈L1,x≠bb/\x∉K)/\(∀ x∈L2,x≠bb/\x∉K)/\(∀ x∈L1,w0.heap.size<=x)/\(∀ x∈L2,w0.heap.size<=x)/\(∀ x∈K,w0.heap.size<=x)/\w0.heap.size<=bb
 fr:Fr [] w0 wr
theorem QI.swap {w0:World}{i N:Nat}{g h:Value}{wr:World}(H:QI w0 i N g h wr):QI w0 i N h g wr:=by
 obtain ⟨⟨j,o,K,a,b,c,d,e,f,k,l,m,n⟩,q⟩:=H
 exact ⟨⟨o,j,K,b,a,c,fun x h1 p=>d x p h1,f,e,l,k,m,n⟩,q⟩
theorem QI.more {w0:World}{d N M:Nat}{g h:Value}{wr:World}(H:QI w0 d N g h wr)(hm:N<=M):QI w0 d M g h wr:=by
 obtain ⟨⟨e,f,K,a,b,c,r⟩,i⟩:=H
 exact ⟨⟨e,f,K,a.more hm,b.more hm,c.more (by omega),r⟩,i⟩
theorem QI.then0 {w0:World}{e N:Nat}{g h:Value}{wr f:World}(H:QI w0 e N g h wr)(d:Fr [] wr f):QI w0 e N g h f:=by
 obtain ⟨⟨i,j,K,a,b,c,r⟩,k⟩:=H
 exact ⟨⟨i,j,K,a.fr0 d,b.fr0 d,c.fr0 d,r⟩,k.then0 d⟩
theorem QI.goes {w0:World}{i N:Nat}{g h:Value}{wr:World}(H:QI w0 i N g h wr):∃ L K,LR wr g L N/\Bk wr i K (2*N)/\(∀ x∈L,x≠i/\x∉K)/\(∀ x∈L,w0.heap.size<=x)/\∀ p r,RR wr i L K N p r->QI w0 i (N+1) p h r:=by
 obtain ⟨⟨s,t,K,a,b,c,d,e,f,k,l,m,n⟩,v⟩:=id H
 refine ⟨s,K,a,c,e,k,fun p r hs=>?_⟩
 obtain ⟨⟨z,K',C,D,w,y,E⟩,o⟩:=hs
 have B:=v.size
 have u:=b.lt
 have q:∀ x∈t,x∉i :: (s ++ K):=fun x hx hm=>by
  rcases mem_cons.1 hm with h1|h1
  ·exact (f x hx).1 h1
  rcases mem_append.1 h1 with h1|h1
  ·exact d x h1 hx
  exact (f x hx).2 h1
 refine ⟨⟨z,t,K',C,(b.fr o q).more (by omega),D,fun x hx j=>?_,E,fun x hx=>⟨(f x hx).1,fun A=>?_⟩,fun x hx=>?_,l,fun x hx=>?_,n⟩,?_⟩
 ·rcases w x hx with h1|h1
  ·exact d x h1 j
  have:=u x j;omega
 ·rcases y x A with h1|h1
  ·exact (f x hx).2 h1
  have:=u x hx;omega
 ·rcases w x hx with h1|h1
  ·exact k x h1
  omega
 ·rcases y x hx with h1|h1
  ·exact m x h1
  omega
 refine v.trans o (fun x hx=>.inr ?_)
 rcases mem_cons.1 hx with rfl|h1
 ·exact n
 rcases mem_append.1 h1 with h1|h1
 ·exact k x h1
 exact m x h1
theorem QI.book {w0:World}{d N:Nat}{g h:Value}{wr:World}(H:QI w0 d N g h wr):∃ K,Bk wr d K (2*N):=by
 obtain ⟨⟨e,f,K,a,b,c,_⟩,_⟩:=H
 exact ⟨K,c⟩
set_option maxRecDepth 100000
theorem KO (a c:Nat)(b:ByteArray)(w:World)(f:w.cell? ⟨a,0,none⟩=some (.string ⟨#[108,111,103]⟩))(g:w.cell? ⟨a,1,none⟩=some (.string b)) :
  Cs 71 #[.slice (so a) 1 c] w fun e d=>e=.returned (.tuple #[.string b,.bool true])/\w=d:=by
 go_enter Tryz.func71,Tryz.ntmps71
 go_wp2_with fail
 go_loopw [4] (fun i wr=>i=.int .i64 0/\w=wr) (fun _ _=>0)
 case atStart=>exact ⟨rfl,rfl⟩
 obtain ⟨rfl,rfl⟩:=hrel
 go_wp2_with fail
 go_ret2
 exact ⟨rfl,rfl⟩
theorem GM (a b:ByteArray)(w:World):(binOp BinOp.eql 115 (.agg #[.string a,.string b]) (.agg #[.string a,.string b])).run Tryz.prog w=.ok (.bool true) w:=by
  simp [go_sem]
theorem nA:∀ (l:List Stp) (i j:Nat) (s:Stp),l[i]?=some s->j < 4->(l.flatMap Stp.cells)[i*4+j]?=s.cells[j]?
 | [],i,j,f,h,_=>by simp at h
 | c :: l,0,j,f,h,a=>by
  have:c=f:=by simpa using h
  subst this
  rw [flatMap_cons,getElem?_append_left (by simp;omega),Nat.zero_mul,Nat.zero_add]
 | c :: l,i+1,j,f,h,a=>by
  rw [flatMap_cons,getElem?_append_right (by simp;omega)]
  have:=nA l i j f (by simpa using h) a
  rw [show (i+1)*4+j - c.cells.length=i*4+j by simp;omega]
  exact this
structure DI (w:World) (db:Nat) (steps:List Stp) (k:Nat) (wr:World):Prop where
 ex:∃ D,eL [] (steps.take k)=some D/\DK wr w.heap.size db D
 fr:Fr [db] w wr
theorem jK {X xb pb aj:Nat}{S:List Nat}{mv cf v:Value}{yb gb qb H:Nat}{bf:Int}{tv kv:Value}{ah M:List Value}{t:T}{L:List UInt8}{a:List Stp}(w:World)(h:LX w X xb pb aj S mv cf v yb gb qb H bf tv kv ah M t L a)(cu:a.length<=10000000) :
  Cs 31 #[.pointer (so X)] w fun e c=>e=.returned (.bool true)/\Fr [] w c:=by
 have c0:ca w X 0 (.pointer (so xb)):=aB h.h
 have HX:Hi (∀ c,Fr [] w c->LX c X xb pb aj S mv cf v yb gb qb H bf tv kv ah M t L a):=fun c m=>h.fr0 m
 obtain ⟨sf,cb⟩:=h.dd
 have bu:=h.fm
 have bz:=h.s0
 have bw:=h.gg
 have cd:=h.tn
 have ay:=(show Hi _ from yY w h.rs)
 have az:=aA bu
 have ax:=aA cb
 have p:=aA bw
 obtain ⟨P,br⟩:∃ x:ByteArray,x=⟨L.toArray⟩:=⟨_,rfl⟩
 have ai:=aA br
 clear h bu cb bw br
 go_enter Tryz.func31,Tryz.ntmps31
 go_wp2_with fail
 refine Calls.mono ay.o ?_
 rintro e w1 ⟨v1,rfl,z,ap⟩
 have z:w1.ownsRow w.heap.size 115 2 v1 1 [sv LOG,sv L]:=z
 obtain ⟨d,fc,rfl⟩:=bK z (by omega)
 have aq:=z.cells (g:=d) rfl
 have q0:w1.cell? ⟨d,0,none⟩=some (.string ⟨#[108,111,103]⟩):=by have:=aq 0 _ rfl;rwa [Addr.add_lit,Nat.zero_add] at this
 have q1:w1.cell? ⟨d,1,none⟩=some (.string P):=by have:=aq 1 _ rfl;rw [Addr.add_lit,Nat.zero_add] at this;rw [ai.o];exact this
 have ad:=(z.lt d rfl).2
 have Q:=HX.o w1 ap
 have c1:ca w1 X 1 (.pointer (so yb)):=aB Q.h
 have c2:ca w1 X 2 (.slice none 0 0):=aB Q.h
 have y1:w1.cell? ⟨yb,1,none⟩=some (.string P):=by rw [ai.o];exact aB Q.y.h
 have bc:=(show Hi _ from KO d fc P w1 q0 q1)
 clear ay z aq Q c0
 go_wp2_with fail
 refine Calls.mono bc.o ?_
 rintro e dl ⟨rfl,rfl⟩
 clear bc
 go_wp2_with fail
 refine Calls.mono (LH none 0 w1) ?_
 rintro e w2 ⟨O,rfl,ao,da,R⟩
 have ab:=ap.then0 R
 have am:=HX.o w2 ab
 have d0:ca w2 X 0 (.pointer (so xb)):=aB am.h
 have be:=(show Hi _ from oT w2 am.rs cu bz)
 clear c1 c2 y1 am
 go_wp2_with fail
 refine Calls.mono be.o ?_
 rintro e E ⟨v3,rfl,V,J⟩
 obtain ⟨N,sc,rfl⟩:=bK V bz
 have bs:=ab.then0 J
 have bd:Hi (∀ (i:Nat) (s:Stp),a[i]?=some s->E.cell? ⟨N,i*4,none⟩=some (ii s.what)/\E.cell? ⟨N,i*4+1,none⟩=some (sv s.name)/\E.cell? ⟨N,i*4+2,none⟩=some (sv s.to)/\E.cell? ⟨N,i*4+3,none⟩=some (sv s.data)):=fun i s hi=>by
  have hc:=V.cells (g:=N) rfl
  have k0:=hc _ _ (nA a i 0 s hi (by omega))
  have k1:=hc _ _ (nA a i 1 s hi (by omega))
  have k2:=hc _ _ (nA a i 2 s hi (by omega))
  have k3:=hc _ _ (nA a i 3 s hi (by omega))
  rw [Addr.add_lit,Nat.zero_add] at k0 k1 k2 k3
  exact ⟨k0,k1,k2,k3⟩
 have ct:=V.lt N rfl
 have dc:=aH ao
 have bl:DI E O a 0 E:=⟨⟨[],rfl,DK.start (J.heap0 ao)⟩,r0 _ _⟩
 have bb:=aA bl
 have dh:=ap.size
 have di:=R.size
 have dj:=J.size
 have de:d≠O:=by omega
 have dk:N≠O:=by omega
 have cm:Hi (E.cell? ⟨d,0,none⟩=some (.string ⟨#[108,111,103]⟩)):=((R.then0 J).cell d 0 ad (by simp)).trans q0
 have cn:Hi (E.cell? ⟨d,1,none⟩=some (.string P)):=((R.then0 J).cell d 1 ad (by simp)).trans q1
 clear be V ao d0 bl q0 q1
 go_wp2_with fail
 go_loopw [8] (fun i wr=>∃ k:Nat,k<=a.length/\i=.int .i64 k/\DI E O a k wr) (fun i _=>a.length - (intOf i).toNat)
 case atStart=>exact ⟨0,Nat.zero_le _,rfl,bb.o⟩
 clear bb
 obtain ⟨k,hk,rfl,hI⟩:=hrel
 by_cases Zs:k < a.length
 ·have ag:(k:Int) < (a.length:Int):=by omega
  obtain ⟨s,hs⟩:∃ s,a[k]?=some s:=⟨_,getElem?_eq_getElem Zs⟩
  obtain ⟨⟨D,hD,I⟩,q⟩:=hI
  obtain ⟨D',bg,bh⟩:=FY hs hD ax.o
  obtain ⟨b1,b2⟩:=uQ (a.take k) [] D 0 hD (by simp) (fun x hx=>(az.o x (mem_of_mem_take hx)).2)
  have cs:(a.take k).length<=10000000:=by simp;omega
  have CD:=FQ E.heap.size O D D' s wr I (by simp at b1;omega) (az.o s (mem_of_getElem? hs)) (fun f m=>by have:=b2 f m;omega) bg
  obtain ⟨k0,k1,k2,k3⟩:=bd.o k s hs
  have cc:∀ o u,E.cell? ⟨N,o,none⟩=some u->wr.cell? ⟨N,o,none⟩=some u:=fun o u hu=>(q.cell N o ct.2 (by simp;omega)).trans hu
  have g0:=cc _ _ k0
  have g1:=cc _ _ k1
  have g2:=cc _ _ k2
  have g3:=cc _ _ k3
  obtain ⟨wh,nm,cw,dt⟩:=s
  obtain ⟨A,hA⟩:∃ x:ByteArray,x=⟨nm.toArray⟩:=⟨_,rfl⟩
  obtain ⟨B,hB⟩:∃ x:ByteArray,x=⟨cw.toArray⟩:=⟨_,rfl⟩
  obtain ⟨C,hC⟩:∃ x:ByteArray,x=⟨dt.toArray⟩:=⟨_,rfl⟩
  dsimp only [lQ,sv] at g0 g1 g2 g3 CD
  rw [<- hA] at g1 CD
  rw [<- hB] at g2 CD
  rw [<- hC] at g3 CD
  have aw:=aA CD
  have ch:=aA bh
  have cj:=aA q
  clear CD hA hB hC hD I bg bh b1 b2 cc k0 k1 k2 k3 hs cs
  go_wp2_with fail
  refine Calls.mono aw.o ?_
  rintro e w4 ⟨rfl,bi,S4,cp,co⟩
  have bm:DI E O a (k+1) w4:=⟨⟨D',ch.o,bi⟩,cj.o.trans co (fun b hb=>(cp b hb).imp_left (fun e=>by simp [e]))⟩
  have ck:=aA bm
  clear aw bi bm g0 g1 g2 g3
  go_wp2_with fail
  go_roundw
  case rel=>exact ⟨k+1,Zs,by go_num,ck.o⟩
  case measure=>simp [intOf];omega
 have ag:¬ (k:Int) < (a.length:Int):=by omega
 have bx:a.take k=a:=take_of_length_le (by omega)
 obtain ⟨⟨D,hD,I⟩,q⟩:=hI
 rw [bx,ax.o] at hD
 cases hD
 obtain ⟨n,ce,cy,cz,r0,_,r2,r3,_⟩:=I.at (k:=0) (f:=⟨LOG,L,sf⟩) rfl
 have Y:ca wr O 0 (.slice (so n) 1 ce):=r0
 have aa:ca wr n 0 (.string ⟨#[108,111,103]⟩):=r2
 have Zr:wr.cell? ⟨n,1,none⟩=some (.string P):=by rw [ai.o];exact r3
 have x0:wr.cell? ⟨d,0,none⟩=some (.string ⟨#[108,111,103]⟩):=(q.cell d 0 (by omega) (by simp;omega)).trans cm.o
 have x1:wr.cell? ⟨d,1,none⟩=some (.string P):=(q.cell d 1 (by omega) (by simp;omega)).trans cn.o
 have bj:Fr [] w wr:=bs.trans q (by simp;omega)
 have df:=GM ⟨#[108,111,103]⟩ P
 clear r0 r2 r3 I bx bd
 go_wp2_with fail
 obtain ⟨W5,bo⟩:∃ x,x=wr:=⟨_,rfl⟩
 rw [<- bo] at Y aa Zr x0 x1 bj |-
 have af:=aI aa
 have bq:=aI Y
 have ac:=aI x0
 have cg:Hi (∀ W,Fr [] W5 W->W.cell? ⟨O,0,none⟩=some (.slice (so n) 1 ce)/\W.cell? ⟨n,0,none⟩=some (.string ⟨#[108,111,103]⟩)/\W.cell? ⟨n,1,none⟩=some (.string P)/\W.cell? ⟨d,0,none⟩=some (.string ⟨#[108,111,103]⟩)/\W.cell? ⟨d,1,none⟩=some (.string P)):=fun W m=>⟨(m.cell O 0 bq (by simp)).trans Y,(m.cell n 0 af (by simp)).trans aa,(m.cell n 1 af (by simp)).trans Zr,(m.cell d 0 ac (by simp)).trans x0,(m.cell d 1 ac (by simp)).trans x1⟩
 clear bo q Y aa Zr x0 x1 ag hk
 go_loopw [10] (fun i av=>(i=.int .i64 0\/i=.int .i64 1)/\Fr [] W5 av) (fun i _=>1 - (intOf i).toNat)
 case atStart=>exact ⟨.inl rfl,r0 _ _⟩
 obtain ⟨hi,ak⟩:=hrel
 rcases hi with rfl|rfl
 ·go_wp2_with fail
  obtain ⟨W6,bp⟩:∃ x,x=wr:=⟨_,rfl⟩
  rw [<- bp] at ak |-
  clear bp
  go_loopw [11,12] (fun b j av=>((b=.bool false/\j=.int .i64 0)\/(b=.bool true/\j=.int .i64 1))/\Fr [] W5 av) (fun _ j _=>1 - (intOf j).toNat)
  case atStart=>exact ⟨.inl ⟨rfl,rfl⟩,ak⟩
  obtain ⟨cq,al⟩:=hrel
  obtain ⟨m0,m1,m2,m3,m4⟩:=cg.o wr al
  rcases cq with ⟨rfl,rfl⟩|⟨rfl,rfl⟩
  ·go_wp2_with fail
   go_quiet (fail)
   go_wp2_with fail
   go_roundw
   case rel=>exact ⟨.inr ⟨rfl,by go_num⟩,al.drewN _⟩
   case measure=>simp [intOf]
  go_wp2_with fail
  go_quiet (fail)
  go_wp2_with fail
  go_roundw
  case rel=>exact ⟨.inr (by go_num),al.drewN _⟩
  case measure=>simp [intOf]
 have bk:=bj.then0 ak
 have an:=HX.o wr bk
 have n0:ca wr X 0 (.pointer (so xb)):=aB an.h
 have ba:=(show Hi _ from zA wr an.rs)
 clear an
 go_wp2_with fail
 refine Calls.mono ba.o ?_
 rintro e w6 ⟨g6,rfl,dg,ae,cr⟩
 have r:=bk.then0 cr
 have CT:Hi (∀ c,Fr [] w6 c->Cs 15 #[.pointer (so g6)] c fun e au=>e=.returned (.string ⟨(bH t).toArray⟩)/\Fr [] c au):=fun c m=>UG g6 pb aj t c (ae.fr m (by simp) (by simp)) (mP p.o.ok p.o.os ⟨p.o.t0,cd⟩) p.o.ok.len
 have CR:Hi (∀ c,Fr [] w6 c->Cs 57 #[.pointer (so gb)] c fun e au=>e=.returned (.string ⟨(bH t).toArray⟩)/\Fr [] c au):=fun c m=>oY gb qb H t c (HX.o c (r.then0 m)).y.rg p.o.ok p.o.os ⟨p.o.t0,cd⟩
 obtain ⟨TX,bn⟩:∃ x:ByteArray,x=⟨(bH t).toArray⟩:=⟨_,rfl⟩
 rw [<- bn] at CT CR
 have HS:∀ c,Fr [] w6 c->(fun c:World=>(ca c X 1 (.pointer (so yb))/\ca c yb 0 (.pointer (so gb)))/\Fr [] w6 c) c:=fun c m=>⟨⟨aB (HX.o c (r.then0 m)).h,aB (HX.o c (r.then0 m)).y.h⟩,m⟩
 have K0:=HS w6.drew ((r0 _ _).drew)
 clear ba ae bn n0
 go_wp2_with fail
 refine rg 16 HS K0 fun l=>?_
 iterate 4 (refine tn 16 l ?_;try simp only [Act.put,Z])
 refine ta 5 l ?_;try simp only [Act.put,Z]
 refine ta 6 l ?_;try simp only [Act.put,Z]
 refine ta 7 l ?_;try simp only [Act.put,Z]
 refine ta 8 l ?_;try simp only [Act.put,Z]
 refine ta 9 l ?_;try simp only [Act.put,Z]
 refine ta 10 l ?_;try simp only [Act.put,Z]
 refine ta 11 l ?_;try simp only [Act.put,Z]
 refine rd 4 fun K hK=>?_
 have F:=aA hK
 clear hK
 go_simp
 refine Calls.mono (CT.o _ l.2) ?_
 rintro e dm ⟨rfl,bt⟩
 have bv:=l.2.then0 bt
 clear l
 refine F.o _ _ (HS _ bv) (fun l=>?_)
 clear F K;try simp only [Act.put,Z]
 refine rd 12 fun K hK=>?_
 have F:=aA hK
 clear hK
 go_simp
 refine Calls.mono (CR.o _ l.2) ?_
 rintro e cx ⟨rfl,ar⟩
 have Zq:=l.2.then0 ar
 clear l
 refine F.o _ _ (HS _ Zq) (fun l=>?_)
 clear F K;try simp only [Act.put,Z]
 iterate 3 (refine tn 16 l ?_;try simp only [Act.put,Z])
 refine wpAnyH_done (by kernel_rfl) ?_ _
 go_wp2_with fail
 go_ret
 exact ⟨rfl,r.then0 l.2⟩
