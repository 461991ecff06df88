import Derived.Test.YtapabahhfanmmaaGreatDoorCOrds
import Derived.Test.YtapabahhfanmmaaGreatDoorCReadU
import Derived.Laws.IdiomStrings
namespace Go.Proofs.YtapabahhfanmmaaGreatDoor
open Go.RowKit List
set_option maxRecDepth 100000
set_option maxHeartbeats 8000000
abbrev U.nums (u:U):List Int:=[u.id,u.owner,u.kind,u.x,u.y,u.life,u.load,u.what,u.tox,u.toy,u.target]
def gX (t:T):List Int:=[t.turn,eA t.us,t.s0,t.s1,t.next]
def iR (t:T):List Int:=(range 144).map t.bd
def dP (us:List U):List Int:=us.flatMap U.nums
def cB (t:T):List Int:=gX t ++ (iR t ++ ((t.us.length:Int) :: dP t.us))
def bH (t:T):List UInt8:=aP (cB t)
theorem mA (t:T):(iR t).length=144:=by simp [iR]
theorem rR:∀ us:List U,(dP us).length=11*us.length
 | []=>rfl
 | u :: us=>by
  show (u.nums ++ dP us).length=_
  rw [length_append,rR us]
  simp
  omega
theorem oK (t:T):(cB t).length=150+11*t.us.length:=by
 unfold cB
 rw [length_append,length_append,mA,length_cons,rR]
 show 5+_=_
 omega
theorem UV (us:List U):0<=eA us/\eA us<=2:=by
 unfold eA
 split
 ·omega
 split <;> omega
theorem UN {t:T}(h:fI t)(ho:OS t){u:U}(g:u∈t.us):∀ x∈u.nums,0<=x/\x<=1000000000:=by
 have k:=h.all u g
 have d:=h.nx
 have aA:=k.id
 have o:=k.ow
 have i:=k.kd
 have l:=k.lf
 have j:=k.ld
 have e:=k.od
 obtain ⟨o1,w,y,z⟩:=bM.1 k.on
 have m:cT u.kind<=40:=by unfold cT;split;omega;split <;> omega
 dsimp only at aA d
 have n:(0<=u.what/\u.what<=4)/\(0<=u.tox/\u.tox<=1000000000)/\(0<=u.toy/\u.toy<=1000000000)/\(0<=u.target/\u.target<=1000000000):=by
  unfold iQ at e
  rcases ho u g with ⟨b,a,c,f⟩|⟨b,a,c,f⟩|⟨b,a,c,f,p,q⟩|⟨b,a,c⟩
  ·omega
  ·obtain ⟨b1,r,s,v⟩:=bM.1 a
   omega
  ·omega
  omega
 intro x hx
 simp only [mem_cons,not_mem_nil,or_false] at hx
 rcases hx with rfl|rfl|rfl|rfl|rfl|rfl|rfl|rfl|rfl|rfl|rfl <;> omega
theorem mP {t:T}(h:fI t)(ho:OS t)(ht:0<=t.turn/\t.turn<=1000000000):∀ x∈cB t,0<=x/\x<=1000000000:=by
 have b:=h.nx
 have c:=h.st
 have f:=UV t.us
 have a:=h.len
 dsimp only at b c a
 intro x hx
 unfold cB at hx
 rcases mem_append.1 hx with hx|hx
 ·unfold gX at hx
  simp only [mem_cons,not_mem_nil,or_false] at hx
  rcases hx with rfl|rfl|rfl|rfl|rfl <;> omega
 rcases mem_append.1 hx with hx|hx
 ·obtain ⟨j,d,rfl⟩:=mem_map.1 hx
  have:=h.bd j (mem_range.1 d)
  dsimp only at this
  omega
 rcases mem_cons.1 hx with rfl|hx
 ·omega
 obtain ⟨u,e,hx⟩:=mem_flatMap.1 hx
 exact UN h ho e x hx
theorem JG:(Tryz.prog.info? 5).map (fun i=>(i.zero,i.size,i.bytes))=some (some (.int .u8 0),1,1):=by kernel_rfl
abbrev ob (v:Value):List Nat:=v.ownBlock.toList
structure ApI (w:World) (base:Nat) (tv:Value) (l:List UInt8) (v:Value) (wr:World):Prop where
 own:wr.ownsRow base 5 1 v l.length (aZ l)
 fr:Fr (ob tv) w wr
 blk:v.ownBlock=tv.ownBlock\/∃ b,v.ownBlock=some b/\w.heap.size<=b
theorem ApI.start {w:World}{base:Nat}{tv:Value}{l:List UInt8}(h:w.ownsRow base 5 1 tv l.length (aZ l)):ApI w base tv l tv w:=⟨h,r0 _ _,.inl rfl⟩
theorem ApI.next {w:World} {base:Nat} {tv:Value} {l m:List UInt8} {v c:Value} {wr d f:World} (h:ApI w base tv l v wr) (i:Fr [] wr d) (hown:f.ownsRow base 5 1 c (l ++ m).length (aZ (l ++ m))) (a:d.grownBy f v.ownBlock)
  (hb:c.ownBlock=v.ownBlock\/c.ownBlock=some d.heap.size):ApI w base tv (l ++ m) c f:=by
 have hs:=h.fr.size
 have j:=i.size
 refine ⟨hown,(h.fr.then0 i).grow a (fun g a=>?_),?_⟩
 ·rcases h.blk with e|⟨b,e,hb⟩
  ·exact .inl (by rw [e] at a;simp [ob,a])
  rw [e] at a;cases a;exact .inr hb
 rcases hb with e|e
 ·rw [e];exact h.blk
 exact .inr ⟨_,e,by omega⟩
theorem xJ (x:Int)(W:World)(j:Nat)(u:Value)(a:[Value.int .u8 x][j]?=some u):(W.alloc (.cells #[.int .u8 x] 5)).cell? ((⟨W.heap.size,0,none⟩:Addr).add j)=some u:=by
 have b:j=0:=by
  have:=(gs.1 a).1
  simp at this
  exact this
 subst b
 rw [Addr.add_lit,aB (aC W _)]
 simpa using a
theorem xZ {w:World}{base:Nat}{v:Value}{l:List UInt8}{x:Int}{b:UInt8}(h:w.ownsRow base 5 1 v (l.length+1) (aZ l ++ [.int .u8 x]))(hb:gD b=.int .u8 x):w.ownsRow base 5 1 v (l ++ [b]).length (aZ (l ++ [b])):=by
 rw [pZ]
 show w.ownsRow base 5 1 v (l ++ [b]).length (aZ l ++ [gD b])
 rw [hb,length_append]
 exact h
theorem DF (base A no nc:Nat) (tv:Value) (l:List UInt8) (ns:List Int) (w:World) (hown:w.ownsRow base 5 1 tv l.length (aZ l)) (H:∀ n∈ns,0<=n/\n<=1000000000) (hc:∀ j (h:j < ns.length),w.cell? ⟨A,no+j,none⟩=some (ii ns[j]))
  (X:tv.ownBlock≠some A) (hl:l.length<=100000) (af:ns.length<=10000) (S:base<=w.heap.size) (Y:A < w.heap.size) :
  Cs 79 #[tv,.slice (some ⟨A,no,none⟩) ns.length nc] w fun e w' =>
   ∃ v,e=.returned v/\ApI w base tv (l ++ aP ns) v w':=by
 obtain ⟨O,D,K,M,N⟩:=info_parts JG
 have HC:=aA hc
 have C:=aA H
 have Q:=aA hown
 clear hc H hown
 have ad:=aA S
 have P:Hi (∀ (wr:World) (v:Value) (m:List UInt8),ApI w base tv m v wr->∀ j (h:j < ns.length),wr.cell? ⟨A,no+j,none⟩=some (ii ns[j])):=fun wr v m d j hj=>by
  rw [d.fr.cell A _ Y (by simp [ob];exact X)]
  exact HC.o j hj
 go_enter Tryz.func79,Tryz.ntmps79
 go_wp2_with fail
 go_loopw [0,9] (fun v i wr=>∃ k:Nat,k<=ns.length/\i=.int .i64 k/\ApI w base tv (l ++ aP (ns.take k)) v wr) (fun _ i _=>ns.length - (intOf i).toNat)
 case atStart=>exact ⟨0,Nat.zero_le _,rfl,by rw [take_zero,qO,append_nil];exact ApI.start Q.o⟩
 obtain ⟨k,hk,rfl,d⟩:=hrel
 by_cases s:k < ns.length
 ·have F:(k:Int) < (ns.length:Int):=by omega
  have p:=P.o wr _ _ d k s
  obtain ⟨t,y,W⟩:∃ t:Nat,ns[k]=(t:Int)/\t<=1000000000:=by
   have:=C.o ns[k] (getElem_mem s)
   exact ⟨ns[k].toNat,by omega,by omega⟩
  have E:(l ++ aP (ns.take k)).length<=150000:=by
   have:=gV (ns.take k) (fun n hn=>(C.o n (mem_of_mem_take hn)).2)
   rw [length_append]
   simp at this
   omega
  have B:Hi (l ++ aP (ns.take (k+1))=(l ++ aP (ns.take k)) ++ bL t):=by
   show _=_
   rw [take_succ_eq_append_getElem s,jD,y,append_assoc]
   simp [aP]
  rw [y] at p
  obtain ⟨L,hL⟩:∃ L,L=l ++ aP (ns.take k):=⟨_,rfl⟩
  rw [<- hL] at d E B
  have f:=aA d
  clear hL y d
  go_wp2_with fail
  obtain ⟨wo,J⟩:∃ x,x=wr:=⟨_,rfl⟩
  rw [<- J] at f |-
  clear J p
  go_loopw [0,6] (fun v i wr=>∃ (m:Nat) (a:List UInt8),i=.int .i64 m/\m<=1000000000/\a.length<=10/\Hi (a ++ bL m=bL t)/\ApI w base tv (L ++ a) v wr) (fun _ i _=>(intOf i).toNat)
  case atStart=>exact ⟨t,[],rfl,W,by simp,rfl,by rw [append_nil];exact f.o⟩
  obtain ⟨m,a,rfl,hm,ah,r,d⟩:=hrel
  by_cases ac:128<=m
  ·have R:¬ (m:Int) < 128:=by omega
   have ae:(128:Int)<=(m:Int):=by omega
   obtain ⟨q,hq⟩:∃ q:Nat,(m:Int) % 128=q:=⟨m % 128,by omega⟩
   have aa:q < 128:=by omega
   have ag:=xU q aa
   have f:=aA d
   clear d
   have u:Hi ((wr.alloc (.cells #[.int .u8 ((q:Int)+128)] 5)).ownsRow base 5 1 u0 (L ++ a).length (aZ (L ++ a))):=aF f.o.own ((r0 [] wr).alloc _) (by simp)
   have ab:=f.o.fr.size
   have V:(L ++ a).length<=160000:=by rw [length_append];omega
   have HQ:=aA hq
   go_wp2_with (at_builtin;refine wpList_append_own_at _ rfl _ _ 168 rfl base 5 O (.int .u8 0) 1 1 Tryz.underlying168 D K M N rfl (by decide) u0 (L ++ a).length (aZ (L ++ a)) rfl u.o ⟨wr.heap.size,0,none⟩ 1 1 [.int .u8 ((q:Int)+128)] rfl rfl (xJ _ wr) (by simp [Value.oneCell']) (by unfold maxLen;omega) (by omega) (by simp;omega) ?_;intro v' w3 c b z g)
   go_roundw
   case rel =>
    have I:q=m % 128:=by have:=HQ.o;omega
    refine ⟨m / 128,a ++ [UInt8.ofNat (q+128)],by go_num,by omega,?_,?_,?_⟩
    ·have h1:(a ++ bL m).length<=5:=by rw [r.o];exact iL 5 t (by omega) (by omega)
     have h2:=oI m
     rw [length_append] at h1 |-
     simp
     omega
    ·show a ++ [UInt8.ofNat (q+128)] ++ bL (m / 128)=bL t
     rw [<- r.o,lJ (n:=m) (by omega),I,append_assoc]
     rfl
    rw [<- append_assoc]
    exact f.o.next ((r0 [] wr).alloc _) (xZ c (by rw [I,uI];rfl)) b g
   case measure=>simp [intOf];omega
  have R:(m:Int) < 128:=by omega
  have f:=aA d
  clear d
  have u:Hi ((wr.alloc (.cells #[.int .u8 (m:Int)] 5)).ownsRow base 5 1 u0 (L ++ a).length (aZ (L ++ a))):=aF f.o.own ((r0 [] wr).alloc _) (by simp)
  have ab:=f.o.fr.size
  have V:(L ++ a).length<=160000:=by rw [length_append];omega
  go_wp2_with (at_builtin;refine wpList_append_own_at _ rfl _ _ 168 rfl base 5 O (.int .u8 0) 1 1 Tryz.underlying168 D K M N rfl (by decide) u0 (L ++ a).length (aZ (L ++ a)) rfl u.o ⟨wr.heap.size,0,none⟩ 1 1 [.int .u8 (m:Int)] rfl rfl (xJ _ wr) (by simp [Value.oneCell']) (by unfold maxLen;omega) (by omega) (by simp;omega) ?_;intro v' w3 c b z g)
  go_roundw
  case rel =>
   refine ⟨k+1,s,by go_num,?_⟩
   rw [B.o]
   have h1:bL t=a ++ [UInt8.ofNat m]:=by rw [<- r.o,kL (by omega)]
   rw [h1,<- append_assoc]
   exact f.o.next ((r0 [] wr).alloc _) (xZ c (uH m (by omega))) b g
  case measure=>simp [intOf];omega
 have F:¬ (k:Int) < (ns.length:Int):=by omega
 rw [take_of_length_le (by omega)] at d
 have f:=aA d
 clear d
 go_wp2_with fail
 go_ret
 exact ⟨_,rfl,f.o⟩
theorem NZ {w:World}{base:Nat}{v:Value}{l:List UInt8}(h:w.ownsRow base 5 1 v l.length (aZ l))(hl:0 < l.length):(convert 168 9 v).run Tryz.prog w=.ok (.string ⟨l.toArray⟩) w:=by
 rcases h.2 with ⟨_,b⟩|⟨g,a,cur,rfl,hb,d,h1,b,f,c⟩
 ·omega
 refine run_convert_bytes_back w 168 9 5 ⟨g,0,none⟩ a l Tryz.underlying168 Tryz.underlying5 Tryz.underlying9 (fun j e=>?_)
 rw [Addr.add_lit,Nat.zero_add,aB d]
 have:=congrArg (fun x:List Value=>x[j]?) c
 simp only [getElem?_take_of_lt (show j < l.length*1 by omega)] at this
 rw [<- Array.getElem?_toList,this]
 simp [aZ,gD,e]
theorem mR {w:World}{base n:Nat}{e:TypeId}{size:Nat}{v:Value}{xs:List Value}(h:w.ownsRow base e size v n xs){b:Nat}(hb:v.ownBlock=some b):b < w.heap.size:=by
 rcases h.2 with ⟨h1,_⟩|⟨g,a,cur,rfl,h1,c,_⟩
 ·rw [h1] at hb;simp [Value.ownBlock] at hb
 simp [Value.ownBlock] at hb
 subst hb
 exact aH c
structure TxtI (W1:World) (L:List UInt8) (v:Value) (w:World):Prop where
 own:w.ownsRow W1.heap.size 5 1 v L.length (aZ L)
 fr:Fr [] W1 w
theorem TxtI.fr0 {a:World}{L:List UInt8}{v:Value}{w c:World}(h:TxtI a L v w)(b:Fr [] w c):TxtI a L v c:=⟨aF h.own b (by simp),h.fr.then0 b⟩
theorem TxtI.append {c:World}{L:List UInt8}{v:Value}{w:World}(h:TxtI c L v w)(a m o:Nat)(ns:List Int)(k:∀ n∈ns,0<=n/\n<=1000000000)(q:∀ j (h:j < ns.length),w.cell? ⟨a,m+j,none⟩=some (ii ns[j]))(f:v.ownBlock≠some a)(hl:L.length<=100000)(g:ns.length<=10000)(l:a < w.heap.size) :
  Cs 79 #[v,.slice (some ⟨a,m,none⟩) ns.length o] w fun e p=>∃ b,e=.returned b/\TxtI c (L ++ aP ns) b p/\Fr (ob v) w p:=by
 refine Calls.mono (DF c.heap.size a m o v L ns w h.own k q f hl g h.fr.size l) ?_
 rintro e r ⟨b,rfl,d⟩
 refine ⟨b,rfl,⟨d.own,h.fr.trans d.fr (fun i hi=>.inr ?_)⟩,d.fr⟩
 have:v.ownBlock=some i:=by simpa [ob] using hi
 exact cG h.own this
theorem vE {ns:List Int}(h:∀ x∈ns,0<=x/\x<=1000000000){k:Nat}:(aP (ns.take k)).length<=5*ns.length:=by
 have:=gV (ns.take k) (fun n hn=>(h n (mem_of_mem_take hn)).2)
 have a:(ns.take k).length<=ns.length:=by simp;omega
 omega
theorem MI (t:T):(cB t).take 5=gX t:=by
 unfold cB
 rw [take_append_of_le_length (by show 5<=5;omega)]
 exact take_of_length_le (by show 5<=5;omega)
theorem rO (t:T)(m:Nat)(hm:m<=144):(cB t).take (5+m)=gX t ++ (iR t).take m:=by
 unfold cB
 have a:(gX t).length=5:=rfl
 rw [take_append,a,show 5+m - 5=m by omega,take_of_length_le (by omega),take_append_of_le_length (by rw [mA];exact hm)]
theorem tY (t:T)(m:Nat)(hm:m<=144):(iR t).take m=(range m).map t.bd:=by
 unfold iR
 rw [<- map_take,take_range,Nat.min_eq_left hm]
theorem ME (t:T)(y:Nat)(a:y < 12):(cB t).take (5+(y+1)*12)=(cB t).take (5+y*12) ++ (range 12).map (fun x=>t.bd (y*12+x)):=by
 rw [rO t _ (by omega),rO t _ (by omega),tY t _ (by omega),tY t _ (by omega),append_assoc,show (y+1)*12=y*12+12 by omega,range_add,map_append,map_map]
 rfl
theorem rP (t:T)(k:Nat):(cB t).take (150+11*k)=gX t ++ (iR t ++ ((t.us.length:Int) :: (dP t.us).take (11*k))):=by
 unfold cB
 have a:(gX t).length=5:=rfl
 rw [take_append,a,take_of_length_le (l:=gX t) (by omega),take_append,mA,take_of_length_le (l:=iR t) (by rw [mA];omega),show 150+11*k - 5 - 144=11*k+1 by omega,take_succ_cons]
theorem yK:∀ (us:List U) (k:Nat) (u:U),us[k]?=some u->(dP us).take (11*(k+1))=(dP us).take (11*k) ++ u.nums
 | [],_,_,h=>by simp at h
 | v :: us,0,u,h=>by
  have b:v=u:=by simpa using h
  subst b
  show (v.nums ++ dP us).take (11*(0+1))=_
  rw [take_append_of_le_length (by simp)]
  simp
 | v :: us,k+1,u,h=>by
  have c:=yK us k u (by simpa using h)
  have a:∀ m,(v.nums ++ dP us).take (11*(m+1))=v.nums ++ (dP us).take (11*m):=fun m=>by
   rw [take_append,take_of_length_le (by simp;omega)]
   congr 2
  show (v.nums ++ dP us).take (11*(k+1+1))=(v.nums ++ dP us).take (11*(k+1)) ++ u.nums
  rw [a,a,c,append_assoc]
theorem MD (t:T):(cB t).take 150=(cB t).take (5+12*12) ++ [(t.us.length:Int)]:=by
 have:=rP t 0
 rw [Nat.mul_zero,Nat.add_zero,take_zero] at this
 rw [this,rO t _ (by omega),take_of_length_le (by rw [mA];omega),append_assoc]
theorem MG (t:T)(k:Nat)(u:U)(a:t.us[k]?=some u):(cB t).take (150+11*(k+1))=((cB t).take (150+11*k) ++ [u.id,u.owner,u.kind,u.x,u.y,u.life,u.load]) ++ [u.what,u.tox,u.toy,u.target]:=by
 rw [rP,rP,yK t.us k u a]
 simp
theorem UQ {t:T}{u:U}(a:u∈t.us){x:Int}(hx:x∈u.nums):x∈cB t:=by
 unfold cB
 exact mem_append_right _ (mem_append_right _ (mem_cons_of_mem _ (mem_flatMap.2 ⟨u,a,hx⟩)))
theorem BH (R s:Nat)(t:T)(w:World)(Q:PRow w R s t.us)(hb:∀ x∈cB t,0<=x/\x<=1000000000)(bs:t.us.length<=100) :
  Cs 38 #[.agg (aQ t (.slice (so R) t.us.length s)).toArray] w fun e g=>e=.returned (.string ⟨(bH t).toArray⟩)/\Fr [] w g:=by
 obtain ⟨gl,N⟩:∃ x,x=aQ t (.slice (so R) t.us.length s):=⟨_,rfl⟩
 rw [<- N]
 obtain ⟨p,K⟩:∃ W,W=w.alloc (.cells gl.toArray 90):=⟨_,rfl⟩
 have ao:p.heap[w.heap.size]?=some (.cells gl.toArray 90):=by rw [K];exact aC _ _
 have aw:Fr [] w p:=by rw [K];exact (r0 _ _).alloc _
 have Y:∀ g,Fr [] p g->∀ k,k < 149->g.cell? ⟨w.heap.size,k,none⟩=some (aN t (.slice (so R) t.us.length s) 0 0 k):=fun g A k hk=>by
  rw [aB (A.heap0 ao),N]
  simp [aQ,getElem?_range hk]
 have z:=Q.fr aw (by simp)
 have bt:w.heap.size < p.heap.size:=aH ao
 have q:=aA Y
 have bc:Hi (∀ g,Fr [] p g->Cs 50 #[.pointer (so w.heap.size)] g fun e bq=>e=.returned (.int .i64 (eA t.us))/\Fr [] g bq):=fun g A=>BQ w.heap.size R s t.us g ⟨by have:=Y g A 148 (by omega);simpa [aN] using this,(z.fr A (by simp)).ppl,by omega⟩
 have bw:=aA N
 have bb:=aA K
 have ar:=vE hb (k:=150+11*t.us.length)
 rw [oK] at ar
 have J:Hi (∀ k,(aP ((cB t).take k)).length<=10000):=fun k=>by have:=vE hb (k:=k);rw [oK] at this;omega
 have HB:=aA hb
 have az:Hi (∀ g,Fr [] p g->Ppl g R t.us):=fun g A=>(z.fr A (by simp)).ppl
 have D:Hi (∀ {L:List UInt8} {v:Value} {w:World} (_:TxtI p L v w) (nb no nc:Nat) (ns:List Int) (_:∀ n∈ns,0<=n/\n<=1000000000) (_:∀ j (h:j < ns.length),w.cell? ⟨nb,no+j,none⟩=some (ii ns[j])) (_:v.ownBlock≠some nb) (_:L.length<=100000) (_:ns.length<=10000) (_:nb < w.heap.size),
  Cs 79 #[v,.slice (some ⟨nb,no,none⟩) ns.length nc] w fun e g=>∃ v',e=.returned v'/\TxtI p (L ++ aP ns) v' g/\Fr (ob v) w g):=fun h nb no nc ns a b c d e f=>h.append nb no nc ns a b c d e f
 clear N K hb ar Y Q z
 go_enter Tryz.func38,Tryz.ntmps38
 go_wp2_with fail
 rw [<- bb.o]
 have HS:∀ g,Fr [] p g->(fun g:World=>cl g w.heap.size 0 t.turn/\cl g w.heap.size 1 t.next/\cl g w.heap.size 2 t.s0/\cl g w.heap.size 3 t.s1/\Fr [] p g) g:=fun g A=>⟨q.o g A 0 (by omega),q.o g A 1 (by omega),q.o g A 2 (by omega),q.o g A 3 (by omega),A⟩
 have K0:=HS _ (r0 [] p).drew
 have ah:Hi (∀ n∈[t.turn,eA t.us,t.s0,t.s1,t.next],0<=n/\n<=1000000000):=fun n hn=>HB.o n (by have:n∈gX t:=hn;unfold cB;exact mem_append_left _ this)
 have C5:∀ (W:World) (j:Nat) (h:j < [t.turn,eA t.us,t.s0,t.s1,t.next].length),(W.alloc (.cells #[ii t.turn,ii (eA t.us),ii t.s0,ii t.s1,ii t.next] 3)).cell? ⟨W.heap.size,0+j,none⟩=some (ii [t.turn,eA t.us,t.s0,t.s1,t.next][j]):=fun W j h=>by
  rw [aB (aC W _),Nat.zero_add]
  have:j=0\/j=1\/j=2\/j=3\/j=4:=by simp at h;omega
  rcases this with rfl|rfl|rfl|rfl|rfl <;> rfl
 go_cut [3] (fun s3 wx=>TxtI p (aP ((cB t).take 5)) s3 wx)
 case first =>
  go_region_held (fun g:World=>ca g w.heap.size 0 (ii t.turn)/\ca g w.heap.size 1 (ii t.next)/\ca g w.heap.size 2 (ii t.s0)/\ca g w.heap.size 3 (ii t.s1)/\Fr [] p g)
   (first|with_reducible exact K0|with_reducible exact HS _ F|with_reducible exact HS _ (F.alloc _)|with_reducible exact HS _ m.fr)
   (first|(go_at_call 50;refine Calls.mono (bc.o _ (And.right (And.right (And.right (And.right (by assumption)))))) ?_;rintro e w2 ⟨rfl,bi⟩;have F:Fr [] p w2:=Fr.then0 (And.right (And.right (And.right (And.right (by assumption))))) bi)|(go_at_call 79;refine Calls.mono (D.o (L:=[]) (v:=.slice none 0 0) ⟨⟨rfl,.inl ⟨rfl,rfl⟩⟩,F.alloc _⟩ w2.heap.size 0 5 [t.turn,eA t.us,t.s0,t.s1,t.next] ah.o (C5 w2) (by simp [Value.ownBlock]) (by simp) (by simp) (by simp)) ?_;rintro e w3 ⟨v3,rfl,m,an⟩))
  all_goals
   go_wp2_with fail
   go_meet
   rw [MI]
   exact m
 case rest =>
  have au:∀ g,Fr [] p g->g.rangeAt w.heap.size 4 (cW t.bd):=fun g A j v hv=>by
   have O:j < 144:=by have:=(gs.1 hv).1;rwa [jN] at this
   rw [q.o g A (4+j) (by omega)]
   unfold aN
   rw [if_neg (by omega),if_neg (by omega),if_neg (by omega),if_neg (by omega),if_pos (by omega),show 4+j - 4=j by omega]
   unfold cW at hv
   rw [getElem?_map,getElem?_range O] at hv
   exact hv
  have H:=au _ hcut.fr
  have C:Hi (∀ (y:Nat) (_:y < 12) (w:World),(Instr.index 88 (.agg (cW t.bd).toArray) (.int .i64 y)).run Tryz.prog w=.ok (.agg (fH t.bd y).toArray) w):=RL t.bd
  have ai:Hi (∀ y,(fH t.bd y).length=12/\(fH t.bd y).toArray.all (·.oneCell')=true):=fun y=>⟨QZ _ _,RC _ _⟩
  obtain ⟨bl,X⟩:∃ x,x=cW t.bd:=⟨_,rfl⟩
  have ag:Hi ((Tryz.prog.info? 88).map (·.size)=some bl.length):=by
   show _=_
   rw [mH,X,jN]
  rw [<- X] at H C
  have al:=aA hcut
  clear X au HS K0 C5 ah hcut
  go_wp2_with (refine wpList_load_mid rfl 88 _ rfl w.heap.size 4 rfl bl _ H Tryz.underlying88 rfl ag.o ?_)
  go_loopw [3,23] (fun v i wr=>∃ y:Nat,y<=12/\i=.int .i64 y/\TxtI p (aP ((cB t).take (5+y*12))) v wr) (fun _ i _=>12 - (intOf i).toNat)
  case atStart=>exact ⟨0,by omega,rfl,al.o⟩
  obtain ⟨y,bv,rfl,B⟩:=hrel
  by_cases ac:y < 12
  ·have Zq:(y:Int) < 12:=by omega
   have hr:=C.o y ac
   obtain ⟨P,ae⟩:=ai.o y
   have af:∀ j (h:j < 12),(fH t.bd y)[j]?=some (ii (t.bd (y*12+j))):=fun j h=>by simp [fH,getElem?_range h]
   obtain ⟨r,ad⟩:∃ r,fH t.bd y=r:=⟨_,rfl⟩
   rw [ad] at hr P ae
   simp only [ad] at af
   have HO:=aA ae
   have HI:Hi ((Tryz.prog.info? 86).map (·.size)=some r.toArray.size):=by
    show _=_
    rw [wH,size_toArray,P]
   have HZ:Hi (zero12.size=r.toArray.size):=by show 12=r.toArray.size;rw [size_toArray,P]
   have ba:=aA af
   have I:=aA B
   clear P ae ad af B
   go_wp2_with (refine wpList_store_row rfl 86 _ _ rfl wr.heap.size r.toArray rfl rfl 86 zero12 (aC wr _) HI.o HZ.o HO.o ?_)
   obtain ⟨W3,M⟩:∃ W,W=(wr.alloc (.cells zero12 86)).setRow wr.heap.size r.toArray:=⟨_,rfl⟩
   rw [<- M]
   have an:Fr [] wr W3:=by rw [M];exact ((r0 _ _).alloc _).setRow _ _ (.inr (Nat.le_refl _))
   have aa:W3.heap[wr.heap.size]?=some (.cells r.toArray 86):=by rw [M];exact setRow_heap _ _ _ _ _ _ (aC _ _)
   have l:=D.o (I.o.fr0 an) wr.heap.size 0 12 ((range 12).map (fun x=>t.bd (y*12+x))) (fun n hn=>by
     obtain ⟨x,hx,rfl⟩:=mem_map.1 hn
     have bu:=mem_range.1 hx
     refine HB.o _ ?_
     unfold cB
     refine mem_append_right _ (mem_append_left _ ?_)
     exact mem_map.2 ⟨y*12+x,mem_range.2 (by omega),rfl⟩)
    (fun j O=>by
     have ab:j < 12:=by simpa using O
     rw [aB aa,Nat.zero_add,getElem?_toArray,ba.o j ab]
     simp)
    (fun e=>by have:=mR I.o.own e;omega) (Nat.le_trans (J.o _) (by omega)) (by simp) (aH aa)
   have bf:((range 12).map (fun x=>t.bd (y*12+x))).length=12:=by simp
   rw [bf] at l
   have ax:=(show Hi _ from ME t y ac)
   clear M aa
   refine Calls.mono l ?_
   rintro e w4 ⟨v4,rfl,m,bj⟩
   clear l
   go_wp2_with fail
   go_roundw
   case rel=>exact ⟨y+1,ac,by go_num,by rw [ax.o,jD];exact m⟩
   case measure=>simp [intOf];omega
  have Zq:¬ (y:Int) < 12:=by omega
  have hy:y=12:=by omega
  subst hy
  have bh:wr.cell? ⟨w.heap.size,148,none⟩=some (.slice (so R) t.us.length s):=by
   have:=q.o wr B.fr 148 (by omega)
   simpa [aN] using this
  have I:=aA B
  clear B C ai ag H al
  go_wp2_with fail
  have l:=D.o (I.o.fr0 ((r0 [] wr).alloc (.cells #[ii (t.us.length:Int)] 3))) wr.heap.size 0 1 [(t.us.length:Int)] (fun n hn=>HB.o n (by
    have:n=(t.us.length:Int):=by simpa using hn
    subst this
    unfold cB
    exact mem_append_right _ (mem_append_right _ (by simp))))
   (fun j O=>by
    have ab:j=0:=by simpa using O
    subst ab
    rw [aB (aC wr _)]
    rfl)
   (fun e=>by have:=mR I.o.own e;omega) (Nat.le_trans (J.o _) (by omega)) (by simp) (by simp)
  refine Calls.mono l ?_
  rintro e w4 ⟨v4,rfl,m,bj⟩
  rw [<- jD,<- MD] at m
  have br:w4.cell? ⟨w.heap.size,148,none⟩=some (.slice (so R) t.us.length s):=by
   have:=q.o w4 m.fr 148 (by omega)
   simpa [aN] using this
  have aj:=aA m
  clear l m I bh
  go_wp2_with fail
  go_loopw [3,39] (fun v i wr=>∃ k:Nat,k<=t.us.length/\i=.int .i64 k/\TxtI p (aP ((cB t).take (150+11*k))) v wr) (fun _ i _=>t.us.length - (intOf i).toNat)
  case atStart=>exact ⟨0,by omega,rfl,aj.o⟩
  obtain ⟨k,hk,rfl,B⟩:=hrel
  by_cases ap:k < t.us.length
  ·have aq:(k:Int) < (t.us.length:Int):=by omega
   obtain ⟨u,hu⟩:∃ u,t.us[k]?=some u:=⟨t.us[k],getElem?_eq_getElem ap⟩
   obtain ⟨c0,c1,c2,c3,c4,c5,c6,c7,c8,c9,be⟩:=(az.o wr B.fr).at hu
   have ay:=(show Hi _ from MG t k u hu)
   have V:Hi (∀ x,x∈u.nums->0<=x/\x<=1000000000):=fun x hx=>HB.o x (UQ (mem_of_getElem? hu) hx)
   have I:=aA B
   clear B hu
   go_wp2_with fail
   have bg:Fr [] wr ((wr.alloc (.cells u.arr 85)).alloc (.cells #[ii u.id,ii u.owner,ii u.kind,ii u.x,ii u.y,ii u.life,ii u.load] 3)):=((r0 [] wr).alloc _).alloc _
   have l:=D.o (I.o.fr0 bg) (wr.heap.size+1) 0 7 [u.id,u.owner,u.kind,u.x,u.y,u.life,u.load] (fun n hn=>V.o n (by
     simp only [mem_cons,not_mem_nil,or_false] at hn |-
     omega))
    (fun j O=>by
     rw [aB (cR wr _ _),Nat.zero_add]
     have:j=0\/j=1\/j=2\/j=3\/j=4\/j=5\/j=6:=by simp at O;omega
     rcases this with rfl|rfl|rfl|rfl|rfl|rfl|rfl <;> rfl)
    (fun e=>by have:=mR I.o.own e;omega) (Nat.le_trans (J.o _) (by omega)) (by simp) (by simp)
   refine Calls.mono l ?_
   rintro e S ⟨v5,rfl,av,bk⟩
   have E:S.heap[wr.heap.size]?=some (.cells u.arr 85):=bk.heap ((fD _ _ _ (by simp)).trans (aC _ _)) (fun hm=>by
    have:=mR I.o.own (show u3.ownBlock=some wr.heap.size by simpa [ob] using hm)
    omega)
   have e7:ca S wr.heap.size 7 (ii u.what):=aB E
   have e8:ca S wr.heap.size 8 (ii u.tox):=aB E
   have e9:ca S wr.heap.size 9 (ii u.toy):=aB E
   have bx:ca S wr.heap.size 10 (ii u.target):=aB E
   have bo:(aP ((cB t).take (150+11*k)) ++ aP [u.id,u.owner,u.kind,u.x,u.y,u.life,u.load]).length<=100000:=by
    have h1:=J.o (150+11*k)
    have h2:=gV [u.id,u.owner,u.kind,u.x,u.y,u.life,u.load] (fun n hn=>(V.o n (by simp only [mem_cons,not_mem_nil,or_false] at hn |-;omega)).2)
    rw [length_append]
    simp at h2
    omega
   have ak:=aA av
   clear l av E c0 c1 c2 c3 c4 c5 c6 c7 c8 c9 be
   go_wp2_with fail
   have am:=D.o (ak.o.fr0 ((r0 [] S).alloc (.cells #[ii u.what,ii u.tox,ii u.toy,ii u.target] 3))) S.heap.size 0 4 [u.what,u.tox,u.toy,u.target] (fun n hn=>V.o n (by
     simp only [mem_cons,not_mem_nil,or_false] at hn |-
     omega))
    (fun j O=>by
     rw [aB (aC S _),Nat.zero_add]
     have:j=0\/j=1\/j=2\/j=3:=by simp at O;omega
     rcases this with rfl|rfl|rfl|rfl <;> rfl)
    (fun e=>by have:=mR ak.o.own e;omega) bo (by simp) (by simp)
   refine Calls.mono am ?_
   rintro e w6 ⟨v6,rfl,bp,bz⟩
   clear am
   go_wp2_with fail
   go_roundw
   case rel=>exact ⟨k+1,ap,by go_num,by rw [ay.o,jD,jD];exact bp⟩
   case measure=>simp [intOf];omega
  have aq:¬ (k:Int) < (t.us.length:Int):=by omega
  have bn:k=t.us.length:=by omega
  subst bn
  rw [take_of_length_le (by rw [oK];exact Nat.le_refl _)] at B
  have Zr:0 < (aP (cB t)).length:=by
   have:=oI t.turn.toNat
   unfold cB gX
   rw [cons_append,jE,length_append]
   omega
  have Zs:=NZ B.own Zr
  have bm:=aw.then0 B.fr
  clear B aj
  go_wp2_with fail
  go_ret
  exact ⟨rfl,bm⟩
theorem UG (i j a:Nat)(t:T)(w:World)(h:GS w i j a t)(hb:∀ x∈cB t,0<=x/\x<=1000000000)(f:t.us.length<=100) :
  Cs 15 #[.pointer (so i)] w fun e l=>e=.returned (.string ⟨(bH t).toArray⟩)/\Fr [] w l:=by
 have c:Hi (Cs 38 #[.agg (aQ t (.slice (so j) t.us.length a)).toArray] w fun e l=>e=.returned (.string ⟨(bH t).toArray⟩)/\Fr [] w l):=BH j a t w h.row hb f
 obtain ⟨gl,d⟩:∃ x,x=aQ t (.slice (so j) t.us.length a):=⟨_,rfl⟩
 have b:=h.all
 rw [<- d] at c b
 have g:gl.length=149:=by rw [d];exact fC _ _
 have n:Hi ((Tryz.prog.info? 90).map (·.size)=some gl.length):=by
  show _=_
  rw [dE,g]
 obtain ⟨L,m⟩:∃ L,L=bH t:=⟨_,rfl⟩
 rw [<- m] at c |-
 clear d g h m hb
 go_enter Tryz.func15,Tryz.ntmps15
 go_wp2_with (first|(go_at_call 39;refine (nB i _).mono ?_;rintro e p ⟨rfl,rfl⟩)|(refine wpList_load_mid rfl 90 _ rfl i 0 rfl gl _ b Tryz.underlying90 rfl n.o ?_)|(go_at_call 38;refine Calls.mono c.o ?_;rintro e q ⟨rfl,k⟩))
 go_ret
 exact ⟨rfl,k⟩
