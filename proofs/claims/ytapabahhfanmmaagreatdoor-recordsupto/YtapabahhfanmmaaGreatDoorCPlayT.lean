import Derived.Test.YtapabahhfanmmaaGreatDoorCReadU
import Derived.Test.YtapabahhfanmmaaGreatDoorCPlay3
namespace Go.Proofs.YtapabahhfanmmaaGreatDoor
open Go.RowKit List
set_option maxRecDepth 100000
set_option maxHeartbeats 4000000
def lF (c:Cm):Int:=min (min (min (min c.unit c.what) c.x) c.y) c.target
def lE (c:Cm):Int:=max (max (max (max c.unit c.what) c.x) c.y) c.target
def aE (c:Cm):Cm:=if lF c < 0\/1000000000 < lE c then ⟨0,0,0,0,0⟩ else c
theorem VA (c:Cm):(0<=(aE c).unit/\(aE c).unit<=1000000000)/\(0<=(aE c).what/\(aE c).what<=1000000000)/\(0<=(aE c).x/\(aE c).x<=1000000000)/\(0<=(aE c).y/\(aE c).y<=1000000000)/\(0<=(aE c).target/\(aE c).target<=1000000000):=by
 unfold aE
 split
 ·simp
 rename_i h
 unfold lF lE at h
 omega
theorem RK (f:Array TypeId)(t:TypeId)(a b c d e:Int)(w:World):(Builtin.min_ f t #[.int .i64 a,.int .i64 b,.int .i64 c,.int .i64 d,.int .i64 e]).run Tryz.prog w=.ok (.int .i64 (min (min (min (min a b) c) d) e)) w:=by
 have h:∀ x y:Int,(if y < x then y else x)=min x y:=fun x y=>by omega
 simp [Builtin.min_,Builtin.min2,h]
theorem RJ (f:Array TypeId)(t:TypeId)(a b c d e:Int)(w:World):(Builtin.max_ f t #[.int .i64 a,.int .i64 b,.int .i64 c,.int .i64 d,.int .i64 e]).run Tryz.prog w=.ok (.int .i64 (max (max (max (max a b) c) d) e)) w:=by
 have h:∀ x y:Int,(if x < y then y else x)=max x y:=fun x y=>by omega
 simp [Builtin.max_,Builtin.max2,h]
theorem sR {g:Array Oper} {rest:List Oper} {o:Oper} {f:Act} {w:World} {Q:Exit->Act->World->Prop} (i:o.guard=none) (k l m n p:Operand) (j:Array TypeId) (ho:o.op=.call { callee:=.builtin .min,args:=#[k,l,m,n,p],argTypes:=j })
  (a b c d e:Int) (h1:f.eval k=.int .i64 a) (q:f.eval l=.int .i64 b) (r:f.eval m=.int .i64 c) (s:f.eval n=.int .i64 d) (t:f.eval p=.int .i64 e) (M:Int) (u:min (min (min (min a b) c) d) e=M)
  (h:wpList Tryz.prog g Q rest (f.put o.dst (.int .i64 M)) w):wpList Tryz.prog g Q (o :: rest) f w:=by
 subst u
 refine wpList_plain i fun K hK=>?_
 have v:=RK j o.type a b c d e w
 unfold Oper.wp execOp
 simp only [ho,resolve,invoke,builtin,Sem.run_bind,Sem.run_pure,Result.andThen_ok,map_toArray,map_cons,map_nil,h1,q,r,s,t,v]
 exact hK _ _ h
theorem sQ {g:Array Oper} {rest:List Oper} {o:Oper} {f:Act} {w:World} {Q:Exit->Act->World->Prop} (i:o.guard=none) (k l m n p:Operand) (j:Array TypeId) (ho:o.op=.call { callee:=.builtin .max,args:=#[k,l,m,n,p],argTypes:=j })
  (a b c d e:Int) (h1:f.eval k=.int .i64 a) (q:f.eval l=.int .i64 b) (r:f.eval m=.int .i64 c) (s:f.eval n=.int .i64 d) (t:f.eval p=.int .i64 e) (M:Int) (u:max (max (max (max a b) c) d) e=M)
  (h:wpList Tryz.prog g Q rest (f.put o.dst (.int .i64 M)) w):wpList Tryz.prog g Q (o :: rest) f w:=by
 subst u
 refine wpList_plain i fun K hK=>?_
 have v:=RJ j o.type a b c d e w
 unfold Oper.wp execOp
 simp only [ho,resolve,invoke,builtin,Sem.run_bind,Sem.run_pure,Result.andThen_ok,map_toArray,map_cons,map_nil,h1,q,r,s,t,v]
 exact hK _ _ h
theorem wC:(Tryz.prog.info? 81).map (·.size)=some 5:=by kernel_rfl
theorem UZ (c:Cm)(w:World) :
  Cs 122 #[c.val] w fun e l=>e=.returned (aE c).val/\Fr [] w l:=by
 obtain ⟨g,d⟩:∃ x,lF c=x:=⟨_,rfl⟩
 obtain ⟨h,f⟩:∃ x,lE c=x:=⟨_,rfl⟩
 have a:Hi (min (min (min (min c.unit c.what) c.x) c.y) c.target=g):=d
 have b:Hi (max (max (max (max c.unit c.what) c.x) c.y) c.target=h):=f
 have j:Hi (aE c=if g < 0\/1000000000 < h then ⟨0,0,0,0,0⟩ else c):=by show _=_;unfold aE;rw [d,f]
 clear d f
 by_cases k:g < 0
 ·have i:Hi (aE c=⟨0,0,0,0,0⟩):=by show _=_;rw [j.o,if_pos (.inl k)]
  go_enter Tryz.func122,Tryz.ntmps122
  go_wp2_with (first|(refine sR rfl _ _ _ _ _ _ rfl c.unit c.what c.x c.y c.target rfl rfl rfl rfl rfl g a.o ?_)|(refine sQ rfl _ _ _ _ _ _ rfl c.unit c.what c.x c.y c.target rfl rfl rfl rfl rfl h b.o ?_))
  exact bodyPost_ret (v:=Cm.val ⟨0,0,0,0,0⟩) (by simp [results,Tryz.results122,go_sem]) rfl ⟨by rw [i.o],((r0 _ _).alloc _).alloc _⟩
 by_cases h1:1000000000 < h
 ·have i:Hi (aE c=⟨0,0,0,0,0⟩):=by show _=_;rw [j.o,if_pos (.inr h1)]
  go_enter Tryz.func122,Tryz.ntmps122
  go_wp2_with (first|(refine sR rfl _ _ _ _ _ _ rfl c.unit c.what c.x c.y c.target rfl rfl rfl rfl rfl g a.o ?_)|(refine sQ rfl _ _ _ _ _ _ rfl c.unit c.what c.x c.y c.target rfl rfl rfl rfl rfl h b.o ?_))
  exact bodyPost_ret (v:=Cm.val ⟨0,0,0,0,0⟩) (by simp [results,Tryz.results122,go_sem]) rfl ⟨by rw [i.o],((r0 _ _).alloc _).alloc _⟩
 have i:Hi (aE c=c):=by show _=_;rw [j.o,if_neg (by omega)]
 go_enter Tryz.func122,Tryz.ntmps122
 go_wp2_with (first|(refine sR rfl _ _ _ _ _ _ rfl c.unit c.what c.x c.y c.target rfl rfl rfl rfl rfl g a.o ?_)|(refine sQ rfl _ _ _ _ _ _ rfl c.unit c.what c.x c.y c.target rfl rfl rfl rfl rfl h b.o ?_))
 exact bodyPost_ret (v:=c.val) (by simp [results,Tryz.results122,go_sem]) rfl ⟨by rw [i.o],((r0 _ _).alloc _).alloc _⟩
abbrev Cm.nums (c:Cm):List Int:=[c.unit,c.what,c.x,c.y,c.target]
def cL (l:List Cm):List Int:=(l.length:Int) :: l.flatMap fun c=>(aE c).nums
theorem FE (l:List Cm)(k:Nat)(c:Cm)(h:l[k]?=some c):(l.take (k+1)).flatMap (fun c=>(aE c).nums)=(l.take k).flatMap (fun c=>(aE c).nums) ++ (aE c).nums:=by
 obtain ⟨hl,rfl⟩:=gs.1 h
 rw [take_succ_eq_append_getElem hl,flatMap_append]
 simp
theorem pJ (c:Cm):∀ n∈(aE c).nums,0<=n/\n<=1000000000:=by
 obtain ⟨h1,a,b,d,e⟩:=VA c
 intro n hn
 simp only [mem_cons,not_mem_nil,or_false] at hn
 rcases hn with rfl|rfl|rfl|rfl|rfl <;> assumption
theorem qN:∀ l:List Cm,(l.flatMap fun c=>(aE c).nums).length=5*l.length
 | []=>rfl
 | c :: l=>by
  rw [flatMap_cons,length_append,qN l]
  simp
  omega
theorem FF (l:List Cm)(k:Nat):(aP ((l.take k).flatMap fun c=>(aE c).nums)).length<=25*l.length:=by
 have h1:=gV ((l.take k).flatMap fun c=>(aE c).nums) (fun n hn=>by
  obtain ⟨c,_,a⟩:=mem_flatMap.1 hn
  exact (pJ c n a).2)
 rw [qN] at h1
 have b:(l.take k).length<=l.length:=by simp;omega
 omega
def CmdB (w:World)(base:Nat)(v:Value)(l:List Cm):Prop:=(∃ c b,v=.slice c 0 b/\l=[])\/∃ a b,v=.slice (so a) l.length b/\Cmds w a l/\a < base/\a < w.heap.size
theorem ApM.trans {w:World}{base:Nat}{tv:Value}{l d:List UInt8}{v f:Value}{g j m:World}(h:ApM w base tv l v g)(c:Fr [] g j)(k:ApM j base v d f m):ApM w base tv d f m:=by
 have hs:=h.fr.size
 have n:=c.size
 refine ⟨k.own,(h.fr.then0 c).trans k.fr (fun i hi=>?_),?_⟩
 ·have a:v.ownBlock=some i:=by simpa [iD] using hi
  rcases h.blk with e|⟨b,e,hb⟩
  ·exact .inl (by rw [e] at a;simp [iD,a])
  rw [e] at a;cases a;exact .inr hb
 rcases k.blk with e|⟨b,e,hb⟩
 ·rw [e];exact h.blk
 exact .inr ⟨b,e,by omega⟩
theorem tH (base:Nat)(tv lv:Value)(l:List UInt8)(cs:List Cm)(w:World)(hown:ownM w base tv l)(t:CmdB w base lv cs)(hl:l.length<=1000000)(ag:cs.length<=10000)(Y:base<=w.heap.size) :
  Cs 80 #[tv,lv] w fun e w'=>∃ v,e=.returned v/\ApM w base tv (l ++ aP (cL cs)) v w':=by
 obtain ⟨P,O,rfl⟩:∃ P O,lv=.slice P cs.length O:=by
  rcases t with ⟨ao,O,rfl,rfl⟩|⟨z,O,rfl,_⟩
  ·exact ⟨_,_,rfl⟩
  exact ⟨_,_,rfl⟩
 have HC:Hi (CmdB w base (.slice P cs.length O) cs):=t
 have m:Hi (ownM w base tv l):=hown
 clear t hown
 go_enter Tryz.func80,Tryz.ntmps80
 go_wp2_with fail
 have J:=nL base w.heap.size 0 1 tv l [(cs.length:Int)] (w.alloc (.cells #[ii (cs.length:Int)] 3)) (m.o.fr ((r0 [] w).alloc _) (by simp)) (fun n hn=>by
   have:n=(cs.length:Int):=by simpa using hn
   omega)
  (fun j hj=>by
   have aa:j=0:=by simpa using hj
   subst aa
   rw [aB (aC w _)]
   rfl)
  (fun e=>by have:=(m.o.base e).2;omega) (by omega) (by simp) (by simp;omega) (by simp)
 refine Calls.mono J ?_
 rintro e w1 ⟨v1,rfl,F⟩
 have h:ApM w base tv (l ++ aP [(cs.length:Int)] ++ aP ((cs.take 0).flatMap fun c=>(aE c).nums)) v1 w1:=by
  have:=(ApM.start m.o).trans ((r0 [] w).alloc _) F
  simpa [aP] using this
 have B:=aA h
 clear J F h
 go_wp2_with fail
 go_loopw [0,14] (fun v i wr=>∃ k:Nat,k<=cs.length/\i=.int .i64 k/\ApM w base tv (l ++ aP [(cs.length:Int)] ++ aP ((cs.take k).flatMap fun c=>(aE c).nums)) v wr) (fun _ i _=>cs.length - (intOf i).toNat)
 case atStart=>exact ⟨0,by omega,rfl,B.o⟩
 obtain ⟨k,hk,rfl,h⟩:=hrel
 clear B
 by_cases q:k < cs.length
 ·have M:(k:Int) < (cs.length:Int):=by omega
  obtain ⟨c,hc⟩:∃ c,cs[k]?=some c:=⟨cs[k],getElem?_eq_getElem q⟩
  obtain ⟨z,rfl,K⟩:∃ z,P=some ⟨z,0,none⟩/\Cmds wr z cs:=by
   rcases HC.o with ⟨ao,ad,Q,V⟩|⟨z,ad,Q,h1,h2,s⟩
   ·rw [V] at q;simp at q
   refine ⟨z,by simpa using congrArg (fun v:Value=>match v with|.slice a _ _=>a|_=>none) Q,h1.fr h.fr (fun hm=>?_)⟩
   have:tv.ownBlock=some z:=by simpa [iD] using hm
   have:=(m.o.base this).1
   omega
  obtain ⟨c0,c1,c2,c3,c4⟩:=K.at hc
  have C:=(show Hi _ from FE cs k c hc)
  have ah:=FF cs k
  have A:=aA h
  clear K hc h
  go_wp2_with fail
  refine Calls.mono (UZ c _) ?_
  rintro e R ⟨rfl,u⟩
  have hh:=u.heap0 (aC wr (.cells #[ii c.unit,ii c.what,ii c.x,ii c.y,ii c.target] 81))
  have E:=(show Hi _ from pJ c)
  obtain ⟨d,hd⟩:∃ d,aE c=d:=⟨_,rfl⟩
  rw [hd] at C E |-
  have HI:Hi ((Tryz.prog.info? 81).map (·.size)=some (#[ii d.unit,ii d.what,ii d.x,ii d.y,ii d.target]:Array Value).size):=by show _=some 5;exact wC
  have HO:Hi ((#[ii d.unit,ii d.what,ii d.x,ii d.y,ii d.target]:Array Value).all (·.oneCell')=true):=by show _=_;simp [Value.oneCell']
  have HZ:Hi ((#[ii c.unit,ii c.what,ii c.x,ii c.y,ii c.target]:Array Value).size=(#[ii d.unit,ii d.what,ii d.x,ii d.y,ii d.target]:Array Value).size):=by show _=_;rfl
  have HH:=aA hh
  have ac:Fr [] wr R:=((r0 [] wr).alloc _).then0 u
  have af:wr.heap.size < R.heap.size:=aH hh
  clear hd u hh c0 c1 c2 c3 c4
  obtain ⟨f,g⟩:∃ W,W=R.setRow wr.heap.size #[ii d.unit,ii d.what,ii d.x,ii d.y,ii d.target]:=⟨_,rfl⟩
  have s:f.heap[wr.heap.size]?=some (.cells #[ii d.unit,ii d.what,ii d.x,ii d.y,ii d.target] 81):=by rw [g];exact setRow_heap _ _ _ _ _ _ HH.o
  have p:Fr [] wr f:=by rw [g];exact ac.setRow _ _ (.inr (Nat.le_refl _))
  have e0:ca f wr.heap.size 0 (ii d.unit):=aB s
  have Q:ca f wr.heap.size 1 (ii d.what):=aB s
  have V:ca f wr.heap.size 2 (ii d.x):=aB s
  have e3:ca f wr.heap.size 3 (ii d.y):=aB s
  have e4:ca f wr.heap.size 4 (ii d.target):=aB s
  rw [g] at e0 Q V e3 e4
  have D:=aA g
  clear g s
  go_wp2_with (refine wpList_store_row rfl 81 _ _ rfl wr.heap.size #[ii d.unit,ii d.what,ii d.x,ii d.y,ii d.target] rfl rfl 81 #[ii c.unit,ii c.what,ii c.x,ii c.y,ii c.target] HH.o HI.o HZ.o HO.o ?_)
  rw [<- D.o]
  have N:R.heap.size=f.heap.size:=by rw [D.o];simp [World.setRow]
  rw [N]
  have X:=A.o.own.fr p (by simp)
  have L:∀ b,u0.ownBlock=some b->b < f.heap.size:=fun b hb=>Nat.lt_of_lt_of_le (A.o.own.base hb).2 p.size
  have ae:base<=f.heap.size:=Nat.le_trans Y (Nat.le_trans A.o.fr.size p.size)
  have ab:(l ++ aP [(cs.length:Int)] ++ aP ((cs.take k).flatMap fun c=>(aE c).nums)).length<=10000000:=by
   have h1:=gV [(cs.length:Int)] (fun n hn=>by
     have:n=(cs.length:Int):=by simpa using hn
     omega)
   rw [length_append,length_append]
   simp at h1
   omega
  have r:=nL base f.heap.size 0 5 u0 _ [d.unit,d.what,d.x,d.y,d.target] (f.alloc (.cells #[ii d.unit,ii d.what,ii d.x,ii d.y,ii d.target] 3)) (X.fr ((r0 [] f).alloc _) (by simp)) E.o
   (fun j hj=>by
    rw [aB (aC f _),Nat.zero_add]
    have:j=0\/j=1\/j=2\/j=3\/j=4:=by simp at hj;omega
    rcases this with rfl|rfl|rfl|rfl|rfl <;> rfl)
   (fun e=>by have:=L _ e;omega) ab (by simp) (by simp;omega) (by simp)
  refine Calls.mono r ?_
  rintro e w4 ⟨v4,rfl,H⟩
  have I:=A.o.trans (p.alloc _) H
  clear r H
  have S:=aA I
  clear I
  go_wp2_with fail
  go_roundw
  case rel=>exact ⟨k+1,q,by go_num,by rw [C.o,jD,<- append_assoc];exact S.o⟩
  case measure=>simp [intOf];omega
 have M:¬ (k:Int) < (cs.length:Int):=by omega
 rw [take_of_length_le (by omega)] at h
 have hE:l ++ aP [(cs.length:Int)] ++ aP (cs.flatMap fun c=>(aE c).nums)=l ++ aP (cL cs):=by
  unfold cL
  rw [jE,append_assoc]
  simp [aP]
 rw [hE] at h
 have A:=aA h
 clear h hE
 go_wp2_with fail
 go_ret
 exact ⟨_,rfl,A.o⟩
set_option maxRecDepth 100000
def iY (n:Int)(a b:List Cm):List Int:=n :: (cL a ++ cL b)
def cV (n:Int)(a b:List Cm):List UInt8:=aP (iY n a b)
theorem qF (l:List Cm)(hl:l.length<=1000000000):∀ n∈cL l,0<=n/\n<=1000000000:=fun n hn=>by
 unfold cL at hn
 rcases mem_cons.1 hn with rfl|hn
 ·omega
 obtain ⟨c,_,a⟩:=mem_flatMap.1 hn
 exact pJ c n a
theorem FD (l:List Cm):(cL l).length=1+5*l.length:=by
 unfold cL
 rw [length_cons,qN]
 omega
theorem nP (l:List Cm)(hl:l.length<=1000000000):(aP (cL l)).length<=5+25*l.length:=by
 have:=gV (cL l) (fun n hn=>(qF l (by omega) n hn).2)
 rw [FD] at this
 omega
theorem CmdV.low {w b:World}{v:Value}{l:List Cm}(h:CmdV w v l)(a:Fr [] w b){base:Nat}(hb:w.heap.size<=base):CmdB b base v l:=by
 rcases h with h|⟨e,f,h1,c,d⟩
 ·exact .inl h
 exact .inr ⟨e,f,h1,c.fr a (by simp),by omega,Nat.lt_of_lt_of_le d a.size⟩
theorem CmdB.fr {S:List Nat}{w c:World}{v:Value}{l:List Cm}{base:Nat}(h:CmdB w base v l)(a:Fr S w c)(hs:∀ i∈S,base<=i):CmdB c base v l:=by
 rcases h with h|⟨b,g,h1,d,e,f⟩
 ·exact .inl h
 exact .inr ⟨b,g,h1,d.fr a (fun hm=>by have:=hs b hm;omega),e,Nat.lt_of_lt_of_le f a.size⟩
theorem CmdV.shape {w:World}{v:Value}{l:List Cm}(h:CmdV w v l):∃ b a,v=.slice b l.length a:=by
 rcases h with ⟨b,a,rfl,rfl⟩|⟨c,a,rfl,_⟩
 ·exact ⟨_,_,rfl⟩
 exact ⟨_,_,rfl⟩
theorem BI (n:Int)(O P:Value)(b l2:List Cm)(w:World)(hn:0<=n/\n<=1000000000)(h1:CmdV w O b)(h2:CmdV w P l2)(aj:b.length+l2.length<=8000) :
  Cs 41 #[.agg #[ii n,O,P]] w fun e w'=>(((cV n b l2).length<=40000/\e=.returned (.tuple #[.string ⟨(cV n b l2).toArray⟩,.bool true]))\/(40000 < (cV n b l2).length/\e=.returned (.tuple #[.string ⟨#[]⟩,.bool false])))/\Fr [] w w':=by
 obtain ⟨c,k,rfl⟩:=h1.shape
 obtain ⟨d,l,rfl⟩:=h2.shape
 obtain ⟨a,q⟩:∃ W,W=w.alloc (.cells #[ii n,.slice c b.length k,.slice d l2.length l] 106):=⟨_,rfl⟩
 have A:a.heap[w.heap.size]?=some (.cells #[ii n,.slice c b.length k,.slice d l2.length l] 106):=by rw [q];exact aC _ _
 have h:Fr [] w a:=by rw [q];exact (r0 _ _).alloc _
 have H:=h1.low h (base:=a.heap.size) h.size
 have I:=h2.low h (base:=a.heap.size) h.size
 have Y:Hi (CmdB a a.heap.size (.slice c b.length k) b):=H
 have aa:Hi (CmdB a a.heap.size (.slice d l2.length l) l2):=I
 have C:=aA q
 have al:w.heap.size < a.heap.size:=aH A
 have ai:¬ (8000:Int) < (b.length:Int)+(l2.length:Int):=by omega
 clear h1 h2 H I q
 go_enter Tryz.func41,Tryz.ntmps41
 go_wp2_with fail
 rw [<- C.o]
 have u:w.heap.size+1=a.heap.size:=by rw [C.o];simp
 rw [u]
 have D:=nL a.heap.size a.heap.size 0 1 (.slice none 0 0) [] [n] (a.alloc (.cells #[ii n] 3)) (NX _ _) (fun m hm=>by
   have:m=n:=by simpa using hm
   omega)
  (fun j hj=>by
   have ah:j=0:=by simpa using hj
   subst ah
   rw [aB (aC a _)]
   rfl)
  (by simp [Value.ownBlock]) (by simp) (by simp) (by simp) (by simp)
 refine Calls.mono D ?_
 rintro e R ⟨Q,rfl,v⟩
 have r:Fr [] a R:=((r0 [] a).alloc _).trans v.fr (by simp [iD,Value.ownBlock])
 have z:ownM R a.heap.size Q (aP [n]):=v.own
 have af:=r.heap0 A
 have d1:ca R w.heap.size 1 (.slice c b.length k):=aB af
 have ao:(aP [n]).length<=5:=by
  have:=gV [n] (fun m hm=>by
    have:m=n:=by simpa using hm
    omega)
  simpa using this
 have E:=tH a.heap.size Q (.slice c b.length k) (aP [n]) b R z (Y.o.fr r (by simp)) (by omega) (by omega) r.size
 have ab:Hi (ownM R a.heap.size Q (aP [n])):=z
 have HQ:=aA E
 clear D v z u E
 go_wp2_with fail
 refine Calls.mono HQ.o ?_
 rintro e X ⟨V,rfl,p⟩
 have ae:∀ i∈iD Q,a.heap.size<=i:=fun i hi=>(ab.o.base (show Q.ownBlock=some i by simpa [iD] using hi)).1
 have s:Fr [] a X:=r.trans p.fr (fun i hi=>.inr (ae i hi))
 have ag:=s.heap0 A
 have d2:ca X w.heap.size 2 (.slice d l2.length l):=aB ag
 have am:=nP b (by omega)
 have F:=tH a.heap.size V (.slice d l2.length l) (aP [n] ++ aP (cL b)) l2 X p.own (aa.o.fr s (by simp)) (by rw [length_append];omega) (by omega) s.size
 have ac:Hi (ownM X a.heap.size V (aP [n] ++ aP (cL b))):=p.own
 have HR:=aA F
 clear HQ p F d1
 go_wp2_with fail
 refine Calls.mono HR.o ?_
 rintro e w4 ⟨v4,rfl,y⟩
 have K:∀ i∈iD V,a.heap.size<=i:=fun i hi=>(ac.o.base (show V.ownBlock=some i by simpa [iD] using hi)).1
 have ad:Fr [] a w4:=s.trans y.fr (fun i hi=>.inr (K i hi))
 have hE:aP [n] ++ aP (cL b) ++ aP (cL l2)=cV n b l2:=by
  unfold cV iY
  rw [jE n (cL b ++ cL l2),jD,jE n [],qO,append_nil,append_assoc]
 have f:=y.own
 rw [hE] at f
 have an:=nP l2 (by omega)
 have B:(cV n b l2).length<=1000000:=by
  rw [<- hE,length_append,length_append]
  omega
 have M:=f.string
 obtain ⟨S,hT⟩:∃ x,x=cV n b l2:=⟨_,rfl⟩
 rw [<- hT] at f B M
 have HT:=aA hT
 obtain ⟨a4,N,rfl⟩:∃ a4 N,v4=.slice a4 S.length N:=by
  rcases f with ⟨rfl,h0⟩|⟨g,ak,rfl,_⟩
  ·exact ⟨_,_,by rw [h0];rfl⟩
  exact ⟨_,_,rfl⟩
 have t:=h.then0 ad
 clear HR y hE hT f d2 ai
 by_cases J:S.length<=40000
 ·have L:¬ (40000:Int) < (S.length:Int):=by omega
  clear B
  go_wp2_with fail
  go_ret2
  exact ⟨.inl ⟨by rw [<- HT.o];exact J,by rw [<- HT.o];rfl⟩,t⟩
 have L:(40000:Int) < (S.length:Int):=by omega
 clear B
 go_wp2_with fail
 go_ret2
 exact ⟨.inr ⟨by rw [<- HT.o];omega,rfl⟩,t⟩
theorem UF (n:Int)(a b:Value)(c l2:List Cm)(w:World)(h1:CmdV w a c)(d:CmdV w b l2)(i:c.length<=1000000000)(j:l2.length<=1000000000)(f:8000 < c.length+l2.length) :
  Cs 41 #[.agg #[ii n,a,b]] w fun e o=>e=.returned (.tuple #[.string ⟨#[]⟩,.bool false])/\Fr [] w o:=by
 obtain ⟨g,l,rfl⟩:=h1.shape
 obtain ⟨h,m,rfl⟩:=d.shape
 have k:(8000:Int) < (c.length:Int)+(l2.length:Int):=by omega
 clear h1 d
 go_enter Tryz.func41,Tryz.ntmps41
 go_wp2_with fail
 go_ret2
 exact ⟨rfl,(r0 _ _).alloc _⟩
theorem JI:(Tryz.prog.info? 81).map (fun i=>(i.zero,i.size,i.bytes))=some (some (.agg #[ii 0,ii 0,ii 0,ii 0,ii 0]),5,40):=by kernel_rfl
structure CJ (W:World) (l:List UInt8) (rb m:Nat) (v:Value) (k:Nat) (xs:List Value) (w:World):Prop where
 rd:RdAt w rb (dK l false m).1 (dK l false m).2
 own:w.ownsRow W.heap.size 81 5 v k xs
 fr:Fr [rb] W w
theorem CJ.next {W:World}{l:List UInt8}{a m:Nat}{v:Value}{k:Nat}{xs:List Value}{w:World}(h:CJ W l a m v k xs w)(d:a < W.heap.size)(hl:l.length<=1000000) :
  Cs 124 #[.pointer (so a)] w fun e f=>e=.returned (.int .i64 (dI l false m))/\CJ W l a (m+1) v k xs f:=by
 refine Calls.mono (xL a l false m w h.rd hl) ?_
 rintro e g ⟨rfl,h1,c⟩
 exact ⟨rfl,h1,aF h.own c (fun b hb=>by have:=cG h.own hb;simp;omega),h.fr.trans c (by simp)⟩
theorem CJ.alloc {W:World}{l:List UInt8}{a m:Nat}{v:Value}{k:Nat}{xs:List Value}{w:World}(h:CJ W l a m v k xs w)(o:Obj):CJ W l a m v k xs (w.alloc o) :=
  ⟨h.rd.fr ((r0 [] w).alloc o) (by simp),aF h.own ((r0 [] w).alloc o) (by simp),h.fr.alloc o⟩
theorem LV (d:Cm)(W:World)(j:Nat)(v:Value)(a:d.cells[j]?=some v):(W.alloc (.cells #[ii d.unit,ii d.what,ii d.x,ii d.y,ii d.target] 81)).cell? ((⟨W.heap.size,0,none⟩:Addr).add j)=some v:=by
 rw [Addr.add_lit,Nat.zero_add,aB (aC W _)]
 simpa using a
theorem yX (b:Nat) (l:List UInt8) (n:Nat) (a:List Cm) (w:World) (h:RdAt w b (dK l false n).1 (dK l false n).2) (hl:l.length<=1000000) (h0:dI l false n=a.length) (al:a.length<=10000)
  (hd:∀ i d,a[i]?=some d->dI l false (n+1+5*i)=d.unit/\dI l false (n+1+5*i+1)=d.what/\dI l false (n+1+5*i+1+1)=d.x/\dI l false (n+1+5*i+1+1+1)=d.y/\dI l false (n+1+5*i+1+1+1+1)=d.target)
  (q:∀ i,i<=a.length->(dK l false (n+1+5*i)).2=false) :
  Cs 125 #[.pointer (so b)] w fun e c=>∃ v,e=.returned v/\CJ w l b (n+1+5*a.length) v a.length (a.flatMap Cm.cells) c:=by
 obtain ⟨aj,ad,ag,ah,ai⟩:=info_parts JI
 have m:=h.lt
 have L:CJ w l b n (.slice none 0 0) 0 [] w:=⟨h,⟨rfl,.inl ⟨rfl,rfl⟩⟩,r0 _ _⟩
 have HD:=aA hd
 have ab:=aA q
 have A:=L.next m hl
 rw [h0] at A
 clear h h0 hd q L
 go_enter Tryz.func125,Tryz.ntmps125
 go_wp2_with fail
 refine Calls.mono A ?_
 rintro e w1 ⟨rfl,M⟩
 have D:=aA M
 clear A M
 go_wp2_with fail
 go_loopw [3,4] (fun v i wr=>∃ k:Nat,k<=a.length/\i=.int .i64 ((a.length:Int) - k)/\CJ w l b (n+1+5*k) v k ((a.take k).flatMap Cm.cells) wr) (fun _ i _=>(intOf i).toNat)
 case atStart=>exact ⟨0,by omega,by go_num,D.o⟩
 obtain ⟨k,hk,rfl,hJ⟩:=hrel
 clear D
 have q:=ab.o k hk
 have C:=zQ b _ _ wr hJ.rd
 rw [q] at C
 have s:=aA C
 have Y:=aA hJ
 clear C hJ
 by_cases W:k < a.length
 ·have X:(0:Int) < (a.length:Int) - k:=by omega
  obtain ⟨d,t⟩:∃ d,a[k]?=some d:=⟨a[k],getElem?_eq_getElem W⟩
  obtain ⟨g0,g1,g2,g3,g4⟩:=HD.o k d t
  have ac:Hi ((a.take (k+1)).flatMap Cm.cells=(a.take k).flatMap Cm.cells ++ d.cells):=by
   show _=_
   obtain ⟨ae,rfl⟩:=gs.1 t
   rw [take_succ_eq_append_getElem ae,flatMap_append]
   simp
  go_wp2_with fail
  refine Calls.mono s.o ?_
  rintro e w2 ⟨rfl,u⟩
  have N:CJ w l b (n+1+5*k) u3 k ((a.take k).flatMap Cm.cells) w2:=⟨Y.o.rd.fr u (by simp),aF Y.o.own u (by simp),Y.o.fr.then0 u⟩
  have n0:=N.next m hl
  rw [g0] at n0
  have H:Hi (∀ c,CJ w l b (n+1+5*k+1) u3 k ((a.take k).flatMap Cm.cells) c->Cs 124 #[.pointer (so b)] c fun e f=>e=.returned (.int .i64 d.what)/\CJ w l b (n+1+5*k+1+1) u3 k ((a.take k).flatMap Cm.cells) f):=fun c z=>g1 ▸ z.next m hl
  have I:Hi (∀ c,CJ w l b (n+1+5*k+1+1) u3 k ((a.take k).flatMap Cm.cells) c->Cs 124 #[.pointer (so b)] c fun e f=>e=.returned (.int .i64 d.x)/\CJ w l b (n+1+5*k+1+1+1) u3 k ((a.take k).flatMap Cm.cells) f):=fun c z=>g2 ▸ z.next m hl
  have J:Hi (∀ c,CJ w l b (n+1+5*k+1+1+1) u3 k ((a.take k).flatMap Cm.cells) c->Cs 124 #[.pointer (so b)] c fun e f=>e=.returned (.int .i64 d.y)/\CJ w l b (n+1+5*k+1+1+1+1) u3 k ((a.take k).flatMap Cm.cells) f):=fun c z=>g3 ▸ z.next m hl
  have K:Hi (∀ c,CJ w l b (n+1+5*k+1+1+1+1) u3 k ((a.take k).flatMap Cm.cells) c->Cs 124 #[.pointer (so b)] c fun e f=>e=.returned (.int .i64 d.target)/\CJ w l b (n+1+5*k+1+1+1+1+1) u3 k ((a.take k).flatMap Cm.cells) f):=fun c z=>g4 ▸ z.next m hl
  have F:=aA n0
  clear n0 g0 g1 g2 g3 g4 N t s HD
  go_wp2_with fail
  refine Calls.mono F.o ?_
  rintro e w3 ⟨rfl,O⟩
  go_wp2_with fail
  refine Calls.mono (H.o _ O) ?_
  rintro e w4 ⟨rfl,P⟩
  go_wp2_with fail
  refine Calls.mono (I.o _ P) ?_
  rintro e w5 ⟨rfl,Q⟩
  go_wp2_with fail
  refine Calls.mono (J.o _ Q) ?_
  rintro e w6 ⟨rfl,R⟩
  go_wp2_with fail
  refine Calls.mono (K.o _ R) ?_
  rintro e w7 ⟨rfl,p⟩
  have E:Hi (CJ w l b (n+1+5*k+1+1+1+1+1) u3 k ((a.take k).flatMap Cm.cells) w7):=p
  have r:Hi ((w7.alloc (.cells #[ii d.unit,ii d.what,ii d.x,ii d.y,ii d.target] 81)).ownsRow w.heap.size 81 5 u3 k ((a.take k).flatMap Cm.cells)):=(p.alloc _).own
  have am:=p.fr.size
  clear O P Q R p F H I J K
  go_wp2_with (at_builtin;refine wpList_append_own_at _ rfl _ _ 39 rfl w.heap.size 81 aj (.agg #[ii 0,ii 0,ii 0,ii 0,ii 0]) 5 40 Tryz.underlying39 ad ag ah ai rfl (by decide) u3 k ((a.take k).flatMap Cm.cells) rfl r.o ⟨w7.heap.size,0,none⟩ 1 1 d.cells rfl rfl (LV d w7) (by simp [Value.oneCell']) (by unfold maxLen;omega) (by omega) (by simp;omega) ?_;intro v' w8 B j af ak)
  go_roundw
  case rel =>
   refine ⟨k+1,W,by go_num,?_,?_,?_⟩
   ·rw [show n+1+5*(k+1)=n+1+5*k+1+1+1+1+1 by omega]
    have h7:=(E.o.alloc (.cells #[ii d.unit,ii d.what,ii d.x,ii d.y,ii d.target] 81)).rd
    exact h7.fr (gW (S:=u3.ownBlock.toList) (r0 _ _) j (fun g hg=>.inl (by simp [hg]))) (fun hm=>by
     have hb:=cG r.o (show u3.ownBlock=some b by simpa using hm)
     omega)
   ·rw [ac.o]
    exact B
   exact gW (E.o.fr.alloc _) j (fun g hg=>.inr (cG r.o hg))
  case measure=>simp [intOf];omega
 have X:¬ (0:Int) < (a.length:Int) - k:=by omega
 have V:k=a.length:=by omega
 have aa:=aA V
 clear V s
 go_wp2_with fail
 go_ret
 refine ⟨_,rfl,?_⟩
 have:=Y.o
 rw [aa.o,take_length] at this
 exact this
structure ReadsT (l:List UInt8) (n:Int) (a b:List Cm):Prop where
 n0:dI l false 0=n
 na:dI l false 1=a.length
 ca:∀ i d,a[i]?=some d->dI l false (1+1+5*i)=d.unit/\dI l false (1+1+5*i+1)=d.what/\dI l false (1+1+5*i+1+1)=d.x/\dI l false (1+1+5*i+1+1+1)=d.y/\dI l false (1+1+5*i+1+1+1+1)=d.target
 nb:dI l false (1+1+5*a.length)=b.length
 cb:∀ i d,b[i]?=some d->dI l false (1+1+5*a.length+1+5*i)=d.unit/\dI l false (1+1+5*a.length+1+5*i+1)=d.what/\dI l false (1+1+5*a.length+1+5*i+1+1)=d.x/\dI l false (1+1+5*a.length+1+5*i+1+1+1)=d.y/\dI l false (1+1+5*a.length+1+5*i+1+1+1+1)=d.target
 ok:∀ i,i<=1+1+5*a.length+1+5*b.length->(dK l false i).2=false
 ne:dK l false (1+1+5*a.length+1+5*b.length)=([],false)
theorem rL:∀ (l:List Cm) (i f:Nat) (d:Cm),l[i]?=some d->f < 5->(l.flatMap Cm.nums)[5*i+f]?=d.nums[f]?
 | [],_,_,_,h,_=>by simp at h
 | v :: l,0,f,d,h,a=>by
  have b:v=d:=by simpa using h
  subst b
  rw [flatMap_cons,getElem?_append_left (by simp;omega),Nat.mul_zero,Nat.zero_add]
 | v :: l,i+1,f,d,h,a=>by
  rw [flatMap_cons,getElem?_append_right (by simp;omega)]
  have:5*(i+1)+f - v.nums.length=5*i+f:=by simp;omega
  rw [this]
  exact rL l i f d (by simpa using h) a
theorem nQ (l:List Cm):cL l=((l.map aE).length:Int) :: (l.map aE).flatMap Cm.nums:=by
 unfold cL
 rw [length_map,flatMap_map]
theorem rM (l:List Cm):(l.flatMap Cm.nums).length=5*l.length:=by
 induction l with
 | nil=>rfl
 | cons c l a=>rw [flatMap_cons,length_append,a];simp;omega
theorem PC (n:Int)(a b:List Cm)(hn:0<=n/\n<=1000000000)(r:a.length<=10000)(hb:b.length<=10000):ReadsT (cV n a b) n (a.map aE) (b.map aE):=by
 have g:∀ x∈iY n a b,0<=x/\x<=1000000000:=fun x hx=>by
  unfold iY at hx
  rcases mem_cons.1 hx with rfl|hx
  ·exact hn
  rcases mem_append.1 hx with hx|hx
  ·exact qF a (by omega) x hx
  exact qF b (by omega) x hx
 have m:iY n a b=n :: (((a.map aE).length:Int) :: ((a.map aE).flatMap Cm.nums ++ (((b.map aE).length:Int) :: (b.map aE).flatMap Cm.nums))):=by
  unfold iY
  rw [nQ,nQ]
  rfl
 unfold cV
 rw [m] at g |-
 generalize a.map aE=A at *
 generalize b.map aE=B at *
 have l:=rM A
 have q:=rM B
 have c:∀ (k:Nat) (x:Int),(n :: ((A.length:Int) :: (A.flatMap Cm.nums ++ ((B.length:Int) :: B.flatMap Cm.nums))))[k]?=some x->dI (aP (n :: ((A.length:Int) :: (A.flatMap Cm.nums ++ ((B.length:Int) :: B.flatMap Cm.nums))))) false k=x:=fun k x p=>by
  obtain ⟨hl,rfl⟩:=gs.1 p
  have:=MB k _ [] hl g
  rwa [append_nil] at this
 have pa:∀ i d f x,A[i]?=some d->f < 5->d.nums[f]?=some x->dI (aP (n :: ((A.length:Int) :: (A.flatMap Cm.nums ++ ((B.length:Int) :: B.flatMap Cm.nums))))) false (1+1+5*i+f)=x:=fun i d f x hi j hx=>c _ _ (by
  have o:=(gs.1 hi).1
  rw [show 1+1+5*i+f=(5*i+f)+1+1 by omega,getElem?_cons_succ,getElem?_cons_succ,getElem?_append_left (by omega),rL A i f d hi j]
  exact hx)
 have h:∀ i d f x,B[i]?=some d->f < 5->d.nums[f]?=some x->dI (aP (n :: ((A.length:Int) :: (A.flatMap Cm.nums ++ ((B.length:Int) :: B.flatMap Cm.nums))))) false (1+1+5*A.length+1+5*i+f)=x:=fun i d f x hi j hx=>c _ _ (by
  rw [show 1+1+5*A.length+1+5*i+f=(5*A.length+((5*i+f)+1))+1+1 by omega,getElem?_cons_succ,getElem?_cons_succ,getElem?_append_right (by omega),l,show 5*A.length+(5*i+f+1) - 5*A.length=(5*i+f)+1 by omega,getElem?_cons_succ,rL B i f d hi j]
  exact hx)
 have e:∀ i,i<=1+1+5*A.length+1+5*B.length->dK (aP (n :: ((A.length:Int) :: (A.flatMap Cm.nums ++ ((B.length:Int) :: B.flatMap Cm.nums))))) false i=(aP ((n :: ((A.length:Int) :: (A.flatMap Cm.nums ++ ((B.length:Int) :: B.flatMap Cm.nums)))).drop i),false):=fun i hi=>by
  have:=rW i (n :: ((A.length:Int) :: (A.flatMap Cm.nums ++ ((B.length:Int) :: B.flatMap Cm.nums)))) [] (by simp only [length_cons,length_append];omega) g
  rwa [append_nil,append_nil] at this
 refine ⟨c 0 _ rfl,c 1 _ rfl,fun i d hi=>⟨pa i d 0 _ hi (by omega) rfl,pa i d 1 _ hi (by omega) rfl,pa i d 2 _ hi (by omega) rfl,pa i d 3 _ hi (by omega) rfl,pa i d 4 _ hi (by omega) rfl⟩,c _ _ ?_,fun i d hi=>⟨h i d 0 _ hi (by omega) rfl,h i d 1 _ hi (by omega) rfl,h i d 2 _ hi (by omega) rfl,h i d 3 _ hi (by omega) rfl,h i d 4 _ hi (by omega) rfl⟩,fun i hi=>by rw [e i hi],?_⟩
 ·rw [show 1+1+5*A.length=(5*A.length)+1+1 by omega,getElem?_cons_succ,getElem?_cons_succ,getElem?_append_right (by omega),l,Nat.sub_self]
  rfl
 rw [e _ (Nat.le_refl _),drop_of_length_le (by simp only [length_cons,length_append];omega)]
 rfl
theorem jG {w:World}{base a n:Nat}{e:TypeId}{size:Nat}{v:Value}{xs:List Value}(h:w.ownsRow base e size v n xs)(hb:a<=base):w.ownsRow a e size v n xs:=by
 refine ⟨h.1,?_⟩
 rcases h.2 with h|⟨g,b,cur,h1,c,r⟩
 ·exact .inl h
 exact .inr ⟨g,b,cur,h1,Nat.le_trans hb c,r⟩
theorem oM {w:World}{base n:Nat}{e:TypeId}{size:Nat}{v:Value}{xs:List Value}(h:w.ownsRow base e size v n xs):∃ a c,v=.slice a n c:=by
 rcases h.2 with ⟨rfl,rfl⟩|⟨g,b,cur,rfl,_⟩
 ·exact ⟨_,_,rfl⟩
 exact ⟨_,_,rfl⟩
abbrev zeroTurn:Array Value:=#[ii 0,.slice none 0 0,.slice none 0 0]
theorem JS:(Tryz.prog.info? 106).map (·.size)=some 3:=by kernel_rfl
theorem PA (n:Int)(a b:List Cm)(l:List UInt8)(w:World)(hr:ReadsT l n a b)(hl:l.length<=1000000)(ha:a.length<=10000)(hb:b.length<=10000) :
  Cs 81 #[.string ⟨l.toArray⟩] w fun e H=>∃ Y v2,e=.returned (.tuple #[.agg #[ii n,Y,v2],.bool true])/\H.ownsRow w.heap.size 81 5 Y a.length (a.flatMap Cm.cells)/\H.ownsRow w.heap.size 81 5 v2 b.length (b.flatMap Cm.cells)/\Fr [] w H:=by
 have r:=aA hr
 clear hr
 go_enter Tryz.func81,Tryz.ntmps81
 go_wp2_with fail
 refine Calls.mono (LT l _) ?_
 rintro e w1 ⟨F,rfl,aa,V,C⟩
 have u:RdAt w1 F (dK l false 0).1 (dK l false 0).2:=V
 have E:=xL F l false 0 w1 u hl
 rw [r.o.n0] at E
 go_wp2_with fail
 refine Calls.mono E ?_
 rintro e w2 ⟨rfl,m,D⟩
 have S:=yX F l 1 a w2 m hl r.o.na ha r.o.ca (fun i hi=>r.o.ok _ (by omega))
 have L:=aA S
 have M:=C.heap0 (aC w (.cells zeroTurn 106))
 have ae:w.heap.size < F:=by simp at aa;omega
 have N:=D.heap M (by simp;omega)
 have W:Fr [] w w2:=(((r0 [] w).alloc _).then0 C).trans D (by simp;omega)
 have ah:=m.lt
 clear E V u m S M C D
 go_wp2_with fail
 refine Calls.mono L.o ?_
 rintro e w3 ⟨Y,rfl,k⟩
 have t:=yX F l (1+1+5*a.length) b w3 k.rd hl r.o.nb hb r.o.cb (fun i hi=>r.o.ok _ (by omega))
 have s:=aA t
 have O:=k.fr.heap N (by simp;omega)
 have X:Fr [] w w3:=W.trans k.fr (by simp;omega)
 have A:Hi (w3.ownsRow w2.heap.size 81 5 Y a.length (a.flatMap Cm.cells)):=k.own
 have af:=k.fr.size
 clear L k t N
 go_wp2_with fail
 refine Calls.mono s.o ?_
 rintro e p ⟨v2,rfl,h⟩
 have P:=h.fr.heap O (by simp;omega)
 have ab:Fr [] w p:=X.trans h.fr (by simp;omega)
 have ag:=h.fr.size
 have y:Hi (p.ownsRow w2.heap.size 81 5 Y a.length (a.flatMap Cm.cells)):=aF A.o h.fr (fun x hx=>by have:=cG A.o hx;simp;omega)
 have z:Hi (p.ownsRow w3.heap.size 81 5 v2 b.length (b.flatMap Cm.cells)):=h.own
 have ad:w.heap.size < w2.heap.size:=by omega
 have B:=fun (H:World) (hf:Fr [] p H)=>FZ F _ _ H (h.rd.fr hf (by simp))
 rw [r.o.ne] at B
 have J:=aA B
 clear s h B O
 obtain ⟨c,f,rfl⟩:=oM y.o
 obtain ⟨d,g,rfl⟩:=oM z.o
 clear A
 go_wp2_with fail
 refine Calls.mono (J.o _ ((r0 [] p).alloc _)) ?_
 rintro e I ⟨rfl,R⟩
 have j:Fr [] p I:=((r0 [] p).alloc _).then0 R
 have q:=R.heap0 (aC p (.cells #[ii n,.slice c a.length f,.slice d b.length g] 106))
 have Q:=j.heap0 P
 have c0:ca I p.heap.size 0 (ii n):=aB q
 have c1:ca I p.heap.size 1 (.slice c a.length f):=aB q
 have c2:ca I p.heap.size 2 (.slice d b.length g):=aB q
 have K:=aA Q
 have HI:Hi ((Tryz.prog.info? 106).map (·.size)=some (#[ii n,.slice c a.length f,.slice d b.length g]:Array Value).size):=by show _=some 3;exact JS
 have HO:Hi ((#[ii n,.slice c a.length f,.slice d b.length g]:Array Value).all (·.oneCell')=true):=by show _=_;simp [Value.oneCell']
 have HZ:Hi (zeroTurn.size=(#[ii n,.slice c a.length f,.slice d b.length g]:Array Value).size):=by show _=_;rfl
 clear P Q q J
 go_wp2_with (refine wpList_store_row rfl 106 _ _ rfl w.heap.size #[ii n,.slice c a.length f,.slice d b.length g] rfl rfl 106 zeroTurn K.o HI.o HZ.o HO.o ?_)
 have ac:=ab.then0 j
 have hR:Fr [w.heap.size] I (I.setRow w.heap.size #[ii n,.slice c a.length f,.slice d b.length g]):=(r0 _ _).setRow _ _ (.inl (by simp))
 refine bodyPost_ret (v:=.tuple #[.agg #[ii n,.slice c a.length f,.slice d b.length g],.bool true]) (cJ Tryz.results81 _ _ w.heap.size 106 #[ii n,.slice c a.length f,.slice d b.length g] (0,0) _ _ rfl rfl (setRow_heap _ _ _ _ _ _ K.o) Tryz.underlying106 rfl HI.o) rfl ⟨_,_,rfl,?_,?_,ac.setRow _ _ (.inr (Nat.le_refl _))⟩
 ·exact jG (aF (aF y.o j (by simp)) hR (fun x hx=>by have:=cG y.o hx;simp;omega)) W.size
 exact jG (aF (aF z.o j (by simp)) hR (fun x hx=>by have:=cG z.o hx;simp;omega)) X.size
theorem QW {P:Program} {f:Func} {p r s:Tmp} {ty:TypeId} (h:f.results=#[.cell p ty,.tmp r,.tmp s]) (a:Array Value) (w:World) (g:Nat) (t:TypeId) (cs:Array Value) (fr:Nat×Nat) (d:TypeDesc) (v u:Value)
  (k:a.getD p undef=.pointer (so g)) (m:a.getD r undef=v) (hw:a.getD s undef=u) (j:w.heap[g]?=some (.cells cs t fr))
  (l:P.underlying ty=some d) (i:(match d with|.struct _|.array _ _=>true|_=>false)=true) (hi:(P.info? ty).map (·.size)=some cs.size) :
  (results f a).run P w=.ok (.tuple #[.agg cs,v,u]) w:=by
 have b:a[p]?.getD undef=.pointer (so g):=by simpa using k
 have c:a[r]?.getD undef=v:=by simpa using m
 have e:a[s]?.getD undef=u:=by simpa using hw
 simp [results,h,b,c,e,asAddr,run_loadVar_row w g t ty cs fr d j l i hi]
theorem uN {w:World}{base:Nat}{v:Value}{l:List Cm}(h:w.ownsRow base 81 5 v l.length (l.flatMap Cm.cells)):CmdV w v l:=by
 rcases h.2 with ⟨rfl,k⟩|⟨g,a,cur,rfl,hb,d,h1,o,p,m⟩
 ·exact .inl ⟨_,_,rfl,eq_nil_of_length_eq_zero k⟩
 refine .inr ⟨g,a,rfl,fun i hi j u f=>?_,aH d⟩
 have q:j < 5:=by simpa using (gs.1 f).1
 rw [aB d]
 have:=congrArg (fun x:List Value=>x[i*5+j]?) m
 simp only [getElem?_take_of_lt (show i*5+j < l.length*5 by omega)] at this
 rw [<- Array.getElem?_toList,this,<- f]
 have b:∀ (l:List Cm) (i:Nat) (h:i < l.length),(l.flatMap Cm.cells)[i*5+j]?=(l[i]'h).cells[j]?:=by
  intro l
  induction l with
  | nil=>intro i h;simp at h
  | cons c l n =>
   intro i h
   cases i with
   | zero=>rw [flatMap_cons,getElem?_append_left (by simp;omega)];simp
   | succ i =>
    rw [flatMap_cons,getElem?_append_right (by simp;omega)]
    have e:(i+1)*5+j - c.cells.length=i*5+j:=by simp;omega
    rw [e,n i (by simpa using h)]
    simp
 exact b l i hi
theorem Refs.low {w:World}{base c:Nat}{v:Value}{a b:List Nat}(h:Refs w base v a b)(hb:c<=base):Refs w c v a b:=by
 obtain ⟨i,j,k,l,h1,d,e,f,g⟩:=h
 exact ⟨i,j,k,l,h1,d,Nat.le_trans hb e,jG f hb,jG g hb⟩
theorem RefsA.low {w:World}{base c:Nat}{v:Value}{a b:List Nat}(h:RefsA w base v a b)(hb:c<=base):RefsA w c v a b:=by
 obtain ⟨j,k,l,h1,d,e,f,g,i⟩:=h
 exact ⟨j,k,l,h1,d,Nat.le_trans hb e,jG f hb,jG g hb,i⟩
theorem OJ (E n:Nat)(t:T)(a b:List Cm)(l:List UInt8)(w:World)(ap:Sd w)(D:fI t)(u:PRow w E n t.us)(ht:0<=t.turn/\t.turn < 1000000000)(hr:ReadsT l t.turn a b)(hl:l.length<=1000000)(ha:a.length<=10000)(hb:b.length<=10000) :
  Calls Tryz.prog 42 #[.agg (aQ t (.slice (some ⟨E,0,none⟩) t.us.length n)).toArray,.string ⟨l.toArray⟩] w fun e m =>
   ∃ v c d,e=.returned (.tuple #[.agg (aQ (aM t a b).1 (.slice (some ⟨c,0,none⟩) (aM t a b).1.us.length d)).toArray,v,.bool true])/\Fr [] w m/\PRow m c d (aM t a b).1.us/\(c=E\/w.heap.size<=c)/\RefsA m w.heap.size v (aM t a b).2.1 (aM t a b).2.2:=by
 have bc:t.us.length<=100:=D.len
 have az:0 < t.us.length:=by
  have:=D.bs
  dsimp only at this
  rcases Nat.eq_zero_or_pos t.us.length with e|e
  ·rw [List.length_eq_zero_iff] at e
   rw [e] at this
   simp at this
  exact e
 have M:Hi (∀ (m:World) (v1 v2:Value),Fr [] w m->CmdV m v1 a->CmdV m v2 b->Calls Tryz.prog 74 #[.agg (aQ t (.slice (some ⟨E,0,none⟩) t.us.length n)).toArray,v1,v2] m fun e ac =>
   ∃ v c d,e=.returned (.tuple #[.agg (aQ (aM t a b).1 (.slice (some ⟨c,0,none⟩) (aM t a b).1.us.length d)).toArray,v])/\Fr [] m ac/\PRow ac c d (aM t a b).1.us/\(c=E\/m.heap.size<=c)/\RefsA ac m.heap.size v (aM t a b).2.1 (aM t a b).2.2) :=
  fun m v1 v2 hf h1 h2=>yP E n t a b v1 v2 m (ap.fr0 hf) D (u.fr hf (by simp)) (by omega) az ht.1 h1 h2 (by omega) (by omega)
 obtain ⟨gl,C⟩:∃ x,x=aQ t (.slice (some ⟨E,0,none⟩) t.us.length n):=⟨_,rfl⟩
 have am:gl.length=149:=by rw [C];exact fC _ _
 have al:gl.toArray[0]?=some (ii t.turn):=by rw [C];simp [aQ,aN]
 rw [<- C] at M |-
 have Zr:Hi ((Tryz.prog.info? 90).map (·.size)=some gl.toArray.size):=by
  show _=_
  rw [dE,List.size_toArray,am]
 have HR:=aA hr
 have ah:Hi (E < w.heap.size):=u.lt
 clear C am hr u ap D
 go_enter Tryz.func42,Tryz.ntmps42
 go_wp2_with fail
 obtain ⟨W2,r⟩:∃ W,W=(w.alloc (.cells gl.toArray 90)).alloc (.cells Tryz.zeroCells90 90):=⟨_,rfl⟩
 rw [<- r]
 have bb:Fr [] w W2:=by rw [r];exact ((Fr.refl _ _).alloc _).alloc _
 have O:W2.heap[w.heap.size]?=some (.cells gl.toArray 90):=by rw [r];exact (fD _ _ _ (by simp)).trans (aC _ _)
 have q:W2.heap[w.heap.size+1]?=some (.cells Tryz.zeroCells90 90):=by rw [r];exact cR _ _ _
 obtain ⟨G,hG⟩:∃ x,x=w.heap.size:=⟨_,rfl⟩
 obtain ⟨N,hN⟩:∃ x,x=w.heap.size+1:=⟨_,rfl⟩
 have an:w.heap.size+1 < W2.heap.size:=aH q
 rw [<- hG] at O |-
 rw [<- hG] at hN an q
 rw [<- hN] at an q |-
 have HG:=aA hG
 have HN:=aA hN
 clear r hG hN
 refine Calls.mono (PA t.turn a b l W2 HR.o hl ha hb) ?_
 rintro e z ⟨v1,v2,rfl,X,Y,B⟩
 dsimp only
 have aa:=bb.then0 B
 have p:=B.heap0 O
 have P:=B.heap0 q
 have aj:=uN X
 have ak:=uN Y
 obtain ⟨g,j,rfl⟩:=oM X
 obtain ⟨i,k,rfl⟩:=oM Y
 have g0:(z.alloc (.cells #[ii t.turn,.slice g a.length j,.slice i b.length k] 106)).cell? ⟨G,0,none⟩=some (ii t.turn):=(((Fr.refl [] z).alloc _).cell G 0 (aH p) (by simp)).trans ((aB p).trans al)
 have be:=aH p
 have F:=M.o (z.alloc (.cells #[ii t.turn,.slice g a.length j,.slice i b.length k] 106)) _ _ (aa.alloc _) (aj.fr0 ((Fr.refl [] z).alloc _)) (ak.fr0 ((Fr.refl [] z).alloc _))
 have ag:=aA F
 have ad:Hi ((z.alloc (.cells #[ii t.turn,.slice g a.length j,.slice i b.length k] 106)).heap[G]?=some (.cells gl.toArray 90)):=((Fr.refl [] z).alloc _).heap0 p
 have L:=(show Hi _ from (((Fr.refl [] z).alloc (.cells #[ii t.turn,.slice g a.length j,.slice i b.length k] 106)).heap0 P))
 clear M F X Y aj ak O q p P al HR
 have bg:¬ (1000000000:Int)<=t.turn:=by omega
 go_wp2_with (refine wpList_load_row rfl 90 _ rfl G rfl 90 gl.toArray (0,0) _ ad.o Tryz.underlying90 rfl Zr.o ?_)
 refine Calls.mono ag.o ?_
 rintro e w4 ⟨v4,ab,H,rfl,R,y,I,ba⟩
 dsimp only
 obtain ⟨f,s⟩:∃ x,x=aQ (aM t a b).1 (.slice (some ⟨ab,0,none⟩) (aM t a b).1.us.length H):=⟨_,rfl⟩
 have V:f.length=149:=by rw [s];exact fC _ _
 have af:Hi (f.toArray.all (·.oneCell')=true):=by
  show _=_
  rw [s];exact jS _ _ _ _
 have A:Hi ((Tryz.prog.info? 90).map (·.size)=some f.toArray.size):=by
  show _=_
  rw [dE,List.size_toArray,V]
 have aw:Hi (Tryz.zeroCells90.size=f.toArray.size):=by
  show _=_
  exact zcGame.trans (by simp [V])
 have ae:=(show Hi _ from R.heap0 L.o)
 have Zq:=aA s
 rw [<- s]
 obtain ⟨ar,x0,x1,aq,_⟩:=ba
 have J:RefsA w4 (z.alloc (.cells #[ii t.turn,.slice g a.length j,.slice i b.length k] 106)).heap.size v4 (aM t a b).2.1 (aM t a b).2.2:=⟨ar,x0,x1,aq,by assumption⟩
 subst aq
 have au:=(show Hi _ from J)
 have ax:Fr [] w w4:=(aa.alloc _).then0 R
 have bf:w.heap.size < N:=by have:=HN.o;have:=HG.o;omega
 have ao:w.heap.size<=(z.alloc (.cells #[ii t.turn,.slice g a.length j,.slice i b.length k] 106)).heap.size:=(aa.alloc _).size
 have P:N < z.heap.size:=by
  have:=aH L.o
  have h5:=B.size
  omega
 have ai:=aA y
 have bd:E < w.heap.size:=ah.o
 clear s V R ag J y L ad g0
 have K:Hi ((w4.setRow N f.toArray).heap[N]?=some (.cells f.toArray 90)):=setRow_heap _ _ _ _ _ _ ae.o
 have av:Hi (f.toArray.size=f.toArray.size):=rfl
 go_wp2_with (first|(refine wpList_store_row rfl 90 _ _ rfl N f.toArray rfl rfl 90 Tryz.zeroCells90 ae.o A.o aw.o af.o ?_)|(refine wpList_load_row rfl 90 _ rfl N rfl 90 f.toArray (0,0) _ K.o Tryz.underlying90 rfl A.o ?_)|(refine wpList_store_row rfl 90 _ _ rfl N f.toArray rfl rfl 90 f.toArray K.o A.o av.o af.o ?_))
 obtain ⟨W6,Q⟩:∃ W,W=(w4.setRow N f.toArray).setRow N f.toArray:=⟨_,rfl⟩
 rw [<- Q]
 have S:Fr [N] w4 W6:=by rw [Q];exact ((Fr.refl _ _).setRow _ _ (Or.inl (by simp))).setRow _ _ (Or.inl (by simp))
 have ay:W6.heap[N]?=some (.cells f.toArray 90):=by rw [Q];exact setRow_heap _ _ _ _ _ _ K.o
 refine bodyPost_ret (v:=.tuple #[.agg f.toArray,.slice (some ⟨ar,0,none⟩) 2 2,.bool true]) (QW Tryz.results42 _ _ N 90 f.toArray (0,0) _ _ _ rfl rfl rfl ay Tryz.underlying90 rfl A.o) rfl ⟨_,ab,H,by rw [Zq.o],ax.trans S (by simp;omega),?_,?_,?_⟩
 ·refine PRow.fr ai.o S (fun e=>?_)
  have e':ab=N:=by simpa using e
  rcases I with h|h
  ·omega
  simp at h;omega
 ·rcases I with h|h
  ·exact Or.inl h
  exact Or.inr (Nat.le_trans ao h)
 have h:=(show RefsA _ _ _ _ _ from au.o)
 have h':=h.fr S (fun x hx=>by
  have:x=N:=by simpa using hx
  simp
  omega)
 exact h'.low ao
