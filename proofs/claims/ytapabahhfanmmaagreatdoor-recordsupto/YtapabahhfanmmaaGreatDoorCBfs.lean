import Derived.Test.YtapabahhfanmmaaGreatDoorCSign
import Derived.Maps.OwnSet
import Derived.Defers
namespace Go.Proofs.YtapabahhfanmmaaGreatDoor
open Go.RowKit List
set_option maxRecDepth 100000
set_option maxHeartbeats 1000000
theorem Fr.grown {S:List Nat}{a b c:World}{row:Option Nat}(h:Fr S a b)(d:b.grownBy c row)(f:∀ k,row=some k->k∈S\/a.heap.size<=k):Fr S a c :=
 ⟨d.os.trans h.os,d.tape.trans h.tape,d.output.trans h.output,Nat.le_trans h.size d.size,fun i hi hn =>
  (d.block i (Nat.lt_of_lt_of_le hi h.size) (fun e=>by rcases f i e.symm with h1|h1;exact hn h1;omega)).trans (h.block i hi hn)⟩
theorem bW {S:List Nat}{w c:World}{base:Nat}{e:TypeId}{size:Nat}{v:Value}{n:Nat}{xs:List Value}(h:w.ownsRow base e size v n xs)(d:Fr S w c)(hn:∀ g,v.ownBlock=some g->g∉S):c.ownsRow base e size v n xs:=by
 obtain ⟨h1,b⟩:=h
 refine ⟨h1,?_⟩
 rcases b with b|⟨g,a,cur,rfl,hb,f,r⟩
 ·exact .inl b
 exact .inr ⟨g,a,cur,rfl,hb,d.heap f (hn g rfl),r⟩
theorem oN {w:World}{base:Nat}{e:TypeId}{size:Nat}{v:Value}{n:Nat}{xs:List Value}(h:w.ownsRow base e size v n xs):∀ k,v.ownBlock=some k->base<=k:=by
 obtain ⟨_,c⟩:=h
 rcases c with ⟨rfl,_⟩|⟨g,b,cur,rfl,hb,_⟩
 ·intro k a;simp [Value.ownBlock] at a
 intro k a;simp [Value.ownBlock] at a;omega
theorem jP (w:World)(cs:List Value)(t:TypeId)(b:Nat)(hb:w.heap.size=b):∀ j u,cs[j]?=some u->(w.alloc (.cells cs.toArray t)).cell? ((⟨b,0,none⟩:Addr).add j)=some u:=by
 intro j u a
 subst hb
 have:((⟨w.heap.size,0,none⟩:Addr).add j)=⟨w.heap.size,j,none⟩:=by unfold Addr.add;split <;> simp_all
 rw [this,aB (aC w _)]
 simpa using a
def sds:List (Int×Int):=[(0,-1),(1,0),(0,1),(-1,0)]
def aG (x y:Int):List (Int×Int):=(sds.map fun s=>(x+s.1,y+s.2)).filter fun c=>aD c.1 c.2
abbrev eJ (l:List (Int×Int)):List Value:=l.flatMap fun c=>[ii c.1,ii c.2]
theorem qZ:(Tryz.prog.info? 159).map (fun i=>(i.zero,i.size,i.bytes))=some (some (cv 0 0),2,16):=by kernel_rfl
def aR (x y:Int)(k:Nat):List (Int×Int):=((sds.take k).map fun s=>(x+s.1,y+s.2)).filter fun c=>aD c.1 c.2
theorem oH (x y:Int):aR x y 4=aG x y:=rfl
theorem mO (x y:Int)(k:Nat):(aR x y k).length<=k:=by
 unfold aR
 exact Nat.le_trans (length_filter_le _ _) (by simp;omega)
theorem jW (x y:Int)(k:Nat)(s:Int×Int)(h:sds[k]?=some s)(hb:aD (x+s.1) (y+s.2)=true):aR x y (k+1)=aR x y k ++ [(x+s.1,y+s.2)]:=by
 obtain ⟨hl,a⟩:=gs.1 h
 unfold aR
 rw [take_succ_eq_append_getElem hl,map_append,filter_append,a]
 simp [hb]
theorem jV (x y:Int)(k:Nat)(s:Int×Int)(h:sds[k]?=some s)(hb:aD (x+s.1) (y+s.2)=false):aR x y (k+1)=aR x y k:=by
 obtain ⟨hl,a⟩:=gs.1 h
 unfold aR
 rw [take_succ_eq_append_getElem hl,map_append,filter_append,a]
 simp [hb]
theorem rJ (x y:Int)(w:World)(D:Sd w)(h1:-1000<=x)(Q:x<=1000)(R:-1000<=y)(S:y<=1000) :
  Cs 198 #[cv x y] w fun e M=>∃ v,e=.returned v/\Fr [] w M/\M.ownsRow (w.heap.size+1) 159 2 v (aG x y).length (eJ (aG x y)):=by
 obtain ⟨s0,s1,s2,s3,s4,s5,s6,s7⟩:=D.cells
 have L:=D.pos
 obtain ⟨u,hi,r,s,t⟩:=info_parts qZ
 go_enter Tryz.func198,Tryz.ntmps198
 go_wp2
 go_loopw [3,8] (fun v i wr=>∃ k:Nat,k<=4/\i=.int .i64 k/\Fr [] (w.alloc (.cells #[ii x,ii y] 159)) wr/\wr.ownsRow (w.heap.size+1) 159 2 v (aR x y k).length (eJ (aR x y k))) (fun _ i _=>4 - (intOf i).toNat)
 case atStart=>exact ⟨0,by omega,rfl,r0 _ _,rfl,.inl ⟨rfl,rfl⟩⟩
 obtain ⟨k,V,rfl,C,hown⟩:=hrel
 have E:=C.heap0 (aC w _)
 have O:ca wr w.heap.size 0 (ii x):=aB E
 have P:ca wr w.heap.size 1 (ii y):=aB E
 have N:w.heap.size < wr.heap.size:=aH E
 clear E
 have W:=AF
 have X:=AG
 have Y:=AH
 have i3:=AJ
 rcases (show k=0\/k=1\/k=2\/k=3\/k=4 by omega) with rfl|rfl|rfl|rfl|rfl
 ·obtain ⟨B,m⟩:∃ B,aD x (y + -1)=B:=⟨_,rfl⟩
  have j:=aA m
  clear m
  have n:=mO x y 0
  go_wp2_with fail
  refine (jX _ _ _ B j.o).mono ?_
  rintro e h ⟨rfl,c⟩
  have d:=((C.alloc _).alloc _).then0 c
  have a:=bW hown (((r0 [] wr).alloc _).alloc _ |>.then0 c) (by simp)
  have b:=c.heap0 (cR wr _ _)
  have H:ca h (wr.heap.size+1) 0 (ii x):=aB b
  have I:ca h (wr.heap.size+1) 1 (ii (y + -1)):=aB b
  have z:w.heap.size+1<=h.heap.size:=by have:=d.size;simp at this;omega
  have F:=aA b
  clear b
  cases B
  ·have hn:aR x y (0+1)=aR x y 0:=jV x y 0 (0,(-1)) rfl (by simpa using j.o)
   have l:=aA hn
   clear hn
   go_wp2
   go_roundw
   case rel=>exact ⟨0+1,by omega,rfl,d,by rw [l.o];exact a⟩
   case measure=>simp [intOf]
  have hn:aR x y (0+1)=aR x y 0 ++ [(x,(y + -1))]:=by
   rw [jW x y 0 (0,(-1)) rfl (by simpa using j.o)];simp
  have l:=aA hn
  clear hn
  go_wp2_with (first
   | (at_builtin;refine wpList_append_own _ rfl _ _ 269 rfl (w.heap.size+1) 159 u (cv 0 0) 2 16 Tryz.underlying269 hi r s t rfl (by decide) _ _ _ rfl (bW a ((r0 [] h).alloc _) (by simp)) ⟨h.heap.size,0,none⟩ 1 1 [ii x,ii (y + -1)] rfl rfl (jP h [ii x,ii (y + -1)] _ _ rfl) (by simp [Value.oneCell']) (by unfold maxLen;omega) (by omega) (by simp;omega) ?_;intro J K g f p)
   | fail)
  go_roundw
  case rel=>exact ⟨0+1,by omega,rfl,(d.alloc _).grown f (fun q A=>.inr (by have:=oN a q A;simp;omega)),by rw [l.o];simpa [eJ] using g⟩
  case measure=>simp [intOf]
 ·obtain ⟨B,m⟩:∃ B,aD (x+1) y=B:=⟨_,rfl⟩
  have j:=aA m
  clear m
  have n:=mO x y 1
  go_wp2_with fail
  refine (jX _ _ _ B j.o).mono ?_
  rintro e h ⟨rfl,c⟩
  have d:=((C.alloc _).alloc _).then0 c
  have a:=bW hown (((r0 [] wr).alloc _).alloc _ |>.then0 c) (by simp)
  have b:=c.heap0 (cR wr _ _)
  have H:ca h (wr.heap.size+1) 0 (ii (x+1)):=aB b
  have I:ca h (wr.heap.size+1) 1 (ii y):=aB b
  have z:w.heap.size+1<=h.heap.size:=by have:=d.size;simp at this;omega
  have F:=aA b
  clear b
  cases B
  ·have hn:aR x y (1+1)=aR x y 1:=jV x y 1 (1,0) rfl (by simpa using j.o)
   have l:=aA hn
   clear hn
   go_wp2
   go_roundw
   case rel=>exact ⟨1+1,by omega,rfl,d,by rw [l.o];exact a⟩
   case measure=>simp [intOf]
  have hn:aR x y (1+1)=aR x y 1 ++ [((x+1),y)]:=by
   rw [jW x y 1 (1,0) rfl (by simpa using j.o)];simp
  have l:=aA hn
  clear hn
  go_wp2_with (first
   | (at_builtin;refine wpList_append_own _ rfl _ _ 269 rfl (w.heap.size+1) 159 u (cv 0 0) 2 16 Tryz.underlying269 hi r s t rfl (by decide) _ _ _ rfl (bW a ((r0 [] h).alloc _) (by simp)) ⟨h.heap.size,0,none⟩ 1 1 [ii (x+1),ii y] rfl rfl (jP h [ii (x+1),ii y] _ _ rfl) (by simp [Value.oneCell']) (by unfold maxLen;omega) (by omega) (by simp;omega) ?_;intro J K g f p)
   | fail)
  go_roundw
  case rel=>exact ⟨1+1,by omega,rfl,(d.alloc _).grown f (fun q A=>.inr (by have:=oN a q A;simp;omega)),by rw [l.o];simpa [eJ] using g⟩
  case measure=>simp [intOf]
 ·obtain ⟨B,m⟩:∃ B,aD x (y+1)=B:=⟨_,rfl⟩
  have j:=aA m
  clear m
  have n:=mO x y 2
  go_wp2_with fail
  refine (jX _ _ _ B j.o).mono ?_
  rintro e h ⟨rfl,c⟩
  have d:=((C.alloc _).alloc _).then0 c
  have a:=bW hown (((r0 [] wr).alloc _).alloc _ |>.then0 c) (by simp)
  have b:=c.heap0 (cR wr _ _)
  have H:ca h (wr.heap.size+1) 0 (ii x):=aB b
  have I:ca h (wr.heap.size+1) 1 (ii (y+1)):=aB b
  have z:w.heap.size+1<=h.heap.size:=by have:=d.size;simp at this;omega
  have F:=aA b
  clear b
  cases B
  ·have hn:aR x y (2+1)=aR x y 2:=jV x y 2 (0,1) rfl (by simpa using j.o)
   have l:=aA hn
   clear hn
   go_wp2
   go_roundw
   case rel=>exact ⟨2+1,by omega,rfl,d,by rw [l.o];exact a⟩
   case measure=>simp [intOf]
  have hn:aR x y (2+1)=aR x y 2 ++ [(x,(y+1))]:=by
   rw [jW x y 2 (0,1) rfl (by simpa using j.o)];simp
  have l:=aA hn
  clear hn
  go_wp2_with (first
   | (at_builtin;refine wpList_append_own _ rfl _ _ 269 rfl (w.heap.size+1) 159 u (cv 0 0) 2 16 Tryz.underlying269 hi r s t rfl (by decide) _ _ _ rfl (bW a ((r0 [] h).alloc _) (by simp)) ⟨h.heap.size,0,none⟩ 1 1 [ii x,ii (y+1)] rfl rfl (jP h [ii x,ii (y+1)] _ _ rfl) (by simp [Value.oneCell']) (by unfold maxLen;omega) (by omega) (by simp;omega) ?_;intro J K g f p)
   | fail)
  go_roundw
  case rel=>exact ⟨2+1,by omega,rfl,(d.alloc _).grown f (fun q A=>.inr (by have:=oN a q A;simp;omega)),by rw [l.o];simpa [eJ] using g⟩
  case measure=>simp [intOf]
 ·obtain ⟨B,m⟩:∃ B,aD (x + -1) y=B:=⟨_,rfl⟩
  have j:=aA m
  clear m
  have n:=mO x y 3
  go_wp2_with fail
  refine (jX _ _ _ B j.o).mono ?_
  rintro e h ⟨rfl,c⟩
  have d:=((C.alloc _).alloc _).then0 c
  have a:=bW hown (((r0 [] wr).alloc _).alloc _ |>.then0 c) (by simp)
  have b:=c.heap0 (cR wr _ _)
  have H:ca h (wr.heap.size+1) 0 (ii (x + -1)):=aB b
  have I:ca h (wr.heap.size+1) 1 (ii y):=aB b
  have z:w.heap.size+1<=h.heap.size:=by have:=d.size;simp at this;omega
  have F:=aA b
  clear b
  cases B
  ·have hn:aR x y (3+1)=aR x y 3:=jV x y 3 ((-1),0) rfl (by simpa using j.o)
   have l:=aA hn
   clear hn
   go_wp2
   go_roundw
   case rel=>exact ⟨3+1,by omega,rfl,d,by rw [l.o];exact a⟩
   case measure=>simp [intOf]
  have hn:aR x y (3+1)=aR x y 3 ++ [((x + -1),y)]:=by
   rw [jW x y 3 ((-1),0) rfl (by simpa using j.o)];simp
  have l:=aA hn
  clear hn
  go_wp2_with (first
   | (at_builtin;refine wpList_append_own _ rfl _ _ 269 rfl (w.heap.size+1) 159 u (cv 0 0) 2 16 Tryz.underlying269 hi r s t rfl (by decide) _ _ _ rfl (bW a ((r0 [] h).alloc _) (by simp)) ⟨h.heap.size,0,none⟩ 1 1 [ii (x + -1),ii y] rfl rfl (jP h [ii (x + -1),ii y] _ _ rfl) (by simp [Value.oneCell']) (by unfold maxLen;omega) (by omega) (by simp;omega) ?_;intro J K g f p)
   | fail)
  go_roundw
  case rel=>exact ⟨3+1,by omega,rfl,(d.alloc _).grown f (fun q A=>.inr (by have:=oN a q A;simp;omega)),by rw [l.o];simpa [eJ] using g⟩
  case measure=>simp [intOf]
 go_wp2
 go_ret
 exact ⟨_,rfl,((r0 _ _).alloc _).then0 C,hown⟩
theorem GH (a b c d:Int)(w:World):(Op.equal 159 (cv a b) (cv c d)).run Tryz.prog w=.ok (a==c&&b==d) w:=by
 have h:=qL a b c d w
 rw [show binOp BinOp.eql 159 (cv a b) (cv c d)=(Op.equal 159 (cv a b) (cv c d) >>= fun r=>pure (.bool r)) from rfl,Sem.run_bind] at h
 cases e:(Op.equal 159 (cv a b) (cv c d)).run Tryz.prog w with
 | ok v f=>simpa [e,Result.andThen] using h
 | halt x f=>simp [e,Result.andThen] at h
theorem kW (c:Bool)(a b:Int)(w:World):(Instr.checkKey c 10000 159 (cv a b)).run Tryz.prog w=.ok () w:=by kernel_rfl
theorem SM (a b:Int)(w:World):(Instr.keyThatStays (cv a b) (cv a b)).run Tryz.prog w=.ok (cv a b) w:=by
 have:Instr.sameBits 10000 (cv a b) (cv a b)=true:=by simp [Instr.sameBits]
 simp [Instr.keyThatStays,this]
theorem tJ (x y:Int)(w:World):∀ (l:List ((Int×Int)×Value)) (a:List MapEntry) (i:Nat),a.map (fun e=>(e.key,e.val))=l.map (fun p=>(cv p.1.1 p.1.2,p.2)) ->
  (Instr.findAsking 159 (cv x y) a i).run Tryz.prog w=.ok (match l.findIdx? (fun p=>p.1==(x,y)) with|some j=>some (i+j,((l[j]?).map (·.2)).getD undef)|none=>none) w
 | [],[],i,_=>by simp [Instr.findAsking]
 | [],_ :: _,_,h=>by simp at h
 | _ :: _,[],_,h=>by simp at h
 | p :: l,e :: a,i,h=>by
  simp only [map_cons,cons.injEq,Prod.mk.injEq] at h
  obtain ⟨⟨f,g⟩,ht⟩:=h
  have k:=tJ x y w l a (i+1) ht
  simp only [Instr.findAsking,f,Sem.run_bind,GH,Result.andThen_ok,findIdx?_cons]
  by_cases c:p.1=(x,y)
  ·rw [c]
   simp [g]
  have h1:(p.1==(x,y))=false:=by simp [c]
  have d:(x==p.1.1&&y==p.1.2)=false:=by
   rw [Bool.eq_false_iff];intro b;apply c;simp at b;rw [b.1,b.2]
  rw [h1,d]
  simp only [Bool.false_eq_true,if_false,k]
  cases m:l.findIdx? (fun p=>p.1==(x,y)) with
  | none=>simp
  | some j=>simp [Nat.add_assoc,Nat.add_comm 1 j]
theorem nW (x y:Int)(w:World)(l:List ((Int×Int)×Value))(a:List MapEntry)(h:a.map (fun e=>(e.key,e.val))=l.map (fun p=>(cv p.1.1 p.1.2,p.2))) :
  (Instr.findKey 159 (cv x y) a).run Tryz.prog w=.ok (match l.findIdx? (fun p=>p.1==(x,y)) with|some j=>some (j,((l[j]?).map (·.2)).getD undef)|none=>none) w:=by
 unfold Instr.findKey
 rw [Sem.run_bind,run_underlying Tryz.underlying159]
 simp only [Result.andThen_ok]
 cases a with
 | nil =>
  cases l with
  | nil=>simp [Instr.findNow]
  | cons _ _=>simp at h
 | cons e a =>
  have hn:Instr.findNow (.struct #[{ name := "X",type:=3,offset:=0,embedded:=false,tag := "",pkgPath := "",byteOffset:=0 },{ name := "Y",type:=3,offset:=1,embedded:=false,tag := "",pkgPath := "",byteOffset:=8 }]) (cv x y) (e :: a) 0=none:=by
   simp [Instr.findNow,Instr.sameNow]
  rw [hn]
  simp only
  have:=tJ x y w l (e :: a) 0 h
  simpa using this
theorem jC {α:Type}(q:α->Bool):∀ (l:List α),(∃ j p,l.findIdx? q=some j/\l[j]?=some p/\q p=true/\l.find? q=some p)\/(l.findIdx? q=none/\l.find? q=none)
 | []=>.inr ⟨rfl,rfl⟩
 | a :: l=>by
  cases b:q a with
  | true=>exact .inl ⟨0,a,by simp [findIdx?_cons,b],rfl,b,by simp [b]⟩
  | false =>
   rcases jC q l with ⟨j,p,h1,c,d,e⟩|⟨h1,c⟩
   ·exact .inl ⟨j+1,p,by simp [findIdx?_cons,b,h1],by simpa using c,d,by simp [b,e]⟩
   exact .inr ⟨by simp [findIdx?_cons,b,h1],by simp [b,c]⟩
def MapF (w:World)(r:Nat)(f:Int×Int->Option Value):Prop :=
 ∃ (l:List ((Int×Int)×Value)) (a:Array MapEntry) (clock:Nat),w.heap[r]?=some (.map a clock)/\a.toList.map (fun e=>(e.key,e.val))=l.map (fun p=>(cv p.1.1 p.1.2,p.2)) /\
  (l.map (·.1)).Nodup/\∀ k,(l.find? (fun p=>p.1==k)).map (·.2)=f k
theorem MapF.fr {S:List Nat}{w a:World}{r:Nat}{f:Int×Int->Option Value}(h:MapF w r f)(c:Fr S w a)(hn:r∉S):MapF a r f:=by
 obtain ⟨l,b,clock,hb,d⟩:=h
 exact ⟨l,b,clock,c.heap hb hn,d⟩
theorem MapF.lt {w:World}{r:Nat}{f:Int×Int->Option Value}(h:MapF w r f):r < w.heap.size:=by
 obtain ⟨l,a,clock,hb,b⟩:=h
 exact aH hb
theorem MapF.made {w:World}{r clock:Nat}(h:w.heap[r]?=some (.map #[] clock)):MapF w r (fun _=>none) :=
  ⟨[],#[],clock,h,rfl,by simp,by simp⟩
theorem MapF.look {w:World}{r:Nat}{f:Int×Int->Option Value}(h:MapF w r f)(t e:TypeId)(ht:Tryz.prog.underlying t=some (.map 159 e))(z:Value)(hz:(zeroValue e).run Tryz.prog w=.ok z w)(x y:Int) :
  (Instr.lookup t (.map (some r)) (cv x y) true).run Tryz.prog w=.ok (.tuple #[(f (x,y)).getD z,.bool (f (x,y)).isSome]) w:=by
 obtain ⟨l,b,clock,hb,hl,_,d⟩:=h
 rw [<- d (x,y)]
 have g:=nW x y w l b.toList hl
 simp only [Instr.lookup,Sem.run_bind,run_underlying ht,Result.andThen_ok,MapKept.run_getObj_map hb,Sem.run_pure,kW,g]
 rcases jC (fun p:(Int×Int)×Value=>p.1==(x,y)) l with ⟨j,p,h1,a,i,c⟩|⟨h1,a⟩
 ·rw [h1,c]
  simp [a]
 rw [h1,a]
 simp [hz]
theorem MapF.look1 {w:World}{r:Nat}{f:Int×Int->Option Value}(h:MapF w r f)(t e:TypeId)(ht:Tryz.prog.underlying t=some (.map 159 e))(z:Value)(hz:(zeroValue e).run Tryz.prog w=.ok z w)(x y:Int) :
  (Instr.lookup t (.map (some r)) (cv x y) false).run Tryz.prog w=.ok ((f (x,y)).getD z) w:=by
 obtain ⟨l,b,clock,hb,hl,_,d⟩:=h
 rw [<- d (x,y)]
 have g:=nW x y w l b.toList hl
 simp only [Instr.lookup,Sem.run_bind,run_underlying ht,Result.andThen_ok,MapKept.run_getObj_map hb,Sem.run_pure,kW,g]
 rcases jC (fun p:(Int×Int)×Value=>p.1==(x,y)) l with ⟨j,p,h1,a,i,c⟩|⟨h1,a⟩
 ·rw [h1,c]
  simp [a]
 rw [h1,a]
 simp [hz]
theorem Fr.setObj {S:List Nat}{a b:World}(h:Fr S a b)(r:Nat)(o:Obj)(c:r∈S\/a.heap.size<=r):Fr S a { b with heap:=b.heap.setIfInBounds r o } :=
 ⟨h.os,h.tape,h.output,by simpa using h.size,fun i hi hn=>by
  show (b.heap.setIfInBounds r o)[i]?=_
  rw [Array.getElem?_setIfInBounds_ne (fun e=>by subst e;rcases c with h1|h1;exact hn h1;omega)];exact h.block i hi hn⟩
theorem LZ {l:List ((Int×Int)×Value)}(hn:(l.map (·.1)).Nodup){j a:Nat}{p i:(Int×Int)×Value}(h:l[j]?=some p)(k:l[a]?=some i)(f:p.1=i.1):j=a:=by
 obtain ⟨h1,rfl⟩:=gs.1 h
 obtain ⟨e,rfl⟩:=gs.1 k
 have g:=pairwise_iff_getElem.1 hn
 rcases Nat.lt_trichotomy j a with d|b|c
 ·exact absurd (by rw [getElem_map,getElem_map];exact f) (g j a (by simpa using h1) (by simpa using e) d)
 ·exact b
 exact absurd (by rw [getElem_map,getElem_map];exact f.symm) (g a j (by simpa using e) (by simpa using h1) c)
def lG (l:List ((Int×Int)×Value))(k:Int×Int)(v:Value):List ((Int×Int)×Value):=l.map fun p=>if p.1=k then (k,v) else p
theorem LN (l:List ((Int×Int)×Value))(k:Int×Int)(v:Value):(lG l k v).map (·.1)=l.map (·.1):=by
 unfold lG
 rw [map_map]
 apply map_congr_left
 intro p _
 simp only [Function.comp]
 split <;> simp_all
theorem LM (l:List ((Int×Int)×Value))(k a:Int×Int)(v:Value):((lG l k v).find? (fun p=>p.1==a)).map (·.2)=if a=k then (l.find? (fun p=>p.1==k)).map (fun _=>v) else (l.find? (fun p=>p.1==a)).map (·.2):=by
 unfold lG
 rw [find?_map]
 have c:((fun p:(Int×Int)×Value=>p.1==a) ∘ fun p=>if p.1=k then (k,v) else p)=fun p=>p.1==a:=by
  funext p;simp only [Function.comp];split <;> simp_all
 rw [c]
 split
 ·subst a
  cases h:l.find? (fun p=>p.1==k) with
  | none=>simp
  | some p =>
   have:=find?_some h
   simp at this
   simp [this]
 rename_i b
 cases h:l.find? (fun p=>p.1==a) with
 | none=>simp
 | some p =>
  have:=find?_some h
  simp at this
  simp [this,b]
theorem xC (k:Int×Int):∀ (l:List ((Int×Int)×Value)) (a:Int×Int),((l.filter fun p=>p.1 != k).find? (fun p=>p.1==a)).map (·.2)=if a=k then none else (l.find? (fun p=>p.1==a)).map (·.2)
 | [],a=>by simp
 | p :: l,a=>by
  have f:=xC k l a
  by_cases c:p.1=k
  ·rw [filter_cons_of_neg (by simp [c]),f]
   split
   ·rfl
   rename_i d
   rw [find?_cons_of_neg (by simp [c];exact fun e=>d e.symm)]
  rw [filter_cons_of_pos (by simp [c])]
  by_cases b:p.1=a
  ·rw [find?_cons_of_pos (by simp [b]),find?_cons_of_pos (by simp [b]),if_neg (fun e=>c (b.trans e))]
  rw [find?_cons_of_neg (by simp [b]),find?_cons_of_neg (by simp [b])];exact f
theorem mL {α β:Type}(g:α->β):∀ (l:List α) (j:Nat),(l.eraseIdx j).map g=(l.map g).eraseIdx j
 | [],_=>by simp
 | _ :: _,0=>by simp
 | a :: l,j+1=>by simp [mL g l j]
theorem uR (k:Int×Int):∀ (l:List ((Int×Int)×Value)) (j:Nat),(l.map (·.1)).Nodup->l.findIdx? (fun p=>p.1==k)=some j->l.eraseIdx j=l.filter fun p=>p.1 != k
 | [],_,_,h=>by simp at h
 | p :: l,j,hn,h=>by
  simp only [map_cons,nodup_cons] at hn
  rw [findIdx?_cons] at h
  by_cases a:p.1=k
  ·simp [a] at h
   subst h
   rw [filter_cons_of_neg (by simp [a]),eraseIdx_zero,tail_cons]
   symm
   rw [filter_eq_self]
   intro q c
   simp only [bne_iff_ne,ne_eq]
   intro e
   exact hn.1 (mem_map.2 ⟨q,c,by rw [e,a]⟩)
  have b:(p.1==k)=false:=by simp [a]
  rw [b] at h
  simp only [Bool.false_eq_true,if_false,Option.map_eq_some_iff] at h
  obtain ⟨d,h1,rfl⟩:=h
  rw [filter_cons_of_pos (by simp [a]),eraseIdx_cons_succ,uR k l d hn.2 h1]
theorem MapF.update {w:World}{r:Nat}{f:Int×Int->Option Value}(h:MapF w r f)(t e:TypeId)(ht:Tryz.prog.underlying t=some (.map 159 e))(x y:Int)(v:Value) :
  ∃ o,(Instr.mapUpdate t (.map (some r)) (cv x y) v).run Tryz.prog w=.ok () { w with heap:=w.heap.setIfInBounds r o }/\MapF { w with heap:=w.heap.setIfInBounds r o } r (fun k=>if k=(x,y) then some v else f k):=by
 obtain ⟨l,c,clock,hb,hl,s,F⟩:=h
 have C:=aH hb
 have H:=nW x y w l c.toList hl
 have g:∀ o,({ w with heap:=w.heap.setIfInBounds r o }:World).heap[r]?=some o:=fun o=>by
  show (w.heap.setIfInBounds r o)[r]?=_
  simp [C]
 rcases jC (fun p:(Int×Int)×Value=>p.1==(x,y)) l with ⟨j,p,h1,d,J,K⟩|⟨h1,d⟩
 ·have D:p.1=(x,y):=by simpa using J
  have N:j < l.length:=(gs.1 d).1
  have z:(c[j]?).map (·.key)=some (cv x y):=by
   have:=congrArg (fun q=>q[j]?) hl
   simp only [getElem?_map,d,Option.map_some] at this
   have L:c[j]?=c.toList[j]?:=by simp
   rw [L]
   cases A:c.toList[j]? with
   | none=>simp [A] at this
   | some I=>rw [A] at this;simp only [Option.map_some,Option.some.injEq,Prod.mk.injEq] at this;simp [this.1,D]
  refine ⟨.map (c.modify j fun e=>{ e with key:=cv x y,val:=v }) clock,?_,lG l (x,y) v,c.modify j fun e=>{ e with key:=cv x y,val:=v },clock,g _,?_,?_,?_⟩
  ·simp [Instr.mapUpdate,run_underlying ht,MapKept.run_getObj_map hb,kW,H,h1,z,SM,MapKept.run_setObj_map _ hb,Result.andThen]
  ·apply ext_getElem?
   intro i
   have hi:=congrArg (fun q=>q[i]?) hl
   simp only [getElem?_map,lG,Array.getElem?_toList,Array.getElem?_modify] at hi |-
   by_cases m:j=i
   ·subst m
    rw [if_pos rfl,d]
    rw [d] at hi
    cases A:c[j]? with
    | none=>simp [A] at hi
    | some I=>simp [D]
   rw [if_neg m]
   cases B:l[i]? with
   | none=>rw [B] at hi;simpa using hi
   | some q =>
    have E:¬ q.1=(x,y):=fun e=>m (LZ s d B (D.trans e.symm))
    rw [B] at hi
    simpa [E] using hi
  ·rw [LN];exact s
  intro k
  rw [LM,K,F k]
  rfl
 refine ⟨.map (c.push { key:=cv x y,val:=v,born:=clock }) (clock+1),?_,l ++ [((x,y),v)],c.push { key:=cv x y,val:=v,born:=clock },clock+1,g _,?_,?_,?_⟩
 ·simp [Instr.mapUpdate,run_underlying ht,MapKept.run_getObj_map hb,kW,H,h1,MapKept.run_setObj_map _ hb,Result.andThen]
 ·simp [hl]
 ·rw [map_append,nodup_append]
  refine ⟨s,by simp,?_⟩
  intro a M b u e
  simp only [map_cons,map_nil,mem_singleton] at u
  obtain ⟨q,E,rfl⟩:=mem_map.1 M
  have:=find?_eq_none.1 d q E
  simp at this
  exact this (e.trans u)
 intro k
 dsimp only
 rw [find?_append]
 by_cases n:k=(x,y)
 ·subst n;rw [d];simp
 rw [if_neg n,<- F k]
 have:([((x,y),v)]:List ((Int×Int)×Value)).find? (fun p=>p.1==k)=none:=by simp;exact fun e=>n (by rw [<- e])
 rw [this];simp
theorem MapF.del {w:World}{r:Nat}{f:Int×Int->Option Value}(h:MapF w r f)(t ty q e:TypeId)(ht:Tryz.prog.underlying t=some (.map 159 e))(x y:Int) :
  ∃ o,(Builtin.delete_ #[t,q] ty #[.map (some r),cv x y]).run Tryz.prog w=.ok (.tuple #[]) { w with heap:=w.heap.setIfInBounds r o }/\MapF { w with heap:=w.heap.setIfInBounds r o } r (fun k=>if k=(x,y) then none else f k):=by
 obtain ⟨l,c,clock,hb,hl,b,m⟩:=h
 have g:=aH hb
 have n:=nW x y w l c.toList hl
 have a:∀ o,({ w with heap:=w.heap.setIfInBounds r o }:World).heap[r]?=some o:=fun o=>by
  show (w.heap.setIfInBounds r o)[r]?=_
  simp [g]
 rcases jC (fun p:(Int×Int)×Value=>p.1==(x,y)) l with ⟨j,p,h1,i,s,u⟩|⟨h1,i⟩
 ·refine ⟨.map (c.eraseIdxIfInBounds j) clock,?_,l.filter (fun p=>p.1 != (x,y)),c.eraseIdxIfInBounds j,clock,a _,?_,?_,?_⟩
  ·simp [Builtin.delete_,run_underlying ht,MapKept.run_getObj_map hb,kW,n,h1,MapKept.run_setObj_map _ hb,Result.andThen]
  ·rw [<- uR (x,y) l j b h1,Array.toList_eraseIdxIfInBounds,mL,mL,hl]
  ·exact Nodup.sublist (Sublist.map _ filter_sublist) b
  intro k;rw [xC,m k]
 refine ⟨.map c clock,?_,l,c,clock,a _,hl,b,?_⟩
 ·simp [Builtin.delete_,run_underlying ht,MapKept.run_getObj_map hb,kW,n,h1,MapKept.run_setObj_map _ hb,Result.andThen]
 intro k
 dsimp only
 by_cases d:k=(x,y)
 ·subst d;rw [if_pos rfl,i];rfl
 rw [if_neg d];exact m k
theorem MapF.clear {w:World}{r:Nat}{f:Int×Int->Option Value}(h:MapF w r f)(t ty e:TypeId)(ht:Tryz.prog.underlying t=some (.map 159 e)) :
  ∃ o,(Builtin.clear_ #[t] ty #[.map (some r)]).run Tryz.prog w=.ok (.tuple #[]) { w with heap:=w.heap.setIfInBounds r o }/\MapF { w with heap:=w.heap.setIfInBounds r o } r (fun _=>none):=by
 obtain ⟨l,c,clock,hb,hl,b,d⟩:=h
 have a:=aH hb
 refine ⟨.map #[] clock,?_,MapF.made (clock:=clock) ?_⟩
 ·simp [Builtin.clear_,run_underlying ht,MapKept.run_getObj_map hb,MapKept.run_setObj_map _ hb,Result.andThen]
 show (w.heap.setIfInBounds r _)[r]?=_
 simp [a]
abbrev sv (k:List UInt8):Value:=.string ⟨k.toArray⟩
theorem BD (a b:List UInt8):((⟨a.toArray⟩:ByteArray)==⟨b.toArray⟩)=(a==b):=by
 show (a.toArray==b.toArray)=_
 simp
theorem jQ (a:Bool)(k:List UInt8)(w:World):(Instr.checkKey a 10000 9 (sv k)).run Tryz.prog w=.ok () w:=by
 rw [show (10000:Nat)=9999+1 from rfl,Instr.checkKey]
 simp only [Sem.run_bind,run_underlying Tryz.underlying9,Result.andThen_ok]
 rfl
theorem SN (k:List UInt8)(w:World):(Instr.keyThatStays (sv k) (sv k)).run Tryz.prog w=.ok (sv k) w:=by
 have:Instr.sameBits 10000 (sv k) (sv k)=true:=by simp [Instr.sameBits,BD]
 simp [Instr.keyThatStays,this]
theorem tK (x:List UInt8):∀ (l:List (List UInt8×Value)) (a:List MapEntry) (i:Nat),a.map (fun e=>(e.key,e.val))=l.map (fun p=>(sv p.1,p.2)) ->
  Instr.findNow .string (sv x) a i=some (match l.findIdx? (fun p=>p.1==x) with|some j=>some (i+j,((l[j]?).map (·.2)).getD undef)|none=>none)
 | [],[],i,_=>by simp [Instr.findNow]
 | [],_ :: _,_,h=>by simp at h
 | _ :: _,[],_,h=>by simp at h
 | p :: l,e :: a,i,h=>by
  simp only [map_cons,cons.injEq,Prod.mk.injEq] at h
  obtain ⟨⟨f,g⟩,ht⟩:=h
  have k:=tK x l a (i+1) ht
  simp only [Instr.findNow,f,Instr.sameNow,BD,findIdx?_cons]
  by_cases b:p.1=x
  ·rw [b]
   simp [g]
  have h1:(p.1==x)=false:=by simp [b]
  have c:(x==p.1)=false:=by
   rw [Bool.eq_false_iff];intro d;apply b;simpa using (eq_of_beq d).symm
  rw [h1,c]
  simp only [Bool.false_eq_true,if_false,k]
  cases m:l.findIdx? (fun p=>p.1==x) with
  | none=>simp
  | some j=>simp [Nat.add_assoc,Nat.add_comm 1 j]
theorem nX (x:List UInt8)(w:World)(l:List (List UInt8×Value))(a:List MapEntry)(h:a.map (fun e=>(e.key,e.val))=l.map (fun p=>(sv p.1,p.2))) :
  (Instr.findKey 9 (sv x) a).run Tryz.prog w=.ok (match l.findIdx? (fun p=>p.1==x) with|some j=>some (j,((l[j]?).map (·.2)).getD undef)|none=>none) w:=by
 unfold Instr.findKey
 rw [Sem.run_bind,run_underlying Tryz.underlying9]
 simp only [Result.andThen_ok]
 rw [tK x l a 0 h]
 simp
def MapS (w:World)(r:Nat)(f:List UInt8->Option Value):Prop :=
 ∃ (l:List (List UInt8×Value)) (a:Array MapEntry) (clock:Nat),w.heap[r]?=some (.map a clock)/\a.toList.map (fun e=>(e.key,e.val))=l.map (fun p=>(sv p.1,p.2)) /\
  (l.map (·.1)).Nodup/\MapKept.Stamped a clock/\∀ k,(l.find? (fun p=>p.1==k)).map (·.2)=f k
theorem MapS.fr {S:List Nat}{w a:World}{r:Nat}{f:List UInt8->Option Value}(h:MapS w r f)(c:Fr S w a)(hn:r∉S):MapS a r f:=by
 obtain ⟨l,b,clock,hb,d⟩:=h
 exact ⟨l,b,clock,c.heap hb hn,d⟩
theorem MapS.made {w:World}{r clock:Nat}(h:w.heap[r]?=some (.map #[] clock)):MapS w r (fun _=>none) :=
  ⟨[],#[],clock,h,rfl,by simp,MapKept.stamped_empty clock,by simp⟩
theorem MapS.congr {w:World}{r:Nat}{f g:List UInt8->Option Value}(h:MapS w r f)(e:∀ k,f k=g k):MapS w r g:=by
 obtain ⟨l,a,clock,hb,h1,b,hs,c⟩:=h
 exact ⟨l,a,clock,hb,h1,b,hs,fun k=>(c k).trans (e k)⟩
theorem MapS.look {w:World}{r:Nat}{f:List UInt8->Option Value}(h:MapS w r f)(t e:TypeId)(ht:Tryz.prog.underlying t=some (.map 9 e))(z:Value)(hz:(zeroValue e).run Tryz.prog w=.ok z w)(x:List UInt8) :
  (Instr.lookup t (.map (some r)) (sv x) true).run Tryz.prog w=.ok (.tuple #[(f x).getD z,.bool (f x).isSome]) w:=by
 obtain ⟨l,b,clock,hb,hl,_,_,d⟩:=h
 rw [<- d x]
 have g:=nX x w l b.toList hl
 simp only [Instr.lookup,Sem.run_bind,run_underlying ht,Result.andThen_ok,MapKept.run_getObj_map hb,Sem.run_pure,jQ,g]
 rcases jC (fun p:List UInt8×Value=>p.1==x) l with ⟨j,p,h1,a,i,c⟩|⟨h1,a⟩
 ·rw [h1,c]
  simp [a]
 rw [h1,a]
 simp [hz]
theorem MapS.look1 {w:World}{r:Nat}{f:List UInt8->Option Value}(h:MapS w r f)(t e:TypeId)(ht:Tryz.prog.underlying t=some (.map 9 e))(z:Value)(hz:(zeroValue e).run Tryz.prog w=.ok z w)(x:List UInt8) :
  (Instr.lookup t (.map (some r)) (sv x) false).run Tryz.prog w=.ok ((f x).getD z) w:=by
 obtain ⟨l,b,clock,hb,hl,_,_,d⟩:=h
 rw [<- d x]
 have g:=nX x w l b.toList hl
 simp only [Instr.lookup,Sem.run_bind,run_underlying ht,Result.andThen_ok,MapKept.run_getObj_map hb,Sem.run_pure,jQ,g]
 rcases jC (fun p:List UInt8×Value=>p.1==x) l with ⟨j,p,h1,a,i,c⟩|⟨h1,a⟩
 ·rw [h1,c]
  simp [a]
 rw [h1,a]
 simp [hz]
theorem MA {l:List (List UInt8×Value)}(hn:(l.map (·.1)).Nodup){j a:Nat}{p i:List UInt8×Value}(h:l[j]?=some p)(k:l[a]?=some i)(f:p.1=i.1):j=a:=by
 obtain ⟨h1,rfl⟩:=gs.1 h
 obtain ⟨e,rfl⟩:=gs.1 k
 have g:=pairwise_iff_getElem.1 hn
 rcases Nat.lt_trichotomy j a with d|b|c
 ·exact absurd (by rw [getElem_map,getElem_map];exact f) (g j a (by simpa using h1) (by simpa using e) d)
 ·exact b
 exact absurd (by rw [getElem_map,getElem_map];exact f.symm) (g a j (by simpa using e) (by simpa using h1) c)
def lH (l:List (List UInt8×Value))(k:List UInt8)(v:Value):List (List UInt8×Value):=l.map fun p=>if p.1=k then (k,v) else p
theorem LP (l:List (List UInt8×Value))(k:List UInt8)(v:Value):(lH l k v).map (·.1)=l.map (·.1):=by
 unfold lH
 rw [map_map]
 apply map_congr_left
 intro p _
 simp only [Function.comp]
 split <;> simp_all
theorem LO (l:List (List UInt8×Value))(k a:List UInt8)(v:Value):((lH l k v).find? (fun p=>p.1==a)).map (·.2)=if a=k then (l.find? (fun p=>p.1==k)).map (fun _=>v) else (l.find? (fun p=>p.1==a)).map (·.2):=by
 unfold lH
 rw [find?_map]
 have c:((fun p:List UInt8×Value=>p.1==a) ∘ fun p=>if p.1=k then (k,v) else p)=fun p=>p.1==a:=by
  funext p;simp only [Function.comp];split <;> simp_all
 rw [c]
 split
 ·subst a
  cases h:l.find? (fun p=>p.1==k) with
  | none=>simp
  | some p =>
   have:=find?_some h
   simp at this
   simp [this]
 rename_i b
 cases h:l.find? (fun p=>p.1==a) with
 | none=>simp
 | some p =>
  have:=find?_some h
  simp at this
  simp [this,b]
theorem xB (k:List UInt8):∀ (l:List (List UInt8×Value)) (a:List UInt8),((l.filter fun p=>p.1 != k).find? (fun p=>p.1==a)).map (·.2)=if a=k then none else (l.find? (fun p=>p.1==a)).map (·.2)
 | [],a=>by simp
 | p :: l,a=>by
  have f:=xB k l a
  by_cases c:p.1=k
  ·rw [filter_cons_of_neg (by simp [c]),f]
   split
   ·rfl
   rename_i d
   rw [find?_cons_of_neg (by simp [c];exact fun e=>d e.symm)]
  rw [filter_cons_of_pos (by simp [c])]
  by_cases b:p.1=a
  ·rw [find?_cons_of_pos (by simp [b]),find?_cons_of_pos (by simp [b]),if_neg (fun e=>c (b.trans e))]
  rw [find?_cons_of_neg (by simp [b]),find?_cons_of_neg (by simp [b])];exact f
theorem uS (k:List UInt8):∀ (l:List (List UInt8×Value)) (j:Nat),(l.map (·.1)).Nodup->l.findIdx? (fun p=>p.1==k)=some j->l.eraseIdx j=l.filter fun p=>p.1 != k
 | [],_,_,h=>by simp at h
 | p :: l,j,hn,h=>by
  simp only [map_cons,nodup_cons] at hn
  rw [findIdx?_cons] at h
  by_cases a:p.1=k
  ·simp [a] at h
   subst h
   rw [filter_cons_of_neg (by simp [a]),eraseIdx_zero,tail_cons]
   symm
   rw [filter_eq_self]
   intro q c
   simp only [bne_iff_ne,ne_eq]
   intro e
   exact hn.1 (mem_map.2 ⟨q,c,by rw [e,a]⟩)
  have b:(p.1==k)=false:=by simp [a]
  rw [b] at h
  simp only [Bool.false_eq_true,if_false,Option.map_eq_some_iff] at h
  obtain ⟨d,h1,rfl⟩:=h
  rw [filter_cons_of_pos (by simp [a]),eraseIdx_cons_succ,uS k l d hn.2 h1]
theorem MapS.update {w:World}{r:Nat}{f:List UInt8->Option Value}(h:MapS w r f)(t e:TypeId)(ht:Tryz.prog.underlying t=some (.map 9 e))(x:List UInt8)(v:Value) :
  ∃ o,(Instr.mapUpdate t (.map (some r)) (sv x) v).run Tryz.prog w=.ok () { w with heap:=w.heap.setIfInBounds r o }/\MapS { w with heap:=w.heap.setIfInBounds r o } r (fun k=>if k=x then some v else f k):=by
 obtain ⟨l,c,clock,hb,hl,u,B,K⟩:=h
 have I:=aH hb
 have L:=nX x w l c.toList hl
 have m:∀ o,({ w with heap:=w.heap.setIfInBounds r o }:World).heap[r]?=some o:=fun o=>by
  show (w.heap.setIfInBounds r o)[r]?=_
  simp [I]
 rcases jC (fun p:List UInt8×Value=>p.1==x) l with ⟨j,p,h1,g,N,O⟩|⟨h1,g⟩
 ·have J:p.1=x:=by simpa using N
  have Q:j < l.length:=(gs.1 g).1
  have d:(c[j]?).map (·.key)=some (sv x):=by
   have:=congrArg (fun q=>q[j]?) hl
   simp only [getElem?_map,g,Option.map_some] at this
   have C:c[j]?=c.toList[j]?:=by simp
   rw [C]
   cases y:c.toList[j]? with
   | none=>simp [y] at this
   | some M=>rw [y] at this;simp only [Option.map_some,Option.some.injEq,Prod.mk.injEq] at this;simp [this.1,J]
  refine ⟨.map (c.modify j fun e=>{ e with key:=sv x,val:=v }) clock,?_,lH l x v,c.modify j fun e=>{ e with key:=sv x,val:=v },clock,m _,?_,?_,?_,?_⟩
  ·simp [Instr.mapUpdate,run_underlying ht,MapKept.run_getObj_map hb,jQ,L,h1,d,SN,MapKept.run_setObj_map _ hb,Result.andThen]
  ·apply ext_getElem?
   intro i
   have hi:=congrArg (fun q=>q[i]?) hl
   simp only [getElem?_map,lH,Array.getElem?_toList,Array.getElem?_modify] at hi |-
   by_cases n:j=i
   ·subst n
    rw [if_pos rfl,g]
    rw [g] at hi
    cases y:c[j]? with
    | none=>simp [y] at hi
    | some M=>simp [J]
   rw [if_neg n]
   cases D:l[i]? with
   | none=>rw [D] at hi;simpa using hi
   | some q =>
    have A:¬ q.1=x:=fun e=>n (MA u g D (J.trans e.symm))
    rw [D] at hi
    simpa [A] using hi
  ·rw [LP];exact u
  ·refine MapKept.stamped_modify B j _ (fun _ _=>rfl) (fun e _ E=>?_)
   rw [E] at d
   simpa using d.symm
  intro k
  rw [LO,O,K k]
  rfl
 refine ⟨.map (c.push { key:=sv x,val:=v,born:=clock }) (clock+1),?_,l ++ [(x,v)],c.push { key:=sv x,val:=v,born:=clock },clock+1,m _,?_,?_,?_,?_⟩
 ·simp [Instr.mapUpdate,run_underlying ht,MapKept.run_getObj_map hb,jQ,L,h1,MapKept.run_setObj_map _ hb,Result.andThen]
 ·simp [hl]
 ·rw [map_append,nodup_append]
  refine ⟨u,by simp,?_⟩
  intro a P b z e
  simp only [map_cons,map_nil,mem_singleton] at z
  obtain ⟨q,A,rfl⟩:=mem_map.1 P
  have:=find?_eq_none.1 g q A
  simp at this
  exact this (e.trans z)
 ·refine MapKept.stamped_push B (fun e E H=>?_)
  have hm:(e.key,e.val)∈c.toList.map (fun e=>(e.key,e.val)):=mem_map.2 ⟨e,E,rfl⟩
  rw [hl] at hm
  obtain ⟨q,A,F⟩:=mem_map.1 hm
  have C:=find?_eq_none.1 g q A
  simp at C
  have y:sv q.1=sv x:=(congrArg Prod.fst F).trans H
  exact C (by simpa [sv] using y)
 intro k
 dsimp only
 rw [find?_append]
 by_cases s:k=x
 ·subst s;rw [g];simp
 rw [if_neg s,<- K k]
 have:([(x,v)]:List (List UInt8×Value)).find? (fun p=>p.1==k)=none:=by simp;exact fun e=>s e.symm
 rw [this];simp
theorem MapS.del {w:World}{r:Nat}{f:List UInt8->Option Value}(h:MapS w r f)(t ty s e:TypeId)(ht:Tryz.prog.underlying t=some (.map 9 e))(x:List UInt8) :
  ∃ o,(Builtin.delete_ #[t,s] ty #[.map (some r),sv x]).run Tryz.prog w=.ok (.tuple #[]) { w with heap:=w.heap.setIfInBounds r o }/\MapS { w with heap:=w.heap.setIfInBounds r o } r (fun k=>if k=x then none else f k):=by
 obtain ⟨l,c,clock,hb,hl,b,g,n⟩:=h
 have i:=aH hb
 have q:=nX x w l c.toList hl
 have a:∀ o,({ w with heap:=w.heap.setIfInBounds r o }:World).heap[r]?=some o:=fun o=>by
  show (w.heap.setIfInBounds r o)[r]?=_
  simp [i]
 rcases jC (fun p:List UInt8×Value=>p.1==x) l with ⟨j,p,h1,m,u,v⟩|⟨h1,m⟩
 ·refine ⟨.map (c.eraseIdxIfInBounds j) clock,?_,l.filter (fun p=>p.1 != x),c.eraseIdxIfInBounds j,clock,a _,?_,?_,MapKept.stamped_erase g j,?_⟩
  ·simp [Builtin.delete_,run_underlying ht,MapKept.run_getObj_map hb,jQ,q,h1,MapKept.run_setObj_map _ hb,Result.andThen]
  ·rw [<- uS x l j b h1,Array.toList_eraseIdxIfInBounds,mL,mL,hl]
  ·exact Nodup.sublist (Sublist.map _ filter_sublist) b
  intro k;rw [xB,n k]
 refine ⟨.map c clock,?_,l,c,clock,a _,hl,b,g,?_⟩
 ·simp [Builtin.delete_,run_underlying ht,MapKept.run_getObj_map hb,jQ,q,h1,MapKept.run_setObj_map _ hb,Result.andThen]
 intro k
 dsimp only
 by_cases d:k=x
 ·subst d;rw [if_pos rfl,m];rfl
 rw [if_neg d];exact n k
structure TV (w:World) (tb hb:Nat) (held:Int×Int->Option Value) (bd:Nat->Int):Prop where
 c:w.cell? ⟨tb,149,none⟩=some (.map (some hb))
 m:MapF w hb held
 b:BdAt w tb bd
theorem TV.fr {S:List Nat}{w f:World}{a hb:Nat}{held:Int×Int->Option Value}{e:Nat->Int}(h:TV w a hb held e)(d:Fr S w f)(h1:a∉S)(g:hb∉S):TV f a hb held e :=
  ⟨by rw [d.cell a _ (aI h.c) h1];exact h.c,h.m.fr d g,h.b.fr d h1⟩
def bX (held:Int×Int->Option Value)(a:Nat->Int)(x y:Int):Bool := !(held (x,y)).isSome&&a (ci x y)==0
theorem CB (w:World):(zeroValue 3).run Tryz.prog w=.ok (.int .i64 0) w:=by kernel_rfl
theorem pL (w:World):(zeroValue 159).run Tryz.prog w=.ok (cv 0 0) w:=by kernel_rfl
theorem qS (q hb:Nat)(held:Int×Int->Option Value)(g:Nat->Int)(x y:Int)(w:World)(j:TV w q hb held g)(h:aD x y=true) :
  Cs 199 #[.pointer (so q),cv x y] w fun e D=>e=.returned (.bool (bX held g x y))/\Fr [] w D:=by
 have i:∀ n o,(Instr.lookup 205 (.map (some hb)) (cv x y) true).run Tryz.prog ((w.alloc o).drewN n)=.ok (.tuple #[(held (x,y)).getD (ii 0),.bool (held (x,y)).isSome]) ((w.alloc o).drewN n):=fun n o =>
  (j.m.fr (((r0 [] w).alloc o).drewN n) (by simp)).look _ _ Tryz.underlying205 _ (CB _) x y
 have d:∀ o,(Instr.lookup 205 (.map (some hb)) (cv x y) true).run Tryz.prog ((w.alloc o).drew)=.ok (.tuple #[(held (x,y)).getD (ii 0),.bool (held (x,y)).isSome]) ((w.alloc o).drew):=fun o =>
  (j.m.fr (((r0 [] w).alloc o).drew) (by simp)).look _ _ Tryz.underlying205 _ (CB _) x y
 have l:=eK h
 obtain ⟨t,u,A,C⟩:=bM.1 h
 have a:=j.b _ l
 have r:=j.c
 have s:=aI r
 obtain ⟨v,f⟩:∃ v,v=g (ci x y):=⟨_,rfl⟩
 rw [<- f] at a
 obtain ⟨z,hz⟩:∃ z,z=(held (x,y)).getD (ii 0):=⟨_,rfl⟩
 rw [<- hz] at i d
 obtain ⟨B,k⟩:∃ B,B=(held (x,y)).isSome:=⟨_,rfl⟩
 rw [<- k] at i d
 have p:Hi (bX held g x y=(!B&&v==0)):=by show bX held g x y=_;unfold bX;rw [k,f]
 clear f hz k
 unfold ci at a
 rw [<- Nat.add_assoc] at a
 cases B
 ·go_enter Tryz.func199,Tryz.ntmps199
  go_wp2
  go_quiet (fail)
  go_wp2
  go_quiet (fail)
  go_wp2
  go_ret
  exact ⟨by rw [p.o];rfl,by repeat (first|exact r0 _ _|refine Fr.drewN ?_ _|refine Fr.alloc ?_ _)⟩
 go_enter Tryz.func199,Tryz.ntmps199
 go_wp2
 go_quiet (fail)
 go_wp2
 go_quiet (fail)
 go_wp2
 go_ret
 exact ⟨by rw [p.o];rfl,by repeat (first|exact r0 _ _|refine Fr.drewN ?_ _|refine Fr.alloc ?_ _)⟩
theorem AW {P:Program} {fr:Frame} {cs:List Frame} {w w':World} {args:Array Value} {ds:List Deferred} {b:Builtin} {at_:Array TypeId} {ty:TypeId} {consts:Array Bool} {v:Value}
  (hm:fr.mode=.returning) (hd:fr.defers={ target:=.builtin b at_ ty consts,args } :: ds) (hi:(invoke (.builtin b at_ ty consts) args).run P w=.ok (.value v) w') :
  step P (lone fr cs w)=.next (lone { fr with defers:=ds } cs w'):=by
 refine step_lone_go ?_
 simp [stepG,unwind,callDeferred,hm,hd,hi]
def EB (P:Program)(fn:Func)(R:Ending->World->Prop):Exit->Act->World->Prop
 | .normal,a,w|.ret,a,w=>∃ b at_ ty consts args v0 w',a.defers=[{ target:=.builtin b at_ ty consts,args }]/\(invoke (.builtin b at_ ty consts) args).run P w=.ok (.value v0) w'/\∃ v,(results fn a.tmps).run P w'=.ok v w'/\R (.returned v) w'
 | .outgrown,_,w=>R .outgrown w
 | _,_,_=>False
theorem uJ {P:Program} {f:FuncId} {fn:Func} {c:Code} {args:Array Value} {w:World} {R:Ending->World->Prop}
  (hf:P.funcs[f]?=some fn) (hb:fn.body=some c)
  (h:c.wp P (EB P fn R) { tmps:=args ++ Array.replicate (fn.ntmps - args.size) undef,defers:=[] } w):Calls P f args w R:=by
 intro cs
 let b:Frame:={ (default:Frame) with fn:=f,kind:=.normal }
 have henter:Frame.enter P f args .normal =
   b.at { tmps:=args ++ Array.replicate (fn.ntmps - args.size) undef,defers:=[] } [.code c]:=by
  simp [Frame.enter,Frame.at,hf,hb,b]
 obtain ⟨e,a',w',hq,harr⟩:=h b [] cs
 rw [<- henter] at harr
 cases e with
 | normal =>
  obtain ⟨bb,at_,ty,consts,ar,v0,w2,hd,hi,v,hr,hR⟩:=hq
  have h1:=AW (fr:={ b.at a' [] with mode:=.returning }) (cs:=cs) rfl hd hi
  exact ⟨.returned v,w2,_,hR,Comes.of_steps (Steps.trans harr (.one step_end)) (Steps.one h1),rfl,rfl,rfl,rfl,fn,hf,hr⟩
 | ret =>
  obtain ⟨todo,hs₀⟩:=harr
  obtain ⟨bb,at_,ty,consts,ar,v0,w2,hd,hi,v,hr,hR⟩:=hq
  have h1:=AW (fr:={ b.at a' todo with mode:=.returning }) (cs:=cs) rfl hd hi
  exact ⟨.returned v,w2,_,hR,Comes.of_steps hs₀ (Steps.one h1),rfl,rfl,rfl,rfl,fn,hf,hr⟩
 | panic chain=>exact hq.elim
 | exit id=>exact hq.elim
 | goto l=>exact hq.elim
 | outgrown=>exact ⟨.outgrown,w',b,hq,harr.resolve_left (by simp [b]),rfl,trivial⟩
abbrev Cl:=Int×Int
structure Bs where
 q:List Cl
 g:Cl->Option Cl
def bF (free ends:Cl->Bool)(i:Nat)(cur:Cl):List Cl->Bs->Sum Cl Bs
 | [],s=>.inr s
 | n :: ns,s =>
  if (s.g n).isSome || !free n then bF free ends i cur ns s
  else if ends n then .inl (if 0 < i then (s.g cur).getD (0,0) else n)
  else bF free ends i cur ns ⟨s.q ++ [n],fun k=>if k=n then some (if 0 < i then (s.g cur).getD (0,0) else n) else s.g k⟩
def cY (free ends:Cl->Bool)(a:Cl):Nat->Nat->Bs->Cl
 | 0,_,_=>a
 | fuel+1,i,s =>
  match s.q[i]? with
  | none=>a
  | some cur =>
   match bF free ends i cur (aG cur.1 cur.2) s with
   | .inl c=>c
   | .inr s'=>cY free ends a fuel (i+1) s'
def cQ (free ends:Cl->Bool)(a:Cl):Cl:=cY free ends a 146 0 ⟨[a],fun _=>none⟩
structure BInv (start:Cl) (s:Bs):Prop where
  q:∃ l,s.q=start :: l/\l.Nodup/\(∀ c∈l,aD c.1 c.2=true)/\∀ c,(s.g c).isSome=true↔c∈l
theorem BInv.start (a:Cl):BInv a ⟨[a],fun _=>none⟩:=⟨[],rfl,by simp,by simp,by simp⟩
theorem BInv.add {a:Cl}{s:Bs}(h:BInv a s)(n f:Cl)(hn:(s.g n).isSome=false)(ho:aD n.1 n.2=true):BInv a ⟨s.q ++ [n],fun k=>if k=n then some f else s.g k⟩:=by
 obtain ⟨l,h1,j,m,d⟩:=h
 refine ⟨l ++ [n],by simp [h1],?_,?_,?_⟩
 ·rw [nodup_append]
  refine ⟨j,by simp,fun x hx y i e=>?_⟩
  simp at i
  subst i
  subst e
  have:=(d x).2 hx
  rw [hn] at this
  cases this
 ·intro c b
  rcases mem_append.1 b with b|b
  ·exact m c b
  simp at b;subst b;exact ho
 intro c
 by_cases b:c=n
 ·simp [b]
 simp [b,d c]
theorem wP (p:Nat->Bool):∀ (l:List Nat),l.length=(l.filter p).length+(l.filter (fun x => !p x)).length
 | []=>rfl
 | a :: l=>by
  have:=wP p l
  cases h:p a <;> simp [h] <;> omega
theorem rK:∀ (n:Nat) (l:List Nat),l.Nodup->(∀ x∈l,x < n)->l.length<=n
 | 0,l,_,h=>by
  cases l with
  | nil=>simp
  | cons a l=>exact absurd (h a (by simp)) (by omega)
 | n+1,l,hn,h=>by
  have h1:=rK n (l.filter (fun x=>x != n)) (hn.sublist filter_sublist) (fun x hx=>by
   have b:=mem_filter.1 hx
   have:=h x b.1
   simp at b
   omega)
  have g:l.length<=(l.filter (fun x=>x != n)).length+1:=by
   have i:(l.filter (fun x => !(x != n))).length<=1:=by
    have d:∀ (m:List Nat),m.Nodup->(m.filter (fun x => !(x != n))).length<=1:=by
     intro m
     induction m with
     | nil=>simp
     | cons a m f =>
      intro hm
      rw [nodup_cons] at hm
      by_cases c:a=n
      ·subst c
       have:m.filter (fun x => !(x != a))=[]:=by
        rw [filter_eq_nil_iff]
        intro x hx
        simp
        intro e
        subst e
        exact hm.1 hx
       simp [this]
      rw [filter_cons_of_neg (by simp [c])]
      exact f hm.2
    exact d l hn
   have j:=wP (fun x=>x != n) l
   omega
  omega
theorem BInv.len {a:Cl}{s:Bs}(h:BInv a s):s.q.length<=145:=by
 obtain ⟨l,h1,i,b,_⟩:=h
 rw [h1]
 have:(l.map (fun c=>ci c.1 c.2)).length<=144:=by
  apply rK
  ·rw [Nodup,pairwise_map]
   apply Pairwise.imp_of_mem _ i
   intro c d f j g e
   apply g
   have k:=bM.1 (b c f)
   have m:=bM.1 (b d j)
   unfold ci at e
   apply Prod.ext <;> omega
  intro x hx
  obtain ⟨c,f,rfl⟩:=mem_map.1 hx
  exact eK (b c f)
 simp at this |-
 omega
theorem BInv.on {a:Cl}{s:Bs}(h:BInv a s)(e:aD a.1 a.2=true):∀ c∈s.q,aD c.1 c.2=true:=by
 obtain ⟨l,h1,_,d,_⟩:=h
 rw [h1]
 intro c b
 rcases mem_cons.1 b with rfl|b
 ·exact e
 exact d c b
theorem kJ (x y:Int):∀ c∈aG x y,aD c.1 c.2=true:=by
 intro c a
 exact (mem_filter.1 a).2
theorem rH (x y:Int):(aG x y).length<=4:=mO x y 4
theorem rI (x y:Int)(h:aD x y=true):0 < (aG x y).length:=by
 obtain ⟨h1,b,c,d⟩:=bM.1 h
 by_cases hx:x < 11
 ·exact length_pos_of_mem (a:=(x+1,y+0)) (mem_filter.2 ⟨by simp [sds],by rw [bM];simp;omega⟩)
 exact length_pos_of_mem (a:=(x + -1,y+0)) (mem_filter.2 ⟨by simp [sds],by rw [bM];simp;omega⟩)
