import Derived.Test.YtapabahhfanmmaaGreatDoorCSign
import Derived.Maps.OwnSet
import Derived.Defers
namespace Go.Proofs.YtapabahhfanmmaaGreatDoor
open Go.RowKit
set_option maxRecDepth 100000
set_option maxHeartbeats 1000000
theorem Fr.grown {S:List Nat}{a b c:World}{row:Option Nat}(h:Fr S a b)(hg:b.grownBy c row)(hr:∀ k,row=some k->k∈S\/a.heap.size<=k):Fr S a c :=
 ⟨hg.os.trans h.os,hg.tape.trans h.tape,hg.output.trans h.output,Nat.le_trans h.size hg.size,fun i hi hn =>
  (hg.block i (Nat.lt_of_lt_of_le hi h.size) (fun e=>by rcases hr i e.symm with h1|h1;exact hn h1;omega)).trans (h.block i hi hn)⟩
theorem qq8 {S:List Nat}{w w':World}{base:Nat}{e:TypeId}{size:Nat}{v:Value}{n:Nat}{xs:List Value}(h:w.ownsRow base e size v n xs)(hf:Fr S w w')(hn:∀ g,v.ownBlock=some g->g∉S):w'.ownsRow base e size v n xs:=by
 obtain ⟨h1,h2⟩:=h
 refine ⟨h1,?_⟩
 rcases h2 with h2|⟨g,cap,cur,rfl,hb,hg,r⟩
 ·exact Or.inl h2
 ·exact Or.inr ⟨g,cap,cur,rfl,hb,hf.heap hg (hn g rfl),r⟩
theorem zw8 {w:World}{base:Nat}{e:TypeId}{size:Nat}{v:Value}{n:Nat}{xs:List Value}(h:w.ownsRow base e size v n xs):∀ k,v.ownBlock=some k->base<=k:=by
 obtain ⟨_,h2⟩:=h
 rcases h2 with ⟨rfl,_⟩|⟨g,cap,cur,rfl,hb,_⟩
 ·intro k hk;simp [Value.ownBlock] at hk
 ·intro k hk;simp [Value.ownBlock] at hk;omega
theorem zx7 (w:World)(cs:List Value)(t:TypeId)(b:Nat)(hb:w.heap.size=b):∀ j u,cs[j]?=some u->(w.alloc (.cells cs.toArray t)).cell? ((⟨b,0,none⟩:Addr).add j)=some u:=by
 intro j u hu
 subst hb
 have:((⟨w.heap.size,0,none⟩:Addr).add j)=⟨w.heap.size,j,none⟩:=by unfold Addr.add;split <;> simp_all
 rw [this,j9 (qq6 w _)]
 simpa using hu
def sds:List (Int×Int):=[(0,-1),(1,0),(0,1),(-1,0)]
def qj0 (x y:Int):List (Int×Int):=(sds.map fun s=>(x+s.1,y+s.2)).filter fun c=>onB c.1 c.2
abbrev zq1 (l:List (Int×Int)):List Value:=l.flatMap fun c=>[ii c.1,ii c.2]
theorem vx7:(Tryz.prog.info? 159).map (fun i=>(i.zero,i.size,i.bytes))=some (some (cv 0 0),2,16):=by kernel_rfl
def qj2 (x y:Int)(k:Nat):List (Int×Int):=((sds.take k).map fun s=>(x+s.1,y+s.2)).filter fun c=>onB c.1 c.2
theorem vq8 (x y:Int):qj2 x y 4=qj0 x y:=rfl
theorem jx3 (x y:Int)(k:Nat):(qj2 x y k).length<=k:=by
 unfold qj2
 exact Nat.le_trans (List.length_filter_le _ _) (by simp;omega)
theorem zk0 (x y:Int)(k:Nat)(s:Int×Int)(h:sds[k]?=some s)(hb:onB (x+s.1) (y+s.2)=true):qj2 x y (k+1)=qj2 x y k ++ [(x+s.1,y+s.2)]:=by
 obtain ⟨hl,he⟩:=List.getElem?_eq_some_iff.1 h
 unfold qj2
 rw [List.take_succ_eq_append_getElem hl,List.map_append,List.filter_append,he]
 simp [hb]
theorem zw0 (x y:Int)(k:Nat)(s:Int×Int)(h:sds[k]?=some s)(hb:onB (x+s.1) (y+s.2)=false):qj2 x y (k+1)=qj2 x y k:=by
 obtain ⟨hl,he⟩:=List.getElem?_eq_some_iff.1 h
 unfold qj2
 rw [List.take_succ_eq_append_getElem hl,List.map_append,List.filter_append,he]
 simp [hb]
theorem jq4 (x y:Int)(w:World)(hsd:Sd w)(h1:-1000<=x)(h2:x<=1000)(h3:-1000<=y)(h4:y<=1000) :
  Calls Tryz.prog 198 #[cv x y] w fun e w'=>∃ v,e=.returned v/\Fr [] w w'/\w'.ownsRow (w.heap.size+1) 159 2 v (qj0 x y).length (zq1 (qj0 x y)):=by
 obtain ⟨s0,s1,s2,s3,s4,s5,s6,s7⟩:=hsd.cells
 have hpos:=hsd.pos
 obtain ⟨inf,hi,hz0,hz1,hz2⟩:=info_parts vx7
 go_enter Tryz.func198,Tryz.ntmps198
 go_wp2
 go_loopw [3,8] (fun v i wr=>∃ k:Nat,k<=4/\i=.int .i64 k/\Fr [] (w.alloc (.cells #[ii x,ii y] 159)) wr/\wr.ownsRow (w.heap.size+1) 159 2 v (qj2 x y k).length (zq1 (qj2 x y k))) (fun _ i _=>4 - (intOf i).toNat)
 case atStart=>exact ⟨0,by omega,rfl,Fr.refl _ _,rfl,Or.inl ⟨rfl,rfl⟩⟩
 case round =>
  obtain ⟨k,hk,rfl,hf,hown⟩:=hrel
  have hh:=hf.heap0 (qq6 w _)
  have d0:wr.cell? ⟨w.heap.size,0,none⟩=some (ii x):=j9 hh
  have d1:wr.cell? ⟨w.heap.size,1,none⟩=some (ii y):=j9 hh
  have hsz:w.heap.size < wr.heap.size:=qq2 hh
  clear hh
  have i0:=dy6
  have i1:=dy7
  have i2:=dy8
  have i3:=dy9
  rcases (show k=0\/k=1\/k=2\/k=3\/k=4 by omega) with rfl|rfl|rfl|rfl|rfl
  ·obtain ⟨B,hB⟩:∃ B,onB x (y + -1)=B:=⟨_,rfl⟩
   have HB:=hid hB
   clear hB
   have hlen:=jx3 x y 0
   go_wp2_with fail
   refine (qy1 _ _ _ B HB.out).mono ?_
   rintro e w1 ⟨rfl,hf1⟩
   have hff:=((hf.alloc _).alloc _).then0 hf1
   have hown1:=qq8 hown (((Fr.refl [] wr).alloc _).alloc _ |>.then0 hf1) (by simp)
   have hh1:=hf1.heap0 (qz4 wr _ _)
   have e0:w1.cell? ⟨wr.heap.size+1,0,none⟩=some (ii x):=j9 hh1
   have e1:w1.cell? ⟨wr.heap.size+1,1,none⟩=some (ii (y + -1)):=j9 hh1
   have hb1:w.heap.size+1<=w1.heap.size:=by have:=hff.size;simp at this;omega
   have H1:=hid hh1
   clear hh1
   cases B
   ·have hn:qj2 x y (0+1)=qj2 x y 0:=zw0 x y 0 (0,(-1)) rfl (by simpa using HB.out)
    have HN:=hid hn
    clear hn
    go_wp2
    go_roundw
    case rel=>exact ⟨0+1,by omega,rfl,hff,by rw [HN.out];exact hown1⟩
    case measure=>simp [intOf]
   ·have hn:qj2 x y (0+1)=qj2 x y 0 ++ [(x,(y + -1))]:=by
     rw [zk0 x y 0 (0,(-1)) rfl (by simpa using HB.out)];simp
    have HN:=hid hn
    clear hn
    go_wp2_with (first
     | (at_builtin;refine wpList_append_own _ rfl _ _ 269 rfl (w.heap.size+1) 159 inf (cv 0 0) 2 16 Tryz.underlying269 hi hz0 hz1 hz2 rfl (by decide) _ _ _ rfl (qq8 hown1 ((Fr.refl [] w1).alloc _) (by simp)) ⟨w1.heap.size,0,none⟩ 1 1 [ii x,ii (y + -1)] rfl rfl (zx7 w1 [ii x,ii (y + -1)] _ _ rfl) (by simp [Value.oneCell']) (by unfold maxLen;omega) (by omega) (by simp;omega) ?_;intro v' w2 hown' hgrow hnil)
     | fail)
    go_roundw
    case rel=>exact ⟨0+1,by omega,rfl,(hff.alloc _).grown hgrow (fun q hq=>Or.inr (by have:=zw8 hown1 q hq;simp;omega)),by rw [HN.out];simpa [zq1] using hown'⟩
    case measure=>simp [intOf]
  ·obtain ⟨B,hB⟩:∃ B,onB (x+1) y=B:=⟨_,rfl⟩
   have HB:=hid hB
   clear hB
   have hlen:=jx3 x y 1
   go_wp2_with fail
   refine (qy1 _ _ _ B HB.out).mono ?_
   rintro e w1 ⟨rfl,hf1⟩
   have hff:=((hf.alloc _).alloc _).then0 hf1
   have hown1:=qq8 hown (((Fr.refl [] wr).alloc _).alloc _ |>.then0 hf1) (by simp)
   have hh1:=hf1.heap0 (qz4 wr _ _)
   have e0:w1.cell? ⟨wr.heap.size+1,0,none⟩=some (ii (x+1)):=j9 hh1
   have e1:w1.cell? ⟨wr.heap.size+1,1,none⟩=some (ii y):=j9 hh1
   have hb1:w.heap.size+1<=w1.heap.size:=by have:=hff.size;simp at this;omega
   have H1:=hid hh1
   clear hh1
   cases B
   ·have hn:qj2 x y (1+1)=qj2 x y 1:=zw0 x y 1 (1,0) rfl (by simpa using HB.out)
    have HN:=hid hn
    clear hn
    go_wp2
    go_roundw
    case rel=>exact ⟨1+1,by omega,rfl,hff,by rw [HN.out];exact hown1⟩
    case measure=>simp [intOf]
   ·have hn:qj2 x y (1+1)=qj2 x y 1 ++ [((x+1),y)]:=by
     rw [zk0 x y 1 (1,0) rfl (by simpa using HB.out)];simp
    have HN:=hid hn
    clear hn
    go_wp2_with (first
     | (at_builtin;refine wpList_append_own _ rfl _ _ 269 rfl (w.heap.size+1) 159 inf (cv 0 0) 2 16 Tryz.underlying269 hi hz0 hz1 hz2 rfl (by decide) _ _ _ rfl (qq8 hown1 ((Fr.refl [] w1).alloc _) (by simp)) ⟨w1.heap.size,0,none⟩ 1 1 [ii (x+1),ii y] rfl rfl (zx7 w1 [ii (x+1),ii y] _ _ rfl) (by simp [Value.oneCell']) (by unfold maxLen;omega) (by omega) (by simp;omega) ?_;intro v' w2 hown' hgrow hnil)
     | fail)
    go_roundw
    case rel=>exact ⟨1+1,by omega,rfl,(hff.alloc _).grown hgrow (fun q hq=>Or.inr (by have:=zw8 hown1 q hq;simp;omega)),by rw [HN.out];simpa [zq1] using hown'⟩
    case measure=>simp [intOf]
  ·obtain ⟨B,hB⟩:∃ B,onB x (y+1)=B:=⟨_,rfl⟩
   have HB:=hid hB
   clear hB
   have hlen:=jx3 x y 2
   go_wp2_with fail
   refine (qy1 _ _ _ B HB.out).mono ?_
   rintro e w1 ⟨rfl,hf1⟩
   have hff:=((hf.alloc _).alloc _).then0 hf1
   have hown1:=qq8 hown (((Fr.refl [] wr).alloc _).alloc _ |>.then0 hf1) (by simp)
   have hh1:=hf1.heap0 (qz4 wr _ _)
   have e0:w1.cell? ⟨wr.heap.size+1,0,none⟩=some (ii x):=j9 hh1
   have e1:w1.cell? ⟨wr.heap.size+1,1,none⟩=some (ii (y+1)):=j9 hh1
   have hb1:w.heap.size+1<=w1.heap.size:=by have:=hff.size;simp at this;omega
   have H1:=hid hh1
   clear hh1
   cases B
   ·have hn:qj2 x y (2+1)=qj2 x y 2:=zw0 x y 2 (0,1) rfl (by simpa using HB.out)
    have HN:=hid hn
    clear hn
    go_wp2
    go_roundw
    case rel=>exact ⟨2+1,by omega,rfl,hff,by rw [HN.out];exact hown1⟩
    case measure=>simp [intOf]
   ·have hn:qj2 x y (2+1)=qj2 x y 2 ++ [(x,(y+1))]:=by
     rw [zk0 x y 2 (0,1) rfl (by simpa using HB.out)];simp
    have HN:=hid hn
    clear hn
    go_wp2_with (first
     | (at_builtin;refine wpList_append_own _ rfl _ _ 269 rfl (w.heap.size+1) 159 inf (cv 0 0) 2 16 Tryz.underlying269 hi hz0 hz1 hz2 rfl (by decide) _ _ _ rfl (qq8 hown1 ((Fr.refl [] w1).alloc _) (by simp)) ⟨w1.heap.size,0,none⟩ 1 1 [ii x,ii (y+1)] rfl rfl (zx7 w1 [ii x,ii (y+1)] _ _ rfl) (by simp [Value.oneCell']) (by unfold maxLen;omega) (by omega) (by simp;omega) ?_;intro v' w2 hown' hgrow hnil)
     | fail)
    go_roundw
    case rel=>exact ⟨2+1,by omega,rfl,(hff.alloc _).grown hgrow (fun q hq=>Or.inr (by have:=zw8 hown1 q hq;simp;omega)),by rw [HN.out];simpa [zq1] using hown'⟩
    case measure=>simp [intOf]
  ·obtain ⟨B,hB⟩:∃ B,onB (x + -1) y=B:=⟨_,rfl⟩
   have HB:=hid hB
   clear hB
   have hlen:=jx3 x y 3
   go_wp2_with fail
   refine (qy1 _ _ _ B HB.out).mono ?_
   rintro e w1 ⟨rfl,hf1⟩
   have hff:=((hf.alloc _).alloc _).then0 hf1
   have hown1:=qq8 hown (((Fr.refl [] wr).alloc _).alloc _ |>.then0 hf1) (by simp)
   have hh1:=hf1.heap0 (qz4 wr _ _)
   have e0:w1.cell? ⟨wr.heap.size+1,0,none⟩=some (ii (x + -1)):=j9 hh1
   have e1:w1.cell? ⟨wr.heap.size+1,1,none⟩=some (ii y):=j9 hh1
   have hb1:w.heap.size+1<=w1.heap.size:=by have:=hff.size;simp at this;omega
   have H1:=hid hh1
   clear hh1
   cases B
   ·have hn:qj2 x y (3+1)=qj2 x y 3:=zw0 x y 3 ((-1),0) rfl (by simpa using HB.out)
    have HN:=hid hn
    clear hn
    go_wp2
    go_roundw
    case rel=>exact ⟨3+1,by omega,rfl,hff,by rw [HN.out];exact hown1⟩
    case measure=>simp [intOf]
   ·have hn:qj2 x y (3+1)=qj2 x y 3 ++ [((x + -1),y)]:=by
     rw [zk0 x y 3 ((-1),0) rfl (by simpa using HB.out)];simp
    have HN:=hid hn
    clear hn
    go_wp2_with (first
     | (at_builtin;refine wpList_append_own _ rfl _ _ 269 rfl (w.heap.size+1) 159 inf (cv 0 0) 2 16 Tryz.underlying269 hi hz0 hz1 hz2 rfl (by decide) _ _ _ rfl (qq8 hown1 ((Fr.refl [] w1).alloc _) (by simp)) ⟨w1.heap.size,0,none⟩ 1 1 [ii (x + -1),ii y] rfl rfl (zx7 w1 [ii (x + -1),ii y] _ _ rfl) (by simp [Value.oneCell']) (by unfold maxLen;omega) (by omega) (by simp;omega) ?_;intro v' w2 hown' hgrow hnil)
     | fail)
    go_roundw
    case rel=>exact ⟨3+1,by omega,rfl,(hff.alloc _).grown hgrow (fun q hq=>Or.inr (by have:=zw8 hown1 q hq;simp;omega)),by rw [HN.out];simpa [zq1] using hown'⟩
    case measure=>simp [intOf]
  ·go_wp2
   go_ret
   exact ⟨_,rfl,((Fr.refl _ _).alloc _).then0 hf,hown⟩
theorem qxq4 (a b c d:Int)(w:World):(Op.equal 159 (cv a b) (cv c d)).run Tryz.prog w=.ok (a==c&&b==d) w:=by
 have h:=gx4 a b c d w
 rw [show binOp BinOp.eql 159 (cv a b) (cv c d)=(Op.equal 159 (cv a b) (cv c d) >>= fun r=>pure (.bool r)) from rfl,Sem.run_bind] at h
 cases hq:(Op.equal 159 (cv a b) (cv c d)).run Tryz.prog w with
 | ok v w'=>simpa [hq,Result.andThen] using h
 | halt x w'=>simp [hq,Result.andThen] at h
theorem xj2 (em:Bool)(a b:Int)(w:World):(Instr.checkKey em 10000 159 (cv a b)).run Tryz.prog w=.ok () w:=by kernel_rfl
theorem qqq0 (a b:Int)(w:World):(Instr.keyThatStays (cv a b) (cv a b)).run Tryz.prog w=.ok (cv a b) w:=by
 have:Instr.sameBits 10000 (cv a b) (cv a b)=true:=by simp [Instr.sameBits]
 simp [Instr.keyThatStays,this]
def idxOf (l:List ((Int×Int)×Value))(k:Int×Int):Option Nat:=l.findIdx? (fun p=>p.1==k)
theorem dz0 (x y:Int)(w:World):∀ (l:List ((Int×Int)×Value)) (es:List MapEntry) (i:Nat),es.map (fun e=>(e.key,e.val))=l.map (fun p=>(cv p.1.1 p.1.2,p.2)) ->
  (Instr.findAsking 159 (cv x y) es i).run Tryz.prog w=.ok (match l.findIdx? (fun p=>p.1==(x,y)) with|some j=>some (i+j,((l[j]?).map (·.2)).getD undef)|none=>none) w
 | [],[],i,_=>by simp [Instr.findAsking]
 | [],_ :: _,_,h=>by simp at h
 | _ :: _,[],_,h=>by simp at h
 | p :: l,e :: es,i,h=>by
  simp only [List.map_cons,List.cons.injEq,Prod.mk.injEq] at h
  obtain ⟨⟨hk,hv⟩,ht⟩:=h
  have ih:=dz0 x y w l es (i+1) ht
  simp only [Instr.findAsking,hk,Sem.run_bind,qxq4,Result.andThen_ok,List.findIdx?_cons]
  by_cases hp:p.1=(x,y)
  ·rw [hp]
   simp [hv]
  ·have h1:(p.1==(x,y))=false:=by simp [hp]
   have h2:(x==p.1.1&&y==p.1.2)=false:=by
    rw [Bool.eq_false_iff];intro hh;apply hp;simp at hh;rw [hh.1,hh.2]
   rw [h1,h2]
   simp only [Bool.false_eq_true,if_false,ih]
   cases hf:l.findIdx? (fun p=>p.1==(x,y)) with
   | none=>simp
   | some j=>simp [Nat.add_assoc,Nat.add_comm 1 j]
theorem yx2 (x y:Int)(w:World)(l:List ((Int×Int)×Value))(es:List MapEntry)(h:es.map (fun e=>(e.key,e.val))=l.map (fun p=>(cv p.1.1 p.1.2,p.2))) :
  (Instr.findKey 159 (cv x y) es).run Tryz.prog w=.ok (match l.findIdx? (fun p=>p.1==(x,y)) with|some j=>some (j,((l[j]?).map (·.2)).getD undef)|none=>none) w:=by
 unfold Instr.findKey
 rw [Sem.run_bind,run_underlying Tryz.underlying159]
 simp only [Result.andThen_ok]
 cases es with
 | nil =>
  cases l with
  | nil=>simp [Instr.findNow]
  | cons _ _=>simp at h
 | cons e es =>
  have hn:Instr.findNow (.struct #[{ name:= "X",type:=3,offset:=0,embedded:=false,tag:= "",pkgPath:= "",byteOffset:=0 },{ name:= "Y",type:=3,offset:=1,embedded:=false,tag:= "",pkgPath:= "",byteOffset:=8 }]) (cv x y) (e :: es) 0=none:=by
   simp [Instr.findNow,Instr.sameNow]
  rw [hn]
  simp only
  have:=dz0 x y w l (e :: es) 0 h
  simpa using this
theorem jv4 {α:Type}(q:α->Bool):∀ (l:List α),(∃ j p,l.findIdx? q=some j/\l[j]?=some p/\q p=true/\l.find? q=some p)\/(l.findIdx? q=none/\l.find? q=none)
 | []=>Or.inr ⟨rfl,rfl⟩
 | a :: l=>by
  cases ha:q a with
  | true=>exact Or.inl ⟨0,a,by simp [List.findIdx?_cons,ha],rfl,ha,by simp [ha]⟩
  | false =>
   rcases jv4 q l with ⟨j,p,h1,h2,h3,h4⟩|⟨h1,h2⟩
   ·exact Or.inl ⟨j+1,p,by simp [List.findIdx?_cons,ha,h1],by simpa using h2,h3,by simp [ha,h4]⟩
   ·exact Or.inr ⟨by simp [List.findIdx?_cons,ha,h1],by simp [ha,h2]⟩
def MapF (w:World)(r:Nat)(f:Int×Int->Option Value):Prop :=
 ∃ (l:List ((Int×Int)×Value)) (es:Array MapEntry) (clock:Nat),w.heap[r]?=some (.map es clock)/\es.toList.map (fun e=>(e.key,e.val))=l.map (fun p=>(cv p.1.1 p.1.2,p.2)) /\
  (l.map (·.1)).Nodup/\∀ k,(l.find? (fun p=>p.1==k)).map (·.2)=f k
theorem MapF.fr {S:List Nat}{w w':World}{r:Nat}{f:Int×Int->Option Value}(h:MapF w r f)(hf:Fr S w w')(hn:r∉S):MapF w' r f:=by
 obtain ⟨l,es,clock,hb,r2⟩:=h
 exact ⟨l,es,clock,hf.heap hb hn,r2⟩
theorem MapF.lt {w:World}{r:Nat}{f:Int×Int->Option Value}(h:MapF w r f):r < w.heap.size:=by
 obtain ⟨l,es,clock,hb,r2⟩:=h
 exact qq2 hb
theorem MapF.made {w:World}{r clock:Nat}(h:w.heap[r]?=some (.map #[] clock)):MapF w r (fun _=>none) :=
  ⟨[],#[],clock,h,rfl,by simp,by simp⟩
theorem MapF.look {w:World}{r:Nat}{f:Int×Int->Option Value}(h:MapF w r f)(t e:TypeId)(ht:Tryz.prog.underlying t=some (.map 159 e))(z:Value)(hz:(zeroValue e).run Tryz.prog w=.ok z w)(x y:Int) :
  (Instr.lookup t (.map (some r)) (cv x y) true).run Tryz.prog w=.ok (.tuple #[(f (x,y)).getD z,.bool (f (x,y)).isSome]) w:=by
 obtain ⟨l,es,clock,hb,hl,_,hf⟩:=h
 rw [<- hf (x,y)]
 have hk:=yx2 x y w l es.toList hl
 simp only [Instr.lookup,Sem.run_bind,run_underlying ht,Result.andThen_ok,MapKept.run_getObj_map hb,Sem.run_pure,xj2,hk]
 rcases jv4 (fun p:(Int×Int)×Value=>p.1==(x,y)) l with ⟨j,p,h1,h2,h3,h4⟩|⟨h1,h2⟩
 ·rw [h1,h4]
  simp [h2]
 ·rw [h1,h2]
  simp [hz]
theorem MapF.look1 {w:World}{r:Nat}{f:Int×Int->Option Value}(h:MapF w r f)(t e:TypeId)(ht:Tryz.prog.underlying t=some (.map 159 e))(z:Value)(hz:(zeroValue e).run Tryz.prog w=.ok z w)(x y:Int) :
  (Instr.lookup t (.map (some r)) (cv x y) false).run Tryz.prog w=.ok ((f (x,y)).getD z) w:=by
 obtain ⟨l,es,clock,hb,hl,_,hf⟩:=h
 rw [<- hf (x,y)]
 have hk:=yx2 x y w l es.toList hl
 simp only [Instr.lookup,Sem.run_bind,run_underlying ht,Result.andThen_ok,MapKept.run_getObj_map hb,Sem.run_pure,xj2,hk]
 rcases jv4 (fun p:(Int×Int)×Value=>p.1==(x,y)) l with ⟨j,p,h1,h2,h3,h4⟩|⟨h1,h2⟩
 ·rw [h1,h4]
  simp [h2]
 ·rw [h1,h2]
  simp [hz]
theorem Fr.setObj {S:List Nat}{a b:World}(h:Fr S a b)(r:Nat)(o:Obj)(hr:r∈S\/a.heap.size<=r):Fr S a { b with heap:=b.heap.setIfInBounds r o } :=
 ⟨h.os,h.tape,h.output,by simpa using h.size,fun i hi hn=>by
  show (b.heap.setIfInBounds r o)[i]?=_
  rw [Array.getElem?_setIfInBounds_ne (fun e=>by subst e;rcases hr with h1|h1;exact hn h1;omega)];exact h.block i hi hn⟩
theorem fv4 {l:List ((Int×Int)×Value)}(hn:(l.map (·.1)).Nodup){j j':Nat}{p p':(Int×Int)×Value}(h:l[j]?=some p)(h':l[j']?=some p')(he:p.1=p'.1):j=j':=by
 obtain ⟨h1,rfl⟩:=List.getElem?_eq_some_iff.1 h
 obtain ⟨h2,rfl⟩:=List.getElem?_eq_some_iff.1 h'
 have hp:=List.pairwise_iff_getElem.1 hn
 rcases Nat.lt_trichotomy j j' with hlt|heq|hgt
 ·exact absurd (by rw [List.getElem_map,List.getElem_map];exact he) (hp j j' (by simpa using h1) (by simpa using h2) hlt)
 ·exact heq
 ·exact absurd (by rw [List.getElem_map,List.getElem_map];exact he.symm) (hp j' j (by simpa using h2) (by simpa using h1) hgt)
def xk1 (l:List ((Int×Int)×Value))(k:Int×Int)(v:Value):List ((Int×Int)×Value):=l.map fun p=>if p.1=k then (k,v) else p
theorem gk6 (l:List ((Int×Int)×Value))(k:Int×Int)(v:Value):(xk1 l k v).map (·.1)=l.map (·.1):=by
 unfold xk1
 rw [List.map_map]
 apply List.map_congr_left
 intro p _
 simp only [Function.comp]
 split <;> simp_all
theorem gk5 (l:List ((Int×Int)×Value))(k k':Int×Int)(v:Value):((xk1 l k v).find? (fun p=>p.1==k')).map (·.2)=if k'=k then (l.find? (fun p=>p.1==k)).map (fun _=>v) else (l.find? (fun p=>p.1==k')).map (·.2):=by
 unfold xk1
 rw [List.find?_map]
 have hc:((fun p:(Int×Int)×Value=>p.1==k') ∘ fun p=>if p.1=k then (k,v) else p)=fun p=>p.1==k':=by
  funext p;simp only [Function.comp];split <;> simp_all
 rw [hc]
 split
 ·subst k'
  cases h:l.find? (fun p=>p.1==k) with
  | none=>simp
  | some p =>
   have:=List.find?_some h
   simp at this
   simp [this]
 ·rename_i hne
  cases h:l.find? (fun p=>p.1==k') with
  | none=>simp
  | some p =>
   have:=List.find?_some h
   simp at this
   simp [this,hne]
theorem xk0 (k:Int×Int):∀ (l:List ((Int×Int)×Value)) (k':Int×Int),((l.filter fun p=>p.1 != k).find? (fun p=>p.1==k')).map (·.2)=if k'=k then none else (l.find? (fun p=>p.1==k')).map (·.2)
 | [],k'=>by simp
 | p :: l,k'=>by
  have ih:=xk0 k l k'
  by_cases hp:p.1=k
  ·rw [List.filter_cons_of_neg (by simp [hp]),ih]
   split
   ·rfl
   ·rename_i hne
    rw [List.find?_cons_of_neg (by simp [hp];exact fun e=>hne e.symm)]
  ·rw [List.filter_cons_of_pos (by simp [hp])]
   by_cases hk:p.1=k'
   ·rw [List.find?_cons_of_pos (by simp [hk]),List.find?_cons_of_pos (by simp [hk]),if_neg (fun e=>hp (hk.trans e))]
   ·rw [List.find?_cons_of_neg (by simp [hk]),List.find?_cons_of_neg (by simp [hk])];exact ih
theorem yw1 {α β:Type}(g:α->β):∀ (l:List α) (j:Nat),(l.eraseIdx j).map g=(l.map g).eraseIdx j
 | [],_=>by simp
 | _ :: _,0=>by simp
 | a :: l,j+1=>by simp [yw1 g l j]
theorem yx1 (k:Int×Int):∀ (l:List ((Int×Int)×Value)) (j:Nat),(l.map (·.1)).Nodup->l.findIdx? (fun p=>p.1==k)=some j->l.eraseIdx j=l.filter fun p=>p.1 != k
 | [],_,_,h=>by simp at h
 | p :: l,j,hn,h=>by
  simp only [List.map_cons,List.nodup_cons] at hn
  rw [List.findIdx?_cons] at h
  by_cases hp:p.1=k
  ·simp [hp] at h
   subst h
   rw [List.filter_cons_of_neg (by simp [hp]),List.eraseIdx_zero,List.tail_cons]
   symm
   rw [List.filter_eq_self]
   intro q hq
   simp only [bne_iff_ne,ne_eq]
   intro e
   exact hn.1 (List.mem_map.2 ⟨q,hq,by rw [e,hp]⟩)
  ·have hpf:(p.1==k)=false:=by simp [hp]
   rw [hpf] at h
   simp only [Bool.false_eq_true,if_false,Option.map_eq_some_iff] at h
   obtain ⟨j',h1,rfl⟩:=h
   rw [List.filter_cons_of_pos (by simp [hp]),List.eraseIdx_cons_succ,yx1 k l j' hn.2 h1]
theorem MapF.update {w:World}{r:Nat}{f:Int×Int->Option Value}(h:MapF w r f)(t e:TypeId)(ht:Tryz.prog.underlying t=some (.map 159 e))(x y:Int)(v:Value) :
  ∃ o,(Instr.mapUpdate t (.map (some r)) (cv x y) v).run Tryz.prog w=.ok () { w with heap:=w.heap.setIfInBounds r o }/\MapF { w with heap:=w.heap.setIfInBounds r o } r (fun k=>if k=(x,y) then some v else f k):=by
 obtain ⟨l,es,clock,hb,hl,hnd,hf⟩:=h
 have hlt:=qq2 hb
 have hk:=yx2 x y w l es.toList hl
 have hset:∀ o,({ w with heap:=w.heap.setIfInBounds r o }:World).heap[r]?=some o:=fun o=>by
  show (w.heap.setIfInBounds r o)[r]?=_
  simp [hlt]
 rcases jv4 (fun p:(Int×Int)×Value=>p.1==(x,y)) l with ⟨j,p,h1,h2,h3,h4⟩|⟨h1,h2⟩
 ·have hp:p.1=(x,y):=by simpa using h3
  have hj:j < l.length:=(List.getElem?_eq_some_iff.1 h2).1
  have hkey:(es[j]?).map (·.key)=some (cv x y):=by
   have:=congrArg (fun q=>q[j]?) hl
   simp only [List.getElem?_map,h2,Option.map_some] at this
   have h5:es[j]?=es.toList[j]?:=by simp
   rw [h5]
   cases h6:es.toList[j]? with
   | none=>simp [h6] at this
   | some e0=>rw [h6] at this;simp only [Option.map_some,Option.some.injEq,Prod.mk.injEq] at this;simp [this.1,hp]
  refine ⟨.map (es.modify j fun e=>{ e with key:=cv x y,val:=v }) clock,?_,xk1 l (x,y) v,es.modify j fun e=>{ e with key:=cv x y,val:=v },clock,hset _,?_,?_,?_⟩
  ·simp [Instr.mapUpdate,run_underlying ht,MapKept.run_getObj_map hb,xj2,hk,h1,hkey,qqq0,MapKept.run_setObj_map _ hb,Result.andThen]
  ·apply List.ext_getElem?
   intro i
   have hi:=congrArg (fun q=>q[i]?) hl
   simp only [List.getElem?_map,xk1,Array.getElem?_toList,Array.getElem?_modify] at hi |-
   by_cases hij:j=i
   ·subst hij
    rw [if_pos rfl,h2]
    rw [h2] at hi
    cases h6:es[j]? with
    | none=>simp [h6] at hi
    | some e0=>simp [hp]
   ·rw [if_neg hij]
    cases h7:l[i]? with
    | none=>rw [h7] at hi;simpa using hi
    | some q =>
     have hq:¬ q.1=(x,y):=fun e=>hij (fv4 hnd h2 h7 (hp.trans e.symm))
     rw [h7] at hi
     simpa [hq] using hi
  ·rw [gk6];exact hnd
  ·intro k
   rw [gk5,h4,hf k]
   rfl
 ·refine ⟨.map (es.push { key:=cv x y,val:=v,born:=clock }) (clock+1),?_,l ++ [((x,y),v)],es.push { key:=cv x y,val:=v,born:=clock },clock+1,hset _,?_,?_,?_⟩
  ·simp [Instr.mapUpdate,run_underlying ht,MapKept.run_getObj_map hb,xj2,hk,h1,MapKept.run_setObj_map _ hb,Result.andThen]
  ·simp [hl]
  ·rw [List.map_append,List.nodup_append]
   refine ⟨hnd,by simp,?_⟩
   intro a ha b hb' e
   simp only [List.map_cons,List.map_nil,List.mem_singleton] at hb'
   obtain ⟨q,hq,rfl⟩:=List.mem_map.1 ha
   have:=List.find?_eq_none.1 h2 q hq
   simp at this
   exact this (e.trans hb')
  ·intro k
   dsimp only
   rw [List.find?_append]
   by_cases hkk:k=(x,y)
   ·subst hkk;rw [h2];simp
   ·rw [if_neg hkk,<- hf k]
    have:([((x,y),v)]:List ((Int×Int)×Value)).find? (fun p=>p.1==k)=none:=by simp;exact fun e=>hkk (by rw [<- e])
    rw [this];simp
theorem MapF.del {w:World}{r:Nat}{f:Int×Int->Option Value}(h:MapF w r f)(t ty t2 e:TypeId)(ht:Tryz.prog.underlying t=some (.map 159 e))(x y:Int) :
  ∃ o,(Builtin.delete_ #[t,t2] ty #[.map (some r),cv x y]).run Tryz.prog w=.ok (.tuple #[]) { w with heap:=w.heap.setIfInBounds r o }/\MapF { w with heap:=w.heap.setIfInBounds r o } r (fun k=>if k=(x,y) then none else f k):=by
 obtain ⟨l,es,clock,hb,hl,hnd,hf⟩:=h
 have hlt:=qq2 hb
 have hk:=yx2 x y w l es.toList hl
 have hset:∀ o,({ w with heap:=w.heap.setIfInBounds r o }:World).heap[r]?=some o:=fun o=>by
  show (w.heap.setIfInBounds r o)[r]?=_
  simp [hlt]
 rcases jv4 (fun p:(Int×Int)×Value=>p.1==(x,y)) l with ⟨j,p,h1,h2,h3,h4⟩|⟨h1,h2⟩
 ·refine ⟨.map (es.eraseIdxIfInBounds j) clock,?_,l.filter (fun p=>p.1 != (x,y)),es.eraseIdxIfInBounds j,clock,hset _,?_,?_,?_⟩
  ·simp [Builtin.delete_,run_underlying ht,MapKept.run_getObj_map hb,xj2,hk,h1,MapKept.run_setObj_map _ hb,Result.andThen]
  ·rw [<- yx1 (x,y) l j hnd h1,Array.toList_eraseIdxIfInBounds,yw1,yw1,hl]
  ·exact List.Nodup.sublist (List.Sublist.map _ List.filter_sublist) hnd
  ·intro k;rw [xk0,hf k]
 ·refine ⟨.map es clock,?_,l,es,clock,hset _,hl,hnd,?_⟩
  ·simp [Builtin.delete_,run_underlying ht,MapKept.run_getObj_map hb,xj2,hk,h1,MapKept.run_setObj_map _ hb,Result.andThen]
  ·intro k
   dsimp only
   by_cases hkk:k=(x,y)
   ·subst hkk;rw [if_pos rfl,h2];rfl
   ·rw [if_neg hkk];exact hf k
theorem MapF.clear {w:World}{r:Nat}{f:Int×Int->Option Value}(h:MapF w r f)(t ty e:TypeId)(ht:Tryz.prog.underlying t=some (.map 159 e)) :
  ∃ o,(Builtin.clear_ #[t] ty #[.map (some r)]).run Tryz.prog w=.ok (.tuple #[]) { w with heap:=w.heap.setIfInBounds r o }/\MapF { w with heap:=w.heap.setIfInBounds r o } r (fun _=>none):=by
 obtain ⟨l,es,clock,hb,hl,hnd,hf⟩:=h
 have hlt:=qq2 hb
 refine ⟨.map #[] clock,?_,MapF.made (clock:=clock) ?_⟩
 ·simp [Builtin.clear_,run_underlying ht,MapKept.run_getObj_map hb,MapKept.run_setObj_map _ hb,Result.andThen]
 ·show (w.heap.setIfInBounds r _)[r]?=_
  simp [hlt]
structure TV (w:World) (tb hb:Nat) (held:Int×Int->Option Value) (bd:Nat->Int):Prop where
 c:w.cell? ⟨tb,149,none⟩=some (.map (some hb))
 m:MapF w hb held
 b:BdAt w tb bd
theorem TV.fr {S:List Nat}{w w':World}{tb hb:Nat}{held:Int×Int->Option Value}{bd:Nat->Int}(h:TV w tb hb held bd)(hf:Fr S w w')(h1:tb∉S)(h2:hb∉S):TV w' tb hb held bd :=
  ⟨by rw [hf.cell tb _ (qq1 h.c) h1];exact h.c,h.m.fr hf h2,h.b.fr hf h1⟩
def qv3 (held:Int×Int->Option Value)(bd:Nat->Int)(x y:Int):Bool := !(held (x,y)).isSome&&bd (ci x y)==0
theorem fj6 (w:World):(zeroValue 3).run Tryz.prog w=.ok (.int .i64 0) w:=by kernel_rfl
theorem yv2 (w:World):(zeroValue 159).run Tryz.prog w=.ok (cv 0 0) w:=by kernel_rfl
theorem vx4 (tb hb:Nat)(held:Int×Int->Option Value)(bd:Nat->Int)(x y:Int)(w:World)(hv:TV w tb hb held bd)(hin:onB x y=true) :
  Calls Tryz.prog 199 #[.pointer (some ⟨tb,0,none⟩),cv x y] w fun e w'=>e=.returned (.bool (qv3 held bd x y))/\Fr [] w w':=by
 have hlk:∀ n o,(Instr.lookup 205 (.map (some hb)) (cv x y) true).run Tryz.prog ((w.alloc o).drewN n)=.ok (.tuple #[(held (x,y)).getD (ii 0),.bool (held (x,y)).isSome]) ((w.alloc o).drewN n):=fun n o =>
  (hv.m.fr (((Fr.refl [] w).alloc o).drewN n) (by simp)).look _ _ Tryz.underlying205 _ (fj6 _) x y
 have hlk0:∀ o,(Instr.lookup 205 (.map (some hb)) (cv x y) true).run Tryz.prog ((w.alloc o).drew)=.ok (.tuple #[(held (x,y)).getD (ii 0),.bool (held (x,y)).isSome]) ((w.alloc o).drew):=fun o =>
  (hv.m.fr (((Fr.refl [] w).alloc o).drew) (by simp)).look _ _ Tryz.underlying205 _ (fj6 _) x y
 have hlt:=zz0 hin
 obtain ⟨hx0,hx1,hy0,hy1⟩:=qz3.1 hin
 have hcell:=hv.b _ hlt
 have hc:=hv.c
 have htb:=qq1 hc
 obtain ⟨v,hvv⟩:∃ v,v=bd (ci x y):=⟨_,rfl⟩
 rw [<- hvv] at hcell
 obtain ⟨z,hz⟩:∃ z,z=(held (x,y)).getD (ii 0):=⟨_,rfl⟩
 rw [<- hz] at hlk hlk0
 obtain ⟨B,hB⟩:∃ B,B=(held (x,y)).isSome:=⟨_,rfl⟩
 rw [<- hB] at hlk hlk0
 have HF:Hid (qv3 held bd x y=(!B&&v==0)):=by show qv3 held bd x y=_;unfold qv3;rw [hB,hvv]
 clear hvv hz hB
 unfold ci at hcell
 rw [<- Nat.add_assoc] at hcell
 cases B
 ·go_enter Tryz.func199,Tryz.ntmps199
  go_wp2
  go_quiet (fail)
  go_wp2
  go_quiet (fail)
  go_wp2
  go_ret
  exact ⟨by rw [HF.out];rfl,by repeat (first|exact Fr.refl _ _|refine Fr.drewN ?_ _|refine Fr.alloc ?_ _)⟩
 ·go_enter Tryz.func199,Tryz.ntmps199
  go_wp2
  go_quiet (fail)
  go_wp2
  go_quiet (fail)
  go_wp2
  go_ret
  exact ⟨by rw [HF.out];rfl,by repeat (first|exact Fr.refl _ _|refine Fr.drewN ?_ _|refine Fr.alloc ?_ _)⟩
theorem jq7 {P:Program} {fr:Frame} {cs:List Frame} {w w':World} {args:Array Value} {ds:List Deferred} {b:Builtin} {at_:Array TypeId} {ty:TypeId} {consts:Array Bool} {v:Value}
  (hm:fr.mode=.returning) (hd:fr.defers={ target:=.builtin b at_ ty consts,args } :: ds) (hi:(invoke (.builtin b at_ ty consts) args).run P w=.ok (.value v) w') :
  step P (lone fr cs w)=.next (lone { fr with defers:=ds } cs w'):=by
 refine step_lone_go ?_
 simp [stepG,unwind,callDeferred,hm,hd,hi]
def fx4 (P:Program)(fn:Func)(R:Ending->World->Prop):Exit->Act->World->Prop
 | .normal,a,w|.ret,a,w=>∃ b at_ ty consts args v0 w',a.defers=[{ target:=.builtin b at_ ty consts,args }]/\(invoke (.builtin b at_ ty consts) args).run P w=.ok (.value v0) w'/\∃ v,(results fn a.tmps).run P w'=.ok v w'/\R (.returned v) w'
 | .outgrown,_,w=>R .outgrown w
 | _,_,_=>False
theorem zw7 {P:Program} {f:FuncId} {fn:Func} {c:Code} {args:Array Value} {w:World} {R:Ending->World->Prop}
  (hf:P.funcs[f]?=some fn) (hb:fn.body=some c)
  (h:c.wp P (fx4 P fn R) { tmps:=args ++ Array.replicate (fn.ntmps - args.size) undef,defers:=[] } w):Calls P f args w R:=by
 intro cs
 let b:Frame:={ (default:Frame) with fn:=f,kind:=.normal }
 have henter:Frame.enter P f args .normal =
   b.at { tmps:=args ++ Array.replicate (fn.ntmps - args.size) undef,defers:=[] } [.code c]:=by
  simp [Frame.enter,Frame.at,hf,hb,b]
 obtain ⟨e,a',w',hq,harr⟩:=h b [] cs
 rw [<- henter] at harr
 cases e with
 | normal =>
  obtain ⟨bb,at_,ty,consts,ar,v0,w2,hd,hi,v,hr,hR⟩:=hq
  have h1:=jq7 (fr:={ b.at a' [] with mode:=.returning }) (cs:=cs) rfl hd hi
  exact ⟨.returned v,w2,_,hR,Comes.of_steps (Steps.trans harr (.one step_end)) (Steps.one h1),rfl,rfl,rfl,rfl,fn,hf,hr⟩
 | ret =>
  obtain ⟨todo,hs₀⟩:=harr
  obtain ⟨bb,at_,ty,consts,ar,v0,w2,hd,hi,v,hr,hR⟩:=hq
  have h1:=jq7 (fr:={ b.at a' todo with mode:=.returning }) (cs:=cs) rfl hd hi
  exact ⟨.returned v,w2,_,hR,Comes.of_steps hs₀ (Steps.one h1),rfl,rfl,rfl,rfl,fn,hf,hr⟩
 | panic chain=>exact hq.elim
 | exit id=>exact hq.elim
 | goto l=>exact hq.elim
 | outgrown=>exact ⟨.outgrown,w',b,hq,harr.resolve_left (by simp [b]),rfl,trivial⟩
end Go.Proofs.YtapabahhfanmmaaGreatDoor
namespace Go.Proofs.YtapabahhfanmmaaGreatDoor
abbrev Cl:=Int×Int
structure Bs where
 q:List Cl
 g:Cl->Option Cl
def bIn (free ends:Cl->Bool)(i:Nat)(cur:Cl):List Cl->Bs->Sum Cl Bs
 | [],s=>.inr s
 | n :: ns,s =>
  if (s.g n).isSome || !free n then bIn free ends i cur ns s
  else if ends n then .inl (if 0 < i then (s.g cur).getD (0,0) else n)
  else bIn free ends i cur ns ⟨s.q ++ [n],fun k=>if k=n then some (if 0 < i then (s.g cur).getD (0,0) else n) else s.g k⟩
def zk7 (free ends:Cl->Bool)(start:Cl):Nat->Nat->Bs->Cl
 | 0,_,_=>start
 | fuel+1,i,s =>
  match s.q[i]? with
  | none=>start
  | some cur =>
   match bIn free ends i cur (qj0 cur.1 cur.2) s with
   | .inl c=>c
   | .inr s'=>zk7 free ends start fuel (i+1) s'
def bfs (free ends:Cl->Bool)(start:Cl):Cl:=zk7 free ends start 146 0 ⟨[start],fun _=>none⟩
structure BInv (start:Cl) (s:Bs):Prop where
  q:∃ l,s.q=start :: l/\l.Nodup/\(∀ c∈l,onB c.1 c.2=true)/\∀ c,(s.g c).isSome=true↔c∈l
theorem BInv.start (a:Cl):BInv a ⟨[a],fun _=>none⟩:=⟨[],rfl,by simp,by simp,by simp⟩
theorem BInv.add {a:Cl}{s:Bs}(h:BInv a s)(n f:Cl)(hn:(s.g n).isSome=false)(ho:onB n.1 n.2=true):BInv a ⟨s.q ++ [n],fun k=>if k=n then some f else s.g k⟩:=by
 obtain ⟨l,h1,h2,h3,h4⟩:=h
 refine ⟨l ++ [n],by simp [h1],?_,?_,?_⟩
 ·rw [List.nodup_append]
  refine ⟨h2,by simp,fun x hx y hy e=>?_⟩
  simp at hy
  subst hy
  subst e
  have:=(h4 x).2 hx
  rw [hn] at this
  cases this
 ·intro c hc
  rcases List.mem_append.1 hc with hc|hc
  ·exact h3 c hc
  ·simp at hc;subst hc;exact ho
 ·intro c
  by_cases hc:c=n
  ·simp [hc]
  ·simp [hc,h4 c]
theorem vx8 (p:Nat->Bool):∀ (l:List Nat),l.length=(l.filter p).length+(l.filter (fun x => !p x)).length
 | []=>rfl
 | a :: l=>by
  have:=vx8 p l
  cases h:p a <;> simp [h] <;> omega
theorem jk1:∀ (n:Nat) (l:List Nat),l.Nodup->(∀ x∈l,x < n)->l.length<=n
 | 0,l,_,h=>by
  cases l with
  | nil=>simp
  | cons a l=>exact absurd (h a (by simp)) (by omega)
 | n+1,l,hn,h=>by
  have h1:=jk1 n (l.filter (fun x=>x != n)) (hn.sublist List.filter_sublist) (fun x hx=>by
   have h2:=List.mem_filter.1 hx
   have:=h x h2.1
   simp at h2
   omega)
  have h3:l.length<=(l.filter (fun x=>x != n)).length+1:=by
   have h4:(l.filter (fun x => !(x != n))).length<=1:=by
    have h5:∀ (m:List Nat),m.Nodup->(m.filter (fun x => !(x != n))).length<=1:=by
     intro m
     induction m with
     | nil=>simp
     | cons a m ih =>
      intro hm
      rw [List.nodup_cons] at hm
      by_cases ha:a=n
      ·subst ha
       have:m.filter (fun x => !(x != a))=[]:=by
        rw [List.filter_eq_nil_iff]
        intro x hx
        simp
        intro e
        subst e
        exact hm.1 hx
       simp [this]
      ·rw [List.filter_cons_of_neg (by simp [ha])]
       exact ih hm.2
    exact h5 l hn
   have h6:=vx8 (fun x=>x != n) l
   omega
  omega
theorem BInv.len {a:Cl}{s:Bs}(h:BInv a s):s.q.length<=145:=by
 obtain ⟨l,h1,h2,h3,_⟩:=h
 rw [h1]
 have:(l.map (fun c=>ci c.1 c.2)).length<=144:=by
  apply jk1
  ·rw [List.Nodup,List.pairwise_map]
   apply List.Pairwise.imp_of_mem _ h2
   intro c d hc hd hne e
   apply hne
   have h5:=qz3.1 (h3 c hc)
   have h6:=qz3.1 (h3 d hd)
   unfold ci at e
   apply Prod.ext <;> omega
  ·intro x hx
   obtain ⟨c,hc,rfl⟩:=List.mem_map.1 hx
   exact zz0 (h3 c hc)
 simp at this |-
 omega
theorem BInv.on {a:Cl}{s:Bs}(h:BInv a s)(ha:onB a.1 a.2=true):∀ c∈s.q,onB c.1 c.2=true:=by
 obtain ⟨l,h1,_,h3,_⟩:=h
 rw [h1]
 intro c hc
 rcases List.mem_cons.1 hc with rfl|hc
 ·exact ha
 ·exact h3 c hc
theorem jk0 (x y:Int):∀ c∈qj0 x y,onB c.1 c.2=true:=by
 intro c hc
 exact (List.mem_filter.1 hc).2
theorem vk2 (x y:Int):(qj0 x y).length<=4:=jx3 x y 4
theorem vk3 (x y:Int)(h:onB x y=true):0 < (qj0 x y).length:=by
 obtain ⟨h1,h2,h3,h4⟩:=qz3.1 h
 by_cases hx:x < 11
 ·exact List.length_pos_of_mem (a:=(x+1,y+0)) (List.mem_filter.2 ⟨by simp [sds],by rw [qz3];simp;omega⟩)
 ·exact List.length_pos_of_mem (a:=(x + -1,y+0)) (List.mem_filter.2 ⟨by simp [sds],by rw [qz3];simp;omega⟩)
end Go.Proofs.YtapabahhfanmmaaGreatDoor
