import Derived.Laws.Bits64b
import Derived.Maps.AppendAt
import Derived.ArgAppend
import Derived.Lib.AppendStr
import Derived.Laws.IdiomCopy
import Derived.Test.YtapabahhfanmmaaGreatDoorCBfs
namespace Go.Proofs.YtapabahhfanmmaaGreatDoor
open Go.RowKit List
set_option maxRecDepth 100000
set_option maxHeartbeats 2000000
def numF:Nat->Nat->List UInt8
 | 0,_=>[]
 | f+1,n=>if n < 128 then [UInt8.ofNat n] else UInt8.ofNat (n % 128+128) :: numF f (n / 128)
def bL (n:Nat):List UInt8:=numF (n+1) n
theorem numF_is:∀ f g n,n < f->n < g->numF f n=numF g n
 | f+1,g+1,n,a,b=>by
  unfold numF
  split
  ·rfl
  rw [numF_is f g (n / 128) (by omega) (by omega)]
theorem kL {n:Nat}(h:n < 128):bL n=[UInt8.ofNat n]:=by rw [bL,numF,if_pos h]
theorem lJ {n:Nat}(h:¬ n < 128):bL n=UInt8.ofNat (n % 128+128) :: bL (n / 128):=by rw [bL,numF,if_neg h,numF_is n (n / 128+1) _ (by omega) (by omega),bL]
def gG:Nat->Nat->Nat->List UInt8->Nat×Nat
 | 0,_,_,_=>(0,0)
 | _+1,_,_,[]=>(0,0)
 | f+1,i,s,b :: l =>
  if 128<=b.toNat then gG f (i+1) (s+b.toNat % 128*128 ^ i) l
  else if (b.toNat=0/\0 < i)\/1000000000 < s+b.toNat % 128*128 ^ i then (0,0) else (s+b.toNat % 128*128 ^ i,i+1)
def fU (l:List UInt8):Nat×Nat:=gG 5 0 0 l
theorem vS (l:List UInt8):∀ (f i s n:Nat),0 < f->n < 128 ^ f->(0 < i->0 < n)->s+n*128 ^ i<=1000000000->gG f i s (bL n ++ l)=(s+n*128 ^ i,i+(bL n).length)
 | 0,_,_,_,h,_,_,_=>by omega
 | f+1,i,s,n,_,h,hi,hs=>by
  by_cases hn:n < 128
  ·rw [kL hn]
   have hb:(UInt8.ofNat n).toNat=n:=by simp [UInt8.toNat_ofNat'];omega
   show (if 128<=(UInt8.ofNat n).toNat then _ else _)=_
   rw [hb,if_neg (by omega),Nat.mod_eq_of_lt hn,if_neg]
   ·rfl
   intro j
   rcases j with ⟨a,b⟩|a
   ·have:=hi b;omega
   omega
  rw [lJ hn]
  have hb:(UInt8.ofNat (n % 128+128)).toNat=n % 128+128:=by simp [UInt8.toNat_ofNat'];omega
  show (if 128<=(UInt8.ofNat (n % 128+128)).toNat then _ else _)=_
  rw [hb,if_pos (by omega)]
  have e:n % 128*128 ^ i+n / 128*128 ^ (i+1)=n*128 ^ i:=by
   rw [Nat.pow_succ,Nat.mul_comm (128 ^ i) 128,<- Nat.mul_assoc,<- Nat.add_mul]
   congr 1
   omega
  have hm:(n % 128+128) % 128=n % 128:=by omega
  have d:n / 128 < 128 ^ f:=by rw [Nat.pow_succ] at h;omega
  have g:0 < f:=by
   rcases Nat.eq_zero_or_pos f with c|c
   ·subst c;simp at d;omega
   exact c
  rw [hm]
  show gG f (i+1) (s+n % 128*128 ^ i) (bL (n / 128) ++ l)=_
  rw [vS l f (i+1) (s+n % 128*128 ^ i) (n / 128) g d (fun _=>by omega) (by omega)]
  apply Prod.ext
  ·dsimp only;omega
  simp only [length_cons];omega
theorem vA (n:Nat)(l:List UInt8)(h:n<=1000000000):fU (bL n ++ l)=(n,(bL n).length):=by
 have:=vS l 5 0 0 n (by omega) (by omega) (by omega) (by omega)
 simpa [fU] using this
theorem oI (n:Nat):0 < (bL n).length:=by
 by_cases h:n < 128
 ·rw [kL h];simp
 rw [lJ h];simp
theorem iL:∀ (f n:Nat),n < 128 ^ f->0 < f->(bL n).length<=f
 | 0,_,_,h=>by omega
 | f+1,n,h,_=>by
  by_cases hn:n < 128
  ·rw [kL hn];simp
  rw [lJ hn]
  have a:n / 128 < 128 ^ f:=by rw [Nat.pow_succ] at h;omega
  have:0 < f:=by
   rcases Nat.eq_zero_or_pos f with e|e
   ·subst e;simp at a;omega
   exact e
  have:=iL f (n / 128) a this
  simp;omega
def aP (ns:List Int):List UInt8:=ns.flatMap fun n=>bL n.toNat
theorem qO:aP []=[]:=rfl
theorem jE (n:Int)(ns:List Int):aP (n :: ns)=bL n.toNat ++ aP ns:=rfl
theorem jD (a b:List Int):aP (a ++ b)=aP a ++ aP b:=flatMap_append
theorem gV:∀ ns:List Int,(∀ n∈ns,n<=1000000000)->(aP ns).length<=5*ns.length
 | [],_=>by simp [aP]
 | n :: ns,h=>by
  have h1:=gV ns (fun m hm=>h m (by simp [hm]))
  have a:=iL 5 n.toNat (by have:=h n (by simp);omega) (by omega)
  rw [jE,length_append,length_cons]
  omega
def gD (b:UInt8):Value:=.int .u8 (b.toNat:Int)
def aZ (l:List UInt8):List Value:=l.map gD
theorem pZ (a b:List UInt8):aZ (a ++ b)=aZ a ++ aZ b:=map_append
theorem xU (x:Nat)(h:x < 128):bits .or .u8 (x:Int) 128=((x+128:Nat):Int):=by
 have:∀ x:Fin 128,bits .or .u8 ((x.val:Nat):Int) 128=((x.val+128:Nat):Int):=by decide
 exact this ⟨x,h⟩
theorem uI (n:Nat):gD (UInt8.ofNat (n % 128+128))=.int .u8 ((n % 128+128:Nat):Int):=by
 unfold gD
 have hb:(UInt8.ofNat (n % 128+128)).toNat=n % 128+128:=by simp [UInt8.toNat_ofNat'];omega
 rw [hb]
theorem uH (n:Nat)(h:n < 128):gD (UInt8.ofNat n)=.int .u8 (n:Int):=by
 unfold gD
 have hb:(UInt8.ofNat n).toNat=n:=by simp [UInt8.toNat_ofNat'];omega
 rw [hb]
theorem MP (s x i:Nat)(hs:s < 128 ^ i)(hx:x < 128)(hi:i < 5):bits .or .u64 (s:Int) ((x*128 ^ i:Nat):Int)=((s+x*128 ^ i:Nat):Int):=by
 have b:128 ^ i<=128 ^ 4:=Nat.pow_le_pow_right (by omega) (by omega)
 have h1:x*128 ^ i<=127*128 ^ 4:=Nat.mul_le_mul (by omega) b
 rw [bits_or_u64_nat _ _ (by omega) (by omega)]
 congr 1
 have a:128 ^ i=2 ^ (7*i):=by rw [Nat.pow_mul]
 rw [a] at hs |-
 rw [<- Nat.shiftLeft_eq,Nat.or_comm,<- Nat.shiftLeft_add_eq_or_of_lt hs,Nat.add_comm]
end Go.Proofs.YtapabahhfanmmaaGreatDoor
namespace Go.Proofs.YtapabahhfanmmaaGreatDoor
open Go.RowKit Go.Lib List
set_option maxRecDepth 100000
theorem JH:(Tryz.prog.info? 5).map (fun i=>(i.zero,i.size,i.bytes))=some (some (.int .u8 0),1,1):=by kernel_rfl
theorem wA:∃ i,Tryz.prog.info? 5=some i/\i.zero=some (.int .u8 0)/\i.size=1/\i.bytes=1:=by
 have h:=JH
 cases e:Tryz.prog.info? 5 with
 | none=>rw [e] at h;cases h
 | some i =>
  rw [e] at h
  simp at h
  exact ⟨i,rfl,h.1,h.2.1,h.2.2⟩
def ownM (w:World)(base:Nat)(v:Value)(l:List UInt8):Prop :=
 (v=.slice none 0 0/\l=[])\/∃ g a,v=.slice (so g) l.length a/\base<=g/\g < w.heap.size/\l.length<=a/\a<=maxLen /\
  (∀ j,j < a->(w.cell? ⟨g,j,none⟩).isSome=true/\w.frozen? ⟨g,j,none⟩=false)/\(∀ j (h:j < l.length),w.cell? ⟨g,j,none⟩=some (gD l[j]))
theorem NX (w:World)(base:Nat):ownM w base (.slice none 0 0) []:=.inl ⟨rfl,rfl⟩
theorem oL {w:World}{base:Nat}{v:Value}{l:List UInt8}(h:w.ownsRow base 5 1 v l.length (aZ l)):ownM w base v l:=by
 rcases h.2 with ⟨h1,c⟩|⟨g,b,cur,rfl,hb,a,h1,c,f,e⟩
 ·exact .inl ⟨h1,eq_nil_of_length_eq_zero c⟩
 refine .inr ⟨g,b,rfl,hb,aH a,h1,c,fun j d=>⟨?_,bI a⟩,fun j d=>?_⟩
 ·rw [aB a,Array.getElem?_eq_getElem (by omega)]
  rfl
 rw [aB a]
 have:=congrArg (fun x:List Value=>x[j]?) e
 simp only [getElem?_take_of_lt (show j < l.length*1 by omega)] at this
 rw [<- Array.getElem?_toList,this]
 simp [aZ,d]
theorem ownM.base {w:World}{base:Nat}{v:Value}{l:List UInt8}(h:ownM w base v l){b:Nat}(hb:v.ownBlock=some b):base<=b/\b < w.heap.size:=by
 rcases h with ⟨rfl,_⟩|⟨g,a,rfl,h1,c,_⟩
 ·simp [Value.ownBlock] at hb
 simp [Value.ownBlock] at hb
 subst hb
 exact ⟨h1,c⟩
theorem ownM.fr {S:List Nat}{w i:World}{base:Nat}{v:Value}{l:List UInt8}(h:ownM w base v l)(c:Fr S w i)(hn:∀ b,v.ownBlock=some b->b∉S):ownM i base v l:=by
 rcases h with h|⟨g,d,rfl,h1,a,k,m,n,o⟩
 ·exact .inl h
 have e:g∉S:=hn g rfl
 exact .inr ⟨g,d,rfl,h1,Nat.lt_of_lt_of_le a c.size,k,m,fun j f=>by rw [c.cell g j a e,c.frozen g j a e];exact n j f,fun j f=>by rw [c.cell g j a e];exact o j f⟩
theorem ownM.string {w:World}{base:Nat}{v:Value}{l:List UInt8}(h:ownM w base v l):(convert 168 9 v).run Tryz.prog w=.ok (.string ⟨l.toArray⟩) w:=by
 rcases h with ⟨rfl,rfl⟩|⟨g,a,rfl,h1,d,e,f,i,b⟩
 ·rw [run_convert_bytes_string w 168 9 5 none 0 0 Tryz.underlying168 Tryz.underlying5 Tryz.underlying9]
  simp [Conv.bytesToString]
  rfl
 refine run_convert_bytes_back w 168 9 5 ⟨g,0,none⟩ a l Tryz.underlying168 Tryz.underlying5 Tryz.underlying9 (fun j c=>?_)
 rw [Addr.add_lit,Nat.zero_add]
 exact b j c
theorem qR {S:List Nat}{a:World}(b:Nat):∀ (d:List Value) (o:Nat) (c:World),Fr S a c->(b∈S\/a.heap.size<=b)->Fr S a (c.setCells b o d)
 | [],_,_,h,_=>h
 | v :: r,o,_,h,hb=>qR b r (o+1) _ (h.setCell ⟨b,o,none⟩ v hb) hb
theorem qU (w:World)(g o:Nat)(b:List Value):w.grownBy (w.setCells g o b) (some g):=by
 have a:=qR (S:=[g]) g b o w (r0 _ _) (by simp)
 exact ⟨a.os,a.tape,a.output,a.size,fun k c hn=>a.block k c (by simp;exact fun e=>hn (by rw [e]))⟩
theorem xY {w:World}{base g a:Nat}{l m:List UInt8}(hb:base<=g)(n:g < w.heap.size)(f:a<=maxLen)(d:∀ j,j < a->(w.cell? ⟨g,j,none⟩).isSome=true/\w.frozen? ⟨g,j,none⟩=false)(k:∀ j (h:j < l.length),w.cell? ⟨g,j,none⟩=some (gD l[j]))(c:l.length+m.length<=a) :
  ownM (w.setCells g l.length (aZ m)) base (.slice (so g) (l.length+m.length) a) (l ++ m):=by
 have o:(aZ m).length=m.length:=by simp [aZ]
 refine .inr ⟨g,a,by rw [length_append],hb,Nat.lt_of_lt_of_le n (qU w g l.length (aZ m)).size,by rw [length_append];exact c,f,fun j e=>⟨?_,?_⟩,fun j e=>?_⟩
 ·by_cases b:l.length<=j/\j < l.length+m.length
  ·have:=World.cell?_setCells_in g (aZ m) l.length w (fun i hi=>(d _ (by omega)).1) (j - l.length) (by omega)
   rw [show l.length+(j - l.length)=j by omega] at this
   rw [this]
   rfl
  rw [World.cell?_setCells_out g (aZ m) l.length w ⟨g,j,none⟩ (fun _ _=>by dsimp only;omega)]
  exact (d j e).1
 ·rw [World.frozen?_setCells]
  exact (d j e).2
 rw [length_append] at e
 by_cases b:j < l.length
 ·rw [World.cell?_setCells_out g (aZ m) l.length w ⟨g,j,none⟩ (fun _ _=>by dsimp only;omega),getElem_append_left b]
  exact k j b
 have:=World.cell?_setCells_in g (aZ m) l.length w (fun i hi=>(d _ (by omega)).1) (j - l.length) (by omega)
 rw [show l.length+(j - l.length)=j by omega] at this
 rw [this,getElem_append_right (by omega)]
 simp [aZ]
theorem qA (m:List UInt8):∀ u∈aZ m,u.oneCell'=true:=fun u a=>by
 obtain ⟨b,_,rfl⟩:=mem_map.1 a
 rfl
theorem kG (m:List UInt8):(aZ m).length=m.length:=by simp [aZ]
theorem ownM.weak {w:World}{base a:Nat}{v:Value}{l:List UInt8}(h:ownM w base v l)(hb:a<=base):ownM w a v l:=by
 rcases h with h|⟨g,b,c,h1,r⟩
 ·exact .inl h
 exact .inr ⟨g,b,c,Nat.le_trans hb h1,r⟩
theorem vV {w a:World}(h:w.grownBy a none)(row:Option Nat):w.grownBy a row:=⟨h.os,h.tape,h.output,h.size,fun k b _=>h.block k b (by simp)⟩
theorem yB {w:World}{base n:Nat}{e:TypeId}{size:Nat}{v:Value}{xs:List Value}(h:w.ownsRow base e size v n xs)(hn:0 < n):∃ b,v.ownBlock=some b/\base<=b:=by
 rcases h.2 with ⟨_,d⟩|⟨c,a,cur,rfl,hb,_⟩
 ·omega
 exact ⟨c,rfl,hb⟩
theorem RD (w:World)(base:Nat)(ty:TypeId)(v:Value)(l m:List UInt8)(hown:ownM w base v l)(a:Addr)(c:Nat)(hnews:∀ j u,(aZ m)[j]?=some u->w.cell? (a.add j)=some u)(q:l.length+m.length<=100000000000000)(hbase:base<=w.heap.size) :
  ∃ f h,(Builtin.append_ #[168,168] ty #[v,.slice (some a) m.length c]).run Tryz.prog w=.ok f h/\ownM h base f (l ++ m)/\w.grownBy h v.ownBlock/\(f.ownBlock=v.ownBlock\/∃ b,f.ownBlock=some b/\w.heap.size<=b):=by
 obtain ⟨i,hi,hz,hs,hby⟩:=wA
 have r:l.length+m.length<=maxLen:=by unfold maxLen;omega
 rcases hown with ⟨rfl,rfl⟩|⟨g,k,rfl,h1,A,C,B,s,y⟩
 ·obtain ⟨f,h,p,hown,x,_,t⟩:=run_append_own_at (P:=Tryz.prog) w base 168 ty 5 i (.int .u8 0) 1 1 Tryz.underlying168 hi hz hs hby rfl (by omega) (.slice none 0 0) 0 [] ⟨rfl,.inl ⟨rfl,rfl⟩⟩ a m.length c (aZ m) (by simp [aZ]) hnews (qA m) (by simpa using r) (by simp at q;omega) hbase
  refine ⟨f,h,p,oL ?_,x,t.imp_right (fun e=>⟨_,e,Nat.le_refl _⟩)⟩
  rw [nil_append] at hown |-
  rwa [Nat.zero_add] at hown
 by_cases d:l.length+m.length<=k
 ·have p:=run_append_room_cells (P:=Tryz.prog) w 168 ty 5 i Tryz.underlying168 hi g 0 l.length k a m.length c (aZ m) (by rw [hs];simp [aZ]) hnews (qA m) d (fun j o=>by rw [hs];rw [kG] at o;exact (s _ (by omega)).1) (fun j o=>by rw [hs];rw [kG] at o;exact (s _ (by omega)).2)
  rw [hs,Nat.zero_add,Nat.mul_one] at p
  exact ⟨_,_,p,xY h1 A B s y d,qU _ _ _ _,.inl rfl⟩
 obtain ⟨f,h,p,hown,x⟩:=run_append_arg_grows (P:=Tryz.prog) w 168 ty 5 i (.int .u8 0) 1 1 Tryz.underlying168 hi hz hs hby rfl (by omega) ⟨g,0,none⟩ l.length k (aZ l) (by simp [aZ]) (fun j u z=>by
  have o:j < l.length:=by have:=(gs.1 z).1;rwa [kG] at this
  rw [Addr.add_lit,Nat.zero_add,y j o,<- z]
  simp [aZ,o]) a m.length c (aZ m) (by simp [aZ]) hnews (by omega) r (by omega)
 have n:h.ownsRow w.heap.size 5 1 f (l ++ m).length (aZ (l ++ m)):=by rw [pZ,length_append];exact hown
 exact ⟨f,h,p,(oL n).weak hbase,vV x _,.inr (yB hown (by omega))⟩
theorem sI (m:List UInt8):strCells (⟨m.toArray⟩:ByteArray)=aZ m:=rfl
theorem RE (w:World)(base:Nat)(ty:TypeId)(v:Value)(l m:List UInt8)(hown:ownM w base v l)(n:l.length+m.length<=100000000000000)(hbase:base<=w.heap.size) :
  ∃ h r,(Builtin.append_ #[168,9] ty #[v,.string ⟨m.toArray⟩]).run Tryz.prog w=.ok h r/\ownM r base h (l ++ m)/\w.grownBy r v.ownBlock/\(h.ownBlock=v.ownBlock\/∃ b,h.ownBlock=some b/\w.heap.size<=b):=by
 obtain ⟨i,hi,hz,hs,hby⟩:=wA
 have o:l.length+m.length<=maxLen:=by unfold maxLen;omega
 have c:(⟨m.toArray⟩:ByteArray).size=m.length:=rfl
 rcases hown with ⟨rfl,rfl⟩|⟨g,d,rfl,h1,E,K,F,t,A⟩
 ·by_cases z:m=[]
  ·subst z
   refine ⟨.slice none 0 0,w,?_,.inl ⟨rfl,rfl⟩,⟨rfl,rfl,rfl,Nat.le_refl _,fun _ _ _=>rfl⟩,.inl rfl⟩
   simp [Builtin.append_,run_underlying Tryz.underlying168,run_underlying Tryz.underlying9,sizeOf,typeInfo,hi,Builtin.lenOf,Builtin.firstCells]
   rw [if_pos (show ({ data:=#[] }:ByteArray)=ByteArray.empty from rfl)]
   rfl
  obtain ⟨h,r,s,hown,I,C⟩:=run_append_own_string (P:=Tryz.prog) w w.heap.size 168 9 ty 5 i Tryz.underlying168 Tryz.underlying9 hi hz hs hby (.slice none 0 0) 0 [] ⟨rfl,.inl ⟨rfl,rfl⟩⟩ ⟨m.toArray⟩ (by rw [c];simpa using o) (by rw [c];simp at n;omega) (Nat.le_refl _)
  rw [c,sI,nil_append,Nat.zero_add] at hown
  have p:0 < m.length:=by cases m with|nil=>exact absurd rfl z|cons a b=>simp
  exact ⟨h,r,s,by rw [nil_append];exact (oL hown).weak hbase,I,.inr (yB hown p)⟩
 by_cases e:l.length+m.length<=d
 ·have B:=run_firstCells_string (P:=Tryz.prog) w 1 ⟨m.toArray⟩
  have q:=run_storeCells_cells (P:=Tryz.prog) g l.length (aZ m) 0 w (fun j f=>by rw [kG] at f;exact (t _ (by omega)).1) (fun j f=>by rw [kG] at f;exact (t _ (by omega)).2) (qA m)
  rw [c,sI] at B
  simp only [Nat.add_zero] at q
  refine ⟨_,_,?_,xY h1 E F t A e,qU _ _ _ _,.inl rfl⟩
  simp [Builtin.append_,run_underlying Tryz.underlying168,run_underlying Tryz.underlying9,sizeOf,typeInfo,hi,hs,c,Builtin.lenOf,e,B,Addr.add_lit,q]
 have s:=run_append_grow_string (P:=Tryz.prog) w 168 9 ty 5 i (.int .u8 0) Tryz.underlying168 Tryz.underlying9 hi hz ⟨g,0,none⟩ l.length d (aZ l) (by rw [hs];simp [aZ]) (fun j u D=>by
   have f:j < l.length:=by have:=(gs.1 D).1;rwa [kG] at this
   rw [Addr.add_lit,Nat.zero_add,A j f,<- D]
   simp [aZ,f]) ⟨m.toArray⟩ (by rw [c];omega) (by rw [c];omega) (by rw [c];exact growslice_fits (by omega) (by rw [hby];omega))
 rw [c,sI] at s
 refine ⟨_,_,s,?_,?_,.inr ⟨w.heap.size,rfl,Nat.le_refl _⟩⟩
 rotate_left
 ·refine vV ?_ _
  exact ⟨rfl,rfl,rfl,by simp,fun k J _=>Below.heap_alloc w.drew _ k J⟩
 have y:=grownCap_ge w (l.length+m.length) d 5
 have x:grownCap w (l.length+m.length) d 5<=maxLen:=grownCap_le_maxLen w (l.length+m.length) d 5 o
 have H:(w.drew.alloc (.cells ((aZ l).toArray ++ (aZ m).toArray ++ Builtin.zeroCells (Value.int .u8 0).cells (grownCap w (l.length+m.length) d 5 - (l.length+m.length))) 5)).ownsRow w.heap.size 5 1 (.slice (so w.heap.size) (l.length+m.length) (grownCap w (l.length+m.length) d 5)) (l ++ m).length (aZ (l ++ m)):=by
  rw [pZ,length_append]
  refine ⟨by simp [aZ],.inr ⟨w.heap.size,_,_,rfl,Nat.le_refl _,Go.heap_alloc_new w.drew _,y,x,?_,?_⟩⟩
  ·simp only [Array.size_append,size_toArray,size_zeroCells,kG]
   show l.length+m.length+_*1=_
   omega
  simp only [Array.toList_append,append_assoc]
  rw [<- append_assoc,show (l.length+m.length)*1=(aZ l ++ aZ m).length by simp [aZ]]
  exact take_left
 exact (oL H).weak hbase
theorem BS {f:Array Oper} {rest:List Oper} {o:Oper} {a:Act} {w:World} {Q:Exit->Act->World->Prop} (i:o.guard=none) (s x:Operand)
  (ho:o.op=.call { callee:=.builtin .append,args:=#[s,x],argTypes:=#[168,168] })
  (base:Nat) (v:Value) (l m:List UInt8) (hs:a.eval s=v) (hown:ownM w base v l) (ad:Addr) (c:Nat) (hx:a.eval x=.slice (some ad) m.length c) (hnews:∀ j u,(aZ m)[j]?=some u->w.cell? (ad.add j)=some u)
  (e:l.length+m.length<=100000000000000) (hbase:base<=w.heap.size)
  (h:∀ d g,ownM g base d (l ++ m)->w.grownBy g v.ownBlock->(d.ownBlock=v.ownBlock\/∃ b,d.ownBlock=some b/\w.heap.size<=b)->wpList Tryz.prog f Q rest (a.put o.dst d) g):wpList Tryz.prog f Q (o :: rest) a w:=by
 refine wpList_plain i fun K hK=>?_
 obtain ⟨d,g,q,k,n,p⟩:=RD w base o.type v l m hown ad c hnews e hbase
 unfold Oper.wp execOp
 simp only [ho,resolve,invoke,builtin,Sem.run_bind,Sem.run_pure,Result.andThen_ok,map_toArray,map_cons,map_nil,hs,hx,q]
 exact hK _ _ (h d g k n p)
theorem BT {e:Array Oper} {rest:List Oper} {o:Oper} {a:Act} {w:World} {Q:Exit->Act->World->Prop} (g:o.guard=none) (s x:Operand)
  (ho:o.op=.call { callee:=.builtin .append,args:=#[s,x],argTypes:=#[168,9] })
  (base:Nat) (v:Value) (l m:List UInt8) (hs:a.eval s=v) (hown:ownM w base v l) (hx:a.eval x=.string ⟨m.toArray⟩)
  (d:l.length+m.length<=100000000000000) (hbase:base<=w.heap.size)
  (h:∀ c f,ownM f base c (l ++ m)->w.grownBy f v.ownBlock->(c.ownBlock=v.ownBlock\/∃ b,c.ownBlock=some b/\w.heap.size<=b)->wpList Tryz.prog e Q rest (a.put o.dst c) f):wpList Tryz.prog e Q (o :: rest) a w:=by
 refine wpList_plain g fun K hK=>?_
 obtain ⟨c,f,n,i,j,k⟩:=RE w base o.type v l m hown d hbase
 unfold Oper.wp execOp
 simp only [ho,resolve,invoke,builtin,Sem.run_bind,Sem.run_pure,Result.andThen_ok,map_toArray,map_cons,map_nil,hs,hx,n]
 exact hK _ _ (h c f i j k)
structure Stp where
 what:Int
 name:List UInt8
 to:List UInt8
 data:List UInt8
structure Fl where
 name:List UInt8
 data:List UInt8
 safe:Nat
def LOG:List UInt8:=[108,111,103]
def bO:List UInt8:=[108,111,103,46,49]
def iP:List UInt8:=[108,111,103,46,50]
abbrev dA (n d:List UInt8):Stp:=⟨1,n,[],d⟩
abbrev dB (n:List UInt8):Stp:=⟨2,n,[],[]⟩
abbrev eV (n t:List UInt8):Stp:=⟨3,n,t,[]⟩
abbrev iD (v:Value):List Nat:=v.ownBlock.toList
theorem gW {S:List Nat}{a b c:World}{row:Option Nat}(h:Fr S a b)(k:b.grownBy c row)(hs:∀ g,row=some g->g∈S\/a.heap.size<=g):Fr S a c :=
 ⟨k.os.trans h.os,k.tape.trans h.tape,k.output.trans h.output,Nat.le_trans h.size k.size,fun i hi hn=>(k.block i (Nat.lt_of_lt_of_le hi h.size) (fun e=>by
  rcases hs i e.symm with h1|h1
  ·exact hn h1
  omega)).trans (h.block i hi hn)⟩
structure ApM (w:World) (base:Nat) (tv:Value) (l:List UInt8) (v:Value) (wr:World):Prop where
 own:ownM wr base v l
 fr:Fr (iD tv) w wr
 blk:v.ownBlock=tv.ownBlock\/∃ b,v.ownBlock=some b/\w.heap.size<=b
theorem ApM.start {w:World}{base:Nat}{tv:Value}{l:List UInt8}(h:ownM w base tv l):ApM w base tv l tv w:=⟨h,r0 _ _,.inl rfl⟩
theorem ApM.next {w:World} {base:Nat} {tv:Value} {l m:List UInt8} {v c:Value} {wr d f:World} (h:ApM w base tv l v wr) (i:Fr [] wr d) (hown:ownM f base c (l ++ m)) (a:d.grownBy f v.ownBlock)
  (hb:c.ownBlock=v.ownBlock\/∃ b,c.ownBlock=some b/\d.heap.size<=b):ApM w base tv (l ++ m) c f:=by
 have hs:=h.fr.size
 have j:=i.size
 refine ⟨hown,gW (h.fr.then0 i) a (fun g a=>?_),?_⟩
 ·rcases h.blk with e|⟨b,e,hb⟩
  ·exact .inl (by rw [e] at a;simp [iD,a])
  rw [e] at a;cases a;exact .inr hb
 rcases hb with e|⟨b,e,hb⟩
 ·rw [e];exact h.blk
 exact .inr ⟨b,e,by omega⟩
theorem xK (x:Int)(b:UInt8)(hb:gD b=.int .u8 x)(W:World)(j:Nat)(u:Value)(a:(aZ [b])[j]?=some u):(W.alloc (.cells #[.int .u8 x] 5)).cell? ((⟨W.heap.size,0,none⟩:Addr).add j)=some u:=by
 have c:j=0:=by
  have:=(gs.1 a).1
  simp [aZ] at this
  exact this
 subst c
 rw [Addr.add_lit,aB (aC W _),<- hb]
 simpa [aZ] using a
theorem nL (base A W nc:Nat) (tv:Value) (l:List UInt8) (ns:List Int) (w:World) (hown:ownM w base tv l) (F:∀ n∈ns,0<=n/\n<=1000000000) (hc:∀ j (h:j < ns.length),w.cell? ⟨A,W+j,none⟩=some (ii ns[j]))
  (P:tv.ownBlock≠some A) (hl:l.length<=10000000) (ac:ns.length<=10000) (M:base<=w.heap.size) (Q:A < w.heap.size) :
  Cs 79 #[tv,.slice (some ⟨A,W,none⟩) ns.length nc] w fun e w' =>
   ∃ v,e=.returned v/\ApM w base tv (l ++ aP ns) v w':=by
 have HC:=aA hc
 have C:=aA F
 have J:Hi (ownM w base tv l):=hown
 clear hc F hown
 have aa:=aA M
 have I:Hi (∀ (wr:World) (v:Value) (m:List UInt8),ApM w base tv m v wr->∀ j (h:j < ns.length),wr.cell? ⟨A,W+j,none⟩=some (ii ns[j])):=fun wr v m d j hj=>by
  rw [d.fr.cell A _ Q (by simp [iD];exact P)]
  exact HC.o j hj
 go_enter Tryz.func79,Tryz.ntmps79
 go_wp2_with fail
 go_loopw [0,9] (fun v i wr=>∃ k:Nat,k<=ns.length/\i=.int .i64 k/\ApM w base tv (l ++ aP (ns.take k)) v wr) (fun _ i _=>ns.length - (intOf i).toNat)
 case atStart=>exact ⟨0,Nat.zero_le _,rfl,by rw [take_zero,qO,append_nil];exact ApM.start J.o⟩
 obtain ⟨k,hk,rfl,d⟩:=hrel
 by_cases s:k < ns.length
 ·have E:(k:Int) < (ns.length:Int):=by omega
  have p:=I.o wr _ _ d k s
  obtain ⟨t,z,O⟩:∃ t:Nat,ns[k]=(t:Int)/\t<=1000000000:=by
   have:=C.o ns[k] (getElem_mem s)
   exact ⟨ns[k].toNat,by omega,by omega⟩
  have D:(l ++ aP (ns.take k)).length<=10050000:=by
   have:=gV (ns.take k) (fun n hn=>(C.o n (mem_of_mem_take hn)).2)
   rw [length_append]
   simp at this
   omega
  have B:Hi (l ++ aP (ns.take (k+1))=(l ++ aP (ns.take k)) ++ bL t):=by
   show _=_
   rw [take_succ_eq_append_getElem s,jD,z,append_assoc]
   simp [aP]
  rw [z] at p
  obtain ⟨L,X⟩:∃ L,L=l ++ aP (ns.take k):=⟨_,rfl⟩
  rw [<- X] at d D B
  have f:=aA d
  clear X z d
  go_wp2_with fail
  obtain ⟨wo,H⟩:∃ x,x=wr:=⟨_,rfl⟩
  rw [<- H] at f |-
  clear H p
  go_loopw [0,6] (fun v i wr=>∃ (m:Nat) (a:List UInt8),i=.int .i64 m/\m<=1000000000/\a.length<=10/\Hi (a ++ bL m=bL t)/\ApM w base tv (L ++ a) v wr) (fun _ i _=>(intOf i).toNat)
  case atStart=>exact ⟨t,[],rfl,O,by simp,rfl,by rw [append_nil];exact f.o⟩
  obtain ⟨m,a,rfl,hm,ae,r,d⟩:=hrel
  by_cases Y:128<=m
  ·have K:¬ (m:Int) < 128:=by omega
   have ab:(128:Int)<=(m:Int):=by omega
   obtain ⟨q,hq⟩:∃ q:Nat,(m:Int) % 128=q:=⟨m % 128,by omega⟩
   have R:q < 128:=by omega
   have ad:=xU q R
   have f:=aA d
   clear d
   have y:Hi (ownM (wr.alloc (.cells #[.int .u8 ((q:Int)+128)] 5)) base u0 (L ++ a)):=f.o.own.fr ((r0 [] wr).alloc _) (by simp)
   have u:Hi (gD (UInt8.ofNat (q+128))=.int .u8 ((q:Int)+128)):=by show _=_;rw [show q=m % 128 by omega,uI];push_cast;rfl
   have V:=f.o.fr.size
   have N:(L ++ a).length<=10060000:=by rw [length_append];omega
   have HQ:=aA hq
   go_wp2_with (at_builtin;refine BS rfl _ _ rfl base u0 (L ++ a) [UInt8.ofNat (q+128)] rfl y.o ⟨wr.heap.size,0,none⟩ 1 rfl (xK _ _ u.o wr) (by simp;omega) (by simp;omega) ?_;intro v' w3 c b g)
   go_roundw
   case rel =>
    have S:q=m % 128:=by have:=HQ.o;omega
    refine ⟨m / 128,a ++ [UInt8.ofNat (q+128)],by go_num,by omega,?_,?_,?_⟩
    ·have h1:(a ++ bL m).length<=5:=by rw [r.o];exact iL 5 t (by omega) (by omega)
     have h2:=oI m
     rw [length_append] at h1 |-
     simp
     omega
    ·show a ++ [UInt8.ofNat (q+128)] ++ bL (m / 128)=bL t
     rw [<- r.o,lJ (n:=m) (by omega),S,append_assoc]
     rfl
    rw [<- append_assoc]
    exact f.o.next ((r0 [] wr).alloc _) c b g
   case measure=>simp [intOf];omega
  have K:(m:Int) < 128:=by omega
  have f:=aA d
  clear d
  have y:Hi (ownM (wr.alloc (.cells #[.int .u8 (m:Int)] 5)) base u0 (L ++ a)):=f.o.own.fr ((r0 [] wr).alloc _) (by simp)
  have u:Hi (gD (UInt8.ofNat m)=.int .u8 (m:Int)):=uH m (by omega)
  have V:=f.o.fr.size
  have N:(L ++ a).length<=10060000:=by rw [length_append];omega
  go_wp2_with (at_builtin;refine BS rfl _ _ rfl base u0 (L ++ a) [UInt8.ofNat m] rfl y.o ⟨wr.heap.size,0,none⟩ 1 rfl (xK _ _ u.o wr) (by simp;omega) (by simp;omega) ?_;intro v' w3 c b g)
  go_roundw
  case rel =>
   refine ⟨k+1,s,by go_num,?_⟩
   rw [B.o]
   have h1:bL t=a ++ [UInt8.ofNat m]:=by rw [<- r.o,kL (by omega)]
   rw [h1,<- append_assoc]
   exact f.o.next ((r0 [] wr).alloc _) c b g
  case measure=>simp [intOf];omega
 have E:¬ (k:Int) < (ns.length:Int):=by omega
 rw [take_of_length_le (by omega)] at d
 have f:=aA d
 clear d
 go_wp2_with fail
 go_ret
 exact ⟨_,rfl,f.o⟩
theorem fZ {S:List Nat}{w c:World}{base n:Nat}{e:TypeId}{size:Nat}{v:Value}{xs:List Value}(h:w.ownsRow base e size v n xs)(f:Fr S w c)(hn:∀ b,v.ownBlock=some b->b∉S):c.ownsRow base e size v n xs:=by
 refine ⟨h.1,?_⟩
 rcases h.2 with d|⟨g,a,cur,rfl,hb,i,r⟩
 ·exact .inl d
 exact .inr ⟨g,a,cur,rfl,hb,f.heap i (hn g rfl),r⟩
theorem zT {w:World}{base n:Nat}{e:TypeId}{size:Nat}{v:Value}{xs:List Value}(h:w.ownsRow base e size v n xs){b:Nat}(hb:v.ownBlock=some b):base<=b/\b < w.heap.size:=by
 rcases h.2 with ⟨h1,_⟩|⟨g,a,cur,rfl,h1,c,_⟩
 ·rw [h1] at hb;simp [Value.ownBlock] at hb
 simp [Value.ownBlock] at hb
 subst hb
 exact ⟨h1,aH c⟩
theorem fR {w:World}{base n:Nat}{e:TypeId}{size:Nat}{v:Value}{xs:List Value}(h:w.ownsRow base e size v n xs):∃ a c,v=.slice a n c:=by
 rcases h.2 with ⟨rfl,rfl⟩|⟨g,b,cur,rfl,_⟩
 ·exact ⟨_,_,rfl⟩
 exact ⟨_,_,rfl⟩
abbrev Nm:=List UInt8
abbrev Stp.cells (s:Stp):List Value:=[ii s.what,sv s.name,sv s.to,sv s.data]
def MapO (w:World)(a:Value)(f:Nm->Option Value):Prop:=(a=.map none/\∀ k,f k=none)\/∃ r,a=.map (some r)/\MapS w r f
def iC (v:Value):Option Nat:=match v with|.map r=>r|_=>none
abbrev gF (p:Value×List UInt8):Value:=.agg #[p.1]
structure SVE (E:Nm->Prop) (w:World) (mv stv:Value) (S:List Nat) (g:Nm->Option (Value×List UInt8)) (steps:List Stp):Prop where
 map:MapO w mv (fun k=>(g k).map gF)
 own:∀ k p,¬ E k->g k=some p->ownM w 0 p.1 p.2
 blk:∀ k p b,¬ E k->g k=some p->p.1.ownBlock=some b->b∈S/\iC mv≠some b/\stv.ownBlock≠some b/\∀ k' p',¬ E k'->g k'=some p'->p'.1.ownBlock=some b->k'=k
 mb:∀ b,iC mv=some b->b∈S/\stv.ownBlock≠some b
 st:w.ownsRow 0 113 4 stv steps.length (steps.flatMap Stp.cells)
 sb:∀ b,stv.ownBlock=some b->b∈S
 lt:∀ b∈S,b < w.heap.size
theorem MapO.fr {S:List Nat}{w c:World}{a:Value}{f:Nm->Option Value}(h:MapO w a f)(d:Fr S w c)(hn:∀ b,iC a=some b->b∉S):MapO c a f:=by
 rcases h with h|⟨r,rfl,h⟩
 ·exact .inl h
 exact .inr ⟨r,rfl,h.fr d (hn r rfl)⟩
theorem SVE.fr {E:Nm->Prop}{S':List Nat}{w l:World}{j c:Value}{S:List Nat}{g:Nm->Option (Value×List UInt8)}{a:List Stp}(h:SVE E w j c S g a)(d:Fr S' w l)(e:∀ b∈S,b∉S'):SVE E l j c S g a :=
  ⟨h.map.fr d (fun b hb=>e b (h.mb b hb).1),fun k p f i=>(h.own k p f i).fr d (fun b hb=>e b (h.blk k p b f i hb).1),h.blk,h.mb,fZ h.st d (fun b hb=>e b (h.sb b hb)),h.sb,fun b hb=>Nat.lt_of_lt_of_le (h.lt b hb) d.size⟩
theorem SVE.fr0 {E:Nm->Prop}{w d:World}{c b:Value}{S:List Nat}{g:Nm->Option (Value×List UInt8)}{a:List Stp}(h:SVE E w c b S g a)(e:Fr [] w d):SVE E d c b S g a:=h.fr e (by simp)
theorem SVE.weak {E j:Nm->Prop}{w:World}{m c:Value}{S:List Nat}{g:Nm->Option (Value×List UInt8)}{a:List Stp}(h:SVE E w m c S g a)(d:∀ k,E k->j k):SVE j w m c S g a :=
 ⟨h.map,fun k p hn f=>h.own k p (fun e=>hn (d k e)) f,fun k p b hn f hb=>by
  obtain ⟨h1,n,o,q⟩:=h.blk k p b (fun e=>hn (d k e)) f hb
  exact ⟨h1,n,o,fun l r i=>q l r (fun e=>i (d l e))⟩,h.mb,h.st,h.sb,h.lt⟩
theorem SVE.mono {E:Nm->Prop}{w:World}{d c:Value}{S S':List Nat}{g:Nm->Option (Value×List UInt8)}{a:List Stp}(h:SVE E w d c S g a)(hs:∀ b∈S,b∈S')(hl:∀ b∈S',b < w.heap.size):SVE E w d c S' g a :=
 ⟨h.map,h.own,fun k p b f i hb=>by
  obtain ⟨h1,e⟩:=h.blk k p b f i hb
  exact ⟨hs b h1,e⟩,fun b hb=>⟨hs b (h.mb b hb).1,(h.mb b hb).2⟩,h.st,fun b hb=>hs b (h.sb b hb),hl⟩
def SB (w:World)(d:Nat)(a:List Value)(ty:TypeId)(c b:Value):Prop:=w.heap[d]?=some (.cells (a ++ [c,b]).toArray ty)
theorem SB.c0 {w:World}{d:Nat}{a:List Value}{ty:TypeId}{c b:Value}(h:SB w d a ty c b):w.cell? ⟨d,a.length,none⟩=some c:=by
 rw [aB h]
 simp
theorem SB.c1 {w:World}{c:Nat}{a:List Value}{ty:TypeId}{d b:Value}(h:SB w c a ty d b):w.cell? ⟨c,a.length+1,none⟩=some b:=by
 rw [aB h]
 simp
theorem SB.fz {w:World}{c:Nat}{a:List Value}{ty:TypeId}{d b:Value}(h:SB w c a ty d b)(o:Nat):w.frozen? ⟨c,o,none⟩=false:=bI h
theorem SB.lt {w:World}{c:Nat}{a:List Value}{ty:TypeId}{d b:Value}(h:SB w c a ty d b):c < w.heap.size:=aH h
theorem SB.fr {S:List Nat}{w e:World}{c:Nat}{a:List Value}{ty:TypeId}{d b:Value}(h:SB w c a ty d b)(f:Fr S w e)(hn:c∉S):SB e c a ty d b:=f.heap h hn
theorem iN {w:World}{b o:Nat}{cs:Array Value}{ty:TypeId}{fz:Nat×Nat}(h:w.heap[b]?=some (.cells cs ty fz))(v:Value):(w.setCell ⟨b,o,none⟩ v).heap[b]?=some (.cells (cs.setIfInBounds o v) ty fz):=by
 rw [setCell_eq_setRow w b o cs ty fz v h]
 exact setRow_heap w b cs _ ty fz h
theorem SB.set0 {w:World}{c:Nat}{a:List Value}{ty:TypeId}{d b:Value}(h:SB w c a ty d b)(v:Value):SB (w.setCell ⟨c,a.length,none⟩ v) c a ty v b:=by
 unfold SB
 rw [iN h]
 congr 2
 apply Array.ext_getElem?
 intro i
 rw [Array.getElem?_setIfInBounds]
 by_cases e:a.length=i
 ·subst e
  simp
 rw [if_neg e]
 rcases Nat.lt_or_ge i a.length with hi|hi
 ·simp [getElem?_append_left hi]
 obtain ⟨j,rfl⟩:∃ j,i=a.length+(j+1):=⟨i - a.length - 1,by omega⟩
 simp only [getElem?_toArray]
 rw [getElem?_append_right (by omega),getElem?_append_right (by omega),Nat.add_sub_cancel_left]
 rfl
theorem SB.set1 {w:World}{b:Nat}{a:List Value}{ty:TypeId}{d c:Value}(h:SB w b a ty d c)(v:Value):SB (w.setCell ⟨b,a.length+1,none⟩ v) b a ty d v:=by
 unfold SB
 rw [iN h]
 congr 2
 apply Array.ext_getElem?
 intro i
 rw [Array.getElem?_setIfInBounds]
 by_cases e:a.length+1=i
 ·subst e
  simp
 rw [if_neg e]
 rcases Nat.lt_or_ge i a.length with hi|hi
 ·simp [getElem?_append_left hi]
 obtain ⟨j,rfl⟩:∃ j,i=a.length+j:=⟨i - a.length,by omega⟩
 cases j with
 | zero=>simp
 | succ j =>
  cases j with
  | zero=>omega
  | succ j =>
   simp only [getElem?_toArray]
   rw [getElem?_append_right (by omega),getElem?_append_right (by omega),Nat.add_sub_cancel_left]
   rfl
