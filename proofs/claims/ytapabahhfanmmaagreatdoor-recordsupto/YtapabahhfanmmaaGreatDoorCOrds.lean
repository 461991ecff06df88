import Derived.Laws.Concat
import Derived.Test.YtapabahhfanmmaaGreatDoorCPlay3
namespace Go.Proofs.YtapabahhfanmmaaGreatDoor
open Go.RowKit List
theorem sT:Tryz.zeroCells162=((range 144).map (fun _=>ii 0) ++ [ii 0,ii 0,ii 0,ii 0]).toArray:=by kernel_rfl
theorem II:iH Tryz.prog 90=some [(0,1),(1,1),(2,2),(4,144),(148,1)]:=by kernel_rfl
theorem IL:(Tryz.prog.info? 90).map (fun i=>i.zero.map (·.cells))=some (some (ii 0 :: ii 0 :: ii 0 :: ii 0 :: ((range 144).map (fun _=>ii 0) ++ [Value.slice none 0 0])).toArray):=by kernel_rfl
theorem ED (t:TypeId)(a:List (Nat×Nat))(j:Array Value)(e:iH Tryz.prog t=some a)(hz:(Tryz.prog.info? t).map (fun i=>i.zero.map (·.cells))=some (some j))(c:List (Nat×Value))(b:Array Value)(h:Instr.fill (a.toArray[·]?) j c=some b):Tryz.prog.built t c=some b:=by
 unfold Program.built
 unfold iH at e
 cases hi:Tryz.prog.info? t with
 | none=>rw [hi] at hz;simp at hz
 | some it =>
  rw [hi] at hz
  cases f:it.zero with
  | none=>simp [f] at hz
  | some z =>
   simp [f] at hz
   cases g:Tryz.prog.underlying t with
   | none=>rw [g] at e;simp at e
   | some d =>
    rw [g] at e
    cases d <;> try (simp at e;done)
    dsimp only at e |-
    rw [f,e]
    dsimp only
    rw [hz]
    exact h
theorem EF (B:List Value)(f:B.length=144):Tryz.prog.built 90 [(1,ii 1),(2,.agg #[ii 10,ii 10]),(3,.agg B.toArray)]=some (ii 0 :: ii 1 :: ii 10 :: ii 10 :: (B ++ [Value.slice none 0 0])).toArray:=by
 refine ED _ _ _ II IL _ _ ?_
 obtain ⟨Z,b⟩:∃ Z,Z=(range 144).map (fun _=>ii 0):=⟨_,rfl⟩
 have c:Z.length=144:=by rw [b];simp
 rw [<- b]
 clear b
 rw [jB _ _ _ _ _ 1 1 rfl rfl (by simp)]
 rw [show (((ii 0 :: ii 0 :: ii 0 :: ii 0 :: (Z ++ [Value.slice none 0 0])).toArray.toList.take 1 ++ (ii 1).cells.toList ++ (ii 0 :: ii 0 :: ii 0 :: ii 0 :: (Z ++ [Value.slice none 0 0])).toArray.toList.drop (1+1)).toArray)=(ii 0 :: ii 1 :: ii 0 :: ii 0 :: (Z ++ [Value.slice none 0 0])).toArray from rfl]
 rw [jB _ _ _ _ _ 2 2 rfl rfl (by simp)]
 rw [show (((ii 0 :: ii 1 :: ii 0 :: ii 0 :: (Z ++ [Value.slice none 0 0])).toArray.toList.take 2 ++ (Value.agg #[ii 10,ii 10]).cells.toList ++ (ii 0 :: ii 1 :: ii 0 :: ii 0 :: (Z ++ [Value.slice none 0 0])).toArray.toList.drop (2+2)).toArray)=(ii 0 :: ii 1 :: ii 10 :: ii 10 :: (Z ++ [Value.slice none 0 0])).toArray from rfl]
 have a:(Value.agg B.toArray).cells.size=144:=by show B.toArray.size=144;simpa using f
 rw [jB _ _ _ _ _ 4 144 rfl a (by simp;omega)]
 have d:(Value.agg B.toArray).cells.toList=B:=rfl
 have e:(ii 0 :: ii 1 :: ii 10 :: ii 10 :: (Z ++ [Value.slice none 0 0])).toArray.toList.drop (4+144)=[Value.slice none 0 0]:=by
  show (Z ++ [Value.slice none 0 0]).drop 144=_
  rw [<- c,drop_left]
 rw [d,e]
 rfl
theorem UX {c:Array Oper} {rest:List Oper} {o:Oper} {a:Act} {w:World} {Q:Exit->Act->World->Prop} (u:o.guard=none) (t:TypeId) (e f g:Nat) (j k l:Operand) (ho:o.op=.build t #[(e,j),(f,k),(g,l)])
  (m n p:Value) (h1:a.eval j=m) (q:a.eval k=n) (r:a.eval l=p) (b:Array Value)
  (s:Tryz.prog.built t [(e,m),(f,n),(g,p)]=some b) (h:wpList Tryz.prog c Q rest (a.put o.dst (.agg b)) w):wpList Tryz.prog c Q (o :: rest) a w :=
 wpList_plain u fun _ hK=>by
  have d:Tryz.prog.built t ((#[(e,j),(f,k),(g,l)]:Array (Nat×Operand)).map fun (i,x)=>(i,a.eval x)).toList=some b:=by
   simp [h1,q,r,s]
  unfold Oper.wp execOp
  simp only [ho,Sem.run_bind,run_build w t _ b d,Result.andThen_ok]
  exact hK _ _ h
theorem IA:∀ w,(Instr.field 220 gZ 0).run Tryz.prog w=.ok (ii 40) w:=fun w=>by kernel_rfl
theorem JO:(Tryz.prog.info? 162).map (·.size)=some 148:=by kernel_rfl
theorem RY:iH Tryz.prog 100=some [(0,149)]:=by kernel_rfl
theorem RZ:pM Tryz.prog 100=some (some 149):=by kernel_rfl
theorem EI (gs:Array Value)(a:gs.size=149):Tryz.prog.built 100 [(0,.agg gs)]=some gs:=by
 refine uB _ _ _ RY RZ _ _ (fun z hz=>?_)
 rw [jB _ _ _ _ _ 0 149 rfl (by exact a) (by omega)]
 have e:z.toList.drop (0+149)=[]:=drop_of_length_le (by simp [hz])
 rw [e]
 show some (([] ++ gs.toList ++ []).toArray)=some gs
 simp
theorem BU {c:Array Oper} {rest:List Oper} {o:Oper} {a:Act} {w:World} {Q:Exit->Act->World->Prop} (k:o.guard=none) (t:TypeId) (e:Nat) (f:Operand) (ho:o.op=.build t #[(e,f)])
  (g:Value) (h1:a.eval f=g) (b:Array Value)
  (j:Tryz.prog.built t [(e,g)]=some b) (h:wpList Tryz.prog c Q rest (a.put o.dst (.agg b)) w):wpList Tryz.prog c Q (o :: rest) a w :=
 wpList_plain k fun _ hK=>by
  have d:Tryz.prog.built t ((#[(e,f)]:Array (Nat×Operand)).map fun (i,x)=>(i,a.eval x)).toList=some b:=by
   simp [h1,j]
  unfold Oper.wp execOp
  simp only [ho,Sem.run_bind,run_build w t _ b d,Result.andThen_ok]
  exact hK _ _ h
def kT (v:U):Prop:=v.what=0/\v.tox=0/\v.toy=0/\v.target=0
def SameO (v a:U):Prop:=a.id=v.id/\a.owner=v.owner/\a.what=v.what/\a.tox=v.tox/\a.toy=v.toy/\a.target=v.target
theorem SameO.refl (v:U):SameO v v:=⟨rfl,rfl,rfl,rfl,rfl,rfl⟩
def CI (t:T)(u:U):Prop :=
 kT u\/((u.what=1\/u.what=2)/\aD u.tox u.toy=true/\t.bd (ci u.tox u.toy)≠10/\u.target=0) \/
 (u.what=3/\u.tox=0/\u.toy=0/\1<=u.target/\u.target < t.next/\∀ v∈t.us,v.id=u.target->v.owner≠u.owner) \/
 (u.what=4/\u.toy=0/\u.target=0)
def OS (t:T):Prop:=∀ u∈t.us,CI t u
structure Ord1 (t t':T):Prop where
 bd:∀ i,t.bd i≠10->t'.bd i≠10
 us:∀ v'∈t'.us,kT v'\/∃ v∈t.us,SameO v v'
theorem Ord1.refl (t:T):Ord1 t t:=⟨fun _ h=>h,fun v h=>.inr ⟨v,h,SameO.refl v⟩⟩
theorem OS.of {t l:T}{P:Int->Prop}(h:OS t)(m:Good t P l)(ho:Ord1 t l):OS l:=by
 intro u' j
 rcases ho.us u' j with hi|⟨v,r,u,p,g,i,f,d⟩
 ·exact .inl hi
 rcases h v r with ⟨a,b,c,e⟩|⟨a,b,c,e⟩|⟨a,b,c,e,n,o⟩|⟨a,b,c⟩
 ·exact .inl ⟨g.trans a,i.trans b,f.trans c,d.trans e⟩
 ·exact .inr (.inl ⟨by rw [g];exact a,by rw [i,f];exact b,by rw [i,f];exact ho.bd _ c,d.trans e⟩)
 ·refine .inr (.inr (.inl ⟨g.trans a,i.trans b,f.trans c,by rw [d];exact e,by rw [d];exact Int.lt_of_lt_of_le n m.nx,?_⟩))
  intro s k aA
  rw [d] at aA
  rcases m.rel s k with q|⟨x,hx,hn⟩
  ·omega
  rw [hn.owner,p]
  exact o x hx (by rw [<- aA,hn.id])
 exact .inr (.inr (.inr ⟨g.trans a,f.trans b,d.trans c⟩))
structure OrdA (t:T) (u:U) (q:U×T):Prop where
 bd:∀ i,t.bd i≠10->q.2.bd i≠10
 us:∀ v'∈q.2.us,kT v'\/∃ v∈t.us,SameO v v'
 me:kT q.1\/SameO u q.1
theorem mG (u:U):kT u.idle:=⟨rfl,rfl,rfl,rfl⟩
theorem OrdA.same {t b:T}{u u':U}(hb:b.bd=t.bd)(c:b.us=t.us)(hm:kT u'\/SameO u u'):OrdA t u (u',b) :=
  ⟨fun i h=>by show b.bd i≠10;rw [hb];exact h,fun v d=>.inr ⟨v,by have a:v∈b.us:=d;rw [c] at a;exact a,SameO.refl v⟩,hm⟩
theorem AY (t:T)(o v:Int):(t.setStock o v).bd=t.bd:=by unfold T.setStock;split <;> rfl
theorem AZ (t:T)(o v:Int):(t.setStock o v).us=t.us:=by unfold T.setStock;split <;> rfl
theorem NQ (t:T)(u:U):OrdA t u (eZ t u):=by
 unfold eZ
 split
 ·exact OrdA.same rfl rfl (.inl (mG u))
 exact OrdA.same rfl rfl (.inr (SameO.refl u))
theorem NK (t:T)(u:U):OrdA t u (eB t u):=by
 unfold eB
 split
 ·exact OrdA.same rfl rfl (.inr (SameO.refl u))
 split
 ·exact OrdA.same (AY _ _ _) (AZ _ _ _) (.inr (SameO.refl u))
 exact OrdA.same rfl rfl (.inr (SameO.refl u))
theorem NP (t:T)(u:U):OrdA t u (dM t u):=by
 unfold dM
 split
 ·exact NK t u
 split
 ·rename_i ho
  split
  ·refine ⟨fun i h=>?_,fun v b=>.inr ⟨v,b,SameO.refl v⟩,.inr (SameO.refl u)⟩
   have a:0 < t.bd (ci u.tox u.toy)/\t.bd (ci u.tox u.toy) < 10:=by simpa [gK] using ho
   show (if i=ci u.tox u.toy then t.bd (ci u.tox u.toy) - min (t.bd (ci u.tox u.toy)) 5 else t.bd i)≠10
   split
   ·omega
   exact h
  exact OrdA.same rfl rfl (.inr (SameO.refl u))
 exact OrdA.same rfl rfl (.inl (mG u))
theorem IX {t:T}{i:Nat}:(t.harm i).bd=t.bd/\∀ d∈(t.harm i).us,∃ v∈t.us,SameO v d:=by
 unfold T.harm
 split
 ·exact ⟨rfl,fun v a=>⟨v,a,SameO.refl v⟩⟩
 rename_i u c
 split
 ·exact ⟨rfl,fun v a=>⟨v,mem_of_mem_eraseIdx a,SameO.refl v⟩⟩
 refine ⟨rfl,fun v a=>?_⟩
 rcases jU a with rfl|⟨j,_,b⟩
 ·exact ⟨u,mem_of_getElem? c,rfl,rfl,rfl,rfl,rfl,rfl⟩
 exact ⟨v,mem_of_getElem? b,SameO.refl v⟩
theorem NO (t:T)(u:U):OrdA t u (eC t u):=by
 unfold eC
 split
 ·exact OrdA.same rfl rfl (.inl (mG u))
 split
 ·exact OrdA.same rfl rfl (.inl (mG u))
 split
 ·obtain ⟨h1,a⟩:=@IX t ‹_›
  exact ⟨fun i h=>by dsimp only;rw [h1];exact h,fun v b=>.inr (a v b),.inr (SameO.refl u)⟩
 exact OrdA.same rfl rfl (.inr (SameO.refl u))
theorem NM (t:T)(u:U):OrdA t u (cX t u):=by
 unfold cX
 split
 ·exact OrdA.same rfl rfl (.inr (SameO.refl u))
 split
 ·exact OrdA.same rfl rfl (.inr (SameO.refl u))
 split
 ·exact OrdA.same rfl rfl (.inr (SameO.refl u))
 split
 ·exact OrdA.same rfl rfl (.inr (SameO.refl u))
 refine ⟨fun i h=>?_,fun v b=>?_,.inl (mG u)⟩
 ·show (t.setStock _ _).bd i≠10
  rw [AY];exact h
 have a:v∈(t.setStock u.owner (t.stock u.owner - eT u.tox)).us ++ [aS (t.setStock u.owner (t.stock u.owner - eT u.tox)).next u.owner u.tox _ _ (cT u.tox)]:=b
 rw [AZ] at a
 rcases mem_append.1 a with a|a
 ·exact .inr ⟨v,a,SameO.refl v⟩
 rw [mem_singleton.1 a]
 exact .inl ⟨rfl,rfl,rfl,rfl⟩
theorem NR (t:T)(u:U):OrdA t u (cK t u):=by
 unfold cK
 split
 ·exact NQ t u
 split
 ·exact NP t u
 split
 ·exact NO t u
 split
 ·exact NM t u
 exact OrdA.same rfl rfl (.inr (SameO.refl u))
theorem OrdA.put {t:T}{u:U}{q:U×T}(h:OrdA t u q)(b:u∈t.us):Ord1 t (cD q.2 q.1):=by
 unfold cD
 split
 ·refine ⟨h.bd,fun v c=>?_⟩
  rcases jU c with rfl|⟨j,_,a⟩
  ·rcases h.me with hm|hm
   ·exact .inl hm
   exact .inr ⟨u,b,hm⟩
  exact h.us v (mem_of_getElem? a)
 exact ⟨h.bd,h.us⟩
theorem tB {t:T}(h:TOk t)(ho:OS t)(a:bD t.us=false)(v:U):OS (fX t v):=by
 have b:=nJ h a v
 refine ho.of b ?_
 unfold fX
 split
 ·exact Ord1.refl t
 split
 ·exact Ord1.refl t
 rename_i u c
 exact (NR t u).put (mem_of_getElem? c)
theorem sX:∀ (l:List U) {t:T},TOk t->OS t->bD t.us=false->OS (eQ l t)
 | [],t,_,h,_=>h
 | v :: l,t,c,h,a=>by
  have h1:=nJ c a v
  have b:=tB c h a v
  unfold eQ
  split
  ·exact b
  rename_i ho
  exact sX l h1.ok b (by simpa using ho)
theorem TP {t:T}(h:TOk t)(ho:OS t)(p:Int)(c:Cm):OS (dZ t p c).2:=by
 unfold dZ
 cases V:bQ t.us c.unit with
 | none=>exact ho
 | some i =>
  dsimp only
  cases hi:t.us[i]? with
  | none=>exact ho
  | some u =>
   dsimp only
   split
   ·rename_i N
    have b:∀ (k:Cm) (m:U),m∈t.us.set i (u.ordered k)->∃ v∈t.us,m.id=v.id/\m.owner=v.owner:=fun k m B=>by
     rcases jU B with rfl|⟨j,_,w⟩
     ·exact ⟨u,mem_of_getElem? hi,rfl,rfl⟩
     exact ⟨m,mem_of_getElem? w,rfl,rfl⟩
    intro v O
    rcases jU O with rfl|⟨j,_,w⟩
    ·have hb:=N.2
     unfold bN at hb
     unfold eM
     by_cases D:c.what=0
     ·simp only [D,if_pos];exact .inl ⟨rfl,rfl,rfl,rfl⟩
     rw [if_neg D] at hb |-
     by_cases n:c.what=1
     ·rw [if_pos n] at hb
      rw [if_neg (by omega),if_neg (by omega)]
      simp at hb
      exact .inr (.inl ⟨.inl n,hb.2.1,hb.2.2,rfl⟩)
     rw [if_neg n] at hb
     by_cases o:c.what=2
     ·rw [if_pos o] at hb
      rw [if_neg (by omega),if_neg (by omega)]
      simp [gK] at hb
      exact .inr (.inl ⟨.inr o,hb.2.1,by show t.bd (ci c.x c.y)≠10;omega,rfl⟩)
     rw [if_neg o] at hb
     by_cases q:c.what=3
     ·rw [if_pos q] at hb |-
      simp at hb
      have f:=hb.2
      unfold gY at f
      cases hl:look t.us c.target with
      | none=>rw [hl] at f;cases f
      | some x =>
       rw [hl] at f
       have A:x.owner≠u.owner:=by simpa using f
       unfold look at hl
       have l:=mem_of_find?_eq_some hl
       have P:x.id=c.target:=by simpa using find?_some hl
       have Q:=(h.all x l).id
       refine .inr (.inr (.inl ⟨q,rfl,rfl,by show 1<=c.target;omega,by show c.target < t.next;omega,?_⟩))
       intro y C aA
       obtain ⟨z,hz,E,s⟩:=b _ y C
       have F:y.id=c.target:=aA
       show y.owner≠u.owner
       rw [s]
       have:z=x:=by
        obtain ⟨S,g⟩:=getElem?_of_mem hz
        obtain ⟨R,d⟩:=getElem?_of_mem l
        by_cases e:S=R
        ·subst e;rw [g] at d;exact Option.some.inj d
        have:=h.rise.ne g d e;omega
       rw [this];exact A
     rw [if_neg q] at hb |-
     by_cases r:c.what=4
     ·rw [if_pos r]
      exact .inr (.inr (.inr ⟨r,rfl,rfl⟩))
     rw [if_neg r] at hb;cases hb
    rcases ho v (mem_of_getElem? w) with a|a|⟨H,I,J,K,L,M⟩|a
    ·exact .inl a
    ·exact .inr (.inl a)
    ·refine .inr (.inr (.inl ⟨H,I,J,K,L,fun y C aA=>?_⟩))
     obtain ⟨z,hz,E,s⟩:=b _ y C
     rw [s]
     exact M z hz (by rw [<- E];exact aA)
    exact .inr (.inr (.inr a))
   exact ho
theorem mB (p:Int):∀ (l:List Cm) (k:Nat) {t:T},TOk t->OS t->OS (aW p k l t).2
 | [],_,_,_,ho=>ho
 | c :: l,k,_,h,ho=>mB p l (k+1) (pH h p c (fun _=>False)).1.ok (TP h ho p c)
theorem yO {t:T}(h:fI t)(ho:OS t)(first a:List Cm):OS (aM t first a).1:=by
 unfold aM
 split
 ·exact ho
 have hb:TOk (cO t):=h
 split
 ·exact ho
 rename_i c
 dsimp only
 have b:bD (cO t).us=false:=by show bD t.us=false;simpa using c
 obtain ⟨d,g⟩:=iZ 0 (fun _=>False) first 0 hb (fun _ e=>e)
 obtain ⟨f,o1⟩:=iZ 1 (fun _=>False) a 0 d.ok (fun _ e=>e)
 have hs:=mB 1 a 0 d.ok (mB 0 first 0 hb ho)
 exact sX _ f.ok hs (by rw [o1,g];exact b)
