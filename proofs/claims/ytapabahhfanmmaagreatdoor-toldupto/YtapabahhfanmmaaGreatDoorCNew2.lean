import Derived.Test.YtapabahhfanmmaaGreatDoorCPlay3
namespace Go.Proofs.YtapabahhfanmmaaGreatDoor
open Go.RowKit
theorem qqz5:Tryz.zeroCells162=((List.range 144).map (fun _=>ii 0) ++ [ii 0,ii 0,ii 0,ii 0]).toArray:=by kernel_rfl
theorem qxq6:zy7 Tryz.prog 90=some [(0,1),(1,1),(2,2),(4,144),(148,1)]:=by kernel_rfl
theorem qxq7:(Tryz.prog.info? 90).map (fun i=>i.zero.map (·.cells))=some (some (ii 0 :: ii 0 :: ii 0 :: ii 0 :: ((List.range 144).map (fun _=>ii 0) ++ [Value.slice none 0 0])).toArray):=by kernel_rfl
theorem dz7 (t:TypeId)(places:List (Nat×Nat))(zs:Array Value)(hf:zy7 Tryz.prog t=some places)(hz:(Tryz.prog.info? t).map (fun i=>i.zero.map (·.cells))=some (some zs))(parts:List (Nat×Value))(cells:Array Value)(h:Instr.fill (places.toArray[·]?) zs parts=some cells):Tryz.prog.built t parts=some cells:=by
 unfold Program.built
 unfold zy7 at hf
 cases hi:Tryz.prog.info? t with
 | none=>rw [hi] at hz;simp at hz
 | some it =>
  rw [hi] at hz
  cases hzz:it.zero with
  | none=>simp [hzz] at hz
  | some z =>
   simp [hzz] at hz
   cases hu:Tryz.prog.underlying t with
   | none=>rw [hu] at hf;simp at hf
   | some d =>
    rw [hu] at hf
    cases d <;> try (simp at hf;done)
    dsimp only at hf |-
    rw [hzz,hf]
    dsimp only
    rw [hz]
    exact h
theorem gj8 (B:List Value)(hB:B.length=144):Tryz.prog.built 90 [(1,ii 1),(2,.agg #[ii 10,ii 10]),(3,.agg B.toArray)]=some (ii 0 :: ii 1 :: ii 10 :: ii 10 :: (B ++ [Value.slice none 0 0])).toArray:=by
 refine dz7 _ _ _ qxq6 qxq7 _ _ ?_
 obtain ⟨Z,hZ⟩:∃ Z,Z=(List.range 144).map (fun _=>ii 0):=⟨_,rfl⟩
 have hZl:Z.length=144:=by rw [hZ];simp
 rw [<- hZ]
 clear hZ
 rw [zv3 _ _ _ _ _ 1 1 rfl rfl (by simp)]
 rw [show (((ii 0 :: ii 0 :: ii 0 :: ii 0 :: (Z ++ [Value.slice none 0 0])).toArray.toList.take 1 ++ (ii 1).cells.toList ++ (ii 0 :: ii 0 :: ii 0 :: ii 0 :: (Z ++ [Value.slice none 0 0])).toArray.toList.drop (1+1)).toArray)=(ii 0 :: ii 1 :: ii 0 :: ii 0 :: (Z ++ [Value.slice none 0 0])).toArray from rfl]
 rw [zv3 _ _ _ _ _ 2 2 rfl rfl (by simp)]
 rw [show (((ii 0 :: ii 1 :: ii 0 :: ii 0 :: (Z ++ [Value.slice none 0 0])).toArray.toList.take 2 ++ (Value.agg #[ii 10,ii 10]).cells.toList ++ (ii 0 :: ii 1 :: ii 0 :: ii 0 :: (Z ++ [Value.slice none 0 0])).toArray.toList.drop (2+2)).toArray)=(ii 0 :: ii 1 :: ii 10 :: ii 10 :: (Z ++ [Value.slice none 0 0])).toArray from rfl]
 have hBs:(Value.agg B.toArray).cells.size=144:=by show B.toArray.size=144;simpa using hB
 rw [zv3 _ _ _ _ _ 4 144 rfl hBs (by simp;omega)]
 have e1:(Value.agg B.toArray).cells.toList=B:=rfl
 have e2:(ii 0 :: ii 1 :: ii 10 :: ii 10 :: (Z ++ [Value.slice none 0 0])).toArray.toList.drop (4+144)=[Value.slice none 0 0]:=by
  show (Z ++ [Value.slice none 0 0]).drop 144=_
  rw [<- hZl,List.drop_left]
 rw [e1,e2]
 rfl
theorem xz0 {ops:Array Oper} {rest:List Oper} {o:Oper} {a:Act} {w:World} {Q:Exit->Act->World->Prop} (hg:o.guard=none) (t:TypeId) (i1 i2 i3:Nat) (x1 x2 x3:Operand) (ho:o.op=.build t #[(i1,x1),(i2,x2),(i3,x3)])
  (v1 v2 v3:Value) (h1:a.eval x1=v1) (h2:a.eval x2=v2) (h3:a.eval x3=v3) (cells:Array Value)
  (hc:Tryz.prog.built t [(i1,v1),(i2,v2),(i3,v3)]=some cells) (h:wpList Tryz.prog ops Q rest (a.put o.dst (.agg cells)) w):wpList Tryz.prog ops Q (o :: rest) a w :=
 wpList_plain hg fun _ hK=>by
  have hc':Tryz.prog.built t ((#[(i1,x1),(i2,x2),(i3,x3)]:Array (Nat×Operand)).map fun (i,x)=>(i,a.eval x)).toList=some cells:=by
   simp [h1,h2,h3,hc]
  unfold Oper.wp execOp
  simp only [ho,Sem.run_bind,run_build w t _ cells hc',Result.andThen_ok]
  exact hK _ _ h
theorem fld1:∀ w,(Instr.field 220 jk7 0).run Tryz.prog w=.ok (ii 40) w:=fun w=>by kernel_rfl
theorem qqj9:(Tryz.prog.info? 162).map (·.size)=some 148:=by kernel_rfl
theorem skF:zy7 Tryz.prog 100=some [(0,149)]:=by kernel_rfl
theorem skZ:vz2 Tryz.prog 100=some (some 149):=by kernel_rfl
theorem kj4 (gs:Array Value)(hg:gs.size=149):Tryz.prog.built 100 [(0,.agg gs)]=some gs:=by
 refine kj3 _ _ _ skF skZ _ _ (fun z hz=>?_)
 rw [zv3 _ _ _ _ _ 0 149 rfl (by exact hg) (by omega)]
 have e:z.toList.drop (0+149)=[]:=List.drop_of_length_le (by simp [hz])
 rw [e]
 show some (([] ++ gs.toList ++ []).toArray)=some gs
 simp
theorem yq7 {ops:Array Oper} {rest:List Oper} {o:Oper} {a:Act} {w:World} {Q:Exit->Act->World->Prop} (hg:o.guard=none) (t:TypeId) (i1:Nat) (x1:Operand) (ho:o.op=.build t #[(i1,x1)])
  (v1:Value) (h1:a.eval x1=v1) (cells:Array Value)
  (hc:Tryz.prog.built t [(i1,v1)]=some cells) (h:wpList Tryz.prog ops Q rest (a.put o.dst (.agg cells)) w):wpList Tryz.prog ops Q (o :: rest) a w :=
 wpList_plain hg fun _ hK=>by
  have hc':Tryz.prog.built t ((#[(i1,x1)]:Array (Nat×Operand)).map fun (i,x)=>(i,a.eval x)).toList=some cells:=by
   simp [h1,hc]
  unfold Oper.wp execOp
  simp only [ho,Sem.run_bind,run_build w t _ cells hc',Result.andThen_ok]
  exact hK _ _ h
end Go.Proofs.YtapabahhfanmmaaGreatDoor
