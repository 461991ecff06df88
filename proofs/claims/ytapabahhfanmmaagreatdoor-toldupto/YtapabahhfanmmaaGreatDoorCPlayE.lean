import Derived.Test.YtapabahhfanmmaaGreatDoorCCmd
import Derived.Test.YtapabahhfanmmaaGreatDoorCRow12
namespace Go.Proofs.YtapabahhfanmmaaGreatDoor
open Go.RowKit
set_option maxRecDepth 100000
set_option maxHeartbeats 2000000
set_option maxRecDepth 100000
theorem kj8 (tb pb cap hb bb:Nat)(t:T)(p:Int)(ao:Option Addr)(lc:Nat)(w:World)(h:TS w tb pb cap hb bb t) :
  Calls Tryz.prog 118 #[.pointer (some ⟨tb,0,none⟩),.int .i64 p,.slice ao 0 lc] w fun e w' =>
   ∃ v,e=.returned v/\Fr [pb] w w'/\TS w' tb pb cap hb bb (qz6 p 0 [] t).2/\w'.ownsRow w.heap.size 3 1 v (qz6 p 0 [] t).1.length (ints (qz6 p 0 [] t).1):=by
 go_enter Tryz.func118,Tryz.ntmps118
 go_wp2_with fail
 go_loopw [7,12] (fun v i wr=>v=.slice none 0 0/\i=.int .i64 0/\w=wr) (fun _ _ _=>0)
 case atStart=>exact ⟨rfl,rfl,rfl⟩
 case round =>
  obtain ⟨rfl,rfl,rfl⟩:=hrel
  go_wp2_with fail
  go_ret
  exact ⟨_,rfl,Fr.refl _ _,h,⟨rfl,Or.inl ⟨rfl,rfl⟩⟩⟩
structure PlI (w:World) (k:Nat) (v:Value) (wr:World):Prop where
 own:wr.ownsRow w.heap.size 3 1 v k (ints (List.range k))
 fr:Fr [] w wr
theorem vv3 (ao:Option Addr)(n lc:Nat)(w:World)(hlen:n<=2000000) :
  Calls Tryz.prog 115 #[.slice ao n lc] w fun e w' =>
   ∃ v,e=.returned v/\Fr [] w w'/\w'.ownsRow w.heap.size 3 1 v n (ints (List.range n)):=by
 obtain ⟨inf,hi0,hz0,hz1,hz2⟩:=info_parts kk6
 go_enter Tryz.func115,Tryz.ntmps115
 go_wp2_with fail
 go_loopw [3,7] (fun v i wr=>∃ k:Nat,k<=n/\i=.int .i64 k/\PlI w k v wr) (fun _ i _=>n - (intOf i).toNat)
 case atStart=>exact ⟨0,Nat.zero_le _,rfl,⟨rfl,Or.inl ⟨rfl,rfl⟩⟩,Fr.refl _ _⟩
 case round =>
  obtain ⟨k,hk,rfl,hown,hfr⟩:=hrel
  by_cases hlt:k < n
  ·have HN:Hid (∀ (W:World) (j:Nat) (u:Value),[ii (k:Int)][j]?=some u->(W.alloc (.cells #[.int .i64 k] 3)).cell? ((⟨W.heap.size,0,none⟩:Addr).add j)=some u):=by
    intro W j u hu
    have hj:j=0:=by
     have:=(List.getElem?_eq_some_iff.1 hu).1
     simp at this
     exact this
    subst hj
    rw [Addr.add_lit,j9 (qq6 W _)]
    simpa using hu
   have HB1:Hid (∀ b,u3.ownBlock=some b->w.heap.size<=b):=fun b hb=>qj1 hown hb
   have HOW:Hid ((wr.alloc (.cells #[.int .i64 k] 3)).ownsRow w.heap.size 3 1 u3 k (ints (List.range k))):=qq7 hown ((Fr.refl [] wr).alloc _) (by simp)
   have hwr:=hfr.size
   clear hown
   go_wp2_with (at_builtin;refine wpList_append_own _ rfl _ _ 25 rfl w.heap.size 3 inf (ii 0) 1 8 Tryz.underlying25 hi0 hz0 hz1 hz2 rfl (by decide) u3 k (ints (List.range k)) rfl HOW.out ⟨wr.heap.size,0,none⟩ 1 1 [ii (k:Int)] rfl rfl (HN.out wr) (by simp [Value.oneCell']) (by unfold maxLen;omega) (by omega) (by simp;omega) ?_;intro v' w3 hown3 hgrow hnil3)
   have hf3:Fr [] w w3:=(hfr.alloc _).grow hgrow (fun g hg=>Or.inr (HB1.out g hg))
   go_roundw
   case rel =>
    refine ⟨k+1,hlt,by go_num,?_,hf3⟩
    have:ints (List.range (k+1))=ints (List.range k) ++ [ii (k:Int)]:=by unfold ints;rw [List.range_succ,List.map_append];rfl
    rw [this]
    exact hown3
   case measure=>simp [intOf];omega
  ·have:k=n:=by omega
   subst this
   go_wp2_with fail
   go_ret
   exact ⟨u3,rfl,hfr,hown⟩
theorem yy2 (pb cap:Nat)(us:List U)(w:World)(hrow:PRow w pb cap us)(hlen:us.length<=1000) :
  Calls Tryz.prog 149 #[.slice (some ⟨pb,0,none⟩) us.length cap] w fun e w'=>∃ hb,e=.returned (.map (some hb))/\w.heap.size<=hb/\MapF w' hb (qx2 (qx8 us))/\Fr [] w w':=by
 have hmm:=@run_makeMap Tryz.prog
 have hpl:=hrow.lt
 go_enter Tryz.func149,Tryz.ntmps149
 go_wp2_with fail
 obtain ⟨hb,hhb⟩:∃ hb,hb=w.heap.size:=⟨_,rfl⟩
 rw [<- hhb]
 obtain ⟨W5,hW5⟩:∃ W,W=w.alloc (.map #[] 0):=⟨_,rfl⟩
 rw [<- hW5]
 have hw5:Fr [] w W5:=by rw [hW5];exact (Fr.refl _ _).alloc _
 have hmd:MapF W5 hb (qx2 (qx8 (us.take 0))):=by
  have:MapF W5 hb (fun _=>none):=MapF.made (clock:=0) (by rw [hW5,hhb];exact qq6 _ _)
  exact this
 have hpx:Ppl W5 pb us:=(hrow.fr hw5 (by simp)).ppl
 have hnb:pb≠hb:=by omega
 have hsz5:W5.heap.size=hb+1:=by rw [hW5,hhb];simp
 have HHB:=hid hhb
 clear hW5 hmm hhb
 go_loopw [9] (fun i wr=>∃ k:Nat,k<=us.length/\i=.int .i64 k/\MapF wr hb (qx2 (qx8 (us.take k)))/\Fr [hb] W5 wr) (fun i _=>us.length - (intOf i).toNat)
 case atStart=>exact ⟨0,Nat.zero_le _,rfl,hmd,Fr.refl _ _⟩
 case round =>
  obtain ⟨k,hk,rfl,hkt,hkf⟩:=hrel
  by_cases hlt:k < us.length
  ·obtain ⟨v,hv⟩:∃ u,us[k]?=some u:=⟨us[k],List.getElem?_eq_getElem hlt⟩
   obtain ⟨c0,c1,c2,c3,c4,c5,c6,c7,c8,c9,c10⟩:=(hpx.fr hkf (by simp;omega)).at hv
   have hheld:qx8 (us.take (k+1))=fun c=>if c=(v.x,v.y) then some v.id else qx8 (us.take k) c:=by
    unfold qx8
    rw [List.take_succ_eq_append_getElem hlt,List.foldl_append]
    rw [List.getElem?_eq_getElem hlt] at hv
    rw [Option.some.inj hv]
    rfl
   have HHE:=hid hheld
   have HKT:=hid hkt
   have hsz6:=hkf.size
   have hhl5:=hkt.lt
   clear hv hheld hkt
   go_wp2_with fail
   obtain ⟨WA,hWA⟩:∃ W,W=wr.alloc (.cells v.arr 85):=⟨_,rfl⟩
   rw [<- hWA]
   have hfa:Fr [] wr WA:=by rw [hWA];exact (Fr.refl _ _).alloc _
   have hva:WA.heap[wr.heap.size]?=some (.cells v.arr 85):=by rw [hWA];exact qq6 _ _
   have hta:MapF WA hb (qx2 (qx8 (us.take k))):=MapF.fr HKT.out hfa (by simp)
   clear hWA c0 c1 c2 c3 c4 c5 c6 c7 c8 c9 c10
   have HS:∀ w',Fr [hb] WA w'->(fun w':World=>cl w' wr.heap.size 0 v.id/\cl w' wr.heap.size 1 v.owner/\cl w' wr.heap.size 2 v.kind/\cl w' wr.heap.size 3 v.x/\cl w' wr.heap.size 4 v.y/\cl w' wr.heap.size 5 v.life/\cl w' wr.heap.size 6 v.load/\cl w' wr.heap.size 7 v.what/\cl w' wr.heap.size 8 v.tox/\cl w' wr.heap.size 9 v.toy/\cl w' wr.heap.size 10 v.target/\Fr [hb] WA w') w':=fun w' hf=>⟨j9 (hf.heap hva (by simp;omega)),j9 (hf.heap hva (by simp;omega)),j9 (hf.heap hva (by simp;omega)),j9 (hf.heap hva (by simp;omega)),j9 (hf.heap hva (by simp;omega)),j9 (hf.heap hva (by simp;omega)),j9 (hf.heap hva (by simp;omega)),j9 (hf.heap hva (by simp;omega)),j9 (hf.heap hva (by simp;omega)),j9 (hf.heap hva (by simp;omega)),j9 (hf.heap hva (by simp;omega)),hf⟩
   have KF:Fr [] WA WA.drew:=(Fr.refl _ _).drew
   have K0:=HS _ KF.of0
   go_region_held (fun w':World=>w'.cell? ⟨wr.heap.size,0,none⟩=some (ii v.id)/\w'.cell? ⟨wr.heap.size,1,none⟩=some (ii v.owner)/\w'.cell? ⟨wr.heap.size,2,none⟩=some (ii v.kind)/\w'.cell? ⟨wr.heap.size,3,none⟩=some (ii v.x)/\w'.cell? ⟨wr.heap.size,4,none⟩=some (ii v.y)/\w'.cell? ⟨wr.heap.size,5,none⟩=some (ii v.life)/\w'.cell? ⟨wr.heap.size,6,none⟩=some (ii v.load)/\w'.cell? ⟨wr.heap.size,7,none⟩=some (ii v.what)/\w'.cell? ⟨wr.heap.size,8,none⟩=some (ii v.tox)/\w'.cell? ⟨wr.heap.size,9,none⟩=some (ii v.toy)/\w'.cell? ⟨wr.heap.size,10,none⟩=some (ii v.target)/\Fr [hb] WA w')
    (first|with_reducible exact K0|with_reducible exact hS3|with_reducible exact hSu)
    (first|(go_at_call 192;refine (qv2 v _).mono ?_;rintro e w3 ⟨rfl,hf3⟩;have hfr3:Fr [] WA w3:=KF.then0 hf3;have hS3:=HS w3 hfr3.of0;obtain ⟨wu,hup,hmu,hfu,hszu⟩:=jw9 (MapF.fr hta hfr3 (by simp)) 205 3 Tryz.underlying205 v.x v.y (ii v.id);have hfru:Fr [hb] WA wu:=hfr3.of0.trans hfu (by simp);have hSu:=HS wu hfru))
   all_goals
    go_wp2_with fail
    go_roundw
    case rel =>
     refine ⟨k+1,hlt,by go_num,?_,(hkf.then0 hfa).trans hfru (by simp)⟩
     rw [HHE.out]
     refine hmu.of_eq (fun c=>?_)
     by_cases e:c=(v.x,v.y) <;> simp [qx2,e]
    case measure=>simp [intOf];omega
  ·have hke:k=us.length:=by omega
   subst hke
   rw [List.take_length] at hkt
   go_wp2_with fail
   go_ret
   exact ⟨hb,rfl,by have:=HHB.out;omega,hkt,(hw5.of0 (S:=[])).trans hkf (by simp;have:=HHB.out;omega)⟩
def qz5 (t:T)(pv:Value):List Value:=(List.range 149).map (qq9 t pv 0 0)
theorem zq7 (t:T)(pv:Value):(qz5 t pv).length=149:=by simp [qz5]
theorem kx5 (off:Nat):∀ (vs:List Value) (k:Nat) (cs:Array Value),off+k+vs.length<=cs.size->((vs.zipIdx k).foldl (fun (cs:Array Value) p=>cs.setIfInBounds (off+p.2) p.1) cs).toList=cs.toList.take (off+k) ++ vs ++ cs.toList.drop (off+k+vs.length)
 | [],k,cs,_=>by simp
 | v :: vs,k,cs,h=>by
  rw [List.zipIdx_cons,List.foldl_cons,kx5 off vs (k+1) _ (by simp at h |-;omega)]
  have hl:off+k < cs.toList.length:=by simp at h |-;omega
  simp only [Array.toList_setIfInBounds,List.length_cons]
  rw [show off+(k+1)=off+k+1 by omega,jj1 _ _ _ hl,jz2 _ _ _ _ (by omega),show off+k+1+vs.length=off+k+(vs.length+1) by omega]
  simp
theorem dj5 (off:Nat)(v:Array Value)(cs:Array Value)(h:off+v.size<=cs.size):v.zipIdx.foldl (fun (cs:Array Value) (c,j)=>cs.setIfInBounds (off+j) c) cs=(cs.toList.take off ++ v.toList ++ cs.toList.drop (off+v.size)).toArray:=by
 have:=kx5 off v.toList 0 cs (by simpa using h)
 rw [<- Array.foldl_toList,Array.toList_zipIdx]
 apply Array.toList_inj.1
 simpa using this
theorem zv3 (place:Nat->Option (Nat×Nat))(cs:Array Value)(i:Nat)(v:Value)(rest:List (Nat×Value))(off size:Nat)(hp:place i=some (off,size))(hv:v.cells.size=size)(hs:off+size<=cs.size) :
  Instr.fill place cs ((i,v) :: rest)=Instr.fill place (cs.toList.take off ++ v.cells.toList ++ cs.toList.drop (off+size)).toArray rest:=by
 rw [Instr.fill,hp]
 dsimp only
 rw [if_neg (by simp [hv];omega),dj5 off v.cells cs (by omega),hv]
def zy7 (P:Program) (t:TypeId):Option (List (Nat×Nat)):=match P.underlying t with|some (.struct fs)=>fs.toList.mapM (fun f=>(P.info? f.type).map fun i=>(f.offset,i.size))|_=>none
def vz2 (P:Program) (t:TypeId):Option (Option Nat):=(P.info? t).map (fun i=>i.zero.map (·.cells.size))
theorem kj3 (t:TypeId)(places:List (Nat×Nat))(n:Nat)(hf:zy7 Tryz.prog t=some places)(hz:vz2 Tryz.prog t=some (some n))(parts:List (Nat×Value))(cells:Array Value)(h:∀ z:Array Value,z.size=n->Instr.fill (places.toArray[·]?) z parts=some cells):Tryz.prog.built t parts=some cells:=by
 unfold Program.built
 unfold zy7 at hf
 unfold vz2 at hz
 cases hi:Tryz.prog.info? t with
 | none=>rw [hi] at hz;simp at hz
 | some it =>
  rw [hi] at hz
  cases hzz:it.zero with
  | none=>simp [hzz] at hz
  | some z =>
   simp [hzz] at hz
   cases hu:Tryz.prog.underlying t with
   | none=>rw [hu] at hf;simp at hf
   | some d =>
    rw [hu] at hf
    cases d <;> try (simp at hf;done)
    dsimp only at hf |-
    rw [hzz,hf]
    exact h z.cells hz
theorem qxj2:zy7 Tryz.prog 210=some [(0,149),(149,1),(150,1)]:=by kernel_rfl
theorem qxj3:vz2 Tryz.prog 210=some (some 151):=by kernel_rfl
theorem qxq1 {l:List Value}(h:l.length=2):∃ x y,l=[x,y]:=by
 match l,h with
 | [x,y],_=>exact ⟨x,y,rfl⟩
theorem vj6 (gs:Array Value)(hg:gs.size=149)(a b:Option Nat):Tryz.prog.built 210 [(0,.agg gs),(1,.map a),(2,.agg #[.map b])]=some (gs.toList ++ [Value.map a,Value.map b]).toArray:=by
 refine kj3 _ _ _ qxj2 qxj3 _ _ (fun z hz=>?_)
 have hzl:z.toList.length=151:=by simpa using hz
 obtain ⟨x,y,hxy⟩:=qxq1 (l:=z.toList.drop 149) (by rw [List.length_drop];omega)
 have hgl:gs.toList.length=149:=by simpa using hg
 have e3:(Value.agg gs).cells=gs:=rfl
 have e4:(Value.map a).cells.toList=[Value.map a]:=rfl
 have e5:(Value.agg #[.map b]).cells.toList=[Value.map b]:=rfl
 have e1:(gs.toList ++ [x,y]).take 149=gs.toList:=by rw [List.take_append_of_le_length (by omega),List.take_of_length_le (by omega)]
 have e2:(gs.toList ++ [x,y]).drop 150=[y]:=by rw [List.drop_append,List.drop_of_length_le (by omega),hgl];rfl
 have e6:(gs.toList ++ [Value.map a,y]).take 150=gs.toList ++ [Value.map a]:=by rw [List.take_append,List.take_of_length_le (by omega),hgl];rfl
 have e7:(gs.toList ++ [Value.map a,y]).drop 151=[]:=List.drop_of_length_le (by simp;omega)
 rw [zv3 _ _ _ _ _ 0 149 rfl (by exact hg) (by omega),e3]
 simp only [List.take_zero,List.nil_append,Nat.zero_add,hxy]
 rw [zv3 _ _ _ _ _ 149 1 rfl rfl (by simp;omega),e4]
 simp only [Nat.reduceAdd]
 rw [e1,e2]
 simp only [List.append_assoc,List.cons_append,List.nil_append]
 rw [zv3 _ _ _ _ _ 150 1 rfl rfl (by simp;omega),e5]
 simp only [Nat.reduceAdd]
 rw [e6,e7]
 simp [Instr.fill]
theorem kz1 {ops:Array Oper} {S:World->Prop} {op:Oper} {a:Act} (hw:Region.wanted op (yielded ops a.tmps)=true) (t:TypeId) (parts:Array (Nat×Operand)) (ho:op.op=.build t parts) (cells:Array Value)
  (hc:Tryz.prog.built t (parts.map fun (i,x)=>(i,a.eval x)).toList=some cells):YieldsIf Tryz.prog ops S op (.agg cells) a :=
 .inl ⟨hw,fun w _=>by
  unfold execOp
  simp only [ho,Sem.run_bind,run_build w t _ cells hc,Result.andThen_ok]
  rfl⟩
theorem yq1 (W:World)(o:Obj)(k:Nat)(h:W.heap.size=k):(W.alloc o).heap[k]?=some o:=by subst h;exact qq6 _ _
theorem qx7:(Tryz.prog.info? 90).map (·.size)=some 149:=by kernel_rfl
theorem fj9 (pb cap:Nat)(t:T)(w:World)(hrow:PRow w pb cap t.us)(hne:0 < t.us.length)(hlen:t.us.length<=1000) :
  Calls Tryz.prog 117 #[.agg (qz5 t (.slice (some ⟨pb,0,none⟩) t.us.length cap)).toArray] w fun e w' =>
   ∃ tb pb' cap' hb bb,e=.returned (.pointer (some ⟨tb,0,none⟩))/\Fr [] w w'/\TS w' tb pb' cap' hb bb (qk7 t)/\w.heap.size<=tb/\w.heap.size<=pb'/\w.heap.size<=hb/\w.heap.size<=bb:=by
 obtain ⟨gs,hgs⟩:∃ gs,gs=(qz5 t (.slice (some ⟨pb,0,none⟩) t.us.length cap)).toArray:=⟨_,rfl⟩
 have hg:gs.size=149:=by rw [hgs];simp [qz5]
 have HGS:=hid hgs
 rw [<- hgs]
 clear hgs
 obtain ⟨W1,hW1⟩:∃ W,W=w.alloc (.cells gs 90):=⟨_,rfl⟩
 have h01:Fr [] w W1:=by rw [hW1];exact (Fr.refl _ _).alloc _
 have hG:W1.heap[w.heap.size]?=some (.cells gs 90):=by rw [hW1];exact qq6 _ _
 have HR:∀ w',Fr [] W1 w'->w'.rangeAt w.heap.size 0 gs.toList:=fun w' hf j v hv=>by
  rw [Nat.zero_add,j9 (hf.heap0 hG)]
  simpa using hv
 have hi149:(Tryz.prog.info? 90).map (·.size)=some gs.toList.length:=by rw [qx7];simp [hg]
 have hbuild:∀ (a b:Option Nat) (w':World),(Instr.build 210 #[(0,.agg gs),(1,.map a),(2,.agg #[.map b])]).run Tryz.prog w'=.ok (.agg (gs.toList ++ [Value.map a,Value.map b]).toArray) w':=fun a b w'=>run_build w' _ _ _ (vj6 gs hg a b)
 have hmm:=@run_makeMap Tryz.prog
 have KF:Fr [] W1 (w.alloc (.cells gs 90)).drew:=by rw [hW1];exact (Fr.refl _ _).drew
 clear hW1
 go_enter Tryz.func117,Tryz.ntmps117
 go_wp2_with fail
 have HCC:∀ w',Fr [] W1 w'->w'.cell? ⟨w.heap.size,148,none⟩=some (.slice (some ⟨pb,0,none⟩) t.us.length cap):=fun w' hf=>by
  rw [j9 (hf.heap0 hG),HGS.out]
  simp [qz5,qq9]
 go_cut [3] (fun s3 wx=>∃ tb hb bb:Nat,s3=.pointer (some ⟨tb,0,none⟩)/\wx.heap[tb]?=some (.cells (gs.toList ++ [Value.map (some hb),Value.map (some bb)]).toArray 210)/\MapF wx hb (qx2 (qx8 t.us))/\wx.heap[bb]?=some (.map #[] 0)/\w.heap.size < tb/\w.heap.size < hb/\w.heap.size < bb/\hb≠bb/\Fr [] W1 wx)
 case first =>
  refine wp_region_held (S:=fun w'=>Fr [] W1 w') (by kernel_rfl) ?_
  refine wpAnyH_take (i:=0) (oi:=_) (v:=.agg gs.toList.toArray) rfl (by kernel_rfl) (by kernel_rfl) (by kernel_rfl) (fun _ _ _ h=>h) (yieldsIf_load_mid (by kernel_rfl) 90 (.tmp 1) rfl w.heap.size 0 rfl gs.toList _ HR Tryz.underlying90 rfl hi149) KF ?_
  simp only [Act.put,Array.toArray_toList]
  refine wpAnyH_take (i:=1) (oi:=_) (v:=.pointer (some ⟨w.heap.size,148,none⟩)) rfl (by kernel_rfl) (by kernel_rfl) (by kernel_rfl) (fun _ _ _ h=>h) (Or.inl ⟨by kernel_rfl,fun w0 _=>by go_simp⟩) KF ?_
  simp only [Act.put]
  refine wpAnyH_take (i:=2) (oi:=_) (v:=.slice (some ⟨pb,0,none⟩) t.us.length cap) rfl (by kernel_rfl) (by kernel_rfl) (by kernel_rfl) (fun _ _ _ h=>h) (Or.inl ⟨by kernel_rfl,fun w0 hS=>by have hc0:=HCC w0 hS;go_simp⟩) KF ?_
  simp only [Act.put]
  refine wpAnyH_ready (rs:=[3]) (by kernel_rfl) (by simp) ?_
  refine AllReadyH.cons rfl (fun K hK=>?_) AllReadyH.nil
  rw [if_pos (by rfl)]
  go_wp2_with (go_at_call 149;refine Calls.mono (yy2 pb cap t.us _ (hrow.fr (h01.then0 KF) (by simp)) hlen) ?_;rintro e w1 ⟨hb,rfl,hlb,hmap,hf1⟩)
  have hfr1:Fr [] W1 w1:=KF.then0 hf1
  refine hK.out _ _ hfr1 (fun _=>?_)
  clear hK
  refine wpAnyH_ready (rs:=[4]) (by kernel_rfl) (by simp) ?_
  refine AllReadyH.cons rfl (fun K hK=>?_) AllReadyH.nil
  rw [if_pos (by rfl)]
  go_wp2_with (go_at_call 150;refine (kv7 _).mono ?_;rintro e w2 ⟨rfl,hw2⟩)
  have hf2:Fr [] w1 w2:=by rw [<- hw2];exact ((Fr.refl _ _).alloc _).alloc _
  have hfr2:Fr [] W1 w2:=hfr1.then0 hf2
  refine hK.out _ _ hfr2 (fun _=>?_)
  clear hK
  refine wpAnyH_take (i:=5) (oi:=_) (v:=.agg (gs.toList ++ [Value.map (some hb),Value.map (some (w1.heap.size+1))]).toArray) rfl (by kernel_rfl) (by kernel_rfl) (by kernel_rfl) (fun _ _ _ h=>h) (kz1 (by kernel_rfl) 210 #[(0,.tmp 4),(1,.tmp 7),(2,.tmp 8)] rfl _ (by simpa [Act.eval] using vj6 gs hg (some hb) (some (w1.heap.size+1)))) hfr2 ?_
  simp only [Act.put]
  refine wpAnyH_ready (rs:=[6]) (by kernel_rfl) (by simp) ?_
  refine AllReadyH.cons rfl (fun K hK=>?_) AllReadyH.nil
  rw [if_pos (by rfl)]
  go_wp2_with fail
  refine hK.out _ _ (Fr.alloc hfr2 _) (fun _=>?_)
  clear hK
  refine wpAnyH_take (i:=7) (oi:=_) (v:=.pointer (some ⟨w2.heap.size,0,none⟩)) rfl (by kernel_rfl) (by kernel_rfl) (by kernel_rfl) (fun _ _ _ h=>h) (Or.inl ⟨by kernel_rfl,fun w0 _=>by go_simp⟩) (Fr.alloc hfr2 _) ?_
  refine wpAnyH_done (by kernel_rfl) ?_ _
  go_wp2_with fail
  go_meet
  have hsz:w2.heap.size=w1.heap.size+1+1:=by rw [<- hw2];simp
  have hs1:=hf1.size
  have hlm:=MapF.lt hmap
  have hlw:w.heap.size+1<=hb:=by simpa using hlb
  have hs2:w.heap.size+1<=w1.heap.size:=by simpa using hs1
  have hbb:w2.heap[w1.heap.size+1]?=some (.map #[] 0):=by rw [<- hw2];exact yq1 _ _ _ (by simp)
  exact ⟨w2.heap.size,hb,w1.heap.size+1,rfl,qq6 _ _,MapF.fr (MapF.fr hmap hf2 (by simp)) ((Fr.refl [] w2).alloc _) (by simp),((Fr.refl [] w2).alloc _).heap0 hbb,by omega,by omega,by omega,by omega,hfr2.alloc _⟩
 case rest =>
  obtain ⟨tb,hb,bb,rfl,hT,hH,hB,l1,l2,l3,n6,hfx⟩:=hcut
  have hgx:=hfx.heap0 hG
  have hwx:=h01.then0 hfx
  have hpv:gs[148]?=some (.slice (some ⟨pb,0,none⟩) t.us.length cap):=by
   rw [HGS.out]
   simp [qz5,qq9]
  have hcg:wc.cell? ⟨w.heap.size,148,none⟩=some (.slice (some ⟨pb,0,none⟩) t.us.length cap):=by rw [j9 hgx];exact hpv
  have hpl:=hrow.lt
  have hrx:=hrow.fr hwx (by simp)
  have HT:=hid hT
  have HX:=hid hgx
  clear KF HR hi149 hbuild hmm hG hgx hT
  have hct:wc.cell? ⟨tb,148,none⟩=some (.slice (some ⟨pb,0,none⟩) t.us.length cap):=by
   rw [j9 HT.out]
   simp only [List.getElem?_toArray]
   rw [List.getElem?_append_left (by simp [hg])]
   simpa using hpv
  have hcz:wc.frozen? ⟨tb,148,none⟩=false:=qq0 HT.out
  clear hpv
  have htl:=qq2 HT.out
  have hwl:=qq2 HX.out
  have hn1:¬ w.heap.size=tb:=by omega
  have hn2:¬ tb=w.heap.size:=by omega
  go_wp2_with (go_at_call 75;refine (yv7 pb cap t.us _ hrx hlen hne).mono ?_;rintro e w2 ⟨pb',cap',rfl,hpb',hrow2,hf2⟩;obtain ⟨hc2,hz2⟩:=hf2.cells0)
  obtain ⟨W5,hW5⟩:∃ W,W=w2.setCell ⟨tb,148,none⟩ (.slice (some ⟨pb',0,none⟩) t.us.length cap'):=⟨_,rfl⟩
  rw [<- hW5]
  have hf5:Fr [tb] w2 W5:=by rw [hW5];exact (Fr.refl _ _).setCell _ _ (by simp)
  have hT2:=hf2.heap0 HT.out
  have hHl:=hH.lt
  have hHH:∃ es clock,wc.heap[hb]?=some (.map es clock):=by obtain ⟨_,es,clock,h,_⟩:=hH;exact ⟨es,clock,h⟩
  obtain ⟨es,clock,hH'⟩:=hHH
  have hBl:=qq2 hB
  have n23:tb≠hb/\tb≠bb:=by
   have h1:=HT.out
   refine ⟨fun e=>?_,fun e=>?_⟩
   ·rw [e,hH'] at h1;cases h1
   ·rw [e,hB] at h1;cases h1
  have hts:TS W5 tb pb' cap' hb bb { t with held:=qx8 t.us }:=by
   refine ⟨fun k hk=>?_,fun k=>?_,hrow2.fr hf5 (by simp;omega),hlen,?_,?_,by omega,n23.1,n23.2,by omega,by omega,n6,by omega⟩
   ·by_cases hk8:k=148
    ·subst hk8
     rw [hW5,qk0 _ _ _ _ _ ((hc2 tb 148 htl).trans hct)]
     simp [qq9]
    ·rw [hW5,qz1 _ _ _ _ _ _ (Or.inr (fun e=>hk8 e.symm)),j9 hT2]
     simp only [List.getElem?_toArray]
     have hgl:gs.toList.length=149:=by simpa using hg
     by_cases hk9:k < 149
     ·rw [List.getElem?_append_left (by omega)]
      have:gs.toList=qz5 t (.slice (some ⟨pb,0,none⟩) t.us.length cap):=by rw [HGS.out]
      rw [this]
      unfold qz5
      rw [List.getElem?_map,List.getElem?_range hk9]
      show some (qq9 t _ 0 0 k)=some (qq9 { t with held:=qx8 t.us } _ hb bb k)
      unfold qq9
      have h149:k≠149:=by omega
      simp only [hk8,if_false]
      by_cases h0:k=0
      ·simp [h0]
      ·by_cases h1:k=1
       ·simp [h1]
       ·by_cases h2:k=2
        ·simp [h2]
        ·by_cases h3:k=3
         ·simp [h3]
         ·rw [if_neg h0,if_neg h1,if_neg h2,if_neg h3,if_pos (by omega),if_neg h0,if_neg h1,if_neg h2,if_neg h3,if_pos (by omega)]
     ·rw [List.getElem?_append_right (by omega),hgl]
      have:k=149\/k=150:=by omega
      rcases this with rfl|rfl <;> simp [qq9]
   ·rw [hW5,World.frozen?_setCell]
    exact qq0 hT2
   ·exact (MapF.fr (MapF.fr hH hf2 (by simp)) hf5 (by simp;exact fun e=>n23.1 e.symm))
   ·exact (MapF.made (hf2.heap0 hB)).fr hf5 (by simp;exact fun e=>n23.2 e.symm)
  have hw5:Fr [] w W5:=by rw [hW5];exact (hwx.then0 hf2).setCell _ _ (Or.inr (by show w.heap.size<=tb;omega))
  clear hW5 hT2 hct hcz hcg hf5 hH hB hc2 hz2 hrow2 hrx
  have hsz5:=hw5.size
  go_wp2_with fail
  go_ret
  exact ⟨tb,pb',cap',hb,bb,rfl,hw5,hts,by omega,by omega,by omega,by omega⟩
def CmdV (w:World)(v:Value)(l:List Cm):Prop:=(∃ ao lc,v=.slice ao 0 lc/\l=[])\/∃ lb lc,v=.slice (some ⟨lb,0,none⟩) l.length lc/\Cmds w lb l/\lb < w.heap.size
theorem CmdV.fr0 {w w':World}{v:Value}{l:List Cm}(h:CmdV w v l)(hf:Fr [] w w'):CmdV w' v l:=by
 rcases h with h|⟨lb,lc,h1,h2,h3⟩
 ·exact Or.inl h
 ·exact Or.inr ⟨lb,lc,h1,h2.fr hf (by simp),Nat.lt_of_lt_of_le h3 hf.size⟩
theorem xj3 (tb pb cap hb bb:Nat)(t:T)(p:Int)(l:List Cm)(lv:Value)(w0 w:World)(h:TS w tb pb cap hb bb t)(hok:TOk t)(hl:CmdV w0 lv l)(hf:Fr [] w0 w)(hlen:l.length<=2000000)(hpb:w0.heap.size<=pb) :
  Calls Tryz.prog 118 #[.pointer (some ⟨tb,0,none⟩),.int .i64 p,lv] w fun e w' =>
   ∃ v,e=.returned v/\Fr [pb] w w'/\TS w' tb pb cap hb bb (qz6 p 0 l t).2/\w'.ownsRow w.heap.size 3 1 v (qz6 p 0 l t).1.length (ints (qz6 p 0 l t).1):=by
 rcases hl with ⟨ao,lc,rfl,rfl⟩|⟨lb,lc,rfl,h2,h3⟩
 ·exact kj8 tb pb cap hb bb t p ao lc w h
 ·exact kj7 tb pb cap hb bb lb lc t p l w h hok (h2.fr hf (by simp)) (Nat.lt_of_lt_of_le h3 hf.size) (by omega) hlen
theorem yk3 (l:List Cm)(lv:Value)(w0 w:World)(hl:CmdV w0 lv l)(hlen:l.length<=2000000) :
  Calls Tryz.prog 115 #[lv] w fun e w'=>∃ v,e=.returned v/\Fr [] w w'/\w'.ownsRow w.heap.size 3 1 v (List.range l.length).length (ints (List.range l.length)):=by
 rw [List.length_range]
 rcases hl with ⟨ao,lc,rfl,rfl⟩|⟨lb,lc,rfl,h2,h3⟩
 ·exact vv3 ao 0 lc w (by omega)
 ·exact vv3 _ l.length lc w hlen
def Refs (w:World)(base:Nat)(v:Value)(a b:List Nat):Prop:=∃ rb rc v0 v1,v=.slice (some ⟨rb,0,none⟩) 2 rc/\w.heap[rb]?=some (.cells #[v0,v1] 25)/\base<=rb/\w.ownsRow base 3 1 v0 a.length (ints a)/\w.ownsRow base 3 1 v1 b.length (ints b)
def RefsA (w:World)(base:Nat)(v:Value)(a b:List Nat):Prop:=∃ rb v0 v1,v=.slice (some ⟨rb,0,none⟩) 2 2/\w.heap[rb]?=some (.cells #[v0,v1] 25)/\base<=rb/\w.ownsRow base 3 1 v0 a.length (ints a)/\w.ownsRow base 3 1 v1 b.length (ints b)/\∀ g,v0.ownBlock=some g->v1.ownBlock≠some g
theorem RefsA.refs {w:World}{base:Nat}{v:Value}{a b:List Nat}(h:RefsA w base v a b):Refs w base v a b:=by
 obtain ⟨rb,v0,v1,h1,h2,h3,h4,h5,_⟩:=h
 exact ⟨rb,2,v0,v1,h1,h2,h3,h4,h5⟩
theorem zv7 {w:World}{base n:Nat}{e:TypeId}{size:Nat}{v:Value}{xs:List Value}(h:w.ownsRow base e size v n xs):∃ ao k c,v=.slice ao k c:=by
 rcases h.2 with ⟨h1,_⟩|⟨g,cap,cur,rfl,_⟩
 ·exact ⟨_,_,_,h1⟩
 ·exact ⟨_,_,_,rfl⟩
theorem zz5 {w w':World}{base n:Nat}{e:TypeId}{size:Nat}{v:Value}{xs:List Value}(h:w.ownsRow base e size v n xs){x:Nat}(hf:Fr [x] w w')(hx:x < base):w'.ownsRow base e size v n xs:=qq7 h hf (fun b hb=>by have:=qj1 h hb;simp;omega)
theorem zw4 {w:World}{base base' n:Nat}{e:TypeId}{size:Nat}{v:Value}{xs:List Value}(h:w.ownsRow base e size v n xs)(hb:base'<=base):w.ownsRow base' e size v n xs:=by
 refine ⟨h.1,?_⟩
 rcases h.2 with h2|⟨g,cap,cur,h1,h2,r⟩
 ·exact Or.inl h2
 ·exact Or.inr ⟨g,cap,cur,h1,Nat.le_trans hb h2,r⟩
theorem gx6 (t:T)(n:Int)(pv:Value):(qz5 t pv).toArray.setIfInBounds 0 (ii n)=(qz5 { t with turn:=n } pv).toArray:=by
 apply Array.ext_getElem?
 intro i
 rw [Array.getElem?_setIfInBounds]
 have hl:(qz5 t pv).toArray.size=149:=by simp [qz5]
 by_cases h0:0=i
 ·subst h0
  rw [if_pos rfl,if_pos (by omega)]
  simp [qz5,qq9]
 ·rw [if_neg h0]
  simp only [List.getElem?_toArray,qz5,List.getElem?_map]
  by_cases hi:i < 149
  ·rw [List.getElem?_range hi]
   simp only [Option.map_some,Option.some.injEq]
   have h0':¬ i=0:=fun e=>h0 e.symm
   unfold qq9
   simp only [h0',if_false]
  ·rw [List.getElem?_eq_none (by simp;omega)]
   rfl
theorem zcGame:Tryz.zeroCells90.size=149:=by kernel_rfl
theorem zx9 (t:T)(ao:Option Addr)(n c:Nat):(qz5 t (.slice ao n c)).toArray.all (·.oneCell')=true:=by
 apply all_oneCell_toArray
 intro v hv
 obtain ⟨i,hi,rfl⟩:=List.mem_map.1 hv
 have:=List.mem_range.1 hi
 unfold qq9
 by_cases h8:i < 148
 ·by_cases h0:i=0
  ·rw [if_pos h0];rfl
  ·by_cases h1:i=1
   ·rw [if_neg h0,if_pos h1];rfl
   ·by_cases h2:i=2
    ·rw [if_neg h0,if_neg h1,if_pos h2];rfl
    ·by_cases h3:i=3
     ·rw [if_neg h0,if_neg h1,if_neg h2,if_pos h3];rfl
     ·rw [if_neg h0,if_neg h1,if_neg h2,if_neg h3,if_pos h8];rfl
 ·have:i=148:=by omega
  subst this
  rfl
theorem fw4 (pb cap:Nat)(t:T)(l1 l2:List Cm)(lv1 lv2:Value)(w:World)(hrow:PRow w pb cap t.us)(hlen:t.us.length<=1000)(ht:0<=t.turn/\t.turn < 1000000000)(h1:CmdV w lv1 l1)(h2:CmdV w lv2 l2)(hl1:l1.length<=2000000)(hl2:l2.length<=2000000)(hov:qx3 t.us=true) :
  Calls Tryz.prog 74 #[.agg (qz5 t (.slice (some ⟨pb,0,none⟩) t.us.length cap)).toArray,lv1,lv2] w fun e w' =>
   ∃ v,e=.returned (.tuple #[.agg (qz5 { t with turn:=t.turn+1 } (.slice (some ⟨pb,0,none⟩) t.us.length cap)).toArray,v])/\Fr [] w w'/\RefsA w' w.heap.size v (List.range l1.length) (List.range l2.length):=by
 obtain ⟨gs,hgs⟩:∃ gs,gs=(qz5 t (.slice (some ⟨pb,0,none⟩) t.us.length cap)).toArray:=⟨_,rfl⟩
 have hg:gs.size=149:=by rw [hgs];simp [qz5]
 have HGS:=hid hgs
 have hg0:gs[0]?=some (ii t.turn):=by rw [hgs];simp [qz5,qq9]
 have hg148:gs[148]?=some (.slice (some ⟨pb,0,none⟩) t.us.length cap):=by rw [hgs];simp [qz5,qq9]
 rw [<- hgs]
 have HG:=hid hg
 clear hgs hg
 obtain ⟨W2,hW2⟩:∃ W,W=(w.alloc (.cells gs 90)).alloc (.cells Tryz.zeroCells90 90):=⟨_,rfl⟩
 have h02:Fr [] w W2:=by rw [hW2];exact ((Fr.refl _ _).alloc _).alloc _
 have hG2:W2.heap[w.heap.size]?=some (.cells gs 90):=by rw [hW2,qz8]
 have hR2:W2.heap[w.heap.size+1]?=some (.cells Tryz.zeroCells90 90):=by rw [hW2,qz4]
 have hgv:GV W2 w.heap.size pb cap t.us:=⟨by rw [j9 hG2];exact hg148,(hrow.fr h02 (by simp)).ppl,hlen⟩
 have hgv':=hgv
 rw [hW2] at hgv'
 have HV:=(show Hid _ from hgv')
 have HW:=hid hW2
 clear hW2 hgv'
 go_enter Tryz.func74,Tryz.ntmps74
 go_wp2_with (go_at_call 116;refine (jw0 w.heap.size pb cap t.us _ HV.out).mono ?_;rintro e w3 ⟨rfl,hf3⟩;rw [hov];rw [<- HW.out] at hf3;have hG3:=hf3.heap0 hG2;have hG30:w3.cell? ⟨w.heap.size,0,none⟩=some (ii t.turn):=(j9 hG3).trans hg0;have hG3z:w3.frozen? ⟨w.heap.size,0,none⟩=false:=qq0 hG3)
 obtain ⟨W4,hW4⟩:∃ W,W=w3.setCell ⟨w.heap.size,0,none⟩ (.int .i64 (t.turn+1)):=⟨_,rfl⟩
 rw [<- hW4]
 have hw4:Fr [] w W4:=by rw [hW4];exact (h02.then0 hf3).setCell _ _ (Or.inr (Nat.le_refl _))
 have hG4:W4.heap[w.heap.size]?=some (.cells (gs.setIfInBounds 0 (ii (t.turn+1))) 90):=by rw [hW4];exact qz9 hG3 0 _
 have hR4:W4.heap[w.heap.size+1]?=some (.cells Tryz.zeroCells90 90):=by rw [hW4,Below.heap_setCell _ _ _ _ (by simp)];exact hf3.heap0 hR2
 obtain ⟨g2,hg2⟩:∃ g,g=gs.setIfInBounds 0 (ii (t.turn+1)):=⟨_,rfl⟩
 rw [<- hg2] at hG4
 have hgl:g2=(qz5 { t with turn:=t.turn+1 } (.slice (some ⟨pb,0,none⟩) t.us.length cap)).toArray:=by rw [hg2,HGS.out,gx6]
 have hg2s:g2.size=149:=by rw [hgl];simp [qz5]
 have hg21:g2.all (·.oneCell')=true:=by rw [hgl];exact zx9 _ _ _ _
 have HGL:=hid hgl
 have HRR:∀ w',Fr [w.heap.size+1] W4 w'->w'.rangeAt w.heap.size 0 g2.toList:=fun w' hf j v hv=>by
  rw [Nat.zero_add,j9 (hf.heap hG4 (by simp))]
  simpa using hv
 have hi149:(Tryz.prog.info? 90).map (·.size)=some g2.toList.length:=by rw [qx7];simp [hg2s]
 have hrl:=qq2 hR4
 clear hW4 hgl hg2 hG3 hG30 hG3z hG2 hR2 hg0 hg148 hgv HV HW HGS
 have KF:Fr [] W4 W4.drew:=(Fr.refl _ _).drew
 refine wp_region_held (S:=fun w'=>Fr [w.heap.size+1] W4 w') (by kernel_rfl) ?_
 refine wpAnyH_take (i:=0) (oi:=_) (v:=.agg g2.toList.toArray) rfl (by kernel_rfl) (by kernel_rfl) (by kernel_rfl) (fun _ _ _ h=>h) (yieldsIf_load_mid (by kernel_rfl) 90 (.tmp 3) rfl w.heap.size 0 rfl g2.toList _ HRR Tryz.underlying90 rfl hi149) KF.of0 ?_
 simp only [Act.put,Array.toArray_toList]
 refine wpAnyH_take (i:=1) (oi:=_) (v:=lv1) rfl (by kernel_rfl) (by kernel_rfl) (by kernel_rfl) (fun _ _ _ h=>h) (Or.inl ⟨by kernel_rfl,fun w0 _=>by go_simp⟩) KF.of0 ?_
 simp only [Act.put]
 refine wpAnyH_take (i:=3) (oi:=_) (v:=lv2) rfl (by kernel_rfl) (by kernel_rfl) (by kernel_rfl) (fun _ _ _ h=>h) (Or.inl ⟨by kernel_rfl,fun w0 _=>by go_simp⟩) KF.of0 ?_
 simp only [Act.put]
 refine wpAnyH_ready (rs:=[2]) (by kernel_rfl) (by simp) ?_
 refine AllReadyH.cons rfl (fun K hK=>?_) AllReadyH.nil
 rw [if_pos (by rfl)]
 go_wp2_with (go_at_call 115;refine (yk3 l1 lv1 w _ h1 hl1).mono ?_;rintro e w5 ⟨v0,rfl,hf5,hown0⟩)
 have hfr5:Fr [] W4 w5:=KF.then0 hf5
 refine hK.out _ _ hfr5.of0 (fun _=>?_)
 clear hK
 refine wpAnyH_ready (rs:=[4]) (by kernel_rfl) (by simp) ?_
 refine AllReadyH.cons rfl (fun K hK=>?_) AllReadyH.nil
 rw [if_pos (by rfl)]
 go_wp2_with (go_at_call 115;refine (yk3 l2 lv2 w _ h2 hl2).mono ?_;rintro e w6 ⟨v1,rfl,hf6,hown1⟩)
 have hfr6:Fr [] W4 w6:=hfr5.then0 hf6
 refine hK.out _ _ hfr6.of0 (fun _=>?_)
 clear hK
 obtain ⟨a0,n0,c0,rfl⟩:=zv7 hown0
 obtain ⟨a1,n1,c1,rfl⟩:=zv7 hown1
 have hs4:=hw4.size
 have hs5:=hfr5.size
 have hs6:=hfr6.size
 have hR6:=hfr6.heap0 hR4
 refine wpAnyH_ready (rs:=[5,6]) (by kernel_rfl) (by simp) ?_
 refine AllReadyH.cons rfl (fun K hK=>?_) (AllReadyH.cons rfl (fun K hK=>?_) AllReadyH.nil)
 ·rw [if_pos (by rfl)]
  go_wp2_with fail
  refine hK.out _ _ (hfr6.alloc _).of0 (fun _=>?_)
  clear hK
  refine wpAnyH_ready (rs:=[6]) (by kernel_rfl) (by simp) ?_
  refine AllReadyH.cons rfl (fun K hK=>?_) AllReadyH.nil
  rw [if_pos (by rfl)]
  have hR7:(w6.alloc (.cells #[.slice a0 n0 c0,.slice a1 n1 c1] 25)).heap[w.heap.size+1]?=some (.cells Tryz.zeroCells90 90):=((Fr.refl [] w6).alloc _).heap0 hR6
  refine wp_store_row 90 (.tmp 6) (.tmp 24) rfl (w.heap.size+1) g2 rfl rfl 90 _ hR7 (by rw [qx7,hg2s]) (by rw [hg2s];exact zcGame) hg21 ?_
  have hff:Fr [w.heap.size+1] W4 ((w6.alloc (.cells #[.slice a0 n0 c0,.slice a1 n1 c1] 25)).setRow (w.heap.size+1) g2):=(hfr6.alloc _).of0.setRow _ _ (by simp)
  have hfb:Fr [w.heap.size+1] w6 ((w6.alloc (.cells #[.slice a0 n0 c0,.slice a1 n1 c1] 25)).setRow (w.heap.size+1) g2):=((Fr.refl _ _).alloc _).setRow _ _ (by simp)
  have hrowF:((w6.alloc (.cells #[.slice a0 n0 c0,.slice a1 n1 c1] 25)).setRow (w.heap.size+1) g2).heap[w.heap.size+1]?=some (.cells g2 90):=setRow_heap _ _ _ _ _ _ hR7
  have hblkF:((w6.alloc (.cells #[.slice a0 n0 c0,.slice a1 n1 c1] 25)).setRow (w.heap.size+1) g2).heap[w6.heap.size]?=some (.cells #[.slice a0 n0 c0,.slice a1 n1 c1] 25):=by rw [setRow_other _ _ _ _ (by omega)];exact qq6 _ _
  refine hK.out _ _ hff (fun _=>?_)
  clear hK
  simp only [Act.put]
  refine wpAnyH_take (i:=7) (oi:=_) (v:=.slice (some ⟨w6.heap.size,0,none⟩) 2 2) rfl (by kernel_rfl) (by kernel_rfl) (by kernel_rfl) (fun _ _ _ h=>h) (Or.inl ⟨by kernel_rfl,fun w0 _=>by go_simp⟩) hff ?_
  refine wpAnyH_done (by kernel_rfl) ?_ _
  go_wp2_with fail
  have hq0:W4.drew.heap.size=W4.heap.size:=rfl
  rw [hq0] at hown0
  refine bodyPost_ret (v:=.tuple #[.agg g2,.slice (some ⟨w6.heap.size,0,none⟩) 2 2]) (qq3 Tryz.results74 _ _ (w.heap.size+1) 90 g2 (0,0) _ _ rfl rfl hrowF Tryz.underlying90 rfl (by rw [qx7,hg2s])) rfl ⟨_,by rw [HGL.out],?_,w6.heap.size,_,_,rfl,hblkF,by omega,?_,?_,fun g hg e=>by have h1:=hown0.lt g hg;have h2:=qj1 hown1 e;omega⟩
  ·exact hw4.trans hff (by simp)
  ·exact zw4 (zz5 (qq7 hown0 hf6 (by simp)) hfb (by omega)) (by omega)
  ·exact zw4 (zz5 hown1 hfb (by omega)) (by omega)
 ·rw [if_pos (by rfl)]
  refine wp_store_row 90 (.tmp 6) (.tmp 24) rfl (w.heap.size+1) g2 rfl rfl 90 _ hR6 (by rw [qx7,hg2s]) (by rw [hg2s];exact zcGame) hg21 ?_
  have hff0:Fr [w.heap.size+1] W4 (w6.setRow (w.heap.size+1) g2):=hfr6.of0.setRow _ _ (by simp)
  refine hK.out _ _ hff0 (fun _=>?_)
  clear hK
  simp only [Act.put]
  refine wpAnyH_ready (rs:=[5]) (by kernel_rfl) (by simp) ?_
  refine AllReadyH.cons rfl (fun K hK=>?_) AllReadyH.nil
  rw [if_pos (by rfl)]
  go_wp2_with fail
  have hff:Fr [w.heap.size+1] W4 ((w6.setRow (w.heap.size+1) g2).alloc (.cells #[.slice a0 n0 c0,.slice a1 n1 c1] 25)):=hff0.alloc _
  have hfb:Fr [w.heap.size+1] w6 ((w6.setRow (w.heap.size+1) g2).alloc (.cells #[.slice a0 n0 c0,.slice a1 n1 c1] 25)):=((Fr.refl _ _).setRow _ _ (by simp)).alloc _
  have hrowF:((w6.setRow (w.heap.size+1) g2).alloc (.cells #[.slice a0 n0 c0,.slice a1 n1 c1] 25)).heap[w.heap.size+1]?=some (.cells g2 90):=((Fr.refl [] _).alloc _).heap0 (setRow_heap _ _ _ _ _ _ hR6)
  have hblkF:((w6.setRow (w.heap.size+1) g2).alloc (.cells #[.slice a0 n0 c0,.slice a1 n1 c1] 25)).heap[w6.heap.size]?=some (.cells #[.slice a0 n0 c0,.slice a1 n1 c1] 25):=yq1 _ _ _ (by simp)
  refine hK.out _ _ hff (fun _=>?_)
  clear hK
  refine wpAnyH_take (i:=7) (oi:=_) (v:=.slice (some ⟨w6.heap.size,0,none⟩) 2 2) rfl (by kernel_rfl) (by kernel_rfl) (by kernel_rfl) (fun _ _ _ h=>h) (Or.inl ⟨by kernel_rfl,fun w0 _=>by go_simp⟩) hff ?_
  refine wpAnyH_done (by kernel_rfl) ?_ _
  go_wp2_with fail
  have hq0:W4.drew.heap.size=W4.heap.size:=rfl
  rw [hq0] at hown0
  refine bodyPost_ret (v:=.tuple #[.agg g2,.slice (some ⟨w6.heap.size,0,none⟩) 2 2]) (qq3 Tryz.results74 _ _ (w.heap.size+1) 90 g2 (0,0) _ _ rfl rfl hrowF Tryz.underlying90 rfl (by rw [qx7,hg2s])) rfl ⟨_,by rw [HGL.out],?_,w6.heap.size,_,_,rfl,hblkF,by omega,?_,?_,fun g hg e=>by have h1:=hown0.lt g hg;have h2:=qj1 hown1 e;omega⟩
  ·exact hw4.trans hff (by simp)
  ·exact zw4 (zz5 (qq7 hown0 hf6 (by simp)) hfb (by omega)) (by omega)
  ·exact zw4 (zz5 hown1 hfb (by omega)) (by omega)
theorem dw5 (pb cap:Nat)(t:T)(l1 l2:List Cm)(lv1 lv2:Value)(w:World)(ht:1000000000<=t.turn)(h1:CmdV w lv1 l1)(h2:CmdV w lv2 l2)(hl1:l1.length<=2000000)(hl2:l2.length<=2000000) :
  Calls Tryz.prog 74 #[.agg (qz5 t (.slice (some ⟨pb,0,none⟩) t.us.length cap)).toArray,lv1,lv2] w fun e w' =>
   ∃ v,e=.returned (.tuple #[.agg (qz5 t (.slice (some ⟨pb,0,none⟩) t.us.length cap)).toArray,v])/\Fr [] w w'/\RefsA w' w.heap.size v (List.range l1.length) (List.range l2.length):=by
 obtain ⟨gs,hgs⟩:∃ gs,gs=(qz5 t (.slice (some ⟨pb,0,none⟩) t.us.length cap)).toArray:=⟨_,rfl⟩
 have hg:gs.size=149:=by rw [hgs];simp [qz5]
 have HGS:=hid hgs
 have hg0:gs[0]?=some (ii t.turn):=by rw [hgs];simp [qz5,qq9]
 have hg148:gs[148]?=some (.slice (some ⟨pb,0,none⟩) t.us.length cap):=by rw [hgs];simp [qz5,qq9]
 rw [<- hgs]
 have HG:=hid hg
 clear hgs hg
 obtain ⟨W2,hW2⟩:∃ W,W=(w.alloc (.cells gs 90)).alloc (.cells Tryz.zeroCells90 90):=⟨_,rfl⟩
 have h02:Fr [] w W2:=by rw [hW2];exact ((Fr.refl _ _).alloc _).alloc _
 have hG2:W2.heap[w.heap.size]?=some (.cells gs 90):=by rw [hW2,qz8]
 have hR2:W2.heap[w.heap.size+1]?=some (.cells Tryz.zeroCells90 90):=by rw [hW2,qz4]
 have hG20:W2.cell? ⟨w.heap.size,0,none⟩=some (ii t.turn):=(j9 hG2).trans hg0
 rw [hW2] at hG20
 have HW:=hid hW2
 have HG2:=hid hG2
 have HR2:=hid hR2
 have H02:=hid h02
 clear hW2 hG2 hR2 h02 hg0 hg148
 go_enter Tryz.func74,Tryz.ntmps74
 go_wp2_with fail
 rw [<- HW.out]
 obtain ⟨W4,hW4⟩:∃ W,W=W2:=⟨_,rfl⟩
 have hw4:Fr [] w W4:=by rw [hW4];exact H02.out
 have hG4:W4.heap[w.heap.size]?=some (.cells gs 90):=by rw [hW4];exact HG2.out
 have hR4:W4.heap[w.heap.size+1]?=some (.cells Tryz.zeroCells90 90):=by rw [hW4];exact HR2.out
 rw [<- hW4]
 obtain ⟨g2,hg2⟩:∃ g,g=gs:=⟨_,rfl⟩
 rw [<- hg2] at hG4
 have HGG:=hid hg2
 have hgl:g2=(qz5 t (.slice (some ⟨pb,0,none⟩) t.us.length cap)).toArray:=by rw [hg2,HGS.out]
 have hg2s:g2.size=149:=by rw [hgl];simp [qz5]
 have hg21:g2.all (·.oneCell')=true:=by rw [hgl];exact zx9 _ _ _ _
 have HRR:∀ w',Fr [w.heap.size+1] W4 w'->w'.rangeAt w.heap.size 0 g2.toList:=fun w' hf j v hv=>by
  rw [Nat.zero_add,j9 (hf.heap hG4 (by simp))]
  simpa using hv
 have hi149:(Tryz.prog.info? 90).map (·.size)=some g2.toList.length:=by rw [qx7];simp [hg2s]
 have hrl:=qq2 hR4
 clear hW4 hgl hg2 hG20 HG2 HR2 H02 HW HGS
 have KF:Fr [] W4 W4.drew:=(Fr.refl _ _).drew
 refine wp_region_held (S:=fun w'=>Fr [w.heap.size+1] W4 w') (by kernel_rfl) ?_
 refine wpAnyH_take (i:=0) (oi:=_) (v:=.agg g2.toList.toArray) rfl (by kernel_rfl) (by kernel_rfl) (by kernel_rfl) (fun _ _ _ h=>h) (yieldsIf_load_mid (by kernel_rfl) 90 (.tmp 3) rfl w.heap.size 0 rfl g2.toList _ HRR Tryz.underlying90 rfl hi149) KF.of0 ?_
 simp only [Act.put,Array.toArray_toList]
 refine wpAnyH_take (i:=1) (oi:=_) (v:=lv1) rfl (by kernel_rfl) (by kernel_rfl) (by kernel_rfl) (fun _ _ _ h=>h) (Or.inl ⟨by kernel_rfl,fun w0 _=>by go_simp⟩) KF.of0 ?_
 simp only [Act.put]
 refine wpAnyH_take (i:=3) (oi:=_) (v:=lv2) rfl (by kernel_rfl) (by kernel_rfl) (by kernel_rfl) (fun _ _ _ h=>h) (Or.inl ⟨by kernel_rfl,fun w0 _=>by go_simp⟩) KF.of0 ?_
 simp only [Act.put]
 refine wpAnyH_ready (rs:=[2]) (by kernel_rfl) (by simp) ?_
 refine AllReadyH.cons rfl (fun K hK=>?_) AllReadyH.nil
 rw [if_pos (by rfl)]
 go_wp2_with (go_at_call 115;refine (yk3 l1 lv1 w _ h1 hl1).mono ?_;rintro e w5 ⟨v0,rfl,hf5,hown0⟩)
 have hfr5:Fr [] W4 w5:=KF.then0 hf5
 refine hK.out _ _ hfr5.of0 (fun _=>?_)
 clear hK
 refine wpAnyH_ready (rs:=[4]) (by kernel_rfl) (by simp) ?_
 refine AllReadyH.cons rfl (fun K hK=>?_) AllReadyH.nil
 rw [if_pos (by rfl)]
 go_wp2_with (go_at_call 115;refine (yk3 l2 lv2 w _ h2 hl2).mono ?_;rintro e w6 ⟨v1,rfl,hf6,hown1⟩)
 have hfr6:Fr [] W4 w6:=hfr5.then0 hf6
 refine hK.out _ _ hfr6.of0 (fun _=>?_)
 clear hK
 obtain ⟨a0,n0,c0,rfl⟩:=zv7 hown0
 obtain ⟨a1,n1,c1,rfl⟩:=zv7 hown1
 have hs4:=hw4.size
 have hs5:=hfr5.size
 have hs6:=hfr6.size
 have hR6:=hfr6.heap0 hR4
 refine wpAnyH_ready (rs:=[5,6]) (by kernel_rfl) (by simp) ?_
 refine AllReadyH.cons rfl (fun K hK=>?_) (AllReadyH.cons rfl (fun K hK=>?_) AllReadyH.nil)
 ·rw [if_pos (by rfl)]
  go_wp2_with fail
  refine hK.out _ _ (hfr6.alloc _).of0 (fun _=>?_)
  clear hK
  refine wpAnyH_ready (rs:=[6]) (by kernel_rfl) (by simp) ?_
  refine AllReadyH.cons rfl (fun K hK=>?_) AllReadyH.nil
  rw [if_pos (by rfl)]
  have hR7:(w6.alloc (.cells #[.slice a0 n0 c0,.slice a1 n1 c1] 25)).heap[w.heap.size+1]?=some (.cells Tryz.zeroCells90 90):=((Fr.refl [] w6).alloc _).heap0 hR6
  refine wp_store_row 90 (.tmp 6) (.tmp 13) rfl (w.heap.size+1) g2 rfl rfl 90 _ hR7 (by rw [qx7,hg2s]) (by rw [hg2s];exact zcGame) hg21 ?_
  have hff:Fr [w.heap.size+1] W4 ((w6.alloc (.cells #[.slice a0 n0 c0,.slice a1 n1 c1] 25)).setRow (w.heap.size+1) g2):=(hfr6.alloc _).of0.setRow _ _ (by simp)
  have hfb:Fr [w.heap.size+1] w6 ((w6.alloc (.cells #[.slice a0 n0 c0,.slice a1 n1 c1] 25)).setRow (w.heap.size+1) g2):=((Fr.refl _ _).alloc _).setRow _ _ (by simp)
  have hrowF:((w6.alloc (.cells #[.slice a0 n0 c0,.slice a1 n1 c1] 25)).setRow (w.heap.size+1) g2).heap[w.heap.size+1]?=some (.cells g2 90):=setRow_heap _ _ _ _ _ _ hR7
  have hblkF:((w6.alloc (.cells #[.slice a0 n0 c0,.slice a1 n1 c1] 25)).setRow (w.heap.size+1) g2).heap[w6.heap.size]?=some (.cells #[.slice a0 n0 c0,.slice a1 n1 c1] 25):=by rw [setRow_other _ _ _ _ (by omega)];exact qq6 _ _
  refine hK.out _ _ hff (fun _=>?_)
  clear hK
  simp only [Act.put]
  refine wpAnyH_take (i:=7) (oi:=_) (v:=.slice (some ⟨w6.heap.size,0,none⟩) 2 2) rfl (by kernel_rfl) (by kernel_rfl) (by kernel_rfl) (fun _ _ _ h=>h) (Or.inl ⟨by kernel_rfl,fun w0 _=>by go_simp⟩) hff ?_
  refine wpAnyH_done (by kernel_rfl) ?_ _
  go_wp2_with fail
  have hq0:W4.drew.heap.size=W4.heap.size:=rfl
  rw [hq0] at hown0
  refine bodyPost_ret (v:=.tuple #[.agg g2,.slice (some ⟨w6.heap.size,0,none⟩) 2 2]) (qq3 Tryz.results74 _ _ (w.heap.size+1) 90 g2 (0,0) _ _ rfl rfl hrowF Tryz.underlying90 rfl (by rw [qx7,hg2s])) rfl ⟨_,by rw [HGG.out],?_,w6.heap.size,_,_,rfl,hblkF,by omega,?_,?_,fun g hg e=>by have h1:=hown0.lt g hg;have h2:=qj1 hown1 e;omega⟩
  ·exact hw4.trans hff (by simp)
  ·exact zw4 (zz5 (qq7 hown0 hf6 (by simp)) hfb (by omega)) (by omega)
  ·exact zw4 (zz5 hown1 hfb (by omega)) (by omega)
 ·rw [if_pos (by rfl)]
  refine wp_store_row 90 (.tmp 6) (.tmp 13) rfl (w.heap.size+1) g2 rfl rfl 90 _ hR6 (by rw [qx7,hg2s]) (by rw [hg2s];exact zcGame) hg21 ?_
  have hff0:Fr [w.heap.size+1] W4 (w6.setRow (w.heap.size+1) g2):=hfr6.of0.setRow _ _ (by simp)
  refine hK.out _ _ hff0 (fun _=>?_)
  clear hK
  simp only [Act.put]
  refine wpAnyH_ready (rs:=[5]) (by kernel_rfl) (by simp) ?_
  refine AllReadyH.cons rfl (fun K hK=>?_) AllReadyH.nil
  rw [if_pos (by rfl)]
  go_wp2_with fail
  have hff:Fr [w.heap.size+1] W4 ((w6.setRow (w.heap.size+1) g2).alloc (.cells #[.slice a0 n0 c0,.slice a1 n1 c1] 25)):=hff0.alloc _
  have hfb:Fr [w.heap.size+1] w6 ((w6.setRow (w.heap.size+1) g2).alloc (.cells #[.slice a0 n0 c0,.slice a1 n1 c1] 25)):=((Fr.refl _ _).setRow _ _ (by simp)).alloc _
  have hrowF:((w6.setRow (w.heap.size+1) g2).alloc (.cells #[.slice a0 n0 c0,.slice a1 n1 c1] 25)).heap[w.heap.size+1]?=some (.cells g2 90):=((Fr.refl [] _).alloc _).heap0 (setRow_heap _ _ _ _ _ _ hR6)
  have hblkF:((w6.setRow (w.heap.size+1) g2).alloc (.cells #[.slice a0 n0 c0,.slice a1 n1 c1] 25)).heap[w6.heap.size]?=some (.cells #[.slice a0 n0 c0,.slice a1 n1 c1] 25):=yq1 _ _ _ (by simp)
  refine hK.out _ _ hff (fun _=>?_)
  clear hK
  refine wpAnyH_take (i:=7) (oi:=_) (v:=.slice (some ⟨w6.heap.size,0,none⟩) 2 2) rfl (by kernel_rfl) (by kernel_rfl) (by kernel_rfl) (fun _ _ _ h=>h) (Or.inl ⟨by kernel_rfl,fun w0 _=>by go_simp⟩) hff ?_
  refine wpAnyH_done (by kernel_rfl) ?_ _
  go_wp2_with fail
  have hq0:W4.drew.heap.size=W4.heap.size:=rfl
  rw [hq0] at hown0
  refine bodyPost_ret (v:=.tuple #[.agg g2,.slice (some ⟨w6.heap.size,0,none⟩) 2 2]) (qq3 Tryz.results74 _ _ (w.heap.size+1) 90 g2 (0,0) _ _ rfl rfl hrowF Tryz.underlying90 rfl (by rw [qx7,hg2s])) rfl ⟨_,by rw [HGG.out],?_,w6.heap.size,_,_,rfl,hblkF,by omega,?_,?_,fun g hg e=>by have h1:=hown0.lt g hg;have h2:=qj1 hown1 e;omega⟩
  ·exact hw4.trans hff (by simp)
  ·exact zw4 (zz5 (qq7 hown0 hf6 (by simp)) hfb (by omega)) (by omega)
  ·exact zw4 (zz5 hown1 hfb (by omega)) (by omega)
end Go.Proofs.YtapabahhfanmmaaGreatDoor
