import Derived.Test.YtapabahhfanmmaaGreatDoorTie
import Derived.Test.YtapabahhfanmmaaGreatDoorCards
import Derived.Test.YtapabahhfanmmaaGreatDoorCPlaysG
import Derived.SevenTiedAt
import Derived.Deep.DeepHandedRow
namespace Go.Proofs.YtapabahhfanmmaaGreatDoor
open Go.ChangeShapes Go.WideShapes Go.ChangeAt Go.WideMaps Go.WideElems Go.RowKit
set_option maxRecDepth 100000
theorem dz9 {H:Type}(d:DataW H):1<=Rows.uptoBulk d:=by
 rcases d with l|_|_|_|_|_|_|_
 ·cases l <;> simp [Rows.uptoBulk]
 all_goals simp [Rows.uptoBulk]
theorem vj7 {H:Type}:∀ l:List (DataW H),l.length<=Rows.uptoBulkAll l
 | []=>Nat.zero_le _
 | d :: l=>by
  have h1:=dz9 d
  have h2:=vj7 l
  simp only [Rows.uptoBulkAll,List.length_cons]
  omega
theorem gy8 {H:Type}{d:DataW H}:∀ {l:List (DataW H)},d∈l->Rows.uptoBulk d<=Rows.uptoBulkAll l
 | [],h=>by cases h
 | e :: l,h=>by
  simp only [Rows.uptoBulkAll]
  rcases List.mem_cons.1 h with rfl|h
  ·omega
  ·have:=gy8 h
   omega
theorem gy7 {H:Type}{d:DataW H}{l:List (DataW H)}{i:Nat}(h:l[i]?=some d):Rows.uptoBulk d<=Rows.uptoBulkAll l:=gy8 (List.mem_of_getElem? h)
theorem xz5 {w:World}{a:Addr}{v:Value}(h:w.cell? (a.add 0)=some v):a=⟨a.block,a.off,none⟩:=by
 have e:=jv0 (i:=0) h
 have:a.add 0=a:=by simp [Addr.add]
 rw [this,Nat.add_zero] at e
 exact e
section
variable {H:Type} {enc:TypeId×Value->H} {w:World} {base:Nat} {spare:Nat->Bool} {held:Bool} {fuel:Nat} {cs:List Value} {x:DataW H×List MemPlace}
theorem dj2 (h:DataW.trod enc Tryz.prog w base spare held fuel 81 cs=some x):cs.length=5/\∀ j,j < 5->∃ n,cs[j]?=some (ii n):=by
 obtain ⟨xs,n,_,rfl,hl,hlen,hf⟩:=DataW.trod_struct Tryz.underlying81 h
 have c1:Tryz.prog.cellsOf 3=1:=by kernel_rfl
 have c5:Tryz.prog.cellsOf 81=5:=by kernel_rfl
 rw [c5] at hl
 refine ⟨hl,fun j hj=>?_⟩
 have key:∀ (o:Nat) (y:DataW H×List MemPlace) (m:Nat),DataW.trod enc Tryz.prog w base spare held m 3 ((cs.drop o).take (Tryz.prog.cellsOf 3))=some y->∃ n,cs[o]?=some (ii n):=by
  intro o y m hy
  obtain ⟨k,e,_,hw⟩:=DataW.trod_int Tryz.underlying3 hy
  rw [c1] at e
  refine ⟨k,?_⟩
  have:=congrArg (fun l:List Value=>l[0]?) e
  simpa using this
 have hlen':xs.length=5:=by simpa using hlen
 obtain ⟨y,hy⟩:∃ y,xs[j]?=some y:=⟨_,List.getElem?_eq_getElem (by omega)⟩
 have hj5:j=0\/j=1\/j=2\/j=3\/j=4:=by omega
 rcases hj5 with rfl|rfl|rfl|rfl|rfl
 ·exact key 0 y n ((hf 0 _ rfl).trans hy)
 ·exact key 1 y n ((hf 1 _ rfl).trans hy)
 ·exact key 2 y n ((hf 2 _ rfl).trans hy)
 ·exact key 3 y n ((hf 3 _ rfl).trans hy)
 ·exact key 4 y n ((hf 4 _ rfl).trans hy)
theorem kw0 {t e:TypeId}(ht:Tryz.prog.underlying t=some (.slice e))(h:DataW.trod enc Tryz.prog w base spare held fuel t cs=some x):∃ ao n c,cs=[.slice ao n c]:=by
 rcases Deep.open_slice ht h with ⟨h1,_⟩|⟨a,len,cap,m,n,D,Pl,h1,_⟩
 ·exact ⟨_,_,_,h1⟩
 ·exact ⟨_,_,_,h1⟩
theorem xk7 (h:DataW.trod enc Tryz.prog w base spare held fuel 39 cs=some x):∃ ao n c l,cs=[.slice ao n c]/\CmdR w (.slice ao n c) l/\l.length<=Rows.uptoBulk x.1:=by
 rcases Deep.open_slice Tryz.underlying39 h with ⟨rfl,rfl⟩|⟨a,len,cap,m,n,D,Pl,rfl,_,hlc,hcap,hm,rfl,hc⟩
 ·exact ⟨none,0,0,[],rfl,Or.inl ⟨none,0,rfl,rfl⟩,Nat.zero_le _⟩
 ·have hle:len<=m:=by rw [hm];split <;> omega
  have c5:Tryz.prog.cellsOf 81=5:=by kernel_rfl
  by_cases h0:len=0
  ·subst h0
   exact ⟨some a,0,cap,[],rfl,Or.inl ⟨_,_,rfl,rfl⟩,Nat.zero_le _⟩
  ·rw [c5] at hc
   have each:∀ i,i < m->∀ j,j < 5->∃ n,w.cell? ((a.add (i*5)).add j)=some (ii n):=by
    intro i hi j hj
    obtain ⟨cs',h2,h3⟩:=hc i hi
    obtain ⟨hl,hj2⟩:=dj2 h3
    obtain ⟨n,e⟩:=hj2 j hj
    refine ⟨n,?_⟩
    rw [(World.cells?_some h2).2.2 j (by omega)]
    exact e
   obtain ⟨z0,hz0⟩:=each 0 (by omega) 0 (by omega)
   have e00:(a.add (0*5)).add 0=a.add 0:=by simp [Addr.add]
   rw [e00] at hz0
   have hall:∀ i:Fin len,∃ c:Cm,w.rangeAt a.block (a.off+i.1*5) c.cells:=by
    intro ⟨i,hi⟩
    have ce:∀ j,j < 5->∃ n,w.cell? ⟨a.block,a.off+i*5+j,none⟩=some (ii n):=fun j hj=>by
     obtain ⟨n,e⟩:=each i (by omega) j hj
     rw [jv0 (i:=i*5) hz0,Addr.add_lit] at e
     exact ⟨n,e⟩
    obtain ⟨n0,h0⟩:=ce 0 (by omega)
    obtain ⟨n1,h1⟩:=ce 1 (by omega)
    obtain ⟨n2,h2⟩:=ce 2 (by omega)
    obtain ⟨n3,h3⟩:=ce 3 (by omega)
    obtain ⟨n4,h4⟩:=ce 4 (by omega)
    refine ⟨⟨n0,n1,n2,n3,n4⟩,fun j u hu=>?_⟩
    have hj:j < 5:=(List.getElem?_eq_some_iff.1 hu).1
    have hj5:j=0\/j=1\/j=2\/j=3\/j=4:=by omega
    rcases hj5 with rfl|rfl|rfl|rfl|rfl <;> (cases hu;assumption)
   refine ⟨some a,len,cap,List.ofFn (fun i=>Classical.choose (hall i)),rfl,Or.inr ⟨a.block,a.off,cap,?_,?_,fun i hi=>?_⟩,?_⟩
   ·rw [List.length_ofFn,<- xz5 hz0]
   ·have:=jv0 (i:=0) hz0
    rw [this] at hz0
    exact qq1 hz0
   ·rw [List.getElem_ofFn]
    exact Classical.choose_spec (hall ⟨i,by simpa using hi⟩)
   ·rw [List.length_ofFn]
    have:=vj7 ((List.range len).map D)
    simp only [List.length_map,List.length_range] at this
    simp only [Rows.uptoBulk]
    omega
theorem qqx9 (h:DataW.trod enc Tryz.prog w base spare held fuel 70 cs=some x):∃ d:OpD,cs=d.cells/\CmdR w d.f d.fst/\CmdR w d.s d.snd/\d.fst.length<=Rows.uptoBulk x.1/\d.snd.length<=Rows.uptoBulk x.1/\d.tx.data.toList.length<=Rows.uptoBulk x.1:=by
 obtain ⟨xs,n,_,rfl,hl,hlen,hf⟩:=DataW.trod_struct Tryz.underlying70 h
 have c7:Tryz.prog.cellsOf 70=7:=by kernel_rfl
 have cI:Tryz.prog.cellsOf 3=1:=by kernel_rfl
 have cC:Tryz.prog.cellsOf 39=1:=by kernel_rfl
 have cS:Tryz.prog.cellsOf 9=1:=by kernel_rfl
 have cF:Tryz.prog.cellsOf 51=1:=by kernel_rfl
 have cN:Tryz.prog.cellsOf 25=1:=by kernel_rfl
 rw [c7] at hl
 have hlen':xs.length=7:=by simpa using hlen
 have hx:∀ j,j < 7->∃ y,xs[j]?=some y:=fun j hj=>⟨_,List.getElem?_eq_getElem (by omega)⟩
 obtain ⟨y0,hy0⟩:=hx 0 (by omega)
 obtain ⟨y1,hy1⟩:=hx 1 (by omega)
 obtain ⟨y2,hy2⟩:=hx 2 (by omega)
 obtain ⟨y3,hy3⟩:=hx 3 (by omega)
 obtain ⟨y4,hy4⟩:=hx 4 (by omega)
 obtain ⟨y5,hy5⟩:=hx 5 (by omega)
 obtain ⟨y6,hy6⟩:=hx 6 (by omega)
 have t0:DataW.trod enc Tryz.prog w base spare held n 3 ((cs.drop 0).take (Tryz.prog.cellsOf 3))=some y0:=(hf 0 _ rfl).trans hy0
 have t1:DataW.trod enc Tryz.prog w base spare held n 39 ((cs.drop 1).take (Tryz.prog.cellsOf 39))=some y1:=(hf 1 _ rfl).trans hy1
 have t2:DataW.trod enc Tryz.prog w base spare held n 39 ((cs.drop 2).take (Tryz.prog.cellsOf 39))=some y2:=(hf 2 _ rfl).trans hy2
 have t3:DataW.trod enc Tryz.prog w base spare held n 9 ((cs.drop 3).take (Tryz.prog.cellsOf 9))=some y3:=(hf 3 _ rfl).trans hy3
 have t4:DataW.trod enc Tryz.prog w base spare held n 51 ((cs.drop 4).take (Tryz.prog.cellsOf 51))=some y4:=(hf 4 _ rfl).trans hy4
 have t5:DataW.trod enc Tryz.prog w base spare held n 3 ((cs.drop 5).take (Tryz.prog.cellsOf 3))=some y5:=(hf 5 _ rfl).trans hy5
 have t6:DataW.trod enc Tryz.prog w base spare held n 25 ((cs.drop 6).take (Tryz.prog.cellsOf 25))=some y6:=(hf 6 _ rfl).trans hy6
 obtain ⟨k,e0,_,_⟩:=DataW.trod_int Tryz.underlying3 t0
 obtain ⟨fa,fn,fc,fl,e1,q1,b1⟩:=xk7 t1
 obtain ⟨sa,sn,sc,sl,e2,q2,b2⟩:=xk7 t2
 obtain ⟨tx,e3,x3,_⟩:=DataW.trod_string Tryz.underlying9 t3
 obtain ⟨ia,il,ic,e4⟩:=kw0 Tryz.underlying51 t4
 obtain ⟨m,e5,_,_⟩:=DataW.trod_int Tryz.underlying3 t5
 obtain ⟨ga,gl,gc,e6⟩:=kw0 Tryz.underlying25 t6
 rw [cI] at e0 e5
 rw [cC] at e1 e2
 rw [cS] at e3
 rw [cF] at e4
 rw [cN] at e6
 have hb:∀ (j:Nat) (y:DataW H×List MemPlace),xs[j]?=some y->Rows.uptoBulk y.1<=Rows.uptoBulk (DataW.agg (xs.map (·.1))):=fun j y hy=>by
  have:=gy7 (l:=xs.map (·.1)) (i:=j) (d:=y.1) (by rw [List.getElem?_map,hy];rfl)
  simp only [Rows.uptoBulk]
  omega
 refine ⟨⟨k,fa,fn,fc,sa,sn,sc,tx,ia,il,ic,m,ga,gl,gc,fl,sl⟩,?_,q1,q2,Nat.le_trans b1 (hb 1 y1 hy1),Nat.le_trans b2 (hb 2 y2 hy2),Nat.le_trans (by rw [x3];simp [Rows.uptoBulk]) (hb 3 y3 hy3)⟩
 have at_:∀ (o:Nat) (u:Value),(cs.drop o).take 1=[u]->cs[o]?=some u:=fun o u h=>by
  have:=congrArg (fun l:List Value=>l[0]?) h
  simpa using this
 apply List.ext_getElem?
 intro i
 by_cases hi:i < 7
 ·have h7:i=0\/i=1\/i=2\/i=3\/i=4\/i=5\/i=6:=by omega
  rcases h7 with rfl|rfl|rfl|rfl|rfl|rfl|rfl
  ·exact at_ 0 _ e0
  ·exact at_ 1 _ e1
  ·exact at_ 2 _ e2
  ·exact at_ 3 _ e3
  ·exact at_ 4 _ e4
  ·exact at_ 5 _ e5
  ·exact at_ 6 _ e6
 ·rw [List.getElem?_eq_none (by omega),List.getElem?_eq_none (by simp;omega)]
theorem dv4 {a0:Option Addr}{len0 cap0:Nat}{d:DataW H}{ps:List MemPlace}(h:DataW.Trod enc Tryz.prog w base spare held 22 (.slice a0 len0 cap0) d ps)(hb:Rows.uptoBulk d<=1048576):∃ l,qjq4 w (.slice a0 len0 cap0) l/\l.length<=1048576:=by
 obtain ⟨fuel,h⟩:=h
 rcases Deep.open_slice Tryz.underlying22 h with ⟨h1,_⟩|⟨a,len,cap,m,n,D,Pl,h1,_,hlc,hcap,hm,hd,hc⟩
 ·simp [Value.cells] at h1
  obtain ⟨rfl,rfl,rfl⟩:=h1
  exact ⟨[],Or.inl ⟨none,0,rfl,rfl⟩,Nat.zero_le _⟩
 ·simp [Value.cells] at h1
  obtain ⟨rfl,rfl,rfl⟩:=h1
  have hd1:d=.slice ((List.range len0).map D) ((List.range (m - len0)).map fun j=>D (len0+j)):=congrArg Prod.fst hd
  have hle:len0<=m:=by rw [hm];split <;> omega
  have c7:Tryz.prog.cellsOf 70=7:=by kernel_rfl
  by_cases h0:len0=0
  ·subst h0
   exact ⟨[],Or.inl ⟨_,_,rfl,rfl⟩,Nat.zero_le _⟩
  ·rw [c7] at hc
   have hbl:Rows.uptoBulkAll ((List.range len0).map D)<=1048576:=by
    rw [hd1] at hb
    simp only [Rows.uptoBulk] at hb
    omega
   have each:∀ i,i < len0->∃ e:OpD,(∀ j u,e.cells[j]?=some u->w.cell? ((a.add (i*7)).add j)=some u)/\OpV w e:=by
    intro i hi
    obtain ⟨cs',h2,h3⟩:=hc i (by omega)
    obtain ⟨e,rfl,q1,q2,q3,q4,q5⟩:=qqx9 h3
    have hbi:=gy7 (l:=(List.range len0).map D) (i:=i) (d:=D i) (by rw [List.getElem?_map,List.getElem?_range hi];rfl)
    have hbi':Rows.uptoBulk (D i)<=1048576:=Nat.le_trans hbi hbl
    refine ⟨e,fun j u hu=>?_,q1,q2,Nat.le_trans q3 (Nat.le_trans hbi' (by omega)),Nat.le_trans q4 (Nat.le_trans hbi' (by omega)),Nat.le_trans q5 (Nat.le_trans hbi' (by omega))⟩
    have hj:j < 7:=(List.getElem?_eq_some_iff.1 hu).1
    rw [(World.cells?_some h2).2.2 j hj]
    exact hu
   obtain ⟨e0,hz0,_⟩:=each 0 (by omega)
   have hz1:=hz0 0 _ rfl
   have e00:(a.add (0*7)).add 0=a.add 0:=by simp [Addr.add]
   rw [e00] at hz1
   have hall:∀ i:Fin len0,∃ e:OpD,w.rangeAt a.block (a.off+i.1*7) e.cells/\OpV w e:=by
    intro ⟨i,hi⟩
    obtain ⟨e,q1,q2⟩:=each i hi
    refine ⟨e,fun j u hu=>?_,q2⟩
    have:=q1 j u hu
    rw [jv0 (i:=i*7) hz1,Addr.add_lit] at this
    exact this
   refine ⟨List.ofFn (fun i=>Classical.choose (hall i)),Or.inr ⟨a.block,a.off,cap0,?_,?_,fun i hi=>?_⟩,?_⟩
   ·rw [List.length_ofFn,<- xz5 hz1]
   ·have:=jv0 (i:=0) hz1
    rw [this] at hz1
    exact qq1 hz1
   ·rw [List.getElem_ofFn]
    exact Classical.choose_spec (hall ⟨i,by simpa using hi⟩)
   ·rw [List.length_ofFn]
    have:=vj7 ((List.range len0).map D)
    simp only [List.length_map,List.length_range] at this
    omega
end
end Go.Proofs.YtapabahhfanmmaaGreatDoor
namespace Go.Proofs.YtapabahhfanmmaaGreatDoor
open Go.ChangeShapes Go.WideShapes Go.ChangeAt Go.WideMaps Go.WideElems Go.RowKit
set_option maxRecDepth 100000
theorem xq8 (H:Type) (enc:TypeId×Value->H) (W:World) (base:Nat) (args:Array Value) (ds gs:List (DataW H)) (before:List MemPlace)
  (hval:∀ (j:Nat) t v,Tryz.f4.params[j]?=some t->args[j]?=some v->Value.okWide Tryz.prog W .any base t v)
  (hW:DataW.Whole enc Tryz.prog Tryz.f4.params.toList Rows.toldSpec.vars false W args.toList ds gs before) (hk:Rows.uptoSmall H (ds ++ gs)=true) (hL:laidMetH Tryz.prog qzx8 W) :
  Calls Tryz.prog 4 args W fun e W'=>∃ v,e=.returned v/\Rows.toldSpec.post enc Tryz.prog Tryz.f4 false true false false W args v W':=by
 have hW':=hW
 obtain ⟨p,q,hA0,hV,rfl,hfz,hnd⟩:=hW
 have hA:DataW.TrodAll enc Tryz.prog W 0 (fun _=>true) true Tryz.f4.params.toList args.toList ds p:=hA0
 rw [Tryz.params4] at hA hval
 obtain ⟨v0,vs0,d0,ds0,p0,q0,hargs,rfl,rfl,h0,r0⟩:=trodAll_cons hA
 obtain ⟨rfl,rfl,rfl⟩:=trodAll_nil r0
 obtain rfl:args=#[v0]:=by cases args;simp_all
 obtain ⟨rfl,rfl⟩:=trodVars_none hV
 obtain ⟨a0,len0,cap0,rfl⟩:=okWide_slice Tryz.underlying22 (hval 0 22 v0 rfl rfl)
 clear hA0
 simp only [List.append_nil] at hW' hk
 have hb:Rows.uptoBulk d0<=1048576:=by
  have h:Rows.uptoBulkAll [d0]<=1048576:=of_decide_eq_true hk
  simp only [Rows.uptoBulkAll] at h
  omega
 obtain ⟨l,hl,hll⟩:=dv4 h0 hb
 have hlt0:∀ z∈p0,z.block < W.heap.size:=fun z hz=>hW'.lt z (by simp [hz])
 have hsd:=qqx8 hL
 refine (dq6 l _ W hl hll hsd).mono fun e W' ⟨he,hF⟩=>?_
 subst he
 refine ⟨_,rfl,qzj0 (pa:=p0) (pv:=[]) hW' (fun _ _ _=>trodAll_mk1 (shut_bool Tryz.underlying4 _)) (fun sp hsp=>?_) (fun _ _=>rfl) (by simp) hF (ok_one (by kernel_rfl) rfl (okWide_bool_mk Tryz.underlying4 _))⟩
 exact trodAll_mk1 (Trod_stays (sp':=sp) dk2 (by kernel_rfl) (of_decide_eq_true (by kernel_rfl)) h0 (fun z hz=>hF.below.same (hlt0 z hz)) (fun z hz=>hsp z (by simp [hz])))
def yj0 (P:Program) (os:Os):World :=
 { World.holding P os ⟨#[],#[],[]⟩ with heap:=(World.holding P os ⟨#[],#[],[]⟩).heap.modify 0 fun
  | .cells _ t frozen=>.cells #[ii 0,ii (-1),ii 1,ii 0,ii 0,ii 1,ii (-1),ii 0] t frozen
  | o=>o }
theorem fy4 (os:Os):laidMet Tryz.prog Rows.toldUptoRow.laid ((yj0 Tryz.prog os).forCall (fun _ _=>0) ⟨#[],#[.slice none 0 0],[]⟩).memory :=
  laidMet_of_run' 8 (by kernel_rfl) (by kernel_rfl)
theorem gy1 (os:Os){H:Type}(enc:TypeId×Value->H):∃ places,DataW.whole enc Tryz.prog ((yj0 Tryz.prog os).forCall (fun _ _=>0) ⟨#[],#[.slice none 0 0],[]⟩).memory Tryz.f4.params.toList Rows.toldSpec.vars false #[Value.slice none 0 0].toList 8=some ([.nil],[],places) :=
  ⟨[],by kernel_rfl⟩
theorem gz6 (os:Os)(started:os.Started)(H:Type)(enc:TypeId×Value->H)(F:Stop.Interp) :
  ReturnsInHanded {} Tryz.checked os 4 .any ((Rows.OpenSpec.upto Rows.toldSpec).preRow enc Tryz.prog Tryz.f4 Rows.toldUptoRow.domain false Rows.toldUptoRow.laid) (((Rows.OpenSpec.upto Rows.toldSpec).at F).post enc Tryz.prog Tryz.f4 false true false false):=by
 obtain ⟨places,hx⟩:=gy1 os enc
 refine returnsInHanded_of_row (C:=Tryz.checked) (s:=Rows.OpenSpec.upto Rows.toldSpec) ownK started (by kernel_rfl) Tryz.func4
  (witness_row_at (enc:=enc) (C:=Tryz.checked) false (yj0 Tryz.prog os) #[.slice none 0 0] rfl (by kernel_rfl) (by kernel_rfl) (by kernel_rfl)
   (OpenSpec.preRow_of_cond 8 hx (by kernel_rfl) (fun k hk=>by cases hk;kernel_rfl) (by kernel_rfl) (fy4 os))) ?_
 intro W base args ds gs before hval hW _ hcond _ hL _ _
 exact xq8 H enc W base args ds gs before hval hW (hcond _ rfl) hL
theorem qqz0:Rows.ToldUptoSaid :=
 OpenClaim.holds_of_cond 4 Tryz.f4 rfl rfl rfl rfl rfl rfl rfl ⟨rfl,rfl,rfl,rfl,rfl⟩ rfl rfl rfl rfl rfl (by kernel_rfl) Tryz.func4 (by kernel_rfl)
  (of_decide_eq_true (by kernel_rfl)) (by unfold Func.isWrapper;first|(rw [if_pos (by decide +kernel)];kernel_rfl)|(rw [if_neg (by decide +kernel)];exact ⟨rfl,rfl⟩))
  (fun os started H enc _ F=>by rw [OpenClaim.pre_eq_preRow];exact gz6 os started H enc F)
theorem gy0 (f:FuncId)(fn:Func)(hf:Tryz.pinned.checked.prog.funcNamed "skirmish/skirmishlaw.Told"=some f)(hfn:Tryz.pinned.checked.prog.funcs[f]?=some fn) :
  false=Tryz.pinned.checked.prog.looks []/\∀ (j:Nat) t,fn.params[j]?=some t->Tryz.pinned.checked.prog.wantsStandIn t=false:=by
 obtain rfl:f=4:=Option.some.inj ((show Tryz.prog.funcNamed "skirmish/skirmishlaw.Told"=some 4 by kernel_rfl).symm.trans hf) |>.symm
 obtain rfl:fn=Tryz.f4:=(Option.some.inj (Tryz.func4.symm.trans hfn)).symm
 refine ⟨by kernel_rfl,fun j t ht=>?_⟩
 rw [Tryz.params4] at ht
 obtain rfl:t=22:=by simpa using Array.mem_of_getElem? ht
 exact (show Tryz.prog.wantsStandIn 22=false by kernel_rfl)
theorem dq1:Rows.ToldUptoCardSaid :=
  Claim7.holds_tied_plain_at .later [] _ _ _ _ qqz0 (fun _ h=>by cases h) (by kernel_rfl) (fun _ h=>by cases h) toldUpto_row_tie rfl ⟨rfl,rfl⟩ (by kernel_rfl) rfl gy0 (by kernel_rfl)
end Go.Proofs.YtapabahhfanmmaaGreatDoor
namespace Go.Proofs.YtapabahhfanmmaaGreatDoor
theorem toldupto_claim:Rows.ToldUptoCardSaid:=dq1
end Go.Proofs.YtapabahhfanmmaaGreatDoor
