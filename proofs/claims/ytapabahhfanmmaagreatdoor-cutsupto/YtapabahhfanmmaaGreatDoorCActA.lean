import Derived.Test.YtapabahhfanmmaaGreatDoorCInv2
namespace Go.Proofs.YtapabahhfanmmaaGreatDoor
open Go.RowKit List Go.Proofs.Tryz
set_option maxHeartbeats 2000000
set_option maxRecDepth 100000
variable {a b c d e f:Nat} {t:T} {H:TypeId} {C:U} {r u v:Value} {w:World}
theorem pI{j:Value}(f:w.heap[a]?=some (.cells #[v,u,r,j] H))(b c d e:Value):((((w.setCell ⟨a,0,none⟩ b).setCell ⟨a,1,none⟩ c).setCell ⟨a,2,none⟩ d).setCell ⟨a,3,none⟩ e).heap[a]?=some (.cells #[b,c,d,e] H):=by have g:=cJ f 0 b;have h:=cJ g 1 c;have i:=cJ h 2 d;have k:=cJ i 3 e;simp_all
theorem TS.putU(g:TS w a b c d e t)(k:f<t.us.length)(i:U):TS (w.setCells b (f*11) i.cells) a b c d e {t with us:=t.us.set f i}:=by
 have j:Fr [b] w (w.setCells b (f*11) i.cells):=(by grind[Fr.setCells,r0]);have m:(t.us.set f i).length=t.us.length:=Q0;refine{g with cell:=λh l=>?_,fz:=λh=>?_,row:=g.row.put k i,len:=?_,held:=?_,ways:=?_}
 ·rw[j.cell a h g.lt (by simp;exact g.n1),g.cell h l];grind[aK]
 ·rw[j.frozen a h g.lt (by simp;exact g.n1)];exact g.fz h
 ·grind[TS.len]
 ·exact g.held.fr j (by grind[TS.n4])
 exact g.ways.fr j (by grind[TS.n5])
theorem Ke(b:w.heap[a]?=some (.cells C.arr H)):w.cell? ⟨a,0,none⟩=some (ii C.id)/\w.cell? ⟨a,1,none⟩=some (ii C.owner)/\w.cell? ⟨a,2,none⟩=some (ii C.kind)/\w.cell? ⟨a,3,none⟩=some (ii C.x)/\w.cell? ⟨a,4,none⟩=some (ii C.y)/\w.cell? ⟨a,5,none⟩=some (ii C.life)/\w.cell? ⟨a,6,none⟩=some (ii C.load)/\w.cell? ⟨a,7,none⟩=some (ii C.what)/\w.cell? ⟨a,8,none⟩=some (ii C.tox)/\w.cell? ⟨a,9,none⟩=some (ii C.toy)/\w.cell? ⟨a,10,none⟩=some (ii C.target):=
  ⟨aB b,aB b,aB b,aB b,aB b,aB b,aB b,aB b,aB b,aB b,aB b⟩
theorem mF(g k ah o l:Nat)(Zq:T)(f:U)(K:Value)(n1 n0 n2 s:Nat)(d:U×T)(a:World)(v:TS a g k ah o l Zq)(hk:∀a,Cs 121 #[ii f.kind] a (R0 a K))(hs:∀a,Cs 193 #[K,ii f.what] a (R0 a (.tuple #[.agg #[fv n1,fv n0,fv n2,fv s],.bool true])))(W:∀b,Fr [] a b->Cs s #[pt g,f.val] b λn ag=>n=.returned d.1.val/\∃e m,Fr [g,k,o,l] b ag/\TS ag g e m o l d.2/\(e=k\/b.heap.size<=e))(ac:Rise d.2.us)(ak:∀(args:Array Value) (a:World),(callFunc s args).run prog a=.ok (.enter s args) a):Cs 153 #[pt g,f.val] a λn b=> n=.returned (.tuple #[])/\∃e m,Fr [g,k,o,l] a b/\TS b g e m o l (cY d.2 d.1)/\(e=k\/a.heap.size<=e):=by
 have hz:=v.z;have av:=v.ways.lt;have ba:=v.held.lt;have bj:=v.lt;have bf:=v.row.lt;obtain⟨i,H⟩:=nm (a.alloc (.cells f.arr 85));have bi:i.heap.size=a.heap.size+1:=by rw[H];simp
 have ai:Fr [] a i:=by grind[Fr.alloc,r0]
 have F:i.heap[a.heap.size]?=some (.cells f.arr 85):=by rw[H,aC]
 have h:∀b,Fr [] i b->(λb:World=>cl b a.heap.size 2 f.kind/\cl b a.heap.size 7 f.what/\Fr [] i b) b:=λb q=>⟨aB (q.qH F),aB (q.qH F),q⟩;have E:Fr [] i (a.alloc (.cells f.arr 85)).drew:=by grind[Fr.drew,r0]
 have P:=h _ E;clear H
 delta Cs;go_in
 go_wp2
 go_cut [4,5] (fun s4 s5 C=>∃u:Nat,s4=.pointer (so u)/\s5=.bool true/\C.heap[u]?=some (.cells #[fv n1,fv n0,fv n2,fv s] 217)/\a.heap.size<u/\Fr [] i C)
 ·go_region_held (fun b:World=>ca b a.heap.size 2 (ii f.kind)/\ca b a.heap.size 7 (ii f.what)/\Fr [] i b)
   (first|exact P|exact h _ L|exact h _ (L.alloc _)|exact h _ y|exact h _ (y.alloc _)|exact h _ (E.alloc _)|exact h _ ((((L.setCell _ _ (.inr qt)).setCell _ _ (.inr qt)).setCell _ _ (.inr qt)).setCell _ _ (.inr qt)))
   (first|(go_at_call 121;refine(hk _).mono ?_;rintro n B ⟨rfl,p⟩;obtain⟨aw,bm⟩:=p.qC;have q1:a.heap.size<B.heap.size:=(by have:=p.size;simp at this;omega);(first|(have q2:a.heap.size+1<B.heap.size:=(by have:=p.size;simp at this;omega))|skip);have y:=Fr.qT (Q1 (Q1 qb)) p)|(go_at_call 193;refine(hs _).mono ?_;rintro n w2 ⟨rfl,w⟩;obtain⟨ax,bn⟩:=w.qC;have q3:=w.size;have L:=Fr.qT (Q1 (Q1 qb)) w))
  all_goals
   go_wp2_with fail
   go_meet
   refine⟨_,rfl,rfl,?_,?_,?_⟩
   ·first
    |with_reducible exact aC _ _
    |exact pI (w.qH (aC B _)) _ _ _ _
    |exact pI (w.qH (p.qH (cZ a _ _))) _ _ _ _
   ·omega
   grind
 obtain⟨u,rfl,rfl,hg,bd,Y⟩:=hcut;have A:=Y.qH F;have N:=ai.qT Y;have am:ca wc u 3 (fv s):=aB hg;have bk:=aH A;clear P h E hk hs
 go_wp2_with (refine wpList_load_row rfl 85 _ rfl a.heap.size rfl 85 f.arr (0,0) _ A Q3 rfl aS ?_)
 refine(W _ N).mono ?_;rintro n O ⟨rfl,e,m,I,ad,bh⟩;have af:=I.heap A qt;dsimp only;clear A am hg W ak
 go_wp2_with (refine wpList_store_row rfl 85 _ _ rfl a.heap.size d.1.arr rfl rfl 85 _ af aS rfl (U.one _) ?_)
 rw[show ∀R:Act,R.put none undef=R from λ_=>rfl];obtain⟨j,V⟩:=nm (O.setRow a.heap.size d.1.arr);have X:Fr [a.heap.size] O j:=by grind[Fr.setRow,r0]
 have S:j.heap[a.heap.size]?=some (.cells d.1.arr 85):=by grind[setRow_heap]
 have ap:Fr [g,k,o,l] a O:=(N.mono qs).trans I qs;have aq:Fr [g,k,o,l] a j:=by grind[Fr.setRow]
 have bl:=N.size;have be:e≠a.heap.size:=qo;have ab:e=k\/a.heap.size<=e:=qo;have ae:=ad.fr X qt qt qt qt;rw[<-V];have D:∀b,Fr [] j b->(λb:World=>ca b a.heap.size 0 (ii d.1.id)/\Fr [] j b) b:=λb q=>⟨aB (q.qH S),q⟩;have Q:=D j.drew ((r0 _ _).drew);clear V af ad I ap X
 go_cut [6,7] (fun s6 s7 C=>∃(r:Nat) (t:Bool),s6=ii r/\s7=.bool t/\bI d.2.us d.1.id=(if t=true then some r else none)/\Fr [] j C)
 ·go_region_held (fun b:World=>ca b a.heap.size 0 (ii d.1.id)/\Fr [] j b)
   (first|with_reducible exact Q|with_reducible exact D _ y)
   (first|(go_at_call 152;refine(pU g e m d.2.us d.1.id _ (ae.gv.qF (Q1 qb)) ac).mono ?_;rintro n B ⟨r,t,rfl,p,bg⟩;have y:=Fr.qT (Q1 qb) p))
  all_goals
   go_wp2_with fail
   go_meet
   grind
 obtain⟨r,t,rfl,rfl,aa,J⟩:=hcut;have aj:=J.qH S;have x:=ae.qF J;have ar:=aq.qT J;clear Q D;cases t
 ·go_wp2_with fail
  refine Q5 (v:=.tuple #[]) (Q6 rfl _ _ _) rfl ⟨rfl,e,m,ar,?_,ab⟩;grind[cY]
 rw[Q7 rfl]at aa;obtain⟨bo,M,ao⟩:=kU aa;have an:=(gs.1 M).1;have bc:=x.len;have ay:=x.gv.c;obtain⟨c0,c1,c2,c3,c4,c5,c6,c7,c8,c9,Zr⟩:=x.row.ppl.at M;obtain⟨d0,d1,d2,d3,d4,d5,d6,d7,d8,d9,au⟩:=Ke aj;have az:=x.row.fz;go_wp2
 go_region
 all_goals
  refine Q5 (v:=.tuple #[]) (Q6 rfl _ _ _) rfl ⟨rfl,e,m,?_,?_,ab⟩
  ·show Fr _ _ (wc.setCells e (r*11) d.1.cells).drew
   grind[Fr.drew,Fr.setCells]
  show TS (wc.setCells e (r*11) d.1.cells).drew _ _ _ _ _ _
  rw[kW ac M ao.symm];exact(x.putU an d.1).qF ((r0 _ _).drew)
