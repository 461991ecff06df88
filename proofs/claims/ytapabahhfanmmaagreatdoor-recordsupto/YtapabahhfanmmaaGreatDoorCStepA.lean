import Derived.Test.YtapabahhfanmmaaGreatDoorCBfs
import Derived.Maps.AppendAt
namespace Go.Proofs.YtapabahhfanmmaaGreatDoor
open Go.RowKit List
set_option maxRecDepth 100000
set_option maxHeartbeats 1000000
theorem vX (w:World)(A B C D:Obj):((((w.alloc A).alloc B).alloc C).alloc D).heap[w.heap.size+1+1+1]?=some D:=by
 have h:=iI (w.alloc A) B C D
 rwa [show (w.alloc A).heap.size=w.heap.size+1 by simp] at h
theorem mY {w:World}{base n:Nat}{v:Value}{l:List Cl}(h:w.ownsRow base 159 2 v n (l.flatMap fun c=>[ii c.1,ii c.2]))(hn:0 < n):∃ g a,v=.slice (so g) n a/\base<=g/\g < w.heap.size:=by
 obtain ⟨h1,b⟩:=h
 rcases b with ⟨_,e⟩|⟨g,a,cur,rfl,hb,d,_⟩
 ·omega
 exact ⟨g,a,rfl,hb,aH d⟩
theorem nM {F E:Cl->Bool}{a cur c:Cl}{k:Nat}{s:Bs}(e:k < 146)(d:s.q[k]?=some cur)(b:bF F E k cur (aG cur.1 cur.2) s=.inl c):cY F E a (146 - k) k s=c:=by
 rw [show 146 - k=(146 - (k+1))+1 by omega,cY,d]
 simp only
 rw [b]
theorem tS {F E:Cl->Bool}{a cur:Cl}{k:Nat}{s s':Bs}(d:k < 146)(c:s.q[k]?=some cur)(b:bF F E k cur (aG cur.1 cur.2) s=.inr s'):cY F E a (146 - k) k s=cY F E a (146 - (k+1)) (k+1) s':=by
 rw [show 146 - k=(146 - (k+1))+1 by omega,cY,c]
 simp only
 rw [b]
theorem tQ {F E:Cl->Bool}{a:Cl}{k:Nat}{s:Bs}(b:k=s.q.length):cY F E a (146 - k) k s=a:=by
 cases h:146 - k with
 | zero=>rfl
 | succ n=>rw [cY,getElem?_eq_none (by omega)]
theorem kB {w:World}{r:Nat}{f:Int×Int->Option Value}(h:MapF w r f)(t e:TypeId)(ht:Tryz.prog.underlying t=some (.map 159 e))(x y:Int)(v:Value) :
  ∃ a,(Instr.mapUpdate t (.map (some r)) (cv x y) v).run Tryz.prog w=.ok () a/\MapF a r (fun k=>if k=(x,y) then some v else f k)/\Fr [r] w a/\w.heap.size<=a.heap.size:=by
 obtain ⟨o,h1,b⟩:=h.update t e ht x y v
 exact ⟨_,h1,b,(r0 _ _).setObj r o (by simp),by simp⟩
theorem kX {w:World}{r:Nat}{f:Int×Int->Option Value}(h:MapF w r f)(t ty e:TypeId)(cs:Array Bool)(ht:Tryz.prog.underlying t=some (.map 159 e)) :
  ∃ a,(invoke (.builtin .clear #[t] ty cs) #[.map (some r)]).run Tryz.prog w=.ok (.value (.tuple #[])) a/\MapF a r (fun _=>none)/\Fr [r] w a:=by
 obtain ⟨o,h1,b⟩:=h.clear t ty e ht
 refine ⟨_,?_,b,(r0 _ _).setObj r o (by simp)⟩
 simp [invoke,builtin,h1,Result.andThen]
theorem gI:(Tryz.prog.info? 159).map (·.size)=some 2:=by kernel_rfl
theorem lK (a b:Int):(#[ii a,ii b]:Array Value).all (·.oneCell')=true:=by simp [Value.oneCell']
def fT (g:Cl->Option Cl):Int×Int->Option Value:=fun k=>(g k).map fun c=>cv c.1 c.2
theorem nT (g:Cl->Option Cl)(n f:Cl):fT (fun k=>if k=n then some f else g k)=fun k=>if k=(n.1,n.2) then some (cv f.1 f.2) else fT g k:=by
 funext k
 unfold fT
 by_cases h:k=n <;> simp [h]
theorem EQ {l:List Cl}{k:Nat}{c:Cl}(h:l[k]?=some c):(eJ l)[k*2]?=some (ii c.1)/\(eJ l)[k*2+1]?=some (ii c.2):=by
 induction l generalizing k with
 | nil=>simp at h
 | cons a l d =>
  cases k with
  | zero=>simp at h;subst h;simp [eJ]
  | succ k =>
   have:=d (by simpa using h)
   have b:(k+1)*2=k*2+1+1:=by omega
   rw [b]
   simpa [eJ] using this
theorem kQ {w:World}{base n:Nat}{v:Value}{l:List Cl}(h:w.ownsRow base 159 2 v n (eJ l))(hn:n=l.length){k:Nat}{c:Cl}(i:l[k]?=some c) :
  ∃ g a,v=.slice (so g) l.length a/\base<=g/\w.cell? ⟨g,k*2,none⟩=some (ii c.1)/\w.cell? ⟨g,k*2+1,none⟩=some (ii c.2):=by
 subst hn
 have hl:=(gs.1 i).1
 obtain ⟨h1,j⟩:=h
 rcases j with ⟨_,o⟩|⟨g,a,cur,rfl,hb,f,_,_,m,e⟩
 ·omega
 obtain ⟨b,d⟩:=EQ i
 rw [<- e] at b d
 refine ⟨g,a,rfl,hb,?_,?_⟩
 ·rw [aB f]
  rw [getElem?_take_of_lt (by omega)] at b
  simpa using b
 rw [aB f]
 rw [getElem?_take_of_lt (by omega)] at d
 simpa using d
theorem SP (tb hb B:Nat) (held:Int×Int->Option Value) (bd:Nat->Int) (O P gx gy:Int) (w:World) (cn:Sd w) (hv:TV w tb hb held bd) (hm:MapF w B (fun _=>none)) (et:B≠0) (eu:tb≠B) (ev:hb≠B)
  (ea:aD O P=true) (dg:aD gx gy=true) :
  Calls Tryz.prog 220 #[.agg #[.map (some B)],cv O P,.func (.func 199) #[.pointer (some ⟨tb,0,none⟩)] #[],.func (.func 206) #[cv gx gy] #[]] w fun e w' =>
    e=.returned (cv (cQ (fun c=>bX held bd c.1 c.2) (fun c=>aY gx gy c.1 c.2) (O,P)).1 (cQ (fun c=>bX held bd c.1 c.2) (fun c=>aY gx gy c.1 c.2) (O,P)).2)/\Fr [B] w w'/\MapF w' B (fun _=>none):=by
 obtain ⟨R,hR⟩:∃ R,cQ (fun c=>bX held bd c.1 c.2) (fun c=>aY gx gy c.1 c.2) (O,P)=R:=⟨_,rfl⟩
 rw [hR]
 obtain ⟨dr,hi,Zt,dp,dq⟩:=info_parts qZ
 have fa:=hm.lt
 refine uJ Tryz.func220 rfl ?_
 simp only [Tryz.ntmps220,List.size_toArray,List.length_cons,List.length_nil,Nat.reduceAdd,Nat.reduceSub,Array.replicate_succ,
   Array.replicate_zero,List.push_toArray,List.append_toArray,List.nil_append,List.cons_append]
 obtain ⟨W3,ap⟩:∃ W,W=((w.alloc (.cells #[.map (some B)] 208)).alloc (.cells #[ii O,ii P] 159)).alloc (.cells #[ii 0,ii 0] 159):=⟨_,rfl⟩
 have fh:W3.heap.size=w.heap.size+1+1+1:=by rw [ap];simp
 have dc:Fr [B] w W3:=by rw [ap];exact (((Fr.refl _ _).alloc _).alloc _).alloc _
 have hA:W3.heap[w.heap.size]?=some (.cells #[.map (some B)] 208):=by rw [ap,fD _ _ _ (by simp;omega),dD]
 have hB:W3.heap[w.heap.size+1]?=some (.cells #[ii O,ii P] 159):=by rw [ap,fD _ _ _ (by simp),cR]
 have hC:W3.heap[w.heap.size+1+1]?=some (.cells #[ii 0,ii 0] 159):=by rw [ap,iI]
 have HW:=aA ap
 clear ap
 obtain ⟨F,hF⟩:∃ F:Cl->Bool,∀ x y,bX held bd x y=F (x,y):=⟨fun c=>bX held bd c.1 c.2,fun _ _=>rfl⟩
 obtain ⟨E,hE⟩:∃ E:Cl->Bool,∀ x y,aY gx gy x y=E (x,y):=⟨fun c=>aY gx gy c.1 c.2,fun _ _=>rfl⟩
 have HR:Hi (cY F E (O,P) 146 0 ⟨[(O,P)],fun _=>none⟩=R):=by
  rw [<- hR];unfold cQ
  rw [show F=(fun c:Cl=>bX held bd c.1 c.2) from funext fun c=>(hF c.1 c.2).symm,show E=(fun c:Cl=>aY gx gy c.1 c.2) from funext fun c=>(hE c.1 c.2).symm]
  rfl
 have HF:=aA hF
 have HE:=aA hE
 clear hR hF hE
 go_wp2_with fail
 go_loopw [9,10] (fun r i wr=>∃ (k:Nat) (s:Bs),i=.int .i64 k/\k<=s.q.length/\BInv (O,P) s/\cY F E (O,P) (146 - k) k s=R/\wr.ownsRow (w.heap.size+1+1+1) 159 2 r s.q.length (eJ s.q)/\MapF wr B (fT s.g)/\Fr [B] W3 wr) (fun _ i _=>146 - (intOf i).toNat)
 case atStart =>
  refine ⟨0,⟨[(O,P)],fun _=>none⟩,rfl,by simp,BInv.start _,HR.o,⟨rfl,Or.inr ⟨_,1,#[ii O,ii P],rfl,Nat.le_refl _,vX _ _ _ _ _,by simp,by decide,rfl,rfl⟩⟩,?_,?_⟩
  · exact hm.fr ((((((Fr.refl [] w).alloc _).alloc _).alloc _).alloc _)) (by simp)
  rw [HW.o];exact (Fr.refl _ _).alloc _
 obtain ⟨wo,ee⟩:∃ x,x=wr:=⟨_,rfl⟩
 subst ee
 obtain ⟨k,s,rfl,hk,ba,cb,hown,dm,hf⟩:=hrel
 have fg:=ba.len
 have ec:0 < s.q.length:=by obtain ⟨l,h1,_⟩:=ba.q;rw [h1];simp
 have HO:=(show Hi (cY F E (O,P) (146 - k) k s=R) from cb)
 clear cb
 have df:=dc.trans hf (by simp)
 have ct:=hf.heap hA (by simp;omega)
 have ce:=hf.heap hB (by simp;omega)
 have cu:=hf.heap hC (by simp;omega)
 have a0:wo.cell? ⟨w.heap.size,0,none⟩=some (.map (some B)):=aB ct
 have b0:wo.cell? ⟨w.heap.size+1,0,none⟩=some (ii O):=aB ce
 have b1:wo.cell? ⟨w.heap.size+1,1,none⟩=some (ii P):=aB ce
 have cw:=aA cu
 clear ct ce cu
 have ez:w.heap.size+1+1+1<=wo.heap.size:=by have:=hf.size;omega
 have l0:w.heap.size < wo.heap.size:=by omega
 have l1:w.heap.size+1 < wo.heap.size:=by omega
 have l2:w.heap.size+1+1 < wo.heap.size:=by omega
 by_cases dy:k < s.q.length
 · obtain ⟨⟨H,I⟩,ay⟩:∃ c,s.q[k]?=some c:=⟨s.q[k],List.getElem?_eq_getElem dy⟩
   obtain ⟨gr,cs,bp,dv,q0,q1⟩:=kQ hown rfl ay
   subst bp
   have dh:=aI q0
   have bx:aD H I=true:=ba.on ea (H,I) (List.mem_of_getElem? ay)
   obtain ⟨fi,fj,fk,fl⟩:=bM.1 bx
   have HC:=aA ay
   have HI:=(show Hi (BInv (O,P) s) from ba)
   clear ay
   go_wp2_with fail
   refine (rJ H I _ (cn.fr df (by simp;omega)) (by omega) (by omega) (by omega) (by omega)).mono ?_
   rintro e w1 ⟨nv,rfl,cf,Zq⟩
   obtain ⟨gn,bv,dz,fc,eo⟩:=mY Zq (rI H I bx)
   subst dz
   have ff:=rH H I
   obtain ⟨bs,bw⟩:∃ bs,bF F E k (H,I) (aG H I) s=bs:=⟨_,rfl⟩
   have aw:=aA bw
   clear bw
   have ds:=Zq
   go_wp2_with fail
   go_loopw [9,32] (fun r j w2=>∃ (m:Nat) (D:Bs),j=.int .i64 m/\m<=(aG H I).length/\BInv (O,P) D/\bF F E k (H,I) ((aG H I).drop m) D=bs/\D.q[k]?=some (H,I)/\w2.ownsRow (w.heap.size+1+1+1) 159 2 r D.q.length (eJ D.q) /\
    (∀ b',r.ownBlock=some b'->b'≠gn)/\MapF w2 B (fT D.g)/\Fr [B] W3 w2/\w2.ownsRow (wo.heap.size+1) 159 2 (.slice (some ⟨gn,0,none⟩) (aG H I).length bv) (aG H I).length (eJ (aG H I))) (fun _ j _=>4 - (intOf j).toNat)
   case atStart =>
    refine ⟨0,s,rfl,Nat.zero_le _,HI.o,aw.o,HC.o,bW hown cf (by simp),?_,dm.fr cf (by simp),hf.then0 cf,Zq⟩
    intro b' t
    simp [Value.ownBlock] at t
    omega
   obtain ⟨m,D,rfl,fe,bn,di,Y,C,ax,N,aa,z⟩:=hrel
   have ew:=bn.len
   have dj:k < D.q.length:=(List.getElem?_eq_some_iff.1 Y).1
   obtain ⟨V,S,bp,ep,p0,p1⟩:=kQ C rfl Y
   subst bp
   have bm:=aI p0
   have da:V≠gn:=ax V rfl
   have az:=dc.trans aa (by simp)
   have a2:wr.cell? ⟨w.heap.size,0,none⟩=some (.map (some B)):=aB (aa.heap hA (by simp;omega))
   have cz:=(show Hi _ from aa.heap hC (by simp;omega))
   have ex:w.heap.size+1+1+1<=wr.heap.size:=by have:=aa.size;omega
   have l0:w.heap.size < wr.heap.size:=by omega
   have l1:w.heap.size+1 < wr.heap.size:=by omega
   have l2:w.heap.size+1+1 < wr.heap.size:=by omega
   have an:=aA di
   have bg:=aA bn
   have br:=aA Y
   clear di Y ax
   by_cases ai:m < (aG H I).length
   ·obtain ⟨⟨a,d⟩,hn⟩:∃ c,(aG H I)[m]?=some c:=⟨(aG H I)[m],List.getElem?_eq_getElem ai⟩
    obtain ⟨cd,cc,bt,_,n0,n1⟩:=kQ z rfl hn
    obtain ⟨rfl,rfl⟩:cd=gn/\cc=bv:=by simp at bt;exact ⟨bt.1.symm,bt.2.symm⟩
    have aj:aD a d=true:=kJ H I (a,d) (List.mem_of_getElem? hn)
    have bh:(aG H I).drop m=(a,d) :: (aG H I).drop (m+1):=by
     obtain ⟨h1,v⟩:=List.getElem?_eq_some_iff.1 hn
     rw [List.drop_eq_getElem_cons h1,v]
    have HD:=aA bh
    clear bh hn bt
    obtain ⟨⟨zx,zy⟩,hz⟩:∃ c,(D.g (a,d)).getD (0,0)=c:=⟨_,rfl⟩
    obtain ⟨kn,cj⟩:∃ b,(D.g (a,d)).isSome=b:=⟨_,rfl⟩
    have fd:∀ o,(Instr.lookup 206 (.map (some B)) (cv a d) true).run Tryz.prog (wr.alloc o)=.ok (.tuple #[cv zx zy,.bool kn]) (wr.alloc o):=fun o=>by
     have h:=(N.fr ((Fr.refl [] wr).alloc o) (by simp)).look _ _ Tryz.underlying206 _ (pL _) a d
     rw [h]
     unfold fT
     rw [<- cj]
     cases hg:D.g (a,d) with
     | none=>rw [hg] at hz;simp at hz;obtain ⟨rfl,rfl⟩:=hz;simp
     | some c=>rw [hg] at hz;simp at hz;subst hz;simp
    have HK:=aA cj
    clear hz cj
    cases kn
    ·go_wp2_with fail
     have de:=((Fr.refl [] wr).alloc (.cells #[ii a,ii d] 159)).alloc (.cells #[ii zx,ii zy] 159)
     refine (qS tb hb held bd a d _ (hv.fr (az.then0 de) (by simp;omega) (by simp;omega)) aj).mono ?_
     rintro e K ⟨rfl,dd⟩
     rw [HF.o a d]
     have J:=de.then0 dd
     have bz:=az.then0 J
     have al:=dd.heap0 (dD wr _ _)
     have e0:K.cell? ⟨wr.heap.size,0,none⟩=some (ii a):=aB al
     have e1:K.cell? ⟨wr.heap.size,1,none⟩=some (ii d):=aB al
     have eq:=aH al
     have ey:=J.size
     have m0:w.heap.size < K.heap.size:=by omega
     have m2:w.heap.size+1+1 < K.heap.size:=by omega
     have a3:K.cell? ⟨w.heap.size,0,none⟩=some (.map (some B)):=by rw [J.cell _ _ l0 (by simp)];exact a2
     have fm:K.cell? ⟨V,k*2,none⟩=some (ii H):=by rw [J.cell _ _ bm (by simp)];exact p0
     have fn:K.cell? ⟨V,k*2+1,none⟩=some (ii I):=by rw [J.cell _ _ bm (by simp)];exact p1
     have dw:V < K.heap.size:=by omega
     have HT:=aA al
     clear al
     obtain ⟨fb,cg⟩:∃ b,F (a,d)=b:=⟨_,rfl⟩
     rw [cg]
     have bf:=aA cg
     clear cg
     cases fb
     ·go_wp2_with fail
      go_roundw
      case rel =>
       refine ⟨m+1,D,by go_num,ai,bg.o,?_,br.o,bW C J (by simp),?_,N.fr J (by simp),aa.then0 J,bW z J (by simp)⟩
       ·rw [<- an.o,HD.o,bF,HK.o,bf.o];simp
       intro b' t;simp [Value.ownBlock] at t;omega
      case measure=>simp [intOf];omega
     by_cases bu:0 < k
     ·obtain ⟨⟨f1,f2⟩,am⟩:∃ c,(D.g (H,I)).getD (0,0)=c:=⟨_,rfl⟩
      have HZ:=(show Hi _ from am)
      have er:∀ o,(Instr.lookup 206 (.map (some B)) (cv H I) false).run Tryz.prog (K.alloc o).drew=.ok (cv f1 f2) (K.alloc o).drew:=fun o=>by
       have h:=(N.fr (((J).alloc o).drew) (by simp)).look1 _ _ Tryz.underlying206 _ (pL _) H I
       rw [h]
       unfold fT
       cases hg:D.g (H,I) with
       | none=>rw [hg] at am;simp at am;obtain ⟨rfl,rfl⟩:=am;simp
       | some c=>rw [hg] at am;simp at am;subst am;simp
      clear am
      go_wp2_with fail
      go_region
      go_wp2_with fail
      obtain ⟨ek,el,em,en⟩:=bM.1 aj
      obtain ⟨eg,eh,ei,ej⟩:=bM.1 dg
      have ac:(K.alloc (.cells #[ii f1,ii f2] 159)).drew.heap[K.heap.size]?=some (.cells #[ii f1,ii f2] 159):=aC K _
      have bk:Fr [] K (K.alloc (.cells #[ii f1,ii f2] 159)).drew:=((Fr.refl _ _).alloc _).drew
      refine (lX gx gy a d _ (cn.fr (bz.then0 bk) (by simp;omega)) (by omega) (by omega) (by omega) (by omega) (by omega) (by omega) (by omega) (by omega)).mono ?_
      rintro e w5 ⟨rfl,bj⟩
      rw [HE.o a d]
      have bl:=bk.then0 bj
      have u:=J.then0 bl
      have n:=bj.heap0 ac
      have t0:w5.cell? ⟨K.heap.size,0,none⟩=some (ii f1):=aB n
      have t1:w5.cell? ⟨K.heap.size,1,none⟩=some (ii f2):=aB n
      have dl:=aH n
      have f:=bl.heap0 HT.o
      have s0:w5.cell? ⟨wr.heap.size,0,none⟩=some (ii a):=aB f
      have s1:w5.cell? ⟨wr.heap.size,1,none⟩=some (ii d):=aB f
      have M:=aH f
      have a5:w5.cell? ⟨w.heap.size,0,none⟩=some (.map (some B)):=by rw [u.cell _ _ l0 (by simp)];exact a2
      have ao:=u.heap0 cz.o
      have dx:=aH ao
      have ef:w.heap.size < w5.heap.size:=by omega
      have cr:=(show Hi _ from n)
      have cq:=(show Hi _ from f)
      have bc:=aA ao
      clear ac n f ao
      have Zr:=bW C u (by simp)
      have ab:=bW z u (by simp)
      have af:=N.fr u (by simp)
      have bi:=aa.then0 u
      obtain ⟨eb,aq⟩:∃ b,E (a,d)=b:=⟨_,rfl⟩
      rw [aq]
      have be:=aA aq
      clear aq
      cases eb
      ·obtain ⟨Q,ed,bo,L,dn⟩:=kB af 206 159 Tryz.underlying206 a d (cv f1 f2)
       have au:=bW Zr L (by intro q hq;simp [Value.ownBlock] at hq;simp;omega)
       have A:=bW ab L (by intro q hq;simp [Value.ownBlock] at hq;simp;omega)
       have r0:Q.cell? ⟨wr.heap.size,0,none⟩=some (ii a):=by rw [L.cell _ _ M (by simp;omega)];exact s0
       have r1:Q.cell? ⟨wr.heap.size,1,none⟩=some (ii d):=by rw [L.cell _ _ M (by simp;omega)];exact s1
       have ck:wr.heap.size < Q.heap.size:=by omega
       have co:w.heap.size+1+1+1<=Q.heap.size:=by omega
       have ch:cd < Q.heap.size:=by
        obtain ⟨_,v⟩:=A
        rcases v with ⟨v,_⟩|⟨g,c,cur,v,_,h3,_⟩
        ·simp at v
        simp at v;rw [v.1];exact aH h3
       go_wp2_with (first
        | (at_builtin;refine wpList_append_own_at _ rfl _ _ 269 rfl (w.heap.size+1+1+1) 159 dr (cv 0 0) 2 16 Tryz.underlying269 hi Zt dp dq rfl (by decide) (.slice (some ⟨V,0,none⟩) D.q.length S) _ _ rfl (bW au ((Fr.refl [] Q).alloc _) (by simp)) ⟨Q.heap.size,0,none⟩ 1 1 [ii a,ii d] rfl rfl (jP Q [ii a,ii d] _ _ rfl) (by simp [Value.oneCell']) (by unfold maxLen;omega) (by omega) (by simp;omega) ?_;intro v' w7 av p cm ar)
        | fail)
       go_roundw
       case rel =>
        have hbase:∀ q,(Value.slice (some ⟨V,0,none⟩) D.q.length S).ownBlock=some q->q∈[B]\/W3.heap.size<=q:=by
         intro q hq;simp [Value.ownBlock] at hq;right;omega
        refine ⟨m+1,⟨D.q ++ [(a,d)],fun q=>if q=(a,d) then some (f1,f2) else D.g q⟩,by go_num,ai,bg.o.add (a,d) (f1,f2) HK.o aj,?_,?_,?_,?_,?_,?_,?_⟩
        ·rw [<- an.o,HD.o,bF,HK.o,bf.o,be.o];simp [bu,HZ.o]
        ·simp only
         rw [List.getElem?_append_left dj];exact br.o
        ·simpa [eJ] using av
        ·intro b' t
         rcases ar with h|h
         ·rw [h] at t;simp [Value.ownBlock] at t;omega
         rw [h] at t;simp at t;omega
        ·have:=bo.fr ((Fr.refl [] Q).alloc (.cells #[ii a,ii d] 159)) (by simp)
         rw [nT]
         obtain ⟨l,es,clock,X,r2⟩:=this
         refine ⟨l,es,clock,?_,r2⟩
         rw [p.block B (by simp;omega) (by simp [Value.ownBlock];omega)]
         exact X
        ·exact ((bi.trans L (by simp)).alloc _).grown p hbase
        obtain ⟨h1,v⟩:=bW A ((Fr.refl [] Q).alloc (.cells #[ii a,ii d] 159)) (by simp)
        refine ⟨h1,?_⟩
        rcases v with ⟨v,_⟩|⟨g,c,cur,v,h3,h4,h5⟩
        ·simp at v
        refine Or.inr ⟨g,c,cur,v,h3,?_,h5⟩
        simp at v
        rw [p.block g (aH h4) (by simp [Value.ownBlock];omega)]
        exact h4
       case measure=>simp [intOf];omega
      go_wp2_with (refine wpList_store_row rfl 159 _ _ rfl (w.heap.size+1+1) #[ii f1,ii f2] rfl rfl 159 _ bc.o gI rfl (lK _ _) ?_)
      have ak:=setRow_heap _ _ _ #[ii f1,ii f2] _ _ bc.o
      have du:Fr [] w5 w5:=Fr.refl _ _
      have ag:MapF (w5.setRow (w.heap.size+1+1) #[ii f1,ii f2]) B (fT D.g):=by
       obtain ⟨l,es,clock,X,r2⟩:=af
       exact ⟨l,es,clock,by rw [setRow_other _ _ _ _ (by omega)];exact X,r2⟩
      obtain ⟨w8,ad,ah,ae⟩:=kX ag 206 0 159 #[false] Tryz.underlying206
      have bq:R=(f1,f2):=by
       rw [<- HO.o]
       refine nM (by omega) HC.o ?_
       rw [aw.o,<- an.o,HD.o,bF,HK.o,bf.o,be.o]
       simp [bu,HZ.o]
      rw [bq]
      refine ⟨_,_,_,_,_,_,w8,rfl,ad,_,results_cell_row Tryz.results220 _ _ (w.heap.size+1+1) 159 _ (0,0) _ rfl (ae.heap ak (by simp;omega)) Tryz.underlying159 rfl gI,rfl,?_,ah⟩
      exact ((az.then0 u).setRow _ _ (Or.inr (by omega))).trans ae (by simp)
     go_wp2_with fail
     obtain ⟨ek,el,em,en⟩:=bM.1 aj
     obtain ⟨eg,eh,ei,ej⟩:=bM.1 dg
     have ac:(K.alloc (.cells #[ii a,ii d] 159)).heap[K.heap.size]?=some (.cells #[ii a,ii d] 159):=aC K _
     have bk:Fr [] K (K.alloc (.cells #[ii a,ii d] 159)):=(Fr.refl _ _).alloc _
     refine (lX gx gy a d _ (cn.fr (bz.then0 bk) (by simp;omega)) (by omega) (by omega) (by omega) (by omega) (by omega) (by omega) (by omega) (by omega)).mono ?_
     rintro e w5 ⟨rfl,bj⟩
     rw [HE.o a d]
     have bl:=bk.then0 bj
     have u:=J.then0 bl
     have n:=bj.heap0 ac
     have t0:w5.cell? ⟨K.heap.size,0,none⟩=some (ii a):=aB n
     have t1:w5.cell? ⟨K.heap.size,1,none⟩=some (ii d):=aB n
     have dl:=aH n
     have f:=bl.heap0 HT.o
     have s0:w5.cell? ⟨wr.heap.size,0,none⟩=some (ii a):=aB f
     have s1:w5.cell? ⟨wr.heap.size,1,none⟩=some (ii d):=aB f
     have M:=aH f
     have a5:w5.cell? ⟨w.heap.size,0,none⟩=some (.map (some B)):=by rw [u.cell _ _ l0 (by simp)];exact a2
     have ao:=u.heap0 cz.o
     have dx:=aH ao
     have ef:w.heap.size < w5.heap.size:=by omega
     have cr:=(show Hi _ from n)
     have cq:=(show Hi _ from f)
     have bc:=aA ao
     clear ac n f ao
     have Zr:=bW C u (by simp)
     have ab:=bW z u (by simp)
     have af:=N.fr u (by simp)
     have bi:=aa.then0 u
     obtain ⟨eb,aq⟩:∃ b,E (a,d)=b:=⟨_,rfl⟩
     rw [aq]
     have be:=aA aq
     clear aq
     cases eb
     ·obtain ⟨Q,ed,bo,L,dn⟩:=kB af 206 159 Tryz.underlying206 a d (cv a d)
      have au:=bW Zr L (by intro q hq;simp [Value.ownBlock] at hq;simp;omega)
      have A:=bW ab L (by intro q hq;simp [Value.ownBlock] at hq;simp;omega)
      have r0:Q.cell? ⟨wr.heap.size,0,none⟩=some (ii a):=by rw [L.cell _ _ M (by simp;omega)];exact s0
      have r1:Q.cell? ⟨wr.heap.size,1,none⟩=some (ii d):=by rw [L.cell _ _ M (by simp;omega)];exact s1
      have ck:wr.heap.size < Q.heap.size:=by omega
      have co:w.heap.size+1+1+1<=Q.heap.size:=by omega
      have ch:cd < Q.heap.size:=by
       obtain ⟨_,v⟩:=A
       rcases v with ⟨v,_⟩|⟨g,c,cur,v,_,h3,_⟩
       ·simp at v
       simp at v;rw [v.1];exact aH h3
      go_wp2_with (first
       | (at_builtin;refine wpList_append_own_at _ rfl _ _ 269 rfl (w.heap.size+1+1+1) 159 dr (cv 0 0) 2 16 Tryz.underlying269 hi Zt dp dq rfl (by decide) (.slice (some ⟨V,0,none⟩) D.q.length S) _ _ rfl (bW au ((Fr.refl [] Q).alloc _) (by simp)) ⟨Q.heap.size,0,none⟩ 1 1 [ii a,ii d] rfl rfl (jP Q [ii a,ii d] _ _ rfl) (by simp [Value.oneCell']) (by unfold maxLen;omega) (by omega) (by simp;omega) ?_;intro v' w7 av p cm ar)
       | fail)
      go_roundw
      case rel =>
       have hbase:∀ q,(Value.slice (some ⟨V,0,none⟩) D.q.length S).ownBlock=some q->q∈[B]\/W3.heap.size<=q:=by
        intro q hq;simp [Value.ownBlock] at hq;right;omega
       refine ⟨m+1,⟨D.q ++ [(a,d)],fun q=>if q=(a,d) then some (a,d) else D.g q⟩,by go_num,ai,bg.o.add (a,d) (a,d) HK.o aj,?_,?_,?_,?_,?_,?_,?_⟩
       ·rw [<- an.o,HD.o,bF,HK.o,bf.o,be.o];simp [bu]
       ·simp only
        rw [List.getElem?_append_left dj];exact br.o
       ·simpa [eJ] using av
       ·intro b' t
        rcases ar with h|h
        ·rw [h] at t;simp [Value.ownBlock] at t;omega
        rw [h] at t;simp at t;omega
       ·have:=bo.fr ((Fr.refl [] Q).alloc (.cells #[ii a,ii d] 159)) (by simp)
        rw [nT]
        obtain ⟨l,es,clock,X,r2⟩:=this
        refine ⟨l,es,clock,?_,r2⟩
        rw [p.block B (by simp;omega) (by simp [Value.ownBlock];omega)]
        exact X
       ·exact ((bi.trans L (by simp)).alloc _).grown p hbase
       obtain ⟨h1,v⟩:=bW A ((Fr.refl [] Q).alloc (.cells #[ii a,ii d] 159)) (by simp)
       refine ⟨h1,?_⟩
       rcases v with ⟨v,_⟩|⟨g,c,cur,v,h3,h4,h5⟩
       ·simp at v
       refine Or.inr ⟨g,c,cur,v,h3,?_,h5⟩
       simp at v
       rw [p.block g (aH h4) (by simp [Value.ownBlock];omega)]
       exact h4
      case measure=>simp [intOf];omega
     go_wp2_with (refine wpList_store_row rfl 159 _ _ rfl (w.heap.size+1+1) #[ii a,ii d] rfl rfl 159 _ bc.o gI rfl (lK _ _) ?_)
     have ak:=setRow_heap _ _ _ #[ii a,ii d] _ _ bc.o
     have du:Fr [] w5 w5:=Fr.refl _ _
     have ag:MapF (w5.setRow (w.heap.size+1+1) #[ii a,ii d]) B (fT D.g):=by
      obtain ⟨l,es,clock,X,r2⟩:=af
      exact ⟨l,es,clock,by rw [setRow_other _ _ _ _ (by omega)];exact X,r2⟩
     obtain ⟨w8,ad,ah,ae⟩:=kX ag 206 0 159 #[false] Tryz.underlying206
     have bq:R=(a,d):=by
      rw [<- HO.o]
      refine nM (by omega) HC.o ?_
      rw [aw.o,<- an.o,HD.o,bF,HK.o,bf.o,be.o]
      simp [bu]
     rw [bq]
     refine ⟨_,_,_,_,_,_,w8,rfl,ad,_,results_cell_row Tryz.results220 _ _ (w.heap.size+1+1) 159 _ (0,0) _ rfl (ae.heap ak (by simp;omega)) Tryz.underlying159 rfl gI,rfl,?_,ah⟩
     exact ((az.then0 u).setRow _ _ (Or.inr (by omega))).trans ae (by simp)
    go_wp2_with fail
    go_roundw
    case rel =>
     refine ⟨m+1,D,by go_num,ai,bg.o,?_,br.o,bW C (((Fr.refl [] wr).alloc _).alloc _) (by simp),?_,N.fr (((Fr.refl [] wr).alloc _).alloc _) (by simp),(aa.alloc _).alloc _,bW z (((Fr.refl [] wr).alloc _).alloc _) (by simp)⟩
     ·rw [<- an.o,HD.o,bF,HK.o];simp
     intro b' t;simp [Value.ownBlock] at t;omega
    case measure=>simp [intOf];omega
   have db:(aG H I).drop m=[]:=by rw [List.drop_eq_nil_iff];omega
   have Zs:bs=.inr D:=by rw [<- an.o,db,bF]
   have cp:=aA Zs
   clear db Zs
   go_wp2_with fail
   go_roundw
   case rel =>
    refine ⟨k+1,D,by go_num,by omega,bg.o,?_,C,N,aa⟩
    rw [<- HO.o]
    exact (tS (by omega) HC.o (by rw [aw.o,cp.o])).symm
   case measure=>simp [intOf];omega
 have dk:k=s.q.length:=by omega
 have dt:Hi (R=(O,P)):=by show R=_;rw [<- HO.o];exact tQ dk
 obtain ⟨gr,cs,bp,dv,dh⟩:=mY hown ec
 subst bp
 clear dk
 go_wp2_with (refine wpList_store_row rfl 159 _ _ rfl (w.heap.size+1+1) #[ii O,ii P] rfl rfl 159 _ cw.o gI rfl (lK _ _) ?_)
 have ak:=setRow_heap _ _ _ #[ii O,ii P] _ _ cw.o
 have ag:MapF (wo.setRow (w.heap.size+1+1) #[ii O,ii P]) B (fT s.g):=by
  obtain ⟨l,es,clock,X,r2⟩:=dm
  exact ⟨l,es,clock,by rw [setRow_other _ _ _ _ (by omega)];exact X,r2⟩
 obtain ⟨w8,ad,ah,ae⟩:=kX ag 206 0 159 #[false] Tryz.underlying206
 rw [dt.o]
 refine ⟨_,_,_,_,_,_,w8,rfl,ad,_,results_cell_row Tryz.results220 _ _ (w.heap.size+1+1) 159 _ (0,0) _ rfl (ae.heap ak (by simp;omega)) Tryz.underlying159 rfl gI,rfl,?_,ah⟩
 exact (df.setRow _ _ (Or.inr (by omega))).trans ae (by simp)
theorem SO (tb hb v eb:Nat) (held:Int×Int->Option Value) (bd:Nat->Int) (O P gx gy:Int) (w:World) (ed:Sd w) (hv:TV w tb hb held bd) (hm:MapF w v (fun _=>none)) (el:v≠0) (em:tb≠v) (en:hb≠v)
  (ea:aD O P=true) (be:w.cell? ⟨eb,0,none⟩=some (ii gx)) (dh:w.cell? ⟨eb,1,none⟩=some (ii gy)) (eo:eb≠v) :
  Calls Tryz.prog 220 #[.agg #[.map (some v)],cv O P,.func (.func 199) #[.pointer (some ⟨tb,0,none⟩)] #[],.func (.func 203) #[] #[.pointer (some ⟨eb,0,none⟩)]] w fun e w' =>
    e=.returned (cv (cQ (fun c=>bX held bd c.1 c.2) (fun c=>c.1==gx&&c.2==gy) (O,P)).1 (cQ (fun c=>bX held bd c.1 c.2) (fun c=>c.1==gx&&c.2==gy) (O,P)).2)/\Fr [v] w w'/\MapF w' v (fun _=>none):=by
 obtain ⟨R,hR⟩:∃ R,cQ (fun c=>bX held bd c.1 c.2) (fun c=>c.1==gx&&c.2==gy) (O,P)=R:=⟨_,rfl⟩
 rw [hR]
 obtain ⟨dr,hi,Zt,dp,dq⟩:=info_parts qZ
 have eu:=hm.lt
 refine uJ Tryz.func220 rfl ?_
 simp only [Tryz.ntmps220,List.size_toArray,List.length_cons,List.length_nil,Nat.reduceAdd,Nat.reduceSub,Array.replicate_succ,
   Array.replicate_zero,List.push_toArray,List.append_toArray,List.nil_append,List.cons_append]
 obtain ⟨W3,ao⟩:∃ W,W=((w.alloc (.cells #[.map (some v)] 208)).alloc (.cells #[ii O,ii P] 159)).alloc (.cells #[ii 0,ii 0] 159):=⟨_,rfl⟩
 have fa:W3.heap.size=w.heap.size+1+1+1:=by rw [ao];simp
 have dc:Fr [v] w W3:=by rw [ao];exact (((Fr.refl _ _).alloc _).alloc _).alloc _
 have hA:W3.heap[w.heap.size]?=some (.cells #[.map (some v)] 208):=by rw [ao,fD _ _ _ (by simp;omega),dD]
 have hB:W3.heap[w.heap.size+1]?=some (.cells #[ii O,ii P] 159):=by rw [ao,fD _ _ _ (by simp),cR]
 have hC:W3.heap[w.heap.size+1+1]?=some (.cells #[ii 0,ii 0] 159):=by rw [ao,iI]
 have HW:=aA ao
 clear ao
 obtain ⟨F,hF⟩:∃ F:Cl->Bool,∀ x y,bX held bd x y=F (x,y):=⟨fun c=>bX held bd c.1 c.2,fun _ _=>rfl⟩
 obtain ⟨E,hE⟩:∃ E:Cl->Bool,∀ x y,(x==gx&&y==gy)=E (x,y):=⟨fun c=>c.1==gx&&c.2==gy,fun _ _=>rfl⟩
 have HR:Hi (cY F E (O,P) 146 0 ⟨[(O,P)],fun _=>none⟩=R):=by
  rw [<- hR];unfold cQ
  rw [show F=(fun c:Cl=>bX held bd c.1 c.2) from funext fun c=>(hF c.1 c.2).symm,show E=(fun c:Cl=>c.1==gx&&c.2==gy) from funext fun c=>(hE c.1 c.2).symm]
  rfl
 have HF:=aA hF
 have HE:=aA hE
 clear hR hF hE
 go_wp2_with fail
 go_loopw [9,10] (fun r i wr=>∃ (k:Nat) (s:Bs),i=.int .i64 k/\k<=s.q.length/\BInv (O,P) s/\cY F E (O,P) (146 - k) k s=R/\wr.ownsRow (w.heap.size+1+1+1) 159 2 r s.q.length (eJ s.q)/\MapF wr v (fT s.g)/\Fr [v] W3 wr) (fun _ i _=>146 - (intOf i).toNat)
 case atStart =>
  refine ⟨0,⟨[(O,P)],fun _=>none⟩,rfl,by simp,BInv.start _,HR.o,⟨rfl,Or.inr ⟨_,1,#[ii O,ii P],rfl,Nat.le_refl _,vX _ _ _ _ _,by simp,by decide,rfl,rfl⟩⟩,?_,?_⟩
  · exact hm.fr ((((((Fr.refl [] w).alloc _).alloc _).alloc _).alloc _)) (by simp)
  rw [HW.o];exact (Fr.refl _ _).alloc _
 obtain ⟨wo,ef⟩:∃ x,x=wr:=⟨_,rfl⟩
 subst ef
 obtain ⟨k,s,rfl,hk,bc,cc,hown,dm,hf⟩:=hrel
 have ez:=bc.len
 have ec:0 < s.q.length:=by obtain ⟨l,h1,_⟩:=bc.q;rw [h1];simp
 have HO:=(show Hi (cY F E (O,P) (146 - k) k s=R) from cc)
 clear cc
 have df:=dc.trans hf (by simp)
 have ct:=hf.heap hA (by simp;omega)
 have cf:=hf.heap hB (by simp;omega)
 have cu:=hf.heap hC (by simp;omega)
 have a0:wo.cell? ⟨w.heap.size,0,none⟩=some (.map (some v)):=aB ct
 have b0:wo.cell? ⟨w.heap.size+1,0,none⟩=some (ii O):=aB cf
 have b1:wo.cell? ⟨w.heap.size+1,1,none⟩=some (ii P):=aB cf
 have cw:=aA cu
 clear ct cf cu
 have et:w.heap.size+1+1+1<=wo.heap.size:=by have:=hf.size;omega
 have l0:w.heap.size < wo.heap.size:=by omega
 have l1:w.heap.size+1 < wo.heap.size:=by omega
 have l2:w.heap.size+1+1 < wo.heap.size:=by omega
 by_cases dy:k < s.q.length
 · obtain ⟨⟨H,I⟩,ay⟩:∃ c,s.q[k]?=some c:=⟨s.q[k],List.getElem?_eq_getElem dy⟩
   obtain ⟨gr,cs,br,dv,q0,q1⟩:=kQ hown rfl ay
   subst br
   have dg:=aI q0
   have bz:aD H I=true:=bc.on ea (H,I) (List.mem_of_getElem? ay)
   obtain ⟨fc,fd,fe,ff⟩:=bM.1 bz
   have HC:=aA ay
   have HI:=(show Hi (BInv (O,P) s) from bc)
   clear ay
   go_wp2_with fail
   refine (rJ H I _ (ed.fr df (by simp;omega)) (by omega) (by omega) (by omega) (by omega)).mono ?_
   rintro e w1 ⟨nv,rfl,cg,Zq⟩
   obtain ⟨gn,bx,dz,ev,eh⟩:=mY Zq (rI H I bz)
   subst dz
   have ey:=rH H I
   obtain ⟨bu,Zs⟩:∃ bu,bF F E k (H,I) (aG H I) s=bu:=⟨_,rfl⟩
   have aw:=aA Zs
   clear Zs
   have ds:=Zq
   go_wp2_with fail
   go_loopw [9,32] (fun r j w2=>∃ (m:Nat) (D:Bs),j=.int .i64 m/\m<=(aG H I).length/\BInv (O,P) D/\bF F E k (H,I) ((aG H I).drop m) D=bu/\D.q[k]?=some (H,I)/\w2.ownsRow (w.heap.size+1+1+1) 159 2 r D.q.length (eJ D.q) /\
    (∀ b',r.ownBlock=some b'->b'≠gn)/\MapF w2 v (fT D.g)/\Fr [v] W3 w2/\w2.ownsRow (wo.heap.size+1) 159 2 (.slice (some ⟨gn,0,none⟩) (aG H I).length bx) (aG H I).length (eJ (aG H I))) (fun _ j _=>4 - (intOf j).toNat)
   case atStart =>
    refine ⟨0,s,rfl,Nat.zero_le _,HI.o,aw.o,HC.o,bW hown cg (by simp),?_,dm.fr cg (by simp),hf.then0 cg,Zq⟩
    intro b' t
    simp [Value.ownBlock] at t
    omega
   obtain ⟨m,D,rfl,ex,bo,di,Y,C,ax,N,aa,A⟩:=hrel
   have ep:=bo.len
   have dj:k < D.q.length:=(List.getElem?_eq_some_iff.1 Y).1
   obtain ⟨V,S,br,ei,p0,p1⟩:=kQ C rfl Y
   subst br
   have bn:=aI p0
   have da:V≠gn:=ax V rfl
   have az:=dc.trans aa (by simp)
   have a2:wr.cell? ⟨w.heap.size,0,none⟩=some (.map (some v)):=aB (aa.heap hA (by simp;omega))
   have cz:=(show Hi _ from aa.heap hC (by simp;omega))
   have eq:w.heap.size+1+1+1<=wr.heap.size:=by have:=aa.size;omega
   have l0:w.heap.size < wr.heap.size:=by omega
   have l1:w.heap.size+1 < wr.heap.size:=by omega
   have l2:w.heap.size+1+1 < wr.heap.size:=by omega
   have am:=aA di
   have bi:=aA bo
   have bt:=aA Y
   clear di Y ax
   by_cases ai:m < (aG H I).length
   ·obtain ⟨⟨a,d⟩,hn⟩:∃ c,(aG H I)[m]?=some c:=⟨(aG H I)[m],List.getElem?_eq_getElem ai⟩
    obtain ⟨ce,cd,bv,_,n0,n1⟩:=kQ A rfl hn
    obtain ⟨rfl,rfl⟩:ce=gn/\cd=bx:=by simp at bv;exact ⟨bv.1.symm,bv.2.symm⟩
    have bq:aD a d=true:=kJ H I (a,d) (List.mem_of_getElem? hn)
    have bj:(aG H I).drop m=(a,d) :: (aG H I).drop (m+1):=by
     obtain ⟨h1,z⟩:=List.getElem?_eq_some_iff.1 hn
     rw [List.drop_eq_getElem_cons h1,z]
    have HD:=aA bj
    clear bj hn bv
    obtain ⟨⟨zx,zy⟩,hz⟩:∃ c,(D.g (a,d)).getD (0,0)=c:=⟨_,rfl⟩
    obtain ⟨kn,ck⟩:∃ b,(D.g (a,d)).isSome=b:=⟨_,rfl⟩
    have ew:∀ o,(Instr.lookup 206 (.map (some v)) (cv a d) true).run Tryz.prog (wr.alloc o)=.ok (.tuple #[cv zx zy,.bool kn]) (wr.alloc o):=fun o=>by
     have h:=(N.fr ((Fr.refl [] wr).alloc o) (by simp)).look _ _ Tryz.underlying206 _ (pL _) a d
     rw [h]
     unfold fT
     rw [<- ck]
     cases hg:D.g (a,d) with
     | none=>rw [hg] at hz;simp at hz;obtain ⟨rfl,rfl⟩:=hz;simp
     | some c=>rw [hg] at hz;simp at hz;subst hz;simp
    have HK:=aA ck
    clear hz ck
    cases kn
    ·go_wp2_with fail
     have de:=((Fr.refl [] wr).alloc (.cells #[ii a,ii d] 159)).alloc (.cells #[ii zx,ii zy] 159)
     refine (qS tb hb held bd a d _ (hv.fr (az.then0 de) (by simp;omega) (by simp;omega)) bq).mono ?_
     rintro e K ⟨rfl,dd⟩
     rw [HF.o a d]
     have J:=de.then0 dd
     have ba:=az.then0 J
     have ak:=dd.heap0 (dD wr _ _)
     have e0:K.cell? ⟨wr.heap.size,0,none⟩=some (ii a):=aB ak
     have e1:K.cell? ⟨wr.heap.size,1,none⟩=some (ii d):=aB ak
     have ej:=aH ak
     have er:=J.size
     have m0:w.heap.size < K.heap.size:=by omega
     have m2:w.heap.size+1+1 < K.heap.size:=by omega
     have a3:K.cell? ⟨w.heap.size,0,none⟩=some (.map (some v)):=by rw [J.cell _ _ l0 (by simp)];exact a2
     have fg:K.cell? ⟨V,k*2,none⟩=some (ii H):=by rw [J.cell _ _ bn (by simp)];exact p0
     have fh:K.cell? ⟨V,k*2+1,none⟩=some (ii I):=by rw [J.cell _ _ bn (by simp)];exact p1
     have dw:V < K.heap.size:=by omega
     have HT:=aA ak
     clear ak
     obtain ⟨fb,ch⟩:∃ b,F (a,d)=b:=⟨_,rfl⟩
     rw [ch]
     have bh:=aA ch
     clear ch
     cases fb
     ·go_wp2_with fail
      go_roundw
      case rel =>
       refine ⟨m+1,D,by go_num,ai,bi.o,?_,bt.o,bW C J (by simp),?_,N.fr J (by simp),aa.then0 J,bW A J (by simp)⟩
       ·rw [<- am.o,HD.o,bF,HK.o,bh.o];simp
       intro b' t;simp [Value.ownBlock] at t;omega
      case measure=>simp [intOf];omega
     by_cases bw:0 < k
     ·obtain ⟨⟨f1,f2⟩,al⟩:∃ c,(D.g (H,I)).getD (0,0)=c:=⟨_,rfl⟩
      have HZ:=(show Hi _ from al)
      have ek:∀ o,(Instr.lookup 206 (.map (some v)) (cv H I) false).run Tryz.prog (K.alloc o).drew=.ok (cv f1 f2) (K.alloc o).drew:=fun o=>by
       have h:=(N.fr (((J).alloc o).drew) (by simp)).look1 _ _ Tryz.underlying206 _ (pL _) H I
       rw [h]
       unfold fT
       cases hg:D.g (H,I) with
       | none=>rw [hg] at al;simp at al;obtain ⟨rfl,rfl⟩:=al;simp
       | some c=>rw [hg] at al;simp at al;subst al;simp
      clear al
      go_wp2_with fail
      go_region
      go_wp2_with fail
      have ac:(K.alloc (.cells #[ii f1,ii f2] 159)).drew.heap[K.heap.size]?=some (.cells #[ii f1,ii f2] 159):=aC K _
      have aq:Fr [] K (K.alloc (.cells #[ii f1,ii f2] 159)).drew:=((Fr.refl _ _).alloc _).drew
      refine (vT a d gx gy eb _ (((ba.then0 aq).cell eb 0 (aI be) (by simp;omega)).trans be) (((ba.then0 aq).cell eb 1 (aI be) (by simp;omega)).trans dh)).mono ?_
      rintro e w5 ⟨rfl,bl⟩
      rw [HE.o a d]
      have bm:=aq.then0 bl
      have u:=J.then0 bm
      have n:=bl.heap0 ac
      have t0:w5.cell? ⟨K.heap.size,0,none⟩=some (ii f1):=aB n
      have t1:w5.cell? ⟨K.heap.size,1,none⟩=some (ii f2):=aB n
      have dl:=aH n
      have f:=bm.heap0 HT.o
      have s0:w5.cell? ⟨wr.heap.size,0,none⟩=some (ii a):=aB f
      have s1:w5.cell? ⟨wr.heap.size,1,none⟩=some (ii d):=aB f
      have M:=aH f
      have a5:w5.cell? ⟨w.heap.size,0,none⟩=some (.map (some v)):=by rw [u.cell _ _ l0 (by simp)];exact a2
      have an:=u.heap0 cz.o
      have dx:=aH an
      have eg:w.heap.size < w5.heap.size:=by omega
      have cr:=(show Hi _ from n)
      have cq:=(show Hi _ from f)
      have bf:=aA an
      clear ac n f an
      have Zr:=bW C u (by simp)
      have ab:=bW A u (by simp)
      have af:=N.fr u (by simp)
      have bk:=aa.then0 u
      obtain ⟨eb,ap⟩:∃ b,E (a,d)=b:=⟨_,rfl⟩
      rw [ap]
      have bg:=aA ap
      clear ap
      cases eb
      ·obtain ⟨Q,ee,bp,L,dn⟩:=kB af 206 159 Tryz.underlying206 a d (cv f1 f2)
       have au:=bW Zr L (by intro q hq;simp [Value.ownBlock] at hq;simp;omega)
       have B:=bW ab L (by intro q hq;simp [Value.ownBlock] at hq;simp;omega)
       have r0:Q.cell? ⟨wr.heap.size,0,none⟩=some (ii a):=by rw [L.cell _ _ M (by simp;omega)];exact s0
       have r1:Q.cell? ⟨wr.heap.size,1,none⟩=some (ii d):=by rw [L.cell _ _ M (by simp;omega)];exact s1
       have cm:wr.heap.size < Q.heap.size:=by omega
       have co:w.heap.size+1+1+1<=Q.heap.size:=by omega
       have cj:ce < Q.heap.size:=by
        obtain ⟨_,z⟩:=B
        rcases z with ⟨z,_⟩|⟨g,c,cur,z,_,h3,_⟩
        ·simp at z
        simp at z;rw [z.1];exact aH h3
       go_wp2_with (first
        | (at_builtin;refine wpList_append_own_at _ rfl _ _ 269 rfl (w.heap.size+1+1+1) 159 dr (cv 0 0) 2 16 Tryz.underlying269 hi Zt dp dq rfl (by decide) (.slice (some ⟨V,0,none⟩) D.q.length S) _ _ rfl (bW au ((Fr.refl [] Q).alloc _) (by simp)) ⟨Q.heap.size,0,none⟩ 1 1 [ii a,ii d] rfl rfl (jP Q [ii a,ii d] _ _ rfl) (by simp [Value.oneCell']) (by unfold maxLen;omega) (by omega) (by simp;omega) ?_;intro v' w7 av p cn ar)
        | fail)
       go_roundw
       case rel =>
        have hbase:∀ q,(Value.slice (some ⟨V,0,none⟩) D.q.length S).ownBlock=some q->q∈[v]\/W3.heap.size<=q:=by
         intro q hq;simp [Value.ownBlock] at hq;right;omega
        refine ⟨m+1,⟨D.q ++ [(a,d)],fun q=>if q=(a,d) then some (f1,f2) else D.g q⟩,by go_num,ai,bi.o.add (a,d) (f1,f2) HK.o bq,?_,?_,?_,?_,?_,?_,?_⟩
        ·rw [<- am.o,HD.o,bF,HK.o,bh.o,bg.o];simp [bw,HZ.o]
        ·simp only
         rw [List.getElem?_append_left dj];exact bt.o
        ·simpa [eJ] using av
        ·intro b' t
         rcases ar with h|h
         ·rw [h] at t;simp [Value.ownBlock] at t;omega
         rw [h] at t;simp at t;omega
        ·have:=bp.fr ((Fr.refl [] Q).alloc (.cells #[ii a,ii d] 159)) (by simp)
         rw [nT]
         obtain ⟨l,es,clock,X,r2⟩:=this
         refine ⟨l,es,clock,?_,r2⟩
         rw [p.block v (by simp;omega) (by simp [Value.ownBlock];omega)]
         exact X
        ·exact ((bk.trans L (by simp)).alloc _).grown p hbase
        obtain ⟨h1,z⟩:=bW B ((Fr.refl [] Q).alloc (.cells #[ii a,ii d] 159)) (by simp)
        refine ⟨h1,?_⟩
        rcases z with ⟨z,_⟩|⟨g,c,cur,z,h3,h4,h5⟩
        ·simp at z
        refine Or.inr ⟨g,c,cur,z,h3,?_,h5⟩
        simp at z
        rw [p.block g (aH h4) (by simp [Value.ownBlock];omega)]
        exact h4
       case measure=>simp [intOf];omega
      go_wp2_with (refine wpList_store_row rfl 159 _ _ rfl (w.heap.size+1+1) #[ii f1,ii f2] rfl rfl 159 _ bf.o gI rfl (lK _ _) ?_)
      have aj:=setRow_heap _ _ _ #[ii f1,ii f2] _ _ bf.o
      have du:Fr [] w5 w5:=Fr.refl _ _
      have ag:MapF (w5.setRow (w.heap.size+1+1) #[ii f1,ii f2]) v (fT D.g):=by
       obtain ⟨l,es,clock,X,r2⟩:=af
       exact ⟨l,es,clock,by rw [setRow_other _ _ _ _ (by omega)];exact X,r2⟩
      obtain ⟨w8,ad,ah,ae⟩:=kX ag 206 0 159 #[false] Tryz.underlying206
      have bs:R=(f1,f2):=by
       rw [<- HO.o]
       refine nM (by omega) HC.o ?_
       rw [aw.o,<- am.o,HD.o,bF,HK.o,bh.o,bg.o]
       simp [bw,HZ.o]
      rw [bs]
      refine ⟨_,_,_,_,_,_,w8,rfl,ad,_,results_cell_row Tryz.results220 _ _ (w.heap.size+1+1) 159 _ (0,0) _ rfl (ae.heap aj (by simp;omega)) Tryz.underlying159 rfl gI,rfl,?_,ah⟩
      exact ((az.then0 u).setRow _ _ (Or.inr (by omega))).trans ae (by simp)
     go_wp2_with fail
     have ac:(K.alloc (.cells #[ii a,ii d] 159)).heap[K.heap.size]?=some (.cells #[ii a,ii d] 159):=aC K _
     have aq:Fr [] K (K.alloc (.cells #[ii a,ii d] 159)):=(Fr.refl _ _).alloc _
     refine (vT a d gx gy eb _ (((ba.then0 aq).cell eb 0 (aI be) (by simp;omega)).trans be) (((ba.then0 aq).cell eb 1 (aI be) (by simp;omega)).trans dh)).mono ?_
     rintro e w5 ⟨rfl,bl⟩
     rw [HE.o a d]
     have bm:=aq.then0 bl
     have u:=J.then0 bm
     have n:=bl.heap0 ac
     have t0:w5.cell? ⟨K.heap.size,0,none⟩=some (ii a):=aB n
     have t1:w5.cell? ⟨K.heap.size,1,none⟩=some (ii d):=aB n
     have dl:=aH n
     have f:=bm.heap0 HT.o
     have s0:w5.cell? ⟨wr.heap.size,0,none⟩=some (ii a):=aB f
     have s1:w5.cell? ⟨wr.heap.size,1,none⟩=some (ii d):=aB f
     have M:=aH f
     have a5:w5.cell? ⟨w.heap.size,0,none⟩=some (.map (some v)):=by rw [u.cell _ _ l0 (by simp)];exact a2
     have an:=u.heap0 cz.o
     have dx:=aH an
     have eg:w.heap.size < w5.heap.size:=by omega
     have cr:=(show Hi _ from n)
     have cq:=(show Hi _ from f)
     have bf:=aA an
     clear ac n f an
     have Zr:=bW C u (by simp)
     have ab:=bW A u (by simp)
     have af:=N.fr u (by simp)
     have bk:=aa.then0 u
     obtain ⟨eb,ap⟩:∃ b,E (a,d)=b:=⟨_,rfl⟩
     rw [ap]
     have bg:=aA ap
     clear ap
     cases eb
     ·obtain ⟨Q,ee,bp,L,dn⟩:=kB af 206 159 Tryz.underlying206 a d (cv a d)
      have au:=bW Zr L (by intro q hq;simp [Value.ownBlock] at hq;simp;omega)
      have B:=bW ab L (by intro q hq;simp [Value.ownBlock] at hq;simp;omega)
      have r0:Q.cell? ⟨wr.heap.size,0,none⟩=some (ii a):=by rw [L.cell _ _ M (by simp;omega)];exact s0
      have r1:Q.cell? ⟨wr.heap.size,1,none⟩=some (ii d):=by rw [L.cell _ _ M (by simp;omega)];exact s1
      have cm:wr.heap.size < Q.heap.size:=by omega
      have co:w.heap.size+1+1+1<=Q.heap.size:=by omega
      have cj:ce < Q.heap.size:=by
       obtain ⟨_,z⟩:=B
       rcases z with ⟨z,_⟩|⟨g,c,cur,z,_,h3,_⟩
       ·simp at z
       simp at z;rw [z.1];exact aH h3
      go_wp2_with (first
       | (at_builtin;refine wpList_append_own_at _ rfl _ _ 269 rfl (w.heap.size+1+1+1) 159 dr (cv 0 0) 2 16 Tryz.underlying269 hi Zt dp dq rfl (by decide) (.slice (some ⟨V,0,none⟩) D.q.length S) _ _ rfl (bW au ((Fr.refl [] Q).alloc _) (by simp)) ⟨Q.heap.size,0,none⟩ 1 1 [ii a,ii d] rfl rfl (jP Q [ii a,ii d] _ _ rfl) (by simp [Value.oneCell']) (by unfold maxLen;omega) (by omega) (by simp;omega) ?_;intro v' w7 av p cn ar)
       | fail)
      go_roundw
      case rel =>
       have hbase:∀ q,(Value.slice (some ⟨V,0,none⟩) D.q.length S).ownBlock=some q->q∈[v]\/W3.heap.size<=q:=by
        intro q hq;simp [Value.ownBlock] at hq;right;omega
       refine ⟨m+1,⟨D.q ++ [(a,d)],fun q=>if q=(a,d) then some (a,d) else D.g q⟩,by go_num,ai,bi.o.add (a,d) (a,d) HK.o bq,?_,?_,?_,?_,?_,?_,?_⟩
       ·rw [<- am.o,HD.o,bF,HK.o,bh.o,bg.o];simp [bw]
       ·simp only
        rw [List.getElem?_append_left dj];exact bt.o
       ·simpa [eJ] using av
       ·intro b' t
        rcases ar with h|h
        ·rw [h] at t;simp [Value.ownBlock] at t;omega
        rw [h] at t;simp at t;omega
       ·have:=bp.fr ((Fr.refl [] Q).alloc (.cells #[ii a,ii d] 159)) (by simp)
        rw [nT]
        obtain ⟨l,es,clock,X,r2⟩:=this
        refine ⟨l,es,clock,?_,r2⟩
        rw [p.block v (by simp;omega) (by simp [Value.ownBlock];omega)]
        exact X
       ·exact ((bk.trans L (by simp)).alloc _).grown p hbase
       obtain ⟨h1,z⟩:=bW B ((Fr.refl [] Q).alloc (.cells #[ii a,ii d] 159)) (by simp)
       refine ⟨h1,?_⟩
       rcases z with ⟨z,_⟩|⟨g,c,cur,z,h3,h4,h5⟩
       ·simp at z
       refine Or.inr ⟨g,c,cur,z,h3,?_,h5⟩
       simp at z
       rw [p.block g (aH h4) (by simp [Value.ownBlock];omega)]
       exact h4
      case measure=>simp [intOf];omega
     go_wp2_with (refine wpList_store_row rfl 159 _ _ rfl (w.heap.size+1+1) #[ii a,ii d] rfl rfl 159 _ bf.o gI rfl (lK _ _) ?_)
     have aj:=setRow_heap _ _ _ #[ii a,ii d] _ _ bf.o
     have du:Fr [] w5 w5:=Fr.refl _ _
     have ag:MapF (w5.setRow (w.heap.size+1+1) #[ii a,ii d]) v (fT D.g):=by
      obtain ⟨l,es,clock,X,r2⟩:=af
      exact ⟨l,es,clock,by rw [setRow_other _ _ _ _ (by omega)];exact X,r2⟩
     obtain ⟨w8,ad,ah,ae⟩:=kX ag 206 0 159 #[false] Tryz.underlying206
     have bs:R=(a,d):=by
      rw [<- HO.o]
      refine nM (by omega) HC.o ?_
      rw [aw.o,<- am.o,HD.o,bF,HK.o,bh.o,bg.o]
      simp [bw]
     rw [bs]
     refine ⟨_,_,_,_,_,_,w8,rfl,ad,_,results_cell_row Tryz.results220 _ _ (w.heap.size+1+1) 159 _ (0,0) _ rfl (ae.heap aj (by simp;omega)) Tryz.underlying159 rfl gI,rfl,?_,ah⟩
     exact ((az.then0 u).setRow _ _ (Or.inr (by omega))).trans ae (by simp)
    go_wp2_with fail
    go_roundw
    case rel =>
     refine ⟨m+1,D,by go_num,ai,bi.o,?_,bt.o,bW C (((Fr.refl [] wr).alloc _).alloc _) (by simp),?_,N.fr (((Fr.refl [] wr).alloc _).alloc _) (by simp),(aa.alloc _).alloc _,bW A (((Fr.refl [] wr).alloc _).alloc _) (by simp)⟩
     ·rw [<- am.o,HD.o,bF,HK.o];simp
     intro b' t;simp [Value.ownBlock] at t;omega
    case measure=>simp [intOf];omega
   have db:(aG H I).drop m=[]:=by rw [List.drop_eq_nil_iff];omega
   have cb:bu=.inr D:=by rw [<- am.o,db,bF]
   have cp:=aA cb
   clear db cb
   go_wp2_with fail
   go_roundw
   case rel =>
    refine ⟨k+1,D,by go_num,by omega,bi.o,?_,C,N,aa⟩
    rw [<- HO.o]
    exact (tS (by omega) HC.o (by rw [aw.o,cp.o])).symm
   case measure=>simp [intOf];omega
 have dk:k=s.q.length:=by omega
 have dt:Hi (R=(O,P)):=by show R=_;rw [<- HO.o];exact tQ dk
 obtain ⟨gr,cs,br,dv,dg⟩:=mY hown ec
 subst br
 clear dk
 go_wp2_with (refine wpList_store_row rfl 159 _ _ rfl (w.heap.size+1+1) #[ii O,ii P] rfl rfl 159 _ cw.o gI rfl (lK _ _) ?_)
 have aj:=setRow_heap _ _ _ #[ii O,ii P] _ _ cw.o
 have ag:MapF (wo.setRow (w.heap.size+1+1) #[ii O,ii P]) v (fT s.g):=by
  obtain ⟨l,es,clock,X,r2⟩:=dm
  exact ⟨l,es,clock,by rw [setRow_other _ _ _ _ (by omega)];exact X,r2⟩
 obtain ⟨w8,ad,ah,ae⟩:=kX ag 206 0 159 #[false] Tryz.underlying206
 rw [dt.o]
 refine ⟨_,_,_,_,_,_,w8,rfl,ad,_,results_cell_row Tryz.results220 _ _ (w.heap.size+1+1) 159 _ (0,0) _ rfl (ae.heap aj (by simp;omega)) Tryz.underlying159 rfl gI,rfl,?_,ah⟩
 exact (df.setRow _ _ (Or.inr (by omega))).trans ae (by simp)
