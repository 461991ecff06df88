import Derived.Test.YtapabahhfanmmaaGreatDoorCBfs
import Derived.Maps.AppendAt
namespace Go.Proofs.YtapabahhfanmmaaGreatDoor
open Go.RowKit
set_option maxRecDepth 100000
set_option maxHeartbeats 1000000
theorem fq6 (w:World)(A B C D:Obj):((((w.alloc A).alloc B).alloc C).alloc D).heap[w.heap.size+1+1+1]?=some D:=by
 have h:=qk1 (w.alloc A) B C D
 rwa [show (w.alloc A).heap.size=w.heap.size+1 by simp] at h
theorem jw6 {w:World}{base n:Nat}{v:Value}{l:List Cl}(h:w.ownsRow base 159 2 v n (l.flatMap fun c=>[ii c.1,ii c.2]))(hn:0 < n):∃ g cap,v=.slice (some ⟨g,0,none⟩) n cap/\base<=g/\g < w.heap.size:=by
 obtain ⟨h1,h2⟩:=h
 rcases h2 with ⟨_,h3⟩|⟨g,cap,cur,rfl,hb,hg,_⟩
 ·omega
 ·exact ⟨g,cap,rfl,hb,qq2 hg⟩
theorem yj7 {F E:Cl->Bool}{start cur c:Cl}{k:Nat}{s:Bs}(hk:k < 146)(hc:s.q[k]?=some cur)(hR:bIn F E k cur (qj0 cur.1 cur.2) s=.inl c):zk7 F E start (146 - k) k s=c:=by
 rw [show 146 - k=(146 - (k+1))+1 by omega,zk7,hc]
 simp only
 rw [hR]
theorem kz9 {F E:Cl->Bool}{start cur:Cl}{k:Nat}{s s':Bs}(hk:k < 146)(hc:s.q[k]?=some cur)(hR:bIn F E k cur (qj0 cur.1 cur.2) s=.inr s'):zk7 F E start (146 - k) k s=zk7 F E start (146 - (k+1)) (k+1) s':=by
 rw [show 146 - k=(146 - (k+1))+1 by omega,zk7,hc]
 simp only
 rw [hR]
theorem kz8 {F E:Cl->Bool}{start:Cl}{k:Nat}{s:Bs}(hk:k=s.q.length):zk7 F E start (146 - k) k s=start:=by
 cases h:146 - k with
 | zero=>rfl
 | succ n=>rw [zk7,List.getElem?_eq_none (by omega)]
theorem jw9 {w:World}{r:Nat}{f:Int×Int->Option Value}(h:MapF w r f)(t e:TypeId)(ht:Tryz.prog.underlying t=some (.map 159 e))(x y:Int)(v:Value) :
  ∃ w',(Instr.mapUpdate t (.map (some r)) (cv x y) v).run Tryz.prog w=.ok () w'/\MapF w' r (fun k=>if k=(x,y) then some v else f k)/\Fr [r] w w'/\w.heap.size<=w'.heap.size:=by
 obtain ⟨o,h1,h2⟩:=h.update t e ht x y v
 exact ⟨_,h1,h2,(Fr.refl _ _).setObj r o (by simp),by simp⟩
theorem yv8 {w:World}{r:Nat}{f:Int×Int->Option Value}(h:MapF w r f)(t ty e:TypeId)(cs:Array Bool)(ht:Tryz.prog.underlying t=some (.map 159 e)) :
  ∃ w',(invoke (.builtin .clear #[t] ty cs) #[.map (some r)]).run Tryz.prog w=.ok (.value (.tuple #[])) w'/\MapF w' r (fun _=>none)/\Fr [r] w w':=by
 obtain ⟨o,h1,h2⟩:=h.clear t ty e ht
 refine ⟨_,?_,h2,(Fr.refl _ _).setObj r o (by simp)⟩
 simp [invoke,builtin,h1,Result.andThen]
theorem qw1:(Tryz.prog.info? 159).map (·.size)=some 2:=by kernel_rfl
theorem fv6 (a b:Int):(#[ii a,ii b]:Array Value).all (·.oneCell')=true:=by simp [Value.oneCell']
def jv3 (g:Cl->Option Cl):Int×Int->Option Value:=fun k=>(g k).map fun c=>cv c.1 c.2
theorem yx0 (g:Cl->Option Cl)(n f:Cl):jv3 (fun k=>if k=n then some f else g k)=fun k=>if k=(n.1,n.2) then some (cv f.1 f.2) else jv3 g k:=by
 funext k
 unfold jv3
 by_cases h:k=n <;> simp [h]
theorem fk0 {l:List Cl}{k:Nat}{c:Cl}(h:l[k]?=some c):(zq1 l)[k*2]?=some (ii c.1)/\(zq1 l)[k*2+1]?=some (ii c.2):=by
 induction l generalizing k with
 | nil=>simp at h
 | cons a l ih =>
  cases k with
  | zero=>simp at h;subst h;simp [zq1]
  | succ k =>
   have:=ih (by simpa using h)
   have e1:(k+1)*2=k*2+1+1:=by omega
   rw [e1]
   simpa [zq1] using this
theorem yz8 {w:World}{base n:Nat}{v:Value}{l:List Cl}(h:w.ownsRow base 159 2 v n (zq1 l))(hn:n=l.length){k:Nat}{c:Cl}(hk:l[k]?=some c) :
  ∃ g cap,v=.slice (some ⟨g,0,none⟩) l.length cap/\base<=g/\w.cell? ⟨g,k*2,none⟩=some (ii c.1)/\w.cell? ⟨g,k*2+1,none⟩=some (ii c.2):=by
 subst hn
 have hl:=(List.getElem?_eq_some_iff.1 hk).1
 obtain ⟨h1,h2⟩:=h
 rcases h2 with ⟨_,h3⟩|⟨g,cap,cur,rfl,hb,hg,_,_,hsz,htk⟩
 ·omega
 ·obtain ⟨a1,a2⟩:=fk0 hk
  rw [<- htk] at a1 a2
  refine ⟨g,cap,rfl,hb,?_,?_⟩
  ·rw [j9 hg]
   rw [List.getElem?_take_of_lt (by omega)] at a1
   simpa using a1
  ·rw [j9 hg]
   rw [List.getElem?_take_of_lt (by omega)] at a2
   simpa using a2
theorem fy6 (tb hb bb:Nat) (held:Int×Int->Option Value) (bd:Nat->Int) (fx fy gx gy:Int) (w:World) (hsd:Sd w) (hv:TV w tb hb held bd) (hm:MapF w bb (fun _=>none)) (hne0:bb≠0) (hne1:tb≠bb) (hne2:hb≠bb)
  (hon:onB fx fy=true) (hgo:onB gx gy=true) :
  Calls Tryz.prog 220 #[.agg #[.map (some bb)],cv fx fy,.func (.func 199) #[.pointer (some ⟨tb,0,none⟩)] #[],.func (.func 206) #[cv gx gy] #[]] w fun e w' =>
    e=.returned (cv (bfs (fun c=>qv3 held bd c.1 c.2) (fun c=>qv5 gx gy c.1 c.2) (fx,fy)).1 (bfs (fun c=>qv3 held bd c.1 c.2) (fun c=>qv5 gx gy c.1 c.2) (fx,fy)).2)/\Fr [bb] w w'/\MapF w' bb (fun _=>none):=by
 obtain ⟨R,hR⟩:∃ R,bfs (fun c=>qv3 held bd c.1 c.2) (fun c=>qv5 gx gy c.1 c.2) (fx,fy)=R:=⟨_,rfl⟩
 rw [hR]
 obtain ⟨inf,hi,hz0,hz1,hz2⟩:=info_parts vx7
 have hbb:=hm.lt
 refine zw7 Tryz.func220 rfl ?_
 simp only [Tryz.ntmps220,List.size_toArray,List.length_cons,List.length_nil,Nat.reduceAdd,Nat.reduceSub,Array.replicate_succ,
   Array.replicate_zero,List.push_toArray,List.append_toArray,List.nil_append,List.cons_append]
 obtain ⟨W3,hW3⟩:∃ W,W=((w.alloc (.cells #[.map (some bb)] 208)).alloc (.cells #[ii fx,ii fy] 159)).alloc (.cells #[ii 0,ii 0] 159):=⟨_,rfl⟩
 have hs3:W3.heap.size=w.heap.size+1+1+1:=by rw [hW3];simp
 have hf3:Fr [bb] w W3:=by rw [hW3];exact (((Fr.refl _ _).alloc _).alloc _).alloc _
 have hA:W3.heap[w.heap.size]?=some (.cells #[.map (some bb)] 208):=by rw [hW3,qz7 _ _ _ (by simp;omega),qz8]
 have hB:W3.heap[w.heap.size+1]?=some (.cells #[ii fx,ii fy] 159):=by rw [hW3,qz7 _ _ _ (by simp),qz4]
 have hC:W3.heap[w.heap.size+1+1]?=some (.cells #[ii 0,ii 0] 159):=by rw [hW3,qk1]
 have HW:=hid hW3
 clear hW3
 obtain ⟨F,hF⟩:∃ F:Cl->Bool,∀ x y,qv3 held bd x y=F (x,y):=⟨fun c=>qv3 held bd c.1 c.2,fun _ _=>rfl⟩
 obtain ⟨E,hE⟩:∃ E:Cl->Bool,∀ x y,qv5 gx gy x y=E (x,y):=⟨fun c=>qv5 gx gy c.1 c.2,fun _ _=>rfl⟩
 have HR:Hid (zk7 F E (fx,fy) 146 0 ⟨[(fx,fy)],fun _=>none⟩=R):=by
  rw [<- hR];unfold bfs
  rw [show F=(fun c:Cl=>qv3 held bd c.1 c.2) from funext fun c=>(hF c.1 c.2).symm,show E=(fun c:Cl=>qv5 gx gy c.1 c.2) from funext fun c=>(hE c.1 c.2).symm]
  rfl
 have HF:=hid hF
 have HE:=hid hE
 clear hR hF hE
 go_wp2_with fail
 go_loopw [9,10] (fun r i wr=>∃ (k:Nat) (s:Bs),i=.int .i64 k/\k<=s.q.length/\BInv (fx,fy) s/\zk7 F E (fx,fy) (146 - k) k s=R/\wr.ownsRow (w.heap.size+1+1+1) 159 2 r s.q.length (zq1 s.q)/\MapF wr bb (jv3 s.g)/\Fr [bb] W3 wr) (fun _ i _=>146 - (intOf i).toNat)
 case atStart =>
  refine ⟨0,⟨[(fx,fy)],fun _=>none⟩,rfl,by simp,BInv.start _,HR.out,⟨rfl,Or.inr ⟨_,1,#[ii fx,ii fy],rfl,Nat.le_refl _,fq6 _ _ _ _ _,by simp,by decide,rfl,rfl⟩⟩,?_,?_⟩
  · exact hm.fr ((((((Fr.refl [] w).alloc _).alloc _).alloc _).alloc _)) (by simp)
  · rw [HW.out];exact (Fr.refl _ _).alloc _
 case round =>
  obtain ⟨wo,hwo⟩:∃ x,x=wr:=⟨_,rfl⟩
  subst hwo
  obtain ⟨k,s,rfl,hk,hinv,hout,hown,hmf,hf⟩:=hrel
  have hql:=hinv.len
  have hq0:0 < s.q.length:=by obtain ⟨l,h1,_⟩:=hinv.q;rw [h1];simp
  have HO:=(show Hid (zk7 F E (fx,fy) (146 - k) k s=R) from hout)
  clear hout
  have hfw:=hf3.trans hf (by simp)
  have hA1:=hf.heap hA (by simp;omega)
  have hB1:=hf.heap hB (by simp;omega)
  have hC1:=hf.heap hC (by simp;omega)
  have a0:wo.cell? ⟨w.heap.size,0,none⟩=some (.map (some bb)):=j9 hA1
  have b0:wo.cell? ⟨w.heap.size+1,0,none⟩=some (ii fx):=j9 hB1
  have b1:wo.cell? ⟨w.heap.size+1,1,none⟩=some (ii fy):=j9 hB1
  have hC2:=hid hC1
  clear hA1 hB1 hC1
  have hszr:w.heap.size+1+1+1<=wo.heap.size:=by have:=hf.size;omega
  have l0:w.heap.size < wo.heap.size:=by omega
  have l1:w.heap.size+1 < wo.heap.size:=by omega
  have l2:w.heap.size+1+1 < wo.heap.size:=by omega
  by_cases hlt:k < s.q.length
  · obtain ⟨⟨cx,cy⟩,hcur⟩:∃ c,s.q[k]?=some c:=⟨s.q[k],List.getElem?_eq_getElem hlt⟩
    obtain ⟨gr,capr,hr9,hgr,q0,q1⟩:=yz8 hown rfl hcur
    subst hr9
    have hgrl:=qq1 q0
    have hcon:onB cx cy=true:=hinv.on hon (cx,cy) (List.mem_of_getElem? hcur)
    obtain ⟨hx0,hx1,hy0,hy1⟩:=qz3.1 hcon
    have HC:=hid hcur
    have HI:=(show Hid (BInv (fx,fy) s) from hinv)
    clear hcur
    go_wp2_with fail
    refine (jq4 cx cy _ (hsd.fr hfw (by simp;omega)) (by omega) (by omega) (by omega) (by omega)).mono ?_
    rintro e w1 ⟨nv,rfl,hf1,hnown⟩
    obtain ⟨gn,capn,hnv,hgn,hgnl⟩:=jw6 hnown (vk3 cx cy hcon)
    subst hnv
    have hnl:=vk2 cx cy
    obtain ⟨Rin,hRin⟩:∃ Rin,bIn F E k (cx,cy) (qj0 cx cy) s=Rin:=⟨_,rfl⟩
    have HRin:=hid hRin
    clear hRin
    have hnown1:=hnown
    go_wp2_with fail
    go_loopw [9,32] (fun r j w2=>∃ (m:Nat) (s2:Bs),j=.int .i64 m/\m<=(qj0 cx cy).length/\BInv (fx,fy) s2/\bIn F E k (cx,cy) ((qj0 cx cy).drop m) s2=Rin/\s2.q[k]?=some (cx,cy)/\w2.ownsRow (w.heap.size+1+1+1) 159 2 r s2.q.length (zq1 s2.q) /\
     (∀ b',r.ownBlock=some b'->b'≠gn)/\MapF w2 bb (jv3 s2.g)/\Fr [bb] W3 w2/\w2.ownsRow (wo.heap.size+1) 159 2 (.slice (some ⟨gn,0,none⟩) (qj0 cx cy).length capn) (qj0 cx cy).length (zq1 (qj0 cx cy))) (fun _ j _=>4 - (intOf j).toNat)
    case atStart =>
     refine ⟨0,s,rfl,Nat.zero_le _,HI.out,HRin.out,HC.out,qq8 hown hf1 (by simp),?_,hmf.fr hf1 (by simp),hf.then0 hf1,hnown⟩
     intro b' hb'
     simp [Value.ownBlock] at hb'
     omega
    case round =>
     obtain ⟨m,s2,rfl,hm4,hinv2,hin,hcur2,hown2,hapart,hmf2,hf2,hnown2⟩:=hrel
     have hql2:=hinv2.len
     have hk2:k < s2.q.length:=(List.getElem?_eq_some_iff.1 hcur2).1
     obtain ⟨gr2,capr2,hr9,hgr2,p0,p1⟩:=yz8 hown2 rfl hcur2
     subst hr9
     have hgr2l:=qq1 p0
     have hapart2:gr2≠gn:=hapart gr2 rfl
     have hfw2:=hf3.trans hf2 (by simp)
     have a2:wr.cell? ⟨w.heap.size,0,none⟩=some (.map (some bb)):=j9 (hf2.heap hA (by simp;omega))
     have hC3:=(show Hid _ from hf2.heap hC (by simp;omega))
     have hsz2:w.heap.size+1+1+1<=wr.heap.size:=by have:=hf2.size;omega
     have l0:w.heap.size < wr.heap.size:=by omega
     have l1:w.heap.size+1 < wr.heap.size:=by omega
     have l2:w.heap.size+1+1 < wr.heap.size:=by omega
     have HIN:=hid hin
     have HV2:=hid hinv2
     have HC2:=hid hcur2
     clear hin hcur2 hapart
     by_cases hmlt:m < (qj0 cx cy).length
     ·obtain ⟨⟨nx,ny⟩,hn⟩:∃ c,(qj0 cx cy)[m]?=some c:=⟨(qj0 cx cy)[m],List.getElem?_eq_getElem hmlt⟩
      obtain ⟨gn',capn',hge,_,n0,n1⟩:=yz8 hnown2 rfl hn
      obtain ⟨rfl,rfl⟩:gn'=gn/\capn'=capn:=by simp at hge;exact ⟨hge.1.symm,hge.2.symm⟩
      have hnon:onB nx ny=true:=jk0 cx cy (nx,ny) (List.mem_of_getElem? hn)
      have hdrop:(qj0 cx cy).drop m=(nx,ny) :: (qj0 cx cy).drop (m+1):=by
       obtain ⟨h1,h2⟩:=List.getElem?_eq_some_iff.1 hn
       rw [List.drop_eq_getElem_cons h1,h2]
      have HD:=hid hdrop
      clear hdrop hn hge
      obtain ⟨⟨zx,zy⟩,hz⟩:∃ c,(s2.g (nx,ny)).getD (0,0)=c:=⟨_,rfl⟩
      obtain ⟨kn,hkn⟩:∃ b,(s2.g (nx,ny)).isSome=b:=⟨_,rfl⟩
      have hlk:∀ o,(Instr.lookup 206 (.map (some bb)) (cv nx ny) true).run Tryz.prog (wr.alloc o)=.ok (.tuple #[cv zx zy,.bool kn]) (wr.alloc o):=fun o=>by
       have h:=(hmf2.fr ((Fr.refl [] wr).alloc o) (by simp)).look _ _ Tryz.underlying206 _ (yv2 _) nx ny
       rw [h]
       unfold jv3
       rw [<- hkn]
       cases hg:s2.g (nx,ny) with
       | none=>rw [hg] at hz;simp at hz;obtain ⟨rfl,rfl⟩:=hz;simp
       | some c=>rw [hg] at hz;simp at hz;subst hz;simp
      have HK:=hid hkn
      clear hz hkn
      cases kn
      ·go_wp2_with fail
       have hfA:=((Fr.refl [] wr).alloc (.cells #[ii nx,ii ny] 159)).alloc (.cells #[ii zx,ii zy] 159)
       refine (vx4 tb hb held bd nx ny _ (hv.fr (hfw2.then0 hfA) (by simp;omega) (by simp;omega)) hnon).mono ?_
       rintro e w3 ⟨rfl,hf4⟩
       rw [HF.out nx ny]
       have hfB:=hfA.then0 hf4
       have hfw3:=hfw2.then0 hfB
       have ht12:=hf4.heap0 (qz8 wr _ _)
       have e0:w3.cell? ⟨wr.heap.size,0,none⟩=some (ii nx):=j9 ht12
       have e1:w3.cell? ⟨wr.heap.size,1,none⟩=some (ii ny):=j9 ht12
       have hl12:=qq2 ht12
       have hsz3:=hfB.size
       have m0:w.heap.size < w3.heap.size:=by omega
       have m2:w.heap.size+1+1 < w3.heap.size:=by omega
       have a3:w3.cell? ⟨w.heap.size,0,none⟩=some (.map (some bb)):=by rw [hfB.cell _ _ l0 (by simp)];exact a2
       have p0':w3.cell? ⟨gr2,k*2,none⟩=some (ii cx):=by rw [hfB.cell _ _ hgr2l (by simp)];exact p0
       have p1':w3.cell? ⟨gr2,k*2+1,none⟩=some (ii cy):=by rw [hfB.cell _ _ hgr2l (by simp)];exact p1
       have hgr3l:gr2 < w3.heap.size:=by omega
       have HT:=hid ht12
       clear ht12
       obtain ⟨fb,hfb⟩:∃ b,F (nx,ny)=b:=⟨_,rfl⟩
       rw [hfb]
       have HFB:=hid hfb
       clear hfb
       cases fb
       ·go_wp2_with fail
        go_roundw
        case rel =>
         refine ⟨m+1,s2,by go_num,hmlt,HV2.out,?_,HC2.out,qq8 hown2 hfB (by simp),?_,hmf2.fr hfB (by simp),hf2.then0 hfB,qq8 hnown2 hfB (by simp)⟩
         ·rw [<- HIN.out,HD.out,bIn,HK.out,HFB.out];simp
         ·intro b' hb';simp [Value.ownBlock] at hb';omega
        case measure=>simp [intOf];omega
       ·by_cases hk0:0 < k
        ·obtain ⟨⟨f1,f2⟩,hz'⟩:∃ c,(s2.g (cx,cy)).getD (0,0)=c:=⟨_,rfl⟩
         have HZ:=(show Hid _ from hz')
         have hlk2:∀ o,(Instr.lookup 206 (.map (some bb)) (cv cx cy) false).run Tryz.prog (w3.alloc o).drew=.ok (cv f1 f2) (w3.alloc o).drew:=fun o=>by
          have h:=(hmf2.fr (((hfB).alloc o).drew) (by simp)).look1 _ _ Tryz.underlying206 _ (yv2 _) cx cy
          rw [h]
          unfold jv3
          cases hg:s2.g (cx,cy) with
          | none=>rw [hg] at hz';simp at hz';obtain ⟨rfl,rfl⟩:=hz';simp
          | some c=>rw [hg] at hz';simp at hz';subst hz';simp
         clear hz'
         go_wp2_with fail
         go_region
         go_wp2_with fail
         obtain ⟨vx0,vx1,vy0,vy1⟩:=qz3.1 hnon
         obtain ⟨vg0,vg1,vh0,vh1⟩:=qz3.1 hgo
         have hT15:(w3.alloc (.cells #[ii f1,ii f2] 159)).drew.heap[w3.heap.size]?=some (.cells #[ii f1,ii f2] 159):=qq6 w3 _
         have hfC:Fr [] w3 (w3.alloc (.cells #[ii f1,ii f2] 159)).drew:=((Fr.refl _ _).alloc _).drew
         refine (zk6 gx gy nx ny _ (hsd.fr (hfw3.then0 hfC) (by simp;omega)) (by omega) (by omega) (by omega) (by omega) (by omega) (by omega) (by omega) (by omega)).mono ?_
         rintro e w5 ⟨rfl,hf5⟩
         rw [HE.out nx ny]
         have hfD:=hfC.then0 hf5
         have hfE:=hfB.then0 hfD
         have hT15':=hf5.heap0 hT15
         have t0:w5.cell? ⟨w3.heap.size,0,none⟩=some (ii f1):=j9 hT15'
         have t1:w5.cell? ⟨w3.heap.size,1,none⟩=some (ii f2):=j9 hT15'
         have hl15:=qq2 hT15'
         have hT12':=hfD.heap0 HT.out
         have s0:w5.cell? ⟨wr.heap.size,0,none⟩=some (ii nx):=j9 hT12'
         have s1:w5.cell? ⟨wr.heap.size,1,none⟩=some (ii ny):=j9 hT12'
         have hl12':=qq2 hT12'
         have a5:w5.cell? ⟨w.heap.size,0,none⟩=some (.map (some bb)):=by rw [hfE.cell _ _ l0 (by simp)];exact a2
         have hC5:=hfE.heap0 hC3.out
         have hl5:=qq2 hC5
         have l50:w.heap.size < w5.heap.size:=by omega
         have HT15:=(show Hid _ from hT15')
         have HT12:=(show Hid _ from hT12')
         have HC5:=hid hC5
         clear hT15 hT15' hT12' hC5
         have hown5:=qq8 hown2 hfE (by simp)
         have hnown5:=qq8 hnown2 hfE (by simp)
         have hmf5:=hmf2.fr hfE (by simp)
         have hf25:=hf2.then0 hfE
         obtain ⟨eb,heb⟩:∃ b,E (nx,ny)=b:=⟨_,rfl⟩
         rw [heb]
         have HEB:=hid heb
         clear heb
         cases eb
         ·obtain ⟨w6,hup,hmf6,hf6,hsz6⟩:=jw9 hmf5 206 159 Tryz.underlying206 nx ny (cv f1 f2)
          have hown6:=qq8 hown5 hf6 (by intro q hq;simp [Value.ownBlock] at hq;simp;omega)
          have hnown6:=qq8 hnown5 hf6 (by intro q hq;simp [Value.ownBlock] at hq;simp;omega)
          have r0:w6.cell? ⟨wr.heap.size,0,none⟩=some (ii nx):=by rw [hf6.cell _ _ hl12' (by simp;omega)];exact s0
          have r1:w6.cell? ⟨wr.heap.size,1,none⟩=some (ii ny):=by rw [hf6.cell _ _ hl12' (by simp;omega)];exact s1
          have hl126:wr.heap.size < w6.heap.size:=by omega
          have hsz26:w.heap.size+1+1+1<=w6.heap.size:=by omega
          have hgnl6:gn' < w6.heap.size:=by
           obtain ⟨_,h2⟩:=hnown6
           rcases h2 with ⟨h2,_⟩|⟨g,c,cur,h2,_,h3,_⟩
           ·simp at h2
           ·simp at h2;rw [h2.1];exact qq2 h3
          go_wp2_with (first
           | (at_builtin;refine wpList_append_own_at _ rfl _ _ 269 rfl (w.heap.size+1+1+1) 159 inf (cv 0 0) 2 16 Tryz.underlying269 hi hz0 hz1 hz2 rfl (by decide) (.slice (some ⟨gr2,0,none⟩) s2.q.length capr2) _ _ rfl (qq8 hown6 ((Fr.refl [] w6).alloc _) (by simp)) ⟨w6.heap.size,0,none⟩ 1 1 [ii nx,ii ny] rfl rfl (zx7 w6 [ii nx,ii ny] _ _ rfl) (by simp [Value.oneCell']) (by unfold maxLen;omega) (by omega) (by simp;omega) ?_;intro v' w7 hown7 hgrow7 hnil7 hloc7)
           | fail)
          go_roundw
          case rel =>
           have hbase:∀ q,(Value.slice (some ⟨gr2,0,none⟩) s2.q.length capr2).ownBlock=some q->q∈[bb]\/W3.heap.size<=q:=by
            intro q hq;simp [Value.ownBlock] at hq;right;omega
           refine ⟨m+1,⟨s2.q ++ [(nx,ny)],fun q=>if q=(nx,ny) then some (f1,f2) else s2.g q⟩,by go_num,hmlt,HV2.out.add (nx,ny) (f1,f2) HK.out hnon,?_,?_,?_,?_,?_,?_,?_⟩
           ·rw [<- HIN.out,HD.out,bIn,HK.out,HFB.out,HEB.out];simp [hk0,HZ.out]
           ·simp only
            rw [List.getElem?_append_left hk2];exact HC2.out
           ·simpa [zq1] using hown7
           ·intro b' hb'
            rcases hloc7 with h|h
            ·rw [h] at hb';simp [Value.ownBlock] at hb';omega
            ·rw [h] at hb';simp at hb';omega
           ·have:=hmf6.fr ((Fr.refl [] w6).alloc (.cells #[ii nx,ii ny] 159)) (by simp)
            rw [yx0]
            obtain ⟨l,es,clock,hb1,r2⟩:=this
            refine ⟨l,es,clock,?_,r2⟩
            rw [hgrow7.block bb (by simp;omega) (by simp [Value.ownBlock];omega)]
            exact hb1
           ·exact ((hf25.trans hf6 (by simp)).alloc _).grown hgrow7 hbase
           ·obtain ⟨h1,h2⟩:=qq8 hnown6 ((Fr.refl [] w6).alloc (.cells #[ii nx,ii ny] 159)) (by simp)
            refine ⟨h1,?_⟩
            rcases h2 with ⟨h2,_⟩|⟨g,c,cur,h2,h3,h4,h5⟩
            ·simp at h2
            ·refine Or.inr ⟨g,c,cur,h2,h3,?_,h5⟩
             simp at h2
             rw [hgrow7.block g (qq2 h4) (by simp [Value.ownBlock];omega)]
             exact h4
          case measure=>simp [intOf];omega
         ·go_wp2_with (refine wpList_store_row rfl 159 _ _ rfl (w.heap.size+1+1) #[ii f1,ii f2] rfl rfl 159 _ HC5.out qw1 rfl (fv6 _ _) ?_)
          have hrow:=setRow_heap _ _ _ #[ii f1,ii f2] _ _ HC5.out
          have hf7:Fr [] w5 w5:=Fr.refl _ _
          have hmf7:MapF (w5.setRow (w.heap.size+1+1) #[ii f1,ii f2]) bb (jv3 s2.g):=by
           obtain ⟨l,es,clock,hb1,r2⟩:=hmf5
           exact ⟨l,es,clock,by rw [setRow_other _ _ _ _ (by omega)];exact hb1,r2⟩
          obtain ⟨w8,hclr,hmf8,hf8⟩:=yv8 hmf7 206 0 159 #[false] Tryz.underlying206
          have hres:R=(f1,f2):=by
           rw [<- HO.out]
           refine yj7 (by omega) HC.out ?_
           rw [HRin.out,<- HIN.out,HD.out,bIn,HK.out,HFB.out,HEB.out]
           simp [hk0,HZ.out]
          rw [hres]
          refine ⟨_,_,_,_,_,_,w8,rfl,hclr,_,results_cell_row Tryz.results220 _ _ (w.heap.size+1+1) 159 _ (0,0) _ rfl (hf8.heap hrow (by simp;omega)) Tryz.underlying159 rfl qw1,rfl,?_,hmf8⟩
          exact ((hfw2.then0 hfE).setRow _ _ (Or.inr (by omega))).trans hf8 (by simp)
        ·go_wp2_with fail
         obtain ⟨vx0,vx1,vy0,vy1⟩:=qz3.1 hnon
         obtain ⟨vg0,vg1,vh0,vh1⟩:=qz3.1 hgo
         have hT15:(w3.alloc (.cells #[ii nx,ii ny] 159)).heap[w3.heap.size]?=some (.cells #[ii nx,ii ny] 159):=qq6 w3 _
         have hfC:Fr [] w3 (w3.alloc (.cells #[ii nx,ii ny] 159)):=(Fr.refl _ _).alloc _
         refine (zk6 gx gy nx ny _ (hsd.fr (hfw3.then0 hfC) (by simp;omega)) (by omega) (by omega) (by omega) (by omega) (by omega) (by omega) (by omega) (by omega)).mono ?_
         rintro e w5 ⟨rfl,hf5⟩
         rw [HE.out nx ny]
         have hfD:=hfC.then0 hf5
         have hfE:=hfB.then0 hfD
         have hT15':=hf5.heap0 hT15
         have t0:w5.cell? ⟨w3.heap.size,0,none⟩=some (ii nx):=j9 hT15'
         have t1:w5.cell? ⟨w3.heap.size,1,none⟩=some (ii ny):=j9 hT15'
         have hl15:=qq2 hT15'
         have hT12':=hfD.heap0 HT.out
         have s0:w5.cell? ⟨wr.heap.size,0,none⟩=some (ii nx):=j9 hT12'
         have s1:w5.cell? ⟨wr.heap.size,1,none⟩=some (ii ny):=j9 hT12'
         have hl12':=qq2 hT12'
         have a5:w5.cell? ⟨w.heap.size,0,none⟩=some (.map (some bb)):=by rw [hfE.cell _ _ l0 (by simp)];exact a2
         have hC5:=hfE.heap0 hC3.out
         have hl5:=qq2 hC5
         have l50:w.heap.size < w5.heap.size:=by omega
         have HT15:=(show Hid _ from hT15')
         have HT12:=(show Hid _ from hT12')
         have HC5:=hid hC5
         clear hT15 hT15' hT12' hC5
         have hown5:=qq8 hown2 hfE (by simp)
         have hnown5:=qq8 hnown2 hfE (by simp)
         have hmf5:=hmf2.fr hfE (by simp)
         have hf25:=hf2.then0 hfE
         obtain ⟨eb,heb⟩:∃ b,E (nx,ny)=b:=⟨_,rfl⟩
         rw [heb]
         have HEB:=hid heb
         clear heb
         cases eb
         ·obtain ⟨w6,hup,hmf6,hf6,hsz6⟩:=jw9 hmf5 206 159 Tryz.underlying206 nx ny (cv nx ny)
          have hown6:=qq8 hown5 hf6 (by intro q hq;simp [Value.ownBlock] at hq;simp;omega)
          have hnown6:=qq8 hnown5 hf6 (by intro q hq;simp [Value.ownBlock] at hq;simp;omega)
          have r0:w6.cell? ⟨wr.heap.size,0,none⟩=some (ii nx):=by rw [hf6.cell _ _ hl12' (by simp;omega)];exact s0
          have r1:w6.cell? ⟨wr.heap.size,1,none⟩=some (ii ny):=by rw [hf6.cell _ _ hl12' (by simp;omega)];exact s1
          have hl126:wr.heap.size < w6.heap.size:=by omega
          have hsz26:w.heap.size+1+1+1<=w6.heap.size:=by omega
          have hgnl6:gn' < w6.heap.size:=by
           obtain ⟨_,h2⟩:=hnown6
           rcases h2 with ⟨h2,_⟩|⟨g,c,cur,h2,_,h3,_⟩
           ·simp at h2
           ·simp at h2;rw [h2.1];exact qq2 h3
          go_wp2_with (first
           | (at_builtin;refine wpList_append_own_at _ rfl _ _ 269 rfl (w.heap.size+1+1+1) 159 inf (cv 0 0) 2 16 Tryz.underlying269 hi hz0 hz1 hz2 rfl (by decide) (.slice (some ⟨gr2,0,none⟩) s2.q.length capr2) _ _ rfl (qq8 hown6 ((Fr.refl [] w6).alloc _) (by simp)) ⟨w6.heap.size,0,none⟩ 1 1 [ii nx,ii ny] rfl rfl (zx7 w6 [ii nx,ii ny] _ _ rfl) (by simp [Value.oneCell']) (by unfold maxLen;omega) (by omega) (by simp;omega) ?_;intro v' w7 hown7 hgrow7 hnil7 hloc7)
           | fail)
          go_roundw
          case rel =>
           have hbase:∀ q,(Value.slice (some ⟨gr2,0,none⟩) s2.q.length capr2).ownBlock=some q->q∈[bb]\/W3.heap.size<=q:=by
            intro q hq;simp [Value.ownBlock] at hq;right;omega
           refine ⟨m+1,⟨s2.q ++ [(nx,ny)],fun q=>if q=(nx,ny) then some (nx,ny) else s2.g q⟩,by go_num,hmlt,HV2.out.add (nx,ny) (nx,ny) HK.out hnon,?_,?_,?_,?_,?_,?_,?_⟩
           ·rw [<- HIN.out,HD.out,bIn,HK.out,HFB.out,HEB.out];simp [hk0]
           ·simp only
            rw [List.getElem?_append_left hk2];exact HC2.out
           ·simpa [zq1] using hown7
           ·intro b' hb'
            rcases hloc7 with h|h
            ·rw [h] at hb';simp [Value.ownBlock] at hb';omega
            ·rw [h] at hb';simp at hb';omega
           ·have:=hmf6.fr ((Fr.refl [] w6).alloc (.cells #[ii nx,ii ny] 159)) (by simp)
            rw [yx0]
            obtain ⟨l,es,clock,hb1,r2⟩:=this
            refine ⟨l,es,clock,?_,r2⟩
            rw [hgrow7.block bb (by simp;omega) (by simp [Value.ownBlock];omega)]
            exact hb1
           ·exact ((hf25.trans hf6 (by simp)).alloc _).grown hgrow7 hbase
           ·obtain ⟨h1,h2⟩:=qq8 hnown6 ((Fr.refl [] w6).alloc (.cells #[ii nx,ii ny] 159)) (by simp)
            refine ⟨h1,?_⟩
            rcases h2 with ⟨h2,_⟩|⟨g,c,cur,h2,h3,h4,h5⟩
            ·simp at h2
            ·refine Or.inr ⟨g,c,cur,h2,h3,?_,h5⟩
             simp at h2
             rw [hgrow7.block g (qq2 h4) (by simp [Value.ownBlock];omega)]
             exact h4
          case measure=>simp [intOf];omega
         ·go_wp2_with (refine wpList_store_row rfl 159 _ _ rfl (w.heap.size+1+1) #[ii nx,ii ny] rfl rfl 159 _ HC5.out qw1 rfl (fv6 _ _) ?_)
          have hrow:=setRow_heap _ _ _ #[ii nx,ii ny] _ _ HC5.out
          have hf7:Fr [] w5 w5:=Fr.refl _ _
          have hmf7:MapF (w5.setRow (w.heap.size+1+1) #[ii nx,ii ny]) bb (jv3 s2.g):=by
           obtain ⟨l,es,clock,hb1,r2⟩:=hmf5
           exact ⟨l,es,clock,by rw [setRow_other _ _ _ _ (by omega)];exact hb1,r2⟩
          obtain ⟨w8,hclr,hmf8,hf8⟩:=yv8 hmf7 206 0 159 #[false] Tryz.underlying206
          have hres:R=(nx,ny):=by
           rw [<- HO.out]
           refine yj7 (by omega) HC.out ?_
           rw [HRin.out,<- HIN.out,HD.out,bIn,HK.out,HFB.out,HEB.out]
           simp [hk0]
          rw [hres]
          refine ⟨_,_,_,_,_,_,w8,rfl,hclr,_,results_cell_row Tryz.results220 _ _ (w.heap.size+1+1) 159 _ (0,0) _ rfl (hf8.heap hrow (by simp;omega)) Tryz.underlying159 rfl qw1,rfl,?_,hmf8⟩
          exact ((hfw2.then0 hfE).setRow _ _ (Or.inr (by omega))).trans hf8 (by simp)
      ·go_wp2_with fail
       go_roundw
       case rel =>
        refine ⟨m+1,s2,by go_num,hmlt,HV2.out,?_,HC2.out,qq8 hown2 (((Fr.refl [] wr).alloc _).alloc _) (by simp),?_,hmf2.fr (((Fr.refl [] wr).alloc _).alloc _) (by simp),(hf2.alloc _).alloc _,qq8 hnown2 (((Fr.refl [] wr).alloc _).alloc _) (by simp)⟩
        ·rw [<- HIN.out,HD.out,bIn,HK.out];simp
        ·intro b' hb';simp [Value.ownBlock] at hb';omega
       case measure=>simp [intOf];omega
     ·have hdn:(qj0 cx cy).drop m=[]:=by rw [List.drop_eq_nil_iff];omega
      have hfin:Rin=.inr s2:=by rw [<- HIN.out,hdn,bIn]
      have HFIN:=hid hfin
      clear hdn hfin
      go_wp2_with fail
      go_roundw
      case rel =>
       refine ⟨k+1,s2,by go_num,by omega,HV2.out,?_,hown2,hmf2,hf2⟩
       rw [<- HO.out]
       exact (kz9 (by omega) HC.out (by rw [HRin.out,HFIN.out])).symm
      case measure=>simp [intOf];omega
  · have hke:k=s.q.length:=by omega
    have HE2:Hid (R=(fx,fy)):=by show R=_;rw [<- HO.out];exact kz8 hke
    obtain ⟨gr,capr,hr9,hgr,hgrl⟩:=jw6 hown hq0
    subst hr9
    clear hke
    go_wp2_with (refine wpList_store_row rfl 159 _ _ rfl (w.heap.size+1+1) #[ii fx,ii fy] rfl rfl 159 _ hC2.out qw1 rfl (fv6 _ _) ?_)
    have hrow:=setRow_heap _ _ _ #[ii fx,ii fy] _ _ hC2.out
    have hmf7:MapF (wo.setRow (w.heap.size+1+1) #[ii fx,ii fy]) bb (jv3 s.g):=by
     obtain ⟨l,es,clock,hb1,r2⟩:=hmf
     exact ⟨l,es,clock,by rw [setRow_other _ _ _ _ (by omega)];exact hb1,r2⟩
    obtain ⟨w8,hclr,hmf8,hf8⟩:=yv8 hmf7 206 0 159 #[false] Tryz.underlying206
    rw [HE2.out]
    refine ⟨_,_,_,_,_,_,w8,rfl,hclr,_,results_cell_row Tryz.results220 _ _ (w.heap.size+1+1) 159 _ (0,0) _ rfl (hf8.heap hrow (by simp;omega)) Tryz.underlying159 rfl qw1,rfl,?_,hmf8⟩
    exact (hfw.setRow _ _ (Or.inr (by omega))).trans hf8 (by simp)
theorem fy5 (tb hb bb eb:Nat) (held:Int×Int->Option Value) (bd:Nat->Int) (fx fy gx gy:Int) (w:World) (hsd:Sd w) (hv:TV w tb hb held bd) (hm:MapF w bb (fun _=>none)) (hne0:bb≠0) (hne1:tb≠bb) (hne2:hb≠bb)
  (hon:onB fx fy=true) (hgx:w.cell? ⟨eb,0,none⟩=some (ii gx)) (hgy:w.cell? ⟨eb,1,none⟩=some (ii gy)) (hne3:eb≠bb) :
  Calls Tryz.prog 220 #[.agg #[.map (some bb)],cv fx fy,.func (.func 199) #[.pointer (some ⟨tb,0,none⟩)] #[],.func (.func 203) #[] #[.pointer (some ⟨eb,0,none⟩)]] w fun e w' =>
    e=.returned (cv (bfs (fun c=>qv3 held bd c.1 c.2) (fun c=>c.1==gx&&c.2==gy) (fx,fy)).1 (bfs (fun c=>qv3 held bd c.1 c.2) (fun c=>c.1==gx&&c.2==gy) (fx,fy)).2)/\Fr [bb] w w'/\MapF w' bb (fun _=>none):=by
 obtain ⟨R,hR⟩:∃ R,bfs (fun c=>qv3 held bd c.1 c.2) (fun c=>c.1==gx&&c.2==gy) (fx,fy)=R:=⟨_,rfl⟩
 rw [hR]
 obtain ⟨inf,hi,hz0,hz1,hz2⟩:=info_parts vx7
 have hbb:=hm.lt
 refine zw7 Tryz.func220 rfl ?_
 simp only [Tryz.ntmps220,List.size_toArray,List.length_cons,List.length_nil,Nat.reduceAdd,Nat.reduceSub,Array.replicate_succ,
   Array.replicate_zero,List.push_toArray,List.append_toArray,List.nil_append,List.cons_append]
 obtain ⟨W3,hW3⟩:∃ W,W=((w.alloc (.cells #[.map (some bb)] 208)).alloc (.cells #[ii fx,ii fy] 159)).alloc (.cells #[ii 0,ii 0] 159):=⟨_,rfl⟩
 have hs3:W3.heap.size=w.heap.size+1+1+1:=by rw [hW3];simp
 have hf3:Fr [bb] w W3:=by rw [hW3];exact (((Fr.refl _ _).alloc _).alloc _).alloc _
 have hA:W3.heap[w.heap.size]?=some (.cells #[.map (some bb)] 208):=by rw [hW3,qz7 _ _ _ (by simp;omega),qz8]
 have hB:W3.heap[w.heap.size+1]?=some (.cells #[ii fx,ii fy] 159):=by rw [hW3,qz7 _ _ _ (by simp),qz4]
 have hC:W3.heap[w.heap.size+1+1]?=some (.cells #[ii 0,ii 0] 159):=by rw [hW3,qk1]
 have HW:=hid hW3
 clear hW3
 obtain ⟨F,hF⟩:∃ F:Cl->Bool,∀ x y,qv3 held bd x y=F (x,y):=⟨fun c=>qv3 held bd c.1 c.2,fun _ _=>rfl⟩
 obtain ⟨E,hE⟩:∃ E:Cl->Bool,∀ x y,(x==gx&&y==gy)=E (x,y):=⟨fun c=>c.1==gx&&c.2==gy,fun _ _=>rfl⟩
 have HR:Hid (zk7 F E (fx,fy) 146 0 ⟨[(fx,fy)],fun _=>none⟩=R):=by
  rw [<- hR];unfold bfs
  rw [show F=(fun c:Cl=>qv3 held bd c.1 c.2) from funext fun c=>(hF c.1 c.2).symm,show E=(fun c:Cl=>c.1==gx&&c.2==gy) from funext fun c=>(hE c.1 c.2).symm]
  rfl
 have HF:=hid hF
 have HE:=hid hE
 clear hR hF hE
 go_wp2_with fail
 go_loopw [9,10] (fun r i wr=>∃ (k:Nat) (s:Bs),i=.int .i64 k/\k<=s.q.length/\BInv (fx,fy) s/\zk7 F E (fx,fy) (146 - k) k s=R/\wr.ownsRow (w.heap.size+1+1+1) 159 2 r s.q.length (zq1 s.q)/\MapF wr bb (jv3 s.g)/\Fr [bb] W3 wr) (fun _ i _=>146 - (intOf i).toNat)
 case atStart =>
  refine ⟨0,⟨[(fx,fy)],fun _=>none⟩,rfl,by simp,BInv.start _,HR.out,⟨rfl,Or.inr ⟨_,1,#[ii fx,ii fy],rfl,Nat.le_refl _,fq6 _ _ _ _ _,by simp,by decide,rfl,rfl⟩⟩,?_,?_⟩
  · exact hm.fr ((((((Fr.refl [] w).alloc _).alloc _).alloc _).alloc _)) (by simp)
  · rw [HW.out];exact (Fr.refl _ _).alloc _
 case round =>
  obtain ⟨wo,hwo⟩:∃ x,x=wr:=⟨_,rfl⟩
  subst hwo
  obtain ⟨k,s,rfl,hk,hinv,hout,hown,hmf,hf⟩:=hrel
  have hql:=hinv.len
  have hq0:0 < s.q.length:=by obtain ⟨l,h1,_⟩:=hinv.q;rw [h1];simp
  have HO:=(show Hid (zk7 F E (fx,fy) (146 - k) k s=R) from hout)
  clear hout
  have hfw:=hf3.trans hf (by simp)
  have hA1:=hf.heap hA (by simp;omega)
  have hB1:=hf.heap hB (by simp;omega)
  have hC1:=hf.heap hC (by simp;omega)
  have a0:wo.cell? ⟨w.heap.size,0,none⟩=some (.map (some bb)):=j9 hA1
  have b0:wo.cell? ⟨w.heap.size+1,0,none⟩=some (ii fx):=j9 hB1
  have b1:wo.cell? ⟨w.heap.size+1,1,none⟩=some (ii fy):=j9 hB1
  have hC2:=hid hC1
  clear hA1 hB1 hC1
  have hszr:w.heap.size+1+1+1<=wo.heap.size:=by have:=hf.size;omega
  have l0:w.heap.size < wo.heap.size:=by omega
  have l1:w.heap.size+1 < wo.heap.size:=by omega
  have l2:w.heap.size+1+1 < wo.heap.size:=by omega
  by_cases hlt:k < s.q.length
  · obtain ⟨⟨cx,cy⟩,hcur⟩:∃ c,s.q[k]?=some c:=⟨s.q[k],List.getElem?_eq_getElem hlt⟩
    obtain ⟨gr,capr,hr9,hgr,q0,q1⟩:=yz8 hown rfl hcur
    subst hr9
    have hgrl:=qq1 q0
    have hcon:onB cx cy=true:=hinv.on hon (cx,cy) (List.mem_of_getElem? hcur)
    obtain ⟨hx0,hx1,hy0,hy1⟩:=qz3.1 hcon
    have HC:=hid hcur
    have HI:=(show Hid (BInv (fx,fy) s) from hinv)
    clear hcur
    go_wp2_with fail
    refine (jq4 cx cy _ (hsd.fr hfw (by simp;omega)) (by omega) (by omega) (by omega) (by omega)).mono ?_
    rintro e w1 ⟨nv,rfl,hf1,hnown⟩
    obtain ⟨gn,capn,hnv,hgn,hgnl⟩:=jw6 hnown (vk3 cx cy hcon)
    subst hnv
    have hnl:=vk2 cx cy
    obtain ⟨Rin,hRin⟩:∃ Rin,bIn F E k (cx,cy) (qj0 cx cy) s=Rin:=⟨_,rfl⟩
    have HRin:=hid hRin
    clear hRin
    have hnown1:=hnown
    go_wp2_with fail
    go_loopw [9,32] (fun r j w2=>∃ (m:Nat) (s2:Bs),j=.int .i64 m/\m<=(qj0 cx cy).length/\BInv (fx,fy) s2/\bIn F E k (cx,cy) ((qj0 cx cy).drop m) s2=Rin/\s2.q[k]?=some (cx,cy)/\w2.ownsRow (w.heap.size+1+1+1) 159 2 r s2.q.length (zq1 s2.q) /\
     (∀ b',r.ownBlock=some b'->b'≠gn)/\MapF w2 bb (jv3 s2.g)/\Fr [bb] W3 w2/\w2.ownsRow (wo.heap.size+1) 159 2 (.slice (some ⟨gn,0,none⟩) (qj0 cx cy).length capn) (qj0 cx cy).length (zq1 (qj0 cx cy))) (fun _ j _=>4 - (intOf j).toNat)
    case atStart =>
     refine ⟨0,s,rfl,Nat.zero_le _,HI.out,HRin.out,HC.out,qq8 hown hf1 (by simp),?_,hmf.fr hf1 (by simp),hf.then0 hf1,hnown⟩
     intro b' hb'
     simp [Value.ownBlock] at hb'
     omega
    case round =>
     obtain ⟨m,s2,rfl,hm4,hinv2,hin,hcur2,hown2,hapart,hmf2,hf2,hnown2⟩:=hrel
     have hql2:=hinv2.len
     have hk2:k < s2.q.length:=(List.getElem?_eq_some_iff.1 hcur2).1
     obtain ⟨gr2,capr2,hr9,hgr2,p0,p1⟩:=yz8 hown2 rfl hcur2
     subst hr9
     have hgr2l:=qq1 p0
     have hapart2:gr2≠gn:=hapart gr2 rfl
     have hfw2:=hf3.trans hf2 (by simp)
     have a2:wr.cell? ⟨w.heap.size,0,none⟩=some (.map (some bb)):=j9 (hf2.heap hA (by simp;omega))
     have hC3:=(show Hid _ from hf2.heap hC (by simp;omega))
     have hsz2:w.heap.size+1+1+1<=wr.heap.size:=by have:=hf2.size;omega
     have l0:w.heap.size < wr.heap.size:=by omega
     have l1:w.heap.size+1 < wr.heap.size:=by omega
     have l2:w.heap.size+1+1 < wr.heap.size:=by omega
     have HIN:=hid hin
     have HV2:=hid hinv2
     have HC2:=hid hcur2
     clear hin hcur2 hapart
     by_cases hmlt:m < (qj0 cx cy).length
     ·obtain ⟨⟨nx,ny⟩,hn⟩:∃ c,(qj0 cx cy)[m]?=some c:=⟨(qj0 cx cy)[m],List.getElem?_eq_getElem hmlt⟩
      obtain ⟨gn',capn',hge,_,n0,n1⟩:=yz8 hnown2 rfl hn
      obtain ⟨rfl,rfl⟩:gn'=gn/\capn'=capn:=by simp at hge;exact ⟨hge.1.symm,hge.2.symm⟩
      have hnon:onB nx ny=true:=jk0 cx cy (nx,ny) (List.mem_of_getElem? hn)
      have hdrop:(qj0 cx cy).drop m=(nx,ny) :: (qj0 cx cy).drop (m+1):=by
       obtain ⟨h1,h2⟩:=List.getElem?_eq_some_iff.1 hn
       rw [List.drop_eq_getElem_cons h1,h2]
      have HD:=hid hdrop
      clear hdrop hn hge
      obtain ⟨⟨zx,zy⟩,hz⟩:∃ c,(s2.g (nx,ny)).getD (0,0)=c:=⟨_,rfl⟩
      obtain ⟨kn,hkn⟩:∃ b,(s2.g (nx,ny)).isSome=b:=⟨_,rfl⟩
      have hlk:∀ o,(Instr.lookup 206 (.map (some bb)) (cv nx ny) true).run Tryz.prog (wr.alloc o)=.ok (.tuple #[cv zx zy,.bool kn]) (wr.alloc o):=fun o=>by
       have h:=(hmf2.fr ((Fr.refl [] wr).alloc o) (by simp)).look _ _ Tryz.underlying206 _ (yv2 _) nx ny
       rw [h]
       unfold jv3
       rw [<- hkn]
       cases hg:s2.g (nx,ny) with
       | none=>rw [hg] at hz;simp at hz;obtain ⟨rfl,rfl⟩:=hz;simp
       | some c=>rw [hg] at hz;simp at hz;subst hz;simp
      have HK:=hid hkn
      clear hz hkn
      cases kn
      ·go_wp2_with fail
       have hfA:=((Fr.refl [] wr).alloc (.cells #[ii nx,ii ny] 159)).alloc (.cells #[ii zx,ii zy] 159)
       refine (vx4 tb hb held bd nx ny _ (hv.fr (hfw2.then0 hfA) (by simp;omega) (by simp;omega)) hnon).mono ?_
       rintro e w3 ⟨rfl,hf4⟩
       rw [HF.out nx ny]
       have hfB:=hfA.then0 hf4
       have hfw3:=hfw2.then0 hfB
       have ht12:=hf4.heap0 (qz8 wr _ _)
       have e0:w3.cell? ⟨wr.heap.size,0,none⟩=some (ii nx):=j9 ht12
       have e1:w3.cell? ⟨wr.heap.size,1,none⟩=some (ii ny):=j9 ht12
       have hl12:=qq2 ht12
       have hsz3:=hfB.size
       have m0:w.heap.size < w3.heap.size:=by omega
       have m2:w.heap.size+1+1 < w3.heap.size:=by omega
       have a3:w3.cell? ⟨w.heap.size,0,none⟩=some (.map (some bb)):=by rw [hfB.cell _ _ l0 (by simp)];exact a2
       have p0':w3.cell? ⟨gr2,k*2,none⟩=some (ii cx):=by rw [hfB.cell _ _ hgr2l (by simp)];exact p0
       have p1':w3.cell? ⟨gr2,k*2+1,none⟩=some (ii cy):=by rw [hfB.cell _ _ hgr2l (by simp)];exact p1
       have hgr3l:gr2 < w3.heap.size:=by omega
       have HT:=hid ht12
       clear ht12
       obtain ⟨fb,hfb⟩:∃ b,F (nx,ny)=b:=⟨_,rfl⟩
       rw [hfb]
       have HFB:=hid hfb
       clear hfb
       cases fb
       ·go_wp2_with fail
        go_roundw
        case rel =>
         refine ⟨m+1,s2,by go_num,hmlt,HV2.out,?_,HC2.out,qq8 hown2 hfB (by simp),?_,hmf2.fr hfB (by simp),hf2.then0 hfB,qq8 hnown2 hfB (by simp)⟩
         ·rw [<- HIN.out,HD.out,bIn,HK.out,HFB.out];simp
         ·intro b' hb';simp [Value.ownBlock] at hb';omega
        case measure=>simp [intOf];omega
       ·by_cases hk0:0 < k
        ·obtain ⟨⟨f1,f2⟩,hz'⟩:∃ c,(s2.g (cx,cy)).getD (0,0)=c:=⟨_,rfl⟩
         have HZ:=(show Hid _ from hz')
         have hlk2:∀ o,(Instr.lookup 206 (.map (some bb)) (cv cx cy) false).run Tryz.prog (w3.alloc o).drew=.ok (cv f1 f2) (w3.alloc o).drew:=fun o=>by
          have h:=(hmf2.fr (((hfB).alloc o).drew) (by simp)).look1 _ _ Tryz.underlying206 _ (yv2 _) cx cy
          rw [h]
          unfold jv3
          cases hg:s2.g (cx,cy) with
          | none=>rw [hg] at hz';simp at hz';obtain ⟨rfl,rfl⟩:=hz';simp
          | some c=>rw [hg] at hz';simp at hz';subst hz';simp
         clear hz'
         go_wp2_with fail
         go_region
         go_wp2_with fail
         have hT15:(w3.alloc (.cells #[ii f1,ii f2] 159)).drew.heap[w3.heap.size]?=some (.cells #[ii f1,ii f2] 159):=qq6 w3 _
         have hfC:Fr [] w3 (w3.alloc (.cells #[ii f1,ii f2] 159)).drew:=((Fr.refl _ _).alloc _).drew
         refine (kk1 nx ny gx gy eb _ (((hfw3.then0 hfC).cell eb 0 (qq1 hgx) (by simp;omega)).trans hgx) (((hfw3.then0 hfC).cell eb 1 (qq1 hgx) (by simp;omega)).trans hgy)).mono ?_
         rintro e w5 ⟨rfl,hf5⟩
         rw [HE.out nx ny]
         have hfD:=hfC.then0 hf5
         have hfE:=hfB.then0 hfD
         have hT15':=hf5.heap0 hT15
         have t0:w5.cell? ⟨w3.heap.size,0,none⟩=some (ii f1):=j9 hT15'
         have t1:w5.cell? ⟨w3.heap.size,1,none⟩=some (ii f2):=j9 hT15'
         have hl15:=qq2 hT15'
         have hT12':=hfD.heap0 HT.out
         have s0:w5.cell? ⟨wr.heap.size,0,none⟩=some (ii nx):=j9 hT12'
         have s1:w5.cell? ⟨wr.heap.size,1,none⟩=some (ii ny):=j9 hT12'
         have hl12':=qq2 hT12'
         have a5:w5.cell? ⟨w.heap.size,0,none⟩=some (.map (some bb)):=by rw [hfE.cell _ _ l0 (by simp)];exact a2
         have hC5:=hfE.heap0 hC3.out
         have hl5:=qq2 hC5
         have l50:w.heap.size < w5.heap.size:=by omega
         have HT15:=(show Hid _ from hT15')
         have HT12:=(show Hid _ from hT12')
         have HC5:=hid hC5
         clear hT15 hT15' hT12' hC5
         have hown5:=qq8 hown2 hfE (by simp)
         have hnown5:=qq8 hnown2 hfE (by simp)
         have hmf5:=hmf2.fr hfE (by simp)
         have hf25:=hf2.then0 hfE
         obtain ⟨eb,heb⟩:∃ b,E (nx,ny)=b:=⟨_,rfl⟩
         rw [heb]
         have HEB:=hid heb
         clear heb
         cases eb
         ·obtain ⟨w6,hup,hmf6,hf6,hsz6⟩:=jw9 hmf5 206 159 Tryz.underlying206 nx ny (cv f1 f2)
          have hown6:=qq8 hown5 hf6 (by intro q hq;simp [Value.ownBlock] at hq;simp;omega)
          have hnown6:=qq8 hnown5 hf6 (by intro q hq;simp [Value.ownBlock] at hq;simp;omega)
          have r0:w6.cell? ⟨wr.heap.size,0,none⟩=some (ii nx):=by rw [hf6.cell _ _ hl12' (by simp;omega)];exact s0
          have r1:w6.cell? ⟨wr.heap.size,1,none⟩=some (ii ny):=by rw [hf6.cell _ _ hl12' (by simp;omega)];exact s1
          have hl126:wr.heap.size < w6.heap.size:=by omega
          have hsz26:w.heap.size+1+1+1<=w6.heap.size:=by omega
          have hgnl6:gn' < w6.heap.size:=by
           obtain ⟨_,h2⟩:=hnown6
           rcases h2 with ⟨h2,_⟩|⟨g,c,cur,h2,_,h3,_⟩
           ·simp at h2
           ·simp at h2;rw [h2.1];exact qq2 h3
          go_wp2_with (first
           | (at_builtin;refine wpList_append_own_at _ rfl _ _ 269 rfl (w.heap.size+1+1+1) 159 inf (cv 0 0) 2 16 Tryz.underlying269 hi hz0 hz1 hz2 rfl (by decide) (.slice (some ⟨gr2,0,none⟩) s2.q.length capr2) _ _ rfl (qq8 hown6 ((Fr.refl [] w6).alloc _) (by simp)) ⟨w6.heap.size,0,none⟩ 1 1 [ii nx,ii ny] rfl rfl (zx7 w6 [ii nx,ii ny] _ _ rfl) (by simp [Value.oneCell']) (by unfold maxLen;omega) (by omega) (by simp;omega) ?_;intro v' w7 hown7 hgrow7 hnil7 hloc7)
           | fail)
          go_roundw
          case rel =>
           have hbase:∀ q,(Value.slice (some ⟨gr2,0,none⟩) s2.q.length capr2).ownBlock=some q->q∈[bb]\/W3.heap.size<=q:=by
            intro q hq;simp [Value.ownBlock] at hq;right;omega
           refine ⟨m+1,⟨s2.q ++ [(nx,ny)],fun q=>if q=(nx,ny) then some (f1,f2) else s2.g q⟩,by go_num,hmlt,HV2.out.add (nx,ny) (f1,f2) HK.out hnon,?_,?_,?_,?_,?_,?_,?_⟩
           ·rw [<- HIN.out,HD.out,bIn,HK.out,HFB.out,HEB.out];simp [hk0,HZ.out]
           ·simp only
            rw [List.getElem?_append_left hk2];exact HC2.out
           ·simpa [zq1] using hown7
           ·intro b' hb'
            rcases hloc7 with h|h
            ·rw [h] at hb';simp [Value.ownBlock] at hb';omega
            ·rw [h] at hb';simp at hb';omega
           ·have:=hmf6.fr ((Fr.refl [] w6).alloc (.cells #[ii nx,ii ny] 159)) (by simp)
            rw [yx0]
            obtain ⟨l,es,clock,hb1,r2⟩:=this
            refine ⟨l,es,clock,?_,r2⟩
            rw [hgrow7.block bb (by simp;omega) (by simp [Value.ownBlock];omega)]
            exact hb1
           ·exact ((hf25.trans hf6 (by simp)).alloc _).grown hgrow7 hbase
           ·obtain ⟨h1,h2⟩:=qq8 hnown6 ((Fr.refl [] w6).alloc (.cells #[ii nx,ii ny] 159)) (by simp)
            refine ⟨h1,?_⟩
            rcases h2 with ⟨h2,_⟩|⟨g,c,cur,h2,h3,h4,h5⟩
            ·simp at h2
            ·refine Or.inr ⟨g,c,cur,h2,h3,?_,h5⟩
             simp at h2
             rw [hgrow7.block g (qq2 h4) (by simp [Value.ownBlock];omega)]
             exact h4
          case measure=>simp [intOf];omega
         ·go_wp2_with (refine wpList_store_row rfl 159 _ _ rfl (w.heap.size+1+1) #[ii f1,ii f2] rfl rfl 159 _ HC5.out qw1 rfl (fv6 _ _) ?_)
          have hrow:=setRow_heap _ _ _ #[ii f1,ii f2] _ _ HC5.out
          have hf7:Fr [] w5 w5:=Fr.refl _ _
          have hmf7:MapF (w5.setRow (w.heap.size+1+1) #[ii f1,ii f2]) bb (jv3 s2.g):=by
           obtain ⟨l,es,clock,hb1,r2⟩:=hmf5
           exact ⟨l,es,clock,by rw [setRow_other _ _ _ _ (by omega)];exact hb1,r2⟩
          obtain ⟨w8,hclr,hmf8,hf8⟩:=yv8 hmf7 206 0 159 #[false] Tryz.underlying206
          have hres:R=(f1,f2):=by
           rw [<- HO.out]
           refine yj7 (by omega) HC.out ?_
           rw [HRin.out,<- HIN.out,HD.out,bIn,HK.out,HFB.out,HEB.out]
           simp [hk0,HZ.out]
          rw [hres]
          refine ⟨_,_,_,_,_,_,w8,rfl,hclr,_,results_cell_row Tryz.results220 _ _ (w.heap.size+1+1) 159 _ (0,0) _ rfl (hf8.heap hrow (by simp;omega)) Tryz.underlying159 rfl qw1,rfl,?_,hmf8⟩
          exact ((hfw2.then0 hfE).setRow _ _ (Or.inr (by omega))).trans hf8 (by simp)
        ·go_wp2_with fail
         have hT15:(w3.alloc (.cells #[ii nx,ii ny] 159)).heap[w3.heap.size]?=some (.cells #[ii nx,ii ny] 159):=qq6 w3 _
         have hfC:Fr [] w3 (w3.alloc (.cells #[ii nx,ii ny] 159)):=(Fr.refl _ _).alloc _
         refine (kk1 nx ny gx gy eb _ (((hfw3.then0 hfC).cell eb 0 (qq1 hgx) (by simp;omega)).trans hgx) (((hfw3.then0 hfC).cell eb 1 (qq1 hgx) (by simp;omega)).trans hgy)).mono ?_
         rintro e w5 ⟨rfl,hf5⟩
         rw [HE.out nx ny]
         have hfD:=hfC.then0 hf5
         have hfE:=hfB.then0 hfD
         have hT15':=hf5.heap0 hT15
         have t0:w5.cell? ⟨w3.heap.size,0,none⟩=some (ii nx):=j9 hT15'
         have t1:w5.cell? ⟨w3.heap.size,1,none⟩=some (ii ny):=j9 hT15'
         have hl15:=qq2 hT15'
         have hT12':=hfD.heap0 HT.out
         have s0:w5.cell? ⟨wr.heap.size,0,none⟩=some (ii nx):=j9 hT12'
         have s1:w5.cell? ⟨wr.heap.size,1,none⟩=some (ii ny):=j9 hT12'
         have hl12':=qq2 hT12'
         have a5:w5.cell? ⟨w.heap.size,0,none⟩=some (.map (some bb)):=by rw [hfE.cell _ _ l0 (by simp)];exact a2
         have hC5:=hfE.heap0 hC3.out
         have hl5:=qq2 hC5
         have l50:w.heap.size < w5.heap.size:=by omega
         have HT15:=(show Hid _ from hT15')
         have HT12:=(show Hid _ from hT12')
         have HC5:=hid hC5
         clear hT15 hT15' hT12' hC5
         have hown5:=qq8 hown2 hfE (by simp)
         have hnown5:=qq8 hnown2 hfE (by simp)
         have hmf5:=hmf2.fr hfE (by simp)
         have hf25:=hf2.then0 hfE
         obtain ⟨eb,heb⟩:∃ b,E (nx,ny)=b:=⟨_,rfl⟩
         rw [heb]
         have HEB:=hid heb
         clear heb
         cases eb
         ·obtain ⟨w6,hup,hmf6,hf6,hsz6⟩:=jw9 hmf5 206 159 Tryz.underlying206 nx ny (cv nx ny)
          have hown6:=qq8 hown5 hf6 (by intro q hq;simp [Value.ownBlock] at hq;simp;omega)
          have hnown6:=qq8 hnown5 hf6 (by intro q hq;simp [Value.ownBlock] at hq;simp;omega)
          have r0:w6.cell? ⟨wr.heap.size,0,none⟩=some (ii nx):=by rw [hf6.cell _ _ hl12' (by simp;omega)];exact s0
          have r1:w6.cell? ⟨wr.heap.size,1,none⟩=some (ii ny):=by rw [hf6.cell _ _ hl12' (by simp;omega)];exact s1
          have hl126:wr.heap.size < w6.heap.size:=by omega
          have hsz26:w.heap.size+1+1+1<=w6.heap.size:=by omega
          have hgnl6:gn' < w6.heap.size:=by
           obtain ⟨_,h2⟩:=hnown6
           rcases h2 with ⟨h2,_⟩|⟨g,c,cur,h2,_,h3,_⟩
           ·simp at h2
           ·simp at h2;rw [h2.1];exact qq2 h3
          go_wp2_with (first
           | (at_builtin;refine wpList_append_own_at _ rfl _ _ 269 rfl (w.heap.size+1+1+1) 159 inf (cv 0 0) 2 16 Tryz.underlying269 hi hz0 hz1 hz2 rfl (by decide) (.slice (some ⟨gr2,0,none⟩) s2.q.length capr2) _ _ rfl (qq8 hown6 ((Fr.refl [] w6).alloc _) (by simp)) ⟨w6.heap.size,0,none⟩ 1 1 [ii nx,ii ny] rfl rfl (zx7 w6 [ii nx,ii ny] _ _ rfl) (by simp [Value.oneCell']) (by unfold maxLen;omega) (by omega) (by simp;omega) ?_;intro v' w7 hown7 hgrow7 hnil7 hloc7)
           | fail)
          go_roundw
          case rel =>
           have hbase:∀ q,(Value.slice (some ⟨gr2,0,none⟩) s2.q.length capr2).ownBlock=some q->q∈[bb]\/W3.heap.size<=q:=by
            intro q hq;simp [Value.ownBlock] at hq;right;omega
           refine ⟨m+1,⟨s2.q ++ [(nx,ny)],fun q=>if q=(nx,ny) then some (nx,ny) else s2.g q⟩,by go_num,hmlt,HV2.out.add (nx,ny) (nx,ny) HK.out hnon,?_,?_,?_,?_,?_,?_,?_⟩
           ·rw [<- HIN.out,HD.out,bIn,HK.out,HFB.out,HEB.out];simp [hk0]
           ·simp only
            rw [List.getElem?_append_left hk2];exact HC2.out
           ·simpa [zq1] using hown7
           ·intro b' hb'
            rcases hloc7 with h|h
            ·rw [h] at hb';simp [Value.ownBlock] at hb';omega
            ·rw [h] at hb';simp at hb';omega
           ·have:=hmf6.fr ((Fr.refl [] w6).alloc (.cells #[ii nx,ii ny] 159)) (by simp)
            rw [yx0]
            obtain ⟨l,es,clock,hb1,r2⟩:=this
            refine ⟨l,es,clock,?_,r2⟩
            rw [hgrow7.block bb (by simp;omega) (by simp [Value.ownBlock];omega)]
            exact hb1
           ·exact ((hf25.trans hf6 (by simp)).alloc _).grown hgrow7 hbase
           ·obtain ⟨h1,h2⟩:=qq8 hnown6 ((Fr.refl [] w6).alloc (.cells #[ii nx,ii ny] 159)) (by simp)
            refine ⟨h1,?_⟩
            rcases h2 with ⟨h2,_⟩|⟨g,c,cur,h2,h3,h4,h5⟩
            ·simp at h2
            ·refine Or.inr ⟨g,c,cur,h2,h3,?_,h5⟩
             simp at h2
             rw [hgrow7.block g (qq2 h4) (by simp [Value.ownBlock];omega)]
             exact h4
          case measure=>simp [intOf];omega
         ·go_wp2_with (refine wpList_store_row rfl 159 _ _ rfl (w.heap.size+1+1) #[ii nx,ii ny] rfl rfl 159 _ HC5.out qw1 rfl (fv6 _ _) ?_)
          have hrow:=setRow_heap _ _ _ #[ii nx,ii ny] _ _ HC5.out
          have hf7:Fr [] w5 w5:=Fr.refl _ _
          have hmf7:MapF (w5.setRow (w.heap.size+1+1) #[ii nx,ii ny]) bb (jv3 s2.g):=by
           obtain ⟨l,es,clock,hb1,r2⟩:=hmf5
           exact ⟨l,es,clock,by rw [setRow_other _ _ _ _ (by omega)];exact hb1,r2⟩
          obtain ⟨w8,hclr,hmf8,hf8⟩:=yv8 hmf7 206 0 159 #[false] Tryz.underlying206
          have hres:R=(nx,ny):=by
           rw [<- HO.out]
           refine yj7 (by omega) HC.out ?_
           rw [HRin.out,<- HIN.out,HD.out,bIn,HK.out,HFB.out,HEB.out]
           simp [hk0]
          rw [hres]
          refine ⟨_,_,_,_,_,_,w8,rfl,hclr,_,results_cell_row Tryz.results220 _ _ (w.heap.size+1+1) 159 _ (0,0) _ rfl (hf8.heap hrow (by simp;omega)) Tryz.underlying159 rfl qw1,rfl,?_,hmf8⟩
          exact ((hfw2.then0 hfE).setRow _ _ (Or.inr (by omega))).trans hf8 (by simp)
      ·go_wp2_with fail
       go_roundw
       case rel =>
        refine ⟨m+1,s2,by go_num,hmlt,HV2.out,?_,HC2.out,qq8 hown2 (((Fr.refl [] wr).alloc _).alloc _) (by simp),?_,hmf2.fr (((Fr.refl [] wr).alloc _).alloc _) (by simp),(hf2.alloc _).alloc _,qq8 hnown2 (((Fr.refl [] wr).alloc _).alloc _) (by simp)⟩
        ·rw [<- HIN.out,HD.out,bIn,HK.out];simp
        ·intro b' hb';simp [Value.ownBlock] at hb';omega
       case measure=>simp [intOf];omega
     ·have hdn:(qj0 cx cy).drop m=[]:=by rw [List.drop_eq_nil_iff];omega
      have hfin:Rin=.inr s2:=by rw [<- HIN.out,hdn,bIn]
      have HFIN:=hid hfin
      clear hdn hfin
      go_wp2_with fail
      go_roundw
      case rel =>
       refine ⟨k+1,s2,by go_num,by omega,HV2.out,?_,hown2,hmf2,hf2⟩
       rw [<- HO.out]
       exact (kz9 (by omega) HC.out (by rw [HRin.out,HFIN.out])).symm
      case measure=>simp [intOf];omega
  · have hke:k=s.q.length:=by omega
    have HE2:Hid (R=(fx,fy)):=by show R=_;rw [<- HO.out];exact kz8 hke
    obtain ⟨gr,capr,hr9,hgr,hgrl⟩:=jw6 hown hq0
    subst hr9
    clear hke
    go_wp2_with (refine wpList_store_row rfl 159 _ _ rfl (w.heap.size+1+1) #[ii fx,ii fy] rfl rfl 159 _ hC2.out qw1 rfl (fv6 _ _) ?_)
    have hrow:=setRow_heap _ _ _ #[ii fx,ii fy] _ _ hC2.out
    have hmf7:MapF (wo.setRow (w.heap.size+1+1) #[ii fx,ii fy]) bb (jv3 s.g):=by
     obtain ⟨l,es,clock,hb1,r2⟩:=hmf
     exact ⟨l,es,clock,by rw [setRow_other _ _ _ _ (by omega)];exact hb1,r2⟩
    obtain ⟨w8,hclr,hmf8,hf8⟩:=yv8 hmf7 206 0 159 #[false] Tryz.underlying206
    rw [HE2.out]
    refine ⟨_,_,_,_,_,_,w8,rfl,hclr,_,results_cell_row Tryz.results220 _ _ (w.heap.size+1+1) 159 _ (0,0) _ rfl (hf8.heap hrow (by simp;omega)) Tryz.underlying159 rfl qw1,rfl,?_,hmf8⟩
    exact (hfw.setRow _ _ (Or.inr (by omega))).trans hf8 (by simp)
end Go.Proofs.YtapabahhfanmmaaGreatDoor
