import Derived.Test.YtapabahhfanmmaaGreatDoorCRefP
namespace Go.Proofs.YtapabahhfanmmaaGreatDoor
open Go.RowKit List Go.Proofs.Tryz
set_option maxHeartbeats 2000000
set_option maxRecDepth 100000
set_option maxRecDepth 100000
theorem Bi(c y n:Nat)(z:T)(C p q b d g h i e f Q O P N:Int)(a:World)(E:RG a c y n z)(M:Int)(A:Hi (∀j:World,GV j c y n z.us->Cs 177 #[pt c,ii b] j (R1 j (ii M)))):Cs 178 #[pt c,(⟨d,g,1,h,i,e,f,Q,O,P,N⟩:U).val,(⟨C,3,p,q,b⟩:Cm).val] a (R0 a (.tuple #[(⟨d,g,1,h,i,e,f,3,0,0,b⟩:U).val,.bool false])):=by
 delta Cs;go_in
 go_wp2_with (first|(go_at_call 185;refine(fC _ _ _).mono ?_;rintro D Y ⟨rfl,rfl⟩)|(go_at_call 177;refine((A.o _ (RG.gv (E.qF ((((r0 _ _).alloc _).alloc _).alloc _)))).mono ?_);rintro D w2 ⟨rfl,rfl⟩))
 refine gR λm w s r J W X=>?_;have V:=w;have l:=λk (t:Fr [a.heap.size+1+1] m k)=>by exact gO (t.heap s qt) (t.heap r qs)
 have B:=l _ (r0 _ m).drew;clear s r;refine wp_region_held_drew (S:=λk:World=>gF a.heap.size d g 1 h i e f 3 0 0 b p q k) qk B (λH=>?_);refine(show wpAnyH prog Region.Mode.any _ _ _ 23 (Array.replicate 23 false) _ _ from ?_)
 iterate 21 refine tn 23 H ?_
 refine rd 21 fun K hK=>?_;go_simp;refine gQ (u:=zeroU) J fun R x F=>?_;have L:=l _ x;refine hK.out _ _ L (fun I=>?_);clear hK K;try simp only[Act.put,Z]
 refine ta 22 I ?_;refine wpAnyH_done qk ?_ _;go_wp2;exact Zq8 (v:=.tuple #[(⟨d,g,1,h,i,e,f,3,0,0,b⟩:U).val,.bool false]) (cD Zz3 _ _ (a.heap.size+1+1) 85 _ (0,0) _ _ rfl rfl F Q3 rfl aS) rfl ⟨rfl,w.trans x qt⟩
theorem Bj(c y n:Nat)(z:T)(C p q b d g h i e f Q O P N:Int)(a:World)(E:RG a c y n z)(M:Int)(A:Hi (∀j:World,GV j c y n z.us->Cs 177 #[pt c,ii b] j (R1 j (ii M)))):Cs 178 #[pt c,(⟨d,g,2,h,i,e,f,Q,O,P,N⟩:U).val,(⟨C,3,p,q,b⟩:Cm).val] a (R0 a (.tuple #[(⟨d,g,2,h,i,e,f,3,0,0,b⟩:U).val,.bool false])):=by
 delta Cs;go_in
 go_wp2_with (first|(go_at_call 185;refine(fC _ _ _).mono ?_;rintro D Y ⟨rfl,rfl⟩)|(go_at_call 177;refine((A.o _ (RG.gv (E.qF ((((r0 _ _).alloc _).alloc _).alloc _)))).mono ?_);rintro D w2 ⟨rfl,rfl⟩))
 refine gR λm w s r J W X=>?_;have V:=w;have l:=λk (t:Fr [a.heap.size+1+1] m k)=>by exact gO (t.heap s qt) (t.heap r qs)
 have B:=l _ (r0 _ m).drew;clear s r;refine wp_region_held_drew (S:=λk:World=>gF a.heap.size d g 2 h i e f 3 0 0 b p q k) qk B (λH=>?_);refine(show wpAnyH prog Region.Mode.any _ _ _ 23 (Array.replicate 23 false) _ _ from ?_)
 iterate 21 refine tn 23 H ?_
 refine rd 21 fun K hK=>?_;go_simp;refine gQ (u:=zeroU) J fun R x F=>?_;have L:=l _ x;refine hK.out _ _ L (fun I=>?_);clear hK K;try simp only[Act.put,Z]
 refine ta 22 I ?_;refine wpAnyH_done qk ?_ _;go_wp2;exact Zq8 (v:=.tuple #[(⟨d,g,2,h,i,e,f,3,0,0,b⟩:U).val,.bool false]) (cD Zz3 _ _ (a.heap.size+1+1) 85 _ (0,0) _ _ rfl rfl F Q3 rfl aS) rfl ⟨rfl,w.trans x qt⟩
theorem Bl(c y n:Nat)(z:T)(C p q b d g h i e f P N O M:Int)(a:World)(E:RG a c y n z)(A:Hi (∀j:World,GV j c y n z.us->Cs 177 #[pt c,ii b] j (R1 j (ii (-1))))):Cs 178 #[pt c,(⟨d,g,3,h,i,e,f,P,N,O,M⟩:U).val,(⟨C,3,p,q,b⟩:Cm).val] a (R0 a (.tuple #[(⟨d,g,3,h,i,e,f,3,0,0,b⟩:U).val,.bool false])):=by
 delta Cs;go_in
 go_wp2_with (first|(go_at_call 185;refine(fC _ _ _).mono ?_;rintro D X ⟨rfl,rfl⟩)|(go_at_call 177;refine((A.o _ (RG.gv (E.qF ((((r0 _ _).alloc _).alloc _).alloc _)))).mono ?_);rintro D Y ⟨rfl,rfl⟩))
 refine gR λm w s r J V W=>?_;have R:=w;have l:=λk (t:Fr [a.heap.size+1+1] m k)=>by exact gO (t.heap s qt) (t.heap r qs)
 have B:=l _ (r0 _ m).drew;clear s r;refine wp_region_held_drew (S:=λk:World=>gF a.heap.size d g 3 h i e f 3 0 0 b p q k) qk B (λH=>?_);refine(show wpAnyH prog Region.Mode.any _ _ _ 23 (Array.replicate 23 false) _ _ from ?_)
 iterate 21 refine tn 23 H ?_
 refine rd 21 fun K hK=>?_;go_simp;refine gQ (u:=zeroU) J fun Q x F=>?_;have L:=l _ x;refine hK.out _ _ L (fun I=>?_);clear hK K;try simp only[Act.put,Z]
 refine ta 22 I ?_;refine wpAnyH_done qk ?_ _;go_wp2;exact Zq8 (v:=.tuple #[(⟨d,g,3,h,i,e,f,3,0,0,b⟩:U).val,.bool false]) (cD Zz3 _ _ (a.heap.size+1+1) 85 _ (0,0) _ _ rfl rfl F Q3 rfl aS) rfl ⟨rfl,w.trans x qt⟩
theorem Bm(c f l:Nat)(g:T)(J x y i m h r s n q W S V R:Int)(b:World)(j:RG b c f l g)(e:Nat)(k:U)(E:g.us[e]?=some k)(H:Hi (∀v:World,GV v c f l g.us->Cs 177 #[pt c,ii i] v (R1 v (ii e)))):Cs 178 #[pt c,(⟨m,h,3,r,s,n,q,W,S,V,R⟩:U).val,(⟨J,3,x,y,i⟩:Cm).val] b (R0 b (.tuple #[(⟨m,h,3,r,s,n,q,3,0,0,i⟩:U).val,.bool (k.owner !=h)])):=by
 delta Cs;go_in
 go_wp2_with (first|(go_at_call 185;refine(fC _ _ _).mono ?_;rintro L w1 ⟨rfl,rfl⟩)|(go_at_call 177;refine((H.o _ (RG.gv (j.qF ((((r0 _ _).alloc _).alloc _).alloc _)))).mono ?_);rintro L w2 ⟨rfl,rfl⟩))
 refine gR λw B A z P ad ae=>?_;have aa:=(gs.1 E).1;have ab:(e:Int)<(g.us.length:Int):=qo;have Y:0<=(e:Int):=qo;have ac:=j.len;have F:∀a,Fr [b.heap.size+1+1] w a->a.cell? ⟨c,148,none⟩=some (.slice (so f) g.us.length l)/\a.cell? ⟨f,e*11+1,none⟩=some (ii k.owner):=λa d=>by have D:=(j.qF B).fr d (by have:=j.lt;simp;omega) (by have:=j.pl;simp;omega);exact⟨D.qA,(D.gv.p.at E).2.1⟩
 have t:∀a,Fr [b.heap.size+1+1] w a->(λa:World=>ca a c 148 (.slice (so f) g.us.length l)/\ca a f (e*11+1) (ii k.owner)/\gF b.heap.size m h 3 r s n q 3 0 0 i x y a) a:=λa d=>by exact⟨(F a d).1,(F a d).2,gO (d.heap A qt) (d.heap z qs)⟩
 have I:=t _ (r0 _ w).drew;clear A z;refine rg 23 t I λN=>?_
 iterate 21 refine tn 23 N ?_
 refine rd 21 fun K hK=>?_;go_simp;refine gQ (u:=zeroU) P fun X C M=>?_;have Q:=t _ C;refine hK.out _ _ Q (fun O=>?_);clear hK K;try simp only[Act.put,Z]
 refine ta 22 O ?_;refine wpAnyH_done qk ?_ _;go_wp2;exact Zq8 (v:=.tuple #[(⟨m,h,3,r,s,n,q,3,0,0,i⟩:U).val,.bool (k.owner !=h)]) (cD Zz3 _ _ (b.heap.size+1+1) 85 _ (0,0) _ _ rfl rfl M Q3 rfl aS) rfl ⟨rfl,B.trans C qt⟩
variable {X:List U} {a:Nat} {t:T} {C D:U}
theorem fX{a b:Bool}(c:C=D)(d:a=b):Ending.returned (.tuple #[C.val,.bool a])=.returned (.tuple #[D.val,.bool b]):=qg
theorem YY{id:Int}(b:bI X id=some a)(c:X[a]?=some C):look X id=some C:=by unfold bI at b;rw[findIdx?_eq_some_iff_getElem]at b;grind[look,find?_eq_some_iff_getElem,getElem?_eq_getElem,Option.some.inj]
theorem YW{id:Int}(a:bI X id=none):look X id=none:=by grind[bI,look]
theorem JX(m:Nat)(b:U)(a:Cm)(c:World)(e:Bool)(g:(a.what=0/\e=true)\/((a.what==0)=false/\(a.what==1)=false/\(a.what==2)=false/\(a.what==3)=false/\(a.what==4)=false/\e=false)):Cs 178 #[pt m,b.val,a.val] c (R0 c (.tuple #[({b with what:=a.what,tox:=0,toy:=0,target:=0}:U).val,.bool e])):=by
 obtain⟨i,d,j,k,h⟩:=a;dsimp only at g |-;have f:=kO c (.cells ({b with what:=d,tox:=0,toy:=0,target:=0}:U).arr 85) (.cells #[ii i,ii d,ii j,ii k,ii h] 81) (.cells zeroU.arr 85);obtain⟨rfl,rfl⟩|⟨o,p,q,r,s,rfl⟩:=g
 ·delta Cs;go_in
  go_wp2_with (first|(go_at_call 185;refine(fC _ _ _).mono ?_;rintro l n ⟨rfl,rfl⟩)|(refine wpList_store_row rfl 85 _ _ rfl (c.heap.size+1+1) ({b with what:=0,tox:=0,toy:=0,target:=0}:U).arr rfl rfl 85 zeroU.arr f aS rfl (U.one _) ?_))
  exact Zq8 (v:=.tuple #[({b with what:=0,tox:=0,toy:=0,target:=0}:U).val,.bool true]) (cD Zz3 _ _ (c.heap.size+1+1) 85 _ (0,0) _ _ rfl rfl (by grind[setRow_heap]) Q3 rfl aS) rfl (by grind[Fr.setRow,Fr.alloc,r0])
 delta Cs;go_in
 go_wp2_with (first|(go_at_call 185;refine(fC _ _ _).mono ?_;rintro l n ⟨rfl,rfl⟩)|(refine wpList_store_row rfl 85 _ _ rfl (c.heap.size+1+1) ({b with what:=d,tox:=0,toy:=0,target:=0}:U).arr rfl rfl 85 zeroU.arr f aS rfl (U.one _) ?_))
 exact Zq8 (v:=.tuple #[({b with what:=d,tox:=0,toy:=0,target:=0}:U).val,.bool false]) (cD Zz3 _ _ (c.heap.size+1+1) 85 _ (0,0) _ _ rfl rfl (by grind[setRow_heap]) Q3 rfl aS) rfl (by grind[Fr.setRow,Fr.alloc,r0])
theorem MK(c x w:Nat)(v:T)(z:U)(D:Cm)(d:World)(y:RG d c x w v)(B:z.kind=1\/z.kind=2\/z.kind=3):Cs 178 #[pt c,z.val,D.val] d (R0 d (.tuple #[(kF z D).val,.bool (bZ v z D)])):=by
 obtain⟨h,C,e,f,g⟩:=D;obtain⟨j,m,V,r,s,k,l,q,o,p,n⟩:=z;dsimp only at B;have A:=aA (λH O=>pD c x w v.us g H O)
 by_cases I:C=0
 ·refine cm (JX c _ _ d true qg) ?_;rintro i t ⟨rfl,a⟩;subst I;exact⟨fX rfl rfl,a⟩
 by_cases J:C=1
 ·subst J;cases u:aE e f
  ·obtain rfl|rfl|rfl:=B
   ·exact(JU c h e f g j m r s k l q o p n d).mono λi t ⟨b,a⟩=>⟨b.trans (fX rfl (by simp[bZ])),a⟩
   ·exact(Az c h e f g j m r s k l q o p n d u).mono λi t ⟨b,a⟩=>⟨b.trans (fX rfl (by simp[bZ,u])),a⟩
   exact(Bb c h e f g j m r s k l q o p n d u).mono λi t ⟨b,a⟩=>⟨b.trans (fX rfl (by simp[bZ,u])),a⟩
  obtain rfl|rfl|rfl:=B
  ·exact(JU c h e f g j m r s k l q o p n d).mono λi t ⟨b,a⟩=>⟨b.trans (fX rfl (by simp[bZ])),a⟩
  ·exact(Ba c x w v h e f g j m r s k l q o p n d y u _ rfl).mono λi t ⟨b,a⟩=>⟨b.trans (fX rfl (by simp[bZ,u])),a⟩
  exact(Bc c x w v h e f g j m r s k l q o p n d y u _ rfl).mono λi t ⟨b,a⟩=>⟨b.trans (fX rfl (by simp[bZ,u])),a⟩
 by_cases L:C=2
 ·subst L;obtain rfl|rfl|rfl:=B
  ·exact(Bd c h e f g j m r s k l q o p n d).mono λi t ⟨b,a⟩=>⟨b.trans (fX rfl (by simp[bZ])),a⟩
  ·cases u:aE e f
   ·exact(Be c h e f g j m r s k l q o p n d u).mono λi t ⟨b,a⟩=>⟨b.trans (fX rfl (by simp[bZ,u])),a⟩
   by_cases Q:0<v.bd (ci e f)
   ·exact(Bf c x w v h e f g j m r s k l q o p n d y u _ rfl Q).mono λi t ⟨b,a⟩=>⟨b.trans (fX rfl (by grind[bZ,jB])),a⟩
   exact(Bg c x w v h e f g j m r s k l q o p n d y u _ rfl qg).mono λi t ⟨b,a⟩=>⟨b.trans (fX rfl (by grind[bZ,jB])),a⟩
  exact(Bh c h e f g j m r s k l q o p n d).mono λi t ⟨b,a⟩=>⟨b.trans (fX rfl (by simp[bZ])),a⟩
 by_cases M:C=3
 ·subst M;obtain rfl|rfl|rfl:=B
  ·exact(Bi c x w v h e f g j m r s k l q o p n d y _ A).mono λi t ⟨b,a⟩=>⟨b.trans (fX rfl (by simp[bZ])),a⟩
  ·exact(Bj c x w v h e f g j m r s k l q o p n d y _ A).mono λi t ⟨b,a⟩=>⟨b.trans (fX rfl (by simp[bZ])),a⟩
  cases E:bI v.us g with
  |none=>rw[E]at A;exact(Bl c x w v h e f g j m r s k l q o p n d y A).mono λi t ⟨b,a⟩=>⟨b.trans (fX rfl (by simp[bZ,iC,YW E])),a⟩
  |some R=>obtain⟨S,P,_⟩:=kU E;rw[E]at A;exact(Bm c x w v h e f g j m r s k l q o p n d y R S P A).mono λi t ⟨b,a⟩=>⟨b.trans (fX rfl (by grind[bZ,iC,YY])),a⟩
 by_cases N:C=4
 ·subst N;obtain rfl|rfl|rfl:=B
  ·by_cases F:e=2
   ·subst F;exact(Bo c h f g j m r s k l q o p n d).mono λi t ⟨b,a⟩=>⟨b.trans (fX rfl (by simp[bZ])),a⟩
   exact(Bn c h e f g j m r s k l q o p n d qg).mono λi t ⟨b,a⟩=>⟨b.trans (fX rfl (by simp[bZ,F])),a⟩
  ·exact(Bp c h e f g j m r s k l q o p n d).mono λi t ⟨b,a⟩=>⟨b.trans (fX rfl (by simp[bZ])),a⟩
  exact(Bq c h e f g j m r s k l q o p n d).mono λi t ⟨b,a⟩=>⟨b.trans (fX rfl (by simp[bZ])),a⟩
 simp_all[JX,kF,bZ]
theorem Fw{a:Cm}(b:bZ t C a=true):kF C a=C.ordered (fU a):=by unfold bZ at b;unfold kF fU U.ordered;grind
variable {R:List Value} {b c d:Nat} {H:TypeId} {v:Value} {w:World}
theorem GA:(prog.info? 3).map (λa=>(a.zero,a.size,a.bytes))=some (some (ii 0),1,8):=qk
theorem GC:(prog.info? 25).map (λa=>(a.zero,a.size,a.bytes))=some (some (.slice none 0 0),1,24):=qk
theorem GD:(prog.info? 46).map (λa=>(a.zero,a.size,a.bytes))=some (some (.slice none 0 0),1,24):=qk
abbrev gM(a:List Value):List Nat:=a.filterMap Value.ownBlock
theorem BI(c:R[a]?=some v)(d:v.ownBlock=some b):b∈gM R:=qg
structure OPI (w:World) (bb N rb base:Nat) (K:List Nat) (vs:List Value) (i:Nat) (wr:World):Prop where
 ex:∃rv xs nx KL,BR wr bb rv xs nx/\BL wr KL xs/\(xs 0).length=(xs 1).length/\((xs 3).length=(xs 4).length/\(xs 5).length=(xs 7).length/\(xs 6).length=(xs 8).length)/\(xs 0).length<=8*N+4*i/\(xs 2).length<=3*N/\((xs 3).length<=4*N/\(xs 5).length<=3*N/\(xs 6).length<=3*N) /\ -(3*(N:Int))-i<=nx/\nx<=0/\(∀k,k<9->∀g,(rv k).ownBlock=some g->g∈K\/w.heap.size<=g)/\(∀b∈KL,(b∈K\/b∈gM vs\/w.heap.size<=b)/\b<wr.heap.size/\∀k,k<9->(rv k).ownBlock≠some b)/\(∀j v b,i<=j->vs[j]?=some v->v.ownBlock=some b->b∉KL)
 l:wr.heap[rb]?=some (.cells vs.toArray 25)
 own:∀j v,i<=j->vs[j]?=some v->∃n cs,n<=2000000/\wr.ownsRow base 3 1 v n cs
 fr:Fr (bb::(K++(rb::gM vs))) w wr
structure OwnP (w:World) (bb N:Nat) (K D:List Nat) (w':World):Prop where
 ex:∃K',Bk w' bb K' (N+1)/\∀x∈K',x∈K\/x∈D\/w.heap.size<=x
 fr:Fr (bb::(K++D)) w w'
structure FillI (W:World) (base n:Nat) (e:TypeId) (v:Value) (cs:List Value) (pat:Nat->Value) (k:Nat) (wr:World):Prop where
 own:wr.ownsRow base e 1 v n (aW 1 pat k++cs.drop k)
 fr:Fr v.ownBlock.toList W wr
theorem FillI.put{base:Nat}{e:Nat->Value}{wr:World}(n:∀d,e (d+1)=e d)(g:FillI w base a H (.slice (so b) a c) R e d wr)(t:d<a)(s:R.length=a):FillI w base a H (.slice (so b) a c) R e (d+1) (wr.setCell ⟨b,d,none⟩ (e 0)):=by
 refine⟨?_,g.fr.setCell _ _ (.inl (by simp[Value.ownBlock]))⟩;obtain⟨r,f⟩:=g.own;obtain⟨f,_⟩|⟨q,p,h,H,j,l,k,m,u,o⟩:=f
 ·cases f
 cases H;refine⟨by grind[iD],.inr ⟨b,c,h.setIfInBounds d (e 0),rfl,j,cJ l _ _,k,m,by grind,?_⟩⟩;rw[Array.toList_setIfInBounds,take_set,o];rw[<-pA n d 1];rw[Zz1 _ _ qg,iD,X0];congr 1;rw[show d-d*1=0 by omega,Zz2 qo];rfl
theorem KI(j aj i base:Nat)(K:List Nat)(d:List Value)(aa:World)(av:Bk aa j K aj)(hN:aj<=2200000)(jv:d.length<=2)(P:aa.heap[i]?=some (.cells d.toArray 25))(Zw:base<=i)(jh:j<base)(hK:∀ab∈K,ab<base)(hown:∀(l:Nat) (E:Value),d[l]?=some E->∃g cs,g<=2000000/\aa.ownsRow base 3 1 E g cs)(fe:∀(w l:Nat) (E v':Value) (p:Nat),w≠l->d[w]?=some E->d[l]?=some v'->E.ownBlock=some p->v'.ownBlock≠some p):Cs 98 #[pt j,.slice (so i) d.length d.length] aa λe w'=>e=.returned (.tuple #[])/\OwnP aa j aj K (i::gM d) w':=by
 obtain⟨dg,cy,dd,de,df⟩:=Z2 GA;obtain⟨ed,dv,ea,eb,ec⟩:=Z2 GC;obtain⟨jd,ih,iz,ja,jb⟩:=Z2 GD;have jw:base<=aa.heap.size:=by have:=aH P;omega
 have Zr:Hi (∀(l:Nat) (E:Value) (a:Nat),d[l]?=some E->E.ownBlock=some a->base<=a/\a<aa.heap.size/\a≠i/\a∉K/\a≠j):=λl E a hv h=>by
  obtain⟨g,cs,_,H⟩:=hown l E hv;obtain⟨q1,q2⟩:=H.lt a h;refine⟨q1,q2,λe=>?_,λe=>by have:=hK a e;omega,by omega⟩;subst e;obtain⟨rfl,_⟩|⟨p,ey,ac,rfl,_,hh,_⟩:=H.2
  ·cases h
  simp[Value.ownBlock]at h;subst h;rw[P]at hh;simp at hh
 have gn:Hi (OPI aa j aj i base K d 0 aa):=by obtain⟨⟨n,m,nx,I,O,Y,h3,h4,h5,h6,h7,h8,h9,aq,ae⟩,hn,dw⟩:=av;exact⟨⟨n,m,nx,I,O,Y,h3,h4,by omega,h6,h7,by omega,h9,λc k p t=>.inl (aq c k p t),λa h=>⟨.inl (ae a h).1,dw a (ae a h).1,(ae a h).2⟩,λl E a _ hv iy Q=>(Zr.o l E a hv iy).2.2.2.1 (ae a Q).1⟩,P,λl E _ hv=>hown l E hv,r0 _ _⟩
 have eh:=aA fe;have jk:j<aa.heap.size:=qo;have et:=aA av.nb;have bo:=aA (aH P);clear av P hown fe
 delta Cs;go_in
 go_wp2
 go_loopw [4] (fun w wr=>∃c:Nat,c<=d.length/\w=ii c/\OPI aa j aj i base K d c wr) (fun w _=>d.length-(intOf w).toNat)
 ·exact⟨0,Z3 _,rfl,gn.o⟩
 obtain⟨w,hi,rfl,C⟩:=hrel
 by_cases fq:w<d.length
 ·have ik:(w:Int)<(d.length:Int):=qo;obtain⟨an,bv⟩:=nm wr;rw[<-bv]at C |-;clear bv;obtain⟨E,hv⟩:∃E,d[w]?=some E:=⟨_,Y2 fq⟩;obtain⟨⟨n,m,nx,I,O,Y,h3,h4,h5,h6,h7,h8,h9,aq,ae,bi⟩,P,hown,ax⟩:=C;obtain⟨g,cs,hn,H⟩:=hown w E (Q9 _) hv;have fm:cs.length=g:=by have:=H.1;omega
  obtain⟨x,z,rfl⟩:=gL H;have fn:an.cell? ⟨i,w,none⟩=some (.slice x g z):=by rw[aB P];simpa using hv
  have Zv:=O.nxt;have io:=O.fz 9;have db:=aH P;have ic:j≠i:=qo;have ge:∀a,Value.ownBlock (.slice x g z)=some a->a≠i/\a≠j/\a∉I/\a<an.heap.size/\base<=a/\∀c,c<9->(n c).ownBlock≠some a:=λa h=>by
   have b:=Zr.o w _ a hv h;refine⟨b.2.2.1,b.2.2.2.2,bi w _ a (Q9 _) hv h,(H.lt a h).2,b.1,λc k e=>?_⟩;obtain u|u:=aq c k a e
   ·exact b.2.2.2.1 u
   omega
  have au:=aA ge;have gm:=aA O;have gk:=aA Y;have HX:=(show Hi _ from And.intro h3 (And.intro h4 (And.intro h5 (And.intro h6 (And.intro h7 (And.intro aq (And.intro ae bi)))))));have HL:=aA P;have gy:=aA hown;have bg:=aA ax;have HV:=aA hv;have HO:=aA H;clear ge O Y h3 h4 h5 h6 h7 aq ae bi P hown ax hv H
  go_wp2_with fail
  obtain⟨f,Q⟩:=nm (nx-1);rw[<-Q];obtain⟨W1,ak⟩:=nm (an.setCell ⟨j,9,none⟩ (ii f));rw[<-ak];have eo:Hi (∀a∈I,a≠j/\a≠i):=λa h=>by
   obtain b|b|b:=(HX.o.2.2.2.2.2.2.1 a h).1
   ·exact⟨λe=>et.o (e ▸ b),λe=>by have:=hK a b;omega⟩
   ·obtain⟨r,y,am⟩:=Qk4.1 b;obtain⟨l,hj⟩:=Qk9.1 y;have:=Zr.o l r a hj am;exact⟨this.2.2.2.2,this.2.2.1⟩
   have:=bg.o.size;have it:=bo.o;exact⟨by omega,by omega⟩
  have ad:Fr [j] an W1:=by rw[ak];exact(r0 _ _).setCell _ _ qs
  have ap:Hi (BR W1 j n m f):=by
   show BR W1 j n m f
   rw[ak];exact gm.o.mark f
  have di:=aA (gk.o.fr ad (λa h e=>(eo.o a h).1 (qu e)));have cx:=(ad.cell i w db qt).trans fn;have dl:=aA (aF HO.o ad (λa h e=>(au.o a h).2.1 (qu e)));have bu:=Z1 db ad.size;have il:-(3*(aj:Int))-2<=f/\f<=0:=qo;have HM:=aA Q;have bl:=aA ad;have dc:i∉(Value.ownBlock (.slice x g z)).toList:=λe=>(au.o i (qu e)).1 rfl;have el:=aA fm;clear Q ak fn Zv io ad fm
  go_loopw [6] (fun l wr=>∃c:Nat,c<=g/\l=ii c/\FillI W1 base g 3 (.slice x g z) cs (lV f) c wr) (fun l _=>g-(intOf l).toNat)
  ·exact⟨0,Z3 _,rfl,dl.o,r0 _ _⟩
  obtain⟨c,k,rfl,C⟩:=hrel;have fo:=(C.fr.cell i w bu dc).trans cx
  by_cases bs:c<g
  ·have dy:(c:Int)<(g:Int):=qo;obtain⟨gb,gc,du⟩:=bK C.own qo;have ag:∃ac:Array Value,wr.heap[gb]?=some (.cells ac 3 (0,0))/\c<ac.size:=by
    obtain⟨e,_⟩|⟨p,ey,ac,e,_,hh,hc,_,hs,_⟩:=C.own.2
    ·rw[du]at e;cases e
    rw[du]at e;cases e;exact⟨ac,hh,by omega⟩
   cases du;obtain⟨ac,ag,bq⟩:=ag;obtain⟨Zs,iq⟩:∃Zs,wr.cell? ⟨gb,c,none⟩=some Zs:=⟨_,(aB ag).trans (Zq3 bq)⟩;have ir:wr.frozen? ⟨gb,c,none⟩=false:=aV ag;have HP:=(show Hi _ from C.put (KK f) bs el.o);clear C ag bq;go_wp2;go_roundw
   ·exact⟨c+1,bs,by go_num,HP.o⟩
   simp[intOf];omega
  have dy:¬(c:Int)<(g:Int):=qo;have br:c=g:=qo;have az:=C.own;rw[br,Z6 (by rw[el.o];exact Q9 _),Zq6]at az;have ah:=C.fr;have bh:=aA az;clear C br az;obtain⟨X,bp⟩:=nm wr;rw[<-bp]at bh fo ah |-;clear bp;have iu:=ah.size;have ia:base<=X.heap.size:=by have:=bg.o.size;have:=bl.o.size;omega
  have dj:=aA ah;have Zq:Hi (∀(q:World) (cs:Array Value),q.ownsRow base 3 1 (.slice x g z) g (aW 1 (lV f) g)->(q.alloc (.cells cs 3)).ownsRow base 3 1 (.slice x g z) g (aW 1 (lV f) g)):=λq cs av=>av.alloc _;have cj:=aA (λq=>dQ q [ii f] 3);have ck:=aA (λq=>dQ q [ii f,ii f] 3);have es:=aA (λq=>dQ q [ii f,ii f,ii f] 3);clear ah
  go_wp2_with (first
   |(
     at_builtin
     refine eU rfl (.tmp 50) (.tmp 52) 25 rfl base 3 dg (ii 0) 1 8 Z5 cy dd de df rfl (.slice x g z) g (aW 1 (lV f) g) rfl (Zq.o _ _ bh.o) ⟨X.heap.size,0,none⟩ 1 1 [ii f] rfl rfl (cj.o X) qc qm qo qt qo ?_;intro v1 w3 D V v;obtain⟨M,J,rfl⟩:=bK D qo;have co:=aA D;have cg:=aA V;have cd:Hi (fQ (X.alloc (.cells #[ii f] 3)) w3 (.slice x g z) (.slice (so M) (g+1) J)):=v;have Zt:=(dj.o.alloc _).trans (bO v) (λab B=>.inl B);have ie:=(Zt.cell i w bu dc).trans cx;have iv:X.heap.size<=w3.heap.size:=(by have:=(bO v).size;simp at this;omega);have dk:=aA Zt;clear D V v Zt fo)
   |(
     at_builtin
     refine eU rfl (.tmp 57) (.tmp 60) 25 rfl base 3 dg (ii 0) 1 8 Z5 cy dd de df rfl (.slice x g z) g (aW 1 (lV f) g) rfl (Zq.o _ _ cg.o) ⟨w3.heap.size,0,none⟩ 2 2 [ii f,ii f] rfl rfl (ck.o w3) qc qm qo qt qo ?_;intro v2 A D V v;obtain⟨N,L,rfl⟩:=bK D qo;have cp:=aA D;have bn:=aA V;have ce:Hi (fQ (w3.alloc (.cells #[ii f,ii f] 3)) A (.slice x g z) (.slice (so N) (g+2) L)):=v;have dp:=(dk.o.alloc _).trans (bO v) (λab B=>.inl B);have Zu:=(dp.cell i w bu dc).trans cx;have iw:w3.heap.size<=A.heap.size:=(by have:=(bO v).size;simp at this;omega);have be:=aA dp;clear D V v dp ie)
   |(
     at_builtin
     refine eU rfl (.tmp 65) (.tmp 69) 25 rfl base 3 dg (ii 0) 1 8 Z5 cy dd de df rfl (.slice x g z) g (aW 1 (lV f) g) rfl (Zq.o _ _ bn.o) ⟨A.heap.size,0,none⟩ 3 3 [ii f,ii f,ii f] rfl rfl (es.o A) qc qm qo qt qo ?_;intro v3 F D V v;obtain⟨g3,c3,rfl⟩:=bK D qo;have eu:=aA D;have gp:=aA V;have eg:Hi (fQ (A.alloc (.cells #[ii f,ii f,ii f] 3)) F (.slice x g z) (.slice (so g3) (g+3) c3)):=v;have dq:=(be.o.alloc _).trans (bO v) (λab B=>.inl B);have ig:=(dq.cell i w bu dc).trans cx;have jp:A.heap.size<=F.heap.size:=(by have:=(bO v).size;simp at this;omega);have cf:=aA dq;clear D V v dq Zu))
  obtain⟨S,fa,fb,fs,ft,fu,fw⟩:=IU (KK f) co.o cd.o bn.o cp.o ce.o eu.o eg.o;have gv:Hi (∀r∈[Value.slice x g z,.slice (so M) (g+1) J,.slice (so N) (g+2) L,.slice (so g3) (g+3) c3],Mks F S r f):=λr y=>by
   simp only[mem_cons,not_mem_nil,or_false]at y;obtain rfl|rfl|rfl|rfl:=y
   ·exact fs.ints qo
   ·exact ft.ints qo
   ·exact fu.ints qo
   exact fw.ints qo
  have ep:=aA fa;have eq:=aA fb;have bd:=aA (ap.o.fr cf.o (λe=>(au.o j (qu e)).2.1 rfl) (λc k p t e=>(au.o p (qu e)).2.2.2.2.2 c k t));have gu:=aA (di.o.fr cf.o (λa h e=>(au.o a (qu e)).2.2.1 h));obtain⟨l0,cz⟩:=nn ((m 0).length);obtain⟨a0,q0,bj⟩:=gL (bd.o.own 0 qo);have jl:l0<=8*aj+8:=by have:=HX.o.2.2.1;omega
  rw[cz]at bj;have dt:F.cell? ⟨j,0,none⟩=some (.slice a0 l0 q0):=by rw[bd.o.cell 0 qo,bj]
  have ff:=bd.o.fz 0;have fj:=aI dt;obtain⟨L4,cu⟩:∃dm,dm=[Value.slice x g z,.slice (so M) (g+1) J,.slice (so N) (g+2) L,.slice (so g3) (g+3) c3]:=⟨_,rfl⟩;have bf:Hi (Fr [] F (F.drew.alloc (.cells #[.slice x g z,.slice (so M) (g+1) J,.slice (so N) (g+2) L,.slice (so g3) (g+3) c3] 25))):=((r0 _ _).drew).alloc _;have cq:Hi ((F.drew.alloc (.cells #[.slice x g z,.slice (so M) (g+1) J,.slice (so N) (g+2) L,.slice (so g3) (g+3) c3] 25)).ownsRow 0 25 1 (.slice a0 l0 q0) l0 (m 0)):=by have:=aF (bd.o.own 0 qo) bf.o qs;rw[bj,cz]at this;exact this
  have cn:Hi (∀(l:Nat) (r:Value),[Value.slice x g z,.slice (so M) (g+1) J,.slice (so N) (g+2) L,.slice (so g3) (g+3) c3][l]?=some r->(F.drew.alloc (.cells #[.slice x g z,.slice (so M) (g+1) J,.slice (so N) (g+2) L,.slice (so g3) (g+3) c3] 25)).cell? ((⟨F.heap.size,0,none⟩:Addr).add l)=some r):=dQ F.drew _ 25;have ek:Hi (j∉(Value.ownBlock (.slice a0 l0 q0)).toList):=λe=>bd.o.nb 0 qo (by rw[bj];simpa using e);have ev:=aA bj;have er:=aA cz;have ch:=aA cu;clear fs ft fu fw fa fb bj cz cu co cd cg cp ce bn eu eg gp cj ck es Zq bh
  go_cut [] (fun wx=>∃v',BR wx j (aR n 0 v') (aR m 0 (m 0++L4)) f/\Fr (j::(n 0).ownBlock.toList) F wx/\∀p,v'.ownBlock=some p->(n 0).ownBlock=some p\/F.heap.size<=p)
  ·go_region_law (refine Ia rfl (.tmp 75) (.tmp 83) 46 rfl 0 25 ed (.slice none 0 0) 1 24 Qk2 dv ea eb ec rfl (.slice a0 l0 q0) l0 (m 0) (by simp[Act.eval]) cq.o ⟨F.heap.size,0,none⟩ 4 4 [.slice x g z,.slice (so M) (g+1) J,.slice (so N) (g+2) L,.slice (so g3) (g+3) c3] (by simp[Act.eval]) rfl cn.o qc qm qo qo qo ?_;intro v' w6 H k ha;obtain⟨g',c',rfl⟩:=bK H qo;have ar:=bO ha;have gd:=(ar.cell j 0 qt ek.o).trans ((bf.o.cell j 0 fj qs).trans dt);have gg:=(ar.frozen j 0 qt ek.o).trans ((bf.o.frozen j 0 fj qs).trans ff))
   all_goals
    go_wp2_with fail
    go_meet
    have hr:=bd.o.fr bf.o qs qs;have fy:=hr.push 0 qo (.slice (so g') (l0+4) c') L4 (by rw[ch.o,er.o];exact H) (by rw[ev.o];exact ha);refine⟨_,fy.1,bf.o.qO.trans fy.2 (λab B=>.inl B),λp t=>?_⟩;obtain b|b:=gK ha p t
    · exact .inl (by rw[ev.o];exact b)
    simp at b;exact .inr qo
  obtain⟨dh,af,cr,fp⟩:=hcut;obtain⟨l1,dx⟩:=nn ((m 1).length);have e1:aR m 0 (m 0++L4) 1=m 1:=rfl;have e2:aR n 0 dh 1=n 1:=rfl;have ai:=af.own 1 qo;rw[e1,e2,dx]at ai;obtain⟨a1,q1,bt⟩:=gL ai;rw[bt]at ai;have jm:l1<=8*aj+8:=by have:=HX.o.1;have:=er.o;omega
  have fg:wc.cell? ⟨j,1,none⟩=some (.slice a1 l1 q1):=by rw[af.cell 1 qo,e2,bt]
  have hz:=af.fz 1;have fk:=aI fg;have bm:Hi (Fr [] wc (wc.alloc (.cells #[ii f,ii f,ii f,ii f] 3))):=(r0 _ _).alloc _;have gx:Hi ((wc.alloc (.cells #[ii f,ii f,ii f,ii f] 3)).ownsRow 0 3 1 (.slice a1 l1 q1) l1 (m 1)):=aF ai bm.o qs;have gw:=aA (dQ wc [ii f,ii f,ii f,ii f] 3);have ei:Hi (j∉(Value.ownBlock (.slice a1 l1 q1)).toList):=λe=>af.nb 1 qo (by rw[e2,bt];simpa using e);have gj:=aA af;have em:=aA cr;have go:=aA fp;have ew:=aA bt;have gq:=aA dx;clear af cr fp bt dx ai e1 e2 dt ff ig cq cn bf
  go_wp2_with (at_builtin;refine eU rfl (.tmp 91) (.tmp 96) 25 rfl 0 3 dg (ii 0) 1 8 Z5 cy dd de df rfl (.slice a1 l1 q1) l1 (m 1) rfl gx.o ⟨wc.heap.size,0,none⟩ 4 4 [ii f,ii f,ii f,ii f] rfl rfl gw.o qc qm qo qo qo ?_;intro v7 w7 H k ha;obtain⟨g7,c7,rfl⟩:=bK H qo;have ar:=bO ha;have gd:=(ar.cell j 1 qt ei.o).trans ((bm.o.cell j 1 fk qs).trans fg);have gg:=(ar.frozen j 1 qt ei.o).trans ((bm.o.frozen j 1 fk qs).trans hz))
  go_roundw
  ·refine⟨w+1,fq,by go_num,?_⟩;obtain⟨x3,x4,x5,x6,x7,ba,bc,gi⟩:=HX.o;have ix:=bg.o.size;have jo:=bl.o.size;have jt:=em.o.size;obtain⟨dn,dr⟩:=(gj.o.fr bm.o qs qs).push 1 qo (.slice (so g7) (l1+4) c7) [ii f,ii f,ii f,ii f] (by rw[show aR m 0 (m 0++L4) 1=m 1 from rfl,gq.o];exact H) (by rw[show aR n 0 dh 1=n 1 from rfl,ew.o];exact ha);rw[show aR n 0 dh 1=n 1 from rfl]at dr;rw[show aR m 0 (m 0++L4) 1=m 1 from rfl]at dn;have cc:Fr (j::((n 0).ownBlock.toList++(n 1).ownBlock.toList)) F (w7.setCell ⟨j,1,none⟩ (.slice (so g7) (l1+4) c7)) :=
     ((em.o.mono (λab B=>.inl (by obtain b|b:=Qq0.1 B<;>simp_all))).qT bm.o).trans dr (λab B=>.inl (by obtain b|b:=Qq0.1 B<;>simp_all))
   obtain⟨W8,fd⟩:=nm (w7.setCell ⟨j,1,none⟩ (.slice (so g7) (l1+4) c7));rw[<-fd]at dn cc |-;have ji:=ap.o.lt;have js:=cc.size;have jr:wc.heap.size<=W8.heap.size:=by have:=dr.size;rw[<-fd]at this;simp at this;omega
   have je:=λc k p t=>((ap.o.own c k).lt p t).2;have ct:∀a∈S,a≠j/\a≠i/\(∀c,c<9->(n c).ownBlock≠some a)/\(a∈gM d\/aa.heap.size<=a):=λa h=>by
     obtain b|b:=ep.o a h
     ·have u:=au.o a b;exact⟨u.2.1,u.1,u.2.2.2.2.2,.inl (BI HV.o b)⟩
     exact⟨by omega,by omega,λc k e=>by have:=je c k a e;omega,.inr qo⟩
   have bz:∀c,c<9->(n c).ownBlock≠some i:=λc k e=>by
     have:=bo.o;obtain b|b:=ba c k i e
     ·have:=hK i b;omega
     omega
   have ee:∀a,a≠j->(∀c,c<9->(n c).ownBlock≠some a)->a∉j::((n 0).ownBlock.toList++(n 1).ownBlock.toList):=λa O Y Q=>by
     obtain b|b:=Qq0.1 Q
     ·exact O b
     obtain b|b:=m5.1 b
     ·exact Y 0 qo (qu b)
     exact Y 1 qo (qu b)
   have FT:Fr (j::((Value.ownBlock (.slice x g z)).toList++((n 0).ownBlock.toList++(n 1).ownBlock.toList))) an W8 :=
     ((bl.o.mono (λab B=>.inl qa)).trans cf.o (λab B=>.inl qa)).trans cc (λab B=>.inl (by obtain b|b:=Qq0.1 B<;>simp_all))
   have gh:∀a,a≠j->Value.ownBlock (.slice x g z)≠some a->(∀c,c<9->(n c).ownBlock≠some a)->a∉j::((Value.ownBlock (.slice x g z)).toList++((n 0).ownBlock.toList++(n 1).ownBlock.toList)):=λa O Y h3 Q=>by
     obtain b|b:=Qq0.1 Q
     ·exact O b
     obtain b|b:=m5.1 b
     ·exact Y (qu b)
     exact ee a O h3 (Zz4 _ b)
   have hw:BL W8 (I++S) (aR (aR m 0 (m 0++L4)) 1 (m 1++[ii f,ii f,ii f,ii f])):=by
     have b:=((gu.o.up (K':=I++S) (λa h=>Qk3 _ h)).places x3 L4 f (λr y=>(gv.o r (by rw[<-ch.o];exact y)).up (λa h=>Qk6 _ h))).fr cc (λa h=>by
      obtain b|b:=m5.1 h
      ·exact ee a (eo.o a b).1 (bc a b).2.2
      exact ee a (ct a b).1 (ct a b).2.2.1)
     rw[show(L4.map λ_=>ii f)=[ii f,ii f,ii f,ii f] by rw[ch.o];rfl]at b;exact b
   have fc:L4.length=4:=by rw[ch.o];rfl
   have bx:∀c,c<9->∀p,(aR (aR n 0 dh) 1 (.slice (so g7) (l1+4) c7) c).ownBlock=some p->(∃k',k'<9/\(n k').ownBlock=some p)\/F.heap.size<=p:=λc k p t=>by
     by_cases k1:c=1
     ·subst k1;rw[iG]at t;obtain b|b:=gK ha p t
      ·exact .inl ⟨1,by omega,by rw[ew.o];exact b⟩
      simp at b;exact .inr qo
     rw[iA _ _ k1]at t
     by_cases k0:c=0
     ·subst k0;rw[iG]at t;obtain b|b:=go.o p t
      ·exact .inl ⟨0,by omega,b⟩
      exact .inr b
     rw[iA _ _ k0]at t;exact .inl ⟨c,k,t⟩
   have jq:=cf.o.size;refine⟨⟨_,_,f,I++S,dn,hw,?_,x4,?_,x6,x7,by have:=HM.o;omega,il.2,λc k p t=>?_,λa h=>⟨?_,?_,λc k e=>?_⟩,λl r a hj y am Q=>?_⟩,?_,λl r hj y=>?_,?_⟩
   · show(m 0++L4).length=(m 1++[ii f,ii f,ii f,ii f]).length
     rw[m8,m8,fc,x3];rfl
   · show(m 0++L4).length<=_
     rw[m8,fc];omega
   · obtain⟨k',ay,b⟩|b:=bx c k p t
     ·exact ba k' ay p b
     exact .inr qo
   · obtain b|b:=m5.1 h
     ·exact(bc a b).1
     exact .inr (ct a b).2.2.2
   · obtain b|b:=m5.1 h
     ·have:=(bc a b).2.1;omega
     have:=eq.o a b;omega
   · have ib:a<F.heap.size/\∀c,c<9->(n c).ownBlock≠some a:=by
      obtain b|b:=m5.1 h
      ·exact⟨by have:=(bc a b).2.1;omega,(bc a b).2.2⟩
      exact⟨eq.o a b,(ct a b).2.2.1⟩
     obtain⟨k',ay,b⟩|b:=bx c k a e
     ·exact ib.2 k' ay b
     omega
   · have u:=Zr.o l r a y am
     obtain b|b:=m5.1 Q
     ·exact gi l r a qo y am b
     obtain W|W:=ep.o a b
     ·exact eh.o w l _ r a qo HV.o y W am
     omega
   · exact FT.heap HL.o (gh i qo (λe=>(au.o i e).1 rfl) bz)
   · obtain⟨n',hp,im,ip⟩:=gy.o l r qo y
     refine⟨n',hp,im,aF ip FT (λa h=>?_)⟩;have u:=Zr.o l r a y h;refine gh a u.2.2.2.2 (λe=>eh.o w l _ r a qo HV.o y e h) (λc k e=>?_);obtain b|b:=ba c k a e
     ·exact u.2.2.2.1 b
     omega
   refine bg.o.trans FT (λa h=>?_);obtain b|b:=Qq0.1 h
   ·exact .inl (by simp[b])
   obtain b|b:=m5.1 b
   ·exact .inl (by have:=BI HV.o (qu b);simp[this])
   have:∃c,c<9/\(n c).ownBlock=some a:=by
    obtain b|b:=m5.1 b
    ·exact⟨0,by omega,by simpa using b⟩
    exact⟨1,by omega,by simpa using b⟩
   obtain⟨c,k,e⟩:=this;obtain W|W:=ba c k a e
   ·exact .inl (by simp[W])
   exact .inr W
  simp[intOf];omega
 have ik:¬(w:Int)<(d.length:Int):=qo;obtain⟨⟨n,m,nx,I,O,Y,h3,h4,h5,h6,h7,h8,h9,aq,ae,bi⟩,P,_,ax⟩:=C;have db:=aH P;obtain⟨an,bv⟩:=nm wr;rw[<-bv]at O Y ae P ax db |-;clear bv;have ix:=ax.size;obtain⟨s,bw⟩:=nm an.heap.size;obtain⟨W1,ak,ad,_⟩:=al an (.cells #[ii (-7)] 3);have gf:W1.cell? ⟨s,0,none⟩=some (ii (-7)):=by rw[ak,bw,aB (aC _ _)];rfl
 have jx:W1.heap.size=s+1:=by rw[ak,bw];simp
 have dl:Hi (W1.ownsRow base 25 1 (.slice (so i) d.length d.length) d.length d):=by refine⟨by omega,.inr ⟨i,d.length,d.toArray,rfl,Zw,ad.qH P,Q9 _,by unfold maxLen;omega,qs,qs⟩⟩
 have ap:=(show Hi _ from O.fr ad qs qs);have di:=(show Hi _ from Y.fr ad qs);have HX:=(show Hi _ from And.intro h3 (And.intro h4 (And.intro h5 (And.intro h6 (And.intro h7 (And.intro aq (And.intro ae bi)))))));have bg:=aA ax;have bl:=aA ad;have ic:j≠i:=qo;have he:=aA gf;have hd:=aA (λc k p t=>((O.own c k).lt p t).2);clear O Y h3 h4 h5 h6 h7 aq ae bi P ax ad gf
 go_wp2_with fail
 rw[<-ak,<-bw];have jy:an.heap.size<=s:=qo;have jg:=aA bw;clear ak bw;have bu:i<W1.heap.size:=qo
 go_loopw [11] (fun l wr=>∃c:Nat,c<=d.length/\l=ii c/\FillI W1 base d.length 25 (.slice (so i) d.length d.length) d (fun _=>.slice (so s) 1 1) c wr) (fun l _=>d.length-(intOf l).toNat)
 ·exact⟨0,Z3 _,rfl,dl.o,r0 _ _⟩
 obtain⟨c,k,rfl,C⟩:=hrel
 by_cases bs:c<d.length
 ·have dy:(c:Int)<(d.length:Int):=qo;have ag:∃ac:Array Value,wr.heap[i]?=some (.cells ac 25 (0,0))/\c<ac.size:=by
   obtain⟨e,_⟩|⟨p,ey,ac,e,_,hh,hc,_,hs,_⟩:=C.own.2
   ·cases e
   cases e;exact⟨ac,hh,by omega⟩
  obtain⟨ac,ag,bq⟩:=ag;obtain⟨Zs,iq⟩:∃Zs,wr.cell? ⟨i,c,none⟩=some Zs:=⟨_,(aB ag).trans (Zq3 bq)⟩;have ir:wr.frozen? ⟨i,c,none⟩=false:=aV ag;have HP:=(show Hi _ from C.put (fun _=>rfl) bs rfl);clear C ag bq;go_wp2;go_roundw
  ·exact⟨c+1,bs,by go_num,HP.o⟩
  simp[intOf];omega
 have dy:¬(c:Int)<(d.length:Int):=qo;have br:c=d.length:=qo;have az:=C.own;rw[br,Z6 (Q9 _),Zq6]at az;have ah:=C.fr;have bh:=aA az;clear C br az;obtain⟨X,bp⟩:=nm wr;rw[<-bp]at bh ah |-;clear bp;have ia:base<=X.heap.size:=by have:=ah.size;omega
 have iu:=ah.size;have jj:=ap.o.lt;have dj:Hi (Fr [i] W1 X):=ah;have Zq:Hi (∀(q:World) (cs:Array Value),q.ownsRow base 25 1 (.slice (so i) d.length d.length) d.length (aW 1 (λ_=>.slice (so s) 1 1) d.length)->(q.alloc (.cells cs 25)).ownsRow base 25 1 (.slice (so i) d.length d.length) d.length (aW 1 (λ_=>.slice (so s) 1 1) d.length)):=λq cs av=>av.alloc _;have cj:Hi (∀(q:World) (l:Nat) (r:Value),[Value.slice (so s) 1 1][l]?=some r->(q.alloc (.cells #[.slice (so s) 1 1] 25)).cell? ((⟨q.heap.size,0,none⟩:Addr).add l)=some r):=λq=>dQ q _ 25;have ck:Hi (∀(q:World) (l:Nat) (r:Value),[Value.slice (so s) 1 1,.slice (so s) 1 1][l]?=some r->(q.alloc (.cells #[.slice (so s) 1 1,.slice (so s) 1 1] 25)).cell? ((⟨q.heap.size,0,none⟩:Addr).add l)=some r):=λq=>dQ q _ 25;obtain⟨R,da⟩:=nn ((m 2).length);have ai:=ap.o.own 2 qo;rw[da]at ai;obtain⟨a2,q2,bk⟩:=gL ai;rw[bk]at ai;have jn:R<=3*aj:=by have:=HX.o.2.2.2.1;omega
 have bz:∀c,c<9->(n c).ownBlock≠some i:=λc k e=>by
  have:=bo.o;obtain b|b:=HX.o.2.2.2.2.2.1 c k i e
  ·have:=hK i b;omega
  omega
 have en:Hi (∀q,Fr [i] W1 q->q.cell? ⟨j,2,none⟩=some (.slice a2 R q2)/\q.frozen? ⟨j,2,none⟩=false/\q.ownsRow 0 46 1 (.slice a2 R q2) R (m 2)/\BR q j n m nx/\BL q I m):=λq hf=>by
  have cw:=ap.o.fr hf qt (λc k p t=>by simp;intro e;subst e;exact bz c k t);have dw:∀a∈I,a∉[i]:=λa h e=>by
   have e':a=i:=by simpa using e
   subst e';obtain b|b|b:=(HX.o.2.2.2.2.2.2.1 a h).1
   · have:=hK a b;omega
   · obtain⟨r,y,am⟩:=Qk4.1 b
     obtain⟨l,hj⟩:=Qk9.1 y;exact(Zr.o l r a hj am).2.2.1 rfl
   have:=bo.o;omega
  refine⟨by rw[cw.cell 2 qo,bk],cw.fz 2,?_,cw,di.o.fr hf dw⟩;have:=cw.own 2 qo;rw[bk,da]at this;exact this
 have ej:Hi (j∉(Value.ownBlock (.slice a2 R q2)).toList):=λe=>ap.o.nb 2 qo (by rw[bk];simpa using e);have ex:=aA bk;have gt:=aA da;have gz:=aA bz;clear ah bk da ai bz
 go_wp2_with (first
  |(
    at_builtin
    refine eU rfl (.tmp 111) (.tmp 113) 46 rfl base 25 ed (.slice none 0 0) 1 24 Qk2 dv ea eb ec rfl (.slice (so i) d.length d.length) d.length (aW 1 (λ_=>.slice (so s) 1 1) d.length) rfl (Zq.o _ _ bh.o) ⟨X.heap.size,0,none⟩ 1 1 [.slice (so s) 1 1] rfl rfl (cj.o X) qc qm qo qt qo ?_;intro v1 w3 D V v;obtain⟨M,J,rfl⟩:=bK D qo;have co:=aA D;have cg:=aA V;have cd:Hi (fQ (X.alloc (.cells #[.slice (so s) 1 1] 25)) w3 (.slice (so i) d.length d.length) (.slice (so M) (d.length+1) J)):=v;have dk:=aA ((dj.o.alloc _).trans (bO v) (λab B=>.inl B));have iv:X.heap.size<=w3.heap.size:=(by have:=(bO v).size;simp at this;omega);clear D V v)
  |(
    at_builtin
    refine eU rfl (.tmp 115) (.tmp 118) 46 rfl base 25 ed (.slice none 0 0) 1 24 Qk2 dv ea eb ec rfl (.slice (so i) d.length d.length) d.length (aW 1 (λ_=>.slice (so s) 1 1) d.length) rfl (Zq.o _ _ cg.o) ⟨w3.heap.size,0,none⟩ 2 2 [.slice (so s) 1 1,.slice (so s) 1 1] rfl rfl (ck.o w3) qc qm qo qt qo ?_;intro v2 A D V v;obtain⟨N,L,rfl⟩:=bK D qo;have cp:=aA D;have bn:=aA V;have ce:Hi (fQ (w3.alloc (.cells #[.slice (so s) 1 1,.slice (so s) 1 1] 25)) A (.slice (so i) d.length d.length) (.slice (so N) (d.length+2) L)):=v;have be:=aA ((dk.o.alloc _).trans (bO v) (λab B=>.inl B));have iw:w3.heap.size<=A.heap.size:=(by have:=(bO v).size;simp at this;omega);obtain⟨fl,jc,fx,_,_⟩:=en.o A be.o;have cq:Hi ((A.alloc (.cells #[.slice (so i) d.length d.length,.slice (so M) (d.length+1) J,.slice (so N) (d.length+2) L] 46)).ownsRow 0 46 1 (.slice a2 R q2) R (m 2)):=fx.alloc _;have cn:Hi (∀(l:Nat) (r:Value),[Value.slice (so i) d.length d.length,.slice (so M) (d.length+1) J,.slice (so N) (d.length+2) L][l]?=some r->(A.alloc (.cells #[.slice (so i) d.length d.length,.slice (so M) (d.length+1) J,.slice (so N) (d.length+2) L] 46)).cell? ((⟨A.heap.size,0,none⟩:Addr).add l)=some r):=dQ A _ 46;have fi:=aI fl;clear D V v fx)
  |(
    at_builtin
    refine eU rfl (.tmp 124) (.tmp 128) 63 rfl 0 46 jd (.slice none 0 0) 1 24 underlying63 ih iz ja jb rfl (.slice a2 R q2) R (m 2) rfl cq.o ⟨A.heap.size,0,none⟩ 3 3 [.slice (so i) d.length d.length,.slice (so M) (d.length+1) J,.slice (so N) (d.length+2) L] rfl rfl cn.o qc qm qo qs qo ?_;intro v5 F H k ha;obtain⟨g5,c5,rfl⟩:=bK H qo;have ar:=bO ha;have gd:=(ar.cell j 2 qt ej.o).trans ((((r0 [] A).alloc _).cell j 2 fi qs).trans fl);have gg:=(ar.frozen j 2 qt ej.o).trans ((((r0 [] A).alloc _).frozen j 2 fi qs).trans jc)))
 refine Q5 (v:=.tuple #[]) (Q6 rfl _ _ _) rfl ⟨rfl,?_⟩;obtain⟨x3,x4,x5,x6,x7,ba,bc,gi⟩:=HX.o;obtain⟨S,s1,s2,m0,m1,m2⟩:=qE (pat:=λ_=>.slice (so s) 1 1) (λ_=>rfl) co.o cd.o bn.o cp.o ce.o;obtain⟨_,_,_,hq,cu⟩:=en.o A be.o;obtain⟨L3,ds⟩:∃dm,dm=[Value.slice (so i) d.length d.length,.slice (so M) (d.length+1) J,.slice (so N) (d.length+2) L]:=⟨_,rfl⟩;have ez:Fr [] A (A.alloc (.cells #[.slice (so i) d.length d.length,.slice (so M) (d.length+1) J,.slice (so N) (d.length+2) L] 46)):=(r0 _ _).alloc _;obtain⟨af,cr⟩:=(hq.fr ez qs qs).push 2 qo (.slice (so g5) (R+3) c5) L3 (by rw[ds,gt.o];exact H) (by rw[ex.o];exact ha);have cb:=ez.qO.trans cr (λab B=>.inl B);obtain⟨W6,hy⟩:=nm (F.setCell ⟨j,2,none⟩ (.slice (so g5) (R+3) c5));rw[<-hy]at af cb |-;have ju:=cb.size;have it:=bo.o;have ga:=hd.o;have ij:L3.length=3:=by rw[ds];rfl
 have dz:=(be.o.cell s 0 qo qt).trans he.o;have jf:∀a∈S,a=i\/X.heap.size<=a:=λa h=>by
  obtain b|b:=s1 a h
  ·simp[Value.ownBlock]at b;exact .inl b.symm
  exact .inr b
 have aw:∀a∈I++(S++[s]),a≠j/\(∀c,c<9->(n c).ownBlock≠some a)/\(a∈K\/a∈i::gM d\/aa.heap.size<=a)/\a<A.heap.size:=λa h=>by
  obtain b|b:=m5.1 h
  ·obtain⟨t1,t2,t3⟩:=bc a b;refine⟨λe=>?_,t3,?_,by omega⟩
   · subst e
     obtain u|u|u:=t1
     ·exact et.o u
     ·obtain⟨r,y,am⟩:=Qk4.1 u;obtain⟨l,hj⟩:=Qk9.1 y;exact(Zr.o l r a hj am).2.2.2.2 rfl
     omega
   obtain u|u|u:=t1
   ·exact .inl u
   ·exact .inr (.inl (Zz4 _ u))
   exact .inr (.inr u)
  obtain b|b:=m5.1 b
  · have fh:=s2 a b
    obtain u|u:=jf a b
    ·subst u;exact⟨by omega,gz.o,.inr (.inl qs),fh⟩
    exact⟨by omega,λc k e=>by have:=ga c k a e;omega,.inr (.inr qo),fh⟩
  have e:a=s:=by simpa using b
  subst e;exact⟨by omega,λc k e=>by have:=ga c k a e;omega,.inr (.inr qo),by omega⟩
 have ht:BL W6 (I++(S++[s])) (aR m 2 (m 2++L3)):=by
  refine((cu.up (K':=I++(S++[s])) (λa h=>Qk3 _ h)).qP L3 (λr y=>?_)).fr cb (λa h Q=>?_)
  ·have up:∀a∈S,a∈I++(S++[s]):=λa h=>by simp[h]
   rw[ds]at y;simp only[mem_cons,not_mem_nil,or_false]at y;obtain rfl|rfl|rfl:=y
   · exact(m0.up up).qP qo qs dz
   · exact(m1.up up).qP qo qs dz
   exact(m2.up up).qP qo qs dz
  obtain b|b:=Qq0.1 Q
  · exact(aw a h).1 b
  exact(aw a h).2.1 2 qo (qu b)
 have bx:∀c,c<9->∀p,(aR n 2 (.slice (so g5) (R+3) c5) c).ownBlock=some p->(∃k',k'<9/\(n k').ownBlock=some p)\/A.heap.size<=p:=λc k p t=>by
  by_cases k2:c=2
  ·subst k2;rw[iG]at t;obtain b|b:=gK ha p t
   · exact .inl ⟨2,by omega,by rw[ex.o];exact b⟩
   simp at b;exact .inr qo
  rw[iA _ _ k2]at t;exact .inl ⟨c,k,t⟩
 have ef:∀a,a∈(range 9).filterMap (λc=>(aR n 2 (.slice (so g5) (R+3) c5) c).ownBlock)->∃c,c<9/\(aR n 2 (.slice (so g5) (R+3) c5) c).ownBlock=some a:=λa h=>by obtain⟨c,k,e⟩:=Qk4.1 h;exact⟨c,Qk5.1 k,e⟩
 refine⟨⟨(I++(S++[s]))++(range 9).filterMap (λc=>(aR n 2 (.slice (so g5) (R+3) c5) c).ownBlock),⟨⟨_,_,nx,I++(S++[s]),af,ht,x3,x4,?_,?_,?_,?_,h9,λc k p t=>?_,λa h=>⟨Qk3 _ h,λc k e=>?_⟩⟩,λQ=>?_,λa h=>?_⟩,λa h=>?_⟩,?_⟩
 ·show(m 0).length<=_
  omega
 ·show(m 2++L3).length<=_
  rw[m8,ij];omega
 ·show(m 3).length<=_/\(m 5).length<=_/\(m 6).length<=_
  omega
 ·omega
 ·exact Qk6 _ (Qk4.2 ⟨c,Qk5.2 k,t⟩)
 ·obtain⟨k',ay,b⟩|b:=bx c k a e
  ·exact(aw a h).2.1 k' ay b
  have:=(aw a h).2.2.2;omega
 ·obtain b|b:=m5.1 Q
  ·exact(aw j b).1 rfl
  obtain⟨c,k,e⟩:=ef j b;exact af.nb c k e
 ·obtain b|b:=m5.1 h
  ·have:=(aw a b).2.2.2;omega
  obtain⟨c,k,e⟩:=ef a b;exact((af.own c k).lt a e).2
 ·obtain b|b:=m5.1 h
  ·exact(aw a b).2.2.1
  obtain⟨c,k,e⟩:=ef a b;obtain⟨k',ay,u⟩|u:=bx c k a e
  · obtain W|W:=ba k' ay a u
    ·exact .inl W
    exact .inr (.inr W)
  exact .inr (.inr qo)
 refine((bg.o.qT bl.o).trans be.o (λa h=>.inl qa)).trans cb (λa h=>?_);obtain b|b:=Qq0.1 h
 ·exact .inl (by simp[b])
 obtain W|W:=ba 2 qo a (qu b)
 · exact .inl (by simp[W])
 exact .inr W
