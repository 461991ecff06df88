import Derived.Test.YtapabahhfanmmaaGreatDoorCRScanU
namespace Go.Proofs.YtapabahhfanmmaaGreatDoor
open Go.RowKit List Go.Proofs.Tryz
set_option maxHeartbeats 1000000
set_option maxRecDepth 100000
def nB(b c d e:Int)(a:Nat):U:=bD ((a:Int)+1) a 1 (if a=0 then b else d) (if a=0 then c else e) 40
structure NewX (p q r s:Int) (Wg:World) (gb:Nat) (k:Nat) (wr:World):Prop where
 ex:∃v,wr.cell? ⟨gb,148,none⟩=some v/\wr.ownsRow Wg.heap.size 85 11 v k (((range k).map (nB p q r s)).flatMap U.cells)
 nx:wr.cell? ⟨gb,1,none⟩=some (ii ((k:Int)+1))
 fr:Fr [gb] Wg wr
 ot:∀j,j≠1->j≠148->wr.cell? ⟨gb,j,none⟩=Wg.cell? ⟨gb,j,none⟩
 fz:∀j,wr.frozen? ⟨gb,j,none⟩=Wg.frozen? ⟨gb,j,none⟩
theorem AH(d e f g:Int)(h:World)(b a:Nat)(wr i:World)(r:NewX d e f g h b a wr)(k:Fr [] wr i)(t:b<h.heap.size)(E:a<2)(N:∀c,h.frozen? ⟨b,c,none⟩=false)(m n:Int)(L:m=if a=0 then d else f)(M:n=if a=0 then e else g):Cs 77 #[pt b,ii (a:Int),ii 1,cv m n] i λj q=>j=.returned (.tuple #[])/\NewX d e f g h b (a+1) q:=by
 obtain⟨⟨p,J,hown⟩,H,l,I,D⟩:=r;have F:((range a).map (nB d e f g)).length=a:=qs;have u:=Z1 t l.size;have s:=Z1 u k.size;have B:∀c,i.cell? ⟨b,c,none⟩=wr.cell? ⟨b,c,none⟩:=(by grind[Fr.cell]);have C:∀c,i.frozen? ⟨b,c,none⟩=wr.frozen? ⟨b,c,none⟩:=(by grind[Fr.frozen]);have v:i.ownsRow h.heap.size 85 11 p ((range a).map (nB d e f g)).length (((range a).map (nB d e f g)).flatMap U.cells):=by grind[aF]
 refine(AJ b h.heap.size ((a:Int)+1) a 1 m n 40 _ _ _ _ _ _ _ _ _ _ _ _ _ _ _ _ _ _ _ _ _ _ _ p ((range a).map (nB d e f g)) i (λz=>oM z) VN s qg qg qg qg v (λj=>by have:=bT hown j;omega) qo qo (Y3 l.size k.size)).mono ?_;rintro j q ⟨rfl,y,w,O,P,_,x,Q,R⟩;refine⟨rfl,⟨y,w,?_⟩,?_,?_,?_,?_⟩
 ·simp_all[nB,bD,range_succ,map_append]
 ·grind
 ·refine(l.qT k).trans x (λA o=>?_);obtain rfl|o:=Qq0.1 o
  ·simp
  exact .inr (bT hown qg)
 ·grind
 grind
theorem QN(a b d e:Int)(c:World):(Instr.index 160 (.agg #[ii a,ii b,ii d,ii e]) (ii 0)).run prog c=.ok (cv a b) c:=qk
theorem QO(d e a b:Int)(c:World):(Instr.index 160 (.agg #[ii d,ii e,ii a,ii b]) (ii 1)).run prog c=.ok (cv a b) c:=qk
def cB(a:ByteArray):T:={turn:=0,next:=3,s0:=10,s1:=10,bd:=gr a,us:=[bD 1 0 1 ((pos a 0 144%12:Nat):Int) ((pos a 0 144/12:Nat):Int) 40,bD 2 1 1 ((pos a 1 144%12:Nat):Int) ((pos a 1 144/12:Nat):Int) 40],held:=λ_=>none}
theorem uC:(prog.info? 90).map (·.size)=some zeroCells90.size:=qk
theorem zR:zeroCells90.all (·.oneCell')=true:=qk
theorem MW(b:ByteArray)(d:World):Cs 35 #[.string b] d λq E=>((eV b/\∃v x,q=.returned (.tuple #[.agg (aP (cB b) (.slice (so v) 2 x)).toArray,.bool true])/\PRow E v x (cB b).us/\d.heap.size<=v)\/(¬eV b/\q=.returned (.tuple #[.agg zeroCells90,.bool false])))/\Fr [] d E:=by
 obtain⟨OK,aa⟩:∃c:Prop,c=eV b:=⟨_,rfl⟩;have C:=Ei b;rw[<-aa];simp only[<-aa]at C;clear aa;obtain⟨n,F⟩:=nm (gN (gr b) 144);have N:n.length=144:=by rw[F];exact uT _ 144
 have B:=IQ (gr b) 144 (pos b 0 144) (pos b 1 144);have ab:(cB b).us=[bD 1 0 1 ((pos b 0 144%12:Nat):Int) ((pos b 0 144/12:Nat):Int) 40,bD 2 1 1 ((pos b 1 144%12:Nat):Int) ((pos b 1 144/12:Nat):Int) 40]:=rfl;rw[<-F]at B;simp only[<-F,fS]at C;unfold fS at B;obtain⟨c,hp⟩:∃c,c=((pos b 0 144%12:Nat):Int):=⟨_,rfl⟩;obtain⟨h,r⟩:∃c,c=((pos b 0 144/12:Nat):Int):=⟨_,rfl⟩;obtain⟨i,hr⟩:∃c,c=((pos b 1 144%12:Nat):Int):=⟨_,rfl⟩;obtain⟨j,hs⟩:∃c,c=((pos b 1 144/12:Nat):Int):=⟨_,rfl⟩;rw[<-hp,<-r,<-hr,<-hs]at B ab;simp only[<-hp,<-r,<-hr,<-hs]at C;clear hp r hr hs;have br:=aA ab;clear ab;have R:(n++[ii c,ii h,ii i,ii j]).toArray.size=148:=by simp[N]
 have ac:=RZ n N;obtain⟨k,Q⟩:=nm ((n++[ii c,ii h,ii i,ii j]).toArray);rw[<-Q]at B R;simp only[<-Q]at C;have X:=aA C;have af:=aA Q;have HB:=aA F;have t:=aA N;have bk:=aA B;have bf:Hi ((prog.info? 162).map (·.size)=some k.size):=by
  show _=_
  rw[R];exact XT
 have bs:Hi (zeroCells162.size=k.size):=by
  show _=_
  rw[R,zT];simp
 clear Q F N C B R
 delta Cs;go_in
 go_wp2_with fail
 refine cm (X.o _) ?_;rintro q a ⟨⟨av,rfl⟩|⟨Zq,rfl⟩,A⟩;rotate_left
 ·have bm:=aA Zq;have ai:Hi (((a.alloc (.cells zeroCells162 162)).setRow a.heap.size zeroCells162).heap[d.heap.size]?=some (.cells zeroCells90 90)):=by
   show _=_
   have h0:=A.qH (aC d (.cells zeroCells90 90));exact(((r0 [] a).alloc _).setRow _ _ (.inr (Q9 _))).qH h0
  have u:=((r0 [] d).alloc (.cells zeroCells90 90)).qT A;have L:Hi (Fr [] d ((a.alloc (.cells zeroCells162 162)).setRow a.heap.size zeroCells162)):=(u.alloc _).setRow _ _ (.inr u.size);clear Zq A X u;dsimp only
  go_wp2_with (first|(refine wpList_store_row rfl 162 _ _ rfl a.heap.size zeroCells162 rfl rfl 162 zeroCells162 (aC a _) zI zS zO ?_)|(refine wpList_store_row rfl 90 _ _ rfl d.heap.size zeroCells90 rfl rfl 90 zeroCells90 ai.o uC rfl zR ?_))
  refine Zq8 (v:=.tuple #[.agg zeroCells90,.bool false]) (cD results35 _ _ d.heap.size 90 zeroCells90 (0,0) _ _ rfl rfl (Qz4 _ _ _ _ _ _ ai.o) X9 rfl uC) rfl ⟨.inr ⟨bm.o,rfl⟩,L.o.setRow _ _ (.inr (Q9 _))⟩
 have bo:=aA av;clear av;dsimp only;have u:=((r0 [] d).alloc (.cells zeroCells90 90)).qT A;have ak:a.heap[d.heap.size]?=some (.cells zeroCells90 90):=A.qH (aC _ _);have HR:=aA ak;clear X ak A;have L:Hi (Fr [] d ((a.alloc (.cells zeroCells162 162)).setRow a.heap.size k)):=(u.alloc _).setRow _ _ (.inr u.size);have Y:Hi (((a.alloc (.cells zeroCells162 162)).setRow a.heap.size k).heap[a.heap.size]?=some (.cells k 162)):=Qz4 _ _ _ _ _ _ (aC _ _);have ah:Hi (((a.alloc (.cells zeroCells162 162)).setRow a.heap.size k).rangeAt a.heap.size 0 n):=λf w l=>by rw[Z9,aB Y.o,af.o];simp only[getElem?_toArray];rw[J7 (gs.1 l).1];exact l
 have bg:Hi ((prog.info? 88).map (·.size)=some n.length):=by
  show _=_
  rw[oK,t.o]
 obtain⟨p,z⟩:∃bx,bx=(ii 0::ii 1::ii 10::ii 10::(n++[Value.slice none 0 0])).toArray:=⟨_,rfl⟩;rw[<-z]at ac;have bc:=aA ac;clear ac;have V:=aA z;have bh:Hi ((prog.info? 90).map (·.size)=some p.size):=by
  show _=_
  rw[dD,z];simp[t.o]
 have M:Hi (zeroCells90.size=p.size):=by
  show _=_
  rw[zcGame,z];simp[t.o]
 have bn:Hi (p.all (·.oneCell')=true):=by
  show _=_
  rw[z];apply Zk2;intro w l;simp only[mem_cons,mem_append,not_mem_nil,or_false]at l;obtain rfl|rfl|rfl|rfl|l|rfl:=l
  ·rfl
  ·rfl
  ·rfl
  ·rfl
  ·rw[HB.o]at l;obtain⟨f,_,rfl⟩:=Qk7.1 l
   by_cases O:f<144
   ·rw[Q7 O];rfl
   rw[Z0 O];rfl
  rfl
 have W:Hi ((((a.alloc (.cells zeroCells162 162)).setRow a.heap.size k).alloc (.cells zeroCells90 90)).heap[a.heap.size+1]?=some (.cells zeroCells90 90)):=lT _ _ _ qs;clear z;have r:∀m w,[ii c,ii h,ii i,ii j][m]?=some w->((((a.alloc (.cells zeroCells162 162)).setRow a.heap.size k).alloc (.cells zeroCells90 90)).setRow (a.heap.size+1) p).cell? ⟨a.heap.size,144+m,none⟩=some w:=λm w hk=>by
  have h1:((((a.alloc (.cells zeroCells162 162)).setRow a.heap.size k).alloc (.cells zeroCells90 90)).setRow (a.heap.size+1) p).heap[a.heap.size]?=some (.cells k 162):=by rw[Qx6 _ _ _ _ qo];exact((r0 [] _).alloc _).qH Y.o
  rw[aB h1,af.o];simp only[getElem?_toArray];rw[J8 (by rw[t.o];omega),t.o,Zk3];exact hk
 have b4:=r 0 _ rfl;have b5:=r 1 _ rfl;have b6:=r 2 _ rfl;have b7:=r 3 _ rfl;clear r
 go_wp2_with (first|(refine Kp rfl 90 1 2 3 (.const (ii 1)) (.tmp 17) (.tmp 19) rfl (ii 1) (.agg #[ii 10,ii 10]) (.agg n.toArray) rfl rfl rfl p bc.o ?_)|(refine wpList_store_row rfl 162 _ _ rfl a.heap.size k rfl rfl 162 zeroCells162 (aC a _) bf.o bs.o bk.o ?_)|(refine wpList_load_mid rfl 88 _ rfl a.heap.size 0 rfl n _ ah.o Qk0 rfl bg.o ?_)|(refine wpList_store_row rfl 90 _ _ rfl (a.heap.size+1) p rfl rfl 90 zeroCells90 W.o bh.o M.o bn.o ?_))
 obtain⟨e,H⟩:=nm ((((a.alloc (.cells zeroCells162 162)).setRow a.heap.size k).alloc (.cells zeroCells90 90)).setRow (a.heap.size+1) p);rw[<-H];have y:e.heap[a.heap.size+1]?=some (.cells p 90):=by rw[H];exact Qz4 _ _ _ _ _ _ W.o
 have ba:Fr [] d e:=by rw[H];exact(L.o.alloc _).setRow _ _ (.inr (qh u.size))
 have am:e.heap[d.heap.size]?=some (.cells zeroCells90 90):=by
  have Zs:=aH HR.o;have f1:Fr [] a e:=by rw[H];exact((((r0 [] a).alloc _).setRow _ _ (.inr (Q9 _))).alloc _).setRow _ _ (.inr qo)
  exact f1.qH HR.o
 obtain⟨g,aq⟩:=nm (a.heap.size+1);have cb:d.heap.size<g:=by have:=u.size;omega
 rw[<-aq]at y |-;have ao:e.cell? ⟨g,148,none⟩=some (.slice none 0 0):=by rw[aB y,V.o];simp only[getElem?_toArray,getElem?_cons_succ];rw[J8 (by rw[t.o];omega),t.o];rfl
 have an:e.cell? ⟨g,1,none⟩=some (ii 1):=by rw[aB y,V.o];rfl
 have bb:∀f,e.frozen? ⟨g,f,none⟩=false:=λf=>aV y;have ar:=aH y;have aj:NewX c h i j e g 0 e:=⟨⟨_,ao,⟨rfl,.inl ⟨rfl,rfl⟩⟩⟩,an,r0 _ _,λ_ _ _=>rfl,λ_=>rfl⟩;have bl:=aA aj;have M:=aA bb;have be:=aA y;have bp:=aA am;clear H aq b4 b5 b6 b7 y am ao an bb aj Y ah L W
 go_loopw [23] (fun D wr=>∃m:Nat,m<=2/\D=ii m/\NewX c h i j e g m wr) (fun D _=>2-(intOf D).toNat)
 ·exact⟨0,by omega,rfl,bl.o⟩
 obtain⟨m,hk,rfl,hI⟩:=hrel;have HI:=aA hI;clear hI;have bv:m=0\/m=1\/m=2:=qo;obtain rfl|rfl|rfl:=bv
 ·have bt:=QN c h i j;have S:Hi (∀s,Fr [] wr s->Cs 77 #[pt g,ii 0,ii 1,cv c h] s λq E=>q=.returned (.tuple #[])/\NewX c h i j e g 1 E):=λs hf=>AH c h i j e g 0 wr s HI.o hf ar qo M.o c h rfl rfl
  go_wp2_with (go_at_call 77;refine cm (S.o _ ((r0 _ _).alloc _)) ?_;rintro q w2 ⟨rfl,hN⟩)
  go_roundw
  ·exact⟨1,by omega,by go_num,hN⟩
  simp[intOf]
 ·have bt:=QO c h i j;have S:Hi (∀s,Fr [] wr s->Cs 77 #[pt g,ii 1,ii 1,cv i j] s λq E=>q=.returned (.tuple #[])/\NewX c h i j e g 2 E):=λs hf=>AH c h i j e g 1 wr s HI.o hf ar qo M.o i j rfl rfl
  go_wp2_with (go_at_call 77;refine cm (S.o _ ((r0 _ _).alloc _)) ?_;rintro q w2 ⟨rfl,hN⟩)
  go_roundw
  ·exact⟨2,by omega,by go_num,hN⟩
  simp[intOf]
 obtain⟨⟨w,l,hown⟩,Zr,ap,aw,bu⟩:=HI.o;have ax:wr.ownsRow e.heap.size 85 11 w 2 ((cB b).us.flatMap U.cells):=by rw[br.o];exact hown
 obtain⟨v,x,ay,bz,bw⟩:=PRow.qW (us:=(cB b).us) ax rfl qo;have az:w=.slice (so v) 2 x:=ay;have ad:wr.rangeAt g 0 (aP (cB b) (.slice (so v) 2 x)):=by
  intro f cd J;have O:f<149:=by have:=(gs.1 J).1;rwa[eI]at this
  unfold aP at J;rw[V4,Zk4 O]at J;simp only[Option.map_some,Option.some.injEq]at J;rw[<-J,Z9]
  by_cases j8:f=148
  ·subst j8;rw[l,az];rfl
  by_cases j1:f=1
  ·subst j1;rw[Zr];rfl
  rw[aw f j1 j8,aB be.o,V.o];unfold aK
  by_cases j0:f=0
  ·subst j0;rfl
  by_cases j2:f=2
  ·subst j2;rfl
  by_cases j3:f=3
  ·subst j3;rfl
  obtain⟨D,rfl⟩:∃D,f=D+4:=⟨f-4,by omega⟩;simp only[getElem?_toArray,getElem?_cons_succ];rw[Z0 j0,Z0 j1,Z0 j2,Z0 j3,Q7 qo,J7 (by rw[t.o];omega),HB.o];unfold gN;rw[V4,Zk4 qo];simp only[Option.map_some];rw[Q7 qo];rfl
 obtain⟨gl,I⟩:=nm (aP (cB b) (.slice (so v) 2 x));have P:gl.length=149:=by rw[I];exact eI _ _
 have au:gl.toArray.all (·.oneCell')=true:=by rw[I];exact iL _ _ _ _
 rw[<-I]at ad;have bq:=aA ad;have bd:=aA I;have HO:=aA au;have bi:Hi ((prog.info? 90).map (·.size)=some gl.length):=by
  show _=_
  rw[dD,P]
 have ae:Hi ((prog.info? 90).map (·.size)=some gl.toArray.size):=by
  show _=_
  rw[dD,Qx3,P]
 have bj:Hi (zeroCells90.size=gl.toArray.size):=by
  show _=_
  exact zcGame.trans (by simp[P])
 have hR:=ap.heap bp.o qt;have ag:=aA hR;clear I P au ad ay az l hown ax Zr aw bu hR
 go_wp2_with (first|(refine wpList_load_mid rfl 90 _ rfl g 0 rfl gl _ bq.o X9 rfl bi.o ?_)|(refine wpList_store_row rfl 90 _ _ rfl d.heap.size gl.toArray rfl rfl 90 zeroCells90 ag.o ae.o bj.o HO.o ?_))
 have hF:Fr [d.heap.size] wr (wr.setRow d.heap.size gl.toArray):=(r0 _ _).setRow _ _ qs;have cc:=ba.size;refine Zq8 (v:=.tuple #[.agg gl.toArray,.bool true]) (cD results35 _ _ d.heap.size 90 gl.toArray (0,0) _ _ rfl rfl (Qz4 _ _ _ _ _ _ ag.o) X9 rfl ae.o) rfl ⟨.inl ⟨bo.o,v,x,by rw[bd.o],bw.fr hF qt,by omega⟩,?_⟩;exact(ba.trans ap qt).setRow _ _ (.inr (Q9 _))
