import Derived.Test.YtapabahhfanmmaaGreatDoorCRefH
namespace Go.Proofs.YtapabahhfanmmaaGreatDoor
open Go.RowKit List
set_option maxRecDepth 100000
set_option maxHeartbeats 2000000
set_option maxRecDepth 100000
theorem NA (l L g:Nat)(t:T)(N E F i a d m n b c C A B z:Int)(w:World)(h:RG w l L g t)(q:Int)(p:Hi (∀ W:World,GV W l L g t.us->Cs 177 #[.pointer (so l),.int .i64 i] W fun e f=>e=.returned (.int .i64 q)/\W=f)) :
  Cs 178 #[.pointer (so l),(⟨a,d,1,m,n,b,c,C,A,B,z⟩:U).val,(⟨N,3,E,F,i⟩:Cm).val] w fun e f=>e=.returned (.tuple #[(⟨a,d,1,m,n,b,c,3,0,0,i⟩:U).val,.bool false])/\Fr [] w f:=by
 go_enter Tryz.func178,Tryz.ntmps178
 go_wp2_with (first|(go_at_call 185;refine (eF _ _ _).mono ?_;rintro e X ⟨rfl,rfl⟩)|(go_at_call 177;refine ((p.o _ (RG.gv (h.fr0 ((((r0 _ _).alloc _).alloc _).alloc _)))).mono ?_);rintro e Y ⟨rfl,rfl⟩))
 refine fO fun D j I H P R S=>?_
 have Q:=j
 have r:∀ f,Fr [w.heap.size+1+1] D f->(fun f:World=>eX w.heap.size a d 1 m n b c 3 0 0 i E F f) f:=fun f J=>by
  exact fM (J.heap I (by simp;omega)) (J.heap H (by simp))
 have M:=r _ (r0 _ D).drew
 clear I H
 refine rg 23 r M fun O=>?_
 iterate 21 (refine tn 23 O ?_;try simp only [Act.put,Z])
 refine rd 21 fun K hK=>?_
 go_simp
 refine fN (u:=zeroU) P fun V k s=>?_
 have y:=r _ k
 refine hK.out _ _ y (fun x=>?_)
 clear hK K;try simp only [Act.put,Z]
 refine ta 22 x ?_;try simp only [Act.put,Z]
 refine wpAnyH_done (by kernel_rfl) ?_ _
 go_wp2_with fail
 exact bodyPost_ret (v:=.tuple #[(⟨a,d,1,m,n,b,c,3,0,0,i⟩:U).val,.bool false]) (cJ Tryz.results178 _ _ (w.heap.size+1+1) 85 _ (0,0) _ _ rfl rfl s Tryz.underlying85 rfl aL) rfl ⟨rfl,j.trans k (by simp;omega)⟩
theorem NC (l L g:Nat)(t:T)(N E F i a d m n b c C A B z:Int)(w:World)(h:RG w l L g t)(q:Int)(p:Hi (∀ W:World,GV W l L g t.us->Cs 177 #[.pointer (so l),.int .i64 i] W fun e f=>e=.returned (.int .i64 q)/\W=f)) :
  Cs 178 #[.pointer (so l),(⟨a,d,2,m,n,b,c,C,A,B,z⟩:U).val,(⟨N,3,E,F,i⟩:Cm).val] w fun e f=>e=.returned (.tuple #[(⟨a,d,2,m,n,b,c,3,0,0,i⟩:U).val,.bool false])/\Fr [] w f:=by
 go_enter Tryz.func178,Tryz.ntmps178
 go_wp2_with (first|(go_at_call 185;refine (eF _ _ _).mono ?_;rintro e X ⟨rfl,rfl⟩)|(go_at_call 177;refine ((p.o _ (RG.gv (h.fr0 ((((r0 _ _).alloc _).alloc _).alloc _)))).mono ?_);rintro e Y ⟨rfl,rfl⟩))
 refine fO fun D j I H P R S=>?_
 have Q:=j
 have r:∀ f,Fr [w.heap.size+1+1] D f->(fun f:World=>eX w.heap.size a d 2 m n b c 3 0 0 i E F f) f:=fun f J=>by
  exact fM (J.heap I (by simp;omega)) (J.heap H (by simp))
 have M:=r _ (r0 _ D).drew
 clear I H
 refine rg 23 r M fun O=>?_
 iterate 21 (refine tn 23 O ?_;try simp only [Act.put,Z])
 refine rd 21 fun K hK=>?_
 go_simp
 refine fN (u:=zeroU) P fun V k s=>?_
 have y:=r _ k
 refine hK.out _ _ y (fun x=>?_)
 clear hK K;try simp only [Act.put,Z]
 refine ta 22 x ?_;try simp only [Act.put,Z]
 refine wpAnyH_done (by kernel_rfl) ?_ _
 go_wp2_with fail
 exact bodyPost_ret (v:=.tuple #[(⟨a,d,2,m,n,b,c,3,0,0,i⟩:U).val,.bool false]) (cJ Tryz.results178 _ _ (w.heap.size+1+1) 85 _ (0,0) _ _ rfl rfl s Tryz.underlying85 rfl aL) rfl ⟨rfl,j.trans k (by simp;omega)⟩
theorem ND (l J g:Nat)(t:T)(M D E i a d m n b c B z A y:Int)(w:World)(h:RG w l J g t)(p:Hi (∀ W:World,GV W l J g t.us->Cs 177 #[.pointer (so l),.int .i64 i] W fun e f=>e=.returned (.int .i64 (-1))/\W=f)) :
  Cs 178 #[.pointer (so l),(⟨a,d,3,m,n,b,c,B,z,A,y⟩:U).val,(⟨M,3,D,E,i⟩:Cm).val] w fun e f=>e=.returned (.tuple #[(⟨a,d,3,m,n,b,c,3,0,0,i⟩:U).val,.bool false])/\Fr [] w f:=by
 go_enter Tryz.func178,Tryz.ntmps178
 go_wp2_with (first|(go_at_call 185;refine (eF _ _ _).mono ?_;rintro e V ⟨rfl,rfl⟩)|(go_at_call 177;refine ((p.o _ (RG.gv (h.fr0 ((((r0 _ _).alloc _).alloc _).alloc _)))).mono ?_);rintro e X ⟨rfl,rfl⟩))
 refine fO fun C j H F O Q R=>?_
 have P:=j
 have q:∀ f,Fr [w.heap.size+1+1] C f->(fun f:World=>eX w.heap.size a d 3 m n b c 3 0 0 i D E f) f:=fun f I=>by
  exact fM (I.heap H (by simp;omega)) (I.heap F (by simp))
 have L:=q _ (r0 _ C).drew
 clear H F
 refine rg 23 q L fun N=>?_
 iterate 21 (refine tn 23 N ?_;try simp only [Act.put,Z])
 refine rd 21 fun K hK=>?_
 go_simp
 refine fN (u:=zeroU) O fun S k r=>?_
 have x:=q _ k
 refine hK.out _ _ x (fun s=>?_)
 clear hK K;try simp only [Act.put,Z]
 refine ta 22 s ?_;try simp only [Act.put,Z]
 refine wpAnyH_done (by kernel_rfl) ?_ _
 go_wp2_with fail
 exact bodyPost_ret (v:=.tuple #[(⟨a,d,3,m,n,b,c,3,0,0,i⟩:U).val,.bool false]) (cJ Tryz.results178 _ _ (w.heap.size+1+1) 85 _ (0,0) _ _ rfl rfl r Tryz.underlying85 rfl aL) rfl ⟨rfl,j.trans k (by simp;omega)⟩
theorem NE (j l c:Nat)(t:T)(S J L m d b s x f g I F H E:Int)(w:World)(h:RG w j l c t)(i:Nat)(v:U)(hi:t.us[i]?=some v)(y:Hi (∀ W:World,GV W j l c t.us->Cs 177 #[.pointer (so j),.int .i64 m] W fun e a=>e=.returned (.int .i64 i)/\W=a)) :
  Cs 178 #[.pointer (so j),(⟨d,b,3,s,x,f,g,I,F,H,E⟩:U).val,(⟨S,3,J,L,m⟩:Cm).val] w fun e a=>e=.returned (.tuple #[(⟨d,b,3,s,x,f,g,3,0,0,m⟩:U).val,.bool (v.owner != b)])/\Fr [] w a:=by
 go_enter Tryz.func178,Tryz.ntmps178
 go_wp2_with (first|(go_at_call 185;refine (eF _ _ _).mono ?_;rintro e w1 ⟨rfl,rfl⟩)|(go_at_call 177;refine ((y.o _ (RG.gv (h.fr0 ((((r0 _ _).alloc _).alloc _).alloc _)))).mono ?_);rintro e w2 ⟨rfl,rfl⟩))
 refine fO fun A n N M X ab ac=>?_
 have aa:=(gs.1 hi).1
 have P:(i:Int) < (t.us.length:Int):=by omega
 have Y:0<=(i:Int):=by omega
 have Q:=h.len
 have r:∀ a,Fr [w.heap.size+1+1] A a->a.cell? ⟨j,148,none⟩=some (.slice (so l) t.us.length c)/\a.cell? ⟨l,i*11+1,none⟩=some (ii v.owner):=fun a k=>by
  have O:=(h.fr0 n).fr k (by have:=h.lt;simp;omega) (by have:=h.pl;simp;omega)
  exact ⟨O.c148,(O.gv.p.at hi).2.1⟩
 have z:∀ a,Fr [w.heap.size+1+1] A a->(fun a:World=>ca a j 148 (.slice (so l) t.us.length c)/\ca a l (i*11+1) (ii v.owner)/\eX w.heap.size d b 3 s x f g 3 0 0 m J L a) a:=fun a k=>by
  exact ⟨(r a k).1,(r a k).2,fM (k.heap N (by simp;omega)) (k.heap M (by simp))⟩
 have R:=z _ (r0 _ A).drew
 clear N M
 refine rg 23 z R fun V=>?_
 iterate 21 (refine tn 23 V ?_;try simp only [Act.put,Z])
 refine rd 21 fun K hK=>?_
 go_simp
 refine fN (u:=zeroU) X fun W5 q B=>?_
 have D:=z _ q
 refine hK.out _ _ D (fun C=>?_)
 clear hK K;try simp only [Act.put,Z]
 refine ta 22 C ?_;try simp only [Act.put,Z]
 refine wpAnyH_done (by kernel_rfl) ?_ _
 go_wp2_with fail
 exact bodyPost_ret (v:=.tuple #[(⟨d,b,3,s,x,f,g,3,0,0,m⟩:U).val,.bool (v.owner != b)]) (cJ Tryz.results178 _ _ (w.heap.size+1+1) 85 _ (0,0) _ _ rfl rfl B Tryz.underlying85 rfl aL) rfl ⟨rfl,n.trans q (by simp;omega)⟩
theorem eP {u v:U}{a b:Bool}(h1:u=v)(c:a=b):Ending.returned (.tuple #[u.val,.bool a])=.returned (.tuple #[v.val,.bool b]):=by rw [h1,c]
theorem KT {us:List U}{id:Int}{i:Nat}{v:U}(a:bQ us id=some i)(hi:us[i]?=some v):look us id=some v:=by
 unfold bQ at a
 rw [findIdx?_eq_some_iff_getElem] at a
 obtain ⟨hl,h1,c⟩:=a
 unfold look
 rw [find?_eq_some_iff_getElem]
 rw [getElem?_eq_getElem hl] at hi
 have b:=Option.some.inj hi
 refine ⟨by rw [<- b];exact h1,i,hl,b,fun j d=>by simpa using c j d⟩
theorem KR {us:List U}{id:Int}(a:bQ us id=none):look us id=none:=by
 unfold bQ at a
 rw [findIdx?_eq_none_iff] at a
 unfold look
 rw [find?_eq_none]
 intro x hx
 have:=a x hx
 simpa using this
theorem xW (j:Nat)(u:U)(c:Cm)(w:World)(B:Bool)(d:(c.what=0/\B=true)\/((c.what==0)=false/\(c.what==1)=false/\(c.what==2)=false/\(c.what==3)=false/\(c.what==4)=false/\B=false)) :
  Cs 178 #[.pointer (so j),u.val,c.val] w fun e k=>e=.returned (.tuple #[({ u with what:=c.what,tox:=0,toy:=0,target:=0 }:U).val,.bool B])/\Fr [] w k:=by
 obtain ⟨g,a,h,i,f⟩:=c
 dsimp only at d |-
 have b:=iI w (.cells ({ u with what:=a,tox:=0,toy:=0,target:=0 }:U).arr 85) (.cells #[ii g,ii a,ii h,ii i,ii f] 81) (.cells zeroU.arr 85)
 rcases d with ⟨rfl,rfl⟩|⟨m,n,o,p,q,rfl⟩
 ·go_enter Tryz.func178,Tryz.ntmps178
  go_wp2_with (first|(go_at_call 185;refine (eF _ _ _).mono ?_;rintro e l ⟨rfl,rfl⟩)|(refine wpList_store_row rfl 85 _ _ rfl (w.heap.size+1+1) ({ u with what:=0,tox:=0,toy:=0,target:=0 }:U).arr rfl rfl 85 zeroU.arr b aL rfl (U.one _) ?_))
  exact bodyPost_ret (v:=.tuple #[({ u with what:=0,tox:=0,toy:=0,target:=0 }:U).val,.bool true]) (cJ Tryz.results178 _ _ (w.heap.size+1+1) 85 _ (0,0) _ _ rfl rfl (setRow_heap _ _ _ _ _ _ b) Tryz.underlying85 rfl aL) rfl ⟨rfl,((((r0 _ _).alloc _).alloc _).alloc _).setRow _ _ (.inr (by omega))⟩
 go_enter Tryz.func178,Tryz.ntmps178
 go_wp2_with (first|(go_at_call 185;refine (eF _ _ _).mono ?_;rintro e l ⟨rfl,rfl⟩)|(refine wpList_store_row rfl 85 _ _ rfl (w.heap.size+1+1) ({ u with what:=a,tox:=0,toy:=0,target:=0 }:U).arr rfl rfl 85 zeroU.arr b aL rfl (U.one _) ?_))
 exact bodyPost_ret (v:=.tuple #[({ u with what:=a,tox:=0,toy:=0,target:=0 }:U).val,.bool false]) (cJ Tryz.results178 _ _ (w.heap.size+1+1) 85 _ (0,0) _ _ rfl rfl (setRow_heap _ _ _ _ _ _ b) Tryz.underlying85 rfl aL) rfl ⟨rfl,((((r0 _ _).alloc _).alloc _).alloc _).setRow _ _ (.inr (by omega))⟩
theorem QL (p D r:Nat)(t:T)(u:U)(c:Cm)(w:World)(h:RG w p D r t)(C:u.kind=1\/u.kind=2\/u.kind=3) :
  Cs 178 #[.pointer (so p),u.val,c.val] w fun e q=>e=.returned (.tuple #[(lO u c).val,.bool (bN t u c)])/\Fr [] w q:=by
 obtain ⟨z,E,x,y,s⟩:=c
 obtain ⟨b,g,Q,A,B,d,f,m,k,l,j⟩:=u
 dsimp only at C
 have F:Hi (∀ W:World,GV W p D r t.us->Cs 177 #[.pointer (so p),.int .i64 s] W fun e q=>e=.returned (.int .i64 (gH (bQ t.us s)))/\W=q):=fun W P=>lN p D r t.us s W P
 by_cases I:E=0
 ·refine Calls.mono (xW p _ _ w true (.inl ⟨I,rfl⟩)) ?_
  rintro e q ⟨rfl,a⟩
  subst I
  exact ⟨eP rfl rfl,a⟩
 by_cases J:E=1
 ·subst J
  cases o:aD x y
  ·rcases C with rfl|rfl|rfl
   ·exact (xV p z x y s b g A B d f m k l j w).mono fun e q ⟨n,a⟩=>⟨n.trans (eP rfl (by simp [bN])),a⟩
   ·exact (MR p z x y s b g A B d f m k l j w o).mono fun e q ⟨n,a⟩=>⟨n.trans (eP rfl (by simp [bN,o])),a⟩
   exact (MT p z x y s b g A B d f m k l j w o).mono fun e q ⟨n,a⟩=>⟨n.trans (eP rfl (by simp [bN,o])),a⟩
  rcases C with rfl|rfl|rfl
  ·exact (xV p z x y s b g A B d f m k l j w).mono fun e q ⟨n,a⟩=>⟨n.trans (eP rfl (by simp [bN])),a⟩
  ·exact (MS p D r t z x y s b g A B d f m k l j w h o _ rfl).mono fun e q ⟨n,a⟩=>⟨n.trans (eP rfl (by simp [bN,o])),a⟩
  exact (MU p D r t z x y s b g A B d f m k l j w h o _ rfl).mono fun e q ⟨n,a⟩=>⟨n.trans (eP rfl (by simp [bN,o])),a⟩
 by_cases K:E=2
 ·subst K
  rcases C with rfl|rfl|rfl
  ·exact (MV p z x y s b g A B d f m k l j w).mono fun e q ⟨n,a⟩=>⟨n.trans (eP rfl (by simp [bN])),a⟩
  ·cases o:aD x y
   ·exact (MW p z x y s b g A B d f m k l j w o).mono fun e q ⟨n,a⟩=>⟨n.trans (eP rfl (by simp [bN,o])),a⟩
   by_cases N:0 < t.bd (ci x y)
   ·exact (MX p D r t z x y s b g A B d f m k l j w h o _ rfl N).mono fun e q ⟨n,a⟩=>⟨n.trans (eP rfl (by simp [bN,o,gK,N])),a⟩
   exact (MY p D r t z x y s b g A B d f m k l j w h o _ rfl (decide_eq_false N)).mono fun e q ⟨n,a⟩=>⟨n.trans (eP rfl (by simp [bN,o,gK,N])),a⟩
  exact (MZ p z x y s b g A B d f m k l j w).mono fun e q ⟨n,a⟩=>⟨n.trans (eP rfl (by simp [bN])),a⟩
 by_cases L:E=3
 ·subst L
  rcases C with rfl|rfl|rfl
  ·exact (NA p D r t z x y s b g A B d f m k l j w h _ F).mono fun e q ⟨n,a⟩=>⟨n.trans (eP rfl (by simp [bN])),a⟩
  ·exact (NC p D r t z x y s b g A B d f m k l j w h _ F).mono fun e q ⟨n,a⟩=>⟨n.trans (eP rfl (by simp [bN])),a⟩
  cases H:bQ t.us s with
  | none =>
   rw [H] at F
   exact (ND p D r t z x y s b g A B d f m k l j w h F).mono fun e q ⟨n,a⟩=>⟨n.trans (eP rfl (by simp [bN,gY,KR H])),a⟩
  | some i =>
   obtain ⟨v,hi,_⟩:=iV H
   rw [H] at F
   exact (NE p D r t z x y s b g A B d f m k l j w h i v hi F).mono fun e q ⟨n,a⟩=>⟨n.trans (eP rfl (by simp [bN,gY,KT H hi])),a⟩
 by_cases M:E=4
 ·subst M
  rcases C with rfl|rfl|rfl
  ·by_cases O:x=2
   ·subst O
    exact (NH p z y s b g A B d f m k l j w).mono fun e q ⟨n,a⟩=>⟨n.trans (eP rfl (by simp [bN])),a⟩
   exact (NG p z x y s b g A B d f m k l j w (by simpa using O)).mono fun e q ⟨n,a⟩=>⟨n.trans (eP rfl (by simp [bN,O])),a⟩
  ·exact (NI p z x y s b g A B d f m k l j w).mono fun e q ⟨n,a⟩=>⟨n.trans (eP rfl (by simp [bN])),a⟩
  exact (NJ p z x y s b g A B d f m k l j w).mono fun e q ⟨n,a⟩=>⟨n.trans (eP rfl (by simp [bN])),a⟩
 refine Calls.mono (xW p _ _ w false (.inr ⟨by simpa using I,by simpa using J,by simpa using K,by simpa using L,by simpa using M,rfl⟩)) ?_
 rintro e q ⟨rfl,a⟩
 exact ⟨eP (by simp [lO,J,K,L,M]) (by simp [bN,I,J,K,L,M]),a⟩
theorem QK {t:T}{u:U}{c:Cm}(h:bN t u c=true):lO u c=u.ordered (eM c):=by
 unfold bN at h
 unfold lO eM U.ordered
 by_cases a:c.what=0
 ·simp [a]
 by_cases b:c.what=1
 ·simp [b]
 by_cases d:c.what=2
 ·simp [d]
 by_cases e:c.what=3
 ·simp [e]
 by_cases f:c.what=4
 ·simp [f]
 simp [a,b,d,e,f] at h
def CmdW (w:World)(v:Value)(l:List Cm)(e:Nat):Prop:=(∃ d b,v=.slice d 0 b/\l=[])\/∃ a c b,v=.slice (some ⟨a,c,none⟩) l.length b/\a≠e/\∀ (i:Nat) (h:i < l.length),w.rangeAt a (c+i*5) (l[i]'h).cells
structure RCmdI (w:World) (gb pb cap:Nat) (p:Int) (t:T) (l:List Cm) (k:Nat) (v:Value) (wr:World):Prop where
 ex:∃ t' rs,RG wr gb pb cap t'/\TOk t'/\rs.length<=k/\wr.ownsRow w.heap.size 3 1 v rs.length (ints rs)/\(rs ++ (aW p k (l.drop k) t').1,(aW p k (l.drop k) t').2)=aW p 0 l t
 fr:Fr [pb] w wr
structure RCmd (w:World) (gb pb cap:Nat) (t:T) (rs:List Nat) (v:Value) (w':World):Prop where
 rg:RG w' gb pb cap t
 own:w'.ownsRow w.heap.size 3 1 v rs.length (ints rs)
 fr:Fr [pb] w w'
theorem RG.put11 {w:World}{d a b:Nat}{t:T}(h:RG w d a b t){i:Nat}{u:U}(hi:t.us[i]?=some u)(u':U):RG (((((((((((w.setCell ⟨a,i*11,none⟩ (.int .i64 u'.id)).setCell ⟨a,i*11+1,none⟩ (.int .i64 u'.owner)).setCell ⟨a,i*11+2,none⟩ (.int .i64 u'.kind)).setCell ⟨a,i*11+3,none⟩ (.int .i64 u'.x)).setCell ⟨a,i*11+4,none⟩ (.int .i64 u'.y)).setCell ⟨a,i*11+5,none⟩ (.int .i64 u'.life)).setCell ⟨a,i*11+6,none⟩ (.int .i64 u'.load)).setCell ⟨a,i*11+7,none⟩ (.int .i64 u'.what)).setCell ⟨a,i*11+8,none⟩ (.int .i64 u'.tox)).setCell ⟨a,i*11+9,none⟩ (.int .i64 u'.toy)).setCell ⟨a,i*11+10,none⟩ (.int .i64 u'.target)) d a b { t with us:=t.us.set i u' }:=by
 have e:=h.setC (u':={ u with id:=u'.id }) (v:=ii u'.id) (i:=i) hi (j:=0) (by omega) rfl
 have h1:=e.setC (u':={ u with id:=u'.id,owner:=u'.owner }) (v:=ii u'.owner) (i:=i) (aV hi) (j:=1) (by omega) rfl
 have f:=h1.setC (u':={ u with id:=u'.id,owner:=u'.owner,kind:=u'.kind }) (v:=ii u'.kind) (i:=i) (aV (aV hi)) (j:=2) (by omega) rfl
 have g:=f.setC (u':={ u with id:=u'.id,owner:=u'.owner,kind:=u'.kind,x:=u'.x }) (v:=ii u'.x) (i:=i) (aV (aV (aV hi))) (j:=3) (by omega) rfl
 have k:=g.setC (u':={ u with id:=u'.id,owner:=u'.owner,kind:=u'.kind,x:=u'.x,y:=u'.y }) (v:=ii u'.y) (i:=i) (aV (aV (aV (aV hi)))) (j:=4) (by omega) rfl
 have l:=k.setC (u':={ u with id:=u'.id,owner:=u'.owner,kind:=u'.kind,x:=u'.x,y:=u'.y,life:=u'.life }) (v:=ii u'.life) (i:=i) (aV (aV (aV (aV (aV hi))))) (j:=5) (by omega) rfl
 have m:=l.setC (u':={ u with id:=u'.id,owner:=u'.owner,kind:=u'.kind,x:=u'.x,y:=u'.y,life:=u'.life,load:=u'.load }) (v:=ii u'.load) (i:=i) (aV (aV (aV (aV (aV (aV hi)))))) (j:=6) (by omega) rfl
 have n:=m.setC (u':={ u with id:=u'.id,owner:=u'.owner,kind:=u'.kind,x:=u'.x,y:=u'.y,life:=u'.life,load:=u'.load,what:=u'.what }) (v:=ii u'.what) (i:=i) (aV (aV (aV (aV (aV (aV (aV hi))))))) (j:=7) (by omega) rfl
 have o:=n.setC (u':={ u with id:=u'.id,owner:=u'.owner,kind:=u'.kind,x:=u'.x,y:=u'.y,life:=u'.life,load:=u'.load,what:=u'.what,tox:=u'.tox }) (v:=ii u'.tox) (i:=i) (aV (aV (aV (aV (aV (aV (aV (aV hi)))))))) (j:=8) (by omega) rfl
 have p:=o.setC (u':={ u with id:=u'.id,owner:=u'.owner,kind:=u'.kind,x:=u'.x,y:=u'.y,life:=u'.life,load:=u'.load,what:=u'.what,tox:=u'.tox,toy:=u'.toy }) (v:=ii u'.toy) (i:=i) (aV (aV (aV (aV (aV (aV (aV (aV (aV hi))))))))) (j:=9) (by omega) rfl
 have c:=p.setC (u':={ u with id:=u'.id,owner:=u'.owner,kind:=u'.kind,x:=u'.x,y:=u'.y,life:=u'.life,load:=u'.load,what:=u'.what,tox:=u'.tox,toy:=u'.toy,target:=u'.target }) (v:=ii u'.target) (i:=i) (aV (aV (aV (aV (aV (aV (aV (aV (aV (aV hi)))))))))) (j:=10) (by omega) rfl
 simp only [set_set,Nat.add_zero] at c
 exact c
theorem TJ {t:T}{p:Int}{c:Cm}(h:bQ t.us c.unit=none):dZ t p c=(false,t):=by unfold dZ;rw [h]
theorem TK {t:T}{p:Int}{c:Cm}{j:Nat}{u:U}(h:bQ t.us c.unit=some j)(a:t.us[j]?=some u):dZ t p c=if u.owner=p/\bN t u c=true then (true,{ t with us:=t.us.set j (u.ordered (eM c)) }) else (false,t):=by
 unfold dZ
 rw [h]
 dsimp only
 rw [a]
theorem zE (Q f D:Nat)(t:T)(p:Int)(l:List Cm)(lv:Value)(w:World)(h:RG w Q f D t)(bi:TOk t)(al:eO t.us=0)(cq:t.turn < 1000000000)(hl:CmdW w lv l f)(cg:l.length<=2000000) :
  Cs 134 #[.pointer (so Q),.int .i64 p,lv] w fun e d=>∃ v,e=.returned v/\RCmd w Q f D (aW p 0 l t).2 (aW p 0 l t).1 v d:=by
 obtain ⟨az,au,aw,ax,ay⟩:=info_parts oD
 obtain ⟨ao,lc,rfl⟩:∃ ao lc,lv=.slice ao l.length lc:=by
  rcases hl with ⟨ao,lc,rfl,rfl⟩|⟨A,F,lc,rfl,_⟩
  ·exact ⟨_,_,rfl⟩
  exact ⟨_,_,rfl⟩
 have HL:=aA hl
 have bu:=h.pl
 have bq:=h.lt
 have HH:=aA h
 have bo:=aA bi
 have hW:=mX Q f D t.us w h.gv
 rw [al] at hW
 clear h bi hl al
 go_enter Tryz.func134,Tryz.ntmps134
 go_wp2_with fail
 refine Calls.mono hW ?_
 rintro e w1 ⟨rfl,bd⟩
 have Zq:=HH.o.fr0 bd
 have bv:=Zq.c0
 have ch:¬ 1000000000<=t.turn:=by omega
 clear hW
 go_wp2_with fail
 have bl:=aA Zq
 clear Zq bv
 go_loopw [7,9] (fun v i wr=>∃ k:Nat,k<=l.length/\i=.int .i64 k/\RCmdI w Q f D p t l k v wr) (fun _ i _=>l.length - (intOf i).toNat)
 case atStart=>exact ⟨0,Nat.zero_le _,rfl,⟨t,[],bl.o,bo.o,Nat.le_refl _,⟨rfl,.inl ⟨rfl,rfl⟩⟩,by simp⟩,bd.of0⟩
 obtain ⟨k,hk,rfl,hI⟩:=hrel
 obtain ⟨⟨C,rs,ht,ag,co,hown,N⟩,ae⟩:=hI
 by_cases E:k < l.length
 ·have bg:(k:Int) < (l.length:Int):=by omega
  obtain ⟨c,hc⟩:∃ c,l[k]?=some c:=⟨l[k],getElem?_eq_getElem E⟩
  have ad:l.drop k=c :: l.drop (k+1):=by
   rw [drop_eq_getElem_cons E]
   congr 1
   rw [getElem?_eq_getElem E] at hc
   exact Option.some.inj hc
  rw [ad,qD] at N
  obtain ⟨A,F,rfl,bs,S⟩:∃ A F,ao=some ⟨A,F,none⟩/\A≠f/\w.rangeAt A (F+k*5) c.cells:=by
   rcases HL.o with ⟨ao,cc,e1,e2⟩|⟨A,F,cc,e1,h2,h3⟩
   ·rw [e2] at E;simp at E
   refine ⟨A,F,by simpa using congrArg (fun v:Value=>match v with|.slice a _ _=>a|_=>none) e1,h2,?_⟩
   have:=h3 k E
   rw [getElem?_eq_getElem E] at hc
   rw [Option.some.inj hc] at this
   exact this
  have bf:A < w.heap.size:=aI (S 0 _ rfl)
  have HC:Hi (∀ W,Fr [f] w W->W.cell? ⟨A,F+k*5,none⟩=some (ii c.unit)/\W.cell? ⟨A,F+k*5+1,none⟩=some (ii c.what)/\W.cell? ⟨A,F+k*5+2,none⟩=some (ii c.x)/\W.cell? ⟨A,F+k*5+3,none⟩=some (ii c.y)/\W.cell? ⟨A,F+k*5+4,none⟩=some (ii c.target)):=fun W hf=>by
   have K:∀ j,W.cell? ⟨A,j,none⟩=w.cell? ⟨A,j,none⟩:=fun j=>hf.cell _ _ bf (by simpa using bs)
   exact ⟨(K _).trans (S 0 _ rfl),(K _).trans (S 1 _ rfl),(K _).trans (S 2 _ rfl),(K _).trans (S 3 _ rfl),(K _).trans (S 4 _ rfl)⟩
  obtain ⟨c0,_,_,_,_⟩:=HC.o _ ae
  have Zr:=(pH ag p c (fun _=>True)).1.ok
  have J:=lN Q f D C.us c.unit wr ht.gv
  have HT:=aA ht
  have HO:=aA hown
  have aj:=aA N
  have HF:=aA ae
  have ak:=(show Hi _ from ag)
  have ct:=ae.size
  have HN:Hi (∀ (W:World) (j:Nat) (u:Value),[ii (k:Int)][j]?=some u->(W.alloc (.cells #[.int .i64 k] 3)).cell? ((⟨W.heap.size,0,none⟩:Addr).add j)=some u):=by
   intro W j u hu
   have hj:j=0:=by
    have:=(gs.1 hu).1
    simp at this
    exact this
   subst hj
   rw [Addr.add_lit,aB (aC W _)]
   simpa using hu
  have ar:∀ b,u7.ownBlock=some b->w.heap.size<=b:=fun b hb=>cG HO.o hb
  have am:=aA ar
  have an:Hi (∀ Y,Fr [f] wr Y->(Y.alloc (.cells #[.int .i64 k] 3)).ownsRow w.heap.size 3 1 u7 rs.length (ints rs)):=fun Y hf=>aF (aF HO.o hf (fun b hb=>by have:=ar b hb;simp;omega)) ((r0 [] Y).alloc _) (by simp)
  have aa:Hi (∀ Y H v',Fr [] wr Y->dZ C p c=(false,C)->H.ownsRow w.heap.size 3 1 v' (rs.length+1) (ints rs ++ [ii (k:Int)])->(Y.alloc (.cells #[.int .i64 k] 3)).grownBy H u7.ownBlock->RCmdI w Q f D p t l (k+1) v' H):=fun Y H v' be bw n m=>by
   have L:Fr u7.ownBlock.toList Y H:=((r0 _ _).alloc _).grow m (fun g O=>.inl (by simp [O]))
   have Zs:Fr [f] w Y:=HF.o.then0 be
   have bz:Fr [f] w H:=Zs.trans L (fun b hb=>.inr (am.o b (by simpa using hb)))
   have bh:∀ b,b < w.heap.size->b∉u7.ownBlock.toList:=fun b hb hm=>by
    have:=am.o b (by simpa using hm)
    omega
   refine ⟨⟨C,rs ++ [k],(HT.o.fr0 be).fr L (bh _ bq) (bh _ bu),ak.o,by simp;omega,by simpa using n,?_⟩,bz⟩
   have:=aj.o
   rw [bw] at this
   simpa using this
  clear ht N ad hc ae hown ag ar
  cases hp:bQ C.us c.unit with
  | none =>
   rw [hp] at J
   have ab:=(show Hi _ from TJ (p:=p) hp)
   go_wp2_with fail
   refine Calls.mono J ?_
   rintro e Y ⟨rfl,rfl⟩
   dsimp only [gH]
   clear J
   go_wp2_with (at_builtin;refine wpList_append_own _ rfl _ _ 25 rfl w.heap.size 3 az (ii 0) 1 8 Tryz.underlying25 au aw ax ay rfl (by decide) u7 rs.length (ints rs) rfl (an.o _ (r0 _ _)) ⟨wr.heap.size,0,none⟩ 1 1 [ii (k:Int)] rfl rfl (HN.o wr) (by simp [Value.oneCell']) (by unfold maxLen;omega) (by omega) (by simp;omega) ?_;intro v' H n m af)
   go_roundw
   case rel=>exact ⟨k+1,E,by go_num,aa.o _ _ _ (r0 _ _) ab.o n m⟩
   case measure=>simp [intOf];omega
  | some j =>
   obtain ⟨u,hj,-⟩:=iV hp
   rw [hp] at J
   have ab:=(show Hi _ from TK (p:=p) hp hj)
   have ck:=(gs.1 hj).1
   have cf:(j:Int) < (C.us.length:Int):=by omega
   have cj:¬ (j:Int) < 0:=by omega
   have cp:=HT.o.len
   have bp:=HT.o.c148
   obtain ⟨_,d1,_,_,_,_,_,_,_,_,_⟩:=HT.o.gv.p.at hj
   have P:=aA hj
   have br:=(ak.o.all u (mem_of_getElem? hj)).kd
   clear hp hj
   by_cases ah:u.owner=p
   ·have bj:(u.owner != p)=false:=by simpa using ah
    have I:Hi (dZ C p c=if bN C u c=true then (true,{ C with us:=C.us.set j (u.ordered (eM c)) }) else (false,C)):=by
     show _=_
     rw [ab.o]
     simp only [ah,true_and]
    clear ah ab
    have ai:Hi (∀ W,Fr [] wr W->Cs 178 #[.pointer (so Q),u.val,c.val] W fun e d=>e=.returned (.tuple #[(lO u c).val,.bool (bN C u c)])/\Fr [] W d):=fun W hf=>QL Q f D C u c W (HT.o.fr0 hf) br
    have ba:=(show Hi _ from fun hb:bN C u c=true=>QK hb)
    obtain ⟨u',av⟩:∃ u',u'=lO u c:=⟨_,rfl⟩
    obtain ⟨B,hB⟩:∃ B,bN C u c=B:=⟨_,rfl⟩
    rw [<- av,hB] at ai
    rw [<- av,hB] at ba
    rw [hB] at I
    have HS:∀ d,Fr [] wr d->(fun d:World=>ca d Q 148 (.slice (so f) C.us.length D)/\ca d f (j*11) (ii u.id)/\ca d f (j*11+1) (ii u.owner)/\ca d f (j*11+2) (ii u.kind)/\ca d f (j*11+3) (ii u.x)/\ca d f (j*11+4) (ii u.y)/\ca d f (j*11+5) (ii u.life)/\ca d f (j*11+6) (ii u.load)/\ca d f (j*11+7) (ii u.what)/\ca d f (j*11+8) (ii u.tox)/\ca d f (j*11+9) (ii u.toy)/\ca d f (j*11+10) (ii u.target)/\ca d A (F+k*5) (ii c.unit)/\ca d A (F+k*5+1) (ii c.what)/\ca d A (F+k*5+2) (ii c.x)/\ca d A (F+k*5+3) (ii c.y)/\ca d A (F+k*5+4) (ii c.target)) d:=fun d hf=>by
     have O:=HT.o.fr0 hf
     exact ⟨O.c148,(O.gv.p.at P.o).1,(O.gv.p.at P.o).2.1,(O.gv.p.at P.o).2.2.1,(O.gv.p.at P.o).2.2.2.1,(O.gv.p.at P.o).2.2.2.2.1,(O.gv.p.at P.o).2.2.2.2.2.1,(O.gv.p.at P.o).2.2.2.2.2.2.1,(O.gv.p.at P.o).2.2.2.2.2.2.2.1,(O.gv.p.at P.o).2.2.2.2.2.2.2.2.1,(O.gv.p.at P.o).2.2.2.2.2.2.2.2.2.1,(O.gv.p.at P.o).2.2.2.2.2.2.2.2.2.2,HC.o _ (HF.o.then0 hf)⟩
    have KF:Fr [] wr wr.drew:=(r0 _ _).drew
    have KA:Fr [] wr (wr.alloc (.cells #[ii 0,ii 0,ii 0,ii 0,ii 0,ii 0,ii 0,ii 0,ii 0,ii 0,ii 0] 85)).drew:=((r0 _ _).alloc _).drew
    have K0:=HS _ KF
    have KS:=HS _ KA
    have KH:(wr.alloc (.cells #[ii 0,ii 0,ii 0,ii 0,ii 0,ii 0,ii 0,ii 0,ii 0,ii 0,ii 0] 85)).drew.heap[wr.heap.size]?=some (.cells #[ii 0,ii 0,ii 0,ii 0,ii 0,ii 0,ii 0,ii 0,ii 0,ii 0,ii 0] 85):=aC wr _
    clear av hB
    go_wp2_with fail
    refine Calls.mono J ?_
    rintro e Y ⟨rfl,rfl⟩
    dsimp only [gH]
    clear J
    go_wp2_with fail
    go_cut [11,12] (fun cd ce wx=>∃ r,cd=.pointer (so r)/\ce=.bool B/\Fr [] wr wx/\wr.heap.size<=r/\wx.heap[r]?=some (.cells u'.arr 85))
    case first =>
     go_region_held (fun d:World=>ca d Q 148 (.slice (so f) C.us.length D)/\ca d f (j*11) (ii u.id)/\ca d f (j*11+1) (ii u.owner)/\ca d f (j*11+2) (ii u.kind)/\ca d f (j*11+3) (ii u.x)/\ca d f (j*11+4) (ii u.y)/\ca d f (j*11+5) (ii u.life)/\ca d f (j*11+6) (ii u.load)/\ca d f (j*11+7) (ii u.what)/\ca d f (j*11+8) (ii u.tox)/\ca d f (j*11+9) (ii u.toy)/\ca d f (j*11+10) (ii u.target)/\ca d A (F+k*5) (ii c.unit)/\ca d A (F+k*5+1) (ii c.what)/\ca d A (F+k*5+2) (ii c.x)/\ca d A (F+k*5+3) (ii c.y)/\ca d A (F+k*5+4) (ii c.target))
      (first|with_reducible exact K0|with_reducible exact KS|with_reducible exact ap|with_reducible exact bb|with_reducible exact bc)
      (first|(go_at_call 178;with_reducible refine Calls.mono (ai.o _ KF) ?_;rintro e H ⟨rfl,L⟩;have s:Fr [] wr H:=KF.then0 L;have ap:=HS H s;have bb:=HS _ (s.alloc (.cells #[ii 0,ii 0,ii 0,ii 0,ii 0,ii 0,ii 0,ii 0,ii 0,ii 0,ii 0] 85));have bc:=HS _ (s.alloc (.cells u'.arr 85));have M:True:=trivial)|(go_at_call 178;with_reducible refine Calls.mono (ai.o _ KA) ?_;rintro e H ⟨rfl,L⟩;have s:Fr [] wr H:=KA.then0 L;have ap:=HS H s;have R:=(((((((((((s).setCell ⟨wr.heap.size,0,none⟩ (.int .i64 u'.id) (.inr (Nat.le_refl _))).setCell ⟨wr.heap.size,1,none⟩ (.int .i64 u'.owner) (.inr (Nat.le_refl _))).setCell ⟨wr.heap.size,2,none⟩ (.int .i64 u'.kind) (.inr (Nat.le_refl _))).setCell ⟨wr.heap.size,3,none⟩ (.int .i64 u'.x) (.inr (Nat.le_refl _))).setCell ⟨wr.heap.size,4,none⟩ (.int .i64 u'.y) (.inr (Nat.le_refl _))).setCell ⟨wr.heap.size,5,none⟩ (.int .i64 u'.life) (.inr (Nat.le_refl _))).setCell ⟨wr.heap.size,6,none⟩ (.int .i64 u'.load) (.inr (Nat.le_refl _))).setCell ⟨wr.heap.size,7,none⟩ (.int .i64 u'.what) (.inr (Nat.le_refl _))).setCell ⟨wr.heap.size,8,none⟩ (.int .i64 u'.tox) (.inr (Nat.le_refl _))).setCell ⟨wr.heap.size,9,none⟩ (.int .i64 u'.toy) (.inr (Nat.le_refl _))).setCell ⟨wr.heap.size,10,none⟩ (.int .i64 u'.target) (.inr (Nat.le_refl _));have bb:=HS _ R;have bc:=ap;have M:H.heap[wr.heap.size]?=some (.cells #[ii 0,ii 0,ii 0,ii 0,ii 0,ii 0,ii 0,ii 0,ii 0,ii 0,ii 0] 85):=L.heap0 KH;have cm:∀ j,H.cell? ⟨wr.heap.size,j,none⟩=#[ii 0,ii 0,ii 0,ii 0,ii 0,ii 0,ii 0,ii 0,ii 0,ii 0,ii 0][j]?:=(fun j=>aB M);have cn:∀ j,H.frozen? ⟨wr.heap.size,j,none⟩=false:=(fun j=>bI M)))
     ·go_wp2_with fail
      go_meet
      exact ⟨_,rfl,rfl,s.alloc _,s.size,aC _ _⟩
     go_wp2_with fail
     go_meet
     exact ⟨_,rfl,rfl,R,Nat.le_refl _,set11 (z:=zeroU) (v:=u') M⟩
    case rest =>
     obtain ⟨r,rfl,rfl,V,cr,bx⟩:=hcut
     clear K0 KS KF KA HS ai KH c0 bp d1
     cases B
     ·rw [if_neg (by simp)] at I
      have cs:=V.size
      go_wp2_with (at_builtin;refine wpList_append_own _ rfl _ _ 25 rfl w.heap.size 3 az (ii 0) 1 8 Tryz.underlying25 au aw ax ay rfl (by decide) u7 rs.length (ints rs) rfl (an.o _ V.of0) ⟨wc.heap.size,0,none⟩ 1 1 [ii (k:Int)] rfl rfl (HN.o wc) (by simp [Value.oneCell']) (by unfold maxLen;omega) (by omega) (by simp;omega) ?_;intro v' H n m af)
      go_roundw
      case rel=>exact ⟨k+1,E,by go_num,aa.o _ _ _ V I.o n m⟩
      case measure=>simp [intOf];omega
     rw [if_pos rfl] at I
     have HU:=(show Hi _ from ba.o rfl)
     have X:=HT.o.fr0 V
     have bn:=aA X
     have bt:=X.ne
     have bk:¬ r=f:=by omega
     have K:=X.c148
     obtain ⟨y0,y1,y2,y3,y4,y5,y6,y7,y8,y9,cu⟩:=X.gv.p.at P.o
     have fz:∀ q,wc.frozen? ⟨f,q,none⟩=false:=fun q=>X.frz q
     have HS:∀ d,Fr [f] wc d->(fun d:World=>ca d Q 148 (.slice (so f) C.us.length D)/\cl d r 0 u'.id/\cl d r 1 u'.owner/\cl d r 2 u'.kind/\cl d r 3 u'.x/\cl d r 4 u'.y/\cl d r 5 u'.life/\cl d r 6 u'.load/\cl d r 7 u'.what/\cl d r 8 u'.tox/\cl d r 9 u'.toy/\cl d r 10 u'.target) d:=fun d hf=>by
      have hx:=hf.heap bx (by simpa using bk)
      exact ⟨(hf.cell _ _ (aI K) (by simpa using bt)).trans K,aB hx,aB hx,aB hx,aB hx,aB hx,aB hx,aB hx,aB hx,aB hx,aB hx,aB hx⟩
     have KF:Fr [f] wc wc.drew:=(r0 _ _).drew
     have K0:=HS _ KF
     have R:=((((((((((((r0 [f] wc)).setCell ⟨f,j*11,none⟩ (.int .i64 u'.id) (.inl (by simp))).setCell ⟨f,j*11+1,none⟩ (.int .i64 u'.owner) (.inl (by simp))).setCell ⟨f,j*11+2,none⟩ (.int .i64 u'.kind) (.inl (by simp))).setCell ⟨f,j*11+3,none⟩ (.int .i64 u'.x) (.inl (by simp))).setCell ⟨f,j*11+4,none⟩ (.int .i64 u'.y) (.inl (by simp))).setCell ⟨f,j*11+5,none⟩ (.int .i64 u'.life) (.inl (by simp))).setCell ⟨f,j*11+6,none⟩ (.int .i64 u'.load) (.inl (by simp))).setCell ⟨f,j*11+7,none⟩ (.int .i64 u'.what) (.inl (by simp))).setCell ⟨f,j*11+8,none⟩ (.int .i64 u'.tox) (.inl (by simp))).setCell ⟨f,j*11+9,none⟩ (.int .i64 u'.toy) (.inl (by simp))).setCell ⟨f,j*11+10,none⟩ (.int .i64 u'.target) (.inl (by simp))
     have KS:=HS _ R.drew
     have bm:=(show Hi _ from bn.o.put11 P.o u')
     clear X HS
     go_wp2_with fail
     go_region_held (fun d:World=>ca d Q 148 (.slice (so f) C.us.length D)/\ca d r 0 (ii u'.id)/\ca d r 1 (ii u'.owner)/\ca d r 2 (ii u'.kind)/\ca d r 3 (ii u'.x)/\ca d r 4 (ii u'.y)/\ca d r 5 (ii u'.life)/\ca d r 6 (ii u'.load)/\ca d r 7 (ii u'.what)/\ca d r 8 (ii u'.tox)/\ca d r 9 (ii u'.toy)/\ca d r 10 (ii u'.target)) (first|with_reducible exact K0|with_reducible exact KS) (fail)
     go_wp2_with fail
     go_roundw
     case rel =>
      have cb:Fr [f] w (((((((((((wc.setCell ⟨f,j*11,none⟩ (.int .i64 u'.id)).setCell ⟨f,j*11+1,none⟩ (.int .i64 u'.owner)).setCell ⟨f,j*11+2,none⟩ (.int .i64 u'.kind)).setCell ⟨f,j*11+3,none⟩ (.int .i64 u'.x)).setCell ⟨f,j*11+4,none⟩ (.int .i64 u'.y)).setCell ⟨f,j*11+5,none⟩ (.int .i64 u'.life)).setCell ⟨f,j*11+6,none⟩ (.int .i64 u'.load)).setCell ⟨f,j*11+7,none⟩ (.int .i64 u'.what)).setCell ⟨f,j*11+8,none⟩ (.int .i64 u'.tox)).setCell ⟨f,j*11+9,none⟩ (.int .i64 u'.toy)).setCell ⟨f,j*11+10,none⟩ (.int .i64 u'.target)).drew:=((HF.o.then0 V).trans R (by simp)).drew
      refine ⟨k+1,E,by go_num,⟨{ C with us:=C.us.set j (u.ordered (eM c)) },rs,?_,?_,by omega,?_,?_⟩,cb⟩
      ·rw [<- HU.o]
       exact bm.o.fr0 ((r0 _ _).drew)
      ·have:=Zr
       rw [I.o] at this
       exact this
      ·exact aF (aF HO.o V (by simp)) R.drew (fun b hb=>by have:=am.o b hb;simp;omega)
      have:=aj.o
      rw [I.o] at this
      simpa using this
     case measure=>simp [intOf];omega
   have bj:(u.owner != p)=true:=by simpa using ah
   have I:Hi (dZ C p c=(false,C)):=by
    show _=_
    rw [ab.o,if_neg (fun x=>ah x.1)]
   go_wp2_with fail
   refine Calls.mono J ?_
   rintro e Y ⟨rfl,rfl⟩
   dsimp only [gH]
   clear J
   go_wp2_with (at_builtin;refine wpList_append_own _ rfl _ _ 25 rfl w.heap.size 3 az (ii 0) 1 8 Tryz.underlying25 au aw ax ay rfl (by decide) u7 rs.length (ints rs) rfl (an.o _ (r0 _ _)) ⟨wr.heap.size,0,none⟩ 1 1 [ii (k:Int)] rfl rfl (HN.o wr) (by simp [Value.oneCell']) (by unfold maxLen;omega) (by omega) (by simp;omega) ?_;intro v' H n m af)
   go_roundw
   case rel=>exact ⟨k+1,E,by go_num,aa.o _ _ _ (r0 _ _) I.o n m⟩
   case measure=>simp [intOf];omega
 have ac:=N
 rw [drop_of_length_le (by omega)] at ac
 have bg:¬ (k:Int) < (l.length:Int):=by omega
 go_wp2_with fail
 go_ret
 have aq:(rs,C)=aW p 0 l t:=by simpa [aW] using ac
 refine ⟨u7,rfl,?_⟩
 rw [<- aq]
 exact ⟨ht,hown,ae⟩
