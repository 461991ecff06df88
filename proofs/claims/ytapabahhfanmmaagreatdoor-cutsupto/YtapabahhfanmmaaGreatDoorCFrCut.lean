import Derived.Test.YtapabahhfanmmaaGreatDoorCBookM
namespace Go.Proofs.YtapabahhfanmmaaGreatDoor
open Go.RowKit List Go.Proofs.Tryz
set_option maxHeartbeats 4000000
set_option maxRecDepth 100000
theorem vW:∀(b a d:Nat) (c:List UInt8),(fO b a d c).2<=a+b
 |0,_,_,_=>Z3 _
 |_+1,_,_,[]=>Z3 _
 |b+1,a,d,e::c=>by
  unfold fO
  split
  ·have:=vW b (a+1) (d+e.toNat%128*128^a) c;omega
  grind
def cA(b:UInt8)(a:List UInt8):Option (List UInt8×List UInt8):=
 if dP [75,b] a=true then
  if(aT (a.drop 2)).2=0\/40000<(aT (a.drop 2)).1\/((a.drop 2).drop (aT (a.drop 2)).2).length<(aT (a.drop 2)).1 then none
  else
   if dP (cP (a.take (a.length-(((a.drop 2).drop (aT (a.drop 2)).2).drop (aT (a.drop 2)).1).length))) (((a.drop 2).drop (aT (a.drop 2)).2).drop (aT (a.drop 2)).1)=true then
    some (((a.drop 2).drop (aT (a.drop 2)).2).take (aT (a.drop 2)).1,(((a.drop 2).drop (aT (a.drop 2)).2).drop (aT (a.drop 2)).1).drop 4)
   else none
 else none
def jJ(a:Option (List UInt8×List UInt8)):Value:=match a with
 |some (c,r)=>.tuple #[.string ⟨c.toArray⟩,.string ⟨r.toArray⟩,.bool true]
 |none=>.tuple #[.string ⟨#[]⟩,.string ⟨#[]⟩,.bool false]
theorem Dx(c:Nat)(b:List UInt8)(e:Bool)(a:World)(d:RdAt a c b e):Cs 130 #[pt c] a (R1 a (.string ⟨b.toArray⟩)):=by
 have f:ca a c 0 (.string ⟨b.toArray⟩):=aB d.all;clear d
 delta Cs;go_in
 go_wp2;go_ret;simp_all
theorem sD(g:UInt8)(a:List UInt8)(e:World)(hl:a.length<=100000000000000):Cs 89 #[.string ⟨a.toArray⟩,.int .u8 g.toNat] e (R0 e (jJ (cA g a))):=by
 obtain⟨D,A⟩:∃D:ByteArray,D=⟨a.toArray⟩:=⟨_,rfl⟩;have be:D.size=a.length:=by rw[A];rfl
 have k:=λe=>DE a [75,g] e;rw[<-A]at k |-;have V:=aA A;obtain⟨J,M⟩:∃J:ByteArray,J=⟨[75,g].toArray⟩:=⟨_,rfl⟩;have z:=FL g e;rw[<-M]at z;simp only[<-M]at k;clear M A
 by_cases l:dP [75,g] a=true
 ·have b:Hi (cA g a=if(aT (a.drop 2)).2=0\/40000<(aT (a.drop 2)).1\/((a.drop 2).drop (aT (a.drop 2)).2).length<(aT (a.drop 2)).1 then none
    else
     if dP (cP (a.take (a.length-(((a.drop 2).drop (aT (a.drop 2)).2).drop (aT (a.drop 2)).1).length))) (((a.drop 2).drop (aT (a.drop 2)).2).drop (aT (a.drop 2)).1)=true then
      some (((a.drop 2).drop (aT (a.drop 2)).2).take (aT (a.drop 2)).1,(((a.drop 2).drop (aT (a.drop 2)).2).drop (aT (a.drop 2)).1).drop 4)
     else none):=by show _=_;unfold cA;rw[Q7 l]
  rw[l]at k;simp only[if_true]at k;have bb:2<=a.length:=by unfold dP at l;have:=V3 length (Qj8 l);rw[Qz8]at this;simp at this;omega
  have I:∀e,Cs 129 #[.string D,.string J] e (R1 e (.tuple #[.string ⟨(a.drop 2).toArray⟩,.bool true])):=k;obtain⟨h,t⟩:=nm (a.drop 2);have W:h.length=a.length-2:=by rw[t,Qz2]
  rw[<-t]at b;simp only[<-t]at I;have ac:=nE h;have ae:(aT h).2<=5:=vW 5 0 0 h;obtain⟨⟨d,C⟩,H⟩:∃ak,aT h=ak:=⟨_,rfl⟩;rw[H]at b ac ae;dsimp only at b ac ae;obtain⟨c,u⟩:=nm (h.drop C);have X:c.length=h.length-C:=by rw[u,Qz2]
  rw[<-u]at b;have r:=aA H;have q:=aA u;have ao:h.length<=100000000000000:=qo;have ax:c.length<=a.length:=qo;have am:=aA W;have an:=aA X;clear H t u k l W X
  delta Cs;go_in
  go_wp2_with fail
  refine cm z ?_;rintro f w1 ⟨rfl,s⟩
  go_wp2_with (go_at_call 129;refine cm (I _) ?_;rintro f w2 ⟨rfl,rfl⟩)
  refine cm (sT h _) ?_;rintro f w3 ⟨P,rfl,bc,ad,Y⟩
  go_wp2_with fail
  refine cm (JH P h false w3 ad ao) ?_;rintro f w4 ⟨rfl,n,aa⟩;rw[r.o]at n |-;dsimp only at n |-;rw[<-q.o]at n;have ah:=(s.qT Y).trans aa (by simp;have:=s.size;omega)
  go_wp2_with (go_at_call 130;refine cm (Dx P c _ w4 n) ?_;rintro f w5 ⟨rfl,rfl⟩)
  refine cm (tO P c _ w4 n) ?_;rintro f w5 ⟨rfl,ab⟩;have B:=ah.qT ab;clear ad n z I s Y aa ab ah
  by_cases N:C=0
  ·have i:Hi (cA g a=none):=by show _=_;rw[b.o,Q7 (.inl N)]
   subst N;clear b q r;go_wp2;exact Zq8 (v:=jJ none) (by simp[results,results89,go_sem,jJ]) rfl ⟨by rw[i.o],B⟩
  have bd:(C==0)=false:=by simpa using N
  by_cases ar:40000<d
  ·have Zq:(40000:Int)<(d:Int):=qo;have i:Hi (cA g a=none):=by show _=_;rw[b.o,Q7 (.inr (.inl ar))]
   clear b q r;go_wp2;exact Zq8 (v:=jJ none) (by simp[results,results89,go_sem,jJ]) rfl ⟨by rw[i.o],B⟩
  have Zq:¬(40000:Int)<(d:Int):=qo
  by_cases Zr:c.length<d
  ·have au:(c.length:Int)<(d:Int):=qo;have i:Hi (cA g a=none):=by show _=_;rw[b.o,Q7 (.inr (.inr Zr))]
   clear b q r;go_wp2;exact Zq8 (v:=jJ none) (by simp[results,results89,go_sem,jJ]) rfl ⟨by rw[i.o],B⟩
  have au:¬(c.length:Int)<(d:Int):=qo;have m:=b.o;rw[Z0 qo]at m;have av:=tW c d;have af:=yZ c d;obtain⟨j,hb3⟩:=nm (c.drop d);have ap:j.length=c.length-d:=by rw[hb3,Qz2]
  rw[<-hb3]at m af;obtain⟨p,hk⟩:=nm (a.length-j.length);rw[<-hk]at m;have ay:j.length<=a.length:=qo;have az:(a.length:Int)-(j.length:Int)=(p:Int):=qo;have ba:p<=a.length:=qo;have ag:=tW a p;rw[<-V.o]at ag;have x:=λe=>CW (a.take p) e (by have:=am.o;have:=an.o;rw[Qz8];omega);have w:=iI (a.take p);obtain⟨tk,O⟩:∃aw:List UInt8,aw=a.take p:=⟨_,rfl⟩;rw[<-O]at m w;simp only[<-O]at x ag;obtain⟨Q,F⟩:=nm (cP tk);rw[<-F]at m w;simp only[<-F]at x;have y:=λe=>DE j Q e;rw[w]at y;have i:=aA m;obtain⟨aj,E⟩:=nn (dP Q j);rw[E]at i;simp only[E]at y;have R:=aA x;have S:=aA y;clear b q r m hb3 hk O F E x y w V ap;go_wp2
  go_cut [4,7] (fun s4 s7 wx=>s4=.string ⟨(c.take d).toArray⟩/\s7=.string ⟨j.toArray⟩/\Fr [] w5 wx)
  ·go_region
   all_goals
    go_wp2_with fail
    go_meet
    exact⟨rfl,rfl,(r0 _ _).drewN _⟩
  obtain⟨rfl,rfl,aq⟩:=hcut;have ai:=B.qT aq;clear av af;cases aj
  ·go_wp2_with fail
   refine cm (R.o _) ?_;rintro f w7 ⟨rfl,L⟩
   go_wp2_with (go_at_call 129;refine cm (S.o _) ?_;rintro f w8 ⟨rfl,rfl⟩)
   exact Zq8 (v:=jJ none) (by simp[results,results89,go_sem,jJ]) rfl ⟨by rw[i.o];rfl,ai.qT L⟩
  go_wp2_with fail
  refine cm (R.o _) ?_;rintro f w7 ⟨rfl,L⟩
  go_wp2_with (go_at_call 129;refine cm (S.o _) ?_;rintro f w8 ⟨rfl,rfl⟩)
  exact Zq8 (v:=jJ (some (c.take d,j.drop 4))) (by simp[results,results89,go_sem,jJ]) rfl ⟨by rw[i.o];rfl,ai.qT L⟩
 have b:Hi (cA g a=none):=by show _=_;unfold cA;rw[Z0 l]
 simp only[Bool.not_eq_true]at l;simp only[l]at k
 delta Cs;go_in
 go_wp2_with fail
 refine cm z ?_;rintro f w1 ⟨rfl,s⟩
 go_wp2_with (go_at_call 129;refine cm (k _) ?_;rintro f w2 ⟨rfl,rfl⟩)
 exact Zq8 (v:=jJ none) (by simp[results,results89,go_sem,jJ]) rfl ⟨by rw[b.o],s⟩
