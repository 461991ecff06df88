import Derived.Test.YtapabahhfanmmaaGreatDoorCBfs
import Derived.Laws.Bits64b
import Derived.Maps.AppendAt
import Derived.ArgAppend
import Derived.Lib.AppendStr
import Derived.Laws.MakeOwn
import Derived.Lib.UnsafeStr
import Derived.Carry
import Derived.Lib.ConvBytes
import Derived.Deep.RegionWith
namespace Go.Proofs.YtapabahhfanmmaaGreatDoor
open Go.RowKit List Go.Proofs.Tryz
set_option maxHeartbeats 2000000
set_option maxRecDepth 100000
variable {a b:Nat} {w x:World}
abbrev sv(a:List UInt8):Value:=.string ⟨a.toArray⟩
theorem ON(a b:List UInt8):((⟨a.toArray⟩:ByteArray)==⟨b.toArray⟩)=(a==b):=by
 show(a.toArray==b.toArray)=_
 simp
theorem mJ(b:Bool)(c:List UInt8)(a:World):(Instr.checkKey b 10000 9 (sv c)).run prog a=.ok () a:=by rw[show(10000:Nat)=9999+1 from rfl,Instr.checkKey];simp only[Sem.run_bind,run_underlying underlying9,Result.andThen_ok];rfl
theorem Hv(a:List UInt8)(b:World):(Instr.keyThatStays (sv a) (sv a)).run prog b=.ok (sv a) b:=by
 have:Instr.sameBits 10000 (sv a) (sv a)=true:=by simp[Instr.sameBits,ON]
 simp[Instr.keyThatStays,this]
theorem AO(f:List UInt8):∀(d:List (List UInt8×Value)) (e:List MapEntry) (c:Nat),e.map (λg=>(g.key,g.val))=d.map (λb=>(sv b.1,b.2)) ->Instr.findNow .string (sv f) e c=some (match d.findIdx? (λb=>b.1==f) with|some j=>some (c+j,((d[j]?).map (·.2)).getD undef)|none=>none)
 |[],[],c,_=>by simp[Instr.findNow]
 |[],_::_,_,a=>by simp at a
 |_::_,[],_,a=>by simp at a
 |b::d,g::e,c,a=>by
  simp only[map_cons,cons.injEq,Prod.mk.injEq]at a;obtain⟨⟨h,l⟩,i⟩:=a;have m:=AO f d e (c+1) i;simp only[Instr.findNow,h,Instr.sameNow,ON,findIdx?_cons]
  by_cases k:b.1=f
  ·grind
  grind
theorem rY(d:List UInt8)(f:World)(a:List (List UInt8×Value))(c:List MapEntry)(g:c.map (λe=>(e.key,e.val))=a.map (λb=>(sv b.1,b.2))):(Instr.findKey 9 (sv d) c).run prog f=.ok (match a.findIdx? (λb=>b.1==d) with|some j=>some (j,((a[j]?).map (·.2)).getD undef)|none=>none) f:=by unfold Instr.findKey;rw[X2,run_underlying Qq4];simp only[Result.andThen_ok];rw[AO d a c 0 g];simp
def MapS(h:World)(g:Nat)(f:List UInt8->Option Value):Prop:=
 ∃(c:List (List UInt8×Value)) (b:Array MapEntry) (clock:Nat),h.heap[g]?=some (.map b clock)/\b.toList.map (λd=>(d.key,d.val))=c.map (λa=>(sv a.1,a.2)) /\
  (c.map (·.1)).Nodup/\MapKept.Stamped b clock/\∀e,(c.find? (λa=>a.1==e)).map (·.2)=f e
theorem MapS.fr{S:List Nat}{b:List UInt8->Option Value}(e:MapS w a b)(g:Fr S w x)(h:a∉S):MapS x a b:=by obtain⟨i,d,c,f,j⟩:=e;exact⟨i,d,c,g.heap f h,j⟩
theorem MapS.made{clock:Nat}(b:w.heap[a]?=some (.map #[] clock)):MapS w a (λ_=>none):=
  ⟨[],#[],clock,b,rfl,by simp,MapKept.stamped_empty clock,by simp⟩
theorem MapS.congr{b c:List UInt8->Option Value}(g:MapS w a b)(m:∀d,b d=c d):MapS w a c:=by obtain⟨l,f,e,j,h,i,k,n⟩:=g;exact⟨l,f,e,j,h,i,k,qg⟩
theorem MapS.look{c:List UInt8->Option Value}(l:MapS w a c)(i f:TypeId)(r:prog.underlying i=some (.map 9 f))(j:Value)(s:(zeroValue f).run prog w=.ok j w)(b:List UInt8):(Instr.lookup i (.map (some a)) (sv b) true).run prog w=.ok (.tuple #[(c b).getD j,.bool (c b).isSome]) w:=by
 obtain⟨g,k,t,n,q,_,_,o⟩:=l;rw[<-o b];have p:=rY b w g k.toList q;simp only[Instr.lookup,Sem.run_bind,run_underlying r,Result.andThen_ok,MapKept.run_getObj_map n,Sem.run_pure,mJ,p];rcases lQ (λh:List UInt8×Value=>h.1==b) g with⟨v,h,d,e,u,m⟩|⟨d,e⟩
 ·rw[d,m];simp[e]
 rw[d,e];simp[s]
theorem MapS.look1{f:List UInt8->Option Value}(l:MapS w a f)(i e:TypeId)(r:prog.underlying i=some (.map 9 e))(j:Value)(s:(zeroValue e).run prog w=.ok j w)(b:List UInt8):(Instr.lookup i (.map (some a)) (sv b) false).run prog w=.ok ((f b).getD j) w:=by
 obtain⟨g,k,t,n,q,_,_,o⟩:=l;rw[<-o b];have p:=rY b w g k.toList q;simp only[Instr.lookup,Sem.run_bind,run_underlying r,Result.andThen_ok,MapKept.run_getObj_map n,Sem.run_pure,mJ,p];rcases lQ (λh:List UInt8×Value=>h.1==b) g with⟨v,h,c,d,u,m⟩|⟨c,d⟩
 ·rw[c,m];simp[d]
 rw[c,d];simp[s]
theorem Ae{c:List (List UInt8×Value)}(i:(c.map (·.1)).Nodup){d e:List UInt8×Value}(f:c[a]?=some d)(g:c[b]?=some e)(h:d.1=e.1):a=b:=by grind[pairwise_iff_getElem]
def oT(c:List (List UInt8×Value))(a:List UInt8)(d:Value):List (List UInt8×Value):=c.map λb=>if b.1=a then(a,d)else b
theorem ZT(a:List (List UInt8×Value))(b:List UInt8)(c:Value):(oT a b c).map (·.1)=a.map (·.1):=by grind[oT,map_map,map_congr_left]
theorem ZS(d:List (List UInt8×Value))(c b:List UInt8)(e:Value):((oT d c e).find? (λa=>a.1==b)).map (·.2)=if b=c then(d.find? (λa=>a.1==c)).map (λ_=>e)else(d.find? (λa=>a.1==b)).map (·.2):=by
 unfold oT;rw[find?_map];have g:((λa:List UInt8×Value=>a.1==b) ∘ λa=>if a.1=c then(c,e)else a)=λa=>a.1==b:=by grind
 rw[g]
 split
 ·subst b;cases f:d.find? (λa=>a.1==c)with
  |none=>simp
  |some a=>grind
 rename_i h
 cases f:d.find? (λa=>a.1==b)with
 |none=>simp
 |some a=>grind
theorem DX(d:List UInt8):∀(a:List (List UInt8×Value)) (e:Nat),(a.map (·.1)).Nodup->a.findIdx? (λb=>b.1==d)=some e->a.eraseIdx e=a.filter λb=>b.1 !=d
 |[],_,_,c=>by grind
 |b::a,e,f,c=>by
  simp only[map_cons,nodup_cons]at f;rw[findIdx?_cons]at c
  by_cases j:b.1=d
  ·grind[filter_eq_self]
  have h:(b.1==d)=false:=qg;rw[h]at c;simp only[Bool.false_eq_true,if_false,Option.map_eq_some_iff]at c;obtain⟨i,g,rfl⟩:=c;rw[filter_cons_of_pos qg,eraseIdx_cons_succ,DX d a i f.2 g]
theorem MapS.update{x:List UInt8->Option Value}(I:MapS w a x)(F b:TypeId)(D:prog.underlying F=some (.map 9 b))(c:List UInt8)(f:Value):∃l,(Instr.mapUpdate F (.map (some a)) (sv c) f).run prog w=.ok () {w with heap:=w.heap.setIfInBounds a l}/\MapS {w with heap:=w.heap.setIfInBounds a l} a (λE=>if E=c then some f else x E):=by
 obtain⟨i,d,h,k,s,A,C,O⟩:=I;have R:=aH k;have z:=rY c w i d.toList s;have B:∀l,({w with heap:=w.heap.setIfInBounds a l}:World).heap[a]?=some l:=qg;rcases lQ (λv:List UInt8×Value=>v.1==c) i with⟨e,v,o,j,M,N⟩|⟨o,j⟩
 ·have t:v.1=c:=qg;have P:e<i.length:=qg;have r:(d[e]?).map (·.key)=some (sv c):=by
   have:=V3 (λm=>m[e]?) s;simp only[getElem?_map,j,Option.map_some]at this;have J:d[e]?=d.toList[e]?:=qs;rw[J];cases n:d.toList[e]? with
   |none=>simp[n]at this
   |some H=>rw[n]at this;simp only[Option.map_some,Option.some.injEq,Prod.mk.injEq]at this;simp[this.1,t]
  refine⟨.map (d.modify e λb=>{b with key:=sv c,val:=f}) h,?_,oT i c f,d.modify e λb=>{b with key:=sv c,val:=f},h,B _,?_,?_,?_,?_⟩
  ·simp[Instr.mapUpdate,run_underlying D,MapKept.run_getObj_map k,mJ,z,o,r,Hv,MapKept.run_setObj_map _ k,Result.andThen]
  ·apply V8;intro u;have g:=V3 (λm=>m[u]?) s;simp only[getElem?_map,oT,Array.getElem?_toList,Array.getElem?_modify]at g |-
   by_cases q:e=u
   ·subst q;rw[Q7 rfl,j];rw[j]at g;cases n:d[e]? with
    |none=>simp[n]at g
    |some H=>simp[t]
   rw[Z0 q];cases p:i[u]? with
   |none=>rw[p]at g;simpa using g
   |some m=>have L:¬m.1=c:=λb=>q (Ae A j p (t.trans b.symm));rw[p]at g;simpa[L]using g
  ·rw[ZT];exact A
  ·refine MapKept.stamped_modify C e _ (λ_ _=>rfl) (λb _ y=>?_);rw[y]at r;simpa using r.symm
  simp_all[ZS]
 refine⟨.map (d.push {key:=sv c,val:=f,born:=h}) (h+1),?_,i++[(c,f)],d.push {key:=sv c,val:=f,born:=h},h+1,B _,?_,?_,?_,?_⟩
 ·simp[Instr.mapUpdate,run_underlying D,MapKept.run_getObj_map k,mJ,z,o,MapKept.run_setObj_map _ k,Result.andThen]
 ·grind
 ·grind
 ·refine MapKept.stamped_push C (λb y Q=>?_);have S:(b.key,b.val)∈d.toList.map (λb=>(b.key,b.val)):=qg;grind
 grind
theorem MapS.del{l:List UInt8->Option Value}(u:MapS w a l)(s ty x t:TypeId)(q:prog.underlying s=some (.map 9 t))(b:List UInt8):∃f,(Builtin.delete_ #[s,x] ty #[.map (some a),sv b]).run prog w=.ok (.tuple #[]) {w with heap:=w.heap.setIfInBounds a f}/\MapS {w with heap:=w.heap.setIfInBounds a f} a (λr=>if r=b then none else l r):=by
 obtain⟨e,c,g,d,k,n,p,A⟩:=u;have B:=aH d;have m:=rY b w e c.toList k;have o:∀f,({w with heap:=w.heap.setIfInBounds a f}:World).heap[a]?=some f:=qg;rcases lQ (λj:List UInt8×Value=>j.1==b) e with⟨i,j,h,v,y,z⟩|⟨h,v⟩
 ·refine⟨.map (c.eraseIdxIfInBounds i) g,?_,e.filter (λj=>j.1 !=b),c.eraseIdxIfInBounds i,g,o _,?_,?_,MapKept.stamped_erase p i,?_⟩
  ·simp[Builtin.delete_,run_underlying q,MapKept.run_getObj_map d,mJ,m,h,MapKept.run_setObj_map _ d,Result.andThen]
  ·rw[<-DX b e i n h,Array.toList_eraseIdxIfInBounds,qC,qC,k]
  ·grind
  grind
 refine⟨.map c g,?_,e,c,g,o _,k,n,p,?_⟩
 ·simp[Builtin.delete_,run_underlying q,MapKept.run_getObj_map d,mJ,m,h,MapKept.run_setObj_map _ d,Result.andThen]
 grind
def mS:Nat->Nat->List UInt8
 |0,_=>[]
 |b+1,a=>if a<128 then[UInt8.ofNat a]else UInt8.ofNat (a%128+128)::mS b (a/128)
def bG(a:Nat):List UInt8:=mS (a+1) a
theorem JM:∀b c a,a<b->a<c->mS b a=mS c a
 |b+1,c+1,a,d,e=>by
  unfold mS
  split
  ·rfl
  rw[JM b c (a/128) qo qo]
theorem mR(b:a<128):bG a=[UInt8.ofNat a]:=by rw[bG,mS,Q7 b]
theorem nN(b:¬a<128):bG a=UInt8.ofNat (a%128+128)::bG (a/128):=by grind[bG,mS,JM]
def fO:Nat->Nat->Nat->List UInt8->Nat×Nat
 |0,_,_,_=>(0,0)
 |_+1,_,_,[]=>(0,0)
 |d+1,a,c,b::e=>
  if 128<=b.toNat then fO d (a+1) (c+b.toNat%128*128^a) e
  else if(b.toNat=0/\0<a)\/1000000000<c+b.toNat%128*128^a then(0,0)else(c+b.toNat%128*128^a,a+1)
def aT(a:List UInt8):Nat×Nat:=fO 5 0 0 a
theorem FC(e:List UInt8):∀(c b d a:Nat),0<c->a<128^c->(0<b->0<a)->d+a*128^b<=1000000000->fO c b d (bG a++e)=(d+a*128^b,b+(bG a).length)
 |0,_,_,_,h,_,_,_=>by omega
 |c+1,b,d,a,_,h,m,n=>by
  by_cases g:a<128
  ·rw[mR g];have f:(UInt8.ofNat a).toNat=a:=by simp[UInt8.toNat_ofNat'];omega
   show(if 128<=(UInt8.ofNat a).toNat then _ else _)=_
   grind
  rw[nN g];have f:(UInt8.ofNat (a%128+128)).toNat=a%128+128:=by simp[UInt8.toNat_ofNat'];omega
  show(if 128<=(UInt8.ofNat (a%128+128)).toNat then _ else _)=_
  rw[f,Q7 qo];have l:a%128*128^b+a/128*128^(b+1)=a*128^b:=by rw[Nat.pow_succ,Nat.mul_comm (128^b) 128,<-Nat.mul_assoc,<-Nat.add_mul];grind
  have k:(a%128+128)%128=a%128:=qo;have i:a/128<128^c:=qo;have j:0<c:=by grind
  rw[k]
  show fO c (b+1) (d+a%128*128^b) (bG (a/128)++e)=_
  rw[FC e c (b+1) (d+a%128*128^b) (a/128) j i qo qo];grind
theorem rZ(a:Nat)(b:List UInt8)(c:a<=1000000000):aT (bG a++b)=(a,(bG a).length):=by grind[FC,aT]
theorem oU(a:Nat):0<(bG a).length:=by grind[mR,nN]
theorem jZ:∀(a b:Nat),b<128^a->0<a->(bG b).length<=a
 |0,_,_,c=>by omega
 |a+1,b,c,_=>by
  by_cases e:b<128
  ·grind[mR]
  rw[nN e];have d:b/128<128^a:=qo;have:0<a:=by grind
  have:=jZ a (b/128) d this;grind
theorem EY:∀(c d g a b:Nat),b<(bG a).length->fO c d g ((bG a).take b)=(0,0)
 |0,_,_,_,_,_=>rfl
 |c+1,d,g,a,b,e=>by
  by_cases f:a<128
  ·rw[mR f]at e |-;have:b=0:=qg;subst this;rfl
  rw[nN f]at e |-;cases b with
  |zero=>rfl
  |succ b=>
   have h:(UInt8.ofNat (a%128+128)).toNat=a%128+128:=by simp[UInt8.toNat_ofNat'];omega
   rw[take_succ_cons]
   show(if 128<=(UInt8.ofNat (a%128+128)).toNat then _ else _)=_
   rw[h,Q7 qo];exact EY c (d+1) _ (a/128) b qg
def aY(b:List Int):List UInt8:=b.flatMap λa=>bG a.toNat
theorem vN:aY []=[]:=rfl
theorem lS(a:Int)(b:List Int):aY (a::b)=bG a.toNat++aY b:=rfl
theorem lR(a b:List Int):aY (a++b)=aY a++aY b:=Qz5
theorem jS:∀a:List Int,(∀b∈a,b<=1000000000)->(aY a).length<=5*a.length
 |[],_=>by simp[aY]
 |b::a,c=>by have e:=jS a (λd g=>c d qg);have f:=jZ 5 b.toNat (qh (c b qs)) qo;grind[lS]
def iW(a:UInt8):Value:=.int .u8 (a.toNat:Int)
def bL(a:List UInt8):List Value:=a.map iW
theorem uW(a b:List UInt8):bL (a++b)=bL a++bL b:=Qx9
theorem JT(a:Nat)(b:a<128):bits .or .u8 (a:Int) 128=((a+128:Nat):Int):=by have:∀a:Fin 128,bits .or .u8 ((a.val:Nat):Int) 128=((a.val+128:Nat):Int):=qd;exact this ⟨a,b⟩
theorem CE(a:Nat):iW (UInt8.ofNat (a%128+128))=.int .u8 ((a%128+128:Nat):Int):=by
 unfold iW;have b:(UInt8.ofNat (a%128+128)).toNat=a%128+128:=by simp[UInt8.toNat_ofNat'];omega
 rw[b]
theorem BZ(a:Nat)(c:a<128):iW (UInt8.ofNat a)=.int .u8 (a:Int):=by
 unfold iW;have b:(UInt8.ofNat a).toNat=a:=by simp[UInt8.toNat_ofNat'];omega
 rw[b]
theorem Ax(c b a:Nat)(d:c<128^a)(i:b<128)(h:a<5):bits .or .u64 (c:Int) ((b*128^a:Nat):Int)=((c+b*128^a:Nat):Int):=by
 have f:128^a<=128^4:=Xq1 qo qo;have g:b*128^a<=127*128^4:=Nat.mul_le_mul qo f;rw[bits_or_u64_nat _ _ qo qo];congr 1;have e:128^a=2^(7*a):=by rw[Nat.pow_mul]
 rw[e]at d |-;rw[<-Nat.shiftLeft_eq,Nat.or_comm,<-Nat.shiftLeft_add_eq_or_of_lt d,Nat.add_comm]
end Go.Proofs.YtapabahhfanmmaaGreatDoor
namespace Go.Proofs.YtapabahhfanmmaaGreatDoor
open Go.RowKit Go.Lib List Go.Proofs.Tryz
set_option maxHeartbeats 2000000
set_option maxRecDepth 100000
variable {B l:List UInt8} {R:List Value} {a b:Nat} {H:TypeId} {v:Value} {w x:World}
theorem XN:(prog.info? 5).map (λa=>(a.zero,a.size,a.bytes))=some (some (.int .u8 0),1,1):=qk
theorem FW:∃a,prog.info? 5=some a/\a.zero=some (.int .u8 0)/\a.size=1/\a.bytes=1:=by have b:=XN;simp_all
def ownM(e:World)(base:Nat)(f:Value)(c:List UInt8):Prop:=
 (f=.slice none 0 0/\c=[])\/∃b d,f=.slice (so b) c.length d/\base<=b/\b<e.heap.size/\c.length<=d/\d<=maxLen /\
  (∀a,a<d->(e.cell? ⟨b,a,none⟩).isSome=true/\e.frozen? ⟨b,a,none⟩=false)/\(∀a (g:a<c.length),e.cell? ⟨b,a,none⟩=some (iW c[a]))
theorem Cg(a:World)(base:Nat):ownM a base (.slice none 0 0) []:=.inl qg
theorem sW{base:Nat}(h:w.ownsRow base 5 1 v l.length (bL l)):ownM w base v l:=by
 obtain⟨c,d⟩|⟨g,f,m,rfl,j,a,c,d,n,i⟩:=h.2
 ·exact .inl qg
 refine .inr ⟨g,f,rfl,j,aH a,c,d,λb e=>⟨?_,aV a⟩,λb e=>?_⟩
 ·rw[aB a,Zq3 qo];rfl
 rw[aB a];have:=V3 (λk:List Value=>k[b]?) i;simp only[getElem?_take_of_lt (show b<l.length*1 by omega)]at this;rw[<-V9,this];simp[bL,e]
theorem ownM.base{base:Nat}(c:ownM w base v l){b:Nat}(a:v.ownBlock=some b):base<=b/\b<w.heap.size:=by
 obtain⟨rfl,_⟩|⟨e,d,rfl,f,g,_⟩:=c
 ·simp[Value.ownBlock]at a
 simp[Value.ownBlock]at a;omega
theorem ownM.fr{S:List Nat}{base:Nat}(a:ownM w base v l)(i:Fr S w x)(j:∀b,v.ownBlock=some b->b∉S):ownM x base v l:=by
 obtain a|⟨c,d,rfl,e,f,g,h,k,m⟩:=a
 ·exact .inl a
 have n:=j c rfl;exact .inr ⟨c,d,rfl,e,Z1 f i.size,g,h,(by grind[Fr.cell,Fr.frozen]),λp o=>by grind[Fr.cell]⟩
theorem ownM.string{base:Nat}(c:ownM w base v l):(convert 168 9 v).run prog w=.ok (.string ⟨l.toArray⟩) w:=by
 obtain⟨rfl,rfl⟩|⟨b,a,rfl,g,h,i,j,k,d⟩:=c
 ·rw[run_convert_bytes_string w 168 9 5 none 0 0 l6 Xq2 Qq4];simp[Conv.bytesToString];rfl
 refine Xq3 w 168 9 5 ⟨b,0,none⟩ a l l6 Xq2 Qq4 (λf e=>?_);rw[i7,Z9];exact d f e
theorem vS{S:List Nat}(a:Nat):∀(g:List Value) (b:Nat) (c:World),Fr S w c->(a∈S\/w.heap.size<=a)->Fr S w (c.setCells a b g)
 |[],_,_,d,_=>d
 |h::f,b,_,d,e=>vS a f (b+1) _ (by grind[Fr.setCell]) e
theorem wA(c:World)(b d:Nat)(e:List Value):c.grownBy (c.setCells b d e) (some b):=by have a:=vS (S:=[b]) b e d c (r0 _ _) qs;exact⟨a.os,a.tape,a.output,a.size,λi g h=>a.block i g (by simp;exact λf=>h (by rw[f]))⟩
theorem KB{base:Nat}(g:base<=a)(h:a<w.heap.size)(f:b<=maxLen)(d:∀c,c<b->(w.cell? ⟨a,c,none⟩).isSome=true/\w.frozen? ⟨a,c,none⟩=false)(n:∀c (m:c<l.length),w.cell? ⟨a,c,none⟩=some (iW l[c]))(p:l.length+B.length<=b):ownM (w.setCells a l.length (bL B)) base (.slice (so a) (l.length+B.length) b) (l++B):=by
 have o:(bL B).length=B.length:=by simp[bL]
 refine .inr ⟨a,b,by rw[m8],g,Z1 h (wA w a l.length (bL B)).size,by grind,f,λc e=>⟨?_,?_⟩,λc e=>?_⟩
 ·by_cases j:l.length<=c/\c<l.length+B.length
  ·have:=Zj5 a (bL B) l.length w (λk i=>(d _ qo).1) (c-l.length) qo;rw[show l.length+(c-l.length)=c by omega]at this;rw[this];rfl
  grind[World.cell?_setCells_out]
 ·grind[World.frozen?_setCells]
 rw[m8]at e
 by_cases j:c<l.length
 ·grind[World.cell?_setCells_out]
 have:=Zj5 a (bL B) l.length w (λk i=>(d _ qo).1) (c-l.length) qo;rw[show l.length+(c-l.length)=c by omega]at this;rw[this,getElem_append_right qo];simp[bL]
theorem uX(c:List UInt8):∀a∈bL c,a.oneCell'=true:=λa b=>by obtain⟨d,_,rfl⟩:=Qk7.1 b;rfl
theorem nC(a:List UInt8):(bL a).length=a.length:=by simp[bL]
theorem ownM.weak{base:Nat}(b:ownM w base v l)(g:a<=base):ownM w a v l:=by
 obtain b|⟨d,c,e,f,h⟩:=b
 ·exact .inl b
 exact .inr qg
theorem FJ(a:w.grownBy x none)(row:Option Nat):w.grownBy x row:=⟨a.os,a.tape,a.output,a.size,λc b _=>a.block c b qs⟩
theorem KE{base:Nat}{size:Nat}(d:w.ownsRow base H size v a R)(i:0<a):∃b,v.ownBlock=some b/\base<=b:=by
 obtain⟨_,h⟩|⟨c,f,g,rfl,e,_⟩:=d.2
 ·omega
 exact⟨c,rfl,e⟩
theorem Gu(c:World)(base:Nat)(ty:TypeId)(j:Value)(b a:List UInt8)(hown:ownM c base j b)(f:Addr)(h:Nat)(hnews:∀i o,(bL a)[i]?=some o->c.cell? (f.add i)=some o)(E:b.length+a.length<=100000000000000)(hbase:base<=c.heap.size):∃d e,(Builtin.append_ #[168,168] ty #[j,.slice (some f) a.length h]).run prog c=.ok d e/\ownM e base d (b++a)/\c.grownBy e j.ownBlock/\(d.ownBlock=j.ownBlock\/∃p,d.ownBlock=some p/\c.heap.size<=p):=by
 obtain⟨n,l,t,m,hby⟩:=FW;have z:b.length+a.length<=maxLen:=qm;obtain⟨rfl,rfl⟩|⟨q,k,rfl,u,v,B,w,x,y⟩:=hown
 ·obtain⟨d,e,g,hown,r,_,C⟩:=run_append_own_at (P:=prog) c base 168 ty 5 n (.int .u8 0) 1 1 l6 l t m hby rfl qo (.slice none 0 0) 0 [] ⟨rfl,qg⟩ f a.length h (bL a) (by simp[bL]) hnews (uX a) qo qo hbase;grind[sW]
 by_cases s:b.length+a.length<=k
 ·have g:=run_append_room_cells (P:=prog) c 168 ty 5 n l6 l q 0 b.length k f a.length h (bL a) (by grind[bL]) hnews (uX a) s (by grind[nC]) (by grind[nC]);rw[m,Z9,Nat.mul_one]at g;exact⟨_,_,g,KB u v w x y s,wA _ _ _ _,.inl rfl⟩
 obtain⟨d,e,g,hown,r⟩:=run_append_arg_grows (P:=prog) c 168 ty 5 n (.int .u8 0) 1 1 l6 l t m hby rfl qo ⟨q,0,none⟩ b.length k (bL b) (by simp[bL]) (λi o F=>by
  have D:i<b.length:=by grind[nC]
  simp_all[Addr.add_lit,Nat.zero_add,bL]) f a.length h (bL a) (by simp[bL]) hnews qo z qo
 have A:e.ownsRow c.heap.size 5 1 d (b++a).length (bL (b++a)):=by grind[uW]
 exact⟨d,e,g,(sW A).weak hbase,FJ r _,.inr (KE hown qo)⟩
theorem yY(a:List UInt8):strCells (⟨a.toArray⟩:ByteArray)=bL a:=rfl
theorem Gv(b:World)(base:Nat)(ty:TypeId)(j:Value)(c a:List UInt8)(hown:ownM b base j c)(L:c.length+a.length<=100000000000000)(hbase:base<=b.heap.size):∃e g,(Builtin.append_ #[168,9] ty #[j,.string ⟨a.toArray⟩]).run prog b=.ok e g/\ownM g base e (c++a)/\b.grownBy g j.ownBlock/\(e.ownBlock=j.ownBlock\/∃k,e.ownBlock=some k/\b.heap.size<=k):=by
 obtain⟨r,h,q,o,hby⟩:=FW;have D:c.length+a.length<=maxLen:=qm;have f:(⟨a.toArray⟩:ByteArray).size=a.length:=rfl;obtain⟨rfl,rfl⟩|⟨l,d,rfl,t,u,I,v,w,x⟩:=hown
 ·by_cases s:a=[]
  ·subst s;refine⟨.slice none 0 0,b,?_,.inl qg,⟨rfl,rfl,rfl,Q9 _,qg⟩,.inl rfl⟩;simp[Builtin.append_,run_underlying underlying168,run_underlying underlying9,sizeOf,typeInfo,h,Builtin.lenOf,Builtin.firstCells];simp_all
  obtain⟨e,g,i,hown,A,M⟩:=run_append_own_string (P:=prog) b b.heap.size 168 9 ty 5 r l6 Qq4 h q o hby (.slice none 0 0) 0 [] ⟨rfl,qg⟩ ⟨a.toArray⟩ qo qo qo;rw[f,yY,Z8,Z9]at hown;have E:0<a.length:=qg;exact⟨e,g,i,by rw[Z8];exact(sW hown).weak hbase,A,.inr (KE hown E)⟩
 by_cases n:c.length+a.length<=d
 ·have m:=run_firstCells_string (P:=prog) b 1 ⟨a.toArray⟩;have p:=run_storeCells_cells (P:=prog) l c.length (bL a) 0 b (by grind[nC]) (by grind[nC]) (uX a);rw[f,yY]at m;simp only[Nat.add_zero]at p;refine⟨_,_,?_,KB t u v w x n,wA _ _ _ _,.inl rfl⟩;simp[Builtin.append_,run_underlying underlying168,run_underlying underlying9,sizeOf,typeInfo,h,o,f,Builtin.lenOf,n,m,Addr.add_lit,p]
 have i:=run_append_grow_string (P:=prog) b 168 9 ty 5 r (.int .u8 0) l6 Qq4 h q ⟨l,0,none⟩ c.length d (bL c) (by grind[bL]) (λF O N=>by
   have J:F<c.length:=by grind[nC]
   simp_all[Addr.add_lit,Nat.zero_add,bL]) ⟨a.toArray⟩ qo qo (by rw[f];exact growslice_fits qo (by rw[hby];omega))
 rw[f,yY]at i;refine⟨_,_,i,?_,?_,.inr ⟨b.heap.size,rfl,Q9 _⟩⟩;rotate_left
 ·refine FJ ?_ _;exact⟨rfl,rfl,rfl,by simp,λH C _=>Qx2 b.drew _ H C⟩
 have B:=grownCap_ge b (c.length+a.length) d 5;have z:=grownCap_le_maxLen b (c.length+a.length) d 5 D;have y:(b.drew.alloc (.cells ((bL c).toArray++(bL a).toArray++Builtin.zeroCells (Value.int .u8 0).cells (grownCap b (c.length+a.length) d 5-(c.length+a.length))) 5)).ownsRow b.heap.size 5 1 (.slice (so b.heap.size) (c.length+a.length) (grownCap b (c.length+a.length) d 5)) (c++a).length (bL (c++a)):=by
  rw[uW,m8];refine⟨by simp[bL],.inr ⟨b.heap.size,_,_,rfl,Q9 _,Go.heap_alloc_new b.drew _,B,z,?_,?_⟩⟩
  ·simp only[Array.size_append,size_toArray,size_zeroCells,nC]
   show c.length+a.length+_*1=_
   omega
  grind[bL]
 exact(sW y).weak hbase
theorem PC{m:Array Oper}{n:List Oper}{c:Oper}{f:Act}{i:Exit->Act->World->Prop}(v:c.guard=none)(o q:Operand)(y:c.op=.call {callee:=.builtin .append,args:=#[o,q],argTypes:=#[168,168]})(base:Nat)(d:Value)(g b:List UInt8)(A:f.eval o=d)(hown:ownM w base d g)(h:Addr)(k:Nat)(B:f.eval q=.slice (some h) b.length k)(hnews:∀l p,(bL b)[l]?=some p->w.cell? (h.add l)=some p)(x:g.length+b.length<=100000000000000)(hbase:base<=w.heap.size)(r:∀a e,ownM e base a (g++b)->w.grownBy e d.ownBlock->(a.ownBlock=d.ownBlock\/∃j,a.ownBlock=some j/\w.heap.size<=j)->wpList prog m i n (f.put c.dst a) e):wpList prog m i (c::n) f w:=by refine wpList_plain v λK hK=>?_;obtain⟨a,e,z,s,t,u⟩:=Gu w base c.type d g b hown h k hnews x hbase;unfold Oper.wp execOp;simp only[y,resolve,invoke,builtin,Sem.run_bind,Sem.run_pure,Result.andThen_ok,map_toArray,map_cons,map_nil,A,B,z];exact hK _ _ (r a e s t u)
theorem PD{j:Array Oper}{k:List Oper}{b:Oper}{e:Act}{h:Exit->Act->World->Prop}(r:b.guard=none)(l m:Operand)(t:b.op=.call {callee:=.builtin .append,args:=#[l,m],argTypes:=#[168,9]})(base:Nat)(c:Value)(f g:List UInt8)(v:e.eval l=c)(hown:ownM w base c f)(x:e.eval m=.string ⟨g.toArray⟩)(s:f.length+g.length<=100000000000000)(hbase:base<=w.heap.size)(n:∀a d,ownM d base a (f++g)->w.grownBy d c.ownBlock->(a.ownBlock=c.ownBlock\/∃i,a.ownBlock=some i/\w.heap.size<=i)->wpList prog j h k (e.put b.dst a) d):wpList prog j h (b::k) e w:=by refine wpList_plain r λK hK=>?_;obtain⟨a,d,u,o,p,q⟩:=Gv w base b.type c f g hown s hbase;unfold Oper.wp execOp;simp only[t,resolve,invoke,builtin,Sem.run_bind,Sem.run_pure,Result.andThen_ok,map_toArray,map_cons,map_nil,v,x,u];exact hK _ _ (n a d o p q)
structure Stp where
 what:Int
 name:List UInt8
 to:List UInt8
 data:List UInt8
structure Fl where
 name:List UInt8
 data:List UInt8
 safe:Nat
def LOG:List UInt8:=[108,111,103]
abbrev bV(b a:List UInt8):Stp:=⟨1,b,[],a⟩
abbrev bQ(a:List UInt8):Stp:=⟨2,a,[],[]⟩
abbrev dI(a b:List UInt8):Stp:=⟨3,a,b,[]⟩
variable {u:Value} {y:World}
abbrev kA(a:Value):List Nat:=a.ownBlock.toList
theorem iK{S:List Nat}{row:Option Nat}(a:Fr S w x)(b:x.grownBy y row)(g:∀c,row=some c->c∈S\/w.heap.size<=c):Fr S w y:=
  ⟨b.os.trans a.os,b.tape.trans a.tape,b.output.trans a.output,Y3 a.size b.size,λe d f=>(b.block e (Z1 d a.size) qg).trans (a.block e d f)⟩
structure ApM (w:World) (base:Nat) (tv:Value) (l:List UInt8) (v:Value) (wr:World):Prop where
 own:ownM wr base v l
 fr:Fr (kA tv) w wr
 blk:v.ownBlock=tv.ownBlock\/∃b,v.ownBlock=some b/\w.heap.size<=b
theorem ApM.start{base:Nat}{tv:Value}(a:ownM w base tv l):ApM w base tv l tv w:=⟨a,r0 _ _,.inl rfl⟩
theorem ApM.next{base:Nat}{tv:Value}{wr:World}(b:ApM w base tv l v wr)(c:Fr [] wr x)(hown:ownM y base u (l++B))(d:x.grownBy y v.ownBlock)(f:u.ownBlock=v.ownBlock\/∃a,u.ownBlock=some a/\x.heap.size<=a):ApM w base tv (l++B) u y:=by
 have g:=b.fr.size;have h:=c.size;refine⟨hown,iK (b.fr.qT c) d (λe d=>?_),?_⟩
 ·grind[ApM.blk]
 grind[ApM.blk]
theorem JF(e:Int)(b:UInt8)(f:iW b=.int .u8 e)(a:World)(c:Nat)(d:Value)(g:(bL [b])[c]?=some d):(a.alloc (.cells #[.int .u8 e] 5)).cell? ((⟨a.heap.size,0,none⟩:Addr).add c)=some d:=by simp_all[gs,bL,Addr.add_lit]
theorem rK(base p w nc:Nat)(tv:Value)(k:List UInt8)(a:List Int)(j:World)(hown:ownM j base tv k)(F:∀q∈a,0<=q/\q<=1000000000)(B:∀h (N:h<a.length),j.cell? ⟨p,w+h,none⟩=some (ii a[h]))(Y:tv.ownBlock≠some p)(hl:k.length<=10000000)(ah:a.length<=10000)(P:base<=j.heap.size)(aa:p<j.heap.size):Cs 79 #[tv,.slice (some ⟨p,w,none⟩) a.length nc] j λM w'=> ∃i,M=.returned i/\ApM j base tv (k++aY a) i w':=by
 have I:=aA B;have y:=aA F;have L:=aA hown;clear B F hown;have ae:=aA P;have J:Hi (∀(wr:World) (i:Value) (b:List UInt8),ApM j base tv b i wr->∀h (N:h<a.length),wr.cell? ⟨p,w+h,none⟩=some (ii a[h])):=λwr i b d h Q=>by rw[d.fr.cell p _ aa (by simp[kA];exact Y)];exact I.o h Q
 delta Cs;go_in
 go_wp2
 go_loopw [0,9] (fun i n wr=>∃c:Nat,c<=a.length/\n=ii c/\ApM j base tv (k++aY (a.take c)) i wr) (fun _ n _=>a.length-(intOf n).toNat)
 ·exact⟨0,Z3 _,rfl,by rw[take_zero,vN,Zq6];exact ApM.start L.o⟩
 obtain⟨c,hk,rfl,d⟩:=hrel
 by_cases D:c<a.length
 ·have V:(c:Int)<(a.length:Int):=qo;have C:=J.o wr _ _ d c D;obtain⟨l,E,X⟩:∃l:Nat,a[c]=(l:Int)/\l<=1000000000:=by have:=y.o a[c] qg;exact⟨a[c].toNat,by omega,by omega⟩
  have R:(k++aY (a.take c)).length<=10050000:=by have:=jS (a.take c) (λq W=>(y.o q (mem_of_mem_take W)).2);rw[m8];simp at this;omega
  have x:Hi (k++aY (a.take (c+1))=(k++aY (a.take c))++bG l):=by grind[take_succ_eq_append_getElem,lR,append_assoc,aY]
  rw[E]at C;obtain⟨m,A⟩:=nm (k++aY (a.take c));rw[<-A]at d R x;have f:=aA d;clear A E d
  go_wp2_with fail
  obtain⟨wo,H⟩:=nm wr;rw[<-H]at f |-;clear H C
  go_loopw [0,6] (fun i n wr=>∃(b:Nat) (e:List UInt8),n=ii b/\b<=1000000000/\e.length<=10/\Hi (e++bG b=bG l)/\ApM j base tv (m++e) i wr) (fun _ n _=>(intOf n).toNat)
  ·exact⟨l,[],rfl,X,by simp,rfl,by grind[Hi.o]⟩
  obtain⟨b,e,rfl,hm,aj,ab,d⟩:=hrel
  by_cases af:128<=b
  ·have O:¬(b:Int)<128:=qo;have ag:(128:Int)<=(b:Int):=qo;obtain⟨g,hq⟩:∃g:Nat,(b:Int)%128=g:=⟨b%128,by omega⟩;have ac:g<128:=qo;have ai:=JT g ac;have f:=aA d;clear d;have s:Hi (ownM (wr.alloc (.cells #[.int .u8 ((g:Int)+128)] 5)) base u0 (m++e)):=f.o.own.fr ((r0 [] wr).alloc _) qs;have r:Hi (iW (UInt8.ofNat (g+128))=.int .u8 ((g:Int)+128)):=by show _=_;rw[show g=b%128 by omega,CE];push_cast;rfl
   have ad:=f.o.fr.size;have S:(m++e).length<=10060000:=qg;have HQ:=aA hq
   go_wp2_with (at_builtin;refine PC rfl _ _ rfl base u0 (m++e) [UInt8.ofNat (g+128)] rfl s.o ⟨wr.heap.size,0,none⟩ 1 rfl (JF _ _ r.o wr) qt qt ?_;intro v' w3 v u t)
   go_roundw
   ·have ak:g=b%128:=qo;refine⟨b/128,e++[UInt8.ofNat (g+128)],by go_num,by omega,?_,?_,?_⟩
    ·have z:(e++bG b).length<=5:=by rw[ab.o];exact jZ 5 l qo qo
     grind
    ·grind[nN]
    rw[<-X0];exact f.o.next ((r0 [] wr).alloc _) v u t
   simp[intOf];omega
  have O:(b:Int)<128:=qo;have f:=aA d;clear d;have s:Hi (ownM (wr.alloc (.cells #[.int .u8 (b:Int)] 5)) base u0 (m++e)):=f.o.own.fr ((r0 [] wr).alloc _) qs;have r:=aA (BZ b qo);have ad:=f.o.fr.size;have S:(m++e).length<=10060000:=qg
  go_wp2_with (at_builtin;refine PC rfl _ _ rfl base u0 (m++e) [UInt8.ofNat b] rfl s.o ⟨wr.heap.size,0,none⟩ 1 rfl (JF _ _ r.o wr) qt qt ?_;intro v' w3 v u t)
  go_roundw
  ·refine⟨c+1,D,by go_num,?_⟩;rw[x.o];have z:bG l=e++[UInt8.ofNat b]:=by grind[Hi.o,mR]
   rw[z,<-X0];exact f.o.next ((r0 [] wr).alloc _) v u t
  simp[intOf];omega
 have V:¬(c:Int)<(a.length:Int):=qo;rw[l8 qo]at d;have f:=aA d;clear d;go_wp2;go_ret;exact⟨_,rfl,f.o⟩
variable {L S:List Nat} {r:Value}
theorem gY{base:Nat}{size:Nat}(d:w.ownsRow base H size v a R)(h:Fr S w x)(j:∀b,v.ownBlock=some b->b∉S):x.ownsRow base H size v a R:=by
 refine⟨d.1,?_⟩;obtain l|⟨c,e,f,rfl,g,i,k⟩:=d.2
 ·grind
 exact .inr ⟨c,e,f,rfl,g,h.heap i (j c rfl),k⟩
theorem MV{base:Nat}{size:Nat}(e:w.ownsRow base H size v a R)(c:v.ownBlock=some b):base<=b/\b<w.heap.size:=by
 obtain⟨d,_⟩|⟨h,f,g,rfl,d,i,_⟩:=e.2
 ·rw[d]at c;simp[Value.ownBlock]at c
 simp[Value.ownBlock]at c;grind
theorem fD{base:Nat}{size:Nat}(c:w.ownsRow base H size v a R):∃b d,v=.slice b a d:=by
 obtain⟨rfl,rfl⟩|⟨g,e,f,rfl,_⟩:=c.2
 ·grind
 grind
abbrev Nm:=List UInt8
abbrev Stp.cells(a:Stp):List Value:=[ii a.what,sv a.name,sv a.to,sv a.data]
def MapO(e:World)(b:Value)(a:Nm->Option Value):Prop:=(b=.map none/\∀d,a d=none)\/∃c,b=.map (some c)/\MapS e c a
def jY(a:Value):Option Nat:=match a with|.map r=>r|_=>none
abbrev iJ(a:Value×List UInt8):Value:=.agg #[a.1]
structure SVE (E:Nm->Prop) (w:World) (mv stv:Value) (S:List Nat) (g:Nm->Option (Value×List UInt8)) (steps:List Stp):Prop where
 map:MapO w mv (λk=>(g k).map iJ)
 own:∀k p,¬E k->g k=some p->ownM w 0 p.1 p.2
 blk:∀k p b,¬E k->g k=some p->p.1.ownBlock=some b->b∈S/\jY mv≠some b/\stv.ownBlock≠some b/\∀k' p',¬E k'->g k'=some p'->p'.1.ownBlock=some b->k'=k
 mb:∀b,jY mv=some b->b∈S/\stv.ownBlock≠some b
 st:w.ownsRow 0 113 4 stv steps.length (steps.flatMap Stp.cells)
 sb:∀b,stv.ownBlock=some b->b∈S
 lt:∀b∈S,b<w.heap.size
variable {O:List Stp}
theorem MapO.fr{S:List Nat}{c:Nm->Option Value}(a:MapO w v c)(e:Fr S w x)(f:∀b,jY v=some b->b∉S):MapO x v c:=by
 obtain a|⟨d,rfl,a⟩:=a
 ·exact .inl a
 exact .inr ⟨d,rfl,a.fr e (f d rfl)⟩
theorem SVE.fr{e:Nm->Prop}{S:List Nat}{f:Nm->Option (Value×List UInt8)}(b:SVE e w v u S f O)(d:Fr L w x)(g:∀a∈S,a∉L):SVE e x v u S f O:=
  ⟨b.map.fr d (λa c=>g a (b.mb a c).1),λj k h i=>(b.own j k h i).fr d (λa c=>g a (b.blk j k a h i c).1),b.blk,b.mb,gY b.st d (by grind[SVE.sb]),b.sb,λa c=>Z1 (b.lt a c) d.size⟩
theorem SVE.qF{a:Nm->Prop}{b:Nm->Option (Value×List UInt8)}(c:SVE a w u r S b O)(d:Fr [] w x):SVE a x u r S b O:=c.fr d qs
theorem SVE.weak{e f:Nm->Prop}{g:Nm->Option (Value×List UInt8)}(a:SVE e w v u S g O)(o:∀b,e b->f b):SVE f w v u S g O:=
 ⟨a.map,λb d j c=>a.own b d qg c,λb d h j c i=>by obtain⟨k,l,m,n⟩:=a.blk b d h qg c i;grind,a.mb,a.st,a.sb,a.lt⟩
theorem SVE.mono{c:Nm->Prop}{S':List Nat}{d:Nm->Option (Value×List UInt8)}(b:SVE c w v u S d O)(m:∀a∈S,a∈S')(h:∀a∈S',a<w.heap.size):SVE c w v u S' d O:=
 ⟨b.map,b.own,λi j a f g e=>by obtain⟨k,l⟩:=b.blk i j a f g e;grind,(by grind[SVE.mb]),b.st,(by grind[SVE.sb]),h⟩
def SB(e:World)(c:Nat)(b:List Value)(ty:TypeId)(a d:Value):Prop:=e.heap[c]?=some (.cells (b++[a,d]).toArray ty)
theorem SB.c0{ty:TypeId}(b:SB w a R ty v u):w.cell? ⟨a,R.length,none⟩=some v:=by rw[aB b];simp
theorem SB.c1{ty:TypeId}(b:SB w a R ty v u):w.cell? ⟨a,R.length+1,none⟩=some u:=by rw[aB b];simp
theorem SB.fz{ty:TypeId}(b:SB w a R ty v u)(c:Nat):w.frozen? ⟨a,c,none⟩=false:=aV b
theorem SB.lt{ty:TypeId}(b:SB w a R ty v u):a<w.heap.size:=aH b
theorem SB.fr{S:List Nat}{ty:TypeId}(b:SB w a R ty v u)(c:Fr S w x)(d:a∉S):SB x a R ty v u:=c.heap b d
theorem iE{o:Nat}{b:Array Value}{ty:TypeId}{c:Nat×Nat}(e:w.heap[a]?=some (.cells b ty c))(d:Value):(w.setCell ⟨a,o,none⟩ d).heap[a]?=some (.cells (b.setIfInBounds o d) ty c):=by grind[setCell_eq_setRow,setRow_heap]
theorem SB.set0{ty:TypeId}(c:SB w a R ty v u)(b:Value):SB (w.setCell ⟨a,R.length,none⟩ b) a R ty b u:=by unfold SB;rw[iE c];grind
theorem SB.set1{ty:TypeId}(c:SB w a R ty v u)(b:Value):SB (w.setCell ⟨a,R.length+1,none⟩ b) a R ty v b:=by unfold SB;rw[iE c];simp_all
set_option maxRecDepth 100000
abbrev pM:Value:=.agg #[.slice none 0 0]
theorem PM(a:World):(zeroValue 174).run prog a=.ok pM a:=qk
theorem MapO.look{c:Nm->Option Value}(a:MapO w v c)(b:Nm):(Instr.lookup 93 v (sv b) true).run prog w=.ok (.tuple #[(c b).getD pM,.bool (c b).isSome]) w:=by
 obtain⟨rfl,a⟩|⟨d,rfl,a⟩:=a
 ·rw[a b];simp[Instr.lookup,run_underlying underlying93,mJ,Instr.findKey,run_underlying underlying9,Instr.findNow]
 exact a.look _ 174 n8 pM (PM w) b
theorem MapO.look1{c:Nm->Option Value}(a:MapO w v c)(b:Nm):(Instr.lookup 93 v (sv b) false).run prog w=.ok ((c b).getD pM) w:=by
 obtain⟨rfl,a⟩|⟨d,rfl,a⟩:=a
 ·rw[a b];simp[Instr.lookup,run_underlying underlying93,mJ,Instr.findKey,run_underlying underlying9,Instr.findNow]
 exact a.look1 _ 174 n8 pM (PM w) b
theorem ownM.slice{base:Nat}(b:ownM w base v l):∃a c,v=.slice a l.length c:=by
 obtain⟨rfl,rfl⟩|⟨e,d,rfl,_⟩:=b
 ·simp_all
 grind
theorem VB(a:Value)(b:World):(Instr.field 174 (.agg #[a]) 0).run prog b=.ok a b:=qk
abbrev Gf:=Nm->Option (Value×List UInt8)
def eH(a:Gf)(b:Nm):Value:=match a b with|some p=>p.1|none=>.slice none 0 0
def aX(a:Gf)(b:Nm):List UInt8:=match a b with|some p=>p.2|none=>[]
variable {A:Gf}
theorem EG(a:Gf)(b:Nm):((a b).map iJ).getD pM=.agg #[eH a b]:=by grind[eH]
theorem MapO.lookG(b:MapO w v (λc=>(A c).map iJ))(a:Nm):(Instr.lookup 93 v (sv a) true).run prog w=.ok (.tuple #[.agg #[eH A a],.bool (A a).isSome]) w:=by rw[b.look a,EG];simp
theorem MapO.lookG1(b:MapO w v (λc=>(A c).map iJ))(a:Nm):(Instr.lookup 93 v (sv a) false).run prog w=.ok (.agg #[eH A a]) w:=by rw[b.look1 a,EG]
theorem wB(o n:Nat)(m:Value)(b:Gf)(a:Nm)(c:World)(t:c.cell? ⟨o,n,none⟩=some m)(h:MapO c m (λq=>(b q).map iJ))(p:∃f l k,eH b a=.slice f l k):Cs 87 #[.pointer (some ⟨o,n,none⟩),sv a] c (R0 c (.bool (b a).isSome)):=by
 have g:=h.lookG a;obtain⟨u,j⟩:∃r:ByteArray,r=⟨a.toArray⟩:=⟨_,rfl⟩;rw[sv,<-j]at g |-;obtain⟨v,e⟩:=nm (eH b a);obtain⟨s,d⟩:=nm ((b a).isSome);rw[<-e,<-d]at g;obtain⟨f,l,k,i⟩:=p;rw[<-e]at i;subst i;rw[<-d];clear e d j h
 delta Cs;go_in
 go_wp2;go_ret;simp_all[Fr.alloc,r0]
theorem DL(o n:Nat)(m:Value)(b:Gf)(a:Nm)(c:World)(t:c.cell? ⟨o,n,none⟩=some m)(h:MapO c m (λq=>(b q).map iJ))(e:ownM c 0 (eH b a) (aX b a)):Cs 49 #[.pointer (some ⟨o,n,none⟩),sv a] c (R1 c (sv (aX b a))):=by
 have g:=h.lookG1 a;have i:=e.string;obtain⟨v,k⟩:∃f:ByteArray,f=⟨a.toArray⟩:=⟨_,rfl⟩;rw[sv,<-k]at g |-;obtain⟨s,d⟩:∃f:ByteArray,f=⟨(aX b a).toArray⟩:=⟨_,rfl⟩;rw[<-d]at i;rw[sv,<-d];obtain⟨w,l⟩:=nm (eH b a);obtain⟨p,r,j⟩:=e.slice;rw[<-l]at g i j;subst j;clear k h d e l;have u:=VB (.slice p (aX b a).length r) c
 delta Cs;go_in
 go_wp2;go_ret;simp_all
theorem OM{e:Nm->Option Value}(g:MapS w a e)(d:Nm)(b:Value):∃c,(Instr.mapUpdate 93 (.map (some a)) (sv d) b).run prog w=.ok () c/\MapS c a (λf=>if f=d then some b else e f)/\Fr [a] w c:=by obtain⟨j,h,i⟩:=g.update 93 174 n8 d b;exact⟨_,h,i,(r0 [a] w).setObj a j (.inl qs)⟩
theorem SVE.put{l:Nm->Prop}(f:SVE l w (.map (some a)) v S A O)(h:Nm)(n:Value)(q:List UInt8)(t:ownM w 0 n q)(u:∀c,n.ownBlock=some c->c∈S/\a≠c/\v.ownBlock≠some c/\∀b j,¬l b->A b=some j->j.1.ownBlock=some c->b=h)(k:MapS x a (λb=>if b=h then some (.agg #[n])else(A b).map iJ))(m:Fr [a] w x):SVE (λb=>l b/\b≠h) x (.map (some a)) v S (λb=>if b=h then some (n,q)else A b) O:=by
 have s:∀c,v.ownBlock=some c->c∉[a]:=λc d k=>by have:c=a:=qg;subst this;exact(f.mb c rfl).2 d
 refine⟨.inr ⟨a,rfl,k.congr (λb=>?_)⟩,?_,?_,f.mb,gY f.st m s,f.sb,λc d=>Z1 (f.lt c d) m.size⟩
 ·by_cases e:b=h<;>simp[e]
 ·intro b j o g
  by_cases e:b=h
  ·rw[Q7 e]at g;cases g;exact t.fr m (λc d k=>(u c d).2.1 (by simpa using k:c=a).symm)
  rw[Z0 e]at g;exact(f.own b j (λp=>o ⟨p,e⟩) g).fr m (λc d k=>(f.blk b j c (λp=>o ⟨p,e⟩) g d).2.1 (by simp[jY];exact(by simpa using k:c=a).symm))
 intro b j c o g d
 by_cases e:b=h
 ·grind[jY]
 rw[Z0 e]at g;have r:¬l b:=qg;obtain⟨y,z,B,C⟩:=f.blk b j c r g d;grind
structure SPost (w:World) (sb:Nat) (pre:List Value) (ty:TypeId) (S:List Nat) (E:Nm->Prop) (g:Gf) (steps:List Stp) (w':World) (mv' stv':Value) (S':List Nat):Prop where
 bl:SB w' sb pre ty mv' stv'
 sve:SVE E w' mv' stv' S' g steps
 fr:Fr (sb::S) w w'
 old:∀b∈S',b∈S\/w.heap.size<=b
 nsb:sb∉S'
theorem xZ(d:Nat)(t:List Value)(ty:TypeId)(x:Nm->Prop)(mv u:Value)(S:List Nat)(r:Gf)(I:List Stp)(l:Nm)(aa:Value)(e:List UInt8)(a:World)(j:SB a d t ty mv u)(v:SVE x a mv u S r I)(ar:d∉S)(X:ownM a 0 aa e)(ag:∀i,aa.ownBlock=some i->i∈S/\jY mv≠some i/\u.ownBlock≠some i/\∀c Zr,¬x c->r c=some Zr->Zr.1.ownBlock=some i->c=l):Cs 82 #[.pointer (some ⟨d,t.length,none⟩),sv l,.agg #[aa]] a λR f=>R=.returned (.tuple #[])/\∃bg S',SPost a d t ty S (λc=>x c/\c≠l) (λc=>if c=l then some (aa,e)else r c) I f bg u S':=by
 have ba:=@run_makeMap prog;have ac:=j.c0;have ad:=j.fz t.length;have bj:=j.lt;obtain⟨m,ho⟩:=nm t.length;rw[<-ho]at ac ad |-;have L:=aA ho;clear ho;obtain⟨tx,af⟩:∃bh:ByteArray,bh=⟨l.toArray⟩:=⟨_,rfl⟩;have ah:=aA af;rw[sv,<-af];clear af;obtain⟨g,h,rfl⟩:=X.slice;obtain⟨b,D⟩:=nm (a.alloc (.cells #[.slice g e.length h] 174));have s:Fr [] a b:=by grind[Fr.alloc,r0]
 have ae:b.heap.size=a.heap.size+1:=qa;have C:b.heap[a.heap.size]?=some (.cells #[.slice g e.length h] 174):=by grind[aC]
 have H:=v.qF s;have y:=j.fr s qs;have Y:=X.fr s qs;obtain⟨rfl,bb⟩|⟨o,rfl,ap⟩:=v.map
 ·obtain⟨O,aw⟩:=nm (b.alloc (.map #[] 0));obtain⟨n,aj⟩:=nm (O.setCell ⟨d,m,none⟩ (.map (some b.heap.size)));have B:Fr [] b O:=by grind[Fr.alloc,r0]
  have w:Fr [d] O n:=by grind[Fr.setCell,r0]
  have be:O.heap.size=b.heap.size+1:=qa;have bf:=w.size;have am:MapS n b.heap.size (λc=>(r c).map iJ):=(MapS.fr (MapS.made (clock:=0) (by grind[aC])) w qg).congr qg;have ab:SB n d t ty (.map (some b.heap.size)) u:=by rw[aj,L.o];exact(y.fr B qs).set0 _
  have ai:=(w.heap (B.qH C) qg);have k:Fr [] n n.drew:=(r0 _ _).drew;obtain⟨W3,W,an,A⟩:=OM (am.fr k qs) l (.agg #[.slice g e.length h]);rw[sv,<-ah.o]at W;have aq:SVE x n (.map (some b.heap.size)) u (b.heap.size::S) r I:=by
   have V:=(H.qF B).fr w (λi j R=>ar ((show i=d by grind) ▸ j));have bi:∀c,r c=none:=λc=>by simp_all
   refine⟨.inr qg,qg,qg,λi j=>?_,V.st,(by grind[SVE.sb]),λi j=>?_⟩
   ·have ay:b.heap.size=i:=by grind[jY]
    subst ay;refine⟨qs,λR=>?_⟩;have:=(MV H.st R).2;omega
   obtain rfl|j:=Qq0.1 j
   ·omega
   exact V.lt i j
  have Zq:=(Y.fr B qs).fr w qg;have F:=(aq.qF k).put l _ e (Zq.fr k qs) (λi ax=>by obtain⟨V,h2,h3,h4⟩:=ag i ax;have:=v.lt i V;grind) an A
  have E:SPost a d t ty S (λc=>x c/\c≠l) (λc=>if c=l then some (.slice g e.length h,e)else r c) I W3 (.map (some b.heap.size)) u (b.heap.size::S) :=
   ⟨(ab.fr k qs).fr A qg,F,(((((s.qO (S:=d::S)).qT B).trans w qs).qT k).trans A qg),qg,qg⟩
  have J:=aA E;have az:∀a,(binOp BinOp.eql 93 (.map none) (.map none)).run prog a=.ok (.bool true) a:=λa=>by kernel_rfl
  have p:ca b a.heap.size 0 (.slice g e.length h):=aB C;have P:ca n a.heap.size 0 (.slice g e.length h):=aB ai;have q:b.cell? ⟨d,m,none⟩=some (.map none):=by rw[L.o];exact y.c0
  have Q:n.cell? ⟨d,m,none⟩=some (.map (some b.heap.size)):=by rw[L.o];exact ab.c0
  have a3:=(A.cell _ _ (aI (show n.drew.cell? ⟨a.heap.size,0,none⟩=_ from P)) qg).trans P;have b3:=(A.cell _ _ (aI (show n.drew.cell? ⟨d,m,none⟩=_ from Q)) qg).trans Q;have M:(λf:World=>ca f d m (.map (some b.heap.size))/\ca f a.heap.size 0 (.slice g e.length h)) n.drew:=⟨Q,P⟩;have N:(λf:World=>ca f d m (.map (some b.heap.size))/\ca f a.heap.size 0 (.slice g e.length h)) W3:=⟨b3,a3⟩;have av:Hi (n=(((a.setCell ⟨d,m,none⟩ (.map (some (a.heap.size+1)))).alloc (.cells #[.slice g e.length h] 174)).alloc (.map #[] 0))):=by grind[World.setCell_alloc_past]
  rw[D]at q p;rw[ae]at M N W J;clear F v X ag j an E H y Y s B w am ab C ai aq Zq bb be bf A aj aw D P Q a3 b3 k ae
  delta Cs;go_in
  go_wp2_with fail
  rw[<-av.o];clear p q ac ad
  go_region_held (fun f:World=>ca f d m (.map (some (a.heap.size+1)))/\ca f a.heap.size 0 (.slice g e.length h))
   (first|exact M|exact N)
   (fail)
  all_goals
   go_wp2_with fail
   refine Q5 (v:=.tuple #[]) (Q6 rfl _ _ _) rfl ⟨rfl,_,_,J.o⟩
 have k:Fr [] b b.drew:=(r0 _ _).drew;obtain⟨w1,W,ak,z⟩:=OM ((ap.fr s qs).fr k qs) l (.agg #[.slice g e.length h]);rw[sv,<-ah.o]at W;have F:=(H.qF k).put l _ e (Y.fr k qs) (by grind[jY]) ak z;have bc:=(v.mb o rfl).1;have bk:d≠o:=qg;have E:SPost a d t ty S (λc=>x c/\c≠l) (λc=>if c=l then some (.slice g e.length h,e)else r c) I w1 (.map (some o)) u S :=
  ⟨(y.fr k qs).fr z qg,F,((s.qO (S:=d::S)).qT k).trans z qg,qg,ar⟩
 have J:=aA E;have az:∀a,(binOp BinOp.eql 93 (.map (some o)) (.map none)).run prog a=.ok (.bool false) a:=λa=>by kernel_rfl
 have p:ca b a.heap.size 0 (.slice g e.length h):=aB C;have q:b.cell? ⟨d,m,none⟩=some (.map (some o)):=by rw[L.o];exact y.c0
 have bd:=v.lt o bc;have a1:=(z.cell _ _ (aI (show b.drew.cell? ⟨a.heap.size,0,none⟩=_ from p)) qg).trans p;have b1:=(z.cell _ _ (aI (show b.drew.cell? ⟨d,m,none⟩=_ from q)) qg).trans q;have M:(λf:World=>ca f d m (.map (some o))/\ca f a.heap.size 0 (.slice g e.length h)) b.drew:=⟨q,p⟩;have N:(λf:World=>ca f d m (.map (some o))/\ca f a.heap.size 0 (.slice g e.length h)) w1:=⟨b1,a1⟩;have au:=aA D;rw[D]at p q;clear ba F v X ag ap j ak E H y Y s C k z a1 b1 D ae bd
 delta Cs;go_in
 go_wp2_with fail
 rw[<-au.o];clear p q ac ad
 go_region_held (fun f:World=>ca f d m (.map (some o))/\ca f a.heap.size 0 (.slice g e.length h))
  (first|exact M|exact N)
  (fail)
 all_goals
  go_wp2_with fail
  refine Q5 (v:=.tuple #[]) (Q6 rfl _ _ _) rfl ⟨rfl,_,_,J.o⟩
variable {c:Nat}
theorem FA(d:a<l.length)(g:a<5)(e:(l[a]'d).toNat=c)(f:128<=c):fO (5-a) a b (l.drop a)=fO (5-(a+1)) (a+1) (b+c%128*128^a) (l.drop (a+1)):=by
 rw[Zz2 d,show 5-a=(5-(a+1))+1 by omega]
 show(if 128<=(l[a]'d).toNat then _ else _)=_
 rw[e,Q7 f]
theorem EZ{S:Nat}(c:a<l.length)(f:a<5)(d:(l[a]'c).toNat=b)(e:¬128<=b):fO (5-a) a S (l.drop a)=if(b=0/\0<a)\/1000000000<S+b*128^a then(0,0)else(S+b*128^a,a+1):=by
 rw[Zz2 c,show 5-a=(5-(a+1))+1 by omega]
 show(if 128<=(l[a]'c).toNat then _ else if((l[a]'c).toNat=0/\0<a)\/_ then _ else _)=_
 rw[d,Z0 e,Qz9 qo]
theorem vX(c:¬(a<l.length/\a<5)):fO (5-a) a b (l.drop a)=(0,0):=by
 by_cases d:a<5
 ·rw[drop_eq_nil_of_le qo,show 5-a=(5-(a+1))+1 by omega];rfl
 rw[show 5-a=0 by omega];rfl
theorem Ay(c b a:Nat)(f:c<128^a)(g:a<5):bits .or .u64 (c:Int) (IntKind.u64.wrap ((b:Int)%128*2^(7*a)))=((c+b%128*128^a:Nat):Int):=by
 have d:(128^a:Nat)=2^(7*a):=by rw[Nat.pow_mul]
 have h:128^a<=128^4:=Xq1 qo qo;have i:b%128*128^a<=127*128^4:=Nat.mul_le_mul qo h;have e:((b:Int)%128*2^(7*a))=((b%128*128^a:Nat):Int):=by rw[d];push_cast;rfl
 rw[e,IntKind.wrap_u64,Int.emod_eq_of_lt qo qo];exact Ax c (b%128) a f qo g
theorem OH{b:Nat}(f:a<128^c)(g:c<5):a+b%128*128^c<128^(c+1)/\a+b%128*128^c<34359738368:=by have d:128^(c+1)<=128^5:=Xq1 qo qo;have e:b%128*128^c<=127*128^c:=Nat.mul_le_mul qo (Q9 _);rw[Nat.pow_succ]at d |-;omega
theorem VI(c:List UInt8)(t:World)(Y:c.length<=100000000000000):Cs 170 #[.string ⟨c.toArray⟩] t λD P=> D=.returned (.tuple #[ii (aT c).1,ii (aT c).2])/\Fr [] t P:=by
 obtain⟨l,n⟩:∃l:ByteArray,l=⟨c.toArray⟩:=⟨_,rfl⟩;have aa:l.size=c.length:=by rw[n];rfl
 have C:Hi (∀a (g:a<c.length) (i:a<l.size),(l[a]'i).toNat=(c[a]'g).toNat):=λa g i=>by subst n;rfl
 rw[<-n];obtain⟨j,q⟩:=nn (aT c);rw[q];have B:=aA q;clear n q
 delta Cs;go_in
 go_wp2_with fail
 all_goals
  go_loopw [4,10] (fun O s wr=>∃a f:Nat,a<=5/\a<=c.length/\s=ii a/\O=.int .u64 f/\f<128^a/\Hi (j=fO (5-a) a f (c.drop a))/\t=wr) (fun _ s _=>5-(intOf s).toNat)
  ·exact⟨0,0,by omega,by omega,rfl,rfl,by omega,B.o.symm,rfl⟩
  obtain⟨a,f,W,X,rfl,rfl,w,p,rfl⟩:=hrel
  by_cases y:a<c.length/\a<5
  ·obtain⟨g,i⟩:=y;have E:a<l.size:=qo;obtain⟨b,m⟩:∃b:Nat,(c[a]'g).toNat=b:=⟨_,rfl⟩;have Q:=(C.o a g E).trans m;have V:b<256:=by rw[<-m];exact(c[a]'g).toNat_lt
   have N:=Ay f b a w i;have A:=OH (b:=b) w i;obtain⟨d,r⟩:∃d:Nat,d=f+b%128*128^a:=⟨_,rfl⟩;rw[<-r]at N A;have u:=(show Hi _ from m);have v:=(show Hi _ from r);clear m r
   by_cases z:128<=b
   ·have M:¬(b:Int)<128:=qo;go_wp2;go_roundw
    ·exact⟨a+1,d,by omega,by omega,by go_num,rfl,A.1,(show Hi _ from by show _=_;rw[p.o,FA g i u.o z,v.o]),p8⟩
    simp[intOf];omega
   have M:(b:Int)<128:=qo;have h:=EZ (S:=f) g i u.o z;have x:d=f+b*128^a:=by rw[v.o,Qz9 qo]
   rw[<-p.o,<-x]at h;have h:=aA h;clear x
   by_cases H:1000000000<d
   ·have F:(1000000000:Int)<(d:Int):=qo;have e:j=(0,0):=by rw[h.o,Q7 (.inr H)]
    subst e
    go_wp2_with fail
    all_goals
     go_ret2;exact⟨rfl,r0 _ _⟩
   have F:¬(1000000000:Int)<(d:Int):=qo
   by_cases k:b=0
   ·by_cases J:a=0
    ·have e:j=(d,a+1):=by rw[h.o,Z0 qo]
     have L:¬(0:Int)<(a:Int):=qo;have I:((b:Int)==0)=true:=by simpa using k
     subst e;clear k J;go_wp2;go_ret2;exact⟨rfl,r0 _ _⟩
    have e:j=(0,0):=by rw[h.o,Q7 (.inl ⟨k,by omega⟩)]
    have L:(0:Int)<(a:Int):=qo;have I:((b:Int)==0)=true:=by simpa using k
    subst e;clear k;go_wp2;go_ret2;exact⟨rfl,r0 _ _⟩
   have e:j=(d,a+1):=by rw[h.o,Z0 qo]
   have R:((b:Int)==0)=false:=by simpa using k
   have S:¬(b:Int)=0:=qo;subst e;go_wp2;go_ret2;exact⟨by first|rfl|(congr 3;push_cast;rfl),r0 _ _⟩
  have e:j=(0,0):=by rw[p.o];exact vX y
  subst e;go_wp2;go_ret2;exact⟨rfl,r0 _ _⟩
theorem pL(c:BinOp)(a b:Int):0<=bits c .u32 a b/\bits c .u32 a b<=4294967295:=by have:∃d,bits c .u32 a b=IntKind.u32.wrap d:=⟨_,rfl⟩;grind[IntKind.wrap_u32]
def iX(Z:Int):Int:=bits .xor .u32 (Z/2) (3988292384*bits .and .u32 Z 1%4294967296)
def jI:Nat->Int->Int
 |0,Z=>Z
 |a+1,Z=>iX (jI a Z)
def lD(b:List UInt8):Nat->Int
 |0=>4294967295
 |a+1=>jI 8 (bits .xor .u32 (lD b a) (((b[a]?.map UInt8.toNat).getD 0:Nat):Int))
def oI(a:List UInt8):Int:=bits .xor .u32 IntKind.u32.max (lD a a.length)
def cP(a:List UInt8):List UInt8:=[UInt8.ofNat (oI a%256).toNat,UInt8.ofNat (oI a/256%256).toNat,UInt8.ofNat (oI a/65536%256).toNat,UInt8.ofNat (oI a/16777216%256).toNat]
theorem iI(a:List UInt8):(cP a).length=4:=rfl
theorem rN(a:Int):Value.int .u8 (a%256)=.int .u8 ((UInt8.ofNat (a%256).toNat).toNat:Int):=by
 have:(UInt8.ofNat (a%256).toNat).toNat=(a%256).toNat:=by simp[UInt8.toNat_ofNat'];omega
 grind
theorem ET(b c d e:Int)(a:World):(convert 168 9 (.slice (so a.heap.size) 4 4)).run prog (a.alloc (.cells #[.int .u8 (b%256),.int .u8 (c%256),.int .u8 (d%256),.int .u8 (e%256)] 5)) = .ok (.string ⟨[UInt8.ofNat (b%256).toNat,UInt8.ofNat (c%256).toNat,UInt8.ofNat (d%256).toNat,UInt8.ofNat (e%256).toNat].toArray⟩) (a.alloc (.cells #[.int .u8 (b%256),.int .u8 (c%256),.int .u8 (d%256),.int .u8 (e%256)] 5)):=by refine Xq3 _ 168 9 5 ⟨a.heap.size,0,none⟩ 4 [UInt8.ofNat (b%256).toNat,UInt8.ofNat (c%256).toNat,UInt8.ofNat (d%256).toNat,UInt8.ofNat (e%256).toNat] l6 Xq2 Qq4 (λf g=>?_);rw[i7,Z9,aB (aC a _)];have:f=0\/f=1\/f=2\/f=3:=qg;grind[rN]
theorem CW(b:List UInt8)(h:World)(I:b.length<=1000000):Cs 84 #[.string ⟨b.toArray⟩] h (R0 h (.string ⟨(cP b).toArray⟩)):=by
 obtain⟨f,j⟩:∃f:ByteArray,f=⟨b.toArray⟩:=⟨_,rfl⟩;have J:f.size=b.length:=by rw[j];rfl
 have t:Hi (∀a (n:a<b.length) (p:a<f.size),(f[a]'p).toNat=(b[a]'n).toNat):=λa n p=>by subst j;rfl
 rw[<-j];clear j
 delta Cs;go_in
 go_wp2
 go_loopw [3,7] (fun l e wr=>∃(a:Nat) (c:Int),a<=b.length/\e=ii a/\l=.int .u32 c/\(0<=c/\c<=4294967295)/\Hi (c=lD b a)/\h=wr) (fun _ e _=>b.length-(intOf e).toNat)
 ·exact⟨0,4294967295,qo,rfl,rfl,qo,rfl,rfl⟩
 obtain⟨a,c,H,rfl,rfl,A,w,rfl⟩:=hrel
 by_cases i:a<b.length
 ·have x:a<f.size:=qo;obtain⟨g,k⟩:∃g:Nat,(b[a]'i).toNat=g:=⟨_,rfl⟩;have B:=(t.o a i x).trans k;have C:g<256:=by rw[<-k];exact(b[a]'i).toNat_lt
  have v:Hi (lD b (a+1)=jI 8 (bits .xor .u32 c (g:Int))):=by grind[jI,lD,getElem?_eq_getElem,Hi.o]
  clear k;go_wp2
  go_loopw [3,16] (fun l e wr=>∃(d:Nat) (Z:Int),d<=8/\e=ii d/\l=.int .u32 Z/\(0<=Z/\Z<=4294967295)/\Hi (Z=jI d (bits .xor .u32 c (g:Int)))/\h=wr) (fun _ e _=>8-(intOf e).toNat)
  ·exact⟨0,_,qo,rfl,rfl,pL _ _ _,rfl,rfl⟩
  obtain⟨d,Z,E,rfl,rfl,y,m,rfl⟩:=hrel
  by_cases F:d<8
  ·have z:(d:Int)<8:=qo;go_wp2;go_roundw
   ·exact⟨d+1,iX Z,qo,by go_num,rfl,pL _ _ _,(by show iX Z=iX (jI d _);rw[m.o]),p8⟩
   simp[intOf];omega
  have z:¬(d:Int)<8:=qo;have q:d=8:=qo;have u:=aA q;clear q;go_wp2;go_roundw
  ·exact⟨a+1,Z,i,by go_num,rfl,y,(by show Z=_;rw[v.o,m.o,u.o]),p8⟩
  simp[intOf];omega
 have r:a=b.length:=qo;have s:Hi (oI b=bits .xor .u32 IntKind.u32.max c):=by show bits .xor .u32 IntKind.u32.max (lD b b.length)=_;rw[w.o,r]
 have D:=ET (bits .xor .u32 IntKind.u32.max c) (bits .xor .u32 IntKind.u32.max c/256) (bits .xor .u32 IntKind.u32.max c/65536) (bits .xor .u32 IntKind.u32.max c/16777216) h;clear r;go_wp2;go_ret;exact⟨by unfold cP;rw[s.o];rfl,(r0 _ _).alloc _⟩
set_option maxRecDepth 100000
theorem OY(b c:UInt8)(a:World):(convert 168 9 (.slice (so a.heap.size) 2 2)).run prog (a.alloc (.cells #[.int .u8 b.toNat,.int .u8 c.toNat] 5)) = .ok (.string ⟨[b,c].toArray⟩) (a.alloc (.cells #[.int .u8 b.toNat,.int .u8 c.toNat] 5)):=by refine Xq3 _ 168 9 5 ⟨a.heap.size,0,none⟩ 2 [b,c] l6 Xq2 Qq4 (λe d=>?_);rw[i7,Z9,aB (aC a _)];grind
theorem FL(a:UInt8)(b:World):Cs 83 #[.int .u8 a.toNat] b (R0 b (.string ⟨[75,a].toArray⟩)):=by
 have d:=OY 75 a b;have c:((75:UInt8).toNat:Int)=75:=rfl;rw[c]at d;clear c
 delta Cs;go_in
 go_wp2;go_ret;simp_all[Fr.alloc,r0]
theorem DC(b:List UInt8)(a:World)(o:b.length<=100000000000000):∃c d,(convert 9 168 (.string ⟨b.toArray⟩)).run prog a=.ok c d/\ownM d a.heap.size c b/\c.ownBlock=some a.heap.size/\Fr [] a d:=by
 have k:=Lib.run_convert_string_bytes (P:=prog) a 9 168 5 ⟨b.toArray⟩ Qq4 l6 Xq2;have g:=Lib.bytesWorld_at_new a 5 ⟨b.toArray⟩;have l:(⟨b.toArray⟩:ByteArray).size=b.length:=rfl;have i:=grownCap_ge a b.length 0 5;have h:=grownCap_le_maxLen a b.length 0 5 qm;have e:(Lib.bytesCells a 5 ⟨b.toArray⟩).size=grownCap a b.length 0 5:=by simp[Lib.bytesCells,l];omega
 refine⟨_,_,k,.inr ⟨a.heap.size,grownCap a b.length 0 5,rfl,Q9 _,by rw[Lib.bytesWorld_size];omega,i,h,λn f=>⟨?_,?_⟩,λn f=>?_⟩,rfl,⟨rfl,rfl,rfl,by rw[Lib.bytesWorld_size];omega,λm j _=>Lib.bytesWorld_at_old a _ _ m j⟩⟩
 ·simp only[World.cell?,g];rw[Zq3 (by rw[e];exact f)];rfl
 ·simp only[World.frozen?,g,e];simp;omega
 grind[Lib.bytesWorld_cell,iW]
def dF(b:UInt8)(a:List UInt8):List UInt8:=[75,b]++bG a.length++a
def bE(b:UInt8)(a:List UInt8):List UInt8:=dF b a++cP (dF b a)
theorem vU(b:UInt8)(a:List UInt8)(r:World)(hc:a.length<=100000):Cs 44 #[.int .u8 b.toNat,.string ⟨a.toArray⟩] r (R0 r (.string ⟨(bE b a).toArray⟩)):=by
 obtain⟨g,i⟩:∃g:ByteArray,g=⟨a.toArray⟩:=⟨_,rfl⟩;have ad:g.size=a.length:=by rw[i];rfl
 rw[<-i];have J:=aA i;clear i
 delta Cs;go_in
 go_wp2_with fail
 refine cm (FL b r) ?_;rintro u f ⟨rfl,N⟩;obtain⟨v2,s,z,E,y,O⟩:=DC [75,b] f qs;obtain⟨A,D⟩:∃A:ByteArray,A=⟨[75,b].toArray⟩:=⟨_,rfl⟩;rw[<-D]at z |-;clear D;have k:=aA E;clear E;have ac:=(k.o.base y).2
 go_wp2_with fail
 have v:=rK f.heap.size s.heap.size 0 1 v2 [75,b] [(a.length:Int)] (s.alloc (.cells #[ii (a.length:Int)] 3)) (k.o.fr ((r0 [] s).alloc _) qs) qg
  qa
  qg qs qs qt qs
 refine cm v ?_;rintro u w3 ⟨v3,rfl,l⟩;clear v;have P:=(O.alloc _).trans l.fr qg;have C:aY [(a.length:Int)]=bG a.length:=by simp[aY]
 have m:=l.own;rw[C]at m;have W:([75,b]++bG a.length).length<=10:=by have:=jZ 5 a.length qo qo;grind
 have t:=aA m;have Y:=P.size;clear l m C
 go_wp2_with (at_builtin;refine PD rfl _ _ rfl f.heap.size v3 ([75,b]++bG a.length) a rfl t.o (show Value.string g=_ by rw[J.o]) qo Y ?_;intro q d F V M)
 have n:ownM d f.heap.size q (dF b a):=F;have Q:Fr [] f d:=(by grind[iK,ownM.base,Hi.o]);have X:(dF b a).length<=200000:=by grind[dF]
 have h:=λc=>CW (dF b a) c qo;have p:=iI (dF b a);have j:Hi (bE b a=dF b a++cP (dF b a)):=rfl;obtain⟨e,x⟩:=nm (dF b a);rw[<-x]at n h p X j;obtain⟨H,w⟩:=nm (cP e);rw[<-w]at h p j;have L:∀c,Fr [] d c->(λc:World=>(convert 168 9 q).run prog c=.ok (.string ⟨e.toArray⟩) c/\Fr [] d c) c:=λc B=>⟨(n.fr B qs).string,B⟩;have K0:=L _ (r0 [] d).drew;have ab:(⟨e.toArray⟩:ByteArray).size=e.length:=rfl;have aa:(⟨H.toArray⟩:ByteArray).size=4:=p;have I:=aA h;clear x w n F V M t k z h y W
 go_region_held (fun c:World=>(convert 168 9 q).run prog c=.ok (.string ⟨e.toArray⟩) c/\Fr [] d c)
  (first|omega|grind)
  (first|(go_at_call 84;refine cm (I.o _) ?_;rintro u w5 ⟨rfl,R⟩;have S:=Fr.qT (Q1 qo) R))
 all_goals
  go_wp2;go_ret;refine⟨?_,(N.qT Q).qT S⟩;rw[j.o];simp_all[ByteArray.mk_append_mk]
set_option maxRecDepth 100000
structure RdAt (w:World) (rb:Nat) (l:List UInt8) (bad:Bool):Prop where
 all:w.heap[rb]?=some (.cells #[.string ⟨l.toArray⟩,.bool bad] 252)
theorem RdAt.fr{S:List Nat}{b:Bool}(c:RdAt w a l b)(d:Fr S w x)(e:a∉S):RdAt x a l b:=⟨d.heap c.all e⟩
theorem RdAt.lt{b:Bool}(c:RdAt w a l b):a<w.heap.size:=aH c.all
theorem vY:∀(c a d:Nat) (b:List UInt8),(fO c a d b).2<=a+b.length/\((fO c a d b).2=0\/a<(fO c a d b).2)/\(fO c a d b).1<=1000000000
 |0,_,_,_=>⟨Z3 _,.inl rfl,Z3 _⟩
 |_+1,_,_,[]=>⟨Z3 _,.inl rfl,Z3 _⟩
 |c+1,a,d,e::b=>by
  unfold fO
  split
  ·obtain⟨f,g,h⟩:=vY c (a+1) (d+e.toNat%128*128^a) b;grind
  grind
theorem nE(a:List UInt8):(aT a).2<=a.length/\(aT a).1<=1000000000:=by grind[vY,aT]
theorem yZ(a:List UInt8)(b:Nat):Value.string ((⟨a.toArray⟩:ByteArray).extract b a.length)=.string ⟨(a.drop b).toArray⟩:=by congr 1;apply n9;simp_all[take_of_length_le]
theorem lY{b:Array Value}(e:w.heap[a]?=some (.cells b H))(c:Nat)(d:Value):(w.setCell ⟨a,c,none⟩ d).heap[a]?=some (.cells (b.setIfInBounds c d) H):=by grind[setCell_eq_setRow,setRow_heap]
theorem sT(c:List UInt8)(b:World):Cs 123 #[.string ⟨c.toArray⟩] b λe d=>∃a,e=.returned (pt a)/\b.heap.size<=a/\RdAt d a c false/\Fr [] b d:=by
 delta Cs;go_in
 go_wp2;go_ret;exact⟨_,rfl,Q9 _,⟨aC _ _⟩,(r0 _ _).alloc _⟩
theorem tO(c:Nat)(e:List UInt8)(b:Bool)(a:World)(d:RdAt a c e b):Cs 131 #[pt c] a (R0 a (.bool (!b))):=by
 have f:ca a c 1 (.bool b):=aB d.all
 delta Cs;go_in
 go_wp2;go_ret;simp_all[r0]
theorem JH(b:Nat)(a:List UInt8)(e:Bool)(c:World)(d:RdAt c b a e)(q:a.length<=100000000000000):Cs 124 #[pt b] c λh m=>h=.returned (ii (aT a).1)/\RdAt m b (a.drop (aT a).2) (e||(aT a).2==0)/\Fr [b] c m:=by
 have t:ca c b 0 (.string ⟨a.toArray⟩):=aB d.all;have u:ca c b 1 (.bool e):=aB d.all;have z:c.frozen? ⟨b,0,none⟩=false:=aV d.all;have A:c.frozen? ⟨b,1,none⟩=false:=aV d.all;obtain⟨i,j⟩:=nE a;have l:=yZ a (aT a).2;have g:=VI a c q;obtain⟨⟨x,r⟩,k⟩:∃n,aT a=n:=⟨_,rfl⟩;rw[k]at i j l g |-;dsimp only at i j l g |-;have s:=d.lt;have p:=aA d.all;clear d k;cases e
 all_goals
  delta Cs;go_in
  go_wp2_with (go_at_call 170;refine cm g ?_;rintro h y ⟨rfl,f⟩;obtain⟨v,w⟩:=f.qC)
  go_ret;refine⟨rfl,⟨?_⟩,(f.qO.setCell _ _ qs).setCell _ _ qs⟩;rw[lY (lY (f.qH p.o) _ _) _ _]
  first|rfl|(cases r<;>rfl)
theorem vJ(f:Nat)(a:List UInt8)(d:Bool)(c:World)(e:RdAt c f a d):Cs 126 #[pt f] c (R0 c (.bool (!d&&a.isEmpty))):=by
 have g:=tO f a d c e;have n:=e.lt;have m:ca c f 0 (.string ⟨a.toArray⟩):=aB e.all;clear e;cases d
 ·cases a with
  |nil=>
   delta Cs;go_in
   go_wp2_with (go_at_call 131;refine cm g ?_;rintro h k ⟨rfl,b⟩;obtain⟨i,j⟩:=b.qC)
   go_ret;simp_all
  |cons l a=>
   delta Cs;go_in
   go_wp2_with (go_at_call 131;refine cm g ?_;rintro h k ⟨rfl,b⟩;obtain⟨i,j⟩:=b.qC)
   go_ret;simp_all
 delta Cs;go_in
 go_wp2_with (go_at_call 131;refine cm g ?_;rintro h k ⟨rfl,b⟩;obtain⟨i,j⟩:=b.qC)
 go_ret;simp_all
def aM(b:List UInt8)(a:Bool):Nat->List UInt8×Bool
 |0=>(b,a)
 |c+1=>((aM b a c).1.drop (aT (aM b a c).1).2,(aM b a c).2||(aT (aM b a c).1).2==0)
def aD(b:List UInt8)(a:Bool)(c:Nat):Int:=(aT (aM b a c).1).1
theorem yA(b:List UInt8)(a:Bool)(c:Nat):∀d,aM (aM b a c).1 (aM b a c).2 d=aM b a (c+d)
 |0=>rfl
 |d+1=>by have e:=yA b a c d;grind[aM]
theorem yC(a:List UInt8)(c:Bool):∀b,(aM a c b).1.length<=a.length
 |0=>Q9 _
 |b+1=>by have:=yC a c b;grind[aM]
theorem iR(b:List UInt8)(a:Bool)(c:Nat):0<=aD b a c/\aD b a c<=1000000000:=by grind[nE,aM,aD]
theorem tG:∀(b:Nat) (a:List Int) (c:List UInt8),b<=a.length->(∀h∈a,0<=h/\h<=1000000000)->aM (aY a++c) false b=(aY (a.drop b)++c,false)
 |0,_,_,_,_=>rfl
 |b+1,a,c,d,e=>by
  have k:=tG b a c qo e;have g:=Zz2 (show b<a.length by omega);have l:=e _ (getElem_mem (show b<a.length by omega));have i:aT (aY (a.drop b)++c)=(a[b].toNat,(bG a[b].toNat).length):=by rw[g,lS,X0];exact rZ _ _ qo
  show(_,_)=_
  rw[k];dsimp only;rw[i];dsimp only;have f:=oU a[b].toNat;rw[g,lS,X0,Xq4];have j:((bG a[b].toNat).length==0)=false:=by simp;intro d;rw[d]at f;simp at f
  rw[j];rfl
theorem JL(b:Nat)(a:List Int)(d:List UInt8)(e:b<a.length)(f:∀c∈a,0<=c/\c<=1000000000):aD (aY a++d) false b=a[b]:=by grind[aD,tG,getElem_mem,drop_eq_getElem_cons,lS,append_assoc,rZ]
theorem xC(d:Nat)(a:List UInt8)(b:Bool)(c:Nat)(e:World)(h:RdAt e d (aM a b c).1 (aM a b c).2)(i:a.length<=2000000):Cs 124 #[pt d] e λg f=>g=.returned (ii (aD a b c))/\RdAt f d (aM a b (c+1)).1 (aM a b (c+1)).2/\Fr [d] e f:=
 JH d _ _ e h (by grind[yC])
theorem xB(d:Nat)(a:List UInt8)(b:Bool)(c:Nat)(e:World)(h:RdAt e d (aM a b c).1 (aM a b c).2)(i:a.length<=1000000):Cs 124 #[pt d] e λg f=>g=.returned (ii (aD a b c))/\RdAt f d (aM a b (c+1)).1 (aM a b (c+1)).2/\Fr [d] e f:=xC d a b c e h qo
abbrev iF(a:Nat->Int):U:=⟨a 0,a 1,a 2,a 3,a 4,a 5,a 6,a 7,a 8,a 9,a 10⟩
theorem El(f:Nat)(b:List UInt8)(c:Bool)(d:World)(h:RdAt d f b c)(y:b.length<=2000000):Cs 132 #[pt f] d λi a=>i=.returned (iF (aD b c)).val/\RdAt a f (aM b c 11).1 (aM b c 11).2/\Fr [f] d a:=by
 have p:=λe d (h:RdAt d f (aM b c e).1 (aM b c e).2)=>xC f b c e d h y;have q:RdAt d f (aM b c 0).1 (aM b c 0).2:=h;have z:=h.lt;have s:f≠d.heap.size:=qo;obtain⟨g,l⟩:∃g:Nat->World->Prop,g=λe a=>RdAt a f (aM b c e).1 (aM b c e).2/\a.heap[d.heap.size]?=some (.cells zeroU.arr 85)/\Fr [f] d a:=⟨_,rfl⟩;have k:∀e a,g e a->Cs 124 #[pt f] a λi B=>i=.returned (ii (aD b c e))/\g (e+1) B:=λe a j=>by rw[l]at j |-;obtain⟨A,F,H⟩:=j;refine cm (p e a A) ?_;grind[Fr.heap,Fr.trans]
 have x:g 0 (d.alloc (.cells zeroU.arr 85)):=by rw[l];exact⟨q.fr ((r0 [] d).alloc _) qs,aC _ _,(r0 _ _).alloc _⟩
 have r:∀e a,g e a->a.heap[d.heap.size]?=some (.cells zeroU.arr 85):=λe a j=>by grind
 have t:Hi (∀a,g 11 a->RdAt a f (aM b c 11).1 (aM b c 11).2/\Fr [f] d a):=λa j=>by grind
 have k:=aA k;have n:=aA r;have C:=aA s;clear h q p l r z s
 generalize aM b c=R at *
 generalize aD b c=N at *
 have HI:Hi ((prog.info? 85).map (·.size)=some (iF N).arr.size):=by show _=some 11;kernel_rfl
 have u:Hi ((iF N).arr.all (·.oneCell')=true):=by show _=_;simp[Value.oneCell']
 have w:Hi (zeroU.arr.size=(iF N).arr.size):=by show _=_;rfl
 delta Cs;go_in
 go_wp2_with (first|(go_at_call 124;with_reducible refine cm (k.o _ _ (by first|assumption|exact x)) ?_;rintro i I ⟨rfl,m⟩)|(refine wpList_store_row rfl 85 _ _ rfl d.heap.size (iF N).arr rfl rfl 85 zeroU.arr (n.o _ _ m) HI.o w.o u.o ?_))
 obtain⟨D,E⟩:=t.o _ m;refine Zq8 (v:=(iF N).val) (Zz8 results132 _ _ d.heap.size 85 (iF N).arr (0,0) _ rfl (Qz4 _ _ _ _ _ _ (n.o _ _ m)) Q3 rfl HI.o) rfl ⟨rfl,?_,?_⟩
 ·exact⟨by grind[setRow_other,Hi.o,RdAt.all]⟩
 grind[Fr.setRow]
theorem mH(a b:List UInt8):(⟨a.toArray⟩:ByteArray)++⟨b.toArray⟩=⟨(a++b).toArray⟩:=by apply n9;simp_all
theorem DB(a:World)(c b:Nat)(h:b<256)(d:a.cell? ⟨c,0,none⟩=some (.int .u8 (b:Int))):(convert 168 9 (.slice (so c) 1 1)).run prog a=.ok (.string ⟨[UInt8.ofNat b].toArray⟩) a:=
 Xq3 a 168 9 5 ⟨c,0,none⟩ 1 [UInt8.ofNat b] l6 Xq2 Qq4 (λf g=>by have e:f=0:=qg;subst e;rw[i7,Z9,d];simp;omega)
theorem yF:∀(f n:Nat),n<128^(f+1)->f<=5->∀w:World,Calls prog 101 #[.int .i64 n] w λe w'=>e=.returned (.string ⟨(bG n).toArray⟩)/\Fr [] w w'
 |f,n,hn,hf,w=>by
  by_cases h:n<128
  ·have hi:(n:Int)<128:=by omega
   have hc:=DB (w.alloc (.cells #[.int .u8 (n:Int)] 5)) w.heap.size n (by omega) (by simp_all)
   have HNB:=(show Hi _ from mR h)
   go_enter func101,ntmps101
   go_wp2_with fail
   go_ret
   exact⟨by rw[HNB.o];rfl,(Fr.refl _ _).alloc _⟩
  ·have hi:¬(n:Int)<128:=by omega
   have hfp:0<f:=by grind
   obtain⟨f',rfl⟩:∃f',f=f'+1:=(by simp_all)
   have ih:=yF f' (n/128) (by omega) (by omega)
   obtain⟨q,hq⟩:∃q,n/128=q:=⟨_,rfl⟩
   obtain⟨r,hr⟩:∃r,n%128=r:=⟨_,rfl⟩
   rw[hq]at ih
   have hqd:(n:Int).tdiv 128=(q:Int):=by grind
   have hrd:(n:Int).tmod 128=(r:Int):=by grind
   have hr1:r<128:=by omega
   obtain⟨B,hB⟩:∃B:ByteArray,B=⟨(bG q).toArray⟩:=⟨_,rfl⟩
   have hBs:B.size<=6:=by
    rw[hB]
    exact jZ 6 q (by
      rw[<-hq];have:(128:Nat)^(f'+1+1)<=128^6:=Nat.pow_le_pow_right (by omega) (by omega)
      omega) (by omega)
   rw[<-hB]at ih
   have hsm:1+B.size<=9223372036854775807:=by omega
   have HBB:=aA hB
   have IH:=(show Hi (∀w:World,Calls prog 101 #[.int .i64 (q:Int)] w λe w'=>e=.returned (.string B)/\Fr [] w w')from ih)
   clear hB
   have HNB:Hi (bG n=[UInt8.ofNat (r+128)]++bG q):=by grind[nN]
   have hpw:(128:Nat)^(f'+1+1)<=128^6:=Nat.pow_le_pow_right (by omega) (by omega)
   have hnb:n<4398046511104:=by omega
   have hqb:q<4398046511104:=by omega
   clear ih hn hq hr
   go_enter func101,ntmps101
   go_wp2_with fail
   have hcv:∀(W:World) (b:Nat),W.cell? ⟨b,0,none⟩=some (.int .u8 (128+(r:Int)))->(convert 168 9 (.slice (some ⟨b,0,none⟩) 1 1)).run prog W=.ok (.string ⟨[UInt8.ofNat (r+128)].toArray⟩) W:=(by grind[DB])
   have hw1:IntKind.i64.wrap (128+(r:Int))=128+(r:Int):=by unfold IntKind.wrap;simp[IntKind.bits,IntKind.signed];omega
   have hw2:IntKind.u8.wrap (128+(r:Int))=128+(r:Int):=by unfold IntKind.wrap;simp[IntKind.bits,IntKind.signed];omega
   have hw3:IntKind.i64.wrap (q:Int)=(q:Int):=by unfold IntKind.wrap;simp[IntKind.bits,IntKind.signed];omega
   go_region_with (go_at_call 101;refine Calls.mono (IH.o _) ?_;rintro e w1 ⟨rfl,hf1⟩;first|(have hcc:w1.cell? ⟨w.heap.size,0,none⟩=some (.int .u8 (128+(r:Int))):=(hf1.cell _ _ (by simp) (by simp)).trans (by rw[World.cell?_drew,aB (aC _ _)];rfl))|skip)
   all_goals
    go_wp2_with fail
    simp only[Act.put]
    go_ret
    refine⟨?_,?_⟩
    ·rw[HNB.o,HBB.o]
     simp_all[bG,mH]
    ·first
     |exact(((Fr.refl [] w).alloc _).drew).qT hf1
     |exact(((Fr.refl [] w).drew).alloc _).qT hf1
     |exact(((Fr.refl [] w).drew).qT hf1).alloc _
