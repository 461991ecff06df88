import Derived.Shelf.Strconv.Itoa3
import Derived.Lib.SmallJoins
import Derived.Lib.ItoaLen
import Derived.Test.YtapabahhfanmmaaGreatDoorCRNum
namespace Go.Proofs
open Go.Shelf List Go.Proofs.Tryz
def Tryz.itoaL_ren:Go.Shelf.Ren:=⟨λ|171=>127|243=>171|246=>208|283=>222|284=>223|285=>224|286=>225|129=>236|317=>237|318=>238|319=>239|320=>240|337=>247|338=>248|n=>n,λ|3=>3|9=>9|2=>2|4=>4|171=>288|0=>0|53=>275|37=>168|5=>5|173=>291|212=>303|51=>225|20=>20|213=>304|46=>226|232=>312|233=>313|n=>n,λ|17=>1|18=>2|19=>3|n=>n⟩
theorem Tryz.itoaL:Go.Proofs.LaysM.n171 Tryz.prog Tryz.itoaL_ren:={
 mixed:=by kernel_rfl,f129:=Tryz.func236.trans (congrArg some (by kernel_rfl)),f171:=Tryz.func127.trans (congrArg some (by kernel_rfl)),f243:=Tryz.func171.trans (congrArg some (by kernel_rfl)),
 f246:=Tryz.func208.trans (congrArg some (by kernel_rfl)),f283:=Tryz.func222.trans (congrArg some (by kernel_rfl)),f284:=Tryz.func223.trans (congrArg some (by kernel_rfl)),
 f285:=Tryz.func224.trans (congrArg some (by kernel_rfl)),f286:=Tryz.func225.trans (congrArg some (by kernel_rfl)),f317:=Tryz.func237.trans (congrArg some (by kernel_rfl)),
 f318:=Tryz.func238.trans (congrArg some (by kernel_rfl)),f319:=Tryz.func239.trans (congrArg some (by kernel_rfl)),f320:=Tryz.func240.trans (congrArg some (by kernel_rfl)),
 f337:=Tryz.func247.trans (congrArg some (by kernel_rfl)),f338:=Tryz.func248.trans (congrArg some (by kernel_rfl)),t0:=Tryz.underlying0,a0:=Tryz.isAgg0,z0:=Tryz.sizeOf0,v0:=Tryz.zeroValue0,
 t2:=Tryz.underlying2,a2:=Tryz.isAgg2,z2:=Tryz.sizeOf2,v2:=Tryz.zeroValue2,t3:=Tryz.underlying3,a3:=Tryz.isAgg3,z3:=Tryz.sizeOf3,v3:=Tryz.zeroValue3,t4:=Tryz.underlying4,a4:=Tryz.isAgg4,
 z4:=Tryz.sizeOf4,v4:=Tryz.zeroValue4,t5:=Tryz.underlying5,a5:=Tryz.isAgg5,z5:=Tryz.sizeOf5,v5:=Tryz.zeroValue5,t9:=Tryz.underlying9,a9:=Tryz.isAgg9,z9:=Tryz.sizeOf9,v9:=Tryz.zeroValue9,
 t20:=Tryz.underlying20,a20:=Tryz.isAgg20,z20:=Tryz.sizeOf20,v20:=Tryz.zeroValue20,t37:=Tryz.underlying168,a37:=Tryz.isAgg168,z37:=Tryz.sizeOf168,v37:=Tryz.zeroValue168,t46:=Tryz.underlying226,
 a46:=Tryz.isAgg226,z46:=Tryz.sizeOf226,v46:=Tryz.zeroValue226,t51:=Tryz.underlying225,a51:=Tryz.isAgg225,z51:=Tryz.sizeOf225,v51:=Tryz.zeroValue225,t53:=Tryz.underlying275,a53:=Tryz.isAgg275,
 z53:=Tryz.sizeOf275,v53:=Tryz.zeroValue275,t171:=Tryz.underlying288,a171:=Tryz.isAgg288,z171:=Tryz.sizeOf288,v171:=Tryz.zeroValue288,t173:=Tryz.underlying291,a173:=Tryz.isAgg291,
 z173:=Tryz.sizeOf291,v173:=Tryz.zeroValue291,t212:=Tryz.underlying303,a212:=Tryz.isAgg303,z212:=Tryz.sizeOf303,v212:=Tryz.zeroValue303,t213:=Tryz.underlying304,a213:=Tryz.isAgg304,
 z213:=Tryz.sizeOf304,t232:=Tryz.underlying312,a232:=Tryz.isAgg312,z232:=Tryz.sizeOf312,v232:=Tryz.zeroValue312,t233:=Tryz.underlying313,a233:=Tryz.isAgg313,z233:=Tryz.sizeOf313,
 v233:=Tryz.zeroValue313,g17:=by kernel_rfl,g18:=by kernel_rfl,g19:=by kernel_rfl,i0:=by kernel_rfl,i2:=by kernel_rfl,i3:=by kernel_rfl,i4:=by kernel_rfl,i5:=by kernel_rfl,i9:=by kernel_rfl,
 i20:=by kernel_rfl,i37:=by kernel_rfl,i46:=by kernel_rfl,i51:=by kernel_rfl,i53:=by kernel_rfl,i171:=by kernel_rfl,i173:=by kernel_rfl,i212:=by kernel_rfl,i232:=by kernel_rfl,
 i233:=by kernel_rfl,m17:=by kernel_rfl,m18:=by kernel_rfl,m19:=by kernel_rfl}
end Go.Proofs
namespace Go.Proofs.YtapabahhfanmmaaGreatDoor
open Go.RowKit List Go.Proofs.Tryz
def Tb(a:World):Prop:=Lib.TabIs Tryz.prog a "internal/strconv.uint64pow10" .u64 Lib.pow10Tab
theorem FE:Tryz.prog.globalNamed "internal/strconv.uint64pow10"=some 1:=by kernel_rfl
theorem Tb.qF{a b:World}(c:Tb a)(d:Fr [] a b):Tb b:=Joins.tab_stays FE c d.below (Nat.le_refl _)
abbrev jK(a:Nat):List UInt8:=Lib.decDigits a
theorem XZ(b:Nat)(i:b<=1000000000000)(a:World)(e:Tb a):Calls Tryz.prog 127 #[.int .i64 b] a λc d=>c=.returned (.string ⟨(jK b).toArray⟩)/\Fr [] a d:=by
 refine Calls.mono (Any.strconv_Itoa Tryz.itoaL b (by omega) (by omega) a e) ?_
 rintro c d ⟨rfl,j,g,rfl⟩
 rw[Lib.itoa_nonneg]
 refine⟨rfl,rfl,rfl,rfl,?_,λf h _=>?_⟩
 ·simp_all
 show(a.heap++g)[f]?=_
 grind
def rS(c:List UInt8):Nat:=c.foldl (λa b=>a*10+(b.toNat-48)) 0
theorem DR(a:Nat):rS (jK a)=a:=by
 induction a using Nat.strongRecOn with
 |_ a b=>
  unfold jK
  rw[Lib.decDigits]
  split
  ·simp[rS,UInt8.toNat_ofNat']
   omega
  have:=b (a/10) (by omega)
  unfold jK rS at this
  unfold rS
  rw[List.foldl_append,this]
  simp[UInt8.toNat_ofNat']
  omega
theorem UE{a b:Nat}(c:jK a=jK b):a=b:=by grind[DR]
theorem DQ(a:Nat)(b:a<=1000000000000):(jK a).length<=21:=by grind[Lib.itoa_length_le,Lib.itoa_nonneg]
