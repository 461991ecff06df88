import Derived.Shelf.SlIter.Nil
import Derived.Shelf.SortM.Plain
import Derived.Shelf.SortM.SortNone
import Derived.Ground.GgzProg
import Derived.Ground.SlgmProg
import Derived.Test.YtapabahhfanmmaaGreatDoorProg
namespace Go.Proofs
open Go.RowKit Go.Maps Go.Sort Go.Shelf List Go.Proofs.Tryz
set_option maxHeartbeats 1000000
def Tryz.keys146_ren:Go.Shelf.Ren:=⟨λ|7=>146|10=>190|n=>n,λ|23=>93|26=>9|3=>174|28=>239|0=>0|27=>238|33=>177|4=>4|n=>n,λ|n=>n⟩
theorem Tryz.keys146:Go.Proofs.SlLaysZ.n7 Tryz.prog Tryz.keys146_ren:={
 mixed:=by kernel_rfl,f7:=⟨Tryz.f146.name,by decide,Tryz.func146.trans (congrArg some (by kernel_rfl))⟩,f10:=⟨Tryz.f190.name,by decide,Tryz.func190.trans (congrArg some (by kernel_rfl))⟩,
 t0:=Tryz.underlying0,a0:=Tryz.isAgg0,z0:=Tryz.sizeOf0,v0:=Tryz.zeroValue0,t4:=Tryz.underlying4,a4:=Tryz.isAgg4,z4:=Tryz.sizeOf4,v4:=Tryz.zeroValue4,t23:=Tryz.underlying93,a23:=Tryz.isAgg93,
 z23:=Tryz.sizeOf93,v23:=Tryz.zeroValue93,t26:=Tryz.underlying9,a26:=Tryz.isAgg9,z26:=Tryz.sizeOf9,v26:=Tryz.zeroValue9,t27:=Tryz.underlying238,a27:=Tryz.isAgg238,z27:=Tryz.sizeOf238,
 v27:=Tryz.zeroValue238,t28:=Tryz.underlying239,a28:=Tryz.isAgg239,z28:=Tryz.sizeOf239,v28:=Tryz.zeroValue239,t33:=Tryz.underlying177,a33:=Tryz.isAgg177,z33:=Tryz.sizeOf177,
 v33:=Tryz.zeroValue177}
def Tryz.sorted145_ren:Go.Shelf.Ren:=⟨λ|6=>145|8=>188|9=>189|11=>216|13=>218|12=>217|23=>235|24=>236|14=>226|15=>227|16=>228|17=>229|18=>230|19=>231|20=>232|21=>233|22=>234|25=>241|26=>242|27=>243|28=>244|29=>245|30=>246|31=>249|n=>n,λ|26=>9|28=>239|24=>38|0=>0|3=>3|37=>226|48=>225|50=>275|4=>4|40=>295|39=>294|45=>248|5=>5|9=>9|51=>305|55=>274|57=>310|58=>253|33=>177|n=>n,λ|n=>n⟩
theorem Tryz.sorted145:Go.Proofs.SlLaysZ.n6 Tryz.prog Tryz.sorted145_ren:={
 mixed:=by kernel_rfl,f6:=⟨Tryz.f145.name,by decide,Tryz.func145.trans (congrArg some (by kernel_rfl))⟩,f8:=⟨Tryz.f188.name,by decide,Tryz.func188.trans (congrArg some (by kernel_rfl))⟩,
 f11:=⟨Tryz.f216.name,by decide,Tryz.func216.trans (congrArg some (by kernel_rfl))⟩,t0:=Tryz.underlying0,a0:=Tryz.isAgg0,z0:=Tryz.sizeOf0,v0:=Tryz.zeroValue0,t24:=Tryz.underlying38,
 a24:=Tryz.isAgg38,z24:=Tryz.sizeOf38,v24:=Tryz.zeroValue38,t26:=Tryz.underlying9,a26:=Tryz.isAgg9,z26:=Tryz.sizeOf9,v26:=Tryz.zeroValue9,t28:=Tryz.underlying239,a28:=Tryz.isAgg239,
 z28:=Tryz.sizeOf239,v28:=Tryz.zeroValue239,i26:=by kernel_rfl}
def Tryz.sort189_ren:Go.Shelf.Ren:=⟨λ|6=>189|8=>218|9=>217|19=>235|20=>236|21=>226|22=>227|23=>228|24=>229|25=>230|26=>231|27=>232|28=>233|29=>234|36=>241|31=>242|32=>243|37=>244|38=>245|39=>246|41=>249|n=>n,λ|27=>38|29=>9|3=>3|32=>226|26=>38|0=>0|44=>225|46=>275|4=>4|36=>295|35=>294|41=>248|5=>5|9=>9|53=>305|57=>274|63=>310|64=>253|n=>n,λ|n=>n⟩
theorem Tryz.sort189:Go.Proofs.SlLaysM.n6 Tryz.prog Tryz.sort189_ren:={
 mixed:=by kernel_rfl,f6:=⟨Tryz.f189.name,by decide,Tryz.func189.trans (congrArg some (by kernel_rfl))⟩,f8:=Tryz.func218.trans (congrArg some (by kernel_rfl)),
 f9:=⟨Tryz.f217.name,by decide,Tryz.func217.trans (congrArg some (by kernel_rfl))⟩,f19:=Tryz.func235.trans (congrArg some (by kernel_rfl)),f20:=Tryz.func236.trans (congrArg some (by kernel_rfl)),
 f21:=⟨Tryz.f226.name,by decide,Tryz.func226.trans (congrArg some (by kernel_rfl))⟩,f22:=⟨Tryz.f227.name,by decide,Tryz.func227.trans (congrArg some (by kernel_rfl))⟩,
 f23:=⟨Tryz.f228.name,by decide,Tryz.func228.trans (congrArg some (by kernel_rfl))⟩,f24:=⟨Tryz.f229.name,by decide,Tryz.func229.trans (congrArg some (by kernel_rfl))⟩,
 f25:=⟨Tryz.f230.name,by decide,Tryz.func230.trans (congrArg some (by kernel_rfl))⟩,f26:=⟨Tryz.f231.name,by decide,Tryz.func231.trans (congrArg some (by kernel_rfl))⟩,
 f27:=⟨Tryz.f232.name,by decide,Tryz.func232.trans (congrArg some (by kernel_rfl))⟩,f28:=⟨Tryz.f233.name,by decide,Tryz.func233.trans (congrArg some (by kernel_rfl))⟩,
 f29:=⟨Tryz.f234.name,by decide,Tryz.func234.trans (congrArg some (by kernel_rfl))⟩,f31:=Tryz.func242.trans (congrArg some (by kernel_rfl)),f32:=Tryz.func243.trans (congrArg some (by kernel_rfl)),
 f36:=⟨Tryz.f241.name,by decide,Tryz.func241.trans (congrArg some (by kernel_rfl))⟩,f37:=⟨Tryz.f244.name,by decide,Tryz.func244.trans (congrArg some (by kernel_rfl))⟩,
 f38:=⟨Tryz.f245.name,by decide,Tryz.func245.trans (congrArg some (by kernel_rfl))⟩,f39:=⟨Tryz.f246.name,by decide,Tryz.func246.trans (congrArg some (by kernel_rfl))⟩,
 f41:=⟨Tryz.f249.name,by decide,Tryz.func249.trans (congrArg some (by kernel_rfl))⟩,t0:=Tryz.underlying0,a0:=Tryz.isAgg0,z0:=Tryz.sizeOf0,v0:=Tryz.zeroValue0,t3:=Tryz.underlying3,a3:=Tryz.isAgg3,
 z3:=Tryz.sizeOf3,v3:=Tryz.zeroValue3,t4:=Tryz.underlying4,a4:=Tryz.isAgg4,z4:=Tryz.sizeOf4,v4:=Tryz.zeroValue4,t5:=Tryz.underlying5,a5:=Tryz.isAgg5,z5:=Tryz.sizeOf5,v5:=Tryz.zeroValue5,
 t9:=Tryz.underlying9,a9:=Tryz.isAgg9,z9:=Tryz.sizeOf9,v9:=Tryz.zeroValue9,t26:=Tryz.underlying38,a26:=Tryz.isAgg38,z26:=Tryz.sizeOf38,v26:=Tryz.zeroValue38,t27:=Tryz.underlying38,
 a27:=Tryz.isAgg38,z27:=Tryz.sizeOf38,v27:=Tryz.zeroValue38,t29:=Tryz.underlying9,a29:=Tryz.isAgg9,z29:=Tryz.sizeOf9,v29:=Tryz.zeroValue9,t32:=Tryz.underlying226,a32:=Tryz.isAgg226,
 z32:=Tryz.sizeOf226,v32:=Tryz.zeroValue226,t35:=Tryz.underlying294,a35:=Tryz.isAgg294,z35:=Tryz.sizeOf294,v35:=Tryz.zeroValue294,t36:=Tryz.underlying295,a36:=Tryz.isAgg295,z36:=Tryz.sizeOf295,
 v36:=Tryz.zeroValue295,t41:=Tryz.underlying248,a41:=Tryz.isAgg248,z41:=Tryz.sizeOf248,v41:=Tryz.zeroValue248,t44:=Tryz.underlying225,a44:=Tryz.isAgg225,z44:=Tryz.sizeOf225,
 v44:=Tryz.zeroValue225,t46:=Tryz.underlying275,a46:=Tryz.isAgg275,z46:=Tryz.sizeOf275,v46:=Tryz.zeroValue275,t53:=Tryz.underlying305,a53:=Tryz.isAgg305,z53:=Tryz.sizeOf305,
 v53:=Tryz.zeroValue305,t57:=Tryz.underlying274,a57:=Tryz.isAgg274,z57:=Tryz.sizeOf274,v57:=Tryz.zeroValue274,t63:=Tryz.underlying310,a63:=Tryz.isAgg310,z63:=Tryz.sizeOf310,
 v63:=Tryz.zeroValue310,t64:=Tryz.underlying253,a64:=Tryz.isAgg253,z64:=Tryz.sizeOf253,v64:=Tryz.zeroValue253}
theorem Tryz.sorts145(g:Nat):AnyZ.SortsIn Tryz.prog Tryz.sorted145_ren Fence.wide g:=
 ⟨λc h b j a d e f=>callsIn_wide.2 (AnyM.slices_Sort_string Tryz.sort189 c h b j a d e f),
  λi b a=>callsIn_wide.2 (AnyM.slices_Sort_string_none Tryz.sort189 i b a)⟩
theorem Tryz.keysOf(b:Option Nat)(a:World):Calls Tryz.prog 146 #[.map b] a λc d=>c=.returned (.func (.func 190) #[] #[.pointer (some ⟨a.heap.size,0,none⟩)])/\d=a.alloc (.cells #[.map b] 93):=
  (callsIn_wide (n:=5)).1 (AnyZ.keys_in Tryz.keys146 Fence.wide 5 trivial rfl b a)
theorem Tryz.sortedKeys{f:Type}(b nn:Nat)(c:DataW f)(i:Value->Option (DataW f×List MemPlace))(a:World)(hown:a.ownsMap Tryz.prog 9 i b nn c)(q:Maps.size c<=maxLen)(hbytes:Maps.size c*16<=140737488355328):Calls Tryz.prog 145 #[.func (.func 190) #[] #[.pointer (some ⟨a.heap.size,0,none⟩)]] (a.alloc (.cells #[.map (some b)] 93)) λk g=>∃(e:Value) (d:List (List UInt8)),k=.returned e/\d.Perm (strKeys c) /\g.ownsRow (a.alloc (.cells #[.map (some b)] 93)).heap.size 9 1 e d.length ((d.mergeSort (λt u=>decide (t<=u))).map encStr)/\(e=.slice none 0 0↔d=[])/\Below (a.alloc (.cells #[.map (some b)] 93)).heap.size (a.alloc (.cells #[.map (some b)] 93)) g:=by
 have p:=hown.lt
 have s:SeqGives Fence.wide 2 Tryz.prog 190 #[.pointer (some ⟨a.heap.size,0,none⟩)] encStr (λd=>d.Perm (strKeys c)) (Maps.size c) (a.alloc (.cells #[.map (some b)] 93)) :=
  AnyZ.keys_gives (ρ:=Tryz.keys146_ren) {Tryz.keys146 with} Fence.wide _ trivial rfl (by omega) a.heap.size b nn c _ (by simp) (by simp) (by
   obtain⟨l,j,o,h,r,m⟩:=hown
   exact⟨l,j,(Below.heap_alloc _ _ b p).trans o,h,r,m⟩)
 exact(callsIn_wide (n:=5)).1 (AnyZ.sorted_in Tryz.sorted145 Fence.wide 5 trivial trivial trivial trivial rfl (by omega) (Tryz.sorts145 _) (enters_of Tryz.func189 (by kernel_rfl) rfl) 190 #[.pointer (some ⟨a.heap.size,0,none⟩)] trivial (enters_of Tryz.func190 (by kernel_rfl) rfl) _ _ q hbytes _ s)
