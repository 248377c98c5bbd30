/- texts -/
import Derived.Test.YtlgkolkcokaefaaGreatDoorProg
import Derived.Shelf.Small.Strs
import Derived.Shelf.Small.Wraps
import Derived.Shelf.Strconv.Itoa3
import Derived.Shelf.Pu.ParseUintPublic10
import Derived.Shelf.Strconv.AppendInt10
open Go.Proofs.Tryz
namespace Go.Proofs
open Go.Shelf
def Tryz.lays213_ren:Go.Shelf.Ren:=⟨fun|213=>247|265=>252|n=>n,fun|9=>9|3=>3|n=>n,fun|n=>n⟩
def Tryz.lays106_ren:Go.Shelf.Ren:=⟨fun|106=>239|213=>247|265=>252|n=>n,fun|9=>9|3=>3|n=>n,fun|n=>n⟩
theorem Tryz.lays106:Go.Proofs.Lays.n106 Tryz.prog Tryz.lays106_ren:={
 mixed:=by kernel_rfl
 f106:=func239.trans (congrArg some (by kernel_rfl))
 f213:=func247.trans (congrArg some (by kernel_rfl))
 f265:=func252.trans (congrArg some (by kernel_rfl))
 t3:=underlying3
 a3:=isAgg3
 z3:=sizeOf3
 v3:=zeroValue3
 t9:=underlying9
 a9:=isAgg9
 z9:=sizeOf9
 v9:=zeroValue9 }
open Go.RowKit in
theorem Tryz.strings_Compare (a b:ByteArray)(w:World) :
 Calls Tryz.prog 239 #[.string a,.string b] w fun e w'=>e=.returned (.int .i64 (Lib.compareBytes a.data.toList b.data.toList))∧w'=w:=Any.strings_Compare Tryz.lays106 a b w
def Tryz.lays210_ren:Go.Shelf.Ren:=⟨fun|210=>154|206=>182|n=>n,fun|9=>9|4=>4|3=>3|n=>n,fun|n=>n⟩
def Tryz.lays103_ren:Go.Shelf.Ren:=⟨fun|103=>136|210=>154|206=>182|n=>n,fun|9=>9|4=>4|24=>166|3=>3|n=>n,fun|n=>n⟩
theorem Tryz.lays103:Go.Proofs.Lays.n103 Tryz.prog Tryz.lays103_ren:={
 mixed:=by kernel_rfl
 f103:=func136.trans (congrArg some (by kernel_rfl))
 f206:=func182.trans (congrArg some (by kernel_rfl))
 f210:=func154.trans (congrArg some (by kernel_rfl))
 t3:=underlying3
 a3:=isAgg3
 z3:=sizeOf3
 v3:=zeroValue3
 t4:=underlying4
 a4:=isAgg4
 z4:=sizeOf4
 v4:=zeroValue4
 t9:=underlying9
 a9:=isAgg9
 z9:=sizeOf9
 v9:=zeroValue9
 t24:=underlying166
 a24:=isAgg166
 z24:=sizeOf166
 v24:=zeroValue166 }
open Go.RowKit in
theorem Tryz.strings_CutPrefix (s p:ByteArray)(w:World) :
 Calls Tryz.prog 136 #[.string s,.string p] w fun e w'=>e=.returned (.tuple #[.string ⟨(Lib.trimPrefix s.data.toList p.data.toList).toArray⟩,.bool (Lib.hasPrefix s.data.toList p.data.toList)])∧w'=w:=Any.strings_CutPrefix Tryz.lays103 s p w
def Tryz.lays215_ren:Go.Shelf.Ren:=⟨fun|215=>223|n=>n,fun|3=>3|4=>4|n=>n,fun|n=>n⟩
def Tryz.lays122_ren:Go.Shelf.Ren:=⟨fun|122=>198|215=>223|n=>n,fun|3=>3|4=>4|n=>n,fun|n=>n⟩
theorem Tryz.lays122:Go.Proofs.Lays.n122 Tryz.prog Tryz.lays122_ren:={
 mixed:=by kernel_rfl
 f122:=func198.trans (congrArg some (by kernel_rfl))
 f215:=func223.trans (congrArg some (by kernel_rfl))
 t3:=underlying3
 a3:=isAgg3
 z3:=sizeOf3
 v3:=zeroValue3
 t4:=underlying4
 a4:=isAgg4
 z4:=sizeOf4
 v4:=zeroValue4 }
open Go.RowKit in
theorem Tryz.cmp_Compare_int (x y:Int)(w:World) :
 Calls Tryz.prog 198 #[.int .i64 x,.int .i64 y] w fun e w'=>e=.returned (.int .i64 (Lib.compareInt x y))∧w'=w:=Any.cmp_Compare_int Tryz.lays122 x y w
def Tryz.lays283_ren:Go.Shelf.Ren:=⟨fun|283=>176|n=>n,fun|3=>3|9=>9|4=>4|n=>n,fun|n=>n⟩
theorem Tryz.lays283:Go.Proofs.Lays.n283 Tryz.prog Tryz.lays283_ren:={
 mixed:=by kernel_rfl
 f283:=func176.trans (congrArg some (by kernel_rfl))
 t3:=underlying3
 a3:=isAgg3
 z3:=sizeOf3
 v3:=zeroValue3
 t4:=underlying4
 a4:=isAgg4
 z4:=sizeOf4
 v4:=zeroValue4
 t9:=underlying9
 a9:=isAgg9
 z9:=sizeOf9
 v9:=zeroValue9 }
open Go.Lib in
theorem Tryz.internal_strconv_small (i:Nat)(h:i<100)(w:World) :
 Calls Tryz.prog 176 #[.int .i64 i] w fun e w'=>e=.returned (.string ⟨(Lib.decDigits i).toArray⟩)∧w'=w:=Any.internal_strconv_small Tryz.lays283 i h w
def Tryz.laysM284_ren:Go.Shelf.Ren:=⟨fun|284=>177|129=>209|317=>208|318=>210|n=>n,fun|53=>110|3=>3|212=>237|0=>0|4=>4|46=>186|5=>5|9=>9|n=>n,fun|17=>2|n=>n⟩
theorem Tryz.laysM284:Go.Proofs.LaysM.n284 Tryz.prog Tryz.laysM284_ren:={
 mixed:=by kernel_rfl
 f129:=func209.trans (congrArg some (by kernel_rfl))
 f284:=func177.trans (congrArg some (by kernel_rfl))
 f317:=func208.trans (congrArg some (by kernel_rfl))
 f318:=func210.trans (congrArg some (by kernel_rfl))
 t0:=underlying0
 a0:=isAgg0
 z0:=sizeOf0
 v0:=zeroValue0
 t3:=underlying3
 a3:=isAgg3
 z3:=sizeOf3
 v3:=zeroValue3
 t4:=underlying4
 a4:=isAgg4
 z4:=sizeOf4
 v4:=zeroValue4
 t5:=underlying5
 a5:=isAgg5
 z5:=sizeOf5
 v5:=zeroValue5
 t9:=underlying9
 a9:=isAgg9
 z9:=sizeOf9
 v9:=zeroValue9
 t46:=underlying186
 a46:=isAgg186
 z46:=sizeOf186
 v46:=zeroValue186
 t53:=underlying110
 a53:=isAgg110
 z53:=sizeOf110
 v53:=zeroValue110
 t212:=underlying237
 a212:=isAgg237
 z212:=sizeOf237
 v212:=zeroValue237
 g17:=by kernel_rfl
 i0:=by kernel_rfl
 i3:=by kernel_rfl
 i4:=by kernel_rfl
 i5:=by kernel_rfl
 i9:=by kernel_rfl
 i46:=by kernel_rfl
 i53:=by kernel_rfl
 i212:=by kernel_rfl
 m17:=by kernel_rfl }
open Go.Lib in
theorem Tryz.internal_strconv_numDigits (u:Nat)(h1:1≤u)(h2:u<18446744073709551616)(w:World)(htab:Lib.TabIs Tryz.prog w "internal/strconv.uint64pow10" .u64 Lib.pow10Tab) :
 Calls Tryz.prog 177 #[.int .u64 u] w fun e w'=>e=.returned (.int .i64 (Lib.nDigits u))∧w'=w:=Any.internal_strconv_numDigits Tryz.laysM284 u h1 h2 w htab
def Tryz.lays285_ren:Go.Shelf.Ren:=⟨fun|285=>178|n=>n,fun|37=>115|53=>110|3=>3|4=>4|51=>89|9=>9|5=>5|0=>0|n=>n,fun|n=>n⟩
theorem Tryz.lays285:Go.Proofs.Lays.n285 Tryz.prog Tryz.lays285_ren:={
 mixed:=by kernel_rfl
 f285:=func178.trans (congrArg some (by kernel_rfl))
 t0:=underlying0
 a0:=isAgg0
 z0:=sizeOf0
 v0:=zeroValue0
 t3:=underlying3
 a3:=isAgg3
 z3:=sizeOf3
 v3:=zeroValue3
 t4:=underlying4
 a4:=isAgg4
 z4:=sizeOf4
 v4:=zeroValue4
 t5:=underlying5
 a5:=isAgg5
 z5:=sizeOf5
 v5:=zeroValue5
 t9:=underlying9
 a9:=isAgg9
 z9:=sizeOf9
 v9:=zeroValue9
 t37:=underlying115
 a37:=isAgg115
 z37:=sizeOf115
 v37:=zeroValue115
 t51:=underlying89
 a51:=isAgg89
 z51:=sizeOf89
 v51:=zeroValue89
 t53:=underlying110
 a53:=isAgg110
 z53:=sizeOf110
 v53:=zeroValue110 }
open Go.RowKit Go.Sort Go.Lib in
theorem Tryz.internal_strconv_formatBase10 (blk off cap:Nat)(u:Nat)(d:Array UInt8)(w:World)(hH:Holds (fun(b:UInt8)=>Value.int .u8 (b.toNat:Int)) w blk off d)(hu:u<10^d.size)(hu64:u<18446744073709551616)(hsz:d.size<4611686018427387904) :
 Calls Tryz.prog 178 #[.slice (some ⟨blk,off,none⟩) d.size cap,.int .u64 u] w fun e w' =>
  e=.returned (.tuple #[])∧∃ (n v':Nat) (dk:Array UInt8),w'=(putRow (fun(b:UInt8)=>Value.int .u8 (b.toNat:Int)) w blk off dk).drewN n∧FmtInv d.size u 0 v' dk:=Any.internal_strconv_formatBase10 Tryz.lays285 blk off cap u d w hH hu hu64 hsz
def Tryz.laysM246_ren:Go.Shelf.Ren:=⟨fun|246=>149|283=>176|284=>177|285=>178|286=>179|129=>209|317=>208|318=>210|319=>211|320=>212|337=>230|338=>231|n=>n,fun|2=>2|3=>3|9=>9|4=>4|171=>211|0=>0|53=>110|37=>115|5=>5|173=>214|212=>237|51=>89|20=>20|213=>238|46=>186|232=>264|233=>265|n=>n,fun|17=>2|18=>5|19=>6|n=>n⟩
def Tryz.laysPu14_ren:Go.Shelf.Ren:=⟨fun|14=>241|16=>183|17=>156|19=>213|20=>214|21=>184|22=>185|23=>186|24=>187|25=>215|27=>217|26=>216|28=>232|29=>149|30=>176|31=>177|32=>178|33=>179|35=>209|34=>208|36=>210|37=>211|38=>212|39=>230|40=>231|n=>n,fun|9=>9|3=>3|22=>110|24=>170|25=>219|4=>4|34=>218|5=>5|36=>186|37=>115|0=>0|39=>221|21=>21|44=>243|47=>252|50=>255|48=>253|2=>2|52=>211|55=>214|59=>237|60=>89|20=>20|61=>238|65=>264|66=>265|67=>208|n=>n,fun|0=>3|1=>4|2=>2|3=>5|4=>6|n=>n⟩
theorem Tryz.laysPu14:Go.Proofs.LaysPu.n14 Tryz.prog Tryz.laysPu14_ren:={
 mixed:=by kernel_rfl
 f14:=func241.trans (congrArg some (by kernel_rfl))
 f16:=func183.trans (congrArg some (by kernel_rfl))
 f17:=func156.trans (congrArg some (by kernel_rfl))
 f19:=func213.trans (congrArg some (by kernel_rfl))
 f20:=func214.trans (congrArg some (by kernel_rfl))
 f21:=func184.trans (congrArg some (by kernel_rfl))
 f22:=func185.trans (congrArg some (by kernel_rfl))
 f23:=func186.trans (congrArg some (by kernel_rfl))
 f24:=func187.trans (congrArg some (by kernel_rfl))
 f25:=func215.trans (congrArg some (by kernel_rfl))
 f26:=func216.trans (congrArg some (by kernel_rfl))
 f27:=func217.trans (congrArg some (by kernel_rfl))
 f28:=func232.trans (congrArg some (by kernel_rfl))
 f29:=func149.trans (congrArg some (by kernel_rfl))
 f30:=func176.trans (congrArg some (by kernel_rfl))
 f31:=func177.trans (congrArg some (by kernel_rfl))
 f32:=func178.trans (congrArg some (by kernel_rfl))
 f33:=func179.trans (congrArg some (by kernel_rfl))
 f34:=func208.trans (congrArg some (by kernel_rfl))
 f35:=func209.trans (congrArg some (by kernel_rfl))
 f36:=func210.trans (congrArg some (by kernel_rfl))
 f37:=func211.trans (congrArg some (by kernel_rfl))
 f38:=func212.trans (congrArg some (by kernel_rfl))
 f39:=func230.trans (congrArg some (by kernel_rfl))
 f40:=func231.trans (congrArg some (by kernel_rfl))
 t0:=underlying0
 a0:=isAgg0
 z0:=sizeOf0
 v0:=zeroValue0
 i0:=by kernel_rfl
 t2:=underlying2
 a2:=isAgg2
 z2:=sizeOf2
 v2:=zeroValue2
 i2:=by kernel_rfl
 t3:=underlying3
 a3:=isAgg3
 z3:=sizeOf3
 v3:=zeroValue3
 i3:=by kernel_rfl
 t4:=underlying4
 a4:=isAgg4
 z4:=sizeOf4
 v4:=zeroValue4
 i4:=by kernel_rfl
 t5:=underlying5
 a5:=isAgg5
 z5:=sizeOf5
 v5:=zeroValue5
 i5:=by kernel_rfl
 t9:=underlying9
 a9:=isAgg9
 z9:=sizeOf9
 v9:=zeroValue9
 i9:=by kernel_rfl
 t20:=underlying20
 a20:=isAgg20
 z20:=sizeOf20
 v20:=zeroValue20
 i20:=by kernel_rfl
 t21:=underlying21
 a21:=isAgg21
 z21:=sizeOf21
 v21:=zeroValue21
 i21:=by kernel_rfl
 t22:=underlying110
 a22:=isAgg110
 z22:=sizeOf110
 v22:=zeroValue110
 i22:=by kernel_rfl
 t24:=underlying170
 a24:=isAgg170
 z24:=sizeOf170
 v24:=zeroValue170
 i24:=by kernel_rfl
 t25:=underlying219
 a25:=isAgg219
 z25:=sizeOf219
 v25:=zeroValue219
 i25:=by kernel_rfl
 t34:=underlying218
 a34:=isAgg218
 z34:=sizeOf218
 v34:=zeroValue218
 i34:=by kernel_rfl
 c34:=by kernel_rfl
 t36:=underlying186
 a36:=isAgg186
 z36:=sizeOf186
 v36:=zeroValue186
 i36:=by kernel_rfl
 t37:=underlying115
 a37:=isAgg115
 z37:=sizeOf115
 v37:=zeroValue115
 i37:=by kernel_rfl
 t39:=underlying221
 a39:=isAgg221
 z39:=sizeOf221
 v39:=zeroValue221
 i39:=by kernel_rfl
 t44:=underlying243
 a44:=isAgg243
 z44:=sizeOf243
 v44:=zeroValue243
 i44:=by kernel_rfl
 t47:=underlying252
 a47:=isAgg252
 z47:=sizeOf252
 v47:=zeroValue252
 i47:=by kernel_rfl
 t48:=underlying253
 a48:=isAgg253
 z48:=sizeOf253
 v48:=zeroValue253
 i48:=by kernel_rfl
 t50:=underlying255
 a50:=isAgg255
 z50:=sizeOf255
 v50:=zeroValue255
 i50:=by kernel_rfl
 t52:=underlying211
 a52:=isAgg211
 z52:=sizeOf211
 v52:=zeroValue211
 i52:=by kernel_rfl
 t55:=underlying214
 a55:=isAgg214
 z55:=sizeOf214
 v55:=zeroValue214
 i55:=by kernel_rfl
 t59:=underlying237
 a59:=isAgg237
 z59:=sizeOf237
 v59:=zeroValue237
 i59:=by kernel_rfl
 t60:=underlying89
 a60:=isAgg89
 z60:=sizeOf89
 v60:=zeroValue89
 i60:=by kernel_rfl
 t61:=underlying238
 a61:=isAgg238
 z61:=sizeOf238
 t65:=underlying264
 a65:=isAgg264
 z65:=sizeOf264
 v65:=zeroValue264
 i65:=by kernel_rfl
 t66:=underlying265
 a66:=isAgg265
 z66:=sizeOf265
 v66:=zeroValue265
 i66:=by kernel_rfl
 t67:=underlying208
 a67:=isAgg208
 z67:=sizeOf208
 v67:=zeroValue208
 i67:=by kernel_rfl
 g0:=by kernel_rfl
 m0:=by kernel_rfl
 g1:=by kernel_rfl
 m1:=by kernel_rfl
 g2:=by kernel_rfl
 m2:=by kernel_rfl
 g3:=by kernel_rfl
 m3:=by kernel_rfl
 g4:=by kernel_rfl
 m4:=by kernel_rfl }
open Go.RowKit in
theorem Tryz.strconv_ParseUint_10_at64_ok (s:ByteArray)(hmax:s.size≤9223372036854775806)(u:Nat)(h:Lib.parseUintB 64 s.data.toList=.ok u)(w:World) :
 Calls Tryz.prog 241 #[.string s,.int .i64 10,.int .i64 64] w fun e w'=>e=.returned (.tuple #[.int .u64 u,.nilIface])∧(w'=w∨w'=Lib.bytesWorld w 5 s):=Any.strconv_ParseUint_10_at64_ok Tryz.laysPu14 s hmax u h w
def Tryz.laysM288_ren:Go.Shelf.Ren:=⟨fun|288=>188|283=>176|284=>177|285=>178|286=>179|129=>209|317=>208|318=>210|319=>211|320=>212|337=>230|338=>231|n=>n,fun|37=>115|53=>110|3=>3|4=>4|9=>9|171=>211|0=>0|173=>214|212=>237|51=>89|5=>5|20=>20|213=>238|46=>186|232=>264|233=>265|n=>n,fun|17=>2|18=>5|19=>6|n=>n⟩
theorem Tryz.laysM288:Go.Proofs.LaysM.n288 Tryz.prog Tryz.laysM288_ren:={
 mixed:=by kernel_rfl
 f129:=func209.trans (congrArg some (by kernel_rfl))
 f283:=func176.trans (congrArg some (by kernel_rfl))
 f284:=func177.trans (congrArg some (by kernel_rfl))
 f285:=func178.trans (congrArg some (by kernel_rfl))
 f286:=func179.trans (congrArg some (by kernel_rfl))
 f288:=func188.trans (congrArg some (by kernel_rfl))
 f317:=func208.trans (congrArg some (by kernel_rfl))
 f318:=func210.trans (congrArg some (by kernel_rfl))
 f319:=func211.trans (congrArg some (by kernel_rfl))
 f320:=func212.trans (congrArg some (by kernel_rfl))
 f337:=func230.trans (congrArg some (by kernel_rfl))
 f338:=func231.trans (congrArg some (by kernel_rfl))
 t0:=underlying0
 a0:=isAgg0
 z0:=sizeOf0
 v0:=zeroValue0
 t3:=underlying3
 a3:=isAgg3
 z3:=sizeOf3
 v3:=zeroValue3
 t4:=underlying4
 a4:=isAgg4
 z4:=sizeOf4
 v4:=zeroValue4
 t5:=underlying5
 a5:=isAgg5
 z5:=sizeOf5
 v5:=zeroValue5
 t9:=underlying9
 a9:=isAgg9
 z9:=sizeOf9
 v9:=zeroValue9
 t20:=underlying20
 a20:=isAgg20
 z20:=sizeOf20
 v20:=zeroValue20
 t37:=underlying115
 a37:=isAgg115
 z37:=sizeOf115
 v37:=zeroValue115
 t46:=underlying186
 a46:=isAgg186
 z46:=sizeOf186
 v46:=zeroValue186
 t51:=underlying89
 a51:=isAgg89
 z51:=sizeOf89
 v51:=zeroValue89
 t53:=underlying110
 a53:=isAgg110
 z53:=sizeOf110
 v53:=zeroValue110
 t171:=underlying211
 a171:=isAgg211
 z171:=sizeOf211
 v171:=zeroValue211
 t173:=underlying214
 a173:=isAgg214
 z173:=sizeOf214
 v173:=zeroValue214
 t212:=underlying237
 a212:=isAgg237
 z212:=sizeOf237
 v212:=zeroValue237
 t213:=underlying238
 a213:=isAgg238
 z213:=sizeOf238
 t232:=underlying264
 a232:=isAgg264
 z232:=sizeOf264
 v232:=zeroValue264
 t233:=underlying265
 a233:=isAgg265
 z233:=sizeOf265
 v233:=zeroValue265
 g17:=by kernel_rfl
 g18:=by kernel_rfl
 g19:=by kernel_rfl
 i0:=by kernel_rfl
 i3:=by kernel_rfl
 i4:=by kernel_rfl
 i5:=by kernel_rfl
 i9:=by kernel_rfl
 i20:=by kernel_rfl
 i37:=by kernel_rfl
 i46:=by kernel_rfl
 i51:=by kernel_rfl
 i53:=by kernel_rfl
 i171:=by kernel_rfl
 i173:=by kernel_rfl
 i212:=by kernel_rfl
 i232:=by kernel_rfl
 i233:=by kernel_rfl
 m17:=by kernel_rfl
 m18:=by kernel_rfl
 m19:=by kernel_rfl }
open Go.RowKit Go.Sort Go.Lib in
theorem Tryz.internal_strconv_AppendUint_10_small (B n u:Nat)(hu:u<100)(sv:Value)(xs:List Value)(w:World)(hown:w.ownsRow B 5 1 sv n xs)(hBw:B≤w.heap.size)(hlim:n+20≤140737488355328) :
 Calls Tryz.prog 188 #[sv,.int .u64 u,.int .i64 10] w fun e w'=>∃ v',e=.returned v'∧w'.ownsRow B 5 1 v' (n+(Lib.decDigits u).length) (xs++Lib.byteCells (Lib.decDigits u))∧Below B w w'∧Lib.OthersKept 5 none w w':=Any.internal_strconv_AppendUint_10_small Tryz.laysM288 B n u hu sv xs w hown hBw hlim
open Go.RowKit Go.Sort Go.Lib in
theorem Tryz.internal_strconv_AppendUint_10_big (B n u:Nat)(hu:100≤u)(hu64:u<18446744073709551616)(sv:Value)(xs:List Value)(w:World)(hown:w.ownsRow B 5 1 sv n xs)(hBw:B≤w.heap.size)(hlim:n+20≤140737488355328)(htab:Lib.TabIs Tryz.prog w "internal/strconv.uint64pow10" .u64 Lib.pow10Tab) :
 Calls Tryz.prog 188 #[sv,.int .u64 u,.int .i64 10] w fun e w'=>∃ v',e=.returned v'∧w'.ownsRow B 5 1 v' (n+(Lib.decDigits u).length) (xs++Lib.byteCells (Lib.decDigits u))∧Below B w w'∧Lib.OthersKept 5 none w w':=Any.internal_strconv_AppendUint_10_big Tryz.laysM288 B n u hu hu64 sv xs w hown hBw hlim htab
def Tryz.lays101_ren:Go.Shelf.Ren:=⟨fun|101=>166|208=>197|206=>182|n=>n,fun|9=>9|4=>4|3=>3|n=>n,fun|n=>n⟩
theorem Tryz.lays101:Go.Proofs.Lays.n101 Tryz.prog Tryz.lays101_ren:={
 mixed:=by kernel_rfl
 f101:=func166.trans (congrArg some (by kernel_rfl))
 f206:=func182.trans (congrArg some (by kernel_rfl))
 f208:=func197.trans (congrArg some (by kernel_rfl))
 t3:=underlying3
 a3:=isAgg3
 z3:=sizeOf3
 v3:=zeroValue3
 t4:=underlying4
 a4:=isAgg4
 z4:=sizeOf4
 v4:=zeroValue4
 t9:=underlying9
 a9:=isAgg9
 z9:=sizeOf9
 v9:=zeroValue9 }
open Go.RowKit Go.Lib in
theorem Tryz.strings_TrimPrefix (s p:ByteArray)(w:World) :
 Calls Tryz.prog 166 #[.string s,.string p] w fun e w'=>e=.returned (.string ⟨(Lib.trimPrefix s.data.toList p.data.toList).toArray⟩)∧w'=w:=Any.strings_TrimPrefix Tryz.lays101 s p w
end Go.Proofs
