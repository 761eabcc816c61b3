import Derived.Shelf.Small.Bits
import Derived.Shelf.Strconv.Atoi
import Derived.Shelf.Strconv.Itoa0
import Derived.Shelf.Strconv.Itoa1
import Derived.Shelf.LaysM
import Derived.Shelf.Strconv.Itoa2
import Derived.Shelf.Strconv.Itoa3
import Derived.Shelf.Sort.Plain
import Derived.Shelf.Slices.Equal
import Derived.Shelf.Slices.In.SortNone
import Derived.Shelf.Slices.Empties2
import Derived.Test.YtabandbigckfkaaGreatDoorProg
import Derived.Test.YtabandbigckfkaaGreatDoorQa15
import Derived.Shelf.Abstract
set_option maxHeartbeats 6400000
set_option maxRecDepth 100000
set_option linter.unusedSimpArgs false
set_option linter.unusedVariables false
namespace Go.Proofs
open Go.Shelf
def Tryz.lays172_ren:Go.Shelf.Ren:=⟨fun|172=>157|244=>225|245=>226|247=>262|279=>263|280=>264|281=>265|282=>266|287=>296|316=>297|171=>223|205=>298|321=>325|322=>326|243=>260|246=>294|283=>312|284=>313|285=>314|286=>315|129=>277|317=>329|318=>330|319=>331|320=>332|337=>337|338=>338|n=>n,fun|9=>9|3=>3|75=>216|76=>217|4=>4|5=>5|167=>297|37=>58|0=>0|85=>298|2=>2|168=>300|53=>312|175=>327|46=>74|210=>331|127=>358|145=>361|143=>359|21=>21|171=>347|173=>349|212=>367|51=>285|20=>20|213=>368|232=>372|233=>373|80=>191|n=>n,fun|15=>2|16=>3|17=>4|18=>5|19=>6|n=>n⟩
theorem Tryz.lays172:Go.Proofs.Lays.n172 Tryz.prog Tryz.lays172_ren:={
 mixed:=by kernel_rfl
 f129:=Tryz.func277.trans (congrArg some (by kernel_rfl))
 f171:=Tryz.func223.trans (congrArg some (by kernel_rfl))
 f172:=Tryz.func157.trans (congrArg some (by kernel_rfl))
 f205:=Tryz.func298.trans (congrArg some (by kernel_rfl))
 f243:=Tryz.func260.trans (congrArg some (by kernel_rfl))
 f244:=Tryz.func225.trans (congrArg some (by kernel_rfl))
 f245:=Tryz.func226.trans (congrArg some (by kernel_rfl))
 f246:=Tryz.func294.trans (congrArg some (by kernel_rfl))
 f247:=Tryz.func262.trans (congrArg some (by kernel_rfl))
 f279:=Tryz.func263.trans (congrArg some (by kernel_rfl))
 f280:=Tryz.func264.trans (congrArg some (by kernel_rfl))
 f281:=Tryz.func265.trans (congrArg some (by kernel_rfl))
 f282:=Tryz.func266.trans (congrArg some (by kernel_rfl))
 f283:=Tryz.func312.trans (congrArg some (by kernel_rfl))
 f284:=Tryz.func313.trans (congrArg some (by kernel_rfl))
 f285:=Tryz.func314.trans (congrArg some (by kernel_rfl))
 f286:=Tryz.func315.trans (congrArg some (by kernel_rfl))
 f287:=Tryz.func296.trans (congrArg some (by kernel_rfl))
 f316:=Tryz.func297.trans (congrArg some (by kernel_rfl))
 f317:=Tryz.func329.trans (congrArg some (by kernel_rfl))
 f318:=Tryz.func330.trans (congrArg some (by kernel_rfl))
 f319:=Tryz.func331.trans (congrArg some (by kernel_rfl))
 f320:=Tryz.func332.trans (congrArg some (by kernel_rfl))
 f321:=Tryz.func325.trans (congrArg some (by kernel_rfl))
 f322:=Tryz.func326.trans (congrArg some (by kernel_rfl))
 f337:=Tryz.func337.trans (congrArg some (by kernel_rfl))
 f338:=Tryz.func338.trans (congrArg some (by kernel_rfl))
 t0:=Tryz.underlying0
 a0:=Tryz.isAgg0
 z0:=Tryz.sizeOf0
 v0:=Tryz.zeroValue0
 t2:=Tryz.underlying2
 a2:=Tryz.isAgg2
 z2:=Tryz.sizeOf2
 v2:=Tryz.zeroValue2
 t3:=Tryz.underlying3
 a3:=Tryz.isAgg3
 z3:=Tryz.sizeOf3
 v3:=Tryz.zeroValue3
 t4:=Tryz.underlying4
 a4:=Tryz.isAgg4
 z4:=Tryz.sizeOf4
 v4:=Tryz.zeroValue4
 t5:=Tryz.underlying5
 a5:=Tryz.isAgg5
 z5:=Tryz.sizeOf5
 v5:=Tryz.zeroValue5
 t9:=Tryz.underlying9
 a9:=Tryz.isAgg9
 z9:=Tryz.sizeOf9
 v9:=Tryz.zeroValue9
 t20:=Tryz.underlying20
 a20:=Tryz.isAgg20
 z20:=Tryz.sizeOf20
 v20:=Tryz.zeroValue20
 t21:=Tryz.underlying21
 a21:=Tryz.isAgg21
 z21:=Tryz.sizeOf21
 v21:=Tryz.zeroValue21
 t37:=Tryz.underlying58
 a37:=Tryz.isAgg58
 z37:=Tryz.sizeOf58
 v37:=Tryz.zeroValue58
 t46:=Tryz.underlying74
 a46:=Tryz.isAgg74
 z46:=Tryz.sizeOf74
 v46:=Tryz.zeroValue74
 t51:=Tryz.underlying285
 a51:=Tryz.isAgg285
 z51:=Tryz.sizeOf285
 v51:=Tryz.zeroValue285
 t53:=Tryz.underlying312
 a53:=Tryz.isAgg312
 z53:=Tryz.sizeOf312
 v53:=Tryz.zeroValue312
 t75:=Tryz.underlying216
 a75:=Tryz.isAgg216
 z75:=Tryz.sizeOf216
 v75:=Tryz.zeroValue216
 t76:=Tryz.underlying217
 a76:=Tryz.isAgg217
 z76:=Tryz.sizeOf217
 v76:=Tryz.zeroValue217
 t85:=Tryz.underlying298
 a85:=Tryz.isAgg298
 z85:=Tryz.sizeOf298
 v85:=Tryz.zeroValue298
 t127:=Tryz.underlying358
 a127:=Tryz.isAgg358
 z127:=Tryz.sizeOf358
 v127:=Tryz.zeroValue358
 t143:=Tryz.underlying359
 a143:=Tryz.isAgg359
 z143:=Tryz.sizeOf359
 v143:=Tryz.zeroValue359
 t145:=Tryz.underlying361
 a145:=Tryz.isAgg361
 z145:=Tryz.sizeOf361
 v145:=Tryz.zeroValue361
 t167:=Tryz.underlying297
 a167:=Tryz.isAgg297
 z167:=Tryz.sizeOf297
 v167:=Tryz.zeroValue297
 t168:=Tryz.underlying300
 a168:=Tryz.isAgg300
 z168:=Tryz.sizeOf300
 v168:=Tryz.zeroValue300
 t171:=Tryz.underlying347
 a171:=Tryz.isAgg347
 z171:=Tryz.sizeOf347
 v171:=Tryz.zeroValue347
 t173:=Tryz.underlying349
 a173:=Tryz.isAgg349
 z173:=Tryz.sizeOf349
 v173:=Tryz.zeroValue349
 t175:=Tryz.underlying327
 a175:=Tryz.isAgg327
 z175:=Tryz.sizeOf327
 v175:=Tryz.zeroValue327
 t210:=Tryz.underlying331
 a210:=Tryz.isAgg331
 z210:=Tryz.sizeOf331
 v210:=Tryz.zeroValue331
 t212:=Tryz.underlying367
 a212:=Tryz.isAgg367
 z212:=Tryz.sizeOf367
 v212:=Tryz.zeroValue367
 t213:=Tryz.underlying368
 a213:=Tryz.isAgg368
 z213:=Tryz.sizeOf368
 t232:=Tryz.underlying372
 a232:=Tryz.isAgg372
 z232:=Tryz.sizeOf372
 v232:=Tryz.zeroValue372
 t233:=Tryz.underlying373
 a233:=Tryz.isAgg373
 z233:=Tryz.sizeOf373
 v233:=Tryz.zeroValue373
 g15:=by kernel_rfl
 g16:=by kernel_rfl
 g17:=by kernel_rfl
 g18:=by kernel_rfl
 g19:=by kernel_rfl}
open Go.RowKit in
theorem Tryz.strconv_Atoi(s:ByteArray)(n:Int)(hl:s.size≤18)(h:Lib.atoi s.data.toList=some n)(w:World):
 Calls Tryz.prog 157 #[.string s] w fun e w'=>e= .returned (.tuple #[.int .i64 n,.nilIface])∧∃t,w'=Lib.bytesWorld w 5 t:=Any.strconv_Atoi Tryz.lays172 s n hl h w
def Tryz.laysM171_ren:Go.Shelf.Ren:=⟨fun|171=>223|243=>260|246=>294|283=>312|284=>313|285=>314|286=>315|129=>277|317=>329|318=>330|319=>331|320=>332|337=>337|338=>338|n=>n,fun|3=>3|9=>9|2=>2|4=>4|171=>347|0=>0|53=>312|37=>58|5=>5|173=>349|212=>367|51=>285|20=>20|213=>368|46=>74|232=>372|233=>373|n=>n,fun|17=>4|18=>5|19=>6|n=>n⟩
theorem Tryz.laysM171:Go.Proofs.LaysM.n171 Tryz.prog Tryz.laysM171_ren:={
 mixed:=by kernel_rfl
 f129:=Tryz.func277.trans (congrArg some (by kernel_rfl))
 f171:=Tryz.func223.trans (congrArg some (by kernel_rfl))
 f243:=Tryz.func260.trans (congrArg some (by kernel_rfl))
 f246:=Tryz.func294.trans (congrArg some (by kernel_rfl))
 f283:=Tryz.func312.trans (congrArg some (by kernel_rfl))
 f284:=Tryz.func313.trans (congrArg some (by kernel_rfl))
 f285:=Tryz.func314.trans (congrArg some (by kernel_rfl))
 f286:=Tryz.func315.trans (congrArg some (by kernel_rfl))
 f317:=Tryz.func329.trans (congrArg some (by kernel_rfl))
 f318:=Tryz.func330.trans (congrArg some (by kernel_rfl))
 f319:=Tryz.func331.trans (congrArg some (by kernel_rfl))
 f320:=Tryz.func332.trans (congrArg some (by kernel_rfl))
 f337:=Tryz.func337.trans (congrArg some (by kernel_rfl))
 f338:=Tryz.func338.trans (congrArg some (by kernel_rfl))
 t0:=Tryz.underlying0
 a0:=Tryz.isAgg0
 z0:=Tryz.sizeOf0
 v0:=Tryz.zeroValue0
 t2:=Tryz.underlying2
 a2:=Tryz.isAgg2
 z2:=Tryz.sizeOf2
 v2:=Tryz.zeroValue2
 t3:=Tryz.underlying3
 a3:=Tryz.isAgg3
 z3:=Tryz.sizeOf3
 v3:=Tryz.zeroValue3
 t4:=Tryz.underlying4
 a4:=Tryz.isAgg4
 z4:=Tryz.sizeOf4
 v4:=Tryz.zeroValue4
 t5:=Tryz.underlying5
 a5:=Tryz.isAgg5
 z5:=Tryz.sizeOf5
 v5:=Tryz.zeroValue5
 t9:=Tryz.underlying9
 a9:=Tryz.isAgg9
 z9:=Tryz.sizeOf9
 v9:=Tryz.zeroValue9
 t20:=Tryz.underlying20
 a20:=Tryz.isAgg20
 z20:=Tryz.sizeOf20
 v20:=Tryz.zeroValue20
 t37:=Tryz.underlying58
 a37:=Tryz.isAgg58
 z37:=Tryz.sizeOf58
 v37:=Tryz.zeroValue58
 t46:=Tryz.underlying74
 a46:=Tryz.isAgg74
 z46:=Tryz.sizeOf74
 v46:=Tryz.zeroValue74
 t51:=Tryz.underlying285
 a51:=Tryz.isAgg285
 z51:=Tryz.sizeOf285
 v51:=Tryz.zeroValue285
 t53:=Tryz.underlying312
 a53:=Tryz.isAgg312
 z53:=Tryz.sizeOf312
 v53:=Tryz.zeroValue312
 t171:=Tryz.underlying347
 a171:=Tryz.isAgg347
 z171:=Tryz.sizeOf347
 v171:=Tryz.zeroValue347
 t173:=Tryz.underlying349
 a173:=Tryz.isAgg349
 z173:=Tryz.sizeOf349
 v173:=Tryz.zeroValue349
 t212:=Tryz.underlying367
 a212:=Tryz.isAgg367
 z212:=Tryz.sizeOf367
 v212:=Tryz.zeroValue367
 t213:=Tryz.underlying368
 a213:=Tryz.isAgg368
 z213:=Tryz.sizeOf368
 t232:=Tryz.underlying372
 a232:=Tryz.isAgg372
 z232:=Tryz.sizeOf372
 v232:=Tryz.zeroValue372
 t233:=Tryz.underlying373
 a233:=Tryz.isAgg373
 z233:=Tryz.sizeOf373
 v233:=Tryz.zeroValue373
 g17:=by kernel_rfl
 g18:=by kernel_rfl
 g19:=by kernel_rfl
 i0:=by kernel_rfl
 i2:=by kernel_rfl
 i3:=by kernel_rfl
 i4:=by kernel_rfl
 i5:=by kernel_rfl
 i9:=by kernel_rfl
 i20:=by kernel_rfl
 i37:=by kernel_rfl
 i46:=by kernel_rfl
 i51:=by kernel_rfl
 i53:=by kernel_rfl
 i171:=by kernel_rfl
 i173:=by kernel_rfl
 i212:=by kernel_rfl
 i232:=by kernel_rfl
 i233:=by kernel_rfl
 m17:=by kernel_rfl
 m18:=by kernel_rfl
 m19:=by kernel_rfl}
open Go.RowKit Go.Sort Go.Lib in
theorem Tryz.strconv_Itoa(n:Int)(h0: -9223372036854775808≤n)(h1:n≤9223372036854775807)(w:World)(htab:Lib.TabIs Tryz.prog w "internal/strconv.uint64pow10" .u64 Lib.pow10Tab):
 Calls Tryz.prog 223 #[.int .i64 n] w fun e w'=>e= .returned (.string ⟨(Lib.itoa n).toArray⟩)∧∃k os,w'=grow (w.drewN k) os:=Any.strconv_Itoa Tryz.laysM171 n h0 h1 w htab
def Tryz.lays189_ren:Go.Shelf.Ren:=⟨fun|189=>158|125=>228|257=>227|128=>276|129=>277|294=>267|295=>268|296=>269|297=>270|298=>271|299=>272|216=>273|300=>274|301=>275|328=>299|329=>300|330=>301|331=>302|332=>303|215=>304|343=>327|n=>n,fun|28=>137|3=>3|46=>74|0=>0|51=>285|53=>312|4=>4|183=>305|182=>304|131=>134|5=>5|9=>9|218=>333|222=>187|228=>362|229=>249|n=>n,fun|n=>n⟩
theorem Tryz.lays189:Go.Proofs.Lays.n189 Tryz.prog Tryz.lays189_ren:={
 mixed:=by kernel_rfl
 f125:=Tryz.func228.trans (congrArg some (by kernel_rfl))
 f128:=Tryz.func276.trans (congrArg some (by kernel_rfl))
 f129:=Tryz.func277.trans (congrArg some (by kernel_rfl))
 f189:=Tryz.func158.trans (congrArg some (by kernel_rfl))
 f215:=Tryz.func304.trans (congrArg some (by kernel_rfl))
 f216:=Tryz.func273.trans (congrArg some (by kernel_rfl))
 f257:=Tryz.func227.trans (congrArg some (by kernel_rfl))
 f294:=Tryz.func267.trans (congrArg some (by kernel_rfl))
 f295:=Tryz.func268.trans (congrArg some (by kernel_rfl))
 f296:=Tryz.func269.trans (congrArg some (by kernel_rfl))
 f297:=Tryz.func270.trans (congrArg some (by kernel_rfl))
 f298:=Tryz.func271.trans (congrArg some (by kernel_rfl))
 f299:=Tryz.func272.trans (congrArg some (by kernel_rfl))
 f300:=Tryz.func274.trans (congrArg some (by kernel_rfl))
 f301:=Tryz.func275.trans (congrArg some (by kernel_rfl))
 f328:=Tryz.func299.trans (congrArg some (by kernel_rfl))
 f329:=Tryz.func300.trans (congrArg some (by kernel_rfl))
 f330:=Tryz.func301.trans (congrArg some (by kernel_rfl))
 f331:=Tryz.func302.trans (congrArg some (by kernel_rfl))
 f332:=Tryz.func303.trans (congrArg some (by kernel_rfl))
 f343:=Tryz.func327.trans (congrArg some (by kernel_rfl))
 t0:=Tryz.underlying0
 a0:=Tryz.isAgg0
 z0:=Tryz.sizeOf0
 v0:=Tryz.zeroValue0
 t3:=Tryz.underlying3
 a3:=Tryz.isAgg3
 z3:=Tryz.sizeOf3
 v3:=Tryz.zeroValue3
 t4:=Tryz.underlying4
 a4:=Tryz.isAgg4
 z4:=Tryz.sizeOf4
 v4:=Tryz.zeroValue4
 t5:=Tryz.underlying5
 a5:=Tryz.isAgg5
 z5:=Tryz.sizeOf5
 v5:=Tryz.zeroValue5
 t9:=Tryz.underlying9
 a9:=Tryz.isAgg9
 z9:=Tryz.sizeOf9
 v9:=Tryz.zeroValue9
 t28:=Tryz.underlying137
 a28:=Tryz.isAgg137
 z28:=Tryz.sizeOf137
 v28:=Tryz.zeroValue137
 t46:=Tryz.underlying74
 a46:=Tryz.isAgg74
 z46:=Tryz.sizeOf74
 v46:=Tryz.zeroValue74
 t51:=Tryz.underlying285
 a51:=Tryz.isAgg285
 z51:=Tryz.sizeOf285
 v51:=Tryz.zeroValue285
 t53:=Tryz.underlying312
 a53:=Tryz.isAgg312
 z53:=Tryz.sizeOf312
 v53:=Tryz.zeroValue312
 t131:=Tryz.underlying134
 a131:=Tryz.isAgg134
 z131:=Tryz.sizeOf134
 v131:=Tryz.zeroValue134
 t182:=Tryz.underlying304
 a182:=Tryz.isAgg304
 z182:=Tryz.sizeOf304
 v182:=Tryz.zeroValue304
 t183:=Tryz.underlying305
 a183:=Tryz.isAgg305
 z183:=Tryz.sizeOf305
 v183:=Tryz.zeroValue305
 t218:=Tryz.underlying333
 a218:=Tryz.isAgg333
 z218:=Tryz.sizeOf333
 v218:=Tryz.zeroValue333
 t222:=Tryz.underlying187
 a222:=Tryz.isAgg187
 z222:=Tryz.sizeOf187
 v222:=Tryz.zeroValue187
 t228:=Tryz.underlying362
 a228:=Tryz.isAgg362
 z228:=Tryz.sizeOf362
 v228:=Tryz.zeroValue362
 t229:=Tryz.underlying249
 a229:=Tryz.isAgg249
 z229:=Tryz.sizeOf249
 v229:=Tryz.zeroValue249}
open Go.Sort Go.RowKit in
theorem Tryz.slices_Sort_int(blk off cap:Nat)(zs:List Int)(w:World)(hH:Holds (Value.int .i64) w blk off zs.toArray)(hblk:blk<w.heap.size)(hsz:zs.length<4611686018427387904):
 Calls Tryz.prog 158 #[.slice (some ⟨blk,off,none⟩) zs.length cap] w fun e w'=>
  e= .returned (.tuple #[])∧∃n os,w'=grow (putRow (Value.int .i64) (Sort.ahead w n) blk off (zs.mergeSort fun x y=>decide (x≤y)).toArray) os:=Any.slices_Sort_int Tryz.lays189 blk off cap zs w hH hblk hsz
def Tryz.lays190_ren:Go.Shelf.Ren:=⟨fun|190=>261|125=>228|258=>295|128=>276|129=>277|302=>316|303=>317|304=>318|305=>319|306=>320|307=>321|308=>322|309=>323|310=>324|333=>333|329=>300|330=>301|334=>334|335=>335|336=>336|344=>339|n=>n,fun|31=>133|9=>9|3=>3|46=>74|0=>0|51=>285|53=>312|4=>4|183=>305|182=>304|131=>134|5=>5|218=>333|222=>187|228=>362|229=>249|n=>n,fun|n=>n⟩
theorem Tryz.lays190:Go.Proofs.Lays.n190 Tryz.prog Tryz.lays190_ren:={
 mixed:=by kernel_rfl
 f125:=Tryz.func228.trans (congrArg some (by kernel_rfl))
 f128:=Tryz.func276.trans (congrArg some (by kernel_rfl))
 f129:=Tryz.func277.trans (congrArg some (by kernel_rfl))
 f190:=Tryz.func261.trans (congrArg some (by kernel_rfl))
 f258:=Tryz.func295.trans (congrArg some (by kernel_rfl))
 f302:=Tryz.func316.trans (congrArg some (by kernel_rfl))
 f303:=Tryz.func317.trans (congrArg some (by kernel_rfl))
 f304:=Tryz.func318.trans (congrArg some (by kernel_rfl))
 f305:=Tryz.func319.trans (congrArg some (by kernel_rfl))
 f306:=Tryz.func320.trans (congrArg some (by kernel_rfl))
 f307:=Tryz.func321.trans (congrArg some (by kernel_rfl))
 f308:=Tryz.func322.trans (congrArg some (by kernel_rfl))
 f309:=Tryz.func323.trans (congrArg some (by kernel_rfl))
 f310:=Tryz.func324.trans (congrArg some (by kernel_rfl))
 f329:=Tryz.func300.trans (congrArg some (by kernel_rfl))
 f330:=Tryz.func301.trans (congrArg some (by kernel_rfl))
 f333:=Tryz.func333.trans (congrArg some (by kernel_rfl))
 f334:=Tryz.func334.trans (congrArg some (by kernel_rfl))
 f335:=Tryz.func335.trans (congrArg some (by kernel_rfl))
 f336:=Tryz.func336.trans (congrArg some (by kernel_rfl))
 f344:=Tryz.func339.trans (congrArg some (by kernel_rfl))
 t0:=Tryz.underlying0
 a0:=Tryz.isAgg0
 z0:=Tryz.sizeOf0
 v0:=Tryz.zeroValue0
 t3:=Tryz.underlying3
 a3:=Tryz.isAgg3
 z3:=Tryz.sizeOf3
 v3:=Tryz.zeroValue3
 t4:=Tryz.underlying4
 a4:=Tryz.isAgg4
 z4:=Tryz.sizeOf4
 v4:=Tryz.zeroValue4
 t5:=Tryz.underlying5
 a5:=Tryz.isAgg5
 z5:=Tryz.sizeOf5
 v5:=Tryz.zeroValue5
 t9:=Tryz.underlying9
 a9:=Tryz.isAgg9
 z9:=Tryz.sizeOf9
 v9:=Tryz.zeroValue9
 t31:=Tryz.underlying133
 a31:=Tryz.isAgg133
 z31:=Tryz.sizeOf133
 v31:=Tryz.zeroValue133
 t46:=Tryz.underlying74
 a46:=Tryz.isAgg74
 z46:=Tryz.sizeOf74
 v46:=Tryz.zeroValue74
 t51:=Tryz.underlying285
 a51:=Tryz.isAgg285
 z51:=Tryz.sizeOf285
 v51:=Tryz.zeroValue285
 t53:=Tryz.underlying312
 a53:=Tryz.isAgg312
 z53:=Tryz.sizeOf312
 v53:=Tryz.zeroValue312
 t131:=Tryz.underlying134
 a131:=Tryz.isAgg134
 z131:=Tryz.sizeOf134
 v131:=Tryz.zeroValue134
 t182:=Tryz.underlying304
 a182:=Tryz.isAgg304
 z182:=Tryz.sizeOf304
 v182:=Tryz.zeroValue304
 t183:=Tryz.underlying305
 a183:=Tryz.isAgg305
 z183:=Tryz.sizeOf305
 v183:=Tryz.zeroValue305
 t218:=Tryz.underlying333
 a218:=Tryz.isAgg333
 z218:=Tryz.sizeOf333
 v218:=Tryz.zeroValue333
 t222:=Tryz.underlying187
 a222:=Tryz.isAgg187
 z222:=Tryz.sizeOf187
 v222:=Tryz.zeroValue187
 t228:=Tryz.underlying362
 a228:=Tryz.isAgg362
 z228:=Tryz.sizeOf362
 v228:=Tryz.zeroValue362
 t229:=Tryz.underlying249
 a229:=Tryz.isAgg249
 z229:=Tryz.sizeOf249
 v229:=Tryz.zeroValue249}
open Go.Sort Go.RowKit in
theorem Tryz.slices_Sort_string(blk off cap:Nat)(ss:List (List UInt8))(w:World)(hH:Holds encStr w blk off ss.toArray)(hblk:blk<w.heap.size)(hsz:ss.length<4611686018427387904):
 Calls Tryz.prog 261 #[.slice (some ⟨blk,off,none⟩) ss.length cap] w fun e w'=>
  e= .returned (.tuple #[])∧∃n os,w'=grow (putRow encStr (Sort.ahead w n) blk off (ss.mergeSort fun x y=>decide (x≤y)).toArray) os:=Any.slices_Sort_string Tryz.lays190 blk off cap ss w hH hblk hsz
def Tryz.lays111_ren:Go.Shelf.Ren:=⟨fun|111=>117|n=>n,fun|28=>137|3=>3|4=>4|0=>0|n=>n,fun|n=>n⟩
theorem Tryz.lays111:Go.Proofs.Lays.n111 Tryz.prog Tryz.lays111_ren:={
 mixed:=by kernel_rfl
 f111:=Tryz.func117.trans (congrArg some (by kernel_rfl))
 t0:=Tryz.underlying0
 a0:=Tryz.isAgg0
 z0:=Tryz.sizeOf0
 v0:=Tryz.zeroValue0
 t3:=Tryz.underlying3
 a3:=Tryz.isAgg3
 z3:=Tryz.sizeOf3
 v3:=Tryz.zeroValue3
 t4:=Tryz.underlying4
 a4:=Tryz.isAgg4
 z4:=Tryz.sizeOf4
 v4:=Tryz.zeroValue4
 t28:=Tryz.underlying137
 a28:=Tryz.isAgg137
 z28:=Tryz.sizeOf137
 v28:=Tryz.zeroValue137}
open Go.RowKit Go.Lib in
theorem Tryz.slices_Equal_int(b1 o1 n c b2 o2 m d:Nat)(xs ys:List Int)(w:World)(hx:n≤xs.length)(hy:m≤ys.length)(hbig:n≤9223372036854775807)(hbig2:m≤9223372036854775807)(hc1:∀j,j<xs.length→w.cell? ⟨b1,o1+j,none⟩=some (.int .i64 (xs.getD j 0)))(hc2:∀j,j<ys.length→w.cell? ⟨b2,o2+j,none⟩=some (.int .i64 (ys.getD j 0))):
 Calls Tryz.prog 117 #[.slice (some ⟨b1,o1,none⟩) n c,.slice (some ⟨b2,o2,none⟩) m d] w fun e w'=>e= .returned (.bool (xs.take n==ys.take m))∧∃q,w'=w.drewN q:=Any.slices_Equal_int Tryz.lays111 b1 o1 n c b2 o2 m d xs ys w hx hy hbig hbig2 hc1 hc2
open Go.RowKit Go.Lib in
theorem Tryz.slices_Equal_int_empty(a1 a2:Option Addr)(c m d:Nat)(w:World)(hbig2:m≤9223372036854775807):
 Calls Tryz.prog 117 #[.slice a1 0 c,.slice a2 m d] w fun e w'=>e= .returned (.bool (decide (m=0)))∧w'=w:=Any.slices_Equal_int_empty Tryz.lays111 a1 a2 c m d w hbig2
open Go.RowKit Go.Sort in
theorem Tryz.slices_Sort_string_none(p:Option Addr)(cap:Nat)(w:World):
 Calls Tryz.prog 261 #[.slice p 0 cap] w fun e w'=>e= .returned (.tuple #[])∧w'=w:=Any.slices_Sort_string_none Tryz.lays190 p cap w
open Go.RowKit Go.Sort in
theorem Tryz.slices_Sort_int_none(p:Option Addr)(cap:Nat)(w:World):
 Calls Tryz.prog 158 #[.slice p 0 cap] w fun e w'=>e= .returned (.tuple #[])∧w'=w:=Any.slices_Sort_int_none Tryz.lays189 p cap w
open Go.RowKit Go.Lib in
theorem Tryz.slices_Equal_int_lens(a1 a2:Option Addr)(n c m d:Nat)(w:World)(hnm:n≠m):
 Calls Tryz.prog 117 #[.slice a1 n c,.slice a2 m d] w fun e w'=>e= .returned (.bool false)∧w'=w:=Any.slices_Equal_int_lens Tryz.lays111 a1 a2 n c m d w hnm
end Go.Proofs
namespace Go.Proofs.YtabandbigckfkaaGreatDoor
open Go.RowKit Go.Deep Go.Maps
theorem jgt:SortC Tryz.prog 261:=⟨Tryz.slices_Sort_string,Tryz.slices_Sort_string_none none 0⟩
theorem Z_own{w w0:World}{B:Nat}{v:Value}{l:List ByteArray}(h:OwnR 1 ETx 9 w0 w B v l):w.ownsRow B 9 1 v l.length (h.choose):=h.choose_spec.1
theorem jd5{w w':World}(h:w.grownBy w' none):Below w.heap.size w w':=(Below.refl w.heap.size w).grown h (Nat.le_refl _) (fun k hk=>by cases hk)
def mkK(x:ByteArray):Value:= .string x
def mkV(c:ByteArray×Int):Value:= .agg #[.string c.1,.int .i64 c.2]
theorem invK(key:Value)(z:Lit)(h:keyOf Tryz.prog 9 key=some z):∃x,key=mkK x:=by
 obtain⟨x,rfl,_⟩:=Maps.keyOf_str Tryz.underlying9 h;exact⟨ofL x,rfl⟩
theorem key_is{x:ByteArray}{z:Lit}(h:keyOf Tryz.prog 9 (.string x)=some z):z=kl x∧x.size≤maxLen:=by
 obtain⟨y,hy,rfl,hl⟩:=Maps.keyOf_str Tryz.underlying9 h;have:x=ofL y:=by
  have h1:Value.string x=Value.string (ofL y):=hy;injection h1
 subst this;refine⟨by unfold kl ofL;simp,?_⟩;show(ofL y).data.size≤_;unfold ofL;simpa using hl
theorem invV(v:Value)(y:DataW Unit×List MemPlace)(h:eR v=some y):∃c,v=mkV c:=by
 obtain⟨s,r,rfl,_⟩:=jld h;exact⟨(s,r),rfl⟩
theorem jgu(W:World)(p:Value)(m:Nat)(s:Kv.St)(r:Int)(h:EAt W p (some m) s):Calls Tryz.prog 224 #[p,.int .i64 r] W (KTx (Kv.since s r) W):=by
 have G:=zh h.good;have CE:=zh (jbn W p (some m) s h);obtain⟨D,hD,hI⟩:=show jbm Tryz.prog 9 W m s.l from h.map
 have HD:=zh hD;have HI:=zh hI;have HML:Hid (m<W.heap.size):=h.map.lt;clear h hD hI;go_enter Tryz.func224,Tryz.ntmps224;go_wp2_with(first|(go_at_call 222;(with_reducible refine CE.out.mono ?_);rintro e w1 ⟨rfl,hw⟩;subst hw)|(at_range;refine wpList_range_own _ rfl _ _ rfl _ _ (string_keyed Tryz.underlying9) Tryz.underlying121 eR m _ D rfl HD.out ?_;intro w0 hrg0 hg0 hs0;have RG0:=zh hrg0;have G0:=zh hg0;have S0:=zh hs0;clear hrg0 hg0 hs0;go_frame));have B0:=zh (jd5 G0.out);obtain⟨it,hit⟩:∃it,it=w1.heap.size:=⟨_,rfl⟩;rw[←hit]at RG0⊢;have HIT:=zh hit;have MS:=zh HI.out.size;clear hit;go_loopw [5] (fun v wr=>∃left cnt ks,wr.ranges Tryz.prog 9 eR m it s.l.length D left cnt∧jh1 wr w0.heap.size v ks∧Coll s.l r left ks∧ks.length+cnt≤s.l.length∧Below w1.heap.size w1 wr∧w0.heap.size≤wr.heap.size) (fun _ wr=>wr.rangeLeft m it)
 case atStart=>exact⟨_,_,[],RG0.out,OwnR.none_ _ _ _ _,Coll.start HI.out r,by rw[MS.out];simp,B0.out,Nat.le_refl _⟩
 case round=>
  obtain⟨left,cnt,ks,hrg,hown,hcoll,hlen,hbr,hsz⟩:=hrel;have RG:=zh hrg;have O:=zh hown;have CO:=zh hcoll;have LE:=zh hlen;have B:=zh hbr;have SZ:=zh hsz;clear hrg hown hcoll hlen hbr hsz;go_wp2_with(at_next;refine wpList_next_ranges _ rfl _ rfl 9 (string_keyed Tryz.underlying9) eR mkK mkV invK invV m it _ D left cnt rfl RG.out ?_ ?_)
  ·intro _ hl0
   have ES:=zh (CO.out.all hl0 G.out.rise s.rev);have LN:Hid (ks.length≤1000000):=by have:=LE.out;have:=G.out.len;show _≤_;omega
   have CS:=zh (jn9 jgt O.out LN.out);go_wp2_with(go_at_call 261;(with_reducible refine CS.out.mono ?_);rintro en w9 ⟨rfl,ho9,hg9⟩;have O9:=zh ho9;have G9:=zh hg9;clear ho9 hg9);go_ret;rw[ES.out]at O9;have B9:Below w1.heap.size w1 w9:=B.out.grown G9.out B.out.size (fun k hk=>by have:=(O.out.lt k hk).1;have:=S0.out;omega);exact⟨_,rfl,OwnR.lower O9.out (by have:=S0.out;omega),B9⟩
  ·intro x c1 c2 z y1 y2 wx cnt1 hk hl hv hat hrg1 hlt hg1 hs1 hen
   obtain⟨rfl,hkx⟩:=key_is hk;obtain⟨rfl,rfl⟩:y1=eD c1 c2∧y2=[]:=by
    have h1:=(Option.some.inj hv).symm;exact⟨congrArg Prod.fst h1,congrArg Prod.snd h1⟩
   obtain⟨e,he,e3,e4⟩:=HI.out.entry hat;subst e3 e4;have RG1:=zh hrg1;have HS1:=zh hs1;have B1:=zh (B.out.grown hg1 B.out.size (fun k hk=>by injection hk with hk;have:=HIT.out;omega))
   have HLT:=zh hlt;have HL:=zh hl;have hen2:(Instr.entry (.pointer (some ⟨it,0,none⟩))).run Tryz.prog wx= .ok (.tuple #[.string x,.agg #[.string e.val,.int .i64 e.rev]]) wx:=hen;have CO1:=zh (CO.out.step hl he);have hne:some it≠u5.ownBlock:=row_ne_iter (Z_own O.out) RG.out;have O1:=zh (jh1.any (w1:=wx) (O.out.kept hg1 (fun e=>hne e.symm)));have S1:Hid (w0.heap.size≤wx.heap.size):=by have:=SZ.out;show _≤_;omega
   have BN:=zh ((Below.refl wx.heap.size wx).alloc (Nat.le_refl _) (.cells #[.string e.val,.int .i64 e.rev] 273));have RN:=zh (heap_alloc_new wx (.cells #[.string e.val,.int .i64 e.rev] 273));have RG2:=zh (hrg1.alloc (.cells #[.string e.val,.int .i64 e.rev] 273));have hw:wr.rangeLeft m it=cnt:=RG.out.left_eq;have HW:=zh hw;have LN:Hid (ks.length≤1000000):=by have:=LE.out;have:=G.out.len;show _≤_;omega
   clear hk hv hl hat hrg1 hlt hg1 hs1 hen hne hw;simp only[mkK,mkV];go_upto_region 5 with fail
   obtain⟨gn,hgn⟩:∃gn,gn=wx.heap.size:=⟨_,rfl⟩;rw[←hgn]at RN⊢;have O2:=zh (jh1.any (w1:=wx.alloc (.cells #[.string e.val,.int .i64 e.rev] 273)) (O1.out.below BN.out));have B2:=zh (B1.out.trans (BN.out.mono B1.out.size));have S2:=zh (Nat.le_trans S1.out BN.out.size);have en1:(wx.alloc (.cells #[.string e.val,.int .i64 e.rev] 273)).cell? ⟨gn,1,none⟩=some (.int .i64 e.rev):=by rw[cell_of_row _ gn 1 _ _ _ RN.out];rfl
   clear hgn BN RN hen2;generalize wx.alloc (.cells #[.string e.val,.int .i64 e.rev] 273)=wy at*;by_cases hr:r<e.rev
   ·rw[if_pos hr]at CO1
    go_wp2_with(at_builtin;refine jd4 rfl (.tmp 20) (.tmp 22) rfl w0.heap.size _ _ rfl O2.out x rfl LN.out S2.out ?_;intro v3 w3 ho3 hb3 hg3;have O3:=zh ho3;have B3:=zh hb3;have G3:=zh hg3;clear ho3 hb3 hg3);have RG3:=RG2.out.kept G3.out (fun e=>by have:=(O2.out.lt m e.symm).1;have:=HML.out;have:=S0.out;omega) (row_ne_iter (Z_own O2.out) RG2.out);exact⟨⟨_,_,_,RG3,O3.out,CO1.out,by have:=LE.out;have:=HLT.out;simp only[List.length_append,List.length_singleton];omega,B2.out.trans (B3.out.mono (by have:=S0.out;omega)),Nat.le_trans S2.out (G3.out.size)⟩,by rw[RG3.left_eq,HW.out];exact HLT.out⟩
   ·rw[if_neg hr]at CO1
    go_wp2_with fail;exact⟨⟨_,_,_,RG2.out,O2.out,CO1.out,by have:=LE.out;have:=HLT.out;omega,B2.out,S2.out⟩,by rw[RG2.out.left_eq,HW.out];exact HLT.out⟩
theorem jgv(W:World)(p:Value)(s:Kv.St)(r:Int)(h:EAt W p none s):Calls Tryz.prog 224 #[p,.int .i64 r] W (KTx [] W):=by
 have CE:=zh (jbn W p none s h);have hrg:=run_range_nilMap (P:=Tryz.prog) W _ _ _ Tryz.underlying121;have hnx:=fun ty=>run_next_nilMap (P:=Tryz.prog) W ty 0 0 #[];have B1:=zh ((Below.refl W.heap.size W).alloc (Nat.le_refl _) (.mapIter none 0 #[] 0));have CS:=zh (jgt.none_ (W.alloc (.mapIter none 0 #[] 0)));clear h;go_enter Tryz.func224,Tryz.ntmps224;go_wp2_with(go_at_call 222;(with_reducible refine CE.out.mono ?_);rintro e w1 ⟨rfl,hw⟩;subst hw);go_loopw [5] (fun v wr=>v= .slice none 0 0∧wr=w1.alloc (.mapIter none 0 #[] 0)) (fun _ _=>0)
 case atStart=>exact⟨rfl,rfl⟩
 case round=>
  obtain⟨rfl,rfl⟩:=hrel;go_wp2_with(go_at_call 261;(with_reducible refine CS.out.mono ?_);rintro en w9 ⟨rfl,hw⟩;have HW:=zh hw;clear hw);go_ret;exact⟨_,rfl,OwnR.none_ _ _ _ _,by rw[HW.out];exact B1.out⟩
theorem jh4(W:World)(p:Value)(mo:Option Nat)(s:Kv.St)(r:Int)(h:EAt W p mo s):Calls Tryz.prog 224 #[p,.int .i64 r] W (KTx (Kv.since s r) W):=by
 cases mo with
 |some m=>exact jgu W p m s r h
 |none=>
  have e:s.l=[]:=h.map;have:Kv.since s r=[]:=by unfold Kv.since;rw[e];rfl
  rw[this];exact jgv W p s r h
theorem jfh(W:World)(p:Value)(mo:Option Nat)(s:Kv.St)(h:EAt W p mo s):Calls Tryz.prog 156 #[p] W (KTx (Kv.keysOf s.l) W):=by
 have C:=zh (jh4 W p mo s 0 h);have E:=zh (Kv.since_zero h.good);rw[E.out]at C;clear h;go_enter Tryz.func156,Tryz.ntmps156;go_wp2_with(go_at_call 224;(with_reducible refine C.out.mono ?_);rintro e w1 ⟨v,rfl,ho,hb⟩;have O:=zh ho;have B:=zh hb;clear ho hb);go_ret;exact⟨_,rfl,O.out,B.out⟩
abbrev opV(o:Kv.Po):Value:= .agg #[.string o.key,.string o.val,.int .i64 o.rev,.bool o.drop]
namespace Kv
def badB(o:Po):Bool:=decide (o.key.size=0)|| (decide (64<o.key.size)|| decide (64<o.val.size))
def oddB(s:St)(o:Po):Bool:=decide (0≤o.rev)&& !decide (o.rev=revOf s.l o.key)
def lackB(s:St)(o:Po):Bool:=o.drop&& !(find s.l o.key).isSome
theorem badB_iff{o:Po}:badB o=true↔¬PoOk o:=by
 unfold badB PoOk;simp only[Bool.or_eq_true,decide_eq_true_eq];omega
theorem oddB_iff{s:St}{o:Po}:oddB s o=true↔Odd s o:=by
 unfold oddB Odd;simp
theorem lackB_iff{s:St}(hs:Good s){o:Po}:lackB s o=true↔Lacks s o:=by
 unfold lackB Lacks;rw[rev_zero hs]
 cases find s.l o.key<;>simp
end Kv
def FnB(g:Nat)(pre:Array Value)(p:Kv.Po→Bool)(w0:World)(l:List Kv.Po):Prop:=
 ∀W o,o∈l→Below w0.heap.size w0 W→Calls Tryz.prog g (pre.push (opV o)) W (fun e w'=>e= .returned (.bool (p o))∧Below W.heap.size W w')
theorem jh5(g:Nat)(pre:Array Value)(p:Kv.Po→Bool)(eg:∀args w,(callFunc g args).run Tryz.prog w= .ok (.enter g args) w)(l:List Kv.Po)(n c:Nat)(A:Option Addr)(w0 w:World)(h:SlP w0 A n c l)(hb0:Below w0.heap.size w0 w)(hp:FnB g pre p w l):
  Calls Tryz.prog 310 #[.slice A n c,.func (.func g) pre #[]] w (fun e w'=>∃i:Int,e= .returned (.int .i64 i)∧(0≤i↔l.any p=true)∧Below w.heap.size w w'):=by
 have hn:=h.len;have hmx:=h.max;have hcp:=h.cap;unfold maxLen at hmx;have HA:=zh h;have HN:=zh hn;have B0:=zh hb0;have HP:=zh hp;clear h hn hb0 hp;go_enter Tryz.func310,Tryz.ntmps310;go_wp2_with fail;go_loopw [5,8] (fun _ i wr=>∃j:Nat,j≤n∧i= .int .i64 j∧(∀o∈l.take j,p o=false)∧Below w.heap.size w wr) (fun _ i _=>n -(intOf i).toNat)
 case atStart=>exact⟨0,by omega,rfl,by simp,Below.refl _ _⟩
 case round=>
  obtain⟨j,hj,rfl,hok,hbr⟩:=hrel;have OK:=zh hok;have B:=zh hbr;have BB:=zh (B0.out.trans (hbr.mono B0.out.size));clear hok hbr;by_cases hlt:j<n
  ·obtain⟨b1,o1,rfl⟩:=HA.out.addr (by have:=HN.out;omega)
   have EA:Hid (l[j]? =some (l[j]'(by have:=HN.out;omega))):=List.getElem?_eq_getElem _;generalize l[j]'(by have:=HN.out;omega)=x at*;obtain⟨p0,p1,p2,p3⟩:=HA.out.po EA.out BB.out;have HM:Hid (x∈l):=List.mem_of_getElem? EA.out;have CC:=zh (HP.out _ x HM.out B.out)
   cases hq:p x with
   |true=>
    rw[hq]at CC;have HQ:=zh hq;clear hq;go_wp2_with(go_at_fn g;(with_reducible refine CC.out.mono ?_);rintro e w1 ⟨rfl,hb1⟩;have B1:=zh (B.out.trans (hb1.mono B.out.size));clear hb1);go_ret;refine⟨_,rfl,?_,B1.out⟩;rw[List.any_eq_true];exact⟨fun _=>⟨x,HM.out,HQ.out⟩,fun _=>by omega⟩
   |false=>
    rw[hq]at CC;have HQ:=zh hq;clear hq;go_wp2_with(go_at_fn g;(with_reducible refine CC.out.mono ?_);rintro e w1 ⟨rfl,hb1⟩;have B1:=zh (B.out.trans (hb1.mono B.out.size));clear hb1);refine⟨⟨j+1,by omega,by go_num,fun o ho=> ?_,B1.out⟩,by simp[intOf];omega⟩;rw[List.take_add_one,EA.out]at ho;rcases List.mem_append.1 ho with ho|ho
    ·exact OK.out o ho
    ·simp at ho;subst ho;exact HQ.out
  ·have E:Hid (l.take j=l):=List.take_of_length_le (by have:=HN.out;omega)
   rw[E.out]at OK;go_wp2_with fail;go_ret;refine⟨_,rfl,?_,B.out⟩;rw[List.any_eq_true];refine⟨fun h=>by omega,fun⟨o,ho,hp⟩=> ?_⟩;rw[OK.out o ho]at hp
   cases hp
theorem jca(g:Nat)(pre:Array Value)(p:Kv.Po→Bool)(eg:∀args w,(callFunc g args).run Tryz.prog w= .ok (.enter g args) w)(l:List Kv.Po)(n c:Nat)(A:Option Addr)(w0 w:World)(h:SlP w0 A n c l)(hb0:Below w0.heap.size w0 w)(hp:FnB g pre p w l):
  Calls Tryz.prog 288 #[.slice A n c,.func (.func g) pre #[]] w (fun e w'=>e= .returned (.bool (l.any p))∧Below w.heap.size w w'):=by
 have C:=zh (jh5 g pre p eg l n c A w0 w h hb0 hp);clear h hb0 hp eg;generalize l.any p=b at C⊢;go_enter Tryz.func288,Tryz.ntmps288;go_wp2_with(go_at_call 310;(with_reducible refine C.out.mono ?_);rintro e w1 ⟨i,rfl,hi,hb1⟩;have B1:=zh hb1;have HI:=zh hi;clear hb1 hi);go_ret;refine⟨?_,B1.out⟩
 cases b with
 |true=>
  have:0≤i:=HI.out.2 rfl;simp[this]
 |false=>
  have:¬0≤i:=fun h=>by have:=HI.out.1 h;cases this
  simp[this]
theorem jlj(W:World)(o:Kv.Po)(h1:o.key.size≤maxLen)(h2:o.val.size≤maxLen):Calls Tryz.prog 289 (#[].push (opV o)) W (fun e w'=>e= .returned (.bool (Kv.badB o))∧Below W.heap.size W w'):=by
 have B1:=zh ((Below.refl W.heap.size W).alloc (Nat.le_refl _) (.cells #[.string o.key,.string o.val,.int .i64 o.rev,.bool o.drop] 265));unfold maxLen at h1 h2;have hs1:(o.key.size:Int)≤9223372036854775807:=by omega
 have hs2:(o.val.size:Int)≤9223372036854775807:=by omega
 unfold opV Kv.badB;obtain⟨key,val,rev,drop⟩:=o;simp only at*;show Calls _ _ #[_] _ _;by_cases g1:key.size=0
 ·have hk:key=⟨#[]⟩:=ByteArray.ext (Array.eq_empty_of_size_eq_zero g1)
  subst hk;go_enter Tryz.func289,Tryz.ntmps289;go_wp2_with fail;go_ret;exact⟨rfl,B1.out⟩
 ·have hk:key.toList.isEmpty=false:=by
   rw[Bool.eq_false_iff];intro h;refine g1 ?_;have h1:key.toList=ByteArray.toList ⟨#[]⟩:=(List.isEmpty_iff.1 h).trans (by rw[ByteArray.toList_eq]);rw[Kv.teq.1 (beq_iff_eq.2 h1)];rfl
  by_cases g2:(64:Int)<key.size
  ·go_enter Tryz.func289,Tryz.ntmps289
   go_wp2_with fail;go_ret;refine⟨?_,B1.out⟩;show Ending.returned (.bool _)=Ending.returned (.bool _);refine congrArg (fun b=>Ending.returned (.bool b)) ?_;rw[Bool.eq_iff_iff];simp;omega
  ·go_enter Tryz.func289,Tryz.ntmps289
   go_wp2_with fail;go_ret;refine⟨?_,B1.out⟩;show Ending.returned (.bool _)=Ending.returned (.bool _);refine congrArg (fun b=>Ending.returned (.bool b)) ?_;rw[Bool.eq_iff_iff];simp;omega
open Go.WideMaps
def eU:Value→Option (DataW Unit×List MemPlace)
 | .agg ⟨[]⟩=>some (.agg [],[])
 |_=>none
theorem eU_mk:eU (.agg #[])=some (.agg [],[]):=rfl
def jcp(w:World)(b:Nat)(ks:List ByteArray):Prop:=
 ∃D n,w.ownsMap Tryz.prog 9 eU b n D∧n≤ks.length∧Tidy D∧(∀k:ByteArray,Maps.has D (kl k)=true↔k∈ks)∧Maps.size D≤ks.length∧(Maps.size D=ks.length↔ks.Pairwise fun a b=>a≠b)
theorem jcp.made(w:World):jcp (w.alloc (.map #[] 0)) w.heap.size []:=
 ⟨_,0,World.ownsMap_made w _ _ _,Nat.le_refl _,tidy_empty,fun k=>by simp[Maps.has],Nat.le_refl _,by simp[Maps.size]⟩
theorem jcp.lt{w:World}{b:Nat}{ks:List ByteArray}(h:jcp w b ks):b<w.heap.size:=by
 obtain⟨D,n,h1,_⟩:=h;exact h1.lt
theorem jcp.keep{w w':World}{b:Nat}{ks:List ByteArray}(h:jcp w b ks)(hb:w'.heap[b]? =w.heap[b]?):jcp w' b ks:=by
 obtain⟨D,n,⟨es,clock,h1,h2⟩,hd⟩:=h;exact⟨D,n,⟨es,clock,hb.trans h1,h2⟩,hd⟩
theorem jcp.on{w w':World}{b:Nat}{ks:List ByteArray}(h:jcp w b ks)(hb:Below w.heap.size w w'):jcp w' b ks:=h.keep (hb.block b h.lt)
theorem jcp.len{w:World}{b:Nat}{ks:List ByteArray}(h:jcp w b ks)(ty:TypeId):∃m:Nat,m≤ks.length∧(m=ks.length↔ks.Pairwise fun a b=>a≠b)∧(Builtin.len_ #[345] ty #[.map (some b)]).run Tryz.prog w= .ok (.int .i64 (m:Nat)) w:=by
 obtain⟨D,n,h1,_,_,_,h3,h4⟩:=h;exact⟨_,h3,h4,h1.len Tryz.underlying345 ty⟩
theorem jcp.put{w:World}{b:Nat}{ks:List ByteArray}(h:jcp w b ks)(hl:ks.length≤1000000)(k:ByteArray)(hs:k.size≤maxLen):
  ∃w',(Instr.mapUpdate 345 (.map (some b)) (.string k) (.agg #[])).run Tryz.prog w= .ok () w'∧jcp w' b (ks++[k])∧w.mapTurned w' b:=by
 obtain⟨D,n,h1,h2,ht,hh,h3,h4⟩:=h;obtain⟨w',hrun,h5,h6⟩:=h1.store (string_keyed Tryz.underlying9) Tryz.underlying345 (by unfold maxLen;omega) (keyOf_string_mk Tryz.underlying9 hs) eU_mk;refine⟨w',hrun,⟨_,_,h5,by simp;omega,ht.put (jc1 k) _,fun k'=> ?_,?_,?_⟩,h6⟩
 ·by_cases hk:k'=k
  ·subst hk
   have:=has_put_same ht.isMap (jc1 k') (DataW.agg (H:=Unit) []);exact⟨fun _=>by simp,fun _=>this⟩
  ·have:=has_put_other (D:=D) (k:=kl k) (k':=kl k') (fun e=>hk (jet e)) (DataW.agg (H:=Unit) [])
   rw[show Maps.has (D.put (Lit.string k.data.toList) (.agg [])) (kl k')=Maps.has D (kl k')from this,hh k'];simp[hk]
 ·have:=size_put (k:=kl k) ht (DataW.agg (H:=Unit) [])
  show Maps.size (D.put (kl k) _)≤_;rw[this,List.length_append,List.length_singleton];split<;>omega
 ·have:=size_put (k:=kl k) ht (DataW.agg (H:=Unit) [])
  show Maps.size (D.put (kl k) _)=_↔_;rw[this,List.length_append,List.length_singleton,List.pairwise_append];by_cases hk:k∈ks
  ·rw[if_pos ((hh k).2 hk)]
   exact⟨fun h=>by omega,fun h=>absurd rfl (h.2.2 k hk k (by simp))⟩
  ·rw[if_neg (fun h=>hk ((hh k).1 h))]
   refine⟨fun h=>⟨h4.1 (by omega),List.pairwise_singleton _ _,fun a ha b hb e=> ?_⟩,fun h=>by rw[h4.2 h.1]⟩;simp at hb;subst hb;subst e;exact hk ha
theorem jd6(w:World)(n:Nat)(t k e:TypeId)(ht:Tryz.prog.underlying t=some (.map k e)):(Instr.makeMap t (some (.int .i64 n))).run Tryz.prog w= .ok (.map (some w.heap.size)) (w.alloc (.map #[] 0)):=by
 simp[Instr.makeMap,run_underlying ht,asInt,go_sem]
theorem jex(l:List Kv.Po)(n c:Nat)(A:Option Addr)(w0 w:World)(h:SlP w0 A n c l)(hb0:Below w0.heap.size w0 w)(hz:l.length≤70):
  Calls Tryz.prog 290 #[.slice A n c] w (KBool (¬l.Pairwise fun a b=>a.key≠b.key) w):=by
 have hn:=h.len;have hmx:=h.max;have hcp:=h.cap;unfold maxLen at hmx;have HA:=zh h;have HN:=zh hn;have HZ:=zh hz;have B0:=zh hb0;have hmm:=jd6 w n 345 9 346 Tryz.underlying345;have S0:=zh (jcp.made w);have BM:=zh ((Below.refl w.heap.size w).alloc (Nat.le_refl _) (.map #[] 0));have LT:Hid (w.heap.size<(w.alloc (.map #[] 0)).heap.size):=S0.out.lt;clear h hn hb0 hz;go_enter Tryz.func290,Tryz.ntmps290;go_wp2_with fail;clear hmm;obtain⟨m,hm⟩:∃m,m=w.heap.size:=⟨_,rfl⟩;rw[←hm]at S0 LT⊢;have HM:=zh hm;clear hm;generalize w.alloc (.map #[] 0)=w1 at*;go_loopw [11] (fun i wr=>∃j:Nat,j≤n∧i= .int .i64 j∧jcp wr m ((l.take j).map (·.key))∧Below w.heap.size w wr) (fun i _=>n -(intOf i).toNat)
 case atStart=>exact⟨0,by omega,rfl,S0.out,BM.out⟩
 case round=>
  obtain⟨j,hj,rfl,hs,hbr⟩:=hrel;have SE:=zh hs;have B:=zh hbr;have BB:=zh (B0.out.trans (hbr.mono B0.out.size));clear hs hbr;by_cases hlt:j<n
  ·obtain⟨b1,o1,rfl⟩:=HA.out.addr (by have:=HN.out;omega)
   have EA:Hid (l[j]? =some (l[j]'(by have:=HN.out;omega))):=List.getElem?_eq_getElem _;generalize l[j]'(by have:=HN.out;omega)=x at*;obtain⟨p0,p1,p2,p3⟩:=HA.out.po EA.out BB.out;have KS:=zh (HA.out.poOk (List.mem_of_getElem? EA.out)).1;have ST:Hid ((l.take (j+1)).map (·.key)=(l.take j).map (·.key)++[x.key]):=by
    show _=_;rw[List.take_add_one,EA.out];simp
   have LL:Hid (((l.take j).map (·.key)).length≤1000000):=by
    show _≤_;rw[List.length_map,List.length_take];have:=HZ.out;omega
   generalize(l.take j).map (·.key)=ks at*;have BN:=zh ((Below.refl wr.heap.size wr).alloc (Nat.le_refl _) (.cells #[.string x.key,.string x.val,.int .i64 x.rev,.bool x.drop] 265));have S1:=zh (SE.out.on BN.out);obtain⟨wd,hrun,hs2,ht2⟩:=S1.out.put LL.out x.key KS.out;have S2:=zh hs2;have B2:=zh ((B.out.trans (BN.out.mono B.out.size)).grown ht2.grown (by have:=B.out.size;have:=BN.out.size;omega) (fun k hk=>by injection hk with hk;have:=HM.out;omega))
   clear hs2 ht2 BN S1;go_wp2_with fail;exact⟨⟨j+1,by omega,by go_num,by rw[ST.out];exact S2.out,B2.out⟩,by simp[intOf];omega⟩
  ·have E:Hid (l.take j=l):=List.take_of_length_le (by have:=HN.out;omega)
   rw[E.out]at SE;obtain⟨z,hz1,hz2,hz3⟩:=SE.out.len 3;rw[List.length_map]at hz1 hz2;have Z1:=zh hz1;have Z2:=zh hz2;clear hz1 hz2;go_wp2_with fail;go_ret;refine⟨⟨_,rfl,?_⟩,B.out⟩;rw[←List.pairwise_map,←Z2.out];have:=Z1.out;have:=HN.out;simp;omega
end Go.Proofs.YtabandbigckfkaaGreatDoor
namespace Go.Proofs.YtabandbigckfkaaGreatDoor
open Go.RowKit Go.Deep Go.Maps
theorem jlk(W:World)(p:Value)(mo:Option Nat)(s:Kv.St)(h:EAt W p mo s)(o:Kv.Po)(hk:o.key.size≤maxLen):Calls Tryz.prog 291 (#[p].push (opV o)) W (fun e w'=>e= .returned (.bool (Kv.oddB s o))∧Below W.heap.size W w'):=by
 have B1:=zh ((Below.refl W.heap.size W).alloc (Nat.le_refl _) (.cells #[.string o.key,.string o.val,.int .i64 o.rev,.bool o.drop] 265));have R1:=zh (heap_alloc_new W (.cells #[.string o.key,.string o.val,.int .i64 o.rev,.bool o.drop] 265));have C:=zh (jev _ p mo s (h.on B1.out) o.key hk);unfold KGet at C;unfold opV Kv.oddB;generalize Kv.valOf s.l o.key=v at*;generalize Kv.revOf s.l o.key=r at*;clear h hk;obtain⟨key,val,rev,drop⟩:=o;simp only at*;show Calls _ _ #[_,_] _ _;by_cases g0:0≤rev
 ·by_cases g1:rev=r
  ·have hee:(rev==r)=true:=by rw[beq_iff_eq];exact g1
   have G1:=zh g1;clear g1;go_enter Tryz.func291,Tryz.ntmps291;go_wp2_with(go_at_call 154;(with_reducible refine C.out.mono ?_);rintro e w1 ⟨rfl,hb1⟩;have RR:=zh ((hb1.block _ (Array.getElem?_eq_some_iff.1 R1.out).1).trans R1.out);have B2:=zh (B1.out.trans (hb1.mono B1.out.size));have c2:w1.cell? ⟨W.heap.size,2,none⟩=some (.int .i64 rev):=(by rw[cell_of_row w1 _ 2 _ _ _ RR.out];rfl);clear hb1);go_ret;exact⟨by simp[G1.out],B2.out⟩
  ·have hee:(rev==r)=false:=by rw[beq_eq_false_iff_ne];exact g1
   have G1:=zh g1;clear g1;go_enter Tryz.func291,Tryz.ntmps291;go_wp2_with(go_at_call 154;(with_reducible refine C.out.mono ?_);rintro e w1 ⟨rfl,hb1⟩;have RR:=zh ((hb1.block _ (Array.getElem?_eq_some_iff.1 R1.out).1).trans R1.out);have B2:=zh (B1.out.trans (hb1.mono B1.out.size));have c2:w1.cell? ⟨W.heap.size,2,none⟩=some (.int .i64 rev):=(by rw[cell_of_row w1 _ 2 _ _ _ RR.out];rfl);clear hb1);go_ret;exact⟨by simp[G1.out,g0],B2.out⟩
 ·go_enter Tryz.func291,Tryz.ntmps291
  go_wp2_with(go_at_call 154;(with_reducible refine C.out.mono ?_);rintro e w1 ⟨rfl,hb1⟩;have RR:=zh ((hb1.block _ (Array.getElem?_eq_some_iff.1 R1.out).1).trans R1.out);have B2:=zh (B1.out.trans (hb1.mono B1.out.size));have c2:w1.cell? ⟨W.heap.size,2,none⟩=some (.int .i64 rev):=(by rw[cell_of_row w1 _ 2 _ _ _ RR.out];rfl);clear hb1);go_ret;exact⟨by simp;intro h;omega,B2.out⟩
theorem jjo(W:World)(p:Value)(mo:Option Nat)(s:Kv.St)(h:EAt W p mo s)(o:Kv.Po)(hk:o.key.size≤maxLen):Calls Tryz.prog 292 (#[p].push (opV o)) W (fun e w'=>e= .returned (.bool (Kv.lackB s o))∧Below W.heap.size W w'):=by
 have B1:=zh ((Below.refl W.heap.size W).alloc (Nat.le_refl _) (.cells #[.string o.key,.string o.val,.int .i64 o.rev,.bool o.drop] 265));have C:=zh (jgq _ p mo s (h.on B1.out) o.key hk);unfold opV Kv.lackB;generalize(Kv.find s.l o.key).isSome=b at*;clear h hk;obtain⟨key,val,rev,drop⟩:=o;simp only at*;show Calls _ _ #[_,_] _ _
 cases drop with
 |true=>
  go_enter Tryz.func292,Tryz.ntmps292;go_wp2_with(go_at_call 311;(with_reducible refine C.out.mono ?_);rintro e w1 ⟨rfl,hb1⟩;have B2:=zh (B1.out.trans (hb1.mono B1.out.size));clear hb1);go_ret;exact⟨by simp,B2.out⟩
 |false=>
  go_enter Tryz.func292,Tryz.ntmps292;go_wp2_with fail;go_ret;exact⟨by simp,B1.out⟩
theorem bad_fn{w0 w:World}{n c:Nat}{A:Option Addr}{l:List Kv.Po}(h:SlP w0 A n c l):FnB 289 #[] Kv.badB w l:=
 fun W o ho _=>jlj W o (h.poOk ho).1 (h.poOk ho).2.1
theorem odd_fn{w0 w:World}{p:Value}{mo:Option Nat}{s:Kv.St}{n c:Nat}{A:Option Addr}{l:List Kv.Po}(h:SlP w0 A n c l)(hk:EAt w p mo s):FnB 291 #[p] (Kv.oddB s) w l:=
 fun W o ho hb=>jlk W p mo s (hk.on hb) o (h.poOk ho).1
theorem lack_fn{w0 w:World}{p:Value}{mo:Option Nat}{s:Kv.St}{n c:Nat}{A:Option Addr}{l:List Kv.Po}(h:SlP w0 A n c l)(hk:EAt w p mo s):FnB 292 #[p] (Kv.lackB s) w l:=
 fun W o ho hb=>jjo W p mo s (hk.on hb) o (h.poOk ho).1
namespace Kv
theorem step_size{r:Int}{l:List En}{o:Po}(hl:Rise l)(hd:o.drop=true→(find l o.key).isSome=true):((step r l o).length:Int)=l.length+(if o.drop then -1 else if(find l o.key).isSome then 0 else 1):=by
 have h1:=dropK_length hl o.key;unfold step
 cases h:o.drop with
 |true=>
  rw[hd h]at h1;simp only[if_true]at h1⊢;omega
 |false=>
  simp only[Bool.false_eq_true,if_false];rw[putK_length]
  cases h2:(find l o.key).isSome
  ·rw[h2]at h1;simp at h1⊢;omega
  ·rw[h2]at h1;simp at h1⊢;omega
end Kv
theorem jjp(w:World)(p:Value)(mo:Option Nat)(s:Kv.St)(l:List Kv.Po)(n c:Nat)(A:Option Addr)(w0:World)(hk:EAt w p mo s)(h:SlP w0 A n c l)(hb0:Below w0.heap.size w0 w)(hr:Kv.Right l)(hlk:∀o∈l,¬Kv.Lacks s o)(hz:l.length≤70):
  Calls Tryz.prog 293 #[p,.slice A n c] w (KInt ((Kv.after s l).l.length:Nat) w):=by
 have hn:=h.len;have hmx:=h.max;have hcp:=h.cap;unfold maxLen at hmx;have HA:=zh h;have HN:=zh hn;have HZ:=zh hz;have B0:=zh hb0;have HK:=zh hk;have RT:=zh hr;have GD:=zh hk.good;have NL:=zh hlk;have CL:=zh (jgr w p mo s hk);clear h hn hb0 hk hr hz hlk;go_enter Tryz.func293,Tryz.ntmps293;go_wp2_with(go_at_call 209;(with_reducible refine CL.out.mono ?_);rintro e w1 ⟨rfl,rfl⟩);go_loopw [5,12] (fun z i wr=>∃j:Nat,j≤n∧i= .int .i64 j∧z= .int .i64 (((l.take j).foldl (Kv.step (s.rev+1)) s.l).length:Nat)∧Below w1.heap.size w1 wr) (fun _ i _=>n -(intOf i).toNat)
 case atStart=>exact⟨0,by omega,rfl,rfl,Below.refl _ _⟩
 case round=>
  obtain⟨j,hj,rfl,rfl,hbr⟩:=hrel;have B:=zh hbr;have BB:=zh (B0.out.trans (hbr.mono B0.out.size));clear hbr;by_cases hlt:j<n
  ·obtain⟨b1,o1,rfl⟩:=HA.out.addr (by have:=HN.out;omega)
   have EA:Hid (l[j]? =some (l[j]'(by have:=HN.out;omega))):=List.getElem?_eq_getElem _;generalize l[j]'(by have:=HN.out;omega)=x at*;obtain⟨p0,p1,p2,p3⟩:=HA.out.po EA.out BB.out;have HM:Hid (x∈l):=List.mem_of_getElem? EA.out;have KS:=zh (HA.out.poOk HM.out).1;have BN:=zh ((Below.refl wr.heap.size wr).alloc (Nat.le_refl _) (.cells #[.string x.key,.string x.val,.int .i64 x.rev,.bool x.drop] 265));have B2:=zh (B.out.trans (BN.out.mono B.out.size));have CH:=zh (jgq _ p mo s (HK.out.on B2.out) x.key KS.out);have LS:Hid ((l.take (j+1)).foldl (Kv.step (s.rev+1)) s.l=Kv.step (s.rev+1) ((l.take j).foldl (Kv.step (s.rev+1)) s.l) x):=Kv.steps_snoc (s.rev+1) EA.out s.l;have FL:Hid (Kv.find ((l.take j).foldl (Kv.step (s.rev+1)) s.l) x.key=Kv.find s.l x.key):=Kv.find_steps_other fun o ho=>by
    obtain⟨i,hi⟩:=List.getElem?_of_mem ho;rw[List.getElem?_take]at hi;split at hi
    ·rename_i hij
     obtain⟨g1,e1⟩:=List.getElem?_eq_some_iff.1 hi;obtain⟨g2,e2⟩:=List.getElem?_eq_some_iff.1 EA.out;have:=List.pairwise_iff_getElem.1 RT.out.2.2 i j g1 g2 hij;rw[e1,e2]at this;exact this
    ·cases hi
   have SS:=zh (Kv.step_size (r:=s.rev+1) (o:=x) (Kv.steps_rise (r:=s.rev+1) (ops:=l.take j) GD.out.rise));have LB:=Kv.steps_length (s.rev+1) (l.take j) s.l;rw[List.length_take]at LB;have LG:=GD.out.len;have LZ:=HZ.out;have hlb:((l.take j).foldl (Kv.step (s.rev+1)) s.l).length≤200:=by omega
   clear LB LG LZ;rw[FL.out]at SS;generalize hLL:((l.take j).foldl (Kv.step (s.rev+1)) s.l).length=ln at*;rw[←LS.out]at SS;generalize hLN:((l.take (j+1)).foldl (Kv.step (s.rev+1)) s.l).length=lm at*;clear hLL;have HLN:=zh hLN;clear hLN;have LKS:Hid (x.drop=true→(Kv.find s.l x.key).isSome=true):=fun hd=>by
    have h1:=NL.out x HM.out;have h2:=Kv.rev_zero GD.out x.key
    cases hf:Kv.find s.l x.key with
    |some e=>rfl
    |none=>exact absurd ⟨hd,h2.2 hf⟩ h1
   generalize(Kv.find s.l x.key).isSome=z at*
   cases hd:x.drop with
   |true=>
    rw[hd]at p3 BN B2 CH;have SE:lm+1=ln:=by have:=SS.out LKS.out;rw[hd]at this;simp at this;omega
    have hsub:((ln:Int) -1)=((lm:Nat):Int):=by omega
    have HS:=zh hsub;clear SE hsub hd;go_wp2_with fail;exact⟨⟨j+1,by omega,by go_num,by rw[HLN.out];have:=HS.out;go_num,B2.out⟩,by simp[intOf];omega⟩
   |false=>
    rw[hd]at p3 BN B2 CH
    cases z with
    |true=>
     have SE:lm=ln:=by have:=SS.out (fun _=>rfl);rw[hd]at this;simp at this;omega
     have HS:=zh SE;clear SE hd;go_wp2_with(go_at_call 311;(with_reducible refine CH.out.mono ?_);rintro e w2 ⟨rfl,hb2⟩;have B3:=zh (B2.out.trans (hb2.mono B2.out.size));clear hb2);exact⟨⟨j+1,by omega,by go_num,by rw[HLN.out,HS.out],B3.out⟩,by simp[intOf];omega⟩
    |false=>
     have SE:lm=ln+1:=by have:=SS.out (fun h=>by rw[hd]at h;cases h);rw[hd]at this;simp at this;omega
     have HS:=zh SE;clear SE hd;go_wp2_with(go_at_call 311;(with_reducible refine CH.out.mono ?_);rintro e w2 ⟨rfl,hb2⟩;have B3:=zh (B2.out.trans (hb2.mono B2.out.size));clear hb2);exact⟨⟨j+1,by omega,by go_num,by rw[HLN.out,HS.out];go_num,B3.out⟩,by simp[intOf];omega⟩
  ·have E:Hid (l.take j=l):=List.take_of_length_le (by have:=HN.out;omega)
   rw[E.out];have AF:Hid ((Kv.after s l).l.length=(l.foldl (Kv.step (s.rev+1)) s.l).length):=rfl;generalize(l.foldl (Kv.step (s.rev+1)) s.l).length=ln at*;go_wp2_with fail;go_ret;exact⟨by rw[AF.out];rfl,B.out⟩
open Go.Shelf
theorem jll(w:World)(q oq:Nat)(cs:Array Value)(ty:TypeId)(mo:Option Nat)(s:Kv.St)(l:List Kv.Po)(n c:Nat)(A:Option Addr)(w0:World)(hk:KvIs w q oq cs ty mo s)(h:SlP w0 A n c l)(hb0:Below w0.heap.size w0 w)(hz:l.length≤70):
  Calls Tryz.prog 254 #[.pointer (some ⟨q,oq,none⟩),.slice A n c] w (KInt (Kv.doE s l:Nat) w):=by
 have hn:=h.len;have hmx:=h.max;have hcp:=h.cap;unfold maxLen at hmx;have HA:=zh h;have HN:=zh hn;have HZ:=zh hz;have B0:=zh hb0;have HK:=zh hk.ask;have GD:=zh hk.good;have B:=zh (Below.refl w.heap.size w);clear h hn hb0 hk hz;by_cases h0:n=0
 ·have NE:Hid (Kv.doE s l=1):=Kv.doE_right fun h=>by have:=h.1;have:=HN.out;omega
  subst h0;go_enter Tryz.func254,Tryz.ntmps254;go_wp2_with fail;go_ret;exact⟨by rw[NE.out];rfl,B.out⟩
 have hn0:((n:Int)==0)=false:=by rw[beq_eq_false_iff_ne];omega
 have CB:Hid (∀w1,Below w.heap.size w w1→Calls Tryz.prog 288 #[.slice A n c,.func (.func 289) #[] #[]] w1 (fun e w'=>e= .returned (.bool (l.any Kv.badB))∧Below w1.heap.size w1 w')):=fun w1 hb=>jca 289 #[] Kv.badB (enters_of Tryz.func289 (by kernel_rfl) rfl) l n c A w0 w1 HA.out (B0.out.trans (hb.mono B0.out.size)) (bad_fn HA.out)
 cases hbad:l.any Kv.badB with
 |true=>
  rw[hbad]at CB;have NE:Hid (Kv.doE s l=1):=Kv.doE_right fun h=>by
   obtain⟨o,ho,hb⟩:=List.any_eq_true.1 hbad;exact Kv.badB_iff.1 hb (h.2.1 o ho)
  clear hbad;go_enter Tryz.func254,Tryz.ntmps254
  go_wp2_with(first
    |(go_at_call 288;(with_reducible refine(CB.out _ B.out).mono ?_);rintro e w1 ⟨rfl,hb⟩;have B:=zh (B.out.trans (hb.mono B.out.size));clear hb))
  go_ret;exact⟨by rw[NE.out];rfl,B.out⟩
 |false=>
 rw[hbad]at CB;have OK:Hid (∀o∈l,Kv.PoOk o):=fun o ho=>by
  have h1:=List.any_eq_false.1 hbad o ho;exact Classical.byContradiction fun h2=>h1 (Kv.badB_iff.2 h2)
 clear hbad;by_cases hpw:l.Pairwise fun a b=>a.key≠b.key
 case neg=>
  have CT:Hid (∀w1,Below w.heap.size w w1→Calls Tryz.prog 290 #[.slice A n c] w1 (fun e w'=>e= .returned (.bool true)∧Below w1.heap.size w1 w')):=fun w1 hb=>(jex l n c A w0 w1 HA.out (B0.out.trans (hb.mono B0.out.size)) HZ.out).mono fun e w' ⟨⟨x,h1,h2⟩,h3⟩=>⟨by rw[h1,h2.2 hpw],h3⟩;have NE:Hid (Kv.doE s l=1):=Kv.doE_right fun h=>hpw h.2.2;clear hpw;go_enter Tryz.func254,Tryz.ntmps254
  go_wp2_with(first
    |(go_at_call 288;(with_reducible refine(CB.out _ B.out).mono ?_);rintro e w1 ⟨rfl,hb⟩;have B:=zh (B.out.trans (hb.mono B.out.size));clear hb)
    |(go_at_call 290;(with_reducible refine(CT.out _ B.out).mono ?_);rintro e w1 ⟨rfl,hb⟩;have B:=zh (B.out.trans (hb.mono B.out.size));clear hb))
  go_ret;exact⟨by rw[NE.out];rfl,B.out⟩
 have CT:Hid (∀w1,Below w.heap.size w w1→Calls Tryz.prog 290 #[.slice A n c] w1 (fun e w'=>e= .returned (.bool false)∧Below w1.heap.size w1 w')):=fun w1 hb=>(jex l n c A w0 w1 HA.out (B0.out.trans (hb.mono B0.out.size)) HZ.out).mono fun e w' ⟨⟨x,h1,h2⟩,h3⟩=>⟨by
   rw[h1]
   cases x with
   |false=>rfl
   |true=>exact absurd hpw (h2.1 rfl),h3⟩
 have RT:Hid (Kv.Right l):=⟨by have:=HN.out;omega,OK.out,hpw⟩;clear hpw;have CO:Hid (∀w1,Below w.heap.size w w1→Calls Tryz.prog 288 #[.slice A n c,.func (.func 291) #[.pointer (some ⟨q,oq,none⟩)] #[]] w1 (fun e w'=>e= .returned (.bool (l.any (Kv.oddB s)))∧Below w1.heap.size w1 w')):=fun w1 hb=>jca 291 #[.pointer (some ⟨q,oq,none⟩)] (Kv.oddB s) (enters_of Tryz.func291 (by kernel_rfl) rfl) l n c A w0 w1 HA.out (B0.out.trans (hb.mono B0.out.size)) (odd_fn HA.out (HK.out.on hb))
 cases hodd:l.any (Kv.oddB s)with
 |true=>
  rw[hodd]at CO;have NE:Hid (Kv.doE s l=7):=by
   obtain⟨o,ho,hb⟩:=List.any_eq_true.1 hodd;exact Kv.doE_odd RT.out ⟨o,ho,Kv.oddB_iff.1 hb⟩
  clear hodd;go_enter Tryz.func254,Tryz.ntmps254
  go_wp2_with(first
    |(go_at_call 288;(with_reducible refine(CB.out _ B.out).mono ?_);rintro e w1 ⟨rfl,hb⟩;have B:=zh (B.out.trans (hb.mono B.out.size));clear hb)
    |(go_at_call 290;(with_reducible refine(CT.out _ B.out).mono ?_);rintro e w1 ⟨rfl,hb⟩;have B:=zh (B.out.trans (hb.mono B.out.size));clear hb)
    |(go_at_call 288;(with_reducible refine(CO.out _ B.out).mono ?_);rintro e w1 ⟨rfl,hb⟩;have B:=zh (B.out.trans (hb.mono B.out.size));clear hb))
  go_ret;exact⟨by rw[NE.out];rfl,B.out⟩
 |false=>
 rw[hodd]at CO;have OD:Hid (∀o∈l,¬Kv.Odd s o):=fun o ho h=>List.any_eq_false.1 hodd o ho (Kv.oddB_iff.2 h);clear hodd;have CL:Hid (∀w1,Below w.heap.size w w1→Calls Tryz.prog 288 #[.slice A n c,.func (.func 292) #[.pointer (some ⟨q,oq,none⟩)] #[]] w1 (fun e w'=>e= .returned (.bool (l.any (Kv.lackB s)))∧Below w1.heap.size w1 w')):=fun w1 hb=>jca 292 #[.pointer (some ⟨q,oq,none⟩)] (Kv.lackB s) (enters_of Tryz.func292 (by kernel_rfl) rfl) l n c A w0 w1 HA.out (B0.out.trans (hb.mono B0.out.size)) (lack_fn HA.out (HK.out.on hb))
 cases hlk:l.any (Kv.lackB s)with
 |true=>
  rw[hlk]at CL;have NE:Hid (Kv.doE s l=5):=by
   obtain⟨o,ho,hb⟩:=List.any_eq_true.1 hlk;exact Kv.doE_lacks RT.out OD.out ⟨o,ho,(Kv.lackB_iff GD.out).1 hb⟩
  clear hlk;go_enter Tryz.func254,Tryz.ntmps254
  go_wp2_with(first
    |(go_at_call 288;(with_reducible refine(CB.out _ B.out).mono ?_);rintro e w1 ⟨rfl,hb⟩;have B:=zh (B.out.trans (hb.mono B.out.size));clear hb)
    |(go_at_call 290;(with_reducible refine(CT.out _ B.out).mono ?_);rintro e w1 ⟨rfl,hb⟩;have B:=zh (B.out.trans (hb.mono B.out.size));clear hb)
    |(go_at_call 288;(with_reducible refine(CO.out _ B.out).mono ?_);rintro e w1 ⟨rfl,hb⟩;have B:=zh (B.out.trans (hb.mono B.out.size));clear hb)
    |(go_at_call 288;(with_reducible refine(CL.out _ B.out).mono ?_);rintro e w1 ⟨rfl,hb⟩;have B:=zh (B.out.trans (hb.mono B.out.size));clear hb))
  go_ret;exact⟨by rw[NE.out];rfl,B.out⟩
 |false=>
 rw[hlk]at CL;have LK:Hid (∀o∈l,¬Kv.Lacks s o):=fun o ho h=>List.any_eq_false.1 hlk o ho ((Kv.lackB_iff GD.out).2 h);clear hlk;have CN:Hid (∀w1,Below w.heap.size w w1→Calls Tryz.prog 293 #[.pointer (some ⟨q,oq,none⟩),.slice A n c] w1 (KInt ((Kv.after s l).l.length:Nat) w1)):=fun w1 hb=>jjp w1 _ mo s l n c A w0 (HK.out.on hb) HA.out (B0.out.trans (hb.mono B0.out.size)) RT.out LK.out HZ.out;by_cases hf:64<(Kv.after s l).l.length
 ·have NE:Hid (Kv.doE s l=4):=Kv.doE_full RT.out OD.out LK.out hf
  generalize(Kv.after s l).l.length=ln at*;have hg:decide ((64:Int)<(ln:Nat))=true:=decide_eq_true (by omega);go_enter Tryz.func254,Tryz.ntmps254
  go_wp2_with(first
    |(go_at_call 288;(with_reducible refine(CB.out _ B.out).mono ?_);rintro e w1 ⟨rfl,hb⟩;have B:=zh (B.out.trans (hb.mono B.out.size));clear hb)
    |(go_at_call 290;(with_reducible refine(CT.out _ B.out).mono ?_);rintro e w1 ⟨rfl,hb⟩;have B:=zh (B.out.trans (hb.mono B.out.size));clear hb)
    |(go_at_call 288;(with_reducible refine(CO.out _ B.out).mono ?_);rintro e w1 ⟨rfl,hb⟩;have B:=zh (B.out.trans (hb.mono B.out.size));clear hb)
    |(go_at_call 288;(with_reducible refine(CL.out _ B.out).mono ?_);rintro e w1 ⟨rfl,hb⟩;have B:=zh (B.out.trans (hb.mono B.out.size));clear hb)
    |(go_at_call 293;(with_reducible refine(CN.out _ B.out).mono ?_);rintro e w1 ⟨rfl,hb⟩;have B:=zh (B.out.trans (hb.mono B.out.size));clear hb))
  go_ret;exact⟨by rw[NE.out];rfl,B.out⟩
 ·have NE:Hid (Kv.doE s l=0):=Kv.doE_ok RT.out OD.out LK.out hf
  generalize(Kv.after s l).l.length=ln at*;have hg:decide ((64:Int)<(ln:Nat))=false:=decide_eq_false (by omega);go_enter Tryz.func254,Tryz.ntmps254
  go_wp2_with(first
    |(go_at_call 288;(with_reducible refine(CB.out _ B.out).mono ?_);rintro e w1 ⟨rfl,hb⟩;have B:=zh (B.out.trans (hb.mono B.out.size));clear hb)
    |(go_at_call 290;(with_reducible refine(CT.out _ B.out).mono ?_);rintro e w1 ⟨rfl,hb⟩;have B:=zh (B.out.trans (hb.mono B.out.size));clear hb)
    |(go_at_call 288;(with_reducible refine(CO.out _ B.out).mono ?_);rintro e w1 ⟨rfl,hb⟩;have B:=zh (B.out.trans (hb.mono B.out.size));clear hb)
    |(go_at_call 288;(with_reducible refine(CL.out _ B.out).mono ?_);rintro e w1 ⟨rfl,hb⟩;have B:=zh (B.out.trans (hb.mono B.out.size));clear hb)
    |(go_at_call 293;(with_reducible refine(CN.out _ B.out).mono ?_);rintro e w1 ⟨rfl,hb⟩;have B:=zh (B.out.trans (hb.mono B.out.size));clear hb))
  go_ret;exact⟨by rw[NE.out];rfl,B.out⟩
end Go.Proofs.YtabandbigckfkaaGreatDoor
