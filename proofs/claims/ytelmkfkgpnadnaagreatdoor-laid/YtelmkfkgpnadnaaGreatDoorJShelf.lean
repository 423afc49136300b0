import Derived.Test.YtelmkfkgpnadnaaGreatDoorJPure
import Derived.Shelf.Strings.Builder1
import Derived.Shelf.Strings.Builder2
import Derived.Shelf.Small.Bits
import Derived.Shelf.Small.Strs
import Derived.Shelf.Small.Wraps
import Derived.Shelf.Strconv.Atoi
import Derived.Shelf.Strconv.Itoa0
import Derived.Shelf.LaysM
import Derived.Shelf.Strconv.Clone
import Derived.Shelf.Strings.Search1
import Derived.Shelf.Strings.Search2
import Derived.Shelf.Strings.Search3
import Derived.Shelf.Strings.Cut
import Derived.Shelf.Strings.Count
import Derived.Shelf.Strings.Shaped
import Derived.Shelf.Strings.Prefix
import Derived.Shelf.Strings.Split
import Derived.Shelf.Strings.SplitShaped
import Derived.Ground.SlgfProg
import Derived.Shelf.SlicesE.IndexFunc
import Derived.Ground.SlsfProg
import Derived.Shelf.SlSortCmp.Insertion
import Derived.Shelf.SlSortCmp.SiftDown1
import Derived.Shelf.SlSortCmp.HeapSort1
import Derived.Shelf.SlSortCmp.Insertion1
import Derived.Shelf.SlSortCmp.Median1
import Derived.Shelf.SlSortCmp.Pivot1
import Derived.Shelf.SlSortCmp.ReverseRange1
import Derived.Shelf.SlSortCmp.PartitionEqual1
import Derived.Test.YtelmkfkgpnadnaaGreatDoorProg
import Derived.Shelf.Unicode.DecodeSlow
import Derived.Shelf.SlSortCmp.PartialInsertion1
import Derived.Shelf.SlSortCmp.Partition1
import Derived.Shelf.SlSortCmp.Pdq1
import Derived.Shelf.SlSortCmp.Whole1
import Derived.Shelf.Strings.OnBuilder
import Derived.Shelf.SlSortCmp.WholeK
set_option linter.all false
open Go.Proofs.Tryz
namespace Go.Proofs
open Go.Shelf
def Tryz.lays213_ren:Go.Shelf.Ren:=⟨fun|213=>218|265=>275|n=>n,fun|9=>9|3=>3|n=>n,fun|n=>n⟩
def Tryz.lays106_ren:Go.Shelf.Ren:=⟨fun|106=>176|213=>218|265=>275|n=>n,fun|9=>9|3=>3|n=>n,fun|n=>n⟩
theorem Tryz.lays106:Go.Proofs.Lays.n106 prog Tryz.lays106_ren:={
 mixed:=by kernel_rfl
 f106:=func176.trans (congrArg some (by kernel_rfl))
 f213:=func218.trans (congrArg some (by kernel_rfl))
 f265:=func275.trans (congrArg some (by kernel_rfl))
 t3:=underlying3
 a3:=isAgg3
 z3:=sizeOf3
 v3:=zeroValue3
 t9:=underlying9
 a9:=isAgg9
 z9:=sizeOf9
 v9:=zeroValue9}
open Go.RowKit in
theorem Tryz.strings_Compare(a b:ByteArray)(w:World):
  Calls prog 176 #[.string a,.string b] w fun e w'=>e=.returned (.int .i64 (Lib.compareBytes a.data.toList b.data.toList))∧w'=w:=Any.strings_Compare Tryz.lays106 a b w
def Tryz.lays103_ren:Go.Shelf.Ren:=⟨fun|103=>197|210=>241|206=>290|n=>n,fun|9=>9|4=>4|24=>298|3=>3|n=>n,fun|n=>n⟩
theorem Tryz.lays103:Go.Proofs.Lays.n103 prog Tryz.lays103_ren:={
 mixed:=by kernel_rfl
 f103:=func197.trans (congrArg some (by kernel_rfl))
 f206:=func290.trans (congrArg some (by kernel_rfl))
 f210:=func241.trans (congrArg some (by kernel_rfl))
 t3:=underlying3
 a3:=isAgg3
 z3:=sizeOf3
 v3:=zeroValue3
 t4:=underlying4
 a4:=isAgg4
 z4:=sizeOf4
 v4:=zeroValue4
 t9:=underlying9
 a9:=isAgg9
 z9:=sizeOf9
 v9:=zeroValue9
 t24:=underlying298
 a24:=isAgg298
 z24:=sizeOf298
 v24:=zeroValue298}
open Go.RowKit in
theorem Tryz.strings_CutPrefix(s p:ByteArray)(w:World):
  Calls prog 197 #[.string s,.string p] w fun e w'=>e=.returned (.tuple #[.string ⟨(Lib.trimPrefix s.data.toList p.data.toList).toArray⟩,.bool (Lib.hasPrefix s.data.toList p.data.toList)])∧w'=w:=Any.strings_CutPrefix Tryz.lays103 s p w
def Tryz.lays215_ren:Go.Shelf.Ren:=⟨fun|215=>240|n=>n,fun|3=>3|4=>4|n=>n,fun|n=>n⟩
def Tryz.lays122_ren:Go.Shelf.Ren:=⟨fun|122=>196|215=>240|n=>n,fun|3=>3|4=>4|n=>n,fun|n=>n⟩
theorem Tryz.lays122:Go.Proofs.Lays.n122 prog Tryz.lays122_ren:={
 mixed:=by kernel_rfl
 f122:=func196.trans (congrArg some (by kernel_rfl))
 f215:=func240.trans (congrArg some (by kernel_rfl))
 t3:=underlying3
 a3:=isAgg3
 z3:=sizeOf3
 v3:=zeroValue3
 t4:=underlying4
 a4:=isAgg4
 z4:=sizeOf4
 v4:=zeroValue4}
open Go.RowKit in
theorem Tryz.cmp_Compare_int(x y:Int)(w:World):
  Calls prog 196 #[.int .i64 x,.int .i64 y] w fun e w'=>e=.returned (.int .i64 (Lib.compareInt x y))∧w'=w:=Any.cmp_Compare_int Tryz.lays122 x y w
def Tryz.lays172_ren:Go.Shelf.Ren:=⟨fun|172=>291|244=>314|245=>315|247=>333|279=>334|280=>335|281=>336|282=>337|287=>344|316=>200|171=>346|205=>345|321=>348|322=>349|243=>350|246=>358|283=>362|284=>363|285=>364|286=>365|129=>239|317=>367|318=>368|319=>369|320=>370|337=>371|338=>372|n=>n,fun|9=>9|3=>3|75=>225|76=>226|4=>4|5=>5|167=>414|37=>103|0=>0|85=>415|2=>2|168=>417|53=>337|175=>428|46=>296|210=>431|127=>230|145=>436|143=>434|21=>21|171=>444|173=>446|212=>450|51=>335|20=>20|213=>451|232=>452|233=>453|80=>117|n=>n,fun|15=>3|16=>4|17=>5|18=>6|19=>7|n=>n⟩
theorem Tryz.lays172:Go.Proofs.Lays.n172 prog Tryz.lays172_ren:={
 mixed:=by kernel_rfl
 f129:=func239.trans (congrArg some (by kernel_rfl))
 f171:=func346.trans (congrArg some (by kernel_rfl))
 f172:=func291.trans (congrArg some (by kernel_rfl))
 f205:=func345.trans (congrArg some (by kernel_rfl))
 f243:=func350.trans (congrArg some (by kernel_rfl))
 f244:=func314.trans (congrArg some (by kernel_rfl))
 f245:=func315.trans (congrArg some (by kernel_rfl))
 f246:=func358.trans (congrArg some (by kernel_rfl))
 f247:=func333.trans (congrArg some (by kernel_rfl))
 f279:=func334.trans (congrArg some (by kernel_rfl))
 f280:=func335.trans (congrArg some (by kernel_rfl))
 f281:=func336.trans (congrArg some (by kernel_rfl))
 f282:=func337.trans (congrArg some (by kernel_rfl))
 f283:=func362.trans (congrArg some (by kernel_rfl))
 f284:=func363.trans (congrArg some (by kernel_rfl))
 f285:=func364.trans (congrArg some (by kernel_rfl))
 f286:=func365.trans (congrArg some (by kernel_rfl))
 f287:=func344.trans (congrArg some (by kernel_rfl))
 f316:=func200.trans (congrArg some (by kernel_rfl))
 f317:=func367.trans (congrArg some (by kernel_rfl))
 f318:=func368.trans (congrArg some (by kernel_rfl))
 f319:=func369.trans (congrArg some (by kernel_rfl))
 f320:=func370.trans (congrArg some (by kernel_rfl))
 f321:=func348.trans (congrArg some (by kernel_rfl))
 f322:=func349.trans (congrArg some (by kernel_rfl))
 f337:=func371.trans (congrArg some (by kernel_rfl))
 f338:=func372.trans (congrArg some (by kernel_rfl))
 t0:=underlying0
 a0:=isAgg0
 z0:=sizeOf0
 v0:=zeroValue0
 t2:=underlying2
 a2:=isAgg2
 z2:=sizeOf2
 v2:=zeroValue2
 t3:=underlying3
 a3:=isAgg3
 z3:=sizeOf3
 v3:=zeroValue3
 t4:=underlying4
 a4:=isAgg4
 z4:=sizeOf4
 v4:=zeroValue4
 t5:=underlying5
 a5:=isAgg5
 z5:=sizeOf5
 v5:=zeroValue5
 t9:=underlying9
 a9:=isAgg9
 z9:=sizeOf9
 v9:=zeroValue9
 t20:=underlying20
 a20:=isAgg20
 z20:=sizeOf20
 v20:=zeroValue20
 t21:=underlying21
 a21:=isAgg21
 z21:=sizeOf21
 v21:=zeroValue21
 t37:=underlying103
 a37:=isAgg103
 z37:=sizeOf103
 v37:=zeroValue103
 t46:=underlying296
 a46:=isAgg296
 z46:=sizeOf296
 v46:=zeroValue296
 t51:=underlying335
 a51:=isAgg335
 z51:=sizeOf335
 v51:=zeroValue335
 t53:=underlying337
 a53:=isAgg337
 z53:=sizeOf337
 v53:=zeroValue337
 t75:=underlying225
 a75:=isAgg225
 z75:=sizeOf225
 v75:=zeroValue225
 t76:=underlying226
 a76:=isAgg226
 z76:=sizeOf226
 v76:=zeroValue226
 t85:=underlying415
 a85:=isAgg415
 z85:=sizeOf415
 v85:=zeroValue415
 t127:=underlying230
 a127:=isAgg230
 z127:=sizeOf230
 v127:=zeroValue230
 t143:=underlying434
 a143:=isAgg434
 z143:=sizeOf434
 v143:=zeroValue434
 t145:=underlying436
 a145:=isAgg436
 z145:=sizeOf436
 v145:=zeroValue436
 t167:=underlying414
 a167:=isAgg414
 z167:=sizeOf414
 v167:=zeroValue414
 t168:=underlying417
 a168:=isAgg417
 z168:=sizeOf417
 v168:=zeroValue417
 t171:=underlying444
 a171:=isAgg444
 z171:=sizeOf444
 v171:=zeroValue444
 t173:=underlying446
 a173:=isAgg446
 z173:=sizeOf446
 v173:=zeroValue446
 t175:=underlying428
 a175:=isAgg428
 z175:=sizeOf428
 v175:=zeroValue428
 t210:=underlying431
 a210:=isAgg431
 z210:=sizeOf431
 v210:=zeroValue431
 t212:=underlying450
 a212:=isAgg450
 z212:=sizeOf450
 v212:=zeroValue450
 t213:=underlying451
 a213:=isAgg451
 z213:=sizeOf451
 t232:=underlying452
 a232:=isAgg452
 z232:=sizeOf452
 v232:=zeroValue452
 t233:=underlying453
 a233:=isAgg453
 z233:=sizeOf453
 v233:=zeroValue453
 g15:=by kernel_rfl
 g16:=by kernel_rfl
 g17:=by kernel_rfl
 g18:=by kernel_rfl
 g19:=by kernel_rfl}
open Go.RowKit in
theorem Tryz.strconv_Atoi(s:ByteArray)(n:Int)(hl:s.size≤18)(h:Lib.atoi s.data.toList=some n)(w:World):
  Calls prog 291 #[.string s] w fun e w'=>e=.returned (.tuple #[.int .i64 n,.nilIface])∧∃t,w'=Lib.bytesWorld w 5 t:=Any.strconv_Atoi Tryz.lays172 s n hl h w
def Tryz.laysM316_ren:Go.Shelf.Ren:=⟨fun|316=>200|n=>n,fun|9=>9|3=>3|4=>4|37=>103|0=>0|127=>230|5=>5|n=>n,fun|n=>n⟩
theorem Tryz.laysM316:Go.Proofs.LaysM.n316 prog Tryz.laysM316_ren:={
 mixed:=by kernel_rfl
 f316:=func200.trans (congrArg some (by kernel_rfl))
 t0:=underlying0
 a0:=isAgg0
 z0:=sizeOf0
 v0:=zeroValue0
 t3:=underlying3
 a3:=isAgg3
 z3:=sizeOf3
 v3:=zeroValue3
 t4:=underlying4
 a4:=isAgg4
 z4:=sizeOf4
 v4:=zeroValue4
 t9:=underlying9
 a9:=isAgg9
 z9:=sizeOf9
 v9:=zeroValue9
 t37:=underlying103
 a37:=isAgg103
 z37:=sizeOf103
 v37:=zeroValue103
 t127:=underlying230
 a127:=isAgg230
 z127:=sizeOf230
 v127:=zeroValue230
 t5:=underlying5
 a5:=isAgg5
 z5:=sizeOf5
 v5:=zeroValue5
 i0:=by kernel_rfl
 i3:=by kernel_rfl
 i4:=by kernel_rfl
 i5:=by kernel_rfl
 i9:=by kernel_rfl
 i37:=by kernel_rfl
 i127:=by kernel_rfl}
open Go.RowKit in
theorem Tryz.stringslite_Clone(s:ByteArray)(w:World)(hlim:s.size≤281474976710656):
  Calls prog 200 #[.string s] w fun e w'=>e=.returned (.string s)∧Below w.heap.size w w':=Any.stringslite_Clone Tryz.laysM316 s w hlim
def Tryz.lays219_ren:Go.Shelf.Ren:=⟨fun|219=>272|217=>301|225=>302|224=>303|267=>304|266=>318|314=>319|n=>n,fun|9=>9|3=>3|4=>4|5=>5|46=>296|146=>403|51=>335|n=>n,fun|1=>0|n=>n⟩
def Tryz.lays145_ren:Go.Shelf.Ren:=⟨fun|145=>169|220=>214|219=>272|217=>301|225=>302|224=>303|267=>304|266=>318|314=>319|n=>n,fun|9=>9|4=>4|59=>270|3=>3|5=>5|46=>296|146=>403|51=>335|n=>n,fun|1=>0|n=>n⟩
theorem Tryz.lays145:Go.Proofs.Lays.n145 prog Tryz.lays145_ren:={
 mixed:=by kernel_rfl
 f145:=func169.trans (congrArg some (by kernel_rfl))
 f217:=func301.trans (congrArg some (by kernel_rfl))
 f219:=func272.trans (congrArg some (by kernel_rfl))
 f220:=func214.trans (congrArg some (by kernel_rfl))
 f224:=func303.trans (congrArg some (by kernel_rfl))
 f225:=func302.trans (congrArg some (by kernel_rfl))
 f266:=func318.trans (congrArg some (by kernel_rfl))
 f267:=func304.trans (congrArg some (by kernel_rfl))
 f314:=func319.trans (congrArg some (by kernel_rfl))
 t3:=underlying3
 a3:=isAgg3
 z3:=sizeOf3
 v3:=zeroValue3
 t4:=underlying4
 a4:=isAgg4
 z4:=sizeOf4
 v4:=zeroValue4
 t5:=underlying5
 a5:=isAgg5
 z5:=sizeOf5
 v5:=zeroValue5
 t9:=underlying9
 a9:=isAgg9
 z9:=sizeOf9
 v9:=zeroValue9
 t46:=underlying296
 a46:=isAgg296
 z46:=sizeOf296
 v46:=zeroValue296
 t51:=underlying335
 a51:=isAgg335
 z51:=sizeOf335
 v51:=zeroValue335
 t59:=underlying270
 a59:=isAgg270
 z59:=sizeOf270
 v59:=zeroValue270
 t146:=underlying403
 a146:=isAgg403
 z146:=sizeOf403
 v146:=zeroValue403
 g1:=by kernel_rfl}
open Go.RowKit Go.Lib in
theorem Tryz.strings_Cut(s sep:ByteArray)(m:Int)(w:World)(hs:s.size<4294967281)(hm:w.cell? ⟨0,0,none⟩=some (.int .i64 m)):
  Calls prog 169 #[.string s,.string sep] w fun e w'=>e=.returned (.tuple #[.string ⟨(Lib.cut s.data.toList sep.data.toList).1.toArray⟩,.string ⟨(Lib.cut s.data.toList sep.data.toList).2.1.toArray⟩,.bool (Lib.cut s.data.toList sep.data.toList).2.2])∧∃n,w'=w.drewN n:=Any.strings_Cut Tryz.lays145 s sep m w hs hm
def Tryz.lays221_ren:Go.Shelf.Ren:=⟨fun|221=>168|268=>211|138=>212|143=>213|195=>269|197=>270|218=>271|219=>272|260=>300|217=>301|225=>302|224=>303|267=>304|266=>318|314=>319|n=>n,fun|9=>9|3=>3|31=>33|4=>4|0=>0|105=>355|21=>21|5=>5|46=>296|119=>399|139=>402|138=>401|146=>403|51=>335|n=>n,fun|1=>0|3=>1|4=>2|n=>n⟩
def Tryz.lays146_ren:Go.Shelf.Ren:=⟨fun|146=>122|221=>168|268=>211|138=>212|143=>213|195=>269|197=>270|218=>271|219=>272|260=>300|217=>301|225=>302|224=>303|267=>304|266=>318|314=>319|n=>n,fun|9=>9|31=>33|3=>3|4=>4|0=>0|105=>355|21=>21|5=>5|46=>296|119=>399|139=>402|138=>401|146=>403|51=>335|n=>n,fun|1=>0|3=>1|4=>2|n=>n⟩
theorem Tryz.lays146:Go.Proofs.Lays.n146 prog Tryz.lays146_ren:={
 mixed:=by kernel_rfl
 f138:=func212.trans (congrArg some (by kernel_rfl))
 f143:=func213.trans (congrArg some (by kernel_rfl))
 f146:=func122.trans (congrArg some (by kernel_rfl))
 f195:=func269.trans (congrArg some (by kernel_rfl))
 f197:=func270.trans (congrArg some (by kernel_rfl))
 f217:=func301.trans (congrArg some (by kernel_rfl))
 f218:=func271.trans (congrArg some (by kernel_rfl))
 f219:=func272.trans (congrArg some (by kernel_rfl))
 f221:=func168.trans (congrArg some (by kernel_rfl))
 f224:=func303.trans (congrArg some (by kernel_rfl))
 f225:=func302.trans (congrArg some (by kernel_rfl))
 f260:=func300.trans (congrArg some (by kernel_rfl))
 f266:=func318.trans (congrArg some (by kernel_rfl))
 f267:=func304.trans (congrArg some (by kernel_rfl))
 f268:=func211.trans (congrArg some (by kernel_rfl))
 f314:=func319.trans (congrArg some (by kernel_rfl))
 t0:=underlying0
 a0:=isAgg0
 z0:=sizeOf0
 v0:=zeroValue0
 t3:=underlying3
 a3:=isAgg3
 z3:=sizeOf3
 v3:=zeroValue3
 t4:=underlying4
 a4:=isAgg4
 z4:=sizeOf4
 v4:=zeroValue4
 t5:=underlying5
 a5:=isAgg5
 z5:=sizeOf5
 v5:=zeroValue5
 t9:=underlying9
 a9:=isAgg9
 z9:=sizeOf9
 v9:=zeroValue9
 t21:=underlying21
 a21:=isAgg21
 z21:=sizeOf21
 v21:=zeroValue21
 t31:=underlying33
 a31:=isAgg33
 z31:=sizeOf33
 v31:=zeroValue33
 t46:=underlying296
 a46:=isAgg296
 z46:=sizeOf296
 v46:=zeroValue296
 t51:=underlying335
 a51:=isAgg335
 z51:=sizeOf335
 v51:=zeroValue335
 t105:=underlying355
 a105:=isAgg355
 z105:=sizeOf355
 v105:=zeroValue355
 t119:=underlying399
 a119:=isAgg399
 z119:=sizeOf399
 t138:=underlying401
 a138:=isAgg401
 z138:=sizeOf401
 v138:=zeroValue401
 t139:=underlying402
 a139:=isAgg402
 z139:=sizeOf402
 v139:=zeroValue402
 t146:=underlying403
 a146:=isAgg403
 z146:=sizeOf403
 v146:=zeroValue403
 g1:=by kernel_rfl
 g3:=by kernel_rfl
 g4:=by kernel_rfl}
open Go.RowKit Go.Lib in
theorem Tryz.strings_Split(s sep:ByteArray)(m:Int)(w:World)(hs:s.size<4294967281)(hm:w.cell? ⟨0,0,none⟩=some (.int .i64 m))(h1:1≤sep.size):
  Calls prog 122 #[.string s,.string sep] w fun e w'=>
   e=.returned (.slice (some ⟨w.heap.size,0,none⟩) (Lib.countB s sep+1) (Lib.countB s sep+1))∧w'=w.alloc (.cells ((Lib.splitB sep 0 (Lib.countB s sep) s).map Value.string).toArray 9):=Any.strings_Split Tryz.lays146 (by kernel_rfl) s sep m w hs hm h1
def Tryz.lays147_ren:Go.Shelf.Ren:=⟨fun|147=>189|221=>168|268=>211|138=>212|143=>213|195=>269|197=>270|218=>271|219=>272|260=>300|217=>301|225=>302|224=>303|267=>304|266=>318|314=>319|n=>n,fun|9=>9|3=>3|31=>33|4=>4|0=>0|105=>355|21=>21|5=>5|46=>296|119=>399|139=>402|138=>401|146=>403|51=>335|n=>n,fun|1=>0|3=>1|4=>2|n=>n⟩
theorem Tryz.lays147:Go.Proofs.Lays.n147 prog Tryz.lays147_ren:={
 mixed:=by kernel_rfl
 f138:=func212.trans (congrArg some (by kernel_rfl))
 f143:=func213.trans (congrArg some (by kernel_rfl))
 f147:=func189.trans (congrArg some (by kernel_rfl))
 f195:=func269.trans (congrArg some (by kernel_rfl))
 f197:=func270.trans (congrArg some (by kernel_rfl))
 f217:=func301.trans (congrArg some (by kernel_rfl))
 f218:=func271.trans (congrArg some (by kernel_rfl))
 f219:=func272.trans (congrArg some (by kernel_rfl))
 f221:=func168.trans (congrArg some (by kernel_rfl))
 f224:=func303.trans (congrArg some (by kernel_rfl))
 f225:=func302.trans (congrArg some (by kernel_rfl))
 f260:=func300.trans (congrArg some (by kernel_rfl))
 f266:=func318.trans (congrArg some (by kernel_rfl))
 f267:=func304.trans (congrArg some (by kernel_rfl))
 f268:=func211.trans (congrArg some (by kernel_rfl))
 f314:=func319.trans (congrArg some (by kernel_rfl))
 t0:=underlying0
 a0:=isAgg0
 z0:=sizeOf0
 v0:=zeroValue0
 t3:=underlying3
 a3:=isAgg3
 z3:=sizeOf3
 v3:=zeroValue3
 t4:=underlying4
 a4:=isAgg4
 z4:=sizeOf4
 v4:=zeroValue4
 t5:=underlying5
 a5:=isAgg5
 z5:=sizeOf5
 v5:=zeroValue5
 t9:=underlying9
 a9:=isAgg9
 z9:=sizeOf9
 v9:=zeroValue9
 t21:=underlying21
 a21:=isAgg21
 z21:=sizeOf21
 v21:=zeroValue21
 t31:=underlying33
 a31:=isAgg33
 z31:=sizeOf33
 v31:=zeroValue33
 t46:=underlying296
 a46:=isAgg296
 z46:=sizeOf296
 v46:=zeroValue296
 t51:=underlying335
 a51:=isAgg335
 z51:=sizeOf335
 v51:=zeroValue335
 t105:=underlying355
 a105:=isAgg355
 z105:=sizeOf355
 v105:=zeroValue355
 t119:=underlying399
 a119:=isAgg399
 z119:=sizeOf399
 t138:=underlying401
 a138:=isAgg401
 z138:=sizeOf401
 v138:=zeroValue401
 t139:=underlying402
 a139:=isAgg402
 z139:=sizeOf402
 v139:=zeroValue402
 t146:=underlying403
 a146:=isAgg403
 z146:=sizeOf403
 v146:=zeroValue403
 g1:=by kernel_rfl
 g3:=by kernel_rfl
 g4:=by kernel_rfl}
open Go.RowKit Go.Lib in
theorem Tryz.strings_SplitN(s sep:ByteArray)(n:Nat)(m:Int)(w:World)(hs:s.size<4294967281)(hm:w.cell? ⟨0,0,none⟩=some (.int .i64 m))(h1:1≤sep.size)(hn:1≤n)(RV:n≤9223372036854775807):
  Calls prog 189 #[.string s,.string sep,.int .i64 n] w fun e w'=>
   e=.returned (.slice (some ⟨w.heap.size,0,none⟩) (Lib.splitB sep 0 (min n (s.size+1)-1) s).length (min n (s.size+1)))∧w'=w.alloc (.cells (Lib.cellsOf (Lib.splitB sep 0 (min n (s.size+1)-1) s) (min n (s.size+1))) 9):=Any.strings_SplitN Tryz.lays147 (by kernel_rfl) s sep n m w hs hm h1 hn RV
def Tryz.laysM146_ren:Go.Shelf.Ren:=⟨fun|146=>122|221=>168|268=>211|138=>212|143=>213|195=>269|197=>270|218=>271|219=>272|260=>300|217=>301|225=>302|224=>303|267=>304|266=>318|314=>319|n=>n,fun|9=>9|31=>33|3=>3|4=>4|0=>0|105=>355|21=>21|5=>5|46=>296|119=>399|139=>402|138=>401|146=>403|51=>335|n=>n,fun|1=>0|3=>1|4=>2|n=>n⟩
theorem Tryz.laysM146:Go.Proofs.LaysM.n146 prog Tryz.laysM146_ren:={
 mixed:=by kernel_rfl
 f138:=func212.trans (congrArg some (by kernel_rfl))
 f143:=func213.trans (congrArg some (by kernel_rfl))
 f146:=func122.trans (congrArg some (by kernel_rfl))
 f195:=func269.trans (congrArg some (by kernel_rfl))
 f197:=func270.trans (congrArg some (by kernel_rfl))
 f217:=func301.trans (congrArg some (by kernel_rfl))
 f218:=func271.trans (congrArg some (by kernel_rfl))
 f219:=func272.trans (congrArg some (by kernel_rfl))
 f221:=func168.trans (congrArg some (by kernel_rfl))
 f224:=func303.trans (congrArg some (by kernel_rfl))
 f225:=func302.trans (congrArg some (by kernel_rfl))
 f260:=func300.trans (congrArg some (by kernel_rfl))
 f266:=func318.trans (congrArg some (by kernel_rfl))
 f267:=func304.trans (congrArg some (by kernel_rfl))
 f268:=func211.trans (congrArg some (by kernel_rfl))
 f314:=func319.trans (congrArg some (by kernel_rfl))
 t0:=underlying0
 a0:=isAgg0
 z0:=sizeOf0
 v0:=zeroValue0
 t3:=underlying3
 a3:=isAgg3
 z3:=sizeOf3
 v3:=zeroValue3
 t4:=underlying4
 a4:=isAgg4
 z4:=sizeOf4
 v4:=zeroValue4
 t5:=underlying5
 a5:=isAgg5
 z5:=sizeOf5
 v5:=zeroValue5
 t9:=underlying9
 a9:=isAgg9
 z9:=sizeOf9
 v9:=zeroValue9
 t21:=underlying21
 a21:=isAgg21
 z21:=sizeOf21
 v21:=zeroValue21
 t31:=underlying33
 a31:=isAgg33
 z31:=sizeOf33
 v31:=zeroValue33
 t46:=underlying296
 a46:=isAgg296
 z46:=sizeOf296
 v46:=zeroValue296
 t51:=underlying335
 a51:=isAgg335
 z51:=sizeOf335
 v51:=zeroValue335
 t105:=underlying355
 a105:=isAgg355
 z105:=sizeOf355
 v105:=zeroValue355
 t119:=underlying399
 a119:=isAgg399
 z119:=sizeOf399
 t138:=underlying401
 a138:=isAgg401
 z138:=sizeOf401
 v138:=zeroValue401
 t139:=underlying402
 a139:=isAgg402
 z139:=sizeOf402
 v139:=zeroValue402
 t146:=underlying403
 a146:=isAgg403
 z146:=sizeOf403
 v146:=zeroValue403
 g1:=by kernel_rfl
 g3:=by kernel_rfl
 g4:=by kernel_rfl
 i0:=by kernel_rfl
 i3:=by kernel_rfl
 i4:=by kernel_rfl
 i5:=by kernel_rfl
 i9:=by kernel_rfl
 i21:=by kernel_rfl
 i31:=by kernel_rfl
 i46:=by kernel_rfl
 i51:=by kernel_rfl
 i105:=by kernel_rfl
 i138:=by kernel_rfl
 i139:=by kernel_rfl
 i146:=by kernel_rfl
 m1:=by kernel_rfl
 s1_3:=fun w h=>Go.Proofs.cell_of_shapedOpen_int (zero:=#[.int .i64 0]) (t:=3) h (of_decide_eq_true (by kernel_rfl)) (by kernel_rfl) rfl (by kernel_rfl) (by kernel_rfl) underlying3
 m3:=by kernel_rfl
 m4:=by kernel_rfl}
def Tryz.laysSlH8_f190_ren:Go.Shelf.Ren:=⟨fun|8=>190|6=>225|n=>n,fun|22=>33|23=>9|25=>22|4=>4|3=>3|0=>0|n=>n,fun|n=>n⟩
theorem Tryz.laysSlH8_f190:Go.Proofs.SlLaysH.n8 prog Tryz.laysSlH8_f190_ren:={
 mixed:=by kernel_rfl
 f6:=⟨f225.name,by decide,func225.trans (congrArg some (by kernel_rfl))⟩
 f8:=⟨f190.name,by decide,func190.trans (congrArg some (by kernel_rfl))⟩
 t0:=underlying0
 a0:=isAgg0
 z0:=sizeOf0
 v0:=zeroValue0
 t3:=underlying3
 a3:=isAgg3
 z3:=sizeOf3
 v3:=zeroValue3
 t4:=underlying4
 a4:=isAgg4
 z4:=sizeOf4
 v4:=zeroValue4
 t22:=underlying33
 a22:=isAgg33
 z22:=sizeOf33
 v22:=zeroValue33
 a23:=isAgg9
 z23:=sizeOf9
 t25:=underlying22
 a25:=isAgg22
 z25:=sizeOf22
 v25:=zeroValue22}
open Go.RowKit Go.Lib in
theorem Tryz.slices_ContainsFunc{α:Type}[Inhabited α](enc:α→Value)(p:α→Bool)(g:Nat)(lb:Array Value)(eg:∀args w,(callFunc g args).run prog w=.ok (.enter g args) w)(b off n c:Nat)(zs:List α)(w:World)(hp:PredAt prog g lb enc p w)(hz:n≤zs.length)(RY:n≤9223372036854775807)(hc:∀j,j<zs.length→w.cell? ⟨b,off+j,none⟩=some (enc zs[j]!)):
  Calls prog 190 #[.slice (some ⟨b,off,none⟩) n c,.func (.func g) #[] lb] w fun e w'=>e=.returned (.bool ((zs.take n).any p))∧∃q,w'=w.drewN q:=AnyE.slices_ContainsFunc Tryz.laysSlH8_f190 enc p g lb eg b off n c zs w hp hz RY hc
end Go.Proofs
namespace Go.Proofs
open Go.Shelf
def Tryz.laysSlF6_f166_ren:Go.Shelf.Ren:=⟨fun|6=>166|15=>194|14=>209|28=>238|29=>239|20=>257|21=>258|22=>259|23=>260|24=>261|25=>262|26=>263|27=>264|46=>297|47=>286|48=>287|49=>298|50=>299|57=>317|n=>n,fun|22=>33|24=>9|25=>267|3=>3|39=>296|0=>0|53=>335|55=>337|4=>4|46=>329|45=>328|50=>278|5=>5|9=>9|66=>373|70=>377|76=>393|77=>394|n=>n,fun|n=>n⟩
theorem Tryz.laysSlF6_f166:Go.Proofs.SlLaysF.n6 prog Tryz.laysSlF6_f166_ren:={
 mixed:=by kernel_rfl
 f6:=⟨f166.name,by decide,func166.trans (congrArg some (by kernel_rfl))⟩
 f14:=⟨f209.name,by decide,func209.trans (congrArg some (by kernel_rfl))⟩
 f15:=func194.trans (congrArg some (by kernel_rfl))
 f20:=⟨f257.name,by decide,func257.trans (congrArg some (by kernel_rfl))⟩
 f21:=⟨f258.name,by decide,func258.trans (congrArg some (by kernel_rfl))⟩
 f22:=⟨f259.name,by decide,func259.trans (congrArg some (by kernel_rfl))⟩
 f23:=⟨f260.name,by decide,func260.trans (congrArg some (by kernel_rfl))⟩
 f24:=⟨f261.name,by decide,func261.trans (congrArg some (by kernel_rfl))⟩
 f25:=⟨f262.name,by decide,func262.trans (congrArg some (by kernel_rfl))⟩
 f26:=⟨f263.name,by decide,func263.trans (congrArg some (by kernel_rfl))⟩
 f27:=⟨f264.name,by decide,func264.trans (congrArg some (by kernel_rfl))⟩
 f28:=func238.trans (congrArg some (by kernel_rfl))
 f29:=func239.trans (congrArg some (by kernel_rfl))
 f46:=⟨f297.name,by decide,func297.trans (congrArg some (by kernel_rfl))⟩
 f47:=func286.trans (congrArg some (by kernel_rfl))
 f48:=func287.trans (congrArg some (by kernel_rfl))
 f49:=⟨f298.name,by decide,func298.trans (congrArg some (by kernel_rfl))⟩
 f50:=⟨f299.name,by decide,func299.trans (congrArg some (by kernel_rfl))⟩
 f57:=⟨f317.name,by decide,func317.trans (congrArg some (by kernel_rfl))⟩
 t0:=underlying0
 a0:=isAgg0
 z0:=sizeOf0
 v0:=zeroValue0
 t3:=underlying3
 a3:=isAgg3
 z3:=sizeOf3
 v3:=zeroValue3
 t4:=underlying4
 a4:=isAgg4
 z4:=sizeOf4
 v4:=zeroValue4
 t5:=underlying5
 a5:=isAgg5
 z5:=sizeOf5
 v5:=zeroValue5
 t9:=underlying9
 a9:=isAgg9
 z9:=sizeOf9
 v9:=zeroValue9
 t22:=underlying33
 a22:=isAgg33
 z22:=sizeOf33
 v22:=zeroValue33
 a24:=isAgg9
 z24:=sizeOf9
 t25:=underlying267
 a25:=isAgg267
 z25:=sizeOf267
 v25:=zeroValue267
 t39:=underlying296
 a39:=isAgg296
 z39:=sizeOf296
 v39:=zeroValue296
 t45:=underlying328
 a45:=isAgg328
 z45:=sizeOf328
 v45:=zeroValue328
 t46:=underlying329
 a46:=isAgg329
 z46:=sizeOf329
 v46:=zeroValue329
 t50:=underlying278
 a50:=isAgg278
 z50:=sizeOf278
 v50:=zeroValue278
 t53:=underlying335
 a53:=isAgg335
 z53:=sizeOf335
 v53:=zeroValue335
 t55:=underlying337
 a55:=isAgg337
 z55:=sizeOf337
 v55:=zeroValue337
 t66:=underlying373
 a66:=isAgg373
 z66:=sizeOf373
 v66:=zeroValue373
 t70:=underlying377
 a70:=isAgg377
 z70:=sizeOf377
 v70:=zeroValue377
 t76:=underlying393
 a76:=isAgg393
 z76:=sizeOf393
 v76:=zeroValue393
 t77:=underlying394
 a77:=isAgg394
 z77:=sizeOf394
 v77:=zeroValue394}
open Go.RowKit Go.Lib Go.Sort in
theorem Tryz.slices_SortFunc{α:Type}[Inhabited α](enc:α→Value)(h1:OneCell enc)(cf:α→α→Int)(hO:SWO (ltOf cf))(g:Nat)(cb:Array Value)(blk off cap:Nat)(d:Array α)(w:World)(eg:∀args w,(callFunc g args).run prog w=.ok (.enter g args) w)(hcmp:CmpLays1 prog g cb enc cf blk off d.size w)(hH:Holds enc w blk off d)(hblk:blk<w.heap.size)(hsz:d.size<4611686018427387904):
  Calls prog 166 #[.slice (some ⟨blk,off,none⟩) d.size cap,.func (.func g) #[] cb] w fun e w'=>
   e=.returned (.tuple #[])∧∃d' n os,PermIn 0 d.size d d'∧SortedIn (ltOf cf) 0 d.size d'∧w'=sortWorld enc w blk off n d' os:=Any.slices_SortFunc Tryz.laysSlF6_f166 enc h1 cf hO g cb blk off cap d w eg hcmp hH hblk hsz
end Go.Proofs
namespace Go.Proofs
open Go.Shelf
def Tryz.ren3:Go.Shelf.Ren:=⟨fun|156=>132|165=>180|166=>131|167=>133|169=>89|240=>179|241=>221|276=>220|277=>278|n=>n,fun|0=>0|3=>3|4=>4|5=>5|9=>9|20=>20|31=>33|37=>103|70=>156|72=>158|75=>225|76=>226|80=>117|127=>230|164=>314|n=>n,fun|n=>n⟩
theorem Tryz.lays3_156:Go.Proofs.Lays.n156 prog Tryz.ren3:={
 mixed:=by kernel_rfl
 f156:=func132.trans (congrArg some (by kernel_rfl))
 f165:=func180.trans (congrArg some (by kernel_rfl))
 f166:=func131.trans (congrArg some (by kernel_rfl))
 f169:=func89.trans (congrArg some (by kernel_rfl))
 f240:=func179.trans (congrArg some (by kernel_rfl))
 f241:=func221.trans (congrArg some (by kernel_rfl))
 f276:=func220.trans (congrArg some (by kernel_rfl))
 f277:=func278.trans (congrArg some (by kernel_rfl))
 t0:=underlying0
 a0:=isAgg0
 z0:=sizeOf0
 v0:=zeroValue0
 t3:=underlying3
 a3:=isAgg3
 z3:=sizeOf3
 v3:=zeroValue3
 t4:=underlying4
 a4:=isAgg4
 z4:=sizeOf4
 v4:=zeroValue4
 t9:=underlying9
 a9:=isAgg9
 z9:=sizeOf9
 v9:=zeroValue9
 t20:=underlying20
 a20:=isAgg20
 z20:=sizeOf20
 v20:=zeroValue20
 t31:=underlying33
 a31:=isAgg33
 z31:=sizeOf33
 v31:=zeroValue33
 t37:=underlying103
 a37:=isAgg103
 z37:=sizeOf103
 v37:=zeroValue103
 t70:=underlying156
 a70:=isAgg156
 z70:=sizeOf156
 v70:=zeroValue156
 t72:=underlying158
 a72:=isAgg158
 z72:=sizeOf158
 v72:=zeroValue158
 t75:=underlying225
 a75:=isAgg225
 z75:=sizeOf225
 v75:=zeroValue225
 t76:=underlying226
 a76:=isAgg226
 z76:=sizeOf226
 v76:=zeroValue226
 t127:=underlying230
 a127:=isAgg230
 z127:=sizeOf230
 v127:=zeroValue230
 t164:=underlying314
 a164:=isAgg314
 z164:=sizeOf314
 v164:=zeroValue314}
theorem Tryz.extra3:Builder.Extra prog Tryz.ren3:={
 sizeBuilder:=by kernel_rfl
 liesBuilder:=by kernel_rfl
 t5:=underlying5
 a5:=isAgg5
 z5:=sizeOf5
 v5:=zeroValue5
 infoByte:=by kernel_rfl
 cellsByte:=by kernel_rfl
 sizeByte:=by kernel_rfl
 neB5:=by decide}
open Go.RowKit in
theorem Tryz.strings_Join(bk o c:Nat)(xs:List ByteArray)(sep:ByteArray)(w:World)
  (hcells:∀(j:Nat) x,xs[j]?=some x→w.cell? ⟨bk,o+j,none⟩=some (.string x))
  (hbk:bk<w.heap.size) (hN:xs.length≤140737488355328) (hcap:xs.length≤c)
  (hlen:(Lib.join (xs.map (·.data.toList)) sep.data.toList).length≤140737488355328):
  Calls prog 132 #[.slice (some ⟨bk,o,none⟩) xs.length c,.string sep] w fun e w'=>e=.returned (.string ⟨(Lib.join (xs.map (·.data.toList)) sep.data.toList).toArray⟩)∧Below w.heap.size w w':=Any.strings_Join Tryz.lays3_156 Tryz.extra3 bk o c xs sep w hcells hbk hN hcap hlen
end Go.Proofs
namespace Go.Proofs
open Go.Shelf
def Tryz.laysSort_m_ren:Go.Shelf.Ren:=⟨fun|6=>339|15=>194|14=>347|28=>238|29=>239|20=>273|21=>351|22=>352|23=>353|24=>354|25=>355|26=>356|27=>357|46=>359|47=>286|48=>287|49=>360|50=>361|57=>366|n=>n,fun|22=>23|24=>29|25=>221|3=>3|39=>296|0=>0|53=>335|55=>337|4=>4|46=>329|45=>328|50=>278|5=>5|9=>9|66=>373|70=>377|76=>393|77=>394|n=>n,fun|n=>n⟩
theorem Tryz.laysSort_m:Go.Proofs.SlLaysF0.n6 prog Tryz.laysSort_m_ren:={
 mixed:=by kernel_rfl
 f6:=⟨f339.name,by decide,func339.trans (congrArg some (by kernel_rfl))⟩
 f14:=⟨f347.name,by decide,func347.trans (congrArg some (by kernel_rfl))⟩
 f15:=func194.trans (congrArg some (by kernel_rfl))
 f20:=⟨f273.name,by decide,func273.trans (congrArg some (by kernel_rfl))⟩
 f21:=⟨f351.name,by decide,func351.trans (congrArg some (by kernel_rfl))⟩
 f22:=⟨f352.name,by decide,func352.trans (congrArg some (by kernel_rfl))⟩
 f23:=⟨f353.name,by decide,func353.trans (congrArg some (by kernel_rfl))⟩
 f24:=⟨f354.name,by decide,func354.trans (congrArg some (by kernel_rfl))⟩
 f25:=⟨f355.name,by decide,func355.trans (congrArg some (by kernel_rfl))⟩
 f26:=⟨f356.name,by decide,func356.trans (congrArg some (by kernel_rfl))⟩
 f27:=⟨f357.name,by decide,func357.trans (congrArg some (by kernel_rfl))⟩
 f28:=func238.trans (congrArg some (by kernel_rfl))
 f29:=func239.trans (congrArg some (by kernel_rfl))
 f46:=⟨f359.name,by decide,func359.trans (congrArg some (by kernel_rfl))⟩
 f47:=func286.trans (congrArg some (by kernel_rfl))
 f48:=func287.trans (congrArg some (by kernel_rfl))
 f49:=⟨f360.name,by decide,func360.trans (congrArg some (by kernel_rfl))⟩
 f50:=⟨f361.name,by decide,func361.trans (congrArg some (by kernel_rfl))⟩
 f57:=⟨f366.name,by decide,func366.trans (congrArg some (by kernel_rfl))⟩
 t0:=underlying0
 a0:=isAgg0
 z0:=sizeOf0
 v0:=zeroValue0
 t3:=underlying3
 a3:=isAgg3
 z3:=sizeOf3
 v3:=zeroValue3
 t4:=underlying4
 a4:=isAgg4
 z4:=sizeOf4
 v4:=zeroValue4
 t5:=underlying5
 a5:=isAgg5
 z5:=sizeOf5
 v5:=zeroValue5
 t9:=underlying9
 a9:=isAgg9
 z9:=sizeOf9
 v9:=zeroValue9
 t22:=underlying23
 a22:=isAgg23
 z22:=sizeOf23
 v22:=zeroValue23
 t25:=underlying221
 a25:=isAgg221
 z25:=sizeOf221
 v25:=zeroValue221
 t39:=underlying296
 a39:=isAgg296
 z39:=sizeOf296
 v39:=zeroValue296
 t45:=underlying328
 a45:=isAgg328
 z45:=sizeOf328
 v45:=zeroValue328
 t46:=underlying329
 a46:=isAgg329
 z46:=sizeOf329
 v46:=zeroValue329
 t50:=underlying278
 a50:=isAgg278
 z50:=sizeOf278
 v50:=zeroValue278
 t53:=underlying335
 a53:=isAgg335
 z53:=sizeOf335
 v53:=zeroValue335
 t55:=underlying337
 a55:=isAgg337
 z55:=sizeOf337
 v55:=zeroValue337
 t66:=underlying373
 a66:=isAgg373
 z66:=sizeOf373
 v66:=zeroValue373
 t70:=underlying377
 a70:=isAgg377
 z70:=sizeOf377
 v70:=zeroValue377
 t76:=underlying393
 a76:=isAgg393
 z76:=sizeOf393
 v76:=zeroValue393
 t77:=underlying394
 a77:=isAgg394
 z77:=sizeOf394
 v77:=zeroValue394}
open Go.RowKit Go.Lib Go.Sort in
theorem Tryz.sortFunc_m{α:Type}[Inhabited α](k:Nat)(aE:∀w,(isAgg 29).run prog w=.ok true w)(zE:∀w,(Go.sizeOf 29).run prog w=.ok k w)(enc:α→List Value)(hk:∀x,(enc x).length=k)(h1:∀x,∀v∈enc x,v.oneCell'=true)(cf:α→α→Int)(hO:SWO (ltOf cf))(g:Nat)(cb:Array Value)(blk off cap:Nat)(d:Array α)(w:World)
  (eg:∀args w,(callFunc g args).run prog w=.ok (.enter g args) w) (hcmp:CmpLays prog g cb enc k cf blk off d.size w) (hH:HoldsK enc k w blk off d) (hblk:blk<w.heap.size) (hsz:d.size<4611686018427387904):
  Calls prog 339 #[.slice (some ⟨blk,off,none⟩) d.size cap,.func (.func g) #[] cb] w fun e w'=>
   e=.returned (.tuple #[])∧∃d' n os,PermIn 0 d.size d d'∧SortedIn (ltOf cf) 0 d.size d'∧w'=sortWorldK enc k w blk off n d' os:=AnyQ.slices_SortFunc Tryz.laysSort_m k aE zE enc hk h1 cf hO g cb blk off cap d w eg hcmp hH hblk hsz
def Tryz.laysSort_p_ren:Go.Shelf.Ren:=⟨fun|6=>149|15=>194|14=>193|28=>238|29=>239|20=>230|21=>231|22=>232|23=>233|24=>234|25=>235|26=>236|27=>237|46=>285|47=>286|48=>287|49=>288|50=>289|57=>313|n=>n,fun|22=>56|24=>76|25=>246|3=>3|39=>296|0=>0|53=>335|55=>337|4=>4|46=>329|45=>328|50=>278|5=>5|9=>9|66=>373|70=>377|76=>393|77=>394|n=>n,fun|n=>n⟩
theorem Tryz.laysSort_p:Go.Proofs.SlLaysF0.n6 prog Tryz.laysSort_p_ren:={
 mixed:=by kernel_rfl
 f6:=⟨f149.name,by decide,func149.trans (congrArg some (by kernel_rfl))⟩
 f14:=⟨f193.name,by decide,func193.trans (congrArg some (by kernel_rfl))⟩
 f15:=func194.trans (congrArg some (by kernel_rfl))
 f20:=⟨f230.name,by decide,func230.trans (congrArg some (by kernel_rfl))⟩
 f21:=⟨f231.name,by decide,func231.trans (congrArg some (by kernel_rfl))⟩
 f22:=⟨f232.name,by decide,func232.trans (congrArg some (by kernel_rfl))⟩
 f23:=⟨f233.name,by decide,func233.trans (congrArg some (by kernel_rfl))⟩
 f24:=⟨f234.name,by decide,func234.trans (congrArg some (by kernel_rfl))⟩
 f25:=⟨f235.name,by decide,func235.trans (congrArg some (by kernel_rfl))⟩
 f26:=⟨f236.name,by decide,func236.trans (congrArg some (by kernel_rfl))⟩
 f27:=⟨f237.name,by decide,func237.trans (congrArg some (by kernel_rfl))⟩
 f28:=func238.trans (congrArg some (by kernel_rfl))
 f29:=func239.trans (congrArg some (by kernel_rfl))
 f46:=⟨f285.name,by decide,func285.trans (congrArg some (by kernel_rfl))⟩
 f47:=func286.trans (congrArg some (by kernel_rfl))
 f48:=func287.trans (congrArg some (by kernel_rfl))
 f49:=⟨f288.name,by decide,func288.trans (congrArg some (by kernel_rfl))⟩
 f50:=⟨f289.name,by decide,func289.trans (congrArg some (by kernel_rfl))⟩
 f57:=⟨f313.name,by decide,func313.trans (congrArg some (by kernel_rfl))⟩
 t0:=underlying0
 a0:=isAgg0
 z0:=sizeOf0
 v0:=zeroValue0
 t3:=underlying3
 a3:=isAgg3
 z3:=sizeOf3
 v3:=zeroValue3
 t4:=underlying4
 a4:=isAgg4
 z4:=sizeOf4
 v4:=zeroValue4
 t5:=underlying5
 a5:=isAgg5
 z5:=sizeOf5
 v5:=zeroValue5
 t9:=underlying9
 a9:=isAgg9
 z9:=sizeOf9
 v9:=zeroValue9
 t22:=underlying56
 a22:=isAgg56
 z22:=sizeOf56
 v22:=zeroValue56
 t25:=underlying246
 a25:=isAgg246
 z25:=sizeOf246
 v25:=zeroValue246
 t39:=underlying296
 a39:=isAgg296
 z39:=sizeOf296
 v39:=zeroValue296
 t45:=underlying328
 a45:=isAgg328
 z45:=sizeOf328
 v45:=zeroValue328
 t46:=underlying329
 a46:=isAgg329
 z46:=sizeOf329
 v46:=zeroValue329
 t50:=underlying278
 a50:=isAgg278
 z50:=sizeOf278
 v50:=zeroValue278
 t53:=underlying335
 a53:=isAgg335
 z53:=sizeOf335
 v53:=zeroValue335
 t55:=underlying337
 a55:=isAgg337
 z55:=sizeOf337
 v55:=zeroValue337
 t66:=underlying373
 a66:=isAgg373
 z66:=sizeOf373
 v66:=zeroValue373
 t70:=underlying377
 a70:=isAgg377
 z70:=sizeOf377
 v70:=zeroValue377
 t76:=underlying393
 a76:=isAgg393
 z76:=sizeOf393
 v76:=zeroValue393
 t77:=underlying394
 a77:=isAgg394
 z77:=sizeOf394
 v77:=zeroValue394}
open Go.RowKit Go.Lib Go.Sort in
theorem Tryz.sortFunc_p{α:Type}[Inhabited α](k:Nat)(aE:∀w,(isAgg 76).run prog w=.ok true w)(zE:∀w,(Go.sizeOf 76).run prog w=.ok k w)(enc:α→List Value)(hk:∀x,(enc x).length=k)(h1:∀x,∀v∈enc x,v.oneCell'=true)(cf:α→α→Int)(hO:SWO (ltOf cf))(g:Nat)(cb:Array Value)(blk off cap:Nat)(d:Array α)(w:World)
  (eg:∀args w,(callFunc g args).run prog w=.ok (.enter g args) w) (hcmp:CmpLays prog g cb enc k cf blk off d.size w) (hH:HoldsK enc k w blk off d) (hblk:blk<w.heap.size) (hsz:d.size<4611686018427387904):
  Calls prog 149 #[.slice (some ⟨blk,off,none⟩) d.size cap,.func (.func g) #[] cb] w fun e w'=>
   e=.returned (.tuple #[])∧∃d' n os,PermIn 0 d.size d d'∧SortedIn (ltOf cf) 0 d.size d'∧w'=sortWorldK enc k w blk off n d' os:=AnyQ.slices_SortFunc Tryz.laysSort_p k aE zE enc hk h1 cf hO g cb blk off cap d w eg hcmp hH hblk hsz
def Tryz.laysSort_r_ren:Go.Shelf.Ren:=⟨fun|6=>156|15=>194|14=>201|28=>238|29=>239|20=>246|21=>247|22=>248|23=>249|24=>250|25=>251|26=>252|27=>253|46=>293|47=>286|48=>287|49=>294|50=>295|57=>316|n=>n,fun|22=>197|24=>203|25=>261|3=>3|39=>296|0=>0|53=>335|55=>337|4=>4|46=>329|45=>328|50=>278|5=>5|9=>9|66=>373|70=>377|76=>393|77=>394|n=>n,fun|n=>n⟩
theorem Tryz.laysSort_r:Go.Proofs.SlLaysF0.n6 prog Tryz.laysSort_r_ren:={
 mixed:=by kernel_rfl
 f6:=⟨f156.name,by decide,func156.trans (congrArg some (by kernel_rfl))⟩
 f14:=⟨f201.name,by decide,func201.trans (congrArg some (by kernel_rfl))⟩
 f15:=func194.trans (congrArg some (by kernel_rfl))
 f20:=⟨f246.name,by decide,func246.trans (congrArg some (by kernel_rfl))⟩
 f21:=⟨f247.name,by decide,func247.trans (congrArg some (by kernel_rfl))⟩
 f22:=⟨f248.name,by decide,func248.trans (congrArg some (by kernel_rfl))⟩
 f23:=⟨f249.name,by decide,func249.trans (congrArg some (by kernel_rfl))⟩
 f24:=⟨f250.name,by decide,func250.trans (congrArg some (by kernel_rfl))⟩
 f25:=⟨f251.name,by decide,func251.trans (congrArg some (by kernel_rfl))⟩
 f26:=⟨f252.name,by decide,func252.trans (congrArg some (by kernel_rfl))⟩
 f27:=⟨f253.name,by decide,func253.trans (congrArg some (by kernel_rfl))⟩
 f28:=func238.trans (congrArg some (by kernel_rfl))
 f29:=func239.trans (congrArg some (by kernel_rfl))
 f46:=⟨f293.name,by decide,func293.trans (congrArg some (by kernel_rfl))⟩
 f47:=func286.trans (congrArg some (by kernel_rfl))
 f48:=func287.trans (congrArg some (by kernel_rfl))
 f49:=⟨f294.name,by decide,func294.trans (congrArg some (by kernel_rfl))⟩
 f50:=⟨f295.name,by decide,func295.trans (congrArg some (by kernel_rfl))⟩
 f57:=⟨f316.name,by decide,func316.trans (congrArg some (by kernel_rfl))⟩
 t0:=underlying0
 a0:=isAgg0
 z0:=sizeOf0
 v0:=zeroValue0
 t3:=underlying3
 a3:=isAgg3
 z3:=sizeOf3
 v3:=zeroValue3
 t4:=underlying4
 a4:=isAgg4
 z4:=sizeOf4
 v4:=zeroValue4
 t5:=underlying5
 a5:=isAgg5
 z5:=sizeOf5
 v5:=zeroValue5
 t9:=underlying9
 a9:=isAgg9
 z9:=sizeOf9
 v9:=zeroValue9
 t22:=underlying197
 a22:=isAgg197
 z22:=sizeOf197
 v22:=zeroValue197
 t25:=underlying261
 a25:=isAgg261
 z25:=sizeOf261
 v25:=zeroValue261
 t39:=underlying296
 a39:=isAgg296
 z39:=sizeOf296
 v39:=zeroValue296
 t45:=underlying328
 a45:=isAgg328
 z45:=sizeOf328
 v45:=zeroValue328
 t46:=underlying329
 a46:=isAgg329
 z46:=sizeOf329
 v46:=zeroValue329
 t50:=underlying278
 a50:=isAgg278
 z50:=sizeOf278
 v50:=zeroValue278
 t53:=underlying335
 a53:=isAgg335
 z53:=sizeOf335
 v53:=zeroValue335
 t55:=underlying337
 a55:=isAgg337
 z55:=sizeOf337
 v55:=zeroValue337
 t66:=underlying373
 a66:=isAgg373
 z66:=sizeOf373
 v66:=zeroValue373
 t70:=underlying377
 a70:=isAgg377
 z70:=sizeOf377
 v70:=zeroValue377
 t76:=underlying393
 a76:=isAgg393
 z76:=sizeOf393
 v76:=zeroValue393
 t77:=underlying394
 a77:=isAgg394
 z77:=sizeOf394
 v77:=zeroValue394}
open Go.RowKit Go.Lib Go.Sort in
theorem Tryz.sortFunc_r{α:Type}[Inhabited α](k:Nat)(aE:∀w,(isAgg 203).run prog w=.ok true w)(zE:∀w,(Go.sizeOf 203).run prog w=.ok k w)(enc:α→List Value)(hk:∀x,(enc x).length=k)(h1:∀x,∀v∈enc x,v.oneCell'=true)(cf:α→α→Int)(hO:SWO (ltOf cf))(g:Nat)(cb:Array Value)(blk off cap:Nat)(d:Array α)(w:World)
  (eg:∀args w,(callFunc g args).run prog w=.ok (.enter g args) w) (hcmp:CmpLays prog g cb enc k cf blk off d.size w) (hH:HoldsK enc k w blk off d) (hblk:blk<w.heap.size) (hsz:d.size<4611686018427387904):
  Calls prog 156 #[.slice (some ⟨blk,off,none⟩) d.size cap,.func (.func g) #[] cb] w fun e w'=>
   e=.returned (.tuple #[])∧∃d' n os,PermIn 0 d.size d d'∧SortedIn (ltOf cf) 0 d.size d'∧w'=sortWorldK enc k w blk off n d' os:=AnyQ.slices_SortFunc Tryz.laysSort_r k aE zE enc hk h1 cf hO g cb blk off cap d w eg hcmp hH hblk hsz
