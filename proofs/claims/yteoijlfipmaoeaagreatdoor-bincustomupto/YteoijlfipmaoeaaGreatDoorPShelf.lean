import Derived.Test.YteoijlfipmaoeaaGreatDoorProg
import Derived.Shelf.Strings.Search1
import Derived.Shelf.Strings.Search2
import Derived.Shelf.Strings.Search3
import Derived.Shelf.Strings.Cut
import Derived.Shelf.LaysM
import Derived.Shelf.Strings.Shaped
import Derived.Shelf.Strings.Prefix
import Derived.Shelf.Bits.Mul64
set_option linter.unusedVariables false
set_option linter.unusedSimpArgs false
namespace Go.Proofs
open Go.Shelf
def Tryz.lays144_ren:Go.Shelf.Ren:=⟨λ|144=>299|143=>305|219=>309|217=>310|225=>311|224=>312|267=>313|266=>314|314=>315|n=>n,λ|9=>9|4=>4|3=>3|5=>5|46=>229|146=>317|51=>316|n=>n,λ|1=>5|n=>n⟩
theorem Tryz.lays144:Go.Proofs.Lays.n144 Tryz.prog Tryz.lays144_ren:={
  mixed:=by kernel_rfl
  f143:=Tryz.func305.trans (congrArg some (by kernel_rfl))
  f144:=Tryz.func299.trans (congrArg some (by kernel_rfl))
  f217:=Tryz.func310.trans (congrArg some (by kernel_rfl))
  f219:=Tryz.func309.trans (congrArg some (by kernel_rfl))
  f224:=Tryz.func312.trans (congrArg some (by kernel_rfl))
  f225:=Tryz.func311.trans (congrArg some (by kernel_rfl))
  f266:=Tryz.func314.trans (congrArg some (by kernel_rfl))
  f267:=Tryz.func313.trans (congrArg some (by kernel_rfl))
  f314:=Tryz.func315.trans (congrArg some (by kernel_rfl))
  t3:=Tryz.underlying3
  a3:=Tryz.isAgg3
  z3:=Tryz.sizeOf3
  v3:=Tryz.zeroValue3
  t4:=Tryz.underlying4
  a4:=Tryz.isAgg4
  z4:=Tryz.sizeOf4
  v4:=Tryz.zeroValue4
  t5:=Tryz.underlying5
  a5:=Tryz.isAgg5
  z5:=Tryz.sizeOf5
  v5:=Tryz.zeroValue5
  t9:=Tryz.underlying9
  a9:=Tryz.isAgg9
  z9:=Tryz.sizeOf9
  v9:=Tryz.zeroValue9
  t46:=Tryz.underlying229
  a46:=Tryz.isAgg229
  z46:=Tryz.sizeOf229
  v46:=Tryz.zeroValue229
  t51:=Tryz.underlying316
  a51:=Tryz.isAgg316
  z51:=Tryz.sizeOf316
  v51:=Tryz.zeroValue316
  t146:=Tryz.underlying317
  a146:=Tryz.isAgg317
  z146:=Tryz.sizeOf317
  v146:=Tryz.zeroValue317
  g1:=by kernel_rfl}
open Go.RowKit Go.Lib in
theorem Tryz.strings_Contains(s sub:ByteArray)(m:Int)(w:World)(hs:s.size<4294967281)(hm:w.cell? ⟨5,0,none⟩=some (.int .i64 m)):
    Calls Tryz.prog 299 #[.string s,.string sub] w λe w'=>e=.returned (.bool (Lib.contains s.data.toList sub.data.toList))/\w'=w:=Any.strings_Contains Tryz.lays144 s sub m w hs hm
def Tryz.lays145_ren:Go.Shelf.Ren:=⟨λ|145=>298|220=>304|219=>309|217=>310|225=>311|224=>312|267=>313|266=>314|314=>315|n=>n,λ|9=>9|4=>4|59=>350|3=>3|5=>5|46=>229|146=>317|51=>316|n=>n,λ|1=>5|n=>n⟩
theorem Tryz.lays145:Go.Proofs.Lays.n145 Tryz.prog Tryz.lays145_ren:={
  mixed:=by kernel_rfl
  f145:=Tryz.func298.trans (congrArg some (by kernel_rfl))
  f217:=Tryz.func310.trans (congrArg some (by kernel_rfl))
  f219:=Tryz.func309.trans (congrArg some (by kernel_rfl))
  f220:=Tryz.func304.trans (congrArg some (by kernel_rfl))
  f224:=Tryz.func312.trans (congrArg some (by kernel_rfl))
  f225:=Tryz.func311.trans (congrArg some (by kernel_rfl))
  f266:=Tryz.func314.trans (congrArg some (by kernel_rfl))
  f267:=Tryz.func313.trans (congrArg some (by kernel_rfl))
  f314:=Tryz.func315.trans (congrArg some (by kernel_rfl))
  t3:=Tryz.underlying3
  a3:=Tryz.isAgg3
  z3:=Tryz.sizeOf3
  v3:=Tryz.zeroValue3
  t4:=Tryz.underlying4
  a4:=Tryz.isAgg4
  z4:=Tryz.sizeOf4
  v4:=Tryz.zeroValue4
  t5:=Tryz.underlying5
  a5:=Tryz.isAgg5
  z5:=Tryz.sizeOf5
  v5:=Tryz.zeroValue5
  t9:=Tryz.underlying9
  a9:=Tryz.isAgg9
  z9:=Tryz.sizeOf9
  v9:=Tryz.zeroValue9
  t46:=Tryz.underlying229
  a46:=Tryz.isAgg229
  z46:=Tryz.sizeOf229
  v46:=Tryz.zeroValue229
  t51:=Tryz.underlying316
  a51:=Tryz.isAgg316
  z51:=Tryz.sizeOf316
  v51:=Tryz.zeroValue316
  t59:=Tryz.underlying350
  a59:=Tryz.isAgg350
  z59:=Tryz.sizeOf350
  v59:=Tryz.zeroValue350
  t146:=Tryz.underlying317
  a146:=Tryz.isAgg317
  z146:=Tryz.sizeOf317
  v146:=Tryz.zeroValue317
  g1:=by kernel_rfl}
open Go.RowKit Go.Lib in
theorem Tryz.strings_Cut(s sep:ByteArray)(m:Int)(w:World)(hs:s.size<4294967281)(hm:w.cell? ⟨5,0,none⟩=some (.int .i64 m)):
    Calls Tryz.prog 298 #[.string s,.string sep] w λe w'=>e=.returned (.tuple #[.string ⟨(Lib.cut s.data.toList sep.data.toList).1.toArray⟩,.string ⟨(Lib.cut s.data.toList sep.data.toList).2.1.toArray⟩,.bool (Lib.cut s.data.toList sep.data.toList).2.2])/\∃n,w'=w.drewN n:=Any.strings_Cut Tryz.lays145 s sep m w hs hm
def Tryz.lays99_ren:Go.Shelf.Ren:=⟨λ|99=>302|206=>306|n=>n,λ|9=>9|4=>4|3=>3|n=>n,λ|n=>n⟩
theorem Tryz.lays99:Go.Proofs.Lays.n99 Tryz.prog Tryz.lays99_ren:={
  mixed:=by kernel_rfl
  f99:=Tryz.func302.trans (congrArg some (by kernel_rfl))
  f206:=Tryz.func306.trans (congrArg some (by kernel_rfl))
  t3:=Tryz.underlying3
  a3:=Tryz.isAgg3
  z3:=Tryz.sizeOf3
  v3:=Tryz.zeroValue3
  t4:=Tryz.underlying4
  a4:=Tryz.isAgg4
  z4:=Tryz.sizeOf4
  v4:=Tryz.zeroValue4
  t9:=Tryz.underlying9
  a9:=Tryz.isAgg9
  z9:=Tryz.sizeOf9
  v9:=Tryz.zeroValue9}
open Go.RowKit Go.Lib in
theorem Tryz.strings_HasPrefix(s p:ByteArray)(w:World):
    Calls Tryz.prog 302 #[.string s,.string p] w λe w'=>e=.returned (.bool (Lib.hasPrefix s.data.toList p.data.toList))/\w'=w:=Any.strings_HasPrefix Tryz.lays99 s p w
def Tryz.lays100_ren:Go.Shelf.Ren:=⟨λ|100=>291|207=>300|n=>n,λ|9=>9|4=>4|3=>3|n=>n,λ|n=>n⟩
theorem Tryz.lays100:Go.Proofs.Lays.n100 Tryz.prog Tryz.lays100_ren:={
  mixed:=by kernel_rfl
  f100:=Tryz.func291.trans (congrArg some (by kernel_rfl))
  f207:=Tryz.func300.trans (congrArg some (by kernel_rfl))
  t3:=Tryz.underlying3
  a3:=Tryz.isAgg3
  z3:=Tryz.sizeOf3
  v3:=Tryz.zeroValue3
  t4:=Tryz.underlying4
  a4:=Tryz.isAgg4
  z4:=Tryz.sizeOf4
  v4:=Tryz.zeroValue4
  t9:=Tryz.underlying9
  a9:=Tryz.isAgg9
  z9:=Tryz.sizeOf9
  v9:=Tryz.zeroValue9}
open Go.RowKit Go.Lib in
theorem Tryz.strings_HasSuffix(s p:ByteArray)(w:World)(hs:s.size<=9223372036854775807):
    Calls Tryz.prog 291 #[.string s,.string p] w λe w'=>e=.returned (.bool (Lib.hasSuffix s.data.toList p.data.toList))/\w'=w:=Any.strings_HasSuffix Tryz.lays100 s p w hs
def Tryz.lays212_ren:Go.Shelf.Ren:=⟨λ|212=>254|263=>267|264=>268|n=>n,λ|46=>229|51=>316|146=>317|53=>57|148=>319|n=>n,λ|n=>n⟩
theorem Tryz.lays212:Go.Proofs.Lays.n212 Tryz.prog Tryz.lays212_ren:={
  mixed:=by kernel_rfl
  f212:=Tryz.func254.trans (congrArg some (by kernel_rfl))
  f263:=Tryz.func267.trans (congrArg some (by kernel_rfl))
  f264:=Tryz.func268.trans (congrArg some (by kernel_rfl))
  t46:=Tryz.underlying229
  a46:=Tryz.isAgg229
  z46:=Tryz.sizeOf229
  v46:=Tryz.zeroValue229
  t51:=Tryz.underlying316
  a51:=Tryz.isAgg316
  z51:=Tryz.sizeOf316
  v51:=Tryz.zeroValue316
  t53:=Tryz.underlying57
  a53:=Tryz.isAgg57
  z53:=Tryz.sizeOf57
  v53:=Tryz.zeroValue57
  t146:=Tryz.underlying317
  a146:=Tryz.isAgg317
  z146:=Tryz.sizeOf317
  v146:=Tryz.zeroValue317
  t148:=Tryz.underlying319
  a148:=Tryz.isAgg319
  z148:=Tryz.sizeOf319
  v148:=Tryz.zeroValue319}
open Go.RowKit Go.Lib in
theorem Tryz.bits_Mul(x y:Nat)(hx:x<18446744073709551616)(hy:y<18446744073709551616)(w:World):
    Calls Tryz.prog 254 #[.int .u64 x,.int .u64 y] w λe w'=>e=.returned (.tuple #[.int .u64 ((x * y / 18446744073709551616:Nat):Int),.int .u64 ((x * y%18446744073709551616:Nat):Int)])/\w'=w:=Any.bits_Mul Tryz.lays212 x y hx hy w
end Go.Proofs
