/-
  The library's contract for utf8.AppendRune, laid at this program: that the program bears the bodies and types which the library's theorem asks for.
  No conditions.
-/
import Derived.Shelf.Utf8.AppendRunePlain
import Derived.Test.YtlepgfkhgmgobaaProg
namespace Go.Proofs
open Go.Shelf
def Try.lays242_ren : Go.Shelf.Ren := ⟨fun | 242 => 22 | 278 => 24 | n => n, fun | 37 => 22 | 21 => 21 | 51 => 46 | 4 => 4 | 5 => 5 | 46 => 47 | n => n, fun | n => n⟩
theorem Try.lays242 : Go.Proofs.Lays.n242 Try.prog Try.lays242_ren := {
  mixed := by kernel_rfl
  f242 := Try.func22.trans (congrArg some (by kernel_rfl))
  f278 := Try.func24.trans (congrArg some (by kernel_rfl))
  t4 := Try.underlying4
  a4 := Try.isAgg4
  z4 := Try.sizeOf4
  v4 := Try.zeroValue4
  t5 := Try.underlying5
  a5 := Try.isAgg5
  z5 := Try.sizeOf5
  v5 := Try.zeroValue5
  t21 := Try.underlying21
  a21 := Try.isAgg21
  z21 := Try.sizeOf21
  v21 := Try.zeroValue21
  t37 := Try.underlying22
  a37 := Try.isAgg22
  z37 := Try.sizeOf22
  v37 := Try.zeroValue22
  t46 := Try.underlying47
  a46 := Try.isAgg47
  z46 := Try.sizeOf47
  v46 := Try.zeroValue47
  t51 := Try.underlying46
  a51 := Try.isAgg46
  z51 := Try.sizeOf46
  v51 := Try.zeroValue46 }
end Go.Proofs
