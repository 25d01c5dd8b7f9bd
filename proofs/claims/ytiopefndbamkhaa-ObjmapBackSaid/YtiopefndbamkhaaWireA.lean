/- Contracts of the leaves of package wire: fitWidth, largest, extend, putNum, number. -/
import Derived.Test.YtiopefndbamkhaaRows
import Derived.Test.YtiopefndbamkhaaBytes
import Derived.WalkLawsBesides
import Derived.Deep.DeepCutAuto
namespace Go.Proofs.Ytiopefndbamkhaa
open Go.RowKit

theorem Try.infoB : (Try.prog.info? 5).map (fun i => (i.zero, i.size, i.bytes)) = some (some (.int .u8 0), 1, 1) := by kernel_rfl
theorem Try.sizeB : (Try.prog.info? 5).map (·.size) = some 1 := by kernel_rfl

end Go.Proofs.Ytiopefndbamkhaa
