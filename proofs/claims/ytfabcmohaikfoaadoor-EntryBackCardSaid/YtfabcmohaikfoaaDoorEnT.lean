/- Library contract: strconv.Itoa at every int, laid at this seat. -/
import Derived.Test.YtfabcmohaikfoaaDoorLaw
import Derived.Shelf.Strconv.Itoa3
import Derived.Shelf.Lay
import Derived.Lib.AppendIntMem
import Derived.Ground.NamesProg
namespace Go.Proofs.YtfabcmohaikfoaaDoor
open Go.RowKit Go.Shelf
open Go.Sort hiding Below

shelf_lay LaysM.n171 Nm 171 at Tryd as Tryd.itoa
set_option maxRecDepth 10000 in
theorem Itoa_any (n : Int) (h0 : -9223372036854775808 ≤ n) (h1 : n ≤ 9223372036854775807) (w : World) (htab : Lib.TabIs Tryd.prog w "internal/strconv.uint64pow10" .u64 Lib.pow10Tab) :
    Calls Tryd.prog 39 #[.int .i64 n] w fun e w' => e = .returned (.string ⟨(Lib.itoa n).toArray⟩) ∧ Go.RowKit.Below w.heap.size w w' :=
  (Any.strconv_Itoa Tryd.itoa n h0 h1 w htab).mono fun e w' ⟨he, k, os, hw⟩ => ⟨he, by
    subst hw
    exact Lib.below_grow _ w (Nat.le_refl _) k os⟩
end Go.Proofs.YtfabcmohaikfoaaDoor
