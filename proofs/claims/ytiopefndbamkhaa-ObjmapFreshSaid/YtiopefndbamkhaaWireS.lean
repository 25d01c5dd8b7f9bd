/- Strings of bytes, and Num of nothing, as the laws use them. -/
import Derived.Test.YtiopefndbamkhaaWireI
namespace Go.Proofs.Ytiopefndbamkhaa
open Go.RowKit

theorem str_any {w : World} {B n c : Nat} {A : Option Addr} {l : List UInt8} (hr : Rd w B A n l) : (convert 34 9 (.slice A n c)).run Try.prog w = .ok (.string ⟨l.toArray⟩) w :=
  run_str Try.underlying34 Try.underlying5 Try.underlying9 hr
theorem all_succ (X : List UInt8) (j : Nat) (h : j < X.length) : (X.take (j + 1)).all (· == 255) = ((X.take j).all (· == 255) && ((((⟨X.toArray⟩ : ByteArray)[j]'(by show j < X.toArray.size; simpa using h)).toNat : Int) == 255)) := by
  rw [List.take_succ_eq_append_getElem h, List.all_append]
  congr 1
  have e : ((⟨X.toArray⟩ : ByteArray)[j]'(by show j < X.toArray.size; simpa using h)) = X[j] := rfl
  rw [e]
  simp only [List.all_cons, List.all_nil, Bool.and_true]
  rw [Bool.eq_iff_iff, beq_iff_eq, beq_iff_eq, ← UInt8.toNat_inj]
  simp only [UInt8.reduceToNat]
  omega
end Go.Proofs.Ytiopefndbamkhaa
