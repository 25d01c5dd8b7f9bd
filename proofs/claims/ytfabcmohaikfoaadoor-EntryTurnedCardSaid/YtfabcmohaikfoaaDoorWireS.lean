/- Strings of bytes, and Num of nothing, as the laws use them. -/
import Derived.Test.YtfabcmohaikfoaaDoorWireI
namespace Go.Proofs.YtfabcmohaikfoaaDoor
open Go.RowKit

set_option maxRecDepth 10000 in
theorem str_any {w : World} {B n c : Nat} {A : Option Addr} {l : List UInt8} (hr : Rd w B A n l) : (convert 22 9 (.slice A n c)).run Tryd.prog w = .ok (.string ⟨l.toArray⟩) w :=
  run_str Tryd.underlying22 Tryd.underlying5 Tryd.underlying9 hr
set_option maxRecDepth 10000 in
theorem Num_nil (width x : Int) (w : World) (hx : I64 x) : Calls Tryd.prog 33 #[.slice none 0 0, .int .i64 width, .int .i64 x] w fun e w' =>
    ∃ A c, e = .returned (.slice A (fitW width) c) ∧ Rd w' w'.heap.size A (fitW width) (numB width x) ∧ Below w.heap.size w w' :=
  (Num_any none 0 0 [] width x w Rd.nil (by omega) hx).mono fun e w' h => by
    rw [List.nil_append] at h
    obtain ⟨A, c, he, _, _, hown, hb⟩ := h
    rw [numB_length] at he hown
    exact ⟨A, c, he, Rd.own hown, hb⟩
theorem all_succ (X : List UInt8) (j : Nat) (h : j < X.length) : (X.take (j + 1)).all (· == 255) = ((X.take j).all (· == 255) && ((((⟨X.toArray⟩ : ByteArray)[j]'(by show j < X.toArray.size; simpa using h)).toNat : Int) == 255)) := by
  rw [List.take_succ_eq_append_getElem h, List.all_append]
  congr 1
  have e : ((⟨X.toArray⟩ : ByteArray)[j]'(by show j < X.toArray.size; simpa using h)) = X[j] := rfl
  rw [e]
  simp only [List.all_cons, List.all_nil, Bool.and_true]
  rw [Bool.eq_iff_iff, beq_iff_eq, beq_iff_eq, ← UInt8.toNat_inj]
  simp only [UInt8.reduceToNat]
  omega
end Go.Proofs.YtfabcmohaikfoaaDoor
