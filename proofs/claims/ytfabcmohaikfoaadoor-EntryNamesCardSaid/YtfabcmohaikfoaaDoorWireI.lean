/- The law's helpers: Ints, strings of bytes, the document's examples (awake). -/
import Derived.Test.YtfabcmohaikfoaaDoorWireC
import Derived.BigQuiet
import Derived.Deep.QuietTactic
namespace Go.Proofs.YtfabcmohaikfoaaDoor
open Go.RowKit

/-- string(b) of a slice that reads as l -/
theorem run_str {P : Program} {w : World} {src dst e : TypeId} {B n c : Nat} {A : Option Addr} {l : List UInt8} (hs : P.underlying src = some (.slice e)) (he : P.underlying e = some (.int .u8)) (hd : P.underlying dst = some .string)
    (hr : Rd w B A n l) : (convert src dst (.slice A n c)).run P w = .ok (.string ⟨l.toArray⟩) w := by
  rw [run_convert_bytes_string w src dst e A n c hs he hd]
  have hl := hr.1
  rcases A with _ | ad
  · have h0 : n = 0 := by
      rcases Nat.eq_zero_or_pos n with h | h
      · exact h
      · obtain ⟨_, hc, _⟩ := hr.2 h
        cases hc
    subst h0
    obtain rfl : l = [] := List.eq_nil_of_length_eq_zero hl
    rfl
  · have hsrc : ∀ j v, (l.map bv)[j]? = some v → w.cell? (ad.add j) = some v := by
      intro j v hv
      have hj : j < (l.map bv).length := (List.getElem?_eq_some_iff.1 hv).1
      obtain ⟨a', ha, hcell⟩ := hr.vals (by rw [List.length_map] at hj; omega)
      cases ha
      exact hcell j v hv
    have hlc := run_loadCells_list (P := P) w ad (l.map bv) hsrc
    rw [List.length_map, hl] at hlc
    have e1 : l.map bv = (l.map fun x => (x.toNat : Int)).map (Value.int .u8) := by simp [bv, Function.comp_def]
    rw [e1] at hlc
    rw [run_bytesToString w ad n c _ hlc]
    congr 2
    have e2 : ∀ (l : List UInt8) (s : ByteArray), (l.map fun x => (x.toNat : Int)).foldl (fun r n => r.push (UInt8.ofNat n.toNat)) s = ⟨s.data ++ l.toArray⟩ := by
      intro l
      induction l with
      | nil => intro s; simp
      | cons b l ih =>
        intro s
        rw [List.map_cons, List.foldl_cons, ih]
        simp [ByteArray.push]
    rw [e2]
    simp

end Go.Proofs.YtfabcmohaikfoaaDoor
