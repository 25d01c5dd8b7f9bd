/- Contracts of package wire: the reader's small methods, split, counted. The law's helpers: Ints, strings of bytes, the document's examples (awake). Strings of bytes, and Num of nothing, as the laws use them. -/
import Derived.Test.YtmigapjkicddiaaDoorMb
import Derived.BigQuiet
import Derived.Deep.QuietTactic

namespace Go.Proofs.YtmigapjkicddiaaDoor
open Go.RowKit

/-- the error behind a failure with x -/
def failE (e x : Int) : Int := if e = 0 then x else e
/-- how many bytes are left, as the reader tells it -/
def leftN (e : Int) (n : Nat) : Int := if e = 0 then (n : Int) else 0
/-- the error behind End -/
def endE (e : Int) (n : Nat) : Int := if e = 0 ∧ 0 < n then 11 else e
theorem failE_0 (x : Int) : failE 0 x = x := by simp [failE]
theorem failE_n {e : Int} (h : e ≠ 0) (x : Int) : failE e x = e := by simp [failE, h]

theorem cell_blk {w : World} {g : Nat} {t : TypeId} {cs : Array Value} (h : w.heap[g]? = some (.cells cs t (0, 0))) (i : Nat) : w.cell? ⟨g, i, none⟩ = cs[i]? := cell_of_row w g i cs t (0, 0) h
theorem free_blk {w : World} {g : Nat} {t : TypeId} {cs : Array Value} (h : w.heap[g]? = some (.cells cs t (0, 0))) (i : Nat) : w.frozen? ⟨g, i, none⟩ = false := by simp [World.frozen?, h]
theorem set_blk {w : World} {g : Nat} {t : TypeId} {cs : Array Value} (h : w.heap[g]? = some (.cells cs t (0, 0))) (i : Nat) (u : Value) : (w.setCell ⟨g, i, none⟩ u).heap[g]? = some (.cells (cs.setIfInBounds i u) t (0, 0)) :=
  heap_setCell_same w g i cs t u h
theorem grownBy_set (w : World) (g i : Nat) (u : Value) : w.grownBy (w.setCell ⟨g, i, none⟩ u) (some g) :=
  ⟨rfl, rfl, rfl, by simp [World.setCell], fun k _ hk => Below.heap_setCell _ _ _ _ (fun e => hk (by simp [e]))⟩
theorem grownBy_drewN (w : World) (n : Nat) (row : Option Nat) : w.grownBy (w.drewN n) row := ⟨rfl, rfl, rfl, Nat.le_refl _, fun _ _ _ => rfl⟩
theorem grownBy_trans {a b c : World} {row : Option Nat} (h : a.grownBy b row) (k : b.grownBy c row) : a.grownBy c row :=
  ⟨k.os.trans h.os, k.tape.trans h.tape, k.output.trans h.output, Nat.le_trans h.size k.size, fun i hi hne => (k.block i (Nat.lt_of_lt_of_le hi h.size) hne).trans (h.block i hi hne)⟩
theorem grownBy_below {a b : World} (h : Below a.heap.size a b) (row : Option Nat) : a.grownBy b row := ⟨h.os, h.tape, h.output, h.size, fun i hi _ => h.block i hi⟩

end Go.Proofs.YtmigapjkicddiaaDoor

namespace Go.Proofs.YtmigapjkicddiaaDoor
open Go.RowKit

/-- string(b) of a slice that reads as l -/
theorem run_str {P : Program} {w : World} {src dst e : TypeId} {B n c : Nat} {A : Option Addr} {l : List UInt8} (hs : P.underlying src = some (.slice e)) (he : P.underlying e = some (.int .u8)) (hd : P.underlying dst = some .string)
    (hr : Rd w B A n l) : (convert src dst (.slice A n c)).run P w = .ok (.string ⟨l.toArray⟩) w := by
  rw [run_convert_bytes_string w src dst e A n c hs he hd]
  have hl := hr.1
  rcases A with _ | ad
  · have h0 : n = 0 := by
      rcases Nat.eq_zero_or_pos n with h | h
      · exact h
      · obtain ⟨_, hc, _⟩ := hr.2 h
        cases hc
    subst h0
    obtain rfl : l = [] := List.eq_nil_of_length_eq_zero hl
    rfl
  · have hsrc : ∀ j v, (l.map bv)[j]? = some v → w.cell? (ad.add j) = some v := by
      intro j v hv
      have hj : j < (l.map bv).length := (List.getElem?_eq_some_iff.1 hv).1
      obtain ⟨a', ha, hcell⟩ := hr.vals (by rw [List.length_map] at hj; omega)
      cases ha
      exact hcell j v hv
    have hlc := run_loadCells_list (P := P) w ad (l.map bv) hsrc
    rw [List.length_map, hl] at hlc
    have e1 : l.map bv = (l.map fun x => (x.toNat : Int)).map (Value.int .u8) := by simp [bv, Function.comp_def]
    rw [e1] at hlc
    rw [run_bytesToString w ad n c _ hlc]
    congr 2
    have e2 : ∀ (l : List UInt8) (s : ByteArray), (l.map fun x => (x.toNat : Int)).foldl (fun r n => r.push (UInt8.ofNat n.toNat)) s = ⟨s.data ++ l.toArray⟩ := by
      intro l
      induction l with
      | nil => intro s; simp
      | cons b l ih =>
        intro s
        rw [List.map_cons, List.foldl_cons, ih]
        simp [ByteArray.push]
    rw [e2]
    simp

end Go.Proofs.YtmigapjkicddiaaDoor

namespace Go.Proofs.YtmigapjkicddiaaDoor
open Go.RowKit

set_option maxRecDepth 10000 in
theorem str_any {w : World} {B n c : Nat} {A : Option Addr} {l : List UInt8} (hr : Rd w B A n l) : (convert 22 9 (.slice A n c)).run Tryd.prog w = .ok (.string ⟨l.toArray⟩) w :=
  run_str Tryd.underlying22 Tryd.underlying5 Tryd.underlying9 hr
theorem all_succ (X : List UInt8) (j : Nat) (h : j < X.length) : (X.take (j + 1)).all (· == 255) = ((X.take j).all (· == 255) && ((((⟨X.toArray⟩ : ByteArray)[j]'(by show j < X.toArray.size; simpa using h)).toNat : Int) == 255)) := by
  rw [List.take_succ_eq_append_getElem h, List.all_append]
  congr 1
  have e : ((⟨X.toArray⟩ : ByteArray)[j]'(by show j < X.toArray.size; simpa using h)) = X[j] := rfl
  rw [e]
  simp only [List.all_cons, List.all_nil, Bool.and_true]
  rw [Bool.eq_iff_iff, beq_iff_eq, beq_iff_eq, ← UInt8.toNat_inj]
  simp only [UInt8.reduceToNat]
  omega
end Go.Proofs.YtmigapjkicddiaaDoor
