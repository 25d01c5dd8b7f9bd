/- The words of layer 7's laws: one form for entries that are letters. -/
import Derived.Test.YtfabcmohaikfoaaDoorEnLaw
import Derived.Test.YtfabcmohaikfoaaDoorEnM
namespace Go.Proofs.YtfabcmohaikfoaaDoor
open Go.RowKit

/-- the value of an entry that is a letter -/
abbrev EV (X : En) (A : Option Addr) (c : Nat) : Value := eV X.s X.o X.k X.f X.l X.p A X.d.length c
/-- an entry that is told -/
def NewE (w : World) (Y : En) (r : Ending) (w' : World) : Prop :=
  ∃ A c, r = .returned (EV Y A c) ∧ Hid (Rd w' w'.heap.size A Y.d.length Y.d) ∧ Y.d.length ≤ c ∧ c ≤ 9223372036854775807 ∧ Hid (Below w.heap.size w w')
set_option maxRecDepth 10000 in
/-- bytes that are told, in new memory -/
def NewB (w : World) (l : List UInt8) (r : Ending) (w' : World) : Prop :=
  ∃ A c, r = .returned (.slice A l.length c) ∧ Hid (w'.ownsRow w.heap.size 5 1 (.slice A l.length c) l.length (l.map bv)) ∧ l.length ≤ c ∧ c ≤ 9223372036854775807 ∧ Hid (Below w.heap.size w w')
/-- an entry and an error that are told -/
def NewU (w : World) (Y : En) (E : Int) (r : Ending) (w' : World) : Prop :=
  ∃ A c, r = .returned (.tuple #[EV Y A c, .int .i64 E]) ∧ Hid (Rd w' w'.heap.size A Y.d.length Y.d) ∧ Y.d.length ≤ c ∧ c ≤ 9223372036854775807 ∧ Hid (Below w.heap.size w w')
section
variable {X Y : En} {A A' : Option Addr} {c c' : Nat} {w : World}
set_option maxRecDepth 10000 in
theorem xCheck (X : En) (A : Option Addr) (c : Nat) (w : World) : Val7 11 #[EV X A c] w (.int .i64 (may7E X)) := Check7 X.s X.o X.k X.f X.l X.p A _ c X.d rfl w
set_option maxRecDepth 10000 in
theorem xMay (X : En) (A : Option Addr) (c : Nat) (w : World) : Val7 10 #[EV X A c] w (.bool (decide (May7 X))) := RMay7 X.s X.o X.k X.f X.l X.p A _ c X.d rfl w
set_option maxRecDepth 10000 in
theorem xClean (hr : Rd w w.heap.size A X.d.length X.d) (hn : X.d.length ≤ 100000) (ht : T7 w) : Calls Tryd.prog 13 #[EV X A c] w (NewE w (cln7 X)) :=
  (Clean7 X.s X.o X.k X.f X.l X.p A _ c X.d w hr hn ht).mono fun r w' q => by
    obtain ⟨A, c, h1, h2, h3, h4, h5⟩ := q
    exact ⟨A, c, h1, Rd.own h2, h3, by simpa [maxLen] using h4, h5⟩
set_option maxRecDepth 10000 in
theorem xRClean (hr : Rd w w.heap.size A X.d.length X.d) (hc : X.d.length ≤ c) (hm : c ≤ 9223372036854775807) : Calls Tryd.prog 14 #[EV X A c] w (NewE w (cln7 X)) :=
  (RClean7 X.s X.o X.k X.f X.l X.p A _ c X.d w hr hc hm).mono fun r w' q => by
    obtain ⟨A, n, c, h1, rfl, h2, h3, h4, h5⟩ := q
    exact ⟨A, c, h1, h2, h3, h4, h5⟩
set_option maxRecDepth 10000 in
theorem xSame (hr : Rd w w.heap.size A X.d.length X.d) (hr' : Rd w w.heap.size A' Y.d.length Y.d) : Val7 12 #[EV X A c, EV Y A' c'] w (.bool (decide (X = Y))) :=
  RSame7 X.s X.o X.k X.f X.l X.p A _ c X.d Y.s Y.o Y.k Y.f Y.l Y.p A' _ c' Y.d w hr hr'
set_option maxRecDepth 10000 in
theorem xPack (hr : Rd w w.heap.size A X.d.length X.d) (hn : X.d.length ≤ 100000) (ht : T7 w) : Calls Tryd.prog 17 #[EV X A c] w (NewB w (pack7 X)) :=
  (Pack7 X.s X.o X.k X.f X.l X.p A _ c X.d w hr hn ht).mono fun r w' q => by
    obtain ⟨A, c, h1, h2, h3, h4, h5⟩ := q
    exact ⟨A, c, h1, h4, h2, by simpa [maxLen] using h3, h5⟩
set_option maxRecDepth 10000 in
theorem xRPack (hr : Rd w w.heap.size A X.d.length X.d) (hc : X.d.length ≤ c) (hm : c ≤ 9223372036854775807) : Calls Tryd.prog 18 #[EV X A c] w (NewB w (pack7 X)) :=
  (RPack7 X.s X.o X.k X.f X.l X.p A _ c X.d w hr hc hm).mono fun r w' q => by
    obtain ⟨A, c, h1, h2, h3, h4, h5⟩ := q
    exact ⟨A, c, h1, h4, h2, by simpa [maxLen] using h3, h5⟩
set_option maxRecDepth 10000 in
theorem xUnpack {n : Nat} {b : List UInt8} (hr : Rd w w.heap.size A n b) (hn : n ≤ 100000) (hc : n ≤ c) (hm : c ≤ 9223372036854775807) (ht : T7 w) : Calls Tryd.prog 15 #[.slice A n c] w (NewU w (un7 b) (unE7 b)) :=
  (Unpack7 A n c b w hr hn hc hm ht).mono fun _ _ q => q
set_option maxRecDepth 10000 in
theorem xRUnpack {n : Nat} {b : List UInt8} (hr : Rd w w.heap.size A n b) (hn : n ≤ 100000) (hc : n ≤ c) (hm : c ≤ 9223372036854775807) : Calls Tryd.prog 16 #[.slice A n c] w (NewU w (un7 b) (unE7 b)) :=
  (RUnpack7 A n c b w hr hn hc hm).mono fun _ _ q => q
end
theorem blk7 {w w' : World} {b : Nat} {o : Obj} (h : Hid (w.heap[b]? = some o)) (hb : Hid (Below w.heap.size w w')) : Hid (w'.heap[b]? = some o) := (hb.out.block b (lt_of_block h.out)).trans h.out
theorem rdk7 {w w' : World} {n : Nat} {A : Option Addr} {l : List UInt8} (h : Hid (Rd w w.heap.size A n l)) (hb : Hid (Below w.heap.size w w')) : Hid (Rd w' w'.heap.size A n l) := (h.out.below hb.out).more hb.out.size
theorem rdW7 {W w : World} {n : Nat} {A : Option Addr} {l : List UInt8} (h : Hid (Rd W W.heap.size A n l)) (hb : Hid (Below W.heap.size W w)) : Rd w w.heap.size A n l := (h.out.below hb.out).more hb.out.size
theorem drew7 {w w1 : World} (h : Hid (Below w.drew.heap.size w.drew w1)) : Hid (Below w.heap.size w w1) := ⟨h.out.os, h.out.tape, h.out.output, h.out.size, h.out.block⟩
theorem un_len {b : List UInt8} : (un7 b).d.length ≤ 128 := by
  unfold un7
  split
  · exact rB_le _
  · simp [en0]
end Go.Proofs.YtfabcmohaikfoaaDoor
