/- What package head calls of the packages below it, in the forms of HdV: stripe's Check, Objects; objmap's Check, Pack, Unpack, Fresh, Merge, Changed. -/
import Derived.Test.YtaobdebeglenaaaHdV
import Derived.Test.YtaobdebeglenaaaMe
import Derived.Test.YtaobdebeglenaaaObZ
namespace Go.Proofs.Ytaobdebeglenaaa
open Go.RowKit

set_option maxRecDepth 10000 in
theorem PObj6 (U C O n : Int) (w : World) : Calls Try.prog 70 #[.agg #[.int .i64 U, .int .i64 C, .int .i64 O], .int .i64 n] w fun e w' => e = .returned (.int .i64 (objH U C O n)) ∧ Below w.heap.size w w' := by
  by_cases h : Lay U C O ∧ 0 ≤ n ∧ n ≤ 512
  · obtain ⟨hL, h0, h1⟩ := h
    have he : objH U C O n = (mxO U.toNat C.toNat (O / U).toNat n.toNat : Nat) := by unfold objH; rw [if_pos ⟨hL, h0, h1⟩]
    rw [he]
    obtain ⟨u, c, m, rfl, rfl, rfl, hN⟩ := hL.num
    obtain ⟨z, rfl⟩ := Int.eq_ofNat_of_zero_le h0
    have h := Objects_ok u c m z w hN (by omega)
    rw [← mxO_eq hN] at h
    have e : (((u * m : Nat) : Int) / (u : Int)).toNat = m := by
      have := hN.u1
      rw [← Int.natCast_ediv, Int.toNat_natCast, Nat.mul_div_cancel_left _ (by omega)]
    rw [e, Int.toNat_natCast, Int.toNat_natCast, Int.toNat_natCast]
    exact h
  · have he : objH U C O n = 0 := by unfold objH; rw [if_neg h]
    rw [he]
    exact Objects_no U C O n w h
set_option maxRecDepth 10000 in
theorem PChk6 (U C O : Int) (w : World) : VF 35 #[.agg #[.int .i64 U, .int .i64 C, .int .i64 O]] w (.int .i64 (if Lay U C O then 0 else 1)) := Check_any U C O w
section
variable {w : World} {A1 A2 : Option Addr} {n1 n2 : Nat} {a b : List Int}
set_option maxRecDepth 10000 in
theorem hCheck (c : Nat) (h : Hid (IAt w A1 n1 a)) : VF 69 #[.slice A1 n1 c] w (.bool (decide (IsRow a))) := PCheck A1 n1 c a w h.out.1 h.out.2
set_option maxRecDepth 10000 in
/-- numbers in new memory -/
def NF (f : Nat) (xs : Array Value) (w : World) (l : List Int) : Prop :=
  Calls Try.prog f xs w fun e w' => ∃ A n c, e = .returned (.slice A n c) ∧ Hid (IAt w' A n l) ∧ Hid (Below w.heap.size w w')
theorem GivesI.nf {f : Nat} {xs : Array Value} {w : World} {l : List Int} (h : GivesI f xs w l) (hl : l.length ≤ 3000) : NF f xs w l :=
  h.mono fun e w' q => by
    obtain ⟨A, n, c, h1, h2, _, h4⟩ := q
    exact ⟨A, n, c, h1, ⟨h2, by rw [← h2.1]; exact hl⟩, h4⟩
theorem row6 {r : List Int} (h : IsRow r) : r.length ≤ 3000 := by have := h.1; omega
set_option maxRecDepth 10000 in
theorem hFresh (c : Nat) (h : Hid (IAt w A1 n1 a)) : NF 59 #[.slice A1 n1 c] w (freshO a) := (PFresh A1 n1 c a w h.out.1 h.out.2).nf (row6 (freshO_is a))
set_option maxRecDepth 10000 in
theorem hMerge (c1 c2 : Nat) (h : Hid (IAt w A1 n1 a)) (g : Hid (IAt w A2 n2 b)) : NF 61 #[.slice A1 n1 c1, .slice A2 n2 c2] w (mergeO a b) := (PMerge A1 A2 n1 n2 c1 c2 a b w h.out.1 g.out.1 h.out.2 g.out.2).nf (row6 (mergeO_is a b))
set_option maxRecDepth 10000 in
theorem hChanged {ll : List (List Int)} (c1 c2 : Nat) (h : Hid (IAt w A1 n1 a)) (g : RdII w w.heap.size A2 n2 ll) (g2 : n2 ≤ 10) (g3 : ∀ l ∈ ll, l.length ≤ 3000) : NF 65 #[.slice A1 n1 c1, .slice A2 n2 c2] w (changedO a ll) :=
  (PChanged A1 A2 n1 n2 c1 c2 a ll w h.out.1 g h.out.2 g2 g3).nf (by have := changedN_len a ll 512; unfold changedO; omega)
set_option maxRecDepth 10000 in
theorem hPack (c : Nat) (h : Hid (IAt w A1 n1 a)) : BF 54 #[.slice A1 n1 c] w (packO a) :=
  (PPack A1 n1 c a w h.out.1 h.out.2).mono fun e w' q => by
    obtain ⟨A, n, c, h1, h2, h3, h4⟩ := q
    exact ⟨A, n, c, h1, ⟨h2, h3.1, h3.2.1, by rw [← h2.1]; have := packO_le a; omega⟩, h4⟩
set_option maxRecDepth 10000 in
/-- a map and whether it is one -/
def UF (f : Nat) (xs : Array Value) (w : World) (b : List UInt8) : Prop :=
  Calls Try.prog f xs w fun e w' => ∃ A n c, e = .returned (.tuple #[.slice A n c, .bool (unO b).isSome]) ∧ Hid (IAt w' A n ((unO b).getD [])) ∧ Hid (Below w.heap.size w w')
set_option maxRecDepth 10000 in
theorem hUnpack {l : List UInt8} (c : Nat) (h : Hid (BAt w A1 n1 c l)) (k : n1 ≤ 1000) : UF 103 #[.slice A1 n1 c] w l :=
  Calls.mono (PUnpack A1 n1 c l w h.out.1 k h.out.2.1) fun e w' q => by
    obtain ⟨A, n, c, h1, h2, _, h4⟩ := q
    exact ⟨A, n, c, h1, ⟨h2, by
      rw [← h2.1]
      cases h : unO l with
      | none => simp
      | some r => exact row6 (unO_some.1 h).1⟩, h4⟩
end
end Go.Proofs.Ytaobdebeglenaaa
