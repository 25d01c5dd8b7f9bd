/- What the laws of layer 4 share: how a list of spans is opened; lists that can be read, carried on; the laws' own few and clean. -/
import Derived.Test.YtikpcpkclecciaaLaw
import Derived.Test.YtikpcpkclecciaaSpZ
import Derived.Test.YtikpcpkclecciaaSpX
import Derived.Deep.SlicePairs
namespace Go.Proofs.Ytikpcpkclecciaa
open Go.ChangeShapes Go.WideShapes Go.ChangeAt Go.RowKit Go.Joins

section
variable {H : Type} {enc : TypeId × Value → H} {w : World} {spare : Nat → Bool} {held : Bool}
theorem ar_spans {base b0 : Nat} {r : Reach} {v : Value} {d : DataW H} {ps : List MemPlace} (k : Value.okWide Try.prog w r b0 22 v) (h : DataW.Trod enc Try.prog w base spare held 22 v d ps) :
    ∃ A n c l, v = .slice A n c ∧ RdS w w.heap.size A n l ∧ n ≤ 9223372036854775807 := by
  obtain ⟨a, n, c, rfl⟩ := okWide_slice Try.underlying22 k
  obtain ⟨fuel, hf⟩ := h
  rcases Go.Deep.open_slice_pairs Try.underlying22 Try.underlying33 (by kernel_rfl) rfl rfl (by kernel_rfl) (by kernel_rfl) hf with ⟨hcs, _⟩ | ⟨a, len, cap, m, n', V0, V1, D0, D1, P0, P1, hcs, _, hl, hm, hmm, _, hx⟩
  · simp [Value.cells] at hcs
    obtain ⟨rfl, rfl, rfl⟩ := hcs
    exact ⟨_, _, _, [], rfl, RdS.nil _ _ _, by omega⟩
  · simp [Value.cells] at hcs
    obtain ⟨rfl, rfl, rfl⟩ := hcs
    have hm : c ≤ 9223372036854775807 := by simpa [maxLen] using hm
    have hlm : n ≤ m := by rw [hmm]; split <;> omega
    have each : ∀ i, i < n → ∃ z : Int × Int, w.cell? (a.add (i * 2)) = some (.int .i64 z.1) ∧ w.cell? (a.add (i * 2 + 1)) = some (.int .i64 z.2) := fun i hi => by
      obtain ⟨c0, c1, t0, t1⟩ := hx i (by omega)
      obtain ⟨z0, e0, _⟩ := op_int Try.underlying3 t0
      obtain ⟨z1, e1, _⟩ := op_int Try.underlying3 t1
      refine ⟨(z0, z1), ?_, ?_⟩
      · rw [c0]; simpa using e0
      · rw [c1]; simpa using e1
    obtain ⟨Z, hZ⟩ := Go.Deep.choose_lt each
    refine ⟨some a, n, c, (List.range n).map Z, rfl, ⟨by simp, fun h0 => ?_⟩, by omega⟩
    have hs : a.spot = none := by
      have h1 := World.cell?_spot (hZ 0 h0).1
      simpa [Addr.add] using h1
    obtain ⟨g, o, s⟩ := a
    obtain rfl : s = none := hs
    have hadd : ∀ j, (⟨g, o, none⟩ : Addr).add j = ⟨g, o + j, none⟩ := fun j => by unfold Addr.add; split <;> simp_all
    refine ⟨g, o, rfl, World.block_lt_of_cell? w _ (hZ 0 h0).1, fun i hi => ?_⟩
    simp only [List.length_map, List.length_range] at hi
    have h2 := hZ i hi
    rw [hadd, hadd] at h2
    simp only [List.getElem_map, List.getElem_range]
    exact h2
end

/-- a list that can be read, and is short -/
def At (w : World) (A : Option Addr) (n : Nat) (l : List Sp) : Prop := RdS w w.heap.size A n l ∧ n ≤ 200
theorem At.keep {w w' : World} {A : Option Addr} {n : Nat} {l : List Sp} (h : Hid (At w A n l)) (hb : Hid (Below w.heap.size w w')) : Hid (At w' A n l) :=
  ⟨(h.out.1.below hb.out).more hb.out.size, h.out.2⟩
theorem At.of {w : World} {A : Option Addr} {n : Nat} {l : List Sp} (h : RdS w w.heap.size A n l) (hl : l.length ≤ 200) : Hid (At w A n l) := ⟨h, by rw [h.1]; exact hl⟩
theorem belG {W w w' : World} (h : Hid (Below W.heap.size W w)) (hb : Hid (Below w.heap.size w w')) : Hid (Below W.heap.size W w') := h.out.trans (hb.out.mono h.out.size)
/-- what a call that gives a short list leaves -/
def GivesA (f : Nat) (xs : Array Value) (w : World) (ps : List Sp) : Prop :=
  Calls Try.prog f xs w fun e w' => ∃ A n c, e = .returned (.slice A n c) ∧ Hid (At w' A n ps) ∧ Hid (Below w.heap.size w w') ∧ Hid (n = ps.length)
theorem GivesS.at {f : Nat} {xs : Array Value} {w : World} {ps : List Sp} (h : GivesS f xs w ps) (hl : ps.length ≤ 200) : GivesA f xs w ps :=
  h.mono fun e w' q => by
    obtain ⟨A, n, c, h1, h2, _, h4⟩ := q
    exact ⟨A, n, c, h1, At.of h2 hl, h4, Lib.hid h2.1⟩
def GivesV (f : Nat) (xs : Array Value) (w : World) (v : Value) : Prop :=
  Calls Try.prog f xs w fun e w' => e = .returned v ∧ Hid (Below w.heap.size w w')

section
variable {w : World} {A1 A2 : Option Addr} {n1 n2 : Nat} {a b : List Sp}
theorem lClean (c : Nat) (h : Hid (At w A1 n1 a)) (hl : (refS a [] 1).length ≤ 200) : GivesA 12 #[.slice A1 n1 c] w (refS a [] 1) := (PClean A1 n1 c a w h.out.1 h.out.2).at hl
theorem lRClean (c : Nat) (h : Hid (At w A1 n1 a)) (hl : (refS a [] 1).length ≤ 200) : GivesA 13 #[.slice A1 n1 c] w (refS a [] 1) := (givesS (RClean_any A1 n1 c a w h.out.1 h.out.2)).at hl
theorem lJoin (c1 c2 : Nat) (h : Hid (At w A1 n1 a)) (g : Hid (At w A2 n2 b)) (hl : (refS a b 1).length ≤ 200) : GivesA 19 #[.slice A1 n1 c1, .slice A2 n2 c2] w (refS a b 1) := (PJoin A1 A2 n1 n2 c1 c2 a b w h.out.1 g.out.1 h.out.2 g.out.2).at hl
theorem lMeet (c1 c2 : Nat) (h : Hid (At w A1 n1 a)) (g : Hid (At w A2 n2 b)) (hl : (refS a b 2).length ≤ 200) : GivesA 20 #[.slice A1 n1 c1, .slice A2 n2 c2] w (refS a b 2) := (PMeet A1 A2 n1 n2 c1 c2 a b w h.out.1 g.out.1 h.out.2 g.out.2).at hl
theorem lLess (c1 c2 : Nat) (h : Hid (At w A1 n1 a)) (g : Hid (At w A2 n2 b)) (hl : (refS a b 3).length ≤ 200) : GivesA 21 #[.slice A1 n1 c1, .slice A2 n2 c2] w (refS a b 3) := (PLess A1 A2 n1 n2 c1 c2 a b w h.out.1 g.out.1 h.out.2 g.out.2).at hl
theorem lOf (c1 c2 : Nat) (what : Int) (h : Hid (At w A1 n1 a)) (g : Hid (At w A2 n2 b)) (hw : what = 1 ∨ what = 2 ∨ what = 3) (hl : (refS a b what).length ≤ 200) : GivesA 18 #[.slice A1 n1 c1, .slice A2 n2 c2, .int .i64 what] w (refS a b what) :=
  (givesS (ROf_any A1 A2 n1 n2 c1 c2 a b what w h.out.1 g.out.1 h.out.2 g.out.2 hw)).at hl
theorem lHas (c : Nat) (x : Int) (h : Hid (At w A1 n1 a)) : GivesV 16 #[.slice A1 n1 c, .int .i64 x] w (.bool (hasB a x)) := PHas A1 n1 c a x w h.out.1 h.out.2
theorem lRHas (c : Nat) (x : Int) (h : Hid (At w A1 n1 a)) : GivesV 17 #[.slice A1 n1 c, .int .i64 x] w (.bool (hasB a x)) :=
  (RHas_any A1 n1 c a x _ w h.out.1 (by have := h.out.2; omega)).mono fun e w' q => by obtain ⟨rfl, rfl⟩ := q; exact ⟨rfl, Below.refl _ _⟩
theorem lMany (c : Nat) (h : Hid (At w A1 n1 a)) : GivesV 14 #[.slice A1 n1 c] w (.int .i64 (sumS (refS a [] 1))) := PMany A1 n1 c a w h.out.1 h.out.2
theorem lRMany (c : Nat) (h : Hid (At w A1 n1 a)) : GivesV 15 #[.slice A1 n1 c] w (.int .i64 (sumS (refS a [] 1))) := RMany_any A1 n1 c a w h.out.1 h.out.2
theorem lWithin (c1 c2 : Nat) (h : Hid (At w A1 n1 a)) (g : Hid (At w A2 n2 b)) : GivesV 22 #[.slice A1 n1 c1, .slice A2 n2 c2] w (.bool (decide (refS a b 3 = []))) := PWithin A1 A2 n1 n2 c1 c2 a b w h.out.1 g.out.1 h.out.2 g.out.2
theorem lSame (c1 c2 : Nat) (h : Hid (At w A1 n1 a)) (g : Hid (At w A2 n2 b)) : GivesV 11 #[.slice A1 n1 c1, .slice A2 n2 c2] w (.bool (decide (a = b))) :=
  (RSame_any A1 A2 n1 n2 c1 c2 a b _ w h.out.1 g.out.1 (by have := h.out.2; omega) (by have := g.out.2; omega)).mono fun e w' q => by
    obtain ⟨rfl, k, rfl⟩ := q
    exact ⟨rfl, ⟨rfl, rfl, rfl, Nat.le_refl _, fun _ _ => rfl⟩⟩
theorem lYes (c1 c2 : Nat) (h : Hid (At w A1 n1 a)) (g : Hid (At w A2 n2 b)) (e : a = b) : GivesV 11 #[.slice A1 n1 c1, .slice A2 n2 c2] w (.bool true) := by
  have q := lSame c1 c2 h g
  rw [decide_eq_true e] at q
  exact q
end
end Go.Proofs.Ytikpcpkclecciaa
