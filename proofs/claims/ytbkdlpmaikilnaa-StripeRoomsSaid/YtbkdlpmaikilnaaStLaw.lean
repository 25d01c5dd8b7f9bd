/- What the laws of layer 3 share: how a layout is opened; what program and document both answer, whatever the arguments. -/
import Derived.Test.YtbkdlpmaikilnaaLaw
import Derived.Test.YtbkdlpmaikilnaaStM
import Derived.Test.YtbkdlpmaikilnaaStRO
namespace Go.Proofs.Ytbkdlpmaikilnaa
open Go.ChangeShapes Go.WideShapes Go.ChangeAt Go.RowKit Go.Joins

theorem Try.cellsL : Try.prog.cellsOf 23 = 3 := by kernel_rfl
section
variable {H : Type} {enc : TypeId × Value → H} {w : World} {spare : Nat → Bool} {held : Bool}
theorem ar_layout {base b0 : Nat} {r : Reach} {v : Value} {d : DataW H} {ps : List MemPlace} (k : Value.okWide Try.prog w r b0 23 v) (h : DataW.Trod enc Try.prog w base spare held 23 v d ps) :
    ∃ U C O, v = .agg #[.int .i64 U, .int .i64 C, .int .i64 O] ∧ I64 U ∧ I64 C ∧ I64 O := by
  obtain ⟨v0, v1, v2, y0, y1, y2, n, rfl, _, _, h0, h1, h2⟩ := open_agg3 Try.underlying23 (by kernel_rfl) Try.cellsL k h
  obtain ⟨U, e0, i0⟩ := op_int Try.underlying3 h0
  obtain ⟨C, e1, i1⟩ := op_int Try.underlying3 h1
  obtain ⟨O, e2, i2⟩ := op_int Try.underlying3 h2
  cases e0; cases e1; cases e2
  exact ⟨U, C, O, rfl, i0, i1, i2⟩
end

/-- a call that answers v, and changes nothing that was there -/
def Gives (f : Nat) (xs : Array Value) (v : Value) : Prop := ∀ w, Calls Try.prog f xs w fun e w' => e = .returned v ∧ Below w.heap.size w w'
abbrev lay (U C O : Int) : Value := .agg #[.int .i64 U, .int .i64 C, .int .i64 O]

theorem Place_all (U C O off : Int) : ∃ o k : Int, Gives 11 #[lay U C O, .int .i64 off] (.tuple #[.int .i64 o, .int .i64 k]) ∧ Gives 12 #[lay U C O, .int .i64 off] (.tuple #[.int .i64 o, .int .i64 k]) := by
  by_cases h : Lay U C O ∧ 0 ≤ off ∧ off ≤ 1099511627776
  · obtain ⟨hL, h0, h1⟩ := h
    obtain ⟨u, c, m, rfl, rfl, rfl, hN⟩ := hL.num
    obtain ⟨z, rfl⟩ := Int.eq_ofNat_of_zero_le h0
    exact ⟨_, _, fun w => Place_ok u c m z w hN (by omega), fun w => RPlace_ok u c m z w hN (by omega)⟩
  · exact ⟨_, _, fun w => Place_no U C O off w h, fun w => RPlace_no U C O off w h⟩
theorem Back_all (U C O ob off : Int) : ∃ z : Int, Gives 14 #[lay U C O, .int .i64 ob, .int .i64 off] (.int .i64 z) ∧ Gives 15 #[lay U C O, .int .i64 ob, .int .i64 off] (.int .i64 z) := by
  by_cases h : Lay U C O ∧ 0 ≤ ob ∧ ob ≤ 1099511627776 ∧ 0 ≤ off ∧ off < O
  · obtain ⟨hL, h0, h1, h2, h3⟩ := h
    obtain ⟨u, c, m, rfl, rfl, rfl, hN⟩ := hL.num
    obtain ⟨z, rfl⟩ := Int.eq_ofNat_of_zero_le h0
    obtain ⟨y, rfl⟩ := Int.eq_ofNat_of_zero_le h2
    exact ⟨_, fun w => Back_ok u c m z y w hN (by omega) (by omega), fun w => RBack_ok u c m z y w hN (by omega) (by omega)⟩
  · exact ⟨_, fun w => Back_no U C O ob off w h, fun w => RBack_no U C O ob off w h⟩
theorem Objects_all (U C O n : Int) : ∃ z : Int, Gives 19 #[lay U C O, .int .i64 n] (.int .i64 z) ∧ Gives 20 #[lay U C O, .int .i64 n] (.int .i64 z) := by
  by_cases h : Lay U C O ∧ 0 ≤ n ∧ n ≤ 512
  · obtain ⟨hL, h0, h1⟩ := h
    obtain ⟨u, c, m, rfl, rfl, rfl, hN⟩ := hL.num
    obtain ⟨z, rfl⟩ := Int.eq_ofNat_of_zero_le h0
    refine ⟨_, fun w => Objects_ok u c m z w hN (by omega), fun w => ?_⟩
    have h := RObjects_ok u c m z w hN (by omega)
    rw [mxO_eq hN] at h
    exact h
  · exact ⟨_, fun w => Objects_no U C O n w h, fun w => RObjects_no U C O n w h⟩
theorem Room_all (U C O ob n : Int) : ∃ z : Int, Gives 21 #[lay U C O, .int .i64 ob, .int .i64 n] (.int .i64 z) ∧ Gives 22 #[lay U C O, .int .i64 ob, .int .i64 n] (.int .i64 z) := by
  by_cases h : Lay U C O ∧ 0 ≤ n ∧ n ≤ 512
  · obtain ⟨hL, h0, h1⟩ := h
    obtain ⟨u, c, m, rfl, rfl, rfl, hN⟩ := hL.num
    obtain ⟨z, rfl⟩ := Int.eq_ofNat_of_zero_le h0
    by_cases hob : 0 ≤ ob ∧ ob ≤ 1099511627776
    · obtain ⟨y, rfl⟩ := Int.eq_ofNat_of_zero_le hob.1
      refine ⟨_, fun w => Room_ok u c m y z w hN (by omega) (by omega), fun w => ?_⟩
      have h := RRoom_ok u c m z y w hN (by omega)
      rw [mxRI_nat, mxR_eq hN] at h
      exact h
    · refine ⟨_, fun w => Room_no _ _ _ ob z w (fun q => hob ⟨q.2.1, q.2.2.1⟩), fun w => ?_⟩
      have h := RRoom_ok u c m z ob w hN (by omega)
      rw [mxRI_out ob z (fun j hj e => by have := pO_le hN j; omega)] at h
      exact h
  · exact ⟨_, fun w => Room_no U C O ob n w (fun q => h ⟨q.1, q.2.2.2⟩), fun w => RRoom_no U C O ob n w h⟩
/-- a call that answers pieces -/
def GivesP (f : Nat) (xs : Array Value) (ps : List Pc) : Prop := ∀ w, Calls Try.prog f xs w fun e w' => ∃ A n c, e = .returned (.slice A n c) ∧ RdP w' A n ps ∧ n ≤ 100000 ∧ Below w.heap.size w w'
theorem RdP.nil (w : World) : RdP w none 0 [] := ⟨rfl, fun h => absurd h (by omega)⟩
theorem givesP {f : Nat} {xs : Array Value} {ps : List Pc} (hl : ps.length ≤ 100000) (h : ∀ w, Calls Try.prog f xs w fun e w' => ∃ v, e = .returned v ∧ w'.ownsRow w.heap.size 37 4 v ps.length (flat ps) ∧ Below w.heap.size w w') : GivesP f xs ps :=
  fun w => (h w).mono fun e w' q => by
    obtain ⟨v, h1, h2, h3⟩ := q
    obtain ⟨A, c, rfl, _, _, _⟩ := own_form h2
    exact ⟨A, _, c, h1, RdP.own h2 rfl, hl, h3⟩
theorem Pieces_all (U C O off n : Int) : ∃ ps, GivesP 17 #[lay U C O, .int .i64 off, .int .i64 n] ps ∧ GivesP 18 #[lay U C O, .int .i64 off, .int .i64 n] ps := by
  by_cases h : Lay U C O ∧ 0 ≤ off ∧ off ≤ 1099511627776 ∧ 0 ≤ n ∧ n ≤ 512
  · obtain ⟨hL, h0, h1, h2, h3⟩ := h
    obtain ⟨u, c, m, rfl, rfl, rfl, hN⟩ := hL.num
    obtain ⟨z, rfl⟩ := Int.eq_ofNat_of_zero_le h0
    obtain ⟨y, rfl⟩ := Int.eq_ofNat_of_zero_le h2
    have hl : (pcs u c m z y).length ≤ 100000 := by have := pcs_len u c m z y; omega
    exact ⟨_, givesP hl fun w => Pieces_ok u c m z y w hN (by omega) (by omega), givesP hl fun w => RPieces_ok u c m z y w hN (by omega) (by omega)⟩
  · exact ⟨[], fun w => (Pieces_no U C O off n w h).mono fun e w' q => ⟨none, 0, 0, q.1, RdP.nil w', by omega, q.2⟩, fun w => (RPieces_no U C O off n w h).mono fun e w' q => ⟨none, 0, 0, q.1, RdP.nil w', by omega, q.2⟩⟩
end Go.Proofs.Ytbkdlpmaikilnaa
