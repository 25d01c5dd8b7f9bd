/- Contracts of the document's Pieces where there are none, and of Same. -/
import Derived.Test.YtbkdlpmaikilnaaStRD
namespace Go.Proofs.Ytbkdlpmaikilnaa
open Go.RowKit

/-- the pieces of a slice can be read -/
def RdP (w : World) (A : Option Addr) (n : Nat) (ps : List Pc) : Prop :=
  n = ps.length ∧ (0 < n → ∃ g, A = some ⟨g, 0, none⟩ ∧ ∀ i (hi : i < ps.length), w.cell? ⟨g, i * 4, none⟩ = some (.int .i64 (ps[i].o)) ∧ w.cell? ⟨g, i * 4 + 1, none⟩ = some (.int .i64 (ps[i].k)) ∧ w.cell? ⟨g, i * 4 + 2, none⟩ = some (.int .i64 (ps[i].l)) ∧ w.cell? ⟨g, i * 4 + 3, none⟩ = some (.int .i64 (ps[i].f)))
theorem flat_get : ∀ (ps : List Pc) (i j : Nat) (hi : i < ps.length), j < 4 → (flat ps)[i * 4 + j]? = (pcC ps[i])[j]?
  | p :: ps, 0, j, _, hj => by
    rw [show flat (p :: ps) = pcC p ++ flat ps from rfl, Nat.zero_mul, Nat.zero_add, List.getElem?_append_left (by simp [pcC]; omega)]
    rfl
  | p :: ps, i + 1, j, hi, hj => by
    rw [show flat (p :: ps) = pcC p ++ flat ps from rfl, List.getElem?_append_right (by simp [pcC]; omega), show (i + 1) * 4 + j - (pcC p).length = i * 4 + j by simp [pcC]; omega]
    exact flat_get ps i j (by simpa using hi) hj
theorem RdP.own {w : World} {B n c : Nat} {A : Option Addr} {ps : List Pc} (h : w.ownsRow B 37 4 (.slice A n c) n (flat ps)) (hn : n = ps.length) : RdP w A n ps := by
  refine ⟨hn, fun h0 => ?_⟩
  have h' := h
  rcases h'.2 with ⟨_, hz⟩ | ⟨g, cap, cur, he, _, _, _⟩
  · omega
  · cases he
    refine ⟨g, rfl, fun i hi => ⟨?_, ?_, ?_, ?_⟩⟩
    · rw [h.cellAt (i * 4) (by omega)]; exact flat_get ps i 0 hi (by omega)
    · rw [h.cellAt (i * 4 + 1) (by omega)]; exact flat_get ps i 1 hi (by omega)
    · rw [h.cellAt (i * 4 + 2) (by omega)]; exact flat_get ps i 2 hi (by omega)
    · rw [h.cellAt (i * 4 + 3) (by omega)]; exact flat_get ps i 3 hi (by omega)
theorem RdP.to {w w' : World} {A : Option Addr} {n : Nat} {ps : List Pc} (h : RdP w A n ps) (hb : Below w.heap.size w w') : RdP w' A n ps := by
  refine ⟨h.1, fun h0 => ?_⟩
  obtain ⟨g, he, hc⟩ := h.2 h0
  exact ⟨g, he, fun i hi => ⟨cellK (hc i hi).1 hb, cellK (hc i hi).2.1 hb, cellK (hc i hi).2.2.1 hb, cellK (hc i hi).2.2.2 hb⟩⟩
theorem RdP.drew {w : World} {A : Option Addr} {n : Nat} {ps : List Pc} (h : RdP w A n ps) (q : Nat) : RdP (w.drewN q) A n ps := h

set_option maxHeartbeats 1000000 in
theorem RPieces_no (U C O off n : Int) (w : World) (h : ¬ (Lay U C O ∧ 0 ≤ off ∧ off ≤ 1099511627776 ∧ 0 ≤ n ∧ n ≤ 512)) :
    Calls Try.prog 18 #[.agg #[.int .i64 U, .int .i64 C, .int .i64 O], .int .i64 off, .int .i64 n] w fun e w' => e = .returned (.slice none 0 0) ∧ Below w.heap.size w w' := by
  by_cases hL : Lay U C O
  · have Hd := Lib.hid (decide_eq_true hL)
    by_cases h0 : 0 ≤ off
    · by_cases h1 : off ≤ 1099511627776
      · by_cases h2 : 0 ≤ n
        · have h3 : 512 < n := Int.not_le.1 fun q => h ⟨hL, h0, h1, h2, q⟩
          clear hL h
          go_enter Try.func18, Try.ntmps18
          go_wp2_with fail
          refine (May_any U C O _).mono ?_
          rintro e w1 ⟨rfl, hb1⟩
          rw [Hd.out]
          have Hb1 := Lib.hid (bel1 hb1)
          clear hb1
          go_wp2_with fail
          go_ret
          exact ⟨rfl, Hb1.out⟩
        · clear hL h
          go_enter Try.func18, Try.ntmps18
          go_wp2_with fail
          refine (May_any U C O _).mono ?_
          rintro e w1 ⟨rfl, hb1⟩
          rw [Hd.out]
          have Hb1 := Lib.hid (bel1 hb1)
          clear hb1
          go_wp2_with fail
          go_ret
          exact ⟨rfl, Hb1.out⟩
      · clear hL h
        go_enter Try.func18, Try.ntmps18
        go_wp2_with fail
        refine (May_any U C O _).mono ?_
        rintro e w1 ⟨rfl, hb1⟩
        rw [Hd.out]
        have Hb1 := Lib.hid (bel1 hb1)
        clear hb1
        go_wp2_with fail
        go_ret
        exact ⟨rfl, Hb1.out⟩
    · clear hL h
      go_enter Try.func18, Try.ntmps18
      go_wp2_with fail
      refine (May_any U C O _).mono ?_
      rintro e w1 ⟨rfl, hb1⟩
      rw [Hd.out]
      have Hb1 := Lib.hid (bel1 hb1)
      clear hb1
      go_wp2_with fail
      go_ret
      exact ⟨rfl, Hb1.out⟩
  · have Hd := Lib.hid (decide_eq_false hL)
    clear hL h
    go_enter Try.func18, Try.ntmps18
    go_wp2_with fail
    refine (May_any U C O _).mono ?_
    rintro e w1 ⟨rfl, hb1⟩
    rw [Hd.out]
    have Hb1 := Lib.hid (bel1 hb1)
    clear hb1
    go_wp2_with fail
    go_ret
    exact ⟨rfl, Hb1.out⟩

set_option maxHeartbeats 1000000 in
theorem Same_any (A1 A2 : Option Addr) (n c1 c2 : Nat) (ps : List Pc) (w : World) (hr1 : RdP w A1 n ps) (hr2 : RdP w A2 n ps) (hn : n ≤ 100000) :
    Calls Try.prog 16 #[.slice A1 n c1, .slice A2 n c2] w fun e w' => e = .returned (.bool true) ∧ Below w.heap.size w w' := by
  have H1 := Lib.hid hr1
  have H2 := Lib.hid hr2
  clear hr1 hr2
  go_enter Try.func16, Try.ntmps16
  go_wp2_with fail
  go_loopw [5] (fun i wr => ∃ j : Nat, j ≤ n ∧ i = .int .i64 j ∧ Hid (RdP wr A1 n ps) ∧ Hid (RdP wr A2 n ps) ∧ Hid (Below w.heap.size w wr)) (fun i _ => n - (intOf i).toNat)
  case atStart => exact ⟨0, Nat.zero_le _, rfl, H1, H2, Below.refl _ _⟩
  case round =>
    obtain ⟨j, hj, rfl, Hr1, Hr2, Hbr⟩ := hrel
    clear H1 H2
    by_cases hlt : j < n
    · have hjl : j < ps.length := by rw [← Hr1.out.1]; exact hlt
      obtain ⟨g1, rfl, hc1⟩ := Hr1.out.2 (by omega)
      obtain ⟨g2, rfl, hc2⟩ := Hr2.out.2 (by omega)
      obtain ⟨p0, p1, p2, p3⟩ := hc1 j hjl
      obtain ⟨q0, q1, q2, q3⟩ := hc2 j hjl
      generalize ps[j] = p at p0 p1 p2 p3 q0 q1 q2 q3
      have hj0 : (0 : Int) ≤ (j : Int) := by omega
      have hj1 : (j : Int) < (n : Int) := by omega
      clear hc1 hc2 hjl
      go_wp2_with fail
      go_quiet (fail)
      go_wp2_with fail
      go_roundw
      case rel =>
        have hb := Hbr.out
        exact ⟨j + 1, by omega, by go_num, Hr1.out.drew _, Hr2.out.drew _, ⟨hb.os, hb.tape, hb.output, hb.size, hb.block⟩⟩
      case measure => simp [intOf]; omega
    · obtain rfl : j = n := by omega
      go_wp2_with fail
      go_ret
      exact ⟨rfl, Hbr.out⟩
end Go.Proofs.Ytbkdlpmaikilnaa
