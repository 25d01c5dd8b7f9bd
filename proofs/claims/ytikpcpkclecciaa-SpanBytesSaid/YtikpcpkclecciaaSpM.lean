/- Contracts of the document's Clean, Many, Same (spans), and of the laws' own few, clean. -/
import Derived.Test.YtikpcpkclecciaaSpO
namespace Go.Proofs.Ytikpcpkclecciaa
open Go.RowKit

theorem RClean_any (A : Option Addr) (n c : Nat) (a : List Sp) (w : World) (hr : RdS w w.heap.size A n a) (h1 : n ≤ 200) :
    Calls Try.prog 13 #[.slice A n c] w fun e w' => ∃ v, e = .returned v ∧ w'.ownsRow w.heap.size 33 2 v (refS a [] 1).length (flatS (refS a [] 1)) ∧ Below w.heap.size w w' := by
  have Hr := Lib.hid hr
  clear hr
  go_enter Try.func13, Try.ntmps13
  go_wp2_with fail
  refine (ROf_any A none n 0 c 0 a [] 1 w Hr.out (RdS.nil _ _ _) h1 (by omega) (.inl rfl)).mono ?_
  rintro e w1 ⟨v, rfl, hown, hb⟩
  have Ho := Lib.hid hown
  have Hb := Lib.hid hb
  clear hown hb
  go_wp2_with fail
  go_ret
  exact ⟨v, rfl, Ho.out, Hb.out⟩

/-- how many bytes the spans of a canonical list have -/
def sumS (ps : List Sp) : Int := (ps.map fun s => s.2 - s.1).sum
theorem sumS_cons (s : Sp) (r : List Sp) : sumS (s :: r) = (s.2 - s.1) + sumS r := by simp [sumS]
theorem sumS_snoc (r : List Sp) (s : Sp) : sumS (r ++ [s]) = sumS r + (s.2 - s.1) := by simp [sumS]
theorem CanF.sum : ∀ {b : Int} {l : List Sp}, CanF b l → 0 ≤ sumS l ∧ sumS l ≤ endF b l - b ∧ (l ≠ [] → endF b l ≤ farS)
  | b, [], _ => by simp [sumS, endF]
  | b, s :: r, h => by
    obtain ⟨h1, h2, h3, h4⟩ := h
    obtain ⟨i1, i2, i3⟩ := h4.sum
    rw [sumS_cons]
    refine ⟨by omega, by show _ ≤ endF s.2 r - b; omega, fun _ => ?_⟩
    show endF s.2 r ≤ farS
    cases r with
    | nil => exact h3
    | cons x y => exact i3 (by simp)
theorem CanF.take : ∀ {b : Int} {l : List Sp} (j : Nat), CanF b l → CanF b (l.take j)
  | _, _, 0, _ => by simp [CanF]
  | _, [], _ + 1, _ => trivial
  | _, _ :: _, j + 1, h => ⟨h.1, h.2.1, h.2.2.1, h.2.2.2.take j⟩
theorem canon_sum {l : List Sp} (h : Canon l) (j : Nat) : 0 ≤ sumS (l.take j) ∧ sumS (l.take j) ≤ 1099511627777 := by
  obtain ⟨h1, h2, h3⟩ := (h.take j).sum
  refine ⟨h1, ?_⟩
  by_cases q : l.take j = []
  · rw [q]; simp [sumS]
  · have := h3 q
    have : endF (-1) (l.take j) ≤ 1099511627776 := this
    omega
theorem canon_bd : ∀ {b : Int} {l : List Sp}, -1 ≤ b → CanF b l → ∀ i (h : i < l.length), 0 ≤ l[i].1 ∧ l[i].1 < l[i].2 ∧ l[i].2 ≤ 1099511627776
  | b, s :: r, hb, h, 0, _ => ⟨by have := h.1; show 0 ≤ s.1; omega, h.2.1, h.2.2.1⟩
  | b, s :: r, hb, h, i + 1, hi => canon_bd (by have := h.1; have := h.2.1; omega) h.2.2.2 i (by simpa using hi)

/-- what a call tells: spans that can be read, in new memory -/
def GivesS (f : Nat) (xs : Array Value) (w : World) (ps : List Sp) : Prop :=
  Calls Try.prog f xs w fun e w' => ∃ A n c, e = .returned (.slice A n c) ∧ RdS w' w'.heap.size A n ps ∧ n ≤ 9223372036854775807 ∧ Below w.heap.size w w'
theorem givesS {f : Nat} {xs : Array Value} {w : World} {ps : List Sp} (h : Calls Try.prog f xs w fun e w' => ∃ v, e = .returned v ∧ w'.ownsRow w.heap.size 33 2 v ps.length (flatS ps) ∧ Below w.heap.size w w') : GivesS f xs w ps :=
  h.mono fun e w' q => by
    obtain ⟨v, h1, h2, h3⟩ := q
    obtain ⟨A, c, rfl, h4, h5⟩ := ownF h2
    have h6 : c ≤ 9223372036854775807 := by simpa [maxLen] using h5
    exact ⟨A, _, c, h1, RdS.own h2 rfl, by omega, h3⟩

set_option maxHeartbeats 1000000 in
theorem RMany_any (A : Option Addr) (n c : Nat) (a : List Sp) (w : World) (hr : RdS w w.heap.size A n a) (h1 : n ≤ 200) :
    Calls Try.prog 15 #[.slice A n c] w fun e w' => e = .returned (.int .i64 (sumS (refS a [] 1))) ∧ Below w.heap.size w w' := by
  have HG := Lib.hid (givesS (RClean_any A n c a w hr h1))
  have Hc := Lib.hid (refS_ok a [] 1).1
  clear hr
  generalize refS a [] 1 = ps at HG Hc ⊢
  go_enter Try.func15, Try.ntmps15
  go_wp2_with fail
  refine HG.out.mono ?_
  rintro e w1 ⟨A1, ln, cp, rfl, ho, hcap, hb⟩
  have Ho := Lib.hid ho
  have Hb := Lib.hid hb
  clear ho hb
  go_wp2_with fail
  go_loopw [3, 5] (fun s i wr => ∃ j : Nat, j ≤ ln ∧ i = .int .i64 j ∧ s = .int .i64 (sumS (ps.take j)) ∧ Hid (RdS wr w1.heap.size A1 ln ps) ∧ Hid (Below w.heap.size w wr)) (fun _ i _ => ln - (intOf i).toNat)
  case atStart => exact ⟨0, Nat.zero_le _, rfl, rfl, Ho, Hb⟩
  case round =>
    obtain ⟨j, hj, rfl, rfl, Hor, Hbr⟩ := hrel
    by_cases hjn : j < ln
    · have hjl : j < ps.length := by rw [← Ho.out.1]; exact hjn
      obtain ⟨g, o, rfl, _, hc⟩ := Hor.out.2 (by omega)
      obtain ⟨x0, x1⟩ := hc j hjl
      have hbd := canon_bd (Int.le_refl _) Hc.out j hjl
      have hs0 := canon_sum Hc.out j
      have hs1 := canon_sum Hc.out (j + 1)
      have hst : sumS (ps.take (j + 1)) = sumS (ps.take j) + (ps[j].2 - ps[j].1) := by rw [List.take_succ_eq_append_getElem hjl, sumS_snoc]
      generalize ps[j] = p at x0 x1 hbd hst
      generalize sumS (ps.take j) = s0 at *
      obtain ⟨d, hd⟩ : ∃ d, d = p.2 - p.1 := ⟨_, rfl⟩
      obtain ⟨s1, hs1e⟩ : ∃ s1, s1 = s0 + d := ⟨_, rfl⟩
      have h3 : IntKind.i64.wrap (p.2 - p.1) = d := by rw [IntWalk.i64_in _ (by omega)]; exact hd.symm
      have h4 : IntKind.i64.wrap (s0 + d) = s1 := by rw [IntWalk.i64_in _ (by omega)]; exact hs1e.symm
      have hj0 : (0 : Int) ≤ (j : Int) := by omega
      have hj1 : (j : Int) < (ln : Int) := by omega
      have Hst := Lib.hid (show sumS (ps.take (j + 1)) = s1 by omega)
      clear hst hc hjl hs0 hs1 hbd hd hs1e
      go_wp2_with fail
      go_quiet (fail)
      go_wp2_with fail
      go_roundw
      case rel => exact ⟨j + 1, by omega, by go_num, by rw [Hst.out], Hor.out.drewN _, ⟨Hbr.out.os, Hbr.out.tape, Hbr.out.output, Hbr.out.size, Hbr.out.block⟩⟩
      case measure => simp [intOf]; omega
    · obtain rfl : j = ln := by omega
      have Hall := Lib.hid (show ps.take j = ps from List.take_of_length_le (by rw [← Ho.out.1]; exact Nat.le_refl _))
      rw [Hall.out]
      go_wp2_with fail
      go_ret
      exact ⟨rfl, Hbr.out⟩

theorem few_any (A1 A2 : Option Addr) (n1 n2 c1 c2 : Nat) (w : World) (h1 : n1 ≤ 9223372036854775807) (h2 : n2 ≤ 9223372036854775807) :
    Calls Try.prog 10 #[.slice A1 n1 c1, .slice A2 n2 c2] w fun e w' => e = .returned (.bool (decide (n1 ≤ 40) && decide (n2 ≤ 40))) ∧ w = w' := by
  by_cases h3 : n1 ≤ 40
  · by_cases h4 : n2 ≤ 40
    · have HV := Lib.hid (show (decide (n1 ≤ 40) && decide (n2 ≤ 40)) = true by simp [h3, h4])
      rw [HV.out]
      go_enter Try.func10, Try.ntmps10
      go_wp2
      go_ret
      exact ⟨by first | (simp [*]; done) | (simp [*]; omega), rfl⟩
    · have HV := Lib.hid (show (decide (n1 ≤ 40) && decide (n2 ≤ 40)) = false by simp [h4])
      rw [HV.out]
      go_enter Try.func10, Try.ntmps10
      go_wp2
      go_ret
      exact ⟨by first | (simp [*]; done) | (simp [*]; omega), rfl⟩
  · have HV := Lib.hid (show (decide (n1 ≤ 40) && decide (n2 ≤ 40)) = false by simp [h3])
    rw [HV.out]
    go_enter Try.func10, Try.ntmps10
    go_wp2
    go_ret
    exact ⟨by first | (simp [*]; done) | (simp [*]; omega), rfl⟩

theorem drewN_add (w : World) (a b : Nat) : w.drewN (a + b) = (w.drewN a).drewN b := by
  simp [World.drewN, Nat.add_assoc]

set_option maxHeartbeats 1000000 in
theorem RSame_any (A1 A2 : Option Addr) (n1 n2 c1 c2 : Nat) (ps qs : List Sp) (B : Nat) (w : World) (hr1 : RdS w B A1 n1 ps) (hr2 : RdS w B A2 n2 qs) (hn1 : n1 ≤ 9223372036854775807) (hn2 : n2 ≤ 9223372036854775807) :
    Calls Try.prog 11 #[.slice A1 n1 c1, .slice A2 n2 c2] w fun e w' => e = .returned (.bool (decide (ps = qs))) ∧ ∃ q, w' = w.drewN q := by
  have H1 := Lib.hid hr1
  have H2 := Lib.hid hr2
  clear hr1 hr2
  by_cases hne : n1 = n2
  · subst hne
    go_enter Try.func11, Try.ntmps11
    go_wp2_with fail
    go_loopw [5] (fun i wr => ∃ j : Nat, j ≤ n1 ∧ i = .int .i64 j ∧ Hid (ps.take j = qs.take j) ∧ Hid (∃ q, wr = w.drewN q)) (fun i _ => n1 - (intOf i).toNat)
    case atStart => exact ⟨0, Nat.zero_le _, rfl, rfl, ⟨0, rfl⟩⟩
    case round =>
      obtain ⟨j, hj, rfl, Hj, Hq⟩ := hrel
      by_cases hjn : j < n1
      · have hjl1 : j < ps.length := by rw [← H1.out.1]; exact hjn
        have hjl2 : j < qs.length := by rw [← H2.out.1]; exact hjn
        have HR1 : Hid (RdS wr B A1 n1 ps) := by obtain ⟨q, rfl⟩ := Hq.out; exact H1.out.drewN q
        have HR2 : Hid (RdS wr B A2 n1 qs) := by obtain ⟨q, rfl⟩ := Hq.out; exact H2.out.drewN q
        obtain ⟨g1, o1, rfl, _, hc1⟩ := HR1.out.2 (by omega)
        obtain ⟨g2, o2, rfl, _, hc2⟩ := HR2.out.2 (by omega)
        obtain ⟨x0, x1⟩ := hc1 j hjl1
        obtain ⟨y0, y1⟩ := hc2 j hjl2
        have hst1 := List.take_succ_eq_append_getElem hjl1
        have hst2 := List.take_succ_eq_append_getElem hjl2
        have hne0 : ps[j] ≠ qs[j] → ps ≠ qs := fun h e => h (by subst e; rfl)
        generalize ps[j] = p at x0 x1 hst1 hne0
        generalize qs[j] = q at y0 y1 hst2 hne0
        obtain ⟨p0, p1⟩ := p
        obtain ⟨q0, q1⟩ := q
        have x0 : wr.cell? ⟨g1, o1 + j * 2, none⟩ = some (.int .i64 p0) := x0
        have x1 : wr.cell? ⟨g1, o1 + j * 2 + 1, none⟩ = some (.int .i64 p1) := x1
        have y0 : wr.cell? ⟨g2, o2 + j * 2, none⟩ = some (.int .i64 q0) := y0
        have y1 : wr.cell? ⟨g2, o2 + j * 2 + 1, none⟩ = some (.int .i64 q1) := y1
        have hj0 : (0 : Int) ≤ (j : Int) := by omega
        have hj1 : (j : Int) < (n1 : Int) := by omega
        clear hc1 hc2 hjl1 hjl2
        by_cases heq : (p0, p1) = (q0, q1)
        · cases heq
          have Hj2 := Lib.hid (show ps.take (j + 1) = qs.take (j + 1) by rw [hst1, hst2, Hj.out])
          clear hst1 hst2 hne0
          go_wp2_with fail
          go_quiet (fail)
          go_wp2_with fail
          go_roundw
          case rel => exact ⟨j + 1, by omega, by go_num, Hj2, by obtain ⟨q, rfl⟩ := Hq.out; exact ⟨q + _, (drewN_add w q _).symm⟩⟩
          case measure => simp [intOf]; omega
        · have Hne := Lib.hid (show decide (ps = qs) = false from decide_eq_false (hne0 heq))
          by_cases h0 : p0 = q0
          · subst h0
            have h1 : ¬ p1 = q1 := fun h => heq (by rw [h])
            have hb : (p1 == q1) = false := by simpa using h1
            clear hst1 hst2 hne0 heq
            go_wp2_with fail
            go_quiet (fail)
            go_wp2_with fail
            go_ret
            exact ⟨by rw [Hne.out]; rfl, by obtain ⟨q, rfl⟩ := Hq.out; exact ⟨q + _, (drewN_add w q _).symm⟩⟩
          · have hb : (p0 == q0) = false := by simpa using h0
            clear hst1 hst2 hne0 heq
            go_wp2_with fail
            go_quiet (fail)
            go_wp2_with fail
            go_ret
            exact ⟨by rw [Hne.out]; rfl, by obtain ⟨q, rfl⟩ := Hq.out; exact ⟨q + _, (drewN_add w q _).symm⟩⟩
      · obtain rfl : j = n1 := by omega
        have Heq := Lib.hid (show decide (ps = qs) = true from decide_eq_true (by
          have h := Hj.out
          rwa [List.take_of_length_le (by rw [← H1.out.1]; exact Nat.le_refl _), List.take_of_length_le (by rw [← H2.out.1]; exact Nat.le_refl _)] at h))
        go_wp2_with fail
        go_ret
        exact ⟨by rw [Heq.out]; rfl, Hq.out⟩
  · have Hne := Lib.hid (show decide (ps = qs) = false from decide_eq_false (fun e => hne (by rw [H1.out.1, H2.out.1, e])))
    have hne2 : ¬ (n1 : Int) = (n2 : Int) := by omega
    go_enter Try.func11, Try.ntmps11
    go_wp2_with fail
    go_ret
    exact ⟨by rw [Hne.out]; rfl, 0, rfl⟩
end Go.Proofs.Ytikpcpkclecciaa
