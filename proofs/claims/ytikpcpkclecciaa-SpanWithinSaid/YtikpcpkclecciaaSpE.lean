/- Contracts of package span's small functions: what is wanted of two lists (the three closures), end, and of slices.Equal at spans. -/
import Derived.Test.YtikpcpkclecciaaSpM
import Derived.Test.YtikpcpkclecciaaSpT
namespace Go.Proofs.Ytikpcpkclecciaa
open Go.RowKit

theorem wJoin (x y : Bool) (w : World) : Calls Try.prog 27 #[.bool x, .bool y] w fun e w' => e = .returned (.bool (opS 1 x y)) ∧ w' = w := by
  cases x <;> cases y
  all_goals
    go_enter Try.func27, Try.ntmps27
    go_wp2_with fail
    go_ret
    exact ⟨by rfl, rfl⟩
theorem wMeet (x y : Bool) (w : World) : Calls Try.prog 28 #[.bool x, .bool y] w fun e w' => e = .returned (.bool (opS 2 x y)) ∧ w' = w := by
  cases x <;> cases y
  all_goals
    go_enter Try.func28, Try.ntmps28
    go_wp2_with fail
    go_ret
    exact ⟨by rfl, rfl⟩
theorem wLess (x y : Bool) (w : World) : Calls Try.prog 29 #[.bool x, .bool y] w fun e w' => e = .returned (.bool (opS 3 x y)) ∧ w' = w := by
  cases x <;> cases y
  all_goals
    go_enter Try.func29, Try.ntmps29
    go_wp2_with fail
    go_ret
    exact ⟨by rfl, rfl⟩

set_option maxHeartbeats 1000000 in
theorem end_any (A : Option Addr) (n c : Nat) (ps : List Sp) (I : Nat) (B : Nat) (w : World) (hr : RdS w B A n ps) (h1 : n ≤ 1000) (h2 : I ≤ 2000) :
    Calls Try.prog 34 #[.slice A n c, .int .i64 I] w fun e w' => e = .returned (.int .i64 (endv ps I)) ∧ w' = w := by
  have Hr := Lib.hid hr
  clear hr
  by_cases hge : 2 * n ≤ I
  · have He := Lib.hid (show endv ps I = 1099511627777 from endv_out ps I (by rw [← Hr.out.1]; exact hge))
    have hge : 2 * (n : Int) ≤ (I : Int) := by omega
    rw [He.out]
    clear He
    go_enter Try.func34, Try.ntmps34
    go_wp2_with fail
    go_ret
    exact ⟨rfl, rfl⟩
  · obtain ⟨k, hk⟩ : ∃ k, k = I / 2 := ⟨_, rfl⟩
    have hkn : k < n := by omega
    have hkl : k < ps.length := by rw [← Hr.out.1]; exact hkn
    obtain ⟨g, o, rfl, _, hc⟩ := Hr.out.2 (by omega)
    obtain ⟨x0, x1⟩ := hc k hkl
    obtain ⟨J, hJ⟩ : ∃ J : Int, J = (I : Int) := ⟨_, rfl⟩
    have hlt : J < 2 * (n : Int) := by omega
    have hJ0 : 0 ≤ J := by omega
    have hJ1 : J ≤ 2000 := by omega
    have hq : J.tdiv 2 = (k : Int) := by rw [Int.tdiv_eq_ediv_of_nonneg hJ0]; omega
    have hq2 : J / 2 = (k : Int) := by omega
    have hk0 : (0 : Int) ≤ (k : Int) := by omega
    have hk1 : (k : Int) < (n : Int) := by omega
    rcases Nat.mod_two_eq_zero_or_one I with hm | hm
    · have He := Lib.hid (show endv ps I = ps[k].1 by rw [show I = 2 * k by omega]; exact endv_even ps k hkl)
      have ht : J.tmod 2 = 0 := by rw [Int.tmod_eq_emod_of_nonneg hJ0]; omega
      rw [He.out, ← hJ]
      generalize ps[k] = p at x0
      clear He hc x1 hJ hk hm hkl hge
      go_enter Try.func34, Try.ntmps34
      go_wp2_with fail
      go_ret
      exact ⟨rfl, rfl⟩
    · have He := Lib.hid (show endv ps I = ps[k].2 by rw [show I = 2 * k + 1 by omega]; exact endv_odd ps k hkl)
      have ht : J.tmod 2 = 1 := by rw [Int.tmod_eq_emod_of_nonneg hJ0]; omega
      rw [He.out, ← hJ]
      generalize ps[k] = p at x1
      clear He hc x0 hJ hk hm hkl hge
      go_enter Try.func34, Try.ntmps34
      go_wp2_with fail
      go_ret
      exact ⟨rfl, rfl⟩

set_option maxHeartbeats 1000000 in
theorem eql_any (A1 A2 : Option Addr) (n1 n2 c1 c2 : Nat) (ps qs : List Sp) (B : Nat) (w : World) (hr1 : RdS w B A1 n1 ps) (hr2 : RdS w B A2 n2 qs) (hn1 : n1 ≤ 9223372036854775807) (hn2 : n2 ≤ 9223372036854775807) :
    Calls Try.prog 33 #[.slice A1 n1 c1, .slice A2 n2 c2] w fun e w' => e = .returned (.bool (decide (ps = qs))) ∧ ∃ q, w' = w.drewN q := by
  have H1 := Lib.hid hr1
  have H2 := Lib.hid hr2
  clear hr1 hr2
  by_cases hne : n1 = n2
  · subst hne
    go_enter Try.func33, Try.ntmps33
    go_wp2_with fail
    go_loopw [13] (fun i wr => ∃ j : Nat, j ≤ n1 ∧ i = .int .i64 j ∧ Hid (ps.take j = qs.take j) ∧ Hid (∃ q, wr = w.drewN q)) (fun i _ => n1 - (intOf i).toNat)
    case atStart => exact ⟨0, Nat.zero_le _, rfl, rfl, ⟨0, rfl⟩⟩
    case round =>
      obtain ⟨j, hj, rfl, Hj, Hq⟩ := hrel
      by_cases hjn : j < n1
      · have hjl1 : j < ps.length := by rw [← H1.out.1]; exact hjn
        have hjl2 : j < qs.length := by rw [← H2.out.1]; exact hjn
        have HR1 : Hid (RdS wr B A1 n1 ps) := by obtain ⟨q, rfl⟩ := Hq.out; exact H1.out.drewN q
        have HR2 : Hid (RdS wr B A2 n1 qs) := by obtain ⟨q, rfl⟩ := Hq.out; exact H2.out.drewN q
        obtain ⟨g1, o1, rfl, _, hc1⟩ := HR1.out.2 (by omega)
        obtain ⟨g2, o2, rfl, _, hc2⟩ := HR2.out.2 (by omega)
        obtain ⟨x0, x1⟩ := hc1 j hjl1
        obtain ⟨y0, y1⟩ := hc2 j hjl2
        have hst1 := List.take_succ_eq_append_getElem hjl1
        have hst2 := List.take_succ_eq_append_getElem hjl2
        have hne0 : ps[j] ≠ qs[j] → ps ≠ qs := fun h e => h (by subst e; rfl)
        generalize ps[j] = p at x0 x1 hst1 hne0
        generalize qs[j] = q at y0 y1 hst2 hne0
        obtain ⟨p0, p1⟩ := p
        obtain ⟨q0, q1⟩ := q
        have x0 : wr.cell? ⟨g1, o1 + j * 2, none⟩ = some (.int .i64 p0) := x0
        have x1 : wr.cell? ⟨g1, o1 + j * 2 + 1, none⟩ = some (.int .i64 p1) := x1
        have y0 : wr.cell? ⟨g2, o2 + j * 2, none⟩ = some (.int .i64 q0) := y0
        have y1 : wr.cell? ⟨g2, o2 + j * 2 + 1, none⟩ = some (.int .i64 q1) := y1
        have hj0 : (0 : Int) ≤ (j : Int) := by omega
        have hj1 : (j : Int) < (n1 : Int) := by omega
        clear hc1 hc2 hjl1 hjl2
        by_cases heq : (p0, p1) = (q0, q1)
        · cases heq
          have Hj2 := Lib.hid (show ps.take (j + 1) = qs.take (j + 1) by rw [hst1, hst2, Hj.out])
          clear hst1 hst2 hne0
          go_wp2_with fail
          go_quiet (fail)
          go_wp2_with fail
          go_roundw
          case rel => exact ⟨j + 1, by omega, by go_num, Hj2, by obtain ⟨q, rfl⟩ := Hq.out; exact ⟨q + _, (drewN_add w q _).symm⟩⟩
          case measure => simp [intOf]; omega
        · have Hne := Lib.hid (show decide (ps = qs) = false from decide_eq_false (hne0 heq))
          by_cases h0 : p0 = q0
          · subst h0
            have h1 : ¬ p1 = q1 := fun h => heq (by rw [h])
            have hb : (p1 == q1) = false := by simpa using h1
            clear hst1 hst2 hne0 heq
            go_wp2_with fail
            go_quiet (fail)
            go_wp2_with fail
            go_ret
            exact ⟨by rw [Hne.out]; rfl, by obtain ⟨q, rfl⟩ := Hq.out; exact ⟨q + _, (drewN_add w q _).symm⟩⟩
          · have hb : (p0 == q0) = false := by simpa using h0
            clear hst1 hst2 hne0 heq
            go_wp2_with fail
            go_quiet (fail)
            go_wp2_with fail
            go_ret
            exact ⟨by rw [Hne.out]; rfl, by obtain ⟨q, rfl⟩ := Hq.out; exact ⟨q + _, (drewN_add w q _).symm⟩⟩
      · obtain rfl : j = n1 := by omega
        have Heq := Lib.hid (show decide (ps = qs) = true from decide_eq_true (by
          have h := Hj.out
          rwa [List.take_of_length_le (by rw [← H1.out.1]; exact Nat.le_refl _), List.take_of_length_le (by rw [← H2.out.1]; exact Nat.le_refl _)] at h))
        go_wp2_with fail
        go_ret
        exact ⟨by rw [Heq.out]; rfl, Hq.out⟩
  · have Hne := Lib.hid (show decide (ps = qs) = false from decide_eq_false (fun e => hne (by rw [H1.out.1, H2.out.1, e])))
    have hne2 : ¬ (n1 : Int) = (n2 : Int) := by omega
    go_enter Try.func33, Try.ntmps33
    go_wp2_with fail
    go_ret
    exact ⟨by rw [Hne.out]; rfl, 0, rfl⟩
end Go.Proofs.Ytikpcpkclecciaa
