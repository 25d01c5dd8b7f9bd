/- The document's May and Same, package entry's same. -/
import Derived.Test.YtfabcmohaikfoaaDoorEnB
import Derived.Test.YtfabcmohaikfoaaDoorWireS
import Derived.Test.YtfabcmohaikfoaaDoorFrB
namespace Go.Proofs.YtfabcmohaikfoaaDoor
open Go.RowKit

set_option maxRecDepth 10000 in
set_option maxHeartbeats 2000000 in
theorem RMay7 (S O K F L P : Int) (A : Option Addr) (n c : Nat) (d : List UInt8) (hn : d.length = n) (w : World) : Val7 10 #[eV S O K F L P A n c] w (.bool (decide (May7 ⟨S, O, K, F, L, P, d⟩))) := by
  have Hb := al7 w (.cells #[.int .i64 S, .int .i64 O, .int .i64 K, .int .i64 F, .int .i64 L, .int .i64 P, .slice A n c] 24)
  obtain ⟨r, hr⟩ : ∃ r, decide ((1 ≤ S ∧ S ≤ 1099511627776) ∧ (0 ≤ O ∧ O ≤ 7) ∧ fitK K F L P n) = r := ⟨_, rfl⟩
  have e : decide (May7 ⟨S, O, K, F, L, P, d⟩) = r := by rw [← hr, ← hn]; exact decide_eq_decide.2 Iff.rfl
  rw [e]
  have H := Lib.hid hr
  clear hr e
  rcases kinds7 K with rfl | rfl | rfl | rfl | rfl | rfl | ⟨k1, k2, k3, k4, k5, k6⟩
  all_goals
    go_enter Tryd.func10, Tryd.ntmps10
    go_wp2_with fail
  all_goals
    go_ret
    refine ⟨?_, Hb⟩
    rw [← H.out]
    refine congrArg (fun b => Ending.returned (.bool b)) (?_ : (_ : Bool) = _)
    unfold fitK
    first
      | exact (decide_eq_false (by omega)).symm
      | exact (decide_eq_true (by omega)).symm
      | exact decide_eq_decide.2 (by omega)

theorem en_eq (S O K F L P : Int) (d : List UInt8) (S' O' K' F' L' P' : Int) (d' : List UInt8) : ((⟨S, O, K, F, L, P, d⟩ : En) = ⟨S', O', K', F', L', P', d'⟩) ↔ (S = S' ∧ O = O' ∧ K = K' ∧ F = F' ∧ L = L' ∧ P = P' ∧ d = d') :=
  ⟨fun e => by cases e; exact ⟨rfl, rfl, rfl, rfl, rfl, rfl, rfl⟩, fun ⟨h1, h2, h3, h4, h5, h6, h7⟩ => by subst h1 h2 h3 h4 h5 h6 h7; rfl⟩
set_option maxRecDepth 10000 in
set_option maxHeartbeats 4000000 in
theorem RSame7 (S O K F L P : Int) (A : Option Addr) (n c : Nat) (d : List UInt8) (S' O' K' F' L' P' : Int) (A' : Option Addr) (n' c' : Nat) (d' : List UInt8) (w : World) (hr : Rd w w.heap.size A n d) (hr' : Rd w w.heap.size A' n' d') :
    Val7 12 #[eV S O K F L P A n c, eV S' O' K' F' L' P' A' n' c'] w (.bool (decide ((⟨S, O, K, F, L, P, d⟩ : En) = ⟨S', O', K', F', L', P', d'⟩))) := by
  obtain ⟨r, h⟩ : ∃ r, decide ((⟨S, O, K, F, L, P, d⟩ : En) = ⟨S', O', K', F', L', P', d'⟩) = r := ⟨_, rfl⟩
  have e : decide (S = S' ∧ O = O' ∧ K = K' ∧ F = F' ∧ L = L' ∧ P = P' ∧ d = d') = r := by rw [← h]; exact decide_eq_decide.2 (en_eq _ _ _ _ _ _ _ _ _ _ _ _ _ _).symm
  rw [h]
  have H := Lib.hid e
  have HT := Lib.hid (two_ents w (.cells #[.int .i64 S, .int .i64 O, .int .i64 K, .int .i64 F, .int .i64 L, .int .i64 P, .slice A n c] 24) (.cells #[.int .i64 S', .int .i64 O', .int .i64 K', .int .i64 F', .int .i64 L', .int .i64 P', .slice A' n' c'] 24))
  have Hr := Lib.hid (hr.below HT.out.2.2)
  have Hr' := Lib.hid (hr'.below HT.out.2.2)
  clear h e hr hr'
  go_enter Tryd.func12, Tryd.ntmps12
  go_upto_region 1 with fail
  generalize (w.alloc (.cells #[.int .i64 S, .int .i64 O, .int .i64 K, .int .i64 F, .int .i64 L, .int .i64 P, .slice A n c] 24)).alloc (.cells #[.int .i64 S', .int .i64 O', .int .i64 K', .int .i64 F', .int .i64 L', .int .i64 P', .slice A' n' c'] 24) = w1 at HT Hr Hr' ⊢
  have hs := str_any (c := c) Hr.out
  have hs' := str_any (c := c') Hr'.out
  obtain ⟨b2, hb2⟩ : ∃ b, b = w.heap.size + 1 := ⟨_, rfl⟩
  obtain ⟨b1, hb1⟩ : ∃ b, b = w.heap.size := ⟨_, rfl⟩
  obtain ⟨c0, c1, c2, c3, c4, c5, c6⟩ := ents_of HT.out.1
  obtain ⟨d0, d1, d2, d3, d4, d5, d6⟩ := ents_of HT.out.2.1
  rw [← hb2] at d0 d1 d2 d3 d4 d5 d6 ⊢
  rw [← hb1] at c0 c1 c2 c3 c4 c5 c6 ⊢
  clear hb1 hb2
  have Hb := Lib.hid HT.out.2.2
  clear HT Hr Hr'
  go_wp2_with fail
  all_goals
    go_ret
    refine ⟨?_, Hb⟩
    rw [← H.out]
    refine congrArg (fun b => Ending.returned (.bool b)) (?_ : (_ : Bool) = _)
    first
      | exact (decide_eq_false (by simp_all)).symm
      | (rw [Bool.eq_iff_iff, decide_eq_true_iff, beq_iff_eq]; simp_all)
set_option maxRecDepth 10000 in
set_option maxHeartbeats 4000000 in
theorem same7 (S O K F L P : Int) (A : Option Addr) (n c : Nat) (d : List UInt8) (S' O' K' F' L' P' : Int) (A' : Option Addr) (n' c' : Nat) (d' : List UInt8) (w : World) (hr : Rd w w.heap.size A n d) (hr' : Rd w w.heap.size A' n' d') :
    Val7 27 #[eV S O K F L P A n c, eV S' O' K' F' L' P' A' n' c'] w (.bool (decide (F = F' ∧ L = L' ∧ P = P' ∧ d = d'))) := by
  obtain ⟨r, e⟩ : ∃ r, decide (F = F' ∧ L = L' ∧ P = P' ∧ d = d') = r := ⟨_, rfl⟩
  rw [e]
  have H := Lib.hid e
  have HT := Lib.hid (two_ents w (.cells #[.int .i64 S, .int .i64 O, .int .i64 K, .int .i64 F, .int .i64 L, .int .i64 P, .slice A n c] 24) (.cells #[.int .i64 S', .int .i64 O', .int .i64 K', .int .i64 F', .int .i64 L', .int .i64 P', .slice A' n' c'] 24))
  have Hr := Lib.hid (hr.below HT.out.2.2)
  have Hr' := Lib.hid (hr'.below HT.out.2.2)
  clear e hr hr'
  go_enter Tryd.func27, Tryd.ntmps27
  go_upto_region 1 with fail
  generalize (w.alloc (.cells #[.int .i64 S, .int .i64 O, .int .i64 K, .int .i64 F, .int .i64 L, .int .i64 P, .slice A n c] 24)).alloc (.cells #[.int .i64 S', .int .i64 O', .int .i64 K', .int .i64 F', .int .i64 L', .int .i64 P', .slice A' n' c'] 24) = w1 at HT Hr Hr' ⊢
  have HQ := Lib.hid (Equal_any A A' n c n' c' d d' _ _ w1 Hr.out Hr'.out)
  obtain ⟨b2, hb2⟩ : ∃ b, b = w.heap.size + 1 := ⟨_, rfl⟩
  obtain ⟨b1, hb1⟩ : ∃ b, b = w.heap.size := ⟨_, rfl⟩
  obtain ⟨c0, c1, c2, c3, c4, c5, c6⟩ := ents_of HT.out.1
  obtain ⟨d0, d1, d2, d3, d4, d5, d6⟩ := ents_of HT.out.2.1
  rw [← hb2] at d0 d1 d2 d3 d4 d5 d6 ⊢
  rw [← hb1] at c0 c1 c2 c3 c4 c5 c6 ⊢
  clear hb1 hb2
  have Hb := Lib.hid HT.out.2.2
  clear HT Hr Hr'
  go_wp2_with (go_at_call 45; refine HQ.out.mono ?_; rintro e w' ⟨rfl, rfl⟩)
  all_goals
    go_ret
    refine ⟨?_, Hb⟩
    rw [← H.out]
    refine congrArg (fun b => Ending.returned (.bool b)) (?_ : (_ : Bool) = _)
    first
      | exact (decide_eq_false (by simp_all)).symm
      | (rw [Bool.eq_iff_iff, decide_eq_true_iff, decide_eq_true_iff]; simp_all)
end Go.Proofs.YtfabcmohaikfoaaDoor
