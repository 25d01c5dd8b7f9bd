/- Contracts of the document's Has, put, Of, Clean, Many, Same (spans). -/
import Derived.Test.YtikpcpkclecciaaSpP
import Derived.Test.YtikpcpkclecciaaWireD
import Derived.Lib.Hide
import Derived.Deep.RegionHeld3
import Derived.BigQuiet
import Derived.WalkLawsBesides
import Derived.Deep.DeepCutAuto
namespace Go.Proofs.Ytikpcpkclecciaa
open Go.RowKit

/-- the spans of a slice can be read, below block B -/
def RdS (w : World) (B : Nat) (A : Option Addr) (n : Nat) (ps : List Sp) : Prop :=
  n = ps.length ∧ (0 < n → ∃ g o, A = some ⟨g, o, none⟩ ∧ g < B ∧ ∀ i (hi : i < ps.length), w.cell? ⟨g, o + i * 2, none⟩ = some (.int .i64 (ps[i].1)) ∧ w.cell? ⟨g, o + i * 2 + 1, none⟩ = some (.int .i64 (ps[i].2)))
theorem RdS.nil (w : World) (B : Nat) (A : Option Addr) : RdS w B A 0 [] := ⟨rfl, fun h => absurd h (by omega)⟩
theorem RdS.below {w w' : World} {B : Nat} {A : Option Addr} {n : Nat} {ps : List Sp} (h : RdS w B A n ps) (hb : Below B w w') : RdS w' B A n ps := by
  refine ⟨h.1, fun h0 => ?_⟩
  obtain ⟨g, o, he, hg, hc⟩ := h.2 h0
  exact ⟨g, o, he, hg, fun i hi => ⟨(hb.cell hg).trans (hc i hi).1, (hb.cell hg).trans (hc i hi).2⟩⟩
theorem RdS.drewN {w : World} {B : Nat} {A : Option Addr} {n : Nat} {ps : List Sp} (h : RdS w B A n ps) (q : Nat) : RdS (w.drewN q) B A n ps := h
theorem RdS.more {w : World} {B B' : Nat} {A : Option Addr} {n : Nat} {ps : List Sp} (h : RdS w B A n ps) (hB : B ≤ B') : RdS w B' A n ps := by
  refine ⟨h.1, fun h0 => ?_⟩
  obtain ⟨g, o, he, hg, hc⟩ := h.2 h0
  exact ⟨g, o, he, Nat.lt_of_lt_of_le hg hB, hc⟩

theorem any_take_succ (ps : List Sp) (n : Int) (j : Nat) (h : j < ps.length) : (ps.take (j + 1)).any (fun s => inS s n) = ((ps.take j).any (fun s => inS s n) || inS ps[j] n) := by
  rw [List.take_succ_eq_append_getElem h, List.any_append]; simp

set_option maxHeartbeats 1000000 in
theorem RHas_any (A : Option Addr) (k c : Nat) (ps : List Sp) (n : Int) (B : Nat) (w : World) (hr : RdS w B A k ps) (hk : k ≤ 100000) :
    Calls Try.prog 17 #[.slice A k c, .int .i64 n] w fun e w' => e = .returned (.bool (hasB ps n)) ∧ w = w' := by
  have Hr := Lib.hid hr
  clear hr
  by_cases h0 : 0 ≤ n ∧ n < farS
  · have Hh := Lib.hid (hasB_in (l := ps) h0.1 h0.2)
    obtain ⟨h0, h1⟩ := h0
    have h1 : n < 1099511627776 := h1
    go_enter Try.func17, Try.ntmps17
    go_wp2_with fail
    go_loopw [5] (fun i wr => wr = w ∧ ∃ j : Nat, j ≤ k ∧ i = .int .i64 j ∧ Hid ((ps.take j).any (fun s => inS s n) = false)) (fun i _ => k - (intOf i).toNat)
    case atStart => exact ⟨rfl, 0, Nat.zero_le _, rfl, rfl⟩
    case round =>
      obtain ⟨rfl, j, hj, rfl, Hj⟩ := hrel
      by_cases hjk : j < k
      · have hjl : j < ps.length := by rw [← Hr.out.1]; exact hjk
        obtain ⟨g, o, rfl, _, hc⟩ := Hr.out.2 (by omega)
        obtain ⟨x0, x1⟩ := hc j hjl
        have Hst := Lib.hid (any_take_succ ps n j hjl)
        obtain ⟨q, hq⟩ : ∃ q, q = ps[j] := ⟨_, rfl⟩
        rw [← hq] at x0 x1 Hst
        clear hc hjl hq
        by_cases hf : q.1 ≤ n
        · by_cases ht : n < q.2
          · have Hyes := Lib.hid (show hasB ps n = true by
              rw [Hh.out, ← List.take_append_drop (j + 1) ps, List.any_append, Hst.out]
              simp [inS, hf, ht])
            go_wp2_with fail
            go_ret
            exact ⟨by rw [Hyes.out]; rfl, rfl⟩
          · have Hno := Lib.hid (show ((ps.take (j + 1)).any fun s => inS s n) = false from Hst.out.trans (by rw [Hj.out]; simp [inS, ht]))
            clear Hst
            go_wp2_with fail
            go_roundw
            case rel => exact ⟨by first | rfl | trivial, j + 1, by omega, by go_num, Hno⟩
            case measure => simp [intOf]; omega
        · have Hno := Lib.hid (show ((ps.take (j + 1)).any fun s => inS s n) = false from Hst.out.trans (by rw [Hj.out]; simp [inS, hf]))
          clear Hst
          go_wp2_with fail
          go_roundw
          case rel => exact ⟨by first | rfl | trivial, j + 1, by omega, by go_num, Hno⟩
          case measure => simp [intOf]; omega
      · obtain rfl : j = k := by omega
        have Hno := Lib.hid (show hasB ps n = false by rw [Hh.out]; have h := Hj.out; rwa [List.take_of_length_le (by rw [← Hr.out.1]; exact Nat.le_refl _)] at h)
        go_wp2_with fail
        go_ret
        exact ⟨by rw [Hno.out]; rfl, rfl⟩
  · have Hno := Lib.hid (hasB_out (l := ps) h0)
    have h1 : ¬ 0 ≤ n ∨ ¬ n < 1099511627776 := by
      by_cases q : 0 ≤ n
      · exact .inr fun z => h0 ⟨q, z⟩
      · exact .inl q
    clear h0
    go_enter Try.func17, Try.ntmps17
    go_wp2_with fail
    go_loopw [5] (fun i wr => wr = w ∧ ∃ j : Nat, j ≤ k ∧ i = .int .i64 j) (fun i _ => k - (intOf i).toNat)
    case atStart => exact ⟨rfl, 0, Nat.zero_le _, rfl⟩
    case round =>
      obtain ⟨rfl, j, hj, rfl⟩ := hrel
      by_cases hjk : j < k
      · by_cases hq : 0 ≤ n
        · have hq2 : ¬ n < 1099511627776 := by rcases h1 with h | h <;> omega
          clear h1
          go_wp2_with fail
          go_roundw
          case rel => exact ⟨by first | rfl | trivial, j + 1, by omega, by go_num⟩
          case measure => simp [intOf]; omega
        · clear h1
          go_wp2_with fail
          go_roundw
          case rel => exact ⟨by first | rfl | trivial, j + 1, by omega, by go_num⟩
          case measure => simp [intOf]; omega
      · obtain rfl : j = k := by omega
        go_wp2_with fail
        go_ret
        exact ⟨by rw [Hno.out]; rfl, rfl⟩
end Go.Proofs.Ytikpcpkclecciaa
