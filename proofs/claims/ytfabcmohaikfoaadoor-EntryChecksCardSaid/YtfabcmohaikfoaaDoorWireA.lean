/- Contracts of the leaves of package wire: fitWidth, largest, extend, putNum, number. -/
import Derived.Test.YtfabcmohaikfoaaDoorRows
import Derived.Test.YtfabcmohaikfoaaDoorBytes
import Derived.WalkLawsBesides
import Derived.Deep.DeepCutAuto
namespace Go.Proofs.YtfabcmohaikfoaaDoor
open Go.RowKit

set_option maxRecDepth 10000 in
set_option maxHeartbeats 400000 in
theorem fitWidth_any (x : Int) (w : World) :
    Calls Tryd.prog 50 #[.int .i64 x] w fun e w' => e = .returned (.int .i64 (fitW x)) ∧ w = w' := by
  go_enter Tryd.func50, Tryd.ntmps50
  go_wp2
  all_goals (go_ret; refine ⟨ret_int ?_, rfl⟩; unfold fitW; omega)

set_option maxRecDepth 10000 in
set_option maxHeartbeats 400000 in
theorem largest_any (k : Nat) (h : 1 ≤ k ∧ k ≤ 7) (w : World) :
    Calls Tryd.prog 54 #[.int .i64 k] w fun e w' => e = .returned (.int .i64 ((256 : Int) ^ k - 1)) ∧ w = w' := by
  obtain rfl | rfl | rfl | rfl | rfl | rfl | rfl : k = 1 ∨ k = 2 ∨ k = 3 ∨ k = 4 ∨ k = 5 ∨ k = 6 ∨ k = 7 := by omega
  all_goals
    go_enter Tryd.func54, Tryd.ntmps54
    go_wp2
    go_ret
    exact ⟨rfl, rfl⟩

set_option maxRecDepth 10000 in
theorem Tryd.infoB : (Tryd.prog.info? 5).map (fun i => (i.zero, i.size, i.bytes)) = some (some (.int .u8 0), 1, 1) := by kernel_rfl
set_option maxRecDepth 10000 in
theorem Tryd.sizeB : (Tryd.prog.info? 5).map (·.size) = some 1 := by kernel_rfl

set_option maxRecDepth 10000 in
set_option maxHeartbeats 400000 in
theorem extend_any (A : Option Addr) (n c : Nat) (l : List UInt8) (k : Int) (w : World) (hr : Rd w w.heap.size A n l) (hk : 0 ≤ k) (hk2 : k ≤ 274877906944) (hn : n ≤ 274877906944) :
    Calls Tryd.prog 52 #[.slice A n c, .int .i64 k] w fun e w' => ∃ c', e = .returned (.slice (some ⟨w.heap.size, 0, none⟩) n c') ∧
      w'.ownsRow w.heap.size 5 1 (.slice (some ⟨w.heap.size, 0, none⟩) n c') n (l.map bv) ∧ Below w.heap.size w w' := by
  obtain ⟨k, rfl⟩ := Int.eq_ofNat_of_zero_le hk
  obtain ⟨i, hi, hz0, hz1, hz2⟩ := info_parts Tryd.infoB
  have hmk := fun W => run_mk (P := Tryd.prog) Tryd.underlying22 hi hz0 hz1 (by omega) n (n + k) ((n : Int) + (k : Int)) (by omega) (by omega) (by omega) W
  obtain ⟨W, hcp, hown, hb⟩ := run_copy_fresh (P := Tryd.prog) (ty := 3) Tryd.underlying22 Tryd.sizeB w (madeCells #[.int .u8 0] (n + k)) n (n + k) c A l (size_madeCells _ _) (by omega) (by simp only [maxLen]; omega) hr
  clear hz1 hz2
  go_enter Tryd.func52, Tryd.ntmps52
  go_wp2
  go_ret
  exact ⟨_, rfl, hown, hb⟩

set_option maxRecDepth 10000 in
set_option maxHeartbeats 400000 in
theorem putNum_any (v : Value) (n B : Nat) (l : List UInt8) (k : Nat) (x : Int) (w : World) (hk : 1 ≤ k ∧ k ≤ 7) (hx : -9223372036854775808 ≤ x ∧ x ≤ 9223372036854775807)
    (hown : w.ownsRow B 5 1 v n (l.map bv)) (hB : B ≤ w.heap.size) (hn : n ≤ 274877906944) :
    Calls Tryd.prog 51 #[v, .int .i64 k, .int .i64 x] w fun e w' => ∃ v', e = .returned v' ∧
      w'.ownsRow B 5 1 v' (n + k) ((l ++ encB k (clampN k x)).map bv) ∧ Below B w w' := by
  obtain ⟨i, hi, hz0, hz1, hz2⟩ := info_parts Tryd.infoB
  obtain ⟨m, hm⟩ : ∃ m, m = clampN k x := ⟨_, rfl⟩
  have hm1 : (m : Int) = min (max x 0) ((256 : Int) ^ k - 1) := by
    have : (256 : Int) ^ k ≥ 1 := Int.pow_pos (by decide)
    rw [hm]; unfold clampN; omega
  rw [← hm]
  have Hm := Lib.hid hm1
  clear hm hm1
  go_enter Tryd.func51, Tryd.ntmps51
  go_upto_region 1 with fail
  go_cut [2] (fun s wx => s = .int .i64 m ∧ wx = w)
  case first =>
    go_wp2_with (go_at_call 54; refine (largest_any _ hk _).mono ?_; rintro e w' ⟨rfl, rfl⟩)
    all_goals
      go_meet
      have := Hm.out
      exact ⟨by congr 1; omega, rfl⟩
  case rest =>
    obtain ⟨rfl, rfl⟩ := hcut
    go_wp2
    go_loopw [0, 7, 14] (fun v _ i wr => ∃ j : Nat, j ≤ k ∧ i = .int .i64 j ∧ wr.ownsRow B 5 1 v (n + j) ((l ++ (encB k m).take j).map bv) ∧ Below B wc wr) (fun _ _ i _ => k - (intOf i).toNat)
    case atStart => exact ⟨0, Nat.zero_le _, rfl, by simpa using hown, Below.refl _ _⟩
    case round =>
      obtain ⟨j, hj, rfl, hown, hb⟩ := hrel
      go_wp2_with (at_builtin; refine wpList_append_own _ rfl (.tmp 17) (.tmp 26) 22 rfl B 5 i (.int .u8 0) 1 1 Tryd.underlying22 hi hz0 hz1 hz2 rfl (by decide) _ _ _ rfl (hown.alloc _) ⟨wr.heap.size, 0, none⟩ 1 1 [.int .u8 ((m : Int) / 2 ^ (8 * (k - 1 - j)) % 256)] rfl rfl (one_new _ _ _) (by intro u hu; simp at hu; subst hu; rfl) (by simp only [maxLen]; omega) (by omega) (by have := hb.size; simp; omega) ?_; intro v' w1 hown1 hg1 _)
      · have hlt : j < k := by assumption
        have hb1 : Below B wc w1 := (hb.alloc (by have := hb.size; omega) _).grown hg1 (by have := hb.size; simp; omega) (fun q hq => (hown.lt q hq).1)
        have hown2 : w1.ownsRow B 5 1 v' (n + (j + 1)) ((l ++ (encB k m).take (j + 1)).map bv) := by
          rw [encB_take_succ k m j hlt, ← List.append_assoc, List.map_append (l₁ := l ++ _), List.map_cons, List.map_nil, bv_ofNat, pow_byte]
          exact hown1
        clear hown1 hg1 hown hb
        go_wp2
        go_roundw
        case rel => exact ⟨j + 1, by omega, by go_num, hown2, hb1⟩
        case measure => simp [intOf]; omega
      · have hge : k ≤ j := by omega
        obtain rfl : j = k := by omega
        go_ret
        rw [List.take_of_length_le (by rw [encB_length]; exact Nat.le_refl _)] at hown
        exact ⟨_, rfl, hown, hb⟩
end Go.Proofs.YtfabcmohaikfoaaDoor
