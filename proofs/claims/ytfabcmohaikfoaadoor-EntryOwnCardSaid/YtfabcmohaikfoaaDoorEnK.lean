/- Package entry: Name, and the document's. -/
import Derived.Test.YtfabcmohaikfoaaDoorEnA
import Derived.Test.YtfabcmohaikfoaaDoorEnN
import Derived.Test.YtfabcmohaikfoaaDoorWireS
namespace Go.Proofs.YtfabcmohaikfoaaDoor
open Go.RowKit

theorem bapp7 (a b : List UInt8) : (⟨a.toArray⟩ : ByteArray) ++ ⟨b.toArray⟩ = ⟨(a ++ b).toArray⟩ := by
  apply ByteArray.ext
  simp
theorem size_dig (k N : Nat) : (⟨(digL k N).toArray⟩ : ByteArray).size = k := by
  show (digL k N).toArray.size = k
  simp [digL_len]

set_option maxRecDepth 10000 in
set_option maxHeartbeats 2000000 in
theorem Name7_core (x : Int) (N : Nat) (hx : (N : Int) = min (max x 0) 999999999) (hN : N ≤ 999999999) (w : World) (ht : T7 w) :
    Val7 19 #[.int .i64 x] w (.string ⟨(101 :: digL 9 N).toArray⟩) := by
  have HI : Hid (∀ y : Int, y = 1000000000 + (N : Int) → Calls Tryd.prog 39 #[.int .i64 y] w fun e w' => e = .returned (.string ⟨(49 :: digL 9 N).toArray⟩) ∧ Below w.heap.size w w') := fun y hy => by
    have h := Itoa_any y (by omega) (by omega) w ht.2.2
    rw [hy, show Lib.itoa (1000000000 + (N : Int)) = 49 :: digL 9 N from by rw [← itoa_pad N hN]; congr 1] at h
    rw [hy]; exact h
  have hsl : ∀ w, (Instr.slice 9 (.string ⟨(49 :: digL 9 N).toArray⟩) (some (.int .i64 1)) none none).run Tryd.prog w = .ok (.string ⟨(digL 9 N).toArray⟩) w := fun w => by
    have hsz : (⟨(49 :: digL 9 N).toArray⟩ : ByteArray).size = 10 := by show (49 :: digL 9 N).toArray.size = 10; simp [digL_len]
    rw [run_slice_string_from_if _ _ _ _ _ Tryd.underlying9, if_pos (by rw [hsz]; omega)]
    congr 2
  have Hcat := Lib.hid (show (⟨#[101]⟩ : ByteArray) ++ ⟨(digL 9 N).toArray⟩ = ⟨(101 :: digL 9 N).toArray⟩ from bapp7 [101] (digL 9 N))
  have hqs : ¬ 9223372036854775807 < 1 + (⟨(digL 9 N).toArray⟩ : ByteArray).size := by rw [size_dig]; omega
  generalize (⟨(digL 9 N).toArray⟩ : ByteArray) = Q at hsl Hcat hqs
  generalize (⟨(49 :: digL 9 N).toArray⟩ : ByteArray) = Y at hsl HI
  rw [← Hcat.out]
  have Hx := Lib.hid hx
  clear hx
  go_enter Tryd.func19, Tryd.ntmps19
  go_wp2_with fail
  all_goals
    refine (HI.out _ (by have := Hx.out; omega)).mono ?_
    rintro e w1 ⟨rfl, hb⟩
    clear HI
    go_wp2_with fail
    go_ret
    exact ⟨rfl, hb⟩
set_option maxRecDepth 10000 in
theorem Name7 (x : Int) (w : World) (ht : T7 w) : Val7 19 #[.int .i64 x] w (.string ⟨(nameL x).toArray⟩) :=
  Name7_core x (numN x) (by unfold numN; omega) (numN_le x) w ht

set_option maxRecDepth 10000 in
set_option maxHeartbeats 2000000 in
theorem RName7_core (x : Int) (N : Nat) (hx : (N : Int) = min (max x 0) 999999999) (w : World) :
    Val7 20 #[.int .i64 x] w (.string ⟨(101 :: digL 9 N).toArray⟩) := by
  have Hx := Lib.hid hx
  clear hx
  go_enter Tryd.func20, Tryd.ntmps20
  go_wp2_with fail
  go_loopw [3, 4, 5] (fun nv sv iv wr => ∃ j : Nat, j ≤ 9 ∧ iv = .int .i64 j ∧ nv = .int .i64 ((N / 10 ^ j : Nat) : Int) ∧ sv = .string ⟨(digL j N).toArray⟩ ∧ Hid (Below w.heap.size w wr)) (fun _ _ iv _ => 9 - (intOf iv).toNat)
  case atStart => exact ⟨0, Nat.zero_le _, rfl, by rw [← Hx.out]; simp, rfl, Below.refl _ _⟩
  case round =>
    obtain ⟨j, hj, rfl, rfl, rfl, Hb⟩ := hrel
    obtain ⟨M, hM⟩ : ∃ M, M = N / 10 ^ j := ⟨_, rfl⟩
    have hM9 : M ≤ 999999999 := by
      have h1 := Hx.out
      have h2 := Nat.div_le_self N (10 ^ j)
      omega
    rw [← hM]
    have HM := Lib.hid hM
    clear hM
    by_cases hjn : j < 9
    · obtain ⟨R, hR⟩ : ∃ R, R = M % 10 := ⟨_, rfl⟩
      have hr1 : (M : Int).tmod 10 = (R : Int) := by rw [Int.tmod_eq_emod_of_nonneg (by omega)]; omega
      have hr2 : IntKind.u8.wrap (48 + (R : Int)) = 48 + (R : Int) := by rw [IntKind.wrap_u8]; omega
      have hd1 : (M : Int).tdiv 10 = ((M / 10 : Nat) : Int) := by rw [Int.tdiv_eq_ediv_of_nonneg (by omega)]; omega
      have hR9 : R ≤ 9 := by omega
      have HR := Lib.hid hR
      clear hR
      have hj0 : (j : Int) < 9 := by omega
      have hcv : (convert 22 9 (.slice (some ⟨wr.heap.size, 0, none⟩) 1 1)).run Tryd.prog (wr.alloc (.cells #[.int .u8 (48 + (R : Int))] 5)) = .ok (.string ⟨[UInt8.ofNat (48 + R)].toArray⟩) (wr.alloc (.cells #[.int .u8 (48 + (R : Int))] 5)) := by
        have e : bv (UInt8.ofNat (48 + R)) = .int .u8 (48 + (R : Int)) := by
          rw [bv_ofNat]
          congr 1
          all_goals omega
        have h := Rd_lit wr 5 [UInt8.ofNat (48 + R)]
        rw [List.map_cons, e] at h
        exact str_any (c := 1) h
      have Hst := Lib.hid (show (⟨[UInt8.ofNat (48 + R)].toArray⟩ : ByteArray) ++ ⟨(digL j N).toArray⟩ = ⟨(digL (j + 1) N).toArray⟩ by rw [bapp7, digL_succ, HR.out, HM.out]; rfl)
      have hqs : ¬ 9223372036854775807 < 1 + (⟨(digL j N).toArray⟩ : ByteArray).size := by rw [size_dig]; omega
      have hcs : (⟨[UInt8.ofNat (48 + R)].toArray⟩ : ByteArray).size = 1 := rfl
      generalize (⟨[UInt8.ofNat (48 + R)].toArray⟩ : ByteArray) = C at hcv Hst hcs
      generalize (⟨(digL j N).toArray⟩ : ByteArray) = S at Hst hqs ⊢
      have Ha := Lib.hid (Hb.out.alloc Hb.out.size (.cells #[.int .u8 (48 + (R : Int))] 5))
      go_wp2_with fail
      go_roundw
      case rel => exact ⟨j + 1, by omega, by go_num, by rw [HM.out, Nat.pow_succ, ← Nat.div_div_eq_div_mul]; rfl, by rw [← Hst.out], Ha⟩
      case measure => simp [intOf]; omega
    · obtain rfl : j = 9 := by omega
      have Hcat := Lib.hid (show (⟨#[101]⟩ : ByteArray) ++ ⟨(digL 9 N).toArray⟩ = ⟨(101 :: digL 9 N).toArray⟩ from bapp7 [101] (digL 9 N))
      have hqs : ¬ 9223372036854775807 < 1 + (⟨(digL 9 N).toArray⟩ : ByteArray).size := by rw [size_dig]; omega
      generalize (⟨(digL 9 N).toArray⟩ : ByteArray) = Q at hqs Hcat ⊢
      go_wp2_with fail
      go_ret
      exact ⟨by rw [← Hcat.out]; rfl, Hb⟩
set_option maxRecDepth 10000 in
theorem RName7 (x : Int) (w : World) : Val7 20 #[.int .i64 x] w (.string ⟨(nameL x).toArray⟩) :=
  RName7_core x (numN x) (by unfold numN; omega) w
end Go.Proofs.YtfabcmohaikfoaaDoor
