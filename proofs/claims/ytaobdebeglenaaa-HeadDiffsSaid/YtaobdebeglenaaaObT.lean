/- Contracts of package objmap: packedSize, packByte, unpackByte. -/
import Derived.Test.YtaobdebeglenaaaObU
import Derived.Test.YtaobdebeglenaaaObW
namespace Go.Proofs.Ytaobdebeglenaaa
open Go.RowKit

theorem ofInt_toNat {n : Nat} (hn : n < 9223372036854775808) : (BitVec.ofInt 64 (n : Int)).toNat = n := by
  rw [BitVec.ofInt_natCast, BitVec.toNat_ofNat]; exact Nat.mod_eq_of_lt (by omega)
/-- the low two bits -/
theorem and_three (n : Nat) (h : n < 256) : bits .and .i64 (n : Int) 3 = ((n % 4 : Nat) : Int) := by
  show IntKind.i64.wrap ((BitVec.ofInt 64 (n : Int) &&& BitVec.ofInt 64 ((3 : Nat) : Int)).toNat : Int) = _
  rw [BitVec.toNat_and, ofInt_toNat (by omega), ofInt_toNat (by omega), IntKind.wrap_i64, show (3 : Nat) = 2 ^ 2 - 1 by rfl, Nat.and_two_pow_sub_one_eq_mod]
  omega
/-- bits above others -/
theorem or_high (i P x M : Nat) (hM : M = 2 ^ i) (hP : P < M) (hx : x * M < 1000000) (hP2 : P < 1000000) : bits .or .i64 (P : Int) ((x : Int) * (M : Int)) = ((P + x * M : Nat) : Int) := by
  rw [show (x : Int) * (M : Int) = ((x * M : Nat) : Int) by simp]
  show IntKind.i64.wrap ((BitVec.ofInt 64 (P : Int) ||| BitVec.ofInt 64 ((x * M : Nat) : Int)).toNat : Int) = _
  rw [BitVec.toNat_or, ofInt_toNat (by omega), ofInt_toNat (by omega), IntKind.wrap_i64, Nat.or_comm]
  have h2 : x * M ||| P = x * M + P := by
    have := Nat.shiftLeft_add_eq_or_of_lt (i := i) (b := P) (by omega) x
    rw [Nat.shiftLeft_eq, ← hM] at this
    exact this.symm
  rw [h2]
  omega

set_option maxRecDepth 10000 in
theorem packedSize_any (n : Nat) (w : World) (hn : n ≤ 100000) : Calls Try.prog 88 #[.int .i64 (n : Int)] w fun e w' => e = .returned (.int .i64 ((2 + (n + 3) / 4 : Nat) : Int)) ∧ w = w' := by
  obtain ⟨I, hI⟩ : ∃ I : Int, I = n := ⟨_, rfl⟩
  have He := Lib.hid (show ((2 + (n + 3) / 4 : Nat) : Int) = 2 + (I + 3) / 4 by omega)
  have h0 : 0 ≤ I := by omega
  have h1 : I ≤ 100000 := by omega
  rw [He.out, ← hI]
  clear hI He
  have ht : (I + 4 - 1).tdiv 4 = (I + 3) / 4 := by rw [Int.tdiv_eq_ediv_of_nonneg (by omega)]; omega
  go_enter Try.func88, Try.ntmps88
  go_wp2_with fail
  go_ret
  exact ⟨by first | rfl | (congr 2; omega) | (simp; omega), rfl⟩

/-- what has been packed of four states -/
def pq4 (x0 x1 x2 x3 : Nat) : Nat → Nat
  | 0 => 0
  | 1 => x0
  | 2 => x0 + x1 * 4
  | 3 => x0 + x1 * 4 + x2 * 16
  | _ => x0 + x1 * 4 + x2 * 16 + x3 * 64
theorem gN_nat (r : List Int) (k : Nat) : ∃ x : Nat, gN r k = (x : Int) ∧ x ≤ 2 := by
  have h := gN_st r k
  unfold St at h
  exact ⟨(gN r k).toNat, by omega, by omega⟩

set_option maxRecDepth 10000 in
set_option maxHeartbeats 2000000 in
theorem packByte_any (A : Option Addr) (n c q : Nat) (r : List Int) (B : Nat) (w : World) (hr : RdI w B A n r) (hn : n ≤ 100000) (hq : q ≤ 1000) :
    Calls Try.prog 89 #[.slice A n c, .int .i64 ((4 * q : Nat) : Int)] w fun e w' => e = .returned (.int .u8 (quadN r q : Int)) ∧ w = w' := by
  have HG0 := Lib.hid (Get_any A n c r ((4 * q : Nat) : Int) B w hr (by omega))
  have HG1 := Lib.hid (Get_any A n c r ((4 * q + 1 : Nat) : Int) B w hr (by omega))
  have HG2 := Lib.hid (Get_any A n c r ((4 * q + 2 : Nat) : Int) B w hr (by omega))
  have HG3 := Lib.hid (Get_any A n c r ((4 * q + 3 : Nat) : Int) B w hr (by omega))
  rw [getO_nat] at HG0 HG1 HG2 HG3
  obtain ⟨x0, e0, l0⟩ := gN_nat r (4 * q)
  obtain ⟨x1, e1, l1⟩ := gN_nat r (4 * q + 1)
  obtain ⟨x2, e2, l2⟩ := gN_nat r (4 * q + 2)
  obtain ⟨x3, e3, l3⟩ := gN_nat r (4 * q + 3)
  have hQ := quad_eq r q
  rw [e0, e1, e2, e3] at hQ
  have HQ := Lib.hid (show quadN r q = pq4 x0 x1 x2 x3 4 by show _ = x0 + x1 * 4 + x2 * 16 + x3 * 64; omega)
  rw [e0] at HG0
  rw [e1, show ((4 * q + 1 : Nat) : Int) = ((4 * q : Nat) : Int) + 1 by omega] at HG1
  rw [e2, show ((4 * q + 2 : Nat) : Int) = ((4 * q : Nat) : Int) + 2 by omega] at HG2
  rw [e3, show ((4 * q + 3 : Nat) : Int) = ((4 * q : Nat) : Int) + 3 by omega] at HG3
  clear hr e0 e1 e2 e3 hQ
  obtain ⟨I, hI⟩ : ∃ I, I = 4 * q := ⟨_, rfl⟩
  have hI4 : I ≤ 4000 := by omega
  rw [← hI] at HG0 HG1 HG2 HG3 ⊢
  rw [HQ.out]
  clear hI HQ
  go_enter Try.func89, Try.ntmps89
  go_wp2_with fail
  go_loopw [5, 7] (fun p i wr => wr = w ∧ ∃ (j P : Nat), j ≤ 4 ∧ i = .int .i64 (j : Int) ∧ p = .int .i64 (P : Int) ∧ Hid (P = pq4 x0 x1 x2 x3 j)) (fun _ i _ => 4 - (intOf i).toNat)
  case atStart => exact ⟨rfl, 0, 0, by omega, rfl, rfl, rfl⟩
  case round =>
    obtain ⟨rfl, j, P, hj, rfl, rfl, HP⟩ := hrel
    rcases (show j = 0 ∨ j = 1 ∨ j = 2 ∨ j = 3 ∨ j = 4 by omega) with rfl | rfl | rfl | rfl | rfl
    · have hP : P = 0 := HP.out
      subst hP
      have ho : bits .or .i64 0 (x0 : Int) = (x0 : Int) := by
        have h := or_high 0 0 x0 1 rfl (by omega) (by omega) (by omega)
        simpa using h
      go_wp2_with (go_at_call 106; refine HG0.out.mono ?_; rintro e w' ⟨rfl, rfl⟩)
      go_roundw
      case rel => exact ⟨by first | rfl | trivial, 1, x0, by omega, by first | rfl | go_num, by first | rfl | rw [ho], rfl⟩
      case measure => simp [intOf]
    · have hP : P = x0 := HP.out
      subst hP
      have ho : bits .or .i64 (P : Int) ((x1 : Int) * 4) = ((P + x1 * 4 : Nat) : Int) := or_high 2 P x1 4 rfl (by omega) (by omega) (by omega)
      go_wp2_with (go_at_call 106; refine HG1.out.mono ?_; rintro e w' ⟨rfl, rfl⟩)
      go_roundw
      case rel => exact ⟨by first | rfl | trivial, 2, P + x1 * 4, by omega, by first | rfl | go_num, by first | rfl | rw [ho], rfl⟩
      case measure => simp [intOf]
    · have hP : P = x0 + x1 * 4 := HP.out
      have ho : bits .or .i64 (P : Int) ((x2 : Int) * 16) = ((P + x2 * 16 : Nat) : Int) := or_high 4 P x2 16 rfl (by omega) (by omega) (by omega)
      have HP2 := Lib.hid hP
      clear hP
      go_wp2_with (go_at_call 106; refine HG2.out.mono ?_; rintro e w' ⟨rfl, rfl⟩)
      go_roundw
      case rel => exact ⟨by first | rfl | trivial, 3, P + x2 * 16, by omega, by first | rfl | go_num, by first | rfl | rw [ho], by show _ = _; rw [HP2.out]; rfl⟩
      case measure => simp [intOf]
    · have hP : P = x0 + x1 * 4 + x2 * 16 := HP.out
      have ho : bits .or .i64 (P : Int) ((x3 : Int) * 64) = ((P + x3 * 64 : Nat) : Int) := or_high 6 P x3 64 rfl (by omega) (by omega) (by omega)
      have HP2 := Lib.hid hP
      clear hP
      go_wp2_with (go_at_call 106; refine HG3.out.mono ?_; rintro e w' ⟨rfl, rfl⟩)
      go_roundw
      case rel => exact ⟨by first | rfl | trivial, 4, P + x3 * 64, by omega, by first | rfl | go_num, by first | rfl | rw [ho], by show _ = _; rw [HP2.out]; rfl⟩
      case measure => simp [intOf]
    · have hP : P = x0 + x1 * 4 + x2 * 16 + x3 * 64 := HP.out
      have hP0 : (0 : Int) ≤ (P : Int) := by omega
      have hP1 : (P : Int) < 256 := by omega
      clear hP
      go_wp2_with fail
      go_ret
      exact ⟨by rw [HP.out]; rfl, rfl⟩

/-- the four states of a byte -/
def quadU (X : Nat) : List Int := [((X % 4 : Nat) : Int), ((X / 4 % 4 : Nat) : Int), ((X / 16 % 4 : Nat) : Int), ((X / 64 % 4 : Nat) : Int)]

set_option maxRecDepth 10000 in
set_option maxHeartbeats 2000000 in
theorem unpackByte_any (B X n c : Nat) (A : Option Addr) (l : List Int) (w : World) (hX : X < 256) (hn : n ≤ 100000) (ho : w.ownsRow B 3 1 (.slice A n c) n (l.map (Value.int .i64))) (hB : B ≤ w.heap.size) :
    Calls Try.prog 107 #[.slice A n c, .int .u8 (X : Int)] w fun e w' => ∃ A' c', e = .returned (.slice A' (n + 4) c') ∧ w'.ownsRow B 3 1 (.slice A' (n + 4) c') (n + 4) ((l ++ quadU X).map (Value.int .i64)) ∧ Below B w w' := by
  obtain ⟨inf, hi, hz0, hz1, hz2⟩ := info_parts Try.infoI
  have Ho := Lib.hid ho
  have hx0 : (0 : Int) ≤ (X : Int) := by omega
  have hx1 : (X : Int) < 256 := by omega
  obtain ⟨z0, hz0e⟩ : ∃ z, z = X % 4 := ⟨_, rfl⟩
  obtain ⟨z1, hz1e⟩ : ∃ z, z = X / 4 % 4 := ⟨_, rfl⟩
  obtain ⟨z2, hz2e⟩ : ∃ z, z = X / 16 % 4 := ⟨_, rfl⟩
  obtain ⟨z3, hz3e⟩ : ∃ z, z = X / 64 % 4 := ⟨_, rfl⟩
  have Hq := Lib.hid (show quadU X = [(z0 : Int), (z1 : Int), (z2 : Int), (z3 : Int)] by unfold quadU; rw [hz0e, hz1e, hz2e, hz3e])
  have a0 : bits .and .i64 (X : Int) 3 = (z0 : Int) := by rw [and_three X hX, hz0e]
  have a1 : bits .and .i64 ((X : Int) / 4) 3 = (z1 : Int) := by rw [show (X : Int) / 4 = ((X / 4 : Nat) : Int) by omega, and_three (X / 4) (by omega), hz1e]
  have a2 : bits .and .i64 ((X : Int) / 16) 3 = (z2 : Int) := by rw [show (X : Int) / 16 = ((X / 16 : Nat) : Int) by omega, and_three (X / 16) (by omega), hz2e]
  have a3 : bits .and .i64 ((X : Int) / 64) 3 = (z3 : Int) := by rw [show (X : Int) / 64 = ((X / 64 : Nat) : Int) by omega, and_three (X / 64) (by omega), hz3e]
  rw [Hq.out]
  clear ho hz0e hz1e hz2e hz3e Hq
  go_enter Try.func107, Try.ntmps107
  go_wp2_with fail
  go_loopw [0, 6] (fun v i wr => ∃ (j N : Nat), j ≤ 4 ∧ i = .int .i64 (j : Int) ∧ Hid (N = n + j) ∧ Hid (wr.ownsRow B 3 1 v N ((l ++ [(z0 : Int), (z1 : Int), (z2 : Int), (z3 : Int)].take j).map (Value.int .i64))) ∧ Hid (Below B w wr)) (fun _ i _ => 4 - (intOf i).toNat)
  case atStart => exact ⟨0, n, by omega, rfl, rfl, by rw [List.take_zero, List.append_nil]; exact Ho, Below.refl _ _⟩
  case round =>
    obtain ⟨j, N, hj, rfl, HN, Hown, Hbr⟩ := hrel
    have hws := Hbr.out.size
    have hNb : N ≤ 200000 := by have := HN.out; omega
    obtain ⟨A3, c3, rfl, _, _⟩ := ownI Hown.out
    rcases (show j = 0 ∨ j = 1 ∨ j = 2 ∨ j = 3 ∨ j = 4 by omega) with rfl | rfl | rfl | rfl | rfl
    · have Hst : Hid ((l ++ [(z0 : Int), (z1 : Int), (z2 : Int), (z3 : Int)].take 1).map (Value.int .i64) = (l ++ [(z0 : Int), (z1 : Int), (z2 : Int), (z3 : Int)].take 0).map (Value.int .i64) ++ [(z0 : Int)].map (Value.int .i64)) := by
        show _ = _
        simp
      go_wp2_with (at_builtin; refine wpList_append_rd rfl (.tmp 9) (.tmp 16) 24 rfl B 3 inf (.int .i64 0) 8 Try.underlying24 hi hz0 hz1 hz2 rfl _ _ _ rfl (Hown.out.alloc _) (some ⟨wr.heap.size, 0, none⟩) 1 1 ([(z0 : Int)].map (Value.int .i64)) rfl rfl (RdI_lit wr 3 [(z0 : Int)]).src (int_one _) (by simp only [maxLen]; omega) (by omega) (by simp; omega) ?_; intro v2 w2 hown2 hg2; have Hb2 := Lib.hid ((Hbr.out.alloc (by omega) _).grown hg2 (by simp; omega) (fun q hq => (Hown.out.lt q hq).1)); have Hown2 := Lib.hid hown2; clear hown2 hg2)
      go_roundw
      case rel => exact ⟨1, N + 1, by omega, by first | rfl | go_num, Lib.hid (by have := HN.out; omega), by rw [Hst.out]; exact Hown2, Hb2⟩
      case measure => simp [intOf]
    · have Hst : Hid ((l ++ [(z0 : Int), (z1 : Int), (z2 : Int), (z3 : Int)].take 2).map (Value.int .i64) = (l ++ [(z0 : Int), (z1 : Int), (z2 : Int), (z3 : Int)].take 1).map (Value.int .i64) ++ [(z1 : Int)].map (Value.int .i64)) := by
        show _ = _
        simp
      go_wp2_with (at_builtin; refine wpList_append_rd rfl (.tmp 9) (.tmp 16) 24 rfl B 3 inf (.int .i64 0) 8 Try.underlying24 hi hz0 hz1 hz2 rfl _ _ _ rfl (Hown.out.alloc _) (some ⟨wr.heap.size, 0, none⟩) 1 1 ([(z1 : Int)].map (Value.int .i64)) rfl rfl (RdI_lit wr 3 [(z1 : Int)]).src (int_one _) (by simp only [maxLen]; omega) (by omega) (by simp; omega) ?_; intro v2 w2 hown2 hg2; have Hb2 := Lib.hid ((Hbr.out.alloc (by omega) _).grown hg2 (by simp; omega) (fun q hq => (Hown.out.lt q hq).1)); have Hown2 := Lib.hid hown2; clear hown2 hg2)
      go_roundw
      case rel => exact ⟨2, N + 1, by omega, by first | rfl | go_num, Lib.hid (by have := HN.out; omega), by rw [Hst.out]; exact Hown2, Hb2⟩
      case measure => simp [intOf]
    · have Hst : Hid ((l ++ [(z0 : Int), (z1 : Int), (z2 : Int), (z3 : Int)].take 3).map (Value.int .i64) = (l ++ [(z0 : Int), (z1 : Int), (z2 : Int), (z3 : Int)].take 2).map (Value.int .i64) ++ [(z2 : Int)].map (Value.int .i64)) := by
        show _ = _
        simp
      go_wp2_with (at_builtin; refine wpList_append_rd rfl (.tmp 9) (.tmp 16) 24 rfl B 3 inf (.int .i64 0) 8 Try.underlying24 hi hz0 hz1 hz2 rfl _ _ _ rfl (Hown.out.alloc _) (some ⟨wr.heap.size, 0, none⟩) 1 1 ([(z2 : Int)].map (Value.int .i64)) rfl rfl (RdI_lit wr 3 [(z2 : Int)]).src (int_one _) (by simp only [maxLen]; omega) (by omega) (by simp; omega) ?_; intro v2 w2 hown2 hg2; have Hb2 := Lib.hid ((Hbr.out.alloc (by omega) _).grown hg2 (by simp; omega) (fun q hq => (Hown.out.lt q hq).1)); have Hown2 := Lib.hid hown2; clear hown2 hg2)
      go_roundw
      case rel => exact ⟨3, N + 1, by omega, by first | rfl | go_num, Lib.hid (by have := HN.out; omega), by rw [Hst.out]; exact Hown2, Hb2⟩
      case measure => simp [intOf]
    · have Hst : Hid ((l ++ [(z0 : Int), (z1 : Int), (z2 : Int), (z3 : Int)].take 4).map (Value.int .i64) = (l ++ [(z0 : Int), (z1 : Int), (z2 : Int), (z3 : Int)].take 3).map (Value.int .i64) ++ [(z3 : Int)].map (Value.int .i64)) := by
        show _ = _
        simp
      go_wp2_with (at_builtin; refine wpList_append_rd rfl (.tmp 9) (.tmp 16) 24 rfl B 3 inf (.int .i64 0) 8 Try.underlying24 hi hz0 hz1 hz2 rfl _ _ _ rfl (Hown.out.alloc _) (some ⟨wr.heap.size, 0, none⟩) 1 1 ([(z3 : Int)].map (Value.int .i64)) rfl rfl (RdI_lit wr 3 [(z3 : Int)]).src (int_one _) (by simp only [maxLen]; omega) (by omega) (by simp; omega) ?_; intro v2 w2 hown2 hg2; have Hb2 := Lib.hid ((Hbr.out.alloc (by omega) _).grown hg2 (by simp; omega) (fun q hq => (Hown.out.lt q hq).1)); have Hown2 := Lib.hid hown2; clear hown2 hg2)
      go_roundw
      case rel => exact ⟨4, N + 1, by omega, by first | rfl | go_num, Lib.hid (by have := HN.out; omega), by rw [Hst.out]; exact Hown2, Hb2⟩
      case measure => simp [intOf]
    · obtain rfl : N = n + 4 := HN.out
      go_wp2_with fail
      go_ret
      exact ⟨A3, c3, rfl, by have h := Hown.out; simpa using h, Hbr.out⟩
end Go.Proofs.Ytaobdebeglenaaa
