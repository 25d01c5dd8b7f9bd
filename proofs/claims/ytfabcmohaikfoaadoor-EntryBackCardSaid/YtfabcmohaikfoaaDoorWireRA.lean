/- Contracts of the document's own answers for layer 1: the writers. -/
import Derived.Test.YtfabcmohaikfoaaDoorWireP
import Derived.Test.YtfabcmohaikfoaaDoorWireD
namespace Go.Proofs.YtfabcmohaikfoaaDoor
open Go.RowKit

set_option maxRecDepth 10000 in
set_option maxHeartbeats 400000 in
theorem wide_any (x : Int) (w : World) :
    Calls Tryd.prog 48 #[.int .i64 x] w fun e w' => e = .returned (.int .i64 (fitW x)) ∧ w = w' := by
  go_enter Tryd.func48, Tryd.ntmps48
  go_wp2
  all_goals (go_ret; refine ⟨ret_int ?_, rfl⟩; unfold fitW; omega)

theorem pow_bd (j : Nat) (h : j ≤ 7) : 0 ≤ (256 : Int) ^ j ∧ (256 : Int) ^ j ≤ 72057594037927936 := by
  obtain rfl | rfl | rfl | rfl | rfl | rfl | rfl | rfl : j = 0 ∨ j = 1 ∨ j = 2 ∨ j = 3 ∨ j = 4 ∨ j = 5 ∨ j = 6 ∨ j = 7 := by omega
  all_goals decide

set_option maxRecDepth 10000 in
set_option maxHeartbeats 400000 in
theorem most_any (k : Nat) (h : 1 ≤ k ∧ k ≤ 7) (w : World) :
    Calls Tryd.prog 55 #[.int .i64 k] w fun e w' => e = .returned (.int .i64 ((256 : Int) ^ k - 1)) ∧ w = w' := by
  go_enter Tryd.func55, Tryd.ntmps55
  go_wp2
  go_loop [3, 4] (fun n i => ∃ j : Nat, j ≤ k ∧ i = .int .i64 j ∧ n = .int .i64 ((256 : Int) ^ j)) (fun _ i => k - (intOf i).toNat)
  case atStart => exact ⟨0, Nat.zero_le _, rfl, rfl⟩
  case round =>
    obtain ⟨j, hj, rfl, rfl⟩ := hrel
    have hp := pow_bd j (by omega)
    by_cases hlt : j < k
    · have hp1 : (256 : Int) ^ j ≤ 281474976710656 := by
        obtain rfl | rfl | rfl | rfl | rfl | rfl | rfl : j = 0 ∨ j = 1 ∨ j = 2 ∨ j = 3 ∨ j = 4 ∨ j = 5 ∨ j = 6 := by omega
        all_goals decide
      go_wp2
      go_round
      case rel => exact ⟨j + 1, by omega, by go_num, by rw [Int.pow_succ]⟩
      case measure => simp [intOf]; omega
    · obtain rfl : j = k := by omega
      go_wp2
      go_ret
      exact ⟨rfl, rfl⟩

set_option maxRecDepth 10000 in
set_option maxHeartbeats 1000000 in
theorem RefNum_any (width x : Int) (w : World) :
    Calls Tryd.prog 36 #[.int .i64 width, .int .i64 x] w fun e w' =>
      e = .returned (.slice (some ⟨w.heap.size, 0, none⟩) (fitW width) (fitW width)) ∧ w'.ownsRow w.heap.size 5 1 (.slice (some ⟨w.heap.size, 0, none⟩) (fitW width) (fitW width)) (fitW width) ((numB width x).map bv) ∧ Below w.heap.size w w' := by
  obtain ⟨f, hfe⟩ : ∃ f, f = fitW width := ⟨_, rfl⟩
  have hf := fitW_bd width
  have hnb : numB width x = encB f (clampN f x) := by rw [numB, hfe]
  rw [hnb]
  obtain ⟨m, hm⟩ : ∃ m, m = clampN f x := ⟨_, rfl⟩
  have hm1 : (m : Int) = min (max x 0) ((256 : Int) ^ f - 1) := by
    have : (256 : Int) ^ f ≥ 1 := Int.pow_pos (by decide)
    rw [hm]; unfold clampN; omega
  rw [← hm]
  rw [← hfe] at hf ⊢
  have Hm := Lib.hid hm1
  have Hf := Lib.hid hfe.symm
  obtain ⟨i, hi, hz0, hz1, hz2⟩ := info_parts Tryd.infoB
  have hmk := fun W => run_mk (P := Tryd.prog) Tryd.underlying22 hi hz0 hz1 (by omega) f f (f : Int) rfl (Nat.le_refl _) (by omega) W
  clear hz1 hz2 hnb hm hm1 hfe
  go_enter Tryd.func36, Tryd.ntmps36
  go_upto_region 2 with (go_at_call 48; refine (wide_any _ _).mono ?_; rintro e w' ⟨rfl, rfl⟩; rw [Hf.out])
  go_cut [1] (fun s wx => s = .int .i64 m ∧ wx = w)
  case first =>
    go_wp2_with (go_at_call 55; refine (most_any _ hf _).mono ?_; rintro e w' ⟨rfl, rfl⟩)
    all_goals
      go_meet
      have := Hm.out
      exact ⟨by congr 1; omega, rfl⟩
  case rest =>
    obtain ⟨rfl, rfl⟩ := hcut
    go_wp2
    go_loopw [1, 7] (fun n i wr => ∃ t : Nat, t ≤ f ∧ i = .int .i64 ((f : Int) - 1 - (t : Int)) ∧ n = .int .i64 ((m / 256 ^ t : Nat) : Int) ∧ wr.ownsRow wc.heap.size 5 1 (.slice (some ⟨wc.heap.size, 0, none⟩) f f) f (List.replicate (f - t) (.int .u8 0) ++ (encB t m).map bv) ∧ Below wc.heap.size wc wr) (fun _ i _ => (intOf i + 1).toNat)
    case atStart =>
      refine ⟨0, Nat.zero_le _, by go_num, by simp, ?_, (Below.refl _ _).alloc (Nat.le_refl _) _⟩
      have h := World.ownsRow_lit (base := wc.heap.size) (e := 5) (size := 1) wc (madeCells #[.int .u8 0] f) f (Nat.le_refl _) (by simp only [maxLen]; omega) (by rw [size_madeCells, Nat.mul_one])
      rw [toList_madeCells_one] at h
      simpa [encB] using h
    case round =>
      obtain ⟨t, ht, rfl, rfl, hown, hb⟩ := hrel
      by_cases hlt : t < f
      · obtain ⟨q, hq⟩ : ∃ q, q = m / 256 ^ t := ⟨_, rfl⟩
        have hqb : q < 72057594037927936 := by
          have h1 := Hm.out
          have h2 := pow_bd f hf.2
          have h3 : q ≤ m := by rw [hq]; exact Nat.div_le_self _ _
          omega
        have hq1 : q / 256 = m / 256 ^ (t + 1) := by rw [hq, Nat.div_div_eq_div_mul, Nat.pow_succ]
        have hst := hown.stored (f - 1 - t) (.int .u8 ((q : Int) % 256))
        have hc : wr.cell? ⟨wc.heap.size, f - 1 - t, none⟩ = some (.int .u8 0) := by
          rw [hown.cellAt (f - 1 - t) (by omega), List.getElem?_append_left (by rw [List.length_replicate]; omega), List.getElem?_replicate, if_pos (by omega)]
        have hfr := hown.frozenAt (f - 1 - t)
        have hl : (List.replicate (f - t) (Value.int .u8 0) ++ (encB t m).map bv).set (f - 1 - t) (.int .u8 ((q : Int) % 256)) = List.replicate (f - (t + 1)) (.int .u8 0) ++ (encB (t + 1) m).map bv := by
          rw [encB_succ, List.map_cons, bv_ofNat, ← hq, show f - t = (f - 1 - t) + 1 by omega, List.replicate_succ', List.append_assoc, List.set_append_right _ _ (by rw [List.length_replicate]; exact Nat.le_refl _), List.length_replicate, Nat.sub_self, show f - (t + 1) = f - 1 - t by omega]
          simp
        rw [hl] at hst
        have hb2 := hb.setCell (p := ⟨wc.heap.size, f - 1 - t, none⟩) (Nat.le_refl _) (.int .u8 ((q : Int) % 256))
        rw [← hq]
        have Hst := Lib.hid hst.1
        have Hq1 := Lib.hid hq1
        have Hb2 := Lib.hid hb2
        clear hst hq hq1 hl hb2 hown hb
        go_wp2
        go_roundw
        case rel => exact ⟨t + 1, by omega, by go_num, by rw [← Hq1.out]; go_num, Hst.out, Hb2.out⟩
        case measure => simp [intOf]; omega
      · obtain rfl : t = f := by omega
        rw [Nat.sub_self, List.replicate_zero, List.nil_append] at hown
        go_wp2
        go_ret
        exact ⟨rfl, hown, hb⟩

set_option maxRecDepth 10000 in
theorem RefNum_out (width x : Int) (w : World) : Calls Tryd.prog 36 #[.int .i64 width, .int .i64 x] w fun e w' =>
    e = .returned (.slice (some ⟨w.heap.size, 0, none⟩) (fitW width) (fitW width)) ∧ Rd w' w'.heap.size (some ⟨w.heap.size, 0, none⟩) (fitW width) (numB width x) ∧ Below w.heap.size w w' :=
  (RefNum_any width x w).mono fun _ _ ⟨h1, h2, h3⟩ => ⟨h1, Rd.own h2, h3⟩

set_option maxRecDepth 10000 in
set_option maxHeartbeats 1000000 in
theorem RefBlob_any (A : Option Addr) (n c : Nat) (x : List UInt8) (w : World) (hr : Rd w w.heap.size A n x) (hc : n ≤ c) (hm : c ≤ 9223372036854775807) :
    Calls Tryd.prog 37 #[.slice A n c] w fun e w' => Out w (blobB x) e w' := by
  have hx := hr.1
  obtain ⟨i, hi, hz0, hz1, hz2⟩ := info_parts Tryd.infoB
  have hr2 : Rd w w.heap.size A (min n 65535) (x.take 65535) := by
    have h := hr.take (k := min n 65535) (by omega)
    have e : x.take (min n 65535) = x.take 65535 := by rw [← hx, Nat.min_comm, ← List.take_eq_take_min]
    rwa [e] at h
  obtain ⟨m, hme⟩ : ∃ m, m = min n 65535 := ⟨_, rfl⟩
  have hm2 : m ≤ 65535 := by omega
  have hce : numB 2 (m : Int) = encB 2 m := by
    have h1 : fitW 2 = 2 := by decide
    have h2 : clampN 2 (m : Int) = m := by unfold clampN; omega
    rw [numB, h1, h2]
  have hfin : blobB x = numB 2 (m : Int) ++ x.take 65535 := by rw [hce, hme, blobB, hx]
  rw [hfin]
  rw [← hme] at hr2
  have hf2 : fitW 2 = 2 := by decide
  have Hm := Lib.hid hme
  clear hce hfin hme hx hr
  go_enter Tryd.func37, Tryd.ntmps37
  go_upto_region 3 with fail
  all_goals
    first
      | (have e65 : (65535 : Nat) = m := (by have := Hm.out; omega); rw [e65]; clear e65)
      | (have e65 : n = m := (by have := Hm.out; omega); rw [e65]; clear e65)
    go_wp2_with (first
      | (go_at_call 36; refine (RefNum_any 2 _ _).mono ?_; rintro e w1 ⟨rfl, hown1, hb1⟩; rw [hf2] at hown1 ⊢)
      | (at_builtin; refine wpList_append_rd rfl (.tmp 12) (.tmp 13) 22 rfl w.heap.size 5 i (.int .u8 0) 1 Tryd.underlying22 hi hz0 hz1 hz2 rfl _ 2 _ rfl hown1 A _ c ((x.take 65535).map bv) rfl (by rw [List.length_map, hr2.1]) (hr2.below hb1).src (bv_one _) (by simp only [maxLen]; omega) (by omega) hb1.size ?_; intro v3 w3 hown3 hg3))
    go_ret
    rw [← List.map_append] at hown3
    exact Out.mk hown3 (hb1.grown hg3 hb1.size (fun q hq => (hown1.lt q hq).1))

/-- one more number behind those that are there -/
theorem numsB_take (width : Int) (zs : List Int) (h : zs.length ≤ 255) : numsB width zs = encB 1 zs.length ++ zs.flatMap (numB width) := by
  rw [numsB, Nat.min_eq_left h, List.take_of_length_le h]

end Go.Proofs.YtfabcmohaikfoaaDoor
