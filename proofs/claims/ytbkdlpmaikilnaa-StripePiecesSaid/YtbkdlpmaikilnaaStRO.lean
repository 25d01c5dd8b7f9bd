/- Contracts of the document's Objects, Room: byte by byte. -/
import Derived.Test.YtbkdlpmaikilnaaStRB
namespace Go.Proofs.Ytbkdlpmaikilnaa
open Go.RowKit

set_option maxHeartbeats 1000000 in
theorem RObjects_ok (u c m n : Nat) (w : World) (h : LN u c m) (hn : n ≤ 512) :
    Calls Try.prog 20 #[.agg #[.int .i64 u, .int .i64 c, .int .i64 ((u * m : Nat) : Int)], .int .i64 n] w fun e w' => e = .returned (.int .i64 (mxO u c m n)) ∧ Below w.heap.size w w' := by
  have Hd := Lib.hid (decide_eq_true h.lay)
  have H := fun i (hi : i ≤ 512) w => Lib.hid (rplace_any u c m i w h (by omega))
  have Hle := Lib.hid (fun i => pO_le h i)
  generalize ((u * m : Nat) : Int) = O at Hd H ⊢
  clear h
  go_enter Try.func20, Try.ntmps20
  go_wp2_with fail
  refine (May_any u c O _).mono ?_
  rintro e w1 ⟨rfl, hb1⟩
  rw [Hd.out]
  have HL := Lib.hid ((LayAt.box w u c O 23).to hb1)
  have Hb1 := Lib.hid (bel1 hb1)
  clear hb1
  go_wp2_with fail
  go_loopw [6, 7] (fun x i wr => ∃ j : Nat, j ≤ n ∧ i = .int .i64 j ∧ x = .int .i64 (mxO u c m j) ∧ Hid (LayAt w.heap.size u c O wr) ∧ Hid (Below w.heap.size w wr) ∧ Hid (mxO u c m j ≤ j)) (fun _ i _ => n - (intOf i).toNat)
  case atStart => exact ⟨0, Nat.zero_le _, rfl, rfl, HL, Hb1, Nat.le_refl _⟩
  case round =>
    obtain ⟨j, hj, rfl, rfl, HLr, Hbr, Hm⟩ := hrel
    have c0 := HLr.out.c0
    have c1 := HLr.out.c1
    have c2 := HLr.out.c2
    have Hstep := Lib.hid (show mxO u c m (j + 1) = max (mxO u c m j) (pO u c m j + 1) from rfl)
    obtain ⟨x, hx⟩ : ∃ x, x = mxO u c m j := ⟨_, rfl⟩
    have hx1 : x ≤ 512 := by have := Hm.out; omega
    have hp1 : pO u c m j ≤ 512 := by have := Hle.out j; omega
    rw [← hx] at Hstep Hm ⊢
    by_cases hlt : j < n
    · go_wp2_with (go_at_call 28; refine (H j (by omega) _).out.mono ?_; rintro e w2 ⟨rfl, hb2⟩)
      all_goals
        have Hb2 := Lib.hid (Hbr.out.trans (hb2.mono Hbr.out.size))
        have HL2 := Lib.hid (HLr.out.to hb2)
        go_roundw
        case rel =>
          have hst := Hstep.out
          have hle := Hle.out j
          have hm := Hm.out
          exact ⟨j + 1, by omega, by go_num, by congr 1; omega, HL2, Hb2, by show _ ≤ _; omega⟩
        case measure => simp [intOf]; omega
    · obtain rfl : j = n := by omega
      go_wp2_with fail
      go_ret
      exact ⟨by rw [hx]; rfl, Hbr.out⟩

set_option maxHeartbeats 1000000 in
theorem RObjects_no (U C O n : Int) (w : World) (h : ¬ (Lay U C O ∧ 0 ≤ n ∧ n ≤ 512)) :
    Calls Try.prog 20 #[.agg #[.int .i64 U, .int .i64 C, .int .i64 O], .int .i64 n] w fun e w' => e = .returned (.int .i64 0) ∧ Below w.heap.size w w' := by
  by_cases hL : Lay U C O
  · have Hd := Lib.hid (decide_eq_true hL)
    by_cases h0 : 0 < n
    · have h5 : 512 < n := Int.not_le.1 fun q => h ⟨hL, by omega, q⟩
      clear hL h
      go_enter Try.func20, Try.ntmps20
      go_wp2_with fail
      refine (May_any U C O _).mono ?_
      rintro e w1 ⟨rfl, hb1⟩
      rw [Hd.out]
      have Hb1 := Lib.hid (bel1 hb1)
      clear hb1
      go_wp2_with fail
      go_loopw [6, 7] (fun x i wr => x = .int .i64 0 ∧ i = .int .i64 0 ∧ wr = w1) (fun _ _ _ => 0)
      case atStart => exact ⟨rfl, rfl, rfl⟩
      case round =>
        obtain ⟨rfl, rfl, rfl⟩ := hrel
        go_wp2_with fail
        go_ret
        exact ⟨rfl, Hb1.out⟩
    · clear hL h
      go_enter Try.func20, Try.ntmps20
      go_wp2_with fail
      refine (May_any U C O _).mono ?_
      rintro e w1 ⟨rfl, hb1⟩
      rw [Hd.out]
      have Hb1 := Lib.hid (bel1 hb1)
      clear hb1
      go_wp2_with fail
      go_loopw [6, 7] (fun x i wr => x = .int .i64 0 ∧ i = .int .i64 0 ∧ wr = w1) (fun _ _ _ => 0)
      case atStart => exact ⟨rfl, rfl, rfl⟩
      case round =>
        obtain ⟨rfl, rfl, rfl⟩ := hrel
        go_wp2_with fail
        go_ret
        exact ⟨rfl, Hb1.out⟩
  · have Hd := Lib.hid (decide_eq_false hL)
    clear hL h
    go_enter Try.func20, Try.ntmps20
    go_wp2_with fail
    refine (May_any U C O _).mono ?_
    rintro e w1 ⟨rfl, hb1⟩
    rw [Hd.out]
    have Hb1 := Lib.hid (bel1 hb1)
    clear hb1
    go_wp2_with fail
    go_loopw [6, 7] (fun x i wr => x = .int .i64 0 ∧ i = .int .i64 0 ∧ wr = w1) (fun _ _ _ => 0)
    case atStart => exact ⟨rfl, rfl, rfl⟩
    case round =>
      obtain ⟨rfl, rfl, rfl⟩ := hrel
      go_wp2_with fail
      go_ret
      exact ⟨rfl, Hb1.out⟩

set_option maxHeartbeats 1000000 in
theorem RRoom_no (U C O ob n : Int) (w : World) (h : ¬ (Lay U C O ∧ 0 ≤ n ∧ n ≤ 512)) :
    Calls Try.prog 22 #[.agg #[.int .i64 U, .int .i64 C, .int .i64 O], .int .i64 ob, .int .i64 n] w fun e w' => e = .returned (.int .i64 0) ∧ Below w.heap.size w w' := by
  by_cases hL : Lay U C O
  · have Hd := Lib.hid (decide_eq_true hL)
    by_cases h0 : 0 < n
    · have h5 : 512 < n := Int.not_le.1 fun q => h ⟨hL, by omega, q⟩
      clear hL h
      go_enter Try.func22, Try.ntmps22
      go_wp2_with fail
      refine (May_any U C O _).mono ?_
      rintro e w1 ⟨rfl, hb1⟩
      rw [Hd.out]
      have Hb1 := Lib.hid (bel1 hb1)
      clear hb1
      go_wp2_with fail
      go_loopw [8, 9] (fun x i wr => x = .int .i64 0 ∧ i = .int .i64 0 ∧ wr = w1) (fun _ _ _ => 0)
      case atStart => exact ⟨rfl, rfl, rfl⟩
      case round =>
        obtain ⟨rfl, rfl, rfl⟩ := hrel
        go_wp2_with fail
        go_ret
        exact ⟨rfl, Hb1.out⟩
    · clear hL h
      go_enter Try.func22, Try.ntmps22
      go_wp2_with fail
      refine (May_any U C O _).mono ?_
      rintro e w1 ⟨rfl, hb1⟩
      rw [Hd.out]
      have Hb1 := Lib.hid (bel1 hb1)
      clear hb1
      go_wp2_with fail
      go_loopw [8, 9] (fun x i wr => x = .int .i64 0 ∧ i = .int .i64 0 ∧ wr = w1) (fun _ _ _ => 0)
      case atStart => exact ⟨rfl, rfl, rfl⟩
      case round =>
        obtain ⟨rfl, rfl, rfl⟩ := hrel
        go_wp2_with fail
        go_ret
        exact ⟨rfl, Hb1.out⟩
  · have Hd := Lib.hid (decide_eq_false hL)
    clear hL h
    go_enter Try.func22, Try.ntmps22
    go_wp2_with fail
    refine (May_any U C O _).mono ?_
    rintro e w1 ⟨rfl, hb1⟩
    rw [Hd.out]
    have Hb1 := Lib.hid (bel1 hb1)
    clear hb1
    go_wp2_with fail
    go_loopw [8, 9] (fun x i wr => x = .int .i64 0 ∧ i = .int .i64 0 ∧ wr = w1) (fun _ _ _ => 0)
    case atStart => exact ⟨rfl, rfl, rfl⟩
    case round =>
      obtain ⟨rfl, rfl, rfl⟩ := hrel
      go_wp2_with fail
      go_ret
      exact ⟨rfl, Hb1.out⟩

/-- mxR, for any number in the place of the object -/
def mxRI (u c m : Nat) (ob : Int) : Nat → Nat
  | 0 => 0
  | i + 1 => if (pO u c m i : Int) = ob then max (mxRI u c m ob i) (pK u c m i + 1) else mxRI u c m ob i
theorem mxRI_nat (u c m ob : Nat) : ∀ n, mxRI u c m (ob : Int) n = mxR u c m ob n
  | 0 => rfl
  | n + 1 => by
    rw [mxRI, mxR, mxRI_nat u c m ob n]
    by_cases h : pO u c m n = ob
    · rw [if_pos h, if_pos (by omega)]
    · rw [if_neg h, if_neg (by omega)]
theorem mxRI_out {u c m : Nat} (ob : Int) : ∀ n, (∀ j, j < n → (pO u c m j : Int) ≠ ob) → mxRI u c m ob n = 0
  | 0, _ => rfl
  | n + 1, h => by rw [mxRI, if_neg (h n (by omega)), mxRI_out ob n (fun j q => h j (by omega))]
theorem mxRI_le {u c m : Nat} (hL : LN u c m) (ob : Int) : ∀ n, mxRI u c m ob n ≤ 64
  | 0 => by rw [mxRI]; omega
  | n + 1 => by
    have := mxRI_le hL ob n
    have h1 := pK_lt hL n
    have h2 := hL.um
    rw [mxRI]
    split <;> omega

set_option maxHeartbeats 1000000 in
theorem RRoom_ok (u c m n : Nat) (ob : Int) (w : World) (h : LN u c m) (hn : n ≤ 512) :
    Calls Try.prog 22 #[.agg #[.int .i64 u, .int .i64 c, .int .i64 ((u * m : Nat) : Int)], .int .i64 ob, .int .i64 n] w fun e w' => e = .returned (.int .i64 (mxRI u c m ob n)) ∧ Below w.heap.size w w' := by
  have Hd := Lib.hid (decide_eq_true h.lay)
  have H := fun i (hi : i ≤ 512) w => Lib.hid (rplace_any u c m i w h (by omega))
  have Hle := Lib.hid (fun i => pK_le h i)
  have Hle2 := Lib.hid (mxRI_le h ob)
  generalize ((u * m : Nat) : Int) = O at Hd H ⊢
  clear h
  go_enter Try.func22, Try.ntmps22
  go_wp2_with fail
  refine (May_any u c O _).mono ?_
  rintro e w1 ⟨rfl, hb1⟩
  rw [Hd.out]
  have HL := Lib.hid ((LayAt.box w u c O 23).to hb1)
  have Hb1 := Lib.hid (bel1 hb1)
  clear hb1
  go_wp2_with fail
  go_loopw [8, 9] (fun x i wr => ∃ j : Nat, j ≤ n ∧ i = .int .i64 j ∧ x = .int .i64 (mxRI u c m ob j) ∧ Hid (LayAt w.heap.size u c O wr) ∧ Hid (Below w.heap.size w wr)) (fun _ i _ => n - (intOf i).toNat)
  case atStart => exact ⟨0, Nat.zero_le _, rfl, rfl, HL, Hb1⟩
  case round =>
    obtain ⟨j, hj, rfl, rfl, HLr, Hbr⟩ := hrel
    have c0 := HLr.out.c0
    have c1 := HLr.out.c1
    have c2 := HLr.out.c2
    have Hstep := Lib.hid (show mxRI u c m ob (j + 1) = if (pO u c m j : Int) = ob then max (mxRI u c m ob j) (pK u c m j + 1) else mxRI u c m ob j from rfl)
    have hx1 := Hle2.out j
    have hp1 := Hle.out j
    obtain ⟨x, hx⟩ : ∃ x, x = mxRI u c m ob j := ⟨_, rfl⟩
    rw [← hx] at Hstep hx1 ⊢
    by_cases hlt : j < n
    · by_cases ho : (pO u c m j : Int) = ob
      · have Hst : Hid (mxRI u c m ob (j + 1) = max x (pK u c m j + 1)) := by rw [if_pos ho] at Hstep; exact Hstep
        clear Hstep
        go_wp2_with (go_at_call 28; refine (H j (by omega) _).out.mono ?_; rintro e w2 ⟨rfl, hb2⟩)
        all_goals
          have Hb2 := Lib.hid (Hbr.out.trans (hb2.mono Hbr.out.size))
          have HL2 := Lib.hid (HLr.out.to hb2)
          go_roundw
          case rel =>
            have hst := Hst.out
            exact ⟨j + 1, by omega, by go_num, by congr 1; omega, HL2, Hb2⟩
          case measure => simp [intOf]; omega
      · have Hst : Hid (mxRI u c m ob (j + 1) = x) := by rw [if_neg ho] at Hstep; exact Hstep
        clear Hstep
        go_wp2_with (go_at_call 28; refine (H j (by omega) _).out.mono ?_; rintro e w2 ⟨rfl, hb2⟩)
        all_goals
          have Hb2 := Lib.hid (Hbr.out.trans (hb2.mono Hbr.out.size))
          have HL2 := Lib.hid (HLr.out.to hb2)
          go_roundw
          case rel =>
            have hst := Hst.out
            exact ⟨j + 1, by omega, by go_num, by congr 1; omega, HL2, Hb2⟩
          case measure => simp [intOf]; omega
    · obtain rfl : j = n := by omega
      go_wp2_with fail
      go_ret
      exact ⟨by rw [hx]; rfl, Hbr.out⟩
end Go.Proofs.Ytbkdlpmaikilnaa
