/- Contracts: frames are made (the program's, the document's). -/
import Derived.Test.YtfabcmohaikfoaaDoorFrB
import Derived.Test.YtfabcmohaikfoaaDoorWireC
import Derived.Test.YtfabcmohaikfoaaDoorWireRA
namespace Go.Proofs.YtfabcmohaikfoaaDoor
open Go.RowKit

theorem ownsRow_base {w : World} {B B' n : Nat} {e : TypeId} {v : Value} {xs : List Value} (h : w.ownsRow B e 1 v n xs) (hB : B' ≤ B) : w.ownsRow B' e 1 v n xs := by
  refine ⟨h.1, ?_⟩
  rcases h.2 with h | ⟨g, cap, cur, h1, h2, h3⟩
  · exact .inl h
  · exact .inr ⟨g, cap, cur, h1, Nat.le_trans hB h2, h3⟩

set_option maxRecDepth 10000 in
/-- a new row that reads as l, and a number -/
def Out2 (w : World) (l : List UInt8) (m : Nat) (x : Int) (e : Ending) (w' : World) : Prop :=
  ∃ A c, e = .returned (.tuple #[.slice A m c, .int .i64 x]) ∧ m ≤ c ∧ c ≤ maxLen ∧ w'.ownsRow w.heap.size 5 1 (.slice A m c) m (l.map bv) ∧ Below w.heap.size w w'

theorem Out.to {w w' : World} {l : List UInt8} {e : Ending} (h : Out w l e w') {m : Nat} (hm : m = l.length) :
    ∃ A c, e = .returned (.slice A m c) ∧ Rd w' w'.heap.size A m l ∧ Below w.heap.size w w' := by
  subst hm
  obtain ⟨A, c, he, _, _, hown, hb⟩ := h
  exact ⟨A, c, he, Rd.own hown, hb⟩

theorem ownsRow_below {w w' : World} {B n : Nat} {e : TypeId} {v : Value} {xs : List Value} (h : w.ownsRow B e 1 v n xs) (hb : Below w.heap.size w w') : w'.ownsRow B e 1 v n xs := by
  refine ⟨h.1, ?_⟩
  rcases h.2 with h | ⟨g, cap, cur, h1, h2, h3, h4⟩
  · exact .inl h
  · exact .inr ⟨g, cap, cur, h1, h2, (hb.block g (lt_of_block h3)).trans h3, h4⟩

theorem hdr_num (k n : Nat) (hk : k ≤ 255) (hn : n ≤ 8192) : ([90] ++ numB 1 (k : Int)) ++ numB 2 (n : Int) = hdrL k n := by
  have h1 : fitW 1 = 1 := by decide
  have h2 : fitW 2 = 2 := by decide
  have h3 : clampN 1 (k : Int) = k := by unfold clampN; omega
  have h4 : clampN 2 (n : Int) = n := by unfold clampN; omega
  rw [numB, numB, h1, h2, h3, h4]
  simp [encB, hdrL, List.range_succ]

theorem hdr_ref (k n : Nat) (hn : n ≤ 8192) : [90, UInt8.ofNat k] ++ numB 2 (n : Int) = hdrL k n := by
  have h2 : fitW 2 = 2 := by decide
  have h4 : clampN 2 (n : Int) = n := by unfold clampN; omega
  rw [numB, h2, h4]
  simp [encB, hdrL, List.range_succ]

set_option maxRecDepth 10000 in
set_option maxHeartbeats 400000 in
theorem Make_arg (k : Int) (A : Option Addr) (n c : Nat) (w : World) (hk : k < 0 ∨ 255 < k) :
    Calls Tryd.prog 34 #[.int .i64 k, .slice A n c] w fun e w' => e = .returned (.tuple #[.slice none 0 0, .int .i64 1]) ∧ w = w' := by
  rcases hk with hk | hk
  · go_enter Tryd.func34, Tryd.ntmps34
    go_wp2
    go_ret2
    exact ⟨rfl, rfl⟩
  · have hk2 : ¬ k < 0 := by omega
    go_enter Tryd.func34, Tryd.ntmps34
    go_wp2
    go_ret2
    exact ⟨rfl, rfl⟩

set_option maxRecDepth 10000 in
set_option maxHeartbeats 400000 in
theorem Make_lim (k : Int) (A : Option Addr) (n c : Nat) (w : World) (hk : 0 ≤ k ∧ k ≤ 255) (hn : 8192 < n) :
    Calls Tryd.prog 34 #[.int .i64 k, .slice A n c] w fun e w' => e = .returned (.tuple #[.slice none 0 0, .int .i64 2]) ∧ w = w' := by
  obtain ⟨hk1, hk2⟩ := hk
  go_enter Tryd.func34, Tryd.ntmps34
  go_wp2
  go_ret2
  exact ⟨rfl, rfl⟩

set_option maxRecDepth 10000 in
set_option maxHeartbeats 1000000 in
theorem Make_ok (k : Nat) (A : Option Addr) (n c : Nat) (l : List UInt8) (w : World) (hk : k ≤ 255) (hn : n ≤ 8192) (hr : Rd w w.heap.size A n l) (ht : Tb w) :
    Calls Tryd.prog 34 #[.int .i64 k, .slice A n c] w fun e w' => Out2 w (mkF k l) (n + 12) 0 e w' := by
  obtain ⟨i, hi, hz0, hz1, hz2⟩ := info_parts Tryd.infoB
  have hmk : ∀ W : World, (Instr.makeSlice 22 (.int .i64 0) (.int .i64 (8 + (n : Int) + 4))).run Tryd.prog W = .ok (.slice (some ⟨W.heap.size, 0, none⟩) 0 (n + 12)) (W.alloc (.cells (madeCells #[.int .u8 0] (n + 12)) 5)) := fun W => run_mk (P := Tryd.prog) Tryd.underlying22 hi hz0 hz1 (by omega) 0 (n + 12) (8 + (n : Int) + 4) (by omega) (by omega) (by omega) W
  have Ht := Lib.hid ht
  have hl := hr.1
  have Hl := Lib.hid hl
  have Hr := Lib.hid hr
  clear ht hl hr hz1 hz2
  have hr90 : Rd (w.alloc (.cells #[.int .u8 90] 5)) (w.heap.size + 1) (some ⟨w.heap.size, 0, none⟩) 1 [90] := Rd_lit w 5 [90]
  have Hr90 := Lib.hid hr90
  have hb0 : Below w.heap.size w (w.alloc (.cells #[.int .u8 90] 5)) := (Below.refl _ _).alloc (Nat.le_refl _) _
  have Hb0 := Lib.hid hb0
  clear hr90 hb0
  go_enter Tryd.func34, Tryd.ntmps34
  go_wp2_with fail
  refine (Num_any _ 1 1 [90] 1 k _ (Hr90.out.more (by simp)) (by omega) (by omega)).mono ?_
  intro e w1 h1
  obtain ⟨A1, c1, rfl, hr1, hb1⟩ := h1.to (m := 2) rfl
  have Hr1 := Lib.hid hr1
  have Hb1 := Lib.hid (Hb0.out.trans (hb1.mono (by simp)))
  clear hr1 hb1 h1
  go_wp2_with fail
  refine (Num_any _ 2 c1 _ 2 n _ Hr1.out (by omega) (by omega)).mono ?_
  intro e w2 h2
  rw [hdr_num k n hk hn] at h2
  obtain ⟨A2, c2, rfl, hr2, hb2⟩ := h2.to (m := 4) rfl
  have Hr2 := Lib.hid hr2
  have Hb2 := Lib.hid (Hb1.out.trans (hb2.mono Hb1.out.size))
  clear hr2 hb2 h2
  have hown2 : (w2.alloc (.cells (madeCells #[.int .u8 0] (n + 12)) 5)).ownsRow w2.heap.size 5 1 (.slice (some ⟨w2.heap.size, 0, none⟩) 0 (n + 12)) 0 (([] : List UInt8).map bv) := World.ownsRow_made (base := w2.heap.size) (e := 5) (size := 1) w2 _ (n + 12) (Nat.le_refl _) (by simp only [maxLen]; omega) (by rw [size_madeCells, Nat.mul_one])
  have Hown2 := Lib.hid hown2
  have ht2 := Ht.out.below Hb2.out Ht.out.size
  have Ht2 := Lib.hid (show Tb (w2.alloc (.cells (madeCells #[.int .u8 0] (n + 12)) 5)) from ht2.below ((Below.refl _ _).alloc (Nat.le_refl _) _) ht2.size)
  have Hs2 := Lib.hid ht2.size
  clear hown2 ht2
  go_wp2_with fail
  refine (withSum_any _ 0 w2.heap.size [] A2 4 c2 (hdrL k n) _ Hown2.out (by simp) (by omega) (Hr2.out.alloc (Nat.le_refl _) _) (by omega) Ht2.out Hs2.out).mono ?_
  rintro e w3 ⟨v3, rfl, hown3, hb3⟩
  have Hb3 := Lib.hid (((Below.refl _ w2).alloc (Nat.le_refl _) _).trans hb3)
  have Hown3 := Lib.hid hown3
  clear hb3 hown3
  go_wp2_with fail
  refine (withSum_any _ (0 + 4 + 4) w2.heap.size _ A n c l _ Hown3.out Hb3.out.size (by omega) (((Hr.out.below Hb2.out).more Hb2.out.size).below Hb3.out) (by omega) (((Ht.out.below Hb2.out Ht.out.size)).below Hb3.out Hs2.out) Hs2.out).mono ?_
  rintro e w4 ⟨v4, rfl, hown4, hb4⟩
  have Hb4 := Lib.hid (Hb3.out.trans hb4)
  have Hown4 := Lib.hid hown4
  clear hb4 hown4
  go_wp2_with fail
  go_ret2
  have h4 := ownsRow_base Hown4.out Hb2.out.size
  rw [show 0 + 4 + 4 + n + 4 = n + 12 by omega] at h4
  obtain ⟨A4, c4, rfl, hc4, hm4⟩ := ownsRow_form h4
  refine ⟨A4, c4, rfl, hc4, hm4, ?_, Hb2.out.trans (Hb4.out.mono Hb2.out.size)⟩
  have e : mkF k l = [] ++ (hdrL k n ++ tail4 (crc (hdrL k n))) ++ (l ++ tail4 (crc l)) := by
    unfold mkF; rw [Hl.out]; simp
  rw [e]
  exact h4

set_option maxRecDepth 10000 in
set_option maxHeartbeats 400000 in
theorem RefMake_arg (k : Int) (A : Option Addr) (n c : Nat) (w : World) (hk : k < 0 ∨ 255 < k) :
    Calls Tryd.prog 38 #[.int .i64 k, .slice A n c] w fun e w' => e = .returned (.tuple #[.slice none 0 0, .int .i64 1]) ∧ w = w' := by
  rcases hk with hk | hk
  · go_enter Tryd.func38, Tryd.ntmps38
    go_wp2
    go_ret2
    exact ⟨rfl, rfl⟩
  · have hk2 : ¬ k < 0 := by omega
    go_enter Tryd.func38, Tryd.ntmps38
    go_wp2
    go_ret2
    exact ⟨rfl, rfl⟩

set_option maxRecDepth 10000 in
set_option maxHeartbeats 400000 in
theorem RefMake_lim (k : Int) (A : Option Addr) (n c : Nat) (w : World) (hk : 0 ≤ k ∧ k ≤ 255) (hn : 8192 < n) :
    Calls Tryd.prog 38 #[.int .i64 k, .slice A n c] w fun e w' => e = .returned (.tuple #[.slice none 0 0, .int .i64 2]) ∧ w = w' := by
  obtain ⟨hk1, hk2⟩ := hk
  go_enter Tryd.func38, Tryd.ntmps38
  go_wp2
  go_ret2
  exact ⟨rfl, rfl⟩

set_option maxRecDepth 10000 in
set_option maxHeartbeats 1000000 in
theorem RefMake_ok (k : Nat) (A : Option Addr) (n c : Nat) (l : List UInt8) (w : World) (hk : k ≤ 255) (hn : n ≤ 8192) (hr : Rd w w.heap.size A n l) :
    Calls Tryd.prog 38 #[.int .i64 k, .slice A n c] w fun e w' => Out2 w (mkF k l) (n + 12) 0 e w' := by
  obtain ⟨i, hi, hz0, hz1, hz2⟩ := info_parts Tryd.infoB
  have hl := hr.1
  have Hl := Lib.hid hl
  have Hr := Lib.hid hr
  have hf2 : fitW 2 = 2 := by decide
  have Hf2 := Lib.hid hf2
  have e0 : #[Value.int IntKind.u8 90, .int .u8 (k : Int)] = (([90, UInt8.ofNat k] : List UInt8).map bv).toArray := by
    have h4 : (k : Int) = ((k % 256 : Nat) : Int) := by omega
    rw [h4]; simp [bv_ofNat]; rfl
  have hown0 : (w.alloc (.cells #[.int .u8 90, .int .u8 (k : Int)] 5)).ownsRow w.heap.size 5 1 (.slice (some ⟨w.heap.size, 0, none⟩) 2 2) 2 (([90, UInt8.ofNat k] : List UInt8).map bv) := by
    rw [e0]
    exact World.ownsRow_lit (base := w.heap.size) (e := 5) (size := 1) w (([90, UInt8.ofNat k] : List UInt8).map bv).toArray 2 (Nat.le_refl _) (by simp only [maxLen]; omega) rfl
  have hb0 : Below w.heap.size w (w.alloc (.cells #[.int .u8 90, .int .u8 (k : Int)] 5)) := (Below.refl _ _).alloc (Nat.le_refl _) _
  have Hb0 := Lib.hid hb0
  have Hown0 := Lib.hid hown0
  clear hl hr hf2 e0 hb0 hown0
  go_enter Tryd.func38, Tryd.ntmps38
  go_wp2_with fail
  refine (RefNum_out 2 n _).mono ?_
  rintro e w1 ⟨rfl, hr1, hb1⟩
  rw [Hf2.out] at hr1 ⊢
  rw [show (w.alloc (.cells #[.int .u8 90, .int .u8 (k : Int)] 5)).heap.size = w.heap.size + 1 by simp] at hr1
  have Hr1 := Lib.hid hr1
  have Hb1 := Lib.hid (Hb0.out.trans (hb1.mono (by simp)))
  have Hown1 := Lib.hid (ownsRow_below Hown0.out hb1)
  clear hr1 hb1
  go_wp2_with (at_builtin; refine wpList_append_rd rfl (.tmp 19) (.tmp 22) 22 rfl w.heap.size 5 i (.int .u8 0) 1 Tryd.underlying22 hi hz0 hz1 hz2 rfl _ 2 _ rfl Hown1.out _ 2 2 ((numB 2 (n : Int)).map bv) rfl (by rw [List.length_map, Hr1.out.1]) Hr1.out.src (bv_one _) (by simp only [maxLen]; omega) (by omega) Hb1.out.size ?_; intro v2 w2 hown2 hg2; rw [← List.map_append, hdr_ref k n hn] at hown2; have Hb2 := Lib.hid (Hb1.out.grown hg2 Hb1.out.size (fun q hq => (Hown1.out.lt q hq).1)); have Hown2 := Lib.hid hown2; obtain ⟨A2, c2, rfl, _, _⟩ := ownsRow_form hown2; have Hr2 := Lib.hid (Rd.own hown2); clear hown2 hg2)
  go_wp2_with fail
  refine (Tail_any A2 4 c2 (hdrL k n) _ _ Hr2.out (by omega)).mono ?_
  intro e w3 h3
  obtain ⟨A3, c3, rfl, hr3, hb3⟩ := h3.to (m := 4) rfl
  have Hr3 := Lib.hid hr3
  have Hb3 := Lib.hid (Hb2.out.trans (hb3.mono Hb2.out.size))
  have Hown3 := Lib.hid (ownsRow_below Hown2.out hb3)
  clear hr3 hb3 h3
  go_wp2_with (first
    | (at_builtin; refine wpList_append_rd rfl (.tmp 24) (.tmp 26) 22 rfl w.heap.size 5 i (.int .u8 0) 1 Tryd.underlying22 hi hz0 hz1 hz2 rfl _ 4 _ rfl Hown3.out A3 4 c3 ((tail4 (crc (hdrL k n))).map bv) rfl (by rw [List.length_map, Hr3.out.1]) Hr3.out.src (bv_one _) (by simp only [maxLen]; omega) (by omega) Hb3.out.size ?_; intro v4 w4 hown4 hg4; rw [← List.map_append] at hown4; have Hb4 := Lib.hid (Hb3.out.grown hg4 Hb3.out.size (fun q hq => (Hown3.out.lt q hq).1)); have Hown4 := Lib.hid hown4; clear hown4 hg4)
    | (at_builtin; refine wpList_append_rd rfl (.tmp 28) (.tmp 29) 22 rfl w.heap.size 5 i (.int .u8 0) 1 Tryd.underlying22 hi hz0 hz1 hz2 rfl _ 8 _ rfl Hown4.out A n c (l.map bv) rfl (by rw [List.length_map, Hl.out]) (Hr.out.below Hb4.out).src (bv_one _) (by simp only [maxLen]; omega) (by omega) Hb4.out.size ?_; intro v5 w5 hown5 hg5; rw [← List.map_append] at hown5; have Hb5 := Lib.hid (Hb4.out.grown hg5 Hb4.out.size (fun q hq => (Hown4.out.lt q hq).1)); have Hown5 := Lib.hid hown5; clear hown5 hg5))
  go_wp2_with fail
  refine (Tail_any A n c l _ _ (Hr.out.below Hb5.out) (by omega)).mono ?_
  intro e w6 h6
  obtain ⟨A6, c6, rfl, hr6, hb6⟩ := h6.to (m := 4) rfl
  have Hr6 := Lib.hid hr6
  have Hb6 := Lib.hid (Hb5.out.trans (hb6.mono Hb5.out.size))
  have Hown6 := Lib.hid (ownsRow_below Hown5.out hb6)
  clear hr6 hb6 h6
  go_wp2_with (at_builtin; refine wpList_append_rd rfl (.tmp 31) (.tmp 33) 22 rfl w.heap.size 5 i (.int .u8 0) 1 Tryd.underlying22 hi hz0 hz1 hz2 rfl _ (8 + n) _ rfl Hown6.out A6 4 c6 ((tail4 (crc l)).map bv) rfl (by rw [List.length_map, Hr6.out.1]) Hr6.out.src (bv_one _) (by simp only [maxLen]; omega) (by omega) Hb6.out.size ?_; intro v7 w7 hown7 hg7; rw [← List.map_append] at hown7; have Hb7 := Lib.hid (Hb6.out.grown hg7 Hb6.out.size (fun q hq => (Hown6.out.lt q hq).1)); have Hown7 := Lib.hid hown7; clear hown7 hg7)
  go_ret2
  have h7 := Hown7.out
  rw [show 8 + n + 4 = n + 12 by omega] at h7
  obtain ⟨A7, c7, rfl, hc7, hm7⟩ := ownsRow_form h7
  refine ⟨A7, c7, rfl, hc7, hm7, ?_, Hb7.out⟩
  have e : mkF k l = (hdrL k n ++ tail4 (crc (hdrL k n))) ++ l ++ tail4 (crc l) := by
    unfold mkF; rw [Hl.out]; simp
  rw [e]
  exact h7
end Go.Proofs.YtfabcmohaikfoaaDoor
