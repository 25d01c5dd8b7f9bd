/- Contracts of package objmap's own helpers: isState, size, Get, states, trim, canonical. -/
import Derived.Test.YtaobdebeglenaaaObS
namespace Go.Proofs.Ytaobdebeglenaaa
open Go.RowKit

set_option maxRecDepth 10000 in
theorem isState_any (x : Int) (w : World) : Calls Try.prog 100 #[.int .i64 x] w fun e w' => e = .returned (.bool (decide (0 ≤ x ∧ x ≤ 2))) ∧ w = w' := by
  by_cases h0 : 0 ≤ x
  · by_cases h2 : x ≤ 2
    · have He := Lib.hid (show decide (0 ≤ x ∧ x ≤ 2) = true from decide_eq_true ⟨h0, h2⟩)
      rw [He.out]
      clear He
      go_enter Try.func100, Try.ntmps100
      go_wp2_with fail
      go_ret
      exact ⟨by first | rfl | simp, rfl⟩
    · have He := Lib.hid (show decide (0 ≤ x ∧ x ≤ 2) = false from decide_eq_false fun h => h2 h.2)
      rw [He.out]
      clear He
      go_enter Try.func100, Try.ntmps100
      go_wp2_with fail
      go_ret
      exact ⟨by first | rfl | simp, rfl⟩
  · have He := Lib.hid (show decide (0 ≤ x ∧ x ≤ 2) = false from decide_eq_false fun h => h0 h.1)
    rw [He.out]
    clear He
    go_enter Try.func100, Try.ntmps100
    go_wp2_with fail
    go_ret
    exact ⟨by first | rfl | simp, rfl⟩

set_option maxRecDepth 10000 in
theorem size_any (A : Option Addr) (n c : Nat) (w : World) (_hn : n ≤ 9223372036854775807) : Calls Try.prog 105 #[.slice A n c] w fun e w' => e = .returned (.int .i64 ((min n 512 : Nat) : Int)) ∧ w = w' := by
  obtain ⟨k, hk⟩ : ∃ k, k = min n 512 := ⟨_, rfl⟩
  rw [← hk]
  by_cases h : n ≤ 512
  · obtain rfl : k = n := by omega
    have hq : (k : Int) ≤ 512 := by omega
    clear hk
    go_enter Try.func105, Try.ntmps105
    go_wp2_with fail
    go_ret
    exact ⟨by first | rfl | (simp; omega), rfl⟩
  · obtain rfl : k = 512 := by omega
    have hq : ¬ (n : Int) ≤ 512 := by omega
    clear hk
    go_enter Try.func105, Try.ntmps105
    go_wp2_with fail
    go_ret
    exact ⟨by first | rfl | (simp; omega), rfl⟩

set_option maxRecDepth 10000 in
set_option maxHeartbeats 1000000 in
theorem Get_any (A : Option Addr) (n c : Nat) (m : List Int) (i : Int) (B : Nat) (w : World) (hr : RdI w B A n m) (hn : n ≤ 9223372036854775807) :
    Calls Try.prog 106 #[.slice A n c, .int .i64 i] w fun e w' => e = .returned (.int .i64 (getO m i)) ∧ w = w' := by
  have Hr := Lib.hid hr
  have HS := Lib.hid (size_any A n c w hn)
  clear hr
  by_cases h0 : 0 ≤ i
  · obtain ⟨k, rfl⟩ : ∃ k : Nat, i = k := ⟨i.toNat, by omega⟩
    clear h0
    have hk0 : (0 : Int) ≤ (k : Int) := by omega
    by_cases h1 : k < min n 512
    · obtain ⟨ad, rfl, _, hc⟩ := Hr.out.cellAt (k := k) (by omega)
      have Hg := Lib.hid (getO_nat m k)
      have hkm : k < m.length := by rw [Hr.out.1]; omega
      have Hm := Lib.hid (show m.getD k 0 = m[k] by rw [List.getD_eq_getElem?_getD, List.getElem?_eq_getElem hkm]; rfl)
      generalize m[k] = x at hc Hm
      have HI := Lib.hid (isState_any x w)
      have H2 := Lib.hid (show k < 512 by omega)
      have hk1 : (k : Int) < (n : Int) := by omega
      obtain ⟨s, hs⟩ : ∃ s, s = min n 512 := ⟨_, rfl⟩
      rw [← hs] at HS
      have hk2 : (k : Int) < (s : Int) := by omega
      clear hs h1 hkm
      by_cases h3 : 0 ≤ x ∧ x ≤ 2
      · have He := Lib.hid (show getO m k = x by rw [Hg.out]; unfold gN; rw [Hm.out, if_pos ⟨H2.out, h3.1, h3.2⟩])
        rw [decide_eq_true h3] at HI
        rw [He.out]
        clear Hg Hm He h3
        go_enter Try.func106, Try.ntmps106
        go_wp2_with (first
          | (go_at_call 105; refine HS.out.mono ?_; rintro e w' ⟨rfl, rfl⟩)
          | (go_at_call 100; refine HI.out.mono ?_; rintro e w' ⟨rfl, rfl⟩))
        go_ret
        exact ⟨rfl, rfl⟩
      · have He := Lib.hid (show getO m k = 0 by rw [Hg.out]; unfold gN; rw [Hm.out, if_neg (by omega)])
        rw [decide_eq_false h3] at HI
        rw [He.out]
        clear Hg Hm He h3
        go_enter Try.func106, Try.ntmps106
        go_wp2_with (first
          | (go_at_call 105; refine HS.out.mono ?_; rintro e w' ⟨rfl, rfl⟩)
          | (go_at_call 100; refine HI.out.mono ?_; rintro e w' ⟨rfl, rfl⟩))
        go_ret
        exact ⟨rfl, rfl⟩
    · have He := Lib.hid (show getO m k = 0 by
        rw [getO_nat]
        by_cases q : 512 ≤ k
        · exact gN_high m q
        · exact gN_out m (by rw [Hr.out.1]; omega))
      rw [He.out]
      obtain ⟨s, hs⟩ : ∃ s, s = min n 512 := ⟨_, rfl⟩
      rw [← hs] at HS
      have hk2 : (s : Int) ≤ (k : Int) := by omega
      clear hs h1 He
      go_enter Try.func106, Try.ntmps106
      go_wp2_with (go_at_call 105; refine HS.out.mono ?_; rintro e w' ⟨rfl, rfl⟩)
      go_ret
      exact ⟨rfl, rfl⟩
  · have He := Lib.hid (getO_neg m (i := i) (by omega))
    rw [He.out]
    have hk0 : i < 0 := by omega
    clear He h0
    go_enter Try.func106, Try.ntmps106
    go_wp2_with fail
    go_ret
    exact ⟨rfl, rfl⟩

/-- a row of ints that was just made -/
theorem own_made (w : World) (N : Nat) (hN : N ≤ 1000000) : (w.alloc (.cells (madeCells #[.int .i64 0] N) 3)).ownsRow w.heap.size 3 1 (.slice (some ⟨w.heap.size, 0, none⟩) N N) N ((List.replicate N (0 : Int)).map (Value.int .i64)) := by
  refine ⟨by simp, .inr ⟨w.heap.size, N, _, rfl, Nat.le_refl _, heap_alloc_new w _, Nat.le_refl _, by simp only [maxLen]; omega, by rw [size_madeCells, Nat.mul_one], ?_⟩⟩
  rw [toList_madeCells_one, Nat.mul_one, List.map_replicate, List.take_replicate, Nat.min_self]
/-- the first j by f, the others 0 -/
theorem mix_none (f : Nat → Int) (k : Nat) : mixF (fun _ => 0) f 0 k = List.replicate k 0 := by
  rw [mix_zero, List.map_const', List.length_range]
theorem mkI (k : Nat) (hk : k ≤ 1000000) (w : World) : (Instr.makeSlice 24 (.int .i64 (k : Int)) (.int .i64 (k : Int))).run Try.prog w = .ok (.slice (some ⟨w.heap.size, 0, none⟩) k k) (w.alloc (.cells (madeCells #[.int .i64 0] k) 3)) := by
  obtain ⟨i, hi, hz0, hz1, hz2⟩ := info_parts Try.infoI
  exact run_mk (P := Try.prog) Try.underlying24 hi hz0 hz1 (by omega) k k k rfl (Nat.le_refl _) (by omega) w

/-- the first k states by f, in a row of its own -/
def RowK (w : World) (f : Nat → Int) (k : Nat) (e : Ending) (w' : World) : Prop :=
  ∃ g, e = .returned (.slice (some ⟨g, 0, none⟩) k k) ∧ w'.ownsRow w.heap.size 3 1 (.slice (some ⟨g, 0, none⟩) k k) k (((List.range k).map f).map (Value.int .i64)) ∧ Below w.heap.size w w'

set_option maxRecDepth 10000 in
set_option maxHeartbeats 1000000 in
theorem states_any (A : Option Addr) (n c : Nat) (m : List Int) (k : Nat) (w : World) (hr : RdI w w.heap.size A n m) (hn : n ≤ 100000) (hk : k ≤ 600) :
    Calls Try.prog 104 #[.slice A n c, .int .i64 k] w (RowK w (gN m) k) := by
  have Hr := Lib.hid hr
  have hmk := fun W : World => mkI k (by omega) W
  clear hr
  go_enter Try.func104, Try.ntmps104
  go_wp2_with fail
  obtain ⟨g, hg⟩ : ∃ g, g = w.heap.size := ⟨_, rfl⟩
  have Hown := Lib.hid (own_made w k (by omega))
  have Hb := Lib.hid ((Below.refl w.heap.size w).alloc (Nat.le_refl _) (.cells (madeCells #[.int .i64 0] k) 3))
  rw [← mix_none (gN m) k] at Hown
  have Hgb : Hid (w.heap.size ≤ g) := by show _ ≤ _; omega
  have Hown : Hid ((w.alloc (.cells (madeCells #[.int .i64 0] k) 3)).ownsRow w.heap.size 3 1 (.slice (some ⟨g, 0, none⟩) k k) k ((mixF (fun _ => 0) (gN m) 0 k).map (Value.int .i64))) := by rw [hg]; exact Hown
  rw [← hg]
  clear hmk hg
  generalize w.alloc (.cells (madeCells #[.int .i64 0] k) 3) = w1 at Hown Hb ⊢
  go_loopw [11, 6] (fun i _ wq => ∃ j : Nat, j ≤ k ∧ i = .int .i64 j ∧ Hid (wq.ownsRow w.heap.size 3 1 (.slice (some ⟨g, 0, none⟩) k k) k ((mixF (fun _ => 0) (gN m) j k).map (Value.int .i64))) ∧ Hid (Below w.heap.size w wq)) (fun i _ _ => k - (intOf i).toNat)
  case atStart => exact ⟨0, Nat.zero_le _, rfl, Hown, Hb⟩
  case round =>
    obtain ⟨j, hj, rfl, Hown2, Hbr⟩ := hrel
    by_cases hjt : j < k
    · have hj0 : (0 : Int) ≤ (j : Int) := by omega
      have hj1 : (j : Int) < (k : Int) := by omega
      have hc : wr.cell? ⟨g, j, none⟩ = some (.int .i64 0) := by rw [Hown2.out.cellAt j (by omega)]; exact map_at (mix_get _ _ hjt)
      have hf := World.ownsRow.frozenAt Hown2.out j
      have Hset := Lib.hid (mix_set (fun _ => (0 : Int)) (gN m) hjt)
      have HG := Lib.hid (Get_any A n c m j w.heap.size wr (Hr.out.below Hbr.out) (by omega))
      rw [getO_nat] at HG
      generalize gN m j = x at HG Hset
      go_wp2_with (go_at_call 106; refine HG.out.mono ?_; rintro e w' ⟨rfl, rfl⟩)
      go_roundw
      case rel =>
        have h := (World.ownsRow.stored Hown2.out j (.int .i64 x)).1
        rw [map_set, Hset.out] at h
        exact ⟨j + 1, by omega, by go_num, h, Lib.hid (Hbr.out.setCell (by show _ ≤ g; exact Hgb.out) _)⟩
      case measure => simp [intOf]; omega
    · obtain rfl : j = k := by omega
      have Hall := Lib.hid (mix_all (fun _ => (0 : Int)) (gN m) j)
      go_wp2_with fail
      go_ret
      exact ⟨g, rfl, by rw [← Hall.out]; exact Hown2.out, Hbr.out⟩

set_option maxRecDepth 10000 in
set_option maxHeartbeats 1000000 in
theorem trim_any (g k : Nat) (f : Nat → Int) (B : Nat) (w : World) (ho : w.ownsRow B 3 1 (.slice (some ⟨g, 0, none⟩) k k) k (((List.range k).map f).map (Value.int .i64))) (hk : k ≤ 600) :
    Calls Try.prog 94 #[.slice (some ⟨g, 0, none⟩) k k] w fun e w' => e = .returned (.slice (some ⟨g, 0, none⟩) (topF f k) (topF f k)) ∧ w = w' := by
  have Ho := Lib.hid ho
  clear ho
  obtain ⟨t, ht⟩ : ∃ t, t = topF f k := ⟨_, rfl⟩
  rw [← ht]
  have Ht := Lib.hid ht
  clear ht
  go_enter Try.func94, Try.ntmps94
  go_wp2_with fail
  go_loopw [3] (fun i wr => wr = w ∧ ∃ j : Nat, j ≤ k ∧ i = .int .i64 j ∧ Hid (t = topF f j)) (fun i _ => (intOf i).toNat)
  case atStart => exact ⟨rfl, k, Nat.le_refl _, rfl, Ht⟩
  case round =>
    obtain ⟨rfl, j, hj, rfl, Hj⟩ := hrel
    cases j with
    | zero =>
      obtain rfl : t = 0 := Hj.out
      go_wp2_with fail
      go_ret
      exact ⟨rfl, rfl⟩
    | succ j =>
      have hc : wr.cell? ⟨g, j, none⟩ = some (.int .i64 (f j)) := by
        rw [Ho.out.cellAt j (by omega)]
        exact map_at (by rw [List.getElem?_map, List.getElem?_range (by omega)]; rfl)
      have Hst := Lib.hid (show topF f (j + 1) = if f j ≠ 0 then j + 1 else topF f j from rfl)
      generalize f j = x at hc Hst
      by_cases hx : x = 0
      · have Hj2 : Hid (t = topF f j) := by show _ = _; rw [Hj.out, Hst.out, if_neg (by simpa using hx)]
        subst hx
        clear Hst Hj
        go_wp2_with fail
        go_roundw
        case rel => exact ⟨by first | rfl | trivial, j, by omega, by go_num, Hj2⟩
        case measure => simp [intOf]
      · obtain rfl : t = j + 1 := by rw [Hj.out, Hst.out, if_pos hx]
        have hbe : (x == 0) = false := by simpa using hx
        clear Hst Hj
        go_wp2_with fail
        go_ret
        exact ⟨rfl, rfl⟩

/-- a row cut short -/
def CutF (w : World) (f : Nat → Int) (k : Nat) (e : Ending) (w' : World) : Prop :=
  ∃ g, e = .returned (.slice (some ⟨g, 0, none⟩) (topF f k) (topF f k)) ∧ w'.ownsRow w.heap.size 3 1 (.slice (some ⟨g, 0, none⟩) k k) k (((List.range k).map f).map (Value.int .i64)) ∧ Below w.heap.size w w'
theorem cut_rd {w : World} {B g k : Nat} {f : Nat → Int} (h : w.ownsRow B 3 1 (.slice (some ⟨g, 0, none⟩) k k) k (((List.range k).map f).map (Value.int .i64))) : RdI w w.heap.size (some ⟨g, 0, none⟩) (topF f k) ((List.range (topF f k)).map f) := by
  have h1 := (RdI.own h).take (topF_le f k)
  rwa [← List.map_take, List.take_range, Nat.min_eq_left (topF_le f k)] at h1
theorem gives_cut {F : Nat} {xs : Array Value} {w : World} {f : Nat → Int} {k : Nat} (hk : k ≤ 600) (hf : topF f k = topF f 512) (h : Calls Try.prog F xs w (CutF w f k)) : GivesI F xs w (rowF f) :=
  h.mono fun e w' q => by
    obtain ⟨g, h1, h2, h3⟩ := q
    have h4 := topF_le f k
    refine ⟨_, _, _, h1, ?_, ⟨by omega, NewA.cut h2 _⟩, h3⟩
    have h5 := cut_rd h2
    rw [hf] at h5 ⊢
    exact h5

set_option maxRecDepth 10000 in
set_option maxHeartbeats 1000000 in
theorem canon_any (A : Option Addr) (n c : Nat) (m : List Int) (w : World) (hr : RdI w w.heap.size A n m) (hn : n ≤ 100000) :
    Calls Try.prog 87 #[.slice A n c] w (CutF w (gN m) (min n 512)) := by
  have HS := Lib.hid (size_any A n c w (by omega))
  have HT := Lib.hid (states_any A n c m (min n 512) w hr hn (by omega))
  have Hk := Lib.hid (show min n 512 ≤ 512 by omega)
  clear hr
  generalize min n 512 = k at HS HT Hk ⊢
  go_enter Try.func87, Try.ntmps87
  go_wp2_with (go_at_call 105; refine HS.out.mono ?_; rintro e w' ⟨rfl, rfl⟩)
  refine HT.out.mono ?_
  rintro e w1 ⟨g, rfl, hown, hb⟩
  have Hown := Lib.hid hown
  have Hb := Lib.hid hb
  have HR := Lib.hid (trim_any g k (gN m) w.heap.size w1 hown (by have := Hk.out; omega))
  clear hown hb HT
  go_wp2_with (go_at_call 94; refine HR.out.mono ?_; rintro e w' ⟨rfl, rfl⟩)
  go_ret
  exact ⟨g, rfl, Hown.out, Hb.out⟩
end Go.Proofs.Ytaobdebeglenaaa
