/- Contracts of package objmap: Check, Get, Set, Fresh, Merge. -/
import Derived.Test.YtaobdebeglenaaaObV
namespace Go.Proofs.Ytaobdebeglenaaa
open Go.RowKit

theorem PGet (A : Option Addr) (n c : Nat) (m : List Int) (i : Int) (w : World) (hr : RdI w w.heap.size A n m) (hn : n ≤ 3000) :
    Calls Try.prog 106 #[.slice A n c, .int .i64 i] w fun e w' => e = .returned (.int .i64 (getO m i)) ∧ Below w.heap.size w w' :=
  (Get_any A n c m i _ w hr (by omega)).mono fun e w' h => ⟨h.1, by rw [← h.2]; exact Below.refl _ _⟩

set_option maxRecDepth 10000 in
set_option maxHeartbeats 1000000 in
theorem PCheck (A : Option Addr) (n c : Nat) (m : List Int) (w : World) (hr : RdI w w.heap.size A n m) (hn : n ≤ 3000) :
    Calls Try.prog 69 #[.slice A n c] w fun e w' => e = .returned (.bool (decide (IsRow m))) ∧ Below w.heap.size w w' := by
  have Hr := Lib.hid hr
  clear hr
  go_enter Try.func69, Try.ntmps69
  go_wp2_with fail
  go_loopw [7, 4] (fun i _ wr => wr = w ∧ ∃ j : Nat, j ≤ n ∧ i = .int .i64 j ∧ Hid (okM (m.take j) = true)) (fun i _ _ => n - (intOf i).toNat)
  case atStart => exact ⟨rfl, 0, Nat.zero_le _, rfl, rfl⟩
  case round =>
    obtain ⟨rfl, j, hj, rfl, Hj⟩ := hrel
    by_cases hjn : j < n
    · have hjl : j < m.length := by rw [Hr.out.1]; exact hjn
      obtain ⟨ad, rfl, _, hc⟩ := Hr.out.cellAt hjn
      have Hst := Lib.hid (show okM (m.take (j + 1)) = (okM (m.take j) && decide (0 ≤ m[j] ∧ m[j] ≤ 2)) by unfold okM; rw [List.take_succ_eq_append_getElem hjl, List.all_append]; simp)
      have Hno : Hid (¬ (0 ≤ m[j] ∧ m[j] ≤ 2) → ¬ IsRow m) := is_no hjl
      generalize m[j] = x at hc Hst Hno
      have HI := Lib.hid (isState_any x wr)
      have hj0 : (0 : Int) ≤ (j : Int) := by omega
      have hj1 : (j : Int) < (n : Int) := by omega
      clear hjl
      by_cases h3 : 0 ≤ x ∧ x ≤ 2
      · have Hj2 : Hid (okM (m.take (j + 1)) = true) := by show _ = _; rw [Hst.out, Hj.out]; simp [h3]
        rw [decide_eq_true h3] at HI
        clear Hst Hno h3
        go_wp2_with (go_at_call 100; refine HI.out.mono ?_; rintro e w' ⟨rfl, rfl⟩)
        go_roundw
        case rel => exact ⟨by first | rfl | trivial, j + 1, by omega, by go_num, Hj2⟩
        case measure => simp [intOf]; omega
      · have He := Lib.hid (show decide (IsRow m) = false from decide_eq_false (Hno.out h3))
        rw [decide_eq_false h3] at HI
        clear Hst Hno h3
        go_wp2_with (go_at_call 100; refine HI.out.mono ?_; rintro e w' ⟨rfl, rfl⟩)
        go_ret
        exact ⟨by first | (rw [He.out]; done) | (rw [He.out]; rfl) | (rw [He.out]; simp; done), Below.refl _ _⟩
    · obtain rfl : j = n := by omega
      have hok : okM m = true := by have h := Hj.out; rwa [List.take_of_length_le (by rw [Hr.out.1]; exact Nat.le_refl _)] at h
      have Hiff := Lib.hid (is_ok hok)
      have Hlen := Lib.hid Hr.out.1
      clear hok
      by_cases h512 : j ≤ 512
      · have hq : (j : Int) ≤ 512 := by omega
        rcases Nat.eq_zero_or_pos j with h0 | h0
        · subst h0
          obtain rfl : m = [] := List.eq_nil_of_length_eq_zero Hlen.out
          have He := Lib.hid (show decide (IsRow []) = true from decide_eq_true (Hiff.out.2 ⟨by simp, fun h => absurd rfl h⟩))
          go_wp2_with fail
          go_ret
          exact ⟨by first | (rw [He.out]; done) | (rw [He.out]; rfl) | (rw [He.out]; simp; done), Below.refl _ _⟩
        · obtain ⟨k, rfl⟩ : ∃ k, j = k + 1 := ⟨j - 1, by omega⟩
          obtain ⟨ad, rfl, _, hc⟩ := Hr.out.cellAt (k := k) (by omega)
          have hkl : k < m.length := by rw [Hlen.out]; omega
          have Hlast := Lib.hid (show m.getD (m.length - 1) 0 = m[k] by rw [Hlen.out, Nat.add_sub_cancel, List.getD_eq_getElem?_getD, List.getElem?_eq_getElem hkl]; rfl)
          have Hne : Hid (m ≠ []) := fun e => by rw [e] at hkl; simp at hkl
          generalize m[k] = x at hc Hlast
          have hk0 : (0 : Int) ≤ (k : Int) := by omega
          have hk1 : (k : Int) < (k : Int) + 1 := by omega
          clear hkl
          by_cases hx : x = 0
          · have He := Lib.hid (show decide (IsRow m) = false from decide_eq_false fun q => (Hiff.out.1 q).2 Hne.out (by rw [Hlast.out]; exact hx))
            clear Hlast
            subst hx
            go_wp2_with fail
            go_ret
            exact ⟨by first | (rw [He.out]; done) | (rw [He.out]; rfl) | (rw [He.out]; simp; done), Below.refl _ _⟩
          · have He := Lib.hid (show decide (IsRow m) = true from decide_eq_true (Hiff.out.2 ⟨by rw [Hlen.out]; exact h512, fun _ => by rw [Hlast.out]; exact hx⟩))
            have hbe : (x != 0) = true := by simpa using hx
            clear Hlast
            go_wp2_with fail
            go_ret
            exact ⟨by first | (rw [He.out]; done) | (rw [He.out]; rfl) | (rw [He.out]; simp [hx]; done) | (rw [He.out]; simp; omega), Below.refl _ _⟩
      · have He := Lib.hid (show decide (IsRow m) = false from decide_eq_false fun q => h512 (by rw [← Hlen.out]; exact q.1))
        have hq : ¬ (j : Int) ≤ 512 := by omega
        go_wp2_with fail
        go_ret
        exact ⟨by first | (rw [He.out]; done) | (rw [He.out]; rfl) | (rw [He.out]; simp; done), Below.refl _ _⟩

theorem top_min (m : List Int) {n : Nat} (h : m.length = n) : topF (gN m) (min n 512) = topF (gN m) 512 :=
  (topF_more (by omega) fun k hk => by
    by_cases q : 512 ≤ k
    · exact gN_high m q
    · exact gN_out m (by omega)).symm

theorem canon_gives (A : Option Addr) (n c : Nat) (m : List Int) (w : World) (hr : RdI w w.heap.size A n m) (hn : n ≤ 100000) : GivesI 87 #[.slice A n c] w (rowO m) :=
  gives_cut (by omega) (top_min m hr.1) (canon_any A n c m w hr hn)

set_option maxRecDepth 10000 in
set_option maxHeartbeats 1000000 in
theorem PFresh (A : Option Addr) (n c : Nat) (m : List Int) (w : World) (hr : RdI w w.heap.size A n m) (hn : n ≤ 3000) : GivesI 59 #[.slice A n c] w (freshO m) := by
  have HC : Hid (Calls Try.prog 87 #[.slice A n c] w (fun e w' => ∃ g, e = .returned (.slice (some ⟨g, 0, none⟩) (topF (gN m) (min n 512)) (topF (gN m) (min n 512))) ∧ w'.ownsRow w.heap.size 3 1 (.slice (some ⟨g, 0, none⟩) (min n 512) (min n 512)) (min n 512) (((List.range (min n 512)).map (gN m)).map (Value.int .i64)) ∧ Below w.heap.size w w')) := canon_any A n c m w hr (by omega)
  have Hfo := Lib.hid (show freshO m = (List.range (topF (gN m) (min n 512))).map (freshF m) by unfold freshO rowF; rw [fresh_top, ← top_min m hr.1])
  have Ht := Lib.hid (topF_le (gN m) (min n 512))
  have Hk := Lib.hid (show min n 512 ≤ 512 by omega)
  rw [Hfo.out]
  clear hr Hfo
  generalize min n 512 = k at HC Ht Hk ⊢
  generalize topF (gN m) k = t at HC Ht ⊢
  have ht5 : t ≤ 600 := by have := Ht.out; have := Hk.out; omega
  go_enter Try.func59, Try.ntmps59
  go_wp2_with fail
  refine HC.out.mono ?_
  rintro e w1 ⟨g, rfl, hown, hb⟩
  rw [← mix_zero (gN m) (freshF m) k] at hown
  have Hgb : Hid (w.heap.size ≤ g) := (hown.lt g rfl).1
  have Hown := Lib.hid hown
  have Hb := Lib.hid hb
  clear hown hb HC
  go_wp2_with fail
  go_loopw [10, 4, 5] (fun i _ _ wq => ∃ j : Nat, j ≤ t ∧ i = .int .i64 j ∧ Hid (wq.ownsRow w.heap.size 3 1 (.slice (some ⟨g, 0, none⟩) k k) k ((mixF (gN m) (freshF m) j k).map (Value.int .i64))) ∧ Hid (Below w.heap.size w wq)) (fun i _ _ _ => t - (intOf i).toNat)
  case atStart => exact ⟨0, Nat.zero_le _, rfl, Hown, Hb⟩
  case round =>
    obtain ⟨j, hj, rfl, Hown2, Hbr⟩ := hrel
    by_cases hjt : j < t
    · have hj0 : (0 : Int) ≤ (j : Int) := by omega
      have hj1 : (j : Int) < (t : Int) := by omega
      have hjk : j < k := by have := Ht.out; omega
      have hc : wr.cell? ⟨g, j, none⟩ = some (.int .i64 (gN m j)) := by rw [Hown2.out.cellAt j (by omega)]; exact map_at (mix_get _ _ hjk)
      have hf := World.ownsRow.frozenAt Hown2.out j
      have Hset := Lib.hid (mix_set (gN m) (freshF m) hjk)
      have Hsame : Hid (freshF m j = gN m j → mixF (gN m) (freshF m) (j + 1) k = mixF (gN m) (freshF m) j k) := mix_same _ _
      have Hfr := Lib.hid (show freshF m j = if gN m j = 1 then 2 else gN m j from rfl)
      clear hjk
      generalize gN m j = x at hc Hsame Hfr
      by_cases hx : x = 1
      · subst hx
        have Hf2 := Lib.hid (show freshF m j = 2 from Hfr.out)
        rw [Hf2.out] at Hset
        go_wp2_with fail
        go_roundw
        case rel =>
          have h := (World.ownsRow.stored Hown2.out j (.int .i64 2)).1
          rw [map_set, Hset.out] at h
          exact ⟨j + 1, by omega, by go_num, h, Lib.hid (Hbr.out.setCell (by show _ ≤ g; exact Hgb.out) _)⟩
        case measure => simp [intOf]; omega
      · have hbe : (x == 1) = false := by simpa using hx
        have Hm := Lib.hid (Hsame.out (by rw [Hfr.out, if_neg hx]))
        go_wp2_with fail
        go_roundw
        case rel => exact ⟨j + 1, by omega, by go_num, by rw [Hm.out]; exact Hown2, Hbr⟩
        case measure => simp [intOf]; omega
    · obtain rfl : j = t := by omega
      go_wp2_with fail
      go_ret
      refine ⟨_, _, _, rfl, ?_, ⟨by omega, NewA.cut Hown2.out _⟩, Hbr.out⟩
      have h1 := (RdI.own Hown2.out).take Ht.out
      have h2 : (mixF (gN m) (freshF m) j k).take j = (List.range j).map (freshF m) := by
        unfold mixF
        rw [← List.map_take, List.take_range, Nat.min_eq_left Ht.out]
        exact List.map_congr_left fun i hi => by rw [if_pos (List.mem_range.1 hi)]
      rw [h2] at h1
      exact h1

theorem set_range (f : Nat → Int) (K I : Nat) (s : Int) : ((List.range K).map f).set I s = (List.range K).map fun k : Nat => if (k : Int) = (I : Int) then s else f k := by
  refine List.ext_getElem (by simp) fun k h1 h2 => ?_
  rw [List.getElem_set, List.getElem_map, List.getElem_range, List.getElem_map, List.getElem_range]
  by_cases e : I = k
  · subst e; rw [if_pos rfl, if_pos rfl]
  · rw [if_neg e, if_neg (by omega)]

end Go.Proofs.Ytaobdebeglenaaa
