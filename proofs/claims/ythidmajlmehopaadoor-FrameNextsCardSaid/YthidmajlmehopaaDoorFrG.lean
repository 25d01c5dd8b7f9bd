/- Contracts: the document's Next of any bytes, and Whole. -/
import Derived.Test.YthidmajlmehopaaDoorFrF
namespace Go.Proofs.YthidmajlmehopaaDoor
open Go.RowKit

/-- the document's Next of any bytes -/
theorem rn_any (A : Option Addr) (n c : Nat) (l : List UInt8) (B : Nat) (w : World) (hr : Rd w B A n l) (hB : B ≤ w.heap.size) (hn : n ≤ 137438953400) (hc : n ≤ c) (hm : c ≤ 9223372036854775807) :
    Calls Tryd.prog 15 #[.slice A n c] w (RNextP w B l) := by
  have hl := hr.1
  by_cases h8 : n < 8
  · exact (rn_no1 A n c w h8).mono fun e w' h => RNextP.no h (nx_short (by omega)) (by decide)
  · by_cases h0 : l.getD 0 0 = 90
    · obtain ⟨ad, rfl, hadB, _⟩ := hr.cellAt (k := 0) (by omega)
      by_cases h1 : tail4 (crc (l.take 4)) = (l.drop 4).take 4
      · match l, hl, h0, h1, hr with
        | b0 :: b1 :: b2 :: b3 :: t, hl, h0, h1, hr => exact rn_rest ad n c b0 b1 b2 b3 t _ _ w rfl rfl B hadB (hr.more hB) (by omega) hn hc hm h0 h1
        | [_, _, _], hl, _, _, _ => simp at hl; omega
        | [_, _], hl, _, _, _ => simp at hl; omega
        | [_], hl, _, _, _ => simp at hl; omega
        | [], hl, _, _, _ => simp at hl; omega
      · have hnx : nxE l = 20 := by
          unfold nxE
          rw [if_neg (by omega), if_neg (by simp only [h0, ne_eq, not_true_eq_false, not_false_eq_true]), if_pos (fun e => h1 e.symm)]
        exact (rn_no3 ad n c l w (hr.more hB) (by omega) hc hm h0 (fun e => h1 e.symm)).mono fun e w' h => RNextP.no h hnx (by decide)
    · have hnx : nxE l = 11 := by
        unfold nxE
        rw [if_neg (by omega), if_pos h0]
      exact (rn_no2 A n c l B w hr (by omega) h0).mono fun e w' h => RNextP.no h hnx (by decide)

set_option maxHeartbeats 1000000 in
theorem RefWhole_nil (w : World) :
    Calls Tryd.prog 18 #[.slice none 0 0] w fun e w' => ∃ v m, e = .returned v ∧ w'.ownsRow w.heap.size 3 1 v m ((wh [] 0).map (Value.int .i64)) ∧ Below w.heap.size w w' := by
  have hx : nxE [] = 10 := nx_short (by decide)
  obtain ⟨x, hxe⟩ : ∃ x, x = nxE [] := ⟨_, rfl⟩
  have hx0 : (x != 0) = true := by rw [hxe, hx]; decide
  have Hxe := Lib.hid hxe
  have Hx := Lib.hid (show nxE [] ≠ 0 by rw [hx]; decide)
  clear hx hxe
  go_enter Tryd.func18, Tryd.ntmps18
  go_wp2_with fail
  go_loopw [3, 4] (fun v a wr => v = .slice none 0 0 ∧ a = .int .i64 0 ∧ wr = w) (fun _ _ _ => 0)
  case atStart => exact ⟨rfl, rfl, rfl⟩
  case round =>
    obtain ⟨rfl, rfl, rfl⟩ := hrel
    go_wp2_with fail
    refine (rn_any none 0 0 [] wr.heap.size wr Rd.nil (Nat.le_refl _) (by omega) (by omega) (by omega)).mono ?_
    intro e w1 h1
    obtain ⟨rfl, hb1⟩ := h1.2 Hx.out
    rw [← Hxe.out]
    have Hb1 := Lib.hid hb1
    have Hwh := Lib.hid (wh_stop Hx.out 0)
    clear hb1 h1
    go_wp2_with fail
    go_ret
    refine ⟨_, 0, rfl, ?_, Hb1.out⟩
    rw [Hwh.out]
    exact own_nilI _ _

set_option maxHeartbeats 1000000 in
theorem RefWhole_some (ad : Addr) (n c : Nat) (l : List UInt8) (w : World) (hr : Rd w w.heap.size (some ad) n l) (hn : n ≤ 137438953400) (hc : n ≤ c) (hm : c ≤ 9223372036854775807) :
    Calls Tryd.prog 18 #[.slice (some ad) n c] w fun e w' => ∃ v m, e = .returned v ∧ w'.ownsRow w.heap.size 3 1 v m ((wh l 0).map (Value.int .i64)) ∧ Below w.heap.size w w' := by
  obtain ⟨i, hi, hz0, hz1, hz2⟩ := info_parts Tryd.infoI
  have Hr := Lib.hid hr
  have Hl := Lib.hid hr.1
  clear hr
  go_enter Tryd.func18, Tryd.ntmps18
  go_wp2_with fail
  go_loopw [3, 4] (fun v a wr => ∃ (at_ : Nat) (m : Nat) (es : List Int), a = .int .i64 at_ ∧ at_ ≤ n ∧ m ≤ at_ ∧ wr.ownsRow w.heap.size 3 1 v m (es.map (Value.int .i64)) ∧ Hid (wh l 0 = es ++ wh (l.drop at_) at_) ∧ Hid (Below w.heap.size w wr)) (fun _ a _ => n - (intOf a).toNat)
  case atStart => exact ⟨0, 0, [], rfl, Nat.zero_le _, Nat.le_refl _, own_nilI _ _, rfl, Below.refl _ _⟩
  case round =>
    obtain ⟨at_, m, es, rfl, hat, hmat, hown, Hw, Hb⟩ := hrel
    have Hrd : Hid (Rd wr w.heap.size (some (ad.add at_)) (n - at_) (l.drop at_)) := (Hr.out.below Hb.out).from at_ hat
    by_cases hca : c = at_
    · have hx : nxE (l.drop at_) ≠ 0 := by rw [nx_short (by rw [List.length_drop, Hl.out]; omega)]; decide
      have Hx := Lib.hid hx
      clear hx
      obtain ⟨x, hxe⟩ : ∃ x, x = nxE (l.drop at_) := ⟨_, rfl⟩
      have hx0 : (x != 0) = true := by rw [hxe]; simpa using Hx.out
      have Hxe := Lib.hid hxe
      clear hxe
      go_wp2_with fail
      refine (rn_any (some ad) (n - at_) 0 (l.drop at_) w.heap.size wr ⟨by rw [List.length_drop, Hl.out], fun h => by omega⟩ Hb.out.size (by omega) (by omega) (by omega)).mono ?_
      intro e w1 h1
      obtain ⟨rfl, hb1⟩ := h1.2 Hx.out
      rw [← Hxe.out]
      have Hown1 := Lib.hid (ownsRow_below hown hb1)
      have Hb1 := Lib.hid (Hb.out.trans (hb1.mono Hb.out.size))
      have Hwh := Lib.hid (Hw.out.trans (by rw [wh_stop Hx.out, List.append_nil]))
      clear hown hb1 h1
      go_wp2_with fail
      go_ret
      refine ⟨_, m, rfl, ?_, Hb1.out⟩
      rw [Hwh.out]
      exact Hown1.out
    · by_cases hx : nxE (l.drop at_) = 0
      · have Hx := Lib.hid hx
        clear hx
        go_wp2_with fail
        refine (rn_any (some (ad.add at_)) (n - at_) (c - at_) (l.drop at_) w.heap.size wr Hrd.out Hb.out.size (by omega) (by omega) (by omega)).mono ?_
        intro e w1 h1
        obtain ⟨A1, c1, m1, hm1, rfl, _, hb1⟩ := h1.1 Hx.out
        have hok := nx_ok_len Hx.out
        rw [List.length_drop, Hl.out, ← hm1] at hok
        have hwh := wh_step Hx.out at_
        rw [List.drop_drop, ← hm1] at hwh
        obtain ⟨at2, hat2⟩ : ∃ x, x = at_ + (m1 + 12) := ⟨_, rfl⟩
        rw [← hat2] at hwh
        have hat3 : at2 ≤ n := by omega
        have hat4 : at_ + 1 ≤ at2 := by omega
        have hm1b : m1 ≤ 8192 := by omega
        have Hat2 := Lib.hid (show (at_ : Int) + ((m1 : Int) + 12) = (at2 : Int) by omega)
        have Hown1 := Lib.hid (ownsRow_below hown hb1)
        have Hb1 := Lib.hid (Hb.out.trans (hb1.mono Hb.out.size))
        have Hwh := Lib.hid (Hw.out.trans (by rw [hwh]))
        have hs1 := Hb1.out.size
        clear hok hwh hat2 hown hb1 h1 hm1
        go_wp2_with (at_builtin; refine wpList_append_own _ rfl (.tmp 27) (.tmp 29) 36 rfl w.heap.size 3 i (.int .i64 0) 1 8 Tryd.underlying36 hi hz0 hz1 hz2 rfl (by decide) _ _ _ rfl (Hown1.out.alloc _) ⟨w1.heap.size, 0, none⟩ 1 1 [.int .i64 ((at_ : Int) + ((m1 : Int) + 12))] rfl rfl (one_new _ _ _) (by intro u hu; simp at hu; subst hu; rfl) (by simp only [maxLen]; omega) (by omega) (by simp; omega) ?_; intro v' w2 hown2 hg2 _)
        have Hb2 := Lib.hid ((Hb1.out.alloc Hb1.out.size _).grown hg2 (by have := Hb1.out.size; simp; omega) (fun q hq => by have := (Hown1.out.lt q hq).1; omega))
        have hown3 : w2.ownsRow w.heap.size 3 1 v' (m + 1) ((es ++ [(at2 : Int)]).map (Value.int .i64)) := by
          rw [List.map_append, List.map_cons, List.map_nil, ← Hat2.out]
          exact hown2
        clear hown2 hg2
        go_wp2
        go_roundw
        case rel => exact ⟨at2, m + 1, es ++ [(at2 : Int)], by rw [← Hat2.out], hat3, by omega, hown3, by rw [List.append_assoc]; exact Hwh.out, Hb2.out⟩
        case measure => simp [intOf]; have := Hat2.out; omega
      · have Hx := Lib.hid hx
        clear hx
        obtain ⟨x, hxe⟩ : ∃ x, x = nxE (l.drop at_) := ⟨_, rfl⟩
        have hx0 : (x != 0) = true := by rw [hxe]; simpa using Hx.out
        have Hxe := Lib.hid hxe
        clear hxe
        go_wp2_with fail
        refine (rn_any (some (ad.add at_)) (n - at_) (c - at_) (l.drop at_) w.heap.size wr Hrd.out Hb.out.size (by omega) (by omega) (by omega)).mono ?_
        intro e w1 h1
        obtain ⟨rfl, hb1⟩ := h1.2 Hx.out
        rw [← Hxe.out]
        have Hown1 := Lib.hid (ownsRow_below hown hb1)
        have Hb1 := Lib.hid (Hb.out.trans (hb1.mono Hb.out.size))
        have Hwh := Lib.hid (Hw.out.trans (by rw [wh_stop Hx.out, List.append_nil]))
        clear hown hb1 h1
        go_wp2_with fail
        go_ret
        refine ⟨_, m, rfl, ?_, Hb1.out⟩
        rw [Hwh.out]
        exact Hown1.out

/-- the document's Whole of any bytes -/
theorem RefWhole_any (A : Option Addr) (n c : Nat) (l : List UInt8) (w : World) (hr : Rd w w.heap.size A n l) (hA : A = none → c = 0) (hn : n ≤ 137438953400) (hc : n ≤ c) (hm : c ≤ 9223372036854775807) :
    Calls Tryd.prog 18 #[.slice A n c] w fun e w' => ∃ v m, e = .returned v ∧ w'.ownsRow w.heap.size 3 1 v m ((wh l 0).map (Value.int .i64)) ∧ Below w.heap.size w w' := by
  rcases A with _ | ad
  · obtain rfl := hA rfl
    obtain rfl : n = 0 := by omega
    obtain rfl : l = [] := List.eq_nil_of_length_eq_zero hr.1
    exact RefWhole_nil w
  · exact RefWhole_some ad n c l w hr hn hc hm
end Go.Proofs.YthidmajlmehopaaDoor
