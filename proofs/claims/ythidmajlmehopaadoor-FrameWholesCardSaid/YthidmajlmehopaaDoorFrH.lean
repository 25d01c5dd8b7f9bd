/- awake of layer 2 answers true, and changes nothing that was there. -/
import Derived.Test.YthidmajlmehopaaDoorFrG
import Derived.Lib.SlBytesConst
namespace Go.Proofs.YthidmajlmehopaaDoor
open Go.RowKit

theorem aw_make (w : World) (ht : Tb w) : Calls Tryd.prog 10 #[.int .i64 3, .slice none 0 0] w fun e w' =>
    ∃ A c, e = .returned (.tuple #[.slice A 12 c, .int .i64 0]) ∧ 12 ≤ c ∧ c ≤ maxLen ∧ Hid (Rd w' w'.heap.size A 12 (mkF 3 [])) ∧ Below w.heap.size w w' :=
  (Make_ok 3 none 0 0 [] w (by decide) (by decide) Rd.nil ht).mono fun e w' h => by
    obtain ⟨A, c, h1, h2, h3, h4, h5⟩ := h
    exact ⟨A, c, h1, h2, h3, Rd.own h4, h5⟩
theorem aw_next (A : Option Addr) (c : Nat) (w : World) (hr : Rd w w.heap.size A 14 (mkF 3 [] ++ [1, 2])) (hc : 14 ≤ c) (hm : c ≤ 9223372036854775807) (ht : Tb w) : Calls Tryd.prog 14 #[.slice A 14 c] w fun e w' =>
    ∃ A1 c1 A2 c2, e = .returned (.tuple #[.int .i64 3, .slice A1 0 c1, .slice A2 2 c2, .int .i64 0]) ∧ Below w.heap.size w w' :=
  (Next_yes A 14 c _ w hr (by omega) hc hm ht (nx_mk 3 [] [1, 2] (by decide))).mono fun e w' h => by
    obtain ⟨A1, c1, A2, c2, m1, m2, rfl, rfl, h3, _, _, _, _, _, _, h10⟩ := h
    rw [cnt_mk 3 [] [1, 2] (by decide)] at h3
    exact ⟨A1, c1, A2, c2, h3, h10⟩
theorem aw_sum (A : Option Addr) (n c : Nat) (B : Nat) (w : World) (hr : Rd w B A n [49, 50, 51, 52, 53, 54, 55, 56, 57]) (ht : Tb w) (hn : n ≤ 9223372036854775807) : Calls Tryd.prog 12 #[.slice A n c] w fun e w' =>
    e = .returned (.int .u32 3808858755) ∧ w = w' :=
  (Sum_any A n c _ B w hr ht hn).mono fun e w' h => by rw [crc_ex] at h; exact h
theorem aw_whole (A : Option Addr) (c : Nat) (w : World) (hr : Rd w w.heap.size A 12 (mkF 3 [])) (hc : 12 ≤ c) (hm : c ≤ 9223372036854775807) (ht : Tb w) : Calls Tryd.prog 17 #[.slice A 12 c] w fun e w' =>
    ∃ A1 c1, e = .returned (.slice A1 1 c1) ∧ Below w.heap.size w w' :=
  (Whole_any A 12 c _ w hr (by omega) hc hm ht).mono fun e w' h => by
    obtain ⟨v, m, h1, h2, h3⟩ := h
    have e1 := wh_mk 3 [] [] (by decide) 0
    rw [List.append_nil, wh_stop (l := []) (by rw [nx_short (by decide)]; decide)] at e1
    rw [e1] at h2
    obtain rfl : m = 1 := by have := h2.1; simp at this; omega
    obtain ⟨A1, c1, rfl, _, _⟩ := ownsRow_form h2
    exact ⟨A1, c1, h1, h3⟩
theorem lit12 : #[Value.int IntKind.u8 1, Value.int IntKind.u8 2] = (([1, 2] : List UInt8).map bv).toArray := rfl
theorem Rd_litF (w : World) (t : TypeId) (fr : Nat × Nat) (l : List UInt8) : Rd (w.alloc (.cells (l.map bv).toArray t fr)) (w.heap.size + 1) (some ⟨w.heap.size, 0, none⟩) l.length l :=
  ⟨rfl, fun _ => ⟨_, rfl, Nat.lt_succ_self _, fun j hj => by
    have hadd : (⟨w.heap.size, 0, none⟩ : Addr).add j = ⟨w.heap.size, j, none⟩ := by unfold Addr.add; split <;> simp_all
    rw [hadd, cell_of_row _ w.heap.size j (l.map bv).toArray t fr (heap_alloc_new w _)]
    simp [hj]⟩⟩
theorem litSum (w : World) : Rd (w.alloc (.cells #[.int .u8 49, .int .u8 50, .int .u8 51, .int .u8 52, .int .u8 53, .int .u8 54, .int .u8 55, .int .u8 56, .int .u8 57] 5 (9, 10))) (w.heap.size + 1) (some ⟨w.heap.size, 0, none⟩) 9 [49, 50, 51, 52, 53, 54, 55, 56, 57] :=
  Rd_litF w 5 (9, 10) [49, 50, 51, 52, 53, 54, 55, 56, 57]
theorem convSum (w : World) : (convert 22 22 (.slice (some ⟨w.heap.size, 0, none⟩) 9 9)).run Tryd.prog (w.alloc (.cells #[.int .u8 49, .int .u8 50, .int .u8 51, .int .u8 52, .int .u8 53, .int .u8 54, .int .u8 55, .int .u8 56, .int .u8 57] 5)) = .ok (.slice (some ⟨w.heap.size, 0, none⟩) 9 9) (w.alloc (.cells #[.int .u8 49, .int .u8 50, .int .u8 51, .int .u8 52, .int .u8 53, .int .u8 54, .int .u8 55, .int .u8 56, .int .u8 57] 5 (9, 10))) :=
  Lib.run_convert_bytes_const (P := Tryd.prog) w 22 5 #[.int .u8 49, .int .u8 50, .int .u8 51, .int .u8 52, .int .u8 53, .int .u8 54, .int .u8 55, .int .u8 56, .int .u8 57] 9 9 Tryd.underlying22 Tryd.underlying5

set_option maxHeartbeats 1000000 in
theorem awake_any (w : World) (ht : Tb w) : Calls Tryd.prog 9 #[] w fun e w' => e = .returned (.bool true) ∧ Below w.heap.size w w' := by
  obtain ⟨i, hi, hz0, hz1, hz2⟩ := info_parts Tryd.infoB
  have Ht := Lib.hid ht
  have Hs := Lib.hid ht.size
  clear ht
  go_enter Tryd.func9, Tryd.ntmps9
  go_wp2_with fail
  refine (aw_make w Ht.out).mono ?_
  rintro e w1 ⟨A, c, rfl, hc, hm, Hr, hb1⟩
  have Hb1 := Lib.hid hb1
  have hown0 : (w1.alloc (.cells #[] 5)).ownsRow w1.heap.size 5 1 (.slice (some ⟨w1.heap.size, 0, none⟩) 0 0) 0 (([] : List UInt8).map bv) := World.ownsRow_lit (base := w1.heap.size) (e := 5) (size := 1) w1 #[] 0 (Nat.le_refl _) (by simp only [maxLen]; omega) rfl
  have Hown0 := Lib.hid hown0
  have hm2 : c ≤ 9223372036854775807 := by simpa [maxLen] using hm
  clear hb1 hown0 hm
  go_wp2_with (first
    | (at_builtin; refine wpList_append_rd rfl (.tmp 12) (.tmp 13) 22 rfl w1.heap.size 5 i (.int .u8 0) 1 Tryd.underlying22 hi hz0 hz1 hz2 rfl _ 0 _ rfl Hown0.out A 12 c ((mkF 3 []).map bv) rfl (by rw [List.length_map, Hr.out.1]) (Hr.out.alloc (Nat.le_refl _) _).src (bv_one _) (by simp only [maxLen]; omega) (by omega) (by simp) ?_; intro v2 w2 hown2 hg2; rw [← List.map_append] at hown2; have Hb2 := Lib.hid (((Below.refl _ w1).alloc (Nat.le_refl _) _).grown hg2 (by simp) (fun q hq => (Hown0.out.lt q hq).1)); have Hown2 := Lib.hid hown2; clear hown2 hg2)
    | (at_builtin; refine wpList_append_rd rfl (.tmp 14) (.tmp 15) 22 rfl w1.heap.size 5 i (.int .u8 0) 1 Tryd.underlying22 hi hz0 hz1 hz2 rfl _ _ _ rfl (Hown2.out.alloc _) (some ⟨w2.heap.size, 0, none⟩) 2 2 (([1, 2] : List UInt8).map bv) rfl rfl (Rd_lit w2 5 [1, 2]).src (bv_one _) (by simp only [maxLen]; omega) (by omega) (by have := Hb2.out.size; simp; omega) ?_; intro v3 w3 hown3 hg3; rw [← List.map_append] at hown3; have Hb3 := Lib.hid ((Hb2.out.alloc Hb2.out.size _).grown hg3 (by have := Hb2.out.size; simp; omega) (fun q hq => (Hown2.out.lt q hq).1)); obtain ⟨A3, c3, rfl, hc3, hm3⟩ := ownsRow_form hown3; have Hown3 := Lib.hid hown3; clear hown3 hg3))
  have hr3 : Rd w3 w3.heap.size A3 14 (mkF 3 [] ++ [1, 2]) := Rd.own Hown3.out
  have hb3 := Hb1.out.trans (Hb3.out.mono Hb1.out.size)
  refine (aw_next A3 c3 w3 hr3 hc3 (by simpa [maxLen] using hm3) (Ht.out.below hb3 Hs.out)).mono ?_
  rintro e w4 ⟨A4, c4, A5, c5, rfl, hb4⟩
  have Hb4 := Lib.hid (hb3.trans (hb4.mono hb3.size))
  have Hf4 := Lib.hid ((Hr.out.below Hb3.out).below (hb4.mono Hb3.out.size))
  have Hs41 := Lib.hid (Nat.le_trans Hb3.out.size hb4.size)
  have Hs41b : Hid (w1.heap.size ≤ (w4.alloc (.cells #[.int .u8 49, .int .u8 50, .int .u8 51, .int .u8 52, .int .u8 53, .int .u8 54, .int .u8 55, .int .u8 56, .int .u8 57] 5 (9, 10))).heap.size) := by have h := Hs41.out; show _ ≤ _; simp; omega
  clear hr3 hb3 hb4 hm3 hc3
  have kc := convSum w4
  go_wp2_with fail
  refine (aw_sum _ _ 9 _ _ (litSum w4) ((Ht.out.below Hb4.out Hs.out).below ((Below.refl _ _).alloc (Nat.le_refl _) _) (Nat.lt_of_lt_of_le Hs.out Hb4.out.size)) (by omega)).mono ?_
  rintro e w' ⟨rfl, rfl⟩
  go_wp2_with fail
  refine (aw_whole A c _ ((Hf4.out.alloc Hs41.out _).more Hs41b.out) hc hm2 ((Ht.out.below Hb4.out Hs.out).below ((Below.refl _ _).alloc (Nat.le_refl _) _) (Nat.lt_of_lt_of_le Hs.out Hb4.out.size))).mono ?_
  rintro e w5 ⟨A6, c6, rfl, hb5⟩
  have Hb5 := Lib.hid ((Hb4.out.alloc Hb4.out.size _).trans (hb5.mono (by have := Hb4.out.size; simp; omega)))
  clear hb5
  go_wp2_with fail
  go_ret
  exact ⟨rfl, Hb5.out⟩
end Go.Proofs.YthidmajlmehopaaDoor
