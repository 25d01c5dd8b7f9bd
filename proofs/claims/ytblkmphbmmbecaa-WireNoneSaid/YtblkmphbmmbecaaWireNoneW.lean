/- The walk of WireNone. -/
import Derived.Test.YtblkmphbmmbecaaWireM
import Derived.Test.YtblkmphbmmbecaaWireP
import Derived.Test.YtblkmphbmmbecaaLaw
namespace Go.Proofs.Ytblkmphbmmbecaa
open Go.ChangeShapes Go.WideShapes Go.ChangeAt Go.RowKit

theorem blobB_short (x : List UInt8) (h : x.length ≤ 65535) : blobB x = encB 2 x.length ++ x := by
  rw [blobB, Nat.min_eq_left h, List.take_of_length_le h]
theorem rd_blob (x : List UInt8) (h : x.length ≤ 65535) (most : Int) :
    rdBlob (blobB x) 0 most = if max most 0 < (x.length : Int) then ([], blobB x, 11) else (x, [], 0) := by
  rw [blobB_short x h]
  have h1 : (encB 2 x.length ++ x).take 2 = encB 2 x.length := List.take_left' (encB_length _ _)
  have h2 : (encB 2 x.length ++ x).drop 2 = x := List.drop_left' (encB_length _ _)
  have h3 : decB (encB 2 x.length) = x.length := by rw [decB_encB]; exact Nat.mod_eq_of_lt (by omega)
  have h4 : (encB 2 x.length ++ x).length = 2 + x.length := by rw [List.length_append, encB_length]
  have h5 : (encB 2 x.length ++ x).drop (2 + x.length) = [] := List.drop_eq_nil_of_le (by rw [h4]; exact Nat.le_refl _)
  unfold rdBlob cntE
  rw [h1, h2, h3, h4, h5]
  by_cases hm : max most 0 < (x.length : Int)
  · have h6 : ¬ (2 + x.length < 2) := by omega
    simp [hm, h6]
  · simp [hm]

theorem Blob_nil (A : Option Addr) (n c : Nat) (x : List UInt8) (w : World) (hr : Rd w w.heap.size A n x) (hn : n ≤ c) (hc : c ≤ 9223372036854775807) : Calls Try.prog 12 #[.slice none 0 0, .slice A n c] w fun e w' =>
    ∃ A' c', e = .returned (.slice A' (blobB x).length c') ∧ Rd w' w'.heap.size A' (blobB x).length (blobB x) ∧ Below w.heap.size w w' :=
  (Blob_any none A 0 0 n c [] x w Rd.nil hr (by omega) hn hc).mono fun e w' h => by
    rw [List.nil_append] at h
    obtain ⟨A, c, he, _, _, hown, hb⟩ := h
    exact ⟨A, c, he, Rd.own hown, hb⟩

set_option maxHeartbeats 2000000 in
theorem WireNone_core (A : Option Addr) (n c : Nat) (x : List UInt8) (most : Int) (W : World) (hr : Rd W W.heap.size A n x) (hnc : n ≤ c) (hc : c ≤ 9223372036854775807) (_hm : I64 most) :
    Calls Try.prog 8 #[.slice A n c, .int .i64 most] W (Yes W) := by
  by_cases hn : n ≤ 10000
  · have hx := hr.1
    go_enter Try.func8, Try.ntmps8
    go_wp2_with (first
      | (go_at_call 9; refine (awake_any _).mono ?_; rintro e w1 ⟨rfl, hb1⟩)
      | (go_at_call 24; refine (Fail_nil _ _).mono ?_; rintro e w' ⟨rfl, rfl⟩)
      | (go_at_call 17; refine (RNum_nil _ _).mono ?_; rintro e w' ⟨rfl, rfl⟩)
      | (go_at_call 19; refine (RBlob_nil _ _).mono ?_; rintro e w' ⟨rfl, rfl⟩)
      | (go_at_call 22; refine (RNums_nil _ _ _).mono ?_; rintro e w' ⟨rfl, rfl⟩)
      | (go_at_call 26; refine (Left_nil _).mono ?_; rintro e w' ⟨rfl, rfl⟩)
      | (go_at_call 27; refine (Err_nil _).mono ?_; rintro e w' ⟨rfl, rfl⟩)
      | (go_at_call 28; refine (End_nil _).mono ?_; rintro e w' ⟨rfl, rfl⟩))
    refine (Blob_nil A n c x _ ((hr.below hb1).more hb1.size) hnc hc).mono ?_
    rintro e w2 ⟨A2, c2, rfl, hr2, hb2⟩
    have hL : (blobB x).length ≤ 20000 := by rw [blobB_short x (by omega), List.length_append, encB_length]; omega
    have hb12 := hb1.trans (hb2.mono hb1.size)
    have hrb := rd_blob x (by omega) most
    clear hb2 hb1
    generalize blobB x = bl at *
    generalize bl.length = L at *
    go_wp2_with fail
    refine (Read_any A2 L c2 bl _ hr2 (by omega)).mono ?_
    rintro e w3 ⟨g, rfl, hR3, hg3, hb3⟩
    have hb13 := hb12.trans (hb3.mono hb12.size)
    have hgW : W.heap.size ≤ g := Nat.le_trans hb12.size hg3
    have HR3 := Lib.hid hR3
    have Hrb := Lib.hid hrb
    clear hR3 hrb hr2 hb3 hg3
    by_cases hgt : max most 0 < (x.length : Int)
    · have hgt2 : max most 0 < (n : Int) := by omega
      go_wp2_with fail
      refine (RBlob_any g bl 0 most _ HR3.out).mono ?_
      rintro e w4 ⟨h5, h6⟩
      rw [Hrb.out, if_pos hgt] at h5 h6
      dsimp only at h5 h6
      obtain ⟨A4, c4, rfl, _, _, _, hg5⟩ := h5
      have hb14 := hb13.grown hg5 hb13.size (fun q hq => by injection hq with hq; omega)
      have H6 := Lib.hid h6
      clear h6 hg5 hb12 hb13
      go_wp2_with (go_at_call 27; refine (Err_any g bl 11 _ H6.out).mono ?_; rintro e w' ⟨rfl, rfl⟩)
      all_goals
        go_ret
        exact ⟨rfl, hb14⟩
    · have hgt2 : ¬ max most 0 < (n : Int) := by omega
      go_wp2_with fail
      refine (RBlob_any g bl 0 most _ HR3.out).mono ?_
      rintro e w4 ⟨h5, h6⟩
      rw [Hrb.out, if_neg (by omega)] at h5 h6
      dsimp only at h5 h6
      obtain ⟨A4, c4, rfl, _, _, hr5, hg5⟩ := h5
      have hb14 := hb13.grown hg5 hb13.size (fun q hq => by injection hq with hq; omega)
      rw [hx] at hr5
      have hcv1 := str_any (c := c4) hr5
      have hcv2 := str_any (c := c) (hr.below hb14)
      have H6 := Lib.hid h6
      clear h6 hg5 hb12 hb13 hr5
      go_wp2_with (go_at_call 28; refine (End_any g [] 0 _ H6.out).mono ?_; rintro e w5 ⟨rfl, _, hg6⟩; have hb15 := hb14.grown hg6 hb14.size (fun q hq => by injection hq with hq; omega))
      all_goals
        go_ret
        exact ⟨rfl, hb15⟩
  · go_enter Try.func8, Try.ntmps8
    go_wp2_with (go_at_call 9; refine (awake_any _).mono ?_; rintro e w1 ⟨rfl, hb1⟩)
    go_ret
    exact ⟨rfl, hb1⟩

theorem WireNone_walk {H : Type} {enc : TypeId × Value → H} (W : World) (base : Nat) {v0 v1 : Value} {d0 : DataW H} {p0 : List MemPlace} {d1 : DataW H} {p1 : List MemPlace}
    (k0 : Value.okWide Try.prog W .any base 22 v0) (h0 : DataW.Trod enc Try.prog W 0 (fun _ => true) true 22 v0 d0 p0) (k1 : Value.okWide Try.prog W .any base 3 v1) (h1 : DataW.Trod enc Try.prog W 0 (fun _ => true) true 3 v1 d1 p1) :
    Calls Try.prog 8 #[v0, v1] W (Yes W) := by
  obtain ⟨A, n, c, l, rfl, hr, hnc, hc⟩ := ar_bytes Try.underlying22 Try.underlying5 (by kernel_rfl) k0 h0
  obtain ⟨z, rfl, hz⟩ := ar_int Try.underlying3 k1 h1
  exact WireNone_core A n c l z W hr hnc hc hz
end Go.Proofs.Ytblkmphbmmbecaa
