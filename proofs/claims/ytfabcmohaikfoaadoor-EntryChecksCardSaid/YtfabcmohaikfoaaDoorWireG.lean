/- Contracts of package wire: Reader.Blob, Reader.Nums. -/
import Derived.Test.YtfabcmohaikfoaaDoorWireF
namespace Go.Proofs.YtfabcmohaikfoaaDoor
open Go.RowKit

/-- what Blob of a reader gives: the bytes, what is left, the error -/
def rdBlob (l : List UInt8) (e most : Int) : List UInt8 × List UInt8 × Int :=
  if e ≠ 0 then ([], l, e) else if cntE l 2 1 most ≠ 0 then ([], l, cntE l 2 1 most) else ((l.drop 2).take (decB (l.take 2)), l.drop (2 + decB (l.take 2)), 0)

/-- a slice result in new memory that reads as l, beside a reader -/
def OutG (w : World) (g : Nat) (l : List UInt8) (e : Ending) (w' : World) : Prop :=
  ∃ A c, e = .returned (.slice A l.length c) ∧ l.length ≤ c ∧ c ≤ maxLen ∧ Rd w' w'.heap.size A l.length l ∧ w.grownBy w' (some g)

set_option maxRecDepth 10000 in
theorem ownRd {w : World} {base n c : Nat} {A : Option Addr} {l : List UInt8} (h : w.ownsRow base 5 1 (.slice A n c) n (l.map bv)) : Rd w w.heap.size A n l := Rd.own h

theorem size_set (w : World) (a : Addr) (v : Value) : (w.setCell a v).heap.size = w.heap.size := by simp [World.setCell]
theorem RdrX.below {w w' : World} {g n c : Nat} {A : Option Addr} {l : List UInt8} {e : Int} (h : RdrX w g A n c l e) (hb : Below w.heap.size w w') : RdrX w' g A n c l e := by
  have hg : g < w.heap.size := lt_of_block h.1
  exact ⟨(hb.block g hg).trans h.1, h.2.1, h.2.2.1, h.2.2.2.keep fun p hp => hb.cell (Nat.lt_trans hp hg)⟩
theorem Rdr.below {w w' : World} {g : Nat} {l : List UInt8} {e : Int} (h : Rdr w g l e) (hb : Below w.heap.size w w') : Rdr w' g l e := by
  obtain ⟨A, n, c, h⟩ := h
  exact ⟨A, n, c, h.below hb⟩
set_option maxRecDepth 10000 in
theorem outG_of {w w1 w2 : World} {g base : Nat} {A : Option Addr} {c : Nat} {l : List UInt8} (h : w2.ownsRow base 5 1 (.slice A l.length c) l.length (l.map bv)) (hb : Below w1.heap.size w1 w2) (hg : w.grownBy w1 (some g)) :
    OutG w g l (.returned (.slice A l.length c)) w2 := by
  obtain ⟨_, _, hq, hnc, hcm⟩ := ownsRow_form h
  injection hq with hq1 hq2 hq3
  subst hq3
  exact ⟨A, c, rfl, hnc, hcm, ownRd h, grownBy_trans hg (grownBy_below hb _)⟩

set_option maxRecDepth 10000 in
set_option maxHeartbeats 1000000 in
theorem RBlob_err (g : Nat) (l : List UInt8) (e most : Int) (w : World) (h : Rdr w g l e) (he : e ≠ 0) :
    Calls Tryd.prog 43 #[.pointer (some ⟨g, 0, none⟩), .int .i64 most] w fun x w' => x = .returned (.slice none 0 0) ∧ w = w' := by
  have H0 := Lib.hid h
  clear h
  have he2 : (e == 0) = false := by simpa using he
  have he3 : (e != 0) = true := by simpa using he
  go_enter Tryd.func43, Tryd.ntmps43
  go_wp2_with (go_at_call 58; refine (Err_any g l _ _ H0.out).mono ?_; rintro x w' ⟨rfl, rfl⟩)
  go_ret
  exact ⟨rfl, rfl⟩
set_option maxRecDepth 10000 in
set_option maxHeartbeats 1000000 in
theorem RBlob_nil (most : Int) (w : World) :
    Calls Tryd.prog 43 #[.pointer none, .int .i64 most] w fun x w' => x = .returned (.slice none 0 0) ∧ w = w' := by
  go_enter Tryd.func43, Tryd.ntmps43
  go_wp2_with (go_at_call 58; refine (Err_nil _).mono ?_; rintro x w' ⟨rfl, rfl⟩)
  go_ret
  exact ⟨rfl, rfl⟩

set_option maxRecDepth 10000 in
/-- counted that fails, whatever the reason -/
theorem counted_bad (g : Nat) (A : Option Addr) (n c : Nat) (l : List UInt8) (cw iw : Nat) (most : Int) (w : World) (h : RdrX w g A n c l 0) (h7 : cw ≤ 2) (hi : iw ≤ 7) (hE : cntE l cw iw most ≠ 0) :
    Calls Tryd.prog 62 #[.slice A n c, .int .i64 cw, .int .i64 iw, .int .i64 most, failV g] w fun x w' =>
      x = .returned (.tuple #[.slice none 0 0, .slice A n c]) ∧ RdrX w' g A n c l (cntE l cw iw most) ∧ w.grownBy w' (some g) := by
  have hl := h.2.2.2.1
  unfold cntE at hE ⊢
  by_cases h1 : l.length < cw
  · rw [if_pos h1]; exact counted_1 g A n c l A n c cw iw most w h (by omega)
  · rw [if_neg h1] at hE ⊢
    by_cases h2 : max most 0 < (decB (l.take cw) : Int)
    · rw [if_pos h2]; exact counted_2 g A n c l A n c l cw iw most w h h.2.2.2 (by omega) (by omega) h.2.1 h.2.2.1 h2
    · rw [if_neg h2] at hE ⊢
      by_cases h3 : l.length - cw < decB (l.take cw) * iw
      · rw [if_pos h3]; exact counted_3 g A n c l A n c l cw iw most w h h.2.2.2 (by omega) h7 hi h.2.1 h.2.2.1 (by omega) (by omega)
      · rw [if_neg h3] at hE; exact absurd rfl hE

set_option maxRecDepth 10000 in
set_option maxHeartbeats 1000000 in
theorem RBlob_bad (g : Nat) (l : List UInt8) (most : Int) (w : World) (h : Rdr w g l 0) (hE : cntE l 2 1 most ≠ 0) :
    Calls Tryd.prog 43 #[.pointer (some ⟨g, 0, none⟩), .int .i64 most] w fun x w' => OutG w g [] x w' ∧ Rdr w' g l (cntE l 2 1 most) := by
  have H0 := Lib.hid h
  obtain ⟨A, n, c, hx⟩ := h
  have h1 := hx.cell0
  have HE := Lib.hid hE
  have Hx := Lib.hid hx
  clear hx hE
  go_enter Tryd.func43, Tryd.ntmps43
  go_wp2_with (first
    | (go_at_call 58; refine (Err_any g l _ _ H0.out).mono ?_; rintro x w' ⟨rfl, rfl⟩)
    | (go_at_call 62; refine (counted_bad g A n c l 2 1 most _ Hx.out (by omega) (by omega) HE.out).mono ?_; rintro e w3 ⟨rfl, h3, h4⟩; have h5 := h3.cell0; have h6 := h3.free 0; have H3 := Lib.hid h3; have H4 := Lib.hid h4; clear h3 h4)
    | (go_at_call 52; refine (extend_any none 0 0 [] 0 _ Rd.nil (by omega) (by omega) (by omega)).mono ?_; rintro e w5 ⟨c5, rfl, hown5, hb5⟩))
  go_ret
  have h7 : RdrX (w3.setCell ⟨g, 0, none⟩ (.slice A n c)) g A n c l (cntE l 2 1 most) := H3.out.put H3.out.2.2.2 H3.out.2.1 H3.out.2.2.1
  rw [size_set] at hown5
  exact ⟨outG_of (l := []) hown5 hb5 (grownBy_trans H4.out (grownBy_set _ _ _ _)), ⟨A, n, c, h7.below hb5⟩⟩

theorem cntE_0 {l : List UInt8} {cw iw : Nat} {most : Int} (h : cntE l cw iw most = 0) : cw ≤ l.length ∧ (decB (l.take cw) : Int) ≤ max most 0 ∧ decB (l.take cw) * iw ≤ l.length - cw := by
  unfold cntE at h
  split at h
  · simp at h
  · split at h
    · simp at h
    · split at h
      · simp at h
      · omega

set_option maxRecDepth 10000 in
set_option maxHeartbeats 1000000 in
theorem RBlob_ok (g : Nat) (l : List UInt8) (most : Int) (w : World) (h : Rdr w g l 0) (hE : cntE l 2 1 most = 0) :
    Calls Tryd.prog 43 #[.pointer (some ⟨g, 0, none⟩), .int .i64 most] w fun x w' => OutG w g ((l.drop 2).take (decB (l.take 2))) x w' ∧ Rdr w' g (l.drop (2 + decB (l.take 2))) 0 := by
  have H0 := Lib.hid h
  obtain ⟨A, n, c, hx⟩ := h
  obtain ⟨k1, k2, k3⟩ := cntE_0 hE
  have hl := hx.2.2.2.1
  have hD1 := decB_lt (l.take 2)
  have hD2 : (256 : Nat) ^ (l.take 2).length ≤ 256 ^ 2 := Nat.pow_le_pow_right (by decide) (by rw [List.length_take]; omega)
  have hcnt := fun W (hr : Rd W g A n l) => counted_4 g (failV g) A n c l 2 1 most W hr (by omega) (by omega) (by omega) hx.2.1 hx.2.2.1 k2 (by omega)
  simp only [Nat.mul_one] at hcnt k3
  obtain ⟨D, hD⟩ : ∃ D, D = decB (l.take 2) := ⟨_, rfl⟩
  rw [← hD] at k2 k3 hD1 ⊢
  rw [← hD] at hcnt
  have hDn : D ≤ 65535 := by omega
  have hD4 : D ≤ n - 2 := by omega
  have hn2 : 2 ≤ n := by omega
  have hnc := hx.2.1
  have hcm := hx.2.2.1
  have h1 := hx.cell0
  have h2 := hx.free 0
  have Hx := Lib.hid hx
  have Hc := Lib.hid hcnt
  have hlen : ((l.drop 2).take D).length = D := by rw [List.length_take, List.length_drop]; omega
  have Hlen := Lib.hid hlen
  clear hx hE hl hD1 hD2 hcnt hD k1 k2 k3 hlen
  go_enter Tryd.func43, Tryd.ntmps43
  go_wp2_with (first
    | (go_at_call 58; refine (Err_any g l _ _ H0.out).mono ?_; rintro x w' ⟨rfl, rfl⟩)
    | (go_at_call 62; refine (Hc.out _ Hx.out.2.2.2).mono ?_; rintro e w3 ⟨A2, A3, rfl, hA2, hA3, q, rfl⟩)
    | (go_at_call 52; refine (extend_any A2 D (c - 2) ((l.drop 2).take D) 0 _ ((keepSet ((hA2.out _ _ _ Hx.out.2.2.2).take hD4) (Nat.le_refl _) _ _ _).more (by simp; exact Nat.le_of_lt (lt_of_block Hx.out.1))) (by omega) (by omega) (by omega)).mono ?_; rintro e w5 ⟨c5, rfl, hown5, hb5⟩))
  go_ret
  have h7 : RdrX ((w.drewN q).setCell ⟨g, 0, none⟩ (.slice A3 (n - 2 - D) (c - 2 - D))) g A3 (n - 2 - D) (c - 2 - D) ((l.drop 2).drop D) 0 :=
    (Hx.out.drewN q).put (hA3.out _ _ _ (hA2.out _ _ _ (Hx.out.2.2.2.drewN q))) (by omega) (by omega)
  rw [List.drop_drop] at h7
  rw [size_set] at hown5
  have hfin := outG_of (l := (l.drop 2).take D) (by rw [Hlen.out]; exact hown5) hb5 (grownBy_trans (grownBy_drewN w q _) (grownBy_set _ g 0 _))
  rw [Hlen.out] at hfin
  exact ⟨hfin, ⟨_, _, _, h7.below hb5⟩⟩

set_option maxRecDepth 10000 in
/-- Blob of a reader -/
theorem RBlob_any (g : Nat) (l : List UInt8) (e most : Int) (w : World) (h : Rdr w g l e) :
    Calls Tryd.prog 43 #[.pointer (some ⟨g, 0, none⟩), .int .i64 most] w fun x w' =>
      OutG w g (rdBlob l e most).1 x w' ∧ Rdr w' g (rdBlob l e most).2.1 (rdBlob l e most).2.2 := by
  unfold rdBlob
  by_cases he : e = 0
  · subst he
    rw [if_neg (by simp)]
    by_cases hE : cntE l 2 1 most = 0
    · rw [if_neg (by simp [hE])]; exact RBlob_ok g l most w h hE
    · rw [if_pos hE]; exact RBlob_bad g l most w h hE
  · rw [if_pos he]
    refine (RBlob_err g l e most w h he).mono ?_
    rintro x w' ⟨rfl, rfl⟩
    exact ⟨⟨none, 0, rfl, Nat.le_refl _, by simp [maxLen], Rd.nil, World.grownBy.refl _ _⟩, h⟩
end Go.Proofs.YtfabcmohaikfoaaDoor
