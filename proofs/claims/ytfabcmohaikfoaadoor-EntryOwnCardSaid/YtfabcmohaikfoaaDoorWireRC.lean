/- Contracts of the document's own reader for layer 1: Blob, Nums, End. -/
import Derived.Test.YtfabcmohaikfoaaDoorWireRB
namespace Go.Proofs.YtfabcmohaikfoaaDoor
open Go.RowKit

theorem fitW_1 : fitW 1 = 1 := by decide
theorem fitW_2 : fitW 2 = 2 := by decide

/-- Blob of a reader, told by take -/
theorem rdBlob_tk (l : List UInt8) (e most : Int) :
    (rdBlob l e most).1 = (if max most 0 < (decB (tkQ l e 2) : Int) then [] else tkQ (tkL l e 2) (tkE l e 2) (decB (tkQ l e 2))) ∧
    (rdBlob l e most).2.2 = (if max most 0 < (decB (tkQ l e 2) : Int) then failE (tkE l e 2) 11 else tkE (tkL l e 2) (tkE l e 2) (decB (tkQ l e 2))) ∧
    clr (rdBlob l e most).2.1 (rdBlob l e most).2.2 = (if max most 0 < (decB (tkQ l e 2) : Int) then clr (tkL l e 2) (failE (tkE l e 2) 11) else clr (tkL (tkL l e 2) (tkE l e 2) (decB (tkQ l e 2))) (tkE (tkL l e 2) (tkE l e 2) (decB (tkQ l e 2)))) := by
  by_cases he : e = 0
  · subst he
    by_cases h1 : l.length < 2
    · have hQ : tkQ l 0 2 = [] := by unfold tkQ; rw [if_neg (by omega)]
      have hE : tkE l 0 2 = 10 := by unfold tkE; rw [if_pos (by omega)]
      have hL : tkL l 0 2 = l := by unfold tkL; rw [if_neg (by omega)]
      have hb : rdBlob l 0 most = ([], l, 10) := by
        have hc : cntE l 2 1 most = 10 := by unfold cntE; rw [if_pos h1]
        unfold rdBlob; rw [if_neg (by simp), hc, if_pos (by decide)]
      rw [hb, hQ, hE, hL, if_neg (by simp [decB]; omega), if_neg (by simp [decB]; omega), if_neg (by simp [decB]; omega)]
      simp [decB, tkQ, tkE, clr]
    · have hQ : tkQ l 0 2 = l.take 2 := by unfold tkQ; rw [if_pos (by omega)]
      have hE : tkE l 0 2 = 0 := by unfold tkE; rw [if_neg (by omega)]
      have hL : tkL l 0 2 = l.drop 2 := by unfold tkL; rw [if_pos (by omega)]
      rw [hQ, hE, hL]
      by_cases h2 : max most 0 < (decB (l.take 2) : Int)
      · have hb : rdBlob l 0 most = ([], l, 11) := by
          have hc : cntE l 2 1 most = 11 := by unfold cntE; rw [if_neg h1, if_pos h2]
          unfold rdBlob; rw [if_neg (by simp), hc, if_pos (by decide)]
        rw [hb, if_pos h2, if_pos h2, if_pos h2]
        simp [failE, clr]
      · by_cases h3 : l.length - 2 < decB (l.take 2) * 1
        · have hb : rdBlob l 0 most = ([], l, 10) := by
            have hc : cntE l 2 1 most = 10 := by unfold cntE; rw [if_neg h1, if_neg h2, if_pos h3]
            unfold rdBlob; rw [if_neg (by simp), hc, if_pos (by decide)]
          have k1 : ¬ ((0 : Int) = 0 ∧ decB (l.take 2) ≤ (l.drop 2).length) := by rw [List.length_drop]; omega
          have k2 : (0 : Int) = 0 ∧ ¬ decB (l.take 2) ≤ (l.drop 2).length := by rw [List.length_drop]; omega
          rw [hb, if_neg h2, if_neg h2, if_neg h2, tkQ, tkE, tkL, if_neg k1, if_pos k2, if_neg k1]
          simp [clr]
        · have hb : rdBlob l 0 most = ((l.drop 2).take (decB (l.take 2)), l.drop (2 + decB (l.take 2)), 0) := by
            have hc : cntE l 2 1 most = 0 := by unfold cntE; rw [if_neg h1, if_neg h2, if_neg h3]
            unfold rdBlob; rw [if_neg (by simp), hc, if_neg (by decide)]
          have k1 : (0 : Int) = 0 ∧ decB (l.take 2) ≤ (l.drop 2).length := by rw [List.length_drop]; omega
          have k2 : ¬ ((0 : Int) = 0 ∧ ¬ decB (l.take 2) ≤ (l.drop 2).length) := by rw [List.length_drop]; omega
          rw [hb, if_neg h2, if_neg h2, if_neg h2, tkQ, tkE, tkL, if_pos k1, if_neg k2, if_pos k1, List.drop_drop]
          simp [clr]
  · have hb : rdBlob l e most = ([], l, e) := by unfold rdBlob; rw [if_pos he]
    have hQ : tkQ l e 2 = [] := by unfold tkQ; rw [if_neg (by simp [he])]
    have hE : tkE l e 2 = e := by unfold tkE; rw [if_neg (by simp [he])]
    have hL : tkL l e 2 = l := by unfold tkL; rw [if_neg (by simp [he])]
    rw [hb, hQ, hE, hL, if_neg (by simp [decB]; omega), if_neg (by simp [decB]; omega), if_neg (by simp [decB]; omega)]
    simp [decB, tkQ, tkE, clr, he]

set_option maxRecDepth 10000 in
set_option maxHeartbeats 1000000 in
theorem RfBlob_any (h B : Nat) (l : List UInt8) (e most : Int) (w : World) (H : Ref w h B (clr l e) e) :
    Calls Tryd.prog 30 #[.pointer (some ⟨h, 0, none⟩), .int .i64 most] w fun r w' =>
      OutB w h B (rdBlob l e most).1 r w' ∧ Ref w' h B (clr (rdBlob l e most).2.1 (rdBlob l e most).2.2) (rdBlob l e most).2.2 := by
  obtain ⟨t1, t2, t3⟩ := rdBlob_tk l e most
  rw [t1, t3, t2]
  have hN := fun W (K : Ref W h B (clr l e) e) => RfNum_any h B l e 2 W K
  simp only [rdNum_tk, fitW_2] at hN
  have H0 := Lib.hid H
  obtain ⟨D, hD⟩ : ∃ D, D = decB (tkQ l e 2) := ⟨_, rfl⟩
  have hDb : D < 72057594037927936 := by
    have h1 := decB_lt (tkQ l e 2)
    have h2 : (256 : Nat) ^ (tkQ l e 2).length ≤ 256 ^ 7 := Nat.pow_le_pow_right (by decide) (by have := tkQ_le l e 2; omega)
    omega
  simp only [← hD] at hN ⊢
  obtain ⟨l1, hl1⟩ : ∃ l1, l1 = tkL l e 2 := ⟨_, rfl⟩
  obtain ⟨e1, he1⟩ : ∃ e1, e1 = tkE l e 2 := ⟨_, rfl⟩
  simp only [← hl1, ← he1] at hN ⊢
  have HN := Lib.hid hN
  clear hN hD hl1 he1 H t1 t2 t3
  by_cases hm : max most 0 < (D : Int)
  · rw [if_pos hm, if_pos hm, if_pos hm]
    go_enter Tryd.func30, Tryd.ntmps30
    go_wp2_with (first
      | (go_at_call 29; refine (HN.out _ H0.out).mono ?_; rintro r w1 ⟨rfl, h1, g1⟩; have H1 := Lib.hid h1; have G1 := Lib.hid g1; clear h1 g1)
      | (go_at_call 49; refine (RefFail_any h B l1 e1 11 _ H1.out).mono ?_; rintro r w2 ⟨rfl, h2, g2⟩; have H2 := Lib.hid h2; have G2 := Lib.hid g2; clear h2 g2))
    all_goals
      go_ret
      exact ⟨⟨none, 0, rfl, Nat.le_refl _, by omega, Rd.nil, grownBy_trans G1.out G2.out⟩, H2.out⟩
  · rw [if_neg hm, if_neg hm, if_neg hm]
    have htk := fun W (K : Ref W h B (clr l1 e1) e1) => take_any h B l1 e1 D W K
    have Htk := Lib.hid htk
    clear htk
    go_enter Tryd.func30, Tryd.ntmps30
    go_wp2_with (first
      | (go_at_call 29; refine (HN.out _ H0.out).mono ?_; rintro r w1 ⟨rfl, h1, g1⟩; have H1 := Lib.hid h1; have G1 := Lib.hid g1; clear h1 g1)
      | (go_at_call 47; refine (Htk.out _ H1.out).mono ?_; rintro r w2 ⟨⟨A, c, rfl, hqc, hcm, hr2, hg2⟩, h2⟩; have H2 := Lib.hid h2; have G2 := Lib.hid hg2; have R2 := Lib.hid hr2; clear h2 hg2 hr2))
    all_goals
      go_ret
      exact ⟨⟨A, c, rfl, hqc, hcm, R2.out, grownBy_trans G1.out G2.out⟩, H2.out⟩

set_option maxRecDepth 10000 in
set_option maxHeartbeats 1000000 in
theorem RfEnd_any (h B : Nat) (l : List UInt8) (e : Int) (w : World) (H : Ref w h B (clr l e) e) :
    Calls Tryd.prog 31 #[.pointer (some ⟨h, 0, none⟩)] w fun r w' => r = .returned (.int .i64 (endE e l.length)) ∧ Ref w' h B (clr l (endE e l.length)) (endE e l.length) ∧ w.grownBy w' (some h) := by
  have HH := Lib.hid H
  obtain ⟨A, n, c, hx⟩ := H
  have h0 := hx.cell0
  have h1 := hx.cell1
  have hl := hx.2.2.2.1.1
  clear hx
  by_cases hn : 0 < n
  · have he : e = 0 := by
      apply Classical.byContradiction
      intro k
      rw [clr_n l k] at hl
      simp at hl
      omega
    subst he
    rw [clr_0] at hl
    have hE : endE 0 l.length = 11 := by unfold endE; rw [if_pos ⟨rfl, by omega⟩]
    rw [hE]
    clear hE hl
    go_enter Tryd.func31, Tryd.ntmps31
    go_wp2_with (go_at_call 49; refine (RefFail_any h B l 0 11 _ HH.out).mono ?_; rintro r w2 ⟨rfl, h2, g2⟩; rw [failE_0] at h2; have k2 := h2; obtain ⟨A2, n2, c2, x2⟩ := k2; have k1 := x2.cell1; have H2 := Lib.hid h2; have G2 := Lib.hid g2; clear h2 g2 x2)
    go_ret
    exact ⟨rfl, H2.out, G2.out⟩
  · obtain rfl : n = 0 := by omega
    have hE : endE e l.length = e := by
      by_cases he : e = 0
      · subst he
        rw [clr_0] at hl
        simp [endE, hl]
      · simp [endE, he]
    rw [hE]
    clear hE hl
    go_enter Tryd.func31, Tryd.ntmps31
    go_wp2
    go_ret
    exact ⟨rfl, HH.out, World.grownBy.refl _ _⟩
end Go.Proofs.YtfabcmohaikfoaaDoor
