/- Package head: unpackHead, Unpack. Contracts of package head, in the forms of HdV, over the landed code. awake of layer 6 answers true, and changes nothing that was there. -/
import Derived.Test.YtaobdebeglenaaaMj

namespace Go.Proofs.Ytaobdebeglenaaa
open Go.RowKit

/-- the head's block, the result's, beside a reader's -/
structure At7 (W w : World) (Z R H : Nat) (v0 v1 v2 v3 v4 v5 v6 v7 : Value) : Prop where
  hd : w.heap[H]? = some (.cells #[v0, v1, v2, v3, v4, v5, v6, v7] 27 (0, 0))
  rs : w.heap[Z]? = some (.cells #[.int .i64 0, .int .i64 0, .int .i64 0, .int .i64 0, .slice none 0 0, .slice none 0 0, .int .i64 0, .int .i64 0] 27 (0, 0))
  gr : W.grownBy w (some R)
  zH : Z ≠ H
  zR : Z ≠ R
  hR : H ≠ R
  z0 : W.heap.size ≤ Z
  h0 : W.heap.size ≤ H
theorem At7.gb {W w w' : World} {Z R H : Nat} {v0 v1 v2 v3 v4 v5 v6 v7 : Value} (h : At7 W w Z R H v0 v1 v2 v3 v4 v5 v6 v7) (hg : w.grownBy w' (some R)) : At7 W w' Z R H v0 v1 v2 v3 v4 v5 v6 v7 :=
  { h with hd := gb_keep hg h.hR h.hd, rs := gb_keep hg h.zR h.rs, gr := grownBy_trans h.gr hg }
theorem At7.set0 {W w : World} {Z R H : Nat} {v0 v1 v2 v3 v4 v5 v6 v7 : Value} (h : At7 W w Z R H v0 v1 v2 v3 v4 v5 v6 v7) (u : Value) : At7 W (w.setCell ⟨H, 0, none⟩ u) Z R H u v1 v2 v3 v4 v5 v6 v7 :=
  { h with hd := set_blk h.hd 0 u, rs := (Below.heap_setCell w ⟨H, 0, none⟩ u Z h.zH).trans h.rs, gr := gb_new h.gr ⟨H, 0, none⟩ h.h0 u }
theorem At7.set1 {W w : World} {Z R H : Nat} {v0 v1 v2 v3 v4 v5 v6 v7 : Value} (h : At7 W w Z R H v0 v1 v2 v3 v4 v5 v6 v7) (u : Value) : At7 W (w.setCell ⟨H, 1, none⟩ u) Z R H v0 u v2 v3 v4 v5 v6 v7 :=
  { h with hd := set_blk h.hd 1 u, rs := (Below.heap_setCell w ⟨H, 1, none⟩ u Z h.zH).trans h.rs, gr := gb_new h.gr ⟨H, 1, none⟩ h.h0 u }
theorem At7.set2 {W w : World} {Z R H : Nat} {v0 v1 v2 v3 v4 v5 v6 v7 : Value} (h : At7 W w Z R H v0 v1 v2 v3 v4 v5 v6 v7) (u : Value) : At7 W (w.setCell ⟨H, 2, none⟩ u) Z R H v0 v1 u v3 v4 v5 v6 v7 :=
  { h with hd := set_blk h.hd 2 u, rs := (Below.heap_setCell w ⟨H, 2, none⟩ u Z h.zH).trans h.rs, gr := gb_new h.gr ⟨H, 2, none⟩ h.h0 u }
theorem At7.set3 {W w : World} {Z R H : Nat} {v0 v1 v2 v3 v4 v5 v6 v7 : Value} (h : At7 W w Z R H v0 v1 v2 v3 v4 v5 v6 v7) (u : Value) : At7 W (w.setCell ⟨H, 3, none⟩ u) Z R H v0 v1 v2 u v4 v5 v6 v7 :=
  { h with hd := set_blk h.hd 3 u, rs := (Below.heap_setCell w ⟨H, 3, none⟩ u Z h.zH).trans h.rs, gr := gb_new h.gr ⟨H, 3, none⟩ h.h0 u }
theorem At7.set4 {W w : World} {Z R H : Nat} {v0 v1 v2 v3 v4 v5 v6 v7 : Value} (h : At7 W w Z R H v0 v1 v2 v3 v4 v5 v6 v7) (u : Value) : At7 W (w.setCell ⟨H, 4, none⟩ u) Z R H v0 v1 v2 v3 u v5 v6 v7 :=
  { h with hd := set_blk h.hd 4 u, rs := (Below.heap_setCell w ⟨H, 4, none⟩ u Z h.zH).trans h.rs, gr := gb_new h.gr ⟨H, 4, none⟩ h.h0 u }
theorem At7.set5 {W w : World} {Z R H : Nat} {v0 v1 v2 v3 v4 v5 v6 v7 : Value} (h : At7 W w Z R H v0 v1 v2 v3 v4 v5 v6 v7) (u : Value) : At7 W (w.setCell ⟨H, 5, none⟩ u) Z R H v0 v1 v2 v3 v4 u v6 v7 :=
  { h with hd := set_blk h.hd 5 u, rs := (Below.heap_setCell w ⟨H, 5, none⟩ u Z h.zH).trans h.rs, gr := gb_new h.gr ⟨H, 5, none⟩ h.h0 u }
theorem At7.set6 {W w : World} {Z R H : Nat} {v0 v1 v2 v3 v4 v5 v6 v7 : Value} (h : At7 W w Z R H v0 v1 v2 v3 v4 v5 v6 v7) (u : Value) : At7 W (w.setCell ⟨H, 6, none⟩ u) Z R H v0 v1 v2 v3 v4 v5 u v7 :=
  { h with hd := set_blk h.hd 6 u, rs := (Below.heap_setCell w ⟨H, 6, none⟩ u Z h.zH).trans h.rs, gr := gb_new h.gr ⟨H, 6, none⟩ h.h0 u }
theorem At7.set7 {W w : World} {Z R H : Nat} {v0 v1 v2 v3 v4 v5 v6 v7 : Value} (h : At7 W w Z R H v0 v1 v2 v3 v4 v5 v6 v7) (u : Value) : At7 W (w.setCell ⟨H, 7, none⟩ u) Z R H v0 v1 v2 v3 v4 v5 v6 u :=
  { h with hd := set_blk h.hd 7 u, rs := (Below.heap_setCell w ⟨H, 7, none⟩ u Z h.zH).trans h.rs, gr := gb_new h.gr ⟨H, 7, none⟩ h.h0 u }

set_option maxRecDepth 10000 in
/-- what unpackHead tells -/
def UhP (w : World) (R : Nat) (b : List UInt8) (r : Ending) (w' : World) : Prop :=
  ∃ A4 n4 c4 A5 n5 c5 vs, r = .returned (hV (unHd b).u (unHd b).c (unHd b).o (unHd b).size A4 n4 c4 A5 n5 c5 (unHd b).last (unHd b).seq) ∧ Hid (MapAt w' w.heap.size A4 n4 (unHd b).map) ∧ Hid (n5 ≤ c5 ∧ c5 ≤ 9223372036854775807) ∧ Hid (w'.ownsRow w.heap.size 52 3 (.slice A5 n5 c5) n5 (flatN vs)) ∧
    Hid (vs.length = n5 ∧ n5 ≤ 4 ∧ vs.map Sv.s = (unP b).1) ∧ Hid (SvsAt w' w.heap.size vs) ∧ Hid (PRef w' R (unP b).2) ∧ Hid (w.grownBy w' (some R))
set_option maxRecDepth 10000 in
set_option maxHeartbeats 8000000 in
theorem unpackHead6 (R : Nat) (b : List UInt8) (w : World) (h : PRef w R (b, 0)) : Calls Try.prog 41 #[rNum R, rBlob R, rFail R] w (UhP w R b) := by
  obtain ⟨s1, e1⟩ : ∃ s, s = hS (b, 0) 1 := ⟨_, rfl⟩
  obtain ⟨s2, e2⟩ : ∃ s, s = hS s1 1 := ⟨_, rfl⟩
  obtain ⟨s3, e3⟩ : ∃ s, s = hS s2 1 := ⟨_, rfl⟩
  obtain ⟨s4, e4⟩ : ∃ s, s = hS s3 1 := ⟨_, rfl⟩
  obtain ⟨s5, e5⟩ : ∃ s, s = hS s4 2 := ⟨_, rfl⟩
  obtain ⟨s6, e6⟩ : ∃ s, s = hS s5 6 := ⟨_, rfl⟩
  obtain ⟨s7', e7⟩ : ∃ s, s = tS s6 := ⟨_, rfl⟩
  obtain ⟨x0, f0⟩ : ∃ x, x = hN (b, 0) 1 := ⟨_, rfl⟩
  obtain ⟨x1, f1⟩ : ∃ x, x = hN s1 1 := ⟨_, rfl⟩
  obtain ⟨x2, f2⟩ : ∃ x, x = hN s2 1 := ⟨_, rfl⟩
  obtain ⟨x6, f6⟩ : ∃ x, x = hN s3 1 := ⟨_, rfl⟩
  obtain ⟨x3, f3⟩ : ∃ x, x = hN s4 2 := ⟨_, rfl⟩
  obtain ⟨x7, f7⟩ : ∃ x, x = hN s5 6 := ⟨_, rfl⟩
  obtain ⟨mp, f4⟩ : ∃ x, x = tM s6 := ⟨_, rfl⟩
  have Hhd : Hid (unHd b = ⟨x0, x1, x2, x3, mp, (unG b).1, x6, x7⟩) := by
    subst f0 f1 f2 f3 f4 f6 f7 e1 e2 e3 e4 e5 e6; rfl
  have Hun : Hid (unP b = snQ s7') := by
    subst e1 e2 e3 e4 e5 e6 e7; rfl
  have hC0 := Lib.hid (fun (w1 : World) (h : PRef w1 R (b, 0)) => PNum6 R (b, 0) 1 w1 h)
  have hC1 := Lib.hid (fun (w1 : World) (h : PRef w1 R s1) => PNum6 R s1 1 w1 h)
  have hC2 := Lib.hid (fun (w1 : World) (h : PRef w1 R s2) => PNum6 R s2 1 w1 h)
  have hC3 := Lib.hid (fun (w1 : World) (h : PRef w1 R s3) => PNum6 R s3 1 w1 h)
  have hC4 := Lib.hid (fun (w1 : World) (h : PRef w1 R s4) => PNum6 R s4 2 w1 h)
  have hC5 := Lib.hid (fun (w1 : World) (h : PRef w1 R s5) => PNum6 R s5 6 w1 h)
  have hC6 := Lib.hid (fun (w1 : World) (h : PRef w1 R s6) => PTab6 R s6 w1 h)
  rw [← e1, ← f0] at hC0
  rw [← e2, ← f1] at hC1
  rw [← e3, ← f2] at hC2
  rw [← e4, ← f6] at hC3
  rw [← e5, ← f3] at hC4
  rw [← e6, ← f7] at hC5
  rw [← e7, ← f4] at hC6
  have HRw := Lib.hid (show R < w.heap.size from lt_of_block h.blk.choose_spec)
  have H0 := Lib.hid h
  clear h e1 e2 e3 e4 e5 e6 e7 f0 f1 f2 f3 f4 f6 f7
  have Hb := Lib.hid (((Below.refl w.heap.size w).alloc (Nat.le_refl _) (.cells #[.int .i64 0, .int .i64 0, .int .i64 0, .int .i64 0, .slice none 0 0, .slice none 0 0, .int .i64 0, .int .i64 0] 27)).alloc (by simp) (.cells #[.int .i64 0, .int .i64 0, .int .i64 0, .int .i64 0, .slice none 0 0, .slice none 0 0, .int .i64 0, .int .i64 0] 27))
  have Hz := Lib.hid (show ((w.alloc (.cells #[.int .i64 0, .int .i64 0, .int .i64 0, .int .i64 0, .slice none 0 0, .slice none 0 0, .int .i64 0, .int .i64 0] 27)).alloc (.cells #[.int .i64 0, .int .i64 0, .int .i64 0, .int .i64 0, .slice none 0 0, .slice none 0 0, .int .i64 0, .int .i64 0] 27)).heap[w.heap.size]? = some (.cells #[.int .i64 0, .int .i64 0, .int .i64 0, .int .i64 0, .slice none 0 0, .slice none 0 0, .int .i64 0, .int .i64 0] 27 (0, 0)) from by
    rw [Below.heap_alloc _ _ _ (by simp)]; exact heap_alloc_new w _)
  have Hh := Lib.hid (heap_alloc_new (w.alloc (.cells #[.int .i64 0, .int .i64 0, .int .i64 0, .int .i64 0, .slice none 0 0, .slice none 0 0, .int .i64 0, .int .i64 0] 27)) (.cells #[.int .i64 0, .int .i64 0, .int .i64 0, .int .i64 0, .slice none 0 0, .slice none 0 0, .int .i64 0, .int .i64 0] 27))
  go_enter Try.func41, Try.ntmps41
  go_upto_region 2 with fail
  generalize (w.alloc (.cells #[.int .i64 0, .int .i64 0, .int .i64 0, .int .i64 0, .slice none 0 0, .slice none 0 0, .int .i64 0, .int .i64 0] 27)).alloc (.cells #[.int .i64 0, .int .i64 0, .int .i64 0, .int .i64 0, .slice none 0 0, .slice none 0 0, .int .i64 0, .int .i64 0] 27) = w1 at Hb Hh Hz ⊢
  replace Hh := Lib.hid (show w1.heap[w.heap.size + 1]? = some (.cells #[.int .i64 0, .int .i64 0, .int .i64 0, .int .i64 0, .slice none 0 0, .slice none 0 0, .int .i64 0, .int .i64 0] 27 (0, 0)) by have h := Hh.out; simpa using h)
  obtain ⟨Z, hZ⟩ : ∃ Z, Z = w.heap.size := ⟨_, rfl⟩
  obtain ⟨H, hH⟩ : ∃ H, H = w.heap.size + 1 := ⟨_, rfl⟩
  rw [← hH] at Hh ⊢
  rw [← hZ] at Hz ⊢
  have HA : Hid (At7 w w1 Z R H (.int .i64 0) (.int .i64 0) (.int .i64 0) (.int .i64 0) (.slice none 0 0) (.slice none 0 0) (.int .i64 0) (.int .i64 0)) := ⟨Hh.out, Hz.out, grownBy_below Hb.out (some R), by omega, by have := HRw.out; omega, by have := HRw.out; omega, by omega, by omega⟩
  have HR := Lib.hid (H0.out.to Hb.out)
  clear hZ hH Hb Hz Hh H0
  go_wp2_with fail
  refine (hC0.out _ HR.out).mono ?_
  rintro r wa ⟨rfl, hr, hg⟩
  have HA0 := Lib.hid (HA.out.gb hg)
  have HR0 := Lib.hid hr
  have k0 := (heads_of HA0.out.hd).1
  have y0 := free_blk HA0.out.hd 0
  clear HA HR hr hg hC0
  go_upto_region 3 with fail
  have HA := Lib.hid (HA0.out.set0 (.int .i64 x0))
  have HR := Lib.hid (HR0.out.far ⟨H, 0, none⟩ (by have := HA0.out.h0; have := HRw.out; show R < H; omega) (.int .i64 x0))
  clear k0 y0 HA0 HR0
  generalize wa.setCell ⟨H, 0, none⟩ (.int .i64 x0) = w2 at HA HR ⊢
  go_wp2_with fail
  refine (hC1.out _ HR.out).mono ?_
  rintro r wa ⟨rfl, hr, hg⟩
  have HA1 := Lib.hid (HA.out.gb hg)
  have HR1 := Lib.hid hr
  have k1 := (heads_of HA1.out.hd).2.1
  have y1 := free_blk HA1.out.hd 1
  clear HA HR hr hg hC1
  go_upto_region 4 with fail
  have HA := Lib.hid (HA1.out.set1 (.int .i64 x1))
  have HR := Lib.hid (HR1.out.far ⟨H, 1, none⟩ (by have := HA1.out.h0; have := HRw.out; show R < H; omega) (.int .i64 x1))
  clear k1 y1 HA1 HR1
  generalize wa.setCell ⟨H, 1, none⟩ (.int .i64 x1) = w3 at HA HR ⊢
  go_wp2_with fail
  refine (hC2.out _ HR.out).mono ?_
  rintro r wa ⟨rfl, hr, hg⟩
  have HA2 := Lib.hid (HA.out.gb hg)
  have HR2 := Lib.hid hr
  have k2 := (heads_of HA2.out.hd).2.2.1
  have y2 := free_blk HA2.out.hd 2
  clear HA HR hr hg hC2
  go_upto_region 5 with fail
  have HA := Lib.hid (HA2.out.set2 (.int .i64 x2))
  have HR := Lib.hid (HR2.out.far ⟨H, 2, none⟩ (by have := HA2.out.h0; have := HRw.out; show R < H; omega) (.int .i64 x2))
  clear k2 y2 HA2 HR2
  generalize wa.setCell ⟨H, 2, none⟩ (.int .i64 x2) = w4 at HA HR ⊢
  go_wp2_with fail
  refine (hC3.out _ HR.out).mono ?_
  rintro r wa ⟨rfl, hr, hg⟩
  have HA3 := Lib.hid (HA.out.gb hg)
  have HR3 := Lib.hid hr
  have k3 := (heads_of HA3.out.hd).2.2.2.2.2.2.1
  have y3 := free_blk HA3.out.hd 6
  clear HA HR hr hg hC3
  go_upto_region 6 with fail
  have HA := Lib.hid (HA3.out.set6 (.int .i64 x6))
  have HR := Lib.hid (HR3.out.far ⟨H, 6, none⟩ (by have := HA3.out.h0; have := HRw.out; show R < H; omega) (.int .i64 x6))
  clear k3 y3 HA3 HR3
  generalize wa.setCell ⟨H, 6, none⟩ (.int .i64 x6) = w5 at HA HR ⊢
  go_wp2_with fail
  refine (hC4.out _ HR.out).mono ?_
  rintro r wa ⟨rfl, hr, hg⟩
  have HA4 := Lib.hid (HA.out.gb hg)
  have HR4 := Lib.hid hr
  have k4 := (heads_of HA4.out.hd).2.2.2.1
  have y4 := free_blk HA4.out.hd 3
  clear HA HR hr hg hC4
  go_upto_region 7 with fail
  have HA := Lib.hid (HA4.out.set3 (.int .i64 x3))
  have HR := Lib.hid (HR4.out.far ⟨H, 3, none⟩ (by have := HA4.out.h0; have := HRw.out; show R < H; omega) (.int .i64 x3))
  clear k4 y4 HA4 HR4
  generalize wa.setCell ⟨H, 3, none⟩ (.int .i64 x3) = w6 at HA HR ⊢
  go_wp2_with fail
  refine (hC5.out _ HR.out).mono ?_
  rintro r wa ⟨rfl, hr, hg⟩
  have HA5 := Lib.hid (HA.out.gb hg)
  have HR5 := Lib.hid hr
  have k5 := (heads_of HA5.out.hd).2.2.2.2.2.2.2
  have y5 := free_blk HA5.out.hd 7
  clear HA HR hr hg hC5
  go_upto_region 8 with fail
  have HA := Lib.hid (HA5.out.set7 (.int .i64 x7))
  have HR := Lib.hid (HR5.out.far ⟨H, 7, none⟩ (by have := HA5.out.h0; have := HRw.out; show R < H; omega) (.int .i64 x7))
  clear k5 y5 HA5 HR5
  generalize wa.setCell ⟨H, 7, none⟩ (.int .i64 x7) = w7 at HA HR ⊢
  go_wp2_with fail
  refine (hC6.out _ HR.out).mono ?_
  rintro r wa ⟨A4, n4, c4, rfl, hm, hr, hg⟩
  have HA6 := Lib.hid (HA.out.gb hg.out)
  have HR6 := hr
  have HM6 := Lib.hid (hm.out.less HA.out.gr.size)
  have k6 := (heads_of HA6.out.hd).2.2.2.2.1
  have y6 := free_blk HA6.out.hd 4
  clear HA HR hr hg hC6 hm
  go_upto_region 9 with fail
  have HA := Lib.hid (HA6.out.set4 (.slice A4 n4 c4))
  have HR := Lib.hid (HR6.out.far ⟨H, 4, none⟩ (by have := HA6.out.h0; have := HRw.out; show R < H; omega) (.slice A4 n4 c4))
  have HM := Lib.hid (HM6.out.gb (grown_set wa H 4 (.slice A4 n4 c4)) HA6.out.hd (by decide))
  clear k6 y6 HA6 HR6 HM6
  generalize wa.setCell ⟨H, 4, none⟩ (.slice A4 n4 c4) = w8 at HA HR HM ⊢
  have HS := Lib.hid (snaps6 R s7' w8 HR.out)
  rw [← Hun.out] at HS
  go_wp2_with fail
  refine HS.out.mono ?_
  rintro r wb ⟨A5, n5, c5, vs, rfl, K5, HO5, HV5, HX5, hr, hg⟩
  obtain ⟨csR, hcsR⟩ := HR.out.blk
  have Hs8 := Lib.hid HA.out.gr.size
  have HM9 := Lib.hid (HM.out.gb hg.out hcsR (by decide))
  have HA9 := Lib.hid (HA.out.gb hg.out)
  have HR9 := hr
  have HO9 := Lib.hid (own_less HO5.out Hs8.out)
  have HX9 : Hid (SvsAt wb w.heap.size vs) := fun p hp => (HX5.out p hp).less Hs8.out
  have k9 := (heads_of HA9.out.hd).2.2.2.2.2.1
  have y9 := free_blk HA9.out.hd 5
  clear HA HR HM HS HO5 HX5 hr hg hcsR Hs8
  go_upto_region 10 with fail
  have HG := Lib.hid (grown_set wb H 5 (.slice A5 n5 c5))
  have HM := Lib.hid (HM9.out.gb HG.out HA9.out.hd (by decide))
  have HX := Lib.hid (HX9.out.gb HG.out HA9.out.hd (by decide))
  have HO := Lib.hid (own_setb HO9.out HA9.out.hd (by decide) 5 (.slice A5 n5 c5))
  have HR := Lib.hid (HR9.out.far ⟨H, 5, none⟩ (by have := HA9.out.h0; have := HRw.out; show R < H; omega) (.slice A5 n5 c5))
  have HA := Lib.hid (HA9.out.set5 (.slice A5 n5 c5))
  clear k9 y9 HA9 HR9 HM9 HO9 HX9 HG
  generalize wb.setCell ⟨H, 5, none⟩ (.slice A5 n5 c5) = wc at HA HR HM HO HX ⊢
  obtain ⟨c0, c1, c2, c3, c4', c5', c6, c7⟩ := heads_of HA.out.hd
  obtain ⟨z0, z1, z2, z3, z4, z5, z6, z7⟩ := heads_of HA.out.rs
  have y0 := free_blk HA.out.rs 0
  have y1 := free_blk HA.out.rs 1
  have y2 := free_blk HA.out.rs 2
  have y3 := free_blk HA.out.rs 3
  have y4 := free_blk HA.out.rs 4
  have y5 := free_blk HA.out.rs 5
  have y6 := free_blk HA.out.rs 6
  have y7 := free_blk HA.out.rs 7
  have P8 := Lib.hid (put8_at HA.out.rs (.int .i64 x0) (.int .i64 x1) (.int .i64 x2) (.int .i64 x3) (.slice A4 n4 c4) (.slice A5 n5 c5) (.int .i64 x6) (.int .i64 x7))
  have G8 := Lib.hid (put8_grown wc Z (.int .i64 x0) (.int .i64 x1) (.int .i64 x2) (.int .i64 x3) (.slice A4 n4 c4) (.slice A5 n5 c5) (.int .i64 x6) (.int .i64 x7))
  have M8 := Lib.hid (HM.out.gb G8.out HA.out.rs (by decide))
  have X8 := Lib.hid (HX.out.gb G8.out HA.out.rs (by decide))
  have O8 := Lib.hid (own_gb HO.out G8.out HA.out.rs (by decide))
  have R8 := Lib.hid (HR.out.grown G8.out (by have := HA.out.z0; have := HRw.out; omega))
  have GG : Hid (w.grownBy (put8 wc Z (.int .i64 x0) (.int .i64 x1) (.int .i64 x2) (.int .i64 x3) (.slice A4 n4 c4) (.slice A5 n5 c5) (.int .i64 x6) (.int .i64 x7)) (some R)) := by
    have hz := HA.out.z0
    exact gb_new (gb_new (gb_new (gb_new (gb_new (gb_new (gb_new (gb_new HA.out.gr ⟨Z, 0, none⟩ hz _) ⟨Z, 1, none⟩ hz _) ⟨Z, 2, none⟩ hz _) ⟨Z, 3, none⟩ hz _) ⟨Z, 4, none⟩ hz _) ⟨Z, 5, none⟩ hz _) ⟨Z, 6, none⟩ hz _) ⟨Z, 7, none⟩ hz _
  have hne : Z ≠ H := HA.out.zH
  go_wp2_with fail
  clear c0 c1 c2 c3 c4' c5' c6 c7 z0 z1 z2 z3 z4 z5 z6 z7 y0 y1 y2 y3 y4 y5 y6 y7
  change bodyPost _ _ _ _ _ (put8 wc Z (.int .i64 x0) (.int .i64 x1) (.int .i64 x2) (.int .i64 x3) (.slice A4 n4 c4) (.slice A5 n5 c5) (.int .i64 x6) (.int .i64 x7))
  generalize put8 wc Z (.int .i64 x0) (.int .i64 x1) (.int .i64 x2) (.int .i64 x3) (.slice A4 n4 c4) (.slice A5 n5 c5) (.int .i64 x6) (.int .i64 x7) = wz at P8 G8 M8 X8 O8 R8 GG ⊢
  obtain ⟨z0, z1, z2, z3, z4, z5, z6, z7⟩ := heads_of P8.out
  exact bodyPost_ret (v := hV x0 x1 x2 x3 A4 n4 c4 A5 n5 c5 x6 x7) (by simp [results, Try.results41, go_sem, z0, z1, z2, z3, z4, z5, z6, z7]) rfl ⟨A4, n4, c4, A5, n5, c5, vs, by rw [Hhd.out], by rw [Hhd.out]; exact M8, K5, O8, HV5, X8, R8, GG⟩

theorem goQ_short : ∀ (k : Nat) (s : List UInt8 × Int) (a : List Sn), (∀ q ∈ a, q.map.length ≤ 512) → ∀ q ∈ (goQ k s a).1, q.map.length ≤ 512
  | 0, _, _, h => h
  | k + 1, s, a, h => by
    unfold goQ
    refine goQ_short k _ _ fun q hq => ?_
    rcases List.mem_append.1 hq with hq | hq
    · exact h q hq
    · simp at hq; subst hq; exact tM_len _
theorem unP_short (b : List UInt8) : ∀ q ∈ (unP b).1, q.map.length ≤ 512 := by
  unfold unP
  split
  · intro q hq; simp at hq
  · exact goQ_short _ _ _ fun q hq => by simp at hq
theorem unHd_map (b : List UInt8) : (unHd b).map.length ≤ 512 := tM_len _
theorem endE_0 {e : Int} {n : Nat} (h : endE e n = 0) : e = 0 := by
  unfold endE at h
  split at h
  · cases h
  · exact h
def UnQ (w : World) (g : Hd) (E : Int) (e : Ending) (w' : World) : Prop :=
  ∃ U C O sz Am nm cm As ns cs last seq, e = .returned (.tuple #[hV U C O sz Am nm cm As ns cs last seq, .int .i64 E]) ∧ Hid (HVl w' g U C O sz Am nm As ns last seq) ∧ Hid (ns ≤ cs ∧ cs ≤ 9223372036854775807) ∧ Hid (Below w.heap.size w w')
set_option maxRecDepth 10000 in
set_option maxHeartbeats 8000000 in
theorem Unpack6 (A : Option Addr) (n c : Nat) (b : List UInt8) (w : World) (hr : Hid (BAt w A n c b)) : HF 21 #[.slice A n c] w (unX b) (unE b) := by
  have HE := Lib.hid (show unE b = if unE0 b ≠ 0 then unE0 b else if MayH (unHd b) then 0 else 60 from rfl)
  have HE0 := Lib.hid (show unE0 b = endE (unG b).2.2 (unG b).2.1.length from rfl)
  have HU := Lib.hid (unP_unG b)
  have Hz := Lib.hid (heap_alloc_new w (.cells #[.int .i64 0, .int .i64 0, .int .i64 0, .int .i64 0, .slice none 0 0, .slice none 0 0, .int .i64 0, .int .i64 0] 27))
  have Hb := alB6 w (.cells #[.int .i64 0, .int .i64 0, .int .i64 0, .int .i64 0, .slice none 0 0, .slice none 0 0, .int .i64 0, .int .i64 0] 27)
  show Calls _ _ _ _ (UnQ w _ _)
  go_enter Try.func21, Try.ntmps21
  go_upto_region 1 with fail
  generalize w.alloc (.cells #[.int .i64 0, .int .i64 0, .int .i64 0, .int .i64 0, .slice none 0 0, .slice none 0 0, .int .i64 0, .int .i64 0] 27) = w1 at Hz Hb ⊢
  obtain ⟨Z, hZ⟩ : ∃ Z, Z = w.heap.size := ⟨_, rfl⟩
  have HZ := Lib.hid (show w.heap.size ≤ Z by omega)
  rw [← hZ] at Hz ⊢
  clear hZ
  have HRd := Lib.hid (Read_any A n c b w1 ((hr.out.1.below Hb.out).more Hb.out.size) (by have := hr.out.2.2.2; omega))
  go_wp2_with fail
  refine HRd.out.mono ?_
  rintro r w2 ⟨R, rfl, hR, hR0, hb⟩
  have HR := Lib.hid (show PRef w2 R (b, 0) from hR)
  have HRz := Lib.hid (show Z ≠ R ∧ w.heap.size ≤ R by have h1 := lt_of_block Hz.out; have := Hb.out.size; omega)
  replace Hz := Lib.hid ((hb.block Z (lt_of_block Hz.out)).trans Hz.out)
  replace Hb := Lib.hid (Hb.out.trans (hb.mono Hb.out.size))
  clear hR hR0 hb HRd
  have HUh := Lib.hid (unpackHead6 R b w2 HR.out)
  go_wp2_with fail
  refine HUh.out.mono ?_
  rintro r w3 ⟨A4, n4, c4, A5, n5, c5, vs, rfl, HM, K, HO, HV, HX, HR3, hg⟩
  replace Hz := Lib.hid (gb_keep hg.out HRz.out.1 Hz.out)
  replace Hb := Lib.hid (Hb.out.grown hg.out Hb.out.size (fun q e => by cases e; exact HRz.out.2))
  clear hg HUh HR
  obtain ⟨gu, q0⟩ : ∃ x, x = (unHd b).u := ⟨_, rfl⟩
  obtain ⟨gc, q1⟩ : ∃ x, x = (unHd b).c := ⟨_, rfl⟩
  obtain ⟨go, q2⟩ : ∃ x, x = (unHd b).o := ⟨_, rfl⟩
  obtain ⟨gz, q3⟩ : ∃ x, x = (unHd b).size := ⟨_, rfl⟩
  obtain ⟨gl, q6⟩ : ∃ x, x = (unHd b).last := ⟨_, rfl⟩
  obtain ⟨gs, q7⟩ : ∃ x, x = (unHd b).seq := ⟨_, rfl⟩
  have Hhd := Lib.hid (show unHd b = ⟨gu, gc, go, gz, (unHd b).map, (unG b).1, gl, gs⟩ by rw [q0, q1, q2, q3, q6, q7]; rfl)
  rw [← q0, ← q1, ← q2, ← q3, ← q6, ← q7]
  clear q0 q1 q2 q3 q6 q7
  have HRl := Lib.hid (show R < w3.heap.size from lt_of_block HR3.out.blk.choose_spec)
  have Hal := alB6 w3 (.cells #[.int .i64 gu, .int .i64 gc, .int .i64 go, .int .i64 gz, .slice A4 n4 c4, .slice A5 n5 c5, .int .i64 gl, .int .i64 gs] 27)
  have Hnw := Lib.hid (heap_alloc_new w3 (.cells #[.int .i64 gu, .int .i64 gc, .int .i64 go, .int .i64 gz, .slice A4 n4 c4, .slice A5 n5 c5, .int .i64 gl, .int .i64 gs] 27))
  go_upto_region 3 with fail
  replace Hz := blk_keep Hz Hal
  replace Hb := belO6 Hb Hal
  replace HM := Lib.hid (HM.out.to Hal.out)
  replace HO := Lib.hid (own_to HO.out Hal.out)
  replace HX := Lib.hid (HX.out.to Hal.out)
  replace HR3 := Lib.hid (HR3.out.to Hal.out)
  generalize w3.alloc (.cells #[.int .i64 gu, .int .i64 gc, .int .i64 go, .int .i64 gz, .slice A4 n4 c4, .slice A5 n5 c5, .int .i64 gl, .int .i64 gs] 27) = w4 at Hz Hb HM HO HX HR3 Hnw ⊢
  obtain ⟨H, hH⟩ : ∃ H, H = w3.heap.size := ⟨_, rfl⟩
  rw [← hH] at Hnw ⊢
  have HHR := Lib.hid (show H ≠ R by have := HRl.out; omega)
  clear hH Hal
  rw [HU.out.1] at HR3
  go_wp2_with fail
  refine (End_any R _ _ w4 HR3.out).mono ?_
  rintro r w5 ⟨rfl, _, hg⟩
  obtain ⟨csR, hcsR⟩ := HR3.out.blk
  have Hz5 := Lib.hid (gb_keep hg HRz.out.1 Hz.out)
  have Hh5 := Lib.hid (gb_keep hg HHR.out Hnw.out)
  have Hb5 := Lib.hid (Hb.out.grown hg Hb.out.size (fun q e => by cases e; exact HRz.out.2))
  have HM5 := Lib.hid (HM.out.gb hg hcsR (by decide))
  have HX5 := Lib.hid (HX.out.gb hg hcsR (by decide))
  have HO5 := Lib.hid (own_gb HO.out hg hcsR (by decide))
  rw [← HE0.out]
  obtain ⟨E, hE⟩ : ∃ E, E = unE0 b := ⟨_, rfl⟩
  rw [← hE]
  have HE2 := Lib.hid hE
  clear hg hcsR hE HR3 Hz Hb HM HX HO Hnw
  by_cases hE0 : E = 0
  · subst hE0
    have Hg0 := Lib.hid (HU.out.2 (endE_0 (HE0.out.symm.trans HE2.out.symm)))
    have hss : vs.map Sv.s = (unG b).1 := HV.out.2.2.trans Hg0.out
    have Hss := Lib.hid hss
    have He2 := Lib.hid (show unE b = mayE (unHd b) by rw [HE.out, ← HE2.out, if_neg (by simp)]; rfl)
    have HC := Lib.hid (Check6 gu gc go gz A4 n4 c4 A5 n5 c5 gl gs (unHd b).map (vs.map Sv.s) w5 HM5.out.1 (RdN.own HO5.out HV.out.1 HX5.out.sv) (by rw [← HM5.out.1.1]; have := unHd_map b; omega) (by have := HV.out.2.1; omega) (fun q hq => by rw [HV.out.2.2] at hq; have := unP_short b q hq; omega))
    rw [hss, ← Hhd.out, ← He2.out] at HC
    clear hss
    obtain ⟨c0, c1, c2, c3, c4', c5', c6, c7⟩ := heads_of Hh5.out
    go_wp2_with fail
    refine HC.out.mono ?_
    rintro r w6 ⟨rfl, hb⟩
    replace Hz5 := blk_keep Hz5 hb
    replace Hh5 := blk_keep Hh5 hb
    replace Hb5 := belO6 Hb5 hb
    replace HM5 := Lib.hid (HM5.out.to hb.out)
    replace HX5 := Lib.hid (HX5.out.to hb.out)
    replace HO5 := Lib.hid (own_to HO5.out hb.out)
    clear hb HC c0 c1 c2 c3 c4' c5' c6 c7
    by_cases hmay : unE b = 0
    · have Hsh := Lib.hid (unHd_short b (may_of_un hmay))
      have HX0 := Lib.hid (show unX b = ⟨gu, gc, go, gz, (unHd b).map, vs.map Sv.s, gl, gs⟩ by unfold unX; rw [if_pos hmay, Hss.out]; exact Hhd.out)
      have Hm0 := Lib.hid hmay
      rw [hmay]
      clear hmay
      obtain ⟨c0, c1, c2, c3, c4', c5', c6, c7⟩ := heads_of Hh5.out
      obtain ⟨z0, z1, z2, z3, z4, z5, z6, z7⟩ := heads_of Hz5.out
      have y0 := free_blk Hz5.out 0
      have y1 := free_blk Hz5.out 1
      have y2 := free_blk Hz5.out 2
      have y3 := free_blk Hz5.out 3
      have y4 := free_blk Hz5.out 4
      have y5 := free_blk Hz5.out 5
      have y6 := free_blk Hz5.out 6
      have y7 := free_blk Hz5.out 7
      have P8 := Lib.hid (put8_at Hz5.out (.int .i64 gu) (.int .i64 gc) (.int .i64 go) (.int .i64 gz) (.slice A4 n4 c4) (.slice A5 n5 c5) (.int .i64 gl) (.int .i64 gs))
      have B8 := Lib.hid (put8_below Hb5.out HZ.out (.int .i64 gu) (.int .i64 gc) (.int .i64 go) (.int .i64 gz) (.slice A4 n4 c4) (.slice A5 n5 c5) (.int .i64 gl) (.int .i64 gs) (z := Z))
      have G8 := Lib.hid (put8_grown w6 Z (.int .i64 gu) (.int .i64 gc) (.int .i64 go) (.int .i64 gz) (.slice A4 n4 c4) (.slice A5 n5 c5) (.int .i64 gl) (.int .i64 gs))
      have M8 := Lib.hid (HM5.out.gb G8.out Hz5.out (by decide))
      have X8 := Lib.hid (HX5.out.gb G8.out Hz5.out (by decide))
      have O8 := Lib.hid (own_gb HO5.out G8.out Hz5.out (by decide))
      go_wp2_with fail
      clear c0 c1 c2 c3 c4' c5' c6 c7 z0 z1 z2 z3 z4 z5 z6 z7 y0 y1 y2 y3 y4 y5 y6 y7
      change bodyPost _ _ _ _ _ (put8 w6 Z (.int .i64 gu) (.int .i64 gc) (.int .i64 go) (.int .i64 gz) (.slice A4 n4 c4) (.slice A5 n5 c5) (.int .i64 gl) (.int .i64 gs))
      generalize put8 w6 Z (.int .i64 gu) (.int .i64 gc) (.int .i64 go) (.int .i64 gz) (.slice A4 n4 c4) (.slice A5 n5 c5) (.int .i64 gl) (.int .i64 gs) = wz at P8 B8 G8 M8 X8 O8 ⊢
      obtain ⟨z0, z1, z2, z3, z4, z5, z6, z7⟩ := heads_of P8.out
      refine bodyPost_ret (v := .tuple #[hV gu gc go gz A4 n4 c4 A5 n5 c5 gl gs, .int .i64 0]) (by simp [results, Try.results21, go_sem, z0, z1, z2, z3, z4, z5, z6, z7]) rfl ⟨gu, gc, go, gz, A4, n4, c4, A5, n5, c5, gl, gs, by rw [Hm0.out], ?_, K, B8⟩
      rw [HX0.out]
      have hsh := Hsh.out
      refine ⟨rfl, M8.out.1, by rw [← M8.out.1.1]; exact hsh.1, RdN.own O8.out HV.out.1 X8.out.sv, by have := HV.out.2.1; omega, ?_⟩
      intro q hq
      have hq : q ∈ vs.map Sv.s := hq
      rw [HV.out.2.2] at hq
      have := unP_short b q hq
      omega
    · have HX0 := Lib.hid (show unX b = hd0 by unfold unX; rw [if_neg hmay])
      have hbe : (unE b != 0) = true := by simpa using hmay
      obtain ⟨E', hE'⟩ : ∃ E', E' = unE b := ⟨_, rfl⟩
      rw [← hE'] at hbe ⊢
      have HE' := Lib.hid hE'
      have hbe2 : ¬ E' = 0 := by rw [hE']; exact hmay
      clear hE' hmay
      obtain ⟨z0, z1, z2, z3, z4, z5, z6, z7⟩ := heads_of Hz5.out
      have y0 := free_blk Hz5.out 0
      have y1 := free_blk Hz5.out 1
      have y2 := free_blk Hz5.out 2
      have y3 := free_blk Hz5.out 3
      have y4 := free_blk Hz5.out 4
      have y5 := free_blk Hz5.out 5
      have y6 := free_blk Hz5.out 6
      have y7 := free_blk Hz5.out 7
      have P8 := Lib.hid (put8_at Hz5.out (.int .i64 0) (.int .i64 0) (.int .i64 0) (.int .i64 0) (.slice none 0 0) (.slice none 0 0) (.int .i64 0) (.int .i64 0))
      have B8 := Lib.hid (put8_below Hb5.out HZ.out (.int .i64 0) (.int .i64 0) (.int .i64 0) (.int .i64 0) (.slice none 0 0) (.slice none 0 0) (.int .i64 0) (.int .i64 0) (z := Z))
      go_wp2_with fail
      clear z0 z1 z2 z3 z4 z5 z6 z7 y0 y1 y2 y3 y4 y5 y6 y7
      change bodyPost _ _ _ _ _ (put8 w6 Z (.int .i64 0) (.int .i64 0) (.int .i64 0) (.int .i64 0) (.slice none 0 0) (.slice none 0 0) (.int .i64 0) (.int .i64 0))
      generalize put8 w6 Z (.int .i64 0) (.int .i64 0) (.int .i64 0) (.int .i64 0) (.slice none 0 0) (.slice none 0 0) (.int .i64 0) (.int .i64 0) = wz at P8 B8 ⊢
      obtain ⟨z0, z1, z2, z3, z4, z5, z6, z7⟩ := heads_of P8.out
      exact bodyPost_ret (v := .tuple #[hV0, .int .i64 E']) (by simp [results, Try.results21, go_sem, z0, z1, z2, z3, z4, z5, z6, z7]) rfl ⟨0, 0, 0, 0, none, 0, 0, none, 0, 0, 0, 0, by rw [HE'.out], by rw [HX0.out]; exact HVl.zero wz, ⟨by omega, by omega⟩, B8⟩
  · have He := Lib.hid (show unE b = E by rw [HE.out, ← HE2.out, if_pos hE0])
    have HX0 := Lib.hid (show unX b = hd0 by unfold unX; rw [if_neg (by rw [He.out]; exact hE0)])
    have hbe : (E != 0) = true := by simpa using hE0
    have hbe1 : (E == 0) = false := by simpa using hE0
    obtain ⟨z0, z1, z2, z3, z4, z5, z6, z7⟩ := heads_of Hz5.out
    have y0 := free_blk Hz5.out 0
    have y1 := free_blk Hz5.out 1
    have y2 := free_blk Hz5.out 2
    have y3 := free_blk Hz5.out 3
    have y4 := free_blk Hz5.out 4
    have y5 := free_blk Hz5.out 5
    have y6 := free_blk Hz5.out 6
    have y7 := free_blk Hz5.out 7
    have P8 := Lib.hid (put8_at Hz5.out (.int .i64 0) (.int .i64 0) (.int .i64 0) (.int .i64 0) (.slice none 0 0) (.slice none 0 0) (.int .i64 0) (.int .i64 0))
    have B8 := Lib.hid (put8_below Hb5.out HZ.out (.int .i64 0) (.int .i64 0) (.int .i64 0) (.int .i64 0) (.slice none 0 0) (.slice none 0 0) (.int .i64 0) (.int .i64 0) (z := Z))
    go_wp2_with fail
    clear z0 z1 z2 z3 z4 z5 z6 z7 y0 y1 y2 y3 y4 y5 y6 y7
    change bodyPost _ _ _ _ _ (put8 w5 Z (.int .i64 0) (.int .i64 0) (.int .i64 0) (.int .i64 0) (.slice none 0 0) (.slice none 0 0) (.int .i64 0) (.int .i64 0))
    generalize put8 w5 Z (.int .i64 0) (.int .i64 0) (.int .i64 0) (.int .i64 0) (.slice none 0 0) (.slice none 0 0) (.int .i64 0) (.int .i64 0) = wz at P8 B8 ⊢
    obtain ⟨z0, z1, z2, z3, z4, z5, z6, z7⟩ := heads_of P8.out
    exact bodyPost_ret (v := .tuple #[hV0, .int .i64 E]) (by simp [results, Try.results21, go_sem, z0, z1, z2, z3, z4, z5, z6, z7]) rfl ⟨0, 0, 0, 0, none, 0, 0, none, 0, 0, 0, 0, by rw [He.out], by rw [HX0.out]; exact HVl.zero wz, ⟨by omega, by omega⟩, B8⟩
end Go.Proofs.Ytaobdebeglenaaa

namespace Go.Proofs.Ytaobdebeglenaaa
open Go.RowKit
section
variable {w : World} {g : Hd} {U C O sz last seq : Int} {Am As : Option Addr} {nm ns : Nat}
set_option maxRecDepth 10000 in
theorem pFind (cm cs : Nat) (x : Int) (h : Hid (HVl w g U C O sz Am nm As ns last seq)) (_hk : Hid (ns ≤ cs ∧ cs ≤ 9223372036854775807)) : VF 17 #[hV U C O sz Am nm cm As ns cs last seq, .int .i64 x] w (.int .i64 (findH g.snaps x)) := by
  obtain ⟨e, h1, h2, h3, h4, h5⟩ := h.out
  exact Find6 U C O sz Am nm cm As ns cs last seq x g.snaps w h3 (by omega)
set_option maxRecDepth 10000 in
theorem pNewest (cm cs : Nat) (h : Hid (HVl w g U C O sz Am nm As ns last seq)) (_hk : Hid (ns ≤ cs ∧ cs ≤ 9223372036854775807)) : VF 19 #[hV U C O sz Am nm cm As ns cs last seq] w (.int .i64 (newestH g.snaps)) := by
  obtain ⟨e, h1, h2, h3, h4, h5⟩ := h.out
  exact pNewest6 U C O sz Am nm cm As ns cs last seq g.snaps _ w h3 (Nat.le_refl _) (by omega)
set_option maxRecDepth 10000 in
theorem pCheck (cm cs : Nat) (h : Hid (HVl w g U C O sz Am nm As ns last seq)) (_hk : Hid (ns ≤ cs ∧ cs ≤ 9223372036854775807)) : VF 16 #[hV U C O sz Am nm cm As ns cs last seq] w (.int .i64 (mayE g)) := by
  obtain ⟨e, h1, h2, h3, h4, h5⟩ := h.out
  have q := Check6 U C O sz Am nm cm As ns cs last seq g.map g.snaps w h1 h3 h2 h4 h5
  rw [← e] at q
  exact q
set_option maxRecDepth 10000 in
theorem pPack (cm cs : Nat) (h : Hid (HVl w g U C O sz Am nm As ns last seq)) (_hk : Hid (ns ≤ cs ∧ cs ≤ 9223372036854775807)) : BF 23 #[hV U C O sz Am nm cm As ns cs last seq] w (packX g) := by
  obtain ⟨e, h1, h2, h3, h4, h5⟩ := h.out
  have q := Pack6 U C O sz Am nm cm As ns cs last seq g.map g.snaps w h1 h3 h2 h4 h5
  rw [← e] at q
  exact q
set_option maxRecDepth 10000 in
theorem pSnap (cm cs : Nat) (h : Hid (HVl w g U C O sz Am nm As ns last seq)) (_hk : Hid (ns ≤ cs ∧ cs ≤ 9223372036854775807)) : HF3 25 #[hV U C O sz Am nm cm As ns cs last seq] w (snapX g) (snapI g) (snapE g) := by
  obtain ⟨e, h1, h2, h3, h4, h5⟩ := h.out
  have q := Snap6 U C O sz Am nm cm As ns cs last seq g.map g.snaps w h1 h3 h2 h4 h5
  rw [← e] at q
  exact q
set_option maxRecDepth 10000 in
theorem pDrop (cm cs : Nat) (x : Int) (h : Hid (HVl w g U C O sz Am nm As ns last seq)) (_hk : Hid (ns ≤ cs ∧ cs ≤ 9223372036854775807)) : HF 27 #[hV U C O sz Am nm cm As ns cs last seq, .int .i64 x] w (dropX g x) (dropE g x) := by
  obtain ⟨e, h1, h2, h3, h4, h5⟩ := h.out
  have q := Drop6 U C O sz Am nm cm As ns cs last seq x g.map g.snaps w h1 h3 h2 h4 h5
  rw [← e] at q
  exact q
set_option maxRecDepth 10000 in
theorem pDiff (cm cs : Nat) (f t : Int) (h : Hid (HVl w g U C O sz Am nm As ns last seq)) (_hk : Hid (ns ≤ cs ∧ cs ≤ 9223372036854775807)) : DF 29 #[hV U C O sz Am nm cm As ns cs last seq, .int .i64 f, .int .i64 t] w (diffX g f t) (diffE g f t) := by
  obtain ⟨e, h1, h2, h3, h4, h5⟩ := h.out
  have q := Diff6 U C O sz Am nm cm As ns cs last seq f t g.map g.snaps w h1 h3 h2 h4 h5
  rw [← e] at q
  exact q
set_option maxRecDepth 10000 in
theorem pUnpack {A : Option Addr} {n c : Nat} {b : List UInt8} (h : Hid (BAt w A n c b)) : HF 21 #[.slice A n c] w (unX b) (unE b) := Unpack6 A n c b w h
set_option maxRecDepth 10000 in
theorem pNew (U C O x : Int) (w : World) : HF 13 #[.agg #[.int .i64 U, .int .i64 C, .int .i64 O], .int .i64 x] w (newX U C O x) (newE U C O x) := pNew6 U C O x w
end
end Go.Proofs.Ytaobdebeglenaaa

namespace Go.Proofs.Ytaobdebeglenaaa
open Go.RowKit

theorem HVl.nums {w : World} {g : Hd} {U C O sz last seq : Int} {Am As : Option Addr} {nm ns : Nat} (h : Hid (HVl w g U C O sz Am nm As ns last seq)) :
    U = g.u ∧ C = g.c ∧ O = g.o ∧ sz = g.size ∧ last = g.last ∧ seq = g.seq ∧ nm = g.map.length ∧ ns = g.snaps.length := by
  obtain ⟨e, h1, _, h3, _, _⟩ := h.out
  refine ⟨?_, ?_, ?_, ?_, ?_, ?_, h1.1.symm, h3.1.symm⟩ <;> rw [e]
/-- a head whose map is another one -/
theorem HVl.map {w : World} {g : Hd} {U C O sz last seq : Int} {Am As Am' : Option Addr} {nm ns nm' : Nat} {l : List Int} (h : Hid (HVl w g U C O sz Am nm As ns last seq)) (hl : RdI w w.heap.size Am' nm' l) (hn : nm' ≤ 3000) :
    Hid (HVl w ⟨g.u, g.c, g.o, g.size, l, g.snaps, g.last, g.seq⟩ U C O sz Am' nm' As ns last seq) := by
  obtain ⟨e, h1, h2, h3, h4, h5⟩ := h.out
  exact ⟨by rw [e], hl, hn, h3, h4, h5⟩
theorem HVl.last {w : World} {g : Hd} {U C O sz last seq : Int} {Am As : Option Addr} {nm ns : Nat} (x : Int) (h : Hid (HVl w g U C O sz Am nm As ns last seq)) :
    Hid (HVl w { g with last := x } U C O sz Am nm As ns x seq) := by
  obtain ⟨e, h1⟩ := h.out
  exact ⟨by rw [e], h1⟩
/-- a row that was just made -/
theorem litI6 (w : World) (l : List Int) (xs : Array Value) (t : TypeId) (hx : xs = (l.map (Value.int .i64)).toArray) : RdI (w.alloc (.cells xs t)) (w.alloc (.cells xs t)).heap.size (some ⟨w.heap.size, 0, none⟩) l.length l := by
  subst hx
  have h := RdI_lit w t l
  have e : (w.alloc (.cells (l.map (Value.int .i64)).toArray t)).heap.size = w.heap.size + 1 := by simp
  rw [e]
  exact h
theorem HVl.lit (w : World) (U C O x : Int) : Hid (HVl w ⟨U, C, O, x, [], [], 0, 0⟩ U C O x none 0 none 0 0 0) :=
  ⟨rfl, RdI.nil, by omega, RdN.nil _ _ _, by omega, fun s hs => by simp at hs⟩
theorem ex1 : newE 2 3 4 10 = 0 := by decide +kernel
theorem ex2 : newX 2 3 4 10 = ⟨2, 3, 4, 10, [], [], 0, 0⟩ := by kernel_rfl
theorem ex3 : snapE ⟨2, 3, 4, 10, [1], [], 0, 0⟩ = 0 := by decide +kernel
theorem ex4 : snapI ⟨2, 3, 4, 10, [1], [], 0, 0⟩ = 1 := by decide +kernel
theorem ex5 : snapX ⟨2, 3, 4, 10, [1], [], 0, 0⟩ = ⟨2, 3, 4, 10, [2], [⟨1, 10, [1]⟩], 1, 0⟩ := by kernel_rfl
theorem ex6 : diffE ⟨2, 3, 4, 10, [2, 1], [⟨1, 10, [1]⟩], 1, 0⟩ 1 0 = 0 := by decide +kernel
theorem ex7 : diffX ⟨2, 3, 4, 10, [2, 1], [⟨1, 10, [1]⟩], 1, 0⟩ 1 0 = [1] := by decide +kernel
theorem ex8 : MayH ⟨2, 3, 4, 10, [2, 1], [⟨1, 10, [1]⟩], 1, 0⟩ := by decide +kernel

set_option maxRecDepth 10000 in
set_option maxHeartbeats 4000000 in
theorem awake6 (w : World) : Calls Try.prog 10 #[] w fun e w' => e = .returned (.bool true) ∧ Below w.heap.size w w' := by
  go_enter Try.func10, Try.ntmps10
  go_wp2_with fail
  refine (pNew 2 3 4 10 w).mono ?_
  rw [ex1, ex2]
  rintro e w1 ⟨U, C, O, sz, Am, nm, cm, As, ns, cs, last, seq, rfl, X, K, B⟩
  obtain ⟨rfl, rfl, rfl, rfl, rfl, rfl, rfl, rfl⟩ := HVl.nums X
  go_upto_region 3 with fail
  have B1 := alB6 w1 (.cells #[.int .i64 2, .int .i64 3, .int .i64 4, .int .i64 10, .slice (some ⟨w1.heap.size + 1, 0, none⟩) 1 1, .slice As 0 cs, .int .i64 0, .int .i64 0] 27)
  have B2 := alB6 (w1.alloc (.cells #[.int .i64 2, .int .i64 3, .int .i64 4, .int .i64 10, .slice (some ⟨w1.heap.size + 1, 0, none⟩) 1 1, .slice As 0 cs, .int .i64 0, .int .i64 0] 27)) (.cells #[.int .i64 1] 3)
  have X2 := HVl.map (HVl.keep (HVl.keep X B1) B2) (litI6 (w1.alloc (.cells #[.int .i64 2, .int .i64 3, .int .i64 4, .int .i64 10, .slice (some ⟨w1.heap.size + 1, 0, none⟩) 1 1, .slice As 0 cs, .int .i64 0, .int .i64 0] 27)) [1] #[.int .i64 1] 3 rfl) (by decide)
  rw [show (w1.alloc (.cells #[.int .i64 2, .int .i64 3, .int .i64 4, .int .i64 10, .slice (some ⟨w1.heap.size + 1, 0, none⟩) 1 1, .slice As 0 cs, .int .i64 0, .int .i64 0] 27)).heap.size = w1.heap.size + 1 by simp] at X2
  have Bx := blk_keep (Lib.hid (heap_alloc_new w1 (.cells #[.int .i64 2, .int .i64 3, .int .i64 4, .int .i64 10, .slice (some ⟨w1.heap.size + 1, 0, none⟩) 1 1, .slice As 0 cs, .int .i64 0, .int .i64 0] 27))) B2
  replace B := belO6 (belO6 B B1) B2
  clear X B1 B2
  rw [show Hd.mk _ _ _ _ [1] _ _ _ = ⟨2, 3, 4, 10, [1], [], 0, 0⟩ from rfl] at X2
  obtain ⟨b, hb⟩ : ∃ b, b = w1.heap.size := ⟨_, rfl⟩
  rw [← hb] at X2 Bx B ⊢
  clear hb
  generalize ((w1.alloc (.cells #[.int .i64 2, .int .i64 3, .int .i64 4, .int .i64 10, .slice (some ⟨b + 1, 0, none⟩) 1 1, .slice As 0 cs, .int .i64 0, .int .i64 0] 27)).alloc (.cells #[.int .i64 1] 3)) = w2 at X2 Bx B ⊢
  obtain ⟨c0, c1, c2, c3, c4, c5, c6, c7⟩ := heads_of Bx.out
  have K2 := K
  go_wp2_with fail
  refine (pSnap 1 cs X2 K).mono ?_
  rw [ex3, ex4, ex5]
  rintro e w3 ⟨U, C, O, sz, Am2, nm, cm2, As2, ns, cs2, last, seq, rfl, X, K2, hb⟩
  obtain ⟨rfl, rfl, rfl, rfl, rfl, rfl, rfl, rfl⟩ := HVl.nums X
  replace B := belO6 B hb
  clear c0 c1 c2 c3 c4 c5 c6 c7 hb X2 Bx K
  go_upto_region 4 with fail
  have B3 := alB6 w3 (.cells #[.int .i64 2, .int .i64 3, .int .i64 4, .int .i64 10, .slice Am2 1 cm2, .slice As2 1 cs2, .int .i64 1, .int .i64 0] 27)
  have Bx := Lib.hid (heap_alloc_new w3 (.cells #[.int .i64 2, .int .i64 3, .int .i64 4, .int .i64 10, .slice Am2 1 cm2, .slice As2 1 cs2, .int .i64 1, .int .i64 0] 27))
  obtain ⟨b3, hb3⟩ : ∃ b, b = w3.heap.size := ⟨_, rfl⟩
  have Hb3 := Lib.hid hb3
  rw [← hb3] at Bx ⊢
  clear hb3
  generalize w3.alloc (.cells #[.int .i64 2, .int .i64 3, .int .i64 4, .int .i64 10, .slice Am2 1 cm2, .slice As2 1 cs2, .int .i64 1, .int .i64 0] 27) = w4 at B3 Bx ⊢
  obtain ⟨c0, c1, c2, c3, c4, c5, c6, c7⟩ := heads_of Bx.out
  go_wp2_with fail
  have B4 := alB6 w4 (.cells #[.int .i64 2] 3)
  have X4 := HVl.keep (HVl.keep X B3) B4
  have L4 : Hid (IAt (w4.alloc (.cells #[.int .i64 2] 3)) (some ⟨w4.heap.size, 0, none⟩) 1 [2]) := ⟨litI6 w4 [2] #[.int .i64 2] 3 rfl, by decide⟩
  refine (rInts cm2 1 (show Hid (IAt (w4.alloc (.cells #[.int .i64 2] 3)) Am2 1 [2]) from ⟨X4.out.2.1, by decide⟩) L4).mono ?_
  rw [decide_eq_true (rfl : [(2 : Int)] = [2])]
  rintro e w5 ⟨rfl, hb⟩
  replace B3 := belO6 (belO6 B3 B4) hb
  replace Bx := blk_keep (blk_keep Bx B4) hb
  clear c0 c1 c2 c3 c4 c5 c6 c7 X4 L4 B4 hb
  have hlt := lt_of_block Bx.out
  have B5 := alB6 w5 (.cells #[.int .i64 2, .int .i64 1] 3)
  have Bxa := blk_keep Bx B5
  have c4 := (heads_of Bxa.out).2.2.2.2.1
  have y4 := free_blk Bxa.out 4
  go_upto_region 7 with fail
  obtain ⟨l5, hl5⟩ : ∃ l, l = w5.heap.size := ⟨_, rfl⟩
  rw [← hl5]
  have hsz : (w5.setCell ⟨b3, 4, none⟩ (.slice (some ⟨l5, 0, none⟩) 2 2)).heap.size = l5 := by rw [hl5]; simp [World.setCell]
  have L6 := litI6 (w5.setCell ⟨b3, 4, none⟩ (.slice (some ⟨l5, 0, none⟩) 2 2)) [2, 1] #[.int .i64 2, .int .i64 1] 3 rfl
  rw [hsz] at L6
  have B35 : Hid (Below w3.heap.size w3 (w5.setCell ⟨b3, 4, none⟩ (.slice (some ⟨l5, 0, none⟩) 2 2))) := B3.out.setCell (by show _ ≤ b3; rw [Hb3.out]; exact Nat.le_refl _) _
  have B36 := belO6 B35 (alB6 _ (.cells #[.int .i64 2, .int .i64 1] 3))
  have X6 := HVl.map (HVl.keep X B36) L6 (by decide)
  replace B := belO6 B B36
  have Bx6 := blk_keep (Lib.hid (set_blk Bx.out 4 (.slice (some ⟨l5, 0, none⟩) 2 2))) (alB6 _ (.cells #[.int .i64 2, .int .i64 1] 3))
  generalize (w5.setCell ⟨b3, 4, none⟩ (.slice (some ⟨l5, 0, none⟩) 2 2)).alloc (.cells #[.int .i64 2, .int .i64 1] 3) = w6 at L6 B36 X6 B Bx6 ⊢
  rw [show Hd.mk _ _ _ _ [2, 1] _ _ _ = ⟨2, 3, 4, 10, [2, 1], [⟨1, 10, [1]⟩], 1, 0⟩ from rfl] at X6
  replace Bx6 : Hid (w6.heap[b3]? = some (.cells #[.int .i64 2, .int .i64 3, .int .i64 4, .int .i64 10, .slice (some ⟨l5, 0, none⟩) 2 2, .slice As2 1 cs2, .int .i64 1, .int .i64 0] 27 (0, 0))) := Bx6
  clear c4 y4 hlt hl5 hsz B35 B36 Bxa B5 Bx B3 X Hb3 L6
  obtain ⟨c0, c1, c2, c3, c4, c5, c6, c7⟩ := heads_of Bx6.out
  go_wp2_with fail
  refine (pDiff 2 cs2 1 0 X6 K2).mono ?_
  rw [ex6, ex7]
  rintro e w7 ⟨Ad, nd, cd, rfl, D, hb⟩
  obtain rfl : nd = 1 := D.out.1.1.symm
  replace X6 := HVl.keep X6 hb
  replace Bx6 := blk_keep Bx6 hb
  replace B := belO6 B hb
  clear c0 c1 c2 c3 c4 c5 c6 c7 hb
  obtain ⟨c0, c1, c2, c3, c4, c5, c6, c7⟩ := heads_of Bx6.out
  go_wp2_with fail
  refine (pPack 2 cs2 X6 K2).mono ?_
  rintro e w8 ⟨Ap, np, cp, rfl, P, hb⟩
  replace X6 := HVl.keep X6 hb
  replace Bx6 := blk_keep Bx6 hb
  replace B := belO6 B hb
  replace D := IAt.keep D hb
  clear c0 c1 c2 c3 c4 c5 c6 c7 hb
  have e8 : packX ⟨2, 3, 4, 10, [2, 1], [⟨1, 10, [1]⟩], 1, 0⟩ = packH ⟨2, 3, 4, 10, [2, 1], [⟨1, 10, [1]⟩], 1, 0⟩ := by unfold packX; rw [if_pos ex8]
  rw [e8] at P
  go_wp2_with fail
  refine (pUnpack P).mono ?_
  have e9 : unX (packH ⟨2, 3, 4, 10, [2, 1], [⟨1, 10, [1]⟩], 1, 0⟩) = ⟨2, 3, 4, 10, [2, 1], [⟨1, 10, [1]⟩], 1, 0⟩ := by unfold unX; rw [if_pos (unE_pack ex8).1, (unE_pack ex8).2]
  rw [(unE_pack ex8).1, e9]
  rintro e w9 ⟨U, C, O, sz, Am9, nm, cm9, As9, ns, cs9, last, seq, rfl, X9, K9, hb⟩
  obtain ⟨rfl, rfl, rfl, rfl, rfl, rfl, rfl, rfl⟩ := HVl.nums X9
  replace X6 := HVl.keep X6 hb
  replace Bx6 := blk_keep Bx6 hb
  replace B := belO6 B hb
  replace D := IAt.keep D hb
  clear hb P e8 e9 K9
  go_upto_region 9 with fail
  have BA := alB6 w9 (.cells #[.int .i64 2, .int .i64 3, .int .i64 4, .int .i64 10, .slice Am9 2 cm9, .slice As9 1 cs9, .int .i64 1, .int .i64 0] 27)
  have By := Lib.hid (heap_alloc_new w9 (.cells #[.int .i64 2, .int .i64 3, .int .i64 4, .int .i64 10, .slice Am9 2 cm9, .slice As9 1 cs9, .int .i64 1, .int .i64 0] 27))
  obtain ⟨b9, hb9⟩ : ∃ b, b = w9.heap.size := ⟨_, rfl⟩
  rw [← hb9] at By ⊢
  clear hb9
  replace X6 := HVl.keep X6 BA
  replace X9 := HVl.keep X9 BA
  replace Bx6 := blk_keep Bx6 BA
  replace B := belO6 B BA
  replace D := IAt.keep D BA
  generalize w9.alloc (.cells #[.int .i64 2, .int .i64 3, .int .i64 4, .int .i64 10, .slice Am9 2 cm9, .slice As9 1 cs9, .int .i64 1, .int .i64 0] 27) = wa at X6 X9 Bx6 By B D ⊢
  clear BA
  go_wp2_with fail
  have B1 := alB6 wa (.cells #[.int .i64 1] 3)
  have L1 : Hid (IAt (wa.alloc (.cells #[.int .i64 1] 3)) (some ⟨wa.heap.size, 0, none⟩) 1 [1]) := ⟨litI6 wa [1] #[.int .i64 1] 3 rfl, by decide⟩
  refine (rInts cd 1 (IAt.keep D B1) L1).mono ?_
  rw [decide_eq_true (rfl : [(1 : Int)] = [1])]
  rintro e wb ⟨rfl, hb⟩
  replace X6 := HVl.keep (HVl.keep X6 B1) hb
  replace X9 := HVl.keep (HVl.keep X9 B1) hb
  replace Bx6 := blk_keep (blk_keep Bx6 B1) hb
  replace By := blk_keep (blk_keep By B1) hb
  replace B := belO6 (belO6 B B1) hb
  clear hb D L1 B1
  obtain ⟨c0, c1, c2, c3, c4, c5, c6, c7⟩ := heads_of Bx6.out
  obtain ⟨d0, d1, d2, d3, d4, d5, d6, d7⟩ := heads_of By.out
  go_wp2_with fail
  refine (rSame cm9 cs9 2 cs2 X9 X6).mono ?_
  rintro e wc ⟨rfl, hb⟩
  replace X6 := HVl.keep X6 hb
  replace Bx6 := blk_keep Bx6 hb
  replace B := belO6 B hb
  clear hb X9 By c0 c1 c2 c3 c4 c5 c6 c7 d0 d1 d2 d3 d4 d5 d6 d7
  obtain ⟨c0, c1, c2, c3, c4, c5, c6, c7⟩ := heads_of Bx6.out
  go_wp2_with fail
  refine (pNewest 2 cs2 X6 K2).mono ?_
  rintro e wd ⟨rfl, hb⟩
  replace X6 := HVl.keep X6 hb
  replace Bx6 := blk_keep Bx6 hb
  replace B := belO6 B hb
  clear hb c0 c1 c2 c3 c4 c5 c6 c7
  obtain ⟨c0, c1, c2, c3, c4, c5, c6, c7⟩ := heads_of Bx6.out
  have e10 : newestH (Hd.snaps ⟨2, 3, 4, 10, [2, 1], [⟨1, 10, [1]⟩], 1, 0⟩) = 1 := rfl
  rw [e10]
  go_wp2_with fail
  refine (pFind 2 cs2 1 X6 K2).mono ?_
  rintro e we ⟨rfl, hb⟩
  replace X6 := HVl.keep X6 hb
  replace Bx6 := blk_keep Bx6 hb
  replace B := belO6 B hb
  clear hb c0 c1 c2 c3 c4 c5 c6 c7
  obtain ⟨c0, c1, c2, c3, c4, c5, c6, c7⟩ := heads_of Bx6.out
  have e11 : findH (Hd.snaps ⟨2, 3, 4, 10, [2, 1], [⟨1, 10, [1]⟩], 1, 0⟩) 1 = 0 := by decide +kernel
  rw [e11]
  go_wp2_with fail
  refine (pCheck 2 cs2 X6 K2).mono ?_
  rintro e wf ⟨rfl, hb⟩
  replace B := belO6 B hb
  have e12 : mayE ⟨2, 3, 4, 10, [2, 1], [⟨1, 10, [1]⟩], 1, 0⟩ = 0 := by unfold mayE; rw [if_pos ex8]
  rw [e12]
  clear hb X6 Bx6 c0 c1 c2 c3 c4 c5 c6 c7
  go_wp2_with fail
  go_ret
  exact ⟨rfl, B.out⟩
end Go.Proofs.Ytaobdebeglenaaa
