/- awake answers true, and changes nothing that was there. -/
import Derived.Test.YtblkmphbmmbecaaWireJ
import Derived.Test.YtblkmphbmmbecaaWireS
namespace Go.Proofs.Ytblkmphbmmbecaa
open Go.RowKit

/-- a place within a region where ways meet again -/
theorem wpAny_cut {P : Program} {md : Region.Mode} {ops : Array Oper} {Q : Exit → Act → World → Prop} {fuel : Nat} {listed : Array Bool} {a : Act} {w : World} (fuel2 : Nat) (L2 : Array Bool) (R : Act → World → Prop)
    (h1 : (∀ a W listed', listed' = L2 → R a W → wpAny P md ops Q fuel2 listed' a W) → wpAny P md ops Q fuel listed a w)
    (h2 : ∀ a W, R a W → wpAny P md ops Q fuel2 L2 a W) : wpAny P md ops Q fuel listed a w := h1 fun a W _ e r => e ▸ h2 a W r

theorem Rd12 (w : World) : Rd (w.alloc (.cells #[.int .u8 1, .int .u8 2] 5)) (w.heap.size + 1) (some ⟨w.heap.size, 0, none⟩) 2 [1, 2] := Rd_lit w _ [1, 2]
theorem Rd79 (w : World) : RdI (w.alloc (.cells #[.int .i64 7, .int .i64 9] 3)) (w.heap.size + 1) (some ⟨w.heap.size, 0, none⟩) 2 [7, 9] := RdI_lit w _ [7, 9]
theorem Rdr.ne {w : World} {g : Nat} {l : List UInt8} {e : Int} (h : Rdr w g l e) : w.heap.size ≠ g := by
  obtain ⟨A, n, c, hx⟩ := h
  have := lt_of_block hx.1
  omega
theorem lit79 {w w' : World} {g : Nat} (h : (w.alloc (.cells #[.int .i64 7, .int .i64 9] 3)).grownBy w' (some g)) (hne : w.heap.size ≠ g) : RdI w' (w.heap.size + 1) (some ⟨w.heap.size, 0, none⟩) 2 [7, 9] :=
  (Rd79 w).grown h (by simp) hne
theorem lit12 {w w' : World} (h : Below (w.alloc (.cells #[.int .u8 1, .int .u8 2] 5)).drew.heap.size (w.alloc (.cells #[.int .u8 1, .int .u8 2] 5)).drew w') : Rd w' (w.heap.size + 1) (some ⟨w.heap.size, 0, none⟩) 2 [1, 2] :=
  (Rd12 w).drew.below (h.mono (by simp [World.drew]))
theorem aw_5 {A A' : Option Addr} {c c' B B' : Nat} {w : World} (hr : RdI w B A 2 [7, 9]) (hr' : RdI w B' A' 2 [7, 9]) :
    Calls Try.prog 21 #[.slice A 2 c, .slice A' 2 c'] w fun e w' => e = .returned (.bool true) ∧ ∃ q, w' = w.drewN q :=
  (Ints_any A A' 2 c 2 c' [7, 9] [7, 9] B B' w hr hr' (by omega) (by omega)).mono fun e w' h => by rw [decide_eq_true rfl] at h; exact h
theorem below_drewN {B : Nat} {a w : World} (h : Below B a w) (n : Nat) : Below B a (w.drewN n) := ⟨h.os, h.tape, h.output, h.size, h.block⟩

set_option maxHeartbeats 8000000 in
theorem awake_any (w : World) : Calls Try.prog 9 #[] w fun e w' => e = .returned (.bool true) ∧ Below w.heap.size w w' := by
  go_enter Try.func9, Try.ntmps9
  go_upto_region 2 with (go_at_call 16; refine (Read_any _ 9 9 _ _ ((Rd9 w).more (by simp)) (by omega)).mono ?_; rintro e w1 ⟨g, rfl, hR, hg, hb⟩; have hg2 : w.heap.size ≤ g := (Nat.le_trans (by simp) hg); have hb2 : Below w.heap.size w w1 := ((Below.refl _ _).alloc (Nat.le_refl _) _).trans (hb.mono (by simp)); have HR := Lib.hid hR; have Hg := Lib.hid hg2; have Hb := Lib.hid hb2; clear hR hg hb hg2 hb2)
  refine wp_region_any (by kernel_rfl) ?_
  change wpAny _ _ _ _ _ _ _ (World.drew _)
  refine wpAny_cut 24 #[true, true, true, true, false, false, false, false, false, false, false, false, false, false, false, false, false, false, false, false, false, false, false, false, false, false, false, false] (fun a W => ∃ v4 v6, a = { tmps := #[.bool false, .pointer (some ⟨g, 0, none⟩), .slice (some ⟨w.heap.size, 0, none⟩) 9 9, .pointer (some ⟨g, 0, none⟩), v4, .string ⟨#[1, 2]⟩, v6, .string ⟨#[1, 2]⟩, undef, undef, undef, undef, undef, undef, undef, undef, undef, undef, undef, undef, undef, undef, undef, undef, undef, undef, undef, undef, undef, undef, undef], defers := [] } ∧ Rdr W g [1, 2, 0, 2, 97, 98, 2, 7, 9] 0 ∧ Below w.heap.size w W) ?first1 ?rest1
  case first1 =>
    intro hcut
    have Hcut := Lib.hid hcut
    clear hcut
    have hc7 := fun W : World => str_any (c := 2) (Rd12 W)
    have hc7d := fun W : World => str_any (c := 2) (Rd12 W).drew
    refine wpAny_ready (rs := [0, 2]) (by kernel_rfl) (by simp) ?_
    refine (AllReady.cons rfl (fun K hK => ?_) (AllReady.cons rfl (fun K hK => ?_) AllReady.nil))
    · go_simp
      go_wp2_with (go_at_call 10; refine (aw_num _).mono ?_; rintro e wn ⟨An, cn, rfl, hrn, hbn⟩)
      first | (refine hK _ _ ?_; clear hK K) | skip
      have hRn : Rdr wn g [1, 2, 0, 2, 97, 98, 2, 7, 9] 0 := HR.out.drew.below hbn
      have hBn : Below w.heap.size w wn := Hb.out.drew.trans (hbn.mono Hb.out.size)
      have hcn := str_any (c := cn) hrn.out
      have hcn2 := fun o => str_any (c := cn) (hrn.out.alloc (Nat.le_refl _) o)
      have HRn := Lib.hid hRn
      have HBn := Lib.hid hBn
      clear hRn hBn hbn
      refine wpAny_ready (rs := [1, 2]) (by kernel_rfl) (by simp) ?_
      refine (AllReady.cons rfl (fun K hK => ?_) (AllReady.cons rfl (fun K hK => ?_) AllReady.nil))
      · go_simp
        first | (refine hK _ _ ?_; clear hK K) | skip
        refine wpAny_ready (rs := [2]) (by kernel_rfl) (by simp) ?_
        refine (AllReady.cons rfl (fun K hK => ?_) AllReady.nil)
        · go_simp
          first | (refine hK _ _ ?_; clear hK K) | skip
          refine wpAny_ready (rs := [3]) (by kernel_rfl) (by simp) ?_
          refine (AllReady.cons rfl (fun K hK => ?_) AllReady.nil)
          · go_simp
            first | (refine hK _ _ ?_; clear hK K) | skip
            exact Hcut.out _ _ _ (by kernel_rfl) ⟨_, _, rfl, HRn.out.alloc _, HBn.out.alloc HBn.out.size _⟩
      · go_simp
        first | (refine hK _ _ ?_; clear hK K) | skip
        refine wpAny_ready (rs := [1, 3]) (by kernel_rfl) (by simp) ?_
        refine (AllReady.cons rfl (fun K hK => ?_) (AllReady.cons rfl (fun K hK => ?_) AllReady.nil))
        · go_simp
          first | (refine hK _ _ ?_; clear hK K) | skip
          refine wpAny_ready (rs := [3]) (by kernel_rfl) (by simp) ?_
          refine (AllReady.cons rfl (fun K hK => ?_) AllReady.nil)
          · go_simp
            first | (refine hK _ _ ?_; clear hK K) | skip
            exact Hcut.out _ _ _ (by kernel_rfl) ⟨_, _, rfl, HRn.out.alloc _, HBn.out.alloc HBn.out.size _⟩
        · go_simp
          first | (refine hK _ _ ?_; clear hK K) | skip
          refine wpAny_ready (rs := [1]) (by kernel_rfl) (by simp) ?_
          refine (AllReady.cons rfl (fun K hK => ?_) AllReady.nil)
          · go_simp
            first | (refine hK _ _ ?_; clear hK K) | skip
            exact Hcut.out _ _ _ (by kernel_rfl) ⟨_, _, rfl, HRn.out.alloc _, HBn.out.alloc HBn.out.size _⟩
    · go_simp
      first | (refine hK _ _ ?_; clear hK K) | skip
      refine wpAny_ready (rs := [0, 3]) (by kernel_rfl) (by simp) ?_
      refine (AllReady.cons rfl (fun K hK => ?_) (AllReady.cons rfl (fun K hK => ?_) AllReady.nil))
      · go_simp
        go_wp2_with (go_at_call 10; refine (aw_num _).mono ?_; rintro e wn ⟨An, cn, rfl, hrn, hbn⟩)
        first | (refine hK _ _ ?_; clear hK K) | skip
        have hRn : Rdr wn g [1, 2, 0, 2, 97, 98, 2, 7, 9] 0 := (HR.out.alloc _).drew.below hbn
        have hBn : Below w.heap.size w wn := (Hb.out.alloc Hb.out.size _).drew.trans (hbn.mono (Nat.le_trans Hb.out.size (by simp)))
        have hc7n := str_any (c := 2) (lit12 hbn)
        have hcn := str_any (c := cn) hrn.out
        have hcn2 := fun o => str_any (c := cn) (hrn.out.alloc (Nat.le_refl _) o)
        have HRn := Lib.hid hRn
        have HBn := Lib.hid hBn
        clear hRn hBn hbn
        refine wpAny_ready (rs := [1, 3]) (by kernel_rfl) (by simp) ?_
        refine (AllReady.cons rfl (fun K hK => ?_) (AllReady.cons rfl (fun K hK => ?_) AllReady.nil))
        · go_simp
          first | (refine hK _ _ ?_; clear hK K) | skip
          refine wpAny_ready (rs := [3]) (by kernel_rfl) (by simp) ?_
          refine (AllReady.cons rfl (fun K hK => ?_) AllReady.nil)
          · go_simp
            first | (refine hK _ _ ?_; clear hK K) | skip
            exact Hcut.out _ _ _ (by kernel_rfl) ⟨_, _, rfl, HRn.out, HBn.out⟩
        · go_simp
          first | (refine hK _ _ ?_; clear hK K) | skip
          refine wpAny_ready (rs := [1]) (by kernel_rfl) (by simp) ?_
          refine (AllReady.cons rfl (fun K hK => ?_) AllReady.nil)
          · go_simp
            first | (refine hK _ _ ?_; clear hK K) | skip
            exact Hcut.out _ _ _ (by kernel_rfl) ⟨_, _, rfl, HRn.out, HBn.out⟩
      · go_simp
        first | (refine hK _ _ ?_; clear hK K) | skip
        refine wpAny_ready (rs := [0]) (by kernel_rfl) (by simp) ?_
        refine (AllReady.cons rfl (fun K hK => ?_) AllReady.nil)
        · go_simp
          go_wp2_with (go_at_call 10; refine (aw_num _).mono ?_; rintro e wn ⟨An, cn, rfl, hrn, hbn⟩)
          first | (refine hK _ _ ?_; clear hK K) | skip
          have hRn : Rdr wn g [1, 2, 0, 2, 97, 98, 2, 7, 9] 0 := (HR.out.alloc _).drew.below hbn
          have hBn : Below w.heap.size w wn := (Hb.out.alloc Hb.out.size _).drew.trans (hbn.mono (Nat.le_trans Hb.out.size (by simp)))
          have hc7n := str_any (c := 2) (lit12 hbn)
          have hcn := str_any (c := cn) hrn.out
          have hcn2 := fun o => str_any (c := cn) (hrn.out.alloc (Nat.le_refl _) o)
          have HRn := Lib.hid hRn
          have HBn := Lib.hid hBn
          clear hRn hBn hbn
          refine wpAny_ready (rs := [1]) (by kernel_rfl) (by simp) ?_
          refine (AllReady.cons rfl (fun K hK => ?_) AllReady.nil)
          · go_simp
            first | (refine hK _ _ ?_; clear hK K) | skip
            exact Hcut.out _ _ _ (by kernel_rfl) ⟨_, _, rfl, HRn.out, HBn.out⟩
  case rest1 =>
    rintro a W ⟨v4, v6, rfl, hR, hB⟩
    have HRn := Lib.hid hR
    have HBn := Lib.hid hB
    clear hR hB HR Hb
    refine wpAny_take (i := 4) (v := ?v4) rfl (by kernel_rfl) (by kernel_rfl) (by kernel_rfl) (fun _ _ _ h => h) (Or.inl ⟨by rfl, ?y4⟩) ?r4
    case y4 => (intro wy; go_simp; try with_reducible rfl)
    simp only [Act.put, List.setIfInBounds_toArray, List.set_cons_zero, List.set_cons_succ]
    refine wpAny_take (i := 5) (v := ?v5) rfl (by kernel_rfl) (by kernel_rfl) (by kernel_rfl) (fun _ _ _ h => h) (Or.inl ⟨by rfl, ?y5⟩) ?r5
    case y5 => (intro wy; go_simp; try with_reducible rfl)
    simp only [Act.put, List.setIfInBounds_toArray, List.set_cons_zero, List.set_cons_succ]
    refine wpAny_take (i := 6) (v := ?v6) rfl (by kernel_rfl) (by kernel_rfl) (by kernel_rfl) (fun _ _ _ h => h) (Or.inl ⟨by rfl, ?y6⟩) ?r6
    case y6 => (intro wy; go_simp; try with_reducible rfl)
    simp only [Act.put, List.setIfInBounds_toArray, List.set_cons_zero, List.set_cons_succ]
    refine wpAny_ready (rs := [7]) (by kernel_rfl) (by simp) ?_
    refine AllReady.cons rfl (fun K hK => ?_) AllReady.nil
    go_simp
    go_wp2_with (go_at_call 17; refine (aw_1 g _ HRn.out).mono ?_; rintro e wa ⟨rfl, HRa, hka⟩)
    first | (refine hK _ _ ?_; clear hK K) | skip
    have HBa := Lib.hid (hka _ _ HBn.out Hg.out)
    clear hka HRn HBn
    refine wpAny_take (i := 8) (v := ?v8) rfl (by kernel_rfl) (by kernel_rfl) (by kernel_rfl) (fun _ _ _ h => h) (Or.inl ⟨by rfl, ?y8⟩) ?r8
    case y8 => (intro wy; go_simp; try with_reducible rfl)
    simp only [Act.put, List.setIfInBounds_toArray, List.set_cons_zero, List.set_cons_succ]
    refine wpAny_take (i := 9) (v := ?v9) rfl (by kernel_rfl) (by kernel_rfl) (by kernel_rfl) (fun _ _ _ h => h) (Or.inl ⟨by rfl, ?y9⟩) ?r9
    case y9 => (intro wy; go_simp; try with_reducible rfl)
    simp only [Act.put, List.setIfInBounds_toArray, List.set_cons_zero, List.set_cons_succ]
    refine wpAny_take (i := 10) (v := ?v10) rfl (by kernel_rfl) (by kernel_rfl) (by kernel_rfl) (fun _ _ _ h => h) (Or.inl ⟨by rfl, ?y10⟩) ?r10
    case y10 => (intro wy; go_simp; try with_reducible rfl)
    simp only [Act.put, List.setIfInBounds_toArray, List.set_cons_zero, List.set_cons_succ]
    refine wpAny_take (i := 11) (v := ?v11) rfl (by kernel_rfl) (by kernel_rfl) (by kernel_rfl) (fun _ _ _ h => h) (Or.inl ⟨by rfl, ?y11⟩) ?r11
    case y11 => (intro wy; go_simp; try with_reducible rfl)
    simp only [Act.put, List.setIfInBounds_toArray, List.set_cons_zero, List.set_cons_succ]
    refine wpAny_ready (rs := [12]) (by kernel_rfl) (by simp) ?_
    refine AllReady.cons rfl (fun K hK => ?_) AllReady.nil
    go_simp
    go_wp2_with (go_at_call 19; refine (aw_2 g _ HRa.out).mono ?_; rintro e wb ⟨Ab, cb, rfl, hrb, HRb, hkb⟩)
    first | (refine hK _ _ ?_; clear hK K) | skip
    have HBb := Lib.hid (hkb _ _ HBa.out Hg.out)
    have hcb := str_any (c := cb) hrb.out
    clear hkb HRa HBa
    refine wpAny_ready (rs := [13]) (by kernel_rfl) (by simp) ?_
    refine AllReady.cons rfl (fun K hK => ?_) AllReady.nil
    go_simp
    first | (refine hK _ _ ?_; clear hK K) | skip
    refine wpAny_take (i := 14) (v := ?v14) rfl (by kernel_rfl) (by kernel_rfl) (by kernel_rfl) (fun _ _ _ h => h) (Or.inl ⟨by rfl, ?y14⟩) ?r14
    case y14 => (intro wy; go_simp; try with_reducible rfl)
    simp only [Act.put, List.setIfInBounds_toArray, List.set_cons_zero, List.set_cons_succ]
    refine wpAny_take (i := 15) (v := ?v15) rfl (by kernel_rfl) (by kernel_rfl) (by kernel_rfl) (fun _ _ _ h => h) (Or.inl ⟨by rfl, ?y15⟩) ?r15
    case y15 => (intro wy; go_simp; try with_reducible rfl)
    simp only [Act.put, List.setIfInBounds_toArray, List.set_cons_zero, List.set_cons_succ]
    refine wpAny_take (i := 16) (v := ?v16) rfl (by kernel_rfl) (by kernel_rfl) (by kernel_rfl) (fun _ _ _ h => h) (Or.inl ⟨by rfl, ?y16⟩) ?r16
    case y16 => (intro wy; go_simp; try with_reducible rfl)
    simp only [Act.put, List.setIfInBounds_toArray, List.set_cons_zero, List.set_cons_succ]
    refine wpAny_take (i := 17) (v := ?v17) rfl (by kernel_rfl) (by kernel_rfl) (by kernel_rfl) (fun _ _ _ h => h) (Or.inl ⟨by rfl, ?y17⟩) ?r17
    case y17 => (intro wy; go_simp; try with_reducible rfl)
    simp only [Act.put, List.setIfInBounds_toArray, List.set_cons_zero, List.set_cons_succ]
    refine wpAny_cut 8 #[true, true, true, true, true, true, true, true, true, true, true, true, true, true, true, true, true, true, true, true, false, false, false, false, false, false, false, false] (fun a W => ∃ x4 x6 x16 A22 c22 A23 c23 B22 B23, a = { tmps := #[.bool false, .pointer (some ⟨g, 0, none⟩), .slice (some ⟨w.heap.size, 0, none⟩) 9 9, .pointer (some ⟨g, 0, none⟩), x4, .string ⟨#[1, 2]⟩, x6, .string ⟨#[1, 2]⟩, .bool true, .bool true, .pointer (some ⟨g, 0, none⟩), .int .i64 258, .bool true, .bool true, .bool true, .pointer (some ⟨g, 0, none⟩), x16, .string ⟨#[97, 98]⟩, .bool true, .bool true, .bool true, .pointer (some ⟨g, 0, none⟩), .slice A22 2 c22, .slice A23 2 c23, undef, undef, undef, undef, undef, undef, undef], defers := [] } ∧ RdI W B22 A22 2 [7, 9] ∧ RdI W B23 A23 2 [7, 9] ∧ Rdr W g [] 0 ∧ Below w.heap.size w W) ?first2 ?rest2
    case first2 =>
      intro hcut
      have Hcut := Lib.hid hcut
      clear hcut hcb
      refine wpAny_ready (rs := [18, 19]) (by kernel_rfl) (by simp) ?_
      refine AllReady.cons rfl (fun K hK => ?_) (AllReady.cons rfl (fun K hK => ?_) AllReady.nil)
      · go_simp
        go_wp2_with (go_at_call 22; refine (aw_3 g _ HRb.out).mono ?_; rintro e wc ⟨Ac, cc, rfl, hrc, HRc, hgc, hkc⟩)
        first | (refine hK _ _ ?_; clear hK K) | skip
        have HBc := Lib.hid (hkc _ _ HBb.out Hg.out)
        clear hkc
        refine wpAny_ready (rs := [19]) (by kernel_rfl) (by simp) ?_
        refine AllReady.cons rfl (fun K hK => ?_) AllReady.nil
        go_simp
        first | (refine hK _ _ ?_; clear hK K) | skip
        exact Hcut.out _ _ _ (by kernel_rfl) ⟨_, _, _, _, _, _, _, _, _, rfl, hrc.out.alloc (Nat.le_refl _) _, Rd79 wc, HRc.out.alloc _, HBc.out.alloc HBc.out.size _⟩
      · go_simp
        first | (refine hK _ _ ?_; clear hK K) | skip
        refine wpAny_ready (rs := [18]) (by kernel_rfl) (by simp) ?_
        refine AllReady.cons rfl (fun K hK => ?_) AllReady.nil
        go_simp
        go_wp2_with (go_at_call 22; refine (aw_3 g _ (HRb.out.alloc _)).mono ?_; rintro e wc ⟨Ac, cc, rfl, hrc, HRc, hgc, hkc⟩)
        first | (refine hK _ _ ?_; clear hK K) | skip
        exact Hcut.out _ _ _ (by kernel_rfl) ⟨_, _, _, _, _, _, _, _, _, rfl, hrc.out, lit79 hgc.out HRb.out.ne, HRc.out, hkc _ _ (HBb.out.alloc HBb.out.size _) Hg.out⟩
    case rest2 =>
      rintro a W ⟨x4, x6, x16, A22, c22, A23, c23, B22, B23, rfl, h22, h23, hR, hB⟩
      have H22 := Lib.hid h22
      have H23 := Lib.hid h23
      have HRc := Lib.hid hR
      have HBc := Lib.hid hB
      clear h22 h23 hR hB
      refine wpAny_ready (rs := [20]) (by kernel_rfl) (by simp) ?_
      refine AllReady.cons rfl (fun K hK => ?_) AllReady.nil
      go_simp
      go_wp2_with (go_at_call 21; refine (aw_5 H22.out H23.out).mono ?_; rintro e wd ⟨rfl, qd, rfl⟩)
      first | (refine hK _ _ ?_; clear hK K) | skip
      refine wpAny_take (i := 21) (v := ?v21) rfl (by kernel_rfl) (by kernel_rfl) (by kernel_rfl) (fun _ _ _ h => h) (Or.inl ⟨by rfl, ?y21⟩) ?r21
      case y21 => (intro wy; go_simp; try with_reducible rfl)
      simp only [Act.put, List.setIfInBounds_toArray, List.set_cons_zero, List.set_cons_succ]
      refine wpAny_take (i := 22) (v := ?v22) rfl (by kernel_rfl) (by kernel_rfl) (by kernel_rfl) (fun _ _ _ h => h) (Or.inl ⟨by rfl, ?y22⟩) ?r22
      case y22 => (intro wy; go_simp; try with_reducible rfl)
      simp only [Act.put, List.setIfInBounds_toArray, List.set_cons_zero, List.set_cons_succ]
      refine wpAny_take (i := 23) (v := ?v23) rfl (by kernel_rfl) (by kernel_rfl) (by kernel_rfl) (fun _ _ _ h => h) (Or.inl ⟨by rfl, ?y23⟩) ?r23
      case y23 => (intro wy; go_simp; try with_reducible rfl)
      simp only [Act.put, List.setIfInBounds_toArray, List.set_cons_zero, List.set_cons_succ]
      refine wpAny_ready (rs := [24]) (by kernel_rfl) (by simp) ?_
      refine AllReady.cons rfl (fun K hK => ?_) AllReady.nil
      go_simp
      go_wp2_with (go_at_call 28; refine (aw_4 g _ (HRc.out.drewN _)).mono ?_; rintro e we ⟨rfl, hke⟩)
      first | (refine hK _ _ ?_; clear hK K) | skip
      have HBe := Lib.hid (hke _ _ (below_drewN HBc.out _) Hg.out)
      clear hke
      refine wpAny_take (i := 25) (v := ?v25) rfl (by kernel_rfl) (by kernel_rfl) (by kernel_rfl) (fun _ _ _ h => h) (Or.inl ⟨by rfl, ?y25⟩) ?r25
      case y25 => (intro wy; go_simp; try with_reducible rfl)
      simp only [Act.put, List.setIfInBounds_toArray, List.set_cons_zero, List.set_cons_succ]
      refine wpAny_take (i := 26) (v := ?v26) rfl (by kernel_rfl) (by kernel_rfl) (by kernel_rfl) (fun _ _ _ h => h) (Or.inl ⟨by rfl, ?y26⟩) ?r26
      case y26 => (intro wy; go_simp; try with_reducible rfl)
      simp only [Act.put, List.setIfInBounds_toArray, List.set_cons_zero, List.set_cons_succ]
      refine wpAny_ready (rs := [27]) (by kernel_rfl) (by simp) ?_
      refine AllReady.cons rfl (fun K hK => ?_) AllReady.nil
      go_simp
      first | (refine hK _ _ ?_; clear hK K) | skip
      refine wpAny_done (by kernel_rfl) ?_ _
      go_wp2
      go_ret
      exact ⟨rfl, HBe.out⟩
end Go.Proofs.Ytblkmphbmmbecaa
