/- The walk of ObjmapPacks. -/
import Derived.Test.YtiopefndbamkhaaObAw
import Derived.Test.YtiopefndbamkhaaRegion
namespace Go.Proofs.Ytiopefndbamkhaa
open Go.ChangeShapes Go.WideShapes Go.ChangeAt Go.RowKit

theorem undrewI {w w1 : World} (h : Hid (Below w.drew.heap.size w.drew w1)) : Hid (Below w.heap.size w w1) := ⟨h.out.os, h.out.tape, h.out.output, h.out.size, h.out.block⟩
set_option maxRecDepth 10000 in
set_option maxHeartbeats 2000000 in
theorem ObjmapPacks_core (A : Option Addr) (n c : Nat) (m : List Int) (Ab : Option Addr) (nb cb : Nat) (b : List UInt8) (W : World) (hr : RdI W W.heap.size A n m) (hrb : Rd W W.heap.size Ab nb b) (hn : n ≤ 9223372036854775807) (hnb : nb ≤ 9223372036854775807) (hkb : nb ≤ cb) :
    Calls Try.prog 6 #[.slice A n c, .slice Ab nb cb] W (Yes W) := by
  have R := Lib.hid hr
  have Rb := Lib.hid hrb
  have Kb := Lib.hid hkb
  clear hr hrb hkb
  go_enter Try.func6, Try.ntmps6
  go_wp2_with fail
  refine (awake5 _).mono ?_
  rintro e w1 ⟨rfl, hb1⟩
  have B := Lib.hid hb1
  clear hb1
  by_cases h20 : n ≤ 2000
  · have h21 : (n : Int) ≤ 2000 := by omega
    by_cases h22 : nb ≤ 1000
    · have h23 : (nb : Int) ≤ 1000 := by omega
      have M : Hid (AtI w1 A n m) := ⟨(R.out.below B.out).more B.out.size, by omega⟩
      have Y : Hid (AtB w1 Ab nb b) := ⟨(Rb.out.below B.out).more B.out.size, by omega⟩
      go_wp2_with fail
      refine (lUnpack cb Y Kb.out).mono ?_
      rintro e w2 ⟨A1, n1, c1, rfl, X1, hb, N1⟩
      replace M := AtI.keep M hb
      replace Y := AtB.keep Y hb
      replace B := belO B hb
      clear hb N1
      have HZ : Hid (∃ z, z = (unO b).isSome) := ⟨_, rfl⟩
      go_wp2_with fail
      refine (lRUnpack cb Y).mono ?_
      rintro e w3 ⟨A2, n2, c2, rfl, X2, hb, N2⟩
      replace M := AtI.keep M hb
      replace X1 := AtI.keep X1 hb
      replace B := belO B hb
      clear hb N2 Y HZ
      generalize (unO b).isSome = z
      generalize (unO b).getD [] = l at X1 X2
      have HP := fun w c' (h : Hid (AtI w A n m)) => lPack c' h
      have HQ := fun w c' (h : Hid (AtI w A n m)) => lRPack c' h
      generalize packO m = P at HP HQ
      go_upto_region 8 with fail
      -- REGION
      refine wp_region_held_drew (S := fun w' => Below w3.heap.size w3 w') (by kernel_rfl) ⟨rfl, rfl, rfl, Nat.le_refl _, fun _ _ => rfl⟩ (fun hS => ?_)
      refine wpAnyH_take (i := 0) (v := .slice A n c) rfl (by kernel_rfl) (by kernel_rfl) (by kernel_rfl) (fun _ _ _ h => h) (Or.inl ⟨by rfl, ?y0⟩) hS ?r0
      case y0 => (intro wy hSy; go_simp; try with_reducible rfl)
      change wpAnyH _ _ _ _ _ _ _ { tmps := #[.slice A n c, .slice Ab nb cb, undef, undef, .bool false, .bool true, .slice A1 n1 c1, .bool z, .slice A2 n2 c2, .bool z, .bool true, .bool true, .bool false, .slice A n c, .int .i64 (n : Int), .bool (decide ((2000 : Int) < (n : Int))), .bool (decide ((2000 : Int) < (n : Int))), .slice Ab nb cb, .int .i64 (nb : Int), .bool (decide ((1000 : Int) < (nb : Int))), .bool (decide ((2000 : Int) < (n : Int)) || decide ((1000 : Int) < (nb : Int))), .tuple #[.slice A1 n1 c1, .bool z], .slice Ab nb cb, .tuple #[.slice A1 n1 c1, .bool z], .slice A1 n1 c1, .bool z, .tuple #[.slice A2 n2 c2, .bool z], .slice Ab nb cb, .tuple #[.slice A2 n2 c2, .bool z], .slice A2 n2 c2, .bool z, .slice A n c, undef, undef, undef, undef, undef, undef, undef, undef, undef, undef, undef, undef, undef, undef, undef, undef], defers := [] } _
      refine wpAnyH_take (i := 3) (v := .slice A n c) rfl (by kernel_rfl) (by kernel_rfl) (by kernel_rfl) (fun _ _ _ h => h) (Or.inl ⟨by rfl, ?y3⟩) hS ?r3
      case y3 => (intro wy hSy; go_simp; try with_reducible rfl)
      change wpAnyH _ _ _ _ _ _ _ { tmps := #[.slice A n c, .slice Ab nb cb, undef, undef, .bool false, .bool true, .slice A1 n1 c1, .bool z, .slice A2 n2 c2, .bool z, .bool true, .bool true, .bool false, .slice A n c, .int .i64 (n : Int), .bool (decide ((2000 : Int) < (n : Int))), .bool (decide ((2000 : Int) < (n : Int))), .slice Ab nb cb, .int .i64 (nb : Int), .bool (decide ((1000 : Int) < (nb : Int))), .bool (decide ((2000 : Int) < (n : Int)) || decide ((1000 : Int) < (nb : Int))), .tuple #[.slice A1 n1 c1, .bool z], .slice Ab nb cb, .tuple #[.slice A1 n1 c1, .bool z], .slice A1 n1 c1, .bool z, .tuple #[.slice A2 n2 c2, .bool z], .slice Ab nb cb, .tuple #[.slice A2 n2 c2, .bool z], .slice A2 n2 c2, .bool z, .slice A n c, undef, undef, .slice A n c, undef, undef, undef, undef, undef, undef, undef, undef, undef, undef, undef, undef, undef], defers := [] } _
      refine wpAnyH_ready (rs := [1]) (by kernel_rfl) (by simp) ?_
      refine AllReadyH.cons rfl (fun K hK => ?_) AllReadyH.nil
      go_simp
      go_wp2_with (go_at_call 26; refine (HP _ c (by exact M)).mono ?_; rintro e w4 ⟨A3, n3, c3, rfl, P3, hb, _⟩)
      refine hK.out _ _ ?_ (fun hS => ?_)
      · exact (undrewI hb).out
      clear hK K
      have M4 := AtI.keep M (undrewI hb)
      have X4 := AtI.keep X1 (undrewI hb)
      have Z4 := AtI.keep X2 (undrewI hb)
      have B4 := belO B (undrewI hb)
      have T4 := undrewI hb
      clear hb
      clear hS
      refine wpAnyH_strong (S' := fun w' => Below w4.heap.size w4 w') (fun w' h => T4.out.trans (h.mono T4.out.size)) _ _ _ _ ?_
      have hS : Below w4.heap.size w4 w4 := Below.refl _ _
      change wpAnyH _ _ _ _ _ _ _ { tmps := #[.slice A n c, .slice Ab nb cb, undef, undef, .bool false, .bool true, .slice A1 n1 c1, .bool z, .slice A2 n2 c2, .bool z, .bool true, .bool true, .bool false, .slice A n c, .int .i64 (n : Int), .bool (decide ((2000 : Int) < (n : Int))), .bool (decide ((2000 : Int) < (n : Int))), .slice Ab nb cb, .int .i64 (nb : Int), .bool (decide ((1000 : Int) < (nb : Int))), .bool (decide ((2000 : Int) < (n : Int)) || decide ((1000 : Int) < (nb : Int))), .tuple #[.slice A1 n1 c1, .bool z], .slice Ab nb cb, .tuple #[.slice A1 n1 c1, .bool z], .slice A1 n1 c1, .bool z, .tuple #[.slice A2 n2 c2, .bool z], .slice Ab nb cb, .tuple #[.slice A2 n2 c2, .bool z], .slice A2 n2 c2, .bool z, .slice A n c, .slice A3 n3 c3, undef, .slice A n c, undef, undef, undef, undef, undef, undef, undef, undef, undef, undef, undef, undef, undef], defers := [] } _
      refine wpAnyH_take (i := 2) (v := .string ⟨P.toArray⟩) rfl (by kernel_rfl) (by kernel_rfl) (by kernel_rfl) (fun _ _ _ h => h) (Or.inl ⟨by rfl, ?y2⟩) hS ?r2
      case y2 => (intro wy hSy; have hcx := str_any (c := c3) (AtB.keep P3 hSy).out.1; go_simp; try with_reducible rfl)
      change wpAnyH _ _ _ _ _ _ _ { tmps := #[.slice A n c, .slice Ab nb cb, undef, undef, .bool false, .bool true, .slice A1 n1 c1, .bool z, .slice A2 n2 c2, .bool z, .bool true, .bool true, .bool false, .slice A n c, .int .i64 (n : Int), .bool (decide ((2000 : Int) < (n : Int))), .bool (decide ((2000 : Int) < (n : Int))), .slice Ab nb cb, .int .i64 (nb : Int), .bool (decide ((1000 : Int) < (nb : Int))), .bool (decide ((2000 : Int) < (n : Int)) || decide ((1000 : Int) < (nb : Int))), .tuple #[.slice A1 n1 c1, .bool z], .slice Ab nb cb, .tuple #[.slice A1 n1 c1, .bool z], .slice A1 n1 c1, .bool z, .tuple #[.slice A2 n2 c2, .bool z], .slice Ab nb cb, .tuple #[.slice A2 n2 c2, .bool z], .slice A2 n2 c2, .bool z, .slice A n c, .slice A3 n3 c3, .string ⟨P.toArray⟩, .slice A n c, undef, undef, undef, undef, undef, undef, undef, undef, undef, undef, undef, undef, undef], defers := [] } _
      refine wpAnyH_ready (rs := [4]) (by kernel_rfl) (by simp) ?_
      refine AllReadyH.cons rfl (fun K hK => ?_) AllReadyH.nil
      go_simp
      go_wp2_with (go_at_call 27; refine (HQ _ c (by exact M4)).mono ?_; rintro e w5 ⟨A5, n5, c5, rfl, P5, hb, _⟩)
      refine hK.out _ _ ?_ (fun hS => ?_)
      · exact hb.out
      clear hK K
      have X5 := AtI.keep X4 hb
      have Z5 := AtI.keep Z4 hb
      have B5 := belO B4 hb
      have P6 := AtB.keep P3 hb
      have T5 := hb
      clear hb
      clear hS
      refine wpAnyH_strong (S' := fun w' => Below w5.heap.size w5 w') (fun w' h => T5.out.trans (h.mono T5.out.size)) _ _ _ _ ?_
      have hS : Below w5.heap.size w5 w5 := Below.refl _ _
      change wpAnyH _ _ _ _ _ _ _ { tmps := #[.slice A n c, .slice Ab nb cb, undef, undef, .bool false, .bool true, .slice A1 n1 c1, .bool z, .slice A2 n2 c2, .bool z, .bool true, .bool true, .bool false, .slice A n c, .int .i64 (n : Int), .bool (decide ((2000 : Int) < (n : Int))), .bool (decide ((2000 : Int) < (n : Int))), .slice Ab nb cb, .int .i64 (nb : Int), .bool (decide ((1000 : Int) < (nb : Int))), .bool (decide ((2000 : Int) < (n : Int)) || decide ((1000 : Int) < (nb : Int))), .tuple #[.slice A1 n1 c1, .bool z], .slice Ab nb cb, .tuple #[.slice A1 n1 c1, .bool z], .slice A1 n1 c1, .bool z, .tuple #[.slice A2 n2 c2, .bool z], .slice Ab nb cb, .tuple #[.slice A2 n2 c2, .bool z], .slice A2 n2 c2, .bool z, .slice A n c, .slice A3 n3 c3, .string ⟨P.toArray⟩, .slice A n c, .slice A5 n5 c5, undef, undef, undef, undef, undef, undef, undef, undef, undef, undef, undef, undef], defers := [] } _
      refine wpAnyH_take (i := 5) (v := .string ⟨P.toArray⟩) rfl (by kernel_rfl) (by kernel_rfl) (by kernel_rfl) (fun _ _ _ h => h) (Or.inl ⟨by rfl, ?y5⟩) hS ?r5
      case y5 => (intro wy hSy; have hcx := str_any (c := c5) (AtB.keep P5 hSy).out.1; go_simp; try with_reducible rfl)
      change wpAnyH _ _ _ _ _ _ _ { tmps := #[.slice A n c, .slice Ab nb cb, undef, undef, .bool false, .bool true, .slice A1 n1 c1, .bool z, .slice A2 n2 c2, .bool z, .bool true, .bool true, .bool false, .slice A n c, .int .i64 (n : Int), .bool (decide ((2000 : Int) < (n : Int))), .bool (decide ((2000 : Int) < (n : Int))), .slice Ab nb cb, .int .i64 (nb : Int), .bool (decide ((1000 : Int) < (nb : Int))), .bool (decide ((2000 : Int) < (n : Int)) || decide ((1000 : Int) < (nb : Int))), .tuple #[.slice A1 n1 c1, .bool z], .slice Ab nb cb, .tuple #[.slice A1 n1 c1, .bool z], .slice A1 n1 c1, .bool z, .tuple #[.slice A2 n2 c2, .bool z], .slice Ab nb cb, .tuple #[.slice A2 n2 c2, .bool z], .slice A2 n2 c2, .bool z, .slice A n c, .slice A3 n3 c3, .string ⟨P.toArray⟩, .slice A n c, .slice A5 n5 c5, .string ⟨P.toArray⟩, undef, undef, undef, undef, undef, undef, undef, undef, undef, undef, undef], defers := [] } _
      refine wpAnyH_take (i := 6) (v := (.bool true)) rfl (by kernel_rfl) (by kernel_rfl) (by kernel_rfl) (fun _ _ _ h => h) (Or.inl ⟨by rfl, ?y6⟩) hS ?r6
      case y6 => (intro wy hSy; go_simp; try with_reducible rfl)
      change wpAnyH _ _ _ _ _ _ _ { tmps := #[.slice A n c, .slice Ab nb cb, undef, undef, .bool false, .bool true, .slice A1 n1 c1, .bool z, .slice A2 n2 c2, .bool z, .bool true, .bool true, .bool false, .slice A n c, .int .i64 (n : Int), .bool (decide ((2000 : Int) < (n : Int))), .bool (decide ((2000 : Int) < (n : Int))), .slice Ab nb cb, .int .i64 (nb : Int), .bool (decide ((1000 : Int) < (nb : Int))), .bool (decide ((2000 : Int) < (n : Int)) || decide ((1000 : Int) < (nb : Int))), .tuple #[.slice A1 n1 c1, .bool z], .slice Ab nb cb, .tuple #[.slice A1 n1 c1, .bool z], .slice A1 n1 c1, .bool z, .tuple #[.slice A2 n2 c2, .bool z], .slice Ab nb cb, .tuple #[.slice A2 n2 c2, .bool z], .slice A2 n2 c2, .bool z, .slice A n c, .slice A3 n3 c3, .string ⟨P.toArray⟩, .slice A n c, .slice A5 n5 c5, .string ⟨P.toArray⟩, (.bool true), undef, undef, undef, undef, undef, undef, undef, undef, undef, undef], defers := [] } _
      refine wpAnyH_take (i := 7) (v := (.bool true)) rfl (by kernel_rfl) (by kernel_rfl) (by kernel_rfl) (fun _ _ _ h => h) (Or.inl ⟨by rfl, ?y7⟩) hS ?r7
      case y7 => (intro wy hSy; go_simp; try with_reducible rfl)
      change wpAnyH _ _ _ _ _ _ _ { tmps := #[.slice A n c, .slice Ab nb cb, undef, undef, .bool false, .bool true, .slice A1 n1 c1, .bool z, .slice A2 n2 c2, .bool z, .bool true, .bool true, .bool false, .slice A n c, .int .i64 (n : Int), .bool (decide ((2000 : Int) < (n : Int))), .bool (decide ((2000 : Int) < (n : Int))), .slice Ab nb cb, .int .i64 (nb : Int), .bool (decide ((1000 : Int) < (nb : Int))), .bool (decide ((2000 : Int) < (n : Int)) || decide ((1000 : Int) < (nb : Int))), .tuple #[.slice A1 n1 c1, .bool z], .slice Ab nb cb, .tuple #[.slice A1 n1 c1, .bool z], .slice A1 n1 c1, .bool z, .tuple #[.slice A2 n2 c2, .bool z], .slice Ab nb cb, .tuple #[.slice A2 n2 c2, .bool z], .slice A2 n2 c2, .bool z, .slice A n c, .slice A3 n3 c3, .string ⟨P.toArray⟩, .slice A n c, .slice A5 n5 c5, .string ⟨P.toArray⟩, (.bool true), (.bool true), undef, undef, undef, undef, undef, undef, undef, undef, undef], defers := [] } _
      refine wpAnyH_take (i := 8) (v := .bool z) rfl (by kernel_rfl) (by kernel_rfl) (by kernel_rfl) (fun _ _ _ h => h) (Or.inl ⟨by rfl, ?y8⟩) hS ?r8
      case y8 => (intro wy hSy; go_simp; try with_reducible rfl)
      change wpAnyH _ _ _ _ _ _ _ { tmps := #[.slice A n c, .slice Ab nb cb, undef, undef, .bool false, .bool true, .slice A1 n1 c1, .bool z, .slice A2 n2 c2, .bool z, .bool true, .bool true, .bool false, .slice A n c, .int .i64 (n : Int), .bool (decide ((2000 : Int) < (n : Int))), .bool (decide ((2000 : Int) < (n : Int))), .slice Ab nb cb, .int .i64 (nb : Int), .bool (decide ((1000 : Int) < (nb : Int))), .bool (decide ((2000 : Int) < (n : Int)) || decide ((1000 : Int) < (nb : Int))), .tuple #[.slice A1 n1 c1, .bool z], .slice Ab nb cb, .tuple #[.slice A1 n1 c1, .bool z], .slice A1 n1 c1, .bool z, .tuple #[.slice A2 n2 c2, .bool z], .slice Ab nb cb, .tuple #[.slice A2 n2 c2, .bool z], .slice A2 n2 c2, .bool z, .slice A n c, .slice A3 n3 c3, .string ⟨P.toArray⟩, .slice A n c, .slice A5 n5 c5, .string ⟨P.toArray⟩, (.bool true), (.bool true), .bool z, undef, undef, undef, undef, undef, undef, undef, undef], defers := [] } _
      refine wpAnyH_take (i := 9) (v := .bool z) rfl (by kernel_rfl) (by kernel_rfl) (by kernel_rfl) (fun _ _ _ h => h) (Or.inl ⟨by rfl, ?y9⟩) hS ?r9
      case y9 => (intro wy hSy; go_simp; try with_reducible rfl)
      change wpAnyH _ _ _ _ _ _ _ { tmps := #[.slice A n c, .slice Ab nb cb, undef, undef, .bool false, .bool true, .slice A1 n1 c1, .bool z, .slice A2 n2 c2, .bool z, .bool true, .bool true, .bool false, .slice A n c, .int .i64 (n : Int), .bool (decide ((2000 : Int) < (n : Int))), .bool (decide ((2000 : Int) < (n : Int))), .slice Ab nb cb, .int .i64 (nb : Int), .bool (decide ((1000 : Int) < (nb : Int))), .bool (decide ((2000 : Int) < (n : Int)) || decide ((1000 : Int) < (nb : Int))), .tuple #[.slice A1 n1 c1, .bool z], .slice Ab nb cb, .tuple #[.slice A1 n1 c1, .bool z], .slice A1 n1 c1, .bool z, .tuple #[.slice A2 n2 c2, .bool z], .slice Ab nb cb, .tuple #[.slice A2 n2 c2, .bool z], .slice A2 n2 c2, .bool z, .slice A n c, .slice A3 n3 c3, .string ⟨P.toArray⟩, .slice A n c, .slice A5 n5 c5, .string ⟨P.toArray⟩, (.bool true), (.bool true), .bool z, .bool z, undef, undef, undef, undef, undef, undef, undef], defers := [] } _
      refine wpAnyH_take (i := 10) (v := (.bool true)) rfl (by kernel_rfl) (by kernel_rfl) (by kernel_rfl) (fun _ _ _ h => h) (Or.inl ⟨by rfl, ?y10⟩) hS ?r10
      case y10 => (intro wy hSy; go_simp; try with_reducible rfl)
      change wpAnyH _ _ _ _ _ _ _ { tmps := #[.slice A n c, .slice Ab nb cb, undef, undef, .bool false, .bool true, .slice A1 n1 c1, .bool z, .slice A2 n2 c2, .bool z, .bool true, .bool true, .bool false, .slice A n c, .int .i64 (n : Int), .bool (decide ((2000 : Int) < (n : Int))), .bool (decide ((2000 : Int) < (n : Int))), .slice Ab nb cb, .int .i64 (nb : Int), .bool (decide ((1000 : Int) < (nb : Int))), .bool (decide ((2000 : Int) < (n : Int)) || decide ((1000 : Int) < (nb : Int))), .tuple #[.slice A1 n1 c1, .bool z], .slice Ab nb cb, .tuple #[.slice A1 n1 c1, .bool z], .slice A1 n1 c1, .bool z, .tuple #[.slice A2 n2 c2, .bool z], .slice Ab nb cb, .tuple #[.slice A2 n2 c2, .bool z], .slice A2 n2 c2, .bool z, .slice A n c, .slice A3 n3 c3, .string ⟨P.toArray⟩, .slice A n c, .slice A5 n5 c5, .string ⟨P.toArray⟩, (.bool true), (.bool true), .bool z, .bool z, (.bool true), undef, undef, undef, undef, undef, undef], defers := [] } _
      refine wpAnyH_take (i := 11) (v := (.bool true)) rfl (by kernel_rfl) (by kernel_rfl) (by kernel_rfl) (fun _ _ _ h => h) (Or.inl ⟨by rfl, ?y11⟩) hS ?r11
      case y11 => (intro wy hSy; go_simp; try with_reducible rfl)
      change wpAnyH _ _ _ _ _ _ _ { tmps := #[.slice A n c, .slice Ab nb cb, undef, undef, .bool false, .bool true, .slice A1 n1 c1, .bool z, .slice A2 n2 c2, .bool z, .bool true, .bool true, .bool false, .slice A n c, .int .i64 (n : Int), .bool (decide ((2000 : Int) < (n : Int))), .bool (decide ((2000 : Int) < (n : Int))), .slice Ab nb cb, .int .i64 (nb : Int), .bool (decide ((1000 : Int) < (nb : Int))), .bool (decide ((2000 : Int) < (n : Int)) || decide ((1000 : Int) < (nb : Int))), .tuple #[.slice A1 n1 c1, .bool z], .slice Ab nb cb, .tuple #[.slice A1 n1 c1, .bool z], .slice A1 n1 c1, .bool z, .tuple #[.slice A2 n2 c2, .bool z], .slice Ab nb cb, .tuple #[.slice A2 n2 c2, .bool z], .slice A2 n2 c2, .bool z, .slice A n c, .slice A3 n3 c3, .string ⟨P.toArray⟩, .slice A n c, .slice A5 n5 c5, .string ⟨P.toArray⟩, (.bool true), (.bool true), .bool z, .bool z, (.bool true), (.bool true), undef, undef, undef, undef, undef], defers := [] } _
      refine wpAnyH_take (i := 12) (v := (.bool true)) rfl (by kernel_rfl) (by kernel_rfl) (by kernel_rfl) (fun _ _ _ h => h) (Or.inl ⟨by rfl, ?y12⟩) hS ?r12
      case y12 => (intro wy hSy; go_simp; try with_reducible rfl)
      change wpAnyH _ _ _ _ _ _ _ { tmps := #[.slice A n c, .slice Ab nb cb, undef, undef, .bool false, .bool true, .slice A1 n1 c1, .bool z, .slice A2 n2 c2, .bool z, .bool true, .bool true, .bool false, .slice A n c, .int .i64 (n : Int), .bool (decide ((2000 : Int) < (n : Int))), .bool (decide ((2000 : Int) < (n : Int))), .slice Ab nb cb, .int .i64 (nb : Int), .bool (decide ((1000 : Int) < (nb : Int))), .bool (decide ((2000 : Int) < (n : Int)) || decide ((1000 : Int) < (nb : Int))), .tuple #[.slice A1 n1 c1, .bool z], .slice Ab nb cb, .tuple #[.slice A1 n1 c1, .bool z], .slice A1 n1 c1, .bool z, .tuple #[.slice A2 n2 c2, .bool z], .slice Ab nb cb, .tuple #[.slice A2 n2 c2, .bool z], .slice A2 n2 c2, .bool z, .slice A n c, .slice A3 n3 c3, .string ⟨P.toArray⟩, .slice A n c, .slice A5 n5 c5, .string ⟨P.toArray⟩, (.bool true), (.bool true), .bool z, .bool z, (.bool true), (.bool true), (.bool true), undef, undef, undef, undef], defers := [] } _
      refine wpAnyH_take (i := 13) (v := .slice A1 n1 c1) rfl (by kernel_rfl) (by kernel_rfl) (by kernel_rfl) (fun _ _ _ h => h) (Or.inl ⟨by rfl, ?y13⟩) hS ?r13
      case y13 => (intro wy hSy; go_simp; try with_reducible rfl)
      change wpAnyH _ _ _ _ _ _ _ { tmps := #[.slice A n c, .slice Ab nb cb, undef, undef, .bool false, .bool true, .slice A1 n1 c1, .bool z, .slice A2 n2 c2, .bool z, .bool true, .bool true, .bool false, .slice A n c, .int .i64 (n : Int), .bool (decide ((2000 : Int) < (n : Int))), .bool (decide ((2000 : Int) < (n : Int))), .slice Ab nb cb, .int .i64 (nb : Int), .bool (decide ((1000 : Int) < (nb : Int))), .bool (decide ((2000 : Int) < (n : Int)) || decide ((1000 : Int) < (nb : Int))), .tuple #[.slice A1 n1 c1, .bool z], .slice Ab nb cb, .tuple #[.slice A1 n1 c1, .bool z], .slice A1 n1 c1, .bool z, .tuple #[.slice A2 n2 c2, .bool z], .slice Ab nb cb, .tuple #[.slice A2 n2 c2, .bool z], .slice A2 n2 c2, .bool z, .slice A n c, .slice A3 n3 c3, .string ⟨P.toArray⟩, .slice A n c, .slice A5 n5 c5, .string ⟨P.toArray⟩, (.bool true), (.bool true), .bool z, .bool z, (.bool true), (.bool true), (.bool true), .slice A1 n1 c1, undef, undef, undef], defers := [] } _
      refine wpAnyH_take (i := 14) (v := .slice A2 n2 c2) rfl (by kernel_rfl) (by kernel_rfl) (by kernel_rfl) (fun _ _ _ h => h) (Or.inl ⟨by rfl, ?y14⟩) hS ?r14
      case y14 => (intro wy hSy; go_simp; try with_reducible rfl)
      change wpAnyH _ _ _ _ _ _ _ { tmps := #[.slice A n c, .slice Ab nb cb, undef, undef, .bool false, .bool true, .slice A1 n1 c1, .bool z, .slice A2 n2 c2, .bool z, .bool true, .bool true, .bool false, .slice A n c, .int .i64 (n : Int), .bool (decide ((2000 : Int) < (n : Int))), .bool (decide ((2000 : Int) < (n : Int))), .slice Ab nb cb, .int .i64 (nb : Int), .bool (decide ((1000 : Int) < (nb : Int))), .bool (decide ((2000 : Int) < (n : Int)) || decide ((1000 : Int) < (nb : Int))), .tuple #[.slice A1 n1 c1, .bool z], .slice Ab nb cb, .tuple #[.slice A1 n1 c1, .bool z], .slice A1 n1 c1, .bool z, .tuple #[.slice A2 n2 c2, .bool z], .slice Ab nb cb, .tuple #[.slice A2 n2 c2, .bool z], .slice A2 n2 c2, .bool z, .slice A n c, .slice A3 n3 c3, .string ⟨P.toArray⟩, .slice A n c, .slice A5 n5 c5, .string ⟨P.toArray⟩, (.bool true), (.bool true), .bool z, .bool z, (.bool true), (.bool true), (.bool true), .slice A1 n1 c1, .slice A2 n2 c2, undef, undef], defers := [] } _
      refine wpAnyH_ready (rs := [15]) (by kernel_rfl) (by simp) ?_
      refine AllReadyH.cons rfl (fun K hK => ?_) AllReadyH.nil
      go_simp
      go_wp2_with (go_at_call 15; refine (lYes5 c1 c2 X5 Z5 rfl).mono ?_; rintro e w6 ⟨rfl, hb⟩)
      refine hK.out _ _ ?_ (fun hS => ?_)
      · exact hb.out
      clear hK K
      have B6 := belO B5 hb
      have T6 := hb
      clear hb
      clear hS
      refine wpAnyH_strong (S' := fun w' => Below w6.heap.size w6 w') (fun w' h => T6.out.trans (h.mono T6.out.size)) _ _ _ _ ?_
      have hS : Below w6.heap.size w6 w6 := Below.refl _ _
      change wpAnyH _ _ _ _ _ _ _ { tmps := #[.slice A n c, .slice Ab nb cb, undef, undef, .bool false, .bool true, .slice A1 n1 c1, .bool z, .slice A2 n2 c2, .bool z, .bool true, .bool true, .bool false, .slice A n c, .int .i64 (n : Int), .bool (decide ((2000 : Int) < (n : Int))), .bool (decide ((2000 : Int) < (n : Int))), .slice Ab nb cb, .int .i64 (nb : Int), .bool (decide ((1000 : Int) < (nb : Int))), .bool (decide ((2000 : Int) < (n : Int)) || decide ((1000 : Int) < (nb : Int))), .tuple #[.slice A1 n1 c1, .bool z], .slice Ab nb cb, .tuple #[.slice A1 n1 c1, .bool z], .slice A1 n1 c1, .bool z, .tuple #[.slice A2 n2 c2, .bool z], .slice Ab nb cb, .tuple #[.slice A2 n2 c2, .bool z], .slice A2 n2 c2, .bool z, .slice A n c, .slice A3 n3 c3, .string ⟨P.toArray⟩, .slice A n c, .slice A5 n5 c5, .string ⟨P.toArray⟩, (.bool true), (.bool true), .bool z, .bool z, (.bool true), (.bool true), (.bool true), .slice A1 n1 c1, .slice A2 n2 c2, .bool true, undef], defers := [] } _
      refine wpAnyH_take (i := 16) (v := (.bool true)) rfl (by kernel_rfl) (by kernel_rfl) (by kernel_rfl) (fun _ _ _ h => h) (Or.inl ⟨by rfl, ?y16⟩) hS ?r16
      case y16 => (intro wy hSy; go_simp; try with_reducible rfl)
      change wpAnyH _ _ _ _ _ _ _ { tmps := #[.slice A n c, .slice Ab nb cb, undef, undef, .bool false, .bool true, .slice A1 n1 c1, .bool z, .slice A2 n2 c2, .bool z, .bool true, .bool true, .bool false, .slice A n c, .int .i64 (n : Int), .bool (decide ((2000 : Int) < (n : Int))), .bool (decide ((2000 : Int) < (n : Int))), .slice Ab nb cb, .int .i64 (nb : Int), .bool (decide ((1000 : Int) < (nb : Int))), .bool (decide ((2000 : Int) < (n : Int)) || decide ((1000 : Int) < (nb : Int))), .tuple #[.slice A1 n1 c1, .bool z], .slice Ab nb cb, .tuple #[.slice A1 n1 c1, .bool z], .slice A1 n1 c1, .bool z, .tuple #[.slice A2 n2 c2, .bool z], .slice Ab nb cb, .tuple #[.slice A2 n2 c2, .bool z], .slice A2 n2 c2, .bool z, .slice A n c, .slice A3 n3 c3, .string ⟨P.toArray⟩, .slice A n c, .slice A5 n5 c5, .string ⟨P.toArray⟩, (.bool true), (.bool true), .bool z, .bool z, (.bool true), (.bool true), (.bool true), .slice A1 n1 c1, .slice A2 n2 c2, .bool true, (.bool true)], defers := [] } _
      refine wpAnyH_take (i := 17) (v := (.bool true)) rfl (by kernel_rfl) (by kernel_rfl) (by kernel_rfl) (fun _ _ _ h => h) (Or.inl ⟨by rfl, ?y17⟩) hS ?r17
      case y17 => (intro wy hSy; go_simp; try with_reducible rfl)
      change wpAnyH _ _ _ _ _ _ _ { tmps := #[.slice A n c, .slice Ab nb cb, undef, undef, (.bool true), .bool true, .slice A1 n1 c1, .bool z, .slice A2 n2 c2, .bool z, .bool true, .bool true, .bool false, .slice A n c, .int .i64 (n : Int), .bool (decide ((2000 : Int) < (n : Int))), .bool (decide ((2000 : Int) < (n : Int))), .slice Ab nb cb, .int .i64 (nb : Int), .bool (decide ((1000 : Int) < (nb : Int))), .bool (decide ((2000 : Int) < (n : Int)) || decide ((1000 : Int) < (nb : Int))), .tuple #[.slice A1 n1 c1, .bool z], .slice Ab nb cb, .tuple #[.slice A1 n1 c1, .bool z], .slice A1 n1 c1, .bool z, .tuple #[.slice A2 n2 c2, .bool z], .slice Ab nb cb, .tuple #[.slice A2 n2 c2, .bool z], .slice A2 n2 c2, .bool z, .slice A n c, .slice A3 n3 c3, .string ⟨P.toArray⟩, .slice A n c, .slice A5 n5 c5, .string ⟨P.toArray⟩, (.bool true), (.bool true), .bool z, .bool z, (.bool true), (.bool true), (.bool true), .slice A1 n1 c1, .slice A2 n2 c2, .bool true, (.bool true)], defers := [] } _
      refine wpAnyH_done (by kernel_rfl) ?_ _
      -- END
      go_wp2_with fail
      go_ret
      exact ⟨rfl, B6.out.trans (hS.mono B6.out.size)⟩
    · have h23 : 1000 < (nb : Int) := by omega
      go_wp2_with fail
      go_ret
      exact ⟨rfl, B.out⟩
  · have h21 : 2000 < (n : Int) := by omega
    go_wp2_with fail
    go_ret
    exact ⟨rfl, B.out⟩

theorem ObjmapPacks_walk {H : Type} {enc : TypeId × Value → H} (W : World) (base : Nat) {v0 v1 : Value} {d0 : DataW H} {p0 : List MemPlace} {d1 : DataW H} {p1 : List MemPlace}
    (k0 : Value.okWide Try.prog W .any base 22 v0) (h0 : DataW.Trod enc Try.prog W 0 (fun _ => true) true 22 v0 d0 p0) (k1 : Value.okWide Try.prog W .any base 34 v1) (h1 : DataW.Trod enc Try.prog W 0 (fun _ => true) true 34 v1 d1 p1) :
    Calls Try.prog 6 #[v0, v1] W (Yes W) := by
  obtain ⟨A0, n0, c0, l0, rfl, hr0, hn0⟩ := ar_map k0 h0
  obtain ⟨A1, n1, c1, l1, rfl, hr1, hn1, hn2⟩ := ar_bytes Try.underlying34 Try.underlying5 (by kernel_rfl) k1 h1
  exact ObjmapPacks_core A0 n0 c0 l0 A1 n1 c1 l1 W hr0 hr1 hn0 (by omega) hn1
end Go.Proofs.Ytiopefndbamkhaa
