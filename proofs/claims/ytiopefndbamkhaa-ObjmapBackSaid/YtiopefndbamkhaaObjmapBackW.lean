/- The walk of ObjmapBack. -/
import Derived.Test.YtiopefndbamkhaaObAw
import Derived.Test.YtiopefndbamkhaaRegion
namespace Go.Proofs.Ytiopefndbamkhaa
open Go.ChangeShapes Go.WideShapes Go.ChangeAt Go.RowKit

theorem undrewJ {w w1 : World} (h : Hid (Below w.drew.heap.size w.drew w1)) : Hid (Below w.heap.size w w1) := ⟨h.out.os, h.out.tape, h.out.output, h.out.size, h.out.block⟩
theorem getO_rowO (m : List Int) (k : Nat) : getO (rowO m) k = getO m k := by rw [getO_nat, getO_nat, gN_rowO]
set_option maxRecDepth 10000 in
set_option maxHeartbeats 4000000 in
theorem ObjmapBack_core (A : Option Addr) (n c : Nat) (m : List Int) (Ab : Option Addr) (nb cb : Nat) (b : List UInt8) (W : World) (hr : RdI W W.heap.size A n m) (hrb : Rd W W.heap.size Ab nb b) (hn : n ≤ 9223372036854775807) (hnb : nb ≤ 9223372036854775807) (hkb : nb ≤ cb) :
    Calls Try.prog 7 #[.slice A n c, .slice Ab nb cb] W (Yes W) := by
  have R := Lib.hid hr
  have Rb := Lib.hid hrb
  have Kb := Lib.hid hkb
  clear hr hrb hkb
  go_enter Try.func7, Try.ntmps7
  go_wp2_with fail
  refine (awake5 _).mono ?_
  rintro e w1 ⟨rfl, hb1⟩
  have B := Lib.hid hb1
  clear hb1
  by_cases h20 : n ≤ 2000
  · have h21 : (n : Int) ≤ 2000 := by omega
    by_cases h22 : nb ≤ 1000
    · have h23 : (nb : Int) ≤ 1000 := by omega
      have M : Hid (AtI w1 A n m) := ⟨(R.out.below B.out).more B.out.size, by omega⟩
      have Y : Hid (AtB w1 Ab nb b) := ⟨(Rb.out.below B.out).more B.out.size, by omega⟩
      go_wp2_with fail
      refine (lPack c M).mono ?_
      rintro e w2 ⟨Ap, np, cp, rfl, P, hb, hk⟩
      replace M := AtI.keep M hb
      replace Y := AtB.keep Y hb
      replace B := belO B hb
      clear hb
      go_wp2_with fail
      refine (lUnpack cp P hk.out.2).mono ?_
      rw [show unO (packO m) = some (rowO m) from unO_pack (rowO_is m)]
      rintro e w3 ⟨Ax, nx, cx, rfl, X, hb, _⟩
      replace M := AtI.keep M hb
      replace Y := AtB.keep Y hb
      replace B := belO B hb
      replace X : Hid (AtI w3 Ax nx (rowO m)) := X
      clear hb P hk
      go_upto_region 7 with fail
      go_cut [44] (fun s44 wx => s44 = .bool false ∧ Hid (Below w3.heap.size w3 wx))
      case first =>
        go_wp2_with fail
        refine (lCheck cx X).mono ?_
        rw [show decide (IsRow (rowO m)) = true from decide_eq_true (rowO_is m)]
        rintro e w4 ⟨rfl, hb⟩
        replace M := AtI.keep M hb
        replace X := AtI.keep X hb
        have B3 := hb
        clear hb
        by_cases hrow : IsRow m
        · have He := Lib.hid (rowO_self hrow)
          go_wp2_with fail
          refine (lCheck c M).mono ?_
          rw [show decide (IsRow m) = true from decide_eq_true hrow]
          rintro e w5 ⟨rfl, hb⟩
          replace M := AtI.keep M hb
          replace X := AtI.keep X hb
          replace B3 := belO B3 hb
          clear hb hrow
          go_wp2_with fail
          refine (lYes5 cx c X M He.out).mono ?_
          rintro e w6 ⟨rfl, hb⟩
          replace B3 := belO B3 hb
          clear hb
          go_wp2_with fail
          go_meet
          exact ⟨rfl, B3⟩
        · go_wp2_with fail
          refine (lCheck c M).mono ?_
          rw [show decide (IsRow m) = false from decide_eq_false hrow]
          rintro e w5 ⟨rfl, hb⟩
          replace B3 := belO B3 hb
          clear hb hrow
          go_wp2_with fail
          go_meet
          exact ⟨rfl, B3⟩
      case rest =>
        obtain ⟨rfl, hb⟩ := hcut
        replace M := AtI.keep M hb
        replace Y := AtB.keep Y hb
        replace X := AtI.keep X hb
        replace B := belO B hb
        clear hb
        go_wp2_with fail
        go_loopw [8] (fun i wr => ∃ j : Nat, j ≤ 512 ∧ i = .int .i64 j ∧ Hid (Below wc.heap.size wc wr)) (fun i _ => 512 - (intOf i).toNat)
        case atStart => exact ⟨0, Nat.zero_le _, rfl, Below.refl _ _⟩
        case round =>
          obtain ⟨j, hj, rfl, hb⟩ := hrel
          replace M := AtI.keep M hb
          replace Y := AtB.keep Y hb
          replace X := AtI.keep X hb
          have B2 := belO B hb
          by_cases hg : j < 512 ∧ j < n + 4
          · obtain ⟨g1, g2⟩ := hg
            have j0 : (0 : Int) ≤ (j : Int) := by omega
            have j1 : (j : Int) < 512 := by omega
            have j2 : (j : Int) < (n : Int) + 4 := by omega
            have HJ := Lib.hid g1
            clear g1 g2
            go_wp2_with fail
            refine (lGet cx j X).mono ?_
            rw [getO_rowO]
            rintro e w5 ⟨rfl, hb5⟩
            replace M := AtI.keep M hb5
            replace hb := belO hb hb5
            clear hb5
            go_wp2_with fail
            refine (lGet c j M).mono ?_
            rintro e w6 ⟨rfl, hb6⟩
            replace hb := belO hb hb6
            clear hb6
            go_wp2_with fail
            go_roundw
            case rel => exact ⟨j + 1, HJ.out, by go_num, hb⟩
            case measure => have := HJ.out; simp [intOf]; omega
          · have Hg := Lib.hid hg
            clear hg X M
            go_upto_region 10 with fail
            go_cut [53] (fun s53 wx => s53 = .bool false ∧ wx = wr)
            case first =>
              by_cases j1 : (j : Int) < 512
              · have j2 : ¬ (j : Int) < (n : Int) + 4 := by have := Hg.out; omega
                go_wp2_with fail
                go_meet
                exact ⟨rfl, rfl⟩
              · go_wp2_with fail
                go_meet
                exact ⟨rfl, rfl⟩
            case rest =>
              obtain ⟨rfl, rfl⟩ := hcut
              go_wp2_with fail
              refine (lUnpack cb Y Kb.out).mono ?_
              cases hu : unO b with
              | none =>
                rintro e w7 ⟨Ay, ny, cy, rfl, Z, hb7, Ny⟩
                obtain rfl : ny = 0 := Ny.out
                replace B2 := belO B2 hb7
                clear hb7 Ny Z
                go_wp2_with fail
                go_quiet (fail)
                go_wp2_with fail
                go_ret
                exact ⟨by first | rfl | simp, B2.out.os, B2.out.tape, B2.out.output, B2.out.size, B2.out.block⟩
              | some r =>
                have hp : packO r = b := by
                  obtain ⟨q1, q2⟩ := unO_some.1 hu
                  rw [packO_self q1]; exact q2
                rintro e w7 ⟨Ay, ny, cy, rfl, Z, hb7, _⟩
                replace B2 := belO B2 hb7
                replace Y := AtB.keep Y hb7
                replace Z : Hid (AtI w7 Ay ny r) := Z
                have HP := fun w c' (h : Hid (AtI w Ay ny r)) => lPack c' h
                rw [hp] at HP
                clear hb7 hu hp
                go_upto_region 15 with fail
                -- REGION
                refine wp_region_held_drew (S := fun w' => Below w7.heap.size w7 w') (by kernel_rfl) ⟨rfl, rfl, rfl, Nat.le_refl _, fun _ _ => rfl⟩ (fun hS => ?_)
                refine wpAnyH_take (i := 0) (v := .bool true) rfl (by kernel_rfl) (by kernel_rfl) (by kernel_rfl) (fun _ _ _ h => h) (Or.inl ⟨by rfl, ?y0⟩) hS ?r0
                case y0 => (intro wy hSy; go_simp; try with_reducible rfl)
                change wpAnyH _ _ _ _ _ _ _ { tmps := #[.slice A n c, .slice Ab nb cb, undef, undef, u4, .bool true, .slice Ax nx cx, .bool true, .int .i64 (j : Int), .slice Ay ny cy, .bool true, u11, u12, u13, u14, u15, u16, u17, u18, u19, u20, u21, u22, u23, u24, u25, u26, u27, u28, u29, u30, u31, u32, u33, u34, u35, u36, u37, u38, u39, u40, u41, u42, u43, .bool false, u45, u46, u47, u48, u49, u50, u51, u52, .bool false, u54, u55, u56, u57, u58, u59, u60, u61, u62, .tuple #[.slice Ay ny cy, .bool true], .slice Ab nb cb, .tuple #[.slice Ay ny cy, .bool true], .slice Ay ny cy, .bool true, .bool true, u69, u70, u71, u72, u73, u74, u75, u76, u77, u78, u79, u80, u81, u82, u83, u84, u85], defers := [] } _
                refine wpAnyH_take (i := 1) (v := (.bool false)) rfl (by kernel_rfl) (by kernel_rfl) (by kernel_rfl) (fun _ _ _ h => h) (Or.inl ⟨by rfl, ?y1⟩) hS ?r1
                case y1 => (intro wy hSy; go_simp; try with_reducible rfl)
                change wpAnyH _ _ _ _ _ _ _ { tmps := #[.slice A n c, .slice Ab nb cb, undef, undef, u4, .bool true, .slice Ax nx cx, .bool true, .int .i64 (j : Int), .slice Ay ny cy, .bool true, u11, u12, u13, u14, u15, u16, u17, u18, u19, u20, u21, u22, u23, u24, u25, u26, u27, u28, u29, u30, u31, u32, u33, u34, u35, u36, u37, u38, u39, u40, u41, u42, u43, .bool false, u45, u46, u47, u48, u49, u50, u51, u52, .bool false, u54, u55, u56, u57, u58, u59, u60, u61, u62, .tuple #[.slice Ay ny cy, .bool true], .slice Ab nb cb, .tuple #[.slice Ay ny cy, .bool true], .slice Ay ny cy, .bool true, .bool true, (.bool false), u70, u71, u72, u73, u74, u75, u76, u77, u78, u79, u80, u81, u82, u83, u84, u85], defers := [] } _
                refine wpAnyH_take (i := 2) (v := (.bool false)) rfl (by kernel_rfl) (by kernel_rfl) (by kernel_rfl) (fun _ _ _ h => h) (Or.inl ⟨by rfl, ?y2⟩) hS ?r2
                case y2 => (intro wy hSy; go_simp; try with_reducible rfl)
                change wpAnyH _ _ _ _ _ _ _ { tmps := #[.slice A n c, .slice Ab nb cb, undef, undef, u4, .bool true, .slice Ax nx cx, .bool true, .int .i64 (j : Int), .slice Ay ny cy, .bool true, u11, u12, u13, u14, u15, u16, u17, u18, u19, u20, u21, u22, u23, u24, u25, u26, u27, u28, u29, u30, u31, u32, u33, u34, u35, u36, u37, u38, u39, u40, u41, u42, u43, .bool false, u45, u46, u47, u48, u49, u50, u51, u52, .bool false, u54, u55, u56, u57, u58, u59, u60, u61, u62, .tuple #[.slice Ay ny cy, .bool true], .slice Ab nb cb, .tuple #[.slice Ay ny cy, .bool true], .slice Ay ny cy, .bool true, .bool true, (.bool false), (.bool false), u71, u72, u73, u74, u75, u76, u77, u78, u79, u80, u81, u82, u83, u84, u85], defers := [] } _
                refine wpAnyH_take (i := 3) rfl (by kernel_rfl) (by kernel_rfl) (by kernel_rfl) (fun _ _ _ h => h) (Or.inr ⟨by rfl, rfl⟩) hS ?_
                change wpAnyH _ _ _ _ _ _ _ { tmps := #[.slice A n c, .slice Ab nb cb, undef, undef, u4, .bool true, .slice Ax nx cx, .bool true, .int .i64 (j : Int), .slice Ay ny cy, .bool true, u11, u12, u13, u14, u15, u16, u17, u18, u19, u20, u21, u22, u23, u24, u25, u26, u27, u28, u29, u30, u31, u32, u33, u34, u35, u36, u37, u38, u39, u40, u41, u42, u43, .bool false, u45, u46, u47, u48, u49, u50, u51, u52, .bool false, u54, u55, u56, u57, u58, u59, u60, u61, u62, .tuple #[.slice Ay ny cy, .bool true], .slice Ab nb cb, .tuple #[.slice Ay ny cy, .bool true], .slice Ay ny cy, .bool true, .bool true, (.bool false), (.bool false), undef, u72, u73, u74, u75, u76, u77, u78, u79, u80, u81, u82, u83, u84, u85], defers := [] } _
                refine wpAnyH_take (i := 4) rfl (by kernel_rfl) (by kernel_rfl) (by kernel_rfl) (fun _ _ _ h => h) (Or.inr ⟨by rfl, rfl⟩) hS ?_
                change wpAnyH _ _ _ _ _ _ _ { tmps := #[.slice A n c, .slice Ab nb cb, undef, undef, u4, .bool true, .slice Ax nx cx, .bool true, .int .i64 (j : Int), .slice Ay ny cy, .bool true, u11, u12, u13, u14, u15, u16, u17, u18, u19, u20, u21, u22, u23, u24, u25, u26, u27, u28, u29, u30, u31, u32, u33, u34, u35, u36, u37, u38, u39, u40, u41, u42, u43, .bool false, u45, u46, u47, u48, u49, u50, u51, u52, .bool false, u54, u55, u56, u57, u58, u59, u60, u61, u62, .tuple #[.slice Ay ny cy, .bool true], .slice Ab nb cb, .tuple #[.slice Ay ny cy, .bool true], .slice Ay ny cy, .bool true, .bool true, (.bool false), (.bool false), undef, undef, u73, u74, u75, u76, u77, u78, u79, u80, u81, u82, u83, u84, u85], defers := [] } _
                refine wpAnyH_take (i := 5) rfl (by kernel_rfl) (by kernel_rfl) (by kernel_rfl) (fun _ _ _ h => h) (Or.inr ⟨by rfl, rfl⟩) hS ?_
                change wpAnyH _ _ _ _ _ _ _ { tmps := #[.slice A n c, .slice Ab nb cb, undef, undef, u4, .bool true, .slice Ax nx cx, .bool true, .int .i64 (j : Int), .slice Ay ny cy, .bool true, u11, u12, u13, u14, u15, u16, u17, u18, u19, u20, u21, u22, u23, u24, u25, u26, u27, u28, u29, u30, u31, u32, u33, u34, u35, u36, u37, u38, u39, u40, u41, u42, u43, .bool false, u45, u46, u47, u48, u49, u50, u51, u52, .bool false, u54, u55, u56, u57, u58, u59, u60, u61, u62, .tuple #[.slice Ay ny cy, .bool true], .slice Ab nb cb, .tuple #[.slice Ay ny cy, .bool true], .slice Ay ny cy, .bool true, .bool true, (.bool false), (.bool false), undef, undef, undef, u74, u75, u76, u77, u78, u79, u80, u81, u82, u83, u84, u85], defers := [] } _
                refine wpAnyH_take (i := 6) (v := (.bool false)) rfl (by kernel_rfl) (by kernel_rfl) (by kernel_rfl) (fun _ _ _ h => h) (Or.inl ⟨by rfl, ?y6⟩) hS ?r6
                case y6 => (intro wy hSy; go_simp; try with_reducible rfl)
                change wpAnyH _ _ _ _ _ _ _ { tmps := #[.slice A n c, .slice Ab nb cb, undef, undef, u4, .bool true, .slice Ax nx cx, .bool true, .int .i64 (j : Int), .slice Ay ny cy, .bool true, u11, u12, u13, u14, u15, u16, u17, u18, u19, u20, u21, u22, u23, u24, u25, u26, u27, u28, u29, u30, u31, u32, u33, u34, u35, u36, u37, u38, u39, u40, u41, u42, u43, .bool false, u45, u46, u47, u48, u49, u50, u51, u52, .bool false, u54, u55, u56, u57, u58, u59, u60, u61, u62, .tuple #[.slice Ay ny cy, .bool true], .slice Ab nb cb, .tuple #[.slice Ay ny cy, .bool true], .slice Ay ny cy, .bool true, .bool true, (.bool false), (.bool false), undef, undef, undef, (.bool false), u75, u76, u77, u78, u79, u80, u81, u82, u83, u84, u85], defers := [] } _
                refine wpAnyH_take (i := 7) (v := (.bool false)) rfl (by kernel_rfl) (by kernel_rfl) (by kernel_rfl) (fun _ _ _ h => h) (Or.inl ⟨by rfl, ?y7⟩) hS ?r7
                case y7 => (intro wy hSy; go_simp; try with_reducible rfl)
                change wpAnyH _ _ _ _ _ _ _ { tmps := #[.slice A n c, .slice Ab nb cb, undef, undef, u4, .bool true, .slice Ax nx cx, .bool true, .int .i64 (j : Int), .slice Ay ny cy, .bool true, u11, u12, u13, u14, u15, u16, u17, u18, u19, u20, u21, u22, u23, u24, u25, u26, u27, u28, u29, u30, u31, u32, u33, u34, u35, u36, u37, u38, u39, u40, u41, u42, u43, .bool false, u45, u46, u47, u48, u49, u50, u51, u52, .bool false, u54, u55, u56, u57, u58, u59, u60, u61, u62, .tuple #[.slice Ay ny cy, .bool true], .slice Ab nb cb, .tuple #[.slice Ay ny cy, .bool true], .slice Ay ny cy, .bool true, .bool true, (.bool false), (.bool false), undef, undef, undef, (.bool false), (.bool false), u76, u77, u78, u79, u80, u81, u82, u83, u84, u85], defers := [] } _
                refine wpAnyH_take (i := 8) (v := .bool true) rfl (by kernel_rfl) (by kernel_rfl) (by kernel_rfl) (fun _ _ _ h => h) (Or.inl ⟨by rfl, ?y8⟩) hS ?r8
                case y8 => (intro wy hSy; go_simp; try with_reducible rfl)
                change wpAnyH _ _ _ _ _ _ _ { tmps := #[.slice A n c, .slice Ab nb cb, undef, undef, u4, .bool true, .slice Ax nx cx, .bool true, .int .i64 (j : Int), .slice Ay ny cy, .bool true, u11, u12, u13, u14, u15, u16, u17, u18, u19, u20, u21, u22, u23, u24, u25, u26, u27, u28, u29, u30, u31, u32, u33, u34, u35, u36, u37, u38, u39, u40, u41, u42, u43, .bool false, u45, u46, u47, u48, u49, u50, u51, u52, .bool false, u54, u55, u56, u57, u58, u59, u60, u61, u62, .tuple #[.slice Ay ny cy, .bool true], .slice Ab nb cb, .tuple #[.slice Ay ny cy, .bool true], .slice Ay ny cy, .bool true, .bool true, (.bool false), (.bool false), undef, undef, undef, (.bool false), (.bool false), .bool true, u77, u78, u79, u80, u81, u82, u83, u84, u85], defers := [] } _
                refine wpAnyH_take (i := 9) (v := .bool true) rfl (by kernel_rfl) (by kernel_rfl) (by kernel_rfl) (fun _ _ _ h => h) (Or.inl ⟨by rfl, ?y9⟩) hS ?r9
                case y9 => (intro wy hSy; go_simp; try with_reducible rfl)
                change wpAnyH _ _ _ _ _ _ _ { tmps := #[.slice A n c, .slice Ab nb cb, undef, undef, u4, .bool true, .slice Ax nx cx, .bool true, .int .i64 (j : Int), .slice Ay ny cy, .bool true, u11, u12, u13, u14, u15, u16, u17, u18, u19, u20, u21, u22, u23, u24, u25, u26, u27, u28, u29, u30, u31, u32, u33, u34, u35, u36, u37, u38, u39, u40, u41, u42, u43, .bool false, u45, u46, u47, u48, u49, u50, u51, u52, .bool false, u54, u55, u56, u57, u58, u59, u60, u61, u62, .tuple #[.slice Ay ny cy, .bool true], .slice Ab nb cb, .tuple #[.slice Ay ny cy, .bool true], .slice Ay ny cy, .bool true, .bool true, (.bool false), (.bool false), undef, undef, undef, (.bool false), (.bool false), .bool true, .bool true, u78, u79, u80, u81, u82, u83, u84, u85], defers := [] } _
                refine wpAnyH_take (i := 10) (v := .slice Ay ny cy) rfl (by kernel_rfl) (by kernel_rfl) (by kernel_rfl) (fun _ _ _ h => h) (Or.inl ⟨by rfl, ?y10⟩) hS ?r10
                case y10 => (intro wy hSy; go_simp; try with_reducible rfl)
                change wpAnyH _ _ _ _ _ _ _ { tmps := #[.slice A n c, .slice Ab nb cb, undef, undef, u4, .bool true, .slice Ax nx cx, .bool true, .int .i64 (j : Int), .slice Ay ny cy, .bool true, u11, u12, u13, u14, u15, u16, u17, u18, u19, u20, u21, u22, u23, u24, u25, u26, u27, u28, u29, u30, u31, u32, u33, u34, u35, u36, u37, u38, u39, u40, u41, u42, u43, .bool false, u45, u46, u47, u48, u49, u50, u51, u52, .bool false, u54, u55, u56, u57, u58, u59, u60, u61, u62, .tuple #[.slice Ay ny cy, .bool true], .slice Ab nb cb, .tuple #[.slice Ay ny cy, .bool true], .slice Ay ny cy, .bool true, .bool true, (.bool false), (.bool false), undef, undef, undef, (.bool false), (.bool false), .bool true, .bool true, .slice Ay ny cy, u79, u80, u81, u82, u83, u84, u85], defers := [] } _
                refine wpAnyH_take (i := 13) (v := .slice Ab nb cb) rfl (by kernel_rfl) (by kernel_rfl) (by kernel_rfl) (fun _ _ _ h => h) (Or.inl ⟨by rfl, ?y13⟩) hS ?r13
                case y13 => (intro wy hSy; go_simp; try with_reducible rfl)
                change wpAnyH _ _ _ _ _ _ _ { tmps := #[.slice A n c, .slice Ab nb cb, undef, undef, u4, .bool true, .slice Ax nx cx, .bool true, .int .i64 (j : Int), .slice Ay ny cy, .bool true, u11, u12, u13, u14, u15, u16, u17, u18, u19, u20, u21, u22, u23, u24, u25, u26, u27, u28, u29, u30, u31, u32, u33, u34, u35, u36, u37, u38, u39, u40, u41, u42, u43, .bool false, u45, u46, u47, u48, u49, u50, u51, u52, .bool false, u54, u55, u56, u57, u58, u59, u60, u61, u62, .tuple #[.slice Ay ny cy, .bool true], .slice Ab nb cb, .tuple #[.slice Ay ny cy, .bool true], .slice Ay ny cy, .bool true, .bool true, (.bool false), (.bool false), undef, undef, undef, (.bool false), (.bool false), .bool true, .bool true, .slice Ay ny cy, u79, u80, .slice Ab nb cb, u82, u83, u84, u85], defers := [] } _
                refine wpAnyH_take (i := 14) (v := .string ⟨b.toArray⟩) rfl (by kernel_rfl) (by kernel_rfl) (by kernel_rfl) (fun _ _ _ h => h) (Or.inl ⟨by rfl, ?y14⟩) hS ?r14
                case y14 => (intro wy hSy; have hcx := str_any (c := cb) (AtB.keep Y hSy).out.1; go_simp; try with_reducible rfl)
                change wpAnyH _ _ _ _ _ _ _ { tmps := #[.slice A n c, .slice Ab nb cb, undef, undef, u4, .bool true, .slice Ax nx cx, .bool true, .int .i64 (j : Int), .slice Ay ny cy, .bool true, u11, u12, u13, u14, u15, u16, u17, u18, u19, u20, u21, u22, u23, u24, u25, u26, u27, u28, u29, u30, u31, u32, u33, u34, u35, u36, u37, u38, u39, u40, u41, u42, u43, .bool false, u45, u46, u47, u48, u49, u50, u51, u52, .bool false, u54, u55, u56, u57, u58, u59, u60, u61, u62, .tuple #[.slice Ay ny cy, .bool true], .slice Ab nb cb, .tuple #[.slice Ay ny cy, .bool true], .slice Ay ny cy, .bool true, .bool true, (.bool false), (.bool false), undef, undef, undef, (.bool false), (.bool false), .bool true, .bool true, .slice Ay ny cy, u79, u80, .slice Ab nb cb, .string ⟨b.toArray⟩, u83, u84, u85], defers := [] } _
                refine wpAnyH_ready (rs := [11]) (by kernel_rfl) (by simp) ?_
                refine AllReadyH.cons rfl (fun K hK => ?_) AllReadyH.nil
                go_simp
                go_wp2_with (go_at_call 26; refine (HP _ cy (by exact Z)).mono ?_; rintro e w8 ⟨A3, n3, c3, rfl, P3, hb8, _⟩)
                refine hK.out _ _ ?_ (fun hS => ?_)
                · exact (undrewJ hb8).out
                clear hK K
                have B3 := belO B2 (undrewJ hb8)
                have T8 := undrewJ hb8
                clear hb8
                clear hS
                refine wpAnyH_strong (S' := fun w' => Below w8.heap.size w8 w') (fun w' h => T8.out.trans (h.mono T8.out.size)) _ _ _ _ ?_
                have hS : Below w8.heap.size w8 w8 := Below.refl _ _
                change wpAnyH _ _ _ _ _ _ _ { tmps := #[.slice A n c, .slice Ab nb cb, undef, undef, u4, .bool true, .slice Ax nx cx, .bool true, .int .i64 (j : Int), .slice Ay ny cy, .bool true, u11, u12, u13, u14, u15, u16, u17, u18, u19, u20, u21, u22, u23, u24, u25, u26, u27, u28, u29, u30, u31, u32, u33, u34, u35, u36, u37, u38, u39, u40, u41, u42, u43, .bool false, u45, u46, u47, u48, u49, u50, u51, u52, .bool false, u54, u55, u56, u57, u58, u59, u60, u61, u62, .tuple #[.slice Ay ny cy, .bool true], .slice Ab nb cb, .tuple #[.slice Ay ny cy, .bool true], .slice Ay ny cy, .bool true, .bool true, (.bool false), (.bool false), undef, undef, undef, (.bool false), (.bool false), .bool true, .bool true, .slice Ay ny cy, .slice A3 n3 c3, u80, .slice Ab nb cb, .string ⟨b.toArray⟩, u83, u84, u85], defers := [] } _
                refine wpAnyH_take (i := 12) (v := .string ⟨b.toArray⟩) rfl (by kernel_rfl) (by kernel_rfl) (by kernel_rfl) (fun _ _ _ h => h) (Or.inl ⟨by rfl, ?y12⟩) hS ?r12
                case y12 => (intro wy hSy; have hcx := str_any (c := c3) (AtB.keep P3 hSy).out.1; go_simp; try with_reducible rfl)
                change wpAnyH _ _ _ _ _ _ _ { tmps := #[.slice A n c, .slice Ab nb cb, undef, undef, u4, .bool true, .slice Ax nx cx, .bool true, .int .i64 (j : Int), .slice Ay ny cy, .bool true, u11, u12, u13, u14, u15, u16, u17, u18, u19, u20, u21, u22, u23, u24, u25, u26, u27, u28, u29, u30, u31, u32, u33, u34, u35, u36, u37, u38, u39, u40, u41, u42, u43, .bool false, u45, u46, u47, u48, u49, u50, u51, u52, .bool false, u54, u55, u56, u57, u58, u59, u60, u61, u62, .tuple #[.slice Ay ny cy, .bool true], .slice Ab nb cb, .tuple #[.slice Ay ny cy, .bool true], .slice Ay ny cy, .bool true, .bool true, (.bool false), (.bool false), undef, undef, undef, (.bool false), (.bool false), .bool true, .bool true, .slice Ay ny cy, .slice A3 n3 c3, .string ⟨b.toArray⟩, .slice Ab nb cb, .string ⟨b.toArray⟩, u83, u84, u85], defers := [] } _
                refine wpAnyH_take (i := 15) (v := (.bool true)) rfl (by kernel_rfl) (by kernel_rfl) (by kernel_rfl) (fun _ _ _ h => h) (Or.inl ⟨by rfl, ?y15⟩) hS ?r15
                case y15 => (intro wy hSy; go_simp; try with_reducible rfl)
                change wpAnyH _ _ _ _ _ _ _ { tmps := #[.slice A n c, .slice Ab nb cb, undef, undef, u4, .bool true, .slice Ax nx cx, .bool true, .int .i64 (j : Int), .slice Ay ny cy, .bool true, u11, u12, u13, u14, u15, u16, u17, u18, u19, u20, u21, u22, u23, u24, u25, u26, u27, u28, u29, u30, u31, u32, u33, u34, u35, u36, u37, u38, u39, u40, u41, u42, u43, .bool false, u45, u46, u47, u48, u49, u50, u51, u52, .bool false, u54, u55, u56, u57, u58, u59, u60, u61, u62, .tuple #[.slice Ay ny cy, .bool true], .slice Ab nb cb, .tuple #[.slice Ay ny cy, .bool true], .slice Ay ny cy, .bool true, .bool true, (.bool false), (.bool false), undef, undef, undef, (.bool false), (.bool false), .bool true, .bool true, .slice Ay ny cy, .slice A3 n3 c3, .string ⟨b.toArray⟩, .slice Ab nb cb, .string ⟨b.toArray⟩, (.bool true), u84, u85], defers := [] } _
                refine wpAnyH_take (i := 16) (v := (.bool true)) rfl (by kernel_rfl) (by kernel_rfl) (by kernel_rfl) (fun _ _ _ h => h) (Or.inl ⟨by rfl, ?y16⟩) hS ?r16
                case y16 => (intro wy hSy; go_simp; try with_reducible rfl)
                change wpAnyH _ _ _ _ _ _ _ { tmps := #[.slice A n c, .slice Ab nb cb, undef, undef, u4, .bool true, .slice Ax nx cx, .bool true, .int .i64 (j : Int), .slice Ay ny cy, .bool true, u11, u12, u13, u14, u15, u16, u17, u18, u19, u20, u21, u22, u23, u24, u25, u26, u27, u28, u29, u30, u31, u32, u33, u34, u35, u36, u37, u38, u39, u40, u41, u42, u43, .bool false, u45, u46, u47, u48, u49, u50, u51, u52, .bool false, u54, u55, u56, u57, u58, u59, u60, u61, u62, .tuple #[.slice Ay ny cy, .bool true], .slice Ab nb cb, .tuple #[.slice Ay ny cy, .bool true], .slice Ay ny cy, .bool true, .bool true, (.bool false), (.bool false), undef, undef, undef, (.bool false), (.bool false), .bool true, .bool true, .slice Ay ny cy, .slice A3 n3 c3, .string ⟨b.toArray⟩, .slice Ab nb cb, .string ⟨b.toArray⟩, (.bool true), (.bool true), u85], defers := [] } _
                refine wpAnyH_take (i := 17) (v := (.bool true)) rfl (by kernel_rfl) (by kernel_rfl) (by kernel_rfl) (fun _ _ _ h => h) (Or.inl ⟨by rfl, ?y17⟩) hS ?r17
                case y17 => (intro wy hSy; go_simp; try with_reducible rfl)
                change wpAnyH _ _ _ _ _ _ _ { tmps := #[.slice A n c, .slice Ab nb cb, undef, undef, u4, .bool true, .slice Ax nx cx, .bool true, .int .i64 (j : Int), .slice Ay ny cy, .bool true, u11, u12, u13, u14, u15, u16, u17, u18, u19, u20, u21, u22, u23, u24, u25, u26, u27, u28, u29, u30, u31, u32, u33, u34, u35, u36, u37, u38, u39, u40, u41, u42, u43, .bool false, u45, u46, u47, u48, u49, u50, u51, u52, .bool false, u54, u55, u56, u57, u58, u59, u60, u61, u62, .tuple #[.slice Ay ny cy, .bool true], .slice Ab nb cb, .tuple #[.slice Ay ny cy, .bool true], .slice Ay ny cy, .bool true, .bool true, (.bool false), (.bool false), undef, undef, undef, (.bool false), (.bool false), .bool true, .bool true, .slice Ay ny cy, .slice A3 n3 c3, .string ⟨b.toArray⟩, .slice Ab nb cb, .string ⟨b.toArray⟩, (.bool true), (.bool true), (.bool true)], defers := [] } _
                refine wpAnyH_take (i := 18) (v := (.bool true)) rfl (by kernel_rfl) (by kernel_rfl) (by kernel_rfl) (fun _ _ _ h => h) (Or.inl ⟨by rfl, ?y18⟩) hS ?r18
                case y18 => (intro wy hSy; go_simp; try with_reducible rfl)
                change wpAnyH _ _ _ _ _ _ _ { tmps := #[.slice A n c, .slice Ab nb cb, undef, undef, (.bool true), .bool true, .slice Ax nx cx, .bool true, .int .i64 (j : Int), .slice Ay ny cy, .bool true, u11, u12, u13, u14, u15, u16, u17, u18, u19, u20, u21, u22, u23, u24, u25, u26, u27, u28, u29, u30, u31, u32, u33, u34, u35, u36, u37, u38, u39, u40, u41, u42, u43, .bool false, u45, u46, u47, u48, u49, u50, u51, u52, .bool false, u54, u55, u56, u57, u58, u59, u60, u61, u62, .tuple #[.slice Ay ny cy, .bool true], .slice Ab nb cb, .tuple #[.slice Ay ny cy, .bool true], .slice Ay ny cy, .bool true, .bool true, (.bool false), (.bool false), undef, undef, undef, (.bool false), (.bool false), .bool true, .bool true, .slice Ay ny cy, .slice A3 n3 c3, .string ⟨b.toArray⟩, .slice Ab nb cb, .string ⟨b.toArray⟩, (.bool true), (.bool true), (.bool true)], defers := [] } _
                refine wpAnyH_done (by kernel_rfl) ?_ _
                -- END
                go_wp2_with fail
                go_ret
                exact ⟨rfl, B3.out.trans (hS.mono B3.out.size)⟩
    · have h23 : 1000 < (nb : Int) := by omega
      go_wp2_with fail
      go_ret
      exact ⟨rfl, B.out⟩
  · have h21 : 2000 < (n : Int) := by omega
    go_wp2_with fail
    go_ret
    exact ⟨rfl, B.out⟩

theorem ObjmapBack_walk {H : Type} {enc : TypeId × Value → H} (W : World) (base : Nat) {v0 v1 : Value} {d0 : DataW H} {p0 : List MemPlace} {d1 : DataW H} {p1 : List MemPlace}
    (k0 : Value.okWide Try.prog W .any base 22 v0) (h0 : DataW.Trod enc Try.prog W 0 (fun _ => true) true 22 v0 d0 p0) (k1 : Value.okWide Try.prog W .any base 34 v1) (h1 : DataW.Trod enc Try.prog W 0 (fun _ => true) true 34 v1 d1 p1) :
    Calls Try.prog 7 #[v0, v1] W (Yes W) := by
  obtain ⟨A0, n0, c0, l0, rfl, hr0, hn0⟩ := ar_map k0 h0
  obtain ⟨A1, n1, c1, l1, rfl, hr1, hn1, hn2⟩ := ar_bytes Try.underlying34 Try.underlying5 (by kernel_rfl) k1 h1
  exact ObjmapBack_core A0 n0 c0 l0 A1 n1 c1 l1 W hr0 hr1 hn0 (by omega) hn1
end Go.Proofs.Ytiopefndbamkhaa
