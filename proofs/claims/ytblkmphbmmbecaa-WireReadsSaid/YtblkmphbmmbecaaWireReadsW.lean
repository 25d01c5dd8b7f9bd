/- The walk of WireReads. -/
import Derived.Test.YtblkmphbmmbecaaWireRE
import Derived.Test.YtblkmphbmmbecaaWireRF
import Derived.Deep.CutBlock
import Derived.BigQuiet
namespace Go.Proofs.Ytblkmphbmmbecaa
open Go.ChangeShapes Go.WideShapes Go.ChangeAt Go.RowKit

theorem Rd.side {w w' : World} {A : Option Addr} {n q : Nat} {l : List UInt8} (h : Rd w w.heap.size A n l) (hg : w.grownBy w' (some q)) (hne : ∀ ad, A = some ad → ad.block ≠ q) : Rd w' w'.heap.size A n l := by
  refine ⟨h.1, fun hn => ?_⟩
  obtain ⟨ad, e, hB, hc⟩ := h.2 hn
  exact ⟨ad, e, Nat.lt_of_lt_of_le hB hg.size, fun j hj => (World.cell?_of_block (hg.block _ (by rw [addB]; exact hB) (by rw [addB]; simpa using hne ad e))).trans (hc j hj)⟩
theorem RdI.side {w w' : World} {A : Option Addr} {n q : Nat} {l : List Int} (h : RdI w w.heap.size A n l) (hg : w.grownBy w' (some q)) (hne : ∀ ad, A = some ad → ad.block ≠ q) : RdI w' w'.heap.size A n l := by
  refine ⟨h.1, fun hn => ?_⟩
  obtain ⟨ad, e, hB, hc⟩ := h.2 hn
  exact ⟨ad, e, Nat.lt_of_lt_of_le hB hg.size, fun j hj => (World.cell?_of_block (hg.block _ (by rw [addB]; exact hB) (by rw [addB]; simpa using hne ad e))).trans (hc j hj)⟩
theorem Both.drew {w : World} {g h B : Nat} {l : List UInt8} {e : Int} (H : Both w g h B l e) : Both w.drew g h B l e := H

set_option maxRecDepth 100000 in
set_option maxHeartbeats 8000000 in
theorem WireReads_core (A : Option Addr) (n c : Nat) (b : List UInt8) (As : Option Addr) (ns cs : Nat) (rs : List SRec) (W : World) (hr : Rd W W.heap.size A n b) (hnc : n ≤ c) (hc : c ≤ 9223372036854775807)
    (hs : RdS W W.heap.size As ns rs) (_hns : ns ≤ cs) (_hcs : cs ≤ 9223372036854775807) :
    Calls Try.prog 4 #[.slice A n c, .slice As ns cs] W (Yes W) := by
  by_cases hn : n ≤ 10000
  · have Hr := Lib.hid hr
    have Hs := Lib.hid hs
    clear hr hs
    go_enter Try.func4, Try.ntmps4
    go_wp2_with (first
      | (go_at_call 9; refine (awake_any _).mono ?_; rintro e w1 ⟨rfl, hb1⟩; have Hb1 := Lib.hid hb1; clear hb1)
      | (go_at_call 16; refine (Read_any A n c b _ ((Hr.out.below Hb1.out).more Hb1.out.size) (by omega)).mono ?_; rintro e w2 ⟨g, rfl, hR, hg, hb2⟩; have HR := Lib.hid hR; have hgW := Nat.le_trans Hb1.out.size hg; have Hb2 := Lib.hid (Hb1.out.trans (hb2.mono Hb1.out.size)); clear hR hb2 hg))
    have hX : RefX (w2.alloc (.cells #[.slice A n c, .int .i64 0] 40)) w2.heap.size W.heap.size A n c b 0 := ⟨heap_alloc_new _ _, hnc, hc, ((Hr.out.below Hb2.out).alloc Hb2.out.size _), Hb2.out.size⟩
    have hgh : g < w2.heap.size := by obtain ⟨_, _, _, h1, _⟩ := HR.out; exact lt_of_block h1
    have hBo : Both (w2.alloc (.cells #[.slice A n c, .int .i64 0] 40)) g w2.heap.size W.heap.size b 0 :=
      ⟨HR.out.besides (World.grownBy_alloc w2 _ (some w2.heap.size)) hgh, ⟨A, n, c, by rw [clr_0]; exact hX⟩, hgh, hgW⟩
    have hWd := Hb2.out.alloc Hb2.out.size (.cells #[.slice A n c, .int .i64 0] 40)
    clear hX HR Hb2 Hb1 hgW hgh
    generalize w2.alloc (.cells #[.slice A n c, .int .i64 0] 40) = w3 at *
    generalize w2.heap.size = h at *
    have HBo := Lib.hid hBo
    have HWd := Lib.hid hWd
    clear hBo hWd
    go_loopw [4, 8, 9, 10, 11, 40, 53, 67, 83] (fun z i _ _ _ _ _ _ _ wr => z = .bool false ∧ ∃ j : Nat, j ≤ ns ∧ i = .int .i64 j ∧ ∃ l e, Both wr g h W.heap.size l e ∧ Below W.heap.size W wr) (fun _ i _ _ _ _ _ _ _ _ => ns - (intOf i).toNat)
    case atStart => exact ⟨rfl, 0, Nat.zero_le _, rfl, b, 0, HBo.out, HWd.out⟩
    case round =>
      clear HBo HWd
      obtain ⟨rfl, j, hj, rfl, l, e, hBo, hWd⟩ := hrel
      have HBo := Lib.hid hBo
      have HWd := Lib.hid hWd
      clear hBo hWd
      by_cases hjs : j < ns
      · by_cases h60 : j < 60
        · have hrl := Hs.out.1
          have hrw := Hs.out.below HWd.out
          obtain ⟨ad, rfl, hadB, hcells⟩ := hrw.2.2 (by omega)
          have hcell := hcells j (by omega)
          obtain ⟨r, hre⟩ : ∃ r, r = rs[j]'(by omega) := ⟨_, rfl⟩
          rw [← hre] at hcell
          obtain ⟨m1, m2⟩ := cell3_at ad (j * 3) r hcell
          have k0 := hcell.1
          clear hre hcell hcells hrw hrl
          go_upto_block 2 with fail
          have hBx := Box3.new wr 42 (.int .i64 r.kd) (.int .i64 r.wd) (.int .i64 r.mo)
          have hB4 := HBo.out.alloc (.cells #[.int .i64 r.kd, .int .i64 r.wd, .int .i64 r.mo] 42)
          have hW4 := HWd.out.alloc HWd.out.size (.cells #[.int .i64 r.kd, .int .i64 r.wd, .int .i64 r.mo] 42)
          have hxh := HBo.out.lt
          have hxW := HWd.out.size
          clear k0 m1 m2 HBo HWd
          generalize wr.alloc (.cells #[.int .i64 r.kd, .int .i64 r.wd, .int .i64 r.mo] 42) = w4 at *
          generalize wr.heap.size = q at *
          obtain ⟨k0, k1, k2⟩ := hBx.cells
          have HBx := Lib.hid hBx
          have HB4 := Lib.hid hB4
          have HW4 := Lib.hid hW4
          clear hBx hB4 hW4
          generalize hm : bits .and .i64 r.kd 7 = m at *
          go_cut [10] (fun s wx => s = .bool true ∧ ∃ l' e', Hid (Both wx g h W.heap.size l' e') ∧ Hid (Below W.heap.size W wx))
          case first =>
            have hgW : W.heap.size ≤ g := hxh.2.1
            have hhW : W.heap.size ≤ h := by omega
            have hqg : q ≠ g := by omega
            have hqh : q ≠ h := by omega
            have hm8 := kind_cases r.kd
            rw [hm] at hm8
            clear hm
            rcases hm8 with rfl | rfl | rfl | rfl | rfl | rfl | rfl | rfl
            · have hN1 := fun W' (K : Rdr W' g l e) => RNum_any g l e r.wd W' K
              have hN2 := fun W' (K : Ref W' h W.heap.size (clr l e) e) => RfNum_any h W.heap.size l e r.wd W' K
              generalize rdNum l e r.wd = R3 at *
              obtain ⟨Q, L, E⟩ := R3
              dsimp only at hN1 hN2
              have HN1 := Lib.hid hN1
              have HN2 := Lib.hid hN2
              clear hN1 hN2
              go_upto_region 17 with fail
              go_region_held3 (fun w' => w'.cell? ⟨q, 0, none⟩ = some (.int .i64 r.kd) ∧ w'.cell? ⟨q, 1, none⟩ = some (.int .i64 r.wd) ∧ w'.cell? ⟨q, 2, none⟩ = some (.int .i64 r.mo)) (go_keep) (first
                | (go_at_call 17; refine (HN1.out _ HB4.out.drew.left).mono ?_; rintro x w5 ⟨rfl, h5, g5⟩; have hB5 := HBx.out.drew.grown g5 hqg; obtain ⟨k0', k1', k2'⟩ := hB5.cells; have HBx5 := Lib.hid hB5; have H5 := Lib.hid h5; have R5 := Lib.hid (HB4.out.drew.one g5); have W5 := Lib.hid (below_two HW4.out.drew g5 hgW); clear h5 g5 hB5)
                | (go_at_call 18; refine (HN2.out _ R5.out).mono ?_; rintro x w6 ⟨rfl, h6, g6⟩; have hB6 := HBx5.out.grown g6 hqh; obtain ⟨k0', k1', k2'⟩ := hB6.cells; have T6 := Lib.hid (HB4.out.drew.two H5.out g6 h6); have W6 := Lib.hid (below_two W5.out g6 hhW); clear h6 g6 hB6))
              all_goals
                go_wp2_with fail
                go_meet
                exact ⟨rfl, _, _, T6, W6⟩
            · have hN1 := fun W' (K : Rdr W' g l e) => RNum_any g l e r.wd W' K
              have hN2 := fun W' (K : Ref W' h W.heap.size (clr l e) e) => RfNum_any h W.heap.size l e r.wd W' K
              generalize rdNum l e r.wd = R3 at *
              obtain ⟨Q, L, E⟩ := R3
              dsimp only at hN1 hN2
              have HN1 := Lib.hid hN1
              have HN2 := Lib.hid hN2
              clear hN1 hN2
              go_upto_region 17 with fail
              go_region_held3 (fun w' => w'.cell? ⟨q, 0, none⟩ = some (.int .i64 r.kd) ∧ w'.cell? ⟨q, 1, none⟩ = some (.int .i64 r.wd) ∧ w'.cell? ⟨q, 2, none⟩ = some (.int .i64 r.mo)) (go_keep) (first
                | (go_at_call 17; refine (HN1.out _ HB4.out.drew.left).mono ?_; rintro x w5 ⟨rfl, h5, g5⟩; have hB5 := HBx.out.drew.grown g5 hqg; obtain ⟨k0', k1', k2'⟩ := hB5.cells; have HBx5 := Lib.hid hB5; have H5 := Lib.hid h5; have R5 := Lib.hid (HB4.out.drew.one g5); have W5 := Lib.hid (below_two HW4.out.drew g5 hgW); clear h5 g5 hB5)
                | (go_at_call 18; refine (HN2.out _ R5.out).mono ?_; rintro x w6 ⟨rfl, h6, g6⟩; have hB6 := HBx5.out.grown g6 hqh; obtain ⟨k0', k1', k2'⟩ := hB6.cells; have T6 := Lib.hid (HB4.out.drew.two H5.out g6 h6); have W6 := Lib.hid (below_two W5.out g6 hhW); clear h6 g6 hB6))
              all_goals
                go_wp2_with fail
                go_meet
                exact ⟨rfl, _, _, T6, W6⟩
            · have hN1 := fun W' (K : Rdr W' g l e) => RNum_any g l e r.wd W' K
              have hN2 := fun W' (K : Ref W' h W.heap.size (clr l e) e) => RfNum_any h W.heap.size l e r.wd W' K
              generalize rdNum l e r.wd = R3 at *
              obtain ⟨Q, L, E⟩ := R3
              dsimp only at hN1 hN2
              have HN1 := Lib.hid hN1
              have HN2 := Lib.hid hN2
              clear hN1 hN2
              go_upto_region 17 with fail
              go_region_held3 (fun w' => w'.cell? ⟨q, 0, none⟩ = some (.int .i64 r.kd) ∧ w'.cell? ⟨q, 1, none⟩ = some (.int .i64 r.wd) ∧ w'.cell? ⟨q, 2, none⟩ = some (.int .i64 r.mo)) (go_keep) (first
                | (go_at_call 17; refine (HN1.out _ HB4.out.drew.left).mono ?_; rintro x w5 ⟨rfl, h5, g5⟩; have hB5 := HBx.out.drew.grown g5 hqg; obtain ⟨k0', k1', k2'⟩ := hB5.cells; have HBx5 := Lib.hid hB5; have H5 := Lib.hid h5; have R5 := Lib.hid (HB4.out.drew.one g5); have W5 := Lib.hid (below_two HW4.out.drew g5 hgW); clear h5 g5 hB5)
                | (go_at_call 18; refine (HN2.out _ R5.out).mono ?_; rintro x w6 ⟨rfl, h6, g6⟩; have hB6 := HBx5.out.grown g6 hqh; obtain ⟨k0', k1', k2'⟩ := hB6.cells; have T6 := Lib.hid (HB4.out.drew.two H5.out g6 h6); have W6 := Lib.hid (below_two W5.out g6 hhW); clear h6 g6 hB6))
              all_goals
                go_wp2_with fail
                go_meet
                exact ⟨rfl, _, _, T6, W6⟩
            · have hN1 := fun W' (K : Rdr W' g l e) => RBlobN_any g l e r.mo W' K
              have hN2 := fun W' (K : Ref W' h W.heap.size (clr l e) e) => RfBlob_any h W.heap.size l e r.mo W' K
              generalize rdBlob l e r.mo = R3 at *
              obtain ⟨Q, L, E⟩ := R3
              dsimp only at hN1 hN2
              have HN1 := Lib.hid hN1
              have HN2 := Lib.hid hN2
              clear hN1 hN2
              go_upto_region 20 with fail
              refine wp_region_held_drew (S := fun w' => Box3 w' q 42 (.int .i64 r.kd) (.int .i64 r.wd) (.int .i64 r.mo)) (by kernel_rfl) HBx.out.drew (fun hS => ?_)
              refine wpAnyH_take (i := 0) (v := .pointer (some ⟨g, 0, none⟩)) rfl (by kernel_rfl) (by kernel_rfl) (by kernel_rfl) (fun _ _ _ h => h) (Or.inl ⟨by rfl, ?y0⟩) hS ?r0
              case y0 => (intro wy hSy; go_simp; try with_reducible rfl)
              change wpAnyH _ _ _ _ _ _ _ { tmps := #[.slice A n c, .slice (some ad) ns cs, undef, undef, .bool false, .bool true, .pointer (some ⟨g, 0, none⟩), .pointer (some ⟨h, 0, none⟩), .int .i64 (j : Int), .pointer (some ⟨q, 0, none⟩), .bool true, u11, .bool true, .bool true, .bool false, .slice A n c, .int .i64 (n : Int), .bool (decide ((10000 : Int) < (n : Int))), .slice A n c, .pointer (some ⟨g, 0, none⟩), .slice A n c, .agg #[.slice A n c, .int .i64 0], .pointer (some ⟨h, 0, none⟩), .int .i64 (j : Int), .slice (some ad) ns cs, .int .i64 (ns : Int), .bool true, .bool true, .int .i64 (j : Int), .bool (decide ((j : Int) < (60 : Int))), .bool (decide ((j : Int) < (60 : Int))), u31, u32, .slice (some ad) ns cs, .int .i64 (j : Int), .pointer (some (ad.add (j * 3))), .agg #[.int .i64 r.kd, .int .i64 r.wd, .int .i64 r.mo], .pointer (some ⟨q, 0, none⟩), .int .i64 r.kd, .int .i64 3, .bool false, .bool false, .bool false, .bool false, u44, u45, u46, u47, u48, u49, u50, u51, u52, .bool true, .bool true, u55, .pointer (some ⟨g, 0, none⟩), u57, u58, u59, u60, u61, u62, u63, u64, u65, u66, u67, u68, u69, u70, u71, u72, u73, u74, u75, u76, u77, u78, u79, u80, u81, u82, u83, u84, u85, u86, u87, u88, u89, u90, u91, u92, u93, u94, u95, u96, u97, u98, u99, u100, u101, u102, u103, u104, u105, u106, u107, u108, u109, u110, u111, u112, u113, u114, undef, undef, undef, undef, undef, undef, undef, undef, undef, undef, undef, undef, undef, undef], defers := [] } _
              refine wpAnyH_take (i := 1) (v := .pointer (some ⟨q, 2, none⟩)) rfl (by kernel_rfl) (by kernel_rfl) (by kernel_rfl) (fun _ _ _ h => h) (Or.inl ⟨by rfl, ?y1⟩) hS ?r1
              case y1 => (intro wy hSy; go_simp; try with_reducible rfl)
              change wpAnyH _ _ _ _ _ _ _ { tmps := #[.slice A n c, .slice (some ad) ns cs, undef, undef, .bool false, .bool true, .pointer (some ⟨g, 0, none⟩), .pointer (some ⟨h, 0, none⟩), .int .i64 (j : Int), .pointer (some ⟨q, 0, none⟩), .bool true, u11, .bool true, .bool true, .bool false, .slice A n c, .int .i64 (n : Int), .bool (decide ((10000 : Int) < (n : Int))), .slice A n c, .pointer (some ⟨g, 0, none⟩), .slice A n c, .agg #[.slice A n c, .int .i64 0], .pointer (some ⟨h, 0, none⟩), .int .i64 (j : Int), .slice (some ad) ns cs, .int .i64 (ns : Int), .bool true, .bool true, .int .i64 (j : Int), .bool (decide ((j : Int) < (60 : Int))), .bool (decide ((j : Int) < (60 : Int))), u31, u32, .slice (some ad) ns cs, .int .i64 (j : Int), .pointer (some (ad.add (j * 3))), .agg #[.int .i64 r.kd, .int .i64 r.wd, .int .i64 r.mo], .pointer (some ⟨q, 0, none⟩), .int .i64 r.kd, .int .i64 3, .bool false, .bool false, .bool false, .bool false, u44, u45, u46, u47, u48, u49, u50, u51, u52, .bool true, .bool true, u55, .pointer (some ⟨g, 0, none⟩), .pointer (some ⟨q, 2, none⟩), u58, u59, u60, u61, u62, u63, u64, u65, u66, u67, u68, u69, u70, u71, u72, u73, u74, u75, u76, u77, u78, u79, u80, u81, u82, u83, u84, u85, u86, u87, u88, u89, u90, u91, u92, u93, u94, u95, u96, u97, u98, u99, u100, u101, u102, u103, u104, u105, u106, u107, u108, u109, u110, u111, u112, u113, u114, undef, undef, undef, undef, undef, undef, undef, undef, undef, undef, undef, undef, undef, undef], defers := [] } _
              refine wpAnyH_take (i := 2) (v := .int .i64 r.mo) rfl (by kernel_rfl) (by kernel_rfl) (by kernel_rfl) (fun _ _ _ h => h) (Or.inl ⟨by rfl, ?y2⟩) hS ?r2
              case y2 => (intro wy hSy; obtain ⟨b0, b1, b2⟩ := hSy.cells; go_simp; try with_reducible rfl)
              change wpAnyH _ _ _ _ _ _ _ { tmps := #[.slice A n c, .slice (some ad) ns cs, undef, undef, .bool false, .bool true, .pointer (some ⟨g, 0, none⟩), .pointer (some ⟨h, 0, none⟩), .int .i64 (j : Int), .pointer (some ⟨q, 0, none⟩), .bool true, u11, .bool true, .bool true, .bool false, .slice A n c, .int .i64 (n : Int), .bool (decide ((10000 : Int) < (n : Int))), .slice A n c, .pointer (some ⟨g, 0, none⟩), .slice A n c, .agg #[.slice A n c, .int .i64 0], .pointer (some ⟨h, 0, none⟩), .int .i64 (j : Int), .slice (some ad) ns cs, .int .i64 (ns : Int), .bool true, .bool true, .int .i64 (j : Int), .bool (decide ((j : Int) < (60 : Int))), .bool (decide ((j : Int) < (60 : Int))), u31, u32, .slice (some ad) ns cs, .int .i64 (j : Int), .pointer (some (ad.add (j * 3))), .agg #[.int .i64 r.kd, .int .i64 r.wd, .int .i64 r.mo], .pointer (some ⟨q, 0, none⟩), .int .i64 r.kd, .int .i64 3, .bool false, .bool false, .bool false, .bool false, u44, u45, u46, u47, u48, u49, u50, u51, u52, .bool true, .bool true, u55, .pointer (some ⟨g, 0, none⟩), .pointer (some ⟨q, 2, none⟩), .int .i64 r.mo, u59, u60, u61, u62, u63, u64, u65, u66, u67, u68, u69, u70, u71, u72, u73, u74, u75, u76, u77, u78, u79, u80, u81, u82, u83, u84, u85, u86, u87, u88, u89, u90, u91, u92, u93, u94, u95, u96, u97, u98, u99, u100, u101, u102, u103, u104, u105, u106, u107, u108, u109, u110, u111, u112, u113, u114, undef, undef, undef, undef, undef, undef, undef, undef, undef, undef, undef, undef, undef, undef], defers := [] } _
              refine wpAnyH_take (i := 5) (v := .pointer (some ⟨h, 0, none⟩)) rfl (by kernel_rfl) (by kernel_rfl) (by kernel_rfl) (fun _ _ _ h => h) (Or.inl ⟨by rfl, ?y5⟩) hS ?r5
              case y5 => (intro wy hSy; go_simp; try with_reducible rfl)
              change wpAnyH _ _ _ _ _ _ _ { tmps := #[.slice A n c, .slice (some ad) ns cs, undef, undef, .bool false, .bool true, .pointer (some ⟨g, 0, none⟩), .pointer (some ⟨h, 0, none⟩), .int .i64 (j : Int), .pointer (some ⟨q, 0, none⟩), .bool true, u11, .bool true, .bool true, .bool false, .slice A n c, .int .i64 (n : Int), .bool (decide ((10000 : Int) < (n : Int))), .slice A n c, .pointer (some ⟨g, 0, none⟩), .slice A n c, .agg #[.slice A n c, .int .i64 0], .pointer (some ⟨h, 0, none⟩), .int .i64 (j : Int), .slice (some ad) ns cs, .int .i64 (ns : Int), .bool true, .bool true, .int .i64 (j : Int), .bool (decide ((j : Int) < (60 : Int))), .bool (decide ((j : Int) < (60 : Int))), u31, u32, .slice (some ad) ns cs, .int .i64 (j : Int), .pointer (some (ad.add (j * 3))), .agg #[.int .i64 r.kd, .int .i64 r.wd, .int .i64 r.mo], .pointer (some ⟨q, 0, none⟩), .int .i64 r.kd, .int .i64 3, .bool false, .bool false, .bool false, .bool false, u44, u45, u46, u47, u48, u49, u50, u51, u52, .bool true, .bool true, u55, .pointer (some ⟨g, 0, none⟩), .pointer (some ⟨q, 2, none⟩), .int .i64 r.mo, u59, u60, .pointer (some ⟨h, 0, none⟩), u62, u63, u64, u65, u66, u67, u68, u69, u70, u71, u72, u73, u74, u75, u76, u77, u78, u79, u80, u81, u82, u83, u84, u85, u86, u87, u88, u89, u90, u91, u92, u93, u94, u95, u96, u97, u98, u99, u100, u101, u102, u103, u104, u105, u106, u107, u108, u109, u110, u111, u112, u113, u114, undef, undef, undef, undef, undef, undef, undef, undef, undef, undef, undef, undef, undef, undef], defers := [] } _
              refine wpAnyH_take (i := 6) (v := .pointer (some ⟨q, 2, none⟩)) rfl (by kernel_rfl) (by kernel_rfl) (by kernel_rfl) (fun _ _ _ h => h) (Or.inl ⟨by rfl, ?y6⟩) hS ?r6
              case y6 => (intro wy hSy; go_simp; try with_reducible rfl)
              change wpAnyH _ _ _ _ _ _ _ { tmps := #[.slice A n c, .slice (some ad) ns cs, undef, undef, .bool false, .bool true, .pointer (some ⟨g, 0, none⟩), .pointer (some ⟨h, 0, none⟩), .int .i64 (j : Int), .pointer (some ⟨q, 0, none⟩), .bool true, u11, .bool true, .bool true, .bool false, .slice A n c, .int .i64 (n : Int), .bool (decide ((10000 : Int) < (n : Int))), .slice A n c, .pointer (some ⟨g, 0, none⟩), .slice A n c, .agg #[.slice A n c, .int .i64 0], .pointer (some ⟨h, 0, none⟩), .int .i64 (j : Int), .slice (some ad) ns cs, .int .i64 (ns : Int), .bool true, .bool true, .int .i64 (j : Int), .bool (decide ((j : Int) < (60 : Int))), .bool (decide ((j : Int) < (60 : Int))), u31, u32, .slice (some ad) ns cs, .int .i64 (j : Int), .pointer (some (ad.add (j * 3))), .agg #[.int .i64 r.kd, .int .i64 r.wd, .int .i64 r.mo], .pointer (some ⟨q, 0, none⟩), .int .i64 r.kd, .int .i64 3, .bool false, .bool false, .bool false, .bool false, u44, u45, u46, u47, u48, u49, u50, u51, u52, .bool true, .bool true, u55, .pointer (some ⟨g, 0, none⟩), .pointer (some ⟨q, 2, none⟩), .int .i64 r.mo, u59, u60, .pointer (some ⟨h, 0, none⟩), .pointer (some ⟨q, 2, none⟩), u63, u64, u65, u66, u67, u68, u69, u70, u71, u72, u73, u74, u75, u76, u77, u78, u79, u80, u81, u82, u83, u84, u85, u86, u87, u88, u89, u90, u91, u92, u93, u94, u95, u96, u97, u98, u99, u100, u101, u102, u103, u104, u105, u106, u107, u108, u109, u110, u111, u112, u113, u114, undef, undef, undef, undef, undef, undef, undef, undef, undef, undef, undef, undef, undef, undef], defers := [] } _
              refine wpAnyH_take (i := 7) (v := .int .i64 r.mo) rfl (by kernel_rfl) (by kernel_rfl) (by kernel_rfl) (fun _ _ _ h => h) (Or.inl ⟨by rfl, ?y7⟩) hS ?r7
              case y7 => (intro wy hSy; obtain ⟨b0, b1, b2⟩ := hSy.cells; go_simp; try with_reducible rfl)
              change wpAnyH _ _ _ _ _ _ _ { tmps := #[.slice A n c, .slice (some ad) ns cs, undef, undef, .bool false, .bool true, .pointer (some ⟨g, 0, none⟩), .pointer (some ⟨h, 0, none⟩), .int .i64 (j : Int), .pointer (some ⟨q, 0, none⟩), .bool true, u11, .bool true, .bool true, .bool false, .slice A n c, .int .i64 (n : Int), .bool (decide ((10000 : Int) < (n : Int))), .slice A n c, .pointer (some ⟨g, 0, none⟩), .slice A n c, .agg #[.slice A n c, .int .i64 0], .pointer (some ⟨h, 0, none⟩), .int .i64 (j : Int), .slice (some ad) ns cs, .int .i64 (ns : Int), .bool true, .bool true, .int .i64 (j : Int), .bool (decide ((j : Int) < (60 : Int))), .bool (decide ((j : Int) < (60 : Int))), u31, u32, .slice (some ad) ns cs, .int .i64 (j : Int), .pointer (some (ad.add (j * 3))), .agg #[.int .i64 r.kd, .int .i64 r.wd, .int .i64 r.mo], .pointer (some ⟨q, 0, none⟩), .int .i64 r.kd, .int .i64 3, .bool false, .bool false, .bool false, .bool false, u44, u45, u46, u47, u48, u49, u50, u51, u52, .bool true, .bool true, u55, .pointer (some ⟨g, 0, none⟩), .pointer (some ⟨q, 2, none⟩), .int .i64 r.mo, u59, u60, .pointer (some ⟨h, 0, none⟩), .pointer (some ⟨q, 2, none⟩), .int .i64 r.mo, u64, u65, u66, u67, u68, u69, u70, u71, u72, u73, u74, u75, u76, u77, u78, u79, u80, u81, u82, u83, u84, u85, u86, u87, u88, u89, u90, u91, u92, u93, u94, u95, u96, u97, u98, u99, u100, u101, u102, u103, u104, u105, u106, u107, u108, u109, u110, u111, u112, u113, u114, undef, undef, undef, undef, undef, undef, undef, undef, undef, undef, undef, undef, undef, undef], defers := [] } _
              refine wpAnyH_ready (rs := [3]) (by kernel_rfl) (by simp) ?_
              refine AllReadyH.cons rfl (fun K hK => ?_) AllReadyH.nil
              go_simp
              go_wp2_with (go_at_call 19; refine (HN1.out _ HB4.out.drew.left).mono ?_; rintro x w5 ⟨⟨A5, c5, rfl, hq5, hm5, hr5, g5, hn5⟩, h5⟩; have hB5 := HBx.out.drew.grown g5 hqg; obtain ⟨k0', k1', k2'⟩ := hB5.cells; have HBx5 := Lib.hid hB5; have H5 := Lib.hid h5; have R5 := Lib.hid (HB4.out.drew.one g5); have W5 := Lib.hid (below_two HW4.out.drew g5 hgW); have hne5 : ∀ ad, A5 = some ad → ad.block ≠ h := fun ad e1 => (by have h1 : w4.heap.size ≤ ad.block := hn5 ad e1; have h2 := HB4.out.lt; omega); have Hr5 := Lib.hid hr5; have Hne5 := Lib.hid hne5; clear h5 g5 hB5 hr5 hn5 hne5)
              refine hK.out _ _ ?_ (fun hS => ?_)
              · exact HBx5.out
              clear hK K
              clear hS
              refine wpAnyH_strong (S' := fun w' => w5.grownBy w' (some h)) (fun w' k => HBx5.out.grown k hqh) _ _ _ _ ?_
              have hS : w5.grownBy w5 (some h) := World.grownBy.refl _ _
              change wpAnyH _ _ _ _ _ _ _ { tmps := #[.slice A n c, .slice (some ad) ns cs, undef, undef, .bool false, .bool true, .pointer (some ⟨g, 0, none⟩), .pointer (some ⟨h, 0, none⟩), .int .i64 (j : Int), .pointer (some ⟨q, 0, none⟩), .bool true, u11, .bool true, .bool true, .bool false, .slice A n c, .int .i64 (n : Int), .bool (decide ((10000 : Int) < (n : Int))), .slice A n c, .pointer (some ⟨g, 0, none⟩), .slice A n c, .agg #[.slice A n c, .int .i64 0], .pointer (some ⟨h, 0, none⟩), .int .i64 (j : Int), .slice (some ad) ns cs, .int .i64 (ns : Int), .bool true, .bool true, .int .i64 (j : Int), .bool true, .bool true, u31, u32, .slice (some ad) ns cs, .int .i64 (j : Int), .pointer (some (ad.add (j * 3))), .agg #[.int .i64 r.kd, .int .i64 r.wd, .int .i64 r.mo], .pointer (some ⟨q, 0, none⟩), .int .i64 r.kd, .int .i64 3, .bool false, .bool false, .bool false, .bool false, u44, u45, u46, u47, u48, u49, u50, u51, u52, .bool true, .bool true, u55, .pointer (some ⟨g, 0, none⟩), .pointer (some ⟨q, 2, none⟩), .int .i64 r.mo, .slice A5 Q.length c5, u60, .pointer (some ⟨h, 0, none⟩), .pointer (some ⟨q, 2, none⟩), .int .i64 r.mo, u64, u65, u66, u67, u68, u69, u70, u71, u72, u73, u74, u75, u76, u77, u78, u79, u80, u81, u82, u83, u84, u85, u86, u87, u88, u89, u90, u91, u92, u93, u94, u95, u96, u97, u98, u99, u100, u101, u102, u103, u104, u105, u106, u107, u108, u109, u110, u111, u112, u113, u114, undef, undef, undef, undef, undef, undef, undef, undef, undef, undef, undef, undef, undef, undef], defers := [] } _
              refine wpAnyH_take (i := 4) (v := .string ⟨Q.toArray⟩) rfl (by kernel_rfl) (by kernel_rfl) (by kernel_rfl) (fun _ _ _ h => h) (Or.inl ⟨by rfl, ?y4⟩) hS ?r4
              case y4 => (intro wy hSy; obtain ⟨b0, b1, b2⟩ := (HBx5.out.grown hSy hqh).cells; have hcv5 := str_any (c := c5) (Hr5.out.side hSy Hne5.out); go_simp; try with_reducible rfl)
              change wpAnyH _ _ _ _ _ _ _ { tmps := #[.slice A n c, .slice (some ad) ns cs, undef, undef, .bool false, .bool true, .pointer (some ⟨g, 0, none⟩), .pointer (some ⟨h, 0, none⟩), .int .i64 (j : Int), .pointer (some ⟨q, 0, none⟩), .bool true, u11, .bool true, .bool true, .bool false, .slice A n c, .int .i64 (n : Int), .bool (decide ((10000 : Int) < (n : Int))), .slice A n c, .pointer (some ⟨g, 0, none⟩), .slice A n c, .agg #[.slice A n c, .int .i64 0], .pointer (some ⟨h, 0, none⟩), .int .i64 (j : Int), .slice (some ad) ns cs, .int .i64 (ns : Int), .bool true, .bool true, .int .i64 (j : Int), .bool true, .bool true, u31, u32, .slice (some ad) ns cs, .int .i64 (j : Int), .pointer (some (ad.add (j * 3))), .agg #[.int .i64 r.kd, .int .i64 r.wd, .int .i64 r.mo], .pointer (some ⟨q, 0, none⟩), .int .i64 r.kd, .int .i64 3, .bool false, .bool false, .bool false, .bool false, u44, u45, u46, u47, u48, u49, u50, u51, u52, .bool true, .bool true, u55, .pointer (some ⟨g, 0, none⟩), .pointer (some ⟨q, 2, none⟩), .int .i64 r.mo, .slice A5 Q.length c5, .string ⟨Q.toArray⟩, .pointer (some ⟨h, 0, none⟩), .pointer (some ⟨q, 2, none⟩), .int .i64 r.mo, u64, u65, u66, u67, u68, u69, u70, u71, u72, u73, u74, u75, u76, u77, u78, u79, u80, u81, u82, u83, u84, u85, u86, u87, u88, u89, u90, u91, u92, u93, u94, u95, u96, u97, u98, u99, u100, u101, u102, u103, u104, u105, u106, u107, u108, u109, u110, u111, u112, u113, u114, undef, undef, undef, undef, undef, undef, undef, undef, undef, undef, undef, undef, undef, undef], defers := [] } _
              refine wpAnyH_ready (rs := [8]) (by kernel_rfl) (by simp) ?_
              refine AllReadyH.cons rfl (fun K hK => ?_) AllReadyH.nil
              go_simp
              go_wp2_with (go_at_call 20; refine (HN2.out _ R5.out).mono ?_; rintro x w6 ⟨⟨A6, c6, rfl, hq6, hm6, hr6, g6⟩, h6⟩; have hB6 := HBx5.out.grown g6 hqh; obtain ⟨k0', k1', k2'⟩ := hB6.cells; have T6 := Lib.hid (HB4.out.drew.two H5.out g6 h6); have W6 := Lib.hid (below_two W5.out g6 hhW); have G6 := Lib.hid g6; have Hr6 := Lib.hid hr6; clear h6 g6 hB6 hr6)
              refine hK.out _ _ ?_ (fun hS => ?_)
              · exact G6.out
              clear hK K
              clear hS
              refine wpAnyH_strong (S' := fun w' => w6.grownBy w' (some h)) (fun w' k => grownBy_trans G6.out k) _ _ _ _ ?_
              have hS : w6.grownBy w6 (some h) := World.grownBy.refl _ _
              have hh6 : h < w6.heap.size := T6.out.lt.2.2
              change wpAnyH _ _ _ _ _ _ _ { tmps := #[.slice A n c, .slice (some ad) ns cs, undef, undef, .bool false, .bool true, .pointer (some ⟨g, 0, none⟩), .pointer (some ⟨h, 0, none⟩), .int .i64 (j : Int), .pointer (some ⟨q, 0, none⟩), .bool true, u11, .bool true, .bool true, .bool false, .slice A n c, .int .i64 (n : Int), .bool (decide ((10000 : Int) < (n : Int))), .slice A n c, .pointer (some ⟨g, 0, none⟩), .slice A n c, .agg #[.slice A n c, .int .i64 0], .pointer (some ⟨h, 0, none⟩), .int .i64 (j : Int), .slice (some ad) ns cs, .int .i64 (ns : Int), .bool true, .bool true, .int .i64 (j : Int), .bool true, .bool true, u31, u32, .slice (some ad) ns cs, .int .i64 (j : Int), .pointer (some (ad.add (j * 3))), .agg #[.int .i64 r.kd, .int .i64 r.wd, .int .i64 r.mo], .pointer (some ⟨q, 0, none⟩), .int .i64 r.kd, .int .i64 3, .bool false, .bool false, .bool false, .bool false, u44, u45, u46, u47, u48, u49, u50, u51, u52, .bool true, .bool true, u55, .pointer (some ⟨g, 0, none⟩), .pointer (some ⟨q, 2, none⟩), .int .i64 r.mo, .slice A5 Q.length c5, .string ⟨Q.toArray⟩, .pointer (some ⟨h, 0, none⟩), .pointer (some ⟨q, 2, none⟩), .int .i64 r.mo, .slice A6 Q.length c6, u65, u66, u67, u68, u69, u70, u71, u72, u73, u74, u75, u76, u77, u78, u79, u80, u81, u82, u83, u84, u85, u86, u87, u88, u89, u90, u91, u92, u93, u94, u95, u96, u97, u98, u99, u100, u101, u102, u103, u104, u105, u106, u107, u108, u109, u110, u111, u112, u113, u114, undef, undef, undef, undef, undef, undef, undef, undef, undef, undef, undef, undef, undef, undef], defers := [] } _
              refine wpAnyH_take (i := 9) (v := .string ⟨Q.toArray⟩) rfl (by kernel_rfl) (by kernel_rfl) (by kernel_rfl) (fun _ _ _ h => h) (Or.inl ⟨by rfl, ?y9⟩) hS ?r9
              case y9 => (intro wy hSy; have hcv6 := str_any (c := c6) (Hr6.out.keep fun p hp => World.cell?_of_block (hSy.block p.block (by omega) (by simp; omega))); go_simp; try with_reducible rfl)
              change wpAnyH _ _ _ _ _ _ _ { tmps := #[.slice A n c, .slice (some ad) ns cs, undef, undef, .bool false, .bool true, .pointer (some ⟨g, 0, none⟩), .pointer (some ⟨h, 0, none⟩), .int .i64 (j : Int), .pointer (some ⟨q, 0, none⟩), .bool true, u11, .bool true, .bool true, .bool false, .slice A n c, .int .i64 (n : Int), .bool (decide ((10000 : Int) < (n : Int))), .slice A n c, .pointer (some ⟨g, 0, none⟩), .slice A n c, .agg #[.slice A n c, .int .i64 0], .pointer (some ⟨h, 0, none⟩), .int .i64 (j : Int), .slice (some ad) ns cs, .int .i64 (ns : Int), .bool true, .bool true, .int .i64 (j : Int), .bool true, .bool true, u31, u32, .slice (some ad) ns cs, .int .i64 (j : Int), .pointer (some (ad.add (j * 3))), .agg #[.int .i64 r.kd, .int .i64 r.wd, .int .i64 r.mo], .pointer (some ⟨q, 0, none⟩), .int .i64 r.kd, .int .i64 3, .bool false, .bool false, .bool false, .bool false, u44, u45, u46, u47, u48, u49, u50, u51, u52, .bool true, .bool true, u55, .pointer (some ⟨g, 0, none⟩), .pointer (some ⟨q, 2, none⟩), .int .i64 r.mo, .slice A5 Q.length c5, .string ⟨Q.toArray⟩, .pointer (some ⟨h, 0, none⟩), .pointer (some ⟨q, 2, none⟩), .int .i64 r.mo, .slice A6 Q.length c6, .string ⟨Q.toArray⟩, u66, u67, u68, u69, u70, u71, u72, u73, u74, u75, u76, u77, u78, u79, u80, u81, u82, u83, u84, u85, u86, u87, u88, u89, u90, u91, u92, u93, u94, u95, u96, u97, u98, u99, u100, u101, u102, u103, u104, u105, u106, u107, u108, u109, u110, u111, u112, u113, u114, undef, undef, undef, undef, undef, undef, undef, undef, undef, undef, undef, undef, undef, undef], defers := [] } _
              refine wpAnyH_take (i := 10) (v := (.bool true)) rfl (by kernel_rfl) (by kernel_rfl) (by kernel_rfl) (fun _ _ _ h => h) (Or.inl ⟨by rfl, ?y10⟩) hS ?r10
              case y10 => (intro wy hSy; go_simp)
              change wpAnyH _ _ _ _ _ _ _ { tmps := #[.slice A n c, .slice (some ad) ns cs, undef, undef, .bool false, .bool true, .pointer (some ⟨g, 0, none⟩), .pointer (some ⟨h, 0, none⟩), .int .i64 (j : Int), .pointer (some ⟨q, 0, none⟩), .bool true, u11, .bool true, .bool true, .bool false, .slice A n c, .int .i64 (n : Int), .bool (decide ((10000 : Int) < (n : Int))), .slice A n c, .pointer (some ⟨g, 0, none⟩), .slice A n c, .agg #[.slice A n c, .int .i64 0], .pointer (some ⟨h, 0, none⟩), .int .i64 (j : Int), .slice (some ad) ns cs, .int .i64 (ns : Int), .bool true, .bool true, .int .i64 (j : Int), .bool true, .bool true, u31, u32, .slice (some ad) ns cs, .int .i64 (j : Int), .pointer (some (ad.add (j * 3))), .agg #[.int .i64 r.kd, .int .i64 r.wd, .int .i64 r.mo], .pointer (some ⟨q, 0, none⟩), .int .i64 r.kd, .int .i64 3, .bool false, .bool false, .bool false, .bool false, u44, u45, u46, u47, u48, u49, u50, u51, u52, .bool true, .bool true, u55, .pointer (some ⟨g, 0, none⟩), .pointer (some ⟨q, 2, none⟩), .int .i64 r.mo, .slice A5 Q.length c5, .string ⟨Q.toArray⟩, .pointer (some ⟨h, 0, none⟩), .pointer (some ⟨q, 2, none⟩), .int .i64 r.mo, .slice A6 Q.length c6, .string ⟨Q.toArray⟩, (.bool true), u67, u68, u69, u70, u71, u72, u73, u74, u75, u76, u77, u78, u79, u80, u81, u82, u83, u84, u85, u86, u87, u88, u89, u90, u91, u92, u93, u94, u95, u96, u97, u98, u99, u100, u101, u102, u103, u104, u105, u106, u107, u108, u109, u110, u111, u112, u113, u114, undef, undef, undef, undef, undef, undef, undef, undef, undef, undef, undef, undef, undef, undef], defers := [] } _
              refine wpAnyH_take (i := 11) (v := (.bool true)) rfl (by kernel_rfl) (by kernel_rfl) (by kernel_rfl) (fun _ _ _ h => h) (Or.inl ⟨by rfl, ?y11⟩) hS ?r11
              case y11 => (intro wy hSy; go_simp; try with_reducible rfl)
              change wpAnyH _ _ _ _ _ _ _ { tmps := #[.slice A n c, .slice (some ad) ns cs, undef, undef, .bool false, .bool true, .pointer (some ⟨g, 0, none⟩), .pointer (some ⟨h, 0, none⟩), .int .i64 (j : Int), .pointer (some ⟨q, 0, none⟩), (.bool true), u11, .bool true, .bool true, .bool false, .slice A n c, .int .i64 (n : Int), .bool (decide ((10000 : Int) < (n : Int))), .slice A n c, .pointer (some ⟨g, 0, none⟩), .slice A n c, .agg #[.slice A n c, .int .i64 0], .pointer (some ⟨h, 0, none⟩), .int .i64 (j : Int), .slice (some ad) ns cs, .int .i64 (ns : Int), .bool true, .bool true, .int .i64 (j : Int), .bool true, .bool true, u31, u32, .slice (some ad) ns cs, .int .i64 (j : Int), .pointer (some (ad.add (j * 3))), .agg #[.int .i64 r.kd, .int .i64 r.wd, .int .i64 r.mo], .pointer (some ⟨q, 0, none⟩), .int .i64 r.kd, .int .i64 3, .bool false, .bool false, .bool false, .bool false, u44, u45, u46, u47, u48, u49, u50, u51, u52, .bool true, .bool true, u55, .pointer (some ⟨g, 0, none⟩), .pointer (some ⟨q, 2, none⟩), .int .i64 r.mo, .slice A5 Q.length c5, .string ⟨Q.toArray⟩, .pointer (some ⟨h, 0, none⟩), .pointer (some ⟨q, 2, none⟩), .int .i64 r.mo, .slice A6 Q.length c6, .string ⟨Q.toArray⟩, (.bool true), u67, u68, u69, u70, u71, u72, u73, u74, u75, u76, u77, u78, u79, u80, u81, u82, u83, u84, u85, u86, u87, u88, u89, u90, u91, u92, u93, u94, u95, u96, u97, u98, u99, u100, u101, u102, u103, u104, u105, u106, u107, u108, u109, u110, u111, u112, u113, u114, undef, undef, undef, undef, undef, undef, undef, undef, undef, undef, undef, undef, undef, undef], defers := [] } _
              refine wpAnyH_done (by kernel_rfl) ?_ _
              go_wp2_with fail
              go_meet
              exact ⟨rfl, _, _, T6, W6⟩
            · have hN1 := fun W' (K : Rdr W' g l e) => RBlobN_any g l e r.mo W' K
              have hN2 := fun W' (K : Ref W' h W.heap.size (clr l e) e) => RfBlob_any h W.heap.size l e r.mo W' K
              generalize rdBlob l e r.mo = R3 at *
              obtain ⟨Q, L, E⟩ := R3
              dsimp only at hN1 hN2
              have HN1 := Lib.hid hN1
              have HN2 := Lib.hid hN2
              clear hN1 hN2
              go_upto_region 20 with fail
              refine wp_region_held_drew (S := fun w' => Box3 w' q 42 (.int .i64 r.kd) (.int .i64 r.wd) (.int .i64 r.mo)) (by kernel_rfl) HBx.out.drew (fun hS => ?_)
              refine wpAnyH_take (i := 0) (v := .pointer (some ⟨g, 0, none⟩)) rfl (by kernel_rfl) (by kernel_rfl) (by kernel_rfl) (fun _ _ _ h => h) (Or.inl ⟨by rfl, ?yb0⟩) hS ?rb0
              case yb0 => (intro wy hSy; go_simp; try with_reducible rfl)
              change wpAnyH _ _ _ _ _ _ _ { tmps := #[.slice A n c, .slice (some ad) ns cs, undef, undef, .bool false, .bool true, .pointer (some ⟨g, 0, none⟩), .pointer (some ⟨h, 0, none⟩), .int .i64 (j : Int), .pointer (some ⟨q, 0, none⟩), .bool true, u11, .bool true, .bool true, .bool false, .slice A n c, .int .i64 (n : Int), .bool (decide ((10000 : Int) < (n : Int))), .slice A n c, .pointer (some ⟨g, 0, none⟩), .slice A n c, .agg #[.slice A n c, .int .i64 0], .pointer (some ⟨h, 0, none⟩), .int .i64 (j : Int), .slice (some ad) ns cs, .int .i64 (ns : Int), .bool true, .bool true, .int .i64 (j : Int), .bool (decide ((j : Int) < (60 : Int))), .bool (decide ((j : Int) < (60 : Int))), u31, u32, .slice (some ad) ns cs, .int .i64 (j : Int), .pointer (some (ad.add (j * 3))), .agg #[.int .i64 r.kd, .int .i64 r.wd, .int .i64 r.mo], .pointer (some ⟨q, 0, none⟩), .int .i64 r.kd, .int .i64 4, .bool false, .bool false, .bool false, .bool false, u44, u45, u46, u47, u48, u49, u50, u51, u52, .bool true, .bool false, .bool true, .pointer (some ⟨g, 0, none⟩), u57, u58, u59, u60, u61, u62, u63, u64, u65, u66, u67, u68, u69, u70, u71, u72, u73, u74, u75, u76, u77, u78, u79, u80, u81, u82, u83, u84, u85, u86, u87, u88, u89, u90, u91, u92, u93, u94, u95, u96, u97, u98, u99, u100, u101, u102, u103, u104, u105, u106, u107, u108, u109, u110, u111, u112, u113, u114, undef, undef, undef, undef, undef, undef, undef, undef, undef, undef, undef, undef, undef, undef], defers := [] } _
              refine wpAnyH_take (i := 1) (v := .pointer (some ⟨q, 2, none⟩)) rfl (by kernel_rfl) (by kernel_rfl) (by kernel_rfl) (fun _ _ _ h => h) (Or.inl ⟨by rfl, ?yb1⟩) hS ?rb1
              case yb1 => (intro wy hSy; go_simp; try with_reducible rfl)
              change wpAnyH _ _ _ _ _ _ _ { tmps := #[.slice A n c, .slice (some ad) ns cs, undef, undef, .bool false, .bool true, .pointer (some ⟨g, 0, none⟩), .pointer (some ⟨h, 0, none⟩), .int .i64 (j : Int), .pointer (some ⟨q, 0, none⟩), .bool true, u11, .bool true, .bool true, .bool false, .slice A n c, .int .i64 (n : Int), .bool (decide ((10000 : Int) < (n : Int))), .slice A n c, .pointer (some ⟨g, 0, none⟩), .slice A n c, .agg #[.slice A n c, .int .i64 0], .pointer (some ⟨h, 0, none⟩), .int .i64 (j : Int), .slice (some ad) ns cs, .int .i64 (ns : Int), .bool true, .bool true, .int .i64 (j : Int), .bool (decide ((j : Int) < (60 : Int))), .bool (decide ((j : Int) < (60 : Int))), u31, u32, .slice (some ad) ns cs, .int .i64 (j : Int), .pointer (some (ad.add (j * 3))), .agg #[.int .i64 r.kd, .int .i64 r.wd, .int .i64 r.mo], .pointer (some ⟨q, 0, none⟩), .int .i64 r.kd, .int .i64 4, .bool false, .bool false, .bool false, .bool false, u44, u45, u46, u47, u48, u49, u50, u51, u52, .bool true, .bool false, .bool true, .pointer (some ⟨g, 0, none⟩), .pointer (some ⟨q, 2, none⟩), u58, u59, u60, u61, u62, u63, u64, u65, u66, u67, u68, u69, u70, u71, u72, u73, u74, u75, u76, u77, u78, u79, u80, u81, u82, u83, u84, u85, u86, u87, u88, u89, u90, u91, u92, u93, u94, u95, u96, u97, u98, u99, u100, u101, u102, u103, u104, u105, u106, u107, u108, u109, u110, u111, u112, u113, u114, undef, undef, undef, undef, undef, undef, undef, undef, undef, undef, undef, undef, undef, undef], defers := [] } _
              refine wpAnyH_take (i := 2) (v := .int .i64 r.mo) rfl (by kernel_rfl) (by kernel_rfl) (by kernel_rfl) (fun _ _ _ h => h) (Or.inl ⟨by rfl, ?yb2⟩) hS ?rb2
              case yb2 => (intro wy hSy; obtain ⟨b0, b1, b2⟩ := hSy.cells; go_simp; try with_reducible rfl)
              change wpAnyH _ _ _ _ _ _ _ { tmps := #[.slice A n c, .slice (some ad) ns cs, undef, undef, .bool false, .bool true, .pointer (some ⟨g, 0, none⟩), .pointer (some ⟨h, 0, none⟩), .int .i64 (j : Int), .pointer (some ⟨q, 0, none⟩), .bool true, u11, .bool true, .bool true, .bool false, .slice A n c, .int .i64 (n : Int), .bool (decide ((10000 : Int) < (n : Int))), .slice A n c, .pointer (some ⟨g, 0, none⟩), .slice A n c, .agg #[.slice A n c, .int .i64 0], .pointer (some ⟨h, 0, none⟩), .int .i64 (j : Int), .slice (some ad) ns cs, .int .i64 (ns : Int), .bool true, .bool true, .int .i64 (j : Int), .bool (decide ((j : Int) < (60 : Int))), .bool (decide ((j : Int) < (60 : Int))), u31, u32, .slice (some ad) ns cs, .int .i64 (j : Int), .pointer (some (ad.add (j * 3))), .agg #[.int .i64 r.kd, .int .i64 r.wd, .int .i64 r.mo], .pointer (some ⟨q, 0, none⟩), .int .i64 r.kd, .int .i64 4, .bool false, .bool false, .bool false, .bool false, u44, u45, u46, u47, u48, u49, u50, u51, u52, .bool true, .bool false, .bool true, .pointer (some ⟨g, 0, none⟩), .pointer (some ⟨q, 2, none⟩), .int .i64 r.mo, u59, u60, u61, u62, u63, u64, u65, u66, u67, u68, u69, u70, u71, u72, u73, u74, u75, u76, u77, u78, u79, u80, u81, u82, u83, u84, u85, u86, u87, u88, u89, u90, u91, u92, u93, u94, u95, u96, u97, u98, u99, u100, u101, u102, u103, u104, u105, u106, u107, u108, u109, u110, u111, u112, u113, u114, undef, undef, undef, undef, undef, undef, undef, undef, undef, undef, undef, undef, undef, undef], defers := [] } _
              refine wpAnyH_take (i := 5) (v := .pointer (some ⟨h, 0, none⟩)) rfl (by kernel_rfl) (by kernel_rfl) (by kernel_rfl) (fun _ _ _ h => h) (Or.inl ⟨by rfl, ?yb5⟩) hS ?rb5
              case yb5 => (intro wy hSy; go_simp; try with_reducible rfl)
              change wpAnyH _ _ _ _ _ _ _ { tmps := #[.slice A n c, .slice (some ad) ns cs, undef, undef, .bool false, .bool true, .pointer (some ⟨g, 0, none⟩), .pointer (some ⟨h, 0, none⟩), .int .i64 (j : Int), .pointer (some ⟨q, 0, none⟩), .bool true, u11, .bool true, .bool true, .bool false, .slice A n c, .int .i64 (n : Int), .bool (decide ((10000 : Int) < (n : Int))), .slice A n c, .pointer (some ⟨g, 0, none⟩), .slice A n c, .agg #[.slice A n c, .int .i64 0], .pointer (some ⟨h, 0, none⟩), .int .i64 (j : Int), .slice (some ad) ns cs, .int .i64 (ns : Int), .bool true, .bool true, .int .i64 (j : Int), .bool (decide ((j : Int) < (60 : Int))), .bool (decide ((j : Int) < (60 : Int))), u31, u32, .slice (some ad) ns cs, .int .i64 (j : Int), .pointer (some (ad.add (j * 3))), .agg #[.int .i64 r.kd, .int .i64 r.wd, .int .i64 r.mo], .pointer (some ⟨q, 0, none⟩), .int .i64 r.kd, .int .i64 4, .bool false, .bool false, .bool false, .bool false, u44, u45, u46, u47, u48, u49, u50, u51, u52, .bool true, .bool false, .bool true, .pointer (some ⟨g, 0, none⟩), .pointer (some ⟨q, 2, none⟩), .int .i64 r.mo, u59, u60, .pointer (some ⟨h, 0, none⟩), u62, u63, u64, u65, u66, u67, u68, u69, u70, u71, u72, u73, u74, u75, u76, u77, u78, u79, u80, u81, u82, u83, u84, u85, u86, u87, u88, u89, u90, u91, u92, u93, u94, u95, u96, u97, u98, u99, u100, u101, u102, u103, u104, u105, u106, u107, u108, u109, u110, u111, u112, u113, u114, undef, undef, undef, undef, undef, undef, undef, undef, undef, undef, undef, undef, undef, undef], defers := [] } _
              refine wpAnyH_take (i := 6) (v := .pointer (some ⟨q, 2, none⟩)) rfl (by kernel_rfl) (by kernel_rfl) (by kernel_rfl) (fun _ _ _ h => h) (Or.inl ⟨by rfl, ?yb6⟩) hS ?rb6
              case yb6 => (intro wy hSy; go_simp; try with_reducible rfl)
              change wpAnyH _ _ _ _ _ _ _ { tmps := #[.slice A n c, .slice (some ad) ns cs, undef, undef, .bool false, .bool true, .pointer (some ⟨g, 0, none⟩), .pointer (some ⟨h, 0, none⟩), .int .i64 (j : Int), .pointer (some ⟨q, 0, none⟩), .bool true, u11, .bool true, .bool true, .bool false, .slice A n c, .int .i64 (n : Int), .bool (decide ((10000 : Int) < (n : Int))), .slice A n c, .pointer (some ⟨g, 0, none⟩), .slice A n c, .agg #[.slice A n c, .int .i64 0], .pointer (some ⟨h, 0, none⟩), .int .i64 (j : Int), .slice (some ad) ns cs, .int .i64 (ns : Int), .bool true, .bool true, .int .i64 (j : Int), .bool (decide ((j : Int) < (60 : Int))), .bool (decide ((j : Int) < (60 : Int))), u31, u32, .slice (some ad) ns cs, .int .i64 (j : Int), .pointer (some (ad.add (j * 3))), .agg #[.int .i64 r.kd, .int .i64 r.wd, .int .i64 r.mo], .pointer (some ⟨q, 0, none⟩), .int .i64 r.kd, .int .i64 4, .bool false, .bool false, .bool false, .bool false, u44, u45, u46, u47, u48, u49, u50, u51, u52, .bool true, .bool false, .bool true, .pointer (some ⟨g, 0, none⟩), .pointer (some ⟨q, 2, none⟩), .int .i64 r.mo, u59, u60, .pointer (some ⟨h, 0, none⟩), .pointer (some ⟨q, 2, none⟩), u63, u64, u65, u66, u67, u68, u69, u70, u71, u72, u73, u74, u75, u76, u77, u78, u79, u80, u81, u82, u83, u84, u85, u86, u87, u88, u89, u90, u91, u92, u93, u94, u95, u96, u97, u98, u99, u100, u101, u102, u103, u104, u105, u106, u107, u108, u109, u110, u111, u112, u113, u114, undef, undef, undef, undef, undef, undef, undef, undef, undef, undef, undef, undef, undef, undef], defers := [] } _
              refine wpAnyH_take (i := 7) (v := .int .i64 r.mo) rfl (by kernel_rfl) (by kernel_rfl) (by kernel_rfl) (fun _ _ _ h => h) (Or.inl ⟨by rfl, ?yb7⟩) hS ?rb7
              case yb7 => (intro wy hSy; obtain ⟨b0, b1, b2⟩ := hSy.cells; go_simp; try with_reducible rfl)
              change wpAnyH _ _ _ _ _ _ _ { tmps := #[.slice A n c, .slice (some ad) ns cs, undef, undef, .bool false, .bool true, .pointer (some ⟨g, 0, none⟩), .pointer (some ⟨h, 0, none⟩), .int .i64 (j : Int), .pointer (some ⟨q, 0, none⟩), .bool true, u11, .bool true, .bool true, .bool false, .slice A n c, .int .i64 (n : Int), .bool (decide ((10000 : Int) < (n : Int))), .slice A n c, .pointer (some ⟨g, 0, none⟩), .slice A n c, .agg #[.slice A n c, .int .i64 0], .pointer (some ⟨h, 0, none⟩), .int .i64 (j : Int), .slice (some ad) ns cs, .int .i64 (ns : Int), .bool true, .bool true, .int .i64 (j : Int), .bool (decide ((j : Int) < (60 : Int))), .bool (decide ((j : Int) < (60 : Int))), u31, u32, .slice (some ad) ns cs, .int .i64 (j : Int), .pointer (some (ad.add (j * 3))), .agg #[.int .i64 r.kd, .int .i64 r.wd, .int .i64 r.mo], .pointer (some ⟨q, 0, none⟩), .int .i64 r.kd, .int .i64 4, .bool false, .bool false, .bool false, .bool false, u44, u45, u46, u47, u48, u49, u50, u51, u52, .bool true, .bool false, .bool true, .pointer (some ⟨g, 0, none⟩), .pointer (some ⟨q, 2, none⟩), .int .i64 r.mo, u59, u60, .pointer (some ⟨h, 0, none⟩), .pointer (some ⟨q, 2, none⟩), .int .i64 r.mo, u64, u65, u66, u67, u68, u69, u70, u71, u72, u73, u74, u75, u76, u77, u78, u79, u80, u81, u82, u83, u84, u85, u86, u87, u88, u89, u90, u91, u92, u93, u94, u95, u96, u97, u98, u99, u100, u101, u102, u103, u104, u105, u106, u107, u108, u109, u110, u111, u112, u113, u114, undef, undef, undef, undef, undef, undef, undef, undef, undef, undef, undef, undef, undef, undef], defers := [] } _
              refine wpAnyH_ready (rs := [3]) (by kernel_rfl) (by simp) ?_
              refine AllReadyH.cons rfl (fun K hK => ?_) AllReadyH.nil
              go_simp
              go_wp2_with (go_at_call 19; refine (HN1.out _ HB4.out.drew.left).mono ?_; rintro x w5 ⟨⟨A5, c5, rfl, hq5, hm5, hr5, g5, hn5⟩, h5⟩; have hB5 := HBx.out.drew.grown g5 hqg; obtain ⟨k0', k1', k2'⟩ := hB5.cells; have HBx5 := Lib.hid hB5; have H5 := Lib.hid h5; have R5 := Lib.hid (HB4.out.drew.one g5); have W5 := Lib.hid (below_two HW4.out.drew g5 hgW); have hne5 : ∀ ad, A5 = some ad → ad.block ≠ h := fun ad e1 => (by have h1 : w4.heap.size ≤ ad.block := hn5 ad e1; have h2 := HB4.out.lt; omega); have Hr5 := Lib.hid hr5; have Hne5 := Lib.hid hne5; clear h5 g5 hB5 hr5 hn5 hne5)
              refine hK.out _ _ ?_ (fun hS => ?_)
              · exact HBx5.out
              clear hK K
              clear hS
              refine wpAnyH_strong (S' := fun w' => w5.grownBy w' (some h)) (fun w' k => HBx5.out.grown k hqh) _ _ _ _ ?_
              have hS : w5.grownBy w5 (some h) := World.grownBy.refl _ _
              change wpAnyH _ _ _ _ _ _ _ { tmps := #[.slice A n c, .slice (some ad) ns cs, undef, undef, .bool false, .bool true, .pointer (some ⟨g, 0, none⟩), .pointer (some ⟨h, 0, none⟩), .int .i64 (j : Int), .pointer (some ⟨q, 0, none⟩), .bool true, u11, .bool true, .bool true, .bool false, .slice A n c, .int .i64 (n : Int), .bool (decide ((10000 : Int) < (n : Int))), .slice A n c, .pointer (some ⟨g, 0, none⟩), .slice A n c, .agg #[.slice A n c, .int .i64 0], .pointer (some ⟨h, 0, none⟩), .int .i64 (j : Int), .slice (some ad) ns cs, .int .i64 (ns : Int), .bool true, .bool true, .int .i64 (j : Int), .bool true, .bool true, u31, u32, .slice (some ad) ns cs, .int .i64 (j : Int), .pointer (some (ad.add (j * 3))), .agg #[.int .i64 r.kd, .int .i64 r.wd, .int .i64 r.mo], .pointer (some ⟨q, 0, none⟩), .int .i64 r.kd, .int .i64 4, .bool false, .bool false, .bool false, .bool false, u44, u45, u46, u47, u48, u49, u50, u51, u52, .bool true, .bool false, .bool true, .pointer (some ⟨g, 0, none⟩), .pointer (some ⟨q, 2, none⟩), .int .i64 r.mo, .slice A5 Q.length c5, u60, .pointer (some ⟨h, 0, none⟩), .pointer (some ⟨q, 2, none⟩), .int .i64 r.mo, u64, u65, u66, u67, u68, u69, u70, u71, u72, u73, u74, u75, u76, u77, u78, u79, u80, u81, u82, u83, u84, u85, u86, u87, u88, u89, u90, u91, u92, u93, u94, u95, u96, u97, u98, u99, u100, u101, u102, u103, u104, u105, u106, u107, u108, u109, u110, u111, u112, u113, u114, undef, undef, undef, undef, undef, undef, undef, undef, undef, undef, undef, undef, undef, undef], defers := [] } _
              refine wpAnyH_take (i := 4) (v := .string ⟨Q.toArray⟩) rfl (by kernel_rfl) (by kernel_rfl) (by kernel_rfl) (fun _ _ _ h => h) (Or.inl ⟨by rfl, ?yb4⟩) hS ?rb4
              case yb4 => (intro wy hSy; obtain ⟨b0, b1, b2⟩ := (HBx5.out.grown hSy hqh).cells; have hcv5 := str_any (c := c5) (Hr5.out.side hSy Hne5.out); go_simp; try with_reducible rfl)
              change wpAnyH _ _ _ _ _ _ _ { tmps := #[.slice A n c, .slice (some ad) ns cs, undef, undef, .bool false, .bool true, .pointer (some ⟨g, 0, none⟩), .pointer (some ⟨h, 0, none⟩), .int .i64 (j : Int), .pointer (some ⟨q, 0, none⟩), .bool true, u11, .bool true, .bool true, .bool false, .slice A n c, .int .i64 (n : Int), .bool (decide ((10000 : Int) < (n : Int))), .slice A n c, .pointer (some ⟨g, 0, none⟩), .slice A n c, .agg #[.slice A n c, .int .i64 0], .pointer (some ⟨h, 0, none⟩), .int .i64 (j : Int), .slice (some ad) ns cs, .int .i64 (ns : Int), .bool true, .bool true, .int .i64 (j : Int), .bool true, .bool true, u31, u32, .slice (some ad) ns cs, .int .i64 (j : Int), .pointer (some (ad.add (j * 3))), .agg #[.int .i64 r.kd, .int .i64 r.wd, .int .i64 r.mo], .pointer (some ⟨q, 0, none⟩), .int .i64 r.kd, .int .i64 4, .bool false, .bool false, .bool false, .bool false, u44, u45, u46, u47, u48, u49, u50, u51, u52, .bool true, .bool false, .bool true, .pointer (some ⟨g, 0, none⟩), .pointer (some ⟨q, 2, none⟩), .int .i64 r.mo, .slice A5 Q.length c5, .string ⟨Q.toArray⟩, .pointer (some ⟨h, 0, none⟩), .pointer (some ⟨q, 2, none⟩), .int .i64 r.mo, u64, u65, u66, u67, u68, u69, u70, u71, u72, u73, u74, u75, u76, u77, u78, u79, u80, u81, u82, u83, u84, u85, u86, u87, u88, u89, u90, u91, u92, u93, u94, u95, u96, u97, u98, u99, u100, u101, u102, u103, u104, u105, u106, u107, u108, u109, u110, u111, u112, u113, u114, undef, undef, undef, undef, undef, undef, undef, undef, undef, undef, undef, undef, undef, undef], defers := [] } _
              refine wpAnyH_ready (rs := [8]) (by kernel_rfl) (by simp) ?_
              refine AllReadyH.cons rfl (fun K hK => ?_) AllReadyH.nil
              go_simp
              go_wp2_with (go_at_call 20; refine (HN2.out _ R5.out).mono ?_; rintro x w6 ⟨⟨A6, c6, rfl, hq6, hm6, hr6, g6⟩, h6⟩; have hB6 := HBx5.out.grown g6 hqh; obtain ⟨k0', k1', k2'⟩ := hB6.cells; have T6 := Lib.hid (HB4.out.drew.two H5.out g6 h6); have W6 := Lib.hid (below_two W5.out g6 hhW); have G6 := Lib.hid g6; have Hr6 := Lib.hid hr6; clear h6 g6 hB6 hr6)
              refine hK.out _ _ ?_ (fun hS => ?_)
              · exact G6.out
              clear hK K
              clear hS
              refine wpAnyH_strong (S' := fun w' => w6.grownBy w' (some h)) (fun w' k => grownBy_trans G6.out k) _ _ _ _ ?_
              have hS : w6.grownBy w6 (some h) := World.grownBy.refl _ _
              have hh6 : h < w6.heap.size := T6.out.lt.2.2
              change wpAnyH _ _ _ _ _ _ _ { tmps := #[.slice A n c, .slice (some ad) ns cs, undef, undef, .bool false, .bool true, .pointer (some ⟨g, 0, none⟩), .pointer (some ⟨h, 0, none⟩), .int .i64 (j : Int), .pointer (some ⟨q, 0, none⟩), .bool true, u11, .bool true, .bool true, .bool false, .slice A n c, .int .i64 (n : Int), .bool (decide ((10000 : Int) < (n : Int))), .slice A n c, .pointer (some ⟨g, 0, none⟩), .slice A n c, .agg #[.slice A n c, .int .i64 0], .pointer (some ⟨h, 0, none⟩), .int .i64 (j : Int), .slice (some ad) ns cs, .int .i64 (ns : Int), .bool true, .bool true, .int .i64 (j : Int), .bool true, .bool true, u31, u32, .slice (some ad) ns cs, .int .i64 (j : Int), .pointer (some (ad.add (j * 3))), .agg #[.int .i64 r.kd, .int .i64 r.wd, .int .i64 r.mo], .pointer (some ⟨q, 0, none⟩), .int .i64 r.kd, .int .i64 4, .bool false, .bool false, .bool false, .bool false, u44, u45, u46, u47, u48, u49, u50, u51, u52, .bool true, .bool false, .bool true, .pointer (some ⟨g, 0, none⟩), .pointer (some ⟨q, 2, none⟩), .int .i64 r.mo, .slice A5 Q.length c5, .string ⟨Q.toArray⟩, .pointer (some ⟨h, 0, none⟩), .pointer (some ⟨q, 2, none⟩), .int .i64 r.mo, .slice A6 Q.length c6, u65, u66, u67, u68, u69, u70, u71, u72, u73, u74, u75, u76, u77, u78, u79, u80, u81, u82, u83, u84, u85, u86, u87, u88, u89, u90, u91, u92, u93, u94, u95, u96, u97, u98, u99, u100, u101, u102, u103, u104, u105, u106, u107, u108, u109, u110, u111, u112, u113, u114, undef, undef, undef, undef, undef, undef, undef, undef, undef, undef, undef, undef, undef, undef], defers := [] } _
              refine wpAnyH_take (i := 9) (v := .string ⟨Q.toArray⟩) rfl (by kernel_rfl) (by kernel_rfl) (by kernel_rfl) (fun _ _ _ h => h) (Or.inl ⟨by rfl, ?yb9⟩) hS ?rb9
              case yb9 => (intro wy hSy; have hcv6 := str_any (c := c6) (Hr6.out.keep fun p hp => World.cell?_of_block (hSy.block p.block (by omega) (by simp; omega))); go_simp; try with_reducible rfl)
              change wpAnyH _ _ _ _ _ _ _ { tmps := #[.slice A n c, .slice (some ad) ns cs, undef, undef, .bool false, .bool true, .pointer (some ⟨g, 0, none⟩), .pointer (some ⟨h, 0, none⟩), .int .i64 (j : Int), .pointer (some ⟨q, 0, none⟩), .bool true, u11, .bool true, .bool true, .bool false, .slice A n c, .int .i64 (n : Int), .bool (decide ((10000 : Int) < (n : Int))), .slice A n c, .pointer (some ⟨g, 0, none⟩), .slice A n c, .agg #[.slice A n c, .int .i64 0], .pointer (some ⟨h, 0, none⟩), .int .i64 (j : Int), .slice (some ad) ns cs, .int .i64 (ns : Int), .bool true, .bool true, .int .i64 (j : Int), .bool true, .bool true, u31, u32, .slice (some ad) ns cs, .int .i64 (j : Int), .pointer (some (ad.add (j * 3))), .agg #[.int .i64 r.kd, .int .i64 r.wd, .int .i64 r.mo], .pointer (some ⟨q, 0, none⟩), .int .i64 r.kd, .int .i64 4, .bool false, .bool false, .bool false, .bool false, u44, u45, u46, u47, u48, u49, u50, u51, u52, .bool true, .bool false, .bool true, .pointer (some ⟨g, 0, none⟩), .pointer (some ⟨q, 2, none⟩), .int .i64 r.mo, .slice A5 Q.length c5, .string ⟨Q.toArray⟩, .pointer (some ⟨h, 0, none⟩), .pointer (some ⟨q, 2, none⟩), .int .i64 r.mo, .slice A6 Q.length c6, .string ⟨Q.toArray⟩, u66, u67, u68, u69, u70, u71, u72, u73, u74, u75, u76, u77, u78, u79, u80, u81, u82, u83, u84, u85, u86, u87, u88, u89, u90, u91, u92, u93, u94, u95, u96, u97, u98, u99, u100, u101, u102, u103, u104, u105, u106, u107, u108, u109, u110, u111, u112, u113, u114, undef, undef, undef, undef, undef, undef, undef, undef, undef, undef, undef, undef, undef, undef], defers := [] } _
              refine wpAnyH_take (i := 10) (v := (.bool true)) rfl (by kernel_rfl) (by kernel_rfl) (by kernel_rfl) (fun _ _ _ h => h) (Or.inl ⟨by rfl, ?yb10⟩) hS ?rb10
              case yb10 => (intro wy hSy; go_simp)
              change wpAnyH _ _ _ _ _ _ _ { tmps := #[.slice A n c, .slice (some ad) ns cs, undef, undef, .bool false, .bool true, .pointer (some ⟨g, 0, none⟩), .pointer (some ⟨h, 0, none⟩), .int .i64 (j : Int), .pointer (some ⟨q, 0, none⟩), .bool true, u11, .bool true, .bool true, .bool false, .slice A n c, .int .i64 (n : Int), .bool (decide ((10000 : Int) < (n : Int))), .slice A n c, .pointer (some ⟨g, 0, none⟩), .slice A n c, .agg #[.slice A n c, .int .i64 0], .pointer (some ⟨h, 0, none⟩), .int .i64 (j : Int), .slice (some ad) ns cs, .int .i64 (ns : Int), .bool true, .bool true, .int .i64 (j : Int), .bool true, .bool true, u31, u32, .slice (some ad) ns cs, .int .i64 (j : Int), .pointer (some (ad.add (j * 3))), .agg #[.int .i64 r.kd, .int .i64 r.wd, .int .i64 r.mo], .pointer (some ⟨q, 0, none⟩), .int .i64 r.kd, .int .i64 4, .bool false, .bool false, .bool false, .bool false, u44, u45, u46, u47, u48, u49, u50, u51, u52, .bool true, .bool false, .bool true, .pointer (some ⟨g, 0, none⟩), .pointer (some ⟨q, 2, none⟩), .int .i64 r.mo, .slice A5 Q.length c5, .string ⟨Q.toArray⟩, .pointer (some ⟨h, 0, none⟩), .pointer (some ⟨q, 2, none⟩), .int .i64 r.mo, .slice A6 Q.length c6, .string ⟨Q.toArray⟩, (.bool true), u67, u68, u69, u70, u71, u72, u73, u74, u75, u76, u77, u78, u79, u80, u81, u82, u83, u84, u85, u86, u87, u88, u89, u90, u91, u92, u93, u94, u95, u96, u97, u98, u99, u100, u101, u102, u103, u104, u105, u106, u107, u108, u109, u110, u111, u112, u113, u114, undef, undef, undef, undef, undef, undef, undef, undef, undef, undef, undef, undef, undef, undef], defers := [] } _
              refine wpAnyH_take (i := 11) (v := (.bool true)) rfl (by kernel_rfl) (by kernel_rfl) (by kernel_rfl) (fun _ _ _ h => h) (Or.inl ⟨by rfl, ?yb11⟩) hS ?rb11
              case yb11 => (intro wy hSy; go_simp; try with_reducible rfl)
              change wpAnyH _ _ _ _ _ _ _ { tmps := #[.slice A n c, .slice (some ad) ns cs, undef, undef, .bool false, .bool true, .pointer (some ⟨g, 0, none⟩), .pointer (some ⟨h, 0, none⟩), .int .i64 (j : Int), .pointer (some ⟨q, 0, none⟩), (.bool true), u11, .bool true, .bool true, .bool false, .slice A n c, .int .i64 (n : Int), .bool (decide ((10000 : Int) < (n : Int))), .slice A n c, .pointer (some ⟨g, 0, none⟩), .slice A n c, .agg #[.slice A n c, .int .i64 0], .pointer (some ⟨h, 0, none⟩), .int .i64 (j : Int), .slice (some ad) ns cs, .int .i64 (ns : Int), .bool true, .bool true, .int .i64 (j : Int), .bool true, .bool true, u31, u32, .slice (some ad) ns cs, .int .i64 (j : Int), .pointer (some (ad.add (j * 3))), .agg #[.int .i64 r.kd, .int .i64 r.wd, .int .i64 r.mo], .pointer (some ⟨q, 0, none⟩), .int .i64 r.kd, .int .i64 4, .bool false, .bool false, .bool false, .bool false, u44, u45, u46, u47, u48, u49, u50, u51, u52, .bool true, .bool false, .bool true, .pointer (some ⟨g, 0, none⟩), .pointer (some ⟨q, 2, none⟩), .int .i64 r.mo, .slice A5 Q.length c5, .string ⟨Q.toArray⟩, .pointer (some ⟨h, 0, none⟩), .pointer (some ⟨q, 2, none⟩), .int .i64 r.mo, .slice A6 Q.length c6, .string ⟨Q.toArray⟩, (.bool true), u67, u68, u69, u70, u71, u72, u73, u74, u75, u76, u77, u78, u79, u80, u81, u82, u83, u84, u85, u86, u87, u88, u89, u90, u91, u92, u93, u94, u95, u96, u97, u98, u99, u100, u101, u102, u103, u104, u105, u106, u107, u108, u109, u110, u111, u112, u113, u114, undef, undef, undef, undef, undef, undef, undef, undef, undef, undef, undef, undef, undef, undef], defers := [] } _
              refine wpAnyH_done (by kernel_rfl) ?_ _
              go_wp2_with fail
              go_meet
              exact ⟨rfl, _, _, T6, W6⟩
            · have hN1 := fun W' (K : Rdr W' g l e) => RNumsN_any g l e r.wd r.mo W' K
              have hN2 := fun W' (K : Ref W' h W.heap.size (clr l e) e) => RfNums_any h W.heap.size l e r.wd r.mo W' K
              generalize rdNums l e r.wd r.mo = R3 at *
              obtain ⟨Q, L, E⟩ := R3
              dsimp only at hN1 hN2
              have HN1 := Lib.hid hN1
              have HN2 := Lib.hid hN2
              clear hN1 hN2
              go_upto_region 23 with fail
              go_region_held3 (fun w' => w'.cell? ⟨q, 0, none⟩ = some (.int .i64 r.kd) ∧ w'.cell? ⟨q, 1, none⟩ = some (.int .i64 r.wd) ∧ w'.cell? ⟨q, 2, none⟩ = some (.int .i64 r.mo)) (go_keep) (first
                | (go_at_call 22; refine (HN1.out _ HB4.out.drew.left).mono ?_; rintro x w5 ⟨⟨A5, c5, rfl, hq5, hm5, hr5, g5, hn5⟩, h5⟩; have hB5 := HBx.out.drew.grown g5 hqg; obtain ⟨k0', k1', k2'⟩ := hB5.cells; have HBx5 := Lib.hid hB5; have H5 := Lib.hid h5; have R5 := Lib.hid (HB4.out.drew.one g5); have W5 := Lib.hid (below_two HW4.out.drew g5 hgW); have hne5 : ∀ ad, A5 = some ad → ad.block ≠ h := fun ad e1 => (by have h1 : w4.heap.size ≤ ad.block := hn5 ad e1; have h2 := HB4.out.lt; omega); have Hr5 := Lib.hid hr5; have Hne5 := Lib.hid hne5; clear h5 g5 hB5 hr5 hn5 hne5)
                | (go_at_call 23; refine (HN2.out _ R5.out).mono ?_; rintro x w6 ⟨⟨A6, c6, rfl, hq6, hm6, hr6, g6⟩, h6⟩; have hB6 := HBx5.out.grown g6 hqh; obtain ⟨k0', k1', k2'⟩ := hB6.cells; have T6 := Lib.hid (HB4.out.drew.two H5.out g6 h6); have W6 := Lib.hid (below_two W5.out g6 hhW); have Hr5' := Lib.hid (Hr5.out.side g6 Hne5.out); have Hr6 := Lib.hid hr6; clear h6 g6 hB6 hr6)
                | (go_at_call 21; refine (Ints_any A5 A6 Q.length c5 Q.length c6 Q Q _ _ _ Hr5'.out Hr6.out (by simp only [maxLen] at hm5; omega) (by simp only [maxLen] at hm6; omega)).mono ?_; rintro x w7 ⟨rfl, q7, rfl⟩; rw [decide_eq_true rfl]))
              all_goals
                go_wp2_with fail
                go_meet
                exact ⟨rfl, _, _, Lib.hid (T6.out.drewN _), Lib.hid (below_drewN W6.out _)⟩
            · have hN1 := fun W' (K : Rdr W' g l e) => RNumsN_any g l e r.wd r.mo W' K
              have hN2 := fun W' (K : Ref W' h W.heap.size (clr l e) e) => RfNums_any h W.heap.size l e r.wd r.mo W' K
              generalize rdNums l e r.wd r.mo = R3 at *
              obtain ⟨Q, L, E⟩ := R3
              dsimp only at hN1 hN2
              have HN1 := Lib.hid hN1
              have HN2 := Lib.hid hN2
              clear hN1 hN2
              go_upto_region 23 with fail
              go_region_held3 (fun w' => w'.cell? ⟨q, 0, none⟩ = some (.int .i64 r.kd) ∧ w'.cell? ⟨q, 1, none⟩ = some (.int .i64 r.wd) ∧ w'.cell? ⟨q, 2, none⟩ = some (.int .i64 r.mo)) (go_keep) (first
                | (go_at_call 22; refine (HN1.out _ HB4.out.drew.left).mono ?_; rintro x w5 ⟨⟨A5, c5, rfl, hq5, hm5, hr5, g5, hn5⟩, h5⟩; have hB5 := HBx.out.drew.grown g5 hqg; obtain ⟨k0', k1', k2'⟩ := hB5.cells; have HBx5 := Lib.hid hB5; have H5 := Lib.hid h5; have R5 := Lib.hid (HB4.out.drew.one g5); have W5 := Lib.hid (below_two HW4.out.drew g5 hgW); have hne5 : ∀ ad, A5 = some ad → ad.block ≠ h := fun ad e1 => (by have h1 : w4.heap.size ≤ ad.block := hn5 ad e1; have h2 := HB4.out.lt; omega); have Hr5 := Lib.hid hr5; have Hne5 := Lib.hid hne5; clear h5 g5 hB5 hr5 hn5 hne5)
                | (go_at_call 23; refine (HN2.out _ R5.out).mono ?_; rintro x w6 ⟨⟨A6, c6, rfl, hq6, hm6, hr6, g6⟩, h6⟩; have hB6 := HBx5.out.grown g6 hqh; obtain ⟨k0', k1', k2'⟩ := hB6.cells; have T6 := Lib.hid (HB4.out.drew.two H5.out g6 h6); have W6 := Lib.hid (below_two W5.out g6 hhW); have Hr5' := Lib.hid (Hr5.out.side g6 Hne5.out); have Hr6 := Lib.hid hr6; clear h6 g6 hB6 hr6)
                | (go_at_call 21; refine (Ints_any A5 A6 Q.length c5 Q.length c6 Q Q _ _ _ Hr5'.out Hr6.out (by simp only [maxLen] at hm5; omega) (by simp only [maxLen] at hm6; omega)).mono ?_; rintro x w7 ⟨rfl, q7, rfl⟩; rw [decide_eq_true rfl]))
              all_goals
                go_wp2_with fail
                go_meet
                exact ⟨rfl, _, _, Lib.hid (T6.out.drewN _), Lib.hid (below_drewN W6.out _)⟩
            · go_wp2_with (first
                | (go_at_call 24; refine (Fail_any g l e (r.mo.tmod 40) _ HB4.out.left).mono ?_; rintro x w5 ⟨rfl, h5, g5⟩; have H5 := Lib.hid h5; have R5 := Lib.hid (HB4.out.one g5); have W5 := Lib.hid (below_two HW4.out g5 hgW); clear h5 g5)
                | (go_at_call 25; refine (RefFail_any h _ l e (r.mo.tmod 40) _ R5.out).mono ?_; rintro x w6 ⟨rfl, h6, g6⟩; have T6 := Lib.hid (HB4.out.two H5.out g6 h6); have W6 := Lib.hid (below_two W5.out g6 hhW); clear h6 g6))
              all_goals
                go_wp2_with fail
                go_meet
                exact ⟨rfl, _, _, T6, W6⟩
          case rest =>
            obtain ⟨rfl, l', e', HB5, HW5⟩ := hcut
            obtain ⟨A5, n5, c5, x5⟩ := HB5.out.right
            have k5 := x5.cell0
            have k6 := x5.cell1
            have hln : leftN e' l'.length = (n5 : Int) := by rw [leftN_clr, x5.2.2.2.1.1]
            have Hln := Lib.hid hln
            clear x5 hln
            go_upto_region 28 with fail
            go_quiet (first
              | (go_at_call 26; refine (Left_any g l' e' _ (HB5.out.drewN _).left).mono ?_; rintro x w' ⟨rfl, rfl⟩; rw [Hln.out]; exact ⟨rfl, _, rfl⟩)
              | (go_at_call 27; refine (Err_any g l' e' _ (HB5.out.drewN _).left).mono ?_; rintro x w' ⟨rfl, rfl⟩; exact ⟨rfl, _, rfl⟩))
            go_wp2_with fail
            go_roundw
            case rel => exact ⟨by first | rfl | trivial, j + 1, by omega, by go_num, l', e', HB5.out.drewN nq, below_drewN HW5.out nq⟩
            case measure => simp [intOf]; omega
        · go_wp2_with fail
          have hgW : W.heap.size ≤ g := HBo.out.lt.2.1
          have hhW : W.heap.size ≤ h := by have := HBo.out.lt; omega
          go_region_with (first
            | (go_at_call 28; refine (End_any g l e _ HBo.out.drew.left).mono ?_; rintro x w5 ⟨rfl, h5, g5⟩; have H5 := Lib.hid h5; have R5 := Lib.hid (HBo.out.drew.one g5); have W5 := Lib.hid (below_two HWd.out.drew g5 hgW); clear h5 g5)
            | (go_at_call 29; refine (RfEnd_any h W.heap.size l e _ R5.out).mono ?_; rintro x w6 ⟨rfl, h6, g6⟩; obtain ⟨A6, n6, c6, x6⟩ := h6; have k6 := x6.cell1; have T6 := Lib.hid (H5.out.besides g6 HBo.out.lt.1); have W6 := Lib.hid (below_two W5.out g6 hhW); clear g6 x6)
            | (go_at_call 27; refine (Err_any g l _ _ T6.out).mono ?_; rintro x w' ⟨rfl, rfl⟩))
          all_goals
            go_wp2_with fail
            go_ret
            exact ⟨rfl, W6.out⟩
      · go_wp2_with fail
        have hgW : W.heap.size ≤ g := HBo.out.lt.2.1
        have hhW : W.heap.size ≤ h := by have := HBo.out.lt; omega
        go_region_with (first
          | (go_at_call 28; refine (End_any g l e _ HBo.out.drew.left).mono ?_; rintro x w5 ⟨rfl, h5, g5⟩; have H5 := Lib.hid h5; have R5 := Lib.hid (HBo.out.drew.one g5); have W5 := Lib.hid (below_two HWd.out.drew g5 hgW); clear h5 g5)
          | (go_at_call 29; refine (RfEnd_any h W.heap.size l e _ R5.out).mono ?_; rintro x w6 ⟨rfl, h6, g6⟩; obtain ⟨A6, n6, c6, x6⟩ := h6; have k6 := x6.cell1; have T6 := Lib.hid (H5.out.besides g6 HBo.out.lt.1); have W6 := Lib.hid (below_two W5.out g6 hhW); clear g6 x6)
          | (go_at_call 27; refine (Err_any g l _ _ T6.out).mono ?_; rintro x w' ⟨rfl, rfl⟩))
        all_goals
          go_wp2_with fail
          go_ret
          exact ⟨rfl, W6.out⟩
  · go_enter Try.func4, Try.ntmps4
    go_wp2_with (go_at_call 9; refine (awake_any _).mono ?_; rintro e w1 ⟨rfl, hb1⟩)
    go_ret
    exact ⟨rfl, hb1⟩
theorem WireReads_walk {H : Type} {enc : TypeId × Value → H} (W : World) (base : Nat) {v0 v1 : Value} {d0 : DataW H} {p0 : List MemPlace} {d1 : DataW H} {p1 : List MemPlace}
    (k0 : Value.okWide Try.prog W .any base 22 v0) (h0 : DataW.Trod enc Try.prog W 0 (fun _ => true) true 22 v0 d0 p0) (k1 : Value.okWide Try.prog W .any base 34 v1) (h1 : DataW.Trod enc Try.prog W 0 (fun _ => true) true 34 v1 d1 p1) :
    Calls Try.prog 4 #[v0, v1] W (Yes W) := by
  obtain ⟨A, n, c, l, rfl, hr, hnc, hc⟩ := ar_bytes Try.underlying22 Try.underlying5 (by kernel_rfl) k0 h0
  obtain ⟨As, ns, cs, rs, rfl, hs, hns, hcs⟩ := ar_steps k1 h1
  exact WireReads_core A n c l As ns cs rs W hr hnc hc hs hns hcs
end Go.Proofs.Ytblkmphbmmbecaa
