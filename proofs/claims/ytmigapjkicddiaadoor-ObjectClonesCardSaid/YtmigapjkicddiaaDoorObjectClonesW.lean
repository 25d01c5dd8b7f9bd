/- The walk of ObjectClones. (Written by wip/genclones.py.) -/
import Derived.Test.YtmigapjkicddiaaDoorMq
import Derived.Deep.CutBlock
import Derived.Deep.Cut
namespace Go.Proofs.YtmigapjkicddiaaDoor
open Go.ChangeShapes Go.WideShapes Go.ChangeAt Go.RowKit

set_option maxRecDepth 10000 in
/-- block b holds an object that reads -/
def Holds (w : World) (b : Nat) (o : Oj) : Prop := ∃ A n c K m k, w.heap[b]? = some (.cells #[.slice A n c, .slice K m k, .int .i64 o.seq] 25 (0, 0)) ∧ Rd w w.heap.size A n o.data ∧ RdK w w.heap.size K m o.keys
theorem Holds.to {w w' : World} {b : Nat} {o : Oj} (h : Holds w b o) (hb : Below w.heap.size w w') : Holds w' b o := by
  obtain ⟨A, n, c, K, m, k, h1, h2, h3⟩ := h
  exact ⟨A, n, c, K, m, k, blk8 h1 hb, (h2.below hb).more hb.size, (h3.below hb).more hb.size⟩
set_option maxRecDepth 10000 in
theorem Holds.new {w : World} {o : Oj} {A K : Option Addr} {n c m k : Nat} {s : Int} (hs : s = o.seq) (h2 : Rd w w.heap.size A n o.data) (h3 : RdK w w.heap.size K m o.keys) : Holds (w.alloc (.cells #[.slice A n c, .slice K m k, .int .i64 s] 25)) w.heap.size o := by
  subst hs
  have hb := (Below.refl w.heap.size w).alloc (Nat.le_refl _) (.cells #[.slice A n c, .slice K m k, .int .i64 o.seq] 25)
  exact ⟨A, n, c, K, m, k, heap_alloc_new w _, (h2.below hb).more hb.size, (h3.below hb).more hb.size⟩
theorem al8 (w : World) (o : Obj) : Hid (Below w.heap.size w (w.alloc o)) := (Below.refl _ _).alloc (Nat.le_refl _) _
theorem bapp8 (a b : List UInt8) : (⟨a.toArray⟩ : ByteArray) ++ ⟨b.toArray⟩ = ⟨(a ++ b).toArray⟩ := by
  apply ByteArray.ext
  simp
set_option maxRecDepth 10000 in
set_option maxHeartbeats 8000000 in
theorem ObjectClones_core (Ad : Option Addr) (nd cd : Nat) (Ak : Option Addr) (nk ck : Nat) (s : Int) (d : List UInt8) (ks : List Ky) (X : List UInt8) (A : Option Addr) (m cm : Nat) (vs : List Ov) (W : World) (ht : Et W)
    (hd : Rd W W.heap.size Ad nd d) (hr : RdK W W.heap.size Ak nk ks) (hX : X.length ≤ 9223372036854775807) (hv : OpsAt W W.heap.size A m vs) (hmc : m ≤ cm) (hcm : cm ≤ 9223372036854775807) :
    Calls Tryd.prog 8 #[oV Ad nd cd Ak nk ck s, .string ⟨X.toArray⟩, .slice A m cm] W (Yes W) := by
  have HB := al8 W (.cells #[.slice Ad nd cd, .slice Ak nk ck, .int .i64 s] 25)
  have H1 := Lib.hid (heap_alloc_new W (.cells #[.slice Ad nd cd, .slice Ak nk ck, .int .i64 s] 25))
  have Hd := Lib.hid hd
  have Hr := Lib.hid hr
  have Hv := Lib.hid hv
  have Ht := Lib.hid ht
  have HX := Lib.hid hX
  have Hcm := Lib.hid (show m ≤ cm ∧ cm ≤ 9223372036854775807 from ⟨hmc, hcm⟩)
  clear hd hr ht hv hX hmc hcm
  have hxs : (⟨X.toArray⟩ : ByteArray).size = X.length := by simp [ByteArray.size]
  go_enter Tryd.func8, Tryd.ntmps8
  go_upto_region 1 with fail
  generalize W.alloc (.cells #[.slice Ad nd cd, .slice Ak nk ck, .int .i64 s] 25) = w1 at HB H1 ⊢
  obtain ⟨b1, hb1⟩ : ∃ b, b = W.heap.size := ⟨_, rfl⟩
  rw [← hb1] at H1 ⊢
  clear hb1
  have HA := Lib.hid (awake8 w1 (Ht.out.below HB.out Ht.out.lt))
  go_wp2_with fail
  refine HA.out.mono ?_
  rintro e w2 ⟨rfl, _, hb⟩
  replace H1 := Lib.hid (blk8 H1.out hb.out)
  replace HB := bel8 (Nat.le_refl _) HB hb.out
  clear hb HA
  obtain ⟨c0, c1, c2⟩ := objs_of H1.out
  have HF := few8 Ad nd cd Ak nk ck s d ks W.heap.size w2 Hd.out.1 (Hr.out.below HB.out) HB.out.size
  obtain ⟨q1, hq1⟩ : ∃ q, q = fewO ⟨d, ks, s⟩ := ⟨_, rfl⟩
  rw [← hq1] at HF
  have HF := Lib.hid HF
  clear hq1
  go_wp2_with fail
  refine HF.out.mono ?_
  rintro e w3 ⟨rfl, hb⟩
  replace H1 := Lib.hid (blk8 H1.out hb)
  replace HB := bel8 (Nat.le_refl _) HB hb
  clear hb HF c0 c1 c2
  obtain ⟨c0, c1, c2⟩ := objs_of H1.out
  cases q1
  · go_wp2_with fail
    go_ret
    exact ⟨rfl, HB.out⟩
  by_cases hx : 100 < X.length
  · have hx2 : (100 : Int) < (X.length : Int) := by omega
    go_wp2_with fail
    go_ret
    exact ⟨rfl, HB.out⟩
  have hx2 : ¬ (100 : Int) < (X.length : Int) := by omega
  by_cases hn : 0 < nk
  · have hn2 : (0 : Int) < (nk : Int) := by omega
    go_wp2_with fail
    go_ret
    exact ⟨rfl, HB.out⟩
  obtain rfl : nk = 0 := by omega
  obtain rfl : ks = [] := List.eq_nil_of_length_eq_zero Hr.out.1
  have HC := kCheck Ad nd cd Ak 0 ck s d [] W.heap.size w3 Hd.out.1 (Hr.out.below HB.out) HB.out.size
  cases hm : mayO ⟨d, [], s⟩
  · rw [hm] at HC
    have HC : Calls Tryd.prog 14 #[oV Ad nd cd Ak 0 ck s] w3 fun e w' => e = .returned (.int .i64 1) ∧ Below w3.heap.size w3 w' := HC
    replace HC := Lib.hid HC
    go_wp2_with fail
    refine HC.out.mono ?_
    rintro e w4 ⟨rfl, hb⟩
    replace HB := bel8 (Nat.le_refl _) HB hb
    go_wp2_with fail
    go_ret
    exact ⟨rfl, HB.out⟩
  rw [hm] at HC
  have HC : Calls Tryd.prog 14 #[oV Ad nd cd Ak 0 ck s] w3 fun e w' => e = .returned (.int .i64 0) ∧ Below w3.heap.size w3 w' := HC
  replace HC := Lib.hid HC
  have Hm := Lib.hid hm
  clear hm hn hx
  go_wp2_with fail
  refine HC.out.mono ?_
  rintro e w4 ⟨rfl, hb⟩
  replace H1 := Lib.hid (blk8 H1.out hb)
  replace HB := bel8 (Nat.le_refl _) HB hb
  clear hb HC c0 c1 c2
  go_upto_region 7 with fail
  clear hx2
  obtain ⟨c0, c1, c2⟩ := objs_of H1.out
  have HW := (kDo Ad nd cd Ak 0 ck s d [] true 11 0 0 X none 0 0 [] W.heap.size w4 (Ht.out.below HB.out Ht.out.lt) HB.out.size (Hd.out.below HB.out) (Hr.out.below HB.out) (by unfold I64; omega) Rd.nil (Nat.le_refl _) (by omega) HX.out).mono fun _ _ h => h.x
  have HN := Lib.hid (fun w => RName8 X w HX.out)
  cases hnm : nameB X
  · rw [hnm] at HN
    rw [cl_no Hm.out hnm] at HW
    replace HW := Lib.hid HW
    clear hnm
    go_wp2_with fail
    refine HW.out.mono ?_
    rintro e w5 ⟨A5, n5, c5, K5, m5, k5, s5, rfl, _, _, _, _, hb⟩
    replace HB := bel8 (Nat.le_refl _) HB hb.out
    replace HB := bel8 (Nat.le_refl _) HB (al8 w5 (.cells #[.slice A5 n5 c5, .slice K5 m5 k5, .int .i64 s5] 25)).out
    clear hb HW c0 c1 c2
    go_upto_region 8 with fail
    generalize w5.alloc (.cells #[.slice A5 n5 c5, .slice K5 m5 k5, .int .i64 s5] 25) = w6 at HB ⊢
    go_wp2_with fail
    refine (HN.out _).mono ?_
    rintro e w7 ⟨rfl, hw⟩
    obtain rfl := hw.symm
    go_wp2_with fail
    go_ret
    exact ⟨rfl, HB.out⟩
  rw [hnm] at HN
  rw [cl_yes Hm.out hnm] at HW
  replace HW := Lib.hid HW
  have Hnm := Lib.hid hnm
  clear hnm
  go_wp2_with fail
  refine HW.out.mono ?_
  rintro e w5 ⟨A5, n5, c5, K5, m5, k5, s5, rfl, E5, R5, Q5, L5, hb⟩
  replace H1 := Lib.hid (blk8 H1.out hb.out)
  replace HB := bel8 (Nat.le_refl _) HB hb.out
  have H19 := Lib.hid (lt_of_block H1.out)
  clear hb HW c0 c1 c2
  go_upto_region 8 with fail
  have hba := al8 w5 (.cells #[.slice A5 n5 c5, .slice K5 m5 k5, .int .i64 s5] 25)
  have HC := Lib.hid (Holds.new (o := ⟨d, [⟨X, d⟩], s⟩) (c := c5) (k := k5) E5.out R5.out Q5.out)
  have hsz := HB.out.size
  have Hb9 := Lib.hid hsz
  replace H1 := Lib.hid (blk8 H1.out hba.out)
  replace HB := bel8 (Nat.le_refl _) HB hba.out
  clear hba E5 R5 Q5 L5 hsz
  generalize w5.alloc (.cells #[.slice A5 n5 c5, .slice K5 m5 k5, .int .i64 s5] 25) = w6 at HC H1 HB ⊢
  generalize w5.heap.size = b9 at HC Hb9 H19 ⊢
  go_wp2_with fail
  refine (HN.out _).mono ?_
  rintro e w7 ⟨rfl, hw⟩
  obtain rfl := hw.symm
  clear hw HN
  go_upto_block 0 with fail
  go_cut [] (fun wx => ∃ C : Oj, Hid (mayO C = true ∧ C.keys = [⟨X, d⟩]) ∧ Hid (Holds wx b9 C) ∧ Hid (wx.heap[b1]? = w6.heap[b1]?) ∧ Hid (Below W.heap.size W wx))
  case first =>
    go_wp2_with fail
    go_loopw [13] (fun i wr => ∃ (j : Nat) (C : Oj), j ≤ m ∧ i = .int .i64 j ∧ Hid (mayO C = true ∧ C.keys = [⟨X, d⟩]) ∧ Hid (Holds wr b9 C) ∧ Hid (wr.heap[b1]? = w6.heap[b1]?) ∧ Hid (Below W.heap.size W wr)) (fun i _ => m - (intOf i).toNat)
    case atStart => exact ⟨0, ⟨d, [⟨X, d⟩], s⟩, Nat.zero_le _, rfl, ⟨(by have h := do_may ⟨d, [], s⟩ true ⟨11, 0, 0, X, []⟩; rw [cl_yes Hm.out Hnm.out] at h; exact h), rfl⟩, HC, rfl, HB⟩
    case round =>
      obtain ⟨j, C, hj, rfl, HCm, HCr, H1r, HBr⟩ := hrel
      by_cases hjm : j < m
      · by_cases hj12 : j < 12
        · have hjl : j < vs.length := by rw [Hv.out.1]; exact hjm
          obtain ⟨g, o, rfl, hg, a0, a1, a2, a3, a4, h5, h6, h7, h8⟩ := (Hv.out.below HBr.out).2 j hjl
          generalize vs[j] = v at a0 a1 a2 a3 a4 h5 h6 h7 h8
          obtain ⟨⟨k, f, n, Y, D⟩, Ap, np, cp⟩ := v
          have a0 : wr.cell? ⟨g, o + j * 5, none⟩ = some (.int .i64 k) := a0
          have a1 : wr.cell? ⟨g, o + j * 5 + 1, none⟩ = some (.int .i64 f) := a1
          have a2 : wr.cell? ⟨g, o + j * 5 + 2, none⟩ = some (.int .i64 n) := a2
          have a3 : wr.cell? ⟨g, o + j * 5 + 3, none⟩ = some (.string ⟨Y.toArray⟩) := a3
          have a4 : wr.cell? ⟨g, o + j * 5 + 4, none⟩ = some (.slice Ap np cp) := a4
          have HD := Lib.hid (show Rd wr W.heap.size Ap np D from h5)
          have HDc := Lib.hid (show np ≤ cp ∧ cp ≤ 9223372036854775807 from h6)
          have HY := Lib.hid (show Y.length ≤ 9223372036854775807 from h7)
          have HI := Lib.hid (show I64 f from h8)
          clear h5 h6 h7 h8 hjl
          have hj0 : (0 : Int) ≤ (j : Int) := by omega
          have hj1 : (j : Int) < (m : Int) := by omega
          have hj2 : (j : Int) < 12 := by omega
          go_upto_region 14 with fail
          have hba := al8 wr (.cells #[.int .i64 k, .int .i64 f, .int .i64 n, .string ⟨Y.toArray⟩, .slice Ap np cp] 38)
          have HP := Lib.hid (heap_alloc_new wr (.cells #[.int .i64 k, .int .i64 f, .int .i64 n, .string ⟨Y.toArray⟩, .slice Ap np cp] 38))
          have HCr8 := Lib.hid (HCr.out.to hba.out)
          have H1r8 := Lib.hid ((hba.out.block b1 (Nat.lt_of_lt_of_le (Nat.lt_of_lt_of_le H19.out (Nat.le_of_lt (by obtain ⟨_, _, _, _, _, _, e, _⟩ := HCr.out; exact lt_of_block e))) (Nat.le_refl _))).trans H1r.out)
          have HB8 := bel8 (Nat.le_refl _) HBr hba.out
          replace HD := Lib.hid (HD.out.below (hba.out.mono HBr.out.size))
          clear hba a0 a1 a2 a3 a4 HCr H1r
          generalize wr.alloc (.cells #[.int .i64 k, .int .i64 f, .int .i64 n, .string ⟨Y.toArray⟩, .slice Ap np cp] 38) = w8 at HP HCr8 H1r8 HB8 HD ⊢
          generalize wr.heap.size = b14 at HP ⊢
          go_cut [106] (fun u wx => ∃ q, u = .bool q ∧ wx = w8 ∧ Hid (q = false → k = 5 ∨ k = 6 ∨ k = 7 ∨ k = 8 ∨ k = 12))
          case first =>
            have p0 := (PAt.of HP.out).c0
            have p4 := (PAt.of HP.out).c4
            by_cases hp : 100 < np
            · have hp2 : (100 : Int) < (np : Int) := by omega
              rcases (show k = 5 ∨ k = 6 ∨ k = 7 ∨ k = 8 ∨ k = 12 ∨ (¬ k = 5 ∧ ¬ k = 6 ∧ ¬ k = 7 ∧ ¬ k = 8 ∧ ¬ k = 12) by omega) with rfl | rfl | rfl | rfl | rfl | ⟨n1, n2, n3, n4, n5⟩
              all_goals
                go_wp2_with fail
                go_meet
                exact ⟨true, rfl, rfl, fun h => by cases h⟩
            · have hp2 : ¬ (100 : Int) < (np : Int) := by omega
              rcases (show k = 5 ∨ k = 6 ∨ k = 7 ∨ k = 8 ∨ k = 12 ∨ (¬ k = 5 ∧ ¬ k = 6 ∧ ¬ k = 7 ∧ ¬ k = 8 ∧ ¬ k = 12) by omega) with rfl | rfl | rfl | rfl | rfl | ⟨n1, n2, n3, n4, n5⟩
              all_goals
                go_wp2_with fail
                go_meet
                first
                  | exact ⟨false, rfl, rfl, fun _ => by first | decide | omega | simp⟩
                  | exact ⟨true, rfl, rfl, fun h => by cases h⟩
          case rest =>
            obtain ⟨q, rfl, hw8, HK⟩ := hcut
            obtain rfl := hw8.symm
            cases q
            · have HKk := HK.out rfl
              have hHh := HCr8.out
              obtain ⟨A9, n9, c9, K9, m9, k9, e1, e2, e3⟩ := hHh
              have HD1 : Calls Tryd.prog 22 #[oV A9 n9 c9 K9 m9 k9 C.seq, .bool true, pV k f n Y Ap np cp] w8 (DoX w8 (doO C true ⟨k, f, n, Y, D⟩)) := (kDo A9 n9 c9 K9 m9 k9 C.seq C.data C.keys true k f n Y Ap np cp D w8.heap.size w8 (Ht.out.below HB8.out Ht.out.lt) (Nat.le_refl _) e2 e3 HI.out (HD.out.more HB8.out.size) HDc.out.1 HDc.out.2 HY.out).mono fun _ _ h => h.x
              have Hr1 := Lib.hid (do_may C true ⟨k, f, n, Y, D⟩)
              have Hr2 := Lib.hid (cl_loop (p := ⟨k, f, n, Y, D⟩) HCm.out.1 HKk)
              generalize doO C true ⟨k, f, n, Y, D⟩ = r at HD1 Hr1 Hr2
              replace HD1 := Lib.hid HD1
              obtain ⟨c0, c1, c2⟩ := objs_of e1
              have p0 := (PAt.of HP.out).c0
              have p1 := (PAt.of HP.out).c1
              have p2 := (PAt.of HP.out).c2
              have p3 := (PAt.of HP.out).c3
              have p4 := (PAt.of HP.out).c4
              have E1 := Lib.hid e1
              clear e1 e2 e3 HKk HK
              go_wp2_with fail
              refine HD1.out.mono ?_
              rintro e w9 ⟨A10, n10, c10, K10, m10, k10, s10, rfl, E10, R10, Q10, _, hb⟩
              clear c0 c1 c2 p0 p1 p2 p3 p4 HD1 HP HD
              have hl1 : b1 < w8.heap.size := Nat.lt_trans H19.out (lt_of_block E1.out)
              have HCr9 := Lib.hid (HCr8.out.to hb.out)
              have H1r9 := Lib.hid ((hb.out.block b1 hl1).trans H1r8.out)
              have HB9 := bel8 (Nat.le_refl _) HB8 hb.out
              have hl2 : b1 < w9.heap.size := Nat.lt_of_lt_of_le hl1 hb.out.size
              have E2 := Lib.hid (blk8 E1.out hb.out)
              go_upto_region 16 with fail
              have hba := al8 w9 (.cells #[.slice A10 n10 c10, .slice K10 m10 k10, .int .i64 s10] 25)
              have HN := Lib.hid (heap_alloc_new w9 (.cells #[.slice A10 n10 c10, .slice K10 m10 k10, .int .i64 s10] 25))
              replace HCr9 := Lib.hid (HCr9.out.to hba.out)
              replace H1r9 := Lib.hid ((hba.out.block b1 hl2).trans H1r9.out)
              replace HB9 := bel8 (Nat.le_refl _) HB9 hba.out
              replace E2 := Lib.hid (blk8 E2.out hba.out)
              replace R10 := Lib.hid ((R10.out.below hba.out).more hba.out.size)
              replace Q10 := Lib.hid ((Q10.out.below hba.out).more hba.out.size)
              clear hba hb E1 HCr8 H1r8 HB8 hl1 hl2
              generalize w9.alloc (.cells #[.slice A10 n10 c10, .slice K10 m10 k10, .int .i64 s10] 25) = w10 at HN HCr9 H1r9 HB9 E2 R10 Q10 ⊢
              generalize w9.heap.size = b15 at HN ⊢
              obtain ⟨ro, rx, ry, rc⟩ := r
              by_cases hrc : rc = 0
              · subst hrc
                have hk := Hr2.out rfl
                obtain rfl : s10 = ro.seq := E10.out
                obtain ⟨g0, g1, g2⟩ := objs_of HN.out
                obtain ⟨c0, c1, c2⟩ := objs_of E2.out
                have f0 := free_blk E2.out 0
                have f1 := free_blk E2.out 1
                have f2 := free_blk E2.out 2
                have Hk := Lib.hid hk
                clear hk
                have Hlast : Hid (mayO ro = true ∧ ro.keys = [⟨X, d⟩]) := ⟨Hr1.out, Hk.out.trans HCm.out.2⟩
                have Hput : Hid (Holds (put3 w10 b9 (.slice A10 n10 c10) (.slice K10 m10 k10) (.int .i64 ro.seq)) b9 ro) := ⟨A10, n10, c10, K10, m10, k10, put3_at E2.out _ _ _, by rw [put3_size]; exact R10.out.putO E2.out _ _ _, by rw [put3_size]; exact Q10.out.putO E2.out _ _ _⟩
                have H1p := Lib.hid ((put3_block (Nat.ne_of_lt H19.out) (.slice A10 n10 c10) (.slice K10 m10 k10) (.int .i64 ro.seq)).trans H1r9.out)
                have HBp := Lib.hid (put3_below HB9.out Hb9.out (.slice A10 n10 c10) (.slice K10 m10 k10) (.int .i64 ro.seq))
                go_wp2_with fail
                go_roundw
                case rel => exact ⟨j + 1, ro, by omega, by go_num, Hlast, Hput, H1p, HBp⟩
                case measure => simp [intOf]; omega
              · go_wp2_with fail
                go_roundw
                case rel => exact ⟨j + 1, C, by omega, by go_num, HCm, HCr9, H1r9, HB9⟩
                case measure => simp [intOf]; omega
            · go_wp2_with fail
              go_roundw
              case rel => exact ⟨j + 1, C, by omega, by go_num, HCm, HCr8, H1r8, HB8⟩
              case measure => simp [intOf]; omega
        · have hj1 : (j : Int) < (m : Int) := by omega
          have hj2 : ¬ (j : Int) < 12 := by omega
          go_wp2_with fail
          go_meet
          exact ⟨C, HCm, HCr, H1r, HBr⟩
      · have hj1 : ¬ (j : Int) < (m : Int) := by omega
        go_wp2_with fail
        go_meet
        exact ⟨C, HCm, HCr, H1r, HBr⟩
  case rest =>
    obtain ⟨C, HCm, HC9, H1r, HBc⟩ := hcut
    replace H1 := Lib.hid (H1r.out.trans H1.out)
    clear HC HB H1r
    obtain ⟨Cd, Ck, Cs⟩ := C
    have hCk : Ck = [⟨X, d⟩] := HCm.out.2
    subst hCk
    have Hd64 := Lib.hid (show d.length ≤ 64 from ((mayO_iff _).1 Hm.out).1)
    obtain ⟨A9, n9, c9, K9, m9, k9, e1, e2, e3⟩ := HC9.out
    have E9 := Lib.hid (show wc.heap[b9]? = some (.cells #[.slice A9 n9 c9, .slice K9 m9 k9, .int .i64 Cs] 25 (0, 0)) from e1)
    have R9 := Lib.hid (show Rd wc wc.heap.size A9 n9 Cd from e2)
    have Q9 := Lib.hid (show RdK wc wc.heap.size K9 m9 [⟨X, d⟩] from e3)
    clear e1 e2 e3 HC9
    have hCm := HCm.out.1
    have HD := (kDo A9 n9 c9 K9 m9 k9 Cs Cd [⟨X, d⟩] true 11 0 0 X none 0 0 [] wc.heap.size wc (Ht.out.below HBc.out Ht.out.lt) (Nat.le_refl _) R9.out Q9.out (by unfold I64; omega) Rd.nil (Nat.le_refl _) (by omega) HX.out).mono fun _ _ h => h.x
    rw [cl_again hCm rfl Hnm.out] at HD
    replace HD := Lib.hid HD
    obtain ⟨c0, c1, c2⟩ := objs_of E9.out
    clear hCm
    go_wp2_with fail
    refine HD.out.mono ?_
    rintro e w7 ⟨A7, n7, c7, K7, m7, k7, s7, rfl, F7, R7, Q7, L7, hb⟩
    obtain rfl : s7 = Cs := F7.out
    have R7 : Hid (Rd w7 w7.heap.size A7 n7 Cd) := R7
    have Q7 : Hid (RdK w7 w7.heap.size K7 m7 [⟨X, d⟩]) := Q7
    clear c0 c1 c2 HD F7
    replace H1 := Lib.hid (blk8 H1.out hb.out)
    replace E9 := Lib.hid (blk8 E9.out hb.out)
    replace R9 := Lib.hid ((R9.out.below hb.out).more hb.out.size)
    replace Q9 := Lib.hid ((Q9.out.below hb.out).more hb.out.size)
    have HB := bel8 (Nat.le_refl _) HBc hb.out
    clear hb HBc
    go_upto_region 19 with fail
    have hba := al8 w7 (.cells #[.slice A7 n7 c7, .slice K7 m7 k7, .int .i64 s7] 25)
    have E7 := Lib.hid (heap_alloc_new w7 (.cells #[.slice A7 n7 c7, .slice K7 m7 k7, .int .i64 s7] 25))
    replace H1 := Lib.hid (blk8 H1.out hba.out)
    replace E9 := Lib.hid (blk8 E9.out hba.out)
    replace R9 := Lib.hid ((R9.out.below hba.out).more hba.out.size)
    replace Q9 := Lib.hid ((Q9.out.below hba.out).more hba.out.size)
    replace R7 := Lib.hid ((R7.out.below hba.out).more hba.out.size)
    replace Q7 := Lib.hid ((Q7.out.below hba.out).more hba.out.size)
    replace HB := bel8 (Nat.le_refl _) HB hba.out
    clear hba
    generalize w7.alloc (.cells #[.slice A7 n7 c7, .slice K7 m7 k7, .int .i64 s7] 25) = w8 at E7 H1 E9 R9 Q9 R7 Q7 HB ⊢
    generalize w7.heap.size = b19 at E7 ⊢
    have HD := (kDo A7 n7 c7 K7 m7 k7 s7 Cd [⟨X, d⟩] true 14 0 0 X none 0 0 [] w8.heap.size w8 (Ht.out.below HB.out Ht.out.lt) (Nat.le_refl _) R7.out Q7.out (by unfold I64; omega) Rd.nil (Nat.le_refl _) (by omega) HX.out).mono fun _ _ h => h.x
    rw [cl_back HCm.out.1 rfl Hnm.out Hd64.out] at HD
    replace HD := Lib.hid HD
    obtain ⟨c0, c1, c2⟩ := objs_of E7.out
    go_wp2_with fail
    refine HD.out.mono ?_
    rintro e w9 ⟨A10, n10, c10, K10, m10, k10, s10, rfl, F10, R10, Q10, L10, hb⟩
    have R10 : Hid (Rd w9 w9.heap.size A10 n10 d) := R10
    clear c0 c1 c2 HD F10 Q10
    replace H1 := Lib.hid (blk8 H1.out hb.out)
    replace E9 := Lib.hid (blk8 E9.out hb.out)
    replace E7 := Lib.hid (blk8 E7.out hb.out)
    replace R9 := Lib.hid ((R9.out.below hb.out).more hb.out.size)
    replace Q9 := Lib.hid ((Q9.out.below hb.out).more hb.out.size)
    replace R7 := Lib.hid ((R7.out.below hb.out).more hb.out.size)
    replace Q7 := Lib.hid ((Q7.out.below hb.out).more hb.out.size)
    replace HB := bel8 (Nat.le_refl _) HB hb.out
    clear hb
    go_upto_region 20 with fail
    have hba := al8 w9 (.cells #[.slice A10 n10 c10, .slice K10 m10 k10, .int .i64 s10] 25)
    have E10 := Lib.hid (heap_alloc_new w9 (.cells #[.slice A10 n10 c10, .slice K10 m10 k10, .int .i64 s10] 25))
    replace H1 := Lib.hid (blk8 H1.out hba.out)
    replace E9 := Lib.hid (blk8 E9.out hba.out)
    replace E7 := Lib.hid (blk8 E7.out hba.out)
    replace R9 := Lib.hid ((R9.out.below hba.out).more hba.out.size)
    replace Q9 := Lib.hid ((Q9.out.below hba.out).more hba.out.size)
    replace R7 := Lib.hid ((R7.out.below hba.out).more hba.out.size)
    replace Q7 := Lib.hid ((Q7.out.below hba.out).more hba.out.size)
    replace R10 := Lib.hid ((R10.out.below hba.out).more hba.out.size)
    replace HB := bel8 (Nat.le_refl _) HB hba.out
    clear hba
    generalize w9.alloc (.cells #[.slice A10 n10 c10, .slice K10 m10 k10, .int .i64 s10] 25) = w10 at E10 H1 E9 E7 R9 Q9 R7 Q7 R10 HB ⊢
    generalize w9.heap.size = b23 at E10 ⊢
    have HRD := Lib.hid ((Hd.out.below HB.out).more HB.out.size)
    have hCd : Cd.length ≤ 64 := ((mayO_iff _).1 HCm.out.1).1
    have hn12 := (name_len Hnm.out).2
    have hval : ∀ k ∈ [(⟨X, d⟩ : Ky)], k.val.length ≤ 1000000 := fun k hk => by
      obtain rfl := List.mem_singleton.1 hk
      have := Hd64.out
      show d.length ≤ 1000000
      omega
    have HA9 : ∀ w', Hid (Rd w' w'.heap.size A9 n9 Cd) → Hid (RdK w' w'.heap.size K9 m9 [⟨X, d⟩]) → Calls Tryd.prog 15 #[oV A9 n9 c9 K9 m9 k9 s7, .string ⟨X.toArray⟩] w' (StrP w' d) := fun w' h1 h2 => by
      have h := (kAt A9 n9 c9 K9 m9 k9 s7 Cd [⟨X, d⟩] X w'.heap.size w' h1.out (by rw [← h1.out.1]; omega) h2.out (Nat.le_refl _) (by rw [← h2.out.1]; simp) HX.out hval).mono fun _ _ h => h.str
      rw [at_in Hnm.out] at h
      exact h
    have HA7 : ∀ w', Hid (Rd w' w'.heap.size A7 n7 Cd) → Hid (RdK w' w'.heap.size K7 m7 [⟨X, d⟩]) → Calls Tryd.prog 15 #[oV A7 n7 c7 K7 m7 k7 s7, .string ⟨X.toArray⟩] w' (StrP w' d) := fun w' h1 h2 => by
      have h := (kAt A7 n7 c7 K7 m7 k7 s7 Cd [⟨X, d⟩] X w'.heap.size w' h1.out (by rw [← h1.out.1]; omega) h2.out (Nat.le_refl _) (by rw [← h2.out.1]; simp) HX.out hval).mono fun _ _ h => h.str
      rw [at_in Hnm.out] at h
      exact h
    have HAZ : ∀ w', Hid (Rd w' w'.heap.size A9 n9 Cd) → Hid (RdK w' w'.heap.size K9 m9 [⟨X, d⟩]) → Calls Tryd.prog 15 #[oV A9 n9 c9 K9 m9 k9 s7, .string ⟨(X ++ [122]).toArray⟩] w' (StrP w' Cd) := fun w' h1 h2 => by
      have h := (kAt A9 n9 c9 K9 m9 k9 s7 Cd [⟨X, d⟩] (X ++ [122]) w'.heap.size w' h1.out (by rw [← h1.out.1]; omega) h2.out (Nat.le_refl _) (by rw [← h2.out.1]; simp) (by rw [List.length_append]; simp; omega) hval).mono fun _ _ h => h.str
      rw [at_more X d Cd [122] (by simp)] at h
      exact h
    replace HA9 := Lib.hid HA9
    replace HA7 := Lib.hid HA7
    replace HAZ := Lib.hid HAZ
    have HCat := Lib.hid (bapp8 X [122])
    have HXb := Lib.hid (show X.length ≤ 9223372036854775806 by omega)
    clear hCd hn12 hval hxs
    have H1d : Hid (w10.drew.heap[b1]? = some (.cells #[.slice Ad nd cd, .slice Ak 0 ck, .int .i64 s] 25 (0, 0))) := H1.out
    have E9d : Hid (w10.drew.heap[b9]? = some (.cells #[.slice A9 n9 c9, .slice K9 m9 k9, .int .i64 s7] 25 (0, 0))) := E9.out
    have E7d : Hid (w10.drew.heap[b19]? = some (.cells #[.slice A7 n7 c7, .slice K7 m7 k7, .int .i64 s7] 25 (0, 0))) := E7.out
    have E10d : Hid (w10.drew.heap[b23]? = some (.cells #[.slice A10 n10 c10, .slice K10 m10 k10, .int .i64 s10] 25 (0, 0))) := E10.out
    have R9d : Hid (Rd w10.drew w10.drew.heap.size A9 n9 Cd) := R9.out
    have Q9d : Hid (RdK w10.drew w10.drew.heap.size K9 m9 [⟨X, d⟩]) := Q9.out
    have R7d : Hid (Rd w10.drew w10.drew.heap.size A7 n7 Cd) := R7.out
    have Q7d : Hid (RdK w10.drew w10.drew.heap.size K7 m7 [⟨X, d⟩]) := Q7.out
    have R10d : Hid (Rd w10.drew w10.drew.heap.size A10 n10 d) := R10.out
    have HRDd : Hid (Rd w10.drew w10.drew.heap.size Ad nd d) := HRD.out
    have HBd : Hid (Below W.heap.size W w10.drew) := below_drewN HB.out 1
    refine wp_region_held_drew (S := fun x => Below w10.drew.heap.size w10.drew x) (by kernel_rfl) (Below.refl _ _) (fun hS => ?_)
    clear H1 E9 E7 E10 R9 Q9 R7 Q7 R10 HRD HB
    generalize w10.drew = zv0 at H1d E9d E7d E10d R9d Q9d R7d Q7d R10d HRDd HBd hS ⊢
    have H1 := H1d
    have E9 := E9d
    have E7 := E7d
    have E10 := E10d
    have R9 := R9d
    have Q9 := Q9d
    have R7 := R7d
    have Q7 := Q7d
    have R10 := R10d
    have HRD := HRDd
    have HB := HBd
    clear HBd H1d E9d E7d E10d R9d Q9d R7d Q7d R10d HRDd
    refine wpAnyH_take (i := 0) (v := ?uuz1) rfl (by kernel_rfl) (by kernel_rfl) (by kernel_rfl) (fun _ _ _ h => h) (Or.inl ⟨by rfl, ?yyz1⟩) hS ?rrz1
    case yyz1 => (intro wy hSy; go_simp; try with_reducible rfl)
    go_simp
    refine wpAnyH_take (i := 1) (v := .bool true) rfl (by kernel_rfl) (by kernel_rfl) (by kernel_rfl) (fun _ _ _ h => h) (Or.inl ⟨by rfl, ?yyz2⟩) hS ?rrz2
    case yyz2 => (intro wy hSy; go_simp; try with_reducible rfl)
    go_simp
    refine wpAnyH_take (i := 2) (v := .bool true) rfl (by kernel_rfl) (by kernel_rfl) (by kernel_rfl) (fun _ _ _ h => h) (Or.inl ⟨by rfl, ?yyz3⟩) hS ?rrz3
    case yyz3 => (intro wy hSy; go_simp; try with_reducible rfl)
    go_simp
    refine wpAnyH_take (i := 3) (v := ?uuz4) rfl (by kernel_rfl) (by kernel_rfl) (by kernel_rfl) (fun _ _ _ h => h) (Or.inl ⟨by rfl, ?yyz4⟩) hS ?rrz4
    case yyz4 => (intro wy hSy; go_simp; try with_reducible rfl)
    go_simp
    refine wpAnyH_take (i := 4) (v := .bool true) rfl (by kernel_rfl) (by kernel_rfl) (by kernel_rfl) (fun _ _ _ h => h) (Or.inl ⟨by rfl, ?yyz5⟩) hS ?rrz5
    case yyz5 => (intro wy hSy; go_simp; try with_reducible rfl)
    go_simp
    refine wpAnyH_take (i := 5) (v := .bool true) rfl (by kernel_rfl) (by kernel_rfl) (by kernel_rfl) (fun _ _ _ h => h) (Or.inl ⟨by rfl, ?yyz6⟩) hS ?rrz6
    case yyz6 => (intro wy hSy; go_simp; try with_reducible rfl)
    go_simp
    refine wpAnyH_take (i := 6) (v := .bool true) rfl (by kernel_rfl) (by kernel_rfl) (by kernel_rfl) (fun _ _ _ h => h) (Or.inl ⟨by rfl, ?yyz7⟩) hS ?rrz7
    case yyz7 => (intro wy hSy; go_simp; try with_reducible rfl)
    go_simp
    refine wpAnyH_take (i := 7) (v := ?uuz8) rfl (by kernel_rfl) (by kernel_rfl) (by kernel_rfl) (fun _ _ _ h => h) (Or.inl ⟨by rfl, ?yyz8⟩) hS ?rrz8
    case yyz8 => (intro wy hSy; go_simp; try with_reducible rfl)
    go_simp
    refine wpAnyH_take (i := 8) (v := .bool true) rfl (by kernel_rfl) (by kernel_rfl) (by kernel_rfl) (fun _ _ _ h => h) (Or.inl ⟨by rfl, ?yyz9⟩) hS ?rrz9
    case yyz9 => (intro wy hSy; go_simp; try with_reducible rfl)
    go_simp
    refine wpAnyH_take (i := 9) (v := .bool true) rfl (by kernel_rfl) (by kernel_rfl) (by kernel_rfl) (fun _ _ _ h => h) (Or.inl ⟨by rfl, ?yyz10⟩) hS ?rrz10
    case yyz10 => (intro wy hSy; go_simp; try with_reducible rfl)
    go_simp
    refine wpAnyH_take (i := 10) (v := .bool true) rfl (by kernel_rfl) (by kernel_rfl) (by kernel_rfl) (fun _ _ _ h => h) (Or.inl ⟨by rfl, ?yyz11⟩) hS ?rrz11
    case yyz11 => (intro wy hSy; go_simp; try with_reducible rfl)
    go_simp
    refine wpAnyH_take (i := 11) (v := ?uuz12) rfl (by kernel_rfl) (by kernel_rfl) (by kernel_rfl) (fun _ _ _ h => h) (Or.inl ⟨by rfl, ?yyz12⟩) hS ?rrz12
    case yyz12 => (intro wy hSy; obtain ⟨g0, g1, g2⟩ := objs_of (blk8 E9.out hSy); go_simp; try with_reducible rfl)
    go_simp
    refine wpAnyH_take (i := 12) (v := ?uuz13) rfl (by kernel_rfl) (by kernel_rfl) (by kernel_rfl) (fun _ _ _ h => h) (Or.inl ⟨by rfl, ?yyz13⟩) hS ?rrz13
    case yyz13 => (intro wy hSy; go_simp; try with_reducible rfl)
    go_simp
    refine wpAnyH_take (i := 15) (v := ?uuz14) rfl (by kernel_rfl) (by kernel_rfl) (by kernel_rfl) (fun _ _ _ h => h) (Or.inl ⟨by rfl, ?yyz14⟩) hS ?rrz14
    case yyz14 => (intro wy hSy; go_simp; try with_reducible rfl)
    go_simp
    refine wpAnyH_take (i := 16) (v := ?uuz15) rfl (by kernel_rfl) (by kernel_rfl) (by kernel_rfl) (fun _ _ _ h => h) (Or.inl ⟨by rfl, ?yyz15⟩) hS ?rrz15
    case yyz15 => (intro wy hSy; obtain ⟨g0, g1, g2⟩ := objs_of (blk8 H1.out hSy); go_simp; try with_reducible rfl)
    go_simp
    refine wpAnyH_take (i := 17) (v := .string ⟨d.toArray⟩) rfl (by kernel_rfl) (by kernel_rfl) (by kernel_rfl) (fun _ _ _ h => h) (Or.inl ⟨by rfl, ?yyz16⟩) hS ?rrz16
    case yyz16 => (intro wy hSy; have hcx := str_any (c := cd) (HRD.out.below hSy); go_simp; try with_reducible rfl)
    go_simp
    refine wpAnyH_ready (rs := [13]) (by kernel_rfl) (by simp) ?_
    refine AllReadyH.cons rfl (fun K hK => ?_) AllReadyH.nil
    go_simp
    go_wp2_with (go_at_call 15; refine (HA9.out _ R9 Q9).mono ?_; rintro e zv1 ⟨A11, n11, c11, rfl, R11, hb⟩)
    refine hK.out _ _ ?_ (fun hS => ?_)
    · exact hb.out
    clear hK K hS
    replace H1 := Lib.hid (blk8 H1.out hb.out)
    replace E9 := Lib.hid (blk8 E9.out hb.out)
    replace E7 := Lib.hid (blk8 E7.out hb.out)
    replace E10 := Lib.hid (blk8 E10.out hb.out)
    replace R9 := Lib.hid ((R9.out.below hb.out).more hb.out.size)
    replace Q9 := Lib.hid ((Q9.out.below hb.out).more hb.out.size)
    replace R7 := Lib.hid ((R7.out.below hb.out).more hb.out.size)
    replace Q7 := Lib.hid ((Q7.out.below hb.out).more hb.out.size)
    replace R10 := Lib.hid ((R10.out.below hb.out).more hb.out.size)
    replace HRD := Lib.hid ((HRD.out.below hb.out).more hb.out.size)
    replace HB := bel8 (Nat.le_refl _) HB hb.out
    refine wpAnyH_strong (S' := fun x => Below zv1.heap.size zv1 x) (fun x h => hb.out.trans (h.mono hb.out.size)) _ _ _ _ ?_
    clear hb
    have hS : Below zv1.heap.size zv1 zv1 := Below.refl _ _
    refine wpAnyH_take (i := 14) (v := .string ⟨d.toArray⟩) rfl (by kernel_rfl) (by kernel_rfl) (by kernel_rfl) (fun _ _ _ h => h) (Or.inl ⟨by rfl, ?yyz17⟩) hS ?rrz17
    case yyz17 => (intro wy hSy; have hcx := str_any (c := c11) (R11.out.below hSy); go_simp; try with_reducible rfl)
    go_simp
    refine wpAnyH_take (i := 18) (v := .bool true) rfl (by kernel_rfl) (by kernel_rfl) (by kernel_rfl) (fun _ _ _ h => h) (Or.inl ⟨by rfl, ?yyz18⟩) hS ?rrz18
    case yyz18 => (intro wy hSy; go_simp; try with_reducible rfl)
    go_simp
    refine wpAnyH_take (i := 19) (v := .bool true) rfl (by kernel_rfl) (by kernel_rfl) (by kernel_rfl) (fun _ _ _ h => h) (Or.inl ⟨by rfl, ?yyz19⟩) hS ?rrz19
    case yyz19 => (intro wy hSy; go_simp; try with_reducible rfl)
    go_simp
    refine wpAnyH_take (i := 20) (v := .bool true) rfl (by kernel_rfl) (by kernel_rfl) (by kernel_rfl) (fun _ _ _ h => h) (Or.inl ⟨by rfl, ?yyz20⟩) hS ?rrz20
    case yyz20 => (intro wy hSy; go_simp; try with_reducible rfl)
    go_simp
    refine wpAnyH_take (i := 21) (v := ?uuz21) rfl (by kernel_rfl) (by kernel_rfl) (by kernel_rfl) (fun _ _ _ h => h) (Or.inl ⟨by rfl, ?yyz21⟩) hS ?rrz21
    case yyz21 => (intro wy hSy; obtain ⟨g0, g1, g2⟩ := objs_of (blk8 E7.out hSy); go_simp; try with_reducible rfl)
    go_simp
    refine wpAnyH_take (i := 22) (v := ?uuz22) rfl (by kernel_rfl) (by kernel_rfl) (by kernel_rfl) (fun _ _ _ h => h) (Or.inl ⟨by rfl, ?yyz22⟩) hS ?rrz22
    case yyz22 => (intro wy hSy; go_simp; try with_reducible rfl)
    go_simp
    refine wpAnyH_take (i := 25) (v := ?uuz23) rfl (by kernel_rfl) (by kernel_rfl) (by kernel_rfl) (fun _ _ _ h => h) (Or.inl ⟨by rfl, ?yyz23⟩) hS ?rrz23
    case yyz23 => (intro wy hSy; go_simp; try with_reducible rfl)
    go_simp
    refine wpAnyH_take (i := 26) (v := ?uuz24) rfl (by kernel_rfl) (by kernel_rfl) (by kernel_rfl) (fun _ _ _ h => h) (Or.inl ⟨by rfl, ?yyz24⟩) hS ?rrz24
    case yyz24 => (intro wy hSy; obtain ⟨g0, g1, g2⟩ := objs_of (blk8 H1.out hSy); go_simp; try with_reducible rfl)
    go_simp
    refine wpAnyH_take (i := 27) (v := .string ⟨d.toArray⟩) rfl (by kernel_rfl) (by kernel_rfl) (by kernel_rfl) (fun _ _ _ h => h) (Or.inl ⟨by rfl, ?yyz25⟩) hS ?rrz25
    case yyz25 => (intro wy hSy; have hcx := str_any (c := cd) (HRD.out.below hSy); go_simp; try with_reducible rfl)
    go_simp
    refine wpAnyH_ready (rs := [23]) (by kernel_rfl) (by simp) ?_
    refine AllReadyH.cons rfl (fun K hK => ?_) AllReadyH.nil
    go_simp
    go_wp2_with (go_at_call 15; refine (HA7.out _ R7 Q7).mono ?_; rintro e zv2 ⟨A12, n12, c12, rfl, R12, hb⟩)
    refine hK.out _ _ ?_ (fun hS => ?_)
    · exact hb.out
    clear hK K hS
    replace H1 := Lib.hid (blk8 H1.out hb.out)
    replace E9 := Lib.hid (blk8 E9.out hb.out)
    replace E7 := Lib.hid (blk8 E7.out hb.out)
    replace E10 := Lib.hid (blk8 E10.out hb.out)
    replace R9 := Lib.hid ((R9.out.below hb.out).more hb.out.size)
    replace Q9 := Lib.hid ((Q9.out.below hb.out).more hb.out.size)
    replace R7 := Lib.hid ((R7.out.below hb.out).more hb.out.size)
    replace Q7 := Lib.hid ((Q7.out.below hb.out).more hb.out.size)
    replace R10 := Lib.hid ((R10.out.below hb.out).more hb.out.size)
    replace HRD := Lib.hid ((HRD.out.below hb.out).more hb.out.size)
    replace HB := bel8 (Nat.le_refl _) HB hb.out
    refine wpAnyH_strong (S' := fun x => Below zv2.heap.size zv2 x) (fun x h => hb.out.trans (h.mono hb.out.size)) _ _ _ _ ?_
    clear hb
    have hS : Below zv2.heap.size zv2 zv2 := Below.refl _ _
    refine wpAnyH_take (i := 24) (v := .string ⟨d.toArray⟩) rfl (by kernel_rfl) (by kernel_rfl) (by kernel_rfl) (fun _ _ _ h => h) (Or.inl ⟨by rfl, ?yyz26⟩) hS ?rrz26
    case yyz26 => (intro wy hSy; have hcx := str_any (c := c12) (R12.out.below hSy); go_simp; try with_reducible rfl)
    go_simp
    refine wpAnyH_take (i := 28) (v := .bool true) rfl (by kernel_rfl) (by kernel_rfl) (by kernel_rfl) (fun _ _ _ h => h) (Or.inl ⟨by rfl, ?yyz27⟩) hS ?rrz27
    case yyz27 => (intro wy hSy; go_simp; try with_reducible rfl)
    go_simp
    refine wpAnyH_take (i := 29) (v := .bool true) rfl (by kernel_rfl) (by kernel_rfl) (by kernel_rfl) (fun _ _ _ h => h) (Or.inl ⟨by rfl, ?yyz28⟩) hS ?rrz28
    case yyz28 => (intro wy hSy; go_simp; try with_reducible rfl)
    go_simp
    refine wpAnyH_take (i := 30) (v := .bool true) rfl (by kernel_rfl) (by kernel_rfl) (by kernel_rfl) (fun _ _ _ h => h) (Or.inl ⟨by rfl, ?yyz29⟩) hS ?rrz29
    case yyz29 => (intro wy hSy; go_simp; try with_reducible rfl)
    go_simp
    refine wpAnyH_take (i := 31) (v := ?uuz30) rfl (by kernel_rfl) (by kernel_rfl) (by kernel_rfl) (fun _ _ _ h => h) (Or.inl ⟨by rfl, ?yyz30⟩) hS ?rrz30
    case yyz30 => (intro wy hSy; go_simp; try with_reducible rfl)
    go_simp
    refine wpAnyH_take (i := 32) (v := ?uuz31) rfl (by kernel_rfl) (by kernel_rfl) (by kernel_rfl) (fun _ _ _ h => h) (Or.inl ⟨by rfl, ?yyz31⟩) hS ?rrz31
    case yyz31 => (intro wy hSy; obtain ⟨g0, g1, g2⟩ := objs_of (blk8 E10.out hSy); go_simp; try with_reducible rfl)
    go_simp
    refine wpAnyH_take (i := 33) (v := .string ⟨d.toArray⟩) rfl (by kernel_rfl) (by kernel_rfl) (by kernel_rfl) (fun _ _ _ h => h) (Or.inl ⟨by rfl, ?yyz32⟩) hS ?rrz32
    case yyz32 => (intro wy hSy; have hcx := str_any (c := c10) (R10.out.below hSy); go_simp; try with_reducible rfl)
    go_simp
    refine wpAnyH_take (i := 34) (v := ?uuz33) rfl (by kernel_rfl) (by kernel_rfl) (by kernel_rfl) (fun _ _ _ h => h) (Or.inl ⟨by rfl, ?yyz33⟩) hS ?rrz33
    case yyz33 => (intro wy hSy; go_simp; try with_reducible rfl)
    go_simp
    refine wpAnyH_take (i := 35) (v := ?uuz34) rfl (by kernel_rfl) (by kernel_rfl) (by kernel_rfl) (fun _ _ _ h => h) (Or.inl ⟨by rfl, ?yyz34⟩) hS ?rrz34
    case yyz34 => (intro wy hSy; obtain ⟨g0, g1, g2⟩ := objs_of (blk8 H1.out hSy); go_simp; try with_reducible rfl)
    go_simp
    refine wpAnyH_take (i := 36) (v := .string ⟨d.toArray⟩) rfl (by kernel_rfl) (by kernel_rfl) (by kernel_rfl) (fun _ _ _ h => h) (Or.inl ⟨by rfl, ?yyz35⟩) hS ?rrz35
    case yyz35 => (intro wy hSy; have hcx := str_any (c := cd) (HRD.out.below hSy); go_simp; try with_reducible rfl)
    go_simp
    refine wpAnyH_take (i := 37) (v := .bool true) rfl (by kernel_rfl) (by kernel_rfl) (by kernel_rfl) (fun _ _ _ h => h) (Or.inl ⟨by rfl, ?yyz36⟩) hS ?rrz36
    case yyz36 => (intro wy hSy; go_simp; try with_reducible rfl)
    go_simp
    refine wpAnyH_take (i := 38) (v := .bool true) rfl (by kernel_rfl) (by kernel_rfl) (by kernel_rfl) (fun _ _ _ h => h) (Or.inl ⟨by rfl, ?yyz37⟩) hS ?rrz37
    case yyz37 => (intro wy hSy; go_simp; try with_reducible rfl)
    go_simp
    refine wpAnyH_take (i := 39) (v := .bool true) rfl (by kernel_rfl) (by kernel_rfl) (by kernel_rfl) (fun _ _ _ h => h) (Or.inl ⟨by rfl, ?yyz38⟩) hS ?rrz38
    case yyz38 => (intro wy hSy; go_simp; try with_reducible rfl)
    go_simp
    refine wpAnyH_take (i := 40) (v := ?uuz39) rfl (by kernel_rfl) (by kernel_rfl) (by kernel_rfl) (fun _ _ _ h => h) (Or.inl ⟨by rfl, ?yyz39⟩) hS ?rrz39
    case yyz39 => (intro wy hSy; obtain ⟨g0, g1, g2⟩ := objs_of (blk8 E9.out hSy); go_simp; try with_reducible rfl)
    go_simp
    refine wpAnyH_take (i := 41) (v := ?uuz40) rfl (by kernel_rfl) (by kernel_rfl) (by kernel_rfl) (fun _ _ _ h => h) (Or.inl ⟨by rfl, ?yyz40⟩) hS ?rrz40
    case yyz40 => (intro wy hSy; go_simp; try with_reducible rfl)
    go_simp
    refine wpAnyH_take (i := 42) (v := .string ⟨(X ++ [122]).toArray⟩) rfl (by kernel_rfl) (by kernel_rfl) (by kernel_rfl) (fun _ _ _ h => h) (Or.inl ⟨by rfl, ?yyz41⟩) hS ?rrz41
    case yyz41 => (intro wy hSy; have hcat := HCat.out; have hxb := HXb.out; go_simp; try with_reducible rfl)
    go_simp
    refine wpAnyH_take (i := 45) (v := ?uuz42) rfl (by kernel_rfl) (by kernel_rfl) (by kernel_rfl) (fun _ _ _ h => h) (Or.inl ⟨by rfl, ?yyz42⟩) hS ?rrz42
    case yyz42 => (intro wy hSy; go_simp; try with_reducible rfl)
    go_simp
    refine wpAnyH_take (i := 46) (v := ?uuz43) rfl (by kernel_rfl) (by kernel_rfl) (by kernel_rfl) (fun _ _ _ h => h) (Or.inl ⟨by rfl, ?yyz43⟩) hS ?rrz43
    case yyz43 => (intro wy hSy; obtain ⟨g0, g1, g2⟩ := objs_of (blk8 E9.out hSy); go_simp; try with_reducible rfl)
    go_simp
    refine wpAnyH_take (i := 47) (v := .string ⟨Cd.toArray⟩) rfl (by kernel_rfl) (by kernel_rfl) (by kernel_rfl) (fun _ _ _ h => h) (Or.inl ⟨by rfl, ?yyz44⟩) hS ?rrz44
    case yyz44 => (intro wy hSy; have hcx := str_any (c := c9) (R9.out.below hSy); go_simp; try with_reducible rfl)
    go_simp
    refine wpAnyH_ready (rs := [43]) (by kernel_rfl) (by simp) ?_
    refine AllReadyH.cons rfl (fun K hK => ?_) AllReadyH.nil
    go_simp
    go_wp2_with (go_at_call 15; refine (HAZ.out _ R9 Q9).mono ?_; rintro e zv3 ⟨A13, n13, c13, rfl, R13, hb⟩)
    refine hK.out _ _ ?_ (fun hS => ?_)
    · exact hb.out
    clear hK K hS
    replace H1 := Lib.hid (blk8 H1.out hb.out)
    replace E9 := Lib.hid (blk8 E9.out hb.out)
    replace E7 := Lib.hid (blk8 E7.out hb.out)
    replace E10 := Lib.hid (blk8 E10.out hb.out)
    replace R9 := Lib.hid ((R9.out.below hb.out).more hb.out.size)
    replace Q9 := Lib.hid ((Q9.out.below hb.out).more hb.out.size)
    replace R7 := Lib.hid ((R7.out.below hb.out).more hb.out.size)
    replace Q7 := Lib.hid ((Q7.out.below hb.out).more hb.out.size)
    replace R10 := Lib.hid ((R10.out.below hb.out).more hb.out.size)
    replace HRD := Lib.hid ((HRD.out.below hb.out).more hb.out.size)
    replace HB := bel8 (Nat.le_refl _) HB hb.out
    refine wpAnyH_strong (S' := fun x => Below zv3.heap.size zv3 x) (fun x h => hb.out.trans (h.mono hb.out.size)) _ _ _ _ ?_
    clear hb
    have hS : Below zv3.heap.size zv3 zv3 := Below.refl _ _
    refine wpAnyH_take (i := 44) (v := .string ⟨Cd.toArray⟩) rfl (by kernel_rfl) (by kernel_rfl) (by kernel_rfl) (fun _ _ _ h => h) (Or.inl ⟨by rfl, ?yyz45⟩) hS ?rrz45
    case yyz45 => (intro wy hSy; have hcx := str_any (c := c13) (R13.out.below hSy); go_simp; try with_reducible rfl)
    go_simp
    refine wpAnyH_take (i := 48) (v := .bool true) rfl (by kernel_rfl) (by kernel_rfl) (by kernel_rfl) (fun _ _ _ h => h) (Or.inl ⟨by rfl, ?yyz46⟩) hS ?rrz46
    case yyz46 => (intro wy hSy; go_simp; try with_reducible rfl)
    go_simp
    refine wpAnyH_take (i := 49) (v := .bool true) rfl (by kernel_rfl) (by kernel_rfl) (by kernel_rfl) (fun _ _ _ h => h) (Or.inl ⟨by rfl, ?yyz47⟩) hS ?rrz47
    case yyz47 => (intro wy hSy; go_simp; try with_reducible rfl)
    go_simp
    refine wpAnyH_take (i := 50) (v := .bool true) rfl (by kernel_rfl) (by kernel_rfl) (by kernel_rfl) (fun _ _ _ h => h) (Or.inl ⟨by rfl, ?yyz48⟩) hS ?rrz48
    case yyz48 => (intro wy hSy; go_simp; try with_reducible rfl)
    go_simp
    refine wpAnyH_done (by kernel_rfl) ?_ _
    go_wp2_with fail
    go_ret
    exact ⟨rfl, HB.out⟩
set_option maxRecDepth 10000 in
theorem ObjectClones_walk {H : Type} {enc : TypeId × Value → H} (W : World) (base : Nat) {v0 v1 v2 : Value} {d0 : DataW H} {p0 : List MemPlace} {d1 : DataW H} {p1 : List MemPlace} {d2 : DataW H} {p2 : List MemPlace}
    (k0 : Value.okWide Tryd.prog W .any base 25 v0) (h0 : DataW.Trod enc Tryd.prog W 0 (fun _ => true) true 25 v0 d0 p0) (k1 : Value.okWide Tryd.prog W .any base 9 v1) (h1 : DataW.Trod enc Tryd.prog W 0 (fun _ => true) true 9 v1 d1 p1) (k2 : Value.okWide Tryd.prog W .any base 42 v2) (h2 : DataW.Trod enc Tryd.prog W 0 (fun _ => true) true 42 v2 d2 p2) (ht : Et W) :
    Calls Tryd.prog 8 #[v0, v1, v2] W (Yes W) := by
  obtain ⟨Ad, nd, cd, Ak, nk, ck, s, d, ks, rfl, a1, a2, a3, a4, _, _⟩ := ar_object k0 h0
  obtain ⟨X, rfl, hX⟩ := ar_str8 k1 h1
  obtain ⟨A, m, cm, vs, rfl, b1, b2, b3⟩ := ar_ops k2 h2
  exact ObjectClones_core Ad nd cd Ak nk ck s d ks X A m cm vs W ht a1 a4 hX b1 b2 b3
end Go.Proofs.YtmigapjkicddiaaDoor
