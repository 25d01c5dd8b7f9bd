/- The walk of ObjectStays. (Written by wip/genstays.py.) -/
import Derived.Test.YtmigapjkicddiaaDoorMx
import Derived.Deep.CutBlock
import Derived.Deep.Cut
namespace Go.Proofs.YtmigapjkicddiaaDoor
open Go.ChangeShapes Go.WideShapes Go.ChangeAt Go.RowKit Go.Joins

set_option maxRecDepth 10000 in
set_option maxHeartbeats 8000000 in
theorem ObjectStays_core (Ad : Option Addr) (nd cd : Nat) (Ak : Option Addr) (nk ck : Nat) (s : Int) (d : List UInt8) (ks : List Ky) (A : Option Addr) (m cm : Nat) (vs : List Ov) (W : World) (ht : Et W)
    (hd : Rd W W.heap.size Ad nd d) (hr : RdK W W.heap.size Ak nk ks) (hv : OpsAt W W.heap.size A m vs) (hmc : m ≤ cm) (hcm : cm ≤ 9223372036854775807) :
    Calls Tryd.prog 6 #[oV Ad nd cd Ak nk ck s, .slice A m cm] W (Yes W) := by
  have HB := al8 W (.cells #[.slice Ad nd cd, .slice Ak nk ck, .int .i64 s] 25)
  have H1 := Lib.hid (heap_alloc_new W (.cells #[.slice Ad nd cd, .slice Ak nk ck, .int .i64 s] 25))
  have Hd := Lib.hid hd
  have Hr := Lib.hid hr
  have Hv := Lib.hid hv
  have Ht := Lib.hid ht
  have Hcm := Lib.hid (show m ≤ cm ∧ cm ≤ 9223372036854775807 from ⟨hmc, hcm⟩)
  clear hd hr ht hv hmc hcm
  go_enter Tryd.func6, Tryd.ntmps6
  go_upto_region 1 with fail
  generalize W.alloc (.cells #[.slice Ad nd cd, .slice Ak nk ck, .int .i64 s] 25) = w1 at HB H1 ⊢
  obtain ⟨b1, hb1⟩ : ∃ b, b = W.heap.size := ⟨_, rfl⟩
  rw [← hb1] at H1 ⊢
  have Hb1 := Lib.hid (Nat.le_of_eq hb1.symm)
  clear hb1
  have HA := Lib.hid (awake8 w1 (Ht.out.below HB.out Ht.out.lt))
  go_wp2_with fail
  refine HA.out.mono ?_
  rintro e w2 ⟨rfl, _, hb⟩
  replace H1 := Lib.hid (blk8 H1.out hb.out)
  replace HB := bel8 (Nat.le_refl _) HB hb.out
  clear hb HA
  obtain ⟨c0, c1, c2⟩ := objs_of H1.out
  have HF := few8 Ad nd cd Ak nk ck s d ks W.heap.size w2 Hd.out.1 (Hr.out.below HB.out) HB.out.size
  obtain ⟨q1, hq1⟩ : ∃ q, q = fewO ⟨d, ks, s⟩ := ⟨_, rfl⟩
  rw [← hq1] at HF
  have HF := Lib.hid HF
  clear hq1
  go_wp2_with fail
  refine HF.out.mono ?_
  rintro e w3 ⟨rfl, hb⟩
  replace H1 := Lib.hid (blk8 H1.out hb)
  replace HB := bel8 (Nat.le_refl _) HB hb
  clear hb HF c0 c1 c2
  obtain ⟨c0, c1, c2⟩ := objs_of H1.out
  cases q1
  · go_wp2_with fail
    go_ret
    exact ⟨rfl, HB.out⟩
  have HC := RMay8 Ad nd cd Ak nk ck s d ks W.heap.size w3 Hd.out.1 (Hr.out.below HB.out) HB.out.size
  cases hm : mayO ⟨d, ks, s⟩
  · rw [hm] at HC
    replace HC := Lib.hid HC
    clear hm
    go_wp2_with fail
    refine HC.out.mono ?_
    rintro e w4 ⟨rfl, hb⟩
    replace HB := bel8 (Nat.le_refl _) HB hb
    go_wp2_with fail
    go_ret
    exact ⟨rfl, HB.out⟩
  rw [hm] at HC
  replace HC := Lib.hid HC
  have Hm := Lib.hid hm
  clear hm
  go_wp2_with fail
  refine HC.out.mono ?_
  rintro e w4 ⟨rfl, hb⟩
  replace H1 := Lib.hid (blk8 H1.out hb)
  replace HB := bel8 (Nat.le_refl _) HB hb
  clear hb HC c0 c1 c2
  have HO : Hid (HoldO w4 b1 ⟨d, ks, s⟩) := ⟨Ad, nd, cd, Ak, nk, ck, H1.out, (Hd.out.below HB.out).more HB.out.size, (Hr.out.below HB.out).more HB.out.size⟩
  clear H1 Hd Hr
  go_wp2_with fail
  go_loopw [7, 8] (fun t i wr => ∃ (j : Nat) (O : Oj) (q : Bool), j ≤ m ∧ t = .bool q ∧ i = .int .i64 j ∧ Hid (mayO O = true ∧ (q = true ∨ O = oj0)) ∧ Hid (HoldO wr b1 O) ∧ Hid (Below W.heap.size W wr)) (fun _ i _ => m - (intOf i).toNat)
  case atStart => exact ⟨0, ⟨d, ks, s⟩, true, Nat.zero_le _, rfl, rfl, ⟨Hm.out, .inl rfl⟩, HO, HB⟩
  case round =>
    obtain ⟨j, O, q, hj, rfl, rfl, HCm, HCr, HBr⟩ := hrel
    clear HO HB Hm
    by_cases hjm : ¬ j < m
    · have hj1 : ¬ (j : Int) < (m : Int) := by omega
      go_wp2_with fail
      go_ret
      exact ⟨rfl, HBr.out⟩
    by_cases hj12 : ¬ j < 20
    · have hj1 : (j : Int) < (m : Int) := by omega
      have hj2 : ¬ (j : Int) < 20 := by omega
      go_wp2_with fail
      go_ret
      exact ⟨rfl, HBr.out⟩
    have hjl : j < vs.length := by rw [Hv.out.1]; omega
    obtain ⟨g, oo, rfl, hg, a0, a1, a2, a3, a4, h5, h6, h7, h8⟩ := Hv.out.2 j hjl
    generalize vs[j] = v at a0 a1 a2 a3 a4 h5 h6 h7 h8
    obtain ⟨⟨k, f, n, Y, D⟩, Ap, np, cp⟩ := v
    have HP : Hid (∀ wx, Below W.heap.size W wx → wx.cell? ⟨g, oo + j * 5, none⟩ = some (.int .i64 k) ∧ wx.cell? ⟨g, oo + j * 5 + 1, none⟩ = some (.int .i64 f) ∧ wx.cell? ⟨g, oo + j * 5 + 2, none⟩ = some (.int .i64 n) ∧ wx.cell? ⟨g, oo + j * 5 + 3, none⟩ = some (.string ⟨Y.toArray⟩) ∧ wx.cell? ⟨g, oo + j * 5 + 4, none⟩ = some (.slice Ap np cp)) :=
      fun wx h => ⟨(h.cell hg).trans a0, (h.cell hg).trans a1, (h.cell hg).trans a2, (h.cell hg).trans a3, (h.cell hg).trans a4⟩
    have hys : (⟨Y.toArray⟩ : ByteArray).size = Y.length := by simp [ByteArray.size]
    have HD := Lib.hid (show Rd W W.heap.size Ap np D from h5)
    have HDc := Lib.hid (show np ≤ cp ∧ cp ≤ 9223372036854775807 from h6)
    have HY := Lib.hid (show Y.length ≤ 9223372036854775807 from h7)
    have HI := Lib.hid (show I64 f from h8)
    clear h5 h6 h7 h8 hjl hg a0 a1 a2 a3 a4
    have hj0 : (0 : Int) ≤ (j : Int) := by omega
    have hj1 : (j : Int) < (m : Int) := by omega
    have hj2 : (j : Int) < 20 := by omega
    obtain ⟨a0, a1, a2, a3, a4⟩ := HP.out wr HBr.out
    by_cases hp : 3000 < np
    · have hp2 : (3000 : Int) < (np : Int) := by omega
      go_wp2_with fail
      go_ret
      exact ⟨rfl, HBr.out⟩
    have hp2 : ¬ (3000 : Int) < (np : Int) := by omega
    by_cases hy : 100 < Y.length
    · have hy2 : (100 : Int) < (Y.length : Int) := by omega
      go_wp2_with fail
      go_ret
      exact ⟨rfl, HBr.out⟩
    have hy2 : ¬ (100 : Int) < (Y.length : Int) := by omega
    have hHh := HCr.out
    obtain ⟨A9, n9, c9, K9, m9, k9, e1, e2, e3⟩ := hHh
    have H1 := Lib.hid e1
    have R9 := Lib.hid e2
    have Q9 := Lib.hid e3
    clear e1 e2 e3 HCr
    obtain ⟨hm1, hm2, _, _, hm3, _⟩ := (mayO_iff _).1 HCm.out.1
    have Hl9 := Lib.hid (show n9 ≤ 64 ∧ m9 ≤ 120 by
      rw [R9.out.1] at hm1; rw [Q9.out.1] at hm2; exact ⟨hm1, hm2⟩)
    have HCl := Lib.hid ((kCloneO A9 n9 c9 K9 m9 k9 O.seq O.data O.keys wr.heap.size wr R9.out (by have := Hl9.out; omega) Q9.out (Nat.le_refl _) (by have := Hl9.out; omega) (fun x hx => by have := (hm3 x hx).2; omega)).mono fun _ _ h => h.x)
    clear hm1 hm2 hm3
    obtain ⟨c0, c1, c2⟩ := objs_of H1.out
    go_wp2_with fail
    refine HCl.out.mono ?_
    rintro e w5 ⟨A7, n7, c7, K7, m7, k7, s7, rfl, E7, R7, Q7, hb⟩
    obtain rfl : s7 = O.seq := E7.out
    clear c0 c1 c2 HCl E7
    replace H1 := Lib.hid (blk8 H1.out hb.out)
    replace R9 := Lib.hid ((R9.out.below hb.out).more hb.out.size)
    replace Q9 := Lib.hid ((Q9.out.below hb.out).more hb.out.size)
    replace HBr := bel8 (Nat.le_refl _) HBr hb.out
    clear hb
    go_upto_region 14 with fail
    have hba := al8 w5 (.cells #[.slice A7 n7 c7, .slice K7 m7 k7, .int .i64 O.seq] 25)
    have H7 := Lib.hid (heap_alloc_new w5 (.cells #[.slice A7 n7 c7, .slice K7 m7 k7, .int .i64 O.seq] 25))
    replace H1 := Lib.hid (blk8 H1.out hba.out)
    replace R9 := Lib.hid ((R9.out.below hba.out).more hba.out.size)
    replace Q9 := Lib.hid ((Q9.out.below hba.out).more hba.out.size)
    replace R7 := Lib.hid ((R7.out.below hba.out).more hba.out.size)
    replace Q7 := Lib.hid ((Q7.out.below hba.out).more hba.out.size)
    replace HBr := bel8 (Nat.le_refl _) HBr hba.out
    clear hba a0 a1 a2 a3 a4 hp2 hy2
    generalize w5.alloc (.cells #[.slice A7 n7 c7, .slice K7 m7 k7, .int .i64 O.seq] 25) = w9 at H7 H1 R9 Q9 R7 Q7 HBr ⊢
    generalize w5.heap.size = b7 at H7 ⊢
    have HT9 := Lib.hid (Ht.out.below HBr.out Ht.out.lt)
    have hHDo : ∀ w', Hid (Below w9.heap.size w9 w') → Calls Tryd.prog 22 #[oV A9 n9 c9 K9 m9 k9 O.seq, .bool q, pV k f n Y Ap np cp] w' (DoX w' (doO O q ⟨k, f, n, Y, D⟩)) := fun w' h => (kDo A9 n9 c9 K9 m9 k9 O.seq O.data O.keys q k f n Y Ap np cp D w'.heap.size w' (HT9.out.below h.out HT9.out.lt) (Nat.le_refl _) ((R9.out.below h.out).more h.out.size) ((Q9.out.below h.out).more h.out.size) HI.out ((HD.out.below (HBr.out.trans (h.out.mono HBr.out.size))).more (Nat.le_trans HBr.out.size h.out.size)) HDc.out.1 HDc.out.2 HY.out).mono fun _ _ h => h.x
    obtain ⟨r, hr⟩ : ∃ r, r = doO O q ⟨k, f, n, Y, D⟩ := ⟨_, rfl⟩
    rw [← hr] at hHDo
    have HDo := Lib.hid hHDo
    have Hrr := Lib.hid hr
    clear hr hHDo
    obtain ⟨ro, rx, ry, rc⟩ := r
    obtain ⟨c0, c1, c2⟩ := objs_of H1.out
    have hbl := lt_of_block H1.out
    obtain ⟨a0, a1, a2, a3, a4⟩ := HP.out w9 HBr.out
    have hgl := World.block_lt_of_cell? w9 _ a0
    have HB0 : Hid (Below w9.heap.size w9 w9.drew) := below_drewN (Below.refl _ _) 1
    go_cut [10, 11, 12, 13] (fun s10 s11 s12 s13 wx => ∃ t A10 n10 c10 K10 m10 k10, s10 = .pointer (some ⟨t, 0, none⟩) ∧ s11 = .bool rx ∧ s12 = .bool ry ∧ s13 = .int .i64 rc ∧ Hid (wx.heap[t]? = some (.cells #[.slice A10 n10 c10, .slice K10 m10 k10, .int .i64 ro.seq] 25 (0, 0))) ∧ Hid (Rd wx wx.heap.size A10 n10 ro.data) ∧ Hid (RdK wx wx.heap.size K10 m10 ro.keys) ∧ Hid (n10 ≤ 64 ∧ m10 ≤ 120) ∧ Hid (w9.heap.size ≤ t) ∧ Hid (Below w9.heap.size w9 wx))
    case first =>

      refine wp_region_held_drew (S := fun W => Below w9.heap.size w9 W) (by kernel_rfl) HB0.out (fun hS => ?_)
      refine wpAnyH_take (i := 0) (v := ?vq1) rfl (by kernel_rfl) (by kernel_rfl) (by kernel_rfl) (fun _ _ _ h => h) (Or.inl ⟨by rfl, ?yq1⟩) hS ?rq1
      case yq1 => (intro wy hSy; have g0 := (hSy.cell (p := ⟨b1, 0, none⟩) hbl).trans c0; have g1 := (hSy.cell (p := ⟨b1, 1, none⟩) hbl).trans c1; have g2 := (hSy.cell (p := ⟨b1, 2, none⟩) hbl).trans c2; go_simp; try with_reducible rfl)
      simp only [Act.put]
      refine wpAnyH_take (i := 1) (v := ?vq2) rfl (by kernel_rfl) (by kernel_rfl) (by kernel_rfl) (fun _ _ _ h => h) (Or.inl ⟨by rfl, ?yq2⟩) hS ?rq2
      case yq2 => (intro wy hSy; go_simp; try with_reducible rfl)
      simp only [Act.put]
      refine wpAnyH_take (i := 2) (v := ?vq3) rfl (by kernel_rfl) (by kernel_rfl) (by kernel_rfl) (fun _ _ _ h => h) (Or.inl ⟨by rfl, ?yq3⟩) hS ?rq3
      case yq3 => (intro wy hSy; go_simp; try with_reducible rfl)
      simp only [Act.put]
      refine wpAnyH_take (i := 3) (v := ?vq4) rfl (by kernel_rfl) (by kernel_rfl) (by kernel_rfl) (fun _ _ _ h => h) (Or.inl ⟨by rfl, ?yq4⟩) hS ?rq4
      case yq4 => (intro wy hSy; go_simp; try with_reducible rfl)
      simp only [Act.put]
      refine wpAnyH_take (i := 4) (v := ?vq5) rfl (by kernel_rfl) (by kernel_rfl) (by kernel_rfl) (fun _ _ _ h => h) (Or.inl ⟨by rfl, ?yq5⟩) hS ?rq5
      case yq5 => (intro wy hSy; go_simp; try with_reducible rfl)
      simp only [Act.put]
      refine wpAnyH_take (i := 5) (v := ?vq6) rfl (by kernel_rfl) (by kernel_rfl) (by kernel_rfl) (fun _ _ _ h => h) (Or.inl ⟨by rfl, ?yq6⟩) hS ?rq6
      case yq6 => (intro wy hSy; have p0 := (hSy.cell (p := ⟨g, oo + j * 5, none⟩) hgl).trans a0; have p1 := (hSy.cell (p := ⟨g, oo + j * 5 + 1, none⟩) hgl).trans a1; have p2 := (hSy.cell (p := ⟨g, oo + j * 5 + 2, none⟩) hgl).trans a2; have p3 := (hSy.cell (p := ⟨g, oo + j * 5 + 3, none⟩) hgl).trans a3; have p4 := (hSy.cell (p := ⟨g, oo + j * 5 + 4, none⟩) hgl).trans a4; go_simp; try with_reducible rfl)
      simp only [Act.put]
      refine wpAnyH_ready (rs := [6, 12]) (by kernel_rfl) (by simp) ?_
      refine AllReadyH.cons rfl (fun K hK => ?_) (AllReadyH.cons rfl (fun K hK => ?_) AllReadyH.nil)
      · skip
        go_simp
        go_wp2_with (go_at_call 22; refine (HDo.out _ HB0).mono ?_; rintro e w2 ⟨A10, n10, c10, K10, m10, k10, s10, rfl, E10, R10, Q10, L10, hb⟩)
        obtain rfl : s10 = ro.seq := E10.out
        have HBw2 := bel8 (Nat.le_refl _) HB0 hb.out
        refine hK.out _ _ ?_ (fun hS => ?_)
        · exact HBw2.out
        clear hK K
        refine wpAnyH_take (i := 7) (v := ?vq7) rfl (by kernel_rfl) (by kernel_rfl) (by kernel_rfl) (fun _ _ _ h => h) (Or.inl ⟨by rfl, ?yq7⟩) hS ?rq7
        case yq7 => (intro wy hSy; go_simp; try with_reducible rfl)
        simp only [Act.put]
        refine wpAnyH_take (i := 8) (v := ?vq8) rfl (by kernel_rfl) (by kernel_rfl) (by kernel_rfl) (fun _ _ _ h => h) (Or.inl ⟨by rfl, ?yq8⟩) hS ?rq8
        case yq8 => (intro wy hSy; go_simp; try with_reducible rfl)
        simp only [Act.put]
        refine wpAnyH_take (i := 9) (v := ?vq9) rfl (by kernel_rfl) (by kernel_rfl) (by kernel_rfl) (fun _ _ _ h => h) (Or.inl ⟨by rfl, ?yq9⟩) hS ?rq9
        case yq9 => (intro wy hSy; go_simp; try with_reducible rfl)
        simp only [Act.put]
        refine wpAnyH_take (i := 10) (v := ?vq10) rfl (by kernel_rfl) (by kernel_rfl) (by kernel_rfl) (fun _ _ _ h => h) (Or.inl ⟨by rfl, ?yq10⟩) hS ?rq10
        case yq10 => (intro wy hSy; go_simp; try with_reducible rfl)
        simp only [Act.put]
        refine wpAnyH_take (i := 11) (v := ?vq11) rfl (by kernel_rfl) (by kernel_rfl) (by kernel_rfl) (fun _ _ _ h => h) (Or.inl ⟨by rfl, ?yq11⟩) hS ?rq11
        case yq11 => (intro wy hSy; go_simp; try with_reducible rfl)
        simp only [Act.put]
        refine wpAnyH_ready (rs := [12]) (by kernel_rfl) (by simp) ?_
        refine AllReadyH.cons rfl (fun K hK => ?_) AllReadyH.nil
        go_simp
        refine hK.out _ _ ?_ (fun hS => ?_)
        · exact HBw2.out.alloc HBw2.out.size _
        clear hK K
        have hba := (Below.refl w2.heap.size w2).alloc (Nat.le_refl _) (.cells #[.slice none 0 0, .slice none 0 0, .int .i64 0] 25)
        have HBw4 : Hid (Below w9.heap.size w9 (w2.alloc (.cells #[.slice none 0 0, .slice none 0 0, .int .i64 0] 25))) := HBw2.out.alloc HBw2.out.size _
        have HZ4 := Lib.hid (heap_alloc_new w2 (.cells #[.slice none 0 0, .slice none 0 0, .int .i64 0] 25))
        replace R10 := Lib.hid ((R10.out.below hba).more hba.size)
        replace Q10 := Lib.hid ((Q10.out.below hba).more hba.size)
        have ht := Lib.hid HBw2.out.size
        clear hba hb HBw2 hS
        have hS := HBw4.out
        generalize w2.alloc (.cells #[.slice none 0 0, .slice none 0 0, .int .i64 0] 25) = w4 at HBw4 HZ4 R10 Q10 hS ⊢
        generalize w2.heap.size = t at HZ4 ht ⊢
        have HPR : Hid (Rd (put3 w4 t (.slice A10 n10 c10) (.slice K10 m10 k10) (.int .i64 ro.seq)) (put3 w4 t (.slice A10 n10 c10) (.slice K10 m10 k10) (.int .i64 ro.seq)).heap.size A10 n10 ro.data) := by rw [put3_size]; exact R10.out.putO HZ4.out _ _ _
        have HPQ : Hid (RdK (put3 w4 t (.slice A10 n10 c10) (.slice K10 m10 k10) (.int .i64 ro.seq)) (put3 w4 t (.slice A10 n10 c10) (.slice K10 m10 k10) (.int .i64 ro.seq)).heap.size K10 m10 ro.keys) := by rw [put3_size]; exact Q10.out.putO HZ4.out _ _ _
        obtain ⟨t0, t1, t2⟩ := objs_of HZ4.out
        have f0 := free_blk HZ4.out 0
        have f1 := free_blk HZ4.out 1
        have f2 := free_blk HZ4.out 2
        refine wpAnyH_ready (rs := [13]) (by kernel_rfl) (by simp) ?_
        refine AllReadyH.cons rfl (fun K hK => ?_) AllReadyH.nil
        go_simp
        refine hK.out _ _ ?_ (fun hS => ?_)
        · exact put3_below HBw4.out ht.out _ _ _
        clear hK K
        refine wpAnyH_take (i := 14) (v := ?vq12) rfl (by kernel_rfl) (by kernel_rfl) (by kernel_rfl) (fun _ _ _ h => h) (Or.inl ⟨by rfl, ?yq12⟩) hS ?rq12
        case yq12 => (intro wy hSy; go_simp; try with_reducible rfl)
        simp only [Act.put]
        refine wpAnyH_take (i := 15) (v := ?vq13) rfl (by kernel_rfl) (by kernel_rfl) (by kernel_rfl) (fun _ _ _ h => h) (Or.inl ⟨by rfl, ?yq13⟩) hS ?rq13
        case yq13 => (intro wy hSy; go_simp; try with_reducible rfl)
        simp only [Act.put]
        refine wpAnyH_take (i := 16) (v := ?vq14) rfl (by kernel_rfl) (by kernel_rfl) (by kernel_rfl) (fun _ _ _ h => h) (Or.inl ⟨by rfl, ?yq14⟩) hS ?rq14
        case yq14 => (intro wy hSy; go_simp; try with_reducible rfl)
        simp only [Act.put]
        refine wpAnyH_done (by kernel_rfl) ?_ _
        go_wp2_with fail
        go_meet
        exact ⟨t, A10, n10, c10, K10, m10, k10, rfl, rfl, rfl, rfl, put3_at HZ4.out _ _ _, HPR, HPQ, L10, ht, put3_below HBw4.out ht.out _ _ _⟩
      · skip
        go_simp
        refine hK.out _ _ ?_ (fun hS => ?_)
        · exact below_drewN ((Below.refl _ _).alloc (Nat.le_refl _) (.cells #[.slice none 0 0, .slice none 0 0, .int .i64 0] 25)) 1
        clear hK K
        have HBw3 : Hid (Below w9.heap.size w9 (w9.alloc (.cells #[.slice none 0 0, .slice none 0 0, .int .i64 0] 25)).drew) := below_drewN ((Below.refl _ _).alloc (Nat.le_refl _) (.cells #[.slice none 0 0, .slice none 0 0, .int .i64 0] 25)) 1
        have HZ3 : Hid ((w9.alloc (.cells #[.slice none 0 0, .slice none 0 0, .int .i64 0] 25)).drew.heap[w9.heap.size]? = some (.cells #[.slice none 0 0, .slice none 0 0, .int .i64 0] 25 (0, 0))) := heap_alloc_new w9 _
        have ht := Lib.hid (Nat.le_refl w9.heap.size)
        clear hS
        have hS := HBw3.out
        generalize (w9.alloc (.cells #[.slice none 0 0, .slice none 0 0, .int .i64 0] 25)).drew = w3 at HBw3 HZ3 hS ⊢
        refine wpAnyH_ready (rs := [6]) (by kernel_rfl) (by simp) ?_
        refine AllReadyH.cons rfl (fun K hK => ?_) AllReadyH.nil
        go_simp
        go_wp2_with (go_at_call 22; refine (HDo.out _ HBw3).mono ?_; rintro e w4 ⟨A10, n10, c10, K10, m10, k10, s10, rfl, E10, R10, Q10, L10, hb⟩)
        obtain rfl : s10 = ro.seq := E10.out
        have HBw4 := bel8 (Nat.le_refl _) HBw3 hb.out
        refine hK.out _ _ ?_ (fun hS => ?_)
        · exact HBw4.out
        clear hK K
        have HZ4 := Lib.hid (blk8 HZ3.out hb.out)
        clear hb HBw3 HZ3
        refine wpAnyH_take (i := 7) (v := ?vq15) rfl (by kernel_rfl) (by kernel_rfl) (by kernel_rfl) (fun _ _ _ h => h) (Or.inl ⟨by rfl, ?yq15⟩) hS ?rq15
        case yq15 => (intro wy hSy; go_simp; try with_reducible rfl)
        simp only [Act.put]
        refine wpAnyH_take (i := 8) (v := ?vq16) rfl (by kernel_rfl) (by kernel_rfl) (by kernel_rfl) (fun _ _ _ h => h) (Or.inl ⟨by rfl, ?yq16⟩) hS ?rq16
        case yq16 => (intro wy hSy; go_simp; try with_reducible rfl)
        simp only [Act.put]
        refine wpAnyH_take (i := 9) (v := ?vq17) rfl (by kernel_rfl) (by kernel_rfl) (by kernel_rfl) (fun _ _ _ h => h) (Or.inl ⟨by rfl, ?yq17⟩) hS ?rq17
        case yq17 => (intro wy hSy; go_simp; try with_reducible rfl)
        simp only [Act.put]
        refine wpAnyH_take (i := 10) (v := ?vq18) rfl (by kernel_rfl) (by kernel_rfl) (by kernel_rfl) (fun _ _ _ h => h) (Or.inl ⟨by rfl, ?yq18⟩) hS ?rq18
        case yq18 => (intro wy hSy; go_simp; try with_reducible rfl)
        simp only [Act.put]
        refine wpAnyH_take (i := 11) (v := ?vq19) rfl (by kernel_rfl) (by kernel_rfl) (by kernel_rfl) (fun _ _ _ h => h) (Or.inl ⟨by rfl, ?yq19⟩) hS ?rq19
        case yq19 => (intro wy hSy; go_simp; try with_reducible rfl)
        simp only [Act.put]
        have HPR : Hid (Rd (put3 w4 w9.heap.size (.slice A10 n10 c10) (.slice K10 m10 k10) (.int .i64 ro.seq)) (put3 w4 w9.heap.size (.slice A10 n10 c10) (.slice K10 m10 k10) (.int .i64 ro.seq)).heap.size A10 n10 ro.data) := by rw [put3_size]; exact R10.out.putO HZ4.out _ _ _
        have HPQ : Hid (RdK (put3 w4 w9.heap.size (.slice A10 n10 c10) (.slice K10 m10 k10) (.int .i64 ro.seq)) (put3 w4 w9.heap.size (.slice A10 n10 c10) (.slice K10 m10 k10) (.int .i64 ro.seq)).heap.size K10 m10 ro.keys) := by rw [put3_size]; exact Q10.out.putO HZ4.out _ _ _
        obtain ⟨t0, t1, t2⟩ := objs_of HZ4.out
        have f0 := free_blk HZ4.out 0
        have f1 := free_blk HZ4.out 1
        have f2 := free_blk HZ4.out 2
        refine wpAnyH_ready (rs := [13]) (by kernel_rfl) (by simp) ?_
        refine AllReadyH.cons rfl (fun K hK => ?_) AllReadyH.nil
        go_simp
        refine hK.out _ _ ?_ (fun hS => ?_)
        · exact put3_below HBw4.out ht.out _ _ _
        clear hK K
        refine wpAnyH_take (i := 14) (v := ?vq20) rfl (by kernel_rfl) (by kernel_rfl) (by kernel_rfl) (fun _ _ _ h => h) (Or.inl ⟨by rfl, ?yq20⟩) hS ?rq20
        case yq20 => (intro wy hSy; go_simp; try with_reducible rfl)
        simp only [Act.put]
        refine wpAnyH_take (i := 15) (v := ?vq21) rfl (by kernel_rfl) (by kernel_rfl) (by kernel_rfl) (fun _ _ _ h => h) (Or.inl ⟨by rfl, ?yq21⟩) hS ?rq21
        case yq21 => (intro wy hSy; go_simp; try with_reducible rfl)
        simp only [Act.put]
        refine wpAnyH_take (i := 16) (v := ?vq22) rfl (by kernel_rfl) (by kernel_rfl) (by kernel_rfl) (fun _ _ _ h => h) (Or.inl ⟨by rfl, ?yq22⟩) hS ?rq22
        case yq22 => (intro wy hSy; go_simp; try with_reducible rfl)
        simp only [Act.put]
        refine wpAnyH_done (by kernel_rfl) ?_ _
        go_wp2_with fail
        go_meet
        exact ⟨w9.heap.size, A10, n10, c10, K10, m10, k10, rfl, rfl, rfl, rfl, put3_at HZ4.out _ _ _, HPR, HPQ, L10, ht, put3_below HBw4.out ht.out _ _ _⟩
    case rest =>
      obtain ⟨t, A10, n10, c10, K10, m10, k10, rfl, rfl, rfl, rfl, HT, R10, Q10, L10, Hlt, Hb⟩ := hcut
      clear c0 c1 c2 a0 a1 a2 a3 a4 HB0 HDo hbl hgl HT9
      replace H1 := Lib.hid (blk8 H1.out Hb.out)
      replace H7 := Lib.hid (blk8 H7.out Hb.out)
      replace R9 := Lib.hid ((R9.out.below Hb.out).more Hb.out.size)
      replace Q9 := Lib.hid ((Q9.out.below Hb.out).more Hb.out.size)
      replace R7 := Lib.hid ((R7.out.below Hb.out).more Hb.out.size)
      replace Q7 := Lib.hid ((Q7.out.below Hb.out).more Hb.out.size)
      replace HBr := bel8 (Nat.le_refl _) HBr Hb.out
      have HS := RSame8 A9 n9 c9 K9 m9 k9 O.seq O.data O.keys A7 n7 c7 K7 m7 k7 O.seq O.data O.keys wc R9.out Q9.out R7.out Q7.out (by have := Hl9.out; omega) (by rw [← Q7.out.1, Q9.out.1]; have := Hl9.out; omega)
      rw [decide_eq_true rfl] at HS
      replace HS := Lib.hid HS
      obtain ⟨c0, c1, c2⟩ := objs_of H1.out
      obtain ⟨d0, d1, d2⟩ := objs_of H7.out
      go_wp2_with fail
      refine HS.out.mono ?_
      rintro e w11 ⟨rfl, hb⟩
      clear c0 c1 c2 d0 d1 d2 HS R7 Q7 H7 Hlt
      replace H1 := Lib.hid (blk8 H1.out hb)
      replace HT := Lib.hid (blk8 HT.out hb)
      replace R9 := Lib.hid ((R9.out.below hb).more hb.size)
      replace Q9 := Lib.hid ((Q9.out.below hb).more hb.size)
      replace R10 := Lib.hid ((R10.out.below hb).more hb.size)
      replace Q10 := Lib.hid ((Q10.out.below hb).more hb.size)
      replace HBr := bel8 (Nat.le_refl _) HBr hb
      clear hb Hb
      by_cases hrc : rc = 0
      case neg =>
        have h := do_err O q ⟨k, f, n, Y, D⟩ (by rw [← Hrr.out]; exact hrc)
        rw [← Hrr.out] at h
        obtain ⟨h1, h2, h3⟩ := h
        obtain rfl : ro = oj0 := h1
        obtain rfl : rx = false := h2
        obtain rfl : ry = false := h3
        have HS := RSame8 A10 n10 c10 K10 m10 k10 oj0.seq oj0.data oj0.keys none 0 0 none 0 0 0 [] [] w11 R10.out Q10.out Rd.nil (RdK.nil _ _ _) (by have := L10.out; omega) (by omega)
        rw [decide_eq_true (show (⟨oj0.data, oj0.keys, oj0.seq⟩ : Oj) = ⟨[], [], 0⟩ from rfl)] at HS
        replace HS := Lib.hid HS
        obtain ⟨t0, t1, t2⟩ := objs_of HT.out
        go_wp2_with fail
        refine HS.out.mono ?_
        rintro e w12 ⟨rfl, hb⟩
        clear t0 t1 t2 HS
        replace H1 := Lib.hid (blk8 H1.out hb)
        replace R9 := Lib.hid ((R9.out.below hb).more hb.size)
        replace Q9 := Lib.hid ((Q9.out.below hb).more hb.size)
        replace HBr := bel8 (Nat.le_refl _) HBr hb
        have HN : Hid (HoldO w12 b1 O) := ⟨A9, n9, c9, K9, m9, k9, H1.out, R9.out, Q9.out⟩
        go_wp2_with fail
        go_roundw
        case rel => exact ⟨j + 1, O, q, by omega, rfl, by go_num, HCm, HN, HBr⟩
        case measure => simp [intOf]; omega
      subst hrc
      have h := do_ok O q ⟨k, f, n, Y, D⟩ (by rw [← Hrr.out])
      rw [← Hrr.out] at h
      have hmn := do_may O q ⟨k, f, n, Y, D⟩
      rw [← Hrr.out] at hmn
      have hlow : k ≤ 4 → ro = O ∧ rx = q := fun hk => by
        have h1 := do_guard (o := O) (t := q) (p := ⟨k, f, n, Y, D⟩) HCm.out.1 h.1 hk (by rw [← Hrr.out])
        rw [← Hrr.out] at h1
        refine ⟨h1.1.trans ?_, h1.2⟩
        rcases HCm.out.2 with h2 | h2
        · rw [if_pos h2]
        · rw [h2]; split <;> rfl
      have Hmn : Hid (mayO ro = true) := hmn
      have Hgone : Hid (rx = true ∨ ro = oj0) := h.2.1
      have Hon : Hid (4 < k → ry = true) := h.2.2
      have Hlow := Lib.hid hlow
      clear h hmn hlow
      obtain ⟨a0, a1, a2, a3, a4⟩ := HP.out w11 HBr.out
      clear a1 a2 a3 a4
      go_upto_region 21 with fail
      clear a0
      go_cut [123] (fun u wx => u = .bool false ∧ Hid (Below w11.heap.size w11 wx))
      case first =>
        have HB0 : Hid (Below w11.heap.size w11 w11) := Below.refl _ _
        have HNo : Hid (∀ w', Hid (Below w11.heap.size w11 w') → Calls Tryd.prog 21 #[oV A10 n10 c10 K10 m10 k10 ro.seq, oV A9 n9 c9 K9 m9 k9 O.seq] w' fun e w'' => e = .returned (.bool (decide ((⟨ro.data, ro.keys, ro.seq⟩ : Oj) = ⟨O.data, O.keys, O.seq⟩))) ∧ Below w'.heap.size w' w'') := fun w' h => RSame8 A10 n10 c10 K10 m10 k10 ro.seq ro.data ro.keys A9 n9 c9 K9 m9 k9 O.seq O.data O.keys w' ((R10.out.below h.out).more h.out.size) ((Q10.out.below h.out).more h.out.size) ((R9.out.below h.out).more h.out.size) ((Q9.out.below h.out).more h.out.size) (by have := L10.out; omega) (by have := Hl9.out; omega)
        have HNz : Hid (∀ w', Hid (Below w11.heap.size w11 w') → Calls Tryd.prog 21 #[oV A10 n10 c10 K10 m10 k10 ro.seq, oV none 0 0 none 0 0 0] w' fun e w'' => e = .returned (.bool (decide ((⟨ro.data, ro.keys, ro.seq⟩ : Oj) = ⟨[], [], 0⟩))) ∧ Below w'.heap.size w' w'') := fun w' h => RSame8 A10 n10 c10 K10 m10 k10 ro.seq ro.data ro.keys none 0 0 none 0 0 0 [] [] w' ((R10.out.below h.out).more h.out.size) ((Q10.out.below h.out).more h.out.size) Rd.nil (RdK.nil _ _ _) (by have := L10.out; omega) (by omega)
        have HNm : Hid (∀ w', Hid (Below w11.heap.size w11 w') → Calls Tryd.prog 11 #[oV A10 n10 c10 K10 m10 k10 ro.seq] w' fun e w'' => e = .returned (.bool true) ∧ Below w'.heap.size w' w'') := fun w' h => by
          have h1 := RMay8 A10 n10 c10 K10 m10 k10 ro.seq ro.data ro.keys w'.heap.size w' R10.out.1 ((Q10.out.below h.out).more h.out.size) (Nat.le_refl _)
          rw [show mayO ⟨ro.data, ro.keys, ro.seq⟩ = true from Hmn.out] at h1
          exact h1
        obtain ⟨t0, t1, t2⟩ := objs_of HT.out
        obtain ⟨c0, c1, c2⟩ := objs_of H1.out
        have htl := lt_of_block HT.out
        by_cases hk4 : k ≤ 4
        · obtain ⟨hro, hrx⟩ := Hlow.out hk4
          have hk5 : ¬ 4 < k := by omega
          obtain rfl := hrx.symm
          have Hro := Lib.hid hro
          clear hro hrx
          cases q
          · have Hz := Lib.hid ((Hgone.out.resolve_left (by simp)))
            have HC12 := HNo.out w11 HB0
            rw [decide_eq_true (show (⟨ro.data, ro.keys, ro.seq⟩ : Oj) = ⟨O.data, O.keys, O.seq⟩ from Hro.out)] at HC12
            replace HC12 := Lib.hid HC12
            go_wp2_with fail
            refine HC12.out.mono ?_
            rintro e w12 ⟨rfl, hb⟩
            have HB12 := bel8 (Nat.le_refl _) HB0 hb
            replace HT := Lib.hid (blk8 HT.out hb)
            clear t0 t1 t2 HC12 hb
            obtain ⟨t0, t1, t2⟩ := objs_of HT.out
            have HC13 := HNz.out w12 HB12
            rw [decide_eq_true (show (⟨ro.data, ro.keys, ro.seq⟩ : Oj) = ⟨[], [], 0⟩ from Hz.out)] at HC13
            replace HC13 := Lib.hid HC13
            go_wp2_with fail
            refine HC13.out.mono ?_
            rintro e w13 ⟨rfl, hb⟩
            have HB13 := bel8 (Nat.le_refl _) HB12 hb
            replace HT := Lib.hid (blk8 HT.out hb)
            clear t0 t1 t2 HC13 hb
            obtain ⟨t0, t1, t2⟩ := objs_of HT.out
            have HC14 := HNm.out w13 HB13
            replace HC14 := Lib.hid HC14
            go_wp2_with fail
            refine HC14.out.mono ?_
            rintro e w14 ⟨rfl, hb⟩
            have HB14 := bel8 (Nat.le_refl _) HB13 hb
            replace HT := Lib.hid (blk8 HT.out hb)
            clear t0 t1 t2 HC14 hb
            obtain ⟨t0, t1, t2⟩ := objs_of HT.out
            go_wp2_with fail
            go_meet
            exact ⟨rfl, HB14⟩
          · skip
            have HC12 := HNo.out w11 HB0
            rw [decide_eq_true (show (⟨ro.data, ro.keys, ro.seq⟩ : Oj) = ⟨O.data, O.keys, O.seq⟩ from Hro.out)] at HC12
            replace HC12 := Lib.hid HC12
            go_wp2_with fail
            refine HC12.out.mono ?_
            rintro e w12 ⟨rfl, hb⟩
            have HB12 := bel8 (Nat.le_refl _) HB0 hb
            replace HT := Lib.hid (blk8 HT.out hb)
            clear t0 t1 t2 HC12 hb
            obtain ⟨t0, t1, t2⟩ := objs_of HT.out
            have HC13 := HNm.out w12 HB12
            replace HC13 := Lib.hid HC13
            go_wp2_with fail
            refine HC13.out.mono ?_
            rintro e w13 ⟨rfl, hb⟩
            have HB13 := bel8 (Nat.le_refl _) HB12 hb
            replace HT := Lib.hid (blk8 HT.out hb)
            clear t0 t1 t2 HC13 hb
            obtain ⟨t0, t1, t2⟩ := objs_of HT.out
            go_wp2_with fail
            go_meet
            exact ⟨rfl, HB13⟩
        · have hk5 : 4 < k := by omega
          obtain rfl : ry = true := Hon.out hk5
          cases rx
          · have Hz := Lib.hid ((Hgone.out.resolve_left (by simp)))
            have HC12 := HNz.out w11 HB0
            rw [decide_eq_true (show (⟨ro.data, ro.keys, ro.seq⟩ : Oj) = ⟨[], [], 0⟩ from Hz.out)] at HC12
            replace HC12 := Lib.hid HC12
            go_wp2_with fail
            refine HC12.out.mono ?_
            rintro e w12 ⟨rfl, hb⟩
            have HB12 := bel8 (Nat.le_refl _) HB0 hb
            replace HT := Lib.hid (blk8 HT.out hb)
            clear t0 t1 t2 HC12 hb
            obtain ⟨t0, t1, t2⟩ := objs_of HT.out
            have HC13 := HNm.out w12 HB12
            replace HC13 := Lib.hid HC13
            go_wp2_with fail
            refine HC13.out.mono ?_
            rintro e w13 ⟨rfl, hb⟩
            have HB13 := bel8 (Nat.le_refl _) HB12 hb
            replace HT := Lib.hid (blk8 HT.out hb)
            clear t0 t1 t2 HC13 hb
            obtain ⟨t0, t1, t2⟩ := objs_of HT.out
            go_wp2_with fail
            go_meet
            exact ⟨rfl, HB13⟩
          · skip
            have HC12 := HNm.out w11 HB0
            replace HC12 := Lib.hid HC12
            go_wp2_with fail
            refine HC12.out.mono ?_
            rintro e w12 ⟨rfl, hb⟩
            have HB12 := bel8 (Nat.le_refl _) HB0 hb
            replace HT := Lib.hid (blk8 HT.out hb)
            clear t0 t1 t2 HC12 hb
            obtain ⟨t0, t1, t2⟩ := objs_of HT.out
            go_wp2_with fail
            go_meet
            exact ⟨rfl, HB12⟩
      case rest =>
        obtain ⟨rfl, Hb⟩ := hcut
        replace H1 := Lib.hid (blk8 H1.out Hb.out)
        replace HT := Lib.hid (blk8 HT.out Hb.out)
        replace R10 := Lib.hid ((R10.out.below Hb.out).more Hb.out.size)
        replace Q10 := Lib.hid ((Q10.out.below Hb.out).more Hb.out.size)
        replace HBr := bel8 (Nat.le_refl _) HBr Hb.out
        obtain ⟨t0, t1, t2⟩ := objs_of HT.out
        obtain ⟨c0, c1, c2⟩ := objs_of H1.out
        have f0 := free_blk H1.out 0
        have f1 := free_blk H1.out 1
        have f2 := free_blk H1.out 2
        have HN : Hid (HoldO (put3 wc b1 (.slice A10 n10 c10) (.slice K10 m10 k10) (.int .i64 ro.seq)) b1 ro) := ⟨A10, n10, c10, K10, m10, k10, put3_at H1.out _ _ _, by rw [put3_size]; exact R10.out.putO H1.out _ _ _, by rw [put3_size]; exact Q10.out.putO H1.out _ _ _⟩
        have HBp := Lib.hid (put3_below HBr.out Hb1.out (.slice A10 n10 c10) (.slice K10 m10 k10) (.int .i64 ro.seq))
        have HM : Hid (mayO ro = true ∧ (rx = true ∨ ro = oj0)) := ⟨Hmn.out, Hgone.out⟩
        go_wp2_with fail
        go_roundw
        case rel => exact ⟨j + 1, ro, rx, by omega, rfl, by go_num, HM, HN, HBp⟩
        case measure => simp [intOf]; omega
set_option maxRecDepth 10000 in
theorem ObjectStays_walk {H : Type} {enc : TypeId × Value → H} (W : World) (base : Nat) {v0 v1 : Value} {d0 : DataW H} {p0 : List MemPlace} {d1 : DataW H} {p1 : List MemPlace}
    (k0 : Value.okWide Tryd.prog W .any base 25 v0) (h0 : DataW.Trod enc Tryd.prog W 0 (fun _ => true) true 25 v0 d0 p0) (k1 : Value.okWide Tryd.prog W .any base 42 v1) (h1 : DataW.Trod enc Tryd.prog W 0 (fun _ => true) true 42 v1 d1 p1) (ht : Et W) :
    Calls Tryd.prog 6 #[v0, v1] W (Yes W) := by
  obtain ⟨Ad, nd, cd, Ak, nk, ck, s, d, ks, rfl, a1, a2, a3, a4, _, _⟩ := ar_object k0 h0
  obtain ⟨A, m, cm, vs, rfl, b1, b2, b3⟩ := ar_ops k1 h1
  exact ObjectStays_core Ad nd cd Ak nk ck s d ks A m cm vs W ht a1 a4 b1 b2 b3
end Go.Proofs.YtmigapjkicddiaaDoor
