/- The walk of ObjectReads. (Written by wip/genreads.py.) -/
import Derived.Test.YtmigapjkicddiaaDoorMq
namespace Go.Proofs.YtmigapjkicddiaaDoor
open Go.ChangeShapes Go.WideShapes Go.ChangeAt Go.RowKit

set_option maxRecDepth 10000 in
theorem mk_zero (N : Nat) (w : World) : Rd (w.alloc (.cells (madeCells #[.int .u8 0] N) 5)) (w.alloc (.cells (madeCells #[.int .u8 0] N) 5)).heap.size (some ⟨w.heap.size, 0, none⟩) N (List.replicate N 0) := by
  have Hmc : madeCells #[.int .u8 0] N = (List.replicate N (bv 0)).toArray := by apply Array.toList_inj.1; rw [toList_madeCells_one]; rfl
  rw [Hmc]
  refine ⟨by simp, fun _ => ⟨_, rfl, by simp, fun j hj => ?_⟩⟩
  have hadd : (⟨w.heap.size, 0, none⟩ : Addr).add j = ⟨w.heap.size, j, none⟩ := by unfold Addr.add; split <;> simp_all
  rw [hadd, cell_of_row _ w.heap.size j (List.replicate N (bv 0)).toArray _ _ (heap_alloc_new w _)]
  simp only [List.length_replicate] at hj
  rw [List.getElem?_toArray, List.getElem?_replicate, if_pos hj, List.getElem_replicate]
set_option maxRecDepth 10000 in
set_option maxHeartbeats 4000000 in
theorem ObjectReads_core (Ad : Option Addr) (nd cd : Nat) (Ak : Option Addr) (nk ck : Nat) (s : Int) (d : List UInt8) (ks : List Ky) (off : Int) (A : Option Addr) (np cp : Nat) (D : List UInt8) (W : World) (ht : Et W)
    (hd : Rd W W.heap.size Ad nd d) (hnc : nd ≤ cd) (hcm : cd ≤ 9223372036854775807) (hr : RdK W W.heap.size Ak nk ks) (hf : I64 off) (hD : Rd W W.heap.size A np D) (hnp : np ≤ cp) (hcp : cp ≤ 9223372036854775807) :
    Calls Tryd.prog 7 #[oV Ad nd cd Ak nk ck s, .int .i64 off, .slice A np cp] W (Yes W) := by
  have HB := Lib.hid ((Below.refl W.heap.size W).alloc (Nat.le_refl _) (.cells #[.slice Ad nd cd, .slice Ak nk ck, .int .i64 s] 25))
  have H1 := Lib.hid (heap_alloc_new W (.cells #[.slice Ad nd cd, .slice Ak nk ck, .int .i64 s] 25))
  have Hd := Lib.hid hd
  have Hr := Lib.hid hr
  have HD := Lib.hid hD
  have Ht := Lib.hid ht
  have Hcap := Lib.hid (show nd ≤ cd ∧ cd ≤ 9223372036854775807 from ⟨hnc, hcm⟩)
  have Hcp := Lib.hid (show np ≤ cp ∧ cp ≤ 9223372036854775807 from ⟨hnp, hcp⟩)
  have HI := Lib.hid hf
  clear hd hr ht hD hnc hcm hnp hcp
  go_enter Tryd.func7, Tryd.ntmps7
  go_upto_region 1 with fail
  generalize W.alloc (.cells #[.slice Ad nd cd, .slice Ak nk ck, .int .i64 s] 25) = w1 at HB H1 ⊢
  obtain ⟨b1, hb1⟩ : ∃ b, b = W.heap.size := ⟨_, rfl⟩
  rw [← hb1] at H1 ⊢
  clear hb1
  have HA := Lib.hid (awake8 w1 (Ht.out.below HB.out Ht.out.lt))
  go_wp2_with fail
  refine HA.out.mono ?_
  rintro e w2 ⟨rfl, _, hb⟩
  replace H1 := Lib.hid (blk8 H1.out hb.out)
  replace HB := bel8 (Nat.le_refl _) HB hb.out
  clear hb HA
  obtain ⟨c0, c1, c2⟩ := objs_of H1.out
  have HF := few8 Ad nd cd Ak nk ck s d ks W.heap.size w2 Hd.out.1 (Hr.out.below HB.out) HB.out.size
  obtain ⟨q1, hq1⟩ : ∃ q, q = fewO ⟨d, ks, s⟩ := ⟨_, rfl⟩
  rw [← hq1] at HF
  have HF := Lib.hid HF
  clear hq1
  go_wp2_with fail
  refine HF.out.mono ?_
  rintro e w3 ⟨rfl, hb⟩
  replace H1 := Lib.hid (blk8 H1.out hb)
  replace HB := bel8 (Nat.le_refl _) HB hb
  clear hb HF c0 c1 c2
  obtain ⟨c0, c1, c2⟩ := objs_of H1.out
  cases q1
  · go_wp2_with fail
    go_ret
    exact ⟨rfl, HB.out⟩
  by_cases hn : 100 < np
  · have hn2 : (100 : Int) < (np : Int) := by omega
    go_wp2_with fail
    go_ret
    exact ⟨rfl, HB.out⟩
  have hn2 : ¬ (100 : Int) < (np : Int) := by omega
  have HC := kCheck Ad nd cd Ak nk ck s d ks W.heap.size w3 Hd.out.1 (Hr.out.below HB.out) HB.out.size
  cases hm : mayO ⟨d, ks, s⟩
  · rw [hm] at HC
    have HC : Calls Tryd.prog 14 #[oV Ad nd cd Ak nk ck s] w3 fun e w' => e = .returned (.int .i64 1) ∧ Below w3.heap.size w3 w' := HC
    replace HC := Lib.hid HC
    go_wp2_with fail
    refine HC.out.mono ?_
    rintro e w4 ⟨rfl, hb⟩
    replace HB := bel8 (Nat.le_refl _) HB hb
    go_wp2_with fail
    go_ret
    exact ⟨rfl, HB.out⟩
  rw [hm] at HC
  have HC : Calls Tryd.prog 14 #[oV Ad nd cd Ak nk ck s] w3 fun e w' => e = .returned (.int .i64 0) ∧ Below w3.heap.size w3 w' := HC
  replace HC := Lib.hid HC
  have Hm := Lib.hid hm
  clear hm hn
  go_wp2_with fail
  refine HC.out.mono ?_
  rintro e w4 ⟨rfl, hb⟩
  replace H1 := Lib.hid (blk8 H1.out hb)
  replace HB := bel8 (Nat.le_refl _) HB hb
  clear hb HC c0 c1 c2
  go_upto_region 7 with fail
  clear hn2
  obtain ⟨c0, c1, c2⟩ := objs_of H1.out
  have HW := (kDo Ad nd cd Ak nk ck s d ks true 5 off 0 [] A np cp D W.heap.size w4 (Ht.out.below HB.out Ht.out.lt) HB.out.size (Hd.out.below HB.out) (Hr.out.below HB.out) HI.out (HD.out.below HB.out) Hcp.out.1 Hcp.out.2 (by simp)).mono fun _ _ h => h.y
  by_cases hbad : off < 0 ∨ off > 64 ∨ off + np > 64
  · rw [do_write_bad ⟨d, ks, s⟩ off D Hm.out (by rw [HD.out.1]; exact hbad)] at HW
    replace HW := Lib.hid HW
    go_wp2_with fail
    refine HW.out.mono ?_
    rintro e w5 ⟨A5, n5, c5, K5, m5, k5, s5, rfl, _, _, _, _, _, hb⟩
    have hba := (Below.refl w5.heap.size w5).alloc (Nat.le_refl _) (.cells #[.slice A5 n5 c5, .slice K5 m5 k5, .int .i64 s5] 25)
    replace HB := bel8 (Nat.le_refl _) HB hb.out
    replace HB := bel8 (Nat.le_refl _) HB hba
    clear hba hb HW c0 c1 c2
    go_upto_region 8 with fail
    generalize w5.alloc (.cells #[.slice A5 n5 c5, .slice K5 m5 k5, .int .i64 s5] 25) = w6 at HB ⊢
    have hi := HI.out.1
    have hi2 := HI.out.2
    by_cases h1 : off < 0
    · clear hbad
      go_wp2_with fail
      go_ret
      exact ⟨rfl, HB.out⟩
    · by_cases h2 : 64 < off
      · clear hbad
        go_wp2_with fail
        go_ret
        exact ⟨rfl, HB.out⟩
      · have h3 : 64 < off + (np : Int) := by omega
        have hw : IntKind.i64.wrap (off + (np : Int)) = off + (np : Int) := by have := Hcp.out; rw [IntKind.wrap_i64]; omega
        clear hbad
        go_wp2_with fail
        go_ret
        exact ⟨rfl, HB.out⟩
  obtain ⟨F, rfl⟩ : ∃ F : Nat, off = F := ⟨off.toNat, by omega⟩
  have hFn : F + np ≤ 64 := by omega
  have HDl := Lib.hid HD.out.1
  have HFn := Lib.hid hFn
  clear hbad
  rw [do_write ⟨d, ks, s⟩ F D Hm.out (by rw [HDl.out]; exact hFn)] at HW
  replace HW := Lib.hid HW
  go_wp2_with fail
  refine HW.out.mono ?_
  rintro e w5 ⟨A5, n5, c5, K5, m5, k5, s5, rfl, E5, R5, Q5, C5, L5, hb⟩
  obtain rfl : s5 = s := E5.out
  replace H1 := Lib.hid (blk8 H1.out hb.out)
  replace HB := bel8 (Nat.le_refl _) HB hb.out
  clear hb HW c0 c1 c2 E5
  have R5 : Hid (Rd w5 w5.heap.size A5 n5 (wrO d F D)) := R5
  have Q5 : Hid (RdK w5 w5.heap.size K5 m5 ks) := Q5
  go_upto_region 8 with fail
  have hba := (Below.refl w5.heap.size w5).alloc (Nat.le_refl _) (.cells #[.slice A5 n5 c5, .slice K5 m5 k5, .int .i64 s5] 25)
  have H5 := Lib.hid (heap_alloc_new w5 (.cells #[.slice A5 n5 c5, .slice K5 m5 k5, .int .i64 s5] 25))
  replace H1 := Lib.hid (blk8 H1.out hba)
  replace HB := bel8 (Nat.le_refl _) HB hba
  replace R5 := Lib.hid ((R5.out.below hba).more hba.size)
  replace Q5 := Lib.hid ((Q5.out.below hba).more hba.size)
  clear hba
  generalize w5.alloc (.cells #[.slice A5 n5 c5, .slice K5 m5 k5, .int .i64 s5] 25) = w6 at H5 H1 HB R5 Q5 ⊢
  generalize w5.heap.size = b5 at H5 ⊢
  have h1 : ¬ ((F : Int) < 0) := by omega
  have h2 : ¬ (64 < (F : Int)) := by omega
  have h3 : ¬ (64 < (F : Int) + (np : Int)) := by omega
  have hw : IntKind.i64.wrap ((F : Int) + (np : Int)) = (F : Int) + (np : Int) := by rw [IntKind.wrap_i64]; omega
  go_upto_region 10 with fail
  have HRD := Lib.hid ((HD.out.below HB.out).more HB.out.size)
  have HN1 : Hid (∀ w', Hid (Rd w' w'.heap.size A5 n5 (wrO d F D)) → Calls Tryd.prog 17 #[oV A5 n5 c5 K5 m5 k5 s5, .int .i64 (F : Int), .int .i64 (np : Int)] w' (StrP w' D)) := fun w' h => by
    have h2 := (kRead A5 n5 c5 K5 m5 k5 s5 F np (wrO d F D) w' h.out C5.out.1 C5.out.2 HI.out).mono fun _ _ h => h.str
    have h3 := rd_in d D F (by rw [HDl.out]; exact HFn.out)
    rw [HDl.out] at h3
    rw [h3] at h2
    exact h2
  have HN2 : Hid (∀ w', Hid (Rd w' w'.heap.size A5 n5 (wrO d F D)) → Calls Tryd.prog 17 #[oV A5 n5 c5 K5 m5 k5 s5, .int .i64 0, .int .i64 (F : Int)] w' (StrP w' (readO d 0 (F : Int)))) := fun w' h => by
    have h2 := (kRead A5 n5 c5 K5 m5 k5 s5 0 F (wrO d F D) w' h.out C5.out.1 C5.out.2 (by unfold I64; omega)).mono fun _ _ h => h.str
    rw [rd_before d D F (by have := HFn.out; omega)] at h2
    exact h2
  have HO2 : Hid (∀ w', Hid (Below W.heap.size W w') → Calls Tryd.prog 17 #[oV Ad nd cd Ak nk ck s5, .int .i64 0, .int .i64 (F : Int)] w' (StrP w' (readO d 0 (F : Int)))) := fun w' h => (kRead Ad nd cd Ak nk ck s5 0 F d w' ((Hd.out.below h.out).more h.out.size) Hcap.out.1 Hcap.out.2 (by unfold I64; omega)).mono fun _ _ h => h.str
  generalize readO d 0 (F : Int) = L0 at HN2 HO2
  have H1d : Hid (w6.drew.heap[b1]? = some (.cells #[.slice Ad nd cd, .slice Ak nk ck, .int .i64 s5] 25 (0, 0))) := H1.out
  have H5d : Hid (w6.drew.heap[b5]? = some (.cells #[.slice A5 n5 c5, .slice K5 m5 k5, .int .i64 s5] 25 (0, 0))) := H5.out
  have R5d : Hid (Rd w6.drew w6.drew.heap.size A5 n5 (wrO d F D)) := R5.out
  have Q5d : Hid (RdK w6.drew w6.drew.heap.size K5 m5 ks) := Q5.out
  have HRDd : Hid (Rd w6.drew w6.drew.heap.size A np D) := HRD.out
  have HBd : Hid (Below W.heap.size W w6.drew) := below_drewN HB.out 1
  refine wp_region_held_drew (S := fun x => Below w6.drew.heap.size w6.drew x) (by kernel_rfl) (Below.refl _ _) (fun hS => ?_)
  clear H1 H5 R5 Q5 HRD HB
  generalize w6.drew = av0 at H1d H5d R5d Q5d HRDd HBd hS ⊢
  have H1 := H1d
  have H5 := H5d
  have R5 := R5d
  have Q5 := Q5d
  have HRD := HRDd
  have HB := HBd
  clear HBd H1d H5d R5d Q5d HRDd
  refine wpAnyH_take (i := 0) (v := ?uua1) rfl (by kernel_rfl) (by kernel_rfl) (by kernel_rfl) (fun _ _ _ h => h) (Or.inl ⟨by rfl, ?yya1⟩) hS ?rra1
  case yya1 => (intro wy hSy; go_simp; try with_reducible rfl)
  go_simp
  refine wpAnyH_take (i := 1) (v := .bool false) rfl (by kernel_rfl) (by kernel_rfl) (by kernel_rfl) (fun _ _ _ h => h) (Or.inl ⟨by rfl, ?yya2⟩) hS ?rra2
  case yya2 => (intro wy hSy; go_simp; try with_reducible rfl)
  go_simp
  refine wpAnyH_take (i := 2) (v := .bool false) rfl (by kernel_rfl) (by kernel_rfl) (by kernel_rfl) (fun _ _ _ h => h) (Or.inl ⟨by rfl, ?yya3⟩) hS ?rra3
  case yya3 => (intro wy hSy; go_simp; try with_reducible rfl)
  go_simp
  refine wpAnyH_take (i := 3) (v := ?uua4) rfl (by kernel_rfl) (by kernel_rfl) (by kernel_rfl) (fun _ _ _ h => h) (Or.inl ⟨by rfl, ?yya4⟩) hS ?rra4
  case yya4 => (intro wy hSy; obtain ⟨g0, g1, g2⟩ := objs_of (blk8 H5.out hSy); go_simp; try with_reducible rfl)
  go_simp
  refine wpAnyH_take (i := 4) (v := ?uua5) rfl (by kernel_rfl) (by kernel_rfl) (by kernel_rfl) (fun _ _ _ h => h) (Or.inl ⟨by rfl, ?yya5⟩) hS ?rra5
  case yya5 => (intro wy hSy; go_simp; try with_reducible rfl)
  go_simp
  refine wpAnyH_take (i := 5) (v := ?uua6) rfl (by kernel_rfl) (by kernel_rfl) (by kernel_rfl) (fun _ _ _ h => h) (Or.inl ⟨by rfl, ?yya6⟩) hS ?rra6
  case yya6 => (intro wy hSy; go_simp; try with_reducible rfl)
  go_simp
  refine wpAnyH_take (i := 6) (v := .int .i64 (np : Int)) rfl (by kernel_rfl) (by kernel_rfl) (by kernel_rfl) (fun _ _ _ h => h) (Or.inl ⟨by rfl, ?yya7⟩) hS ?rra7
  case yya7 => (intro wy hSy; go_simp; try with_reducible rfl)
  go_simp
  refine wpAnyH_take (i := 9) (v := ?uua8) rfl (by kernel_rfl) (by kernel_rfl) (by kernel_rfl) (fun _ _ _ h => h) (Or.inl ⟨by rfl, ?yya8⟩) hS ?rra8
  case yya8 => (intro wy hSy; go_simp; try with_reducible rfl)
  go_simp
  refine wpAnyH_take (i := 10) (v := .string ⟨D.toArray⟩) rfl (by kernel_rfl) (by kernel_rfl) (by kernel_rfl) (fun _ _ _ h => h) (Or.inl ⟨by rfl, ?yya9⟩) hS ?rra9
  case yya9 => (intro wy hSy; have hcx := str_any (c := cp) (HRD.out.below hSy); go_simp; try with_reducible rfl)
  go_simp
  refine wpAnyH_ready (rs := [7]) (by kernel_rfl) (by simp) ?_
  refine AllReadyH.cons rfl (fun K hK => ?_) AllReadyH.nil
  go_simp
  go_wp2_with (go_at_call 17; refine (HN1.out _ R5).mono ?_; rintro e av1 ⟨A8, n8, c8, rfl, R8, hb⟩)
  refine hK.out _ _ ?_ (fun hS => ?_)
  · exact hb.out
  clear hK K hS
  replace H1 := Lib.hid (blk8 H1.out hb.out)
  replace H5 := Lib.hid (blk8 H5.out hb.out)
  replace R5 := Lib.hid ((R5.out.below hb.out).more hb.out.size)
  replace Q5 := Lib.hid ((Q5.out.below hb.out).more hb.out.size)
  replace HRD := Lib.hid ((HRD.out.below hb.out).more hb.out.size)
  replace HB := bel8 (Nat.le_refl _) HB hb.out
  refine wpAnyH_strong (S' := fun x => Below av1.heap.size av1 x) (fun x h => hb.out.trans (h.mono hb.out.size)) _ _ _ _ ?_
  clear hb
  have hS : Below av1.heap.size av1 av1 := Below.refl _ _
  refine wpAnyH_take (i := 8) (v := .string ⟨D.toArray⟩) rfl (by kernel_rfl) (by kernel_rfl) (by kernel_rfl) (fun _ _ _ h => h) (Or.inl ⟨by rfl, ?yya10⟩) hS ?rra10
  case yya10 => (intro wy hSy; have hcx := str_any (c := c8) (R8.out.below hSy); go_simp; try with_reducible rfl)
  go_simp
  refine wpAnyH_take (i := 11) (v := .bool false) rfl (by kernel_rfl) (by kernel_rfl) (by kernel_rfl) (fun _ _ _ h => h) (Or.inl ⟨by rfl, ?yya11⟩) hS ?rra11
  case yya11 => (intro wy hSy; go_simp; try with_reducible rfl)
  go_simp
  refine wpAnyH_take (i := 12) (v := .bool false) rfl (by kernel_rfl) (by kernel_rfl) (by kernel_rfl) (fun _ _ _ h => h) (Or.inl ⟨by rfl, ?yya12⟩) hS ?rra12
  case yya12 => (intro wy hSy; go_simp; try with_reducible rfl)
  go_simp
  refine wpAnyH_take (i := 13) (v := .bool false) rfl (by kernel_rfl) (by kernel_rfl) (by kernel_rfl) (fun _ _ _ h => h) (Or.inl ⟨by rfl, ?yya13⟩) hS ?rra13
  case yya13 => (intro wy hSy; go_simp; try with_reducible rfl)
  go_simp
  refine wpAnyH_take (i := 14) (v := ?uua14) rfl (by kernel_rfl) (by kernel_rfl) (by kernel_rfl) (fun _ _ _ h => h) (Or.inl ⟨by rfl, ?yya14⟩) hS ?rra14
  case yya14 => (intro wy hSy; obtain ⟨g0, g1, g2⟩ := objs_of (blk8 H5.out hSy); go_simp; try with_reducible rfl)
  go_simp
  refine wpAnyH_take (i := 15) (v := ?uua15) rfl (by kernel_rfl) (by kernel_rfl) (by kernel_rfl) (fun _ _ _ h => h) (Or.inl ⟨by rfl, ?yya15⟩) hS ?rra15
  case yya15 => (intro wy hSy; go_simp; try with_reducible rfl)
  go_simp
  refine wpAnyH_take (i := 18) (v := ?uua16) rfl (by kernel_rfl) (by kernel_rfl) (by kernel_rfl) (fun _ _ _ h => h) (Or.inl ⟨by rfl, ?yya16⟩) hS ?rra16
  case yya16 => (intro wy hSy; obtain ⟨g0, g1, g2⟩ := objs_of (blk8 H1.out hSy); go_simp; try with_reducible rfl)
  go_simp
  refine wpAnyH_take (i := 19) (v := ?uua17) rfl (by kernel_rfl) (by kernel_rfl) (by kernel_rfl) (fun _ _ _ h => h) (Or.inl ⟨by rfl, ?yya17⟩) hS ?rra17
  case yya17 => (intro wy hSy; go_simp; try with_reducible rfl)
  go_simp
  refine wpAnyH_ready (rs := [16]) (by kernel_rfl) (by simp) ?_
  refine AllReadyH.cons rfl (fun K hK => ?_) AllReadyH.nil
  go_simp
  go_wp2_with (go_at_call 17; refine (HN2.out _ R5).mono ?_; rintro e av2 ⟨A9, n9, c9, rfl, R9, hb⟩)
  refine hK.out _ _ ?_ (fun hS => ?_)
  · exact hb.out
  clear hK K hS
  replace H1 := Lib.hid (blk8 H1.out hb.out)
  replace H5 := Lib.hid (blk8 H5.out hb.out)
  replace R5 := Lib.hid ((R5.out.below hb.out).more hb.out.size)
  replace Q5 := Lib.hid ((Q5.out.below hb.out).more hb.out.size)
  replace HRD := Lib.hid ((HRD.out.below hb.out).more hb.out.size)
  replace HB := bel8 (Nat.le_refl _) HB hb.out
  refine wpAnyH_strong (S' := fun x => Below av2.heap.size av2 x) (fun x h => hb.out.trans (h.mono hb.out.size)) _ _ _ _ ?_
  clear hb
  have hS : Below av2.heap.size av2 av2 := Below.refl _ _
  refine wpAnyH_take (i := 17) (v := .string ⟨L0.toArray⟩) rfl (by kernel_rfl) (by kernel_rfl) (by kernel_rfl) (fun _ _ _ h => h) (Or.inl ⟨by rfl, ?yya18⟩) hS ?rra18
  case yya18 => (intro wy hSy; have hcx := str_any (c := c9) (R9.out.below hSy); go_simp; try with_reducible rfl)
  go_simp
  refine wpAnyH_ready (rs := [20]) (by kernel_rfl) (by simp) ?_
  refine AllReadyH.cons rfl (fun K hK => ?_) AllReadyH.nil
  go_simp
  go_wp2_with (go_at_call 17; refine (HO2.out _ HB).mono ?_; rintro e av3 ⟨A10, n10, c10, rfl, R10, hb⟩)
  refine hK.out _ _ ?_ (fun hS => ?_)
  · exact hb.out
  clear hK K hS
  replace H1 := Lib.hid (blk8 H1.out hb.out)
  replace H5 := Lib.hid (blk8 H5.out hb.out)
  replace R5 := Lib.hid ((R5.out.below hb.out).more hb.out.size)
  replace Q5 := Lib.hid ((Q5.out.below hb.out).more hb.out.size)
  replace HRD := Lib.hid ((HRD.out.below hb.out).more hb.out.size)
  replace HB := bel8 (Nat.le_refl _) HB hb.out
  refine wpAnyH_strong (S' := fun x => Below av3.heap.size av3 x) (fun x h => hb.out.trans (h.mono hb.out.size)) _ _ _ _ ?_
  clear hb
  have hS : Below av3.heap.size av3 av3 := Below.refl _ _
  refine wpAnyH_take (i := 21) (v := .string ⟨L0.toArray⟩) rfl (by kernel_rfl) (by kernel_rfl) (by kernel_rfl) (fun _ _ _ h => h) (Or.inl ⟨by rfl, ?yya19⟩) hS ?rra19
  case yya19 => (intro wy hSy; have hcx := str_any (c := c10) (R10.out.below hSy); go_simp; try with_reducible rfl)
  go_simp
  refine wpAnyH_take (i := 22) (v := .bool false) rfl (by kernel_rfl) (by kernel_rfl) (by kernel_rfl) (fun _ _ _ h => h) (Or.inl ⟨by rfl, ?yya20⟩) hS ?rra20
  case yya20 => (intro wy hSy; go_simp; try with_reducible rfl)
  go_simp
  refine wpAnyH_take (i := 23) (v := .bool false) rfl (by kernel_rfl) (by kernel_rfl) (by kernel_rfl) (fun _ _ _ h => h) (Or.inl ⟨by rfl, ?yya21⟩) hS ?rra21
  case yya21 => (intro wy hSy; go_simp; try with_reducible rfl)
  go_simp
  refine wpAnyH_done (by kernel_rfl) ?_ _
  clear R8 R9 R10 hS HN1 HN2 HO2
  obtain ⟨c0, c1, c2⟩ := objs_of H5.out
  have HZ := (kDo A5 n5 c5 K5 m5 k5 s5 (wrO d F D) ks true 6 F np [] none 0 0 [] av3.heap.size av3 (Ht.out.below HB.out Ht.out.lt) (Nat.le_refl _) R5.out Q5.out HI.out Rd.nil (Nat.le_refl _) (by omega) (by simp)).mono fun _ _ h => h.y
  have hmw : mayO ⟨wrO d F D, ks, s5⟩ = true := by
    have h := do_may ⟨d, ks, s5⟩ true ⟨5, F, 0, [], D⟩
    rw [do_write ⟨d, ks, s5⟩ F D Hm.out (by rw [HDl.out]; exact HFn.out)] at h
    exact h
  rw [do_zero ⟨wrO d F D, ks, s5⟩ F np hmw HFn.out] at HZ
  replace HZ := Lib.hid HZ
  clear hmw
  go_wp2_with fail
  refine HZ.out.mono ?_
  rintro e w7 ⟨A7, n7, c7, K7, m7, k7, s7, rfl, E7, R7, Q7, C7, L7, hb⟩
  obtain rfl : s7 = s5 := E7.out
  replace H1 := Lib.hid (blk8 H1.out hb.out)
  replace H5 := Lib.hid (blk8 H5.out hb.out)
  replace R5 := Lib.hid ((R5.out.below hb.out).more hb.out.size)
  replace HRD := Lib.hid ((HRD.out.below hb.out).more hb.out.size)
  replace HB := bel8 (Nat.le_refl _) HB hb.out
  clear hb HZ c0 c1 c2 E7 Q5 Q7
  have R7 : Hid (Rd w7 w7.heap.size A7 n7 (zerJ (wrO d F D) F np)) := R7
  go_upto_region 14 with fail
  have hba := (Below.refl w7.heap.size w7).alloc (Nat.le_refl _) (.cells #[.slice A7 n7 c7, .slice K7 m7 k7, .int .i64 s7] 25)
  have H7 := Lib.hid (heap_alloc_new w7 (.cells #[.slice A7 n7 c7, .slice K7 m7 k7, .int .i64 s7] 25))
  replace H1 := Lib.hid (blk8 H1.out hba)
  replace H5 := Lib.hid (blk8 H5.out hba)
  replace HB := bel8 (Nat.le_refl _) HB hba
  replace R5 := Lib.hid ((R5.out.below hba).more hba.size)
  replace R7 := Lib.hid ((R7.out.below hba).more hba.size)
  replace HRD := Lib.hid ((HRD.out.below hba).more hba.size)
  clear hba
  generalize w7.alloc (.cells #[.slice A7 n7 c7, .slice K7 m7 k7, .int .i64 s7] 25) = w8 at H7 H5 H1 HB R5 R7 HRD ⊢
  generalize w7.heap.size = b7 at H7 ⊢
  have HN1 : Hid (∀ w', Hid (Rd w' w'.heap.size A7 n7 (zerJ (wrO d F D) F np)) → Calls Tryd.prog 17 #[oV A7 n7 c7 K7 m7 k7 s7, .int .i64 (F : Int), .int .i64 (np : Int)] w' (StrP w' (List.replicate np 0))) := fun w' h => by
    have h2 := (kRead A7 n7 c7 K7 m7 k7 s7 F np (zerJ (wrO d F D) F np) w' h.out C7.out.1 C7.out.2 HI.out).mono fun _ _ h => h.str
    rw [rd_zero _ F np HFn.out] at h2
    exact h2
  have hmk := fun W : World => mkB8 np (by omega) W
  go_cut [113] (fun u wx => u = .bool false ∧ Hid (Below W.heap.size W wx) ∧ Hid (wx.heap[b1]? = some (.cells #[.slice Ad nd cd, .slice Ak nk ck, .int .i64 s7] 25 (0, 0))) ∧ Hid (wx.heap[b5]? = some (.cells #[.slice A5 n5 c5, .slice K5 m5 k5, .int .i64 s7] 25 (0, 0))) ∧ Hid (wx.heap[b7]? = some (.cells #[.slice A7 n7 c7, .slice K7 m7 k7, .int .i64 s7] 25 (0, 0))) ∧ Hid (Rd wx wx.heap.size A5 n5 (wrO d F D)) ∧ Hid (Rd wx wx.heap.size A7 n7 (zerJ (wrO d F D) F np)))
  case first =>
    have H1d : Hid (w8.drew.heap[b1]? = some (.cells #[.slice Ad nd cd, .slice Ak nk ck, .int .i64 s7] 25 (0, 0))) := H1.out
    have H5d : Hid (w8.drew.heap[b5]? = some (.cells #[.slice A5 n5 c5, .slice K5 m5 k5, .int .i64 s7] 25 (0, 0))) := H5.out
    have H7d : Hid (w8.drew.heap[b7]? = some (.cells #[.slice A7 n7 c7, .slice K7 m7 k7, .int .i64 s7] 25 (0, 0))) := H7.out
    have R5d : Hid (Rd w8.drew w8.drew.heap.size A5 n5 (wrO d F D)) := R5.out
    have R7d : Hid (Rd w8.drew w8.drew.heap.size A7 n7 (zerJ (wrO d F D) F np)) := R7.out
    have HBd : Hid (Below W.heap.size W w8.drew) := below_drewN HB.out 1
    refine wp_region_held_drew (S := fun x => Below w8.drew.heap.size w8.drew x) (by kernel_rfl) (Below.refl _ _) (fun hS => ?_)
    clear H1 H5 H7 R5 R7 HB
    generalize w8.drew = bv0 at H1d H5d H7d R5d R7d HBd hS ⊢
    have H1 := H1d
    have H5 := H5d
    have H7 := H7d
    have R5 := R5d
    have R7 := R7d
    have HB := HBd
    clear HBd H1d H5d H7d R5d R7d
    refine wpAnyH_take (i := 0) (v := ?uub1) rfl (by kernel_rfl) (by kernel_rfl) (by kernel_rfl) (fun _ _ _ h => h) (Or.inl ⟨by rfl, ?yyb1⟩) hS ?rrb1
    case yyb1 => (intro wy hSy; go_simp; try with_reducible rfl)
    go_simp
    refine wpAnyH_take (i := 1) (v := .bool false) rfl (by kernel_rfl) (by kernel_rfl) (by kernel_rfl) (fun _ _ _ h => h) (Or.inl ⟨by rfl, ?yyb2⟩) hS ?rrb2
    case yyb2 => (intro wy hSy; go_simp; try with_reducible rfl)
    go_simp
    refine wpAnyH_take (i := 2) (v := .bool false) rfl (by kernel_rfl) (by kernel_rfl) (by kernel_rfl) (fun _ _ _ h => h) (Or.inl ⟨by rfl, ?yyb3⟩) hS ?rrb3
    case yyb3 => (intro wy hSy; go_simp; try with_reducible rfl)
    go_simp
    refine wpAnyH_take (i := 3) (v := ?uub4) rfl (by kernel_rfl) (by kernel_rfl) (by kernel_rfl) (fun _ _ _ h => h) (Or.inl ⟨by rfl, ?yyb4⟩) hS ?rrb4
    case yyb4 => (intro wy hSy; obtain ⟨g0, g1, g2⟩ := objs_of (blk8 H7.out hSy); go_simp; try with_reducible rfl)
    go_simp
    refine wpAnyH_take (i := 4) (v := ?uub5) rfl (by kernel_rfl) (by kernel_rfl) (by kernel_rfl) (fun _ _ _ h => h) (Or.inl ⟨by rfl, ?yyb5⟩) hS ?rrb5
    case yyb5 => (intro wy hSy; go_simp; try with_reducible rfl)
    go_simp
    refine wpAnyH_take (i := 5) (v := ?uub6) rfl (by kernel_rfl) (by kernel_rfl) (by kernel_rfl) (fun _ _ _ h => h) (Or.inl ⟨by rfl, ?yyb6⟩) hS ?rrb6
    case yyb6 => (intro wy hSy; go_simp; try with_reducible rfl)
    go_simp
    refine wpAnyH_take (i := 6) (v := .int .i64 (np : Int)) rfl (by kernel_rfl) (by kernel_rfl) (by kernel_rfl) (fun _ _ _ h => h) (Or.inl ⟨by rfl, ?yyb7⟩) hS ?rrb7
    case yyb7 => (intro wy hSy; go_simp; try with_reducible rfl)
    go_simp
    refine wpAnyH_take (i := 9) (v := ?uub8) rfl (by kernel_rfl) (by kernel_rfl) (by kernel_rfl) (fun _ _ _ h => h) (Or.inl ⟨by rfl, ?yyb8⟩) hS ?rrb8
    case yyb8 => (intro wy hSy; go_simp; try with_reducible rfl)
    go_simp
    refine wpAnyH_take (i := 10) (v := .int .i64 (np : Int)) rfl (by kernel_rfl) (by kernel_rfl) (by kernel_rfl) (fun _ _ _ h => h) (Or.inl ⟨by rfl, ?yyb9⟩) hS ?rrb9
    case yyb9 => (intro wy hSy; go_simp; try with_reducible rfl)
    go_simp
    refine wpAnyH_ready (rs := [7, 11]) (by kernel_rfl) (by simp) ?_
    refine AllReadyH.cons rfl (fun K hK => ?_) (AllReadyH.cons rfl (fun K hK => ?_) AllReadyH.nil)
    · skip
      go_simp
      go_wp2_with (go_at_call 17; refine (HN1.out _ R7).mono ?_; rintro e cv1 ⟨A8, n8, c8, rfl, R8, hb⟩)
      refine hK.out _ _ ?_ (fun hS => ?_)
      · exact hb.out
      clear hK K hS
      replace H1 := Lib.hid (blk8 H1.out hb.out)
      replace H5 := Lib.hid (blk8 H5.out hb.out)
      replace H7 := Lib.hid (blk8 H7.out hb.out)
      replace R5 := Lib.hid ((R5.out.below hb.out).more hb.out.size)
      replace R7 := Lib.hid ((R7.out.below hb.out).more hb.out.size)
      replace HB := bel8 (Nat.le_refl _) HB hb.out
      refine wpAnyH_strong (S' := fun x => Below cv1.heap.size cv1 x) (fun x h => hb.out.trans (h.mono hb.out.size)) _ _ _ _ ?_
      clear hb
      have hS : Below cv1.heap.size cv1 cv1 := Below.refl _ _
      refine wpAnyH_take (i := 8) (v := .string ⟨(List.replicate np (0 : UInt8)).toArray⟩) rfl (by kernel_rfl) (by kernel_rfl) (by kernel_rfl) (fun _ _ _ h => h) (Or.inl ⟨by rfl, ?yyc10⟩) hS ?rrc10
      case yyc10 => (intro wy hSy; have hcx := str_any (c := c8) (R8.out.below hSy); go_simp; try with_reducible rfl)
      go_simp
      refine wpAnyH_ready (rs := [11]) (by kernel_rfl) (by simp) ?_
      refine AllReadyH.cons rfl (fun K hK => ?_) AllReadyH.nil
      go_simp
      refine hK.out _ _ ?_ (fun hS => ?_)
      · exact (Below.refl _ _).alloc (Nat.le_refl _) _
      clear hK K hS
      have hba := (Below.refl cv1.heap.size cv1).alloc (Nat.le_refl _) (.cells (madeCells #[.int .u8 0] np) 5)
      have RM := Lib.hid (mk_zero np cv1)
      replace H1 := Lib.hid (blk8 H1.out hba)
      replace H5 := Lib.hid (blk8 H5.out hba)
      replace H7 := Lib.hid (blk8 H7.out hba)
      replace R5 := Lib.hid ((R5.out.below hba).more hba.size)
      replace R7 := Lib.hid ((R7.out.below hba).more hba.size)
      replace HB := bel8 (Nat.le_refl _) HB hba
      refine wpAnyH_strong (S' := fun x => Below (cv1.alloc (.cells (madeCells #[.int .u8 0] np) 5)).heap.size (cv1.alloc (.cells (madeCells #[.int .u8 0] np) 5)) x) (fun x h => hba.trans (h.mono hba.size)) _ _ _ _ ?_
      clear hba
      generalize cv1.alloc (.cells (madeCells #[.int .u8 0] np) 5) = cv2 at RM H1 H5 H7 R5 R7 HB ⊢
      generalize cv1.heap.size = gm at RM ⊢
      have hS : Below cv2.heap.size cv2 cv2 := Below.refl _ _
      refine wpAnyH_take (i := 12) (v := .string ⟨(List.replicate np (0 : UInt8)).toArray⟩) rfl (by kernel_rfl) (by kernel_rfl) (by kernel_rfl) (fun _ _ _ h => h) (Or.inl ⟨by rfl, ?yyc11⟩) hS ?rrc11
      case yyc11 => (intro wy hSy; have hcx := str_any (c := np) (RM.out.below hSy); go_simp; try with_reducible rfl)
      go_simp
      refine wpAnyH_take (i := 13) (v := .bool false) rfl (by kernel_rfl) (by kernel_rfl) (by kernel_rfl) (fun _ _ _ h => h) (Or.inl ⟨by rfl, ?yyc12⟩) hS ?rrc12
      case yyc12 => (intro wy hSy; go_simp; try with_reducible rfl)
      go_simp
      refine wpAnyH_take (i := 14) (v := .bool false) rfl (by kernel_rfl) (by kernel_rfl) (by kernel_rfl) (fun _ _ _ h => h) (Or.inl ⟨by rfl, ?yyc13⟩) hS ?rrc13
      case yyc13 => (intro wy hSy; go_simp; try with_reducible rfl)
      go_simp
      refine wpAnyH_done (by kernel_rfl) ?_ _
      go_wp2_with fail
      go_meet
      exact ⟨rfl, HB, H1, H5, H7, R5, R7⟩
    · skip
      go_simp
      refine hK.out _ _ ?_ (fun hS => ?_)
      · exact (Below.refl _ _).alloc (Nat.le_refl _) _
      clear hK K hS
      have hba := (Below.refl bv0.heap.size bv0).alloc (Nat.le_refl _) (.cells (madeCells #[.int .u8 0] np) 5)
      have RM := Lib.hid (mk_zero np bv0)
      replace H1 := Lib.hid (blk8 H1.out hba)
      replace H5 := Lib.hid (blk8 H5.out hba)
      replace H7 := Lib.hid (blk8 H7.out hba)
      replace R5 := Lib.hid ((R5.out.below hba).more hba.size)
      replace R7 := Lib.hid ((R7.out.below hba).more hba.size)
      replace HB := bel8 (Nat.le_refl _) HB hba
      refine wpAnyH_strong (S' := fun x => Below (bv0.alloc (.cells (madeCells #[.int .u8 0] np) 5)).heap.size (bv0.alloc (.cells (madeCells #[.int .u8 0] np) 5)) x) (fun x h => hba.trans (h.mono hba.size)) _ _ _ _ ?_
      clear hba
      generalize bv0.alloc (.cells (madeCells #[.int .u8 0] np) 5) = dv3 at RM H1 H5 H7 R5 R7 HB ⊢
      generalize bv0.heap.size = gm at RM ⊢
      have hS : Below dv3.heap.size dv3 dv3 := Below.refl _ _
      refine wpAnyH_take (i := 12) (v := .string ⟨(List.replicate np (0 : UInt8)).toArray⟩) rfl (by kernel_rfl) (by kernel_rfl) (by kernel_rfl) (fun _ _ _ h => h) (Or.inl ⟨by rfl, ?yyd14⟩) hS ?rrd14
      case yyd14 => (intro wy hSy; have hcx := str_any (c := np) (RM.out.below hSy); go_simp; try with_reducible rfl)
      go_simp
      refine wpAnyH_ready (rs := [7]) (by kernel_rfl) (by simp) ?_
      refine AllReadyH.cons rfl (fun K hK => ?_) AllReadyH.nil
      go_simp
      go_wp2_with (go_at_call 17; refine (HN1.out _ R7).mono ?_; rintro e dv4 ⟨A8, n8, c8, rfl, R8, hb⟩)
      refine hK.out _ _ ?_ (fun hS => ?_)
      · exact hb.out
      clear hK K hS
      replace H1 := Lib.hid (blk8 H1.out hb.out)
      replace H5 := Lib.hid (blk8 H5.out hb.out)
      replace H7 := Lib.hid (blk8 H7.out hb.out)
      replace R5 := Lib.hid ((R5.out.below hb.out).more hb.out.size)
      replace R7 := Lib.hid ((R7.out.below hb.out).more hb.out.size)
      replace HB := bel8 (Nat.le_refl _) HB hb.out
      refine wpAnyH_strong (S' := fun x => Below dv4.heap.size dv4 x) (fun x h => hb.out.trans (h.mono hb.out.size)) _ _ _ _ ?_
      clear hb
      have hS : Below dv4.heap.size dv4 dv4 := Below.refl _ _
      refine wpAnyH_take (i := 8) (v := .string ⟨(List.replicate np (0 : UInt8)).toArray⟩) rfl (by kernel_rfl) (by kernel_rfl) (by kernel_rfl) (fun _ _ _ h => h) (Or.inl ⟨by rfl, ?yyd15⟩) hS ?rrd15
      case yyd15 => (intro wy hSy; have hcx := str_any (c := c8) (R8.out.below hSy); go_simp; try with_reducible rfl)
      go_simp
      refine wpAnyH_take (i := 13) (v := .bool false) rfl (by kernel_rfl) (by kernel_rfl) (by kernel_rfl) (fun _ _ _ h => h) (Or.inl ⟨by rfl, ?yyd16⟩) hS ?rrd16
      case yyd16 => (intro wy hSy; go_simp; try with_reducible rfl)
      go_simp
      refine wpAnyH_take (i := 14) (v := .bool false) rfl (by kernel_rfl) (by kernel_rfl) (by kernel_rfl) (fun _ _ _ h => h) (Or.inl ⟨by rfl, ?yyd17⟩) hS ?rrd17
      case yyd17 => (intro wy hSy; go_simp; try with_reducible rfl)
      go_simp
      refine wpAnyH_done (by kernel_rfl) ?_ _
      go_wp2_with fail
      go_meet
      exact ⟨rfl, HB, H1, H5, H7, R5, R7⟩
  case rest =>
    obtain ⟨rfl, hb, h1', h5', h7', r5', r7'⟩ := hcut
    clear HN1 hmk H1 H5 H7 R5 R7 HB HRD
    have HB := hb
    have H1 := h1'
    have H5 := h5'
    have H7 := h7'
    have R5 := r5'
    have R7 := r7'
    clear hb h1' h5' h7' r5' r7'
    go_upto_region 16 with fail
    obtain ⟨G, hG⟩ : ∃ G : Int, G = 64 - ((F : Int) + (np : Int)) := ⟨_, rfl⟩
    have hwg : IntKind.i64.wrap (64 - ((F : Int) + (np : Int))) = G := by have := HFn.out; rw [IntKind.wrap_i64]; omega
    have HE : Hid (I64 ((F : Int) + (np : Int))) := by have := HFn.out; show I64 _; unfold I64; omega
    have e1 := rd_after d D F (by rw [HDl.out]; exact HFn.out) ((F : Int) + (np : Int)) G (by rw [HDl.out]) hG
    have e2 := rd_zero_after d D F (by rw [HDl.out]; exact HFn.out) ((F : Int) + (np : Int)) G (by rw [HDl.out]) hG
    rw [HDl.out] at e2
    have HN1 : ∀ w', Hid (Rd w' w'.heap.size A5 n5 (wrO d F D)) → Calls Tryd.prog 17 #[oV A5 n5 c5 K5 m5 k5 s7, .int .i64 ((F : Int) + (np : Int)), .int .i64 G] w' (StrP w' (readO d ((F : Int) + (np : Int)) G)) := fun w' h => by
      have h2 := (kRead A5 n5 c5 K5 m5 k5 s7 ((F : Int) + (np : Int)) G (wrO d F D) w' h.out C5.out.1 C5.out.2 HE.out).mono fun _ _ h => h.str
      rw [e1] at h2
      exact h2
    have HN2 : ∀ w', Hid (Rd w' w'.heap.size A7 n7 (zerJ (wrO d F D) F np)) → Calls Tryd.prog 17 #[oV A7 n7 c7 K7 m7 k7 s7, .int .i64 ((F : Int) + (np : Int)), .int .i64 G] w' (StrP w' (readO d ((F : Int) + (np : Int)) G)) := fun w' h => by
      have h2 := (kRead A7 n7 c7 K7 m7 k7 s7 ((F : Int) + (np : Int)) G (zerJ (wrO d F D) F np) w' h.out C7.out.1 C7.out.2 HE.out).mono fun _ _ h => h.str
      rw [e2] at h2
      exact h2
    have HO2 : ∀ w', Hid (Below W.heap.size W w') → Calls Tryd.prog 17 #[oV Ad nd cd Ak nk ck s7, .int .i64 ((F : Int) + (np : Int)), .int .i64 G] w' (StrP w' (readO d ((F : Int) + (np : Int)) G)) := fun w' h => (kRead Ad nd cd Ak nk ck s7 ((F : Int) + (np : Int)) G d w' ((Hd.out.below h.out).more h.out.size) Hcap.out.1 Hcap.out.2 HE.out).mono fun _ _ h => h.str
    generalize readO d ((F : Int) + (np : Int)) G = L2 at HN1 HN2 HO2
    replace HN1 := Lib.hid HN1
    replace HN2 := Lib.hid HN2
    replace HO2 := Lib.hid HO2
    clear e1 e2 hG HE
    have H1d : Hid (wc.drew.heap[b1]? = some (.cells #[.slice Ad nd cd, .slice Ak nk ck, .int .i64 s7] 25 (0, 0))) := H1.out
    have H5d : Hid (wc.drew.heap[b5]? = some (.cells #[.slice A5 n5 c5, .slice K5 m5 k5, .int .i64 s7] 25 (0, 0))) := H5.out
    have H7d : Hid (wc.drew.heap[b7]? = some (.cells #[.slice A7 n7 c7, .slice K7 m7 k7, .int .i64 s7] 25 (0, 0))) := H7.out
    have R5d : Hid (Rd wc.drew wc.drew.heap.size A5 n5 (wrO d F D)) := R5.out
    have R7d : Hid (Rd wc.drew wc.drew.heap.size A7 n7 (zerJ (wrO d F D) F np)) := R7.out
    have HBd : Hid (Below W.heap.size W wc.drew) := below_drewN HB.out 1
    refine wp_region_held_drew (S := fun x => Below wc.drew.heap.size wc.drew x) (by kernel_rfl) (Below.refl _ _) (fun hS => ?_)
    clear H1 H5 H7 R5 R7 HB
    generalize wc.drew = ev0 at H1d H5d H7d R5d R7d HBd hS ⊢
    have H1 := H1d
    have H5 := H5d
    have H7 := H7d
    have R5 := R5d
    have R7 := R7d
    have HB := HBd
    clear HBd H1d H5d H7d R5d R7d
    refine wpAnyH_take (i := 0) (v := ?uue1) rfl (by kernel_rfl) (by kernel_rfl) (by kernel_rfl) (fun _ _ _ h => h) (Or.inl ⟨by rfl, ?yye1⟩) hS ?rre1
    case yye1 => (intro wy hSy; obtain ⟨g0, g1, g2⟩ := objs_of (blk8 H5.out hSy); go_simp; try with_reducible rfl)
    go_simp
    refine wpAnyH_take (i := 1) (v := ?uue2) rfl (by kernel_rfl) (by kernel_rfl) (by kernel_rfl) (fun _ _ _ h => h) (Or.inl ⟨by rfl, ?yye2⟩) hS ?rre2
    case yye2 => (intro wy hSy; go_simp; try with_reducible rfl)
    go_simp
    refine wpAnyH_take (i := 2) (v := ?uue3) rfl (by kernel_rfl) (by kernel_rfl) (by kernel_rfl) (fun _ _ _ h => h) (Or.inl ⟨by rfl, ?yye3⟩) hS ?rre3
    case yye3 => (intro wy hSy; go_simp; try with_reducible rfl)
    go_simp
    refine wpAnyH_take (i := 3) (v := .int .i64 G) rfl (by kernel_rfl) (by kernel_rfl) (by kernel_rfl) (fun _ _ _ h => h) (Or.inl ⟨by rfl, ?yye4⟩) hS ?rre4
    case yye4 => (intro wy hSy; go_simp; try with_reducible rfl)
    go_simp
    refine wpAnyH_take (i := 6) (v := ?uue5) rfl (by kernel_rfl) (by kernel_rfl) (by kernel_rfl) (fun _ _ _ h => h) (Or.inl ⟨by rfl, ?yye5⟩) hS ?rre5
    case yye5 => (intro wy hSy; obtain ⟨g0, g1, g2⟩ := objs_of (blk8 H1.out hSy); go_simp; try with_reducible rfl)
    go_simp
    refine wpAnyH_take (i := 7) (v := ?uue6) rfl (by kernel_rfl) (by kernel_rfl) (by kernel_rfl) (fun _ _ _ h => h) (Or.inl ⟨by rfl, ?yye6⟩) hS ?rre6
    case yye6 => (intro wy hSy; go_simp; try with_reducible rfl)
    go_simp
    refine wpAnyH_take (i := 8) (v := ?uue7) rfl (by kernel_rfl) (by kernel_rfl) (by kernel_rfl) (fun _ _ _ h => h) (Or.inl ⟨by rfl, ?yye7⟩) hS ?rre7
    case yye7 => (intro wy hSy; go_simp; try with_reducible rfl)
    go_simp
    refine wpAnyH_take (i := 9) (v := .int .i64 G) rfl (by kernel_rfl) (by kernel_rfl) (by kernel_rfl) (fun _ _ _ h => h) (Or.inl ⟨by rfl, ?yye8⟩) hS ?rre8
    case yye8 => (intro wy hSy; go_simp; try with_reducible rfl)
    go_simp
    refine wpAnyH_ready (rs := [4]) (by kernel_rfl) (by simp) ?_
    refine AllReadyH.cons rfl (fun K hK => ?_) AllReadyH.nil
    go_simp
    go_wp2_with (go_at_call 17; refine (HN1.out _ R5).mono ?_; rintro e ev1 ⟨A8, n8, c8, rfl, R8, hb⟩)
    refine hK.out _ _ ?_ (fun hS => ?_)
    · exact hb.out
    clear hK K hS
    replace H1 := Lib.hid (blk8 H1.out hb.out)
    replace H5 := Lib.hid (blk8 H5.out hb.out)
    replace H7 := Lib.hid (blk8 H7.out hb.out)
    replace R5 := Lib.hid ((R5.out.below hb.out).more hb.out.size)
    replace R7 := Lib.hid ((R7.out.below hb.out).more hb.out.size)
    replace HB := bel8 (Nat.le_refl _) HB hb.out
    refine wpAnyH_strong (S' := fun x => Below ev1.heap.size ev1 x) (fun x h => hb.out.trans (h.mono hb.out.size)) _ _ _ _ ?_
    clear hb
    have hS : Below ev1.heap.size ev1 ev1 := Below.refl _ _
    refine wpAnyH_take (i := 5) (v := .string ⟨L2.toArray⟩) rfl (by kernel_rfl) (by kernel_rfl) (by kernel_rfl) (fun _ _ _ h => h) (Or.inl ⟨by rfl, ?yye9⟩) hS ?rre9
    case yye9 => (intro wy hSy; have hcx := str_any (c := c8) (R8.out.below hSy); go_simp; try with_reducible rfl)
    go_simp
    refine wpAnyH_ready (rs := [10]) (by kernel_rfl) (by simp) ?_
    refine AllReadyH.cons rfl (fun K hK => ?_) AllReadyH.nil
    go_simp
    go_wp2_with (go_at_call 17; refine (HO2.out _ HB).mono ?_; rintro e ev2 ⟨A9, n9, c9, rfl, R9, hb⟩)
    refine hK.out _ _ ?_ (fun hS => ?_)
    · exact hb.out
    clear hK K hS
    replace H1 := Lib.hid (blk8 H1.out hb.out)
    replace H5 := Lib.hid (blk8 H5.out hb.out)
    replace H7 := Lib.hid (blk8 H7.out hb.out)
    replace R5 := Lib.hid ((R5.out.below hb.out).more hb.out.size)
    replace R7 := Lib.hid ((R7.out.below hb.out).more hb.out.size)
    replace HB := bel8 (Nat.le_refl _) HB hb.out
    refine wpAnyH_strong (S' := fun x => Below ev2.heap.size ev2 x) (fun x h => hb.out.trans (h.mono hb.out.size)) _ _ _ _ ?_
    clear hb
    have hS : Below ev2.heap.size ev2 ev2 := Below.refl _ _
    refine wpAnyH_take (i := 11) (v := .string ⟨L2.toArray⟩) rfl (by kernel_rfl) (by kernel_rfl) (by kernel_rfl) (fun _ _ _ h => h) (Or.inl ⟨by rfl, ?yye10⟩) hS ?rre10
    case yye10 => (intro wy hSy; have hcx := str_any (c := c9) (R9.out.below hSy); go_simp; try with_reducible rfl)
    go_simp
    refine wpAnyH_take (i := 12) (v := .bool true) rfl (by kernel_rfl) (by kernel_rfl) (by kernel_rfl) (fun _ _ _ h => h) (Or.inl ⟨by rfl, ?yye11⟩) hS ?rre11
    case yye11 => (intro wy hSy; go_simp; try with_reducible rfl)
    go_simp
    refine wpAnyH_take (i := 13) (v := .bool true) rfl (by kernel_rfl) (by kernel_rfl) (by kernel_rfl) (fun _ _ _ h => h) (Or.inl ⟨by rfl, ?yye12⟩) hS ?rre12
    case yye12 => (intro wy hSy; go_simp; try with_reducible rfl)
    go_simp
    refine wpAnyH_take (i := 14) (v := ?uue13) rfl (by kernel_rfl) (by kernel_rfl) (by kernel_rfl) (fun _ _ _ h => h) (Or.inl ⟨by rfl, ?yye13⟩) hS ?rre13
    case yye13 => (intro wy hSy; obtain ⟨g0, g1, g2⟩ := objs_of (blk8 H7.out hSy); go_simp; try with_reducible rfl)
    go_simp
    refine wpAnyH_take (i := 15) (v := ?uue14) rfl (by kernel_rfl) (by kernel_rfl) (by kernel_rfl) (fun _ _ _ h => h) (Or.inl ⟨by rfl, ?yye14⟩) hS ?rre14
    case yye14 => (intro wy hSy; go_simp; try with_reducible rfl)
    go_simp
    refine wpAnyH_take (i := 16) (v := ?uue15) rfl (by kernel_rfl) (by kernel_rfl) (by kernel_rfl) (fun _ _ _ h => h) (Or.inl ⟨by rfl, ?yye15⟩) hS ?rre15
    case yye15 => (intro wy hSy; go_simp; try with_reducible rfl)
    go_simp
    refine wpAnyH_take (i := 17) (v := .int .i64 G) rfl (by kernel_rfl) (by kernel_rfl) (by kernel_rfl) (fun _ _ _ h => h) (Or.inl ⟨by rfl, ?yye16⟩) hS ?rre16
    case yye16 => (intro wy hSy; go_simp; try with_reducible rfl)
    go_simp
    refine wpAnyH_take (i := 20) (v := ?uue17) rfl (by kernel_rfl) (by kernel_rfl) (by kernel_rfl) (fun _ _ _ h => h) (Or.inl ⟨by rfl, ?yye17⟩) hS ?rre17
    case yye17 => (intro wy hSy; obtain ⟨g0, g1, g2⟩ := objs_of (blk8 H1.out hSy); go_simp; try with_reducible rfl)
    go_simp
    refine wpAnyH_take (i := 21) (v := ?uue18) rfl (by kernel_rfl) (by kernel_rfl) (by kernel_rfl) (fun _ _ _ h => h) (Or.inl ⟨by rfl, ?yye18⟩) hS ?rre18
    case yye18 => (intro wy hSy; go_simp; try with_reducible rfl)
    go_simp
    refine wpAnyH_take (i := 22) (v := ?uue19) rfl (by kernel_rfl) (by kernel_rfl) (by kernel_rfl) (fun _ _ _ h => h) (Or.inl ⟨by rfl, ?yye19⟩) hS ?rre19
    case yye19 => (intro wy hSy; go_simp; try with_reducible rfl)
    go_simp
    refine wpAnyH_take (i := 23) (v := .int .i64 G) rfl (by kernel_rfl) (by kernel_rfl) (by kernel_rfl) (fun _ _ _ h => h) (Or.inl ⟨by rfl, ?yye20⟩) hS ?rre20
    case yye20 => (intro wy hSy; go_simp; try with_reducible rfl)
    go_simp
    refine wpAnyH_ready (rs := [18]) (by kernel_rfl) (by simp) ?_
    refine AllReadyH.cons rfl (fun K hK => ?_) AllReadyH.nil
    go_simp
    go_wp2_with (go_at_call 17; refine (HN2.out _ R7).mono ?_; rintro e ev3 ⟨A10, n10, c10, rfl, R10, hb⟩)
    refine hK.out _ _ ?_ (fun hS => ?_)
    · exact hb.out
    clear hK K hS
    replace H1 := Lib.hid (blk8 H1.out hb.out)
    replace H5 := Lib.hid (blk8 H5.out hb.out)
    replace H7 := Lib.hid (blk8 H7.out hb.out)
    replace R5 := Lib.hid ((R5.out.below hb.out).more hb.out.size)
    replace R7 := Lib.hid ((R7.out.below hb.out).more hb.out.size)
    replace HB := bel8 (Nat.le_refl _) HB hb.out
    refine wpAnyH_strong (S' := fun x => Below ev3.heap.size ev3 x) (fun x h => hb.out.trans (h.mono hb.out.size)) _ _ _ _ ?_
    clear hb
    have hS : Below ev3.heap.size ev3 ev3 := Below.refl _ _
    refine wpAnyH_take (i := 19) (v := .string ⟨L2.toArray⟩) rfl (by kernel_rfl) (by kernel_rfl) (by kernel_rfl) (fun _ _ _ h => h) (Or.inl ⟨by rfl, ?yye21⟩) hS ?rre21
    case yye21 => (intro wy hSy; have hcx := str_any (c := c10) (R10.out.below hSy); go_simp; try with_reducible rfl)
    go_simp
    refine wpAnyH_ready (rs := [24]) (by kernel_rfl) (by simp) ?_
    refine AllReadyH.cons rfl (fun K hK => ?_) AllReadyH.nil
    go_simp
    go_wp2_with (go_at_call 17; refine (HO2.out _ HB).mono ?_; rintro e ev4 ⟨A11, n11, c11, rfl, R11, hb⟩)
    refine hK.out _ _ ?_ (fun hS => ?_)
    · exact hb.out
    clear hK K hS
    replace H1 := Lib.hid (blk8 H1.out hb.out)
    replace H5 := Lib.hid (blk8 H5.out hb.out)
    replace H7 := Lib.hid (blk8 H7.out hb.out)
    replace R5 := Lib.hid ((R5.out.below hb.out).more hb.out.size)
    replace R7 := Lib.hid ((R7.out.below hb.out).more hb.out.size)
    replace HB := bel8 (Nat.le_refl _) HB hb.out
    refine wpAnyH_strong (S' := fun x => Below ev4.heap.size ev4 x) (fun x h => hb.out.trans (h.mono hb.out.size)) _ _ _ _ ?_
    clear hb
    have hS : Below ev4.heap.size ev4 ev4 := Below.refl _ _
    refine wpAnyH_take (i := 25) (v := .string ⟨L2.toArray⟩) rfl (by kernel_rfl) (by kernel_rfl) (by kernel_rfl) (fun _ _ _ h => h) (Or.inl ⟨by rfl, ?yye22⟩) hS ?rre22
    case yye22 => (intro wy hSy; have hcx := str_any (c := c11) (R11.out.below hSy); go_simp; try with_reducible rfl)
    go_simp
    refine wpAnyH_take (i := 26) (v := .bool true) rfl (by kernel_rfl) (by kernel_rfl) (by kernel_rfl) (fun _ _ _ h => h) (Or.inl ⟨by rfl, ?yye23⟩) hS ?rre23
    case yye23 => (intro wy hSy; go_simp; try with_reducible rfl)
    go_simp
    refine wpAnyH_take (i := 27) (v := .bool true) rfl (by kernel_rfl) (by kernel_rfl) (by kernel_rfl) (fun _ _ _ h => h) (Or.inl ⟨by rfl, ?yye24⟩) hS ?rre24
    case yye24 => (intro wy hSy; go_simp; try with_reducible rfl)
    go_simp
    refine wpAnyH_take (i := 28) (v := .bool true) rfl (by kernel_rfl) (by kernel_rfl) (by kernel_rfl) (fun _ _ _ h => h) (Or.inl ⟨by rfl, ?yye25⟩) hS ?rre25
    case yye25 => (intro wy hSy; go_simp; try with_reducible rfl)
    go_simp
    refine wpAnyH_done (by kernel_rfl) ?_ _
    go_wp2_with fail
    go_ret
    exact ⟨rfl, HB.out⟩
set_option maxRecDepth 10000 in
theorem ObjectReads_walk {H : Type} {enc : TypeId × Value → H} (W : World) (base : Nat) {v0 v1 v2 : Value} {d0 : DataW H} {p0 : List MemPlace} {d1 : DataW H} {p1 : List MemPlace} {d2 : DataW H} {p2 : List MemPlace}
    (k0 : Value.okWide Tryd.prog W .any base 25 v0) (h0 : DataW.Trod enc Tryd.prog W 0 (fun _ => true) true 25 v0 d0 p0) (k1 : Value.okWide Tryd.prog W .any base 3 v1) (h1 : DataW.Trod enc Tryd.prog W 0 (fun _ => true) true 3 v1 d1 p1) (k2 : Value.okWide Tryd.prog W .any base 22 v2) (h2 : DataW.Trod enc Tryd.prog W 0 (fun _ => true) true 22 v2 d2 p2) (ht : Et W) :
    Calls Tryd.prog 7 #[v0, v1, v2] W (Yes W) := by
  obtain ⟨Ad, nd, cd, Ak, nk, ck, s, d, ks, rfl, a1, a2, a3, a4, _, _⟩ := ar_object k0 h0
  obtain ⟨z, rfl, hz⟩ := ar_int Tryd.underlying3 k1 h1
  obtain ⟨A, np, cp, D, rfl, b1, b2, b3⟩ := ar_bytes Tryd.underlying22 Tryd.underlying5 (by kernel_rfl) k2 h2
  exact ObjectReads_core Ad nd cd Ak nk ck s d ks z A np cp D W ht a1 a2 a3 a4 hz b1 b2 b3
end Go.Proofs.YtmigapjkicddiaaDoor
