/- The walk of ObjectTells. -/
import Derived.Test.YtmigapjkicddiaaDoorMp
namespace Go.Proofs.YtmigapjkicddiaaDoor
open Go.ChangeShapes Go.WideShapes Go.ChangeAt Go.RowKit

set_option maxRecDepth 10000 in
set_option maxHeartbeats 4000000 in
theorem ObjectTells_core (Ad : Option Addr) (nd cd : Nat) (Ak : Option Addr) (nk ck : Nat) (s : Int) (d : List UInt8) (ks : List Ky) (X : List UInt8) (z : Int) (W : World) (ht : Et W)
    (hd : Rd W W.heap.size Ad nd d) (hnc : nd ≤ cd) (hcm : cd ≤ 9223372036854775807) (hr : RdK W W.heap.size Ak nk ks) (hX : X.length ≤ 9223372036854775807) (_ : I64 z) :
    Calls Tryd.prog 3 #[oV Ad nd cd Ak nk ck s, .string ⟨X.toArray⟩, .int .i64 z] W (Yes W) := by
  have HB := Lib.hid ((Below.refl W.heap.size W).alloc (Nat.le_refl _) (.cells #[.slice Ad nd cd, .slice Ak nk ck, .int .i64 s] 25))
  have H1 := Lib.hid (heap_alloc_new W (.cells #[.slice Ad nd cd, .slice Ak nk ck, .int .i64 s] 25))
  have Hd := Lib.hid hd
  have Hr := Lib.hid hr
  have Ht := Lib.hid ht
  have HX := Lib.hid hX
  clear hd hr ht hX
  go_enter Tryd.func3, Tryd.ntmps3
  go_upto_region 1 with fail
  generalize W.alloc (.cells #[.slice Ad nd cd, .slice Ak nk ck, .int .i64 s] 25) = w1 at HB H1 ⊢
  obtain ⟨b1, hb1⟩ : ∃ b, b = W.heap.size := ⟨_, rfl⟩
  rw [← hb1] at H1 ⊢
  clear hb1
  have HA := Lib.hid (awake8 w1 (Ht.out.below HB.out Ht.out.lt))
  go_wp2_with fail
  refine HA.out.mono ?_
  rintro e w2 ⟨rfl, _, hb⟩
  replace H1 := Lib.hid (blk8 H1.out hb.out)
  replace HB := bel8 (Nat.le_refl _) HB hb.out
  clear hb HA
  obtain ⟨c0, c1, c2⟩ := objs_of H1.out
  have HF := few8 Ad nd cd Ak nk ck s d ks W.heap.size w2 Hd.out.1 (Hr.out.below HB.out) HB.out.size
  obtain ⟨q1, hq1⟩ : ∃ q, q = fewO ⟨d, ks, s⟩ := ⟨_, rfl⟩
  rw [← hq1] at HF
  have HF := Lib.hid HF
  have HQ1 := Lib.hid hq1
  clear hq1
  go_wp2_with fail
  refine HF.out.mono ?_
  rintro e w3 ⟨rfl, hb⟩
  replace H1 := Lib.hid (blk8 H1.out hb)
  replace HB := bel8 (Nat.le_refl _) HB hb
  clear hb HF c0 c1 c2
  cases q1
  · go_wp2_with fail
    go_ret
    exact ⟨rfl, HB.out⟩
  · obtain ⟨m1, m2, m3⟩ := few_len HQ1.out.symm
    have hnd : nd ≤ 100000 := by have := Hd.out.1; omega
    have hnk : nk ≤ 100000 := by have := Hr.out.1; omega
    have hv : ∀ k ∈ ks, k.val.length ≤ 1000000 := fun k hk => by have := (m3 k hk).1; omega
    have HM : ∀ w, Hid (Below W.heap.size W w) → Calls Tryd.prog 11 #[oV Ad nd cd Ak nk ck s] w fun e w' => e = .returned (.bool (mayO ⟨d, ks, s⟩)) ∧ Hid (Below w.heap.size w w') := fun w hb =>
      RMay8 Ad nd cd Ak nk ck s d ks W.heap.size w Hd.out.1 (Hr.out.below hb.out) hb.out.size
    have HC : ∀ w, Hid (Below W.heap.size W w) → Calls Tryd.prog 14 #[oV Ad nd cd Ak nk ck s] w fun e w' => e = .returned (.int .i64 (errO (mayO ⟨d, ks, s⟩))) ∧ Hid (Below w.heap.size w w') := fun w hb =>
      kCheck Ad nd cd Ak nk ck s d ks W.heap.size w Hd.out.1 (Hr.out.below hb.out) hb.out.size
    have HG : ∀ w, Hid (Below W.heap.size W w) → Calls Tryd.prog 12 #[oV Ad nd cd Ak nk ck s, .string ⟨X.toArray⟩] w (OptP w (getK ks X)) := fun w hb =>
      (kGet Ad nd cd Ak nk ck s d ks X W.heap.size w (Hd.out.below hb.out) (Hr.out.below hb.out) hb.out.size hnk HX.out hv).mono fun _ _ h => h.opt
    have HG2 : ∀ w, Hid (Below W.heap.size W w) → Calls Tryd.prog 13 #[oV Ad nd cd Ak nk ck s, .string ⟨X.toArray⟩] w (OptP w (getK ks X)) := fun w hb =>
      (RGet8 Ad nd cd Ak nk ck s ks X W.heap.size w (Hr.out.below hb.out) hb.out.size hnk).mono fun _ _ h => h.opt hb.out.size
    have HA : ∀ w, Hid (Below W.heap.size W w) → Calls Tryd.prog 15 #[oV Ad nd cd Ak nk ck s, .string ⟨X.toArray⟩] w (StrP w (atK d ks X)) := fun w hb =>
      (kAt Ad nd cd Ak nk ck s d ks X W.heap.size w (Hd.out.below hb.out) hnd (Hr.out.below hb.out) hb.out.size hnk HX.out hv).mono fun _ _ h => h.str
    have HA2 : ∀ w, Hid (Below W.heap.size W w) → Calls Tryd.prog 16 #[oV Ad nd cd Ak nk ck s, .string ⟨X.toArray⟩] w (StrP w (atK d ks X)) := fun w hb =>
      (RAt8 Ad nd cd Ak nk ck s d ks X W.heap.size w (Hd.out.below hb.out) (by omega) (Hr.out.below hb.out) hb.out.size hnk HX.out).mono fun _ _ h => h.str hb.out.size
    have HR : ∀ w, Hid (Below W.heap.size W w) → ∀ f n, I64 f → Calls Tryd.prog 17 #[oV Ad nd cd Ak nk ck s, .int .i64 f, .int .i64 n] w (StrP w (readO d f n)) := fun w hb f n hf =>
      (kRead Ad nd cd Ak nk ck s f n d w ((Hd.out.below hb.out).more hb.out.size) hnc hcm hf).mono fun _ _ h => h.str
    have HR2 : ∀ w, Hid (Below W.heap.size W w) → ∀ f n, Calls Tryd.prog 18 #[oV Ad nd cd Ak nk ck s, .int .i64 f, .int .i64 n] w (StrP w (readO d f n)) := fun w hb f n =>
      (RRead8 Ad nd cd Ak nk ck s f n d w ((Hd.out.below hb.out).more hb.out.size)).mono fun _ _ h => h.str
    have HL : ∀ w, Hid (Below W.heap.size W w) → Calls Tryd.prog 20 #[oV Ad nd cd Ak nk ck s] w (CloneP w ⟨d, ks, s⟩ nd nk) := fun w hb =>
      kCloneO Ad nd cd Ak nk ck s d ks W.heap.size w (Hd.out.below hb.out) hnd (Hr.out.below hb.out) hb.out.size hnk hv
    have HS : ∀ w, Hid (Below W.heap.size W w) → ∀ Ad' cd' Ak' ck', Rd w w.heap.size Ad' nd d → RdK w w.heap.size Ak' nk ks → Calls Tryd.prog 19 #[oV Ad' nd cd' Ak' nk ck' s, oV Ad nd cd Ak nk ck s] w fun e w' => e = .returned (.bool true) ∧ Hid (Below w.heap.size w w') := fun w hb Ad' cd' Ak' ck' h1 h2 => by
      have h := kSame Ad' nd cd' Ak' nk ck' s d ks Ad nd cd Ak nk ck s d ks w h1 h2 ((Hd.out.below hb.out).more hb.out.size) ((Hr.out.below hb.out).more hb.out.size) hnk hnk
      rw [decide_eq_true rfl] at h
      exact h
    generalize mayO ⟨d, ks, s⟩ = g at HM HC
    generalize getK ks X = G at HG HG2
    generalize atK d ks X = T at HA HA2
    replace HM := Lib.hid HM
    replace HC := Lib.hid HC
    replace HG := Lib.hid HG
    replace HG2 := Lib.hid HG2
    replace HA := Lib.hid HA
    replace HA2 := Lib.hid HA2
    replace HR := Lib.hid HR
    replace HR2 := Lib.hid HR2
    replace HL := Lib.hid HL
    replace HS := Lib.hid HS
    clear m1 m2 m3 hnd hnk hv HQ1 Ht
    obtain ⟨c, hc⟩ : ∃ c, c = errO g := ⟨_, rfl⟩
    rw [← hc] at HC
    have hway : (g = true ∧ c = 0) ∨ (g = false ∧ c = 1) := by cases g <;> simp [hc, errO]
    clear hc
    obtain ⟨c0, c1, c2⟩ := objs_of H1.out
    go_wp2_with fail
    refine (HM.out _ HB).mono ?_
    rintro e w4 ⟨rfl, hb⟩
    replace H1 := Lib.hid (blk8 H1.out hb.out)
    replace HB := bel8 (Nat.le_refl _) HB hb.out
    clear hb c0 c1 c2
    obtain ⟨c0, c1, c2⟩ := objs_of H1.out
    have fin : True := trivial
    rcases hway with ⟨rfl, rfl⟩ | ⟨rfl, rfl⟩
    · skip
      go_wp2_with fail
      refine (HG.out _ HB).mono ?_
      rintro e w5 ⟨A5, n5, c5, rfl, R5, hb⟩
      replace H1 := Lib.hid (blk8 H1.out hb.out)
      replace HB := bel8 (Nat.le_refl _) HB hb.out
      clear hb c0 c1 c2
      obtain ⟨c0, c1, c2⟩ := objs_of H1.out
      go_wp2_with fail
      refine (HG2.out _ HB).mono ?_
      rintro e w6 ⟨A6, n6, c6, rfl, R6, hb⟩
      replace H1 := Lib.hid (blk8 H1.out hb.out)
      replace HB := bel8 (Nat.le_refl _) HB hb.out
      replace R5 := Lib.hid ((R5.out.below hb.out).more hb.out.size)
      clear hb c0 c1 c2
      go_upto_region 14 with fail
      have hF := tmod_128 z
      have HFI := Lib.hid (show I64 (z.tmod 128) by unfold I64; omega)
      clear hF
      generalize z.tmod 128 = F at HFI ⊢
      generalize wrap64 (z.tdiv 128) = N
      have H1d : Hid (w6.drew.heap[b1]? = some (.cells #[.slice Ad nd cd, .slice Ak nk ck, .int .i64 s] 25 (0, 0))) := H1.out
      have R5d : Hid (Rd w6.drew w6.drew.heap.size A5 n5 (G.getD [])) := R5.out
      have R6d : Hid (Rd w6.drew w6.drew.heap.size A6 n6 (G.getD [])) := R6.out
      have HBd : Hid (Below W.heap.size W w6.drew) := below_drewN HB.out 1
      refine wp_region_held_drew (S := fun x => Below w6.drew.heap.size w6.drew x) (by kernel_rfl) (Below.refl _ _) (fun hS => ?_)
      clear H1 R5 R6 HB
      generalize w6.drew = v0 at H1d R5d R6d HBd hS ⊢
      have H1 := H1d
      have R5 := R5d
      have R6 := R6d
      have HB := HBd
      clear HBd H1d R5d R6d
      refine wpAnyH_take (i := 0) (v := ?uua1) rfl (by kernel_rfl) (by kernel_rfl) (by kernel_rfl) (fun _ _ _ h => h) (Or.inl ⟨by rfl, ?yya1⟩) hS ?rra1
      case yya1 => (intro wy hSy; obtain ⟨g0, g1, g2⟩ := objs_of (blk8 H1.out hSy); go_simp; try with_reducible rfl)
      go_simp
      refine wpAnyH_take (i := 2) (v := ?uua2) rfl (by kernel_rfl) (by kernel_rfl) (by kernel_rfl) (fun _ _ _ h => h) (Or.inl ⟨by rfl, ?yya2⟩) hS ?rra2
      case yya2 => (intro wy hSy; go_simp; try with_reducible rfl)
      go_simp
      refine wpAnyH_ready (rs := [1]) (by kernel_rfl) (by simp) ?_
      refine AllReadyH.cons rfl (fun K hK => ?_) AllReadyH.nil
      go_simp
      go_wp2_with (go_at_call 14; refine (HC.out _ HB).mono ?_; rintro e v1 ⟨rfl, hb⟩)
      refine hK.out _ _ ?_ (fun hS => ?_)
      · exact hb.out
      clear hK K hS
      replace H1 := Lib.hid (blk8 H1.out hb.out)
      replace R5 := Lib.hid ((R5.out.below hb.out).more hb.out.size)
      replace R6 := Lib.hid ((R6.out.below hb.out).more hb.out.size)
      replace HB := bel8 (Nat.le_refl _) HB hb.out
      refine wpAnyH_strong (S' := fun x => Below v1.heap.size v1 x) (fun x h => hb.out.trans (h.mono hb.out.size)) _ _ _ _ ?_
      clear hb
      have hS : Below v1.heap.size v1 v1 := Below.refl _ _
      refine wpAnyH_take (i := 3) (v := .bool true) rfl (by kernel_rfl) (by kernel_rfl) (by kernel_rfl) (fun _ _ _ h => h) (Or.inl ⟨by rfl, ?yya3⟩) hS ?rra3
      case yya3 => (intro wy hSy; go_simp; try with_reducible rfl)
      go_simp
      refine wpAnyH_take (i := 4) (v := .bool true) rfl (by kernel_rfl) (by kernel_rfl) (by kernel_rfl) (fun _ _ _ h => h) (Or.inl ⟨by rfl, ?yya4⟩) hS ?rra4
      case yya4 => (intro wy hSy; go_simp; try with_reducible rfl)
      go_simp
      refine wpAnyH_take (i := 5) (v := ?uua5) rfl (by kernel_rfl) (by kernel_rfl) (by kernel_rfl) (fun _ _ _ h => h) (Or.inl ⟨by rfl, ?yya5⟩) hS ?rra5
      case yya5 => (intro wy hSy; go_simp; try with_reducible rfl)
      go_simp
      refine wpAnyH_take (i := 6) (v := ?uua6) rfl (by kernel_rfl) (by kernel_rfl) (by kernel_rfl) (fun _ _ _ h => h) (Or.inl ⟨by rfl, ?yya6⟩) hS ?rra6
      case yya6 => (intro wy hSy; go_simp; try with_reducible rfl)
      go_simp
      refine wpAnyH_take (i := 7) (v := .bool true) rfl (by kernel_rfl) (by kernel_rfl) (by kernel_rfl) (fun _ _ _ h => h) (Or.inl ⟨by rfl, ?yya7⟩) hS ?rra7
      case yya7 => (intro wy hSy; go_simp; try with_reducible rfl)
      go_simp
      refine wpAnyH_take (i := 8) (v := .bool true) rfl (by kernel_rfl) (by kernel_rfl) (by kernel_rfl) (fun _ _ _ h => h) (Or.inl ⟨by rfl, ?yya8⟩) hS ?rra8
      case yya8 => (intro wy hSy; go_simp; try with_reducible rfl)
      go_simp
      refine wpAnyH_take (i := 9) (v := .bool true) rfl (by kernel_rfl) (by kernel_rfl) (by kernel_rfl) (fun _ _ _ h => h) (Or.inl ⟨by rfl, ?yya9⟩) hS ?rra9
      case yya9 => (intro wy hSy; go_simp; try with_reducible rfl)
      go_simp
      refine wpAnyH_take (i := 10) (v := ?uua10) rfl (by kernel_rfl) (by kernel_rfl) (by kernel_rfl) (fun _ _ _ h => h) (Or.inl ⟨by rfl, ?yya10⟩) hS ?rra10
      case yya10 => (intro wy hSy; go_simp; try with_reducible rfl)
      go_simp
      refine wpAnyH_take (i := 11) (v := .string ⟨(G.getD []).toArray⟩) rfl (by kernel_rfl) (by kernel_rfl) (by kernel_rfl) (fun _ _ _ h => h) (Or.inl ⟨by rfl, ?yya11⟩) hS ?rra11
      case yya11 => (intro wy hSy; have hcx := str_any (c := c5) (R5.out.below hSy); go_simp; try with_reducible rfl)
      go_simp
      refine wpAnyH_take (i := 12) (v := ?uua12) rfl (by kernel_rfl) (by kernel_rfl) (by kernel_rfl) (fun _ _ _ h => h) (Or.inl ⟨by rfl, ?yya12⟩) hS ?rra12
      case yya12 => (intro wy hSy; go_simp; try with_reducible rfl)
      go_simp
      refine wpAnyH_take (i := 13) (v := .string ⟨(G.getD []).toArray⟩) rfl (by kernel_rfl) (by kernel_rfl) (by kernel_rfl) (fun _ _ _ h => h) (Or.inl ⟨by rfl, ?yya13⟩) hS ?rra13
      case yya13 => (intro wy hSy; have hcx := str_any (c := c6) (R6.out.below hSy); go_simp; try with_reducible rfl)
      go_simp
      refine wpAnyH_take (i := 14) (v := .bool true) rfl (by kernel_rfl) (by kernel_rfl) (by kernel_rfl) (fun _ _ _ h => h) (Or.inl ⟨by rfl, ?yya14⟩) hS ?rra14
      case yya14 => (intro wy hSy; go_simp; try with_reducible rfl)
      go_simp
      refine wpAnyH_take (i := 15) (v := .bool true) rfl (by kernel_rfl) (by kernel_rfl) (by kernel_rfl) (fun _ _ _ h => h) (Or.inl ⟨by rfl, ?yya15⟩) hS ?rra15
      case yya15 => (intro wy hSy; go_simp; try with_reducible rfl)
      go_simp
      refine wpAnyH_take (i := 16) (v := .bool true) rfl (by kernel_rfl) (by kernel_rfl) (by kernel_rfl) (fun _ _ _ h => h) (Or.inl ⟨by rfl, ?yya16⟩) hS ?rra16
      case yya16 => (intro wy hSy; go_simp; try with_reducible rfl)
      go_simp
      refine wpAnyH_take (i := 17) (v := ?uua17) rfl (by kernel_rfl) (by kernel_rfl) (by kernel_rfl) (fun _ _ _ h => h) (Or.inl ⟨by rfl, ?yya17⟩) hS ?rra17
      case yya17 => (intro wy hSy; obtain ⟨g0, g1, g2⟩ := objs_of (blk8 H1.out hSy); go_simp; try with_reducible rfl)
      go_simp
      refine wpAnyH_take (i := 18) (v := ?uua18) rfl (by kernel_rfl) (by kernel_rfl) (by kernel_rfl) (fun _ _ _ h => h) (Or.inl ⟨by rfl, ?yya18⟩) hS ?rra18
      case yya18 => (intro wy hSy; go_simp; try with_reducible rfl)
      go_simp
      refine wpAnyH_take (i := 21) (v := ?uua19) rfl (by kernel_rfl) (by kernel_rfl) (by kernel_rfl) (fun _ _ _ h => h) (Or.inl ⟨by rfl, ?yya19⟩) hS ?rra19
      case yya19 => (intro wy hSy; obtain ⟨g0, g1, g2⟩ := objs_of (blk8 H1.out hSy); go_simp; try with_reducible rfl)
      go_simp
      refine wpAnyH_take (i := 22) (v := ?uua20) rfl (by kernel_rfl) (by kernel_rfl) (by kernel_rfl) (fun _ _ _ h => h) (Or.inl ⟨by rfl, ?yya20⟩) hS ?rra20
      case yya20 => (intro wy hSy; go_simp; try with_reducible rfl)
      go_simp
      refine wpAnyH_ready (rs := [19]) (by kernel_rfl) (by simp) ?_
      refine AllReadyH.cons rfl (fun K hK => ?_) AllReadyH.nil
      go_simp
      go_wp2_with (go_at_call 15; refine (HA.out _ HB).mono ?_; rintro e v2 ⟨A7, n7, c7, rfl, R7, hb⟩)
      refine hK.out _ _ ?_ (fun hS => ?_)
      · exact hb.out
      clear hK K hS
      replace H1 := Lib.hid (blk8 H1.out hb.out)
      replace HB := bel8 (Nat.le_refl _) HB hb.out
      refine wpAnyH_strong (S' := fun x => Below v2.heap.size v2 x) (fun x h => hb.out.trans (h.mono hb.out.size)) _ _ _ _ ?_
      clear hb
      have hS : Below v2.heap.size v2 v2 := Below.refl _ _
      refine wpAnyH_take (i := 20) (v := .string ⟨T.toArray⟩) rfl (by kernel_rfl) (by kernel_rfl) (by kernel_rfl) (fun _ _ _ h => h) (Or.inl ⟨by rfl, ?yya21⟩) hS ?rra21
      case yya21 => (intro wy hSy; have hcx := str_any (c := c7) (R7.out.below hSy); go_simp; try with_reducible rfl)
      go_simp
      refine wpAnyH_ready (rs := [23]) (by kernel_rfl) (by simp) ?_
      refine AllReadyH.cons rfl (fun K hK => ?_) AllReadyH.nil
      go_simp
      go_wp2_with (go_at_call 16; refine (HA2.out _ HB).mono ?_; rintro e v3 ⟨A8, n8, c8, rfl, R8, hb⟩)
      refine hK.out _ _ ?_ (fun hS => ?_)
      · exact hb.out
      clear hK K hS
      replace H1 := Lib.hid (blk8 H1.out hb.out)
      replace HB := bel8 (Nat.le_refl _) HB hb.out
      refine wpAnyH_strong (S' := fun x => Below v3.heap.size v3 x) (fun x h => hb.out.trans (h.mono hb.out.size)) _ _ _ _ ?_
      clear hb
      have hS : Below v3.heap.size v3 v3 := Below.refl _ _
      refine wpAnyH_take (i := 24) (v := .string ⟨T.toArray⟩) rfl (by kernel_rfl) (by kernel_rfl) (by kernel_rfl) (fun _ _ _ h => h) (Or.inl ⟨by rfl, ?yya22⟩) hS ?rra22
      case yya22 => (intro wy hSy; have hcx := str_any (c := c8) (R8.out.below hSy); go_simp; try with_reducible rfl)
      go_simp
      refine wpAnyH_take (i := 25) (v := .bool true) rfl (by kernel_rfl) (by kernel_rfl) (by kernel_rfl) (fun _ _ _ h => h) (Or.inl ⟨by rfl, ?yya23⟩) hS ?rra23
      case yya23 => (intro wy hSy; go_simp; try with_reducible rfl)
      go_simp
      refine wpAnyH_take (i := 26) (v := .bool true) rfl (by kernel_rfl) (by kernel_rfl) (by kernel_rfl) (fun _ _ _ h => h) (Or.inl ⟨by rfl, ?yya24⟩) hS ?rra24
      case yya24 => (intro wy hSy; go_simp; try with_reducible rfl)
      go_simp
      refine wpAnyH_take (i := 27) (v := .bool true) rfl (by kernel_rfl) (by kernel_rfl) (by kernel_rfl) (fun _ _ _ h => h) (Or.inl ⟨by rfl, ?yya25⟩) hS ?rra25
      case yya25 => (intro wy hSy; go_simp; try with_reducible rfl)
      go_simp
      refine wpAnyH_take (i := 28) (v := ?uua26) rfl (by kernel_rfl) (by kernel_rfl) (by kernel_rfl) (fun _ _ _ h => h) (Or.inl ⟨by rfl, ?yya26⟩) hS ?rra26
      case yya26 => (intro wy hSy; obtain ⟨g0, g1, g2⟩ := objs_of (blk8 H1.out hSy); go_simp; try with_reducible rfl)
      go_simp
      refine wpAnyH_take (i := 29) (v := ?uua27) rfl (by kernel_rfl) (by kernel_rfl) (by kernel_rfl) (fun _ _ _ h => h) (Or.inl ⟨by rfl, ?yya27⟩) hS ?rra27
      case yya27 => (intro wy hSy; go_simp; try with_reducible rfl)
      go_simp
      refine wpAnyH_take (i := 30) (v := ?uua28) rfl (by kernel_rfl) (by kernel_rfl) (by kernel_rfl) (fun _ _ _ h => h) (Or.inl ⟨by rfl, ?yya28⟩) hS ?rra28
      case yya28 => (intro wy hSy; go_simp; try with_reducible rfl)
      go_simp
      refine wpAnyH_take (i := 33) (v := ?uua29) rfl (by kernel_rfl) (by kernel_rfl) (by kernel_rfl) (fun _ _ _ h => h) (Or.inl ⟨by rfl, ?yya29⟩) hS ?rra29
      case yya29 => (intro wy hSy; obtain ⟨g0, g1, g2⟩ := objs_of (blk8 H1.out hSy); go_simp; try with_reducible rfl)
      go_simp
      refine wpAnyH_take (i := 34) (v := ?uua30) rfl (by kernel_rfl) (by kernel_rfl) (by kernel_rfl) (fun _ _ _ h => h) (Or.inl ⟨by rfl, ?yya30⟩) hS ?rra30
      case yya30 => (intro wy hSy; go_simp; try with_reducible rfl)
      go_simp
      refine wpAnyH_take (i := 35) (v := ?uua31) rfl (by kernel_rfl) (by kernel_rfl) (by kernel_rfl) (fun _ _ _ h => h) (Or.inl ⟨by rfl, ?yya31⟩) hS ?rra31
      case yya31 => (intro wy hSy; go_simp; try with_reducible rfl)
      go_simp
      refine wpAnyH_ready (rs := [31]) (by kernel_rfl) (by simp) ?_
      refine AllReadyH.cons rfl (fun K hK => ?_) AllReadyH.nil
      go_simp
      go_wp2_with (go_at_call 17; refine (HR.out _ HB _ _ HFI.out).mono ?_; rintro e v4 ⟨A9, n9, c9, rfl, R9, hb⟩)
      refine hK.out _ _ ?_ (fun hS => ?_)
      · exact hb.out
      clear hK K hS
      replace H1 := Lib.hid (blk8 H1.out hb.out)
      replace HB := bel8 (Nat.le_refl _) HB hb.out
      refine wpAnyH_strong (S' := fun x => Below v4.heap.size v4 x) (fun x h => hb.out.trans (h.mono hb.out.size)) _ _ _ _ ?_
      clear hb
      have hS : Below v4.heap.size v4 v4 := Below.refl _ _
      refine wpAnyH_take (i := 32) (v := .string ⟨(readO d F N).toArray⟩) rfl (by kernel_rfl) (by kernel_rfl) (by kernel_rfl) (fun _ _ _ h => h) (Or.inl ⟨by rfl, ?yya32⟩) hS ?rra32
      case yya32 => (intro wy hSy; have hcx := str_any (c := c9) (R9.out.below hSy); go_simp; try with_reducible rfl)
      go_simp
      refine wpAnyH_ready (rs := [36]) (by kernel_rfl) (by simp) ?_
      refine AllReadyH.cons rfl (fun K hK => ?_) AllReadyH.nil
      go_simp
      go_wp2_with (go_at_call 18; refine (HR2.out _ HB _ _).mono ?_; rintro e v5 ⟨A10, n10, c10, rfl, R10, hb⟩)
      refine hK.out _ _ ?_ (fun hS => ?_)
      · exact hb.out
      clear hK K hS
      replace H1 := Lib.hid (blk8 H1.out hb.out)
      replace HB := bel8 (Nat.le_refl _) HB hb.out
      refine wpAnyH_strong (S' := fun x => Below v5.heap.size v5 x) (fun x h => hb.out.trans (h.mono hb.out.size)) _ _ _ _ ?_
      clear hb
      have hS : Below v5.heap.size v5 v5 := Below.refl _ _
      refine wpAnyH_take (i := 37) (v := .string ⟨(readO d F N).toArray⟩) rfl (by kernel_rfl) (by kernel_rfl) (by kernel_rfl) (fun _ _ _ h => h) (Or.inl ⟨by rfl, ?yya33⟩) hS ?rra33
      case yya33 => (intro wy hSy; have hcx := str_any (c := c10) (R10.out.below hSy); go_simp; try with_reducible rfl)
      go_simp
      refine wpAnyH_take (i := 38) (v := .bool true) rfl (by kernel_rfl) (by kernel_rfl) (by kernel_rfl) (fun _ _ _ h => h) (Or.inl ⟨by rfl, ?yya34⟩) hS ?rra34
      case yya34 => (intro wy hSy; go_simp; try with_reducible rfl)
      go_simp
      refine wpAnyH_take (i := 39) (v := .bool true) rfl (by kernel_rfl) (by kernel_rfl) (by kernel_rfl) (fun _ _ _ h => h) (Or.inl ⟨by rfl, ?yya35⟩) hS ?rra35
      case yya35 => (intro wy hSy; go_simp; try with_reducible rfl)
      go_simp
      refine wpAnyH_take (i := 40) (v := .bool true) rfl (by kernel_rfl) (by kernel_rfl) (by kernel_rfl) (fun _ _ _ h => h) (Or.inl ⟨by rfl, ?yya36⟩) hS ?rra36
      case yya36 => (intro wy hSy; go_simp; try with_reducible rfl)
      go_simp
      refine wpAnyH_take (i := 41) (v := ?uua37) rfl (by kernel_rfl) (by kernel_rfl) (by kernel_rfl) (fun _ _ _ h => h) (Or.inl ⟨by rfl, ?yya37⟩) hS ?rra37
      case yya37 => (intro wy hSy; obtain ⟨g0, g1, g2⟩ := objs_of (blk8 H1.out hSy); go_simp; try with_reducible rfl)
      go_simp
      refine wpAnyH_take (i := 43) (v := ?uua38) rfl (by kernel_rfl) (by kernel_rfl) (by kernel_rfl) (fun _ _ _ h => h) (Or.inl ⟨by rfl, ?yya38⟩) hS ?rra38
      case yya38 => (intro wy hSy; obtain ⟨g0, g1, g2⟩ := objs_of (blk8 H1.out hSy); go_simp; try with_reducible rfl)
      go_simp
      refine wpAnyH_ready (rs := [42]) (by kernel_rfl) (by simp) ?_
      refine AllReadyH.cons rfl (fun K hK => ?_) AllReadyH.nil
      go_simp
      go_wp2_with (go_at_call 20; refine (HL.out _ HB).mono ?_; rintro e v6 ⟨A11, d11, K11, k11, vs, M, rfl, P, hb⟩)
      refine hK.out _ _ ?_ (fun hS => ?_)
      · exact hb.out
      clear hK K hS
      replace H1 := Lib.hid (blk8 H1.out hb.out)
      replace HB := bel8 (Nat.le_refl _) HB hb.out
      refine wpAnyH_strong (S' := fun x => Below v6.heap.size v6 x) (fun x h => hb.out.trans (h.mono hb.out.size)) _ _ _ _ ?_
      clear hb
      have hS : Below v6.heap.size v6 v6 := Below.refl _ _
      have Q1 := (own_rd8 P.out.dat).1
      have Q2 := P.out.rdk
      refine wpAnyH_ready (rs := [44]) (by kernel_rfl) (by simp) ?_
      refine AllReadyH.cons rfl (fun K hK => ?_) AllReadyH.nil
      go_simp
      go_wp2_with (go_at_call 19; refine (HS.out _ HB _ _ _ _ Q1 Q2).mono ?_; rintro e v7 ⟨rfl, hb⟩)
      refine hK.out _ _ ?_ (fun hS => ?_)
      · exact hb.out
      clear hK K hS
      replace H1 := Lib.hid (blk8 H1.out hb.out)
      replace HB := bel8 (Nat.le_refl _) HB hb.out
      refine wpAnyH_strong (S' := fun x => Below v7.heap.size v7 x) (fun x h => hb.out.trans (h.mono hb.out.size)) _ _ _ _ ?_
      clear hb
      have hS : Below v7.heap.size v7 v7 := Below.refl _ _
      refine wpAnyH_take (i := 45) (v := .bool true) rfl (by kernel_rfl) (by kernel_rfl) (by kernel_rfl) (fun _ _ _ h => h) (Or.inl ⟨by rfl, ?yya39⟩) hS ?rra39
      case yya39 => (intro wy hSy; go_simp; try with_reducible rfl)
      go_simp
      refine wpAnyH_take (i := 46) (v := .bool true) rfl (by kernel_rfl) (by kernel_rfl) (by kernel_rfl) (fun _ _ _ h => h) (Or.inl ⟨by rfl, ?yya40⟩) hS ?rra40
      case yya40 => (intro wy hSy; go_simp; try with_reducible rfl)
      go_simp
      refine wpAnyH_done (by kernel_rfl) ?_ _
      go_wp2_with fail
      go_ret
      exact ⟨rfl, HB.out⟩
    · skip
      go_wp2_with fail
      refine (HG.out _ HB).mono ?_
      rintro e w5 ⟨A5, n5, c5, rfl, R5, hb⟩
      replace H1 := Lib.hid (blk8 H1.out hb.out)
      replace HB := bel8 (Nat.le_refl _) HB hb.out
      clear hb c0 c1 c2
      obtain ⟨c0, c1, c2⟩ := objs_of H1.out
      go_wp2_with fail
      refine (HG2.out _ HB).mono ?_
      rintro e w6 ⟨A6, n6, c6, rfl, R6, hb⟩
      replace H1 := Lib.hid (blk8 H1.out hb.out)
      replace HB := bel8 (Nat.le_refl _) HB hb.out
      replace R5 := Lib.hid ((R5.out.below hb.out).more hb.out.size)
      clear hb c0 c1 c2
      go_upto_region 14 with fail
      have hF := tmod_128 z
      have HFI := Lib.hid (show I64 (z.tmod 128) by unfold I64; omega)
      clear hF
      generalize z.tmod 128 = F at HFI ⊢
      generalize wrap64 (z.tdiv 128) = N
      have H1d : Hid (w6.drew.heap[b1]? = some (.cells #[.slice Ad nd cd, .slice Ak nk ck, .int .i64 s] 25 (0, 0))) := H1.out
      have R5d : Hid (Rd w6.drew w6.drew.heap.size A5 n5 (G.getD [])) := R5.out
      have R6d : Hid (Rd w6.drew w6.drew.heap.size A6 n6 (G.getD [])) := R6.out
      have HBd : Hid (Below W.heap.size W w6.drew) := below_drewN HB.out 1
      refine wp_region_held_drew (S := fun x => Below w6.drew.heap.size w6.drew x) (by kernel_rfl) (Below.refl _ _) (fun hS => ?_)
      clear H1 R5 R6 HB
      generalize w6.drew = v0 at H1d R5d R6d HBd hS ⊢
      have H1 := H1d
      have R5 := R5d
      have R6 := R6d
      have HB := HBd
      clear HBd H1d R5d R6d
      refine wpAnyH_take (i := 0) (v := ?uub1) rfl (by kernel_rfl) (by kernel_rfl) (by kernel_rfl) (fun _ _ _ h => h) (Or.inl ⟨by rfl, ?yyb1⟩) hS ?rrb1
      case yyb1 => (intro wy hSy; obtain ⟨g0, g1, g2⟩ := objs_of (blk8 H1.out hSy); go_simp; try with_reducible rfl)
      go_simp
      refine wpAnyH_take (i := 2) (v := ?uub2) rfl (by kernel_rfl) (by kernel_rfl) (by kernel_rfl) (fun _ _ _ h => h) (Or.inl ⟨by rfl, ?yyb2⟩) hS ?rrb2
      case yyb2 => (intro wy hSy; go_simp; try with_reducible rfl)
      go_simp
      refine wpAnyH_ready (rs := [1]) (by kernel_rfl) (by simp) ?_
      refine AllReadyH.cons rfl (fun K hK => ?_) AllReadyH.nil
      go_simp
      go_wp2_with (go_at_call 14; refine (HC.out _ HB).mono ?_; rintro e v1 ⟨rfl, hb⟩)
      refine hK.out _ _ ?_ (fun hS => ?_)
      · exact hb.out
      clear hK K hS
      replace H1 := Lib.hid (blk8 H1.out hb.out)
      replace R5 := Lib.hid ((R5.out.below hb.out).more hb.out.size)
      replace R6 := Lib.hid ((R6.out.below hb.out).more hb.out.size)
      replace HB := bel8 (Nat.le_refl _) HB hb.out
      refine wpAnyH_strong (S' := fun x => Below v1.heap.size v1 x) (fun x h => hb.out.trans (h.mono hb.out.size)) _ _ _ _ ?_
      clear hb
      have hS : Below v1.heap.size v1 v1 := Below.refl _ _
      refine wpAnyH_take (i := 3) (v := .bool true) rfl (by kernel_rfl) (by kernel_rfl) (by kernel_rfl) (fun _ _ _ h => h) (Or.inl ⟨by rfl, ?yyb3⟩) hS ?rrb3
      case yyb3 => (intro wy hSy; go_simp; try with_reducible rfl)
      go_simp
      refine wpAnyH_take (i := 4) (v := .bool true) rfl (by kernel_rfl) (by kernel_rfl) (by kernel_rfl) (fun _ _ _ h => h) (Or.inl ⟨by rfl, ?yyb4⟩) hS ?rrb4
      case yyb4 => (intro wy hSy; go_simp; try with_reducible rfl)
      go_simp
      refine wpAnyH_take (i := 5) (v := ?uub5) rfl (by kernel_rfl) (by kernel_rfl) (by kernel_rfl) (fun _ _ _ h => h) (Or.inl ⟨by rfl, ?yyb5⟩) hS ?rrb5
      case yyb5 => (intro wy hSy; go_simp; try with_reducible rfl)
      go_simp
      refine wpAnyH_take (i := 6) (v := ?uub6) rfl (by kernel_rfl) (by kernel_rfl) (by kernel_rfl) (fun _ _ _ h => h) (Or.inl ⟨by rfl, ?yyb6⟩) hS ?rrb6
      case yyb6 => (intro wy hSy; go_simp; try with_reducible rfl)
      go_simp
      refine wpAnyH_take (i := 7) (v := .bool true) rfl (by kernel_rfl) (by kernel_rfl) (by kernel_rfl) (fun _ _ _ h => h) (Or.inl ⟨by rfl, ?yyb7⟩) hS ?rrb7
      case yyb7 => (intro wy hSy; go_simp; try with_reducible rfl)
      go_simp
      refine wpAnyH_take (i := 8) (v := .bool true) rfl (by kernel_rfl) (by kernel_rfl) (by kernel_rfl) (fun _ _ _ h => h) (Or.inl ⟨by rfl, ?yyb8⟩) hS ?rrb8
      case yyb8 => (intro wy hSy; go_simp; try with_reducible rfl)
      go_simp
      refine wpAnyH_take (i := 9) (v := .bool true) rfl (by kernel_rfl) (by kernel_rfl) (by kernel_rfl) (fun _ _ _ h => h) (Or.inl ⟨by rfl, ?yyb9⟩) hS ?rrb9
      case yyb9 => (intro wy hSy; go_simp; try with_reducible rfl)
      go_simp
      refine wpAnyH_take (i := 10) (v := ?uub10) rfl (by kernel_rfl) (by kernel_rfl) (by kernel_rfl) (fun _ _ _ h => h) (Or.inl ⟨by rfl, ?yyb10⟩) hS ?rrb10
      case yyb10 => (intro wy hSy; go_simp; try with_reducible rfl)
      go_simp
      refine wpAnyH_take (i := 11) (v := .string ⟨(G.getD []).toArray⟩) rfl (by kernel_rfl) (by kernel_rfl) (by kernel_rfl) (fun _ _ _ h => h) (Or.inl ⟨by rfl, ?yyb11⟩) hS ?rrb11
      case yyb11 => (intro wy hSy; have hcx := str_any (c := c5) (R5.out.below hSy); go_simp; try with_reducible rfl)
      go_simp
      refine wpAnyH_take (i := 12) (v := ?uub12) rfl (by kernel_rfl) (by kernel_rfl) (by kernel_rfl) (fun _ _ _ h => h) (Or.inl ⟨by rfl, ?yyb12⟩) hS ?rrb12
      case yyb12 => (intro wy hSy; go_simp; try with_reducible rfl)
      go_simp
      refine wpAnyH_take (i := 13) (v := .string ⟨(G.getD []).toArray⟩) rfl (by kernel_rfl) (by kernel_rfl) (by kernel_rfl) (fun _ _ _ h => h) (Or.inl ⟨by rfl, ?yyb13⟩) hS ?rrb13
      case yyb13 => (intro wy hSy; have hcx := str_any (c := c6) (R6.out.below hSy); go_simp; try with_reducible rfl)
      go_simp
      refine wpAnyH_take (i := 14) (v := .bool true) rfl (by kernel_rfl) (by kernel_rfl) (by kernel_rfl) (fun _ _ _ h => h) (Or.inl ⟨by rfl, ?yyb14⟩) hS ?rrb14
      case yyb14 => (intro wy hSy; go_simp; try with_reducible rfl)
      go_simp
      refine wpAnyH_take (i := 15) (v := .bool true) rfl (by kernel_rfl) (by kernel_rfl) (by kernel_rfl) (fun _ _ _ h => h) (Or.inl ⟨by rfl, ?yyb15⟩) hS ?rrb15
      case yyb15 => (intro wy hSy; go_simp; try with_reducible rfl)
      go_simp
      refine wpAnyH_take (i := 16) (v := .bool true) rfl (by kernel_rfl) (by kernel_rfl) (by kernel_rfl) (fun _ _ _ h => h) (Or.inl ⟨by rfl, ?yyb16⟩) hS ?rrb16
      case yyb16 => (intro wy hSy; go_simp; try with_reducible rfl)
      go_simp
      refine wpAnyH_take (i := 17) (v := ?uub17) rfl (by kernel_rfl) (by kernel_rfl) (by kernel_rfl) (fun _ _ _ h => h) (Or.inl ⟨by rfl, ?yyb17⟩) hS ?rrb17
      case yyb17 => (intro wy hSy; obtain ⟨g0, g1, g2⟩ := objs_of (blk8 H1.out hSy); go_simp; try with_reducible rfl)
      go_simp
      refine wpAnyH_take (i := 18) (v := ?uub18) rfl (by kernel_rfl) (by kernel_rfl) (by kernel_rfl) (fun _ _ _ h => h) (Or.inl ⟨by rfl, ?yyb18⟩) hS ?rrb18
      case yyb18 => (intro wy hSy; go_simp; try with_reducible rfl)
      go_simp
      refine wpAnyH_take (i := 21) (v := ?uub19) rfl (by kernel_rfl) (by kernel_rfl) (by kernel_rfl) (fun _ _ _ h => h) (Or.inl ⟨by rfl, ?yyb19⟩) hS ?rrb19
      case yyb19 => (intro wy hSy; obtain ⟨g0, g1, g2⟩ := objs_of (blk8 H1.out hSy); go_simp; try with_reducible rfl)
      go_simp
      refine wpAnyH_take (i := 22) (v := ?uub20) rfl (by kernel_rfl) (by kernel_rfl) (by kernel_rfl) (fun _ _ _ h => h) (Or.inl ⟨by rfl, ?yyb20⟩) hS ?rrb20
      case yyb20 => (intro wy hSy; go_simp; try with_reducible rfl)
      go_simp
      refine wpAnyH_ready (rs := [19]) (by kernel_rfl) (by simp) ?_
      refine AllReadyH.cons rfl (fun K hK => ?_) AllReadyH.nil
      go_simp
      go_wp2_with (go_at_call 15; refine (HA.out _ HB).mono ?_; rintro e v2 ⟨A7, n7, c7, rfl, R7, hb⟩)
      refine hK.out _ _ ?_ (fun hS => ?_)
      · exact hb.out
      clear hK K hS
      replace H1 := Lib.hid (blk8 H1.out hb.out)
      replace HB := bel8 (Nat.le_refl _) HB hb.out
      refine wpAnyH_strong (S' := fun x => Below v2.heap.size v2 x) (fun x h => hb.out.trans (h.mono hb.out.size)) _ _ _ _ ?_
      clear hb
      have hS : Below v2.heap.size v2 v2 := Below.refl _ _
      refine wpAnyH_take (i := 20) (v := .string ⟨T.toArray⟩) rfl (by kernel_rfl) (by kernel_rfl) (by kernel_rfl) (fun _ _ _ h => h) (Or.inl ⟨by rfl, ?yyb21⟩) hS ?rrb21
      case yyb21 => (intro wy hSy; have hcx := str_any (c := c7) (R7.out.below hSy); go_simp; try with_reducible rfl)
      go_simp
      refine wpAnyH_ready (rs := [23]) (by kernel_rfl) (by simp) ?_
      refine AllReadyH.cons rfl (fun K hK => ?_) AllReadyH.nil
      go_simp
      go_wp2_with (go_at_call 16; refine (HA2.out _ HB).mono ?_; rintro e v3 ⟨A8, n8, c8, rfl, R8, hb⟩)
      refine hK.out _ _ ?_ (fun hS => ?_)
      · exact hb.out
      clear hK K hS
      replace H1 := Lib.hid (blk8 H1.out hb.out)
      replace HB := bel8 (Nat.le_refl _) HB hb.out
      refine wpAnyH_strong (S' := fun x => Below v3.heap.size v3 x) (fun x h => hb.out.trans (h.mono hb.out.size)) _ _ _ _ ?_
      clear hb
      have hS : Below v3.heap.size v3 v3 := Below.refl _ _
      refine wpAnyH_take (i := 24) (v := .string ⟨T.toArray⟩) rfl (by kernel_rfl) (by kernel_rfl) (by kernel_rfl) (fun _ _ _ h => h) (Or.inl ⟨by rfl, ?yyb22⟩) hS ?rrb22
      case yyb22 => (intro wy hSy; have hcx := str_any (c := c8) (R8.out.below hSy); go_simp; try with_reducible rfl)
      go_simp
      refine wpAnyH_take (i := 25) (v := .bool true) rfl (by kernel_rfl) (by kernel_rfl) (by kernel_rfl) (fun _ _ _ h => h) (Or.inl ⟨by rfl, ?yyb23⟩) hS ?rrb23
      case yyb23 => (intro wy hSy; go_simp; try with_reducible rfl)
      go_simp
      refine wpAnyH_take (i := 26) (v := .bool true) rfl (by kernel_rfl) (by kernel_rfl) (by kernel_rfl) (fun _ _ _ h => h) (Or.inl ⟨by rfl, ?yyb24⟩) hS ?rrb24
      case yyb24 => (intro wy hSy; go_simp; try with_reducible rfl)
      go_simp
      refine wpAnyH_take (i := 27) (v := .bool true) rfl (by kernel_rfl) (by kernel_rfl) (by kernel_rfl) (fun _ _ _ h => h) (Or.inl ⟨by rfl, ?yyb25⟩) hS ?rrb25
      case yyb25 => (intro wy hSy; go_simp; try with_reducible rfl)
      go_simp
      refine wpAnyH_take (i := 28) (v := ?uub26) rfl (by kernel_rfl) (by kernel_rfl) (by kernel_rfl) (fun _ _ _ h => h) (Or.inl ⟨by rfl, ?yyb26⟩) hS ?rrb26
      case yyb26 => (intro wy hSy; obtain ⟨g0, g1, g2⟩ := objs_of (blk8 H1.out hSy); go_simp; try with_reducible rfl)
      go_simp
      refine wpAnyH_take (i := 29) (v := ?uub27) rfl (by kernel_rfl) (by kernel_rfl) (by kernel_rfl) (fun _ _ _ h => h) (Or.inl ⟨by rfl, ?yyb27⟩) hS ?rrb27
      case yyb27 => (intro wy hSy; go_simp; try with_reducible rfl)
      go_simp
      refine wpAnyH_take (i := 30) (v := ?uub28) rfl (by kernel_rfl) (by kernel_rfl) (by kernel_rfl) (fun _ _ _ h => h) (Or.inl ⟨by rfl, ?yyb28⟩) hS ?rrb28
      case yyb28 => (intro wy hSy; go_simp; try with_reducible rfl)
      go_simp
      refine wpAnyH_take (i := 33) (v := ?uub29) rfl (by kernel_rfl) (by kernel_rfl) (by kernel_rfl) (fun _ _ _ h => h) (Or.inl ⟨by rfl, ?yyb29⟩) hS ?rrb29
      case yyb29 => (intro wy hSy; obtain ⟨g0, g1, g2⟩ := objs_of (blk8 H1.out hSy); go_simp; try with_reducible rfl)
      go_simp
      refine wpAnyH_take (i := 34) (v := ?uub30) rfl (by kernel_rfl) (by kernel_rfl) (by kernel_rfl) (fun _ _ _ h => h) (Or.inl ⟨by rfl, ?yyb30⟩) hS ?rrb30
      case yyb30 => (intro wy hSy; go_simp; try with_reducible rfl)
      go_simp
      refine wpAnyH_take (i := 35) (v := ?uub31) rfl (by kernel_rfl) (by kernel_rfl) (by kernel_rfl) (fun _ _ _ h => h) (Or.inl ⟨by rfl, ?yyb31⟩) hS ?rrb31
      case yyb31 => (intro wy hSy; go_simp; try with_reducible rfl)
      go_simp
      refine wpAnyH_ready (rs := [31]) (by kernel_rfl) (by simp) ?_
      refine AllReadyH.cons rfl (fun K hK => ?_) AllReadyH.nil
      go_simp
      go_wp2_with (go_at_call 17; refine (HR.out _ HB _ _ HFI.out).mono ?_; rintro e v4 ⟨A9, n9, c9, rfl, R9, hb⟩)
      refine hK.out _ _ ?_ (fun hS => ?_)
      · exact hb.out
      clear hK K hS
      replace H1 := Lib.hid (blk8 H1.out hb.out)
      replace HB := bel8 (Nat.le_refl _) HB hb.out
      refine wpAnyH_strong (S' := fun x => Below v4.heap.size v4 x) (fun x h => hb.out.trans (h.mono hb.out.size)) _ _ _ _ ?_
      clear hb
      have hS : Below v4.heap.size v4 v4 := Below.refl _ _
      refine wpAnyH_take (i := 32) (v := .string ⟨(readO d F N).toArray⟩) rfl (by kernel_rfl) (by kernel_rfl) (by kernel_rfl) (fun _ _ _ h => h) (Or.inl ⟨by rfl, ?yyb32⟩) hS ?rrb32
      case yyb32 => (intro wy hSy; have hcx := str_any (c := c9) (R9.out.below hSy); go_simp; try with_reducible rfl)
      go_simp
      refine wpAnyH_ready (rs := [36]) (by kernel_rfl) (by simp) ?_
      refine AllReadyH.cons rfl (fun K hK => ?_) AllReadyH.nil
      go_simp
      go_wp2_with (go_at_call 18; refine (HR2.out _ HB _ _).mono ?_; rintro e v5 ⟨A10, n10, c10, rfl, R10, hb⟩)
      refine hK.out _ _ ?_ (fun hS => ?_)
      · exact hb.out
      clear hK K hS
      replace H1 := Lib.hid (blk8 H1.out hb.out)
      replace HB := bel8 (Nat.le_refl _) HB hb.out
      refine wpAnyH_strong (S' := fun x => Below v5.heap.size v5 x) (fun x h => hb.out.trans (h.mono hb.out.size)) _ _ _ _ ?_
      clear hb
      have hS : Below v5.heap.size v5 v5 := Below.refl _ _
      refine wpAnyH_take (i := 37) (v := .string ⟨(readO d F N).toArray⟩) rfl (by kernel_rfl) (by kernel_rfl) (by kernel_rfl) (fun _ _ _ h => h) (Or.inl ⟨by rfl, ?yyb33⟩) hS ?rrb33
      case yyb33 => (intro wy hSy; have hcx := str_any (c := c10) (R10.out.below hSy); go_simp; try with_reducible rfl)
      go_simp
      refine wpAnyH_take (i := 38) (v := .bool true) rfl (by kernel_rfl) (by kernel_rfl) (by kernel_rfl) (fun _ _ _ h => h) (Or.inl ⟨by rfl, ?yyb34⟩) hS ?rrb34
      case yyb34 => (intro wy hSy; go_simp; try with_reducible rfl)
      go_simp
      refine wpAnyH_take (i := 39) (v := .bool true) rfl (by kernel_rfl) (by kernel_rfl) (by kernel_rfl) (fun _ _ _ h => h) (Or.inl ⟨by rfl, ?yyb35⟩) hS ?rrb35
      case yyb35 => (intro wy hSy; go_simp; try with_reducible rfl)
      go_simp
      refine wpAnyH_take (i := 40) (v := .bool true) rfl (by kernel_rfl) (by kernel_rfl) (by kernel_rfl) (fun _ _ _ h => h) (Or.inl ⟨by rfl, ?yyb36⟩) hS ?rrb36
      case yyb36 => (intro wy hSy; go_simp; try with_reducible rfl)
      go_simp
      refine wpAnyH_take (i := 41) (v := ?uub37) rfl (by kernel_rfl) (by kernel_rfl) (by kernel_rfl) (fun _ _ _ h => h) (Or.inl ⟨by rfl, ?yyb37⟩) hS ?rrb37
      case yyb37 => (intro wy hSy; obtain ⟨g0, g1, g2⟩ := objs_of (blk8 H1.out hSy); go_simp; try with_reducible rfl)
      go_simp
      refine wpAnyH_take (i := 43) (v := ?uub38) rfl (by kernel_rfl) (by kernel_rfl) (by kernel_rfl) (fun _ _ _ h => h) (Or.inl ⟨by rfl, ?yyb38⟩) hS ?rrb38
      case yyb38 => (intro wy hSy; obtain ⟨g0, g1, g2⟩ := objs_of (blk8 H1.out hSy); go_simp; try with_reducible rfl)
      go_simp
      refine wpAnyH_ready (rs := [42]) (by kernel_rfl) (by simp) ?_
      refine AllReadyH.cons rfl (fun K hK => ?_) AllReadyH.nil
      go_simp
      go_wp2_with (go_at_call 20; refine (HL.out _ HB).mono ?_; rintro e v6 ⟨A11, d11, K11, k11, vs, M, rfl, P, hb⟩)
      refine hK.out _ _ ?_ (fun hS => ?_)
      · exact hb.out
      clear hK K hS
      replace H1 := Lib.hid (blk8 H1.out hb.out)
      replace HB := bel8 (Nat.le_refl _) HB hb.out
      refine wpAnyH_strong (S' := fun x => Below v6.heap.size v6 x) (fun x h => hb.out.trans (h.mono hb.out.size)) _ _ _ _ ?_
      clear hb
      have hS : Below v6.heap.size v6 v6 := Below.refl _ _
      have Q1 := (own_rd8 P.out.dat).1
      have Q2 := P.out.rdk
      refine wpAnyH_ready (rs := [44]) (by kernel_rfl) (by simp) ?_
      refine AllReadyH.cons rfl (fun K hK => ?_) AllReadyH.nil
      go_simp
      go_wp2_with (go_at_call 19; refine (HS.out _ HB _ _ _ _ Q1 Q2).mono ?_; rintro e v7 ⟨rfl, hb⟩)
      refine hK.out _ _ ?_ (fun hS => ?_)
      · exact hb.out
      clear hK K hS
      replace H1 := Lib.hid (blk8 H1.out hb.out)
      replace HB := bel8 (Nat.le_refl _) HB hb.out
      refine wpAnyH_strong (S' := fun x => Below v7.heap.size v7 x) (fun x h => hb.out.trans (h.mono hb.out.size)) _ _ _ _ ?_
      clear hb
      have hS : Below v7.heap.size v7 v7 := Below.refl _ _
      refine wpAnyH_take (i := 45) (v := .bool true) rfl (by kernel_rfl) (by kernel_rfl) (by kernel_rfl) (fun _ _ _ h => h) (Or.inl ⟨by rfl, ?yyb39⟩) hS ?rrb39
      case yyb39 => (intro wy hSy; go_simp; try with_reducible rfl)
      go_simp
      refine wpAnyH_take (i := 46) (v := .bool true) rfl (by kernel_rfl) (by kernel_rfl) (by kernel_rfl) (fun _ _ _ h => h) (Or.inl ⟨by rfl, ?yyb40⟩) hS ?rrb40
      case yyb40 => (intro wy hSy; go_simp; try with_reducible rfl)
      go_simp
      refine wpAnyH_done (by kernel_rfl) ?_ _
      go_wp2_with fail
      go_ret
      exact ⟨rfl, HB.out⟩
set_option maxRecDepth 10000 in
theorem ObjectTells_walk {H : Type} {enc : TypeId × Value → H} (W : World) (base : Nat) {v0 v1 v2 : Value} {d0 : DataW H} {p0 : List MemPlace} {d1 : DataW H} {p1 : List MemPlace} {d2 : DataW H} {p2 : List MemPlace}
    (k0 : Value.okWide Tryd.prog W .any base 25 v0) (h0 : DataW.Trod enc Tryd.prog W 0 (fun _ => true) true 25 v0 d0 p0) (k1 : Value.okWide Tryd.prog W .any base 9 v1) (h1 : DataW.Trod enc Tryd.prog W 0 (fun _ => true) true 9 v1 d1 p1) (k2 : Value.okWide Tryd.prog W .any base 3 v2) (h2 : DataW.Trod enc Tryd.prog W 0 (fun _ => true) true 3 v2 d2 p2) (ht : Et W) :
    Calls Tryd.prog 3 #[v0, v1, v2] W (Yes W) := by
  obtain ⟨Ad, nd, cd, Ak, nk, ck, s, d, ks, rfl, a1, a2, a3, a4, _, _⟩ := ar_object k0 h0
  obtain ⟨X, rfl, hX⟩ := ar_str8 k1 h1
  obtain ⟨z, rfl, hz⟩ := ar_int Tryd.underlying3 k2 h2
  exact ObjectTells_core Ad nd cd Ak nk ck s d ks X z W ht a1 a2 a3 a4 hX hz
end Go.Proofs.YtmigapjkicddiaaDoor
