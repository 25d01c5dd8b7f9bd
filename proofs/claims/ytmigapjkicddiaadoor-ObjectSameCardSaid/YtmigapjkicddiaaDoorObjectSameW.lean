/- The walk of ObjectSame. -/
import Derived.Test.YtmigapjkicddiaaDoorMp
import Derived.Test.YtmigapjkicddiaaDoorMj
import Derived.Test.YtmigapjkicddiaaDoorMf
import Derived.Deep.RegionHeld3
namespace Go.Proofs.YtmigapjkicddiaaDoor
open Go.ChangeShapes Go.WideShapes Go.ChangeAt Go.RowKit

set_option maxRecDepth 10000 in
set_option maxHeartbeats 2000000 in
theorem ObjectSame_core (Ad : Option Addr) (nd cd : Nat) (Ak : Option Addr) (nk ck : Nat) (s : Int) (d : List UInt8) (ks : List Ky) (Ad' : Option Addr) (nd' cd' : Nat) (Ak' : Option Addr) (nk' ck' : Nat) (s' : Int) (d' : List UInt8) (ks' : List Ky) (W : World) (ht : Et W)
    (hd : Rd W W.heap.size Ad nd d) (hr : RdK W W.heap.size Ak nk ks) (hd' : Rd W W.heap.size Ad' nd' d') (hr' : RdK W W.heap.size Ak' nk' ks') :
    Calls Tryd.prog 4 #[oV Ad nd cd Ak nk ck s, oV Ad' nd' cd' Ak' nk' ck' s'] W (Yes W) := by
  have HT := Lib.hid (two_objs W (.cells #[.slice Ad nd cd, .slice Ak nk ck, .int .i64 s] 25) (.cells #[.slice Ad' nd' cd', .slice Ak' nk' ck', .int .i64 s'] 25))
  have Hd := Lib.hid hd
  have Hr := Lib.hid hr
  have Hd' := Lib.hid hd'
  have Hr' := Lib.hid hr'
  have Ht := Lib.hid ht
  clear hd hr hd' hr' ht
  go_enter Tryd.func4, Tryd.ntmps4
  go_upto_region 1 with fail
  generalize (W.alloc (.cells #[.slice Ad nd cd, .slice Ak nk ck, .int .i64 s] 25)).alloc (.cells #[.slice Ad' nd' cd', .slice Ak' nk' ck', .int .i64 s'] 25) = w1 at HT ⊢
  obtain ⟨b2, hb2⟩ : ∃ b, b = W.heap.size + 1 := ⟨_, rfl⟩
  obtain ⟨b1, hb1⟩ : ∃ b, b = W.heap.size := ⟨_, rfl⟩
  have H1 := Lib.hid HT.out.1
  have H2 := Lib.hid HT.out.2.1
  have HB := Lib.hid HT.out.2.2
  rw [← hb2] at H2 ⊢
  rw [← hb1] at H1 ⊢
  clear HT hb1 hb2
  have HA := Lib.hid (awake8 w1 (Ht.out.below HB.out Ht.out.lt))
  go_wp2_with fail
  refine HA.out.mono ?_
  rintro e w2 ⟨rfl, _, hb⟩
  replace H1 := Lib.hid (blk8 H1.out hb.out)
  replace H2 := Lib.hid (blk8 H2.out hb.out)
  replace HB := bel8 (Nat.le_refl _) HB hb.out
  clear hb HA
  obtain ⟨c0, c1, c2⟩ := objs_of H1.out
  have HF := few8 Ad nd cd Ak nk ck s d ks W.heap.size w2 Hd.out.1 (Hr.out.below HB.out) HB.out.size
  obtain ⟨q1, hq1⟩ : ∃ q, q = fewO ⟨d, ks, s⟩ := ⟨_, rfl⟩
  rw [← hq1] at HF
  have HF := Lib.hid HF
  have HQ1 := Lib.hid hq1
  clear hq1
  go_wp2_with fail
  refine HF.out.mono ?_
  rintro e w3 ⟨rfl, hb⟩
  replace H1 := Lib.hid (blk8 H1.out hb)
  replace H2 := Lib.hid (blk8 H2.out hb)
  replace HB := bel8 (Nat.le_refl _) HB hb
  clear hb HF c0 c1 c2
  obtain ⟨c0, c1, c2⟩ := objs_of H2.out
  have HF := few8 Ad' nd' cd' Ak' nk' ck' s' d' ks' W.heap.size w3 Hd'.out.1 (Hr'.out.below HB.out) HB.out.size
  obtain ⟨q2, hq2⟩ : ∃ q, q = fewO ⟨d', ks', s'⟩ := ⟨_, rfl⟩
  rw [← hq2] at HF
  have HF := Lib.hid HF
  have HQ2 := Lib.hid hq2
  clear hq2
  go_wp2_with fail
  refine HF.out.mono ?_
  rintro e w4 ⟨rfl, hb⟩
  replace H1 := Lib.hid (blk8 H1.out hb)
  replace H2 := Lib.hid (blk8 H2.out hb)
  replace HB := bel8 (Nat.le_refl _) HB hb
  clear hb HF c0 c1 c2
  cases q1
  · go_wp2_with fail
    go_ret
    exact ⟨rfl, HB.out⟩
  · cases q2
    · go_wp2_with fail
      go_ret
      exact ⟨rfl, HB.out⟩
    · have hn : nk ≤ 100000 := by
        have h := HQ1.out.symm
        unfold fewO at h
        simp only [Bool.and_eq_true, decide_eq_true_eq] at h
        have := Hr.out.1
        have h2 := h.2.1
        omega
      have hn' : nk' ≤ 100000 := by
        have h := HQ2.out.symm
        unfold fewO at h
        simp only [Bool.and_eq_true, decide_eq_true_eq] at h
        have := Hr'.out.1
        have h2 := h.2.1
        omega
      have HS1 : ∀ w, Below W.heap.size W w → Calls Tryd.prog 19 #[oV Ad nd cd Ak nk ck s, oV Ad' nd' cd' Ak' nk' ck' s'] w fun e w' => e = .returned (.bool (decide ((⟨d, ks, s⟩ : Oj) = ⟨d', ks', s'⟩))) ∧ Below w.heap.size w w' := fun w hb =>
        kSame Ad nd cd Ak nk ck s d ks Ad' nd' cd' Ak' nk' ck' s' d' ks' w ((Hd.out.below hb).more hb.size) ((Hr.out.below hb).more hb.size) ((Hd'.out.below hb).more hb.size) ((Hr'.out.below hb).more hb.size) hn hn'
      have HS2 : ∀ w, Below W.heap.size W w → Calls Tryd.prog 21 #[oV Ad nd cd Ak nk ck s, oV Ad' nd' cd' Ak' nk' ck' s'] w fun e w' => e = .returned (.bool (decide ((⟨d, ks, s⟩ : Oj) = ⟨d', ks', s'⟩))) ∧ Below w.heap.size w w' := fun w hb =>
        RSame8 Ad nd cd Ak nk ck s d ks Ad' nd' cd' Ak' nk' ck' s' d' ks' w ((Hd.out.below hb).more hb.size) ((Hr.out.below hb).more hb.size) ((Hd'.out.below hb).more hb.size) ((Hr'.out.below hb).more hb.size) hn hn'
      generalize decide ((⟨d, ks, s⟩ : Oj) = ⟨d', ks', s'⟩) = q at HS1 HS2
      replace HS1 := Lib.hid HS1
      replace HS2 := Lib.hid HS2
      clear hn hn' HQ1 HQ2 Hd Hr Hd' Hr' Ht
      go_upto_region 8 with fail
      have h8 : Hid (Below W.heap.size W w4.drew) := below_drewN HB.out 1
      refine wp_region_held_drew (S := fun w => w.heap[b1]? = some (.cells #[.slice Ad nd cd, .slice Ak nk ck, .int .i64 s] 25 (0, 0)) ∧ w.heap[b2]? = some (.cells #[.slice Ad' nd' cd', .slice Ak' nk' ck', .int .i64 s'] 25 (0, 0))) (by kernel_rfl) ⟨H1.out, H2.out⟩ (fun hS => ?_)
      clear H1 H2 HB
      generalize w4.drew = w5 at h8 hS ⊢
      refine wpAnyH_take (i := 0) (v := ?u0) rfl (by kernel_rfl) (by kernel_rfl) (by kernel_rfl) (fun _ _ _ h => h) (Or.inl ⟨by rfl, ?y0⟩) hS ?r0
      case y0 => (intro wy hSy; obtain ⟨g0, g1, g2⟩ := objs_of hSy.1; go_simp; try with_reducible rfl)
      simp only [Act.put]
      refine wpAnyH_take (i := 1) (v := ?u1) rfl (by kernel_rfl) (by kernel_rfl) (by kernel_rfl) (fun _ _ _ h => h) (Or.inl ⟨by rfl, ?y1⟩) hS ?r1
      case y1 => (intro wy hSy; obtain ⟨g0, g1, g2⟩ := objs_of hSy.2; go_simp; try with_reducible rfl)
      simp only [Act.put]
      refine wpAnyH_take (i := 3) (v := ?u3) rfl (by kernel_rfl) (by kernel_rfl) (by kernel_rfl) (fun _ _ _ h => h) (Or.inl ⟨by rfl, ?y3⟩) hS ?r3
      case y3 => (intro wy hSy; obtain ⟨g0, g1, g2⟩ := objs_of hSy.1; go_simp; try with_reducible rfl)
      simp only [Act.put]
      refine wpAnyH_take (i := 4) (v := ?u4) rfl (by kernel_rfl) (by kernel_rfl) (by kernel_rfl) (fun _ _ _ h => h) (Or.inl ⟨by rfl, ?y4⟩) hS ?r4
      case y4 => (intro wy hSy; obtain ⟨g0, g1, g2⟩ := objs_of hSy.2; go_simp; try with_reducible rfl)
      simp only [Act.put]
      refine wpAnyH_ready (rs := [2]) (by kernel_rfl) (by simp) ?_
      refine AllReadyH.cons rfl (fun K hK => ?_) AllReadyH.nil
      go_simp
      go_wp2_with (go_at_call 19; refine (HS1.out _ h8.out).mono ?_; rintro e w6 ⟨rfl, hb⟩)
      have h9 := bel8 (Nat.le_refl _) h8 hb
      have hS6 := hS
      refine hK.out _ _ ?_ (fun hS => ?_)
      · exact ⟨blk8 hS6.1 hb, blk8 hS6.2 hb⟩
      clear hK K hS6 h8 hb
      refine wpAnyH_ready (rs := [5]) (by kernel_rfl) (by simp) ?_
      refine AllReadyH.cons rfl (fun K hK => ?_) AllReadyH.nil
      go_simp
      go_wp2_with (go_at_call 21; refine (HS2.out _ h9.out).mono ?_; rintro e w7 ⟨rfl, hb⟩)
      have h10 := bel8 (Nat.le_refl _) h9 hb
      have hS6 := hS
      refine hK.out _ _ ?_ (fun hS => ?_)
      · exact ⟨blk8 hS6.1 hb, blk8 hS6.2 hb⟩
      clear hK K hS6 h9 hb
      refine wpAnyH_take (i := 6) (v := ?u6) rfl (by kernel_rfl) (by kernel_rfl) (by kernel_rfl) (fun _ _ _ h => h) (Or.inl ⟨by rfl, ?y6⟩) hS ?r6
      case y6 => (intro wy hSy; go_simp; try with_reducible rfl)
      go_simp
      refine wpAnyH_take (i := 7) (v := ?u7) rfl (by kernel_rfl) (by kernel_rfl) (by kernel_rfl) (fun _ _ _ h => h) (Or.inl ⟨by rfl, ?y7⟩) hS ?r7
      case y7 => (intro wy hSy; go_simp; try with_reducible rfl)
      go_simp
      refine wpAnyH_done (by kernel_rfl) ?_ _
      go_wp2_with fail
      go_ret
      exact ⟨by cases q <;> rfl, h10.out⟩
set_option maxRecDepth 10000 in
theorem ObjectSame_walk {H : Type} {enc : TypeId × Value → H} (W : World) (base : Nat) {v0 v1 : Value} {d0 : DataW H} {p0 : List MemPlace} {d1 : DataW H} {p1 : List MemPlace}
    (k0 : Value.okWide Tryd.prog W .any base 25 v0) (h0 : DataW.Trod enc Tryd.prog W 0 (fun _ => true) true 25 v0 d0 p0) (k1 : Value.okWide Tryd.prog W .any base 25 v1) (h1 : DataW.Trod enc Tryd.prog W 0 (fun _ => true) true 25 v1 d1 p1) (ht : Et W) :
    Calls Tryd.prog 4 #[v0, v1] W (Yes W) := by
  obtain ⟨Ad, nd, cd, Ak, nk, ck, s, d, ks, rfl, a1, _, _, a4, _, _⟩ := ar_object k0 h0
  obtain ⟨Ad', nd', cd', Ak', nk', ck', s', d', ks', rfl, b1, _, _, b4, _, _⟩ := ar_object k1 h1
  exact ObjectSame_core Ad nd cd Ak nk ck s d ks Ad' nd' cd' Ak' nk' ck' s' d' ks' W ht a1 a4 b1 b4
end Go.Proofs.YtmigapjkicddiaaDoor
