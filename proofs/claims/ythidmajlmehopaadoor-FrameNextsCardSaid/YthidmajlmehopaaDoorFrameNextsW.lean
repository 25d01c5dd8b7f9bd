/- The walk of FrameNexts. -/
import Derived.Test.YthidmajlmehopaaDoorFrLaw
namespace Go.Proofs.YthidmajlmehopaaDoor
open Go.ChangeShapes Go.WideShapes Go.ChangeAt Go.RowKit

set_option maxHeartbeats 1000000 in
theorem FrameNexts_no (A : Option Addr) (n c : Nat) (l : List UInt8) (W : World) (hr : Rd W W.heap.size A n l) (hc : n ≤ c) (hm : c ≤ 9223372036854775807) (ht : Tb W) (hn : n ≤ 20000) (hx : nxE l ≠ 0) :
    Calls Tryd.prog 4 #[.slice A n c] W (Yes W) := by
  have Hr := Lib.hid hr
  have Ht := Lib.hid ht
  have Hs := Lib.hid ht.size
  have Hx := Lib.hid hx
  obtain ⟨x, hxe⟩ : ∃ x, x = nxE l := ⟨_, rfl⟩
  have hx0 : (x != 0) = true := by rw [hxe]; simpa using hx
  have Hxe := Lib.hid hxe
  clear hr ht hx hxe
  go_enter Tryd.func4, Tryd.ntmps4
  go_wp2_with (go_at_call 9; refine (awake_any W Ht.out).mono ?_; rintro e w1 ⟨rfl, hb1⟩; have Hb1 := Lib.hid hb1; clear hb1)
  refine (Next_no A n c l _ ((Hr.out.below Hb1.out).more Hb1.out.size) (by omega) hc hm (Ht.out.below Hb1.out Hs.out) Hx.out).mono ?_
  rintro e w2 ⟨rfl, hb2⟩
  rw [← Hxe.out]
  have Hb2 := Lib.hid (Hb1.out.trans (hb2.mono Hb1.out.size))
  clear hb2
  go_wp2_with fail
  refine (rn_any A n c l _ _ ((Hr.out.below Hb2.out).more Hb2.out.size) (Nat.le_refl _) (by omega) hc hm).mono ?_
  intro e w3 h3
  obtain ⟨rfl, hb3⟩ := h3.2 Hx.out
  rw [← Hxe.out]
  have Hb3 := Lib.hid (Hb2.out.trans (hb3.mono Hb2.out.size))
  clear hb3 h3
  go_wp2_with fail
  go_ret
  exact ⟨rfl, Hb3.out⟩

set_option maxHeartbeats 1000000 in
theorem FrameNexts_yes (ad : Addr) (n c : Nat) (l : List UInt8) (W : World) (hr : Rd W W.heap.size (some ad) n l) (hc : n ≤ c) (hm : c ≤ 9223372036854775807) (ht : Tb W) (hn : n ≤ 20000) (hx : nxE l = 0) :
    Calls Tryd.prog 4 #[.slice (some ad) n c] W (Yes W) := by
  have hl := hr.1
  have hk := nx_ok_len hx
  have Hl := Lib.hid hl
  have Hr := Lib.hid hr
  have Ht := Lib.hid ht
  have Hs := Lib.hid ht.size
  have Hx := Lib.hid hx
  obtain ⟨k, hke⟩ : ∃ k, k = cntF l := ⟨_, rfl⟩
  rw [← hke] at hk
  have hk2 : k ≤ 8192 := hk.2.1
  have hk3 : k + 12 ≤ n := by omega
  have Hk := Lib.hid hke
  clear hr ht hx hl hk hke
  have hk4 : (k : Int) + 12 ≤ (n : Int) := by omega
  have hk5 : (k : Int) + 12 ≤ (c : Int) := by omega
  go_enter Tryd.func4, Tryd.ntmps4
  go_wp2_with (go_at_call 9; refine (awake_any W Ht.out).mono ?_; rintro e w1 ⟨rfl, hb1⟩; have Hb1 := Lib.hid hb1; clear hb1)
  refine (Next_yes (some ad) n c l _ ((Hr.out.below Hb1.out).more Hb1.out.size) (by omega) hc hm (Ht.out.below Hb1.out Hs.out) Hx.out).mono ?_
  rintro e w2 ⟨A1, c1, A2, c2, m1, m2, hm1, hm2, rfl, hown1, _, _, hown2, _, _, hb2⟩
  obtain ⟨kd, hkd⟩ : ∃ x, x = ((l.getD 1 0).toNat : Int) := ⟨_, rfl⟩
  rw [← hkd]
  rw [← Hk.out] at hm1 hm2 hown1 hown2
  rw [Hl.out] at hm2
  subst hm1
  subst hm2
  have Hkd := Lib.hid hkd
  have Hr1 := Lib.hid (Rd.own hown1)
  have Hr2 := Lib.hid (Rd.own hown2)
  have Hb2 := Lib.hid (Hb1.out.trans (hb2.mono Hb1.out.size))
  clear hkd hown1 hown2 hb2
  go_wp2_with fail
  refine (rn_any (some ad) n c l _ _ ((Hr.out.below Hb2.out).more Hb2.out.size) (Nat.le_refl _) (by omega) hc hm).mono ?_
  intro e w3 h3
  obtain ⟨A3, c3, m3, hm3, rfl, hr3, hb3⟩ := h3.1 Hx.out
  rw [← Hkd.out]
  rw [← Hk.out] at hm3
  subst hm3
  have Hb3 := Lib.hid (Hb2.out.trans (hb3.mono Hb2.out.size))
  have hr1 := Hr1.out.below hb3
  have hr2 := Hr2.out.below hb3
  have hcv1 := fun q => str_any (c := c1) (hr1.drewN q)
  have hcv2 := fun q => str_any (c := c2) (hr2.drewN q)
  have hcv3 := fun q => str_any (c := c3) (hr3.drewN q)
  have hfrom := (Hr.out.below Hb3.out).from (m3 + 12) hk3
  have Hfrom := Lib.hid hfrom
  clear hb3 h3 hr3 hfrom hr1 hr2
  by_cases hcc : c = m3 + 12
  · obtain rfl : n = m3 + 12 := by omega
    subst hcc
    have hrz : Rd w3 W.heap.size (some ad) 0 (l.drop (m3 + 12)) := ⟨by rw [List.length_drop, Hl.out]; omega, fun h => by omega⟩
    have hcv4 := fun q => str_any (c := 0) (hrz.drewN q)
    clear hrz
    rw [Nat.sub_self] at hcv2 ⊢
    go_wp2_with fail
    go_quiet (fail)
    go_wp2_with fail
    go_ret
    exact ⟨rfl, belowDrewN Hb3.out _⟩
  · have hcv4 := fun q => str_any (c := c - (m3 + 12)) (Hfrom.out.drewN q)
    have hcv5 : ∀ q, (convert 22 9 (.slice (some ⟨ad.block, ad.off + (m3 + 12), none⟩) (n - (m3 + 12)) (c - (m3 + 12)))).run Tryd.prog (w3.drewN q) = .ok (.string ⟨(l.drop (m3 + 12)).toArray⟩) (w3.drewN q) := fun q => by
      have h := hcv4 q
      have e : ad.add (m3 + 12) = ⟨ad.block, ad.off + (m3 + 12), none⟩ := by unfold Addr.add; rw [if_neg (by omega)]
      rwa [e] at h
    go_wp2_with fail
    go_quiet (fail)
    go_wp2_with fail
    go_ret
    exact ⟨rfl, belowDrewN Hb3.out _⟩

set_option maxHeartbeats 1000000 in
theorem FrameNexts_big (A : Option Addr) (n c : Nat) (W : World) (ht : Tb W) (hn : 20000 < n) :
    Calls Tryd.prog 4 #[.slice A n c] W (Yes W) := by
  have Ht := Lib.hid ht
  clear ht
  go_enter Tryd.func4, Tryd.ntmps4
  go_wp2_with (go_at_call 9; refine (awake_any W Ht.out).mono ?_; rintro e w1 ⟨rfl, hb1⟩; have Hb1 := Lib.hid hb1; clear hb1)
  go_ret
  exact ⟨rfl, Hb1.out⟩

theorem FrameNexts_walk {H : Type} {enc : TypeId × Value → H} (W : World) (base : Nat) {v0 : Value} {d0 : DataW H} {p0 : List MemPlace}
    (k0 : Value.okWide Tryd.prog W .any base 22 v0) (h0 : DataW.Trod enc Tryd.prog W 0 (fun _ => true) true 22 v0 d0 p0) (ht : Tb W) :
    Calls Tryd.prog 4 #[v0] W (Yes W) := by
  obtain ⟨A, n, c, l, rfl, hr, _, hc, hm⟩ := ar_bytes' k0 h0
  by_cases hn : n ≤ 20000
  · by_cases hx : nxE l = 0
    · obtain ⟨ad, rfl, _⟩ := hr.cellAt (k := 0) (by have := nx_ok_len hx; have := hr.1; omega)
      exact FrameNexts_yes ad n c l W hr hc hm ht hn hx
    · exact FrameNexts_no A n c l W hr hc hm ht hn hx
  · exact FrameNexts_big A n c W ht (by omega)
end Go.Proofs.YthidmajlmehopaaDoor
