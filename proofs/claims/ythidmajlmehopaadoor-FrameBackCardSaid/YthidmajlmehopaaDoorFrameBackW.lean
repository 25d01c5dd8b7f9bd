/- The walk of FrameBack. -/
import Derived.Test.YthidmajlmehopaaDoorFrameBackP
namespace Go.Proofs.YthidmajlmehopaaDoor
open Go.ChangeShapes Go.WideShapes Go.ChangeAt Go.RowKit

set_option maxRecDepth 100000 in
set_option maxHeartbeats 2000000 in
theorem FrameBack_core (A : Option Addr) (n c : Nat) (AA : Nat → Option Addr) (LL CC : Nat → Nat) (ls : Nat → List UInt8) (kind : Int) (Ab : Option Addr) (nb cb : Nat) (lb : List UInt8) (W : World)
    (hrs : RdS W W.heap.size A n AA LL CC ls) (hrb : Rd W W.heap.size Ab nb lb) (ht : Tb W) (hn : n ≤ 20) (hnb : nb ≤ 7) :
    Calls Tryd.prog 6 #[.slice A n c, .int .i64 kind, .slice Ab nb cb] W (Yes W) := by
  obtain ⟨i, hi, hz0, hz1, hz2⟩ := info_parts Tryd.infoB
  obtain ⟨i', hi', hz0', hz1', hz2'⟩ := info_parts Tryd.infoI
  have Hrs := Lib.hid hrs
  have Hrb := Lib.hid hrb
  have Hlb := Lib.hid hrb.1
  have Ht := Lib.hid ht
  have Hs := Lib.hid ht.size
  clear hrs hrb ht
  go_enter Tryd.func6, Tryd.ntmps6
  go_wp2_with (go_at_call 9; refine (awake_any W Ht.out).mono ?_; rintro e w1 ⟨rfl, hb1⟩; have Hb1 := Lib.hid hb1; clear hb1)
  go_loopw [8, 9, 10] (fun v8 v9 x wr => ∃ j : Nat, j ≤ n ∧ x = .int .i64 j ∧ Hid (∀ r, r < j → LL r ≤ 500) ∧ (∃ m, m ≤ 512 * j ∧ Hid (wr.ownsRow W.heap.size 5 1 v8 m ((frs (kdF kind) ls j).map bv))) ∧ Hid (wr.ownsRow W.heap.size 3 1 v9 j ((endsL (kdF kind) ls j).map (Value.int .i64))) ∧ Hid (Below W.heap.size W wr)) (fun _ _ x _ => n - (intOf x).toNat)
  case atStart => exact ⟨0, Nat.zero_le _, rfl, fun r hr => by omega, ⟨0, Nat.zero_le _, own_nil _ _⟩, own_nilI _ _, Hb1⟩
  case round =>
    obtain ⟨j, hj, rfl, HLL, ⟨m, hm, Hown8⟩, Hown9, Hb⟩ := hrel
    by_cases hlt : j < n
    · obtain ⟨ad, hA, hadB, hcell, hrow⟩ := (Hrs.out.below Hb.out) j hlt
      subst hA
      obtain ⟨q, hq⟩ : ∃ q, q = LL j := ⟨_, rfl⟩
      rw [← hq] at hcell hrow
      have Hq := Lib.hid hq
      have Hrow := Lib.hid hrow
      clear hq hrow
      by_cases hq5 : q ≤ 500
      · obtain ⟨hkd, hkb⟩ := kdF_ok kind j
        obtain ⟨k, hke⟩ : ∃ k, k = kdF kind j := ⟨_, rfl⟩
        rw [← hke] at hkd hkb
        have Hke := Lib.hid hke
        obtain ⟨L, hL⟩ : ∃ L, L = q + 12 := ⟨_, rfl⟩
        have HL := Lib.hid hL
        have hLq : ((L : Int) != (q : Int) + 12) = false := by rw [hL]; simp
        have hLb : L ≤ 512 := by omega
        clear hke hL
        go_wp2_with fail
        refine (MakeL k k (AA j) q (CC j) L (ls j) _ rfl hkb HL.out (by omega) (Hrow.out.more Hb.out.size) (Ht.out.below Hb.out Hs.out)).mono ?_
        rintro e w2 ⟨g, cf, rfl, hcf, hmf, hown2, hg, hb2⟩
        have Hr2 := Lib.hid (Rd.own hown2)
        have Hb2 := Lib.hid (Hb.out.trans (hb2.mono Hb.out.size))
        have Hown8' := Lib.hid (ownsRow_below Hown8.out hb2)
        have Hown9' := Lib.hid (ownsRow_below Hown9.out hb2)
        have hcell2 : w2.cell? (ad.add j) = some (.slice (AA j) q (CC j)) := (hb2.cell (by rw [addB]; exact Nat.lt_of_lt_of_le hadB Hb.out.size)).trans hcell
        have Hs2 := Lib.hid Hb2.out.size
        have HA1 : Hid (j + 1 ≤ maxLen) := by show j + 1 ≤ maxLen; simp only [maxLen]; omega
        have HA2 : Hid ((j + 1) * 8 ≤ 140737488355328) := by show (j + 1) * 8 ≤ 140737488355328; omega
        clear hown2 hb2 hmf hg hcell
        go_wp2_with (first
          | (at_builtin; refine wpList_append_rd rfl (.tmp 66) (.tmp 67) 22 rfl W.heap.size 5 i (.int .u8 0) 1 Tryd.underlying22 hi hz0 hz1 hz2 rfl _ m _ rfl Hown8'.out _ L cf ((mkF k (ls j)).map bv) rfl (by rw [List.length_map, Hr2.out.1]) Hr2.out.src (bv_one _) (by simp only [maxLen]; omega) (by omega) Hs2.out ?_; intro v3 w3 hown3 hg3; rw [← List.map_append] at hown3; have Hb3 := Lib.hid (Hb2.out.grown hg3 Hs2.out (fun q hq => (Hown8'.out.lt q hq).1)); have Hown93 := Lib.hid (Hown9'.out.kept hg3 (own_ne Hown8'.out Hown9'.out (by decide))); obtain ⟨A3, c3, rfl, _, _⟩ := ownsRow_form hown3; have Hown3 := Lib.hid hown3; have Hs3 := Lib.hid Hb3.out.size; clear hown3 hg3)
          | (at_builtin; refine wpList_append_own _ rfl (.tmp 69) (.tmp 72) 36 rfl W.heap.size 3 i' (.int .i64 0) 1 8 Tryd.underlying36 hi' hz0' hz1' hz2' rfl (by decide) _ _ _ rfl (Hown93.out.alloc _) ⟨w3.heap.size, 0, none⟩ 1 1 [.int .i64 ((m : Int) + (L : Int))] rfl rfl (one_new _ _ _) (one_cell _) HA1.out HA2.out (Nat.le_trans Hs3.out (le_alloc _ _)) ?_; intro v4 w4 hown4 hg4 _; have Hb4 := Lib.hid (own_below Hb3.out Hown93.out hg4); have Hown84 := Lib.hid (own_kept Hown3.out Hown93.out hg4); have Hown4 := Lib.hid hown4; clear hown4 hg4))
        have hmL : m + L ≤ 512 * (j + 1) := by omega
        have hown8 : w4.ownsRow W.heap.size 5 1 (.slice A3 (m + L) c3) (m + L) ((frs (kdF kind) ls (j + 1)).map bv) := by
          rw [frs_succ, ← Hke.out]; exact Hown84.out
        have hown9 : w4.ownsRow W.heap.size 3 1 v4 (j + 1) ((endsL (kdF kind) ls (j + 1)).map (Value.int .i64)) := by
          have e : ((frs (kdF kind) ls (j + 1)).length : Int) = (m : Int) + (L : Int) := by
            have := hown8.1
            simp at this
            omega
          rw [endsL_succ, List.map_append, e]; exact Hown4.out
        have hLL : ∀ r, r < j + 1 → LL r ≤ 500 := fun r hr => by
          by_cases h : r < j
          · exact HLL.out r h
          · obtain rfl : r = j := by omega
            rw [← Hq.out]; exact hq5
        have H8 := Lib.hid hown8
        have H9 := Lib.hid hown9
        have HLL2 := Lib.hid hLL
        clear hown8 hown9 hLL hcell2 hLq hkd
        go_wp2
        go_roundw
        case rel => exact ⟨j + 1, by omega, by go_num, HLL2, ⟨_, hmL, H8⟩, H9, Hb4⟩
        case measure => simp [intOf]; omega
      · go_wp2_with fail
        go_ret
        exact ⟨rfl, Hb.out⟩
    · obtain rfl : j = n := by omega
      have Hs9 := Lib.hid Hb.out.size
      have hlen : ∀ r, r < j → (ls r).length ≤ 500 := fun r hr => by
        obtain ⟨_, _, _, _, h⟩ := Hrs.out r hr
        rw [h.1]; exact HLL.out r hr
      have Hlen := Lib.hid hlen
      have hwh := wh_all (kdF kind) ls lb j (by rw [Hlb.out]; exact hnb) (fun r hr => Nat.le_trans (hlen r hr) (by decide))
      have Hwh := Lib.hid hwh
      have hown9 := Hown9.out
      obtain ⟨A9, c9, rfl, hc9, hm9⟩ := ownsRow_form hown9
      clear hown9 hlen hwh hc9 hm9
      go_wp2_with (at_builtin; refine wpList_append_rd rfl (.tmp 74) (.tmp 75) 22 rfl W.heap.size 5 i (.int .u8 0) 1 Tryd.underlying22 hi hz0 hz1 hz2 rfl _ m _ rfl Hown8.out Ab nb cb (lb.map bv) rfl (by rw [List.length_map, Hlb.out]) (Hrb.out.below Hb.out).src (bv_one _) (by simp only [maxLen]; omega) (by omega) Hs9.out ?_; intro v3 w3 hown3 hg3; rw [← List.map_append] at hown3; have Hb3 := Lib.hid (Hb.out.grown hg3 Hs9.out (fun q hq => (Hown8.out.lt q hq).1)); have Hown93 := Lib.hid (Hown9.out.kept hg3 (own_ne Hown8.out Hown9.out (by decide))); obtain ⟨A3, c3, rfl, hc3, hm3⟩ := ownsRow_form hown3; have Hown3 := Lib.hid hown3; have Hs3 := Lib.hid Hb3.out.size; clear hown3 hg3)
      have Hr3 := Lib.hid (Rd.own Hown3.out)
      have Hr93 := Lib.hid (RdI.own Hown93.out)
      have hm3b : c3 ≤ 9223372036854775807 := by simpa [maxLen] using hm3
      clear hm3
      refine (Whole_any A3 (m + nb) c3 _ _ Hr3.out (by omega) hc3 hm3b (Ht.out.below Hb3.out Hs.out)).mono ?_
      rintro e w4 ⟨v4, m4, rfl, hown4, hb4⟩
      obtain ⟨A4, c4, rfl, hc4, hm4⟩ := ownsRow_form hown4
      have hr4 := RdI.own hown4
      rw [Hwh.out] at hr4
      have Hr4 := Lib.hid hr4
      have Hr94 := Lib.hid (Hr93.out.below hb4)
      have Hr34 := Lib.hid ((Hr3.out.below hb4).more hb4.size)
      have Hb4 := Lib.hid (Hb3.out.trans (hb4.mono Hb3.out.size))
      have hm4b : m4 ≤ 9223372036854775807 := by simp only [maxLen] at hm4; omega
      clear hown4 hb4 hr4 hc4 hm4
      go_wp2_with fail
      refine (Ints_any A4 A9 m4 c4 j c9 _ _ _ _ _ Hr4.out Hr94.out hm4b (by omega)).mono ?_
      rintro e w5 ⟨rfl, q, rfl⟩
      rw [decide_eq_true rfl]
      have Hb5 := Lib.hid (belowDrewN Hb4.out q)
      have hr5 : Rd (w4.drewN q) (w4.drewN q).heap.size A3 (m + nb) (tlF (kdF kind) ls lb j 0) := Hr34.out
      have Hr5 := Lib.hid hr5
      clear hr5
      go_wp2_with fail
      go_loopw [8, 13] (fun v x wr => ∃ t : Nat, t ≤ j ∧ x = .int .i64 t ∧ (∃ A8 n8 c8, v = .slice A8 n8 c8 ∧ n8 ≤ 20000 ∧ n8 ≤ c8 ∧ c8 ≤ 9223372036854775807 ∧ Hid (Rd wr wr.heap.size A8 n8 (tlF (kdF kind) ls lb j t))) ∧ Hid (Below W.heap.size W wr)) (fun _ x _ => j - (intOf x).toNat)
      case atStart => exact ⟨0, Nat.zero_le _, rfl, ⟨A3, m + nb, c3, rfl, by omega, hc3, hm3b, Hr5⟩, Hb5⟩
      case round =>
        obtain ⟨t, ht, rfl, ⟨A8, n8, c8, rfl, hn8, hc8, hm8, Hr8⟩, Hbt⟩ := hrel
        by_cases hlt2 : t < j
        · obtain ⟨ad, hA, hadB, hcell, hrow⟩ := (Hrs.out.below Hbt.out) t hlt2
          subst hA
          have hst := tlF_step (kdF kind) ls lb hlt2
          have hlb2 : (ls t).length ≤ 8192 := Nat.le_trans (Hlen.out t hlt2) (by decide)
          have hx0 : nxE (tlF (kdF kind) ls lb j t) = 0 := by rw [hst]; exact nx_mk _ _ _ hlb2
          have hcn : cntF (tlF (kdF kind) ls lb j t) = (ls t).length := by rw [hst]; exact cnt_mk _ _ _ hlb2
          have hbd : ((tlF (kdF kind) ls lb j t).drop 8).take (ls t).length = ls t := by
            have h := body_mk (kdF kind t) (ls t) (tlF (kdF kind) ls lb j (t + 1)) hlb2
            rw [cnt_mk _ _ _ hlb2, ← hst] at h
            exact h
          have hre : (tlF (kdF kind) ls lb j t).drop ((ls t).length + 12) = tlF (kdF kind) ls lb j (t + 1) := by rw [hst]; exact rest_mk _ _ _
          obtain ⟨hkd, hkb⟩ := kdF_ok kind t
          obtain ⟨k, hke⟩ : ∃ k, k = kdF kind t := ⟨_, rfl⟩
          rw [← hke] at hkd hkb
          have hk1 : (((tlF (kdF kind) ls lb j t).getD 1 0).toNat : Int) = (k : Int) := by
            rw [hst, kind_mk, ← hke, UInt8.toNat_ofNat']; omega
          have Hx0 := Lib.hid hx0
          have Hcn := Lib.hid hcn
          have Hbd := Lib.hid hbd
          have Hre := Lib.hid hre
          have Hk1 := Lib.hid hk1
          have Hrow := Lib.hid hrow
          clear hst hlb2 hx0 hcn hbd hre hke hk1 hrow
          go_wp2_with fail
          refine (Next_yes A8 n8 c8 _ _ Hr8.out (by omega) hc8 hm8 (Ht.out.below Hbt.out Hs.out) Hx0.out).mono ?_
          rintro e w6 ⟨A1, c1, A2, c2, m1, m2, hm1, hm2, rfl, hown1, hc1, _, hown2, hc2, hm2', hb6⟩
          rw [Hk1.out]
          rw [Hcn.out] at hm1 hm2 hown1 hown2
          rw [Hbd.out] at hown1
          rw [Hre.out] at hown2
          have hm2n : m2 ≤ n8 := by have := Hr8.out.1; omega
          have hr1 := Rd.own hown1
          have Hr2 := Lib.hid (Rd.own hown2)
          have Hb6 := Lib.hid (Hbt.out.trans (hb6.mono Hbt.out.size))
          have hcv1 := fun q => str_any (c := c1) (hr1.drewN q)
          have hcv2 := fun q => str_any (c := CC t) ((Hrow.out.below (hb6.mono Hbt.out.size)).drewN q)
          have hcell6 : w6.cell? (ad.add t) = some (.slice (AA t) (LL t) (CC t)) := (hb6.cell (by rw [addB]; exact Nat.lt_of_lt_of_le hadB Hbt.out.size)).trans hcell
          have hm2b : c2 ≤ 9223372036854775807 := by simpa [maxLen] using hm2'
          clear hm1 hm2 hown1 hown2 hr1 hb6 hcell hm2' hc1
          go_wp2_with fail
          go_quiet (fail)
          go_wp2_with fail
          go_roundw
          case rel => exact ⟨t + 1, by omega, by go_num, ⟨A2, m2, c2, rfl, by omega, hc2, hm2b, Hr2.out⟩, belowDrewN Hb6.out _⟩
          case measure => simp [intOf]; omega
        · obtain rfl : t = j := by omega
          have hr9 := Hr8.out
          rw [tlF_end] at hr9
          have hcv1 := str_any (c := c8) hr9
          have hcv2 := str_any (c := cb) (Hrb.out.below Hbt.out)
          clear hr9
          go_wp2_with fail
          go_ret
          exact ⟨rfl, Hbt.out⟩

set_option maxHeartbeats 1000000 in
theorem FrameBack_big (A : Option Addr) (n c : Nat) (kind : Int) (Ab : Option Addr) (nb cb : Nat) (W : World) (ht : Tb W) (hn : 20 < n ∨ 7 < nb) :
    Calls Tryd.prog 6 #[.slice A n c, .int .i64 kind, .slice Ab nb cb] W (Yes W) := by
  have Ht := Lib.hid ht
  clear ht
  by_cases h20 : 20 < n
  · clear hn
    go_enter Tryd.func6, Tryd.ntmps6
    go_wp2_with (go_at_call 9; refine (awake_any W Ht.out).mono ?_; rintro e w1 ⟨rfl, hb1⟩; have Hb1 := Lib.hid hb1; clear hb1)
    go_ret
    exact ⟨rfl, Hb1.out⟩
  · have h7 : 7 < nb := by omega
    clear hn
    go_enter Tryd.func6, Tryd.ntmps6
    go_wp2_with (go_at_call 9; refine (awake_any W Ht.out).mono ?_; rintro e w1 ⟨rfl, hb1⟩; have Hb1 := Lib.hid hb1; clear hb1)
    go_ret
    exact ⟨rfl, Hb1.out⟩

theorem FrameBack_walk {H : Type} {enc : TypeId × Value → H} (W : World) (base : Nat) {v0 v1 v2 : Value} {d0 : DataW H} {p0 : List MemPlace} {d1 : DataW H} {p1 : List MemPlace} {d2 : DataW H} {p2 : List MemPlace}
    (k0 : Value.okWide Tryd.prog W .any base 38 v0) (h0 : DataW.Trod enc Tryd.prog W 0 (fun _ => true) true 38 v0 d0 p0) (k1 : Value.okWide Tryd.prog W .any base 3 v1) (h1 : DataW.Trod enc Tryd.prog W 0 (fun _ => true) true 3 v1 d1 p1) (k2 : Value.okWide Tryd.prog W .any base 22 v2) (h2 : DataW.Trod enc Tryd.prog W 0 (fun _ => true) true 22 v2 d2 p2) (ht : Tb W) :
    Calls Tryd.prog 6 #[v0, v1, v2] W (Yes W) := by
  obtain ⟨A, n, c, AA, LL, CC, ls, rfl, hrs⟩ := ar_rows k0 h0
  obtain ⟨z, rfl, _⟩ := ar_int Tryd.underlying3 k1 h1
  obtain ⟨Ab, nb, cb, lb, rfl, hrb, _, _, _⟩ := ar_bytes' k2 h2
  by_cases hn : n ≤ 20 ∧ nb ≤ 7
  · exact FrameBack_core A n c AA LL CC ls z Ab nb cb lb W hrs hrb ht hn.1 hn.2
  · exact FrameBack_big A n c z Ab nb cb W ht (by omega)
end Go.Proofs.YthidmajlmehopaaDoor
