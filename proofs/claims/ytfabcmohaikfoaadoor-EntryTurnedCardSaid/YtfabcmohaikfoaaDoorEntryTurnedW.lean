/- The walk of EntryTurned. Written by wip/genel.py. -/
import Derived.Test.YtfabcmohaikfoaaDoorEnY
import Derived.Deep.RegionHeld3
import Derived.Deep.RegionWith
namespace Go.Proofs.YtfabcmohaikfoaaDoor
open Go.ChangeShapes Go.WideShapes Go.ChangeAt Go.RowKit

set_option maxRecDepth 10000 in
set_option maxHeartbeats 2000000 in
theorem EntryTurned_skip (X : En) (A : Option Addr) (c : Nat) (at_ : Int) (b2 : Nat) (W : World) (hr : Rd W W.heap.size A X.d.length X.d) (ht : T7 W) (hs : 1000 < X.d.length ∨ ¬ May7 X) :
    Calls Tryd.prog 7 #[EV X A c, .int .i64 at_, .int .u8 b2] W (Yes W) := by
  have Ht := Lib.hid ht
  have Hr := Lib.hid hr
  clear ht hr
  have Hb := al7 W (.cells #[.int .i64 X.s, .int .i64 X.o, .int .i64 X.k, .int .i64 X.f, .int .i64 X.l, .int .i64 X.p, .slice A X.d.length c] 24)
  have HE := Lib.hid (heap_alloc_new W (.cells #[.int .i64 X.s, .int .i64 X.o, .int .i64 X.k, .int .i64 X.f, .int .i64 X.l, .int .i64 X.p, .slice A X.d.length c] 24))
  go_enter Tryd.func7, Tryd.ntmps7
  go_upto_region 1 with fail
  generalize W.alloc (.cells #[.int .i64 X.s, .int .i64 X.o, .int .i64 X.k, .int .i64 X.f, .int .i64 X.l, .int .i64 X.p, .slice A X.d.length c] 24) = w1 at Hb HE ⊢
  obtain ⟨b, hbe⟩ : ∃ b, b = W.heap.size := ⟨_, rfl⟩
  rw [← hbe] at HE ⊢
  clear hbe
  have HA := Lib.hid (awake7 w1 (Ht.out.to Hb.out))
  go_wp2_with fail
  refine HA.out.mono ?_
  rintro e w2 ⟨rfl, hb⟩
  replace HE := blk7 HE hb
  have HB := bel7 Hb hb
  clear hb HA Hb
  obtain ⟨c0, c1, c2, c3, c4, c5, c6⟩ := ents_of HE.out
  clear Hr
  by_cases h : 1000 < X.d.length
  · have h2 : (1000 : Int) < (X.d.length : Int) := by omega
    clear hs
    go_wp2_with fail
    go_ret
    exact ⟨by first | rfl | simp, HB.out⟩
  · have h2 : (X.d.length : Int) ≤ 1000 := by omega
    have HC := Lib.hid (xCheck X A c w2)
    have He := Lib.hid (show may7E X = 70 by unfold may7E; rw [if_neg (hs.resolve_left h)])
    rw [He.out] at HC
    clear hs
    go_wp2_with fail
    refine HC.out.mono ?_
    rintro r w3 ⟨rfl, hb⟩
    replace HB := bel7 HB hb
    go_wp2_with fail
    go_ret
    exact ⟨by first | rfl | simp, HB.out⟩

set_option maxRecDepth 10000 in
set_option maxHeartbeats 2000000 in
theorem EntryTurned_core (X : En) (A : Option Addr) (c : Nat) (at_ : Int) (b2 : Nat) (W : World) (hr : Rd W W.heap.size A X.d.length X.d) (ht : T7 W) (hn : X.d.length ≤ 1000) (hM : May7 X) :
    Calls Tryd.prog 7 #[EV X A c, .int .i64 at_, .int .u8 b2] W (Yes W) := by
  obtain ⟨PK, hPK⟩ : ∃ PK, PK = pack7 X := ⟨_, rfl⟩
  have HPk := Lib.hid (fun (w : World) (h : Rd w w.heap.size A X.d.length X.d) (ht : T7 w) => xPack (c := c) h (by omega) ht)
  rw [← hPK] at HPk
  obtain ⟨L, hL⟩ : ∃ L, L = PK.length := ⟨_, rfl⟩
  have hlen : PK.length = (bod7 (cln7 X)).length + 12 := by rw [hPK, pack_yes hM]; exact mkF_length _ _
  have hL12 : 12 ≤ L := by omega
  have hLb : L ≤ 154 := by have := pack_len hM; omega
  have Hcut := Lib.hid (fun j (h : j < L) => show unE7 (PK.take j) = 10 by rw [hPK]; exact un_cut hM j (by rw [← hPK, ← hL]; exact h))
  have Hmore := Lib.hid (fun x => show unE7 (PK ++ [x]) = 11 by rw [hPK]; exact un_more hM x)
  have Hturn := Lib.hid (fun j (h : j < PK.length) x (hx : x ≠ PK[j]) => show unE7 (PK.set j x) = 20 ∨ unE7 (PK.set j x) = 11 by subst hPK; exact un_turn hM j h x hx)
  obtain ⟨k, hk, hkL⟩ := and_rem7 at_ L (by omega)
  have HL := Lib.hid hL
  have He := Lib.hid (show may7E X = 0 by unfold may7E; rw [if_pos hM])
  have hn2 : (X.d.length : Int) ≤ 1000 := by omega
  clear hPK hL hlen hM
  have Ht := Lib.hid ht
  have Hr := Lib.hid hr
  clear ht hr
  have Hb := al7 W (.cells #[.int .i64 X.s, .int .i64 X.o, .int .i64 X.k, .int .i64 X.f, .int .i64 X.l, .int .i64 X.p, .slice A X.d.length c] 24)
  have HE := Lib.hid (heap_alloc_new W (.cells #[.int .i64 X.s, .int .i64 X.o, .int .i64 X.k, .int .i64 X.f, .int .i64 X.l, .int .i64 X.p, .slice A X.d.length c] 24))
  go_enter Tryd.func7, Tryd.ntmps7
  go_upto_region 1 with fail
  generalize W.alloc (.cells #[.int .i64 X.s, .int .i64 X.o, .int .i64 X.k, .int .i64 X.f, .int .i64 X.l, .int .i64 X.p, .slice A X.d.length c] 24) = w1 at Hb HE ⊢
  obtain ⟨b, hbe⟩ : ∃ b, b = W.heap.size := ⟨_, rfl⟩
  rw [← hbe] at HE ⊢
  clear hbe
  have HA := Lib.hid (awake7 w1 (Ht.out.to Hb.out))
  go_wp2_with fail
  refine HA.out.mono ?_
  rintro e w2 ⟨rfl, hb⟩
  replace HE := blk7 HE hb
  have HB := bel7 Hb hb
  clear hb HA Hb
  obtain ⟨c0, c1, c2, c3, c4, c5, c6⟩ := ents_of HE.out
  have HC := Lib.hid (xCheck X A c w2)
  rw [He.out] at HC
  go_wp2_with fail
  refine HC.out.mono ?_
  rintro r w3 ⟨rfl, hb⟩
  replace HE := blk7 HE hb
  replace HB := bel7 HB hb
  clear hb HC c0 c1 c2 c3 c4 c5 c6
  obtain ⟨c0, c1, c2, c3, c4, c5, c6⟩ := ents_of HE.out
  go_wp2_with fail
  refine (HPk.out w3 (rdW7 Hr HB) (Ht.out.to HB.out)).mono ?_
  rintro r w4 ⟨A4, k4, rfl, ho4, hc4, hk4, hb⟩
  rw [← HL.out] at hc4 ho4 ⊢
  have Hw3 := Lib.hid HB.out.size
  replace HB := bel7 HB hb
  obtain ⟨g, rfl, hg1, hg2⟩ := own_g7 ho4.out (by omega)
  have Hg := Lib.hid (show W.heap.size ≤ g by have := Hw3.out; omega)
  have HO := Lib.hid (ownsRow_base ho4.out Hw3.out)
  clear hb c0 c1 c2 c3 c4 c5 c6 HE hg1 hg2 ho4 HPk Hr
  have hL12' : (12 : Int) ≤ (L : Int) := by omega
  have hkL' : (k : Int) < (L : Int) := by omega
  have hkL3 : (k : Int) ≤ (k4 : Int) := by omega
  have Hut := Lib.hid (Hcut.out k hkL)
  have Hrt := Lib.hid ((Rd.own HO.out).take (Nat.le_of_lt hkL))
  go_wp2_with fail
  refine (xUnpackNo Hut.out (by decide) Hrt.out (by omega) (by omega) hk4 (Ht.out.to HB.out)).mono ?_
  rintro r w5 ⟨A5, k5, rfl, _, hk5, hb⟩
  replace HO := Lib.hid (ownsRow_below HO.out hb.out)
  replace HB := bel7 HB hb
  clear hb Hut Hrt
  go_upto_region 11 with fail
  have Ha := al7 w5 (.cells #[.int .i64 0, .int .i64 0, .int .i64 0, .int .i64 0, .int .i64 0, .int .i64 0, .slice A5 0 k5] 24)
  replace HO := Lib.hid (ownsRow_below HO.out Ha.out)
  replace HB := bel7 HB Ha
  clear Ha
  generalize w5.alloc (.cells #[.int .i64 0, .int .i64 0, .int .i64 0, .int .i64 0, .int .i64 0, .int .i64 0, .slice A5 0 k5] 24) = w6 at HO HB ⊢
  obtain ⟨i, hi, hz0, hz1, hz2⟩ := info_parts Tryd.infoB
  obtain ⟨x, hx⟩ : ∃ x : UInt8, IntKind.u8.wrap at_ = (x.toNat : Int) := ⟨UInt8.ofNat (IntKind.u8.wrap at_).toNat, by rw [UInt8.toNat_ofNat', IntKind.wrap_u8]; omega⟩
  have hx2 : at_ % 256 = (x.toNat : Int) := by rw [← hx, IntKind.wrap_u8]
  have hxl := x.toNat_lt
  have hown0 : (w6.alloc (.cells #[] 5)).ownsRow w6.heap.size 5 1 (.slice (some ⟨w6.heap.size, 0, none⟩) 0 0) 0 (([] : List UInt8).map bv) := World.ownsRow_lit (base := w6.heap.size) (e := 5) (size := 1) w6 #[] 0 (Nat.le_refl _) (by simp only [maxLen]; omega) rfl
  have Hown0 := Lib.hid hown0
  have HrP := Lib.hid (Rd.own HO.out)
  clear hown0
  go_wp2_with (first
    | (at_builtin; refine wpList_append_rd rfl (.tmp 46) (.tmp 47) 22 rfl w6.heap.size 5 i (.int .u8 0) 1 Tryd.underlying22 hi hz0 hz1 hz2 rfl _ 0 _ rfl Hown0.out (some ⟨g, 0, none⟩) L k4 (PK.map bv) rfl (by rw [List.length_map, HL.out]) (HrP.out.alloc (Nat.le_refl _) _).src (bv_one _) (by simp only [maxLen]; omega) (by omega) (by simp) ?_; intro v7 w7 hown2 hg2; rw [← List.map_append] at hown2; have Hb2 := Lib.hid (((Below.refl _ w6).alloc (Nat.le_refl _) _).grown hg2 (by simp) (fun q hq => (Hown0.out.lt q hq).1)); have Hown2 := Lib.hid hown2; clear hown2 hg2)
    | (at_builtin; refine wpList_append_rd rfl (.tmp 48) (.tmp 51) 22 rfl w6.heap.size 5 i (.int .u8 0) 1 Tryd.underlying22 hi hz0 hz1 hz2 rfl _ _ _ rfl (Hown2.out.alloc _) (some ⟨w7.heap.size, 0, none⟩) 1 1 (([x] : List UInt8).map bv) rfl rfl (Rd_lit w7 5 [x]).src (bv_one _) (by simp only [maxLen]; omega) (by omega) (by have := Hb2.out.size; simp; omega) ?_; intro v8 w8 hown3 hg3; rw [← List.map_append] at hown3; have Hb3 := Lib.hid ((Hb2.out.alloc Hb2.out.size _).grown hg3 (by have := Hb2.out.size; simp; omega) (fun q hq => (Hown2.out.lt q hq).1)); obtain ⟨A8, k8, rfl, hc8, hm8⟩ := ownsRow_form hown3; have Hown3 := Lib.hid hown3; clear hown3 hg3))
  have hk8 : k8 ≤ 9223372036854775807 := by simpa [maxLen] using hm8
  have Hr8 : Hid (Rd w8 w8.heap.size A8 (L + 1) (PK ++ [x])) := by
    have h := Rd.own Hown3.out
    rw [List.nil_append, Nat.zero_add] at h
    exact h
  rw [Nat.zero_add] at hc8
  replace HO := Lib.hid (ownsRow_below HO.out Hb3.out)
  replace HB := bel7 HB Hb3
  clear Hown0 Hown2 Hown3 Hb2 Hb3 hx hx2 hm8 HrP
  have Hut := Lib.hid (Hmore.out x)
  refine (xUnpackNo Hut.out (by decide) Hr8.out (by omega) hc8 hk8 (Ht.out.to HB.out)).mono ?_
  rintro r w9 ⟨A9, k9, rfl, _, hk9, hb⟩
  replace HO := Lib.hid (ownsRow_below HO.out hb.out)
  replace HB := bel7 HB hb
  clear hb Hut Hr8
  go_upto_region 12 with fail
  have Ha := al7 w9 (.cells #[.int .i64 0, .int .i64 0, .int .i64 0, .int .i64 0, .int .i64 0, .int .i64 0, .slice A9 0 k9] 24)
  replace HO := Lib.hid (ownsRow_below HO.out Ha.out)
  replace HB := bel7 HB Ha
  clear Ha
  generalize w9.alloc (.cells #[.int .i64 0, .int .i64 0, .int .i64 0, .int .i64 0, .int .i64 0, .int .i64 0, .slice A9 0 k9] 24) = w10 at HO HB ⊢
  have hkP : k < PK.length := by rw [← HL.out]; exact hkL
  obtain ⟨z, hz⟩ : ∃ z, z = PK[k]'hkP := ⟨_, rfl⟩
  have hcell : w10.cell? ⟨g, k, none⟩ = some (.int .u8 (z.toNat : Int)) := by
    rw [HO.out.cellAt k (by omega), List.getElem?_map, List.getElem?_eq_getElem hkP, ← hz]; rfl
  have hfr := HO.out.frozenAt k
  have hzl := z.toNat_lt
  obtain ⟨y, hy, hyx⟩ := turn_bit7 z b2
  have Hy := Lib.hid hy
  have hst := (HO.out.stored k (.int .u8 (y.toNat : Int))).1
  have hset : (PK.map bv).set k (.int .u8 (y.toNat : Int)) = (PK.set k y).map bv := by rw [List.map_set]; rfl
  rw [hset] at hst
  have Hst := Lib.hid hst
  have Hb4 : Hid (Below W.heap.size W (w10.setCell ⟨g, k, none⟩ (.int .u8 (y.toNat : Int)))) := HB.out.setCell (p := ⟨g, k, none⟩) Hg.out _
  have Hut := Lib.hid (Hturn.out k hkP y (by rw [← hz]; exact hyx))
  have hk0 : (0 : Int) ≤ (k : Int) := by omega
  have hk00 : (0 : Int) ≤ (b2 : Int) := by omega
  clear hz hy hyx hst hset hkP HO HB
  go_upto_region 13 with fail
  rw [Hy.out]
  generalize w10.setCell ⟨g, k, none⟩ (.int .u8 (y.toNat : Int)) = w11 at Hst Hb4 ⊢
  have HrT := Lib.hid (Rd.own Hst.out)
  clear hcell hfr Hy Hst HL Hcut Hmore Hturn
  generalize PK.set k y = QK at HrT Hut
  have HS : Hid (∀ (w : World) (A c), Rd w w.heap.size A 0 [] → Val7 12 #[eV 0 0 0 0 0 0 A 0 c, eV 0 0 0 0 0 0 none 0 0] w (.bool true)) := fun w A c h => RSame7 0 0 0 0 0 0 A 0 c [] 0 0 0 0 0 0 none 0 0 [] w h Rd.nil
  have key : ∀ E : Int, unE7 QK = E → E ≠ 0 → Hid (Calls Tryd.prog 15 #[.slice (some ⟨g, 0, none⟩) L k4] w11 fun r w' => ∃ A c, r = .returned (.tuple #[eV 0 0 0 0 0 0 A 0 c, .int .i64 E]) ∧ Hid (Rd w' w'.heap.size A 0 []) ∧ c ≤ 9223372036854775807 ∧ Hid (Below w11.heap.size w11 w')) := fun E h h0 =>
    xUnpackNo h h0 HrT.out (by omega) (by omega) hk4 (Ht.out.to Hb4.out)
  rcases Hut.out with h | h
  · have HU := key 20 h (by decide)
    clear key h HrT Hut
    go_wp2_with fail
    refine HU.out.mono ?_
    rintro r w12 ⟨A12, k12, rfl, hr12, hk12, hb⟩
    replace Hb4 := bel7 Hb4 hb
    clear hb HU
    go_upto_region 14 with fail
    have HX := Lib.hid (heap_alloc_new w12 (.cells #[.int .i64 0, .int .i64 0, .int .i64 0, .int .i64 0, .int .i64 0, .int .i64 0, .slice A12 0 k12] 24))
    have Ha := al7 w12 (.cells #[.int .i64 0, .int .i64 0, .int .i64 0, .int .i64 0, .int .i64 0, .int .i64 0, .slice A12 0 k12] 24)
    replace hr12 := rdk7 hr12 Ha
    replace Hb4 := bel7 Hb4 Ha
    clear Ha
    generalize w12.alloc (.cells #[.int .i64 0, .int .i64 0, .int .i64 0, .int .i64 0, .int .i64 0, .int .i64 0, .slice A12 0 k12] 24) = w13 at HX hr12 Hb4 ⊢
    obtain ⟨xb, hxb⟩ : ∃ xb, xb = w12.heap.size := ⟨_, rfl⟩
    rw [← hxb] at HX ⊢
    clear hxb
    obtain ⟨c0, c1, c2, c3, c4, c5, c6⟩ := ents_of HX.out
    go_wp2_with fail
    refine (HS.out w13 A12 k12 hr12.out).mono ?_
    rintro r w14 ⟨rfl, hb⟩
    replace Hb4 := bel7 Hb4 hb
    go_wp2_with fail
    go_ret
    exact ⟨by first | rfl | simp, Hb4.out⟩
  · have HU := key 11 h (by decide)
    clear key h HrT Hut
    go_wp2_with fail
    refine HU.out.mono ?_
    rintro r w12 ⟨A12, k12, rfl, hr12, hk12, hb⟩
    replace Hb4 := bel7 Hb4 hb
    clear hb HU
    go_upto_region 14 with fail
    have HX := Lib.hid (heap_alloc_new w12 (.cells #[.int .i64 0, .int .i64 0, .int .i64 0, .int .i64 0, .int .i64 0, .int .i64 0, .slice A12 0 k12] 24))
    have Ha := al7 w12 (.cells #[.int .i64 0, .int .i64 0, .int .i64 0, .int .i64 0, .int .i64 0, .int .i64 0, .slice A12 0 k12] 24)
    replace hr12 := rdk7 hr12 Ha
    replace Hb4 := bel7 Hb4 Ha
    clear Ha
    generalize w12.alloc (.cells #[.int .i64 0, .int .i64 0, .int .i64 0, .int .i64 0, .int .i64 0, .int .i64 0, .slice A12 0 k12] 24) = w13 at HX hr12 Hb4 ⊢
    obtain ⟨xb, hxb⟩ : ∃ xb, xb = w12.heap.size := ⟨_, rfl⟩
    rw [← hxb] at HX ⊢
    clear hxb
    obtain ⟨c0, c1, c2, c3, c4, c5, c6⟩ := ents_of HX.out
    go_wp2_with fail
    refine (HS.out w13 A12 k12 hr12.out).mono ?_
    rintro r w14 ⟨rfl, hb⟩
    replace Hb4 := bel7 Hb4 hb
    go_wp2_with fail
    go_ret
    exact ⟨by first | rfl | simp, Hb4.out⟩

set_option maxRecDepth 10000 in
theorem EntryTurned_walk {H : Type} {enc : TypeId × Value → H} (W : World) (base : Nat) {v0 : Value} {d0 : DataW H} {p0 : List MemPlace} (k0 : Value.okWide Tryd.prog W .any base 24 v0) (h0 : DataW.Trod enc Tryd.prog W 0 (fun _ => true) true 24 v0 d0 p0) {v1 : Value} {d1 : DataW H} {p1 : List MemPlace} (k1 : Value.okWide Tryd.prog W .any base 3 v1) (h1 : DataW.Trod enc Tryd.prog W 0 (fun _ => true) true 3 v1 d1 p1) {v2 : Value} {d2 : DataW H} {p2 : List MemPlace} (k2 : Value.okWide Tryd.prog W .any base 5 v2) (h2 : DataW.Trod enc Tryd.prog W 0 (fun _ => true) true 5 v2 d2 p2) (ht : T7 W) :
    Calls Tryd.prog 7 #[v0, v1, v2] W (Yes W) := by
  obtain ⟨S, O, K, F, L, P, A, n, c, l, rfl, hr, _, _⟩ := ar_entry k0 h0
  obtain rfl := hr.1
  obtain ⟨z, rfl, _⟩ := ar_int Tryd.underlying3 k1 h1
  obtain ⟨b, rfl, _, _, hw⟩ := open_int Tryd.underlying5 k2 h2
  have hb : 0 ≤ b ∧ b ≤ 255 := by simpa [Lit.wf, IntKind.min, IntKind.max, IntKind.signed, IntKind.bits] using hw
  obtain ⟨b, rfl⟩ := Int.eq_ofNat_of_zero_le hb.1
  by_cases hn : 1000 < l.length ∨ ¬ May7 ⟨S, O, K, F, L, P, l⟩
  · exact EntryTurned_skip ⟨S, O, K, F, L, P, l⟩ A c z b W hr ht hn
  exact EntryTurned_core ⟨S, O, K, F, L, P, l⟩ A c z b W hr ht (by show l.length ≤ 1000; omega) (by by_cases q : May7 ⟨S, O, K, F, L, P, l⟩; exact q; exact absurd (Or.inr q) hn)
end Go.Proofs.YtfabcmohaikfoaaDoor
