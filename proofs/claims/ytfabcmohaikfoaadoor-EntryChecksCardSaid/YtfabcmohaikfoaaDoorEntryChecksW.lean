/- The walk of EntryChecks. Written by wip/genel.py. -/
import Derived.Test.YtfabcmohaikfoaaDoorEnX
import Derived.Deep.RegionHeld3
import Derived.Deep.RegionWith
namespace Go.Proofs.YtfabcmohaikfoaaDoor
open Go.ChangeShapes Go.WideShapes Go.ChangeAt Go.RowKit

set_option maxRecDepth 10000 in
set_option maxHeartbeats 2000000 in
theorem EntryChecks_big (X : En) (A : Option Addr) (c : Nat) (W : World) (hr : Rd W W.heap.size A X.d.length X.d) (ht : T7 W) (hbig : 1000 < X.d.length) :
    Calls Tryd.prog 3 #[EV X A c] W (Yes W) := by
  have Ht := Lib.hid ht
  have Hr := Lib.hid hr
  clear ht hr
  have Hb := al7 W (.cells #[.int .i64 X.s, .int .i64 X.o, .int .i64 X.k, .int .i64 X.f, .int .i64 X.l, .int .i64 X.p, .slice A X.d.length c] 24)
  have HE := Lib.hid (heap_alloc_new W (.cells #[.int .i64 X.s, .int .i64 X.o, .int .i64 X.k, .int .i64 X.f, .int .i64 X.l, .int .i64 X.p, .slice A X.d.length c] 24))
  go_enter Tryd.func3, Tryd.ntmps3
  go_upto_region 1 with fail
  generalize W.alloc (.cells #[.int .i64 X.s, .int .i64 X.o, .int .i64 X.k, .int .i64 X.f, .int .i64 X.l, .int .i64 X.p, .slice A X.d.length c] 24) = w1 at Hb HE ⊢
  obtain ⟨b, hbe⟩ : ∃ b, b = W.heap.size := ⟨_, rfl⟩
  rw [← hbe] at HE ⊢
  clear hbe
  have HA := Lib.hid (awake7 w1 (Ht.out.to Hb.out))
  go_wp2_with fail
  refine HA.out.mono ?_
  rintro e w2 ⟨rfl, hb⟩
  replace HE := blk7 HE hb
  have HB := bel7 Hb hb
  clear hb HA Hb
  obtain ⟨c0, c1, c2, c3, c4, c5, c6⟩ := ents_of HE.out
  clear Hr
  have hbig2 : (1000 : Int) < (X.d.length : Int) := by omega
  go_wp2_with fail
  go_ret
  exact ⟨by first | rfl | simp, HB.out⟩

set_option maxRecDepth 10000 in
set_option maxHeartbeats 4000000 in
theorem EntryChecks_core (X : En) (A : Option Addr) (c : Nat) (W : World) (hr : Rd W W.heap.size A X.d.length X.d) (hc : X.d.length ≤ c) (hm : c ≤ 9223372036854775807) (ht : T7 W) (hn : X.d.length ≤ 1000) :
    Calls Tryd.prog 3 #[EV X A c] W (Yes W) := by
  obtain ⟨Y, hY⟩ : ∃ Y, Y = cln7 X := ⟨_, rfl⟩
  have HCl := Lib.hid (fun (w : World) (h : Rd w w.heap.size A X.d.length X.d) (ht : T7 w) => xClean (c := c) h (by omega) ht)
  have HRl := Lib.hid (fun (w : World) (h : Rd w w.heap.size A X.d.length X.d) => xRClean (c := c) h hc hm)
  rw [← hY] at HCl HRl
  have HS : Hid (∀ (w : World) (A c A' c'), Rd w w.heap.size A Y.d.length Y.d → Rd w w.heap.size A' Y.d.length Y.d → Val7 12 #[EV Y A c, EV Y A' c'] w (.bool true)) := fun w A c A' c' h h' => by
    have q := xSame (c := c) (c' := c') h h'
    rwa [decide_eq_true rfl] at q
  obtain ⟨E, hE⟩ : ∃ E, E = may7E X := ⟨_, rfl⟩
  have HCk := Lib.hid (fun w => xCheck X A c w)
  rw [← hE] at HCk
  have HE7 := Lib.hid hE
  have hn2 : (X.d.length : Int) ≤ 1000 := by omega
  clear hY hE
  have Ht := Lib.hid ht
  have Hr := Lib.hid hr
  clear ht hr
  have Hb := al7 W (.cells #[.int .i64 X.s, .int .i64 X.o, .int .i64 X.k, .int .i64 X.f, .int .i64 X.l, .int .i64 X.p, .slice A X.d.length c] 24)
  have HE := Lib.hid (heap_alloc_new W (.cells #[.int .i64 X.s, .int .i64 X.o, .int .i64 X.k, .int .i64 X.f, .int .i64 X.l, .int .i64 X.p, .slice A X.d.length c] 24))
  go_enter Tryd.func3, Tryd.ntmps3
  go_upto_region 1 with fail
  generalize W.alloc (.cells #[.int .i64 X.s, .int .i64 X.o, .int .i64 X.k, .int .i64 X.f, .int .i64 X.l, .int .i64 X.p, .slice A X.d.length c] 24) = w1 at Hb HE ⊢
  obtain ⟨b, hbe⟩ : ∃ b, b = W.heap.size := ⟨_, rfl⟩
  rw [← hbe] at HE ⊢
  clear hbe
  have HA := Lib.hid (awake7 w1 (Ht.out.to Hb.out))
  go_wp2_with fail
  refine HA.out.mono ?_
  rintro e w2 ⟨rfl, hb⟩
  replace HE := blk7 HE hb
  have HB := bel7 Hb hb
  clear hb HA Hb
  obtain ⟨c0, c1, c2, c3, c4, c5, c6⟩ := ents_of HE.out
  go_upto_region 7 with fail
  have HM := Lib.hid (xMay X A c w2)
  by_cases hM : May7 X
  · have hE : E = 0 := by rw [HE7.out]; unfold may7E; rw [if_pos hM]
    subst hE
    rw [decide_eq_true hM] at HM
    clear hM
    go_wp2_with fail
    refine HM.out.mono ?_
    rintro r w3 ⟨rfl, hb⟩
    replace HE := blk7 HE hb
    replace HB := bel7 HB hb
    clear hb HM c0 c1 c2 c3 c4 c5 c6
    obtain ⟨c0, c1, c2, c3, c4, c5, c6⟩ := ents_of HE.out
    go_upto_region 9 with fail
    go_region_with (first
      | (go_at_call 11; refine (HCk.out _).mono ?_; rintro r w4 ⟨rfl, hb⟩; have HB4 := bel7 HB (drew7 hb); have HE4 := blk7 HE (drew7 hb); have e0 := (ents_of HE4.out).1; have e1 := (ents_of HE4.out).2.1; have e2 := (ents_of HE4.out).2.2.1; have e3 := (ents_of HE4.out).2.2.2.1; have e4 := (ents_of HE4.out).2.2.2.2.1; have e5 := (ents_of HE4.out).2.2.2.2.2.1; have e6 := (ents_of HE4.out).2.2.2.2.2.2; clear hb)
      | (go_at_call 13; refine (HCl.out _ (rdW7 Hr HB4) (Ht.out.to HB4.out)).mono ?_; rintro r w5 ⟨A5, k5, rfl, hr5, hc5, hk5, hb⟩; have HB5 := bel7 HB4 hb; have HE5 := blk7 HE4 hb; have f0 := (ents_of HE5.out).1; have f1 := (ents_of HE5.out).2.1; have f2 := (ents_of HE5.out).2.2.1; have f3 := (ents_of HE5.out).2.2.2.1; have f4 := (ents_of HE5.out).2.2.2.2.1; have f5 := (ents_of HE5.out).2.2.2.2.2.1; have f6 := (ents_of HE5.out).2.2.2.2.2.2; clear hb)
      | (go_at_call 14; refine (HRl.out _ (rdW7 Hr HB5)).mono ?_; rintro r w6 ⟨A6, k6, rfl, hr6, hc6, hk6, hb⟩; have HB6 := bel7 HB5 hb; have hr5b := rdk7 hr5 hb; clear hb)
      | (go_at_call 12; refine (HS.out _ _ _ _ _ hr5b.out hr6.out).mono ?_; rintro r w7 ⟨rfl, hb⟩; have HB7 := bel7 HB6 hb; clear hb))
    all_goals
      go_wp2_with fail
      go_ret
      exact ⟨by first | rfl | simp, HB7.out⟩
  · have hE : E = 70 := by rw [HE7.out]; unfold may7E; rw [if_neg hM]
    subst hE
    rw [decide_eq_false hM] at HM
    clear hM
    go_wp2_with fail
    refine HM.out.mono ?_
    rintro r w3 ⟨rfl, hb⟩
    replace HE := blk7 HE hb
    replace HB := bel7 HB hb
    clear hb HM c0 c1 c2 c3 c4 c5 c6
    obtain ⟨c0, c1, c2, c3, c4, c5, c6⟩ := ents_of HE.out
    go_upto_region 9 with fail
    go_region_with (first
      | (go_at_call 11; refine (HCk.out _).mono ?_; rintro r w4 ⟨rfl, hb⟩; have HB4 := bel7 HB (drew7 hb); have HE4 := blk7 HE (drew7 hb); have e0 := (ents_of HE4.out).1; have e1 := (ents_of HE4.out).2.1; have e2 := (ents_of HE4.out).2.2.1; have e3 := (ents_of HE4.out).2.2.2.1; have e4 := (ents_of HE4.out).2.2.2.2.1; have e5 := (ents_of HE4.out).2.2.2.2.2.1; have e6 := (ents_of HE4.out).2.2.2.2.2.2; clear hb)
      | (go_at_call 13; refine (HCl.out _ (rdW7 Hr HB4) (Ht.out.to HB4.out)).mono ?_; rintro r w5 ⟨A5, k5, rfl, hr5, hc5, hk5, hb⟩; have HB5 := bel7 HB4 hb; have HE5 := blk7 HE4 hb; have f0 := (ents_of HE5.out).1; have f1 := (ents_of HE5.out).2.1; have f2 := (ents_of HE5.out).2.2.1; have f3 := (ents_of HE5.out).2.2.2.1; have f4 := (ents_of HE5.out).2.2.2.2.1; have f5 := (ents_of HE5.out).2.2.2.2.2.1; have f6 := (ents_of HE5.out).2.2.2.2.2.2; clear hb)
      | (go_at_call 14; refine (HRl.out _ (rdW7 Hr HB5)).mono ?_; rintro r w6 ⟨A6, k6, rfl, hr6, hc6, hk6, hb⟩; have HB6 := bel7 HB5 hb; have hr5b := rdk7 hr5 hb; clear hb)
      | (go_at_call 12; refine (HS.out _ _ _ _ _ hr5b.out hr6.out).mono ?_; rintro r w7 ⟨rfl, hb⟩; have HB7 := bel7 HB6 hb; clear hb))
    all_goals
      go_wp2_with fail
      go_ret
      exact ⟨by first | rfl | simp, HB7.out⟩

set_option maxRecDepth 10000 in
theorem EntryChecks_walk {H : Type} {enc : TypeId × Value → H} (W : World) (base : Nat) {v0 : Value} {d0 : DataW H} {p0 : List MemPlace} (k0 : Value.okWide Tryd.prog W .any base 24 v0) (h0 : DataW.Trod enc Tryd.prog W 0 (fun _ => true) true 24 v0 d0 p0) (ht : T7 W) :
    Calls Tryd.prog 3 #[v0] W (Yes W) := by
  obtain ⟨S, O, K, F, L, P, A, n, c, l, rfl, hr, hc, hm⟩ := ar_entry k0 h0
  obtain rfl := hr.1
  by_cases hn : 1000 < l.length
  · exact EntryChecks_big ⟨S, O, K, F, L, P, l⟩ A c W hr ht hn
  exact EntryChecks_core ⟨S, O, K, F, L, P, l⟩ A c W hr hc hm ht (by show l.length ≤ 1000; omega)
end Go.Proofs.YtfabcmohaikfoaaDoor
