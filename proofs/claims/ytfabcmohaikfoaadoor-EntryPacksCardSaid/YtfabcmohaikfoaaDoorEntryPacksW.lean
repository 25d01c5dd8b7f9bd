/- The walk of EntryPacks. Written by wip/genel.py. -/
import Derived.Test.YtfabcmohaikfoaaDoorEnX
import Derived.Deep.RegionHeld3
import Derived.Deep.RegionWith
namespace Go.Proofs.YtfabcmohaikfoaaDoor
open Go.ChangeShapes Go.WideShapes Go.ChangeAt Go.RowKit

set_option maxRecDepth 10000 in
set_option maxHeartbeats 2000000 in
theorem EntryPacks_big (X : En) (A : Option Addr) (c : Nat) (A1 : Option Addr) (n1 k1 : Nat) (W : World) (hr : Rd W W.heap.size A X.d.length X.d) (ht : T7 W) (hbig : 1000 < X.d.length ∨ 3000 < n1) :
    Calls Tryd.prog 4 #[EV X A c, .slice A1 n1 k1] W (Yes W) := by
  have Ht := Lib.hid ht
  have Hr := Lib.hid hr
  clear ht hr
  have Hb := al7 W (.cells #[.int .i64 X.s, .int .i64 X.o, .int .i64 X.k, .int .i64 X.f, .int .i64 X.l, .int .i64 X.p, .slice A X.d.length c] 24)
  have HE := Lib.hid (heap_alloc_new W (.cells #[.int .i64 X.s, .int .i64 X.o, .int .i64 X.k, .int .i64 X.f, .int .i64 X.l, .int .i64 X.p, .slice A X.d.length c] 24))
  go_enter Tryd.func4, Tryd.ntmps4
  go_upto_region 1 with fail
  generalize W.alloc (.cells #[.int .i64 X.s, .int .i64 X.o, .int .i64 X.k, .int .i64 X.f, .int .i64 X.l, .int .i64 X.p, .slice A X.d.length c] 24) = w1 at Hb HE ⊢
  obtain ⟨b, hbe⟩ : ∃ b, b = W.heap.size := ⟨_, rfl⟩
  rw [← hbe] at HE ⊢
  clear hbe
  have HA := Lib.hid (awake7 w1 (Ht.out.to Hb.out))
  go_wp2_with fail
  refine HA.out.mono ?_
  rintro e w2 ⟨rfl, hb⟩
  replace HE := blk7 HE hb
  have HB := bel7 Hb hb
  clear hb HA Hb
  obtain ⟨c0, c1, c2, c3, c4, c5, c6⟩ := ents_of HE.out
  clear Hr
  by_cases h : 1000 < X.d.length
  · have h2 : (1000 : Int) < (X.d.length : Int) := by omega
    clear hbig
    go_wp2_with fail
    go_ret
    exact ⟨by first | rfl | simp, HB.out⟩
  · have h2 : (X.d.length : Int) ≤ 1000 := by omega
    have h3 : (3000 : Int) < (n1 : Int) := by omega
    clear hbig
    go_wp2_with fail
    go_ret
    exact ⟨by first | rfl | simp, HB.out⟩

set_option maxRecDepth 10000 in
set_option maxHeartbeats 8000000 in
theorem EntryPacks_core (X : En) (A : Option Addr) (c : Nat) (A1 : Option Addr) (n1 k1 : Nat) (l1 : List UInt8) (W : World) (hr : Rd W W.heap.size A X.d.length X.d) (hc : X.d.length ≤ c) (hm : c ≤ 9223372036854775807)
    (hr1 : Rd W W.heap.size A1 n1 l1) (hc1 : n1 ≤ k1) (hm1 : k1 ≤ 9223372036854775807) (ht : T7 W) (hn : X.d.length ≤ 1000) (hn1 : n1 ≤ 3000) :
    Calls Tryd.prog 4 #[EV X A c, .slice A1 n1 k1] W (Yes W) := by
  obtain ⟨PK, hPK⟩ : ∃ PK, PK = pack7 X := ⟨_, rfl⟩
  have HPk := Lib.hid (fun (w : World) (h : Rd w w.heap.size A X.d.length X.d) (ht : T7 w) => xPack (c := c) h (by omega) ht)
  have HRp := Lib.hid (fun (w : World) (h : Rd w w.heap.size A X.d.length X.d) => xRPack (c := c) h hc hm)
  rw [← hPK] at HPk HRp
  obtain ⟨U, hU⟩ : ∃ U, U = un7 l1 := ⟨_, rfl⟩
  obtain ⟨E, hE⟩ : ∃ E, E = unE7 l1 := ⟨_, rfl⟩
  have HUn := Lib.hid (fun (w : World) (h : Rd w w.heap.size A1 n1 l1) (ht : T7 w) => xUnpack (c := k1) h (by omega) hc1 hm1 ht)
  have HRu := Lib.hid (fun (w : World) (h : Rd w w.heap.size A1 n1 l1) => xRUnpack (c := k1) h (by omega) hc1 hm1)
  rw [← hU, ← hE] at HUn HRu
  have HS : Hid (∀ (w : World) (A c A' c'), Rd w w.heap.size A U.d.length U.d → Rd w w.heap.size A' U.d.length U.d → Val7 12 #[EV U A c, EV U A' c'] w (.bool true)) := fun w A c A' c' h h' => by
    have q := xSame (c := c) (c' := c') h h'
    rwa [decide_eq_true rfl] at q
  have hn2 : (X.d.length : Int) ≤ 1000 := by omega
  have hn3 : (n1 : Int) ≤ 3000 := by omega
  have Hr1 := Lib.hid hr1
  clear hPK hU hE hr1
  have Ht := Lib.hid ht
  have Hr := Lib.hid hr
  clear ht hr
  have Hb := al7 W (.cells #[.int .i64 X.s, .int .i64 X.o, .int .i64 X.k, .int .i64 X.f, .int .i64 X.l, .int .i64 X.p, .slice A X.d.length c] 24)
  have HE := Lib.hid (heap_alloc_new W (.cells #[.int .i64 X.s, .int .i64 X.o, .int .i64 X.k, .int .i64 X.f, .int .i64 X.l, .int .i64 X.p, .slice A X.d.length c] 24))
  go_enter Tryd.func4, Tryd.ntmps4
  go_upto_region 1 with fail
  generalize W.alloc (.cells #[.int .i64 X.s, .int .i64 X.o, .int .i64 X.k, .int .i64 X.f, .int .i64 X.l, .int .i64 X.p, .slice A X.d.length c] 24) = w1 at Hb HE ⊢
  obtain ⟨b, hbe⟩ : ∃ b, b = W.heap.size := ⟨_, rfl⟩
  rw [← hbe] at HE ⊢
  clear hbe
  have HA := Lib.hid (awake7 w1 (Ht.out.to Hb.out))
  go_wp2_with fail
  refine HA.out.mono ?_
  rintro e w2 ⟨rfl, hb⟩
  replace HE := blk7 HE hb
  have HB := bel7 Hb hb
  clear hb HA Hb
  obtain ⟨c0, c1, c2, c3, c4, c5, c6⟩ := ents_of HE.out
  go_upto_region 6 with fail
  go_wp2_with fail
  refine (HUn.out w2 (rdW7 Hr1 HB) (Ht.out.to HB.out)).mono ?_
  rintro r w30 ⟨A3, k3, rfl, hxbr, hxbc, hxbm, hb⟩
  replace HE := blk7 HE hb
  replace HB := bel7 HB hb
  clear hb c0 c1 c2 c3 c4 c5 c6
  go_upto_region 7 with fail
  have Ha := al7 w30 (.cells #[.int .i64 U.s, .int .i64 U.o, .int .i64 U.k, .int .i64 U.f, .int .i64 U.l, .int .i64 U.p, .slice A3 U.d.length k3] 24)
  have Hxb := Lib.hid (heap_alloc_new w30 (.cells #[.int .i64 U.s, .int .i64 U.o, .int .i64 U.k, .int .i64 U.f, .int .i64 U.l, .int .i64 U.p, .slice A3 U.d.length k3] 24))
  replace HE := blk7 HE Ha
  replace hxbr := rdk7 hxbr Ha
  replace HB := bel7 HB Ha
  clear Ha
  generalize w30.alloc (.cells #[.int .i64 U.s, .int .i64 U.o, .int .i64 U.k, .int .i64 U.f, .int .i64 U.l, .int .i64 U.p, .slice A3 U.d.length k3] 24) = w3 at Hxb HB hxbr HE ⊢
  obtain ⟨xb, hxbe⟩ : ∃ xb, xb = w30.heap.size := ⟨_, rfl⟩
  rw [← hxbe] at Hxb ⊢
  clear hxbe
  go_wp2_with fail
  refine (HRu.out w3 (rdW7 Hr1 HB)).mono ?_
  rintro r w40 ⟨A4, k4, rfl, hybr, hybc, hybm, hb⟩
  replace HE := blk7 HE hb
  replace Hxb := blk7 Hxb hb
  replace hxbr := rdk7 hxbr hb
  replace HB := bel7 HB hb
  clear hb
  go_upto_region 8 with fail
  have Ha := al7 w40 (.cells #[.int .i64 U.s, .int .i64 U.o, .int .i64 U.k, .int .i64 U.f, .int .i64 U.l, .int .i64 U.p, .slice A4 U.d.length k4] 24)
  have Hyb := Lib.hid (heap_alloc_new w40 (.cells #[.int .i64 U.s, .int .i64 U.o, .int .i64 U.k, .int .i64 U.f, .int .i64 U.l, .int .i64 U.p, .slice A4 U.d.length k4] 24))
  replace HE := blk7 HE Ha
  replace Hxb := blk7 Hxb Ha
  replace hxbr := rdk7 hxbr Ha
  replace hybr := rdk7 hybr Ha
  replace HB := bel7 HB Ha
  clear Ha
  generalize w40.alloc (.cells #[.int .i64 U.s, .int .i64 U.o, .int .i64 U.k, .int .i64 U.f, .int .i64 U.l, .int .i64 U.p, .slice A4 U.d.length k4] 24) = w4 at Hyb HB hybr HE Hxb hxbr ⊢
  obtain ⟨yb, hybe⟩ : ∃ yb, yb = w40.heap.size := ⟨_, rfl⟩
  rw [← hybe] at Hyb ⊢
  clear hybe
  have c0 := (ents_of HE.out).1
  have c1 := (ents_of HE.out).2.1
  have c2 := (ents_of HE.out).2.2.1
  have c3 := (ents_of HE.out).2.2.2.1
  have c4 := (ents_of HE.out).2.2.2.2.1
  have c5 := (ents_of HE.out).2.2.2.2.2.1
  have c6 := (ents_of HE.out).2.2.2.2.2.2
  have HBd : Hid (Below W.heap.size W w4.drew) := HB.out.drew
  go_region_with (first
    | (go_at_call 17; refine (HPk.out _ (rdW7 Hr HBd) (Ht.out.to HBd.out)).mono ?_; rintro r w5 ⟨A5, k5, rfl, ho5, hc5, hk5, hb⟩; have hbx := drew7 hb; have HB5 := bel7 HB hbx; have HE5 := blk7 HE hbx; have Hx5 := blk7 Hxb hbx; have Hy5 := blk7 Hyb hbx; have hx5 := rdk7 hxbr hbx; have hy5 := rdk7 hybr hbx; have hr5 := Lib.hid (Rd.own ho5.out); have hs5 := str_any (c := k5) hr5.out; have e0 := (ents_of HE5.out).1; have e1 := (ents_of HE5.out).2.1; have e2 := (ents_of HE5.out).2.2.1; have e3 := (ents_of HE5.out).2.2.2.1; have e4 := (ents_of HE5.out).2.2.2.2.1; have e5 := (ents_of HE5.out).2.2.2.2.2.1; have e6 := (ents_of HE5.out).2.2.2.2.2.2; clear hb hbx ho5)
    | (go_at_call 18; refine (HRp.out _ (rdW7 Hr HB5)).mono ?_; rintro r w6 ⟨A6, k6, rfl, ho6, hc6, hk6, hb⟩; have HB6 := bel7 HB5 hb; have Hx6 := blk7 Hx5 hb; have Hy6 := blk7 Hy5 hb; have hx6 := rdk7 hx5 hb; have hy6 := rdk7 hy5 hb; have hs5b := str_any (c := k5) (rdk7 hr5 hb).out; have hs6 := str_any (c := k6) (Rd.own ho6.out); have f0 := (ents_of Hx6.out).1; have f1 := (ents_of Hx6.out).2.1; have f2 := (ents_of Hx6.out).2.2.1; have f3 := (ents_of Hx6.out).2.2.2.1; have f4 := (ents_of Hx6.out).2.2.2.2.1; have f5 := (ents_of Hx6.out).2.2.2.2.2.1; have f6 := (ents_of Hx6.out).2.2.2.2.2.2; have g0 := (ents_of Hy6.out).1; have g1 := (ents_of Hy6.out).2.1; have g2 := (ents_of Hy6.out).2.2.1; have g3 := (ents_of Hy6.out).2.2.2.1; have g4 := (ents_of Hy6.out).2.2.2.2.1; have g5 := (ents_of Hy6.out).2.2.2.2.2.1; have g6 := (ents_of Hy6.out).2.2.2.2.2.2; clear hb ho6)
    | (go_at_call 12; refine (HS.out _ _ _ _ _ hx6.out hy6.out).mono ?_; rintro r w7 ⟨rfl, hb⟩; have HB7 := bel7 HB6 hb; clear hb))
  all_goals
    go_wp2_with fail
    go_ret
    exact ⟨by first | rfl | simp, HB7.out⟩

set_option maxRecDepth 10000 in
theorem EntryPacks_walk {H : Type} {enc : TypeId × Value → H} (W : World) (base : Nat) {v0 : Value} {d0 : DataW H} {p0 : List MemPlace} (k0 : Value.okWide Tryd.prog W .any base 24 v0) (h0 : DataW.Trod enc Tryd.prog W 0 (fun _ => true) true 24 v0 d0 p0) {v1 : Value} {d1 : DataW H} {p1 : List MemPlace} (k1 : Value.okWide Tryd.prog W .any base 22 v1) (h1 : DataW.Trod enc Tryd.prog W 0 (fun _ => true) true 22 v1 d1 p1) (ht : T7 W) :
    Calls Tryd.prog 4 #[v0, v1] W (Yes W) := by
  obtain ⟨S, O, K, F, L, P, A, n, c, l, rfl, hr, hc, hm⟩ := ar_entry k0 h0
  obtain rfl := hr.1
  obtain ⟨A1, n1, c1, l1, rfl, hr1, hc1, hm1⟩ := ar_bytes Tryd.underlying22 Tryd.underlying5 (by kernel_rfl) k1 h1
  by_cases hn : 1000 < l.length ∨ 3000 < n1
  · exact EntryPacks_big ⟨S, O, K, F, L, P, l⟩ A c A1 n1 c1 W hr ht hn
  exact EntryPacks_core ⟨S, O, K, F, L, P, l⟩ A c A1 n1 c1 l1 W hr hc hm hr1 hc1 hm1 ht (by show l.length ≤ 1000; omega) (by omega)
end Go.Proofs.YtfabcmohaikfoaaDoor
