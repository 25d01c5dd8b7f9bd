/- The walk of EntryOwn. Written by wip/genel.py. -/
import Derived.Test.YtfabcmohaikfoaaDoorEnY
import Derived.Deep.RegionHeld3
import Derived.Deep.RegionWith
namespace Go.Proofs.YtfabcmohaikfoaaDoor
open Go.ChangeShapes Go.WideShapes Go.ChangeAt Go.RowKit

set_option maxRecDepth 10000 in
set_option maxHeartbeats 2000000 in
theorem EntryOwn_big (X : En) (A : Option Addr) (c : Nat) (W : World) (hr : Rd W W.heap.size A X.d.length X.d) (ht : T7 W) (hbig : 1000 < X.d.length) :
    Calls Tryd.prog 8 #[EV X A c] W (Yes W) := by
  have Ht := Lib.hid ht
  have Hr := Lib.hid hr
  clear ht hr
  have Hb := al7 W (.cells #[.int .i64 X.s, .int .i64 X.o, .int .i64 X.k, .int .i64 X.f, .int .i64 X.l, .int .i64 X.p, .slice A X.d.length c] 24)
  have HE := Lib.hid (heap_alloc_new W (.cells #[.int .i64 X.s, .int .i64 X.o, .int .i64 X.k, .int .i64 X.f, .int .i64 X.l, .int .i64 X.p, .slice A X.d.length c] 24))
  go_enter Tryd.func8, Tryd.ntmps8
  go_upto_region 1 with fail
  generalize W.alloc (.cells #[.int .i64 X.s, .int .i64 X.o, .int .i64 X.k, .int .i64 X.f, .int .i64 X.l, .int .i64 X.p, .slice A X.d.length c] 24) = w1 at Hb HE ⊢
  obtain ⟨b, hbe⟩ : ∃ b, b = W.heap.size := ⟨_, rfl⟩
  rw [← hbe] at HE ⊢
  clear hbe
  have HA := Lib.hid (awake7 w1 (Ht.out.to Hb.out))
  go_wp2_with fail
  refine HA.out.mono ?_
  rintro e w2 ⟨rfl, hb⟩
  replace HE := blk7 HE hb
  have HB := bel7 Hb hb
  clear hb HA Hb
  obtain ⟨c0, c1, c2, c3, c4, c5, c6⟩ := ents_of HE.out
  clear Hr
  have hbig2 : (1000 : Int) < (X.d.length : Int) := by omega
  go_wp2_with fail
  go_ret
  exact ⟨by first | rfl | simp, HB.out⟩

set_option maxRecDepth 10000 in
set_option maxHeartbeats 2000000 in
theorem EntryOwn_core (X : En) (A : Option Addr) (c : Nat) (W : World) (hr : Rd W W.heap.size A X.d.length X.d) (ht : T7 W) (hn : X.d.length ≤ 1000) :
    Calls Tryd.prog 8 #[EV X A c] W (Yes W) := by
  obtain ⟨Y, hY⟩ : ∃ Y, Y = cln7 X := ⟨_, rfl⟩
  obtain ⟨dn, hdn⟩ : ∃ dn, dn = Y.d.length := ⟨_, rfl⟩
  have hdn2 : dn ≤ 1000 := by
    rw [hdn, hY]
    unfold cln7
    dsimp only
    split
    · exact hn
    · simp
  have HCl : Hid (∀ (w : World), Rd w w.heap.size A X.d.length X.d → T7 w → Calls Tryd.prog 13 #[EV X A c] w fun r w' => ∃ A c, r = .returned (eV Y.s Y.o Y.k Y.f Y.l Y.p A dn c) ∧ Hid (∃ xs : List UInt8, w'.ownsRow w.heap.size 5 1 (.slice A dn c) dn (xs.map bv)) ∧ dn ≤ c ∧ Hid (Below w.heap.size w w')) := fun w h ht =>
    (Clean7 X.s X.o X.k X.f X.l X.p A _ c X.d w h (by omega) ht).mono fun r w' q => by
      obtain ⟨A, c, h1, h2, h3, h4, h5⟩ := q
      have e : cln7 ⟨X.s, X.o, X.k, X.f, X.l, X.p, X.d⟩ = Y := hY.symm
      rw [e] at h1 h2 h3
      rw [← hdn] at h1 h2 h3
      exact ⟨A, c, h1, ⟨_, h2⟩, h3, h5⟩
  have HPk := Lib.hid (fun (w : World) (h : Rd w w.heap.size A X.d.length X.d) (ht : T7 w) => xPack (c := c) h (by omega) ht)
  obtain ⟨L, hL⟩ : ∃ L, L = (pack7 X).length := ⟨_, rfl⟩
  have hLb : L ≤ 154 := by
    rw [hL]
    by_cases q : May7 X
    · rw [pack_yes q, mkF_length]
      have := pack_len q
      omega
    · rw [pack_no q]; simp
  have HP2 : Hid (∀ (w : World), Rd w w.heap.size A X.d.length X.d → T7 w → Calls Tryd.prog 17 #[EV X A c] w fun r w' => ∃ A c, r = .returned (.slice A L c) ∧ Hid (∃ xs : List UInt8, w'.ownsRow w.heap.size 5 1 (.slice A L c) L (xs.map bv)) ∧ L ≤ c ∧ Hid (Below w.heap.size w w')) := fun w h ht =>
    (HPk.out w h ht).mono fun r w' q => by
      obtain ⟨A, c, h1, h2, h3, h4, h5⟩ := q
      rw [← hL] at h1 h2 h3
      exact ⟨A, c, h1, ⟨_, h2.out⟩, h3, h5⟩
  have hn2 : (X.d.length : Int) ≤ 1000 := by omega
  clear hY hdn hL HPk
  have Ht := Lib.hid ht
  have Hr := Lib.hid hr
  clear ht hr
  have Hb := al7 W (.cells #[.int .i64 X.s, .int .i64 X.o, .int .i64 X.k, .int .i64 X.f, .int .i64 X.l, .int .i64 X.p, .slice A X.d.length c] 24)
  have HE := Lib.hid (heap_alloc_new W (.cells #[.int .i64 X.s, .int .i64 X.o, .int .i64 X.k, .int .i64 X.f, .int .i64 X.l, .int .i64 X.p, .slice A X.d.length c] 24))
  go_enter Tryd.func8, Tryd.ntmps8
  go_upto_region 1 with fail
  generalize W.alloc (.cells #[.int .i64 X.s, .int .i64 X.o, .int .i64 X.k, .int .i64 X.f, .int .i64 X.l, .int .i64 X.p, .slice A X.d.length c] 24) = w1 at Hb HE ⊢
  obtain ⟨b, hbe⟩ : ∃ b, b = W.heap.size := ⟨_, rfl⟩
  rw [← hbe] at HE ⊢
  clear hbe
  have HA := Lib.hid (awake7 w1 (Ht.out.to Hb.out))
  go_wp2_with fail
  refine HA.out.mono ?_
  rintro e w2 ⟨rfl, hb⟩
  replace HE := blk7 HE hb
  have HB := bel7 Hb hb
  clear hb HA Hb
  obtain ⟨c0, c1, c2, c3, c4, c5, c6⟩ := ents_of HE.out
  have hs := str_any (c := c) (rdW7 Hr HB)
  go_upto_region 7 with fail
  clear hs
  go_wp2_with fail
  refine (HCl.out w2 (rdW7 Hr HB) (Ht.out.to HB.out)).mono ?_
  rintro r w3 ⟨A3, k3, rfl, Ho3, hc3, hb⟩
  obtain ⟨xs, ho3⟩ := Ho3.out
  have Ho := Lib.hid (ownsRow_base ho3 HB.out.size)
  replace HE := blk7 HE hb
  replace HB := bel7 HB hb
  clear hb HCl c0 c1 c2 c3 c4 c5 c6 ho3 Ho3
  go_upto_region 8 with fail
  have HC := Lib.hid (heap_alloc_new w3 (.cells #[.int .i64 Y.s, .int .i64 Y.o, .int .i64 Y.k, .int .i64 Y.f, .int .i64 Y.l, .int .i64 Y.p, .slice A3 dn k3] 24))
  have Ha := al7 w3 (.cells #[.int .i64 Y.s, .int .i64 Y.o, .int .i64 Y.k, .int .i64 Y.f, .int .i64 Y.l, .int .i64 Y.p, .slice A3 dn k3] 24)
  replace HE := blk7 HE Ha
  replace HB := bel7 HB Ha
  replace Ho := Lib.hid (ownsRow_below Ho.out Ha.out)
  clear Ha
  generalize w3.alloc (.cells #[.int .i64 Y.s, .int .i64 Y.o, .int .i64 Y.k, .int .i64 Y.f, .int .i64 Y.l, .int .i64 Y.p, .slice A3 dn k3] 24) = w4 at HC HE HB Ho ⊢
  obtain ⟨cb, hcb⟩ : ∃ cb, cb = w3.heap.size := ⟨_, rfl⟩
  rw [← hcb] at HC ⊢
  clear hcb
  go_wp2_with fail
  go_loopw [6] (fun iv wr => ∃ j : Nat, j ≤ dn ∧ iv = .int .i64 j ∧ Hid (∃ xs : List UInt8, wr.ownsRow W.heap.size 5 1 (.slice A3 dn k3) dn (xs.map bv)) ∧ Hid (wr.heap[cb]? = some (.cells #[.int .i64 Y.s, .int .i64 Y.o, .int .i64 Y.k, .int .i64 Y.f, .int .i64 Y.l, .int .i64 Y.p, .slice A3 dn k3] 24 (0, 0))) ∧ Hid (wr.heap[b]? = some (.cells #[.int .i64 X.s, .int .i64 X.o, .int .i64 X.k, .int .i64 X.f, .int .i64 X.l, .int .i64 X.p, .slice A X.d.length c] 24 (0, 0))) ∧ Hid (Below W.heap.size W wr)) (fun iv _ => dn - (intOf iv).toNat)
  case atStart => exact ⟨0, Nat.zero_le _, rfl, ⟨xs, Ho.out⟩, HC, HE, HB⟩
  case round =>
    obtain ⟨j, hj, rfl, Hox, HC1, HE1, HB1⟩ := hrel
    clear HC HE HB Ho
    have c6 := (ents_of HC1.out).2.2.2.2.2.2
    by_cases hjn : j < dn
    · obtain ⟨ys, ho⟩ := Hox.out
      have hyl : ys.length = dn := by have := ho.1; simpa using this
      obtain ⟨g, rfl, hg1, hg2⟩ := own_g7 ho (by omega)
      obtain ⟨z, hz⟩ : ∃ z, z = ys[j]'(by omega) := ⟨_, rfl⟩
      have hcell : wr.cell? ⟨g, j, none⟩ = some (.int .u8 (z.toNat : Int)) := by
        rw [ho.cellAt j (by omega), List.getElem?_map, List.getElem?_eq_getElem (by omega), ← hz]; rfl
      have hfr := ho.frozenAt j
      have hzl := z.toNat_lt
      obtain ⟨y, hy, _⟩ := xor_turn7 z 255 (by decide) (by decide)
      have hy2 : bits .xor .u8 (z.toNat : Int) 255 = (y.toNat : Int) := hy
      have hst := (ho.stored j (.int .u8 (y.toNat : Int))).1
      have hset : (ys.map bv).set j (.int .u8 (y.toNat : Int)) = (ys.set j y).map bv := by rw [List.map_set]; rfl
      rw [hset] at hst
      have Hst := Lib.hid hst
      have hj0 : (0 : Int) ≤ (j : Int) := by omega
      have hj1 : (j : Int) < (dn : Int) := by omega
      have HC2 := Lib.hid ((Below.heap_setCell wr ⟨g, j, none⟩ (.int .u8 (y.toNat : Int)) cb (own_ne7 ho HC1.out (by decide))).trans HC1.out)
      have HE2 := Lib.hid ((Below.heap_setCell wr ⟨g, j, none⟩ (.int .u8 (y.toNat : Int)) b (own_ne7 ho HE1.out (by decide))).trans HE1.out)
      have HB2 := Lib.hid (HB1.out.setCell (p := ⟨g, j, none⟩) hg1 (.int .u8 (y.toNat : Int))).drew
      clear hz hy hset hyl Hox ho
      go_upto_region 11 with fail
      go_region_with fail
      all_goals
        go_wp2_with fail
        go_roundw
        case rel => exact ⟨j + 1, by omega, by go_num, ⟨_, by exact Hst.out⟩, by exact HC2.out, by exact HE2.out, by exact HB2.out⟩
        case measure => simp [intOf]; omega
    · obtain rfl : j = dn := by omega
      go_upto_region 12 with fail
      clear c6 Hox HC1
      obtain ⟨c0, c1, c2, c3, c4, c5, c6⟩ := ents_of HE1.out
      go_wp2_with fail
      refine (HP2.out wr (rdW7 Hr HB1) (Ht.out.to HB1.out)).mono ?_
      rintro r w5 ⟨A5, k5, rfl, Ho5, hc5, hb⟩
      obtain ⟨xs, ho5⟩ := Ho5.out
      have Ho := Lib.hid (ownsRow_base ho5 HB1.out.size)
      have HE := blk7 HE1 hb
      have HB := bel7 HB1 hb
      clear hb HP2 c0 c1 c2 c3 c4 c5 c6 ho5 Ho5 HE1 HB1
      go_wp2_with fail
      go_loopw [8] (fun iv wt => ∃ j : Nat, j ≤ L ∧ iv = .int .i64 j ∧ Hid (∃ xs : List UInt8, wt.ownsRow W.heap.size 5 1 (.slice A5 L k5) L (xs.map bv)) ∧ Hid (wt.heap[b]? = some (.cells #[.int .i64 X.s, .int .i64 X.o, .int .i64 X.k, .int .i64 X.f, .int .i64 X.l, .int .i64 X.p, .slice A X.d.length c] 24 (0, 0))) ∧ Hid (Below W.heap.size W wt)) (fun iv _ => L - (intOf iv).toNat)
      case atStart => exact ⟨0, Nat.zero_le _, rfl, ⟨xs, Ho.out⟩, HE, HB⟩
      case round =>
        obtain ⟨t, hj, rfl, Hox, HE1, HB1⟩ := hrel
        clear HE HB Ho
        by_cases hjn : t < L
        · obtain ⟨ys, ho⟩ := Hox.out
          obtain ⟨g, rfl, hg1, hg2⟩ := own_g7 ho (by omega)
          have hfr := ho.frozenAt t
          have hyl : t < ys.length := by
            have := ho.1
            rw [List.length_map] at this
            omega
          obtain ⟨vt, hcell⟩ : ∃ vt, wr.cell? ⟨g, t, none⟩ = some vt := ⟨bv ys[t], by rw [ho.cellAt t (by omega), List.getElem?_map, List.getElem?_eq_getElem hyl]; rfl⟩
          have hst := (ho.stored t (.int .u8 0)).1
          have hset : (ys.map bv).set t (.int .u8 0) = (ys.set t 0).map bv := by rw [List.map_set]; rfl
          rw [hset] at hst
          have Hst := Lib.hid hst
          have hj0 : (0 : Int) ≤ (t : Int) := by omega
          have hj1 : (t : Int) < (L : Int) := by omega
          have HE2 := Lib.hid ((Below.heap_setCell wr ⟨g, t, none⟩ (.int .u8 0) b (own_ne7 ho HE1.out (by decide))).trans HE1.out)
          have HB2 := Lib.hid (HB1.out.setCell (p := ⟨g, t, none⟩) hg1 (.int .u8 0))
          clear hset hyl Hox ho hst
          go_wp2_with fail
          go_roundw
          case rel => exact ⟨t + 1, by omega, by go_num, ⟨_, Hst.out⟩, HE2, HB2⟩
          case measure => simp [intOf]; omega
        · obtain rfl : t = L := by omega
          have c6 := (ents_of HE1.out).2.2.2.2.2.2
          have hs := str_any (c := c) (rdW7 Hr HB1)
          clear Hox
          go_wp2_with fail
          go_ret
          exact ⟨by first | rfl | simp, HB1.out⟩

set_option maxRecDepth 10000 in
theorem EntryOwn_walk {H : Type} {enc : TypeId × Value → H} (W : World) (base : Nat) {v0 : Value} {d0 : DataW H} {p0 : List MemPlace} (k0 : Value.okWide Tryd.prog W .any base 24 v0) (h0 : DataW.Trod enc Tryd.prog W 0 (fun _ => true) true 24 v0 d0 p0) (ht : T7 W) :
    Calls Tryd.prog 8 #[v0] W (Yes W) := by
  obtain ⟨S, O, K, F, L, P, A, n, c, l, rfl, hr, _, _⟩ := ar_entry k0 h0
  obtain rfl := hr.1
  by_cases hn : 1000 < l.length
  · exact EntryOwn_big ⟨S, O, K, F, L, P, l⟩ A c W hr ht hn
  exact EntryOwn_core ⟨S, O, K, F, L, P, l⟩ A c W hr ht (by show l.length ≤ 1000; omega)
end Go.Proofs.YtfabcmohaikfoaaDoor
