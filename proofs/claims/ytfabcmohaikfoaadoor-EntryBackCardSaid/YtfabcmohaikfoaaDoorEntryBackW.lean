/- The walk of EntryBack. Written by wip/genel.py. -/
import Derived.Test.YtfabcmohaikfoaaDoorEnX
import Derived.Deep.RegionHeld3
import Derived.BigQuiet
import Derived.Deep.QuietTactic
import Derived.Deep.RegionWith
namespace Go.Proofs.YtfabcmohaikfoaaDoor
open Go.ChangeShapes Go.WideShapes Go.ChangeAt Go.RowKit

set_option maxRecDepth 10000 in
set_option maxHeartbeats 2000000 in
theorem EntryBack_big (X : En) (A : Option Addr) (c : Nat) (A1 : Option Addr) (n1 k1 : Nat) (W : World) (hr : Rd W W.heap.size A X.d.length X.d) (ht : T7 W) (hbig : 1000 < X.d.length ∨ 3000 < n1) :
    Calls Tryd.prog 6 #[EV X A c, .slice A1 n1 k1] W (Yes W) := by
  have Ht := Lib.hid ht
  have Hr := Lib.hid hr
  clear ht hr
  have Hb := al7 W (.cells #[.int .i64 X.s, .int .i64 X.o, .int .i64 X.k, .int .i64 X.f, .int .i64 X.l, .int .i64 X.p, .slice A X.d.length c] 24)
  have HE := Lib.hid (heap_alloc_new W (.cells #[.int .i64 X.s, .int .i64 X.o, .int .i64 X.k, .int .i64 X.f, .int .i64 X.l, .int .i64 X.p, .slice A X.d.length c] 24))
  go_enter Tryd.func6, Tryd.ntmps6
  go_upto_region 1 with fail
  generalize W.alloc (.cells #[.int .i64 X.s, .int .i64 X.o, .int .i64 X.k, .int .i64 X.f, .int .i64 X.l, .int .i64 X.p, .slice A X.d.length c] 24) = w1 at Hb HE ⊢
  obtain ⟨b, hbe⟩ : ∃ b, b = W.heap.size := ⟨_, rfl⟩
  rw [← hbe] at HE ⊢
  clear hbe
  have HA := Lib.hid (awake7 w1 (Ht.out.to Hb.out))
  go_wp2_with fail
  refine HA.out.mono ?_
  rintro e w2 ⟨rfl, hb⟩
  replace HE := blk7 HE hb
  have HB := bel7 Hb hb
  clear hb HA Hb
  obtain ⟨c0, c1, c2, c3, c4, c5, c6⟩ := ents_of HE.out
  clear Hr
  by_cases h : 1000 < X.d.length
  · have h2 : (1000 : Int) < (X.d.length : Int) := by omega
    clear hbig
    go_wp2_with fail
    go_ret
    exact ⟨by first | rfl | simp, HB.out⟩
  · have h2 : (X.d.length : Int) ≤ 1000 := by omega
    have h3 : (3000 : Int) < (n1 : Int) := by omega
    clear hbig
    go_wp2_with fail
    go_ret
    exact ⟨by first | rfl | simp, HB.out⟩

set_option maxRecDepth 10000 in
set_option maxHeartbeats 8000000 in
theorem EntryBack_no (X : En) (A : Option Addr) (c : Nat) (A1 : Option Addr) (n1 k1 : Nat) (l1 : List UInt8) (W : World) (hr : Rd W W.heap.size A X.d.length X.d)
    (hr1 : Rd W W.heap.size A1 n1 l1) (hc1 : n1 ≤ k1) (hm1 : k1 ≤ 9223372036854775807) (ht : T7 W) (hn : X.d.length ≤ 1000) (hn1 : n1 ≤ 3000) (hM : ¬ May7 X) :
    Calls Tryd.prog 6 #[EV X A c, .slice A1 n1 k1] W (Yes W) := by
  have HPk := Lib.hid (fun (w : World) (h : Rd w w.heap.size A X.d.length X.d) (ht : T7 w) => xPack (c := c) h (by omega) ht)
  rw [pack_no hM] at HPk
  have He := Lib.hid (show may7E X = 70 by unfold may7E; rw [if_neg hM])
  have hul : (un7 l1).d.length ≤ 128 := un_len
  have Hinv := Lib.hid (fun (h : unE7 l1 = 0) => (un_inv h).2)
  obtain ⟨U, hU⟩ : ∃ U, U = un7 l1 := ⟨_, rfl⟩
  obtain ⟨E, hE⟩ : ∃ E, E = unE7 l1 := ⟨_, rfl⟩
  have HUn := Lib.hid (fun (w : World) (h : Rd w w.heap.size A1 n1 l1) (ht : T7 w) => xUnpack (c := k1) h (by omega) hc1 hm1 ht)
  rw [← hU, ← hE] at HUn
  rw [← hE, ← hU] at Hinv
  rw [← hU] at hul
  have HPu := Lib.hid (fun (w : World) (A : Option Addr) (c : Nat) (h : Rd w w.heap.size A U.d.length U.d) (ht : T7 w) => xPack (c := c) h (by omega) ht)
  have hn2 : (X.d.length : Int) ≤ 1000 := by omega
  have hn3 : (n1 : Int) ≤ 3000 := by omega
  have Hr1 := Lib.hid hr1
  clear hU hE hr1 hM
  have Ht := Lib.hid ht
  have Hr := Lib.hid hr
  clear ht hr
  have Hb := al7 W (.cells #[.int .i64 X.s, .int .i64 X.o, .int .i64 X.k, .int .i64 X.f, .int .i64 X.l, .int .i64 X.p, .slice A X.d.length c] 24)
  have HE := Lib.hid (heap_alloc_new W (.cells #[.int .i64 X.s, .int .i64 X.o, .int .i64 X.k, .int .i64 X.f, .int .i64 X.l, .int .i64 X.p, .slice A X.d.length c] 24))
  go_enter Tryd.func6, Tryd.ntmps6
  go_upto_region 1 with fail
  generalize W.alloc (.cells #[.int .i64 X.s, .int .i64 X.o, .int .i64 X.k, .int .i64 X.f, .int .i64 X.l, .int .i64 X.p, .slice A X.d.length c] 24) = w1 at Hb HE ⊢
  obtain ⟨b, hbe⟩ : ∃ b, b = W.heap.size := ⟨_, rfl⟩
  rw [← hbe] at HE ⊢
  clear hbe
  have HA := Lib.hid (awake7 w1 (Ht.out.to Hb.out))
  go_wp2_with fail
  refine HA.out.mono ?_
  rintro e w2 ⟨rfl, hb⟩
  replace HE := blk7 HE hb
  have HB := bel7 Hb hb
  clear hb HA Hb
  obtain ⟨c0, c1, c2, c3, c4, c5, c6⟩ := ents_of HE.out
  go_upto_region 6 with fail
  go_wp2_with fail
  refine (HUn.out w2 (rdW7 Hr1 HB) (Ht.out.to HB.out)).mono ?_
  rintro r w30 ⟨A3, k3, rfl, hxbr, hxbc, hxbm, hb⟩
  replace HE := blk7 HE hb
  replace HB := bel7 HB hb
  clear hb c0 c1 c2 c3 c4 c5 c6
  go_upto_region 7 with fail
  have Ha := al7 w30 (.cells #[.int .i64 U.s, .int .i64 U.o, .int .i64 U.k, .int .i64 U.f, .int .i64 U.l, .int .i64 U.p, .slice A3 U.d.length k3] 24)
  have Hxb := Lib.hid (heap_alloc_new w30 (.cells #[.int .i64 U.s, .int .i64 U.o, .int .i64 U.k, .int .i64 U.f, .int .i64 U.l, .int .i64 U.p, .slice A3 U.d.length k3] 24))
  replace HE := blk7 HE Ha
  replace hxbr := rdk7 hxbr Ha
  replace HB := bel7 HB Ha
  clear Ha
  generalize w30.alloc (.cells #[.int .i64 U.s, .int .i64 U.o, .int .i64 U.k, .int .i64 U.f, .int .i64 U.l, .int .i64 U.p, .slice A3 U.d.length k3] 24) = w3 at Hxb HB hxbr HE ⊢
  obtain ⟨xb, hxbe⟩ : ∃ xb, xb = w30.heap.size := ⟨_, rfl⟩
  rw [← hxbe] at Hxb ⊢
  clear hxbe
  have HBd : Hid (Below W.heap.size W w3.drew) := HB.out.drew
  go_cut [38] (fun s wx => s = .bool false ∧ Hid (wx.heap[b]? = some (.cells #[.int .i64 X.s, .int .i64 X.o, .int .i64 X.k, .int .i64 X.f, .int .i64 X.l, .int .i64 X.p, .slice A X.d.length c] 24 (0, 0))) ∧ Hid (Below W.heap.size W wx))
  case first =>
    have c0 := (ents_of Hxb.out).1
    have c1 := (ents_of Hxb.out).2.1
    have c2 := (ents_of Hxb.out).2.2.1
    have c3 := (ents_of Hxb.out).2.2.2.1
    have c4 := (ents_of Hxb.out).2.2.2.2.1
    have c5 := (ents_of Hxb.out).2.2.2.2.2.1
    have c6 := (ents_of Hxb.out).2.2.2.2.2.2
    by_cases hE0 : E = 0
    · have HL1 := Lib.hid (Hinv.out hE0)
      subst hE0
      rw [HL1.out] at HPu
      have hs1 := str_any (w := w3.drew) (c := k1) (rdW7 Hr1 HBd)
      clear HL1 Hinv
      go_region_with (go_at_call 17; refine (HPu.out _ _ _ (by exact hxbr.out) (Ht.out.to HBd.out)).mono ?_; rintro r w4 ⟨A4, k4, rfl, ho4, hc4, hk4, hb⟩; have hbx := drew7 hb; have HB4 := bel7 HB hbx; have HE4 := blk7 HE hbx; have hs4 := str_any (c := k4) (Rd.own ho4.out); have hs2 := str_any (c := k1) (rdW7 Hr1 HB4); clear hb hbx ho4)
      all_goals
        go_wp2_with fail
        go_meet
        exact ⟨by first | rfl | simp, HE4, HB4⟩
    · have hE1 : (E == 0) = false := by simpa using hE0
      clear Hinv
      go_quiet (fail)
      go_wp2_with fail
      go_meet
      exact ⟨rfl, HE, belowDrewN HB.out _⟩
  case rest =>
    obtain ⟨rfl, HE1, HB1⟩ := hcut
    clear HE HB Hxb hxbr HBd hxbc hxbm HPu HUn Hinv
    have HE := HE1
    have HB := HB1
    clear HE1 HB1
    obtain ⟨c0, c1, c2, c3, c4, c5, c6⟩ := ents_of HE.out
    go_wp2_with fail
    refine (HPk.out _ (rdW7 Hr HB) (Ht.out.to HB.out)).mono ?_
    rintro r w5 ⟨A5, k5, rfl, ho5, hc5, hk5, hb⟩
    replace HE := blk7 HE hb
    replace HB := bel7 HB hb
    clear hb HPk c0 c1 c2 c3 c4 c5 c6
    obtain ⟨c0, c1, c2, c3, c4, c5, c6⟩ := ents_of HE.out
    simp only [List.length_nil]
    have HC := Lib.hid (xCheck X A c w5)
    rw [He.out] at HC
    clear ho5
    go_wp2_with fail
    refine HC.out.mono ?_
    rintro r w6 ⟨rfl, hb⟩
    replace HB := bel7 HB hb
    go_wp2_with fail
    go_ret
    exact ⟨by first | rfl | simp, HB.out⟩

set_option maxRecDepth 10000 in
set_option maxHeartbeats 8000000 in
theorem EntryBack_yes (X : En) (A : Option Addr) (c : Nat) (A1 : Option Addr) (n1 k1 : Nat) (l1 : List UInt8) (W : World) (hr : Rd W W.heap.size A X.d.length X.d)
    (hr1 : Rd W W.heap.size A1 n1 l1) (hc1 : n1 ≤ k1) (hm1 : k1 ≤ 9223372036854775807) (ht : T7 W) (hn : X.d.length ≤ 1000) (hn1 : n1 ≤ 3000) (hM : May7 X) :
    Calls Tryd.prog 6 #[EV X A c, .slice A1 n1 k1] W (Yes W) := by
  have HPk := Lib.hid (fun (w : World) (h : Rd w w.heap.size A X.d.length X.d) (ht : T7 w) => xPack (c := c) h (by omega) ht)
  have He := Lib.hid (show may7E X = 0 by unfold may7E; rw [if_pos hM])
  obtain ⟨PK, hPK⟩ : ∃ PK, PK = pack7 X := ⟨_, rfl⟩
  rw [← hPK] at HPk
  obtain ⟨PL, hPL⟩ : ∃ PL, PL = PK.length := ⟨_, rfl⟩
  have hPLb : PL ≤ 154 := by rw [hPL, hPK, pack_yes hM, mkF_length]; have := pack_len hM; omega
  have HPL := Lib.hid hPL
  obtain ⟨Y, hY⟩ : ∃ Y, Y = cln7 X := ⟨_, rfl⟩
  have HUp : Hid (∀ (w : World) (A : Option Addr) (k : Nat), Rd w w.heap.size A PL PK → PL ≤ k → k ≤ 9223372036854775807 → T7 w → Calls Tryd.prog 15 #[.slice A PL k] w (NewU w Y 0)) := fun w A k h hc hm ht => by
    have q := xUnpack h (by omega) hc hm ht
    rw [hPK, (un_pack hM).1, (un_pack hM).2, ← hY] at q
    exact q
  have HCl := Lib.hid (fun (w : World) (h : Rd w w.heap.size A X.d.length X.d) (ht : T7 w) => xClean (c := c) h (by omega) ht)
  rw [← hY] at HCl
  have hYd : Y.d.length ≤ 128 := by rw [hY]; exact cln_data hM
  have HCY : Hid (∀ (w : World) (A : Option Addr) (c : Nat), Rd w w.heap.size A Y.d.length Y.d → T7 w → Calls Tryd.prog 13 #[EV Y A c] w (NewE w Y)) := fun w A c h ht => by
    have q := xClean (c := c) h (by omega) ht
    rwa [show cln7 Y = Y from by rw [hY]; exact cln_cln X] at q
  have HKY : Hid (∀ (w : World) (A : Option Addr) (c : Nat), Val7 11 #[EV Y A c] w (.int .i64 0)) := fun w A c => by
    have q := xCheck Y A c w
    rwa [show may7E Y = 0 from by unfold may7E; rw [if_pos (by rw [hY]; exact may_cln.2 hM)]] at q
  have HPY : Hid (∀ (w : World) (A : Option Addr) (c : Nat), Rd w w.heap.size A Y.d.length Y.d → T7 w → Calls Tryd.prog 17 #[EV Y A c] w (NewB w PK)) := fun w A c h ht => by
    have q := xPack (c := c) h (by omega) ht
    rwa [show pack7 Y = PK from by rw [hY, hPK]; exact pack_cln hM] at q
  have HS : Hid (∀ (w : World) (A c A' c'), Rd w w.heap.size A Y.d.length Y.d → Rd w w.heap.size A' Y.d.length Y.d → Val7 12 #[EV Y A c, EV Y A' c'] w (.bool true)) := fun w A c A' c' h h' => by
    have q := xSame (c := c) (c' := c') h h'
    rwa [decide_eq_true rfl] at q
  clear hPK hPL hY
  have hul : (un7 l1).d.length ≤ 128 := un_len
  have Hinv := Lib.hid (fun (h : unE7 l1 = 0) => (un_inv h).2)
  obtain ⟨U, hU⟩ : ∃ U, U = un7 l1 := ⟨_, rfl⟩
  obtain ⟨E, hE⟩ : ∃ E, E = unE7 l1 := ⟨_, rfl⟩
  have HUn := Lib.hid (fun (w : World) (h : Rd w w.heap.size A1 n1 l1) (ht : T7 w) => xUnpack (c := k1) h (by omega) hc1 hm1 ht)
  rw [← hU, ← hE] at HUn
  rw [← hE, ← hU] at Hinv
  rw [← hU] at hul
  have HPu := Lib.hid (fun (w : World) (A : Option Addr) (c : Nat) (h : Rd w w.heap.size A U.d.length U.d) (ht : T7 w) => xPack (c := c) h (by omega) ht)
  have hn2 : (X.d.length : Int) ≤ 1000 := by omega
  have hn3 : (n1 : Int) ≤ 3000 := by omega
  have Hr1 := Lib.hid hr1
  clear hU hE hr1 hM
  have Ht := Lib.hid ht
  have Hr := Lib.hid hr
  clear ht hr
  have Hb := al7 W (.cells #[.int .i64 X.s, .int .i64 X.o, .int .i64 X.k, .int .i64 X.f, .int .i64 X.l, .int .i64 X.p, .slice A X.d.length c] 24)
  have HE := Lib.hid (heap_alloc_new W (.cells #[.int .i64 X.s, .int .i64 X.o, .int .i64 X.k, .int .i64 X.f, .int .i64 X.l, .int .i64 X.p, .slice A X.d.length c] 24))
  go_enter Tryd.func6, Tryd.ntmps6
  go_upto_region 1 with fail
  generalize W.alloc (.cells #[.int .i64 X.s, .int .i64 X.o, .int .i64 X.k, .int .i64 X.f, .int .i64 X.l, .int .i64 X.p, .slice A X.d.length c] 24) = w1 at Hb HE ⊢
  obtain ⟨b, hbe⟩ : ∃ b, b = W.heap.size := ⟨_, rfl⟩
  rw [← hbe] at HE ⊢
  clear hbe
  have HA := Lib.hid (awake7 w1 (Ht.out.to Hb.out))
  go_wp2_with fail
  refine HA.out.mono ?_
  rintro e w2 ⟨rfl, hb⟩
  replace HE := blk7 HE hb
  have HB := bel7 Hb hb
  clear hb HA Hb
  obtain ⟨c0, c1, c2, c3, c4, c5, c6⟩ := ents_of HE.out
  go_upto_region 6 with fail
  go_wp2_with fail
  refine (HUn.out w2 (rdW7 Hr1 HB) (Ht.out.to HB.out)).mono ?_
  rintro r w30 ⟨A3, k3, rfl, hxbr, hxbc, hxbm, hb⟩
  replace HE := blk7 HE hb
  replace HB := bel7 HB hb
  clear hb c0 c1 c2 c3 c4 c5 c6
  go_upto_region 7 with fail
  have Ha := al7 w30 (.cells #[.int .i64 U.s, .int .i64 U.o, .int .i64 U.k, .int .i64 U.f, .int .i64 U.l, .int .i64 U.p, .slice A3 U.d.length k3] 24)
  have Hxb := Lib.hid (heap_alloc_new w30 (.cells #[.int .i64 U.s, .int .i64 U.o, .int .i64 U.k, .int .i64 U.f, .int .i64 U.l, .int .i64 U.p, .slice A3 U.d.length k3] 24))
  replace HE := blk7 HE Ha
  replace hxbr := rdk7 hxbr Ha
  replace HB := bel7 HB Ha
  clear Ha
  generalize w30.alloc (.cells #[.int .i64 U.s, .int .i64 U.o, .int .i64 U.k, .int .i64 U.f, .int .i64 U.l, .int .i64 U.p, .slice A3 U.d.length k3] 24) = w3 at Hxb HB hxbr HE ⊢
  obtain ⟨xb, hxbe⟩ : ∃ xb, xb = w30.heap.size := ⟨_, rfl⟩
  rw [← hxbe] at Hxb ⊢
  clear hxbe
  have HBd : Hid (Below W.heap.size W w3.drew) := HB.out.drew
  go_cut [38] (fun s wx => s = .bool false ∧ Hid (wx.heap[b]? = some (.cells #[.int .i64 X.s, .int .i64 X.o, .int .i64 X.k, .int .i64 X.f, .int .i64 X.l, .int .i64 X.p, .slice A X.d.length c] 24 (0, 0))) ∧ Hid (Below W.heap.size W wx))
  case first =>
    have c0 := (ents_of Hxb.out).1
    have c1 := (ents_of Hxb.out).2.1
    have c2 := (ents_of Hxb.out).2.2.1
    have c3 := (ents_of Hxb.out).2.2.2.1
    have c4 := (ents_of Hxb.out).2.2.2.2.1
    have c5 := (ents_of Hxb.out).2.2.2.2.2.1
    have c6 := (ents_of Hxb.out).2.2.2.2.2.2
    by_cases hE0 : E = 0
    · have HL1 := Lib.hid (Hinv.out hE0)
      subst hE0
      rw [HL1.out] at HPu
      have hs1 := str_any (w := w3.drew) (c := k1) (rdW7 Hr1 HBd)
      clear HL1 Hinv
      go_region_with (go_at_call 17; refine (HPu.out _ _ _ (by exact hxbr.out) (Ht.out.to HBd.out)).mono ?_; rintro r w4 ⟨A4, k4, rfl, ho4, hc4, hk4, hb⟩; have hbx := drew7 hb; have HB4 := bel7 HB hbx; have HE4 := blk7 HE hbx; have hs4 := str_any (c := k4) (Rd.own ho4.out); have hs2 := str_any (c := k1) (rdW7 Hr1 HB4); clear hb hbx ho4)
      all_goals
        go_wp2_with fail
        go_meet
        exact ⟨by first | rfl | simp, HE4, HB4⟩
    · have hE1 : (E == 0) = false := by simpa using hE0
      clear Hinv
      go_quiet (fail)
      go_wp2_with fail
      go_meet
      exact ⟨rfl, HE, belowDrewN HB.out _⟩
  case rest =>
    obtain ⟨rfl, HE1, HB1⟩ := hcut
    clear HE HB Hxb hxbr HBd hxbc hxbm HPu HUn Hinv
    have HE := HE1
    have HB := HB1
    clear HE1 HB1
    obtain ⟨c0, c1, c2, c3, c4, c5, c6⟩ := ents_of HE.out
    go_wp2_with fail
    refine (HPk.out _ (rdW7 Hr HB) (Ht.out.to HB.out)).mono ?_
    rintro r w5 ⟨A5, k5, rfl, ho5, hc5, hk5, hb⟩
    replace HE := blk7 HE hb
    replace HB := bel7 HB hb
    clear hb HPk c0 c1 c2 c3 c4 c5 c6
    obtain ⟨c0, c1, c2, c3, c4, c5, c6⟩ := ents_of HE.out
    rw [← HPL.out] at hc5 ho5 ⊢
    have hpr := Lib.hid (Rd.own ho5.out)
    have HC := Lib.hid (xCheck X A c w5)
    rw [He.out] at HC
    clear ho5
    go_wp2_with fail
    refine HC.out.mono ?_
    rintro r w6 ⟨rfl, hb⟩
    replace HE := blk7 HE hb
    replace HB := bel7 HB hb
    replace hpr := rdk7 hpr hb
    clear hb HC c0 c1 c2 c3 c4 c5 c6
    go_upto_region 12 with fail
    go_wp2_with fail
    refine (HUp.out w6 _ _ hpr.out hc5 hk5 (Ht.out.to HB.out)).mono ?_
    rintro r w70 ⟨A7, k7, rfl, hubr, hubc, hubm, hb⟩
    replace HE := blk7 HE hb
    replace hpr := rdk7 hpr hb
    replace HB := bel7 HB hb
    clear hb
    go_upto_region 13 with fail
    have Ha := al7 w70 (.cells #[.int .i64 Y.s, .int .i64 Y.o, .int .i64 Y.k, .int .i64 Y.f, .int .i64 Y.l, .int .i64 Y.p, .slice A7 Y.d.length k7] 24)
    have Hub := Lib.hid (heap_alloc_new w70 (.cells #[.int .i64 Y.s, .int .i64 Y.o, .int .i64 Y.k, .int .i64 Y.f, .int .i64 Y.l, .int .i64 Y.p, .slice A7 Y.d.length k7] 24))
    replace HE := blk7 HE Ha
    replace hpr := rdk7 hpr Ha
    replace hubr := rdk7 hubr Ha
    replace HB := bel7 HB Ha
    clear Ha
    generalize w70.alloc (.cells #[.int .i64 Y.s, .int .i64 Y.o, .int .i64 Y.k, .int .i64 Y.f, .int .i64 Y.l, .int .i64 Y.p, .slice A7 Y.d.length k7] 24) = w7 at Hub HB hubr HE hpr ⊢
    obtain ⟨ub, hube⟩ : ∃ ub, ub = w70.heap.size := ⟨_, rfl⟩
    rw [← hube] at Hub ⊢
    clear hube
    obtain ⟨c0, c1, c2, c3, c4, c5, c6⟩ := ents_of HE.out
    go_wp2_with fail
    refine (HCl.out w7 (rdW7 Hr HB) (Ht.out.to HB.out)).mono ?_
    rintro r w8 ⟨A8, k8, rfl, hvbr, hvbc, hvbm, hb⟩
    replace HE := blk7 HE hb
    replace Hub := blk7 Hub hb
    replace hubr := rdk7 hubr hb
    replace hpr := rdk7 hpr hb
    replace HB := bel7 HB hb
    clear hb c0 c1 c2 c3 c4 c5 c6 HCl
    go_upto_region 14 with fail
    have Ha := al7 w8 (.cells #[.int .i64 Y.s, .int .i64 Y.o, .int .i64 Y.k, .int .i64 Y.f, .int .i64 Y.l, .int .i64 Y.p, .slice A8 Y.d.length k8] 24)
    have Hvb := Lib.hid (heap_alloc_new w8 (.cells #[.int .i64 Y.s, .int .i64 Y.o, .int .i64 Y.k, .int .i64 Y.f, .int .i64 Y.l, .int .i64 Y.p, .slice A8 Y.d.length k8] 24))
    replace Hub := blk7 Hub Ha
    replace hubr := rdk7 hubr Ha
    replace hvbr := rdk7 hvbr Ha
    replace hpr := rdk7 hpr Ha
    replace HB := bel7 HB Ha
    clear Ha HE
    generalize w8.alloc (.cells #[.int .i64 Y.s, .int .i64 Y.o, .int .i64 Y.k, .int .i64 Y.f, .int .i64 Y.l, .int .i64 Y.p, .slice A8 Y.d.length k8] 24) = w9 at Hvb Hub hubr hvbr hpr HB ⊢
    obtain ⟨vb, hvbe⟩ : ∃ vb, vb = w8.heap.size := ⟨_, rfl⟩
    rw [← hvbe] at Hvb ⊢
    clear hvbe
    have d0 := (ents_of Hub.out).1
    have d1 := (ents_of Hub.out).2.1
    have d2 := (ents_of Hub.out).2.2.1
    have d3 := (ents_of Hub.out).2.2.2.1
    have d4 := (ents_of Hub.out).2.2.2.2.1
    have d5 := (ents_of Hub.out).2.2.2.2.2.1
    have d6 := (ents_of Hub.out).2.2.2.2.2.2
    have c0 := (ents_of Hvb.out).1
    have c1 := (ents_of Hvb.out).2.1
    have c2 := (ents_of Hvb.out).2.2.1
    have c3 := (ents_of Hvb.out).2.2.2.1
    have c4 := (ents_of Hvb.out).2.2.2.2.1
    have c5 := (ents_of Hvb.out).2.2.2.2.2.1
    have c6 := (ents_of Hvb.out).2.2.2.2.2.2
    clear Hub
    go_region_with (first
      | (go_at_call 12; refine (HS.out _ _ _ _ _ (by first | exact hubr.out | exact hcl.out) (by exact hvbr.out)).mono ?_; rintro r wn ⟨rfl, hb⟩; (first | have hbx := drew7 hb | have hbx := hb); have hubr := rdk7 hubr hbx; have hvbr := rdk7 hvbr hbx; have hpr := rdk7 hpr hbx; have Hvb := blk7 Hvb hbx; have HB := bel7 HB hbx; have hsp := str_any (c := k5) hpr.out; have e0 := (ents_of Hvb.out).1; have e1 := (ents_of Hvb.out).2.1; have e2 := (ents_of Hvb.out).2.2.1; have e3 := (ents_of Hvb.out).2.2.2.1; have e4 := (ents_of Hvb.out).2.2.2.2.1; have e5 := (ents_of Hvb.out).2.2.2.2.2.1; have e6 := (ents_of Hvb.out).2.2.2.2.2.2; clear hb hbx)
      | (go_at_call 13; refine (HCY.out _ _ _ (by exact hvbr.out) (Ht.out.to HB.out)).mono ?_; rintro r wn ⟨Ac, kc, rfl, hcl, _, _, hbx⟩; have hb := hbx; have hubr := rdk7 hubr hbx; have hvbr := rdk7 hvbr hbx; have hpr := rdk7 hpr hbx; have Hvb := blk7 Hvb hbx; have HB := bel7 HB hbx; have hsp := str_any (c := k5) hpr.out; have e0 := (ents_of Hvb.out).1; have e1 := (ents_of Hvb.out).2.1; have e2 := (ents_of Hvb.out).2.2.1; have e3 := (ents_of Hvb.out).2.2.2.1; have e4 := (ents_of Hvb.out).2.2.2.2.1; have e5 := (ents_of Hvb.out).2.2.2.2.2.1; have e6 := (ents_of Hvb.out).2.2.2.2.2.2; clear hb hbx)
      | (go_at_call 11; refine (HKY.out _ _ _).mono ?_; rintro r wn ⟨rfl, hbx⟩; have hb := hbx; have hubr := rdk7 hubr hbx; have hvbr := rdk7 hvbr hbx; have hpr := rdk7 hpr hbx; have Hvb := blk7 Hvb hbx; have HB := bel7 HB hbx; have hsp := str_any (c := k5) hpr.out; have e0 := (ents_of Hvb.out).1; have e1 := (ents_of Hvb.out).2.1; have e2 := (ents_of Hvb.out).2.2.1; have e3 := (ents_of Hvb.out).2.2.2.1; have e4 := (ents_of Hvb.out).2.2.2.2.1; have e5 := (ents_of Hvb.out).2.2.2.2.2.1; have e6 := (ents_of Hvb.out).2.2.2.2.2.2; clear hb hbx)
      | (go_at_call 17; refine (HPY.out _ _ _ (by exact hvbr.out) (Ht.out.to HB.out)).mono ?_; rintro r wn ⟨Aq, kq, rfl, hoq, _, _, hbx⟩; have hb := hbx; have hsq := str_any (c := kq) (Rd.own hoq.out); have hubr := rdk7 hubr hbx; have hvbr := rdk7 hvbr hbx; have hpr := rdk7 hpr hbx; have Hvb := blk7 Hvb hbx; have HB := bel7 HB hbx; have hsp := str_any (c := k5) hpr.out; have e0 := (ents_of Hvb.out).1; have e1 := (ents_of Hvb.out).2.1; have e2 := (ents_of Hvb.out).2.2.1; have e3 := (ents_of Hvb.out).2.2.2.1; have e4 := (ents_of Hvb.out).2.2.2.2.1; have e5 := (ents_of Hvb.out).2.2.2.2.2.1; have e6 := (ents_of Hvb.out).2.2.2.2.2.2; clear hb hbx))
    all_goals
      go_wp2_with fail
      go_ret
      exact ⟨by first | rfl | simp, HB.out⟩

set_option maxRecDepth 10000 in
theorem EntryBack_walk {H : Type} {enc : TypeId × Value → H} (W : World) (base : Nat) {v0 : Value} {d0 : DataW H} {p0 : List MemPlace} (k0 : Value.okWide Tryd.prog W .any base 24 v0) (h0 : DataW.Trod enc Tryd.prog W 0 (fun _ => true) true 24 v0 d0 p0) {v1 : Value} {d1 : DataW H} {p1 : List MemPlace} (k1 : Value.okWide Tryd.prog W .any base 22 v1) (h1 : DataW.Trod enc Tryd.prog W 0 (fun _ => true) true 22 v1 d1 p1) (ht : T7 W) :
    Calls Tryd.prog 6 #[v0, v1] W (Yes W) := by
  obtain ⟨S, O, K, F, L, P, A, n, c, l, rfl, hr, _, _⟩ := ar_entry k0 h0
  obtain rfl := hr.1
  obtain ⟨A1, n1, c1, l1, rfl, hr1, hc1, hm1⟩ := ar_bytes Tryd.underlying22 Tryd.underlying5 (by kernel_rfl) k1 h1
  by_cases hn : 1000 < l.length ∨ 3000 < n1
  · exact EntryBack_big ⟨S, O, K, F, L, P, l⟩ A c A1 n1 c1 W hr ht hn
  by_cases hM : May7 ⟨S, O, K, F, L, P, l⟩
  · exact EntryBack_yes ⟨S, O, K, F, L, P, l⟩ A c A1 n1 c1 l1 W hr hr1 hc1 hm1 ht (by show l.length ≤ 1000; omega) (by omega) hM
  exact EntryBack_no ⟨S, O, K, F, L, P, l⟩ A c A1 n1 c1 l1 W hr hr1 hc1 hm1 ht (by show l.length ≤ 1000; omega) (by omega) hM
end Go.Proofs.YtfabcmohaikfoaaDoor
