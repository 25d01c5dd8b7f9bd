/- Heads of images: contract of the document's Diff. -/
import Derived.Test.YtaobdebeglenaaaHdB
import Derived.Test.YtaobdebeglenaaaObC
import Derived.Deep.Matrix
namespace Go.Proofs.Ytaobdebeglenaaa
open Go.RowKit

theorem Try.infoL : (Try.prog.info? 24).map (fun i => (i.zero, i.size, i.bytes)) = some (some (.slice none 0 0), 1, 24) := by kernel_rfl
theorem rdII_own {w : World} {B n c : Nat} {A : Option Addr} {vs : List Value} {ll : List (List Int)} (h : w.ownsRow B 24 1 (.slice A n c) n vs) (hn : ll.length = n)
    (hv : ∀ r (hr : r < ll.length), ∃ Aj nj cj, vs[r]? = some (.slice Aj nj cj) ∧ RdI w w.heap.size Aj nj ll[r] ∧ nj ≤ 9223372036854775807) : RdII w w.heap.size A n ll := by
  refine ⟨hn, fun r hr => ?_⟩
  obtain ⟨Aj, nj, cj, h1, h2, h3⟩ := hv r hr
  rcases ownForm h with ⟨_, h0⟩ | ⟨g, c', he, _, hg, _, _⟩
  · omega
  · cases he
    have e : (⟨g, 0, none⟩ : Addr).add r = ⟨g, r, none⟩ := by unfold Addr.add; split <;> simp_all
    refine ⟨_, Aj, cj, rfl, hg, ?_, by rw [h2.1]; exact h2, by rw [h2.1]; exact h3⟩
    rw [e, h.cellAt r (by omega), h1, h2.1]
/-- what Diff tells -/
def DiP (w : World) (h : Hd) (f t : Int) (e : Ending) (w' : World) : Prop :=
  ∃ A n c, e = .returned (.tuple #[.slice A n c, .int .i64 (diffE h f t)]) ∧ RdI w' w'.heap.size A n (if diffE h f t = 0 then diffH h f t else []) ∧ n ≤ 9223372036854775807 ∧ Below w.heap.size w w'
/-- the maps from a + 1 to b -/
def partH (ss : List Sn) (a b : Nat) : List (List Int) := ((ss.take (b + 1)).drop (a + 1)).map Sn.map
theorem part_len {ss : List Sn} {a b : Nat} (hb : b < ss.length) (hab : a ≤ b) : (partH ss a b).length = b - a := by simp [partH]; omega
theorem part_at {ss : List Sn} {a b r : Nat} (hb : b < ss.length) (hr : r < (partH ss a b).length) : ∃ h : a + 1 + r < ss.length, (partH ss a b)[r] = ss[a + 1 + r].map := by
  have hl : (partH ss a b).length = min (b + 1) ss.length - (a + 1) := by simp [partH]
  refine ⟨by omega, ?_⟩
  simp [partH]
theorem rest_zero (h : Hd) (a : Nat) (f : Int) (ha : a < h.snaps.length) : restH h a f 0 = partH h.snaps a (h.snaps.length - 1) ++ [h.map] := by
  unfold restH partH
  rw [if_pos rfl, show h.snaps.length - 1 + 1 = h.snaps.length by omega, List.take_length]
theorem rest_to (h : Hd) (a b : Nat) (f t : Int) (ht : t ≠ 0) (hb : findH h.snaps t = b) : restH h a f t = partH h.snaps a b := by
  unfold restH partH
  rw [if_neg ht, hb]
  rfl

theorem gone_at {ss : List Sn} {j : Nat} (h : j < ss.length) : goneH ss j = ss[j].map := by unfold goneH; rw [List.getElem?_eq_getElem h]; rfl
set_option maxRecDepth 10000 in
set_option maxHeartbeats 8000000 in
theorem RDiff6 (U C O sz : Int) (Am : Option Addr) (nm cm : Nat) (As : Option Addr) (ns cs : Nat) (last seq f t : Int) (m : List Int) (ss : List Sn) (w : World) (hm : RdI w w.heap.size Am nm m) (hr : RdN w w.heap.size As ns ss) (hn : nm ≤ 100000) (hs : ns ≤ 1000) (hmm : ∀ s ∈ ss, s.map.length ≤ 100000) :
    Calls Try.prog 30 #[hV U C O sz Am nm cm As ns cs last seq, .int .i64 f, .int .i64 t] w (DiP w ⟨U, C, O, sz, m, ss, last, seq⟩ f t) := by
  have Hb := Lib.hid ((Below.refl w.heap.size w).alloc (Nat.le_refl _) (.cells #[.int .i64 U, .int .i64 C, .int .i64 O, .int .i64 sz, .slice Am nm cm, .slice As ns cs, .int .i64 last, .int .i64 seq] 27))
  have Hr := Lib.hid ((hr.below Hb.out).more Hb.out.size)
  have Hm := Lib.hid ((hm.below Hb.out).more Hb.out.size)
  have Hh := Lib.hid (HAt.box w U C O sz (.slice Am nm cm) (.slice As ns cs) last seq 27)
  have Hmm := Lib.hid hmm
  clear hr hm hmm
  go_enter Try.func30, Try.ntmps30
  go_upto_region 1 with fail
  generalize w.alloc (.cells #[.int .i64 U, .int .i64 C, .int .i64 O, .int .i64 sz, .slice Am nm cm, .slice As ns cs, .int .i64 last, .int .i64 seq] 27) = w1 at Hb Hr Hm Hh ⊢
  obtain ⟨b0, hbe⟩ : ∃ b, b = w.heap.size := ⟨_, rfl⟩
  rw [← hbe] at Hh ⊢
  clear hbe
  have c0 := Hh.out.c0
  have c1 := Hh.out.c1
  have c2 := Hh.out.c2
  have c3 := Hh.out.c3
  have c4 := Hh.out.c4
  have c5 := Hh.out.c5
  have c6 := Hh.out.c6
  have c7 := Hh.out.c7
  go_wp2_with fail
  refine (RMay6 U C O sz Am nm cm As ns cs last seq m ss w1 Hm.out Hr.out hn (by omega) Hmm.out).mono ?_
  rintro e w2 ⟨rfl, hb⟩
  replace Hr := Lib.hid ((Hr.out.below hb).more hb.size)
  replace Hm := Lib.hid ((Hm.out.below hb).more hb.size)
  replace Hh := Lib.hid (Hh.out.to hb)
  replace Hb := Lib.hid (Hb.out.trans (hb.mono Hb.out.size))
  clear hb c0 c1 c2 c3 c4 c5 c6 c7
  obtain ⟨my, hmy⟩ : ∃ my, my = decide (MayH ⟨U, C, O, sz, m, ss, last, seq⟩) := ⟨_, rfl⟩
  rw [← hmy]
  have Hmy := Lib.hid hmy
  clear hmy
  have c0 := Hh.out.c0
  have c1 := Hh.out.c1
  have c2 := Hh.out.c2
  have c3 := Hh.out.c3
  have c4 := Hh.out.c4
  have c5 := Hh.out.c5
  have c6 := Hh.out.c6
  have c7 := Hh.out.c7
  cases my
  · have He := Lib.hid (show diffE ⟨U, C, O, sz, m, ss, last, seq⟩ f t = 60 by
      have e := Hmy.out
      simp at e
      unfold diffE
      rw [if_neg e])
    go_wp2_with fail
    exact bodyPost_ret (v := .tuple #[.slice none 0 0, .int .i64 60]) (by simp [results, Try.results30, go_sem]) rfl ⟨none, 0, 0, by rw [He.out], by rw [He.out]; exact RdI.nil, by omega, Hb.out⟩
  · have Hdf := Lib.hid (show diffE ⟨U, C, O, sz, m, ss, last, seq⟩ f t = if findH ss f < 0 ∨ t ≠ 0 ∧ findH ss t < findH ss f then 182 else 0 by
      have e := Hmy.out.symm
      rw [decide_eq_true_iff] at e
      unfold diffE
      rw [if_pos e])
    have Hdh := Lib.hid (show diffH ⟨U, C, O, sz, m, ss, last, seq⟩ f t = changedO (goneH ss (findH ss f).toNat) (restH ⟨U, C, O, sz, m, ss, last, seq⟩ (findH ss f).toNat f t) from rfl)
    clear Hmy
    go_wp2_with fail
    refine (RFind_any U C O sz Am nm cm As ns cs last seq f ss _ w2 Hr.out (Nat.le_refl _) (by omega)).mono ?_
    rintro e w3 ⟨rfl, hb⟩
    replace Hr := Lib.hid ((Hr.out.below hb).more hb.size)
    replace Hm := Lib.hid ((Hm.out.below hb).more hb.size)
    replace Hh := Lib.hid (Hh.out.to hb)
    replace Hb := Lib.hid (Hb.out.trans (hb.mono Hb.out.size))
    clear hb c0 c1 c2 c3 c4 c5 c6 c7
    have c0 := Hh.out.c0
    have c1 := Hh.out.c1
    have c2 := Hh.out.c2
    have c3 := Hh.out.c3
    have c4 := Hh.out.c4
    have c5 := Hh.out.c5
    have c6 := Hh.out.c6
    have c7 := Hh.out.c7
    go_wp2_with fail
    refine (RFind_any U C O sz Am nm cm As ns cs last seq t ss _ w3 Hr.out (Nat.le_refl _) (by omega)).mono ?_
    rintro e w4 ⟨rfl, hb⟩
    replace Hr := Lib.hid ((Hr.out.below hb).more hb.size)
    replace Hm := Lib.hid ((Hm.out.below hb).more hb.size)
    replace Hh := Lib.hid (Hh.out.to hb)
    replace Hb := Lib.hid (Hb.out.trans (hb.mono Hb.out.size))
    clear hb c0 c1 c2 c3 c4 c5 c6 c7
    have c0 := Hh.out.c0
    have c1 := Hh.out.c1
    have c2 := Hh.out.c2
    have c3 := Hh.out.c3
    have c4 := Hh.out.c4
    have c5 := Hh.out.c5
    have c6 := Hh.out.c6
    have c7 := Hh.out.c7
    have Hfr := Lib.hid (findH_range f ss)
    have Htr := Lib.hid (findH_range t ss)
    have Hfi := Lib.hid (fun k h => findH_id (x := f) (l := ss) (k := k) h)
    obtain ⟨ka, hka⟩ : ∃ k, k = findH ss f := ⟨_, rfl⟩
    obtain ⟨kb, hkb⟩ : ∃ k, k = findH ss t := ⟨_, rfl⟩
    rw [← hka] at Hdf Hdh Hfr Hfi ⊢
    rw [← hkb] at Hdf Htr ⊢
    have Hka := Lib.hid hka
    have Hkb := Lib.hid hkb
    clear hka hkb
    by_cases hbad : ka < 0 ∨ t ≠ 0 ∧ kb < ka
    · have He := Lib.hid (show diffE ⟨U, C, O, sz, m, ss, last, seq⟩ f t = 182 by rw [Hdf.out, if_pos hbad])
      have Hbad := Lib.hid hbad
      clear hbad
      go_upto_region 6 with fail
      go_cut [33] (fun s33 wx => s33 = .bool true ∧ wx = w4)
      case first =>
        by_cases g0 : ka < 0
        · go_wp2_with fail
          go_meet
          exact ⟨rfl, rfl⟩
        · have g1 : t ≠ 0 := by have := Hbad.out; omega
          have g2 : kb < ka := by have := Hbad.out; omega
          have g1b : (t != 0) = true := by simpa using g1
          go_wp2_with fail
          go_meet
          exact ⟨rfl, rfl⟩
      case rest =>
        obtain ⟨rfl, rfl⟩ := hcut
        go_wp2_with fail
        exact bodyPost_ret (v := .tuple #[.slice none 0 0, .int .i64 182]) (by simp [results, Try.results30, go_sem]) rfl ⟨none, 0, 0, by rw [He.out], by rw [He.out]; exact RdI.nil, by omega, Hb.out⟩
    · have He := Lib.hid (show diffE ⟨U, C, O, sz, m, ss, last, seq⟩ f t = 0 by rw [Hdf.out, if_neg hbad])
      obtain ⟨a, rfl⟩ : ∃ a : Nat, ka = a := ⟨ka.toNat, by omega⟩
      have hal : a < ss.length := by have := Hfr.out.2; omega
      have han : a < ns := by rw [← Hr.out.1]; exact hal
      have Hbad := Lib.hid hbad
      obtain ⟨bI, hbI⟩ : ∃ bI : Nat, (bI : Int) = if t = 0 then (ns : Int) - 1 else kb := by
        by_cases q : t = 0
        · rw [if_pos q]; exact ⟨ns - 1, by omega⟩
        · rw [if_neg q]; exact ⟨kb.toNat, by omega⟩
      have hbn : bI < ns ∧ a ≤ bI := by
        have h1 := Htr.out.2
        rw [Hr.out.1] at h1
        by_cases q : t = 0
        · rw [if_pos q] at hbI; omega
        · rw [if_neg q] at hbI; omega
      have HbI := Lib.hid hbI
      have Hal := Lib.hid hal
      clear hbad hbI hal
      go_upto_region 6 with fail
      go_cut [33] (fun s33 wx => s33 = .bool false ∧ wx = w4)
      case first =>
        have g0 : ¬ (a : Int) < 0 := by omega
        have g0b : (0 : Int) ≤ (a : Int) := by omega
        by_cases g1 : t = 0
        · subst g1
          go_wp2_with fail
          go_meet
          exact ⟨by first | rfl | simp, rfl⟩
        · have g1b : (t != 0) = true := by simpa using g1
          have g2 : ¬ kb < (a : Int) := by have := Hbad.out; omega
          go_wp2_with fail
          go_meet
          exact ⟨by first | rfl | simp, rfl⟩
      case rest =>
        obtain ⟨rfl, rfl⟩ := hcut
        clear Hbad
        go_upto_if 35 with fail
        go_cut [10] (fun s10 wx => s10 = .int .i64 (bI : Int) ∧ wx = wc)
        case first =>
          by_cases g1 : t = 0
          · have hb1 : (ns : Int) - 1 = (bI : Int) := by have h := HbI.out; rw [if_pos g1] at h; exact h.symm
            subst g1
            go_wp2_with fail
            go_meet
            exact ⟨by first | rfl | (congr 1; omega), rfl⟩
          · have g1b : (t == 0) = false := by simpa using g1
            have hb1 := Lib.hid (show (bI : Int) = kb by have h := HbI.out; rw [if_neg g1] at h; exact h)
            go_wp2_with fail
            go_meet
            exact ⟨by rw [hb1.out], rfl⟩
        case rest =>
          obtain ⟨rfl, rfl⟩ := hcut
          obtain ⟨hb1, hb2⟩ := hbn
          obtain ⟨g, o, _, _, _, rfl, hg, _⟩ := Hr.out.2 a Hal.out
          have each : ∀ j, j < ns → ∃ z : Option Addr × Nat × Nat, wc.cell? ⟨g, o + j * 3 + 2, none⟩ = some (.slice z.1 z.2.1 z.2.2) ∧ RdI wc wc.heap.size z.1 z.2.1 (goneH ss j) ∧ z.2.1 ≤ 9223372036854775807 := fun j hj => by
            have hjl : j < ss.length := by rw [Hr.out.1]; exact hj
            obtain ⟨g', o', Aj, nj, cj, he, _, _, _, x2, h6, h7⟩ := Hr.out.2 j hjl
            cases he
            exact ⟨(Aj, nj, cj), x2, by rw [gone_at hjl]; exact h6, h7⟩
          obtain ⟨Z, hZ⟩ := Go.Deep.choose_lt each
          have HZ := Lib.hid hZ
          clear each hZ
          obtain ⟨inf, hi, hz0, hz1, hz2⟩ := info_parts Try.infoL
          obtain ⟨wd, hwd⟩ : ∃ wd, wd = wc := ⟨_, rfl⟩
          subst hwd
          clear c0 c1 c2 c3 c4 c5 c6 c7
          go_wp2_with fail
          go_loopw [11, 12] (fun v iv wr => ∃ q I : Nat, I ≤ bI + 1 ∧ Hid (I = a + 1 + q) ∧ iv = .int .i64 (I : Int) ∧ Hid (wr.ownsRow wd.heap.size 24 1 v q ((List.range q).map fun r => Value.slice (Z (a + 1 + r)).1 (Z (a + 1 + r)).2.1 (Z (a + 1 + r)).2.2)) ∧ Hid (Below wd.heap.size wd wr)) (fun _ iv _ => bI + 2 - (intOf iv).toNat)
          case atStart => exact ⟨0, a + 1, by omega, rfl, by go_num, World.ownsRow_nil _ _ _ _, Below.refl _ _⟩
          case round =>
            obtain ⟨q, I, hI, HI, rfl, Hown, Hbr⟩ := hrel
            have Gh := Lib.hid (Hh.out.to Hbr.out)
            have c5 := Gh.out.c5
            have c4 := Gh.out.c4
            have hI0 : (0 : Int) ≤ (I : Int) := by omega
            have hws := Hbr.out.size
            have hq : q ≤ 2000 := by have := HI.out; omega
            obtain ⟨A3, c3, rfl, _, _⟩ := ownI Hown.out
            by_cases hgo : I ≤ bI
            · have hgo' : (I : Int) ≤ (bI : Int) := by omega
              have hIn : (I : Int) < (ns : Int) := by omega
              obtain ⟨z2, _, _⟩ := HZ.out I (by omega)
              have x2 := (Hbr.out.cell (p := ⟨g, o + I * 3 + 2, none⟩) hg).trans z2
              have Hst := Lib.hid (show (List.range (q + 1)).map (fun r => Value.slice (Z (a + 1 + r)).1 (Z (a + 1 + r)).2.1 (Z (a + 1 + r)).2.2) = (List.range q).map (fun r => Value.slice (Z (a + 1 + r)).1 (Z (a + 1 + r)).2.1 (Z (a + 1 + r)).2.2) ++ [Value.slice (Z I).1 (Z I).2.1 (Z I).2.2] by rw [List.range_succ, List.map_append, HI.out]; rfl)
              clear z2
              generalize Z I = z at x2 Hst
              obtain ⟨z1, z2, z3⟩ := z
              have x2 : wr.cell? ⟨g, o + I * 3 + 2, none⟩ = some (.slice z1 z2 z3) := x2
              go_wp2_with (at_builtin; refine wpList_append_rd rfl (.tmp 47) (.tmp 54) 83 rfl wd.heap.size 24 inf (.slice none 0 0) 24 Try.underlying83 hi hz0 hz1 hz2 rfl _ _ _ rfl (Hown.out.alloc _) (some ⟨wr.heap.size, 0, none⟩) 1 1 [.slice z1 z2 z3] rfl rfl (fun _ => ⟨_, rfl, one_new wr _ _⟩) (by intro u hu; simp at hu; subst hu; rfl) (by simp only [maxLen]; omega) (by omega) (by simp; omega) ?_; intro v2 w5 hown2 hg2; have Hb2 := Lib.hid ((Hbr.out.alloc hws _).grown hg2 (by simp; omega) (fun k hk => (Hown.out.lt k hk).1)); have Hown2 := Lib.hid hown2; clear hown2 hg2)
              go_roundw
              case rel => exact ⟨q + 1, I + 1, by omega, Lib.hid (by have := HI.out; omega), by go_num, by rw [Hst.out]; exact Hown2, Hb2⟩
              case measure => simp [intOf]; omega
            · have hgo' : (bI : Int) < (I : Int) := by omega
              have Hq := Lib.hid (show q = bI - a by have := HI.out; omega)
              have ha0 : (0 : Int) ≤ (a : Int) := by omega
              have ha1 : (a : Int) < (ns : Int) := by omega
              have Hbw := Lib.hid (Hb.out.trans (Hbr.out.mono Hb.out.size))
              have Hval : Hid (∀ (w9 : World), Below wd.heap.size wd w9 → ∀ r, r < (partH ss a bI).length → ∃ Aj nj cj, ((List.range q).map fun r => Value.slice (Z (a + 1 + r)).1 (Z (a + 1 + r)).2.1 (Z (a + 1 + r)).2.2)[r]? = some (.slice Aj nj cj) ∧ (∀ h : r < (partH ss a bI).length, RdI w9 w9.heap.size Aj nj (partH ss a bI)[r]) ∧ nj ≤ 9223372036854775807) := fun w9 h9 r hr => by
                obtain ⟨h1, h2⟩ := part_at (by rw [Hr.out.1]; exact hb1) hr
                have hl := part_len (ss := ss) (a := a) (b := bI) (by rw [Hr.out.1]; exact hb1) hb2
                obtain ⟨_, k2, k3⟩ := HZ.out (a + 1 + r) (by rw [← Hr.out.1]; exact h1)
                refine ⟨_, _, _, by rw [List.getElem?_map, List.getElem?_range (by have := Hq.out; omega)]; rfl, fun _ => ?_, k3⟩
                rw [h2, ← gone_at h1]
                exact ((k2.below h9).more h9.size)
              have Hpl := Lib.hid (show (partH ss a bI).length = q by rw [part_len (by rw [Hr.out.1]; exact hb1) hb2, Hq.out])
              obtain ⟨z2, k2, k3⟩ := HZ.out a han
              have Kz := Lib.hid k2
              have X2 := Lib.hid z2
              clear z2 k2
              generalize hzz : Z a = z at X2 Kz k3
              clear hzz
              obtain ⟨z1, z2, z3⟩ := z
              have k3 : z2 ≤ 9223372036854775807 := k3
              replace X2 : Hid (wd.cell? ⟨g, o + a * 3 + 2, none⟩ = some (.slice z1 z2 z3)) := X2
              replace Kz : Hid (RdI wd wd.heap.size z1 z2 (goneH ss a)) := Kz
              clear HI
              by_cases ht : t = 0
              · subst ht
                have Hrest := Lib.hid (show restH ⟨U, C, O, sz, m, ss, last, seq⟩ a f 0 = partH ss a bI ++ [m] by
                  have h := rest_zero ⟨U, C, O, sz, m, ss, last, seq⟩ a f Hal.out
                  have e := HbI.out
                  rw [if_pos rfl] at e
                  rw [h]
                  show partH ss a (ss.length - 1) ++ _ = _
                  rw [Hr.out.1, show ns - 1 = bI by omega])
                go_upto_region 17 with (at_builtin; refine wpList_append_rd rfl (.tmp 58) (.tmp 61) 83 rfl wd.heap.size 24 inf (.slice none 0 0) 24 Try.underlying83 hi hz0 hz1 hz2 rfl _ _ _ rfl (Hown.out.alloc _) (some ⟨wr.heap.size, 0, none⟩) 1 1 [.slice Am nm cm] rfl rfl (fun _ => ⟨_, rfl, one_new wr _ _⟩) (by intro u hu; simp at hu; subst hu; rfl) (by simp only [maxLen]; omega) (by omega) (by simp; omega) ?_; intro v2 w5 hown2 hg2; obtain ⟨A5, c5', rfl, _, _⟩ := ownI hown2; have Hb2 := Lib.hid ((Hbr.out.alloc hws (.cells #[.slice Am nm cm] 24)).grown hg2 (by simp; omega) (fun k hk => (Hown.out.lt k hk).1)); have Hown2 := Lib.hid hown2; clear hown2 hg2)
                clear c4 c5 Gh
                have Gh := Lib.hid (Hh.out.to Hb2.out)
                have c5 := Gh.out.c5
                have x2 := (Hb2.out.cell (p := ⟨g, o + a * 3 + 2, none⟩) hg).trans X2.out
                have Hall := Lib.hid (rdII_own (ll := partH ss a bI ++ [m]) Hown2.out (by rw [List.length_append, Hpl.out]; rfl) (fun r hr => by
                  by_cases hrq : r < q
                  · obtain ⟨Aj, nj, cj, e1, e2, e3⟩ := Hval.out w5 Hb2.out r (by rw [Hpl.out]; exact hrq)
                    refine ⟨Aj, nj, cj, by rw [List.getElem?_append_left (by simp; exact hrq)]; exact e1, ?_, e3⟩
                    rw [List.getElem_append_left (by rw [Hpl.out]; exact hrq)]
                    exact e2 _
                  · have hr2 : r < q + 1 := by rw [List.length_append, Hpl.out] at hr; simpa using hr
                    obtain rfl : r = q := by omega
                    refine ⟨Am, nm, cm, by rw [List.getElem?_append_right (by simp)]; simp, ?_, by omega⟩
                    rw [List.getElem_append_right (by rw [Hpl.out]; exact Nat.le_refl _)]
                    simp only [Hpl.out, Nat.sub_self, List.getElem_cons_zero]
                    exact (Hm.out.below Hb2.out).more Hb2.out.size))
                have HC := Lib.hid (RChanged_any z1 A5 z2 (q + 1) z3 c5' (goneH ss a) (partH ss a bI ++ [m]) w5 ((Kz.out.below Hb2.out).more Hb2.out.size) Hall.out k3 (by omega))
                have Hbf := Lib.hid (Hb.out.trans (Hb2.out.mono Hb.out.size))
                go_wp2_with fail
                refine HC.out.mono ?_
                rintro e w6 ⟨v6, rfl, hown6, hb6⟩
                obtain ⟨A6, c6', rfl, k6, k7⟩ := ownI hown6
                have R6 := Lib.hid (RdI.own hown6)
                have L6 := Lib.hid (show (changedO (goneH ss a) (partH ss a bI ++ [m])).length ≤ 512 from changedN_len _ _ 512)
                have B6 := Lib.hid (Hbf.out.trans (hb6.mono Hbf.out.size))
                clear hown6 hb6 k6 k7
                generalize hl6 : (changedO (goneH ss a) (partH ss a bI ++ [m])).length = l6 at R6 L6
                clear hl6
                go_wp2_with fail
                exact bodyPost_ret (v := .tuple #[.slice A6 l6 c6', .int .i64 0]) (by simp [results, Try.results30, go_sem]) rfl ⟨A6, l6, c6', by rw [He.out], by rw [He.out, if_pos rfl, Hdh.out, Int.toNat_natCast, Hrest.out]; exact R6.out, by have := L6.out; omega, B6.out⟩
              · have htb : (t == 0) = false := by simpa using ht
                have Hrest := Lib.hid (show restH ⟨U, C, O, sz, m, ss, last, seq⟩ a f t = partH ss a bI by
                  have e := HbI.out
                  rw [if_neg ht] at e
                  exact rest_to ⟨U, C, O, sz, m, ss, last, seq⟩ a bI f t ht (by show findH ss t = _; rw [← Hkb.out, ← e]))
                have x2 := (Hbr.out.cell (p := ⟨g, o + a * 3 + 2, none⟩) hg).trans X2.out
                have Hall := Lib.hid (rdII_own (ll := partH ss a bI) Hown.out Hpl.out (fun r hr => by
                  obtain ⟨Aj, nj, cj, e1, e2, e3⟩ := Hval.out wr Hbr.out r hr
                  exact ⟨Aj, nj, cj, e1, e2 _, e3⟩))
                have HC := Lib.hid (RChanged_any z1 A3 z2 q z3 c3 (goneH ss a) (partH ss a bI) wr ((Kz.out.below Hbr.out).more Hbr.out.size) Hall.out k3 (by omega))
                go_wp2_with fail
                refine HC.out.mono ?_
                rintro e w6 ⟨v6, rfl, hown6, hb6⟩
                obtain ⟨A6, c6', rfl, k6, k7⟩ := ownI hown6
                have R6 := Lib.hid (RdI.own hown6)
                have L6 := Lib.hid (show (changedO (goneH ss a) (partH ss a bI)).length ≤ 512 from changedN_len _ _ 512)
                have B6 := Lib.hid (Hbw.out.trans (hb6.mono Hbw.out.size))
                clear hown6 hb6 k6 k7
                generalize hl6 : (changedO (goneH ss a) (partH ss a bI)).length = l6 at R6 L6
                clear hl6
                go_wp2_with fail
                exact bodyPost_ret (v := .tuple #[.slice A6 l6 c6', .int .i64 0]) (by simp [results, Try.results30, go_sem]) rfl ⟨A6, l6, c6', by rw [He.out], by rw [He.out, if_pos rfl, Hdh.out, Int.toNat_natCast, Hrest.out]; exact R6.out, by have := L6.out; omega, B6.out⟩
end Go.Proofs.Ytaobdebeglenaaa
