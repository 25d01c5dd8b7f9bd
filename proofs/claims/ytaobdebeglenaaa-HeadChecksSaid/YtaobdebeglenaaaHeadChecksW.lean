/- The walk of the law HeadChecks. (Written by wip/genhd.py.) -/
import Derived.Test.YtaobdebeglenaaaMk
import Derived.Test.YtaobdebeglenaaaMl
import Derived.Deep.RegionHeld3
namespace Go.Proofs.Ytaobdebeglenaaa
open Go.ChangeShapes Go.WideShapes Go.ChangeAt Go.RowKit Go.Joins

set_option maxRecDepth 10000 in
set_option maxHeartbeats 8000000 in
theorem HeadChecks_core (U C O sz last seq : Int) (Am As : Option Addr) (nm cm ns cs : Nat) (m : List Int) (ss : List Sn) (id x : Int) (W : World) (hm : RdI W W.heap.size Am nm m) (hs : RdN W W.heap.size As ns ss) (_hn : nm ≤ 9223372036854775807) (hk : ns ≤ cs ∧ cs ≤ 9223372036854775807) :
    Calls Try.prog 3 #[hV U C O sz Am nm cm As ns cs last seq, .int .i64 id, .int .i64 x] W (Yes W) := by
  have Hm := Lib.hid hm
  have Hs := Lib.hid hs
  have K := Lib.hid hk
  clear hm hs hk
  go_enter Try.func3, Try.ntmps3
  go_upto_region 1 with fail
  have B := alB6 W (.cells #[.int .i64 U, .int .i64 C, .int .i64 O, .int .i64 sz, .slice Am nm cm, .slice As ns cs, .int .i64 last, .int .i64 seq] 27)
  have Bx := Lib.hid (heap_alloc_new W (.cells #[.int .i64 U, .int .i64 C, .int .i64 O, .int .i64 sz, .slice Am nm cm, .slice As ns cs, .int .i64 last, .int .i64 seq] 27))
  obtain ⟨b, hblk⟩ : ∃ b, b = W.heap.size := ⟨_, rfl⟩
  rw [← hblk] at Bx ⊢
  clear hblk
  generalize W.alloc (.cells #[.int .i64 U, .int .i64 C, .int .i64 O, .int .i64 sz, .slice Am nm cm, .slice As ns cs, .int .i64 last, .int .i64 seq] 27) = w0 at B Bx ⊢
  go_wp2_with fail
  refine (awake6 _).mono ?_
  rintro e w1 ⟨rfl, hb0⟩
  have hb := Lib.hid hb0
  replace Bx := blk_keep Bx hb
  replace B := belO6 B hb
  clear hb hb0
  obtain ⟨ca0, ca1, ca2, ca3, ca4, ca5, ca6, ca7⟩ := heads_of Bx.out
  go_wp2_with fail
  refine (rFew cm cs ((Hs.out.below B.out).more B.out.size)).mono ?_
  rintro e w2 ⟨rfl, hb⟩
  replace Bx := blk_keep Bx hb
  replace B := belO6 B hb
  clear ca0 ca1 ca2 ca3 ca4 ca5 ca6 ca7
  clear hb
  by_cases hf : fewB nm ns ss = true
  · have X := few_hv (U := U) (C := C) (O := O) (sz := sz) (last := last) (seq := seq) ((Hm.out.below B.out).more B.out.size) ((Hs.out.below B.out).more B.out.size) hf
    rw [hf]
    clear hf Hm Hs
    obtain ⟨g, hg⟩ : ∃ g : Hd, g = ⟨U, C, O, sz, m, ss, last, seq⟩ := ⟨_, rfl⟩
    rw [← hg] at X
    have Hg := Lib.hid hg
    clear hg
    obtain ⟨ca0, ca1, ca2, ca3, ca4, ca5, ca6, ca7⟩ := heads_of Bx.out
    go_wp2_with fail
    refine (rMay cm cs X).mono ?_
    rintro e w3 ⟨rfl, hb⟩
    replace Bx := blk_keep Bx hb
    replace B := belO6 B hb
    replace X := HVl.keep X hb
    clear ca0 ca1 ca2 ca3 ca4 ca5 ca6 ca7
    clear hb
    by_cases hmy : MayH g
    · rw [decide_eq_true hmy]
      have HM := Lib.hid (mayE_0 hmy)
      clear hmy
      obtain ⟨ca0, ca1, ca2, ca3, ca4, ca5, ca6, ca7⟩ := heads_of Bx.out
      go_wp2_with fail
      refine (pNew U C O x w3).mono ?_
      by_cases hL : Lay U C O ∧ 0 ≤ x ∧ x ≤ 512
      · rw [show newX U C O x = ⟨U, C, O, x, [], [], 0, 0⟩ by unfold newX newE; rw [if_pos hL]; rfl, show newE U C O x = 0 by unfold newE; rw [if_pos hL]]
        rintro e w4 ⟨U1, C1, O1, sz1, Am1, nm1, cm1, As1, ns1, cs1, last1, seq1, rfl, X1, K1, hb⟩
        replace Bx := blk_keep Bx hb
        replace B := belO6 B hb
        replace X := HVl.keep X hb
        clear ca0 ca1 ca2 ca3 ca4 ca5 ca6 ca7
        clear hb
        go_upto_region 11 with fail
        have BA := alB6 w4 (.cells #[.int .i64 U1, .int .i64 C1, .int .i64 O1, .int .i64 sz1, .slice Am1 nm1 cm1, .slice As1 ns1 cs1, .int .i64 last1, .int .i64 seq1] 27)
        have B1 := Lib.hid (heap_alloc_new w4 (.cells #[.int .i64 U1, .int .i64 C1, .int .i64 O1, .int .i64 sz1, .slice Am1 nm1 cm1, .slice As1 ns1 cs1, .int .i64 last1, .int .i64 seq1] 27))
        obtain ⟨b1, hblk⟩ : ∃ b, b = w4.heap.size := ⟨_, rfl⟩
        rw [← hblk] at B1 ⊢
        clear hblk
        replace Bx := blk_keep Bx BA
        replace B := belO6 B BA
        replace X := HVl.keep X BA
        replace X1 := HVl.keep X1 BA
        clear BA
        generalize w4.alloc (.cells #[.int .i64 U1, .int .i64 C1, .int .i64 O1, .int .i64 sz1, .slice Am1 nm1 cm1, .slice As1 ns1 cs1, .int .i64 last1, .int .i64 seq1] 27) = w5 at Bx B X X1 B1 ⊢
        obtain ⟨ca0, ca1, ca2, ca3, ca4, ca5, ca6, ca7⟩ := heads_of Bx.out
        obtain ⟨hL1, hL2, hL3⟩ := hL
        go_wp2_with fail
        refine (May_any U C O w5).mono ?_
        rw [decide_eq_true hL1]
        rintro e w6 ⟨rfl, hb0⟩
        have hb := Lib.hid hb0
        clear hL1 hb0
        replace Bx := blk_keep Bx hb
        replace B := belO6 B hb
        replace X := HVl.keep X hb
        replace X1 := HVl.keep X1 hb
        replace B1 := blk_keep B1 hb
        clear ca0 ca1 ca2 ca3 ca4 ca5 ca6 ca7
        clear hb
        obtain ⟨ca0, ca1, ca2, ca3, ca4, ca5, ca6, ca7⟩ := heads_of B1.out
        obtain ⟨cb0, cb1, cb2, cb3, cb4, cb5, cb6, cb7⟩ := heads_of Bx.out
        go_wp2_with fail
        refine (rSame cm1 cs1 0 0 X1 (HVl.lit _ U C O x)).mono ?_
        rintro e w7 ⟨rfl, hb⟩
        replace Bx := blk_keep Bx hb
        replace B := belO6 B hb
        replace X := HVl.keep X hb
        replace X1 := HVl.keep X1 hb
        replace B1 := blk_keep B1 hb
        clear ca0 ca1 ca2 ca3 ca4 ca5 ca6 ca7 cb0 cb1 cb2 cb3 cb4 cb5 cb6 cb7
        clear hb
        clear X1 B1
        go_upto_region 16 with fail
        have h1 : Hid (∀ w', Hid (Below w7.heap.size w7 w') → VF 16 #[hV U C O sz Am nm cm As ns cs last seq] w' (.int .i64 (mayE g))) := fun w' h => pCheck cm cs (HVl.keep X h) K
        have h2 : Hid (∀ w', Hid (Below w7.heap.size w7 w') → VF 17 #[hV U C O sz Am nm cm As ns cs last seq, .int .i64 id] w' (.int .i64 (findH g.snaps id))) := fun w' h => pFind cm cs id (HVl.keep X h) K
        have h3 : Hid (∀ w', Hid (Below w7.heap.size w7 w') → VF 18 #[hV U C O sz Am nm cm As ns cs last seq, .int .i64 id] w' (.int .i64 (findH g.snaps id))) := fun w' h => rFind cm cs id (HVl.keep X h)
        have h4 : Hid (∀ w', Hid (Below w7.heap.size w7 w') → VF 19 #[hV U C O sz Am nm cm As ns cs last seq] w' (.int .i64 (newestH g.snaps))) := fun w' h => pNewest cm cs (HVl.keep X h) K
        have h5 : Hid (∀ w', Hid (Below w7.heap.size w7 w') → VF 20 #[hV U C O sz Am nm cm As ns cs last seq] w' (.int .i64 (newestH g.snaps))) := fun w' h => rNewest cm cs (HVl.keep X h)
        rw [HM.out] at h1
        generalize findH g.snaps id = q1 at h2 h3
        generalize newestH g.snaps = q2 at h4 h5
        go_region_held3 (fun w' => w'.cell? ⟨b, 0, none⟩ = some (.int .i64 U) ∧ w'.cell? ⟨b, 1, none⟩ = some (.int .i64 C) ∧ w'.cell? ⟨b, 2, none⟩ = some (.int .i64 O) ∧ w'.cell? ⟨b, 3, none⟩ = some (.int .i64 sz) ∧ w'.cell? ⟨b, 4, none⟩ = some (.slice Am nm cm) ∧ w'.cell? ⟨b, 5, none⟩ = some (.slice As ns cs) ∧ w'.cell? ⟨b, 6, none⟩ = some (.int .i64 last) ∧ w'.cell? ⟨b, 7, none⟩ = some (.int .i64 seq) ∧ Hid (Below w7.heap.size w7 w')) (first | exact keep8 (by assumption) (by assumption) | exact start8 Bx | exact startD8 Bx) (first
          | (go_at_call 16; refine (h1.out _ (last8 (by assumption))).mono ?_; rintro e va ⟨rfl, hb⟩)
          | (go_at_call 17; refine (h2.out _ (last8 (by assumption))).mono ?_; rintro e vb ⟨rfl, hb⟩)
          | (go_at_call 18; refine (h3.out _ (last8 (by assumption))).mono ?_; rintro e vc ⟨rfl, hb⟩)
          | (go_at_call 19; refine (h4.out _ (last8 (by assumption))).mono ?_; rintro e vd ⟨rfl, hb⟩)
          | (go_at_call 20; refine (h5.out _ (last8 (by assumption))).mono ?_; rintro e ve ⟨rfl, hb⟩))
        have hz : Hid (Below w7.heap.size w7 ve) := last8 (by assumption)
        replace B := belO6 B hz
        clear hz
        go_wp2_with fail
        go_ret
        exact ⟨by first | rfl | simp, B.out⟩
      · rw [show newX U C O x = hd0 by unfold newX newE; rw [if_neg hL]; rfl, show newE U C O x = 1 by unfold newE; rw [if_neg hL]]
        rintro e w4 ⟨U1, C1, O1, sz1, Am1, nm1, cm1, As1, ns1, cs1, last1, seq1, rfl, X1, K1, hb⟩
        replace Bx := blk_keep Bx hb
        replace B := belO6 B hb
        replace X := HVl.keep X hb
        clear ca0 ca1 ca2 ca3 ca4 ca5 ca6 ca7
        clear hb
        go_upto_region 11 with fail
        have BA := alB6 w4 (.cells #[.int .i64 U1, .int .i64 C1, .int .i64 O1, .int .i64 sz1, .slice Am1 nm1 cm1, .slice As1 ns1 cs1, .int .i64 last1, .int .i64 seq1] 27)
        have B1 := Lib.hid (heap_alloc_new w4 (.cells #[.int .i64 U1, .int .i64 C1, .int .i64 O1, .int .i64 sz1, .slice Am1 nm1 cm1, .slice As1 ns1 cs1, .int .i64 last1, .int .i64 seq1] 27))
        obtain ⟨b1, hblk⟩ : ∃ b, b = w4.heap.size := ⟨_, rfl⟩
        rw [← hblk] at B1 ⊢
        clear hblk
        replace Bx := blk_keep Bx BA
        replace B := belO6 B BA
        replace X := HVl.keep X BA
        replace X1 := HVl.keep X1 BA
        clear BA
        generalize w4.alloc (.cells #[.int .i64 U1, .int .i64 C1, .int .i64 O1, .int .i64 sz1, .slice Am1 nm1 cm1, .slice As1 ns1 cs1, .int .i64 last1, .int .i64 seq1] 27) = w5 at Bx B X X1 B1 ⊢
        obtain ⟨ca0, ca1, ca2, ca3, ca4, ca5, ca6, ca7⟩ := heads_of Bx.out
        have HL := Lib.hid hL
        clear hL
        go_cut [38] (fun s38 wx => s38 = .bool false ∧ Hid (Below w5.heap.size w5 wx))
        case first =>
          go_wp2_with fail
          refine (May_any U C O w5).mono ?_
          rintro e w6 ⟨rfl, hb0⟩
          have hb := Lib.hid hb0
          clear hb0
          by_cases hL1 : Lay U C O
          · rw [decide_eq_true hL1]
            by_cases hL2 : 0 ≤ x
            · have hL3 : ¬ x ≤ 512 := fun q => HL.out ⟨hL1, hL2, q⟩
              clear hL1
              go_wp2_with fail
              go_meet
              exact ⟨by rw [decide_eq_false (by omega)], hb⟩
            · clear hL1
              go_wp2_with fail
              go_meet
              exact ⟨rfl, hb⟩
          · rw [decide_eq_false hL1]
            clear hL1
            go_wp2_with fail
            go_meet
            exact ⟨rfl, hb⟩
        case rest =>
        obtain ⟨rfl, hb⟩ := hcut
        replace Bx := blk_keep Bx hb
        replace B := belO6 B hb
        replace X := HVl.keep X hb
        replace X1 := HVl.keep X1 hb
        replace B1 := blk_keep B1 hb
        clear ca0 ca1 ca2 ca3 ca4 ca5 ca6 ca7
        clear hb
        obtain ⟨ca0, ca1, ca2, ca3, ca4, ca5, ca6, ca7⟩ := heads_of B1.out
        obtain ⟨cb0, cb1, cb2, cb3, cb4, cb5, cb6, cb7⟩ := heads_of Bx.out
        go_wp2_with fail
        refine (rSame cm1 cs1 0 0 X1 (HVl.zero _)).mono ?_
        rintro e w7 ⟨rfl, hb⟩
        replace Bx := blk_keep Bx hb
        replace B := belO6 B hb
        replace X := HVl.keep X hb
        replace X1 := HVl.keep X1 hb
        replace B1 := blk_keep B1 hb
        clear ca0 ca1 ca2 ca3 ca4 ca5 ca6 ca7 cb0 cb1 cb2 cb3 cb4 cb5 cb6 cb7
        clear hb
        clear X1 B1
        go_upto_region 16 with fail
        have h1 : Hid (∀ w', Hid (Below w7.heap.size w7 w') → VF 16 #[hV U C O sz Am nm cm As ns cs last seq] w' (.int .i64 (mayE g))) := fun w' h => pCheck cm cs (HVl.keep X h) K
        have h2 : Hid (∀ w', Hid (Below w7.heap.size w7 w') → VF 17 #[hV U C O sz Am nm cm As ns cs last seq, .int .i64 id] w' (.int .i64 (findH g.snaps id))) := fun w' h => pFind cm cs id (HVl.keep X h) K
        have h3 : Hid (∀ w', Hid (Below w7.heap.size w7 w') → VF 18 #[hV U C O sz Am nm cm As ns cs last seq, .int .i64 id] w' (.int .i64 (findH g.snaps id))) := fun w' h => rFind cm cs id (HVl.keep X h)
        have h4 : Hid (∀ w', Hid (Below w7.heap.size w7 w') → VF 19 #[hV U C O sz Am nm cm As ns cs last seq] w' (.int .i64 (newestH g.snaps))) := fun w' h => pNewest cm cs (HVl.keep X h) K
        have h5 : Hid (∀ w', Hid (Below w7.heap.size w7 w') → VF 20 #[hV U C O sz Am nm cm As ns cs last seq] w' (.int .i64 (newestH g.snaps))) := fun w' h => rNewest cm cs (HVl.keep X h)
        rw [HM.out] at h1
        generalize findH g.snaps id = q1 at h2 h3
        generalize newestH g.snaps = q2 at h4 h5
        go_region_held3 (fun w' => w'.cell? ⟨b, 0, none⟩ = some (.int .i64 U) ∧ w'.cell? ⟨b, 1, none⟩ = some (.int .i64 C) ∧ w'.cell? ⟨b, 2, none⟩ = some (.int .i64 O) ∧ w'.cell? ⟨b, 3, none⟩ = some (.int .i64 sz) ∧ w'.cell? ⟨b, 4, none⟩ = some (.slice Am nm cm) ∧ w'.cell? ⟨b, 5, none⟩ = some (.slice As ns cs) ∧ w'.cell? ⟨b, 6, none⟩ = some (.int .i64 last) ∧ w'.cell? ⟨b, 7, none⟩ = some (.int .i64 seq) ∧ Hid (Below w7.heap.size w7 w')) (first | exact keep8 (by assumption) (by assumption) | exact start8 Bx | exact startD8 Bx) (first
          | (go_at_call 16; refine (h1.out _ (last8 (by assumption))).mono ?_; rintro e va ⟨rfl, hb⟩)
          | (go_at_call 17; refine (h2.out _ (last8 (by assumption))).mono ?_; rintro e vb ⟨rfl, hb⟩)
          | (go_at_call 18; refine (h3.out _ (last8 (by assumption))).mono ?_; rintro e vc ⟨rfl, hb⟩)
          | (go_at_call 19; refine (h4.out _ (last8 (by assumption))).mono ?_; rintro e vd ⟨rfl, hb⟩)
          | (go_at_call 20; refine (h5.out _ (last8 (by assumption))).mono ?_; rintro e ve ⟨rfl, hb⟩))
        have hz : Hid (Below w7.heap.size w7 ve) := last8 (by assumption)
        replace B := belO6 B hz
        clear hz
        go_wp2_with fail
        go_ret
        exact ⟨by first | rfl | simp, B.out⟩
    · rw [decide_eq_false hmy]
      have HM := Lib.hid (mayE_n hmy)
      clear hmy
      obtain ⟨ca0, ca1, ca2, ca3, ca4, ca5, ca6, ca7⟩ := heads_of Bx.out
      go_wp2_with fail
      refine (pNew U C O x w3).mono ?_
      by_cases hL : Lay U C O ∧ 0 ≤ x ∧ x ≤ 512
      · rw [show newX U C O x = ⟨U, C, O, x, [], [], 0, 0⟩ by unfold newX newE; rw [if_pos hL]; rfl, show newE U C O x = 0 by unfold newE; rw [if_pos hL]]
        rintro e w4 ⟨U1, C1, O1, sz1, Am1, nm1, cm1, As1, ns1, cs1, last1, seq1, rfl, X1, K1, hb⟩
        replace Bx := blk_keep Bx hb
        replace B := belO6 B hb
        replace X := HVl.keep X hb
        clear ca0 ca1 ca2 ca3 ca4 ca5 ca6 ca7
        clear hb
        go_upto_region 11 with fail
        have BA := alB6 w4 (.cells #[.int .i64 U1, .int .i64 C1, .int .i64 O1, .int .i64 sz1, .slice Am1 nm1 cm1, .slice As1 ns1 cs1, .int .i64 last1, .int .i64 seq1] 27)
        have B1 := Lib.hid (heap_alloc_new w4 (.cells #[.int .i64 U1, .int .i64 C1, .int .i64 O1, .int .i64 sz1, .slice Am1 nm1 cm1, .slice As1 ns1 cs1, .int .i64 last1, .int .i64 seq1] 27))
        obtain ⟨b1, hblk⟩ : ∃ b, b = w4.heap.size := ⟨_, rfl⟩
        rw [← hblk] at B1 ⊢
        clear hblk
        replace Bx := blk_keep Bx BA
        replace B := belO6 B BA
        replace X := HVl.keep X BA
        replace X1 := HVl.keep X1 BA
        clear BA
        generalize w4.alloc (.cells #[.int .i64 U1, .int .i64 C1, .int .i64 O1, .int .i64 sz1, .slice Am1 nm1 cm1, .slice As1 ns1 cs1, .int .i64 last1, .int .i64 seq1] 27) = w5 at Bx B X X1 B1 ⊢
        obtain ⟨ca0, ca1, ca2, ca3, ca4, ca5, ca6, ca7⟩ := heads_of Bx.out
        obtain ⟨hL1, hL2, hL3⟩ := hL
        go_wp2_with fail
        refine (May_any U C O w5).mono ?_
        rw [decide_eq_true hL1]
        rintro e w6 ⟨rfl, hb0⟩
        have hb := Lib.hid hb0
        clear hL1 hb0
        replace Bx := blk_keep Bx hb
        replace B := belO6 B hb
        replace X := HVl.keep X hb
        replace X1 := HVl.keep X1 hb
        replace B1 := blk_keep B1 hb
        clear ca0 ca1 ca2 ca3 ca4 ca5 ca6 ca7
        clear hb
        obtain ⟨ca0, ca1, ca2, ca3, ca4, ca5, ca6, ca7⟩ := heads_of B1.out
        obtain ⟨cb0, cb1, cb2, cb3, cb4, cb5, cb6, cb7⟩ := heads_of Bx.out
        go_wp2_with fail
        refine (rSame cm1 cs1 0 0 X1 (HVl.lit _ U C O x)).mono ?_
        rintro e w7 ⟨rfl, hb⟩
        replace Bx := blk_keep Bx hb
        replace B := belO6 B hb
        replace X := HVl.keep X hb
        replace X1 := HVl.keep X1 hb
        replace B1 := blk_keep B1 hb
        clear ca0 ca1 ca2 ca3 ca4 ca5 ca6 ca7 cb0 cb1 cb2 cb3 cb4 cb5 cb6 cb7
        clear hb
        clear X1 B1
        go_upto_region 16 with fail
        have h1 : Hid (∀ w', Hid (Below w7.heap.size w7 w') → VF 16 #[hV U C O sz Am nm cm As ns cs last seq] w' (.int .i64 (mayE g))) := fun w' h => pCheck cm cs (HVl.keep X h) K
        have h2 : Hid (∀ w', Hid (Below w7.heap.size w7 w') → VF 17 #[hV U C O sz Am nm cm As ns cs last seq, .int .i64 id] w' (.int .i64 (findH g.snaps id))) := fun w' h => pFind cm cs id (HVl.keep X h) K
        have h3 : Hid (∀ w', Hid (Below w7.heap.size w7 w') → VF 18 #[hV U C O sz Am nm cm As ns cs last seq, .int .i64 id] w' (.int .i64 (findH g.snaps id))) := fun w' h => rFind cm cs id (HVl.keep X h)
        have h4 : Hid (∀ w', Hid (Below w7.heap.size w7 w') → VF 19 #[hV U C O sz Am nm cm As ns cs last seq] w' (.int .i64 (newestH g.snaps))) := fun w' h => pNewest cm cs (HVl.keep X h) K
        have h5 : Hid (∀ w', Hid (Below w7.heap.size w7 w') → VF 20 #[hV U C O sz Am nm cm As ns cs last seq] w' (.int .i64 (newestH g.snaps))) := fun w' h => rNewest cm cs (HVl.keep X h)
        rw [HM.out] at h1
        generalize findH g.snaps id = q1 at h2 h3
        generalize newestH g.snaps = q2 at h4 h5
        go_region_held3 (fun w' => w'.cell? ⟨b, 0, none⟩ = some (.int .i64 U) ∧ w'.cell? ⟨b, 1, none⟩ = some (.int .i64 C) ∧ w'.cell? ⟨b, 2, none⟩ = some (.int .i64 O) ∧ w'.cell? ⟨b, 3, none⟩ = some (.int .i64 sz) ∧ w'.cell? ⟨b, 4, none⟩ = some (.slice Am nm cm) ∧ w'.cell? ⟨b, 5, none⟩ = some (.slice As ns cs) ∧ w'.cell? ⟨b, 6, none⟩ = some (.int .i64 last) ∧ w'.cell? ⟨b, 7, none⟩ = some (.int .i64 seq) ∧ Hid (Below w7.heap.size w7 w')) (first | exact keep8 (by assumption) (by assumption) | exact start8 Bx | exact startD8 Bx) (first
          | (go_at_call 16; refine (h1.out _ (last8 (by assumption))).mono ?_; rintro e va ⟨rfl, hb⟩)
          | (go_at_call 17; refine (h2.out _ (last8 (by assumption))).mono ?_; rintro e vb ⟨rfl, hb⟩)
          | (go_at_call 18; refine (h3.out _ (last8 (by assumption))).mono ?_; rintro e vc ⟨rfl, hb⟩)
          | (go_at_call 19; refine (h4.out _ (last8 (by assumption))).mono ?_; rintro e vd ⟨rfl, hb⟩)
          | (go_at_call 20; refine (h5.out _ (last8 (by assumption))).mono ?_; rintro e ve ⟨rfl, hb⟩))
        have hz : Hid (Below w7.heap.size w7 ve) := last8 (by assumption)
        replace B := belO6 B hz
        clear hz
        go_wp2_with fail
        go_ret
        exact ⟨by first | rfl | simp, B.out⟩
      · rw [show newX U C O x = hd0 by unfold newX newE; rw [if_neg hL]; rfl, show newE U C O x = 1 by unfold newE; rw [if_neg hL]]
        rintro e w4 ⟨U1, C1, O1, sz1, Am1, nm1, cm1, As1, ns1, cs1, last1, seq1, rfl, X1, K1, hb⟩
        replace Bx := blk_keep Bx hb
        replace B := belO6 B hb
        replace X := HVl.keep X hb
        clear ca0 ca1 ca2 ca3 ca4 ca5 ca6 ca7
        clear hb
        go_upto_region 11 with fail
        have BA := alB6 w4 (.cells #[.int .i64 U1, .int .i64 C1, .int .i64 O1, .int .i64 sz1, .slice Am1 nm1 cm1, .slice As1 ns1 cs1, .int .i64 last1, .int .i64 seq1] 27)
        have B1 := Lib.hid (heap_alloc_new w4 (.cells #[.int .i64 U1, .int .i64 C1, .int .i64 O1, .int .i64 sz1, .slice Am1 nm1 cm1, .slice As1 ns1 cs1, .int .i64 last1, .int .i64 seq1] 27))
        obtain ⟨b1, hblk⟩ : ∃ b, b = w4.heap.size := ⟨_, rfl⟩
        rw [← hblk] at B1 ⊢
        clear hblk
        replace Bx := blk_keep Bx BA
        replace B := belO6 B BA
        replace X := HVl.keep X BA
        replace X1 := HVl.keep X1 BA
        clear BA
        generalize w4.alloc (.cells #[.int .i64 U1, .int .i64 C1, .int .i64 O1, .int .i64 sz1, .slice Am1 nm1 cm1, .slice As1 ns1 cs1, .int .i64 last1, .int .i64 seq1] 27) = w5 at Bx B X X1 B1 ⊢
        obtain ⟨ca0, ca1, ca2, ca3, ca4, ca5, ca6, ca7⟩ := heads_of Bx.out
        have HL := Lib.hid hL
        clear hL
        go_cut [38] (fun s38 wx => s38 = .bool false ∧ Hid (Below w5.heap.size w5 wx))
        case first =>
          go_wp2_with fail
          refine (May_any U C O w5).mono ?_
          rintro e w6 ⟨rfl, hb0⟩
          have hb := Lib.hid hb0
          clear hb0
          by_cases hL1 : Lay U C O
          · rw [decide_eq_true hL1]
            by_cases hL2 : 0 ≤ x
            · have hL3 : ¬ x ≤ 512 := fun q => HL.out ⟨hL1, hL2, q⟩
              clear hL1
              go_wp2_with fail
              go_meet
              exact ⟨by rw [decide_eq_false (by omega)], hb⟩
            · clear hL1
              go_wp2_with fail
              go_meet
              exact ⟨rfl, hb⟩
          · rw [decide_eq_false hL1]
            clear hL1
            go_wp2_with fail
            go_meet
            exact ⟨rfl, hb⟩
        case rest =>
        obtain ⟨rfl, hb⟩ := hcut
        replace Bx := blk_keep Bx hb
        replace B := belO6 B hb
        replace X := HVl.keep X hb
        replace X1 := HVl.keep X1 hb
        replace B1 := blk_keep B1 hb
        clear ca0 ca1 ca2 ca3 ca4 ca5 ca6 ca7
        clear hb
        obtain ⟨ca0, ca1, ca2, ca3, ca4, ca5, ca6, ca7⟩ := heads_of B1.out
        obtain ⟨cb0, cb1, cb2, cb3, cb4, cb5, cb6, cb7⟩ := heads_of Bx.out
        go_wp2_with fail
        refine (rSame cm1 cs1 0 0 X1 (HVl.zero _)).mono ?_
        rintro e w7 ⟨rfl, hb⟩
        replace Bx := blk_keep Bx hb
        replace B := belO6 B hb
        replace X := HVl.keep X hb
        replace X1 := HVl.keep X1 hb
        replace B1 := blk_keep B1 hb
        clear ca0 ca1 ca2 ca3 ca4 ca5 ca6 ca7 cb0 cb1 cb2 cb3 cb4 cb5 cb6 cb7
        clear hb
        clear X1 B1
        go_upto_region 16 with fail
        have h1 : Hid (∀ w', Hid (Below w7.heap.size w7 w') → VF 16 #[hV U C O sz Am nm cm As ns cs last seq] w' (.int .i64 (mayE g))) := fun w' h => pCheck cm cs (HVl.keep X h) K
        have h2 : Hid (∀ w', Hid (Below w7.heap.size w7 w') → VF 17 #[hV U C O sz Am nm cm As ns cs last seq, .int .i64 id] w' (.int .i64 (findH g.snaps id))) := fun w' h => pFind cm cs id (HVl.keep X h) K
        have h3 : Hid (∀ w', Hid (Below w7.heap.size w7 w') → VF 18 #[hV U C O sz Am nm cm As ns cs last seq, .int .i64 id] w' (.int .i64 (findH g.snaps id))) := fun w' h => rFind cm cs id (HVl.keep X h)
        have h4 : Hid (∀ w', Hid (Below w7.heap.size w7 w') → VF 19 #[hV U C O sz Am nm cm As ns cs last seq] w' (.int .i64 (newestH g.snaps))) := fun w' h => pNewest cm cs (HVl.keep X h) K
        have h5 : Hid (∀ w', Hid (Below w7.heap.size w7 w') → VF 20 #[hV U C O sz Am nm cm As ns cs last seq] w' (.int .i64 (newestH g.snaps))) := fun w' h => rNewest cm cs (HVl.keep X h)
        rw [HM.out] at h1
        generalize findH g.snaps id = q1 at h2 h3
        generalize newestH g.snaps = q2 at h4 h5
        go_region_held3 (fun w' => w'.cell? ⟨b, 0, none⟩ = some (.int .i64 U) ∧ w'.cell? ⟨b, 1, none⟩ = some (.int .i64 C) ∧ w'.cell? ⟨b, 2, none⟩ = some (.int .i64 O) ∧ w'.cell? ⟨b, 3, none⟩ = some (.int .i64 sz) ∧ w'.cell? ⟨b, 4, none⟩ = some (.slice Am nm cm) ∧ w'.cell? ⟨b, 5, none⟩ = some (.slice As ns cs) ∧ w'.cell? ⟨b, 6, none⟩ = some (.int .i64 last) ∧ w'.cell? ⟨b, 7, none⟩ = some (.int .i64 seq) ∧ Hid (Below w7.heap.size w7 w')) (first | exact keep8 (by assumption) (by assumption) | exact start8 Bx | exact startD8 Bx) (first
          | (go_at_call 16; refine (h1.out _ (last8 (by assumption))).mono ?_; rintro e va ⟨rfl, hb⟩)
          | (go_at_call 17; refine (h2.out _ (last8 (by assumption))).mono ?_; rintro e vb ⟨rfl, hb⟩)
          | (go_at_call 18; refine (h3.out _ (last8 (by assumption))).mono ?_; rintro e vc ⟨rfl, hb⟩)
          | (go_at_call 19; refine (h4.out _ (last8 (by assumption))).mono ?_; rintro e vd ⟨rfl, hb⟩)
          | (go_at_call 20; refine (h5.out _ (last8 (by assumption))).mono ?_; rintro e ve ⟨rfl, hb⟩))
        have hz : Hid (Below w7.heap.size w7 ve) := last8 (by assumption)
        replace B := belO6 B hz
        clear hz
        go_wp2_with fail
        go_ret
        exact ⟨by first | rfl | simp, B.out⟩
  · have hf2 : fewB nm ns ss = false := by simpa using hf
    rw [hf2]
    clear hf hf2
    go_wp2_with fail
    go_ret
    exact ⟨rfl, B.out⟩

set_option maxRecDepth 10000 in
theorem HeadChecks_walk {H : Type} {enc : TypeId × Value → H} (W : World) (base : Nat) {v0 v1 v2 : Value} {d0 : DataW H} {p0 : List MemPlace} {d1 : DataW H} {p1 : List MemPlace} {d2 : DataW H} {p2 : List MemPlace}
    (k0 : Value.okWide Try.prog W .any base 27 v0) (h0 : DataW.Trod enc Try.prog W 0 (fun _ => true) true 27 v0 d0 p0) (k1 : Value.okWide Try.prog W .any base 3 v1) (h1 : DataW.Trod enc Try.prog W 0 (fun _ => true) true 3 v1 d1 p1) (k2 : Value.okWide Try.prog W .any base 3 v2) (h2 : DataW.Trod enc Try.prog W 0 (fun _ => true) true 3 v2 d2 p2) :
    Calls Try.prog 3 #[v0, v1, v2] W (Yes W) := by
  obtain ⟨U, C, O, sz, Am, nm, cm, As, ns, cs, last, seq, m, ss, rfl, a1, a2, a3, a4, a5⟩ := ar_head k0 h0
  obtain ⟨a11, rfl, j1⟩ := ar_int Try.underlying3 k1 h1
  obtain ⟨a12, rfl, j2⟩ := ar_int Try.underlying3 k2 h2
  exact HeadChecks_core U C O sz last seq Am As nm cm ns cs m ss a11 a12 W a1 a2 a3 ⟨a4, a5⟩
end Go.Proofs.Ytaobdebeglenaaa
