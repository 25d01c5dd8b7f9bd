/- The walk of the law HeadFresh. (Written by wip/genhd.py.) -/
import Derived.Test.YtaobdebeglenaaaMk
import Derived.Test.YtaobdebeglenaaaMl
namespace Go.Proofs.Ytaobdebeglenaaa
open Go.ChangeShapes Go.WideShapes Go.ChangeAt Go.RowKit Go.Joins

set_option maxRecDepth 10000 in
set_option maxHeartbeats 8000000 in
theorem HeadFresh_core (U C O sz last seq : Int) (Am As : Option Addr) (nm cm ns cs : Nat) (m : List Int) (ss : List Sn) (W : World) (hm : RdI W W.heap.size Am nm m) (hs : RdN W W.heap.size As ns ss) (_hn : nm ≤ 9223372036854775807) (hk : ns ≤ cs ∧ cs ≤ 9223372036854775807) :
    Calls Try.prog 8 #[hV U C O sz Am nm cm As ns cs last seq] W (Yes W) := by
  have Hm := Lib.hid hm
  have Hs := Lib.hid hs
  have K := Lib.hid hk
  clear hm hs hk
  go_enter Try.func8, Try.ntmps8
  go_upto_region 1 with fail
  have B := alB6 W (.cells #[.int .i64 U, .int .i64 C, .int .i64 O, .int .i64 sz, .slice Am nm cm, .slice As ns cs, .int .i64 last, .int .i64 seq] 27)
  have Bx := Lib.hid (heap_alloc_new W (.cells #[.int .i64 U, .int .i64 C, .int .i64 O, .int .i64 sz, .slice Am nm cm, .slice As ns cs, .int .i64 last, .int .i64 seq] 27))
  obtain ⟨b, hblk⟩ : ∃ b, b = W.heap.size := ⟨_, rfl⟩
  rw [← hblk] at Bx ⊢
  clear hblk
  generalize W.alloc (.cells #[.int .i64 U, .int .i64 C, .int .i64 O, .int .i64 sz, .slice Am nm cm, .slice As ns cs, .int .i64 last, .int .i64 seq] 27) = w0 at B Bx ⊢
  go_wp2_with fail
  refine (awake6 _).mono ?_
  rintro e w1 ⟨rfl, hb0⟩
  have hb := Lib.hid hb0
  replace Bx := blk_keep Bx hb
  replace B := belO6 B hb
  clear hb hb0
  obtain ⟨ca0, ca1, ca2, ca3, ca4, ca5, ca6, ca7⟩ := heads_of Bx.out
  go_wp2_with fail
  refine (rFew cm cs ((Hs.out.below B.out).more B.out.size)).mono ?_
  rintro e w2 ⟨rfl, hb⟩
  replace Bx := blk_keep Bx hb
  replace B := belO6 B hb
  clear ca0 ca1 ca2 ca3 ca4 ca5 ca6 ca7
  clear hb
  by_cases hf : fewB nm ns ss = true
  · have X := few_hv (U := U) (C := C) (O := O) (sz := sz) (last := last) (seq := seq) ((Hm.out.below B.out).more B.out.size) ((Hs.out.below B.out).more B.out.size) hf
    rw [hf]
    clear hf Hm Hs
    obtain ⟨g, hg⟩ : ∃ g : Hd, g = ⟨U, C, O, sz, m, ss, last, seq⟩ := ⟨_, rfl⟩
    rw [← hg] at X
    have Hg := Lib.hid hg
    clear hg
    obtain ⟨ca0, ca1, ca2, ca3, ca4, ca5, ca6, ca7⟩ := heads_of Bx.out
    have hcs := snapE_cases g
    obtain ⟨E, hE⟩ : ∃ E, E = snapE g := ⟨_, rfl⟩
    have HE := Lib.hid hE
    go_wp2_with fail
    refine (pSnap cm cs X K).mono ?_
    rw [← hE]
    rintro e w3 ⟨U1, C1, O1, sz1, Am1, nm1, cm1, As1, ns1, cs1, last1, seq1, rfl, X1, K1, hb⟩
    replace Bx := blk_keep Bx hb
    replace B := belO6 B hb
    replace X := HVl.keep X hb
    clear ca0 ca1 ca2 ca3 ca4 ca5 ca6 ca7
    clear hb
    rw [← hE] at hcs
    clear hE
    go_upto_region 8 with fail
    have BA := alB6 w3 (.cells #[.int .i64 U1, .int .i64 C1, .int .i64 O1, .int .i64 sz1, .slice Am1 nm1 cm1, .slice As1 ns1 cs1, .int .i64 last1, .int .i64 seq1] 27)
    have B1 := Lib.hid (heap_alloc_new w3 (.cells #[.int .i64 U1, .int .i64 C1, .int .i64 O1, .int .i64 sz1, .slice Am1 nm1 cm1, .slice As1 ns1 cs1, .int .i64 last1, .int .i64 seq1] 27))
    obtain ⟨b1, hblk⟩ : ∃ b, b = w3.heap.size := ⟨_, rfl⟩
    rw [← hblk] at B1 ⊢
    clear hblk
    replace Bx := blk_keep Bx BA
    replace B := belO6 B BA
    replace X := HVl.keep X BA
    replace X1 := HVl.keep X1 BA
    clear BA
    generalize w3.alloc (.cells #[.int .i64 U1, .int .i64 C1, .int .i64 O1, .int .i64 sz1, .slice Am1 nm1 cm1, .slice As1 ns1 cs1, .int .i64 last1, .int .i64 seq1] 27) = w4 at Bx B X X1 B1 ⊢
    by_cases hE0 : E = 0
    · subst hE0
      have he := HE.out.symm
      have Hmy := Lib.hid (snap_may he)
      have HDE := Lib.hid (snap_diffE he)
      have HD := Lib.hid (snap_diff he)
      have HPE := Lib.hid (snap_dropE he)
      have HP := Lib.hid (snap_drop he)
      have HPM := Lib.hid (snap_drop_may he)
      have HN := Lib.hid (snap_newest g)
      have e1 : snapX g = snapH g := by unfold snapX; rw [if_pos he]
      have e2 : snapI g = g.last + 1 := by unfold snapI; rw [if_pos he]
      rw [e1] at X1
      rw [e2]
      have Hl : Hid (last = g.last) := (HVl.nums X).2.2.2.2.1
      obtain ⟨I, hI⟩ : ∃ I, I = g.last + 1 := ⟨_, rfl⟩
      rw [← hI] at HDE HD HPE HP HPM HN ⊢
      have HI := Lib.hid hI
      clear hI he e1 e2 hcs
      obtain ⟨ca0, ca1, ca2, ca3, ca4, ca5, ca6, ca7⟩ := heads_of B1.out
      go_wp2_with fail
      refine (pDiff cm1 cs1 I 0 X1 K1).mono ?_
      rw [HDE.out, HD.out]
      rintro e w5 ⟨A2, n2, c2, rfl, D2, hb⟩
      replace Bx := blk_keep Bx hb
      replace B := belO6 B hb
      replace X := HVl.keep X hb
      replace X1 := HVl.keep X1 hb
      replace B1 := blk_keep B1 hb
      clear ca0 ca1 ca2 ca3 ca4 ca5 ca6 ca7
      clear hb
      obtain rfl : n2 = 0 := D2.out.1.1.symm
      obtain ⟨ca0, ca1, ca2, ca3, ca4, ca5, ca6, ca7⟩ := heads_of B1.out
      go_wp2_with fail
      refine (pDrop cm1 cs1 I X1 K1).mono ?_
      rw [HPE.out, HP.out]
      rintro e w6 ⟨U3, C3, O3, sz3, Am3, nm3, cm3, As3, ns3, cs3, last3, seq3, rfl, X3, K3, hb⟩
      replace Bx := blk_keep Bx hb
      replace B := belO6 B hb
      replace X := HVl.keep X hb
      replace X1 := HVl.keep X1 hb
      replace B1 := blk_keep B1 hb
      replace D2 := IAt.keep D2 hb
      clear ca0 ca1 ca2 ca3 ca4 ca5 ca6 ca7
      clear hb
      have Hblt := Lib.hid (lt_of_block Bx.out)
      have Hsz := Lib.hid B.out.size
      go_upto_region 12 with fail
      have BA := alB6 w6 (.cells #[.int .i64 U3, .int .i64 C3, .int .i64 O3, .int .i64 sz3, .slice Am3 nm3 cm3, .slice As3 ns3 cs3, .int .i64 last3, .int .i64 seq3] 27)
      have B3 := Lib.hid (heap_alloc_new w6 (.cells #[.int .i64 U3, .int .i64 C3, .int .i64 O3, .int .i64 sz3, .slice Am3 nm3 cm3, .slice As3 ns3 cs3, .int .i64 last3, .int .i64 seq3] 27))
      obtain ⟨b3, hblk⟩ : ∃ b, b = w6.heap.size := ⟨_, rfl⟩
      rw [← hblk] at B3 ⊢
      have Hblk := Lib.hid hblk
      have Xa := X
      have X3a := X3
      have BB := BA
      clear hblk
      replace Bx := blk_keep Bx BA
      replace B := belO6 B BA
      replace X := HVl.keep X BA
      replace X1 := HVl.keep X1 BA
      replace B1 := blk_keep B1 BA
      replace D2 := IAt.keep D2 BA
      replace X3 := HVl.keep X3 BA
      clear BA
      generalize w6.alloc (.cells #[.int .i64 U3, .int .i64 C3, .int .i64 O3, .int .i64 sz3, .slice Am3 nm3 cm3, .slice As3 ns3 cs3, .int .i64 last3, .int .i64 seq3] 27) = w7 at Bx B X X1 B1 D2 X3 B3 BB ⊢
      obtain ⟨n30, n31, n32, n33, n34, n35, n36, n37⟩ := HVl.nums X3
      clear n30 n31 n32 n33 n35 n36 n37
      replace n34 : last3 = I := n34
      subst n34
      obtain ⟨ca0, ca1, ca2, ca3, ca4, ca5, ca6, ca7⟩ := heads_of B1.out
      go_wp2_with fail
      refine (pNewest cm1 cs1 X1 K1).mono ?_
      rw [HN.out]
      rintro e w8 ⟨rfl, hb⟩
      replace Bx := blk_keep Bx hb
      replace B := belO6 B hb
      replace X := HVl.keep X hb
      replace X1 := HVl.keep X1 hb
      replace B1 := blk_keep B1 hb
      replace D2 := IAt.keep D2 hb
      replace X3 := HVl.keep X3 hb
      replace B3 := blk_keep B3 hb
      replace BB := belO6 BB hb
      clear ca0 ca1 ca2 ca3 ca4 ca5 ca6 ca7
      clear hb
      obtain ⟨ca0, ca1, ca2, ca3, ca4, ca5, ca6, ca7⟩ := heads_of B1.out
      go_wp2_with fail
      refine (pCheck cm1 cs1 X1 K1).mono ?_
      rw [mayE_0 Hmy.out]
      rintro e w9 ⟨rfl, hb⟩
      replace Bx := blk_keep Bx hb
      replace B := belO6 B hb
      replace X := HVl.keep X hb
      replace X1 := HVl.keep X1 hb
      replace B1 := blk_keep B1 hb
      replace D2 := IAt.keep D2 hb
      replace X3 := HVl.keep X3 hb
      replace B3 := blk_keep B3 hb
      replace BB := belO6 BB hb
      clear ca0 ca1 ca2 ca3 ca4 ca5 ca6 ca7
      clear hb
      obtain ⟨ca0, ca1, ca2, ca3, ca4, ca5, ca6, ca7⟩ := heads_of B3.out
      go_wp2_with fail
      refine (pCheck cm3 cs3 X3 K3).mono ?_
      rw [mayE_0 HPM.out]
      rintro e wa ⟨rfl, hb⟩
      replace Bx := blk_keep Bx hb
      replace B := belO6 B hb
      replace X := HVl.keep X hb
      replace X1 := HVl.keep X1 hb
      replace B1 := blk_keep B1 hb
      replace D2 := IAt.keep D2 hb
      replace X3 := HVl.keep X3 hb
      replace B3 := blk_keep B3 hb
      replace BB := belO6 BB hb
      clear ca0 ca1 ca2 ca3 ca4 ca5 ca6 ca7
      clear hb
      have q6 := (heads_of Bx.out).2.2.2.2.2.2.1
      have q3 := (heads_of B3.out).2.2.2.2.2.2.1
      have y3 := free_blk B3.out 6
      go_upto_region 15 with fail
      have BB2 : Hid (Below w6.heap.size w6 (wa.setCell ⟨b3, 6, none⟩ (.int .i64 last))) := BB.out.setCell (by show _ ≤ b3; rw [Hblk.out]; exact Nat.le_refl _) _
      have X3b := HVl.last last (HVl.keep X3a BB2)
      have Xb := HVl.keep Xa BB2
      rw [show ({ ({ g with last := last3 } : Hd) with last := last } : Hd) = g by rw [Hl.out]] at X3b
      have B3b := Lib.hid (set_blk B3.out 6 (.int .i64 last))
      have Bxb := Lib.hid ((Below.heap_setCell wa ⟨b3, 6, none⟩ (.int .i64 last) b (by have := Hblt.out; have := Hblk.out; show b ≠ b3; omega)).trans Bx.out)
      have Bb := Lib.hid (B.out.setCell (p := ⟨b3, 6, none⟩) (by have := Hblk.out; have := Hsz.out; show _ ≤ b3; omega) (.int .i64 last))
      clear q6 q3 y3 X3 X X1 B1 B3 Bx B BB D2 X3a Xa BB2
      generalize wa.setCell ⟨b3, 6, none⟩ (.int .i64 last) = wb at X3b Xb B3b Bxb Bb ⊢
      replace B3b : Hid (wb.heap[b3]? = some (.cells #[.int .i64 U3, .int .i64 C3, .int .i64 O3, .int .i64 sz3, .slice Am3 nm3 cm3, .slice As3 ns3 cs3, .int .i64 last, .int .i64 seq3] 27 (0, 0))) := B3b
      obtain ⟨ca0, ca1, ca2, ca3, ca4, ca5, ca6, ca7⟩ := heads_of B3b.out
      obtain ⟨cb0, cb1, cb2, cb3, cb4, cb5, cb6, cb7⟩ := heads_of Bxb.out
      go_wp2_with fail
      refine (rSame cm3 cs3 cm cs X3b Xb).mono ?_
      rintro e wc ⟨rfl, hb⟩
      replace Bb := belO6 Bb hb
      clear ca0 ca1 ca2 ca3 ca4 ca5 ca6 ca7 cb0 cb1 cb2 cb3 cb4 cb5 cb6 cb7
      clear hb
      go_wp2_with fail
      go_ret
      exact ⟨rfl, Bb.out⟩
    · rcases hcs with h | ⟨h, h2⟩ | ⟨h, h2⟩
      · exact absurd h hE0
      · subst h
        clear hE0
        obtain ⟨ca0, ca1, ca2, ca3, ca4, ca5, ca6, ca7⟩ := heads_of Bx.out
        go_wp2_with fail
        refine (pCheck cm cs X K).mono ?_
        rw [h2]
        rintro e w5 ⟨rfl, hb⟩
        replace B := belO6 B hb
        clear ca0 ca1 ca2 ca3 ca4 ca5 ca6 ca7
        clear hb
        go_wp2_with fail
        go_ret
        exact ⟨rfl, B.out⟩
      · subst h
        clear hE0
        obtain ⟨ca0, ca1, ca2, ca3, ca4, ca5, ca6, ca7⟩ := heads_of Bx.out
        go_wp2_with fail
        refine (pCheck cm cs X K).mono ?_
        rw [h2]
        rintro e w5 ⟨rfl, hb⟩
        replace B := belO6 B hb
        clear ca0 ca1 ca2 ca3 ca4 ca5 ca6 ca7
        clear hb
        go_wp2_with fail
        go_ret
        exact ⟨rfl, B.out⟩
  · have hf2 : fewB nm ns ss = false := by simpa using hf
    rw [hf2]
    clear hf hf2
    go_wp2_with fail
    go_ret
    exact ⟨rfl, B.out⟩

set_option maxRecDepth 10000 in
theorem HeadFresh_walk {H : Type} {enc : TypeId × Value → H} (W : World) (base : Nat) {v0 : Value} {d0 : DataW H} {p0 : List MemPlace}
    (k0 : Value.okWide Try.prog W .any base 27 v0) (h0 : DataW.Trod enc Try.prog W 0 (fun _ => true) true 27 v0 d0 p0) :
    Calls Try.prog 8 #[v0] W (Yes W) := by
  obtain ⟨U, C, O, sz, Am, nm, cm, As, ns, cs, last, seq, m, ss, rfl, a1, a2, a3, a4, a5⟩ := ar_head k0 h0
  exact HeadFresh_core U C O sz last seq Am As nm cm ns cs m ss W a1 a2 a3 ⟨a4, a5⟩
end Go.Proofs.Ytaobdebeglenaaa
