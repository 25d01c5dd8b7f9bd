/- The walk of the law HeadSnaps. (Written by wip/genhd.py.) -/
import Derived.Test.YtaobdebeglenaaaMk
namespace Go.Proofs.Ytaobdebeglenaaa
open Go.ChangeShapes Go.WideShapes Go.ChangeAt Go.RowKit Go.Joins

set_option maxRecDepth 10000 in
set_option maxHeartbeats 8000000 in
theorem HeadSnaps_core (U C O sz last seq : Int) (Am As : Option Addr) (nm cm ns cs : Nat) (m : List Int) (ss : List Sn) (x : Int) (W : World) (hm : RdI W W.heap.size Am nm m) (hs : RdN W W.heap.size As ns ss) (_hn : nm ≤ 9223372036854775807) (hk : ns ≤ cs ∧ cs ≤ 9223372036854775807) :
    Calls Try.prog 5 #[hV U C O sz Am nm cm As ns cs last seq, .int .i64 x] W (Yes W) := by
  have Hm := Lib.hid hm
  have Hs := Lib.hid hs
  have K := Lib.hid hk
  clear hm hs hk
  go_enter Try.func5, Try.ntmps5
  go_upto_region 1 with fail
  have B := alB6 W (.cells #[.int .i64 U, .int .i64 C, .int .i64 O, .int .i64 sz, .slice Am nm cm, .slice As ns cs, .int .i64 last, .int .i64 seq] 27)
  have Bx := Lib.hid (heap_alloc_new W (.cells #[.int .i64 U, .int .i64 C, .int .i64 O, .int .i64 sz, .slice Am nm cm, .slice As ns cs, .int .i64 last, .int .i64 seq] 27))
  obtain ⟨b, hblk⟩ : ∃ b, b = W.heap.size := ⟨_, rfl⟩
  rw [← hblk] at Bx ⊢
  clear hblk
  generalize W.alloc (.cells #[.int .i64 U, .int .i64 C, .int .i64 O, .int .i64 sz, .slice Am nm cm, .slice As ns cs, .int .i64 last, .int .i64 seq] 27) = w0 at B Bx ⊢
  go_wp2_with fail
  refine (awake6 _).mono ?_
  rintro e w1 ⟨rfl, hb0⟩
  have hb := Lib.hid hb0
  replace Bx := blk_keep Bx hb
  replace B := belO6 B hb
  clear hb hb0
  obtain ⟨ca0, ca1, ca2, ca3, ca4, ca5, ca6, ca7⟩ := heads_of Bx.out
  go_wp2_with fail
  refine (rFew cm cs ((Hs.out.below B.out).more B.out.size)).mono ?_
  rintro e w2 ⟨rfl, hb⟩
  replace Bx := blk_keep Bx hb
  replace B := belO6 B hb
  clear ca0 ca1 ca2 ca3 ca4 ca5 ca6 ca7
  clear hb
  by_cases hf : fewB nm ns ss = true
  · have X := few_hv (U := U) (C := C) (O := O) (sz := sz) (last := last) (seq := seq) ((Hm.out.below B.out).more B.out.size) ((Hs.out.below B.out).more B.out.size) hf
    rw [hf]
    clear hf Hm Hs
    obtain ⟨g, hg⟩ : ∃ g : Hd, g = ⟨U, C, O, sz, m, ss, last, seq⟩ := ⟨_, rfl⟩
    rw [← hg] at X
    have Hg := Lib.hid hg
    clear hg
    obtain ⟨ca0, ca1, ca2, ca3, ca4, ca5, ca6, ca7⟩ := heads_of Bx.out
    go_wp2_with fail
    refine (pSnap cm cs X K).mono ?_
    rintro e w3 ⟨U1, C1, O1, sz1, Am1, nm1, cm1, As1, ns1, cs1, last1, seq1, rfl, X1, K1, hb⟩
    replace Bx := blk_keep Bx hb
    replace B := belO6 B hb
    replace X := HVl.keep X hb
    clear ca0 ca1 ca2 ca3 ca4 ca5 ca6 ca7
    clear hb
    go_upto_region 8 with fail
    have BA := alB6 w3 (.cells #[.int .i64 U1, .int .i64 C1, .int .i64 O1, .int .i64 sz1, .slice Am1 nm1 cm1, .slice As1 ns1 cs1, .int .i64 last1, .int .i64 seq1] 27)
    have B1 := Lib.hid (heap_alloc_new w3 (.cells #[.int .i64 U1, .int .i64 C1, .int .i64 O1, .int .i64 sz1, .slice Am1 nm1 cm1, .slice As1 ns1 cs1, .int .i64 last1, .int .i64 seq1] 27))
    obtain ⟨b1, hblk⟩ : ∃ b, b = w3.heap.size := ⟨_, rfl⟩
    rw [← hblk] at B1 ⊢
    clear hblk
    replace Bx := blk_keep Bx BA
    replace B := belO6 B BA
    replace X := HVl.keep X BA
    replace X1 := HVl.keep X1 BA
    clear BA
    generalize w3.alloc (.cells #[.int .i64 U1, .int .i64 C1, .int .i64 O1, .int .i64 sz1, .slice Am1 nm1 cm1, .slice As1 ns1 cs1, .int .i64 last1, .int .i64 seq1] 27) = w4 at Bx B X X1 B1 ⊢
    obtain ⟨ca0, ca1, ca2, ca3, ca4, ca5, ca6, ca7⟩ := heads_of Bx.out
    go_wp2_with fail
    refine (rSnap cm cs X).mono ?_
    rintro e w5 ⟨U2, C2, O2, sz2, Am2, nm2, cm2, As2, ns2, cs2, last2, seq2, rfl, X2, hb⟩
    replace Bx := blk_keep Bx hb
    replace B := belO6 B hb
    replace X := HVl.keep X hb
    replace X1 := HVl.keep X1 hb
    replace B1 := blk_keep B1 hb
    clear ca0 ca1 ca2 ca3 ca4 ca5 ca6 ca7
    clear hb
    go_upto_region 9 with fail
    have BA := alB6 w5 (.cells #[.int .i64 U2, .int .i64 C2, .int .i64 O2, .int .i64 sz2, .slice Am2 nm2 cm2, .slice As2 ns2 cs2, .int .i64 last2, .int .i64 seq2] 27)
    have B2 := Lib.hid (heap_alloc_new w5 (.cells #[.int .i64 U2, .int .i64 C2, .int .i64 O2, .int .i64 sz2, .slice Am2 nm2 cm2, .slice As2 ns2 cs2, .int .i64 last2, .int .i64 seq2] 27))
    obtain ⟨b2, hblk⟩ : ∃ b, b = w5.heap.size := ⟨_, rfl⟩
    rw [← hblk] at B2 ⊢
    clear hblk
    replace Bx := blk_keep Bx BA
    replace B := belO6 B BA
    replace X := HVl.keep X BA
    replace X1 := HVl.keep X1 BA
    replace B1 := blk_keep B1 BA
    replace X2 := HVl.keep X2 BA
    clear BA
    generalize w5.alloc (.cells #[.int .i64 U2, .int .i64 C2, .int .i64 O2, .int .i64 sz2, .slice Am2 nm2 cm2, .slice As2 ns2 cs2, .int .i64 last2, .int .i64 seq2] 27) = w6 at Bx B X X1 B1 X2 B2 ⊢
    obtain ⟨ca0, ca1, ca2, ca3, ca4, ca5, ca6, ca7⟩ := heads_of Bx.out
    go_wp2_with fail
    refine (pDrop cm cs x X K).mono ?_
    rintro e w7 ⟨U3, C3, O3, sz3, Am3, nm3, cm3, As3, ns3, cs3, last3, seq3, rfl, X3, K3, hb⟩
    replace Bx := blk_keep Bx hb
    replace B := belO6 B hb
    replace X := HVl.keep X hb
    replace X1 := HVl.keep X1 hb
    replace B1 := blk_keep B1 hb
    replace X2 := HVl.keep X2 hb
    replace B2 := blk_keep B2 hb
    clear ca0 ca1 ca2 ca3 ca4 ca5 ca6 ca7
    clear hb
    go_upto_region 10 with fail
    have BA := alB6 w7 (.cells #[.int .i64 U3, .int .i64 C3, .int .i64 O3, .int .i64 sz3, .slice Am3 nm3 cm3, .slice As3 ns3 cs3, .int .i64 last3, .int .i64 seq3] 27)
    have B3 := Lib.hid (heap_alloc_new w7 (.cells #[.int .i64 U3, .int .i64 C3, .int .i64 O3, .int .i64 sz3, .slice Am3 nm3 cm3, .slice As3 ns3 cs3, .int .i64 last3, .int .i64 seq3] 27))
    obtain ⟨b3, hblk⟩ : ∃ b, b = w7.heap.size := ⟨_, rfl⟩
    rw [← hblk] at B3 ⊢
    clear hblk
    replace Bx := blk_keep Bx BA
    replace B := belO6 B BA
    replace X := HVl.keep X BA
    replace X1 := HVl.keep X1 BA
    replace B1 := blk_keep B1 BA
    replace X2 := HVl.keep X2 BA
    replace B2 := blk_keep B2 BA
    replace X3 := HVl.keep X3 BA
    clear BA
    generalize w7.alloc (.cells #[.int .i64 U3, .int .i64 C3, .int .i64 O3, .int .i64 sz3, .slice Am3 nm3 cm3, .slice As3 ns3 cs3, .int .i64 last3, .int .i64 seq3] 27) = w8 at Bx B X X1 B1 X2 B2 X3 B3 ⊢
    obtain ⟨ca0, ca1, ca2, ca3, ca4, ca5, ca6, ca7⟩ := heads_of Bx.out
    go_wp2_with fail
    refine (rDrop cm cs x X K).mono ?_
    rintro e w9 ⟨U4, C4, O4, sz4, Am4, nm4, cm4, As4, ns4, cs4, last4, seq4, rfl, X4, hb⟩
    replace Bx := blk_keep Bx hb
    replace B := belO6 B hb
    replace X := HVl.keep X hb
    replace X1 := HVl.keep X1 hb
    replace B1 := blk_keep B1 hb
    replace X2 := HVl.keep X2 hb
    replace B2 := blk_keep B2 hb
    replace X3 := HVl.keep X3 hb
    replace B3 := blk_keep B3 hb
    clear ca0 ca1 ca2 ca3 ca4 ca5 ca6 ca7
    clear hb
    go_upto_region 11 with fail
    have BA := alB6 w9 (.cells #[.int .i64 U4, .int .i64 C4, .int .i64 O4, .int .i64 sz4, .slice Am4 nm4 cm4, .slice As4 ns4 cs4, .int .i64 last4, .int .i64 seq4] 27)
    have B4 := Lib.hid (heap_alloc_new w9 (.cells #[.int .i64 U4, .int .i64 C4, .int .i64 O4, .int .i64 sz4, .slice Am4 nm4 cm4, .slice As4 ns4 cs4, .int .i64 last4, .int .i64 seq4] 27))
    obtain ⟨b4, hblk⟩ : ∃ b, b = w9.heap.size := ⟨_, rfl⟩
    rw [← hblk] at B4 ⊢
    clear hblk
    replace Bx := blk_keep Bx BA
    replace B := belO6 B BA
    replace X := HVl.keep X BA
    replace X1 := HVl.keep X1 BA
    replace B1 := blk_keep B1 BA
    replace X2 := HVl.keep X2 BA
    replace B2 := blk_keep B2 BA
    replace X3 := HVl.keep X3 BA
    replace B3 := blk_keep B3 BA
    replace X4 := HVl.keep X4 BA
    clear BA
    generalize w9.alloc (.cells #[.int .i64 U4, .int .i64 C4, .int .i64 O4, .int .i64 sz4, .slice Am4 nm4 cm4, .slice As4 ns4 cs4, .int .i64 last4, .int .i64 seq4] 27) = wa at Bx B X X1 B1 X2 B2 X3 B3 X4 B4 ⊢
    obtain ⟨ca0, ca1, ca2, ca3, ca4, ca5, ca6, ca7⟩ := heads_of B1.out
    obtain ⟨cb0, cb1, cb2, cb3, cb4, cb5, cb6, cb7⟩ := heads_of B2.out
    go_wp2_with fail
    refine (rSame cm1 cs1 cm2 cs2 X1 X2).mono ?_
    rintro e wb ⟨rfl, hb⟩
    replace Bx := blk_keep Bx hb
    replace B := belO6 B hb
    replace X := HVl.keep X hb
    replace X1 := HVl.keep X1 hb
    replace B1 := blk_keep B1 hb
    replace X2 := HVl.keep X2 hb
    replace B2 := blk_keep B2 hb
    replace X3 := HVl.keep X3 hb
    replace B3 := blk_keep B3 hb
    replace X4 := HVl.keep X4 hb
    replace B4 := blk_keep B4 hb
    clear ca0 ca1 ca2 ca3 ca4 ca5 ca6 ca7 cb0 cb1 cb2 cb3 cb4 cb5 cb6 cb7
    clear hb
    obtain ⟨ca0, ca1, ca2, ca3, ca4, ca5, ca6, ca7⟩ := heads_of B3.out
    obtain ⟨cb0, cb1, cb2, cb3, cb4, cb5, cb6, cb7⟩ := heads_of B4.out
    go_wp2_with fail
    refine (rSame cm3 cs3 cm4 cs4 X3 X4).mono ?_
    rintro e wc ⟨rfl, hb⟩
    replace Bx := blk_keep Bx hb
    replace B := belO6 B hb
    replace X := HVl.keep X hb
    replace X1 := HVl.keep X1 hb
    replace B1 := blk_keep B1 hb
    replace X2 := HVl.keep X2 hb
    replace B2 := blk_keep B2 hb
    replace X3 := HVl.keep X3 hb
    replace B3 := blk_keep B3 hb
    replace X4 := HVl.keep X4 hb
    replace B4 := blk_keep B4 hb
    clear ca0 ca1 ca2 ca3 ca4 ca5 ca6 ca7 cb0 cb1 cb2 cb3 cb4 cb5 cb6 cb7
    clear hb
    go_wp2_with fail
    go_ret
    exact ⟨rfl, B.out⟩
  · have hf2 : fewB nm ns ss = false := by simpa using hf
    rw [hf2]
    clear hf hf2
    go_wp2_with fail
    go_ret
    exact ⟨rfl, B.out⟩

set_option maxRecDepth 10000 in
theorem HeadSnaps_walk {H : Type} {enc : TypeId × Value → H} (W : World) (base : Nat) {v0 v1 : Value} {d0 : DataW H} {p0 : List MemPlace} {d1 : DataW H} {p1 : List MemPlace}
    (k0 : Value.okWide Try.prog W .any base 27 v0) (h0 : DataW.Trod enc Try.prog W 0 (fun _ => true) true 27 v0 d0 p0) (k1 : Value.okWide Try.prog W .any base 3 v1) (h1 : DataW.Trod enc Try.prog W 0 (fun _ => true) true 3 v1 d1 p1) :
    Calls Try.prog 5 #[v0, v1] W (Yes W) := by
  obtain ⟨U, C, O, sz, Am, nm, cm, As, ns, cs, last, seq, m, ss, rfl, a1, a2, a3, a4, a5⟩ := ar_head k0 h0
  obtain ⟨a11, rfl, j1⟩ := ar_int Try.underlying3 k1 h1
  exact HeadSnaps_core U C O sz last seq Am As nm cm ns cs m ss a11 W a1 a2 a3 ⟨a4, a5⟩
end Go.Proofs.Ytaobdebeglenaaa
