/- The walk of the law HeadDiffs. (Written by wip/genhd.py.) -/
import Derived.Test.YtaobdebeglenaaaMk
namespace Go.Proofs.Ytaobdebeglenaaa
open Go.ChangeShapes Go.WideShapes Go.ChangeAt Go.RowKit Go.Joins

set_option maxRecDepth 10000 in
set_option maxHeartbeats 8000000 in
theorem HeadDiffs_core (U C O sz last seq : Int) (Am As : Option Addr) (nm cm ns cs : Nat) (m : List Int) (ss : List Sn) (f t : Int) (W : World) (hm : RdI W W.heap.size Am nm m) (hs : RdN W W.heap.size As ns ss) (_hn : nm ≤ 9223372036854775807) (hk : ns ≤ cs ∧ cs ≤ 9223372036854775807) :
    Calls Try.prog 6 #[hV U C O sz Am nm cm As ns cs last seq, .int .i64 f, .int .i64 t] W (Yes W) := by
  have Hm := Lib.hid hm
  have Hs := Lib.hid hs
  have K := Lib.hid hk
  clear hm hs hk
  go_enter Try.func6, Try.ntmps6
  go_upto_region 1 with fail
  have B := alB6 W (.cells #[.int .i64 U, .int .i64 C, .int .i64 O, .int .i64 sz, .slice Am nm cm, .slice As ns cs, .int .i64 last, .int .i64 seq] 27)
  have Bx := Lib.hid (heap_alloc_new W (.cells #[.int .i64 U, .int .i64 C, .int .i64 O, .int .i64 sz, .slice Am nm cm, .slice As ns cs, .int .i64 last, .int .i64 seq] 27))
  obtain ⟨b, hblk⟩ : ∃ b, b = W.heap.size := ⟨_, rfl⟩
  rw [← hblk] at Bx ⊢
  clear hblk
  generalize W.alloc (.cells #[.int .i64 U, .int .i64 C, .int .i64 O, .int .i64 sz, .slice Am nm cm, .slice As ns cs, .int .i64 last, .int .i64 seq] 27) = w0 at B Bx ⊢
  go_wp2_with fail
  refine (awake6 _).mono ?_
  rintro e w1 ⟨rfl, hb0⟩
  have hb := Lib.hid hb0
  replace Bx := blk_keep Bx hb
  replace B := belO6 B hb
  clear hb hb0
  obtain ⟨ca0, ca1, ca2, ca3, ca4, ca5, ca6, ca7⟩ := heads_of Bx.out
  go_wp2_with fail
  refine (rFew cm cs ((Hs.out.below B.out).more B.out.size)).mono ?_
  rintro e w2 ⟨rfl, hb⟩
  replace Bx := blk_keep Bx hb
  replace B := belO6 B hb
  clear ca0 ca1 ca2 ca3 ca4 ca5 ca6 ca7
  clear hb
  by_cases hf : fewB nm ns ss = true
  · have X := few_hv (U := U) (C := C) (O := O) (sz := sz) (last := last) (seq := seq) ((Hm.out.below B.out).more B.out.size) ((Hs.out.below B.out).more B.out.size) hf
    rw [hf]
    clear hf Hm Hs
    obtain ⟨g, hg⟩ : ∃ g : Hd, g = ⟨U, C, O, sz, m, ss, last, seq⟩ := ⟨_, rfl⟩
    rw [← hg] at X
    have Hg := Lib.hid hg
    clear hg
    obtain ⟨ca0, ca1, ca2, ca3, ca4, ca5, ca6, ca7⟩ := heads_of Bx.out
    go_wp2_with fail
    refine (pDiff cm cs f t X K).mono ?_
    rintro e w3 ⟨A1, n1, c1, rfl, D1, hb⟩
    replace Bx := blk_keep Bx hb
    replace B := belO6 B hb
    replace X := HVl.keep X hb
    clear ca0 ca1 ca2 ca3 ca4 ca5 ca6 ca7
    clear hb
    obtain ⟨ca0, ca1, ca2, ca3, ca4, ca5, ca6, ca7⟩ := heads_of Bx.out
    go_wp2_with fail
    refine (rDiff cm cs f t X).mono ?_
    rintro e w4 ⟨A2, n2, c2, rfl, D2, hb⟩
    replace Bx := blk_keep Bx hb
    replace B := belO6 B hb
    replace X := HVl.keep X hb
    replace D1 := IAt.keep D1 hb
    clear ca0 ca1 ca2 ca3 ca4 ca5 ca6 ca7
    clear hb
    go_wp2_with fail
    refine (rInts c1 c2 D1 D2).mono ?_
    rw [decide_eq_true (rfl : diffX g f t = diffX g f t)]
    rintro e w5 ⟨rfl, hb⟩
    replace Bx := blk_keep Bx hb
    replace B := belO6 B hb
    replace X := HVl.keep X hb
    replace D1 := IAt.keep D1 hb
    replace D2 := IAt.keep D2 hb
    clear hb
    go_wp2_with fail
    go_ret
    exact ⟨rfl, B.out⟩
  · have hf2 : fewB nm ns ss = false := by simpa using hf
    rw [hf2]
    clear hf hf2
    go_wp2_with fail
    go_ret
    exact ⟨rfl, B.out⟩

set_option maxRecDepth 10000 in
theorem HeadDiffs_walk {H : Type} {enc : TypeId × Value → H} (W : World) (base : Nat) {v0 v1 v2 : Value} {d0 : DataW H} {p0 : List MemPlace} {d1 : DataW H} {p1 : List MemPlace} {d2 : DataW H} {p2 : List MemPlace}
    (k0 : Value.okWide Try.prog W .any base 27 v0) (h0 : DataW.Trod enc Try.prog W 0 (fun _ => true) true 27 v0 d0 p0) (k1 : Value.okWide Try.prog W .any base 3 v1) (h1 : DataW.Trod enc Try.prog W 0 (fun _ => true) true 3 v1 d1 p1) (k2 : Value.okWide Try.prog W .any base 3 v2) (h2 : DataW.Trod enc Try.prog W 0 (fun _ => true) true 3 v2 d2 p2) :
    Calls Try.prog 6 #[v0, v1, v2] W (Yes W) := by
  obtain ⟨U, C, O, sz, Am, nm, cm, As, ns, cs, last, seq, m, ss, rfl, a1, a2, a3, a4, a5⟩ := ar_head k0 h0
  obtain ⟨a11, rfl, j1⟩ := ar_int Try.underlying3 k1 h1
  obtain ⟨a12, rfl, j2⟩ := ar_int Try.underlying3 k2 h2
  exact HeadDiffs_core U C O sz last seq Am As nm cm ns cs m ss a11 a12 W a1 a2 a3 ⟨a4, a5⟩
end Go.Proofs.Ytaobdebeglenaaa
