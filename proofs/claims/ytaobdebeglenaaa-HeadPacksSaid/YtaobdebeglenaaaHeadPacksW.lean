/- The walk of the law HeadPacks. (Written by wip/genhd.py.) -/
import Derived.Test.YtaobdebeglenaaaMk
import Derived.Test.YtaobdebeglenaaaMl
import Derived.Test.YtaobdebeglenaaaRegion
namespace Go.Proofs.Ytaobdebeglenaaa
open Go.ChangeShapes Go.WideShapes Go.ChangeAt Go.RowKit Go.Joins

set_option maxRecDepth 10000 in
set_option maxHeartbeats 8000000 in
theorem HeadPacks_core (U C O sz last seq : Int) (Am As : Option Addr) (nm cm ns cs : Nat) (m : List Int) (ss : List Sn) (A1 : Option Addr) (n1 c1 : Nat) (l1 : List UInt8) (W : World) (hm : RdI W W.heap.size Am nm m) (hs : RdN W W.heap.size As ns ss) (_hn : nm ≤ 9223372036854775807) (hk : ns ≤ cs ∧ cs ≤ 9223372036854775807) (hb1 : Rd W W.heap.size A1 n1 l1) (hk1 : n1 ≤ c1) (hk2 : c1 ≤ 9223372036854775807) :
    Calls Try.prog 4 #[hV U C O sz Am nm cm As ns cs last seq, .slice A1 n1 c1] W (Yes W) := by
  have Hb1 := Lib.hid hb1
  have Hk1 : Hid (n1 ≤ c1 ∧ c1 ≤ 9223372036854775807) := ⟨hk1, hk2⟩
  clear hb1 hk1 hk2
  have Hm := Lib.hid hm
  have Hs := Lib.hid hs
  have K := Lib.hid hk
  clear hm hs hk
  go_enter Try.func4, Try.ntmps4
  go_upto_region 1 with fail
  have B := alB6 W (.cells #[.int .i64 U, .int .i64 C, .int .i64 O, .int .i64 sz, .slice Am nm cm, .slice As ns cs, .int .i64 last, .int .i64 seq] 27)
  have Bx := Lib.hid (heap_alloc_new W (.cells #[.int .i64 U, .int .i64 C, .int .i64 O, .int .i64 sz, .slice Am nm cm, .slice As ns cs, .int .i64 last, .int .i64 seq] 27))
  obtain ⟨b, hblk⟩ : ∃ b, b = W.heap.size := ⟨_, rfl⟩
  rw [← hblk] at Bx ⊢
  clear hblk
  generalize W.alloc (.cells #[.int .i64 U, .int .i64 C, .int .i64 O, .int .i64 sz, .slice Am nm cm, .slice As ns cs, .int .i64 last, .int .i64 seq] 27) = w0 at B Bx ⊢
  go_wp2_with fail
  refine (awake6 _).mono ?_
  rintro e w1 ⟨rfl, hb0⟩
  have hb := Lib.hid hb0
  replace Bx := blk_keep Bx hb
  replace B := belO6 B hb
  clear hb hb0
  obtain ⟨ca0, ca1, ca2, ca3, ca4, ca5, ca6, ca7⟩ := heads_of Bx.out
  go_wp2_with fail
  refine (rFew cm cs ((Hs.out.below B.out).more B.out.size)).mono ?_
  rintro e w2 ⟨rfl, hb⟩
  replace Bx := blk_keep Bx hb
  replace B := belO6 B hb
  clear ca0 ca1 ca2 ca3 ca4 ca5 ca6 ca7
  clear hb
  by_cases hf : fewB nm ns ss = true
  · have X := few_hv (U := U) (C := C) (O := O) (sz := sz) (last := last) (seq := seq) ((Hm.out.below B.out).more B.out.size) ((Hs.out.below B.out).more B.out.size) hf
    rw [hf]
    clear hf Hm Hs
    obtain ⟨g, hg⟩ : ∃ g : Hd, g = ⟨U, C, O, sz, m, ss, last, seq⟩ := ⟨_, rfl⟩
    rw [← hg] at X
    have Hg := Lib.hid hg
    clear hg
    by_cases h3 : n1 ≤ 3000
    · have h3' : (n1 : Int) ≤ 3000 := by omega
      have Y : Hid (BAt w2 A1 n1 c1 l1) := ⟨(Hb1.out.below B.out).more B.out.size, Hk1.out.1, Hk1.out.2, by omega⟩
      clear h3
      obtain ⟨E, hE⟩ : ∃ E, E = unE l1 := ⟨_, rfl⟩
      have HE := Lib.hid hE
      clear hE
      go_wp2_with fail
      refine (pUnpack Y).mono ?_
      rw [← HE.out]
      rintro e w3 ⟨Ux, Cx, Ox, szx, Amx, nmx, cmx, Asx, nsx, csx, lastx, seqx, rfl, X1, K1, hb⟩
      replace Bx := blk_keep Bx hb
      replace B := belO6 B hb
      replace X := HVl.keep X hb
      replace Y := BAt.keep Y hb
      clear hb
      go_upto_region 8 with fail
      have BA := alB6 w3 (.cells #[.int .i64 Ux, .int .i64 Cx, .int .i64 Ox, .int .i64 szx, .slice Amx nmx cmx, .slice Asx nsx csx, .int .i64 lastx, .int .i64 seqx] 27)
      have B1 := Lib.hid (heap_alloc_new w3 (.cells #[.int .i64 Ux, .int .i64 Cx, .int .i64 Ox, .int .i64 szx, .slice Amx nmx cmx, .slice Asx nsx csx, .int .i64 lastx, .int .i64 seqx] 27))
      obtain ⟨b1, hblk⟩ : ∃ b, b = w3.heap.size := ⟨_, rfl⟩
      rw [← hblk] at B1 ⊢
      clear hblk
      replace Bx := blk_keep Bx BA
      replace B := belO6 B BA
      replace X := HVl.keep X BA
      replace Y := BAt.keep Y BA
      replace X1 := HVl.keep X1 BA
      clear BA
      generalize w3.alloc (.cells #[.int .i64 Ux, .int .i64 Cx, .int .i64 Ox, .int .i64 szx, .slice Amx nmx cmx, .slice Asx nsx csx, .int .i64 lastx, .int .i64 seqx] 27) = w4 at Bx B X Y X1 B1 ⊢
      go_wp2_with fail
      refine (rUnpack Y).mono ?_
      rw [← HE.out]
      rintro e w5 ⟨Uy, Cy, Oy, szy, Amy, nmy, cmy, Asy, nsy, csy, lasty, seqy, rfl, X2, hb⟩
      replace Bx := blk_keep Bx hb
      replace B := belO6 B hb
      replace X := HVl.keep X hb
      replace Y := BAt.keep Y hb
      replace X1 := HVl.keep X1 hb
      replace B1 := blk_keep B1 hb
      clear hb
      go_upto_region 9 with fail
      have BA := alB6 w5 (.cells #[.int .i64 Uy, .int .i64 Cy, .int .i64 Oy, .int .i64 szy, .slice Amy nmy cmy, .slice Asy nsy csy, .int .i64 lasty, .int .i64 seqy] 27)
      have B2 := Lib.hid (heap_alloc_new w5 (.cells #[.int .i64 Uy, .int .i64 Cy, .int .i64 Oy, .int .i64 szy, .slice Amy nmy cmy, .slice Asy nsy csy, .int .i64 lasty, .int .i64 seqy] 27))
      obtain ⟨b2, hblk⟩ : ∃ b, b = w5.heap.size := ⟨_, rfl⟩
      rw [← hblk] at B2 ⊢
      clear hblk
      replace Bx := blk_keep Bx BA
      replace B := belO6 B BA
      replace X := HVl.keep X BA
      replace Y := BAt.keep Y BA
      replace X1 := HVl.keep X1 BA
      replace B1 := blk_keep B1 BA
      replace X2 := HVl.keep X2 BA
      clear BA
      generalize w5.alloc (.cells #[.int .i64 Uy, .int .i64 Cy, .int .i64 Oy, .int .i64 szy, .slice Amy nmy cmy, .slice Asy nsy csy, .int .i64 lasty, .int .i64 seqy] 27) = w6 at Bx B X Y X1 B1 X2 B2 ⊢
      have HP := fun w c' cs' (h : Hid (HVl w g U C O sz Am nm As ns last seq)) (k : Hid (ns ≤ cs' ∧ cs' ≤ 9223372036854775807)) => pPack c' cs' h k
      have HQ := fun w c' cs' (h : Hid (HVl w g U C O sz Am nm As ns last seq)) => rPack c' cs' h
      generalize packX g = P at HP HQ
      have KK := K
      have Xd := HVl.keep X (Lib.hid ((Below.refl w6.heap.size w6).drew))
      refine wp_region_held_drew (S := fun w' => Below w6.heap.size w6 w') (by kernel_rfl) ⟨rfl, rfl, rfl, Nat.le_refl _, fun _ _ => rfl⟩ (fun hS => ?_)
      refine wpAnyH_take (i := 0) (v := .agg #[.int .i64 U, .int .i64 C, .int .i64 O, .int .i64 sz, .slice Am nm cm, .slice As ns cs, .int .i64 last, .int .i64 seq]) rfl (by kernel_rfl) (by kernel_rfl) (by kernel_rfl) (fun _ _ _ h => h) (Or.inl ⟨by rfl, ?y0⟩) hS ?r0
      case y0 => (intro wy hSy; obtain ⟨ca0, ca1, ca2, ca3, ca4, ca5, ca6, ca7⟩ := heads_of (blk_keep Bx hSy).out; go_simp; try with_reducible rfl)
      change wpAnyH _ _ _ _ _ _ _ { tmps := #[hV U C O sz Am nm cm As ns cs last seq, .slice A1 n1 c1, .pointer (some ⟨b, 0, none⟩), undef, .bool false, .bool true, .bool true, .pointer (some ⟨b1, 0, none⟩), .int .i64 E, .pointer (some ⟨b2, 0, none⟩), .int .i64 E, .bool true, .bool true, .bool false, .agg #[.int .i64 U, .int .i64 C, .int .i64 O, .int .i64 sz, .slice Am nm cm, .slice As ns cs, .int .i64 last, .int .i64 seq], .bool true, .bool true, .bool false, .bool false, .slice A1 n1 c1, .int .i64 (n1 : Int), .bool (decide (3000 < (n1 : Int))), .bool (decide (3000 < (n1 : Int))), .tuple #[hV Ux Cx Ox szx Amx nmx cmx Asx nsx csx lastx seqx, .int .i64 E], .slice A1 n1 c1, .tuple #[hV Ux Cx Ox szx Amx nmx cmx Asx nsx csx lastx seqx, .int .i64 E], hV Ux Cx Ox szx Amx nmx cmx Asx nsx csx lastx seqx, .int .i64 E, .tuple #[hV Uy Cy Oy szy Amy nmy cmy Asy nsy csy lasty seqy, .int .i64 E], .slice A1 n1 c1, .tuple #[hV Uy Cy Oy szy Amy nmy cmy Asy nsy csy lasty seqy, .int .i64 E], hV Uy Cy Oy szy Amy nmy cmy Asy nsy csy lasty seqy, .int .i64 E, .agg #[.int .i64 U, .int .i64 C, .int .i64 O, .int .i64 sz, .slice Am nm cm, .slice As ns cs, .int .i64 last, .int .i64 seq], undef, undef, undef, undef, undef, undef, undef, undef, undef, undef, undef, undef, undef, undef, undef, undef], defers := [] } _
      refine wpAnyH_take (i := 3) (v := .agg #[.int .i64 U, .int .i64 C, .int .i64 O, .int .i64 sz, .slice Am nm cm, .slice As ns cs, .int .i64 last, .int .i64 seq]) rfl (by kernel_rfl) (by kernel_rfl) (by kernel_rfl) (fun _ _ _ h => h) (Or.inl ⟨by rfl, ?y3⟩) hS ?r3
      case y3 => (intro wy hSy; obtain ⟨ca0, ca1, ca2, ca3, ca4, ca5, ca6, ca7⟩ := heads_of (blk_keep Bx hSy).out; go_simp; try with_reducible rfl)
      change wpAnyH _ _ _ _ _ _ _ { tmps := #[hV U C O sz Am nm cm As ns cs last seq, .slice A1 n1 c1, .pointer (some ⟨b, 0, none⟩), undef, .bool false, .bool true, .bool true, .pointer (some ⟨b1, 0, none⟩), .int .i64 E, .pointer (some ⟨b2, 0, none⟩), .int .i64 E, .bool true, .bool true, .bool false, .agg #[.int .i64 U, .int .i64 C, .int .i64 O, .int .i64 sz, .slice Am nm cm, .slice As ns cs, .int .i64 last, .int .i64 seq], .bool true, .bool true, .bool false, .bool false, .slice A1 n1 c1, .int .i64 (n1 : Int), .bool (decide (3000 < (n1 : Int))), .bool (decide (3000 < (n1 : Int))), .tuple #[hV Ux Cx Ox szx Amx nmx cmx Asx nsx csx lastx seqx, .int .i64 E], .slice A1 n1 c1, .tuple #[hV Ux Cx Ox szx Amx nmx cmx Asx nsx csx lastx seqx, .int .i64 E], hV Ux Cx Ox szx Amx nmx cmx Asx nsx csx lastx seqx, .int .i64 E, .tuple #[hV Uy Cy Oy szy Amy nmy cmy Asy nsy csy lasty seqy, .int .i64 E], .slice A1 n1 c1, .tuple #[hV Uy Cy Oy szy Amy nmy cmy Asy nsy csy lasty seqy, .int .i64 E], hV Uy Cy Oy szy Amy nmy cmy Asy nsy csy lasty seqy, .int .i64 E, .agg #[.int .i64 U, .int .i64 C, .int .i64 O, .int .i64 sz, .slice Am nm cm, .slice As ns cs, .int .i64 last, .int .i64 seq], undef, undef, .agg #[.int .i64 U, .int .i64 C, .int .i64 O, .int .i64 sz, .slice Am nm cm, .slice As ns cs, .int .i64 last, .int .i64 seq], undef, undef, undef, undef, undef, undef, undef, undef, undef, undef, undef, undef, undef], defers := [] } _
      refine wpAnyH_ready (rs := [1]) (by kernel_rfl) (by simp) ?_
      refine AllReadyH.cons rfl (fun K hK => ?_) AllReadyH.nil
      go_simp
      go_wp2_with (go_at_call 23; refine (HP _ cm cs Xd KK).mono ?_; rintro e w7 ⟨A3, n3, c3, rfl, P3, hb⟩)
      refine hK.out _ _ ?_ (fun hS => ?_)
      · exact (undrew6 hb).out
      clear hK K
      have Tw7 := undrew6 hb
      clear hb
      replace Bx := blk_keep Bx Tw7
      replace B := belO6 B Tw7
      replace X := HVl.keep X Tw7
      replace Y := BAt.keep Y Tw7
      replace X1 := HVl.keep X1 Tw7
      replace B1 := blk_keep B1 Tw7
      replace X2 := HVl.keep X2 Tw7
      replace B2 := blk_keep B2 Tw7
      clear hS
      refine wpAnyH_strong (S' := fun w' => Below w7.heap.size w7 w') (fun w' h => Tw7.out.trans (h.mono Tw7.out.size)) _ _ _ _ ?_
      have hS : Below w7.heap.size w7 w7 := Below.refl _ _
      change wpAnyH _ _ _ _ _ _ _ { tmps := #[hV U C O sz Am nm cm As ns cs last seq, .slice A1 n1 c1, .pointer (some ⟨b, 0, none⟩), undef, .bool false, .bool true, .bool true, .pointer (some ⟨b1, 0, none⟩), .int .i64 E, .pointer (some ⟨b2, 0, none⟩), .int .i64 E, .bool true, .bool true, .bool false, .agg #[.int .i64 U, .int .i64 C, .int .i64 O, .int .i64 sz, .slice Am nm cm, .slice As ns cs, .int .i64 last, .int .i64 seq], .bool true, .bool true, .bool false, .bool false, .slice A1 n1 c1, .int .i64 (n1 : Int), .bool (decide (3000 < (n1 : Int))), .bool (decide (3000 < (n1 : Int))), .tuple #[hV Ux Cx Ox szx Amx nmx cmx Asx nsx csx lastx seqx, .int .i64 E], .slice A1 n1 c1, .tuple #[hV Ux Cx Ox szx Amx nmx cmx Asx nsx csx lastx seqx, .int .i64 E], hV Ux Cx Ox szx Amx nmx cmx Asx nsx csx lastx seqx, .int .i64 E, .tuple #[hV Uy Cy Oy szy Amy nmy cmy Asy nsy csy lasty seqy, .int .i64 E], .slice A1 n1 c1, .tuple #[hV Uy Cy Oy szy Amy nmy cmy Asy nsy csy lasty seqy, .int .i64 E], hV Uy Cy Oy szy Amy nmy cmy Asy nsy csy lasty seqy, .int .i64 E, .agg #[.int .i64 U, .int .i64 C, .int .i64 O, .int .i64 sz, .slice Am nm cm, .slice As ns cs, .int .i64 last, .int .i64 seq], .slice A3 n3 c3, undef, .agg #[.int .i64 U, .int .i64 C, .int .i64 O, .int .i64 sz, .slice Am nm cm, .slice As ns cs, .int .i64 last, .int .i64 seq], undef, undef, undef, undef, undef, undef, undef, undef, undef, undef, undef, undef, undef], defers := [] } _
      refine wpAnyH_take (i := 2) (v := .string ⟨P.toArray⟩) rfl (by kernel_rfl) (by kernel_rfl) (by kernel_rfl) (fun _ _ _ h => h) (Or.inl ⟨by rfl, ?y2⟩) hS ?r2
      case y2 => (intro wy hSy; obtain ⟨ca0, ca1, ca2, ca3, ca4, ca5, ca6, ca7⟩ := heads_of (blk_keep Bx hSy).out; have hcx := str_any (c := c3) (BAt.keep P3 hSy).out.1; go_simp; try with_reducible rfl)
      change wpAnyH _ _ _ _ _ _ _ { tmps := #[hV U C O sz Am nm cm As ns cs last seq, .slice A1 n1 c1, .pointer (some ⟨b, 0, none⟩), undef, .bool false, .bool true, .bool true, .pointer (some ⟨b1, 0, none⟩), .int .i64 E, .pointer (some ⟨b2, 0, none⟩), .int .i64 E, .bool true, .bool true, .bool false, .agg #[.int .i64 U, .int .i64 C, .int .i64 O, .int .i64 sz, .slice Am nm cm, .slice As ns cs, .int .i64 last, .int .i64 seq], .bool true, .bool true, .bool false, .bool false, .slice A1 n1 c1, .int .i64 (n1 : Int), .bool (decide (3000 < (n1 : Int))), .bool (decide (3000 < (n1 : Int))), .tuple #[hV Ux Cx Ox szx Amx nmx cmx Asx nsx csx lastx seqx, .int .i64 E], .slice A1 n1 c1, .tuple #[hV Ux Cx Ox szx Amx nmx cmx Asx nsx csx lastx seqx, .int .i64 E], hV Ux Cx Ox szx Amx nmx cmx Asx nsx csx lastx seqx, .int .i64 E, .tuple #[hV Uy Cy Oy szy Amy nmy cmy Asy nsy csy lasty seqy, .int .i64 E], .slice A1 n1 c1, .tuple #[hV Uy Cy Oy szy Amy nmy cmy Asy nsy csy lasty seqy, .int .i64 E], hV Uy Cy Oy szy Amy nmy cmy Asy nsy csy lasty seqy, .int .i64 E, .agg #[.int .i64 U, .int .i64 C, .int .i64 O, .int .i64 sz, .slice Am nm cm, .slice As ns cs, .int .i64 last, .int .i64 seq], .slice A3 n3 c3, .string ⟨P.toArray⟩, .agg #[.int .i64 U, .int .i64 C, .int .i64 O, .int .i64 sz, .slice Am nm cm, .slice As ns cs, .int .i64 last, .int .i64 seq], undef, undef, undef, undef, undef, undef, undef, undef, undef, undef, undef, undef, undef], defers := [] } _
      refine wpAnyH_ready (rs := [4]) (by kernel_rfl) (by simp) ?_
      refine AllReadyH.cons rfl (fun K hK => ?_) AllReadyH.nil
      go_simp
      go_wp2_with (go_at_call 24; refine (HQ _ cm cs (by exact X)).mono ?_; rintro e w8 ⟨A5, n5, c5, rfl, P5, hb⟩)
      refine hK.out _ _ ?_ (fun hS => ?_)
      · exact hb.out
      clear hK K
      have Tw8 := hb
      clear hb
      replace Bx := blk_keep Bx Tw8
      replace B := belO6 B Tw8
      replace X := HVl.keep X Tw8
      replace Y := BAt.keep Y Tw8
      replace X1 := HVl.keep X1 Tw8
      replace B1 := blk_keep B1 Tw8
      replace X2 := HVl.keep X2 Tw8
      replace B2 := blk_keep B2 Tw8
      replace P3 := BAt.keep P3 Tw8
      clear hS
      refine wpAnyH_strong (S' := fun w' => Below w8.heap.size w8 w') (fun w' h => Tw8.out.trans (h.mono Tw8.out.size)) _ _ _ _ ?_
      have hS : Below w8.heap.size w8 w8 := Below.refl _ _
      change wpAnyH _ _ _ _ _ _ _ { tmps := #[hV U C O sz Am nm cm As ns cs last seq, .slice A1 n1 c1, .pointer (some ⟨b, 0, none⟩), undef, .bool false, .bool true, .bool true, .pointer (some ⟨b1, 0, none⟩), .int .i64 E, .pointer (some ⟨b2, 0, none⟩), .int .i64 E, .bool true, .bool true, .bool false, .agg #[.int .i64 U, .int .i64 C, .int .i64 O, .int .i64 sz, .slice Am nm cm, .slice As ns cs, .int .i64 last, .int .i64 seq], .bool true, .bool true, .bool false, .bool false, .slice A1 n1 c1, .int .i64 (n1 : Int), .bool (decide (3000 < (n1 : Int))), .bool (decide (3000 < (n1 : Int))), .tuple #[hV Ux Cx Ox szx Amx nmx cmx Asx nsx csx lastx seqx, .int .i64 E], .slice A1 n1 c1, .tuple #[hV Ux Cx Ox szx Amx nmx cmx Asx nsx csx lastx seqx, .int .i64 E], hV Ux Cx Ox szx Amx nmx cmx Asx nsx csx lastx seqx, .int .i64 E, .tuple #[hV Uy Cy Oy szy Amy nmy cmy Asy nsy csy lasty seqy, .int .i64 E], .slice A1 n1 c1, .tuple #[hV Uy Cy Oy szy Amy nmy cmy Asy nsy csy lasty seqy, .int .i64 E], hV Uy Cy Oy szy Amy nmy cmy Asy nsy csy lasty seqy, .int .i64 E, .agg #[.int .i64 U, .int .i64 C, .int .i64 O, .int .i64 sz, .slice Am nm cm, .slice As ns cs, .int .i64 last, .int .i64 seq], .slice A3 n3 c3, .string ⟨P.toArray⟩, .agg #[.int .i64 U, .int .i64 C, .int .i64 O, .int .i64 sz, .slice Am nm cm, .slice As ns cs, .int .i64 last, .int .i64 seq], .slice A5 n5 c5, undef, undef, undef, undef, undef, undef, undef, undef, undef, undef, undef, undef], defers := [] } _
      refine wpAnyH_take (i := 5) (v := .string ⟨P.toArray⟩) rfl (by kernel_rfl) (by kernel_rfl) (by kernel_rfl) (fun _ _ _ h => h) (Or.inl ⟨by rfl, ?y5⟩) hS ?r5
      case y5 => (intro wy hSy; obtain ⟨ca0, ca1, ca2, ca3, ca4, ca5, ca6, ca7⟩ := heads_of (blk_keep B1 hSy).out; obtain ⟨cb0, cb1, cb2, cb3, cb4, cb5, cb6, cb7⟩ := heads_of (blk_keep B2 hSy).out; have hcx := str_any (c := c5) (BAt.keep P5 hSy).out.1; go_simp; try with_reducible rfl)
      change wpAnyH _ _ _ _ _ _ _ { tmps := #[hV U C O sz Am nm cm As ns cs last seq, .slice A1 n1 c1, .pointer (some ⟨b, 0, none⟩), undef, .bool false, .bool true, .bool true, .pointer (some ⟨b1, 0, none⟩), .int .i64 E, .pointer (some ⟨b2, 0, none⟩), .int .i64 E, .bool true, .bool true, .bool false, .agg #[.int .i64 U, .int .i64 C, .int .i64 O, .int .i64 sz, .slice Am nm cm, .slice As ns cs, .int .i64 last, .int .i64 seq], .bool true, .bool true, .bool false, .bool false, .slice A1 n1 c1, .int .i64 (n1 : Int), .bool (decide (3000 < (n1 : Int))), .bool (decide (3000 < (n1 : Int))), .tuple #[hV Ux Cx Ox szx Amx nmx cmx Asx nsx csx lastx seqx, .int .i64 E], .slice A1 n1 c1, .tuple #[hV Ux Cx Ox szx Amx nmx cmx Asx nsx csx lastx seqx, .int .i64 E], hV Ux Cx Ox szx Amx nmx cmx Asx nsx csx lastx seqx, .int .i64 E, .tuple #[hV Uy Cy Oy szy Amy nmy cmy Asy nsy csy lasty seqy, .int .i64 E], .slice A1 n1 c1, .tuple #[hV Uy Cy Oy szy Amy nmy cmy Asy nsy csy lasty seqy, .int .i64 E], hV Uy Cy Oy szy Amy nmy cmy Asy nsy csy lasty seqy, .int .i64 E, .agg #[.int .i64 U, .int .i64 C, .int .i64 O, .int .i64 sz, .slice Am nm cm, .slice As ns cs, .int .i64 last, .int .i64 seq], .slice A3 n3 c3, .string ⟨P.toArray⟩, .agg #[.int .i64 U, .int .i64 C, .int .i64 O, .int .i64 sz, .slice Am nm cm, .slice As ns cs, .int .i64 last, .int .i64 seq], .slice A5 n5 c5, .string ⟨P.toArray⟩, undef, undef, undef, undef, undef, undef, undef, undef, undef, undef, undef], defers := [] } _
      refine wpAnyH_take (i := 6) (v := (.bool true)) rfl (by kernel_rfl) (by kernel_rfl) (by kernel_rfl) (fun _ _ _ h => h) (Or.inl ⟨by rfl, ?y6⟩) hS ?r6
      case y6 => (intro wy hSy; go_simp; try with_reducible rfl)
      change wpAnyH _ _ _ _ _ _ _ { tmps := #[hV U C O sz Am nm cm As ns cs last seq, .slice A1 n1 c1, .pointer (some ⟨b, 0, none⟩), undef, .bool false, .bool true, .bool true, .pointer (some ⟨b1, 0, none⟩), .int .i64 E, .pointer (some ⟨b2, 0, none⟩), .int .i64 E, .bool true, .bool true, .bool false, .agg #[.int .i64 U, .int .i64 C, .int .i64 O, .int .i64 sz, .slice Am nm cm, .slice As ns cs, .int .i64 last, .int .i64 seq], .bool true, .bool true, .bool false, .bool false, .slice A1 n1 c1, .int .i64 (n1 : Int), .bool (decide (3000 < (n1 : Int))), .bool (decide (3000 < (n1 : Int))), .tuple #[hV Ux Cx Ox szx Amx nmx cmx Asx nsx csx lastx seqx, .int .i64 E], .slice A1 n1 c1, .tuple #[hV Ux Cx Ox szx Amx nmx cmx Asx nsx csx lastx seqx, .int .i64 E], hV Ux Cx Ox szx Amx nmx cmx Asx nsx csx lastx seqx, .int .i64 E, .tuple #[hV Uy Cy Oy szy Amy nmy cmy Asy nsy csy lasty seqy, .int .i64 E], .slice A1 n1 c1, .tuple #[hV Uy Cy Oy szy Amy nmy cmy Asy nsy csy lasty seqy, .int .i64 E], hV Uy Cy Oy szy Amy nmy cmy Asy nsy csy lasty seqy, .int .i64 E, .agg #[.int .i64 U, .int .i64 C, .int .i64 O, .int .i64 sz, .slice Am nm cm, .slice As ns cs, .int .i64 last, .int .i64 seq], .slice A3 n3 c3, .string ⟨P.toArray⟩, .agg #[.int .i64 U, .int .i64 C, .int .i64 O, .int .i64 sz, .slice Am nm cm, .slice As ns cs, .int .i64 last, .int .i64 seq], .slice A5 n5 c5, .string ⟨P.toArray⟩, (.bool true), undef, undef, undef, undef, undef, undef, undef, undef, undef, undef], defers := [] } _
      refine wpAnyH_take (i := 7) (v := (.bool true)) rfl (by kernel_rfl) (by kernel_rfl) (by kernel_rfl) (fun _ _ _ h => h) (Or.inl ⟨by rfl, ?y7⟩) hS ?r7
      case y7 => (intro wy hSy; go_simp; try with_reducible rfl)
      change wpAnyH _ _ _ _ _ _ _ { tmps := #[hV U C O sz Am nm cm As ns cs last seq, .slice A1 n1 c1, .pointer (some ⟨b, 0, none⟩), undef, .bool false, .bool true, .bool true, .pointer (some ⟨b1, 0, none⟩), .int .i64 E, .pointer (some ⟨b2, 0, none⟩), .int .i64 E, .bool true, .bool true, .bool false, .agg #[.int .i64 U, .int .i64 C, .int .i64 O, .int .i64 sz, .slice Am nm cm, .slice As ns cs, .int .i64 last, .int .i64 seq], .bool true, .bool true, .bool false, .bool false, .slice A1 n1 c1, .int .i64 (n1 : Int), .bool (decide (3000 < (n1 : Int))), .bool (decide (3000 < (n1 : Int))), .tuple #[hV Ux Cx Ox szx Amx nmx cmx Asx nsx csx lastx seqx, .int .i64 E], .slice A1 n1 c1, .tuple #[hV Ux Cx Ox szx Amx nmx cmx Asx nsx csx lastx seqx, .int .i64 E], hV Ux Cx Ox szx Amx nmx cmx Asx nsx csx lastx seqx, .int .i64 E, .tuple #[hV Uy Cy Oy szy Amy nmy cmy Asy nsy csy lasty seqy, .int .i64 E], .slice A1 n1 c1, .tuple #[hV Uy Cy Oy szy Amy nmy cmy Asy nsy csy lasty seqy, .int .i64 E], hV Uy Cy Oy szy Amy nmy cmy Asy nsy csy lasty seqy, .int .i64 E, .agg #[.int .i64 U, .int .i64 C, .int .i64 O, .int .i64 sz, .slice Am nm cm, .slice As ns cs, .int .i64 last, .int .i64 seq], .slice A3 n3 c3, .string ⟨P.toArray⟩, .agg #[.int .i64 U, .int .i64 C, .int .i64 O, .int .i64 sz, .slice Am nm cm, .slice As ns cs, .int .i64 last, .int .i64 seq], .slice A5 n5 c5, .string ⟨P.toArray⟩, (.bool true), (.bool true), undef, undef, undef, undef, undef, undef, undef, undef, undef], defers := [] } _
      refine wpAnyH_take (i := 8) (v := .int .i64 E) rfl (by kernel_rfl) (by kernel_rfl) (by kernel_rfl) (fun _ _ _ h => h) (Or.inl ⟨by rfl, ?y8⟩) hS ?r8
      case y8 => (intro wy hSy; go_simp; try with_reducible rfl)
      change wpAnyH _ _ _ _ _ _ _ { tmps := #[hV U C O sz Am nm cm As ns cs last seq, .slice A1 n1 c1, .pointer (some ⟨b, 0, none⟩), undef, .bool false, .bool true, .bool true, .pointer (some ⟨b1, 0, none⟩), .int .i64 E, .pointer (some ⟨b2, 0, none⟩), .int .i64 E, .bool true, .bool true, .bool false, .agg #[.int .i64 U, .int .i64 C, .int .i64 O, .int .i64 sz, .slice Am nm cm, .slice As ns cs, .int .i64 last, .int .i64 seq], .bool true, .bool true, .bool false, .bool false, .slice A1 n1 c1, .int .i64 (n1 : Int), .bool (decide (3000 < (n1 : Int))), .bool (decide (3000 < (n1 : Int))), .tuple #[hV Ux Cx Ox szx Amx nmx cmx Asx nsx csx lastx seqx, .int .i64 E], .slice A1 n1 c1, .tuple #[hV Ux Cx Ox szx Amx nmx cmx Asx nsx csx lastx seqx, .int .i64 E], hV Ux Cx Ox szx Amx nmx cmx Asx nsx csx lastx seqx, .int .i64 E, .tuple #[hV Uy Cy Oy szy Amy nmy cmy Asy nsy csy lasty seqy, .int .i64 E], .slice A1 n1 c1, .tuple #[hV Uy Cy Oy szy Amy nmy cmy Asy nsy csy lasty seqy, .int .i64 E], hV Uy Cy Oy szy Amy nmy cmy Asy nsy csy lasty seqy, .int .i64 E, .agg #[.int .i64 U, .int .i64 C, .int .i64 O, .int .i64 sz, .slice Am nm cm, .slice As ns cs, .int .i64 last, .int .i64 seq], .slice A3 n3 c3, .string ⟨P.toArray⟩, .agg #[.int .i64 U, .int .i64 C, .int .i64 O, .int .i64 sz, .slice Am nm cm, .slice As ns cs, .int .i64 last, .int .i64 seq], .slice A5 n5 c5, .string ⟨P.toArray⟩, (.bool true), (.bool true), .int .i64 E, undef, undef, undef, undef, undef, undef, undef, undef], defers := [] } _
      refine wpAnyH_take (i := 9) (v := .int .i64 E) rfl (by kernel_rfl) (by kernel_rfl) (by kernel_rfl) (fun _ _ _ h => h) (Or.inl ⟨by rfl, ?y9⟩) hS ?r9
      case y9 => (intro wy hSy; go_simp; try with_reducible rfl)
      change wpAnyH _ _ _ _ _ _ _ { tmps := #[hV U C O sz Am nm cm As ns cs last seq, .slice A1 n1 c1, .pointer (some ⟨b, 0, none⟩), undef, .bool false, .bool true, .bool true, .pointer (some ⟨b1, 0, none⟩), .int .i64 E, .pointer (some ⟨b2, 0, none⟩), .int .i64 E, .bool true, .bool true, .bool false, .agg #[.int .i64 U, .int .i64 C, .int .i64 O, .int .i64 sz, .slice Am nm cm, .slice As ns cs, .int .i64 last, .int .i64 seq], .bool true, .bool true, .bool false, .bool false, .slice A1 n1 c1, .int .i64 (n1 : Int), .bool (decide (3000 < (n1 : Int))), .bool (decide (3000 < (n1 : Int))), .tuple #[hV Ux Cx Ox szx Amx nmx cmx Asx nsx csx lastx seqx, .int .i64 E], .slice A1 n1 c1, .tuple #[hV Ux Cx Ox szx Amx nmx cmx Asx nsx csx lastx seqx, .int .i64 E], hV Ux Cx Ox szx Amx nmx cmx Asx nsx csx lastx seqx, .int .i64 E, .tuple #[hV Uy Cy Oy szy Amy nmy cmy Asy nsy csy lasty seqy, .int .i64 E], .slice A1 n1 c1, .tuple #[hV Uy Cy Oy szy Amy nmy cmy Asy nsy csy lasty seqy, .int .i64 E], hV Uy Cy Oy szy Amy nmy cmy Asy nsy csy lasty seqy, .int .i64 E, .agg #[.int .i64 U, .int .i64 C, .int .i64 O, .int .i64 sz, .slice Am nm cm, .slice As ns cs, .int .i64 last, .int .i64 seq], .slice A3 n3 c3, .string ⟨P.toArray⟩, .agg #[.int .i64 U, .int .i64 C, .int .i64 O, .int .i64 sz, .slice Am nm cm, .slice As ns cs, .int .i64 last, .int .i64 seq], .slice A5 n5 c5, .string ⟨P.toArray⟩, (.bool true), (.bool true), .int .i64 E, .int .i64 E, undef, undef, undef, undef, undef, undef, undef], defers := [] } _
      refine wpAnyH_take (i := 10) (v := (.bool true)) rfl (by kernel_rfl) (by kernel_rfl) (by kernel_rfl) (fun _ _ _ h => h) (Or.inl ⟨by rfl, ?y10⟩) hS ?r10
      case y10 => (intro wy hSy; go_simp; try with_reducible rfl)
      change wpAnyH _ _ _ _ _ _ _ { tmps := #[hV U C O sz Am nm cm As ns cs last seq, .slice A1 n1 c1, .pointer (some ⟨b, 0, none⟩), undef, .bool false, .bool true, .bool true, .pointer (some ⟨b1, 0, none⟩), .int .i64 E, .pointer (some ⟨b2, 0, none⟩), .int .i64 E, .bool true, .bool true, .bool false, .agg #[.int .i64 U, .int .i64 C, .int .i64 O, .int .i64 sz, .slice Am nm cm, .slice As ns cs, .int .i64 last, .int .i64 seq], .bool true, .bool true, .bool false, .bool false, .slice A1 n1 c1, .int .i64 (n1 : Int), .bool (decide (3000 < (n1 : Int))), .bool (decide (3000 < (n1 : Int))), .tuple #[hV Ux Cx Ox szx Amx nmx cmx Asx nsx csx lastx seqx, .int .i64 E], .slice A1 n1 c1, .tuple #[hV Ux Cx Ox szx Amx nmx cmx Asx nsx csx lastx seqx, .int .i64 E], hV Ux Cx Ox szx Amx nmx cmx Asx nsx csx lastx seqx, .int .i64 E, .tuple #[hV Uy Cy Oy szy Amy nmy cmy Asy nsy csy lasty seqy, .int .i64 E], .slice A1 n1 c1, .tuple #[hV Uy Cy Oy szy Amy nmy cmy Asy nsy csy lasty seqy, .int .i64 E], hV Uy Cy Oy szy Amy nmy cmy Asy nsy csy lasty seqy, .int .i64 E, .agg #[.int .i64 U, .int .i64 C, .int .i64 O, .int .i64 sz, .slice Am nm cm, .slice As ns cs, .int .i64 last, .int .i64 seq], .slice A3 n3 c3, .string ⟨P.toArray⟩, .agg #[.int .i64 U, .int .i64 C, .int .i64 O, .int .i64 sz, .slice Am nm cm, .slice As ns cs, .int .i64 last, .int .i64 seq], .slice A5 n5 c5, .string ⟨P.toArray⟩, (.bool true), (.bool true), .int .i64 E, .int .i64 E, (.bool true), undef, undef, undef, undef, undef, undef], defers := [] } _
      refine wpAnyH_take (i := 11) (v := (.bool true)) rfl (by kernel_rfl) (by kernel_rfl) (by kernel_rfl) (fun _ _ _ h => h) (Or.inl ⟨by rfl, ?y11⟩) hS ?r11
      case y11 => (intro wy hSy; go_simp; try with_reducible rfl)
      change wpAnyH _ _ _ _ _ _ _ { tmps := #[hV U C O sz Am nm cm As ns cs last seq, .slice A1 n1 c1, .pointer (some ⟨b, 0, none⟩), undef, .bool false, .bool true, .bool true, .pointer (some ⟨b1, 0, none⟩), .int .i64 E, .pointer (some ⟨b2, 0, none⟩), .int .i64 E, .bool true, .bool true, .bool false, .agg #[.int .i64 U, .int .i64 C, .int .i64 O, .int .i64 sz, .slice Am nm cm, .slice As ns cs, .int .i64 last, .int .i64 seq], .bool true, .bool true, .bool false, .bool false, .slice A1 n1 c1, .int .i64 (n1 : Int), .bool (decide (3000 < (n1 : Int))), .bool (decide (3000 < (n1 : Int))), .tuple #[hV Ux Cx Ox szx Amx nmx cmx Asx nsx csx lastx seqx, .int .i64 E], .slice A1 n1 c1, .tuple #[hV Ux Cx Ox szx Amx nmx cmx Asx nsx csx lastx seqx, .int .i64 E], hV Ux Cx Ox szx Amx nmx cmx Asx nsx csx lastx seqx, .int .i64 E, .tuple #[hV Uy Cy Oy szy Amy nmy cmy Asy nsy csy lasty seqy, .int .i64 E], .slice A1 n1 c1, .tuple #[hV Uy Cy Oy szy Amy nmy cmy Asy nsy csy lasty seqy, .int .i64 E], hV Uy Cy Oy szy Amy nmy cmy Asy nsy csy lasty seqy, .int .i64 E, .agg #[.int .i64 U, .int .i64 C, .int .i64 O, .int .i64 sz, .slice Am nm cm, .slice As ns cs, .int .i64 last, .int .i64 seq], .slice A3 n3 c3, .string ⟨P.toArray⟩, .agg #[.int .i64 U, .int .i64 C, .int .i64 O, .int .i64 sz, .slice Am nm cm, .slice As ns cs, .int .i64 last, .int .i64 seq], .slice A5 n5 c5, .string ⟨P.toArray⟩, (.bool true), (.bool true), .int .i64 E, .int .i64 E, (.bool true), (.bool true), undef, undef, undef, undef, undef], defers := [] } _
      refine wpAnyH_take (i := 12) (v := (.bool true)) rfl (by kernel_rfl) (by kernel_rfl) (by kernel_rfl) (fun _ _ _ h => h) (Or.inl ⟨by rfl, ?y12⟩) hS ?r12
      case y12 => (intro wy hSy; go_simp; try with_reducible rfl)
      change wpAnyH _ _ _ _ _ _ _ { tmps := #[hV U C O sz Am nm cm As ns cs last seq, .slice A1 n1 c1, .pointer (some ⟨b, 0, none⟩), undef, .bool false, .bool true, .bool true, .pointer (some ⟨b1, 0, none⟩), .int .i64 E, .pointer (some ⟨b2, 0, none⟩), .int .i64 E, .bool true, .bool true, .bool false, .agg #[.int .i64 U, .int .i64 C, .int .i64 O, .int .i64 sz, .slice Am nm cm, .slice As ns cs, .int .i64 last, .int .i64 seq], .bool true, .bool true, .bool false, .bool false, .slice A1 n1 c1, .int .i64 (n1 : Int), .bool (decide (3000 < (n1 : Int))), .bool (decide (3000 < (n1 : Int))), .tuple #[hV Ux Cx Ox szx Amx nmx cmx Asx nsx csx lastx seqx, .int .i64 E], .slice A1 n1 c1, .tuple #[hV Ux Cx Ox szx Amx nmx cmx Asx nsx csx lastx seqx, .int .i64 E], hV Ux Cx Ox szx Amx nmx cmx Asx nsx csx lastx seqx, .int .i64 E, .tuple #[hV Uy Cy Oy szy Amy nmy cmy Asy nsy csy lasty seqy, .int .i64 E], .slice A1 n1 c1, .tuple #[hV Uy Cy Oy szy Amy nmy cmy Asy nsy csy lasty seqy, .int .i64 E], hV Uy Cy Oy szy Amy nmy cmy Asy nsy csy lasty seqy, .int .i64 E, .agg #[.int .i64 U, .int .i64 C, .int .i64 O, .int .i64 sz, .slice Am nm cm, .slice As ns cs, .int .i64 last, .int .i64 seq], .slice A3 n3 c3, .string ⟨P.toArray⟩, .agg #[.int .i64 U, .int .i64 C, .int .i64 O, .int .i64 sz, .slice Am nm cm, .slice As ns cs, .int .i64 last, .int .i64 seq], .slice A5 n5 c5, .string ⟨P.toArray⟩, (.bool true), (.bool true), .int .i64 E, .int .i64 E, (.bool true), (.bool true), (.bool true), undef, undef, undef, undef], defers := [] } _
      refine wpAnyH_take (i := 13) (v := .agg #[.int .i64 Ux, .int .i64 Cx, .int .i64 Ox, .int .i64 szx, .slice Amx nmx cmx, .slice Asx nsx csx, .int .i64 lastx, .int .i64 seqx]) rfl (by kernel_rfl) (by kernel_rfl) (by kernel_rfl) (fun _ _ _ h => h) (Or.inl ⟨by rfl, ?y13⟩) hS ?r13
      case y13 => (intro wy hSy; obtain ⟨ca0, ca1, ca2, ca3, ca4, ca5, ca6, ca7⟩ := heads_of (blk_keep B1 hSy).out; obtain ⟨cb0, cb1, cb2, cb3, cb4, cb5, cb6, cb7⟩ := heads_of (blk_keep B2 hSy).out; have hcx := str_any (c := c5) (BAt.keep P5 hSy).out.1; go_simp; try with_reducible rfl)
      change wpAnyH _ _ _ _ _ _ _ { tmps := #[hV U C O sz Am nm cm As ns cs last seq, .slice A1 n1 c1, .pointer (some ⟨b, 0, none⟩), undef, .bool false, .bool true, .bool true, .pointer (some ⟨b1, 0, none⟩), .int .i64 E, .pointer (some ⟨b2, 0, none⟩), .int .i64 E, .bool true, .bool true, .bool false, .agg #[.int .i64 U, .int .i64 C, .int .i64 O, .int .i64 sz, .slice Am nm cm, .slice As ns cs, .int .i64 last, .int .i64 seq], .bool true, .bool true, .bool false, .bool false, .slice A1 n1 c1, .int .i64 (n1 : Int), .bool (decide (3000 < (n1 : Int))), .bool (decide (3000 < (n1 : Int))), .tuple #[hV Ux Cx Ox szx Amx nmx cmx Asx nsx csx lastx seqx, .int .i64 E], .slice A1 n1 c1, .tuple #[hV Ux Cx Ox szx Amx nmx cmx Asx nsx csx lastx seqx, .int .i64 E], hV Ux Cx Ox szx Amx nmx cmx Asx nsx csx lastx seqx, .int .i64 E, .tuple #[hV Uy Cy Oy szy Amy nmy cmy Asy nsy csy lasty seqy, .int .i64 E], .slice A1 n1 c1, .tuple #[hV Uy Cy Oy szy Amy nmy cmy Asy nsy csy lasty seqy, .int .i64 E], hV Uy Cy Oy szy Amy nmy cmy Asy nsy csy lasty seqy, .int .i64 E, .agg #[.int .i64 U, .int .i64 C, .int .i64 O, .int .i64 sz, .slice Am nm cm, .slice As ns cs, .int .i64 last, .int .i64 seq], .slice A3 n3 c3, .string ⟨P.toArray⟩, .agg #[.int .i64 U, .int .i64 C, .int .i64 O, .int .i64 sz, .slice Am nm cm, .slice As ns cs, .int .i64 last, .int .i64 seq], .slice A5 n5 c5, .string ⟨P.toArray⟩, (.bool true), (.bool true), .int .i64 E, .int .i64 E, (.bool true), (.bool true), (.bool true), .agg #[.int .i64 Ux, .int .i64 Cx, .int .i64 Ox, .int .i64 szx, .slice Amx nmx cmx, .slice Asx nsx csx, .int .i64 lastx, .int .i64 seqx], undef, undef, undef], defers := [] } _
      refine wpAnyH_take (i := 14) (v := .agg #[.int .i64 Uy, .int .i64 Cy, .int .i64 Oy, .int .i64 szy, .slice Amy nmy cmy, .slice Asy nsy csy, .int .i64 lasty, .int .i64 seqy]) rfl (by kernel_rfl) (by kernel_rfl) (by kernel_rfl) (fun _ _ _ h => h) (Or.inl ⟨by rfl, ?y14⟩) hS ?r14
      case y14 => (intro wy hSy; obtain ⟨ca0, ca1, ca2, ca3, ca4, ca5, ca6, ca7⟩ := heads_of (blk_keep B1 hSy).out; obtain ⟨cb0, cb1, cb2, cb3, cb4, cb5, cb6, cb7⟩ := heads_of (blk_keep B2 hSy).out; have hcx := str_any (c := c5) (BAt.keep P5 hSy).out.1; go_simp; try with_reducible rfl)
      change wpAnyH _ _ _ _ _ _ _ { tmps := #[hV U C O sz Am nm cm As ns cs last seq, .slice A1 n1 c1, .pointer (some ⟨b, 0, none⟩), undef, .bool false, .bool true, .bool true, .pointer (some ⟨b1, 0, none⟩), .int .i64 E, .pointer (some ⟨b2, 0, none⟩), .int .i64 E, .bool true, .bool true, .bool false, .agg #[.int .i64 U, .int .i64 C, .int .i64 O, .int .i64 sz, .slice Am nm cm, .slice As ns cs, .int .i64 last, .int .i64 seq], .bool true, .bool true, .bool false, .bool false, .slice A1 n1 c1, .int .i64 (n1 : Int), .bool (decide (3000 < (n1 : Int))), .bool (decide (3000 < (n1 : Int))), .tuple #[hV Ux Cx Ox szx Amx nmx cmx Asx nsx csx lastx seqx, .int .i64 E], .slice A1 n1 c1, .tuple #[hV Ux Cx Ox szx Amx nmx cmx Asx nsx csx lastx seqx, .int .i64 E], hV Ux Cx Ox szx Amx nmx cmx Asx nsx csx lastx seqx, .int .i64 E, .tuple #[hV Uy Cy Oy szy Amy nmy cmy Asy nsy csy lasty seqy, .int .i64 E], .slice A1 n1 c1, .tuple #[hV Uy Cy Oy szy Amy nmy cmy Asy nsy csy lasty seqy, .int .i64 E], hV Uy Cy Oy szy Amy nmy cmy Asy nsy csy lasty seqy, .int .i64 E, .agg #[.int .i64 U, .int .i64 C, .int .i64 O, .int .i64 sz, .slice Am nm cm, .slice As ns cs, .int .i64 last, .int .i64 seq], .slice A3 n3 c3, .string ⟨P.toArray⟩, .agg #[.int .i64 U, .int .i64 C, .int .i64 O, .int .i64 sz, .slice Am nm cm, .slice As ns cs, .int .i64 last, .int .i64 seq], .slice A5 n5 c5, .string ⟨P.toArray⟩, (.bool true), (.bool true), .int .i64 E, .int .i64 E, (.bool true), (.bool true), (.bool true), .agg #[.int .i64 Ux, .int .i64 Cx, .int .i64 Ox, .int .i64 szx, .slice Amx nmx cmx, .slice Asx nsx csx, .int .i64 lastx, .int .i64 seqx], .agg #[.int .i64 Uy, .int .i64 Cy, .int .i64 Oy, .int .i64 szy, .slice Amy nmy cmy, .slice Asy nsy csy, .int .i64 lasty, .int .i64 seqy], undef, undef], defers := [] } _
      refine wpAnyH_ready (rs := [15]) (by kernel_rfl) (by simp) ?_
      refine AllReadyH.cons rfl (fun K hK => ?_) AllReadyH.nil
      go_simp
      go_wp2_with (go_at_call 15; refine (rSame cmx csx cmy csy X1 X2).mono ?_; rintro e w9 ⟨rfl, hb⟩)
      refine hK.out _ _ ?_ (fun hS => ?_)
      · exact hb.out
      clear hK K
      replace B := belO6 B hb
      have Tw9 := hb
      clear hb
      clear hS
      refine wpAnyH_strong (S' := fun w' => Below w9.heap.size w9 w') (fun w' h => Tw9.out.trans (h.mono Tw9.out.size)) _ _ _ _ ?_
      have hS : Below w9.heap.size w9 w9 := Below.refl _ _
      change wpAnyH _ _ _ _ _ _ _ { tmps := #[hV U C O sz Am nm cm As ns cs last seq, .slice A1 n1 c1, .pointer (some ⟨b, 0, none⟩), undef, .bool false, .bool true, .bool true, .pointer (some ⟨b1, 0, none⟩), .int .i64 E, .pointer (some ⟨b2, 0, none⟩), .int .i64 E, .bool true, .bool true, .bool false, .agg #[.int .i64 U, .int .i64 C, .int .i64 O, .int .i64 sz, .slice Am nm cm, .slice As ns cs, .int .i64 last, .int .i64 seq], .bool true, .bool true, .bool false, .bool false, .slice A1 n1 c1, .int .i64 (n1 : Int), .bool (decide (3000 < (n1 : Int))), .bool (decide (3000 < (n1 : Int))), .tuple #[hV Ux Cx Ox szx Amx nmx cmx Asx nsx csx lastx seqx, .int .i64 E], .slice A1 n1 c1, .tuple #[hV Ux Cx Ox szx Amx nmx cmx Asx nsx csx lastx seqx, .int .i64 E], hV Ux Cx Ox szx Amx nmx cmx Asx nsx csx lastx seqx, .int .i64 E, .tuple #[hV Uy Cy Oy szy Amy nmy cmy Asy nsy csy lasty seqy, .int .i64 E], .slice A1 n1 c1, .tuple #[hV Uy Cy Oy szy Amy nmy cmy Asy nsy csy lasty seqy, .int .i64 E], hV Uy Cy Oy szy Amy nmy cmy Asy nsy csy lasty seqy, .int .i64 E, .agg #[.int .i64 U, .int .i64 C, .int .i64 O, .int .i64 sz, .slice Am nm cm, .slice As ns cs, .int .i64 last, .int .i64 seq], .slice A3 n3 c3, .string ⟨P.toArray⟩, .agg #[.int .i64 U, .int .i64 C, .int .i64 O, .int .i64 sz, .slice Am nm cm, .slice As ns cs, .int .i64 last, .int .i64 seq], .slice A5 n5 c5, .string ⟨P.toArray⟩, (.bool true), (.bool true), .int .i64 E, .int .i64 E, (.bool true), (.bool true), (.bool true), .agg #[.int .i64 Ux, .int .i64 Cx, .int .i64 Ox, .int .i64 szx, .slice Amx nmx cmx, .slice Asx nsx csx, .int .i64 lastx, .int .i64 seqx], .agg #[.int .i64 Uy, .int .i64 Cy, .int .i64 Oy, .int .i64 szy, .slice Amy nmy cmy, .slice Asy nsy csy, .int .i64 lasty, .int .i64 seqy], .bool true, undef], defers := [] } _
      refine wpAnyH_take (i := 16) (v := (.bool true)) rfl (by kernel_rfl) (by kernel_rfl) (by kernel_rfl) (fun _ _ _ h => h) (Or.inl ⟨by rfl, ?y16⟩) hS ?r16
      case y16 => (intro wy hSy; go_simp; try with_reducible rfl)
      change wpAnyH _ _ _ _ _ _ _ { tmps := #[hV U C O sz Am nm cm As ns cs last seq, .slice A1 n1 c1, .pointer (some ⟨b, 0, none⟩), undef, .bool false, .bool true, .bool true, .pointer (some ⟨b1, 0, none⟩), .int .i64 E, .pointer (some ⟨b2, 0, none⟩), .int .i64 E, .bool true, .bool true, .bool false, .agg #[.int .i64 U, .int .i64 C, .int .i64 O, .int .i64 sz, .slice Am nm cm, .slice As ns cs, .int .i64 last, .int .i64 seq], .bool true, .bool true, .bool false, .bool false, .slice A1 n1 c1, .int .i64 (n1 : Int), .bool (decide (3000 < (n1 : Int))), .bool (decide (3000 < (n1 : Int))), .tuple #[hV Ux Cx Ox szx Amx nmx cmx Asx nsx csx lastx seqx, .int .i64 E], .slice A1 n1 c1, .tuple #[hV Ux Cx Ox szx Amx nmx cmx Asx nsx csx lastx seqx, .int .i64 E], hV Ux Cx Ox szx Amx nmx cmx Asx nsx csx lastx seqx, .int .i64 E, .tuple #[hV Uy Cy Oy szy Amy nmy cmy Asy nsy csy lasty seqy, .int .i64 E], .slice A1 n1 c1, .tuple #[hV Uy Cy Oy szy Amy nmy cmy Asy nsy csy lasty seqy, .int .i64 E], hV Uy Cy Oy szy Amy nmy cmy Asy nsy csy lasty seqy, .int .i64 E, .agg #[.int .i64 U, .int .i64 C, .int .i64 O, .int .i64 sz, .slice Am nm cm, .slice As ns cs, .int .i64 last, .int .i64 seq], .slice A3 n3 c3, .string ⟨P.toArray⟩, .agg #[.int .i64 U, .int .i64 C, .int .i64 O, .int .i64 sz, .slice Am nm cm, .slice As ns cs, .int .i64 last, .int .i64 seq], .slice A5 n5 c5, .string ⟨P.toArray⟩, (.bool true), (.bool true), .int .i64 E, .int .i64 E, (.bool true), (.bool true), (.bool true), .agg #[.int .i64 Ux, .int .i64 Cx, .int .i64 Ox, .int .i64 szx, .slice Amx nmx cmx, .slice Asx nsx csx, .int .i64 lastx, .int .i64 seqx], .agg #[.int .i64 Uy, .int .i64 Cy, .int .i64 Oy, .int .i64 szy, .slice Amy nmy cmy, .slice Asy nsy csy, .int .i64 lasty, .int .i64 seqy], .bool true, (.bool true)], defers := [] } _
      refine wpAnyH_take (i := 17) (v := (.bool true)) rfl (by kernel_rfl) (by kernel_rfl) (by kernel_rfl) (fun _ _ _ h => h) (Or.inl ⟨by rfl, ?y17⟩) hS ?r17
      case y17 => (intro wy hSy; go_simp; try with_reducible rfl)
      change wpAnyH _ _ _ _ _ _ _ { tmps := #[hV U C O sz Am nm cm As ns cs last seq, .slice A1 n1 c1, .pointer (some ⟨b, 0, none⟩), undef, (.bool true), .bool true, .bool true, .pointer (some ⟨b1, 0, none⟩), .int .i64 E, .pointer (some ⟨b2, 0, none⟩), .int .i64 E, .bool true, .bool true, .bool false, .agg #[.int .i64 U, .int .i64 C, .int .i64 O, .int .i64 sz, .slice Am nm cm, .slice As ns cs, .int .i64 last, .int .i64 seq], .bool true, .bool true, .bool false, .bool false, .slice A1 n1 c1, .int .i64 (n1 : Int), .bool (decide (3000 < (n1 : Int))), .bool (decide (3000 < (n1 : Int))), .tuple #[hV Ux Cx Ox szx Amx nmx cmx Asx nsx csx lastx seqx, .int .i64 E], .slice A1 n1 c1, .tuple #[hV Ux Cx Ox szx Amx nmx cmx Asx nsx csx lastx seqx, .int .i64 E], hV Ux Cx Ox szx Amx nmx cmx Asx nsx csx lastx seqx, .int .i64 E, .tuple #[hV Uy Cy Oy szy Amy nmy cmy Asy nsy csy lasty seqy, .int .i64 E], .slice A1 n1 c1, .tuple #[hV Uy Cy Oy szy Amy nmy cmy Asy nsy csy lasty seqy, .int .i64 E], hV Uy Cy Oy szy Amy nmy cmy Asy nsy csy lasty seqy, .int .i64 E, .agg #[.int .i64 U, .int .i64 C, .int .i64 O, .int .i64 sz, .slice Am nm cm, .slice As ns cs, .int .i64 last, .int .i64 seq], .slice A3 n3 c3, .string ⟨P.toArray⟩, .agg #[.int .i64 U, .int .i64 C, .int .i64 O, .int .i64 sz, .slice Am nm cm, .slice As ns cs, .int .i64 last, .int .i64 seq], .slice A5 n5 c5, .string ⟨P.toArray⟩, (.bool true), (.bool true), .int .i64 E, .int .i64 E, (.bool true), (.bool true), (.bool true), .agg #[.int .i64 Ux, .int .i64 Cx, .int .i64 Ox, .int .i64 szx, .slice Amx nmx cmx, .slice Asx nsx csx, .int .i64 lastx, .int .i64 seqx], .agg #[.int .i64 Uy, .int .i64 Cy, .int .i64 Oy, .int .i64 szy, .slice Amy nmy cmy, .slice Asy nsy csy, .int .i64 lasty, .int .i64 seqy], .bool true, (.bool true)], defers := [] } _
      refine wpAnyH_done (by kernel_rfl) ?_ _
      go_wp2_with fail
      go_ret
      exact ⟨rfl, B.out⟩
    · have h3' : 3000 < (n1 : Int) := by omega
      go_wp2_with fail
      go_ret
      exact ⟨rfl, B.out⟩
  · have hf2 : fewB nm ns ss = false := by simpa using hf
    rw [hf2]
    clear hf hf2
    go_wp2_with fail
    go_ret
    exact ⟨rfl, B.out⟩

set_option maxRecDepth 10000 in
theorem HeadPacks_walk {H : Type} {enc : TypeId × Value → H} (W : World) (base : Nat) {v0 v1 : Value} {d0 : DataW H} {p0 : List MemPlace} {d1 : DataW H} {p1 : List MemPlace}
    (k0 : Value.okWide Try.prog W .any base 27 v0) (h0 : DataW.Trod enc Try.prog W 0 (fun _ => true) true 27 v0 d0 p0) (k1 : Value.okWide Try.prog W .any base 39 v1) (h1 : DataW.Trod enc Try.prog W 0 (fun _ => true) true 39 v1 d1 p1) :
    Calls Try.prog 4 #[v0, v1] W (Yes W) := by
  obtain ⟨U, C, O, sz, Am, nm, cm, As, ns, cs, last, seq, m, ss, rfl, a1, a2, a3, a4, a5⟩ := ar_head k0 h0
  obtain ⟨A1, n1, c1, l1, rfl, hr1, hn1, hn2⟩ := ar_bytes Try.underlying39 Try.underlying5 (by kernel_rfl) k1 h1
  exact HeadPacks_core U C O sz last seq Am As nm cm ns cs m ss A1 n1 c1 l1 W a1 a2 a3 ⟨a4, a5⟩ hr1 hn1 hn2
end Go.Proofs.Ytaobdebeglenaaa
