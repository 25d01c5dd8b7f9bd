/- Heads of images: the document's Same tells heads that are the same. -/
import Derived.Test.YtaobdebeglenaaaHdA
import Derived.Test.YtaobdebeglenaaaMd
namespace Go.Proofs.Ytaobdebeglenaaa
open Go.RowKit

/-- block b holds a snapshot -/
structure TAt (b : Nat) (x y : Int) (m : Value) (w : World) : Prop where
  c0 : w.cell? ⟨b, 0, none⟩ = some (.int .i64 x)
  c1 : w.cell? ⟨b, 1, none⟩ = some (.int .i64 y)
  c2 : w.cell? ⟨b, 2, none⟩ = some m
theorem TAt.box (w : World) (x y : Int) (m : Value) (t : TypeId) : TAt w.heap.size x y m (w.alloc (.cells #[.int .i64 x, .int .i64 y, m] t)) := by
  refine ⟨?_, ?_, ?_⟩ <;> (rw [cell_blk (heap_alloc_new w _)]; rfl)
theorem TAt.to {b : Nat} {x y : Int} {m : Value} {w w' : World} (h : TAt b x y m w) (hb : Below w.heap.size w w') : TAt b x y m w' := by
  have hl : b < w.heap.size := World.block_lt_of_cell? w _ h.c0
  exact ⟨(hb.cell hl).trans h.c0, (hb.cell hl).trans h.c1, (hb.cell hl).trans h.c2⟩
theorem ints_yes (A A' : Option Addr) (n c c' : Nat) (l : List Int) (B B' : Nat) (w : World) (hr : RdI w B A n l) (hr' : RdI w B' A' n l) (hn : n ≤ 9223372036854775807) :
    Calls Try.prog 31 #[.slice A n c, .slice A' n c'] w fun e w' => e = .returned (.bool true) ∧ Below w.heap.size w w' := by
  have h := Ints_any A A' n c n c' l l B B' w hr hr' hn hn
  rw [decide_eq_true rfl] at h
  exact h.mono fun _ _ ⟨q, k, hk⟩ => ⟨q, by subst hk; exact ⟨rfl, rfl, rfl, Nat.le_refl _, fun _ _ => rfl⟩⟩

set_option maxRecDepth 10000 in
set_option maxHeartbeats 4000000 in
theorem RSame6 (U C O sz : Int) (Am1 Am2 : Option Addr) (nm cm1 cm2 : Nat) (As1 As2 : Option Addr) (ns cs1 cs2 : Nat) (last seq : Int) (m : List Int) (ss : List Sn) (w : World) (hm1 : RdI w w.heap.size Am1 nm m) (hr1 : RdN w w.heap.size As1 ns ss) (hm2 : RdI w w.heap.size Am2 nm m) (hr2 : RdN w w.heap.size As2 ns ss) (hn : nm ≤ 100000) (hs : ns ≤ 100000) :
    Calls Try.prog 15 #[hV U C O sz Am1 nm cm1 As1 ns cs1 last seq, hV U C O sz Am2 nm cm2 As2 ns cs2 last seq] w fun e w' => e = .returned (.bool true) ∧ Below w.heap.size w w' := by
  have Hb1 := Lib.hid ((Below.refl w.heap.size w).alloc (Nat.le_refl _) (.cells #[.int .i64 U, .int .i64 C, .int .i64 O, .int .i64 sz, .slice Am1 nm cm1, .slice As1 ns cs1, .int .i64 last, .int .i64 seq] 27))
  have Hb2 := Lib.hid ((Below.refl (w.alloc (.cells #[.int .i64 U, .int .i64 C, .int .i64 O, .int .i64 sz, .slice Am1 nm cm1, .slice As1 ns cs1, .int .i64 last, .int .i64 seq] 27)).heap.size (w.alloc (.cells #[.int .i64 U, .int .i64 C, .int .i64 O, .int .i64 sz, .slice Am1 nm cm1, .slice As1 ns cs1, .int .i64 last, .int .i64 seq] 27))).alloc (Nat.le_refl _) (.cells #[.int .i64 U, .int .i64 C, .int .i64 O, .int .i64 sz, .slice Am2 nm cm2, .slice As2 ns cs2, .int .i64 last, .int .i64 seq] 27))
  have Hb := Lib.hid (Hb1.out.trans (Hb2.out.mono Hb1.out.size))
  have Hr1 := Lib.hid ((hr1.below Hb.out).more Hb.out.size)
  have Hr2 := Lib.hid ((hr2.below Hb.out).more Hb.out.size)
  have Hm1 := Lib.hid ((hm1.below Hb.out).more Hb.out.size)
  have Hm2 := Lib.hid ((hm2.below Hb.out).more Hb.out.size)
  have Hh1 := Lib.hid ((HAt.box w U C O sz (.slice Am1 nm cm1) (.slice As1 ns cs1) last seq 27).to Hb2.out)
  have Hh2 := Lib.hid (HAt.box (w.alloc (.cells #[.int .i64 U, .int .i64 C, .int .i64 O, .int .i64 sz, .slice Am1 nm cm1, .slice As1 ns cs1, .int .i64 last, .int .i64 seq] 27)) U C O sz (.slice Am2 nm cm2) (.slice As2 ns cs2) last seq 27)
  have Hsz := Lib.hid (show (w.alloc (.cells #[.int .i64 U, .int .i64 C, .int .i64 O, .int .i64 sz, .slice Am1 nm cm1, .slice As1 ns cs1, .int .i64 last, .int .i64 seq] 27)).heap.size = w.heap.size + 1 by simp)
  rw [Hsz.out] at Hh2
  clear hr1 hr2 hm1 hm2 Hb1 Hb2 Hsz
  go_enter Try.func15, Try.ntmps15
  go_upto_region 1 with fail
  generalize (w.alloc (.cells #[.int .i64 U, .int .i64 C, .int .i64 O, .int .i64 sz, .slice Am1 nm cm1, .slice As1 ns cs1, .int .i64 last, .int .i64 seq] 27)).alloc (.cells #[.int .i64 U, .int .i64 C, .int .i64 O, .int .i64 sz, .slice Am2 nm cm2, .slice As2 ns cs2, .int .i64 last, .int .i64 seq] 27) = w1 at Hb Hr1 Hr2 Hm1 Hm2 Hh1 Hh2 ⊢
  obtain ⟨b1, hb1e⟩ : ∃ b, b = w.heap.size := ⟨_, rfl⟩
  obtain ⟨b2, hb2e⟩ : ∃ b, b = w.heap.size + 1 := ⟨_, rfl⟩
  rw [← hb2e] at Hh2 ⊢
  rw [← hb1e] at Hh1 ⊢
  clear hb1e hb2e
  have c0 := Hh1.out.c0
  have c1 := Hh1.out.c1
  have c2 := Hh1.out.c2
  have c3 := Hh1.out.c3
  have c4 := Hh1.out.c4
  have c5 := Hh1.out.c5
  have c6 := Hh1.out.c6
  have c7 := Hh1.out.c7
  have d0 := Hh2.out.c0
  have d1 := Hh2.out.c1
  have d2 := Hh2.out.c2
  have d3 := Hh2.out.c3
  have d4 := Hh2.out.c4
  have d5 := Hh2.out.c5
  have d6 := Hh2.out.c6
  have d7 := Hh2.out.c7
  go_wp2_with fail
  refine (ints_yes Am1 Am2 nm cm1 cm2 m _ _ w1 Hm1.out Hm2.out (by omega)).mono ?_
  rintro e w2 ⟨rfl, hb2⟩
  replace Hr1 := Lib.hid ((Hr1.out.below hb2).more hb2.size)
  replace Hr2 := Lib.hid ((Hr2.out.below hb2).more hb2.size)
  replace Hh1 := Lib.hid (Hh1.out.to hb2)
  replace Hh2 := Lib.hid (Hh2.out.to hb2)
  replace Hb := Lib.hid (Hb.out.trans (hb2.mono Hb.out.size))
  clear hb2 c0 c1 c2 c3 c4 c5 c6 c7 d0 d1 d2 d3 d4 d5 d6 d7 Hm1 Hm2
  have c0 := Hh1.out.c0
  have c1 := Hh1.out.c1
  have c2 := Hh1.out.c2
  have c3 := Hh1.out.c3
  have c4 := Hh1.out.c4
  have c5 := Hh1.out.c5
  have c6 := Hh1.out.c6
  have c7 := Hh1.out.c7
  have d0 := Hh2.out.c0
  have d1 := Hh2.out.c1
  have d2 := Hh2.out.c2
  have d3 := Hh2.out.c3
  have d4 := Hh2.out.c4
  have d5 := Hh2.out.c5
  have d6 := Hh2.out.c6
  have d7 := Hh2.out.c7
  go_wp2_with fail
  go_loopw [6] (fun iv wr => ∃ j : Nat, j ≤ ns ∧ iv = .int .i64 j ∧ Hid (Below w2.heap.size w2 wr)) (fun iv _ => ns - (intOf iv).toNat)
  case atStart => exact ⟨0, Nat.zero_le _, rfl, Below.refl _ _⟩
  case round =>
    obtain ⟨j, hj, rfl, Hbr⟩ := hrel
    clear c0 c1 c2 c3 c4 c5 c6 c7 d0 d1 d2 d3 d4 d5 d6 d7
    have Gr1 := Lib.hid ((Hr1.out.below Hbr.out).more Hbr.out.size)
    have Gr2 := Lib.hid ((Hr2.out.below Hbr.out).more Hbr.out.size)
    have Gh1 := Lib.hid (Hh1.out.to Hbr.out)
    have Gh2 := Lib.hid (Hh2.out.to Hbr.out)
    have c5 := Gh1.out.c5
    have d5 := Gh2.out.c5
    have hl1 := Gh1.out.lt
    have hl2 := Gh2.out.lt
    by_cases hjn : j < ns
    · have hjl : j < ss.length := by rw [Gr1.out.1]; exact hjn
      obtain ⟨g, o, Aj, nj, cj, rfl, hg, x0, x1, x2, h6, h7⟩ := Gr1.out.2 j hjl
      obtain ⟨g2, o2, Ak, nk, ck, rfl, hg2, y0, y1, y2, k6, k7⟩ := Gr2.out.2 j hjl
      obtain rfl : nj = nk := h6.1.symm.trans k6.1
      have H6 := Lib.hid h6
      have K6 := Lib.hid k6
      clear h6 k6
      generalize ss[j] = s at x0 x1 y0 y1 H6 K6
      obtain ⟨x, y, mp⟩ := s
      have x0 : wr.cell? ⟨g, o + j * 3, none⟩ = some (.int .i64 x) := x0
      have x1 : wr.cell? ⟨g, o + j * 3 + 1, none⟩ = some (.int .i64 y) := x1
      have y0 : wr.cell? ⟨g2, o2 + j * 3, none⟩ = some (.int .i64 x) := y0
      have y1 : wr.cell? ⟨g2, o2 + j * 3 + 1, none⟩ = some (.int .i64 y) := y1
      have hj0 : (0 : Int) ≤ (j : Int) := by omega
      have hj1 : (j : Int) < (ns : Int) := by omega
      have Ha1 := Lib.hid ((Below.refl wr.heap.size wr).alloc (Nat.le_refl _) (.cells #[.int .i64 x, .int .i64 y, .slice Aj nj cj] 52))
      have Ha2 := Lib.hid ((Below.refl (wr.alloc (.cells #[.int .i64 x, .int .i64 y, .slice Aj nj cj] 52)).heap.size (wr.alloc (.cells #[.int .i64 x, .int .i64 y, .slice Aj nj cj] 52))).alloc (Nat.le_refl _) (.cells #[.int .i64 x, .int .i64 y, .slice Ak nj ck] 52))
      have Ha := Lib.hid (Ha1.out.trans (Ha2.out.mono Ha1.out.size))
      have S1 := Lib.hid ((TAt.box wr x y (.slice Aj nj cj) 52).to Ha2.out)
      have S2 := Lib.hid (TAt.box (wr.alloc (.cells #[.int .i64 x, .int .i64 y, .slice Aj nj cj] 52)) x y (.slice Ak nj ck) 52)
      have Hsz := Lib.hid (show (wr.alloc (.cells #[.int .i64 x, .int .i64 y, .slice Aj nj cj] 52)).heap.size = wr.heap.size + 1 by simp)
      rw [Hsz.out] at S2
      replace H6 := Lib.hid (H6.out.below Ha.out)
      replace K6 := Lib.hid (K6.out.below Ha.out)
      have Hb8 := Lib.hid (Hbr.out.trans (Ha.out.mono Hbr.out.size))
      clear hjl Ha1 Ha2 Hsz
      go_upto_region 9 with fail
      generalize (wr.alloc (.cells #[.int .i64 x, .int .i64 y, .slice Aj nj cj] 52)).alloc (.cells #[.int .i64 x, .int .i64 y, .slice Ak nj ck] 52) = w8 at S1 S2 H6 K6 Hb8 ⊢
      clear x0 x1 x2 y0 y1 y2 c5 d5 hl1 hl2 Ha
      have s0 := S1.out.c0
      have s1 := S1.out.c1
      have s2 := S1.out.c2
      have t0 := S2.out.c0
      have t1 := S2.out.c1
      have t2 := S2.out.c2
      go_wp2_with fail
      refine (ints_yes Aj Ak nj cj ck mp _ _ w8 H6.out K6.out h7).mono ?_
      rintro e w9 ⟨rfl, hb9⟩
      replace S1 := Lib.hid (S1.out.to hb9)
      replace S2 := Lib.hid (S2.out.to hb9)
      replace Hb8 := Lib.hid (Hb8.out.trans (hb9.mono Hb8.out.size))
      clear hb9 s0 s1 s2 t0 t1 t2
      have s0 := S1.out.c0
      have s1 := S1.out.c1
      have t0 := S2.out.c0
      have t1 := S2.out.c1
      go_wp2_with fail
      go_roundw
      case rel => exact ⟨j + 1, by omega, by go_num, Hb8⟩
      case measure => simp [intOf]; omega
    · obtain rfl : j = ns := by omega
      have Hbf := Lib.hid (Hb.out.trans (Hbr.out.mono Hb.out.size))
      go_wp2_with fail
      go_ret
      exact ⟨rfl, Hbf.out⟩
end Go.Proofs.Ytaobdebeglenaaa
