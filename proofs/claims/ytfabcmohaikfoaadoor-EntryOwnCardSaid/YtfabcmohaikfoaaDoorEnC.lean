/- Package entry: Clean. Written by wip/genen.py. -/
import Derived.Test.YtfabcmohaikfoaaDoorEnB
namespace Go.Proofs.YtfabcmohaikfoaaDoor
open Go.RowKit

set_option maxRecDepth 10000 in
set_option maxHeartbeats 2000000 in
theorem Clean7_1 (S O F L P : Int) (A : Option Addr) (n c : Nat) (d : List UInt8) (w : World) (hr : Rd w w.heap.size A n d) (hn : n ≤ 100000) (ht : T7 w) :
    Calls Tryd.prog 13 #[eV S O 1 F L P A n c] w (ClnP w ⟨S, O, 1, F, L, P, d⟩) := by
  have Hr := Lib.hid hr
  have Ht := Lib.hid ht
  clear ht hr
  go_enter Tryd.func13, Tryd.ntmps13
  go_upto_region 1 with fail
  have HT := Lib.hid (two_ents w (.cells #[.int .i64 S, .int .i64 O, .int .i64 1, .int .i64 F, .int .i64 L, .int .i64 P, .slice A n c] 24) (.cells #[.int .i64 0, .int .i64 0, .int .i64 0, .int .i64 0, .int .i64 0, .int .i64 0, .slice none 0 0] 24))
  generalize (w.alloc (.cells #[.int .i64 S, .int .i64 O, .int .i64 1, .int .i64 F, .int .i64 L, .int .i64 P, .slice A n c] 24)).alloc (.cells #[.int .i64 0, .int .i64 0, .int .i64 0, .int .i64 0, .int .i64 0, .int .i64 0, .slice none 0 0] 24) = w1 at HT ⊢
  obtain ⟨q, hq⟩ : ∃ q, q = w.heap.size + 1 := ⟨_, rfl⟩
  obtain ⟨b, hb⟩ : ∃ b, b = w.heap.size := ⟨_, rfl⟩
  have HE := Lib.hid (show w1.heap[b]? = some (.cells #[.int .i64 S, .int .i64 O, .int .i64 1, .int .i64 F, .int .i64 L, .int .i64 P, .slice A n c] 24 (0, 0)) by rw [hb]; exact HT.out.1)
  have HO := Lib.hid (show w1.heap[q]? = some (.cells #[.int .i64 0, .int .i64 0, .int .i64 0, .int .i64 0, .int .i64 0, .int .i64 0, .slice none 0 0] 24 (0, 0)) by rw [hq]; exact HT.out.2.1)
  have HB := Lib.hid HT.out.2.2
  have Hw1 := Lib.hid HT.out.2.2.size
  rw [← hq, ← hb]
  have Hq := Lib.hid (show w.heap.size ≤ q ∧ b ≠ q by omega)
  have hlb := Lib.hid (lt_of_block HE.out)
  have hlq := Lib.hid (lt_of_block HO.out)
  clear hq hb HT
  obtain ⟨c0, c1, c2, c3, c4, c5, c6⟩ := ents_of HE.out
  go_upto_region 2 with fail
  have HN := Lib.hid (heap_alloc_new w1 (.cells #[.int .i64 S, .int .i64 O, .int .i64 1, .int .i64 0, .int .i64 0, .int .i64 0, .slice none 0 0] 24))
  have HA := al7 w1 (.cells #[.int .i64 S, .int .i64 O, .int .i64 1, .int .i64 0, .int .i64 0, .int .i64 0, .slice none 0 0] 24)
  replace HE := Lib.hid ((HA.out.block b (lt_of_block HE.out)).trans HE.out)
  replace HO := Lib.hid ((HA.out.block q (lt_of_block HO.out)).trans HO.out)
  replace HB := bel7 HB HA
  clear HA c0 c1 c2 c3 c4 c5 c6
  generalize w1.alloc (.cells #[.int .i64 S, .int .i64 O, .int .i64 1, .int .i64 0, .int .i64 0, .int .i64 0, .slice none 0 0] 24) = w2 at HN HE HO HB ⊢
  obtain ⟨tm, htm⟩ : ∃ tm, tm = w1.heap.size := ⟨_, rfl⟩
  have Hne := Lib.hid (show b ≠ tm ∧ q ≠ tm ∧ w.heap.size ≤ tm by have := hlb.out; have := hlq.out; have := Hw1.out; omega)
  rw [← htm] at HN ⊢
  clear htm
  have HF := Lib.hid (show Calls Tryd.prog 23 #[.int .i64 1] w2 fun e w' => e = .returned (.int .u8 9) ∧ w2 = w' from fieldsOf7 1 w2 (Ht.out.to HB.out))
  obtain ⟨c0, c1, c2, c3, c4, c5, c6⟩ := ents_of HE.out
  go_wp2_with fail
  refine HF.out.mono ?_
  rintro e w3 ⟨rfl, rfl⟩
  clear HF
  obtain ⟨t0, t1, t2, t3, t4, t5, t6⟩ := ents_of HN.out
  have x3 := free_blk HN.out 3
  go_upto_region 5 with fail
  have HG := Lib.hid (gset7 w2 tm 3 (.int .i64 F))
  replace HE := Lib.hid (gb7 HG.out Hne.out.1 HE.out)
  replace HO := Lib.hid (gb7 HG.out Hne.out.2.1 HO.out)
  replace HN := Lib.hid (show (w2.setCell ⟨tm, 3, none⟩ (.int .i64 F)).heap[tm]? = some (.cells #[.int .i64 S, .int .i64 O, .int .i64 1, .int .i64 F, .int .i64 0, .int .i64 0, .slice none 0 0] 24 (0, 0)) from set_blk HN.out 3 _)
  replace HB := Lib.hid (HB.out.setCell (p := ⟨tm, 3, none⟩) Hne.out.2.2 (.int .i64 F))
  clear HG t0 t1 t2 t3 t4 t5 t6 x3 c0 c1 c2 c3 c4 c5 c6
  generalize w2.setCell ⟨tm, 3, none⟩ (.int .i64 F) = w3 at HE HO HN HB ⊢
  obtain ⟨c0, c1, c2, c3, c4, c5, c6⟩ := ents_of HE.out
  go_upto_region 10 with fail
  have Hl := Lib.hid Hr.out.1
  have HC := Lib.hid (Clone_any A n c d w3 ((Hr.out.below HB.out).more HB.out.size) (by omega))
  obtain ⟨m, hm⟩ : ∃ m, m = d.length := ⟨_, rfl⟩
  have Hm := Lib.hid hm
  clear hm
  go_wp2_with fail
  refine HC.out.mono ?_
  rintro e w4 ⟨A4, c4', rfl, h1, h2, h3, h4⟩
  rw [← Hm.out] at h1 h3 ⊢
  have Hb4 := Lib.hid h4
  have Ho4 := Lib.hid (ownsRow_base h3 HB.out.size)
  have H2 := Lib.hid h2
  replace HO := Lib.hid ((h4.block q (lt_of_block HO.out)).trans HO.out)
  replace HN := Lib.hid ((h4.block tm (lt_of_block HN.out)).trans HN.out)
  replace HB := bel7 HB Hb4
  have h2' : c4' ≤ 9223372036854775807 := by simpa [maxLen] using h2
  clear h3 h4 h2 HC HE Hb4 c0 c1 c2 c3 c4 c5 c6
  have HN0 := HN
  obtain ⟨t0, t1, t2, t3, t4, t5, t6⟩ := ents_of HN.out
  have x6 := free_blk HN.out 6
  go_upto_region 11 with fail
  have HG := Lib.hid (gset7 w4 tm 6 (.slice A4 m c4'))
  replace HO := Lib.hid (gb7 HG.out Hne.out.2.1 HO.out)
  replace HN := Lib.hid (show (w4.setCell ⟨tm, 6, none⟩ (.slice A4 m c4')).heap[tm]? = some (.cells #[.int .i64 S, .int .i64 O, .int .i64 1, .int .i64 F, .int .i64 0, .int .i64 0, .slice A4 m c4'] 24 (0, 0)) from set_blk HN.out 6 _)
  replace HB := Lib.hid (HB.out.setCell (p := ⟨tm, 6, none⟩) Hne.out.2.2 (.slice A4 m c4'))
  replace Ho4 := Lib.hid (own_cell7 Ho4.out HN0.out (by decide) 6 (.slice A4 m c4'))
  clear HN0
  clear HG t0 t1 t2 t3 t4 t5 t6 x6
  generalize w4.setCell ⟨tm, 6, none⟩ (.slice A4 m c4') = w5 at HO HN HB Ho4 ⊢
  obtain ⟨t0, t1, t2, t3, t4, t5, t6⟩ := ents_of HN.out
  obtain ⟨z0, z1, z2, z3, z4, z5, z6⟩ := ents_of HO.out
  have y0 := free_blk HO.out 0
  have y1 := free_blk HO.out 1
  have y2 := free_blk HO.out 2
  have y3 := free_blk HO.out 3
  have y4 := free_blk HO.out 4
  have y5 := free_blk HO.out 5
  have y6 := free_blk HO.out 6
  go_wp2_with fail
  have P9 := Lib.hid (put7_blk HO.out (.int .i64 S) (.int .i64 O) (.int .i64 1) (.int .i64 F) (.int .i64 0) (.int .i64 0) (.slice A4 m c4'))
  have B9 := Lib.hid (put7_below (w := w5) (B := w.heap.size) Hq.out.1 (.int .i64 S) (.int .i64 O) (.int .i64 1) (.int .i64 F) (.int .i64 0) (.int .i64 0) (.slice A4 m c4'))
  replace HB := Lib.hid (HB.out.trans B9.out)
  have D9 := Lib.hid (own_put7 Ho4.out HO.out (by decide) (.int .i64 S) (.int .i64 O) (.int .i64 1) (.int .i64 F) (.int .i64 0) (.int .i64 0) (.slice A4 m c4'))
  change bodyPost _ _ _ _ _ (put7 w5 q (.int .i64 S) (.int .i64 O) (.int .i64 1) (.int .i64 F) (.int .i64 0) (.int .i64 0) (.slice A4 m c4'))
  generalize put7 w5 q (.int .i64 S) (.int .i64 O) (.int .i64 1) (.int .i64 F) (.int .i64 0) (.int .i64 0) (.slice A4 m c4') = w9 at P9 HB D9 ⊢
  clear t0 t1 t2 t3 t4 t5 t6 z0 z1 z2 z3 z4 z5 z6 y0 y1 y2 y3 y4 y5 y6 B9
  obtain ⟨z0, z1, z2, z3, z4, z5, z6⟩ := ents_of P9.out
  exact bodyPost_ret (v := eV S O 1 F 0 0 A4 m c4') (by simp [results, Tryd.results13, go_sem, z0, z1, z2, z3, z4, z5, z6]) rfl ⟨A4, c4', by show _ = Ending.returned (eV S O 1 F 0 0 A4 d.length c4'); rw [Hm.out], by show Hid (World.ownsRow _ _ _ _ (.slice A4 d.length c4') d.length (d.map bv)); rw [← Hm.out]; exact D9, by show d.length ≤ _; rw [← Hm.out]; exact h1, H2.out, HB⟩
set_option maxRecDepth 10000 in
set_option maxHeartbeats 2000000 in
theorem Clean7_2 (S O F L P : Int) (A : Option Addr) (n c : Nat) (d : List UInt8) (w : World) (hr : Rd w w.heap.size A n d) (_hn : n ≤ 100000) (ht : T7 w) :
    Calls Tryd.prog 13 #[eV S O 2 F L P A n c] w (ClnP w ⟨S, O, 2, F, L, P, d⟩) := by
  have Hr := Lib.hid hr
  have Ht := Lib.hid ht
  clear ht hr
  go_enter Tryd.func13, Tryd.ntmps13
  go_upto_region 1 with fail
  have HT := Lib.hid (two_ents w (.cells #[.int .i64 S, .int .i64 O, .int .i64 2, .int .i64 F, .int .i64 L, .int .i64 P, .slice A n c] 24) (.cells #[.int .i64 0, .int .i64 0, .int .i64 0, .int .i64 0, .int .i64 0, .int .i64 0, .slice none 0 0] 24))
  generalize (w.alloc (.cells #[.int .i64 S, .int .i64 O, .int .i64 2, .int .i64 F, .int .i64 L, .int .i64 P, .slice A n c] 24)).alloc (.cells #[.int .i64 0, .int .i64 0, .int .i64 0, .int .i64 0, .int .i64 0, .int .i64 0, .slice none 0 0] 24) = w1 at HT ⊢
  obtain ⟨q, hq⟩ : ∃ q, q = w.heap.size + 1 := ⟨_, rfl⟩
  obtain ⟨b, hb⟩ : ∃ b, b = w.heap.size := ⟨_, rfl⟩
  have HE := Lib.hid (show w1.heap[b]? = some (.cells #[.int .i64 S, .int .i64 O, .int .i64 2, .int .i64 F, .int .i64 L, .int .i64 P, .slice A n c] 24 (0, 0)) by rw [hb]; exact HT.out.1)
  have HO := Lib.hid (show w1.heap[q]? = some (.cells #[.int .i64 0, .int .i64 0, .int .i64 0, .int .i64 0, .int .i64 0, .int .i64 0, .slice none 0 0] 24 (0, 0)) by rw [hq]; exact HT.out.2.1)
  have HB := Lib.hid HT.out.2.2
  have Hw1 := Lib.hid HT.out.2.2.size
  rw [← hq, ← hb]
  have Hq := Lib.hid (show w.heap.size ≤ q ∧ b ≠ q by omega)
  have hlb := Lib.hid (lt_of_block HE.out)
  have hlq := Lib.hid (lt_of_block HO.out)
  clear hq hb HT
  obtain ⟨c0, c1, c2, c3, c4, c5, c6⟩ := ents_of HE.out
  go_upto_region 2 with fail
  have HN := Lib.hid (heap_alloc_new w1 (.cells #[.int .i64 S, .int .i64 O, .int .i64 2, .int .i64 0, .int .i64 0, .int .i64 0, .slice none 0 0] 24))
  have HA := al7 w1 (.cells #[.int .i64 S, .int .i64 O, .int .i64 2, .int .i64 0, .int .i64 0, .int .i64 0, .slice none 0 0] 24)
  replace HE := Lib.hid ((HA.out.block b (lt_of_block HE.out)).trans HE.out)
  replace HO := Lib.hid ((HA.out.block q (lt_of_block HO.out)).trans HO.out)
  replace HB := bel7 HB HA
  clear HA c0 c1 c2 c3 c4 c5 c6
  generalize w1.alloc (.cells #[.int .i64 S, .int .i64 O, .int .i64 2, .int .i64 0, .int .i64 0, .int .i64 0, .slice none 0 0] 24) = w2 at HN HE HO HB ⊢
  obtain ⟨tm, htm⟩ : ∃ tm, tm = w1.heap.size := ⟨_, rfl⟩
  have Hne := Lib.hid (show b ≠ tm ∧ q ≠ tm ∧ w.heap.size ≤ tm by have := hlb.out; have := hlq.out; have := Hw1.out; omega)
  rw [← htm] at HN ⊢
  clear htm
  have HF := Lib.hid (show Calls Tryd.prog 23 #[.int .i64 2] w2 fun e w' => e = .returned (.int .u8 3) ∧ w2 = w' from fieldsOf7 2 w2 (Ht.out.to HB.out))
  obtain ⟨c0, c1, c2, c3, c4, c5, c6⟩ := ents_of HE.out
  go_wp2_with fail
  refine HF.out.mono ?_
  rintro e w3 ⟨rfl, rfl⟩
  clear HF
  obtain ⟨t0, t1, t2, t3, t4, t5, t6⟩ := ents_of HN.out
  have x3 := free_blk HN.out 3
  go_upto_region 5 with fail
  have HG := Lib.hid (gset7 w2 tm 3 (.int .i64 F))
  replace HE := Lib.hid (gb7 HG.out Hne.out.1 HE.out)
  replace HO := Lib.hid (gb7 HG.out Hne.out.2.1 HO.out)
  replace HN := Lib.hid (show (w2.setCell ⟨tm, 3, none⟩ (.int .i64 F)).heap[tm]? = some (.cells #[.int .i64 S, .int .i64 O, .int .i64 2, .int .i64 F, .int .i64 0, .int .i64 0, .slice none 0 0] 24 (0, 0)) from set_blk HN.out 3 _)
  replace HB := Lib.hid (HB.out.setCell (p := ⟨tm, 3, none⟩) Hne.out.2.2 (.int .i64 F))
  clear HG t0 t1 t2 t3 t4 t5 t6 x3 c0 c1 c2 c3 c4 c5 c6
  generalize w2.setCell ⟨tm, 3, none⟩ (.int .i64 F) = w3 at HE HO HN HB ⊢
  obtain ⟨c0, c1, c2, c3, c4, c5, c6⟩ := ents_of HE.out
  obtain ⟨t0, t1, t2, t3, t4, t5, t6⟩ := ents_of HN.out
  have x4 := free_blk HN.out 4
  go_upto_region 7 with fail
  have HG := Lib.hid (gset7 w3 tm 4 (.int .i64 L))
  replace HE := Lib.hid (gb7 HG.out Hne.out.1 HE.out)
  replace HO := Lib.hid (gb7 HG.out Hne.out.2.1 HO.out)
  replace HN := Lib.hid (show (w3.setCell ⟨tm, 4, none⟩ (.int .i64 L)).heap[tm]? = some (.cells #[.int .i64 S, .int .i64 O, .int .i64 2, .int .i64 F, .int .i64 L, .int .i64 0, .slice none 0 0] 24 (0, 0)) from set_blk HN.out 4 _)
  replace HB := Lib.hid (HB.out.setCell (p := ⟨tm, 4, none⟩) Hne.out.2.2 (.int .i64 L))
  clear HG t0 t1 t2 t3 t4 t5 t6 x4 c0 c1 c2 c3 c4 c5 c6
  generalize w3.setCell ⟨tm, 4, none⟩ (.int .i64 L) = w4 at HE HO HN HB ⊢
  obtain ⟨c0, c1, c2, c3, c4, c5, c6⟩ := ents_of HE.out
  clear HE c0 c1 c2 c3 c4 c5 c6
  obtain ⟨t0, t1, t2, t3, t4, t5, t6⟩ := ents_of HN.out
  obtain ⟨z0, z1, z2, z3, z4, z5, z6⟩ := ents_of HO.out
  have y0 := free_blk HO.out 0
  have y1 := free_blk HO.out 1
  have y2 := free_blk HO.out 2
  have y3 := free_blk HO.out 3
  have y4 := free_blk HO.out 4
  have y5 := free_blk HO.out 5
  have y6 := free_blk HO.out 6
  go_wp2_with fail
  have P9 := Lib.hid (put7_blk HO.out (.int .i64 S) (.int .i64 O) (.int .i64 2) (.int .i64 F) (.int .i64 L) (.int .i64 0) (.slice none 0 0))
  have B9 := Lib.hid (put7_below (w := w4) (B := w.heap.size) Hq.out.1 (.int .i64 S) (.int .i64 O) (.int .i64 2) (.int .i64 F) (.int .i64 L) (.int .i64 0) (.slice none 0 0))
  replace HB := Lib.hid (HB.out.trans B9.out)
  change bodyPost _ _ _ _ _ (put7 w4 q (.int .i64 S) (.int .i64 O) (.int .i64 2) (.int .i64 F) (.int .i64 L) (.int .i64 0) (.slice none 0 0))
  generalize put7 w4 q (.int .i64 S) (.int .i64 O) (.int .i64 2) (.int .i64 F) (.int .i64 L) (.int .i64 0) (.slice none 0 0) = w9 at P9 HB ⊢
  clear t0 t1 t2 t3 t4 t5 t6 z0 z1 z2 z3 z4 z5 z6 y0 y1 y2 y3 y4 y5 y6 B9
  obtain ⟨z0, z1, z2, z3, z4, z5, z6⟩ := ents_of P9.out
  exact bodyPost_ret (v := eV S O 2 F L 0 none 0 0) (by simp [results, Tryd.results13, go_sem, z0, z1, z2, z3, z4, z5, z6]) rfl ⟨none, 0, rfl, Lib.hid (World.ownsRow_nil _ _ _ _), Nat.le_refl _, Nat.zero_le _, HB⟩
set_option maxRecDepth 10000 in
set_option maxHeartbeats 2000000 in
theorem Clean7_3 (S O F L P : Int) (A : Option Addr) (n c : Nat) (d : List UInt8) (w : World) (hr : Rd w w.heap.size A n d) (_hn : n ≤ 100000) (ht : T7 w) :
    Calls Tryd.prog 13 #[eV S O 3 F L P A n c] w (ClnP w ⟨S, O, 3, F, L, P, d⟩) := by
  have Hr := Lib.hid hr
  have Ht := Lib.hid ht
  clear ht hr
  go_enter Tryd.func13, Tryd.ntmps13
  go_upto_region 1 with fail
  have HT := Lib.hid (two_ents w (.cells #[.int .i64 S, .int .i64 O, .int .i64 3, .int .i64 F, .int .i64 L, .int .i64 P, .slice A n c] 24) (.cells #[.int .i64 0, .int .i64 0, .int .i64 0, .int .i64 0, .int .i64 0, .int .i64 0, .slice none 0 0] 24))
  generalize (w.alloc (.cells #[.int .i64 S, .int .i64 O, .int .i64 3, .int .i64 F, .int .i64 L, .int .i64 P, .slice A n c] 24)).alloc (.cells #[.int .i64 0, .int .i64 0, .int .i64 0, .int .i64 0, .int .i64 0, .int .i64 0, .slice none 0 0] 24) = w1 at HT ⊢
  obtain ⟨q, hq⟩ : ∃ q, q = w.heap.size + 1 := ⟨_, rfl⟩
  obtain ⟨b, hb⟩ : ∃ b, b = w.heap.size := ⟨_, rfl⟩
  have HE := Lib.hid (show w1.heap[b]? = some (.cells #[.int .i64 S, .int .i64 O, .int .i64 3, .int .i64 F, .int .i64 L, .int .i64 P, .slice A n c] 24 (0, 0)) by rw [hb]; exact HT.out.1)
  have HO := Lib.hid (show w1.heap[q]? = some (.cells #[.int .i64 0, .int .i64 0, .int .i64 0, .int .i64 0, .int .i64 0, .int .i64 0, .slice none 0 0] 24 (0, 0)) by rw [hq]; exact HT.out.2.1)
  have HB := Lib.hid HT.out.2.2
  have Hw1 := Lib.hid HT.out.2.2.size
  rw [← hq, ← hb]
  have Hq := Lib.hid (show w.heap.size ≤ q ∧ b ≠ q by omega)
  have hlb := Lib.hid (lt_of_block HE.out)
  have hlq := Lib.hid (lt_of_block HO.out)
  clear hq hb HT
  obtain ⟨c0, c1, c2, c3, c4, c5, c6⟩ := ents_of HE.out
  go_upto_region 2 with fail
  have HN := Lib.hid (heap_alloc_new w1 (.cells #[.int .i64 S, .int .i64 O, .int .i64 3, .int .i64 0, .int .i64 0, .int .i64 0, .slice none 0 0] 24))
  have HA := al7 w1 (.cells #[.int .i64 S, .int .i64 O, .int .i64 3, .int .i64 0, .int .i64 0, .int .i64 0, .slice none 0 0] 24)
  replace HE := Lib.hid ((HA.out.block b (lt_of_block HE.out)).trans HE.out)
  replace HO := Lib.hid ((HA.out.block q (lt_of_block HO.out)).trans HO.out)
  replace HB := bel7 HB HA
  clear HA c0 c1 c2 c3 c4 c5 c6
  generalize w1.alloc (.cells #[.int .i64 S, .int .i64 O, .int .i64 3, .int .i64 0, .int .i64 0, .int .i64 0, .slice none 0 0] 24) = w2 at HN HE HO HB ⊢
  obtain ⟨tm, htm⟩ : ∃ tm, tm = w1.heap.size := ⟨_, rfl⟩
  have Hne := Lib.hid (show b ≠ tm ∧ q ≠ tm ∧ w.heap.size ≤ tm by have := hlb.out; have := hlq.out; have := Hw1.out; omega)
  rw [← htm] at HN ⊢
  clear htm
  have HF := Lib.hid (show Calls Tryd.prog 23 #[.int .i64 3] w2 fun e w' => e = .returned (.int .u8 2) ∧ w2 = w' from fieldsOf7 3 w2 (Ht.out.to HB.out))
  obtain ⟨c0, c1, c2, c3, c4, c5, c6⟩ := ents_of HE.out
  go_wp2_with fail
  refine HF.out.mono ?_
  rintro e w3 ⟨rfl, rfl⟩
  clear HF
  obtain ⟨t0, t1, t2, t3, t4, t5, t6⟩ := ents_of HN.out
  have x4 := free_blk HN.out 4
  go_upto_region 7 with fail
  have HG := Lib.hid (gset7 w2 tm 4 (.int .i64 L))
  replace HE := Lib.hid (gb7 HG.out Hne.out.1 HE.out)
  replace HO := Lib.hid (gb7 HG.out Hne.out.2.1 HO.out)
  replace HN := Lib.hid (show (w2.setCell ⟨tm, 4, none⟩ (.int .i64 L)).heap[tm]? = some (.cells #[.int .i64 S, .int .i64 O, .int .i64 3, .int .i64 0, .int .i64 L, .int .i64 0, .slice none 0 0] 24 (0, 0)) from set_blk HN.out 4 _)
  replace HB := Lib.hid (HB.out.setCell (p := ⟨tm, 4, none⟩) Hne.out.2.2 (.int .i64 L))
  clear HG t0 t1 t2 t3 t4 t5 t6 x4 c0 c1 c2 c3 c4 c5 c6
  generalize w2.setCell ⟨tm, 4, none⟩ (.int .i64 L) = w3 at HE HO HN HB ⊢
  obtain ⟨c0, c1, c2, c3, c4, c5, c6⟩ := ents_of HE.out
  clear HE c0 c1 c2 c3 c4 c5 c6
  obtain ⟨t0, t1, t2, t3, t4, t5, t6⟩ := ents_of HN.out
  obtain ⟨z0, z1, z2, z3, z4, z5, z6⟩ := ents_of HO.out
  have y0 := free_blk HO.out 0
  have y1 := free_blk HO.out 1
  have y2 := free_blk HO.out 2
  have y3 := free_blk HO.out 3
  have y4 := free_blk HO.out 4
  have y5 := free_blk HO.out 5
  have y6 := free_blk HO.out 6
  go_wp2_with fail
  have P9 := Lib.hid (put7_blk HO.out (.int .i64 S) (.int .i64 O) (.int .i64 3) (.int .i64 0) (.int .i64 L) (.int .i64 0) (.slice none 0 0))
  have B9 := Lib.hid (put7_below (w := w3) (B := w.heap.size) Hq.out.1 (.int .i64 S) (.int .i64 O) (.int .i64 3) (.int .i64 0) (.int .i64 L) (.int .i64 0) (.slice none 0 0))
  replace HB := Lib.hid (HB.out.trans B9.out)
  change bodyPost _ _ _ _ _ (put7 w3 q (.int .i64 S) (.int .i64 O) (.int .i64 3) (.int .i64 0) (.int .i64 L) (.int .i64 0) (.slice none 0 0))
  generalize put7 w3 q (.int .i64 S) (.int .i64 O) (.int .i64 3) (.int .i64 0) (.int .i64 L) (.int .i64 0) (.slice none 0 0) = w9 at P9 HB ⊢
  clear t0 t1 t2 t3 t4 t5 t6 z0 z1 z2 z3 z4 z5 z6 y0 y1 y2 y3 y4 y5 y6 B9
  obtain ⟨z0, z1, z2, z3, z4, z5, z6⟩ := ents_of P9.out
  exact bodyPost_ret (v := eV S O 3 0 L 0 none 0 0) (by simp [results, Tryd.results13, go_sem, z0, z1, z2, z3, z4, z5, z6]) rfl ⟨none, 0, rfl, Lib.hid (World.ownsRow_nil _ _ _ _), Nat.le_refl _, Nat.zero_le _, HB⟩
set_option maxRecDepth 10000 in
set_option maxHeartbeats 2000000 in
theorem Clean7_4 (S O F L P : Int) (A : Option Addr) (n c : Nat) (d : List UInt8) (w : World) (hr : Rd w w.heap.size A n d) (_hn : n ≤ 100000) (ht : T7 w) :
    Calls Tryd.prog 13 #[eV S O 4 F L P A n c] w (ClnP w ⟨S, O, 4, F, L, P, d⟩) := by
  have Hr := Lib.hid hr
  have Ht := Lib.hid ht
  clear ht hr
  go_enter Tryd.func13, Tryd.ntmps13
  go_upto_region 1 with fail
  have HT := Lib.hid (two_ents w (.cells #[.int .i64 S, .int .i64 O, .int .i64 4, .int .i64 F, .int .i64 L, .int .i64 P, .slice A n c] 24) (.cells #[.int .i64 0, .int .i64 0, .int .i64 0, .int .i64 0, .int .i64 0, .int .i64 0, .slice none 0 0] 24))
  generalize (w.alloc (.cells #[.int .i64 S, .int .i64 O, .int .i64 4, .int .i64 F, .int .i64 L, .int .i64 P, .slice A n c] 24)).alloc (.cells #[.int .i64 0, .int .i64 0, .int .i64 0, .int .i64 0, .int .i64 0, .int .i64 0, .slice none 0 0] 24) = w1 at HT ⊢
  obtain ⟨q, hq⟩ : ∃ q, q = w.heap.size + 1 := ⟨_, rfl⟩
  obtain ⟨b, hb⟩ : ∃ b, b = w.heap.size := ⟨_, rfl⟩
  have HE := Lib.hid (show w1.heap[b]? = some (.cells #[.int .i64 S, .int .i64 O, .int .i64 4, .int .i64 F, .int .i64 L, .int .i64 P, .slice A n c] 24 (0, 0)) by rw [hb]; exact HT.out.1)
  have HO := Lib.hid (show w1.heap[q]? = some (.cells #[.int .i64 0, .int .i64 0, .int .i64 0, .int .i64 0, .int .i64 0, .int .i64 0, .slice none 0 0] 24 (0, 0)) by rw [hq]; exact HT.out.2.1)
  have HB := Lib.hid HT.out.2.2
  have Hw1 := Lib.hid HT.out.2.2.size
  rw [← hq, ← hb]
  have Hq := Lib.hid (show w.heap.size ≤ q ∧ b ≠ q by omega)
  have hlb := Lib.hid (lt_of_block HE.out)
  have hlq := Lib.hid (lt_of_block HO.out)
  clear hq hb HT
  obtain ⟨c0, c1, c2, c3, c4, c5, c6⟩ := ents_of HE.out
  go_upto_region 2 with fail
  have HN := Lib.hid (heap_alloc_new w1 (.cells #[.int .i64 S, .int .i64 O, .int .i64 4, .int .i64 0, .int .i64 0, .int .i64 0, .slice none 0 0] 24))
  have HA := al7 w1 (.cells #[.int .i64 S, .int .i64 O, .int .i64 4, .int .i64 0, .int .i64 0, .int .i64 0, .slice none 0 0] 24)
  replace HE := Lib.hid ((HA.out.block b (lt_of_block HE.out)).trans HE.out)
  replace HO := Lib.hid ((HA.out.block q (lt_of_block HO.out)).trans HO.out)
  replace HB := bel7 HB HA
  clear HA c0 c1 c2 c3 c4 c5 c6
  generalize w1.alloc (.cells #[.int .i64 S, .int .i64 O, .int .i64 4, .int .i64 0, .int .i64 0, .int .i64 0, .slice none 0 0] 24) = w2 at HN HE HO HB ⊢
  obtain ⟨tm, htm⟩ : ∃ tm, tm = w1.heap.size := ⟨_, rfl⟩
  have Hne := Lib.hid (show b ≠ tm ∧ q ≠ tm ∧ w.heap.size ≤ tm by have := hlb.out; have := hlq.out; have := Hw1.out; omega)
  rw [← htm] at HN ⊢
  clear htm
  have HF := Lib.hid (show Calls Tryd.prog 23 #[.int .i64 4] w2 fun e w' => e = .returned (.int .u8 0) ∧ w2 = w' from fieldsOf7 4 w2 (Ht.out.to HB.out))
  obtain ⟨c0, c1, c2, c3, c4, c5, c6⟩ := ents_of HE.out
  go_wp2_with fail
  refine HF.out.mono ?_
  rintro e w3 ⟨rfl, rfl⟩
  clear HF
  clear HE c0 c1 c2 c3 c4 c5 c6
  obtain ⟨t0, t1, t2, t3, t4, t5, t6⟩ := ents_of HN.out
  obtain ⟨z0, z1, z2, z3, z4, z5, z6⟩ := ents_of HO.out
  have y0 := free_blk HO.out 0
  have y1 := free_blk HO.out 1
  have y2 := free_blk HO.out 2
  have y3 := free_blk HO.out 3
  have y4 := free_blk HO.out 4
  have y5 := free_blk HO.out 5
  have y6 := free_blk HO.out 6
  go_wp2_with fail
  have P9 := Lib.hid (put7_blk HO.out (.int .i64 S) (.int .i64 O) (.int .i64 4) (.int .i64 0) (.int .i64 0) (.int .i64 0) (.slice none 0 0))
  have B9 := Lib.hid (put7_below (w := w2) (B := w.heap.size) Hq.out.1 (.int .i64 S) (.int .i64 O) (.int .i64 4) (.int .i64 0) (.int .i64 0) (.int .i64 0) (.slice none 0 0))
  replace HB := Lib.hid (HB.out.trans B9.out)
  change bodyPost _ _ _ _ _ (put7 w2 q (.int .i64 S) (.int .i64 O) (.int .i64 4) (.int .i64 0) (.int .i64 0) (.int .i64 0) (.slice none 0 0))
  generalize put7 w2 q (.int .i64 S) (.int .i64 O) (.int .i64 4) (.int .i64 0) (.int .i64 0) (.int .i64 0) (.slice none 0 0) = w9 at P9 HB ⊢
  clear t0 t1 t2 t3 t4 t5 t6 z0 z1 z2 z3 z4 z5 z6 y0 y1 y2 y3 y4 y5 y6 B9
  obtain ⟨z0, z1, z2, z3, z4, z5, z6⟩ := ents_of P9.out
  exact bodyPost_ret (v := eV S O 4 0 0 0 none 0 0) (by simp [results, Tryd.results13, go_sem, z0, z1, z2, z3, z4, z5, z6]) rfl ⟨none, 0, rfl, Lib.hid (World.ownsRow_nil _ _ _ _), Nat.le_refl _, Nat.zero_le _, HB⟩
set_option maxRecDepth 10000 in
set_option maxHeartbeats 2000000 in
theorem Clean7_5 (S O F L P : Int) (A : Option Addr) (n c : Nat) (d : List UInt8) (w : World) (hr : Rd w w.heap.size A n d) (_hn : n ≤ 100000) (ht : T7 w) :
    Calls Tryd.prog 13 #[eV S O 5 F L P A n c] w (ClnP w ⟨S, O, 5, F, L, P, d⟩) := by
  have Hr := Lib.hid hr
  have Ht := Lib.hid ht
  clear ht hr
  go_enter Tryd.func13, Tryd.ntmps13
  go_upto_region 1 with fail
  have HT := Lib.hid (two_ents w (.cells #[.int .i64 S, .int .i64 O, .int .i64 5, .int .i64 F, .int .i64 L, .int .i64 P, .slice A n c] 24) (.cells #[.int .i64 0, .int .i64 0, .int .i64 0, .int .i64 0, .int .i64 0, .int .i64 0, .slice none 0 0] 24))
  generalize (w.alloc (.cells #[.int .i64 S, .int .i64 O, .int .i64 5, .int .i64 F, .int .i64 L, .int .i64 P, .slice A n c] 24)).alloc (.cells #[.int .i64 0, .int .i64 0, .int .i64 0, .int .i64 0, .int .i64 0, .int .i64 0, .slice none 0 0] 24) = w1 at HT ⊢
  obtain ⟨q, hq⟩ : ∃ q, q = w.heap.size + 1 := ⟨_, rfl⟩
  obtain ⟨b, hb⟩ : ∃ b, b = w.heap.size := ⟨_, rfl⟩
  have HE := Lib.hid (show w1.heap[b]? = some (.cells #[.int .i64 S, .int .i64 O, .int .i64 5, .int .i64 F, .int .i64 L, .int .i64 P, .slice A n c] 24 (0, 0)) by rw [hb]; exact HT.out.1)
  have HO := Lib.hid (show w1.heap[q]? = some (.cells #[.int .i64 0, .int .i64 0, .int .i64 0, .int .i64 0, .int .i64 0, .int .i64 0, .slice none 0 0] 24 (0, 0)) by rw [hq]; exact HT.out.2.1)
  have HB := Lib.hid HT.out.2.2
  have Hw1 := Lib.hid HT.out.2.2.size
  rw [← hq, ← hb]
  have Hq := Lib.hid (show w.heap.size ≤ q ∧ b ≠ q by omega)
  have hlb := Lib.hid (lt_of_block HE.out)
  have hlq := Lib.hid (lt_of_block HO.out)
  clear hq hb HT
  obtain ⟨c0, c1, c2, c3, c4, c5, c6⟩ := ents_of HE.out
  go_upto_region 2 with fail
  have HN := Lib.hid (heap_alloc_new w1 (.cells #[.int .i64 S, .int .i64 O, .int .i64 5, .int .i64 0, .int .i64 0, .int .i64 0, .slice none 0 0] 24))
  have HA := al7 w1 (.cells #[.int .i64 S, .int .i64 O, .int .i64 5, .int .i64 0, .int .i64 0, .int .i64 0, .slice none 0 0] 24)
  replace HE := Lib.hid ((HA.out.block b (lt_of_block HE.out)).trans HE.out)
  replace HO := Lib.hid ((HA.out.block q (lt_of_block HO.out)).trans HO.out)
  replace HB := bel7 HB HA
  clear HA c0 c1 c2 c3 c4 c5 c6
  generalize w1.alloc (.cells #[.int .i64 S, .int .i64 O, .int .i64 5, .int .i64 0, .int .i64 0, .int .i64 0, .slice none 0 0] 24) = w2 at HN HE HO HB ⊢
  obtain ⟨tm, htm⟩ : ∃ tm, tm = w1.heap.size := ⟨_, rfl⟩
  have Hne := Lib.hid (show b ≠ tm ∧ q ≠ tm ∧ w.heap.size ≤ tm by have := hlb.out; have := hlq.out; have := Hw1.out; omega)
  rw [← htm] at HN ⊢
  clear htm
  have HF := Lib.hid (show Calls Tryd.prog 23 #[.int .i64 5] w2 fun e w' => e = .returned (.int .u8 4) ∧ w2 = w' from fieldsOf7 5 w2 (Ht.out.to HB.out))
  obtain ⟨c0, c1, c2, c3, c4, c5, c6⟩ := ents_of HE.out
  go_wp2_with fail
  refine HF.out.mono ?_
  rintro e w3 ⟨rfl, rfl⟩
  clear HF
  obtain ⟨t0, t1, t2, t3, t4, t5, t6⟩ := ents_of HN.out
  have x5 := free_blk HN.out 5
  go_upto_region 9 with fail
  have HG := Lib.hid (gset7 w2 tm 5 (.int .i64 P))
  replace HE := Lib.hid (gb7 HG.out Hne.out.1 HE.out)
  replace HO := Lib.hid (gb7 HG.out Hne.out.2.1 HO.out)
  replace HN := Lib.hid (show (w2.setCell ⟨tm, 5, none⟩ (.int .i64 P)).heap[tm]? = some (.cells #[.int .i64 S, .int .i64 O, .int .i64 5, .int .i64 0, .int .i64 0, .int .i64 P, .slice none 0 0] 24 (0, 0)) from set_blk HN.out 5 _)
  replace HB := Lib.hid (HB.out.setCell (p := ⟨tm, 5, none⟩) Hne.out.2.2 (.int .i64 P))
  clear HG t0 t1 t2 t3 t4 t5 t6 x5 c0 c1 c2 c3 c4 c5 c6
  generalize w2.setCell ⟨tm, 5, none⟩ (.int .i64 P) = w3 at HE HO HN HB ⊢
  obtain ⟨c0, c1, c2, c3, c4, c5, c6⟩ := ents_of HE.out
  clear HE c0 c1 c2 c3 c4 c5 c6
  obtain ⟨t0, t1, t2, t3, t4, t5, t6⟩ := ents_of HN.out
  obtain ⟨z0, z1, z2, z3, z4, z5, z6⟩ := ents_of HO.out
  have y0 := free_blk HO.out 0
  have y1 := free_blk HO.out 1
  have y2 := free_blk HO.out 2
  have y3 := free_blk HO.out 3
  have y4 := free_blk HO.out 4
  have y5 := free_blk HO.out 5
  have y6 := free_blk HO.out 6
  go_wp2_with fail
  have P9 := Lib.hid (put7_blk HO.out (.int .i64 S) (.int .i64 O) (.int .i64 5) (.int .i64 0) (.int .i64 0) (.int .i64 P) (.slice none 0 0))
  have B9 := Lib.hid (put7_below (w := w3) (B := w.heap.size) Hq.out.1 (.int .i64 S) (.int .i64 O) (.int .i64 5) (.int .i64 0) (.int .i64 0) (.int .i64 P) (.slice none 0 0))
  replace HB := Lib.hid (HB.out.trans B9.out)
  change bodyPost _ _ _ _ _ (put7 w3 q (.int .i64 S) (.int .i64 O) (.int .i64 5) (.int .i64 0) (.int .i64 0) (.int .i64 P) (.slice none 0 0))
  generalize put7 w3 q (.int .i64 S) (.int .i64 O) (.int .i64 5) (.int .i64 0) (.int .i64 0) (.int .i64 P) (.slice none 0 0) = w9 at P9 HB ⊢
  clear t0 t1 t2 t3 t4 t5 t6 z0 z1 z2 z3 z4 z5 z6 y0 y1 y2 y3 y4 y5 y6 B9
  obtain ⟨z0, z1, z2, z3, z4, z5, z6⟩ := ents_of P9.out
  exact bodyPost_ret (v := eV S O 5 0 0 P none 0 0) (by simp [results, Tryd.results13, go_sem, z0, z1, z2, z3, z4, z5, z6]) rfl ⟨none, 0, rfl, Lib.hid (World.ownsRow_nil _ _ _ _), Nat.le_refl _, Nat.zero_le _, HB⟩
set_option maxRecDepth 10000 in
set_option maxHeartbeats 2000000 in
theorem Clean7_6 (S O F L P : Int) (A : Option Addr) (n c : Nat) (d : List UInt8) (w : World) (hr : Rd w w.heap.size A n d) (_hn : n ≤ 100000) (ht : T7 w) :
    Calls Tryd.prog 13 #[eV S O 6 F L P A n c] w (ClnP w ⟨S, O, 6, F, L, P, d⟩) := by
  have Hr := Lib.hid hr
  have Ht := Lib.hid ht
  clear ht hr
  go_enter Tryd.func13, Tryd.ntmps13
  go_upto_region 1 with fail
  have HT := Lib.hid (two_ents w (.cells #[.int .i64 S, .int .i64 O, .int .i64 6, .int .i64 F, .int .i64 L, .int .i64 P, .slice A n c] 24) (.cells #[.int .i64 0, .int .i64 0, .int .i64 0, .int .i64 0, .int .i64 0, .int .i64 0, .slice none 0 0] 24))
  generalize (w.alloc (.cells #[.int .i64 S, .int .i64 O, .int .i64 6, .int .i64 F, .int .i64 L, .int .i64 P, .slice A n c] 24)).alloc (.cells #[.int .i64 0, .int .i64 0, .int .i64 0, .int .i64 0, .int .i64 0, .int .i64 0, .slice none 0 0] 24) = w1 at HT ⊢
  obtain ⟨q, hq⟩ : ∃ q, q = w.heap.size + 1 := ⟨_, rfl⟩
  obtain ⟨b, hb⟩ : ∃ b, b = w.heap.size := ⟨_, rfl⟩
  have HE := Lib.hid (show w1.heap[b]? = some (.cells #[.int .i64 S, .int .i64 O, .int .i64 6, .int .i64 F, .int .i64 L, .int .i64 P, .slice A n c] 24 (0, 0)) by rw [hb]; exact HT.out.1)
  have HO := Lib.hid (show w1.heap[q]? = some (.cells #[.int .i64 0, .int .i64 0, .int .i64 0, .int .i64 0, .int .i64 0, .int .i64 0, .slice none 0 0] 24 (0, 0)) by rw [hq]; exact HT.out.2.1)
  have HB := Lib.hid HT.out.2.2
  have Hw1 := Lib.hid HT.out.2.2.size
  rw [← hq, ← hb]
  have Hq := Lib.hid (show w.heap.size ≤ q ∧ b ≠ q by omega)
  have hlb := Lib.hid (lt_of_block HE.out)
  have hlq := Lib.hid (lt_of_block HO.out)
  clear hq hb HT
  obtain ⟨c0, c1, c2, c3, c4, c5, c6⟩ := ents_of HE.out
  go_upto_region 2 with fail
  have HN := Lib.hid (heap_alloc_new w1 (.cells #[.int .i64 S, .int .i64 O, .int .i64 6, .int .i64 0, .int .i64 0, .int .i64 0, .slice none 0 0] 24))
  have HA := al7 w1 (.cells #[.int .i64 S, .int .i64 O, .int .i64 6, .int .i64 0, .int .i64 0, .int .i64 0, .slice none 0 0] 24)
  replace HE := Lib.hid ((HA.out.block b (lt_of_block HE.out)).trans HE.out)
  replace HO := Lib.hid ((HA.out.block q (lt_of_block HO.out)).trans HO.out)
  replace HB := bel7 HB HA
  clear HA c0 c1 c2 c3 c4 c5 c6
  generalize w1.alloc (.cells #[.int .i64 S, .int .i64 O, .int .i64 6, .int .i64 0, .int .i64 0, .int .i64 0, .slice none 0 0] 24) = w2 at HN HE HO HB ⊢
  obtain ⟨tm, htm⟩ : ∃ tm, tm = w1.heap.size := ⟨_, rfl⟩
  have Hne := Lib.hid (show b ≠ tm ∧ q ≠ tm ∧ w.heap.size ≤ tm by have := hlb.out; have := hlq.out; have := Hw1.out; omega)
  rw [← htm] at HN ⊢
  clear htm
  have HF := Lib.hid (show Calls Tryd.prog 23 #[.int .i64 6] w2 fun e w' => e = .returned (.int .u8 4) ∧ w2 = w' from fieldsOf7 6 w2 (Ht.out.to HB.out))
  obtain ⟨c0, c1, c2, c3, c4, c5, c6⟩ := ents_of HE.out
  go_wp2_with fail
  refine HF.out.mono ?_
  rintro e w3 ⟨rfl, rfl⟩
  clear HF
  obtain ⟨t0, t1, t2, t3, t4, t5, t6⟩ := ents_of HN.out
  have x5 := free_blk HN.out 5
  go_upto_region 9 with fail
  have HG := Lib.hid (gset7 w2 tm 5 (.int .i64 P))
  replace HE := Lib.hid (gb7 HG.out Hne.out.1 HE.out)
  replace HO := Lib.hid (gb7 HG.out Hne.out.2.1 HO.out)
  replace HN := Lib.hid (show (w2.setCell ⟨tm, 5, none⟩ (.int .i64 P)).heap[tm]? = some (.cells #[.int .i64 S, .int .i64 O, .int .i64 6, .int .i64 0, .int .i64 0, .int .i64 P, .slice none 0 0] 24 (0, 0)) from set_blk HN.out 5 _)
  replace HB := Lib.hid (HB.out.setCell (p := ⟨tm, 5, none⟩) Hne.out.2.2 (.int .i64 P))
  clear HG t0 t1 t2 t3 t4 t5 t6 x5 c0 c1 c2 c3 c4 c5 c6
  generalize w2.setCell ⟨tm, 5, none⟩ (.int .i64 P) = w3 at HE HO HN HB ⊢
  obtain ⟨c0, c1, c2, c3, c4, c5, c6⟩ := ents_of HE.out
  clear HE c0 c1 c2 c3 c4 c5 c6
  obtain ⟨t0, t1, t2, t3, t4, t5, t6⟩ := ents_of HN.out
  obtain ⟨z0, z1, z2, z3, z4, z5, z6⟩ := ents_of HO.out
  have y0 := free_blk HO.out 0
  have y1 := free_blk HO.out 1
  have y2 := free_blk HO.out 2
  have y3 := free_blk HO.out 3
  have y4 := free_blk HO.out 4
  have y5 := free_blk HO.out 5
  have y6 := free_blk HO.out 6
  go_wp2_with fail
  have P9 := Lib.hid (put7_blk HO.out (.int .i64 S) (.int .i64 O) (.int .i64 6) (.int .i64 0) (.int .i64 0) (.int .i64 P) (.slice none 0 0))
  have B9 := Lib.hid (put7_below (w := w3) (B := w.heap.size) Hq.out.1 (.int .i64 S) (.int .i64 O) (.int .i64 6) (.int .i64 0) (.int .i64 0) (.int .i64 P) (.slice none 0 0))
  replace HB := Lib.hid (HB.out.trans B9.out)
  change bodyPost _ _ _ _ _ (put7 w3 q (.int .i64 S) (.int .i64 O) (.int .i64 6) (.int .i64 0) (.int .i64 0) (.int .i64 P) (.slice none 0 0))
  generalize put7 w3 q (.int .i64 S) (.int .i64 O) (.int .i64 6) (.int .i64 0) (.int .i64 0) (.int .i64 P) (.slice none 0 0) = w9 at P9 HB ⊢
  clear t0 t1 t2 t3 t4 t5 t6 z0 z1 z2 z3 z4 z5 z6 y0 y1 y2 y3 y4 y5 y6 B9
  obtain ⟨z0, z1, z2, z3, z4, z5, z6⟩ := ents_of P9.out
  exact bodyPost_ret (v := eV S O 6 0 0 P none 0 0) (by simp [results, Tryd.results13, go_sem, z0, z1, z2, z3, z4, z5, z6]) rfl ⟨none, 0, rfl, Lib.hid (World.ownsRow_nil _ _ _ _), Nat.le_refl _, Nat.zero_le _, HB⟩
set_option maxRecDepth 10000 in
set_option maxHeartbeats 2000000 in
theorem Clean7_0 (K : Int) (S O F L P : Int) (A : Option Addr) (n c : Nat) (d : List UInt8) (w : World) (k1 : ¬ K = 1) (k2 : ¬ K = 2) (k3 : ¬ K = 3) (k4 : ¬ K = 4) (k5 : ¬ K = 5) (k6 : ¬ K = 6) (hr : Rd w w.heap.size A n d) (_hn : n ≤ 100000) (ht : T7 w) :
    Calls Tryd.prog 13 #[eV S O K F L P A n c] w (ClnP w ⟨S, O, K, F, L, P, d⟩) := by
  have hf : fldK K = 0 := by unfold fldK; rw [if_neg k1, if_neg k2, if_neg k3, if_neg (by omega)]
  have hC : cln7 ⟨S, O, K, F, L, P, d⟩ = ⟨S, O, K, 0, 0, 0, []⟩ := by unfold cln7; dsimp only; rw [if_neg (by omega), if_neg (by omega), if_neg (by omega), if_neg (by omega)]
  have Hf := Lib.hid hf
  have HCl := Lib.hid hC
  clear hf hC k1 k2 k3 k4 k5 k6
  have Hr := Lib.hid hr
  have Ht := Lib.hid ht
  clear ht hr
  go_enter Tryd.func13, Tryd.ntmps13
  go_upto_region 1 with fail
  have HT := Lib.hid (two_ents w (.cells #[.int .i64 S, .int .i64 O, .int .i64 K, .int .i64 F, .int .i64 L, .int .i64 P, .slice A n c] 24) (.cells #[.int .i64 0, .int .i64 0, .int .i64 0, .int .i64 0, .int .i64 0, .int .i64 0, .slice none 0 0] 24))
  generalize (w.alloc (.cells #[.int .i64 S, .int .i64 O, .int .i64 K, .int .i64 F, .int .i64 L, .int .i64 P, .slice A n c] 24)).alloc (.cells #[.int .i64 0, .int .i64 0, .int .i64 0, .int .i64 0, .int .i64 0, .int .i64 0, .slice none 0 0] 24) = w1 at HT ⊢
  obtain ⟨q, hq⟩ : ∃ q, q = w.heap.size + 1 := ⟨_, rfl⟩
  obtain ⟨b, hb⟩ : ∃ b, b = w.heap.size := ⟨_, rfl⟩
  have HE := Lib.hid (show w1.heap[b]? = some (.cells #[.int .i64 S, .int .i64 O, .int .i64 K, .int .i64 F, .int .i64 L, .int .i64 P, .slice A n c] 24 (0, 0)) by rw [hb]; exact HT.out.1)
  have HO := Lib.hid (show w1.heap[q]? = some (.cells #[.int .i64 0, .int .i64 0, .int .i64 0, .int .i64 0, .int .i64 0, .int .i64 0, .slice none 0 0] 24 (0, 0)) by rw [hq]; exact HT.out.2.1)
  have HB := Lib.hid HT.out.2.2
  have Hw1 := Lib.hid HT.out.2.2.size
  rw [← hq, ← hb]
  have Hq := Lib.hid (show w.heap.size ≤ q ∧ b ≠ q by omega)
  have hlb := Lib.hid (lt_of_block HE.out)
  have hlq := Lib.hid (lt_of_block HO.out)
  clear hq hb HT
  obtain ⟨c0, c1, c2, c3, c4, c5, c6⟩ := ents_of HE.out
  go_upto_region 2 with fail
  have HN := Lib.hid (heap_alloc_new w1 (.cells #[.int .i64 S, .int .i64 O, .int .i64 K, .int .i64 0, .int .i64 0, .int .i64 0, .slice none 0 0] 24))
  have HA := al7 w1 (.cells #[.int .i64 S, .int .i64 O, .int .i64 K, .int .i64 0, .int .i64 0, .int .i64 0, .slice none 0 0] 24)
  replace HE := Lib.hid ((HA.out.block b (lt_of_block HE.out)).trans HE.out)
  replace HO := Lib.hid ((HA.out.block q (lt_of_block HO.out)).trans HO.out)
  replace HB := bel7 HB HA
  clear HA c0 c1 c2 c3 c4 c5 c6
  generalize w1.alloc (.cells #[.int .i64 S, .int .i64 O, .int .i64 K, .int .i64 0, .int .i64 0, .int .i64 0, .slice none 0 0] 24) = w2 at HN HE HO HB ⊢
  obtain ⟨tm, htm⟩ : ∃ tm, tm = w1.heap.size := ⟨_, rfl⟩
  have Hne := Lib.hid (show b ≠ tm ∧ q ≠ tm ∧ w.heap.size ≤ tm by have := hlb.out; have := hlq.out; have := Hw1.out; omega)
  rw [← htm] at HN ⊢
  clear htm
  have HF := Lib.hid (show Calls Tryd.prog 23 #[.int .i64 K] w2 fun e w' => e = .returned (.int .u8 0) ∧ w2 = w' by have h := fieldsOf7 K w2 (Ht.out.to HB.out); rw [Hf.out] at h; exact h)
  obtain ⟨c0, c1, c2, c3, c4, c5, c6⟩ := ents_of HE.out
  go_wp2_with fail
  refine HF.out.mono ?_
  rintro e w3 ⟨rfl, rfl⟩
  clear HF
  clear HE c0 c1 c2 c3 c4 c5 c6
  obtain ⟨t0, t1, t2, t3, t4, t5, t6⟩ := ents_of HN.out
  obtain ⟨z0, z1, z2, z3, z4, z5, z6⟩ := ents_of HO.out
  have y0 := free_blk HO.out 0
  have y1 := free_blk HO.out 1
  have y2 := free_blk HO.out 2
  have y3 := free_blk HO.out 3
  have y4 := free_blk HO.out 4
  have y5 := free_blk HO.out 5
  have y6 := free_blk HO.out 6
  go_wp2_with fail
  have P9 := Lib.hid (put7_blk HO.out (.int .i64 S) (.int .i64 O) (.int .i64 K) (.int .i64 0) (.int .i64 0) (.int .i64 0) (.slice none 0 0))
  have B9 := Lib.hid (put7_below (w := w2) (B := w.heap.size) Hq.out.1 (.int .i64 S) (.int .i64 O) (.int .i64 K) (.int .i64 0) (.int .i64 0) (.int .i64 0) (.slice none 0 0))
  replace HB := Lib.hid (HB.out.trans B9.out)
  change bodyPost _ _ _ _ _ (put7 w2 q (.int .i64 S) (.int .i64 O) (.int .i64 K) (.int .i64 0) (.int .i64 0) (.int .i64 0) (.slice none 0 0))
  generalize put7 w2 q (.int .i64 S) (.int .i64 O) (.int .i64 K) (.int .i64 0) (.int .i64 0) (.int .i64 0) (.slice none 0 0) = w9 at P9 HB ⊢
  clear t0 t1 t2 t3 t4 t5 t6 z0 z1 z2 z3 z4 z5 z6 y0 y1 y2 y3 y4 y5 y6 B9
  obtain ⟨z0, z1, z2, z3, z4, z5, z6⟩ := ents_of P9.out
  exact bodyPost_ret (v := eV S O K 0 0 0 none 0 0) (by simp [results, Tryd.results13, go_sem, z0, z1, z2, z3, z4, z5, z6]) rfl ⟨none, 0, by rw [HCl.out]; rfl, by rw [HCl.out]; exact Lib.hid (World.ownsRow_nil _ _ _ _), by rw [HCl.out]; exact Nat.le_refl _, Nat.zero_le _, HB⟩
set_option maxRecDepth 10000 in
theorem Clean7 (S O K F L P : Int) (A : Option Addr) (n c : Nat) (d : List UInt8) (w : World) (hr : Rd w w.heap.size A n d) (hn : n ≤ 100000) (ht : T7 w) :
    Calls Tryd.prog 13 #[eV S O K F L P A n c] w (ClnP w ⟨S, O, K, F, L, P, d⟩) := by
  rcases kinds7 K with rfl | rfl | rfl | rfl | rfl | rfl | ⟨k1, k2, k3, k4, k5, k6⟩
  · exact Clean7_1 S O F L P A n c d w hr hn ht
  · exact Clean7_2 S O F L P A n c d w hr hn ht
  · exact Clean7_3 S O F L P A n c d w hr hn ht
  · exact Clean7_4 S O F L P A n c d w hr hn ht
  · exact Clean7_5 S O F L P A n c d w hr hn ht
  · exact Clean7_6 S O F L P A n c d w hr hn ht
  · exact Clean7_0 K S O F L P A n c d w k1 k2 k3 k4 k5 k6 hr hn ht
end Go.Proofs.YtfabcmohaikfoaaDoor
