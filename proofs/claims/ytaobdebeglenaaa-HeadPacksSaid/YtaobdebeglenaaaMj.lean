/- Package head: Pack. Package head: unpackMap, unpackSnaps. Package head: unpackSnaps. -/
import Derived.Test.YtaobdebeglenaaaMi

namespace Go.Proofs.Ytaobdebeglenaaa
open Go.RowKit

set_option maxRecDepth 10000 in
/-- block P holds a slice of bytes of the call's own -/
def BufP (w : World) (P : Nat) (l : List UInt8) : Prop := ∃ A n c, w.heap[P]? = some (.cells #[.slice A n c] 39 (0, 0)) ∧ w.ownsRow (P + 1) 5 1 (.slice A n c) n (l.map bv)
theorem BufP.to {w w' : World} {P : Nat} {l : List UInt8} (h : BufP w P l) (hb : Below w.heap.size w w') : BufP w' P l := by
  obtain ⟨A, n, c, h1, h2⟩ := h
  exact ⟨A, n, c, (hb.block P (lt_of_block h1)).trans h1, own_to h2 hb⟩

set_option maxRecDepth 10000 in
set_option maxHeartbeats 1000000 in
theorem pk1 (P : Nat) (l : List UInt8) (width x : Int) (w : World) (h : BufP w P l) (hl : l.length ≤ 100000) (hx : -9223372036854775808 ≤ x ∧ x ≤ 9223372036854775807) :
    Calls Try.prog 50 #[.int .i64 width, .int .i64 x, .pointer (some ⟨P, 0, none⟩)] w fun e w' => e = .returned (.tuple #[]) ∧ Hid (BufP w' P (l ++ numB width x)) ∧ Hid (w.grownBy w' (some P)) := by
  obtain ⟨A, n, c, hh, hown⟩ := h
  have hn : n = l.length := by have := hown.1; simp at this; omega
  have c0 : w.cell? ⟨P, 0, none⟩ = some (.slice A n c) := by rw [cell_blk hh]; rfl
  have HN := Lib.hid (Num_any A n c l width x w (Rd.own hown) (by omega) hx)
  have Hh := Lib.hid hh
  clear hown hn hh
  go_enter Try.func50, Try.ntmps50
  go_wp2_with fail
  refine HN.out.mono ?_
  rintro e w1 ⟨A2, c2, rfl, k1, k2, hown, hb⟩
  obtain ⟨M, hM⟩ : ∃ M, M = (l ++ numB width x).length := ⟨_, rfl⟩
  rw [← hM] at hown ⊢
  have Hlt := Lib.hid (lt_of_block Hh.out)
  have Hown := Lib.hid (own_less hown Hlt.out)
  have Hb := Lib.hid hb
  have Hh1 := Lib.hid ((hb.block P Hlt.out).trans Hh.out)
  clear hM hown hb k1 k2 c0 HN
  have c1 : w1.cell? ⟨P, 0, none⟩ = some (.slice A n c) := by rw [cell_blk Hh1.out]; rfl
  have y1 := free_blk Hh1.out 0
  go_wp2_with fail
  exact bodyPost_end (v := .tuple #[]) (by simp [results, Try.results50, go_sem]) rfl ⟨rfl, ⟨A2, M, c2, set_blk Hh1.out 0 _, own_set Hown.out (p := ⟨P, 0, none⟩) (Nat.lt_succ_self P) _⟩, grownBy_trans (grownBy_below Hb.out (some P)) (grownBy_set _ _ _ _)⟩

set_option maxRecDepth 10000 in
set_option maxHeartbeats 2000000 in
theorem pk2 (P : Nat) (l : List UInt8) (Am : Option Addr) (nm cm : Nat) (m : List Int) (w : World) (h : BufP w P l) (hl : l.length ≤ 100000) (hm : Hid (IAt w Am nm m)) :
    Calls Try.prog 52 #[.slice Am nm cm, .pointer (some ⟨P, 0, none⟩)] w fun e w' => e = .returned (.tuple #[]) ∧ Hid (BufP w' P (l ++ blobB (packO m))) ∧ Hid (w.grownBy w' (some P)) := by
  obtain ⟨A, n, c, hh, hown⟩ := h
  have hn : n = l.length := by have := hown.1; simp at this; omega
  have c0 : w.cell? ⟨P, 0, none⟩ = some (.slice A n c) := by rw [cell_blk hh]; rfl
  have HP := Lib.hid (fun w' (hb : Hid (Below w.heap.size w w')) => hPack cm (IAt.keep hm hb))
  have Hn := Lib.hid (show n ≤ 100000 by omega)
  have Hr := Lib.hid (Rd.own hown)
  have Hh := Lib.hid hh
  have Hlt := Lib.hid (lt_of_block hh)
  clear hown hn hh hm
  have HD : Hid (Below w.heap.size w w.drew) := (Below.refl _ _).drew
  go_enter Try.func52, Try.ntmps52
  go_region_with (first
    | (go_at_call 54; refine (HP.out _ HD).mono ?_; rintro e w1 ⟨A1, n1, c1, rfl, B1, hb⟩; have HB1 : Hid (Below w.heap.size w w1) := undrew6 hb; have c0b := (HB1.out.cell (World.block_lt_of_cell? w _ c0)).trans c0; have Hr1 := Lib.hid ((Hr.out.below HB1.out).more HB1.out.size); have Hh1 := Lib.hid ((HB1.out.block P Hlt.out).trans Hh.out); clear hb)
    | (go_at_call 53; refine (Blob_any A A1 n c n1 c1 l (packO m) _ (by exact Hr1.out) (by exact B1.out.1) (by have := Hn.out; omega) B1.out.2.1 B1.out.2.2.1).mono ?_; rintro e w2 ⟨A2, c2, rfl, k1, k2, hown, hb⟩; obtain ⟨M, hM⟩ : ∃ M, M = (l ++ blobB (packO m)).length := ⟨_, rfl⟩; rw [← hM] at hown ⊢; have HB2 := Lib.hid hb; have Hown := Lib.hid (own_less hown (show P + 1 ≤ w1.heap.size from lt_of_block Hh1.out)); have Hh2 := Lib.hid ((hb.block P (lt_of_block Hh1.out)).trans Hh1.out); have c2b : w2.cell? ⟨P, 0, none⟩ = some (.slice A n c) := cell_blk Hh2.out 0; have y2 := free_blk Hh2.out 0; clear hM hown hb k1 k2))
  all_goals
    go_wp2_with fail
    exact bodyPost_end (v := .tuple #[]) (by simp [results, Try.results52, go_sem]) rfl ⟨rfl, ⟨A2, M, c2, set_blk Hh2.out 0 _, own_set Hown.out (p := ⟨P, 0, none⟩) (Nat.lt_succ_self P) _⟩, grownBy_trans (grownBy_below (belO6 HB1 HB2).out (some P)) (grownBy_set _ _ _ _)⟩

/-- what is written, piece by piece -/
structure PkL (g : Hd) (L0 L1 L2 L3 L4 L5 L6 L7 L8 : List UInt8) : Prop where
  e0 : L1 = L0 ++ numB 1 g.u
  e1 : L2 = L1 ++ numB 1 g.c
  e2 : L3 = L2 ++ numB 1 g.o
  e3 : L4 = L3 ++ numB 1 g.last
  e4 : L5 = L4 ++ numB 2 g.size
  e5 : L6 = L5 ++ numB 6 g.seq
  e6 : L7 = L6 ++ blobB (packO g.map)
  e7 : L8 = L7 ++ numB 1 g.snaps.length
  e8 : L8 = headB g
  l0 : L0.length ≤ 100000
  l1 : L1.length ≤ 100000
  l2 : L2.length ≤ 100000
  l3 : L3.length ≤ 100000
  l4 : L4.length ≤ 100000
  l5 : L5.length ≤ 100000
  l6 : L6.length ≤ 100000
  l7 : L7.length ≤ 100000
  l8 : L8.length ≤ 100000
theorem PkL.mk6 (g : Hd) : ∃ L1 L2 L3 L4 L5 L6 L7 L8, PkL g [] L1 L2 L3 L4 L5 L6 L7 L8 := by
  have h1 : fitW 1 = 1 := by decide
  have h2 : fitW 2 = 2 := by decide
  have h3 : fitW 6 = 6 := by decide
  have hb := packO_le g.map
  have h4 : (blobB (packO g.map)).length ≤ 65537 := blobB_le _
  refine ⟨_, _, _, _, _, _, _, _, rfl, rfl, rfl, rfl, rfl, rfl, rfl, rfl, by simp [headB], ?_, ?_, ?_, ?_, ?_, ?_, ?_, ?_, ?_⟩
  all_goals
    simp only [List.length_append, numB_length, List.length_nil]
    omega
theorem tk_le (g : Hd) (h : MayH g) (j : Nat) : (headB g ++ (g.snaps.take j).flatMap snB).length ≤ 1100 := by
  have h1 := packX_le g
  unfold packX at h1
  rw [if_pos h] at h1
  unfold packH at h1
  have h2 : g.snaps.flatMap snB = (g.snaps.take j).flatMap snB ++ (g.snaps.drop j).flatMap snB := by
    rw [← List.flatMap_append, List.take_append_drop]
  rw [h2] at h1
  simp only [List.length_append] at h1 ⊢
  omega

set_option maxRecDepth 10000 in
set_option maxHeartbeats 8000000 in
theorem Pack6 (U C O sz : Int) (Am : Option Addr) (nm cm : Nat) (As : Option Addr) (ns cs : Nat) (last seq : Int) (m : List Int) (ss : List Sn) (w : World) (hm : RdI w w.heap.size Am nm m) (hr : RdN w w.heap.size As ns ss) (hn : nm ≤ 3000) (hs : ns ≤ 12) (hmm : ∀ s ∈ ss, s.map.length ≤ 3000) :
    BF 23 #[hV U C O sz Am nm cm As ns cs last seq] w (packX ⟨U, C, O, sz, m, ss, last, seq⟩) := by
  have Hm := Lib.hid hm
  have Hr := Lib.hid hr
  have Hmm := Lib.hid hmm
  have Hlen := Lib.hid hr.1
  have Hb := alB6 w (.cells #[.int .i64 U, .int .i64 C, .int .i64 O, .int .i64 sz, .slice Am nm cm, .slice As ns cs, .int .i64 last, .int .i64 seq] 27)
  have Hh := Lib.hid (heap_alloc_new w (.cells #[.int .i64 U, .int .i64 C, .int .i64 O, .int .i64 sz, .slice Am nm cm, .slice As ns cs, .int .i64 last, .int .i64 seq] 27))
  have Hpx := Lib.hid (packX_le ⟨U, C, O, sz, m, ss, last, seq⟩)
  clear hr hm hmm
  go_enter Try.func23, Try.ntmps23
  go_upto_region 1 with fail
  generalize w.alloc (.cells #[.int .i64 U, .int .i64 C, .int .i64 O, .int .i64 sz, .slice Am nm cm, .slice As ns cs, .int .i64 last, .int .i64 seq] 27) = w1 at Hb Hh ⊢
  obtain ⟨b, hbe⟩ : ∃ b, b = w.heap.size := ⟨_, rfl⟩
  have Hbw := Lib.hid (show w.heap.size ≤ b by omega)
  rw [← hbe] at Hh ⊢
  clear hbe
  obtain ⟨c0, c1, c2, c3, c4, c5, c6, c7⟩ := heads_of Hh.out
  have HC := Lib.hid (Check6 U C O sz Am nm cm As ns cs last seq m ss w1 ((Hm.out.below Hb.out).more Hb.out.size) ((Hr.out.below Hb.out).more Hb.out.size) hn hs Hmm.out)
  by_cases hM : MayH ⟨U, C, O, sz, m, ss, last, seq⟩
  · have HE0 := Lib.hid (show mayE ⟨U, C, O, sz, m, ss, last, seq⟩ = 0 by unfold mayE; rw [if_pos hM])
    rw [HE0.out] at HC
    have HX := Lib.hid (show packX ⟨U, C, O, sz, m, ss, last, seq⟩ = headB ⟨U, C, O, sz, m, ss, last, seq⟩ ++ ss.flatMap snB by unfold packX; rw [if_pos hM]; rfl)
    have Htk := Lib.hid (fun j => tk_le ⟨U, C, O, sz, m, ss, last, seq⟩ hM j)
    obtain ⟨L1, L2, L3, L4, L5, L6, L7, L8, hL⟩ := PkL.mk6 ⟨U, C, O, sz, m, ss, last, seq⟩
    have Hl := Lib.hid hL
    obtain ⟨hU1, hC1, hC2, hU2, hO, _⟩ := hM.1
    have hl2 := hM.2.2.2.1
    have hs2 := hM.2.2.2.2.1
    have hz2 : 0 ≤ sz ∧ sz ≤ 512 := ⟨hM.2.1.1, hM.2.1.2.1⟩
    have hl2 : 0 ≤ last ∧ last ≤ 100 := hl2
    have hs2 : 0 ≤ seq ∧ seq ≤ 1099511627776 := hs2
    have hU1 : 1 ≤ U := hU1
    have hC1 : 1 ≤ C := hC1
    have hC2 : C ≤ 8 := hC2
    have hU2 : U ≤ O := hU2
    have hO : O ≤ 64 := hO
    have Hsn := Lib.hid (show snsP U C O last 0 ss from hM.2.2.2.2.2)
    obtain ⟨L0, hL0⟩ : ∃ L0 : List UInt8, L0 = [] := ⟨_, rfl⟩
    rw [← hL0] at Hl
    have HL0 := Lib.hid hL0
    clear HE0 hM hL hL0
    go_wp2_with fail
    refine HC.out.mono ?_
    rintro e w2 ⟨rfl, hb⟩
    replace Hh := blk_keep Hh hb
    replace Hb := belO6 Hb hb
    clear hb HC c0 c1 c2 c3 c4 c5 c6 c7
    have Hal := alB6 w2 (.cells #[.slice none 0 0] 39)
    have Hnew := Lib.hid (heap_alloc_new w2 (.cells #[.slice none 0 0] 39))
    have HPw0 := Lib.hid (And.intro Hb.out.size (lt_of_block Hh.out))
    go_upto_region 6 with fail
    replace Hh := blk_keep Hh Hal
    replace Hb := belO6 Hb Hal
    generalize w2.alloc (.cells #[.slice none 0 0] 39) = w3 at Hh Hb Hnew ⊢
    obtain ⟨P, hP⟩ : ∃ P, P = w2.heap.size := ⟨_, rfl⟩
    rw [← hP] at Hnew HPw0 ⊢
    have HPw := Lib.hid (show w.heap.size ≤ P ∧ b ≠ P from ⟨HPw0.out.1, by have := HPw0.out.2; omega⟩)
    have HB : Hid (BufP w3 P L0) := ⟨none, 0, 0, Hnew.out, by rw [HL0.out]; exact World.ownsRow_nil _ _ _ _⟩
    clear hP Hal Hnew HPw0
    have c0 := (heads_of Hh.out).1
    go_wp2_with fail
    refine (pk1 P L0 1 U w3 HB.out Hl.out.l0 (by omega)).mono ?_
    rintro e w4 ⟨rfl, hb, hg⟩
    have Hb4 := Lib.hid (Hb.out.grown hg.out Hb.out.size (fun q e => by cases e; exact HPw.out.1))
    have Hh4 := Lib.hid (gb_keep hg.out HPw.out.2 Hh.out)
    replace HB : Hid (BufP w4 P L1) := by rw [Hl.out.e0]; exact hb.out
    clear hb hg c0 Hh Hb
    have Hh := Hh4
    have Hb := Hb4
    clear Hh4 Hb4
    have c1 := (heads_of Hh.out).2.1
    go_wp2_with fail
    refine (pk1 P L1 1 C w4 HB.out Hl.out.l1 (by omega)).mono ?_
    rintro e w5 ⟨rfl, hb, hg⟩
    have Hb5 := Lib.hid (Hb.out.grown hg.out Hb.out.size (fun q e => by cases e; exact HPw.out.1))
    have Hh5 := Lib.hid (gb_keep hg.out HPw.out.2 Hh.out)
    replace HB : Hid (BufP w5 P L2) := by rw [Hl.out.e1]; exact hb.out
    clear hb hg c1 Hh Hb
    have Hh := Hh5
    have Hb := Hb5
    clear Hh5 Hb5
    have c2 := (heads_of Hh.out).2.2.1
    go_wp2_with fail
    refine (pk1 P L2 1 O w5 HB.out Hl.out.l2 (by omega)).mono ?_
    rintro e w6 ⟨rfl, hb, hg⟩
    have Hb6 := Lib.hid (Hb.out.grown hg.out Hb.out.size (fun q e => by cases e; exact HPw.out.1))
    have Hh6 := Lib.hid (gb_keep hg.out HPw.out.2 Hh.out)
    replace HB : Hid (BufP w6 P L3) := by rw [Hl.out.e2]; exact hb.out
    clear hb hg c2 Hh Hb
    have Hh := Hh6
    have Hb := Hb6
    clear Hh6 Hb6
    have c6 := (heads_of Hh.out).2.2.2.2.2.2.1
    go_wp2_with fail
    refine (pk1 P L3 1 last w6 HB.out Hl.out.l3 (by omega)).mono ?_
    rintro e w7 ⟨rfl, hb, hg⟩
    have Hb7 := Lib.hid (Hb.out.grown hg.out Hb.out.size (fun q e => by cases e; exact HPw.out.1))
    have Hh7 := Lib.hid (gb_keep hg.out HPw.out.2 Hh.out)
    replace HB : Hid (BufP w7 P L4) := by rw [Hl.out.e3]; exact hb.out
    clear hb hg c6 Hh Hb
    have Hh := Hh7
    have Hb := Hb7
    clear Hh7 Hb7
    have c3 := (heads_of Hh.out).2.2.2.1
    go_wp2_with fail
    refine (pk1 P L4 2 sz w7 HB.out Hl.out.l4 (by omega)).mono ?_
    rintro e w8 ⟨rfl, hb, hg⟩
    have Hb8 := Lib.hid (Hb.out.grown hg.out Hb.out.size (fun q e => by cases e; exact HPw.out.1))
    have Hh8 := Lib.hid (gb_keep hg.out HPw.out.2 Hh.out)
    replace HB : Hid (BufP w8 P L5) := by rw [Hl.out.e4]; exact hb.out
    clear hb hg c3 Hh Hb
    have Hh := Hh8
    have Hb := Hb8
    clear Hh8 Hb8
    have c7 := (heads_of Hh.out).2.2.2.2.2.2.2
    go_wp2_with fail
    refine (pk1 P L5 6 seq w8 HB.out Hl.out.l5 (by omega)).mono ?_
    rintro e w9 ⟨rfl, hb, hg⟩
    have Hb9 := Lib.hid (Hb.out.grown hg.out Hb.out.size (fun q e => by cases e; exact HPw.out.1))
    have Hh9 := Lib.hid (gb_keep hg.out HPw.out.2 Hh.out)
    replace HB : Hid (BufP w9 P L6) := by rw [Hl.out.e5]; exact hb.out
    clear hb hg c7 Hh Hb
    have Hh := Hh9
    have Hb := Hb9
    clear Hh9 Hb9
    have c4 := (heads_of Hh.out).2.2.2.2.1
    go_wp2_with fail
    refine (pk2 P L6 Am nm cm m w9 HB.out Hl.out.l6 ⟨(Hm.out.below Hb.out).more Hb.out.size, hn⟩).mono ?_
    rintro e w10 ⟨rfl, hb, hg⟩
    have Hb10 := Lib.hid (Hb.out.grown hg.out Hb.out.size (fun q e => by cases e; exact HPw.out.1))
    have Hh10 := Lib.hid (gb_keep hg.out HPw.out.2 Hh.out)
    replace HB : Hid (BufP w10 P L7) := by rw [Hl.out.e6]; exact hb.out
    clear hb hg c4 Hh Hb
    have c5 := (heads_of Hh10.out).2.2.2.2.2.1
    go_wp2_with fail
    refine (pk1 P L7 1 (ns : Int) w10 HB.out Hl.out.l7 (by omega)).mono ?_
    rintro e w11 ⟨rfl, hb, hg⟩
    have Hb := Lib.hid (Hb10.out.grown hg.out Hb10.out.size (fun q e => by cases e; exact HPw.out.1))
    have Hh := Lib.hid (gb_keep hg.out HPw.out.2 Hh10.out)
    replace HB : Hid (BufP w11 P (headB ⟨U, C, O, sz, m, ss, last, seq⟩ ++ (ss.take 0).flatMap snB)) := by
      have e : L8 = L7 ++ numB 1 (ns : Int) := by rw [← Hlen.out]; exact Hl.out.e7
      show BufP _ _ _
      rw [List.take_zero, List.flatMap_nil, List.append_nil, ← Hl.out.e8, e]
      exact hb.out
    clear hb hg c5 Hh10 Hb10 Hl HL0
    obtain ⟨vs, e1, e2, e3, e4⟩ := Hr.out.cells
    have E1 := Lib.hid e1
    have E2 := Lib.hid e2
    have E3 := Lib.hid e3
    have E4 := Lib.hid e4
    clear e1 e2 e3 e4
    have c5 := (heads_of Hh.out).2.2.2.2.2.1
    go_wp2_with fail
    clear c5
    go_loopw [52] (fun iv wr => ∃ j : Nat, j ≤ ns ∧ iv = .int .i64 (j : Int) ∧ Hid (BufP wr P (headB ⟨U, C, O, sz, m, ss, last, seq⟩ ++ (ss.take j).flatMap snB)) ∧ Hid (wr.heap[b]? = some (.cells #[.int .i64 U, .int .i64 C, .int .i64 O, .int .i64 sz, .slice Am nm cm, .slice As ns cs, .int .i64 last, .int .i64 seq] 27 (0, 0))) ∧ Hid (Below w.heap.size w wr)) (fun iv _ => ns - (intOf iv).toNat)
    case atStart => exact ⟨0, Nat.zero_le _, rfl, HB, Hh, Hb⟩
    case round =>
      clear HB Hh Hb
      obtain ⟨j, hj, rfl, HB, Hh, Hb⟩ := hrel
      have Hlj := Lib.hid (Htk.out j)
      by_cases hjn : j < ns
      · have hjl : j < vs.length := by rw [E2.out]; exact hjn
        have hjs : j < ss.length := by rw [Hlen.out]; exact hjn
        obtain ⟨g, o, rfl, hg, x0, x1, x2⟩ := E4.out j hjl
        have hse : vs[j].s = ss[j] := by have := E1.out; subst this; simp
        have Hst := Lib.hid (show (ss.take (j + 1)).flatMap snB = (ss.take j).flatMap snB ++ (numB 1 vs[j].s.id ++ numB 2 vs[j].s.size ++ blobB (packO vs[j].s.map)) by rw [List.take_succ_eq_append_getElem hjs, List.flatMap_append, ← hse]; simp [snB])
        have hbd : 0 < vs[j].s.id ∧ vs[j].s.id ≤ 100 ∧ 0 ≤ vs[j].s.size ∧ vs[j].s.size ≤ 512 := by
          have h := Hsn.out
          rw [show ss = ss.take j ++ ss[j] :: ss.drop (j + 1) by rw [← List.drop_eq_getElem_cons hjs, List.take_append_drop], sns_app] at h
          obtain ⟨_, q1, q2, q3, _⟩ := h
          have q4 := sns_lt Hsn.out ss[j] (List.getElem_mem hjs)
          rw [hse]
          exact ⟨q4, by omega, q3.1, q3.2.1⟩
        have Hsrc := Lib.hid (E3.out _ (List.getElem_mem hjl)).1
        have Hln := Lib.hid (Hmm.out ss[j] (List.getElem_mem hjs))
        rw [← hse] at Hln
        replace x0 := (Hb.out.cell (p := ⟨g, o + j * 3, none⟩) hg).trans x0
        replace x1 := (Hb.out.cell (p := ⟨g, o + j * 3 + 1, none⟩) hg).trans x1
        replace x2 := (Hb.out.cell (p := ⟨g, o + j * 3 + 2, none⟩) hg).trans x2
        clear hse
        generalize vs[j] = p at x0 x1 x2 Hst hbd Hsrc Hln
        clear hjl hjs
        obtain ⟨⟨x, y, mp⟩, Aj, nj, cj⟩ := p
        have x0 : wr.cell? ⟨g, o + j * 3, none⟩ = some (.int .i64 x) := x0
        have x1 : wr.cell? ⟨g, o + j * 3 + 1, none⟩ = some (.int .i64 y) := x1
        have x2 : wr.cell? ⟨g, o + j * 3 + 2, none⟩ = some (.slice Aj nj cj) := x2
        replace Hst : Hid ((ss.take (j + 1)).flatMap snB = (ss.take j).flatMap snB ++ (numB 1 x ++ numB 2 y ++ blobB (packO mp))) := Hst
        obtain ⟨hx1, hx2, hy1, hy2⟩ : 0 < x ∧ x ≤ 100 ∧ 0 ≤ y ∧ y ≤ 512 := hbd
        replace Hsrc : Hid (RdI w w.heap.size Aj nj mp) := Hsrc
        have hnj : nj ≤ 3000 := by have h := Hsrc.out.1; have h2 : mp.length ≤ 3000 := Hln.out; omega
        have hj0 : (0 : Int) ≤ (j : Int) := by omega
        have hj1 : (j : Int) < (ns : Int) := by omega
        have c5 := (heads_of Hh.out).2.2.2.2.2.1
        have Hal := alB6 wr (.cells #[.int .i64 x, .int .i64 y, .slice Aj nj cj] 52)
        have Hsx := Lib.hid (heap_alloc_new wr (.cells #[.int .i64 x, .int .i64 y, .slice Aj nj cj] 52))
        have HPl := Lib.hid (show P < wr.heap.size by obtain ⟨_, _, _, h, _⟩ := HB.out; exact lt_of_block h)
        go_upto_region 17 with fail
        replace HB := Lib.hid (HB.out.to Hal.out)
        replace Hh := blk_keep Hh Hal
        replace Hb := belO6 Hb Hal
        generalize wr.alloc (.cells #[.int .i64 x, .int .i64 y, .slice Aj nj cj] 52) = w20 at Hsx HB Hh Hb ⊢
        obtain ⟨sb, hsb⟩ : ∃ sb, sb = wr.heap.size := ⟨_, rfl⟩
        rw [← hsb] at Hsx HPl ⊢
        have Hsp := Lib.hid (show sb ≠ P by have := HPl.out; omega)
        clear hsb x0 x1 x2 c5 Hal HPl
        obtain ⟨L, hL⟩ : ∃ L, L = headB ⟨U, C, O, sz, m, ss, last, seq⟩ ++ (ss.take j).flatMap snB := ⟨_, rfl⟩
        rw [← hL] at HB Hlj
        have HLe := Lib.hid hL
        clear hL
        have s0 := (three_of Hsx.out).1
        go_wp2_with fail
        refine (pk1 P L 1 x w20 HB.out (by have := Hlj.out; omega) (by omega)).mono ?_
        rintro e w21 ⟨rfl, HB1, hg1⟩
        have Hb1 := Lib.hid (Hb.out.grown hg1.out Hb.out.size (fun q e => by cases e; exact HPw.out.1))
        have Hh1 := Lib.hid (gb_keep hg1.out HPw.out.2 Hh.out)
        have Hs1 := Lib.hid (gb_keep hg1.out Hsp.out Hsx.out)
        clear s0 hg1 Hb Hh Hsx HB
        have s1 := (three_of Hs1.out).2.1
        have Hl1 := Lib.hid (show (L ++ numB 1 x).length ≤ 100000 by have := Hlj.out; have h1 : fitW 1 = 1 := by decide
                                                                     rw [List.length_append, numB_length]; omega)
        go_wp2_with fail
        refine (pk1 P (L ++ numB 1 x) 2 y w21 HB1.out Hl1.out (by omega)).mono ?_
        rintro e w22 ⟨rfl, HB2, hg2⟩
        have Hb2 := Lib.hid (Hb1.out.grown hg2.out Hb1.out.size (fun q e => by cases e; exact HPw.out.1))
        have Hh2 := Lib.hid (gb_keep hg2.out HPw.out.2 Hh1.out)
        have Hs2 := Lib.hid (gb_keep hg2.out Hsp.out Hs1.out)
        clear s1 hg2 Hb1 Hh1 Hs1 HB1 Hl1
        have s2 := (three_of Hs2.out).2.2
        have Hl2 := Lib.hid (show (L ++ numB 1 x ++ numB 2 y).length ≤ 100000 by have := Hlj.out; have h1 : fitW 1 = 1 := by decide
                                                                                 have h2 : fitW 2 = 2 := by decide
                                                                                 rw [List.length_append, List.length_append, numB_length, numB_length]; omega)
        go_wp2_with fail
        refine (pk2 P (L ++ numB 1 x ++ numB 2 y) Aj nj cj mp w22 HB2.out Hl2.out ⟨(Hsrc.out.below Hb2.out).more Hb2.out.size, hnj⟩).mono ?_
        rintro e w23 ⟨rfl, HB3, hg3⟩
        have Hb3 := Lib.hid (Hb2.out.grown hg3.out Hb2.out.size (fun q e => by cases e; exact HPw.out.1))
        have Hh3 := Lib.hid (gb_keep hg3.out HPw.out.2 Hh2.out)
        clear s2 hg3 Hb2 Hh2 Hs2 HB2 Hl2
        go_wp2_with fail
        go_roundw
        case rel => exact ⟨j + 1, by omega, by go_num, by rw [Hst.out, ← List.append_assoc, ← HLe.out, ← List.append_assoc, ← List.append_assoc]; exact HB3, Hh3, Hb3⟩
        case measure => simp [intOf]; omega
      · obtain rfl : j = ns := by omega
        replace HB := Lib.hid (show BufP wr P (packX ⟨U, C, O, sz, m, ss, last, seq⟩) by have h := HB.out; rwa [List.take_of_length_le (by rw [Hlen.out]; exact Nat.le_refl _), ← HX.out] at h)
        obtain ⟨A, n, c, hh, hown⟩ := HB.out
        have k0 : wr.cell? ⟨P, 0, none⟩ = some (.slice A n c) := by rw [cell_blk hh]; rfl
        have hl1 : n = (packX ⟨U, C, O, sz, m, ss, last, seq⟩).length := by have := hown.1; simp at this; omega
        have Hown := Lib.hid hown
        have Hl1 := Lib.hid hl1
        have Hk := Lib.hid (show n ≤ c ∧ c ≤ maxLen by obtain ⟨_, _, e, h1, h2⟩ := ownI hown; cases e; exact ⟨h1, h2⟩)
        clear hh hown hl1
        go_wp2_with fail
        go_ret
        exact ⟨A, n, c, rfl, ⟨Rd.own Hown.out, Hk.out.1, by have := Hk.out.2; simpa [maxLen] using this, by have := Hl1.out; have := Hpx.out; omega⟩, Hb⟩
  · have HE0 := Lib.hid (show mayE ⟨U, C, O, sz, m, ss, last, seq⟩ = 60 by unfold mayE; rw [if_neg hM])
    have HX := Lib.hid (show packX ⟨U, C, O, sz, m, ss, last, seq⟩ = [] by unfold packX; rw [if_neg hM])
    rw [HE0.out] at HC
    clear HE0 hM
    go_wp2_with fail
    refine HC.out.mono ?_
    rintro e w2 ⟨rfl, hb⟩
    replace Hb := belO6 Hb hb
    clear hb HC c0 c1 c2 c3 c4 c5 c6 c7 Hh
    go_wp2_with fail
    go_ret
    exact ⟨none, 0, 0, rfl, by rw [HX.out]; exact ⟨Rd.nil, by omega, by omega, by omega⟩, Hb⟩
end Go.Proofs.Ytaobdebeglenaaa

namespace Go.Proofs.Ytaobdebeglenaaa
open Go.RowKit

/-- the program reads all snapshots, whether there is an error or not -/
def goQ : Nat → List UInt8 × Int → List Sn → List Sn × (List UInt8 × Int)
  | 0, s, a => (a, s)
  | k + 1, s, a => goQ k (sS s) (a ++ [sV s])
theorem hS_stay {s : List UInt8 × Int} (h : s.2 ≠ 0) (w : Int) : hS s w = s := by unfold hS rdNum; rw [if_pos h]
theorem tS_stay {s : List UInt8 × Int} (h : s.2 ≠ 0) : tS s = s := by
  have e : rdBlob s.1 s.2 200 = ([], s.1, s.2) := by unfold rdBlob; rw [if_pos h]
  unfold tS rdTab
  rw [e]
  simp only [if_pos h]
theorem sS_stay {s : List UInt8 × Int} (h : s.2 ≠ 0) : sS s = s := by
  unfold sS
  rw [hS_stay h, hS_stay h, tS_stay h]
theorem goQ_err {s : List UInt8 × Int} (h : s.2 ≠ 0) : ∀ (k : Nat) (a : List Sn), (goQ k s a).2 = s
  | 0, _ => rfl
  | k + 1, a => by
    unfold goQ
    rw [sS_stay h]
    exact goQ_err h k _
/-- what both ways of reading come to is one state -/
theorem goQ_state : ∀ (k : Nat) (s : List UInt8 × Int) (a : List Sn), (goQ k s a).2 = (goN k s a).2 ∧ ((goN k s a).2.2 = 0 → goQ k s a = goN k s a)
  | 0, _, _ => ⟨rfl, fun _ => rfl⟩
  | k + 1, s, a => by
    by_cases h : s.2 = 0
    · unfold goQ goN
      rw [if_pos h]
      exact goQ_state k _ _
    · have e : goN (k + 1) s a = (a, s) := by unfold goN; rw [if_neg h]
      rw [e, goQ_err h]
      exact ⟨rfl, fun q => absurd q h⟩
/-- what the program reads -/
def unP (b : List UInt8) : List Sn × (List UInt8 × Int) := if 4 < hN (s7 b) 1 then ([], fS (hS (s7 b) 1) 11) else goQ (hN (s7 b) 1).toNat (hS (s7 b) 1) []
theorem unP_unG (b : List UInt8) : (unP b).2 = (unG b).2 ∧ ((unG b).2.2 = 0 → (unP b).1 = (unG b).1) := by
  unfold unP unG s9
  by_cases h : 4 < hN (s7 b) 1
  · rw [if_pos h, if_pos h]
    obtain ⟨k, hk⟩ : ∃ k, (hN (s7 b) 1).toNat = k + 1 := ⟨(hN (s7 b) 1).toNat - 1, by omega⟩
    have hne : (fS (hS (s7 b) 1) 11).2 ≠ 0 := by
      show failE _ 11 ≠ 0
      unfold failE
      split
      · decide
      · assumption
    rw [hk]
    unfold goN
    rw [if_neg hne]
    exact ⟨rfl, fun _ => rfl⟩
  · rw [if_neg h, if_neg h]
    have := goQ_state (hN (s7 b) 1).toNat (hS (s7 b) 1) []
    exact ⟨this.1, fun q => by rw [this.2 q]⟩

/-- a reader of the program -/
def PRef (w : World) (R : Nat) (s : List UInt8 × Int) : Prop := Rdr w R s.1 s.2
theorem PRef.to {w w' : World} {R : Nat} {s : List UInt8 × Int} (h : PRef w R s) (hb : Below w.heap.size w w') : PRef w' R s := Rdr.below h hb
set_option maxRecDepth 10000 in
theorem PRef.blk {w : World} {R : Nat} {s : List UInt8 × Int} (h : PRef w R s) : ∃ cs, w.heap[R]? = some (.cells cs 90 (0, 0)) := by
  obtain ⟨A, n, c, h1, _⟩ := h
  exact ⟨_, h1⟩
theorem PRef.far {w : World} {R : Nat} {s : List UInt8 × Int} (h : PRef w R s) (p : Addr) (hp : R < p.block) (u : Value) : PRef (w.setCell p u) R s := by
  obtain ⟨A, n, c, h1, h2, h3, h4⟩ := h
  exact ⟨A, n, c, (Below.heap_setCell w p u R (by omega)).trans h1, h2, h3, h4.keep fun q hq => World.cell?_setCell_other w _ _ _ (fun e => by subst e; omega)⟩
theorem PRef.grown {w w' : World} {R g : Nat} {s : List UInt8 × Int} (h : PRef w R s) (hg : w.grownBy w' (some g)) (hp : R < g) : PRef w' R s := by
  obtain ⟨A, n, c, h1, h2, h3, h4⟩ := h
  exact ⟨A, n, c, gb_keep hg (by omega) h1, h2, h3, h4.keep fun q hq => World.cell?_of_block (hg.block q.block (by have := lt_of_block h1; omega) (fun e => by simp at e; omega))⟩
abbrev rNum (R : Nat) : Value := .func (.func 42) #[.pointer (some ⟨R, 0, none⟩)] #[]
abbrev rBlob (R : Nat) : Value := .func (.func 43) #[.pointer (some ⟨R, 0, none⟩)] #[]
abbrev rFail (R : Nat) : Value := .func (.func 44) #[.pointer (some ⟨R, 0, none⟩)] #[]
set_option maxRecDepth 10000 in
theorem PNum6 (R : Nat) (s : List UInt8 × Int) (width : Int) (w : World) (h : PRef w R s) :
    Calls Try.prog 42 #[.pointer (some ⟨R, 0, none⟩), .int .i64 width] w fun r w' => r = .returned (.int .i64 (hN s width)) ∧ PRef w' R (hS s width) ∧ w.grownBy w' (some R) := RNum_any R s.1 s.2 width w h
set_option maxRecDepth 10000 in
theorem PFail6 (R : Nat) (s : List UInt8 × Int) (x : Int) (w : World) (h : PRef w R s) :
    Calls Try.prog 44 #[.pointer (some ⟨R, 0, none⟩), .int .i64 x] w fun r w' => r = .returned (.tuple #[]) ∧ PRef w' R (fS s x) ∧ w.grownBy w' (some R) := Fail_any R s.1 s.2 x w h
theorem tab_of {s : List UInt8 × Int} {x l1 : List UInt8} {e1 : Int} (h : rdBlob s.1 s.2 200 = (x, l1, e1)) : tM s = (unO x).getD [] ∧ tS s = if (unO x).isSome then (l1, e1) else (l1, failE e1 11) := by
  unfold tM tS rdTab
  rw [h]
  by_cases he : e1 = 0
  · subst he
    simp only [ne_eq, not_true_eq_false, if_false]
    cases unO x with
    | some m => exact ⟨rfl, rfl⟩
    | none => exact ⟨rfl, rfl⟩
  · have hx : x = [] := by
      unfold rdBlob at h
      split at h
      · cases h; rfl
      · split at h
        · cases h; rfl
        · cases h; exact absurd rfl he
    subst hx
    have hu : unO [] = none := by decide +kernel
    simp only [ne_eq, he, not_false_eq_true, if_true, hu]
    exact ⟨rfl, by simp [failE, he]⟩

set_option maxRecDepth 10000 in
set_option maxHeartbeats 2000000 in
theorem PTab6 (R : Nat) (s : List UInt8 × Int) (w : World) (h : PRef w R s) :
    Calls Try.prog 73 #[rBlob R, rFail R] w fun r w' => ∃ A n c, r = .returned (.slice A n c) ∧ Hid (MapAt w' w.heap.size A n (tM s)) ∧ Hid (PRef w' R (tS s)) ∧ Hid (w.grownBy w' (some R)) := by
  have HB := Lib.hid (RBlob_any R s.1 s.2 200 w h)
  have Hl := Lib.hid (rdBlob_len s.1 s.2 200)
  obtain ⟨q, hq⟩ : ∃ q, q = rdBlob s.1 s.2 200 := ⟨_, rfl⟩
  rw [← hq] at HB Hl
  obtain ⟨x, l1, e1⟩ := q
  obtain ⟨t1, t2⟩ := tab_of hq.symm
  have T1 := Lib.hid t1
  have T2 := Lib.hid t2
  have Hx : Hid (x.length ≤ 200) := by have h := Hl.out; dsimp only at h; show _ ≤ _; omega
  clear hq t1 t2 h Hl
  have HB : Hid (Calls Try.prog 43 #[.pointer (some ⟨R, 0, none⟩), .int .i64 200] w fun r w' => OutG w R x r w' ∧ PRef w' R (l1, e1)) := HB
  obtain ⟨n, hn⟩ : ∃ n, n = x.length := ⟨_, rfl⟩
  have Hn := Lib.hid hn
  clear hn
  cases hu : unO x with
  | none =>
    have HU := Lib.hid hu
    clear hu
    go_enter Try.func73, Try.ntmps73
    go_wp2_with fail
    refine HB.out.mono ?_
    rintro r w1 ⟨⟨A, c, rfl, hqc, hcm, hrd, hg⟩, href⟩
    rw [← Hn.out] at hqc hrd ⊢
    have Hrd := Lib.hid (show BAt w1 A n c x from ⟨hrd, hqc, by simpa [maxLen] using hcm, by have := Hx.out; have := Hn.out; omega⟩)
    have Hg := Lib.hid hg
    have Hr := Lib.hid href
    have HUn := Lib.hid (hUnpack c Hrd (by have := Hx.out; have := Hn.out; omega))
    clear hqc hcm hrd hg href HB
    go_wp2_with fail
    refine HUn.out.mono ?_
    rintro r w2 ⟨A2, n2, c2, rfl, h2, hb2⟩
    rw [HU.out] at h2 ⊢
    have H0 : Hid (n2 = 0) := h2.out.1.1.symm
    have Hr2 := Lib.hid (Hr.out.to hb2.out)
    have Hg2 := Lib.hid (grownBy_trans Hg.out (grown_of hb2.out (some R)))
    have hs2 : (none : Option (List Int)).isSome = false := rfl
    rw [hs2]
    clear h2 hb2 hs2 HUn
    go_wp2_with fail
    refine (PFail6 R (l1, e1) 11 w2 Hr2.out).mono ?_
    rintro r w3 ⟨rfl, hr3, hg3⟩
    have Hr3 := Lib.hid hr3
    have Hg3 := Lib.hid (grownBy_trans Hg2.out hg3)
    clear hr3 hg3
    go_wp2_with fail
    go_ret
    exact ⟨A2, n2, c2, rfl, by rw [H0.out, T1.out, HU.out]; exact ⟨RdI.nil, by omega, NewA.nil _ _ _ _⟩, by rw [T2.out, HU.out]; exact Hr3, Hg3⟩
  | some m =>
    have HU := Lib.hid hu
    clear hu
    go_enter Try.func73, Try.ntmps73
    go_wp2_with fail
    refine HB.out.mono ?_
    rintro r w1 ⟨⟨A, c, rfl, hqc, hcm, hrd, hg⟩, href⟩
    rw [← Hn.out] at hqc hrd ⊢
    have Hg := Lib.hid hg
    have Hr := Lib.hid href
    have HUn := Lib.hid (PUnpack A n c x w1 hrd (by have := Hx.out; have := Hn.out; omega) hqc)
    clear hqc hcm hrd hg href HB
    go_wp2_with fail
    refine HUn.out.mono ?_
    rintro r w2 ⟨A2, n2, c2, rfl, h2, h3, hb2⟩
    rw [HU.out] at h2 ⊢
    have Hm2 := Lib.hid (show MapAt w2 w.heap.size A2 n2 m from ⟨h2, h3.1, h3.2.less Hg.out.size⟩)
    have Hr2 := Lib.hid (Hr.out.to hb2)
    have Hg2 := Lib.hid (grownBy_trans Hg.out (grown_of hb2 (some R)))
    have hs2 : (some m : Option (List Int)).isSome = true := rfl
    rw [hs2]
    clear h2 h3 hb2 hs2 HUn
    go_wp2_with fail
    go_ret
    exact ⟨A2, n2, c2, rfl, by rw [T1.out, HU.out]; exact Hm2, by rw [T2.out, HU.out]; exact Hr2, Hg2⟩
end Go.Proofs.Ytaobdebeglenaaa

namespace Go.Proofs.Ytaobdebeglenaaa
open Go.RowKit

def zeroSv : Sv := ⟨⟨0, 0, []⟩, none, 0, 0⟩
set_option maxRecDepth 10000 in
theorem mk_snaps (N : Nat) (hN : N ≤ 4) (w : World) : (Instr.makeSlice 25 (.int .i64 (N : Int)) (.int .i64 (N : Int))).run Try.prog w = .ok (.slice (some ⟨w.heap.size, 0, none⟩) N N) (w.alloc (.cells (madeCells #[.int .i64 0, .int .i64 0, .slice none 0 0] (N * 3)) 52)) := by
  obtain ⟨inf, hi, hz0, hz1, hz2⟩ := info_parts Try.infoN
  have hr := run_make (P := Try.prog) w 25 52 inf _ Try.underlying25 hi hz0 .i64 .i64 N N (by omega) (by omega) (by rw [hz2]; omega) (by omega)
  have hc : (Value.agg #[.int .i64 0, .int .i64 0, .slice none 0 0]).cells = #[.int .i64 0, .int .i64 0, .slice none 0 0] := by first | rfl | simp [Value.cells] | kernel_rfl
  simpa only [Int.toNat_natCast, hz1, hc] using hr
theorem made_flat : ∀ N, N ≤ 4 → (madeCells #[.int .i64 0, .int .i64 0, .slice none 0 0] (N * 3)).toList = flatN (List.replicate N zeroSv)
  | 0, _ => by kernel_rfl
  | 1, _ => by kernel_rfl
  | 2, _ => by kernel_rfl
  | 3, _ => by kernel_rfl
  | 4, _ => by kernel_rfl
  | _ + 5, h => by omega
set_option maxRecDepth 10000 in
theorem own_snaps (N : Nat) (hN : N ≤ 4) (w : World) : (w.alloc (.cells (madeCells #[.int .i64 0, .int .i64 0, .slice none 0 0] (N * 3)) 52)).ownsRow w.heap.size 52 3 (.slice (some ⟨w.heap.size, 0, none⟩) N N) N (flatN (List.replicate N zeroSv)) := by
  refine ⟨by rw [flatN_len, List.length_replicate], .inr ⟨w.heap.size, N, _, rfl, Nat.le_refl _, heap_alloc_new w _, Nat.le_refl _, by simp only [maxLen]; omega, by rw [size_madeCells], ?_⟩⟩
  rw [made_flat N hN, List.take_of_length_le (by rw [flatN_len, List.length_replicate]; exact Nat.le_refl _)]
theorem flatN_put0 (us vr : List Sv) (p : Sv) (j : Nat) (x : Int) (hl : us.length = j) : (flatN (us ++ p :: vr)).set (j * 3) (.int .i64 x) = flatN (us ++ ⟨⟨x, p.s.size, p.s.map⟩, p.A, p.n, p.c⟩ :: vr) := by
  have h : (flatN us).length = j * 3 := by rw [flatN_len, hl]
  rw [flatN_app, flatN_app, set_off0 _ _ _ _ h]
  rfl
theorem flatN_put1 (us vr : List Sv) (p : Sv) (j : Nat) (x : Int) (hl : us.length = j) : (flatN (us ++ p :: vr)).set (j * 3 + 1) (.int .i64 x) = flatN (us ++ ⟨⟨p.s.id, x, p.s.map⟩, p.A, p.n, p.c⟩ :: vr) := by
  have h : (flatN us).length = j * 3 := by rw [flatN_len, hl]
  rw [flatN_app, flatN_app, set_off _ _ _ _ _ h]
  rfl
set_option maxRecDepth 10000 in
theorem own_put0 {w : World} {B g n c j : Nat} {us vr : List Sv} {p : Sv} (h : w.ownsRow B 52 3 (.slice (some ⟨g, 0, none⟩) n c) n (flatN (us ++ p :: vr))) (hl : us.length = j) (x : Int) :
    (w.setCell ⟨g, j * 3, none⟩ (.int .i64 x)).ownsRow B 52 3 (.slice (some ⟨g, 0, none⟩) n c) n (flatN (us ++ ⟨⟨x, p.s.size, p.s.map⟩, p.A, p.n, p.c⟩ :: vr)) ∧ w.grownBy (w.setCell ⟨g, j * 3, none⟩ (.int .i64 x)) (some g) := by
  obtain ⟨h1, h2⟩ := World.ownsRow.stored h (j * 3) (.int .i64 x)
  rw [flatN_put0 us vr p j x hl] at h1
  exact ⟨h1, h2⟩
set_option maxRecDepth 10000 in
theorem own_put1 {w : World} {B g n c j : Nat} {us vr : List Sv} {p : Sv} (h : w.ownsRow B 52 3 (.slice (some ⟨g, 0, none⟩) n c) n (flatN (us ++ p :: vr))) (hl : us.length = j) (x : Int) :
    (w.setCell ⟨g, j * 3 + 1, none⟩ (.int .i64 x)).ownsRow B 52 3 (.slice (some ⟨g, 0, none⟩) n c) n (flatN (us ++ ⟨⟨p.s.id, x, p.s.map⟩, p.A, p.n, p.c⟩ :: vr)) ∧ w.grownBy (w.setCell ⟨g, j * 3 + 1, none⟩ (.int .i64 x)) (some g) := by
  obtain ⟨h1, h2⟩ := World.ownsRow.stored h (j * 3 + 1) (.int .i64 x)
  rw [flatN_put1 us vr p j x hl] at h1
  exact ⟨h1, h2⟩
theorem gb_new {w wr : World} {r : Option Nat} (h : w.grownBy wr r) (p : Addr) (hp : w.heap.size ≤ p.block) (u : Value) : w.grownBy (wr.setCell p u) r :=
  ⟨h.os, h.tape, h.output, by rw [size_set]; exact h.size, fun k hk hne => (Below.heap_setCell wr p u k (by omega)).trans (h.block k hk hne)⟩
/-- what unpackSnaps reads -/
def snQ (s : List UInt8 × Int) : List Sn × (List UInt8 × Int) := if 4 < hN s 1 then ([], fS (hS s 1) 11) else goQ (hN s 1).toNat (hS s 1) []

set_option maxRecDepth 10000 in
set_option maxHeartbeats 4000000 in
theorem snaps6 (R : Nat) (s : List UInt8 × Int) (w : World) (h : PRef w R s) :
    Calls Try.prog 74 #[rNum R, rBlob R, rFail R] w fun r w' => ∃ A n c vs, r = .returned (.slice A n c) ∧ Hid (n ≤ c ∧ c ≤ 9223372036854775807) ∧ Hid (w'.ownsRow w.heap.size 52 3 (.slice A n c) n (flatN vs)) ∧ Hid (vs.length = n ∧ n ≤ 4 ∧ vs.map Sv.s = (snQ s).1) ∧ Hid (SvsAt w' w.heap.size vs) ∧ Hid (PRef w' R (snQ s).2) ∧ Hid (w.grownBy w' (some R)) := by
  obtain ⟨N, hN⟩ := hN_nat s 1
  have HP := Lib.hid (PNum6 R s 1 w h)
  have HRw := Lib.hid (show R < w.heap.size from lt_of_block h.blk.choose_spec)
  have HQ := Lib.hid (show snQ s = if 4 < (N : Int) then ([], fS (hS s 1) 11) else goQ N (hS s 1) [] by unfold snQ; rw [hN, Int.toNat_natCast])
  rw [hN] at HP
  generalize hS s 1 = s1 at HP HQ
  clear hN h
  go_enter Try.func74, Try.ntmps74
  go_wp2_with fail
  refine HP.out.mono ?_
  rintro r w1 ⟨rfl, hr, hg⟩
  have HR := Lib.hid hr
  have Hg := Lib.hid hg
  clear hr hg HP
  by_cases h4 : 4 < N
  · have h4' : (4 : Int) < (N : Int) := by omega
    have HQ2 := Lib.hid (show snQ s = ([], fS s1 11) by rw [HQ.out, if_pos h4'])
    clear HQ
    go_wp2_with fail
    refine (PFail6 R s1 11 w1 HR.out).mono ?_
    rintro r w2 ⟨rfl, hr, hg2⟩
    have HR2 := Lib.hid hr
    have Hg2 := Lib.hid (grownBy_trans Hg.out hg2)
    clear hr hg2
    go_wp2_with fail
    go_ret
    exact ⟨none, 0, 0, [], rfl, ⟨by omega, by omega⟩, World.ownsRow_nil _ _ _ _, ⟨rfl, by omega, by rw [HQ2.out]; rfl⟩, (fun p hp => by simp at hp), by rw [HQ2.out]; exact HR2, Hg2⟩
  · have h4' : ¬ (4 : Int) < (N : Int) := by omega
    have hN4 : N ≤ 4 := by omega
    have HQ2 := Lib.hid (show snQ s = goQ N s1 [] by rw [HQ.out, if_neg h4'])
    have hmk := fun W : World => mk_snaps N hN4 W
    have HO0 := Lib.hid (own_snaps N hN4 w1)
    clear HQ h4
    go_upto_region 6 with fail
    replace HR := Lib.hid (HR.out.to (alB6 w1 (.cells (madeCells #[.int .i64 0, .int .i64 0, .slice none 0 0] (N * 3)) 52)).out)
    have Hg1 := Lib.hid (grownBy_trans Hg.out (grownBy_below (alB6 w1 (.cells (madeCells #[.int .i64 0, .int .i64 0, .slice none 0 0] (N * 3)) 52)).out (some R)))
    have Hgw := Lib.hid Hg.out.size
    generalize w1.alloc (.cells (madeCells #[.int .i64 0, .int .i64 0, .slice none 0 0] (N * 3)) 52) = w2 at HR Hg1 HO0 ⊢
    obtain ⟨g, hgv⟩ : ∃ g, g = w1.heap.size := ⟨_, rfl⟩
    rw [← hgv] at HO0 Hgw ⊢
    have HgR := Lib.hid (show R < g by have := HRw.out; have := Hgw.out; omega)
    clear hgv hmk Hg
    replace HO0 := Lib.hid (own_less HO0.out Hgw.out)
    go_wp2_with fail
    go_loopw [20] (fun iv wr => ∃ (j : Nat) (s' : List UInt8 × Int) (us : List Sv), j ≤ N ∧ iv = .int .i64 (j : Int) ∧ Hid (us.length = j) ∧ Hid (goQ (N - j) s' (us.map Sv.s) = snQ s) ∧ Hid (PRef wr R s') ∧ Hid (wr.ownsRow w.heap.size 52 3 (.slice (some ⟨g, 0, none⟩) N N) N (flatN (us ++ List.replicate (N - j) zeroSv))) ∧ Hid (SvsAt wr w.heap.size us) ∧ Hid (w.grownBy wr (some R))) (fun iv _ => N - (intOf iv).toNat)
    case atStart => exact ⟨0, s1, [], Nat.zero_le _, rfl, rfl, by rw [HQ2.out]; rfl, HR, HO0, (fun p hp => by simp at hp), Hg1⟩
    case round =>
      clear HR HO0 Hg1
      obtain ⟨j, s', us, hj, rfl, HU, Hgo, HR, HO, HX, Hg⟩ := hrel
      by_cases hjn : j < N
      · obtain ⟨vr, hvr⟩ : ∃ vr, vr = List.replicate (N - (j + 1)) zeroSv := ⟨_, rfl⟩
        have Hvr := Lib.hid hvr
        replace HO : Hid (wr.ownsRow w.heap.size 52 3 (.slice (some ⟨g, 0, none⟩) N N) N (flatN (us ++ zeroSv :: vr))) := by
          rw [hvr, ← List.replicate_succ, show N - (j + 1) + 1 = N - j by omega]; exact HO
        obtain ⟨t1, d1⟩ : ∃ t, t = hS s' 1 := ⟨_, rfl⟩
        obtain ⟨t2, d2⟩ : ∃ t, t = hS t1 2 := ⟨_, rfl⟩
        obtain ⟨y0, d4⟩ : ∃ y, y = hN s' 1 := ⟨_, rfl⟩
        obtain ⟨y1, d5⟩ : ∃ y, y = hN t1 2 := ⟨_, rfl⟩
        have Hgo2 : Hid (goQ (N - (j + 1)) (tS t2) (us.map Sv.s ++ [⟨y0, y1, tM t2⟩]) = snQ s) := by
          have h := Hgo.out
          rw [show N - j = (N - (j + 1)) + 1 by omega] at h
          unfold goQ at h
          subst d1 d2 d4 d5
          exact h
        have hD0 := Lib.hid (PNum6 R s' 1 wr HR.out)
        rw [← d1, ← d4] at hD0
        have hD1 := Lib.hid (fun (w1 : World) (h : PRef w1 R t1) => PNum6 R t1 2 w1 h)
        rw [← d2, ← d5] at hD1
        have hj0 : (0 : Int) ≤ (j : Int) := by omega
        have hj1 : (j : Int) < (N : Int) := by omega
        clear d1 d2 d4 d5 Hgo hvr
        go_wp2_with fail
        refine hD0.out.mono ?_
        rintro r wb0 ⟨rfl, hr, hg⟩
        obtain ⟨csR, hcsR⟩ := HR.out.blk
        replace HO := Lib.hid (own_gb HO.out hg hcsR (by decide))
        replace HX := Lib.hid (HX.out.gb hg hcsR (by decide))
        replace Hg := Lib.hid (grownBy_trans Hg.out hg)
        replace HR := Lib.hid hr
        obtain ⟨k0, _, _, _⟩ := own_at HO.out HU.out hjn
        have f0 := World.ownsRow.frozenAt HO.out (j * 3)
        clear hr hg hcsR hD0
        go_upto_region 10 with fail
        have HQ0 := Lib.hid (own_put0 HO.out HU.out y0)
        replace HR := Lib.hid (HR.out.grown HQ0.out.2 HgR.out)
        replace HX := Lib.hid (HX.out.row HO.out (by decide) HQ0.out.2)
        replace Hg := Lib.hid (gb_new Hg.out ⟨g, j * 3, none⟩ Hgw.out (.int .i64 y0))
        replace HO := Lib.hid HQ0.out.1
        clear k0 f0 HQ0
        generalize wb0.setCell ⟨g, j * 3, none⟩ (.int .i64 y0) = wa1 at HR HX Hg HO ⊢
        go_wp2_with fail
        refine (hD1.out _ HR.out).mono ?_
        rintro r wb1 ⟨rfl, hr, hg⟩
        obtain ⟨csR, hcsR⟩ := HR.out.blk
        replace HO := Lib.hid (own_gb HO.out hg hcsR (by decide))
        replace HX := Lib.hid (HX.out.gb hg hcsR (by decide))
        replace Hg := Lib.hid (grownBy_trans Hg.out hg)
        replace HR := Lib.hid hr
        obtain ⟨_, k1, _, _⟩ := own_at HO.out HU.out hjn
        have f1 := World.ownsRow.frozenAt HO.out (j * 3 + 1)
        clear hr hg hcsR hD1
        go_upto_region 11 with fail
        have HQ1 := Lib.hid (own_put1 HO.out HU.out y1)
        replace HR := Lib.hid (HR.out.grown HQ1.out.2 HgR.out)
        replace HX := Lib.hid (HX.out.row HO.out (by decide) HQ1.out.2)
        replace Hg := Lib.hid (gb_new Hg.out ⟨g, j * 3 + 1, none⟩ Hgw.out (.int .i64 y1))
        replace HO := Lib.hid HQ1.out.1
        clear k1 f1 HQ1
        generalize wb1.setCell ⟨g, j * 3 + 1, none⟩ (.int .i64 y1) = wa2 at HR HX Hg HO ⊢
        go_wp2_with fail
        refine (PTab6 R t2 _ HR.out).mono ?_
        rintro r wb2 ⟨A6, n6, c6, rfl, hm, hr, hg⟩
        obtain ⟨csR, hcsR⟩ := HR.out.blk
        have HM6 := Lib.hid (hm.out.less Hg.out.size)
        replace HO := Lib.hid (own_gb HO.out hg.out hcsR (by decide))
        replace HX := Lib.hid (HX.out.gb hg.out hcsR (by decide))
        replace Hg := Lib.hid (grownBy_trans Hg.out hg.out)
        replace HR := hr
        obtain ⟨_, _, k2, f2⟩ := own_at HO.out HU.out hjn
        clear hr hg hcsR hm
        go_upto_region 12 with fail
        have HQ2b := Lib.hid (own_put HO.out HU.out A6 n6 c6 (tM t2))
        replace HR := Lib.hid (HR.out.grown HQ2b.out.2 HgR.out)
        replace HX := Lib.hid (HX.out.row HO.out (by decide) HQ2b.out.2)
        replace HM6 := Lib.hid (HM6.out.row HO.out (by decide) HQ2b.out.2)
        replace Hg := Lib.hid (gb_new Hg.out ⟨g, j * 3 + 2, none⟩ Hgw.out (.slice A6 n6 c6))
        replace HO := Lib.hid HQ2b.out.1
        clear k2 f2 HQ2b
        generalize wb2.setCell ⟨g, j * 3 + 2, none⟩ (.slice A6 n6 c6) = wa3 at HR HX Hg HO HM6 ⊢
        go_wp2_with fail
        go_roundw
        case rel =>
          refine ⟨j + 1, tS t2, us ++ [⟨⟨y0, y1, tM t2⟩, A6, n6, c6⟩], by omega, by go_num, by rw [List.length_append, HU.out]; rfl, ?_, HR, ?_, ?_, Hg⟩
          · rw [List.map_append]; exact Hgo2
          · rw [List.append_assoc, ← Hvr.out]; exact HO
          · intro q hq
            rcases List.mem_append.1 hq with h | h
            · exact HX.out q h
            · simp at h; subst h; exact HM6.out
        case measure => simp [intOf]; omega
      · obtain rfl : j = N := by omega
        have Hend := Lib.hid (show (us.map Sv.s, s') = snQ s by have h := Hgo.out; rwa [Nat.sub_self] at h)
        go_wp2_with fail
        go_ret
        refine ⟨some ⟨g, 0, none⟩, j, j, us, rfl, ⟨by omega, by omega⟩, ?_, ⟨HU.out, by omega, by rw [← Hend.out]⟩, HX, by rw [← Hend.out]; exact HR, Hg⟩
        have h := HO.out
        rw [Nat.sub_self, List.replicate_zero, List.append_nil] at h
        exact h
end Go.Proofs.Ytaobdebeglenaaa
