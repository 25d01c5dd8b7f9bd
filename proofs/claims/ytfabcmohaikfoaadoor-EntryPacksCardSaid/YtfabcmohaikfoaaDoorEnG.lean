/- Package entry: Pack. Written by wip/geneg.py. -/
import Derived.Test.YtfabcmohaikfoaaDoorEnC
import Derived.Test.YtfabcmohaikfoaaDoorEnF
namespace Go.Proofs.YtfabcmohaikfoaaDoor
open Go.RowKit

theorem own_set7 {w : World} {B n s : Nat} {e : TypeId} {v : Value} {xs : List Value} (h : w.ownsRow B e s v n xs) {p : Addr} (hp : p.block < B) (u : Value) : (w.setCell p u).ownsRow B e s v n xs := by
  refine ⟨h.1, ?_⟩
  rcases h.2 with h | ⟨g, cap, cur, h1, h2, h3, h4⟩
  · exact .inl h
  · exact .inr ⟨g, cap, cur, h1, h2, (Below.heap_setCell w p u g (by omega)).trans h3, h4⟩
/-- a row of the call's own stays where a block of another element type is written -/
theorem own_gb7 {w w' : World} {B n s R : Nat} {e t : TypeId} {v : Value} {xs : List Value} {cs : Array Value} (h : w.ownsRow B e s v n xs) (hg : w.grownBy w' (some R)) (hR : w.heap[R]? = some (.cells cs t (0, 0))) (hne : e ≠ t) : w'.ownsRow B e s v n xs := by
  refine ⟨h.1, ?_⟩
  rcases h.2 with h | ⟨g, cap, cur, h1, h2, h3, h4⟩
  · exact .inl h
  · refine .inr ⟨g, cap, cur, h1, h2, gb7 hg (fun q => ?_) h3, h4⟩
    subst q
    rw [hR] at h3
    injection h3 with h3
    injection h3 with _ h3
    exact hne h3.symm
set_option maxRecDepth 10000 in
/-- block P holds a slice of bytes of the call's own -/
def Buf7 (w : World) (P : Nat) (l : List UInt8) : Prop := ∃ A n c, w.heap[P]? = some (.cells #[.slice A n c] 22 (0, 0)) ∧ w.ownsRow (P + 1) 5 1 (.slice A n c) n (l.map bv)
set_option maxRecDepth 10000 in
theorem Buf7.blk {w : World} {P : Nat} {l : List UInt8} (h : Buf7 w P l) : ∃ cs, w.heap[P]? = some (.cells cs 22 (0, 0)) := by
  obtain ⟨A, n, c, h1, _⟩ := h
  exact ⟨_, h1⟩
theorem below_gb7 {a w w' : World} {g : Nat} (h : Hid (Below a.heap.size a w)) (hg : w.grownBy w' (some g)) (h0 : a.heap.size ≤ g) : Hid (Below a.heap.size a w') :=
  h.out.grown hg h.out.size (fun k q => by cases q; exact h0)
set_option maxRecDepth 10000 in
set_option maxHeartbeats 1000000 in
theorem num7 (P : Nat) (l : List UInt8) (width x : Int) (w : World) (h : Buf7 w P l) (hl : l.length ≤ 100000) (hx : -9223372036854775808 ≤ x ∧ x ≤ 9223372036854775807) :
    Calls Tryd.prog 32 #[.int .i64 width, .int .i64 x, .pointer (some ⟨P, 0, none⟩)] w fun e w' => e = .returned (.tuple #[]) ∧ Hid (Buf7 w' P (l ++ numB width x)) ∧ Hid (w.grownBy w' (some P)) := by
  obtain ⟨A, n, c, hh, hown⟩ := h
  have hn : n = l.length := by have := hown.1; simp at this; omega
  have c0 : w.cell? ⟨P, 0, none⟩ = some (.slice A n c) := by rw [cell_blk hh]; rfl
  have HN := Lib.hid (Num_any A n c l width x w (Rd.own hown) (by omega) hx)
  have Hh := Lib.hid hh
  clear hown hn hh
  go_enter Tryd.func32, Tryd.ntmps32
  go_wp2_with fail
  refine HN.out.mono ?_
  rintro e w1 ⟨A2, c2, rfl, k1, k2, hown, hb⟩
  obtain ⟨M, hM⟩ : ∃ M, M = (l ++ numB width x).length := ⟨_, rfl⟩
  rw [← hM] at hown ⊢
  have Hlt := Lib.hid (lt_of_block Hh.out)
  have Hown := Lib.hid (ownsRow_base hown Hlt.out)
  have Hb := Lib.hid hb
  have Hh1 := Lib.hid ((hb.block P Hlt.out).trans Hh.out)
  clear hM hown hb k1 k2 c0 HN
  have c1 : w1.cell? ⟨P, 0, none⟩ = some (.slice A n c) := by rw [cell_blk Hh1.out]; rfl
  have y1 := free_blk Hh1.out 0
  go_wp2_with fail
  exact bodyPost_end (v := .tuple #[]) (by simp [results, Tryd.results32, go_sem]) rfl ⟨rfl, ⟨A2, M, c2, set_blk Hh1.out 0 _, own_set7 Hown.out (p := ⟨P, 0, none⟩) (Nat.lt_succ_self P) _⟩, grownBy_trans (grownBy_below Hb.out (some P)) (grownBy_set _ _ _ _)⟩

set_option maxRecDepth 10000 in
set_option maxHeartbeats 2000000 in
theorem Pack7_no (S O K F L P : Int) (A : Option Addr) (n c : Nat) (d : List UInt8) (w : World) (hr : Rd w w.heap.size A n d) (h : ¬ May7 ⟨S, O, K, F, L, P, d⟩) :
    Calls Tryd.prog 17 #[eV S O K F L P A n c] w (Out w []) := by
  have Hl0 := Lib.hid hr.1
  have Hb := al7 w (.cells #[.int .i64 S, .int .i64 O, .int .i64 K, .int .i64 F, .int .i64 L, .int .i64 P, .slice A n c] 24)
  have Hh := Lib.hid (EAt.box w S O K F L P A n c 24)
  have Hr := Lib.hid ((hr.below Hb.out).more Hb.out.size)
  clear hr
  go_enter Tryd.func17, Tryd.ntmps17
  go_upto_region 1 with fail
  generalize w.alloc (.cells #[.int .i64 S, .int .i64 O, .int .i64 K, .int .i64 F, .int .i64 L, .int .i64 P, .slice A n c] 24) = w1 at Hb Hh Hr ⊢
  obtain ⟨b, hbe⟩ : ∃ b, b = w.heap.size := ⟨_, rfl⟩
  rw [← hbe] at Hh ⊢
  clear hbe
  have c0 := Hh.out.c0
  have c1 := Hh.out.c1
  have c2 := Hh.out.c2
  have c3 := Hh.out.c3
  have c4 := Hh.out.c4
  have c5 := Hh.out.c5
  have c6 := Hh.out.c6
  have HM := Lib.hid (Check7 S O K F L P A n c d Hl0.out w1)
  have He7 := Lib.hid (show may7E ⟨S, O, K, F, L, P, d⟩ = 70 by unfold may7E; rw [if_neg h])
  rw [He7.out] at HM
  clear Hr h
  go_wp2_with fail
  refine HM.out.mono ?_
  rintro e w2 ⟨rfl, hb2⟩
  go_wp2_with fail
  go_ret
  exact Out.mk (World.ownsRow_nil _ _ _ _) (bel7 Hb hb2).out

set_option maxRecDepth 10000 in
set_option maxHeartbeats 4000000 in
theorem Pack7_yes (S O : Int) (k : Nat) (F L P : Int) (A : Option Addr) (n c : Nat) (d : List UInt8) (w : World) (hr : Rd w w.heap.size A n d) (hn : n ≤ 100000) (ht : T7 w) (h : May7 ⟨S, O, (k : Int), F, L, P, d⟩) :
    Calls Tryd.prog 17 #[eV S O (k : Int) F L P A n c] w (Out w (mkF k (bod7 (cln7 ⟨S, O, (k : Int), F, L, P, d⟩)))) := by
  have Hl0 := Lib.hid hr.1
  have hk : k ≤ 255 := by have := may_kind h; dsimp only at this; omega
  have hD := cln_data h
  have hbd := cln_bd h
  obtain ⟨e, he⟩ : ∃ e, e = cln7 ⟨S, O, (k : Int), F, L, P, d⟩ := ⟨_, rfl⟩
  have hes : e.s = S := by rw [he]; rfl
  have heo : e.o = O := by rw [he]; rfl
  have hek : e.k = (k : Int) := by rw [he]; rfl
  have HC1 : Hid (∀ w1 : World, Rd w1 w1.heap.size A n d → T7 w1 → Calls Tryd.prog 13 #[eV S O (k : Int) F L P A n c] w1 fun x w' => ∃ A c, x = .returned (eV S O (k : Int) e.f e.l e.p A e.d.length c) ∧ Hid (w'.ownsRow w1.heap.size 5 1 (.slice A e.d.length c) e.d.length (e.d.map bv)) ∧ e.d.length ≤ c ∧ c ≤ maxLen ∧ Hid (Below w1.heap.size w1 w')) := fun w1 h1 h2 =>
    (Clean7 S O (k : Int) F L P A n c d w1 h1 hn h2).mono fun x w' q => by
      unfold ClnP at q
      rw [← he] at q
      rw [hes, heo, hek] at q
      exact q
  have He := Lib.hid (show bod7 e = numB 6 S ++ numB 1 O ++ numB 2 e.f ++ numB 2 e.l ++ numB 1 e.p ++ blobB e.d by unfold bod7; rw [hes, heo])
  have Hdl := Lib.hid (show e.d.length ≤ 128 by rw [he]; exact hD)
  have He7 := Lib.hid (show may7E ⟨S, O, (k : Int), F, L, P, d⟩ = 0 by unfold may7E; rw [if_pos h])
  have Ht := Lib.hid ht
  dsimp only at hbd
  rw [← he] at hbd
  rw [← he]
  obtain ⟨⟨_, _⟩, ⟨_, _⟩, ⟨_, _⟩, ⟨_, _⟩, ⟨_, _⟩⟩ := hbd
  clear he hes heo hek h hD ht hn
  generalize e.f = f at *
  generalize e.l = l at *
  generalize e.p = p at *
  obtain ⟨dn, hdn⟩ : ∃ dn, dn = e.d.length := ⟨_, rfl⟩
  have hdn2 : dn ≤ 128 := by rw [hdn]; exact Hdl.out
  rw [← hdn] at HC1
  have Hdn := Lib.hid hdn
  clear hdn
  have Hb := al7 w (.cells #[.int .i64 S, .int .i64 O, .int .i64 (k : Int), .int .i64 F, .int .i64 L, .int .i64 P, .slice A n c] 24)
  have Hh := Lib.hid (EAt.box w S O (k : Int) F L P A n c 24)
  have HE := Lib.hid (heap_alloc_new w (.cells #[.int .i64 S, .int .i64 O, .int .i64 (k : Int), .int .i64 F, .int .i64 L, .int .i64 P, .slice A n c] 24))
  have Hr := Lib.hid ((hr.below Hb.out).more Hb.out.size)
  clear hr
  go_enter Tryd.func17, Tryd.ntmps17
  go_upto_region 1 with fail
  generalize w.alloc (.cells #[.int .i64 S, .int .i64 O, .int .i64 (k : Int), .int .i64 F, .int .i64 L, .int .i64 P, .slice A n c] 24) = w1 at Hb Hh Hr HE ⊢
  obtain ⟨b, hbe⟩ : ∃ b, b = w.heap.size := ⟨_, rfl⟩
  rw [← hbe] at Hh HE ⊢
  have Hbb := Lib.hid (show w.heap.size ≤ b by omega)
  clear hbe
  have c0 := Hh.out.c0
  have c1 := Hh.out.c1
  have c2 := Hh.out.c2
  have c3 := Hh.out.c3
  have c4 := Hh.out.c4
  have c5 := Hh.out.c5
  have c6 := Hh.out.c6
  have HM := Lib.hid (Check7 S O (k : Int) F L P A n c d Hl0.out w1)
  rw [He7.out] at HM
  go_wp2_with fail
  refine HM.out.mono ?_
  rintro x w2 ⟨rfl, hb2⟩
  have Hr2 := Lib.hid ((Hr.out.below hb2.out).more hb2.out.size)
  replace HE := Lib.hid ((hb2.out.block b (lt_of_block HE.out)).trans HE.out)
  replace Hb := bel7 Hb hb2
  clear hb2 HM He7 Hr Hh c0 c1 c2 c3 c4 c5 c6
  obtain ⟨c0, c1, c2, c3, c4, c5, c6⟩ := ents_of HE.out
  have HC := Lib.hid (HC1.out w2 Hr2.out (Ht.out.to Hb.out))
  go_wp2_with fail
  refine HC.out.mono ?_
  rintro x w3 ⟨A3, c3', rfl, Hr3, hc3, hm3, hb3⟩
  have Hlt2 := Lib.hid hb3.out.size
  replace HE := Lib.hid ((hb3.out.block b (lt_of_block HE.out)).trans HE.out)
  replace Hr3 := Lib.hid (ownsRow_base Hr3.out Hb.out.size)
  replace Hb := bel7 Hb hb3
  have hm3' : c3' ≤ 9223372036854775807 := by simpa [maxLen] using hm3
  clear hb3 HC HC1 Hr2 c0 c1 c2 c3 c4 c5 c6 Hlt2
  obtain ⟨c0, c1, c2, c3, c4, c5, c6⟩ := ents_of HE.out
  have y0 := free_blk HE.out 0
  have y1 := free_blk HE.out 1
  have y2 := free_blk HE.out 2
  have y3 := free_blk HE.out 3
  have y4 := free_blk HE.out 4
  have y5 := free_blk HE.out 5
  have y6 := free_blk HE.out 6
  go_upto_region 4 with fail
  have P9 := Lib.hid (put7_blk HE.out (.int .i64 S) (.int .i64 O) (.int .i64 (k : Int)) (.int .i64 f) (.int .i64 l) (.int .i64 p) (.slice A3 dn c3'))
  have B9 := Lib.hid (put7_below (w := w3) (B := w.heap.size) Hbb.out (.int .i64 S) (.int .i64 O) (.int .i64 (k : Int)) (.int .i64 f) (.int .i64 l) (.int .i64 p) (.slice A3 dn c3'))
  replace Hb := Lib.hid (Hb.out.trans B9.out)
  replace Hr3 := Lib.hid (own_put7 Hr3.out HE.out (by decide) (.int .i64 S) (.int .i64 O) (.int .i64 (k : Int)) (.int .i64 f) (.int .i64 l) (.int .i64 p) (.slice A3 dn c3'))
  clear c0 c1 c2 c3 c4 c5 c6 y0 y1 y2 y3 y4 y5 y6 B9 HE
  change Code.wp _ _ _ _ (put7 w3 b (.int .i64 S) (.int .i64 O) (.int .i64 (k : Int)) (.int .i64 f) (.int .i64 l) (.int .i64 p) (.slice A3 dn c3'))
  generalize put7 w3 b (.int .i64 S) (.int .i64 O) (.int .i64 (k : Int)) (.int .i64 f) (.int .i64 l) (.int .i64 p) (.slice A3 dn c3') = w4 at P9 Hb Hr3 ⊢
  go_upto_region 6 with fail
  have HP := Lib.hid (heap_alloc_new w4 (.cells #[.slice none 0 0] 22))
  have Ha := al7 w4 (.cells #[.slice none 0 0] 22)
  have HE := Lib.hid ((Ha.out.block b (lt_of_block P9.out)).trans P9.out)
  have Hbg := Lib.hid (Nat.ne_of_lt (lt_of_block P9.out))
  have Hg0 := Lib.hid Hb.out.size
  replace Hr3 := Lib.hid (ownsRow_below Hr3.out Ha.out)
  replace Hb := bel7 Hb Ha
  clear Ha P9
  generalize w4.alloc (.cells #[.slice none 0 0] 22) = w5 at HP HE Hr3 Hb ⊢
  obtain ⟨g, hge⟩ : ∃ g, g = w4.heap.size := ⟨_, rfl⟩
  rw [← hge] at HP Hbg Hg0 ⊢
  clear hge
  have HL : Hid (Buf7 w5 g []) := ⟨none, 0, 0, HP.out, World.ownsRow_nil _ _ _ _⟩
  clear HP
  have Hq0 := Lib.hid (show ([] : List UInt8).length ≤ 100000 by decide)
  obtain ⟨L0, hL0⟩ : ∃ L0 : List UInt8, L0 = [] := ⟨_, rfl⟩
  rw [← hL0] at HL Hq0
  have E0 := Lib.hid hL0
  clear hL0
  have c0 := (ents_of HE.out).1
  have HN := Lib.hid (num7 g L0 6 S w5 HL.out Hq0.out (by omega))
  go_wp2_with fail
  refine HN.out.mono ?_
  rintro x w6 ⟨rfl, HL', hg⟩
  obtain ⟨cs, hcs⟩ := HL.out.blk
  replace HE := Lib.hid (gb7 hg.out Hbg.out HE.out)
  replace Hr3 := Lib.hid (own_gb7 Hr3.out hg.out hcs (by decide))
  replace Hb := below_gb7 Hb hg.out Hg0.out
  clear hg hcs HL HN c0
  obtain ⟨L1, hL⟩ : ∃ L', L' = L0 ++ numB 6 S := ⟨_, rfl⟩
  have Hq1 := Lib.hid (show L1.length ≤ 100000 by rw [hL, E0.out]; simp only [List.length_append, List.length_nil, numB_length]; have := fitW_bd 6; have := fitW_bd 1; have := fitW_bd 2; omega)
  have E1 := Lib.hid (show L1 = [] ++ numB 6 S by rw [hL, E0.out])
  rw [← hL] at HL'
  have HL := HL'
  clear HL' hL E0 Hq0
  have c1 := (ents_of HE.out).2.1
  have HN := Lib.hid (num7 g L1 1 O w6 HL.out Hq1.out (by omega))
  go_wp2_with fail
  refine HN.out.mono ?_
  rintro x w7 ⟨rfl, HL', hg⟩
  obtain ⟨cs, hcs⟩ := HL.out.blk
  replace HE := Lib.hid (gb7 hg.out Hbg.out HE.out)
  replace Hr3 := Lib.hid (own_gb7 Hr3.out hg.out hcs (by decide))
  replace Hb := below_gb7 Hb hg.out Hg0.out
  clear hg hcs HL HN c1
  obtain ⟨L2, hL⟩ : ∃ L', L' = L1 ++ numB 1 O := ⟨_, rfl⟩
  have Hq2 := Lib.hid (show L2.length ≤ 100000 by rw [hL, E1.out]; simp only [List.length_append, List.length_nil, numB_length]; have := fitW_bd 6; have := fitW_bd 1; have := fitW_bd 2; omega)
  have E2 := Lib.hid (show L2 = [] ++ numB 6 S ++ numB 1 O by rw [hL, E1.out])
  rw [← hL] at HL'
  have HL := HL'
  clear HL' hL E1 Hq1
  have c3 := (ents_of HE.out).2.2.2.1
  have HN := Lib.hid (num7 g L2 2 f w7 HL.out Hq2.out (by omega))
  go_wp2_with fail
  refine HN.out.mono ?_
  rintro x w8 ⟨rfl, HL', hg⟩
  obtain ⟨cs, hcs⟩ := HL.out.blk
  replace HE := Lib.hid (gb7 hg.out Hbg.out HE.out)
  replace Hr3 := Lib.hid (own_gb7 Hr3.out hg.out hcs (by decide))
  replace Hb := below_gb7 Hb hg.out Hg0.out
  clear hg hcs HL HN c3
  obtain ⟨L3, hL⟩ : ∃ L', L' = L2 ++ numB 2 f := ⟨_, rfl⟩
  have Hq3 := Lib.hid (show L3.length ≤ 100000 by rw [hL, E2.out]; simp only [List.length_append, List.length_nil, numB_length]; have := fitW_bd 6; have := fitW_bd 1; have := fitW_bd 2; omega)
  have E3 := Lib.hid (show L3 = [] ++ numB 6 S ++ numB 1 O ++ numB 2 f by rw [hL, E2.out])
  rw [← hL] at HL'
  have HL := HL'
  clear HL' hL E2 Hq2
  have c4 := (ents_of HE.out).2.2.2.2.1
  have HN := Lib.hid (num7 g L3 2 l w8 HL.out Hq3.out (by omega))
  go_wp2_with fail
  refine HN.out.mono ?_
  rintro x w9 ⟨rfl, HL', hg⟩
  obtain ⟨cs, hcs⟩ := HL.out.blk
  replace HE := Lib.hid (gb7 hg.out Hbg.out HE.out)
  replace Hr3 := Lib.hid (own_gb7 Hr3.out hg.out hcs (by decide))
  replace Hb := below_gb7 Hb hg.out Hg0.out
  clear hg hcs HL HN c4
  obtain ⟨L4, hL⟩ : ∃ L', L' = L3 ++ numB 2 l := ⟨_, rfl⟩
  have Hq4 := Lib.hid (show L4.length ≤ 100000 by rw [hL, E3.out]; simp only [List.length_append, List.length_nil, numB_length]; have := fitW_bd 6; have := fitW_bd 1; have := fitW_bd 2; omega)
  have E4 := Lib.hid (show L4 = [] ++ numB 6 S ++ numB 1 O ++ numB 2 f ++ numB 2 l by rw [hL, E3.out])
  rw [← hL] at HL'
  have HL := HL'
  clear HL' hL E3 Hq3
  have c5 := (ents_of HE.out).2.2.2.2.2.1
  have HN := Lib.hid (num7 g L4 1 p w9 HL.out Hq4.out (by omega))
  go_wp2_with fail
  refine HN.out.mono ?_
  rintro x w10 ⟨rfl, HL', hg⟩
  obtain ⟨cs, hcs⟩ := HL.out.blk
  replace HE := Lib.hid (gb7 hg.out Hbg.out HE.out)
  replace Hr3 := Lib.hid (own_gb7 Hr3.out hg.out hcs (by decide))
  replace Hb := below_gb7 Hb hg.out Hg0.out
  clear hg hcs HL HN c5
  obtain ⟨L5, hL⟩ : ∃ L', L' = L4 ++ numB 1 p := ⟨_, rfl⟩
  have Hq5 := Lib.hid (show L5.length ≤ 100000 by rw [hL, E4.out]; simp only [List.length_append, List.length_nil, numB_length]; have := fitW_bd 6; have := fitW_bd 1; have := fitW_bd 2; omega)
  have E5 := Lib.hid (show L5 = [] ++ numB 6 S ++ numB 1 O ++ numB 2 f ++ numB 2 l ++ numB 1 p by rw [hL, E4.out])
  rw [← hL] at HL'
  have HL := HL'
  clear HL' hL E4 Hq4
  obtain ⟨Ab, nb, cb, hbb, hob⟩ := HL.out
  have b0 : w10.cell? ⟨g, 0, none⟩ = some (.slice Ab nb cb) := by rw [cell_blk hbb]; rfl
  have Hob := Lib.hid (Rd.own hob)
  have Hnb := Lib.hid (show nb ≤ 100000 by have := hob.1; have := Hq5.out; simp at *; omega)
  have Hrd := Lib.hid (Rd.own Hr3.out)
  have c2 := (ents_of HE.out).2.2.1
  have c6 := (ents_of HE.out).2.2.2.2.2.2
  have HW := Lib.hid (Below.refl w10.heap.size w10)
  clear hbb hob HL Hr3
  have Hbod := Lib.hid (show L5 ++ blobB e.d = bod7 e by rw [He.out, E5.out]; rfl)
  have Hbl := Lib.hid (show (bod7 e).length ≤ 142 by have h := bod_len e (by have := Hdl.out; omega); have := Hdl.out; omega)
  have HB0 := Lib.hid Hb.out
  clear Hb HE He E5 Hq5 Hdl Hdn Hl0 Hbg Hg0 Hbb
  go_upto_region 11 with fail
  go_region_with (first
    | (go_at_call 35; refine (Blob_any Ab A3 nb cb dn c3' L5 e.d _ (by exact Hob.out) (by exact Hrd.out) (by have := Hnb.out; omega) hc3 hm3').mono ?_; rintro x w11 ⟨A2, k2, rfl, k3, k4, hown, hb⟩; rw [Hbod.out] at hown k3 ⊢; obtain ⟨M, hM⟩ : ∃ M, M = (bod7 e).length := ⟨_, rfl⟩; rw [← hM] at hown k3 ⊢; have HM := Lib.hid (show M ≤ 142 by rw [hM]; exact Hbl.out); have HB1 : Hid (Below w10.heap.size w10 w11) := ⟨hb.os, hb.tape, hb.output, hb.size, hb.block⟩; have HB2 := bel7 HB0 HB1; have HR1 := Lib.hid (Rd.own hown); have HT1 := Lib.hid (Ht.out.to HB2.out).1; have c2b := (HB1.out.cell (World.block_lt_of_cell? w10 _ c2)).trans c2; clear hM hown hb k3 k4)
    | (go_at_call 34; refine (Make_ok k A2 M k2 (bod7 e) _ hk (by have := HM.out; omega) (by exact HR1.out) (by exact HT1.out)).mono ?_; rintro x w12 ⟨A5, k5, rfl, h1, h2, h3, h4⟩; have HB3 : Hid (Below w11.heap.size w11 w12) := ⟨h4.os, h4.tape, h4.output, h4.size, h4.block⟩; have Hfin := Lib.hid (Out.mk (ownsRow_base h3 (by exact HB2.out.size)) (bel7 HB2 HB3).out); clear h1 h2 h3 h4))
  all_goals
    go_wp2_with fail
    go_ret
    exact Hfin.out

set_option maxRecDepth 10000 in
theorem Pack7 (S O K F L P : Int) (A : Option Addr) (n c : Nat) (d : List UInt8) (w : World) (hr : Rd w w.heap.size A n d) (hn : n ≤ 100000) (ht : T7 w) :
    Calls Tryd.prog 17 #[eV S O K F L P A n c] w (Out w (pack7 ⟨S, O, K, F, L, P, d⟩)) := by
  by_cases h : May7 ⟨S, O, K, F, L, P, d⟩
  · have hk := may_kind h
    obtain ⟨k, rfl⟩ : ∃ k : Nat, K = k := ⟨K.toNat, by dsimp only at hk; omega⟩
    rw [pack_yes h]
    exact Pack7_yes S O k F L P A n c d w hr hn ht h
  · rw [pack_no h]
    exact Pack7_no S O K F L P A n c d w hr h
end Go.Proofs.YtfabcmohaikfoaaDoor
