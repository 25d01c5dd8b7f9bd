/- Heads of images: contract of the document's Snap. -/
import Derived.Test.YtaobdebeglenaaaHdE
namespace Go.Proofs.Ytaobdebeglenaaa
open Go.RowKit

/-- a head's value and where its parts lie -/
def HdAt (w : World) (h : Hd) (v : Value) : Prop :=
  ∃ Am nm cm As ns cs, v = hV h.u h.c h.o h.size Am nm cm As ns cs h.last h.seq ∧ RdI w w.heap.size Am nm h.map ∧ nm ≤ 9223372036854775807 ∧ RdN w w.heap.size As ns h.snaps
abbrev hV0 : Value := hV 0 0 0 0 none 0 0 none 0 0 0 0
/-- what Snap tells -/
def SnP (w : World) (h : Hd) (e : Ending) (w' : World) : Prop :=
  ∃ v, e = .returned (.tuple #[v, .int .i64 (if snapE h = 0 then h.last + 1 else 0), .int .i64 (snapE h)]) ∧ (snapE h ≠ 0 → v = hV0) ∧ (snapE h = 0 → HdAt w' (snapH h) v) ∧ Below w.heap.size w w'

/-- the cells of a head's block -/
theorem heads_of {w : World} {b : Nat} {t : TypeId} {v0 v1 v2 v3 v4 v5 v6 v7 : Value} (h : w.heap[b]? = some (.cells #[v0, v1, v2, v3, v4, v5, v6, v7] t (0, 0))) :
    w.cell? ⟨b, 0, none⟩ = some v0 ∧ w.cell? ⟨b, 1, none⟩ = some v1 ∧ w.cell? ⟨b, 2, none⟩ = some v2 ∧ w.cell? ⟨b, 3, none⟩ = some v3 ∧ w.cell? ⟨b, 4, none⟩ = some v4 ∧ w.cell? ⟨b, 5, none⟩ = some v5 ∧ w.cell? ⟨b, 6, none⟩ = some v6 ∧ w.cell? ⟨b, 7, none⟩ = some v7 := by
  refine ⟨?_, ?_, ?_, ?_, ?_, ?_, ?_, ?_⟩ <;> (rw [cell_blk h]; rfl)
/-- a block's eight cells, set one by one -/
def put8 (w : World) (z : Nat) (v0 v1 v2 v3 v4 v5 v6 v7 : Value) : World :=
  (((((((w.setCell ⟨z, 0, none⟩ v0).setCell ⟨z, 1, none⟩ v1).setCell ⟨z, 2, none⟩ v2).setCell ⟨z, 3, none⟩ v3).setCell ⟨z, 4, none⟩ v4).setCell ⟨z, 5, none⟩ v5).setCell ⟨z, 6, none⟩ v6).setCell ⟨z, 7, none⟩ v7
theorem put8_at {w : World} {z : Nat} {t : TypeId} {a0 a1 a2 a3 a4 a5 a6 a7 : Value} (h : w.heap[z]? = some (.cells #[a0, a1, a2, a3, a4, a5, a6, a7] t (0, 0))) (v0 v1 v2 v3 v4 v5 v6 v7 : Value) :
    (put8 w z v0 v1 v2 v3 v4 v5 v6 v7).heap[z]? = some (.cells #[v0, v1, v2, v3, v4, v5, v6, v7] t (0, 0)) := by
  have h0 : (w.setCell ⟨z, 0, none⟩ v0).heap[z]? = some (.cells #[v0, a1, a2, a3, a4, a5, a6, a7] t (0, 0)) := set_blk h 0 v0
  have h1 : ((w.setCell ⟨z, 0, none⟩ v0).setCell ⟨z, 1, none⟩ v1).heap[z]? = some (.cells #[v0, v1, a2, a3, a4, a5, a6, a7] t (0, 0)) := set_blk h0 1 v1
  have h2 : (((w.setCell ⟨z, 0, none⟩ v0).setCell ⟨z, 1, none⟩ v1).setCell ⟨z, 2, none⟩ v2).heap[z]? = some (.cells #[v0, v1, v2, a3, a4, a5, a6, a7] t (0, 0)) := set_blk h1 2 v2
  have h3 : ((((w.setCell ⟨z, 0, none⟩ v0).setCell ⟨z, 1, none⟩ v1).setCell ⟨z, 2, none⟩ v2).setCell ⟨z, 3, none⟩ v3).heap[z]? = some (.cells #[v0, v1, v2, v3, a4, a5, a6, a7] t (0, 0)) := set_blk h2 3 v3
  have h4 : (((((w.setCell ⟨z, 0, none⟩ v0).setCell ⟨z, 1, none⟩ v1).setCell ⟨z, 2, none⟩ v2).setCell ⟨z, 3, none⟩ v3).setCell ⟨z, 4, none⟩ v4).heap[z]? = some (.cells #[v0, v1, v2, v3, v4, a5, a6, a7] t (0, 0)) := set_blk h3 4 v4
  have h5 : ((((((w.setCell ⟨z, 0, none⟩ v0).setCell ⟨z, 1, none⟩ v1).setCell ⟨z, 2, none⟩ v2).setCell ⟨z, 3, none⟩ v3).setCell ⟨z, 4, none⟩ v4).setCell ⟨z, 5, none⟩ v5).heap[z]? = some (.cells #[v0, v1, v2, v3, v4, v5, a6, a7] t (0, 0)) := set_blk h4 5 v5
  have h6 : (((((((w.setCell ⟨z, 0, none⟩ v0).setCell ⟨z, 1, none⟩ v1).setCell ⟨z, 2, none⟩ v2).setCell ⟨z, 3, none⟩ v3).setCell ⟨z, 4, none⟩ v4).setCell ⟨z, 5, none⟩ v5).setCell ⟨z, 6, none⟩ v6).heap[z]? = some (.cells #[v0, v1, v2, v3, v4, v5, v6, a7] t (0, 0)) := set_blk h5 6 v6
  have h7 : ((((((((w.setCell ⟨z, 0, none⟩ v0).setCell ⟨z, 1, none⟩ v1).setCell ⟨z, 2, none⟩ v2).setCell ⟨z, 3, none⟩ v3).setCell ⟨z, 4, none⟩ v4).setCell ⟨z, 5, none⟩ v5).setCell ⟨z, 6, none⟩ v6).setCell ⟨z, 7, none⟩ v7).heap[z]? = some (.cells #[v0, v1, v2, v3, v4, v5, v6, v7] t (0, 0)) := set_blk h6 7 v7
  exact h7
theorem put8_below {W w : World} {z B : Nat} (h : Below B W w) (hz : B ≤ z) (v0 v1 v2 v3 v4 v5 v6 v7 : Value) : Below B W (put8 w z v0 v1 v2 v3 v4 v5 v6 v7) :=
  (((((((h.setCell (p := ⟨z, 0, none⟩) hz v0).setCell (p := ⟨z, 1, none⟩) hz v1).setCell (p := ⟨z, 2, none⟩) hz v2).setCell (p := ⟨z, 3, none⟩) hz v3).setCell (p := ⟨z, 4, none⟩) hz v4).setCell (p := ⟨z, 5, none⟩) hz v5).setCell (p := ⟨z, 6, none⟩) hz v6).setCell (p := ⟨z, 7, none⟩) hz v7
theorem own_set {w : World} {B n s : Nat} {e : TypeId} {v : Value} {xs : List Value} (h : w.ownsRow B e s v n xs) {p : Addr} (hp : p.block < B) (u : Value) : (w.setCell p u).ownsRow B e s v n xs := by
  refine ⟨h.1, ?_⟩
  rcases h.2 with h | ⟨g, cap, cur, h1, h2, h3, h4⟩
  · exact .inl h
  · exact .inr ⟨g, cap, cur, h1, h2, (Below.heap_setCell w p u g (by omega)).trans h3, h4⟩
theorem own_to {w w' : World} {B n s : Nat} {e : TypeId} {v : Value} {xs : List Value} (h : w.ownsRow B e s v n xs) (hb : Below w.heap.size w w') : w'.ownsRow B e s v n xs := by
  refine ⟨h.1, ?_⟩
  rcases h.2 with h | ⟨g, cap, cur, h1, h2, h3, h4⟩
  · exact .inl h
  · exact .inr ⟨g, cap, cur, h1, h2, (hb.block g (lt_of_block h3)).trans h3, h4⟩
theorem own_put8 {w : World} {B n s z : Nat} {e : TypeId} {v : Value} {xs : List Value} (h : w.ownsRow B e s v n xs) (hz : z < B) (v0 v1 v2 v3 v4 v5 v6 v7 : Value) : (put8 w z v0 v1 v2 v3 v4 v5 v6 v7).ownsRow B e s v n xs :=
  own_set (own_set (own_set (own_set (own_set (own_set (own_set (own_set h (p := ⟨z, 0, none⟩) hz v0) (p := ⟨z, 1, none⟩) hz v1) (p := ⟨z, 2, none⟩) hz v2) (p := ⟨z, 3, none⟩) hz v3) (p := ⟨z, 4, none⟩) hz v4) (p := ⟨z, 5, none⟩) hz v5) (p := ⟨z, 6, none⟩) hz v6) (p := ⟨z, 7, none⟩) hz v7
theorem drew_at {w : World} {z : Nat} {o : Obj} (h : w.heap[z]? = some o) : w.drew.heap[z]? = some o := h
theorem own_drew {w : World} {B n s : Nat} {e : TypeId} {v : Value} {xs : List Value} (h : w.ownsRow B e s v n xs) : w.drew.ownsRow B e s v n xs := h
set_option maxRecDepth 10000 in
set_option maxHeartbeats 8000000 in
theorem RSnap6 (U C O sz : Int) (Am : Option Addr) (nm cm : Nat) (As : Option Addr) (ns cs : Nat) (last seq : Int) (m : List Int) (ss : List Sn) (w : World) (hm : RdI w w.heap.size Am nm m) (hr : RdN w w.heap.size As ns ss) (hn : nm ≤ 100000) (hs : ns ≤ 1000) (hmm : ∀ s ∈ ss, s.map.length ≤ 100000) :
    Calls Try.prog 26 #[hV U C O sz Am nm cm As ns cs last seq] w (SnP w ⟨U, C, O, sz, m, ss, last, seq⟩) := by
  have Hb := Lib.hid (((Below.refl w.heap.size w).alloc (Nat.le_refl _) (.cells #[.int .i64 U, .int .i64 C, .int .i64 O, .int .i64 sz, .slice Am nm cm, .slice As ns cs, .int .i64 last, .int .i64 seq] 27)).alloc (by simp) (.cells #[.int .i64 0, .int .i64 0, .int .i64 0, .int .i64 0, .slice none 0 0, .slice none 0 0, .int .i64 0, .int .i64 0] 27))
  have Hr := Lib.hid hr
  have Hm := Lib.hid hm
  have Hh := Lib.hid (show ((w.alloc (.cells #[.int .i64 U, .int .i64 C, .int .i64 O, .int .i64 sz, .slice Am nm cm, .slice As ns cs, .int .i64 last, .int .i64 seq] 27)).alloc (.cells #[.int .i64 0, .int .i64 0, .int .i64 0, .int .i64 0, .slice none 0 0, .slice none 0 0, .int .i64 0, .int .i64 0] 27)).heap[w.heap.size]? = some (.cells #[.int .i64 U, .int .i64 C, .int .i64 O, .int .i64 sz, .slice Am nm cm, .slice As ns cs, .int .i64 last, .int .i64 seq] 27 (0, 0)) from by
    rw [Below.heap_alloc _ _ _ (by simp)]; exact heap_alloc_new w _)
  have Hz := Lib.hid (heap_alloc_new (w.alloc (.cells #[.int .i64 U, .int .i64 C, .int .i64 O, .int .i64 sz, .slice Am nm cm, .slice As ns cs, .int .i64 last, .int .i64 seq] 27)) (.cells #[.int .i64 0, .int .i64 0, .int .i64 0, .int .i64 0, .slice none 0 0, .slice none 0 0, .int .i64 0, .int .i64 0] 27))
  have Hmm := Lib.hid hmm
  clear hr hm hmm
  go_enter Try.func26, Try.ntmps26
  go_upto_region 1 with fail
  generalize (w.alloc (.cells #[.int .i64 U, .int .i64 C, .int .i64 O, .int .i64 sz, .slice Am nm cm, .slice As ns cs, .int .i64 last, .int .i64 seq] 27)).alloc (.cells #[.int .i64 0, .int .i64 0, .int .i64 0, .int .i64 0, .slice none 0 0, .slice none 0 0, .int .i64 0, .int .i64 0] 27) = w1 at Hb Hh Hz ⊢
  replace Hz := Lib.hid (show w1.heap[w.heap.size + 1]? = some (.cells #[.int .i64 0, .int .i64 0, .int .i64 0, .int .i64 0, .slice none 0 0, .slice none 0 0, .int .i64 0, .int .i64 0] 27 (0, 0)) by have h := Hz.out; simpa using h)
  obtain ⟨b, hbe⟩ : ∃ b, b = w.heap.size := ⟨_, rfl⟩
  obtain ⟨z, hze⟩ : ∃ z, z = w.heap.size + 1 := ⟨_, rfl⟩
  have Hbz := Lib.hid (show w.heap.size ≤ b ∧ w.heap.size ≤ z ∧ b < z by omega)
  rw [← hze] at Hz ⊢
  rw [← hbe] at Hh ⊢
  clear hbe hze
  obtain ⟨c0, c1, c2, c3, c4, c5, c6, c7⟩ := heads_of Hh.out
  go_wp2_with fail
  refine (RMay6 U C O sz Am nm cm As ns cs last seq m ss w1 ((Hm.out.below Hb.out).more Hb.out.size) ((Hr.out.below Hb.out).more Hb.out.size) hn (by omega) Hmm.out).mono ?_
  rintro e w2 ⟨rfl, hb⟩
  replace Hh := Lib.hid ((hb.block b (lt_of_block Hh.out)).trans Hh.out)
  replace Hz := Lib.hid ((hb.block z (lt_of_block Hz.out)).trans Hz.out)
  replace Hb := Lib.hid (Hb.out.trans (hb.mono Hb.out.size))
  clear hb c0 c1 c2 c3 c4 c5 c6 c7
  obtain ⟨my, hmy⟩ : ∃ my, my = decide (MayH ⟨U, C, O, sz, m, ss, last, seq⟩) := ⟨_, rfl⟩
  rw [← hmy]
  have Hmy := Lib.hid hmy
  clear hmy
  obtain ⟨c0, c1, c2, c3, c4, c5, c6, c7⟩ := heads_of Hh.out
  obtain ⟨z0, z1, z2, z3, z4, z5, z6, z7⟩ := heads_of Hz.out
  have y0 := free_blk Hz.out 0
  have y1 := free_blk Hz.out 1
  have y2 := free_blk Hz.out 2
  have y3 := free_blk Hz.out 3
  have y4 := free_blk Hz.out 4
  have y5 := free_blk Hz.out 5
  have y6 := free_blk Hz.out 6
  have y7 := free_blk Hz.out 7
  have P8 := Lib.hid (put8_at Hz.out (.int .i64 0) (.int .i64 0) (.int .i64 0) (.int .i64 0) (.slice none 0 0) (.slice none 0 0) (.int .i64 0) (.int .i64 0))
  have B8 := Lib.hid (put8_below Hb.out (by have := Hbz.out; omega) (.int .i64 0) (.int .i64 0) (.int .i64 0) (.int .i64 0) (.slice none 0 0) (.slice none 0 0) (.int .i64 0) (.int .i64 0) (z := z))
  cases my
  · have He := Lib.hid (show snapE ⟨U, C, O, sz, m, ss, last, seq⟩ = 60 by
      unfold snapE
      rw [if_neg (by have h := Hmy.out; simpa using h)])
    go_wp2_with fail
    clear c0 c1 c2 c3 c4 c5 c6 c7 z0 z1 z2 z3 z4 z5 z6 z7 y0 y1 y2 y3 y4 y5 y6 y7
    change bodyPost _ _ _ _ _ (put8 w2 z (.int .i64 0) (.int .i64 0) (.int .i64 0) (.int .i64 0) (.slice none 0 0) (.slice none 0 0) (.int .i64 0) (.int .i64 0))
    generalize put8 w2 z (.int .i64 0) (.int .i64 0) (.int .i64 0) (.int .i64 0) (.slice none 0 0) (.slice none 0 0) (.int .i64 0) (.int .i64 0) = w3 at P8 B8 ⊢
    obtain ⟨z0, z1, z2, z3, z4, z5, z6, z7⟩ := heads_of P8.out
    exact bodyPost_ret (v := .tuple #[hV0, .int .i64 0, .int .i64 60]) (by simp [results, Try.results26, go_sem, z0, z1, z2, z3, z4, z5, z6, z7]) rfl ⟨hV0, by rw [He.out]; rfl, fun _ => rfl, fun h => absurd (He.out.symm.trans h) (by omega), B8.out⟩
  · have hmay := Lib.hid (show MayH ⟨U, C, O, sz, m, ss, last, seq⟩ by have h := Hmy.out; simpa using h.symm)
    have hl0 : 0 ≤ last := hmay.out.2.2.2.1.1
    have hl1 : last ≤ 100 := hmay.out.2.2.2.1.2
    have Hlen := Lib.hid Hr.out.1
    by_cases g : 4 ≤ ns ∨ 100 ≤ last
    · have He := Lib.hid (show snapE ⟨U, C, O, sz, m, ss, last, seq⟩ = 110 by
        unfold snapE
        rw [if_pos hmay.out, if_pos (by rw [Hlen.out]; exact g)])
      by_cases g1 : 4 ≤ ns
      · have g1' : (4 : Int) ≤ (ns : Int) := by omega
        clear g
        go_wp2_with fail
        clear c0 c1 c2 c3 c4 c5 c6 c7 z0 z1 z2 z3 z4 z5 z6 z7 y0 y1 y2 y3 y4 y5 y6 y7
        change bodyPost _ _ _ _ _ (put8 w2 z (.int .i64 0) (.int .i64 0) (.int .i64 0) (.int .i64 0) (.slice none 0 0) (.slice none 0 0) (.int .i64 0) (.int .i64 0))
        generalize put8 w2 z (.int .i64 0) (.int .i64 0) (.int .i64 0) (.int .i64 0) (.slice none 0 0) (.slice none 0 0) (.int .i64 0) (.int .i64 0) = w3 at P8 B8 ⊢
        obtain ⟨z0, z1, z2, z3, z4, z5, z6, z7⟩ := heads_of P8.out
        exact bodyPost_ret (v := .tuple #[hV0, .int .i64 0, .int .i64 110]) (by simp [results, Try.results26, go_sem, z0, z1, z2, z3, z4, z5, z6, z7]) rfl ⟨hV0, by rw [He.out]; rfl, fun _ => rfl, fun h => absurd (He.out.symm.trans h) (by omega), B8.out⟩
      · have g2 : 100 ≤ last := g.resolve_left g1
        have g1' : (ns : Int) < (4 : Int) := by omega
        clear g
        go_wp2_with fail
        clear c0 c1 c2 c3 c4 c5 c6 c7 z0 z1 z2 z3 z4 z5 z6 z7 y0 y1 y2 y3 y4 y5 y6 y7
        change bodyPost _ _ _ _ _ (put8 w2 z (.int .i64 0) (.int .i64 0) (.int .i64 0) (.int .i64 0) (.slice none 0 0) (.slice none 0 0) (.int .i64 0) (.int .i64 0))
        generalize put8 w2 z (.int .i64 0) (.int .i64 0) (.int .i64 0) (.int .i64 0) (.slice none 0 0) (.slice none 0 0) (.int .i64 0) (.int .i64 0) = w3 at P8 B8 ⊢
        obtain ⟨z0, z1, z2, z3, z4, z5, z6, z7⟩ := heads_of P8.out
        exact bodyPost_ret (v := .tuple #[hV0, .int .i64 0, .int .i64 110]) (by simp [results, Try.results26, go_sem, z0, z1, z2, z3, z4, z5, z6, z7]) rfl ⟨hV0, by rw [He.out]; rfl, fun _ => rfl, fun h => absurd (He.out.symm.trans h) (by omega), B8.out⟩
    · have He := Lib.hid (show snapE ⟨U, C, O, sz, m, ss, last, seq⟩ = 0 by
        unfold snapE
        rw [if_pos hmay.out, if_neg (by rw [Hlen.out]; exact g)])
      have g1' : (ns : Int) < (4 : Int) := by omega
      have g1 : ns < 4 := by omega
      have g2 : last < 100 := by omega
      clear g P8 B8 z0 z1 z2 z3 z4 z5 z6 z7 y0 y1 y2 y3 y4 y5 y6 y7
      have y6 := free_blk Hh.out 6
      go_upto_region 8 with fail
      have Hh3 := Lib.hid (show (w2.setCell ⟨b, 6, none⟩ (.int .i64 (last + 1))).heap[b]? = some (.cells #[.int .i64 U, .int .i64 C, .int .i64 O, .int .i64 sz, .slice Am nm cm, .slice As ns cs, .int .i64 (last + 1), .int .i64 seq] 27 (0, 0)) from set_blk Hh.out 6 _)
      have Hz3 := Lib.hid ((Below.heap_setCell w2 ⟨b, 6, none⟩ (.int .i64 (last + 1)) z (by have := Hbz.out; show z ≠ b; omega)).trans Hz.out)
      have Hb3 := Lib.hid (Hb.out.setCell (p := ⟨b, 6, none⟩) (by have := Hbz.out; show _ ≤ b; omega) (.int .i64 (last + 1)))
      clear c0 c1 c2 c3 c4 c5 c6 c7 y6 Hh Hz Hb
      generalize w2.setCell ⟨b, 6, none⟩ (.int .i64 (last + 1)) = w3 at Hh3 Hz3 Hb3 ⊢
      obtain ⟨c0, c1, c2, c3, c4, c5, c6, c7⟩ := heads_of Hh3.out
      obtain ⟨vs, hvs, hvl, hva, hvr⟩ := Hr.out.vals
      have Hvs := Lib.hid hvs
      have Hvl := Lib.hid hvl
      have Hva := Lib.hid hva
      have Hsrc := Lib.hid (show 0 < ns → ∃ ad, As = some ad ∧ ∀ j u, (flatN vs)[j]? = some u → w3.cell? (ad.add j) = some u from fun h0 => by
        obtain ⟨ad, e1, e2⟩ := hvr h0
        refine ⟨ad, e1, fun j u hu => ?_⟩
        have h := e2 j u hu
        exact (Hb3.out.cell (World.block_lt_of_cell? w _ h)).trans h)
      have Hfl := Lib.hid (show (flatN vs).length = ns * 3 by rw [flatN_len, hvl])
      clear hvs hvl hva hvr
      obtain ⟨inf, hi, hz0, hz1, hz2⟩ := info_parts Try.infoN
      go_upto_region 9 with (at_builtin; refine wpList_append_rdK rfl (.tmp 26) (.tmp 28) 25 rfl w3.heap.size 52 inf (.agg #[.int .i64 0, .int .i64 0, .slice none 0 0]) 3 40 Try.underlying25 hi hz0 hz1 hz2 rfl (by decide) _ 0 [] rfl (World.ownsRow_nil _ _ _ _) As ns cs (flatN vs) rfl Hfl.out Hsrc.out (flatN_one _) (by simp only [maxLen]; omega) (by omega) (Nat.le_refl _) ?_; intro v4 w4 hown4 hg4; rw [Nat.zero_add, List.nil_append] at hown4; obtain ⟨A4, c4', rfl, _, _⟩ := ownF hown4; have Hb34 := Lib.hid ((Below.refl w3.heap.size w3).grown hg4 (Nat.le_refl _) (fun k hk => by have h : (none : Option Nat) = some k := hk; cases h)); have Hown4 := Lib.hid hown4; clear hown4 hg4)
      clear Hsrc c0 c1 c2 c3 c4 c5 c6 c7
      have Hh4 := Lib.hid ((Hb34.out.block b (lt_of_block Hh3.out)).trans Hh3.out)
      have Hz4 := Lib.hid ((Hb34.out.block z (lt_of_block Hz3.out)).trans Hz3.out)
      have Hb4 := Lib.hid (Hb3.out.trans (Hb34.out.mono Hb3.out.size))
      have Hb3b := Lib.hid (lt_of_block Hh3.out)
      have Hb3z := Lib.hid (lt_of_block Hz3.out)
      have Hs34 := Lib.hid Hb34.out.size
      clear Hh3 Hz3 Hb3
      obtain ⟨c0, c1, c2, c3, c4, c5, c6, c7⟩ := heads_of Hh4.out
      go_upto_region 10 with (at_builtin; refine wpList_append_own _ rfl (.tmp 30) (.tmp 38) 25 rfl w3.heap.size 52 inf (.agg #[.int .i64 0, .int .i64 0, .slice none 0 0]) 3 40 Try.underlying25 hi hz0 hz1 hz2 rfl (by decide) _ ns (flatN vs) rfl (Hown4.out.alloc _) ⟨w4.heap.size, 0, none⟩ 1 1 [.int .i64 (last + 1), .int .i64 sz, .slice Am nm cm] rfl rfl (three_at _ _ _ _ _ _ rfl) (three_one _ _ _ _ _) (by simp only [maxLen]; omega) (by omega) (by have := Hs34.out; simp; omega) ?_; intro v5 w5 hown5 hg5 _; obtain ⟨A5, c5', rfl, _, _⟩ := ownF hown5; have Hb45 := Lib.hid (((Below.refl w3.heap.size w4).alloc Hs34.out (.cells #[.int .i64 (last + 1), .int .i64 sz, .slice Am nm cm] 52)).grown hg5 (by have := Hs34.out; simp; omega) (fun k hk => (Hown4.out.lt k hk).1)); have Hown5 := Lib.hid hown5; clear hown5 hg5)
      clear c0 c1 c2 c3 c4 c5 c6 c7
      replace Hown5 := Lib.hid (show w5.ownsRow w3.heap.size 52 3 (.slice A5 (ns + 1) c5') (ns + 1) (flatN (vs ++ [⟨⟨last + 1, sz, m⟩, Am, nm, cm⟩])) from by rw [flatN_app]; exact Hown5.out)
      have Hh5 := Lib.hid ((Hb45.out.block b Hb3b.out).trans Hh4.out)
      have Hz5 := Lib.hid ((Hb45.out.block z Hb3z.out).trans Hz4.out)
      have Hb5 := Lib.hid (Hb4.out.trans (Hb45.out.mono (by have := Hbz.out; have := Hb3b.out; omega)))
      clear Hh4 Hz4 Hb4 Hb34
      obtain ⟨c0, c1, c2, c3, c4, c5, c6, c7⟩ := heads_of Hh5.out
      have y5 := free_blk Hh5.out 5
      go_upto_region 11 with fail
      have Hh6 := Lib.hid (show (w5.setCell ⟨b, 5, none⟩ (.slice A5 (ns + 1) c5')).heap[b]? = some (.cells #[.int .i64 U, .int .i64 C, .int .i64 O, .int .i64 sz, .slice Am nm cm, .slice A5 (ns + 1) c5', .int .i64 (last + 1), .int .i64 seq] 27 (0, 0)) from set_blk Hh5.out 5 _)
      have Hz6 := Lib.hid ((Below.heap_setCell w5 ⟨b, 5, none⟩ (.slice A5 (ns + 1) c5') z (by have := Hbz.out; show z ≠ b; omega)).trans Hz5.out)
      have Hb6 := Lib.hid (Hb5.out.setCell (p := ⟨b, 5, none⟩) (by have := Hbz.out; show _ ≤ b; omega) (.slice A5 (ns + 1) c5'))
      have Hown6 := Lib.hid (own_set Hown5.out (p := ⟨b, 5, none⟩) Hb3b.out (.slice A5 (ns + 1) c5'))
      clear c0 c1 c2 c3 c4 c5 c6 c7 y5 Hh5 Hz5 Hb5 Hown5 Hown4 Hb45 Hs34
      generalize w5.setCell ⟨b, 5, none⟩ (.slice A5 (ns + 1) c5') = w6 at Hh6 Hz6 Hb6 Hown6 ⊢
      obtain ⟨c0, c1, c2, c3, c4, c5, c6, c7⟩ := heads_of Hh6.out
      have HF := Lib.hid (RFresh_any Am nm cm m w6 ((Hm.out.below Hb6.out).more Hb6.out.size) hn)
      have hb6 := Lib.hid (lt_of_block Hh6.out)
      have hz6 := Lib.hid (lt_of_block Hz6.out)
      go_wp2_with fail
      refine HF.out.mono ?_
      rintro e w7 ⟨v7, rfl, hown7, hb7⟩
      obtain ⟨A7, c7', rfl, _, _⟩ := ownI hown7
      have Hown7 := Lib.hid hown7
      have Hh7 := Lib.hid ((hb7.block b hb6.out).trans Hh6.out)
      have Hz7 := Lib.hid ((hb7.block z hz6.out).trans Hz6.out)
      have Hb7 := Lib.hid (Hb6.out.trans (hb7.mono Hb6.out.size))
      have Hsn7 := Lib.hid (own_to Hown6.out hb7)
      clear hown7 hb7 HF c0 c1 c2 c3 c4 c5 c6 c7 Hh6 Hz6 Hb6 Hown6
      obtain ⟨l7, hl7⟩ : ∃ l7, l7 = (freshO m).length := ⟨_, rfl⟩
      rw [← hl7] at Hown7 ⊢
      have Hl7 := Lib.hid hl7
      clear hl7
      obtain ⟨c0, c1, c2, c3, c4, c5, c6, c7⟩ := heads_of Hh7.out
      have y4 := free_blk Hh7.out 4
      go_upto_region 12 with fail
      have Hh8 := Lib.hid (show (w7.setCell ⟨b, 4, none⟩ (.slice A7 l7 c7')).heap[b]? = some (.cells #[.int .i64 U, .int .i64 C, .int .i64 O, .int .i64 sz, .slice A7 l7 c7', .slice A5 (ns + 1) c5', .int .i64 (last + 1), .int .i64 seq] 27 (0, 0)) from set_blk Hh7.out 4 _)
      have Hz8 := Lib.hid ((Below.heap_setCell w7 ⟨b, 4, none⟩ (.slice A7 l7 c7') z (by have := Hbz.out; show z ≠ b; omega)).trans Hz7.out)
      have Hb8 := Lib.hid (Hb7.out.setCell (p := ⟨b, 4, none⟩) (by have := Hbz.out; show _ ≤ b; omega) (.slice A7 l7 c7'))
      have Hmp8 := Lib.hid (own_set Hown7.out (p := ⟨b, 4, none⟩) hb6.out (.slice A7 l7 c7'))
      have Hsn8 := Lib.hid (own_set Hsn7.out (p := ⟨b, 4, none⟩) Hb3b.out (.slice A7 l7 c7'))
      clear c0 c1 c2 c3 c4 c5 c6 c7 y4 Hh7 Hz7 Hb7 Hsn7 Hown7
      generalize w7.setCell ⟨b, 4, none⟩ (.slice A7 l7 c7') = w8 at Hh8 Hz8 Hb8 Hmp8 Hsn8 ⊢
      obtain ⟨c0, c1, c2, c3, c4, c5, c6, c7⟩ := heads_of Hh8.out
      obtain ⟨z0, z1, z2, z3, z4, z5, z6, z7⟩ := heads_of Hz8.out
      have y0 := free_blk Hz8.out 0
      have y1 := free_blk Hz8.out 1
      have y2 := free_blk Hz8.out 2
      have y3 := free_blk Hz8.out 3
      have y4 := free_blk Hz8.out 4
      have y5 := free_blk Hz8.out 5
      have y6 := free_blk Hz8.out 6
      have y7 := free_blk Hz8.out 7
      have hne : (z == b) = false := by have := Hbz.out; simp; omega
      have hne2 : z ≠ b := by have := Hbz.out; omega
      go_region
      have P9 := Lib.hid (drew_at (put8_at Hz8.out (.int .i64 U) (.int .i64 C) (.int .i64 O) (.int .i64 sz) (.slice A7 l7 c7') (.slice A5 (ns + 1) c5') (.int .i64 (last + 1)) (.int .i64 seq)))
      have B9 := Lib.hid (put8_below Hb8.out (by have := Hbz.out; omega) (.int .i64 U) (.int .i64 C) (.int .i64 O) (.int .i64 sz) (.slice A7 l7 c7') (.slice A5 (ns + 1) c5') (.int .i64 (last + 1)) (.int .i64 seq) (z := z)).drew
      have M9 := Lib.hid (own_drew (own_put8 Hmp8.out hz6.out (.int .i64 U) (.int .i64 C) (.int .i64 O) (.int .i64 sz) (.slice A7 l7 c7') (.slice A5 (ns + 1) c5') (.int .i64 (last + 1)) (.int .i64 seq)))
      have S9 := Lib.hid (own_drew (own_put8 Hsn8.out Hb3z.out (.int .i64 U) (.int .i64 C) (.int .i64 O) (.int .i64 sz) (.slice A7 l7 c7') (.slice A5 (ns + 1) c5') (.int .i64 (last + 1)) (.int .i64 seq)))
      clear c0 c1 c2 c3 c4 c5 c6 c7 z0 z1 z2 z3 z4 z5 z6 z7 y0 y1 y2 y3 y4 y5 y6 y7 hne hne2
      change Exit.then _ _ _ _ (put8 w8 z (.int .i64 U) (.int .i64 C) (.int .i64 O) (.int .i64 sz) (.slice A7 l7 c7') (.slice A5 (ns + 1) c5') (.int .i64 (last + 1)) (.int .i64 seq)).drew
      generalize (put8 w8 z (.int .i64 U) (.int .i64 C) (.int .i64 O) (.int .i64 sz) (.slice A7 l7 c7') (.slice A5 (ns + 1) c5') (.int .i64 (last + 1)) (.int .i64 seq)).drew = w9 at P9 B9 M9 S9 ⊢
      obtain ⟨z0, z1, z2, z3, z4, z5, z6, z7⟩ := heads_of P9.out
      go_wp2_with fail
      refine bodyPost_ret (v := .tuple #[hV U C O sz A7 l7 c7' A5 (ns + 1) c5' (last + 1) seq, .int .i64 (last + 1), .int .i64 0]) (by simp [results, Try.results26, go_sem, z0, z1, z2, z3, z4, z5, z6, z7]) rfl ⟨_, by rw [He.out]; rfl, fun h => absurd He.out h, fun _ => ⟨A7, l7, c7', A5, ns + 1, c5', rfl, ?_, ?_, ?_⟩, B9.out⟩
      · have h := M9.out
        rw [Hl7.out] at h ⊢
        exact RdI.own h
      · rw [Hl7.out]
        exact Nat.le_trans (freshO_is m).1 (by omega)
      · have h := RdN.own S9.out (by simp [Hvl.out]) (fun p hp => by
          rcases List.mem_append.1 hp with hp | hp
          · exact (Hva.out p hp).to B9.out
          · simp at hp
            subst hp
            exact ⟨(Hm.out.below B9.out).more B9.out.size, by show nm ≤ 9223372036854775807; omega⟩)
        rw [List.map_append, Hvs.out] at h
        exact h
end Go.Proofs.Ytaobdebeglenaaa
