/- The walk of the law HeadMisses. (Written by wip/genhd.py.) -/
import Derived.Test.YtaobdebeglenaaaMk
import Derived.Test.YtaobdebeglenaaaMl
import Derived.Deep.RegionHeld3
namespace Go.Proofs.Ytaobdebeglenaaa
open Go.ChangeShapes Go.WideShapes Go.ChangeAt Go.RowKit Go.Joins

set_option maxRecDepth 10000 in
set_option maxHeartbeats 1000000 in
theorem in6 (A : Option Addr) (n c : Nat) (l : List Int) (x : Int) (w : World) (h : Hid (IAt w A n l)) : Calls Try.prog 32 #[.slice A n c, .int .i64 x] w fun e w' => e = .returned (.bool (decide (x ∈ l))) ∧ w = w' := by
  have Hn := Lib.hid h.out.2
  have Hr := Lib.hid h.out.1
  clear h
  have hn : n ≤ 3000 := Hn.out
  go_enter Try.func32, Try.ntmps32
  go_wp2_with fail
  go_loopw [5] (fun i wr => wr = w ∧ ∃ j : Nat, j ≤ n ∧ i = .int .i64 j ∧ Hid (x ∉ l.take j)) (fun i _ => n - (intOf i).toNat)
  case atStart => exact ⟨rfl, 0, Nat.zero_le _, rfl, by show x ∉ l.take 0; simp⟩
  case round =>
    obtain ⟨rfl, j, hj, rfl, Hj⟩ := hrel
    by_cases hjn : j < n
    · have hjl : j < l.length := by rw [Hr.out.1]; exact hjn
      obtain ⟨ad, rfl, _, hc⟩ := Hr.out.cellAt hjn
      have Hst := Lib.hid (List.take_succ_eq_append_getElem hjl)
      have Hmem : Hid (l[j] ∈ l) := List.getElem_mem hjl
      generalize l[j] = y at hc Hst Hmem
      have hj0 : (0 : Int) ≤ (j : Int) := by omega
      have hj1 : (j : Int) < (n : Int) := by omega
      clear hjl
      by_cases hx : y = x
      · subst hx
        have He := Lib.hid (show decide (y ∈ l) = true from decide_eq_true Hmem.out)
        go_wp2_with fail
        go_ret
        exact ⟨by first | (rw [He.out]; done) | (rw [He.out]; rfl), rfl⟩
      · have hb : (y == x) = false := by simpa using hx
        have Hj2 : Hid (x ∉ l.take (j + 1)) := by
          show x ∉ _
          rw [Hst.out]
          intro q
          rcases List.mem_append.1 q with q | q
          · exact Hj.out q
          · simp at q; exact hx q.symm
        clear Hst
        go_wp2_with fail
        go_roundw
        case rel => exact ⟨by first | rfl | trivial, j + 1, by omega, by go_num, Hj2⟩
        case measure => simp [intOf]; omega
    · obtain rfl : j = n := by omega
      have He := Lib.hid (show decide (x ∈ l) = false from decide_eq_false (by have h := Hj.out; rwa [List.take_of_length_le (by rw [Hr.out.1]; exact Nat.le_refl _)] at h))
      go_wp2_with fail
      go_ret
      exact ⟨by first | (rw [He.out]; done) | (rw [He.out]; rfl), rfl⟩
/-- where two snapshots' maps lie -/
theorem snapAt2 {w : World} {g : Hd} {U C O sz last seq : Int} {Am As : Option Addr} {nm ns a k : Nat} (X : Hid (HVl w g U C O sz Am nm As ns last seq)) (ha : a < g.snaps.length) (hk : k < g.snaps.length) :
    ∃ gg o A1 n1 c1 A2 n2 c2, As = some ⟨gg, o, none⟩ ∧ gg < w.heap.size ∧ w.cell? ⟨gg, o + a * 3 + 2, none⟩ = some (.slice A1 n1 c1) ∧ Hid (IAt w A1 n1 (goneH g.snaps a)) ∧ w.cell? ⟨gg, o + k * 3 + 2, none⟩ = some (.slice A2 n2 c2) ∧ Hid (IAt w A2 n2 (goneH g.snaps k)) := by
  have hl := X.out.2.2.2.2.2
  obtain ⟨gg, o, A1, n1, c1, r1, g1, _, _, p1, i1, _⟩ := X.out.2.2.2.1.2 a ha
  obtain ⟨g2, o2, A2, n2, c2, r2, _, _, _, p2, i2, _⟩ := X.out.2.2.2.1.2 k hk
  rw [r1] at r2
  cases r2
  refine ⟨gg, o, A1, n1, c1, A2, n2, c2, r1, g1, p1, ⟨?_, ?_⟩, p2, ⟨?_, ?_⟩⟩
  · unfold goneH; rw [List.getElem?_eq_getElem ha]; exact i1
  · rw [← i1.1]; exact hl _ (List.getElem_mem _)
  · unfold goneH; rw [List.getElem?_eq_getElem hk]; exact i2
  · rw [← i2.1]; exact hl _ (List.getElem_mem _)
def S9 (b : Nat) (v0 v1 v2 v3 v4 v5 v6 v7 : Value) (p : Addr) (v : Value) (W0 W : World) : Prop :=
  W.cell? p = some v ∧ W.cell? ⟨b, 0, none⟩ = some v0 ∧ W.cell? ⟨b, 1, none⟩ = some v1 ∧ W.cell? ⟨b, 2, none⟩ = some v2 ∧ W.cell? ⟨b, 3, none⟩ = some v3 ∧ W.cell? ⟨b, 4, none⟩ = some v4 ∧ W.cell? ⟨b, 5, none⟩ = some v5 ∧ W.cell? ⟨b, 6, none⟩ = some v6 ∧ W.cell? ⟨b, 7, none⟩ = some v7 ∧ Hid (Below W0.heap.size W0 W)
theorem keep9 {b : Nat} {v0 v1 v2 v3 v4 v5 v6 v7 v : Value} {p : Addr} {W0 W w1 : World} (h : W.cell? p = some v ∧ W.cell? ⟨b, 0, none⟩ = some v0 ∧ W.cell? ⟨b, 1, none⟩ = some v1 ∧ W.cell? ⟨b, 2, none⟩ = some v2 ∧ W.cell? ⟨b, 3, none⟩ = some v3 ∧ W.cell? ⟨b, 4, none⟩ = some v4 ∧ W.cell? ⟨b, 5, none⟩ = some v5 ∧ W.cell? ⟨b, 6, none⟩ = some v6 ∧ W.cell? ⟨b, 7, none⟩ = some v7 ∧ Hid (Below W0.heap.size W0 W)) (hb : Hid (Below W.heap.size W w1)) :
    w1.cell? p = some v ∧ w1.cell? ⟨b, 0, none⟩ = some v0 ∧ w1.cell? ⟨b, 1, none⟩ = some v1 ∧ w1.cell? ⟨b, 2, none⟩ = some v2 ∧ w1.cell? ⟨b, 3, none⟩ = some v3 ∧ w1.cell? ⟨b, 4, none⟩ = some v4 ∧ w1.cell? ⟨b, 5, none⟩ = some v5 ∧ w1.cell? ⟨b, 6, none⟩ = some v6 ∧ w1.cell? ⟨b, 7, none⟩ = some v7 ∧ Hid (Below W0.heap.size W0 w1) :=
  ⟨(hb.out.cell (World.block_lt_of_cell? W _ h.1)).trans h.1, keep8 h.2 hb⟩
theorem last9 {b : Nat} {v0 v1 v2 v3 v4 v5 v6 v7 v : Value} {p : Addr} {W0 W : World} (h : W.cell? p = some v ∧ W.cell? ⟨b, 0, none⟩ = some v0 ∧ W.cell? ⟨b, 1, none⟩ = some v1 ∧ W.cell? ⟨b, 2, none⟩ = some v2 ∧ W.cell? ⟨b, 3, none⟩ = some v3 ∧ W.cell? ⟨b, 4, none⟩ = some v4 ∧ W.cell? ⟨b, 5, none⟩ = some v5 ∧ W.cell? ⟨b, 6, none⟩ = some v6 ∧ W.cell? ⟨b, 7, none⟩ = some v7 ∧ Hid (Below W0.heap.size W0 W)) : Hid (Below W0.heap.size W0 W) := h.2.2.2.2.2.2.2.2.2
theorem start9 {b : Nat} {v0 v1 v2 v3 v4 v5 v6 v7 v : Value} {p : Addr} {W : World} {t : TypeId} (hp : Hid (W.cell? p = some v)) (h : Hid (W.heap[b]? = some (.cells #[v0, v1, v2, v3, v4, v5, v6, v7] t (0, 0)))) :
    W.cell? p = some v ∧ W.cell? ⟨b, 0, none⟩ = some v0 ∧ W.cell? ⟨b, 1, none⟩ = some v1 ∧ W.cell? ⟨b, 2, none⟩ = some v2 ∧ W.cell? ⟨b, 3, none⟩ = some v3 ∧ W.cell? ⟨b, 4, none⟩ = some v4 ∧ W.cell? ⟨b, 5, none⟩ = some v5 ∧ W.cell? ⟨b, 6, none⟩ = some v6 ∧ W.cell? ⟨b, 7, none⟩ = some v7 ∧ Hid (Below W.heap.size W W) := ⟨hp.out, start8 h⟩
theorem startD9 {b : Nat} {v0 v1 v2 v3 v4 v5 v6 v7 v : Value} {p : Addr} {W : World} {t : TypeId} (hp : Hid (W.cell? p = some v)) (h : Hid (W.heap[b]? = some (.cells #[v0, v1, v2, v3, v4, v5, v6, v7] t (0, 0)))) :
    W.drew.cell? p = some v ∧ W.drew.cell? ⟨b, 0, none⟩ = some v0 ∧ W.drew.cell? ⟨b, 1, none⟩ = some v1 ∧ W.drew.cell? ⟨b, 2, none⟩ = some v2 ∧ W.drew.cell? ⟨b, 3, none⟩ = some v3 ∧ W.drew.cell? ⟨b, 4, none⟩ = some v4 ∧ W.drew.cell? ⟨b, 5, none⟩ = some v5 ∧ W.drew.cell? ⟨b, 6, none⟩ = some v6 ∧ W.drew.cell? ⟨b, 7, none⟩ = some v7 ∧ Hid (Below W.heap.size W W.drew) := ⟨hp.out, startD8 h⟩
theorem cell_hid {w w' : World} {p : Addr} {v : Value} (h : Hid (w.cell? p = some v)) (hb : Hid (Below w.heap.size w w')) : Hid (w'.cell? p = some v) := (hb.out.cell (World.block_lt_of_cell? w _ h.out)).trans h.out
theorem may_of_diff {g : Hd} {f : Int} (h : diffE g f 0 = 0) : MayH g := by
  unfold diffE at h
  by_cases q : MayH g
  · exact q
  · rw [if_neg q] at h; exact absurd h (by decide)
theorem iat_at {w : World} {A : Option Addr} {n : Nat} {l : List Int} (h : Hid (IAt w A n l)) {j : Nat} (hj : j < n) : ∃ ad x, A = some ad ∧ w.cell? (ad.add j) = some (.int .i64 x) ∧ Hid (x ∈ l) := by
  obtain ⟨ad, rfl, _, hc⟩ := h.out.1.cellAt hj
  have hjl : j < l.length := by rw [h.out.1.1]; exact hj
  exact ⟨ad, l[j], rfl, hc, List.getElem_mem hjl⟩

set_option maxRecDepth 10000 in
set_option maxHeartbeats 8000000 in
theorem HeadMisses_core (U C O sz last seq : Int) (Am As : Option Addr) (nm cm ns cs : Nat) (m : List Int) (ss : List Sn) (f x : Int) (W : World) (hm : RdI W W.heap.size Am nm m) (hs : RdN W W.heap.size As ns ss) (_hn : nm ≤ 9223372036854775807) (hk : ns ≤ cs ∧ cs ≤ 9223372036854775807) :
    Calls Try.prog 9 #[hV U C O sz Am nm cm As ns cs last seq, .int .i64 f, .int .i64 x] W (Yes W) := by
  have Hm := Lib.hid hm
  have Hs := Lib.hid hs
  have K := Lib.hid hk
  clear hm hs hk
  go_enter Try.func9, Try.ntmps9
  go_upto_region 1 with fail
  have B := alB6 W (.cells #[.int .i64 U, .int .i64 C, .int .i64 O, .int .i64 sz, .slice Am nm cm, .slice As ns cs, .int .i64 last, .int .i64 seq] 27)
  have Bx := Lib.hid (heap_alloc_new W (.cells #[.int .i64 U, .int .i64 C, .int .i64 O, .int .i64 sz, .slice Am nm cm, .slice As ns cs, .int .i64 last, .int .i64 seq] 27))
  obtain ⟨b, hblk⟩ : ∃ b, b = W.heap.size := ⟨_, rfl⟩
  rw [← hblk] at Bx ⊢
  clear hblk
  generalize W.alloc (.cells #[.int .i64 U, .int .i64 C, .int .i64 O, .int .i64 sz, .slice Am nm cm, .slice As ns cs, .int .i64 last, .int .i64 seq] 27) = w0 at B Bx ⊢
  go_wp2_with fail
  refine (awake6 _).mono ?_
  rintro e w1 ⟨rfl, hb0⟩
  have hb := Lib.hid hb0
  replace Bx := blk_keep Bx hb
  replace B := belO6 B hb
  clear hb hb0
  obtain ⟨ca0, ca1, ca2, ca3, ca4, ca5, ca6, ca7⟩ := heads_of Bx.out
  go_wp2_with fail
  refine (rFew cm cs ((Hs.out.below B.out).more B.out.size)).mono ?_
  rintro e w2 ⟨rfl, hb⟩
  replace Bx := blk_keep Bx hb
  replace B := belO6 B hb
  clear ca0 ca1 ca2 ca3 ca4 ca5 ca6 ca7
  clear hb
  by_cases hf : fewB nm ns ss = true
  · have X := few_hv (U := U) (C := C) (O := O) (sz := sz) (last := last) (seq := seq) ((Hm.out.below B.out).more B.out.size) ((Hs.out.below B.out).more B.out.size) hf
    rw [hf]
    clear hf Hm Hs
    obtain ⟨g, hg⟩ : ∃ g : Hd, g = ⟨U, C, O, sz, m, ss, last, seq⟩ := ⟨_, rfl⟩
    rw [← hg] at X
    have Hg := Lib.hid hg
    clear hg
    by_cases hfx : f < x
    · have Hfx := Lib.hid hfx
      obtain ⟨E1, hE1⟩ : ∃ E, E = diffE g f 0 := ⟨_, rfl⟩
      have HE1 := Lib.hid hE1
      clear hE1
      obtain ⟨E2, hE2⟩ : ∃ E, E = dropE g x := ⟨_, rfl⟩
      have HE2 := Lib.hid hE2
      clear hE2
      obtain ⟨ca0, ca1, ca2, ca3, ca4, ca5, ca6, ca7⟩ := heads_of Bx.out
      go_wp2_with fail
      refine (pDiff cm cs f 0 X K).mono ?_
      rw [← HE1.out]
      rintro e w3 ⟨A1, n1, c1, rfl, D1, hb⟩
      replace Bx := blk_keep Bx hb
      replace B := belO6 B hb
      replace X := HVl.keep X hb
      clear ca0 ca1 ca2 ca3 ca4 ca5 ca6 ca7
      clear hb
      clear hfx
      obtain ⟨ca0, ca1, ca2, ca3, ca4, ca5, ca6, ca7⟩ := heads_of Bx.out
      go_wp2_with fail
      refine (pDrop cm cs x X K).mono ?_
      rw [← HE2.out]
      rintro e w4 ⟨U1, C1, O1, sz1, Am1, nm1, cm1, As1, ns1, cs1, last1, seq1, rfl, X1, K1, hb⟩
      replace Bx := blk_keep Bx hb
      replace B := belO6 B hb
      replace X := HVl.keep X hb
      replace D1 := IAt.keep D1 hb
      clear ca0 ca1 ca2 ca3 ca4 ca5 ca6 ca7
      clear hb
      go_upto_region 9 with fail
      have BA := alB6 w4 (.cells #[.int .i64 U1, .int .i64 C1, .int .i64 O1, .int .i64 sz1, .slice Am1 nm1 cm1, .slice As1 ns1 cs1, .int .i64 last1, .int .i64 seq1] 27)
      have B1 := Lib.hid (heap_alloc_new w4 (.cells #[.int .i64 U1, .int .i64 C1, .int .i64 O1, .int .i64 sz1, .slice Am1 nm1 cm1, .slice As1 ns1 cs1, .int .i64 last1, .int .i64 seq1] 27))
      obtain ⟨b1, hblk⟩ : ∃ b, b = w4.heap.size := ⟨_, rfl⟩
      rw [← hblk] at B1 ⊢
      clear hblk
      replace Bx := blk_keep Bx BA
      replace B := belO6 B BA
      replace X := HVl.keep X BA
      replace D1 := IAt.keep D1 BA
      replace X1 := HVl.keep X1 BA
      clear BA
      generalize w4.alloc (.cells #[.int .i64 U1, .int .i64 C1, .int .i64 O1, .int .i64 sz1, .slice Am1 nm1 cm1, .slice As1 ns1 cs1, .int .i64 last1, .int .i64 seq1] 27) = w5 at Bx B X D1 X1 B1 ⊢
      by_cases hq1 : E1 = 0
      · subst hq1
        by_cases hq2 : E2 = 0
        · subst hq2
          obtain ⟨hm1, hm2, hm3, a, k, ha, hk2, hal, hkl⟩ := misses (may_of_diff HE1.out.symm) Hfx.out HE1.out.symm HE2.out.symm
          have Hm1 := Lib.hid hm1
          have Hm2 := Lib.hid hm2
          have Hm3 := Lib.hid hm3
          have Ha := Lib.hid ha
          have Hk := Lib.hid hk2
          have Hal := Lib.hid hal
          have Hkl := Lib.hid hkl
          clear hm1 hm2 hm3 ha hk2 hal hkl
          obtain ⟨ca0, ca1, ca2, ca3, ca4, ca5, ca6, ca7⟩ := heads_of B1.out
          go_wp2_with fail
          refine (pDiff cm1 cs1 f 0 X1 K1).mono ?_
          rw [Hm1.out]
          rintro e w6 ⟨A2, n2, c2, rfl, D2, hb⟩
          replace Bx := blk_keep Bx hb
          replace B := belO6 B hb
          replace X := HVl.keep X hb
          replace D1 := IAt.keep D1 hb
          replace X1 := HVl.keep X1 hb
          replace B1 := blk_keep B1 hb
          clear ca0 ca1 ca2 ca3 ca4 ca5 ca6 ca7
          clear hb
          clear Hm1 HE1 HE2
          generalize diffX (dropX g x) f 0 = L2 at D2 Hm2 Hm3
          generalize diffX g f 0 = L1 at D1 Hm2 Hm3
          clear X1 B1
          rw [Ha.out, Hk.out, Int.toNat_natCast, Int.toNat_natCast] at Hm3
          obtain ⟨gg, o, Aa, na, ca, Ak, nk, ck, rfl, _, pa, ia, pk, ik⟩ := snapAt2 X Hal.out Hkl.out
          have Pa := Lib.hid pa
          have Pk := Lib.hid pk
          clear pa pk
          have hn2 : n2 ≤ 3000 := D2.out.2
          have hn1 : n1 ≤ 3000 := D1.out.2
          go_upto_region 14 with fail
          go_wp2_with fail
          go_loopw [15] (fun i wr => wr = w6 ∧ ∃ j : Nat, j ≤ n2 ∧ i = .int .i64 j) (fun i _ => n2 - (intOf i).toNat)
          case atStart => exact ⟨rfl, 0, Nat.zero_le _, rfl⟩
          case round =>
          obtain ⟨rfl, j, hj, rfl⟩ := hrel
          by_cases hjn : j < n2
          · obtain ⟨ad, y, rfl, hc, hy⟩ := iat_at D2 hjn
            have hj0 : (0 : Int) ≤ (j : Int) := by omega
            have hj1 : (j : Int) < (n2 : Int) := by omega
            go_wp2_with fail
            refine (in6 A1 n1 c1 L1 y wr D1).mono ?_
            rw [decide_eq_true (Hm2.out y hy.out)]
            rintro e wx ⟨rfl, rfl⟩
            go_wp2_with fail
            go_roundw
            case rel => exact ⟨by first | rfl | trivial, j + 1, by omega, by go_num⟩
            case measure => simp [intOf]; omega
          obtain rfl : j = n2 := by omega
          clear hjn hj
          go_upto_region 19 with fail
          have hls := X.out.2.2.2.1.1
          have ha0 : (0 : Int) ≤ (a : Int) := by omega
          have ha1 : (a : Int) < (ns : Int) := by have := Hal.out; omega
          have hk0 : (0 : Int) ≤ (k : Int) := by omega
          have hk1 : (k : Int) < (ns : Int) := by have := Hkl.out; omega
          clear hls
          have h3 : Hid (∀ w', Hid (Below wr.heap.size wr w') → VF 18 #[hV U C O sz Am nm cm (some ⟨gg, o, none⟩) ns cs last seq, .int .i64 f] w' (.int .i64 (a : Nat))) := fun w' h => Ha.out ▸ rFind cm cs f (HVl.keep X h)
          go_region_held3 (fun w' => w'.cell? ⟨gg, o + a * 3 + 2, none⟩ = some (.slice Aa na ca) ∧ w'.cell? ⟨b, 0, none⟩ = some (.int .i64 U) ∧ w'.cell? ⟨b, 1, none⟩ = some (.int .i64 C) ∧ w'.cell? ⟨b, 2, none⟩ = some (.int .i64 O) ∧ w'.cell? ⟨b, 3, none⟩ = some (.int .i64 sz) ∧ w'.cell? ⟨b, 4, none⟩ = some (.slice Am nm cm) ∧ w'.cell? ⟨b, 5, none⟩ = some (.slice (some ⟨gg, o, none⟩) ns cs) ∧ w'.cell? ⟨b, 6, none⟩ = some (.int .i64 last) ∧ w'.cell? ⟨b, 7, none⟩ = some (.int .i64 seq) ∧ Hid (Below wr.heap.size wr w')) (first | exact keep9 (by assumption) (by assumption) | exact start9 Pa Bx | exact startD9 Pa Bx) (first
            | (go_at_call 18; refine (h3.out _ (last9 (by assumption))).mono ?_; rintro e v1 ⟨rfl, hb⟩))
          have hb : Hid (Below wr.heap.size wr v1) := last9 (by assumption)
          clear h3
          replace Bx := blk_keep Bx hb
          replace B := belO6 B hb
          replace X := HVl.keep X hb
          replace D1 := IAt.keep D1 hb
          replace D2 := IAt.keep D2 hb
          replace Pa := cell_hid Pa hb
          replace Pk := cell_hid Pk hb
          replace ia := IAt.keep ia hb
          replace ik := IAt.keep ik hb
          clear hb
          go_upto_region 20 with fail
          have h3 : Hid (∀ w', Hid (Below v1.heap.size v1 w') → VF 18 #[hV U C O sz Am nm cm (some ⟨gg, o, none⟩) ns cs last seq, .int .i64 x] w' (.int .i64 (k : Nat))) := fun w' h => Hk.out ▸ rFind cm cs x (HVl.keep X h)
          go_region_held3 (fun w' => w'.cell? ⟨gg, o + k * 3 + 2, none⟩ = some (.slice Ak nk ck) ∧ w'.cell? ⟨b, 0, none⟩ = some (.int .i64 U) ∧ w'.cell? ⟨b, 1, none⟩ = some (.int .i64 C) ∧ w'.cell? ⟨b, 2, none⟩ = some (.int .i64 O) ∧ w'.cell? ⟨b, 3, none⟩ = some (.int .i64 sz) ∧ w'.cell? ⟨b, 4, none⟩ = some (.slice Am nm cm) ∧ w'.cell? ⟨b, 5, none⟩ = some (.slice (some ⟨gg, o, none⟩) ns cs) ∧ w'.cell? ⟨b, 6, none⟩ = some (.int .i64 last) ∧ w'.cell? ⟨b, 7, none⟩ = some (.int .i64 seq) ∧ Hid (Below v1.heap.size v1 w')) (first | exact keep9 (by assumption) (by assumption) | exact start9 Pk Bx | exact startD9 Pk Bx) (first
            | (go_at_call 18; refine (h3.out _ (last9 (by assumption))).mono ?_; rintro e v2 ⟨rfl, hb⟩))
          have hb : Hid (Below v1.heap.size v1 v2) := last9 (by assumption)
          clear h3
          replace Bx := blk_keep Bx hb
          replace B := belO6 B hb
          replace X := HVl.keep X hb
          replace D1 := IAt.keep D1 hb
          replace D2 := IAt.keep D2 hb
          replace Pa := cell_hid Pa hb
          replace Pk := cell_hid Pk hb
          replace ia := IAt.keep ia hb
          replace ik := IAt.keep ik hb
          clear hb
          go_wp2_with fail
          go_loopw [18] (fun i wr => wr = v2 ∧ ∃ t : Nat, t ≤ n1 ∧ i = .int .i64 t) (fun i _ => n1 - (intOf i).toNat)
          case atStart => exact ⟨rfl, 0, Nat.zero_le _, rfl⟩
          case round =>
          obtain ⟨rfl, t, ht, rfl⟩ := hrel
          by_cases htn : t < n1
          · obtain ⟨ad, y, rfl, hc, hy⟩ := iat_at D1 htn
            have ht0 : (0 : Int) ≤ (t : Int) := by omega
            have ht1 : (t : Int) < (n1 : Int) := by omega
            by_cases hin : y ∈ L2
            · have Hin := Lib.hid (decide_eq_true hin)
              clear hin
              go_wp2_with fail
              refine (in6 A2 _ c2 L2 y wr D2).mono ?_
              rw [Hin.out]
              rintro e wx ⟨rfl, rfl⟩
              go_wp2_with fail
              go_roundw
              case rel => exact ⟨by first | rfl | trivial, t + 1, by omega, by go_num⟩
              case measure => simp [intOf]; omega
            · have Hin := Lib.hid (decide_eq_false hin)
              have Hw := Lib.hid (Hm3.out y hy.out hin)
              clear hin
              go_wp2_with fail
              refine (in6 A2 _ c2 L2 y wr D2).mono ?_
              rw [Hin.out]
              rintro e wx ⟨rfl, rfl⟩
              go_wp2_with fail
              refine (RGet_any Aa na ca (goneH g.snaps a) y wr.heap.size wr ia.out.1 (by have := ia.out.2; omega)).mono ?_
              have HG2 := Lib.hid (RGet_any Ak nk ck (goneH g.snaps k) y wr.heap.size wr ik.out.1 (by have := ik.out.2; omega))
              have HG3 := Lib.hid (RGet_any Am nm cm g.map y wr.heap.size wr X.out.2.1 (by have := X.out.2.2.1; omega))
              generalize getO (goneH g.snaps a) y = z1 at Hw ⊢
              generalize getO (goneH g.snaps k) y = z2 at Hw HG2
              generalize getO g.map y = z3 at Hw HG3
              rintro e wy ⟨rfl, rfl⟩
              by_cases hz : z1 = 0
              · subst hz
                obtain rfl : z3 = 0 := Hw.out.2 rfl
                clear Hw HG2
                obtain ⟨ca0, ca1, ca2, ca3, ca4, ca5, ca6, ca7⟩ := heads_of Bx.out
                go_wp2_with fail
                refine HG3.out.mono ?_
                rintro e wz ⟨rfl, rfl⟩
                go_wp2_with fail
                go_roundw
                case rel => exact ⟨by first | rfl | trivial, t + 1, by omega, by go_num⟩
                case measure => simp [intOf]; omega
              · obtain rfl : z2 = 0 := Hw.out.1 hz
                have hz1 : (z1 != 0) = true := by simpa using hz
                clear Hw HG3
                go_wp2_with fail
                refine HG2.out.mono ?_
                rintro e wz ⟨rfl, rfl⟩
                go_wp2_with fail
                go_roundw
                case rel => exact ⟨by first | rfl | trivial, t + 1, by omega, by go_num⟩
                case measure => simp [intOf]; omega
          obtain rfl : t = n1 := by omega
          clear htn ht
          go_wp2_with fail
          go_ret
          exact ⟨rfl, B.out⟩
        · have hq3 : (E2 == 0) = false := by simpa using hq2
          clear hq2
          go_wp2_with fail
          go_ret
          exact ⟨rfl, B.out⟩
      · have hq3 : (E1 == 0) = false := by simpa using hq1
        clear hq1
        go_wp2_with fail
        go_ret
        exact ⟨rfl, B.out⟩
    · have hge : x ≤ f := by omega
      go_wp2_with fail
      go_ret
      exact ⟨rfl, B.out⟩
  · have hf2 : fewB nm ns ss = false := by simpa using hf
    rw [hf2]
    clear hf hf2
    go_wp2_with fail
    go_ret
    exact ⟨rfl, B.out⟩

set_option maxRecDepth 10000 in
theorem HeadMisses_walk {H : Type} {enc : TypeId × Value → H} (W : World) (base : Nat) {v0 v1 v2 : Value} {d0 : DataW H} {p0 : List MemPlace} {d1 : DataW H} {p1 : List MemPlace} {d2 : DataW H} {p2 : List MemPlace}
    (k0 : Value.okWide Try.prog W .any base 27 v0) (h0 : DataW.Trod enc Try.prog W 0 (fun _ => true) true 27 v0 d0 p0) (k1 : Value.okWide Try.prog W .any base 3 v1) (h1 : DataW.Trod enc Try.prog W 0 (fun _ => true) true 3 v1 d1 p1) (k2 : Value.okWide Try.prog W .any base 3 v2) (h2 : DataW.Trod enc Try.prog W 0 (fun _ => true) true 3 v2 d2 p2) :
    Calls Try.prog 9 #[v0, v1, v2] W (Yes W) := by
  obtain ⟨U, C, O, sz, Am, nm, cm, As, ns, cs, last, seq, m, ss, rfl, a1, a2, a3, a4, a5⟩ := ar_head k0 h0
  obtain ⟨a11, rfl, j1⟩ := ar_int Try.underlying3 k1 h1
  obtain ⟨a12, rfl, j2⟩ := ar_int Try.underlying3 k2 h2
  exact HeadMisses_core U C O sz last seq Am As nm cm ns cs m ss a11 a12 W a1 a2 a3 ⟨a4, a5⟩
end Go.Proofs.Ytaobdebeglenaaa
