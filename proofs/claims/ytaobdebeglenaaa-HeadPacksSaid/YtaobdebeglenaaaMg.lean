/- Package head: within, fits, Check (with its goto), numbered, slices.IndexFunc at snapshots, Find, Newest, New. Package head: Check (with its goto). Package head: slices.IndexFunc at snapshots, Find, Newest, New. Package head: versions, Diff. Package head: Diff. -/
import Derived.Test.YtaobdebeglenaaaHdO
import Derived.ScopeJumps
import Derived.Deep.RegionHeld3
import Derived.Deep.RegionWith

namespace Go.Proofs.Ytaobdebeglenaaa
open Go.RowKit

theorem blk_keep {w w' : World} {b : Nat} {o : Obj} (h : Hid (w.heap[b]? = some o)) (hb : Hid (Below w.heap.size w w')) : Hid (w'.heap[b]? = some o) := (hb.out.block b (lt_of_block h.out)).trans h.out
theorem alB6 (w : World) (o : Obj) : Hid (Below w.heap.size w (w.alloc o)) := (Below.refl _ _).alloc (Nat.le_refl _) _
/-- a head's eight cells within a region -/
theorem keep8 {b : Nat} {v0 v1 v2 v3 v4 v5 v6 v7 : Value} {W0 W w1 : World} (h : W.cell? ⟨b, 0, none⟩ = some v0 ∧ W.cell? ⟨b, 1, none⟩ = some v1 ∧ W.cell? ⟨b, 2, none⟩ = some v2 ∧ W.cell? ⟨b, 3, none⟩ = some v3 ∧ W.cell? ⟨b, 4, none⟩ = some v4 ∧ W.cell? ⟨b, 5, none⟩ = some v5 ∧ W.cell? ⟨b, 6, none⟩ = some v6 ∧ W.cell? ⟨b, 7, none⟩ = some v7 ∧ Hid (Below W0.heap.size W0 W)) (hb : Hid (Below W.heap.size W w1)) :
    w1.cell? ⟨b, 0, none⟩ = some v0 ∧ w1.cell? ⟨b, 1, none⟩ = some v1 ∧ w1.cell? ⟨b, 2, none⟩ = some v2 ∧ w1.cell? ⟨b, 3, none⟩ = some v3 ∧ w1.cell? ⟨b, 4, none⟩ = some v4 ∧ w1.cell? ⟨b, 5, none⟩ = some v5 ∧ w1.cell? ⟨b, 6, none⟩ = some v6 ∧ w1.cell? ⟨b, 7, none⟩ = some v7 ∧ Hid (Below W0.heap.size W0 w1) := by
  obtain ⟨h0, h1, h2, h3, h4, h5, h6, h7, h8⟩ := h
  have hl : b < W.heap.size := World.block_lt_of_cell? W _ h0
  exact ⟨(hb.out.cell hl).trans h0, (hb.out.cell hl).trans h1, (hb.out.cell hl).trans h2, (hb.out.cell hl).trans h3, (hb.out.cell hl).trans h4, (hb.out.cell hl).trans h5, (hb.out.cell hl).trans h6, (hb.out.cell hl).trans h7, belO6 h8 hb⟩
theorem last8 {b : Nat} {v0 v1 v2 v3 v4 v5 v6 v7 : Value} {W0 W : World} (h : W.cell? ⟨b, 0, none⟩ = some v0 ∧ W.cell? ⟨b, 1, none⟩ = some v1 ∧ W.cell? ⟨b, 2, none⟩ = some v2 ∧ W.cell? ⟨b, 3, none⟩ = some v3 ∧ W.cell? ⟨b, 4, none⟩ = some v4 ∧ W.cell? ⟨b, 5, none⟩ = some v5 ∧ W.cell? ⟨b, 6, none⟩ = some v6 ∧ W.cell? ⟨b, 7, none⟩ = some v7 ∧ Hid (Below W0.heap.size W0 W)) : Hid (Below W0.heap.size W0 W) := h.2.2.2.2.2.2.2.2
theorem start8 {b : Nat} {v0 v1 v2 v3 v4 v5 v6 v7 : Value} {W : World} {t : TypeId} (h : Hid (W.heap[b]? = some (.cells #[v0, v1, v2, v3, v4, v5, v6, v7] t (0, 0)))) :
    W.cell? ⟨b, 0, none⟩ = some v0 ∧ W.cell? ⟨b, 1, none⟩ = some v1 ∧ W.cell? ⟨b, 2, none⟩ = some v2 ∧ W.cell? ⟨b, 3, none⟩ = some v3 ∧ W.cell? ⟨b, 4, none⟩ = some v4 ∧ W.cell? ⟨b, 5, none⟩ = some v5 ∧ W.cell? ⟨b, 6, none⟩ = some v6 ∧ W.cell? ⟨b, 7, none⟩ = some v7 ∧ Hid (Below W.heap.size W W) := by
  obtain ⟨h0, h1, h2, h3, h4, h5, h6, h7⟩ := heads_of h.out
  exact ⟨h0, h1, h2, h3, h4, h5, h6, h7, Below.refl _ _⟩
theorem startD8 {b : Nat} {v0 v1 v2 v3 v4 v5 v6 v7 : Value} {W : World} {t : TypeId} (h : Hid (W.heap[b]? = some (.cells #[v0, v1, v2, v3, v4, v5, v6, v7] t (0, 0)))) :
    W.drew.cell? ⟨b, 0, none⟩ = some v0 ∧ W.drew.cell? ⟨b, 1, none⟩ = some v1 ∧ W.drew.cell? ⟨b, 2, none⟩ = some v2 ∧ W.drew.cell? ⟨b, 3, none⟩ = some v3 ∧ W.drew.cell? ⟨b, 4, none⟩ = some v4 ∧ W.drew.cell? ⟨b, 5, none⟩ = some v5 ∧ W.drew.cell? ⟨b, 6, none⟩ = some v6 ∧ W.drew.cell? ⟨b, 7, none⟩ = some v7 ∧ Hid (Below W.heap.size W W.drew) := by
  obtain ⟨h0, h1, h2, h3, h4, h5, h6, h7⟩ := heads_of h.out
  exact ⟨h0, h1, h2, h3, h4, h5, h6, h7, (Below.refl _ _).drew⟩
theorem undrew6 {w w1 : World} (h : Hid (Below w.drew.heap.size w.drew w1)) : Hid (Below w.heap.size w w1) := ⟨h.out.os, h.out.tape, h.out.output, h.out.size, h.out.block⟩

set_option maxRecDepth 10000 in
theorem within_any (x y : Int) (w : World) : Calls Try.prog 37 #[.int .i64 x, .int .i64 y] w fun e w' => e = .returned (.bool (decide (0 ≤ x ∧ x ≤ y))) ∧ w = w' := by
  by_cases h0 : 0 ≤ x
  · by_cases h2 : x ≤ y
    · have He := Lib.hid (show decide (0 ≤ x ∧ x ≤ y) = true from decide_eq_true ⟨h0, h2⟩)
      rw [He.out]
      clear He
      go_enter Try.func37, Try.ntmps37
      go_wp2_with fail
      go_ret
      exact ⟨by first | rfl | simp, rfl⟩
    · have He := Lib.hid (show decide (0 ≤ x ∧ x ≤ y) = false from decide_eq_false fun h => h2 h.2)
      rw [He.out]
      clear He
      go_enter Try.func37, Try.ntmps37
      go_wp2_with fail
      go_ret
      exact ⟨by first | rfl | simp, rfl⟩
  · have He := Lib.hid (show decide (0 ≤ x ∧ x ≤ y) = false from decide_eq_false fun h => h0 h.1)
    rw [He.out]
    clear He
    go_enter Try.func37, Try.ntmps37
    go_wp2_with fail
    go_ret
    exact ⟨by first | rfl | simp, rfl⟩

theorem IAt.box {w w' : World} {A : Option Addr} {n : Nat} {l : List Int} (h : Hid (IAt w A n l)) (hb : Hid (Below w.heap.size w w')) : Hid (IAt w' A n l) := IAt.keep h hb

set_option maxRecDepth 10000 in
set_option maxHeartbeats 1000000 in
theorem fits_any (U C O sz : Int) (Am : Option Addr) (nm cm : Nat) (m : List Int) (w : World) (hr : Hid (IAt w Am nm m)) :
    VF 36 #[.agg #[.int .i64 U, .int .i64 C, .int .i64 O], .int .i64 sz, .slice Am nm cm] w (.bool (decide (sizedP U C O sz m))) := by
  have Hb := Lib.hid ((Below.refl w.heap.size w).alloc (Nat.le_refl _) (.cells #[.int .i64 U, .int .i64 C, .int .i64 O] 23))
  have Hi := IAt.keep hr Hb
  have HW := Lib.hid (within_any sz 512 (w.alloc (.cells #[.int .i64 U, .int .i64 C, .int .i64 O] 23)))
  have HM := Lib.hid (hCheck cm Hi)
  have HO := fun w' => Lib.hid (PObj6 U C O sz w')
  have Hlen := Lib.hid hr.out.1.1
  have Hlay := Lib.hid (LayAt.box w U C O 23)
  clear hr Hi
  by_cases h1 : 0 ≤ sz ∧ sz ≤ 512
  · rw [decide_eq_true h1] at HW
    by_cases h2 : IsRow m
    · rw [decide_eq_true h2] at HM
      have He := Lib.hid (show decide (sizedP U C O sz m) = decide ((nm : Int) ≤ objH U C O sz) by
        rw [← Hlen.out]
        exact decide_eq_decide.2 ⟨fun q => q.2.2.2, fun q => ⟨h1.1, h1.2, h2, q⟩⟩)
      rw [He.out]
      clear He h1 h2 Hlen
      generalize objH U C O sz = k at HO ⊢
      go_enter Try.func36, Try.ntmps36
      go_upto_region 1 with fail
      generalize w.alloc (.cells #[.int .i64 U, .int .i64 C, .int .i64 O] 23) = w1 at Hb HW HM Hlay ⊢
      obtain ⟨b, hbe⟩ : ∃ b, b = w.heap.size := ⟨_, rfl⟩
      rw [← hbe] at Hlay ⊢
      clear hbe
      go_wp2_with fail
      refine HW.out.mono ?_
      rintro e w2 ⟨rfl, rfl⟩
      go_wp2_with fail
      refine HM.out.mono ?_
      rintro e w3 ⟨rfl, hb3⟩
      have Hl3 := Lib.hid (Hlay.out.to hb3.out)
      have Hb3 := Lib.hid (Hb.out.trans (hb3.out.mono Hb.out.size))
      have c0 := Hl3.out.c0
      have c1 := Hl3.out.c1
      have c2 := Hl3.out.c2
      clear hb3 HM HW
      go_wp2_with fail
      refine (HO _).out.mono ?_
      rintro e w4 ⟨rfl, hb4⟩
      have Hb4 := Lib.hid (Hb3.out.trans (hb4.mono Hb3.out.size))
      clear hb4 c0 c1 c2
      go_wp2_with fail
      go_ret
      exact ⟨by first | rfl | simp, Hb4⟩
    · rw [decide_eq_false h2] at HM
      have He := Lib.hid (show decide (sizedP U C O sz m) = false from decide_eq_false fun q => h2 q.2.2.1)
      rw [He.out]
      clear He h1 h2 Hlen HO Hlay
      go_enter Try.func36, Try.ntmps36
      go_upto_region 1 with fail
      generalize w.alloc (.cells #[.int .i64 U, .int .i64 C, .int .i64 O] 23) = w1 at Hb HW HM ⊢
      go_wp2_with fail
      refine HW.out.mono ?_
      rintro e w2 ⟨rfl, rfl⟩
      go_wp2_with fail
      refine HM.out.mono ?_
      rintro e w3 ⟨rfl, hb3⟩
      have Hb3 := Lib.hid (Hb.out.trans (hb3.out.mono Hb.out.size))
      clear hb3 HM HW
      go_wp2_with fail
      go_ret
      exact ⟨by first | rfl | simp, Hb3⟩
  · rw [decide_eq_false h1] at HW
    have He := Lib.hid (show decide (sizedP U C O sz m) = false from decide_eq_false fun q => h1 ⟨q.1, q.2.1⟩)
    rw [He.out]
    clear He h1 Hlen HO Hlay HM
    go_enter Try.func36, Try.ntmps36
    go_upto_region 1 with fail
    generalize w.alloc (.cells #[.int .i64 U, .int .i64 C, .int .i64 O] 23) = w1 at Hb HW ⊢
    go_wp2_with fail
    refine HW.out.mono ?_
    rintro e w2 ⟨rfl, rfl⟩
    go_wp2_with fail
    go_ret
    exact ⟨by first | rfl | simp, Hb⟩

set_option maxRecDepth 10000 in
/-- the closure that asks for a number -/
theorem num1_any (p : Nat) (x y z : Int) (A : Option Addr) (n c : Nat) (w : World) (hp : w.cell? ⟨p, 0, none⟩ = some (.int .i64 x)) :
    VF 71 #[.agg #[.int .i64 y, .int .i64 z, .slice A n c], .pointer (some ⟨p, 0, none⟩)] w (.bool (decide (y = x))) := by
  have hpl : p < w.heap.size := World.block_lt_of_cell? w _ hp
  by_cases h : y = x
  · have He := Lib.hid (decide_eq_true h)
    have hb : (y == x) = true := by simpa using h
    rw [He.out]
    clear He
    subst h
    go_enter Try.func71, Try.ntmps71
    go_wp2_with fail
    go_ret
    exact ⟨by first | rfl | simp, (Below.refl w.heap.size w).alloc (Nat.le_refl _) _⟩
  · have He := Lib.hid (decide_eq_false h)
    have hb : (y == x) = false := by simpa using h
    rw [He.out]
    clear He h
    go_enter Try.func71, Try.ntmps71
    go_wp2_with fail
    go_ret
    exact ⟨by first | rfl | simp, (Below.refl w.heap.size w).alloc (Nat.le_refl _) _⟩
set_option maxRecDepth 10000 in
theorem numd_any (x : Int) (w : World) :
    Calls Try.prog 39 #[.int .i64 x] w fun e w' => ∃ p, e = .returned (.func (.func 71) #[] #[.pointer (some ⟨p, 0, none⟩)]) ∧ w.heap.size ≤ p ∧ w'.cell? ⟨p, 0, none⟩ = some (.int .i64 x) ∧ Hid (Below w.heap.size w w') := by
  go_enter Try.func39, Try.ntmps39
  go_wp2_with fail
  go_ret
  exact ⟨_, rfl, Nat.le_refl _, by rw [cell_blk (heap_alloc_new w _)]; rfl, (Below.refl w.heap.size w).alloc (Nat.le_refl _) _⟩
end Go.Proofs.Ytaobdebeglenaaa

namespace Go.Proofs.Ytaobdebeglenaaa
open Go.RowKit

set_option maxRecDepth 10000 in
set_option maxHeartbeats 4000000 in
theorem Check6 (U C O sz : Int) (Am : Option Addr) (nm cm : Nat) (As : Option Addr) (ns cs : Nat) (last seq : Int) (m : List Int) (ss : List Sn) (w : World) (hm : RdI w w.heap.size Am nm m) (hr : RdN w w.heap.size As ns ss) (hn : nm ≤ 3000) (hs : ns ≤ 12) (hmm : ∀ s ∈ ss, s.map.length ≤ 3000) :
    VF 16 #[hV U C O sz Am nm cm As ns cs last seq] w (.int .i64 (mayE ⟨U, C, O, sz, m, ss, last, seq⟩)) := by
  have Hb := Lib.hid ((Below.refl w.heap.size w).alloc (Nat.le_refl _) (.cells #[.int .i64 U, .int .i64 C, .int .i64 O, .int .i64 sz, .slice Am nm cm, .slice As ns cs, .int .i64 last, .int .i64 seq] 27))
  have Hr := Lib.hid ((hr.below Hb.out).more Hb.out.size)
  have Hm := Lib.hid (show IAt _ Am nm m from ⟨(hm.below Hb.out).more Hb.out.size, hn⟩)
  have Hh := Lib.hid (HAt.box w U C O sz (.slice Am nm cm) (.slice As ns cs) last seq 27)
  have Hmm := Lib.hid hmm
  have Htop := Lib.hid (may_top U C O sz last seq m ss)
  rw [hr.1] at Htop
  clear hr hm hmm hn
  have Hans := Lib.hid (show mayE ⟨U, C, O, sz, m, ss, last, seq⟩ = if MayH ⟨U, C, O, sz, m, ss, last, seq⟩ then 0 else 60 from rfl)
  generalize mayE ⟨U, C, O, sz, m, ss, last, seq⟩ = E at Hans ⊢
  go_enter Try.func16, Try.ntmps16
  go_wp2_with fail
  generalize w.alloc (.cells #[.int .i64 U, .int .i64 C, .int .i64 O, .int .i64 sz, .slice Am nm cm, .slice As ns cs, .int .i64 last, .int .i64 seq] 27) = w1 at Hb Hr Hm Hh ⊢
  obtain ⟨b, hbe⟩ : ∃ b, b = w.heap.size := ⟨_, rfl⟩
  rw [← hbe] at Hh ⊢
  clear hbe
  refine wp_scope_jumps 0 (fun a' w' => ∃ t : List Value, t.length = 67 ∧ a' = { tmps := t.toArray, defers := [] } ∧ Hid (¬ MayH ⟨U, C, O, sz, m, ss, last, seq⟩) ∧ Hid (Below w.heap.size w w')) (fun _ _ => 0) rfl ?_ ?_
  · have c0 := Hh.out.c0
    have c1 := Hh.out.c1
    have c2 := Hh.out.c2
    have HC := Lib.hid (PChk6 U C O w1)
    by_cases hL : Lay U C O
    · rw [if_pos hL] at HC
      go_upto_region 2 with fail
      go_wp2_with fail
      refine HC.out.mono ?_
      rintro e w2 ⟨rfl, hb2⟩
      replace Hr := Lib.hid ((Hr.out.below hb2.out).more hb2.out.size)
      replace Hm := IAt.keep Hm hb2
      replace Hh := Lib.hid (Hh.out.to hb2.out)
      replace Hb := belO6 Hb hb2
      clear hb2 c0 c1 c2 HC
      have c0 := Hh.out.c0
      have c1 := Hh.out.c1
      have c2 := Hh.out.c2
      have c3 := Hh.out.c3
      have c4 := Hh.out.c4
      have HF := Lib.hid (fits_any U C O sz Am nm cm m w2 Hm)
      by_cases hz : sizedP U C O sz m
      · rw [decide_eq_true hz] at HF
        go_wp2_with fail
        refine HF.out.mono ?_
        rintro e w3 ⟨rfl, hb3⟩
        replace Hr := Lib.hid ((Hr.out.below hb3.out).more hb3.out.size)
        replace Hh := Lib.hid (Hh.out.to hb3.out)
        replace Hb := belO6 Hb hb3
        clear hb3 c0 c1 c2 c3 c4 HF Hm
        have c5 := Hh.out.c5
        have c6 := Hh.out.c6
        have c7 := Hh.out.c7
        have HL := Lib.hid (within_any last 100 w3)
        have HS := Lib.hid (within_any seq 1099511627776 w3)
        by_cases h1 : 0 ≤ last ∧ last ≤ 100
        · rw [decide_eq_true h1] at HL
          go_wp2_with fail
          refine HL.out.mono ?_
          rintro e w4 ⟨rfl, rfl⟩
          clear HL
          by_cases h2 : 0 ≤ seq ∧ seq ≤ 1099511627776
          · rw [decide_eq_true h2] at HS
            go_wp2_with fail
            refine HS.out.mono ?_
            rintro e w4 ⟨rfl, rfl⟩
            clear HS
            by_cases h3 : ns ≤ 4
            · have h3' : (ns : Int) ≤ 4 := by omega
              have Htr : Hid (MayH ⟨U, C, O, sz, m, ss, last, seq⟩ ↔ snsP U C O last 0 ss) := ⟨fun q => (Htop.out.1 q).2, fun q => Htop.out.2 ⟨⟨hL, hz, h3, h1, h2⟩, q⟩⟩
              clear Htop hL hz h1 h2
              obtain ⟨wd, hwd⟩ : ∃ wd, wd = w3 := ⟨_, rfl⟩
              subst hwd
              have Hr0 := Hr
              have Hh0 := Hh
              clear c6 c7
              go_wp2_with fail
              go_loopw [3, 39] (fun av iv wr => ∃ j : Nat, j ≤ ns ∧ iv = .int .i64 j ∧ av = .int .i64 (lastId 0 (ss.take j)) ∧ Hid (snsP U C O last 0 (ss.take j)) ∧ Hid (Below wd.heap.size wd wr)) (fun _ iv _ => ns - (intOf iv).toNat)
              case atStart => exact ⟨0, Nat.zero_le _, rfl, rfl, trivial, Below.refl _ _⟩
              case round =>
                obtain ⟨j, hj, rfl, rfl, Hj, Hbr⟩ := hrel
                have Hr := Lib.hid ((Hr0.out.below Hbr.out).more Hbr.out.size)
                have Hh := Lib.hid (Hh0.out.to Hbr.out)
                by_cases hjn : j < ns
                · have hjl : j < ss.length := by rw [Hr.out.1]; exact hjn
                  obtain ⟨g, o, Aj, nj, cj, rfl, hg, x0, x1, x2, h6, h7⟩ := Hr.out.2 j hjl
                  have Hst := Lib.hid (List.take_succ_eq_append_getElem hjl)
                  have Hdr := Lib.hid (show ss = ss.take j ++ ss[j] :: ss.drop (j + 1) by rw [← List.drop_eq_getElem_cons hjl, List.take_append_drop])
                  have Hln := Lib.hid (Hmm.out _ (List.getElem_mem hjl))
                  have Hm6 := Lib.hid h6
                  clear h6
                  generalize ss[j] = s at x0 x1 Hst Hdr Hln Hm6
                  have Hi6 := Lib.hid (show IAt wr Aj nj s.map from ⟨Hm6.out, by rw [← Hm6.out.1]; exact Hln.out⟩)
                  have hj0 : (0 : Int) ≤ (j : Int) := by omega
                  have hj1 : (j : Int) < (ns : Int) := by omega
                  clear hjl Hm6
                  obtain ⟨la, hla⟩ : ∃ la, la = lastId 0 (ss.take j) := ⟨_, rfl⟩
                  rw [← hla]
                  have Hla := Lib.hid hla
                  clear hla
                  obtain ⟨x, y, mp⟩ := s
                  have x0 : wr.cell? ⟨g, o + j * 3, none⟩ = some (.int .i64 x) := x0
                  have x1 : wr.cell? ⟨g, o + j * 3 + 1, none⟩ = some (.int .i64 y) := x1
                  have Hal := Lib.hid ((Below.refl wr.heap.size wr).alloc (Nat.le_refl _) (.cells #[.int .i64 x, .int .i64 y, .slice Aj nj cj] 52))
                  have Hsx := Lib.hid (SAt.box wr x y (.slice Aj nj cj) 52)
                  have Hm7 := IAt.keep Hi6 Hal
                  have Hh7 := Lib.hid (Hh.out.to Hal.out)
                  have Hb7 := belO6 Hbr Hal
                  have c5 := Hh.out.c5
                  go_upto_region 7 with fail
                  generalize wr.alloc (.cells #[.int .i64 x, .int .i64 y, .slice Aj nj cj] 52) = w8 at Hsx Hm7 Hh7 Hb7 ⊢
                  obtain ⟨sb, hsb⟩ : ∃ sb, sb = wr.heap.size := ⟨_, rfl⟩
                  rw [← hsb] at Hsx ⊢
                  clear hsb x0 x1 x2 c5 Hal
                  have c0 := Hh7.out.c0
                  have c1 := Hh7.out.c1
                  have c2 := Hh7.out.c2
                  have c6 := Hh7.out.c6
                  have s0 := Hsx.out.c0
                  have s1 := Hsx.out.c1
                  have s2 := Hsx.out.c2
                  have Hiff : Hid (MayH ⟨U, C, O, sz, m, ss, last, seq⟩ → la < x ∧ x ≤ last ∧ sizedP U C O y mp) := fun q => by
                    have q2 := Htr.out.1 q
                    rw [Hdr.out, sns_app] at q2
                    obtain ⟨_, q3, q4, q5, _⟩ := q2
                    rw [← Hla.out] at q3
                    exact ⟨q3, q4, q5⟩
                  by_cases g0 : la < x
                  · have g0' : ¬ x ≤ la := by omega
                    by_cases g1 : x ≤ last
                    · have HS := Lib.hid (fits_any U C O y Aj nj cj mp w8 Hm7)
                      by_cases g2 : sizedP U C O y mp
                      · rw [decide_eq_true g2] at HS
                        have Hj2 := Lib.hid (show snsP U C O last 0 (ss.take (j + 1)) by
                          rw [Hst.out, sns_snoc, ← Hla.out]
                          exact ⟨Hj.out, g0, g1, g2⟩)
                        have Hl2 := Lib.hid (show lastId 0 (ss.take (j + 1)) = x by rw [Hst.out, lastId_snoc])
                        clear g2 Hiff
                        go_wp2_with fail
                        refine HS.out.mono ?_
                        rintro e w9 ⟨rfl, hb9⟩
                        have s0' := (Hsx.out.to hb9.out).c0
                        replace Hb7 := belO6 Hb7 hb9
                        clear hb9 s0 s1 s2 c0 c1 c2 c6
                        go_wp2_with fail
                        go_roundw
                        case rel => exact ⟨j + 1, by omega, by go_num, by rw [Hl2.out], Hj2, Hb7⟩
                        case measure => simp [intOf]; omega
                      · rw [decide_eq_false g2] at HS
                        have Hno : Hid (¬ MayH ⟨U, C, O, sz, m, ss, last, seq⟩) := fun q => g2 (Hiff.out q).2.2
                        clear Hiff g2
                        go_wp2_with fail
                        refine HS.out.mono ?_
                        rintro e w9 ⟨rfl, hb9⟩
                        replace Hb7 := belO6 Hb7 hb9
                        clear hb9 s0 s1 s2 c0 c1 c2 c6
                        go_wp2_with fail
                        go_step3
                        exact ⟨rfl, _, rfl, rfl, Hno, belO6 Hb Hb7⟩
                    · have g1' : last < x := by omega
                      have Hno : Hid (¬ MayH ⟨U, C, O, sz, m, ss, last, seq⟩) := fun q => g1 (Hiff.out q).2.1
                      clear Hiff g1
                      go_wp2_with fail
                      go_step3
                      exact ⟨rfl, _, rfl, rfl, Hno, belO6 Hb Hb7⟩
                  · have g0' : x ≤ la := by omega
                    have Hno : Hid (¬ MayH ⟨U, C, O, sz, m, ss, last, seq⟩) := fun q => g0 (Hiff.out q).1
                    clear Hiff g0
                    go_wp2_with fail
                    go_step3
                    exact ⟨rfl, _, rfl, rfl, Hno, belO6 Hb Hb7⟩
                · obtain rfl : j = ns := by omega
                  have Hyes := Lib.hid (Htr.out.2 (by have h := Hj.out; rwa [List.take_of_length_le (by rw [Hr.out.1]; exact Nat.le_refl _)] at h))
                  have Hbf := belO6 Hb Hbr
                  have He := Lib.hid (show E = 0 by rw [Hans.out, if_pos Hyes.out])
                  clear Hans Hyes Htr
                  generalize lastId 0 (ss.take j) = la
                  go_wp2_with fail
                  simp only [Exit.jump]
                  go_ret
                  exact ⟨by first | (rw [He.out]; done) | (rw [He.out]; rfl), Hbf⟩
            · have h3' : 4 < (ns : Int) := by omega
              have Hno : Hid (¬ MayH ⟨U, C, O, sz, m, ss, last, seq⟩) := fun q => h3 (Htop.out.1 q).1.2.2.1
              clear Htop h3
              go_wp2_with fail
              go_step3
              exact ⟨rfl, _, rfl, rfl, Hno, Hb⟩
          · rw [decide_eq_false h2] at HS
            have Hno : Hid (¬ MayH ⟨U, C, O, sz, m, ss, last, seq⟩) := fun q => h2 (Htop.out.1 q).1.2.2.2.2
            clear Htop h2
            go_wp2_with fail
            refine HS.out.mono ?_
            rintro e w4 ⟨rfl, rfl⟩
            go_wp2_with fail
            go_step3
            exact ⟨rfl, _, rfl, rfl, Hno, Hb⟩
        · rw [decide_eq_false h1] at HL
          have Hno : Hid (¬ MayH ⟨U, C, O, sz, m, ss, last, seq⟩) := fun q => h1 (Htop.out.1 q).1.2.2.2.1
          clear Htop h1
          go_wp2_with fail
          refine HL.out.mono ?_
          rintro e w4 ⟨rfl, rfl⟩
          go_wp2_with fail
          go_step3
          exact ⟨rfl, _, rfl, rfl, Hno, Hb⟩
      · rw [decide_eq_false hz] at HF
        have Hno : Hid (¬ MayH ⟨U, C, O, sz, m, ss, last, seq⟩) := fun q => hz (Htop.out.1 q).1.2.1
        clear Htop hz
        go_wp2_with fail
        refine HF.out.mono ?_
        rintro e w3 ⟨rfl, hb3⟩
        replace Hb := belO6 Hb hb3
        clear hb3
        go_wp2_with fail
        go_step3
        exact ⟨rfl, _, rfl, rfl, Hno, Hb⟩
    · rw [if_neg hL] at HC
      have Hno : Hid (¬ MayH ⟨U, C, O, sz, m, ss, last, seq⟩) := fun q => hL (Htop.out.1 q).1.1
      clear Htop hL
      go_upto_region 2 with fail
      go_wp2_with fail
      refine HC.out.mono ?_
      rintro e w2 ⟨rfl, hb2⟩
      replace Hb := belO6 Hb hb2
      clear hb2
      go_wp2_with fail
      go_step3
      exact ⟨rfl, _, rfl, rfl, Hno, Hb⟩
  · rintro a' w' ⟨t, ht, rfl, Hno, Hbn⟩
    have He := Lib.hid (show E = 60 by rw [Hans.out, if_neg Hno.out])
    clear Hans Htop
    match t, ht with
    | u0 :: u1 :: u2 :: u3 :: u4 :: u5 :: u6 :: u7 :: u8 :: u9 :: u10 :: u11 :: u12 :: u13 :: u14 :: u15 :: u16 :: u17 :: u18 :: u19 :: u20 :: u21 :: u22 :: u23 :: u24 :: u25 :: u26 :: u27 :: u28 :: u29 :: u30 :: u31 :: u32 :: u33 :: u34 :: u35 :: u36 :: u37 :: u38 :: u39 :: u40 :: u41 :: u42 :: u43 :: u44 :: u45 :: u46 :: u47 :: u48 :: u49 :: u50 :: u51 :: u52 :: u53 :: u54 :: u55 :: u56 :: u57 :: u58 :: u59 :: u60 :: u61 :: u62 :: u63 :: u64 :: u65 :: u66 :: [], _ =>
      go_wp2_with fail
      simp only [Exit.jump]
      go_ret
      exact ⟨by first | (rw [He.out]; done) | (rw [He.out]; rfl), Hbn⟩
end Go.Proofs.Ytaobdebeglenaaa

namespace Go.Proofs.Ytaobdebeglenaaa
open Go.RowKit

set_option maxRecDepth 10000 in
set_option maxHeartbeats 1000000 in
theorem index6 (p : Nat) (x : Int) (As : Option Addr) (ns cs : Nat) (ss : List Sn) (w : World) (hr : RdN w w.heap.size As ns ss) (hp : w.cell? ⟨p, 0, none⟩ = some (.int .i64 x)) (hn : ns ≤ 100000) :
    VF 38 #[.slice As ns cs, .func (.func 71) #[] #[.pointer (some ⟨p, 0, none⟩)]] w (.int .i64 (findH ss x)) := by
  have Hr0 := Lib.hid hr
  have Hp := Lib.hid hp
  have hpl := Lib.hid (World.block_lt_of_cell? w _ hp)
  clear hr hp
  go_enter Try.func38, Try.ntmps38
  go_wp2_with fail
  go_loopw [8, 5] (fun i _ wr => ∃ j : Nat, j ≤ ns ∧ i = .int .i64 j ∧ Hid (∀ s ∈ ss.take j, s.id ≠ x) ∧ Hid (Below w.heap.size w wr)) (fun i _ _ => ns - (intOf i).toNat)
  case atStart => exact ⟨0, Nat.zero_le _, rfl, fun s h => by simp at h, Below.refl _ _⟩
  case round =>
    obtain ⟨j, hj, rfl, Hj, Hb⟩ := hrel
    by_cases hjn : j < ns
    · have Hr := Lib.hid (Hr0.out.below Hb.out)
      have hjl : j < ss.length := by rw [Hr.out.1]; exact hjn
      obtain ⟨g, o, Aj, nj, cj, rfl, hg, x0, x1, x2, h6, h7⟩ := Hr.out.2 j hjl
      have Hf : Hid (ss[j].id = x → findH ss x = j) := findH_step ss x j hjl Hj.out
      have Hst := Lib.hid (List.take_succ_eq_append_getElem hjl)
      clear h6
      generalize ss[j] = s at x0 x1 Hf Hst
      have hj0 : (0 : Int) ≤ (j : Int) := by omega
      have hj1 : (j : Int) < (ns : Int) := by omega
      have HN := Lib.hid (num1_any p x s.id s.size Aj nj cj wr ((Hb.out.cell (p := ⟨p, 0, none⟩) hpl.out).trans Hp.out))
      clear hjl
      by_cases hx : s.id = x
      · have He := Lib.hid (Hf.out hx)
        rw [decide_eq_true hx] at HN
        clear hx Hf
        go_wp2_with fail
        refine HN.out.mono ?_
        rintro e w2 ⟨rfl, hb2⟩
        have Hb2 := belO6 Hb hb2
        clear hb2 x0 x1 x2
        go_wp2_with fail
        go_ret
        exact ⟨by first | (rw [He.out]; done) | (rw [He.out]; rfl), Hb2⟩
      · have Hj2 : Hid (∀ s ∈ ss.take (j + 1), s.id ≠ x) := fun t ht => by
          rw [Hst.out] at ht
          rcases List.mem_append.1 ht with h | h
          · exact Hj.out t h
          · simp at h; subst h; exact hx
        rw [decide_eq_false hx] at HN
        clear Hst Hf hx
        go_wp2_with fail
        refine HN.out.mono ?_
        rintro e w2 ⟨rfl, hb2⟩
        have Hb2 := belO6 Hb hb2
        clear hb2 x0 x1 x2
        go_wp2_with fail
        go_roundw
        case rel => exact ⟨j + 1, by omega, by go_num, Hj2, Hb2⟩
        case measure => simp [intOf]; omega
    · obtain rfl : j = ns := by omega
      have He := Lib.hid (show findH ss x = -1 from findH_none (by have h := Hj.out; rwa [List.take_of_length_le (by rw [Hr0.out.1]; exact Nat.le_refl _)] at h))
      go_wp2_with fail
      go_ret
      exact ⟨by first | (rw [He.out]; done) | (rw [He.out]; rfl), Hb⟩

set_option maxRecDepth 10000 in
set_option maxHeartbeats 1000000 in
theorem pNewest6 (U C O sz : Int) (Am : Option Addr) (nm cm : Nat) (As : Option Addr) (ns cs : Nat) (last seq : Int) (ss : List Sn) (B : Nat) (w : World) (hr : RdN w B As ns ss) (hB : B ≤ w.heap.size) (hn : ns ≤ 100000) :
    Calls Try.prog 19 #[hV U C O sz Am nm cm As ns cs last seq] w fun e w' => e = .returned (.int .i64 (newestH ss)) ∧ Below w.heap.size w w' := by
  have Hb := Lib.hid ((Below.refl w.heap.size w).alloc (Nat.le_refl _) (.cells #[.int .i64 U, .int .i64 C, .int .i64 O, .int .i64 sz, .slice Am nm cm, .slice As ns cs, .int .i64 last, .int .i64 seq] 27))
  have Hr := Lib.hid (hr.below (Hb.out.mono hB))
  have Hh := Lib.hid (HAt.box w U C O sz (.slice Am nm cm) (.slice As ns cs) last seq 27)
  clear hr hB
  rcases Nat.eq_zero_or_pos ns with h0 | h0
  · subst h0
    obtain rfl : ss = [] := List.eq_nil_of_length_eq_zero Hr.out.1
    go_enter Try.func19, Try.ntmps19
    go_wp2_with fail
    go_ret
    exact ⟨rfl, Hb.out⟩
  · obtain ⟨k, rfl⟩ : ∃ k, ns = k + 1 := ⟨ns - 1, by omega⟩
    have hkl : k < ss.length := by rw [Hr.out.1]; omega
    have He := Lib.hid (newest_at ss k Hr.out.1)
    obtain ⟨g, o, Aj, nj, cj, rfl, hg, x0, x1, x2, h6, h7⟩ := Hr.out.2 k hkl
    clear x1 x2 h6
    generalize ss[k] = s at x0 He
    have hk0 : (0 : Int) ≤ (k : Int) := by omega
    have hk1 : (k : Int) < (k : Int) + 1 := by omega
    clear hkl
    go_enter Try.func19, Try.ntmps19
    go_upto_region 1 with fail
    generalize w.alloc (.cells #[.int .i64 U, .int .i64 C, .int .i64 O, .int .i64 sz, .slice Am nm cm, .slice (some ⟨g, o, none⟩) (k + 1) cs, .int .i64 last, .int .i64 seq] 27) = w1 at Hb Hr Hh x0 ⊢
    have c5 := Hh.out.c5
    obtain ⟨b, hbe⟩ : ∃ b, b = w.heap.size := ⟨_, rfl⟩
    rw [← hbe] at Hh c5 ⊢
    clear hbe
    go_wp2_with fail
    go_ret
    exact ⟨by first | (rw [He.out]; done) | (rw [He.out]; rfl), Hb.out⟩

set_option maxRecDepth 10000 in
set_option maxHeartbeats 1000000 in
theorem Find6 (U C O sz : Int) (Am : Option Addr) (nm cm : Nat) (As : Option Addr) (ns cs : Nat) (last seq x : Int) (ss : List Sn) (w : World) (hr : RdN w w.heap.size As ns ss) (hn : ns ≤ 100000) :
    VF 17 #[hV U C O sz Am nm cm As ns cs last seq, .int .i64 x] w (.int .i64 (findH ss x)) := by
  have Hb := Lib.hid ((Below.refl w.heap.size w).alloc (Nat.le_refl _) (.cells #[.int .i64 U, .int .i64 C, .int .i64 O, .int .i64 sz, .slice Am nm cm, .slice As ns cs, .int .i64 last, .int .i64 seq] 27))
  have Hr := Lib.hid ((hr.below Hb.out).more Hb.out.size)
  have Hh := Lib.hid (HAt.box w U C O sz (.slice Am nm cm) (.slice As ns cs) last seq 27)
  clear hr
  go_enter Try.func17, Try.ntmps17
  go_upto_region 1 with fail
  generalize w.alloc (.cells #[.int .i64 U, .int .i64 C, .int .i64 O, .int .i64 sz, .slice Am nm cm, .slice As ns cs, .int .i64 last, .int .i64 seq] 27) = w1 at Hb Hr Hh ⊢
  have c5 := Hh.out.c5
  obtain ⟨b, hbe⟩ : ∃ b, b = w.heap.size := ⟨_, rfl⟩
  rw [← hbe] at Hh c5 ⊢
  have hbl := Hh.out.lt
  clear hbe
  go_region_with (first
    | (go_at_call 39; refine (numd_any x _).mono ?_; rintro e w2 ⟨p, rfl, hp, hc, hb⟩; have hc5 := (hb.out.cell (p := ⟨b, 5, none⟩) hbl).trans (show _ from c5); have Hc := Lib.hid hc; have Hb2 : Hid (Below w1.heap.size w1 w2) := undrew1 hb.out; clear hc hb)
    | (go_at_call 38; refine (index6 p x As ns cs ss _ ((Hr.out.below Hb2.out).more Hb2.out.size) (by exact Hc.out) hn).mono ?_; rintro e w3 ⟨rfl, hb3⟩; have Hb3 := belO6 (belO6 Hb Hb2) hb3; clear hb3))
  all_goals
    go_wp2_with fail
    go_ret
    exact ⟨rfl, Hb3⟩

theorem may_new (U C O x : Int) : MayH ⟨U, C, O, x, [], [], 0, 0⟩ ↔ Lay U C O ∧ 0 ≤ x ∧ x ≤ 512 := by
  unfold MayH
  have hrow : IsRow [] := by decide
  have h0 : 0 ≤ objH U C O x := by unfold objH; split <;> omega
  constructor
  · rintro ⟨h1, h2, _⟩; exact ⟨h1, h2.1, h2.2.1⟩
  · rintro ⟨h1, h2, h3⟩
    exact ⟨h1, ⟨h2, h3, hrow, by simpa using h0⟩, by simp, by show (0:Int) ≤ 0 ∧ (0:Int) ≤ 100; omega, by show (0:Int) ≤ 0 ∧ (0:Int) ≤ 1099511627776; omega, trivial⟩
theorem HVl.lit6 (w : World) (U C O x : Int) : Hid (HVl w ⟨U, C, O, x, [], [], 0, 0⟩ U C O x none 0 none 0 0 0) :=
  ⟨rfl, RdI.nil, by omega, RdN.nil _ _ _, by omega, fun s hs => by simp at hs⟩

set_option maxRecDepth 10000 in
set_option maxHeartbeats 2000000 in
theorem pNew6 (U C O x : Int) (w : World) : HF 13 #[.agg #[.int .i64 U, .int .i64 C, .int .i64 O], .int .i64 x] w (newX U C O x) (newE U C O x) := by
  have Hb := Lib.hid (((Below.refl w.heap.size w).alloc (Nat.le_refl _) (.cells #[.int .i64 U, .int .i64 C, .int .i64 O] 23)).alloc (by simp) (.cells #[.int .i64 0, .int .i64 0, .int .i64 0, .int .i64 0, .slice none 0 0, .slice none 0 0, .int .i64 0, .int .i64 0] 27))
  have Hl := Lib.hid ((LayAt.box w U C O 23).to (((Below.refl _ (w.alloc (.cells #[.int .i64 U, .int .i64 C, .int .i64 O] 23))).alloc (Nat.le_refl _) (.cells #[.int .i64 0, .int .i64 0, .int .i64 0, .int .i64 0, .slice none 0 0, .slice none 0 0, .int .i64 0, .int .i64 0] 27))))
  have Hz := Lib.hid (heap_alloc_new (w.alloc (.cells #[.int .i64 U, .int .i64 C, .int .i64 O] 23)) (.cells #[.int .i64 0, .int .i64 0, .int .i64 0, .int .i64 0, .slice none 0 0, .slice none 0 0, .int .i64 0, .int .i64 0] 27))
  have Hmay := Lib.hid (may_new U C O x)
  go_enter Try.func13, Try.ntmps13
  go_upto_region 1 with fail
  generalize (w.alloc (.cells #[.int .i64 U, .int .i64 C, .int .i64 O] 23)).alloc (.cells #[.int .i64 0, .int .i64 0, .int .i64 0, .int .i64 0, .slice none 0 0, .slice none 0 0, .int .i64 0, .int .i64 0] 27) = w1 at Hb Hl Hz ⊢
  replace Hz := Lib.hid (show w1.heap[w.heap.size + 1]? = some (.cells #[.int .i64 0, .int .i64 0, .int .i64 0, .int .i64 0, .slice none 0 0, .slice none 0 0, .int .i64 0, .int .i64 0] 27 (0, 0)) by have h := Hz.out; simpa using h)
  obtain ⟨b, hbe⟩ : ∃ b, b = w.heap.size := ⟨_, rfl⟩
  obtain ⟨z, hze⟩ : ∃ z, z = w.heap.size + 1 := ⟨_, rfl⟩
  have Hbz := Lib.hid (show w.heap.size ≤ b ∧ w.heap.size ≤ z ∧ b < z by omega)
  rw [← hze] at Hz ⊢
  rw [← hbe] at Hl ⊢
  clear hbe hze
  have c0 := Hl.out.c0
  have c1 := Hl.out.c1
  have c2 := Hl.out.c2
  have Ha := Lib.hid ((Below.refl w1.heap.size w1).alloc (Nat.le_refl _) (.cells #[.int .i64 U, .int .i64 C, .int .i64 O, .int .i64 x, .slice none 0 0, .slice none 0 0, .int .i64 0, .int .i64 0] 27))
  have Hh := Lib.hid (heap_alloc_new w1 (.cells #[.int .i64 U, .int .i64 C, .int .i64 O, .int .i64 x, .slice none 0 0, .slice none 0 0, .int .i64 0, .int .i64 0] 27))
  go_upto_region 2 with fail
  generalize w1.alloc (.cells #[.int .i64 U, .int .i64 C, .int .i64 O, .int .i64 x, .slice none 0 0, .slice none 0 0, .int .i64 0, .int .i64 0] 27) = w2 at Ha Hh ⊢
  obtain ⟨y, hy⟩ : ∃ y, y = w1.heap.size := ⟨_, rfl⟩
  rw [← hy] at Hh ⊢
  have Hyz := Lib.hid (show z < y by rw [hy]; exact lt_of_block Hz.out)
  replace Hz := Lib.hid ((Ha.out.block z (lt_of_block Hz.out)).trans Hz.out)
  replace Hb := belO6 Hb Ha
  clear hy Ha c0 c1 c2 Hl
  obtain ⟨c0, c1, c2, c3, c4, c5, c6, c7⟩ := heads_of Hh.out
  have HC := Lib.hid (Check6 U C O x none 0 0 none 0 0 0 0 [] [] w2 RdI.nil (RdN.nil _ _ _) (by omega) (by omega) (fun s hs => by simp at hs))
  by_cases hM : MayH ⟨U, C, O, x, [], [], 0, 0⟩
  · have HE := Lib.hid (show mayE ⟨U, C, O, x, [], [], 0, 0⟩ = 0 by unfold mayE; rw [if_pos hM])
    have HN := Lib.hid (show newE U C O x = 0 by unfold newE; rw [if_pos (Hmay.out.1 hM)])
    have HX := Lib.hid (show newX U C O x = ⟨U, C, O, x, [], [], 0, 0⟩ by unfold newX; rw [if_pos HN.out])
    rw [HE.out] at HC
    clear hM HE
    go_wp2_with fail
    refine HC.out.mono ?_
    rintro e w3 ⟨rfl, hb3⟩
    replace Hz := Lib.hid ((hb3.out.block z (lt_of_block Hz.out)).trans Hz.out)
    replace Hh := Lib.hid ((hb3.out.block y (lt_of_block Hh.out)).trans Hh.out)
    replace Hb := belO6 Hb hb3
    clear hb3 HC c0 c1 c2 c3 c4 c5 c6 c7
    obtain ⟨c0, c1, c2, c3, c4, c5, c6, c7⟩ := heads_of Hh.out
    obtain ⟨z0, z1, z2, z3, z4, z5, z6, z7⟩ := heads_of Hz.out
    have y0 := free_blk Hz.out 0
    have y1 := free_blk Hz.out 1
    have y2 := free_blk Hz.out 2
    have y3 := free_blk Hz.out 3
    have y4 := free_blk Hz.out 4
    have y5 := free_blk Hz.out 5
    have y6 := free_blk Hz.out 6
    have y7 := free_blk Hz.out 7
    have P8 := Lib.hid (put8_at Hz.out (.int .i64 U) (.int .i64 C) (.int .i64 O) (.int .i64 x) (.slice none 0 0) (.slice none 0 0) (.int .i64 0) (.int .i64 0))
    have B8 := Lib.hid (put8_below Hb.out (by have := Hbz.out; omega) (.int .i64 U) (.int .i64 C) (.int .i64 O) (.int .i64 x) (.slice none 0 0) (.slice none 0 0) (.int .i64 0) (.int .i64 0) (z := z))
    go_wp2_with fail
    clear c0 c1 c2 c3 c4 c5 c6 c7 z0 z1 z2 z3 z4 z5 z6 z7 y0 y1 y2 y3 y4 y5 y6 y7
    change bodyPost _ _ _ _ _ (put8 w3 z (.int .i64 U) (.int .i64 C) (.int .i64 O) (.int .i64 x) (.slice none 0 0) (.slice none 0 0) (.int .i64 0) (.int .i64 0))
    generalize put8 w3 z (.int .i64 U) (.int .i64 C) (.int .i64 O) (.int .i64 x) (.slice none 0 0) (.slice none 0 0) (.int .i64 0) (.int .i64 0) = w4 at P8 B8 ⊢
    obtain ⟨z0, z1, z2, z3, z4, z5, z6, z7⟩ := heads_of P8.out
    exact bodyPost_ret (v := .tuple #[hV U C O x none 0 0 none 0 0 0 0, .int .i64 0]) (by simp [results, Try.results13, go_sem, z0, z1, z2, z3, z4, z5, z6, z7]) rfl ⟨U, C, O, x, none, 0, 0, none, 0, 0, 0, 0, by rw [HN.out], by rw [HX.out]; exact HVl.lit6 w4 U C O x, ⟨by omega, by omega⟩, B8⟩
  · have HE := Lib.hid (show mayE ⟨U, C, O, x, [], [], 0, 0⟩ = 60 by unfold mayE; rw [if_neg hM])
    have HN := Lib.hid (show newE U C O x = 1 by unfold newE; rw [if_neg (fun q => hM (Hmay.out.2 q))])
    have HX := Lib.hid (show newX U C O x = hd0 by unfold newX; rw [if_neg (by rw [HN.out]; decide)])
    rw [HE.out] at HC
    clear hM HE
    go_wp2_with fail
    refine HC.out.mono ?_
    rintro e w3 ⟨rfl, hb3⟩
    replace Hz := Lib.hid ((hb3.out.block z (lt_of_block Hz.out)).trans Hz.out)
    replace Hb := belO6 Hb hb3
    clear hb3 HC c0 c1 c2 c3 c4 c5 c6 c7 Hh
    obtain ⟨z0, z1, z2, z3, z4, z5, z6, z7⟩ := heads_of Hz.out
    have y0 := free_blk Hz.out 0
    have y1 := free_blk Hz.out 1
    have y2 := free_blk Hz.out 2
    have y3 := free_blk Hz.out 3
    have y4 := free_blk Hz.out 4
    have y5 := free_blk Hz.out 5
    have y6 := free_blk Hz.out 6
    have y7 := free_blk Hz.out 7
    have P8 := Lib.hid (put8_at Hz.out (.int .i64 0) (.int .i64 0) (.int .i64 0) (.int .i64 0) (.slice none 0 0) (.slice none 0 0) (.int .i64 0) (.int .i64 0))
    have B8 := Lib.hid (put8_below Hb.out (by have := Hbz.out; omega) (.int .i64 0) (.int .i64 0) (.int .i64 0) (.int .i64 0) (.slice none 0 0) (.slice none 0 0) (.int .i64 0) (.int .i64 0) (z := z))
    go_wp2_with fail
    clear z0 z1 z2 z3 z4 z5 z6 z7 y0 y1 y2 y3 y4 y5 y6 y7
    change bodyPost _ _ _ _ _ (put8 w3 z (.int .i64 0) (.int .i64 0) (.int .i64 0) (.int .i64 0) (.slice none 0 0) (.slice none 0 0) (.int .i64 0) (.int .i64 0))
    generalize put8 w3 z (.int .i64 0) (.int .i64 0) (.int .i64 0) (.int .i64 0) (.slice none 0 0) (.slice none 0 0) (.int .i64 0) (.int .i64 0) = w4 at P8 B8 ⊢
    obtain ⟨z0, z1, z2, z3, z4, z5, z6, z7⟩ := heads_of P8.out
    exact bodyPost_ret (v := .tuple #[hV0, .int .i64 1]) (by simp [results, Try.results13, go_sem, z0, z1, z2, z3, z4, z5, z6, z7]) rfl ⟨0, 0, 0, 0, none, 0, 0, none, 0, 0, 0, 0, by rw [HN.out], by rw [HX.out]; exact HVl.zero w4, ⟨by omega, by omega⟩, B8⟩
end Go.Proofs.Ytaobdebeglenaaa

namespace Go.Proofs.Ytaobdebeglenaaa
open Go.RowKit

/-- the cells of snapshots that can be read -/
theorem RdN.cells {w : World} {A : Option Addr} {n : Nat} {ss : List Sn} (h : RdN w w.heap.size A n ss) :
    ∃ vs : List Sv, vs.map Sv.s = ss ∧ vs.length = n ∧ (∀ p ∈ vs, SvAt w p) ∧ ∀ j (hj : j < vs.length), ∃ g o, A = some ⟨g, o, none⟩ ∧ g < w.heap.size ∧ w.cell? ⟨g, o + j * 3, none⟩ = some (.int .i64 vs[j].s.id) ∧ w.cell? ⟨g, o + j * 3 + 1, none⟩ = some (.int .i64 vs[j].s.size) ∧ w.cell? ⟨g, o + j * 3 + 2, none⟩ = some (.slice vs[j].A vs[j].n vs[j].c) := by
  obtain ⟨vs, e1, e2, e3, e4⟩ := h.vals
  refine ⟨vs, e1, e2, e3, fun j hj => ?_⟩
  have hjs : j < ss.length := by rw [h.1]; omega
  obtain ⟨g, o, _, _, _, f1, f2, f3, f4, _⟩ := h.2 j hjs
  obtain ⟨ad, k1, k2⟩ := e4 (by omega)
  rw [f1] at k1
  cases k1
  have hadd : ∀ k, (⟨g, o, none⟩ : Addr).add k = ⟨g, o + k, none⟩ := fun k => by unfold Addr.add; split <;> simp_all
  refine ⟨g, o, f1, f2, ?_, ?_, ?_⟩
  · have := k2 (j * 3 + 0) (.int .i64 vs[j].s.id) (by rw [flatN_get vs j 0 hj (by omega)]; rfl)
    rwa [hadd] at this
  · have := k2 (j * 3 + 1) (.int .i64 vs[j].s.size) (by rw [flatN_get vs j 1 hj (by omega)]; rfl)
    rwa [hadd, ← Nat.add_assoc] at this
  · have := k2 (j * 3 + 2) (.slice vs[j].A vs[j].n vs[j].c) (by rw [flatN_get vs j 2 hj (by omega)]; rfl)
    rwa [hadd, ← Nat.add_assoc] at this
theorem own_succ {w : World} {base n s : Nat} {e : TypeId} {v : Value} {xs : List Value} (h : w.ownsRow base e s v (n + 1) xs) : ∃ g c, v = .slice (some ⟨g, 0, none⟩) (n + 1) c ∧ n + 1 ≤ c ∧ c ≤ maxLen := by
  rcases ownForm h with ⟨_, h0⟩ | ⟨g, c, h1, _, _, k1, k2⟩
  · omega
  · exact ⟨g, c, h1, k1, k2⟩
def svM (p : Sv) : Value := .slice p.A p.n p.c

set_option maxRecDepth 10000 in
set_option maxHeartbeats 2000000 in
theorem versions6 (U C O sz : Int) (Am : Option Addr) (nm cm : Nat) (As : Option Addr) (ns cs : Nat) (last seq : Int) (m : List Int) (ss : List Sn) (w : World) (hm : RdI w w.heap.size Am nm m) (hr : RdN w w.heap.size As ns ss) (hn : nm ≤ 3000) (hs : ns ≤ 12) :
    Calls Try.prog 64 #[hV U C O sz Am nm cm As ns cs last seq] w fun e w' => ∃ g c, e = .returned (.slice (some ⟨g, 0, none⟩) (ns + 1) c) ∧ Hid (ns + 1 ≤ c ∧ c ≤ 9223372036854775807) ∧ Hid (RdII w' w'.heap.size (some ⟨g, 0, none⟩) (ns + 1) (ss.map Sn.map ++ [m])) ∧ Hid (Below w.heap.size w w') := by
  obtain ⟨inf, hi, hz0, hz1, hz2⟩ := info_parts Try.infoL
  have Hb := Lib.hid ((Below.refl w.heap.size w).alloc (Nat.le_refl _) (.cells #[.int .i64 U, .int .i64 C, .int .i64 O, .int .i64 sz, .slice Am nm cm, .slice As ns cs, .int .i64 last, .int .i64 seq] 27))
  have Hr := Lib.hid ((hr.below Hb.out).more Hb.out.size)
  have Hm := Lib.hid ((hm.below Hb.out).more Hb.out.size)
  have Hh := Lib.hid (HAt.box w U C O sz (.slice Am nm cm) (.slice As ns cs) last seq 27)
  clear hr hm
  go_enter Try.func64, Try.ntmps64
  go_upto_region 1 with fail
  generalize w.alloc (.cells #[.int .i64 U, .int .i64 C, .int .i64 O, .int .i64 sz, .slice Am nm cm, .slice As ns cs, .int .i64 last, .int .i64 seq] 27) = w1 at Hb Hr Hm Hh ⊢
  obtain ⟨b, hbe⟩ : ∃ b, b = w.heap.size := ⟨_, rfl⟩
  rw [← hbe] at Hh ⊢
  clear hbe
  obtain ⟨vs, e1, e2, e3, e4⟩ := Hr.out.cells
  subst e1
  have E2 := Lib.hid e2
  have E3 := Lib.hid e3
  have E4 := Lib.hid e4
  clear e2 e3 e4
  have c5 := Hh.out.c5
  go_wp2_with fail
  go_loopw [3, 9] (fun v iv wr => ∃ j : Nat, j ≤ ns ∧ iv = .int .i64 (j : Int) ∧ Hid (wr.ownsRow w1.heap.size 24 1 v j ((vs.take j).map svM)) ∧ Hid (Below w1.heap.size w1 wr)) (fun _ iv _ => ns - (intOf iv).toNat)
  case atStart => exact ⟨0, Nat.zero_le _, rfl, World.ownsRow_nil _ _ _ _, Below.refl _ _⟩
  case round =>
    obtain ⟨j, hj, rfl, Hown, Hbr⟩ := hrel
    have hj9 : j ≤ 12 := by omega
    obtain ⟨A3, c3, rfl, _, _⟩ := ownI Hown.out
    clear c5
    by_cases hjn : j < ns
    · have hjl : j < vs.length := by rw [E2.out]; exact hjn
      obtain ⟨g, o, rfl, hg, x0, x1, x2⟩ := E4.out j hjl
      have Hst := Lib.hid (show (vs.take (j + 1)).map svM = (vs.take j).map svM ++ [.slice vs[j].A vs[j].n vs[j].c] by rw [List.take_succ_eq_append_getElem hjl, List.map_append]; rfl)
      replace x0 := (Hbr.out.cell (p := ⟨g, o + j * 3, none⟩) hg).trans x0
      replace x1 := (Hbr.out.cell (p := ⟨g, o + j * 3 + 1, none⟩) hg).trans x1
      replace x2 := (Hbr.out.cell (p := ⟨g, o + j * 3 + 2, none⟩) hg).trans x2
      generalize vs[j] = p at x0 x1 x2 Hst
      obtain ⟨⟨x, y, mp⟩, Aj, nj, cj⟩ := p
      have x0 : wr.cell? ⟨g, o + j * 3, none⟩ = some (.int .i64 x) := x0
      have x1 : wr.cell? ⟨g, o + j * 3 + 1, none⟩ = some (.int .i64 y) := x1
      have x2 : wr.cell? ⟨g, o + j * 3 + 2, none⟩ = some (.slice Aj nj cj) := x2
      replace Hst : Hid ((vs.take (j + 1)).map svM = (vs.take j).map svM ++ [.slice Aj nj cj]) := Hst
      have hj0 : (0 : Int) ≤ (j : Int) := by omega
      have hj1 : (j : Int) < (ns : Int) := by omega
      have c5 := (Hh.out.to Hbr.out).c5
      have Hal := Lib.hid ((Below.refl wr.heap.size wr).alloc (Nat.le_refl _) (.cells #[.int .i64 x, .int .i64 y, .slice Aj nj cj] 52))
      have Hsx := Lib.hid (SAt.box wr x y (.slice Aj nj cj) 52)
      have Ho8 := Lib.hid (Hown.out.alloc (.cells #[.int .i64 x, .int .i64 y, .slice Aj nj cj] 52))
      have Hb8 := belO6 Hbr Hal
      clear hjl hg
      go_upto_region 5 with fail
      generalize wr.alloc (.cells #[.int .i64 x, .int .i64 y, .slice Aj nj cj] 52) = w8 at Hsx Ho8 Hb8 ⊢
      obtain ⟨sb, hsb⟩ : ∃ sb, sb = wr.heap.size := ⟨_, rfl⟩
      rw [← hsb] at Hsx ⊢
      clear hsb x0 x1 x2 c5 Hal
      have s2 := Hsx.out.c2
      have hws := Hb8.out.size
      go_wp2_with (at_builtin; refine wpList_append_rd rfl (.tmp 13) (.tmp 16) 83 rfl w1.heap.size 24 inf (.slice none 0 0) 24 Try.underlying83 hi hz0 hz1 hz2 rfl _ _ _ rfl (Ho8.out.alloc _) (some ⟨w8.heap.size, 0, none⟩) 1 1 [.slice Aj nj cj] rfl rfl (fun _ => ⟨_, rfl, one_new w8 _ _⟩) (by intro u hu; simp at hu; subst hu; rfl) (by simp only [maxLen]; omega) (by omega) (by simp; omega) ?_; intro v2 w5 hown2 hg2; have Hb2 := Lib.hid ((Hb8.out.alloc hws _).grown hg2 (by simp; omega) (fun k hk => (Ho8.out.lt k hk).1)); have Hown2 := Lib.hid hown2; clear hown2 hg2)
      go_roundw
      case rel => exact ⟨j + 1, by omega, by go_num, by rw [Hst.out]; exact Hown2, Hb2⟩
      case measure => simp [intOf]; omega
    · obtain rfl : j = ns := by omega
      have c4 := (Hh.out.to Hbr.out).c4
      have hws := Hbr.out.size
      replace Hown := Lib.hid (show wr.ownsRow w1.heap.size 24 1 (.slice A3 j c3) j (vs.map svM) by have h := Hown.out; rwa [List.take_of_length_le (by rw [E2.out]; exact Nat.le_refl _)] at h)
      go_wp2_with (at_builtin; refine wpList_append_rd rfl (.tmp 19) (.tmp 22) 83 rfl w1.heap.size 24 inf (.slice none 0 0) 24 Try.underlying83 hi hz0 hz1 hz2 rfl _ _ _ rfl (Hown.out.alloc _) (some ⟨wr.heap.size, 0, none⟩) 1 1 [.slice Am nm cm] rfl rfl (fun _ => ⟨_, rfl, one_new wr _ _⟩) (by intro u hu; simp at hu; subst hu; rfl) (by simp only [maxLen]; omega) (by omega) (by simp; omega) ?_; intro v2 w5 hown2 hg2; obtain ⟨g, c, rfl, k1, k2⟩ := own_succ hown2; have Hb2 := Lib.hid ((Hbr.out.alloc hws (.cells #[.slice Am nm cm] 24)).grown hg2 (by simp; omega) (fun k hk => (Hown.out.lt k hk).1)); have Hown2 := Lib.hid hown2; have K := Lib.hid (And.intro k1 k2); clear hown2 hg2 k1 k2)
      go_ret
      refine ⟨g, c, rfl, ⟨K.out.1, by have := K.out.2; simpa [maxLen] using this⟩, ?_, belO6 Hb Hb2⟩
      refine rdII_own Hown2.out (by simp [E2.out]) (fun r hr => ?_)
      by_cases hrq : r < j
      · have hrl : r < vs.length := by rw [E2.out]; exact hrq
        have hp := (E3.out _ (List.getElem_mem hrl)).to Hb2.out
        refine ⟨vs[r].A, vs[r].n, vs[r].c, by rw [List.getElem?_append_left (by simp [E2.out]; exact hrq), List.getElem?_map, List.getElem?_eq_getElem hrl]; rfl, ?_, hp.2⟩
        rw [List.getElem_append_left (by simp [E2.out]; exact hrq)]
        simpa using hp.1
      · have hr2 : r < j + 1 := by rw [List.length_append, List.length_map, List.length_map, E2.out] at hr; simpa using hr
        obtain rfl : r = j := by omega
        refine ⟨Am, nm, cm, by rw [List.getElem?_append_right (by simp [E2.out])]; simp [E2.out], ?_, by omega⟩
        rw [List.getElem_append_right (by simp [E2.out])]
        simp only [List.length_map, E2.out, Nat.sub_self, List.getElem_cons_zero]
        exact (Hm.out.below Hb2.out).more Hb2.out.size
/-- a part of a slice of slices -/
theorem RdII.sub {w : World} {B n : Nat} {g : Nat} {ll : List (List Int)} (h : RdII w B (some ⟨g, 0, none⟩) n ll) (k q : Nat) (hk : k + q ≤ n) : RdII w B (some ⟨g, k, none⟩) q ((ll.drop k).take q) := by
  have hadd : ∀ k j, (⟨g, k, none⟩ : Addr).add j = ⟨g, k + j, none⟩ := fun k j => by unfold Addr.add; split <;> simp_all
  refine ⟨by rw [List.length_take, List.length_drop, h.1]; omega, fun j hj => ?_⟩
  have hjq : j < q := by rw [List.length_take] at hj; omega
  have hl : k + j < ll.length := by rw [h.1]; omega
  obtain ⟨ad, Aj, cj, h1, h2, h3, h4, h5⟩ := h.2 (k + j) hl
  cases h1
  have e : ((ll.drop k).take q)[j] = ll[k + j] := by simp
  rw [e]
  exact ⟨⟨g, k, none⟩, Aj, cj, rfl, h2, by rw [hadd] at h3 ⊢; rwa [Nat.zero_add] at h3, h4, h5⟩
/-- what stands behind a snapshot, out of all maps -/
theorem rest_maps (h : Hd) (a : Nat) (f t : Int) (ha : a < h.snaps.length) (hb : t ≠ 0 → (a : Int) ≤ findH h.snaps t) :
    restH h a f t = ((h.snaps.map Sn.map ++ [h.map]).drop (a + 1)).take ((if t = 0 then h.snaps.length else (findH h.snaps t).toNat) - a) := by
  by_cases ht : t = 0
  · rw [if_pos ht]
    unfold restH
    rw [if_pos ht, List.drop_append_of_le_length (by simp; omega), List.take_of_length_le (by simp; omega), List.map_drop]
  · have h1 := hb ht
    have h2 := (findH_range t h.snaps).2
    obtain ⟨k, hk⟩ : ∃ k : Nat, findH h.snaps t = k := ⟨(findH h.snaps t).toNat, by omega⟩
    rw [hk] at h1 h2
    rw [if_neg ht]
    unfold restH
    rw [if_neg ht, hk, Int.toNat_natCast, List.drop_append_of_le_length (by simp; omega), List.take_append_of_le_length (by simp; omega), List.map_drop, List.map_take, List.drop_take, show k + 1 - (a + 1) = k - a by omega]
end Go.Proofs.Ytaobdebeglenaaa

namespace Go.Proofs.Ytaobdebeglenaaa
open Go.RowKit

/-- an entry of a slice of slices within a region -/
theorem keepD1 {p : Addr} {v : Value} {W0 W w1 : World} (h : W.cell? p = some v ∧ Hid (Below W0.heap.size W0 W)) (hb : Hid (Below W.heap.size W w1)) : w1.cell? p = some v ∧ Hid (Below W0.heap.size W0 w1) :=
  ⟨(hb.out.cell (World.block_lt_of_cell? W _ h.1)).trans h.1, belO6 h.2 hb⟩
theorem lastD1 {p : Addr} {v : Value} {W0 W : World} (h : W.cell? p = some v ∧ Hid (Below W0.heap.size W0 W)) : Hid (Below W0.heap.size W0 W) := h.2
theorem startD1 {p : Addr} {v : Value} {W : World} (h : Hid (W.cell? p = some v)) : W.cell? p = some v ∧ Hid (Below W.heap.size W W) := ⟨h.out, Below.refl _ _⟩
theorem startDD1 {p : Addr} {v : Value} {W : World} (h : Hid (W.cell? p = some v)) : W.drew.cell? p = some v ∧ Hid (Below W.heap.size W W.drew) := ⟨h.out, (Below.refl _ _).drew⟩

def DiQ (w : World) (l : List Int) (E : Int) (e : Ending) (w' : World) : Prop := ∃ A n c, e = .returned (.tuple #[.slice A n c, .int .i64 E]) ∧ Hid (IAt w' A n l) ∧ Hid (Below w.heap.size w w')
set_option maxRecDepth 10000 in
set_option maxHeartbeats 4000000 in
theorem Diff6 (U C O sz : Int) (Am : Option Addr) (nm cm : Nat) (As : Option Addr) (ns cs : Nat) (last seq f t : Int) (m : List Int) (ss : List Sn) (w : World) (hm : RdI w w.heap.size Am nm m) (hr : RdN w w.heap.size As ns ss) (hn : nm ≤ 3000) (hs : ns ≤ 12) (hmm : ∀ s ∈ ss, s.map.length ≤ 3000) :
    DF 29 #[hV U C O sz Am nm cm As ns cs last seq, .int .i64 f, .int .i64 t] w (diffX ⟨U, C, O, sz, m, ss, last, seq⟩ f t) (diffE ⟨U, C, O, sz, m, ss, last, seq⟩ f t) := by
  have Hb := alB6 w (.cells #[.int .i64 U, .int .i64 C, .int .i64 O, .int .i64 sz, .slice Am nm cm, .slice As ns cs, .int .i64 last, .int .i64 seq] 27)
  have Hr := Lib.hid ((hr.below Hb.out).more Hb.out.size)
  have Hm := Lib.hid ((hm.below Hb.out).more Hb.out.size)
  have Hh := Lib.hid (heap_alloc_new w (.cells #[.int .i64 U, .int .i64 C, .int .i64 O, .int .i64 sz, .slice Am nm cm, .slice As ns cs, .int .i64 last, .int .i64 seq] 27))
  have Hmm := Lib.hid hmm
  have Hnm := Lib.hid (show m.length ≤ 3000 by rw [hm.1]; exact hn)
  clear hr hm hmm
  show Calls _ _ _ _ (DiQ w _ _)
  go_enter Try.func29, Try.ntmps29
  go_upto_region 1 with fail
  generalize w.alloc (.cells #[.int .i64 U, .int .i64 C, .int .i64 O, .int .i64 sz, .slice Am nm cm, .slice As ns cs, .int .i64 last, .int .i64 seq] 27) = w1 at Hb Hr Hm Hh ⊢
  obtain ⟨b, hbe⟩ : ∃ b, b = w.heap.size := ⟨_, rfl⟩
  rw [← hbe] at Hh ⊢
  clear hbe
  obtain ⟨c0, c1, c2, c3, c4, c5, c6, c7⟩ := heads_of Hh.out
  have HC := Lib.hid (Check6 U C O sz Am nm cm As ns cs last seq m ss w1 Hm.out Hr.out hn hs Hmm.out)
  by_cases hM : MayH ⟨U, C, O, sz, m, ss, last, seq⟩
  · have HE := Lib.hid (show mayE ⟨U, C, O, sz, m, ss, last, seq⟩ = 0 by unfold mayE; rw [if_pos hM])
    rw [HE.out] at HC
    have Hdf := Lib.hid (show diffE ⟨U, C, O, sz, m, ss, last, seq⟩ f t = if findH ss f < 0 ∨ t ≠ 0 ∧ findH ss t < findH ss f then 182 else 0 by
      unfold diffE
      rw [if_pos hM])
    have Hs4 := Lib.hid (show ns ≤ 4 by have h : ss.length ≤ 4 := hM.2.2.1; have := Hr.out.1; omega)
    clear HE hM
    go_wp2_with fail
    refine HC.out.mono ?_
    rintro e w2 ⟨rfl, hb⟩
    replace Hr := Lib.hid ((Hr.out.below hb.out).more hb.out.size)
    replace Hm := Lib.hid ((Hm.out.below hb.out).more hb.out.size)
    replace Hh := blk_keep Hh hb
    replace Hb := belO6 Hb hb
    clear hb HC c0 c1 c2 c3 c4 c5 c6 c7
    obtain ⟨c0, c1, c2, c3, c4, c5, c6, c7⟩ := heads_of Hh.out
    have HV := Lib.hid (versions6 U C O sz Am nm cm As ns cs last seq m ss w2 Hm.out Hr.out hn hs)
    go_wp2_with fail
    refine HV.out.mono ?_
    rintro e w3 ⟨g, c, rfl, K, Hll, hb⟩
    replace Hr := Lib.hid ((Hr.out.below hb.out).more hb.out.size)
    replace Hh := blk_keep Hh hb
    replace Hb := belO6 Hb hb
    clear hb HV c0 c1 c2 c3 c4 c5 c6 c7 Hm
    have HF : Hid (∀ (x : Int) w', Hid (Below w3.heap.size w3 w') → VF 17 #[hV U C O sz Am nm cm As ns cs last seq, .int .i64 x] w' (.int .i64 (findH ss x))) := fun x w' h => Find6 U C O sz Am nm cm As ns cs last seq x ss w' ((Hr.out.below h.out).more h.out.size) (by omega)
    have Hfr := Lib.hid (findH_range f ss)
    have Htr := Lib.hid (findH_range t ss)
    have Hlen := Lib.hid Hr.out.1
    have Hrest := Lib.hid (fun a : Nat => rest_maps ⟨U, C, O, sz, m, ss, last, seq⟩ a f t)
    have Hdx := Lib.hid (show diffX ⟨U, C, O, sz, m, ss, last, seq⟩ f t = if diffE ⟨U, C, O, sz, m, ss, last, seq⟩ f t = 0 then changedO (goneH ss (findH ss f).toNat) (restH ⟨U, C, O, sz, m, ss, last, seq⟩ (findH ss f).toNat f t) else [] from rfl)
    go_wp2_with fail
    go_region_held3 (fun w' => w'.cell? ⟨b, 0, none⟩ = some (.int .i64 U) ∧ w'.cell? ⟨b, 1, none⟩ = some (.int .i64 C) ∧ w'.cell? ⟨b, 2, none⟩ = some (.int .i64 O) ∧ w'.cell? ⟨b, 3, none⟩ = some (.int .i64 sz) ∧ w'.cell? ⟨b, 4, none⟩ = some (.slice Am nm cm) ∧ w'.cell? ⟨b, 5, none⟩ = some (.slice As ns cs) ∧ w'.cell? ⟨b, 6, none⟩ = some (.int .i64 last) ∧ w'.cell? ⟨b, 7, none⟩ = some (.int .i64 seq) ∧ Hid (Below w3.heap.size w3 w')) (first | exact keep8 (by assumption) (by assumption) | exact start8 Hh | exact startD8 Hh) (first
      | (go_at_call 17; refine (HF.out _ _ (last8 (by assumption))).mono ?_; rintro e va ⟨rfl, hb⟩))
    have hz : Hid (Below w3.heap.size w3 va) := last8 (by assumption)
    obtain ⟨ka, hka⟩ : ∃ k, k = findH ss f := ⟨_, rfl⟩
    obtain ⟨kb, hkb⟩ : ∃ k, k = findH ss t := ⟨_, rfl⟩
    rw [← hka] at Hdf Hdx Hfr ⊢
    rw [← hkb] at Hdf Htr ⊢
    have Hkb := Lib.hid hkb
    clear hka hkb
    replace Hll := Lib.hid ((Hll.out.below hz.out).more hz.out.size)
    replace Hb := belO6 Hb hz
    clear hz HF Hr Hh
    obtain ⟨wd, hwd⟩ : ∃ wd, wd = va := ⟨_, rfl⟩
    have Hll2 : Hid (RdII wd wd.heap.size (some ⟨g, 0, none⟩) (ns + 1) (ss.map Sn.map ++ [m])) := by rw [hwd]; exact Hll
    have Hb2 : Hid (Below w.heap.size w wd) := by rw [hwd]; exact Hb
    rw [← hwd]
    clear hwd Hll Hb
    obtain ⟨N, hN⟩ : ∃ N, N = ns + 1 := ⟨_, rfl⟩
    rw [← hN] at Hll2 K ⊢
    have HN := Lib.hid hN
    have hN1 : (N : Int) - 1 = (ns : Int) := by omega
    clear hN
    obtain ⟨bI, HbI⟩ : ∃ bI : Int, Hid (bI = if t = 0 then (ns : Int) else kb) := ⟨_, rfl⟩
    go_upto_if 26 with fail
    go_cut [11] (fun s11 wx => s11 = .int .i64 bI ∧ wd = wx)
    case first =>
      by_cases g1 : t = 0
      · have hb1 := Lib.hid (show bI = (ns : Int) by have h := HbI.out; rw [if_pos g1] at h; exact h)
        subst g1
        go_wp2_with fail
        go_meet
        exact ⟨by rw [hb1.out], rfl⟩
      · have g1b : (t == 0) = false := by simpa using g1
        have hb1 := Lib.hid (show bI = kb by have h := HbI.out; rw [if_neg g1] at h; exact h)
        go_wp2_with fail
        go_meet
        exact ⟨by rw [hb1.out], rfl⟩
    case rest =>
      obtain ⟨rfl, rfl⟩ := hcut
      clear hN1
      by_cases hbad : ka < 0 ∨ bI < ka
      · have HD := Lib.hid (show diffE ⟨U, C, O, sz, m, ss, last, seq⟩ f t = 182 by
          rw [Hdf.out, if_pos]
          have h := HbI.out
          have h2 := Hfr.out.2
          have h3 := Hlen.out
          by_cases q : t = 0
          · rw [if_pos q] at h; omega
          · rw [if_neg q] at h; rcases hbad with k | k
            · exact .inl k
            · exact .inr ⟨q, by omega⟩)
        have HX := Lib.hid (show diffX ⟨U, C, O, sz, m, ss, last, seq⟩ f t = [] by unfold diffX; rw [if_neg (by rw [HD.out]; decide)])
        by_cases g0 : ka < 0
        · clear hbad
          go_wp2_with fail
          exact bodyPost_ret (v := .tuple #[.slice none 0 0, .int .i64 182]) (by simp [results, Try.results29, go_sem]) rfl ⟨none, 0, 0, by rw [HD.out], by rw [HX.out]; exact ⟨RdI.nil, by omega⟩, Hb2⟩
        · have g1 : bI < ka := by omega
          have g0' : 0 ≤ ka := by omega
          clear hbad
          go_wp2_with fail
          exact bodyPost_ret (v := .tuple #[.slice none 0 0, .int .i64 182]) (by simp [results, Try.results29, go_sem]) rfl ⟨none, 0, 0, by rw [HD.out], by rw [HX.out]; exact ⟨RdI.nil, by omega⟩, Hb2⟩
      · obtain ⟨a, rfl⟩ : ∃ a : Nat, ka = a := ⟨ka.toNat, by omega⟩
        obtain ⟨e, rfl⟩ : ∃ e : Nat, bI = e := ⟨bI.toNat, by omega⟩
        have hae : a ≤ e := by omega
        have hal : a < ns := by have h := Hfr.out.2; have := Hlen.out; omega
        have hen : e ≤ ns := by
          have h := HbI.out
          have h2 := Htr.out.2
          have h3 := Hlen.out
          by_cases q : t = 0
          · rw [if_pos q] at h; omega
          · rw [if_neg q] at h; omega
        have HD := Lib.hid (show diffE ⟨U, C, O, sz, m, ss, last, seq⟩ f t = 0 by
          rw [Hdf.out, if_neg]
          have h := HbI.out
          rintro (k | ⟨q, k⟩)
          · omega
          · rw [if_neg q] at h; omega)
        have HX := Lib.hid (show diffX ⟨U, C, O, sz, m, ss, last, seq⟩ f t = changedO (goneH ss a) (((ss.map Sn.map ++ [m]).drop (a + 1)).take (e - a)) by
          rw [Hdx.out, if_pos HD.out, Int.toNat_natCast, Hrest.out a (by rw [Hlen.out]; exact hal) (fun q => by
            have h := HbI.out
            rw [if_neg q] at h
            rw [← Hkb.out, ← h]
            omega)]
          have h := HbI.out
          by_cases q : t = 0
          · rw [if_pos q] at h ⊢
            rw [Hlen.out, show ns = e by omega]
          · rw [if_neg q] at h ⊢
            rw [← Hkb.out, ← h, Int.toNat_natCast])
        have Hsub := Lib.hid (Hll2.out.sub (a + 1) (e - a) (by have := HN.out; omega))
        have hals : a < ss.length := by rw [Hlen.out]; exact hal
        obtain ⟨ad, Aa, ca, k1, k2, k3, k4, k5⟩ := Hll2.out.2 a (by rw [Hll2.out.1]; have := HN.out; omega)
        cases k1
        have hx2 : (ss.map Sn.map ++ [m])[a]'(by rw [Hll2.out.1]; have := HN.out; omega) = goneH ss a := by
          rw [gone_at hals, List.getElem_append_left (by simpa using hals)]
          simp
        rw [hx2] at k3 k4 k5
        have hg0 : (goneH ss a).length ≤ 3000 := by rw [gone_at hals]; exact Hmm.out _ (List.getElem_mem hals)
        have hadd : (⟨g, 0, none⟩ : Addr).add a = ⟨g, a, none⟩ := by unfold Addr.add; split <;> simp_all
        rw [hadd] at k3
        have Hgone := Lib.hid (show IAt wd Aa (goneH ss a).length (goneH ss a) from ⟨k4, hg0⟩)
        have Hshort : Hid (∀ l ∈ ((ss.map Sn.map ++ [m]).drop (a + 1)).take (e - a), l.length ≤ 3000) := fun l hl => by
          rcases List.mem_append.1 (List.mem_of_mem_drop (List.mem_of_mem_take hl)) with q | q
          · obtain ⟨s, h1, h2⟩ := List.mem_map.1 q
            rw [← h2]; exact Hmm.out s h1
          · simp at q; rw [q]; exact Hnm.out
        have Hc := Lib.hid k3
        have hcl : g < wd.heap.size := k2
        clear k2 k3 k4 k5 hx2 hg0 hadd hbad hals
        generalize (goneH ss a).length = na at Hgone Hc
        generalize ((ss.map Sn.map ++ [m]).drop (a + 1)).take (e - a) = ll at HX Hsub Hshort
        have HG : Hid (∀ w', Hid (Below wd.heap.size wd w') → NF 65 #[.slice Aa na ca, .slice (some ⟨g, a + 1, none⟩) (e - a) (c - (a + 1))] w' (changedO (goneH ss a) ll)) := fun w' h =>
          hChanged ca (c - (a + 1)) (IAt.keep Hgone h) ((Hsub.out.below h.out).more h.out.size) (by have := Hs4.out; omega) Hshort.out
        obtain ⟨a1, ha1⟩ : ∃ a1, a1 = a + 1 := ⟨_, rfl⟩
        obtain ⟨e1, he1⟩ : ∃ e1, e1 = e + 1 := ⟨_, rfl⟩
        rw [← ha1, show e - a = e1 - a1 by omega] at HG
        have hw1 : IntKind.i64.wrap ((a : Int) + 1) = (a1 : Int) := by rw [IntWalk.i64_in _ (by omega)]; omega
        have hw2 : IntKind.i64.wrap ((e : Int) + 1) = (e1 : Int) := by rw [IntWalk.i64_in _ (by omega)]; omega
        have hi1 : (a : Int) < (N : Int) := by have := HN.out; omega
        have hi2 : a1 ≤ e1 := by omega
        have hi3 : e1 ≤ c := by have := K.out.1; have := HN.out; omega
        have hi4 : 0 < a1 := by omega
        have hi5 : a1 < c := by have := K.out.1; have := HN.out; omega
        have hi6 : ¬ c = a1 := by omega
        have g0' : 0 ≤ (a : Int) := by omega
        have g1' : ¬ (e : Int) < (a : Int) := by omega
        clear ha1 he1 hal hen hae
        go_wp2_with fail
        go_region_held3 (fun w' => w'.cell? ⟨g, a, none⟩ = some (.slice Aa na ca) ∧ Hid (Below wd.heap.size wd w')) (first | exact keepD1 (by assumption) (by assumption) | exact startD1 Hc | exact startDD1 Hc) (first
          | (go_at_call 65; refine (HG.out _ (lastD1 (by assumption))).mono ?_; rintro e w5 ⟨A5, n5, c5, rfl, H5, hb⟩))
        have hz : Hid (Below wd.heap.size wd w5) := lastD1 (by assumption)
        replace Hb2 := belO6 Hb2 hz
        clear hz
        go_wp2_with fail
        exact bodyPost_ret (v := .tuple #[.slice A5 n5 c5, .int .i64 0]) (by simp [results, Try.results29, go_sem]) rfl ⟨A5, n5, c5, by rw [HD.out], by rw [HX.out]; exact H5, Hb2⟩
  · have HE := Lib.hid (show mayE ⟨U, C, O, sz, m, ss, last, seq⟩ = 60 by unfold mayE; rw [if_neg hM])
    have HD := Lib.hid (show diffE ⟨U, C, O, sz, m, ss, last, seq⟩ f t = 60 by unfold diffE; rw [if_neg hM])
    have HX := Lib.hid (show diffX ⟨U, C, O, sz, m, ss, last, seq⟩ f t = [] by unfold diffX; rw [if_neg (by rw [HD.out]; decide)])
    rw [HE.out] at HC
    clear HE hM
    go_wp2_with fail
    refine HC.out.mono ?_
    rintro e w2 ⟨rfl, hb⟩
    replace Hb := belO6 Hb hb
    clear hb HC c0 c1 c2 c3 c4 c5 c6 c7
    go_wp2_with fail
    exact bodyPost_ret (v := .tuple #[.slice none 0 0, .int .i64 60]) (by simp [results, Try.results29, go_sem]) rfl ⟨none, 0, 0, by rw [HD.out], by rw [HX.out]; exact ⟨RdI.nil, by omega⟩, Hb⟩
end Go.Proofs.Ytaobdebeglenaaa
