/- Heads of images: contracts of the document's sized, May. -/
import Derived.Test.YtaobdebeglenaaaHdA
namespace Go.Proofs.Ytaobdebeglenaaa
open Go.RowKit

theorem RObj6 (U C O n : Int) (w : World) : Calls Try.prog 68 #[.agg #[.int .i64 U, .int .i64 C, .int .i64 O], .int .i64 n] w fun e w' => e = .returned (.int .i64 (objH U C O n)) ∧ Below w.heap.size w w' := by
  by_cases h : Lay U C O ∧ 0 ≤ n ∧ n ≤ 512
  · obtain ⟨hL, h0, h1⟩ := h
    have he : objH U C O n = (mxO U.toNat C.toNat (O / U).toNat n.toNat : Nat) := by unfold objH; rw [if_pos ⟨hL, h0, h1⟩]
    rw [he]
    obtain ⟨u, c, m, rfl, rfl, rfl, hN⟩ := hL.num
    obtain ⟨z, rfl⟩ := Int.eq_ofNat_of_zero_le h0
    have h := RObjects_ok u c m z w hN (by omega)
    have e : (((u * m : Nat) : Int) / (u : Int)).toNat = m := by
      have := hN.u1
      rw [← Int.natCast_ediv, Int.toNat_natCast, Nat.mul_div_cancel_left _ (by omega)]
    rw [e, Int.toNat_natCast, Int.toNat_natCast, Int.toNat_natCast]
    exact h
  · have he : objH U C O n = 0 := by unfold objH; rw [if_neg h]
    rw [he]
    exact RObjects_no U C O n w h

set_option maxRecDepth 10000 in
set_option maxHeartbeats 1000000 in
theorem sized6 (U C O sz : Int) (Am : Option Addr) (nm cm : Nat) (m : List Int) (w : World) (hr : RdI w w.heap.size Am nm m) (hn : nm ≤ 100000) :
    Calls Try.prog 34 #[.agg #[.int .i64 U, .int .i64 C, .int .i64 O], .int .i64 sz, .slice Am nm cm] w fun e w' => e = .returned (.bool (decide (sizedP U C O sz m))) ∧ Below w.heap.size w w' := by
  have Hb := Lib.hid ((Below.refl w.heap.size w).alloc (Nat.le_refl _) (.cells #[.int .i64 U, .int .i64 C, .int .i64 O] 23))
  have HM := Lib.hid (RMay_any Am nm cm m w.heap.size (w.alloc (.cells #[.int .i64 U, .int .i64 C, .int .i64 O] 23)) (hr.below Hb.out) (by omega))
  have Hlen := Lib.hid hr.1
  clear hr
  by_cases h0 : 0 ≤ sz
  · by_cases h1 : sz ≤ 512
    · by_cases h2 : IsRow m
      · have HM2 := Lib.hid (show decide (IsRow m) = true from decide_eq_true h2)
        rw [HM2.out] at HM
        have HO := fun w' => Lib.hid (RObj6 U C O sz w')
        have He := Lib.hid (show decide (sizedP U C O sz m) = decide ((nm : Int) ≤ objH U C O sz) by
          rw [← Hlen.out]
          exact decide_eq_decide.2 ⟨fun q => q.2.2.2, fun q => ⟨h0, h1, h2, q⟩⟩)
        rw [He.out]
        clear HM2 He h2
        generalize objH U C O sz = k at HO ⊢
        go_enter Try.func34, Try.ntmps34
        go_wp2_with fail
        refine HM.out.mono ?_
        rintro e w1 ⟨rfl, rfl⟩
        go_wp2_with fail
        refine (HO _).out.mono ?_
        rintro e w2 ⟨rfl, hb2⟩
        have Hb2 := Lib.hid (Hb.out.trans (hb2.mono Hb.out.size))
        clear hb2
        go_wp2_with fail
        go_ret
        exact ⟨by first | rfl | simp, Hb2.out⟩
      · have He := Lib.hid (show decide (sizedP U C O sz m) = false from decide_eq_false fun q => h2 q.2.2.1)
        have HM2 := Lib.hid (show decide (IsRow m) = false from decide_eq_false h2)
        rw [HM2.out] at HM
        clear h2
        go_enter Try.func34, Try.ntmps34
        go_wp2_with fail
        refine HM.out.mono ?_
        rintro e w1 ⟨rfl, rfl⟩
        go_wp2_with fail
        go_ret
        exact ⟨by first | (rw [He.out]; done) | (rw [He.out]; rfl), Hb.out⟩
    · have He := Lib.hid (show decide (sizedP U C O sz m) = false from decide_eq_false fun q => h1 q.2.1)
      have h1' : 512 < sz := by omega
      generalize decide (IsRow m) = v at HM
      go_enter Try.func34, Try.ntmps34
      go_wp2_with fail
      refine HM.out.mono ?_
      rintro e w1 ⟨rfl, rfl⟩
      go_wp2_with fail
      go_ret
      exact ⟨by first | (rw [He.out]; done) | (rw [He.out]; rfl), Hb.out⟩
  · have He := Lib.hid (show decide (sizedP U C O sz m) = false from decide_eq_false fun q => h0 q.1)
    have h0' : sz < 0 := by omega
    generalize decide (IsRow m) = v at HM
    go_enter Try.func34, Try.ntmps34
    go_wp2_with fail
    refine HM.out.mono ?_
    rintro e w1 ⟨rfl, rfl⟩
    go_wp2_with fail
    go_ret
    exact ⟨by first | (rw [He.out]; done) | (rw [He.out]; rfl), Hb.out⟩

/-- all but the snapshots themselves -/
def topP (U C O sz : Int) (m : List Int) (ns : Nat) (last seq : Int) : Prop := Lay U C O ∧ sizedP U C O sz m ∧ ns ≤ 4 ∧ (0 ≤ last ∧ last ≤ 100) ∧ 0 ≤ seq ∧ seq ≤ 1099511627776
instance (U C O sz : Int) (m : List Int) (ns : Nat) (last seq : Int) : Decidable (topP U C O sz m ns last seq) := by unfold topP; infer_instance
theorem may_top (U C O sz last seq : Int) (m : List Int) (ss : List Sn) : MayH ⟨U, C, O, sz, m, ss, last, seq⟩ ↔ topP U C O sz m ss.length last seq ∧ snsP U C O last 0 ss := by
  unfold MayH topP
  constructor
  · rintro ⟨h1, h2, h3, h4, h5, h6⟩; exact ⟨⟨h1, h2, h3, h4, h5⟩, h6⟩
  · rintro ⟨⟨h1, h2, h3, h4, h5⟩, h6⟩; exact ⟨h1, h2, h3, h4, h5, h6⟩
/-- block b holds a snapshot -/
structure SAt (b : Nat) (x y : Int) (m : Value) (w : World) : Prop where
  c0 : w.cell? ⟨b, 0, none⟩ = some (.int .i64 x)
  c1 : w.cell? ⟨b, 1, none⟩ = some (.int .i64 y)
  c2 : w.cell? ⟨b, 2, none⟩ = some m
theorem SAt.box (w : World) (x y : Int) (m : Value) (t : TypeId) : SAt w.heap.size x y m (w.alloc (.cells #[.int .i64 x, .int .i64 y, m] t)) := by
  refine ⟨?_, ?_, ?_⟩ <;> (rw [cell_blk (heap_alloc_new w _)]; rfl)
theorem SAt.to {b : Nat} {x y : Int} {m : Value} {w w' : World} (h : SAt b x y m w) (hb : Below w.heap.size w w') : SAt b x y m w' := by
  have hl : b < w.heap.size := World.block_lt_of_cell? w _ h.c0
  exact ⟨(hb.cell hl).trans h.c0, (hb.cell hl).trans h.c1, (hb.cell hl).trans h.c2⟩

set_option maxRecDepth 10000 in
set_option maxHeartbeats 4000000 in
theorem RMay6 (U C O sz : Int) (Am : Option Addr) (nm cm : Nat) (As : Option Addr) (ns cs : Nat) (last seq : Int) (m : List Int) (ss : List Sn) (w : World) (hm : RdI w w.heap.size Am nm m) (hr : RdN w w.heap.size As ns ss) (hn : nm ≤ 100000) (hs : ns ≤ 100000) (hmm : ∀ s ∈ ss, s.map.length ≤ 100000) :
    Calls Try.prog 12 #[hV U C O sz Am nm cm As ns cs last seq] w fun e w' => e = .returned (.bool (decide (MayH ⟨U, C, O, sz, m, ss, last, seq⟩))) ∧ Below w.heap.size w w' := by
  have Hb := Lib.hid ((Below.refl w.heap.size w).alloc (Nat.le_refl _) (.cells #[.int .i64 U, .int .i64 C, .int .i64 O, .int .i64 sz, .slice Am nm cm, .slice As ns cs, .int .i64 last, .int .i64 seq] 27))
  have Hr := Lib.hid ((hr.below Hb.out).more Hb.out.size)
  have Hm := Lib.hid ((hm.below Hb.out).more Hb.out.size)
  have Hh := Lib.hid (HAt.box w U C O sz (.slice Am nm cm) (.slice As ns cs) last seq 27)
  have Hmm := Lib.hid hmm
  have Htop := Lib.hid (may_top U C O sz last seq m ss)
  rw [hr.1] at Htop
  clear hr hm hmm
  go_enter Try.func12, Try.ntmps12
  go_upto_region 1 with fail
  generalize w.alloc (.cells #[.int .i64 U, .int .i64 C, .int .i64 O, .int .i64 sz, .slice Am nm cm, .slice As ns cs, .int .i64 last, .int .i64 seq] 27) = w1 at Hb Hr Hm Hh ⊢
  obtain ⟨b, hbe⟩ : ∃ b, b = w.heap.size := ⟨_, rfl⟩
  rw [← hbe] at Hh ⊢
  clear hbe
  have c0 := Hh.out.c0
  have c1 := Hh.out.c1
  have c2 := Hh.out.c2
  go_wp2_with fail
  refine (May_any U C O _).mono ?_
  rintro e w2 ⟨rfl, hb2⟩
  replace Hr := Lib.hid ((Hr.out.below hb2).more hb2.size)
  replace Hm := Lib.hid ((Hm.out.below hb2).more hb2.size)
  replace Hh := Lib.hid (Hh.out.to hb2)
  replace Hb := Lib.hid (Hb.out.trans (hb2.mono Hb.out.size))
  clear hb2 c0 c1 c2
  obtain ⟨ly, hly⟩ : ∃ ly, ly = decide (Lay U C O) := ⟨_, rfl⟩
  rw [← hly]
  have Hly := Lib.hid hly
  clear hly
  obtain ⟨ok, hok⟩ : ∃ ok, ok = decide (topP U C O sz m ns last seq) := ⟨_, rfl⟩
  have Hok := Lib.hid hok
  clear hok
  have c0 := Hh.out.c0
  have c1 := Hh.out.c1
  have c2 := Hh.out.c2
  have c3 := Hh.out.c3
  have c4 := Hh.out.c4
  have c5 := Hh.out.c5
  have c6 := Hh.out.c6
  have c7 := Hh.out.c7
  go_upto_region 2 with fail
  go_cut [47] (fun s47 wx => s47 = .bool (!ok) ∧ Hid (Below w2.heap.size w2 wx))
  case first =>
    have HS := Lib.hid (sized6 U C O sz Am nm cm m w2 Hm.out hn)
    cases ly
    · have hf := Lib.hid (show ok = false by rw [Hok.out]; exact decide_eq_false fun q => by have := Hly.out; simp at this; exact this q.1)
      go_wp2_with fail
      go_meet
      exact ⟨by rw [hf.out]; rfl, Below.refl _ _⟩
    · obtain ⟨sd, hsd⟩ : ∃ sd, sd = decide (sizedP U C O sz m) := ⟨_, rfl⟩
      rw [← hsd] at HS
      have Hsd := Lib.hid hsd
      clear hsd
      go_wp2_with fail
      refine HS.out.mono ?_
      rintro e w3 ⟨rfl, hb3⟩
      have Hb3 := Lib.hid hb3
      have Hh3 := Lib.hid (Hh.out.to hb3)
      have d5 := Hh3.out.c5
      have d6 := Hh3.out.c6
      have d7 := Hh3.out.c7
      clear hb3 c0 c1 c2 c3 c4 c5 c6 c7
      cases sd
      · have hf := Lib.hid (show ok = false by rw [Hok.out]; exact decide_eq_false fun q => by have := Hsd.out; simp at this; exact this q.2.1)
        go_wp2_with fail
        go_meet
        exact ⟨by rw [hf.out]; rfl, Hb3⟩
      · by_cases g0 : ns ≤ 4
        · have g0' : (ns : Int) ≤ 4 := by omega
          by_cases g1 : 0 ≤ last
          · have g1' : 0 ≤ last := by omega
            by_cases g2 : last ≤ 100
            · have g2' : last ≤ 100 := by omega
              by_cases g3 : 0 ≤ seq
              · have g3' : 0 ≤ seq := by omega
                by_cases g4 : seq ≤ 1099511627776
                · have g4' : seq ≤ 1099511627776 := by omega
                  have hf := Lib.hid (show ok = true by
                      rw [Hok.out]
                      have e1 := Hly.out
                      have e2 := Hsd.out
                      simp at e1 e2
                      exact decide_eq_true ⟨e1, e2, by omega, ⟨by omega, by omega⟩, by omega, by omega⟩)
                  go_wp2_with fail
                  go_meet
                  exact ⟨by rw [hf.out]; first | rfl | (simp; omega), Hb3⟩
                · have g4' : 1099511627776 < seq := by omega
                  have hf := Lib.hid (show ok = false by rw [Hok.out]; exact decide_eq_false fun q => g4 q.2.2.2.2.2)
                  go_wp2_with fail
                  go_meet
                  exact ⟨by rw [hf.out]; rfl, Hb3⟩
              · have g3' : seq < 0 := by omega
                have hf := Lib.hid (show ok = false by rw [Hok.out]; exact decide_eq_false fun q => g3 q.2.2.2.2.1)
                go_wp2_with fail
                go_meet
                exact ⟨by rw [hf.out]; rfl, Hb3⟩
            · have g2' : 100 < last := by omega
              have hf := Lib.hid (show ok = false by rw [Hok.out]; exact decide_eq_false fun q => g2 q.2.2.2.1.2)
              go_wp2_with fail
              go_meet
              exact ⟨by rw [hf.out]; rfl, Hb3⟩
          · have g1' : last < 0 := by omega
            have hf := Lib.hid (show ok = false by rw [Hok.out]; exact decide_eq_false fun q => g1 q.2.2.2.1.1)
            go_wp2_with fail
            go_meet
            exact ⟨by rw [hf.out]; rfl, Hb3⟩
        · have g0' : 4 < (ns : Int) := by omega
          have hf := Lib.hid (show ok = false by rw [Hok.out]; exact decide_eq_false fun q => g0 q.2.2.1)
          go_wp2_with fail
          go_meet
          exact ⟨by rw [hf.out]; rfl, Hb3⟩
  case rest =>
    obtain ⟨rfl, hbc⟩ := hcut
    replace Hr := Lib.hid ((Hr.out.below hbc.out).more hbc.out.size)
    replace Hh := Lib.hid (Hh.out.to hbc.out)
    replace Hb := Lib.hid (Hb.out.trans (hbc.out.mono Hb.out.size))
    clear hbc c0 c1 c2 c3 c4 c5 c6 c7 Hm
    cases ok
    · have He := Lib.hid (show decide (MayH ⟨U, C, O, sz, m, ss, last, seq⟩) = false from decide_eq_false fun q => by
        have e := Hok.out
        simp at e
        exact e (Htop.out.1 q).1)
      go_wp2_with fail
      go_ret
      exact ⟨by first | (rw [He.out]; done) | (rw [He.out]; rfl), Hb.out⟩
    · have Htr : Hid (MayH ⟨U, C, O, sz, m, ss, last, seq⟩ ↔ snsP U C O last 0 ss) := ⟨fun q => (Htop.out.1 q).2, fun q => Htop.out.2 ⟨by have e := Hok.out; simpa using e.symm, q⟩⟩
      clear Htop Hok Hly
      have Hws := Lib.hid (Hb.out.size)
      obtain ⟨wd, hwd⟩ : ∃ wd, wd = wc := ⟨_, rfl⟩
      subst hwd
      have Hr0 := Hr
      have Hh0 := Hh
      go_wp2_with fail
      go_loopw [4, 5] (fun av iv wr => ∃ j : Nat, j ≤ ns ∧ iv = .int .i64 j ∧ av = .int .i64 (lastId 0 (ss.take j)) ∧ Hid (snsP U C O last 0 (ss.take j)) ∧ Hid (Below wd.heap.size wd wr)) (fun _ iv _ => ns - (intOf iv).toNat)
      case atStart => exact ⟨0, Nat.zero_le _, rfl, rfl, trivial, Below.refl _ _⟩
      case round =>
        obtain ⟨j, hj, rfl, rfl, Hj, Hbr⟩ := hrel
        have Hr := Lib.hid ((Hr0.out.below Hbr.out).more Hbr.out.size)
        have Hh := Lib.hid (Hh0.out.to Hbr.out)
        have c0 := Hh.out.c0
        have c1 := Hh.out.c1
        have c2 := Hh.out.c2
        have c5 := Hh.out.c5
        have c6 := Hh.out.c6
        have hbl := Hh.out.lt
        by_cases hjn : j < ns
        · have hjl : j < ss.length := by rw [Hr.out.1]; exact hjn
          obtain ⟨g, o, Aj, nj, cj, rfl, hg, x0, x1, x2, h6, h7⟩ := Hr.out.2 j hjl
          have Hst := Lib.hid (List.take_succ_eq_append_getElem hjl)
          have Hdr := Lib.hid (show ss = ss.take j ++ ss[j] :: ss.drop (j + 1) by rw [← List.drop_eq_getElem_cons hjl, List.take_append_drop])
          have Hln := Lib.hid (Hmm.out _ (List.getElem_mem hjl))
          have Hm6 := Lib.hid h6
          clear h6
          generalize ss[j] = s at x0 x1 Hst Hdr Hln Hm6
          have hnj : nj ≤ 100000 := by rw [← Hm6.out.1]; exact Hln.out
          have hj0 : (0 : Int) ≤ (j : Int) := by omega
          have hj1 : (j : Int) < (ns : Int) := by omega
          clear hjl
          obtain ⟨la, hla⟩ : ∃ la, la = lastId 0 (ss.take j) := ⟨_, rfl⟩
          rw [← hla]
          have Hla := Lib.hid hla
          clear hla
          obtain ⟨x, y, mp⟩ := s
          have x0 : wr.cell? ⟨g, o + j * 3, none⟩ = some (.int .i64 x) := x0
          have x1 : wr.cell? ⟨g, o + j * 3 + 1, none⟩ = some (.int .i64 y) := x1
          have Hal := Lib.hid ((Below.refl wr.heap.size wr).alloc (Nat.le_refl _) (.cells #[.int .i64 x, .int .i64 y, .slice Aj nj cj] 52))
          have Hsx := Lib.hid (SAt.box wr x y (.slice Aj nj cj) 52)
          have Hm7 := Lib.hid ((Hm6.out.below Hal.out).more Hal.out.size)
          have Hh7 := Lib.hid (Hh.out.to Hal.out)
          have Hb7 := Lib.hid (Hbr.out.trans (Hal.out.mono Hbr.out.size))
          go_upto_region 9 with fail
          generalize wr.alloc (.cells #[.int .i64 x, .int .i64 y, .slice Aj nj cj] 52) = w8 at Hsx Hm7 Hh7 Hb7 ⊢
          obtain ⟨sb, hsb⟩ : ∃ sb, sb = wr.heap.size := ⟨_, rfl⟩
          rw [← hsb] at Hsx ⊢
          clear hsb x0 x1 x2 c0 c1 c2 c5 c6 Hal hbl
          have c0 := Hh7.out.c0
          have c1 := Hh7.out.c1
          have c2 := Hh7.out.c2
          have c6 := Hh7.out.c6
          have s0 := Hsx.out.c0
          have s1 := Hsx.out.c1
          have s2 := Hsx.out.c2
          obtain ⟨ok, hok⟩ : ∃ ok, ok = decide (la < x ∧ x ≤ last ∧ sizedP U C O y mp) := ⟨_, rfl⟩
          have Hok := Lib.hid hok
          clear hok
          go_cut [80] (fun s80 wx => s80 = .bool (!ok) ∧ Hid (Below w8.heap.size w8 wx))
          case first =>
            by_cases g0 : la < x
            · have g0' : ¬ x ≤ la := by omega
              by_cases g1 : x ≤ last
              · have HS := Lib.hid (sized6 U C O y Aj nj cj mp w8 Hm7.out hnj)
                obtain ⟨sd, hsd⟩ : ∃ sd, sd = decide (sizedP U C O y mp) := ⟨_, rfl⟩
                rw [← hsd] at HS
                have Hsd := Lib.hid hsd
                have hf := Lib.hid (show ok = sd by rw [Hok.out, Hsd.out]; exact decide_eq_decide.2 ⟨fun q => q.2.2, fun q => ⟨g0, g1, q⟩⟩)
                clear hsd
                go_wp2_with fail
                refine HS.out.mono ?_
                rintro e w9 ⟨rfl, hb9⟩
                have Hb9 := Lib.hid hb9
                clear hb9
                go_wp2_with fail
                go_meet
                exact ⟨by first | (rw [hf.out]; done) | (rw [hf.out]; simp; done) | (rw [hf.out]; simp; omega), Hb9⟩
              · have g1' : last < x := by omega
                have hf := Lib.hid (show ok = false by rw [Hok.out]; exact decide_eq_false fun q => g1 q.2.1)
                go_wp2_with fail
                go_meet
                exact ⟨by rw [hf.out]; rfl, Below.refl _ _⟩
            · have g0' : x ≤ la := by omega
              have hf := Lib.hid (show ok = false by rw [Hok.out]; exact decide_eq_false fun q => g0 q.1)
              go_wp2_with fail
              go_meet
              exact ⟨by rw [hf.out]; rfl, Below.refl _ _⟩
          case rest =>
            obtain ⟨rfl, hbc⟩ := hcut
            replace Hsx := Lib.hid (Hsx.out.to hbc.out)
            replace Hb7 := Lib.hid (Hb7.out.trans (hbc.out.mono Hb7.out.size))
            have s0' := Hsx.out.c0
            clear hbc s0 s1 s2 c0 c1 c2 c6
            cases ok
            · have He := Lib.hid (show decide (MayH ⟨U, C, O, sz, m, ss, last, seq⟩) = false from decide_eq_false fun q => by
                have e := Hok.out
                simp at e
                have q2 := Htr.out.1 q
                rw [Hdr.out, sns_app] at q2
                obtain ⟨_, q3, q4, q5, _⟩ := q2
                rw [← Hla.out] at q3
                exact e q3 q4 q5)
              have Hbf := Lib.hid (Hb.out.trans (Hb7.out.mono Hb.out.size))
              go_wp2_with fail
              go_ret
              exact ⟨by first | (rw [He.out]; done) | (rw [He.out]; rfl), Hbf.out⟩
            · have Hj2 : Hid (snsP U C O last 0 (ss.take (j + 1))) := by
                have e := Hok.out.symm
                rw [decide_eq_true_iff] at e
                show snsP _ _ _ _ _ _
                rw [Hst.out, sns_snoc, ← Hla.out]
                exact ⟨Hj.out, e⟩
              have Hl2 := Lib.hid (show lastId 0 (ss.take (j + 1)) = x by rw [Hst.out, lastId_snoc])
              go_wp2_with fail
              go_roundw
              case rel => exact ⟨j + 1, by omega, by go_num, by rw [Hl2.out], Hj2, Hb7⟩
              case measure => simp [intOf]; omega
        · obtain rfl : j = ns := by omega
          have He := Lib.hid (show decide (MayH ⟨U, C, O, sz, m, ss, last, seq⟩) = true from decide_eq_true (Htr.out.2 (by have h := Hj.out; rwa [List.take_of_length_le (by rw [Hr.out.1]; exact Nat.le_refl _)] at h)))
          have Hbf := Lib.hid (Hb.out.trans (Hbr.out.mono Hb.out.size))
          generalize lastId 0 (ss.take j) = la
          go_wp2_with fail
          go_ret
          exact ⟨by first | (rw [He.out]; done) | (rw [He.out]; rfl), Hbf.out⟩
end Go.Proofs.Ytaobdebeglenaaa
