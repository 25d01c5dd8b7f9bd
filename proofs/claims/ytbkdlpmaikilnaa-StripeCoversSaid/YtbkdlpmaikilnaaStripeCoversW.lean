/- The walk of StripeCovers. -/
import Derived.Test.YtbkdlpmaikilnaaStLaw
namespace Go.Proofs.Ytbkdlpmaikilnaa
open Go.ChangeShapes Go.WideShapes Go.ChangeAt Go.RowKit

theorem RdP.four {w : World} {g n : Nat} {ps : List Pc} (h : RdP w (some ⟨g, 0, none⟩) n ps) {j : Nat} (hj : j < ps.length) :
    w.cell? ⟨g, j * 4, none⟩ = some (.int .i64 (ps[j].o)) ∧ w.cell? ⟨g, j * 4 + 1, none⟩ = some (.int .i64 (ps[j].k)) ∧ w.cell? ⟨g, j * 4 + 2, none⟩ = some (.int .i64 (ps[j].l)) ∧ w.cell? ⟨g, j * 4 + 3, none⟩ = some (.int .i64 (ps[j].f)) := by
  obtain ⟨g', he, hc⟩ := h.2 (by rw [h.1]; omega)
  cases he
  exact hc j hj
theorem LayAt.drewN {b : Nat} {U C O : Int} {w : World} (h : LayAt b U C O w) (q : Nat) : LayAt b U C O (w.drewN q) := ⟨h.c0, h.c1, h.c2⟩
theorem Below.drewN {B : Nat} {w w' : World} (h : Below B w w') (q : Nat) : Below B w (w'.drewN q) := ⟨h.os, h.tape, h.output, h.size, h.block⟩
/-- five cells that a region reads beside a call -/
structure Five (w : World) (b g e : Nat) (U C O : Int) (qo qk : Nat) : Prop where
  c0 : w.cell? ⟨b, 0, none⟩ = some (.int .i64 U)
  c1 : w.cell? ⟨b, 1, none⟩ = some (.int .i64 C)
  c2 : w.cell? ⟨b, 2, none⟩ = some (.int .i64 O)
  x0 : w.cell? ⟨g, e, none⟩ = some (.int .i64 qo)
  x1 : w.cell? ⟨g, e + 1, none⟩ = some (.int .i64 qk)
theorem keep5 {b B g e : Nat} {v0 v1 v2 v3 v4 : Value} {W0 W w1 : World}
    (h : W.cell? ⟨b, 0, none⟩ = some v0 ∧ W.cell? ⟨b, 1, none⟩ = some v1 ∧ W.cell? ⟨b, 2, none⟩ = some v2 ∧ W.cell? ⟨g, e, none⟩ = some v3 ∧ W.cell? ⟨g, e + 1, none⟩ = some v4 ∧ Hid (Below B W0 W)) (hB : Hid (B ≤ W0.heap.size)) (hb : Below W.heap.size W w1) :
    w1.cell? ⟨b, 0, none⟩ = some v0 ∧ w1.cell? ⟨b, 1, none⟩ = some v1 ∧ w1.cell? ⟨b, 2, none⟩ = some v2 ∧ w1.cell? ⟨g, e, none⟩ = some v3 ∧ w1.cell? ⟨g, e + 1, none⟩ = some v4 ∧ Hid (Below B W0 w1) := by
  obtain ⟨h0, h1, h2, h3, h4, h5⟩ := h
  exact ⟨cellK h0 hb, cellK h1 hb, cellK h2 hb, cellK h3 hb, cellK h4 hb, Lib.hid (h5.out.trans (hb.mono (Nat.le_trans hB.out h5.out.size)))⟩
theorem start5 {b B g e qo qk : Nat} {U C O : Int} {W0 W : World} (h : Hid (Five W b g e U C O qo qk)) (hb : Hid (Below B W0 W)) :
    W.drew.cell? ⟨b, 0, none⟩ = some (.int .i64 U) ∧ W.drew.cell? ⟨b, 1, none⟩ = some (.int .i64 C) ∧ W.drew.cell? ⟨b, 2, none⟩ = some (.int .i64 O) ∧ W.drew.cell? ⟨g, e, none⟩ = some (.int .i64 qo) ∧ W.drew.cell? ⟨g, e + 1, none⟩ = some (.int .i64 qk) ∧ Hid (Below B W0 W.drew) :=
  ⟨h.out.c0, h.out.c1, h.out.c2, h.out.x0, h.out.x1, Lib.hid hb.out.drew⟩
theorem end5 {b B g e : Nat} {v0 v1 v2 v3 v4 : Value} {W0 W : World}
    (h : W.cell? ⟨b, 0, none⟩ = some v0 ∧ W.cell? ⟨b, 1, none⟩ = some v1 ∧ W.cell? ⟨b, 2, none⟩ = some v2 ∧ W.cell? ⟨g, e, none⟩ = some v3 ∧ W.cell? ⟨g, e + 1, none⟩ = some v4 ∧ Hid (Below B W0 W)) : Hid (Below B W0 W) := h.2.2.2.2.2
theorem sumL_take (ps : List Pc) (i : Nat) : sumL (ps.take i) ≤ sumL ps := by
  have h : sumL ps = sumL (ps.take i) + sumL (ps.drop i) := by
    conv => lhs; rw [← List.take_append_drop i ps]
    simp only [sumL, List.map_append, List.sum_append]
  omega
theorem addP_o (B : Nat) (l : List Pc) (p : Pc) (h : ∀ q ∈ l, q.o ≤ B) (hp : p.o ≤ B) : ∀ q ∈ addP l p, q.o ≤ B := by
  rcases snoc_cases l with rfl | ⟨r, x, rfl⟩
  · intro q hq
    rw [addP_nil] at hq
    simp at hq
    rw [hq]; exact hp
  · cases hx : nxt x p
    · rw [addP_no hx]
      intro q hq
      simp at hq
      rcases hq with hq | rfl | rfl
      · exact h q (by simp [hq])
      · exact h q (by simp)
      · exact hp
    · rw [addP_yes hx]
      intro q hq
      simp at hq
      rcases hq with hq | rfl
      · exact h q (by simp [hq])
      · exact h x (by simp)
theorem pcs_ob {u c m : Nat} (h : LN u c m) (off : Nat) : ∀ n, ∀ q ∈ pcs u c m off n, q.o ≤ off + n
  | 0, q, hq => by simp [pcs] at hq
  | n + 1, q, hq => by
    have ih := pcs_ob h off n
    refine addP_o (off + (n + 1)) _ _ (fun x hx => by have := ih x hx; omega) ?_ q hq
    have := pO_le h (off + n)
    show pO u c m (off + n) ≤ _
    omega
theorem pcs_o {u c m : Nat} (h : LN u c m) (off n : Nat) (hn : n ≤ 512) (ho : off ≤ 1000000000) (i : Nat) (hi : i < (pcs u c m off n).length) : (pcs u c m off n)[i].o ≤ 1099511627776 := by
  have := pcs_ob h off n _ (List.getElem_mem hi)
  omega

set_option maxRecDepth 10000 in
set_option maxHeartbeats 2000000 in
theorem StripeCovers_core (U C O a1 a2 : Int) (W : World) (_i0 : I64 U) (_i1 : I64 C) (_i2 : I64 O) (_j1 : I64 a1) (_j2 : I64 a2) :
    Calls Try.prog 7 #[lay U C O, .int .i64 a1, .int .i64 a2] W (Yes W) := by
  have H5 := Lib.hid (fun w => Check_any U C O w)
  by_cases hL : Lay U C O
  · have HC := Lib.hid (show chk U C O = 0 from if_pos hL)
    by_cases h0 : 0 ≤ a1
    · by_cases h1 : a1 ≤ 1000000000
      · by_cases h2 : 0 ≤ a2
        · by_cases h3 : a2 ≤ 512
          · obtain ⟨u, c, m, rfl, rfl, rfl, hN⟩ := hL.num
            obtain ⟨off, rfl⟩ := Int.eq_ofNat_of_zero_le h0
            obtain ⟨n, rfl⟩ := Int.eq_ofNat_of_zero_le h2
            have hn : n ≤ 512 := by omega
            have hof : off ≤ 1000000000 := by omega
            have hl : (pcs u c m off n).length ≤ 100000 := by have := pcs_len u c m off n; omega
            have g1 : GivesP 17 #[lay u c (u * m : Nat), .int .i64 off, .int .i64 n] (pcs u c m off n) := givesP hl fun w => Pieces_ok u c m off n w hN (by omega) hn
            have g2 : ∀ o k : Nat, o ≤ 1099511627776 → k < u * m → Gives 14 #[lay u c (u * m : Nat), .int .i64 o, .int .i64 k] (.int .i64 (bk u c m o k)) := fun o k ho hk w => Back_ok u c m o k w hN ho hk
            have hcov := fun i hi => cov_at (cov_pcs hN off n) i hi
            have hob := fun i hi => pcs_o hN off n hn hof i hi
            have hsum := (cov_pcs hN off n).sum
            have hsle := fun i => sumL_take (pcs u c m off n) i
            rw [← hsum] at hsle
            have hum := hN.um
            generalize pcs u c m off n = ps at g1 hl hcov hob hsum hsle
            have G1 := Lib.hid g1
            have G2 := Lib.hid g2
            have Hcov := Lib.hid hcov
            have Hob := Lib.hid hob
            have Hsum := Lib.hid hsum
            have Hsle := Lib.hid hsle
            clear g1 g2 hcov hob hsum hsle hN hL h0 h2
            generalize hOm : u * m = om at *
            generalize hOe : (om : Int) = O at *
            have HOe := Lib.hid hOe
            clear hOe hOm
            generalize (u : Int) = U at *
            generalize (c : Int) = C at *
            go_enter Try.func7, Try.ntmps7
            go_wp2_with fail
            refine (awake_any _).mono ?_
            rintro e w1 ⟨rfl, hb1⟩
            have HL := Lib.hid ((LayAt.box W U C O 23).to hb1)
            have Hb1 := Lib.hid (bel1 hb1)
            have HB := Lib.hid (Nat.le_refl W.heap.size)
            clear hb1
            have c0 := HL.out.c0
            have c1 := HL.out.c1
            have c2 := HL.out.c2
            go_wp2_with fail
            refine (H5.out _).mono ?_
            rintro e w2 ⟨rfl, hb2⟩
            rw [HC.out]
            have HL := Lib.hid (HL.out.to hb2)
            have Hb1 := Lib.hid (Hb1.out.trans (hb2.mono Hb1.out.size))
            clear hb2 c0 c1 c2
            have c0 := HL.out.c0
            have c1 := HL.out.c1
            have c2 := HL.out.c2
            go_wp2_with fail
            refine (G1.out _).mono ?_
            rintro e w3 ⟨A1, ln, cp, rfl, hr1, _, hb3⟩
            have HL := Lib.hid (HL.out.to hb3)
            have Hb1 := Lib.hid (Hb1.out.trans (hb3.mono Hb1.out.size))
            clear hb3 c0 c1 c2
            have c0 := HL.out.c0
            have c1 := HL.out.c1
            have c2 := HL.out.c2
            have HR := Lib.hid hr1
            have hln : ln ≤ 100000 := by rw [hr1.1]; exact hl
            clear hr1 c0 c1 c2 hl
            go_wp2_with fail
            go_loopw [9, 10] (fun s i wr => ∃ j : Nat, j ≤ ln ∧ i = .int .i64 j ∧ s = .int .i64 (sumL (ps.take j)) ∧ Hid (RdP wr A1 ln ps) ∧ Hid (LayAt W.heap.size U C O wr) ∧ Hid (Below W.heap.size W wr)) (fun _ i _ => ln - (intOf i).toNat)
            case atStart => exact ⟨0, Nat.zero_le _, rfl, rfl, HR, HL, Hb1⟩
            case round =>
              obtain ⟨j, hj, rfl, rfl, HRr, HLr, Hbr⟩ := hrel
              clear HR HL Hb1
              by_cases hjN : j < ln
              · have hjl : j < ps.length := by rw [← HRr.out.1]; exact hjN
                obtain ⟨g, rfl, hcells⟩ := HRr.out.2 (by omega)
                obtain ⟨x0, x1, x2, x3⟩ := hcells j hjl
                obtain ⟨y1, y2, y3, y4, y5, y6⟩ := Hcov.out j hjl
                have hqo := Hob.out j hjl
                have hsl := Hsle.out (j + 1)
                obtain ⟨q, hq⟩ : ∃ q, q = ps[j] := ⟨_, rfl⟩
                rw [← hq] at x0 x1 x2 x3 y1 y2 y3 y4 y6 hqo
                have Hnx : Hid (∀ h0 : 0 < j, nxt (ps[j - 1]'(by omega)) q = false) := by rw [hq]; exact y5
                have Hpv : Hid (∀ h0 : 0 < j, (ps[j - 1]'(by omega)).k + (ps[j - 1]'(by omega)).l ≤ om) := fun h0 => (Hcov.out (j - 1) (by omega)).2.2.1
                obtain ⟨a, ha⟩ : ∃ a, a = sumL (ps.take j) := ⟨_, rfl⟩
                rw [← ha] at y1 y4 y6 ⊢
                have ha512 : a + q.l ≤ 512 := by omega
                have Hy6 := Lib.hid y6
                have Hy4 := Lib.hid y4
                rw [y1] at x3
                have hj0 : (0 : Int) ≤ (j : Int) := by omega
                have hj1 : (j : Int) < (ln : Int) := by omega
                obtain ⟨e, he⟩ : ∃ e, e = q.k + q.l := ⟨_, rfl⟩
                have hsum1 : IntKind.i64.wrap ((q.k : Int) + (q.l : Int)) = (e : Int) := by rw [← Int.natCast_add, ← he]; exact wrapN (by omega)
                have heO : (e : Int) ≤ O := by have := HOe.out; omega
                have hq1 : (1 : Int) ≤ (q.l : Int) := by omega
                have He := Lib.hid he
                have Hq := Lib.hid hq
                clear hcells y1 y4 y5 y6 hsl hq ha he
                have c2 := HLr.out.c2
                go_wp2_with fail
                go_quiet (fail)
                go_wp2_with fail
                have HRq := Lib.hid (HRr.out.drew nq)
                have HLq : Hid (LayAt W.heap.size U C O (wr.drewN nq)) := HLr.out.drewN nq
                have Hbq := Lib.hid (Below.drewN Hbr.out nq)
                generalize wr.drewN nq = w4 at HRq HLq Hbq ⊢
                clear HRr HLr Hbr x0 x1 x2 x3 c2
                go_loopw [11] (fun k wi => ∃ t : Nat, t ≤ q.l ∧ k = .int .i64 t ∧ Hid (RdP wi (some ⟨g, 0, none⟩) ln ps) ∧ Hid (LayAt W.heap.size U C O wi) ∧ Hid (Below W.heap.size W wi)) (fun k _ => q.l - (intOf k).toNat)
                case atStart => exact ⟨0, Nat.zero_le _, rfl, HRq, HLq, Hbq⟩
                case round =>
                  obtain ⟨t, ht, rfl, HRi, HLi, Hbi⟩ := hrel
                  clear HRq HLq Hbq
                  have hcell := HRi.out.four hjl
                  rw [← Hq.out] at hcell
                  obtain ⟨x0, x1, x2, x3⟩ := hcell
                  by_cases htl : t < q.l
                  · obtain ⟨y, hy⟩ : ∃ y, y = q.k + t := ⟨_, rfl⟩
                    obtain ⟨b, hb⟩ : ∃ b, b = off + a := ⟨_, rfl⟩
                    obtain ⟨d, hd⟩ : ∃ d, d = b + t := ⟨_, rfl⟩
                    have hs1 : IntKind.i64.wrap ((q.k : Int) + (t : Int)) = (y : Int) := by rw [← Int.natCast_add, ← hy]; exact wrapN (by omega)
                    have hs2 : IntKind.i64.wrap ((off : Int) + (a : Int)) = (b : Int) := by rw [← Int.natCast_add, ← hb]; exact wrapN (by omega)
                    have hs3 : IntKind.i64.wrap ((b : Int) + (t : Int)) = (d : Int) := by rw [← Int.natCast_add, ← hd]; exact wrapN (by omega)
                    have G : Hid (Gives 14 #[lay U C O, .int .i64 q.o, .int .i64 y] (.int .i64 d)) := by
                      have h := G2.out q.o y (by omega) (by omega)
                      rw [hy, Hy4.out t htl, ← hb, ← hd, ← hy] at h
                      exact h
                    have HE := Lib.hid (And.intro hy (And.intro hb hd))
                    have HB2 := Lib.hid (Nat.le_refl wr.heap.size)
                    have Hb0 := Lib.hid (Below.refl wr.heap.size wr)
                    have HS : Hid (Five wr W.heap.size g (j * 4) U C O q.o q.k) := ⟨HLi.out.c0, HLi.out.c1, HLi.out.c2, x0, x1⟩
                    clear hy hb hd
                    go_wp2_with fail
                    go_region_held3 (fun w' => w'.cell? ⟨W.heap.size, 0, none⟩ = some (.int .i64 U) ∧ w'.cell? ⟨W.heap.size, 1, none⟩ = some (.int .i64 C) ∧ w'.cell? ⟨W.heap.size, 2, none⟩ = some (.int .i64 O) ∧ w'.cell? ⟨g, j * 4, none⟩ = some (.int .i64 q.o) ∧ w'.cell? ⟨g, j * 4 + 1, none⟩ = some (.int .i64 q.k) ∧ Hid (Below wr.heap.size wr w')) (first | exact keep5 (by assumption) HB2 (by assumption) | exact start5 HS Hb0) (first
                      | (go_at_call 14; refine (G.out _).mono ?_; rintro e w5 ⟨rfl, hb5⟩))
                    have Hw5 : Hid (Below wr.heap.size wr w5) := end5 (by assumption)
                    have HR5 := Lib.hid (HRi.out.to Hw5.out)
                    have HL5 := Lib.hid (HLi.out.to Hw5.out)
                    have Hb5 := Lib.hid (Hbi.out.trans (Hw5.out.mono Hbi.out.size))
                    go_wp2_with fail
                    go_roundw
                    case rel => exact ⟨t + 1, by omega, by go_num, HR5, HL5, Hb5⟩
                    case measure => simp [intOf]; omega
                  · obtain rfl : t = q.l := by omega
                    by_cases hjz : 0 < j
                    · obtain ⟨j1, hj1e⟩ : ∃ j1, j1 = j - 1 := ⟨_, rfl⟩
                      have hj1l : j1 < ps.length := by omega
                      have hcell := HRi.out.four hj1l
                      have hnx := Hnx.out hjz
                      have hpv := Hpv.out hjz
                      simp only [← hj1e] at hnx hpv
                      obtain ⟨p, hp⟩ : ∃ p, p = ps[j1] := ⟨_, rfl⟩
                      rw [← hp] at hcell hnx hpv
                      obtain ⟨z0, z1, z2, z3⟩ := hcell
                      obtain ⟨e1, he1⟩ : ∃ e1, e1 = p.k + p.l := ⟨_, rfl⟩
                      have hidx : IntKind.i64.wrap ((j : Int) - 1) = (j1 : Int) := by rw [IntWalk.i64_in _ (by omega)]; omega
                      have hj10 : (0 : Int) ≤ (j1 : Int) := by omega
                      have hj11 : (j1 : Int) < (ln : Int) := by omega
                      have hps1 : IntKind.i64.wrap ((p.k : Int) + (p.l : Int)) = (e1 : Int) := by rw [← Int.natCast_add, ← he1]; exact wrapN (by omega)
                      have hdj : decide ((0 : Int) < (j : Int)) = true := decide_eq_true (by omega)
                      have HE1 := Lib.hid (And.intro he1 (And.intro hp hj1e))
                      by_cases ho : (p.o : Int) = q.o
                      · have hbo : ((p.o : Int) == (q.o : Int)) = true := by simpa using ho
                        have hbe : ((e1 : Int) == (q.k : Int)) = false := by
                          have h : ¬ (p.o = q.o ∧ p.k + p.l = q.k) := by simpa [nxt] using hnx
                          have h2 : (e1 : Int) ≠ q.k := fun x => h ⟨by omega, by omega⟩
                          simpa using h2
                        clear ho hnx hpv he1 hp hj1e
                        go_wp2_with fail
                        go_quiet (fail)
                        go_wp2_with fail
                        go_roundw
                        case rel => exact ⟨j + 1, by omega, by go_num, by rw [Hy6.out]; go_num, HRi.out.drew _, HLi.out.drewN _, Below.drewN Hbi.out _⟩
                        case measure => simp [intOf]; omega
                      · have hbo : ((p.o : Int) == (q.o : Int)) = false := by simpa using ho
                        clear ho hnx hpv he1 hp hj1e
                        go_wp2_with fail
                        go_quiet (fail)
                        go_wp2_with fail
                        go_roundw
                        case rel => exact ⟨j + 1, by omega, by go_num, by rw [Hy6.out]; go_num, HRi.out.drew _, HLi.out.drewN _, Below.drewN Hbi.out _⟩
                        case measure => simp [intOf]; omega
                    · obtain rfl : j = 0 := by omega
                      clear hjz
                      go_wp2_with fail
                      go_quiet (fail)
                      go_wp2_with fail
                      go_roundw
                      case rel => exact ⟨0 + 1, by omega, by first | rfl | go_num, by rw [Hy6.out]; go_num, HRi.out.drew _, HLi.out.drewN _, Below.drewN Hbi.out _⟩
                      case measure => simp [intOf]; omega
              · obtain rfl : j = ln := by omega
                have htk : sumL (ps.take j) = n := by rw [List.take_of_length_le (by rw [← HRr.out.1]; exact Nat.le_refl _)]; exact Hsum.out.symm
                rw [htk]
                clear htk
                go_wp2_with fail
                go_ret
                exact ⟨rfl, Hbr.out⟩
          · clear hL
            have Z1 : Hid (Gives 17 #[lay U C O, .int .i64 a1, .int .i64 (-1)] (.slice none 0 0)) := fun w => Pieces_no U C O a1 (-1) w (by omega)
            go_enter Try.func7, Try.ntmps7
            go_wp2_with fail
            refine (awake_any _).mono ?_
            rintro e w1 ⟨rfl, hb1⟩
            have HL := Lib.hid ((LayAt.box W U C O 23).to hb1)
            have Hb1 := Lib.hid (bel1 hb1)
            have HB := Lib.hid (Nat.le_refl W.heap.size)
            clear hb1
            have c0 := HL.out.c0
            have c1 := HL.out.c1
            have c2 := HL.out.c2
            go_wp2_with fail
            refine (H5.out _).mono ?_
            rintro e w2 ⟨rfl, hb2⟩
            rw [HC.out]
            have HL := Lib.hid (HL.out.to hb2)
            have Hb1 := Lib.hid (Hb1.out.trans (hb2.mono Hb1.out.size))
            clear hb2 c0 c1 c2
            have c0 := HL.out.c0
            have c1 := HL.out.c1
            have c2 := HL.out.c2
            go_wp2_with fail
            refine (Z1.out _).mono ?_
            rintro e w3 ⟨rfl, hb3⟩
            have HL := Lib.hid (HL.out.to hb3)
            have Hb1 := Lib.hid (Hb1.out.trans (hb3.mono Hb1.out.size))
            clear hb3 c0 c1 c2
            have c0 := HL.out.c0
            have c1 := HL.out.c1
            have c2 := HL.out.c2
            go_wp2_with fail
            go_ret
            exact ⟨rfl, Hb1.out⟩
        · clear hL
          have Z1 : Hid (Gives 17 #[lay U C O, .int .i64 a1, .int .i64 (-1)] (.slice none 0 0)) := fun w => Pieces_no U C O a1 (-1) w (by omega)
          go_enter Try.func7, Try.ntmps7
          go_wp2_with fail
          refine (awake_any _).mono ?_
          rintro e w1 ⟨rfl, hb1⟩
          have HL := Lib.hid ((LayAt.box W U C O 23).to hb1)
          have Hb1 := Lib.hid (bel1 hb1)
          have HB := Lib.hid (Nat.le_refl W.heap.size)
          clear hb1
          have c0 := HL.out.c0
          have c1 := HL.out.c1
          have c2 := HL.out.c2
          go_wp2_with fail
          refine (H5.out _).mono ?_
          rintro e w2 ⟨rfl, hb2⟩
          rw [HC.out]
          have HL := Lib.hid (HL.out.to hb2)
          have Hb1 := Lib.hid (Hb1.out.trans (hb2.mono Hb1.out.size))
          clear hb2 c0 c1 c2
          have c0 := HL.out.c0
          have c1 := HL.out.c1
          have c2 := HL.out.c2
          go_wp2_with fail
          refine (Z1.out _).mono ?_
          rintro e w3 ⟨rfl, hb3⟩
          have HL := Lib.hid (HL.out.to hb3)
          have Hb1 := Lib.hid (Hb1.out.trans (hb3.mono Hb1.out.size))
          clear hb3 c0 c1 c2
          have c0 := HL.out.c0
          have c1 := HL.out.c1
          have c2 := HL.out.c2
          go_wp2_with fail
          go_ret
          exact ⟨rfl, Hb1.out⟩
      · clear hL
        have Z1 : Hid (Gives 17 #[lay U C O, .int .i64 a1, .int .i64 (-1)] (.slice none 0 0)) := fun w => Pieces_no U C O a1 (-1) w (by omega)
        go_enter Try.func7, Try.ntmps7
        go_wp2_with fail
        refine (awake_any _).mono ?_
        rintro e w1 ⟨rfl, hb1⟩
        have HL := Lib.hid ((LayAt.box W U C O 23).to hb1)
        have Hb1 := Lib.hid (bel1 hb1)
        have HB := Lib.hid (Nat.le_refl W.heap.size)
        clear hb1
        have c0 := HL.out.c0
        have c1 := HL.out.c1
        have c2 := HL.out.c2
        go_wp2_with fail
        refine (H5.out _).mono ?_
        rintro e w2 ⟨rfl, hb2⟩
        rw [HC.out]
        have HL := Lib.hid (HL.out.to hb2)
        have Hb1 := Lib.hid (Hb1.out.trans (hb2.mono Hb1.out.size))
        clear hb2 c0 c1 c2
        have c0 := HL.out.c0
        have c1 := HL.out.c1
        have c2 := HL.out.c2
        go_wp2_with fail
        refine (Z1.out _).mono ?_
        rintro e w3 ⟨rfl, hb3⟩
        have HL := Lib.hid (HL.out.to hb3)
        have Hb1 := Lib.hid (Hb1.out.trans (hb3.mono Hb1.out.size))
        clear hb3 c0 c1 c2
        have c0 := HL.out.c0
        have c1 := HL.out.c1
        have c2 := HL.out.c2
        go_wp2_with fail
        go_ret
        exact ⟨rfl, Hb1.out⟩
    · clear hL
      have Z1 : Hid (Gives 17 #[lay U C O, .int .i64 a1, .int .i64 (-1)] (.slice none 0 0)) := fun w => Pieces_no U C O a1 (-1) w (by omega)
      go_enter Try.func7, Try.ntmps7
      go_wp2_with fail
      refine (awake_any _).mono ?_
      rintro e w1 ⟨rfl, hb1⟩
      have HL := Lib.hid ((LayAt.box W U C O 23).to hb1)
      have Hb1 := Lib.hid (bel1 hb1)
      have HB := Lib.hid (Nat.le_refl W.heap.size)
      clear hb1
      have c0 := HL.out.c0
      have c1 := HL.out.c1
      have c2 := HL.out.c2
      go_wp2_with fail
      refine (H5.out _).mono ?_
      rintro e w2 ⟨rfl, hb2⟩
      rw [HC.out]
      have HL := Lib.hid (HL.out.to hb2)
      have Hb1 := Lib.hid (Hb1.out.trans (hb2.mono Hb1.out.size))
      clear hb2 c0 c1 c2
      have c0 := HL.out.c0
      have c1 := HL.out.c1
      have c2 := HL.out.c2
      go_wp2_with fail
      refine (Z1.out _).mono ?_
      rintro e w3 ⟨rfl, hb3⟩
      have HL := Lib.hid (HL.out.to hb3)
      have Hb1 := Lib.hid (Hb1.out.trans (hb3.mono Hb1.out.size))
      clear hb3 c0 c1 c2
      have c0 := HL.out.c0
      have c1 := HL.out.c1
      have c2 := HL.out.c2
      go_wp2_with fail
      go_ret
      exact ⟨rfl, Hb1.out⟩
  · have HC := Lib.hid (show chk U C O = 1 from if_neg hL)
    clear hL
    have Z1 : Hid (Gives 17 #[lay U C O, .int .i64 a1, .int .i64 (-1)] (.slice none 0 0)) := fun w => Pieces_no U C O a1 (-1) w (by omega)
    go_enter Try.func7, Try.ntmps7
    go_wp2_with fail
    refine (awake_any _).mono ?_
    rintro e w1 ⟨rfl, hb1⟩
    have HL := Lib.hid ((LayAt.box W U C O 23).to hb1)
    have Hb1 := Lib.hid (bel1 hb1)
    have HB := Lib.hid (Nat.le_refl W.heap.size)
    clear hb1
    have c0 := HL.out.c0
    have c1 := HL.out.c1
    have c2 := HL.out.c2
    go_wp2_with fail
    refine (H5.out _).mono ?_
    rintro e w2 ⟨rfl, hb2⟩
    rw [HC.out]
    have HL := Lib.hid (HL.out.to hb2)
    have Hb1 := Lib.hid (Hb1.out.trans (hb2.mono Hb1.out.size))
    clear hb2 c0 c1 c2
    have c0 := HL.out.c0
    have c1 := HL.out.c1
    have c2 := HL.out.c2
    go_wp2_with fail
    refine (Z1.out _).mono ?_
    rintro e w3 ⟨rfl, hb3⟩
    have HL := Lib.hid (HL.out.to hb3)
    have Hb1 := Lib.hid (Hb1.out.trans (hb3.mono Hb1.out.size))
    clear hb3 c0 c1 c2
    have c0 := HL.out.c0
    have c1 := HL.out.c1
    have c2 := HL.out.c2
    go_wp2_with fail
    go_ret
    exact ⟨rfl, Hb1.out⟩

theorem StripeCovers_walk {H : Type} {enc : TypeId × Value → H} (W : World) (base : Nat) {v0 v1 v2 : Value} {d0 : DataW H} {p0 : List MemPlace} {d1 : DataW H} {p1 : List MemPlace} {d2 : DataW H} {p2 : List MemPlace}
    (k0 : Value.okWide Try.prog W .any base 23 v0) (h0 : DataW.Trod enc Try.prog W 0 (fun _ => true) true 23 v0 d0 p0) (k1 : Value.okWide Try.prog W .any base 3 v1) (h1 : DataW.Trod enc Try.prog W 0 (fun _ => true) true 3 v1 d1 p1) (k2 : Value.okWide Try.prog W .any base 3 v2) (h2 : DataW.Trod enc Try.prog W 0 (fun _ => true) true 3 v2 d2 p2) :
    Calls Try.prog 7 #[v0, v1, v2] W (Yes W) := by
  obtain ⟨U, C, O, rfl, i0, i1, i2⟩ := ar_layout k0 h0
  obtain ⟨a1, rfl, j1⟩ := ar_int Try.underlying3 k1 h1
  obtain ⟨a2, rfl, j2⟩ := ar_int Try.underlying3 k2 h2
  exact StripeCovers_core U C O a1 a2 W i0 i1 i2 j1 j2
end Go.Proofs.Ytbkdlpmaikilnaa
