/- Contracts of package span. -/
import Derived.Test.YtikpcpkclecciaaSpG
namespace Go.Proofs.Ytikpcpkclecciaa
open Go.RowKit

theorem PClean (A : Option Addr) (n c : Nat) (a : List Sp) (w : World) (hr : RdS w w.heap.size A n a) (h1 : n ≤ 200) : GivesS 12 #[.slice A n c] w (refS a [] 1) :=
  (clean0 A n c a w hr h1).mono fun _ _ ⟨A1, n1, c1, he, h2, h3, h4⟩ => ⟨A1, n1, c1, he, h2, by omega, h4⟩
theorem PJoin (A1 A2 : Option Addr) (n1 n2 c1 c2 : Nat) (a b : List Sp) (w : World) (hr1 : RdS w w.heap.size A1 n1 a) (hr2 : RdS w w.heap.size A2 n2 b) (h1 : n1 ≤ 200) (h2 : n2 ≤ 200) : GivesS 19 #[.slice A1 n1 c1, .slice A2 n2 c2] w (refS a b 1) := by
  have eg : ∀ args w, (callFunc 27 args).run Try.prog w = .ok (.enter 27 args) w := enters_of Try.func27 (by kernel_rfl) rfl
  have H := Lib.hid (comb_any 27 eg 1 wJoin A1 A2 n1 n2 c1 c2 a b w hr1 hr2 h1 h2)
  clear hr1 hr2 eg
  go_enter Try.func19, Try.ntmps19
  go_wp2_with fail
  refine H.out.mono ?_
  rintro e w1 ⟨A3, n3, c3, rfl, hr1, h3, hb⟩
  have H1 := Lib.hid hr1
  have H2 := Lib.hid hb
  clear hr1 hb
  go_wp2_with fail
  go_ret
  exact ⟨_, _, _, rfl, H1.out, h3, H2.out⟩
theorem PMeet (A1 A2 : Option Addr) (n1 n2 c1 c2 : Nat) (a b : List Sp) (w : World) (hr1 : RdS w w.heap.size A1 n1 a) (hr2 : RdS w w.heap.size A2 n2 b) (h1 : n1 ≤ 200) (h2 : n2 ≤ 200) : GivesS 20 #[.slice A1 n1 c1, .slice A2 n2 c2] w (refS a b 2) := by
  have eg : ∀ args w, (callFunc 28 args).run Try.prog w = .ok (.enter 28 args) w := enters_of Try.func28 (by kernel_rfl) rfl
  have H := Lib.hid (comb_any 28 eg 2 wMeet A1 A2 n1 n2 c1 c2 a b w hr1 hr2 h1 h2)
  clear hr1 hr2 eg
  go_enter Try.func20, Try.ntmps20
  go_wp2_with fail
  refine H.out.mono ?_
  rintro e w1 ⟨A3, n3, c3, rfl, hr1, h3, hb⟩
  have H1 := Lib.hid hr1
  have H2 := Lib.hid hb
  clear hr1 hb
  go_wp2_with fail
  go_ret
  exact ⟨_, _, _, rfl, H1.out, h3, H2.out⟩
theorem PLess (A1 A2 : Option Addr) (n1 n2 c1 c2 : Nat) (a b : List Sp) (w : World) (hr1 : RdS w w.heap.size A1 n1 a) (hr2 : RdS w w.heap.size A2 n2 b) (h1 : n1 ≤ 200) (h2 : n2 ≤ 200) : GivesS 21 #[.slice A1 n1 c1, .slice A2 n2 c2] w (refS a b 3) := by
  have eg : ∀ args w, (callFunc 29 args).run Try.prog w = .ok (.enter 29 args) w := enters_of Try.func29 (by kernel_rfl) rfl
  have H := Lib.hid (comb_any 29 eg 3 wLess A1 A2 n1 n2 c1 c2 a b w hr1 hr2 h1 h2)
  clear hr1 hr2 eg
  go_enter Try.func21, Try.ntmps21
  go_wp2_with fail
  refine H.out.mono ?_
  rintro e w1 ⟨A3, n3, c3, rfl, hr1, h3, hb⟩
  have H1 := Lib.hid hr1
  have H2 := Lib.hid hb
  clear hr1 hb
  go_wp2_with fail
  go_ret
  exact ⟨_, _, _, rfl, H1.out, h3, H2.out⟩

set_option maxHeartbeats 1000000 in
theorem PHas (A : Option Addr) (n c : Nat) (a : List Sp) (x : Int) (w : World) (hr : RdS w w.heap.size A n a) (h1 : n ≤ 200) :
    Calls Try.prog 16 #[.slice A n c, .int .i64 x] w fun e w' => e = .returned (.bool (hasB a x)) ∧ Below w.heap.size w w' := by
  have Hr := Lib.hid hr
  clear hr
  by_cases h0 : 0 ≤ x ∧ x < farS
  · have Hh := Lib.hid (hasB_in (l := a) h0.1 h0.2)
    obtain ⟨h0, h2⟩ := h0
    have h2 : x < 1099511627776 := h2
    go_enter Try.func16, Try.ntmps16
    go_wp2_with fail
    go_loopw [15] (fun i wr => ∃ j : Nat, j ≤ n ∧ i = .int .i64 j ∧ Hid ((a.take j).any (fun s => inS s x) = false) ∧ Hid (Below w.heap.size w wr)) (fun i _ => n - (intOf i).toNat)
    case atStart => exact ⟨0, Nat.zero_le _, rfl, rfl, Below.refl _ _⟩
    case round =>
      obtain ⟨j, hj, rfl, Hj, Hbr⟩ := hrel
      by_cases hjk : j < n
      · have hjl : j < a.length := by rw [← Hr.out.1]; exact hjk
        have HR := Lib.hid (Hr.out.below Hbr.out)
        obtain ⟨g, o, rfl, hg, hc⟩ := HR.out.2 (by omega)
        obtain ⟨x0, x1⟩ := hc j hjl
        have Hst := Lib.hid (any_take_succ a x j hjl)
        have hws := Hbr.out.size
        have hgw : g < wr.heap.size := by omega
        have hj0 : (0 : Int) ≤ (j : Int) := by omega
        have hj1 : (j : Int) < (n : Int) := by omega
        generalize a[j] = q at x0 x1 Hst
        obtain ⟨q0, q1⟩ := q
        have x0 : wr.cell? ⟨g, o + j * 2, none⟩ = some (.int .i64 q0) := x0
        have x1 : wr.cell? ⟨g, o + j * 2 + 1, none⟩ = some (.int .i64 q1) := x1
        have Hb2 := Lib.hid (Hbr.out.alloc hws (.cells #[.int .i64 q0, .int .i64 q1] 33))
        clear hc hjl
        by_cases hf : q0 ≤ x
        · by_cases ht : x < q1
          · have Hyes := Lib.hid (show hasB a x = true by
              rw [Hh.out, ← List.take_append_drop (j + 1) a, List.any_append, Hst.out]
              simp [inS, hf, ht])
            go_wp2_with fail
            first
              | (go_ret; exact ⟨by rw [Hyes.out]; rfl, Hb2.out⟩)
              | (go_quiet (fail)
                 go_wp2_with fail
                 go_ret
                 exact ⟨by rw [Hyes.out]; rfl, box_below Hbr.out hws _ _⟩)
          · have Hno := Lib.hid (show ((a.take (j + 1)).any fun s => inS s x) = false from Hst.out.trans (by rw [Hj.out]; simp [inS, ht]))
            clear Hst
            go_wp2_with fail
            go_roundw
            case rel => exact ⟨j + 1, by omega, by go_num, Hno, Hb2⟩
            case measure => simp [intOf]; omega
        · have Hno := Lib.hid (show ((a.take (j + 1)).any fun s => inS s x) = false from Hst.out.trans (by rw [Hj.out]; simp [inS, hf]))
          clear Hst
          go_wp2_with fail
          go_roundw
          case rel => exact ⟨j + 1, by omega, by go_num, Hno, Hb2⟩
          case measure => simp [intOf]; omega
      · obtain rfl : j = n := by omega
        have Hno := Lib.hid (show hasB a x = false by rw [Hh.out]; have h := Hj.out; rwa [List.take_of_length_le (by rw [← Hr.out.1]; exact Nat.le_refl _)] at h)
        go_wp2_with fail
        go_ret
        exact ⟨by rw [Hno.out]; rfl, Hbr.out⟩
  · have Hno := Lib.hid (hasB_out (l := a) h0)
    rw [Hno.out]
    by_cases q : 0 ≤ x
    · have q2 : 1099511627776 ≤ x := Int.not_lt.1 fun z => h0 ⟨q, z⟩
      clear h0 Hno Hr
      go_enter Try.func16, Try.ntmps16
      go_wp2_with fail
      go_ret
      exact ⟨rfl, Below.refl _ _⟩
    · clear h0 Hno Hr
      go_enter Try.func16, Try.ntmps16
      go_wp2_with fail
      go_ret
      exact ⟨rfl, Below.refl _ _⟩

set_option maxHeartbeats 1000000 in
theorem PMany (A : Option Addr) (n c : Nat) (a : List Sp) (w : World) (hr : RdS w w.heap.size A n a) (h1 : n ≤ 200) :
    Calls Try.prog 14 #[.slice A n c] w fun e w' => e = .returned (.int .i64 (sumS (refS a [] 1))) ∧ Below w.heap.size w w' := by
  have HG := Lib.hid (clean0 A n c a w hr h1)
  have Hc := Lib.hid (refS_ok a [] 1).1
  clear hr h1
  generalize refS a [] 1 = ps at HG Hc ⊢
  go_enter Try.func14, Try.ntmps14
  go_wp2_with fail
  refine HG.out.mono ?_
  rintro e w1 ⟨A1, ln, cp, rfl, ho, hcap, hb⟩
  have Ho := Lib.hid ho
  have Hb := Lib.hid hb
  clear ho hb
  go_wp2_with fail
  go_loopw [3, 9] (fun s i wr => ∃ j : Nat, j ≤ ln ∧ i = .int .i64 j ∧ s = .int .i64 (sumS (ps.take j)) ∧ Hid (Below w1.heap.size w1 wr)) (fun _ i _ => ln - (intOf i).toNat)
  case atStart => exact ⟨0, Nat.zero_le _, rfl, rfl, Below.refl _ _⟩
  case round =>
    obtain ⟨j, hj, rfl, rfl, Hbr⟩ := hrel
    by_cases hjn : j < ln
    · have hjl : j < ps.length := by rw [← Ho.out.1]; exact hjn
      have Hor := Lib.hid (Ho.out.below Hbr.out)
      obtain ⟨g, o, rfl, hg, hc⟩ := Hor.out.2 (by omega)
      obtain ⟨x0, x1⟩ := hc j hjl
      have hbd := canon_bd (Int.le_refl _) Hc.out j hjl
      have hs0 := canon_sum Hc.out j
      have hs1 := canon_sum Hc.out (j + 1)
      have hst : sumS (ps.take (j + 1)) = sumS (ps.take j) + (ps[j].2 - ps[j].1) := by rw [List.take_succ_eq_append_getElem hjl, sumS_snoc]
      generalize ps[j] = p at x0 x1 hbd hst
      generalize sumS (ps.take j) = s0 at *
      obtain ⟨p0, p1⟩ := p
      have x0 : wr.cell? ⟨g, o + j * 2, none⟩ = some (.int .i64 p0) := x0
      have x1 : wr.cell? ⟨g, o + j * 2 + 1, none⟩ = some (.int .i64 p1) := x1
      simp only at hbd hst
      obtain ⟨d, hd⟩ : ∃ d, d = p1 - p0 := ⟨_, rfl⟩
      obtain ⟨s1, hs1e⟩ : ∃ s1, s1 = s0 + d := ⟨_, rfl⟩
      have h3 : IntKind.i64.wrap (p1 - p0) = d := by rw [IntWalk.i64_in _ (by omega)]; exact hd.symm
      have h4 : IntKind.i64.wrap (s0 + d) = s1 := by rw [IntWalk.i64_in _ (by omega)]; exact hs1e.symm
      have hj0 : (0 : Int) ≤ (j : Int) := by omega
      have hj1 : (j : Int) < (ln : Int) := by omega
      have hws := Hbr.out.size
      have hgw : g < wr.heap.size := by omega
      have Hst := Lib.hid (show s0 + (p1 - p0) = s1 ∧ sumS (ps.take (j + 1)) = s1 by omega)
      have Hb2 := Lib.hid (Hbr.out.alloc hws (.cells #[.int .i64 p0, .int .i64 p1] 33))
      have b0 : 0 ≤ p0 := hbd.1
      have b1 : p0 < p1 := hbd.2.1
      have b2 : p1 ≤ 1099511627776 := hbd.2.2
      have b3 := hs0.1
      have b4 := hs0.2
      clear hst hc hjl hs0 hs1 hbd hd hs1e
      go_wp2_with fail
      go_roundw
      case rel => exact ⟨j + 1, by omega, by go_num, by first | (rw [Hst.out.2]; done) | (rw [Hst.out.2, ← Hst.out.1]), Hb2⟩
      case measure => simp [intOf]; omega
    · obtain rfl : j = ln := by omega
      have Hall := Lib.hid (show ps.take j = ps from List.take_of_length_le (by rw [← Ho.out.1]; exact Nat.le_refl _))
      have Hbf := Lib.hid (Hb.out.trans (Hbr.out.mono Hb.out.size))
      rw [Hall.out]
      go_wp2_with fail
      go_ret
      exact ⟨rfl, Hbf.out⟩
theorem PWithin (A1 A2 : Option Addr) (n1 n2 c1 c2 : Nat) (a b : List Sp) (w : World) (hr1 : RdS w w.heap.size A1 n1 a) (hr2 : RdS w w.heap.size A2 n2 b) (h1 : n1 ≤ 200) (h2 : n2 ≤ 200) :
    Calls Try.prog 22 #[.slice A1 n1 c1, .slice A2 n2 c2] w fun e w' => e = .returned (.bool (decide (refS a b 3 = []))) ∧ Below w.heap.size w w' := by
  have H := Lib.hid (PLess A1 A2 n1 n2 c1 c2 a b w hr1 hr2 h1 h2)
  clear hr1 hr2
  generalize refS a b 3 = ps at H ⊢
  go_enter Try.func22, Try.ntmps22
  go_wp2_with fail
  refine H.out.mono ?_
  rintro e w1 ⟨A3, n3, c3, rfl, hr1, h3, hb⟩
  have H2 := Lib.hid hb
  have hl := hr1.1
  clear hr1 hb
  by_cases h0 : n3 = 0
  · have Hd := Lib.hid (show decide (ps = []) = true from decide_eq_true (List.eq_nil_of_length_eq_zero (by omega)))
    clear hl
    go_wp2_with fail
    go_ret
    exact ⟨by rw [Hd.out]; simp [*], H2.out⟩
  · have Hd := Lib.hid (show decide (ps = []) = false from decide_eq_false (fun e => h0 (by rw [hl, e]; rfl)))
    clear hl
    go_wp2_with fail
    go_ret
    exact ⟨by rw [Hd.out]; simp [*], H2.out⟩
end Go.Proofs.Ytikpcpkclecciaa
