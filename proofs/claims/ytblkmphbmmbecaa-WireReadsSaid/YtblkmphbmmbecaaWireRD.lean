/- Contracts of the document's own reader for layer 1: Nums. -/
import Derived.Test.YtblkmphbmmbecaaWireRC
namespace Go.Proofs.Ytblkmphbmmbecaa
open Go.RowKit

/-- Nums of a reader, told by take -/
theorem rdNums_tk (l : List UInt8) (e width most : Int) :
    (rdNums l e width most).1 = (if max most 0 < (decB (tkQ l e 1) : Int) then [] else if (clr (tkL l e 1) (tkE l e 1)).length < decB (tkQ l e 1) * fitW width then [] else chunks (fitW width) (decB (tkQ l e 1)) (tkL l e 1)) ∧
    (rdNums l e width most).2.2 = (if max most 0 < (decB (tkQ l e 1) : Int) then failE (tkE l e 1) 11 else if (clr (tkL l e 1) (tkE l e 1)).length < decB (tkQ l e 1) * fitW width then failE (tkE l e 1) 10 else tkE l e 1) ∧
    clr (rdNums l e width most).2.1 (rdNums l e width most).2.2 = (if max most 0 < (decB (tkQ l e 1) : Int) then clr (tkL l e 1) (failE (tkE l e 1) 11) else if (clr (tkL l e 1) (tkE l e 1)).length < decB (tkQ l e 1) * fitW width then clr (tkL l e 1) (failE (tkE l e 1) 10)
      else clr ((tkL l e 1).drop (decB (tkQ l e 1) * fitW width)) (tkE l e 1)) ∧ (tkE l e 1 ≠ 0 → decB (tkQ l e 1) = 0) ∧ decB (tkQ l e 1) ≤ 255 := by
  by_cases he : e = 0
  · subst he
    by_cases h1 : l.length < 1
    · have hQ : tkQ l 0 1 = [] := by unfold tkQ; rw [if_neg (by omega)]
      have hE : tkE l 0 1 = 10 := by unfold tkE; rw [if_pos (by omega)]
      have hL : tkL l 0 1 = l := by unfold tkL; rw [if_neg (by omega)]
      have hb : rdNums l 0 width most = ([], l, 10) := by
        have hc : cntE l 1 (fitW width) most = 10 := by unfold cntE; rw [if_pos h1]
        unfold rdNums; rw [if_neg (by simp), hc, if_pos (by decide)]
      have hd : decB ([] : List UInt8) = 0 := rfl
      have hm : ¬ (max most 0 < ((0 : Nat) : Int)) := by omega
      rw [hb, hQ, hE, hL, hd, if_neg hm, if_neg hm, if_neg hm, Nat.zero_mul, if_neg (by omega), if_neg (by omega), if_neg (by omega)]
      simp [chunks, clr]
    · have hQ : tkQ l 0 1 = l.take 1 := by unfold tkQ; rw [if_pos (by omega)]
      have hE : tkE l 0 1 = 0 := by unfold tkE; rw [if_neg (by omega)]
      have hL : tkL l 0 1 = l.drop 1 := by unfold tkL; rw [if_pos (by omega)]
      have hD1 := decB_lt (l.take 1)
      have hD2 : (256 : Nat) ^ (l.take 1).length ≤ 256 ^ 1 := Nat.pow_le_pow_right (by decide) (by rw [List.length_take]; omega)
      rw [hQ, hE, hL]
      refine (fun ⟨a, b, c⟩ => ⟨a, b, c, by simp, by omega⟩ : _ ∧ _ ∧ _ → _) ?_
      by_cases h2 : max most 0 < (decB (l.take 1) : Int)
      · have hb : rdNums l 0 width most = ([], l, 11) := by
          have hc : cntE l 1 (fitW width) most = 11 := by unfold cntE; rw [if_neg h1, if_pos h2]
          unfold rdNums; rw [if_neg (by simp), hc, if_pos (by decide)]
        rw [hb, if_pos h2, if_pos h2, if_pos h2]
        simp [failE, clr]
      · have hcl : clr (l.drop 1) 0 = l.drop 1 := clr_0 _
        rw [if_neg h2, if_neg h2, if_neg h2, hcl]
        by_cases h3 : l.length - 1 < decB (l.take 1) * fitW width
        · have hb : rdNums l 0 width most = ([], l, 10) := by
            have hc : cntE l 1 (fitW width) most = 10 := by unfold cntE; rw [if_neg h1, if_neg h2, if_pos h3]
            unfold rdNums; rw [if_neg (by simp), hc, if_pos (by decide)]
          have k1 : (l.drop 1).length < decB (l.take 1) * fitW width := by rw [List.length_drop]; omega
          rw [hb, if_pos k1, if_pos k1, if_pos k1]
          simp [failE, clr]
        · have hb : rdNums l 0 width most = (chunks (fitW width) (decB (l.take 1)) (l.drop 1), l.drop (1 + decB (l.take 1) * fitW width), 0) := by
            have hc : cntE l 1 (fitW width) most = 0 := by unfold cntE; rw [if_neg h1, if_neg h2, if_neg h3]
            unfold rdNums; rw [if_neg (by simp), hc, if_neg (by decide)]
          have k1 : ¬ (l.drop 1).length < decB (l.take 1) * fitW width := by rw [List.length_drop]; omega
          rw [hb, if_neg k1, if_neg k1, if_neg k1, List.drop_drop]
          simp [clr]
  · have hb : rdNums l e width most = ([], l, e) := by unfold rdNums; rw [if_pos he]
    have hQ : tkQ l e 1 = [] := by unfold tkQ; rw [if_neg (by simp [he])]
    have hE : tkE l e 1 = e := by unfold tkE; rw [if_neg (by simp [he])]
    have hL : tkL l e 1 = l := by unfold tkL; rw [if_neg (by simp [he])]
    have hd : decB ([] : List UInt8) = 0 := rfl
    have hm : ¬ (max most 0 < ((0 : Nat) : Int)) := by omega
    rw [hb, hQ, hE, hL, hd, if_neg hm, if_neg hm, if_neg hm, Nat.zero_mul, if_neg (by omega), if_neg (by omega), if_neg (by omega)]
    simp [chunks, clr, he]

/-- growth of a row that lies behind what was there -/
theorem grownBy_far {a b c : World} {h : Option Nat} {row : Option Nat} (k : a.grownBy b h) (hg : b.grownBy c row) (hrow : ∀ q, row = some q → a.heap.size ≤ q) : a.grownBy c h :=
  ⟨hg.os.trans k.os, hg.tape.trans k.tape, hg.output.trans k.output, Nat.le_trans k.size hg.size,
    fun i hi hne => (hg.block i (Nat.lt_of_lt_of_le hi k.size) (fun e => by have := hrow i e.symm; omega)).trans (k.block i hi hne)⟩
theorem Ref.grown {w w' : World} {h B : Nat} {l : List UInt8} {e : Int} {row : Option Nat} (H : Ref w h B l e) (hg : w.grownBy w' row) (hne : ∀ q, row = some q → h < q) : Ref w' h B l e := by
  obtain ⟨A, n, c, h1, h2, h3, h4, h5⟩ := H
  have hlt := lt_of_block h1
  refine ⟨A, n, c, (hg.block h hlt (fun e => by have := hne h e.symm; omega)).trans h1, h2, h3, h4.keep fun p hp => ?_, h5⟩
  exact World.cell?_of_block (hg.block p.block (by omega) (fun e => by have := hne p.block e.symm; omega))
theorem Ref.lt {w : World} {h B : Nat} {l : List UInt8} {e : Int} (H : Ref w h B l e) : h < w.heap.size ∧ B ≤ h := by
  obtain ⟨A, n, c, h1, _, _, _, h5⟩ := H
  exact ⟨lt_of_block h1, h5⟩
theorem Ref.drewN {w : World} {h B : Nat} {l : List UInt8} {e : Int} (H : Ref w h B l e) (q : Nat) : Ref (w.drewN q) h B l e := H

set_option maxHeartbeats 1000000 in
theorem RfNums_any (h B : Nat) (l : List UInt8) (e width most : Int) (w : World) (H : Ref w h B (clr l e) e) :
    Calls Try.prog 23 #[.pointer (some ⟨h, 0, none⟩), .int .i64 width, .int .i64 most] w fun r w' =>
      OutI w h (rdNums l e width most).1 r w' ∧ Ref w' h B (clr (rdNums l e width most).2.1 (rdNums l e width most).2.2) (rdNums l e width most).2.2 := by
  obtain ⟨t1, t2, t3, t4, t5⟩ := rdNums_tk l e width most
  rw [t1, t3, t2]
  have hN := fun W (K : Ref W h B (clr l e) e) => RfNum_any h B l e 1 W K
  simp only [rdNum_tk, fitW_1] at hN
  have H0 := Lib.hid H
  have hf := fitW_bd width
  obtain ⟨D, hD⟩ : ∃ D, D = decB (tkQ l e 1) := ⟨_, rfl⟩
  simp only [← hD] at hN t4 t5 ⊢
  obtain ⟨l1, hl1⟩ : ∃ l1, l1 = tkL l e 1 := ⟨_, rfl⟩
  obtain ⟨e1, he1⟩ : ∃ e1, e1 = tkE l e 1 := ⟨_, rfl⟩
  simp only [← hl1, ← he1] at hN t4 ⊢
  obtain ⟨f, hfe⟩ : ∃ f, f = fitW width := ⟨_, rfl⟩
  rw [← hfe] at hf ⊢
  have Hf := Lib.hid hfe.symm
  obtain ⟨T, hT⟩ : ∃ T, T = D * f := ⟨_, rfl⟩
  rw [← hT]
  have hTb : T ≤ 1785 := by have := Nat.mul_le_mul t5 hf.2; omega
  have hTe : (D : Int) * (f : Int) = (T : Int) := by rw [hT, Int.natCast_mul]
  have HTe := Lib.hid hTe
  have HN := Lib.hid hN
  have H4 := Lib.hid t4
  clear hN hD hl1 he1 H t1 t2 t3 hfe t4 hTe
  by_cases hm : max most 0 < (D : Int)
  · rw [if_pos hm, if_pos hm, if_pos hm]
    go_enter Try.func23, Try.ntmps23
    go_wp2_with (first
      | (go_at_call 18; refine (HN.out _ H0.out).mono ?_; rintro r w1 ⟨rfl, h1, g1⟩; have H1 := Lib.hid h1; have G1 := Lib.hid g1; clear h1 g1)
      | (go_at_call 25; refine (RefFail_any h B l1 e1 11 _ H1.out).mono ?_; rintro r w2 ⟨rfl, h2, g2⟩; have H2 := Lib.hid h2; have G2 := Lib.hid g2; clear h2 g2))
    all_goals
      go_ret
      exact ⟨OutI.nil (grownBy_trans G1.out G2.out), H2.out⟩
  · rw [if_neg hm, if_neg hm, if_neg hm]
    by_cases hs : (clr l1 e1).length < T
    · rw [if_pos hs, if_pos hs, if_pos hs]
      go_enter Try.func23, Try.ntmps23
      go_upto_region 5 with (go_at_call 18; refine (HN.out _ H0.out).mono ?_; rintro r w1 ⟨rfl, h1, g1⟩; have H1 := Lib.hid h1; have G1 := Lib.hid g1; clear h1 g1)
      all_goals
        obtain ⟨A, n, c, x1⟩ := H1.out
        have k0 := x1.cell0
        have hln := x1.2.2.2.1.1
        clear x1
        have hp := mul_bd (A := 255) (B := 7) t5 hf.2
        go_quiet (first | (go_at_call 33; refine (wide_any _ _).mono ?_; rintro e w' ⟨rfl, rfl⟩; rw [Hf.out]; exact ⟨rfl, _, rfl⟩))
        have hs2 : (n : Int) < (D : Int) * (f : Int) := by rw [HTe.out]; omega
        go_wp2_with (go_at_call 25; refine (RefFail_any h B l1 e1 10 _ (H1.out.drewN _)).mono ?_; rintro r w2 ⟨rfl, h2, g2⟩; have H2 := Lib.hid h2; have G2 := Lib.hid g2; clear h2 g2)
        all_goals
          go_ret
          exact ⟨OutI.nil (grownBy_trans (grownBy_trans G1.out (grownBy_drewN w1 nq _)) G2.out), H2.out⟩
    · rw [if_neg hs, if_neg hs, if_neg hs]
      by_cases hD0 : D = 0
      · subst hD0
        have hT0 : T = 0 := by rw [hT, Nat.zero_mul]
        have hc0 : chunks f 0 l1 = [] := by simp [chunks]
        rw [hT0, List.drop_zero, hc0]
        go_enter Try.func23, Try.ntmps23
        go_upto_region 5 with (go_at_call 18; refine (HN.out _ H0.out).mono ?_; rintro r w1 ⟨rfl, h1, g1⟩; have H1 := Lib.hid h1; have G1 := Lib.hid g1; clear h1 g1)
        all_goals
          obtain ⟨A, n, c, x1⟩ := H1.out
          have k0 := x1.cell0
          have hln := x1.2.2.2.1.1
          clear x1
          have hp := mul_bd (A := 255) (B := 7) t5 hf.2
          go_quiet (first | (go_at_call 33; refine (wide_any _ _).mono ?_; rintro e w' ⟨rfl, rfl⟩; rw [Hf.out]; exact ⟨rfl, _, rfl⟩))
          have hs2 : ¬ (n : Int) < ((0 : Nat) : Int) * (f : Int) := by rw [HTe.out]; omega
          go_wp2_with fail
          all_goals
            refine wp_loop_rounds 1 ?_; rw [rounds_succ]
            go_wp2
            go_ret
            exact ⟨OutI.nil (grownBy_trans G1.out (grownBy_drewN w1 nq _)), H1.out.drewN nq⟩
      · have he0 : e1 = 0 := Classical.byContradiction fun k => hD0 (H4.out k)
        subst he0
        simp only [clr_0] at HN hs ⊢
        go_enter Try.func23, Try.ntmps23
        go_upto_region 5 with (go_at_call 18; refine (HN.out _ H0.out).mono ?_; rintro r w1 ⟨rfl, h1, g1⟩; have H1 := Lib.hid h1; have G1 := Lib.hid g1; clear h1 g1)
        all_goals
          obtain ⟨A, n, c, x1⟩ := H1.out
          have k0 := x1.cell0
          have hln := x1.2.2.2.1.1
          clear x1
          have hp := mul_bd (A := 255) (B := 7) t5 hf.2
          go_quiet (first | (go_at_call 33; refine (wide_any _ _).mono ?_; rintro e w' ⟨rfl, rfl⟩; rw [Hf.out]; exact ⟨rfl, _, rfl⟩))
          have hs2 : ¬ (n : Int) < (D : Int) * (f : Int) := by rw [HTe.out]; omega
          have H2 := Lib.hid (H1.out.drewN nq)
          have G2 := Lib.hid (grownBy_trans G1.out (grownBy_drewN w1 nq _))
          have hlt := (H1.out.drewN nq).lt
          generalize w1.drewN nq = W0 at *
          obtain ⟨i, hi, hz0, hz1, hz2⟩ := info_parts Try.infoI
          go_wp2_with fail
          all_goals
            clear hs2 hp k0
            go_loopw [8, 9] (fun v i wr => ∃ j : Nat, j ≤ D ∧ i = .int .i64 j ∧ wr.ownsRow W0.heap.size 3 1 v j ((chunks f j l1).map (Value.int .i64)) ∧ Ref wr h B (l1.drop (j * f)) 0 ∧ W0.grownBy wr (some h)) (fun _ i _ => D - (intOf i).toNat)
            case atStart => exact ⟨0, Nat.zero_le _, rfl, World.ownsRow_nil _ _ _ _, by rw [Nat.zero_mul, List.drop_zero]; exact H2.out, World.grownBy.refl _ _⟩
            case round =>
              obtain ⟨j, hj, rfl, hown, hR, hg⟩ := hrel
              by_cases hjD : j < D
              · obtain ⟨P, hP⟩ : ∃ P, P = j * f := ⟨_, rfl⟩
                have hPT : P + f ≤ T := by
                  have h := Nat.mul_le_mul_right f (show j + 1 ≤ D from hjD)
                  rw [Nat.add_mul, Nat.one_mul, ← hP, ← hT] at h
                  exact h
                have hP2 : (j + 1) * f = P + f := by rw [Nat.add_mul, Nat.one_mul, hP]
                have hcs : chunks f (j + 1) l1 = chunks f j l1 ++ [(decB ((l1.drop P).take f) : Int)] := by rw [chunks_succ, hP]
                have hrn : rdNum (l1.drop P) 0 width = ((decB ((l1.drop P).take f) : Int), (l1.drop P).drop f, 0) := by
                  unfold rdNum
                  rw [Hf.out, if_neg (by simp), if_neg (by rw [List.length_drop]; omega)]
                rw [← hP] at hR
                have hnum := fun W (K : Ref W h B (l1.drop P) 0) => RfNum_any h B (l1.drop P) 0 width W (by rw [clr_0]; exact K)
                simp only [hrn, clr_0] at hnum
                rw [List.drop_drop, ← hP2] at hnum
                obtain ⟨dn, hdn⟩ : ∃ dn, dn = decB ((l1.drop P).take f) := ⟨_, rfl⟩
                rw [← hdn] at hcs hnum
                have Hnum := Lib.hid hnum
                have Hcs := Lib.hid hcs
                have HR := Lib.hid hR
                have Hg := Lib.hid hg
                clear hnum hcs hR hg hP hrn hdn hP2
                go_wp2_with (first
                  | (go_at_call 18; refine (Hnum.out _ HR.out).mono ?_; rintro e w2 ⟨rfl, hR2, hg2⟩; have hown2 := hown.kept hg2 (Or.inr (fun q => by have := hown.lt _ q; omega)); have hlt3 := hown2.lt; have HR2 := Lib.hid hR2; have hg3 := grownBy_trans Hg.out hg2; have hsz := hg3.size; have Hg3 := Lib.hid hg3; clear hR2 hg2 hg3 hown)
                  | (at_builtin; refine wpList_append_own _ rfl (.tmp 35) (.tmp 39) 23 rfl W0.heap.size 3 i (.int .i64 0) 1 8 Try.underlying23 hi hz0 hz1 hz2 rfl (by decide) _ _ _ rfl (hown2.alloc _) ⟨w2.heap.size, 0, none⟩ 1 1 [.int .i64 dn] rfl rfl (one_new _ _ _) (by intro u hu; simp at hu; subst hu; rfl) (by simp only [maxLen]; omega) (by omega) (by simp; omega) ?_; intro v' w3 hown3 hg4 _))
                have g5 : W0.grownBy w3 (some h) := grownBy_far (grownBy_trans Hg3.out (World.grownBy_alloc _ _ _)) hg4 (fun q hq => (hlt3 q hq).1)
                have R5 : Ref w3 h B (l1.drop ((j + 1) * f)) 0 := (HR2.out.grown (World.grownBy_alloc _ _ none) (by simp)).grown hg4 (fun q hq => by have := (hlt3 q hq).1; omega)
                have hown5 : w3.ownsRow W0.heap.size 3 1 v' (j + 1) ((chunks f (j + 1) l1).map (Value.int .i64)) := by
                  rw [Hcs.out, List.map_append]
                  exact hown3
                clear hown2 hown3 hg4 hlt3 hsz
                go_roundw
                case rel => exact ⟨j + 1, by omega, by go_num, hown5, R5, g5⟩
                case measure => simp [intOf]; omega
              · obtain rfl : j = D := by omega
                rw [← hT] at hR
                go_wp2_with fail
                go_ret
                obtain ⟨A5, c5, rfl, hc1, hc2⟩ := ownsRow_form hown
                refine ⟨⟨A5, c5, by rw [chunks_length]; rfl, by rw [chunks_length]; exact hc1, hc2, ?_, grownBy_trans G2.out hg⟩, hR⟩
                rw [chunks_length]
                exact RdI.own hown
end Go.Proofs.Ytblkmphbmmbecaa
