/- Contract of package span's combine: the ends of two canonical lists gone through together. -/
import Derived.Test.YtikpcpkclecciaaSpB
namespace Go.Proofs.Ytikpcpkclecciaa
open Go.RowKit

set_option maxRecDepth 10000 in
set_option maxHeartbeats 2000000 in
theorem comb_any (g : Nat) (eg : ∀ args w, (callFunc g args).run Try.prog w = .ok (.enter g args) w) (what : Int) (hcl : ∀ (x y : Bool) (w : World), Calls Try.prog g #[.bool x, .bool y] w fun e w' => e = .returned (.bool (opS what x y)) ∧ w' = w)
    (A1 A2 : Option Addr) (n1 n2 c1 c2 : Nat) (a b : List Sp) (w : World) (hr1 : RdS w w.heap.size A1 n1 a) (hr2 : RdS w w.heap.size A2 n2 b) (h1 : n1 ≤ 200) (h2 : n2 ≤ 200) :
    GivesS 26 #[.slice A1 n1 c1, .slice A2 n2 c2, .func (.func g) #[] #[]] w (refS a b what) := by
  obtain ⟨i, hi, hz0, hz1, hz2⟩ := info_parts Try.infoS
  have HC1 := Lib.hid (clean0 A1 n1 c1 a w hr1 h1)
  have HC2 : Hid (∀ w1 : World, Below w.heap.size w w1 → GivesC 12 #[.slice A2 n2 c2] w1 (refS b [] 1)) := fun w1 hb => clean0 A2 n2 c2 b w1 ((hr2.below hb).more hb.size) h2
  have Hk1 := Lib.hid (refS_ok a [] 1).1
  have Hk2 := Lib.hid (refS_ok b [] 1).1
  have Hcl := Lib.hid hcl
  clear hr1 hr2 hcl h1 h2
  rw [← ref_clean a b what]
  generalize refS a [] 1 = ps at HC1 Hk1 ⊢
  generalize refS b [] 1 = qs at HC2 Hk2 ⊢
  clear a b
  by_cases heq : ps = qs
  · subst heq
    have Hs := Lib.hid (com_same (what := what) Hk1.out)
    obtain ⟨z, hz⟩ : ∃ z, z = opS what true true := ⟨_, rfl⟩
    have HW : Hid (∀ w : World, Calls Try.prog g #[.bool true, .bool true] w fun e w' => e = .returned (.bool z) ∧ w' = w) := fun w => by rw [hz]; exact Hcl.out true true w
    rw [← hz] at Hs
    clear hz
    go_enter Try.func26, Try.ntmps26
    go_wp2_with fail
    refine HC1.out.mono ?_
    rintro e w1 ⟨A3, n3, c3, rfl, hra, hna, hb1⟩
    have Hra := Lib.hid hra
    have Hb1 := Lib.hid hb1
    clear hra hb1
    go_wp2_with fail
    refine (HC2.out w1 Hb1.out).mono ?_
    rintro e w2 ⟨A4, n4, c4, rfl, hrb, hnb, hb2⟩
    have Hrb := Lib.hid hrb
    have Hra2 := Lib.hid ((Hra.out.below hb2).more hb2.size)
    have Hb2 := Lib.hid (Hb1.out.trans (hb2.mono Hb1.out.size))
    have HE : Hid (Calls Try.prog 33 #[.slice A3 n3 c3, .slice A4 n4 c4] w2 fun e w' => e = .returned (.bool true) ∧ ∃ q, w' = w2.drewN q) := by
      have h := eql_any A3 A4 n3 n4 c3 c4 ps ps _ w2 Hra2.out Hrb.out (by omega) (by omega)
      rw [decide_eq_true (rfl : ps = ps)] at h
      exact h
    clear hrb hb2
    go_wp2_with fail
    refine HE.out.mono ?_
    rintro e w3 ⟨rfl, q, rfl⟩
    have Hra3 : Hid (RdS (w2.drewN q) (w2.drewN q).heap.size A3 n3 ps) := Hra2.out.drewN q
    have Hb3 : Hid (Below w.heap.size w (w2.drewN q)) := ⟨Hb2.out.os, Hb2.out.tape, Hb2.out.output, Hb2.out.size, Hb2.out.block⟩
    generalize w2.drewN q = w3 at Hra3 Hb3 ⊢
    cases z
    · go_wp2_with (go_at_fn g; refine (HW.out _).mono ?_; rintro e w4 ⟨rfl, rfl⟩)
      go_ret
      exact ⟨none, 0, 0, rfl, by rw [Hs.out]; exact RdS.nil _ _ _, by omega, Hb3.out⟩
    · go_wp2_with (go_at_fn g; refine (HW.out _).mono ?_; rintro e w4 ⟨rfl, rfl⟩)
      go_ret
      exact ⟨A3, n3, c3, rfl, by rw [Hs.out]; exact Hra3.out, by omega, Hb3.out⟩
  · have Hne := Lib.hid heq
    clear heq
    go_enter Try.func26, Try.ntmps26
    go_wp2_with fail
    refine HC1.out.mono ?_
    rintro e w1 ⟨A3, n3, c3, rfl, hra, hna, hb1⟩
    have Hra := Lib.hid hra
    have Hb1 := Lib.hid hb1
    clear hra hb1
    go_wp2_with fail
    refine (HC2.out w1 Hb1.out).mono ?_
    rintro e w2 ⟨A4, n4, c4, rfl, hrb, hnb, hb2⟩
    have Hrb := Lib.hid hrb
    have Hra2 := Lib.hid ((Hra.out.below hb2).more hb2.size)
    have Hb2 := Lib.hid (Hb1.out.trans (hb2.mono Hb1.out.size))
    have HE : Hid (Calls Try.prog 33 #[.slice A3 n3 c3, .slice A4 n4 c4] w2 fun e w' => e = .returned (.bool false) ∧ ∃ q, w' = w2.drewN q) := by
      have h := eql_any A3 A4 n3 n4 c3 c4 ps qs _ w2 Hra2.out Hrb.out (by omega) (by omega)
      rw [decide_eq_false Hne.out] at h
      exact h
    clear hrb hb2 Hne
    go_wp2_with fail
    refine HE.out.mono ?_
    rintro e w3 ⟨rfl, q, rfl⟩
    have Hra3 : Hid (RdS (w2.drewN q) (w2.drewN q).heap.size A3 n3 ps) := Hra2.out.drewN q
    have Hrb3 : Hid (RdS (w2.drewN q) (w2.drewN q).heap.size A4 n4 qs) := Hrb.out.drewN q
    have Hb3 : Hid (Below w.heap.size w (w2.drewN q)) := ⟨Hb2.out.os, Hb2.out.tape, Hb2.out.output, Hb2.out.size, Hb2.out.block⟩
    clear Hra Hrb Hra2 Hb1 Hb2 HE HC1 HC2
    generalize w2.drewN q = w3 at Hra3 Hrb3 Hb3 ⊢
    clear w2 w1 q
    go_wp2_with fail
    go_loopw [7, 8, 9, 10] (fun v o i j wr => ∃ (I J : Nat) (out : List Sp) (x : Bool), i = .int .i64 I ∧ j = .int .i64 J ∧ o = .bool x ∧ Hid (Com ps qs what I J out x) ∧ Hid (wr.ownsRow w3.heap.size 33 2 v out.length (flatS out)) ∧ Hid (Below w3.heap.size w3 wr)) (fun _ _ i j _ => 2 * n3 + 2 * n4 - ((intOf i).toNat + (intOf j).toNat))
    case atStart => exact ⟨0, 0, [], false, rfl, rfl, rfl, Com.start what Hk1.out Hk2.out, World.ownsRow_nil _ _ _ _, Below.refl _ _⟩
    case round =>
      obtain ⟨I, J, out, x, rfl, rfl, rfl, HCom, Hown, Hbr⟩ := hrel
      have hI : I ≤ 2 * n3 := by have h := HCom.out.le.1; rw [← Hra3.out.1] at h; exact h
      have hJ : J ≤ 2 * n4 := by have h := HCom.out.le.2; rw [← Hrb3.out.1] at h; exact h
      have HR1 := Lib.hid (Hra3.out.below Hbr.out)
      have HR2 := Lib.hid (Hrb3.out.below Hbr.out)
      by_cases hg : I < 2 * n3 ∨ J < 2 * n4
      · have hgl : I < 2 * ps.length ∨ J < 2 * qs.length := by rw [← Hra3.out.1, ← Hrb3.out.1]; exact hg
        have HRound := Lib.hid (Com.round Hk1.out Hk2.out HCom.out hgl)
        have Hmore : Hid (nxC ps I (atC ps qs I J) + nxC qs J (atC ps qs I J) ≥ I + J + 1 ∧ nxC ps I (atC ps qs I J) ≤ 2 * n3 ∧ nxC qs J (atC ps qs I J) ≤ 2 * n4) := by
          rw [Hra3.out.1, Hrb3.out.1]; exact Com.more Hk1.out Hk2.out HCom.out hgl
        have hin : inC ps qs what I J = opS what (nxC ps I (atC ps qs I J) % 2 == 1) (nxC qs J (atC ps qs I J) % 2 == 1) := rfl
        have hI1 : nxC ps I (atC ps qs I J) = if endv ps I = atC ps qs I J then I + 1 else I := rfl
        have hJ1 : nxC qs J (atC ps qs I J) = if endv qs J = atC ps qs I J then J + 1 else J := rfl
        have he : atC ps qs I J = min (endv ps I) (endv qs J) := rfl
        have HE1 : Hid (∀ w0 : World, RdS w0 w3.heap.size A3 n3 ps → Calls Try.prog 34 #[.slice A3 n3 c3, .int .i64 I] w0 fun e w' => e = .returned (.int .i64 (endv ps I)) ∧ w0 = w') := fun w0 h => (end_any A3 n3 c3 ps I _ w0 h (by omega) (by omega)).mono fun _ _ h => ⟨h.1, h.2.symm⟩
        have HE2 : Hid (∀ w0 : World, RdS w0 w3.heap.size A4 n4 qs → Calls Try.prog 34 #[.slice A4 n4 c4, .int .i64 J] w0 fun e w' => e = .returned (.int .i64 (endv qs J)) ∧ w0 = w') := fun w0 h => (end_any A4 n4 c4 qs J _ w0 h (by omega) (by omega)).mono fun _ _ h => ⟨h.1, h.2.symm⟩
        have Hol := Lib.hid HCom.out.len
        generalize inC ps qs what I J = z at HRound hin
        generalize atC ps qs I J = e at HRound Hmore hin hI1 hJ1 he
        generalize nxC ps I e = I' at HRound Hmore hin hI1
        generalize nxC qs J e = J' at HRound Hmore hin hJ1
        generalize endv ps I = ea at HE1 he hI1
        generalize endv qs J = eb at HE2 he hJ1
        have Hin := Lib.hid hin
        have HI1 := Lib.hid hI1
        have HJ1 := Lib.hid hJ1
        have He := Lib.hid he
        have hI'2 : I' ≤ 2 * n3 := Hmore.out.2.1
        have hJ'2 : J' ≤ 2 * n4 := Hmore.out.2.2
        have Hgi : Hid (I < 2 * n3 ∨ J < 2 * n4) := hg
        clear hin hI1 hJ1 he hgl HCom hg
        go_upto_region 9 with fail
        go_cut [34] (fun s34 wx => s34 = .bool true ∧ wx = wr)
        case first =>
          by_cases hg1 : (I : Int) < 2 * (n3 : Int)
          · go_wp2_with fail
            go_meet
            exact ⟨rfl, rfl⟩
          · have hg2 : (J : Int) < 2 * (n4 : Int) := by rcases Hgi.out with h | h <;> omega
            go_wp2_with fail
            go_meet
            exact ⟨rfl, rfl⟩
        case rest =>
          obtain ⟨rfl, rfl⟩ := hcut
          go_upto_region 10 with fail
          go_cut [11] (fun s11 wx => s11 = .int .i64 e ∧ wx = wc)
          case first =>
            go_wp2_with fail
            refine (HE1.out _ HR1.out).mono ?_
            rintro e5 w5 ⟨rfl, rfl⟩
            go_wp2_with fail
            refine (HE2.out _ HR2.out).mono ?_
            rintro e6 w6 ⟨rfl, rfl⟩
            go_wp2_with fail
            all_goals
              have h0 := He.out
              go_meet
              exact ⟨by first | (rw [h0]; done) | (congr 1; omega), rfl⟩
          case rest =>
            obtain ⟨rfl, rfl⟩ := hcut
            go_upto_if 46 with (go_at_call 34; refine (HE1.out _ HR1.out).mono ?_; rintro e5 w5 ⟨rfl, rfl⟩)
            go_cut [9] (fun s9 wx => s9 = .int .i64 I' ∧ wx = wc)
            case first =>
              by_cases hA : ea = e
              · have h0 : (I' : Int) = I + 1 := by have h := HI1.out; rw [if_pos hA] at h; omega
                have H0 := Lib.hid h0
                clear h0
                go_wp2_with fail
                go_meet
                exact ⟨by rw [H0.out], rfl⟩
              · have h0 : (I' : Int) = I := by have h := HI1.out; rw [if_neg hA] at h; omega
                have H0 := Lib.hid h0
                clear h0
                go_wp2_with fail
                go_meet
                exact ⟨by rw [H0.out], rfl⟩
            case rest =>
              obtain ⟨rfl, rfl⟩ := hcut
              go_upto_if 53 with (go_at_call 34; refine (HE2.out _ HR2.out).mono ?_; rintro e6 w6 ⟨rfl, rfl⟩)
              go_cut [10] (fun s10 wx => s10 = .int .i64 J' ∧ wx = wc)
              case first =>
                by_cases hA : eb = e
                · have h0 : (J' : Int) = J + 1 := by have h := HJ1.out; rw [if_pos hA] at h; omega
                  have H0 := Lib.hid h0
                  clear h0
                  go_wp2_with fail
                  go_meet
                  exact ⟨by rw [H0.out], rfl⟩
                · have h0 : (J' : Int) = J := by have h := HJ1.out; rw [if_neg hA] at h; omega
                  have H0 := Lib.hid h0
                  clear h0
                  go_wp2_with fail
                  go_meet
                  exact ⟨by rw [H0.out], rfl⟩
              case rest =>
                obtain ⟨rfl, rfl⟩ := hcut
                go_upto_region 15 with fail
                go_cut [12] (fun s12 wx => s12 = .bool z ∧ wx = wc)
                case first =>
                  rcases Nat.mod_two_eq_zero_or_one I' with hpa | hpa <;> rcases Nat.mod_two_eq_zero_or_one J' with hpb | hpb
                  · have ha : (I' : Int).tmod 2 = 0 := by rw [Int.tmod_eq_emod_of_nonneg (by omega)]; omega
                    have hb : (J' : Int).tmod 2 = 0 := by rw [Int.tmod_eq_emod_of_nonneg (by omega)]; omega
                    have HW : Hid (∀ w0 : World, Calls Try.prog g #[.bool false, .bool false] w0 fun e w' => e = .returned (.bool z) ∧ w0 = w') := fun w0 => by
                      have h := Hcl.out false false w0
                      have h2 := Hin.out
                      rw [hpa, hpb] at h2
                      rw [h2]
                      exact h.mono fun _ _ h => ⟨h.1, h.2.symm⟩
                    clear hpa hpb
                    go_wp2_with (go_at_fn g; refine (HW.out _).mono ?_; rintro e7 w7 ⟨rfl, rfl⟩)
                    go_meet
                    exact ⟨rfl, rfl⟩
                  · have ha : (I' : Int).tmod 2 = 0 := by rw [Int.tmod_eq_emod_of_nonneg (by omega)]; omega
                    have hb : (J' : Int).tmod 2 = 1 := by rw [Int.tmod_eq_emod_of_nonneg (by omega)]; omega
                    have HW : Hid (∀ w0 : World, Calls Try.prog g #[.bool false, .bool true] w0 fun e w' => e = .returned (.bool z) ∧ w0 = w') := fun w0 => by
                      have h := Hcl.out false true w0
                      have h2 := Hin.out
                      rw [hpa, hpb] at h2
                      rw [h2]
                      exact h.mono fun _ _ h => ⟨h.1, h.2.symm⟩
                    clear hpa hpb
                    go_wp2_with (go_at_fn g; refine (HW.out _).mono ?_; rintro e7 w7 ⟨rfl, rfl⟩)
                    go_meet
                    exact ⟨rfl, rfl⟩
                  · have ha : (I' : Int).tmod 2 = 1 := by rw [Int.tmod_eq_emod_of_nonneg (by omega)]; omega
                    have hb : (J' : Int).tmod 2 = 0 := by rw [Int.tmod_eq_emod_of_nonneg (by omega)]; omega
                    have HW : Hid (∀ w0 : World, Calls Try.prog g #[.bool true, .bool false] w0 fun e w' => e = .returned (.bool z) ∧ w0 = w') := fun w0 => by
                      have h := Hcl.out true false w0
                      have h2 := Hin.out
                      rw [hpa, hpb] at h2
                      rw [h2]
                      exact h.mono fun _ _ h => ⟨h.1, h.2.symm⟩
                    clear hpa hpb
                    go_wp2_with (go_at_fn g; refine (HW.out _).mono ?_; rintro e7 w7 ⟨rfl, rfl⟩)
                    go_meet
                    exact ⟨rfl, rfl⟩
                  · have ha : (I' : Int).tmod 2 = 1 := by rw [Int.tmod_eq_emod_of_nonneg (by omega)]; omega
                    have hb : (J' : Int).tmod 2 = 1 := by rw [Int.tmod_eq_emod_of_nonneg (by omega)]; omega
                    have HW : Hid (∀ w0 : World, Calls Try.prog g #[.bool true, .bool true] w0 fun e w' => e = .returned (.bool z) ∧ w0 = w') := fun w0 => by
                      have h := Hcl.out true true w0
                      have h2 := Hin.out
                      rw [hpa, hpb] at h2
                      rw [h2]
                      exact h.mono fun _ _ h => ⟨h.1, h.2.symm⟩
                    clear hpa hpb
                    go_wp2_with (go_at_fn g; refine (HW.out _).mono ?_; rintro e7 w7 ⟨rfl, rfl⟩)
                    go_meet
                    exact ⟨rfl, rfl⟩
                case rest =>
                  obtain ⟨rfl, rfl⟩ := hcut
                  cases z
                  · cases x
                    · have HC := Lib.hid (HRound.out.2.2.1 rfl rfl)
                      clear HRound
                      go_wp2_with fail
                      go_roundw
                      case rel => exact ⟨I', J', out, false, rfl, rfl, rfl, HC, Hown, Hbr⟩
                      case measure => first | (simp [intOf]; done) | (have h := Hmore.out.1; simp [intOf]; omega)
                    · obtain ⟨c, f, hce, hc⟩ := HRound.out.2.2.2 rfl rfl
                      subst hce
                      have HC := Lib.hid hc
                      have Hown6 : Hid (wc.ownsRow w3.heap.size 33 2 u7 (c.length + 1) (flatS (c ++ [(f, 0)]))) := by
                        have h := Hown.out
                        rw [List.length_append, List.length_singleton] at h
                        exact h
                      obtain ⟨gr, cO, rfl, hcO, hcm2, hgr, q1⟩ := last_S Hown6.out
                      have q1 : wc.cell? ⟨gr, c.length * 2 + 1, none⟩ = some (.int .i64 0) := q1
                      have Hlr : Hid (c.length ≤ 800) := by have h := Hol.out; rw [List.length_append] at h; show _ ≤ _; omega
                      obtain ⟨k, hk⟩ : ∃ k, k = c.length := ⟨_, rfl⟩
                      rw [← hk] at Hown6 hcO q1 Hlr ⊢
                      have Hk := Lib.hid hk
                      have hk0 : (0 : Int) ≤ (k : Int) := by omega
                      have hk1 : (k : Int) < (k : Int) + 1 := by omega
                      have hkl := Hlr.out
                      have hf := World.ownsRow.frozenAt Hown6.out (k * 2 + 1)
                      clear Hown hk hc HRound
                      go_wp2_with fail
                      go_roundw
                      case rel =>
                        have h := (World.ownsRow.stored Hown6.out (k * 2 + 1) (.int .i64 e)).1
                        rw [Hk.out, flatS_set] at h
                        refine ⟨I', J', c ++ [(f, e)], false, rfl, rfl, rfl, HC, ?_, Lib.hid (Hbr.out.setCell (by show _ ≤ gr; exact hgr) _)⟩
                        rw [show (c ++ [(f, e)]).length = c.length + 1 by simp, Hk.out]
                        exact h
                      case measure => first | (simp [intOf]; done) | (have h := Hmore.out.1; simp [intOf]; omega)
                  · cases x
                    · have HC := Lib.hid (HRound.out.1 rfl rfl)
                      obtain ⟨m, hm⟩ : ∃ m, m = out.length := ⟨_, rfl⟩
                      have hml : m ≤ 800 := by have h := Hol.out; omega
                      rw [← hm] at Hown
                      have Hm := Lib.hid hm
                      clear hm HRound
                      obtain ⟨A5, c5, rfl, _, _⟩ := ownF Hown.out
                      have hws := Hbr.out.size
                      go_wp2_with (at_builtin; refine wpList_append_own _ rfl (.tmp 70) (.tmp 73) 22 rfl w3.heap.size 33 i (.agg #[.int .i64 0, .int .i64 0]) 2 16 Try.underlying22 hi hz0 hz1 hz2 rfl (by decide) _ _ _ rfl (Hown.out.alloc _) ⟨wc.heap.size, 0, none⟩ 1 1 [.int .i64 e, .int .i64 0] rfl rfl (two_at _ e 0 _ _ rfl) (two_one e 0) (by simp only [maxLen]; omega) (by omega) (by simp; omega) ?_; intro v8 w8 hown8 hg8 _; obtain ⟨A2, c2, rfl, _, _⟩ := ownF hown8; have Hb8 := Lib.hid ((Hbr.out.alloc hws _).grown hg8 (by simp; omega) (fun q hq => (Hown.out.lt q hq).1)); have Hown8 := Lib.hid hown8; clear hown8 hg8)
                      go_roundw
                      case rel =>
                        refine ⟨I', J', out ++ [(e, 0)], true, rfl, rfl, rfl, HC, ?_, Hb8⟩
                        rw [List.length_append, List.length_singleton, ← Hm.out, flatS_snoc]
                        exact Hown8
                      case measure => first | (simp [intOf]; done) | (have h := Hmore.out.1; simp [intOf]; omega)
                    · have HC := Lib.hid (HRound.out.2.1 rfl rfl)
                      clear HRound
                      go_wp2_with fail
                      go_roundw
                      case rel => exact ⟨I', J', out, true, rfl, rfl, rfl, HC, Hown, Hbr⟩
                      case measure => first | (simp [intOf]; done) | (have h := Hmore.out.1; simp [intOf]; omega)
      · have hg1 : ¬ (I : Int) < 2 * (n3 : Int) := by omega
        have hg2 : ¬ (J : Int) < 2 * (n4 : Int) := by omega
        have Hfin := Lib.hid (Com.fin Hk1.out Hk2.out HCom.out (by rw [← Hra3.out.1]; omega) (by rw [← Hrb3.out.1]; omega))
        have hml : out.length ≤ 800 := by have h := HCom.out.len; omega
        obtain ⟨m, hm⟩ : ∃ m, m = out.length := ⟨_, rfl⟩
        rw [← hm] at Hown hml
        have Hm := Lib.hid hm
        clear hm HCom hg
        obtain ⟨A5, c5, rfl, _, _⟩ := ownF Hown.out
        have Hrd := Lib.hid (RdS.own Hown.out Hm.out)
        have Hbf := Lib.hid (Hb3.out.trans (Hbr.out.mono Hb3.out.size))
        go_wp2_with fail
        go_ret
        exact ⟨A5, m, ⟨c5, rfl⟩, by rw [← Hfin.out]; exact Hrd.out, by omega, Hbf.out⟩
end Go.Proofs.Ytikpcpkclecciaa
