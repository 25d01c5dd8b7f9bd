/- Reader.Blob and Reader.Nums once more: what they give is new memory. -/
import Derived.Test.YtblkmphbmmbecaaWireH
namespace Go.Proofs.Ytblkmphbmmbecaa
open Go.RowKit

/-- as OutG, and the slice is new memory -/
def OutGN (w : World) (g : Nat) (l : List UInt8) (e : Ending) (w' : World) : Prop :=
  ∃ A c, e = .returned (.slice A l.length c) ∧ l.length ≤ c ∧ c ≤ maxLen ∧ Rd w' w'.heap.size A l.length l ∧ w.grownBy w' (some g) ∧ ∀ ad, A = some ad → w.heap.size ≤ ad.block
/-- as OutI, and the slice is new memory -/
def OutIN (w : World) (g : Nat) (l : List Int) (e : Ending) (w' : World) : Prop :=
  ∃ A c, e = .returned (.slice A l.length c) ∧ l.length ≤ c ∧ c ≤ maxLen ∧ RdI w' w'.heap.size A l.length l ∧ w.grownBy w' (some g) ∧ ∀ ad, A = some ad → w.heap.size ≤ ad.block
theorem OutIN.nil {w w' : World} {g : Nat} (h : w.grownBy w' (some g)) : OutIN w g [] (.returned (.slice none 0 0)) w' := ⟨none, 0, rfl, Nat.le_refl _, by simp [maxLen], RdI.nil, h, fun _ h => by cases h⟩
theorem own_new {w w' : World} {base e n c : Nat} {A : Option Addr} {xs : List Value} (h : w'.ownsRow base e 1 (.slice A n c) n xs) (hb : w.heap.size ≤ base) : ∀ ad, A = some ad → w.heap.size ≤ ad.block := by
  intro ad h1
  subst h1
  exact Nat.le_trans hb (h.lt ad.block rfl).1
theorem outGN_of {w w1 w2 : World} {g base : Nat} {A : Option Addr} {c : Nat} {l : List UInt8} (h : w2.ownsRow base 5 1 (.slice A l.length c) l.length (l.map bv)) (hb : Below w1.heap.size w1 w2) (hg : w.grownBy w1 (some g)) (hz : w.heap.size ≤ base) :
    OutGN w g l (.returned (.slice A l.length c)) w2 := by
  obtain ⟨_, _, hq, hnc, hcm⟩ := ownsRow_form h
  injection hq with hq1 hq2 hq3
  subst hq3
  exact ⟨A, c, rfl, hnc, hcm, ownRd h, grownBy_trans hg (grownBy_below hb _), own_new h hz⟩

set_option maxHeartbeats 1000000 in
theorem RBlobN_bad (g : Nat) (l : List UInt8) (most : Int) (w : World) (h : Rdr w g l 0) (hE : cntE l 2 1 most ≠ 0) :
    Calls Try.prog 19 #[.pointer (some ⟨g, 0, none⟩), .int .i64 most] w fun x w' => OutGN w g [] x w' ∧ Rdr w' g l (cntE l 2 1 most) := by
  have H0 := Lib.hid h
  obtain ⟨A, n, c, hx⟩ := h
  have h1 := hx.cell0
  have HE := Lib.hid hE
  have Hx := Lib.hid hx
  clear hx hE
  go_enter Try.func19, Try.ntmps19
  go_wp2_with (first
    | (go_at_call 27; refine (Err_any g l _ _ H0.out).mono ?_; rintro x w' ⟨rfl, rfl⟩)
    | (go_at_call 39; refine (counted_bad g A n c l 2 1 most _ Hx.out (by omega) (by omega) HE.out).mono ?_; rintro e w3 ⟨rfl, h3, h4⟩; have h5 := h3.cell0; have h6 := h3.free 0; have H3 := Lib.hid h3; have H4 := Lib.hid h4; clear h3 h4)
    | (go_at_call 32; refine (extend_any none 0 0 [] 0 _ Rd.nil (by omega) (by omega) (by omega)).mono ?_; rintro e w5 ⟨c5, rfl, hown5, hb5⟩))
  go_ret
  have h7 : RdrX (w3.setCell ⟨g, 0, none⟩ (.slice A n c)) g A n c l (cntE l 2 1 most) := H3.out.put H3.out.2.2.2 H3.out.2.1 H3.out.2.2.1
  rw [size_set] at hown5
  exact ⟨outGN_of (l := []) hown5 hb5 (grownBy_trans H4.out (grownBy_set _ _ _ _)) H4.out.size, ⟨A, n, c, h7.below hb5⟩⟩

set_option maxHeartbeats 1000000 in
theorem RBlobN_ok (g : Nat) (l : List UInt8) (most : Int) (w : World) (h : Rdr w g l 0) (hE : cntE l 2 1 most = 0) :
    Calls Try.prog 19 #[.pointer (some ⟨g, 0, none⟩), .int .i64 most] w fun x w' => OutGN w g ((l.drop 2).take (decB (l.take 2))) x w' ∧ Rdr w' g (l.drop (2 + decB (l.take 2))) 0 := by
  have H0 := Lib.hid h
  obtain ⟨A, n, c, hx⟩ := h
  obtain ⟨k1, k2, k3⟩ := cntE_0 hE
  have hl := hx.2.2.2.1
  have hD1 := decB_lt (l.take 2)
  have hD2 : (256 : Nat) ^ (l.take 2).length ≤ 256 ^ 2 := Nat.pow_le_pow_right (by decide) (by rw [List.length_take]; omega)
  have hcnt := fun W (hr : Rd W g A n l) => counted_4 g (failV g) A n c l 2 1 most W hr (by omega) (by omega) (by omega) hx.2.1 hx.2.2.1 k2 (by omega)
  simp only [Nat.mul_one] at hcnt k3
  obtain ⟨D, hD⟩ : ∃ D, D = decB (l.take 2) := ⟨_, rfl⟩
  rw [← hD] at k2 k3 hD1 ⊢
  rw [← hD] at hcnt
  have hDn : D ≤ 65535 := by omega
  have hD4 : D ≤ n - 2 := by omega
  have hn2 : 2 ≤ n := by omega
  have hnc := hx.2.1
  have hcm := hx.2.2.1
  have h1 := hx.cell0
  have h2 := hx.free 0
  have Hx := Lib.hid hx
  have Hc := Lib.hid hcnt
  have hlen : ((l.drop 2).take D).length = D := by rw [List.length_take, List.length_drop]; omega
  have Hlen := Lib.hid hlen
  clear hx hE hl hD1 hD2 hcnt hD k1 k2 k3 hlen
  go_enter Try.func19, Try.ntmps19
  go_wp2_with (first
    | (go_at_call 27; refine (Err_any g l _ _ H0.out).mono ?_; rintro x w' ⟨rfl, rfl⟩)
    | (go_at_call 39; refine (Hc.out _ Hx.out.2.2.2).mono ?_; rintro e w3 ⟨A2, A3, rfl, hA2, hA3, q, rfl⟩)
    | (go_at_call 32; refine (extend_any A2 D (c - 2) ((l.drop 2).take D) 0 _ ((keepSet ((hA2.out _ _ _ Hx.out.2.2.2).take hD4) (Nat.le_refl _) _ _ _).more (by simp; exact Nat.le_of_lt (lt_of_block Hx.out.1))) (by omega) (by omega) (by omega)).mono ?_; rintro e w5 ⟨c5, rfl, hown5, hb5⟩))
  go_ret
  have h7 : RdrX ((w.drewN q).setCell ⟨g, 0, none⟩ (.slice A3 (n - 2 - D) (c - 2 - D))) g A3 (n - 2 - D) (c - 2 - D) ((l.drop 2).drop D) 0 :=
    (Hx.out.drewN q).put (hA3.out _ _ _ (hA2.out _ _ _ (Hx.out.2.2.2.drewN q))) (by omega) (by omega)
  rw [List.drop_drop] at h7
  rw [size_set] at hown5
  have hfin := outGN_of (w := w) (l := (l.drop 2).take D) (by rw [Hlen.out]; exact hown5) hb5 (grownBy_trans (grownBy_drewN w q _) (grownBy_set _ g 0 _)) (Nat.le_refl _)
  rw [Hlen.out] at hfin
  exact ⟨hfin, ⟨_, _, _, h7.below hb5⟩⟩

theorem RBlobN_any (g : Nat) (l : List UInt8) (e most : Int) (w : World) (h : Rdr w g l e) :
    Calls Try.prog 19 #[.pointer (some ⟨g, 0, none⟩), .int .i64 most] w fun x w' =>
      OutGN w g (rdBlob l e most).1 x w' ∧ Rdr w' g (rdBlob l e most).2.1 (rdBlob l e most).2.2 := by
  unfold rdBlob
  by_cases he : e = 0
  · subst he
    rw [if_neg (by simp)]
    by_cases hE : cntE l 2 1 most = 0
    · rw [if_neg (by simp [hE])]; exact RBlobN_ok g l most w h hE
    · rw [if_pos hE]; exact RBlobN_bad g l most w h hE
  · rw [if_pos he]
    refine (RBlob_err g l e most w h he).mono ?_
    rintro x w' ⟨rfl, rfl⟩
    exact ⟨⟨none, 0, rfl, Nat.le_refl _, by simp [maxLen], Rd.nil, World.grownBy.refl _ _, fun _ h => by cases h⟩, h⟩

set_option maxHeartbeats 1000000 in
theorem RNumsN_bad (g : Nat) (l : List UInt8) (width most : Int) (w : World) (h : Rdr w g l 0) (hE : cntE l 1 (fitW width) most ≠ 0) :
    Calls Try.prog 22 #[.pointer (some ⟨g, 0, none⟩), .int .i64 width, .int .i64 most] w fun x w' => OutIN w g [] x w' ∧ Rdr w' g l (cntE l 1 (fitW width) most) := by
  have H0 := Lib.hid h
  obtain ⟨A, n, c, hx⟩ := h
  have h1 := hx.cell0
  have HE := Lib.hid hE
  have Hx := Lib.hid hx
  have hf := fitW_bd width
  clear hx hE
  go_enter Try.func22, Try.ntmps22
  go_wp2_with (first
    | (go_at_call 27; refine (Err_any g l _ _ H0.out).mono ?_; rintro x w' ⟨rfl, rfl⟩)
    | (go_at_call 30; refine (fitWidth_any _ _).mono ?_; rintro x w' ⟨rfl, rfl⟩)
    | (go_at_call 39; refine (counted_bad g A n c l 1 _ most _ Hx.out (by omega) (by omega) HE.out).mono ?_; rintro e w3 ⟨rfl, h3, h4⟩; have h5 := h3.cell0; have h6 := h3.free 0; have H3 := Lib.hid h3; have H4 := Lib.hid h4; clear h3 h4))
  refine wp_loop_rounds 1 ?_; rw [rounds_succ]
  go_wp2
  go_ret
  have h7 : RdrX (w3.setCell ⟨g, 0, none⟩ (.slice A n c)) g A n c l (cntE l 1 (fitW width) most) := H3.out.put H3.out.2.2.2 H3.out.2.1 H3.out.2.2.1
  exact ⟨OutIN.nil (grownBy_trans H4.out (grownBy_set _ _ _ _)), ⟨A, n, c, h7⟩⟩

set_option maxHeartbeats 2000000 in
theorem RNumsN_ok (g : Nat) (l : List UInt8) (width most : Int) (w : World) (h : Rdr w g l 0) (hE : cntE l 1 (fitW width) most = 0) :
    Calls Try.prog 22 #[.pointer (some ⟨g, 0, none⟩), .int .i64 width, .int .i64 most] w fun x w' =>
      OutIN w g (chunks (fitW width) (decB (l.take 1)) (l.drop 1)) x w' ∧ Rdr w' g (l.drop (1 + decB (l.take 1) * fitW width)) 0 := by
  have H0 := Lib.hid h
  obtain ⟨A, n, c, hx⟩ := h
  obtain ⟨k1, k2, k3⟩ := cntE_0 hE
  have hl := hx.2.2.2.1
  have hD1 := decB_lt (l.take 1)
  have hD2 : (256 : Nat) ^ (l.take 1).length ≤ 256 ^ 1 := Nat.pow_le_pow_right (by decide) (by rw [List.length_take]; omega)
  have hf := fitW_bd width
  have hcnt := fun W (hr : Rd W g A n l) => counted_4 g (failV g) A n c l 1 (fitW width) most W hr (by omega) (by omega) (by omega) hx.2.1 hx.2.2.1 k2 (by omega)
  obtain ⟨f, hfe⟩ : ∃ f, f = fitW width := ⟨_, rfl⟩
  rw [← hfe] at hf hcnt k3 ⊢
  have Hf := Lib.hid hfe.symm
  obtain ⟨D, hD⟩ : ∃ D, D = decB (l.take 1) := ⟨_, rfl⟩
  rw [← hD] at k2 k3 hD1 hcnt ⊢
  obtain ⟨T, hT⟩ : ∃ T, T = D * f := ⟨_, rfl⟩
  rw [← hT] at hcnt k3 ⊢
  have hDn : D ≤ 255 := by omega
  have hTb : T ≤ 1785 := by have := Nat.mul_le_mul hDn hf.2; omega
  have hTn : T ≤ n - 1 := by omega
  have hn1 : 1 ≤ n := by omega
  have hq : (T : Int) / (f : Int) = (D : Int) := by
    rw [hT, Int.natCast_mul]; exact Int.mul_ediv_cancel _ (by omega)
  have hnc := hx.2.1
  have hcm := hx.2.2.1
  have h1 := hx.cell0
  have h2 := hx.free 0
  have Hx := Lib.hid hx
  have Hc := Lib.hid hcnt
  have HT := Lib.hid hT
  have hgs := lt_of_block hx.1
  obtain ⟨i, hi, hz0, hz1, hz2⟩ := info_parts Try.infoI
  clear hx hE hl hD1 hD2 hcnt hD k1 k2 k3 hfe hT
  go_enter Try.func22, Try.ntmps22
  go_wp2_with (first
    | (go_at_call 27; refine (Err_any g l _ _ H0.out).mono ?_; rintro x w' ⟨rfl, rfl⟩)
    | (go_at_call 30; refine (fitWidth_any _ _).mono ?_; rintro x w' ⟨rfl, rfl⟩; rw [Hf.out])
    | (go_at_call 39; refine (Hc.out _ Hx.out.2.2.2).mono ?_; rintro e w3 ⟨A2, A3, rfl, hA2, hA3, q, rfl⟩))
  have h7 : RdrX ((w.drewN q).setCell ⟨g, 0, none⟩ (.slice A3 (n - 1 - T) (c - 1 - T))) g A3 (n - 1 - T) (c - 1 - T) ((l.drop 1).drop T) 0 :=
    (Hx.out.drewN q).put (hA3.out _ _ _ (hA2.out _ _ _ (Hx.out.2.2.2.drewN q))) (by omega) (by omega)
  have hbody : Rd ((w.drewN q).setCell ⟨g, 0, none⟩ (.slice A3 (n - 1 - T) (c - 1 - T))) g A2 T ((l.drop 1).take T) := keepSet ((hA2.out _ _ _ Hx.out.2.2.2).take hTn) (Nat.le_refl _) _ _ _
  have hgr : w.grownBy ((w.drewN q).setCell ⟨g, 0, none⟩ (.slice A3 (n - 1 - T) (c - 1 - T))) (some g) := grownBy_trans (grownBy_drewN w q _) (grownBy_set _ g 0 _)
  have hsz := size_set (w.drewN q) ⟨g, 0, none⟩ (.slice A3 (n - 1 - T) (c - 1 - T))
  generalize (w.drewN q).setCell ⟨g, 0, none⟩ (.slice A3 (n - 1 - T) (c - 1 - T)) = W0 at *
  clear hq h1 h2
  have H7 := Lib.hid h7
  have Hb := Lib.hid hbody
  have Hgr := Lib.hid hgr
  clear h7 hbody hgr hsz
  go_loopw [9, 10, 36] (fun v _ i wr => ∃ j : Nat, j ≤ D ∧ i = .int .i64 j ∧ wr.ownsRow W0.heap.size 3 1 v j ((chunks f j (l.drop 1)).map (Value.int .i64)) ∧ Below W0.heap.size W0 wr) (fun _ _ i _ => D - (intOf i).toNat)
  case atStart => exact ⟨0, Nat.zero_le _, rfl, World.ownsRow_nil _ _ _ _, Below.refl _ _⟩
  case round =>
    obtain ⟨j, hj, rfl, hown, hb⟩ := hrel
    by_cases hlt : j < D
    · obtain ⟨P, hP⟩ : ∃ P, P = j * f := ⟨_, rfl⟩
      have hPT : P + f ≤ T := by
        have h := Nat.mul_le_mul_right f (show j + 1 ≤ D from hlt)
        rw [Nat.add_mul, Nat.one_mul, ← hP, ← HT.out] at h
        exact h
      have hm1 : (j : Int) * (f : Int) = (P : Int) := by rw [hP, Int.natCast_mul]
      have hm2 : ((j : Int) + 1) * (f : Int) = (P : Int) + (f : Int) := by rw [Int.add_mul, hm1, Int.one_mul]
      have hne : ¬ (c - 1 = P) := by omega
      have hrd : Rd W0 g (A2.map (·.add P)) f (((l.drop 1).drop P).take f) := by
        have h := Hb.out.drop (k := P) (cap := c - 1) (by omega) (by omega)
        rw [if_neg hne] at h
        have h3 := h.take (k := f) (by omega)
        rw [List.drop_take, List.take_take, Nat.min_eq_left (by omega)] at h3
        exact h3
      have Hrd := Lib.hid hrd
      have hcs : chunks f (j + 1) (l.drop 1) = chunks f j (l.drop 1) ++ [(decB (((l.drop 1).drop P).take f) : Int)] := by rw [chunks_succ, hP]
      have Hcs := Lib.hid hcs
      obtain ⟨dn, hdn⟩ : ∃ dn, dn = decB (((l.drop 1).drop P).take f) := ⟨_, rfl⟩
      have Hdn := Lib.hid hdn.symm
      have hgW : g < W0.heap.size := lt_of_block H7.out.1
      have hwr := hb.size
      clear hrd hcs hP hdn
      go_wp2_with (first
        | (go_at_call 37; refine (number_any (A2.map (·.add P)) f (c - 1 - P) _ g _ (Hrd.out.below (hb.mono (Nat.le_of_lt hgW))) hf.2).mono ?_; rintro e w' ⟨rfl, rfl⟩; rw [Hdn.out])
        | (at_builtin; refine wpList_append_own _ rfl (.tmp 39) (.tmp 50) 23 rfl W0.heap.size 3 i (.int .i64 0) 1 8 Try.underlying23 hi hz0 hz1 hz2 rfl (by decide) _ _ _ rfl (hown.alloc _) ⟨wr.heap.size, 0, none⟩ 1 1 [.int .i64 dn] rfl rfl (one_new _ _ _) (by intro u hu; simp at hu; subst hu; rfl) (by simp only [maxLen]; omega) (by omega) (by simp; omega) ?_; intro v' w1 hown1 hg1 _))
      have hb1 : Below W0.heap.size W0 w1 := (hb.alloc hwr _).grown hg1 (by simp; omega) (fun q hq => (hown.lt q hq).1)
      have hown2 : w1.ownsRow W0.heap.size 3 1 v' (j + 1) ((chunks f (j + 1) (l.drop 1)).map (Value.int .i64)) := by
        rw [Hcs.out, Hdn.out, List.map_append]
        exact hown1
      clear hown1 hg1 hown hb
      go_roundw
      case rel => exact ⟨j + 1, by omega, by go_num, hown2, hb1⟩
      case measure => simp [intOf]; omega
    · obtain rfl : j = D := by omega
      go_wp2_with fail
      go_ret
      obtain ⟨A5, c5, rfl, hc1, hc2⟩ := ownsRow_form hown
      have hb7 := H7.out.below hb
      rw [List.drop_drop] at hb7
      refine ⟨⟨A5, c5, by rw [chunks_length]; rfl, by rw [chunks_length]; exact hc1, hc2, ?_, grownBy_trans Hgr.out (grownBy_below hb _), own_new hown Hgr.out.size⟩, ⟨_, _, _, hb7⟩⟩
      rw [chunks_length]
      exact RdI.own hown

theorem RNumsN_any (g : Nat) (l : List UInt8) (e width most : Int) (w : World) (h : Rdr w g l e) :
    Calls Try.prog 22 #[.pointer (some ⟨g, 0, none⟩), .int .i64 width, .int .i64 most] w fun x w' =>
      OutIN w g (rdNums l e width most).1 x w' ∧ Rdr w' g (rdNums l e width most).2.1 (rdNums l e width most).2.2 := by
  unfold rdNums
  by_cases he : e = 0
  · subst he
    rw [if_neg (by simp)]
    by_cases hE : cntE l 1 (fitW width) most = 0
    · rw [if_neg (by simp [hE])]; exact RNumsN_ok g l width most w h hE
    · rw [if_pos hE]; exact RNumsN_bad g l width most w h hE
  · rw [if_pos he]
    refine (RNums_err g l e width most w h he).mono ?_
    rintro x w' ⟨rfl, rfl⟩
    exact ⟨OutIN.nil (World.grownBy.refl _ _), h⟩

end Go.Proofs.Ytblkmphbmmbecaa
