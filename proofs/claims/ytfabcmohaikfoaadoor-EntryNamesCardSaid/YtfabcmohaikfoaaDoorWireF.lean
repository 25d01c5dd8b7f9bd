/- Contracts of package wire: counted. -/
import Derived.Test.YtfabcmohaikfoaaDoorWireE
namespace Go.Proofs.YtfabcmohaikfoaaDoor
open Go.RowKit

set_option maxRecDepth 10000 in
theorem split_okI (F : Value) (A : Option Addr) (n c k : Nat) (x : Int) (w : World) (hx : x = (k : Int)) (hk : k ≤ n) (hc : n ≤ c) (hm : c ≤ 9223372036854775807) :
    Calls Tryd.prog 59 #[.slice A n c, .int .i64 x, F] w fun x w' => ∃ A2, x = .returned (.tuple #[.slice A k c, .slice A2 (n - k) (c - k), .bool true]) ∧
      Hid (∀ (W : World) (B : Nat) (l : List UInt8), Rd W B A n l → Rd W B A2 (n - k) (l.drop k)) ∧ ∃ q, w' = w.drewN q := by
  subst hx; exact split_ok F A n c k w hk hc hm
set_option maxRecDepth 10000 in
theorem split_shortI (g : Nat) (A : Option Addr) (n c : Nat) (A' : Option Addr) (n' c' k : Nat) (x : Int) (l : List UInt8) (w : World) (hx : x = (k : Int)) (hk : n' < k) (h : RdrX w g A n c l 0) :
    Calls Tryd.prog 59 #[.slice A' n' c', .int .i64 x, failV g] w fun x w' => x = .returned (.tuple #[.slice none 0 0, .slice A' n' c', .bool false]) ∧ RdrX w' g A n c l 10 ∧ w.grownBy w' (some g) := by
  subst hx; exact split_short g A n c A' n' c' k l w hk h

/-- what counted says: the error, or how many bytes the items have -/
def cntE (l : List UInt8) (cw iw : Nat) (most : Int) : Int :=
  if l.length < cw then 10 else if max most 0 < (decB (l.take cw) : Int) then 11 else if l.length - cw < decB (l.take cw) * iw then 10 else 0

-- the first count is short
set_option maxRecDepth 10000 in
set_option maxHeartbeats 1000000 in
theorem counted_1 (g : Nat) (A0 : Option Addr) (n0 c0 : Nat) (l0 : List UInt8) (A : Option Addr) (n c : Nat) (cw iw : Nat) (most : Int) (w : World) (h : RdrX w g A0 n0 c0 l0 0) (hk : n < cw) :
    Calls Tryd.prog 62 #[.slice A n c, .int .i64 cw, .int .i64 iw, .int .i64 most, failV g] w fun x w' =>
      x = .returned (.tuple #[.slice none 0 0, .slice A n c]) ∧ RdrX w' g A0 n0 c0 l0 10 ∧ w.grownBy w' (some g) := by
  have H0 := Lib.hid h
  clear h
  have hF : ∀ F, failV g = F → Hid (failV g = F) := fun _ h => h
  obtain ⟨F, hFe⟩ : ∃ F, failV g = F := ⟨_, rfl⟩
  have HF := Lib.hid hFe
  rw [hFe]
  clear hFe hF
  go_enter Tryd.func62, Tryd.ntmps62
  go_wp2_with (go_at_call 59; rw [← HF.out]; refine (split_short g A0 n0 c0 A n c cw l0 _ hk H0.out).mono ?_; rintro e w1 ⟨rfl, h1, h2⟩)
  go_ret2
  exact ⟨rfl, h1, h2⟩

-- the count is too great
set_option maxRecDepth 10000 in
set_option maxHeartbeats 1000000 in
theorem counted_2 (g : Nat) (A0 : Option Addr) (n0 c0 : Nat) (l0 : List UInt8) (A : Option Addr) (n c : Nat) (l : List UInt8) (cw iw : Nat) (most : Int) (w : World) (h : RdrX w g A0 n0 c0 l0 0) (hr : Rd w g A n l)
    (hk : cw ≤ n) (h7 : cw ≤ 7) (hc : n ≤ c) (hm : c ≤ 9223372036854775807) (hb : max most 0 < (decB (l.take cw) : Int)) :
    Calls Tryd.prog 62 #[.slice A n c, .int .i64 cw, .int .i64 iw, .int .i64 most, failV g] w fun x w' =>
      x = .returned (.tuple #[.slice none 0 0, .slice A n c]) ∧ RdrX w' g A0 n0 c0 l0 11 ∧ w.grownBy w' (some g) := by
  have H0 := Lib.hid h
  have Hr := Lib.hid (hr.take hk)
  clear h hr
  unfold failV
  obtain ⟨D, hD⟩ : ∃ D, D = decB (l.take cw) := ⟨_, rfl⟩
  rw [← hD] at hb
  have HD := Lib.hid hD.symm
  clear hD
  go_enter Tryd.func62, Tryd.ntmps62
  go_wp2_with (first
    | (go_at_call 59; refine (split_ok _ A n c cw _ hk hc hm).mono ?_; rintro e w1 ⟨A2, rfl, _, q, rfl⟩)
    | (go_at_call 61; refine (number_any A cw c (l.take cw) g _ (Hr.out.drewN _) h7).mono ?_; rintro e w' ⟨rfl, rfl⟩; rw [HD.out])
    | (go_at_call 60; refine (Fail_X g A0 n0 c0 l0 0 11 _ (H0.out.drewN _)).mono ?_; rintro e w1 ⟨rfl, h1, h2⟩; rw [failE_0] at h1))
  all_goals
    go_ret2
    exact ⟨rfl, h1, grownBy_trans (grownBy_drewN w q _) h2⟩

-- the items are short
set_option maxRecDepth 10000 in
set_option maxHeartbeats 1000000 in
theorem counted_3 (g : Nat) (A0 : Option Addr) (n0 c0 : Nat) (l0 : List UInt8) (A : Option Addr) (n c : Nat) (l : List UInt8) (cw iw : Nat) (most : Int) (w : World) (h : RdrX w g A0 n0 c0 l0 0) (hr : Rd w g A n l)
    (hk : cw ≤ n) (h7 : cw ≤ 2) (hi : iw ≤ 7) (hc : n ≤ c) (hm : c ≤ 9223372036854775807) (hb : (decB (l.take cw) : Int) ≤ max most 0) (hs : n - cw < decB (l.take cw) * iw) :
    Calls Tryd.prog 62 #[.slice A n c, .int .i64 cw, .int .i64 iw, .int .i64 most, failV g] w fun x w' =>
      x = .returned (.tuple #[.slice none 0 0, .slice A n c]) ∧ RdrX w' g A0 n0 c0 l0 10 ∧ w.grownBy w' (some g) := by
  have H0 := Lib.hid h
  have Hr := Lib.hid (hr.take hk)
  have hD1 := decB_lt (l.take cw)
  have hD2 : (256 : Nat) ^ (l.take cw).length ≤ 256 ^ 2 := Nat.pow_le_pow_right (by decide) (by rw [List.length_take]; omega)
  clear h hr
  obtain ⟨F, hFe⟩ : ∃ F, failV g = F := ⟨_, rfl⟩
  have HF := Lib.hid hFe
  rw [hFe]
  obtain ⟨D, hD⟩ : ∃ D, D = decB (l.take cw) := ⟨_, rfl⟩
  rw [← hD] at hb hs hD1
  have hD3 : D ≤ 65535 := by omega
  have hp := mul_bd hD3 hi
  have HD := Lib.hid hD.symm
  have Hs := Lib.hid hs
  have hpe : (D : Int) * (iw : Int) = ((D * iw : Nat) : Int) := by simp
  have Hp := Lib.hid hpe
  clear hD hFe hD1 hD2 hs hpe
  go_enter Tryd.func62, Tryd.ntmps62
  go_wp2_with fail
  refine (split_ok _ A n c cw _ hk hc hm).mono ?_
  rintro e w1 ⟨A2, rfl, _, q, rfl⟩
  go_wp2_with (first
    | (go_at_call 61; refine (number_any A cw c (l.take cw) g _ (Hr.out.drewN _) (by omega)).mono ?_; rintro e w' ⟨rfl, rfl⟩; rw [HD.out])
    | (go_at_call 59; rw [← HF.out]; refine (split_shortI g A0 n0 c0 A2 (n - cw) (c - cw) (D * iw) _ l0 _ Hp.out Hs.out (H0.out.drewN _)).mono ?_; rintro e w2 ⟨rfl, h1, h2⟩))
  all_goals
    go_ret2
    exact ⟨rfl, h1, grownBy_trans (grownBy_drewN w q _) h2⟩

set_option maxRecDepth 10000 in
set_option maxHeartbeats 1000000 in
theorem counted_4 (g : Nat) (F : Value) (A : Option Addr) (n c : Nat) (l : List UInt8) (cw iw : Nat) (most : Int) (w : World) (hr : Rd w g A n l)
    (hk : cw ≤ n) (h7 : cw ≤ 2) (hi : iw ≤ 7) (hc : n ≤ c) (hm : c ≤ 9223372036854775807) (hb : (decB (l.take cw) : Int) ≤ max most 0) (hs : decB (l.take cw) * iw ≤ n - cw) :
    Calls Tryd.prog 62 #[.slice A n c, .int .i64 cw, .int .i64 iw, .int .i64 most, F] w fun x w' =>
      ∃ A2 A3, x = .returned (.tuple #[.slice A2 (decB (l.take cw) * iw) (c - cw), .slice A3 (n - cw - decB (l.take cw) * iw) (c - cw - decB (l.take cw) * iw)]) ∧
      Hid (∀ (W : World) (B : Nat) (l : List UInt8), Rd W B A n l → Rd W B A2 (n - cw) (l.drop cw)) ∧
      Hid (∀ (W : World) (B : Nat) (x : List UInt8), Rd W B A2 (n - cw) x → Rd W B A3 (n - cw - decB (l.take cw) * iw) (x.drop (decB (l.take cw) * iw))) ∧ ∃ q, w' = w.drewN q := by
  have Hr := Lib.hid (hr.take hk)
  have hD1 := decB_lt (l.take cw)
  have hD2 : (256 : Nat) ^ (l.take cw).length ≤ 256 ^ 2 := Nat.pow_le_pow_right (by decide) (by rw [List.length_take]; omega)
  clear hr
  obtain ⟨D, hD⟩ : ∃ D, D = decB (l.take cw) := ⟨_, rfl⟩
  rw [← hD] at hb hs hD1 ⊢
  have hD3 : D ≤ 65535 := by omega
  have hp := mul_bd hD3 hi
  have HD := Lib.hid hD.symm
  have Hs := Lib.hid hs
  have hpe : (D : Int) * (iw : Int) = ((D * iw : Nat) : Int) := by simp
  have Hp := Lib.hid hpe
  clear hD hD1 hD2 hs hpe
  go_enter Tryd.func62, Tryd.ntmps62
  go_wp2_with fail
  refine (split_ok _ A n c cw _ hk hc hm).mono ?_
  rintro e w1 ⟨A2, rfl, hA2, q, rfl⟩
  go_wp2_with (first
    | (go_at_call 61; refine (number_any A cw c (l.take cw) g _ (Hr.out.drewN _) (by omega)).mono ?_; rintro e w' ⟨rfl, rfl⟩; rw [HD.out])
    | (go_at_call 59; refine (split_okI _ A2 (n - cw) (c - cw) (D * iw) _ _ Hp.out Hs.out (by omega) (by omega)).mono ?_; rintro e w2 ⟨A3, rfl, hA3, q2, rfl⟩))
  all_goals
    go_ret2
    exact ⟨A2, A3, rfl, hA2, hA3, q + q2, rfl⟩
end Go.Proofs.YtfabcmohaikfoaaDoor
