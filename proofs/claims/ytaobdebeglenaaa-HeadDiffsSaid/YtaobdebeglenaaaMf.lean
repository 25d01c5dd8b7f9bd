/- Contracts of package wire: split, counted, and the reader's readings. Contracts of package wire: counted. Contracts of package wire: Reader.Blob, Reader.Nums. Contracts of package wire: Reader.Nums. Contracts of the document's own reader for layer 1: Fail, take, Num. Contracts of the document's own reader for layer 1: Blob, Nums, End. Plain facts on what is read of what was written, whole and cut short. -/
import Derived.Test.YtaobdebeglenaaaMd
import Derived.Deep.RegionWith
import Derived.Deep.RegionHeld3
import Derived.Test.YtaobdebeglenaaaMa

namespace Go.Proofs.Ytaobdebeglenaaa
open Go.RowKit

/-- the method value r.Fail -/
def failV (g : Nat) : Value := .func (Fn.func 44) #[.pointer (some ⟨g, 0, none⟩)] #[]

set_option maxRecDepth 10000 in
set_option maxHeartbeats 400000 in
theorem split_ok (F : Value) (A : Option Addr) (n c k : Nat) (w : World) (hk : k ≤ n) (hc : n ≤ c) (hm : c ≤ 9223372036854775807) :
    Calls Try.prog 76 #[.slice A n c, .int .i64 k, F] w fun x w' => ∃ A2, x = .returned (.tuple #[.slice A k c, .slice A2 (n - k) (c - k), .bool true]) ∧
      Hid (∀ (W : World) (B : Nat) (l : List UInt8), Rd W B A n l → Rd W B A2 (n - k) (l.drop k)) ∧ ∃ q, w' = w.drewN q := by
  have hlt : ¬ ((n : Int) < (k : Int)) := by omega
  by_cases hck : c = k
  · subst hck
    obtain rfl : n = c := by omega
    go_enter Try.func76, Try.ntmps76
    go_wp2
    go_quiet (fail)
    go_wp2
    go_ret3
    refine ⟨A, by rw [Nat.sub_self]; rfl, fun W B l h => ?_, nq, rfl⟩
    have h2 := h.drop (k := n) (cap := n) (by omega) (by omega)
    rwa [if_pos rfl] at h2
  · go_enter Try.func76, Try.ntmps76
    go_wp2
    go_quiet (fail)
    go_wp2
    go_ret3
    refine ⟨_, rfl, fun W B l h => ?_, nq, rfl⟩
    have h2 := h.drop (k := k) (cap := c) (by omega) (by omega)
    rwa [if_neg hck] at h2

set_option maxRecDepth 10000 in
set_option maxHeartbeats 400000 in
theorem split_short (g : Nat) (A : Option Addr) (n c : Nat) (A' : Option Addr) (n' c' k : Nat) (l : List UInt8) (w : World) (hk : n' < k) (h : RdrX w g A n c l 0) :
    Calls Try.prog 76 #[.slice A' n' c', .int .i64 k, failV g] w fun x w' => x = .returned (.tuple #[.slice none 0 0, .slice A' n' c', .bool false]) ∧ RdrX w' g A n c l 10 ∧ w.grownBy w' (some g) := by
  have H0 := Lib.hid h
  clear h
  unfold failV
  go_enter Try.func76, Try.ntmps76
  go_wp2_with (go_at_call 44; refine (Fail_X g A n c l 0 10 _ H0.out).mono ?_; rintro x w1 ⟨rfl, h1, hg1⟩; rw [failE_0] at h1)
  go_ret3
  exact ⟨rfl, h1, hg1⟩

/-- what Num of a reader that has l left and the error e gives: the number, what is left, the error -/
def rdNum (l : List UInt8) (e width : Int) : Int × List UInt8 × Int :=
  if e ≠ 0 then (0, l, e) else if l.length < fitW width then (0, l, 10) else (decB (l.take (fitW width)), l.drop (fitW width), 0)

theorem keepSet {w : World} {B n g : Nat} {A : Option Addr} {l : List UInt8} (h : Rd w B A n l) (hg : B ≤ g) (q : Nat) (i : Nat) (u : Value) : Rd ((w.drewN q).setCell ⟨g, i, none⟩ u) B A n l :=
  h.keep fun p hp => World.cell?_setCell_other (w.drewN q) _ _ _ (fun e => by subst e; simp at hp; omega)

set_option maxRecDepth 10000 in
set_option maxHeartbeats 1000000 in
theorem RNum_ok (g : Nat) (l : List UInt8) (width : Int) (w : World) (h : Rdr w g l 0) (hf : fitW width ≤ l.length) :
    Calls Try.prog 42 #[.pointer (some ⟨g, 0, none⟩), .int .i64 width] w fun x w' =>
      x = .returned (.int .i64 (decB (l.take (fitW width)))) ∧ Rdr w' g (l.drop (fitW width)) 0 ∧ w.grownBy w' (some g) := by
  have H0 := Lib.hid h
  obtain ⟨A, n, c, hh, hn, hc, hr⟩ := h
  have h1 := cell_blk hh 0
  have h2 := free_blk hh 0
  simp only [List.getElem?_toArray, List.getElem?_cons_zero] at h1
  have hl := hr.1
  have hw := fitW_bd width
  obtain ⟨f, hfe⟩ : ∃ f, f = fitW width := ⟨_, rfl⟩
  rw [← hfe] at hf hw ⊢
  have hfn : f ≤ n := by omega
  have Hf := Lib.hid hfe.symm
  have Hh := Lib.hid hh
  have Hr := Lib.hid hr
  clear hh hr hl hfe hf
  go_enter Try.func42, Try.ntmps42
  go_upto_region 3 with (go_at_call 75; refine (Err_any g l _ _ H0.out).mono ?_; rintro x w' ⟨rfl, rfl⟩)
  go_cut [5, 6] (fun s5 s6 wx => ∃ A2, s5 = .slice A f c ∧ s6 = .slice A2 (n - f) (c - f) ∧ Hid (∀ (W : World) (B : Nat) (l : List UInt8), Rd W B A n l → Rd W B A2 (n - f) (l.drop f)) ∧ ∃ q, wx = w.drewN q)
  case first =>
    go_region_held3 (fun w' => w'.cell? ⟨g, 0, none⟩ = some (.slice A n c)) (go_keep) (first
      | (go_at_call 77; refine (fitWidth_any _ _).mono ?_; rintro e w' ⟨rfl, rfl⟩; rw [Hf.out])
      | (go_at_call 76; refine (split_ok _ A n c f _ hfn hn hc).mono ?_; rintro e w' ⟨A2, rfl, hA2, q, rfl⟩))
    all_goals
      go_wp2_with fail
      go_meet
      exact ⟨_, rfl, rfl, hA2, _, rfl⟩
  case rest =>
    obtain ⟨A2, rfl, rfl, hA2, q, rfl⟩ := hcut
    go_wp2_with (go_at_call 78; refine (number_any A f c (l.take f) g _ (keepSet (Hr.out.take hfn) (Nat.le_refl _) _ _ _) hw.2).mono ?_; rintro e w' ⟨rfl, rfl⟩)
    go_ret
    refine ⟨rfl, ⟨A2, n - f, c - f, set_blk (w := w.drewN q) Hh.out 0 _, by omega, by omega, keepSet (hA2.out _ _ _ Hr.out) (Nat.le_refl _) _ _ _⟩, ?_⟩
    exact grownBy_trans (grownBy_drewN w q _) (grownBy_set (w.drewN q) g 0 _)


theorem RdrX.drewN {w : World} {g n c : Nat} {A : Option Addr} {l : List UInt8} {e : Int} (h : RdrX w g A n c l e) (q : Nat) : RdrX (w.drewN q) g A n c l e := h
theorem RdrX.drew {w : World} {g n c : Nat} {A : Option Addr} {l : List UInt8} {e : Int} (h : RdrX w g A n c l e) : RdrX w.drew g A n c l e := h
theorem RdrX.cell0 {w : World} {g n c : Nat} {A : Option Addr} {l : List UInt8} {e : Int} (h : RdrX w g A n c l e) : w.cell? ⟨g, 0, none⟩ = some (.slice A n c) := by
  rw [cell_blk h.1]; rfl
theorem RdrX.free {w : World} {g n c : Nat} {A : Option Addr} {l : List UInt8} {e : Int} (h : RdrX w g A n c l e) (i : Nat) : w.frozen? ⟨g, i, none⟩ = false := free_blk h.1 i
/-- a store of what is left -/
theorem RdrX.put {w : World} {g n c n' c' : Nat} {A A' : Option Addr} {l l' : List UInt8} {e : Int} (h : RdrX w g A n c l e) (hr : Rd w g A' n' l') (hn : n' ≤ c') (hc : c' ≤ 9223372036854775807) :
    RdrX (w.setCell ⟨g, 0, none⟩ (.slice A' n' c')) g A' n' c' l' e :=
  ⟨set_blk h.1 0 _, hn, hc, hr.keep fun p hp => World.cell?_setCell_other w _ _ _ (fun e => by subst e; simp at hp)⟩

set_option maxRecDepth 10000 in
set_option maxHeartbeats 1000000 in
theorem RNum_short (g : Nat) (l : List UInt8) (width : Int) (w : World) (h : Rdr w g l 0) (hf : l.length < fitW width) :
    Calls Try.prog 42 #[.pointer (some ⟨g, 0, none⟩), .int .i64 width] w fun x w' =>
      x = .returned (.int .i64 0) ∧ Rdr w' g l 10 ∧ w.grownBy w' (some g) := by
  have H0 := Lib.hid h
  obtain ⟨A, n, c, hx⟩ := h
  have h1 := hx.cell0
  have hl := hx.2.2.2.1
  have hfn : n < fitW width := by omega
  have Hx := Lib.hid hx
  clear hx hl hf
  go_enter Try.func42, Try.ntmps42
  go_upto_region 3 with (go_at_call 75; refine (Err_any g l _ _ H0.out).mono ?_; rintro x w' ⟨rfl, rfl⟩)
  go_cut [5, 6] (fun s5 s6 wx => s5 = .slice none 0 0 ∧ s6 = .slice A n c ∧ RdrX wx g A n c l 10 ∧ w.grownBy wx (some g))
  case first =>
    go_region_held3 (fun w' => w'.cell? ⟨g, 0, none⟩ = some (.slice A n c)) (go_keep) (first
      | (go_at_call 77; refine (fitWidth_any _ _).mono ?_; rintro e w' ⟨rfl, rfl⟩)
      | (go_at_call 76; refine (split_short g A n c A n c (fitW width) l _ hfn Hx.out.drew).mono ?_; rintro e w3 ⟨rfl, h3, h4⟩; have h5 := h3.cell0; have H3 := Lib.hid h3; have H4 := Lib.hid h4; clear h3 h4))
    all_goals
      go_wp2_with fail
      go_meet
      exact ⟨rfl, rfl, H3.out, grownBy_trans (grownBy_drewN w 1 _) H4.out⟩
  case rest =>
    obtain ⟨rfl, rfl, h3, h4⟩ := hcut
    have h5 := h3.cell0
    have h6 := h3.free 0
    have H3 := Lib.hid h3
    have H4 := Lib.hid h4
    clear h3 h4
    go_wp2_with (go_at_call 78; refine (number_any none 0 0 [] g _ Rd.nil (by omega)).mono ?_; rintro e w' ⟨rfl, rfl⟩)
    go_ret
    exact ⟨rfl, ⟨A, n, c, H3.out.put H3.out.2.2.2 H3.out.2.1 H3.out.2.2.1⟩, grownBy_trans H4.out (grownBy_set _ _ _ _)⟩
set_option maxRecDepth 10000 in
set_option maxHeartbeats 400000 in
theorem RNum_err (g : Nat) (l : List UInt8) (e width : Int) (w : World) (h : Rdr w g l e) (he : e ≠ 0) :
    Calls Try.prog 42 #[.pointer (some ⟨g, 0, none⟩), .int .i64 width] w fun x w' => x = .returned (.int .i64 0) ∧ w = w' := by
  have H0 := Lib.hid h
  clear h
  have he2 : (e == 0) = false := by simpa using he
  have he3 : (e != 0) = true := by simpa using he
  go_enter Try.func42, Try.ntmps42
  go_wp2_with (go_at_call 75; refine (Err_any g l _ _ H0.out).mono ?_; rintro x w' ⟨rfl, rfl⟩)
  go_ret
  exact ⟨rfl, rfl⟩
set_option maxRecDepth 10000 in
set_option maxHeartbeats 400000 in
theorem RNum_nil (width : Int) (w : World) :
    Calls Try.prog 42 #[.pointer none, .int .i64 width] w fun x w' => x = .returned (.int .i64 0) ∧ w = w' := by
  go_enter Try.func42, Try.ntmps42
  go_wp2_with (go_at_call 75; refine (Err_nil _).mono ?_; rintro x w' ⟨rfl, rfl⟩)
  go_ret
  exact ⟨rfl, rfl⟩
/-- Num of a reader -/
theorem RNum_any (g : Nat) (l : List UInt8) (e width : Int) (w : World) (h : Rdr w g l e) :
    Calls Try.prog 42 #[.pointer (some ⟨g, 0, none⟩), .int .i64 width] w fun x w' =>
      x = .returned (.int .i64 (rdNum l e width).1) ∧ Rdr w' g (rdNum l e width).2.1 (rdNum l e width).2.2 ∧ w.grownBy w' (some g) := by
  unfold rdNum
  by_cases he : e = 0
  · subst he
    rw [if_neg (by simp)]
    by_cases hf : l.length < fitW width
    · rw [if_pos hf]; exact RNum_short g l width w h hf
    · rw [if_neg hf]; exact RNum_ok g l width w h (by omega)
  · rw [if_pos he]
    exact (RNum_err g l e width w h he).mono fun _ _ ⟨a, b⟩ => ⟨a, b ▸ h, b ▸ World.grownBy.refl _ _⟩
end Go.Proofs.Ytaobdebeglenaaa

namespace Go.Proofs.Ytaobdebeglenaaa
open Go.RowKit

theorem split_okI (F : Value) (A : Option Addr) (n c k : Nat) (x : Int) (w : World) (hx : x = (k : Int)) (hk : k ≤ n) (hc : n ≤ c) (hm : c ≤ 9223372036854775807) :
    Calls Try.prog 76 #[.slice A n c, .int .i64 x, F] w fun x w' => ∃ A2, x = .returned (.tuple #[.slice A k c, .slice A2 (n - k) (c - k), .bool true]) ∧
      Hid (∀ (W : World) (B : Nat) (l : List UInt8), Rd W B A n l → Rd W B A2 (n - k) (l.drop k)) ∧ ∃ q, w' = w.drewN q := by
  subst hx; exact split_ok F A n c k w hk hc hm
theorem split_shortI (g : Nat) (A : Option Addr) (n c : Nat) (A' : Option Addr) (n' c' k : Nat) (x : Int) (l : List UInt8) (w : World) (hx : x = (k : Int)) (hk : n' < k) (h : RdrX w g A n c l 0) :
    Calls Try.prog 76 #[.slice A' n' c', .int .i64 x, failV g] w fun x w' => x = .returned (.tuple #[.slice none 0 0, .slice A' n' c', .bool false]) ∧ RdrX w' g A n c l 10 ∧ w.grownBy w' (some g) := by
  subst hx; exact split_short g A n c A' n' c' k l w hk h

/-- what counted says: the error, or how many bytes the items have -/
def cntE (l : List UInt8) (cw iw : Nat) (most : Int) : Int :=
  if l.length < cw then 10 else if max most 0 < (decB (l.take cw) : Int) then 11 else if l.length - cw < decB (l.take cw) * iw then 10 else 0

-- the first count is short
set_option maxRecDepth 10000 in
set_option maxHeartbeats 1000000 in
theorem counted_1 (g : Nat) (A0 : Option Addr) (n0 c0 : Nat) (l0 : List UInt8) (A : Option Addr) (n c : Nat) (cw iw : Nat) (most : Int) (w : World) (h : RdrX w g A0 n0 c0 l0 0) (hk : n < cw) :
    Calls Try.prog 79 #[.slice A n c, .int .i64 cw, .int .i64 iw, .int .i64 most, failV g] w fun x w' =>
      x = .returned (.tuple #[.slice none 0 0, .slice A n c]) ∧ RdrX w' g A0 n0 c0 l0 10 ∧ w.grownBy w' (some g) := by
  have H0 := Lib.hid h
  clear h
  have hF : ∀ F, failV g = F → Hid (failV g = F) := fun _ h => h
  obtain ⟨F, hFe⟩ : ∃ F, failV g = F := ⟨_, rfl⟩
  have HF := Lib.hid hFe
  rw [hFe]
  clear hFe hF
  go_enter Try.func79, Try.ntmps79
  go_wp2_with (go_at_call 76; rw [← HF.out]; refine (split_short g A0 n0 c0 A n c cw l0 _ hk H0.out).mono ?_; rintro e w1 ⟨rfl, h1, h2⟩)
  go_ret2
  exact ⟨rfl, h1, h2⟩

-- the count is too great
set_option maxRecDepth 10000 in
set_option maxHeartbeats 1000000 in
theorem counted_2 (g : Nat) (A0 : Option Addr) (n0 c0 : Nat) (l0 : List UInt8) (A : Option Addr) (n c : Nat) (l : List UInt8) (cw iw : Nat) (most : Int) (w : World) (h : RdrX w g A0 n0 c0 l0 0) (hr : Rd w g A n l)
    (hk : cw ≤ n) (h7 : cw ≤ 7) (hc : n ≤ c) (hm : c ≤ 9223372036854775807) (hb : max most 0 < (decB (l.take cw) : Int)) :
    Calls Try.prog 79 #[.slice A n c, .int .i64 cw, .int .i64 iw, .int .i64 most, failV g] w fun x w' =>
      x = .returned (.tuple #[.slice none 0 0, .slice A n c]) ∧ RdrX w' g A0 n0 c0 l0 11 ∧ w.grownBy w' (some g) := by
  have H0 := Lib.hid h
  have Hr := Lib.hid (hr.take hk)
  clear h hr
  unfold failV
  obtain ⟨D, hD⟩ : ∃ D, D = decB (l.take cw) := ⟨_, rfl⟩
  rw [← hD] at hb
  have HD := Lib.hid hD.symm
  clear hD
  go_enter Try.func79, Try.ntmps79
  go_wp2_with (first
    | (go_at_call 76; refine (split_ok _ A n c cw _ hk hc hm).mono ?_; rintro e w1 ⟨A2, rfl, _, q, rfl⟩)
    | (go_at_call 78; refine (number_any A cw c (l.take cw) g _ (Hr.out.drewN _) h7).mono ?_; rintro e w' ⟨rfl, rfl⟩; rw [HD.out])
    | (go_at_call 44; refine (Fail_X g A0 n0 c0 l0 0 11 _ (H0.out.drewN _)).mono ?_; rintro e w1 ⟨rfl, h1, h2⟩; rw [failE_0] at h1))
  all_goals
    go_ret2
    exact ⟨rfl, h1, grownBy_trans (grownBy_drewN w q _) h2⟩

-- the items are short
set_option maxRecDepth 10000 in
set_option maxHeartbeats 1000000 in
theorem counted_3 (g : Nat) (A0 : Option Addr) (n0 c0 : Nat) (l0 : List UInt8) (A : Option Addr) (n c : Nat) (l : List UInt8) (cw iw : Nat) (most : Int) (w : World) (h : RdrX w g A0 n0 c0 l0 0) (hr : Rd w g A n l)
    (hk : cw ≤ n) (h7 : cw ≤ 2) (hi : iw ≤ 7) (hc : n ≤ c) (hm : c ≤ 9223372036854775807) (hb : (decB (l.take cw) : Int) ≤ max most 0) (hs : n - cw < decB (l.take cw) * iw) :
    Calls Try.prog 79 #[.slice A n c, .int .i64 cw, .int .i64 iw, .int .i64 most, failV g] w fun x w' =>
      x = .returned (.tuple #[.slice none 0 0, .slice A n c]) ∧ RdrX w' g A0 n0 c0 l0 10 ∧ w.grownBy w' (some g) := by
  have H0 := Lib.hid h
  have Hr := Lib.hid (hr.take hk)
  have hD1 := decB_lt (l.take cw)
  have hD2 : (256 : Nat) ^ (l.take cw).length ≤ 256 ^ 2 := Nat.pow_le_pow_right (by decide) (by rw [List.length_take]; omega)
  clear h hr
  obtain ⟨F, hFe⟩ : ∃ F, failV g = F := ⟨_, rfl⟩
  have HF := Lib.hid hFe
  rw [hFe]
  obtain ⟨D, hD⟩ : ∃ D, D = decB (l.take cw) := ⟨_, rfl⟩
  rw [← hD] at hb hs hD1
  have hD3 : D ≤ 65535 := by omega
  have hp := mul_bd hD3 hi
  have HD := Lib.hid hD.symm
  have Hs := Lib.hid hs
  have hpe : (D : Int) * (iw : Int) = ((D * iw : Nat) : Int) := by simp
  have Hp := Lib.hid hpe
  clear hD hFe hD1 hD2 hs hpe
  go_enter Try.func79, Try.ntmps79
  go_wp2_with fail
  refine (split_ok _ A n c cw _ hk hc hm).mono ?_
  rintro e w1 ⟨A2, rfl, _, q, rfl⟩
  go_wp2_with (first
    | (go_at_call 78; refine (number_any A cw c (l.take cw) g _ (Hr.out.drewN _) (by omega)).mono ?_; rintro e w' ⟨rfl, rfl⟩; rw [HD.out])
    | (go_at_call 76; rw [← HF.out]; refine (split_shortI g A0 n0 c0 A2 (n - cw) (c - cw) (D * iw) _ l0 _ Hp.out Hs.out (H0.out.drewN _)).mono ?_; rintro e w2 ⟨rfl, h1, h2⟩))
  all_goals
    go_ret2
    exact ⟨rfl, h1, grownBy_trans (grownBy_drewN w q _) h2⟩

set_option maxRecDepth 10000 in
set_option maxHeartbeats 1000000 in
theorem counted_4 (g : Nat) (F : Value) (A : Option Addr) (n c : Nat) (l : List UInt8) (cw iw : Nat) (most : Int) (w : World) (hr : Rd w g A n l)
    (hk : cw ≤ n) (h7 : cw ≤ 2) (hi : iw ≤ 7) (hc : n ≤ c) (hm : c ≤ 9223372036854775807) (hb : (decB (l.take cw) : Int) ≤ max most 0) (hs : decB (l.take cw) * iw ≤ n - cw) :
    Calls Try.prog 79 #[.slice A n c, .int .i64 cw, .int .i64 iw, .int .i64 most, F] w fun x w' =>
      ∃ A2 A3, x = .returned (.tuple #[.slice A2 (decB (l.take cw) * iw) (c - cw), .slice A3 (n - cw - decB (l.take cw) * iw) (c - cw - decB (l.take cw) * iw)]) ∧
      Hid (∀ (W : World) (B : Nat) (l : List UInt8), Rd W B A n l → Rd W B A2 (n - cw) (l.drop cw)) ∧
      Hid (∀ (W : World) (B : Nat) (x : List UInt8), Rd W B A2 (n - cw) x → Rd W B A3 (n - cw - decB (l.take cw) * iw) (x.drop (decB (l.take cw) * iw))) ∧ ∃ q, w' = w.drewN q := by
  have Hr := Lib.hid (hr.take hk)
  have hD1 := decB_lt (l.take cw)
  have hD2 : (256 : Nat) ^ (l.take cw).length ≤ 256 ^ 2 := Nat.pow_le_pow_right (by decide) (by rw [List.length_take]; omega)
  clear hr
  obtain ⟨D, hD⟩ : ∃ D, D = decB (l.take cw) := ⟨_, rfl⟩
  rw [← hD] at hb hs hD1 ⊢
  have hD3 : D ≤ 65535 := by omega
  have hp := mul_bd hD3 hi
  have HD := Lib.hid hD.symm
  have Hs := Lib.hid hs
  have hpe : (D : Int) * (iw : Int) = ((D * iw : Nat) : Int) := by simp
  have Hp := Lib.hid hpe
  clear hD hD1 hD2 hs hpe
  go_enter Try.func79, Try.ntmps79
  go_wp2_with fail
  refine (split_ok _ A n c cw _ hk hc hm).mono ?_
  rintro e w1 ⟨A2, rfl, hA2, q, rfl⟩
  go_wp2_with (first
    | (go_at_call 78; refine (number_any A cw c (l.take cw) g _ (Hr.out.drewN _) (by omega)).mono ?_; rintro e w' ⟨rfl, rfl⟩; rw [HD.out])
    | (go_at_call 76; refine (split_okI _ A2 (n - cw) (c - cw) (D * iw) _ _ Hp.out Hs.out (by omega) (by omega)).mono ?_; rintro e w2 ⟨A3, rfl, hA3, q2, rfl⟩))
  all_goals
    go_ret2
    exact ⟨A2, A3, rfl, hA2, hA3, q + q2, rfl⟩
end Go.Proofs.Ytaobdebeglenaaa

namespace Go.Proofs.Ytaobdebeglenaaa
open Go.RowKit

/-- what Blob of a reader gives: the bytes, what is left, the error -/
def rdBlob (l : List UInt8) (e most : Int) : List UInt8 × List UInt8 × Int :=
  if e ≠ 0 then ([], l, e) else if cntE l 2 1 most ≠ 0 then ([], l, cntE l 2 1 most) else ((l.drop 2).take (decB (l.take 2)), l.drop (2 + decB (l.take 2)), 0)

/-- a slice result in new memory that reads as l, beside a reader -/
def OutG (w : World) (g : Nat) (l : List UInt8) (e : Ending) (w' : World) : Prop :=
  ∃ A c, e = .returned (.slice A l.length c) ∧ l.length ≤ c ∧ c ≤ maxLen ∧ Rd w' w'.heap.size A l.length l ∧ w.grownBy w' (some g)

theorem ownRd {w : World} {base n c : Nat} {A : Option Addr} {l : List UInt8} (h : w.ownsRow base 5 1 (.slice A n c) n (l.map bv)) : Rd w w.heap.size A n l := Rd.own h

theorem size_set (w : World) (a : Addr) (v : Value) : (w.setCell a v).heap.size = w.heap.size := by simp [World.setCell]
theorem RdrX.below {w w' : World} {g n c : Nat} {A : Option Addr} {l : List UInt8} {e : Int} (h : RdrX w g A n c l e) (hb : Below w.heap.size w w') : RdrX w' g A n c l e := by
  have hg : g < w.heap.size := lt_of_block h.1
  exact ⟨(hb.block g hg).trans h.1, h.2.1, h.2.2.1, h.2.2.2.keep fun p hp => hb.cell (Nat.lt_trans hp hg)⟩
theorem Rdr.below {w w' : World} {g : Nat} {l : List UInt8} {e : Int} (h : Rdr w g l e) (hb : Below w.heap.size w w') : Rdr w' g l e := by
  obtain ⟨A, n, c, h⟩ := h
  exact ⟨A, n, c, h.below hb⟩
theorem outG_of {w w1 w2 : World} {g base : Nat} {A : Option Addr} {c : Nat} {l : List UInt8} (h : w2.ownsRow base 5 1 (.slice A l.length c) l.length (l.map bv)) (hb : Below w1.heap.size w1 w2) (hg : w.grownBy w1 (some g)) :
    OutG w g l (.returned (.slice A l.length c)) w2 := by
  obtain ⟨_, _, hq, hnc, hcm⟩ := ownsRow_form h
  injection hq with hq1 hq2 hq3
  subst hq3
  exact ⟨A, c, rfl, hnc, hcm, ownRd h, grownBy_trans hg (grownBy_below hb _)⟩

set_option maxRecDepth 10000 in
set_option maxHeartbeats 1000000 in
theorem RBlob_err (g : Nat) (l : List UInt8) (e most : Int) (w : World) (h : Rdr w g l e) (he : e ≠ 0) :
    Calls Try.prog 43 #[.pointer (some ⟨g, 0, none⟩), .int .i64 most] w fun x w' => x = .returned (.slice none 0 0) ∧ w = w' := by
  have H0 := Lib.hid h
  clear h
  have he2 : (e == 0) = false := by simpa using he
  have he3 : (e != 0) = true := by simpa using he
  go_enter Try.func43, Try.ntmps43
  go_wp2_with (go_at_call 75; refine (Err_any g l _ _ H0.out).mono ?_; rintro x w' ⟨rfl, rfl⟩)
  go_ret
  exact ⟨rfl, rfl⟩
set_option maxRecDepth 10000 in
set_option maxHeartbeats 1000000 in
theorem RBlob_nil (most : Int) (w : World) :
    Calls Try.prog 43 #[.pointer none, .int .i64 most] w fun x w' => x = .returned (.slice none 0 0) ∧ w = w' := by
  go_enter Try.func43, Try.ntmps43
  go_wp2_with (go_at_call 75; refine (Err_nil _).mono ?_; rintro x w' ⟨rfl, rfl⟩)
  go_ret
  exact ⟨rfl, rfl⟩

/-- counted that fails, whatever the reason -/
theorem counted_bad (g : Nat) (A : Option Addr) (n c : Nat) (l : List UInt8) (cw iw : Nat) (most : Int) (w : World) (h : RdrX w g A n c l 0) (h7 : cw ≤ 2) (hi : iw ≤ 7) (hE : cntE l cw iw most ≠ 0) :
    Calls Try.prog 79 #[.slice A n c, .int .i64 cw, .int .i64 iw, .int .i64 most, failV g] w fun x w' =>
      x = .returned (.tuple #[.slice none 0 0, .slice A n c]) ∧ RdrX w' g A n c l (cntE l cw iw most) ∧ w.grownBy w' (some g) := by
  have hl := h.2.2.2.1
  unfold cntE at hE ⊢
  by_cases h1 : l.length < cw
  · rw [if_pos h1]; exact counted_1 g A n c l A n c cw iw most w h (by omega)
  · rw [if_neg h1] at hE ⊢
    by_cases h2 : max most 0 < (decB (l.take cw) : Int)
    · rw [if_pos h2]; exact counted_2 g A n c l A n c l cw iw most w h h.2.2.2 (by omega) (by omega) h.2.1 h.2.2.1 h2
    · rw [if_neg h2] at hE ⊢
      by_cases h3 : l.length - cw < decB (l.take cw) * iw
      · rw [if_pos h3]; exact counted_3 g A n c l A n c l cw iw most w h h.2.2.2 (by omega) h7 hi h.2.1 h.2.2.1 (by omega) (by omega)
      · rw [if_neg h3] at hE; exact absurd rfl hE

set_option maxRecDepth 10000 in
set_option maxHeartbeats 1000000 in
theorem RBlob_bad (g : Nat) (l : List UInt8) (most : Int) (w : World) (h : Rdr w g l 0) (hE : cntE l 2 1 most ≠ 0) :
    Calls Try.prog 43 #[.pointer (some ⟨g, 0, none⟩), .int .i64 most] w fun x w' => OutG w g [] x w' ∧ Rdr w' g l (cntE l 2 1 most) := by
  have H0 := Lib.hid h
  obtain ⟨A, n, c, hx⟩ := h
  have h1 := hx.cell0
  have HE := Lib.hid hE
  have Hx := Lib.hid hx
  clear hx hE
  go_enter Try.func43, Try.ntmps43
  go_wp2_with (first
    | (go_at_call 75; refine (Err_any g l _ _ H0.out).mono ?_; rintro x w' ⟨rfl, rfl⟩)
    | (go_at_call 79; refine (counted_bad g A n c l 2 1 most _ Hx.out (by omega) (by omega) HE.out).mono ?_; rintro e w3 ⟨rfl, h3, h4⟩; have h5 := h3.cell0; have h6 := h3.free 0; have H3 := Lib.hid h3; have H4 := Lib.hid h4; clear h3 h4)
    | (go_at_call 72; refine (extend_any none 0 0 [] 0 _ Rd.nil (by omega) (by omega) (by omega)).mono ?_; rintro e w5 ⟨c5, rfl, hown5, hb5⟩))
  go_ret
  have h7 : RdrX (w3.setCell ⟨g, 0, none⟩ (.slice A n c)) g A n c l (cntE l 2 1 most) := H3.out.put H3.out.2.2.2 H3.out.2.1 H3.out.2.2.1
  rw [size_set] at hown5
  exact ⟨outG_of (l := []) hown5 hb5 (grownBy_trans H4.out (grownBy_set _ _ _ _)), ⟨A, n, c, h7.below hb5⟩⟩

theorem cntE_0 {l : List UInt8} {cw iw : Nat} {most : Int} (h : cntE l cw iw most = 0) : cw ≤ l.length ∧ (decB (l.take cw) : Int) ≤ max most 0 ∧ decB (l.take cw) * iw ≤ l.length - cw := by
  unfold cntE at h
  split at h
  · simp at h
  · split at h
    · simp at h
    · split at h
      · simp at h
      · omega

set_option maxRecDepth 10000 in
set_option maxHeartbeats 1000000 in
theorem RBlob_ok (g : Nat) (l : List UInt8) (most : Int) (w : World) (h : Rdr w g l 0) (hE : cntE l 2 1 most = 0) :
    Calls Try.prog 43 #[.pointer (some ⟨g, 0, none⟩), .int .i64 most] w fun x w' => OutG w g ((l.drop 2).take (decB (l.take 2))) x w' ∧ Rdr w' g (l.drop (2 + decB (l.take 2))) 0 := by
  have H0 := Lib.hid h
  obtain ⟨A, n, c, hx⟩ := h
  obtain ⟨k1, k2, k3⟩ := cntE_0 hE
  have hl := hx.2.2.2.1
  have hD1 := decB_lt (l.take 2)
  have hD2 : (256 : Nat) ^ (l.take 2).length ≤ 256 ^ 2 := Nat.pow_le_pow_right (by decide) (by rw [List.length_take]; omega)
  have hcnt := fun W (hr : Rd W g A n l) => counted_4 g (failV g) A n c l 2 1 most W hr (by omega) (by omega) (by omega) hx.2.1 hx.2.2.1 k2 (by omega)
  simp only [Nat.mul_one] at hcnt k3
  obtain ⟨D, hD⟩ : ∃ D, D = decB (l.take 2) := ⟨_, rfl⟩
  rw [← hD] at k2 k3 hD1 ⊢
  rw [← hD] at hcnt
  have hDn : D ≤ 65535 := by omega
  have hD4 : D ≤ n - 2 := by omega
  have hn2 : 2 ≤ n := by omega
  have hnc := hx.2.1
  have hcm := hx.2.2.1
  have h1 := hx.cell0
  have h2 := hx.free 0
  have Hx := Lib.hid hx
  have Hc := Lib.hid hcnt
  have hlen : ((l.drop 2).take D).length = D := by rw [List.length_take, List.length_drop]; omega
  have Hlen := Lib.hid hlen
  clear hx hE hl hD1 hD2 hcnt hD k1 k2 k3 hlen
  go_enter Try.func43, Try.ntmps43
  go_wp2_with (first
    | (go_at_call 75; refine (Err_any g l _ _ H0.out).mono ?_; rintro x w' ⟨rfl, rfl⟩)
    | (go_at_call 79; refine (Hc.out _ Hx.out.2.2.2).mono ?_; rintro e w3 ⟨A2, A3, rfl, hA2, hA3, q, rfl⟩)
    | (go_at_call 72; refine (extend_any A2 D (c - 2) ((l.drop 2).take D) 0 _ ((keepSet ((hA2.out _ _ _ Hx.out.2.2.2).take hD4) (Nat.le_refl _) _ _ _).more (by simp; exact Nat.le_of_lt (lt_of_block Hx.out.1))) (by omega) (by omega) (by omega)).mono ?_; rintro e w5 ⟨c5, rfl, hown5, hb5⟩))
  go_ret
  have h7 : RdrX ((w.drewN q).setCell ⟨g, 0, none⟩ (.slice A3 (n - 2 - D) (c - 2 - D))) g A3 (n - 2 - D) (c - 2 - D) ((l.drop 2).drop D) 0 :=
    (Hx.out.drewN q).put (hA3.out _ _ _ (hA2.out _ _ _ (Hx.out.2.2.2.drewN q))) (by omega) (by omega)
  rw [List.drop_drop] at h7
  rw [size_set] at hown5
  have hfin := outG_of (l := (l.drop 2).take D) (by rw [Hlen.out]; exact hown5) hb5 (grownBy_trans (grownBy_drewN w q _) (grownBy_set _ g 0 _))
  rw [Hlen.out] at hfin
  exact ⟨hfin, ⟨_, _, _, h7.below hb5⟩⟩

/-- Blob of a reader -/
theorem RBlob_any (g : Nat) (l : List UInt8) (e most : Int) (w : World) (h : Rdr w g l e) :
    Calls Try.prog 43 #[.pointer (some ⟨g, 0, none⟩), .int .i64 most] w fun x w' =>
      OutG w g (rdBlob l e most).1 x w' ∧ Rdr w' g (rdBlob l e most).2.1 (rdBlob l e most).2.2 := by
  unfold rdBlob
  by_cases he : e = 0
  · subst he
    rw [if_neg (by simp)]
    by_cases hE : cntE l 2 1 most = 0
    · rw [if_neg (by simp [hE])]; exact RBlob_ok g l most w h hE
    · rw [if_pos hE]; exact RBlob_bad g l most w h hE
  · rw [if_pos he]
    refine (RBlob_err g l e most w h he).mono ?_
    rintro x w' ⟨rfl, rfl⟩
    exact ⟨⟨none, 0, rfl, Nat.le_refl _, by simp [maxLen], Rd.nil, World.grownBy.refl _ _⟩, h⟩
end Go.Proofs.Ytaobdebeglenaaa

namespace Go.Proofs.Ytaobdebeglenaaa
open Go.RowKit

/-- the numbers that lie one behind the other in bytes, f bytes each -/
def chunks (f D : Nat) (b : List UInt8) : List Int := (List.range D).map fun i => (decB ((b.drop (i * f)).take f) : Int)
theorem chunks_length (f D : Nat) (b : List UInt8) : (chunks f D b).length = D := by simp [chunks]
theorem chunks_succ (f D : Nat) (b : List UInt8) : chunks f (D + 1) b = chunks f D b ++ [(decB ((b.drop (D * f)).take f) : Int)] := by simp [chunks, List.range_succ]

/-- what Nums of a reader gives: the numbers, what is left, the error -/
def rdNums (l : List UInt8) (e width most : Int) : List Int × List UInt8 × Int :=
  if e ≠ 0 then ([], l, e) else if cntE l 1 (fitW width) most ≠ 0 then ([], l, cntE l 1 (fitW width) most)
  else (chunks (fitW width) (decB (l.take 1)) (l.drop 1), l.drop (1 + decB (l.take 1) * fitW width), 0)

/-- a slice of ints in new memory, beside a reader -/
def OutIW (w : World) (g : Nat) (l : List Int) (e : Ending) (w' : World) : Prop :=
  ∃ A c, e = .returned (.slice A l.length c) ∧ l.length ≤ c ∧ c ≤ maxLen ∧ RdI w' w'.heap.size A l.length l ∧ w.grownBy w' (some g)
theorem OutIW.nil {w w' : World} {g : Nat} (h : w.grownBy w' (some g)) : OutIW w g [] (.returned (.slice none 0 0)) w' := ⟨none, 0, rfl, Nat.le_refl _, by simp [maxLen], RdI.nil, h⟩

theorem Try.infoIW : (Try.prog.info? 3).map (fun i => (i.zero, i.size, i.bytes)) = some (some (.int .i64 0), 1, 8) := by kernel_rfl

end Go.Proofs.Ytaobdebeglenaaa

namespace Go.Proofs.Ytaobdebeglenaaa
open Go.RowKit

/-- Block h of world w is the document's reader that has l left and the error e; what it has left lies below B. -/
def RefX (w : World) (h B : Nat) (A : Option Addr) (n c : Nat) (l : List UInt8) (e : Int) : Prop :=
  w.heap[h]? = some (.cells #[.slice A n c, .int .i64 e] 69 (0, 0)) ∧ n ≤ c ∧ c ≤ 9223372036854775807 ∧ Rd w B A n l ∧ B ≤ h
def Ref (w : World) (h B : Nat) (l : List UInt8) (e : Int) : Prop := ∃ A n c, RefX w h B A n c l e
/-- what such a reader has left -/
def clr (l : List UInt8) (e : Int) : List UInt8 := if e = 0 then l else []
theorem clr_0 (l : List UInt8) : clr l 0 = l := by simp [clr]
theorem clr_n (l : List UInt8) {e : Int} (h : e ≠ 0) : clr l e = [] := by simp [clr, h]

theorem RefX.cell0 {w : World} {h B n c : Nat} {A : Option Addr} {l : List UInt8} {e : Int} (k : RefX w h B A n c l e) : w.cell? ⟨h, 0, none⟩ = some (.slice A n c) := by
  rw [cell_blk k.1]; rfl
theorem RefX.cell1 {w : World} {h B n c : Nat} {A : Option Addr} {l : List UInt8} {e : Int} (k : RefX w h B A n c l e) : w.cell? ⟨h, 1, none⟩ = some (.int .i64 e) := by
  rw [cell_blk k.1]; rfl
theorem RefX.free {w : World} {h B n c : Nat} {A : Option Addr} {l : List UInt8} {e : Int} (k : RefX w h B A n c l e) (i : Nat) : w.frozen? ⟨h, i, none⟩ = false := free_blk k.1 i
theorem setB {w : World} {B h n : Nat} {A : Option Addr} {l : List UInt8} (hr : Rd w B A n l) (hB : B ≤ h) (i : Nat) (u : Value) : Rd (w.setCell ⟨h, i, none⟩ u) B A n l :=
  hr.keep fun p hp => World.cell?_setCell_other w _ _ _ (fun e => by subst e; simp at hp; omega)
/-- a store of what is left -/
theorem RefX.put {w : World} {h B n c n' c' : Nat} {A A' : Option Addr} {l l' : List UInt8} {e : Int} (k : RefX w h B A n c l e) (hr : Rd w B A' n' l') (hn : n' ≤ c') (hc : c' ≤ 9223372036854775807) :
    RefX (w.setCell ⟨h, 0, none⟩ (.slice A' n' c')) h B A' n' c' l' e :=
  ⟨set_blk k.1 0 _, hn, hc, setB hr k.2.2.2.2 _ _, k.2.2.2.2⟩
theorem RefX.putE {w : World} {h B n c : Nat} {A : Option Addr} {l : List UInt8} {e : Int} (k : RefX w h B A n c l e) (x : Int) :
    RefX (w.setCell ⟨h, 1, none⟩ (.int .i64 x)) h B A n c l x :=
  ⟨set_blk k.1 1 _, k.2.1, k.2.2.1, setB k.2.2.2.1 k.2.2.2.2 _ _, k.2.2.2.2⟩

set_option maxRecDepth 10000 in
set_option maxHeartbeats 1000000 in
theorem RefFail_any (h B : Nat) (l : List UInt8) (e x : Int) (w : World) (H : Ref w h B (clr l e) e) :
    Calls Try.prog 48 #[.pointer (some ⟨h, 0, none⟩), .int .i64 x] w fun r w' => r = .returned (.tuple #[]) ∧ Ref w' h B (clr l (failE e x)) (failE e x) ∧ w.grownBy w' (some h) := by
  obtain ⟨A, n, c, hx⟩ := H
  have h0 := hx.cell0
  have h1 := hx.cell1
  have h2 := hx.free 1
  have h3 := hx.free 0
  have H0 := Lib.hid hx
  clear hx
  by_cases he : e = 0
  · subst he
    by_cases hxx : x = 0
    · subst hxx
      go_enter Try.func48, Try.ntmps48
      go_wp2
      go_end0
      exact ⟨rfl, ⟨A, n, c, H0.out⟩, World.grownBy.refl _ _⟩
    · have hx2 : (x == 0) = false := by simpa using hxx
      have hx3 : (x != 0) = true := by simpa using hxx
      have hH := Lib.hid (show failE 0 x = x ∧ clr l x = [] from ⟨failE_0 x, clr_n l hxx⟩)
      clear hxx
      go_enter Try.func48, Try.ntmps48
      go_wp2
      go_end0
      rw [hH.out.1, hH.out.2]
      exact ⟨rfl, ⟨none, 0, 0, (H0.out.putE x).put Rd.nil (Nat.le_refl _) (by omega)⟩, grownBy_trans (grownBy_set _ _ _ _) (grownBy_set _ _ _ _)⟩
  · have he2 : (e == 0) = false := by simpa using he
    have he3 : (e != 0) = true := by simpa using he
    go_enter Try.func48, Try.ntmps48
    go_wp2
    go_end0
    rw [failE_n he]
    exact ⟨rfl, ⟨A, n, c, H0.out⟩, World.grownBy.refl _ _⟩

/-- what take gives, what is left, the error -/
def tkQ (l : List UInt8) (e : Int) (k : Nat) : List UInt8 := if e = 0 ∧ k ≤ l.length then l.take k else []
def tkL (l : List UInt8) (e : Int) (k : Nat) : List UInt8 := if e = 0 ∧ k ≤ l.length then l.drop k else l
def tkE (l : List UInt8) (e : Int) (k : Nat) : Int := if e = 0 ∧ ¬ k ≤ l.length then 10 else e

/-- a slice that reads as q below B, beside the document's reader -/
def OutB (w : World) (h B : Nat) (q : List UInt8) (r : Ending) (w' : World) : Prop :=
  ∃ A c, r = .returned (.slice A q.length c) ∧ q.length ≤ c ∧ c ≤ 9223372036854775807 ∧ Rd w' B A q.length q ∧ w.grownBy w' (some h)

set_option maxRecDepth 10000 in
set_option maxHeartbeats 1000000 in
theorem take_any (h B : Nat) (l : List UInt8) (e : Int) (k : Nat) (w : World) (H : Ref w h B (clr l e) e) :
    Calls Try.prog 81 #[.pointer (some ⟨h, 0, none⟩), .int .i64 k] w fun r w' => OutB w h B (tkQ l e k) r w' ∧ Ref w' h B (clr (tkL l e k) (tkE l e k)) (tkE l e k) := by
  by_cases he : e = 0
  · subst he
    rw [clr_0] at H
    have HH := Lib.hid H
    obtain ⟨A, n, c, hx⟩ := H
    have h0 := hx.cell0
    have h1 := hx.cell1
    have h3 := hx.free 0
    have hl := hx.2.2.2.1.1
    have hnc := hx.2.1
    have hcm := hx.2.2.1
    have H0 := Lib.hid hx
    clear hx
    by_cases hk : k ≤ l.length
    · have hQ : tkQ l 0 k = l.take k := by simp [tkQ, hk]
      have hL : tkL l 0 k = l.drop k := by simp [tkL, hk]
      have hE : tkE l 0 k = 0 := by simp [tkE, hk]
      rw [hQ, hL, hE, clr_0]
      have hkn : k ≤ n := by omega
      have hqk : Hid ((l.take k).length = k) := by show _ = _; rw [List.length_take]; omega
      clear hQ hL hE hl hk
      by_cases hck : c = k
      · subst hck
        obtain rfl : n = c := by omega
        go_enter Try.func81, Try.ntmps81
        go_wp2
        go_ret
        have h5 := H0.out.2.2.2.1.drop (k := n) (cap := n) (by omega) (by omega)
        rw [if_pos rfl] at h5
        have h6 := H0.out.2.2.2.1.take (k := n) (by omega)
        refine ⟨⟨A, n, by rw [hqk.out]; rfl, by rw [hqk.out]; exact Nat.le_refl _, by omega, by rw [hqk.out]; exact setB h6 H0.out.2.2.2.2 _ _, grownBy_set _ _ _ _⟩, ⟨A, n - n, n - n, ?_⟩⟩
        have h7 := H0.out.put h5 (Nat.le_refl _) (by omega)
        rw [Nat.sub_self] at h7 ⊢
        exact h7
      · go_enter Try.func81, Try.ntmps81
        go_wp2
        go_ret
        have h5 := H0.out.2.2.2.1.drop (k := k) (cap := c) (by omega) (by omega)
        rw [if_neg hck] at h5
        have h6 := H0.out.2.2.2.1.take (k := k) (by omega)
        exact ⟨⟨A, c, by rw [hqk.out]; rfl, by rw [hqk.out]; omega, by omega, by rw [hqk.out]; exact setB h6 H0.out.2.2.2.2 _ _, grownBy_set _ _ _ _⟩, ⟨_, _, _, H0.out.put h5 (by omega) (by omega)⟩⟩
    · have hQ : tkQ l 0 k = [] := by simp [tkQ, hk]
      have hL : tkL l 0 k = l := by simp [tkL, hk]
      have hE : tkE l 0 k = 10 := by simp [tkE, hk]
      rw [hQ, hL, hE]
      have hkn : n < k := by omega
      clear hQ hL hE hl hk
      go_enter Try.func81, Try.ntmps81
      go_wp2_with (go_at_call 48; refine (RefFail_any h B l 0 10 _ (by rw [clr_0]; exact HH.out)).mono ?_; rintro r w1 ⟨rfl, h5, h6⟩; rw [failE_0] at h5)
      go_ret
      exact ⟨⟨none, 0, rfl, Nat.le_refl _, by omega, Rd.nil, h6⟩, h5⟩
  · have hQ : tkQ l e k = [] := by simp [tkQ, he]
    have hL : tkL l e k = l := by simp [tkL, he]
    have hE : tkE l e k = e := by simp [tkE, he]
    rw [hQ, hL, hE]
    obtain ⟨A, n, c, hx⟩ := H
    have h1 := hx.cell1
    have H0 := Lib.hid hx
    have he2 : (e == 0) = false := by simpa using he
    have he3 : (e != 0) = true := by simpa using he
    clear hQ hL hE hx
    go_enter Try.func81, Try.ntmps81
    go_wp2
    go_ret
    exact ⟨⟨none, 0, rfl, Nat.le_refl _, by omega, Rd.nil, World.grownBy.refl _ _⟩, ⟨A, n, c, H0.out⟩⟩

/-- Num of a reader, told by take -/
theorem rdNum_tk (l : List UInt8) (e width : Int) : rdNum l e width = ((decB (tkQ l e (fitW width)) : Int), tkL l e (fitW width), tkE l e (fitW width)) := by
  unfold rdNum tkQ tkL tkE
  by_cases he : e = 0
  · subst he
    by_cases hf : l.length < fitW width
    · rw [if_neg (by simp), if_pos hf, if_neg (by omega), if_neg (by omega), if_pos (by omega)]; rfl
    · rw [if_neg (by simp), if_neg hf, if_pos (by omega), if_pos (by omega), if_neg (by omega)]
  · rw [if_pos he, if_neg (by simp [he]), if_neg (by simp [he]), if_neg (by simp [he])]; rfl
theorem tkQ_le (l : List UInt8) (e : Int) (k : Nat) : (tkQ l e k).length ≤ k := by
  unfold tkQ
  split
  · rw [List.length_take]; omega
  · simp

set_option maxRecDepth 10000 in
set_option maxHeartbeats 1000000 in
theorem RfNum_any (h B : Nat) (l : List UInt8) (e width : Int) (w : World) (H : Ref w h B (clr l e) e) :
    Calls Try.prog 46 #[.pointer (some ⟨h, 0, none⟩), .int .i64 width] w fun r w' =>
      r = .returned (.int .i64 (rdNum l e width).1) ∧ Ref w' h B (clr (rdNum l e width).2.1 (rdNum l e width).2.2) (rdNum l e width).2.2 ∧ w.grownBy w' (some h) := by
  rw [rdNum_tk]
  have H0 := Lib.hid H
  have hf := fitW_bd width
  have hq7 := tkQ_le l e (fitW width)
  obtain ⟨f, hfe⟩ : ∃ f, f = fitW width := ⟨_, rfl⟩
  rw [← hfe] at hf hq7 ⊢
  have Hf := Lib.hid hfe.symm
  have htk := fun W (K : Ref W h B (clr l e) e) => take_any h B l e f W K
  obtain ⟨q, hq⟩ : ∃ q, q = tkQ l e f := ⟨_, rfl⟩
  simp only [← hq] at htk
  rw [← hq] at hq7 ⊢
  have Htk := Lib.hid htk
  have hq77 : q.length ≤ 7 := by omega
  clear H hfe hq htk hq7
  go_enter Try.func46, Try.ntmps46
  go_wp2_with (first
    | (go_at_call 82; refine (wide_any _ _).mono ?_; rintro e w' ⟨rfl, rfl⟩; rw [Hf.out])
    | (go_at_call 81; refine (Htk.out _ H0.out).mono ?_; rintro r w1 ⟨⟨A, c, rfl, hqc, hcm, hr1, hg1⟩, h1⟩))
  go_loop [6, 7] (fun s i => ∃ j : Nat, j ≤ q.length ∧ i = .int .i64 j ∧ s = .int .i64 (decB (q.take j))) (fun _ i => q.length - (intOf i).toNat)
  case atStart => exact ⟨0, Nat.zero_le _, rfl, rfl⟩
  case round =>
    obtain ⟨j, hj, rfl, rfl⟩ := hrel
    by_cases hlt : j < q.length
    · obtain ⟨ad, rfl, _, hc⟩ := hr1.cellAt hlt
      have hd := decB_take_succ q j (by omega)
      have ha := decB_lt (q.take j)
      have hp : (256 : Nat) ^ (q.take j).length ≤ 256 ^ 6 := Nat.pow_le_pow_right (by decide) (by rw [List.length_take]; omega)
      obtain ⟨a, hae⟩ : ∃ a, a = decB (q.take j) := ⟨_, rfl⟩
      obtain ⟨d, hde⟩ : ∃ d, d = (q[j]'(by omega)).toNat := ⟨_, rfl⟩
      have hd2 : d < 256 := by rw [hde]; exact UInt8.toNat_lt _
      have hc' : w1.cell? (ad.add j) = some (.int .u8 (d : Int)) := by rw [hc, hde]; rfl
      rw [← hae] at ha hd ⊢
      have ha2 : a < 281474976710656 := by omega
      rw [← hde] at hd
      have Hd := Lib.hid hd
      have H1 := Lib.hid h1
      clear hd hc hae hde ha hp hr1 h1
      go_wp2
      go_round
      case rel => exact ⟨j + 1, by omega, by go_num, by rw [Hd.out]; go_num⟩
      case measure => simp [intOf]; omega
    · go_wp2
      go_ret
      exact ⟨ret_int (by rw [List.take_of_length_le (by omega)]), h1, hg1⟩
end Go.Proofs.Ytaobdebeglenaaa

namespace Go.Proofs.Ytaobdebeglenaaa
open Go.RowKit

theorem fitW_1 : fitW 1 = 1 := by decide
theorem fitW_2 : fitW 2 = 2 := by decide

/-- Blob of a reader, told by take -/
theorem rdBlob_tk (l : List UInt8) (e most : Int) :
    (rdBlob l e most).1 = (if max most 0 < (decB (tkQ l e 2) : Int) then [] else tkQ (tkL l e 2) (tkE l e 2) (decB (tkQ l e 2))) ∧
    (rdBlob l e most).2.2 = (if max most 0 < (decB (tkQ l e 2) : Int) then failE (tkE l e 2) 11 else tkE (tkL l e 2) (tkE l e 2) (decB (tkQ l e 2))) ∧
    clr (rdBlob l e most).2.1 (rdBlob l e most).2.2 = (if max most 0 < (decB (tkQ l e 2) : Int) then clr (tkL l e 2) (failE (tkE l e 2) 11) else clr (tkL (tkL l e 2) (tkE l e 2) (decB (tkQ l e 2))) (tkE (tkL l e 2) (tkE l e 2) (decB (tkQ l e 2)))) := by
  by_cases he : e = 0
  · subst he
    by_cases h1 : l.length < 2
    · have hQ : tkQ l 0 2 = [] := by unfold tkQ; rw [if_neg (by omega)]
      have hE : tkE l 0 2 = 10 := by unfold tkE; rw [if_pos (by omega)]
      have hL : tkL l 0 2 = l := by unfold tkL; rw [if_neg (by omega)]
      have hb : rdBlob l 0 most = ([], l, 10) := by
        have hc : cntE l 2 1 most = 10 := by unfold cntE; rw [if_pos h1]
        unfold rdBlob; rw [if_neg (by simp), hc, if_pos (by decide)]
      rw [hb, hQ, hE, hL, if_neg (by simp [decB]; omega), if_neg (by simp [decB]; omega), if_neg (by simp [decB]; omega)]
      simp [decB, tkQ, tkE, clr]
    · have hQ : tkQ l 0 2 = l.take 2 := by unfold tkQ; rw [if_pos (by omega)]
      have hE : tkE l 0 2 = 0 := by unfold tkE; rw [if_neg (by omega)]
      have hL : tkL l 0 2 = l.drop 2 := by unfold tkL; rw [if_pos (by omega)]
      rw [hQ, hE, hL]
      by_cases h2 : max most 0 < (decB (l.take 2) : Int)
      · have hb : rdBlob l 0 most = ([], l, 11) := by
          have hc : cntE l 2 1 most = 11 := by unfold cntE; rw [if_neg h1, if_pos h2]
          unfold rdBlob; rw [if_neg (by simp), hc, if_pos (by decide)]
        rw [hb, if_pos h2, if_pos h2, if_pos h2]
        simp [failE, clr]
      · by_cases h3 : l.length - 2 < decB (l.take 2) * 1
        · have hb : rdBlob l 0 most = ([], l, 10) := by
            have hc : cntE l 2 1 most = 10 := by unfold cntE; rw [if_neg h1, if_neg h2, if_pos h3]
            unfold rdBlob; rw [if_neg (by simp), hc, if_pos (by decide)]
          have k1 : ¬ ((0 : Int) = 0 ∧ decB (l.take 2) ≤ (l.drop 2).length) := by rw [List.length_drop]; omega
          have k2 : (0 : Int) = 0 ∧ ¬ decB (l.take 2) ≤ (l.drop 2).length := by rw [List.length_drop]; omega
          rw [hb, if_neg h2, if_neg h2, if_neg h2, tkQ, tkE, tkL, if_neg k1, if_pos k2, if_neg k1]
          simp [clr]
        · have hb : rdBlob l 0 most = ((l.drop 2).take (decB (l.take 2)), l.drop (2 + decB (l.take 2)), 0) := by
            have hc : cntE l 2 1 most = 0 := by unfold cntE; rw [if_neg h1, if_neg h2, if_neg h3]
            unfold rdBlob; rw [if_neg (by simp), hc, if_neg (by decide)]
          have k1 : (0 : Int) = 0 ∧ decB (l.take 2) ≤ (l.drop 2).length := by rw [List.length_drop]; omega
          have k2 : ¬ ((0 : Int) = 0 ∧ ¬ decB (l.take 2) ≤ (l.drop 2).length) := by rw [List.length_drop]; omega
          rw [hb, if_neg h2, if_neg h2, if_neg h2, tkQ, tkE, tkL, if_pos k1, if_neg k2, if_pos k1, List.drop_drop]
          simp [clr]
  · have hb : rdBlob l e most = ([], l, e) := by unfold rdBlob; rw [if_pos he]
    have hQ : tkQ l e 2 = [] := by unfold tkQ; rw [if_neg (by simp [he])]
    have hE : tkE l e 2 = e := by unfold tkE; rw [if_neg (by simp [he])]
    have hL : tkL l e 2 = l := by unfold tkL; rw [if_neg (by simp [he])]
    rw [hb, hQ, hE, hL, if_neg (by simp [decB]; omega), if_neg (by simp [decB]; omega), if_neg (by simp [decB]; omega)]
    simp [decB, tkQ, tkE, clr, he]

set_option maxRecDepth 10000 in
set_option maxHeartbeats 1000000 in
theorem RfBlob_any (h B : Nat) (l : List UInt8) (e most : Int) (w : World) (H : Ref w h B (clr l e) e) :
    Calls Try.prog 83 #[.pointer (some ⟨h, 0, none⟩), .int .i64 most] w fun r w' =>
      OutB w h B (rdBlob l e most).1 r w' ∧ Ref w' h B (clr (rdBlob l e most).2.1 (rdBlob l e most).2.2) (rdBlob l e most).2.2 := by
  obtain ⟨t1, t2, t3⟩ := rdBlob_tk l e most
  rw [t1, t3, t2]
  have hN := fun W (K : Ref W h B (clr l e) e) => RfNum_any h B l e 2 W K
  simp only [rdNum_tk, fitW_2] at hN
  have H0 := Lib.hid H
  obtain ⟨D, hD⟩ : ∃ D, D = decB (tkQ l e 2) := ⟨_, rfl⟩
  have hDb : D < 72057594037927936 := by
    have h1 := decB_lt (tkQ l e 2)
    have h2 : (256 : Nat) ^ (tkQ l e 2).length ≤ 256 ^ 7 := Nat.pow_le_pow_right (by decide) (by have := tkQ_le l e 2; omega)
    omega
  simp only [← hD] at hN ⊢
  obtain ⟨l1, hl1⟩ : ∃ l1, l1 = tkL l e 2 := ⟨_, rfl⟩
  obtain ⟨e1, he1⟩ : ∃ e1, e1 = tkE l e 2 := ⟨_, rfl⟩
  simp only [← hl1, ← he1] at hN ⊢
  have HN := Lib.hid hN
  clear hN hD hl1 he1 H t1 t2 t3
  by_cases hm : max most 0 < (D : Int)
  · rw [if_pos hm, if_pos hm, if_pos hm]
    go_enter Try.func83, Try.ntmps83
    go_wp2_with (first
      | (go_at_call 46; refine (HN.out _ H0.out).mono ?_; rintro r w1 ⟨rfl, h1, g1⟩; have H1 := Lib.hid h1; have G1 := Lib.hid g1; clear h1 g1)
      | (go_at_call 48; refine (RefFail_any h B l1 e1 11 _ H1.out).mono ?_; rintro r w2 ⟨rfl, h2, g2⟩; have H2 := Lib.hid h2; have G2 := Lib.hid g2; clear h2 g2))
    all_goals
      go_ret
      exact ⟨⟨none, 0, rfl, Nat.le_refl _, by omega, Rd.nil, grownBy_trans G1.out G2.out⟩, H2.out⟩
  · rw [if_neg hm, if_neg hm, if_neg hm]
    have htk := fun W (K : Ref W h B (clr l1 e1) e1) => take_any h B l1 e1 D W K
    have Htk := Lib.hid htk
    clear htk
    go_enter Try.func83, Try.ntmps83
    go_wp2_with (first
      | (go_at_call 46; refine (HN.out _ H0.out).mono ?_; rintro r w1 ⟨rfl, h1, g1⟩; have H1 := Lib.hid h1; have G1 := Lib.hid g1; clear h1 g1)
      | (go_at_call 81; refine (Htk.out _ H1.out).mono ?_; rintro r w2 ⟨⟨A, c, rfl, hqc, hcm, hr2, hg2⟩, h2⟩; have H2 := Lib.hid h2; have G2 := Lib.hid hg2; have R2 := Lib.hid hr2; clear h2 hg2 hr2))
    all_goals
      go_ret
      exact ⟨⟨A, c, rfl, hqc, hcm, R2.out, grownBy_trans G1.out G2.out⟩, H2.out⟩

set_option maxRecDepth 10000 in
set_option maxHeartbeats 1000000 in
theorem RfEnd_any (h B : Nat) (l : List UInt8) (e : Int) (w : World) (H : Ref w h B (clr l e) e) :
    Calls Try.prog 49 #[.pointer (some ⟨h, 0, none⟩)] w fun r w' => r = .returned (.int .i64 (endE e l.length)) ∧ Ref w' h B (clr l (endE e l.length)) (endE e l.length) ∧ w.grownBy w' (some h) := by
  have HH := Lib.hid H
  obtain ⟨A, n, c, hx⟩ := H
  have h0 := hx.cell0
  have h1 := hx.cell1
  have hl := hx.2.2.2.1.1
  clear hx
  by_cases hn : 0 < n
  · have he : e = 0 := by
      apply Classical.byContradiction
      intro k
      rw [clr_n l k] at hl
      simp at hl
      omega
    subst he
    rw [clr_0] at hl
    have hE : endE 0 l.length = 11 := by unfold endE; rw [if_pos ⟨rfl, by omega⟩]
    rw [hE]
    clear hE hl
    go_enter Try.func49, Try.ntmps49
    go_wp2_with (go_at_call 48; refine (RefFail_any h B l 0 11 _ HH.out).mono ?_; rintro r w2 ⟨rfl, h2, g2⟩; rw [failE_0] at h2; have k2 := h2; obtain ⟨A2, n2, c2, x2⟩ := k2; have k1 := x2.cell1; have H2 := Lib.hid h2; have G2 := Lib.hid g2; clear h2 g2 x2)
    go_ret
    exact ⟨rfl, H2.out, G2.out⟩
  · obtain rfl : n = 0 := by omega
    have hE : endE e l.length = e := by
      by_cases he : e = 0
      · subst he
        rw [clr_0] at hl
        simp [endE, hl]
      · simp [endE, he]
    rw [hE]
    clear hE hl
    go_enter Try.func49, Try.ntmps49
    go_wp2
    go_ret
    exact ⟨rfl, HH.out, World.grownBy.refl _ _⟩
end Go.Proofs.Ytaobdebeglenaaa

namespace Go.Proofs.Ytaobdebeglenaaa

theorem numsB_length_aux (wd : Int) (zs : List Int) : ((zs.flatMap (numB wd))).length = zs.length * fitW wd := by
  induction zs with
  | nil => simp
  | cons z zs ih => rw [List.flatMap_cons, List.length_append, ih, numB_length, List.length_cons, Nat.add_mul, Nat.one_mul, Nat.add_comm]
theorem numsB_short (wd : Int) (zs : List Int) (h : zs.length ≤ 255) : numsB wd zs = encB 1 zs.length ++ zs.flatMap (numB wd) := by
  rw [numsB, Nat.min_eq_left h, List.take_of_length_le h]
theorem numsB_length (wd : Int) (zs : List Int) (h : zs.length ≤ 255) : (numsB wd zs).length = 1 + zs.length * fitW wd := by
  rw [numsB_short wd zs h, List.length_append, encB_length, numsB_length_aux]
theorem blobB_eq (x : List UInt8) (h : x.length ≤ 65535) : blobB x = encB 2 x.length ++ x := by
  rw [blobB, Nat.min_eq_left h, List.take_of_length_le h]
theorem blobB_length (x : List UInt8) (h : x.length ≤ 65535) : (blobB x).length = 2 + x.length := by
  rw [blobB_eq x h, List.length_append, encB_length]

theorem decB_take_enc (w m : Nat) (r : List UInt8) (h : m < 256 ^ w) : decB ((encB w m ++ r).take w) = m := by
  rw [List.take_left' (encB_length _ _), decB_encB, Nat.mod_eq_of_lt h]

/-- of a blob and more, cut at k -/
theorem cnt_blob_cut (x r : List UInt8) (k : Nat) (most : Int) (hx : x.length ≤ 65535) (hm : (x.length : Int) ≤ max most 0) :
    cntE ((blobB x ++ r).take k) 2 1 most = if min k (2 + x.length + r.length) < 2 + x.length then 10 else 0 := by
  have hL : (blobB x ++ r).length = 2 + x.length + r.length := by rw [List.length_append, blobB_length x hx]
  have hk : ((blobB x ++ r).take k).length = min k (2 + x.length + r.length) := by rw [List.length_take, hL]
  unfold cntE
  rw [hk]
  by_cases h2 : min k (2 + x.length + r.length) < 2
  · rw [if_pos h2, if_pos (by omega)]
  · have e : decB (((blobB x ++ r).take k).take 2) = x.length := by
      rw [List.take_take, Nat.min_eq_left (by omega), blobB_eq x hx, List.append_assoc]
      exact decB_take_enc 2 x.length _ (by omega)
    rw [if_neg h2, e, if_neg (by omega), Nat.mul_one]
    by_cases h3 : min k (2 + x.length + r.length) - 2 < x.length
    · rw [if_pos h3, if_pos (by omega)]
    · rw [if_neg h3, if_neg (by omega)]
theorem cnt_nums_cut (wd : Int) (zs : List Int) (r : List UInt8) (k : Nat) (most : Int) (hz : zs.length ≤ 255) (hm : (zs.length : Int) ≤ max most 0) :
    cntE ((numsB wd zs ++ r).take k) 1 (fitW wd) most = if min k (1 + zs.length * fitW wd + r.length) < 1 + zs.length * fitW wd then 10 else 0 := by
  have hL : (numsB wd zs ++ r).length = 1 + zs.length * fitW wd + r.length := by rw [List.length_append, numsB_length wd zs hz]
  have hk : ((numsB wd zs ++ r).take k).length = min k (1 + zs.length * fitW wd + r.length) := by rw [List.length_take, hL]
  unfold cntE
  rw [hk]
  by_cases h2 : min k (1 + zs.length * fitW wd + r.length) < 1
  · rw [if_pos h2, if_pos (by omega)]
  · have e : decB (((numsB wd zs ++ r).take k).take 1) = zs.length := by
      rw [List.take_take, Nat.min_eq_left (by omega), numsB_short wd zs hz, List.append_assoc]
      exact decB_take_enc 1 zs.length _ (by omega)
    rw [if_neg h2, e, if_neg (by omega)]
    by_cases h3 : min k (1 + zs.length * fitW wd + r.length) - 1 < zs.length * fitW wd
    · rw [if_pos h3, if_pos (by omega)]
    · rw [if_neg h3, if_neg (by omega)]

theorem drop_take_app (a r : List UInt8) (k : Nat) : ((a ++ r).take k).drop a.length = r.take (k - a.length) := by
  rw [List.drop_take, List.drop_left]

/-- bytes of a number, a blob and a row of numbers, cut short, end in ErrShort -/
theorem cut_chain (wd n : Int) (x : List UInt8) (zs : List Int) (k : Nat) (hx : x.length ≤ 1000) (hz : zs.length ≤ 200) (hk : k < ((numB wd n ++ blobB x) ++ numsB wd zs).length) :
    (rdNums (rdBlob (rdNum (((numB wd n ++ blobB x) ++ numsB wd zs).take k) 0 wd).2.1 (rdNum (((numB wd n ++ blobB x) ++ numsB wd zs).take k) 0 wd).2.2 1000).2.1
      (rdBlob (rdNum (((numB wd n ++ blobB x) ++ numsB wd zs).take k) 0 wd).2.1 (rdNum (((numB wd n ++ blobB x) ++ numsB wd zs).take k) 0 wd).2.2 1000).2.2 wd 200).2.2 = 10 := by
  rw [List.length_append, List.length_append, numB_length, blobB_length x (by omega), numsB_length wd zs (by omega)] at hk
  rw [List.append_assoc]
  have hN : rdNum ((numB wd n ++ (blobB x ++ numsB wd zs)).take k) 0 wd = if k < fitW wd then (0, (numB wd n ++ (blobB x ++ numsB wd zs)).take k, 10) else ((decB (((numB wd n ++ (blobB x ++ numsB wd zs)).take k).take (fitW wd)) : Int), (blobB x ++ numsB wd zs).take (k - fitW wd), 0) := by
    unfold rdNum
    have hl : ((numB wd n ++ (blobB x ++ numsB wd zs)).take k).length = k := by
      rw [List.length_take, List.length_append, List.length_append, numB_length, blobB_length x (by omega), numsB_length wd zs (by omega)]
      omega
    rw [if_neg (by simp), hl]
    by_cases h : k < fitW wd
    · rw [if_pos h, if_pos h]
    · rw [if_neg h, if_neg h]
      have e := drop_take_app (numB wd n) (blobB x ++ numsB wd zs) k
      rw [numB_length] at e
      rw [e]
  rw [hN]
  by_cases h1 : k < fitW wd
  · simp [h1, rdBlob, rdNums]
  · rw [if_neg h1]
    dsimp only
    have hB := cnt_blob_cut x (numsB wd zs) (k - fitW wd) 1000 (by omega) (by omega)
    rw [numsB_length wd zs (by omega)] at hB
    by_cases h2 : k - fitW wd < 2 + x.length
    · rw [if_pos (by omega)] at hB
      simp [rdBlob, hB, rdNums]
    · rw [if_neg (by omega)] at hB
      have e2 : decB (((blobB x ++ numsB wd zs).take (k - fitW wd)).take 2) = x.length := by
        rw [List.take_take, Nat.min_eq_left (by omega), blobB_eq x (by omega), List.append_assoc]
        exact decB_take_enc 2 x.length _ (by omega)
      have e3 := drop_take_app (blobB x) (numsB wd zs) (k - fitW wd)
      rw [blobB_length x (by omega)] at e3
      have hR : rdBlob ((blobB x ++ numsB wd zs).take (k - fitW wd)) 0 1000 = ((((blobB x ++ numsB wd zs).take (k - fitW wd)).drop 2).take x.length, (numsB wd zs).take (k - fitW wd - (2 + x.length)), 0) := by
        unfold rdBlob
        rw [if_neg (by simp), if_neg (by simp [hB]), e2, e3]
      rw [hR]
      dsimp only
      have hC := cnt_nums_cut wd zs [] (k - fitW wd - (2 + x.length)) 200 (by omega) (by omega)
      rw [List.append_nil, List.length_nil, Nat.add_zero, if_pos (by omega)] at hC
      simp [rdNums, hC]
end Go.Proofs.Ytaobdebeglenaaa
