/- Contracts of package wire: split, counted, and the reader's readings. -/
import Derived.Test.YtfabcmohaikfoaaDoorWireD
import Derived.Deep.RegionWith
import Derived.Deep.RegionHeld3
namespace Go.Proofs.YtfabcmohaikfoaaDoor
open Go.RowKit

set_option maxRecDepth 10000 in
/-- the method value r.Fail -/
def failV (g : Nat) : Value := .func (Fn.func 60) #[.pointer (some ⟨g, 0, none⟩)] #[]

set_option maxRecDepth 10000 in
set_option maxHeartbeats 400000 in
theorem split_ok (F : Value) (A : Option Addr) (n c k : Nat) (w : World) (hk : k ≤ n) (hc : n ≤ c) (hm : c ≤ 9223372036854775807) :
    Calls Tryd.prog 59 #[.slice A n c, .int .i64 k, F] w fun x w' => ∃ A2, x = .returned (.tuple #[.slice A k c, .slice A2 (n - k) (c - k), .bool true]) ∧
      Hid (∀ (W : World) (B : Nat) (l : List UInt8), Rd W B A n l → Rd W B A2 (n - k) (l.drop k)) ∧ ∃ q, w' = w.drewN q := by
  have hlt : ¬ ((n : Int) < (k : Int)) := by omega
  by_cases hck : c = k
  · subst hck
    obtain rfl : n = c := by omega
    go_enter Tryd.func59, Tryd.ntmps59
    go_wp2
    go_quiet (fail)
    go_wp2
    go_ret3
    refine ⟨A, by rw [Nat.sub_self]; rfl, fun W B l h => ?_, nq, rfl⟩
    have h2 := h.drop (k := n) (cap := n) (by omega) (by omega)
    rwa [if_pos rfl] at h2
  · go_enter Tryd.func59, Tryd.ntmps59
    go_wp2
    go_quiet (fail)
    go_wp2
    go_ret3
    refine ⟨_, rfl, fun W B l h => ?_, nq, rfl⟩
    have h2 := h.drop (k := k) (cap := c) (by omega) (by omega)
    rwa [if_neg hck] at h2

set_option maxRecDepth 10000 in
set_option maxHeartbeats 400000 in
theorem split_short (g : Nat) (A : Option Addr) (n c : Nat) (A' : Option Addr) (n' c' k : Nat) (l : List UInt8) (w : World) (hk : n' < k) (h : RdrX w g A n c l 0) :
    Calls Tryd.prog 59 #[.slice A' n' c', .int .i64 k, failV g] w fun x w' => x = .returned (.tuple #[.slice none 0 0, .slice A' n' c', .bool false]) ∧ RdrX w' g A n c l 10 ∧ w.grownBy w' (some g) := by
  have H0 := Lib.hid h
  clear h
  unfold failV
  go_enter Tryd.func59, Tryd.ntmps59
  go_wp2_with (go_at_call 60; refine (Fail_X g A n c l 0 10 _ H0.out).mono ?_; rintro x w1 ⟨rfl, h1, hg1⟩; rw [failE_0] at h1)
  go_ret3
  exact ⟨rfl, h1, hg1⟩

/-- what Num of a reader that has l left and the error e gives: the number, what is left, the error -/
def rdNum (l : List UInt8) (e width : Int) : Int × List UInt8 × Int :=
  if e ≠ 0 then (0, l, e) else if l.length < fitW width then (0, l, 10) else (decB (l.take (fitW width)), l.drop (fitW width), 0)

theorem keepSet {w : World} {B n g : Nat} {A : Option Addr} {l : List UInt8} (h : Rd w B A n l) (hg : B ≤ g) (q : Nat) (i : Nat) (u : Value) : Rd ((w.drewN q).setCell ⟨g, i, none⟩ u) B A n l :=
  h.keep fun p hp => World.cell?_setCell_other (w.drewN q) _ _ _ (fun e => by subst e; simp at hp; omega)

set_option maxRecDepth 10000 in
set_option maxHeartbeats 1000000 in
theorem RNum_ok (g : Nat) (l : List UInt8) (width : Int) (w : World) (h : Rdr w g l 0) (hf : fitW width ≤ l.length) :
    Calls Tryd.prog 42 #[.pointer (some ⟨g, 0, none⟩), .int .i64 width] w fun x w' =>
      x = .returned (.int .i64 (decB (l.take (fitW width)))) ∧ Rdr w' g (l.drop (fitW width)) 0 ∧ w.grownBy w' (some g) := by
  have H0 := Lib.hid h
  obtain ⟨A, n, c, hh, hn, hc, hr⟩ := h
  have h1 := cell_blk hh 0
  have h2 := free_blk hh 0
  simp only [List.getElem?_toArray, List.getElem?_cons_zero] at h1
  have hl := hr.1
  have hw := fitW_bd width
  obtain ⟨f, hfe⟩ : ∃ f, f = fitW width := ⟨_, rfl⟩
  rw [← hfe] at hf hw ⊢
  have hfn : f ≤ n := by omega
  have Hf := Lib.hid hfe.symm
  have Hh := Lib.hid hh
  have Hr := Lib.hid hr
  clear hh hr hl hfe hf
  go_enter Tryd.func42, Tryd.ntmps42
  go_upto_region 3 with (go_at_call 58; refine (Err_any g l _ _ H0.out).mono ?_; rintro x w' ⟨rfl, rfl⟩)
  go_cut [5, 6] (fun s5 s6 wx => ∃ A2, s5 = .slice A f c ∧ s6 = .slice A2 (n - f) (c - f) ∧ Hid (∀ (W : World) (B : Nat) (l : List UInt8), Rd W B A n l → Rd W B A2 (n - f) (l.drop f)) ∧ ∃ q, wx = w.drewN q)
  case first =>
    go_region_held3 (fun w' => w'.cell? ⟨g, 0, none⟩ = some (.slice A n c)) (go_keep) (first
      | (go_at_call 50; refine (fitWidth_any _ _).mono ?_; rintro e w' ⟨rfl, rfl⟩; rw [Hf.out])
      | (go_at_call 59; refine (split_ok _ A n c f _ hfn hn hc).mono ?_; rintro e w' ⟨A2, rfl, hA2, q, rfl⟩))
    all_goals
      go_wp2_with fail
      go_meet
      exact ⟨_, rfl, rfl, hA2, _, rfl⟩
  case rest =>
    obtain ⟨A2, rfl, rfl, hA2, q, rfl⟩ := hcut
    go_wp2_with (go_at_call 61; refine (number_any A f c (l.take f) g _ (keepSet (Hr.out.take hfn) (Nat.le_refl _) _ _ _) hw.2).mono ?_; rintro e w' ⟨rfl, rfl⟩)
    go_ret
    refine ⟨rfl, ⟨A2, n - f, c - f, set_blk (w := w.drewN q) Hh.out 0 _, by omega, by omega, keepSet (hA2.out _ _ _ Hr.out) (Nat.le_refl _) _ _ _⟩, ?_⟩
    exact grownBy_trans (grownBy_drewN w q _) (grownBy_set (w.drewN q) g 0 _)


theorem RdrX.drewN {w : World} {g n c : Nat} {A : Option Addr} {l : List UInt8} {e : Int} (h : RdrX w g A n c l e) (q : Nat) : RdrX (w.drewN q) g A n c l e := h
theorem RdrX.drew {w : World} {g n c : Nat} {A : Option Addr} {l : List UInt8} {e : Int} (h : RdrX w g A n c l e) : RdrX w.drew g A n c l e := h
theorem RdrX.cell0 {w : World} {g n c : Nat} {A : Option Addr} {l : List UInt8} {e : Int} (h : RdrX w g A n c l e) : w.cell? ⟨g, 0, none⟩ = some (.slice A n c) := by
  rw [cell_blk h.1]; rfl
theorem RdrX.free {w : World} {g n c : Nat} {A : Option Addr} {l : List UInt8} {e : Int} (h : RdrX w g A n c l e) (i : Nat) : w.frozen? ⟨g, i, none⟩ = false := free_blk h.1 i
/-- a store of what is left -/
theorem RdrX.put {w : World} {g n c n' c' : Nat} {A A' : Option Addr} {l l' : List UInt8} {e : Int} (h : RdrX w g A n c l e) (hr : Rd w g A' n' l') (hn : n' ≤ c') (hc : c' ≤ 9223372036854775807) :
    RdrX (w.setCell ⟨g, 0, none⟩ (.slice A' n' c')) g A' n' c' l' e :=
  ⟨set_blk h.1 0 _, hn, hc, hr.keep fun p hp => World.cell?_setCell_other w _ _ _ (fun e => by subst e; simp at hp)⟩

set_option maxRecDepth 10000 in
set_option maxHeartbeats 1000000 in
theorem RNum_short (g : Nat) (l : List UInt8) (width : Int) (w : World) (h : Rdr w g l 0) (hf : l.length < fitW width) :
    Calls Tryd.prog 42 #[.pointer (some ⟨g, 0, none⟩), .int .i64 width] w fun x w' =>
      x = .returned (.int .i64 0) ∧ Rdr w' g l 10 ∧ w.grownBy w' (some g) := by
  have H0 := Lib.hid h
  obtain ⟨A, n, c, hx⟩ := h
  have h1 := hx.cell0
  have hl := hx.2.2.2.1
  have hfn : n < fitW width := by omega
  have Hx := Lib.hid hx
  clear hx hl hf
  go_enter Tryd.func42, Tryd.ntmps42
  go_upto_region 3 with (go_at_call 58; refine (Err_any g l _ _ H0.out).mono ?_; rintro x w' ⟨rfl, rfl⟩)
  go_cut [5, 6] (fun s5 s6 wx => s5 = .slice none 0 0 ∧ s6 = .slice A n c ∧ RdrX wx g A n c l 10 ∧ w.grownBy wx (some g))
  case first =>
    go_region_held3 (fun w' => w'.cell? ⟨g, 0, none⟩ = some (.slice A n c)) (go_keep) (first
      | (go_at_call 50; refine (fitWidth_any _ _).mono ?_; rintro e w' ⟨rfl, rfl⟩)
      | (go_at_call 59; refine (split_short g A n c A n c (fitW width) l _ hfn Hx.out.drew).mono ?_; rintro e w3 ⟨rfl, h3, h4⟩; have h5 := h3.cell0; have H3 := Lib.hid h3; have H4 := Lib.hid h4; clear h3 h4))
    all_goals
      go_wp2_with fail
      go_meet
      exact ⟨rfl, rfl, H3.out, grownBy_trans (grownBy_drewN w 1 _) H4.out⟩
  case rest =>
    obtain ⟨rfl, rfl, h3, h4⟩ := hcut
    have h5 := h3.cell0
    have h6 := h3.free 0
    have H3 := Lib.hid h3
    have H4 := Lib.hid h4
    clear h3 h4
    go_wp2_with (go_at_call 61; refine (number_any none 0 0 [] g _ Rd.nil (by omega)).mono ?_; rintro e w' ⟨rfl, rfl⟩)
    go_ret
    exact ⟨rfl, ⟨A, n, c, H3.out.put H3.out.2.2.2 H3.out.2.1 H3.out.2.2.1⟩, grownBy_trans H4.out (grownBy_set _ _ _ _)⟩
set_option maxRecDepth 10000 in
set_option maxHeartbeats 400000 in
theorem RNum_err (g : Nat) (l : List UInt8) (e width : Int) (w : World) (h : Rdr w g l e) (he : e ≠ 0) :
    Calls Tryd.prog 42 #[.pointer (some ⟨g, 0, none⟩), .int .i64 width] w fun x w' => x = .returned (.int .i64 0) ∧ w = w' := by
  have H0 := Lib.hid h
  clear h
  have he2 : (e == 0) = false := by simpa using he
  have he3 : (e != 0) = true := by simpa using he
  go_enter Tryd.func42, Tryd.ntmps42
  go_wp2_with (go_at_call 58; refine (Err_any g l _ _ H0.out).mono ?_; rintro x w' ⟨rfl, rfl⟩)
  go_ret
  exact ⟨rfl, rfl⟩
set_option maxRecDepth 10000 in
set_option maxHeartbeats 400000 in
theorem RNum_nil (width : Int) (w : World) :
    Calls Tryd.prog 42 #[.pointer none, .int .i64 width] w fun x w' => x = .returned (.int .i64 0) ∧ w = w' := by
  go_enter Tryd.func42, Tryd.ntmps42
  go_wp2_with (go_at_call 58; refine (Err_nil _).mono ?_; rintro x w' ⟨rfl, rfl⟩)
  go_ret
  exact ⟨rfl, rfl⟩
set_option maxRecDepth 10000 in
/-- Num of a reader -/
theorem RNum_any (g : Nat) (l : List UInt8) (e width : Int) (w : World) (h : Rdr w g l e) :
    Calls Tryd.prog 42 #[.pointer (some ⟨g, 0, none⟩), .int .i64 width] w fun x w' =>
      x = .returned (.int .i64 (rdNum l e width).1) ∧ Rdr w' g (rdNum l e width).2.1 (rdNum l e width).2.2 ∧ w.grownBy w' (some g) := by
  unfold rdNum
  by_cases he : e = 0
  · subst he
    rw [if_neg (by simp)]
    by_cases hf : l.length < fitW width
    · rw [if_pos hf]; exact RNum_short g l width w h hf
    · rw [if_neg hf]; exact RNum_ok g l width w h (by omega)
  · rw [if_pos he]
    exact (RNum_err g l e width w h he).mono fun _ _ ⟨a, b⟩ => ⟨a, b ▸ h, b ▸ World.grownBy.refl _ _⟩
end Go.Proofs.YtfabcmohaikfoaaDoor
