/- Contracts of the document's own reader for layer 1: Fail, take, Num. -/
import Derived.Test.YtfabcmohaikfoaaDoorWireRA
import Derived.Test.YtfabcmohaikfoaaDoorWireH
namespace Go.Proofs.YtfabcmohaikfoaaDoor
open Go.RowKit

set_option maxRecDepth 10000 in
/-- Block h of world w is the document's reader that has l left and the error e; what it has left lies below B. -/
def RefX (w : World) (h B : Nat) (A : Option Addr) (n c : Nat) (l : List UInt8) (e : Int) : Prop :=
  w.heap[h]? = some (.cells #[.slice A n c, .int .i64 e] 48 (0, 0)) ∧ n ≤ c ∧ c ≤ 9223372036854775807 ∧ Rd w B A n l ∧ B ≤ h
def Ref (w : World) (h B : Nat) (l : List UInt8) (e : Int) : Prop := ∃ A n c, RefX w h B A n c l e
/-- what such a reader has left -/
def clr (l : List UInt8) (e : Int) : List UInt8 := if e = 0 then l else []
theorem clr_0 (l : List UInt8) : clr l 0 = l := by simp [clr]
theorem clr_n (l : List UInt8) {e : Int} (h : e ≠ 0) : clr l e = [] := by simp [clr, h]

theorem RefX.cell0 {w : World} {h B n c : Nat} {A : Option Addr} {l : List UInt8} {e : Int} (k : RefX w h B A n c l e) : w.cell? ⟨h, 0, none⟩ = some (.slice A n c) := by
  rw [cell_blk k.1]; rfl
theorem RefX.cell1 {w : World} {h B n c : Nat} {A : Option Addr} {l : List UInt8} {e : Int} (k : RefX w h B A n c l e) : w.cell? ⟨h, 1, none⟩ = some (.int .i64 e) := by
  rw [cell_blk k.1]; rfl
theorem RefX.free {w : World} {h B n c : Nat} {A : Option Addr} {l : List UInt8} {e : Int} (k : RefX w h B A n c l e) (i : Nat) : w.frozen? ⟨h, i, none⟩ = false := free_blk k.1 i
theorem setB {w : World} {B h n : Nat} {A : Option Addr} {l : List UInt8} (hr : Rd w B A n l) (hB : B ≤ h) (i : Nat) (u : Value) : Rd (w.setCell ⟨h, i, none⟩ u) B A n l :=
  hr.keep fun p hp => World.cell?_setCell_other w _ _ _ (fun e => by subst e; simp at hp; omega)
/-- a store of what is left -/
theorem RefX.put {w : World} {h B n c n' c' : Nat} {A A' : Option Addr} {l l' : List UInt8} {e : Int} (k : RefX w h B A n c l e) (hr : Rd w B A' n' l') (hn : n' ≤ c') (hc : c' ≤ 9223372036854775807) :
    RefX (w.setCell ⟨h, 0, none⟩ (.slice A' n' c')) h B A' n' c' l' e :=
  ⟨set_blk k.1 0 _, hn, hc, setB hr k.2.2.2.2 _ _, k.2.2.2.2⟩
theorem RefX.putE {w : World} {h B n c : Nat} {A : Option Addr} {l : List UInt8} {e : Int} (k : RefX w h B A n c l e) (x : Int) :
    RefX (w.setCell ⟨h, 1, none⟩ (.int .i64 x)) h B A n c l x :=
  ⟨set_blk k.1 1 _, k.2.1, k.2.2.1, setB k.2.2.2.1 k.2.2.2.2 _ _, k.2.2.2.2⟩

set_option maxRecDepth 10000 in
set_option maxHeartbeats 1000000 in
theorem RefFail_any (h B : Nat) (l : List UInt8) (e x : Int) (w : World) (H : Ref w h B (clr l e) e) :
    Calls Tryd.prog 49 #[.pointer (some ⟨h, 0, none⟩), .int .i64 x] w fun r w' => r = .returned (.tuple #[]) ∧ Ref w' h B (clr l (failE e x)) (failE e x) ∧ w.grownBy w' (some h) := by
  obtain ⟨A, n, c, hx⟩ := H
  have h0 := hx.cell0
  have h1 := hx.cell1
  have h2 := hx.free 1
  have h3 := hx.free 0
  have H0 := Lib.hid hx
  clear hx
  by_cases he : e = 0
  · subst he
    by_cases hxx : x = 0
    · subst hxx
      go_enter Tryd.func49, Tryd.ntmps49
      go_wp2
      go_end0
      exact ⟨rfl, ⟨A, n, c, H0.out⟩, World.grownBy.refl _ _⟩
    · have hx2 : (x == 0) = false := by simpa using hxx
      have hx3 : (x != 0) = true := by simpa using hxx
      have hH := Lib.hid (show failE 0 x = x ∧ clr l x = [] from ⟨failE_0 x, clr_n l hxx⟩)
      clear hxx
      go_enter Tryd.func49, Tryd.ntmps49
      go_wp2
      go_end0
      rw [hH.out.1, hH.out.2]
      exact ⟨rfl, ⟨none, 0, 0, (H0.out.putE x).put Rd.nil (Nat.le_refl _) (by omega)⟩, grownBy_trans (grownBy_set _ _ _ _) (grownBy_set _ _ _ _)⟩
  · have he2 : (e == 0) = false := by simpa using he
    have he3 : (e != 0) = true := by simpa using he
    go_enter Tryd.func49, Tryd.ntmps49
    go_wp2
    go_end0
    rw [failE_n he]
    exact ⟨rfl, ⟨A, n, c, H0.out⟩, World.grownBy.refl _ _⟩

/-- what take gives, what is left, the error -/
def tkQ (l : List UInt8) (e : Int) (k : Nat) : List UInt8 := if e = 0 ∧ k ≤ l.length then l.take k else []
def tkL (l : List UInt8) (e : Int) (k : Nat) : List UInt8 := if e = 0 ∧ k ≤ l.length then l.drop k else l
def tkE (l : List UInt8) (e : Int) (k : Nat) : Int := if e = 0 ∧ ¬ k ≤ l.length then 10 else e

/-- a slice that reads as q below B, beside the document's reader -/
def OutB (w : World) (h B : Nat) (q : List UInt8) (r : Ending) (w' : World) : Prop :=
  ∃ A c, r = .returned (.slice A q.length c) ∧ q.length ≤ c ∧ c ≤ 9223372036854775807 ∧ Rd w' B A q.length q ∧ w.grownBy w' (some h)

set_option maxRecDepth 10000 in
set_option maxHeartbeats 1000000 in
theorem take_any (h B : Nat) (l : List UInt8) (e : Int) (k : Nat) (w : World) (H : Ref w h B (clr l e) e) :
    Calls Tryd.prog 47 #[.pointer (some ⟨h, 0, none⟩), .int .i64 k] w fun r w' => OutB w h B (tkQ l e k) r w' ∧ Ref w' h B (clr (tkL l e k) (tkE l e k)) (tkE l e k) := by
  by_cases he : e = 0
  · subst he
    rw [clr_0] at H
    have HH := Lib.hid H
    obtain ⟨A, n, c, hx⟩ := H
    have h0 := hx.cell0
    have h1 := hx.cell1
    have h3 := hx.free 0
    have hl := hx.2.2.2.1.1
    have hnc := hx.2.1
    have hcm := hx.2.2.1
    have H0 := Lib.hid hx
    clear hx
    by_cases hk : k ≤ l.length
    · have hQ : tkQ l 0 k = l.take k := by simp [tkQ, hk]
      have hL : tkL l 0 k = l.drop k := by simp [tkL, hk]
      have hE : tkE l 0 k = 0 := by simp [tkE, hk]
      rw [hQ, hL, hE, clr_0]
      have hkn : k ≤ n := by omega
      have hqk : Hid ((l.take k).length = k) := by show _ = _; rw [List.length_take]; omega
      clear hQ hL hE hl hk
      by_cases hck : c = k
      · subst hck
        obtain rfl : n = c := by omega
        go_enter Tryd.func47, Tryd.ntmps47
        go_wp2
        go_ret
        have h5 := H0.out.2.2.2.1.drop (k := n) (cap := n) (by omega) (by omega)
        rw [if_pos rfl] at h5
        have h6 := H0.out.2.2.2.1.take (k := n) (by omega)
        refine ⟨⟨A, n, by rw [hqk.out]; rfl, by rw [hqk.out]; exact Nat.le_refl _, by omega, by rw [hqk.out]; exact setB h6 H0.out.2.2.2.2 _ _, grownBy_set _ _ _ _⟩, ⟨A, n - n, n - n, ?_⟩⟩
        have h7 := H0.out.put h5 (Nat.le_refl _) (by omega)
        rw [Nat.sub_self] at h7 ⊢
        exact h7
      · go_enter Tryd.func47, Tryd.ntmps47
        go_wp2
        go_ret
        have h5 := H0.out.2.2.2.1.drop (k := k) (cap := c) (by omega) (by omega)
        rw [if_neg hck] at h5
        have h6 := H0.out.2.2.2.1.take (k := k) (by omega)
        exact ⟨⟨A, c, by rw [hqk.out]; rfl, by rw [hqk.out]; omega, by omega, by rw [hqk.out]; exact setB h6 H0.out.2.2.2.2 _ _, grownBy_set _ _ _ _⟩, ⟨_, _, _, H0.out.put h5 (by omega) (by omega)⟩⟩
    · have hQ : tkQ l 0 k = [] := by simp [tkQ, hk]
      have hL : tkL l 0 k = l := by simp [tkL, hk]
      have hE : tkE l 0 k = 10 := by simp [tkE, hk]
      rw [hQ, hL, hE]
      have hkn : n < k := by omega
      clear hQ hL hE hl hk
      go_enter Tryd.func47, Tryd.ntmps47
      go_wp2_with (go_at_call 49; refine (RefFail_any h B l 0 10 _ (by rw [clr_0]; exact HH.out)).mono ?_; rintro r w1 ⟨rfl, h5, h6⟩; rw [failE_0] at h5)
      go_ret
      exact ⟨⟨none, 0, rfl, Nat.le_refl _, by omega, Rd.nil, h6⟩, h5⟩
  · have hQ : tkQ l e k = [] := by simp [tkQ, he]
    have hL : tkL l e k = l := by simp [tkL, he]
    have hE : tkE l e k = e := by simp [tkE, he]
    rw [hQ, hL, hE]
    obtain ⟨A, n, c, hx⟩ := H
    have h1 := hx.cell1
    have H0 := Lib.hid hx
    have he2 : (e == 0) = false := by simpa using he
    have he3 : (e != 0) = true := by simpa using he
    clear hQ hL hE hx
    go_enter Tryd.func47, Tryd.ntmps47
    go_wp2
    go_ret
    exact ⟨⟨none, 0, rfl, Nat.le_refl _, by omega, Rd.nil, World.grownBy.refl _ _⟩, ⟨A, n, c, H0.out⟩⟩

/-- Num of a reader, told by take -/
theorem rdNum_tk (l : List UInt8) (e width : Int) : rdNum l e width = ((decB (tkQ l e (fitW width)) : Int), tkL l e (fitW width), tkE l e (fitW width)) := by
  unfold rdNum tkQ tkL tkE
  by_cases he : e = 0
  · subst he
    by_cases hf : l.length < fitW width
    · rw [if_neg (by simp), if_pos hf, if_neg (by omega), if_neg (by omega), if_pos (by omega)]; rfl
    · rw [if_neg (by simp), if_neg hf, if_pos (by omega), if_pos (by omega), if_neg (by omega)]
  · rw [if_pos he, if_neg (by simp [he]), if_neg (by simp [he]), if_neg (by simp [he])]; rfl
theorem tkQ_le (l : List UInt8) (e : Int) (k : Nat) : (tkQ l e k).length ≤ k := by
  unfold tkQ
  split
  · rw [List.length_take]; omega
  · simp

set_option maxRecDepth 10000 in
set_option maxHeartbeats 1000000 in
theorem RfNum_any (h B : Nat) (l : List UInt8) (e width : Int) (w : World) (H : Ref w h B (clr l e) e) :
    Calls Tryd.prog 29 #[.pointer (some ⟨h, 0, none⟩), .int .i64 width] w fun r w' =>
      r = .returned (.int .i64 (rdNum l e width).1) ∧ Ref w' h B (clr (rdNum l e width).2.1 (rdNum l e width).2.2) (rdNum l e width).2.2 ∧ w.grownBy w' (some h) := by
  rw [rdNum_tk]
  have H0 := Lib.hid H
  have hf := fitW_bd width
  have hq7 := tkQ_le l e (fitW width)
  obtain ⟨f, hfe⟩ : ∃ f, f = fitW width := ⟨_, rfl⟩
  rw [← hfe] at hf hq7 ⊢
  have Hf := Lib.hid hfe.symm
  have htk := fun W (K : Ref W h B (clr l e) e) => take_any h B l e f W K
  obtain ⟨q, hq⟩ : ∃ q, q = tkQ l e f := ⟨_, rfl⟩
  simp only [← hq] at htk
  rw [← hq] at hq7 ⊢
  have Htk := Lib.hid htk
  have hq77 : q.length ≤ 7 := by omega
  clear H hfe hq htk hq7
  go_enter Tryd.func29, Tryd.ntmps29
  go_wp2_with (first
    | (go_at_call 48; refine (wide_any _ _).mono ?_; rintro e w' ⟨rfl, rfl⟩; rw [Hf.out])
    | (go_at_call 47; refine (Htk.out _ H0.out).mono ?_; rintro r w1 ⟨⟨A, c, rfl, hqc, hcm, hr1, hg1⟩, h1⟩))
  go_loop [6, 7] (fun s i => ∃ j : Nat, j ≤ q.length ∧ i = .int .i64 j ∧ s = .int .i64 (decB (q.take j))) (fun _ i => q.length - (intOf i).toNat)
  case atStart => exact ⟨0, Nat.zero_le _, rfl, rfl⟩
  case round =>
    obtain ⟨j, hj, rfl, rfl⟩ := hrel
    by_cases hlt : j < q.length
    · obtain ⟨ad, rfl, _, hc⟩ := hr1.cellAt hlt
      have hd := decB_take_succ q j (by omega)
      have ha := decB_lt (q.take j)
      have hp : (256 : Nat) ^ (q.take j).length ≤ 256 ^ 6 := Nat.pow_le_pow_right (by decide) (by rw [List.length_take]; omega)
      obtain ⟨a, hae⟩ : ∃ a, a = decB (q.take j) := ⟨_, rfl⟩
      obtain ⟨d, hde⟩ : ∃ d, d = (q[j]'(by omega)).toNat := ⟨_, rfl⟩
      have hd2 : d < 256 := by rw [hde]; exact UInt8.toNat_lt _
      have hc' : w1.cell? (ad.add j) = some (.int .u8 (d : Int)) := by rw [hc, hde]; rfl
      rw [← hae] at ha hd ⊢
      have ha2 : a < 281474976710656 := by omega
      rw [← hde] at hd
      have Hd := Lib.hid hd
      have H1 := Lib.hid h1
      clear hd hc hae hde ha hp hr1 h1
      go_wp2
      go_round
      case rel => exact ⟨j + 1, by omega, by go_num, by rw [Hd.out]; go_num⟩
      case measure => simp [intOf]; omega
    · go_wp2
      go_ret
      exact ⟨ret_int (by rw [List.take_of_length_le (by omega)]), h1, hg1⟩
end Go.Proofs.YtfabcmohaikfoaaDoor
