/- Contracts of package wire: the reader's small methods, split, counted. -/
import Derived.Test.YtfabcmohaikfoaaDoorWireC
import Derived.BigQuiet
import Derived.Deep.QuietTactic
namespace Go.Proofs.YtfabcmohaikfoaaDoor
open Go.RowKit

set_option maxRecDepth 10000 in
/-- Block g of world w is a reader that has l left and the error e; what it has left lies below g. -/
def RdrX (w : World) (g : Nat) (A : Option Addr) (n c : Nat) (l : List UInt8) (e : Int) : Prop :=
  w.heap[g]? = some (.cells #[.slice A n c, .int .i64 e] 65 (0, 0)) ∧ n ≤ c ∧ c ≤ 9223372036854775807 ∧ Rd w g A n l
def Rdr (w : World) (g : Nat) (l : List UInt8) (e : Int) : Prop := ∃ A n c, RdrX w g A n c l e

/-- the error behind a failure with x -/
def failE (e x : Int) : Int := if e = 0 then x else e
/-- how many bytes are left, as the reader tells it -/
def leftN (e : Int) (n : Nat) : Int := if e = 0 then (n : Int) else 0
/-- the error behind End -/
def endE (e : Int) (n : Nat) : Int := if e = 0 ∧ 0 < n then 11 else e
theorem failE_0 (x : Int) : failE 0 x = x := by simp [failE]
theorem failE_n {e : Int} (h : e ≠ 0) (x : Int) : failE e x = e := by simp [failE, h]

theorem cell_blk {w : World} {g : Nat} {t : TypeId} {cs : Array Value} (h : w.heap[g]? = some (.cells cs t (0, 0))) (i : Nat) : w.cell? ⟨g, i, none⟩ = cs[i]? := cell_of_row w g i cs t (0, 0) h
theorem free_blk {w : World} {g : Nat} {t : TypeId} {cs : Array Value} (h : w.heap[g]? = some (.cells cs t (0, 0))) (i : Nat) : w.frozen? ⟨g, i, none⟩ = false := by simp [World.frozen?, h]
theorem set_blk {w : World} {g : Nat} {t : TypeId} {cs : Array Value} (h : w.heap[g]? = some (.cells cs t (0, 0))) (i : Nat) (u : Value) : (w.setCell ⟨g, i, none⟩ u).heap[g]? = some (.cells (cs.setIfInBounds i u) t (0, 0)) :=
  heap_setCell_same w g i cs t u h
theorem grownBy_set (w : World) (g i : Nat) (u : Value) : w.grownBy (w.setCell ⟨g, i, none⟩ u) (some g) :=
  ⟨rfl, rfl, rfl, by simp [World.setCell], fun k _ hk => Below.heap_setCell _ _ _ _ (fun e => hk (by simp [e]))⟩
theorem grownBy_drewN (w : World) (n : Nat) (row : Option Nat) : w.grownBy (w.drewN n) row := ⟨rfl, rfl, rfl, Nat.le_refl _, fun _ _ _ => rfl⟩
theorem grownBy_trans {a b c : World} {row : Option Nat} (h : a.grownBy b row) (k : b.grownBy c row) : a.grownBy c row :=
  ⟨k.os.trans h.os, k.tape.trans h.tape, k.output.trans h.output, Nat.le_trans h.size k.size, fun i hi hne => (k.block i (Nat.lt_of_lt_of_le hi h.size) hne).trans (h.block i hi hne)⟩
theorem grownBy_below {a b : World} (h : Below a.heap.size a b) (row : Option Nat) : a.grownBy b row := ⟨h.os, h.tape, h.output, h.size, fun i hi _ => h.block i hi⟩

set_option maxRecDepth 10000 in
set_option maxHeartbeats 400000 in
theorem Err_any (g : Nat) (l : List UInt8) (e : Int) (w : World) (h : Rdr w g l e) :
    Calls Tryd.prog 58 #[.pointer (some ⟨g, 0, none⟩)] w fun x w' => x = .returned (.int .i64 e) ∧ w = w' := by
  obtain ⟨A, n, c, hh, _⟩ := h
  have h1 := cell_blk hh 1
  simp only [List.getElem?_toArray, List.getElem?_cons_succ, List.getElem?_cons_zero] at h1
  clear hh
  go_enter Tryd.func58, Tryd.ntmps58
  go_wp2
  go_ret
  exact ⟨rfl, rfl⟩
set_option maxRecDepth 10000 in
set_option maxHeartbeats 400000 in
theorem Err_nil (w : World) : Calls Tryd.prog 58 #[.pointer none] w fun x w' => x = .returned (.int .i64 1) ∧ w = w' := by
  go_enter Tryd.func58, Tryd.ntmps58
  go_wp2
  go_ret
  exact ⟨rfl, rfl⟩

set_option maxRecDepth 10000 in
set_option maxHeartbeats 400000 in
theorem Fail_X (g : Nat) (A : Option Addr) (n c : Nat) (l : List UInt8) (e x : Int) (w : World) (h : RdrX w g A n c l e) :
    Calls Tryd.prog 60 #[.pointer (some ⟨g, 0, none⟩), .int .i64 x] w fun r w' => r = .returned (.tuple #[]) ∧ RdrX w' g A n c l (failE e x) ∧ w.grownBy w' (some g) := by
  obtain ⟨hh, hn, hc, hr⟩ := h
  have h1 := cell_blk hh 1
  have h2 := free_blk hh 1
  have hs := set_blk hh 1 (.int .i64 x)
  simp only [List.getElem?_toArray, List.getElem?_cons_succ, List.getElem?_cons_zero] at h1
  have Hh := Lib.hid hh
  have Hs := Lib.hid hs
  have Hr := Lib.hid hr
  clear hh hs hr
  by_cases he : e = 0
  · subst he
    go_enter Tryd.func60, Tryd.ntmps60
    go_wp2
    go_end0
    rw [failE_0]
    refine ⟨rfl, ⟨Hs.out, hn, hc, Hr.out.keep fun p hp => World.cell?_setCell_other _ _ _ _ (fun q => by subst q; exact absurd hp (Nat.lt_irrefl _))⟩, grownBy_set _ _ _ _⟩
  · have he2 : (e == 0) = false := by simpa using he
    go_enter Tryd.func60, Tryd.ntmps60
    go_wp2
    go_end0
    rw [failE_n he]
    exact ⟨rfl, ⟨Hh.out, hn, hc, Hr.out⟩, World.grownBy.refl _ _⟩
set_option maxRecDepth 10000 in
theorem Fail_any (g : Nat) (l : List UInt8) (e x : Int) (w : World) (h : Rdr w g l e) :
    Calls Tryd.prog 60 #[.pointer (some ⟨g, 0, none⟩), .int .i64 x] w fun r w' => r = .returned (.tuple #[]) ∧ Rdr w' g l (failE e x) ∧ w.grownBy w' (some g) := by
  obtain ⟨A, n, c, h⟩ := h
  exact (Fail_X g A n c l e x w h).mono fun _ _ ⟨a, b, d⟩ => ⟨a, ⟨A, n, c, b⟩, d⟩
set_option maxRecDepth 10000 in
set_option maxHeartbeats 400000 in
theorem Fail_nil (x : Int) (w : World) : Calls Tryd.prog 60 #[.pointer none, .int .i64 x] w fun r w' => r = .returned (.tuple #[]) ∧ w = w' := by
  go_enter Tryd.func60, Tryd.ntmps60
  go_wp2
  go_end0
  exact ⟨rfl, rfl⟩
set_option maxRecDepth 10000 in
set_option maxHeartbeats 400000 in
theorem Left_any (g : Nat) (l : List UInt8) (e : Int) (w : World) (h : Rdr w g l e) :
    Calls Tryd.prog 63 #[.pointer (some ⟨g, 0, none⟩)] w fun x w' => x = .returned (.int .i64 (leftN e l.length)) ∧ w = w' := by
  have h0 := h
  obtain ⟨A, n, c, hh, _, _, hr⟩ := h
  have h1 := cell_blk hh 0
  simp only [List.getElem?_toArray, List.getElem?_cons_zero] at h1
  have hl := hr.1
  clear hh hr
  have H0 := Lib.hid h0
  have Hl := Lib.hid hl
  clear h0 hl
  by_cases he : e = 0
  · subst he
    go_enter Tryd.func63, Tryd.ntmps63
    go_wp2_with (go_at_call 58; refine (Err_any g l 0 _ H0.out).mono ?_; rintro x w' ⟨rfl, rfl⟩)
    go_ret
    exact ⟨ret_int (by simp [leftN, Hl.out]), rfl⟩
  · have he2 : (e == 0) = false := by simpa using he
    have he3 : (e != 0) = true := by simpa using he
    go_enter Tryd.func63, Tryd.ntmps63
    go_wp2_with (go_at_call 58; refine (Err_any g l e _ H0.out).mono ?_; rintro x w' ⟨rfl, rfl⟩)
    go_ret
    exact ⟨ret_int (by simp [leftN, he]), rfl⟩
set_option maxRecDepth 10000 in
set_option maxHeartbeats 400000 in
theorem Left_nil (w : World) : Calls Tryd.prog 63 #[.pointer none] w fun x w' => x = .returned (.int .i64 0) ∧ w = w' := by
  go_enter Tryd.func63, Tryd.ntmps63
  go_wp2_with (go_at_call 58; refine (Err_nil _).mono ?_; rintro x w' ⟨rfl, rfl⟩)
  go_ret
  exact ⟨rfl, rfl⟩
set_option maxRecDepth 10000 in
set_option maxHeartbeats 400000 in
theorem End_any (g : Nat) (l : List UInt8) (e : Int) (w : World) (h : Rdr w g l e) :
    Calls Tryd.prog 44 #[.pointer (some ⟨g, 0, none⟩)] w fun x w' => x = .returned (.int .i64 (endE e l.length)) ∧ Rdr w' g l (endE e l.length) ∧ w.grownBy w' (some g) := by
  have H0 := Lib.hid h
  clear h
  by_cases he : e = 0 ∧ 0 < l.length
  · obtain ⟨rfl, hl⟩ := he
    have hE : endE 0 l.length = 11 := by simp [endE, hl]
    have hL : leftN 0 l.length = (l.length : Int) := by simp [leftN]
    rw [hE]
    clear hE
    go_enter Tryd.func44, Tryd.ntmps44
    go_wp2_with (first
      | (go_at_call 63; refine (Left_any g l 0 _ H0.out).mono ?_; rintro x w' ⟨rfl, rfl⟩)
      | (go_at_call 60; refine (Fail_any g l 0 11 _ H0.out).mono ?_; rintro x w1 ⟨rfl, h1, hg1⟩; rw [failE_0] at h1)
      | (go_at_call 58; refine (Err_any g l _ _ h1).mono ?_; rintro x w' ⟨rfl, rfl⟩))
    go_ret
    exact ⟨rfl, h1, hg1⟩
  · have hE : endE e l.length = e := by simp only [endE, if_neg he]
    have hL : leftN e l.length = 0 := by
      unfold leftN
      split
      · have : ¬ 0 < l.length := fun h => he ⟨by assumption, h⟩
        omega
      · rfl
    rw [hE]
    clear hE he
    go_enter Tryd.func44, Tryd.ntmps44
    go_wp2_with (first
      | (go_at_call 63; refine (Left_any g l e _ H0.out).mono ?_; rintro x w' ⟨rfl, rfl⟩)
      | (go_at_call 58; refine (Err_any g l _ _ H0.out).mono ?_; rintro x w' ⟨rfl, rfl⟩))
    go_ret
    exact ⟨rfl, H0.out, World.grownBy.refl _ _⟩
set_option maxRecDepth 10000 in
set_option maxHeartbeats 400000 in
theorem End_nil (w : World) : Calls Tryd.prog 44 #[.pointer none] w fun x w' => x = .returned (.int .i64 1) ∧ w = w' := by
  go_enter Tryd.func44, Tryd.ntmps44
  go_wp2_with (first
    | (go_at_call 63; refine (Left_nil _).mono ?_; rintro x w' ⟨rfl, rfl⟩)
    | (go_at_call 58; refine (Err_nil _).mono ?_; rintro x w' ⟨rfl, rfl⟩))
  go_ret
  exact ⟨rfl, rfl⟩

set_option maxRecDepth 10000 in
set_option maxHeartbeats 400000 in
theorem Read_any (A : Option Addr) (n c : Nat) (l : List UInt8) (w : World) (hr : Rd w w.heap.size A n l) (hn : n ≤ 274877906000) :
    Calls Tryd.prog 41 #[.slice A n c] w fun e w' => ∃ g, e = .returned (.pointer (some ⟨g, 0, none⟩)) ∧ Rdr w' g l 0 ∧ w.heap.size ≤ g ∧ Below w.heap.size w w' := by
  go_enter Tryd.func41, Tryd.ntmps41
  go_wp2_with (go_at_call 52; refine (extend_any A n c l _ _ hr (by omega) (by omega) (by omega)).mono ?_; rintro e w1 ⟨c1, rfl, hown1, hb1⟩)
  go_ret
  have hf := ownsRow_form hown1
  obtain ⟨_, _, hq, hnc, hcm⟩ := hf
  injection hq with hq1 hq2 hq3
  subst hq3
  refine ⟨_, rfl, ⟨_, n, c1, heap_alloc_new _ _, hnc, by simpa [maxLen] using hcm, (Rd.own hown1).alloc (Nat.le_refl _) _⟩, hb1.size, hb1.alloc hb1.size _⟩

end Go.Proofs.YtfabcmohaikfoaaDoor
