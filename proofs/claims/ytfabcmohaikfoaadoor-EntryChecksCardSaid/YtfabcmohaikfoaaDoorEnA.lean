/- Package entry: the tables, boxed entries, within, fits, Check, fieldsOf. -/
import Derived.Test.YtfabcmohaikfoaaDoorEnP
import Derived.Test.YtfabcmohaikfoaaDoorEnT
import Derived.Test.YtfabcmohaikfoaaDoorFrE
namespace Go.Proofs.YtfabcmohaikfoaaDoor
open Go.RowKit

/-- the fields of each kind, a bit each -/
def namedL : List Nat := [0, 9, 3, 2, 0, 4, 4]
set_option maxRecDepth 10000 in
/-- the tables lie in memory -/
def T7 (w : World) : Prop := Tb w ∧ (∀ i, i < 7 → w.cell? ⟨0, i, none⟩ = some (.int .u8 ((namedL.getD i 0 : Nat) : Int))) ∧ Lib.TabIs Tryd.prog w "internal/strconv.uint64pow10" .u64 Lib.pow10Tab
theorem T7.to {w w' : World} (h : T7 w) (hb : Below w.heap.size w w') : T7 w' :=
  ⟨h.1.below hb h.1.size, fun i hi => (hb.cell (World.block_lt_of_cell? w _ (h.2.1 i hi))).trans (h.2.1 i hi), Lib.tabBelow_of_tabIs h.2.2 w' hb⟩

/-- an entry's value -/
abbrev eV (S O K F L P : Int) (A : Option Addr) (n c : Nat) : Value := .agg #[.int .i64 S, .int .i64 O, .int .i64 K, .int .i64 F, .int .i64 L, .int .i64 P, .slice A n c]
/-- block b holds an entry -/
structure EAt (b : Nat) (S O K F L P : Int) (A : Option Addr) (n c : Nat) (w : World) : Prop where
  c0 : w.cell? ⟨b, 0, none⟩ = some (.int .i64 S)
  c1 : w.cell? ⟨b, 1, none⟩ = some (.int .i64 O)
  c2 : w.cell? ⟨b, 2, none⟩ = some (.int .i64 K)
  c3 : w.cell? ⟨b, 3, none⟩ = some (.int .i64 F)
  c4 : w.cell? ⟨b, 4, none⟩ = some (.int .i64 L)
  c5 : w.cell? ⟨b, 5, none⟩ = some (.int .i64 P)
  c6 : w.cell? ⟨b, 6, none⟩ = some (.slice A n c)
theorem EAt.box (w : World) (S O K F L P : Int) (A : Option Addr) (n c : Nat) (t : TypeId) : EAt w.heap.size S O K F L P A n c (w.alloc (.cells #[.int .i64 S, .int .i64 O, .int .i64 K, .int .i64 F, .int .i64 L, .int .i64 P, .slice A n c] t)) := by
  refine ⟨?_, ?_, ?_, ?_, ?_, ?_, ?_⟩ <;> (rw [cell_blk (heap_alloc_new w _)]; rfl)
theorem EAt.lt {b : Nat} {S O K F L P : Int} {A : Option Addr} {n c : Nat} {w : World} (h : EAt b S O K F L P A n c w) : b < w.heap.size := World.block_lt_of_cell? w _ h.c0
theorem EAt.to {b : Nat} {S O K F L P : Int} {A : Option Addr} {n c : Nat} {w w' : World} (h : EAt b S O K F L P A n c w) (hb : Below w.heap.size w w') : EAt b S O K F L P A n c w' := by
  have hl := h.lt
  exact ⟨(hb.cell hl).trans h.c0, (hb.cell hl).trans h.c1, (hb.cell hl).trans h.c2, (hb.cell hl).trans h.c3, (hb.cell hl).trans h.c4, (hb.cell hl).trans h.c5, (hb.cell hl).trans h.c6⟩
set_option maxRecDepth 10000 in
/-- a call that tells v, and makes memory at most -/
def Val7 (f : FuncId) (args : Array Value) (w : World) (v : Value) : Prop := Calls Tryd.prog f args w fun e w' => e = .returned v ∧ Hid (Below w.heap.size w w')
theorem bel7 {a w w' : World} (h : Hid (Below a.heap.size a w)) (hb : Hid (Below w.heap.size w w')) : Hid (Below a.heap.size a w') := h.out.trans (hb.out.mono h.out.size)
theorem al7 (w : World) (o : Obj) : Hid (Below w.heap.size w (w.alloc o)) := (Below.refl _ _).alloc (Nat.le_refl _) _

set_option maxRecDepth 10000 in
theorem within7 (n a b : Int) (w : World) : Calls Tryd.prog 21 #[.int .i64 n, .int .i64 a, .int .i64 b] w fun e w' => e = .returned (.bool (decide (a ≤ n ∧ n ≤ b))) ∧ w = w' := by
  by_cases h0 : a ≤ n
  · by_cases h2 : n ≤ b
    · have He := Lib.hid (show decide (a ≤ n ∧ n ≤ b) = true from decide_eq_true ⟨h0, h2⟩)
      rw [He.out]
      clear He
      go_enter Tryd.func21, Tryd.ntmps21
      go_wp2_with fail
      go_ret
      exact ⟨by first | rfl | simp, rfl⟩
    · have He := Lib.hid (show decide (a ≤ n ∧ n ≤ b) = false from decide_eq_false fun h => h2 h.2)
      rw [He.out]
      clear He
      go_enter Tryd.func21, Tryd.ntmps21
      go_wp2_with fail
      go_ret
      exact ⟨by first | rfl | simp, rfl⟩
  · have He := Lib.hid (show decide (a ≤ n ∧ n ≤ b) = false from decide_eq_false fun h => h0 h.1)
    rw [He.out]
    clear He
    go_enter Tryd.func21, Tryd.ntmps21
    go_wp2_with fail
    go_ret
    exact ⟨by first | rfl | simp, rfl⟩
set_option maxRecDepth 10000 in
/-- within, its answer known -/
theorem with7 {n a b : Int} {r : Bool} (h : decide (a ≤ n ∧ n ≤ b) = r) (w : World) : Hid (Calls Tryd.prog 21 #[.int .i64 n, .int .i64 a, .int .i64 b] w fun e w' => e = .returned (.bool r) ∧ w = w') := by
  subst h; exact within7 n a b w

theorem fit_1 (F L P : Int) (n : Nat) : decide (fitK 1 F L P n) = (decide (0 ≤ F ∧ F ≤ 512) && decide (1 ≤ (n : Int) ∧ (n : Int) ≤ 128)) := by
  rw [← Bool.decide_and]; exact decide_eq_decide.2 (by unfold fitK; omega)
theorem fit_2 (F L P : Int) (n : Nat) : decide (fitK 2 F L P n) = (decide (0 ≤ F ∧ F ≤ 512) && decide (1 ≤ L ∧ L ≤ 512)) := by
  rw [← Bool.decide_and]; exact decide_eq_decide.2 (by unfold fitK; omega)
theorem fit_3 (F L P : Int) (n : Nat) : decide (fitK 3 F L P n) = decide (0 ≤ L ∧ L ≤ 512) := decide_eq_decide.2 (by unfold fitK; omega)
theorem fit_4 (F L P : Int) (n : Nat) : decide (fitK 4 F L P n) = true := decide_eq_true (by unfold fitK; omega)
theorem fit_5 (F L P : Int) (n : Nat) : decide (fitK 5 F L P n) = decide (1 ≤ P ∧ P ≤ 100) := decide_eq_decide.2 (by unfold fitK; omega)
theorem fit_6 (F L P : Int) (n : Nat) : decide (fitK 6 F L P n) = decide (1 ≤ P ∧ P ≤ 100) := decide_eq_decide.2 (by unfold fitK; omega)
theorem fit_0 (K F L P : Int) (n : Nat) (h1 : ¬ K = 1) (h2 : ¬ K = 2) (h3 : ¬ K = 3) (h4 : ¬ K = 4) (h5 : ¬ K = 5) (h6 : ¬ K = 6) : decide (fitK K F L P n) = false := decide_eq_false (by unfold fitK; omega)
theorem kinds7 (K : Int) : K = 1 ∨ K = 2 ∨ K = 3 ∨ K = 4 ∨ K = 5 ∨ K = 6 ∨ (¬ K = 1 ∧ ¬ K = 2 ∧ ¬ K = 3 ∧ ¬ K = 4 ∧ ¬ K = 5 ∧ ¬ K = 6) := by omega

set_option maxRecDepth 10000 in
set_option maxHeartbeats 1000000 in
theorem fits7_1 (S O F L P : Int) (A : Option Addr) (n c : Nat) (w : World) (r1 r2 : Bool) (h1 : decide (0 ≤ F ∧ F ≤ 512) = r1) (h2 : decide (1 ≤ (n : Int) ∧ (n : Int) ≤ 128) = r2) : Val7 22 #[eV S O 1 F L P A n c] w (.bool (r1 && r2)) := by
  have Hb := al7 w (.cells #[.int .i64 S, .int .i64 O, .int .i64 1, .int .i64 F, .int .i64 L, .int .i64 P, .slice A n c] 24)
  have Hh := Lib.hid (EAt.box w S O 1 F L P A n c 24)
  have H1 := fun w => with7 h1 w
  have H2 := fun w => with7 h2 w
  clear h1 h2
  cases r1
  · go_enter Tryd.func22, Tryd.ntmps22
    go_upto_region 1 with fail
    generalize w.alloc (.cells #[.int .i64 S, .int .i64 O, .int .i64 1, .int .i64 F, .int .i64 L, .int .i64 P, .slice A n c] 24) = w1 at Hb Hh ⊢
    obtain ⟨b, hbe⟩ : ∃ b, b = w.heap.size := ⟨_, rfl⟩
    rw [← hbe] at Hh ⊢
    clear hbe
    have c2 := Hh.out.c2
    have c3 := Hh.out.c3
    go_wp2_with fail
    refine (H1 _).out.mono ?_
    rintro e w2 ⟨rfl, rfl⟩
    go_wp2_with fail
    go_ret
    exact ⟨by first | rfl | simp, Hb⟩
  · go_enter Tryd.func22, Tryd.ntmps22
    go_upto_region 1 with fail
    generalize w.alloc (.cells #[.int .i64 S, .int .i64 O, .int .i64 1, .int .i64 F, .int .i64 L, .int .i64 P, .slice A n c] 24) = w1 at Hb Hh ⊢
    obtain ⟨b, hbe⟩ : ∃ b, b = w.heap.size := ⟨_, rfl⟩
    rw [← hbe] at Hh ⊢
    clear hbe
    have c2 := Hh.out.c2
    have c3 := Hh.out.c3
    have c6 := Hh.out.c6
    go_wp2_with fail
    refine (H1 _).out.mono ?_
    rintro e w2 ⟨rfl, rfl⟩
    go_wp2_with fail
    refine (H2 _).out.mono ?_
    rintro e w2 ⟨rfl, rfl⟩
    go_wp2_with fail
    go_ret
    exact ⟨by first | rfl | simp, Hb⟩
set_option maxRecDepth 10000 in
set_option maxHeartbeats 1000000 in
theorem fits7_2 (S O F L P : Int) (A : Option Addr) (n c : Nat) (w : World) (r1 r2 : Bool) (h1 : decide (0 ≤ F ∧ F ≤ 512) = r1) (h2 : decide (1 ≤ L ∧ L ≤ 512) = r2) : Val7 22 #[eV S O 2 F L P A n c] w (.bool (r1 && r2)) := by
  have Hb := al7 w (.cells #[.int .i64 S, .int .i64 O, .int .i64 2, .int .i64 F, .int .i64 L, .int .i64 P, .slice A n c] 24)
  have Hh := Lib.hid (EAt.box w S O 2 F L P A n c 24)
  have H1 := fun w => with7 h1 w
  have H2 := fun w => with7 h2 w
  clear h1 h2
  cases r1
  · go_enter Tryd.func22, Tryd.ntmps22
    go_upto_region 1 with fail
    generalize w.alloc (.cells #[.int .i64 S, .int .i64 O, .int .i64 2, .int .i64 F, .int .i64 L, .int .i64 P, .slice A n c] 24) = w1 at Hb Hh ⊢
    obtain ⟨b, hbe⟩ : ∃ b, b = w.heap.size := ⟨_, rfl⟩
    rw [← hbe] at Hh ⊢
    clear hbe
    have c2 := Hh.out.c2
    have c3 := Hh.out.c3
    go_wp2_with fail
    refine (H1 _).out.mono ?_
    rintro e w2 ⟨rfl, rfl⟩
    go_wp2_with fail
    go_ret
    exact ⟨by first | rfl | simp, Hb⟩
  · go_enter Tryd.func22, Tryd.ntmps22
    go_upto_region 1 with fail
    generalize w.alloc (.cells #[.int .i64 S, .int .i64 O, .int .i64 2, .int .i64 F, .int .i64 L, .int .i64 P, .slice A n c] 24) = w1 at Hb Hh ⊢
    obtain ⟨b, hbe⟩ : ∃ b, b = w.heap.size := ⟨_, rfl⟩
    rw [← hbe] at Hh ⊢
    clear hbe
    have c2 := Hh.out.c2
    have c3 := Hh.out.c3
    have c4 := Hh.out.c4
    go_wp2_with fail
    refine (H1 _).out.mono ?_
    rintro e w2 ⟨rfl, rfl⟩
    go_wp2_with fail
    refine (H2 _).out.mono ?_
    rintro e w2 ⟨rfl, rfl⟩
    go_wp2_with fail
    go_ret
    exact ⟨by first | rfl | simp, Hb⟩
set_option maxRecDepth 10000 in
set_option maxHeartbeats 1000000 in
theorem fits7_3 (S O F L P : Int) (A : Option Addr) (n c : Nat) (w : World) (r1 : Bool) (h1 : decide (0 ≤ L ∧ L ≤ 512) = r1) : Val7 22 #[eV S O 3 F L P A n c] w (.bool r1) := by
  have Hb := al7 w (.cells #[.int .i64 S, .int .i64 O, .int .i64 3, .int .i64 F, .int .i64 L, .int .i64 P, .slice A n c] 24)
  have Hh := Lib.hid (EAt.box w S O 3 F L P A n c 24)
  have H1 := fun w => with7 h1 w
  clear h1
  go_enter Tryd.func22, Tryd.ntmps22
  go_upto_region 1 with fail
  generalize w.alloc (.cells #[.int .i64 S, .int .i64 O, .int .i64 3, .int .i64 F, .int .i64 L, .int .i64 P, .slice A n c] 24) = w1 at Hb Hh ⊢
  obtain ⟨b, hbe⟩ : ∃ b, b = w.heap.size := ⟨_, rfl⟩
  rw [← hbe] at Hh ⊢
  clear hbe
  have c2 := Hh.out.c2
  have c4 := Hh.out.c4
  go_wp2_with fail
  refine (H1 _).out.mono ?_
  rintro e w2 ⟨rfl, rfl⟩
  go_wp2_with fail
  go_ret
  exact ⟨by first | rfl | simp, Hb⟩
set_option maxRecDepth 10000 in
set_option maxHeartbeats 1000000 in
theorem fits7_5 (S O F L P : Int) (A : Option Addr) (n c : Nat) (w : World) (r1 : Bool) (h1 : decide (1 ≤ P ∧ P ≤ 100) = r1) : Val7 22 #[eV S O 5 F L P A n c] w (.bool r1) := by
  have Hb := al7 w (.cells #[.int .i64 S, .int .i64 O, .int .i64 5, .int .i64 F, .int .i64 L, .int .i64 P, .slice A n c] 24)
  have Hh := Lib.hid (EAt.box w S O 5 F L P A n c 24)
  have H1 := fun w => with7 h1 w
  clear h1
  go_enter Tryd.func22, Tryd.ntmps22
  go_upto_region 1 with fail
  generalize w.alloc (.cells #[.int .i64 S, .int .i64 O, .int .i64 5, .int .i64 F, .int .i64 L, .int .i64 P, .slice A n c] 24) = w1 at Hb Hh ⊢
  obtain ⟨b, hbe⟩ : ∃ b, b = w.heap.size := ⟨_, rfl⟩
  rw [← hbe] at Hh ⊢
  clear hbe
  have c2 := Hh.out.c2
  have c5 := Hh.out.c5
  go_wp2_with fail
  refine (H1 _).out.mono ?_
  rintro e w2 ⟨rfl, rfl⟩
  go_wp2_with fail
  go_ret
  exact ⟨by first | rfl | simp, Hb⟩
set_option maxRecDepth 10000 in
set_option maxHeartbeats 1000000 in
theorem fits7_6 (S O F L P : Int) (A : Option Addr) (n c : Nat) (w : World) (r1 : Bool) (h1 : decide (1 ≤ P ∧ P ≤ 100) = r1) : Val7 22 #[eV S O 6 F L P A n c] w (.bool r1) := by
  have Hb := al7 w (.cells #[.int .i64 S, .int .i64 O, .int .i64 6, .int .i64 F, .int .i64 L, .int .i64 P, .slice A n c] 24)
  have Hh := Lib.hid (EAt.box w S O 6 F L P A n c 24)
  have H1 := fun w => with7 h1 w
  clear h1
  go_enter Tryd.func22, Tryd.ntmps22
  go_upto_region 1 with fail
  generalize w.alloc (.cells #[.int .i64 S, .int .i64 O, .int .i64 6, .int .i64 F, .int .i64 L, .int .i64 P, .slice A n c] 24) = w1 at Hb Hh ⊢
  obtain ⟨b, hbe⟩ : ∃ b, b = w.heap.size := ⟨_, rfl⟩
  rw [← hbe] at Hh ⊢
  clear hbe
  have c2 := Hh.out.c2
  have c5 := Hh.out.c5
  go_wp2_with fail
  refine (H1 _).out.mono ?_
  rintro e w2 ⟨rfl, rfl⟩
  go_wp2_with fail
  go_ret
  exact ⟨by first | rfl | simp, Hb⟩
set_option maxRecDepth 10000 in
set_option maxHeartbeats 1000000 in
theorem fits7_4 (S O F L P : Int) (A : Option Addr) (n c : Nat) (w : World) : Val7 22 #[eV S O 4 F L P A n c] w (.bool true) := by
  have Hb := al7 w (.cells #[.int .i64 S, .int .i64 O, .int .i64 4, .int .i64 F, .int .i64 L, .int .i64 P, .slice A n c] 24)
  have Hh := Lib.hid (EAt.box w S O 4 F L P A n c 24)
  go_enter Tryd.func22, Tryd.ntmps22
  go_upto_region 1 with fail
  generalize w.alloc (.cells #[.int .i64 S, .int .i64 O, .int .i64 4, .int .i64 F, .int .i64 L, .int .i64 P, .slice A n c] 24) = w1 at Hb Hh ⊢
  obtain ⟨b, hbe⟩ : ∃ b, b = w.heap.size := ⟨_, rfl⟩
  rw [← hbe] at Hh ⊢
  clear hbe
  have c2 := Hh.out.c2
  go_wp2_with fail
  go_ret
  exact ⟨by first | rfl | simp, Hb⟩
set_option maxRecDepth 10000 in
set_option maxHeartbeats 1000000 in
theorem fits7_0 (S O K F L P : Int) (A : Option Addr) (n c : Nat) (w : World) (k1 : ¬ K = 1) (k2 : ¬ K = 2) (k3 : ¬ K = 3) (k4 : ¬ K = 4) (k5 : ¬ K = 5) (k6 : ¬ K = 6) : Val7 22 #[eV S O K F L P A n c] w (.bool false) := by
  have Hb := al7 w (.cells #[.int .i64 S, .int .i64 O, .int .i64 K, .int .i64 F, .int .i64 L, .int .i64 P, .slice A n c] 24)
  have Hh := Lib.hid (EAt.box w S O K F L P A n c 24)
  go_enter Tryd.func22, Tryd.ntmps22
  go_upto_region 1 with fail
  generalize w.alloc (.cells #[.int .i64 S, .int .i64 O, .int .i64 K, .int .i64 F, .int .i64 L, .int .i64 P, .slice A n c] 24) = w1 at Hb Hh ⊢
  obtain ⟨b, hbe⟩ : ∃ b, b = w.heap.size := ⟨_, rfl⟩
  rw [← hbe] at Hh ⊢
  clear hbe
  have c2 := Hh.out.c2
  go_wp2_with fail
  go_ret
  exact ⟨by first | rfl | simp, Hb⟩
set_option maxRecDepth 10000 in
theorem fits7 (S O K F L P : Int) (A : Option Addr) (n c : Nat) (w : World) : Val7 22 #[eV S O K F L P A n c] w (.bool (decide (fitK K F L P n))) := by
  rcases kinds7 K with rfl | rfl | rfl | rfl | rfl | rfl | ⟨k1, k2, k3, k4, k5, k6⟩
  · rw [fit_1]; exact fits7_1 _ _ _ _ _ _ _ _ _ _ _ rfl rfl
  · rw [fit_2]; exact fits7_2 _ _ _ _ _ _ _ _ _ _ _ rfl rfl
  · rw [fit_3]; exact fits7_3 _ _ _ _ _ _ _ _ _ _ rfl
  · rw [fit_4]; exact fits7_4 _ _ _ _ _ _ _ _ _
  · rw [fit_5]; exact fits7_5 _ _ _ _ _ _ _ _ _ _ rfl
  · rw [fit_6]; exact fits7_6 _ _ _ _ _ _ _ _ _ _ rfl
  · rw [fit_0 _ _ _ _ _ k1 k2 k3 k4 k5 k6]; exact fits7_0 _ _ _ _ _ _ _ _ _ _ k1 k2 k3 k4 k5 k6
end Go.Proofs.YtfabcmohaikfoaaDoor
