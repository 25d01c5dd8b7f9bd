/- Package entry: Check, fieldsOf, Clean. -/
import Derived.Test.YtfabcmohaikfoaaDoorEnA
import Derived.Deep.RegionHeld3
import Derived.Deep.RegionWith
namespace Go.Proofs.YtfabcmohaikfoaaDoor
open Go.RowKit

/-- what Check tells -/
def may7E (e : En) : Int := if May7 e then 0 else 70
theorem may7_dec (e : En) : decide (May7 e) = (decide (1 ≤ e.s ∧ e.s ≤ 1099511627776) && (decide (0 ≤ e.o ∧ e.o ≤ 7) && decide (fitK e.k e.f e.l e.p e.d.length))) := by
  rw [← Bool.decide_and, ← Bool.decide_and]; exact decide_eq_decide.2 Iff.rfl
set_option maxRecDepth 10000 in
set_option maxHeartbeats 1000000 in
theorem Check7_core (S O K F L P : Int) (A : Option Addr) (n c : Nat) (w : World) (r1 r2 r3 : Bool) (h1 : decide (1 ≤ S ∧ S ≤ 1099511627776) = r1) (h2 : decide (0 ≤ O ∧ O ≤ 7) = r2) (h3 : decide (fitK K F L P n) = r3) :
    Val7 11 #[eV S O K F L P A n c] w (.int .i64 (if (r1 && (r2 && r3)) = true then 0 else 70)) := by
  have Hb := al7 w (.cells #[.int .i64 S, .int .i64 O, .int .i64 K, .int .i64 F, .int .i64 L, .int .i64 P, .slice A n c] 24)
  have Hh := Lib.hid (EAt.box w S O K F L P A n c 24)
  have H1 := fun w => with7 h1 w
  have H2 := fun w => with7 h2 w
  have H3 := fun w => Lib.hid (fits7 S O K F L P A n c w)
  rw [h3] at H3
  clear h1 h2 h3
  go_enter Tryd.func11, Tryd.ntmps11
  go_upto_region 1 with fail
  generalize w.alloc (.cells #[.int .i64 S, .int .i64 O, .int .i64 K, .int .i64 F, .int .i64 L, .int .i64 P, .slice A n c] 24) = w1 at Hb Hh ⊢
  obtain ⟨b, hbe⟩ : ∃ b, b = w.heap.size := ⟨_, rfl⟩
  rw [← hbe] at Hh ⊢
  clear hbe
  have c0 := Hh.out.c0
  have c1 := Hh.out.c1
  have c2 := Hh.out.c2
  have c3 := Hh.out.c3
  have c4 := Hh.out.c4
  have c5 := Hh.out.c5
  have c6 := Hh.out.c6
  go_wp2_with fail
  refine (H1 _).out.mono ?_
  rintro e w2 ⟨rfl, rfl⟩
  cases r1
  · go_wp2_with fail
    go_ret
    exact ⟨by first | rfl | simp, Hb⟩
  · go_wp2_with fail
    refine (H2 _).out.mono ?_
    rintro e w2 ⟨rfl, rfl⟩
    cases r2
    · go_wp2_with fail
      go_ret
      exact ⟨by first | rfl | simp, Hb⟩
    · go_wp2_with fail
      refine (H3 _).out.mono ?_
      rintro e w2 ⟨rfl, hb2⟩
      have Hb3 := bel7 Hb hb2
      cases r3
      · go_wp2_with fail
        go_ret
        exact ⟨by first | rfl | simp, Hb3⟩
      · go_wp2_with fail
        go_ret
        exact ⟨by first | rfl | simp, Hb3⟩
set_option maxRecDepth 10000 in
theorem Check7 (S O K F L P : Int) (A : Option Addr) (n c : Nat) (d : List UInt8) (hn : d.length = n) (w : World) : Val7 11 #[eV S O K F L P A n c] w (.int .i64 (may7E ⟨S, O, K, F, L, P, d⟩)) := by
  have h := Check7_core S O K F L P A n c w _ _ _ rfl rfl rfl
  have e := may7_dec ⟨S, O, K, F, L, P, d⟩
  dsimp only at e
  rw [hn] at e
  rw [← e] at h
  unfold may7E
  simpa using h

/-- the bits of a kind -/
def fldK (K : Int) : Nat := if K = 1 then 9 else if K = 2 then 3 else if K = 3 then 2 else if K = 5 ∨ K = 6 then 4 else 0
set_option maxRecDepth 10000 in
theorem fieldsOf7 (K : Int) (w : World) (ht : T7 w) : Calls Tryd.prog 23 #[.int .i64 K] w fun e w' => e = .returned (.int .u8 (fldK K : Int)) ∧ w = w' := by
  by_cases h : 0 ≤ K ∧ K ≤ 6
  · have H1 := with7 (n := K) (a := 0) (b := 6) (decide_eq_true h) w
    obtain ⟨i, rfl⟩ : ∃ i : Nat, K = i := ⟨K.toNat, by omega⟩
    have hi : i < 7 := by omega
    have hc := ht.2.1 i hi
    have He : Hid (((namedL.getD i 0 : Nat) : Int) = (fldK i : Int)) := by
      obtain rfl | rfl | rfl | rfl | rfl | rfl | rfl : i = 0 ∨ i = 1 ∨ i = 2 ∨ i = 3 ∨ i = 4 ∨ i = 5 ∨ i = 6 := by omega
      all_goals rfl
    rw [He.out] at hc
    have hi0 : (0 : Int) ≤ (i : Int) := by omega
    have hi1 : (i : Int) < 7 := by omega
    clear h ht
    go_enter Tryd.func23, Tryd.ntmps23
    go_wp2_with fail
    refine H1.out.mono ?_
    rintro e w2 ⟨rfl, rfl⟩
    go_wp2_with fail
    go_ret
    exact ⟨rfl, rfl⟩
  · have H1 := with7 (n := K) (a := 0) (b := 6) (decide_eq_false h) w
    have He := Lib.hid (show fldK K = 0 by unfold fldK; repeat rw [if_neg (by omega)])
    rw [He.out]
    clear h ht
    go_enter Tryd.func23, Tryd.ntmps23
    go_wp2_with fail
    refine H1.out.mono ?_
    rintro e w2 ⟨rfl, rfl⟩
    go_wp2_with fail
    go_ret
    exact ⟨rfl, rfl⟩

set_option maxRecDepth 10000 in
/-- the cleaned entry, new: a value and what its data reads as -/
def ClnP (w : World) (e : En) (x : Ending) (w' : World) : Prop :=
  ∃ A c, x = .returned (eV (cln7 e).s (cln7 e).o (cln7 e).k (cln7 e).f (cln7 e).l (cln7 e).p A (cln7 e).d.length c) ∧ Hid (w'.ownsRow w.heap.size 5 1 (.slice A (cln7 e).d.length c) (cln7 e).d.length ((cln7 e).d.map bv)) ∧
    (cln7 e).d.length ≤ c ∧ c ≤ maxLen ∧ Hid (Below w.heap.size w w')

theorem ents_of {w : World} {b : Nat} {t : TypeId} {v0 v1 v2 v3 v4 v5 v6 : Value} (h : w.heap[b]? = some (.cells #[v0, v1, v2, v3, v4, v5, v6] t (0, 0))) :
    w.cell? ⟨b, 0, none⟩ = some v0 ∧ w.cell? ⟨b, 1, none⟩ = some v1 ∧ w.cell? ⟨b, 2, none⟩ = some v2 ∧ w.cell? ⟨b, 3, none⟩ = some v3 ∧ w.cell? ⟨b, 4, none⟩ = some v4 ∧ w.cell? ⟨b, 5, none⟩ = some v5 ∧ w.cell? ⟨b, 6, none⟩ = some v6 := by
  refine ⟨?_, ?_, ?_, ?_, ?_, ?_, ?_⟩ <;> (rw [cell_blk h]; rfl)
theorem gb7 {w w' : World} {R k : Nat} {o : Obj} (h : w.grownBy w' (some R)) (hk : k ≠ R) (ho : w.heap[k]? = some o) : w'.heap[k]? = some o :=
  (h.block k (lt_of_block ho) fun e => hk (Option.some.inj e)).trans ho
theorem gset7 (w : World) (R k : Nat) (u : Value) : w.grownBy (w.setCell ⟨R, k, none⟩ u) (some R) :=
  ⟨rfl, rfl, rfl, by simp [World.setCell], fun g _ hne => Below.heap_setCell w ⟨R, k, none⟩ u g (fun q => hne (by rw [q]))⟩
/-- a block's seven cells set one by one -/
def put7 (w : World) (z : Nat) (v0 v1 v2 v3 v4 v5 v6 : Value) : World :=
  ((((((w.setCell ⟨z, 0, none⟩ v0).setCell ⟨z, 1, none⟩ v1).setCell ⟨z, 2, none⟩ v2).setCell ⟨z, 3, none⟩ v3).setCell ⟨z, 4, none⟩ v4).setCell ⟨z, 5, none⟩ v5).setCell ⟨z, 6, none⟩ v6
theorem put7_blk {w : World} {z : Nat} {t : TypeId} {u0 u1 u2 u3 u4 u5 u6 : Value} (h : w.heap[z]? = some (.cells #[u0, u1, u2, u3, u4, u5, u6] t (0, 0))) (v0 v1 v2 v3 v4 v5 v6 : Value) :
    (put7 w z v0 v1 v2 v3 v4 v5 v6).heap[z]? = some (.cells #[v0, v1, v2, v3, v4, v5, v6] t (0, 0)) := by
  have h0 : (w.setCell ⟨z, 0, none⟩ v0).heap[z]? = some (.cells #[v0, u1, u2, u3, u4, u5, u6] t (0, 0)) := set_blk h 0 v0
  have h1 : ((w.setCell ⟨z, 0, none⟩ v0).setCell ⟨z, 1, none⟩ v1).heap[z]? = some (.cells #[v0, v1, u2, u3, u4, u5, u6] t (0, 0)) := set_blk h0 1 v1
  have h2 : (((w.setCell ⟨z, 0, none⟩ v0).setCell ⟨z, 1, none⟩ v1).setCell ⟨z, 2, none⟩ v2).heap[z]? = some (.cells #[v0, v1, v2, u3, u4, u5, u6] t (0, 0)) := set_blk h1 2 v2
  have h3 : ((((w.setCell ⟨z, 0, none⟩ v0).setCell ⟨z, 1, none⟩ v1).setCell ⟨z, 2, none⟩ v2).setCell ⟨z, 3, none⟩ v3).heap[z]? = some (.cells #[v0, v1, v2, v3, u4, u5, u6] t (0, 0)) := set_blk h2 3 v3
  have h4 : (((((w.setCell ⟨z, 0, none⟩ v0).setCell ⟨z, 1, none⟩ v1).setCell ⟨z, 2, none⟩ v2).setCell ⟨z, 3, none⟩ v3).setCell ⟨z, 4, none⟩ v4).heap[z]? = some (.cells #[v0, v1, v2, v3, v4, u5, u6] t (0, 0)) := set_blk h3 4 v4
  have h5 : ((((((w.setCell ⟨z, 0, none⟩ v0).setCell ⟨z, 1, none⟩ v1).setCell ⟨z, 2, none⟩ v2).setCell ⟨z, 3, none⟩ v3).setCell ⟨z, 4, none⟩ v4).setCell ⟨z, 5, none⟩ v5).heap[z]? = some (.cells #[v0, v1, v2, v3, v4, v5, u6] t (0, 0)) := set_blk h4 5 v5
  have h6 : (((((((w.setCell ⟨z, 0, none⟩ v0).setCell ⟨z, 1, none⟩ v1).setCell ⟨z, 2, none⟩ v2).setCell ⟨z, 3, none⟩ v3).setCell ⟨z, 4, none⟩ v4).setCell ⟨z, 5, none⟩ v5).setCell ⟨z, 6, none⟩ v6).heap[z]? = some (.cells #[v0, v1, v2, v3, v4, v5, v6] t (0, 0)) := set_blk h5 6 v6
  exact h6
theorem put7_below {w : World} {B z : Nat} (hB : B ≤ z) (v0 v1 v2 v3 v4 v5 v6 : Value) : Below B w (put7 w z v0 v1 v2 v3 v4 v5 v6) :=
  ((((((((Below.refl B w).setCell (p := ⟨z, 0, none⟩) hB v0).setCell (p := ⟨z, 1, none⟩) hB v1).setCell (p := ⟨z, 2, none⟩) hB v2).setCell (p := ⟨z, 3, none⟩) hB v3).setCell (p := ⟨z, 4, none⟩) hB v4).setCell (p := ⟨z, 5, none⟩) hB v5).setCell (p := ⟨z, 6, none⟩) hB v6)
/-- the blocks of two entries, the second one behind the first -/
theorem two_ents (w : World) (o1 o2 : Obj) : ((w.alloc o1).alloc o2).heap[w.heap.size]? = some o1 ∧ ((w.alloc o1).alloc o2).heap[w.heap.size + 1]? = some o2 ∧ Below w.heap.size w ((w.alloc o1).alloc o2) := by
  have s1 : (w.alloc o1).heap.size = w.heap.size + 1 := by simp
  refine ⟨?_, ?_, ?_⟩
  · rw [heap_alloc_old _ _ (by omega)]; exact heap_alloc_new w o1
  · rw [← s1]; exact heap_alloc_new _ o2
  · exact ((Below.refl _ _).alloc (Nat.le_refl _) _).alloc (by simp) _

/-- a row of the call's own stays where a block of another element type is written -/
theorem own_cell7 {w : World} {B n s R : Nat} {e t : TypeId} {v : Value} {xs : List Value} {cs : Array Value} (h : w.ownsRow B e s v n xs) (hR : w.heap[R]? = some (.cells cs t (0, 0))) (hne : e ≠ t) (k : Nat) (u : Value) : (w.setCell ⟨R, k, none⟩ u).ownsRow B e s v n xs := by
  refine ⟨h.1, ?_⟩
  rcases h.2 with h | ⟨g, cap, cur, h1, h2, h3, h4⟩
  · exact .inl h
  · refine .inr ⟨g, cap, cur, h1, h2, (Below.heap_setCell w ⟨R, k, none⟩ u g fun q => ?_).trans h3, h4⟩
    have q : g = R := q
    subst q
    rw [hR] at h3
    injection h3 with h3
    injection h3 with _ h3
    exact hne h3.symm
theorem own_put7 {w : World} {B n s z : Nat} {e t : TypeId} {v : Value} {xs : List Value} {u0 u1 u2 u3 u4 u5 u6 : Value} (h : w.ownsRow B e s v n xs) (hz : w.heap[z]? = some (.cells #[u0, u1, u2, u3, u4, u5, u6] t (0, 0))) (hne : e ≠ t) (v0 v1 v2 v3 v4 v5 v6 : Value) :
    (put7 w z v0 v1 v2 v3 v4 v5 v6).ownsRow B e s v n xs := by
  have h0 := set_blk hz 0 v0
  have h1 := set_blk h0 1 v1
  have h2 := set_blk h1 2 v2
  have h3 := set_blk h2 3 v3
  have h4 := set_blk h3 4 v4
  have h5 := set_blk h4 5 v5
  have k0 := own_cell7 h hz hne 0 v0
  have k1 := own_cell7 k0 h0 hne 1 v1
  have k2 := own_cell7 k1 h1 hne 2 v2
  have k3 := own_cell7 k2 h2 hne 3 v3
  have k4 := own_cell7 k3 h3 hne 4 v4
  have k5 := own_cell7 k4 h4 hne 5 v5
  exact own_cell7 k5 h5 hne 6 v6
end Go.Proofs.YtfabcmohaikfoaaDoor
