/- Contracts of package stripe's leaves: setBytes, rowBytes, Check, valid. -/
import Derived.Test.YtbkdlpmaikilnaaRows
import Derived.Test.YtbkdlpmaikilnaaWireD
import Derived.WalkLawsBesides
import Derived.Deep.DeepCutAuto
import Derived.Lib.Hide
import Derived.Deep.RegionHeld3
import Derived.BigQuiet
namespace Go.Proofs.Ytbkdlpmaikilnaa
open Go.RowKit

theorem set_any (U C O S : Int) (w : World) (hS : O * C = S) (h0 : 0 ≤ S) (h1 : S ≤ 512) :
    Calls Try.prog 25 #[.agg #[.int .i64 U, .int .i64 C, .int .i64 O]] w fun e w' => e = .returned (.int .i64 S) ∧ Below w.heap.size w w' := by
  go_enter Try.func25, Try.ntmps25
  go_wp2
  go_ret
  exact ⟨rfl, (Below.refl _ _).alloc (Nat.le_refl _) _⟩

theorem row_any (U C O R : Int) (w : World) (hS : U * C = R) (h0 : 0 ≤ R) (h1 : R ≤ 512) :
    Calls Try.prog 29 #[.agg #[.int .i64 U, .int .i64 C, .int .i64 O]] w fun e w' => e = .returned (.int .i64 R) ∧ Below w.heap.size w w' := by
  go_enter Try.func29, Try.ntmps29
  go_wp2
  go_ret
  exact ⟨rfl, (Below.refl _ _).alloc (Nat.le_refl _) _⟩

/-- may a layout be? -/
def Lay (U C O : Int) : Prop := 1 ≤ U ∧ 1 ≤ C ∧ C ≤ 8 ∧ U ≤ O ∧ O ≤ 64 ∧ O % U = 0
instance (U C O : Int) : Decidable (Lay U C O) := by unfold Lay; exact inferInstance
def chk (U C O : Int) : Int := if Lay U C O then 0 else 1

set_option maxHeartbeats 1000000 in
theorem Check_any (U C O : Int) (w : World) :
    Calls Try.prog 13 #[.agg #[.int .i64 U, .int .i64 C, .int .i64 O]] w fun e w' => e = .returned (.int .i64 (chk U C O)) ∧ Below w.heap.size w w' := by
  unfold chk Lay
  by_cases h1 : 1 ≤ U
  · by_cases h2 : 1 ≤ C
    · by_cases h3 : C ≤ 8
      · by_cases h4 : U ≤ O
        · by_cases h5 : O ≤ 64
          · by_cases h6 : O % U = 0
            · go_enter Try.func13, Try.ntmps13
              go_wp2
              go_ret
              exact ⟨by simp [*], (Below.refl _ _).alloc (Nat.le_refl _) _⟩
            · go_enter Try.func13, Try.ntmps13
              go_wp2
              go_ret
              exact ⟨by simp [*], (Below.refl _ _).alloc (Nat.le_refl _) _⟩
          · go_enter Try.func13, Try.ntmps13
            go_wp2
            go_ret
            exact ⟨by simp [*], (Below.refl _ _).alloc (Nat.le_refl _) _⟩
        · go_enter Try.func13, Try.ntmps13
          go_wp2
          go_ret
          exact ⟨by simp [*], (Below.refl _ _).alloc (Nat.le_refl _) _⟩
      · go_enter Try.func13, Try.ntmps13
        go_wp2
        go_ret
        exact ⟨by simp [*], (Below.refl _ _).alloc (Nat.le_refl _) _⟩
    · go_enter Try.func13, Try.ntmps13
      go_wp2
      go_ret
      exact ⟨by simp [*], (Below.refl _ _).alloc (Nat.le_refl _) _⟩
  · go_enter Try.func13, Try.ntmps13
    go_wp2
    go_ret
    exact ⟨by simp [*], (Below.refl _ _).alloc (Nat.le_refl _) _⟩


/-- block b holds a layout -/
structure LayAt (b : Nat) (U C O : Int) (w : World) : Prop where
  c0 : w.cell? ⟨b, 0, none⟩ = some (.int .i64 U)
  c1 : w.cell? ⟨b, 1, none⟩ = some (.int .i64 C)
  c2 : w.cell? ⟨b, 2, none⟩ = some (.int .i64 O)
theorem LayAt.lt {b : Nat} {U C O : Int} {w : World} (h : LayAt b U C O w) : b < w.heap.size := World.block_lt_of_cell? w _ h.c0
theorem LayAt.below {b B : Nat} {U C O : Int} {w w' : World} (h : LayAt b U C O w) (hb : Below B w w') (hB : b < B) : LayAt b U C O w' :=
  ⟨(hb.cell hB).trans h.c0, (hb.cell hB).trans h.c1, (hb.cell hB).trans h.c2⟩
theorem LayAt.box (w : World) (U C O : Int) (t : TypeId) : LayAt w.heap.size U C O (w.alloc (.cells #[.int .i64 U, .int .i64 C, .int .i64 O] t)) := by
  refine ⟨?_, ?_, ?_⟩ <;> (rw [cell_blk (heap_alloc_new w _)]; rfl)
/-- what is asked of the worlds in a region that draws its order and calls what makes memory -/
theorem keepL {b B : Nat} {U C O : Int} {W0 W w1 : World} (h : W.cell? ⟨b, 0, none⟩ = some (.int .i64 U) ∧ W.cell? ⟨b, 1, none⟩ = some (.int .i64 C) ∧ W.cell? ⟨b, 2, none⟩ = some (.int .i64 O) ∧ Hid (Below B W0 W)) (hB : Hid (B ≤ W0.heap.size)) (hb : Below W.heap.size W w1) :
    w1.cell? ⟨b, 0, none⟩ = some (.int .i64 U) ∧ w1.cell? ⟨b, 1, none⟩ = some (.int .i64 C) ∧ w1.cell? ⟨b, 2, none⟩ = some (.int .i64 O) ∧ Hid (Below B W0 w1) := by
  obtain ⟨h0, h1, h2, h3⟩ := h
  have hl : LayAt b U C O W := ⟨h0, h1, h2⟩
  have hl1 := hl.below hb hl.lt
  exact ⟨hl1.c0, hl1.c1, hl1.c2, Lib.hid (h3.out.trans (hb.mono (Nat.le_trans hB.out h3.out.size)))⟩
theorem startL {b B : Nat} {U C O : Int} {W0 W : World} (h : Hid (LayAt b U C O W)) (hb : Hid (Below B W0 W)) :
    W.cell? ⟨b, 0, none⟩ = some (.int .i64 U) ∧ W.cell? ⟨b, 1, none⟩ = some (.int .i64 C) ∧ W.cell? ⟨b, 2, none⟩ = some (.int .i64 O) ∧ Hid (Below B W0 W) :=
  ⟨h.out.c0, h.out.c1, h.out.c2, hb⟩
theorem startD {b B : Nat} {U C O : Int} {W0 W : World} (h : Hid (LayAt b U C O W)) (hb : Hid (Below B W0 W)) :
    W.drew.cell? ⟨b, 0, none⟩ = some (.int .i64 U) ∧ W.drew.cell? ⟨b, 1, none⟩ = some (.int .i64 C) ∧ W.drew.cell? ⟨b, 2, none⟩ = some (.int .i64 O) ∧ Hid (Below B W0 W.drew) :=
  ⟨h.out.c0, h.out.c1, h.out.c2, Lib.hid (hb.out.drew)⟩
theorem bothL {b B : Nat} {U C O : Int} {W0 w : World} (h : w.cell? ⟨b, 0, none⟩ = some (.int .i64 U) ∧ w.cell? ⟨b, 1, none⟩ = some (.int .i64 C) ∧ w.cell? ⟨b, 2, none⟩ = some (.int .i64 O) ∧ Hid (Below B W0 w)) : Hid (LayAt b U C O w) ∧ Hid (Below B W0 w) := ⟨⟨h.1, h.2.1, h.2.2.1⟩, h.2.2.2⟩

set_option maxHeartbeats 1000000 in
/-- place, with letters for what it reckons -/
theorem place_let (U C O off S R q1 r1 q2 r2 o1 o2 o3 k1 k2 k3 : Int) (w : World) (hS : O * C = S) (hS0 : 1 ≤ S) (hS1 : S ≤ 512) (hR : U * C = R) (hR0 : 1 ≤ R) (hR1 : R ≤ 512) (hU : 1 ≤ U)
    (hq1 : IntKind.i64.wrap (off.tdiv S) = q1) (hr1 : off.tmod S = r1) (hq2 : IntKind.i64.wrap (r1.tdiv R) = q2) (hr2 : r1.tmod R = r2)
    (ho1 : IntKind.i64.wrap (q1 * C) = o1) (ho2 : IntKind.i64.wrap (r2.tdiv U) = o2) (ho3 : IntKind.i64.wrap (o1 + o2) = o3) (hk1 : IntKind.i64.wrap (q2 * U) = k1) (hk2 : r2.tmod U = k2) (hk3 : IntKind.i64.wrap (k1 + k2) = k3) :
    Calls Try.prog 24 #[.agg #[.int .i64 U, .int .i64 C, .int .i64 O], .int .i64 off] w fun e w' => e = .returned (.tuple #[.int .i64 o3, .int .i64 k3]) ∧ Below w.heap.size w w' := by
  have hSn : S ≠ 0 := by omega
  have hRn : R ≠ 0 := by omega
  have hUn : U ≠ 0 := by omega
  have HS := Lib.hid hS
  have HR := Lib.hid hR
  have HS0 := Lib.hid (show 0 ≤ S by omega)
  have HR0 := Lib.hid (show 0 ≤ R by omega)
  clear hS hR
  go_enter Try.func24, Try.ntmps24
  go_wp2_with fail
  have HL := Lib.hid (LayAt.box w U C O 23)
  have Hb0 := Lib.hid ((Below.refl w.heap.size w).alloc (Nat.le_refl _) (.cells #[.int .i64 U, .int .i64 C, .int .i64 O] 23))
  have HB := Lib.hid (Nat.le_refl w.heap.size)
  generalize w.alloc (.cells #[.int .i64 U, .int .i64 C, .int .i64 O] 23) = w0 at HL Hb0 ⊢
  go_region_held3 (fun w' => w'.cell? ⟨w.heap.size, 0, none⟩ = some (.int .i64 U) ∧ w'.cell? ⟨w.heap.size, 1, none⟩ = some (.int .i64 C) ∧ w'.cell? ⟨w.heap.size, 2, none⟩ = some (.int .i64 O) ∧ Hid (Below w.heap.size w w')) (first | exact keepL (by assumption) HB (by assumption) | exact startL HL Hb0 | exact startD HL Hb0) (first
    | (go_at_call 25; refine (set_any U C O S _ HS.out HS0.out hS1).mono ?_; rintro e w1 ⟨rfl, hb1⟩))
  obtain ⟨HL1, Hb1⟩ : Hid (LayAt w.heap.size U C O w1) ∧ Hid (Below w.heap.size w w1) := bothL (by assumption)
  clear HL Hb0
  go_wp2_with fail
  go_region_held3 (fun w' => w'.cell? ⟨w.heap.size, 0, none⟩ = some (.int .i64 U) ∧ w'.cell? ⟨w.heap.size, 1, none⟩ = some (.int .i64 C) ∧ w'.cell? ⟨w.heap.size, 2, none⟩ = some (.int .i64 O) ∧ Hid (Below w.heap.size w w')) (first | exact keepL (by assumption) HB (by assumption) | exact startL HL1 Hb1 | exact startD HL1 Hb1) (first
    | (go_at_call 29; refine (row_any U C O R _ HR.out HR0.out hR1).mono ?_; rintro e w1 ⟨rfl, hb1⟩))
  obtain ⟨HL2, Hb2⟩ : Hid (LayAt w.heap.size U C O w1) ∧ Hid (Below w.heap.size w w1) := bothL (by assumption)
  clear HL1 Hb1
  go_wp2_with fail
  go_region_held3 (fun w' => w'.cell? ⟨w.heap.size, 0, none⟩ = some (.int .i64 U) ∧ w'.cell? ⟨w.heap.size, 1, none⟩ = some (.int .i64 C) ∧ w'.cell? ⟨w.heap.size, 2, none⟩ = some (.int .i64 O) ∧ Hid (Below w.heap.size w w')) (first | exact keepL (by assumption) HB (by assumption) | exact startL HL2 Hb2 | exact startD HL2 Hb2) (fail)
  go_wp2_with fail
  exact bodyPost_ret (v := .tuple #[.int .i64 o3, .int .i64 k3]) (by simp [results, Try.results24, go_sem]) rfl ⟨rfl, Hb2.out.drew⟩
end Go.Proofs.Ytbkdlpmaikilnaa
