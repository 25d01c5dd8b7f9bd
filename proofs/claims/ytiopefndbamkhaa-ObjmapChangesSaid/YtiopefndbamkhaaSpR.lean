/- Contracts of the document's Has, put, Of, Clean, Many, Same (spans). -/
import Derived.Test.YtiopefndbamkhaaSpP
import Derived.Test.YtiopefndbamkhaaWireD
import Derived.Lib.Hide
import Derived.Deep.RegionHeld3
import Derived.BigQuiet
import Derived.WalkLawsBesides
import Derived.Deep.DeepCutAuto
namespace Go.Proofs.Ytiopefndbamkhaa
open Go.RowKit

/-- the spans of a slice can be read, below block B -/
def RdS (w : World) (B : Nat) (A : Option Addr) (n : Nat) (ps : List Sp) : Prop :=
  n = ps.length ∧ (0 < n → ∃ g o, A = some ⟨g, o, none⟩ ∧ g < B ∧ ∀ i (hi : i < ps.length), w.cell? ⟨g, o + i * 2, none⟩ = some (.int .i64 (ps[i].1)) ∧ w.cell? ⟨g, o + i * 2 + 1, none⟩ = some (.int .i64 (ps[i].2)))
theorem RdS.nil (w : World) (B : Nat) (A : Option Addr) : RdS w B A 0 [] := ⟨rfl, fun h => absurd h (by omega)⟩
theorem RdS.below {w w' : World} {B : Nat} {A : Option Addr} {n : Nat} {ps : List Sp} (h : RdS w B A n ps) (hb : Below B w w') : RdS w' B A n ps := by
  refine ⟨h.1, fun h0 => ?_⟩
  obtain ⟨g, o, he, hg, hc⟩ := h.2 h0
  exact ⟨g, o, he, hg, fun i hi => ⟨(hb.cell hg).trans (hc i hi).1, (hb.cell hg).trans (hc i hi).2⟩⟩
theorem RdS.drewN {w : World} {B : Nat} {A : Option Addr} {n : Nat} {ps : List Sp} (h : RdS w B A n ps) (q : Nat) : RdS (w.drewN q) B A n ps := h
theorem RdS.more {w : World} {B B' : Nat} {A : Option Addr} {n : Nat} {ps : List Sp} (h : RdS w B A n ps) (hB : B ≤ B') : RdS w B' A n ps := by
  refine ⟨h.1, fun h0 => ?_⟩
  obtain ⟨g, o, he, hg, hc⟩ := h.2 h0
  exact ⟨g, o, he, Nat.lt_of_lt_of_le hg hB, hc⟩

theorem any_take_succ (ps : List Sp) (n : Int) (j : Nat) (h : j < ps.length) : (ps.take (j + 1)).any (fun s => inS s n) = ((ps.take j).any (fun s => inS s n) || inS ps[j] n) := by
  rw [List.take_succ_eq_append_getElem h, List.any_append]; simp

end Go.Proofs.Ytiopefndbamkhaa
