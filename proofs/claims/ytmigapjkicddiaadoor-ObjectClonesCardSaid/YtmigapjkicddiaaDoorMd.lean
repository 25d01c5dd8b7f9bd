/- Contracts of the document's Has, put, Of, Clean, Many, Same (spans). Contract of the document's put: a rising row with one number more. -/
import Derived.Test.YtmigapjkicddiaaDoorMs
import Derived.Test.YtmigapjkicddiaaDoorMc
import Derived.Lib.Hide
import Derived.Deep.RegionHeld3
import Derived.BigQuiet
import Derived.WalkLawsBesides
import Derived.Deep.DeepCutAuto

namespace Go.Proofs.YtmigapjkicddiaaDoor
open Go.RowKit

/-- the spans of a slice can be read, below block B -/
def RdS (w : World) (B : Nat) (A : Option Addr) (n : Nat) (ps : List Sp) : Prop :=
  n = ps.length ∧ (0 < n → ∃ g o, A = some ⟨g, o, none⟩ ∧ g < B ∧ ∀ i (hi : i < ps.length), w.cell? ⟨g, o + i * 2, none⟩ = some (.int .i64 (ps[i].1)) ∧ w.cell? ⟨g, o + i * 2 + 1, none⟩ = some (.int .i64 (ps[i].2)))
theorem RdS.nil (w : World) (B : Nat) (A : Option Addr) : RdS w B A 0 [] := ⟨rfl, fun h => absurd h (by omega)⟩
theorem RdS.below {w w' : World} {B : Nat} {A : Option Addr} {n : Nat} {ps : List Sp} (h : RdS w B A n ps) (hb : Below B w w') : RdS w' B A n ps := by
  refine ⟨h.1, fun h0 => ?_⟩
  obtain ⟨g, o, he, hg, hc⟩ := h.2 h0
  exact ⟨g, o, he, hg, fun i hi => ⟨(hb.cell hg).trans (hc i hi).1, (hb.cell hg).trans (hc i hi).2⟩⟩
theorem RdS.drewN {w : World} {B : Nat} {A : Option Addr} {n : Nat} {ps : List Sp} (h : RdS w B A n ps) (q : Nat) : RdS (w.drewN q) B A n ps := h
theorem RdS.more {w : World} {B B' : Nat} {A : Option Addr} {n : Nat} {ps : List Sp} (h : RdS w B A n ps) (hB : B ≤ B') : RdS w B' A n ps := by
  refine ⟨h.1, fun h0 => ?_⟩
  obtain ⟨g, o, he, hg, hc⟩ := h.2 h0
  exact ⟨g, o, he, Nat.lt_of_lt_of_le hg hB, hc⟩

theorem any_take_succ (ps : List Sp) (n : Int) (j : Nat) (h : j < ps.length) : (ps.take (j + 1)).any (fun s => inS s n) = ((ps.take j).any (fun s => inS s n) || inS ps[j] n) := by
  rw [List.take_succ_eq_append_getElem h, List.any_append]; simp

end Go.Proofs.YtmigapjkicddiaaDoor

namespace Go.Proofs.YtmigapjkicddiaaDoor
open Go.RowKit

set_option maxRecDepth 10000 in
theorem Tryd.infoI : (Tryd.prog.info? 3).map (fun i => (i.zero, i.size, i.bytes)) = some (some (.int .i64 0), 1, 8) := by kernel_rfl
theorem ownForm {w : World} {base n s : Nat} {e : TypeId} {v : Value} {xs : List Value} (h : w.ownsRow base e s v n xs) : (v = .slice none 0 0 ∧ n = 0) ∨ ∃ g c, v = .slice (some ⟨g, 0, none⟩) n c ∧ base ≤ g ∧ g < w.heap.size ∧ n ≤ c ∧ c ≤ maxLen := by
  rcases h.2 with ⟨rfl, rfl⟩ | ⟨g, cap, cur, rfl, hb, hg, h1, h2, _⟩
  · exact .inl ⟨rfl, rfl⟩
  · exact .inr ⟨g, cap, rfl, hb, lt_of_block hg, h1, h2⟩
theorem ownPos {w : World} {base n s : Nat} {e : TypeId} {v : Value} {xs : List Value} (h : w.ownsRow base e s v n xs) (hn : 0 < n) : ∃ g c, v = .slice (some ⟨g, 0, none⟩) n c := by
  rcases ownForm h with ⟨_, h0⟩ | ⟨g, c, h0, _⟩
  · omega
  · exact ⟨g, c, h0⟩
theorem ownBs {w : World} {B B' n s : Nat} {e : TypeId} {v : Value} {xs : List Value} (h : w.ownsRow B e s v n xs) (hB : B' ≤ B) : w.ownsRow B' e s v n xs := by
  refine ⟨h.1, ?_⟩
  rcases h.2 with h | ⟨g, cap, cur, h1, h2, h3⟩
  · exact .inl h
  · exact .inr ⟨g, cap, cur, h1, Nat.le_trans hB h2, h3⟩
theorem ownTo {w w' : World} {B n s : Nat} {e : TypeId} {v : Value} {xs : List Value} (h : w.ownsRow B e s v n xs) (hb : Below w.heap.size w w') : w'.ownsRow B e s v n xs := by
  refine ⟨h.1, ?_⟩
  rcases h.2 with h | ⟨g, cap, cur, h1, h2, h3, h4⟩
  · exact .inl h
  · exact .inr ⟨g, cap, cur, h1, h2, (hb.block g (lt_of_block h3)).trans h3, h4⟩

theorem tw_len (l : List Int) (m : Int) : ∀ k, k ≤ l.length → (∀ x ∈ l.take k, x < m) → (∀ h : k < l.length, ¬ l[k] < m) → (l.takeWhile (fun x => decide (x < m))).length = k := by
  induction l with
  | nil => intro k hk _ _; simp at hk ⊢; omega
  | cons y l ih =>
    intro k hk h1 h2
    cases k with
    | zero =>
      have := h2 (by simp)
      simp at this
      simp only [List.takeWhile_cons, show ¬ y < m by omega, decide_false]
      rfl
    | succ k =>
      have hy := h1 y (by simp)
      simp only [List.takeWhile_cons, hy, decide_true, if_true, List.length_cons]
      rw [ih k (by simpa using hk) (fun x hx => h1 x (by simp [hx])) (fun h => h2 (by simpa using h))]

theorem RdI.src {w : World} {B n : Nat} {A : Option Addr} {l : List Int} (h : RdI w B A n l) : 0 < n → ∃ ad, A = some ad ∧ ∀ j u, (l.map (Value.int .i64))[j]? = some u → w.cell? (ad.add j) = some u := fun hn => by
  obtain ⟨ad, e, _, hc⟩ := h.2 hn
  refine ⟨ad, e, fun j u hu => ?_⟩
  rw [List.getElem?_map] at hu
  obtain ⟨z, hz, rfl⟩ := Option.map_eq_some_iff.1 hu
  obtain ⟨hj, rfl⟩ := List.getElem?_eq_some_iff.1 hz
  exact hc j hj
theorem RdI.drop0 {w : World} {B n g : Nat} {l : List Int} (h : RdI w B (some ⟨g, 0, none⟩) n l) (k : Nat) : RdI w B (some ⟨g, k, none⟩) (n - k) (l.drop k) := by
  refine ⟨by rw [List.length_drop, h.1], fun hn => ?_⟩
  obtain ⟨ad, e, hb, hc⟩ := h.2 (by omega)
  cases e
  refine ⟨_, rfl, hb, fun j hj => ?_⟩
  have h2 := hc (k + j) (by rw [List.length_drop] at hj; omega)
  have e1 : (⟨g, 0, none⟩ : Addr).add (k + j) = (⟨g, k, none⟩ : Addr).add j := by
    unfold Addr.add
    split <;> split <;> simp <;> omega
  rw [e1] at h2
  rw [h2, List.getElem_drop]
theorem int_one (l : List Int) : ∀ v ∈ l.map (Value.int .i64), v.oneCell' = true := by
  intro v hv
  obtain ⟨x, _, rfl⟩ := List.mem_map.1 hv
  rfl
theorem putI_len (l : List Int) (n : Int) : (putI l n).length ≤ l.length + 1 := by
  unfold putI
  dsimp only
  split
  · omega
  · simp; omega

end Go.Proofs.YtmigapjkicddiaaDoor
