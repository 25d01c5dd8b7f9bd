/- A row of what is put, as it came in: opened to records. -/
import Derived.Test.YtblkmphbmmbecaaWireBP
import Derived.Test.YtblkmphbmmbecaaWireCutW
import Derived.Deep.Slices
import Derived.Test.YtblkmphbmmbecaaRegion
namespace Go.Proofs.Ytblkmphbmmbecaa
open Go.ChangeShapes Go.WideShapes Go.ChangeAt Go.RowKit Go.Joins

/-- the record's slices read as they are said to, below block B -/
def OkR (w : World) (B : Nat) (r : WRec) : Prop :=
  I64 r.wd ∧ I64 r.n ∧ Rd w B r.Ax r.nx r.x ∧ r.nx ≤ r.cx ∧ r.cx ≤ 9223372036854775807 ∧ RdI w B r.Az r.nz r.zs ∧ (∀ z ∈ r.zs, I64 z) ∧ r.nz ≤ r.cz ∧ r.cz ≤ 9223372036854775807
def Cell4 (w : World) (ad : Addr) (k : Nat) (r : WRec) : Prop :=
  w.cell? (ad.add k) = some (.int .i64 r.wd) ∧ w.cell? (ad.add (k + 1)) = some (.int .i64 r.n) ∧ w.cell? (ad.add (k + 2)) = some (.slice r.Ax r.nx r.cx) ∧ w.cell? (ad.add (k + 3)) = some (.slice r.Az r.nz r.cz)
/-- the slice reads as the records -/
def RdW (w : World) (B : Nat) (A : Option Addr) (n : Nat) (rs : List WRec) : Prop :=
  rs.length = n ∧ (∀ r ∈ rs, OkR w B r) ∧ (0 < n → ∃ ad, A = some ad ∧ ad.block < B ∧ ∀ j (h : j < rs.length), Cell4 w ad (j * 4) rs[j])

theorem OkR.below {w w' : World} {B : Nat} {r : WRec} (h : OkR w B r) (hb : Below B w w') : OkR w' B r :=
  ⟨h.1, h.2.1, h.2.2.1.below hb, h.2.2.2.1, h.2.2.2.2.1, h.2.2.2.2.2.1.below hb, h.2.2.2.2.2.2⟩
theorem RdW.below {w w' : World} {B n : Nat} {A : Option Addr} {rs : List WRec} (h : RdW w B A n rs) (hb : Below B w w') : RdW w' B A n rs := by
  refine ⟨h.1, fun r hr => (h.2.1 r hr).below hb, fun hn => ?_⟩
  obtain ⟨ad, e, hB, hc⟩ := h.2.2 hn
  have keep : ∀ k, w'.cell? (ad.add k) = w.cell? (ad.add k) := fun k => hb.cell (by rw [addB]; exact hB)
  refine ⟨ad, e, hB, fun j hj => ?_⟩
  obtain ⟨h0, h1, h2, h3⟩ := hc j hj
  exact ⟨(keep _).trans h0, (keep _).trans h1, (keep _).trans h2, (keep _).trans h3⟩

theorem list_of_all {α : Type} (p : Nat → α → Prop) : ∀ n : Nat, (∀ i, i < n → ∃ a, p i a) → ∃ l : List α, l.length = n ∧ ∀ i (h : i < l.length), p i l[i]
  | 0, _ => ⟨[], rfl, fun i h => absurd h (by simp)⟩
  | n + 1, h => by
    obtain ⟨l, hl, hp⟩ := list_of_all p n fun i hi => h i (by omega)
    obtain ⟨a, ha⟩ := h n (by omega)
    refine ⟨l ++ [a], by simp [hl], fun i hi => ?_⟩
    by_cases hlt : i < l.length
    · rw [List.getElem_append_left hlt]; exact hp i hlt
    · have hin : i = n := by rw [List.length_append, List.length_singleton] at hi; omega
      subst hin
      rw [List.getElem_append_right (by omega)]
      simpa [hl] using ha

section
variable {H : Type} {enc : TypeId × Value → H} {w : World} {spare : Nat → Bool} {held : Bool}
theorem ar_wordss {base b0 : Nat} {r : Reach} {v : Value} {d : DataW H} {ps : List MemPlace}
    (k : Value.okWide Try.prog w r b0 51 v) (h : DataW.Trod enc Try.prog w base spare held 51 v d ps) :
    ∃ A n c rs, v = .slice A n c ∧ RdW w w.heap.size A n rs ∧ n ≤ c ∧ c ≤ 9223372036854775807 := by
  obtain ⟨a, n, c, rfl⟩ := okWide_slice Try.underlying51 k
  obtain ⟨fuel, hf⟩ := h
  rcases Go.Deep.open_slice Try.underlying51 hf with ⟨hcs, _⟩ | ⟨ad, len, cap, m, n', D, Pl, hcs, _, hl, hm, hmm, _, hi⟩
  · simp [Value.cells] at hcs
    obtain ⟨rfl, rfl, rfl⟩ := hcs
    exact ⟨_, _, _, [], rfl, ⟨rfl, by simp, fun h => absurd h (by omega)⟩, Nat.le_refl _, by omega⟩
  · simp [Value.cells] at hcs
    obtain ⟨rfl, rfl, rfl⟩ := hcs
    have hC : Try.prog.cellsOf 25 = 4 := by kernel_rfl
    have hlm : n ≤ m := by rw [hmm]; split <;> omega
    have hone : ∀ i, i < n → ∃ r : WRec, OkR w w.heap.size r ∧ Cell4 w ad (i * 4) r := by
      intro i hin
      obtain ⟨cs', hc, ht⟩ := hi i (by omega)
      rw [hC] at hc
      obtain ⟨_, hcl, hat⟩ := World.cells?_some hc
      obtain ⟨y0, y1, y2, y3, k, _, _, g0, g1, g2, g3⟩ := trod_struct4 Try.underlying25 ht
      match cs', hcl with
      | [c0, c1, c2, c3], _ =>
        have g0' : DataW.trod enc Try.prog w base spare held k 3 [c0] = some y0 := g0
        have g1' : DataW.trod enc Try.prog w base spare held k 3 [c1] = some y1 := g1
        have g2' : DataW.trod enc Try.prog w base spare held k 22 [c2] = some y2 := g2
        have g3' : DataW.trod enc Try.prog w base spare held k 23 [c3] = some y3 := g3
        obtain ⟨wd, e0, q0⟩ := op_int Try.underlying3 g0'
        obtain ⟨nn, e1, q1⟩ := op_int Try.underlying3 g1'
        obtain ⟨Ax, nx, cx, x, e2, q2, q3, q4⟩ := op_bytes Try.underlying22 Try.underlying5 (by kernel_rfl) g2'
        obtain ⟨Az, nz, cz, zs, e3, q5, q6, q7, q8⟩ := op_ints Try.underlying23 Try.underlying3 (by kernel_rfl) g3'
        simp only [List.cons.injEq, and_true] at e0 e1 e2 e3
        subst e0 e1 e2 e3
        have a0 := hat 0 (by omega)
        have a1 := hat 1 (by omega)
        have a2 := hat 2 (by omega)
        have a3 := hat 3 (by omega)
        rw [addadd] at a0 a1 a2 a3
        exact ⟨⟨wd, nn, Ax, nx, cx, x, Az, nz, cz, zs⟩, ⟨q0, q1, q2, q3, q4, q5, q6, q7, q8⟩, a0, a1, a2, a3⟩
    obtain ⟨rs, hrl, hrp⟩ := list_of_all (fun i r => OkR w w.heap.size r ∧ Cell4 w ad (i * 4) r) n hone
    refine ⟨_, _, _, rs, rfl, ⟨hrl, fun r hr => ?_, fun hn => ⟨ad, rfl, ?_, fun j hj => (hrp j hj).2⟩⟩, hl, by simpa [maxLen] using hm⟩
    · obtain ⟨j, hj, rfl⟩ := List.getElem_of_mem hr
      exact (hrp j hj).1
    · have h0 := (hrp 0 (by omega)).2.1
      have := World.block_lt_of_cell? w _ h0
      rwa [addB] at this
end
end Go.Proofs.Ytblkmphbmmbecaa
