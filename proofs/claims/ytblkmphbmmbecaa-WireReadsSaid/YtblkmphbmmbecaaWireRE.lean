/- A row of steps, as it came in: opened to records; the two readers beside each other. -/
import Derived.Test.YtblkmphbmmbecaaWireBO
import Derived.Test.YtblkmphbmmbecaaWireRD
import Derived.Deep.Strs
namespace Go.Proofs.Ytblkmphbmmbecaa
open Go.ChangeShapes Go.WideShapes Go.ChangeAt Go.RowKit Go.Joins

structure SRec where
  kd : Int
  wd : Int
  mo : Int
def Cell3 (w : World) (ad : Addr) (k : Nat) (r : SRec) : Prop :=
  w.cell? (ad.add k) = some (.int .i64 r.kd) ∧ w.cell? (ad.add (k + 1)) = some (.int .i64 r.wd) ∧ w.cell? (ad.add (k + 2)) = some (.int .i64 r.mo)
/-- the slice reads as the records -/
def RdS (w : World) (B : Nat) (A : Option Addr) (n : Nat) (rs : List SRec) : Prop :=
  rs.length = n ∧ (∀ r ∈ rs, I64 r.kd ∧ I64 r.wd ∧ I64 r.mo) ∧ (0 < n → ∃ ad, A = some ad ∧ ad.block < B ∧ ∀ j (h : j < rs.length), Cell3 w ad (j * 3) rs[j])
theorem RdS.below {w w' : World} {B n : Nat} {A : Option Addr} {rs : List SRec} (h : RdS w B A n rs) (hb : Below B w w') : RdS w' B A n rs := by
  refine ⟨h.1, h.2.1, fun hn => ?_⟩
  obtain ⟨ad, e, hB, hc⟩ := h.2.2 hn
  have keep : ∀ k, w'.cell? (ad.add k) = w.cell? (ad.add k) := fun k => hb.cell (by rw [addB]; exact hB)
  refine ⟨ad, e, hB, fun j hj => ?_⟩
  obtain ⟨h0, h1, h2⟩ := hc j hj
  exact ⟨(keep _).trans h0, (keep _).trans h1, (keep _).trans h2⟩
theorem cell3_at {w : World} (ad : Addr) (k : Nat) (r : SRec) (h : Cell3 w ad k r) :
    w.cell? { block := (ad.add k).block, off := (ad.add k).off + 1 } = some (.int .i64 r.wd) ∧ w.cell? { block := (ad.add k).block, off := (ad.add k).off + 2 } = some (.int .i64 r.mo) := by
  have e : ∀ i : Nat, 0 < i → ({ block := (ad.add k).block, off := (ad.add k).off + i } : Addr) = ad.add (k + i) := fun i hi => by
    rw [← addadd]
    simp [Addr.add, Nat.ne_of_gt hi]
  exact ⟨by rw [e 1 (by omega)]; exact h.2.1, by rw [e 2 (by omega)]; exact h.2.2⟩

/-- a block of three cells -/
def Box3 (w : World) (b : Nat) (t : TypeId) (c0 c1 c2 : Value) : Prop := w.heap[b]? = some (.cells #[c0, c1, c2] t (0, 0))
section
variable {w w' : World} {b B : Nat} {t : TypeId} {c0 c1 c2 : Value}
theorem Box3.new (w : World) (t : TypeId) (c0 c1 c2 : Value) : Box3 (w.alloc (.cells #[c0, c1, c2] t)) w.heap.size t c0 c1 c2 := heap_alloc_new w _
theorem Box3.lt (h : Box3 w b t c0 c1 c2) : b < w.heap.size := lt_of_block h
theorem Box3.cells (h : Box3 w b t c0 c1 c2) : w.cell? ⟨b, 0, none⟩ = some c0 ∧ w.cell? ⟨b, 1, none⟩ = some c1 ∧ w.cell? ⟨b, 2, none⟩ = some c2 := by
  refine ⟨?_, ?_, ?_⟩ <;> rw [cell_blk h] <;> rfl
theorem Box3.grown (h : Box3 w b t c0 c1 c2) {g : Nat} (hg : w.grownBy w' (some g)) (hne : b ≠ g) : Box3 w' b t c0 c1 c2 := (hg.block b h.lt (by simpa using hne)).trans h
theorem Box3.drew (h : Box3 w b t c0 c1 c2) : Box3 w.drew b t c0 c1 c2 := h
theorem Box3.drewN (h : Box3 w b t c0 c1 c2) (q : Nat) : Box3 (w.drewN q) b t c0 c1 c2 := h
end

/-- both readers stand alike: the program's in block g, the document's in block h, behind it; what the latter reads lies below B -/
def Both (w : World) (g h B : Nat) (l : List UInt8) (e : Int) : Prop := Rdr w g l e ∧ Ref w h B (clr l e) e ∧ g < h ∧ B ≤ g
section
variable {w w' : World} {g h B : Nat} {l l' : List UInt8} {e e' : Int}
theorem Ref.besides {l : List UInt8} (H : Ref w h B l e) {q : Nat} (hg : w.grownBy w' (some q)) (hq : B ≤ q) (hne : h ≠ q) : Ref w' h B l e := by
  obtain ⟨A, n, c, h1, h2, h3, h4, h5⟩ := H
  have hlt := lt_of_block h1
  refine ⟨A, n, c, (hg.block h hlt (by simpa using hne)).trans h1, h2, h3, h4.keep fun p hp => ?_, h5⟩
  exact World.cell?_of_block (hg.block p.block (by omega) (by simp; omega))
theorem Rdr.besides (H : Rdr w g l e) {q : Nat} (hg : w.grownBy w' (some q)) (hq : g < q) : Rdr w' g l e := by
  obtain ⟨A, n, c, h1, h2, h3, h4⟩ := H
  have hlt := lt_of_block h1
  refine ⟨A, n, c, (hg.block g hlt (by simp; omega)).trans h1, h2, h3, h4.keep fun p hp => ?_⟩
  exact World.cell?_of_block (hg.block p.block (by omega) (by simp; omega))
theorem Both.left (H : Both w g h B l e) : Rdr w g l e := H.1
theorem Both.right (H : Both w g h B l e) : Ref w h B (clr l e) e := H.2.1
theorem Both.lt (H : Both w g h B l e) : g < h ∧ B ≤ g ∧ h < w.heap.size := ⟨H.2.2.1, H.2.2.2, H.2.1.lt.1⟩
/-- the program's reader has moved: the document's stands where it stood -/
theorem Both.one (H : Both w g h B l e) (hg : w.grownBy w' (some g)) : Ref w' h B (clr l e) e := H.2.1.besides hg H.2.2.2 (by have := H.2.2.1; omega)
/-- then the document's has moved too -/
theorem Both.two (H : Both w g h B l e) {w1 : World} (h1 : Rdr w1 g l' e') (hg : w1.grownBy w' (some h)) (h2 : Ref w' h B (clr l' e') e') : Both w' g h B l' e' :=
  ⟨h1.besides hg H.2.2.1, h2, H.2.2⟩
theorem Both.alloc (H : Both w g h B l e) (o : Obj) : Both (w.alloc o) g h B l e := by
  have hg := H.lt
  refine ⟨H.1.besides (World.grownBy_alloc w o (some (h + w.heap.size + 1))) (by omega), H.2.1.grown (World.grownBy_alloc w o none) (by simp), H.2.2⟩
theorem Both.drewN (H : Both w g h B l e) (q : Nat) : Both (w.drewN q) g h B l e := H
end
theorem below_two {W w w' : World} {q : Nat} (H : Below W.heap.size W w) (hg : w.grownBy w' (some q)) (hq : W.heap.size ≤ q) : Below W.heap.size W w' :=
  H.grown hg H.size (fun p hp => by injection hp with hp; omega)

theorem kind_bd (z : Int) : 0 ≤ bits .and .i64 z 7 ∧ bits .and .i64 z 7 ≤ 7 := by
  show 0 ≤ IntKind.i64.wrap ((BitVec.ofInt 64 z &&& BitVec.ofInt 64 7).toNat : Int) ∧ _
  rw [show bits .and .i64 z 7 = IntKind.i64.wrap ((BitVec.ofInt 64 z &&& BitVec.ofInt 64 7).toNat : Int) from rfl, IntKind.wrap_i64, BitVec.toNat_and]
  have h2 : (BitVec.ofInt 64 7).toNat = 7 := by decide
  rw [h2]
  have h3 : (BitVec.ofInt 64 z).toNat &&& 7 ≤ 7 := Nat.and_le_right
  omega
theorem kind_cases (z : Int) : bits .and .i64 z 7 = 0 ∨ bits .and .i64 z 7 = 1 ∨ bits .and .i64 z 7 = 2 ∨ bits .and .i64 z 7 = 3 ∨ bits .and .i64 z 7 = 4 ∨ bits .and .i64 z 7 = 5 ∨ bits .and .i64 z 7 = 6 ∨ bits .and .i64 z 7 = 7 := by
  have := kind_bd z
  omega
/-- what Left tells is how many the document's reader has left -/
theorem leftN_clr (l : List UInt8) (e : Int) : leftN e l.length = ((clr l e).length : Int) := by
  unfold leftN clr
  split <;> simp

section
variable {H : Type} {enc : TypeId × Value → H} {w : World} {spare : Nat → Bool} {held : Bool}
theorem ar_steps {base b0 : Nat} {r : Reach} {v : Value} {d : DataW H} {ps : List MemPlace}
    (k : Value.okWide Try.prog w r b0 34 v) (h : DataW.Trod enc Try.prog w base spare held 34 v d ps) :
    ∃ A n c rs, v = .slice A n c ∧ RdS w w.heap.size A n rs ∧ n ≤ c ∧ c ≤ 9223372036854775807 := by
  obtain ⟨a, n, c, rfl⟩ := okWide_slice Try.underlying34 k
  obtain ⟨fuel, hf⟩ := h
  rcases Go.Deep.open_slice Try.underlying34 hf with ⟨hcs, _⟩ | ⟨ad, len, cap, m, n', D, Pl, hcs, _, hl, hm, hmm, _, hi⟩
  · simp [Value.cells] at hcs
    obtain ⟨rfl, rfl, rfl⟩ := hcs
    exact ⟨_, _, _, [], rfl, ⟨rfl, by simp, fun h => absurd h (by omega)⟩, Nat.le_refl _, by omega⟩
  · simp [Value.cells] at hcs
    obtain ⟨rfl, rfl, rfl⟩ := hcs
    have hC : Try.prog.cellsOf 42 = 3 := by kernel_rfl
    have hlm : n ≤ m := by rw [hmm]; split <;> omega
    have hone : ∀ i, i < n → ∃ r : SRec, (I64 r.kd ∧ I64 r.wd ∧ I64 r.mo) ∧ Cell3 w ad (i * 3) r := by
      intro i hin
      obtain ⟨cs', hc, ht⟩ := hi i (by omega)
      rw [hC] at hc
      obtain ⟨_, hcl, hat⟩ := World.cells?_some hc
      obtain ⟨y0, y1, y2, k, _, _, g0, g1, g2⟩ := Go.Deep.trod_struct3 Try.underlying42 ht
      match cs', hcl with
      | [c0, c1, c2], _ =>
        have g0' : DataW.trod enc Try.prog w base spare held k 3 [c0] = some y0 := g0
        have g1' : DataW.trod enc Try.prog w base spare held k 3 [c1] = some y1 := g1
        have g2' : DataW.trod enc Try.prog w base spare held k 3 [c2] = some y2 := g2
        obtain ⟨kd, e0, q0⟩ := op_int Try.underlying3 g0'
        obtain ⟨wd, e1, q1⟩ := op_int Try.underlying3 g1'
        obtain ⟨mo, e2, q2⟩ := op_int Try.underlying3 g2'
        simp only [List.cons.injEq, and_true] at e0 e1 e2
        subst e0 e1 e2
        have a0 := hat 0 (by omega)
        have a1 := hat 1 (by omega)
        have a2 := hat 2 (by omega)
        rw [addadd] at a0 a1 a2
        exact ⟨⟨kd, wd, mo⟩, ⟨q0, q1, q2⟩, a0, a1, a2⟩
    obtain ⟨rs, hrl, hrp⟩ := list_of_all (fun i r => (I64 r.kd ∧ I64 r.wd ∧ I64 r.mo) ∧ Cell3 w ad (i * 3) r) n hone
    refine ⟨_, _, _, rs, rfl, ⟨hrl, fun r hr => ?_, fun hn => ⟨ad, rfl, ?_, fun j hj => (hrp j hj).2⟩⟩, hl, by simpa [maxLen] using hm⟩
    · obtain ⟨j, hj, rfl⟩ := List.getElem_of_mem hr
      exact (hrp j hj).1
    · have h0 := (hrp 0 (by omega)).2.1
      have := World.block_lt_of_cell? w _ h0
      rwa [addB] at this
end
end Go.Proofs.Ytblkmphbmmbecaa
