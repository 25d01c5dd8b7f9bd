/- Contract of the document's Of (spans). Contracts of the document's Clean, Many, Same (spans), and of the laws' own few, clean. -/
import Derived.Test.YtmigapjkicddiaaDoorMd
import Derived.Deep.AppendLies

namespace Go.Proofs.YtmigapjkicddiaaDoor
open Go.RowKit

def spC (s : Sp) : List Value := [.int .i64 s.1, .int .i64 s.2]
def flatS (ps : List Sp) : List Value := ps.flatMap spC
theorem flatS_len (ps : List Sp) : (flatS ps).length = ps.length * 2 := by
  induction ps with
  | nil => rfl
  | cons p ps ih => simp [flatS, spC] at ih ⊢; omega
theorem flatS_snoc (ps : List Sp) (p : Sp) : flatS (ps ++ [p]) = flatS ps ++ spC p := by simp [flatS]
theorem flatS_at (r : List Sp) (q : Sp) (j : Nat) : (flatS (r ++ [q]))[r.length * 2 + j]? = (spC q)[j]? := by
  rw [flatS_snoc, List.getElem?_append_right (by rw [flatS_len]; omega), flatS_len]
  congr 1
  omega
theorem flatS_set (r : List Sp) (f t t' : Int) : (flatS (r ++ [(f, t)])).set (r.length * 2 + 1) (.int .i64 t') = flatS (r ++ [(f, t')]) := by
  rw [flatS_snoc, flatS_snoc, List.set_append_right _ _ (by rw [flatS_len]; omega), flatS_len, show r.length * 2 + 1 - r.length * 2 = 1 by omega]
  simp [spC]
theorem flatS_get : ∀ (ps : List Sp) (i j : Nat) (hi : i < ps.length), j < 2 → (flatS ps)[i * 2 + j]? = (spC ps[i])[j]?
  | p :: ps, 0, j, _, hj => by
    rw [show flatS (p :: ps) = spC p ++ flatS ps from rfl, Nat.zero_mul, Nat.zero_add, List.getElem?_append_left (by simp [spC]; omega)]
    rfl
  | p :: ps, i + 1, j, hi, hj => by
    rw [show flatS (p :: ps) = spC p ++ flatS ps from rfl, List.getElem?_append_right (by simp [spC]; omega), show (i + 1) * 2 + j - (spC p).length = i * 2 + j by simp [spC]; omega]
    exact flatS_get ps i j (by simpa using hi) hj
theorem two_at (w : World) (x y : Int) (t : TypeId) (b : Nat) (hb : b = w.heap.size) : ∀ j u, ([.int .i64 x, .int .i64 y] : List Value)[j]? = some u → (w.alloc (.cells #[.int .i64 x, .int .i64 y] t)).cell? ((⟨b, 0, none⟩ : Addr).add j) = some u := by
  subst hb
  intro j u hu
  have hadd : (⟨w.heap.size, 0, none⟩ : Addr).add j = ⟨w.heap.size, j, none⟩ := by unfold Addr.add; split <;> simp_all
  rw [hadd, cell_blk (heap_alloc_new w _), List.getElem?_toArray]
  exact hu
theorem two_one (x y : Int) : ∀ u ∈ ([.int .i64 x, .int .i64 y] : List Value), u.oneCell' = true := by
  intro u hu
  simp at hu
  rcases hu with rfl | rfl <;> rfl
theorem ownF {w : World} {base n s : Nat} {e : TypeId} {v : Value} {xs : List Value} (h : w.ownsRow base e s v n xs) : ∃ A c, v = .slice A n c ∧ n ≤ c ∧ c ≤ maxLen := by
  rcases h.2 with ⟨rfl, rfl⟩ | ⟨g, cap, cur, rfl, _, _, h1, h2, _⟩
  · exact ⟨none, 0, rfl, Nat.le_refl _, Nat.zero_le _⟩
  · exact ⟨_, cap, rfl, h1, h2⟩
theorem outS_len (out : List Sp) (e e' : Int) (b : Bool) : (outS out e e' b).length ≤ out.length + 1 := by
  cases b
  · rw [outS_no]; omega
  · rcases snocS out with rfl | ⟨r, ⟨f, t⟩, rfl⟩
    · rw [outS_nil]; simp
    · by_cases h : t = e
      · subst h; rw [outS_join]; simp
      · rw [outS_new r (q := (f, t)) h]; simp
theorem ofS_len (a b : List Sp) (what : Int) (es : List Int) : ∀ i, (ofS a b what es i).length ≤ i
  | 0 => Nat.le_refl _
  | i + 1 => Nat.le_trans (outS_len _ _ _ _) (Nat.succ_le_succ (ofS_len a b what es i))
theorem endsOf_take (es : List Int) (l : List Sp) (j : Nat) (h : j < l.length) : endsOf es (l.take (j + 1)) = putI (putI (endsOf es (l.take j)) (clS l[j].1)) (clS l[j].2) := by
  unfold endsOf
  rw [List.take_succ_eq_append_getElem h, List.foldl_append]
  rfl
theorem endsOf_len : ∀ (l : List Sp) (es : List Int), (endsOf es l).length ≤ es.length + 2 * l.length
  | [], es => by simp [endsOf]
  | s :: l, es => by
    show (endsOf (putI (putI es (clS s.1)) (clS s.2)) l).length ≤ _
    have h1 := endsOf_len l (putI (putI es (clS s.1)) (clS s.2))
    have h2 := putI_len (putI es (clS s.1)) (clS s.2)
    have h3 := putI_len es (clS s.1)
    simp
    omega

end Go.Proofs.YtmigapjkicddiaaDoor

namespace Go.Proofs.YtmigapjkicddiaaDoor
open Go.RowKit

/-- how many bytes the spans of a canonical list have -/
def sumS (ps : List Sp) : Int := (ps.map fun s => s.2 - s.1).sum
theorem sumS_cons (s : Sp) (r : List Sp) : sumS (s :: r) = (s.2 - s.1) + sumS r := by simp [sumS]
theorem sumS_snoc (r : List Sp) (s : Sp) : sumS (r ++ [s]) = sumS r + (s.2 - s.1) := by simp [sumS]
theorem CanF.sum : ∀ {b : Int} {l : List Sp}, CanF b l → 0 ≤ sumS l ∧ sumS l ≤ endF b l - b ∧ (l ≠ [] → endF b l ≤ farS)
  | b, [], _ => by simp [sumS, endF]
  | b, s :: r, h => by
    obtain ⟨h1, h2, h3, h4⟩ := h
    obtain ⟨i1, i2, i3⟩ := h4.sum
    rw [sumS_cons]
    refine ⟨by omega, by show _ ≤ endF s.2 r - b; omega, fun _ => ?_⟩
    show endF s.2 r ≤ farS
    cases r with
    | nil => exact h3
    | cons x y => exact i3 (by simp)
theorem CanF.take : ∀ {b : Int} {l : List Sp} (j : Nat), CanF b l → CanF b (l.take j)
  | _, _, 0, _ => by simp [CanF]
  | _, [], _ + 1, _ => trivial
  | _, _ :: _, j + 1, h => ⟨h.1, h.2.1, h.2.2.1, h.2.2.2.take j⟩
theorem canon_sum {l : List Sp} (h : Canon l) (j : Nat) : 0 ≤ sumS (l.take j) ∧ sumS (l.take j) ≤ 1099511627777 := by
  obtain ⟨h1, h2, h3⟩ := (h.take j).sum
  refine ⟨h1, ?_⟩
  by_cases q : l.take j = []
  · rw [q]; simp [sumS]
  · have := h3 q
    have : endF (-1) (l.take j) ≤ 1099511627776 := this
    omega
theorem canon_bd : ∀ {b : Int} {l : List Sp}, -1 ≤ b → CanF b l → ∀ i (h : i < l.length), 0 ≤ l[i].1 ∧ l[i].1 < l[i].2 ∧ l[i].2 ≤ 1099511627776
  | b, s :: r, hb, h, 0, _ => ⟨by have := h.1; show 0 ≤ s.1; omega, h.2.1, h.2.2.1⟩
  | b, s :: r, hb, h, i + 1, hi => canon_bd (by have := h.1; have := h.2.1; omega) h.2.2.2 i (by simpa using hi)

set_option maxRecDepth 10000 in
/-- what a call tells: spans that can be read, in new memory -/
def GivesS (f : Nat) (xs : Array Value) (w : World) (ps : List Sp) : Prop :=
  Calls Tryd.prog f xs w fun e w' => ∃ A n c, e = .returned (.slice A n c) ∧ RdS w' w'.heap.size A n ps ∧ n ≤ 9223372036854775807 ∧ Below w.heap.size w w'
theorem drewN_add (w : World) (a b : Nat) : w.drewN (a + b) = (w.drewN a).drewN b := by
  simp [World.drewN, Nat.add_assoc]

end Go.Proofs.YtmigapjkicddiaaDoor
