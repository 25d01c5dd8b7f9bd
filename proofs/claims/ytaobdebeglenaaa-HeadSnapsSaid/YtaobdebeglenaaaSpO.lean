/- Contract of the document's Of (spans). -/
import Derived.Test.YtaobdebeglenaaaMe
import Derived.Deep.AppendLies
namespace Go.Proofs.Ytaobdebeglenaaa
open Go.RowKit

def spC (s : Sp) : List Value := [.int .i64 s.1, .int .i64 s.2]
def flatS (ps : List Sp) : List Value := ps.flatMap spC
theorem flatS_len (ps : List Sp) : (flatS ps).length = ps.length * 2 := by
  induction ps with
  | nil => rfl
  | cons p ps ih => simp [flatS, spC] at ih ⊢; omega
theorem flatS_snoc (ps : List Sp) (p : Sp) : flatS (ps ++ [p]) = flatS ps ++ spC p := by simp [flatS]
theorem flatS_at (r : List Sp) (q : Sp) (j : Nat) : (flatS (r ++ [q]))[r.length * 2 + j]? = (spC q)[j]? := by
  rw [flatS_snoc, List.getElem?_append_right (by rw [flatS_len]; omega), flatS_len]
  congr 1
  omega
theorem flatS_set (r : List Sp) (f t t' : Int) : (flatS (r ++ [(f, t)])).set (r.length * 2 + 1) (.int .i64 t') = flatS (r ++ [(f, t')]) := by
  rw [flatS_snoc, flatS_snoc, List.set_append_right _ _ (by rw [flatS_len]; omega), flatS_len, show r.length * 2 + 1 - r.length * 2 = 1 by omega]
  simp [spC]
theorem flatS_get : ∀ (ps : List Sp) (i j : Nat) (hi : i < ps.length), j < 2 → (flatS ps)[i * 2 + j]? = (spC ps[i])[j]?
  | p :: ps, 0, j, _, hj => by
    rw [show flatS (p :: ps) = spC p ++ flatS ps from rfl, Nat.zero_mul, Nat.zero_add, List.getElem?_append_left (by simp [spC]; omega)]
    rfl
  | p :: ps, i + 1, j, hi, hj => by
    rw [show flatS (p :: ps) = spC p ++ flatS ps from rfl, List.getElem?_append_right (by simp [spC]; omega), show (i + 1) * 2 + j - (spC p).length = i * 2 + j by simp [spC]; omega]
    exact flatS_get ps i j (by simpa using hi) hj
theorem two_at (w : World) (x y : Int) (t : TypeId) (b : Nat) (hb : b = w.heap.size) : ∀ j u, ([.int .i64 x, .int .i64 y] : List Value)[j]? = some u → (w.alloc (.cells #[.int .i64 x, .int .i64 y] t)).cell? ((⟨b, 0, none⟩ : Addr).add j) = some u := by
  subst hb
  intro j u hu
  have hadd : (⟨w.heap.size, 0, none⟩ : Addr).add j = ⟨w.heap.size, j, none⟩ := by unfold Addr.add; split <;> simp_all
  rw [hadd, cell_blk (heap_alloc_new w _), List.getElem?_toArray]
  exact hu
theorem two_one (x y : Int) : ∀ u ∈ ([.int .i64 x, .int .i64 y] : List Value), u.oneCell' = true := by
  intro u hu
  simp at hu
  rcases hu with rfl | rfl <;> rfl
theorem ownF {w : World} {base n s : Nat} {e : TypeId} {v : Value} {xs : List Value} (h : w.ownsRow base e s v n xs) : ∃ A c, v = .slice A n c ∧ n ≤ c ∧ c ≤ maxLen := by
  rcases h.2 with ⟨rfl, rfl⟩ | ⟨g, cap, cur, rfl, _, _, h1, h2, _⟩
  · exact ⟨none, 0, rfl, Nat.le_refl _, Nat.zero_le _⟩
  · exact ⟨_, cap, rfl, h1, h2⟩
theorem outS_len (out : List Sp) (e e' : Int) (b : Bool) : (outS out e e' b).length ≤ out.length + 1 := by
  cases b
  · rw [outS_no]; omega
  · rcases snocS out with rfl | ⟨r, ⟨f, t⟩, rfl⟩
    · rw [outS_nil]; simp
    · by_cases h : t = e
      · subst h; rw [outS_join]; simp
      · rw [outS_new r (q := (f, t)) h]; simp
theorem ofS_len (a b : List Sp) (what : Int) (es : List Int) : ∀ i, (ofS a b what es i).length ≤ i
  | 0 => Nat.le_refl _
  | i + 1 => Nat.le_trans (outS_len _ _ _ _) (Nat.succ_le_succ (ofS_len a b what es i))
theorem endsOf_take (es : List Int) (l : List Sp) (j : Nat) (h : j < l.length) : endsOf es (l.take (j + 1)) = putI (putI (endsOf es (l.take j)) (clS l[j].1)) (clS l[j].2) := by
  unfold endsOf
  rw [List.take_succ_eq_append_getElem h, List.foldl_append]
  rfl
theorem endsOf_len : ∀ (l : List Sp) (es : List Int), (endsOf es l).length ≤ es.length + 2 * l.length
  | [], es => by simp [endsOf]
  | s :: l, es => by
    show (endsOf (putI (putI es (clS s.1)) (clS s.2)) l).length ≤ _
    have h1 := endsOf_len l (putI (putI es (clS s.1)) (clS s.2))
    have h2 := putI_len (putI es (clS s.1)) (clS s.2)
    have h3 := putI_len es (clS s.1)
    simp
    omega

end Go.Proofs.Ytaobdebeglenaaa
