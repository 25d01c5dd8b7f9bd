/- Words for FrameBack: rows of bytes that came in; frames one behind the other. -/
import Derived.Test.YthidmajlmehopaaDoorFrX
import Derived.Deep.Matrix
namespace Go.Proofs.YthidmajlmehopaaDoor
open Go.ChangeShapes Go.WideShapes Go.ChangeAt Go.RowKit Go.Joins

theorem le_alloc (w : World) (o : Obj) : w.heap.size ≤ (w.alloc o).heap.size := by simp
theorem one_cell (x : Int) : ∀ u ∈ [Value.int .i64 x], u.oneCell' = true := by
  intro u hu; simp at hu; subst hu; rfl

/-- rows of bytes, as a slice of slices holds them -/
def RdS (w : World) (B : Nat) (A : Option Addr) (n : Nat) (AA : Nat → Option Addr) (LL CC : Nat → Nat) (ls : Nat → List UInt8) : Prop :=
  ∀ r, r < n → ∃ ad, A = some ad ∧ ad.block < B ∧ w.cell? (ad.add r) = some (.slice (AA r) (LL r) (CC r)) ∧ Rd w B (AA r) (LL r) (ls r)

theorem RdS.below {w w' : World} {B : Nat} {A : Option Addr} {n : Nat} {AA : Nat → Option Addr} {LL CC : Nat → Nat} {ls : Nat → List UInt8} (h : RdS w B A n AA LL CC ls) (hb : Below B w w') : RdS w' B A n AA LL CC ls := fun r hr => by
  obtain ⟨ad, h1, h2, h3, h4⟩ := h r hr
  exact ⟨ad, h1, h2, (hb.cell (by rw [addB]; exact h2)).trans h3, h4.below hb⟩

theorem ar_rows {H : Type} {enc : TypeId × Value → H} {W : World} {base : Nat} {v : Value} {d : DataW H} {p : List MemPlace}
    (k : Value.okWide Tryd.prog W .any base 38 v) (h : DataW.Trod enc Tryd.prog W 0 (fun _ => true) true 38 v d p) :
    ∃ A n c AA LL CC ls, v = .slice A n c ∧ RdS W W.heap.size A n AA LL CC ls := by
  obtain ⟨a, n, c, rfl⟩ := okWide_slice Tryd.underlying38 k
  obtain ⟨fuel, hf⟩ := h
  rcases Go.Deep.open_int_rows Tryd.underlying38 Tryd.underlying22 Tryd.underlying5 (by kernel_rfl) (by kernel_rfl) hf with ⟨hcs, _⟩ | ⟨ad, len, cap, AA, LL, CC, Z, hcs, _, hl, hm, _, hrow⟩
  · simp [Value.cells] at hcs
    obtain ⟨rfl, rfl, rfl⟩ := hcs
    exact ⟨_, _, _, fun _ => none, fun _ => 0, fun _ => 0, fun _ => [], rfl, fun r hr => by omega⟩
  · simp [Value.cells] at hcs
    obtain ⟨rfl, rfl, rfl⟩ := hcs
    refine ⟨_, _, _, AA, LL, CC, fun r => ((Z r).take (LL r)).map fun z => UInt8.ofNat z.toNat, rfl, fun r hr => ?_⟩
    obtain ⟨h1, h2, h3, h4, h5, h6, h7⟩ := hrow r (by omega)
    have hb : ad.block < W.heap.size := by
      have := World.block_lt_of_cell? W _ h1
      rwa [addB] at this
    refine ⟨ad, rfl, hb, h1, ⟨by simp; omega, fun hn => ?_⟩⟩
    rcases hA : AA r with _ | a'
    · have := h6 hA; omega
    · obtain ⟨_, hc⟩ := h7 a' hA
      have hc0 := hc 0 (by omega)
      have hb' := World.block_lt_of_cell? W _ hc0
      rw [addB] at hb'
      refine ⟨a', rfl, hb', fun j hj => ?_⟩
      simp only [List.length_map, List.length_take] at hj
      have hj2 : j < (Z r).length := by omega
      rw [hc j (by omega)]
      have hw := h5 ((Z r)[j]) (List.getElem_mem _)
      have hw2 : 0 ≤ (Z r)[j] ∧ (Z r)[j] ≤ 255 := by simpa [Lit.wf, IntKind.min, IntKind.max, IntKind.signed, IntKind.bits] using hw
      simp only [List.getElem_map, List.getElem_take, List.getD_eq_getElem?_getD, List.getElem?_eq_getElem hj2, Option.getD_some, bv_ofNat]
      congr 2
      omega

/-- the first j frames -/
def frs (K : Nat → Nat) (ls : Nat → List UInt8) (j : Nat) : List UInt8 := (List.range j).flatMap fun i => mkF (K i) (ls i)
theorem frs_succ (K : Nat → Nat) (ls : Nat → List UInt8) (j : Nat) : frs K ls (j + 1) = frs K ls j ++ mkF (K j) (ls j) := by
  unfold frs; rw [List.range_succ, List.flatMap_append]; simp
/-- where they end -/
def endsL (K : Nat → Nat) (ls : Nat → List UInt8) (j : Nat) : List Int := (List.range j).map fun i => ((frs K ls (i + 1)).length : Int)
theorem endsL_succ (K : Nat → Nat) (ls : Nat → List UInt8) (j : Nat) : endsL K ls (j + 1) = endsL K ls j ++ [((frs K ls (j + 1)).length : Int)] := by
  unfold endsL; rw [List.range_succ, List.map_append]; rfl
/-- the frames from j on, and what stands behind them -/
def tlF (K : Nat → Nat) (ls : Nat → List UInt8) (lb : List UInt8) (n j : Nat) : List UInt8 := ((List.range n).drop j).flatMap (fun i => mkF (K i) (ls i)) ++ lb
theorem tlF_zero (K : Nat → Nat) (ls : Nat → List UInt8) (lb : List UInt8) (n : Nat) : tlF K ls lb n 0 = frs K ls n ++ lb := rfl
theorem tlF_end (K : Nat → Nat) (ls : Nat → List UInt8) (lb : List UInt8) (n : Nat) : tlF K ls lb n n = lb := by
  unfold tlF; rw [List.drop_of_length_le (by simp)]; rfl
theorem tlF_step (K : Nat → Nat) (ls : Nat → List UInt8) (lb : List UInt8) {n j : Nat} (h : j < n) : tlF K ls lb n j = mkF (K j) (ls j) ++ tlF K ls lb n (j + 1) := by
  unfold tlF; rw [List.drop_eq_getElem_cons (by simpa using h)]; simp
theorem wh_tl (K : Nat → Nat) (ls : Nat → List UInt8) (lb : List UInt8) (n : Nat) (hb : lb.length ≤ 7) (hls : ∀ i, i < n → (ls i).length ≤ 8192) (k : Nat) :
    ∀ j, j + k = n → wh (tlF K ls lb n j) (frs K ls j).length = (endsL K ls n).drop j := by
  induction k with
  | zero =>
    intro j hj
    obtain rfl : j = n := by omega
    rw [tlF_end, wh_stop (by rw [nx_short (by omega)]; decide), List.drop_of_length_le (by simp [endsL])]
  | succ k ih =>
    intro j hj
    have e : (frs K ls j).length + ((ls j).length + 12) = (frs K ls (j + 1)).length := by rw [frs_succ, List.length_append, mkF_length]
    rw [tlF_step K ls lb (by omega), wh_mk _ _ _ (hls j (by omega)), e, ih (j + 1) (by omega)]
    rw [List.drop_eq_getElem_cons (show j < (endsL K ls n).length by simp [endsL]; omega)]
    simp [endsL]
theorem wh_all (K : Nat → Nat) (ls : Nat → List UInt8) (lb : List UInt8) (n : Nat) (hb : lb.length ≤ 7) (hls : ∀ i, i < n → (ls i).length ≤ 8192) : wh (frs K ls n ++ lb) 0 = endsL K ls n :=
  wh_tl K ls lb n hb hls n 0 (by omega)

/-- two rows of different elements are two blocks -/
theorem own_ne {w : World} {B B' n n' : Nat} {e e' : TypeId} {v v' : Value} {xs xs' : List Value} (h : w.ownsRow B e 1 v n xs) (h' : w.ownsRow B' e' 1 v' n' xs') (hne : e ≠ e') : v'.ownBlock = none ∨ v'.ownBlock ≠ v.ownBlock := by
  rcases h'.2 with ⟨rfl, _⟩ | ⟨g', cap', cur', rfl, _, hg', _⟩
  · exact .inl rfl
  · right
    rcases h.2 with ⟨rfl, _⟩ | ⟨g, cap, cur, rfl, _, hg, _⟩
    · intro hh; cases hh
    · intro hh
      injection hh with hh
      have hh : g' = g := hh
      subst hh
      rw [hg] at hg'
      injection hg' with hg'
      injection hg' with _ he
      exact hne he

theorem own_kept {w w' : World} {B n n' : Nat} {o : Obj} {v v' : Value} {xs xs' : List Value} (h : w.ownsRow B 5 1 v n xs) (h' : w.ownsRow B 3 1 v' n' xs') (hg : (w.alloc o).grownBy w' v'.ownBlock) : w'.ownsRow B 5 1 v n xs :=
  (h.alloc o).kept hg (own_ne (h'.alloc o) (h.alloc o) (by decide))
theorem own_below {w w' : World} {W : World} {n' : Nat} {e : TypeId} {o : Obj} {v' : Value} {xs' : List Value} (hb : Below W.heap.size W w) (h' : w.ownsRow W.heap.size e 1 v' n' xs') (hg : (w.alloc o).grownBy w' v'.ownBlock) : Below W.heap.size W w' :=
  (hb.alloc hb.size o).grown hg (Nat.le_trans hb.size (le_alloc _ _)) (fun q hq => (h'.lt q hq).1)

/-- the kind of frame j -/
def kdF (kind : Int) (j : Nat) : Nat := (bits .and .i64 (wrap64 (kind + (j : Int))) 255).toNat
theorem kdF_ok (kind : Int) (j : Nat) : bits .and .i64 (wrap64 (kind + (j : Int))) 255 = (kdF kind j : Int) ∧ kdF kind j ≤ 255 := by
  have h1 : 0 ≤ bits .and .i64 (wrap64 (kind + (j : Int))) 255 ∧ bits .and .i64 (wrap64 (kind + (j : Int))) 255 ≤ 255 := by
    show 0 ≤ IntKind.i64.wrap ((BitVec.ofInt 64 (wrap64 (kind + (j : Int))) &&& BitVec.ofInt 64 255).toNat : Int) ∧ IntKind.i64.wrap ((BitVec.ofInt 64 (wrap64 (kind + (j : Int))) &&& BitVec.ofInt 64 255).toNat : Int) ≤ 255
    rw [IntKind.wrap_i64, BitVec.toNat_and]
    have h2 : (BitVec.ofInt 64 255).toNat = 255 := by decide
    rw [h2]
    have h3 : (BitVec.ofInt 64 (wrap64 (kind + (j : Int)))).toNat &&& 255 ≤ 255 := Nat.and_le_right
    omega
  unfold kdF
  omega
end Go.Proofs.YthidmajlmehopaaDoor
