/- What the laws of layer 5 share: how maps and slices of maps are opened; maps that can be read, carried on; the contracts in that form; the laws' own in. -/
import Derived.Test.YtiopefndbamkhaaLaw
import Derived.Test.YtiopefndbamkhaaObZ
import Derived.Deep.Matrix
namespace Go.Proofs.Ytiopefndbamkhaa
open Go.ChangeShapes Go.WideShapes Go.ChangeAt Go.RowKit Go.Joins

section
variable {H : Type} {enc : TypeId × Value → H} {w : World} {spare : Nat → Bool} {held : Bool}
theorem ar_map {base b0 : Nat} {r : Reach} {v : Value} {d : DataW H} {ps : List MemPlace} (k : Value.okWide Try.prog w r b0 22 v) (h : DataW.Trod enc Try.prog w base spare held 22 v d ps) :
    ∃ A n c l, v = .slice A n c ∧ RdI w w.heap.size A n l ∧ n ≤ 9223372036854775807 := by
  obtain ⟨a, n, c, rfl⟩ := okWide_slice Try.underlying22 k
  obtain ⟨fuel, hf⟩ := h
  obtain ⟨A, n', c', l, hcs, h1, _, h2, h3⟩ := op_ints Try.underlying22 Try.underlying3 (by kernel_rfl) hf
  simp [Value.cells] at hcs
  obtain ⟨rfl, rfl, rfl⟩ := hcs
  exact ⟨_, _, _, l, rfl, h1, by omega⟩
theorem ar_maps {base b0 : Nat} {r : Reach} {v : Value} {d : DataW H} {ps : List MemPlace} (k : Value.okWide Try.prog w r b0 31 v) (h : DataW.Trod enc Try.prog w base (fun _ => true) held 31 v d ps) :
    ∃ A n c ll, v = .slice A n c ∧ RdII w w.heap.size A n ll ∧ n ≤ 9223372036854775807 := by
  obtain ⟨a, n, c, rfl⟩ := okWide_slice Try.underlying31 k
  obtain ⟨fuel, hf⟩ := h
  rcases Go.Deep.open_int_rows Try.underlying31 Try.underlying22 Try.underlying3 (by kernel_rfl) (by kernel_rfl) hf with ⟨hcs, _⟩ | ⟨ad, len, cap, AA, LL, CC, Z, hcs, _, hl, hm, _, hrow⟩
  · simp [Value.cells] at hcs
    obtain ⟨rfl, rfl, rfl⟩ := hcs
    exact ⟨_, _, _, [], rfl, ⟨rfl, fun j hj => by simp at hj⟩, by omega⟩
  · simp [Value.cells] at hcs
    obtain ⟨rfl, rfl, rfl⟩ := hcs
    have hm : c ≤ 9223372036854775807 := by simpa [maxLen] using hm
    refine ⟨_, _, _, (List.range n).map fun r => (Z r).take (LL r), rfl, ⟨by simp, fun j hj => ?_⟩, by omega⟩
    simp only [List.length_map, List.length_range] at hj
    obtain ⟨h1, h2, h3, h4, _, h6, h7⟩ := hrow j (by omega)
    have hb : ad.block < w.heap.size := by
      have := World.block_lt_of_cell? w _ h1
      rwa [addB] at this
    have hC : CC j ≤ 9223372036854775807 := by simpa [maxLen] using h3
    have hlen : ((Z j).take (LL j)).length = LL j := by rw [List.length_take]; omega
    simp only [List.getElem_map, List.getElem_range]
    refine ⟨ad, AA j, CC j, rfl, hb, by rw [hlen]; exact h1, ⟨rfl, fun hn => ?_⟩, by rw [hlen]; omega⟩
    rw [hlen] at hn
    rcases hA : AA j with _ | a'
    · have := h6 hA; omega
    · obtain ⟨_, hc⟩ := h7 a' hA
      have hb' := World.block_lt_of_cell? w _ (hc 0 (by omega))
      rw [addB] at hb'
      refine ⟨a', rfl, hb', fun i hi => ?_⟩
      rw [hlen] at hi
      have hi2 : i < (Z j).length := by omega
      rw [hc i (by omega), List.getElem_take, List.getD_eq_getElem?_getD, List.getElem?_eq_getElem hi2]
      rfl
end

/-- a map that can be read, and is short -/
def AtI (w : World) (A : Option Addr) (n : Nat) (l : List Int) : Prop := RdI w w.heap.size A n l ∧ n ≤ 3000
theorem AtI.keep {w w' : World} {A : Option Addr} {n : Nat} {l : List Int} (h : Hid (AtI w A n l)) (hb : Hid (Below w.heap.size w w')) : Hid (AtI w' A n l) :=
  ⟨(h.out.1.below hb.out).more hb.out.size, h.out.2⟩
theorem AtI.of {w : World} {A : Option Addr} {n : Nat} {l : List Int} (h : RdI w w.heap.size A n l) (hl : l.length ≤ 3000) : Hid (AtI w A n l) := ⟨h, by rw [← h.1]; exact hl⟩
def AtB (w : World) (A : Option Addr) (n : Nat) (l : List UInt8) : Prop := Rd w w.heap.size A n l ∧ n ≤ 1000
theorem AtB.keep {w w' : World} {A : Option Addr} {n : Nat} {l : List UInt8} (h : Hid (AtB w A n l)) (hb : Hid (Below w.heap.size w w')) : Hid (AtB w' A n l) :=
  ⟨(h.out.1.below hb.out).more hb.out.size, h.out.2⟩
def AtL (w : World) (A : Option Addr) (n : Nat) (ll : List (List Int)) : Prop := RdII w w.heap.size A n ll ∧ n ≤ 10 ∧ ∀ l ∈ ll, l.length ≤ 3000
theorem AtL.keep {w w' : World} {A : Option Addr} {n : Nat} {ll : List (List Int)} (h : Hid (AtL w A n ll)) (hb : Hid (Below w.heap.size w w')) : Hid (AtL w' A n ll) :=
  ⟨(h.out.1.below hb.out).more hb.out.size, h.out.2⟩
theorem belO {W w w' : World} (h : Hid (Below W.heap.size W w)) (hb : Hid (Below w.heap.size w w')) : Hid (Below W.heap.size W w') := h.out.trans (hb.out.mono h.out.size)
def ForI (f : Nat) (xs : Array Value) (w : World) (l : List Int) : Prop :=
  Calls Try.prog f xs w fun e w' => ∃ A n c, e = .returned (.slice A n c) ∧ Hid (AtI w' A n l) ∧ Hid (Below w.heap.size w w') ∧ Hid (n = l.length)
theorem GivesI.at {f : Nat} {xs : Array Value} {w : World} {l : List Int} (h : GivesI f xs w l) (hl : l.length ≤ 3000) : ForI f xs w l :=
  h.mono fun e w' q => by
    obtain ⟨A, n, c, h1, h2, _, h4⟩ := q
    exact ⟨A, n, c, h1, AtI.of h2 hl, h4, Lib.hid h2.1.symm⟩
def ForB (f : Nat) (xs : Array Value) (w : World) (l : List UInt8) : Prop :=
  Calls Try.prog f xs w fun e w' => ∃ A n c, e = .returned (.slice A n c) ∧ Hid (AtB w' A n l) ∧ Hid (Below w.heap.size w w') ∧ Hid (n = l.length ∧ n ≤ c)
theorem GivesB.at {f : Nat} {xs : Array Value} {w : World} {l : List UInt8} (h : GivesB f xs w l) (hl : l.length ≤ 1000) : ForB f xs w l :=
  h.mono fun e w' q => by
    obtain ⟨A, n, c, h1, h2, h3, h4⟩ := q
    exact ⟨A, n, c, h1, ⟨h2, by rw [← h2.1]; exact hl⟩, h4, Lib.hid ⟨h2.1.symm, h3.1⟩⟩
def ForV (f : Nat) (xs : Array Value) (w : World) (v : Value) : Prop :=
  Calls Try.prog f xs w fun e w' => e = .returned v ∧ Hid (Below w.heap.size w w')
theorem is_len {r : List Int} (h : IsRow r) : r.length ≤ 3000 := by have := h.1; omega
theorem changedO_len (m : List Int) (ll : List (List Int)) : (changedO m ll).length ≤ 3000 := by have := changedN_len m ll 512; unfold changedO; omega
theorem packO_len (m : List Int) : (packO m).length ≤ 1000 := by
  unfold packO
  rw [packR_len]
  have := rowO_len m
  omega

section
variable {w : World} {A1 A2 : Option Addr} {n1 n2 : Nat} {a b : List Int}
theorem lCheck (c : Nat) (h : Hid (AtI w A1 n1 a)) : ForV 11 #[.slice A1 n1 c] w (.bool (decide (IsRow a))) := PCheck A1 n1 c a w h.out.1 h.out.2
theorem lMay (c : Nat) (h : Hid (AtI w A1 n1 a)) : ForV 12 #[.slice A1 n1 c] w (.bool (decide (IsRow a))) :=
  (RMay_any A1 n1 c a _ w h.out.1 (by have := h.out.2; omega)).mono fun _ _ q => ⟨q.1, by rw [← q.2]; exact Below.refl _ _⟩
theorem lGet (c : Nat) (i : Int) (h : Hid (AtI w A1 n1 a)) : ForV 13 #[.slice A1 n1 c, .int .i64 i] w (.int .i64 (getO a i)) := PGet A1 n1 c a i w h.out.1 h.out.2
theorem lRGet (c : Nat) (i : Int) (h : Hid (AtI w A1 n1 a)) : ForV 14 #[.slice A1 n1 c, .int .i64 i] w (.int .i64 (getO a i)) :=
  (RGet_any A1 n1 c a i _ w h.out.1 (by have := h.out.2; omega)).mono fun _ _ q => ⟨q.1, by rw [← q.2]; exact Below.refl _ _⟩
theorem lSet (c : Nat) (i s : Int) (h : Hid (AtI w A1 n1 a)) : ForI 16 #[.slice A1 n1 c, .int .i64 i, .int .i64 s] w (setO a i s) := (PSet A1 n1 c a i s w h.out.1 h.out.2).at (is_len (setO_is a i s))
theorem lRSet (c : Nat) (i s : Int) (h : Hid (AtI w A1 n1 a)) : ForI 17 #[.slice A1 n1 c, .int .i64 i, .int .i64 s] w (setO a i s) := (givesI (RSet_any A1 n1 c a i s w h.out.1 (by have := h.out.2; omega))).at (is_len (setO_is a i s))
theorem lFresh (c : Nat) (h : Hid (AtI w A1 n1 a)) : ForI 18 #[.slice A1 n1 c] w (freshO a) := (PFresh A1 n1 c a w h.out.1 h.out.2).at (is_len (freshO_is a))
theorem lRFresh (c : Nat) (h : Hid (AtI w A1 n1 a)) : ForI 19 #[.slice A1 n1 c] w (freshO a) := (givesI (RFresh_any A1 n1 c a w h.out.1 (by have := h.out.2; omega))).at (is_len (freshO_is a))
theorem lMerge (c1 c2 : Nat) (h : Hid (AtI w A1 n1 a)) (g : Hid (AtI w A2 n2 b)) : ForI 20 #[.slice A1 n1 c1, .slice A2 n2 c2] w (mergeO a b) := (PMerge A1 A2 n1 n2 c1 c2 a b w h.out.1 g.out.1 h.out.2 g.out.2).at (is_len (mergeO_is a b))
theorem lRMerge (c1 c2 : Nat) (h : Hid (AtI w A1 n1 a)) (g : Hid (AtI w A2 n2 b)) : ForI 21 #[.slice A1 n1 c1, .slice A2 n2 c2] w (mergeO a b) :=
  (givesI (RMerge_any A1 A2 n1 n2 c1 c2 a b w h.out.1 g.out.1 (by have := h.out.2; omega) (by have := g.out.2; omega))).at (is_len (mergeO_is a b))
theorem lChanged {ll : List (List Int)} (c1 c2 : Nat) (h : Hid (AtI w A1 n1 a)) (g : Hid (AtL w A2 n2 ll)) : ForI 22 #[.slice A1 n1 c1, .slice A2 n2 c2] w (changedO a ll) :=
  (PChanged A1 A2 n1 n2 c1 c2 a ll w h.out.1 g.out.1 h.out.2 g.out.2.1 g.out.2.2).at (changedO_len a ll)
theorem lRChanged {ll : List (List Int)} (c1 c2 : Nat) (h : Hid (AtI w A1 n1 a)) (g : Hid (AtL w A2 n2 ll)) : ForI 23 #[.slice A1 n1 c1, .slice A2 n2 c2] w (changedO a ll) :=
  (givesI (RChanged_any A1 A2 n1 n2 c1 c2 a ll w h.out.1 g.out.1 (by have := h.out.2; omega) (by have := g.out.2.1; omega))).at (changedO_len a ll)
theorem lPack (c : Nat) (h : Hid (AtI w A1 n1 a)) : ForB 26 #[.slice A1 n1 c] w (packO a) := (PPack A1 n1 c a w h.out.1 h.out.2).at (packO_len a)
theorem lRPack (c : Nat) (h : Hid (AtI w A1 n1 a)) : ForB 27 #[.slice A1 n1 c] w (packO a) := (givesB (RPack_any A1 n1 c a w h.out.1 (by have := h.out.2; omega))).at (packO_len a)
theorem lInts (c1 c2 : Nat) (h : Hid (AtI w A1 n1 a)) (g : Hid (AtI w A2 n2 b)) : ForV 15 #[.slice A1 n1 c1, .slice A2 n2 c2] w (.bool (decide (a = b))) :=
  (Ints_any A1 A2 n1 c1 n2 c2 a b _ _ w h.out.1 g.out.1 (by have := h.out.2; omega) (by have := g.out.2; omega)).mono fun _ _ ⟨q, k, hk⟩ => ⟨q, by subst hk; exact ⟨rfl, rfl, rfl, Nat.le_refl _, fun _ _ => rfl⟩⟩
theorem lYes5 (c1 c2 : Nat) (h : Hid (AtI w A1 n1 a)) (g : Hid (AtI w A2 n2 b)) (e : a = b) : ForV 15 #[.slice A1 n1 c1, .slice A2 n2 c2] w (.bool true) := by
  have q := lInts c1 c2 h g
  rw [decide_eq_true e] at q
  exact q
end
/-- what Unpack tells, with its answer known -/
def ForU (f : Nat) (xs : Array Value) (w : World) (b : List UInt8) : Prop :=
  Calls Try.prog f xs w fun e w' => ∃ A n c, e = .returned (.tuple #[.slice A n c, .bool (unO b).isSome]) ∧ Hid (AtI w' A n ((unO b).getD [])) ∧ Hid (Below w.heap.size w w') ∧ Hid (n = ((unO b).getD []).length)
theorem unO_len (b : List UInt8) : ((unO b).getD []).length ≤ 3000 := by
  cases h : unO b with
  | none => simp
  | some r => exact is_len (unO_some.1 h).1
theorem UnP.at {f : Nat} {xs : Array Value} {w : World} {b : List UInt8} (h : Calls Try.prog f xs w (UnP w b)) : ForU f xs w b :=
  h.mono fun e w' q => by
    obtain ⟨A, n, c, h1, h2, _, h4⟩ := q
    exact ⟨A, n, c, h1, AtI.of h2 (unO_len b), h4, Lib.hid h2.1.symm⟩
section
variable {w : World} {A1 : Option Addr} {n1 : Nat} {b : List UInt8}
theorem lUnpack (c : Nat) (h : Hid (AtB w A1 n1 b)) (k : n1 ≤ c) : ForU 24 #[.slice A1 n1 c] w b := UnP.at (PUnpack A1 n1 c b w h.out.1 h.out.2 k)
theorem lRUnpack (c : Nat) (h : Hid (AtB w A1 n1 b)) : ForU 25 #[.slice A1 n1 c] w b := UnP.at (RUnpack_any A1 n1 c b w h.out.1 (by have := h.out.2; omega))
end

/-- literal slices -/
theorem litI (w : World) (l : List Int) (xs : Array Value) (t : TypeId) (b n : Nat) (hb : b = w.heap.size) (hx : xs = (l.map (Value.int .i64)).toArray) (hn : n = l.length) (hl : l.length ≤ 3000) : Hid (AtI (w.alloc (.cells xs t)) (some ⟨b, 0, none⟩) n l) := by
  subst hb hx hn
  refine ⟨?_, hl⟩
  have h := RdI_lit w t l
  have e : (w.alloc (.cells (l.map (Value.int .i64)).toArray t)).heap.size = w.heap.size + 1 := by simp
  rw [e]
  exact h
theorem litB (w : World) (l : List UInt8) (xs : Array Value) (t : TypeId) (b n : Nat) (hb : b = w.heap.size) (hx : xs = (l.map bv).toArray) (hn : n = l.length) (hl : l.length ≤ 1000) : Hid (AtB (w.alloc (.cells xs t)) (some ⟨b, 0, none⟩) n l) := by
  subst hb hx hn
  refine ⟨?_, hl⟩
  have h := Rd_lit w t l
  have e : (w.alloc (.cells (l.map bv).toArray t)).heap.size = w.heap.size + 1 := by simp
  rw [e]
  exact h
theorem litL1 (w : World) (A1 : Option Addr) (n1 c1 : Nat) (a : List Int) (t : TypeId) (b : Nat) (hb : b = w.heap.size) (h : Hid (AtI w A1 n1 a)) :
    Hid (AtL (w.alloc (.cells #[.slice A1 n1 c1] t)) (some ⟨b, 0, none⟩) 1 [a]) := by
  subst hb
  have hl := h.out.1.1
  have h3 := h.out.2
  refine ⟨⟨rfl, fun j hj => ?_⟩, by omega, fun l hm => by simp at hm; subst hm; omega⟩
  obtain rfl : j = 0 := by simpa using hj
  refine ⟨_, A1, c1, rfl, by simp, ?_, ?_, by show a.length ≤ _; omega⟩
  · have e : (⟨w.heap.size, 0, none⟩ : Addr).add 0 = ⟨w.heap.size, 0, none⟩ := by simp [Addr.add]
    rw [e, cell_blk (heap_alloc_new w _)]
    show some (Value.slice A1 n1 c1) = some (.slice A1 a.length c1)
    rw [hl]
  · show RdI _ _ A1 a.length a
    rw [hl]
    exact (h.out.1.below ((Below.refl w.heap.size w).alloc (Nat.le_refl _) _)).more (by simp)
theorem litL2 (w : World) (A1 A2 : Option Addr) (n1 n2 c1 c2 : Nat) (a a2 : List Int) (t : TypeId) (b : Nat) (hb : b = w.heap.size) (h : Hid (AtI w A1 n1 a)) (g : Hid (AtI w A2 n2 a2)) :
    Hid (AtL (w.alloc (.cells #[.slice A1 n1 c1, .slice A2 n2 c2] t)) (some ⟨b, 0, none⟩) 2 [a, a2]) := by
  subst hb
  have hl := h.out.1.1
  have h3 := h.out.2
  have gl := g.out.1.1
  have g3 := g.out.2
  refine ⟨⟨rfl, fun j hj => ?_⟩, by omega, fun l hm => by simp at hm; rcases hm with rfl | rfl <;> omega⟩
  have hj2 : j < 2 := hj
  rcases (show j = 0 ∨ j = 1 by omega) with rfl | rfl
  · refine ⟨_, A1, c1, rfl, by simp, ?_, ?_, by show a.length ≤ _; omega⟩
    · have e : (⟨w.heap.size, 0, none⟩ : Addr).add 0 = ⟨w.heap.size, 0, none⟩ := by simp [Addr.add]
      rw [e, cell_blk (heap_alloc_new w _)]
      show some (Value.slice A1 n1 c1) = some (.slice A1 a.length c1)
      rw [hl]
    · show RdI _ _ A1 a.length a
      rw [hl]
      exact (h.out.1.below ((Below.refl w.heap.size w).alloc (Nat.le_refl _) _)).more (by simp)
  · refine ⟨_, A2, c2, rfl, by simp, ?_, ?_, by show a2.length ≤ _; omega⟩
    · have e : (⟨w.heap.size, 0, none⟩ : Addr).add 1 = ⟨w.heap.size, 1, none⟩ := by simp [Addr.add]
      rw [e, cell_blk (heap_alloc_new w _)]
      show some (Value.slice A2 n2 c2) = some (.slice A2 a2.length c2)
      rw [gl]
    · show RdI _ _ A2 a2.length a2
      rw [gl]
      exact (g.out.1.below ((Below.refl w.heap.size w).alloc (Nat.le_refl _) _)).more (by simp)
theorem alB (w : World) (o : Obj) : Hid (Below w.heap.size w (w.alloc o)) := (Below.refl w.heap.size w).alloc (Nat.le_refl _) o

set_option maxHeartbeats 1000000 in
theorem in_any (A : Option Addr) (n c : Nat) (l : List Int) (x : Int) (w : World) (h : Hid (AtI w A n l)) : Calls Try.prog 28 #[.slice A n c, .int .i64 x] w fun e w' => e = .returned (.bool (decide (x ∈ l))) ∧ w = w' := by
  have Hn := Lib.hid h.out.2
  have Hr := Lib.hid h.out.1
  clear h
  have hn : n ≤ 3000 := Hn.out
  go_enter Try.func28, Try.ntmps28
  go_wp2_with fail
  go_loopw [5] (fun i wr => wr = w ∧ ∃ j : Nat, j ≤ n ∧ i = .int .i64 j ∧ Hid (x ∉ l.take j)) (fun i _ => n - (intOf i).toNat)
  case atStart => exact ⟨rfl, 0, Nat.zero_le _, rfl, by show x ∉ l.take 0; simp⟩
  case round =>
    obtain ⟨rfl, j, hj, rfl, Hj⟩ := hrel
    by_cases hjn : j < n
    · have hjl : j < l.length := by rw [Hr.out.1]; exact hjn
      obtain ⟨ad, rfl, _, hc⟩ := Hr.out.cellAt hjn
      have Hst := Lib.hid (List.take_succ_eq_append_getElem hjl)
      have Hmem : Hid (l[j] ∈ l) := List.getElem_mem hjl
      generalize l[j] = y at hc Hst Hmem
      have hj0 : (0 : Int) ≤ (j : Int) := by omega
      have hj1 : (j : Int) < (n : Int) := by omega
      clear hjl
      by_cases hx : y = x
      · subst hx
        have He := Lib.hid (show decide (y ∈ l) = true from decide_eq_true Hmem.out)
        go_wp2_with fail
        go_ret
        exact ⟨by first | (rw [He.out]; done) | (rw [He.out]; rfl), rfl⟩
      · have hb : (y == x) = false := by simpa using hx
        have Hj2 : Hid (x ∉ l.take (j + 1)) := by
          show x ∉ _
          rw [Hst.out]
          intro q
          rcases List.mem_append.1 q with q | q
          · exact Hj.out q
          · simp at q; exact hx q.symm
        clear Hst
        go_wp2_with fail
        go_roundw
        case rel => exact ⟨by first | rfl | trivial, j + 1, by omega, by go_num, Hj2⟩
        case measure => simp [intOf]; omega
    · obtain rfl : j = n := by omega
      have He := Lib.hid (show decide (x ∈ l) = false from decide_eq_false (by have h := Hj.out; rwa [List.take_of_length_le (by rw [Hr.out.1]; exact Nat.le_refl _)] at h))
      go_wp2_with fail
      go_ret
      exact ⟨by first | (rw [He.out]; done) | (rw [He.out]; rfl), rfl⟩
end Go.Proofs.Ytiopefndbamkhaa
