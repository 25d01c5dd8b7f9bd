/- Objects among a law's arguments: how they read. -/
import Derived.Test.YtmigapjkicddiaaDoorMr
import Derived.Test.YtmigapjkicddiaaDoorMg
import Derived.Deep.Slices
import Derived.ChangeMaps5

namespace Go.Proofs.YtmigapjkicddiaaDoor
open Go.ChangeShapes Go.WideShapes Go.ChangeAt Go.RowKit Go.Joins

section
variable {H : Type} {enc : TypeId × Value → H} {w : World} {base : Nat} {spare : Nat → Bool} {held : Bool}
theorem ba_list (s : ByteArray) : (⟨s.data.toList.toArray⟩ : ByteArray) = s := by cases s; simp
set_option maxRecDepth 10000 in
theorem op_str8 {fuel : Nat} {cs : List Value} {x : DataW H × List MemPlace} (h : DataW.trod enc Tryd.prog w base spare held fuel 9 cs = some x) : ∃ X : List UInt8, cs = [.string ⟨X.toArray⟩] ∧ X.length ≤ 9223372036854775807 := by
  obtain ⟨s, hc, _, hw⟩ := DataW.trod_string Tryd.underlying9 h
  refine ⟨s.data.toList, by rw [hc, ba_list], ?_⟩
  have h2 : s.data.toList.length = s.size := Array.length_toList
  rw [h2]
  simpa [maxLen] using hw
set_option maxRecDepth 10000 in
theorem op_key {fuel : Nat} {cs : List Value} {x : DataW H × List MemPlace} (h : DataW.trod enc Tryd.prog w base spare held fuel 48 cs = some x) :
    ∃ (X : List UInt8) (A : Option Addr) (n c : Nat) (l : List UInt8), cs = [.string ⟨X.toArray⟩, .slice A n c] ∧ Rd w w.heap.size A n l ∧ n ≤ 9223372036854775807 ∧ X.length ≤ 9223372036854775807 := by
  obtain ⟨ys, n', _, _, hcl, hyl, hf⟩ := DataW.trod_struct Tryd.underlying48 h
  have hc2 : cs.length = 2 := hcl
  match cs, hc2 with
  | [v0, v1], _ =>
    match ys, hyl with
    | [y0, y1], _ =>
      obtain ⟨X, e0, k0⟩ := op_str8 (show DataW.trod enc Tryd.prog w base spare held n' 9 [v0] = some y0 from hf 0 _ rfl)
      obtain ⟨A, n, c, l, e1, k1, k2, k3⟩ := op_bytes Tryd.underlying22 Tryd.underlying5 (by kernel_rfl) (show DataW.trod enc Tryd.prog w base spare held n' 22 [v1] = some y1 from hf 1 _ rfl)
      cases e0; cases e1
      exact ⟨X, A, n, c, l, rfl, k1, by omega, k0⟩
instance inhKv : Inhabited Kv := ⟨⟨⟨[], []⟩, none, 0, 0⟩⟩
set_option maxRecDepth 10000 in
theorem op_keys {fuel : Nat} {cs : List Value} {x : DataW H × List MemPlace} (h : DataW.trod enc Tryd.prog w base spare held fuel 23 cs = some x) :
    ∃ A n c ks, cs = [.slice A n c] ∧ RdK w w.heap.size A n ks ∧ n ≤ c ∧ c ≤ 9223372036854775807 := by
  rcases Go.Deep.open_slice Tryd.underlying23 h with ⟨hcs, _⟩ | ⟨a, len, cap, m, n, D, Pl, hcs, hb, hl, hm, hmm, _, hi⟩
  · exact ⟨none, 0, 0, [], hcs, RdK.nil _ _ _, Nat.le_refl _, by omega⟩
  · have hm : cap ≤ 9223372036854775807 := by simpa [maxLen] using hm
    have hlm : len ≤ m := by rw [hmm]; split <;> omega
    have hC : Tryd.prog.cellsOf 48 = 2 := by kernel_rfl
    have each : ∀ i, i < len → ∃ z : Kv, w.cell? (a.add (i * 2)) = some (.string ⟨z.k.name.toArray⟩) ∧ w.cell? ((a.add (i * 2)).add 1) = some (.slice z.A z.n z.c) ∧ KvAt w w.heap.size z := fun i hi' => by
      obtain ⟨cs', h1, h2⟩ := hi i (by omega)
      rw [hC] at h1
      obtain ⟨_, hcl, hat⟩ := World.cells?_some h1
      obtain ⟨X, A, n', c, l, e, k1, k2, k3⟩ := op_key h2
      subst e
      have q0 := hat 0 (by omega)
      have q1 := hat 1 (by omega)
      rw [show (a.add (i * 2)).add 0 = a.add (i * 2) from by simp [Addr.add]] at q0
      exact ⟨⟨⟨X, l⟩, A, n', c⟩, q0, q1, k1, k2, k3⟩
    obtain ⟨Z, hZ⟩ := Go.Deep.choose_lt each
    refine ⟨some a, len, cap, (List.range len).map fun i => (Z i).k, hcs, ⟨by simp, fun i hi' => ?_⟩, hl, hm⟩
    simp only [List.length_map, List.length_range] at hi'
    have h2 := hZ i hi'
    have hs : a.spot = none := by
      have h1 := World.cell?_spot (hZ 0 (by omega)).1
      simpa [Addr.add] using h1
    obtain ⟨g, o, s⟩ := a
    obtain rfl : s = none := hs
    have hadd : ∀ o j, (⟨g, o, none⟩ : Addr).add j = ⟨g, o + j, none⟩ := fun o j => by unfold Addr.add; split <;> simp_all
    simp only [hadd] at h2
    simp only [List.getElem_map, List.getElem_range]
    exact ⟨g, o, (Z i).A, (Z i).n, (Z i).c, rfl, World.block_lt_of_cell? w _ h2.1, h2.1, h2.2.1, h2.2.2.1, h2.2.2.2.1, h2.2.2.2.2⟩
set_option maxRecDepth 10000 in
theorem ar_str8 {b0 : Nat} {r : Reach} {v : Value} {d : DataW H} {ps : List MemPlace} (k : Value.okWide Tryd.prog w r b0 9 v) (h : DataW.Trod enc Tryd.prog w base spare held 9 v d ps) : ∃ X : List UInt8, v = .string ⟨X.toArray⟩ ∧ X.length ≤ 9223372036854775807 := by
  obtain ⟨s, rfl, _, _, hw⟩ := Go.ChangeMaps.open_string Tryd.underlying9 k h
  refine ⟨s.data.toList, by rw [ba_list], ?_⟩
  have h2 : s.data.toList.length = s.size := Array.length_toList
  rw [h2]
  simpa [maxLen] using hw
set_option maxRecDepth 10000 in
theorem ar_op {b0 : Nat} {r : Reach} {v : Value} {d : DataW H} {ps : List MemPlace} (k : Value.okWide Tryd.prog w r b0 38 v) (h : DataW.Trod enc Tryd.prog w base spare held 38 v d ps) :
    ∃ (k f n : Int) (X : List UInt8) (A : Option Addr) (m c : Nat) (l : List UInt8), v = pV k f n X A m c ∧ X.length ≤ 9223372036854775807 ∧ Rd w w.heap.size A m l ∧ m ≤ c ∧ c ≤ 9223372036854775807 ∧ I64 k ∧ I64 f ∧ I64 n := by
  obtain ⟨cs, rfl, hsz⟩ := okWide_struct Tryd.underlying38 k
  obtain ⟨fuel, h⟩ := h
  have hC : Tryd.prog.cellsOf 38 = 5 := by kernel_rfl
  rw [hC] at hsz
  obtain ⟨l⟩ := cs
  match l, hsz with
  | [v0, v1, v2, v3, v4], _ =>
    obtain ⟨ys, n', _, _, hcl, hyl, hf⟩ := DataW.trod_struct Tryd.underlying38 h
    match ys, hyl with
    | [y0, y1, y2, y3, y4], _ =>
      obtain ⟨z0, e0, i0⟩ := op_int Tryd.underlying3 (show DataW.trod enc Tryd.prog w base spare held n' 3 [v0] = some y0 from hf 0 _ rfl)
      obtain ⟨z1, e1, i1⟩ := op_int Tryd.underlying3 (show DataW.trod enc Tryd.prog w base spare held n' 3 [v1] = some y1 from hf 1 _ rfl)
      obtain ⟨z2, e2, i2⟩ := op_int Tryd.underlying3 (show DataW.trod enc Tryd.prog w base spare held n' 3 [v2] = some y2 from hf 2 _ rfl)
      obtain ⟨X, e3, k0⟩ := op_str8 (show DataW.trod enc Tryd.prog w base spare held n' 9 [v3] = some y3 from hf 3 _ rfl)
      obtain ⟨A, n, c, l, e4, k1, k2, k3⟩ := op_bytes Tryd.underlying22 Tryd.underlying5 (by kernel_rfl) (show DataW.trod enc Tryd.prog w base spare held n' 22 [v4] = some y4 from hf 4 _ rfl)
      cases e0; cases e1; cases e2; cases e3; cases e4
      exact ⟨z0, z1, z2, X, A, n, c, l, rfl, k0, k1, k2, k3, i0, i1, i2⟩
set_option maxRecDepth 10000 in
theorem ar_object {b0 : Nat} {r : Reach} {v : Value} {d : DataW H} {ps : List MemPlace} (k : Value.okWide Tryd.prog w r b0 25 v) (h : DataW.Trod enc Tryd.prog w base spare held 25 v d ps) :
    ∃ Ad nd cd Ak nk ck s d ks, v = oV Ad nd cd Ak nk ck s ∧ Rd w w.heap.size Ad nd d ∧ nd ≤ cd ∧ cd ≤ 9223372036854775807 ∧ RdK w w.heap.size Ak nk ks ∧ nk ≤ ck ∧ ck ≤ 9223372036854775807 := by
  obtain ⟨cs, rfl, hsz⟩ := okWide_struct Tryd.underlying25 k
  obtain ⟨fuel, h⟩ := h
  have hC : Tryd.prog.cellsOf 25 = 3 := by kernel_rfl
  rw [hC] at hsz
  obtain ⟨l⟩ := cs
  match l, hsz with
  | [v0, v1, v2], _ =>
    obtain ⟨ys, n', _, _, hcl, hyl, hf⟩ := DataW.trod_struct Tryd.underlying25 h
    match ys, hyl with
    | [y0, y1, y2], _ =>
      obtain ⟨A, n, c, l, e0, k1, k2, k3⟩ := op_bytes Tryd.underlying22 Tryd.underlying5 (by kernel_rfl) (show DataW.trod enc Tryd.prog w base spare held n' 22 [v0] = some y0 from hf 0 _ rfl)
      obtain ⟨Ak, nk, ck, ks, e1, l1, l2, l3⟩ := op_keys (show DataW.trod enc Tryd.prog w base spare held n' 23 [v1] = some y1 from hf 1 _ rfl)
      obtain ⟨s, e2, _⟩ := op_int Tryd.underlying3 (show DataW.trod enc Tryd.prog w base spare held n' 3 [v2] = some y2 from hf 2 _ rfl)
      cases e0; cases e1; cases e2
      exact ⟨A, n, c, Ak, nk, ck, s, l, ks, rfl, k1, k2, k3, l1, l2, l3⟩
end
end Go.Proofs.YtmigapjkicddiaaDoor
