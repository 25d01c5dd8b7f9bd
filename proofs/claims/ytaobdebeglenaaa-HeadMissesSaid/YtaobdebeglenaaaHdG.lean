/- Heads of images: contract of the document's Drop. -/
import Derived.Test.YtaobdebeglenaaaHdF
namespace Go.Proofs.Ytaobdebeglenaaa
open Go.RowKit

/-- snapshots, parted at one of them -/
theorem RdN.split {w : World} {A : Option Addr} {n k : Nat} {ss : List Sn} (h : RdN w w.heap.size A n ss) (hk : k < n) :
    ∃ (va : List Sv) (vk : Sv) (vr : List Sv) (g o : Nat), ss = va.map Sv.s ++ vk.s :: vr.map Sv.s ∧ va.length = k ∧ k + 1 + vr.length = n ∧ (∀ p ∈ va, SvAt w p) ∧ SvAt w vk ∧ (∀ p ∈ vr, SvAt w p) ∧ A = some ⟨g, o, none⟩ ∧ g < w.heap.size ∧
      (∀ j u, (flatN va)[j]? = some u → w.cell? ⟨g, o + j, none⟩ = some u) ∧ w.cell? ⟨g, o + k * 3 + 2, none⟩ = some (.slice vk.A vk.n vk.c) ∧ (∀ j u, (flatN vr)[j]? = some u → w.cell? ⟨g, o + (k + 1) * 3 + j, none⟩ = some u) := by
  obtain ⟨vs, e1, e2, e3, e4⟩ := h.vals
  obtain ⟨ad, f1, f2⟩ := e4 (by omega)
  obtain ⟨g, o, _, _, _, f3, f4, _⟩ := h.2 k (by rw [h.1]; exact hk)
  rw [f1] at f3
  cases f3
  have hkl : k < vs.length := by omega
  have hadd : ∀ k, (⟨g, o, none⟩ : Addr).add k = ⟨g, o + k, none⟩ := fun k => by unfold Addr.add; split <;> simp_all
  have hsplit : vs = vs.take k ++ vs[k] :: vs.drop (k + 1) := by rw [List.getElem_cons_drop, List.take_append_drop]
  have htl : (vs.take k).length = k := by rw [List.length_take]; omega
  have hf : flatN vs = flatN (vs.take k) ++ (svC vs[k] ++ flatN (vs.drop (k + 1))) := by
    conv => lhs; rw [hsplit]
    rw [flatN_app]
    rfl
  have hfl : (flatN (vs.take k)).length = k * 3 := by rw [flatN_len, htl]
  refine ⟨vs.take k, vs[k], vs.drop (k + 1), g, o, ?_, htl, by rw [List.length_drop]; omega, fun p hp => e3 p (List.mem_of_mem_take hp), e3 _ (List.getElem_mem _), fun p hp => e3 p (List.mem_of_mem_drop hp), f1, f4, fun j u hu => ?_, ?_, fun j u hu => ?_⟩
  · rw [← e1]
    conv => lhs; rw [hsplit]
    rw [List.map_append, List.map_cons]
  · rw [← hadd]
    refine f2 j u ?_
    rw [hf, List.getElem?_append_left (List.getElem?_eq_some_iff.1 hu).1]
    exact hu
  · have := f2 (k * 3 + 2) (.slice (vs[k]).A (vs[k]).n (vs[k]).c) (by rw [flatN_get vs k 2 hkl (by omega)]; rfl)
    rw [hadd, ← Nat.add_assoc] at this
    exact this
  · have := f2 ((k + 1) * 3 + j) u (by
      rw [hf, List.getElem?_append_right (by rw [hfl]; omega), hfl, List.getElem?_append_right (by simp [svC]; omega), show (k + 1) * 3 + j - k * 3 - (svC vs[k]).length = j by simp [svC]; omega]
      exact hu)
    rw [hadd, ← Nat.add_assoc] at this
    exact this
theorem flatN_set (va vr : List Sv) (p : Sv) (A : Option Addr) (n c : Nat) (m : List Int) : (flatN (va ++ p :: vr)).set (va.length * 3 + 2) (.slice A n c) = flatN (va ++ ⟨{ p.s with map := m }, A, n, c⟩ :: vr) := by
  rw [flatN_app, flatN_app, List.set_append_right _ _ (by rw [flatN_len]; omega), flatN_len, show va.length * 3 + 2 - va.length * 3 = 2 by omega]
  rfl
theorem gone_split (va vr : List Sn) (s : Sn) : goneH (va ++ s :: vr) va.length = s.map := by
  unfold goneH
  rw [List.getElem?_append_right (Nat.le_refl _), Nat.sub_self]
  rfl
theorem drop_last (U C O sz last seq : Int) (m : List Int) (va : List Sn) (s : Sn) : dropH ⟨U, C, O, sz, m, va ++ [s], last, seq⟩ va.length = ⟨U, C, O, sz, mergeO s.map m, va, last, seq⟩ := by
  unfold dropH
  rw [if_neg (by simp), gone_split]
  simp
theorem drop_mid (U C O sz last seq : Int) (m : List Int) (va vr : List Sn) (s t : Sn) : dropH ⟨U, C, O, sz, m, va ++ s :: t :: vr, last, seq⟩ va.length = ⟨U, C, O, sz, m, va ++ { t with map := mergeO s.map t.map } :: vr, last, seq⟩ := by
  unfold dropH
  rw [if_pos (by simp), gone_split]
  unfold dropL
  have h1 : (va ++ s :: t :: vr).take va.length = va := by simp
  have h2 : (va ++ s :: t :: vr).drop (va.length + 1) = t :: vr := by rw [← List.drop_drop]; simp
  rw [h1, h2]
/-- what Drop tells -/
def DrP (w : World) (h : Hd) (x : Int) (e : Ending) (w' : World) : Prop :=
  ∃ v, e = .returned (.tuple #[v, .int .i64 (dropE h x)]) ∧ (dropE h x ≠ 0 → v = hV0) ∧ (dropE h x = 0 → HdAt w' (dropH h (findH h.snaps x).toNat) v) ∧ Below w.heap.size w w'
end Go.Proofs.Ytaobdebeglenaaa
