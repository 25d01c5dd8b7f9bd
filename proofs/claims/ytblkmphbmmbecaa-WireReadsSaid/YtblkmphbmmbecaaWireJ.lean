/- The document's examples, as the laws of layer 1 ask them first: awake answers true. -/
import Derived.Test.YtblkmphbmmbecaaWireI
namespace Go.Proofs.Ytblkmphbmmbecaa
open Go.RowKit

theorem Rd_lit (w : World) (t : TypeId) (l : List UInt8) : Rd (w.alloc (.cells (l.map bv).toArray t)) (w.heap.size + 1) (some ⟨w.heap.size, 0, none⟩) l.length l :=
  ⟨rfl, fun _ => ⟨_, rfl, Nat.lt_succ_self _, fun j hj => by
    have hadd : (⟨w.heap.size, 0, none⟩ : Addr).add j = ⟨w.heap.size, j, none⟩ := by unfold Addr.add; split <;> simp_all
    rw [hadd, cell_of_row _ w.heap.size j (l.map bv).toArray t (0, 0) (heap_alloc_new w _)]
    simp [hj]⟩⟩
theorem RdI_lit (w : World) (t : TypeId) (l : List Int) : RdI (w.alloc (.cells (l.map (Value.int .i64)).toArray t)) (w.heap.size + 1) (some ⟨w.heap.size, 0, none⟩) l.length l :=
  ⟨rfl, fun _ => ⟨_, rfl, Nat.lt_succ_self _, fun j hj => by
    have hadd : (⟨w.heap.size, 0, none⟩ : Addr).add j = ⟨w.heap.size, j, none⟩ := by unfold Addr.add; split <;> simp_all
    rw [hadd, cell_of_row _ w.heap.size j (l.map (Value.int .i64)).toArray t (0, 0) (heap_alloc_new w _)]
    simp [hj]⟩⟩

theorem Rdr.alloc {w : World} {g : Nat} {l : List UInt8} {e : Int} (h : Rdr w g l e) (o : Obj) : Rdr (w.alloc o) g l e := h.below ((Below.refl _ _).alloc (Nat.le_refl _) _)
theorem Rdr.drew {w : World} {g : Nat} {l : List UInt8} {e : Int} (h : Rdr w g l e) : Rdr w.drew g l e := h
theorem Rdr.drewN {w : World} {g : Nat} {l : List UInt8} {e : Int} (h : Rdr w g l e) (q : Nat) : Rdr (w.drewN q) g l e := h

theorem Rd9 (w : World) : Rd (w.alloc (.cells #[.int .u8 1, .int .u8 2, .int .u8 0, .int .u8 2, .int .u8 97, .int .u8 98, .int .u8 2, .int .u8 7, .int .u8 9] 5)) (w.heap.size + 1) (some ⟨w.heap.size, 0, none⟩) 9 [1, 2, 0, 2, 97, 98, 2, 7, 9] :=
  Rd_lit w _ [1, 2, 0, 2, 97, 98, 2, 7, 9]

/-- whatever was there below B, and was not the reader, is as it was -/
def Kept (g : Nat) (w w' : World) : Prop := ∀ B w0, Below B w0 w → B ≤ g → Below B w0 w'
theorem Kept.of {g : Nat} {w w' : World} {l : List UInt8} {e : Int} (h : Rdr w g l e) (hg : w.grownBy w' (some g)) : Kept g w w' := fun B w0 hb hB => by
  obtain ⟨A, n, c, hx⟩ := h
  have := lt_of_block hx.1
  exact hb.grown hg (by omega) (fun k hk => by injection hk with hk; omega)
theorem RdI.grown {w w' : World} {B n g : Nat} {ad : Addr} {l : List Int} (h : RdI w B (some ad) n l) (hg : w.grownBy w' (some g)) (hlt : ad.block < w.heap.size) (hne : ad.block ≠ g) : RdI w' B (some ad) n l := by
  refine ⟨h.1, fun hn => ?_⟩
  obtain ⟨ad', hq, hb, hc⟩ := h.2 hn
  cases hq
  refine ⟨ad, rfl, hb, fun j hj => ?_⟩
  rw [← hc j hj]
  exact World.cell?_of_block (hg.block _ (by rw [addB]; exact hlt) (by rw [addB]; simpa using hne))

theorem aw_num (w : World) : Calls Try.prog 10 #[.slice none 0 0, .int .i64 2, .int .i64 258] w fun e w' =>
    ∃ A c, e = .returned (.slice A 2 c) ∧ Hid (Rd w' w'.heap.size A 2 [1, 2]) ∧ Below w.heap.size w w' :=
  (Num_any none 0 0 [] 2 258 w Rd.nil (by omega) (by omega)).mono fun e w' h => by
    have e1 : [] ++ numB 2 258 = [1, 2] := by decide
    rw [e1] at h
    obtain ⟨A, c, he, _, _, hown, hb⟩ := h
    exact ⟨A, c, he, Rd.own hown, hb⟩
theorem aw_1 (g : Nat) (w : World) (h : Rdr w g [1, 2, 0, 2, 97, 98, 2, 7, 9] 0) : Calls Try.prog 17 #[.pointer (some ⟨g, 0, none⟩), .int .i64 2] w fun e w' =>
    e = .returned (.int .i64 258) ∧ Hid (Rdr w' g [0, 2, 97, 98, 2, 7, 9] 0) ∧ Kept g w w' :=
  (RNum_any g _ 0 2 w h).mono fun e w' h => by
    have e1 : rdNum [1, 2, 0, 2, 97, 98, 2, 7, 9] 0 2 = (258, [0, 2, 97, 98, 2, 7, 9], 0) := by decide
    rw [e1] at h
    exact ⟨h.1, h.2.1, Kept.of (by assumption) h.2.2⟩
theorem aw_2 (g : Nat) (w : World) (h : Rdr w g [0, 2, 97, 98, 2, 7, 9] 0) : Calls Try.prog 19 #[.pointer (some ⟨g, 0, none⟩), .int .i64 2] w fun e w' =>
    ∃ A c, e = .returned (.slice A 2 c) ∧ Hid (Rd w' w'.heap.size A 2 [97, 98]) ∧ Hid (Rdr w' g [2, 7, 9] 0) ∧ Kept g w w' :=
  (RBlob_any g _ 0 2 w h).mono fun e w' h => by
    have e1 : rdBlob [0, 2, 97, 98, 2, 7, 9] 0 2 = ([97, 98], [2, 7, 9], 0) := by decide
    rw [e1] at h
    obtain ⟨⟨A, c, h1, _, _, h2, h3⟩, h4⟩ := h
    exact ⟨A, c, h1, h2, h4, Kept.of (by assumption) h3⟩
theorem aw_3 (g : Nat) (w : World) (h : Rdr w g [2, 7, 9] 0) : Calls Try.prog 22 #[.pointer (some ⟨g, 0, none⟩), .int .i64 1, .int .i64 2] w fun e w' =>
    ∃ A c, e = .returned (.slice A 2 c) ∧ Hid (RdI w' w'.heap.size A 2 [7, 9]) ∧ Hid (Rdr w' g [] 0) ∧ Hid (w.grownBy w' (some g)) ∧ Kept g w w' :=
  (RNums_any g _ 0 1 2 w h).mono fun e w' h => by
    have e1 : rdNums [2, 7, 9] 0 1 2 = ([7, 9], [], 0) := by decide
    rw [e1] at h
    obtain ⟨⟨A, c, h1, _, _, h2, h3⟩, h4⟩ := h
    exact ⟨A, c, h1, h2, h4, h3, Kept.of (by assumption) h3⟩
theorem aw_4 (g : Nat) (w : World) (h : Rdr w g [] 0) : Calls Try.prog 28 #[.pointer (some ⟨g, 0, none⟩)] w fun e w' => e = .returned (.int .i64 0) ∧ Kept g w w' :=
  (End_any g [] 0 w h).mono fun e w' h => by
    have e1 : endE 0 ([] : List UInt8).length = 0 := by decide
    rw [e1] at h
    exact ⟨h.1, Kept.of (by assumption) h.2.2⟩
end Go.Proofs.Ytblkmphbmmbecaa
