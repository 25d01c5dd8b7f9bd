/- awake of layer 4 answers true, and changes nothing that was there. -/
import Derived.Test.YtikpcpkclecciaaSpLaw
namespace Go.Proofs.Ytikpcpkclecciaa
open Go.RowKit

/-- a literal list of spans -/
theorem lit_at (w : World) (ps : List Sp) (xs : Array Value) (t : TypeId) (b n : Nat) (hb : b = w.heap.size) (hx : xs = (flatS ps).toArray) (hn : n = ps.length) (hl : ps.length ≤ 200) :
    Hid (At (w.alloc (.cells xs t)) (some ⟨b, 0, none⟩) n ps) := by
  subst hb hx hn
  refine ⟨⟨rfl, fun _ => ⟨_, _, rfl, by simp, fun i hi => ?_⟩⟩, hl⟩
  rw [cell_blk (heap_alloc_new w _), cell_blk (heap_alloc_new w _), List.getElem?_toArray, List.getElem?_toArray, Nat.zero_add]
  exact ⟨flatS_get ps i 0 hi (by omega), flatS_get ps i 1 hi (by omega)⟩
theorem aw1 : refS [(5, 7), (1, 3), (3, 5), (9, 9)] [] 1 = [(1, 7)] := by decide +kernel
theorem aw2 : refS [(0, 10)] [(3, 4), (6, 20)] 3 = [(0, 3), (4, 6)] := by decide +kernel
theorem aw3 : refS [(1, 7)] [] 1 = [(1, 7)] := by decide +kernel
theorem aw4 : refS [(0, 3), (4, 6)] [(0, 3), (4, 6)] 3 = [] := by decide +kernel

set_option maxHeartbeats 1000000 in
theorem awake4 (w : World) : Calls Try.prog 9 #[] w fun e w' => e = .returned (.bool true) ∧ Below w.heap.size w w' := by
  go_enter Try.func9, Try.ntmps9
  go_wp2_with fail
  have L1 := lit_at w [(5, 7), (1, 3), (3, 5), (9, 9)] #[.int .i64 5, .int .i64 7, .int .i64 1, .int .i64 3, .int .i64 3, .int .i64 5, .int .i64 9, .int .i64 9] 33 _ 4 rfl rfl rfl (by decide)
  have B1 := Lib.hid ((Below.refl w.heap.size w).alloc (Nat.le_refl _) (.cells #[.int .i64 5, .int .i64 7, .int .i64 1, .int .i64 3, .int .i64 3, .int .i64 5, .int .i64 9, .int .i64 9] 33))
  refine (lClean 4 L1 (by rw [aw1]; decide)).mono ?_
  rw [aw1]
  rintro e w1 ⟨A1, n1, c1, rfl, C1, hb, hn⟩
  have B2 := belG B1 hb
  obtain rfl : n1 = 1 := hn.out
  clear L1 B1 hb
  go_wp2_with fail
  have M1 := lit_at w1 [(0, 10)] #[.int .i64 0, .int .i64 10] 33 w1.heap.size 1 rfl rfl rfl (by decide)
  have M2 := At.keep M1 (Lib.hid ((Below.refl _ _).alloc (Nat.le_refl _) (.cells #[.int .i64 3, .int .i64 4, .int .i64 6, .int .i64 20] 33)))
  have M3 := lit_at (w1.alloc (.cells #[.int .i64 0, .int .i64 10] 33)) [(3, 4), (6, 20)] #[.int .i64 3, .int .i64 4, .int .i64 6, .int .i64 20] 33 (w1.heap.size + 1) 2 (by simp) rfl rfl (by decide)
  have B3 := Lib.hid (((Below.refl w1.heap.size w1).alloc (Nat.le_refl _) (.cells #[.int .i64 0, .int .i64 10] 33)).alloc (by simp) (.cells #[.int .i64 3, .int .i64 4, .int .i64 6, .int .i64 20] 33))
  have B4 := belG B2 B3
  have C2 := At.keep C1 B3
  refine (lLess 1 2 M2 M3 (by rw [aw2]; decide)).mono ?_
  rw [aw2]
  rintro e w2 ⟨A2, n2, c2, rfl, C3, hb, hn⟩
  have B5 := belG B4 hb
  have C4 := At.keep C2 hb
  obtain rfl : n2 = 2 := hn.out
  clear M1 M2 M3 B2 B3 B4 C1 C2 hb
  obtain ⟨g1, o1, rfl, _, x⟩ := C4.out.1.2 (by decide)
  obtain ⟨x0, x1⟩ := x 0 (by decide)
  obtain ⟨g2, o2, rfl, _, y⟩ := C3.out.1.2 (by decide)
  obtain ⟨y0, y1⟩ := y 1 (by decide)
  simp only [List.getElem_cons_zero, List.getElem_cons_succ, Nat.zero_mul, Nat.one_mul, Nat.add_zero, Nat.add_assoc] at x0 x1 y0 y1
  clear x y
  go_wp2_with fail
  have v1 : hasB [(1, 7)] 6 = true := by decide +kernel
  have v2 : sumS (refS [(1, 7)] [] 1) = 6 := by decide +kernel
  have v3 : decide (refS [(0, 3), (4, 6)] [(0, 3), (4, 6)] 3 = []) = true := by decide +kernel
  refine (lHas c1 6 C4).mono ?_
  rw [v1]
  rintro e w3 ⟨rfl, hb⟩
  have B6 := belG B5 hb
  have C5 := At.keep C4 hb
  have C6 := At.keep C3 hb
  clear B5 C4 C3 hb x0 x1 y0 y1 v1
  go_wp2_with fail
  refine (lMany c1 C5).mono ?_
  rw [v2]
  rintro e w4 ⟨rfl, hb⟩
  have B7 := belG B6 hb
  have C7 := At.keep C6 hb
  clear B6 C5 C6 hb v2
  go_wp2_with fail
  refine (lWithin c2 c2 C7 C7).mono ?_
  rw [v3]
  rintro e w5 ⟨rfl, hb⟩
  have B8 := belG B7 hb
  clear B7 C7 hb v3
  go_wp2_with fail
  go_ret
  exact ⟨rfl, B8.out⟩
end Go.Proofs.Ytikpcpkclecciaa
