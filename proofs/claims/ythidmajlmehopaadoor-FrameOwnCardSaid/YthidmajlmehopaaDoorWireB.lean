/- Contracts of package wire: number, Num, Blob, Nums (the writers). -/
import Derived.Test.YthidmajlmehopaaDoorWireA
namespace Go.Proofs.YthidmajlmehopaaDoor
open Go.RowKit

set_option maxHeartbeats 400000 in
theorem number_any (A : Option Addr) (n c : Nat) (l : List UInt8) (B : Nat) (w : World) (hr : Rd w B A n l) (hn : n ≤ 7) :
    Calls Tryd.prog 40 #[.slice A n c] w fun e w' => e = .returned (.int .i64 (decB l)) ∧ w = w' := by
  go_enter Tryd.func40, Tryd.ntmps40
  go_wp2
  go_loop [3, 5, 8] (fun s _ i => ∃ j : Nat, j ≤ n ∧ i = .int .i64 j ∧ s = .int .i64 (decB (l.take j))) (fun _ _ i => n - (intOf i).toNat)
  case atStart => exact ⟨0, Nat.zero_le _, rfl, rfl⟩
  case round =>
    obtain ⟨j, hj, rfl, rfl⟩ := hrel
    by_cases hlt : j < n
    · obtain ⟨ad, rfl, _, hc⟩ := hr.cellAt hlt
      have hl := hr.1
      have hd := decB_take_succ l j (by omega)
      have ha := decB_lt (l.take j)
      have hp : (256 : Nat) ^ (l.take j).length ≤ 256 ^ 6 := Nat.pow_le_pow_right (by decide) (by rw [List.length_take]; omega)
      obtain ⟨a, hae⟩ : ∃ a, a = decB (l.take j) := ⟨_, rfl⟩
      obtain ⟨d, hde⟩ : ∃ d, d = (l[j]'(by omega)).toNat := ⟨_, rfl⟩
      have hd2 : d < 256 := by rw [hde]; exact UInt8.toNat_lt _
      have hc' : w.cell? (ad.add j) = some (.int .u8 (d : Int)) := by rw [hc, hde]; rfl
      rw [← hae] at ha hd ⊢
      have ha2 : a < 281474976710656 := by omega
      rw [← hde] at hd
      have Hd := Lib.hid hd
      clear hd hc hae hde ha hp hl hr
      go_wp2
      go_round
      case rel => exact ⟨j + 1, by omega, by go_num, by rw [Hd.out, ← or_byte a d ha2 hd2]⟩
      case measure => simp [intOf]; omega
    · go_wp2
      go_ret
      exact ⟨ret_int (by rw [List.take_of_length_le (by rw [hr.1]; omega)]), rfl⟩

/-- the call returns a slice of new memory that reads as l; of what was there nothing has changed -/
def Out (w : World) (l : List UInt8) (e : Ending) (w' : World) : Prop :=
  ∃ A c, e = .returned (.slice A l.length c) ∧ l.length ≤ c ∧ c ≤ maxLen ∧ w'.ownsRow w.heap.size 5 1 (.slice A l.length c) l.length (l.map bv) ∧ Below w.heap.size w w'
theorem Out.mk {w : World} {l : List UInt8} {v : Value} {w' : World} {n : Nat} (h : w'.ownsRow w.heap.size 5 1 v n (l.map bv)) (hb : Below w.heap.size w w') : Out w l (.returned v) w' := by
  have hn : n = l.length := by have := h.1; simp at this; omega
  subst hn
  obtain ⟨A, c, rfl, h1, h2⟩ := ownsRow_form h
  exact ⟨A, c, rfl, h1, h2, h, hb⟩

/-- the bytes that Num appends -/
def numB (width x : Int) : List UInt8 := encB (fitW width) (clampN (fitW width) x)
theorem numB_length (width x : Int) : (numB width x).length = fitW width := encB_length _ _

set_option maxHeartbeats 400000 in
theorem Num_any (A : Option Addr) (n c : Nat) (l : List UInt8) (width x : Int) (w : World) (hr : Rd w w.heap.size A n l) (hn : n ≤ 274877906000) (hx : -9223372036854775808 ≤ x ∧ x ≤ 9223372036854775807) :
    Calls Tryd.prog 19 #[.slice A n c, .int .i64 width, .int .i64 x] w fun e w' => Out w (l ++ numB width x) e w' := by
  have hf := fitW_bd width
  go_enter Tryd.func19, Tryd.ntmps19
  go_wp2_with (first
    | (go_at_call 26; refine (fitWidth_any _ _).mono ?_; rintro e w' ⟨rfl, rfl⟩)
    | (go_at_call 28; refine (extend_any A n c l _ _ hr (by omega) (by omega) (by omega)).mono ?_; rintro e w1 ⟨c1, rfl, hown1, hb1⟩)
    | (go_at_call 27; refine (putNum_any _ n w.heap.size l _ x _ hf hx hown1 hb1.size (by omega)).mono ?_; rintro e w2 ⟨v2, rfl, hown2, hb2⟩))
  go_ret
  exact Out.mk hown2 (hb1.trans hb2)

/-- the bytes that Blob appends -/
def blobB (x : List UInt8) : List UInt8 := encB 2 (min x.length 65535) ++ x.take 65535

end Go.Proofs.YthidmajlmehopaaDoor
