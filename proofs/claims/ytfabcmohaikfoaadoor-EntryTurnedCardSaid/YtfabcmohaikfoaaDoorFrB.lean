/- Contracts of package frame: the checksum's bytes, a row and its checksum behind it, equality, copies. -/
import Derived.Test.YtfabcmohaikfoaaDoorFrA
import Derived.Test.YtfabcmohaikfoaaDoorWireI
import Derived.Lib.SliceRun
namespace Go.Proofs.YtfabcmohaikfoaaDoor
open Go.RowKit

theorem tail4_take_succ (s k : Nat) (h : k < 4) : (tail4 s).take (k + 1) = (tail4 s).take k ++ [UInt8.ofNat (s / 2 ^ (8 * k))] := by
  obtain rfl | rfl | rfl | rfl : k = 0 ∨ k = 1 ∨ k = 2 ∨ k = 3 := by omega
  all_goals simp [tail4]

set_option maxRecDepth 10000 in
set_option maxHeartbeats 400000 in
theorem putSum_any (v : Value) (n B : Nat) (l : List UInt8) (s : Nat) (w : World) (_hs : s < 4294967296) (hown : w.ownsRow B 5 1 v n (l.map bv)) (hB : B ≤ w.heap.size) (hn : n ≤ 274877906944) :
    Calls Tryd.prog 65 #[v, .int .u32 s] w fun e w' => ∃ v', e = .returned v' ∧
      w'.ownsRow B 5 1 v' (n + 4) ((l ++ tail4 s).map bv) ∧ Below B w w' := by
  obtain ⟨i, hi, hz0, hz1, hz2⟩ := info_parts Tryd.infoB
  go_enter Tryd.func65, Tryd.ntmps65
  go_wp2
  go_loopw [0, 5, 6] (fun v _ i wr => ∃ j : Nat, j ≤ 4 ∧ i = .int .i64 j ∧ wr.ownsRow B 5 1 v (n + j) ((l ++ (tail4 s).take j).map bv) ∧ Below B w wr) (fun _ _ i _ => 4 - (intOf i).toNat)
  case atStart => exact ⟨0, Nat.zero_le _, rfl, by simpa using hown, Below.refl _ _⟩
  case round =>
    obtain ⟨j, hj, rfl, hown, hb⟩ := hrel
    go_wp2_with (at_builtin; refine wpList_append_own _ rfl (.tmp 9) (.tmp 15) 22 rfl B 5 i (.int .u8 0) 1 1 Tryd.underlying22 hi hz0 hz1 hz2 rfl (by decide) _ _ _ rfl (hown.alloc _) ⟨wr.heap.size, 0, none⟩ 1 1 [.int .u8 ((s : Int) / 2 ^ (8 * j) % 256)] rfl rfl (one_new _ _ _) (by intro u hu; simp at hu; subst hu; rfl) (by simp only [maxLen]; omega) (by omega) (by have := hb.size; simp; omega) ?_; intro v' w1 hown1 hg1 _)
    · have hlt4 : (j : Int) < 4 := by assumption
      have hlt : j < 4 := by omega
      clear hlt4
      have hb1 : Below B w w1 := (hb.alloc (by have := hb.size; omega) _).grown hg1 (by have := hb.size; simp; omega) (fun q hq => (hown.lt q hq).1)
      have hown2 : w1.ownsRow B 5 1 v' (n + (j + 1)) ((l ++ (tail4 s).take (j + 1)).map bv) := by
        rw [tail4_take_succ s j hlt, ← List.append_assoc, List.map_append (l₁ := l ++ _), List.map_cons, List.map_nil, bv_ofNat]
        have e : ((s / 2 ^ (8 * j) % 256 : Nat) : Int) = (s : Int) / 2 ^ (8 * j) % 256 := by simp
        rw [e]
        exact hown1
      clear hown1 hg1 hown hb
      go_wp2
      go_roundw
      case rel => exact ⟨j + 1, by omega, by go_num, hown2, hb1⟩
      case measure => simp [intOf]; omega
    · have hge : 4 ≤ j := by omega
      obtain rfl : j = 4 := by omega
      go_ret
      rw [List.take_of_length_le (by rw [tail4_length]; exact Nat.le_refl _)] at hown
      exact ⟨_, rfl, hown, hb⟩

set_option maxRecDepth 10000 in
set_option maxHeartbeats 400000 in
theorem withSum_any (v : Value) (n B : Nat) (l : List UInt8) (A : Option Addr) (m c : Nat) (x : List UInt8) (w : World) (hown : w.ownsRow B 5 1 v n (l.map bv)) (hB : B ≤ w.heap.size) (hn : n ≤ 137438953472)
    (hr : Rd w B A m x) (hm : m ≤ 137438953400) (ht : Tb w) (h0 : 1 < B) :
    Calls Tryd.prog 53 #[v, .slice A m c] w fun e w' => ∃ v', e = .returned v' ∧
      w'.ownsRow B 5 1 v' (n + m + 4) ((l ++ (x ++ tail4 (crc x))).map bv) ∧ Below B w w' := by
  obtain ⟨i, hi, hz0, hz1, hz2⟩ := info_parts Tryd.infoB
  have Ht := Lib.hid ht
  clear ht
  go_enter Tryd.func53, Tryd.ntmps53
  go_wp2_with (first
    | (at_builtin; refine wpList_append_rd rfl (.tmp 5) (.tmp 6) 22 rfl B 5 i (.int .u8 0) 1 Tryd.underlying22 hi hz0 hz1 hz2 rfl v n _ rfl hown A m c (x.map bv) rfl (by rw [List.length_map, hr.1]) hr.src (bv_one _) (by simp only [maxLen]; omega) (by omega) hB ?_; intro v3 w3 hown3 hg3; rw [← List.map_append] at hown3; have hb3 := Lib.hid ((Below.refl B w).grown hg3 hB (fun q hq => (hown.lt q hq).1)))
    | (go_at_call 66; refine (Sum_any A m c x B _ (hr.below hb3.out) (Ht.out.below hb3.out h0) (by omega)).mono ?_; rintro e w' ⟨rfl, rfl⟩)
    | (go_at_call 65; refine (putSum_any v3 (n + m) B _ (crc x) _ (crc_lt x) hown3 (Nat.le_trans hB hb3.out.size) (by omega)).mono ?_; rintro e w4 ⟨v4, rfl, hown4, hb4⟩))
  go_ret
  rw [List.append_assoc] at hown4
  exact ⟨v4, rfl, hown4, hb3.out.trans hb4⟩

theorem beq_dec (l l' : List UInt8) : (l == l') = decide (l = l') := by rw [Bool.eq_iff_iff]; simp

set_option maxRecDepth 10000 in
set_option maxHeartbeats 400000 in
theorem Equal_any (A A' : Option Addr) (n c n' c' : Nat) (l l' : List UInt8) (B B' : Nat) (w : World) (hr : Rd w B A n l) (hr' : Rd w B' A' n' l') :
    Calls Tryd.prog 45 #[.slice A n c, .slice A' n' c'] w fun e w' => e = .returned (.bool (decide (l = l'))) ∧ w = w' := by
  have h1 := run_str (P := Tryd.prog) (c := c) Tryd.underlying22 Tryd.underlying5 Tryd.underlying9 hr
  have h2 := run_str (P := Tryd.prog) (c := c') Tryd.underlying22 Tryd.underlying5 Tryd.underlying9 hr'
  go_enter Tryd.func45, Tryd.ntmps45
  go_wp2
  go_ret
  refine ⟨?_, rfl⟩
  rw [← beq_dec]
  rfl

set_option maxRecDepth 10000 in
theorem own_nil (w : World) (B : Nat) : w.ownsRow B 5 1 (.slice none 0 0) 0 (([] : List UInt8).map bv) := ⟨rfl, .inl ⟨rfl, rfl⟩⟩

set_option maxRecDepth 10000 in
set_option maxHeartbeats 400000 in
theorem hasSum_any (A A' : Option Addr) (n c n' c' : Nat) (l l' : List UInt8) (w : World) (hr : Rd w w.heap.size A n l) (hr' : Rd w w.heap.size A' n' l') (hn : n ≤ 137438953400) (ht : Tb w) :
    Calls Tryd.prog 57 #[.slice A n c, .slice A' n' c'] w fun e w' => e = .returned (.bool (decide (tail4 (crc l) = l'))) ∧ Below w.heap.size w w' := by
  have Ht := Lib.hid ht
  clear ht
  go_enter Tryd.func57, Tryd.ntmps57
  go_wp2_with (first
    | (go_at_call 66; refine (Sum_any A n c l _ _ hr Ht.out (by omega)).mono ?_; rintro e w' ⟨rfl, rfl⟩)
    | (go_at_call 65; refine (putSum_any _ 0 w.heap.size [] (crc l) _ (crc_lt l) (own_nil _ _) (Nat.le_refl _) (by omega)).mono ?_; rintro e w4 ⟨v4, rfl, hown4, hb4⟩; obtain ⟨A4, c4, rfl, _, _⟩ := ownsRow_form hown4; have hr4 := Lib.hid (Rd.own hown4); have Hb4 := Lib.hid hb4; clear hown4 hb4)
    | (go_at_call 45; refine (Equal_any _ A' _ _ n' c' _ l' _ _ _ hr4.out (hr'.below Hb4.out)).mono ?_; rintro e w' ⟨rfl, rfl⟩))
  go_ret
  exact ⟨rfl, Hb4.out⟩

set_option maxRecDepth 10000 in
set_option maxHeartbeats 400000 in
theorem Clone_any (A : Option Addr) (n c : Nat) (l : List UInt8) (w : World) (hr : Rd w w.heap.size A n l) (hn : n ≤ 137438953400) :
    Calls Tryd.prog 24 #[.slice A n c] w fun e w' => Out w l e w' := by
  obtain ⟨i, hi, hz0, hz1, hz2⟩ := info_parts Tryd.infoB
  rcases A with _ | ad
  · have h0 : n = 0 := by
      rcases Nat.eq_zero_or_pos n with h | h
      · exact h
      · obtain ⟨_, hc, _⟩ := hr.2 h
        cases hc
    subst h0
    obtain rfl : l = [] := List.eq_nil_of_length_eq_zero hr.1
    have heq := Lib.run_eql_slice_nil (P := Tryd.prog) w 22 5 none 0 c 0 0 Tryd.underlying22
    go_enter Tryd.func24, Tryd.ntmps24
    go_wp2
    go_ret
    exact Out.mk (own_nil _ _) (Below.refl _ _)
  · have heq := Lib.run_eql_slice_nil (P := Tryd.prog) w 22 5 (some ad) n c 0 0 Tryd.underlying22
    have hown : (w.alloc (.cells #[] 5)).ownsRow w.heap.size 5 1 (.slice (some ⟨w.heap.size, 0, none⟩) 0 0) 0 (([] : List UInt8).map bv) := World.ownsRow_lit (base := w.heap.size) (e := 5) (size := 1) w #[] 0 (Nat.le_refl _) (by simp only [maxLen]; omega) rfl
    have Hown := Lib.hid hown
    clear hown
    go_enter Tryd.func24, Tryd.ntmps24
    go_wp2_with (at_builtin; refine wpList_append_rd rfl (.tmp 5) (.tmp 6) 22 rfl w.heap.size 5 i (.int .u8 0) 1 Tryd.underlying22 hi hz0 hz1 hz2 rfl _ 0 _ rfl Hown.out (some ad) n c (l.map bv) rfl (by rw [List.length_map, hr.1]) (hr.alloc (Nat.le_refl _) _).src (bv_one _) (by simp only [maxLen]; omega) (by omega) (by simp) ?_; intro v3 w3 hown3 hg3)
    go_ret
    simp only [Nat.zero_add, List.map_nil, List.nil_append] at hown3
    exact Out.mk hown3 (((Below.refl _ w).alloc (Nat.le_refl _) _).grown hg3 (by simp) (fun q hq => (Hown.out.lt q hq).1))

set_option maxRecDepth 10000 in
set_option maxHeartbeats 400000 in
theorem Clone_none (w : World) : Calls Tryd.prog 24 #[.slice none 0 0] w fun e w' => e = .returned (.slice none 0 0) ∧ w = w' := by
  have heq := Lib.run_eql_slice_nil (P := Tryd.prog) w 22 5 none 0 0 0 0 Tryd.underlying22
  go_enter Tryd.func24, Tryd.ntmps24
  go_wp2
  go_ret
  exact ⟨rfl, rfl⟩

set_option maxRecDepth 10000 in
theorem Out.own {w w' : World} {l : List UInt8} {e : Ending} (h : Out w l e w') {m : Nat} (hm : m = l.length) :
    ∃ A c, e = .returned (.slice A m c) ∧ m ≤ c ∧ c ≤ maxLen ∧ w'.ownsRow w.heap.size 5 1 (.slice A m c) m (l.map bv) ∧ Below w.heap.size w w' := by
  subst hm; exact h

set_option maxRecDepth 10000 in
set_option maxHeartbeats 400000 in
theorem Tail_any (A : Option Addr) (n c : Nat) (l : List UInt8) (B : Nat) (w : World) (hr : Rd w B A n l) (hn : n ≤ 9223372036854775807) :
    Calls Tryd.prog 46 #[.slice A n c] w fun e w' => Out w (tail4 (crc l)) e w' := by
  obtain ⟨s, hs⟩ : ∃ s, s = crc l := ⟨_, rfl⟩
  have hsl := crc_lt l
  rw [← hs] at hsl ⊢
  have Hs := Lib.hid hs.symm
  clear hs
  go_enter Tryd.func46, Tryd.ntmps46
  go_wp2_with (go_at_call 64; refine (RefSum_any A n c l B _ hr (by omega)).mono ?_; rintro e w' ⟨rfl, rfl⟩; rw [Hs.out])
  go_ret
  have e : #[Value.int IntKind.u8 ((s : Int) % 256), .int .u8 ((s : Int) / 256 % 256), .int .u8 ((s : Int) / 65536 % 256), .int .u8 ((s : Int) / 16777216)] = ((tail4 s).map bv).toArray := by
    have h4 : (s : Int) / 16777216 = ((s / 16777216 % 256 : Nat) : Int) := by omega
    rw [h4]
    simp [tail4, bv_ofNat]
  rw [e]
  have hown := World.ownsRow_lit (base := w.heap.size) (e := 5) (size := 1) w ((tail4 s).map bv).toArray 4 (Nat.le_refl _) (by simp only [maxLen]; omega) (by simp [tail4])
  exact Out.mk hown ((Below.refl _ _).alloc (Nat.le_refl _) _)
end Go.Proofs.YtfabcmohaikfoaaDoor
