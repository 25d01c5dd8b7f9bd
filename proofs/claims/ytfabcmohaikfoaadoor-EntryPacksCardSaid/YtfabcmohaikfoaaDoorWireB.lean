/- Contracts of package wire: number, Num, Blob, Nums (the writers). -/
import Derived.Test.YtfabcmohaikfoaaDoorWireA
namespace Go.Proofs.YtfabcmohaikfoaaDoor
open Go.RowKit

set_option maxRecDepth 10000 in
set_option maxHeartbeats 400000 in
theorem number_any (A : Option Addr) (n c : Nat) (l : List UInt8) (B : Nat) (w : World) (hr : Rd w B A n l) (hn : n ≤ 7) :
    Calls Tryd.prog 61 #[.slice A n c] w fun e w' => e = .returned (.int .i64 (decB l)) ∧ w = w' := by
  go_enter Tryd.func61, Tryd.ntmps61
  go_wp2
  go_loop [3, 5, 8] (fun s _ i => ∃ j : Nat, j ≤ n ∧ i = .int .i64 j ∧ s = .int .i64 (decB (l.take j))) (fun _ _ i => n - (intOf i).toNat)
  case atStart => exact ⟨0, Nat.zero_le _, rfl, rfl⟩
  case round =>
    obtain ⟨j, hj, rfl, rfl⟩ := hrel
    by_cases hlt : j < n
    · obtain ⟨ad, rfl, _, hc⟩ := hr.cellAt hlt
      have hl := hr.1
      have hd := decB_take_succ l j (by omega)
      have ha := decB_lt (l.take j)
      have hp : (256 : Nat) ^ (l.take j).length ≤ 256 ^ 6 := Nat.pow_le_pow_right (by decide) (by rw [List.length_take]; omega)
      obtain ⟨a, hae⟩ : ∃ a, a = decB (l.take j) := ⟨_, rfl⟩
      obtain ⟨d, hde⟩ : ∃ d, d = (l[j]'(by omega)).toNat := ⟨_, rfl⟩
      have hd2 : d < 256 := by rw [hde]; exact UInt8.toNat_lt _
      have hc' : w.cell? (ad.add j) = some (.int .u8 (d : Int)) := by rw [hc, hde]; rfl
      rw [← hae] at ha hd ⊢
      have ha2 : a < 281474976710656 := by omega
      rw [← hde] at hd
      have Hd := Lib.hid hd
      clear hd hc hae hde ha hp hl hr
      go_wp2
      go_round
      case rel => exact ⟨j + 1, by omega, by go_num, by rw [Hd.out, ← or_byte a d ha2 hd2]⟩
      case measure => simp [intOf]; omega
    · go_wp2
      go_ret
      exact ⟨ret_int (by rw [List.take_of_length_le (by rw [hr.1]; omega)]), rfl⟩

set_option maxRecDepth 10000 in
/-- the call returns a slice of new memory that reads as l; of what was there nothing has changed -/
def Out (w : World) (l : List UInt8) (e : Ending) (w' : World) : Prop :=
  ∃ A c, e = .returned (.slice A l.length c) ∧ l.length ≤ c ∧ c ≤ maxLen ∧ w'.ownsRow w.heap.size 5 1 (.slice A l.length c) l.length (l.map bv) ∧ Below w.heap.size w w'
set_option maxRecDepth 10000 in
theorem Out.mk {w : World} {l : List UInt8} {v : Value} {w' : World} {n : Nat} (h : w'.ownsRow w.heap.size 5 1 v n (l.map bv)) (hb : Below w.heap.size w w') : Out w l (.returned v) w' := by
  have hn : n = l.length := by have := h.1; simp at this; omega
  subst hn
  obtain ⟨A, c, rfl, h1, h2⟩ := ownsRow_form h
  exact ⟨A, c, rfl, h1, h2, h, hb⟩

/-- the bytes that Num appends -/
def numB (width x : Int) : List UInt8 := encB (fitW width) (clampN (fitW width) x)
theorem numB_length (width x : Int) : (numB width x).length = fitW width := encB_length _ _

set_option maxRecDepth 10000 in
set_option maxHeartbeats 400000 in
theorem Num_any (A : Option Addr) (n c : Nat) (l : List UInt8) (width x : Int) (w : World) (hr : Rd w w.heap.size A n l) (hn : n ≤ 274877906000) (hx : -9223372036854775808 ≤ x ∧ x ≤ 9223372036854775807) :
    Calls Tryd.prog 33 #[.slice A n c, .int .i64 width, .int .i64 x] w fun e w' => Out w (l ++ numB width x) e w' := by
  have hf := fitW_bd width
  go_enter Tryd.func33, Tryd.ntmps33
  go_wp2_with (first
    | (go_at_call 50; refine (fitWidth_any _ _).mono ?_; rintro e w' ⟨rfl, rfl⟩)
    | (go_at_call 52; refine (extend_any A n c l _ _ hr (by omega) (by omega) (by omega)).mono ?_; rintro e w1 ⟨c1, rfl, hown1, hb1⟩)
    | (go_at_call 51; refine (putNum_any _ n w.heap.size l _ x _ hf hx hown1 hb1.size (by omega)).mono ?_; rintro e w2 ⟨v2, rfl, hown2, hb2⟩))
  go_ret
  exact Out.mk hown2 (hb1.trans hb2)

/-- the bytes that Blob appends -/
def blobB (x : List UInt8) : List UInt8 := encB 2 (min x.length 65535) ++ x.take 65535

set_option maxRecDepth 10000 in
set_option maxHeartbeats 400000 in
theorem Blob_any (A A' : Option Addr) (n c n' c' : Nat) (l x : List UInt8) (w : World) (hr : Rd w w.heap.size A n l) (hr' : Rd w w.heap.size A' n' x) (hn : n ≤ 274877800000) (hc' : n' ≤ c') (hm : c' ≤ 9223372036854775807) :
    Calls Tryd.prog 35 #[.slice A n c, .slice A' n' c'] w fun e w' => Out w (l ++ blobB x) e w' := by
  have hx := hr'.1
  obtain ⟨i, hi, hz0, hz1, hz2⟩ := info_parts Tryd.infoB
  have hr2 : Rd w w.heap.size A' (min n' 65535) (x.take 65535) := by
    have h := hr'.take (k := min n' 65535) (by omega)
    have e : x.take (min n' 65535) = x.take 65535 := by rw [← hx, Nat.min_comm, ← List.take_eq_take_min]
    rwa [e] at h
  obtain ⟨m, hme⟩ : ∃ m, m = min n' 65535 := ⟨_, rfl⟩
  have hm2 : m ≤ 65535 := by omega
  have hce : clampN 2 (m : Int) = m := by unfold clampN; omega
  have hfin : l ++ blobB x = l ++ encB 2 (clampN 2 (m : Int)) ++ x.take 65535 := by rw [hce, hme, List.append_assoc, blobB, hx]
  rw [hfin]
  rw [← hme] at hr2
  have Hm := Lib.hid hme
  clear hce hfin hme hx hr'
  go_enter Tryd.func35, Tryd.ntmps35
  go_upto_region 1 with fail
  go_cut [1] (fun s wx => s = .slice A' m c' ∧ wx = w)
  case first =>
    go_wp2_with (go_at_call 54; refine (largest_any 2 (by omega) _).mono ?_; rintro e w' ⟨rfl, rfl⟩)
    all_goals
      go_meet
      have := Hm.out
      exact ⟨by congr 1; omega, rfl⟩
  case rest =>
    obtain ⟨rfl, rfl⟩ := hcut
    go_wp2_with (first
      | (go_at_call 52; refine (extend_any A n c l _ _ hr (by omega) (by omega) (by omega)).mono ?_; rintro e w1 ⟨c1, rfl, hown1, hb1⟩)
      | (go_at_call 51; refine (putNum_any _ n wc.heap.size l 2 m _ (by omega) (by omega) hown1 hb1.size (by omega)).mono ?_; rintro e w2 ⟨v2, rfl, hown2, hb2⟩)
      | (at_builtin; refine wpList_append_rd rfl (.tmp 20) (.tmp 21) 22 rfl wc.heap.size 5 i (.int .u8 0) 1 Tryd.underlying22 hi hz0 hz1 hz2 rfl v2 (n + 2) _ rfl hown2 A' m c' ((x.take 65535).map bv) rfl (by rw [List.length_map, hr2.1]) (hr2.below (hb1.trans hb2)).src (bv_one _) (by simp only [maxLen]; omega) (by omega) (hb1.trans hb2).size ?_; intro v3 w3 hown3 hg3))
    go_ret
    rw [← List.map_append] at hown3
    exact Out.mk hown3 ((hb1.trans hb2).grown hg3 (hb1.trans hb2).size (fun q hq => (hown2.lt q hq).1))
end Go.Proofs.YtfabcmohaikfoaaDoor
