/- Contracts of the leaves of package wire: fitWidth, largest, extend, putNum, number. Contracts of package wire: number, Num, Blob, Nums (the writers). Contract of package wire: Nums (a list of numbers is encoded). -/
import Derived.Test.YtaobdebeglenaaaRows
import Derived.Test.YtaobdebeglenaaaMa
import Derived.WalkLawsBesides
import Derived.Deep.DeepCutAuto

namespace Go.Proofs.Ytaobdebeglenaaa
open Go.RowKit

set_option maxRecDepth 10000 in
set_option maxHeartbeats 400000 in
theorem fitWidth_any (x : Int) (w : World) :
    Calls Try.prog 77 #[.int .i64 x] w fun e w' => e = .returned (.int .i64 (fitW x)) ∧ w = w' := by
  go_enter Try.func77, Try.ntmps77
  go_wp2
  all_goals (go_ret; refine ⟨ret_int ?_, rfl⟩; unfold fitW; omega)

set_option maxRecDepth 10000 in
set_option maxHeartbeats 400000 in
theorem largest_any (k : Nat) (h : 1 ≤ k ∧ k ≤ 7) (w : World) :
    Calls Try.prog 86 #[.int .i64 k] w fun e w' => e = .returned (.int .i64 ((256 : Int) ^ k - 1)) ∧ w = w' := by
  obtain rfl | rfl | rfl | rfl | rfl | rfl | rfl : k = 1 ∨ k = 2 ∨ k = 3 ∨ k = 4 ∨ k = 5 ∨ k = 6 ∨ k = 7 := by omega
  all_goals
    go_enter Try.func86, Try.ntmps86
    go_wp2
    go_ret
    exact ⟨rfl, rfl⟩

theorem Try.infoB : (Try.prog.info? 5).map (fun i => (i.zero, i.size, i.bytes)) = some (some (.int .u8 0), 1, 1) := by kernel_rfl
theorem Try.sizeB : (Try.prog.info? 5).map (·.size) = some 1 := by kernel_rfl

set_option maxRecDepth 10000 in
set_option maxHeartbeats 400000 in
theorem extend_any (A : Option Addr) (n c : Nat) (l : List UInt8) (k : Int) (w : World) (hr : Rd w w.heap.size A n l) (hk : 0 ≤ k) (hk2 : k ≤ 274877906944) (hn : n ≤ 274877906944) :
    Calls Try.prog 72 #[.slice A n c, .int .i64 k] w fun e w' => ∃ c', e = .returned (.slice (some ⟨w.heap.size, 0, none⟩) n c') ∧
      w'.ownsRow w.heap.size 5 1 (.slice (some ⟨w.heap.size, 0, none⟩) n c') n (l.map bv) ∧ Below w.heap.size w w' := by
  obtain ⟨k, rfl⟩ := Int.eq_ofNat_of_zero_le hk
  obtain ⟨i, hi, hz0, hz1, hz2⟩ := info_parts Try.infoB
  have hmk := fun W => run_mk (P := Try.prog) Try.underlying39 hi hz0 hz1 (by omega) n (n + k) ((n : Int) + (k : Int)) (by omega) (by omega) (by omega) W
  obtain ⟨W, hcp, hown, hb⟩ := run_copy_fresh (P := Try.prog) (ty := 3) Try.underlying39 Try.sizeB w (madeCells #[.int .u8 0] (n + k)) n (n + k) c A l (size_madeCells _ _) (by omega) (by simp only [maxLen]; omega) hr
  clear hz1 hz2
  go_enter Try.func72, Try.ntmps72
  go_wp2
  go_ret
  exact ⟨_, rfl, hown, hb⟩

set_option maxRecDepth 10000 in
set_option maxHeartbeats 400000 in
theorem putNum_any (v : Value) (n B : Nat) (l : List UInt8) (k : Nat) (x : Int) (w : World) (hk : 1 ≤ k ∧ k ≤ 7) (hx : -9223372036854775808 ≤ x ∧ x ≤ 9223372036854775807)
    (hown : w.ownsRow B 5 1 v n (l.map bv)) (hB : B ≤ w.heap.size) (hn : n ≤ 274877906944) :
    Calls Try.prog 85 #[v, .int .i64 k, .int .i64 x] w fun e w' => ∃ v', e = .returned v' ∧
      w'.ownsRow B 5 1 v' (n + k) ((l ++ encB k (clampN k x)).map bv) ∧ Below B w w' := by
  obtain ⟨i, hi, hz0, hz1, hz2⟩ := info_parts Try.infoB
  obtain ⟨m, hm⟩ : ∃ m, m = clampN k x := ⟨_, rfl⟩
  have hm1 : (m : Int) = min (max x 0) ((256 : Int) ^ k - 1) := by
    have : (256 : Int) ^ k ≥ 1 := Int.pow_pos (by decide)
    rw [hm]; unfold clampN; omega
  rw [← hm]
  have Hm := Lib.hid hm1
  clear hm hm1
  go_enter Try.func85, Try.ntmps85
  go_upto_region 1 with fail
  go_cut [2] (fun s wx => s = .int .i64 m ∧ wx = w)
  case first =>
    go_wp2_with (go_at_call 86; refine (largest_any _ hk _).mono ?_; rintro e w' ⟨rfl, rfl⟩)
    all_goals
      go_meet
      have := Hm.out
      exact ⟨by congr 1; omega, rfl⟩
  case rest =>
    obtain ⟨rfl, rfl⟩ := hcut
    go_wp2
    go_loopw [0, 7, 14] (fun v _ i wr => ∃ j : Nat, j ≤ k ∧ i = .int .i64 j ∧ wr.ownsRow B 5 1 v (n + j) ((l ++ (encB k m).take j).map bv) ∧ Below B wc wr) (fun _ _ i _ => k - (intOf i).toNat)
    case atStart => exact ⟨0, Nat.zero_le _, rfl, by simpa using hown, Below.refl _ _⟩
    case round =>
      obtain ⟨j, hj, rfl, hown, hb⟩ := hrel
      go_wp2_with (at_builtin; refine wpList_append_own _ rfl (.tmp 17) (.tmp 26) 39 rfl B 5 i (.int .u8 0) 1 1 Try.underlying39 hi hz0 hz1 hz2 rfl (by decide) _ _ _ rfl (hown.alloc _) ⟨wr.heap.size, 0, none⟩ 1 1 [.int .u8 ((m : Int) / 2 ^ (8 * (k - 1 - j)) % 256)] rfl rfl (one_new _ _ _) (by intro u hu; simp at hu; subst hu; rfl) (by simp only [maxLen]; omega) (by omega) (by have := hb.size; simp; omega) ?_; intro v' w1 hown1 hg1 _)
      · have hlt : j < k := by assumption
        have hb1 : Below B wc w1 := (hb.alloc (by have := hb.size; omega) _).grown hg1 (by have := hb.size; simp; omega) (fun q hq => (hown.lt q hq).1)
        have hown2 : w1.ownsRow B 5 1 v' (n + (j + 1)) ((l ++ (encB k m).take (j + 1)).map bv) := by
          rw [encB_take_succ k m j hlt, ← List.append_assoc, List.map_append (l₁ := l ++ _), List.map_cons, List.map_nil, bv_ofNat, pow_byte]
          exact hown1
        clear hown1 hg1 hown hb
        go_wp2
        go_roundw
        case rel => exact ⟨j + 1, by omega, by go_num, hown2, hb1⟩
        case measure => simp [intOf]; omega
      · have hge : k ≤ j := by omega
        obtain rfl : j = k := by omega
        go_ret
        rw [List.take_of_length_le (by rw [encB_length]; exact Nat.le_refl _)] at hown
        exact ⟨_, rfl, hown, hb⟩
end Go.Proofs.Ytaobdebeglenaaa

namespace Go.Proofs.Ytaobdebeglenaaa
open Go.RowKit

set_option maxRecDepth 10000 in
set_option maxHeartbeats 400000 in
theorem number_any (A : Option Addr) (n c : Nat) (l : List UInt8) (B : Nat) (w : World) (hr : Rd w B A n l) (hn : n ≤ 7) :
    Calls Try.prog 78 #[.slice A n c] w fun e w' => e = .returned (.int .i64 (decB l)) ∧ w = w' := by
  go_enter Try.func78, Try.ntmps78
  go_wp2
  go_loop [3, 5, 8] (fun s _ i => ∃ j : Nat, j ≤ n ∧ i = .int .i64 j ∧ s = .int .i64 (decB (l.take j))) (fun _ _ i => n - (intOf i).toNat)
  case atStart => exact ⟨0, Nat.zero_le _, rfl, rfl⟩
  case round =>
    obtain ⟨j, hj, rfl, rfl⟩ := hrel
    by_cases hlt : j < n
    · obtain ⟨ad, rfl, _, hc⟩ := hr.cellAt hlt
      have hl := hr.1
      have hd := decB_take_succ l j (by omega)
      have ha := decB_lt (l.take j)
      have hp : (256 : Nat) ^ (l.take j).length ≤ 256 ^ 6 := Nat.pow_le_pow_right (by decide) (by rw [List.length_take]; omega)
      obtain ⟨a, hae⟩ : ∃ a, a = decB (l.take j) := ⟨_, rfl⟩
      obtain ⟨d, hde⟩ : ∃ d, d = (l[j]'(by omega)).toNat := ⟨_, rfl⟩
      have hd2 : d < 256 := by rw [hde]; exact UInt8.toNat_lt _
      have hc' : w.cell? (ad.add j) = some (.int .u8 (d : Int)) := by rw [hc, hde]; rfl
      rw [← hae] at ha hd ⊢
      have ha2 : a < 281474976710656 := by omega
      rw [← hde] at hd
      have Hd := Lib.hid hd
      clear hd hc hae hde ha hp hl hr
      go_wp2
      go_round
      case rel => exact ⟨j + 1, by omega, by go_num, by rw [Hd.out, ← or_byte a d ha2 hd2]⟩
      case measure => simp [intOf]; omega
    · go_wp2
      go_ret
      exact ⟨ret_int (by rw [List.take_of_length_le (by rw [hr.1]; omega)]), rfl⟩

/-- the call returns a slice of new memory that reads as l; of what was there nothing has changed -/
def Out (w : World) (l : List UInt8) (e : Ending) (w' : World) : Prop :=
  ∃ A c, e = .returned (.slice A l.length c) ∧ l.length ≤ c ∧ c ≤ maxLen ∧ w'.ownsRow w.heap.size 5 1 (.slice A l.length c) l.length (l.map bv) ∧ Below w.heap.size w w'
theorem Out.mk {w : World} {l : List UInt8} {v : Value} {w' : World} {n : Nat} (h : w'.ownsRow w.heap.size 5 1 v n (l.map bv)) (hb : Below w.heap.size w w') : Out w l (.returned v) w' := by
  have hn : n = l.length := by have := h.1; simp at this; omega
  subst hn
  obtain ⟨A, c, rfl, h1, h2⟩ := ownsRow_form h
  exact ⟨A, c, rfl, h1, h2, h, hb⟩

/-- the bytes that Num appends -/
def numB (width x : Int) : List UInt8 := encB (fitW width) (clampN (fitW width) x)
theorem numB_length (width x : Int) : (numB width x).length = fitW width := encB_length _ _

set_option maxRecDepth 10000 in
set_option maxHeartbeats 400000 in
theorem Num_any (A : Option Addr) (n c : Nat) (l : List UInt8) (width x : Int) (w : World) (hr : Rd w w.heap.size A n l) (hn : n ≤ 274877906000) (hx : -9223372036854775808 ≤ x ∧ x ≤ 9223372036854775807) :
    Calls Try.prog 51 #[.slice A n c, .int .i64 width, .int .i64 x] w fun e w' => Out w (l ++ numB width x) e w' := by
  have hf := fitW_bd width
  go_enter Try.func51, Try.ntmps51
  go_wp2_with (first
    | (go_at_call 77; refine (fitWidth_any _ _).mono ?_; rintro e w' ⟨rfl, rfl⟩)
    | (go_at_call 72; refine (extend_any A n c l _ _ hr (by omega) (by omega) (by omega)).mono ?_; rintro e w1 ⟨c1, rfl, hown1, hb1⟩)
    | (go_at_call 85; refine (putNum_any _ n w.heap.size l _ x _ hf hx hown1 hb1.size (by omega)).mono ?_; rintro e w2 ⟨v2, rfl, hown2, hb2⟩))
  go_ret
  exact Out.mk hown2 (hb1.trans hb2)

/-- the bytes that Blob appends -/
def blobB (x : List UInt8) : List UInt8 := encB 2 (min x.length 65535) ++ x.take 65535

set_option maxRecDepth 10000 in
set_option maxHeartbeats 400000 in
theorem Blob_any (A A' : Option Addr) (n c n' c' : Nat) (l x : List UInt8) (w : World) (hr : Rd w w.heap.size A n l) (hr' : Rd w w.heap.size A' n' x) (hn : n ≤ 274877800000) (hc' : n' ≤ c') (hm : c' ≤ 9223372036854775807) :
    Calls Try.prog 53 #[.slice A n c, .slice A' n' c'] w fun e w' => Out w (l ++ blobB x) e w' := by
  have hx := hr'.1
  obtain ⟨i, hi, hz0, hz1, hz2⟩ := info_parts Try.infoB
  have hr2 : Rd w w.heap.size A' (min n' 65535) (x.take 65535) := by
    have h := hr'.take (k := min n' 65535) (by omega)
    have e : x.take (min n' 65535) = x.take 65535 := by rw [← hx, Nat.min_comm, ← List.take_eq_take_min]
    rwa [e] at h
  obtain ⟨m, hme⟩ : ∃ m, m = min n' 65535 := ⟨_, rfl⟩
  have hm2 : m ≤ 65535 := by omega
  have hce : clampN 2 (m : Int) = m := by unfold clampN; omega
  have hfin : l ++ blobB x = l ++ encB 2 (clampN 2 (m : Int)) ++ x.take 65535 := by rw [hce, hme, List.append_assoc, blobB, hx]
  rw [hfin]
  rw [← hme] at hr2
  have Hm := Lib.hid hme
  clear hce hfin hme hx hr'
  go_enter Try.func53, Try.ntmps53
  go_upto_region 1 with fail
  go_cut [1] (fun s wx => s = .slice A' m c' ∧ wx = w)
  case first =>
    go_wp2_with (go_at_call 86; refine (largest_any 2 (by omega) _).mono ?_; rintro e w' ⟨rfl, rfl⟩)
    all_goals
      go_meet
      have := Hm.out
      exact ⟨by congr 1; omega, rfl⟩
  case rest =>
    obtain ⟨rfl, rfl⟩ := hcut
    go_wp2_with (first
      | (go_at_call 72; refine (extend_any A n c l _ _ hr (by omega) (by omega) (by omega)).mono ?_; rintro e w1 ⟨c1, rfl, hown1, hb1⟩)
      | (go_at_call 85; refine (putNum_any _ n wc.heap.size l 2 m _ (by omega) (by omega) hown1 hb1.size (by omega)).mono ?_; rintro e w2 ⟨v2, rfl, hown2, hb2⟩)
      | (at_builtin; refine wpList_append_rd rfl (.tmp 20) (.tmp 21) 39 rfl wc.heap.size 5 i (.int .u8 0) 1 Try.underlying39 hi hz0 hz1 hz2 rfl v2 (n + 2) _ rfl hown2 A' m c' ((x.take 65535).map bv) rfl (by rw [List.length_map, hr2.1]) (hr2.below (hb1.trans hb2)).src (bv_one _) (by simp only [maxLen]; omega) (by omega) (hb1.trans hb2).size ?_; intro v3 w3 hown3 hg3))
    go_ret
    rw [← List.map_append] at hown3
    exact Out.mk hown3 ((hb1.trans hb2).grown hg3 (hb1.trans hb2).size (fun q hq => (hown2.lt q hq).1))
end Go.Proofs.Ytaobdebeglenaaa

namespace Go.Proofs.Ytaobdebeglenaaa
open Go.RowKit

/-- an int of Go's -/
def I64 (z : Int) : Prop := -9223372036854775808 ≤ z ∧ z ≤ 9223372036854775807

/-- the bytes that Nums appends -/
def numsB (width : Int) (zs : List Int) : List UInt8 := encB 1 (min zs.length 255) ++ (zs.take 255).flatMap (numB width)

theorem flat_take_succ (width : Int) (ys : List Int) (j : Nat) (h : j < ys.length) : (ys.take (j + 1)).flatMap (numB width) = (ys.take j).flatMap (numB width) ++ numB width ys[j] := by
  rw [List.take_succ_eq_append_getElem h, List.flatMap_append]; simp

end Go.Proofs.Ytaobdebeglenaaa
