/- Contract of package wire: Nums (a list of numbers is encoded). -/
import Derived.Test.YtblkmphbmmbecaaWireB
namespace Go.Proofs.Ytblkmphbmmbecaa
open Go.RowKit

/-- an int of Go's -/
def I64 (z : Int) : Prop := -9223372036854775808 ≤ z ∧ z ≤ 9223372036854775807

/-- the bytes that Nums appends -/
def numsB (width : Int) (zs : List Int) : List UInt8 := encB 1 (min zs.length 255) ++ (zs.take 255).flatMap (numB width)

theorem flat_take_succ (width : Int) (ys : List Int) (j : Nat) (h : j < ys.length) : (ys.take (j + 1)).flatMap (numB width) = (ys.take j).flatMap (numB width) ++ numB width ys[j] := by
  rw [List.take_succ_eq_append_getElem h, List.flatMap_append]; simp

set_option maxHeartbeats 400000 in
theorem Nums_any (A A' : Option Addr) (n c n' c' : Nat) (l : List UInt8) (zs : List Int) (width : Int) (w : World) (hr : Rd w w.heap.size A n l) (hr' : RdI w w.heap.size A' n' zs) (hz : ∀ z ∈ zs, I64 z)
    (hn : n ≤ 274877800000) (hc' : n' ≤ c') (hm : c' ≤ 9223372036854775807) :
    Calls Try.prog 14 #[.slice A n c, .int .i64 width, .slice A' n' c'] w fun e w' => Out w (l ++ numsB width zs) e w' := by
  have hx := hr'.1
  have hf := fitW_bd width
  have hr2 : RdI w w.heap.size A' (min n' 255) (zs.take 255) := by
    have h := hr'.take (k := min n' 255) (by omega)
    have e : zs.take (min n' 255) = zs.take 255 := by rw [← hx, Nat.min_comm, ← List.take_eq_take_min]
    rwa [e] at h
  have hz2 : ∀ z ∈ zs.take 255, I64 z := fun z h => hz z (List.mem_of_mem_take h)
  obtain ⟨m, hme⟩ : ∃ m, m = min n' 255 := ⟨_, rfl⟩
  have hm2 : m ≤ 255 := by omega
  have hce : clampN 1 (m : Int) = m := by unfold clampN; omega
  have hfin : l ++ numsB width zs = l ++ encB 1 (clampN 1 (m : Int)) ++ (zs.take 255).flatMap (numB width) := by rw [hce, hme, List.append_assoc, numsB, hx]
  rw [hfin]
  rw [← hme] at hr2
  obtain ⟨ys, hys⟩ : ∃ ys, ys = zs.take 255 := ⟨_, rfl⟩
  rw [← hys] at hr2 hz2 ⊢
  obtain ⟨f, hfe⟩ : ∃ f, f = fitW width := ⟨_, rfl⟩
  rw [← hfe] at hf
  have Hf := Lib.hid hfe
  have Hm := Lib.hid hme
  have Hz := Lib.hid hz2
  have hyl := hr2.1
  have Hyl := Lib.hid hyl
  clear hce hfin hme hx hr' hys hfe hz hz2 hyl
  go_enter Try.func14, Try.ntmps14
  go_upto_region 1 with fail
  go_cut [1] (fun s wx => s = .int .i64 f ∧ wx = w)
  case first =>
    go_wp2_with (go_at_call 30; refine (fitWidth_any _ _).mono ?_; rintro e w' ⟨rfl, rfl⟩)
    go_meet
    exact ⟨by rw [Hf.out], rfl⟩
  case rest =>
    obtain ⟨rfl, rfl⟩ := hcut
    go_upto_region 2 with fail
    go_cut [2] (fun s wx => s = .slice A' m c' ∧ wx = wc)
    case first =>
      go_wp2_with (go_at_call 35; refine (largest_any 1 (by omega) _).mono ?_; rintro e w' ⟨rfl, rfl⟩)
      all_goals
        go_meet
        have := Hm.out
        exact ⟨by congr 1; omega, rfl⟩
    case rest =>
      obtain ⟨rfl, rfl⟩ := hcut
      have hmf := mul_bd (A := 255) (B := 7) hm2 hf.2
      have h1 : Below wc.heap.size wc wc := Below.refl _ _
      go_wp2_with (first
        | (go_at_call 32; refine (extend_any A n c l _ _ hr (by omega) (by omega) (by omega)).mono ?_; rintro e w1 ⟨c1, rfl, hown1, hb1⟩)
        | (go_at_call 31; refine (putNum_any _ n wc.heap.size l 1 m _ (by omega) (by omega) hown1 hb1.size (by omega)).mono ?_; rintro e w2 ⟨v2, rfl, hown2, hb2⟩))
      clear hown1 h1
      go_loopw [7, 9, 30] (fun v _ i wr => ∃ j : Nat, j ≤ m ∧ i = .int .i64 j ∧ (∃ q, q ≤ n + 1 + 7 * j ∧ wr.ownsRow wc.heap.size 5 1 v q ((l ++ encB 1 (clampN 1 (m : Int)) ++ (ys.take j).flatMap (numB width)).map bv)) ∧ Below wc.heap.size wc wr) (fun _ _ i _ => m - (intOf i).toNat)
      case atStart => exact ⟨0, Nat.zero_le _, rfl, ⟨n + 1, by omega, by simpa using hown2⟩, hb1.trans hb2⟩
      case round =>
        obtain ⟨j, hj, rfl, ⟨q, hq, hown⟩, hb⟩ := hrel
        by_cases hlt : j < m
        · have hyl := Hyl.out
          obtain ⟨ad, rfl, _, hc⟩ := (hr2.below hb).cellAt hlt
          have hfl := flat_take_succ width ys j (by omega)
          have hzj := Hz.out (ys[j]'(by omega)) (List.getElem_mem _)
          have hnb : numB width (ys[j]'(by omega)) = encB f (clampN f (ys[j]'(by omega))) := by rw [numB, Hf.out]
          obtain ⟨z, hze⟩ : ∃ z, z = ys[j]'(by omega) := ⟨_, rfl⟩
          rw [← hze] at hc hfl hzj hnb
          have Hfl := Lib.hid hfl
          have Hnb := Lib.hid hnb
          clear hfl hnb hze hyl hr2
          go_wp2_with (go_at_call 31; refine (putNum_any _ q wc.heap.size _ f z _ hf hzj hown hb.size (by omega)).mono ?_; rintro e w3 ⟨v3, rfl, hown3, hb3⟩)
          have hown4 : ∃ q, q ≤ n + 1 + 7 * (j + 1) ∧ w3.ownsRow wc.heap.size 5 1 v3 q ((l ++ encB 1 (clampN 1 (m : Int)) ++ (ys.take (j + 1)).flatMap (numB width)).map bv) := by
            refine ⟨q + f, by omega, ?_⟩
            rw [Hfl.out, Hnb.out, ← List.append_assoc]
            exact hown3
          have hb4 := hb.trans hb3
          clear hown hown3 hb hb3
          go_roundw
          case rel => exact ⟨j + 1, by omega, by go_num, hown4, hb4⟩
          case measure => simp [intOf]; omega
        · have hyl := Hyl.out
          obtain rfl : j = m := by omega
          rw [List.take_of_length_le (by omega)] at hown
          go_wp2_with fail
          go_ret
          exact Out.mk hown hb
end Go.Proofs.Ytblkmphbmmbecaa
