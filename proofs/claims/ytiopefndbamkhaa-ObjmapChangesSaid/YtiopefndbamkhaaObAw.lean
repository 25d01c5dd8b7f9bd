/- awake of layer 5 answers true, and changes nothing that was there. -/
import Derived.Test.YtiopefndbamkhaaObLaw
namespace Go.Proofs.Ytiopefndbamkhaa
open Go.RowKit

theorem ob1 : changedO [2, 0, 2] [[2, 1], [2, 2]] = [1, 2] := by decide +kernel
theorem ob2 : unO [0, 5, 9, 1] = some [1, 2, 0, 0, 1] := by decide +kernel
theorem ob3 : setO [] 1 1 = [0, 1] := by decide +kernel
theorem ob4 : freshO [1, 0, 2] = [2, 0, 2] := by decide +kernel
theorem ob5 : getO [1, 2, 0, 0, 1] 4 = 1 := by decide +kernel
theorem ob6 : decide (IsRow [1, 2, 0, 0, 1]) = true := by decide +kernel

set_option maxHeartbeats 1000000 in
theorem awake5 (w : World) : Calls Try.prog 10 #[] w fun e w' => e = .returned (.bool true) ∧ Below w.heap.size w w' := by
  go_enter Try.func10, Try.ntmps10
  go_wp2_with fail
  have L1 := litI w [2, 0, 2] #[.int .i64 2, .int .i64 0, .int .i64 2] 3 w.heap.size 3 rfl rfl rfl (by decide)
  have L2 := litI (w.alloc (.cells #[.int .i64 2, .int .i64 0, .int .i64 2] 3)) [2, 1] #[.int .i64 2, .int .i64 1] 3 (w.heap.size + 1) 2 (by simp) rfl rfl (by decide)
  have L3 := litI ((w.alloc (.cells #[.int .i64 2, .int .i64 0, .int .i64 2] 3)).alloc (.cells #[.int .i64 2, .int .i64 1] 3)) [2, 2] #[.int .i64 2, .int .i64 2] 3 (w.heap.size + 2) 2 (by simp) rfl rfl (by decide)
  replace L1 := AtI.keep L1 (alB _ (.cells #[.int .i64 2, .int .i64 1] 3))
  replace L1 := AtI.keep L1 (alB _ (.cells #[.int .i64 2, .int .i64 2] 3))
  replace L2 := AtI.keep L2 (alB _ (.cells #[.int .i64 2, .int .i64 2] 3))
  have B1 := belO (belO (alB w (.cells #[.int .i64 2, .int .i64 0, .int .i64 2] 3)) (alB _ (.cells #[.int .i64 2, .int .i64 1] 3))) (alB _ (.cells #[.int .i64 2, .int .i64 2] 3))
  have L4 := litL2 _ (some ⟨w.heap.size + 1, 0, none⟩) (some ⟨w.heap.size + 2, 0, none⟩) 2 2 2 2 [2, 1] [2, 2] 22 (w.heap.size + 3) (by simp) L2 L3
  replace L1 := AtI.keep L1 (alB _ (.cells #[.slice (some ⟨w.heap.size + 1, 0, none⟩) 2 2, .slice (some ⟨w.heap.size + 2, 0, none⟩) 2 2] 22))
  replace B1 := belO B1 (alB _ (.cells #[.slice (some ⟨w.heap.size + 1, 0, none⟩) 2 2, .slice (some ⟨w.heap.size + 2, 0, none⟩) 2 2] 22))
  refine (lChanged 3 2 L1 L4).mono ?_
  rw [ob1]
  rintro e w1 ⟨Ac, nc, cc, rfl, C, hb, Nc⟩
  replace B1 := belO B1 hb
  clear L1 L2 L3 L4 hb
  obtain rfl : nc = 2 := Nc.out
  clear Nc
  go_wp2_with fail
  have L1 := litB w1 [0, 5, 9, 1] #[.int .u8 0, .int .u8 5, .int .u8 9, .int .u8 1] 5 w1.heap.size 4 rfl rfl rfl (by decide)
  replace C := AtI.keep C (alB _ (.cells #[.int .u8 0, .int .u8 5, .int .u8 9, .int .u8 1] 5))
  replace B1 := belO B1 (alB _ (.cells #[.int .u8 0, .int .u8 5, .int .u8 9, .int .u8 1] 5))
  refine (lUnpack 4 L1 (by decide)).mono ?_
  rw [ob2]
  rintro e w2 ⟨Am, nm, cm, rfl, M, hb, Nm⟩
  replace C := AtI.keep C hb
  replace B1 := belO B1 hb
  clear L1 hb
  obtain rfl : nm = 5 := Nm.out
  replace M : Hid (AtI w2 Am 5 [1, 2, 0, 0, 1]) := M
  clear Nm
  go_wp2_with fail
  have L1 := litI w2 [1, 2] #[.int .i64 1, .int .i64 2] 3 w2.heap.size 2 rfl rfl rfl (by decide)
  replace C := AtI.keep C (alB _ (.cells #[.int .i64 1, .int .i64 2] 3))
  replace M := AtI.keep M (alB _ (.cells #[.int .i64 1, .int .i64 2] 3))
  replace B1 := belO B1 (alB _ (.cells #[.int .i64 1, .int .i64 2] 3))
  refine (lYes5 cc 2 C L1 rfl).mono ?_
  rintro e w3 ⟨rfl, hb⟩
  replace M := AtI.keep M hb
  replace B1 := belO B1 hb
  clear L1 C hb
  go_wp2_with fail
  have L1 := litI w3 [1, 2, 0, 0, 1] #[.int .i64 1, .int .i64 2, .int .i64 0, .int .i64 0, .int .i64 1] 3 w3.heap.size 5 rfl rfl rfl (by decide)
  replace M := AtI.keep M (alB _ (.cells #[.int .i64 1, .int .i64 2, .int .i64 0, .int .i64 0, .int .i64 1] 3))
  replace B1 := belO B1 (alB _ (.cells #[.int .i64 1, .int .i64 2, .int .i64 0, .int .i64 0, .int .i64 1] 3))
  refine (lYes5 cm 5 M L1 rfl).mono ?_
  rintro e w4 ⟨rfl, hb⟩
  replace M := AtI.keep M hb
  replace B1 := belO B1 hb
  clear L1 hb
  go_wp2_with fail
  refine (lSet 0 1 1 (show Hid (AtI w4 none 0 []) from ⟨RdI.nil, by decide⟩)).mono ?_
  rw [ob3]
  rintro e w5 ⟨As, ns, cs, rfl, S, hb, Ns⟩
  replace M := AtI.keep M hb
  replace B1 := belO B1 hb
  clear hb
  obtain rfl : ns = 2 := Ns.out
  clear Ns
  go_wp2_with fail
  have L1 := litI w5 [0, 1] #[.int .i64 0, .int .i64 1] 3 w5.heap.size 2 rfl rfl rfl (by decide)
  replace M := AtI.keep M (alB _ (.cells #[.int .i64 0, .int .i64 1] 3))
  replace S := AtI.keep S (alB _ (.cells #[.int .i64 0, .int .i64 1] 3))
  replace B1 := belO B1 (alB _ (.cells #[.int .i64 0, .int .i64 1] 3))
  refine (lYes5 cs 2 S L1 rfl).mono ?_
  rintro e w6 ⟨rfl, hb⟩
  replace M := AtI.keep M hb
  replace B1 := belO B1 hb
  clear L1 S hb
  go_wp2_with fail
  have L1 := litI w6 [1, 0, 2] #[.int .i64 1, .int .i64 0, .int .i64 2] 3 w6.heap.size 3 rfl rfl rfl (by decide)
  replace M := AtI.keep M (alB _ (.cells #[.int .i64 1, .int .i64 0, .int .i64 2] 3))
  replace B1 := belO B1 (alB _ (.cells #[.int .i64 1, .int .i64 0, .int .i64 2] 3))
  refine (lFresh 3 L1).mono ?_
  rw [ob4]
  rintro e w7 ⟨Af, nf, cf, rfl, F, hb, Nf⟩
  replace M := AtI.keep M hb
  replace B1 := belO B1 hb
  clear L1 hb
  obtain rfl : nf = 3 := Nf.out
  clear Nf
  go_wp2_with fail
  have L1 := litI w7 [2, 0, 2] #[.int .i64 2, .int .i64 0, .int .i64 2] 3 w7.heap.size 3 rfl rfl rfl (by decide)
  replace M := AtI.keep M (alB _ (.cells #[.int .i64 2, .int .i64 0, .int .i64 2] 3))
  replace F := AtI.keep F (alB _ (.cells #[.int .i64 2, .int .i64 0, .int .i64 2] 3))
  replace B1 := belO B1 (alB _ (.cells #[.int .i64 2, .int .i64 0, .int .i64 2] 3))
  refine (lYes5 cf 3 F L1 rfl).mono ?_
  rintro e w8 ⟨rfl, hb⟩
  replace M := AtI.keep M hb
  replace B1 := belO B1 hb
  clear L1 F hb
  go_wp2_with fail
  refine (lCheck cm M).mono ?_
  rw [ob6]
  rintro e w9 ⟨rfl, hb⟩
  replace M := AtI.keep M hb
  replace B1 := belO B1 hb
  clear hb
  go_wp2_with fail
  refine (lGet cm 4 M).mono ?_
  rw [ob5]
  rintro e w10 ⟨rfl, hb⟩
  replace B1 := belO B1 hb
  clear hb M
  go_wp2_with fail
  go_ret
  exact ⟨rfl, B1.out⟩
end Go.Proofs.Ytiopefndbamkhaa
