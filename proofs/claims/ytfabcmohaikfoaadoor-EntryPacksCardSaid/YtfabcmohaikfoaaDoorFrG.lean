/- Contracts: the document's Next of any bytes, and Whole. -/
import Derived.Test.YtfabcmohaikfoaaDoorFrF
namespace Go.Proofs.YtfabcmohaikfoaaDoor
open Go.RowKit

set_option maxRecDepth 10000 in
/-- the document's Next of any bytes -/
theorem rn_any (A : Option Addr) (n c : Nat) (l : List UInt8) (B : Nat) (w : World) (hr : Rd w B A n l) (hB : B ≤ w.heap.size) (hn : n ≤ 137438953400) (hc : n ≤ c) (hm : c ≤ 9223372036854775807) :
    Calls Tryd.prog 28 #[.slice A n c] w (RNextP w B l) := by
  have hl := hr.1
  by_cases h8 : n < 8
  · exact (rn_no1 A n c w h8).mono fun e w' h => RNextP.no h (nx_short (by omega)) (by decide)
  · by_cases h0 : l.getD 0 0 = 90
    · obtain ⟨ad, rfl, hadB, _⟩ := hr.cellAt (k := 0) (by omega)
      by_cases h1 : tail4 (crc (l.take 4)) = (l.drop 4).take 4
      · match l, hl, h0, h1, hr with
        | b0 :: b1 :: b2 :: b3 :: t, hl, h0, h1, hr => exact rn_rest ad n c b0 b1 b2 b3 t _ _ w rfl rfl B hadB (hr.more hB) (by omega) hn hc hm h0 h1
        | [_, _, _], hl, _, _, _ => simp at hl; omega
        | [_, _], hl, _, _, _ => simp at hl; omega
        | [_], hl, _, _, _ => simp at hl; omega
        | [], hl, _, _, _ => simp at hl; omega
      · have hnx : nxE l = 20 := by
          unfold nxE
          rw [if_neg (by omega), if_neg (by simp only [h0, ne_eq, not_true_eq_false, not_false_eq_true]), if_pos (fun e => h1 e.symm)]
        exact (rn_no3 ad n c l w (hr.more hB) (by omega) hc hm h0 (fun e => h1 e.symm)).mono fun e w' h => RNextP.no h hnx (by decide)
    · have hnx : nxE l = 11 := by
        unfold nxE
        rw [if_neg (by omega), if_pos h0]
      exact (rn_no2 A n c l B w hr (by omega) h0).mono fun e w' h => RNextP.no h hnx (by decide)

end Go.Proofs.YtfabcmohaikfoaaDoor
