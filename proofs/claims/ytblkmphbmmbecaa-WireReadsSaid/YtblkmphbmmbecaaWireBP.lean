/- Plain facts: what was written is read again. -/
import Derived.Test.YtblkmphbmmbecaaWireQ
namespace Go.Proofs.Ytblkmphbmmbecaa

/-- a width from 2 to 7 holds what is below 65536 -/
theorem clampN_small (f : Nat) (v : Int) (hf : 2 ≤ f ∧ f ≤ 7) (hv : 0 ≤ v ∧ v ≤ 65535) : (clampN f v : Int) = v := by
  have h : (65536 : Int) ≤ (256 : Int) ^ f := by
    obtain rfl | rfl | rfl | rfl | rfl | rfl : f = 2 ∨ f = 3 ∨ f = 4 ∨ f = 5 ∨ f = 6 ∨ f = 7 := by omega
    all_goals decide
  unfold clampN
  omega
theorem decB_numB (wd v : Int) (hw : 2 ≤ wd ∧ wd ≤ 7) (hv : 0 ≤ v ∧ v ≤ 65535) : (decB (numB wd v) : Int) = v := by
  have hf : 2 ≤ fitW wd ∧ fitW wd ≤ 7 := by unfold fitW; omega
  rw [numB, decB_encB, Nat.mod_eq_of_lt (clampN_lt _ _)]
  exact clampN_small _ v hf hv

theorem rdNum_back (wd v : Int) (r : List UInt8) (hw : 2 ≤ wd ∧ wd ≤ 7) (hv : 0 ≤ v ∧ v ≤ 65535) : rdNum (numB wd v ++ r) 0 wd = (v, r, 0) := by
  unfold rdNum
  have hl : (numB wd v).length = fitW wd := numB_length _ _
  rw [if_neg (by simp), if_neg (by rw [List.length_append, hl]; omega), List.take_left' hl, List.drop_left' hl, decB_numB wd v hw hv]

theorem rdBlob_back (x r : List UInt8) (hx : x.length ≤ 1000) : rdBlob (blobB x ++ r) 0 1000 = (x, r, 0) := by
  have hc := cnt_blob_cut x r (blobB x ++ r).length 1000 (by omega) (by omega)
  rw [List.take_length, List.length_append, blobB_length x (by omega), if_neg (by omega)] at hc
  have e2 : decB ((blobB x ++ r).take 2) = x.length := by
    rw [blobB_eq x (by omega), List.append_assoc]
    exact decB_take_enc 2 x.length _ (by omega)
  unfold rdBlob
  rw [if_neg (by simp), if_neg (by simp [hc]), e2]
  rw [blobB_eq x (by omega), List.append_assoc, List.drop_left' (encB_length _ _), List.take_left' rfl, ← List.append_assoc, List.drop_left' (by rw [List.length_append, encB_length])]

theorem chunks_back (wd : Int) (hw : 2 ≤ wd ∧ wd ≤ 7) : ∀ (zs : List Int) (r : List UInt8), (∀ z ∈ zs, 0 ≤ z ∧ z ≤ 65535) → chunks (fitW wd) zs.length (zs.flatMap (numB wd) ++ r) = zs
  | [], r, _ => by simp [chunks]
  | z :: zs, r, h => by
    have ih := chunks_back wd hw zs r (fun y hy => h y (by simp [hy]))
    have hl : (numB wd z).length = fitW wd := numB_length _ _
    unfold chunks at ih ⊢
    rw [List.length_cons, List.range_succ_eq_map, List.map_cons, List.map_map]
    congr 1
    · rw [Nat.zero_mul, List.drop_zero, List.flatMap_cons, List.append_assoc, List.take_left' hl]
      exact decB_numB wd z hw (h z (by simp))
    · refine Eq.trans ?_ ih
      apply List.map_congr_left
      intro i _
      show (decB ((((z :: zs).flatMap (numB wd) ++ r).drop ((i + 1) * fitW wd)).take (fitW wd)) : Int) = _
      rw [List.flatMap_cons, List.append_assoc, show (i + 1) * fitW wd = (numB wd z).length + i * fitW wd by rw [hl, Nat.add_mul, Nat.one_mul, Nat.add_comm], ← List.drop_drop, List.drop_left' rfl]

theorem rdNums_back (wd : Int) (zs : List Int) (r : List UInt8) (hw : 2 ≤ wd ∧ wd ≤ 7) (hz : zs.length ≤ 200) (hv : ∀ z ∈ zs, 0 ≤ z ∧ z ≤ 65535) : rdNums (numsB wd zs ++ r) 0 wd 200 = (zs, r, 0) := by
  have hc := cnt_nums_cut wd zs r (numsB wd zs ++ r).length 200 (by omega) (by omega)
  rw [List.take_length, List.length_append, numsB_length wd zs (by omega), if_neg (by omega)] at hc
  have e2 : decB ((numsB wd zs ++ r).take 1) = zs.length := by
    rw [numsB_short wd zs (by omega), List.append_assoc]
    exact decB_take_enc 1 zs.length _ (by omega)
  unfold rdNums
  rw [if_neg (by simp), if_neg (by simp [hc]), e2, numsB_short wd zs (by omega), List.append_assoc, List.drop_left' (encB_length _ _), chunks_back wd hw zs r hv, ← List.append_assoc,
    List.drop_left' (by rw [List.length_append, encB_length, numsB_length_aux])]

/-- one that is put: a width, a number, bytes, numbers -/
structure WRec where
  wd : Int
  n : Int
  Ax : Option Addr
  nx : Nat
  cx : Nat
  x : List UInt8
  Az : Option Addr
  nz : Nat
  cz : Nat
  zs : List Int
/-- its number, cut to 16 bits -/
def WRec.low (r : WRec) : Int := bits .and .i64 r.n 65535
/-- its bytes -/
def WRec.enc (r : WRec) : List UInt8 := (numB r.wd r.low ++ blobB r.x) ++ numsB r.wd r.zs
theorem WRec.low_bd (r : WRec) : 0 ≤ r.low ∧ r.low ≤ 65535 := by
  unfold WRec.low
  show 0 ≤ IntKind.i64.wrap ((BitVec.ofInt 64 r.n &&& BitVec.ofInt 64 65535).toNat : Int) ∧ _
  rw [show bits .and .i64 r.n 65535 = IntKind.i64.wrap ((BitVec.ofInt 64 r.n &&& BitVec.ofInt 64 65535).toNat : Int) from rfl, IntKind.wrap_i64, BitVec.toNat_and]
  have h2 : (BitVec.ofInt 64 65535).toNat = 65535 := by decide
  rw [h2]
  have h3 : (BitVec.ofInt 64 r.n).toNat &&& 65535 ≤ 65535 := Nat.and_le_right
  omega
/-- what the law asks of each -/
def WRec.fit (r : WRec) : Prop := r.nx ≤ 1000 ∧ r.nz ≤ 200 ∧ 2 ≤ r.wd ∧ r.wd ≤ 7 ∧ ∀ z ∈ r.zs, 0 ≤ z ∧ z ≤ 65535
end Go.Proofs.Ytblkmphbmmbecaa
