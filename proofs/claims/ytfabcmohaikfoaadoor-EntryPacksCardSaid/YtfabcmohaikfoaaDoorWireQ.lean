/- Plain facts on what is read of what was written, whole and cut short. -/
import Derived.Test.YtfabcmohaikfoaaDoorWireP
import Derived.Test.YtfabcmohaikfoaaDoorWireH
namespace Go.Proofs.YtfabcmohaikfoaaDoor

theorem numsB_length_aux (wd : Int) (zs : List Int) : ((zs.flatMap (numB wd))).length = zs.length * fitW wd := by
  induction zs with
  | nil => simp
  | cons z zs ih => rw [List.flatMap_cons, List.length_append, ih, numB_length, List.length_cons, Nat.add_mul, Nat.one_mul, Nat.add_comm]
theorem numsB_short (wd : Int) (zs : List Int) (h : zs.length ≤ 255) : numsB wd zs = encB 1 zs.length ++ zs.flatMap (numB wd) := by
  rw [numsB, Nat.min_eq_left h, List.take_of_length_le h]
theorem numsB_length (wd : Int) (zs : List Int) (h : zs.length ≤ 255) : (numsB wd zs).length = 1 + zs.length * fitW wd := by
  rw [numsB_short wd zs h, List.length_append, encB_length, numsB_length_aux]
theorem blobB_eq (x : List UInt8) (h : x.length ≤ 65535) : blobB x = encB 2 x.length ++ x := by
  rw [blobB, Nat.min_eq_left h, List.take_of_length_le h]
theorem blobB_length (x : List UInt8) (h : x.length ≤ 65535) : (blobB x).length = 2 + x.length := by
  rw [blobB_eq x h, List.length_append, encB_length]

theorem decB_take_enc (w m : Nat) (r : List UInt8) (h : m < 256 ^ w) : decB ((encB w m ++ r).take w) = m := by
  rw [List.take_left' (encB_length _ _), decB_encB, Nat.mod_eq_of_lt h]

/-- of a blob and more, cut at k -/
theorem cnt_blob_cut (x r : List UInt8) (k : Nat) (most : Int) (hx : x.length ≤ 65535) (hm : (x.length : Int) ≤ max most 0) :
    cntE ((blobB x ++ r).take k) 2 1 most = if min k (2 + x.length + r.length) < 2 + x.length then 10 else 0 := by
  have hL : (blobB x ++ r).length = 2 + x.length + r.length := by rw [List.length_append, blobB_length x hx]
  have hk : ((blobB x ++ r).take k).length = min k (2 + x.length + r.length) := by rw [List.length_take, hL]
  unfold cntE
  rw [hk]
  by_cases h2 : min k (2 + x.length + r.length) < 2
  · rw [if_pos h2, if_pos (by omega)]
  · have e : decB (((blobB x ++ r).take k).take 2) = x.length := by
      rw [List.take_take, Nat.min_eq_left (by omega), blobB_eq x hx, List.append_assoc]
      exact decB_take_enc 2 x.length _ (by omega)
    rw [if_neg h2, e, if_neg (by omega), Nat.mul_one]
    by_cases h3 : min k (2 + x.length + r.length) - 2 < x.length
    · rw [if_pos h3, if_pos (by omega)]
    · rw [if_neg h3, if_neg (by omega)]
theorem cnt_nums_cut (wd : Int) (zs : List Int) (r : List UInt8) (k : Nat) (most : Int) (hz : zs.length ≤ 255) (hm : (zs.length : Int) ≤ max most 0) :
    cntE ((numsB wd zs ++ r).take k) 1 (fitW wd) most = if min k (1 + zs.length * fitW wd + r.length) < 1 + zs.length * fitW wd then 10 else 0 := by
  have hL : (numsB wd zs ++ r).length = 1 + zs.length * fitW wd + r.length := by rw [List.length_append, numsB_length wd zs hz]
  have hk : ((numsB wd zs ++ r).take k).length = min k (1 + zs.length * fitW wd + r.length) := by rw [List.length_take, hL]
  unfold cntE
  rw [hk]
  by_cases h2 : min k (1 + zs.length * fitW wd + r.length) < 1
  · rw [if_pos h2, if_pos (by omega)]
  · have e : decB (((numsB wd zs ++ r).take k).take 1) = zs.length := by
      rw [List.take_take, Nat.min_eq_left (by omega), numsB_short wd zs hz, List.append_assoc]
      exact decB_take_enc 1 zs.length _ (by omega)
    rw [if_neg h2, e, if_neg (by omega)]
    by_cases h3 : min k (1 + zs.length * fitW wd + r.length) - 1 < zs.length * fitW wd
    · rw [if_pos h3, if_pos (by omega)]
    · rw [if_neg h3, if_neg (by omega)]

theorem drop_take_app (a r : List UInt8) (k : Nat) : ((a ++ r).take k).drop a.length = r.take (k - a.length) := by
  rw [List.drop_take, List.drop_left]

/-- bytes of a number, a blob and a row of numbers, cut short, end in ErrShort -/
theorem cut_chain (wd n : Int) (x : List UInt8) (zs : List Int) (k : Nat) (hx : x.length ≤ 1000) (hz : zs.length ≤ 200) (hk : k < ((numB wd n ++ blobB x) ++ numsB wd zs).length) :
    (rdNums (rdBlob (rdNum (((numB wd n ++ blobB x) ++ numsB wd zs).take k) 0 wd).2.1 (rdNum (((numB wd n ++ blobB x) ++ numsB wd zs).take k) 0 wd).2.2 1000).2.1
      (rdBlob (rdNum (((numB wd n ++ blobB x) ++ numsB wd zs).take k) 0 wd).2.1 (rdNum (((numB wd n ++ blobB x) ++ numsB wd zs).take k) 0 wd).2.2 1000).2.2 wd 200).2.2 = 10 := by
  rw [List.length_append, List.length_append, numB_length, blobB_length x (by omega), numsB_length wd zs (by omega)] at hk
  rw [List.append_assoc]
  have hN : rdNum ((numB wd n ++ (blobB x ++ numsB wd zs)).take k) 0 wd = if k < fitW wd then (0, (numB wd n ++ (blobB x ++ numsB wd zs)).take k, 10) else ((decB (((numB wd n ++ (blobB x ++ numsB wd zs)).take k).take (fitW wd)) : Int), (blobB x ++ numsB wd zs).take (k - fitW wd), 0) := by
    unfold rdNum
    have hl : ((numB wd n ++ (blobB x ++ numsB wd zs)).take k).length = k := by
      rw [List.length_take, List.length_append, List.length_append, numB_length, blobB_length x (by omega), numsB_length wd zs (by omega)]
      omega
    rw [if_neg (by simp), hl]
    by_cases h : k < fitW wd
    · rw [if_pos h, if_pos h]
    · rw [if_neg h, if_neg h]
      have e := drop_take_app (numB wd n) (blobB x ++ numsB wd zs) k
      rw [numB_length] at e
      rw [e]
  rw [hN]
  by_cases h1 : k < fitW wd
  · simp [h1, rdBlob, rdNums]
  · rw [if_neg h1]
    dsimp only
    have hB := cnt_blob_cut x (numsB wd zs) (k - fitW wd) 1000 (by omega) (by omega)
    rw [numsB_length wd zs (by omega)] at hB
    by_cases h2 : k - fitW wd < 2 + x.length
    · rw [if_pos (by omega)] at hB
      simp [rdBlob, hB, rdNums]
    · rw [if_neg (by omega)] at hB
      have e2 : decB (((blobB x ++ numsB wd zs).take (k - fitW wd)).take 2) = x.length := by
        rw [List.take_take, Nat.min_eq_left (by omega), blobB_eq x (by omega), List.append_assoc]
        exact decB_take_enc 2 x.length _ (by omega)
      have e3 := drop_take_app (blobB x) (numsB wd zs) (k - fitW wd)
      rw [blobB_length x (by omega)] at e3
      have hR : rdBlob ((blobB x ++ numsB wd zs).take (k - fitW wd)) 0 1000 = ((((blobB x ++ numsB wd zs).take (k - fitW wd)).drop 2).take x.length, (numsB wd zs).take (k - fitW wd - (2 + x.length)), 0) := by
        unfold rdBlob
        rw [if_neg (by simp), if_neg (by simp [hB]), e2, e3]
      rw [hR]
      dsimp only
      have hC := cnt_nums_cut wd zs [] (k - fitW wd - (2 + x.length)) 200 (by omega) (by omega)
      rw [List.append_nil, List.length_nil, Nat.add_zero, if_pos (by omega)] at hC
      simp [rdNums, hC]
end Go.Proofs.YtfabcmohaikfoaaDoor
