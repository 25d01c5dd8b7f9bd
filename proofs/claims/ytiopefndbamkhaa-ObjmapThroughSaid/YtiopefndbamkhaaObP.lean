/- Maps of objects' states, plain (no program): states, the canonical map, set, fresh, merge, what changed, bytes. -/
import Derived.Test.YtiopefndbamkhaaBytes
namespace Go.Proofs.Ytiopefndbamkhaa

/-- the state of object k -/
def gN (m : List Int) (k : Nat) : Int := if k < 512 ∧ 0 ≤ m.getD k 0 ∧ m.getD k 0 ≤ 2 then m.getD k 0 else 0
/-- .. of any number -/
def getO (m : List Int) (i : Int) : Int := if 0 ≤ i then gN m i.toNat else 0
def St (x : Int) : Prop := x = 0 ∨ x = 1 ∨ x = 2
theorem gN_st (m : List Int) (k : Nat) : St (gN m k) := by
  unfold gN St
  split <;> omega
theorem gN_high (m : List Int) {k : Nat} (h : 512 ≤ k) : gN m k = 0 := by
  unfold gN
  rw [if_neg (by omega)]
theorem gN_out (m : List Int) {k : Nat} (h : m.length ≤ k) : gN m k = 0 := by
  unfold gN
  rw [List.getD_eq_getElem?_getD, List.getElem?_eq_none h]
  split <;> rfl
theorem gN_nil (k : Nat) : gN [] k = 0 := gN_out [] (Nat.zero_le _)
theorem getO_neg (m : List Int) {i : Int} (h : i < 0) : getO m i = 0 := by unfold getO; rw [if_neg (by omega)]
theorem getO_nat (m : List Int) (k : Nat) : getO m k = gN m k := by unfold getO; rw [if_pos (by omega)]; rfl
theorem getO_out (m : List Int) {i : Int} (h : (m.length : Int) ≤ i) : getO m i = 0 := by
  unfold getO
  rw [if_pos (by omega), gN_out m (by omega)]
theorem getO_high (m : List Int) {i : Int} (h : 512 ≤ i) : getO m i = 0 := by
  unfold getO
  rw [if_pos (by omega), gN_high m (by omega)]

/-- what states may be: 0, 1, 2, and none from 512 on -/
def Sts (f : Nat → Int) : Prop := (∀ k, St (f k)) ∧ ∀ k, 512 ≤ k → f k = 0
theorem gN_sts (m : List Int) : Sts (gN m) := ⟨gN_st m, fun _ => gN_high m⟩
/-- how many states there are without those at the end that are None -/
def topF (f : Nat → Int) : Nat → Nat
  | 0 => 0
  | k + 1 => if f k ≠ 0 then k + 1 else topF f k
theorem topF_le (f : Nat → Int) : ∀ n, topF f n ≤ n
  | 0 => Nat.le_refl _
  | n + 1 => by
    unfold topF
    split
    · exact Nat.le_refl _
    · exact Nat.le_trans (topF_le f n) (Nat.le_succ n)
theorem topF_zero {f : Nat → Int} : ∀ {n k : Nat}, topF f n ≤ k → k < n → f k = 0
  | 0, _, _, h => by omega
  | n + 1, k, h, hk => by
    unfold topF at h
    split at h
    · omega
    · rename_i q
      by_cases e : k = n
      · subst e; simpa using q
      · exact topF_zero h (by omega)
theorem topF_last {f : Nat → Int} : ∀ {n : Nat}, 0 < topF f n → f (topF f n - 1) ≠ 0
  | 0, h => by simp [topF] at h
  | n + 1, h => by
    unfold topF at h ⊢
    split
    · rename_i q; rw [Nat.add_sub_cancel]; exact q
    · rename_i q
      rw [if_neg q] at h
      exact topF_last h
theorem topF_more {f : Nat → Int} {n : Nat} : ∀ {m : Nat}, n ≤ m → (∀ k, n ≤ k → f k = 0) → topF f m = topF f n
  | 0, h, _ => by obtain rfl : n = 0 := by omega
                  rfl
  | m + 1, h, hz => by
    by_cases e : n = m + 1
    · rw [e]
    · show (if f m ≠ 0 then m + 1 else topF f m) = _
      rw [if_neg (by simp [hz m (by omega)])]
      exact topF_more (by omega) hz
/-- the canonical map with these states -/
def rowF (f : Nat → Int) : List Int := (List.range (topF f 512)).map f
theorem rowF_len (f : Nat → Int) : (rowF f).length = topF f 512 := by simp [rowF]
theorem rowF_le (f : Nat → Int) : (rowF f).length ≤ 512 := by rw [rowF_len]; exact topF_le f 512
theorem rowF_getD (f : Nat → Int) (k : Nat) : (rowF f).getD k 0 = if k < topF f 512 then f k else 0 := by
  unfold rowF
  rw [List.getD_eq_getElem?_getD, List.getElem?_map]
  by_cases h : k < topF f 512
  · rw [List.getElem?_range h, if_pos h]; rfl
  · rw [if_neg h, List.getElem?_eq_none (by simpa using h)]; rfl
theorem gN_rowF {f : Nat → Int} (hf : Sts f) (k : Nat) : gN (rowF f) k = f k := by
  unfold gN
  rw [rowF_getD]
  by_cases h : k < topF f 512
  · have h2 := topF_le f 512
    have h3 := hf.1 k
    unfold St at h3
    rw [if_pos h, if_pos (by omega)]
  · rw [if_neg h]
    by_cases h2 : k < 512
    · rw [topF_zero (f := f) (n := 512) (by omega) h2]; split <;> rfl
    · rw [hf.2 k (by omega)]; split <;> rfl
/-- a canonical map -/
def IsRow (r : List Int) : Prop := r.length ≤ 512 ∧ (∀ x ∈ r, 0 ≤ x ∧ x ≤ 2) ∧ (r ≠ [] → r.getD (r.length - 1) 0 ≠ 0)
instance (r : List Int) : Decidable (IsRow r) := by unfold IsRow; infer_instance
theorem rowF_is {f : Nat → Int} (hf : Sts f) : IsRow (rowF f) := by
  refine ⟨rowF_le f, fun x hx => ?_, fun h => ?_⟩
  · unfold rowF at hx
    obtain ⟨k, _, rfl⟩ := List.mem_map.1 hx
    have := hf.1 k
    unfold St at this
    omega
  · have h0 : 0 < topF f 512 := by
      rw [← rowF_len]
      exact List.length_pos_iff.2 h
    rw [rowF_getD, rowF_len, if_pos (by omega)]
    exact topF_last h0
theorem row_gN {r : List Int} (h : IsRow r) (k : Nat) : gN r k = r.getD k 0 := by
  unfold gN
  by_cases q : k < r.length
  · have h1 := h.2.1 (r.getD k 0) (by rw [List.getD_eq_getElem?_getD, List.getElem?_eq_getElem q]; exact List.getElem_mem q)
    have := h.1
    rw [if_pos (by omega)]
  · rw [List.getD_eq_getElem?_getD, List.getElem?_eq_none (by omega)]
    split <;> rfl
theorem row_ext {r s : List Int} (hr : IsRow r) (hs : IsRow s) (h : ∀ k, gN r k = gN s k) : r = s := by
  have hd : ∀ k, r.getD k 0 = s.getD k 0 := fun k => by rw [← row_gN hr, ← row_gN hs, h]
  have key : ∀ {x y : List Int}, IsRow x → (∀ k, x.getD k 0 = y.getD k 0) → x.length ≤ y.length := fun {x y} hx hxy => by
    refine Nat.le_of_not_lt fun q => ?_
    have h1 := hx.2.2 (fun e => by rw [e] at q; simp at q)
    rw [hxy, List.getD_eq_getElem?_getD, List.getElem?_eq_none (by omega)] at h1
    exact h1 rfl
  have hl : r.length = s.length := Nat.le_antisymm (key hr hd) (key hs fun k => (hd k).symm)
  refine List.ext_getElem hl fun k h1 h2 => ?_
  have := hd k
  rwa [List.getD_eq_getElem?_getD, List.getElem?_eq_getElem h1, List.getD_eq_getElem?_getD, List.getElem?_eq_getElem h2] at this
/-- a canonical map with the states that are wanted is the one -/
theorem row_unique {r : List Int} {f : Nat → Int} (hr : IsRow r) (hf : Sts f) (h : ∀ k, gN r k = f k) : r = rowF f :=
  row_ext hr (rowF_is hf) fun k => by rw [h, gN_rowF hf]
theorem rowF_ext {f g : Nat → Int} (h : ∀ k, f k = g k) : rowF f = rowF g := by
  have : f = g := funext h
  rw [this]

/-- the canonical map of a map -/
def rowO (m : List Int) : List Int := rowF (gN m)
theorem gN_rowO (m : List Int) (k : Nat) : gN (rowO m) k = gN m k := gN_rowF (gN_sts m) k
theorem rowO_is (m : List Int) : IsRow (rowO m) := rowF_is (gN_sts m)
theorem rowO_self {m : List Int} (h : IsRow m) : rowO m = m := (row_unique h (gN_sts m) fun _ => rfl).symm
theorem rowO_len (m : List Int) : (rowO m).length ≤ 512 := rowF_le _

def setF (m : List Int) (i s : Int) (k : Nat) : Int := if (k : Int) = i then s else gN m k
def OkS (i s : Int) : Prop := 0 ≤ i ∧ i ≤ 511 ∧ 0 ≤ s ∧ s ≤ 2
instance (i s : Int) : Decidable (OkS i s) := by unfold OkS; infer_instance
def setO (m : List Int) (i s : Int) : List Int := if OkS i s then rowF (setF m i s) else rowO m
theorem setF_sts (m : List Int) {i s : Int} (h : OkS i s) : Sts (setF m i s) := by
  obtain ⟨h1, h2, h3, h4⟩ := h
  refine ⟨fun k => ?_, fun k hk => ?_⟩
  · unfold setF
    split
    · unfold St; omega
    · exact gN_st m k
  · unfold setF
    rw [if_neg (by omega), gN_high m hk]
theorem setO_is (m : List Int) (i s : Int) : IsRow (setO m i s) := by
  unfold setO
  split
  · rename_i h; exact rowF_is (setF_sts m h)
  · exact rowO_is m
theorem gN_setO {m : List Int} {i s : Int} (h : OkS i s) (k : Nat) : gN (setO m i s) k = if (k : Int) = i then s else gN m k := by
  unfold setO
  rw [if_pos h, gN_rowF (setF_sts m h)]
  rfl

def freshF (m : List Int) (k : Nat) : Int := if gN m k = 1 then 2 else gN m k
def freshO (m : List Int) : List Int := rowF (freshF m)
theorem freshF_sts (m : List Int) : Sts (freshF m) := by
  refine ⟨fun k => ?_, fun k hk => ?_⟩
  · unfold freshF
    split
    · exact .inr (.inr rfl)
    · exact gN_st m k
  · unfold freshF
    rw [gN_high m hk]; rfl
theorem freshO_is (m : List Int) : IsRow (freshO m) := rowF_is (freshF_sts m)
theorem gN_freshO (m : List Int) (k : Nat) : gN (freshO m) k = if gN m k = 1 then 2 else gN m k := gN_rowF (freshF_sts m) k

def mergeF (o m : List Int) (k : Nat) : Int := if gN m k = 2 ∧ gN o k = 1 then 1 else gN m k
def mergeO (o m : List Int) : List Int := rowF (mergeF o m)
theorem mergeF_sts (o m : List Int) : Sts (mergeF o m) := by
  refine ⟨fun k => ?_, fun k hk => ?_⟩
  · unfold mergeF
    split
    · exact .inr (.inl rfl)
    · exact gN_st m k
  · unfold mergeF
    rw [gN_high m hk]; rfl
theorem mergeO_is (o m : List Int) : IsRow (mergeO o m) := rowF_is (mergeF_sts o m)
theorem gN_mergeO (o m : List Int) (k : Nat) : gN (mergeO o m) k = if gN m k = 2 ∧ gN o k = 1 then 1 else gN m k := gN_rowF (mergeF_sts o m) k

/-- object k: by one map and another one -/
def dif (first m : List Int) (k : Nat) : Bool := decide (gN m k = 1) || (decide (gN m k = 0) != decide (gN first k = 0))
def chB (first : List Int) (rest : List (List Int)) (k : Nat) : Bool := rest.any fun m => dif first m k
def changedN (first : List Int) (rest : List (List Int)) (n : Nat) : List Int := ((List.range n).filter (chB first rest)).map Int.ofNat
def changedO (first : List Int) (rest : List (List Int)) : List Int := changedN first rest 512
theorem changedN_succ (first : List Int) (rest : List (List Int)) (n : Nat) : changedN first rest (n + 1) = if chB first rest n then changedN first rest n ++ [(n : Int)] else changedN first rest n := by
  unfold changedN
  rw [List.range_succ, List.filter_append]
  cases h : chB first rest n <;> simp [h]
theorem changedN_len (first : List Int) (rest : List (List Int)) : ∀ n, (changedN first rest n).length ≤ n
  | 0 => by simp [changedN]
  | n + 1 => by
    have := changedN_len first rest n
    rw [changedN_succ]
    split
    · simp; omega
    · omega
theorem changed_mem (first : List Int) (rest : List (List Int)) (k : Nat) (hk : k < 512) : decide ((k : Int) ∈ changedO first rest) = chB first rest k := by
  rw [Bool.eq_iff_iff, decide_eq_true_iff]
  unfold changedO changedN
  rw [List.mem_map]
  constructor
  · rintro ⟨j, hj, e⟩
    obtain rfl : j = k := by have e : (j : Int) = (k : Int) := e; omega
    exact (List.mem_filter.1 hj).2
  · intro h
    exact ⟨k, List.mem_filter.2 ⟨List.mem_range.2 hk, h⟩, rfl⟩

/-- four states in a byte -/
def quadN (r : List Int) (b : Nat) : Nat := (gN r (4 * b) + 4 * gN r (4 * b + 1) + 16 * gN r (4 * b + 2) + 64 * gN r (4 * b + 3)).toNat
theorem quad_eq (r : List Int) (b : Nat) : (quadN r b : Int) = gN r (4 * b) + 4 * gN r (4 * b + 1) + 16 * gN r (4 * b + 2) + 64 * gN r (4 * b + 3) := by
  unfold quadN
  have h0 := gN_st r (4 * b)
  have h1 := gN_st r (4 * b + 1)
  have h2 := gN_st r (4 * b + 2)
  have h3 := gN_st r (4 * b + 3)
  unfold St at *
  omega
theorem quad_lt (r : List Int) (b : Nat) : quadN r b < 256 := by
  have h := quad_eq r b
  have h0 := gN_st r (4 * b)
  have h1 := gN_st r (4 * b + 1)
  have h2 := gN_st r (4 * b + 2)
  have h3 := gN_st r (4 * b + 3)
  unfold St at *
  omega
def quads (r : List Int) (n : Nat) : List UInt8 := (List.range n).map fun b => UInt8.ofNat (quadN r b)
theorem quads_len (r : List Int) (n : Nat) : (quads r n).length = n := by simp [quads]
theorem quads_succ (r : List Int) (n : Nat) : quads r (n + 1) = quads r n ++ [UInt8.ofNat (quadN r n)] := by
  unfold quads
  rw [List.range_succ, List.map_append]
  rfl
/-- a canonical map's bytes -/
def packR (r : List Int) : List UInt8 := UInt8.ofNat (r.length / 256) :: UInt8.ofNat (r.length % 256) :: quads r ((r.length + 3) / 4)
def packO (m : List Int) : List UInt8 := packR (rowO m)
theorem packR_len (r : List Int) : (packR r).length = 2 + (r.length + 3) / 4 := by simp [packR, quads_len]; omega
theorem packO_self {m : List Int} (h : IsRow m) : packO m = packR m := by unfold packO; rw [rowO_self h]
/-- the map that bytes could be: so many states, as far as there are bytes -/
def cntU (b : List UInt8) : Nat := 256 * (b.getD 0 0).toNat + (b.getD 1 0).toNat
def stU (b : List UInt8) (i : Nat) : Int := ((b.getD (2 + i / 4) 0).toNat / 4 ^ (i % 4) % 4 : Nat)
def canU (b : List UInt8) : List Int := (List.range (min (cntU b) (4 * (b.length - 2)))).map (stU b)
/-- what bytes are -/
def unO (b : List UInt8) : Option (List Int) := if 2 ≤ b.length ∧ IsRow (canU b) ∧ packR (canU b) = b then some (canU b) else none
theorem ofNat_toNat {n : Nat} (h : n < 256) : (UInt8.ofNat n).toNat = n := by
  rw [UInt8.toNat_ofNat']
  exact Nat.mod_eq_of_lt h
theorem quad_at {x0 x1 x2 x3 : Int} (h0 : St x0) (h1 : St x1) (h2 : St x2) (h3 : St x3) {n : Nat} (hn : (n : Int) = x0 + 4 * x1 + 16 * x2 + 64 * x3) :
    ((n % 4 : Nat) : Int) = x0 ∧ ((n / 4 % 4 : Nat) : Int) = x1 ∧ ((n / 16 % 4 : Nat) : Int) = x2 ∧ ((n / 64 % 4 : Nat) : Int) = x3 := by
  unfold St at *
  omega
theorem canU_pack {r : List Int} (h : IsRow r) : canU (packR r) = r := by
  have hl := h.1
  have e0 : (packR r).getD 0 0 = UInt8.ofNat (r.length / 256) := rfl
  have e1 : (packR r).getD 1 0 = UInt8.ofNat (r.length % 256) := rfl
  have hc : cntU (packR r) = r.length := by
    unfold cntU
    rw [e0, e1, ofNat_toNat (by omega), ofNat_toNat (by omega)]
    omega
  have hm : min (cntU (packR r)) (4 * ((packR r).length - 2)) = r.length := by
    rw [hc, packR_len]; omega
  unfold canU
  rw [hm]
  refine List.ext_getElem (by simp) fun k h1 h2 => ?_
  rw [List.getElem_map, List.getElem_range]
  have eb : (packR r).getD (2 + k / 4) 0 = UInt8.ofNat (quadN r (k / 4)) := by
    have hq : k / 4 < (r.length + 3) / 4 := by omega
    show (UInt8.ofNat (r.length / 256) :: UInt8.ofNat (r.length % 256) :: quads r ((r.length + 3) / 4)).getD (2 + k / 4) 0 = _
    rw [show 2 + k / 4 = (k / 4) + 1 + 1 by omega, List.getD_cons_succ, List.getD_cons_succ]
    unfold quads
    rw [List.getD_eq_getElem?_getD, List.getElem?_map, List.getElem?_range hq]
    rfl
  unfold stU
  rw [eb, ofNat_toNat (quad_lt _ _)]
  obtain ⟨a0, a1, a2, a3⟩ := quad_at (gN_st r (4 * (k / 4))) (gN_st r (4 * (k / 4) + 1)) (gN_st r (4 * (k / 4) + 2)) (gN_st r (4 * (k / 4) + 3)) (quad_eq r (k / 4))
  have hg : gN r k = r[k] := by rw [row_gN h, List.getD_eq_getElem?_getD, List.getElem?_eq_getElem h2]; rfl
  rw [← hg]
  have hk : k = 4 * (k / 4) + k % 4 := by omega
  generalize quadN r (k / 4) = q at *
  generalize k / 4 = d at *
  have h4 : k % 4 < 4 := by omega
  generalize k % 4 = e at *
  subst hk
  match e, h4 with
  | 0, _ => simpa using a0
  | 1, _ => simpa using a1
  | 2, _ => exact a2
  | 3, _ => exact a3
/-- bytes are a map's just if they are what it packs to -/
theorem unO_some {b : List UInt8} {r : List Int} : unO b = some r ↔ IsRow r ∧ packR r = b := by
  unfold unO
  constructor
  · intro h
    split at h
    · rename_i q
      obtain rfl : canU b = r := by simpa using h
      exact q.2
    · cases h
  · rintro ⟨h1, rfl⟩
    rw [canU_pack h1, if_pos ⟨by rw [packR_len]; omega, h1, rfl⟩]
theorem unO_pack {r : List Int} (h : IsRow r) : unO (packR r) = some r := unO_some.2 ⟨h, rfl⟩
end Go.Proofs.Ytiopefndbamkhaa
