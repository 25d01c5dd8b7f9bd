/- CRC-32C and frames over lists of bytes: plain mathematics; nothing here speaks of a program. -/
import Derived.Test.YtfabcmohaikfoaaDoorBytes
namespace Go.Proofs.YtfabcmohaikfoaaDoor
/-- one of the eight steps of a byte, on the register -/
def stp (r : Nat) : Nat := if r % 2 = 1 then (r / 2) ^^^ 2197175160 else r / 2
def stpN : Nat → Nat → Nat
  | 0, r => r
  | k + 1, r => stpN k (stp r)
/-- the register behind one more byte -/
def byS (r : Nat) (b : UInt8) : Nat := stpN 8 (r ^^^ b.toNat)
def regC (l : List UInt8) : Nat := l.foldl byS 4294967295
/-- the checksum -/
def crc (l : List UInt8) : Nat := 4294967295 ^^^ regC l

theorem mod2_xor (a b : Nat) : (a ^^^ b) % 2 = (a % 2 + b % 2) % 2 := by
  have h := Nat.testBit_xor a b 0
  simp only [Nat.testBit_zero] at h
  rcases Nat.mod_two_eq_zero_or_one a with h1 | h1 <;> rcases Nat.mod_two_eq_zero_or_one b with h2 | h2 <;> rcases Nat.mod_two_eq_zero_or_one (a ^^^ b) with h3 | h3 <;> simp [h1, h2, h3] at h ⊢
theorem div2_xor (a b : Nat) : (a ^^^ b) / 2 = a / 2 ^^^ b / 2 := Nat.xor_div_two
theorem stp_xor (a b : Nat) : stp (a ^^^ b) = stp a ^^^ stp b := by
  unfold stp
  rw [mod2_xor, div2_xor]
  rcases Nat.mod_two_eq_zero_or_one a with h1 | h1 <;> rcases Nat.mod_two_eq_zero_or_one b with h2 | h2 <;> simp only [h1, h2] <;> simp
  · rw [Nat.xor_assoc]
  · rw [Nat.xor_assoc, Nat.xor_assoc, Nat.xor_comm (b / 2)]
  · rw [Nat.xor_assoc, Nat.xor_comm (b / 2), ← Nat.xor_assoc 2197175160, Nat.xor_self, Nat.zero_xor]
theorem stpN_xor (k : Nat) : ∀ a b, stpN k (a ^^^ b) = stpN k a ^^^ stpN k b := by
  induction k with
  | zero => intro a b; rfl
  | succ k ih => intro a b; simp only [stpN, stp_xor, ih]
theorem stpN_add (j k r : Nat) : stpN (j + k) r = stpN k (stpN j r) := by
  induction j generalizing r with
  | zero => simp [stpN]
  | succ j ih => rw [Nat.succ_add]; exact ih _
theorem stp_lt {r : Nat} (h : r < 4294967296) : stp r < 4294967296 := by
  unfold stp
  split
  · exact Nat.xor_lt_two_pow (n := 32) (by omega) (by decide)
  · omega
theorem stpN_lt (k : Nat) : ∀ r, r < 4294967296 → stpN k r < 4294967296 := by
  induction k with
  | zero => intro r h; exact h
  | succ k ih => intro r h; exact ih _ (stp_lt h)
theorem stp_zero {r : Nat} (h : r < 4294967296) (h0 : stp r = 0) : r = 0 := by
  unfold stp at h0
  split at h0
  · have h1 : r / 2 = 2197175160 := by
      have := congrArg (· ^^^ 2197175160) h0
      simp only [Nat.xor_assoc, Nat.xor_self, Nat.xor_zero, Nat.zero_xor] at this
      exact this
    omega
  · omega
theorem xor_eq_zero {a b : Nat} (h : a ^^^ b = 0) : a = b := by
  have := congrArg (· ^^^ b) h
  simpa [Nat.xor_assoc] using this
theorem stp_inj {a b : Nat} (ha : a < 4294967296) (hb : b < 4294967296) (h : stp a = stp b) : a = b := by
  apply xor_eq_zero
  apply stp_zero (Nat.xor_lt_two_pow (n := 32) ha hb)
  rw [stp_xor, h, Nat.xor_self]
theorem stpN_inj (k : Nat) : ∀ {a b : Nat}, a < 4294967296 → b < 4294967296 → stpN k a = stpN k b → a = b := by
  induction k with
  | zero => intro a b _ _ h; exact h
  | succ k ih => intro a b ha hb h; exact stp_inj ha hb (ih (stp_lt ha) (stp_lt hb) h)
theorem xor_byte_lt {r : Nat} (h : r < 4294967296) (b : UInt8) : r ^^^ b.toNat < 4294967296 :=
  Nat.xor_lt_two_pow (n := 32) h (by have := b.toNat_lt; omega)
theorem byS_lt {r : Nat} (h : r < 4294967296) (b : UInt8) : byS r b < 4294967296 := stpN_lt 8 _ (xor_byte_lt h b)
theorem foldS_lt (l : List UInt8) : ∀ {r : Nat}, r < 4294967296 → l.foldl byS r < 4294967296 := by
  induction l with
  | nil => intro r h; exact h
  | cons b l ih => intro r h; exact ih (byS_lt h b)
theorem regC_lt (l : List UInt8) : regC l < 4294967296 := foldS_lt l (by decide)
theorem crc_lt (l : List UInt8) : crc l < 4294967296 := Nat.xor_lt_two_pow (n := 32) (by decide) (regC_lt l)
theorem foldS_inj (l : List UInt8) : ∀ {a b : Nat}, a < 4294967296 → b < 4294967296 → l.foldl byS a = l.foldl byS b → a = b := by
  induction l with
  | nil => intro a b _ _ h; exact h
  | cons x l ih =>
    intro a b ha hb h
    have h1 := ih (byS_lt ha x) (byS_lt hb x) h
    have h2 := stpN_inj 8 (xor_byte_lt ha x) (xor_byte_lt hb x) h1
    have := congrArg (· ^^^ x.toNat) h2
    simpa [Nat.xor_assoc] using this
/-- one byte changed: another checksum -/
theorem crc_set {l : List UInt8} {k : Nat} (hk : k < l.length) {x : UInt8} (hx : x ≠ l[k]) : crc (l.set k x) ≠ crc l := by
  intro h
  have h1 : regC (l.set k x) = regC l := by
    have h0 := congrArg (4294967295 ^^^ ·) h
    simpa only [crc, ← Nat.xor_assoc, Nat.xor_self, Nat.zero_xor] using h0
  have e1 : l = l.take k ++ l[k] :: l.drop (k + 1) := by simp
  have e2 : l.set k x = l.take k ++ x :: l.drop (k + 1) := List.set_eq_take_append_cons_drop.trans (if_pos hk)
  rw [e2] at h1
  have h2 : regC (l.take k ++ x :: l.drop (k + 1)) = regC (l.take k ++ l[k] :: l.drop (k + 1)) := h1.trans (congrArg regC e1)
  unfold regC at h2
  rw [List.foldl_append, List.foldl_append, List.foldl_cons, List.foldl_cons] at h2
  have hr : (l.take k).foldl byS 4294967295 < 4294967296 := foldS_lt _ (by decide)
  have h3 := foldS_inj _ (byS_lt hr x) (byS_lt hr l[k]) h2
  have h4 := stpN_inj 8 (xor_byte_lt hr x) (xor_byte_lt hr l[k]) h3
  have h5 : x.toNat = l[k].toNat := by
    generalize (l.take k).foldl byS 4294967295 = r at h4
    have := congrArg (r ^^^ ·) h4
    simpa only [← Nat.xor_assoc, Nat.xor_self, Nat.zero_xor] using this
  exact hx (UInt8.toNat_inj.1 h5)
/-- the table of half bytes -/
def halvesL : List Nat := [0x00000000, 0x105ec76f, 0x20bd8ede, 0x30e349b1, 0x417b1dbc, 0x5125dad3, 0x61c69362, 0x7198540d, 0x82f63b78, 0x92a8fc17, 0xa24bb5a6, 0xb21572c9, 0xc38d26c4, 0xd3d3e1ab, 0xe330a81a, 0xf36e6f75]
theorem halves_ok : ∀ c : Fin 16, stpN 4 c.val = halvesL.getD c.val 0 := by decide
theorem stpN_shift (k : Nat) : ∀ q, stpN k (q * 2 ^ k) = q := by
  induction k with
  | zero => intro q; simp [stpN]
  | succ k ih =>
    intro q
    have : stp (q * 2 ^ (k + 1)) = q * 2 ^ k := by
      unfold stp
      rw [if_neg (by rw [Nat.pow_succ, ← Nat.mul_assoc]; omega), Nat.pow_succ, ← Nat.mul_assoc]; omega
    rw [stpN, this, ih]
theorem half_step (r : Nat) : stpN 4 r = r / 16 ^^^ halvesL.getD (r % 16) 0 := by
  have e : r = (r / 16 * 2 ^ 4) ^^^ (r % 16) := by
    have h := Nat.shiftLeft_add_eq_or_of_lt (i := 4) (b := r % 16) (by omega) (r / 16)
    have h2 : (r / 16) <<< 4 ||| (r % 16) = (r / 16) <<< 4 ^^^ (r % 16) := by
      apply Nat.eq_of_testBit_eq
      intro i
      rw [Nat.testBit_or, Nat.testBit_xor, Nat.testBit_shiftLeft]
      by_cases hi : 4 ≤ i
      · have : (r % 16).testBit i = false := Nat.testBit_lt_two_pow (Nat.lt_of_lt_of_le (show r % 16 < 2 ^ 4 by omega) (Nat.pow_le_pow_right (by decide) hi))
        simp [this]
      · simp [hi]
    rw [Nat.shiftLeft_eq] at h h2
    rw [← h2, ← h]; omega
  have h1 := stpN_xor 4 (r / 16 * 2 ^ 4) (r % 16)
  rw [← e, stpN_shift, halves_ok ⟨r % 16, by omega⟩] at h1
  exact h1
theorem byS_halves (r : Nat) (b : UInt8) : byS r b = (let s := (r ^^^ b.toNat) / 16 ^^^ halvesL.getD ((r ^^^ b.toNat) % 16) 0; s / 16 ^^^ halvesL.getD (s % 16) 0) := by
  show stpN (4 + 4) _ = _
  rw [stpN_add, half_step, half_step]
theorem regC_take_succ (l : List UInt8) (k : Nat) (h : k < l.length) : regC (l.take (k + 1)) = byS (regC (l.take k)) l[k] := by
  rw [List.take_succ_eq_append_getElem h]; unfold regC; rw [List.foldl_append]; rfl
theorem crc_ex : crc [49, 50, 51, 52, 53, 54, 55, 56, 57] = 3808858755 := by decide +kernel
/-- a checksum's four bytes -/
def tail4 (c : Nat) : List UInt8 := [UInt8.ofNat c, UInt8.ofNat (c / 256), UInt8.ofNat (c / 65536), UInt8.ofNat (c / 16777216)]
theorem tail4_length (c : Nat) : (tail4 c).length = 4 := rfl
theorem tail4_inj {a b : Nat} (ha : a < 4294967296) (hb : b < 4294967296) (h : tail4 a = tail4 b) : a = b := by
  simp only [tail4, List.cons.injEq, and_true, ← UInt8.toNat_inj, UInt8.toNat_ofNat'] at h
  omega
/-- the first four bytes of a frame -/
def hdrL (k n : Nat) : List UInt8 := [90, UInt8.ofNat k, UInt8.ofNat (n / 256), UInt8.ofNat n]
/-- a frame -/
def mkF (k : Nat) (body : List UInt8) : List UInt8 := hdrL k body.length ++ (tail4 (crc (hdrL k body.length)) ++ (body ++ tail4 (crc body)))
theorem mkF_length (k : Nat) (body : List UInt8) : (mkF k body).length = body.length + 12 := by
  simp only [mkF, hdrL, List.length_append, List.length_cons, List.length_nil, tail4_length]; omega
/-- the length that a header tells -/
def cntF (l : List UInt8) : Nat := 256 * (l.getD 2 0).toNat + (l.getD 3 0).toNat
/-- the error that Next tells, or 0 -/
def nxE (l : List UInt8) : Int :=
  if l.length < 8 then 10
  else if l.getD 0 0 ≠ 90 then 11
  else if (l.drop 4).take 4 ≠ tail4 (crc (l.take 4)) then 20
  else if 8192 < cntF l then 11
  else if l.length < cntF l + 12 then 10
  else if (l.drop (8 + cntF l)).take 4 ≠ tail4 (crc ((l.drop 8).take (cntF l))) then 20
  else 0
theorem nx_short {l : List UInt8} (h : l.length < 8) : nxE l = 10 := by unfold nxE; rw [if_pos h]
theorem nx_form (a0 a1 a2 a3 s0 s1 s2 s3 : UInt8) (t : List UInt8) : nxE (a0 :: a1 :: a2 :: a3 :: s0 :: s1 :: s2 :: s3 :: t) =
    if a0 ≠ 90 then 11 else if [s0, s1, s2, s3] ≠ tail4 (crc [a0, a1, a2, a3]) then 20 else if 8192 < 256 * a2.toNat + a3.toNat then 11
    else if t.length < 256 * a2.toNat + a3.toNat + 4 then 10 else if (t.drop (256 * a2.toNat + a3.toNat)).take 4 ≠ tail4 (crc (t.take (256 * a2.toNat + a3.toNat))) then 20 else 0 := by
  have e : ∀ n, (a0 :: a1 :: a2 :: a3 :: s0 :: s1 :: s2 :: s3 :: t).drop (8 + n) = t.drop n := fun n => by rw [Nat.add_comm]; rfl
  unfold nxE cntF
  rw [if_neg (by simp)]
  simp only [List.getD_cons_zero, List.getD_cons_succ, List.drop_succ_cons, List.drop_zero, List.take_succ_cons, List.take_zero, e, List.length_cons]
  congr 1
  congr 1
  congr 1
  by_cases h : t.length < 256 * a2.toNat + a3.toNat + 4
  · rw [if_pos h, if_pos (by omega)]
  · rw [if_neg h, if_neg (by omega)]
theorem cnt_ok {n : Nat} (h : n ≤ 8192) : 256 * (UInt8.ofNat (n / 256)).toNat + (UInt8.ofNat n).toNat = n := by
  simp only [UInt8.toNat_ofNat']; omega
theorem mkF_form (k : Nat) (body r : List UInt8) : ∃ s0 s1 s2 s3, [s0, s1, s2, s3] = tail4 (crc [90, UInt8.ofNat k, UInt8.ofNat (body.length / 256), UInt8.ofNat body.length]) ∧
    mkF k body ++ r = 90 :: UInt8.ofNat k :: UInt8.ofNat (body.length / 256) :: UInt8.ofNat body.length :: s0 :: s1 :: s2 :: s3 :: (body ++ (tail4 (crc body) ++ r)) := by
  refine ⟨_, _, _, _, rfl, ?_⟩
  unfold mkF hdrL
  generalize crc [90, UInt8.ofNat k, UInt8.ofNat (body.length / 256), UInt8.ofNat body.length] = c
  simp [tail4]
theorem nx_mk (k : Nat) (body r : List UInt8) (hb : body.length ≤ 8192) : nxE (mkF k body ++ r) = 0 := by
  obtain ⟨s0, s1, s2, s3, hs, e⟩ := mkF_form k body r
  rw [e, nx_form, cnt_ok hb, if_neg (by simp), if_neg (by simp [hs]), if_neg (by omega), if_neg (by simp only [List.length_append, tail4_length]; omega), if_neg]
  rw [List.drop_left' rfl, List.take_left' rfl, List.take_left' (tail4_length _)]; simp
theorem cnt_mk (k : Nat) (body r : List UInt8) (hb : body.length ≤ 8192) : cntF (mkF k body ++ r) = body.length := by
  obtain ⟨s0, s1, s2, s3, hs, e⟩ := mkF_form k body r
  rw [e]; exact cnt_ok hb
theorem body_mk (k : Nat) (body r : List UInt8) (hb : body.length ≤ 8192) : ((mkF k body ++ r).drop 8).take (cntF (mkF k body ++ r)) = body := by
  rw [cnt_mk k body r hb]
  obtain ⟨s0, s1, s2, s3, hs, e⟩ := mkF_form k body r
  rw [e]
  simp only [List.drop_succ_cons, List.drop_zero]
  exact List.take_left' rfl
theorem rest_mk (k : Nat) (body r : List UInt8) : (mkF k body ++ r).drop (body.length + 12) = r := List.drop_left' (mkF_length k body)
theorem kind_mk (k : Nat) (body r : List UInt8) : (mkF k body ++ r).getD 1 0 = UInt8.ofNat k := rfl
theorem nx_cut (k : Nat) (body : List UInt8) (hb : body.length ≤ 8192) (j : Nat) (hj : j < body.length + 12) : nxE ((mkF k body).take j) = 10 := by
  by_cases h8 : j < 8
  · exact nx_short (by rw [List.length_take]; omega)
  · obtain ⟨s0, s1, s2, s3, hs, e⟩ := mkF_form k body []
    rw [List.append_nil, List.append_nil] at e
    obtain ⟨i, rfl⟩ : ∃ i, j = i + 8 := ⟨j - 8, by omega⟩
    rw [e]
    simp only [List.take_succ_cons]
    rw [nx_form, cnt_ok hb, if_neg (by simp), if_neg (by simp [hs]), if_neg (by omega), if_pos (by rw [List.length_take, List.length_append, tail4_length]; omega)]
theorem tail_ne {a b : List UInt8} (h : crc a ≠ crc b) : tail4 (crc a) ≠ tail4 (crc b) := fun e => h (tail4_inj (crc_lt a) (crc_lt b) e)
/-- one byte of a frame is another one -/
theorem nx_turn (k : Nat) (body : List UInt8) (hb : body.length ≤ 8192) (j : Nat) (hj : j < (mkF k body).length) (x : UInt8) (hx : x ≠ (mkF k body)[j]) : nxE ((mkF k body).set j x) = if j = 0 then 11 else 20 := by
  have hjl : j < body.length + 12 := by rw [mkF_length] at hj; exact hj
  obtain ⟨s0, s1, s2, s3, hs, e⟩ := mkF_form k body []
  rw [List.append_nil, List.append_nil] at e
  have hx' : (mkF k body)[j]? ≠ some x := by rw [List.getElem?_eq_getElem hj]; intro h; exact hx (Option.some.inj h).symm
  rw [e] at hx' ⊢
  generalize UInt8.ofNat k = a1 at *
  obtain ⟨n, hn⟩ : ∃ n, n = body.length := ⟨_, rfl⟩
  have hcn := cnt_ok hb
  generalize UInt8.ofNat (body.length / 256) = a2 at *
  generalize UInt8.ofNat body.length = a3 at *
  have hdr : ∀ i y, i < 4 → [90, a1, a2, a3][i]? ≠ some y → tail4 (crc ([90, a1, a2, a3].set i y)) ≠ tail4 (crc [90, a1, a2, a3]) := fun i y hi hy => tail_ne (crc_set (by simpa using hi) (fun e => hy (by rw [List.getElem?_eq_getElem (by simpa using hi), e])))
  match j, hx' with
  | 0, hx' =>
    rw [List.set_cons_zero, nx_form, if_pos (by simpa using fun e => hx' (by simp [e])), if_pos rfl]
  | 1, hx' =>
    have := hdr 1 x (by omega) (by simpa using hx')
    simp only [List.set_cons_succ, List.set_cons_zero] at this ⊢
    rw [nx_form, if_neg (by simp), if_pos (by rw [hs]; exact this.symm)]; rfl
  | 2, hx' =>
    have := hdr 2 x (by omega) (by simpa using hx')
    simp only [List.set_cons_succ, List.set_cons_zero] at this ⊢
    rw [nx_form, if_neg (by simp), if_pos (by rw [hs]; exact this.symm)]; rfl
  | 3, hx' =>
    have := hdr 3 x (by omega) (by simpa using hx')
    simp only [List.set_cons_succ, List.set_cons_zero] at this ⊢
    rw [nx_form, if_neg (by simp), if_pos (by rw [hs]; exact this.symm)]; rfl
  | 4, hx' =>
    simp only [List.set_cons_succ, List.set_cons_zero]
    rw [nx_form, if_neg (by simp), if_pos (by rw [← hs]; intro h; injection h with h; exact hx' (by simp [h]))]; rfl
  | 5, hx' =>
    simp only [List.set_cons_succ, List.set_cons_zero]
    rw [nx_form, if_neg (by simp), if_pos (by rw [← hs]; intro h; injection h with _ h; injection h with h; exact hx' (by simp [h]))]; rfl
  | 6, hx' =>
    simp only [List.set_cons_succ, List.set_cons_zero]
    rw [nx_form, if_neg (by simp), if_pos (by rw [← hs]; intro h; injection h with _ h; injection h with _ h; injection h with h; exact hx' (by simp [h]))]; rfl
  | 7, hx' =>
    simp only [List.set_cons_succ, List.set_cons_zero]
    rw [nx_form, if_neg (by simp), if_pos (by rw [← hs]; intro h; injection h with _ h; injection h with _ h; injection h with _ h; injection h with h; exact hx' (by simp [h]))]; rfl
  | i + 8, hx' =>
    simp only [List.set_cons_succ]
    simp only [List.getElem?_cons_succ] at hx'
    rw [if_neg (show ¬ i + 8 = 0 by omega), nx_form, hcn, if_neg (by simp), if_neg (by simp [hs]), if_neg (by omega), if_neg (by rw [List.length_set, List.length_append, tail4_length]; omega), if_pos]
    by_cases hi : i < body.length
    · rw [List.set_append_left _ _ hi, List.drop_left' (by rw [List.length_set]), List.take_left' (by rw [List.length_set]), List.take_of_length_le (by rw [tail4_length]; omega)]
      rw [List.getElem?_append_left hi] at hx'
      exact (tail_ne (crc_set hi (fun e => hx' (by rw [List.getElem?_eq_getElem hi, e])))).symm
    · rw [List.set_append_right _ _ (by omega), List.drop_left' rfl, List.take_left' rfl, List.take_of_length_le (by rw [List.length_set, tail4_length]; omega)]
      rw [List.getElem?_append_right (by omega)] at hx'
      intro h
      have h2 : i - body.length < (tail4 (crc body)).length := by rw [tail4_length]; omega
      apply hx'
      rw [← h, List.getElem?_set_self h2]
/-- where the frames of l end, if l begins at a -/
def whN : Nat → List UInt8 → Nat → List Int
  | 0, _, _ => []
  | f + 1, l, a => if nxE l = 0 then ((a + (cntF l + 12) : Nat) : Int) :: whN f (l.drop (cntF l + 12)) (a + (cntF l + 12)) else []
def wh (l : List UInt8) (a : Nat) : List Int := whN (l.length + 1) l a
theorem nx_ok_len {l : List UInt8} (h : nxE l = 0) : 8 ≤ l.length ∧ cntF l ≤ 8192 ∧ cntF l + 12 ≤ l.length := by
  unfold nxE at h
  repeat' (split at h; · exact absurd h (by decide))
  omega
theorem whN_fuel (f : Nat) : ∀ (g : Nat) (l : List UInt8) (a : Nat), l.length < f → l.length < g → whN f l a = whN g l a := by
  induction f with
  | zero => intro g l a h; omega
  | succ f ih =>
    intro g l a hf hg
    match g, hg with
    | g + 1, hg =>
      unfold whN
      by_cases h : nxE l = 0
      · have := nx_ok_len h
        rw [if_pos h, if_pos h, ih g _ _ (by rw [List.length_drop]; omega) (by rw [List.length_drop]; omega)]
      · rw [if_neg h, if_neg h]
theorem wh_step {l : List UInt8} (h : nxE l = 0) (a : Nat) : wh l a = ((a + (cntF l + 12) : Nat) : Int) :: wh (l.drop (cntF l + 12)) (a + (cntF l + 12)) := by
  have h2 := nx_ok_len h
  unfold wh
  conv => lhs; unfold whN
  rw [if_pos h, whN_fuel _ ((l.drop (cntF l + 12)).length + 1) _ _ (by rw [List.length_drop]; omega) (by omega)]
theorem wh_stop {l : List UInt8} (h : nxE l ≠ 0) (a : Nat) : wh l a = [] := by
  unfold wh whN
  rw [if_neg h]
theorem wh_mk (k : Nat) (body r : List UInt8) (hb : body.length ≤ 8192) (a : Nat) : wh (mkF k body ++ r) a = ((a + (body.length + 12) : Nat) : Int) :: wh r (a + (body.length + 12)) := by
  rw [wh_step (nx_mk k body r hb), cnt_mk k body r hb, rest_mk]
end Go.Proofs.YtfabcmohaikfoaaDoor
