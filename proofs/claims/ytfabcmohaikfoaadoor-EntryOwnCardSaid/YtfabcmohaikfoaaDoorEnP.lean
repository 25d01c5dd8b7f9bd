/- Plain theory of journal entries: what may be, what a kind names, the bytes, and what bytes are. -/
import Derived.Test.YtfabcmohaikfoaaDoorWireQ
import Derived.Test.YtfabcmohaikfoaaDoorWireG
import Derived.Test.YtfabcmohaikfoaaDoorFrP
namespace Go.Proofs.YtfabcmohaikfoaaDoor

/-- an entry: Seq, Owner, Kind, Off, Len, Snap, Data -/
structure En where
  s : Int
  o : Int
  k : Int
  f : Int
  l : Int
  p : Int
  d : List UInt8
theorem En.ext_of {a b : En} (h1 : a.s = b.s) (h2 : a.o = b.o) (h3 : a.k = b.k) (h4 : a.f = b.f) (h5 : a.l = b.l) (h6 : a.p = b.p) (h7 : a.d = b.d) : a = b := by
  cases a; cases b; simp_all
instance : DecidableEq En := fun a b =>
  if h : a.s = b.s ∧ a.o = b.o ∧ a.k = b.k ∧ a.f = b.f ∧ a.l = b.l ∧ a.p = b.p ∧ a.d = b.d then .isTrue (En.ext_of h.1 h.2.1 h.2.2.1 h.2.2.2.1 h.2.2.2.2.1 h.2.2.2.2.2.1 h.2.2.2.2.2.2)
  else .isFalse fun e => h (by subst e; exact ⟨rfl, rfl, rfl, rfl, rfl, rfl, rfl⟩)
/-- the zero entry -/
def en0 : En := ⟨0, 0, 0, 0, 0, 0, []⟩
/-- are the fields of the kind in their ranges? -/
def fitK (k f l p : Int) (n : Nat) : Prop :=
  (k = 1 ∧ (0 ≤ f ∧ f ≤ 512) ∧ 1 ≤ n ∧ n ≤ 128) ∨ (k = 2 ∧ (0 ≤ f ∧ f ≤ 512) ∧ 1 ≤ l ∧ l ≤ 512) ∨ (k = 3 ∧ 0 ≤ l ∧ l ≤ 512) ∨ k = 4 ∨ ((k = 5 ∨ k = 6) ∧ 1 ≤ p ∧ p ≤ 100)
instance (k f l p : Int) (n : Nat) : Decidable (fitK k f l p n) := by unfold fitK; infer_instance
def May7 (e : En) : Prop := (1 ≤ e.s ∧ e.s ≤ 1099511627776) ∧ (0 ≤ e.o ∧ e.o ≤ 7) ∧ fitK e.k e.f e.l e.p e.d.length
instance (e : En) : Decidable (May7 e) := by unfold May7; infer_instance
/-- the fields that the kind names -/
def cln7 (e : En) : En := ⟨e.s, e.o, e.k, if e.k = 1 ∨ e.k = 2 then e.f else 0, if e.k = 2 ∨ e.k = 3 then e.l else 0, if e.k = 5 ∨ e.k = 6 then e.p else 0, if e.k = 1 then e.d else []⟩
theorem may_kind {e : En} (h : May7 e) : 1 ≤ e.k ∧ e.k ≤ 6 := by
  obtain ⟨_, _, h⟩ := h
  unfold fitK at h
  omega
theorem may_cln {e : En} : May7 (cln7 e) ↔ May7 e := by
  unfold May7 fitK cln7
  dsimp only
  constructor
  · rintro ⟨h1, h2, h3⟩
    refine ⟨h1, h2, ?_⟩
    rcases h3 with ⟨k, a, b⟩ | ⟨k, a, b⟩ | ⟨k, a⟩ | k | ⟨k, a⟩
    · rw [if_pos (by omega)] at a; rw [if_pos k] at b; exact .inl ⟨k, a, b⟩
    · rw [if_pos (by omega)] at a; rw [if_pos (by omega)] at b; exact .inr (.inl ⟨k, a, b⟩)
    · rw [if_pos (by omega)] at a; exact .inr (.inr (.inl ⟨k, a⟩))
    · exact .inr (.inr (.inr (.inl k)))
    · rw [if_pos k] at a; exact .inr (.inr (.inr (.inr ⟨k, a⟩)))
  · rintro ⟨h1, h2, h3⟩
    refine ⟨h1, h2, ?_⟩
    rcases h3 with ⟨k, a, b⟩ | ⟨k, a, b⟩ | ⟨k, a⟩ | k | ⟨k, a⟩
    · exact .inl ⟨k, by rw [if_pos (by omega)]; exact a, by rw [if_pos k]; exact b⟩
    · exact .inr (.inl ⟨k, by rw [if_pos (by omega)]; exact a, by rw [if_pos (by omega)]; exact b⟩)
    · exact .inr (.inr (.inl ⟨k, by rw [if_pos (by omega)]; exact a⟩))
    · exact .inr (.inr (.inr (.inl k)))
    · exact .inr (.inr (.inr (.inr ⟨k, by rw [if_pos k]; exact a⟩)))
theorem cln_cln (e : En) : cln7 (cln7 e) = cln7 e := by
  unfold cln7
  dsimp only
  congr 1 <;> split <;> rfl
/-- the bytes of the body -/
def bod7 (e : En) : List UInt8 := numB 6 e.s ++ numB 1 e.o ++ numB 2 e.f ++ numB 2 e.l ++ numB 1 e.p ++ blobB e.d
/-- what Pack tells -/
def pack7 (e : En) : List UInt8 := if May7 e then mkF e.k.toNat (bod7 (cln7 e)) else []
theorem bod_len (e : En) (h : e.d.length ≤ 65535) : (bod7 e).length = 14 + e.d.length := by
  unfold bod7
  simp only [List.length_append, numB_length, blobB_length _ h]
  have h6 : fitW 6 = 6 := by decide
  have h1 : fitW 1 = 1 := by decide
  have h2 : fitW 2 = 2 := by decide
  omega
theorem cln_data {e : En} (h : May7 e) : (cln7 e).d.length ≤ 128 := by
  obtain ⟨_, _, h⟩ := h
  unfold fitK at h
  unfold cln7
  dsimp only
  split
  · omega
  · simp
theorem cln_bd {e : En} (h : May7 e) : (0 ≤ e.s ∧ e.s < 281474976710656) ∧ (0 ≤ e.o ∧ e.o < 256) ∧ (0 ≤ (cln7 e).f ∧ (cln7 e).f < 65536) ∧ (0 ≤ (cln7 e).l ∧ (cln7 e).l < 65536) ∧ (0 ≤ (cln7 e).p ∧ (cln7 e).p < 256) := by
  obtain ⟨h1, h2, h⟩ := h
  unfold fitK at h
  unfold cln7
  dsimp only
  refine ⟨by omega, by omega, ?_, ?_, ?_⟩ <;> split <;> omega

/-! ## What bytes are -/
def rN7 (s : List UInt8 × Int) (w : Int) : Int := (rdNum s.1 s.2 w).1
def rS7 (s : List UInt8 × Int) (w : Int) : List UInt8 × Int := (rdNum s.1 s.2 w).2
def rB7 (s : List UInt8 × Int) (m : Int) : List UInt8 := (rdBlob s.1 s.2 m).1
def rT7 (s : List UInt8 × Int) (m : Int) : List UInt8 × Int := (rdBlob s.1 s.2 m).2
/-- the reader behind the five numbers -/
def st7 (b : List UInt8) : List UInt8 × Int := rS7 (rS7 (rS7 (rS7 (rS7 (b, 0) 6) 1) 2) 2) 1
/-- the entry that a body is -/
def ofB7 (k : Int) (b : List UInt8) : En :=
  ⟨rN7 (b, 0) 6, rN7 (rS7 (b, 0) 6) 1, k, rN7 (rS7 (rS7 (b, 0) 6) 1) 2, rN7 (rS7 (rS7 (rS7 (b, 0) 6) 1) 2) 2, rN7 (rS7 (rS7 (rS7 (rS7 (b, 0) 6) 1) 2) 2) 1, rB7 (st7 b) 128⟩
/-- the error at a body's end -/
def ebE7 (b : List UInt8) : Int := endE (rT7 (st7 b) 128).2 (rT7 (st7 b) 128).1.length
def bodyF (b : List UInt8) : List UInt8 := (b.drop 8).take (cntF b)
def kindF (b : List UInt8) : Int := ((b.getD 1 0).toNat : Int)
/-- the error that Unpack tells, or 0 -/
def unE7 (b : List UInt8) : Int :=
  if nxE b ≠ 0 then nxE b else if b.length ≠ cntF b + 12 then 11 else if ebE7 (bodyF b) ≠ 0 then ebE7 (bodyF b)
  else if May7 (ofB7 (kindF b) (bodyF b)) ∧ cln7 (ofB7 (kindF b) (bodyF b)) = ofB7 (kindF b) (bodyF b) then 0 else 70
/-- the entry that Unpack tells -/
def un7 (b : List UInt8) : En := if unE7 b = 0 then ofB7 (kindF b) (bodyF b) else en0

theorem clampN_fit7 {f : Nat} {v : Int} (h0 : 0 ≤ v) (h1 : v < (256 : Int) ^ f) : (clampN f v : Int) = v := by unfold clampN; omega
theorem rdNum7 (wd v : Int) (r : List UInt8) (h0 : 0 ≤ v) (h1 : v < (256 : Int) ^ fitW wd) : rdNum (numB wd v ++ r) 0 wd = (v, r, 0) := by
  unfold rdNum
  have hl : (numB wd v).length = fitW wd := numB_length _ _
  have hd : (decB (numB wd v) : Int) = v := by
    rw [numB, decB_encB, Nat.mod_eq_of_lt (clampN_lt _ _)]
    exact clampN_fit7 h0 h1
  rw [if_neg (by simp), if_neg (by rw [List.length_append, hl]; omega), List.take_left' hl, List.drop_left' hl, hd]
theorem rN_back (wd v : Int) (r : List UInt8) (h0 : 0 ≤ v) (h1 : v < (256 : Int) ^ fitW wd) : rN7 (numB wd v ++ r, 0) wd = v := by unfold rN7; rw [rdNum7 wd v r h0 h1]
theorem rS_back (wd v : Int) (r : List UInt8) (h0 : 0 ≤ v) (h1 : v < (256 : Int) ^ fitW wd) : rS7 (numB wd v ++ r, 0) wd = (r, 0) := by unfold rS7; rw [rdNum7 wd v r h0 h1]
theorem rdBlob7 (x r : List UInt8) (hx : x.length ≤ 128) : rdBlob (blobB x ++ r) 0 128 = (x, r, 0) := by
  have hc := cnt_blob_cut x r (blobB x ++ r).length 128 (by omega) (by omega)
  rw [List.take_length, List.length_append, blobB_length x (by omega), if_neg (by omega)] at hc
  have e2 : decB ((blobB x ++ r).take 2) = x.length := by
    rw [blobB_eq x (by omega), List.append_assoc]
    exact decB_take_enc 2 x.length _ (by omega)
  unfold rdBlob
  rw [if_neg (by simp), if_neg (by simp [hc]), e2]
  rw [blobB_eq x (by omega), List.append_assoc, List.drop_left' (encB_length _ _), List.take_left' rfl, ← List.append_assoc, List.drop_left' (by rw [List.length_append, encB_length])]

theorem body_back (e : En) (k : Int) (hs : 0 ≤ e.s ∧ e.s < 281474976710656) (ho : 0 ≤ e.o ∧ e.o < 256) (hf : 0 ≤ e.f ∧ e.f < 65536) (hl : 0 ≤ e.l ∧ e.l < 65536) (hp : 0 ≤ e.p ∧ e.p < 256) (hd : e.d.length ≤ 128) :
    ofB7 k (bod7 e) = { e with k := k } ∧ ebE7 (bod7 e) = 0 := by
  have q : bod7 e = numB 6 e.s ++ (numB 1 e.o ++ (numB 2 e.f ++ (numB 2 e.l ++ (numB 1 e.p ++ (blobB e.d ++ []))))) := by unfold bod7; simp only [List.append_assoc, List.append_nil]
  have p1 := rS_back 6 e.s (numB 1 e.o ++ (numB 2 e.f ++ (numB 2 e.l ++ (numB 1 e.p ++ (blobB e.d ++ []))))) hs.1 hs.2
  have p2 := rS_back 1 e.o (numB 2 e.f ++ (numB 2 e.l ++ (numB 1 e.p ++ (blobB e.d ++ [])))) ho.1 ho.2
  have p3 := rS_back 2 e.f (numB 2 e.l ++ (numB 1 e.p ++ (blobB e.d ++ []))) hf.1 hf.2
  have p4 := rS_back 2 e.l (numB 1 e.p ++ (blobB e.d ++ [])) hl.1 hl.2
  have p5 := rS_back 1 e.p (blobB e.d ++ []) hp.1 hp.2
  have q1 := rN_back 6 e.s (numB 1 e.o ++ (numB 2 e.f ++ (numB 2 e.l ++ (numB 1 e.p ++ (blobB e.d ++ []))))) hs.1 hs.2
  have q2 := rN_back 1 e.o (numB 2 e.f ++ (numB 2 e.l ++ (numB 1 e.p ++ (blobB e.d ++ [])))) ho.1 ho.2
  have q3 := rN_back 2 e.f (numB 2 e.l ++ (numB 1 e.p ++ (blobB e.d ++ []))) hf.1 hf.2
  have q4 := rN_back 2 e.l (numB 1 e.p ++ (blobB e.d ++ [])) hl.1 hl.2
  have q5 := rN_back 1 e.p (blobB e.d ++ []) hp.1 hp.2
  have hb := rdBlob7 e.d [] hd
  have hst : st7 (bod7 e) = (blobB e.d ++ [], 0) := by
    unfold st7
    rw [q, p1, p2, p3, p4, p5]
  constructor
  · unfold ofB7
    rw [hst, q, p1, p2, p3, p4, q1, q2, q3, q4, q5]
    unfold rB7
    rw [hb]
  · unfold ebE7 rT7
    rw [hst, hb]
    rfl

theorem kind_back {e : En} (h : May7 e) : ((UInt8.ofNat e.k.toNat).toNat : Int) = e.k := by
  have := may_kind h
  rw [UInt8.toNat_ofNat']
  omega
theorem pack_len {e : En} (h : May7 e) : (bod7 (cln7 e)).length ≤ 142 := by
  have := cln_data h
  rw [bod_len _ (by omega)]
  omega
/-- what is packed is unpacked, without what the kind doesn't name -/
theorem un_pack {e : En} (h : May7 e) : unE7 (pack7 e) = 0 ∧ un7 (pack7 e) = cln7 e := by
  have hl := pack_len h
  have hx : nxE (pack7 e) = 0 := by unfold pack7; rw [if_pos h]; have := nx_mk e.k.toNat (bod7 (cln7 e)) [] (by omega); rwa [List.append_nil] at this
  have hc : cntF (pack7 e) = (bod7 (cln7 e)).length := by unfold pack7; rw [if_pos h]; have := cnt_mk e.k.toNat (bod7 (cln7 e)) [] (by omega); rwa [List.append_nil] at this
  have hn : (pack7 e).length = (bod7 (cln7 e)).length + 12 := by unfold pack7; rw [if_pos h]; exact mkF_length _ _
  have hb : bodyF (pack7 e) = bod7 (cln7 e) := by unfold bodyF pack7; rw [if_pos h]; have := body_mk e.k.toNat (bod7 (cln7 e)) [] (by omega); rwa [List.append_nil] at this
  have hk : kindF (pack7 e) = e.k := by
    unfold kindF pack7
    rw [if_pos h]
    exact kind_back h
  obtain ⟨b1, b2, b3, b4, b5⟩ := cln_bd h
  obtain ⟨r1, r2⟩ := body_back (cln7 e) e.k b1 b2 b3 b4 b5 (cln_data h)
  have r1' : ofB7 e.k (bod7 (cln7 e)) = cln7 e := r1
  have h0 : unE7 (pack7 e) = 0 := by
    unfold unE7
    rw [if_neg (by rw [hx]; simp), if_neg (by rw [hn, hc]; simp), hb, if_neg (by rw [r2]; simp), hk, r1', if_pos ⟨may_cln.2 h, cln_cln e⟩]
  refine ⟨h0, ?_⟩
  unfold un7
  rw [if_pos h0, hb, hk, r1']
theorem pack_cln {e : En} (h : May7 e) : pack7 (cln7 e) = pack7 e := by
  unfold pack7
  rw [if_pos (may_cln.2 h), if_pos h, cln_cln]
  rfl
theorem un_cut {e : En} (h : May7 e) (j : Nat) (hj : j < (pack7 e).length) : unE7 ((pack7 e).take j) = 10 := by
  have hl := pack_len h
  unfold pack7 at hj ⊢
  rw [if_pos h] at hj ⊢
  rw [mkF_length] at hj
  have := nx_cut e.k.toNat (bod7 (cln7 e)) (by omega) j hj
  unfold unE7
  rw [this, if_pos (by decide)]
theorem un_more {e : En} (h : May7 e) (x : UInt8) : unE7 (pack7 e ++ [x]) = 11 := by
  have hl := pack_len h
  unfold pack7
  rw [if_pos h]
  have h1 := nx_mk e.k.toNat (bod7 (cln7 e)) [x] (by omega)
  have h2 := cnt_mk e.k.toNat (bod7 (cln7 e)) [x] (by omega)
  unfold unE7
  rw [if_neg (by rw [h1]; simp), if_pos (by rw [h2, List.length_append, mkF_length]; simp)]
theorem un_turn {e : En} (h : May7 e) (j : Nat) (hj : j < (pack7 e).length) (x : UInt8) (hx : x ≠ (pack7 e)[j]) : unE7 ((pack7 e).set j x) = 20 ∨ unE7 ((pack7 e).set j x) = 11 := by
  have hl := pack_len h
  have hp : pack7 e = mkF e.k.toNat (bod7 (cln7 e)) := by unfold pack7; rw [if_pos h]
  have key : ∀ l, l = mkF e.k.toNat (bod7 (cln7 e)) → ∀ (hj : j < l.length), x ≠ l[j] → nxE (l.set j x) = if j = 0 then 11 else 20 := fun l e1 hj hx => by
    subst e1
    exact nx_turn _ _ (by omega) j hj x hx
  have := key _ hp hj hx
  unfold unE7
  rw [this]
  by_cases h0 : j = 0
  · rw [if_pos h0, if_pos (by decide)]; exact .inr rfl
  · rw [if_neg h0, if_pos (by decide)]; exact .inl rfl
theorem un_no {b : List UInt8} (h : unE7 b ≠ 0) : un7 b = en0 := by unfold un7; rw [if_neg h]

/-! ## What is unpacked has just these bytes -/
theorem decB_inj7 : ∀ (l m : List UInt8), l.length = m.length → decB l = decB m → l = m
  | [], [], _, _ => rfl
  | a :: l, b :: m, hl, h => by
    have hl' : l.length = m.length := by simpa using hl
    rw [decB_cons, decB_cons, hl'] at h
    have h1 := decB_lt l
    have h2 := decB_lt m
    rw [hl'] at h1
    have hp : 0 < 256 ^ m.length := Nat.pow_pos (by decide)
    have e1 : a.toNat = b.toNat := by
      have q : (a.toNat * 256 ^ m.length + decB l) / 256 ^ m.length = (b.toNat * 256 ^ m.length + decB m) / 256 ^ m.length := by rw [h]
      rwa [Nat.add_comm, Nat.add_mul_div_right _ _ hp, Nat.div_eq_of_lt h1, Nat.add_comm (b.toNat * _), Nat.add_mul_div_right _ _ hp, Nat.div_eq_of_lt h2, Nat.zero_add, Nat.zero_add] at q
    have e2 : decB l = decB m := by rw [e1] at h; omega
    rw [decB_inj7 l m hl' e2, UInt8.toNat_inj.1 e1]
theorem encB_decB7 (l : List UInt8) : encB l.length (decB l) = l :=
  decB_inj7 _ _ (encB_length _ _) (by rw [decB_encB, Nat.mod_eq_of_lt (decB_lt l)])
theorem clampN_nat7 {f d : Nat} (h : d < 256 ^ f) : clampN f (d : Int) = d := by
  have : (clampN f (d : Int) : Int) = d := clampN_fit7 (by omega) (by
    have e : ((256 : Int)) ^ f = ((256 ^ f : Nat) : Int) := by simp
    rw [e]; omega)
  omega
theorem rS_inv {s : List UInt8 × Int} {w : Int} (h : (rS7 s w).2 = 0) : s.2 = 0 ∧ s.1 = numB w (rN7 s w) ++ (rS7 s w).1 := by
  unfold rS7 rN7 rdNum at *
  by_cases h1 : s.2 ≠ 0
  · rw [if_pos h1] at h
    exact absurd h h1
  · rw [if_neg h1] at h ⊢
    by_cases h2 : s.1.length < fitW w
    · rw [if_pos h2] at h
      exact absurd (show (10 : Int) = 0 from h) (by decide)
    · rw [if_neg h2]
      refine ⟨Classical.not_not.1 h1, ?_⟩
      have hl : (s.1.take (fitW w)).length = fitW w := by rw [List.length_take]; omega
      have e : numB w (decB (s.1.take (fitW w)) : Int) = s.1.take (fitW w) := by
        unfold numB
        rw [clampN_nat7 (by have := decB_lt (s.1.take (fitW w)); rwa [hl] at this)]
        have := encB_decB7 (s.1.take (fitW w))
        rwa [hl] at this
      show s.1 = numB w (decB (s.1.take (fitW w)) : Int) ++ s.1.drop (fitW w)
      rw [e, List.take_append_drop]
theorem rT_inv {s : List UInt8 × Int} (h : (rT7 s 128).2 = 0) : s.2 = 0 ∧ s.1 = blobB (rB7 s 128) ++ (rT7 s 128).1 := by
  unfold rT7 rB7 rdBlob at *
  by_cases h1 : s.2 ≠ 0
  · rw [if_pos h1] at h
    exact absurd h h1
  · rw [if_neg h1] at h ⊢
    by_cases h2 : cntE s.1 2 1 128 ≠ 0
    · rw [if_pos h2] at h
      exact absurd h h2
    · rw [if_neg h2]
      refine ⟨Classical.not_not.1 h1, ?_⟩
      obtain ⟨c1, c2, c3⟩ := cntE_0 (Classical.not_not.1 h2)
      rw [Nat.mul_one] at c3
      show s.1 = blobB ((s.1.drop 2).take (decB (s.1.take 2))) ++ s.1.drop (2 + decB (s.1.take 2))
      have hl : ((s.1.drop 2).take (decB (s.1.take 2))).length = decB (s.1.take 2) := by rw [List.length_take, List.length_drop]; omega
      have ht : (s.1.take 2).length = 2 := by rw [List.length_take]; omega
      rw [blobB_eq _ (by rw [hl]; omega), hl]
      have e2 := encB_decB7 (s.1.take 2)
      rw [ht] at e2
      rw [e2, List.append_assoc, ← List.drop_drop, List.take_append_drop, List.take_append_drop]
theorem body_inv {b : List UInt8} (k : Int) (h : ebE7 b = 0) : bod7 (ofB7 k b) = b := by
  unfold ebE7 endE at h
  by_cases hq : (rT7 (st7 b) 128).2 = 0 ∧ 0 < (rT7 (st7 b) 128).1.length
  · rw [if_pos hq] at h; exact absurd h (by decide)
  · rw [if_neg hq] at h
    have hnil : (rT7 (st7 b) 128).1 = [] := List.eq_nil_of_length_eq_zero (by
      rcases Nat.eq_zero_or_pos (rT7 (st7 b) 128).1.length with z | z
      · exact z
      · exact absurd ⟨h, z⟩ hq)
    obtain ⟨i1, i2⟩ := rT_inv h
    rw [hnil, List.append_nil] at i2
    have hst : st7 b = rS7 (rS7 (rS7 (rS7 (rS7 (b, 0) 6) 1) 2) 2) 1 := rfl
    rw [hst] at i1
    obtain ⟨l1, l2⟩ := rS_inv i1
    obtain ⟨m1, m2⟩ := rS_inv l1
    obtain ⟨n1, n2⟩ := rS_inv m1
    obtain ⟨o1, o2⟩ := rS_inv n1
    obtain ⟨p1, p2⟩ := rS_inv o1
    rw [← hst] at l2
    unfold bod7 ofB7
    dsimp only
    simp only [List.append_assoc]
    rw [← i2, ← l2, ← m2, ← n2, ← o2]
    exact p2.symm
theorem mk_of_next {b : List UInt8} (h : nxE b = 0) (hn : b.length = cntF b + 12) : mkF (b.getD 1 0).toNat (bodyF b) = b := by
  have h8 : 8 ≤ b.length := by
    rcases Nat.lt_or_ge b.length 8 with q | q
    · rw [nx_short q] at h; exact absurd h (by decide)
    · exact q
  match b, h8, h, hn with
  | a0 :: a1 :: a2 :: a3 :: s0 :: s1 :: s2 :: s3 :: t, _, h, hn =>
    rw [nx_form] at h
    by_cases g0 : a0 ≠ 90
    · rw [if_pos g0] at h; exact absurd h (by decide)
    · rw [if_neg g0] at h
      by_cases g1 : [s0, s1, s2, s3] ≠ tail4 (crc [a0, a1, a2, a3])
      · rw [if_pos g1] at h; exact absurd h (by decide)
      · rw [if_neg g1] at h
        by_cases g2 : 8192 < 256 * a2.toNat + a3.toNat
        · rw [if_pos g2] at h; exact absurd h (by decide)
        · rw [if_neg g2] at h
          by_cases g3 : t.length < 256 * a2.toNat + a3.toNat + 4
          · rw [if_pos g3] at h; exact absurd h (by decide)
          · rw [if_neg g3] at h
            by_cases g4 : (t.drop (256 * a2.toNat + a3.toNat)).take 4 ≠ tail4 (crc (t.take (256 * a2.toNat + a3.toNat)))
            · rw [if_pos g4] at h; exact absurd h (by decide)
            · have e0 : a0 = 90 := Classical.not_not.1 g0
              have e1 := Classical.not_not.1 g1
              have e4 := Classical.not_not.1 g4
              have hc : cntF (a0 :: a1 :: a2 :: a3 :: s0 :: s1 :: s2 :: s3 :: t) = 256 * a2.toNat + a3.toNat := rfl
              rw [hc] at hn
              have hb : bodyF (a0 :: a1 :: a2 :: a3 :: s0 :: s1 :: s2 :: s3 :: t) = t.take (256 * a2.toNat + a3.toNat) := by
                unfold bodyF; rw [hc]; rfl
              have ht : t.length = 256 * a2.toNat + a3.toNat + 4 := by simp only [List.length_cons] at hn; omega
              rw [hb]
              have hl : (t.take (256 * a2.toNat + a3.toNat)).length = 256 * a2.toNat + a3.toNat := by rw [List.length_take]; omega
              have u2 := a2.toNat_lt
              have u3 := a3.toNat_lt
              have f1 : UInt8.ofNat a1.toNat = a1 := UInt8.toNat_inj.1 (by rw [UInt8.toNat_ofNat']; have := a1.toNat_lt; omega)
              have f2 : UInt8.ofNat ((256 * a2.toNat + a3.toNat) / 256) = a2 := UInt8.toNat_inj.1 (by rw [UInt8.toNat_ofNat']; omega)
              have f3 : UInt8.ofNat (256 * a2.toNat + a3.toNat) = a3 := UInt8.toNat_inj.1 (by rw [UInt8.toNat_ofNat']; omega)
              unfold mkF hdrL
              rw [hl, f2, f3, show (a0 :: a1 :: a2 :: a3 :: s0 :: s1 :: s2 :: s3 :: t).getD 1 0 = a1 from rfl, f1]
              subst e0
              rw [← e1, ← e4, List.take_of_length_le (l := t.drop (256 * a2.toNat + a3.toNat)) (by rw [List.length_drop]; omega), List.take_append_drop]
              rfl
/-- bytes that are an entry's are what it packs to -/
theorem un_inv {b : List UInt8} (h : unE7 b = 0) : May7 (un7 b) ∧ pack7 (un7 b) = b := by
  have hu : un7 b = ofB7 (kindF b) (bodyF b) := by unfold un7; rw [if_pos h]
  unfold unE7 at h
  by_cases h1 : nxE b ≠ 0
  · rw [if_pos h1] at h; exact absurd h h1
  · rw [if_neg h1] at h
    by_cases h2 : b.length ≠ cntF b + 12
    · rw [if_pos h2] at h; exact absurd h (by decide)
    · rw [if_neg h2] at h
      by_cases h3 : ebE7 (bodyF b) ≠ 0
      · rw [if_pos h3] at h; exact absurd h h3
      · rw [if_neg h3] at h
        by_cases h4 : May7 (ofB7 (kindF b) (bodyF b)) ∧ cln7 (ofB7 (kindF b) (bodyF b)) = ofB7 (kindF b) (bodyF b)
        · rw [hu]
          refine ⟨h4.1, ?_⟩
          unfold pack7
          rw [if_pos h4.1, h4.2, body_inv _ (Classical.not_not.1 h3)]
          exact mk_of_next (Classical.not_not.1 h1) (Classical.not_not.1 h2)
        · rw [if_neg h4] at h; exact absurd h (by decide)
theorem un_cln {b : List UInt8} : cln7 (un7 b) = un7 b := by
  by_cases h : unE7 b = 0
  · have hu : un7 b = ofB7 (kindF b) (bodyF b) := by unfold un7; rw [if_pos h]
    rw [hu]
    unfold unE7 at h
    by_cases h1 : nxE b ≠ 0
    · rw [if_pos h1] at h; exact absurd h h1
    · rw [if_neg h1] at h
      by_cases h2 : b.length ≠ cntF b + 12
      · rw [if_pos h2] at h; exact absurd h (by decide)
      · rw [if_neg h2] at h
        by_cases h3 : ebE7 (bodyF b) ≠ 0
        · rw [if_pos h3] at h; exact absurd h h3
        · rw [if_neg h3] at h
          by_cases h4 : May7 (ofB7 (kindF b) (bodyF b)) ∧ cln7 (ofB7 (kindF b) (bodyF b)) = ofB7 (kindF b) (bodyF b)
          · exact h4.2
          · rw [if_neg h4] at h; exact absurd h (by decide)
  · rw [un_no h]; rfl
end Go.Proofs.YtfabcmohaikfoaaDoor
