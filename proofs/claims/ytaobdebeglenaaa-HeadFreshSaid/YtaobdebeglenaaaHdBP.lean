/- Plain facts: a head's bytes are read again as it was; cut short, or with more behind, they are none; what is read has just these bytes. -/
import Derived.Test.YtaobdebeglenaaaHdU
import Derived.Test.YtaobdebeglenaaaMf
namespace Go.Proofs.Ytaobdebeglenaaa

theorem clampN_fit {f : Nat} {v : Int} (h0 : 0 ≤ v) (h1 : v < (256 : Int) ^ f) : (clampN f v : Int) = v := by unfold clampN; omega
theorem rdNumG (wd v : Int) (r : List UInt8) (h0 : 0 ≤ v) (h1 : v < (256 : Int) ^ fitW wd) : rdNum (numB wd v ++ r) 0 wd = (v, r, 0) := by
  unfold rdNum
  have hl : (numB wd v).length = fitW wd := numB_length _ _
  have hd : (decB (numB wd v) : Int) = v := by
    rw [numB, decB_encB, Nat.mod_eq_of_lt (clampN_lt _ _)]
    exact clampN_fit h0 h1
  rw [if_neg (by simp), if_neg (by rw [List.length_append, hl]; omega), List.take_left' hl, List.drop_left' hl, hd]
theorem hN_back (wd v : Int) (r : List UInt8) (h0 : 0 ≤ v) (h1 : v < (256 : Int) ^ fitW wd) : hN (numB wd v ++ r, 0) wd = v := by unfold hN; rw [rdNumG wd v r h0 h1]
theorem hS_back (wd v : Int) (r : List UInt8) (h0 : 0 ≤ v) (h1 : v < (256 : Int) ^ fitW wd) : hS (numB wd v ++ r, 0) wd = (r, 0) := by unfold hS; rw [rdNumG wd v r h0 h1]
theorem rdBlobG (x r : List UInt8) (hx : x.length ≤ 200) : rdBlob (blobB x ++ r) 0 200 = (x, r, 0) := by
  have hc := cnt_blob_cut x r (blobB x ++ r).length 200 (by omega) (by omega)
  rw [List.take_length, List.length_append, blobB_length x (by omega), if_neg (by omega)] at hc
  have e2 : decB ((blobB x ++ r).take 2) = x.length := by
    rw [blobB_eq x (by omega), List.append_assoc]
    exact decB_take_enc 2 x.length _ (by omega)
  unfold rdBlob
  rw [if_neg (by simp), if_neg (by simp [hc]), e2]
  rw [blobB_eq x (by omega), List.append_assoc, List.drop_left' (encB_length _ _), List.take_left' rfl, ← List.append_assoc, List.drop_left' (by rw [List.length_append, encB_length])]
theorem packO_le (m : List Int) : (packO m).length ≤ 200 := by
  unfold packO
  rw [packR_len]
  have := rowO_len m
  omega
theorem rdTabG (m : List Int) (hm : IsRow m) (r : List UInt8) : rdTab (blobB (packO m) ++ r) 0 = (m, r, 0) := by
  unfold rdTab
  rw [rdBlobG _ _ (packO_le m), packO_self hm]
  dsimp only
  rw [if_neg (by simp), unO_pack hm]
theorem tM_back (m : List Int) (hm : IsRow m) (r : List UInt8) : tM (blobB (packO m) ++ r, 0) = m := by unfold tM; rw [rdTabG m hm r]
theorem tS_back (m : List Int) (hm : IsRow m) (r : List UInt8) : tS (blobB (packO m) ++ r, 0) = (r, 0) := by unfold tS; rw [rdTabG m hm r]
theorem tS_cut (m : List Int) (k : Nat) (hk : k < (blobB (packO m)).length) : (tS ((blobB (packO m)).take k, 0)).2 = 10 := by
  have hl := packO_le m
  have hc := cnt_blob_cut (packO m) [] k 200 (by omega) (by omega)
  rw [List.append_nil, if_pos (by rw [blobB_length _ (by omega)] at hk; omega)] at hc
  unfold tS rdTab rdBlob
  rw [hc]
  simp
theorem hS_short (wd : Int) (l : List UInt8) (h : l.length < fitW wd) : hS (l, 0) wd = (l, 10) := by unfold hS rdNum; simp [h]
theorem hS_err (wd : Int) (s : List UInt8 × Int) (h : s.2 ≠ 0) : hS s wd = s := by unfold hS rdNum; simp [h]

/-- a snapshot whose parts fit into their bytes -/
def OkSn (s : Sn) : Prop := 0 ≤ s.id ∧ s.id < 256 ∧ 0 ≤ s.size ∧ s.size < 65536 ∧ IsRow s.map
theorem sS_back (s : Sn) (h : OkSn s) (r : List UInt8) : sS (snB s ++ r, 0) = (r, 0) ∧ sV (snB s ++ r, 0) = s := by
  obtain ⟨h1, h2, h3, h4, h5⟩ := h
  have e : snB s ++ r = numB 1 s.id ++ (numB 2 s.size ++ (blobB (packO s.map) ++ r)) := by unfold snB; simp only [List.append_assoc]
  unfold sS sV
  rw [e, hN_back 1 _ _ h1 h2, hS_back 1 _ _ h1 h2, hN_back 2 _ _ h3 h4, hS_back 2 _ _ h3 h4, tM_back _ h5, tS_back _ h5]
  exact ⟨rfl, rfl⟩
theorem goN_back : ∀ (ss : List Sn) (r : List UInt8) (a : List Sn), (∀ s ∈ ss, OkSn s) → goN ss.length (ss.flatMap snB ++ r, 0) a = (a ++ ss, (r, 0))
  | [], r, a, _ => by simp [goN]
  | s :: ss, r, a, h => by
    show goN (ss.length + 1) _ _ = _
    obtain ⟨e1, e2⟩ := sS_back s (h s (by simp)) (ss.flatMap snB ++ r)
    unfold goN
    rw [if_pos rfl, show (s :: ss).flatMap snB ++ r = snB s ++ (ss.flatMap snB ++ r) by simp, e1, e2, goN_back ss r _ (fun t ht => h t (by simp [ht]))]
    simp
theorem sS_cut (s : Sn) (h : OkSn s) : (sS ((snB s).take ((snB s).length - 1), 0)).2 = 10 := by
  obtain ⟨h1, h2, h3, h4, h5⟩ := h
  have hb : 0 < (blobB (packO s.map)).length := by rw [blobB_length _ (by have := packO_le s.map; omega)]; omega
  have e : (snB s).take ((snB s).length - 1) = numB 1 s.id ++ (numB 2 s.size ++ (blobB (packO s.map)).take ((blobB (packO s.map)).length - 1)) := by
    unfold snB
    rw [List.append_assoc, List.length_append, List.length_append, List.take_append, List.take_of_length_le (by omega), List.take_append, List.take_of_length_le (by omega)]
    congr 3
    omega
  unfold sS
  rw [e, hS_back 1 _ _ h1 h2, hS_back 2 _ _ h3 h4]
  exact tS_cut _ _ (by omega)
theorem goN_cut (t : Sn) (ht : OkSn t) : ∀ (ss : List Sn) (a : List Sn), (∀ s ∈ ss, OkSn s) → (goN (ss.length + 1) (ss.flatMap snB ++ (snB t).take ((snB t).length - 1), 0) a).2.2 = 10
  | [], a, _ => by
    unfold goN
    rw [if_pos rfl]
    unfold goN
    simpa using sS_cut t ht
  | s :: ss, a, h => by
    obtain ⟨e1, _⟩ := sS_back s (h s (by simp)) (ss.flatMap snB ++ (snB t).take ((snB t).length - 1))
    show (goN (ss.length + 1 + 1) _ _).2.2 = _
    rw [goN]
    rw [if_pos rfl, show (s :: ss).flatMap snB ++ (snB t).take ((snB t).length - 1) = snB s ++ (ss.flatMap snB ++ (snB t).take ((snB t).length - 1)) by simp, e1]
    exact goN_cut t ht ss _ (fun u hu => h u (by simp [hu]))

/-- the fields of a head ahead of the snapshots' number fit -/
def OkHd (h : Hd) : Prop := (0 ≤ h.u ∧ h.u < 256) ∧ (0 ≤ h.c ∧ h.c < 256) ∧ (0 ≤ h.o ∧ h.o < 256) ∧ (0 ≤ h.last ∧ h.last < 256) ∧ (0 ≤ h.size ∧ h.size < 65536) ∧ (0 ≤ h.seq ∧ h.seq < 281474976710656) ∧ IsRow h.map
def topB (h : Hd) : List UInt8 := numB 1 h.u ++ numB 1 h.c ++ numB 1 h.o ++ numB 1 h.last ++ numB 2 h.size ++ numB 6 h.seq ++ blobB (packO h.map)
theorem top_back (h : Hd) (k : OkHd h) (r : List UInt8) : s7 (topB h ++ r) = (r, 0) ∧
    (unHd (topB h ++ r)) = { h with snaps := (unG (topB h ++ r)).1 } := by
  obtain ⟨⟨a1, a2⟩, ⟨b1, b2⟩, ⟨c1, c2⟩, ⟨d1, d2⟩, ⟨e1, e2⟩, ⟨f1, f2⟩, g⟩ := k
  have e : topB h ++ r = numB 1 h.u ++ (numB 1 h.c ++ (numB 1 h.o ++ (numB 1 h.last ++ (numB 2 h.size ++ (numB 6 h.seq ++ (blobB (packO h.map) ++ r)))))) := by unfold topB; simp only [List.append_assoc]
  have p1 := hS_back 1 h.u (numB 1 h.c ++ (numB 1 h.o ++ (numB 1 h.last ++ (numB 2 h.size ++ (numB 6 h.seq ++ (blobB (packO h.map) ++ r)))))) a1 a2
  have p2 := hS_back 1 h.c (numB 1 h.o ++ (numB 1 h.last ++ (numB 2 h.size ++ (numB 6 h.seq ++ (blobB (packO h.map) ++ r))))) b1 b2
  have p3 := hS_back 1 h.o (numB 1 h.last ++ (numB 2 h.size ++ (numB 6 h.seq ++ (blobB (packO h.map) ++ r)))) c1 c2
  have p4 := hS_back 1 h.last (numB 2 h.size ++ (numB 6 h.seq ++ (blobB (packO h.map) ++ r))) d1 d2
  have p5 := hS_back 2 h.size (numB 6 h.seq ++ (blobB (packO h.map) ++ r)) e1 e2
  have p6 := hS_back 6 h.seq (blobB (packO h.map) ++ r) f1 f2
  have q1 := hN_back 1 h.u (numB 1 h.c ++ (numB 1 h.o ++ (numB 1 h.last ++ (numB 2 h.size ++ (numB 6 h.seq ++ (blobB (packO h.map) ++ r)))))) a1 a2
  have q2 := hN_back 1 h.c (numB 1 h.o ++ (numB 1 h.last ++ (numB 2 h.size ++ (numB 6 h.seq ++ (blobB (packO h.map) ++ r))))) b1 b2
  have q3 := hN_back 1 h.o (numB 1 h.last ++ (numB 2 h.size ++ (numB 6 h.seq ++ (blobB (packO h.map) ++ r)))) c1 c2
  have q4 := hN_back 1 h.last (numB 2 h.size ++ (numB 6 h.seq ++ (blobB (packO h.map) ++ r))) d1 d2
  have q5 := hN_back 2 h.size (numB 6 h.seq ++ (blobB (packO h.map) ++ r)) e1 e2
  have q6 := hN_back 6 h.seq (blobB (packO h.map) ++ r) f1 f2
  constructor
  · unfold s7
    rw [e, p1, p2, p3, p4, p5, p6]
    exact tS_back _ g r
  · generalize hG : (unG (topB h ++ r)).1 = G
    unfold unHd
    rw [hG, e, p1, p2, p3, p4, p5, p6, q1, q2, q3, q4, q5, q6, tM_back _ g r]
theorem packH_top (h : Hd) : packH h = topB h ++ (numB 1 h.snaps.length ++ h.snaps.flatMap snB) := by
  unfold packH headB topB
  simp only [List.append_assoc]
theorem ok_of {h : Hd} (k : MayH h) : OkHd h ∧ (∀ s ∈ h.snaps, OkSn s) := by
  obtain ⟨h1, h2, h3, h4, h5, h6⟩ := k
  obtain ⟨g1, g2, g3, g4⟩ := h2
  have key : ∀ (l : List Sn) (a : Int), 0 ≤ a → snsP h.u h.c h.o h.last a l → ∀ s ∈ l, OkSn s := by
    intro l
    induction l with
    | nil => intro a _ _ s hs; simp at hs
    | cons x l ih =>
      intro a ha hp s hs
      obtain ⟨p1, p2, ⟨p3, p4, p5, _⟩, p6⟩ := hp
      rcases List.mem_cons.1 hs with rfl | hs
      · exact ⟨by omega, by omega, p3, by omega, p5⟩
      · exact ih x.id (by omega) p6 s hs
  refine ⟨?_, key _ 0 (Int.le_refl _) h6⟩
  unfold Lay at h1
  exact ⟨by omega, by omega, by omega, ⟨h4.1, by omega⟩, ⟨g1, by omega⟩, ⟨h5.1, by omega⟩, g3⟩
/-- what was packed is read, and what stands behind it is left -/
theorem pack_read {h : Hd} (k : MayH h) (r : List UInt8) : unG (packH h ++ r) = (h.snaps, (r, 0)) ∧ unHd (packH h ++ r) = h := by
  obtain ⟨k1, k2⟩ := ok_of k
  have hn : h.snaps.length ≤ 4 := k.2.2.1
  have e : packH h ++ r = topB h ++ (numB 1 h.snaps.length ++ (h.snaps.flatMap snB ++ r)) := by rw [packH_top]; simp only [List.append_assoc]
  obtain ⟨t1, t2⟩ := top_back h k1 (numB 1 h.snaps.length ++ (h.snaps.flatMap snB ++ r))
  have hg : unG (packH h ++ r) = (h.snaps, (r, 0)) := by
    rw [e]
    unfold unG s9
    rw [t1, hN_back 1 _ _ (by omega) (by show (h.snaps.length : Int) < 256; omega), hS_back 1 _ _ (by omega) (by show (h.snaps.length : Int) < 256; omega), if_neg (by omega), Int.toNat_natCast, goN_back _ _ _ k2]
    rfl
  refine ⟨hg, ?_⟩
  rw [e] at hg ⊢
  rw [t2, hg]
theorem unE_pack {h : Hd} (k : MayH h) : unE (packH h) = 0 ∧ unHd (packH h) = h := by
  obtain ⟨h1, h2⟩ := pack_read k []
  rw [List.append_nil] at h1 h2
  refine ⟨?_, h2⟩
  unfold unE unE0
  rw [h1, h2]
  simp [endE, k]
theorem unE_more {h : Hd} (k : MayH h) (x : UInt8) : unE (packH h ++ [x]) = 11 := by
  obtain ⟨h1, h2⟩ := pack_read k [x]
  unfold unE unE0
  rw [h1]
  simp [endE]
theorem unE_cut {h : Hd} (k : MayH h) : unE ((packH h).take ((packH h).length - 1)) = 10 := by
  obtain ⟨k1, k2⟩ := ok_of k
  have hn : h.snaps.length ≤ 4 := k.2.2.1
  have key : unE0 ((packH h).take ((packH h).length - 1)) = 10 := by
    rw [packH_top]
    have hl1 : (numB 1 (h.snaps.length : Int)).length = 1 := numB_length _ _
    rcases List.eq_nil_or_concat h.snaps with e | ⟨ss, t, e⟩
    · rw [e, List.flatMap_nil, List.append_nil, List.length_append, List.take_append, List.take_of_length_le (by rw [e] at hl1; omega)]
      rw [show (topB h).length + (numB 1 (([] : List Sn).length : Int)).length - 1 - (topB h).length = 0 by rw [e] at hl1; omega, List.take_zero]
      obtain ⟨t1, t2⟩ := top_back h k1 []
      unfold unE0 unG s9
      rw [t1, hS_short 1 [] (by decide)]
      have hz : hN (([] : List UInt8), (0 : Int)) 1 = 0 := rfl
      rw [hz, if_neg (by decide)]
      rfl
    · rw [List.concat_eq_append] at e
      have hlen : h.snaps.length = ss.length + 1 := by rw [e]; simp
      have hb : 0 < (snB t).length := by
        unfold snB
        rw [List.length_append, List.length_append, numB_length]
        have := fitW_bd 1
        omega
      have e2 : (topB h ++ (numB 1 (h.snaps.length : Int) ++ h.snaps.flatMap snB)).take ((topB h ++ (numB 1 (h.snaps.length : Int) ++ h.snaps.flatMap snB)).length - 1) = topB h ++ (numB 1 (h.snaps.length : Int) ++ (ss.flatMap snB ++ (snB t).take ((snB t).length - 1))) := by
        have e3 : h.snaps.flatMap snB = ss.flatMap snB ++ snB t := by rw [e, List.flatMap_append]; simp
        rw [e3]
        generalize numB 1 (h.snaps.length : Int) = Q
        generalize ss.flatMap snB = F
        generalize topB h = T
        rw [List.length_append, List.length_append, List.length_append, List.take_append, List.take_of_length_le (by omega), List.take_append, List.take_of_length_le (by omega), List.take_append, List.take_of_length_le (by omega)]
        congr 4
        omega
      rw [e2]
      obtain ⟨t1, t2⟩ := top_back h k1 (numB 1 (h.snaps.length : Int) ++ (ss.flatMap snB ++ (snB t).take ((snB t).length - 1)))
      have hc := goN_cut t (k2 t (by rw [e]; simp)) ss [] (fun s hs => k2 s (by rw [e]; simp [hs]))
      unfold unE0 unG s9
      rw [t1, hN_back 1 _ _ (by omega) (by show (h.snaps.length : Int) < 256; omega), hS_back 1 _ _ (by omega) (by show (h.snaps.length : Int) < 256; omega), if_neg (by omega), Int.toNat_natCast, hlen, hc]
      rfl
  unfold unE
  rw [key]
  rfl

theorem decB_inj : ∀ (l m : List UInt8), l.length = m.length → decB l = decB m → l = m
  | [], [], _, _ => rfl
  | a :: l, b :: m, hl, h => by
    have hl' : l.length = m.length := by simpa using hl
    rw [decB_cons, decB_cons, hl'] at h
    have h1 := decB_lt l
    have h2 := decB_lt m
    rw [hl'] at h1
    have hp : 0 < 256 ^ m.length := Nat.pow_pos (by decide)
    have e1 : a.toNat = b.toNat := by
      have q : (a.toNat * 256 ^ m.length + decB l) / 256 ^ m.length = (b.toNat * 256 ^ m.length + decB m) / 256 ^ m.length := by rw [h]
      rwa [Nat.add_comm, Nat.add_mul_div_right _ _ hp, Nat.div_eq_of_lt h1, Nat.add_comm (b.toNat * _), Nat.add_mul_div_right _ _ hp, Nat.div_eq_of_lt h2, Nat.zero_add, Nat.zero_add] at q
    have e2 : decB l = decB m := by rw [e1] at h; omega
    rw [decB_inj l m hl' e2, UInt8.toNat_inj.1 e1]
theorem encB_decB (l : List UInt8) : encB l.length (decB l) = l :=
  decB_inj _ _ (encB_length _ _) (by rw [decB_encB, Nat.mod_eq_of_lt (decB_lt l)])
theorem clampN_nat {f d : Nat} (h : d < 256 ^ f) : clampN f (d : Int) = d := by
  have : (clampN f (d : Int) : Int) = d := clampN_fit (by omega) (by
    have e : ((256 : Int)) ^ f = ((256 ^ f : Nat) : Int) := by simp
    rw [e]; omega)
  omega
theorem hS_inv {s : List UInt8 × Int} {w : Int} (h : (hS s w).2 = 0) : s.2 = 0 ∧ s.1 = numB w (hN s w) ++ (hS s w).1 := by
  unfold hS hN rdNum at *
  by_cases h1 : s.2 ≠ 0
  · rw [if_pos h1] at h
    exact absurd h h1
  · rw [if_neg h1] at h ⊢
    by_cases h2 : s.1.length < fitW w
    · rw [if_pos h2] at h
      exact absurd (show (10 : Int) = 0 from h) (by decide)
    · rw [if_neg h2]
      refine ⟨Classical.not_not.1 h1, ?_⟩
      have hl : (s.1.take (fitW w)).length = fitW w := by rw [List.length_take]; omega
      have e : numB w (decB (s.1.take (fitW w)) : Int) = s.1.take (fitW w) := by
        unfold numB
        rw [clampN_nat (by have := decB_lt (s.1.take (fitW w)); rwa [hl] at this)]
        have := encB_decB (s.1.take (fitW w))
        rwa [hl] at this
      show s.1 = numB w (decB (s.1.take (fitW w)) : Int) ++ s.1.drop (fitW w)
      rw [e, List.take_append_drop]
theorem rdBlob_inv {l : List UInt8} {e : Int} (h : (rdBlob l e 200).2.2 = 0) : e = 0 ∧ l = blobB (rdBlob l e 200).1 ++ (rdBlob l e 200).2.1 := by
  unfold rdBlob at *
  by_cases h1 : e ≠ 0
  · rw [if_pos h1] at h
    exact absurd h h1
  · rw [if_neg h1] at h ⊢
    by_cases h2 : cntE l 2 1 200 ≠ 0
    · rw [if_pos h2] at h
      exact absurd h h2
    · rw [if_neg h2]
      refine ⟨Classical.not_not.1 h1, ?_⟩
      obtain ⟨c1, c2, c3⟩ := cntE_0 (Classical.not_not.1 h2)
      rw [Nat.mul_one] at c3
      show l = blobB ((l.drop 2).take (decB (l.take 2))) ++ l.drop (2 + decB (l.take 2))
      have hl : ((l.drop 2).take (decB (l.take 2))).length = decB (l.take 2) := by rw [List.length_take, List.length_drop]; omega
      have ht : (l.take 2).length = 2 := by rw [List.length_take]; omega
      rw [blobB_eq _ (by rw [hl]; omega), hl]
      have e2 := encB_decB (l.take 2)
      rw [ht] at e2
      rw [e2, List.append_assoc, ← List.drop_drop, List.take_append_drop, List.take_append_drop]
theorem tS_inv {s : List UInt8 × Int} (h : (tS s).2 = 0) : s.2 = 0 ∧ s.1 = blobB (packO (tM s)) ++ (tS s).1 ∧ IsRow (tM s) := by
  unfold tS tM rdTab at *
  by_cases h1 : (rdBlob s.1 s.2 200).2.2 ≠ 0
  · rw [if_pos h1] at h
    exact absurd h h1
  · rw [if_neg h1] at h ⊢
    obtain ⟨r1, r2⟩ := rdBlob_inv (Classical.not_not.1 h1)
    cases hu : unO (rdBlob s.1 s.2 200).1 with
    | none => rw [hu] at h; exact absurd (show (11 : Int) = 0 from h) (by decide)
    | some m =>
      obtain ⟨u1, u2⟩ := unO_some.1 hu
      refine ⟨r1, ?_, u1⟩
      show s.1 = blobB (packO m) ++ (rdBlob s.1 s.2 200).2.1
      rw [packO_self u1, u2]
      exact r2
theorem goN_inv : ∀ (k : Nat) (s : List UInt8 × Int) (a : List Sn), (goN k s a).2.2 = 0 → s.2 = 0 ∧ ∃ ss, (goN k s a).1 = a ++ ss ∧ ss.length = k ∧ s.1 = ss.flatMap snB ++ (goN k s a).2.1
  | 0, s, a, h => ⟨h, [], by simp [goN], rfl, by simp [goN]⟩
  | k + 1, s, a, h => by
    unfold goN at h ⊢
    by_cases h1 : s.2 = 0
    · rw [if_pos h1] at h ⊢
      obtain ⟨i1, ss, i2, i3, i4⟩ := goN_inv k _ _ h
      refine ⟨h1, sV s :: ss, by rw [i2]; simp, by simp [i3], ?_⟩
      rw [List.flatMap_cons, List.append_assoc, ← i4]
      have i1' : (tS (hS (hS s 1) 2)).2 = 0 := i1
      obtain ⟨j1, j2, j3⟩ := tS_inv i1'
      obtain ⟨l1, l2⟩ := hS_inv j1
      obtain ⟨m1, m2⟩ := hS_inv l1
      show s.1 = (numB 1 (hN s 1) ++ numB 2 (hN (hS s 1) 2) ++ blobB (packO (tM (hS (hS s 1) 2)))) ++ _
      show _ = _ ++ (tS (hS (hS s 1) 2)).1
      rw [List.append_assoc, List.append_assoc, ← j2, ← l2, ← m2]
    · rw [if_neg h1] at h
      exact absurd h h1
/-- bytes that are a head's are what it packs to -/
theorem unE_inv {b : List UInt8} (h : unE b = 0) : MayH (unHd b) ∧ packH (unHd b) = b := by
  unfold unE at h
  by_cases h0 : unE0 b ≠ 0
  · rw [if_pos h0] at h
    exact absurd h h0
  · rw [if_neg h0] at h
    by_cases hm : MayH (unHd b)
    · refine ⟨hm, ?_⟩
      have he : unE0 b = 0 := Classical.not_not.1 h0
      unfold unE0 endE at he
      by_cases hq : (unG b).2.2 = 0 ∧ 0 < (unG b).2.1.length
      · rw [if_pos hq] at he
        exact absurd he (by decide)
      · rw [if_neg hq] at he
        have hnil : (unG b).2.1 = [] := List.eq_nil_of_length_eq_zero (by
          rcases Nat.eq_zero_or_pos (unG b).2.1.length with z | z
          · exact z
          · exact absurd ⟨he, z⟩ hq)
        have hG : unG b = goN (hN (s7 b) 1).toNat (s9 b) [] := rfl
        rw [hG] at he hnil
        obtain ⟨i1, ss, i2, i3, i4⟩ := goN_inv _ _ _ he
        rw [hnil, List.append_nil] at i4
        have hs9 : ¬ 4 < hN (s7 b) 1 := fun q => by
          unfold s9 at i1
          rw [if_pos q] at i1
          unfold fS failE at i1
          dsimp only at i1
          split at i1
          · exact absurd i1 (by decide)
          · rename_i z; exact z i1
        have e9 : s9 b = hS (s7 b) 1 := by unfold s9; rw [if_neg hs9]
        rw [e9] at i1 i4
        obtain ⟨j1, j2⟩ := hS_inv i1
        have h7 : s7 b = tS (hS (hS (hS (hS (hS (hS (b, 0) 1) 1) 1) 1) 2) 6) := rfl
        rw [h7] at j1
        obtain ⟨k1, k2, _⟩ := tS_inv j1
        obtain ⟨l1, l2⟩ := hS_inv k1
        obtain ⟨m1, m2⟩ := hS_inv l1
        obtain ⟨n1, n2⟩ := hS_inv m1
        obtain ⟨o1, o2⟩ := hS_inv n1
        obtain ⟨p1, p2⟩ := hS_inv o1
        obtain ⟨q1, q2⟩ := hS_inv p1
        rw [← h7] at k2
        have hsn : (unHd b).snaps = ss := by
          show (unG b).1 = ss
          rw [hG, i2, List.nil_append]
        have hN0 : ∃ N : Nat, hN (s7 b) 1 = N := hN_nat _ _
        obtain ⟨N, hN'⟩ := hN0
        rw [hN', Int.toNat_natCast] at i3
        rw [packH_top, hsn, i3, ← hN', ← i4, ← j2]
        unfold topB unHd
        dsimp only
        simp only [List.append_assoc]
        rw [← k2, ← l2, ← m2, ← n2, ← o2, ← p2]
        exact q2.symm
    · rw [if_neg hm] at h
      exact absurd h (by decide)
end Go.Proofs.Ytaobdebeglenaaa
