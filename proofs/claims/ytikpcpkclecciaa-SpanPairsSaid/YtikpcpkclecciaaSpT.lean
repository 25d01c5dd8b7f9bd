/- Plain (no program): the ways of package span: spans cut to their bytes, merged in the order in which they begin; the ends of two canonical lists gone through together. -/
import Derived.Test.YtikpcpkclecciaaSpP
namespace Go.Proofs.Ytikpcpkclecciaa

/-- a span cut to the bytes that there are -/
def cutS (s : Sp) : Sp := (max s.1 0, min s.2 farS)
/-- one span more, if it has bytes -/
def addS (out : List Sp) (s : Sp) : List Sp := if (cutS s).1 < (cutS s).2 then out ++ [cutS s] else out
/-- the spans that have bytes, cut to them -/
def cutsS (a : List Sp) : List Sp := a.foldl addS []
theorem cutsS_take (a : List Sp) (j : Nat) (h : j < a.length) : cutsS (a.take (j + 1)) = addS (cutsS (a.take j)) a[j] := by
  unfold cutsS
  rw [List.take_succ_eq_append_getElem h, List.foldl_append]
  rfl
theorem hasB_cut (s : Sp) (n : Int) : hasB [cutS s] n = hasB [s] n := by
  by_cases h : 0 ≤ n ∧ n < farS
  · obtain ⟨h0, h1⟩ := h
    rw [hasB_in h0 h1, hasB_in h0 h1]
    unfold farS at h1
    rw [Bool.eq_iff_iff]
    simp [inS, cutS, farS]
    omega
  · rw [hasB_out h, hasB_out h]
/-- what a row of spans that have bytes is -/
def Good (l : List Sp) : Prop := ∀ s ∈ l, 0 ≤ s.1 ∧ s.1 < s.2 ∧ s.2 ≤ farS
theorem addS_ok {out : List Sp} (s : Sp) (h : Good out) : Good (addS out s) ∧ (∀ n, hasB (addS out s) n = (hasB out n || hasB [s] n)) ∧ (addS out s).length ≤ out.length + 1 := by
  unfold addS
  split
  · rename_i hlt
    refine ⟨fun x hx => ?_, fun n => by rw [hasB_append, hasB_cut], by simp⟩
    rcases List.mem_append.1 hx with hx | hx
    · exact h x hx
    · simp at hx
      subst hx
      refine ⟨?_, hlt, ?_⟩
      · show 0 ≤ max s.1 0; omega
      · show min s.2 farS ≤ farS; omega
  · rename_i hlt
    refine ⟨h, fun n => ?_, by omega⟩
    have : hasB [s] n = false := by
      rw [← hasB_cut]
      by_cases q : 0 ≤ n ∧ n < farS
      · rw [hasB_in q.1 q.2]; simp [inS]; omega
      · exact hasB_out q
    rw [this, Bool.or_false]
theorem cuts_fold : ∀ (a out : List Sp), Good out → Good (a.foldl addS out) ∧ (∀ n, hasB (a.foldl addS out) n = (hasB out n || hasB a n)) ∧ (a.foldl addS out).length ≤ out.length + a.length
  | [], out, h => ⟨h, fun n => by rw [hasB_nil, Bool.or_false]; rfl, Nat.le_refl _⟩
  | s :: a, out, h => by
    obtain ⟨h1, h2, h3⟩ := addS_ok s h
    obtain ⟨i1, i2, i3⟩ := cuts_fold a (addS out s) h1
    refine ⟨i1, fun n => ?_, ?_⟩
    · show hasB (a.foldl addS (addS out s)) n = _
      rw [i2, h2, hasB_cons s a n, Bool.or_assoc]
    · show (a.foldl addS (addS out s)).length ≤ _
      simp; omega
theorem cuts_ok (a : List Sp) : Good (cutsS a) ∧ (∀ n, hasB (cutsS a) n = hasB a n) ∧ (cutsS a).length ≤ a.length := by
  obtain ⟨h1, h2, h3⟩ := cuts_fold a [] (fun s hs => by simp at hs)
  exact ⟨h1, fun n => by show hasB (a.foldl addS []) n = _; rw [h2, hasB_nil, Bool.false_or], by rw [List.length_nil, Nat.zero_add] at h3; exact h3⟩

/-- the spans of a, cut, in the order in which they begin -/
structure Rising (a qs : List Sp) : Prop where
  good : Good qs
  has : ∀ n, hasB qs n = hasB a n
  len : qs.length ≤ a.length
  ord : ∀ i j (hi : i < qs.length) (hj : j < qs.length), i < j → qs[i].1 ≤ qs[j].1
theorem has_mem {l m : List Sp} (h : ∀ s, s ∈ l ↔ s ∈ m) (n : Int) : hasB l n = hasB m n := by
  by_cases q : 0 ≤ n ∧ n < farS
  · rw [hasB_in q.1 q.2, hasB_in q.1 q.2, Bool.eq_iff_iff, List.any_eq_true, List.any_eq_true]
    constructor
    · rintro ⟨s, hs, hi⟩; exact ⟨s, (h s).1 hs, hi⟩
    · rintro ⟨s, hs, hi⟩; exact ⟨s, (h s).2 hs, hi⟩
  · rw [hasB_out q, hasB_out q]
theorem Rising.of {a qs : List Sp} (hp : qs.Perm (cutsS a)) (ho : ∀ i j (hi : i < qs.length) (hj : j < qs.length), i < j → qs[i].1 ≤ qs[j].1) : Rising a qs := by
  obtain ⟨h1, h2, h3⟩ := cuts_ok a
  exact ⟨fun s hs => h1 s (hp.mem_iff.1 hs), fun n => by rw [has_mem (fun s => hp.mem_iff), h2], by rw [hp.length_eq]; exact h3, ho⟩

/-- how far the merging is -/
structure Mrg (qs : List Sp) (j : Nat) (out : List Sp) : Prop where
  can : Canon out
  has : ∀ n, hasB out n = hasB (qs.take j) n
  low : ∀ r q, out = r ++ [q] → ∀ i (h : i < qs.length), j ≤ i → q.1 ≤ qs[i].1
  len : out.length ≤ j
theorem Mrg.start (qs : List Sp) : Mrg qs 0 [] := ⟨trivial, fun n => rfl, fun r q h => by simp at h, Nat.le_refl _⟩
theorem Mrg.fin {a qs out : List Sp} (hr : Rising a qs) (h : Mrg qs qs.length out) : out = refS a [] 1 ∧ out.length ≤ a.length := by
  refine ⟨ref_unique h.can fun n => ?_, Nat.le_trans h.len hr.len⟩
  rw [h.has, List.take_of_length_le (Nat.le_refl _), hr.has, hasB_nil]
  simp [opS]
theorem snoc_inj {r r' : List Sp} {q q' : Sp} (h : r ++ [q] = r' ++ [q']) : r = r' ∧ q = q' := by
  have h1 := List.append_inj' h rfl
  exact ⟨h1.1, by simpa using h1.2⟩
/-- the next span begins behind the last one -/
theorem Mrg.put {a qs out : List Sp} {j : Nat} (hr : Rising a qs) (h : Mrg qs j out) (hj : j < qs.length) (hb : ∀ r q, out = r ++ [q] → q.2 < qs[j].1) : Mrg qs (j + 1) (out ++ [qs[j]]) := by
  obtain ⟨g0, g1, g2⟩ := hr.good qs[j] (List.getElem_mem hj)
  refine ⟨?_, fun n => ?_, fun r q e i hi hji => ?_, by have := h.len; simp; omega⟩
  · refine can_snoc.2 ⟨h.can, ?_, g1, g2⟩
    rcases snocS out with rfl | ⟨r, q, rfl⟩
    · show (-1 : Int) < _; omega
    · rw [endF_snoc]; exact hb r q rfl
  · rw [hasB_append, h.has, List.take_succ_eq_append_getElem hj, hasB_append]
  · obtain ⟨_, rfl⟩ := snoc_inj e
    exact hr.ord j i hj hi (by omega)
/-- the next span begins within the last one, or just behind it -/
theorem Mrg.glue {a qs r : List Sp} {f t : Int} {j : Nat} (hr : Rising a qs) (h : Mrg qs j (r ++ [(f, t)])) (hj : j < qs.length) (hb : qs[j].1 ≤ t) : Mrg qs (j + 1) (r ++ [(f, max t qs[j].2)]) := by
  obtain ⟨g0, g1, g2⟩ := hr.good qs[j] (List.getElem_mem hj)
  have hl := h.low r (f, t) rfl j hj (Nat.le_refl _)
  have hl : f ≤ qs[j].1 := hl
  have hc := can_snoc.1 h.can
  obtain ⟨c1, c2, c3, c4⟩ := hc
  have c3 : f < t := c3
  have c4 : t ≤ farS := c4
  refine ⟨can_snoc.2 ⟨c1, c2, by show f < max t _; omega, by show max t _ ≤ farS; omega⟩, fun n => ?_, fun r' q e i hi hji => ?_, by have := h.len; simp at this ⊢; omega⟩
  · rw [List.take_succ_eq_append_getElem hj, hasB_append (qs.take j), ← h.has, hasB_append, hasB_append r, Bool.or_assoc]
    congr 1
    generalize hq : qs[j] = q at *
    obtain ⟨q1, q2⟩ := q
    by_cases z : 0 ≤ n ∧ n < farS
    · rw [hasB_one z.1 z.2, hasB_one z.1 z.2, hasB_one z.1 z.2, Bool.eq_iff_iff]
      simp only [Bool.or_eq_true, Bool.and_eq_true, decide_eq_true_eq]
      have hl : f ≤ q1 := hl
      have hb : q1 ≤ t := hb
      have g1 : q1 < q2 := g1
      show f ≤ n ∧ n < max t q2 ↔ _
      omega
    · rw [hasB_out z, hasB_out z, hasB_out z]; rfl
  · obtain ⟨_, rfl⟩ := snoc_inj e
    exact h.low r (f, t) rfl i hi (by omega)

theorem can_le : ∀ {b : Int} {l : List Sp}, CanF b l → b ≤ endF b l
  | _, [], _ => Int.le_refl _
  | b, s :: r, h => by
    have h1 : s.2 ≤ endF s.2 r := can_le h.2.2.2
    have h2 := h.1
    have h3 := h.2.1
    show b ≤ endF s.2 r
    omega
/-- end i of a canonical list -/
def endv : List Sp → Nat → Int
  | [], _ => farS + 1
  | s :: _, 0 => s.1
  | s :: _, 1 => s.2
  | _ :: r, i + 2 => endv r i
theorem endv_out : ∀ (l : List Sp) (i : Nat), 2 * l.length ≤ i → endv l i = farS + 1
  | [], _, _ => by simp [endv]
  | _ :: l, 0, h => by simp at h
  | _ :: l, 1, h => by simp at h; omega
  | _ :: l, i + 2, h => endv_out l i (by simp at h; omega)
theorem endv_even : ∀ (l : List Sp) (k : Nat) (h : k < l.length), endv l (2 * k) = l[k].1
  | s :: _, 0, _ => rfl
  | _ :: l, k + 1, h => endv_even l k (by simpa using h)
theorem endv_odd : ∀ (l : List Sp) (k : Nat) (h : k < l.length), endv l (2 * k + 1) = l[k].2
  | s :: _, 0, _ => rfl
  | _ :: l, k + 1, h => endv_odd l k (by simpa using h)
theorem endv_gt : ∀ {b : Int} {l : List Sp}, b ≤ farS → CanF b l → ∀ i, b < endv l i
  | b, [], hb, _, i => by simp [endv]; omega
  | b, s :: r, hb, h, 0 => h.1
  | b, s :: r, hb, h, 1 => by have := h.1; have := h.2.1; show b < s.2; omega
  | b, s :: r, hb, h, i + 2 => by
    have h1 := endv_gt h.2.2.1 h.2.2.2 i
    have := h.1; have := h.2.1
    show b < endv r i
    omega
theorem endv_next : ∀ {b : Int} {l : List Sp}, CanF b l → ∀ i, i < 2 * l.length → endv l i < endv l (i + 1) ∧ endv l i ≤ farS
  | b, [], _, i, h => by simp at h
  | b, s :: r, h, 0, _ => ⟨h.2.1, by have := h.2.1; have := h.2.2.1; show s.1 ≤ farS; omega⟩
  | b, s :: r, h, 1, _ => ⟨endv_gt h.2.2.1 h.2.2.2 0, h.2.2.1⟩
  | b, s :: r, h, i + 2, hi => endv_next h.2.2.2 i (by simp at hi; omega)
/-- between ends i-1 and i the bytes are in if i is odd -/
theorem endv_has : ∀ {b : Int} {l : List Sp}, -1 ≤ b → CanF b l → ∀ i n, (i = 0 ∨ endv l (i - 1) ≤ n) → n < endv l i → hasB l n = (i % 2 == 1)
  | b, [], _, _, 0, n, _, _ => by rw [hasB_nil]; rfl
  | b, [], _, _, i + 1, n, h1, h2 => by simp [endv] at h1 h2; omega
  | b, s :: r, hb, h, 0, n, _, h2 => by
    have h2 : n < s.1 := h2
    have hc : CanF (s.1 - 1) (s :: r) := ⟨by omega, h.2⟩
    rw [hc.above n (by omega)]; rfl
  | b, s :: r, hb, h, 1, n, h1, h2 => by
    rcases h1 with h1 | h1
    · omega
    · have h1 : s.1 ≤ n := h1
      have h2 : n < s.2 := h2
      rw [h.first hb h1 h2]; rfl
  | b, s :: r, hb, h, i + 2, n, h1, h2 => by
    have h2 : n < endv r i := h2
    have hs : s.2 ≤ n := by
      rcases h1 with h1 | h1
      · omega
      · cases i with
        | zero => exact h1
        | succ i =>
          have h1 : endv r i ≤ n := h1
          have := endv_gt h.2.2.1 h.2.2.2 i
          omega
    rw [has_rest hs, endv_has (by have := h.1; have := h.2.1; omega) h.2.2.2 i n (by
      cases i with
      | zero => exact .inl rfl
      | succ i =>
        rcases h1 with h1 | h1
        · omega
        · exact .inr h1) h2]
    have : (i + 2) % 2 = i % 2 := by omega
    rw [this]

/-- how far the going through is; p: the last end; c: what is closed; f: where what is open begins -/
structure Com (a b : List Sp) (what : Int) (i j : Nat) (out : List Sp) (opn : Bool) : Prop where
  le : i ≤ 2 * a.length ∧ j ≤ 2 * b.length
  len : out.length ≤ i + j
  op : opn = opS what (i % 2 == 1) (j % 2 == 1)
  st : ∃ p, -1 ≤ p ∧ (i = 0 ∨ endv a (i - 1) ≤ p) ∧ (j = 0 ∨ endv b (j - 1) ≤ p) ∧ p < endv a i ∧ p < endv b j ∧
    (opn = false → Canon out ∧ endF (-1) out ≤ p ∧ ∀ n, n < p → hasB out n = opS what (hasB a n) (hasB b n)) ∧
    (opn = true → ∃ c f, out = c ++ [(f, 0)] ∧ Canon c ∧ endF (-1) c < f ∧ f ≤ p ∧ (∀ n, n < f → hasB c n = opS what (hasB a n) (hasB b n)) ∧ ∀ n, f ≤ n → n < p → opS what (hasB a n) (hasB b n) = true)
theorem Com.start {a b : List Sp} (what : Int) (ha : Canon a) (hb : Canon b) : Com a b what 0 0 [] false := by
  refine ⟨⟨Nat.zero_le _, Nat.zero_le _⟩, Nat.le_refl _, (opS_ff what).symm, -1, Int.le_refl _, .inl rfl, .inl rfl, endv_gt (by unfold farS; omega) ha 0, endv_gt (by unfold farS; omega) hb 0, fun _ => ⟨trivial, Int.le_refl _, fun n hn => ?_⟩, fun h => by cases h⟩
  rw [ha.above n (by omega), hb.above n (by omega), opS_ff, hasB_nil]
/-- the next end -/
def atC (a b : List Sp) (i j : Nat) : Int := min (endv a i) (endv b j)
def nxC (a : List Sp) (i : Nat) (e : Int) : Nat := if endv a i = e then i + 1 else i
theorem nx_ok {a : List Sp} {i : Nat} {e p : Int} (ha : Canon a) (hi : i ≤ 2 * a.length) (he : e ≤ farS) (hl : e ≤ endv a i) (hp : p < e) (h : i = 0 ∨ endv a (i - 1) ≤ p) :
    nxC a i e ≤ 2 * a.length ∧ (nxC a i e = 0 ∨ endv a (nxC a i e - 1) ≤ e) ∧ e < endv a (nxC a i e) := by
  unfold nxC
  by_cases q : endv a i = e
  · rw [if_pos q]
    have h1 : i < 2 * a.length := by
      refine Nat.lt_of_not_le fun z => ?_
      rw [endv_out a i z] at q
      omega
    obtain ⟨h2, h3⟩ := endv_next ha i h1
    exact ⟨by omega, .inr (by rw [Nat.add_sub_cancel]; omega), by omega⟩
  · rw [if_neg q]
    exact ⟨hi, h.imp id (fun h => by omega), by omega⟩
theorem Com.at_le {a b : List Sp} {i j : Nat} (ha : Canon a) (hb : Canon b) (hg : i < 2 * a.length ∨ j < 2 * b.length) : atC a b i j ≤ farS := by
  unfold atC
  rcases hg with hg | hg
  · have := (endv_next ha i hg).2; omega
  · have := (endv_next hb j hg).2; omega
/-- one round: what 'in' is, what the list is behind it -/
def inC (a b : List Sp) (what : Int) (i j : Nat) : Bool := opS what (nxC a i (atC a b i j) % 2 == 1) (nxC b j (atC a b i j) % 2 == 1)
theorem Com.round {a b : List Sp} {what : Int} {i j : Nat} {out : List Sp} {opn : Bool} (ha : Canon a) (hb : Canon b) (h : Com a b what i j out opn) (hg : i < 2 * a.length ∨ j < 2 * b.length) :
    (inC a b what i j = true → opn = false → Com a b what (nxC a i (atC a b i j)) (nxC b j (atC a b i j)) (out ++ [(atC a b i j, 0)]) true) ∧
    (inC a b what i j = true → opn = true → Com a b what (nxC a i (atC a b i j)) (nxC b j (atC a b i j)) out true) ∧
    (inC a b what i j = false → opn = false → Com a b what (nxC a i (atC a b i j)) (nxC b j (atC a b i j)) out false) ∧
    (inC a b what i j = false → opn = true → ∃ c f, out = c ++ [(f, 0)] ∧ Com a b what (nxC a i (atC a b i j)) (nxC b j (atC a b i j)) (c ++ [(f, atC a b i j)]) false) := by
  obtain ⟨⟨hi, hj⟩, hlen, hop, p, hp0, hpi, hpj, hp1, hp2, hcl, hopn⟩ := h
  have hat := Com.at_le ha hb hg
  have hin : inC a b what i j = opS what (nxC a i (atC a b i j) % 2 == 1) (nxC b j (atC a b i j) % 2 == 1) := rfl
  have hl1 : atC a b i j ≤ endv a i := by unfold atC; omega
  have hl2 : atC a b i j ≤ endv b j := by unfold atC; omega
  have hpe : p < atC a b i j := by unfold atC; omega
  have hmore : nxC a i (atC a b i j) + nxC b j (atC a b i j) ≥ i + j + 1 := by
    unfold nxC atC
    split <;> split <;> omega
  have hmid : ∀ n, p ≤ n → n < atC a b i j → opS what (hasB a n) (hasB b n) = opn := fun n h0 h1 => by
    rw [hop, endv_has (Int.le_refl _) ha i n (hpi.imp id (fun h => by omega)) (by omega), endv_has (Int.le_refl _) hb j n (hpj.imp id (fun h => by omega)) (by omega)]
  obtain ⟨n1, n2, n3⟩ := nx_ok ha hi hat hl1 hpe hpi
  obtain ⟨m1, m2, m3⟩ := nx_ok hb hj hat hl2 hpe hpj
  generalize atC a b i j = e at *
  generalize nxC a i e = i' at *
  generalize nxC b j e = j' at *
  generalize inC a b what i j = z at *
  refine ⟨fun hz ho => ?_, fun hz ho => ?_, fun hz ho => ?_, fun hz ho => ?_⟩
  · subst hz; subst ho
    obtain ⟨g1, g2, g3⟩ := hcl rfl
    refine ⟨⟨n1, m1⟩, by simp; omega, hin, e, by omega, n2, m2, n3, m3, fun h => (by cases h), fun _ => ⟨out, e, rfl, g1, by omega, Int.le_refl _, fun n hn => ?_, fun n h0 h1 => by omega⟩⟩
    by_cases q : n < p
    · exact g3 n q
    · rw [hmid n (by omega) hn]
      exact g1.behind n (by omega)
  · subst hz; subst ho
    obtain ⟨c, f, rfl, g1, g2, g3, g4, g5⟩ := hopn rfl
    refine ⟨⟨n1, m1⟩, by omega, hin, e, by omega, n2, m2, n3, m3, fun h => (by cases h), fun _ => ⟨c, f, rfl, g1, g2, by omega, g4, fun n h0 h1 => ?_⟩⟩
    by_cases q : n < p
    · exact g5 n h0 q
    · exact hmid n (by omega) h1
  · subst hz; subst ho
    obtain ⟨g1, g2, g3⟩ := hcl rfl
    refine ⟨⟨n1, m1⟩, by omega, hin, e, by omega, n2, m2, n3, m3, fun _ => ⟨g1, by omega, fun n hn => ?_⟩, fun h => by cases h⟩
    by_cases q : n < p
    · exact g3 n q
    · rw [hmid n (by omega) hn]
      exact g1.behind n (by omega)
  · subst hz; subst ho
    obtain ⟨c, f, rfl, g1, g2, g3, g4, g5⟩ := hopn rfl
    refine ⟨c, f, rfl, ⟨n1, m1⟩, by simp at hlen ⊢; omega, hin, e, by omega, n2, m2, n3, m3, fun _ => ⟨can_snoc.2 ⟨g1, g2, by show f < e; omega, hat⟩, by rw [endF_snoc]; exact Int.le_refl _, fun n hn => ?_⟩, fun h => by cases h⟩
    rw [hasB_append]
    by_cases q : n < f
    · rw [g4 n q]
      have : hasB [(f, e)] n = false := by
        by_cases z : 0 ≤ n ∧ n < farS
        · rw [hasB_one z.1 z.2]; simp; omega
        · exact hasB_out z
      rw [this, Bool.or_false]
    · have h0 : hasB [(f, e)] n = true := by
        have : -1 ≤ endF (-1) c := can_le g1
        rw [hasB_one (by omega) (by omega)]
        simp; omega
      rw [h0, Bool.or_true]
      by_cases q2 : n < p
      · exact (g5 n (by omega) q2).symm
      · exact (hmid n (by omega) hn).symm
theorem Com.more {a b : List Sp} {what : Int} {i j : Nat} {out : List Sp} {opn : Bool} (ha : Canon a) (hb : Canon b) (h : Com a b what i j out opn) (hg : i < 2 * a.length ∨ j < 2 * b.length) :
    nxC a i (atC a b i j) + nxC b j (atC a b i j) ≥ i + j + 1 ∧ nxC a i (atC a b i j) ≤ 2 * a.length ∧ nxC b j (atC a b i j) ≤ 2 * b.length := by
  obtain ⟨⟨hi, hj⟩, _, _, p, _, hpi, hpj, hp1, hp2, _, _⟩ := h
  have hat := Com.at_le ha hb hg
  have hl1 : atC a b i j ≤ endv a i := by unfold atC; omega
  have hl2 : atC a b i j ≤ endv b j := by unfold atC; omega
  have hpe : p < atC a b i j := by unfold atC; omega
  refine ⟨?_, (nx_ok ha hi hat hl1 hpe hpi).1, (nx_ok hb hj hat hl2 hpe hpj).1⟩
  unfold nxC atC
  split <;> split <;> omega
theorem Com.fin {a b : List Sp} {what : Int} {i j : Nat} {out : List Sp} {opn : Bool} (ha : Canon a) (hb : Canon b) (h : Com a b what i j out opn) (hi : ¬ i < 2 * a.length) (hj : ¬ j < 2 * b.length) : out = refS a b what := by
  obtain ⟨⟨hi1, hj1⟩, hlen, hop, p, hp0, hpi, hpj, hp1, hp2, hcl, hopn⟩ := h
  have e1 : i = 2 * a.length := by omega
  have e2 : j = 2 * b.length := by omega
  have o1 : (i % 2 == 1) = false := by rw [e1]; simp
  have o2 : (j % 2 == 1) = false := by rw [e2]; simp
  rw [o1, o2, opS_ff] at hop
  obtain ⟨g1, g2, g3⟩ := hcl hop
  refine ref_unique g1 fun n => ?_
  by_cases q : n < p
  · exact g3 n q
  · rw [g1.behind n (by omega)]
    by_cases z : n < farS + 1
    · rw [endv_has (Int.le_refl _) ha i n (hpi.imp id (fun h => by omega)) (by rw [e1, endv_out _ _ (Nat.le_refl _)]; exact z), endv_has (Int.le_refl _) hb j n (hpj.imp id (fun h => by omega)) (by rw [e2, endv_out _ _ (Nat.le_refl _)]; exact z), o1, o2, opS_ff]
    · rw [hasB_out (l := a) (by omega), hasB_out (l := b) (by omega), opS_ff]
/-- both alike -/
theorem com_same {a : List Sp} {what : Int} (ha : Canon a) : refS a a what = if opS what true true then a else [] := by
  symm
  split
  · rename_i h
    refine ref_unique ha fun n => ?_
    cases hasB a n
    · rw [opS_ff]
    · rw [h]
  · rename_i h
    refine ref_unique trivial fun n => ?_
    cases hasB a n
    · rw [opS_ff, hasB_nil]
    · rw [hasB_nil]; exact (Bool.eq_false_iff.2 h).symm
/-- the canonical lists in place of the lists -/
theorem ref_clean (a b : List Sp) (what : Int) : refS (refS a [] 1) (refS b [] 1) what = refS a b what := by
  refine ref_unique (refS_ok _ _ _).1 fun n => ?_
  rw [(refS_ok _ _ _).2, (refS_ok a [] 1).2, (refS_ok b [] 1).2, hasB_nil]
  simp [opS]
end Go.Proofs.Ytikpcpkclecciaa
