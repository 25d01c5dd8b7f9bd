/- Sets of bytes as lists of spans, plain (no program): members, canonical lists, that two canonical lists with the same members are one; the document's way by ends. -/

namespace Go.Proofs.YtmigapjkicddiaaDoor

abbrev Sp := Int × Int
/-- 2^40 -/
abbrev farS : Int := 1099511627776
def inS (s : Sp) (n : Int) : Bool := decide (s.1 ≤ n) && decide (n < s.2)
/-- is n one of the bytes of l? -/
def hasB (l : List Sp) (n : Int) : Bool := decide (0 ≤ n) && decide (n < farS) && l.any (fun s => inS s n)
theorem hasB_nil (n : Int) : hasB [] n = false := by simp [hasB]
theorem hasB_out {l : List Sp} {n : Int} (h : ¬ (0 ≤ n ∧ n < farS)) : hasB l n = false := by
  unfold hasB
  cases hx : (decide (0 ≤ n) && decide (n < farS))
  · rfl
  · simp at hx; exact absurd hx h
theorem hasB_in {l : List Sp} {n : Int} (h0 : 0 ≤ n) (h1 : n < farS) : hasB l n = l.any (fun s => inS s n) := by
  unfold hasB
  rw [decide_eq_true h0, decide_eq_true h1]; rfl
theorem hasB_cons (s : Sp) (l : List Sp) (n : Int) : hasB (s :: l) n = (hasB [s] n || hasB l n) := by
  by_cases h : 0 ≤ n ∧ n < farS
  · rw [hasB_in h.1 h.2, hasB_in h.1 h.2, hasB_in h.1 h.2]; simp
  · rw [hasB_out h, hasB_out h, hasB_out h]; rfl
theorem hasB_append (a b : List Sp) (n : Int) : hasB (a ++ b) n = (hasB a n || hasB b n) := by
  by_cases h : 0 ≤ n ∧ n < farS
  · rw [hasB_in h.1 h.2, hasB_in h.1 h.2, hasB_in h.1 h.2, List.any_append]
  · rw [hasB_out h, hasB_out h, hasB_out h]; rfl

/-- a canonical list whose spans begin above b -/
def CanF : Int → List Sp → Prop
  | _, [] => True
  | b, s :: r => b < s.1 ∧ s.1 < s.2 ∧ s.2 ≤ farS ∧ CanF s.2 r
def Canon (l : List Sp) : Prop := CanF (-1) l
theorem CanF.mono {b c : Int} {l : List Sp} (h : CanF b l) (hc : c ≤ b) : CanF c l := by
  cases l with
  | nil => exact h
  | cons s r => exact ⟨by have := h.1; omega, h.2⟩
theorem CanF.above : ∀ {b : Int} {l : List Sp}, CanF b l → ∀ n, n ≤ b → hasB l n = false
  | _, [], _, n, _ => hasB_nil n
  | b, s :: r, h, n, hn => by
    obtain ⟨h1, h2, h3, h4⟩ := h
    rw [hasB_cons, h4.above n (by omega), Bool.or_false]
    by_cases q : 0 ≤ n ∧ n < farS
    · rw [hasB_in q.1 q.2]; simp [inS]; omega
    · exact hasB_out q
theorem CanF.first {b : Int} {s : Sp} {r : List Sp} (h : CanF b (s :: r)) (hb : -1 ≤ b) {n : Int} (h0 : s.1 ≤ n) (h1 : n < s.2) : hasB (s :: r) n = true := by
  obtain ⟨g1, g2, g3, g4⟩ := h
  rw [hasB_in (by omega) (by omega)]
  simp [inS, h0, h1]
theorem has_rest {s : Sp} {r : List Sp} {n : Int} (hn : s.2 ≤ n) : hasB (s :: r) n = hasB r n := by
  rw [hasB_cons]
  have : hasB [s] n = false := by
    by_cases q : 0 ≤ n ∧ n < farS
    · rw [hasB_in q.1 q.2]; simp [inS]; omega
    · exact hasB_out q
  rw [this, Bool.false_or]
theorem can_ext : ∀ {b : Int} {x y : List Sp}, -1 ≤ b → CanF b x → CanF b y → (∀ n, hasB x n = hasB y n) → x = y
  | _, [], [], _, _, _, _ => rfl
  | b, [], s :: r, hb, _, hy, h => by
    have h1 := hy.first hb (Int.le_refl _) hy.2.1
    rw [← h, hasB_nil] at h1
    cases h1
  | b, s :: r, [], hb, hx, _, h => by
    have h1 := hx.first hb (Int.le_refl _) hx.2.1
    rw [h, hasB_nil] at h1
    cases h1
  | b, s :: r, s' :: r', hb, hx, hy, h => by
    have f1 : s'.1 ≤ s.1 := by
      refine Int.not_lt.1 fun q => ?_
      have h1 := hx.first hb (Int.le_refl _) hx.2.1
      rw [h] at h1
      have h2 : CanF s.1 (s' :: r') := ⟨q, hy.2⟩
      rw [h2.above _ (Int.le_refl _)] at h1
      cases h1
    have f2 : s.1 ≤ s'.1 := by
      refine Int.not_lt.1 fun q => ?_
      have h1 := hy.first hb (Int.le_refl _) hy.2.1
      rw [← h] at h1
      have h2 : CanF s'.1 (s :: r) := ⟨q, hx.2⟩
      rw [h2.above _ (Int.le_refl _)] at h1
      cases h1
    have t1 : s'.2 ≤ s.2 := by
      refine Int.not_lt.1 fun q => ?_
      have h1 := hy.first hb (n := s.2) (by have := hx.2.1; omega) q
      rw [← h, has_rest (Int.le_refl _), hx.2.2.2.above _ (Int.le_refl _)] at h1
      cases h1
    have t2 : s.2 ≤ s'.2 := by
      refine Int.not_lt.1 fun q => ?_
      have h1 := hx.first hb (n := s'.2) (by have := hy.2.1; omega) q
      rw [h, has_rest (Int.le_refl _), hy.2.2.2.above _ (Int.le_refl _)] at h1
      cases h1
    obtain rfl : s = s' := Prod.ext (by omega) (by omega)
    have hr : r = r' := can_ext (by have := hx.1; have := hx.2.1; omega) hx.2.2.2 hy.2.2.2 fun n => by
      by_cases q : n < s.2
      · rw [hx.2.2.2.above n (by omega), hy.2.2.2.above n (by omega)]
      · have h1 := h n
        rwa [has_rest (by omega), has_rest (by omega)] at h1
    rw [hr]
theorem canon_ext {x y : List Sp} (hx : Canon x) (hy : Canon y) (h : ∀ n, hasB x n = hasB y n) : x = y := can_ext (Int.le_refl _) hx hy h

/-- an end, within the bytes that there are -/
def clS (n : Int) : Int := min (max n 0) farS
/-- a rising row with one number more, once -/
def putI (l : List Int) (n : Int) : List Int :=
  let k := (l.takeWhile (fun x => decide (x < n))).length
  if l[k]? = some n then l else l.take k ++ [n] ++ l.drop k
/-- rising, each once, above b -/
def Ris : Int → List Int → Prop
  | _, [] => True
  | b, x :: r => b < x ∧ Ris x r
theorem Ris.mono {b c : Int} {l : List Int} (h : Ris b l) (hc : c ≤ b) : Ris c l := by
  cases l with
  | nil => exact h
  | cons s r => exact ⟨by have := h.1; omega, h.2⟩
theorem Ris.mem : ∀ {b : Int} {l : List Int}, Ris b l → ∀ x ∈ l, b < x
  | b, y :: r, h, x, hx => by
    rcases List.mem_cons.1 hx with rfl | hx
    · exact h.1
    · have := h.2.mem x hx; have := h.1; omega
theorem putI_nil (n : Int) : putI [] n = [n] := by simp [putI]
theorem putI_lt {x n : Int} (l : List Int) (h : x < n) : putI (x :: l) n = x :: putI l n := by
  unfold putI
  simp only [List.takeWhile_cons, h, decide_true, if_true, List.length_cons, List.getElem?_cons_succ]
  split <;> simp
theorem putI_eq (x : Int) (l : List Int) : putI (x :: l) x = x :: l := by
  unfold putI
  simp
theorem putI_gt {x n : Int} (l : List Int) (h : n < x) : putI (x :: l) n = n :: x :: l := by
  unfold putI
  have h1 : ¬ x < n := by omega
  simp [h1]
  omega
theorem Ris.put {n : Int} : ∀ {b : Int} {l : List Int}, Ris b l → b < n → Ris b (putI l n)
  | b, [], _, hn => by rw [putI_nil]; exact ⟨hn, trivial⟩
  | b, x :: l, h, hn => by
    rcases Int.lt_trichotomy x n with q | q | q
    · rw [putI_lt l q]; exact ⟨h.1, h.2.put q⟩
    · subst q; rw [putI_eq]; exact h
    · rw [putI_gt l q]; exact ⟨hn, q, h.2⟩
theorem mem_putI {n y : Int} : ∀ {b : Int} {l : List Int}, Ris b l → (y ∈ putI l n ↔ y = n ∨ y ∈ l)
  | b, [], _ => by rw [putI_nil]; simp
  | b, x :: l, h => by
    rcases Int.lt_trichotomy x n with q | q | q
    · rw [putI_lt l q, List.mem_cons, mem_putI h.2, List.mem_cons]
      constructor
      · rintro (h | h | h)
        · exact .inr (.inl h)
        · exact .inl h
        · exact .inr (.inr h)
      · rintro (h | h | h)
        · exact .inr (.inl h)
        · exact .inl h
        · exact .inr (.inr h)
    · subst q; rw [putI_eq, List.mem_cons]
      constructor
      · exact fun h => .inr h
      · rintro (h | h)
        · exact .inl h
        · exact h
    · rw [putI_gt l q, List.mem_cons]
def endsOf (es : List Int) (l : List Sp) : List Int := l.foldl (fun e s => putI (putI e (clS s.1)) (clS s.2)) es
theorem clS_bd (n : Int) : 0 ≤ clS n ∧ clS n ≤ farS := by unfold clS farS; omega
theorem endsOf_ris : ∀ (l : List Sp) (es : List Int), Ris (-1) es → Ris (-1) (endsOf es l)
  | [], es, h => h
  | s :: l, es, h => endsOf_ris l _ ((h.put (by have := clS_bd s.1; omega)).put (by have := clS_bd s.2; omega))
theorem endsOf_mem : ∀ (l : List Sp) (es : List Int) (y : Int), Ris (-1) es → (y ∈ endsOf es l ↔ y ∈ es ∨ ∃ s ∈ l, y = clS s.1 ∨ y = clS s.2)
  | [], es, y, _ => by simp [endsOf]
  | s :: l, es, y, h => by
    have h1 := h.put (n := clS s.1) (by have := clS_bd s.1; omega)
    have h2 := h1.put (n := clS s.2) (by have := clS_bd s.2; omega)
    show y ∈ endsOf (putI (putI es (clS s.1)) (clS s.2)) l ↔ _
    rw [endsOf_mem l _ y h2, mem_putI h1, mem_putI h]
    constructor
    · rintro ((h | h | h) | ⟨t, ht, h⟩)
      · exact .inr ⟨s, List.mem_cons_self, .inr h⟩
      · exact .inr ⟨s, List.mem_cons_self, .inl h⟩
      · exact .inl h
      · exact .inr ⟨t, List.mem_cons_of_mem _ ht, h⟩
    · rintro (h | ⟨t, ht, h⟩)
      · exact .inl (.inr (.inr h))
      · rcases List.mem_cons.1 ht with rfl | ht
        · rcases h with h | h
          · exact .inl (.inr (.inl h))
          · exact .inl (.inl h)
        · exact .inr ⟨t, ht, h⟩

/-- what is wanted of two lists: 1: the one or the other; 2: both; 3: the one alone -/
def opS (what : Int) (x y : Bool) : Bool := if what = 3 then x && !y else if what = 2 then x && y else x || y
/-- one part more -/
def outS (out : List Sp) (e e' : Int) (b : Bool) : List Sp :=
  if b then
    match out.getLast? with
    | some q => if q.2 = e then out.dropLast ++ [(q.1, e')] else out ++ [(e, e')]
    | none => [(e, e')]
  else out
theorem outS_no (out : List Sp) (e e' : Int) : outS out e e' false = out := rfl
theorem outS_nil (e e' : Int) : outS [] e e' true = [(e, e')] := rfl
theorem outS_join (r : List Sp) (f e e' : Int) : outS (r ++ [(f, e)]) e e' true = r ++ [(f, e')] := by
  unfold outS; simp
theorem outS_new (r : List Sp) {q : Sp} {e : Int} (h : q.2 ≠ e) (e' : Int) : outS (r ++ [q]) e e' true = r ++ [q, (e, e')] := by
  unfold outS; simp [h]
/-- the parts of the first i pairs of ends -/
def ofS (a b : List Sp) (what : Int) (es : List Int) : Nat → List Sp
  | 0 => []
  | i + 1 => outS (ofS a b what es i) (es.getD i 0) (es.getD (i + 1) 0) (opS what (hasB a (es.getD i 0)) (hasB b (es.getD i 0)))

def endF : Int → List Sp → Int
  | b, [] => b
  | _, s :: r => endF s.2 r
theorem can_snoc {q : Sp} : ∀ {b : Int} {r : List Sp}, CanF b (r ++ [q]) ↔ CanF b r ∧ endF b r < q.1 ∧ q.1 < q.2 ∧ q.2 ≤ farS
  | b, [] => by simp [CanF, endF]
  | b, s :: r => by
    show (b < s.1 ∧ s.1 < s.2 ∧ s.2 ≤ farS ∧ CanF s.2 (r ++ [q])) ↔ (b < s.1 ∧ s.1 < s.2 ∧ s.2 ≤ farS ∧ CanF s.2 r) ∧ endF s.2 r < q.1 ∧ _
    rw [can_snoc]
    constructor
    · rintro ⟨h1, h2, h3, h4, h5⟩; exact ⟨⟨h1, h2, h3, h4⟩, h5⟩
    · rintro ⟨⟨h1, h2, h3, h4⟩, h5⟩; exact ⟨h1, h2, h3, h4, h5⟩
theorem endF_snoc {q : Sp} : ∀ {b : Int} {r : List Sp}, endF b (r ++ [q]) = q.2
  | _, [] => rfl
  | _, s :: r => endF_snoc (b := s.2) (r := r)
theorem CanF.behind : ∀ {b : Int} {l : List Sp}, CanF b l → ∀ n, endF b l ≤ n → hasB l n = false
  | _, [], _, n, _ => hasB_nil n
  | b, s :: r, h, n, hn => by
    have h4 := h.2.2.2
    have h5 : s.2 ≤ endF s.2 r := CanF.le_end h4
    rw [has_rest (by have : endF s.2 r ≤ n := hn; omega)]
    exact h4.behind n hn
where
  CanF.le_end : ∀ {b : Int} {l : List Sp}, CanF b l → b ≤ endF b l
    | _, [], _ => Int.le_refl _
    | b, s :: r, h => by
      have h1 : s.2 ≤ endF s.2 r := CanF.le_end h.2.2.2
      have h2 := h.1
      have h3 := h.2.1
      show b ≤ endF s.2 r
      omega
theorem hasB_one {f t n : Int} (h0 : 0 ≤ n) (h1 : n < farS) : hasB [(f, t)] n = (decide (f ≤ n) && decide (n < t)) := by
  rw [hasB_in h0 h1]; simp [inS]
theorem snocS (l : List Sp) : l = [] ∨ ∃ r q, l = r ++ [q] := by
  rcases List.eq_nil_or_concat l with h | ⟨r, q, h⟩
  · exact .inl h
  · exact .inr ⟨r, q, by rw [h, List.concat_eq_append]⟩

/-- no number of the row lies between neighbours -/
theorem Ris.gap : ∀ {b : Int} {es : List Int}, Ris b es → ∀ i, i + 1 < es.length → es.getD i 0 < es.getD (i + 1) 0 ∧ ∀ x ∈ es, x ≤ es.getD i 0 ∨ es.getD (i + 1) 0 ≤ x
  | _, [], _, i, hi => by simp at hi
  | _, [x], _, i, hi => by simp at hi
  | b, x :: y :: r, h, 0, _ => by
    refine ⟨h.2.1, fun z hz => ?_⟩
    rcases List.mem_cons.1 hz with rfl | hz
    · exact .inl (Int.le_refl _)
    · rcases List.mem_cons.1 hz with rfl | hz
      · exact .inr (Int.le_refl _)
      · exact .inr (Int.le_of_lt (h.2.2.mem z hz))
  | b, x :: y :: r, h, i + 1, hi => by
    have ih := h.2.gap i (by simpa using hi)
    refine ⟨ih.1, fun z hz => ?_⟩
    rcases List.mem_cons.1 hz with rfl | hz
    · left
      have hm : (y :: r).getD i 0 ∈ y :: r := by
        have hl : i < (y :: r).length := by simp at hi ⊢; omega
        rw [List.getD_eq_getElem?_getD, List.getElem?_eq_getElem hl]
        exact List.getElem_mem hl
      exact Int.le_of_lt (h.2.mem _ hm)
    · exact ih.2 z hz
theorem Ris.first : ∀ {b : Int} {es : List Int}, Ris b es → ∀ x ∈ es, es.getD 0 0 ≤ x
  | b, y :: r, h, x, hx => by
    rcases List.mem_cons.1 hx with rfl | hx
    · exact Int.le_refl _
    · exact Int.le_of_lt (h.2.mem x hx)
theorem Ris.last : ∀ {b : Int} {es : List Int}, Ris b es → ∀ x ∈ es, x ≤ es.getD (es.length - 1) 0
  | b, [y], h, x, hx => by simp at hx; rw [hx]; exact Int.le_refl _
  | b, y :: z :: r, h, x, hx => by
    have ih := h.2.last
    have e : (y :: z :: r).getD ((y :: z :: r).length - 1) 0 = (z :: r).getD ((z :: r).length - 1) 0 := by simp
    rw [e]
    rcases List.mem_cons.1 hx with rfl | hx
    · exact Int.le_trans (Int.le_of_lt h.2.1) (ih z List.mem_cons_self)
    · exact ih x hx
theorem getD_mem {es : List Int} {i : Nat} (hi : i < es.length) : es.getD i 0 ∈ es := by
  rw [List.getD_eq_getElem?_getD, List.getElem?_eq_getElem hi]
  exact List.getElem_mem hi

/-- the ends that the document goes by -/
structure Ends (a : List Sp) (es : List Int) : Prop where
  ris : Ris (-1) es
  bd : ∀ x ∈ es, 0 ≤ x ∧ x ≤ farS
  has : ∀ s ∈ a, clS s.1 ∈ es ∧ clS s.2 ∈ es
theorem clS_in {n : Int} (h0 : 0 ≤ n) (h1 : n ≤ farS) : clS n = n := by unfold clS farS at *; omega
theorem Ends.same {a : List Sp} {es : List Int} (h : Ends a es) (i : Nat) (hi : i + 1 < es.length) (n : Int) (h0 : es.getD i 0 ≤ n) (h1 : n < es.getD (i + 1) 0) : hasB a n = hasB a (es.getD i 0) := by
  obtain ⟨hg, hgap⟩ := h.ris.gap i hi
  have b0 := h.bd _ (getD_mem (es := es) (i := i) (by omega))
  have b1 := h.bd _ (getD_mem (es := es) (i := i + 1) hi)
  generalize es.getD i 0 = e at *
  generalize es.getD (i + 1) 0 = e' at *
  rw [hasB_in (by omega) (by omega), hasB_in b0.1 (by omega)]
  have : ∀ s ∈ a, inS s n = inS s e := fun s hs => by
    obtain ⟨m1, m2⟩ := h.has s hs
    unfold inS
    have g1 : s.1 ≤ n ↔ s.1 ≤ e := by
      constructor
      · intro q
        refine Int.not_lt.1 fun x => ?_
        have hc := clS_in (n := s.1) (by omega) (by omega)
        rw [hc] at m1
        rcases hgap _ m1 with h | h <;> omega
      · intro q; omega
    have g2 : n < s.2 ↔ e < s.2 := by
      constructor
      · intro q; omega
      · intro q
        refine Int.not_le.1 fun x => ?_
        have hc := clS_in (n := s.2) (by omega) (by omega)
        rw [hc] at m2
        rcases hgap _ m2 with h | h <;> omega
    rw [decide_eq_decide.2 g1, decide_eq_decide.2 g2]
  rw [Bool.eq_iff_iff, List.any_eq_true, List.any_eq_true]
  constructor
  · rintro ⟨s, hs, h⟩; exact ⟨s, hs, by rw [← this s hs]; exact h⟩
  · rintro ⟨s, hs, h⟩; exact ⟨s, hs, by rw [this s hs]; exact h⟩
theorem has_not {a : List Sp} {n : Int} (h : ∀ s ∈ a, 0 ≤ n → n < farS → ¬ (s.1 ≤ n ∧ n < s.2)) : hasB a n = false := by
  by_cases q : 0 ≤ n ∧ n < farS
  · rw [hasB_in q.1 q.2]
    cases hx : a.any (fun s => inS s n)
    · rfl
    · obtain ⟨s, hs, hi⟩ := List.any_eq_true.1 hx
      simp [inS] at hi
      exact absurd hi (h s hs q.1 q.2)
  · exact hasB_out q
theorem Ends.low {a : List Sp} {es : List Int} (h : Ends a es) (n : Int) (hn : n < es.getD 0 0) : hasB a n = false :=
  has_not fun s hs h0 h1 q => by
    have h2 := h.ris.first _ (h.has s hs).1
    have h3 : clS s.1 ≤ n := by unfold clS farS at *; omega
    omega
theorem Ends.high {a : List Sp} {es : List Int} (h : Ends a es) (n : Int) (hn : es.getD (es.length - 1) 0 ≤ n) : hasB a n = false :=
  has_not fun s hs h0 h1 q => by
    have h2 := h.ris.last _ (h.has s hs).2
    have h3 : n < clS s.2 := by unfold clS farS at *; omega
    omega
theorem opS_ff (what : Int) : opS what false false = false := by unfold opS; split <;> (try split) <;> rfl

theorem ofS_inv {a b : List Sp} (what : Int) {es : List Int} (ha : Ends a es) (hb : Ends b es) : ∀ i, i < es.length →
    CanF (-1) (ofS a b what es i) ∧ endF (-1) (ofS a b what es i) ≤ es.getD i 0 ∧ ∀ n, n < es.getD i 0 → hasB (ofS a b what es i) n = opS what (hasB a n) (hasB b n)
  | 0, hi => by
    refine ⟨trivial, ?_, fun n hn => ?_⟩
    · have := (ha.bd _ (getD_mem hi)).1
      show (-1 : Int) ≤ _
      omega
    · rw [ha.low n hn, hb.low n hn, opS_ff]
      exact hasB_nil n
  | i + 1, hi => by
    obtain ⟨hc, he, hn⟩ := ofS_inv what ha hb i (by omega)
    have hg := (ha.ris.gap i hi).1
    have b0 := ha.bd _ (getD_mem (es := es) (i := i) (by omega))
    have b1 := ha.bd _ (getD_mem (es := es) (i := i + 1) hi)
    have hs : ∀ n, es.getD i 0 ≤ n → n < es.getD (i + 1) 0 → opS what (hasB a n) (hasB b n) = opS what (hasB a (es.getD i 0)) (hasB b (es.getD i 0)) := fun n h0 h1 => by
      rw [ha.same i hi n h0 h1, hb.same i hi n h0 h1]
    show CanF (-1) (outS (ofS a b what es i) (es.getD i 0) (es.getD (i + 1) 0) (opS what (hasB a (es.getD i 0)) (hasB b (es.getD i 0)))) ∧ endF (-1) (outS (ofS a b what es i) (es.getD i 0) (es.getD (i + 1) 0) (opS what (hasB a (es.getD i 0)) (hasB b (es.getD i 0)))) ≤ _ ∧ ∀ n, _ → hasB (outS (ofS a b what es i) (es.getD i 0) (es.getD (i + 1) 0) (opS what (hasB a (es.getD i 0)) (hasB b (es.getD i 0)))) n = _
    generalize es.getD i 0 = e at *
    generalize es.getD (i + 1) 0 = e' at *
    generalize ofS a b what es i = out at *
    cases hop : opS what (hasB a e) (hasB b e)
    · rw [outS_no]
      refine ⟨hc, by omega, fun n h => ?_⟩
      by_cases q : n < e
      · exact hn n q
      · rw [hs n (by omega) h, hop]
        exact hc.behind n (by omega)
    · have key : ∀ new : List Sp, (∀ n, n < e → hasB new n = hasB out n) → (∀ n, e ≤ n → n < e' → hasB new n = true) → ∀ n, n < e' → hasB new n = opS what (hasB a n) (hasB b n) := fun new h1 h2 n h => by
        by_cases q : n < e
        · rw [h1 n q, hn n q]
        · rw [h2 n (by omega) h, hs n (by omega) h, hop]
      rcases snocS out with rfl | ⟨r, ⟨f, t⟩, rfl⟩
      · rw [outS_nil]
        refine ⟨⟨by show (-1 : Int) < e; omega, hg, b1.2, trivial⟩, Int.le_refl _, key _ (fun n q => ?_) (fun n q1 q2 => ?_)⟩
        · rw [hasB_nil]
          by_cases z : 0 ≤ n ∧ n < farS
          · rw [hasB_one z.1 z.2]; simp; omega
          · exact hasB_out z
        · rw [hasB_one (by omega) (by omega)]; simp; omega
      · rw [endF_snoc] at he
        have hcs := can_snoc.1 hc
        by_cases hte : t = e
        · subst hte
          rw [outS_join]
          refine ⟨can_snoc.2 ⟨hcs.1, hcs.2.1, by have := hcs.2.2.1; show f < e'; omega, b1.2⟩, by rw [endF_snoc]; exact Int.le_refl _, key _ (fun n q => ?_) (fun n q1 q2 => ?_)⟩
          · rw [hasB_append, hasB_append]
            congr 1
            by_cases z : 0 ≤ n ∧ n < farS
            · rw [hasB_one z.1 z.2, hasB_one z.1 z.2, decide_eq_true (p := n < e') (by omega), decide_eq_true q]
            · rw [hasB_out z, hasB_out z]
          · rw [hasB_append, hasB_one (f := f) (by omega) (by omega)]
            have := hcs.2.2.1
            simp; right; exact ⟨by show f ≤ n; omega, q2⟩
        · rw [outS_new r (show ((f, t) : Sp).2 ≠ e from hte), show r ++ [(f, t), (e, e')] = (r ++ [(f, t)]) ++ [(e, e')] by simp]
          refine ⟨can_snoc.2 ⟨hc, by rw [endF_snoc]; show t < e; omega, hg, b1.2⟩, by rw [endF_snoc]; exact Int.le_refl _, key _ (fun n q => ?_) (fun n q1 q2 => ?_)⟩
          · rw [hasB_append (r ++ [(f, t)])]
            have : hasB [(e, e')] n = false := by
              by_cases z : 0 ≤ n ∧ n < farS
              · rw [hasB_one z.1 z.2]; simp; omega
              · exact hasB_out z
            rw [this, Bool.or_false]
          · rw [hasB_append (r ++ [(f, t)]), hasB_one (f := e) (by omega) (by omega)]
            simp; right; exact ⟨q1, q2⟩
/-- what the document makes of two lists -/
def refS (a b : List Sp) (what : Int) : List Sp := ofS a b what (endsOf (endsOf [] a) b) ((endsOf (endsOf [] a) b).length - 1)
theorem ends_all (a b : List Sp) : Ends a (endsOf (endsOf [] a) b) ∧ Ends b (endsOf (endsOf [] a) b) := by
  have h0 : Ris (-1) (endsOf [] a) := endsOf_ris a [] trivial
  have h1 : Ris (-1) (endsOf (endsOf [] a) b) := endsOf_ris b _ h0
  have hm := fun y => endsOf_mem b (endsOf [] a) y h0
  have hm0 := fun y => endsOf_mem a [] y trivial
  have hbd : ∀ x ∈ endsOf (endsOf [] a) b, 0 ≤ x ∧ x ≤ farS := fun x hx => by
    rcases (hm x).1 hx with h | ⟨s, _, h⟩
    · rcases (hm0 x).1 h with h | ⟨s, _, h⟩
      · simp at h
      · rcases h with rfl | rfl <;> exact clS_bd _
    · rcases h with rfl | rfl <;> exact clS_bd _
  refine ⟨⟨h1, hbd, fun s hs => ?_⟩, ⟨h1, hbd, fun s hs => ?_⟩⟩
  · exact ⟨(hm _).2 (.inl ((hm0 _).2 (.inr ⟨s, hs, .inl rfl⟩))), (hm _).2 (.inl ((hm0 _).2 (.inr ⟨s, hs, .inr rfl⟩)))⟩
  · exact ⟨(hm _).2 (.inr ⟨s, hs, .inl rfl⟩), (hm _).2 (.inr ⟨s, hs, .inr rfl⟩)⟩
theorem refS_ok (a b : List Sp) (what : Int) : Canon (refS a b what) ∧ ∀ n, hasB (refS a b what) n = opS what (hasB a n) (hasB b n) := by
  obtain ⟨ha, hb⟩ := ends_all a b
  unfold refS
  generalize endsOf (endsOf [] a) b = es at ha hb
  rcases Nat.eq_zero_or_pos es.length with h0 | h0
  · obtain rfl := List.eq_nil_of_length_eq_zero h0
    refine ⟨trivial, fun n => ?_⟩
    have e1 : hasB a n = false := has_not fun s hs => by have := (ha.has s hs).1; simp at this
    have e2 : hasB b n = false := has_not fun s hs => by have := (hb.has s hs).1; simp at this
    rw [e1, e2, opS_ff]
    exact hasB_nil n
  · obtain ⟨hc, he, hn⟩ := ofS_inv what ha hb (es.length - 1) (by omega)
    refine ⟨hc, fun n => ?_⟩
    by_cases q : n < es.getD (es.length - 1) 0
    · exact hn n q
    · rw [ha.high n (by omega), hb.high n (by omega), opS_ff]
      exact hc.behind n (by omega)
/-- a canonical list with the bytes that are wanted is the document's -/
theorem ref_unique {a b l : List Sp} {what : Int} (hc : Canon l) (h : ∀ n, hasB l n = opS what (hasB a n) (hasB b n)) : l = refS a b what :=
  canon_ext hc (refS_ok a b what).1 fun n => by rw [h, (refS_ok a b what).2]
end Go.Proofs.YtmigapjkicddiaaDoor
