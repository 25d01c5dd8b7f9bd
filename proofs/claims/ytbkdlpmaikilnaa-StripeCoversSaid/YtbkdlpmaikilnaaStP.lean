/- Striping over numbers, plain (no program): the place of a byte, the byte of a place, pieces, objects, room. -/
namespace Go.Proofs.Ytbkdlpmaikilnaa

/-- a layout that may be: units of u bytes, c objects of a set, m units of an object -/
structure LN (u c m : Nat) : Prop where
  u1 : 1 ≤ u
  c1 : 1 ≤ c
  c8 : c ≤ 8
  m1 : 1 ≤ m
  um : u * m ≤ 64

def pO (u c m off : Nat) : Nat := off / u / (m * c) * c + off / u % (m * c) % c
def pK (u c m off : Nat) : Nat := off / u % (m * c) / c * u + off % u
def bk (u c m ob k : Nat) : Nat := (ob / c * m * c + k / u * c + ob % c) * u + k % u

theorem dv {a b n : Nat} (h : b < n) : (a * n + b) / n = a := by
  rw [Nat.add_comm, Nat.add_mul_div_right _ _ (by omega), Nat.div_eq_of_lt h, Nat.zero_add]
theorem md {a b n : Nat} (h : b < n) : (a * n + b) % n = b := by
  rw [Nat.add_comm, Nat.add_mul_mod_self_right, Nat.mod_eq_of_lt h]

/-- the program's words for the place -/
theorem place_o (u c m off : Nat) : off / (u * m * c) * c + off % (u * m * c) % (u * c) / u = pO u c m off := by
  unfold pO
  rw [Nat.mul_assoc, Nat.mod_mul_right_div_self, Nat.mod_mul_right_div_self, Nat.div_div_eq_div_mul]
theorem place_k (u c m off : Nat) : off % (u * m * c) / (u * c) * u + off % (u * m * c) % (u * c) % u = pK u c m off := by
  unfold pK
  rw [Nat.mul_assoc, ← Nat.div_div_eq_div_mul, Nat.mod_mul_right_div_self, Nat.mod_mul_right_mod, Nat.mod_mul_right_mod]
theorem back_eq (u c m ob k : Nat) : ob / c * (u * m * c) + (k / u * c + ob % c) * u + k % u = bk u c m ob k := by
  unfold bk
  have h : ob / c * (u * m * c) = ob / c * m * c * u := by
    generalize ob / c = a
    simp only [Nat.mul_comm, Nat.mul_left_comm]
  rw [h, ← Nat.add_mul, Nat.add_assoc]

/-- the number of a byte, by its digits -/
def dig (u c m s row col x : Nat) : Nat := ((s * m + row) * c + col) * u + x
theorem dig_of {u c m : Nat} (h : LN u c m) (off : Nat) : ∃ s row col x, x < u ∧ col < c ∧ row < m ∧ off = dig u c m s row col x := by
  refine ⟨off / u / c / m, off / u / c % m, off / u % c, off % u, Nat.mod_lt _ h.u1, Nat.mod_lt _ h.c1, Nat.mod_lt _ h.m1, ?_⟩
  unfold dig
  rw [Nat.mul_comm (off / u / c / m), Nat.div_add_mod, Nat.mul_comm (off / u / c), Nat.div_add_mod, Nat.mul_comm (off / u), Nat.div_add_mod]
theorem dig_row {c m row col : Nat} (hc : col < c) (hr : row < m) : row * c + col < m * c := by
  have : (row + 1) * c ≤ m * c := Nat.mul_le_mul_right _ hr
  rw [Nat.add_mul, Nat.one_mul] at this
  omega
theorem dig_split (c m s row col : Nat) : (s * m + row) * c + col = s * (m * c) + (row * c + col) := by
  rw [Nat.add_mul, Nat.mul_assoc, Nat.add_assoc]
theorem pO_dig {u c m s row col x : Nat} (hx : x < u) (hc : col < c) (hr : row < m) : pO u c m (dig u c m s row col x) = s * c + col := by
  unfold pO dig
  rw [dv hx, dig_split, dv (dig_row hc hr), md (dig_row hc hr), md hc]
theorem pK_dig {u c m s row col x : Nat} (hx : x < u) (hc : col < c) (hr : row < m) : pK u c m (dig u c m s row col x) = row * u + x := by
  unfold pK dig
  rw [dv hx, md hx, dig_split, md (dig_row hc hr), dv hc]
theorem bk_dig {u c m s row col x : Nat} (hx : x < u) (hc : col < c) : bk u c m (s * c + col) (row * u + x) = dig u c m s row col x := by
  unfold bk dig
  rw [dv hc, md hc, dv hx, md hx, ← Nat.add_mul]
theorem pK_lt {u c m : Nat} (h : LN u c m) (off : Nat) : pK u c m off < u * m := by
  obtain ⟨s, row, col, x, hx, hc, hr, rfl⟩ := dig_of h off
  rw [pK_dig hx hc hr, Nat.mul_comm u m]
  exact dig_row hx hr
theorem bk_p {u c m : Nat} (h : LN u c m) (off : Nat) : bk u c m (pO u c m off) (pK u c m off) = off := by
  obtain ⟨s, row, col, x, hx, hc, hr, rfl⟩ := dig_of h off
  rw [pO_dig hx hc hr, pK_dig hx hc hr, bk_dig hx hc]
theorem dig_place {u c m : Nat} (h : LN u c m) (ob k : Nat) (hk : k < u * m) : ∃ s row col x, x < u ∧ col < c ∧ row < m ∧ ob = s * c + col ∧ k = row * u + x := by
  refine ⟨ob / c, k / u, ob % c, k % u, Nat.mod_lt _ h.u1, Nat.mod_lt _ h.c1, (Nat.div_lt_iff_lt_mul h.u1).2 (by rwa [Nat.mul_comm]), ?_, ?_⟩
  · rw [Nat.mul_comm, Nat.div_add_mod]
  · rw [Nat.mul_comm, Nat.div_add_mod]
theorem p_bk {u c m : Nat} (h : LN u c m) (ob k : Nat) (hk : k < u * m) : pO u c m (bk u c m ob k) = ob ∧ pK u c m (bk u c m ob k) = k := by
  obtain ⟨s, row, col, x, hx, hc, hr, rfl, rfl⟩ := dig_place h ob k hk
  rw [bk_dig hx hc]
  exact ⟨pO_dig hx hc hr, pK_dig hx hc hr⟩
theorem pK_mod {u c m : Nat} (off : Nat) : pK u c m off % u = off % u := by
  unfold pK
  rw [Nat.add_comm, Nat.add_mul_mod_self_right, Nat.mod_mod]
theorem p_in {u c m : Nat} (off j : Nat) (hj : off % u + j < u) : pO u c m (off + j) = pO u c m off ∧ pK u c m (off + j) = pK u c m off + j := by
  have h1 : off + j = off / u * u + (off % u + j) := by
    have := Nat.div_add_mod off u
    rw [Nat.mul_comm] at this
    omega
  have h2 : (off + j) / u = off / u := by rw [h1, dv hj]
  have h3 : (off + j) % u = off % u + j := by rw [h1, md hj]
  unfold pO pK
  rw [h2, h3]
  exact ⟨rfl, by omega⟩

/-- the next byte -/
theorem dig_succ {u c m s row col x : Nat} (hx : x < u) (hc : col < c) (hr : row < m) :
    (x + 1 < u ∧ dig u c m s row col x + 1 = dig u c m s row col (x + 1)) ∨
    (x + 1 = u ∧ col + 1 < c ∧ dig u c m s row col x + 1 = dig u c m s row (col + 1) 0) ∨
    (x + 1 = u ∧ col + 1 = c ∧ row + 1 < m ∧ dig u c m s row col x + 1 = dig u c m s (row + 1) 0 0) ∨
    (x + 1 = u ∧ col + 1 = c ∧ row + 1 = m ∧ dig u c m s row col x + 1 = dig u c m (s + 1) 0 0 0) := by
  unfold dig
  by_cases h1 : x + 1 < u
  · exact .inl ⟨h1, by omega⟩
  · have e1 : x + 1 = u := by omega
    have f1 : ((s * m + row) * c + col) * u + x + 1 = ((s * m + row) * c + (col + 1)) * u := by
      rw [← Nat.add_assoc ((s * m + row) * c), Nat.add_mul _ 1 u, Nat.one_mul]; omega
    by_cases h2 : col + 1 < c
    · exact .inr (.inl ⟨e1, h2, by rw [f1]; rfl⟩)
    · have e2 : col + 1 = c := by omega
      have f2 : (s * m + row) * c + (col + 1) = (s * m + (row + 1)) * c := by
        rw [← Nat.add_assoc (s * m), Nat.add_mul _ 1 c, Nat.one_mul, e2]
      by_cases h3 : row + 1 < m
      · exact .inr (.inr (.inl ⟨e1, e2, h3, by rw [f1, f2]; rfl⟩))
      · have e3 : row + 1 = m := by omega
        exact .inr (.inr (.inr ⟨e1, e2, e3, by rw [f1, f2, e3, ← Nat.succ_mul]; rfl⟩))

/-- objects, in the program's words -/
def objs (u c m n : Nat) : Nat := n / (u * m * c) * c + min ((n % (u * m * c) + u - 1) / u) c
def room (u c m ob n : Nat) : Nat :=
  min (n - ob / c * (u * m * c)) (u * m * c) / (u * c) * u + min (min (n - ob / c * (u * m * c)) (u * m * c) % (u * c) - ob % c * u) u
theorem dig_T (u c m s row col x : Nat) : dig u c m s row col x = s * (u * m * c) + ((row * c + col) * u + x) := by
  unfold dig
  rw [dig_split c m s row col, Nat.add_mul, Nat.add_assoc]
  congr 1
  rw [Nat.mul_assoc u m c, Nat.mul_comm u (m * c), Nat.mul_assoc s (m * c) u]
theorem dig_r {u c m row col x : Nat} (hx : x < u) (hc : col < c) (hr : row < m) : (row * c + col) * u + x < u * m * c := by
  have := dig_row hx (dig_row hc hr)
  rw [Nat.mul_assoc, Nat.mul_comm u (m * c)]
  exact this
theorem objs_dig {u c m s row col x : Nat} (hx : x < u) (hc : col < c) (hr : row < m) :
    objs u c m (dig u c m s row col x) = s * c + min (row * c + col + (if x = 0 then 0 else 1)) c := by
  unfold objs
  rw [dig_T, dv (dig_r hx hc hr), md (dig_r hx hc hr)]
  congr 2
  by_cases h0 : x = 0
  · subst h0
    rw [if_pos rfl, Nat.add_zero, Nat.add_sub_assoc (by omega), dv (by omega), Nat.add_zero]
  · rw [if_neg h0, show (row * c + col) * u + x + u - 1 = (row * c + col + 1) * u + (x - 1) by rw [Nat.add_mul _ 1 u, Nat.one_mul]; omega, dv (by omega)]
theorem room_dig {u c m s row col x s' col' : Nat} (hx : x < u) (hc : col < c) (hr : row < m) (hc' : col' < c) :
    room u c m (s' * c + col') (dig u c m s row col x) = if s' < s then m * u else if s < s' then 0 else row * u + (if col' < col then u else if col' = col then x else 0) := by
  unfold room
  rw [dv hc', md hc', dig_T]
  have hr1 := dig_r (u := u) hx hc hr
  generalize hT : u * m * c = T at hr1
  have hT2 : T = m * (u * c) + 0 := by rw [← hT, Nat.add_zero, Nat.mul_comm u m, Nat.mul_assoc]
  have huc : 0 < u * c := Nat.mul_pos (by omega) (by omega)
  generalize hrr : (row * c + col) * u + x = r at hr1
  by_cases h1 : s' < s
  · have : (s' + 1) * T ≤ s * T := Nat.mul_le_mul_right _ h1
    rw [Nat.add_mul, Nat.one_mul] at this
    rw [if_pos h1, show min (s * T + r - s' * T) T = T by omega, hT2, dv huc, md huc]
    omega
  · by_cases h2 : s < s'
    · have : (s + 1) * T ≤ s' * T := Nat.mul_le_mul_right _ h2
      rw [Nat.add_mul, Nat.one_mul] at this
      rw [if_neg h1, if_pos h2, show min (s * T + r - s' * T) T = 0 by omega, Nat.zero_div, Nat.zero_mul, Nat.zero_mod]
      omega
    · obtain rfl : s = s' := by omega
      rw [if_neg h1, if_neg h2, show min (s * T + r - s * T) T = r by omega, ← hrr]
      have h3 : (row * c + col) * u + x = row * (u * c) + (col * u + x) := by
        rw [Nat.add_mul, Nat.add_assoc, Nat.mul_assoc, Nat.mul_comm c u]
      have h4 : col * u + x < u * c := by rw [Nat.mul_comm u c]; exact dig_row hx hc
      rw [h3, dv h4, md h4]
      congr 1
      by_cases h5 : col' < col
      · have : (col' + 1) * u ≤ col * u := Nat.mul_le_mul_right _ h5
        rw [Nat.add_mul, Nat.one_mul] at this
        rw [if_pos h5]
        omega
      · by_cases h6 : col' = col
        · subst h6
          rw [if_neg h5, if_pos rfl]
          omega
        · have : (col + 1) * u ≤ col' * u := Nat.mul_le_mul_right _ (by omega)
          rw [Nat.add_mul, Nat.one_mul] at this
          rw [if_neg h5, if_neg h6]
          omega

theorem objs_zero {u c m : Nat} (h : LN u c m) : objs u c m 0 = 0 := by
  have h1 := objs_dig (s := 0) (row := 0) (col := 0) (x := 0) h.u1 h.c1 h.m1
  have h2 : dig u c m 0 0 0 0 = 0 := by unfold dig; omega
  rw [h2, if_pos rfl] at h1
  rw [h1]
  omega
theorem objs_succ {u c m : Nat} (h : LN u c m) (n : Nat) : objs u c m (n + 1) = max (objs u c m n) (pO u c m n + 1) := by
  obtain ⟨s, row, col, x, hx, hc, hr, rfl⟩ := dig_of h n
  rw [pO_dig hx hc hr, objs_dig hx hc hr]
  have hrow : row = 0 ∨ c ≤ row * c := by
    rcases Nat.eq_zero_or_pos row with h | h
    · exact .inl h
    · right
      have := Nat.mul_le_mul_right c h
      omega
  have hz : row = 0 → row * c = 0 := by rintro rfl; omega
  rcases dig_succ (s := s) hx hc hr with ⟨h1, e⟩ | ⟨h1, h2, e⟩ | ⟨h1, h2, h3, e⟩ | ⟨h1, h2, h3, e⟩
  · rw [e, objs_dig h1 hc hr, if_neg (by omega)]
    split <;> omega
  · rw [e, objs_dig h.u1 h2 hr, if_pos rfl]
    split <;> omega
  · rw [e, objs_dig h.u1 h.c1 h3, if_pos rfl, Nat.add_mul, Nat.one_mul]
    split <;> omega
  · rw [e, objs_dig h.u1 h.c1 h.m1, if_pos rfl, Nat.add_mul, Nat.one_mul]
    split <;> omega
theorem room_zero (u c m ob : Nat) : room u c m ob 0 = 0 := by
  unfold room
  simp
theorem room_at {u c m : Nat} (h : LN u c m) (n : Nat) : room u c m (pO u c m n) n = pK u c m n := by
  obtain ⟨s, row, col, x, hx, hc, hr, rfl⟩ := dig_of h n
  rw [pO_dig hx hc hr, pK_dig hx hc hr, room_dig hx hc hr hc]
  simp
theorem room_succ {u c m : Nat} (h : LN u c m) (ob n : Nat) : room u c m ob (n + 1) = room u c m ob n + (if pO u c m n = ob then 1 else 0) := by
  obtain ⟨s, row, col, x, hx, hc, hr, rfl⟩ := dig_of h n
  obtain ⟨s', col', hc', rfl⟩ : ∃ s' col', col' < c ∧ ob = s' * c + col' := ⟨ob / c, ob % c, Nat.mod_lt _ h.c1, by rw [Nat.mul_comm, Nat.div_add_mod]⟩
  rw [pO_dig hx hc hr, room_dig hx hc hr hc']
  have hiff : s * c + col = s' * c + col' ↔ s = s' ∧ col = col' := by
    constructor
    · intro e
      have e1 := congrArg (· / c) e
      have e2 := congrArg (· % c) e
      simp only [dv hc, dv hc', md hc, md hc'] at e1 e2
      exact ⟨e1, e2⟩
    · rintro ⟨rfl, rfl⟩; rfl
  rcases dig_succ (s := s) hx hc hr with ⟨h1, e⟩ | ⟨h1, h2, e⟩ | ⟨h1, h2, h3, e⟩ | ⟨h1, h2, h3, e⟩
  · rw [e, room_dig h1 hc hr hc']
    by_cases ho : s * c + col = s' * c + col'
    · obtain ⟨rfl, rfl⟩ := hiff.1 ho
      rw [if_pos rfl]
      repeat' split
      all_goals omega
    · have hn : ¬(s = s' ∧ col = col') := fun q => ho (hiff.2 q)
      rw [if_neg ho]
      repeat' split
      all_goals omega
  · rw [e, room_dig h.u1 h2 hr hc']
    by_cases ho : s * c + col = s' * c + col'
    · obtain ⟨rfl, rfl⟩ := hiff.1 ho
      rw [if_pos rfl]
      repeat' split
      all_goals omega
    · have hn : ¬(s = s' ∧ col = col') := fun q => ho (hiff.2 q)
      rw [if_neg ho]
      repeat' split
      all_goals omega
  · rw [e, room_dig h.u1 h.c1 h3 hc', Nat.add_mul, Nat.one_mul]
    by_cases ho : s * c + col = s' * c + col'
    · obtain ⟨rfl, rfl⟩ := hiff.1 ho
      rw [if_pos rfl]
      repeat' split
      all_goals omega
    · have hn : ¬(s = s' ∧ col = col') := fun q => ho (hiff.2 q)
      rw [if_neg ho]
      repeat' split
      all_goals omega
  · rw [e, room_dig h.u1 h.c1 h.m1 hc', ← h3, Nat.add_mul, Nat.one_mul, Nat.zero_mul]
    by_cases ho : s * c + col = s' * c + col'
    · obtain ⟨rfl, rfl⟩ := hiff.1 ho
      rw [if_pos rfl]
      repeat' split
      all_goals omega
    · have hn : ¬(s = s' ∧ col = col') := fun q => ho (hiff.2 q)
      rw [if_neg ho]
      repeat' split
      all_goals omega

/-- a piece -/
structure Pc where
  o : Nat
  k : Nat
  l : Nat
  f : Nat
def nxt (q p : Pc) : Bool := q.o == p.o && q.k + q.l == p.k
/-- a piece more: joined to the last one where it goes on there -/
def addP (l : List Pc) (p : Pc) : List Pc :=
  match l.getLast? with
  | none => [p]
  | some q => if nxt q p then l.dropLast ++ [⟨q.o, q.k, q.l + p.l, q.f⟩] else l ++ [p]
theorem addP_nil (p : Pc) : addP [] p = [p] := rfl
theorem addP_yes {l : List Pc} {q p : Pc} (h : nxt q p = true) : addP (l ++ [q]) p = l ++ [⟨q.o, q.k, q.l + p.l, q.f⟩] := by
  unfold addP
  simp [h]
theorem addP_no {l : List Pc} {q p : Pc} (h : nxt q p = false) : addP (l ++ [q]) p = l ++ [q, p] := by
  unfold addP
  simp [h]
theorem snoc_cases {α : Type} (l : List α) : l = [] ∨ ∃ r q, l = r ++ [q] := by
  rcases List.eq_nil_or_concat l with h | ⟨r, q, h⟩
  · exact .inl h
  · exact .inr ⟨r, q, by rw [h, List.concat_eq_append]⟩
theorem nxt_self (o k a b f g : Nat) : nxt ⟨o, k, a, f⟩ ⟨o, k + a, b, g⟩ = true := by simp [nxt]
/-- a piece that goes on where the one ahead of it ends makes it longer -/
theorem addP_addP (l : List Pc) (o k a b f g : Nat) : addP (addP l ⟨o, k, a, f⟩) ⟨o, k + a, b, g⟩ = addP l ⟨o, k, a + b, f⟩ := by
  rcases snoc_cases l with rfl | ⟨r, q, rfl⟩
  · rw [addP_nil, addP_nil]
    exact addP_yes (l := []) (nxt_self o k a b f g)
  · cases h : nxt q ⟨o, k, a, f⟩
    · have h2 : nxt q ⟨o, k, a + b, f⟩ = false := h
      rw [addP_no h, addP_no h2, show r ++ [q, ⟨o, k, a, f⟩] = (r ++ [q]) ++ [⟨o, k, a, f⟩] by simp, addP_yes (nxt_self o k a b f g)]
      simp
    · have h2 : nxt q ⟨o, k, a + b, f⟩ = true := h
      have h3 : q.o = o ∧ q.k + q.l = k := by simpa [nxt] using h
      have h4 : nxt ⟨q.o, q.k, q.l + a, q.f⟩ ⟨o, k + a, b, g⟩ = true := by
        simp [nxt]
        omega
      rw [addP_yes h, addP_yes h2, addP_yes h4]
      simp [Nat.add_assoc]

/-- the pieces of the first n bytes from off on, byte by byte -/
def pcs (u c m off : Nat) : Nat → List Pc
  | 0 => []
  | i + 1 => addP (pcs u c m off i) ⟨pO u c m (off + i), pK u c m (off + i), 1, i⟩
theorem pcs_unit (u c m off f : Nat) : ∀ j : Nat, 1 ≤ j → (off + f) % u + j ≤ u → pcs u c m off (f + j) = addP (pcs u c m off f) ⟨pO u c m (off + f), pK u c m (off + f), j, f⟩
  | 1, _, _ => rfl
  | j + 2, _, h => by
    have ih := pcs_unit u c m off f (j + 1) (by omega) (by omega)
    have hp := p_in (u := u) (c := c) (m := m) (off + f) (j + 1) (by omega)
    rw [Nat.add_assoc] at hp
    show addP (pcs u c m off (f + (j + 1))) ⟨pO u c m (off + (f + (j + 1))), pK u c m (off + (f + (j + 1))), 1, f + (j + 1)⟩ = _
    rw [ih, hp.1, hp.2, addP_addP]
theorem addP_len (l : List Pc) (p : Pc) : (addP l p).length ≤ l.length + 1 := by
  rcases snoc_cases l with rfl | ⟨r, q, rfl⟩
  · simp [addP_nil]
  · cases h : nxt q p
    · rw [addP_no h]; simp
    · rw [addP_yes h]; simp
theorem pcs_len (u c m off : Nat) : ∀ n, (pcs u c m off n).length ≤ n
  | 0 => Nat.le_refl _
  | n + 1 => Nat.le_trans (addP_len _ _) (Nat.succ_le_succ (pcs_len u c m off n))

/-- pieces that have all bytes from off to off + n, each once, each where it lies -/
inductive Cov (u c m off : Nat) : Nat → List Pc → Prop
  | nil : Cov u c m off 0 []
  | snoc {f : Nat} {l : List Pc} {q : Pc} (h : Cov u c m off f l) (hf : q.f = f) (hl : 1 ≤ q.l) (hk : q.k + q.l ≤ u * m) (hb : ∀ k, k < q.l → bk u c m q.o (q.k + k) = off + f + k) (hn : ∀ p, l.getLast? = some p → nxt p q = false) :
      Cov u c m off (f + q.l) (l ++ [q])
def sumL (l : List Pc) : Nat := (l.map (·.l)).sum
theorem Cov.sum {u c m off n : Nat} {l : List Pc} (h : Cov u c m off n l) : n = sumL l := by
  induction h with
  | nil => rfl
  | snoc h hf hl hk hb hn ih => simp [sumL] at ih ⊢; omega
theorem Cov.inv {u c m off n : Nat} {l : List Pc} {q : Pc} (h : Cov u c m off n (l ++ [q])) :
    ∃ f, Cov u c m off f l ∧ q.f = f ∧ 1 ≤ q.l ∧ q.k + q.l ≤ u * m ∧ (∀ k, k < q.l → bk u c m q.o (q.k + k) = off + f + k) ∧ (∀ p, l.getLast? = some p → nxt p q = false) ∧ n = f + q.l := by
  generalize he : l ++ [q] = l' at h
  cases h with
  | nil => simp at he
  | snoc h hf hl hk hb hn =>
    obtain ⟨e1, e2⟩ := List.append_inj' he rfl
    obtain rfl := e1
    obtain rfl := (List.cons.inj e2).1
    exact ⟨_, h, hf, hl, hk, hb, hn, rfl⟩
theorem Cov.step {u c m off n : Nat} {l : List Pc} (hL : LN u c m) (h : Cov u c m off n l) : Cov u c m off (n + 1) (addP l ⟨pO u c m (off + n), pK u c m (off + n), 1, n⟩) := by
  have hlt := pK_lt hL (off + n)
  have hbp := bk_p hL (off + n)
  rcases snoc_cases l with rfl | ⟨r, q, rfl⟩
  · rw [addP_nil]
    have hn : n = 0 := h.sum
    subst hn
    refine Cov.snoc (l := []) (q := ⟨pO u c m (off + 0), pK u c m (off + 0), 1, 0⟩) .nil rfl (Nat.le_refl _) hlt ?_ (by simp)
    intro k hk
    obtain rfl : k = 0 := by simp at hk; omega
    exact hbp
  · cases hx : nxt q ⟨pO u c m (off + n), pK u c m (off + n), 1, n⟩
    · rw [addP_no hx, show r ++ [q, ⟨pO u c m (off + n), pK u c m (off + n), 1, n⟩] = (r ++ [q]) ++ [⟨pO u c m (off + n), pK u c m (off + n), 1, n⟩] by simp]
      refine Cov.snoc (q := ⟨pO u c m (off + n), pK u c m (off + n), 1, n⟩) h rfl (Nat.le_refl _) hlt ?_ ?_
      · intro k hk
        obtain rfl : k = 0 := by simp at hk; omega
        exact hbp
      · intro p hp
        rw [List.getLast?_concat] at hp
        cases hp
        exact hx
    · rw [addP_yes hx]
      have h3 : q.o = pO u c m (off + n) ∧ q.k + q.l = pK u c m (off + n) := by simpa [nxt] using hx
      obtain ⟨f, hc, hf, hl, hk, hb, hn, rfl⟩ := h.inv
      refine Cov.snoc (q := ⟨q.o, q.k, q.l + 1, q.f⟩) hc hf (by show 1 ≤ q.l + 1; omega) (by show q.k + (q.l + 1) ≤ _; omega) ?_ hn
      intro k hk2
      have hk3 : k < q.l + 1 := hk2
      by_cases hkl : k < q.l
      · exact hb k hkl
      · obtain rfl : k = q.l := by omega
        show bk u c m q.o (q.k + q.l) = _
        rw [h3.2, h3.1, hbp, Nat.add_assoc]
theorem cov_pcs {u c m : Nat} (hL : LN u c m) (off : Nat) : ∀ n, Cov u c m off n (pcs u c m off n)
  | 0 => .nil
  | n + 1 => (cov_pcs hL off n).step hL
theorem Cov.take {u c m off n : Nat} {l : List Pc} (h : Cov u c m off n l) : ∀ i, i ≤ l.length → ∃ f, Cov u c m off f (l.take i) := by
  induction h with
  | nil => intro i hi; exact ⟨0, by simpa using Cov.nil⟩
  | @snoc f l q h hf hl hk hb hn ih =>
    intro i hi
    by_cases hil : i ≤ l.length
    · rw [List.take_append_of_le_length hil]
      exact ih i hil
    · rw [List.take_of_length_le (by simp at hi ⊢; omega)]
      exact ⟨_, Cov.snoc h hf hl hk hb hn⟩
/-- what the walk over pieces meets at number i -/
theorem cov_at {u c m off n : Nat} {l : List Pc} (h : Cov u c m off n l) (i : Nat) (hi : i < l.length) :
    l[i].f = sumL (l.take i) ∧ 1 ≤ l[i].l ∧ l[i].k + l[i].l ≤ u * m ∧ (∀ k, k < l[i].l → bk u c m l[i].o (l[i].k + k) = off + sumL (l.take i) + k) ∧ (∀ h0 : 0 < i, nxt (l[i - 1]'(by omega)) l[i] = false) ∧ sumL (l.take (i + 1)) = sumL (l.take i) + l[i].l := by
  obtain ⟨f', h'⟩ := h.take (i + 1) hi
  rw [List.take_succ_eq_append_getElem hi] at h' ⊢
  obtain ⟨f, hc, hf, hl, hk, hb, hn, he⟩ := h'.inv
  have hs := hc.sum
  subst hs
  refine ⟨hf, hl, hk, hb, fun h0 => hn _ ?_, ?_⟩
  · rw [List.getLast?_eq_getElem?, List.length_take, List.getElem?_take_of_lt (by omega), Nat.min_eq_left (by omega), List.getElem?_eq_getElem]
  · exact h'.sum.symm.trans he

/-- the reference's ways: byte by byte -/
def mxO (u c m : Nat) : Nat → Nat
  | 0 => 0
  | i + 1 => max (mxO u c m i) (pO u c m i + 1)
def mxR (u c m ob : Nat) : Nat → Nat
  | 0 => 0
  | i + 1 => if pO u c m i = ob then max (mxR u c m ob i) (pK u c m i + 1) else mxR u c m ob i
theorem mxO_eq {u c m : Nat} (h : LN u c m) : ∀ n, mxO u c m n = objs u c m n
  | 0 => (objs_zero h).symm
  | n + 1 => by rw [mxO, mxO_eq h n, objs_succ h]
theorem mxR_eq {u c m : Nat} (h : LN u c m) (ob : Nat) : ∀ n, mxR u c m ob n = room u c m ob n
  | 0 => (room_zero u c m ob).symm
  | n + 1 => by
    rw [mxR, mxR_eq h ob n, room_succ h]
    by_cases ho : pO u c m n = ob
    · subst ho
      rw [if_pos rfl, if_pos rfl, room_at h]
      omega
    · rw [if_neg ho, if_neg ho, Nat.add_zero]

theorem room_le {u c m : Nat} (h : LN u c m) (ob : Nat) : ∀ n, room u c m ob n ≤ u * m
  | 0 => by rw [room_zero]; omega
  | n + 1 => by
    rw [room_succ h]
    by_cases ho : pO u c m n = ob
    · subst ho
      rw [if_pos rfl, room_at h]
      exact pK_lt h n
    · rw [if_neg ho]
      exact room_le h ob n
theorem room_lt {u c m : Nat} (h : LN u c m) (ob k : Nat) : ∀ n, k < room u c m ob n → bk u c m ob k < n
  | 0, hk => by rw [room_zero] at hk; omega
  | n + 1, hk => by
    rw [room_succ h] at hk
    by_cases ho : pO u c m n = ob
    · subst ho
      rw [if_pos rfl] at hk
      by_cases hk2 : k < room u c m (pO u c m n) n
      · exact Nat.lt_succ_of_lt (room_lt h _ k n hk2)
      · obtain rfl : k = room u c m (pO u c m n) n := by omega
        rw [room_at h, bk_p h]
        exact Nat.lt_succ_self _
    · rw [if_neg ho] at hk
      exact Nat.lt_succ_of_lt (room_lt h _ k n hk)
theorem room_mono {u c m : Nat} (h : LN u c m) (ob : Nat) {a b : Nat} (hab : a ≤ b) : room u c m ob a ≤ room u c m ob b := by
  induction hab with
  | refl => exact Nat.le_refl _
  | step _ ih => rw [room_succ h]; omega
theorem room_ge {u c m : Nat} (h : LN u c m) (ob n : Nat) (hk : room u c m ob n < u * m) : n ≤ bk u c m ob (room u c m ob n) := by
  refine Nat.le_of_not_lt fun hlt => ?_
  have h1 := p_bk h ob _ hk
  generalize bk u c m ob (room u c m ob n) = j at h1 hlt
  have h2 := room_mono h ob (a := j + 1) (b := n) hlt
  rw [room_succ h, if_pos h1.1] at h2
  have h3 := room_at h j
  rw [h1.1, h1.2] at h3
  omega
theorem pO_objs {u c m : Nat} (h : LN u c m) (j : Nat) : ∀ n, j < n → pO u c m j < objs u c m n
  | n + 1, hj => by
    rw [objs_succ h]
    by_cases e : j = n
    · subst e; omega
    · have := pO_objs h j n (by omega)
      omega
theorem room_none {u c m : Nat} (h : LN u c m) (ob : Nat) : ∀ n, objs u c m n ≤ ob → room u c m ob n = 0
  | 0, _ => room_zero u c m ob
  | n + 1, hn => by
    rw [objs_succ h] at hn
    rw [room_succ h, room_none h ob n (by omega), if_neg (by omega)]
theorem room_last {u c m : Nat} (h : LN u c m) : ∀ n, objs u c m n ≠ 0 → 0 < room u c m (objs u c m n - 1) n
  | 0, hn => absurd (objs_zero h) hn
  | n + 1, _ => by
    have hs := objs_succ h n
    by_cases e : objs u c m n ≤ pO u c m n
    · rw [hs, show max (objs u c m n) (pO u c m n + 1) - 1 = pO u c m n by omega, room_succ h, if_pos rfl]
      omega
    · rw [hs, show max (objs u c m n) (pO u c m n + 1) = objs u c m n by omega]
      exact Nat.lt_of_lt_of_le (room_last h n (by omega)) (room_mono h _ (Nat.le_succ n))
/-- the rooms of the first i objects -/
def sumR (u c m n : Nat) : Nat → Nat
  | 0 => 0
  | i + 1 => sumR u c m n i + room u c m i n
theorem sumR_zero (u c m : Nat) : ∀ i, sumR u c m 0 i = 0
  | 0 => rfl
  | i + 1 => by rw [sumR, sumR_zero u c m i, room_zero]
theorem sumR_succ {u c m : Nat} (h : LN u c m) (n : Nat) : ∀ i, sumR u c m (n + 1) i = sumR u c m n i + (if pO u c m n < i then 1 else 0)
  | 0 => rfl
  | i + 1 => by
    rw [sumR, sumR, sumR_succ h n i, room_succ h]
    by_cases h1 : pO u c m n < i
    · rw [if_pos h1, if_neg (by omega), if_pos (by omega)]; omega
    · by_cases h2 : pO u c m n = i
      · rw [if_neg h1, if_pos h2, if_pos (by omega)]; omega
      · rw [if_neg h1, if_neg h2, if_neg (by omega)]; omega
theorem sumR_all {u c m : Nat} (h : LN u c m) (i : Nat) : ∀ n, (∀ j, j < n → pO u c m j < i) → sumR u c m n i = n
  | 0, _ => sumR_zero u c m i
  | n + 1, hj => by rw [sumR_succ h, sumR_all h i n (fun j q => hj j (by omega)), if_pos (hj n (by omega))]
theorem sumR_objs {u c m : Nat} (h : LN u c m) (n : Nat) : sumR u c m n (objs u c m n) = n := sumR_all h _ n (fun j hj => pO_objs h j n hj)
end Go.Proofs.Ytbkdlpmaikilnaa
