/- Striping over numbers, plain (no program): the place of a byte, the byte of a place, pieces, objects, room. Sets of bytes as lists of spans, plain (no program): members, canonical lists, that two canonical lists with the same members are one; the document's way by ends. -/

namespace Go.Proofs.Ytaobdebeglenaaa

/-- a layout that may be: units of u bytes, c objects of a set, m units of an object -/
structure LN (u c m : Nat) : Prop where
  u1 : 1 ≤ u
  c1 : 1 ≤ c
  c8 : c ≤ 8
  m1 : 1 ≤ m
  um : u * m ≤ 64

def pO (u c m off : Nat) : Nat := off / u / (m * c) * c + off / u % (m * c) % c
def pK (u c m off : Nat) : Nat := off / u % (m * c) / c * u + off % u
def bk (u c m ob k : Nat) : Nat := (ob / c * m * c + k / u * c + ob % c) * u + k % u

theorem dv {a b n : Nat} (h : b < n) : (a * n + b) / n = a := by
  rw [Nat.add_comm, Nat.add_mul_div_right _ _ (by omega), Nat.div_eq_of_lt h, Nat.zero_add]
theorem md {a b n : Nat} (h : b < n) : (a * n + b) % n = b := by
  rw [Nat.add_comm, Nat.add_mul_mod_self_right, Nat.mod_eq_of_lt h]

/-- the program's words for the place -/
theorem place_o (u c m off : Nat) : off / (u * m * c) * c + off % (u * m * c) % (u * c) / u = pO u c m off := by
  unfold pO
  rw [Nat.mul_assoc, Nat.mod_mul_right_div_self, Nat.mod_mul_right_div_self, Nat.div_div_eq_div_mul]
theorem place_k (u c m off : Nat) : off % (u * m * c) / (u * c) * u + off % (u * m * c) % (u * c) % u = pK u c m off := by
  unfold pK
  rw [Nat.mul_assoc, ← Nat.div_div_eq_div_mul, Nat.mod_mul_right_div_self, Nat.mod_mul_right_mod, Nat.mod_mul_right_mod]
theorem back_eq (u c m ob k : Nat) : ob / c * (u * m * c) + (k / u * c + ob % c) * u + k % u = bk u c m ob k := by
  unfold bk
  have h : ob / c * (u * m * c) = ob / c * m * c * u := by
    generalize ob / c = a
    simp only [Nat.mul_comm, Nat.mul_left_comm]
  rw [h, ← Nat.add_mul, Nat.add_assoc]

/-- the number of a byte, by its digits -/
def dig (u c m s row col x : Nat) : Nat := ((s * m + row) * c + col) * u + x
theorem dig_of {u c m : Nat} (h : LN u c m) (off : Nat) : ∃ s row col x, x < u ∧ col < c ∧ row < m ∧ off = dig u c m s row col x := by
  refine ⟨off / u / c / m, off / u / c % m, off / u % c, off % u, Nat.mod_lt _ h.u1, Nat.mod_lt _ h.c1, Nat.mod_lt _ h.m1, ?_⟩
  unfold dig
  rw [Nat.mul_comm (off / u / c / m), Nat.div_add_mod, Nat.mul_comm (off / u / c), Nat.div_add_mod, Nat.mul_comm (off / u), Nat.div_add_mod]
theorem dig_row {c m row col : Nat} (hc : col < c) (hr : row < m) : row * c + col < m * c := by
  have : (row + 1) * c ≤ m * c := Nat.mul_le_mul_right _ hr
  rw [Nat.add_mul, Nat.one_mul] at this
  omega
theorem dig_split (c m s row col : Nat) : (s * m + row) * c + col = s * (m * c) + (row * c + col) := by
  rw [Nat.add_mul, Nat.mul_assoc, Nat.add_assoc]
theorem pO_dig {u c m s row col x : Nat} (hx : x < u) (hc : col < c) (hr : row < m) : pO u c m (dig u c m s row col x) = s * c + col := by
  unfold pO dig
  rw [dv hx, dig_split, dv (dig_row hc hr), md (dig_row hc hr), md hc]
theorem pK_dig {u c m s row col x : Nat} (hx : x < u) (hc : col < c) (hr : row < m) : pK u c m (dig u c m s row col x) = row * u + x := by
  unfold pK dig
  rw [dv hx, md hx, dig_split, md (dig_row hc hr), dv hc]
theorem bk_dig {u c m s row col x : Nat} (hx : x < u) (hc : col < c) : bk u c m (s * c + col) (row * u + x) = dig u c m s row col x := by
  unfold bk dig
  rw [dv hc, md hc, dv hx, md hx, ← Nat.add_mul]
theorem pK_lt {u c m : Nat} (h : LN u c m) (off : Nat) : pK u c m off < u * m := by
  obtain ⟨s, row, col, x, hx, hc, hr, rfl⟩ := dig_of h off
  rw [pK_dig hx hc hr, Nat.mul_comm u m]
  exact dig_row hx hr
theorem bk_p {u c m : Nat} (h : LN u c m) (off : Nat) : bk u c m (pO u c m off) (pK u c m off) = off := by
  obtain ⟨s, row, col, x, hx, hc, hr, rfl⟩ := dig_of h off
  rw [pO_dig hx hc hr, pK_dig hx hc hr, bk_dig hx hc]
theorem dig_place {u c m : Nat} (h : LN u c m) (ob k : Nat) (hk : k < u * m) : ∃ s row col x, x < u ∧ col < c ∧ row < m ∧ ob = s * c + col ∧ k = row * u + x := by
  refine ⟨ob / c, k / u, ob % c, k % u, Nat.mod_lt _ h.u1, Nat.mod_lt _ h.c1, (Nat.div_lt_iff_lt_mul h.u1).2 (by rwa [Nat.mul_comm]), ?_, ?_⟩
  · rw [Nat.mul_comm, Nat.div_add_mod]
  · rw [Nat.mul_comm, Nat.div_add_mod]
theorem p_bk {u c m : Nat} (h : LN u c m) (ob k : Nat) (hk : k < u * m) : pO u c m (bk u c m ob k) = ob ∧ pK u c m (bk u c m ob k) = k := by
  obtain ⟨s, row, col, x, hx, hc, hr, rfl, rfl⟩ := dig_place h ob k hk
  rw [bk_dig hx hc]
  exact ⟨pO_dig hx hc hr, pK_dig hx hc hr⟩
theorem pK_mod {u c m : Nat} (off : Nat) : pK u c m off % u = off % u := by
  unfold pK
  rw [Nat.add_comm, Nat.add_mul_mod_self_right, Nat.mod_mod]
theorem p_in {u c m : Nat} (off j : Nat) (hj : off % u + j < u) : pO u c m (off + j) = pO u c m off ∧ pK u c m (off + j) = pK u c m off + j := by
  have h1 : off + j = off / u * u + (off % u + j) := by
    have := Nat.div_add_mod off u
    rw [Nat.mul_comm] at this
    omega
  have h2 : (off + j) / u = off / u := by rw [h1, dv hj]
  have h3 : (off + j) % u = off % u + j := by rw [h1, md hj]
  unfold pO pK
  rw [h2, h3]
  exact ⟨rfl, by omega⟩

/-- the next byte -/
theorem dig_succ {u c m s row col x : Nat} (hx : x < u) (hc : col < c) (hr : row < m) :
    (x + 1 < u ∧ dig u c m s row col x + 1 = dig u c m s row col (x + 1)) ∨
    (x + 1 = u ∧ col + 1 < c ∧ dig u c m s row col x + 1 = dig u c m s row (col + 1) 0) ∨
    (x + 1 = u ∧ col + 1 = c ∧ row + 1 < m ∧ dig u c m s row col x + 1 = dig u c m s (row + 1) 0 0) ∨
    (x + 1 = u ∧ col + 1 = c ∧ row + 1 = m ∧ dig u c m s row col x + 1 = dig u c m (s + 1) 0 0 0) := by
  unfold dig
  by_cases h1 : x + 1 < u
  · exact .inl ⟨h1, by omega⟩
  · have e1 : x + 1 = u := by omega
    have f1 : ((s * m + row) * c + col) * u + x + 1 = ((s * m + row) * c + (col + 1)) * u := by
      rw [← Nat.add_assoc ((s * m + row) * c), Nat.add_mul _ 1 u, Nat.one_mul]; omega
    by_cases h2 : col + 1 < c
    · exact .inr (.inl ⟨e1, h2, by rw [f1]; rfl⟩)
    · have e2 : col + 1 = c := by omega
      have f2 : (s * m + row) * c + (col + 1) = (s * m + (row + 1)) * c := by
        rw [← Nat.add_assoc (s * m), Nat.add_mul _ 1 c, Nat.one_mul, e2]
      by_cases h3 : row + 1 < m
      · exact .inr (.inr (.inl ⟨e1, e2, h3, by rw [f1, f2]; rfl⟩))
      · have e3 : row + 1 = m := by omega
        exact .inr (.inr (.inr ⟨e1, e2, e3, by rw [f1, f2, e3, ← Nat.succ_mul]; rfl⟩))

/-- objects, in the program's words -/
def objs (u c m n : Nat) : Nat := n / (u * m * c) * c + min ((n % (u * m * c) + u - 1) / u) c
def room (u c m ob n : Nat) : Nat :=
  min (n - ob / c * (u * m * c)) (u * m * c) / (u * c) * u + min (min (n - ob / c * (u * m * c)) (u * m * c) % (u * c) - ob % c * u) u
theorem dig_T (u c m s row col x : Nat) : dig u c m s row col x = s * (u * m * c) + ((row * c + col) * u + x) := by
  unfold dig
  rw [dig_split c m s row col, Nat.add_mul, Nat.add_assoc]
  congr 1
  rw [Nat.mul_assoc u m c, Nat.mul_comm u (m * c), Nat.mul_assoc s (m * c) u]
theorem dig_r {u c m row col x : Nat} (hx : x < u) (hc : col < c) (hr : row < m) : (row * c + col) * u + x < u * m * c := by
  have := dig_row hx (dig_row hc hr)
  rw [Nat.mul_assoc, Nat.mul_comm u (m * c)]
  exact this
theorem objs_dig {u c m s row col x : Nat} (hx : x < u) (hc : col < c) (hr : row < m) :
    objs u c m (dig u c m s row col x) = s * c + min (row * c + col + (if x = 0 then 0 else 1)) c := by
  unfold objs
  rw [dig_T, dv (dig_r hx hc hr), md (dig_r hx hc hr)]
  congr 2
  by_cases h0 : x = 0
  · subst h0
    rw [if_pos rfl, Nat.add_zero, Nat.add_sub_assoc (by omega), dv (by omega), Nat.add_zero]
  · rw [if_neg h0, show (row * c + col) * u + x + u - 1 = (row * c + col + 1) * u + (x - 1) by rw [Nat.add_mul _ 1 u, Nat.one_mul]; omega, dv (by omega)]
theorem room_dig {u c m s row col x s' col' : Nat} (hx : x < u) (hc : col < c) (hr : row < m) (hc' : col' < c) :
    room u c m (s' * c + col') (dig u c m s row col x) = if s' < s then m * u else if s < s' then 0 else row * u + (if col' < col then u else if col' = col then x else 0) := by
  unfold room
  rw [dv hc', md hc', dig_T]
  have hr1 := dig_r (u := u) hx hc hr
  generalize hT : u * m * c = T at hr1
  have hT2 : T = m * (u * c) + 0 := by rw [← hT, Nat.add_zero, Nat.mul_comm u m, Nat.mul_assoc]
  have huc : 0 < u * c := Nat.mul_pos (by omega) (by omega)
  generalize hrr : (row * c + col) * u + x = r at hr1
  by_cases h1 : s' < s
  · have : (s' + 1) * T ≤ s * T := Nat.mul_le_mul_right _ h1
    rw [Nat.add_mul, Nat.one_mul] at this
    rw [if_pos h1, show min (s * T + r - s' * T) T = T by omega, hT2, dv huc, md huc]
    omega
  · by_cases h2 : s < s'
    · have : (s + 1) * T ≤ s' * T := Nat.mul_le_mul_right _ h2
      rw [Nat.add_mul, Nat.one_mul] at this
      rw [if_neg h1, if_pos h2, show min (s * T + r - s' * T) T = 0 by omega, Nat.zero_div, Nat.zero_mul, Nat.zero_mod]
      omega
    · obtain rfl : s = s' := by omega
      rw [if_neg h1, if_neg h2, show min (s * T + r - s * T) T = r by omega, ← hrr]
      have h3 : (row * c + col) * u + x = row * (u * c) + (col * u + x) := by
        rw [Nat.add_mul, Nat.add_assoc, Nat.mul_assoc, Nat.mul_comm c u]
      have h4 : col * u + x < u * c := by rw [Nat.mul_comm u c]; exact dig_row hx hc
      rw [h3, dv h4, md h4]
      congr 1
      by_cases h5 : col' < col
      · have : (col' + 1) * u ≤ col * u := Nat.mul_le_mul_right _ h5
        rw [Nat.add_mul, Nat.one_mul] at this
        rw [if_pos h5]
        omega
      · by_cases h6 : col' = col
        · subst h6
          rw [if_neg h5, if_pos rfl]
          omega
        · have : (col + 1) * u ≤ col' * u := Nat.mul_le_mul_right _ (by omega)
          rw [Nat.add_mul, Nat.one_mul] at this
          rw [if_neg h5, if_neg h6]
          omega

theorem objs_zero {u c m : Nat} (h : LN u c m) : objs u c m 0 = 0 := by
  have h1 := objs_dig (s := 0) (row := 0) (col := 0) (x := 0) h.u1 h.c1 h.m1
  have h2 : dig u c m 0 0 0 0 = 0 := by unfold dig; omega
  rw [h2, if_pos rfl] at h1
  rw [h1]
  omega
theorem objs_succ {u c m : Nat} (h : LN u c m) (n : Nat) : objs u c m (n + 1) = max (objs u c m n) (pO u c m n + 1) := by
  obtain ⟨s, row, col, x, hx, hc, hr, rfl⟩ := dig_of h n
  rw [pO_dig hx hc hr, objs_dig hx hc hr]
  have hrow : row = 0 ∨ c ≤ row * c := by
    rcases Nat.eq_zero_or_pos row with h | h
    · exact .inl h
    · right
      have := Nat.mul_le_mul_right c h
      omega
  have hz : row = 0 → row * c = 0 := by rintro rfl; omega
  rcases dig_succ (s := s) hx hc hr with ⟨h1, e⟩ | ⟨h1, h2, e⟩ | ⟨h1, h2, h3, e⟩ | ⟨h1, h2, h3, e⟩
  · rw [e, objs_dig h1 hc hr, if_neg (by omega)]
    split <;> omega
  · rw [e, objs_dig h.u1 h2 hr, if_pos rfl]
    split <;> omega
  · rw [e, objs_dig h.u1 h.c1 h3, if_pos rfl, Nat.add_mul, Nat.one_mul]
    split <;> omega
  · rw [e, objs_dig h.u1 h.c1 h.m1, if_pos rfl, Nat.add_mul, Nat.one_mul]
    split <;> omega
theorem room_zero (u c m ob : Nat) : room u c m ob 0 = 0 := by
  unfold room
  simp
theorem room_at {u c m : Nat} (h : LN u c m) (n : Nat) : room u c m (pO u c m n) n = pK u c m n := by
  obtain ⟨s, row, col, x, hx, hc, hr, rfl⟩ := dig_of h n
  rw [pO_dig hx hc hr, pK_dig hx hc hr, room_dig hx hc hr hc]
  simp
theorem room_succ {u c m : Nat} (h : LN u c m) (ob n : Nat) : room u c m ob (n + 1) = room u c m ob n + (if pO u c m n = ob then 1 else 0) := by
  obtain ⟨s, row, col, x, hx, hc, hr, rfl⟩ := dig_of h n
  obtain ⟨s', col', hc', rfl⟩ : ∃ s' col', col' < c ∧ ob = s' * c + col' := ⟨ob / c, ob % c, Nat.mod_lt _ h.c1, by rw [Nat.mul_comm, Nat.div_add_mod]⟩
  rw [pO_dig hx hc hr, room_dig hx hc hr hc']
  have hiff : s * c + col = s' * c + col' ↔ s = s' ∧ col = col' := by
    constructor
    · intro e
      have e1 := congrArg (· / c) e
      have e2 := congrArg (· % c) e
      simp only [dv hc, dv hc', md hc, md hc'] at e1 e2
      exact ⟨e1, e2⟩
    · rintro ⟨rfl, rfl⟩; rfl
  rcases dig_succ (s := s) hx hc hr with ⟨h1, e⟩ | ⟨h1, h2, e⟩ | ⟨h1, h2, h3, e⟩ | ⟨h1, h2, h3, e⟩
  · rw [e, room_dig h1 hc hr hc']
    by_cases ho : s * c + col = s' * c + col'
    · obtain ⟨rfl, rfl⟩ := hiff.1 ho
      rw [if_pos rfl]
      repeat' split
      all_goals omega
    · have hn : ¬(s = s' ∧ col = col') := fun q => ho (hiff.2 q)
      rw [if_neg ho]
      repeat' split
      all_goals omega
  · rw [e, room_dig h.u1 h2 hr hc']
    by_cases ho : s * c + col = s' * c + col'
    · obtain ⟨rfl, rfl⟩ := hiff.1 ho
      rw [if_pos rfl]
      repeat' split
      all_goals omega
    · have hn : ¬(s = s' ∧ col = col') := fun q => ho (hiff.2 q)
      rw [if_neg ho]
      repeat' split
      all_goals omega
  · rw [e, room_dig h.u1 h.c1 h3 hc', Nat.add_mul, Nat.one_mul]
    by_cases ho : s * c + col = s' * c + col'
    · obtain ⟨rfl, rfl⟩ := hiff.1 ho
      rw [if_pos rfl]
      repeat' split
      all_goals omega
    · have hn : ¬(s = s' ∧ col = col') := fun q => ho (hiff.2 q)
      rw [if_neg ho]
      repeat' split
      all_goals omega
  · rw [e, room_dig h.u1 h.c1 h.m1 hc', ← h3, Nat.add_mul, Nat.one_mul, Nat.zero_mul]
    by_cases ho : s * c + col = s' * c + col'
    · obtain ⟨rfl, rfl⟩ := hiff.1 ho
      rw [if_pos rfl]
      repeat' split
      all_goals omega
    · have hn : ¬(s = s' ∧ col = col') := fun q => ho (hiff.2 q)
      rw [if_neg ho]
      repeat' split
      all_goals omega

/-- a piece -/
structure Pc where
  o : Nat
  k : Nat
  l : Nat
  f : Nat
def nxt (q p : Pc) : Bool := q.o == p.o && q.k + q.l == p.k
/-- a piece more: joined to the last one where it goes on there -/
def addP (l : List Pc) (p : Pc) : List Pc :=
  match l.getLast? with
  | none => [p]
  | some q => if nxt q p then l.dropLast ++ [⟨q.o, q.k, q.l + p.l, q.f⟩] else l ++ [p]
theorem addP_nil (p : Pc) : addP [] p = [p] := rfl
theorem addP_yes {l : List Pc} {q p : Pc} (h : nxt q p = true) : addP (l ++ [q]) p = l ++ [⟨q.o, q.k, q.l + p.l, q.f⟩] := by
  unfold addP
  simp [h]
theorem addP_no {l : List Pc} {q p : Pc} (h : nxt q p = false) : addP (l ++ [q]) p = l ++ [q, p] := by
  unfold addP
  simp [h]
theorem snoc_cases {α : Type} (l : List α) : l = [] ∨ ∃ r q, l = r ++ [q] := by
  rcases List.eq_nil_or_concat l with h | ⟨r, q, h⟩
  · exact .inl h
  · exact .inr ⟨r, q, by rw [h, List.concat_eq_append]⟩
theorem nxt_self (o k a b f g : Nat) : nxt ⟨o, k, a, f⟩ ⟨o, k + a, b, g⟩ = true := by simp [nxt]
/-- a piece that goes on where the one ahead of it ends makes it longer -/
theorem addP_addP (l : List Pc) (o k a b f g : Nat) : addP (addP l ⟨o, k, a, f⟩) ⟨o, k + a, b, g⟩ = addP l ⟨o, k, a + b, f⟩ := by
  rcases snoc_cases l with rfl | ⟨r, q, rfl⟩
  · rw [addP_nil, addP_nil]
    exact addP_yes (l := []) (nxt_self o k a b f g)
  · cases h : nxt q ⟨o, k, a, f⟩
    · have h2 : nxt q ⟨o, k, a + b, f⟩ = false := h
      rw [addP_no h, addP_no h2, show r ++ [q, ⟨o, k, a, f⟩] = (r ++ [q]) ++ [⟨o, k, a, f⟩] by simp, addP_yes (nxt_self o k a b f g)]
      simp
    · have h2 : nxt q ⟨o, k, a + b, f⟩ = true := h
      have h3 : q.o = o ∧ q.k + q.l = k := by simpa [nxt] using h
      have h4 : nxt ⟨q.o, q.k, q.l + a, q.f⟩ ⟨o, k + a, b, g⟩ = true := by
        simp [nxt]
        omega
      rw [addP_yes h, addP_yes h2, addP_yes h4]
      simp [Nat.add_assoc]

/-- the pieces of the first n bytes from off on, byte by byte -/
def pcs (u c m off : Nat) : Nat → List Pc
  | 0 => []
  | i + 1 => addP (pcs u c m off i) ⟨pO u c m (off + i), pK u c m (off + i), 1, i⟩
theorem pcs_unit (u c m off f : Nat) : ∀ j : Nat, 1 ≤ j → (off + f) % u + j ≤ u → pcs u c m off (f + j) = addP (pcs u c m off f) ⟨pO u c m (off + f), pK u c m (off + f), j, f⟩
  | 1, _, _ => rfl
  | j + 2, _, h => by
    have ih := pcs_unit u c m off f (j + 1) (by omega) (by omega)
    have hp := p_in (u := u) (c := c) (m := m) (off + f) (j + 1) (by omega)
    rw [Nat.add_assoc] at hp
    show addP (pcs u c m off (f + (j + 1))) ⟨pO u c m (off + (f + (j + 1))), pK u c m (off + (f + (j + 1))), 1, f + (j + 1)⟩ = _
    rw [ih, hp.1, hp.2, addP_addP]
theorem addP_len (l : List Pc) (p : Pc) : (addP l p).length ≤ l.length + 1 := by
  rcases snoc_cases l with rfl | ⟨r, q, rfl⟩
  · simp [addP_nil]
  · cases h : nxt q p
    · rw [addP_no h]; simp
    · rw [addP_yes h]; simp
theorem pcs_len (u c m off : Nat) : ∀ n, (pcs u c m off n).length ≤ n
  | 0 => Nat.le_refl _
  | n + 1 => Nat.le_trans (addP_len _ _) (Nat.succ_le_succ (pcs_len u c m off n))

/-- pieces that have all bytes from off to off + n, each once, each where it lies -/
inductive Cov (u c m off : Nat) : Nat → List Pc → Prop
  | nil : Cov u c m off 0 []
  | snoc {f : Nat} {l : List Pc} {q : Pc} (h : Cov u c m off f l) (hf : q.f = f) (hl : 1 ≤ q.l) (hk : q.k + q.l ≤ u * m) (hb : ∀ k, k < q.l → bk u c m q.o (q.k + k) = off + f + k) (hn : ∀ p, l.getLast? = some p → nxt p q = false) :
      Cov u c m off (f + q.l) (l ++ [q])
def sumL (l : List Pc) : Nat := (l.map (·.l)).sum
theorem Cov.sum {u c m off n : Nat} {l : List Pc} (h : Cov u c m off n l) : n = sumL l := by
  induction h with
  | nil => rfl
  | snoc h hf hl hk hb hn ih => simp [sumL] at ih ⊢; omega
theorem Cov.inv {u c m off n : Nat} {l : List Pc} {q : Pc} (h : Cov u c m off n (l ++ [q])) :
    ∃ f, Cov u c m off f l ∧ q.f = f ∧ 1 ≤ q.l ∧ q.k + q.l ≤ u * m ∧ (∀ k, k < q.l → bk u c m q.o (q.k + k) = off + f + k) ∧ (∀ p, l.getLast? = some p → nxt p q = false) ∧ n = f + q.l := by
  generalize he : l ++ [q] = l' at h
  cases h with
  | nil => simp at he
  | snoc h hf hl hk hb hn =>
    obtain ⟨e1, e2⟩ := List.append_inj' he rfl
    obtain rfl := e1
    obtain rfl := (List.cons.inj e2).1
    exact ⟨_, h, hf, hl, hk, hb, hn, rfl⟩
theorem Cov.step {u c m off n : Nat} {l : List Pc} (hL : LN u c m) (h : Cov u c m off n l) : Cov u c m off (n + 1) (addP l ⟨pO u c m (off + n), pK u c m (off + n), 1, n⟩) := by
  have hlt := pK_lt hL (off + n)
  have hbp := bk_p hL (off + n)
  rcases snoc_cases l with rfl | ⟨r, q, rfl⟩
  · rw [addP_nil]
    have hn : n = 0 := h.sum
    subst hn
    refine Cov.snoc (l := []) (q := ⟨pO u c m (off + 0), pK u c m (off + 0), 1, 0⟩) .nil rfl (Nat.le_refl _) hlt ?_ (by simp)
    intro k hk
    obtain rfl : k = 0 := by simp at hk; omega
    exact hbp
  · cases hx : nxt q ⟨pO u c m (off + n), pK u c m (off + n), 1, n⟩
    · rw [addP_no hx, show r ++ [q, ⟨pO u c m (off + n), pK u c m (off + n), 1, n⟩] = (r ++ [q]) ++ [⟨pO u c m (off + n), pK u c m (off + n), 1, n⟩] by simp]
      refine Cov.snoc (q := ⟨pO u c m (off + n), pK u c m (off + n), 1, n⟩) h rfl (Nat.le_refl _) hlt ?_ ?_
      · intro k hk
        obtain rfl : k = 0 := by simp at hk; omega
        exact hbp
      · intro p hp
        rw [List.getLast?_concat] at hp
        cases hp
        exact hx
    · rw [addP_yes hx]
      have h3 : q.o = pO u c m (off + n) ∧ q.k + q.l = pK u c m (off + n) := by simpa [nxt] using hx
      obtain ⟨f, hc, hf, hl, hk, hb, hn, rfl⟩ := h.inv
      refine Cov.snoc (q := ⟨q.o, q.k, q.l + 1, q.f⟩) hc hf (by show 1 ≤ q.l + 1; omega) (by show q.k + (q.l + 1) ≤ _; omega) ?_ hn
      intro k hk2
      have hk3 : k < q.l + 1 := hk2
      by_cases hkl : k < q.l
      · exact hb k hkl
      · obtain rfl : k = q.l := by omega
        show bk u c m q.o (q.k + q.l) = _
        rw [h3.2, h3.1, hbp, Nat.add_assoc]
theorem cov_pcs {u c m : Nat} (hL : LN u c m) (off : Nat) : ∀ n, Cov u c m off n (pcs u c m off n)
  | 0 => .nil
  | n + 1 => (cov_pcs hL off n).step hL
theorem Cov.take {u c m off n : Nat} {l : List Pc} (h : Cov u c m off n l) : ∀ i, i ≤ l.length → ∃ f, Cov u c m off f (l.take i) := by
  induction h with
  | nil => intro i hi; exact ⟨0, by simpa using Cov.nil⟩
  | @snoc f l q h hf hl hk hb hn ih =>
    intro i hi
    by_cases hil : i ≤ l.length
    · rw [List.take_append_of_le_length hil]
      exact ih i hil
    · rw [List.take_of_length_le (by simp at hi ⊢; omega)]
      exact ⟨_, Cov.snoc h hf hl hk hb hn⟩
/-- what the walk over pieces meets at number i -/
theorem cov_at {u c m off n : Nat} {l : List Pc} (h : Cov u c m off n l) (i : Nat) (hi : i < l.length) :
    l[i].f = sumL (l.take i) ∧ 1 ≤ l[i].l ∧ l[i].k + l[i].l ≤ u * m ∧ (∀ k, k < l[i].l → bk u c m l[i].o (l[i].k + k) = off + sumL (l.take i) + k) ∧ (∀ h0 : 0 < i, nxt (l[i - 1]'(by omega)) l[i] = false) ∧ sumL (l.take (i + 1)) = sumL (l.take i) + l[i].l := by
  obtain ⟨f', h'⟩ := h.take (i + 1) hi
  rw [List.take_succ_eq_append_getElem hi] at h' ⊢
  obtain ⟨f, hc, hf, hl, hk, hb, hn, he⟩ := h'.inv
  have hs := hc.sum
  subst hs
  refine ⟨hf, hl, hk, hb, fun h0 => hn _ ?_, ?_⟩
  · rw [List.getLast?_eq_getElem?, List.length_take, List.getElem?_take_of_lt (by omega), Nat.min_eq_left (by omega), List.getElem?_eq_getElem]
  · exact h'.sum.symm.trans he

/-- the reference's ways: byte by byte -/
def mxO (u c m : Nat) : Nat → Nat
  | 0 => 0
  | i + 1 => max (mxO u c m i) (pO u c m i + 1)
def mxR (u c m ob : Nat) : Nat → Nat
  | 0 => 0
  | i + 1 => if pO u c m i = ob then max (mxR u c m ob i) (pK u c m i + 1) else mxR u c m ob i
theorem mxO_eq {u c m : Nat} (h : LN u c m) : ∀ n, mxO u c m n = objs u c m n
  | 0 => (objs_zero h).symm
  | n + 1 => by rw [mxO, mxO_eq h n, objs_succ h]
theorem mxR_eq {u c m : Nat} (h : LN u c m) (ob : Nat) : ∀ n, mxR u c m ob n = room u c m ob n
  | 0 => (room_zero u c m ob).symm
  | n + 1 => by
    rw [mxR, mxR_eq h ob n, room_succ h]
    by_cases ho : pO u c m n = ob
    · subst ho
      rw [if_pos rfl, if_pos rfl, room_at h]
      omega
    · rw [if_neg ho, if_neg ho, Nat.add_zero]

theorem room_le {u c m : Nat} (h : LN u c m) (ob : Nat) : ∀ n, room u c m ob n ≤ u * m
  | 0 => by rw [room_zero]; omega
  | n + 1 => by
    rw [room_succ h]
    by_cases ho : pO u c m n = ob
    · subst ho
      rw [if_pos rfl, room_at h]
      exact pK_lt h n
    · rw [if_neg ho]
      exact room_le h ob n
theorem room_lt {u c m : Nat} (h : LN u c m) (ob k : Nat) : ∀ n, k < room u c m ob n → bk u c m ob k < n
  | 0, hk => by rw [room_zero] at hk; omega
  | n + 1, hk => by
    rw [room_succ h] at hk
    by_cases ho : pO u c m n = ob
    · subst ho
      rw [if_pos rfl] at hk
      by_cases hk2 : k < room u c m (pO u c m n) n
      · exact Nat.lt_succ_of_lt (room_lt h _ k n hk2)
      · obtain rfl : k = room u c m (pO u c m n) n := by omega
        rw [room_at h, bk_p h]
        exact Nat.lt_succ_self _
    · rw [if_neg ho] at hk
      exact Nat.lt_succ_of_lt (room_lt h _ k n hk)
theorem room_mono {u c m : Nat} (h : LN u c m) (ob : Nat) {a b : Nat} (hab : a ≤ b) : room u c m ob a ≤ room u c m ob b := by
  induction hab with
  | refl => exact Nat.le_refl _
  | step _ ih => rw [room_succ h]; omega
theorem room_ge {u c m : Nat} (h : LN u c m) (ob n : Nat) (hk : room u c m ob n < u * m) : n ≤ bk u c m ob (room u c m ob n) := by
  refine Nat.le_of_not_lt fun hlt => ?_
  have h1 := p_bk h ob _ hk
  generalize bk u c m ob (room u c m ob n) = j at h1 hlt
  have h2 := room_mono h ob (a := j + 1) (b := n) hlt
  rw [room_succ h, if_pos h1.1] at h2
  have h3 := room_at h j
  rw [h1.1, h1.2] at h3
  omega
theorem pO_objs {u c m : Nat} (h : LN u c m) (j : Nat) : ∀ n, j < n → pO u c m j < objs u c m n
  | n + 1, hj => by
    rw [objs_succ h]
    by_cases e : j = n
    · subst e; omega
    · have := pO_objs h j n (by omega)
      omega
theorem room_none {u c m : Nat} (h : LN u c m) (ob : Nat) : ∀ n, objs u c m n ≤ ob → room u c m ob n = 0
  | 0, _ => room_zero u c m ob
  | n + 1, hn => by
    rw [objs_succ h] at hn
    rw [room_succ h, room_none h ob n (by omega), if_neg (by omega)]
theorem room_last {u c m : Nat} (h : LN u c m) : ∀ n, objs u c m n ≠ 0 → 0 < room u c m (objs u c m n - 1) n
  | 0, hn => absurd (objs_zero h) hn
  | n + 1, _ => by
    have hs := objs_succ h n
    by_cases e : objs u c m n ≤ pO u c m n
    · rw [hs, show max (objs u c m n) (pO u c m n + 1) - 1 = pO u c m n by omega, room_succ h, if_pos rfl]
      omega
    · rw [hs, show max (objs u c m n) (pO u c m n + 1) = objs u c m n by omega]
      exact Nat.lt_of_lt_of_le (room_last h n (by omega)) (room_mono h _ (Nat.le_succ n))
/-- the rooms of the first i objects -/
def sumR (u c m n : Nat) : Nat → Nat
  | 0 => 0
  | i + 1 => sumR u c m n i + room u c m i n
theorem sumR_zero (u c m : Nat) : ∀ i, sumR u c m 0 i = 0
  | 0 => rfl
  | i + 1 => by rw [sumR, sumR_zero u c m i, room_zero]
theorem sumR_succ {u c m : Nat} (h : LN u c m) (n : Nat) : ∀ i, sumR u c m (n + 1) i = sumR u c m n i + (if pO u c m n < i then 1 else 0)
  | 0 => rfl
  | i + 1 => by
    rw [sumR, sumR, sumR_succ h n i, room_succ h]
    by_cases h1 : pO u c m n < i
    · rw [if_pos h1, if_neg (by omega), if_pos (by omega)]; omega
    · by_cases h2 : pO u c m n = i
      · rw [if_neg h1, if_pos h2, if_pos (by omega)]; omega
      · rw [if_neg h1, if_neg h2, if_neg (by omega)]; omega
theorem sumR_all {u c m : Nat} (h : LN u c m) (i : Nat) : ∀ n, (∀ j, j < n → pO u c m j < i) → sumR u c m n i = n
  | 0, _ => sumR_zero u c m i
  | n + 1, hj => by rw [sumR_succ h, sumR_all h i n (fun j q => hj j (by omega)), if_pos (hj n (by omega))]
theorem sumR_objs {u c m : Nat} (h : LN u c m) (n : Nat) : sumR u c m n (objs u c m n) = n := sumR_all h _ n (fun j hj => pO_objs h j n hj)
end Go.Proofs.Ytaobdebeglenaaa

namespace Go.Proofs.Ytaobdebeglenaaa

abbrev Sp := Int × Int
/-- 2^40 -/
abbrev farS : Int := 1099511627776
def inS (s : Sp) (n : Int) : Bool := decide (s.1 ≤ n) && decide (n < s.2)
/-- is n one of the bytes of l? -/
def hasB (l : List Sp) (n : Int) : Bool := decide (0 ≤ n) && decide (n < farS) && l.any (fun s => inS s n)
theorem hasB_nil (n : Int) : hasB [] n = false := by simp [hasB]
theorem hasB_out {l : List Sp} {n : Int} (h : ¬ (0 ≤ n ∧ n < farS)) : hasB l n = false := by
  unfold hasB
  cases hx : (decide (0 ≤ n) && decide (n < farS))
  · rfl
  · simp at hx; exact absurd hx h
theorem hasB_in {l : List Sp} {n : Int} (h0 : 0 ≤ n) (h1 : n < farS) : hasB l n = l.any (fun s => inS s n) := by
  unfold hasB
  rw [decide_eq_true h0, decide_eq_true h1]; rfl
theorem hasB_cons (s : Sp) (l : List Sp) (n : Int) : hasB (s :: l) n = (hasB [s] n || hasB l n) := by
  by_cases h : 0 ≤ n ∧ n < farS
  · rw [hasB_in h.1 h.2, hasB_in h.1 h.2, hasB_in h.1 h.2]; simp
  · rw [hasB_out h, hasB_out h, hasB_out h]; rfl
theorem hasB_append (a b : List Sp) (n : Int) : hasB (a ++ b) n = (hasB a n || hasB b n) := by
  by_cases h : 0 ≤ n ∧ n < farS
  · rw [hasB_in h.1 h.2, hasB_in h.1 h.2, hasB_in h.1 h.2, List.any_append]
  · rw [hasB_out h, hasB_out h, hasB_out h]; rfl

/-- a canonical list whose spans begin above b -/
def CanF : Int → List Sp → Prop
  | _, [] => True
  | b, s :: r => b < s.1 ∧ s.1 < s.2 ∧ s.2 ≤ farS ∧ CanF s.2 r
def Canon (l : List Sp) : Prop := CanF (-1) l
theorem CanF.mono {b c : Int} {l : List Sp} (h : CanF b l) (hc : c ≤ b) : CanF c l := by
  cases l with
  | nil => exact h
  | cons s r => exact ⟨by have := h.1; omega, h.2⟩
theorem CanF.above : ∀ {b : Int} {l : List Sp}, CanF b l → ∀ n, n ≤ b → hasB l n = false
  | _, [], _, n, _ => hasB_nil n
  | b, s :: r, h, n, hn => by
    obtain ⟨h1, h2, h3, h4⟩ := h
    rw [hasB_cons, h4.above n (by omega), Bool.or_false]
    by_cases q : 0 ≤ n ∧ n < farS
    · rw [hasB_in q.1 q.2]; simp [inS]; omega
    · exact hasB_out q
theorem CanF.first {b : Int} {s : Sp} {r : List Sp} (h : CanF b (s :: r)) (hb : -1 ≤ b) {n : Int} (h0 : s.1 ≤ n) (h1 : n < s.2) : hasB (s :: r) n = true := by
  obtain ⟨g1, g2, g3, g4⟩ := h
  rw [hasB_in (by omega) (by omega)]
  simp [inS, h0, h1]
theorem has_rest {s : Sp} {r : List Sp} {n : Int} (hn : s.2 ≤ n) : hasB (s :: r) n = hasB r n := by
  rw [hasB_cons]
  have : hasB [s] n = false := by
    by_cases q : 0 ≤ n ∧ n < farS
    · rw [hasB_in q.1 q.2]; simp [inS]; omega
    · exact hasB_out q
  rw [this, Bool.false_or]
theorem can_ext : ∀ {b : Int} {x y : List Sp}, -1 ≤ b → CanF b x → CanF b y → (∀ n, hasB x n = hasB y n) → x = y
  | _, [], [], _, _, _, _ => rfl
  | b, [], s :: r, hb, _, hy, h => by
    have h1 := hy.first hb (Int.le_refl _) hy.2.1
    rw [← h, hasB_nil] at h1
    cases h1
  | b, s :: r, [], hb, hx, _, h => by
    have h1 := hx.first hb (Int.le_refl _) hx.2.1
    rw [h, hasB_nil] at h1
    cases h1
  | b, s :: r, s' :: r', hb, hx, hy, h => by
    have f1 : s'.1 ≤ s.1 := by
      refine Int.not_lt.1 fun q => ?_
      have h1 := hx.first hb (Int.le_refl _) hx.2.1
      rw [h] at h1
      have h2 : CanF s.1 (s' :: r') := ⟨q, hy.2⟩
      rw [h2.above _ (Int.le_refl _)] at h1
      cases h1
    have f2 : s.1 ≤ s'.1 := by
      refine Int.not_lt.1 fun q => ?_
      have h1 := hy.first hb (Int.le_refl _) hy.2.1
      rw [← h] at h1
      have h2 : CanF s'.1 (s :: r) := ⟨q, hx.2⟩
      rw [h2.above _ (Int.le_refl _)] at h1
      cases h1
    have t1 : s'.2 ≤ s.2 := by
      refine Int.not_lt.1 fun q => ?_
      have h1 := hy.first hb (n := s.2) (by have := hx.2.1; omega) q
      rw [← h, has_rest (Int.le_refl _), hx.2.2.2.above _ (Int.le_refl _)] at h1
      cases h1
    have t2 : s.2 ≤ s'.2 := by
      refine Int.not_lt.1 fun q => ?_
      have h1 := hx.first hb (n := s'.2) (by have := hy.2.1; omega) q
      rw [h, has_rest (Int.le_refl _), hy.2.2.2.above _ (Int.le_refl _)] at h1
      cases h1
    obtain rfl : s = s' := Prod.ext (by omega) (by omega)
    have hr : r = r' := can_ext (by have := hx.1; have := hx.2.1; omega) hx.2.2.2 hy.2.2.2 fun n => by
      by_cases q : n < s.2
      · rw [hx.2.2.2.above n (by omega), hy.2.2.2.above n (by omega)]
      · have h1 := h n
        rwa [has_rest (by omega), has_rest (by omega)] at h1
    rw [hr]
theorem canon_ext {x y : List Sp} (hx : Canon x) (hy : Canon y) (h : ∀ n, hasB x n = hasB y n) : x = y := can_ext (Int.le_refl _) hx hy h

/-- an end, within the bytes that there are -/
def clS (n : Int) : Int := min (max n 0) farS
/-- a rising row with one number more, once -/
def putI (l : List Int) (n : Int) : List Int :=
  let k := (l.takeWhile (fun x => decide (x < n))).length
  if l[k]? = some n then l else l.take k ++ [n] ++ l.drop k
/-- rising, each once, above b -/
def Ris : Int → List Int → Prop
  | _, [] => True
  | b, x :: r => b < x ∧ Ris x r
theorem Ris.mono {b c : Int} {l : List Int} (h : Ris b l) (hc : c ≤ b) : Ris c l := by
  cases l with
  | nil => exact h
  | cons s r => exact ⟨by have := h.1; omega, h.2⟩
theorem Ris.mem : ∀ {b : Int} {l : List Int}, Ris b l → ∀ x ∈ l, b < x
  | b, y :: r, h, x, hx => by
    rcases List.mem_cons.1 hx with rfl | hx
    · exact h.1
    · have := h.2.mem x hx; have := h.1; omega
theorem putI_nil (n : Int) : putI [] n = [n] := by simp [putI]
theorem putI_lt {x n : Int} (l : List Int) (h : x < n) : putI (x :: l) n = x :: putI l n := by
  unfold putI
  simp only [List.takeWhile_cons, h, decide_true, if_true, List.length_cons, List.getElem?_cons_succ]
  split <;> simp
theorem putI_eq (x : Int) (l : List Int) : putI (x :: l) x = x :: l := by
  unfold putI
  simp
theorem putI_gt {x n : Int} (l : List Int) (h : n < x) : putI (x :: l) n = n :: x :: l := by
  unfold putI
  have h1 : ¬ x < n := by omega
  simp [h1]
  omega
theorem Ris.put {n : Int} : ∀ {b : Int} {l : List Int}, Ris b l → b < n → Ris b (putI l n)
  | b, [], _, hn => by rw [putI_nil]; exact ⟨hn, trivial⟩
  | b, x :: l, h, hn => by
    rcases Int.lt_trichotomy x n with q | q | q
    · rw [putI_lt l q]; exact ⟨h.1, h.2.put q⟩
    · subst q; rw [putI_eq]; exact h
    · rw [putI_gt l q]; exact ⟨hn, q, h.2⟩
theorem mem_putI {n y : Int} : ∀ {b : Int} {l : List Int}, Ris b l → (y ∈ putI l n ↔ y = n ∨ y ∈ l)
  | b, [], _ => by rw [putI_nil]; simp
  | b, x :: l, h => by
    rcases Int.lt_trichotomy x n with q | q | q
    · rw [putI_lt l q, List.mem_cons, mem_putI h.2, List.mem_cons]
      constructor
      · rintro (h | h | h)
        · exact .inr (.inl h)
        · exact .inl h
        · exact .inr (.inr h)
      · rintro (h | h | h)
        · exact .inr (.inl h)
        · exact .inl h
        · exact .inr (.inr h)
    · subst q; rw [putI_eq, List.mem_cons]
      constructor
      · exact fun h => .inr h
      · rintro (h | h)
        · exact .inl h
        · exact h
    · rw [putI_gt l q, List.mem_cons]
def endsOf (es : List Int) (l : List Sp) : List Int := l.foldl (fun e s => putI (putI e (clS s.1)) (clS s.2)) es
theorem clS_bd (n : Int) : 0 ≤ clS n ∧ clS n ≤ farS := by unfold clS farS; omega
theorem endsOf_ris : ∀ (l : List Sp) (es : List Int), Ris (-1) es → Ris (-1) (endsOf es l)
  | [], es, h => h
  | s :: l, es, h => endsOf_ris l _ ((h.put (by have := clS_bd s.1; omega)).put (by have := clS_bd s.2; omega))
theorem endsOf_mem : ∀ (l : List Sp) (es : List Int) (y : Int), Ris (-1) es → (y ∈ endsOf es l ↔ y ∈ es ∨ ∃ s ∈ l, y = clS s.1 ∨ y = clS s.2)
  | [], es, y, _ => by simp [endsOf]
  | s :: l, es, y, h => by
    have h1 := h.put (n := clS s.1) (by have := clS_bd s.1; omega)
    have h2 := h1.put (n := clS s.2) (by have := clS_bd s.2; omega)
    show y ∈ endsOf (putI (putI es (clS s.1)) (clS s.2)) l ↔ _
    rw [endsOf_mem l _ y h2, mem_putI h1, mem_putI h]
    constructor
    · rintro ((h | h | h) | ⟨t, ht, h⟩)
      · exact .inr ⟨s, List.mem_cons_self, .inr h⟩
      · exact .inr ⟨s, List.mem_cons_self, .inl h⟩
      · exact .inl h
      · exact .inr ⟨t, List.mem_cons_of_mem _ ht, h⟩
    · rintro (h | ⟨t, ht, h⟩)
      · exact .inl (.inr (.inr h))
      · rcases List.mem_cons.1 ht with rfl | ht
        · rcases h with h | h
          · exact .inl (.inr (.inl h))
          · exact .inl (.inl h)
        · exact .inr ⟨t, ht, h⟩

/-- what is wanted of two lists: 1: the one or the other; 2: both; 3: the one alone -/
def opS (what : Int) (x y : Bool) : Bool := if what = 3 then x && !y else if what = 2 then x && y else x || y
/-- one part more -/
def outS (out : List Sp) (e e' : Int) (b : Bool) : List Sp :=
  if b then
    match out.getLast? with
    | some q => if q.2 = e then out.dropLast ++ [(q.1, e')] else out ++ [(e, e')]
    | none => [(e, e')]
  else out
theorem outS_no (out : List Sp) (e e' : Int) : outS out e e' false = out := rfl
theorem outS_nil (e e' : Int) : outS [] e e' true = [(e, e')] := rfl
theorem outS_join (r : List Sp) (f e e' : Int) : outS (r ++ [(f, e)]) e e' true = r ++ [(f, e')] := by
  unfold outS; simp
theorem outS_new (r : List Sp) {q : Sp} {e : Int} (h : q.2 ≠ e) (e' : Int) : outS (r ++ [q]) e e' true = r ++ [q, (e, e')] := by
  unfold outS; simp [h]
/-- the parts of the first i pairs of ends -/
def ofS (a b : List Sp) (what : Int) (es : List Int) : Nat → List Sp
  | 0 => []
  | i + 1 => outS (ofS a b what es i) (es.getD i 0) (es.getD (i + 1) 0) (opS what (hasB a (es.getD i 0)) (hasB b (es.getD i 0)))

def endF : Int → List Sp → Int
  | b, [] => b
  | _, s :: r => endF s.2 r
theorem can_snoc {q : Sp} : ∀ {b : Int} {r : List Sp}, CanF b (r ++ [q]) ↔ CanF b r ∧ endF b r < q.1 ∧ q.1 < q.2 ∧ q.2 ≤ farS
  | b, [] => by simp [CanF, endF]
  | b, s :: r => by
    show (b < s.1 ∧ s.1 < s.2 ∧ s.2 ≤ farS ∧ CanF s.2 (r ++ [q])) ↔ (b < s.1 ∧ s.1 < s.2 ∧ s.2 ≤ farS ∧ CanF s.2 r) ∧ endF s.2 r < q.1 ∧ _
    rw [can_snoc]
    constructor
    · rintro ⟨h1, h2, h3, h4, h5⟩; exact ⟨⟨h1, h2, h3, h4⟩, h5⟩
    · rintro ⟨⟨h1, h2, h3, h4⟩, h5⟩; exact ⟨h1, h2, h3, h4, h5⟩
theorem endF_snoc {q : Sp} : ∀ {b : Int} {r : List Sp}, endF b (r ++ [q]) = q.2
  | _, [] => rfl
  | _, s :: r => endF_snoc (b := s.2) (r := r)
theorem CanF.behind : ∀ {b : Int} {l : List Sp}, CanF b l → ∀ n, endF b l ≤ n → hasB l n = false
  | _, [], _, n, _ => hasB_nil n
  | b, s :: r, h, n, hn => by
    have h4 := h.2.2.2
    have h5 : s.2 ≤ endF s.2 r := CanF.le_end h4
    rw [has_rest (by have : endF s.2 r ≤ n := hn; omega)]
    exact h4.behind n hn
where
  CanF.le_end : ∀ {b : Int} {l : List Sp}, CanF b l → b ≤ endF b l
    | _, [], _ => Int.le_refl _
    | b, s :: r, h => by
      have h1 : s.2 ≤ endF s.2 r := CanF.le_end h.2.2.2
      have h2 := h.1
      have h3 := h.2.1
      show b ≤ endF s.2 r
      omega
theorem hasB_one {f t n : Int} (h0 : 0 ≤ n) (h1 : n < farS) : hasB [(f, t)] n = (decide (f ≤ n) && decide (n < t)) := by
  rw [hasB_in h0 h1]; simp [inS]
theorem snocS (l : List Sp) : l = [] ∨ ∃ r q, l = r ++ [q] := by
  rcases List.eq_nil_or_concat l with h | ⟨r, q, h⟩
  · exact .inl h
  · exact .inr ⟨r, q, by rw [h, List.concat_eq_append]⟩

/-- no number of the row lies between neighbours -/
theorem Ris.gap : ∀ {b : Int} {es : List Int}, Ris b es → ∀ i, i + 1 < es.length → es.getD i 0 < es.getD (i + 1) 0 ∧ ∀ x ∈ es, x ≤ es.getD i 0 ∨ es.getD (i + 1) 0 ≤ x
  | _, [], _, i, hi => by simp at hi
  | _, [x], _, i, hi => by simp at hi
  | b, x :: y :: r, h, 0, _ => by
    refine ⟨h.2.1, fun z hz => ?_⟩
    rcases List.mem_cons.1 hz with rfl | hz
    · exact .inl (Int.le_refl _)
    · rcases List.mem_cons.1 hz with rfl | hz
      · exact .inr (Int.le_refl _)
      · exact .inr (Int.le_of_lt (h.2.2.mem z hz))
  | b, x :: y :: r, h, i + 1, hi => by
    have ih := h.2.gap i (by simpa using hi)
    refine ⟨ih.1, fun z hz => ?_⟩
    rcases List.mem_cons.1 hz with rfl | hz
    · left
      have hm : (y :: r).getD i 0 ∈ y :: r := by
        have hl : i < (y :: r).length := by simp at hi ⊢; omega
        rw [List.getD_eq_getElem?_getD, List.getElem?_eq_getElem hl]
        exact List.getElem_mem hl
      exact Int.le_of_lt (h.2.mem _ hm)
    · exact ih.2 z hz
theorem Ris.first : ∀ {b : Int} {es : List Int}, Ris b es → ∀ x ∈ es, es.getD 0 0 ≤ x
  | b, y :: r, h, x, hx => by
    rcases List.mem_cons.1 hx with rfl | hx
    · exact Int.le_refl _
    · exact Int.le_of_lt (h.2.mem x hx)
theorem Ris.last : ∀ {b : Int} {es : List Int}, Ris b es → ∀ x ∈ es, x ≤ es.getD (es.length - 1) 0
  | b, [y], h, x, hx => by simp at hx; rw [hx]; exact Int.le_refl _
  | b, y :: z :: r, h, x, hx => by
    have ih := h.2.last
    have e : (y :: z :: r).getD ((y :: z :: r).length - 1) 0 = (z :: r).getD ((z :: r).length - 1) 0 := by simp
    rw [e]
    rcases List.mem_cons.1 hx with rfl | hx
    · exact Int.le_trans (Int.le_of_lt h.2.1) (ih z List.mem_cons_self)
    · exact ih x hx
theorem getD_mem {es : List Int} {i : Nat} (hi : i < es.length) : es.getD i 0 ∈ es := by
  rw [List.getD_eq_getElem?_getD, List.getElem?_eq_getElem hi]
  exact List.getElem_mem hi

/-- the ends that the document goes by -/
structure Ends (a : List Sp) (es : List Int) : Prop where
  ris : Ris (-1) es
  bd : ∀ x ∈ es, 0 ≤ x ∧ x ≤ farS
  has : ∀ s ∈ a, clS s.1 ∈ es ∧ clS s.2 ∈ es
theorem clS_in {n : Int} (h0 : 0 ≤ n) (h1 : n ≤ farS) : clS n = n := by unfold clS farS at *; omega
theorem Ends.same {a : List Sp} {es : List Int} (h : Ends a es) (i : Nat) (hi : i + 1 < es.length) (n : Int) (h0 : es.getD i 0 ≤ n) (h1 : n < es.getD (i + 1) 0) : hasB a n = hasB a (es.getD i 0) := by
  obtain ⟨hg, hgap⟩ := h.ris.gap i hi
  have b0 := h.bd _ (getD_mem (es := es) (i := i) (by omega))
  have b1 := h.bd _ (getD_mem (es := es) (i := i + 1) hi)
  generalize es.getD i 0 = e at *
  generalize es.getD (i + 1) 0 = e' at *
  rw [hasB_in (by omega) (by omega), hasB_in b0.1 (by omega)]
  have : ∀ s ∈ a, inS s n = inS s e := fun s hs => by
    obtain ⟨m1, m2⟩ := h.has s hs
    unfold inS
    have g1 : s.1 ≤ n ↔ s.1 ≤ e := by
      constructor
      · intro q
        refine Int.not_lt.1 fun x => ?_
        have hc := clS_in (n := s.1) (by omega) (by omega)
        rw [hc] at m1
        rcases hgap _ m1 with h | h <;> omega
      · intro q; omega
    have g2 : n < s.2 ↔ e < s.2 := by
      constructor
      · intro q; omega
      · intro q
        refine Int.not_le.1 fun x => ?_
        have hc := clS_in (n := s.2) (by omega) (by omega)
        rw [hc] at m2
        rcases hgap _ m2 with h | h <;> omega
    rw [decide_eq_decide.2 g1, decide_eq_decide.2 g2]
  rw [Bool.eq_iff_iff, List.any_eq_true, List.any_eq_true]
  constructor
  · rintro ⟨s, hs, h⟩; exact ⟨s, hs, by rw [← this s hs]; exact h⟩
  · rintro ⟨s, hs, h⟩; exact ⟨s, hs, by rw [this s hs]; exact h⟩
theorem has_not {a : List Sp} {n : Int} (h : ∀ s ∈ a, 0 ≤ n → n < farS → ¬ (s.1 ≤ n ∧ n < s.2)) : hasB a n = false := by
  by_cases q : 0 ≤ n ∧ n < farS
  · rw [hasB_in q.1 q.2]
    cases hx : a.any (fun s => inS s n)
    · rfl
    · obtain ⟨s, hs, hi⟩ := List.any_eq_true.1 hx
      simp [inS] at hi
      exact absurd hi (h s hs q.1 q.2)
  · exact hasB_out q
theorem Ends.low {a : List Sp} {es : List Int} (h : Ends a es) (n : Int) (hn : n < es.getD 0 0) : hasB a n = false :=
  has_not fun s hs h0 h1 q => by
    have h2 := h.ris.first _ (h.has s hs).1
    have h3 : clS s.1 ≤ n := by unfold clS farS at *; omega
    omega
theorem Ends.high {a : List Sp} {es : List Int} (h : Ends a es) (n : Int) (hn : es.getD (es.length - 1) 0 ≤ n) : hasB a n = false :=
  has_not fun s hs h0 h1 q => by
    have h2 := h.ris.last _ (h.has s hs).2
    have h3 : n < clS s.2 := by unfold clS farS at *; omega
    omega
theorem opS_ff (what : Int) : opS what false false = false := by unfold opS; split <;> (try split) <;> rfl

theorem ofS_inv {a b : List Sp} (what : Int) {es : List Int} (ha : Ends a es) (hb : Ends b es) : ∀ i, i < es.length →
    CanF (-1) (ofS a b what es i) ∧ endF (-1) (ofS a b what es i) ≤ es.getD i 0 ∧ ∀ n, n < es.getD i 0 → hasB (ofS a b what es i) n = opS what (hasB a n) (hasB b n)
  | 0, hi => by
    refine ⟨trivial, ?_, fun n hn => ?_⟩
    · have := (ha.bd _ (getD_mem hi)).1
      show (-1 : Int) ≤ _
      omega
    · rw [ha.low n hn, hb.low n hn, opS_ff]
      exact hasB_nil n
  | i + 1, hi => by
    obtain ⟨hc, he, hn⟩ := ofS_inv what ha hb i (by omega)
    have hg := (ha.ris.gap i hi).1
    have b0 := ha.bd _ (getD_mem (es := es) (i := i) (by omega))
    have b1 := ha.bd _ (getD_mem (es := es) (i := i + 1) hi)
    have hs : ∀ n, es.getD i 0 ≤ n → n < es.getD (i + 1) 0 → opS what (hasB a n) (hasB b n) = opS what (hasB a (es.getD i 0)) (hasB b (es.getD i 0)) := fun n h0 h1 => by
      rw [ha.same i hi n h0 h1, hb.same i hi n h0 h1]
    show CanF (-1) (outS (ofS a b what es i) (es.getD i 0) (es.getD (i + 1) 0) (opS what (hasB a (es.getD i 0)) (hasB b (es.getD i 0)))) ∧ endF (-1) (outS (ofS a b what es i) (es.getD i 0) (es.getD (i + 1) 0) (opS what (hasB a (es.getD i 0)) (hasB b (es.getD i 0)))) ≤ _ ∧ ∀ n, _ → hasB (outS (ofS a b what es i) (es.getD i 0) (es.getD (i + 1) 0) (opS what (hasB a (es.getD i 0)) (hasB b (es.getD i 0)))) n = _
    generalize es.getD i 0 = e at *
    generalize es.getD (i + 1) 0 = e' at *
    generalize ofS a b what es i = out at *
    cases hop : opS what (hasB a e) (hasB b e)
    · rw [outS_no]
      refine ⟨hc, by omega, fun n h => ?_⟩
      by_cases q : n < e
      · exact hn n q
      · rw [hs n (by omega) h, hop]
        exact hc.behind n (by omega)
    · have key : ∀ new : List Sp, (∀ n, n < e → hasB new n = hasB out n) → (∀ n, e ≤ n → n < e' → hasB new n = true) → ∀ n, n < e' → hasB new n = opS what (hasB a n) (hasB b n) := fun new h1 h2 n h => by
        by_cases q : n < e
        · rw [h1 n q, hn n q]
        · rw [h2 n (by omega) h, hs n (by omega) h, hop]
      rcases snocS out with rfl | ⟨r, ⟨f, t⟩, rfl⟩
      · rw [outS_nil]
        refine ⟨⟨by show (-1 : Int) < e; omega, hg, b1.2, trivial⟩, Int.le_refl _, key _ (fun n q => ?_) (fun n q1 q2 => ?_)⟩
        · rw [hasB_nil]
          by_cases z : 0 ≤ n ∧ n < farS
          · rw [hasB_one z.1 z.2]; simp; omega
          · exact hasB_out z
        · rw [hasB_one (by omega) (by omega)]; simp; omega
      · rw [endF_snoc] at he
        have hcs := can_snoc.1 hc
        by_cases hte : t = e
        · subst hte
          rw [outS_join]
          refine ⟨can_snoc.2 ⟨hcs.1, hcs.2.1, by have := hcs.2.2.1; show f < e'; omega, b1.2⟩, by rw [endF_snoc]; exact Int.le_refl _, key _ (fun n q => ?_) (fun n q1 q2 => ?_)⟩
          · rw [hasB_append, hasB_append]
            congr 1
            by_cases z : 0 ≤ n ∧ n < farS
            · rw [hasB_one z.1 z.2, hasB_one z.1 z.2, decide_eq_true (p := n < e') (by omega), decide_eq_true q]
            · rw [hasB_out z, hasB_out z]
          · rw [hasB_append, hasB_one (f := f) (by omega) (by omega)]
            have := hcs.2.2.1
            simp; right; exact ⟨by show f ≤ n; omega, q2⟩
        · rw [outS_new r (show ((f, t) : Sp).2 ≠ e from hte), show r ++ [(f, t), (e, e')] = (r ++ [(f, t)]) ++ [(e, e')] by simp]
          refine ⟨can_snoc.2 ⟨hc, by rw [endF_snoc]; show t < e; omega, hg, b1.2⟩, by rw [endF_snoc]; exact Int.le_refl _, key _ (fun n q => ?_) (fun n q1 q2 => ?_)⟩
          · rw [hasB_append (r ++ [(f, t)])]
            have : hasB [(e, e')] n = false := by
              by_cases z : 0 ≤ n ∧ n < farS
              · rw [hasB_one z.1 z.2]; simp; omega
              · exact hasB_out z
            rw [this, Bool.or_false]
          · rw [hasB_append (r ++ [(f, t)]), hasB_one (f := e) (by omega) (by omega)]
            simp; right; exact ⟨q1, q2⟩
/-- what the document makes of two lists -/
def refS (a b : List Sp) (what : Int) : List Sp := ofS a b what (endsOf (endsOf [] a) b) ((endsOf (endsOf [] a) b).length - 1)
theorem ends_all (a b : List Sp) : Ends a (endsOf (endsOf [] a) b) ∧ Ends b (endsOf (endsOf [] a) b) := by
  have h0 : Ris (-1) (endsOf [] a) := endsOf_ris a [] trivial
  have h1 : Ris (-1) (endsOf (endsOf [] a) b) := endsOf_ris b _ h0
  have hm := fun y => endsOf_mem b (endsOf [] a) y h0
  have hm0 := fun y => endsOf_mem a [] y trivial
  have hbd : ∀ x ∈ endsOf (endsOf [] a) b, 0 ≤ x ∧ x ≤ farS := fun x hx => by
    rcases (hm x).1 hx with h | ⟨s, _, h⟩
    · rcases (hm0 x).1 h with h | ⟨s, _, h⟩
      · simp at h
      · rcases h with rfl | rfl <;> exact clS_bd _
    · rcases h with rfl | rfl <;> exact clS_bd _
  refine ⟨⟨h1, hbd, fun s hs => ?_⟩, ⟨h1, hbd, fun s hs => ?_⟩⟩
  · exact ⟨(hm _).2 (.inl ((hm0 _).2 (.inr ⟨s, hs, .inl rfl⟩))), (hm _).2 (.inl ((hm0 _).2 (.inr ⟨s, hs, .inr rfl⟩)))⟩
  · exact ⟨(hm _).2 (.inr ⟨s, hs, .inl rfl⟩), (hm _).2 (.inr ⟨s, hs, .inr rfl⟩)⟩
theorem refS_ok (a b : List Sp) (what : Int) : Canon (refS a b what) ∧ ∀ n, hasB (refS a b what) n = opS what (hasB a n) (hasB b n) := by
  obtain ⟨ha, hb⟩ := ends_all a b
  unfold refS
  generalize endsOf (endsOf [] a) b = es at ha hb
  rcases Nat.eq_zero_or_pos es.length with h0 | h0
  · obtain rfl := List.eq_nil_of_length_eq_zero h0
    refine ⟨trivial, fun n => ?_⟩
    have e1 : hasB a n = false := has_not fun s hs => by have := (ha.has s hs).1; simp at this
    have e2 : hasB b n = false := has_not fun s hs => by have := (hb.has s hs).1; simp at this
    rw [e1, e2, opS_ff]
    exact hasB_nil n
  · obtain ⟨hc, he, hn⟩ := ofS_inv what ha hb (es.length - 1) (by omega)
    refine ⟨hc, fun n => ?_⟩
    by_cases q : n < es.getD (es.length - 1) 0
    · exact hn n q
    · rw [ha.high n (by omega), hb.high n (by omega), opS_ff]
      exact hc.behind n (by omega)
/-- a canonical list with the bytes that are wanted is the document's -/
theorem ref_unique {a b l : List Sp} {what : Int} (hc : Canon l) (h : ∀ n, hasB l n = opS what (hasB a n) (hasB b n)) : l = refS a b what :=
  canon_ext hc (refS_ok a b what).1 fun n => by rw [h, (refS_ok a b what).2]
end Go.Proofs.Ytaobdebeglenaaa
