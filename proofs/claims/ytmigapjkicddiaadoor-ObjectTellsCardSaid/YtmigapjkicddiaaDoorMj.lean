/- Objects, plain: keys that rise: where a name stands among them, what is put, dropped, found there. Package object: sameKey, slices.EqualFunc at keys, Same; Check. Package object: Check; the closure of search, sort.Search, search, find, match. Package object: the closure of search, sort.Search, search, find, match. Package object: slices.Clone at keys; Clone. Package object: Clone. -/
import Derived.Test.YtmigapjkicddiaaDoorMi
import Derived.Laws.Cover1
import Derived.Lib.SliceRun
import Derived.Deep.RegionHeld3

namespace Go.Proofs.YtmigapjkicddiaaDoor

theorem bl_irr : ∀ a : List UInt8, Op.bytesLess a a = false
  | [] => rfl
  | x :: r => by simp [Op.bytesLess, bl_irr r]
theorem bl_trans : ∀ a b c : List UInt8, Op.bytesLess a b = true → Op.bytesLess b c = true → Op.bytesLess a c = true
  | _, _, [], _, h => by simp [Op.bytesLess] at h
  | _, [], _ :: _, h, _ => by simp [Op.bytesLess] at h
  | [], _ :: _, _ :: _, _, _ => rfl
  | x :: a, y :: b, z :: c, h1, h2 => by
    simp only [Op.bytesLess, Bool.or_eq_true, decide_eq_true_eq, Bool.and_eq_true, beq_iff_eq] at h1 h2 ⊢
    rcases h1 with h1 | ⟨rfl, h1⟩
    · rcases h2 with h2 | ⟨rfl, h2⟩
      · exact .inl (UInt8.lt_trans h1 h2)
      · exact .inl h1
    · rcases h2 with h2 | ⟨rfl, h2⟩
      · exact .inl h2
      · exact .inr ⟨rfl, bl_trans a b c h1 h2⟩
theorem bl_tri : ∀ a b : List UInt8, Op.bytesLess a b = false → Op.bytesLess b a = false → a = b
  | [], [], _, _ => rfl
  | [], _ :: _, h, _ => by simp [Op.bytesLess] at h
  | _ :: _, [], _, h => by simp [Op.bytesLess] at h
  | x :: a, y :: b, h1, h2 => by
    simp only [Op.bytesLess, Bool.or_eq_false_iff, decide_eq_false_iff_not, Bool.and_eq_false_iff, beq_eq_false_iff_ne] at h1 h2
    have hxy : x = y := UInt8.le_antisymm (UInt8.not_lt.1 h2.1) (UInt8.not_lt.1 h1.1)
    subst hxy
    rw [bl_tri a b (h1.2.resolve_left (by simp)) (h2.2.resolve_left (by simp))]
theorem bl_asym {a b : List UInt8} (h : Op.bytesLess a b = true) : Op.bytesLess b a = false := by
  cases h2 : Op.bytesLess b a
  · rfl
  · have := bl_trans a b a h h2; rw [bl_irr] at this; cases this
/-- '<=' -/
theorem bl_le (m q : List UInt8) : (Op.bytesLess m q || m == q) = !Op.bytesLess q m := by
  cases h : Op.bytesLess q m
  · cases h2 : Op.bytesLess m q
    · have := bl_tri m q h2 h; subst this; simp
    · rfl
  · have h2 := bl_asym h
    have h3 : ¬ m = q := fun e => by subst e; rw [bl_irr] at h; cases h
    simp [h2, h3]
theorem bl_ge_trans {a b c : List UInt8} (h1 : Op.bytesLess b a = false) (h2 : Op.bytesLess c b = false) : Op.bytesLess c a = false := by
  cases h : Op.bytesLess c a
  · rfl
  · cases h3 : Op.bytesLess a b
    · have := bl_tri a b h3 h1; subst this; rw [h2] at h; cases h
    · rw [bl_trans c a b h h3] at h2; cases h2
theorem bl_head {a b : List UInt8} (h : Op.bytesLess b a = false) (ha : 0 < a.length) (hb : 0 < b.length) : a[0] ≤ b[0] := by
  match a, b, ha, hb, h with
  | x :: a, y :: b, _, _, h =>
    simp only [Op.bytesLess, Bool.or_eq_false_iff, decide_eq_false_iff_not] at h
    exact UInt8.not_lt.1 h.1

/-- the keys' names rise -/
def Rise (ks : List Ky) : Prop := ks.Pairwise fun a b => Op.bytesLess a.name b.name = true
def okK (k : Ky) : Prop := nameB k.name = true ∧ k.val.length ≤ 2048
theorem keysK_some : ∀ (ks : List Ky) (q : List UInt8), keysK (some q) ks = true ↔ (∀ k ∈ ks, Op.bytesLess q k.name = true) ∧ (∀ k ∈ ks, okK k) ∧ Rise ks
  | [], q => by simp [keysK, Rise]
  | k :: r, q => by
    rw [keysK, Bool.and_eq_true, keysK_some r k.name]
    simp only [stepK, Bool.and_eq_true, decide_eq_true_eq, List.mem_cons, forall_eq_or_imp, Rise, List.pairwise_cons, okK]
    constructor
    · rintro ⟨⟨h1, h2, h3⟩, h4, h5, h6⟩
      exact ⟨⟨h3, fun x hx => bl_trans _ _ _ h3 (h4 x hx)⟩, ⟨⟨h1, h2⟩, h5⟩, h4, h6⟩
    · rintro ⟨⟨h3, _⟩, ⟨⟨h1, h2⟩, h5⟩, h4, h6⟩
      exact ⟨⟨h1, h2, h3⟩, h4, h5, h6⟩
theorem keysK_iff (ks : List Ky) : keysK none ks = true ↔ (∀ k ∈ ks, okK k) ∧ Rise ks := by
  cases ks with
  | nil => simp [keysK, Rise]
  | cons k r =>
    rw [keysK, Bool.and_eq_true, keysK_some r k.name]
    simp only [stepK, Bool.and_eq_true, decide_eq_true_eq, List.mem_cons, forall_eq_or_imp, Rise, List.pairwise_cons, okK, and_true]
    constructor
    · rintro ⟨⟨h1, h2⟩, h4, h5, h6⟩
      exact ⟨⟨⟨h1, h2⟩, h5⟩, h4, h6⟩
    · rintro ⟨⟨⟨h1, h2⟩, h5⟩, h4, h6⟩
      exact ⟨⟨h1, h2⟩, h4, h5, h6⟩
theorem mayO_iff (o : Oj) : mayO o = true ↔ o.data.length ≤ 64 ∧ o.keys.length ≤ 120 ∧ 0 ≤ o.seq ∧ o.seq ≤ 1099511627776 ∧ (∀ k ∈ o.keys, okK k) ∧ Rise o.keys := by
  simp only [mayO, Bool.and_eq_true, decide_eq_true_eq, keysK_iff]
/-- j names are less, the others are not -/
def Low (ks : List Ky) (X : List UInt8) (j : Nat) : Prop := j ≤ ks.length ∧ (∀ k ∈ ks.take j, Op.bytesLess k.name X = true) ∧ (∀ k ∈ ks.drop j, Op.bytesLess k.name X = false)
theorem Rise.drop_gt {ks : List Ky} {j : Nat} (h : Rise ks) (hj : j < ks.length) : ∀ k ∈ ks.drop (j + 1), Op.bytesLess ks[j].name k.name = true := by
  have h2 : Rise (ks.drop j) := List.Pairwise.sublist (List.drop_sublist _ _) h
  rw [List.drop_eq_getElem_cons hj] at h2
  exact (List.pairwise_cons.1 h2).1
theorem Rise.lt {ks : List Ky} (h : Rise ks) {i j : Nat} (hij : i < j) (hj : j < ks.length) : Op.bytesLess ks[i].name ks[j].name = true :=
  List.pairwise_iff_getElem.1 h i j (by omega) hj hij
/-- behind the place no name is the name that is asked for -/
theorem Low.ne_after {ks : List Ky} {X : List UInt8} {j : Nat} (h : Low ks X j) (hr : Rise ks) : ∀ k ∈ ks.drop (j + 1), ¬ k.name = X := by
  intro k hk e
  have hj : j < ks.length := by
    rcases Nat.lt_or_ge j ks.length with h1 | h1
    · exact h1
    · rw [List.drop_of_length_le (by omega)] at hk; simp at hk
  have h1 := hr.drop_gt hj k hk
  have h2 := h.2.2 ks[j] (by rw [List.drop_eq_getElem_cons hj]; exact List.mem_cons_self)
  rw [e, h2] at h1
  cases h1
theorem Low.ne_before {ks : List Ky} {X : List UInt8} {j : Nat} (h : Low ks X j) : ∀ k ∈ ks.take j, ¬ k.name = X := by
  intro k hk e
  have h1 := h.2.1 k hk
  rw [e, bl_irr] at h1
  cases h1
/-- is a key of that name at that place? -/
def isAt (ks : List Ky) (X : List UInt8) (j : Nat) : Bool := match ks[j]? with | some k => decide (k.name = X) | none => false
theorem Low.get {ks : List Ky} {X : List UInt8} {j : Nat} (h : Low ks X j) (hr : Rise ks) : getK ks X = if isAt ks X j = true then (ks[j]?).map Ky.val else none := by
  by_cases hj : j < ks.length
  · have e : isAt ks X j = decide (ks[j].name = X) := by unfold isAt; rw [List.getElem?_eq_getElem hj]
    rw [e, List.getElem?_eq_getElem hj]
    by_cases hx : ks[j].name = X
    · rw [decide_eq_true hx, if_pos rfl]
      have h2 : ∀ k ∈ ks.take j, decide (k.name = X) = false := fun k hk => decide_eq_false (h.ne_before k hk)
      have key : ∀ (ks : List Ky) (i : Nat) (h : i < ks.length), ks[i].name = X → (∀ k ∈ ks.take i, decide (k.name = X) = false) → getK ks X = some ks[i].val := by
        intro ks
        induction ks with
        | nil => intro i h; simp at h
        | cons k r ih =>
          intro i h h1 h2
          cases i with
          | zero => exact if_pos h1
          | succ i =>
            have h3 : ¬ k.name = X := of_decide_eq_false (h2 k (by simp))
            simp only [getK, if_neg h3]
            exact ih i (by simpa using h) h1 fun q hq => h2 q (by simp [hq])
      exact key ks j hj hx h2
    · rw [decide_eq_false hx]
      have hall : ∀ k ∈ ks, ¬ k.name = X := fun k hk e2 => by
        rw [← List.take_append_drop j ks, List.mem_append, List.drop_eq_getElem_cons hj, List.mem_cons] at hk
        rcases hk with hk | rfl | hk
        · exact h.ne_before k hk e2
        · exact hx e2
        · exact h.ne_after hr k hk e2
      have key : ∀ (ks : List Ky), (∀ k ∈ ks, ¬ k.name = X) → getK ks X = none := by
        intro ks
        induction ks with
        | nil => intro _; rfl
        | cons k r ih => intro h; simp only [getK, if_neg (h k (by simp))]; exact ih fun q hq => h q (by simp [hq])
      simpa using key ks hall
  · have e : isAt ks X j = false := by unfold isAt; rw [List.getElem?_eq_none (by omega)]
    rw [e]
    have hall : ∀ k ∈ ks, ¬ k.name = X := fun k hk e2 => h.ne_before k (by rw [List.take_of_length_le (by omega)]; exact hk) e2
    have key : ∀ (ks : List Ky), (∀ k ∈ ks, ¬ k.name = X) → getK ks X = none := by
      intro ks
      induction ks with
      | nil => intro _; rfl
      | cons k r ih => intro h; simp only [getK, if_neg (h k (by simp))]; exact ih fun q hq => h q (by simp [hq])
    simpa using key ks hall
theorem putS_less : ∀ (ks : List Ky) (X v : List UInt8) (a : List Ky), (∀ k ∈ ks, Op.bytesLess k.name X = true) → ks.foldl (putStep X v) (false, a) = (false, a ++ ks)
  | [], X, v, a, _ => by simp
  | k :: r, X, v, a, h => by
    have h1 := h k (by simp)
    have hne : ¬ k.name = X := fun e => by rw [e, bl_irr] at h1; cases h1
    rw [List.foldl_cons, show putStep X v (false, a) k = (false, a ++ [k]) by simp [putStep, newK, h1, hne], putS_less r X v _ fun q hq => h q (by simp [hq])]
    simp
theorem putS_done : ∀ (ks : List Ky) (X v : List UInt8) (a : List Ky), (∀ k ∈ ks, ¬ k.name = X) → ks.foldl (putStep X v) (true, a) = (true, a ++ ks)
  | [], X, v, a, _ => by simp
  | k :: r, X, v, a, h => by
    have hne := h k (by simp)
    rw [List.foldl_cons, show putStep X v (true, a) k = (true, a ++ [k]) by simp [putStep, newK, hne], putS_done r X v _ fun q hq => h q (by simp [hq])]
    simp
/-- putting a key, by its place -/
theorem Low.put {ks : List Ky} {X : List UInt8} {j : Nat} (h : Low ks X j) (hr : Rise ks) (v : List UInt8) :
    putK ks X v = ks.take j ++ (⟨X, v⟩ : Ky) :: ks.drop (if isAt ks X j = true then j + 1 else j) := by
  have h1 : putS ks X v = (ks.drop j).foldl (putStep X v) (false, ks.take j) := by
    unfold putS
    conv => lhs; rw [← List.take_append_drop j ks]
    rw [List.foldl_append, putS_less _ X v [] h.2.1, List.nil_append]
  unfold putK
  rw [h1]
  by_cases hj : j < ks.length
  · have e : isAt ks X j = decide (ks[j].name = X) := by unfold isAt; rw [List.getElem?_eq_getElem hj]
    have h2 := h.2.2 ks[j] (by rw [List.drop_eq_getElem_cons hj]; exact List.mem_cons_self)
    rw [e, List.drop_eq_getElem_cons hj, List.foldl_cons]
    by_cases hx : ks[j].name = X
    · rw [show putStep X v (false, ks.take j) ks[j] = (true, ks.take j ++ [⟨X, v⟩]) by simp [putStep, newK, hx, bl_irr], putS_done _ X v _ (h.ne_after hr)]
      simp [newK, hx]
    · rw [show putStep X v (false, ks.take j) ks[j] = (true, ks.take j ++ [⟨X, v⟩] ++ [ks[j]]) by simp [putStep, newK, hx, h2], putS_done _ X v _ (h.ne_after hr)]
      simp [newK, hx]
  · have e : isAt ks X j = false := by unfold isAt; rw [List.getElem?_eq_none (by omega)]
    rw [e, List.drop_of_length_le (by omega), List.foldl_nil]
    simp [newK]
    omega
/-- dropping a key, by its place -/
theorem Low.dropped {ks : List Ky} {X : List UInt8} {j : Nat} (h : Low ks X j) (hr : Rise ks) : dropK ks X = if isAt ks X j = true then ks.take j ++ ks.drop (j + 1) else ks := by
  have hf : ∀ l : List Ky, (∀ k ∈ l, ¬ k.name = X) → l.filter (fun k => !(k.name == X)) = l := fun l hl => List.filter_eq_self.2 fun k hk => by simpa using hl k hk
  unfold dropK
  by_cases hj : j < ks.length
  · have e : isAt ks X j = decide (ks[j].name = X) := by unfold isAt; rw [List.getElem?_eq_getElem hj]
    rw [e]
    by_cases hx : ks[j].name = X
    · rw [decide_eq_true hx, if_pos rfl]
      conv => lhs; rw [← List.take_append_drop j ks, List.drop_eq_getElem_cons hj]
      rw [List.filter_append, List.filter_cons, hf _ h.ne_before, hf _ (h.ne_after hr)]
      simp [hx]
    · rw [decide_eq_false hx]
      refine hf ks fun k hk e2 => ?_
      rw [← List.take_append_drop j ks, List.mem_append, List.drop_eq_getElem_cons hj, List.mem_cons] at hk
      rcases hk with hk | rfl | hk
      · exact h.ne_before k hk e2
      · exact hx e2
      · exact h.ne_after hr k hk e2
  · have e : isAt ks X j = false := by unfold isAt; rw [List.getElem?_eq_none (by omega)]
    rw [e]
    exact hf ks fun k hk e2 => h.ne_before k (by rw [List.take_of_length_le (by omega)]; exact hk) e2
/-- does a key at that place stand for the data? -/
def forAt (ks : List Ky) (X : List UInt8) (j : Nat) : Bool := match ks[j]? with | some k => forN k.name X | none => false
theorem forN_true {k n : List UInt8} (h : forN k n = true) : Op.bytesLess k n = false ∧ ∃ (h1 : 0 < n.length) (h2 : 0 < k.length), k[0] = n[0] := by
  simp only [forN, Bool.and_eq_true, Bool.not_eq_true', decide_eq_true_eq] at h
  obtain ⟨h1, h2, h3, h4⟩ := h
  rw [List.getElem?_eq_getElem h3, List.getElem?_eq_getElem h2] at h4
  exact ⟨h1, h2, h3, Option.some.inj h4⟩
theorem forN_of {k n : List UInt8} (h : Op.bytesLess k n = false) (h1 : 0 < n.length) (h2 : 0 < k.length) (e : k[0] = n[0]) : forN k n = true := by
  simp only [forN, h, Bool.not_false, Bool.true_and, decide_eq_true h1, decide_eq_true h2]
  rw [List.getElem?_eq_getElem h2, List.getElem?_eq_getElem h1, e]
  simp
theorem Low.no_before {ks : List Ky} {X : List UInt8} {j : Nat} (h : Low ks X j) : ∀ k ∈ ks.take j, forN k.name X = false := fun k hk => forN_no (h.2.1 k hk)
theorem Low.no_after {ks : List Ky} {X : List UInt8} {j : Nat} (h : Low ks X j) (hr : Rise ks) (hj : j < ks.length) (hno : forN ks[j].name X = false) : ∀ k ∈ ks.drop (j + 1), forN k.name X = false := by
  intro k hk
  cases hf : forN k.name X
  · rfl
  · obtain ⟨h1, h2, h3, h4⟩ := forN_true hf
    have h5 := h.2.2 ks[j] (by rw [List.drop_eq_getElem_cons hj]; exact List.mem_cons_self)
    have h6 := bl_asym (hr.drop_gt hj k hk)
    have h7 : 0 < ks[j].name.length := less_pos h5 h2
    have h8 := bl_head h5 h2 h7
    have h9 := bl_head h6 h7 h3
    rw [h4] at h9
    rw [forN_of h5 h2 h7 (UInt8.le_antisymm h9 h8)] at hno
    cases hno
theorem Low.has {ks : List Ky} {X : List UInt8} {j : Nat} (h : Low ks X j) (hr : Rise ks) : hasK ks X = forAt ks X j := by
  unfold hasK
  by_cases hj : j < ks.length
  · have e : forAt ks X j = forN ks[j].name X := by unfold forAt; rw [List.getElem?_eq_getElem hj]
    rw [e]
    cases hf : forN ks[j].name X
    · rw [List.any_eq_false]
      intro k hk
      rw [← List.take_append_drop j ks, List.mem_append, List.drop_eq_getElem_cons hj, List.mem_cons] at hk
      rcases hk with hk | rfl | hk
      · simp [h.no_before k hk]
      · simp [hf]
      · simp [h.no_after hr hj hf k hk]
    · exact List.any_eq_true.2 ⟨_, List.getElem_mem hj, hf⟩
  · have e : forAt ks X j = false := by unfold forAt; rw [List.getElem?_eq_none (by omega)]
    rw [e, List.any_eq_false]
    intro k hk
    simp [h.no_before k (by rw [List.take_of_length_le (by omega)]; exact hk)]
theorem atK_no {d : List UInt8} {X : List UInt8} : ∀ {ks : List Ky}, (∀ k ∈ ks, forN k.name X = false) → atK d ks X = d
  | [], _ => rfl
  | k :: r, h => by
    have h1 := h k (by simp)
    simp only [atK, h1]
    exact atK_no fun q hq => h q (by simp [hq])
theorem atK_yes {d : List UInt8} {X : List UInt8} : ∀ {ks : List Ky} (i : Nat) (h : i < ks.length), forN ks[i].name X = true → (∀ k ∈ ks.take i, forN k.name X = false) → atK d ks X = ks[i].val
  | [], i, h, _, _ => by simp at h
  | k :: r, 0, h, h1, h2 => by simp only [atK]; rw [if_pos (by simpa using h1)]; rfl
  | k :: r, i + 1, h, h1, h2 => by
    have h3 := h2 k (by simp)
    simp only [atK, h3]
    exact atK_yes (ks := r) i (by simpa using h) h1 fun q hq => h2 q (by simp [hq])
theorem Low.at {ks : List Ky} {X : List UInt8} {j : Nat} (h : Low ks X j) (hr : Rise ks) (d : List UInt8) : atK d ks X = if forAt ks X j = true then ((ks[j]?).map Ky.val).getD [] else d := by
  by_cases hj : j < ks.length
  · have e : forAt ks X j = forN ks[j].name X := by unfold forAt; rw [List.getElem?_eq_getElem hj]
    rw [e, List.getElem?_eq_getElem hj]
    cases hf : forN ks[j].name X
    · refine atK_no fun k hk => ?_
      rw [← List.take_append_drop j ks, List.mem_append, List.drop_eq_getElem_cons hj, List.mem_cons] at hk
      rcases hk with hk | rfl | hk
      · exact h.no_before k hk
      · exact hf
      · exact h.no_after hr hj hf k hk
    · exact atK_yes j hj hf h.no_before
  · have e : forAt ks X j = false := by unfold forAt; rw [List.getElem?_eq_none (by omega)]
    rw [e]
    exact atK_no fun k hk => h.no_before k (by rw [List.take_of_length_le (by omega)]; exact hk)
end Go.Proofs.YtmigapjkicddiaaDoor

namespace Go.Proofs.YtmigapjkicddiaaDoor
open Go.RowKit

theorem ky_eq (m v m' v' : List UInt8) : ((⟨m, v⟩ : Ky) = ⟨m', v'⟩) ↔ (m = m' ∧ v = v') := ⟨fun e => by cases e; exact ⟨rfl, rfl⟩, fun ⟨h1, h2⟩ => by subst h1 h2; rfl⟩
set_option maxRecDepth 10000 in
set_option maxHeartbeats 1000000 in
theorem kSameKey (m m' v v' : List UInt8) (A : Option Addr) (n c : Nat) (A' : Option Addr) (n' c' B B' : Nat) (w : World) (hr : Rd w B A n v) (hr' : Rd w B' A' n' v') (hB : B ≤ w.heap.size) (hB' : B' ≤ w.heap.size) :
    Calls Tryd.prog 35 #[.agg #[.string ⟨m.toArray⟩, .slice A n c], .agg #[.string ⟨m'.toArray⟩, .slice A' n' c']] w fun e w' => e = .returned (.bool (decide ((⟨m, v⟩ : Ky) = ⟨m', v'⟩))) ∧ Below w.heap.size w w' := by
  have HT := Lib.hid (two_objs w (.cells #[.string ⟨m.toArray⟩, .slice A n c] 48) (.cells #[.string ⟨m'.toArray⟩, .slice A' n' c'] 48))
  have Hr := Lib.hid (hr.below (HT.out.2.2.mono hB))
  have Hr' := Lib.hid (hr'.below (HT.out.2.2.mono hB'))
  obtain ⟨r, hrr⟩ : ∃ r, r = decide ((⟨m, v⟩ : Ky) = ⟨m', v'⟩) := ⟨_, rfl⟩
  rw [← hrr]
  have HR := Lib.hid (show r = decide (m = m' ∧ v = v') by rw [hrr]; exact decide_eq_decide.2 (ky_eq _ _ _ _))
  clear hr hr' hB hB' hrr
  go_enter Tryd.func35, Tryd.ntmps35
  go_upto_region 1 with fail
  generalize (w.alloc (.cells #[.string ⟨m.toArray⟩, .slice A n c] 48)).alloc (.cells #[.string ⟨m'.toArray⟩, .slice A' n' c'] 48) = w1 at HT Hr Hr' ⊢
  obtain ⟨b2, hb2⟩ : ∃ b, b = w.heap.size + 1 := ⟨_, rfl⟩
  obtain ⟨b1, hb1⟩ : ∃ b, b = w.heap.size := ⟨_, rfl⟩
  have c0 : w1.cell? ⟨w.heap.size, 0, none⟩ = some (.string ⟨m.toArray⟩) := by rw [cell_blk HT.out.1]; rfl
  have c1 : w1.cell? ⟨w.heap.size, 1, none⟩ = some (.slice A n c) := by rw [cell_blk HT.out.1]; rfl
  have d0 : w1.cell? ⟨w.heap.size + 1, 0, none⟩ = some (.string ⟨m'.toArray⟩) := by rw [cell_blk HT.out.2.1]; rfl
  have d1 : w1.cell? ⟨w.heap.size + 1, 1, none⟩ = some (.slice A' n' c') := by rw [cell_blk HT.out.2.1]; rfl
  have Hb := Lib.hid HT.out.2.2
  rw [← hb2] at d0 d1 ⊢
  rw [← hb1] at c0 c1 ⊢
  clear HT hb1 hb2
  by_cases hx : m = m'
  · have hb : (m == m') = true := by simpa using hx
    have He := Lib.hid (show r = decide (v = v') by rw [HR.out]; simp [hx])
    have HQ := Lib.hid (kEqual A A' n c n' c' v v' B B' w1 Hr.out Hr'.out)
    clear HR
    go_wp2_with fail
    refine HQ.out.mono ?_
    rintro e w' ⟨rfl, rfl⟩
    go_wp2_with fail
    go_ret
    exact ⟨by rw [He.out]; rfl, Hb.out⟩
  · have hb : (m == m') = false := by simpa using hx
    have He := Lib.hid (show r = false by rw [HR.out]; simp [hx])
    clear HR
    go_wp2_with fail
    go_ret
    exact ⟨by rw [He.out]; rfl, Hb.out⟩

set_option maxRecDepth 10000 in
set_option maxHeartbeats 2000000 in
theorem kEqualFunc (Ak : Option Addr) (nk ck : Nat) (ks : List Ky) (Ak' : Option Addr) (nk' ck' : Nat) (ks' : List Ky) (B : Nat) (w : World) (hr : RdK w B Ak nk ks) (hr' : RdK w B Ak' nk' ks') (hB : B ≤ w.heap.size) (hn : nk ≤ 100000) (hn' : nk' ≤ 100000) :
    Calls Tryd.prog 34 #[.slice Ak nk ck, .slice Ak' nk' ck', .func (.func 35) #[] #[]] w fun e w' => e = .returned (.bool (decide (ks = ks'))) ∧ Below w.heap.size w w' := by
  have Hr := Lib.hid hr
  have Hr' := Lib.hid hr'
  have HBw := Lib.hid hB
  obtain ⟨r, hrr⟩ : ∃ r, r = decide (ks = ks') := ⟨_, rfl⟩
  rw [← hrr]
  have HR := Lib.hid hrr
  clear hr hr' hB hrr
  by_cases hnn : nk = nk'
  · subst hnn
    go_enter Tryd.func34, Tryd.ntmps34
    go_wp2_with fail
    go_loopw [17] (fun i wr => ∃ j : Nat, j ≤ nk ∧ i = .int .i64 j ∧ Hid (ks.take j = ks'.take j) ∧ Hid (Below w.heap.size w wr)) (fun i _ => nk - (intOf i).toNat)
    case atStart => exact ⟨0, Nat.zero_le _, rfl, rfl, Below.refl _ _⟩
    case round =>
      obtain ⟨j, hj, rfl, Hj, Hb⟩ := hrel
      have Gr := Lib.hid (Hr.out.below (Hb.out.mono HBw.out))
      have Gr' := Lib.hid (Hr'.out.below (Hb.out.mono HBw.out))
      by_cases hjn : j < nk
      · have hjl : j < ks.length := by rw [Gr.out.1]; exact hjn
        have hjl' : j < ks'.length := by rw [Gr'.out.1]; exact hjn
        obtain ⟨g, o, Aj, nj, cj, rfl, hg, x0, x1, h5, h6, h7⟩ := Gr.out.2 j hjl
        obtain ⟨g', o', Aj', nj', cj', rfl, hg', y0, y1, k5, k6, k7⟩ := Gr'.out.2 j hjl'
        have Hyes : Hid (ks[j] = ks'[j] → ks.take (j + 1) = ks'.take (j + 1)) := fun h => by rw [List.take_succ_eq_append_getElem hjl, List.take_succ_eq_append_getElem hjl', Hj.out, h]
        have Hno : Hid (ks[j] ≠ ks'[j] → r = false) := fun h => by rw [HR.out]; exact decide_eq_false (fun e => h (by subst e; rfl))
        have HB2 := Lib.hid (Nat.le_trans HBw.out Hb.out.size)
        have H5 := Lib.hid h5
        have K5 := Lib.hid k5
        clear h5 k5 h6 k6 h7 k7
        generalize ks[j] = k at x0 H5 Hyes Hno
        generalize ks'[j] = k' at y0 K5 Hyes Hno
        obtain ⟨m, v⟩ := k
        obtain ⟨m', v'⟩ := k'
        have x0 : wr.cell? ⟨g, o + j * 2, none⟩ = some (.string ⟨m.toArray⟩) := x0
        have y0 : wr.cell? ⟨g', o' + j * 2, none⟩ = some (.string ⟨m'.toArray⟩) := y0
        have hj0 : (0 : Int) ≤ (j : Int) := by omega
        have hj1 : (j : Int) < (nk : Int) := by omega
        have hgl : g < wr.heap.size := by have := HB2.out; omega
        have hgl' : g' < wr.heap.size := by have := HB2.out; omega
        clear hjl hjl'
        have HK := Lib.hid (fun (w2 : World) (hb : Below wr.heap.size wr w2) => kSameKey m m' v v' Aj nj cj Aj' nj' cj' B B w2 (H5.out.below (hb.mono HB2.out)) (K5.out.below (hb.mono HB2.out)) (Nat.le_trans HB2.out hb.size) (Nat.le_trans HB2.out hb.size))
        obtain ⟨q, hq⟩ : ∃ q, q = decide ((⟨m, v⟩ : Ky) = ⟨m', v'⟩) := ⟨_, rfl⟩
        have Hyes2 := Lib.hid (show q = true → ks.take (j + 1) = ks'.take (j + 1) from fun h => Hyes.out (of_decide_eq_true (hq ▸ h)))
        have Hno2 := Lib.hid (show q = false → r = false from fun h => Hno.out (of_decide_eq_false (hq ▸ h)))
        rw [← hq] at HK
        clear hq Hyes Hno
        have Hbx := Lib.hid (((Below.refl wr.heap.size wr).alloc (Nat.le_refl _) (.cells #[.string ⟨m.toArray⟩, .slice Aj nj cj] 48)).alloc (by simp) (.cells #[.string ⟨m'.toArray⟩, .slice Aj' nj' cj'] 48))
        go_wp2_with fail
        refine (HK.out _ Hbx.out).mono ?_
        rintro e w2 ⟨rfl, hb⟩
        have Hb2 := Lib.hid (Hb.out.trans ((Hbx.out.trans (hb.mono Hbx.out.size)).mono Hb.out.size))
        clear hb Hbx HK x0 x1 y0 y1
        cases q
        · have He := Lib.hid (Hno2.out rfl)
          clear Hyes2 Hno2
          go_wp2_with fail
          go_ret
          exact ⟨by first | (rw [He.out]; done) | (rw [He.out]; rfl), Hb2.out⟩
        · have Hj2 := Lib.hid (Hyes2.out rfl)
          clear Hyes2 Hno2
          go_wp2_with fail
          go_roundw
          case rel => exact ⟨j + 1, by omega, by go_num, Hj2, Hb2⟩
          case measure => simp [intOf]; omega
      · obtain rfl : j = nk := by omega
        have He := Lib.hid (show r = true by
          rw [HR.out]
          have h := Hj.out
          rw [List.take_of_length_le (by rw [Gr.out.1]; exact Nat.le_refl _), List.take_of_length_le (by rw [Gr'.out.1]; exact Nat.le_refl _)] at h
          exact decide_eq_true h)
        go_wp2_with fail
        go_ret
        exact ⟨by first | (rw [He.out]; done) | (rw [He.out]; rfl), Hb.out⟩
  · have He := Lib.hid (show r = false by rw [HR.out]; exact decide_eq_false fun e => hnn (by rw [← Hr.out.1, ← Hr'.out.1, e]))
    have hne : ¬ ((nk : Int) = (nk' : Int)) := by omega
    go_enter Tryd.func34, Tryd.ntmps34
    go_wp2_with fail
    go_ret
    exact ⟨by first | (rw [He.out]; done) | (rw [He.out]; rfl), Below.refl _ _⟩

set_option maxRecDepth 10000 in
set_option maxHeartbeats 2000000 in
theorem kSame (Ad : Option Addr) (nd cd : Nat) (Ak : Option Addr) (nk ck : Nat) (s : Int) (d : List UInt8) (ks : List Ky) (Ad' : Option Addr) (nd' cd' : Nat) (Ak' : Option Addr) (nk' ck' : Nat) (s' : Int) (d' : List UInt8) (ks' : List Ky) (w : World)
    (hd : Rd w w.heap.size Ad nd d) (hr : RdK w w.heap.size Ak nk ks) (hd' : Rd w w.heap.size Ad' nd' d') (hr' : RdK w w.heap.size Ak' nk' ks') (hn : nk ≤ 100000) (hn' : nk' ≤ 100000) :
    Calls Tryd.prog 19 #[oV Ad nd cd Ak nk ck s, oV Ad' nd' cd' Ak' nk' ck' s'] w fun e w' => e = .returned (.bool (decide ((⟨d, ks, s⟩ : Oj) = ⟨d', ks', s'⟩))) ∧ Below w.heap.size w w' := by
  have HT := Lib.hid (two_objs w (.cells #[.slice Ad nd cd, .slice Ak nk ck, .int .i64 s] 25) (.cells #[.slice Ad' nd' cd', .slice Ak' nk' ck', .int .i64 s'] 25))
  have Hr := Lib.hid (hr.below HT.out.2.2)
  have Hr' := Lib.hid (hr'.below HT.out.2.2)
  have Hd := Lib.hid (hd.below HT.out.2.2)
  have Hd' := Lib.hid (hd'.below HT.out.2.2)
  obtain ⟨r, hrr⟩ : ∃ r, decide ((⟨d, ks, s⟩ : Oj) = ⟨d', ks', s'⟩) = r := ⟨_, rfl⟩
  have HR := Lib.hid (show r = decide (d = d' ∧ s = s' ∧ ks = ks') by rw [← hrr]; exact decide_eq_decide.2 (oj_eq _ _ _ _ _ _))
  rw [hrr]
  clear hr hr' hd hd' hrr
  go_enter Tryd.func19, Tryd.ntmps19
  go_upto_region 1 with fail
  generalize (w.alloc (.cells #[.slice Ad nd cd, .slice Ak nk ck, .int .i64 s] 25)).alloc (.cells #[.slice Ad' nd' cd', .slice Ak' nk' ck', .int .i64 s'] 25) = w1 at HT Hr Hr' Hd Hd' ⊢
  obtain ⟨b2, hb2⟩ : ∃ b, b = w.heap.size + 1 := ⟨_, rfl⟩
  obtain ⟨b1, hb1⟩ : ∃ b, b = w.heap.size := ⟨_, rfl⟩
  have Hh := Lib.hid (OAt.of HT.out.1)
  have Hh' := Lib.hid (OAt.of HT.out.2.1)
  have Hb := Lib.hid HT.out.2.2
  rw [← hb2] at Hh' ⊢
  rw [← hb1] at Hh ⊢
  clear HT hb1 hb2
  have c0 := Hh.out.c0
  have c1 := Hh.out.c1
  have e0 := Hh'.out.c0
  have e1 := Hh'.out.c1
  have HQ := Lib.hid (kEqual Ad Ad' nd cd nd' cd' d d' w.heap.size w.heap.size w1 Hd.out Hd'.out)
  have HE := Lib.hid (kEqualFunc Ak nk ck ks Ak' nk' ck' ks' w.heap.size w1 Hr.out Hr'.out Hb.out.size hn hn')
  by_cases h1 : d = d'
  · rw [decide_eq_true h1] at HQ
    by_cases h2 : ks = ks'
    · rw [decide_eq_true h2] at HE
      have He := Lib.hid (show r = decide (s = s') by rw [HR.out]; simp [h1, h2])
      clear HR h1 h2
      go_wp2_with fail
      refine HQ.out.mono ?_
      rintro e w' ⟨rfl, rfl⟩
      go_wp2_with fail
      refine HE.out.mono ?_
      rintro e w2 ⟨rfl, hb⟩
      have G := Lib.hid (Hh.out.to hb)
      have G' := Lib.hid (Hh'.out.to hb)
      have Hb2 := Lib.hid (Hb.out.trans (hb.mono Hb.out.size))
      clear hb c0 c1 e0 e1
      have c2 := G.out.c2
      have e2 := G'.out.c2
      go_wp2_with fail
      go_ret
      exact ⟨by first | (rw [He.out]; done) | (rw [He.out]; rfl) | (rw [He.out]; simp; done) | (rw [He.out, Bool.eq_iff_iff.2 (by simp)]), Hb2.out⟩
    · rw [decide_eq_false h2] at HE
      have He := Lib.hid (show r = false by rw [HR.out]; simp [h2])
      clear HR h1 h2
      go_wp2_with fail
      refine HQ.out.mono ?_
      rintro e w' ⟨rfl, rfl⟩
      go_wp2_with fail
      refine HE.out.mono ?_
      rintro e w2 ⟨rfl, hb⟩
      have Hb2 := Lib.hid (Hb.out.trans (hb.mono Hb.out.size))
      clear hb c0 c1 e0 e1
      go_wp2_with fail
      go_ret
      exact ⟨by first | (rw [He.out]; done) | (rw [He.out]; rfl), Hb2.out⟩
  · rw [decide_eq_false h1] at HQ
    have He := Lib.hid (show r = false by rw [HR.out]; simp [h1])
    clear HR h1
    go_wp2_with fail
    refine HQ.out.mono ?_
    rintro e w' ⟨rfl, rfl⟩
    go_wp2_with fail
    go_ret
    exact ⟨by first | (rw [He.out]; done) | (rw [He.out]; rfl), Hb.out⟩
end Go.Proofs.YtmigapjkicddiaaDoor

namespace Go.Proofs.YtmigapjkicddiaaDoor
open Go.RowKit

theorem stepK_le (p : Option (List UInt8)) (k : Ky) : stepK p k = (nameB k.name && (decide (k.val.length ≤ 2048) && Op.bytesLess (p.getD []) k.name)) := by
  cases p with
  | some q => rfl
  | none =>
    unfold stepK
    cases hn : nameB k.name
    · rfl
    · have h : 1 ≤ k.name.length := by
        unfold nameB at hn
        simp only [Bool.and_eq_true, decide_eq_true_eq] at hn
        exact hn.1.1
      have h2 : Op.bytesLess [] k.name = true := by
        cases hk : k.name with
        | nil => rw [hk] at h; simp at h
        | cons a r => rfl
      simp [h2]
def errO (b : Bool) : Int := if b = true then 0 else 1
set_option maxRecDepth 10000 in
set_option maxHeartbeats 2000000 in
theorem kCheck (Ad : Option Addr) (nd cd : Nat) (Ak : Option Addr) (nk ck : Nat) (s : Int) (d : List UInt8) (ks : List Ky) (B : Nat) (w : World) (hd : d.length = nd) (hr : RdK w B Ak nk ks) (hB : B ≤ w.heap.size) :
    Calls Tryd.prog 14 #[oV Ad nd cd Ak nk ck s] w fun e w' => e = .returned (.int .i64 (errO (mayO ⟨d, ks, s⟩))) ∧ Below w.heap.size w w' := by
  have Hb := Lib.hid ((Below.refl w.heap.size w).alloc (Nat.le_refl _) (.cells #[.slice Ad nd cd, .slice Ak nk ck, .int .i64 s] 25))
  have Hr0 := Lib.hid (hr.below (Hb.out.mono hB))
  have Hh := Lib.hid (OAt.box w (.slice Ad nd cd) (.slice Ak nk ck) s 25)
  have HBw := Lib.hid (Nat.le_trans hB Hb.out.size)
  obtain ⟨v, hv⟩ : ∃ v, v = mayO ⟨d, ks, s⟩ := ⟨_, rfl⟩
  have HF := Lib.hid (show v = (decide (nd ≤ 64) && (decide (nk ≤ 120) && (decide (0 ≤ s) && (decide (s ≤ 1099511627776) && keysK none ks)))) by rw [hv]; unfold mayO; rw [← hd, ← hr.1])
  rw [← hv]
  clear hr hB hd hv
  go_enter Tryd.func14, Tryd.ntmps14
  go_upto_region 1 with fail
  generalize w.alloc (.cells #[.slice Ad nd cd, .slice Ak nk ck, .int .i64 s] 25) = w1 at Hb Hr0 Hh HBw ⊢
  have c0 := Hh.out.c0
  have c1 := Hh.out.c1
  have c2 := Hh.out.c2
  obtain ⟨b, hbe⟩ : ∃ b, b = w.heap.size := ⟨_, rfl⟩
  rw [← hbe] at Hh c0 c1 c2 ⊢
  clear hbe
  by_cases h1 : nd ≤ 64
  · by_cases h2 : nk ≤ 120
    · obtain ⟨q, hq⟩ : ∃ q, q = (decide (0 ≤ s) && decide (s ≤ 1099511627776)) := ⟨_, rfl⟩
      have HF2 := Lib.hid (show v = (q && keysK none ks) by rw [HF.out, hq, decide_eq_true h1, decide_eq_true h2, Bool.true_and, Bool.true_and, Bool.and_assoc])
      have HS := Lib.hid (kSeq s w1)
      rw [← hq] at HS
      clear hq HF
      go_wp2_with fail
      refine HS.out.mono ?_
      rintro e w' ⟨rfl, hw⟩
      obtain rfl := hw.symm
      clear HS hw
      cases q
      · have He := Lib.hid (show errO v = 1 by rw [HF2.out]; rfl)
        clear HF2
        go_wp2_with fail
        go_ret
        exact ⟨by first | (rw [He.out]; done) | (rw [He.out]; rfl), Hb.out⟩
      · have HF3 := Lib.hid (show v = keysK none ks by rw [HF2.out, Bool.true_and])
        clear HF2
        go_wp2_with fail
        go_loopw [25, 3] (fun i u wr => ∃ (j : Nat) (P : List UInt8), j ≤ nk ∧ i = .int .i64 j ∧ u = .string ⟨P.toArray⟩ ∧ Hid (P = (prevK ks j).getD []) ∧ Hid (v = keysK (prevK ks j) (ks.drop j)) ∧ Hid (Below w1.heap.size w1 wr)) (fun i _ _ => nk - (intOf i).toNat)
        case atStart => exact ⟨0, [], Nat.zero_le _, rfl, rfl, rfl, HF3.out, Below.refl _ _⟩
        case round =>
          obtain ⟨j, P, hj, rfl, rfl, HP, Hj, Hbr⟩ := hrel
          have Gr := Lib.hid (Hr0.out.below (Hbr.out.mono HBw.out))
          have Gh := Lib.hid (Hh.out.to Hbr.out)
          clear c0 c1 c2
          by_cases hjn : j < nk
          · have hjl : j < ks.length := by rw [Gr.out.1]; exact hjn
            obtain ⟨g, o, Aj, nj, cj, rfl, hg, x0, x1, h5, h6, h7⟩ := Gr.out.2 j hjl
            have Hst := Lib.hid (keysK_drop hjl)
            have Hle := Lib.hid (stepK_le (prevK ks j) ks[j])
            rw [← HP.out] at Hle
            have Hpn := Lib.hid (show ks[j].name = (prevK ks (j + 1)).getD [] by rw [prevK_succ hjl]; rfl)
            have Hlen := Lib.hid h5.1
            have HN := Lib.hid (fun w => kName ks[j].name w h7)
            have hgl : g < wr.heap.size := World.block_lt_of_cell? wr _ x0
            clear h5 h7 HP
            generalize ks[j] = k at x0 Hst Hlen HN Hle Hpn
            obtain ⟨m, u⟩ := k
            have x0 : wr.cell? ⟨g, o + j * 2, none⟩ = some (.string ⟨m.toArray⟩) := x0
            have hj0 : (0 : Int) ≤ (j : Int) := by omega
            have hj1 : (j : Int) < (nk : Int) := by omega
            have hnl : u.length = nj := Hlen.out
            have Hlnj := Lib.hid hnl
            clear hjl hnl
            have Hbx := Lib.hid ((Below.refl wr.heap.size wr).alloc (Nat.le_refl _) (.cells #[.string ⟨m.toArray⟩, .slice Aj nj cj] 48))
            have Hb2 := Lib.hid (Hb.out.trans ((Hbr.out.trans (Hbx.out.mono Hbr.out.size)).mono Hb.out.size))
            have Hbr2 := Lib.hid (Hbr.out.trans (Hbx.out.mono Hbr.out.size))
            have y0 := (box_key wr (.string ⟨m.toArray⟩) (.slice Aj nj cj) 48).1
            have y1 := (box_key wr (.string ⟨m.toArray⟩) (.slice Aj nj cj) 48).2
            go_wp2_with fail
            refine (HN.out _).mono ?_
            rintro e w2 ⟨rfl, rfl⟩
            clear HN x0 x1
            generalize wr.alloc (.cells #[.string ⟨m.toArray⟩, .slice Aj nj cj] 48) = w3 at y0 y1 Hbx Hb2 Hbr2 ⊢
            obtain ⟨b3, hb3⟩ : ∃ b, b = wr.heap.size := ⟨_, rfl⟩
            rw [← hb3] at y0 y1 ⊢
            clear hb3
            obtain ⟨r, hr⟩ : ∃ r, r = nameB m := ⟨_, rfl⟩
            have Hle2 := Lib.hid (show v = ((r && (decide (nj ≤ 2048) && Op.bytesLess P m)) && keysK (prevK ks (j + 1)) (ks.drop (j + 1))) by rw [Hj.out, Hst.out, Hle.out, hr]; show ((nameB m && (decide (u.length ≤ 2048) && _)) && _) = _; rw [Hlnj.out])
            rw [← hr]
            clear hr Hle Hst Hlnj Hlen
            cases r
            · have He := Lib.hid (show errO v = 1 by rw [Hle2.out]; simp [errO])
              clear Hle2
              go_wp2_with fail
              go_ret
              exact ⟨by first | (rw [He.out]; done) | (rw [He.out]; rfl), Hb2.out⟩
            · rw [Bool.true_and] at Hle2
              by_cases hlt : Op.bytesLess P m = true
              · have hlt2 : Op.bytesLess m P = false := bl_asym hlt
                have hne : (m == P) = false := by
                  simp only [beq_eq_false_iff_ne, ne_eq]
                  intro e
                  rw [e, bl_irr] at hlt
                  cases hlt
                rw [hlt, Bool.and_true] at Hle2
                by_cases h20 : nj ≤ 2048
                · have Hj2 := Lib.hid (show v = keysK (prevK ks (j + 1)) (ks.drop (j + 1)) by rw [Hle2.out, decide_eq_true h20, Bool.true_and])
                  clear Hle2 hlt
                  go_wp2_with fail
                  go_roundw
                  case rel => exact ⟨j + 1, m, by omega, by go_num, rfl, Hpn, Hj2, Hbr2⟩
                  case measure => simp [intOf]; omega
                · have He := Lib.hid (show errO v = 1 by rw [Hle2.out, decide_eq_false h20]; rfl)
                  clear Hle2 hlt
                  go_wp2_with fail
                  go_ret
                  exact ⟨by first | (rw [He.out]; done) | (rw [He.out]; rfl), Hb2.out⟩
              · replace hlt := Bool.eq_false_iff.2 hlt
                have hle : (Op.bytesLess m P || m == P) = true := by rw [bl_le, hlt]; rfl
                have He := Lib.hid (show errO v = 1 by rw [Hle2.out, hlt]; simp [errO])
                clear Hle2 hlt
                go_wp2_with fail
                go_ret
                exact ⟨by first | (rw [He.out]; done) | (rw [He.out]; rfl), Hb2.out⟩
          · obtain rfl : j = nk := by omega
            have He := Lib.hid (show errO v = 0 by rw [Hj.out, List.drop_of_length_le (by rw [Gr.out.1]; exact Nat.le_refl _)]; rfl)
            have Hb2 := Lib.hid (Hb.out.trans (Hbr.out.mono Hb.out.size))
            go_wp2_with fail
            go_ret
            exact ⟨by first | (rw [He.out]; done) | (rw [He.out]; rfl), Hb2.out⟩
    · have He := Lib.hid (show errO v = 1 by rw [HF.out]; simp [errO, h2])
      go_wp2_with fail
      go_ret
      exact ⟨by first | (rw [He.out]; done) | (rw [He.out]; rfl), Hb.out⟩
  · have He := Lib.hid (show errO v = 1 by rw [HF.out]; simp [errO, h1])
    go_wp2_with fail
    go_ret
    exact ⟨by first | (rw [He.out]; done) | (rw [He.out]; rfl), Hb.out⟩
end Go.Proofs.YtmigapjkicddiaaDoor

namespace Go.Proofs.YtmigapjkicddiaaDoor
open Go.RowKit

set_option maxRecDepth 10000 in
set_option maxHeartbeats 1000000 in
theorem kSearch1 (p1 p2 : Nat) (j : Nat) (X : List UInt8) (Ak : Option Addr) (nk ck : Nat) (ks : List Ky) (B : Nat) (w : World) (hr : RdK w B Ak nk ks) (hp1 : w.cell? ⟨p1, 0, none⟩ = some (.slice Ak nk ck)) (hp2 : w.cell? ⟨p2, 0, none⟩ = some (.string ⟨X.toArray⟩)) (hj : j < ks.length) :
    Calls Tryd.prog 72 #[.int .i64 (j : Int), .pointer (some ⟨p1, 0, none⟩), .pointer (some ⟨p2, 0, none⟩)] w fun e w' => e = .returned (.bool (!Op.bytesLess ks[j].name X)) ∧ Below w.heap.size w w' := by
  have hjn : j < nk := by rw [← hr.1]; exact hj
  obtain ⟨g, o, Aj, nj, cj, rfl, hg, x0, x1, h5, h6, h7⟩ := hr.2 j hj
  have Hb := Lib.hid (Below.refl w.heap.size w)
  clear hr x1 h5 h6 h7 hg
  generalize ks[j] = k at x0 ⊢
  obtain ⟨m, u⟩ := k
  have x0 : w.cell? ⟨g, o + j * 2, none⟩ = some (.string ⟨m.toArray⟩) := x0
  show Calls _ _ _ _ fun e w' => e = .returned (.bool (!Op.bytesLess m X)) ∧ _
  have hj0 : (0 : Int) ≤ (j : Int) := by omega
  have hj1 : (j : Int) < (nk : Int) := by omega
  clear hj
  obtain ⟨r, hr⟩ : ∃ r, r = Op.bytesLess m X := ⟨_, rfl⟩
  have hr2 := hr.symm
  rw [← hr]
  clear hr
  go_enter Tryd.func72, Tryd.ntmps72
  go_wp2_with fail
  go_quiet (fail)
  go_wp2_with fail
  go_ret
  exact ⟨by first | rfl | simp_all, below_drewN Hb.out _⟩

theorem low_less {ks : List Ky} {X : List UInt8} {h : Nat} (hr : Rise ks) (hh : h < ks.length) (hl : Op.bytesLess ks[h].name X = true) : ∀ k ∈ ks.take (h + 1), Op.bytesLess k.name X = true := by
  intro k hk
  obtain ⟨i, hi, rfl⟩ := List.getElem_of_mem hk
  rw [List.getElem_take]
  have hi2 : i < h + 1 := by simp at hi; omega
  rcases Nat.lt_or_ge i h with h1 | h1
  · exact bl_trans _ _ _ (hr.lt h1 hh) hl
  · obtain rfl : i = h := by omega
    exact hl
theorem low_not {ks : List Ky} {X : List UInt8} {h : Nat} (hr : Rise ks) (hh : h < ks.length) (hl : Op.bytesLess ks[h].name X = false) : ∀ k ∈ ks.drop h, Op.bytesLess k.name X = false := by
  intro k hk
  rw [List.drop_eq_getElem_cons hh, List.mem_cons] at hk
  rcases hk with rfl | hk
  · exact hl
  · exact bl_ge_trans hl (bl_asym (hr.drop_gt hh k hk))

set_option maxRecDepth 10000 in
set_option maxHeartbeats 2000000 in
theorem kSortSearch (p1 p2 : Nat) (X : List UInt8) (Ak : Option Addr) (nk ck : Nat) (ks : List Ky) (B : Nat) (w : World) (hr : RdK w B Ak nk ks) (hB : B ≤ w.heap.size) (hp1 : w.cell? ⟨p1, 0, none⟩ = some (.slice Ak nk ck)) (hp2 : w.cell? ⟨p2, 0, none⟩ = some (.string ⟨X.toArray⟩)) (hn : nk ≤ 100000) (hs : Rise ks) :
    Calls Tryd.prog 71 #[.int .i64 (nk : Int), .func (.func 72) #[] #[.pointer (some ⟨p1, 0, none⟩), .pointer (some ⟨p2, 0, none⟩)]] w fun e w' => ∃ j : Nat, e = .returned (.int .i64 j) ∧ Hid (Low ks X j) ∧ Below w.heap.size w w' := by
  have Hr := Lib.hid hr
  have HBw := Lib.hid hB
  have H1 := Lib.hid (And.intro hp1 (World.block_lt_of_cell? w _ hp1))
  have H2 := Lib.hid (And.intro hp2 (World.block_lt_of_cell? w _ hp2))
  have Hs := Lib.hid hs
  have Hl := Lib.hid hr.1
  clear hr hB hp1 hp2 hs
  go_enter Tryd.func71, Tryd.ntmps71
  go_wp2_with fail
  go_loopw [5, 6] (fun s5 s6 wr => ∃ lo hi : Nat, s5 = .int .i64 lo ∧ s6 = .int .i64 hi ∧ lo ≤ hi ∧ hi ≤ nk ∧ Hid ((∀ k ∈ ks.take lo, Op.bytesLess k.name X = true) ∧ (∀ k ∈ ks.drop hi, Op.bytesLess k.name X = false)) ∧ Hid (Below w.heap.size w wr)) (fun s5 s6 _ => (intOf s6).toNat - (intOf s5).toNat)
  case atStart => exact ⟨0, nk, rfl, rfl, Nat.zero_le _, Nat.le_refl _, ⟨fun k hk => by simp at hk, fun k hk => by rw [List.drop_of_length_le (by rw [Hl.out]; exact Nat.le_refl _)] at hk; simp at hk⟩, Below.refl _ _⟩
  case round =>
    obtain ⟨lo, hi, rfl, rfl, hlh, hin, Hi, Hb⟩ := hrel
    by_cases hlt : lo < hi
    · have hh : (lo + hi) / 2 < ks.length := by rw [Hl.out]; omega
      have HC := Lib.hid (kSearch1 p1 p2 ((lo + hi) / 2) X Ak nk ck ks B wr (Hr.out.below (Hb.out.mono HBw.out)) ((Hb.out.cell (p := ⟨p1, 0, none⟩) H1.out.2).trans H1.out.1) ((Hb.out.cell (p := ⟨p2, 0, none⟩) H2.out.2).trans H2.out.1) hh)
      rw [show (((lo + hi) / 2 : Nat) : Int) = ((lo : Int) + (hi : Int)) / 2 by omega] at HC
      cases hp : Op.bytesLess ks[(lo + hi) / 2].name X
      · have I2 := Lib.hid (And.intro Hi.out.1 (low_not Hs.out hh hp))
        rw [hp] at HC
        clear hp hh
        go_wp2_with fail
        refine HC.out.mono ?_
        rintro e w2 ⟨rfl, hb⟩
        have Hb2 := bel8 (Nat.le_refl _) Hb hb
        clear hb HC
        go_wp2_with fail
        go_roundw
        case rel => exact ⟨lo, (lo + hi) / 2, rfl, by rw [show ((lo : Int) + (hi : Int)) / 2 = (((lo + hi) / 2 : Nat) : Int) by omega], by omega, by omega, I2, Hb2⟩
        case measure => simp [intOf]; omega
      · have I2 := Lib.hid (And.intro (low_less Hs.out hh hp) Hi.out.2)
        rw [hp] at HC
        clear hp hh
        go_wp2_with fail
        refine HC.out.mono ?_
        rintro e w2 ⟨rfl, hb⟩
        have Hb2 := bel8 (Nat.le_refl _) Hb hb
        clear hb HC
        go_wp2_with fail
        go_roundw
        case rel => exact ⟨(lo + hi) / 2 + 1, hi, by rw [show ((lo : Int) + (hi : Int)) / 2 + 1 = (((lo + hi) / 2 + 1 : Nat) : Int) by omega], rfl, by omega, hin, I2, Hb2⟩
        case measure => simp [intOf]; omega
    · obtain rfl : hi = lo := by omega
      have He := Lib.hid (show Low ks X hi from ⟨by rw [Hl.out]; exact hin, Hi.out.1, Hi.out.2⟩)
      go_wp2_with fail
      go_ret
      exact ⟨hi, rfl, He, Hb.out⟩

set_option maxRecDepth 10000 in
set_option maxHeartbeats 1000000 in
theorem kSearch (X : List UInt8) (Ak : Option Addr) (nk ck : Nat) (ks : List Ky) (B : Nat) (w : World) (hr : RdK w B Ak nk ks) (hB : B ≤ w.heap.size) (hn : nk ≤ 100000) (hs : Rise ks) :
    Calls Tryd.prog 68 #[.slice Ak nk ck, .string ⟨X.toArray⟩] w fun e w' => ∃ j : Nat, e = .returned (.int .i64 j) ∧ Hid (Low ks X j) ∧ Below w.heap.size w w' := by
  have HT := Lib.hid (two_objs w (.cells #[.slice Ak nk ck] 23) (.cells #[.string ⟨X.toArray⟩] 9))
  have Hr := Lib.hid (hr.below (HT.out.2.2.mono hB))
  have HBw := Lib.hid (Nat.le_trans hB HT.out.2.2.size)
  clear hr hB
  go_enter Tryd.func68, Tryd.ntmps68
  go_upto_region 1 with fail
  generalize (w.alloc (.cells #[.slice Ak nk ck] 23)).alloc (.cells #[.string ⟨X.toArray⟩] 9) = w1 at HT Hr HBw ⊢
  have c1 : w1.cell? ⟨w.heap.size, 0, none⟩ = some (.slice Ak nk ck) := by rw [cell_blk HT.out.1]; rfl
  have c2 : w1.cell? ⟨w.heap.size + 1, 0, none⟩ = some (.string ⟨X.toArray⟩) := by rw [cell_blk HT.out.2.1]; rfl
  have Hb := Lib.hid HT.out.2.2
  obtain ⟨p2, hp2⟩ : ∃ b, b = w.heap.size + 1 := ⟨_, rfl⟩
  obtain ⟨p1, hp1⟩ : ∃ b, b = w.heap.size := ⟨_, rfl⟩
  rw [← hp2] at c2 ⊢
  rw [← hp1] at c1 ⊢
  clear HT hp1 hp2
  have HS := Lib.hid (kSortSearch p1 p2 X Ak nk ck ks B w1 Hr.out HBw.out c1 c2 hn hs)
  go_wp2_with fail
  refine HS.out.mono ?_
  rintro e w2 ⟨j, rfl, HL, hb⟩
  have Hb2 := Lib.hid (Hb.out.trans (hb.mono Hb.out.size))
  clear hb HS c1 c2
  go_wp2_with fail
  go_ret
  exact ⟨j, rfl, HL, Hb2.out⟩

/-- what find, match tell -/
def FindP (w : World) (ks : List Ky) (X : List UInt8) (f : List Ky → List UInt8 → Nat → Bool) (e : Ending) (w' : World) : Prop :=
  ∃ j : Nat, e = .returned (.tuple #[.int .i64 j, .bool (f ks X j)]) ∧ Hid (Low ks X j) ∧ Below w.heap.size w w'

set_option maxRecDepth 10000 in
set_option maxHeartbeats 1000000 in
theorem kFind (X : List UInt8) (Ak : Option Addr) (nk ck : Nat) (ks : List Ky) (B : Nat) (w : World) (hr : RdK w B Ak nk ks) (hB : B ≤ w.heap.size) (hn : nk ≤ 100000) (hs : Rise ks) :
    Calls Tryd.prog 61 #[.slice Ak nk ck, .string ⟨X.toArray⟩] w (FindP w ks X isAt) := by
  have HS := Lib.hid (kSearch X Ak nk ck ks B w hr hB hn hs)
  have Hr := Lib.hid hr
  have HBw := Lib.hid hB
  clear hr hB
  go_enter Tryd.func61, Tryd.ntmps61
  go_wp2_with fail
  refine HS.out.mono ?_
  rintro e w2 ⟨j, rfl, HL, hb⟩
  have Hr2 := Lib.hid (Hr.out.below (hb.mono HBw.out))
  have Hb := Lib.hid hb
  clear hb HS Hr HBw
  obtain ⟨r, hrr⟩ : ∃ r, r = isAt ks X j := ⟨_, rfl⟩
  have HR := Lib.hid hrr
  have HF := Lib.hid hrr
  by_cases hjn : j < nk
  · have hjl : j < ks.length := by rw [Hr2.out.1]; exact hjn
    obtain ⟨g, o, Aj, nj, cj, rfl, hg, x0, x1, h5, h6, h7⟩ := Hr2.out.2 j hjl
    have HE := Lib.hid (show r = decide (ks[j].name = X) by rw [HR.out]; unfold isAt; rw [List.getElem?_eq_getElem hjl])
    clear x1 h5 h6 h7 HR hrr
    generalize ks[j] = k at x0 HE
    obtain ⟨m, u⟩ := k
    have x0 : w2.cell? ⟨g, o + j * 2, none⟩ = some (.string ⟨m.toArray⟩) := x0
    have HE : Hid (r = decide (m = X)) := HE
    have hj0 : (0 : Int) ≤ (j : Int) := by omega
    have hj1 : (j : Int) < (nk : Int) := by omega
    have hd : decide ((j : Int) < (nk : Int)) = true := decide_eq_true hj1
    clear hjl
    by_cases hx : m = X
    · have hb : (m == X) = true := by simpa using hx
      have He := Lib.hid (show r = true by rw [HE.out]; exact decide_eq_true hx)
      clear HE hx
      go_wp2_with fail
      go_quiet (fail)
      go_wp2_with fail
      exact bodyPost_ret (v := .tuple #[.int .i64 j, .bool true]) (by simp [results, Tryd.results61, go_sem]) rfl ⟨j, by rw [← HF.out, He.out], HL, below_drewN Hb.out _⟩
    · have hb : (m == X) = false := by simpa using hx
      have He := Lib.hid (show r = false by rw [HE.out]; exact decide_eq_false hx)
      clear HE hx
      go_wp2_with fail
      go_quiet (fail)
      go_wp2_with fail
      exact bodyPost_ret (v := .tuple #[.int .i64 j, .bool false]) (by simp [results, Tryd.results61, go_sem]) rfl ⟨j, by rw [← HF.out, He.out], HL, below_drewN Hb.out _⟩
  · have He := Lib.hid (show r = false by rw [HR.out]; unfold isAt; rw [List.getElem?_eq_none (by rw [Hr2.out.1]; omega)])
    have hd : decide ((j : Int) < (nk : Int)) = false := decide_eq_false (by omega)
    clear HR hrr
    go_wp2_with fail
    go_quiet (fail)
    go_wp2_with fail
    exact bodyPost_ret (v := .tuple #[.int .i64 j, .bool false]) (by simp [results, Tryd.results61, go_sem]) rfl ⟨j, by rw [← HF.out, He.out], HL, below_drewN Hb.out _⟩

set_option maxRecDepth 10000 in
set_option maxHeartbeats 1000000 in
theorem kMatch (X : List UInt8) (Ak : Option Addr) (nk ck : Nat) (ks : List Ky) (B : Nat) (w : World) (hr : RdK w B Ak nk ks) (hB : B ≤ w.heap.size) (hn : nk ≤ 100000) (hs : Rise ks) (hX : X.length ≤ 9223372036854775807) :
    Calls Tryd.prog 64 #[.slice Ak nk ck, .string ⟨X.toArray⟩] w (FindP w ks X forAt) := by
  have HS := Lib.hid (kSearch X Ak nk ck ks B w hr hB hn hs)
  have Hr := Lib.hid hr
  have HBw := Lib.hid hB
  clear hr hB
  go_enter Tryd.func64, Tryd.ntmps64
  go_wp2_with fail
  refine HS.out.mono ?_
  rintro e w2 ⟨j, rfl, HL, hb⟩
  have Hr2 := Lib.hid (Hr.out.below (hb.mono HBw.out))
  have Hb := Lib.hid hb
  clear hb HS Hr HBw
  obtain ⟨r, hrr⟩ : ∃ r, r = forAt ks X j := ⟨_, rfl⟩
  have HR := Lib.hid hrr
  have HF := Lib.hid hrr
  clear hrr
  by_cases hjn : j < nk
  · have hjl : j < ks.length := by rw [Hr2.out.1]; exact hjn
    obtain ⟨g, o, Aj, nj, cj, rfl, hg, x0, x1, h5, h6, h7⟩ := Hr2.out.2 j hjl
    have HE := Lib.hid (show r = forN ks[j].name X by rw [HR.out]; unfold forAt; rw [List.getElem?_eq_getElem hjl])
    have HM := Lib.hid (kMatches ks[j].name X w2 h7 hX)
    rw [← HE.out] at HM
    clear x1 h5 h6 h7 HR
    generalize ks[j] = k at x0 HE HM
    obtain ⟨m, u⟩ := k
    have x0 : w2.cell? ⟨g, o + j * 2, none⟩ = some (.string ⟨m.toArray⟩) := x0
    have hj0 : (0 : Int) ≤ (j : Int) := by omega
    have hj1 : (j : Int) < (nk : Int) := by omega
    clear hjl HE
    go_wp2_with fail
    refine HM.out.mono ?_
    rintro e w3 ⟨rfl, hb⟩
    have Hb2 := Lib.hid (Hb.out.trans (hb.mono Hb.out.size))
    clear hb HM x0
    go_wp2_with fail
    exact bodyPost_ret (v := .tuple #[.int .i64 j, .bool r]) (by simp [results, Tryd.results64, go_sem]) rfl ⟨j, by rw [← HF.out], HL, Hb2.out⟩
  · have He := Lib.hid (show r = false by rw [HR.out]; unfold forAt; rw [List.getElem?_eq_none (by rw [Hr2.out.1]; omega)])
    have hj1 : ¬ (j : Int) < (nk : Int) := by omega
    clear HR
    go_wp2_with fail
    exact bodyPost_ret (v := .tuple #[.int .i64 j, .bool false]) (by simp [results, Tryd.results64, go_sem]) rfl ⟨j, by rw [← HF.out, He.out], HL, Hb.out⟩
end Go.Proofs.YtmigapjkicddiaaDoor

namespace Go.Proofs.YtmigapjkicddiaaDoor
open Go.RowKit

theorem run_append_none8 {P : Program} {w : World} {base k : Nat} {t ty e : TypeId} {i : TypeInfo} {v : Value} {n : Nat} {xs : List Value} (ht : P.underlying t = some (.slice e)) (hi : P.info? e = some i)
    (hown : w.ownsRow base e k v n xs) (c : Nat) : (Builtin.append_ #[t, t] ty #[v, .slice none 0 c]).run P w = .ok v w := by
  rcases hown.2 with ⟨rfl, _⟩ | ⟨g, cap, cur, rfl, _, _, hnc, _⟩
  · simp [Builtin.append_, run_underlying ht, sizeOf, typeInfo, hi, Builtin.lenOf, Builtin.firstCells]
  · simp [Builtin.append_, run_underlying ht, sizeOf, typeInfo, hi, Builtin.lenOf, Builtin.firstCells, hnc, storeCells]
/-- append onto a row of the call's own, of elements of k cells, of a slice (nil let in) that reads as 'news' -/
theorem wpList_append_rd8 {P : Program} {w : World} {ops : Array Oper} {rest : List Oper} {o : Oper} {a : Act} {Q : Exit → Act → World → Prop} (hgd : o.guard = none) (s x : Operand) (t : TypeId)
    (ho : o.op = .call { callee := .builtin .append, args := #[s, x], argTypes := #[t, t] })
    (base : Nat) (e : TypeId) (i : TypeInfo) (z : Value) (k bytes : Nat) (ht : P.underlying t = some (.slice e)) (hi : P.info? e = some i) (hz : i.zero = some z)
    (hsize : i.size = k) (hby : i.bytes = bytes) (hzs : z.cells.size = k) (hk : 0 < k)
    (v : Value) (n : Nat) (xs : List Value) (hs : a.eval s = v) (hown : w.ownsRow base e k v n xs)
    (A : Option Addr) (m c : Nat) (news : List Value) (hx : a.eval x = .slice A m c) (hl : news.length = m * k) (hrd : 0 < m → ∃ ad, A = some ad ∧ ∀ j u, news[j]? = some u → w.cell? (ad.add j) = some u) (h1 : ∀ u ∈ news, u.oneCell' = true)
    (h63 : n + m ≤ maxLen) (hbytes : (n + m) * bytes ≤ 140737488355328) (hbase : base ≤ w.heap.size)
    (h : ∀ v' w', w'.ownsRow base e k v' (n + m) (xs ++ news) → w.grownBy w' v.ownBlock → wpList P ops Q rest (a.put o.dst v') w') : wpList P ops Q (o :: rest) a w := by
  rcases A with _ | ad
  · have hm : m = 0 := by
      rcases Nat.eq_zero_or_pos m with h0 | h0
      · exact h0
      · obtain ⟨ad, hc, _⟩ := hrd h0
        cases hc
    subst hm
    obtain rfl : news = [] := List.eq_nil_of_length_eq_zero (by simpa using hl)
    refine wpList_plain hgd fun K hK => ?_
    have hrun := run_append_none8 (P := P) (ty := o.type) ht hi hown c
    unfold Oper.wp
    simp [execOp, ho, resolve, invoke, builtin, hs, hx, hrun, Result.andThen]
    exact hK _ _ (h v w (by simpa using hown) (World.grownBy.refl w _))
  · refine wpList_append_own w hgd s x t ho base e i z k bytes ht hi hz hsize hby hzs hk v n xs hs hown ad m c news hx hl (fun j u hu => ?_) h1 h63 hbytes hbase (fun v' w' h2 h3 _ => h v' w' h2 h3)
    have hj : j < m * k := by rw [← hl]; exact (List.getElem?_eq_some_iff.1 hu).1
    have hm : 0 < m := Nat.pos_of_ne_zero fun h0 => by subst h0; simp at hj
    obtain ⟨ad', hc, hcell⟩ := hrd hm
    cases hc
    exact hcell j u hu

theorem own_to8 {w w' : World} {B n s : Nat} {e : TypeId} {v : Value} {xs : List Value} (h : w.ownsRow B e s v n xs) (hb : Below w.heap.size w w') : w'.ownsRow B e s v n xs := by
  refine ⟨h.1, ?_⟩
  rcases h.2 with h | ⟨g, cap, cur, h1, h2, h3, h4⟩
  · exact .inl h
  · exact .inr ⟨g, cap, cur, h1, h2, (hb.block g (lt_of_block h3)).trans h3, h4⟩
theorem cells_ne8 {w : World} {g R : Nat} {e t : TypeId} {cur cs : Array Value} (h : w.heap[g]? = some (.cells cur e (0, 0))) (hR : w.heap[R]? = some (.cells cs t (0, 0))) (hne : e ≠ t) : g ≠ R := fun q => by
  subst q
  rw [hR] at h
  injection h with h
  injection h with _ h
  exact hne h.symm
theorem own_setb8 {w : World} {B n s R : Nat} {e t : TypeId} {v : Value} {xs : List Value} {cs : Array Value} (h : w.ownsRow B e s v n xs) (hR : w.heap[R]? = some (.cells cs t (0, 0))) (hne : e ≠ t) (k : Nat) (u : Value) : (w.setCell ⟨R, k, none⟩ u).ownsRow B e s v n xs := by
  refine ⟨h.1, ?_⟩
  rcases h.2 with h | ⟨g, cap, cur, h1, h2, h3, h4⟩
  · exact .inl h
  · exact .inr ⟨g, cap, cur, h1, h2, (Below.heap_setCell w ⟨R, k, none⟩ u g (cells_ne8 h3 hR hne)).trans h3, h4⟩
/-- the block of a row of the call's own -/
theorem own_blk8 {w : World} {B n c g s : Nat} {e : TypeId} {xs : List Value} (h : w.ownsRow B e s (.slice (some ⟨g, 0, none⟩) n c) n xs) : ∃ cur, w.heap[g]? = some (.cells cur e (0, 0)) ∧ B ≤ g := by
  rcases h.2 with ⟨h1, _⟩ | ⟨g', cap, cur, h1, h2, h3, _⟩
  · cases h1
  · cases h1; exact ⟨cur, h3, h2⟩
theorem own_at8 {w : World} {B n c s : Nat} {A : Option Addr} {e : TypeId} {xs : List Value} (h : w.ownsRow B e s (.slice A n c) n xs) : ∀ a, A = some a → B ≤ a.block ∧ a.block < w.heap.size := by
  intro a ha
  subst ha
  rcases h.2 with ⟨h1, _⟩ | ⟨g', cap, cur, h1, h2, h3, _⟩
  · cases h1
  · cases h1; exact ⟨h2, lt_of_block h3⟩
theorem flatK_set {vs : List Kv} {j : Nat} (h : j < vs.length) (A : Option Addr) (n c : Nat) : (flatK vs).set (j * 2 + 1) (.slice A n c) = flatK (vs.set j ⟨vs[j].k, A, n, c⟩) := by
  induction vs generalizing j with
  | nil => simp at h
  | cons p ps ih =>
    cases j with
    | zero => rfl
    | succ j =>
      show (kvC p ++ flatK ps).set _ _ = kvC p ++ flatK (ps.set j _)
      rw [List.set_append_right _ _ (by simp [kvC]; omega), show (j + 1) * 2 + 1 - (kvC p).length = j * 2 + 1 by simp [kvC]; omega]
      have := ih (by simpa using h)
      rw [this]
      rfl
/-- what is readable stands in cells, below B -/
theorem RdK.valsB {w : World} {B : Nat} {A : Option Addr} {n : Nat} {ks : List Ky} (h : RdK w B A n ks) :
    ∃ vs : List Kv, vs.map Kv.k = ks ∧ vs.length = n ∧ (∀ p ∈ vs, KvAt w B p) ∧ (0 < n → ∃ ad, A = some ad ∧ ∀ j u, (flatK vs)[j]? = some u → w.cell? (ad.add j) = some u) := by
  have key : ∀ k, k ≤ n → ∃ vs : List Kv, vs.map Kv.k = ks.take k ∧ vs.length = k ∧ (∀ p ∈ vs, KvAt w B p) ∧ ∀ i (hi : i < vs.length), ∃ g o, A = some ⟨g, o, none⟩ ∧ w.cell? ⟨g, o + i * 2, none⟩ = some (.string ⟨(vs[i]).k.name.toArray⟩) ∧ w.cell? ⟨g, o + i * 2 + 1, none⟩ = some (.slice (vs[i]).A (vs[i]).n (vs[i]).c) := by
    intro k
    induction k with
    | zero => exact fun _ => ⟨[], rfl, rfl, by simp, fun i hi => by simp at hi⟩
    | succ k ih =>
      intro hk
      obtain ⟨vs, e1, e2, e3, e4⟩ := ih (by omega)
      have hks : k < ks.length := by rw [h.1]; omega
      obtain ⟨g, o, Aj, nj, cj, f1, _, f3, f4, f5, f6, f7⟩ := h.2 k hks
      refine ⟨vs ++ [⟨ks[k], Aj, nj, cj⟩], ?_, by simp [e2], ?_, ?_⟩
      · rw [List.map_append, e1, List.take_succ_eq_append_getElem hks]; rfl
      · intro p hp
        rcases List.mem_append.1 hp with hp | hp
        · exact e3 p hp
        · simp at hp; subst hp; exact ⟨f5, f6, f7⟩
      · intro i hi
        by_cases hik : i < vs.length
        · rw [List.getElem_append_left hik]; exact e4 i hik
        · have : i = vs.length := by simp at hi; omega
          subst this
          rw [List.getElem_append_right (Nat.le_refl _)]
          simp only [Nat.sub_self, List.getElem_cons_zero]
          rw [e2]
          exact ⟨g, o, f1, f3, f4⟩
  obtain ⟨vs, e1, e2, e3, e4⟩ := key n (Nat.le_refl _)
  refine ⟨vs, by rw [e1, List.take_of_length_le (by rw [h.1]; exact Nat.le_refl _)], e2, e3, fun hn => ?_⟩
  obtain ⟨g, o, f1, _⟩ := e4 0 (by omega)
  refine ⟨_, f1, fun j u hu => ?_⟩
  have hj : j < vs.length * 2 := by rw [← flatK_len]; exact (List.getElem?_eq_some_iff.1 hu).1
  obtain ⟨i, r, hr, rfl⟩ : ∃ i r, r < 2 ∧ j = i * 2 + r := ⟨j / 2, j % 2, Nat.mod_lt _ (by omega), by omega⟩
  have hi : i < vs.length := by omega
  rw [flatK_get vs i r hi hr] at hu
  obtain ⟨g', o', q1, q2, q3⟩ := e4 i hi
  obtain ⟨rfl, rfl⟩ : g' = g ∧ o' = o := by
    rw [f1] at q1
    simp at q1
    exact ⟨q1.1.symm, q1.2.symm⟩
  have hadd : ∀ k, (⟨g', o', none⟩ : Addr).add k = ⟨g', o' + k, none⟩ := fun k => by unfold Addr.add; split <;> simp_all
  rw [hadd]
  match r, hr, hu with
  | 0, _, hu => simp [kvC] at hu; subst hu; exact q2
  | 1, _, hu => simp [kvC] at hu; subst hu; rw [← Nat.add_assoc]; exact q3
theorem flatK_one (vs : List Kv) : ∀ u ∈ flatK vs, u.oneCell' = true := by
  intro u hu
  obtain ⟨p, _, hp⟩ := List.mem_flatMap.1 hu
  simp [kvC] at hp
  rcases hp with rfl | rfl <;> rfl
set_option maxRecDepth 10000 in
set_option maxHeartbeats 1000000 in
theorem kCloneKeys (A : Option Addr) (n c B : Nat) (ks : List Ky) (w : World) (hr : RdK w B A n ks) (hn : n ≤ 100000) :
    Calls Tryd.prog 36 #[.slice A n c] w fun e w' => ∃ A' c' vs, e = .returned (.slice A' n c') ∧ Hid (w'.ownsRow w.heap.size 48 2 (.slice A' n c') n (flatK vs)) ∧ Hid (vs.map Kv.k = ks ∧ vs.length = n ∧ ∀ p ∈ vs, KvAt w B p) ∧ Hid (Below w.heap.size w w') := by
  obtain ⟨inf, hi, hz0, hz1, hz2⟩ := info_parts Tryd.infoK
  rcases A with _ | ad
  · have h0 : n = 0 := by
      rcases Nat.eq_zero_or_pos n with h | h
      · exact h
      · obtain ⟨_, _, _, _, _, hc, _⟩ := hr.2 0 (by rw [hr.1]; exact h)
        cases hc
    subst h0
    obtain rfl : ks = [] := List.eq_nil_of_length_eq_zero hr.1
    have heq := Lib.run_eql_slice_nil (P := Tryd.prog) w 23 48 none 0 c 0 0 Tryd.underlying23
    clear hr
    go_enter Tryd.func36, Tryd.ntmps36
    go_wp2
    go_ret
    exact ⟨none, 0, [], rfl, World.ownsRow_nil _ _ _ _, ⟨rfl, rfl, fun p hp => by simp at hp⟩, Below.refl _ _⟩
  · have heq := Lib.run_eql_slice_nil (P := Tryd.prog) w 23 48 (some ad) n c 0 0 Tryd.underlying23
    have hown : (w.alloc (.cells #[] 48)).ownsRow w.heap.size 48 2 (.slice (some ⟨w.heap.size, 0, none⟩) 0 0) 0 [] := World.ownsRow_lit (base := w.heap.size) (e := 48) (size := 2) w #[] 0 (Nat.le_refl _) (by simp only [maxLen]; omega) rfl
    have Hown := Lib.hid hown
    obtain ⟨vs, hvs, hvl, hva, hvr⟩ := hr.valsB
    have Hvs := Lib.hid (And.intro hvs (And.intro hvl hva))
    have Hsrc := Lib.hid (show 0 < n → ∃ ad', some ad = some ad' ∧ ∀ j u, (flatK vs)[j]? = some u → (w.alloc (.cells #[] 48)).cell? (ad'.add j) = some u from fun h0 => by
      obtain ⟨ad', e1, e2⟩ := hvr h0
      refine ⟨ad', e1, fun j u hu => ?_⟩
      have h := e2 j u hu
      exact ((((Below.refl w.heap.size w).alloc (Nat.le_refl _) (.cells #[] 48))).cell (World.block_lt_of_cell? w _ h)).trans h)
    have Hfl := Lib.hid (show (flatK vs).length = n * 2 by rw [flatK_len, hvl])
    clear hown hr hvs hvl hva hvr
    go_enter Tryd.func36, Tryd.ntmps36
    go_wp2_with (at_builtin; refine wpList_append_rd8 rfl (.tmp 5) (.tmp 6) 23 rfl w.heap.size 48 inf (.agg #[.string ⟨#[]⟩, .slice none 0 0]) 2 40 Tryd.underlying23 hi hz0 hz1 hz2 rfl (by decide) _ 0 [] rfl Hown.out (some ad) n c (flatK vs) rfl Hfl.out Hsrc.out (flatK_one _) (by simp only [maxLen]; omega) (by omega) (by simp) ?_; intro v3 w3 hown3 hg3; rw [Nat.zero_add, List.nil_append] at hown3; obtain ⟨A3, c3, rfl, k1, k2⟩ := ownF hown3; have Hb3 := Lib.hid (((Below.refl _ w).alloc (Nat.le_refl _) (.cells #[] 48)).grown hg3 (by simp) (fun q hq => (Hown.out.lt q hq).1)); have Hown3 := Lib.hid hown3; clear hown3 hg3 k1 k2)
    go_ret
    exact ⟨A3, c3, vs, rfl, Hown3, Hvs, Hb3⟩
end Go.Proofs.YtmigapjkicddiaaDoor

namespace Go.Proofs.YtmigapjkicddiaaDoor
open Go.RowKit

/-- an object whose parts lie in memory of the call's own: data and keys behind block B, the values behind block M, the data ahead of it -/
structure Parts (w : World) (B M : Nat) (o : Oj) (Ad : Option Addr) (nd cd : Nat) (Ak : Option Addr) (nk ck : Nat) (vs : List Kv) : Prop where
  hBM : B ≤ M
  dat : w.ownsRow B 5 1 (.slice Ad nd cd) nd (o.data.map bv)
  dlt : ∀ a, Ad = some a → a.block < M
  key : w.ownsRow B 48 2 (.slice Ak nk ck) nk (flatK vs)
  kys : vs.map Kv.k = o.keys
  vln : vs.length = nk
  val : ∀ p ∈ vs, w.ownsRow M 5 1 (.slice p.A p.n p.c) p.n (p.k.val.map bv)
  nam : ∀ p ∈ vs, p.k.name.length ≤ 9223372036854775807
theorem Parts.to {w w' : World} {B M : Nat} {o : Oj} {Ad : Option Addr} {nd cd : Nat} {Ak : Option Addr} {nk ck : Nat} {vs : List Kv} (h : Parts w B M o Ad nd cd Ak nk ck vs) (hb : Below w.heap.size w w') : Parts w' B M o Ad nd cd Ak nk ck vs :=
  ⟨h.hBM, own_to8 h.dat hb, h.dlt, own_to8 h.key hb, h.kys, h.vln, fun p hp => own_to8 (h.val p hp) hb, h.nam⟩
theorem own_len8 {w : World} {B n c s : Nat} {A : Option Addr} {e : TypeId} {xs : List Value} (h : w.ownsRow B e s (.slice A n c) n xs) : n ≤ c ∧ c ≤ 9223372036854775807 := by
  rcases h.2 with ⟨h1, h2⟩ | ⟨g', cap, cur, h1, h2, h3, h4, h5, _⟩
  · cases h1; omega
  · cases h1; simp only [maxLen] at h5; omega
theorem Parts.kv {w : World} {B M : Nat} {o : Oj} {Ad : Option Addr} {nd cd : Nat} {Ak : Option Addr} {nk ck : Nat} {vs : List Kv} (h : Parts w B M o Ad nd cd Ak nk ck vs) : ∀ p ∈ vs, KvAt w w.heap.size p := fun p hp => by
  have h1 := own_len8 (h.val p hp)
  exact ⟨Rd.own (h.val p hp), by omega, h.nam p hp⟩
theorem Parts.rdk {w : World} {B M : Nat} {o : Oj} {Ad : Option Addr} {nd cd : Nat} {Ak : Option Addr} {nk ck : Nat} {vs : List Kv} (h : Parts w B M o Ad nd cd Ak nk ck vs) : RdK w w.heap.size Ak nk o.keys := by
  rw [← h.kys]
  exact RdK.own h.key h.vln h.kv
theorem Parts.obj {w : World} {B M : Nat} {o : Oj} {Ad : Option Addr} {nd cd : Nat} {Ak : Option Addr} {nk ck : Nat} {vs : List Kv} (h : Parts w B M o Ad nd cd Ak nk ck vs) : OjAt w o (oV Ad nd cd Ak nk ck o.seq) := by
  have h1 := own_len8 h.dat
  exact ⟨Ad, nd, cd, Ak, nk, ck, rfl, Rd.own h.dat, by omega, h.rdk⟩
theorem own_p3 {w : World} {B n s z : Nat} {e t : TypeId} {v : Value} {xs : List Value} {cs : Array Value} (h : w.ownsRow B e s v n xs) (hz : w.heap[z]? = some (.cells cs t (0, 0))) (hne : e ≠ t) (v0 v1 v2 : Value) : (put3 w z v0 v1 v2).ownsRow B e s v n xs := by
  refine ⟨h.1, ?_⟩
  rcases h.2 with h | ⟨g, cap, cur, h1, h2, h3, h4⟩
  · exact .inl h
  · have hg : g ≠ z := cells_ne8 h3 hz hne
    refine .inr ⟨g, cap, cur, h1, h2, ?_, h4⟩
    show (((w.setCell ⟨z, 0, none⟩ v0).setCell ⟨z, 1, none⟩ v1).setCell ⟨z, 2, none⟩ v2).heap[g]? = _
    rw [Below.heap_setCell _ ⟨z, 2, none⟩ _ g hg, Below.heap_setCell _ ⟨z, 1, none⟩ _ g hg, Below.heap_setCell _ ⟨z, 0, none⟩ _ g hg, h3]
set_option maxRecDepth 10000 in
theorem Parts.put {w : World} {B M z : Nat} {o : Oj} {Ad : Option Addr} {nd cd : Nat} {Ak : Option Addr} {nk ck : Nat} {vs : List Kv} {cs : Array Value} (h : Parts w B M o Ad nd cd Ak nk ck vs) (hz : w.heap[z]? = some (.cells cs 25 (0, 0))) (v0 v1 v2 : Value) : Parts (put3 w z v0 v1 v2) B M o Ad nd cd Ak nk ck vs :=
   ⟨h.hBM, own_p3 h.dat hz (by decide) _ _ _, h.dlt, own_p3 h.key hz (by decide) _ _ _, h.kys, h.vln, fun p hp => own_p3 (h.val p hp) hz (by decide) _ _ _, h.nam⟩
set_option maxRecDepth 10000 in
/-- what bytes.Clone tells, the length as a letter -/
def Out8 (w : World) (n : Nat) (l : List UInt8) (e : Ending) (w' : World) : Prop :=
  ∃ A c, e = .returned (.slice A n c) ∧ Hid (w'.ownsRow w.heap.size 5 1 (.slice A n c) n (l.map bv)) ∧ Hid (Below w.heap.size w w')
theorem Out.out8 {w w' : World} {l : List UInt8} {e : Ending} {n : Nat} (h : Out w l e w') (hn : l.length = n) : Out8 w n l e w' := by
  subst hn
  obtain ⟨A, c, h1, _, _, h2, h3⟩ := h
  exact ⟨A, c, h1, h2, h3⟩
theorem kv_set {us : List Kv} {j : Nat} (h : j < us.length) (A : Option Addr) (n c : Nat) : (us.set j ⟨us[j].k, A, n, c⟩).map Kv.k = us.map Kv.k := by
  rw [List.map_set]
  apply List.ext_getElem
  · simp
  intro i h1 h2
  rw [List.getElem_set]
  split
  · subst_vars; simp
  · rfl
theorem take_set8 {us : List Kv} {j : Nat} (h : j < us.length) (q : Kv) : (us.set j q).take (j + 1) = us.take j ++ [q] := by
  rw [List.take_succ_eq_append_getElem (by simpa using h), List.take_set_of_le (Nat.le_refl _), List.getElem_set_self]
/-- what Clone tells -/
def CloneP (w : World) (o : Oj) (nd nk : Nat) (e : Ending) (w' : World) : Prop :=
  ∃ Ad cd Ak ck vs M, e = .returned (oV Ad nd cd Ak nk ck o.seq) ∧ Hid (Parts w' w.heap.size M o Ad nd cd Ak nk ck vs) ∧ Hid (Below w.heap.size w w')

set_option maxRecDepth 10000 in
set_option maxHeartbeats 1000000 in
theorem kCloneO (Ad : Option Addr) (nd cd : Nat) (Ak : Option Addr) (nk ck : Nat) (s : Int) (d : List UInt8) (ks : List Ky) (B : Nat) (w : World) (hd : Rd w B Ad nd d) (hdn : nd ≤ 100000) (hr : RdK w B Ak nk ks) (hB : B ≤ w.heap.size) (hn : nk ≤ 100000) (hv : ∀ k ∈ ks, k.val.length ≤ 1000000) :
    Calls Tryd.prog 20 #[oV Ad nd cd Ak nk ck s] w (CloneP w ⟨d, ks, s⟩ nd nk) := by
  have HT := Lib.hid (two_objs w (.cells #[.slice Ad nd cd, .slice Ak nk ck, .int .i64 s] 25) (.cells #[.slice none 0 0, .slice none 0 0, .int .i64 0] 25))
  have Hr := Lib.hid (hr.below (HT.out.2.2.mono hB))
  have Hd := Lib.hid (hd.below (HT.out.2.2.mono hB))
  have HBw := Lib.hid (Nat.le_trans hB HT.out.2.2.size)
  have Hvs := Lib.hid hv
  clear hr hd hB hv
  go_enter Tryd.func20, Tryd.ntmps20
  go_upto_region 1 with fail
  generalize (w.alloc (.cells #[.slice Ad nd cd, .slice Ak nk ck, .int .i64 s] 25)).alloc (.cells #[.slice none 0 0, .slice none 0 0, .int .i64 0] 25) = w1 at HT Hr Hd HBw ⊢
  obtain ⟨z, hze⟩ : ∃ z, z = w.heap.size + 1 := ⟨_, rfl⟩
  obtain ⟨b, hbe⟩ : ∃ b, b = w.heap.size := ⟨_, rfl⟩
  have Hh := Lib.hid HT.out.1
  have Hz := Lib.hid HT.out.2.1
  have Hb := Lib.hid HT.out.2.2
  have Hbz := Lib.hid (show w.heap.size ≤ z ∧ b < z by omega)
  rw [← hze] at Hz ⊢
  rw [← hbe] at Hh ⊢
  clear HT hze hbe
  obtain ⟨c0, c1, c2⟩ := objs_of Hh.out
  have hbl := lt_of_block Hh.out
  have HB0 : Hid (Below w1.heap.size w1 w1.drew) := below_drewN (Below.refl _ _) 1
  have HC : Hid (∀ w', Hid (Below w1.heap.size w1 w') → Calls Tryd.prog 27 #[.slice Ad nd cd] w' (Out8 w' nd d)) := fun w' hb => (kClone Ad nd cd B d w' (Hd.out.below (hb.out.mono HBw.out)) (Nat.le_trans HBw.out hb.out.size) (by omega)).mono fun _ _ h => h.out8 Hd.out.1
  have HK : Hid (∀ w', Hid (Below w1.heap.size w1 w') → Calls Tryd.prog 36 #[.slice Ak nk ck] w' (fun e w'' => ∃ A' c' vs, e = .returned (.slice A' nk c') ∧ Hid (w''.ownsRow w'.heap.size 48 2 (.slice A' nk c') nk (flatK vs)) ∧ Hid (vs.map Kv.k = ks ∧ vs.length = nk ∧ ∀ p ∈ vs, KvAt w' B p) ∧ Hid (Below w'.heap.size w' w''))) := fun w' hb => kCloneKeys Ak nk ck B ks w' (Hr.out.below (hb.out.mono HBw.out)) hn
  go_cut [3] (fun s3 wx => ∃ t A3 c3 A4 c4 vs, s3 = .pointer (some ⟨t, 0, none⟩) ∧ Hid (wx.heap[t]? = some (.cells #[.slice A3 nd c3, .slice A4 nk c4, .int .i64 s] 25 (0, 0))) ∧ Hid (w1.heap.size ≤ t) ∧ Hid (wx.ownsRow w1.heap.size 5 1 (.slice A3 nd c3) nd (d.map bv)) ∧ Hid (wx.ownsRow w1.heap.size 48 2 (.slice A4 nk c4) nk (flatK vs)) ∧ Hid (vs.map Kv.k = ks ∧ vs.length = nk ∧ ∀ p ∈ vs, KvAt w1 B p) ∧ Hid (Below w1.heap.size w1 wx))
  case first =>
    refine wp_region_held_drew (S := fun W => Below w1.heap.size w1 W) (by kernel_rfl) HB0.out (fun hS => ?_)
    refine wpAnyH_take (i := 0) (v := ?v0) rfl (by kernel_rfl) (by kernel_rfl) (by kernel_rfl) (fun _ _ _ h => h) (Or.inl ⟨by rfl, ?y0⟩) hS ?r0
    case y0 => (intro wy hSy; have g0 := (hSy.cell (p := ⟨b, 0, none⟩) hbl).trans c0; have g1 := (hSy.cell (p := ⟨b, 1, none⟩) hbl).trans c1; have g2 := (hSy.cell (p := ⟨b, 2, none⟩) hbl).trans c2; go_simp; try with_reducible rfl)
    simp only [Act.put]
    refine wpAnyH_take (i := 1) (v := ?v1) rfl (by kernel_rfl) (by kernel_rfl) (by kernel_rfl) (fun _ _ _ h => h) (Or.inl ⟨by rfl, ?y1⟩) hS ?r1
    case y1 => (intro wy hSy; have g0 := (hSy.cell (p := ⟨b, 0, none⟩) hbl).trans c0; have g1 := (hSy.cell (p := ⟨b, 1, none⟩) hbl).trans c1; have g2 := (hSy.cell (p := ⟨b, 2, none⟩) hbl).trans c2; go_simp; try with_reducible rfl)
    simp only [Act.put]
    refine wpAnyH_take (i := 3) (v := ?v3) rfl (by kernel_rfl) (by kernel_rfl) (by kernel_rfl) (fun _ _ _ h => h) (Or.inl ⟨by rfl, ?y3⟩) hS ?r3
    case y3 => (intro wy hSy; have g0 := (hSy.cell (p := ⟨b, 0, none⟩) hbl).trans c0; have g1 := (hSy.cell (p := ⟨b, 1, none⟩) hbl).trans c1; have g2 := (hSy.cell (p := ⟨b, 2, none⟩) hbl).trans c2; go_simp; try with_reducible rfl)
    simp only [Act.put]
    refine wpAnyH_take (i := 4) (v := ?v4) rfl (by kernel_rfl) (by kernel_rfl) (by kernel_rfl) (fun _ _ _ h => h) (Or.inl ⟨by rfl, ?y4⟩) hS ?r4
    case y4 => (intro wy hSy; have g0 := (hSy.cell (p := ⟨b, 0, none⟩) hbl).trans c0; have g1 := (hSy.cell (p := ⟨b, 1, none⟩) hbl).trans c1; have g2 := (hSy.cell (p := ⟨b, 2, none⟩) hbl).trans c2; go_simp; try with_reducible rfl)
    simp only [Act.put]
    refine wpAnyH_take (i := 6) (v := ?v6) rfl (by kernel_rfl) (by kernel_rfl) (by kernel_rfl) (fun _ _ _ h => h) (Or.inl ⟨by rfl, ?y6⟩) hS ?r6
    case y6 => (intro wy hSy; have g0 := (hSy.cell (p := ⟨b, 0, none⟩) hbl).trans c0; have g1 := (hSy.cell (p := ⟨b, 1, none⟩) hbl).trans c1; have g2 := (hSy.cell (p := ⟨b, 2, none⟩) hbl).trans c2; go_simp; try with_reducible rfl)
    simp only [Act.put]
    refine wpAnyH_take (i := 7) (v := ?v7) rfl (by kernel_rfl) (by kernel_rfl) (by kernel_rfl) (fun _ _ _ h => h) (Or.inl ⟨by rfl, ?y7⟩) hS ?r7
    case y7 => (intro wy hSy; have g0 := (hSy.cell (p := ⟨b, 0, none⟩) hbl).trans c0; have g1 := (hSy.cell (p := ⟨b, 1, none⟩) hbl).trans c1; have g2 := (hSy.cell (p := ⟨b, 2, none⟩) hbl).trans c2; go_simp; try with_reducible rfl)
    simp only [Act.put]
    refine wpAnyH_ready (rs := [2, 9]) (by kernel_rfl) (by simp) ?_
    refine AllReadyH.cons rfl (fun K hK => ?_) (AllReadyH.cons rfl (fun K hK => ?_) AllReadyH.nil)
    · skip
      go_simp
      go_wp2_with (go_at_call 27; refine (HC.out _ HB0).mono ?_; rintro e w2 ⟨A3, c3, rfl, HD, hb⟩)
      have HBw2 := bel8 (Nat.le_refl _) HB0 hb.out
      refine hK.out _ _ ?_ (fun hS => ?_)
      · exact HBw2.out
      clear hK K
      have HD2 := Lib.hid (own_base8 HD.out HB0.out.size)
      refine wpAnyH_ready (rs := [5, 9]) (by kernel_rfl) (by simp) ?_
      refine AllReadyH.cons rfl (fun K hK => ?_) (AllReadyH.cons rfl (fun K hK => ?_) AllReadyH.nil)
      · skip
        go_simp
        go_wp2_with (go_at_call 36; refine (HK.out _ HBw2).mono ?_; rintro e w3 ⟨A4, c4, vs, rfl, HO, HV, hb2⟩)
        have HBw3 := bel8 (Nat.le_refl _) HBw2 hb2.out
        refine hK.out _ _ ?_ (fun hS => ?_)
        · exact HBw3.out
        clear hK K
        have HO2 := Lib.hid (own_base8 HO.out HBw2.out.size)
        have HV2 : Hid (vs.map Kv.k = ks ∧ vs.length = nk ∧ ∀ p ∈ vs, KvAt w1 B p) := ⟨HV.out.1, HV.out.2.1, fun p hp => KvAt_back (HV.out.2.2 p hp) (HBw2.out.mono HBw.out)⟩
        have HD3 := Lib.hid (own_to8 HD2.out hb2.out)
        refine wpAnyH_take (i := 8) (v := .agg #[.slice A3 nd c3, .slice A4 nk c4, .int .i64 s]) rfl (by kernel_rfl) (by kernel_rfl) (by kernel_rfl) (fun _ _ _ h => h) (Or.inl ⟨by rfl, ?y8a⟩) hS ?r8a
        case y8a => (intro wy hSy; go_simp; try with_reducible rfl)
        simp only [Act.put]
        refine wpAnyH_ready (rs := [9]) (by kernel_rfl) (by simp) ?_
        refine AllReadyH.cons rfl (fun K hK => ?_) AllReadyH.nil
        go_simp
        refine hK.out _ _ ?_ (fun hS => ?_)
        · exact HBw3.out.alloc HBw3.out.size _
        clear hK K
        have HBw4 : Hid (Below w1.heap.size w1 (w3.alloc (.cells #[.slice none 0 0, .slice none 0 0, .int .i64 0] 25))) := HBw3.out.alloc HBw3.out.size _
        have HZw4 : Hid ((w3.alloc (.cells #[.slice none 0 0, .slice none 0 0, .int .i64 0] 25)).heap[w3.heap.size]? = some (.cells #[.slice none 0 0, .slice none 0 0, .int .i64 0] 25 (0, 0))) := heap_alloc_new w3 _
        have HD4 := Lib.hid (own_to8 HD3.out ((Below.refl _ _).alloc (Nat.le_refl _) (.cells #[.slice none 0 0, .slice none 0 0, .int .i64 0] 25)))
        have HO4 := Lib.hid (own_to8 HO2.out ((Below.refl _ _).alloc (Nat.le_refl _) (.cells #[.slice none 0 0, .slice none 0 0, .int .i64 0] 25)))
        have ht := Lib.hid HBw3.out.size
        clear HD3 HO2 HD HO HD2 HBw2 hb hb2 HV hS
        generalize w3.alloc (.cells #[.slice none 0 0, .slice none 0 0, .int .i64 0] 25) = w4 at HBw4 HZw4 HD4 HO4 ⊢
        generalize w3.heap.size = t at HZw4 ht ⊢
        obtain ⟨t0, t1, t2⟩ := objs_of HZw4.out
        have f0 := free_blk HZw4.out 0
        have f1 := free_blk HZw4.out 1
        have f2 := free_blk HZw4.out 2
        refine wpAnyH_ready (rs := [10]) (by kernel_rfl) (by simp) ?_
        refine AllReadyH.cons rfl (fun K hK => ?_) AllReadyH.nil
        go_simp
        refine hK.out _ _ ?_ (fun hS => ?_)
        · exact put3_below HBw4.out ht.out _ _ _
        clear hK K
        refine wpAnyH_done (by kernel_rfl) ?_ _
        go_wp2_with fail
        go_meet
        exact ⟨t, A3, c3, A4, c4, vs, rfl, put3_at HZw4.out _ _ _, ht, own_p3 HD4.out HZw4.out (by decide) _ _ _, own_p3 HO4.out HZw4.out (by decide) _ _ _, HV2, put3_below HBw4.out ht.out _ _ _⟩
      · skip
        go_simp
        refine hK.out _ _ ?_ (fun hS => ?_)
        · exact HBw2.out.alloc HBw2.out.size _
        clear hK K
        have HBw4 : Hid (Below w1.heap.size w1 (w2.alloc (.cells #[.slice none 0 0, .slice none 0 0, .int .i64 0] 25))) := HBw2.out.alloc HBw2.out.size _
        have HZw4 : Hid ((w2.alloc (.cells #[.slice none 0 0, .slice none 0 0, .int .i64 0] 25)).heap[w2.heap.size]? = some (.cells #[.slice none 0 0, .slice none 0 0, .int .i64 0] 25 (0, 0))) := heap_alloc_new w2 _
        have HD4 := Lib.hid (own_to8 HD2.out ((Below.refl _ _).alloc (Nat.le_refl _) (.cells #[.slice none 0 0, .slice none 0 0, .int .i64 0] 25)))
        have ht := Lib.hid HBw2.out.size
        clear HD2 HD hb hS
        have hS := HBw4.out
        generalize w2.alloc (.cells #[.slice none 0 0, .slice none 0 0, .int .i64 0] 25) = w4 at HBw4 HZw4 HD4 hS ⊢
        generalize w2.heap.size = t at HZw4 ht ⊢
        have HD2 := HD4
        refine wpAnyH_ready (rs := [5]) (by kernel_rfl) (by simp) ?_
        refine AllReadyH.cons rfl (fun K hK => ?_) AllReadyH.nil
        go_simp
        go_wp2_with (go_at_call 36; refine (HK.out _ HBw4).mono ?_; rintro e w5 ⟨A4, c4, vs, rfl, HO, HV, hb2⟩)
        have HBw5 := bel8 (Nat.le_refl _) HBw4 hb2.out
        refine hK.out _ _ ?_ (fun hS => ?_)
        · exact HBw5.out
        clear hK K
        have HO2 := Lib.hid (own_base8 HO.out HBw4.out.size)
        have HV2 : Hid (vs.map Kv.k = ks ∧ vs.length = nk ∧ ∀ p ∈ vs, KvAt w1 B p) := ⟨HV.out.1, HV.out.2.1, fun p hp => KvAt_back (HV.out.2.2 p hp) (HBw4.out.mono HBw.out)⟩
        have HD3 := Lib.hid (own_to8 HD2.out hb2.out)
        have HZ5 := Lib.hid ((hb2.out.block _ (lt_of_block HZw4.out)).trans HZw4.out)
        refine wpAnyH_take (i := 8) (v := .agg #[.slice A3 nd c3, .slice A4 nk c4, .int .i64 s]) rfl (by kernel_rfl) (by kernel_rfl) (by kernel_rfl) (fun _ _ _ h => h) (Or.inl ⟨by rfl, ?y8b⟩) hS ?r8b
        case y8b => (intro wy hSy; go_simp; try with_reducible rfl)
        simp only [Act.put]
        obtain ⟨t0, t1, t2⟩ := objs_of HZ5.out
        have f0 := free_blk HZ5.out 0
        have f1 := free_blk HZ5.out 1
        have f2 := free_blk HZ5.out 2
        refine wpAnyH_ready (rs := [10]) (by kernel_rfl) (by simp) ?_
        refine AllReadyH.cons rfl (fun K hK => ?_) AllReadyH.nil
        go_simp
        refine hK.out _ _ ?_ (fun hS => ?_)
        · exact put3_below HBw5.out ht.out _ _ _
        clear hK K
        refine wpAnyH_done (by kernel_rfl) ?_ _
        go_wp2_with fail
        go_meet
        exact ⟨t, A3, c3, A4, c4, vs, rfl, put3_at HZ5.out _ _ _, ht, own_p3 HD3.out HZ5.out (by decide) _ _ _, own_p3 HO2.out HZ5.out (by decide) _ _ _, HV2, put3_below HBw5.out ht.out _ _ _⟩
    · skip
      go_simp
      refine hK.out _ _ ?_ (fun hS => ?_)
      · exact below_drewN ((Below.refl _ _).alloc (Nat.le_refl _) (.cells #[.slice none 0 0, .slice none 0 0, .int .i64 0] 25)) 1
      clear hK K
      have HBw4 : Hid (Below w1.heap.size w1 (w1.alloc (.cells #[.slice none 0 0, .slice none 0 0, .int .i64 0] 25)).drew) := below_drewN ((Below.refl _ _).alloc (Nat.le_refl _) (.cells #[.slice none 0 0, .slice none 0 0, .int .i64 0] 25)) 1
      have HZw4 : Hid ((w1.alloc (.cells #[.slice none 0 0, .slice none 0 0, .int .i64 0] 25)).drew.heap[w1.heap.size]? = some (.cells #[.slice none 0 0, .slice none 0 0, .int .i64 0] 25 (0, 0))) := heap_alloc_new w1 _
      have ht := Lib.hid (Nat.le_refl w1.heap.size)
      clear hS
      have hS := HBw4.out
      generalize (w1.alloc (.cells #[.slice none 0 0, .slice none 0 0, .int .i64 0] 25)).drew = w4 at HBw4 HZw4 hS ⊢
      refine wpAnyH_ready (rs := [2]) (by kernel_rfl) (by simp) ?_
      refine AllReadyH.cons rfl (fun K hK => ?_) AllReadyH.nil
      go_simp
      go_wp2_with (go_at_call 27; refine (HC.out _ HBw4).mono ?_; rintro e w2 ⟨A3, c3, rfl, HD, hb⟩)
      have HBw2 := bel8 (Nat.le_refl _) HBw4 hb.out
      refine hK.out _ _ ?_ (fun hS => ?_)
      · exact HBw2.out
      clear hK K
      have HD2 := Lib.hid (own_base8 HD.out HBw4.out.size)
      have HZ2 := Lib.hid ((hb.out.block _ (lt_of_block HZw4.out)).trans HZw4.out)
      refine wpAnyH_ready (rs := [5]) (by kernel_rfl) (by simp) ?_
      refine AllReadyH.cons rfl (fun K hK => ?_) AllReadyH.nil
      go_simp
      go_wp2_with (go_at_call 36; refine (HK.out _ HBw2).mono ?_; rintro e w5 ⟨A4, c4, vs, rfl, HO, HV, hb2⟩)
      have HBw5 := bel8 (Nat.le_refl _) HBw2 hb2.out
      refine hK.out _ _ ?_ (fun hS => ?_)
      · exact HBw5.out
      clear hK K
      have HO2 := Lib.hid (own_base8 HO.out HBw2.out.size)
      have HV2 : Hid (vs.map Kv.k = ks ∧ vs.length = nk ∧ ∀ p ∈ vs, KvAt w1 B p) := ⟨HV.out.1, HV.out.2.1, fun p hp => KvAt_back (HV.out.2.2 p hp) (HBw2.out.mono HBw.out)⟩
      have HD3 := Lib.hid (own_to8 HD2.out hb2.out)
      have HZ5 := Lib.hid ((hb2.out.block _ (lt_of_block HZ2.out)).trans HZ2.out)
      refine wpAnyH_take (i := 8) (v := .agg #[.slice A3 nd c3, .slice A4 nk c4, .int .i64 s]) rfl (by kernel_rfl) (by kernel_rfl) (by kernel_rfl) (fun _ _ _ h => h) (Or.inl ⟨by rfl, ?y8c⟩) hS ?r8c
      case y8c => (intro wy hSy; go_simp; try with_reducible rfl)
      simp only [Act.put]
      obtain ⟨t0, t1, t2⟩ := objs_of HZ5.out
      have f0 := free_blk HZ5.out 0
      have f1 := free_blk HZ5.out 1
      have f2 := free_blk HZ5.out 2
      refine wpAnyH_ready (rs := [10]) (by kernel_rfl) (by simp) ?_
      refine AllReadyH.cons rfl (fun K hK => ?_) AllReadyH.nil
      go_simp
      refine hK.out _ _ ?_ (fun hS => ?_)
      · exact put3_below HBw5.out ht.out _ _ _
      clear hK K
      refine wpAnyH_done (by kernel_rfl) ?_ _
      go_wp2_with fail
      go_meet
      exact ⟨w1.heap.size, A3, c3, A4, c4, vs, rfl, put3_at HZ5.out _ _ _, ht, own_p3 HD3.out HZ5.out (by decide) _ _ _, own_p3 HO2.out HZ5.out (by decide) _ _ _, HV2, put3_below HBw5.out ht.out _ _ _⟩
  case rest =>
    obtain ⟨t, A3, c3, A4, c4, vs, rfl, HT, ht, HD, HO, HV, Hbc⟩ := hcut
    have Hnm : Hid (∀ k ∈ ks, k.name.length ≤ 9223372036854775807) := fun k hk => by
      obtain ⟨i, hi, rfl⟩ := List.getElem_of_mem hk
      obtain ⟨_, _, _, _, _, _, _, _, _, _, _, h⟩ := Hr.out.2 i hi
      exact h
    obtain ⟨M, hM⟩ : ∃ M, M = wc.heap.size := ⟨_, rfl⟩
    have HM := Lib.hid (show w1.heap.size ≤ M ∧ (∀ a, A3 = some a → a.block < M) ∧ M ≤ wc.heap.size by rw [hM]; exact ⟨Hbc.out.size, fun a ha => (own_at8 HD.out a ha).2, Nat.le_refl _⟩)
    clear hM HB0 HC HK
    replace c1 := (Hbc.out.cell (p := ⟨b, 1, none⟩) hbl).trans c1
    clear c0 c2
    have hbc := Nat.lt_of_lt_of_le hbl Hbc.out.size
    go_wp2_with fail
    go_loopw [18] (fun i wr => ∃ (j : Nat) (us : List Kv), j ≤ nk ∧ i = .int .i64 j ∧ Hid (us.map Kv.k = ks ∧ us.length = nk) ∧ Hid (∀ p ∈ us.take j, wr.ownsRow M 5 1 (.slice p.A p.n p.c) p.n (p.k.val.map bv)) ∧ Hid (wr.ownsRow w1.heap.size 48 2 (.slice A4 nk c4) nk (flatK us)) ∧ Hid (wr.ownsRow w1.heap.size 5 1 (.slice A3 nd c3) nd (d.map bv)) ∧ Hid (wr.heap[t]? = some (.cells #[.slice A3 nd c3, .slice A4 nk c4, .int .i64 s] 25 (0, 0))) ∧ Hid (M ≤ wr.heap.size) ∧ Hid (Below w1.heap.size w1 wr)) (fun i _ => nk - (intOf i).toNat)
    case atStart => exact ⟨0, vs, Nat.zero_le _, rfl, ⟨HV.out.1, HV.out.2.1⟩, fun p hp => by simp at hp, HO, HD, HT, HM.out.2.2, Hbc⟩
    case round =>
      obtain ⟨j, us, hj, rfl, Hus, Hval, HO2, HD2, HT2, HMr, Hbr⟩ := hrel
      have Hr2 := Lib.hid (Hr.out.below (Hbr.out.mono HBw.out))
      by_cases hjn : j < nk
      · have hjl : j < ks.length := by rw [Hr2.out.1]; exact hjn
        obtain ⟨g, o, Aj, nj, cj, rfl, hg, x0, x1, h5, h6, h7⟩ := Hr2.out.2 j hjl
        have hvl := Hvs.out ks[j] (List.getElem_mem hjl)
        rw [h5.1] at hvl
        have Hk := Lib.hid (show (us[j]'(by rw [Hus.out.2]; exact hjn)).k = ks[j] by
          have e : (us.map Kv.k)[j]'(by rw [List.length_map, Hus.out.2]; exact hjn) = ks[j] := by congr 1; exact Hus.out.1
          simpa using e)
        have H5 := Lib.hid h5
        have Hkn := Lib.hid (Hnm.out ks[j] (List.getElem_mem hjl))
        clear h5 h7
        generalize ks[j] = k at x0 H5 Hk Hkn
        obtain ⟨m, u⟩ := k
        have x0 : wr.cell? ⟨g, o + j * 2, none⟩ = some (.string ⟨m.toArray⟩) := x0
        have H5 : Hid (Rd wr B Aj nj u) := H5
        have hj0 : (0 : Int) ≤ (j : Int) := by omega
        have hj1 : (j : Int) < (nk : Int) := by omega
        have hgl : g < wr.heap.size := World.block_lt_of_cell? wr _ x0
        clear hjl
        obtain ⟨g4, rfl⟩ : ∃ g4, A4 = some ⟨g4, 0, none⟩ := by
          rcases HO2.out.2 with ⟨h1, h2⟩ | ⟨g4, cap, cur, h1, _⟩
          · omega
          · injection h1 with h1 _ _; exact ⟨g4, h1⟩
        have HO4 := HO2
        go_upto_region 5 with fail
        have Hbx := Lib.hid ((Below.refl wr.heap.size wr).alloc (Nat.le_refl _) (.cells #[.string ⟨m.toArray⟩, .slice Aj nj cj] 48))
        have Hb5 := Lib.hid (Hbr.out.trans (Hbx.out.mono Hbr.out.size))
        have y1 := (box_key wr (.string ⟨m.toArray⟩) (.slice Aj nj cj) 48).2
        have HT5 := Lib.hid ((Hbx.out.block _ (lt_of_block HT2.out)).trans HT2.out)
        have HO5 := Lib.hid (own_to8 HO2.out Hbx.out)
        have HD5 := Lib.hid (own_to8 HD2.out Hbx.out)
        have Hval5 : Hid (∀ p ∈ us.take j, (wr.alloc (.cells #[.string ⟨m.toArray⟩, .slice Aj nj cj] 48)).ownsRow M 5 1 (.slice p.A p.n p.c) p.n (p.k.val.map bv)) := fun p hp => own_to8 (Hval.out p hp) Hbx.out
        have H55 := Lib.hid (H5.out.below (Hbx.out.mono (Nat.le_trans HBw.out Hbr.out.size)))
        have HM5 := Lib.hid (Nat.le_trans HMr.out Hbx.out.size)
        clear x0 x1 HT2 HO2 HD2 Hval H5 Hr2 HMr
        have hp5 : wr.heap.size < (wr.alloc (.cells #[.string ⟨m.toArray⟩, .slice Aj nj cj] 48)).heap.size := by simp
        generalize wr.alloc (.cells #[.string ⟨m.toArray⟩, .slice Aj nj cj] 48) = w5 at Hbx Hb5 y1 HT5 HO5 HD5 Hval5 H55 HM5 hp5 ⊢
        obtain ⟨p, hp⟩ : ∃ p, p = wr.heap.size := ⟨_, rfl⟩
        rw [← hp] at y1 hp5 ⊢
        have Hpg := Lib.hid (show g4 ≠ p by have := (own_at8 HO4.out _ rfl).2; rw [hp]; exact Nat.ne_of_lt this)
        clear hp Hbx HO4
        have hT1 := (objs_of HT5.out).2.1
        have htl := lt_of_block HT5.out
        have HS0 : Hid (Below w5.heap.size w5 w5.drew) := below_drewN (Below.refl _ _) 1
        have HC : Hid (∀ w', Hid (Below w5.heap.size w5 w') → Calls Tryd.prog 27 #[.slice Aj nj cj] w' (Out8 w' nj u)) := fun w' hb => (kClone Aj nj cj B u w' (H55.out.below (hb.out.mono (Nat.le_trans HBw.out Hb5.out.size))) (Nat.le_trans (Nat.le_trans HBw.out Hb5.out.size) hb.out.size) (by omega)).mono fun _ _ h => h.out8 H55.out.1
        refine wp_region_held_drew (S := fun W => W.cell? ⟨t, 1, none⟩ = some (.slice (some ⟨g4, 0, none⟩) nk c4) ∧ W.cell? ⟨p, 1, none⟩ = some (.slice Aj nj cj)) (by kernel_rfl) ⟨hT1, y1⟩ (fun hS => ?_)
        refine wpAnyH_take (i := 0) (v := ?w0) rfl (by kernel_rfl) (by kernel_rfl) (by kernel_rfl) (fun _ _ _ h => h) (Or.inl ⟨by rfl, ?x0⟩) hS ?q0
        case x0 => (intro wy hSy; obtain ⟨g1, g2⟩ := hSy; go_simp; try with_reducible rfl)
        simp only [Act.put]
        refine wpAnyH_take (i := 1) (v := ?w1) rfl (by kernel_rfl) (by kernel_rfl) (by kernel_rfl) (fun _ _ _ h => h) (Or.inl ⟨by rfl, ?x1⟩) hS ?q1
        case x1 => (intro wy hSy; obtain ⟨g1, g2⟩ := hSy; go_simp; try with_reducible rfl)
        simp only [Act.put]
        refine wpAnyH_take (i := 2) (v := ?w2) rfl (by kernel_rfl) (by kernel_rfl) (by kernel_rfl) (fun _ _ _ h => h) (Or.inl ⟨by rfl, ?x2⟩) hS ?q2
        case x2 => (intro wy hSy; obtain ⟨g1, g2⟩ := hSy; go_simp; try with_reducible rfl)
        simp only [Act.put]
        refine wpAnyH_take (i := 3) (v := ?w3) rfl (by kernel_rfl) (by kernel_rfl) (by kernel_rfl) (fun _ _ _ h => h) (Or.inl ⟨by rfl, ?x3⟩) hS ?q3
        case x3 => (intro wy hSy; obtain ⟨g1, g2⟩ := hSy; go_simp; try with_reducible rfl)
        simp only [Act.put]
        refine wpAnyH_take (i := 4) (v := ?w4) rfl (by kernel_rfl) (by kernel_rfl) (by kernel_rfl) (fun _ _ _ h => h) (Or.inl ⟨by rfl, ?x4⟩) hS ?q4
        case x4 => (intro wy hSy; obtain ⟨g1, g2⟩ := hSy; go_simp; try with_reducible rfl)
        simp only [Act.put]
        refine wpAnyH_ready (rs := [5]) (by kernel_rfl) (by simp) ?_
        refine AllReadyH.cons rfl (fun K hK => ?_) AllReadyH.nil
        go_simp
        go_wp2_with (go_at_call 27; refine (HC.out _ HS0).mono ?_; rintro e w6 ⟨A6, c6, rfl, H6, hb⟩)
        have Hb6 := bel8 (Nat.le_refl _) HS0 hb.out
        refine hK.out _ _ ?_ (fun hS => ?_)
        · exact ⟨(Hb6.out.cell (p := ⟨t, 1, none⟩) htl).trans hT1, (Hb6.out.cell (p := ⟨p, 1, none⟩) hp5).trans y1⟩
        clear hK K
        have HO6 := Lib.hid (own_to8 HO5.out Hb6.out)
        have HT6 := Lib.hid ((Hb6.out.block _ htl).trans HT5.out)
        have HD6 := Lib.hid (own_to8 HD5.out Hb6.out)
        have H6M := Lib.hid (own_base8 H6.out HM5.out)
        have Hval6 : Hid (∀ p ∈ us.take j, w6.ownsRow M 5 1 (.slice p.A p.n p.c) p.n (p.k.val.map bv)) := fun p hp => own_to8 (Hval5.out p hp) Hb6.out
        obtain ⟨cur, hcur, hg4⟩ := own_blk8 HO6.out
        have Hg4 := Lib.hid hcur
        have Hcur := Lib.hid hg4
        clear hcur hg4
        have hcell := HO6.out.cellAt (j * 2 + 1) (by omega)
        have hcx := flatK_get us j 1 (by rw [Hus.out.2]; exact hjn) (by omega)
        rw [hcx] at hcell
        replace hcell : w6.cell? ⟨g4, j * 2 + 1, none⟩ = some (.slice (us[j]'(by rw [Hus.out.2]; exact hjn)).A (us[j]'(by rw [Hus.out.2]; exact hjn)).n (us[j]'(by rw [Hus.out.2]; exact hjn)).c) := hcell
        have hfro := World.ownsRow.frozenAt HO6.out (j * 2 + 1)
        clear hcx
        refine wpAnyH_take (i := 6) (v := ?w6) rfl (by kernel_rfl) (by kernel_rfl) (by kernel_rfl) (fun _ _ _ h => h) (Or.inl ⟨by rfl, ?x6⟩) hS ?q6
        case x6 => (intro wy hSy; go_simp; try with_reducible rfl)
        simp only [Act.put]
        refine wpAnyH_take (i := 7) (v := ?w7) rfl (by kernel_rfl) (by kernel_rfl) (by kernel_rfl) (fun _ _ _ h => h) (Or.inl ⟨by rfl, ?x7⟩) hS ?q7
        case x7 => (intro wy hSy; go_simp; try with_reducible rfl)
        simp only [Act.put]
        have Hg4t := Lib.hid (show g4 ≠ t from cells_ne8 Hg4.out HT6.out (by decide))
        refine wpAnyH_ready (rs := [8]) (by kernel_rfl) (by simp) ?_
        refine AllReadyH.cons rfl (fun K hK => ?_) AllReadyH.nil
        go_simp
        refine hK.out _ _ ?_ (fun hS => ?_)
        · exact ⟨(World.cell?_setCell_far w6 ⟨g4, j * 2 + 1, none⟩ ⟨t, 1, none⟩ _ Hg4t.out).trans hS.1, (World.cell?_setCell_far w6 ⟨g4, j * 2 + 1, none⟩ ⟨p, 1, none⟩ _ Hpg.out).trans hS.2⟩
        clear hK K
        refine wpAnyH_done (by kernel_rfl) ?_ _
        go_wp2_with fail
        have hju : j < us.length := by rw [Hus.out.2]; exact hjn
        go_roundw
        case rel =>
          refine ⟨j + 1, us.set j ⟨us[j].k, A6, nj, c6⟩, by omega, by go_num, ⟨by rw [kv_set hju]; exact Hus.out.1, by rw [List.length_set]; exact Hus.out.2⟩, fun q hq => ?_, ?_, own_setb8 HD6.out Hg4.out (by decide) _ _, (Below.heap_setCell w6 ⟨g4, j * 2 + 1, none⟩ _ t (fun e => Hg4t.out e.symm)).trans HT6.out, ?_, (Hb5.out.trans (Hb6.out.mono Hb5.out.size)).setCell (p := ⟨g4, j * 2 + 1, none⟩) Hcur.out _⟩
          · rw [take_set8 hju] at hq
            rcases List.mem_append.1 hq with hq | hq
            · exact own_setb8 (Hval6.out q hq) Hg4.out (by decide) _ _
            · simp only [List.mem_singleton] at hq
              subst hq
              have h := own_setb8 H6M.out Hg4.out (by decide) (j * 2 + 1) (.slice A6 nj c6)
              show World.ownsRow _ _ _ _ _ _ ((us[j].k.val).map bv)
              rw [Hk.out]
              exact h
          · have h := (World.ownsRow.stored HO6.out (j * 2 + 1) (.slice A6 nj c6)).1
            rw [flatK_set hju] at h
            exact h
          · show M ≤ (w6.setCell _ _).heap.size
            have h1 := HM5.out
            have h2 := Hb6.out.size
            simp [World.setCell]
            omega
        case measure => simp [intOf]; omega
      · obtain rfl : nk = j := by omega
        have HZr := Lib.hid ((Hbr.out.block z (lt_of_block Hz.out)).trans Hz.out)
        obtain ⟨t0, t1, t2⟩ := objs_of HT2.out
        obtain ⟨z0, z1, z2⟩ := objs_of HZr.out
        have y0 := free_blk HZr.out 0
        have y1 := free_blk HZr.out 1
        have y2 := free_blk HZr.out 2
        have HP0 : Hid (Parts wr w.heap.size M ⟨d, ks, s⟩ A3 nd c3 A4 nk c4 us) := ⟨Nat.le_trans Hb.out.size HM.out.1, own_base8 HD2.out Hb.out.size, HM.out.2.1, own_base8 HO2.out Hb.out.size, Hus.out.1, Hus.out.2, fun q hq => Hval.out q (by rw [List.take_of_length_le (by rw [Hus.out.2]; exact Nat.le_refl _)]; exact hq), fun q hq => Hnm.out q.k (by rw [← Hus.out.1]; exact List.mem_map_of_mem hq)⟩
        have P9 := Lib.hid (put3_at HZr.out (.slice A3 nd c3) (.slice A4 nk c4) (.int .i64 s))
        have B9 := Lib.hid (put3_below (Hb.out.trans (Hbr.out.mono Hb.out.size)) Hbz.out.1 (.slice A3 nd c3) (.slice A4 nk c4) (.int .i64 s) (z := z))
        have O9 := Lib.hid (HP0.out.put HZr.out (.slice A3 nd c3) (.slice A4 nk c4) (.int .i64 s))
        go_wp2_with fail
        clear t0 t1 t2 z0 z1 z2 y0 y1 y2
        change bodyPost _ _ _ _ _ (put3 wr z (.slice A3 nd c3) (.slice A4 nk c4) (.int .i64 s))
        generalize put3 wr z (.slice A3 nd c3) (.slice A4 nk c4) (.int .i64 s) = w4 at P9 B9 O9 ⊢
        obtain ⟨z0, z1, z2⟩ := objs_of P9.out
        exact bodyPost_ret (v := oV A3 nd c3 A4 nk c4 s) (by simp [results, Tryd.results20, go_sem, z0, z1, z2]) rfl ⟨A3, c3, A4, c4, us, M, rfl, O9, B9⟩
end Go.Proofs.YtmigapjkicddiaaDoor
