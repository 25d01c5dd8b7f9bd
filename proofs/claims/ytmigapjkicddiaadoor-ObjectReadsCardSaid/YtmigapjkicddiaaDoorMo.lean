/- Package object: Do. Package object: Do. Package object: Do itself. Package object: Do's walk. -/
import Derived.Test.YtmigapjkicddiaaDoorMm
import Derived.Test.YtmigapjkicddiaaDoorMn
import Derived.Deep.RegionHeld3

namespace Go.Proofs.YtmigapjkicddiaaDoor
open Go.RowKit

set_option maxRecDepth 10000 in
theorem kApply (b : Nat) (o : Oj) (t : Bool) (k f n : Int) (X : List UInt8) (A : Option Addr) (np cp : Nat) (D : List UInt8) (B M : Nat) (Ad Ak : Option Addr) (nd cd nk ck : Nat) (vs : List Kv) (w : World) (hbB : B ≤ b) (hB : B ≤ w.heap.size)
    (hb : w.heap[b]? = some (.cells #[.slice Ad nd cd, .slice Ak nk ck, .int .i64 o.seq] 25 (0, 0))) (hp : Parts w B M o Ad nd cd Ak nk ck vs) (hm : mayO o = true) (hf : I64 f) (hD : Rd w B A np D) (hnp : np ≤ cp) (hcp : cp ≤ 9223372036854775807) (hX : X.length ≤ 9223372036854775807) (hk : 1 ≤ k ∧ k ≤ 14) :
    Calls Tryd.prog 37 #[.pointer (some ⟨b, 0, none⟩), .bool t, pV k f n X A np cp] w (ApQ w B b k (stepO o t ⟨k, f, n, X, D⟩)) := by
  have h : k = 1 ∨ k = 2 ∨ k = 3 ∨ k = 4 ∨ k = 5 ∨ k = 6 ∨ k = 7 ∨ k = 8 ∨ k = 9 ∨ k = 10 ∨ k = 11 ∨ k = 12 ∨ k = 13 ∨ k = 14 := by omega
  rcases h with rfl | rfl | rfl | rfl | rfl | rfl | rfl | rfl | rfl | rfl | rfl | rfl | rfl | rfl
  · exact kApply1 b o t f n X A np cp D B M Ad Ak nd cd nk ck vs w hbB hB hb hp hm hf hD hnp hcp hX
  · exact kApply2 b o t f n X A np cp D B M Ad Ak nd cd nk ck vs w hbB hB hb hp hm hf hD hnp hcp hX
  · exact kApply3 b o t f n X A np cp D B M Ad Ak nd cd nk ck vs w hbB hB hb hp hm hf hD hnp hcp hX
  · exact kApply4 b o t f n X A np cp D B M Ad Ak nd cd nk ck vs w hbB hB hb hp hm hf hD hnp hcp hX
  · exact kApply5 b o t f n X A np cp D B M Ad Ak nd cd nk ck vs w hbB hB hb hp hm hf hD hnp hcp hX
  · exact kApply6 b o t f n X A np cp D B M Ad Ak nd cd nk ck vs w hbB hB hb hp hm hf hD hnp hcp hX
  · exact kApply7 b o t f n X A np cp D B M Ad Ak nd cd nk ck vs w hbB hB hb hp hm hf hD hnp hcp hX
  · exact kApply8 b o t f n X A np cp D B M Ad Ak nd cd nk ck vs w hbB hB hb hp hm hf hD hnp hcp hX
  · exact kApply9 b o t f n X A np cp D B M Ad Ak nd cd nk ck vs w hbB hB hb hp hm hf hD hnp hcp hX
  · exact kApply10 b o t f n X A np cp D B M Ad Ak nd cd nk ck vs w hbB hB hb hp hm hf hD hnp hcp hX
  · exact kApply11 b o t f n X A np cp D B M Ad Ak nd cd nk ck vs w hbB hB hb hp hm hf hD hnp hcp hX
  · exact kApply12 b o t f n X A np cp D B M Ad Ak nd cd nk ck vs w hbB hB hb hp hm hf hD hnp hcp hX
  · exact kApply13 b o t f n X A np cp D B M Ad Ak nd cd nk ck vs w hbB hB hb hp hm hf hD hnp hcp hX
  · exact kApply14 b o t f n X A np cp D B M Ad Ak nd cd nk ck vs w hbB hB hb hp hm hf hD hnp hcp hX
/-- what apply tells of any kind: the code of the error is told -/
def ApR (w : World) (B b : Nat) (o : Oj) (t : Bool) (p : Opr) (e : Ending) (w' : World) : Prop :=
  ∃ ok code, e = .returned (failV ok code) ∧ Hid (Fr B w w') ∧
    ((ok = true ∧ 1 ≤ p.k ∧ p.k ≤ 14 ∧ (stepO o t p).2.2.2 = 0 ∧ Hid (ObE w' b (if p.k = 13 then oj0 else (stepO o t p).1))) ∨
     (ok = false ∧ code ≠ 0 ∧ (if 1 ≤ p.k ∧ p.k ≤ 14 then (stepO o t p).2.2.2 else 1) = code))
set_option maxRecDepth 10000 in
theorem kApplyR (b : Nat) (o : Oj) (t : Bool) (k f n : Int) (X : List UInt8) (A : Option Addr) (np cp : Nat) (D : List UInt8) (B M : Nat) (Ad Ak : Option Addr) (nd cd nk ck : Nat) (vs : List Kv) (w : World) (hbB : B ≤ b) (hB : B ≤ w.heap.size)
    (hb : w.heap[b]? = some (.cells #[.slice Ad nd cd, .slice Ak nk ck, .int .i64 o.seq] 25 (0, 0))) (hp : Parts w B M o Ad nd cd Ak nk ck vs) (hm : mayO o = true) (hf : I64 f) (hD : Rd w B A np D) (hnp : np ≤ cp) (hcp : cp ≤ 9223372036854775807) (hX : X.length ≤ 9223372036854775807) :
    Calls Tryd.prog 37 #[.pointer (some ⟨b, 0, none⟩), .bool t, pV k f n X A np cp] w (ApR w B b o t ⟨k, f, n, X, D⟩) := by
  by_cases hk : 1 ≤ k ∧ k ≤ 14
  · refine (kApply b o t k f n X A np cp D B M Ad Ak nd cd nk ck vs w hbB hB hb hp hm hf hD hnp hcp hX hk).mono ?_
    rintro e w' ⟨ok, code, rfl, h0, h1, h2, h3⟩
    cases ok
    · exact ⟨false, code, rfl, h3, .inr ⟨rfl, h0 rfl, by rw [if_pos hk, h1]; rfl⟩⟩
    · exact ⟨true, code, rfl, h3, .inl ⟨rfl, hk.1, hk.2, by rw [h1]; rfl, h2.out rfl⟩⟩
  · refine (kApplyNo b t k f n X A np cp w (by omega)).mono ?_
    rintro e w' ⟨rfl, hb'⟩
    exact ⟨false, 1, rfl, Fr.of hb' hB, .inr ⟨rfl, by decide, if_neg hk⟩⟩
end Go.Proofs.YtmigapjkicddiaaDoor

namespace Go.Proofs.YtmigapjkicddiaaDoor
open Go.RowKit

/-- what Do tells -/
def DoP (w : World) (r : Oj × Bool × Bool × Int) (e : Ending) (w' : World) : Prop :=
  ∃ v, e = .returned (.tuple #[v, .bool r.2.1, .bool r.2.2.1, .int .i64 r.2.2.2]) ∧ Hid (OjC w' r.1 v) ∧ Hid (Below w.heap.size w w')
theorem Parts.low {w : World} {B B' M : Nat} {o : Oj} {Ad Ak : Option Addr} {nd cd nk ck : Nat} {vs : List Kv} (h : Parts w B M o Ad nd cd Ak nk ck vs) (hB : B' ≤ B) : Parts w B' M o Ad nd cd Ak nk ck vs :=
  ⟨Nat.le_trans hB h.hBM, own_base8 h.dat hB, h.dlt, own_base8 h.key hB, h.kys, h.vln, h.val, h.nam⟩
theorem parts0 (w : World) (B : Nat) : Parts w B B oj0 none 0 0 none 0 0 [] :=
  ⟨Nat.le_refl _, own_nil8 _ _, (fun a h => by cases h), World.ownsRow_nil _ _ _ _, rfl, rfl, (fun p h => by cases h), (fun p h => by cases h)⟩
theorem may0 : mayO oj0 = true := by decide
set_option maxRecDepth 10000 in
theorem ObE.at {w : World} {b : Nat} {o : Oj} (h : ObE w b o) : ∃ Ad nd cd Ak nk ck, w.heap[b]? = some (.cells #[.slice Ad nd cd, .slice Ak nk ck, .int .i64 o.seq] 25 (0, 0)) ∧ OjC w o (oV Ad nd cd Ak nk ck o.seq) := by
  obtain ⟨Ad, nd, cd, Ak, nk, ck, h1, h2, h3, h4⟩ := h
  exact ⟨Ad, nd, cd, Ak, nk, ck, h1, ⟨Ad, nd, cd, Ak, nk, ck, rfl, h2, h3, h4⟩⟩
theorem step_exists (o : Oj) (t : Bool) (p : Opr) (h1 : 1 ≤ p.k) (h2 : p.k ≤ 14) (h0 : (stepO o t p).2.2.2 = 0) : (stepO o t p).2.1 = existsB t p.k := by
  obtain ⟨k, f, n, X, D⟩ := p
  have h : k = 1 ∨ k = 2 ∨ k = 3 ∨ k = 4 ∨ k = 5 ∨ k = 6 ∨ k = 7 ∨ k = 8 ∨ k = 9 ∨ k = 10 ∨ k = 11 ∨ k = 12 ∨ k = 13 ∨ k = 14 := by simp only at h1 h2; omega
  rcases h with rfl | rfl | rfl | rfl | rfl | rfl | rfl | rfl | rfl | rfl | rfl | rfl | rfl | rfl
  all_goals first
    | rfl
    | (revert h0; unfold stepO; simp only [show ¬ ((5 : Int) ≤ 4) by decide, show ¬ ((6 : Int) ≤ 4) by decide, show ¬ ((7 : Int) ≤ 4) by decide, show (5 : Int) ≤ 7 by decide, show (6 : Int) ≤ 7 by decide, show (7 : Int) ≤ 7 by decide, if_true, if_false]; split <;> (intro h; first | (cases t <;> rfl) | (exfalso; have h : (2 : Int) = 0 := h; exact absurd h (by decide)) | (exfalso; have h : (3 : Int) = 0 := h; exact absurd h (by decide))))
theorem step_on (o : Oj) (t : Bool) (p : Opr) (h1 : 1 ≤ p.k) (h2 : p.k ≤ 14) (h0 : (stepO o t p).2.2.2 = 0) : (stepO o t p).2.2.1 = (!decide (p.k = 4) || decide ((if p.k = 13 then oj0 else (stepO o t p).1).seq < p.n)) := by
  obtain ⟨k, f, n, X, D⟩ := p
  have h : k = 1 ∨ k = 2 ∨ k = 3 ∨ k = 4 ∨ k = 5 ∨ k = 6 ∨ k = 7 ∨ k = 8 ∨ k = 9 ∨ k = 10 ∨ k = 11 ∨ k = 12 ∨ k = 13 ∨ k = 14 := by simp only at h1 h2; omega
  rcases h with rfl | rfl | rfl | rfl | rfl | rfl | rfl | rfl | rfl | rfl | rfl | rfl | rfl | rfl
  · cases t
    · have h0 : (90 : Int) = 0 := h0
      exact absurd h0 (by decide)
    · rfl
  · cases t
    · rfl
    · have h0 : (91 : Int) = 0 := h0
      exact absurd h0 (by decide)
  · revert h0
    show (guardO o t ⟨3, f, n, X, D⟩).2 = 0 → (guardO o t ⟨3, f, n, X, D⟩).1 = _
    unfold guardO
    by_cases h : getK o.keys X = some D
    · simp [h]
    · simp [h]
  · rfl
  all_goals first
    | rfl
    | (revert h0; unfold stepO; simp only [show ¬ ((5 : Int) ≤ 4) by decide, show ¬ ((6 : Int) ≤ 4) by decide, show ¬ ((7 : Int) ≤ 4) by decide, show (5 : Int) ≤ 7 by decide, show (6 : Int) ≤ 7 by decide, show (7 : Int) ≤ 7 by decide, if_true, if_false]; split <;> (intro h; first | rfl | (exfalso; have h : (2 : Int) = 0 := h; exact absurd h (by decide)) | (exfalso; have h : (3 : Int) = 0 := h; exact absurd h (by decide))))
/-- what isn't there is empty -/
theorem step_empty (p : Opr) (h1 : 1 ≤ p.k) (h2 : p.k ≤ 14) (h0 : (stepO oj0 false p).2.2.2 = 0) (hx : existsB false p.k = false) : (if p.k = 13 then oj0 else (stepO oj0 false p).1) = oj0 := by
  obtain ⟨k, f, n, X, D⟩ := p
  have h : k = 1 ∨ k = 2 ∨ k = 3 ∨ k = 4 ∨ k = 5 ∨ k = 6 ∨ k = 7 ∨ k = 8 ∨ k = 9 ∨ k = 10 ∨ k = 11 ∨ k = 12 ∨ k = 13 ∨ k = 14 := by simp only at h1 h2; omega
  rcases h with rfl | rfl | rfl | rfl | rfl | rfl | rfl | rfl | rfl | rfl | rfl | rfl | rfl | rfl
  all_goals first
    | rfl
    | (exfalso; have hx : true = false := hx; exact absurd hx (by decide))
    | skip
  · revert h0
    show (stepO oj0 false ⟨6, f, n, X, D⟩).2.2.2 = 0 → (stepO oj0 false ⟨6, f, n, X, D⟩).1 = oj0
    intro h0
    have h := step_data (o := oj0) (t := false) (p := ⟨6, f, n, X, D⟩) (q := partB f n) (d := zerJ [] f.toNat n.toNat) (by show (4 : Int) < 6; decide) (by show (6 : Int) ≤ 7; decide) (data6 [] f n X D)
    cases hq : partB f n
    · rw [hq] at h; rw [h.1] at h0; exact absurd h0 (by decide)
    · rw [h.2 hq]; rfl
  · revert h0
    show (stepO oj0 false ⟨7, f, n, X, D⟩).2.2.2 = 0 → (stepO oj0 false ⟨7, f, n, X, D⟩).1 = oj0
    intro h0
    have h := step_data (o := oj0) (t := false) (p := ⟨7, f, n, X, D⟩) (q := partB 0 n) (d := ([] : List UInt8).take n.toNat) (by show (4 : Int) < 7; decide) (by show (7 : Int) ≤ 7; decide) (data7 [] f n X D)
    cases hq : partB 0 n
    · rw [hq] at h; rw [h.1] at h0; exact absurd h0 (by decide)
    · rw [h.2 hq]; simp [oj0]
/-- doO, by what apply makes -/
theorem do_yes (o : Oj) (t : Bool) (p : Opr) (hm : mayO o = true) (h1 : 1 ≤ p.k) (h2 : p.k ≤ 14) (h0 : (stepO (if t = true then o else oj0) t p).2.2.2 = 0) :
    doO o t p = (if p.k = 13 then oj0 else (stepO (if t = true then o else oj0) t p).1, existsB t p.k, !decide (p.k = 4) || decide ((if p.k = 13 then oj0 else (stepO (if t = true then o else oj0) t p).1).seq < p.n), 0) := by
  unfold doO
  rw [if_pos ⟨hm, h1, h2⟩]
  unfold endO
  rw [if_pos h0, step_exists _ t p h1 h2 h0, step_on _ t p h1 h2 h0]
  congr 1
  by_cases h13 : p.k = 13
  · rw [if_pos h13]; rw [h13]; rfl
  · rw [if_neg h13]
    cases hx : existsB t p.k
    · cases t
      · have h := step_empty p h1 h2 h0 hx
        rw [if_neg h13] at h
        exact h.symm
      · exfalso
        unfold existsB at hx
        simp [h13] at hx
    · rfl
theorem do_no (o : Oj) (t : Bool) (p : Opr) (hm : mayO o = true) (code : Int) (h0 : code ≠ 0) (h : (if 1 ≤ p.k ∧ p.k ≤ 14 then (stepO (if t = true then o else oj0) t p).2.2.2 else 1) = code) : doO o t p = (oj0, false, false, code) := by
  unfold doO
  by_cases hk : 1 ≤ p.k ∧ p.k ≤ 14
  · rw [if_pos ⟨hm, hk⟩]
    rw [if_pos hk] at h
    unfold endO
    rw [h, if_neg h0]
  · rw [if_neg (fun q => hk q.2)]
    rw [if_neg hk] at h
    rw [h]
end Go.Proofs.YtmigapjkicddiaaDoor

namespace Go.Proofs.YtmigapjkicddiaaDoor
open Go.RowKit

/-- an address that tells no object's zero cell lies in no zero block -/
theorem zero_ne {w : World} {z : Nat} {t : TypeId} {p : Addr} {v : Value} (hz : w.heap[z]? = some (.cells #[.slice none 0 0, .slice none 0 0, .int .i64 0] t (0, 0))) (hp : w.cell? p = some v) (h1 : v ≠ .slice none 0 0) (h2 : v ≠ .int .i64 0) : z ≠ p.block := by
  intro e
  obtain ⟨b, i, s⟩ := p
  obtain rfl : z = b := e
  obtain rfl : s = none := World.cell?_spot hp
  rw [cell_blk hz] at hp
  rcases i with _ | _ | _ | i
  · exact h1 (Option.some.inj hp).symm
  · exact h1 (Option.some.inj hp).symm
  · exact h2 (Option.some.inj hp).symm
  · simp at hp
theorem put3_cell {w : World} {z : Nat} {p : Addr} (h : z ≠ p.block) (v0 v1 v2 : Value) : (put3 w z v0 v1 v2).cell? p = w.cell? p := by
  show (((w.setCell ⟨z, 0, none⟩ v0).setCell ⟨z, 1, none⟩ v1).setCell ⟨z, 2, none⟩ v2).cell? p = _
  rw [World.cell?_setCell_far _ ⟨z, 2, none⟩ p _ h, World.cell?_setCell_far _ ⟨z, 1, none⟩ p _ h, World.cell?_setCell_far _ ⟨z, 0, none⟩ p _ h]
theorem put3_block {w : World} {z q : Nat} (h : q ≠ z) (v0 v1 v2 : Value) : (put3 w z v0 v1 v2).heap[q]? = w.heap[q]? := by
  show (((w.setCell ⟨z, 0, none⟩ v0).setCell ⟨z, 1, none⟩ v1).setCell ⟨z, 2, none⟩ v2).heap[q]? = _
  rw [Below.heap_setCell _ ⟨z, 2, none⟩ _ q h, Below.heap_setCell _ ⟨z, 1, none⟩ _ q h, Below.heap_setCell _ ⟨z, 0, none⟩ _ q h]
theorem put3_size (w : World) (z : Nat) (v0 v1 v2 : Value) : (put3 w z v0 v1 v2).heap.size = w.heap.size := by simp [put3, World.setCell]
theorem Rd.putZ {w : World} {B n z : Nat} {A : Option Addr} {l : List UInt8} {t : TypeId} (h : Rd w B A n l) (hz : w.heap[z]? = some (.cells #[.slice none 0 0, .slice none 0 0, .int .i64 0] t (0, 0))) (v0 v1 v2 : Value) : Rd (put3 w z v0 v1 v2) B A n l :=
  ⟨h.1, fun h0 => by
    obtain ⟨ad, e, hb, hc⟩ := h.2 h0
    refine ⟨ad, e, hb, fun j hj => ?_⟩
    have h1 := hc j hj
    rw [put3_cell (zero_ne hz h1 (by simp [bv]) (by simp [bv]))]
    exact h1⟩
theorem RdK.putZ {w : World} {B n z : Nat} {A : Option Addr} {ks : List Ky} {t : TypeId} (h : RdK w B A n ks) (hz : w.heap[z]? = some (.cells #[.slice none 0 0, .slice none 0 0, .int .i64 0] t (0, 0))) (v0 v1 v2 : Value) : RdK (put3 w z v0 v1 v2) B A n ks := by
  refine ⟨h.1, fun j hj => ?_⟩
  obtain ⟨g, o, Aj, nj, cj, h1, h2, h3, h4, h5, h6⟩ := h.2 j hj
  have hne : z ≠ g := zero_ne hz h3 (by simp) (by simp)
  exact ⟨g, o, Aj, nj, cj, h1, h2, (put3_cell (p := ⟨g, _, none⟩) hne _ _ _).trans h3, (put3_cell (p := ⟨g, _, none⟩) hne _ _ _).trans h4, h5.putZ hz _ _ _, h6⟩
theorem OjC.putZ {w : World} {z : Nat} {t : TypeId} {o : Oj} {v : Value} (h : OjC w o v) (hz : w.heap[z]? = some (.cells #[.slice none 0 0, .slice none 0 0, .int .i64 0] t (0, 0))) (v0 v1 v2 : Value) : OjC (put3 w z v0 v1 v2) o v := by
  obtain ⟨Ad, nd, cd, Ak, nk, ck, h1, h2, h3, h4⟩ := h
  refine ⟨Ad, nd, cd, Ak, nk, ck, h1, ?_, h3, ?_⟩ <;> rw [put3_size]
  · exact h2.putZ hz _ _ _
  · exact h4.putZ hz _ _ _
theorem OjC.zero (w : World) : OjC w oj0 oV0 := ⟨none, 0, 0, none, 0, 0, rfl, Rd.nil, by omega, RdK.nil _ _ _⟩
set_option maxRecDepth 10000 in
/-- errors.As at a failure, its target's block told -/
theorem as_failQ (e : Int) (p : Nat) (x : Int) (w : World) (hg : Et w) (hp : w.heap[p]? = some (.cells #[.int .i64 x] 28 (0, 0))) :
    Calls Tryd.prog 38 #[.iface 82 (.agg #[.iface 28 (.int .i64 e)]), .iface 64 (.pointer (some ⟨p, 0, none⟩))] w fun ev w' => ev = .returned (.bool true) ∧ w'.heap[p]? = some (.cells #[.int .i64 e] 28 (0, 0)) ∧ Below p w w' ∧ ∀ q, q < w.heap.size → q ≠ p → w'.heap[q]? = w.heap[q]? := by
  refine (as_fail e ⟨p, 0, none⟩ (.int .i64 x) w hg (by rw [cell_blk hp]; rfl) (free_blk hp 0)).mono ?_
  rintro ev w' ⟨rfl, rfl⟩
  have hl := lt_of_block hp
  have hb := (((((Below.refl w.heap.size w).alloc (Nat.le_refl _) (.cells #[.pointer (some ⟨p, 0, none⟩)] 64)).alloc (by simp) (.cells #[.pointer (some ⟨1, 64, none⟩), .pointer (some ⟨w.heap.size, 0, none⟩), .int .u64 150] 86)).alloc (by simp; omega) (.cells #[.pointer (some ⟨1, 64, none⟩), .pointer (some ⟨w.heap.size, 0, none⟩), .int .u64 150] 86)).alloc (by simp; omega) (.cells #[.iface 28 (.int .i64 e)] 82)).alloc (by simp; omega) (.cells #[.int .i64 e] 28)
  exact ⟨rfl, set_blk (blk8 hp hb) 0 (.int .i64 e), (hb.mono (Nat.le_of_lt hl)).setCell (p := ⟨p, 0, none⟩) (Nat.le_refl _) _, fun q hq hne => (Below.heap_setCell _ ⟨p, 0, none⟩ _ q hne).trans (hb.block q hq)⟩
end Go.Proofs.YtmigapjkicddiaaDoor

namespace Go.Proofs.YtmigapjkicddiaaDoor
open Go.RowKit

set_option maxRecDepth 10000 in
set_option maxHeartbeats 4000000 in
theorem kDo (Ad : Option Addr) (nd cd : Nat) (Ak : Option Addr) (nk ck : Nat) (s : Int) (d : List UInt8) (ks : List Ky) (t : Bool) (k f n : Int) (X : List UInt8) (Ap : Option Addr) (np cp : Nat) (D : List UInt8) (B : Nat) (w : World) (hg : Et w) (hB : B ≤ w.heap.size) (hd : Rd w B Ad nd d) (hr : RdK w B Ak nk ks)
    (hf : I64 f) (hD : Rd w B Ap np D) (hnp : np ≤ cp) (hcp : cp ≤ 9223372036854775807) (hX : X.length ≤ 9223372036854775807) :
    Calls Tryd.prog 22 #[oV Ad nd cd Ak nk ck s, .bool t, pV k f n X Ap np cp] w (DoP w (doO ⟨d, ks, s⟩ t ⟨k, f, n, X, D⟩)) := by
  obtain ⟨r, hrr⟩ : ∃ r, r = doO ⟨d, ks, s⟩ t ⟨k, f, n, X, D⟩ := ⟨_, rfl⟩
  have HR := Lib.hid hrr
  rw [← hrr]
  clear hrr
  have HT := Lib.hid (three_objs w (.cells #[.slice Ad nd cd, .slice Ak nk ck, .int .i64 s] 25) (.cells #[.int .i64 k, .int .i64 f, .int .i64 n, .string ⟨X.toArray⟩, .slice Ap np cp] 38) (.cells #[.slice none 0 0, .slice none 0 0, .int .i64 0] 25))
  have Hr := Lib.hid (hr.below (HT.out.2.2.2.mono hB))
  have Hd := Lib.hid (hd.below (HT.out.2.2.2.mono hB))
  have HD := Lib.hid (hD.below (HT.out.2.2.2.mono hB))
  have Hg := Lib.hid (hg.below HT.out.2.2.2 hg.lt)
  have Hgl := Lib.hid hg.lt
  have HBw := Lib.hid (Nat.le_trans hB HT.out.2.2.2.size)
  have HBB := Lib.hid hB
  clear hr hd hD hg hB
  go_enter Tryd.func22, Tryd.ntmps22
  go_upto_region 1 with fail
  generalize ((w.alloc (.cells #[.slice Ad nd cd, .slice Ak nk ck, .int .i64 s] 25)).alloc (.cells #[.int .i64 k, .int .i64 f, .int .i64 n, .string ⟨X.toArray⟩, .slice Ap np cp] 38)).alloc (.cells #[.slice none 0 0, .slice none 0 0, .int .i64 0] 25) = w1 at HT Hr Hd HD Hg HBw ⊢
  obtain ⟨b2, hb2⟩ : ∃ b, b = w.heap.size + 1 := ⟨_, rfl⟩
  obtain ⟨b1, hb1⟩ : ∃ b, b = w.heap.size := ⟨_, rfl⟩
  obtain ⟨z, hze⟩ : ∃ z, z = w.heap.size + 2 := ⟨_, rfl⟩
  have Hh := Lib.hid HT.out.1
  have Hp := Lib.hid HT.out.2.1
  have Hz := Lib.hid HT.out.2.2.1
  have Hb := Lib.hid HT.out.2.2.2
  have Hbz := Lib.hid (show w.heap.size ≤ z ∧ b1 < z ∧ b2 ≠ z by omega)
  rw [← hze] at Hz ⊢
  rw [← hb2] at Hp ⊢
  rw [← hb1] at Hh ⊢
  clear HT hb1 hb2 hze
  obtain ⟨c0, c1, c2⟩ := objs_of Hh.out
  have HM := kCheck Ad nd cd Ak nk ck s d ks B w1 Hd.out.1 Hr.out HBw.out
  obtain ⟨c, hc⟩ : ∃ c, c = errO (mayO ⟨d, ks, s⟩) := ⟨_, rfl⟩
  rw [← hc] at HM
  replace HM := Lib.hid HM
  have hways : (mayO ⟨d, ks, s⟩ = false ∧ c = 1) ∨ (mayO ⟨d, ks, s⟩ = true ∧ c = 0) := by
    cases hm : mayO ⟨d, ks, s⟩
    · exact .inl ⟨rfl, by rw [hc, hm]; rfl⟩
    · exact .inr ⟨rfl, by rw [hc, hm]; rfl⟩
  clear hc
  go_wp2_with fail
  refine HM.out.mono ?_
  rintro e w2 ⟨rfl, hb⟩
  clear c0 c1 c2 HM
  replace Hh := Lib.hid (blk8 Hh.out hb)
  replace Hp := Lib.hid (blk8 Hp.out hb)
  replace Hz := Lib.hid (blk8 Hz.out hb)
  replace Hr := Lib.hid (Hr.out.below (hb.mono HBw.out))
  replace Hd := Lib.hid (Hd.out.below (hb.mono HBw.out))
  replace HD := Lib.hid (HD.out.below (hb.mono HBw.out))
  replace HBw := Lib.hid (Nat.le_trans HBw.out hb.size)
  replace Hg := Lib.hid (Hg.out.below hb Hg.out.lt)
  replace Hb := Lib.hid (Hb.out.trans (hb.mono Hb.out.size))
  clear hb
  rcases hways with ⟨hm, rfl⟩ | ⟨hm, rfl⟩
  · have He := Lib.hid (show r = (oj0, false, false, 1) by rw [HR.out]; unfold doO; rw [hm]; rfl)
    obtain ⟨z0, z1, z2⟩ := objs_of Hz.out
    have y0 := free_blk Hz.out 0
    have y1 := free_blk Hz.out 1
    have y2 := free_blk Hz.out 2
    have P8 := Lib.hid (put3_at Hz.out (.slice none 0 0) (.slice none 0 0) (.int .i64 0))
    have B8 := Lib.hid (put3_below Hb.out Hbz.out.1 (.slice none 0 0) (.slice none 0 0) (.int .i64 0) (z := z))
    clear HR
    go_wp2_with fail
    clear z0 z1 z2 y0 y1 y2
    change bodyPost _ _ _ _ _ (put3 w2 z (.slice none 0 0) (.slice none 0 0) (.int .i64 0))
    generalize put3 w2 z (.slice none 0 0) (.slice none 0 0) (.int .i64 0) = w4 at P8 B8 ⊢
    obtain ⟨z0, z1, z2⟩ := objs_of P8.out
    exact bodyPost_ret (v := .tuple #[oV0, .bool false, .bool false, .int .i64 1]) (by simp [results, Tryd.results22, go_sem, z0, z1, z2]) rfl ⟨oV0, by rw [He.out], by rw [He.out]; exact OjC.zero _, B8.out⟩
  · obtain ⟨O, hO⟩ : ∃ O, O = if t = true then (⟨d, ks, s⟩ : Oj) else oj0 := ⟨_, rfl⟩
    have HO := Lib.hid hO
    have Hm := Lib.hid hm
    have HmO := Lib.hid (show mayO O = true by rw [hO]; cases t; exact may0; exact hm)
    obtain ⟨m1, m2, _, _, m3, _⟩ := (mayO_iff _).1 hm
    have hnd : nd ≤ 64 := by rw [← Hd.out.1]; exact m1
    have hnk : nk ≤ 120 := by rw [← Hr.out.1]; exact m2
    have Hb3 := Lib.hid ((Below.refl w2.heap.size w2).alloc (Nat.le_refl _) (.cells #[.slice none 0 0, .slice none 0 0, .int .i64 0] 25))
    have Hq := Lib.hid (heap_alloc_new w2 (.cells #[.slice none 0 0, .slice none 0 0, .int .i64 0] 25))
    clear hm hO
    go_upto_if 20 with fail
    generalize w2.alloc (.cells #[.slice none 0 0, .slice none 0 0, .int .i64 0] 25) = w3 at Hb3 Hq ⊢
    obtain ⟨q, hq⟩ : ∃ q, q = w2.heap.size := ⟨_, rfl⟩
    have Hzq := Lib.hid (show z < q ∧ b2 < q ∧ w.heap.size ≤ q ∧ B ≤ q ∧ 0 < q by
      have h1 := lt_of_block Hz.out
      have h2 := lt_of_block Hp.out
      have h3 := Hb.out.size
      have h4 := Hg.out.lt
      have h5 := HBw.out
      rw [hq]
      exact ⟨h1, h2, h3, h5, h4⟩)
    replace Hh := Lib.hid (blk8 Hh.out Hb3.out)
    replace Hp := Lib.hid (blk8 Hp.out Hb3.out)
    replace Hz := Lib.hid (blk8 Hz.out Hb3.out)
    replace Hr := Lib.hid (Hr.out.below (Hb3.out.mono HBw.out))
    replace Hd := Lib.hid (Hd.out.below (Hb3.out.mono HBw.out))
    replace HD := Lib.hid (HD.out.below (Hb3.out.mono HBw.out))
    replace HBw := Lib.hid (Nat.le_trans HBw.out Hb3.out.size)
    replace Hg := Lib.hid (Hg.out.below Hb3.out Hg.out.lt)
    replace Hb := Lib.hid (Hb.out.trans (Hb3.out.mono Hb.out.size))
    rw [← hq] at Hq ⊢
    clear hq Hb3
    go_cut [] (fun wx => ∃ Ad1 nd1 cd1 Ak1 nk1 ck1 vs M, Hid (wx.heap[q]? = some (.cells #[.slice Ad1 nd1 cd1, .slice Ak1 nk1 ck1, .int .i64 O.seq] 25 (0, 0))) ∧ Hid (Parts wx q M O Ad1 nd1 cd1 Ak1 nk1 ck1 vs) ∧ Hid (Below q w3 wx) ∧ Hid (q < wx.heap.size))
    case first =>
      obtain ⟨c0, c1, c2⟩ := objs_of Hh.out
      have hql := lt_of_block Hq.out
      cases t
      · obtain rfl : O = oj0 := HO.out
        go_wp2_with fail
        go_meet
        exact ⟨none, 0, 0, none, 0, 0, [], q, Hq.out, parts0 _ _, Below.refl _ _, hql⟩
      · obtain rfl : O = ⟨d, ks, s⟩ := HO.out
        have HC := Lib.hid (kCloneO Ad nd cd Ak nk ck s d ks B w3 Hd.out (by omega) Hr.out HBw.out (by omega) (fun x hx => by have := (m3 x hx).2; omega))
        go_wp2_with fail
        refine HC.out.mono ?_
        rintro e w4 ⟨Ad1, cd1, Ak1, ck1, vs, M, rfl, HP, hb⟩
        have Hq4 := Lib.hid (blk8 Hq.out hb.out)
        have hsz := hb.out.size
        clear HC
        obtain ⟨z0, z1, z2⟩ := objs_of Hq4.out
        have y0 := free_blk Hq4.out 0
        have y1 := free_blk Hq4.out 1
        have y2 := free_blk Hq4.out 2
        go_wp2_with fail
        go_meet
        exact ⟨Ad1, nd, cd1, Ak1, nk, ck1, vs, M, put3_at Hq4.out _ _ _, (HP.out.low (Nat.le_of_lt hql)).put Hq4.out _ _ _, put3_below (hb.out.mono (Nat.le_of_lt hql)) (Nat.le_refl _) _ _ _, by show q < (put3 w4 q _ _ _).heap.size; rw [put3_size]; omega⟩
    case rest =>
      obtain ⟨Ad1, nd1, cd1, Ak1, nk1, ck1, vs, M, Hq2, HP, hb, hql⟩ := hcut
      have Hb4 := Lib.hid ((Below.refl wc.heap.size wc).alloc (Nat.le_refl _) (.cells #[.int .i64 0] 28))
      have Hpe := Lib.hid (heap_alloc_new wc (.cells #[.int .i64 0] 28))
      go_upto_region 8 with fail
      generalize wc.alloc (.cells #[.int .i64 0] 28) = w5 at Hb4 Hpe ⊢
      obtain ⟨p, hpp⟩ : ∃ p, p = wc.heap.size := ⟨_, rfl⟩
      rw [← hpp] at Hpe ⊢
      have Hb5 := Lib.hid (hb.out.trans (Hb4.out.mono (Nat.le_of_lt hql.out)))
      have Hpq := Lib.hid (show q < p by rw [hpp]; exact hql.out)
      replace Hp := Lib.hid ((Hb5.out.block b2 Hzq.out.2.1).trans Hp.out)
      replace Hz := Lib.hid ((Hb5.out.block z Hzq.out.1).trans Hz.out)
      replace HD := Lib.hid (HD.out.below (Hb5.out.mono Hzq.out.2.2.2.1))
      replace Hg := Lib.hid (Hg.out.below Hb5.out Hzq.out.2.2.2.2)
      replace Hb := Lib.hid (Hb.out.trans (Hb5.out.mono Hzq.out.2.2.1))
      have Hq5 := Lib.hid (blk8 Hq2.out Hb4.out)
      have HP5 := Lib.hid (HP.out.to Hb4.out)
      have HA := Lib.hid (kApplyR q O t k f n X Ap np cp D q M Ad1 Ak1 nd1 cd1 nk1 ck1 vs w5 (Nat.le_refl _) (Nat.le_trans (Nat.le_of_lt hql.out) Hb4.out.size) Hq5.out HP5.out HmO.out hf (HD.out.more Hzq.out.2.2.2.1) hnp hcp hX)
      clear hpp Hb4 hb Hq2 HP Hh Hr Hd HBw hql Hq Hb5
      have p0 := (PAt.of Hp.out).c0
      have p1 := (PAt.of Hp.out).c1
      have p2 := (PAt.of Hp.out).c2
      have p3 := (PAt.of Hp.out).c3
      have p4 := (PAt.of Hp.out).c4
      go_wp2_with fail
      refine HA.out.mono ?_
      rintro e w6 ⟨ok, code, rfl, HF, hR⟩
      clear HA p0 p1 p2 p3 p4 HP5 Hq5
      replace Hp := Lib.hid ((HF.out.1.block b2 Hzq.out.2.1).trans Hp.out)
      replace Hz := Lib.hid ((HF.out.1.block z Hzq.out.1).trans Hz.out)
      replace Hg := Lib.hid (Hg.out.below HF.out.1 Hzq.out.2.2.2.2)
      replace Hb := Lib.hid (Hb.out.trans (HF.out.1.mono Hzq.out.2.2.1))
      replace Hpe := Lib.hid (HF.out.2 p _ Hpe.out)
      clear HF HD
      obtain ⟨u, hu⟩ : ∃ u, u = failV ok code := ⟨_, rfl⟩
      rw [← hu]
      rcases hR with ⟨rfl, k1, k2, h0, hE⟩ | ⟨rfl, hc0, hcode⟩
      · obtain rfl : u = .nilIface := hu
        obtain ⟨O', hO'⟩ : ∃ O', O' = if k = 13 then oj0 else (stepO O t ⟨k, f, n, X, D⟩).1 := ⟨_, rfl⟩
        have He := Lib.hid (show r = (O', existsB t k, !decide (k = 4) || decide (O'.seq < n), 0) by
          rw [HR.out, hO', HO.out]
          exact do_yes ⟨d, ks, s⟩ t ⟨k, f, n, X, D⟩ Hm.out k1 k2 (by rw [← HO.out]; exact h0))
        replace hE := Lib.hid (show ObE w6 q O' by rw [hO']; exact hE.out)
        clear hO' h0 HR HO Hm HmO Hg
        obtain ⟨A1, n1, c1, A2, n2, c2, hq6, hat⟩ := hE.out.at
        generalize hsq : O'.seq = sq at hq6 hat He
        go_wp2_with fail
        refine (as_nil _ _).mono ?_
        rintro e w7 ⟨rfl, hw⟩
        obtain rfl := hw.symm
        clear hw hE
        go_upto_region 11 with fail
        have Hq8 : Hid (w6.drew.heap[q]? = some (.cells #[.slice A1 n1 c1, .slice A2 n2 c2, .int .i64 sq] 25 (0, 0))) := hq6
        have Hp8 : Hid (w6.drew.heap[b2]? = some (.cells #[.int .i64 k, .int .i64 f, .int .i64 n, .string ⟨X.toArray⟩, .slice Ap np cp] 38 (0, 0))) := Hp.out
        have Hz8 : Hid (w6.drew.heap[z]? = some (.cells #[.slice none 0 0, .slice none 0 0, .int .i64 0] 25 (0, 0))) := Hz.out
        have Hat8 : Hid (OjC w6.drew O' (oV A1 n1 c1 A2 n2 c2 sq)) := hat
        have Hb8 : Hid (Below w.heap.size w w6.drew) := below_drewN Hb.out 1
        refine wp_region_held_drew (S := fun W => W.heap[q]? = some (.cells #[.slice A1 n1 c1, .slice A2 n2 c2, .int .i64 sq] 25 (0, 0)) ∧ W.heap[b2]? = some (.cells #[.int .i64 k, .int .i64 f, .int .i64 n, .string ⟨X.toArray⟩, .slice Ap np cp] 38 (0, 0))) (by kernel_rfl) ⟨Hq8.out, Hp8.out⟩ (fun hS => ?_)
        clear hq6 hat Hp Hz Hb
        generalize w6.drew = w8 at Hq8 Hp8 Hz8 Hat8 Hb8 hS ⊢
        refine wpAnyH_take (i := 0) (v := ?u0) rfl (by kernel_rfl) (by kernel_rfl) (by kernel_rfl) (fun _ _ _ h => h) (Or.inl ⟨by rfl, ?y0⟩) hS ?r0
        case y0 => (intro wy hSy; obtain ⟨g0, g1, g2⟩ := objs_of hSy.1; go_simp; try with_reducible rfl)
        simp only [Act.put]
        refine wpAnyH_take (i := 1) (v := ?u1) rfl (by kernel_rfl) (by kernel_rfl) (by kernel_rfl) (fun _ _ _ h => h) (Or.inl ⟨by rfl, ?y1⟩) hS ?r1
        case y1 => (intro wy hSy; go_simp; try with_reducible rfl)
        simp only [Act.put]
        refine wpAnyH_take (i := 2) (v := ?u2) rfl (by kernel_rfl) (by kernel_rfl) (by kernel_rfl) (fun _ _ _ h => h) (Or.inl ⟨by rfl, ?y2⟩) hS ?r2
        case y2 => (intro wy hSy; go_simp; try with_reducible rfl)
        simp only [Act.put]
        refine wpAnyH_take (i := 3) (v := ?u3) rfl (by kernel_rfl) (by kernel_rfl) (by kernel_rfl) (fun _ _ _ h => h) (Or.inl ⟨by rfl, ?y3⟩) hS ?r3
        case y3 => (intro wy hSy; have g0 := (PAt.of hSy.2).c0; go_simp; try with_reducible rfl)
        simp only [Act.put]
        refine wpAnyH_take (i := 5) (v := ?u5) rfl (by kernel_rfl) (by kernel_rfl) (by kernel_rfl) (fun _ _ _ h => h) (Or.inl ⟨by rfl, ?y5⟩) hS ?r5
        case y5 => (intro wy hSy; obtain ⟨g0, g1, g2⟩ := objs_of hSy.1; go_simp; try with_reducible rfl)
        simp only [Act.put]
        refine wpAnyH_take (i := 6) (v := ?u6) rfl (by kernel_rfl) (by kernel_rfl) (by kernel_rfl) (fun _ _ _ h => h) (Or.inl ⟨by rfl, ?y6⟩) hS ?r6
        case y6 => (intro wy hSy; have g0 := (PAt.of hSy.2).c0; have g1 := (PAt.of hSy.2).c1; have g2 := (PAt.of hSy.2).c2; have g3 := (PAt.of hSy.2).c3; have g4 := (PAt.of hSy.2).c4; go_simp; try with_reducible rfl)
        simp only [Act.put]
        refine wpAnyH_ready (rs := [4]) (by kernel_rfl) (by simp) ?_
        refine AllReadyH.cons rfl (fun K hK => ?_) AllReadyH.nil
        go_simp
        go_wp2_with (go_at_call 39; refine (kExists t k _).mono ?_; rintro e w9 ⟨rfl, hw⟩; obtain rfl := hw.symm)
        refine hK.out _ _ ?_ (fun hS => ?_)
        · exact ⟨Hq8.out, Hp8.out⟩
        clear hK K
        refine wpAnyH_ready (rs := [7]) (by kernel_rfl) (by simp) ?_
        refine AllReadyH.cons rfl (fun K hK => ?_) AllReadyH.nil
        go_simp
        go_wp2_with (go_at_call 40; refine (kGoes _ _ _ _ _ _ _ _ _).mono ?_; rintro e w9 ⟨rfl, hb9⟩)
        have Hq9 := Lib.hid (blk8 Hq8.out hb9)
        have Hp9 := Lib.hid (blk8 Hp8.out hb9)
        have Hz9 := Lib.hid (blk8 Hz8.out hb9)
        have Hat9 := Lib.hid (Hat8.out.to hb9)
        have Hb9 := Lib.hid (Hb8.out.trans (hb9.mono Hb8.out.size))
        refine hK.out _ _ ?_ (fun hS => ?_)
        · exact ⟨Hq9.out, Hp9.out⟩
        clear hK K Hq8 Hp8 Hz8 Hat8 Hb8 hb9
        obtain ⟨z0, z1, z2⟩ := objs_of Hz9.out
        have f0 := free_blk Hz9.out 0
        have f1 := free_blk Hz9.out 1
        have f2 := free_blk Hz9.out 2
        refine wpAnyH_ready (rs := [8]) (by kernel_rfl) (by simp) ?_
        refine AllReadyH.cons rfl (fun K hK => ?_) AllReadyH.nil
        go_simp
        refine hK.out _ _ ?_ (fun hS => ?_)
        · exact ⟨(put3_block (Nat.ne_of_gt Hzq.out.1) _ _ _).trans Hq9.out, (put3_block Hbz.out.2.2 _ _ _).trans Hp9.out⟩
        clear hK K
        refine wpAnyH_take (i := 9) (v := ?u9) rfl (by kernel_rfl) (by kernel_rfl) (by kernel_rfl) (fun _ _ _ h => h) (Or.inl ⟨by rfl, ?y9⟩) hS ?r9
        case y9 => (intro wy hSy; go_simp; try with_reducible rfl)
        go_simp
        refine wpAnyH_take (i := 10) (v := ?u10) rfl (by kernel_rfl) (by kernel_rfl) (by kernel_rfl) (fun _ _ _ h => h) (Or.inl ⟨by rfl, ?y10⟩) hS ?r10
        case y10 => (intro wy hSy; go_simp; try with_reducible rfl)
        go_simp
        refine wpAnyH_take (i := 11) (v := ?u11) rfl (by kernel_rfl) (by kernel_rfl) (by kernel_rfl) (fun _ _ _ h => h) (Or.inl ⟨by rfl, ?y11⟩) hS ?r11
        case y11 => (intro wy hSy; go_simp; try with_reducible rfl)
        go_simp
        refine wpAnyH_done (by kernel_rfl) ?_ _
        have P10 := Lib.hid (put3_at Hz9.out (.slice A1 n1 c1) (.slice A2 n2 c2) (.int .i64 sq))
        have B10 := Lib.hid (put3_below Hb9.out Hbz.out.1 (.slice A1 n1 c1) (.slice A2 n2 c2) (.int .i64 sq) (z := z))
        have O10 := Lib.hid (Hat9.out.putZ Hz9.out (.slice A1 n1 c1) (.slice A2 n2 c2) (.int .i64 sq))
        go_wp2_with fail
        clear z0 z1 z2 f0 f1 f2
        change bodyPost _ _ _ _ _ (put3 w9 z (.slice A1 n1 c1) (.slice A2 n2 c2) (.int .i64 sq))
        generalize put3 w9 z (.slice A1 n1 c1) (.slice A2 n2 c2) (.int .i64 sq) = w10 at P10 B10 O10 ⊢
        obtain ⟨z0, z1, z2⟩ := objs_of P10.out
        exact bodyPost_ret (v := .tuple #[oV A1 n1 c1 A2 n2 c2 sq, .bool (existsB t k), .bool (!decide (k = 4) || decide (sq < n)), .int .i64 0]) (by simp [results, Tryd.results22, go_sem, z0, z1, z2]) rfl ⟨oV A1 n1 c1 A2 n2 c2 sq, by rw [He.out], by rw [He.out]; exact O10.out, B10.out⟩
      · obtain rfl : u = .iface 82 (.agg #[.iface 28 (.int .i64 code)]) := hu
        have He := Lib.hid (show r = (oj0, false, false, code) by
          rw [HR.out]
          refine do_no ⟨d, ks, s⟩ t ⟨k, f, n, X, D⟩ Hm.out code hc0 ?_
          rw [← HO.out]
          exact hcode)
        have HS := Lib.hid (as_failQ code p 0 w6 Hg.out Hpe.out)
        have Hlp := Lib.hid (lt_of_block Hz.out)
        clear HR HO Hm HmO hc0 hcode Hg Hpe Hp
        go_wp2_with fail
        refine HS.out.mono ?_
        rintro e w7 ⟨rfl, hp7, hb7, hk7⟩
        clear HS
        have Hp8 : Hid (w7.drew.heap[p]? = some (.cells #[.int .i64 code] 28 (0, 0))) := hp7
        have Hz8 : Hid (w7.drew.heap[z]? = some (.cells #[.slice none 0 0, .slice none 0 0, .int .i64 0] 25 (0, 0))) := (hk7 z Hlp.out (by have := Hzq.out.1; have := Hpq.out; omega)).trans Hz.out
        have Hb8 : Hid (Below w.heap.size w w7.drew) := below_drewN (Hb.out.trans (hb7.mono (by have := Hzq.out.2.2.1; have := Hpq.out; omega))) 1
        clear hp7 hb7 hk7 Hz Hb Hlp
        go_upto_region 10 with fail
        refine wp_region_held_drew (S := fun W => W.heap[p]? = some (.cells #[.int .i64 code] 28 (0, 0))) (by kernel_rfl) Hp8.out (fun hS => ?_)
        generalize w7.drew = w8 at Hp8 Hz8 Hb8 hS ⊢
        have P10 := Lib.hid (put3_at Hz8.out (.slice none 0 0) (.slice none 0 0) (.int .i64 0))
        have B10 := Lib.hid (put3_below Hb8.out Hbz.out.1 (.slice none 0 0) (.slice none 0 0) (.int .i64 0) (z := z))
        obtain ⟨z0, z1, z2⟩ := objs_of Hz8.out
        have f0 := free_blk Hz8.out 0
        have f1 := free_blk Hz8.out 1
        have f2 := free_blk Hz8.out 2
        refine wpAnyH_take (i := 0) (v := ?a0) rfl (by kernel_rfl) (by kernel_rfl) (by kernel_rfl) (fun _ _ _ h => h) (Or.inl ⟨by rfl, ?b0⟩) hS ?s0
        case b0 => (intro wy hSy; go_simp; try with_reducible rfl)
        simp only [Act.put]
        refine wpAnyH_take (i := 1) (v := ?a1) rfl (by kernel_rfl) (by kernel_rfl) (by kernel_rfl) (fun _ _ _ h => h) (Or.inl ⟨by rfl, ?b1⟩) hS ?s1
        case b1 => (intro wy hSy; have g0 : wy.cell? ⟨p, 0, none⟩ = some (.int .i64 code) := (by rw [cell_blk hSy]; rfl); go_simp; try with_reducible rfl)
        simp only [Act.put]
        refine wpAnyH_ready (rs := [2]) (by kernel_rfl) (by simp) ?_
        refine AllReadyH.cons rfl (fun K hK => ?_) AllReadyH.nil
        go_simp
        refine hK.out _ _ ?_ (fun hS => ?_)
        · exact (put3_block (show p ≠ z by have := Hzq.out.1; have := Hpq.out; omega) _ _ _).trans Hp8.out
        clear hK K
        refine wpAnyH_take (i := 3) (v := ?a3) rfl (by kernel_rfl) (by kernel_rfl) (by kernel_rfl) (fun _ _ _ h => h) (Or.inl ⟨by rfl, ?b3⟩) hS ?s3
        case b3 => (intro wy hSy; go_simp; try with_reducible rfl)
        go_simp
        refine wpAnyH_take (i := 4) (v := ?a4) rfl (by kernel_rfl) (by kernel_rfl) (by kernel_rfl) (fun _ _ _ h => h) (Or.inl ⟨by rfl, ?b4⟩) hS ?s4
        case b4 => (intro wy hSy; go_simp; try with_reducible rfl)
        go_simp
        refine wpAnyH_take (i := 5) (v := ?a5) rfl (by kernel_rfl) (by kernel_rfl) (by kernel_rfl) (fun _ _ _ h => h) (Or.inl ⟨by rfl, ?b5⟩) hS ?s5
        case b5 => (intro wy hSy; go_simp; try with_reducible rfl)
        go_simp
        refine wpAnyH_done (by kernel_rfl) ?_ _
        go_wp2_with fail
        clear z0 z1 z2 f0 f1 f2
        change bodyPost _ _ _ _ _ (put3 w8 z (.slice none 0 0) (.slice none 0 0) (.int .i64 0))
        generalize put3 w8 z (.slice none 0 0) (.slice none 0 0) (.int .i64 0) = w9 at P10 B10 ⊢
        obtain ⟨z0, z1, z2⟩ := objs_of P10.out
        exact bodyPost_ret (v := .tuple #[oV0, .bool false, .bool false, .int .i64 code]) (by simp [results, Tryd.results22, go_sem, z0, z1, z2]) rfl ⟨oV0, by rw [He.out], by rw [He.out]; exact OjC.zero _, B10.out⟩
end Go.Proofs.YtmigapjkicddiaaDoor
