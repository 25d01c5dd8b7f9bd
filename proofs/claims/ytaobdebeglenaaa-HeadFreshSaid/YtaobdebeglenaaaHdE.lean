/- Slices of snapshots of a call's own: append to them, read out of them. -/
import Derived.Test.YtaobdebeglenaaaHdB
namespace Go.Proofs.Ytaobdebeglenaaa
open Go.RowKit

/-- a snapshot and where its map lies -/
structure Sv where
  s : Sn
  A : Option Addr
  n : Nat
  c : Nat
def svC (p : Sv) : List Value := [.int .i64 p.s.id, .int .i64 p.s.size, .slice p.A p.n p.c]
def flatN (vs : List Sv) : List Value := vs.flatMap svC
theorem flatN_len (vs : List Sv) : (flatN vs).length = vs.length * 3 := by
  induction vs with
  | nil => rfl
  | cons p ps ih => simp [flatN, svC] at ih ⊢; omega
theorem flatN_app (vs us : List Sv) : flatN (vs ++ us) = flatN vs ++ flatN us := by simp [flatN]
theorem flatN_one (vs : List Sv) : ∀ u ∈ flatN vs, u.oneCell' = true := by
  intro u hu
  obtain ⟨p, _, hp⟩ := List.mem_flatMap.1 hu
  simp [svC] at hp
  rcases hp with rfl | rfl | rfl <;> rfl
theorem flatN_get : ∀ (vs : List Sv) (i j : Nat) (hi : i < vs.length), j < 3 → (flatN vs)[i * 3 + j]? = (svC vs[i])[j]?
  | p :: ps, 0, j, _, hj => by
    rw [show flatN (p :: ps) = svC p ++ flatN ps from rfl, Nat.zero_mul, Nat.zero_add, List.getElem?_append_left (by simp [svC]; omega)]
    rfl
  | p :: ps, i + 1, j, hi, hj => by
    rw [show flatN (p :: ps) = svC p ++ flatN ps from rfl, List.getElem?_append_right (by simp [svC]; omega), show (i + 1) * 3 + j - (svC p).length = i * 3 + j by simp [svC]; omega]
    exact flatN_get ps i j (by simpa using hi) hj
/-- a map lies in some memory -/
def SvAt (w : World) (p : Sv) : Prop := RdI w w.heap.size p.A p.n p.s.map ∧ p.n ≤ 9223372036854775807
theorem SvAt.to {w w' : World} {p : Sv} (h : SvAt w p) (hb : Below w.heap.size w w') : SvAt w' p := ⟨(h.1.below hb).more hb.size, h.2⟩
theorem RdN.own {w : World} {B n c : Nat} {A : Option Addr} {vs : List Sv} (h : w.ownsRow B 52 3 (.slice A n c) n (flatN vs)) (hn : vs.length = n) (hv : ∀ p ∈ vs, SvAt w p) : RdN w w.heap.size A n (vs.map Sv.s) := by
  refine ⟨by rw [List.length_map]; exact hn, fun i hi => ?_⟩
  have hi' : i < vs.length := by simpa using hi
  have h' := h
  rcases h'.2 with ⟨_, hz⟩ | ⟨g, cap, cur, he, _, hg, _⟩
  · omega
  · cases he
    obtain ⟨h1, h2⟩ := hv vs[i] (List.getElem_mem _)
    refine ⟨g, 0, (vs[i]).A, (vs[i]).n, (vs[i]).c, rfl, lt_of_block hg, ?_, ?_, ?_, ?_, h2⟩
    · rw [Nat.zero_add, h.cellAt (i * 3) (by omega)]; simpa [svC] using flatN_get vs i 0 hi' (by omega)
    · rw [Nat.zero_add, h.cellAt (i * 3 + 1) (by omega)]; simpa [svC] using flatN_get vs i 1 hi' (by omega)
    · rw [Nat.zero_add, h.cellAt (i * 3 + 2) (by omega)]; simpa [svC] using flatN_get vs i 2 hi' (by omega)
    · simpa using h1
/-- what is readable stands in cells -/
theorem RdN.vals {w : World} {A : Option Addr} {n : Nat} {ss : List Sn} (h : RdN w w.heap.size A n ss) :
    ∃ vs : List Sv, vs.map Sv.s = ss ∧ vs.length = n ∧ (∀ p ∈ vs, SvAt w p) ∧ (0 < n → ∃ ad, A = some ad ∧ ∀ j u, (flatN vs)[j]? = some u → w.cell? (ad.add j) = some u) := by
  have key : ∀ k, k ≤ n → ∃ vs : List Sv, vs.map Sv.s = ss.take k ∧ vs.length = k ∧ (∀ p ∈ vs, SvAt w p) ∧ ∀ i (hi : i < vs.length), ∃ g o, A = some ⟨g, o, none⟩ ∧ w.cell? ⟨g, o + i * 3, none⟩ = some (.int .i64 (vs[i]).s.id) ∧ w.cell? ⟨g, o + i * 3 + 1, none⟩ = some (.int .i64 (vs[i]).s.size) ∧ w.cell? ⟨g, o + i * 3 + 2, none⟩ = some (.slice (vs[i]).A (vs[i]).n (vs[i]).c) := by
    intro k
    induction k with
    | zero => exact fun _ => ⟨[], rfl, rfl, by simp, fun i hi => by simp at hi⟩
    | succ k ih =>
      intro hk
      obtain ⟨vs, e1, e2, e3, e4⟩ := ih (by omega)
      have hks : k < ss.length := by rw [h.1]; omega
      obtain ⟨g, o, Aj, nj, cj, f1, _, f3, f4, f5, f6, f7⟩ := h.2 k hks
      refine ⟨vs ++ [⟨ss[k], Aj, nj, cj⟩], ?_, by simp [e2], ?_, ?_⟩
      · rw [List.map_append, e1, List.take_succ_eq_append_getElem hks]; rfl
      · intro p hp
        rcases List.mem_append.1 hp with hp | hp
        · exact e3 p hp
        · simp at hp; subst hp; exact ⟨f6, f7⟩
      · intro i hi
        by_cases hik : i < vs.length
        · rw [List.getElem_append_left hik]; exact e4 i hik
        · have : i = vs.length := by simp at hi; omega
          subst this
          rw [List.getElem_append_right (Nat.le_refl _)]
          simp only [Nat.sub_self, List.getElem_cons_zero]
          rw [e2]
          exact ⟨g, o, f1, f3, f4, f5⟩
  obtain ⟨vs, e1, e2, e3, e4⟩ := key n (Nat.le_refl _)
  refine ⟨vs, by rw [e1, List.take_of_length_le (by rw [h.1]; exact Nat.le_refl _)], e2, e3, fun hn => ?_⟩
  obtain ⟨g, o, f1, _⟩ := e4 0 (by omega)
  refine ⟨_, f1, fun j u hu => ?_⟩
  have hj : j < vs.length * 3 := by rw [← flatN_len]; exact (List.getElem?_eq_some_iff.1 hu).1
  obtain ⟨i, r, hr, rfl⟩ : ∃ i r, r < 3 ∧ j = i * 3 + r := ⟨j / 3, j % 3, Nat.mod_lt _ (by omega), by omega⟩
  have hi : i < vs.length := by omega
  rw [flatN_get vs i r hi hr] at hu
  obtain ⟨g', o', q1, q2, q3, q4⟩ := e4 i hi
  obtain ⟨rfl, rfl⟩ : g' = g ∧ o' = o := by
    rw [f1] at q1
    simp at q1
    exact ⟨q1.1.symm, q1.2.symm⟩
  have hadd : ∀ k, (⟨g', o', none⟩ : Addr).add k = ⟨g', o' + k, none⟩ := fun k => by unfold Addr.add; split <;> simp_all
  rw [hadd]
  match r, hr, hu with
  | 0, _, hu => simp [svC] at hu; subst hu; exact q2
  | 1, _, hu => simp [svC] at hu; subst hu; rw [← Nat.add_assoc]; exact q3
  | 2, _, hu => simp [svC] at hu; subst hu; rw [← Nat.add_assoc]; exact q4
theorem run_append_noneK {P : Program} {w : World} {base k : Nat} {t ty e : TypeId} {i : TypeInfo} {v : Value} {n : Nat} {xs : List Value} (ht : P.underlying t = some (.slice e)) (hi : P.info? e = some i)
    (hown : w.ownsRow base e k v n xs) (c : Nat) : (Builtin.append_ #[t, t] ty #[v, .slice none 0 c]).run P w = .ok v w := by
  rcases hown.2 with ⟨rfl, _⟩ | ⟨g, cap, cur, rfl, _, _, hnc, _⟩
  · simp [Builtin.append_, run_underlying ht, sizeOf, typeInfo, hi, Builtin.lenOf, Builtin.firstCells]
  · simp [Builtin.append_, run_underlying ht, sizeOf, typeInfo, hi, Builtin.lenOf, Builtin.firstCells, hnc, storeCells]
/-- append onto a row of the call's own, of elements of k cells, of a slice (nil let in) that reads as 'news' -/
theorem wpList_append_rdK {P : Program} {w : World} {ops : Array Oper} {rest : List Oper} {o : Oper} {a : Act} {Q : Exit → Act → World → Prop} (hgd : o.guard = none) (s x : Operand) (t : TypeId)
    (ho : o.op = .call { callee := .builtin .append, args := #[s, x], argTypes := #[t, t] })
    (base : Nat) (e : TypeId) (i : TypeInfo) (z : Value) (k bytes : Nat) (ht : P.underlying t = some (.slice e)) (hi : P.info? e = some i) (hz : i.zero = some z)
    (hsize : i.size = k) (hby : i.bytes = bytes) (hzs : z.cells.size = k) (hk : 0 < k)
    (v : Value) (n : Nat) (xs : List Value) (hs : a.eval s = v) (hown : w.ownsRow base e k v n xs)
    (A : Option Addr) (m c : Nat) (news : List Value) (hx : a.eval x = .slice A m c) (hl : news.length = m * k) (hrd : 0 < m → ∃ ad, A = some ad ∧ ∀ j u, news[j]? = some u → w.cell? (ad.add j) = some u) (h1 : ∀ u ∈ news, u.oneCell' = true)
    (h63 : n + m ≤ maxLen) (hbytes : (n + m) * bytes ≤ 140737488355328) (hbase : base ≤ w.heap.size)
    (h : ∀ v' w', w'.ownsRow base e k v' (n + m) (xs ++ news) → w.grownBy w' v.ownBlock → wpList P ops Q rest (a.put o.dst v') w') : wpList P ops Q (o :: rest) a w := by
  rcases A with _ | ad
  · have hm : m = 0 := by
      rcases Nat.eq_zero_or_pos m with h0 | h0
      · exact h0
      · obtain ⟨ad, hc, _⟩ := hrd h0
        cases hc
    subst hm
    obtain rfl : news = [] := List.eq_nil_of_length_eq_zero (by simpa using hl)
    refine wpList_plain hgd fun K hK => ?_
    have hrun := run_append_noneK (P := P) (ty := o.type) ht hi hown c
    unfold Oper.wp
    simp [execOp, ho, resolve, invoke, builtin, hs, hx, hrun, Result.andThen]
    exact hK _ _ (h v w (by simpa using hown) (World.grownBy.refl w _))
  · refine wpList_append_own w hgd s x t ho base e i z k bytes ht hi hz hsize hby hzs hk v n xs hs hown ad m c news hx hl (fun j u hu => ?_) h1 h63 hbytes hbase (fun v' w' h2 h3 _ => h v' w' h2 h3)
    have hj : j < m * k := by rw [← hl]; exact (List.getElem?_eq_some_iff.1 hu).1
    have hm : 0 < m := Nat.pos_of_ne_zero fun h0 => by subst h0; simp at hj
    obtain ⟨ad', hc, hcell⟩ := hrd hm
    cases hc
    exact hcell j u hu
theorem Try.infoN : (Try.prog.info? 52).map (fun i => (i.zero, i.size, i.bytes)) = some (some (.agg #[.int .i64 0, .int .i64 0, .slice none 0 0]), 3, 40) := by kernel_rfl
theorem three_at (w : World) (x y : Int) (m : Value) (t : TypeId) (b : Nat) (hb : b = w.heap.size) : ∀ j u, ([.int .i64 x, .int .i64 y, m] : List Value)[j]? = some u → (w.alloc (.cells #[.int .i64 x, .int .i64 y, m] t)).cell? ((⟨b, 0, none⟩ : Addr).add j) = some u := by
  subst hb
  intro j u hu
  have hadd : (⟨w.heap.size, 0, none⟩ : Addr).add j = ⟨w.heap.size, j, none⟩ := by unfold Addr.add; split <;> simp_all
  rw [hadd, cell_blk (heap_alloc_new w _), List.getElem?_toArray]
  exact hu
theorem three_one (x y : Int) (A : Option Addr) (n c : Nat) : ∀ u ∈ ([.int .i64 x, .int .i64 y, .slice A n c] : List Value), u.oneCell' = true := by
  intro u hu
  simp at hu
  rcases hu with rfl | rfl | rfl <;> rfl
end Go.Proofs.Ytaobdebeglenaaa
