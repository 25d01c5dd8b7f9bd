/- Package head: slices.Clone at numbers and at snapshots; clone. Package head: clone. Package head: Snap. -/
import Derived.Test.YtaobdebeglenaaaMg
import Derived.Lib.SliceRun

namespace Go.Proofs.Ytaobdebeglenaaa
open Go.RowKit

set_option maxRecDepth 10000 in
set_option maxHeartbeats 400000 in
theorem cloneI (A : Option Addr) (n c : Nat) (l : List Int) (w : World) (hr : RdI w w.heap.size A n l) (hn : n ≤ 3000) :
    Calls Try.prog 92 #[.slice A n c] w fun e w' => ∃ A' c', e = .returned (.slice A' n c') ∧ Hid (MapAt w' w.heap.size A' n l) ∧ Hid (Below w.heap.size w w') := by
  obtain ⟨i, hi, hz0, hz1, hz2⟩ := info_parts Try.infoI
  rcases A with _ | ad
  · have h0 : n = 0 := by
      rcases Nat.eq_zero_or_pos n with h | h
      · exact h
      · obtain ⟨_, hc, _⟩ := hr.2 h
        cases hc
    subst h0
    obtain rfl : l = [] := List.eq_nil_of_length_eq_zero hr.1
    have heq := Lib.run_eql_slice_nil (P := Try.prog) w 24 3 none 0 c 0 0 Try.underlying24
    go_enter Try.func92, Try.ntmps92
    go_wp2
    go_ret
    exact ⟨none, 0, rfl, ⟨RdI.nil, by omega, NewA.nil _ _ _ _⟩, Below.refl _ _⟩
  · have heq := Lib.run_eql_slice_nil (P := Try.prog) w 24 3 (some ad) n c 0 0 Try.underlying24
    have hown : (w.alloc (.cells #[] 3)).ownsRow w.heap.size 3 1 (.slice (some ⟨w.heap.size, 0, none⟩) 0 0) 0 (([] : List Int).map (Value.int .i64)) := World.ownsRow_lit (base := w.heap.size) (e := 3) (size := 1) w #[] 0 (Nat.le_refl _) (by simp only [maxLen]; omega) rfl
    have Hown := Lib.hid hown
    have Hr := Lib.hid hr
    have Hl := Lib.hid (show (l.map (Value.int .i64)).length = n * 1 by rw [List.length_map, hr.1]; omega)
    clear hown hr
    go_enter Try.func92, Try.ntmps92
    go_wp2_with (at_builtin; refine wpList_append_rd rfl (.tmp 5) (.tmp 6) 24 rfl w.heap.size 3 i (.int .i64 0) 8 Try.underlying24 hi hz0 hz1 hz2 rfl _ 0 _ rfl Hown.out (some ad) n c (l.map (Value.int .i64)) rfl (by have := Hl.out; omega) (Hr.out.below ((Below.refl w.heap.size w).alloc (Nat.le_refl _) _)).src (int_one _) (by simp only [maxLen]; omega) (by omega) (by simp) ?_; intro v3 w3 hown3 hg3; rw [Nat.zero_add, List.map_nil, List.nil_append] at hown3; obtain ⟨A3, c3, rfl, _, _⟩ := ownI hown3; have Hb3 := Lib.hid (((Below.refl _ w).alloc (Nat.le_refl _) (.cells #[] 3)).grown hg3 (by simp) (fun q hq => (Hown.out.lt q hq).1)); have Hown3 := Lib.hid hown3; clear hown3 hg3)
    go_ret
    exact ⟨A3, c3, rfl, ⟨RdI.own Hown3.out, by omega, NewA.own Hown3.out⟩, Hb3⟩

/-- what is readable stands in cells, below B -/
theorem RdN.valsB {w : World} {B : Nat} {A : Option Addr} {n : Nat} {ss : List Sn} (h : RdN w B A n ss) :
    ∃ vs : List Sv, vs.map Sv.s = ss ∧ vs.length = n ∧ (∀ p ∈ vs, RdI w B p.A p.n p.s.map ∧ p.n ≤ 9223372036854775807) ∧ (0 < n → ∃ ad, A = some ad ∧ ∀ j u, (flatN vs)[j]? = some u → w.cell? (ad.add j) = some u) := by
  have key : ∀ k, k ≤ n → ∃ vs : List Sv, vs.map Sv.s = ss.take k ∧ vs.length = k ∧ (∀ p ∈ vs, RdI w B p.A p.n p.s.map ∧ p.n ≤ 9223372036854775807) ∧ ∀ i (hi : i < vs.length), ∃ g o, A = some ⟨g, o, none⟩ ∧ w.cell? ⟨g, o + i * 3, none⟩ = some (.int .i64 (vs[i]).s.id) ∧ w.cell? ⟨g, o + i * 3 + 1, none⟩ = some (.int .i64 (vs[i]).s.size) ∧ w.cell? ⟨g, o + i * 3 + 2, none⟩ = some (.slice (vs[i]).A (vs[i]).n (vs[i]).c) := by
    intro k
    induction k with
    | zero => exact fun _ => ⟨[], rfl, rfl, by simp, fun i hi => by simp at hi⟩
    | succ k ih =>
      intro hk
      obtain ⟨vs, e1, e2, e3, e4⟩ := ih (by omega)
      have hks : k < ss.length := by rw [h.1]; omega
      obtain ⟨g, o, Aj, nj, cj, f1, _, f3, f4, f5, f6, f7⟩ := h.2 k hks
      refine ⟨vs ++ [⟨ss[k], Aj, nj, cj⟩], ?_, by simp [e2], ?_, ?_⟩
      · rw [List.map_append, e1, List.take_succ_eq_append_getElem hks]; rfl
      · intro p hp
        rcases List.mem_append.1 hp with hp | hp
        · exact e3 p hp
        · simp at hp; subst hp; exact ⟨f6, f7⟩
      · intro i hi
        by_cases hik : i < vs.length
        · rw [List.getElem_append_left hik]; exact e4 i hik
        · have : i = vs.length := by simp at hi; omega
          subst this
          rw [List.getElem_append_right (Nat.le_refl _)]
          simp only [Nat.sub_self, List.getElem_cons_zero]
          rw [e2]
          exact ⟨g, o, f1, f3, f4, f5⟩
  obtain ⟨vs, e1, e2, e3, e4⟩ := key n (Nat.le_refl _)
  refine ⟨vs, by rw [e1, List.take_of_length_le (by rw [h.1]; exact Nat.le_refl _)], e2, e3, fun hn => ?_⟩
  obtain ⟨g, o, f1, _⟩ := e4 0 (by omega)
  refine ⟨_, f1, fun j u hu => ?_⟩
  have hj : j < vs.length * 3 := by rw [← flatN_len]; exact (List.getElem?_eq_some_iff.1 hu).1
  obtain ⟨i, r, hr, rfl⟩ : ∃ i r, r < 3 ∧ j = i * 3 + r := ⟨j / 3, j % 3, Nat.mod_lt _ (by omega), by omega⟩
  have hi : i < vs.length := by omega
  rw [flatN_get vs i r hi hr] at hu
  obtain ⟨g', o', q1, q2, q3, q4⟩ := e4 i hi
  obtain ⟨rfl, rfl⟩ : g' = g ∧ o' = o := by
    rw [f1] at q1
    simp at q1
    exact ⟨q1.1.symm, q1.2.symm⟩
  have hadd : ∀ k, (⟨g', o', none⟩ : Addr).add k = ⟨g', o' + k, none⟩ := fun k => by unfold Addr.add; split <;> simp_all
  rw [hadd]
  match r, hr, hu with
  | 0, _, hu => simp [svC] at hu; subst hu; exact q2
  | 1, _, hu => simp [svC] at hu; subst hu; rw [← Nat.add_assoc]; exact q3
  | 2, _, hu => simp [svC] at hu; subst hu; rw [← Nat.add_assoc]; exact q4
set_option maxRecDepth 10000 in
set_option maxHeartbeats 1000000 in
theorem cloneS (A : Option Addr) (n c B : Nat) (ss : List Sn) (w : World) (hr : RdN w B A n ss) (hn : n ≤ 12) :
    Calls Try.prog 93 #[.slice A n c] w fun e w' => ∃ A' c' vs, e = .returned (.slice A' n c') ∧ Hid (n ≤ c' ∧ c' ≤ 9223372036854775807) ∧ Hid (w'.ownsRow w.heap.size 52 3 (.slice A' n c') n (flatN vs)) ∧ Hid (vs.map Sv.s = ss ∧ vs.length = n ∧ ∀ p ∈ vs, RdI w B p.A p.n p.s.map) ∧ Hid (Below w.heap.size w w') := by
  obtain ⟨inf, hi, hz0, hz1, hz2⟩ := info_parts Try.infoN
  rcases A with _ | ad
  · have h0 : n = 0 := by
      rcases Nat.eq_zero_or_pos n with h | h
      · exact h
      · obtain ⟨_, _, _, _, _, hc, _⟩ := hr.2 0 (by rw [hr.1]; exact h)
        cases hc
    subst h0
    obtain rfl : ss = [] := List.eq_nil_of_length_eq_zero hr.1
    have heq := Lib.run_eql_slice_nil (P := Try.prog) w 25 52 none 0 c 0 0 Try.underlying25
    clear hr
    go_enter Try.func93, Try.ntmps93
    go_wp2
    go_ret
    exact ⟨none, 0, [], rfl, ⟨by omega, by omega⟩, World.ownsRow_nil _ _ _ _, ⟨rfl, rfl, fun p hp => by simp at hp⟩, Below.refl _ _⟩
  · have heq := Lib.run_eql_slice_nil (P := Try.prog) w 25 52 (some ad) n c 0 0 Try.underlying25
    have hown : (w.alloc (.cells #[] 52)).ownsRow w.heap.size 52 3 (.slice (some ⟨w.heap.size, 0, none⟩) 0 0) 0 [] := World.ownsRow_lit (base := w.heap.size) (e := 52) (size := 3) w #[] 0 (Nat.le_refl _) (by simp only [maxLen]; omega) rfl
    have Hown := Lib.hid hown
    obtain ⟨vs, hvs, hvl, hva, hvr⟩ := hr.valsB
    have Hvs := Lib.hid (And.intro hvs (And.intro hvl fun p hp => (hva p hp).1))
    have Hsrc := Lib.hid (show 0 < n → ∃ ad', some ad = some ad' ∧ ∀ j u, (flatN vs)[j]? = some u → (w.alloc (.cells #[] 52)).cell? (ad'.add j) = some u from fun h0 => by
      obtain ⟨ad', e1, e2⟩ := hvr h0
      refine ⟨ad', e1, fun j u hu => ?_⟩
      have h := e2 j u hu
      exact ((((Below.refl w.heap.size w).alloc (Nat.le_refl _) (.cells #[] 52))).cell (World.block_lt_of_cell? w _ h)).trans h)
    have Hfl := Lib.hid (show (flatN vs).length = n * 3 by rw [flatN_len, hvl])
    clear hown hr hvs hvl hva hvr
    go_enter Try.func93, Try.ntmps93
    go_wp2_with (at_builtin; refine wpList_append_rdK rfl (.tmp 5) (.tmp 6) 25 rfl w.heap.size 52 inf (.agg #[.int .i64 0, .int .i64 0, .slice none 0 0]) 3 40 Try.underlying25 hi hz0 hz1 hz2 rfl (by decide) _ 0 [] rfl Hown.out (some ad) n c (flatN vs) rfl Hfl.out Hsrc.out (flatN_one _) (by simp only [maxLen]; omega) (by omega) (by simp) ?_; intro v3 w3 hown3 hg3; rw [Nat.zero_add, List.nil_append] at hown3; obtain ⟨A3, c3, rfl, k1, k2⟩ := ownF hown3; have Hb3 := Lib.hid (((Below.refl _ w).alloc (Nat.le_refl _) (.cells #[] 52)).grown hg3 (by simp) (fun q hq => (Hown.out.lt q hq).1)); have Hown3 := Lib.hid hown3; have K := Lib.hid (And.intro k1 k2); clear hown3 hg3 k1 k2)
    go_ret
    exact ⟨A3, c3, vs, rfl, ⟨K.out.1, by have := K.out.2; simpa [maxLen] using this⟩, Hown3, Hvs, Hb3⟩
end Go.Proofs.Ytaobdebeglenaaa

namespace Go.Proofs.Ytaobdebeglenaaa
open Go.RowKit

theorem own_less {w : World} {B B' n s : Nat} {e : TypeId} {v : Value} {xs : List Value} (h : w.ownsRow B e s v n xs) (hB : B' ≤ B) : w.ownsRow B' e s v n xs := by
  refine ⟨h.1, ?_⟩
  rcases h.2 with h | ⟨g, cap, cur, h1, h2, h3, h4⟩
  · exact .inl h
  · exact .inr ⟨g, cap, cur, h1, Nat.le_trans hB h2, h3, h4⟩
theorem MapAt.less {w : World} {L L' n : Nat} {A : Option Addr} {m : List Int} (h : MapAt w L A n m) (hl : L' ≤ L) : MapAt w L' A n m := ⟨h.1, h.2.1, h.2.2.less hl⟩
set_option maxRecDepth 10000 in
/-- one element of a row of snapshots -/
theorem own_at {w : World} {B g n c j : Nat} {us vr : List Sv} {p : Sv} (h : w.ownsRow B 52 3 (.slice (some ⟨g, 0, none⟩) n c) n (flatN (us ++ p :: vr))) (hl : us.length = j) (hj : j < n) :
    w.cell? ⟨g, j * 3, none⟩ = some (.int .i64 p.s.id) ∧ w.cell? ⟨g, j * 3 + 1, none⟩ = some (.int .i64 p.s.size) ∧ w.cell? ⟨g, j * 3 + 2, none⟩ = some (.slice p.A p.n p.c) ∧ w.frozen? ⟨g, j * 3 + 2, none⟩ = false := by
  have hi : j < (us ++ p :: vr).length := by simp; omega
  have hp : (us ++ p :: vr)[j] = p := by subst hl; simp
  refine ⟨?_, ?_, ?_, World.ownsRow.frozenAt h _⟩
  · rw [h.cellAt (j * 3) (by omega)]; have := flatN_get (us ++ p :: vr) j 0 hi (by omega); rw [hp] at this; simpa [svC] using this
  · rw [h.cellAt (j * 3 + 1) (by omega)]; have := flatN_get (us ++ p :: vr) j 1 hi (by omega); rw [hp] at this; simpa [svC] using this
  · rw [h.cellAt (j * 3 + 2) (by omega)]; have := flatN_get (us ++ p :: vr) j 2 hi (by omega); rw [hp] at this; simpa [svC] using this
set_option maxRecDepth 10000 in
/-- .. is given another map -/
theorem own_put {w : World} {B g n c j : Nat} {us vr : List Sv} {p : Sv} (h : w.ownsRow B 52 3 (.slice (some ⟨g, 0, none⟩) n c) n (flatN (us ++ p :: vr))) (hl : us.length = j) (A' : Option Addr) (n' c' : Nat) (m : List Int) :
    (w.setCell ⟨g, j * 3 + 2, none⟩ (.slice A' n' c')).ownsRow B 52 3 (.slice (some ⟨g, 0, none⟩) n c) n (flatN (us ++ ⟨{ p.s with map := m }, A', n', c'⟩ :: vr)) ∧ w.grownBy (w.setCell ⟨g, j * 3 + 2, none⟩ (.slice A' n' c')) (some g) := by
  obtain ⟨h1, h2⟩ := World.ownsRow.stored h (j * 3 + 2) (.slice A' n' c')
  refine ⟨?_, h2⟩
  rw [← hl, flatN_set us vr p A' n' c' m, hl] at h1
  exact h1
/-- what a region with a copy and a store wants -/
theorem keepG {p1 p2 p3 : Addr} {v1 v2 v3 : Value} {W0 W w1 : World} (h : W.cell? p1 = some v1 ∧ W.cell? p2 = some v2 ∧ W.cell? p3 = some v3 ∧ W.frozen? p3 = false ∧ Hid (Below W0.heap.size W0 W)) (hb : Hid (Below W.heap.size W w1)) :
    w1.cell? p1 = some v1 ∧ w1.cell? p2 = some v2 ∧ w1.cell? p3 = some v3 ∧ w1.frozen? p3 = false ∧ Hid (Below W0.heap.size W0 w1) := by
  obtain ⟨h1, h2, h3, h4, h5⟩ := h
  exact ⟨(hb.out.cell (World.block_lt_of_cell? W _ h1)).trans h1, (hb.out.cell (World.block_lt_of_cell? W _ h2)).trans h2, (hb.out.cell (World.block_lt_of_cell? W _ h3)).trans h3, (hb.out.frozen (World.block_lt_of_cell? W _ h3)).trans h4, belO6 h5 hb⟩
theorem lastG {p1 p2 p3 : Addr} {v1 v2 v3 : Value} {W0 W : World} (h : W.cell? p1 = some v1 ∧ W.cell? p2 = some v2 ∧ W.cell? p3 = some v3 ∧ W.frozen? p3 = false ∧ Hid (Below W0.heap.size W0 W)) : Hid (Below W0.heap.size W0 W) := h.2.2.2.2
theorem startG {p1 p2 p3 : Addr} {v1 v2 v3 : Value} {W : World} (h : Hid (W.cell? p1 = some v1 ∧ W.cell? p2 = some v2 ∧ W.cell? p3 = some v3 ∧ W.frozen? p3 = false)) : W.cell? p1 = some v1 ∧ W.cell? p2 = some v2 ∧ W.cell? p3 = some v3 ∧ W.frozen? p3 = false ∧ Hid (Below W.heap.size W W) := ⟨h.out.1, h.out.2.1, h.out.2.2.1, h.out.2.2.2, Below.refl _ _⟩
theorem startDG {p1 p2 p3 : Addr} {v1 v2 v3 : Value} {W : World} (h : Hid (W.cell? p1 = some v1 ∧ W.cell? p2 = some v2 ∧ W.cell? p3 = some v3 ∧ W.frozen? p3 = false)) : W.drew.cell? p1 = some v1 ∧ W.drew.cell? p2 = some v2 ∧ W.drew.cell? p3 = some v3 ∧ W.drew.frozen? p3 = false ∧ Hid (Below W.heap.size W W.drew) := ⟨h.out.1, h.out.2.1, h.out.2.2.1, h.out.2.2.2, (Below.refl _ _).drew⟩
theorem goG {p1 p2 p3 : Addr} {v1 v2 v3 : Value} {W w1 : World} (h : Hid (W.cell? p1 = some v1 ∧ W.cell? p2 = some v2 ∧ W.cell? p3 = some v3 ∧ W.frozen? p3 = false)) (hb : Hid (Below W.heap.size W w1)) :
    w1.cell? p1 = some v1 ∧ w1.cell? p2 = some v2 ∧ w1.cell? p3 = some v3 ∧ w1.frozen? p3 = false := by
  obtain ⟨h1, h2, h3, h4⟩ := h.out
  exact ⟨(hb.out.cell (World.block_lt_of_cell? W _ h1)).trans h1, (hb.out.cell (World.block_lt_of_cell? W _ h2)).trans h2, (hb.out.cell (World.block_lt_of_cell? W _ h3)).trans h3, (hb.out.frozen (World.block_lt_of_cell? W _ h3)).trans h4⟩
theorem mapLessG {p1 p2 p3 : Addr} {v1 v2 v3 : Value} {W0 W w9 : World} {L n : Nat} {A : Option Addr} {m : List Int} (h : Hid (MapAt w9 W.heap.size A n m)) (hs : W.cell? p1 = some v1 ∧ W.cell? p2 = some v2 ∧ W.cell? p3 = some v3 ∧ W.frozen? p3 = false ∧ Hid (Below W0.heap.size W0 W)) (h8 : Hid (L ≤ W0.heap.size)) : Hid (MapAt w9 L A n m) :=
  h.out.less (Nat.le_trans h8.out hs.2.2.2.2.out.size)

set_option maxRecDepth 10000 in
/-- what clone tells: a head in new memory -/
def ClP (w : World) (U C O sz : Int) (nm ns : Nat) (last seq : Int) (m : List Int) (ss : List Sn) (e : Ending) (w' : World) : Prop :=
  ∃ Am cm As cs vs, e = .returned (hV U C O sz Am nm cm As ns cs last seq) ∧ Hid (ns ≤ cs ∧ cs ≤ 9223372036854775807) ∧ Hid (MapAt w' w.heap.size Am nm m) ∧ Hid (w'.ownsRow w.heap.size 52 3 (.slice As ns cs) ns (flatN vs)) ∧ Hid (vs.map Sv.s = ss ∧ vs.length = ns) ∧ Hid (SvsAt w' w.heap.size vs) ∧ Hid (Below w.heap.size w w')

set_option maxRecDepth 10000 in
set_option maxHeartbeats 4000000 in
theorem clone6 (U C O sz : Int) (Am : Option Addr) (nm cm : Nat) (As : Option Addr) (ns cs : Nat) (last seq : Int) (m : List Int) (ss : List Sn) (w : World) (hm : RdI w w.heap.size Am nm m) (hr : RdN w w.heap.size As ns ss) (hn : nm ≤ 3000) (hs : ns ≤ 12) (hmm : ∀ s ∈ ss, s.map.length ≤ 3000) :
    Calls Try.prog 58 #[hV U C O sz Am nm cm As ns cs last seq] w (ClP w U C O sz nm ns last seq m ss) := by
  have Hm := Lib.hid hm
  have Hr := Lib.hid hr
  have Hmm := Lib.hid hmm
  clear hm hr hmm
  go_enter Try.func58, Try.ntmps58
  go_upto_region 1 with fail
  have Hb := Lib.hid (((Below.refl w.heap.size w).alloc (Nat.le_refl _) (.cells #[.int .i64 U, .int .i64 C, .int .i64 O, .int .i64 sz, .slice Am nm cm, .slice As ns cs, .int .i64 last, .int .i64 seq] 27)).alloc (by simp) (.cells #[.int .i64 0, .int .i64 0, .int .i64 0, .int .i64 0, .slice none 0 0, .slice none 0 0, .int .i64 0, .int .i64 0] 27))
  have Hh := Lib.hid (show ((w.alloc (.cells #[.int .i64 U, .int .i64 C, .int .i64 O, .int .i64 sz, .slice Am nm cm, .slice As ns cs, .int .i64 last, .int .i64 seq] 27)).alloc (.cells #[.int .i64 0, .int .i64 0, .int .i64 0, .int .i64 0, .slice none 0 0, .slice none 0 0, .int .i64 0, .int .i64 0] 27)).heap[w.heap.size]? = some (.cells #[.int .i64 U, .int .i64 C, .int .i64 O, .int .i64 sz, .slice Am nm cm, .slice As ns cs, .int .i64 last, .int .i64 seq] 27 (0, 0)) from by
    rw [Below.heap_alloc _ _ _ (by simp)]; exact heap_alloc_new w _)
  have Hz := Lib.hid (heap_alloc_new (w.alloc (.cells #[.int .i64 U, .int .i64 C, .int .i64 O, .int .i64 sz, .slice Am nm cm, .slice As ns cs, .int .i64 last, .int .i64 seq] 27)) (.cells #[.int .i64 0, .int .i64 0, .int .i64 0, .int .i64 0, .slice none 0 0, .slice none 0 0, .int .i64 0, .int .i64 0] 27))
  generalize (w.alloc (.cells #[.int .i64 U, .int .i64 C, .int .i64 O, .int .i64 sz, .slice Am nm cm, .slice As ns cs, .int .i64 last, .int .i64 seq] 27)).alloc (.cells #[.int .i64 0, .int .i64 0, .int .i64 0, .int .i64 0, .slice none 0 0, .slice none 0 0, .int .i64 0, .int .i64 0] 27) = w1 at Hb Hh Hz ⊢
  replace Hz := Lib.hid (show w1.heap[w.heap.size + 1]? = some (.cells #[.int .i64 0, .int .i64 0, .int .i64 0, .int .i64 0, .slice none 0 0, .slice none 0 0, .int .i64 0, .int .i64 0] 27 (0, 0)) by have h := Hz.out; simpa using h)
  obtain ⟨b, hbe⟩ : ∃ b, b = w.heap.size := ⟨_, rfl⟩
  obtain ⟨z, hze⟩ : ∃ z, z = w.heap.size + 1 := ⟨_, rfl⟩
  obtain ⟨R, hR⟩ : ∃ R, R = w.heap.size + 2 := ⟨_, rfl⟩
  rw [← hze] at Hz ⊢
  rw [← hbe] at Hh ⊢
  have HA : Hid (At6 w w1 z R b (.int .i64 U) (.int .i64 C) (.int .i64 O) (.int .i64 sz) (.slice Am nm cm) (.slice As ns cs) (.int .i64 last) (.int .i64 seq)) :=
    ⟨Hh.out, Hz.out, Hb.out, by omega, by omega, by omega, by omega, by omega, by omega⟩
  clear hbe hze hR Hh Hz Hb
  have k4 := (heads_of HA.out.hd).2.2.2.2.1
  have HC := Lib.hid (cloneI Am nm cm m w1 ((Hm.out.below HA.out.be).more HA.out.be.size) hn)
  go_wp2_with fail
  refine HC.out.mono ?_
  rintro e w2 ⟨A4, c4, rfl, HM, hb⟩
  clear HC k4
  have Hs1 := Lib.hid HA.out.be.size
  replace HA := Lib.hid (HA.out.to hb.out)
  replace HM := Lib.hid (HM.out.less Hs1.out)
  clear hb Hs1
  have k4 := (heads_of HA.out.hd).2.2.2.2.1
  have y4 := free_blk HA.out.hd 4
  go_upto_region 2 with fail
  replace HM := Lib.hid (HM.out.gb (grown_set w2 b 4 (.slice A4 nm c4)) HA.out.hd (by decide))
  replace HA := Lib.hid (HA.out.set4 (.slice A4 nm c4))
  clear k4 y4
  generalize w2.setCell ⟨b, 4, none⟩ (.slice A4 nm c4) = w3 at HA HM ⊢
  have k5 := (heads_of HA.out.hd).2.2.2.2.2.1
  have HC := Lib.hid (cloneS As ns cs w.heap.size ss w3 (Hr.out.below HA.out.be) hs)
  go_wp2_with fail
  refine HC.out.mono ?_
  rintro e w4 ⟨A5, c5, vs, rfl, K, HO, HV, hb⟩
  clear HC k5
  have Hs1 := Lib.hid HA.out.be.size
  have HW : Hid (∀ p ∈ vs, RdI w w.heap.size p.A p.n p.s.map) := fun p hp => (HV.out.2.2 p hp).keep fun q hq => (HA.out.be.cell hq).symm
  replace HA := Lib.hid (HA.out.to hb.out)
  replace HM := Lib.hid (HM.out.to hb.out)
  replace HO := Lib.hid (own_less HO.out Hs1.out)
  have HVl := Lib.hid HV.out.2.1
  have HVs := Lib.hid HV.out.1
  clear hb Hs1 HV
  have k5 := (heads_of HA.out.hd).2.2.2.2.2.1
  have y5 := free_blk HA.out.hd 5
  go_upto_region 3 with fail
  replace HM := Lib.hid (HM.out.gb (grown_set w4 b 5 (.slice A5 ns c5)) HA.out.hd (by decide))
  replace HO := Lib.hid (own_setb HO.out HA.out.hd (by decide) 5 (.slice A5 ns c5))
  replace HA := Lib.hid (HA.out.set5 (.slice A5 ns c5))
  clear k5 y5
  generalize w4.setCell ⟨b, 5, none⟩ (.slice A5 ns c5) = w5 at HA HM HO ⊢
  have k5 := (heads_of HA.out.hd).2.2.2.2.2.1
  go_wp2_with fail
  clear k5
  go_loopw [16] (fun iv wr => ∃ (j : Nat) (us : List Sv), j ≤ ns ∧ iv = .int .i64 (j : Int) ∧ Hid (us.length = j ∧ us.map Sv.s = (vs.take j).map Sv.s) ∧ Hid (SvsAt wr w.heap.size us) ∧ Hid (wr.ownsRow w.heap.size 52 3 (.slice A5 ns c5) ns (flatN (us ++ vs.drop j))) ∧ Hid (MapAt wr w.heap.size A4 nm m) ∧ Hid (At6 w wr z R b (.int .i64 U) (.int .i64 C) (.int .i64 O) (.int .i64 sz) (.slice A4 nm c4) (.slice A5 ns c5) (.int .i64 last) (.int .i64 seq))) (fun iv _ => ns - (intOf iv).toNat)
  case atStart => exact ⟨0, [], Nat.zero_le _, rfl, ⟨rfl, rfl⟩, (fun p hp => by simp at hp), HO, HM, HA⟩
  case round =>
    clear HM HO HA
    obtain ⟨j, us, hj, rfl, HU, HX, HO, HM, HA⟩ := hrel
    by_cases hjn : j < ns
    · rcases ownForm HO.out with ⟨_, h0⟩ | ⟨g, c', he, _, _, _, _⟩
      · omega
      · cases he
        have hjl : j < vs.length := by rw [HVl.out]; exact hjn
        have Hdr := Lib.hid (List.drop_eq_getElem_cons hjl)
        have Hst := Lib.hid (List.take_succ_eq_append_getElem hjl)
        have Hsrc := Lib.hid ((((HW.out _ (List.getElem_mem hjl)).below HA.out.be).more HA.out.be.size))
        have Hln := Lib.hid (Hmm.out vs[j].s (by rw [← HVs.out]; exact List.mem_map_of_mem (List.getElem_mem hjl)))
        rw [Hdr.out] at HO
        generalize vs[j] = p at Hdr Hst Hsrc Hln HO
        obtain ⟨x0, x1, x2, y2⟩ := own_at HO.out HU.out.1 hjn
        obtain ⟨⟨x, y, mp⟩, Aj, nj, cj⟩ := p
        have x0 : wr.cell? ⟨g, j * 3, none⟩ = some (.int .i64 x) := x0
        have x1 : wr.cell? ⟨g, j * 3 + 1, none⟩ = some (.int .i64 y) := x1
        have x2 : wr.cell? ⟨g, j * 3 + 2, none⟩ = some (.slice Aj nj cj) := x2
        replace Hsrc : Hid (RdI wr wr.heap.size Aj nj mp) := Hsrc
        replace Hln : Hid (mp.length ≤ 3000) := Hln
        have hnj : nj ≤ 3000 := by have := Hsrc.out.1; have := Hln.out; omega
        have hj0 : (0 : Int) ≤ (j : Int) := by omega
        have hj1 : (j : Int) < (ns : Int) := by omega
        have k5 := (heads_of HA.out.hd).2.2.2.2.2.1
        have Hal := alB6 wr (.cells #[.int .i64 x, .int .i64 y, .slice Aj nj cj] 52)
        have Hsx := Lib.hid (SAt.box wr x y (.slice Aj nj cj) 52)
        replace Hsrc := Lib.hid ((Hsrc.out.below Hal.out).more Hal.out.size)
        replace HX := Lib.hid (HX.out.to Hal.out)
        replace HM := Lib.hid (HM.out.to Hal.out)
        replace HA := Lib.hid (HA.out.to Hal.out)
        replace HO := Lib.hid (own_to HO.out Hal.out)
        clear hjl
        go_upto_region 6 with fail
        generalize wr.alloc (.cells #[.int .i64 x, .int .i64 y, .slice Aj nj cj] 52) = w8 at Hsx Hsrc HX HM HA HO ⊢
        obtain ⟨sb, hsb⟩ : ∃ sb, sb = wr.heap.size := ⟨_, rfl⟩
        rw [← hsb] at Hsx ⊢
        clear hsb x0 x1 x2 y2 k5 Hal
        have HG : Hid (w8.cell? ⟨b, 5, none⟩ = some (.slice (some ⟨g, 0, none⟩) ns c5) ∧ w8.cell? ⟨sb, 2, none⟩ = some (.slice Aj nj cj) ∧ w8.cell? ⟨g, j * 3 + 2, none⟩ = some (.slice Aj nj cj) ∧ w8.frozen? ⟨g, j * 3 + 2, none⟩ = false) := by
          obtain ⟨_, _, x2, y2⟩ := own_at HO.out HU.out.1 hjn
          exact ⟨(heads_of HA.out.hd).2.2.2.2.2.1, Hsx.out.c2, x2, y2⟩
        have HC : Hid (∀ w', Hid (Below w8.heap.size w8 w') → Calls Try.prog 92 #[.slice Aj nj cj] w' fun e w'' => ∃ A' c', e = .returned (.slice A' nj c') ∧ Hid (MapAt w'' w'.heap.size A' nj mp) ∧ Hid (Below w'.heap.size w' w'')) := fun w' h => cloneI Aj nj cj mp w' ((Hsrc.out.below h.out).more h.out.size) hnj
        have H8 := Lib.hid HA.out.be.size
        have HD : Hid (Below w8.heap.size w8 w8.drew) := (Below.refl _ _).drew
        obtain ⟨h5, h2, x2, y2⟩ := HG.out
        go_region_with (go_at_call 92; refine (HC.out _ HD).mono ?_; rintro e w9 ⟨A9, c9, rfl, H9, hb⟩; have HB9 : Hid (Below w8.heap.size w8 w9) := belO6 HD hb; have HM9 : Hid (MapAt w9 w.heap.size A9 nj mp) := H9.out.less (Nat.le_trans H8.out HD.out.size); obtain ⟨g5, _, gx, gy⟩ := goG HG HB9; clear H9 hb)
        all_goals
          clear h5 h2 x2 y2 g5 gx gy HG HC HD
          have Hp := Lib.hid (own_put (own_to HO.out HB9.out) HU.out.1 A9 nj c9 mp)
          have HX2 := Lib.hid (HX.out.to HB9.out)
          have HM2 := Lib.hid (HM.out.to HB9.out)
          have HA2 := Lib.hid (HA.out.to HB9.out)
          have HOo := Lib.hid (own_to HO.out HB9.out)
          replace HX2 := Lib.hid (HX2.out.row HOo.out (by decide) Hp.out.2)
          replace HM2 := Lib.hid (HM2.out.row HOo.out (by decide) Hp.out.2)
          replace HA2 := Lib.hid (HA2.out.row HOo.out (Nat.le_refl _) (by decide) Hp.out.2)
          replace HM9 := Lib.hid (HM9.out.row HOo.out (by decide) Hp.out.2)
          replace Hp := Lib.hid Hp.out.1
          clear HOo HB9 HX HM HA HO Hsx Hsrc H8
          generalize w9.setCell ⟨g, j * 3 + 2, none⟩ (.slice A9 nj c9) = wx at Hp HX2 HM2 HA2 HM9 ⊢
          go_wp2_with fail
          go_roundw
          case rel =>
            refine ⟨j + 1, us ++ [⟨⟨x, y, mp⟩, A9, nj, c9⟩], by omega, by go_num, ?_, ?_, ?_, HM2, HA2⟩
            · exact ⟨by rw [List.length_append, HU.out.1]; rfl, by rw [List.map_append, HU.out.2, Hst.out, List.map_append]; rfl⟩
            · intro q hq
              rcases List.mem_append.1 hq with h | h
              · exact HX2.out q h
              · simp at h; subst h; exact HM9.out
            · have h := Hp.out
              show World.ownsRow _ _ _ _ _ _ _
              rw [List.append_assoc]
              exact h
          case measure => simp [intOf]; omega
    · obtain rfl : j = ns := by omega
      have Hall := Lib.hid (show us.map Sv.s = ss by have h := HU.out.2; rwa [List.take_of_length_le (by rw [HVl.out]; exact Nat.le_refl _), HVs.out] at h)
      replace HO := Lib.hid (show wr.ownsRow w.heap.size 52 3 (.slice A5 j c5) j (flatN us) by have h := HO.out; rwa [List.drop_of_length_le (by rw [HVl.out]; exact Nat.le_refl _), List.append_nil] at h)
      obtain ⟨c0, c1, c2, c3, c4', c5', c6, c7⟩ := heads_of HA.out.hd
      obtain ⟨z0, z1, z2, z3, z4, z5, z6, z7⟩ := heads_of HA.out.rs
      have y0 := free_blk HA.out.rs 0
      have y1 := free_blk HA.out.rs 1
      have y2 := free_blk HA.out.rs 2
      have y3 := free_blk HA.out.rs 3
      have y4 := free_blk HA.out.rs 4
      have y5 := free_blk HA.out.rs 5
      have y6 := free_blk HA.out.rs 6
      have y7 := free_blk HA.out.rs 7
      have P8 := Lib.hid (put8_at HA.out.rs (.int .i64 U) (.int .i64 C) (.int .i64 O) (.int .i64 sz) (.slice A4 nm c4) (.slice A5 j c5) (.int .i64 last) (.int .i64 seq))
      have B8 := Lib.hid (put8_below HA.out.be HA.out.z0 (.int .i64 U) (.int .i64 C) (.int .i64 O) (.int .i64 sz) (.slice A4 nm c4) (.slice A5 j c5) (.int .i64 last) (.int .i64 seq) (z := z))
      have G8 := Lib.hid (put8_grown wr z (.int .i64 U) (.int .i64 C) (.int .i64 O) (.int .i64 sz) (.slice A4 nm c4) (.slice A5 j c5) (.int .i64 last) (.int .i64 seq))
      have Hrs := Lib.hid HA.out.rs
      go_wp2_with fail
      clear c0 c1 c2 c3 c4' c5' c6 c7 z0 z1 z2 z3 z4 z5 z6 z7 y0 y1 y2 y3 y4 y5 y6 y7
      change bodyPost _ _ _ _ _ (put8 wr z (.int .i64 U) (.int .i64 C) (.int .i64 O) (.int .i64 sz) (.slice A4 nm c4) (.slice A5 j c5) (.int .i64 last) (.int .i64 seq))
      generalize put8 wr z (.int .i64 U) (.int .i64 C) (.int .i64 O) (.int .i64 sz) (.slice A4 nm c4) (.slice A5 j c5) (.int .i64 last) (.int .i64 seq) = wz at P8 B8 G8 ⊢
      obtain ⟨z0, z1, z2, z3, z4, z5, z6, z7⟩ := heads_of P8.out
      exact bodyPost_ret (v := hV U C O sz A4 nm c4 A5 j c5 last seq) (by simp [results, Try.results58, go_sem, z0, z1, z2, z3, z4, z5, z6, z7]) rfl ⟨A4, c4, A5, c5, us, rfl, K, HM.out.gb G8.out Hrs.out (by decide), own_gb HO.out G8.out Hrs.out (by decide), ⟨Hall.out, HU.out.1⟩, HX.out.gb G8.out Hrs.out (by decide), B8⟩
end Go.Proofs.Ytaobdebeglenaaa

namespace Go.Proofs.Ytaobdebeglenaaa
open Go.RowKit

theorem map_drew {w : World} {L n : Nat} {A : Option Addr} {m : List Int} (h : MapAt w L A n m) : MapAt w.drew L A n m := h
def SnQ (w : World) (g : Hd) (I E : Int) (e : Ending) (w' : World) : Prop :=
  ∃ U C O sz Am nm cm As ns cs last seq, e = .returned (.tuple #[hV U C O sz Am nm cm As ns cs last seq, .int .i64 I, .int .i64 E]) ∧ Hid (HVl w' g U C O sz Am nm As ns last seq) ∧ Hid (ns ≤ cs ∧ cs ≤ 9223372036854775807) ∧ Hid (Below w.heap.size w w')
set_option maxRecDepth 10000 in
set_option maxHeartbeats 8000000 in
theorem Snap6 (U C O sz : Int) (Am : Option Addr) (nm cm : Nat) (As : Option Addr) (ns cs : Nat) (last seq : Int) (m : List Int) (ss : List Sn) (w : World) (hm : RdI w w.heap.size Am nm m) (hr : RdN w w.heap.size As ns ss) (hn : nm ≤ 3000) (hs : ns ≤ 12) (hmm : ∀ s ∈ ss, s.map.length ≤ 3000) :
    HF3 25 #[hV U C O sz Am nm cm As ns cs last seq] w (snapX ⟨U, C, O, sz, m, ss, last, seq⟩) (snapI ⟨U, C, O, sz, m, ss, last, seq⟩) (snapE ⟨U, C, O, sz, m, ss, last, seq⟩) := by
  have Hm := Lib.hid hm
  have Hr := Lib.hid hr
  have Hmm := Lib.hid hmm
  clear hm hr hmm
  show Calls _ _ _ _ (SnQ w _ _ _)
  go_enter Try.func25, Try.ntmps25
  go_upto_region 1 with fail
  have Hb := Lib.hid (((Below.refl w.heap.size w).alloc (Nat.le_refl _) (.cells #[.int .i64 U, .int .i64 C, .int .i64 O, .int .i64 sz, .slice Am nm cm, .slice As ns cs, .int .i64 last, .int .i64 seq] 27)).alloc (by simp) (.cells #[.int .i64 0, .int .i64 0, .int .i64 0, .int .i64 0, .slice none 0 0, .slice none 0 0, .int .i64 0, .int .i64 0] 27))
  have Hh := Lib.hid (show ((w.alloc (.cells #[.int .i64 U, .int .i64 C, .int .i64 O, .int .i64 sz, .slice Am nm cm, .slice As ns cs, .int .i64 last, .int .i64 seq] 27)).alloc (.cells #[.int .i64 0, .int .i64 0, .int .i64 0, .int .i64 0, .slice none 0 0, .slice none 0 0, .int .i64 0, .int .i64 0] 27)).heap[w.heap.size]? = some (.cells #[.int .i64 U, .int .i64 C, .int .i64 O, .int .i64 sz, .slice Am nm cm, .slice As ns cs, .int .i64 last, .int .i64 seq] 27 (0, 0)) from by
    rw [Below.heap_alloc _ _ _ (by simp)]; exact heap_alloc_new w _)
  have Hz := Lib.hid (heap_alloc_new (w.alloc (.cells #[.int .i64 U, .int .i64 C, .int .i64 O, .int .i64 sz, .slice Am nm cm, .slice As ns cs, .int .i64 last, .int .i64 seq] 27)) (.cells #[.int .i64 0, .int .i64 0, .int .i64 0, .int .i64 0, .slice none 0 0, .slice none 0 0, .int .i64 0, .int .i64 0] 27))
  generalize (w.alloc (.cells #[.int .i64 U, .int .i64 C, .int .i64 O, .int .i64 sz, .slice Am nm cm, .slice As ns cs, .int .i64 last, .int .i64 seq] 27)).alloc (.cells #[.int .i64 0, .int .i64 0, .int .i64 0, .int .i64 0, .slice none 0 0, .slice none 0 0, .int .i64 0, .int .i64 0] 27) = w1 at Hb Hh Hz ⊢
  replace Hz := Lib.hid (show w1.heap[w.heap.size + 1]? = some (.cells #[.int .i64 0, .int .i64 0, .int .i64 0, .int .i64 0, .slice none 0 0, .slice none 0 0, .int .i64 0, .int .i64 0] 27 (0, 0)) by have h := Hz.out; simpa using h)
  obtain ⟨b, hbe⟩ : ∃ b, b = w.heap.size := ⟨_, rfl⟩
  obtain ⟨z, hze⟩ : ∃ z, z = w.heap.size + 1 := ⟨_, rfl⟩
  have Hbz := Lib.hid (show w.heap.size ≤ b ∧ w.heap.size ≤ z ∧ b < z by omega)
  rw [← hze] at Hz ⊢
  rw [← hbe] at Hh ⊢
  clear hbe hze
  obtain ⟨c0, c1, c2, c3, c4, c5, c6, c7⟩ := heads_of Hh.out
  have HC := Lib.hid (Check6 U C O sz Am nm cm As ns cs last seq m ss w1 ((Hm.out.below Hb.out).more Hb.out.size) ((Hr.out.below Hb.out).more Hb.out.size) hn hs Hmm.out)
  by_cases hM : MayH ⟨U, C, O, sz, m, ss, last, seq⟩
  · have HE0 := Lib.hid (show mayE ⟨U, C, O, sz, m, ss, last, seq⟩ = 0 by unfold mayE; rw [if_pos hM])
    rw [HE0.out] at HC
    have HMay := Lib.hid hM
    have hl0 : 0 ≤ last := hM.2.2.2.1.1
    have hl1 : last ≤ 100 := hM.2.2.2.1.2
    have Hlen := Lib.hid Hr.out.1
    have hn4 : ns ≤ 4 := by have h : ss.length ≤ 4 := hM.2.2.1; have := Hlen.out; omega
    have HSE := Lib.hid (show snapE ⟨U, C, O, sz, m, ss, last, seq⟩ = if 4 ≤ ns ∨ 100 ≤ last then 110 else 0 by
      unfold snapE
      rw [if_pos hM, Hlen.out])
    clear HE0 hM
    go_wp2_with fail
    refine HC.out.mono ?_
    rintro e w2 ⟨rfl, hb⟩
    replace Hh := blk_keep Hh hb
    replace Hz := blk_keep Hz hb
    replace Hb := belO6 Hb hb
    clear hb HC c0 c1 c2 c3 c4 c5 c6 c7
    by_cases g : 4 ≤ ns ∨ 100 ≤ last
    · have HE := Lib.hid (show snapE ⟨U, C, O, sz, m, ss, last, seq⟩ = 110 by rw [HSE.out, if_pos g])
      have HI := Lib.hid (show snapI ⟨U, C, O, sz, m, ss, last, seq⟩ = 0 by unfold snapI; rw [if_neg (by rw [HE.out]; decide)])
      have HX := Lib.hid (show snapX ⟨U, C, O, sz, m, ss, last, seq⟩ = hd0 by unfold snapX; rw [if_neg (by rw [HE.out]; decide)])
      by_cases g1 : ns = 4
      · subst g1
        have c5 := (heads_of Hh.out).2.2.2.2.2.1
        clear g
        obtain ⟨z0, z1, z2, z3, z4, z5, z6, z7⟩ := heads_of Hz.out
        have y0 := free_blk Hz.out 0
        have y1 := free_blk Hz.out 1
        have y2 := free_blk Hz.out 2
        have y3 := free_blk Hz.out 3
        have y4 := free_blk Hz.out 4
        have y5 := free_blk Hz.out 5
        have y6 := free_blk Hz.out 6
        have y7 := free_blk Hz.out 7
        have P8 := Lib.hid (put8_at Hz.out (.int .i64 0) (.int .i64 0) (.int .i64 0) (.int .i64 0) (.slice none 0 0) (.slice none 0 0) (.int .i64 0) (.int .i64 0))
        have B8 := Lib.hid (put8_below Hb.out (by have := Hbz.out; omega) (.int .i64 0) (.int .i64 0) (.int .i64 0) (.int .i64 0) (.slice none 0 0) (.slice none 0 0) (.int .i64 0) (.int .i64 0) (z := z))
        go_wp2_with fail
        clear z0 z1 z2 z3 z4 z5 z6 z7 y0 y1 y2 y3 y4 y5 y6 y7 c5
        change bodyPost _ _ _ _ _ (put8 w2 z (.int .i64 0) (.int .i64 0) (.int .i64 0) (.int .i64 0) (.slice none 0 0) (.slice none 0 0) (.int .i64 0) (.int .i64 0))
        generalize put8 w2 z (.int .i64 0) (.int .i64 0) (.int .i64 0) (.int .i64 0) (.slice none 0 0) (.slice none 0 0) (.int .i64 0) (.int .i64 0) = wz at P8 B8 ⊢
        obtain ⟨z0, z1, z2, z3, z4, z5, z6, z7⟩ := heads_of P8.out
        exact bodyPost_ret (v := .tuple #[hV0, .int .i64 0, .int .i64 110]) (by simp [results, Try.results25, go_sem, z0, z1, z2, z3, z4, z5, z6, z7]) rfl ⟨0, 0, 0, 0, none, 0, 0, none, 0, 0, 0, 0, by rw [HE.out, HI.out], by rw [HX.out]; exact HVl.zero wz, ⟨by omega, by omega⟩, B8⟩
      · obtain rfl : last = 100 := by omega
        have c5 := (heads_of Hh.out).2.2.2.2.2.1
        have c6 := (heads_of Hh.out).2.2.2.2.2.2.1
        have g1' : ((ns : Int) == 4) = false := by simp; omega
        clear g
        obtain ⟨z0, z1, z2, z3, z4, z5, z6, z7⟩ := heads_of Hz.out
        have y0 := free_blk Hz.out 0
        have y1 := free_blk Hz.out 1
        have y2 := free_blk Hz.out 2
        have y3 := free_blk Hz.out 3
        have y4 := free_blk Hz.out 4
        have y5 := free_blk Hz.out 5
        have y6 := free_blk Hz.out 6
        have y7 := free_blk Hz.out 7
        have P8 := Lib.hid (put8_at Hz.out (.int .i64 0) (.int .i64 0) (.int .i64 0) (.int .i64 0) (.slice none 0 0) (.slice none 0 0) (.int .i64 0) (.int .i64 0))
        have B8 := Lib.hid (put8_below Hb.out (by have := Hbz.out; omega) (.int .i64 0) (.int .i64 0) (.int .i64 0) (.int .i64 0) (.slice none 0 0) (.slice none 0 0) (.int .i64 0) (.int .i64 0) (z := z))
        go_wp2_with fail
        clear z0 z1 z2 z3 z4 z5 z6 z7 y0 y1 y2 y3 y4 y5 y6 y7 c5 c6
        change bodyPost _ _ _ _ _ (put8 w2 z (.int .i64 0) (.int .i64 0) (.int .i64 0) (.int .i64 0) (.slice none 0 0) (.slice none 0 0) (.int .i64 0) (.int .i64 0))
        generalize put8 w2 z (.int .i64 0) (.int .i64 0) (.int .i64 0) (.int .i64 0) (.slice none 0 0) (.slice none 0 0) (.int .i64 0) (.int .i64 0) = wz at P8 B8 ⊢
        obtain ⟨z0, z1, z2, z3, z4, z5, z6, z7⟩ := heads_of P8.out
        exact bodyPost_ret (v := .tuple #[hV0, .int .i64 0, .int .i64 110]) (by simp [results, Try.results25, go_sem, z0, z1, z2, z3, z4, z5, z6, z7]) rfl ⟨0, 0, 0, 0, none, 0, 0, none, 0, 0, 0, 0, by rw [HE.out, HI.out], by rw [HX.out]; exact HVl.zero wz, ⟨by omega, by omega⟩, B8⟩
    · have HE := Lib.hid (show snapE ⟨U, C, O, sz, m, ss, last, seq⟩ = 0 by rw [HSE.out, if_neg g])
      have HI := Lib.hid (show snapI ⟨U, C, O, sz, m, ss, last, seq⟩ = last + 1 by unfold snapI; rw [if_pos HE.out])
      have HX := Lib.hid (show snapX ⟨U, C, O, sz, m, ss, last, seq⟩ = ⟨U, C, O, sz, freshO m, ss ++ [⟨last + 1, sz, m⟩], last + 1, seq⟩ by unfold snapX; rw [if_pos HE.out]; rfl)
      have Hsh := Lib.hid (snapH_short HMay.out)
      have g1 : ns < 4 := by omega
      have g2 : last < 100 := by omega
      have g1' : ((ns : Int) == 4) = false := by simp; omega
      have g2' : (last == 100) = false := by simp; omega
      clear g
      obtain ⟨c0, c1, c2, c3, c4, c5, c6, c7⟩ := heads_of Hh.out
      have HCl := Lib.hid (clone6 U C O sz Am nm cm As ns cs last seq m ss w2 ((Hm.out.below Hb.out).more Hb.out.size) ((Hr.out.below Hb.out).more Hb.out.size) hn hs Hmm.out)
      go_wp2_with fail
      refine HCl.out.mono ?_
      rintro e w3 ⟨A4, c4', A5, c5', vs, rfl, K, HM, HO, HV, HX2, hb⟩
      have Hs2 := Lib.hid Hb.out.size
      replace Hz := blk_keep Hz hb
      replace Hb := belO6 Hb hb
      replace HM := Lib.hid (HM.out.less Hs2.out)
      replace HO := Lib.hid (own_less HO.out Hs2.out)
      replace HX2 : Hid (SvsAt w3 w.heap.size vs) := fun p hp => (HX2.out p hp).less Hs2.out
      clear hb HCl c0 c1 c2 c3 c4 c5 c6 c7 Hh Hs2 g1' g2'
      have Hal := alB6 w3 (.cells #[.int .i64 U, .int .i64 C, .int .i64 O, .int .i64 sz, .slice A4 nm c4', .slice A5 ns c5', .int .i64 last, .int .i64 seq] 27)
      have Hnw := Lib.hid (heap_alloc_new w3 (.cells #[.int .i64 U, .int .i64 C, .int .i64 O, .int .i64 sz, .slice A4 nm c4', .slice A5 ns c5', .int .i64 last, .int .i64 seq] 27))
      obtain ⟨H, hH⟩ : ∃ H, H = w3.heap.size := ⟨_, rfl⟩
      obtain ⟨R, hR⟩ : ∃ R, R = z + H + 1 := ⟨_, rfl⟩
      have hzH : z < H := by rw [hH]; exact lt_of_block Hz.out
      go_upto_region 7 with fail
      rw [← hH] at Hnw ⊢
      have HA : Hid (At6 w (w3.alloc (.cells #[.int .i64 U, .int .i64 C, .int .i64 O, .int .i64 sz, .slice A4 nm c4', .slice A5 ns c5', .int .i64 last, .int .i64 seq] 27)) z R H (.int .i64 U) (.int .i64 C) (.int .i64 O) (.int .i64 sz) (.slice A4 nm c4') (.slice A5 ns c5') (.int .i64 last) (.int .i64 seq)) :=
        ⟨Hnw.out, (Hal.out.block z (lt_of_block Hz.out)).trans Hz.out, Hb.out.trans (Hal.out.mono Hb.out.size), by omega, by omega, by omega, Hbz.out.2.1, by have := Hbz.out; omega, by have := Hbz.out; omega⟩
      replace HM := Lib.hid (HM.out.to Hal.out)
      replace HO := Lib.hid (own_to HO.out Hal.out)
      replace HX2 := Lib.hid (HX2.out.to Hal.out)
      clear Hal Hnw Hb Hz hH hR
      generalize w3.alloc (.cells #[.int .i64 U, .int .i64 C, .int .i64 O, .int .i64 sz, .slice A4 nm c4', .slice A5 ns c5', .int .i64 last, .int .i64 seq] 27) = w4 at HA HM HO HX2 ⊢
      have k6 := (heads_of HA.out.hd).2.2.2.2.2.2.1
      have y6 := free_blk HA.out.hd 6
      go_upto_region 8 with fail
      replace HM := Lib.hid (HM.out.gb (grown_set w4 H 6 (.int .i64 (last + 1))) HA.out.hd (by decide))
      replace HO := Lib.hid (own_setb HO.out HA.out.hd (by decide) 6 (.int .i64 (last + 1)))
      replace HX2 := Lib.hid (HX2.out.gb (grown_set w4 H 6 (.int .i64 (last + 1))) HA.out.hd (by decide))
      replace HA := Lib.hid (HA.out.set6 (.int .i64 (last + 1)))
      clear k6 y6
      generalize w4.setCell ⟨H, 6, none⟩ (.int .i64 (last + 1)) = w5 at HA HM HO HX2 ⊢
      obtain ⟨c0, c1, c2, c3, c4, c5, c6, c7⟩ := heads_of HA.out.hd
      obtain ⟨inf, hi, hz0, hz1, hz2⟩ := info_parts Try.infoN
      have Hws := Lib.hid HA.out.be.size
      have Hal := alB6 w5 (.cells #[.int .i64 (last + 1), .int .i64 sz, .slice A4 nm c4'] 52)
      have HO5 := Lib.hid (own_to HO.out Hal.out)
      have HA5 := Lib.hid (HA.out.to Hal.out)
      have HM5 := Lib.hid (HM.out.to Hal.out)
      have HX5 := Lib.hid (HX2.out.to Hal.out)
      go_upto_region 9 with (at_builtin; refine wpList_append_own _ rfl (.tmp 30) (.tmp 38) 25 rfl w.heap.size 52 inf (.agg #[.int .i64 0, .int .i64 0, .slice none 0 0]) 3 40 Try.underlying25 hi hz0 hz1 hz2 rfl (by decide) _ ns (flatN vs) rfl HO5.out ⟨w5.heap.size, 0, none⟩ 1 1 [.int .i64 (last + 1), .int .i64 sz, .slice A4 nm c4'] rfl rfl (three_at _ _ _ _ _ _ rfl) (three_one _ _ _ _ _) (by simp only [maxLen]; omega) (by omega) (by have := Hws.out; simp; omega) ?_; intro v6 w6 hown6 hg6 _; obtain ⟨A6, c6', rfl, j1, j2⟩ := ownF hown6; have HK6 := Lib.hid (And.intro j1 j2); have HA6 := Lib.hid (HA5.out.row HO5.out (Nat.le_refl _) (by decide) hg6); have HM6 := Lib.hid (HM5.out.row HO5.out (by decide) hg6); have HX6 := Lib.hid (HX5.out.row HO5.out (by decide) hg6); have HO6 := Lib.hid hown6; have k5 := (heads_of HA6.out.hd).2.2.2.2.2.1; have y5 := free_blk HA6.out.hd 5; clear hown6 hg6 j1 j2)
      replace HO6 := Lib.hid (show w6.ownsRow w.heap.size 52 3 (.slice A6 (ns + 1) c6') (ns + 1) (flatN (vs ++ [⟨⟨last + 1, sz, m⟩, A4, nm, c4'⟩])) from by rw [flatN_app]; exact HO6.out)
      have HA7 := Lib.hid (HA6.out.set5 (.slice A6 (ns + 1) c6'))
      have HM7 := Lib.hid (HM6.out.gb (grown_set w6 H 5 (.slice A6 (ns + 1) c6')) HA6.out.hd (by decide))
      have HX7 := Lib.hid (HX6.out.gb (grown_set w6 H 5 (.slice A6 (ns + 1) c6')) HA6.out.hd (by decide))
      have HO7 := Lib.hid (own_setb HO6.out HA6.out.hd (by decide) 5 (.slice A6 (ns + 1) c6'))
      clear k5 y5 c0 c1 c2 c3 c4 c5 c6 c7 HA HM HO HX2 HO5 HA5 HM5 HX5 HA6 HM6 HX6 HO6 Hal Hws
      generalize w6.setCell ⟨H, 5, none⟩ (.slice A6 (ns + 1) c6') = w7 at HA7 HM7 HX7 HO7 ⊢
      have k4 := (heads_of HA7.out.hd).2.2.2.2.1
      have HF := Lib.hid (PFresh A4 nm c4' m w7 HM7.out.1 (by omega))
      go_wp2_with fail
      refine HF.out.mono ?_
      rintro e w8 ⟨A8, n8, c8, rfl, r8, ⟨k8, nw8⟩, b8⟩
      have Hs7 := Lib.hid HA7.out.be.size
      have HM8 : Hid (MapAt w8 w.heap.size A8 n8 (freshO m)) := ⟨r8, k8, nw8.less Hs7.out⟩
      have HA8 := Lib.hid (HA7.out.to b8)
      have HMo := Lib.hid (HM7.out.to b8)
      have HX8 := Lib.hid (HX7.out.to b8)
      have HO8 := Lib.hid (own_to HO7.out b8)
      clear r8 k8 nw8 b8 HF k4 HA7 HM7 HX7 HO7 Hs7
      have k4 := (heads_of HA8.out.hd).2.2.2.2.1
      have y4 := free_blk HA8.out.hd 4
      go_upto_region 10 with fail
      have HG := Lib.hid (grown_set w8 H 4 (.slice A8 n8 c8))
      replace HM8 := Lib.hid (HM8.out.gb HG.out HA8.out.hd (by decide))
      replace HMo := Lib.hid (HMo.out.gb HG.out HA8.out.hd (by decide))
      replace HX8 := Lib.hid (HX8.out.gb HG.out HA8.out.hd (by decide))
      replace HO8 := Lib.hid (own_setb HO8.out HA8.out.hd (by decide) 4 (.slice A8 n8 c8))
      replace HA8 := Lib.hid (HA8.out.set4 (.slice A8 n8 c8))
      clear HG k4 y4
      generalize w8.setCell ⟨H, 4, none⟩ (.slice A8 n8 c8) = w9 at HA8 HM8 HMo HX8 HO8 ⊢
      obtain ⟨c0, c1, c2, c3, c4, c5, c6, c7⟩ := heads_of HA8.out.hd
      obtain ⟨z0, z1, z2, z3, z4, z5, z6, z7⟩ := heads_of HA8.out.rs
      have y0 := free_blk HA8.out.rs 0
      have y1 := free_blk HA8.out.rs 1
      have y2 := free_blk HA8.out.rs 2
      have y3 := free_blk HA8.out.rs 3
      have y4 := free_blk HA8.out.rs 4
      have y5 := free_blk HA8.out.rs 5
      have y6 := free_blk HA8.out.rs 6
      have y7 := free_blk HA8.out.rs 7
      have hne : (z == H) = false := by simp; omega
      have hne2 : z ≠ H := by omega
      go_region
      have P9 := Lib.hid (drew_at (put8_at HA8.out.rs (.int .i64 U) (.int .i64 C) (.int .i64 O) (.int .i64 sz) (.slice A8 n8 c8) (.slice A6 (ns + 1) c6') (.int .i64 (last + 1)) (.int .i64 seq)))
      have G9 := Lib.hid (put8_grown w9 z (.int .i64 U) (.int .i64 C) (.int .i64 O) (.int .i64 sz) (.slice A8 n8 c8) (.slice A6 (ns + 1) c6') (.int .i64 (last + 1)) (.int .i64 seq))
      have B9 := Lib.hid (put8_below HA8.out.be HA8.out.z0 (.int .i64 U) (.int .i64 C) (.int .i64 O) (.int .i64 sz) (.slice A8 n8 c8) (.slice A6 (ns + 1) c6') (.int .i64 (last + 1)) (.int .i64 seq) (z := z)).drew
      have M9 := Lib.hid (HM8.out.gb G9.out HA8.out.rs (by decide))
      have N9 := Lib.hid (HMo.out.gb G9.out HA8.out.rs (by decide))
      have X9 := Lib.hid (HX8.out.gb G9.out HA8.out.rs (by decide))
      have S9 := Lib.hid (own_drew (own_gb HO8.out G9.out HA8.out.rs (by decide)))
      replace M9 := Lib.hid (map_drew M9.out)
      replace N9 := Lib.hid (map_drew N9.out)
      replace X9 : Hid (SvsAt _ w.heap.size vs) := fun p hp => map_drew (X9.out p hp)
      clear c0 c1 c2 c3 c4 c5 c6 c7 z0 z1 z2 z3 z4 z5 z6 z7 y0 y1 y2 y3 y4 y5 y6 y7 hne hne2 G9
      change Exit.then _ _ _ _ (put8 w9 z (.int .i64 U) (.int .i64 C) (.int .i64 O) (.int .i64 sz) (.slice A8 n8 c8) (.slice A6 (ns + 1) c6') (.int .i64 (last + 1)) (.int .i64 seq)).drew
      generalize (put8 w9 z (.int .i64 U) (.int .i64 C) (.int .i64 O) (.int .i64 sz) (.slice A8 n8 c8) (.slice A6 (ns + 1) c6') (.int .i64 (last + 1)) (.int .i64 seq)).drew = wz at P9 B9 M9 N9 X9 S9 ⊢
      obtain ⟨z0, z1, z2, z3, z4, z5, z6, z7⟩ := heads_of P9.out
      go_wp2_with fail
      refine bodyPost_ret (v := .tuple #[hV U C O sz A8 n8 c8 A6 (ns + 1) c6' (last + 1) seq, .int .i64 (last + 1), .int .i64 0]) (by simp [results, Try.results25, go_sem, z0, z1, z2, z3, z4, z5, z6, z7]) rfl ⟨U, C, O, sz, A8, n8, c8, A6, ns + 1, c6', last + 1, seq, by rw [HE.out, HI.out], ?_, ⟨HK6.out.1, by have := HK6.out.2; simpa [maxLen] using this⟩, B9⟩
      rw [HX.out]
      have hfs := (freshO_is m).1
      refine ⟨rfl, M9.out.1, by have := M9.out.1.1; show n8 ≤ 3000; omega, ?_, by omega, ?_⟩
      · have h := RdN.own S9.out (by rw [List.length_append, HV.out.2]; rfl) (fun p hp => by
          rcases List.mem_append.1 hp with hp | hp
          · exact X9.out.sv p hp
          · simp at hp
            subst hp
            exact ⟨N9.out.1, N9.out.2.1⟩)
        rw [List.map_append, HV.out.1] at h
        exact h
      · have h := Hsh.out.2.2
        exact h
  · have HE0 := Lib.hid (show mayE ⟨U, C, O, sz, m, ss, last, seq⟩ = 60 by unfold mayE; rw [if_neg hM])
    have HE := Lib.hid (show snapE ⟨U, C, O, sz, m, ss, last, seq⟩ = 60 by unfold snapE; rw [if_neg hM])
    have HI := Lib.hid (show snapI ⟨U, C, O, sz, m, ss, last, seq⟩ = 0 by unfold snapI; rw [if_neg (by rw [HE.out]; decide)])
    have HX := Lib.hid (show snapX ⟨U, C, O, sz, m, ss, last, seq⟩ = hd0 by unfold snapX; rw [if_neg (by rw [HE.out]; decide)])
    rw [HE0.out] at HC
    clear HE0 hM
    go_wp2_with fail
    refine HC.out.mono ?_
    rintro e w2 ⟨rfl, hb⟩
    replace Hz := blk_keep Hz hb
    replace Hb := belO6 Hb hb
    clear hb HC c0 c1 c2 c3 c4 c5 c6 c7 Hh
    obtain ⟨z0, z1, z2, z3, z4, z5, z6, z7⟩ := heads_of Hz.out
    have y0 := free_blk Hz.out 0
    have y1 := free_blk Hz.out 1
    have y2 := free_blk Hz.out 2
    have y3 := free_blk Hz.out 3
    have y4 := free_blk Hz.out 4
    have y5 := free_blk Hz.out 5
    have y6 := free_blk Hz.out 6
    have y7 := free_blk Hz.out 7
    have P8 := Lib.hid (put8_at Hz.out (.int .i64 0) (.int .i64 0) (.int .i64 0) (.int .i64 0) (.slice none 0 0) (.slice none 0 0) (.int .i64 0) (.int .i64 0))
    have B8 := Lib.hid (put8_below Hb.out (by have := Hbz.out; omega) (.int .i64 0) (.int .i64 0) (.int .i64 0) (.int .i64 0) (.slice none 0 0) (.slice none 0 0) (.int .i64 0) (.int .i64 0) (z := z))
    go_wp2_with fail
    clear z0 z1 z2 z3 z4 z5 z6 z7 y0 y1 y2 y3 y4 y5 y6 y7 
    change bodyPost _ _ _ _ _ (put8 w2 z (.int .i64 0) (.int .i64 0) (.int .i64 0) (.int .i64 0) (.slice none 0 0) (.slice none 0 0) (.int .i64 0) (.int .i64 0))
    generalize put8 w2 z (.int .i64 0) (.int .i64 0) (.int .i64 0) (.int .i64 0) (.slice none 0 0) (.slice none 0 0) (.int .i64 0) (.int .i64 0) = wz at P8 B8 ⊢
    obtain ⟨z0, z1, z2, z3, z4, z5, z6, z7⟩ := heads_of P8.out
    exact bodyPost_ret (v := .tuple #[hV0, .int .i64 0, .int .i64 60]) (by simp [results, Try.results25, go_sem, z0, z1, z2, z3, z4, z5, z6, z7]) rfl ⟨0, 0, 0, 0, none, 0, 0, none, 0, 0, 0, 0, by rw [HE.out, HI.out], by rw [HX.out]; exact HVl.zero wz, ⟨by omega, by omega⟩, B8⟩
end Go.Proofs.Ytaobdebeglenaaa
