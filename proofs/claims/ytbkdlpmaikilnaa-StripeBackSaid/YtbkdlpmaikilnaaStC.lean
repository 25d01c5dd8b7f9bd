/- Contracts of package stripe: adjacent, the closure of Pieces, Pieces. -/
import Derived.Test.YtbkdlpmaikilnaaStB
namespace Go.Proofs.Ytbkdlpmaikilnaa
open Go.RowKit

/-- the cells of a piece -/
def pcC (p : Pc) : List Value := [.int .i64 p.o, .int .i64 p.k, .int .i64 p.l, .int .i64 p.f]
def flat (ps : List Pc) : List Value := ps.flatMap pcC
abbrev pcV (p : Pc) : Value := .agg #[.int .i64 p.o, .int .i64 p.k, .int .i64 p.l, .int .i64 p.f]
theorem flat_len (ps : List Pc) : (flat ps).length = ps.length * 4 := by
  induction ps with
  | nil => rfl
  | cons p ps ih => simp [flat, pcC] at ih ⊢; omega

set_option maxHeartbeats 1000000 in
theorem adj_any (qo qk ql qf po pk pl pf : Nat) (w : World) (hb : qk + ql ≤ 1000) :
    Calls Try.prog 27 #[.agg #[.int .i64 qo, .int .i64 qk, .int .i64 ql, .int .i64 qf], .agg #[.int .i64 po, .int .i64 pk, .int .i64 pl, .int .i64 pf]] w fun e w' => e = .returned (.bool (nxt ⟨qo, qk, ql, qf⟩ ⟨po, pk, pl, pf⟩)) ∧ Below w.heap.size w w' := by
  by_cases h1 : (qo : Int) = po
  · have Hn := Lib.hid (show nxt ⟨qo, qk, ql, qf⟩ ⟨po, pk, pl, pf⟩ = ((qk : Int) + ql == pk) by
      have h1' : qo = po := by omega
      rw [Bool.eq_iff_iff]
      simp [nxt, h1']
      omega)
    rw [Hn.out]
    clear Hn
    go_enter Try.func27, Try.ntmps27
    go_wp2_with fail
    go_ret
    exact ⟨by rfl, ((Below.refl w.heap.size w).alloc (Nat.le_refl _) _).alloc (by simp) _⟩
  · have Hn := Lib.hid (show nxt ⟨qo, qk, ql, qf⟩ ⟨po, pk, pl, pf⟩ = false by
      have h1' : qo ≠ po := by omega
      simp [nxt, h1'])
    rw [Hn.out]
    clear Hn
    go_enter Try.func27, Try.ntmps27
    go_wp2_with fail
    go_ret
    exact ⟨rfl, ((Below.refl w.heap.size w).alloc (Nat.le_refl _) _).alloc (by simp) _⟩

theorem own_form {w : World} {base n s : Nat} {e : TypeId} {v : Value} {xs : List Value} (h : w.ownsRow base e s v n xs) : ∃ A c, v = .slice A n c ∧ n ≤ c ∧ c ≤ maxLen ∧ (A = none → n = 0) := by
  rcases h.2 with ⟨rfl, rfl⟩ | ⟨g, cap, cur, rfl, _, _, h1, h2, _⟩
  · exact ⟨none, 0, rfl, Nat.le_refl _, Nat.zero_le _, fun _ => rfl⟩
  · exact ⟨_, cap, rfl, h1, h2, fun q => by cases q⟩
/-- block g holds the pieces; their row lies behind it -/
def Acc (w : World) (g : Nat) (ps : List Pc) : Prop :=
  ∃ v, w.heap[g]? = some (.cells #[v] 33 (0, 0)) ∧ w.ownsRow (g + 1) 37 4 v ps.length (flat ps)
theorem Try.infoP : (Try.prog.info? 37).map (fun i => (i.zero, i.size, i.bytes)) = some (some (.agg #[.int .i64 0, .int .i64 0, .int .i64 0, .int .i64 0]), 4, 32) := by kernel_rfl

theorem cellK {W w1 : World} {a : Addr} {v : Value} (h : W.cell? a = some v) (hb : Below W.heap.size W w1) : w1.cell? a = some v := (hb.cell (World.block_lt_of_cell? W a h)).trans h

/-- the cells that the closure reads -/
structure Rds (w : World) (g b : Nat) (A : Option Addr) (n c gr e : Nat) (p q : Pc) : Prop where
  c0 : w.cell? ⟨g, 0, none⟩ = some (.slice A n c)
  p0 : w.cell? ⟨b, 0, none⟩ = some (.int .i64 p.o)
  p1 : w.cell? ⟨b, 1, none⟩ = some (.int .i64 p.k)
  p2 : w.cell? ⟨b, 2, none⟩ = some (.int .i64 p.l)
  p3 : w.cell? ⟨b, 3, none⟩ = some (.int .i64 p.f)
  q0 : w.cell? ⟨gr, e, none⟩ = some (.int .i64 q.o)
  q1 : w.cell? ⟨gr, e + 1, none⟩ = some (.int .i64 q.k)
  q2 : w.cell? ⟨gr, e + 2, none⟩ = some (.int .i64 q.l)
  q3 : w.cell? ⟨gr, e + 3, none⟩ = some (.int .i64 q.f)

/-- block b holds a piece -/
structure PcAt (b : Nat) (p : Pc) (w : World) : Prop where
  c0 : w.cell? ⟨b, 0, none⟩ = some (.int .i64 p.o)
  c1 : w.cell? ⟨b, 1, none⟩ = some (.int .i64 p.k)
  c2 : w.cell? ⟨b, 2, none⟩ = some (.int .i64 p.l)
  c3 : w.cell? ⟨b, 3, none⟩ = some (.int .i64 p.f)
theorem PcAt.box (w : World) (p : Pc) (t : TypeId) : PcAt w.heap.size p (w.alloc (.cells #[.int .i64 p.o, .int .i64 p.k, .int .i64 p.l, .int .i64 p.f] t)) := by
  refine ⟨?_, ?_, ?_, ?_⟩ <;> (rw [cell_blk (heap_alloc_new w _)]; rfl)
theorem four_new (w : World) (p : Pc) (t : TypeId) : ∀ j u, (pcC p)[j]? = some u → (w.alloc (.cells #[.int .i64 p.o, .int .i64 p.k, .int .i64 p.l, .int .i64 p.f] t)).cell? ((⟨w.heap.size, 0, none⟩ : Addr).add j) = some u := by
  intro j u hu
  have hadd : (⟨w.heap.size, 0, none⟩ : Addr).add j = ⟨w.heap.size, j, none⟩ := by unfold Addr.add; split <;> simp_all
  rw [hadd, cell_blk (heap_alloc_new w _), List.getElem?_toArray]
  exact hu
theorem pcC_one (p : Pc) : ∀ u ∈ pcC p, u.oneCell' = true := by
  intro u hu
  simp [pcC] at hu
  rcases hu with rfl | rfl | rfl | rfl <;> rfl
theorem flat_snoc (ps : List Pc) (p : Pc) : flat (ps ++ [p]) = flat ps ++ pcC p := by simp [flat]
/-- behind the append and the store -/
theorem Acc.put {w w1 w2 : World} {g n c : Nat} {A : Option Addr} {ps : List Pc} {p : Pc} {v : Value} {o : Obj} (hb1 : Below g w w1) (hh1 : w1.heap[g]? = some (.cells #[.slice A n c] 33 (0, 0))) (hown1 : w1.ownsRow (g + 1) 37 4 (.slice A n c) n (flat ps)) (hn : n = ps.length)
    (hg2 : (w1.alloc o).grownBy w2 (Value.slice A n c).ownBlock) (hown2 : w2.ownsRow (g + 1) 37 4 v (n + 1) (flat ps ++ pcC p)) :
    w2.heap[g]? = some (.cells #[.slice A n c] 33 (0, 0)) ∧ Acc (w2.setCell ⟨g, 0, none⟩ v) g (ps ++ [p]) ∧ Below g w (w2.setCell ⟨g, 0, none⟩ v) := by
  have hg := lt_of_block hh1
  have hh2 : w2.heap[g]? = some (.cells #[.slice A n c] 33 (0, 0)) := by
    rw [hg2.block g (by simp; omega) (fun e => by have := (hown1.lt g e.symm).1; omega), Below.heap_alloc _ _ _ hg, hh1]
  refine ⟨hh2, ⟨v, set_blk hh2 0 v, ?_⟩, ?_⟩
  · rw [flat_snoc, List.length_append, List.length_cons, List.length_nil, ← hn]
    exact ownsRow_setCell_below hown2 (Nat.lt_succ_self g) v
  · exact ((hb1.alloc (by omega) o).grown hg2 (by simp; omega) (fun k q => by have := (hown1.lt k q).1; omega)).setCell (Nat.le_refl g) v

set_option maxHeartbeats 1000000 in
theorem add_first (g : Nat) (p : Pc) (w : World) (h : Acc w g []) :
    Calls Try.prog 26 #[pcV p, .pointer (some ⟨g, 0, none⟩)] w fun e w' => e = .returned (.tuple #[]) ∧ Acc w' g [p] ∧ Below g w w' := by
  obtain ⟨i, hi, hz0, hz1, hz2⟩ := info_parts Try.infoP
  obtain ⟨v, hh, hown⟩ := h
  have hlt := lt_of_block hh
  obtain ⟨A, c, rfl, hc, hm, _⟩ := own_form hown
  have h0 := cell_blk hh 0
  simp only [List.getElem?_toArray, List.getElem?_cons_zero] at h0
  have Hh := Lib.hid hh
  have Hown := Lib.hid hown
  clear hh hown
  go_enter Try.func26, Try.ntmps26
  go_wp2_with fail
  go_quiet (fail)
  have hP : PcAt w.heap.size p ((w.alloc (.cells #[.int .i64 p.o, .int .i64 p.k, .int .i64 p.l, .int .i64 p.f] 37)).drewN nq) := by
    have h := PcAt.box w p 37
    exact ⟨h.c0, h.c1, h.c2, h.c3⟩
  have Hb1 : Hid (Below g w ((w.alloc (.cells #[.int .i64 p.o, .int .i64 p.k, .int .i64 p.l, .int .i64 p.f] 37)).drewN nq)) := by
    have h := ((Below.refl g w).alloc (by omega) (.cells #[.int .i64 p.o, .int .i64 p.k, .int .i64 p.l, .int .i64 p.f] 37))
    exact ⟨h.os, h.tape, h.output, h.size, h.block⟩
  have Hh1 : Hid (((w.alloc (.cells #[.int .i64 p.o, .int .i64 p.k, .int .i64 p.l, .int .i64 p.f] 37)).drewN nq).heap[g]? = some (.cells #[.slice A 0 c] 33 (0, 0))) := (Below.heap_alloc w _ g hlt).trans Hh.out
  have Hown1 : Hid (((w.alloc (.cells #[.int .i64 p.o, .int .i64 p.k, .int .i64 p.l, .int .i64 p.f] 37)).drewN nq).ownsRow (g + 1) 37 4 (.slice A 0 c) 0 (flat [])) := Hown.out.alloc _
  clear h0
  generalize (w.alloc (.cells #[.int .i64 p.o, .int .i64 p.k, .int .i64 p.l, .int .i64 p.f] 37)).drewN nq = w1 at hP Hb1 Hh1 Hown1 ⊢
  have h0 := cell_blk Hh1.out 0
  simp only [List.getElem?_toArray, List.getElem?_cons_zero] at h0
  have p0 := hP.c0
  have p1 := hP.c1
  have p2 := hP.c2
  have p3 := hP.c3
  have hlt1 := lt_of_block Hh1.out
  go_wp2_with (at_builtin; refine wpList_append_own _ rfl (.tmp 27) (.tmp 29) 33 rfl (g + 1) 37 i (.agg #[.int .i64 0, .int .i64 0, .int .i64 0, .int .i64 0]) 4 32 Try.underlying33 hi hz0 hz1 hz2 rfl (by decide) _ _ _ rfl (Hown1.out.alloc _) ⟨w1.heap.size, 0, none⟩ 1 1 (pcC p) rfl rfl (four_new _ _ _) (pcC_one p) (by simp only [maxLen]; omega) (by omega) (by simp; omega) ?_; intro v2 w2 hown2 hg2 _; obtain ⟨A2, c2, rfl, _, _, _⟩ := own_form hown2; obtain ⟨hh2, hacc, hbel⟩ := Acc.put Hb1.out Hh1.out Hown1.out rfl hg2 hown2; have Hacc := Lib.hid hacc; have Hbel := Lib.hid hbel; have hf2 := free_blk hh2 0; have hc2 := cell_blk hh2 0; simp only [List.getElem?_toArray, List.getElem?_cons_zero] at hc2; clear hown2 hg2 hh2 hacc hbel)
  exact bodyPost_end (v := .tuple #[]) (by simp [results, Try.results26, go_sem]) rfl ⟨rfl, Hacc.out, Hbel.out⟩

/-- what is asked of the worlds where the closure asks whether the last piece goes on -/
theorem keepC {B g b gr e : Nat} {s x0 x1 x2 x3 y0 y1 y2 y3 : Value} {W0 W w1 : World}
    (h : W.cell? ⟨g, 0, none⟩ = some s ∧ W.cell? ⟨b, 0, none⟩ = some x0 ∧ W.cell? ⟨b, 1, none⟩ = some x1 ∧ W.cell? ⟨b, 2, none⟩ = some x2 ∧ W.cell? ⟨b, 3, none⟩ = some x3 ∧ W.cell? ⟨gr, e, none⟩ = some y0 ∧ W.cell? ⟨gr, e + 1, none⟩ = some y1 ∧ W.cell? ⟨gr, e + 2, none⟩ = some y2 ∧ W.cell? ⟨gr, e + 3, none⟩ = some y3 ∧ Hid (Below B W0 W))
    (hB : Hid (B ≤ W0.heap.size)) (hb : Below W.heap.size W w1) :
    w1.cell? ⟨g, 0, none⟩ = some s ∧ w1.cell? ⟨b, 0, none⟩ = some x0 ∧ w1.cell? ⟨b, 1, none⟩ = some x1 ∧ w1.cell? ⟨b, 2, none⟩ = some x2 ∧ w1.cell? ⟨b, 3, none⟩ = some x3 ∧ w1.cell? ⟨gr, e, none⟩ = some y0 ∧ w1.cell? ⟨gr, e + 1, none⟩ = some y1 ∧ w1.cell? ⟨gr, e + 2, none⟩ = some y2 ∧ w1.cell? ⟨gr, e + 3, none⟩ = some y3 ∧ Hid (Below B W0 w1) := by
  obtain ⟨h0, h1, h2, h3, h4, h5, h6, h7, h8, h9⟩ := h
  exact ⟨cellK h0 hb, cellK h1 hb, cellK h2 hb, cellK h3 hb, cellK h4 hb, cellK h5 hb, cellK h6 hb, cellK h7 hb, cellK h8 hb, Lib.hid (h9.out.trans (hb.mono (Nat.le_trans hB.out h9.out.size)))⟩
theorem startC {B g b gr e n c : Nat} {A : Option Addr} {p q : Pc} {W0 W : World} (h : Hid (Rds W g b A n c gr e p q)) (hb : Hid (Below B W0 W)) :
    W.drew.cell? ⟨g, 0, none⟩ = some (.slice A n c) ∧ W.drew.cell? ⟨b, 0, none⟩ = some (.int .i64 p.o) ∧ W.drew.cell? ⟨b, 1, none⟩ = some (.int .i64 p.k) ∧ W.drew.cell? ⟨b, 2, none⟩ = some (.int .i64 p.l) ∧ W.drew.cell? ⟨b, 3, none⟩ = some (.int .i64 p.f) ∧ W.drew.cell? ⟨gr, e, none⟩ = some (.int .i64 q.o) ∧ W.drew.cell? ⟨gr, e + 1, none⟩ = some (.int .i64 q.k) ∧ W.drew.cell? ⟨gr, e + 2, none⟩ = some (.int .i64 q.l) ∧ W.drew.cell? ⟨gr, e + 3, none⟩ = some (.int .i64 q.f) ∧ Hid (Below B W0 W.drew) :=
  ⟨h.out.c0, h.out.p0, h.out.p1, h.out.p2, h.out.p3, h.out.q0, h.out.q1, h.out.q2, h.out.q3, Lib.hid hb.out.drew⟩
theorem flat_at (r : List Pc) (q : Pc) (j : Nat) : (flat (r ++ [q]))[r.length * 4 + j]? = (pcC q)[j]? := by
  rw [flat_snoc, List.getElem?_append_right (by rw [flat_len]; omega), flat_len]
  congr 1
  omega
/-- the last piece's cells -/
theorem last_cells {w : World} {B : Nat} {v : Value} {r : List Pc} {q : Pc} (h : w.ownsRow B 37 4 v (r.length + 1) (flat (r ++ [q]))) : ∃ gr c, v = .slice (some ⟨gr, 0, none⟩) (r.length + 1) c ∧ r.length + 1 ≤ c ∧ c ≤ maxLen ∧ B ≤ gr ∧
    w.cell? ⟨gr, r.length * 4, none⟩ = some (.int .i64 q.o) ∧ w.cell? ⟨gr, r.length * 4 + 1, none⟩ = some (.int .i64 q.k) ∧ w.cell? ⟨gr, r.length * 4 + 2, none⟩ = some (.int .i64 q.l) ∧ w.cell? ⟨gr, r.length * 4 + 3, none⟩ = some (.int .i64 q.f) := by
  have h' := h
  rcases h'.2 with ⟨_, h0⟩ | ⟨gr, c, cur, rfl, hb, _, h1, h2, _⟩
  · omega
  · refine ⟨gr, c, rfl, h1, h2, hb, ?_, ?_, ?_, ?_⟩
    · rw [h.cellAt (r.length * 4) (by omega)]; exact flat_at r q 0
    · rw [h.cellAt (r.length * 4 + 1) (by omega)]; exact flat_at r q 1
    · rw [h.cellAt (r.length * 4 + 2) (by omega)]; exact flat_at r q 2
    · rw [h.cellAt (r.length * 4 + 3) (by omega)]; exact flat_at r q 3

theorem flat_set (r : List Pc) (q : Pc) (x : Nat) : (flat (r ++ [q])).set (r.length * 4 + 2) (.int .i64 ((q.l : Int) + (x : Int))) = flat (r ++ [⟨q.o, q.k, q.l + x, q.f⟩]) := by
  rw [flat_snoc, flat_snoc, List.set_append_right _ _ (by rw [flat_len]; omega), flat_len, show r.length * 4 + 2 - r.length * 4 = 2 by omega]
  simp [pcC]
theorem adj_is (b : Bool) (q p : Pc) (w : World) (hn : nxt q p = b) (hq : q.k + q.l ≤ 1000) :
    Calls Try.prog 27 #[.agg #[.int .i64 q.o, .int .i64 q.k, .int .i64 q.l, .int .i64 q.f], .agg #[.int .i64 p.o, .int .i64 p.k, .int .i64 p.l, .int .i64 p.f]] w fun e w' => e = .returned (.bool b) ∧ Below w.heap.size w w' := by
  subst hn
  exact adj_any q.o q.k q.l q.f p.o p.k p.l p.f w hq
theorem ownB {w w' : World} {B n s : Nat} {e : TypeId} {v : Value} {xs : List Value} (h : w.ownsRow B e s v n xs) (hb : Below w.heap.size w w') : w'.ownsRow B e s v n xs := by
  refine ⟨h.1, ?_⟩
  rcases h.2 with h | ⟨g, cap, cur, h1, h2, h3, h4⟩
  · exact .inl h
  · exact .inr ⟨g, cap, cur, h1, h2, (hb.block g (lt_of_block h3)).trans h3, h4⟩
theorem endC {g b gr e n c : Nat} {A : Option Addr} {p q : Pc} {W0 W : World} (h : W.cell? ⟨g, 0, none⟩ = some (.slice A n c) ∧ W.cell? ⟨b, 0, none⟩ = some (.int .i64 p.o) ∧ W.cell? ⟨b, 1, none⟩ = some (.int .i64 p.k) ∧ W.cell? ⟨b, 2, none⟩ = some (.int .i64 p.l) ∧ W.cell? ⟨b, 3, none⟩ = some (.int .i64 p.f) ∧ W.cell? ⟨gr, e, none⟩ = some (.int .i64 q.o) ∧ W.cell? ⟨gr, e + 1, none⟩ = some (.int .i64 q.k) ∧ W.cell? ⟨gr, e + 2, none⟩ = some (.int .i64 q.l) ∧ W.cell? ⟨gr, e + 3, none⟩ = some (.int .i64 q.f) ∧ Hid (Below W0.heap.size W0 W)) :
    Hid (Rds W g b A n c gr e p q) ∧ Hid (Below W0.heap.size W0 W) := by
  obtain ⟨h0, h1, h2, h3, h4, h5, h6, h7, h8, h9⟩ := h
  exact ⟨⟨h0, h1, h2, h3, h4, h5, h6, h7, h8⟩, h9⟩

set_option maxHeartbeats 1000000 in
theorem add_no (g : Nat) (r : List Pc) (q p : Pc) (w : World) (h : Acc w g (r ++ [q])) (hn : nxt q p = false) (hq : q.k + q.l ≤ 1000) (hr : r.length ≤ 1000) :
    Calls Try.prog 26 #[pcV p, .pointer (some ⟨g, 0, none⟩)] w fun e w' => e = .returned (.tuple #[]) ∧ Acc w' g (r ++ [q, p]) ∧ Below g w w' := by
  obtain ⟨i, hi, hz0, hz1, hz2⟩ := info_parts Try.infoP
  obtain ⟨v, hh, hown⟩ := h
  rw [show (r ++ [q]).length = r.length + 1 by simp] at hown
  have hlt := lt_of_block hh
  obtain ⟨gr, c, rfl, hc, hm, hgr, q0, q1, q2, q3⟩ := last_cells hown
  have h0 := cell_blk hh 0
  simp only [List.getElem?_toArray, List.getElem?_cons_zero] at h0
  have Hw : Hid (Below g w (w.alloc (.cells #[.int .i64 p.o, .int .i64 p.k, .int .i64 p.l, .int .i64 p.f] 37))) := ((Below.refl g w).alloc (by omega) _)
  have HR : Hid (Rds (w.alloc (.cells #[.int .i64 p.o, .int .i64 p.k, .int .i64 p.l, .int .i64 p.f] 37)) g w.heap.size (some ⟨gr, 0, none⟩) (r.length + 1) c gr (r.length * 4) p q) := by
    have hb := (Below.refl w.heap.size w).alloc (Nat.le_refl _) (.cells #[.int .i64 p.o, .int .i64 p.k, .int .i64 p.l, .int .i64 p.f] 37)
    have hp := PcAt.box w p 37
    exact ⟨cellK h0 hb, hp.c0, hp.c1, hp.c2, hp.c3, cellK q0 hb, cellK q1 hb, cellK q2 hb, cellK q3 hb⟩
  have Hh : Hid ((w.alloc (.cells #[.int .i64 p.o, .int .i64 p.k, .int .i64 p.l, .int .i64 p.f] 37)).heap[g]? = some (.cells #[.slice (some ⟨gr, 0, none⟩) (r.length + 1) c] 33 (0, 0))) := (Below.heap_alloc w _ g hlt).trans hh
  have Hown : Hid ((w.alloc (.cells #[.int .i64 p.o, .int .i64 p.k, .int .i64 p.l, .int .i64 p.f] 37)).ownsRow (g + 1) 37 4 (.slice (some ⟨gr, 0, none⟩) (r.length + 1) c) (r.length + 1) (flat (r ++ [q]))) := hown.alloc _
  have Hn := Lib.hid hn
  obtain ⟨k, hk⟩ : ∃ k, k = r.length := ⟨_, rfl⟩
  rw [← hk] at hc HR Hh Hown hr
  rw [← hk] at h0
  have Hk := Lib.hid hk
  have hk1 : (k : Int) < (k : Int) + 1 := by omega
  clear hh hown q0 q1 q2 q3 hn hk
  go_enter Try.func26, Try.ntmps26
  go_wp2_with fail
  clear h0
  generalize (w.alloc (.cells #[.int .i64 p.o, .int .i64 p.k, .int .i64 p.l, .int .i64 p.f] 37)) = w0 at Hw HR Hh Hown ⊢
  have HB := Lib.hid (Nat.le_refl w0.heap.size)
  have Hb0 := Lib.hid (Below.refl w0.heap.size w0)
  go_region_held3 (fun w' => w'.cell? ⟨g, 0, none⟩ = some (.slice (some ⟨gr, 0, none⟩) (k + 1) c) ∧ w'.cell? ⟨w.heap.size, 0, none⟩ = some (.int .i64 p.o) ∧ w'.cell? ⟨w.heap.size, 1, none⟩ = some (.int .i64 p.k) ∧ w'.cell? ⟨w.heap.size, 2, none⟩ = some (.int .i64 p.l) ∧ w'.cell? ⟨w.heap.size, 3, none⟩ = some (.int .i64 p.f) ∧ w'.cell? ⟨gr, k * 4, none⟩ = some (.int .i64 q.o) ∧ w'.cell? ⟨gr, k * 4 + 1, none⟩ = some (.int .i64 q.k) ∧ w'.cell? ⟨gr, k * 4 + 2, none⟩ = some (.int .i64 q.l) ∧ w'.cell? ⟨gr, k * 4 + 3, none⟩ = some (.int .i64 q.f) ∧ Hid (Below w0.heap.size w0 w'))
    (first | exact keepC (by assumption) HB (by assumption) | exact startC HR Hb0) (first
    | (go_at_call 27; refine (adj_is false q p _ Hn.out hq).mono ?_; rintro e w1 ⟨rfl, hb1⟩))
  obtain ⟨HR1, Hb1⟩ : Hid (Rds w1 g w.heap.size (some ⟨gr, 0, none⟩) (k + 1) c gr (k * 4) p q) ∧ Hid (Below w0.heap.size w0 w1) := endC (by assumption)
  have hg0 := lt_of_block Hh.out
  have Hw1 := Lib.hid (Hw.out.trans (Hb1.out.mono (Nat.le_of_lt hg0)))
  have Hh1 := Lib.hid ((Hb1.out.block g hg0).trans Hh.out)
  have Hown1 := Lib.hid (ownB Hown.out Hb1.out)
  clear Hb1 Hw Hh Hown HR hg0
  have h0 := HR1.out.c0
  have p0 := HR1.out.p0
  have p1 := HR1.out.p1
  have p2 := HR1.out.p2
  have p3 := HR1.out.p3
  have hlt1 := lt_of_block Hh1.out
  go_wp2_with (at_builtin; refine wpList_append_own _ rfl (.tmp 27) (.tmp 29) 33 rfl (g + 1) 37 i (.agg #[.int .i64 0, .int .i64 0, .int .i64 0, .int .i64 0]) 4 32 Try.underlying33 hi hz0 hz1 hz2 rfl (by decide) _ _ _ rfl (Hown1.out.alloc _) ⟨w1.heap.size, 0, none⟩ 1 1 (pcC p) rfl rfl (four_new _ _ _) (pcC_one p) (by simp only [maxLen]; omega) (by omega) (by simp; omega) ?_; intro v2 w2 hown2 hg2 _; obtain ⟨A2, c2, rfl, _, _, _⟩ := own_form hown2; obtain ⟨hh2, hacc, hbel⟩ := Acc.put Hw1.out Hh1.out Hown1.out (by rw [Hk.out]; simp) hg2 hown2; have Hacc := Lib.hid hacc; have Hbel := Lib.hid hbel; have hf2 := free_blk hh2 0; have hc2 := cell_blk hh2 0; simp only [List.getElem?_toArray, List.getElem?_cons_zero] at hc2; clear hown2 hg2 hh2 hacc hbel)
  have Hacc2 := Lib.hid (show Acc _ g (r ++ [q, p]) by have h := Hacc.out; rw [List.append_assoc] at h; exact h)
  exact bodyPost_end (v := .tuple #[]) (by simp [results, Try.results26, go_sem]) rfl ⟨rfl, Hacc2.out, Hbel.out⟩

set_option maxHeartbeats 1000000 in
theorem add_yes (g : Nat) (r : List Pc) (q p : Pc) (w : World) (h : Acc w g (r ++ [q])) (hn : nxt q p = true) (hq : q.k + q.l ≤ 1000) (hr : r.length ≤ 1000) (hl : q.l + p.l ≤ 1000) :
    Calls Try.prog 26 #[pcV p, .pointer (some ⟨g, 0, none⟩)] w fun e w' => e = .returned (.tuple #[]) ∧ Acc w' g (r ++ [⟨q.o, q.k, q.l + p.l, q.f⟩]) ∧ Below g w w' := by
  obtain ⟨i, hi, hz0, hz1, hz2⟩ := info_parts Try.infoP
  obtain ⟨v, hh, hown⟩ := h
  rw [show (r ++ [q]).length = r.length + 1 by simp] at hown
  have hlt := lt_of_block hh
  obtain ⟨gr, c, rfl, hc, hm, hgr, q0, q1, q2, q3⟩ := last_cells hown
  have h0 := cell_blk hh 0
  simp only [List.getElem?_toArray, List.getElem?_cons_zero] at h0
  have Hw : Hid (Below g w (w.alloc (.cells #[.int .i64 p.o, .int .i64 p.k, .int .i64 p.l, .int .i64 p.f] 37))) := ((Below.refl g w).alloc (by omega) _)
  have HR : Hid (Rds (w.alloc (.cells #[.int .i64 p.o, .int .i64 p.k, .int .i64 p.l, .int .i64 p.f] 37)) g w.heap.size (some ⟨gr, 0, none⟩) (r.length + 1) c gr (r.length * 4) p q) := by
    have hb := (Below.refl w.heap.size w).alloc (Nat.le_refl _) (.cells #[.int .i64 p.o, .int .i64 p.k, .int .i64 p.l, .int .i64 p.f] 37)
    have hp := PcAt.box w p 37
    exact ⟨cellK h0 hb, hp.c0, hp.c1, hp.c2, hp.c3, cellK q0 hb, cellK q1 hb, cellK q2 hb, cellK q3 hb⟩
  have Hh : Hid ((w.alloc (.cells #[.int .i64 p.o, .int .i64 p.k, .int .i64 p.l, .int .i64 p.f] 37)).heap[g]? = some (.cells #[.slice (some ⟨gr, 0, none⟩) (r.length + 1) c] 33 (0, 0))) := (Below.heap_alloc w _ g hlt).trans hh
  have Hown : Hid ((w.alloc (.cells #[.int .i64 p.o, .int .i64 p.k, .int .i64 p.l, .int .i64 p.f] 37)).ownsRow (g + 1) 37 4 (.slice (some ⟨gr, 0, none⟩) (r.length + 1) c) (r.length + 1) (flat (r ++ [q]))) := hown.alloc _
  have Hn := Lib.hid hn
  obtain ⟨k, hk⟩ : ∃ k, k = r.length := ⟨_, rfl⟩
  rw [← hk] at hc HR Hh Hown hr
  rw [← hk] at h0
  have Hk := Lib.hid hk
  have hk1 : (k : Int) < (k : Int) + 1 := by omega
  clear hh hown q0 q1 q2 q3 hn hk
  go_enter Try.func26, Try.ntmps26
  go_wp2_with fail
  clear h0
  generalize (w.alloc (.cells #[.int .i64 p.o, .int .i64 p.k, .int .i64 p.l, .int .i64 p.f] 37)) = w0 at Hw HR Hh Hown ⊢
  have HB := Lib.hid (Nat.le_refl w0.heap.size)
  have Hb0 := Lib.hid (Below.refl w0.heap.size w0)
  go_region_held3 (fun w' => w'.cell? ⟨g, 0, none⟩ = some (.slice (some ⟨gr, 0, none⟩) (k + 1) c) ∧ w'.cell? ⟨w.heap.size, 0, none⟩ = some (.int .i64 p.o) ∧ w'.cell? ⟨w.heap.size, 1, none⟩ = some (.int .i64 p.k) ∧ w'.cell? ⟨w.heap.size, 2, none⟩ = some (.int .i64 p.l) ∧ w'.cell? ⟨w.heap.size, 3, none⟩ = some (.int .i64 p.f) ∧ w'.cell? ⟨gr, k * 4, none⟩ = some (.int .i64 q.o) ∧ w'.cell? ⟨gr, k * 4 + 1, none⟩ = some (.int .i64 q.k) ∧ w'.cell? ⟨gr, k * 4 + 2, none⟩ = some (.int .i64 q.l) ∧ w'.cell? ⟨gr, k * 4 + 3, none⟩ = some (.int .i64 q.f) ∧ Hid (Below w0.heap.size w0 w'))
    (first | exact keepC (by assumption) HB (by assumption) | exact startC HR Hb0) (first
    | (go_at_call 27; refine (adj_is true q p _ Hn.out hq).mono ?_; rintro e w1 ⟨rfl, hb1⟩))
  obtain ⟨HR1, Hb1⟩ : Hid (Rds w1 g w.heap.size (some ⟨gr, 0, none⟩) (k + 1) c gr (k * 4) p q) ∧ Hid (Below w0.heap.size w0 w1) := endC (by assumption)
  have hg0 := lt_of_block Hh.out
  have Hw1 := Lib.hid (Hw.out.trans (Hb1.out.mono (Nat.le_of_lt hg0)))
  have Hh1 := Lib.hid ((Hb1.out.block g hg0).trans Hh.out)
  have Hown1 := Lib.hid (ownB Hown.out Hb1.out)
  clear Hb1 Hw Hh Hown HR hg0
  have hlt1 := lt_of_block Hh1.out
  have h0 := HR1.out.c0
  have p2 := HR1.out.p2
  have q2 := HR1.out.q2
  have hf := World.ownsRow.frozenAt Hown1.out (k * 4 + 2)
  have hsum : IntKind.i64.wrap ((q.l : Int) + (p.l : Int)) = ((q.l + p.l : Nat) : Int) := by rw [← Int.natCast_add]; exact wrapN (by omega)
  go_wp2_with fail
  go_region
  have Hst := Lib.hid (World.ownsRow.stored Hown1.out (k * 4 + 2) (.int .i64 ((q.l : Int) + (p.l : Int))))
  clear h0 p2 q2 hf hsum
  go_wp2_with fail
  refine bodyPost_ret (v := .tuple #[]) (by simp [results, Try.results26, go_sem]) rfl ⟨rfl, ⟨.slice (some ⟨gr, 0, none⟩) (k + 1) c, ?_, ?_⟩, ?_⟩
  · exact (Below.heap_setCell w1 _ _ g (by show g ≠ gr; omega)).trans Hh1.out
  · have h := Hst.out.1
    rw [Hk.out, flat_set] at h
    rw [show (r ++ [(⟨q.o, q.k, q.l + p.l, q.f⟩ : Pc)]).length = r.length + 1 by simp, Hk.out]
    exact h
  · exact (Hw1.out.setCell (by show g ≤ gr; omega) _).drew

/-- the closure of Pieces -/
theorem add_any (g : Nat) (ps : List Pc) (p : Pc) (w : World) (h : Acc w g ps) (hb : ∀ q, ps.getLast? = some q → q.k + q.l ≤ 1000 ∧ q.l + p.l ≤ 1000) (hl : ps.length ≤ 1000) :
    Calls Try.prog 26 #[pcV p, .pointer (some ⟨g, 0, none⟩)] w fun e w' => e = .returned (.tuple #[]) ∧ Acc w' g (addP ps p) ∧ Below g w w' := by
  rcases snoc_cases ps with rfl | ⟨r, q, rfl⟩
  · exact add_first g p w h
  · obtain ⟨h1, h2⟩ := hb q (by simp)
    simp at hl
    cases hn : nxt q p
    · rw [addP_no hn]
      exact add_no g r q p w h hn h1 (by omega)
    · rw [addP_yes hn]
      exact add_yes g r q p w h hn h1 (by omega) h2
theorem pcs_last {u c m : Nat} (h : LN u c m) (off f : Nat) (q : Pc) (hq : (pcs u c m off f).getLast? = some q) : q.k + q.l ≤ 64 := by
  have hc := cov_pcs h off f
  rcases snoc_cases (pcs u c m off f) with e | ⟨r, q', e⟩
  · rw [e] at hq; simp at hq
  · rw [e] at hq hc
    rw [List.getLast?_concat] at hq
    cases hq
    obtain ⟨_, _, _, _, h4, _⟩ := hc.inv
    have := h.um
    omega
end Go.Proofs.Ytbkdlpmaikilnaa
