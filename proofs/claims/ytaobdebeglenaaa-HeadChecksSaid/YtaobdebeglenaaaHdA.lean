/- Heads of images: how they are read; contracts of the document's Find, Newest, and of the laws' own few. -/
import Derived.Test.YtaobdebeglenaaaMe
import Derived.Test.YtaobdebeglenaaaObU
namespace Go.Proofs.Ytaobdebeglenaaa
open Go.RowKit

/-- snapshots that can be read -/
def RdN (w : World) (B : Nat) (A : Option Addr) (n : Nat) (ss : List Sn) : Prop :=
  ss.length = n ∧ ∀ j (h : j < ss.length), ∃ g o Aj nj cj, A = some ⟨g, o, none⟩ ∧ g < B ∧ w.cell? ⟨g, o + j * 3, none⟩ = some (.int .i64 ss[j].id) ∧ w.cell? ⟨g, o + j * 3 + 1, none⟩ = some (.int .i64 ss[j].size) ∧
    w.cell? ⟨g, o + j * 3 + 2, none⟩ = some (.slice Aj nj cj) ∧ RdI w B Aj nj ss[j].map ∧ nj ≤ 9223372036854775807
theorem RdN.nil (w : World) (B : Nat) (A : Option Addr) : RdN w B A 0 [] := ⟨rfl, fun j h => by simp at h⟩
theorem RdN.below {w w' : World} {B : Nat} {A : Option Addr} {n : Nat} {ss : List Sn} (h : RdN w B A n ss) (hb : Below B w w') : RdN w' B A n ss := by
  refine ⟨h.1, fun j hj => ?_⟩
  obtain ⟨g, o, Aj, nj, cj, h1, h2, h3, h4, h5, h6, h7⟩ := h.2 j hj
  exact ⟨g, o, Aj, nj, cj, h1, h2, (hb.cell h2).trans h3, (hb.cell h2).trans h4, (hb.cell h2).trans h5, h6.below hb, h7⟩
theorem RdN.more {w : World} {B B' : Nat} {A : Option Addr} {n : Nat} {ss : List Sn} (h : RdN w B A n ss) (hB : B ≤ B') : RdN w B' A n ss := by
  refine ⟨h.1, fun j hj => ?_⟩
  obtain ⟨g, o, Aj, nj, cj, h1, h2, h3, h4, h5, h6, h7⟩ := h.2 j hj
  exact ⟨g, o, Aj, nj, cj, h1, by omega, h3, h4, h5, h6.more hB, h7⟩
/-- a head's value -/
abbrev hV (U C O sz : Int) (Am : Option Addr) (nm cm : Nat) (As : Option Addr) (ns cs : Nat) (last seq : Int) : Value :=
  .agg #[.int .i64 U, .int .i64 C, .int .i64 O, .int .i64 sz, .slice Am nm cm, .slice As ns cs, .int .i64 last, .int .i64 seq]
/-- block b holds a head -/
structure HAt (b : Nat) (U C O sz : Int) (m s : Value) (last seq : Int) (w : World) : Prop where
  c0 : w.cell? ⟨b, 0, none⟩ = some (.int .i64 U)
  c1 : w.cell? ⟨b, 1, none⟩ = some (.int .i64 C)
  c2 : w.cell? ⟨b, 2, none⟩ = some (.int .i64 O)
  c3 : w.cell? ⟨b, 3, none⟩ = some (.int .i64 sz)
  c4 : w.cell? ⟨b, 4, none⟩ = some m
  c5 : w.cell? ⟨b, 5, none⟩ = some s
  c6 : w.cell? ⟨b, 6, none⟩ = some (.int .i64 last)
  c7 : w.cell? ⟨b, 7, none⟩ = some (.int .i64 seq)
theorem HAt.box (w : World) (U C O sz : Int) (m s : Value) (last seq : Int) (t : TypeId) : HAt w.heap.size U C O sz m s last seq (w.alloc (.cells #[.int .i64 U, .int .i64 C, .int .i64 O, .int .i64 sz, m, s, .int .i64 last, .int .i64 seq] t)) := by
  refine ⟨?_, ?_, ?_, ?_, ?_, ?_, ?_, ?_⟩ <;> (rw [cell_blk (heap_alloc_new w _)]; rfl)
theorem HAt.lt {b : Nat} {U C O sz : Int} {m s : Value} {last seq : Int} {w : World} (h : HAt b U C O sz m s last seq w) : b < w.heap.size := World.block_lt_of_cell? w _ h.c0
theorem HAt.to {b : Nat} {U C O sz : Int} {m s : Value} {last seq : Int} {w w' : World} (h : HAt b U C O sz m s last seq w) (hb : Below w.heap.size w w') : HAt b U C O sz m s last seq w' := by
  have hl := h.lt
  exact ⟨(hb.cell hl).trans h.c0, (hb.cell hl).trans h.c1, (hb.cell hl).trans h.c2, (hb.cell hl).trans h.c3, (hb.cell hl).trans h.c4, (hb.cell hl).trans h.c5, (hb.cell hl).trans h.c6, (hb.cell hl).trans h.c7⟩

theorem findH_step (l : List Sn) (x : Int) (j : Nat) (hj : j < l.length) (hn : ∀ s ∈ l.take j, s.id ≠ x) (he : l[j].id = x) : findH l x = j :=
  findH_at hj he fun i hi => hn _ (by
    have : (l.take j)[i]'(by rw [List.length_take]; omega) = l[i] := List.getElem_take
    rw [← this]
    exact List.getElem_mem _)

set_option maxRecDepth 10000 in
set_option maxHeartbeats 1000000 in
theorem RFind_any (U C O sz : Int) (Am : Option Addr) (nm cm : Nat) (As : Option Addr) (ns cs : Nat) (last seq x : Int) (ss : List Sn) (B : Nat) (w : World) (hr : RdN w B As ns ss) (hB : B ≤ w.heap.size) (hn : ns ≤ 100000) :
    Calls Try.prog 18 #[hV U C O sz Am nm cm As ns cs last seq, .int .i64 x] w fun e w' => e = .returned (.int .i64 (findH ss x)) ∧ Below w.heap.size w w' := by
  have Hb := Lib.hid ((Below.refl w.heap.size w).alloc (Nat.le_refl _) (.cells #[.int .i64 U, .int .i64 C, .int .i64 O, .int .i64 sz, .slice Am nm cm, .slice As ns cs, .int .i64 last, .int .i64 seq] 27))
  have Hr := Lib.hid (hr.below (Hb.out.mono hB))
  have Hh := Lib.hid (HAt.box w U C O sz (.slice Am nm cm) (.slice As ns cs) last seq 27)
  clear hr hB
  go_enter Try.func18, Try.ntmps18
  go_upto_region 1 with fail
  generalize w.alloc (.cells #[.int .i64 U, .int .i64 C, .int .i64 O, .int .i64 sz, .slice Am nm cm, .slice As ns cs, .int .i64 last, .int .i64 seq] 27) = w1 at Hb Hr Hh ⊢
  have c5 := Hh.out.c5
  obtain ⟨b, hbe⟩ : ∃ b, b = w.heap.size := ⟨_, rfl⟩
  rw [← hbe] at Hh c5 ⊢
  clear hbe
  go_wp2_with fail
  go_loopw [5] (fun i wr => wr = w1 ∧ ∃ j : Nat, j ≤ ns ∧ i = .int .i64 j ∧ Hid (∀ s ∈ ss.take j, s.id ≠ x)) (fun i _ => ns - (intOf i).toNat)
  case atStart => exact ⟨rfl, 0, Nat.zero_le _, rfl, fun s h => by simp at h⟩
  case round =>
    obtain ⟨rfl, j, hj, rfl, Hj⟩ := hrel
    by_cases hjn : j < ns
    · have hjl : j < ss.length := by rw [Hr.out.1]; exact hjn
      obtain ⟨g, o, Aj, nj, cj, rfl, hg, x0, x1, x2, h6, h7⟩ := Hr.out.2 j hjl
      have Hf : Hid (ss[j].id = x → findH ss x = j) := findH_step ss x j hjl Hj.out
      have Hst := Lib.hid (List.take_succ_eq_append_getElem hjl)
      clear x1 x2 h6
      generalize ss[j] = s at x0 Hf Hst
      have hj0 : (0 : Int) ≤ (j : Int) := by omega
      have hj1 : (j : Int) < (ns : Int) := by omega
      clear hjl
      by_cases hx : s.id = x
      · have He := Lib.hid (Hf.out hx)
        have hb : (s.id == x) = true := by simpa using hx
        go_wp2_with fail
        go_ret
        exact ⟨by first | (rw [He.out]; done) | (rw [He.out]; rfl), Hb.out⟩
      · have hb : (s.id == x) = false := by simpa using hx
        have Hj2 : Hid (∀ s ∈ ss.take (j + 1), s.id ≠ x) := fun t ht => by
          rw [Hst.out] at ht
          rcases List.mem_append.1 ht with h | h
          · exact Hj.out t h
          · simp at h; subst h; exact hx
        clear Hst Hf
        go_wp2_with fail
        go_roundw
        case rel => exact ⟨by first | rfl | trivial, j + 1, by omega, by go_num, Hj2⟩
        case measure => simp [intOf]; omega
    · obtain rfl : j = ns := by omega
      have He := Lib.hid (show findH ss x = -1 from findH_none (by have h := Hj.out; rwa [List.take_of_length_le (by rw [Hr.out.1]; exact Nat.le_refl _)] at h))
      go_wp2_with fail
      go_ret
      exact ⟨by first | (rw [He.out]; done) | (rw [He.out]; rfl), Hb.out⟩

theorem lastId_at : ∀ (a : Int) (l : List Sn) (k : Nat) (h : l.length = k + 1), lastId a l = (l[k]'(by omega)).id
  | _, [s], 0, _ => rfl
  | _, [], k, h => by simp at h
  | _, [_], k + 1, h => by simp at h
  | _, _ :: _ :: _, 0, h => by simp at h
  | _, s :: t :: r, k + 1, h => lastId_at s.id (t :: r) k (by simpa using h)
theorem newest_at (l : List Sn) (k : Nat) (h : l.length = k + 1) : newestH l = (l[k]'(by omega)).id := lastId_at 0 l k h
set_option maxRecDepth 10000 in
set_option maxHeartbeats 1000000 in
theorem RNewest_any (U C O sz : Int) (Am : Option Addr) (nm cm : Nat) (As : Option Addr) (ns cs : Nat) (last seq : Int) (ss : List Sn) (B : Nat) (w : World) (hr : RdN w B As ns ss) (hB : B ≤ w.heap.size) (hn : ns ≤ 100000) :
    Calls Try.prog 20 #[hV U C O sz Am nm cm As ns cs last seq] w fun e w' => e = .returned (.int .i64 (newestH ss)) ∧ Below w.heap.size w w' := by
  have Hb := Lib.hid ((Below.refl w.heap.size w).alloc (Nat.le_refl _) (.cells #[.int .i64 U, .int .i64 C, .int .i64 O, .int .i64 sz, .slice Am nm cm, .slice As ns cs, .int .i64 last, .int .i64 seq] 27))
  have Hr := Lib.hid (hr.below (Hb.out.mono hB))
  have Hh := Lib.hid (HAt.box w U C O sz (.slice Am nm cm) (.slice As ns cs) last seq 27)
  clear hr hB
  rcases Nat.eq_zero_or_pos ns with h0 | h0
  · subst h0
    obtain rfl : ss = [] := List.eq_nil_of_length_eq_zero Hr.out.1
    go_enter Try.func20, Try.ntmps20
    go_wp2_with fail
    go_ret
    exact ⟨rfl, Hb.out⟩
  · obtain ⟨k, rfl⟩ : ∃ k, ns = k + 1 := ⟨ns - 1, by omega⟩
    have hkl : k < ss.length := by rw [Hr.out.1]; omega
    have He := Lib.hid (newest_at ss k Hr.out.1)
    obtain ⟨g, o, Aj, nj, cj, rfl, hg, x0, x1, x2, h6, h7⟩ := Hr.out.2 k hkl
    clear x1 x2 h6
    generalize ss[k] = s at x0 He
    have hk0 : (0 : Int) ≤ (k : Int) := by omega
    have hk1 : (k : Int) < (k : Int) + 1 := by omega
    clear hkl
    go_enter Try.func20, Try.ntmps20
    go_upto_region 1 with fail
    generalize w.alloc (.cells #[.int .i64 U, .int .i64 C, .int .i64 O, .int .i64 sz, .slice Am nm cm, .slice (some ⟨g, o, none⟩) (k + 1) cs, .int .i64 last, .int .i64 seq] 27) = w1 at Hb Hr Hh x0 ⊢
    have c5 := Hh.out.c5
    obtain ⟨b, hbe⟩ : ∃ b, b = w.heap.size := ⟨_, rfl⟩
    rw [← hbe] at Hh c5 ⊢
    clear hbe
    go_wp2_with fail
    go_ret
    exact ⟨by first | (rw [He.out]; done) | (rw [He.out]; rfl), Hb.out⟩

/-- few snapshots, short maps -/
def fewB (nm ns : Nat) (ss : List Sn) : Bool := decide (nm ≤ 1000) && decide (ns ≤ 10) && ss.all fun s => decide (s.map.length ≤ 1000)
set_option maxRecDepth 10000 in
set_option maxHeartbeats 1000000 in
theorem few6 (U C O sz : Int) (Am : Option Addr) (nm cm : Nat) (As : Option Addr) (ns cs : Nat) (last seq : Int) (ss : List Sn) (B : Nat) (w : World) (hr : RdN w B As ns ss) (hB : B ≤ w.heap.size) :
    Calls Try.prog 11 #[hV U C O sz Am nm cm As ns cs last seq] w fun e w' => e = .returned (.bool (fewB nm ns ss)) ∧ Below w.heap.size w w' := by
  have Hb := Lib.hid ((Below.refl w.heap.size w).alloc (Nat.le_refl _) (.cells #[.int .i64 U, .int .i64 C, .int .i64 O, .int .i64 sz, .slice Am nm cm, .slice As ns cs, .int .i64 last, .int .i64 seq] 27))
  have Hr := Lib.hid (hr.below (Hb.out.mono hB))
  have Hh := Lib.hid (HAt.box w U C O sz (.slice Am nm cm) (.slice As ns cs) last seq 27)
  clear hr hB
  by_cases h1 : nm ≤ 1000
  · have h1' : (nm : Int) ≤ 1000 := by omega
    by_cases h2 : ns ≤ 10
    · have h2' : (ns : Int) ≤ 10 := by omega
      have HF := Lib.hid (show fewB nm ns ss = ss.all fun s => decide (s.map.length ≤ 1000) by unfold fewB; simp [h1, h2])
      go_enter Try.func11, Try.ntmps11
      go_upto_region 1 with fail
      generalize w.alloc (.cells #[.int .i64 U, .int .i64 C, .int .i64 O, .int .i64 sz, .slice Am nm cm, .slice As ns cs, .int .i64 last, .int .i64 seq] 27) = w1 at Hb Hr Hh ⊢
      have c4 := Hh.out.c4
      have c5 := Hh.out.c5
      obtain ⟨b, hbe⟩ : ∃ b, b = w.heap.size := ⟨_, rfl⟩
      rw [← hbe] at Hh c4 c5 ⊢
      clear hbe
      go_wp2_with fail
      go_loopw [3] (fun i wr => wr = w1 ∧ ∃ j : Nat, j ≤ ns ∧ i = .int .i64 j ∧ Hid ((ss.take j).all (fun s => decide (s.map.length ≤ 1000)) = true)) (fun i _ => ns - (intOf i).toNat)
      case atStart => exact ⟨rfl, 0, Nat.zero_le _, rfl, rfl⟩
      case round =>
        obtain ⟨rfl, j, hj, rfl, Hj⟩ := hrel
        by_cases hjn : j < ns
        · have hjl : j < ss.length := by rw [Hr.out.1]; exact hjn
          obtain ⟨g, o, Aj, nj, cj, rfl, hg, x0, x1, x2, h6, h7⟩ := Hr.out.2 j hjl
          have Hst := Lib.hid (List.take_succ_eq_append_getElem hjl)
          have Hall := Lib.hid (List.getElem_mem hjl)
          have Hlen := Lib.hid h6.1
          clear x0 x1 h6
          generalize ss[j] = s at Hst Hlen Hall
          have hj0 : (0 : Int) ≤ (j : Int) := by omega
          have hj1 : (j : Int) < (ns : Int) := by omega
          clear hjl
          by_cases hx : nj ≤ 1000
          · have hx' : (nj : Int) ≤ 1000 := by omega
            have Hj2 : Hid ((ss.take (j + 1)).all (fun s => decide (s.map.length ≤ 1000)) = true) := by
              show _ = _
              rw [Hst.out, List.all_append, Hj.out]
              simp [Hlen.out, hx]
            clear Hst
            go_wp2_with fail
            go_roundw
            case rel => exact ⟨by first | rfl | trivial, j + 1, by omega, by go_num, Hj2⟩
            case measure => simp [intOf]; omega
          · have hx' : 1000 < (nj : Int) := by omega
            have He := Lib.hid (show fewB nm ns ss = false by
              rw [HF.out, List.all_eq_false]
              exact ⟨s, Hall.out, by simp [Hlen.out]; omega⟩)
            go_wp2_with fail
            go_ret
            exact ⟨by first | (rw [He.out]; done) | (rw [He.out]; rfl), Hb.out⟩
        · obtain rfl : j = ns := by omega
          have He := Lib.hid (show fewB nm j ss = true by rw [HF.out]; have h := Hj.out; rwa [List.take_of_length_le (by rw [Hr.out.1]; exact Nat.le_refl _)] at h)
          go_wp2_with fail
          go_ret
          exact ⟨by first | (rw [He.out]; done) | (rw [He.out]; rfl), Hb.out⟩
    · have h2' : 10 < (ns : Int) := by omega
      have He := Lib.hid (show fewB nm ns ss = false by unfold fewB; simp [h2])
      go_enter Try.func11, Try.ntmps11
      go_wp2_with fail
      go_ret
      exact ⟨by first | (rw [He.out]; done) | (rw [He.out]; rfl), Hb.out⟩
  · have h1' : 1000 < (nm : Int) := by omega
    have He := Lib.hid (show fewB nm ns ss = false by unfold fewB; simp [h1])
    go_enter Try.func11, Try.ntmps11
    go_wp2_with fail
    go_ret
    exact ⟨by first | (rw [He.out]; done) | (rw [He.out]; rfl), Hb.out⟩
end Go.Proofs.Ytaobdebeglenaaa
