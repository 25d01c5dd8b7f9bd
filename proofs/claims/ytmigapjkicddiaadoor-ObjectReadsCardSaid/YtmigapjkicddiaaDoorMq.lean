/- The document's Do, whole; the walk's forms. Objects, plain: what was written is read. Ops among a law's arguments: how a slice of them reads. Objects, plain: a clone of the data stays. -/
import Derived.Test.YtmigapjkicddiaaDoorMv
import Derived.Test.YtmigapjkicddiaaDoorMm
import Derived.Test.YtmigapjkicddiaaDoorMp

namespace Go.Proofs.YtmigapjkicddiaaDoor
open Go.RowKit

set_option maxRecDepth 10000 in
theorem RDo8 (Ad : Option Addr) (nd cd : Nat) (Ak : Option Addr) (nk ck : Nat) (s : Int) (d : List UInt8) (ks : List Ky) (t : Bool) (k f n : Int) (X : List UInt8) (Ap : Option Addr) (np cp : Nat) (D : List UInt8) (B : Nat) (w : World) (hB : B ≤ w.heap.size) (hd : Rd w B Ad nd d) (hr : RdK w B Ak nk ks)
    (hD : Rd w B Ap np D) (hnp : np ≤ 9223372036854775807) (hX : X.length ≤ 9223372036854775807) :
    Calls Tryd.prog 23 #[oV Ad nd cd Ak nk ck s, .bool t, pV k f n X Ap np cp] w (DoR w (doO ⟨d, ks, s⟩ t ⟨k, f, n, X, D⟩)) := by
  by_cases h : mayO ⟨d, ks, s⟩ = true ∧ 1 ≤ k ∧ k ≤ 14
  · exact RDo8_yes Ad nd cd Ak nk ck s d ks t k f n X Ap np cp D B w hB hd hr hD hnp hX h.1 h.2.1 h.2.2
  · refine (RDo8_no Ad nd cd Ak nk ck s d ks t k f n X Ap np cp D B w hB hd.1 hr h).mono ?_
    rintro e w' ⟨rfl, e1, hb⟩
    exact ⟨oV0, by rw [e1], by rw [e1]; exact (OjC.zero _).at, hb⟩
/-- what Do tells, its value written out -/
def DoX (w : World) (r : Oj × Bool × Bool × Int) (e : Ending) (w' : World) : Prop :=
  ∃ Ad nd cd Ak nk ck s, e = .returned (.tuple #[oV Ad nd cd Ak nk ck s, .bool r.2.1, .bool r.2.2.1, .int .i64 r.2.2.2]) ∧ Hid (s = r.1.seq) ∧ Hid (Rd w' w'.heap.size Ad nd r.1.data) ∧ Hid (RdK w' w'.heap.size Ak nk r.1.keys) ∧ Hid (nd ≤ 64 ∧ nk ≤ 120) ∧ Hid (Below w.heap.size w w')
theorem do_x {w w' : World} {o : Oj} {v : Value} {a b : Bool} {c : Int} (hm : mayO o = true) (h1 : OjAt w' o v) (hb : Below w.heap.size w w') : DoX w (o, a, b, c) (.returned (.tuple #[v, .bool a, .bool b, .int .i64 c])) w' := by
  obtain ⟨Ad, nd, cd, Ak, nk, ck, rfl, g1, g2, g3⟩ := h1
  obtain ⟨m1, m2, _⟩ := (mayO_iff _).1 hm
  exact ⟨Ad, nd, cd, Ak, nk, ck, o.seq, rfl, rfl, g1, g3, ⟨by rw [← g1.1]; exact m1, by rw [← g3.1]; exact m2⟩, hb⟩
theorem DoR.x {w w' : World} {o : Oj} {t : Bool} {p : Opr} {e : Ending} (h : DoR w (doO o t p) e w') : DoX w (doO o t p) e w' := by
  obtain ⟨v, rfl, h1, hb⟩ := h
  exact do_x (do_may o t p) h1.out hb.out
theorem DoP.x {w w' : World} {o : Oj} {t : Bool} {p : Opr} {e : Ending} (h : DoP w (doO o t p) e w') : DoX w (doO o t p) e w' := by
  obtain ⟨v, rfl, h1, hb⟩ := h
  exact do_x (do_may o t p) h1.out.at hb.out
end Go.Proofs.YtmigapjkicddiaaDoor

namespace Go.Proofs.YtmigapjkicddiaaDoor
open Go.RowKit

theorem byteO_wrO (d D : List UInt8) (F i : Nat) : byteO (wrO d F D) i = if F ≤ i ∧ i < F + D.length then byteO D (i - F) else byteO d i := by
  unfold wrO
  by_cases hi : i < max d.length (F + D.length)
  · rw [byteO_lt (by rw [wrJ_len]; exact hi)]
    simp [wrJ]
  · rw [byteO_ge (by rw [wrJ_len]; omega), if_neg (by omega), byteO_ge (by omega)]
theorem byteO_zerJ (d : List UInt8) (F j i : Nat) : byteO (zerJ d F j) i = if F ≤ i ∧ i < F + j then 0 else byteO d i := by
  by_cases hi : i < d.length
  · rw [byteO_lt (by rw [zerJ_len]; exact hi)]
    simp [zerJ]
  · rw [byteO_ge (by rw [zerJ_len]; omega)]
    split
    · rfl
    · rw [byteO_ge (by omega)]
theorem readO_nat (d : List UInt8) (F N : Nat) (h : F + N ≤ 64) : readO d (F : Int) (N : Int) = (List.range N).map fun i => byteO d (F + i) := by
  unfold readO
  rw [if_neg (by omega)]
  rfl
theorem rd_in (d D : List UInt8) (F : Nat) (h : F + D.length ≤ 64) : readO (wrO d F D) (F : Int) (D.length : Int) = D := by
  rw [readO_nat _ _ _ h]
  apply List.ext_getElem
  · simp
  intro i h1 h2
  rw [List.getElem_map, List.getElem_range, byteO_wrO, if_pos (by omega), Nat.add_sub_cancel_left, byteO_lt h2]
theorem rd_before (d D : List UInt8) (F : Nat) (h : F ≤ 64) : readO (wrO d F D) 0 (F : Int) = readO d 0 (F : Int) := by
  have h1 := readO_nat (wrO d F D) 0 F (by omega)
  have h2 := readO_nat d 0 F (by omega)
  rw [show (0 : Int) = ((0 : Nat) : Int) from rfl, h1, h2]
  apply List.map_congr_left
  intro i hi
  have := List.mem_range.1 hi
  rw [byteO_wrO, if_neg (by omega)]
theorem rd_after (d D : List UInt8) (F : Nat) (h : F + D.length ≤ 64) (E G : Int) (hE : E = (F : Int) + D.length) (hG : G = 64 - E) : readO (wrO d F D) E G = readO d E G := by
  obtain ⟨N, hN⟩ : ∃ N : Nat, G = N := ⟨G.toNat, by omega⟩
  have e1 : E = ((F + D.length : Nat) : Int) := by omega
  rw [e1, hN, readO_nat _ _ _ (by omega), readO_nat _ _ _ (by omega)]
  apply List.map_congr_left
  intro i hi
  rw [byteO_wrO, if_neg (by omega)]
theorem rd_zero (x : List UInt8) (F N : Nat) (h : F + N ≤ 64) : readO (zerJ x F N) (F : Int) (N : Int) = List.replicate N 0 := by
  rw [readO_nat _ _ _ h]
  apply List.ext_getElem
  · simp
  intro i h1 h2
  rw [List.getElem_map, List.getElem_range, byteO_zerJ, if_pos (by simp at h2; omega), List.getElem_replicate]
theorem rd_zero_after (d D : List UInt8) (F : Nat) (h : F + D.length ≤ 64) (E G : Int) (hE : E = (F : Int) + D.length) (hG : G = 64 - E) : readO (zerJ (wrO d F D) F D.length) E G = readO d E G := by
  rw [← rd_after d D F h E G hE hG]
  obtain ⟨N, hN⟩ : ∃ N : Nat, G = N := ⟨G.toNat, by omega⟩
  have e1 : E = ((F + D.length : Nat) : Int) := by omega
  rw [e1, hN, readO_nat _ _ _ (by omega), readO_nat _ _ _ (by omega)]
  apply List.map_congr_left
  intro i hi
  rw [byteO_zerJ, if_neg (by omega)]
theorem do_write_bad (o : Oj) (f : Int) (D : List UInt8) (hm : mayO o = true) (h : f < 0 ∨ f > 64 ∨ f + D.length > 64) : doO o true ⟨5, f, 0, [], D⟩ = (oj0, false, false, 2) := by
  unfold doO
  rw [if_pos ⟨hm, by show (1 : Int) ≤ 5; decide, by show (5 : Int) ≤ 14; decide⟩, if_pos rfl, step_dat _ _ _ (by show (4 : Int) < 5; decide) (by show (5 : Int) ≤ 7; decide)]
  have e : dataO o.data ⟨5, f, 0, [], D⟩ = none := by
    show (if f < 0 ∨ f > 64 ∨ (D.length : Int) > 64 ∨ f + D.length > 64 then none else some (wrO o.data f.toNat D)) = none
    rw [if_pos (by omega)]
  rw [e]
  rfl
theorem do_write (o : Oj) (F : Nat) (D : List UInt8) (hm : mayO o = true) (h : F + D.length ≤ 64) : doO o true ⟨5, (F : Int), 0, [], D⟩ = (⟨wrO o.data F D, o.keys, o.seq⟩, true, true, 0) := by
  unfold doO
  rw [if_pos ⟨hm, by show (1 : Int) ≤ 5; decide, by show (5 : Int) ≤ 14; decide⟩, if_pos rfl, step_dat _ _ _ (by show (4 : Int) < 5; decide) (by show (5 : Int) ≤ 7; decide)]
  have e : dataO o.data ⟨5, (F : Int), 0, [], D⟩ = some (wrO o.data F D) := by
    show (if (F : Int) < 0 ∨ (F : Int) > 64 ∨ (D.length : Int) > 64 ∨ (F : Int) + D.length > 64 then none else some (wrO o.data (F : Int).toNat D)) = _
    rw [if_neg (by omega)]
    rfl
  rw [e]
  rfl
theorem do_zero (o : Oj) (F N : Nat) (hm : mayO o = true) (h : F + N ≤ 64) : doO o true ⟨6, (F : Int), (N : Int), [], []⟩ = (⟨zerJ o.data F N, o.keys, o.seq⟩, true, true, 0) := by
  unfold doO
  rw [if_pos ⟨hm, by show (1 : Int) ≤ 6; decide, by show (6 : Int) ≤ 14; decide⟩, if_pos rfl, step_dat _ _ _ (by show (4 : Int) < 6; decide) (by show (6 : Int) ≤ 7; decide)]
  have e : dataO o.data ⟨6, (F : Int), (N : Int), [], []⟩ = some (zerJ o.data F N) := by
    show (if (6 : Int) = 5 then _ else if (6 : Int) = 6 then (if (F : Int) < 0 ∨ (F : Int) > 64 ∨ (N : Int) < 0 ∨ (N : Int) > 64 ∨ (F : Int) + N > 64 then none else some (zerJ o.data (F : Int).toNat (N : Int).toNat)) else _) = _
    rw [if_neg (by decide), if_pos rfl, if_neg (by omega)]
    rfl
  rw [e]
  rfl
/-- what object.Do tells, its value and its data's room written out -/
def DoY (w : World) (r : Oj × Bool × Bool × Int) (e : Ending) (w' : World) : Prop :=
  ∃ Ad nd cd Ak nk ck s, e = .returned (.tuple #[oV Ad nd cd Ak nk ck s, .bool r.2.1, .bool r.2.2.1, .int .i64 r.2.2.2]) ∧ Hid (s = r.1.seq) ∧ Hid (Rd w' w'.heap.size Ad nd r.1.data) ∧ Hid (RdK w' w'.heap.size Ak nk r.1.keys) ∧ Hid (nd ≤ cd ∧ cd ≤ 9223372036854775807) ∧ Hid (nd ≤ 64 ∧ nk ≤ 120) ∧ Hid (Below w.heap.size w w')
theorem DoP.y {w w' : World} {o : Oj} {t : Bool} {p : Opr} {e : Ending} (h : DoP w (doO o t p) e w') : DoY w (doO o t p) e w' := by
  obtain ⟨v, rfl, h1, hb⟩ := h
  obtain ⟨m1, m2, _⟩ := (mayO_iff _).1 (do_may o t p)
  obtain ⟨Ad, nd, cd, Ak, nk, ck, rfl, g1, g2, g3⟩ := h1.out
  exact ⟨Ad, nd, cd, Ak, nk, ck, _, rfl, rfl, g1, g3, g2, ⟨by rw [← g1.1]; exact m1, by rw [← g3.1]; exact m2⟩, hb⟩
end Go.Proofs.YtmigapjkicddiaaDoor

namespace Go.Proofs.YtmigapjkicddiaaDoor
open Go.ChangeShapes Go.WideShapes Go.ChangeAt Go.RowKit Go.Joins

/-- an op and where its data lies -/
structure Ov where
  p : Opr
  A : Option Addr
  n : Nat
  c : Nat
instance inhOv : Inhabited Ov := ⟨⟨⟨0, 0, 0, [], []⟩, none, 0, 0⟩⟩
/-- ops that can be read -/
def OpsAt (w : World) (B : Nat) (A : Option Addr) (n : Nat) (vs : List Ov) : Prop :=
  vs.length = n ∧ ∀ j (h : j < vs.length), ∃ g o, A = some ⟨g, o, none⟩ ∧ g < B ∧
    w.cell? ⟨g, o + j * 5, none⟩ = some (.int .i64 vs[j].p.k) ∧ w.cell? ⟨g, o + j * 5 + 1, none⟩ = some (.int .i64 vs[j].p.f) ∧ w.cell? ⟨g, o + j * 5 + 2, none⟩ = some (.int .i64 vs[j].p.n) ∧ w.cell? ⟨g, o + j * 5 + 3, none⟩ = some (.string ⟨vs[j].p.name.toArray⟩) ∧ w.cell? ⟨g, o + j * 5 + 4, none⟩ = some (.slice vs[j].A vs[j].n vs[j].c) ∧
    Rd w B vs[j].A vs[j].n vs[j].p.data ∧ (vs[j].n ≤ vs[j].c ∧ vs[j].c ≤ 9223372036854775807) ∧ vs[j].p.name.length ≤ 9223372036854775807 ∧ I64 vs[j].p.f
theorem OpsAt.below {w w' : World} {B : Nat} {A : Option Addr} {n : Nat} {vs : List Ov} (h : OpsAt w B A n vs) (hb : Below B w w') : OpsAt w' B A n vs := by
  refine ⟨h.1, fun j hj => ?_⟩
  obtain ⟨g, o, h1, h2, a0, a1, a2, a3, a4, h5, h6⟩ := h.2 j hj
  exact ⟨g, o, h1, h2, (hb.cell h2).trans a0, (hb.cell h2).trans a1, (hb.cell h2).trans a2, (hb.cell h2).trans a3, (hb.cell h2).trans a4, h5.below hb, h6⟩
section
variable {H : Type} {enc : TypeId × Value → H} {w : World} {base : Nat} {spare : Nat → Bool} {held : Bool}
set_option maxRecDepth 10000 in
theorem op_op {fuel : Nat} {cs : List Value} {x : DataW H × List MemPlace} (h : DataW.trod enc Tryd.prog w base spare held fuel 38 cs = some x) :
    ∃ z : Ov, cs = [.int .i64 z.p.k, .int .i64 z.p.f, .int .i64 z.p.n, .string ⟨z.p.name.toArray⟩, .slice z.A z.n z.c] ∧ Rd w w.heap.size z.A z.n z.p.data ∧ (z.n ≤ z.c ∧ z.c ≤ 9223372036854775807) ∧ z.p.name.length ≤ 9223372036854775807 ∧ I64 z.p.f := by
  obtain ⟨ys, n', _, _, hcl, hyl, hf⟩ := DataW.trod_struct Tryd.underlying38 h
  have hc5 : cs.length = 5 := hcl
  match cs, hc5 with
  | [v0, v1, v2, v3, v4], _ =>
    match ys, hyl with
    | [y0, y1, y2, y3, y4], _ =>
      obtain ⟨z0, e0, i0⟩ := op_int Tryd.underlying3 (show DataW.trod enc Tryd.prog w base spare held n' 3 [v0] = some y0 from hf 0 _ rfl)
      obtain ⟨z1, e1, i1⟩ := op_int Tryd.underlying3 (show DataW.trod enc Tryd.prog w base spare held n' 3 [v1] = some y1 from hf 1 _ rfl)
      obtain ⟨z2, e2, i2⟩ := op_int Tryd.underlying3 (show DataW.trod enc Tryd.prog w base spare held n' 3 [v2] = some y2 from hf 2 _ rfl)
      obtain ⟨X, e3, k0⟩ := op_str8 (show DataW.trod enc Tryd.prog w base spare held n' 9 [v3] = some y3 from hf 3 _ rfl)
      obtain ⟨A, n, c, l, e4, k1, k2, k3⟩ := op_bytes Tryd.underlying22 Tryd.underlying5 (by kernel_rfl) (show DataW.trod enc Tryd.prog w base spare held n' 22 [v4] = some y4 from hf 4 _ rfl)
      cases e0; cases e1; cases e2; cases e3; cases e4
      exact ⟨⟨⟨z0, z1, z2, X, l⟩, A, n, c⟩, rfl, k1, ⟨k2, k3⟩, k0, i1⟩
set_option maxRecDepth 10000 in
theorem op_ops {fuel : Nat} {cs : List Value} {x : DataW H × List MemPlace} (h : DataW.trod enc Tryd.prog w base spare held fuel 42 cs = some x) :
    ∃ A n c vs, cs = [.slice A n c] ∧ OpsAt w w.heap.size A n vs ∧ n ≤ c ∧ c ≤ 9223372036854775807 := by
  rcases Go.Deep.open_slice Tryd.underlying42 h with ⟨hcs, _⟩ | ⟨a, len, cap, m, n, D, Pl, hcs, hb, hl, hm, hmm, _, hi⟩
  · exact ⟨none, 0, 0, [], hcs, ⟨rfl, fun j hj => by simp at hj⟩, Nat.le_refl _, by omega⟩
  · have hm : cap ≤ 9223372036854775807 := by simpa [maxLen] using hm
    have hlm : len ≤ m := by rw [hmm]; split <;> omega
    have hC : Tryd.prog.cellsOf 38 = 5 := by kernel_rfl
    have each : ∀ i, i < len → ∃ z : Ov, w.cell? (a.add (i * 5)) = some (.int .i64 z.p.k) ∧ w.cell? ((a.add (i * 5)).add 1) = some (.int .i64 z.p.f) ∧ w.cell? ((a.add (i * 5)).add 2) = some (.int .i64 z.p.n) ∧ w.cell? ((a.add (i * 5)).add 3) = some (.string ⟨z.p.name.toArray⟩) ∧ w.cell? ((a.add (i * 5)).add 4) = some (.slice z.A z.n z.c) ∧ Rd w w.heap.size z.A z.n z.p.data ∧ (z.n ≤ z.c ∧ z.c ≤ 9223372036854775807) ∧ z.p.name.length ≤ 9223372036854775807 ∧ I64 z.p.f := fun i hi' => by
      obtain ⟨cs', h1, h2⟩ := hi i (by omega)
      rw [hC] at h1
      obtain ⟨_, hcl, hat⟩ := World.cells?_some h1
      obtain ⟨z, e, k1⟩ := op_op h2
      subst e
      have q0 := hat 0 (by omega)
      rw [show (a.add (i * 5)).add 0 = a.add (i * 5) from by simp [Addr.add]] at q0
      exact ⟨z, q0, hat 1 (by omega), hat 2 (by omega), hat 3 (by omega), hat 4 (by omega), k1⟩
    obtain ⟨Z, hZ⟩ := Go.Deep.choose_lt each
    refine ⟨some a, len, cap, (List.range len).map Z, hcs, ⟨by simp, fun i hi' => ?_⟩, hl, hm⟩
    simp only [List.length_map, List.length_range] at hi'
    have h2 := hZ i hi'
    have hs : a.spot = none := by
      have h1 := World.cell?_spot (hZ 0 (by omega)).1
      simpa [Addr.add] using h1
    obtain ⟨g, o, s⟩ := a
    obtain rfl : s = none := hs
    have hadd : ∀ o j, (⟨g, o, none⟩ : Addr).add j = ⟨g, o + j, none⟩ := fun o j => by unfold Addr.add; split <;> simp_all
    simp only [hadd] at h2
    simp only [List.getElem_map, List.getElem_range]
    exact ⟨g, o, rfl, World.block_lt_of_cell? w _ h2.1, h2.1, h2.2.1, h2.2.2.1, h2.2.2.2.1, h2.2.2.2.2.1, h2.2.2.2.2.2⟩
set_option maxRecDepth 10000 in
theorem ar_ops {b0 : Nat} {r : Reach} {v : Value} {d : DataW H} {ps : List MemPlace} (k : Value.okWide Tryd.prog w r b0 42 v) (h : DataW.Trod enc Tryd.prog w base spare held 42 v d ps) :
    ∃ A n c vs, v = .slice A n c ∧ OpsAt w w.heap.size A n vs ∧ n ≤ c ∧ c ≤ 9223372036854775807 := by
  obtain ⟨a, n, c, rfl⟩ := okWide_slice Tryd.underlying42 k
  obtain ⟨fuel, hf⟩ := h
  obtain ⟨A, n', c', vs, e, h1, h2⟩ := op_ops hf
  have e2 : (.slice a n c : Value) = .slice A n' c' := by simpa [Value.cells] using e
  cases e2
  exact ⟨_, _, _, vs, rfl, h1, h2⟩
end
end Go.Proofs.YtmigapjkicddiaaDoor

namespace Go.Proofs.YtmigapjkicddiaaDoor
open Go.RowKit

theorem name_len {X : List UInt8} (h : nameB X = true) : 1 ≤ X.length ∧ X.length ≤ 12 := by
  unfold nameB at h
  simp only [Bool.and_eq_true, decide_eq_true_eq] at h
  exact h.1
theorem forN_self {X : List UInt8} (h : nameB X = true) : forN X X = true := by
  have h1 := (name_len h).1
  exact forN_of (bl_irr X) (by omega) (by omega) rfl
theorem bl_more : ∀ (X Y : List UInt8), 0 < Y.length → Op.bytesLess X (X ++ Y) = true
  | [], Y, h => by
    cases Y with
    | nil => simp at h
    | cons a r => rfl
  | a :: r, Y, h => by
    have h1 := bl_more r Y h
    simp [Op.bytesLess, h1]
theorem forN_more (X Y : List UInt8) (h : 0 < Y.length) : forN X (X ++ Y) = false := forN_no (bl_more X Y h)
theorem at_in {X d D : List UInt8} (h : nameB X = true) : atK D [⟨X, d⟩] X = d := by
  unfold atK
  rw [if_pos (forN_self h)]
theorem at_more (X d D Y : List UInt8) (h : 0 < Y.length) : atK D [⟨X, d⟩] (X ++ Y) = D := by
  unfold atK
  rw [if_neg (by rw [forN_more X Y h]; simp)]
  rfl
theorem step_clone (o : Oj) (X : List UInt8) : stepO o true ⟨11, 0, 0, X, []⟩ = (⟨o.data, (cloneK o.keys X o.data).1, o.seq⟩, true, true, (cloneK o.keys X o.data).2) := rfl
theorem do_step (o : Oj) (p : Opr) (hm : mayO o = true) (h1 : 1 ≤ p.k) (h2 : p.k ≤ 14) : doO o true p = endO (stepO o true p) := by
  unfold doO
  rw [if_pos ⟨hm, h1, h2⟩, if_pos rfl]
theorem cl_no {d X : List UInt8} {s : Int} (hm : mayO ⟨d, [], s⟩ = true) (hn : nameB X = false) : doO ⟨d, [], s⟩ true ⟨11, 0, 0, X, []⟩ = (oj0, false, false, 2) := by
  rw [do_step _ _ hm (by show (1 : Int) ≤ 11; decide) (by show (11 : Int) ≤ 14; decide), step_clone]
  have e : cloneK [] X d = ([], 2) := by
    unfold cloneK setK
    rw [if_neg (by simp [hasK]), if_neg (by simp [hn])]
  show endO (⟨d, (cloneK [] X d).1, s⟩, true, true, (cloneK [] X d).2) = _
  rw [e]
  rfl
theorem cl_yes {d X : List UInt8} {s : Int} (hm : mayO ⟨d, [], s⟩ = true) (hn : nameB X = true) : doO ⟨d, [], s⟩ true ⟨11, 0, 0, X, []⟩ = (⟨d, [⟨X, d⟩], s⟩, true, true, 0) := by
  rw [do_step _ _ hm (by show (1 : Int) ≤ 11; decide) (by show (11 : Int) ≤ 14; decide), step_clone]
  have hd : d.length ≤ 64 := ((mayO_iff _).1 hm).1
  have e : cloneK [] X d = ([⟨X, d⟩], 0) := by
    unfold cloneK setK
    rw [if_neg (by simp [hasK]), if_pos ⟨hn, by omega, .inl (by simp)⟩]
    rfl
  show endO (⟨d, (cloneK [] X d).1, s⟩, true, true, (cloneK [] X d).2) = _
  rw [e]
  rfl
theorem cl_again {o : Oj} {d X : List UInt8} (hm : mayO o = true) (hk : o.keys = [⟨X, d⟩]) (hn : nameB X = true) : doO o true ⟨11, 0, 0, X, []⟩ = (o, true, true, 0) := by
  rw [do_step _ _ hm (by show (1 : Int) ≤ 11; decide) (by show (11 : Int) ≤ 14; decide), step_clone]
  have e : cloneK o.keys X o.data = (o.keys, 0) := by
    unfold cloneK
    rw [if_pos (by rw [hk]; simp [hasK, forN_self hn])]
  rw [e]
  rfl
theorem cl_back {o : Oj} {d X : List UInt8} (hm : mayO o = true) (hk : o.keys = [⟨X, d⟩]) (hn : nameB X = true) (hd : d.length ≤ 64) : doO o true ⟨14, 0, 0, X, []⟩ = (⟨d, o.keys, o.seq⟩, true, true, 0) := by
  rw [do_step _ _ hm (by show (1 : Int) ≤ 14; decide) (by show (14 : Int) ≤ 14; decide)]
  have e : stepO o true ⟨14, 0, 0, X, []⟩ = (⟨atK o.data o.keys X, o.keys, o.seq⟩, true, true, if (atK o.data o.keys X).length > 64 then 2 else 0) := rfl
  rw [e, hk, at_in hn, if_neg (by omega)]
  rfl
theorem cl_loop {o : Oj} {p : Opr} (hm : mayO o = true) (hk : p.k = 5 ∨ p.k = 6 ∨ p.k = 7 ∨ p.k = 8 ∨ p.k = 12) (h0 : (doO o true p).2.2.2 = 0) : (doO o true p).1.keys = o.keys := by
  rw [do_step _ _ hm (by omega) (by omega)] at h0 ⊢
  have key : (stepO o true p).1.keys = o.keys ∧ (stepO o true p).2.1 = true := by
    rcases hk with h | h | h | h | h
    · rw [step_dat _ _ _ (by omega) (by omega)]
      cases dataO o.data p <;> exact ⟨rfl, rfl⟩
    · rw [step_dat _ _ _ (by omega) (by omega)]
      cases dataO o.data p <;> exact ⟨rfl, rfl⟩
    · rw [step_dat _ _ _ (by omega) (by omega)]
      cases dataO o.data p <;> exact ⟨rfl, rfl⟩
    · unfold stepO
      rw [if_neg (by omega), if_neg (by omega), if_pos h]
      exact ⟨rfl, rfl⟩
    · unfold stepO
      rw [if_neg (by omega), if_neg (by omega), if_neg (by omega), if_neg (by omega), if_neg (by omega), if_neg (by omega), if_pos h]
      exact ⟨rfl, rfl⟩
  unfold endO at h0 ⊢
  by_cases he : (stepO o true p).2.2.2 = 0
  · rw [if_pos he]
    show (if (stepO o true p).2.1 = true then (stepO o true p).1 else oj0).keys = _
    rw [if_pos key.2]
    exact key.1
  · rw [if_neg he] at h0
    exact absurd h0 he
/-- what a guard tells: the object as it was -/
theorem do_guard {o : Oj} {t : Bool} {p : Opr} (hm : mayO o = true) (h1 : 1 ≤ p.k) (h2 : p.k ≤ 4) (h0 : (doO o t p).2.2.2 = 0) : (doO o t p).1 = (if t = true then o else oj0) ∧ (doO o t p).2.1 = t := by
  unfold doO at h0 ⊢
  rw [if_pos ⟨hm, h1, by omega⟩] at h0 ⊢
  have e : stepO (if t = true then o else oj0) t p = ((if t = true then o else oj0), t, (guardO (if t = true then o else oj0) t p).1, (guardO (if t = true then o else oj0) t p).2) := by
    conv => lhs; unfold stepO
    rw [if_pos h2]
  rw [e] at h0 ⊢
  unfold endO at h0 ⊢
  by_cases he : (guardO (if t = true then o else oj0) t p).2 = 0
  · rw [if_pos he]
    cases t
    · exact ⟨rfl, rfl⟩
    · exact ⟨rfl, rfl⟩
  · rw [if_neg he] at h0
    exact absurd h0 he
end Go.Proofs.YtmigapjkicddiaaDoor
