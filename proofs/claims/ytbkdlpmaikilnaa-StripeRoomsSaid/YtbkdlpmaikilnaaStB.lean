/- Contracts of package stripe: place, valid, Place, Back; the document's May, place, Place, Back. -/
import Derived.Test.YtbkdlpmaikilnaaStA
import Derived.Test.YtbkdlpmaikilnaaStP
namespace Go.Proofs.Ytbkdlpmaikilnaa
open Go.RowKit

theorem wrapN {n : Nat} (h : n ≤ 9223372036854775807) : IntKind.i64.wrap (n : Int) = n := IntWalk.i64_in _ (by omega)
theorem LN.u64 {u c m : Nat} (h : LN u c m) : u ≤ 64 := Nat.le_trans (Nat.le_mul_of_pos_right u h.m1) h.um
theorem LN.um1 {u c m : Nat} (h : LN u c m) : 1 ≤ u * m := Nat.mul_pos h.u1 h.m1
theorem LN.S1 {u c m : Nat} (h : LN u c m) : 1 ≤ u * m * c := Nat.mul_pos h.um1 h.c1
theorem LN.S512 {u c m : Nat} (h : LN u c m) : u * m * c ≤ 512 := Nat.mul_le_mul h.um h.c8
theorem LN.R1 {u c m : Nat} (h : LN u c m) : 1 ≤ u * c := Nat.mul_pos h.u1 h.c1
theorem LN.R512 {u c m : Nat} (h : LN u c m) : u * c ≤ 512 := Nat.mul_le_mul h.u64 h.c8
theorem Lay.num {U C O : Int} (h : Lay U C O) : ∃ u c m : Nat, U = u ∧ C = c ∧ O = (u * m : Nat) ∧ LN u c m := by
  obtain ⟨h1, h2, h3, h4, h5, h6⟩ := h
  obtain ⟨u, rfl⟩ := Int.eq_ofNat_of_zero_le (show 0 ≤ U by omega)
  obtain ⟨c, rfl⟩ := Int.eq_ofNat_of_zero_le (show 0 ≤ C by omega)
  obtain ⟨o, rfl⟩ := Int.eq_ofNat_of_zero_le (show 0 ≤ O by omega)
  have h7 : o % u = 0 := by exact_mod_cast h6
  have h8 : o = u * (o / u) := by have := Nat.div_add_mod o u; omega
  refine ⟨u, c, o / u, rfl, rfl, by rw [← h8], by omega, by omega, by omega, Nat.div_pos (by omega) (by omega), by rw [← h8]; omega⟩
theorem LN.lay {u c m : Nat} (h : LN u c m) : Lay (u : Int) (c : Int) ((u * m : Nat) : Int) := by
  have h1 := h.u1; have h2 := h.c1; have h3 := h.c8; have h4 := h.um
  have h5 : u ≤ u * m := Nat.le_mul_of_pos_right u h.m1
  refine ⟨by omega, by omega, by omega, by omega, by omega, ?_⟩
  have : u * m % u = 0 := Nat.mul_mod_right u m
  exact_mod_cast this
theorem pO_le {u c m : Nat} (h : LN u c m) (off : Nat) : pO u c m off ≤ off := by
  obtain ⟨s, row, col, x, hx, hc, hr, rfl⟩ := dig_of h off
  rw [pO_dig hx hc hr]
  unfold dig
  have h1 : s * c ≤ s * m * c := Nat.mul_le_mul_right _ (Nat.le_mul_of_pos_right s h.m1)
  have h2 : s * m * c ≤ (s * m + row) * c := Nat.mul_le_mul_right _ (Nat.le_add_right _ _)
  have h3 : (s * m + row) * c + col ≤ ((s * m + row) * c + col) * u := Nat.le_mul_of_pos_right _ h.u1
  omega
theorem pK_le {u c m : Nat} (h : LN u c m) (off : Nat) : pK u c m off ≤ 64 := by have := pK_lt h off; have := h.um; omega

theorem place_any (u c m off : Nat) (w : World) (h : LN u c m) (hoff : off ≤ 576460752303423488) :
    Calls Try.prog 24 #[.agg #[.int .i64 u, .int .i64 c, .int .i64 ((u * m : Nat) : Int)], .int .i64 off] w fun e w' => e = .returned (.tuple #[.int .i64 (pO u c m off), .int .i64 (pK u c m off)]) ∧ Below w.heap.size w w' := by
  have b1 : off / (u * m * c) ≤ off := Nat.div_le_self _ _
  have b2 : off % (u * m * c) < u * m * c := Nat.mod_lt _ h.S1
  have b3 : off % (u * m * c) / (u * c) ≤ off % (u * m * c) := Nat.div_le_self _ _
  have b4 : off % (u * m * c) % (u * c) < u * c := Nat.mod_lt _ h.R1
  have b5 : off % (u * m * c) % (u * c) / u ≤ off % (u * m * c) % (u * c) := Nat.div_le_self _ _
  have b6 : off / (u * m * c) * c ≤ off * 8 := Nat.mul_le_mul b1 h.c8
  have b7 : off % (u * m * c) / (u * c) * u ≤ 512 * 64 := Nat.mul_le_mul (by have := h.S512; omega) h.u64
  have b8 : off % (u * m * c) % (u * c) % u < u := Nat.mod_lt _ h.u1
  have hS := h.S512
  have hR := h.R512
  have hu := h.u64
  have e1 := place_o u c m off
  have e2 := place_k u c m off
  rw [← e1, ← e2]
  refine place_let (u : Int) (c : Int) ((u * m : Nat) : Int) (off : Int) ((u * m * c : Nat) : Int) ((u * c : Nat) : Int) ((off / (u * m * c) : Nat) : Int) ((off % (u * m * c) : Nat) : Int) ((off % (u * m * c) / (u * c) : Nat) : Int) ((off % (u * m * c) % (u * c) : Nat) : Int)
    ((off / (u * m * c) * c : Nat) : Int) ((off % (u * m * c) % (u * c) / u : Nat) : Int) _ ((off % (u * m * c) / (u * c) * u : Nat) : Int) ((off % (u * m * c) % (u * c) % u : Nat) : Int) _ w (by norm_cast) (by have := h.S1; omega) (by omega) (by norm_cast) (by have := h.R1; omega) (by omega) (by have := h.u1; omega) ?_ ?_ ?_ ?_ ?_ ?_ ?_ ?_ ?_ ?_
  · rw [← Int.ofNat_tdiv]; exact wrapN (by omega)
  · rw [← Int.ofNat_tmod]
  · rw [← Int.ofNat_tdiv]; exact wrapN (by omega)
  · rw [← Int.ofNat_tmod]
  · rw [← Int.natCast_mul]; exact wrapN (by omega)
  · rw [← Int.ofNat_tdiv]; exact wrapN (by omega)
  · rw [← Int.natCast_add]; exact wrapN (by omega)
  · rw [← Int.natCast_mul]; exact wrapN (by omega)
  · rw [← Int.ofNat_tmod]
  · rw [← Int.natCast_add]; exact wrapN (by omega)

/-- is an argument within its bounds? -/
def far (z : Int) : Bool := decide (0 ≤ z) && decide (z ≤ 1099511627776)

set_option maxHeartbeats 1000000 in
theorem valid_any (U C O : Int) (A : Option Addr) (n c : Nat) (l : List Int) (B : Nat) (w : World) (hr : RdI w B A n l) (hB : B ≤ w.heap.size) (hn : n ≤ 1000) :
    Calls Try.prog 23 #[.agg #[.int .i64 U, .int .i64 C, .int .i64 O], .slice A n c] w fun e w' => e = .returned (.bool (l.all far && decide (Lay U C O))) ∧ Below w.heap.size w w' := by
  have Hr := Lib.hid (hr.alloc hB (.cells #[.int .i64 U, .int .i64 C, .int .i64 O] 23))
  have Hl := Lib.hid hr.1
  clear hr
  go_enter Try.func23, Try.ntmps23
  go_wp2_with fail
  have HL := Lib.hid (LayAt.box w U C O 23)
  have Hb0 := Lib.hid ((Below.refl w.heap.size w).alloc (Nat.le_refl _) (.cells #[.int .i64 U, .int .i64 C, .int .i64 O] 23))
  generalize w.alloc (.cells #[.int .i64 U, .int .i64 C, .int .i64 O] 23) = w0 at Hr HL Hb0 ⊢
  go_loopw [9] (fun i wr => wr = w0 ∧ ∃ j : Nat, j ≤ n ∧ i = .int .i64 j ∧ Hid ((l.take j).all far = true)) (fun i _ => n - (intOf i).toNat)
  case atStart => exact ⟨rfl, 0, Nat.zero_le _, rfl, rfl⟩
  case round =>
    obtain ⟨rfl, j, hj, rfl, Hj⟩ := hrel
    have c0 := HL.out.c0
    have c1 := HL.out.c1
    have c2 := HL.out.c2
    by_cases hjn : j < n
    · obtain ⟨ad, rfl, _, hcell⟩ := Hr.out.cellAt hjn
      have hlj : j < l.length := by rw [Hl.out]; exact hjn
      obtain ⟨z, hz⟩ : ∃ z, z = l[j] := ⟨_, rfl⟩
      rw [← hz] at hcell
      have Hs := Lib.hid (show (l.take (j + 1)).all far = far z by rw [List.take_succ_eq_append_getElem hlj, List.all_append, Hj.out, ← hz]; simp)
      clear hz hlj
      by_cases hz0 : z < 0
      · have hf : far z = false := by unfold far; rw [decide_eq_false (by omega)]; rfl
        have Hno := Lib.hid (show (l.all far && decide (Lay U C O)) = false by rw [← List.take_append_drop (j + 1) l, List.all_append, Hs.out, hf]; rfl)
        clear hf
        go_wp2_with fail
        go_ret
        exact ⟨by rw [Hno.out]; rfl, Hb0.out⟩
      · by_cases hz1 : 1099511627776 < z
        · have hf : far z = false := by unfold far; rw [decide_eq_false (p := z ≤ 1099511627776) (by omega)]; simp
          have Hno := Lib.hid (show (l.all far && decide (Lay U C O)) = false by rw [← List.take_append_drop (j + 1) l, List.all_append, Hs.out, hf]; rfl)
          clear hf
          go_wp2_with fail
          go_ret
          exact ⟨by rw [Hno.out]; rfl, Hb0.out⟩
        · have hf : far z = true := by unfold far; rw [decide_eq_true (by omega), decide_eq_true (by omega)]; rfl
          have Hj1 := Lib.hid (Hs.out.trans hf)
          clear hf
          go_wp2_with fail
          go_roundw
          case rel => exact ⟨by first | rfl | trivial, j + 1, by omega, by go_num, Hj1⟩
          case measure => simp [intOf]; omega
    · obtain rfl : j = n := by omega
      have Hall := Lib.hid (show l.all far = true by have h := Hj.out; rwa [List.take_of_length_le (by rw [Hl.out]; exact Nat.le_refl _)] at h)
      go_wp2_with fail
      refine (Check_any U C O _).mono ?_
      rintro e w1 ⟨rfl, hb1⟩
      have Hb1 := Lib.hid (Hb0.out.trans (hb1.mono Hb0.out.size))
      by_cases hLay : Lay U C O
      · have hk : chk U C O = 0 := if_pos hLay
        rw [hk]
        have Hno := Lib.hid (show (l.all far && decide (Lay U C O)) = true by rw [Hall.out, decide_eq_true hLay]; rfl)
        clear hk hLay hb1
        go_wp2_with fail
        go_ret
        exact ⟨by rw [Hno.out]; rfl, Hb1.out⟩
      · have hk : chk U C O = 1 := if_neg hLay
        rw [hk]
        have Hno := Lib.hid (show (l.all far && decide (Lay U C O)) = false by rw [Hall.out, decide_eq_false hLay]; rfl)
        clear hk hLay hb1
        go_wp2_with fail
        go_ret
        exact ⟨by rw [Hno.out]; rfl, Hb1.out⟩

theorem lit1 (w : World) (t : TypeId) (x : Int) (b : Nat) (hb : b = w.heap.size) : RdI (w.alloc (.cells #[.int .i64 x] t)) (w.heap.size + 1) (some ⟨b, 0, none⟩) 1 [x] := by subst hb; exact RdI_lit w t [x]
theorem lit2 (w : World) (t : TypeId) (x y : Int) (b : Nat) (hb : b = w.heap.size) : RdI (w.alloc (.cells #[.int .i64 x, .int .i64 y] t)) (w.heap.size + 1) (some ⟨b, 0, none⟩) 2 [x, y] := by subst hb; exact RdI_lit w t [x, y]

theorem LayAt.to {b : Nat} {U C O : Int} {w w' : World} (h : LayAt b U C O w) (hb : Below w.heap.size w w') : LayAt b U C O w' := h.below hb h.lt
theorem LayAt.more {b : Nat} {U C O : Int} {w : World} (h : LayAt b U C O w) (o : Obj) : LayAt b U C O (w.alloc o) := h.to ((Below.refl _ _).alloc (Nat.le_refl _) o)
theorem bel1 {w w1 : World} {o : Obj} (h : Below (w.alloc o).heap.size (w.alloc o) w1) : Below w.heap.size w w1 :=
  ((Below.refl w.heap.size w).alloc (Nat.le_refl _) o).trans (h.mono (by simp))
theorem bel2 {w w1 : World} {o o' : Obj} (h : Below ((w.alloc o).alloc o').heap.size ((w.alloc o).alloc o') w1) : Below w.heap.size w w1 := bel1 (bel1 h)

set_option maxHeartbeats 1000000 in
theorem Place_ok (u c m off : Nat) (w : World) (h : LN u c m) (hoff : off ≤ 1099511627776) :
    Calls Try.prog 11 #[.agg #[.int .i64 u, .int .i64 c, .int .i64 ((u * m : Nat) : Int)], .int .i64 off] w fun e w' => e = .returned (.tuple #[.int .i64 (pO u c m off), .int .i64 (pK u c m off)]) ∧ Below w.heap.size w w' := by
  have Hv := Lib.hid (show ([(off : Int)].all far && decide (Lay (u : Int) (c : Int) ((u * m : Nat) : Int))) = true by
    rw [decide_eq_true h.lay]; simp [far]; omega)
  have H := fun w => Lib.hid (place_any u c m off w h (by omega))
  clear h
  generalize ((u * m : Nat) : Int) = O at Hv H ⊢
  generalize pO u c m off = ro at H ⊢
  generalize pK u c m off = rk at H ⊢
  go_enter Try.func11, Try.ntmps11
  go_wp2_with fail
  refine (valid_any u c O _ 1 1 [(off : Int)] _ _ (lit1 _ _ _ _ (by simp)) (by simp) (by omega)).mono ?_
  rintro e w1 ⟨rfl, hb1⟩
  rw [Hv.out]
  have HL := ((LayAt.box w u c O 23).more (.cells #[.int .i64 off] 3)).to hb1
  have c0 := HL.c0
  have c1 := HL.c1
  have c2 := HL.c2
  have Hb1 := Lib.hid (bel2 hb1)
  clear HL hb1
  go_wp2_with fail
  refine (H w1).out.mono ?_
  rintro e w2 ⟨rfl, hb2⟩
  have Hb2 := Lib.hid (Hb1.out.trans (hb2.mono Hb1.out.size))
  clear hb2
  go_wp2_with fail
  exact bodyPost_ret (v := .tuple #[.int .i64 ro, .int .i64 rk]) (by simp [results, Try.results11, go_sem]) rfl ⟨rfl, Hb2.out⟩

set_option maxHeartbeats 1000000 in
theorem Place_no (U C O off : Int) (w : World) (h : ¬ (Lay U C O ∧ 0 ≤ off ∧ off ≤ 1099511627776)) :
    Calls Try.prog 11 #[.agg #[.int .i64 U, .int .i64 C, .int .i64 O], .int .i64 off] w fun e w' => e = .returned (.tuple #[.int .i64 (-1), .int .i64 (-1)]) ∧ Below w.heap.size w w' := by
  have Hv := Lib.hid (show ([(off : Int)].all far && decide (Lay U C O)) = false by
    cases hq : ([(off : Int)].all far && decide (Lay U C O))
    · rfl
    · exfalso; apply h; simp [far] at hq; exact ⟨hq.2, hq.1.1, hq.1.2⟩)
  clear h
  go_enter Try.func11, Try.ntmps11
  go_wp2_with fail
  refine (valid_any U C O _ 1 1 [(off : Int)] _ _ (lit1 _ _ _ _ (by simp)) (by simp) (by omega)).mono ?_
  rintro e w1 ⟨rfl, hb1⟩
  rw [Hv.out]
  have Hb1 := Lib.hid (bel2 hb1)
  clear hb1
  go_wp2_with fail
  exact bodyPost_ret (v := .tuple #[.int .i64 (-1), .int .i64 (-1)]) (by simp [results, Try.results11, go_sem]) rfl ⟨rfl, Hb1.out⟩

set_option maxHeartbeats 1000000 in
theorem Back_no (U C O ob off : Int) (w : World) (h : ¬ (Lay U C O ∧ 0 ≤ ob ∧ ob ≤ 1099511627776 ∧ 0 ≤ off ∧ off < O)) :
    Calls Try.prog 14 #[.agg #[.int .i64 U, .int .i64 C, .int .i64 O], .int .i64 ob, .int .i64 off] w fun e w' => e = .returned (.int .i64 (-1)) ∧ Below w.heap.size w w' := by
  by_cases hv : ([ob, off].all far && decide (Lay U C O)) = true
  · have hO : O ≤ off := by
      simp [far] at hv
      refine Int.not_lt.1 fun q => h ⟨hv.2, hv.1.1.1, hv.1.1.2, hv.1.2.1, q⟩
    have Hv := Lib.hid hv
    clear h hv
    go_enter Try.func14, Try.ntmps14
    go_wp2_with fail
    refine (valid_any U C O _ 2 2 [ob, off] _ _ (lit2 _ _ _ _ _ (by simp)) (by simp) (by omega)).mono ?_
    rintro e w1 ⟨rfl, hb1⟩
    rw [Hv.out]
    have HL := ((LayAt.box w U C O 23).more (.cells #[.int .i64 ob, .int .i64 off] 3)).to hb1
    have c2 := HL.c2
    have Hb1 := Lib.hid (bel2 hb1)
    clear HL hb1
    go_wp2_with fail
    go_ret
    exact ⟨rfl, Hb1.out⟩
  · have Hv := Lib.hid (Bool.eq_false_iff.2 hv)
    clear h hv
    go_enter Try.func14, Try.ntmps14
    go_wp2_with fail
    refine (valid_any U C O _ 2 2 [ob, off] _ _ (lit2 _ _ _ _ _ (by simp)) (by simp) (by omega)).mono ?_
    rintro e w1 ⟨rfl, hb1⟩
    rw [Hv.out]
    have Hb1 := Lib.hid (bel2 hb1)
    clear hb1
    go_wp2_with fail
    go_ret
    exact ⟨rfl, Hb1.out⟩

set_option maxHeartbeats 1000000 in
/-- Back, with letters for what it reckons -/
theorem Back_let (U C O ob off S q1 r1 q2 e1 e2 e3 e4 e5 r2 e6 : Int) (w : World) (hv : ([ob, off].all far && decide (Lay U C O)) = true) (hlt : off < O) (hS : O * C = S) (hS0 : 1 ≤ S) (hS1 : S ≤ 512) (hU : 1 ≤ U) (hC : 1 ≤ C)
    (hob : 0 ≤ ob) (hq1 : wrap64 (off.tdiv U) = q1) (hr1 : ob % C = r1) (hq2 : IntKind.i64.wrap (ob.tdiv C) = q2) (he1 : IntKind.i64.wrap (q2 * S) = e1) (he2 : IntKind.i64.wrap (q1 * C) = e2) (he3 : IntKind.i64.wrap (e2 + r1) = e3) (he4 : IntKind.i64.wrap (e3 * U) = e4)
    (he5 : IntKind.i64.wrap (e1 + e4) = e5) (hr2 : off.tmod U = r2) (he6 : IntKind.i64.wrap (e5 + r2) = e6) :
    Calls Try.prog 14 #[.agg #[.int .i64 U, .int .i64 C, .int .i64 O], .int .i64 ob, .int .i64 off] w fun e w' => e = .returned (.int .i64 e6) ∧ Below w.heap.size w w' := by
  have Hv := Lib.hid hv
  have HS := Lib.hid hS
  have HS0 := Lib.hid (show 0 ≤ S by omega)
  have hUn : U ≠ 0 := by omega
  have hCn : C ≠ 0 := by omega
  clear hv hS
  go_enter Try.func14, Try.ntmps14
  go_wp2_with fail
  refine (valid_any U C O _ 2 2 [ob, off] _ _ (lit2 _ _ _ _ _ (by simp)) (by simp) (by omega)).mono ?_
  rintro e w1 ⟨rfl, hb1⟩
  rw [Hv.out]
  have HL := Lib.hid (((LayAt.box w U C O 23).more (.cells #[.int .i64 ob, .int .i64 off] 3)).to hb1)
  have c0 := HL.out.c0
  have c1 := HL.out.c1
  have c2 := HL.out.c2
  have Hb1 := Lib.hid (bel2 hb1)
  have HB := Lib.hid (Nat.le_refl w.heap.size)
  clear hb1
  go_wp2_with fail
  go_region_held3 (fun w' => w'.cell? ⟨w.heap.size, 0, none⟩ = some (.int .i64 U) ∧ w'.cell? ⟨w.heap.size, 1, none⟩ = some (.int .i64 C) ∧ w'.cell? ⟨w.heap.size, 2, none⟩ = some (.int .i64 O) ∧ Hid (Below w.heap.size w w')) (first | exact keepL (by assumption) HB (by assumption) | exact startL HL Hb1 | exact startD HL Hb1) (first
    | (go_at_call 25; refine (set_any U C O S _ HS.out HS0.out hS1).mono ?_; rintro e w1 ⟨rfl, hb1⟩))
  obtain ⟨HL2, Hb2⟩ : Hid (LayAt w.heap.size U C O w1) ∧ Hid (Below w.heap.size w w1) := bothL (by assumption)
  clear HL Hb1
  go_wp2_with fail
  go_ret
  exact ⟨rfl, Hb2.out⟩

theorem wrapEq (x : Int) : IntKind.i64.wrap x = wrap64 x := by rw [IntKind.wrap_i64]; unfold wrap64; omega
theorem wrap64N {n : Nat} (h : n ≤ 9223372036854775807) : wrap64 (n : Int) = n := by rw [← wrapEq]; exact wrapN h
theorem tdivN (a b : Nat) : (a : Int).tdiv (b : Int) = ((a / b : Nat) : Int) := (Int.ofNat_tdiv a b).symm
theorem tmodN (a b : Nat) : (a : Int).tmod (b : Int) = ((a % b : Nat) : Int) := (Int.ofNat_tmod a b).symm

theorem Back_ok (u c m ob off : Nat) (w : World) (h : LN u c m) (hob : ob ≤ 1099511627776) (hoff : off < u * m) :
    Calls Try.prog 14 #[.agg #[.int .i64 u, .int .i64 c, .int .i64 ((u * m : Nat) : Int)], .int .i64 ob, .int .i64 off] w fun e w' => e = .returned (.int .i64 (bk u c m ob off)) ∧ Below w.heap.size w w' := by
  have hS := h.S512
  have hu := h.u64
  have hum := h.um
  have hc8 := h.c8
  have b1 : off / u ≤ off := Nat.div_le_self _ _
  have b2 : ob % c < c := Nat.mod_lt _ h.c1
  have b3 : ob / c ≤ ob := Nat.div_le_self _ _
  have b4 : ob / c * (u * m * c) ≤ ob * 512 := Nat.mul_le_mul b3 hS
  have b5 : off / u * c ≤ 64 * 8 := Nat.mul_le_mul (by omega) h.c8
  have b6 : (off / u * c + ob % c) * u ≤ (64 * 8 + 8) * 64 := Nat.mul_le_mul (by have := h.c8; omega) hu
  have b7 : off % u < u := Nat.mod_lt _ h.u1
  have e1 := back_eq u c m ob off
  rw [← e1]
  have hv : ([(ob : Int), (off : Int)].all far && decide (Lay (u : Int) (c : Int) ((u * m : Nat) : Int))) = true := by
    rw [decide_eq_true h.lay]; simp [far]; omega
  refine Back_let (u : Int) (c : Int) ((u * m : Nat) : Int) (ob : Int) (off : Int) ((u * m * c : Nat) : Int) ((off / u : Nat) : Int) ((ob % c : Nat) : Int) ((ob / c : Nat) : Int) ((ob / c * (u * m * c) : Nat) : Int) ((off / u * c : Nat) : Int) ((off / u * c + ob % c : Nat) : Int) (((off / u * c + ob % c) * u : Nat) : Int)
    ((ob / c * (u * m * c) + (off / u * c + ob % c) * u : Nat) : Int) ((off % u : Nat) : Int) _ w hv (by omega) (by norm_cast) (by have := h.S1; omega) (by omega) (by have := h.u1; omega) (by have := h.c1; omega) (by omega) ?_ (by norm_cast) ?_ ?_ ?_ ?_ ?_ ?_ ?_ ?_
  · rw [tdivN]; exact wrap64N (by omega)
  · rw [tdivN]; exact wrapN (by omega)
  · rw [← Int.natCast_mul]; exact wrapN (by omega)
  · rw [← Int.natCast_mul]; exact wrapN (by omega)
  · rw [← Int.natCast_add]; exact wrapN (by omega)
  · rw [← Int.natCast_mul]; exact wrapN (by omega)
  · rw [← Int.natCast_add]; exact wrapN (by omega)
  · rw [tmodN]
  · rw [← Int.natCast_add]; exact wrapN (by omega)
end Go.Proofs.Ytbkdlpmaikilnaa
