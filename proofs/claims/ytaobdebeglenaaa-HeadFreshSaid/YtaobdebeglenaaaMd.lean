/- Contracts of package wire: the reader's small methods, split, counted. The law's helpers: Ints, strings of bytes, the document's examples (awake). Strings of bytes, and Num of nothing, as the laws use them. Contracts of the document's own answers for layer 1: the writers. -/
import Derived.Test.YtaobdebeglenaaaMc
import Derived.BigQuiet
import Derived.Deep.QuietTactic
import Derived.Test.YtaobdebeglenaaaMa

namespace Go.Proofs.Ytaobdebeglenaaa
open Go.RowKit

/-- Block g of world w is a reader that has l left and the error e; what it has left lies below g. -/
def RdrX (w : World) (g : Nat) (A : Option Addr) (n c : Nat) (l : List UInt8) (e : Int) : Prop :=
  w.heap[g]? = some (.cells #[.slice A n c, .int .i64 e] 90 (0, 0)) ∧ n ≤ c ∧ c ≤ 9223372036854775807 ∧ Rd w g A n l
def Rdr (w : World) (g : Nat) (l : List UInt8) (e : Int) : Prop := ∃ A n c, RdrX w g A n c l e

/-- the error behind a failure with x -/
def failE (e x : Int) : Int := if e = 0 then x else e
/-- how many bytes are left, as the reader tells it -/
def leftN (e : Int) (n : Nat) : Int := if e = 0 then (n : Int) else 0
/-- the error behind End -/
def endE (e : Int) (n : Nat) : Int := if e = 0 ∧ 0 < n then 11 else e
theorem failE_0 (x : Int) : failE 0 x = x := by simp [failE]
theorem failE_n {e : Int} (h : e ≠ 0) (x : Int) : failE e x = e := by simp [failE, h]

theorem cell_blk {w : World} {g : Nat} {t : TypeId} {cs : Array Value} (h : w.heap[g]? = some (.cells cs t (0, 0))) (i : Nat) : w.cell? ⟨g, i, none⟩ = cs[i]? := cell_of_row w g i cs t (0, 0) h
theorem free_blk {w : World} {g : Nat} {t : TypeId} {cs : Array Value} (h : w.heap[g]? = some (.cells cs t (0, 0))) (i : Nat) : w.frozen? ⟨g, i, none⟩ = false := by simp [World.frozen?, h]
theorem set_blk {w : World} {g : Nat} {t : TypeId} {cs : Array Value} (h : w.heap[g]? = some (.cells cs t (0, 0))) (i : Nat) (u : Value) : (w.setCell ⟨g, i, none⟩ u).heap[g]? = some (.cells (cs.setIfInBounds i u) t (0, 0)) :=
  heap_setCell_same w g i cs t u h
theorem grownBy_set (w : World) (g i : Nat) (u : Value) : w.grownBy (w.setCell ⟨g, i, none⟩ u) (some g) :=
  ⟨rfl, rfl, rfl, by simp [World.setCell], fun k _ hk => Below.heap_setCell _ _ _ _ (fun e => hk (by simp [e]))⟩
theorem grownBy_drewN (w : World) (n : Nat) (row : Option Nat) : w.grownBy (w.drewN n) row := ⟨rfl, rfl, rfl, Nat.le_refl _, fun _ _ _ => rfl⟩
theorem grownBy_trans {a b c : World} {row : Option Nat} (h : a.grownBy b row) (k : b.grownBy c row) : a.grownBy c row :=
  ⟨k.os.trans h.os, k.tape.trans h.tape, k.output.trans h.output, Nat.le_trans h.size k.size, fun i hi hne => (k.block i (Nat.lt_of_lt_of_le hi h.size) hne).trans (h.block i hi hne)⟩
theorem grownBy_below {a b : World} (h : Below a.heap.size a b) (row : Option Nat) : a.grownBy b row := ⟨h.os, h.tape, h.output, h.size, fun i hi _ => h.block i hi⟩

set_option maxRecDepth 10000 in
set_option maxHeartbeats 400000 in
theorem Err_any (g : Nat) (l : List UInt8) (e : Int) (w : World) (h : Rdr w g l e) :
    Calls Try.prog 75 #[.pointer (some ⟨g, 0, none⟩)] w fun x w' => x = .returned (.int .i64 e) ∧ w = w' := by
  obtain ⟨A, n, c, hh, _⟩ := h
  have h1 := cell_blk hh 1
  simp only [List.getElem?_toArray, List.getElem?_cons_succ, List.getElem?_cons_zero] at h1
  clear hh
  go_enter Try.func75, Try.ntmps75
  go_wp2
  go_ret
  exact ⟨rfl, rfl⟩
set_option maxRecDepth 10000 in
set_option maxHeartbeats 400000 in
theorem Err_nil (w : World) : Calls Try.prog 75 #[.pointer none] w fun x w' => x = .returned (.int .i64 1) ∧ w = w' := by
  go_enter Try.func75, Try.ntmps75
  go_wp2
  go_ret
  exact ⟨rfl, rfl⟩

set_option maxRecDepth 10000 in
set_option maxHeartbeats 400000 in
theorem Fail_X (g : Nat) (A : Option Addr) (n c : Nat) (l : List UInt8) (e x : Int) (w : World) (h : RdrX w g A n c l e) :
    Calls Try.prog 44 #[.pointer (some ⟨g, 0, none⟩), .int .i64 x] w fun r w' => r = .returned (.tuple #[]) ∧ RdrX w' g A n c l (failE e x) ∧ w.grownBy w' (some g) := by
  obtain ⟨hh, hn, hc, hr⟩ := h
  have h1 := cell_blk hh 1
  have h2 := free_blk hh 1
  have hs := set_blk hh 1 (.int .i64 x)
  simp only [List.getElem?_toArray, List.getElem?_cons_succ, List.getElem?_cons_zero] at h1
  have Hh := Lib.hid hh
  have Hs := Lib.hid hs
  have Hr := Lib.hid hr
  clear hh hs hr
  by_cases he : e = 0
  · subst he
    go_enter Try.func44, Try.ntmps44
    go_wp2
    go_end0
    rw [failE_0]
    refine ⟨rfl, ⟨Hs.out, hn, hc, Hr.out.keep fun p hp => World.cell?_setCell_other _ _ _ _ (fun q => by subst q; exact absurd hp (Nat.lt_irrefl _))⟩, grownBy_set _ _ _ _⟩
  · have he2 : (e == 0) = false := by simpa using he
    go_enter Try.func44, Try.ntmps44
    go_wp2
    go_end0
    rw [failE_n he]
    exact ⟨rfl, ⟨Hh.out, hn, hc, Hr.out⟩, World.grownBy.refl _ _⟩
theorem Fail_any (g : Nat) (l : List UInt8) (e x : Int) (w : World) (h : Rdr w g l e) :
    Calls Try.prog 44 #[.pointer (some ⟨g, 0, none⟩), .int .i64 x] w fun r w' => r = .returned (.tuple #[]) ∧ Rdr w' g l (failE e x) ∧ w.grownBy w' (some g) := by
  obtain ⟨A, n, c, h⟩ := h
  exact (Fail_X g A n c l e x w h).mono fun _ _ ⟨a, b, d⟩ => ⟨a, ⟨A, n, c, b⟩, d⟩
set_option maxRecDepth 10000 in
set_option maxHeartbeats 400000 in
theorem Fail_nil (x : Int) (w : World) : Calls Try.prog 44 #[.pointer none, .int .i64 x] w fun r w' => r = .returned (.tuple #[]) ∧ w = w' := by
  go_enter Try.func44, Try.ntmps44
  go_wp2
  go_end0
  exact ⟨rfl, rfl⟩
set_option maxRecDepth 10000 in
set_option maxHeartbeats 400000 in
theorem Left_any (g : Nat) (l : List UInt8) (e : Int) (w : World) (h : Rdr w g l e) :
    Calls Try.prog 80 #[.pointer (some ⟨g, 0, none⟩)] w fun x w' => x = .returned (.int .i64 (leftN e l.length)) ∧ w = w' := by
  have h0 := h
  obtain ⟨A, n, c, hh, _, _, hr⟩ := h
  have h1 := cell_blk hh 0
  simp only [List.getElem?_toArray, List.getElem?_cons_zero] at h1
  have hl := hr.1
  clear hh hr
  have H0 := Lib.hid h0
  have Hl := Lib.hid hl
  clear h0 hl
  by_cases he : e = 0
  · subst he
    go_enter Try.func80, Try.ntmps80
    go_wp2_with (go_at_call 75; refine (Err_any g l 0 _ H0.out).mono ?_; rintro x w' ⟨rfl, rfl⟩)
    go_ret
    exact ⟨ret_int (by simp [leftN, Hl.out]), rfl⟩
  · have he2 : (e == 0) = false := by simpa using he
    have he3 : (e != 0) = true := by simpa using he
    go_enter Try.func80, Try.ntmps80
    go_wp2_with (go_at_call 75; refine (Err_any g l e _ H0.out).mono ?_; rintro x w' ⟨rfl, rfl⟩)
    go_ret
    exact ⟨ret_int (by simp [leftN, he]), rfl⟩
set_option maxRecDepth 10000 in
set_option maxHeartbeats 400000 in
theorem Left_nil (w : World) : Calls Try.prog 80 #[.pointer none] w fun x w' => x = .returned (.int .i64 0) ∧ w = w' := by
  go_enter Try.func80, Try.ntmps80
  go_wp2_with (go_at_call 75; refine (Err_nil _).mono ?_; rintro x w' ⟨rfl, rfl⟩)
  go_ret
  exact ⟨rfl, rfl⟩
set_option maxRecDepth 10000 in
set_option maxHeartbeats 400000 in
theorem End_any (g : Nat) (l : List UInt8) (e : Int) (w : World) (h : Rdr w g l e) :
    Calls Try.prog 45 #[.pointer (some ⟨g, 0, none⟩)] w fun x w' => x = .returned (.int .i64 (endE e l.length)) ∧ Rdr w' g l (endE e l.length) ∧ w.grownBy w' (some g) := by
  have H0 := Lib.hid h
  clear h
  by_cases he : e = 0 ∧ 0 < l.length
  · obtain ⟨rfl, hl⟩ := he
    have hE : endE 0 l.length = 11 := by simp [endE, hl]
    have hL : leftN 0 l.length = (l.length : Int) := by simp [leftN]
    rw [hE]
    clear hE
    go_enter Try.func45, Try.ntmps45
    go_wp2_with (first
      | (go_at_call 80; refine (Left_any g l 0 _ H0.out).mono ?_; rintro x w' ⟨rfl, rfl⟩)
      | (go_at_call 44; refine (Fail_any g l 0 11 _ H0.out).mono ?_; rintro x w1 ⟨rfl, h1, hg1⟩; rw [failE_0] at h1)
      | (go_at_call 75; refine (Err_any g l _ _ h1).mono ?_; rintro x w' ⟨rfl, rfl⟩))
    go_ret
    exact ⟨rfl, h1, hg1⟩
  · have hE : endE e l.length = e := by simp only [endE, if_neg he]
    have hL : leftN e l.length = 0 := by
      unfold leftN
      split
      · have : ¬ 0 < l.length := fun h => he ⟨by assumption, h⟩
        omega
      · rfl
    rw [hE]
    clear hE he
    go_enter Try.func45, Try.ntmps45
    go_wp2_with (first
      | (go_at_call 80; refine (Left_any g l e _ H0.out).mono ?_; rintro x w' ⟨rfl, rfl⟩)
      | (go_at_call 75; refine (Err_any g l _ _ H0.out).mono ?_; rintro x w' ⟨rfl, rfl⟩))
    go_ret
    exact ⟨rfl, H0.out, World.grownBy.refl _ _⟩
set_option maxRecDepth 10000 in
set_option maxHeartbeats 400000 in
theorem End_nil (w : World) : Calls Try.prog 45 #[.pointer none] w fun x w' => x = .returned (.int .i64 1) ∧ w = w' := by
  go_enter Try.func45, Try.ntmps45
  go_wp2_with (first
    | (go_at_call 80; refine (Left_nil _).mono ?_; rintro x w' ⟨rfl, rfl⟩)
    | (go_at_call 75; refine (Err_nil _).mono ?_; rintro x w' ⟨rfl, rfl⟩))
  go_ret
  exact ⟨rfl, rfl⟩

set_option maxRecDepth 10000 in
set_option maxHeartbeats 400000 in
theorem Read_any (A : Option Addr) (n c : Nat) (l : List UInt8) (w : World) (hr : Rd w w.heap.size A n l) (hn : n ≤ 274877906000) :
    Calls Try.prog 40 #[.slice A n c] w fun e w' => ∃ g, e = .returned (.pointer (some ⟨g, 0, none⟩)) ∧ Rdr w' g l 0 ∧ w.heap.size ≤ g ∧ Below w.heap.size w w' := by
  go_enter Try.func40, Try.ntmps40
  go_wp2_with (go_at_call 72; refine (extend_any A n c l _ _ hr (by omega) (by omega) (by omega)).mono ?_; rintro e w1 ⟨c1, rfl, hown1, hb1⟩)
  go_ret
  have hf := ownsRow_form hown1
  obtain ⟨_, _, hq, hnc, hcm⟩ := hf
  injection hq with hq1 hq2 hq3
  subst hq3
  refine ⟨_, rfl, ⟨_, n, c1, heap_alloc_new _ _, hnc, by simpa [maxLen] using hcm, (Rd.own hown1).alloc (Nat.le_refl _) _⟩, hb1.size, hb1.alloc hb1.size _⟩

end Go.Proofs.Ytaobdebeglenaaa

namespace Go.Proofs.Ytaobdebeglenaaa
open Go.RowKit

/-- string(b) of a slice that reads as l -/
theorem run_str {P : Program} {w : World} {src dst e : TypeId} {B n c : Nat} {A : Option Addr} {l : List UInt8} (hs : P.underlying src = some (.slice e)) (he : P.underlying e = some (.int .u8)) (hd : P.underlying dst = some .string)
    (hr : Rd w B A n l) : (convert src dst (.slice A n c)).run P w = .ok (.string ⟨l.toArray⟩) w := by
  rw [run_convert_bytes_string w src dst e A n c hs he hd]
  have hl := hr.1
  rcases A with _ | ad
  · have h0 : n = 0 := by
      rcases Nat.eq_zero_or_pos n with h | h
      · exact h
      · obtain ⟨_, hc, _⟩ := hr.2 h
        cases hc
    subst h0
    obtain rfl : l = [] := List.eq_nil_of_length_eq_zero hl
    rfl
  · have hsrc : ∀ j v, (l.map bv)[j]? = some v → w.cell? (ad.add j) = some v := by
      intro j v hv
      have hj : j < (l.map bv).length := (List.getElem?_eq_some_iff.1 hv).1
      obtain ⟨a', ha, hcell⟩ := hr.vals (by rw [List.length_map] at hj; omega)
      cases ha
      exact hcell j v hv
    have hlc := run_loadCells_list (P := P) w ad (l.map bv) hsrc
    rw [List.length_map, hl] at hlc
    have e1 : l.map bv = (l.map fun x => (x.toNat : Int)).map (Value.int .u8) := by simp [bv, Function.comp_def]
    rw [e1] at hlc
    rw [run_bytesToString w ad n c _ hlc]
    congr 2
    have e2 : ∀ (l : List UInt8) (s : ByteArray), (l.map fun x => (x.toNat : Int)).foldl (fun r n => r.push (UInt8.ofNat n.toNat)) s = ⟨s.data ++ l.toArray⟩ := by
      intro l
      induction l with
      | nil => intro s; simp
      | cons b l ih =>
        intro s
        rw [List.map_cons, List.foldl_cons, ih]
        simp [ByteArray.push]
    rw [e2]
    simp

set_option maxRecDepth 10000 in
set_option maxHeartbeats 400000 in
theorem Ints_any (A A' : Option Addr) (n c n' c' : Nat) (l l' : List Int) (B B' : Nat) (w : World) (hr : RdI w B A n l) (hr' : RdI w B' A' n' l') (hn : n ≤ 9223372036854775807) (hn' : n' ≤ 9223372036854775807) :
    Calls Try.prog 31 #[.slice A n c, .slice A' n' c'] w fun e w' => e = .returned (.bool (decide (l = l'))) ∧ ∃ q, w' = w.drewN q := by
  by_cases hlen : n = n'
  · subst hlen
    have hl := Lib.hid hr.1
    have hl' := Lib.hid hr'.1
    go_enter Try.func31, Try.ntmps31
    go_wp2
    go_loopw [5] (fun i wr => ∃ j : Nat, j ≤ n ∧ i = .int .i64 j ∧ l.take j = l'.take j ∧ ∃ q, wr = w.drewN q) (fun i _ => n - (intOf i).toNat)
    case atStart => exact ⟨0, Nat.zero_le _, rfl, rfl, 0, rfl⟩
    case round =>
      obtain ⟨j, hj, rfl, htk, q, rfl⟩ := hrel
      have Htk := Lib.hid htk
      clear htk
      by_cases hlt : j < n
      · obtain ⟨ad, rfl, _, hc⟩ := hr.cellAt hlt
        obtain ⟨ad', rfl, _, hc'⟩ := hr'.cellAt hlt
        have h1 : j < l.length := by rw [hl.out]; exact hlt
        have h2 : j < l'.length := by rw [hl'.out]; exact hlt
        have t1 : l.take (j + 1) = l.take j ++ [l[j]] := List.take_succ_eq_append_getElem h1
        have t2 : l'.take (j + 1) = l'.take j ++ [l'[j]] := List.take_succ_eq_append_getElem h2
        have Hne : Hid (l[j] ≠ l'[j] → l ≠ l') := fun h e => h (by subst e; rfl)
        obtain ⟨a, ha⟩ : ∃ a, a = l[j] := ⟨_, rfl⟩
        obtain ⟨b, hb⟩ : ∃ b, b = l'[j] := ⟨_, rfl⟩
        rw [← ha] at hc t1 Hne
        rw [← hb] at hc' t2 Hne
        have T1 := Lib.hid t1
        have T2 := Lib.hid t2
        have hj63 : (j : Int) < (n : Int) := by omega
        clear ha hb t1 t2 h1 h2 hr hr'
        by_cases hab : a = b
        · subst hab
          have hbb : (a != a) = false := by simp
          go_wp2
          go_quiet (fail)
          go_wp2
          go_roundw
          case rel => exact ⟨j + 1, by omega, by go_num, by rw [T1.out, T2.out, Htk.out], q + nq, rfl⟩
          case measure => simp [intOf]; omega
        · have hbb : (a != b) = true := by simpa using hab
          go_wp2
          go_quiet (fail)
          go_wp2
          rw [decide_eq_false (Hne.out hab)]
          go_ret
          exact ⟨rfl, q + nq, by rw [World.drewN_drewN]⟩
      · obtain rfl : j = n := by omega
        have heq : l = l' := by
          have h := Htk.out
          rwa [List.take_of_length_le (by rw [hl.out]; exact Nat.le_refl _), List.take_of_length_le (by rw [hl'.out]; exact Nat.le_refl _)] at h
        have Heq := Lib.hid heq
        clear heq hr hr'
        go_wp2
        go_ret
        exact ⟨by rw [decide_eq_true Heq.out]; rfl, _, rfl⟩
  · have hne : l ≠ l' := fun h => hlen (by rw [← hr.1, ← hr'.1, h])
    have hb : ((n : Int) != (n' : Int)) = true := by simpa using fun h => hlen (by omega)
    rw [decide_eq_false hne]
    clear hne
    go_enter Try.func31, Try.ntmps31
    go_wp2
    go_ret
    exact ⟨rfl, 0, rfl⟩
end Go.Proofs.Ytaobdebeglenaaa

namespace Go.Proofs.Ytaobdebeglenaaa
open Go.RowKit

theorem str_any {w : World} {B n c : Nat} {A : Option Addr} {l : List UInt8} (hr : Rd w B A n l) : (convert 39 9 (.slice A n c)).run Try.prog w = .ok (.string ⟨l.toArray⟩) w :=
  run_str Try.underlying39 Try.underlying5 Try.underlying9 hr
theorem Num_nil (width x : Int) (w : World) (hx : I64 x) : Calls Try.prog 51 #[.slice none 0 0, .int .i64 width, .int .i64 x] w fun e w' =>
    ∃ A c, e = .returned (.slice A (fitW width) c) ∧ Rd w' w'.heap.size A (fitW width) (numB width x) ∧ Below w.heap.size w w' :=
  (Num_any none 0 0 [] width x w Rd.nil (by omega) hx).mono fun e w' h => by
    rw [List.nil_append] at h
    obtain ⟨A, c, he, _, _, hown, hb⟩ := h
    rw [numB_length] at he hown
    exact ⟨A, c, he, Rd.own hown, hb⟩
theorem all_succ (X : List UInt8) (j : Nat) (h : j < X.length) : (X.take (j + 1)).all (· == 255) = ((X.take j).all (· == 255) && ((((⟨X.toArray⟩ : ByteArray)[j]'(by show j < X.toArray.size; simpa using h)).toNat : Int) == 255)) := by
  rw [List.take_succ_eq_append_getElem h, List.all_append]
  congr 1
  have e : ((⟨X.toArray⟩ : ByteArray)[j]'(by show j < X.toArray.size; simpa using h)) = X[j] := rfl
  rw [e]
  simp only [List.all_cons, List.all_nil, Bool.and_true]
  rw [Bool.eq_iff_iff, beq_iff_eq, beq_iff_eq, ← UInt8.toNat_inj]
  simp only [UInt8.reduceToNat]
  omega
end Go.Proofs.Ytaobdebeglenaaa

namespace Go.Proofs.Ytaobdebeglenaaa
open Go.RowKit

set_option maxRecDepth 10000 in
set_option maxHeartbeats 400000 in
theorem wide_any (x : Int) (w : World) :
    Calls Try.prog 82 #[.int .i64 x] w fun e w' => e = .returned (.int .i64 (fitW x)) ∧ w = w' := by
  go_enter Try.func82, Try.ntmps82
  go_wp2
  all_goals (go_ret; refine ⟨ret_int ?_, rfl⟩; unfold fitW; omega)

theorem pow_bd (j : Nat) (h : j ≤ 7) : 0 ≤ (256 : Int) ^ j ∧ (256 : Int) ^ j ≤ 72057594037927936 := by
  obtain rfl | rfl | rfl | rfl | rfl | rfl | rfl | rfl : j = 0 ∨ j = 1 ∨ j = 2 ∨ j = 3 ∨ j = 4 ∨ j = 5 ∨ j = 6 ∨ j = 7 := by omega
  all_goals decide

set_option maxRecDepth 10000 in
set_option maxHeartbeats 400000 in
theorem most_any (k : Nat) (h : 1 ≤ k ∧ k ≤ 7) (w : World) :
    Calls Try.prog 90 #[.int .i64 k] w fun e w' => e = .returned (.int .i64 ((256 : Int) ^ k - 1)) ∧ w = w' := by
  go_enter Try.func90, Try.ntmps90
  go_wp2
  go_loop [3, 4] (fun n i => ∃ j : Nat, j ≤ k ∧ i = .int .i64 j ∧ n = .int .i64 ((256 : Int) ^ j)) (fun _ i => k - (intOf i).toNat)
  case atStart => exact ⟨0, Nat.zero_le _, rfl, rfl⟩
  case round =>
    obtain ⟨j, hj, rfl, rfl⟩ := hrel
    have hp := pow_bd j (by omega)
    by_cases hlt : j < k
    · have hp1 : (256 : Int) ^ j ≤ 281474976710656 := by
        obtain rfl | rfl | rfl | rfl | rfl | rfl | rfl : j = 0 ∨ j = 1 ∨ j = 2 ∨ j = 3 ∨ j = 4 ∨ j = 5 ∨ j = 6 := by omega
        all_goals decide
      go_wp2
      go_round
      case rel => exact ⟨j + 1, by omega, by go_num, by rw [Int.pow_succ]⟩
      case measure => simp [intOf]; omega
    · obtain rfl : j = k := by omega
      go_wp2
      go_ret
      exact ⟨rfl, rfl⟩

set_option maxRecDepth 10000 in
set_option maxHeartbeats 1000000 in
theorem RefNum_any (width x : Int) (w : World) :
    Calls Try.prog 55 #[.int .i64 width, .int .i64 x] w fun e w' =>
      e = .returned (.slice (some ⟨w.heap.size, 0, none⟩) (fitW width) (fitW width)) ∧ w'.ownsRow w.heap.size 5 1 (.slice (some ⟨w.heap.size, 0, none⟩) (fitW width) (fitW width)) (fitW width) ((numB width x).map bv) ∧ Below w.heap.size w w' := by
  obtain ⟨f, hfe⟩ : ∃ f, f = fitW width := ⟨_, rfl⟩
  have hf := fitW_bd width
  have hnb : numB width x = encB f (clampN f x) := by rw [numB, hfe]
  rw [hnb]
  obtain ⟨m, hm⟩ : ∃ m, m = clampN f x := ⟨_, rfl⟩
  have hm1 : (m : Int) = min (max x 0) ((256 : Int) ^ f - 1) := by
    have : (256 : Int) ^ f ≥ 1 := Int.pow_pos (by decide)
    rw [hm]; unfold clampN; omega
  rw [← hm]
  rw [← hfe] at hf ⊢
  have Hm := Lib.hid hm1
  have Hf := Lib.hid hfe.symm
  obtain ⟨i, hi, hz0, hz1, hz2⟩ := info_parts Try.infoB
  have hmk := fun W => run_mk (P := Try.prog) Try.underlying39 hi hz0 hz1 (by omega) f f (f : Int) rfl (Nat.le_refl _) (by omega) W
  clear hz1 hz2 hnb hm hm1 hfe
  go_enter Try.func55, Try.ntmps55
  go_upto_region 2 with (go_at_call 82; refine (wide_any _ _).mono ?_; rintro e w' ⟨rfl, rfl⟩; rw [Hf.out])
  go_cut [1] (fun s wx => s = .int .i64 m ∧ wx = w)
  case first =>
    go_wp2_with (go_at_call 90; refine (most_any _ hf _).mono ?_; rintro e w' ⟨rfl, rfl⟩)
    all_goals
      go_meet
      have := Hm.out
      exact ⟨by congr 1; omega, rfl⟩
  case rest =>
    obtain ⟨rfl, rfl⟩ := hcut
    go_wp2
    go_loopw [1, 7] (fun n i wr => ∃ t : Nat, t ≤ f ∧ i = .int .i64 ((f : Int) - 1 - (t : Int)) ∧ n = .int .i64 ((m / 256 ^ t : Nat) : Int) ∧ wr.ownsRow wc.heap.size 5 1 (.slice (some ⟨wc.heap.size, 0, none⟩) f f) f (List.replicate (f - t) (.int .u8 0) ++ (encB t m).map bv) ∧ Below wc.heap.size wc wr) (fun _ i _ => (intOf i + 1).toNat)
    case atStart =>
      refine ⟨0, Nat.zero_le _, by go_num, by simp, ?_, (Below.refl _ _).alloc (Nat.le_refl _) _⟩
      have h := World.ownsRow_lit (base := wc.heap.size) (e := 5) (size := 1) wc (madeCells #[.int .u8 0] f) f (Nat.le_refl _) (by simp only [maxLen]; omega) (by rw [size_madeCells, Nat.mul_one])
      rw [toList_madeCells_one] at h
      simpa [encB] using h
    case round =>
      obtain ⟨t, ht, rfl, rfl, hown, hb⟩ := hrel
      by_cases hlt : t < f
      · obtain ⟨q, hq⟩ : ∃ q, q = m / 256 ^ t := ⟨_, rfl⟩
        have hqb : q < 72057594037927936 := by
          have h1 := Hm.out
          have h2 := pow_bd f hf.2
          have h3 : q ≤ m := by rw [hq]; exact Nat.div_le_self _ _
          omega
        have hq1 : q / 256 = m / 256 ^ (t + 1) := by rw [hq, Nat.div_div_eq_div_mul, Nat.pow_succ]
        have hst := hown.stored (f - 1 - t) (.int .u8 ((q : Int) % 256))
        have hc : wr.cell? ⟨wc.heap.size, f - 1 - t, none⟩ = some (.int .u8 0) := by
          rw [hown.cellAt (f - 1 - t) (by omega), List.getElem?_append_left (by rw [List.length_replicate]; omega), List.getElem?_replicate, if_pos (by omega)]
        have hfr := hown.frozenAt (f - 1 - t)
        have hl : (List.replicate (f - t) (Value.int .u8 0) ++ (encB t m).map bv).set (f - 1 - t) (.int .u8 ((q : Int) % 256)) = List.replicate (f - (t + 1)) (.int .u8 0) ++ (encB (t + 1) m).map bv := by
          rw [encB_succ, List.map_cons, bv_ofNat, ← hq, show f - t = (f - 1 - t) + 1 by omega, List.replicate_succ', List.append_assoc, List.set_append_right _ _ (by rw [List.length_replicate]; exact Nat.le_refl _), List.length_replicate, Nat.sub_self, show f - (t + 1) = f - 1 - t by omega]
          simp
        rw [hl] at hst
        have hb2 := hb.setCell (p := ⟨wc.heap.size, f - 1 - t, none⟩) (Nat.le_refl _) (.int .u8 ((q : Int) % 256))
        rw [← hq]
        have Hst := Lib.hid hst.1
        have Hq1 := Lib.hid hq1
        have Hb2 := Lib.hid hb2
        clear hst hq hq1 hl hb2 hown hb
        go_wp2
        go_roundw
        case rel => exact ⟨t + 1, by omega, by go_num, by rw [← Hq1.out]; go_num, Hst.out, Hb2.out⟩
        case measure => simp [intOf]; omega
      · obtain rfl : t = f := by omega
        rw [Nat.sub_self, List.replicate_zero, List.nil_append] at hown
        go_wp2
        go_ret
        exact ⟨rfl, hown, hb⟩

theorem RefNum_out (width x : Int) (w : World) : Calls Try.prog 55 #[.int .i64 width, .int .i64 x] w fun e w' =>
    e = .returned (.slice (some ⟨w.heap.size, 0, none⟩) (fitW width) (fitW width)) ∧ Rd w' w'.heap.size (some ⟨w.heap.size, 0, none⟩) (fitW width) (numB width x) ∧ Below w.heap.size w w' :=
  (RefNum_any width x w).mono fun _ _ ⟨h1, h2, h3⟩ => ⟨h1, Rd.own h2, h3⟩

set_option maxRecDepth 10000 in
set_option maxHeartbeats 1000000 in
theorem RefBlob_any (A : Option Addr) (n c : Nat) (x : List UInt8) (w : World) (hr : Rd w w.heap.size A n x) (hc : n ≤ c) (hm : c ≤ 9223372036854775807) :
    Calls Try.prog 56 #[.slice A n c] w fun e w' => Out w (blobB x) e w' := by
  have hx := hr.1
  obtain ⟨i, hi, hz0, hz1, hz2⟩ := info_parts Try.infoB
  have hr2 : Rd w w.heap.size A (min n 65535) (x.take 65535) := by
    have h := hr.take (k := min n 65535) (by omega)
    have e : x.take (min n 65535) = x.take 65535 := by rw [← hx, Nat.min_comm, ← List.take_eq_take_min]
    rwa [e] at h
  obtain ⟨m, hme⟩ : ∃ m, m = min n 65535 := ⟨_, rfl⟩
  have hm2 : m ≤ 65535 := by omega
  have hce : numB 2 (m : Int) = encB 2 m := by
    have h1 : fitW 2 = 2 := by decide
    have h2 : clampN 2 (m : Int) = m := by unfold clampN; omega
    rw [numB, h1, h2]
  have hfin : blobB x = numB 2 (m : Int) ++ x.take 65535 := by rw [hce, hme, blobB, hx]
  rw [hfin]
  rw [← hme] at hr2
  have hf2 : fitW 2 = 2 := by decide
  have Hm := Lib.hid hme
  clear hce hfin hme hx hr
  go_enter Try.func56, Try.ntmps56
  go_upto_region 3 with fail
  all_goals
    first
      | (have e65 : (65535 : Nat) = m := (by have := Hm.out; omega); rw [e65]; clear e65)
      | (have e65 : n = m := (by have := Hm.out; omega); rw [e65]; clear e65)
    go_wp2_with (first
      | (go_at_call 55; refine (RefNum_any 2 _ _).mono ?_; rintro e w1 ⟨rfl, hown1, hb1⟩; rw [hf2] at hown1 ⊢)
      | (at_builtin; refine wpList_append_rd rfl (.tmp 12) (.tmp 13) 39 rfl w.heap.size 5 i (.int .u8 0) 1 Try.underlying39 hi hz0 hz1 hz2 rfl _ 2 _ rfl hown1 A _ c ((x.take 65535).map bv) rfl (by rw [List.length_map, hr2.1]) (hr2.below hb1).src (bv_one _) (by simp only [maxLen]; omega) (by omega) hb1.size ?_; intro v3 w3 hown3 hg3))
    go_ret
    rw [← List.map_append] at hown3
    exact Out.mk hown3 (hb1.grown hg3 hb1.size (fun q hq => (hown1.lt q hq).1))

/-- one more number behind those that are there -/
theorem numsB_take (width : Int) (zs : List Int) (h : zs.length ≤ 255) : numsB width zs = encB 1 zs.length ++ zs.flatMap (numB width) := by
  rw [numsB, Nat.min_eq_left h, List.take_of_length_le h]

end Go.Proofs.Ytaobdebeglenaaa
