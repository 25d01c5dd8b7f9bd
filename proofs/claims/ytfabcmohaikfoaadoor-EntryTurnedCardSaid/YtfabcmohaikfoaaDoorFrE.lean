/- Contracts: Next and Whole of package frame. -/
import Derived.Test.YtfabcmohaikfoaaDoorFrD
namespace Go.Proofs.YtfabcmohaikfoaaDoor
open Go.RowKit

set_option maxRecDepth 10000 in
/-- Next found a frame -/
def NextY (w : World) (l : List UInt8) (e : Ending) (w' : World) : Prop :=
  ∃ A1 c1 A2 c2 m1 m2, m1 = cntF l ∧ m2 = l.length - (cntF l + 12) ∧ e = .returned (.tuple #[.int .i64 ((l.getD 1 0).toNat : Int), .slice A1 m1 c1, .slice A2 m2 c2, .int .i64 0]) ∧
    w'.ownsRow w.heap.size 5 1 (.slice A1 m1 c1) m1 (((l.drop 8).take (cntF l)).map bv) ∧ m1 ≤ c1 ∧ c1 ≤ maxLen ∧
    w'.ownsRow w.heap.size 5 1 (.slice A2 m2 c2) m2 ((l.drop (cntF l + 12)).map bv) ∧ m2 ≤ c2 ∧ c2 ≤ maxLen ∧ Below w.heap.size w w'

set_option maxRecDepth 10000 in
set_option maxHeartbeats 1000000 in
theorem Next_no (A : Option Addr) (n c : Nat) (l : List UInt8) (w : World) (hr : Rd w w.heap.size A n l) (hn : n ≤ 137438953400) (hc : n ≤ c) (hm : c ≤ 9223372036854775807) (ht : Tb w) (hx : nxE l ≠ 0) :
    Calls Tryd.prog 25 #[.slice A n c] w (No4 w (nxE l)) := by
  have Hr := Lib.hid hr
  have Ht := Lib.hid ht
  have Hx := Lib.hid hx
  obtain ⟨x, hxe⟩ : ∃ x, x = nxE l := ⟨_, rfl⟩
  have Hxe := Lib.hid hxe
  rw [← hxe]
  clear hr ht hx hxe
  go_enter Tryd.func25, Tryd.ntmps25
  go_wp2_with fail
  refine (cut_any A n c l _ w Hr.out (Nat.le_refl _) hn hc hm Ht.out).mono ?_
  intro e w1 h1
  obtain ⟨rfl, hb1⟩ := h1.2 Hx.out
  rw [← Hxe.out]
  have Hb1 := Lib.hid hb1
  clear hb1 h1
  go_wp2_with (go_at_call 24; refine (Clone_none _).mono ?_; rintro e w' ⟨rfl, rfl⟩)
  exact bodyPost_ret (v := .tuple #[.int .i64 0, .slice none 0 0, .slice none 0 0, .int .i64 x]) (by simp [results, Tryd.results25, go_sem]) rfl ⟨rfl, Hb1.out⟩

set_option maxRecDepth 10000 in
set_option maxHeartbeats 1000000 in
theorem Next_yes (A : Option Addr) (n c : Nat) (l : List UInt8) (w : World) (hr : Rd w w.heap.size A n l) (hn : n ≤ 137438953400) (hc : n ≤ c) (hm : c ≤ 9223372036854775807) (ht : Tb w) (hx : nxE l = 0) :
    Calls Tryd.prog 25 #[.slice A n c] w (NextY w l) := by
  have Hr := Lib.hid hr
  have Ht := Lib.hid ht
  have Hx := Lib.hid hx
  clear hr ht hx
  go_enter Tryd.func25, Tryd.ntmps25
  go_wp2_with fail
  refine (cut_any A n c l _ w Hr.out (Nat.le_refl _) hn hc hm Ht.out).mono ?_
  intro e w1 h1
  obtain ⟨A1, c1, A2, c2, rfl, hr1, hr2, _, _, hb1⟩ := h1.1 Hx.out
  have hl := Hr.out.1
  have hk := (nx_ok_len Hx.out).2
  obtain ⟨m1, hm1⟩ : ∃ m, m = cntF l := ⟨_, rfl⟩
  obtain ⟨m2, hm2⟩ : ∃ m, m = l.length - (cntF l + 12) := ⟨_, rfl⟩
  obtain ⟨kd, hkd⟩ : ∃ x, x = ((l.getD 1 0).toNat : Int) := ⟨_, rfl⟩
  rw [← hm2, ← hm1, ← hkd]
  rw [← hm1] at hr1
  rw [← hm2] at hr2
  have hm1b : m1 ≤ 8192 := by omega
  have hm2b : m2 ≤ 137438953400 := by omega
  have Hm1 := Lib.hid hm1
  have Hm2 := Lib.hid hm2
  have Hkd := Lib.hid hkd
  have Hr1 := Lib.hid hr1
  have Hr2 := Lib.hid hr2
  have Hb1 := Lib.hid hb1
  clear hb1 h1 hr1 hr2 hl hk hm1 hm2 hkd
  go_wp2_with fail
  refine (Clone_any A1 m1 c1 _ _ (Hr1.out.more Hb1.out.size) (by omega)).mono ?_
  intro e w2 h2
  obtain ⟨A3, c3, rfl, hc3, hm3, hown3, hb3⟩ := h2.own (m := m1) (by rw [Hm1.out, List.length_take, List.length_drop]; have := (nx_ok_len Hx.out); omega)
  have Hb3 := Lib.hid (Hb1.out.trans (hb3.mono Hb1.out.size))
  have Hown3 := Lib.hid (ownsRow_base hown3 Hb1.out.size)
  have Hr4 := Lib.hid (((Hr2.out.more Hb1.out.size).below hb3).more hb3.size)
  clear hb3 hown3 h2
  go_wp2_with fail
  refine (Clone_any A2 m2 c2 _ _ Hr4.out (by omega)).mono ?_
  intro e w4 h4
  obtain ⟨A4, c4, rfl, hc4, hm4, hown4, hb4⟩ := h4.own (m := m2) (by rw [Hm2.out, List.length_drop])
  have Hb4 := Lib.hid (Hb3.out.trans (hb4.mono Hb3.out.size))
  have Hown4 := Lib.hid (ownsRow_base hown4 Hb3.out.size)
  have Hown5 := Lib.hid (ownsRow_below Hown3.out hb4)
  clear hb4 hown4 h4
  go_wp2_with fail
  refine bodyPost_ret (v := .tuple #[.int .i64 kd, .slice A3 m1 c3, .slice A4 m2 c4, .int .i64 0]) (by simp [results, Tryd.results25, go_sem]) rfl ?_
  refine ⟨A3, c3, A4, c4, m1, m2, Hm1.out, Hm2.out, by rw [Hkd.out], (by rw [← Hm1.out]; exact Hown5.out), hc3, hm3, Hown4.out, hc4, hm4, Hb4.out⟩

set_option maxRecDepth 10000 in
/-- the ints that the call owns -/
theorem own_nilI (w : World) (B : Nat) : w.ownsRow B 3 1 (.slice none 0 0) 0 (([] : List Int).map (Value.int .i64)) := ⟨rfl, .inl ⟨rfl, rfl⟩⟩
set_option maxRecDepth 10000 in
theorem Tryd.infoIF : (Tryd.prog.info? 3).map (fun i => (i.zero, i.size, i.bytes)) = some (some (.int .i64 0), 1, 8) := by kernel_rfl

set_option maxRecDepth 10000 in
/-- block g is the variable of the closure of Whole: what is left -/
def Left (w : World) (g B : Nat) (l : List UInt8) : Prop := ∃ A n c, w.heap[g]? = some (.cells #[.slice A n c] 22 (0, 0)) ∧ Rd w B A n l ∧ n ≤ 137438953400 ∧ n ≤ c ∧ c ≤ 9223372036854775807

theorem ownsRow_grown {w w' : World} {B n g : Nat} {e : TypeId} {v : Value} {xs : List Value} (h : w.ownsRow B e 1 v n xs) (hg : w.grownBy w' (some g)) (hB : g < B) : w'.ownsRow B e 1 v n xs := by
  refine ⟨h.1, ?_⟩
  rcases h.2 with h | ⟨k, cap, cur, h1, h2, h3, h4⟩
  · exact .inl h
  · exact .inr ⟨k, cap, cur, h1, h2, (hg.block k (lt_of_block h3) (by simp; omega)).trans h3, h4⟩
theorem Left.grown {w w' : World} {g B : Nat} {l : List UInt8} {row : Option Nat} (h : Left w g B l) (hg : w.grownBy w' row) (hBg : B ≤ g) (hne : ∀ k, row = some k → g < k) : Left w' g B l := by
  obtain ⟨A, n, c, hh, hr, hn, hc, hm⟩ := h
  have hlt := lt_of_block hh
  exact ⟨A, n, c, (hg.block g hlt (fun e => Nat.lt_irrefl _ (hne g e.symm))).trans hh, hr.keep fun p hp => World.cell?_of_block (hg.block _ (by omega) (fun e => by have := hne _ e.symm; omega)), hn, hc, hm⟩
def leftN2 (w : World) (g : Nat) : Nat := match w.cell? ⟨g, 0, none⟩ with | some (.slice _ n _) => n | _ => 0
theorem Left.len {w : World} {g B : Nat} {l : List UInt8} (h : Left w g B l) : leftN2 w g = l.length := by
  obtain ⟨A, n, c, hh, hr, _⟩ := h
  unfold leftN2
  rw [cell_blk hh 0]
  exact hr.1.symm

end Go.Proofs.YtfabcmohaikfoaaDoor
