/- Contracts: Next and Whole of package frame. -/
import Derived.Test.YthidmajlmehopaaDoorFrD
namespace Go.Proofs.YthidmajlmehopaaDoor
open Go.RowKit

/-- Next found a frame -/
def NextY (w : World) (l : List UInt8) (e : Ending) (w' : World) : Prop :=
  ∃ A1 c1 A2 c2 m1 m2, m1 = cntF l ∧ m2 = l.length - (cntF l + 12) ∧ e = .returned (.tuple #[.int .i64 ((l.getD 1 0).toNat : Int), .slice A1 m1 c1, .slice A2 m2 c2, .int .i64 0]) ∧
    w'.ownsRow w.heap.size 5 1 (.slice A1 m1 c1) m1 (((l.drop 8).take (cntF l)).map bv) ∧ m1 ≤ c1 ∧ c1 ≤ maxLen ∧
    w'.ownsRow w.heap.size 5 1 (.slice A2 m2 c2) m2 ((l.drop (cntF l + 12)).map bv) ∧ m2 ≤ c2 ∧ c2 ≤ maxLen ∧ Below w.heap.size w w'

set_option maxHeartbeats 1000000 in
theorem Next_no (A : Option Addr) (n c : Nat) (l : List UInt8) (w : World) (hr : Rd w w.heap.size A n l) (hn : n ≤ 137438953400) (hc : n ≤ c) (hm : c ≤ 9223372036854775807) (ht : Tb w) (hx : nxE l ≠ 0) :
    Calls Tryd.prog 14 #[.slice A n c] w (No4 w (nxE l)) := by
  have Hr := Lib.hid hr
  have Ht := Lib.hid ht
  have Hx := Lib.hid hx
  obtain ⟨x, hxe⟩ : ∃ x, x = nxE l := ⟨_, rfl⟩
  have Hxe := Lib.hid hxe
  rw [← hxe]
  clear hr ht hx hxe
  go_enter Tryd.func14, Tryd.ntmps14
  go_wp2_with fail
  refine (cut_any A n c l _ w Hr.out (Nat.le_refl _) hn hc hm Ht.out).mono ?_
  intro e w1 h1
  obtain ⟨rfl, hb1⟩ := h1.2 Hx.out
  rw [← Hxe.out]
  have Hb1 := Lib.hid hb1
  clear hb1 h1
  go_wp2_with (go_at_call 24; refine (Clone_none _).mono ?_; rintro e w' ⟨rfl, rfl⟩)
  exact bodyPost_ret (v := .tuple #[.int .i64 0, .slice none 0 0, .slice none 0 0, .int .i64 x]) (by simp [results, Tryd.results14, go_sem]) rfl ⟨rfl, Hb1.out⟩

set_option maxHeartbeats 1000000 in
theorem Next_yes (A : Option Addr) (n c : Nat) (l : List UInt8) (w : World) (hr : Rd w w.heap.size A n l) (hn : n ≤ 137438953400) (hc : n ≤ c) (hm : c ≤ 9223372036854775807) (ht : Tb w) (hx : nxE l = 0) :
    Calls Tryd.prog 14 #[.slice A n c] w (NextY w l) := by
  have Hr := Lib.hid hr
  have Ht := Lib.hid ht
  have Hx := Lib.hid hx
  clear hr ht hx
  go_enter Tryd.func14, Tryd.ntmps14
  go_wp2_with fail
  refine (cut_any A n c l _ w Hr.out (Nat.le_refl _) hn hc hm Ht.out).mono ?_
  intro e w1 h1
  obtain ⟨A1, c1, A2, c2, rfl, hr1, hr2, _, _, hb1⟩ := h1.1 Hx.out
  have hl := Hr.out.1
  have hk := (nx_ok_len Hx.out).2
  obtain ⟨m1, hm1⟩ : ∃ m, m = cntF l := ⟨_, rfl⟩
  obtain ⟨m2, hm2⟩ : ∃ m, m = l.length - (cntF l + 12) := ⟨_, rfl⟩
  obtain ⟨kd, hkd⟩ : ∃ x, x = ((l.getD 1 0).toNat : Int) := ⟨_, rfl⟩
  rw [← hm2, ← hm1, ← hkd]
  rw [← hm1] at hr1
  rw [← hm2] at hr2
  have hm1b : m1 ≤ 8192 := by omega
  have hm2b : m2 ≤ 137438953400 := by omega
  have Hm1 := Lib.hid hm1
  have Hm2 := Lib.hid hm2
  have Hkd := Lib.hid hkd
  have Hr1 := Lib.hid hr1
  have Hr2 := Lib.hid hr2
  have Hb1 := Lib.hid hb1
  clear hb1 h1 hr1 hr2 hl hk hm1 hm2 hkd
  go_wp2_with fail
  refine (Clone_any A1 m1 c1 _ _ (Hr1.out.more Hb1.out.size) (by omega)).mono ?_
  intro e w2 h2
  obtain ⟨A3, c3, rfl, hc3, hm3, hown3, hb3⟩ := h2.own (m := m1) (by rw [Hm1.out, List.length_take, List.length_drop]; have := (nx_ok_len Hx.out); omega)
  have Hb3 := Lib.hid (Hb1.out.trans (hb3.mono Hb1.out.size))
  have Hown3 := Lib.hid (ownsRow_base hown3 Hb1.out.size)
  have Hr4 := Lib.hid (((Hr2.out.more Hb1.out.size).below hb3).more hb3.size)
  clear hb3 hown3 h2
  go_wp2_with fail
  refine (Clone_any A2 m2 c2 _ _ Hr4.out (by omega)).mono ?_
  intro e w4 h4
  obtain ⟨A4, c4, rfl, hc4, hm4, hown4, hb4⟩ := h4.own (m := m2) (by rw [Hm2.out, List.length_drop])
  have Hb4 := Lib.hid (Hb3.out.trans (hb4.mono Hb3.out.size))
  have Hown4 := Lib.hid (ownsRow_base hown4 Hb3.out.size)
  have Hown5 := Lib.hid (ownsRow_below Hown3.out hb4)
  clear hb4 hown4 h4
  go_wp2_with fail
  refine bodyPost_ret (v := .tuple #[.int .i64 kd, .slice A3 m1 c3, .slice A4 m2 c4, .int .i64 0]) (by simp [results, Tryd.results14, go_sem]) rfl ?_
  refine ⟨A3, c3, A4, c4, m1, m2, Hm1.out, Hm2.out, by rw [Hkd.out], (by rw [← Hm1.out]; exact Hown5.out), hc3, hm3, Hown4.out, hc4, hm4, Hb4.out⟩

/-- the ints that the call owns -/
theorem own_nilI (w : World) (B : Nat) : w.ownsRow B 3 1 (.slice none 0 0) 0 (([] : List Int).map (Value.int .i64)) := ⟨rfl, .inl ⟨rfl, rfl⟩⟩
theorem Tryd.infoI : (Tryd.prog.info? 3).map (fun i => (i.zero, i.size, i.bytes)) = some (some (.int .i64 0), 1, 8) := by kernel_rfl

/-- block g is the variable of the closure of Whole: what is left -/
def Left (w : World) (g B : Nat) (l : List UInt8) : Prop := ∃ A n c, w.heap[g]? = some (.cells #[.slice A n c] 22 (0, 0)) ∧ Rd w B A n l ∧ n ≤ 137438953400 ∧ n ≤ c ∧ c ≤ 9223372036854775807

set_option maxHeartbeats 1000000 in
theorem cl_yes (g : Nat) (l : List UInt8) (B : Nat) (w : World) (hg : Left w g B l) (hBg : B ≤ g) (ht : Tb w) (hx : nxE l = 0) :
    Calls Tryd.prog 25 #[.pointer (some ⟨g, 0, none⟩)] w fun e w' => e = .returned (.bool true) ∧ Left w' g B (l.drop (cntF l + 12)) ∧ w.grownBy w' (some g) := by
  obtain ⟨A, n, c, hh, hr, hn, hc, hm⟩ := hg
  have h0 := cell_blk hh 0
  simp only [List.getElem?_toArray, List.getElem?_cons_zero] at h0
  have hlt := lt_of_block hh
  have Hh := Lib.hid hh
  have Hr := Lib.hid hr
  have Ht := Lib.hid ht
  have Hx := Lib.hid hx
  clear hh hr ht hx
  go_enter Tryd.func25, Tryd.ntmps25
  go_wp2_with fail
  refine (cut_any A n c l B w Hr.out (by omega) hn hc hm Ht.out).mono ?_
  intro e w1 h1
  obtain ⟨A1, c1, A2, c2, rfl, _, hr2, hc2, hm2, hb1⟩ := h1.1 Hx.out
  obtain ⟨m2, hm2e⟩ : ∃ m, m = l.length - (cntF l + 12) := ⟨_, rfl⟩
  rw [← hm2e] at hr2 hc2 ⊢
  have hm2b : m2 ≤ n := by have := Hr.out.1; omega
  have hh1 : w1.heap[g]? = some (.cells #[.slice A n c] 22 (0, 0)) := (hb1.block g hlt).trans Hh.out
  have hfr := free_blk hh1 0
  have hcw := cell_blk hh1 0
  simp only [List.getElem?_toArray, List.getElem?_cons_zero] at hcw
  have Hset := Lib.hid (set_blk hh1 0 (.slice A2 m2 c2))
  have Hb1 := Lib.hid hb1
  have Hr2 := Lib.hid hr2
  clear hm2e hb1 hr2 hh1 h1
  go_wp2_with fail
  go_ret
  refine ⟨rfl, ⟨A2, m2, c2, Hset.out, Hr2.out.keep fun p hp => World.cell?_setCell_other _ _ _ _ (fun q => by subst q; simp at hp; omega), by omega, hc2, hm2⟩, ?_⟩
  exact grownBy_trans (grownBy_below Hb1.out _) (grownBy_set _ _ _ _)

set_option maxHeartbeats 1000000 in
theorem cl_no (g : Nat) (l : List UInt8) (B : Nat) (w : World) (hg : Left w g B l) (hBg : B ≤ g) (ht : Tb w) (hx : nxE l ≠ 0) :
    Calls Tryd.prog 25 #[.pointer (some ⟨g, 0, none⟩)] w fun e w' => e = .returned (.bool false) ∧ w.grownBy w' (some g) := by
  obtain ⟨A, n, c, hh, hr, hn, hc, hm⟩ := hg
  have h0 := cell_blk hh 0
  simp only [List.getElem?_toArray, List.getElem?_cons_zero] at h0
  have hlt := lt_of_block hh
  have Hh := Lib.hid hh
  have Hr := Lib.hid hr
  have Ht := Lib.hid ht
  have Hx := Lib.hid hx
  obtain ⟨x, hxe⟩ : ∃ x, x = nxE l := ⟨_, rfl⟩
  have hx0 : (x == 0) = false := by rw [hxe]; simpa using hx
  have Hxe := Lib.hid hxe
  clear hh hr ht hx hxe
  go_enter Tryd.func25, Tryd.ntmps25
  go_wp2_with fail
  refine (cut_any A n c l B w Hr.out (by omega) hn hc hm Ht.out).mono ?_
  intro e w1 h1
  obtain ⟨rfl, hb1⟩ := h1.2 Hx.out
  rw [← Hxe.out]
  have hh1 : w1.heap[g]? = some (.cells #[.slice A n c] 22 (0, 0)) := (hb1.block g hlt).trans Hh.out
  have hfr := free_blk hh1 0
  have hcw := cell_blk hh1 0
  simp only [List.getElem?_toArray, List.getElem?_cons_zero] at hcw
  have Hb1 := Lib.hid hb1
  clear hb1 hh1 h1
  go_wp2_with fail
  go_ret
  exact ⟨rfl, grownBy_trans (grownBy_below Hb1.out _) (grownBy_set _ _ _ _)⟩

theorem ownsRow_grown {w w' : World} {B n g : Nat} {e : TypeId} {v : Value} {xs : List Value} (h : w.ownsRow B e 1 v n xs) (hg : w.grownBy w' (some g)) (hB : g < B) : w'.ownsRow B e 1 v n xs := by
  refine ⟨h.1, ?_⟩
  rcases h.2 with h | ⟨k, cap, cur, h1, h2, h3, h4⟩
  · exact .inl h
  · exact .inr ⟨k, cap, cur, h1, h2, (hg.block k (lt_of_block h3) (by simp; omega)).trans h3, h4⟩
theorem Left.grown {w w' : World} {g B : Nat} {l : List UInt8} {row : Option Nat} (h : Left w g B l) (hg : w.grownBy w' row) (hBg : B ≤ g) (hne : ∀ k, row = some k → g < k) : Left w' g B l := by
  obtain ⟨A, n, c, hh, hr, hn, hc, hm⟩ := h
  have hlt := lt_of_block hh
  exact ⟨A, n, c, (hg.block g hlt (fun e => Nat.lt_irrefl _ (hne g e.symm))).trans hh, hr.keep fun p hp => World.cell?_of_block (hg.block _ (by omega) (fun e => by have := hne _ e.symm; omega)), hn, hc, hm⟩
def leftN2 (w : World) (g : Nat) : Nat := match w.cell? ⟨g, 0, none⟩ with | some (.slice _ n _) => n | _ => 0
theorem Left.len {w : World} {g B : Nat} {l : List UInt8} (h : Left w g B l) : leftN2 w g = l.length := by
  obtain ⟨A, n, c, hh, hr, _⟩ := h
  unfold leftN2
  rw [cell_blk hh 0]
  exact hr.1.symm

set_option maxHeartbeats 1000000 in
theorem Whole_any (A : Option Addr) (n c : Nat) (l : List UInt8) (w : World) (hr : Rd w w.heap.size A n l) (hn : n ≤ 137438953400) (hc : n ≤ c) (hm : c ≤ 9223372036854775807) (ht : Tb w) :
    Calls Tryd.prog 17 #[.slice A n c] w fun e w' => ∃ v m, e = .returned v ∧ w'.ownsRow w.heap.size 3 1 v m ((wh l 0).map (Value.int .i64)) ∧ Below w.heap.size w w' := by
  obtain ⟨i, hi, hz0, hz1, hz2⟩ := info_parts Tryd.infoI
  have Hr := Lib.hid hr
  have Ht := Lib.hid ht
  clear hr ht
  go_enter Tryd.func17, Tryd.ntmps17
  go_wp2_with fail
  have hl0 : Left (w.alloc (.cells #[.slice A n c] 22)) w.heap.size w.heap.size l := ⟨A, n, c, heap_alloc_new _ _, Hr.out.alloc (Nat.le_refl _) _, hn, hc, hm⟩
  have hb0 : Below w.heap.size w (w.alloc (.cells #[.slice A n c] 22)) := (Below.refl _ _).alloc (Nat.le_refl _) _
  have Hl0 := Lib.hid hl0
  have Hb0 := Lib.hid hb0
  have Hl := Lib.hid Hr.out.1
  clear hl0 hb0
  go_loopw [5] (fun v wr => ∃ (at_ : Nat) (m : Nat) (es : List Int), at_ ≤ n ∧ m ≤ at_ ∧ Hid (Left wr w.heap.size w.heap.size (l.drop at_)) ∧ wr.ownsRow (w.heap.size + 1) 3 1 v m (es.map (Value.int .i64)) ∧ Hid (wh l 0 = es ++ wh (l.drop at_) at_) ∧ Hid (Below w.heap.size w wr)) (fun _ wr => leftN2 wr w.heap.size)
  case atStart => exact ⟨0, 0, [], Nat.zero_le _, Nat.le_refl _, Hl0.out, own_nilI _ _, rfl, Hb0.out⟩
  case round =>
    obtain ⟨at_, m, es, hat, hmat, HL, hown, Hw, Hb⟩ := hrel
    by_cases hx : nxE (l.drop at_) = 0
    · have Hx := Lib.hid hx
      clear hx
      go_wp2_with fail
      refine (cl_yes w.heap.size _ w.heap.size wr HL.out (Nat.le_refl _) (Ht.out.below Hb.out Ht.out.size) Hx.out).mono ?_
      rintro e w1 ⟨rfl, hL1, hg1⟩
      have hok := nx_ok_len Hx.out
      rw [List.length_drop, Hl.out] at hok
      rw [List.drop_drop] at hL1
      have hwh := wh_step Hx.out at_
      rw [List.drop_drop] at hwh
      obtain ⟨at2, hat2⟩ : ∃ x, x = at_ + (cntF (l.drop at_) + 12) := ⟨_, rfl⟩
      rw [← hat2] at hwh hL1
      have hat3 : at2 ≤ n := by omega
      have hat4 : at_ + 1 ≤ at2 := by omega
      have Hown1 := Lib.hid (ownsRow_grown hown hg1 (Nat.lt_succ_self _))
      have Hb1 := Lib.hid (Hb.out.grown hg1 Hb.out.size (fun q hq => by injection hq with hq; omega))
      have Hwh := Lib.hid (Hw.out.trans (by rw [hwh]))
      have HL1 := Lib.hid hL1
      have hlen1 := hL1.len
      have Hlen0 := Lib.hid HL.out.len
      obtain ⟨A1, n1, c1, hh1, hr1, hn1, hc1, hm1⟩ := hL1
      have hcell := cell_blk hh1 0
      simp only [List.getElem?_toArray, List.getElem?_cons_zero] at hcell
      have hn1e : n1 + at2 = n := by have := hr1.1; rw [List.length_drop, Hl.out] at this; omega
      have Hn1e := Lib.hid hn1e
      have hn1n : n1 ≤ n := by omega
      have hlt1 : w.heap.size < w1.heap.size := lt_of_block hh1
      clear hok hwh hat2 hlen1 hh1 hr1 hn1e hown hg1
      go_wp2_with (at_builtin; refine wpList_append_own _ rfl (.tmp 10) (.tmp 16) 36 rfl (w.heap.size + 1) 3 i (.int .i64 0) 1 8 Tryd.underlying36 hi hz0 hz1 hz2 rfl (by decide) _ _ _ rfl (Hown1.out.alloc _) ⟨w1.heap.size, 0, none⟩ 1 1 [.int .i64 ((n : Int) - (n1 : Int))] rfl rfl (one_new _ _ _) (by intro u hu; simp at hu; subst hu; rfl) (by simp only [maxLen]; omega) (by omega) (by simp; omega) ?_; intro v' w2 hown2 hg2 _)
      have hne : ∀ k, v'.ownBlock = some k → w.heap.size < k := fun k hk => by have := (hown2.lt k hk).1; omega
      have HL2 := Lib.hid ((HL1.out.grown (World.grownBy_alloc _ _ none) (Nat.le_refl _) (fun k hk => by cases hk)).grown hg2 (Nat.le_refl _) (fun k hk => by have := (Hown1.out.lt k hk).1; omega))
      have Hb2 := Lib.hid ((Hb1.out.alloc Hb1.out.size _).grown hg2 (by have := Hb1.out.size; simp; omega) (fun q hq => by have := (Hown1.out.lt q hq).1; omega))
      have hown3 : w2.ownsRow (w.heap.size + 1) 3 1 v' (m + 1) ((es ++ [(at2 : Int)]).map (Value.int .i64)) := by
        rw [List.map_append, List.map_cons, List.map_nil, show (at2 : Int) = (n : Int) - (n1 : Int) by have := Hn1e.out; omega]
        exact hown2
      clear hown2 hg2 hne
      go_wp2
      go_roundw
      case rel => exact ⟨at2, m + 1, es ++ [(at2 : Int)], hat3, by omega, HL2.out, hown3, by rw [List.append_assoc]; exact Hwh.out, Hb2.out⟩
      case measure =>
        rw [HL2.out.len, Hlen0.out, List.length_drop, List.length_drop, Hl.out]
        omega
    · have Hx := Lib.hid hx
      clear hx
      go_wp2_with fail
      refine (cl_no w.heap.size _ w.heap.size wr HL.out (Nat.le_refl _) (Ht.out.below Hb.out Ht.out.size) Hx.out).mono ?_
      rintro e w1 ⟨rfl, hg1⟩
      have Hown1 := Lib.hid (ownsRow_grown hown hg1 (Nat.lt_succ_self _))
      have Hb1 := Lib.hid (Hb.out.grown hg1 Hb.out.size (fun q hq => by injection hq with hq; omega))
      have Hwh := Lib.hid (Hw.out.trans (by rw [wh_stop Hx.out, List.append_nil]))
      clear hown hg1
      go_wp2_with fail
      go_ret
      refine ⟨_, m, rfl, ?_, Hb1.out⟩
      rw [Hwh.out]
      exact ownsRow_base Hown1.out (Nat.le_succ _)
end Go.Proofs.YthidmajlmehopaaDoor
