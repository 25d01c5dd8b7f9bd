/- Contracts of the document's Get, May, Row (maps of objects' states). -/
import Derived.Test.YtaobdebeglenaaaMa
import Derived.Test.YtaobdebeglenaaaSpM
import Derived.Test.YtaobdebeglenaaaMd
namespace Go.Proofs.Ytaobdebeglenaaa
open Go.RowKit

/-- ints in new memory -/
def OutI (w : World) (l : List Int) (e : Ending) (w' : World) : Prop := ∃ v, e = .returned v ∧ w'.ownsRow w.heap.size 3 1 v l.length (l.map (Value.int .i64)) ∧ Below w.heap.size w w'
/-- a slice lies in a block of elements of type t, at L or behind -/
def NewA (w : World) (t : TypeId) (L : Nat) (A : Option Addr) (n : Nat) : Prop := 0 < n → ∃ g o cur, A = some ⟨g, o, none⟩ ∧ L ≤ g ∧ w.heap[g]? = some (.cells cur t (0, 0))
theorem NewA.nil (w : World) (t : TypeId) (L : Nat) (A : Option Addr) : NewA w t L A 0 := fun h => absurd h (by omega)
theorem NewA.own {w : World} {base n c s : Nat} {e : TypeId} {A : Option Addr} {xs : List Value} (h : w.ownsRow base e s (.slice A n c) n xs) : NewA w e base A n := fun hn => by
  rcases h.2 with ⟨_, h0⟩ | ⟨g, cap, cur, h1, h2, h3, _⟩
  · omega
  · cases h1; exact ⟨_, _, _, rfl, h2, h3⟩
theorem NewA.cut {w : World} {base g k c s : Nat} {e : TypeId} {xs : List Value} (h : w.ownsRow base e s (.slice (some ⟨g, 0, none⟩) k c) k xs) (n : Nat) : NewA w e base (some ⟨g, 0, none⟩) n := fun _ => by
  rcases h.2 with ⟨h0, _⟩ | ⟨g', cap, cur, h1, h2, h3, _⟩
  · cases h0
  · cases h1; exact ⟨_, _, _, rfl, h2, h3⟩
theorem NewA.less {w : World} {t : TypeId} {L L' n : Nat} {A : Option Addr} (h : NewA w t L A n) (hl : L' ≤ L) : NewA w t L' A n := fun hn => by
  obtain ⟨g, o, cur, h1, h2, h3⟩ := h hn
  exact ⟨g, o, cur, h1, by omega, h3⟩
theorem NewA.to {w w' : World} {t : TypeId} {L n : Nat} {A : Option Addr} (h : NewA w t L A n) (hb : Below w.heap.size w w') : NewA w' t L A n := fun hn => by
  obtain ⟨g, o, cur, h1, h2, h3⟩ := h hn
  exact ⟨g, o, cur, h1, h2, (hb.block g (lt_of_block h3)).trans h3⟩
/-- what a call tells: ints that can be read, in new memory -/
def GivesI (f : Nat) (xs : Array Value) (w : World) (l : List Int) : Prop :=
  Calls Try.prog f xs w fun e w' => ∃ A n c, e = .returned (.slice A n c) ∧ RdI w' w'.heap.size A n l ∧ (n ≤ 9223372036854775807 ∧ NewA w' 3 w.heap.size A n) ∧ Below w.heap.size w w'
theorem ownI {w : World} {base n : Nat} {e : TypeId} {v : Value} {xs : List Value} (h : w.ownsRow base e 1 v n xs) : ∃ A c, v = .slice A n c ∧ n ≤ c ∧ c ≤ maxLen := by
  rcases h.2 with ⟨rfl, rfl⟩ | ⟨g, cap, cur, rfl, _, _, h1, h2, _⟩
  · exact ⟨none, 0, rfl, Nat.le_refl _, Nat.zero_le _⟩
  · exact ⟨_, cap, rfl, h1, h2⟩
theorem givesI {f : Nat} {xs : Array Value} {w : World} {l : List Int} (h : Calls Try.prog f xs w (OutI w l)) : GivesI f xs w l :=
  h.mono fun e w' q => by
    obtain ⟨v, h1, h2, h3⟩ := q
    obtain ⟨A, c, rfl, h4, h5⟩ := ownI h2
    have h6 : c ≤ 9223372036854775807 := by simpa [maxLen] using h5
    exact ⟨A, _, c, h1, RdI.own h2, ⟨by omega, NewA.own h2⟩, h3⟩

set_option maxRecDepth 10000 in
set_option maxHeartbeats 1000000 in
theorem RGet_any (A : Option Addr) (n c : Nat) (m : List Int) (i : Int) (B : Nat) (w : World) (hr : RdI w B A n m) (_hn : n ≤ 9223372036854775807) :
    Calls Try.prog 33 #[.slice A n c, .int .i64 i] w fun e w' => e = .returned (.int .i64 (getO m i)) ∧ w = w' := by
  have Hr := Lib.hid hr
  clear hr
  by_cases h0 : 0 ≤ i
  · obtain ⟨k, rfl⟩ : ∃ k : Nat, i = k := ⟨i.toNat, by omega⟩
    clear h0
    by_cases h1 : k < n
    · by_cases h2 : k < 512
      · obtain ⟨ad, rfl, _, hc⟩ := Hr.out.cellAt h1
        have Hg := Lib.hid (getO_nat m k)
        have Hm := Lib.hid (show m.getD k 0 = m[k]'(by rw [Hr.out.1]; exact h1) by rw [List.getD_eq_getElem?_getD, List.getElem?_eq_getElem (by rw [Hr.out.1]; exact h1)]; rfl)
        generalize m[k]'(by rw [Hr.out.1]; exact h1) = x at hc Hm
        have hk1 : (k : Int) < (n : Int) := by omega
        have hk2 : (k : Int) < 512 := by omega
        have hk0 : (0 : Int) ≤ (k : Int) := by omega
        by_cases h3 : 0 ≤ x
        · by_cases h4 : x ≤ 2
          · have He := Lib.hid (show getO m k = x by rw [Hg.out]; unfold gN; rw [Hm.out, if_pos ⟨h2, h3, h4⟩])
            rw [He.out]
            clear Hg Hm He
            go_enter Try.func33, Try.ntmps33
            go_wp2_with fail
            go_ret
            exact ⟨rfl, rfl⟩
          · have He := Lib.hid (show getO m k = 0 by rw [Hg.out]; unfold gN; rw [Hm.out, if_neg (by omega)])
            rw [He.out]
            clear Hg Hm He
            go_enter Try.func33, Try.ntmps33
            go_wp2_with fail
            go_ret
            exact ⟨rfl, rfl⟩
        · have He := Lib.hid (show getO m k = 0 by rw [Hg.out]; unfold gN; rw [Hm.out, if_neg (by omega)])
          rw [He.out]
          clear Hg Hm He
          go_enter Try.func33, Try.ntmps33
          go_wp2_with fail
          go_ret
          exact ⟨rfl, rfl⟩
      · have He := Lib.hid (getO_high m (i := k) (by omega))
        rw [He.out]
        have hk1 : (k : Int) < (n : Int) := by omega
        have hk2 : (512 : Int) ≤ (k : Int) := by omega
        have hk0 : (0 : Int) ≤ (k : Int) := by omega
        clear He
        go_enter Try.func33, Try.ntmps33
        go_wp2_with fail
        go_ret
        exact ⟨rfl, rfl⟩
    · have He := Lib.hid (getO_out m (i := k) (by rw [Hr.out.1]; omega))
      rw [He.out]
      have hk1 : (n : Int) ≤ (k : Int) := by omega
      have hk0 : (0 : Int) ≤ (k : Int) := by omega
      clear He
      go_enter Try.func33, Try.ntmps33
      go_wp2_with fail
      go_ret
      exact ⟨rfl, rfl⟩
  · have He := Lib.hid (getO_neg m (i := i) (by omega))
    rw [He.out]
    have hk0 : i < 0 := by omega
    clear He
    go_enter Try.func33, Try.ntmps33
    go_wp2_with fail
    go_ret
    exact ⟨rfl, rfl⟩

/-- the conditions of a canonical map, as the document asks them -/
def okM (m : List Int) : Bool := m.all fun x => decide (0 ≤ x ∧ x ≤ 2)
theorem is_ok {m : List Int} (h : okM m = true) : IsRow m ↔ m.length ≤ 512 ∧ (m ≠ [] → m.getD (m.length - 1) 0 ≠ 0) := by
  unfold okM at h
  rw [List.all_eq_true] at h
  constructor
  · exact fun q => ⟨q.1, q.2.2⟩
  · exact fun q => ⟨q.1, fun x hx => by simpa using h x hx, q.2⟩
theorem is_no {m : List Int} {k : Nat} (hk : k < m.length) (h : ¬ (0 ≤ m[k] ∧ m[k] ≤ 2)) : ¬ IsRow m := fun q => h (q.2.1 _ (List.getElem_mem hk))

set_option maxRecDepth 10000 in
set_option maxHeartbeats 1000000 in
theorem RMay_any (A : Option Addr) (n c : Nat) (m : List Int) (B : Nat) (w : World) (hr : RdI w B A n m) (hn : n ≤ 100000) :
    Calls Try.prog 67 #[.slice A n c] w fun e w' => e = .returned (.bool (decide (IsRow m))) ∧ w = w' := by
  have Hr := Lib.hid hr
  clear hr
  go_enter Try.func67, Try.ntmps67
  go_wp2_with fail
  go_loopw [3] (fun i wr => wr = w ∧ ∃ j : Nat, j ≤ n ∧ i = .int .i64 j ∧ Hid (okM (m.take j) = true)) (fun i _ => n - (intOf i).toNat)
  case atStart => exact ⟨rfl, 0, Nat.zero_le _, rfl, rfl⟩
  case round =>
    obtain ⟨rfl, j, hj, rfl, Hj⟩ := hrel
    by_cases hjn : j < n
    · have hjl : j < m.length := by rw [Hr.out.1]; exact hjn
      obtain ⟨ad, rfl, _, hc⟩ := Hr.out.cellAt hjn
      have Hst := Lib.hid (show okM (m.take (j + 1)) = (okM (m.take j) && decide (0 ≤ m[j] ∧ m[j] ≤ 2)) by unfold okM; rw [List.take_succ_eq_append_getElem hjl, List.all_append]; simp)
      have Hno : Hid (¬ (0 ≤ m[j] ∧ m[j] ≤ 2) → ¬ IsRow m) := is_no hjl
      generalize m[j] = x at hc Hst Hno
      have hj0 : (0 : Int) ≤ (j : Int) := by omega
      have hj1 : (j : Int) < (n : Int) := by omega
      clear hjl
      by_cases h3 : 0 ≤ x
      · by_cases h4 : x ≤ 2
        · have Hj2 : Hid (okM (m.take (j + 1)) = true) := by show _ = _; rw [Hst.out, Hj.out]; simp [h3, h4]
          clear Hst Hno
          go_wp2_with fail
          go_roundw
          case rel => exact ⟨by first | rfl | trivial, j + 1, by omega, by go_num, Hj2⟩
          case measure => simp [intOf]; omega
        · have He := Lib.hid (show decide (IsRow m) = false from decide_eq_false (Hno.out (by omega)))
          clear Hst Hno
          go_wp2_with fail
          go_ret
          exact ⟨by first | (rw [He.out]; done) | (rw [He.out]; rfl), rfl⟩
      · have He := Lib.hid (show decide (IsRow m) = false from decide_eq_false (Hno.out (by omega)))
        clear Hst Hno
        go_wp2_with fail
        go_ret
        exact ⟨by first | (rw [He.out]; done) | (rw [He.out]; rfl), rfl⟩
    · obtain rfl : j = n := by omega
      have hok : okM m = true := by have h := Hj.out; rwa [List.take_of_length_le (by rw [Hr.out.1]; exact Nat.le_refl _)] at h
      have Hiff := Lib.hid (is_ok hok)
      have Hlen := Lib.hid Hr.out.1
      clear hok
      by_cases h512 : j ≤ 512
      · have hq : (j : Int) ≤ 512 := by omega
        rcases Nat.eq_zero_or_pos j with h0 | h0
        · subst h0
          obtain rfl : m = [] := List.eq_nil_of_length_eq_zero Hlen.out
          have He := Lib.hid (show decide (IsRow []) = true from decide_eq_true (Hiff.out.2 ⟨by simp, fun h => absurd rfl h⟩))
          go_wp2_with fail
          go_ret
          exact ⟨by first | (rw [He.out]; done) | (rw [He.out]; rfl), rfl⟩
        · obtain ⟨k, rfl⟩ : ∃ k, j = k + 1 := ⟨j - 1, by omega⟩
          obtain ⟨ad, rfl, _, hc⟩ := Hr.out.cellAt (k := k) (by omega)
          have hkl : k < m.length := by rw [Hlen.out]; omega
          have Hlast := Lib.hid (show m.getD (m.length - 1) 0 = m[k] by rw [Hlen.out, Nat.add_sub_cancel, List.getD_eq_getElem?_getD, List.getElem?_eq_getElem hkl]; rfl)
          have Hne : Hid (m ≠ []) := fun e => by rw [e] at hkl; simp at hkl
          generalize m[k] = x at hc Hlast
          have hk0 : (0 : Int) ≤ (k : Int) := by omega
          have hk1 : (k : Int) < (k : Int) + 1 := by omega
          clear hkl
          by_cases hx : x = 0
          · have He := Lib.hid (show decide (IsRow m) = false from decide_eq_false fun q => (Hiff.out.1 q).2 Hne.out (by rw [Hlast.out]; exact hx))
            clear Hlast
            subst hx
            go_wp2_with fail
            go_ret
            exact ⟨by first | (rw [He.out]; done) | (rw [He.out]; rfl) | (rw [He.out]; simp), rfl⟩
          · have He := Lib.hid (show decide (IsRow m) = true from decide_eq_true (Hiff.out.2 ⟨by rw [Hlen.out]; exact h512, fun _ => by rw [Hlast.out]; exact hx⟩))
            clear Hlast
            go_wp2_with fail
            go_ret
            exact ⟨by first | (rw [He.out]; done) | (rw [He.out]; rfl) | (rw [He.out]; simp [hx]; done) | (rw [He.out]; simp; omega), rfl⟩
      · have He := Lib.hid (show decide (IsRow m) = false from decide_eq_false fun q => h512 (by rw [← Hlen.out]; exact q.1))
        have hq : ¬ (j : Int) ≤ 512 := by omega
        go_wp2_with fail
        go_ret
        exact ⟨by first | (rw [He.out]; done) | (rw [He.out]; rfl), rfl⟩

theorem row_range (m : List Int) {j : Nat} (_hj : j ≤ m.length) (hj2 : j ≤ 512) (h : j = m.length ∨ j = 512) : topF (gN m) 512 = topF (gN m) j :=
  topF_more hj2 fun k hk => by
    rcases h with h | h
    · exact gN_out m (by omega)
    · exact gN_high m (by omega)

set_option maxRecDepth 10000 in
set_option maxHeartbeats 1000000 in
theorem RRow_any (A : Option Addr) (n c : Nat) (m : List Int) (w : World) (hr : RdI w w.heap.size A n m) (hn : n ≤ 100000) :
    Calls Try.prog 91 #[.slice A n c] w (OutI w (rowO m)) := by
  obtain ⟨i, hi, hz0, hz1, hz2⟩ := info_parts Try.infoI
  have Hr := Lib.hid hr
  clear hr
  go_enter Try.func91, Try.ntmps91
  go_wp2_with fail
  go_loopw [3, 4] (fun s i wr => wr = w ∧ ∃ j : Nat, j ≤ n ∧ j ≤ 512 ∧ i = .int .i64 j ∧ s = .int .i64 (topF (gN m) j)) (fun _ i _ => n - (intOf i).toNat)
  case atStart => exact ⟨rfl, 0, Nat.zero_le _, Nat.zero_le _, rfl, rfl⟩
  case round =>
    obtain ⟨rfl, j, hj, hj2, rfl, rfl⟩ := hrel
    by_cases hgo : j < n ∧ j < 512
    · obtain ⟨hjn, hj5⟩ := hgo
      have hj1 : (j : Int) < (n : Int) := by omega
      have hj3 : (j : Int) < 512 := by omega
      have hj0 : (0 : Int) ≤ (j : Int) := by omega
      have HG := Lib.hid (RGet_any A n c m j wr.heap.size wr Hr.out (by omega))
      rw [getO_nat] at HG
      have Hst := Lib.hid (show topF (gN m) (j + 1) = if gN m j ≠ 0 then j + 1 else topF (gN m) j from rfl)
      generalize topF (gN m) j = t at *
      generalize gN m j = x at HG Hst
      by_cases hx : x = 0
      · have Ht := Lib.hid (show topF (gN m) (j + 1) = t by rw [Hst.out, if_neg (by simpa using hx)])
        clear Hst
        go_wp2_with (go_at_call 33; refine HG.out.mono ?_; rintro e w' ⟨rfl, rfl⟩)
        go_roundw
        case rel => exact ⟨by first | rfl | trivial, j + 1, by omega, by omega, by go_num, by rw [Ht.out]⟩
        case measure => simp [intOf]; omega
      · have Ht := Lib.hid (show topF (gN m) (j + 1) = j + 1 by rw [Hst.out, if_pos hx])
        clear Hst
        go_wp2_with (go_at_call 33; refine HG.out.mono ?_; rintro e w' ⟨rfl, rfl⟩)
        go_roundw
        case rel => exact ⟨by first | rfl | trivial, j + 1, by omega, by omega, by go_num, by rw [Ht.out]; go_num⟩
        case measure => simp [intOf]; omega
    · have Hlen := Lib.hid Hr.out.1
      have Htop := Lib.hid (row_range m (j := j) (by rw [Hlen.out]; exact hj) hj2 (by rw [Hlen.out]; omega))
      have Htl := Lib.hid (topF_le (gN m) j)
      generalize topF (gN m) j = t at *
      have ht5 : t ≤ 512 := by have := Htl.out; omega
      have hg : ¬ (j : Int) < (n : Int) ∨ ¬ (j : Int) < 512 := by omega
      have Hrow := Lib.hid (show rowO m = (List.range t).map (gN m) by unfold rowO rowF; rw [Htop.out])
      have Hg := Lib.hid hg
      clear hgo Htop hg
      go_upto_region 3 with fail
      go_cut [14] (fun s14 wx => s14 = .bool false ∧ wx = wr)
      case first =>
        by_cases h1 : (j : Int) < (n : Int)
        · have h2 : ¬ (j : Int) < 512 := by rcases Hg.out with h | h <;> omega
          go_wp2_with fail
          go_meet
          exact ⟨rfl, rfl⟩
        · go_wp2_with fail
          go_meet
          exact ⟨rfl, rfl⟩
      case rest =>
        obtain ⟨rfl, rfl⟩ := hcut
        clear Hg
        go_wp2_with fail
        go_loopw [5, 6] (fun v i wq => ∃ k : Nat, k ≤ t ∧ i = .int .i64 k ∧ Hid (wq.ownsRow wc.heap.size 3 1 v k (((List.range k).map (gN m)).map (Value.int .i64))) ∧ Hid (Below wc.heap.size wc wq)) (fun _ i _ => t - (intOf i).toNat)
        case atStart => exact ⟨0, Nat.zero_le _, rfl, World.ownsRow_nil _ _ _ _, Below.refl _ _⟩
        case round =>
          obtain ⟨k, hk, rfl, Hown, Hbr⟩ := hrel
          by_cases hkt : k < t
          · have hk0 : (0 : Int) ≤ (k : Int) := by omega
            have hk1 : (k : Int) < (t : Int) := by omega
            have HG := Lib.hid (RGet_any A n c m k wc.heap.size wr (Hr.out.below Hbr.out) (by omega))
            rw [getO_nat] at HG
            have Hst := Lib.hid (show ((List.range (k + 1)).map (gN m)).map (Value.int .i64) = ((List.range k).map (gN m)).map (Value.int .i64) ++ [gN m k].map (Value.int .i64) by rw [List.range_succ, List.map_append, List.map_append]; rfl)
            generalize gN m k = x at HG Hst
            have hws := Hbr.out.size
            obtain ⟨A3, c3, rfl, _, _⟩ := ownI Hown.out
            go_wp2_with (first
              | (go_at_call 33; refine HG.out.mono ?_; rintro e w' ⟨rfl, rfl⟩)
              | (at_builtin; refine wpList_append_rd rfl (.tmp 28) (.tmp 32) 24 rfl wc.heap.size 3 i (.int .i64 0) 8 Try.underlying24 hi hz0 hz1 hz2 rfl _ _ _ rfl (Hown.out.alloc _) (some ⟨wr.heap.size, 0, none⟩) 1 1 ([x].map (Value.int .i64)) rfl rfl (RdI_lit wr 3 [x]).src (int_one _) (by simp only [maxLen]; omega) (by omega) (by simp; omega) ?_; intro v2 w2 hown2 hg2; have Hb2 := Lib.hid ((Hbr.out.alloc hws _).grown hg2 (by simp; omega) (fun q hq => (Hown.out.lt q hq).1)); have Hown2 := Lib.hid hown2; clear hown2 hg2))
            go_roundw
            case rel => exact ⟨k + 1, by omega, by go_num, by rw [Hst.out]; exact Hown2, Hb2⟩
            case measure => simp [intOf]; omega
          · obtain rfl : k = t := by omega
            go_wp2_with fail
            go_ret
            exact ⟨_, rfl, by rw [Hrow.out, List.length_map, List.length_range]; exact Hown.out, Hbr.out⟩
end Go.Proofs.Ytaobdebeglenaaa
