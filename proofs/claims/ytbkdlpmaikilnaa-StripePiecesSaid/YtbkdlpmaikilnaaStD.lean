/- Contract of package stripe: Pieces. -/
import Derived.Test.YtbkdlpmaikilnaaStC
namespace Go.Proofs.Ytbkdlpmaikilnaa
open Go.RowKit

theorem place_at (u c m off f : Nat) (w : World) (h : LN u c m) (hoff : off ≤ 1099511627776) (hf : f ≤ 512) :
    Calls Try.prog 24 #[.agg #[.int .i64 u, .int .i64 c, .int .i64 ((u * m : Nat) : Int)], .int .i64 ((off : Int) + (f : Int))] w fun e w' => e = .returned (.tuple #[.int .i64 (pO u c m (off + f)), .int .i64 (pK u c m (off + f))]) ∧ Below w.heap.size w w' := by
  have h := place_any u c m (off + f) w h (by omega)
  rw [Int.natCast_add] at h
  exact h

theorem Acc.to {w w' : World} {g : Nat} {ps : List Pc} (h : Acc w g ps) (hb : Below w.heap.size w w') : Acc w'.drew g ps := by
  obtain ⟨v, hh, hown⟩ := h
  have h1 := (hb.block g (lt_of_block hh)).trans hh
  have h2 := ownB hown hb
  exact ⟨v, h1, h2.1, h2.2⟩
theorem LayAt.drew {b : Nat} {U C O : Int} {w : World} (h : LayAt b U C O w) : LayAt b U C O w.drew := ⟨h.c0, h.c1, h.c2⟩
theorem ownBase {w : World} {B B' n s : Nat} {e : TypeId} {v : Value} {xs : List Value} (h : w.ownsRow B e s v n xs) (hB : B' ≤ B) : w.ownsRow B' e s v n xs := by
  refine ⟨h.1, ?_⟩
  rcases h.2 with h | ⟨g, cap, cur, h1, h2, h3⟩
  · exact .inl h
  · exact .inr ⟨g, cap, cur, h1, Nat.le_trans hB h2, h3⟩

set_option maxHeartbeats 1000000 in
theorem Pieces_ok (u c m off n : Nat) (w : World) (h : LN u c m) (hoff : off ≤ 1099511627776) (hn : n ≤ 512) :
    Calls Try.prog 17 #[.agg #[.int .i64 u, .int .i64 c, .int .i64 ((u * m : Nat) : Int)], .int .i64 off, .int .i64 n] w fun e w' => ∃ v, e = .returned v ∧ w'.ownsRow w.heap.size 37 4 v (pcs u c m off n).length (flat (pcs u c m off n)) ∧ Below w.heap.size w w' := by
  have Hv := Lib.hid (show ([(off : Int), (n : Int)].all far && decide (Lay (u : Int) (c : Int) ((u * m : Nat) : Int))) = true by
    rw [decide_eq_true h.lay]; simp [far]; omega)
  have H := fun f (hf : f ≤ 512) w => Lib.hid (place_at u c m off f w h hoff hf)
  have HN := Lib.hid h
  have hu1 : (u : Int) ≠ 0 := by have := h.u1; omega
  have hu := h.u64
  generalize hO : ((u * m : Nat) : Int) = O at Hv H ⊢
  clear h hO
  go_enter Try.func17, Try.ntmps17
  go_wp2_with fail
  refine (valid_any u c O _ 2 2 [(off : Int), (n : Int)] _ _ (lit2 _ _ _ _ _ (by simp)) (by simp) (by omega)).mono ?_
  rintro e w1 ⟨rfl, hb1⟩
  rw [Hv.out]
  have HL := Lib.hid (((LayAt.box w u c O 23).more (.cells #[.int .i64 off, .int .i64 n] 3)).to hb1)
  have Hb1 := Lib.hid (bel2 hb1)
  clear hb1
  go_wp2_with fail
  have Hacc0 : Hid (Acc (w1.alloc (.cells #[.slice none 0 0] 33)) w1.heap.size []) := ⟨.slice none 0 0, heap_alloc_new w1 _, World.ownsRow_nil _ _ _ _⟩
  have HL0 := Lib.hid (HL.out.more (.cells #[.slice none 0 0] 33))
  have Hb0 := Lib.hid (Hb1.out.alloc Hb1.out.size (.cells #[.slice none 0 0] 33))
  have hgb := HL.out.lt
  generalize w1.alloc (.cells #[.slice none 0 0] 33) = w2 at Hacc0 HL0 Hb0 ⊢
  generalize w1.heap.size = g at hgb Hacc0 ⊢
  clear HL Hb1
  go_loopw [9] (fun i wr => ∃ f : Nat, f ≤ n ∧ i = .int .i64 f ∧ Hid (Acc wr g (pcs u c m off f)) ∧ Hid (LayAt w.heap.size u c O wr) ∧ Hid (Below w.heap.size w wr)) (fun i _ => n - (intOf i).toNat)
  case atStart => exact ⟨0, Nat.zero_le _, rfl, Hacc0, HL0, Hb0⟩
  case round =>
    obtain ⟨f, hf, rfl, Hacc, HLr, Hbr⟩ := hrel
    clear Hacc0 HL0 Hb0
    by_cases hlt : f < n
    · have c0 := HLr.out.c0
      have c1 := HLr.out.c1
      have c2 := HLr.out.c2
      have hx1 : (off + f) % u < u := Nat.mod_lt _ HN.out.u1
      have hpk := pK_le HN.out (off + f)
      have hpm : pK u c m (off + f) % u = (off + f) % u := pK_mod (off + f)
      obtain ⟨x, hx⟩ : ∃ x, x = (off + f) % u := ⟨_, rfl⟩
      obtain ⟨o, ho⟩ : ∃ o, o = pO u c m (off + f) := ⟨_, rfl⟩
      obtain ⟨k, hk⟩ : ∃ k, k = pK u c m (off + f) := ⟨_, rfl⟩
      have Hf := fun w => Lib.hid (H f (by omega) w).out
      rw [← hx] at hx1 hpm
      rw [← hk] at hpk hpm Hf
      rw [← ho] at Hf
      have hrem : (k : Int).tmod (u : Int) = (x : Int) := by rw [tmodN, hpm]
      obtain ⟨a, ha⟩ : ∃ a, a = u - x := ⟨_, rfl⟩
      obtain ⟨b, hb⟩ : ∃ b, b = n - f := ⟨_, rfl⟩
      obtain ⟨d, hd⟩ : ∃ d, d = min a b := ⟨_, rfl⟩
      have hsub1 : IntKind.i64.wrap ((u : Int) - (x : Int)) = (a : Int) := by rw [IntWalk.i64_in _ (by omega)]; omega
      have hsub2 : IntKind.i64.wrap ((n : Int) - (f : Int)) = (b : Int) := by rw [IntWalk.i64_in _ (by omega)]; omega
      have Hstep := Lib.hid (show pcs u c m off (f + d) = addP (pcs u c m off f) ⟨o, k, d, f⟩ by rw [ho, hk]; exact pcs_unit u c m off f d (by omega) (by omega))
      have Hlast := Lib.hid (fun q hq => pcs_last HN.out off f q hq)
      have Hlen := Lib.hid (pcs_len u c m off f)
      have hd1 : 1 ≤ d := by omega
      have hd2 : d ≤ 64 := by omega
      have hd3 : f + d ≤ n := by omega
      have Hd := Lib.hid hd
      clear hx ho hk hpm hx1 ha hb hd
      go_upto_region 8 with (go_at_call 24; refine (Hf _).out.mono ?_; rintro e w3 ⟨rfl, hb3⟩)
      have HL3 := Lib.hid (HLr.out.to hb3)
      have Hb3 := Lib.hid (Hbr.out.trans (hb3.mono Hbr.out.size))
      have Hb4 := Lib.hid hb3
      clear hb3 c0 c1 c2
      go_cut [12] (fun s12 wx => s12 = .int .i64 d ∧ wx = w3.drew)
      case first =>
        have c0 := HL3.out.c0
        go_region
        go_wp2_with fail
        all_goals
          have hdd := Hd.out
          go_meet
          exact ⟨by congr 1; omega, rfl⟩
      case rest =>
        obtain ⟨rfl, rfl⟩ := hcut
        go_wp2_with fail
        refine (add_any g _ ⟨o, k, d, f⟩ _ (show Acc w3.drew g (pcs u c m off f) from Acc.to Hacc.out Hb4.out) (fun q hq => by have := Hlast.out q hq; show _ ∧ q.l + d ≤ 1000; omega) (by have := Hlen.out; omega)).mono ?_
        rintro e w4 ⟨rfl, hacc4, hb5⟩
        rw [← Hstep.out] at hacc4
        have Hacc4 := Lib.hid hacc4
        have HL4 := Lib.hid (HL3.out.drew.below hb5 hgb)
        have Hb6 := Lib.hid (Hb3.out.drew.trans (hb5.mono (Nat.le_of_lt hgb)))
        clear hacc4 hb5
        go_wp2_with fail
        go_roundw
        case rel => exact ⟨f + d, hd3, by go_num, Hacc4, HL4, Hb6⟩
        case measure => simp [intOf]; omega
    · obtain rfl : f = n := by omega
      obtain ⟨v, hh, hown⟩ := Hacc.out
      obtain ⟨A, cp, rfl, _, _, _⟩ := own_form hown
      have h0 := cell_blk hh 0
      simp only [List.getElem?_toArray, List.getElem?_cons_zero] at h0
      have Hown := Lib.hid (ownBase hown (Nat.le_of_lt (Nat.lt_succ_of_lt hgb)))
      clear hh hown
      go_wp2_with fail
      go_ret
      exact ⟨_, rfl, Hown.out, Hbr.out⟩

set_option maxHeartbeats 1000000 in
theorem Pieces_no (U C O off n : Int) (w : World) (h : ¬ (Lay U C O ∧ 0 ≤ off ∧ off ≤ 1099511627776 ∧ 0 ≤ n ∧ n ≤ 512)) :
    Calls Try.prog 17 #[.agg #[.int .i64 U, .int .i64 C, .int .i64 O], .int .i64 off, .int .i64 n] w fun e w' => e = .returned (.slice none 0 0) ∧ Below w.heap.size w w' := by
  by_cases hv : ([off, n].all far && decide (Lay U C O)) = true
  · have hn : 512 < n := by
      simp [far] at hv
      exact Int.not_le.1 fun q => h ⟨hv.2, hv.1.1.1, hv.1.1.2, hv.1.2.1, q⟩
    have Hv := Lib.hid hv
    clear h hv
    go_enter Try.func17, Try.ntmps17
    go_wp2_with fail
    refine (valid_any U C O _ 2 2 [off, n] _ _ (lit2 _ _ _ _ _ (by simp)) (by simp) (by omega)).mono ?_
    rintro e w1 ⟨rfl, hb1⟩
    rw [Hv.out]
    have Hb1 := Lib.hid (bel2 hb1)
    clear hb1
    go_wp2_with fail
    go_ret
    exact ⟨rfl, Hb1.out⟩
  · have Hv := Lib.hid (Bool.eq_false_iff.2 hv)
    clear h hv
    go_enter Try.func17, Try.ntmps17
    go_wp2_with fail
    refine (valid_any U C O _ 2 2 [off, n] _ _ (lit2 _ _ _ _ _ (by simp)) (by simp) (by omega)).mono ?_
    rintro e w1 ⟨rfl, hb1⟩
    rw [Hv.out]
    have Hb1 := Lib.hid (bel2 hb1)
    clear hb1
    go_wp2_with fail
    go_ret
    exact ⟨rfl, Hb1.out⟩
end Go.Proofs.Ytbkdlpmaikilnaa
