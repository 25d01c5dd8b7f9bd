/- Contracts of the document's Pieces and Same. -/
import Derived.Test.YtbkdlpmaikilnaaStD
import Derived.Test.YtbkdlpmaikilnaaStRB
namespace Go.Proofs.Ytbkdlpmaikilnaa
open Go.RowKit

theorem rplace_at (u c m off f : Nat) (w : World) (h : LN u c m) (hoff : off ≤ 1099511627776) (hf : f ≤ 512) :
    Calls Try.prog 28 #[.agg #[.int .i64 u, .int .i64 c, .int .i64 ((u * m : Nat) : Int)], .int .i64 ((off : Int) + (f : Int))] w fun e w' => e = .returned (.tuple #[.int .i64 (pO u c m (off + f)), .int .i64 (pK u c m (off + f))]) ∧ Below w.heap.size w w' := by
  have h := rplace_any u c m (off + f) w h (by omega)
  rw [Int.natCast_add] at h
  exact h

theorem grown34 {B n s : Nat} {e : TypeId} {v : Value} {xs : List Value} {w3 w4 : World} {o : Obj} (hown : w3.ownsRow B e s v n xs) (hB : B ≤ w3.heap.size) (hg : (w3.alloc o).grownBy w4 v.ownBlock) : Below B w3 w4 :=
  ((Below.refl B w3).alloc hB o).grown hg (by simp; omega) (fun k q => (hown.lt k q).1)
theorem four_at (w : World) (p : Pc) (t : TypeId) (b : Nat) (hb : b = w.heap.size) : ∀ j u, (pcC p)[j]? = some u → (w.alloc (.cells #[.int .i64 p.o, .int .i64 p.k, .int .i64 p.l, .int .i64 p.f] t)).cell? ((⟨b, 0, none⟩ : Addr).add j) = some u := by
  subst hb; exact four_new w p t
theorem keptL {W0 w3 w4 : World} {b : Nat} {U C O : Int} {B : Nat} (hL : LayAt b U C O w3) (hb : Below B W0 w3) (h : Below (b + 1) w3 w4) (hB : B ≤ b + 1) : LayAt b U C O w4 ∧ Below B W0 w4 :=
  ⟨hL.below h (Nat.lt_succ_self b), hb.trans (h.mono hB)⟩

theorem stepY {W0 w3 : World} {b gr j cp : Nat} {U C O : Int} {r : List Pc} {q : Pc} (hown : w3.ownsRow (b + 1) 37 4 (.slice (some ⟨gr, 0, none⟩) (j + 1) cp) (j + 1) (flat (r ++ [q]))) (hj : j = r.length) (hL : LayAt b U C O w3) (hb : Below b W0 w3) (hgr : b + 1 ≤ gr) (X : Obj) :
    ((w3.alloc X).setCell ⟨gr, j * 4 + 2, none⟩ (.int .i64 ((q.l : Int) + 1))).ownsRow (b + 1) 37 4 (.slice (some ⟨gr, 0, none⟩) (j + 1) cp) (r ++ [(⟨q.o, q.k, q.l + 1, q.f⟩ : Pc)]).length (flat (r ++ [⟨q.o, q.k, q.l + 1, q.f⟩])) ∧
      LayAt b U C O ((w3.alloc X).setCell ⟨gr, j * 4 + 2, none⟩ (.int .i64 ((q.l : Int) + 1))) ∧ Below b W0 ((w3.alloc X).setCell ⟨gr, j * 4 + 2, none⟩ (.int .i64 ((q.l : Int) + 1))) := by
  subst hj
  have h1 := (World.ownsRow.stored (hown.alloc X) (r.length * 4 + 2) (.int .i64 ((q.l : Int) + 1))).1
  have h2 := flat_set r q 1
  rw [show (((1 : Nat) : Int)) = 1 from rfl] at h2
  rw [h2] at h1
  have h3 : Below (b + 1) w3 ((w3.alloc X).setCell ⟨gr, r.length * 4 + 2, none⟩ (.int .i64 ((q.l : Int) + 1))) :=
    ((Below.refl (b + 1) w3).alloc (by have := hL.lt; omega) X).setCell (by show b + 1 ≤ gr; exact hgr) _
  obtain ⟨h4, h5⟩ := keptL hL hb h3 (Nat.le_succ b)
  refine ⟨?_, h4, h5⟩
  rw [show (r ++ [(⟨q.o, q.k, q.l + 1, q.f⟩ : Pc)]).length = r.length + 1 by simp]
  exact h1

set_option maxHeartbeats 1000000 in
theorem RPieces_ok (u c m off n : Nat) (w : World) (h : LN u c m) (hoff : off ≤ 1099511627776) (hn : n ≤ 512) :
    Calls Try.prog 18 #[.agg #[.int .i64 u, .int .i64 c, .int .i64 ((u * m : Nat) : Int)], .int .i64 off, .int .i64 n] w fun e w' => ∃ v, e = .returned v ∧ w'.ownsRow w.heap.size 37 4 v (pcs u c m off n).length (flat (pcs u c m off n)) ∧ Below w.heap.size w w' := by
  obtain ⟨i, hi, hz0, hz1, hz2⟩ := info_parts Try.infoP
  have Hd := Lib.hid (decide_eq_true h.lay)
  have H := fun f (hf : f ≤ 512) w => Lib.hid (rplace_at u c m off f w h hoff hf)
  have HN := Lib.hid h
  generalize hO : ((u * m : Nat) : Int) = O at Hd H ⊢
  clear h hO
  go_enter Try.func18, Try.ntmps18
  go_wp2_with fail
  refine (May_any u c O _).mono ?_
  rintro e w1 ⟨rfl, hb1⟩
  rw [Hd.out]
  have HL := Lib.hid ((LayAt.box w u c O 23).to hb1)
  have Hb1 := Lib.hid (bel1 hb1)
  clear hb1
  go_wp2_with fail
  go_loopw [8, 9] (fun v i wr => ∃ f : Nat, f ≤ n ∧ i = .int .i64 f ∧ Hid (wr.ownsRow (w.heap.size + 1) 37 4 v (pcs u c m off f).length (flat (pcs u c m off f))) ∧ Hid (LayAt w.heap.size u c O wr) ∧ Hid (Below w.heap.size w wr)) (fun _ i _ => n - (intOf i).toNat)
  case atStart => exact ⟨0, Nat.zero_le _, rfl, World.ownsRow_nil _ _ _ _, HL, Hb1⟩
  case round =>
    obtain ⟨f, hf, rfl, Hown, HLr, Hbr⟩ := hrel
    clear HL Hb1
    by_cases hlt : f < n
    · have c0 := HLr.out.c0
      have c1 := HLr.out.c1
      have c2 := HLr.out.c2
      obtain ⟨o, ho⟩ : ∃ o, o = pO u c m (off + f) := ⟨_, rfl⟩
      obtain ⟨k, hk⟩ : ∃ k, k = pK u c m (off + f) := ⟨_, rfl⟩
      have Hf := fun w => Lib.hid (H f (by omega) w).out
      rw [← hk] at Hf
      rw [← ho] at Hf
      have Hstep := Lib.hid (show pcs u c m off (f + 1) = addP (pcs u c m off f) ⟨o, k, 1, f⟩ by rw [ho, hk]; rfl)
      have Hlast := Lib.hid (fun q hq => pcs_last HN.out off f q hq)
      have Hlen := Lib.hid (pcs_len u c m off f)
      clear ho hk
      generalize pcs u c m off f = ps at Hown Hstep Hlast Hlen
      rcases snoc_cases ps with rfl | ⟨r, q, rfl⟩
      · obtain ⟨A, cp, rfl, _, hm, _⟩ := own_form Hown.out
        have Hown1 : Hid (wr.ownsRow (w.heap.size + 1) 37 4 (.slice A 0 cp) 0 (flat [])) := Hown
        clear Hown
        go_wp2_with (first
          | (go_at_call 28; refine (Hf _).out.mono ?_; rintro e w3 ⟨rfl, hb3⟩; have HL3 := Lib.hid (HLr.out.to hb3); have Hb3 := Lib.hid (Hbr.out.trans (hb3.mono Hbr.out.size)); have Hown3 := Lib.hid (ownB Hown1.out hb3); have hlt3 := HL3.out.lt; clear hb3)
          | (at_builtin; refine wpList_append_own _ rfl (.tmp 78) (.tmp 83) 33 rfl (w.heap.size + 1) 37 i (.agg #[.int .i64 0, .int .i64 0, .int .i64 0, .int .i64 0]) 4 32 Try.underlying33 hi hz0 hz1 hz2 rfl (by decide) _ _ _ rfl (Hown3.out.alloc _) ⟨w3.heap.size, 0, none⟩ 1 1 (pcC ⟨o, k, 1, f⟩) rfl rfl (four_at _ ⟨o, k, 1, f⟩ _ _ (by simp)) (pcC_one ⟨o, k, 1, f⟩) (by simp only [maxLen]; omega) (by omega) (by simp; omega) ?_; intro v2 w4 hown4 hg4 _; obtain ⟨hl4, hb4⟩ := keptL HL3.out Hb3.out (grown34 Hown3.out (by omega) hg4) (Nat.le_succ _); have HL4 := Lib.hid hl4; have Hb4 := Lib.hid hb4; have Hown4 := Lib.hid hown4; clear hown4 hg4 hl4 hb4))
        go_roundw
        case rel => exact ⟨f + 1, by omega, by go_num, by rw [Hstep.out]; exact Hown4.out, HL4, Hb4⟩
        case measure => simp [intOf]; omega
      · obtain ⟨gr, cp, rfl, hcp, hm, hgr, q0, q1, q2, q3⟩ := last_cells (r := r) (q := q) (by have h := Hown.out; rw [show (r ++ [q]).length = r.length + 1 by simp] at h; exact h)
        have Hown1 : Hid (wr.ownsRow (w.heap.size + 1) 37 4 (.slice (some ⟨gr, 0, none⟩) (r.length + 1) cp) (r.length + 1) (flat (r ++ [q]))) := by have h := Hown; rw [show (r ++ [q]).length = r.length + 1 by simp] at h; exact h
        have hrl : r.length + 1 ≤ f := by have h := Hlen.out; simpa using h
        have hq64 := Hlast.out q (by simp)
        obtain ⟨j, hj⟩ : ∃ j, j = r.length := ⟨_, rfl⟩
        rw [← hj] at Hown1 hrl q0 q1 q2 q3 hcp ⊢
        have Hj := Lib.hid hj
        have hjj : (j : Int) < (j : Int) + 1 := by omega
        clear Hown hj Hlast Hlen
        by_cases hn : nxt q ⟨o, k, 1, f⟩ = true
        · have Hst := Lib.hid (Hstep.out.trans (addP_yes hn))
          have hqo : (q.o : Int) = o := by have h : q.o = o ∧ q.k + q.l = k := by simpa [nxt] using hn
                                           omega
          have hqk : (q.k : Int) + q.l = k := by have h : q.o = o ∧ q.k + q.l = k := by simpa [nxt] using hn
                                                 omega
          clear hn Hstep
          go_wp2_with (first
            | (go_at_call 28; refine (Hf _).out.mono ?_; rintro e w3 ⟨rfl, hb3⟩; have HL3 := Lib.hid (HLr.out.to hb3); have Hb3 := Lib.hid (Hbr.out.trans (hb3.mono Hbr.out.size)); have Hown3 := Lib.hid (ownB Hown1.out hb3); have hlt3 := HL3.out.lt; have q0 := cellK q0 hb3; have q1 := cellK q1 hb3; have q2 := cellK q2 hb3; have q3 := cellK q3 hb3; have hfa : ∀ o, (w3.alloc o).frozen? ⟨gr, j * 4 + 2, none⟩ = false := fun o => World.ownsRow.frozenAt (Hown3.out.alloc o) (j * 4 + 2); have hca : ∀ o, (w3.alloc o).cell? ⟨gr, j * 4 + 2, none⟩ = some (.int .i64 q.l) := fun o => cellK q2 ((Below.refl _ _).alloc (Nat.le_refl _) o); clear hb3))
          go_roundw
          case rel =>
            obtain ⟨h4, h5, h6⟩ := stepY Hown3.out Hj.out HL3.out Hb3.out hgr (.cells #[.int .i64 o, .int .i64 q.k, .int .i64 q.l, .int .i64 q.f] 37)
            exact ⟨f + 1, by omega, by go_num, by rw [Hst.out]; exact h4, h5, h6⟩
          case measure => simp [intOf]; omega
        · have hn2 := Bool.eq_false_iff.2 hn
          have Hst := Lib.hid (Hstep.out.trans (addP_no hn2))
          clear Hstep
          by_cases hqo : (q.o : Int) = o
          · have hqk : ¬ (q.k : Int) + q.l = k := by
              intro h
              apply hn
              simp [nxt]
              omega
            clear hn hn2
            go_wp2_with (first
              | (go_at_call 28; refine (Hf _).out.mono ?_; rintro e w3 ⟨rfl, hb3⟩; have HL3 := Lib.hid (HLr.out.to hb3); have Hb3 := Lib.hid (Hbr.out.trans (hb3.mono Hbr.out.size)); have Hown3 := Lib.hid (ownB Hown1.out hb3); have hlt3 := HL3.out.lt; have q0 := cellK q0 hb3; have q1 := cellK q1 hb3; have q2 := cellK q2 hb3; have q3 := cellK q3 hb3; clear hb3)
              | (at_builtin; refine wpList_append_own _ rfl (.tmp 78) (.tmp 83) 33 rfl (w.heap.size + 1) 37 i (.agg #[.int .i64 0, .int .i64 0, .int .i64 0, .int .i64 0]) 4 32 Try.underlying33 hi hz0 hz1 hz2 rfl (by decide) _ _ _ rfl ((Hown3.out.alloc _).alloc _) ⟨w3.heap.size + 1, 0, none⟩ 1 1 (pcC ⟨o, k, 1, f⟩) rfl rfl (four_at _ ⟨o, k, 1, f⟩ _ _ (by simp)) (pcC_one ⟨o, k, 1, f⟩) (by simp only [maxLen]; omega) (by omega) (by simp; omega) ?_; intro v2 w4 hown4 hg4 _; obtain ⟨hl4, hb4⟩ := keptL (HL3.out.more _) (Hb3.out.alloc Hb3.out.size _) (grown34 (Hown3.out.alloc _) (by simp; omega) hg4) (Nat.le_succ _); have HL4 := Lib.hid hl4; have Hb4 := Lib.hid hb4; have Hown4 := Lib.hid hown4; clear hown4 hg4 hl4 hb4))
            go_roundw
            case rel =>
              refine ⟨f + 1, by omega, by go_num, ?_, HL4, Hb4⟩
              have h := Hown4.out
              rw [← flat_snoc, Hj.out, List.append_assoc] at h
              rw [Hst.out, show (r ++ [q, (⟨o, k, 1, f⟩ : Pc)]).length = r.length + 1 + 1 by simp]
              exact h
            case measure => simp [intOf]; omega
          · clear hn hn2
            go_wp2_with (first
              | (go_at_call 28; refine (Hf _).out.mono ?_; rintro e w3 ⟨rfl, hb3⟩; have HL3 := Lib.hid (HLr.out.to hb3); have Hb3 := Lib.hid (Hbr.out.trans (hb3.mono Hbr.out.size)); have Hown3 := Lib.hid (ownB Hown1.out hb3); have hlt3 := HL3.out.lt; have q0 := cellK q0 hb3; have q1 := cellK q1 hb3; have q2 := cellK q2 hb3; have q3 := cellK q3 hb3; clear hb3)
              | (at_builtin; refine wpList_append_own _ rfl (.tmp 78) (.tmp 83) 33 rfl (w.heap.size + 1) 37 i (.agg #[.int .i64 0, .int .i64 0, .int .i64 0, .int .i64 0]) 4 32 Try.underlying33 hi hz0 hz1 hz2 rfl (by decide) _ _ _ rfl ((Hown3.out.alloc _).alloc _) ⟨w3.heap.size + 1, 0, none⟩ 1 1 (pcC ⟨o, k, 1, f⟩) rfl rfl (four_at _ ⟨o, k, 1, f⟩ _ _ (by simp)) (pcC_one ⟨o, k, 1, f⟩) (by simp only [maxLen]; omega) (by omega) (by simp; omega) ?_; intro v2 w4 hown4 hg4 _; obtain ⟨hl4, hb4⟩ := keptL (HL3.out.more _) (Hb3.out.alloc Hb3.out.size _) (grown34 (Hown3.out.alloc _) (by simp; omega) hg4) (Nat.le_succ _); have HL4 := Lib.hid hl4; have Hb4 := Lib.hid hb4; have Hown4 := Lib.hid hown4; clear hown4 hg4 hl4 hb4))
            go_roundw
            case rel =>
              refine ⟨f + 1, by omega, by go_num, ?_, HL4, Hb4⟩
              have h := Hown4.out
              rw [← flat_snoc, Hj.out, List.append_assoc] at h
              rw [Hst.out, show (r ++ [q, (⟨o, k, 1, f⟩ : Pc)]).length = r.length + 1 + 1 by simp]
              exact h
            case measure => simp [intOf]; omega
    · obtain rfl : f = n := by omega
      go_wp2_with fail
      go_ret
      exact ⟨_, rfl, ownBase Hown.out (Nat.le_succ _), Hbr.out⟩
end Go.Proofs.Ytbkdlpmaikilnaa
