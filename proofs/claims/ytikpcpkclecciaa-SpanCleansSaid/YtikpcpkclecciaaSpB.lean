/- Contracts of package span's rising and Clean. -/
import Derived.Test.YtikpcpkclecciaaSpS
namespace Go.Proofs.Ytikpcpkclecciaa
open Go.RowKit

/-- what a call tells: spans that can be read, in new memory, few -/
def GivesC (f : Nat) (xs : Array Value) (w : World) (ps : List Sp) : Prop :=
  Calls Try.prog f xs w fun e w' => ∃ A n c, e = .returned (.slice A n c) ∧ RdS w' w'.heap.size A n ps ∧ n ≤ 200 ∧ Below w.heap.size w w'

/-- block b holds a span -/
def BoxS (w : World) (b : Nat) (s : Sp) : Prop := w.cell? ⟨b, 0, none⟩ = some (.int .i64 s.1) ∧ w.cell? ⟨b, 1, none⟩ = some (.int .i64 s.2) ∧ w.frozen? ⟨b, 0, none⟩ = false ∧ w.frozen? ⟨b, 1, none⟩ = false

set_option maxRecDepth 10000 in
set_option maxHeartbeats 2000000 in
theorem rising0 (A : Option Addr) (n c : Nat) (a : List Sp) (w : World) (hr : RdS w w.heap.size A n a) (h1 : n ≤ 200) :
    Calls Try.prog 24 #[.slice A n c] w fun e w' => ∃ qs A n c, e = .returned (.slice A n c) ∧ Rising a qs ∧ RdS w' w'.heap.size A n qs ∧ n ≤ 200 ∧ Below w.heap.size w w' := by
  obtain ⟨i, hi, hz0, hz1, hz2⟩ := info_parts Try.infoS
  have Hr := Lib.hid hr
  clear hr
  go_enter Try.func24, Try.ntmps24
  go_wp2_with fail
  go_loopw [3, 8] (fun v i wr => ∃ j : Nat, j ≤ n ∧ i = .int .i64 j ∧ Hid (wr.ownsRow w.heap.size 33 2 v (cutsS (a.take j)).length (flatS (cutsS (a.take j)))) ∧ Hid (Below w.heap.size w wr)) (fun _ i _ => n - (intOf i).toNat)
  case atStart => exact ⟨0, Nat.zero_le _, rfl, World.ownsRow_nil _ _ _ _, Below.refl _ _⟩
  case round =>
    obtain ⟨j, hj, rfl, Hown, Hbr⟩ := hrel
    by_cases hjn : j < n
    · have hjl : j < a.length := by rw [← Hr.out.1]; exact hjn
      have HR := Lib.hid (Hr.out.below Hbr.out)
      obtain ⟨g, o, rfl, hg, hc⟩ := HR.out.2 (by omega)
      obtain ⟨x0, x1⟩ := hc j hjl
      have Hst := Lib.hid (cutsS_take a j hjl)
      have Hlen : Hid ((cutsS (a.take j)).length ≤ 200) := by
        have h := (cuts_ok (a.take j)).2.2
        rw [List.length_take] at h
        show _ ≤ _
        omega
      generalize cutsS (a.take j) = out at Hown Hst Hlen
      generalize a[j] = s at x0 x1 Hst
      obtain ⟨s0, s1⟩ := s
      have x0 : wr.cell? ⟨g, o + j * 2, none⟩ = some (.int .i64 s0) := x0
      have x1 : wr.cell? ⟨g, o + j * 2 + 1, none⟩ = some (.int .i64 s1) := x1
      have hj0 : (0 : Int) ≤ (j : Int) := by omega
      have hj1 : (j : Int) < (n : Int) := by omega
      have hgw : g < wr.heap.size := by have := Hbr.out.size; omega
      obtain ⟨t0, ht0⟩ : ∃ t0 : Int, t0 = max s0 0 := ⟨_, rfl⟩
      obtain ⟨t1, ht1⟩ : ∃ t1 : Int, t1 = min s1 1099511627776 := ⟨_, rfl⟩
      have Ht : Hid (cutS (s0, s1) = (t0, t1)) := by show (max s0 0, min s1 farS) = _; rw [ht0, ht1]
      have Ht0 := Lib.hid ht0
      have Ht1 := Lib.hid ht1
      clear ht0 ht1 hc hjl
      obtain ⟨m, hm⟩ : ∃ m, m = out.length := ⟨_, rfl⟩
      have hml : m ≤ 200 := by rw [hm]; exact Hlen.out
      rw [← hm] at Hown
      have Hm := Lib.hid hm
      clear hm Hlen
      obtain ⟨A3, c3, rfl, _, _⟩ := ownF Hown.out
      go_upto_region 5 with fail
      go_cut [14, 17] (fun s14 s17 wx => wx = wr.alloc (.cells #[.int .i64 t0, .int .i64 t1] 33))
      case first =>
        go_wp2_with fail
        all_goals
          have h0 := Ht0.out
          have h1 := Ht1.out
          go_meet
          first
            | (rw [h0, h1]; done)
            | (rw [show t0 = 0 by omega, show t1 = 1099511627776 by omega])
            | (rw [show t0 = 0 by omega, show t1 = s1 by omega])
            | (rw [show t0 = s0 by omega, show t1 = 1099511627776 by omega])
            | (rw [show t0 = s0 by omega, show t1 = s1 by omega])
      case rest =>
        subst hcut
        have Hown2 := Lib.hid (Hown.out.alloc (.cells #[.int .i64 t0, .int .i64 t1] 33))
        have Hb2 := Lib.hid (Hbr.out.alloc Hbr.out.size (.cells #[.int .i64 t0, .int .i64 t1] 33))
        have hws := Hbr.out.size
        clear x0 x1 HR
        by_cases hlt : t0 < t1
        · have Hadd := Lib.hid (show addS out (s0, s1) = out ++ [(t0, t1)] by unfold addS; rw [Ht.out, if_pos hlt])
          go_wp2_with (at_builtin; refine wpList_append_own _ rfl (.tmp 25) (.tmp 27) 22 rfl w.heap.size 33 i (.agg #[.int .i64 0, .int .i64 0]) 2 16 Try.underlying22 hi hz0 hz1 hz2 rfl (by decide) _ _ _ rfl (Hown2.out.alloc _) ⟨wr.heap.size + 1, 0, none⟩ 1 1 [.int .i64 t0, .int .i64 t1] rfl rfl (two_at _ t0 t1 _ _ (by simp)) (two_one t0 t1) (by simp only [maxLen]; omega) (by omega) (by simp; omega) ?_; intro v2 w2 hown2 hg2 _; obtain ⟨A2, c2, rfl, _, _⟩ := ownF hown2; have Hb3 := Lib.hid ((Hb2.out.alloc (by simp; omega) _).grown hg2 (by simp; omega) (fun q hq => (Hown2.out.lt q hq).1)); have Hown3 := Lib.hid hown2; clear hown2 hg2)
          go_roundw
          case rel =>
            refine ⟨j + 1, by omega, by go_num, ?_, Hb3⟩
            rw [Hst.out, Hadd.out, List.length_append, List.length_singleton, ← Hm.out, flatS_snoc]
            exact Hown3
          case measure => simp [intOf]; omega
        · have Hadd := Lib.hid (show addS out (s0, s1) = out by unfold addS; rw [Ht.out, if_neg hlt])
          go_wp2_with fail
          go_roundw
          case rel =>
            refine ⟨j + 1, by omega, by go_num, ?_, Hb2⟩
            rw [Hst.out, Hadd.out, ← Hm.out]
            exact Hown2
          case measure => simp [intOf]; omega
    · obtain rfl : j = n := by omega
      have Hown2 : Hid (wr.ownsRow w.heap.size 33 2 u3 (cutsS a).length (flatS (cutsS a))) := by
        have h := Hown.out
        rwa [List.take_of_length_le (by rw [← Hr.out.1]; exact Nat.le_refl _)] at h
      have Hlen : Hid ((cutsS a).length ≤ 200) := by
        have h := (cuts_ok a).2.2
        rw [← Hr.out.1] at h
        show _ ≤ _
        omega
      have HR : Hid (∀ qs : List Sp, qs.Perm (cutsS a) → (∀ i j (hi : i < qs.length) (hj : j < qs.length), i < j → qs[i].1 ≤ qs[j].1) → Rising a qs) := fun qs h1 h2 => Rising.of h1 h2
      clear Hown
      generalize cutsS a = ps at Hown2 Hlen HR
      obtain ⟨m, hm⟩ : ∃ m, m = ps.length := ⟨_, rfl⟩
      have hml : m ≤ 200 := by rw [hm]; exact Hlen.out
      rw [← hm] at Hown2
      have Hm := Lib.hid hm
      clear hm Hlen
      obtain ⟨A3, c3, rfl, _, _⟩ := ownF Hown2.out
      have HS := Lib.hid (sort_own A3 m c3 ps w.heap.size wr Hown2.out Hm.out (by omega))
      go_wp2_with fail
      refine HS.out.mono ?_
      rintro e w2 ⟨rfl, qs, hp, ho, hr2, hb2⟩
      have Hq := Lib.hid (HR.out qs hp ho)
      have Hr2 := Lib.hid hr2
      have Hb2 := Lib.hid (Hbr.out.trans hb2)
      clear hp ho hr2 hb2
      go_wp2_with fail
      go_ret
      exact ⟨qs, _, _, _, rfl, Hq.out, Hr2.out, by omega, Hb2.out⟩

theorem box_at0 (w : World) (x y : Int) (t : TypeId) (q : Nat) : ((w.alloc (.cells #[.int .i64 x, .int .i64 y] t)).drewN q).cell? ⟨w.heap.size, 0, none⟩ = some (.int .i64 x) := by
  show (w.alloc _).cell? _ = _
  rw [cell_blk (heap_alloc_new w _)]; rfl
theorem box_at1 (w : World) (x y : Int) (t : TypeId) (q : Nat) : ((w.alloc (.cells #[.int .i64 x, .int .i64 y] t)).drewN q).cell? ⟨w.heap.size, 1, none⟩ = some (.int .i64 y) := by
  show (w.alloc _).cell? _ = _
  rw [cell_blk (heap_alloc_new w _)]; rfl
theorem box_below {B : Nat} {w0 w : World} (h : Below B w0 w) (hB : B ≤ w.heap.size) (o : Obj) (q : Nat) : Below B w0 ((w.alloc o).drewN q) := by
  have h2 := h.alloc hB o
  exact ⟨h2.os, h2.tape, h2.output, h2.size, h2.block⟩

set_option maxRecDepth 10000 in
set_option maxHeartbeats 2000000 in
theorem clean0 (A : Option Addr) (n c : Nat) (a : List Sp) (w : World) (hr : RdS w w.heap.size A n a) (h1 : n ≤ 200) : GivesC 12 #[.slice A n c] w (refS a [] 1) := by
  obtain ⟨i, hi, hz0, hz1, hz2⟩ := info_parts Try.infoS
  have HR0 := Lib.hid (rising0 A n c a w hr h1)
  have Hn : Hid (a.length ≤ 200) := by show _ ≤ _; rw [← hr.1]; exact h1
  clear hr h1
  go_enter Try.func12, Try.ntmps12
  go_wp2_with fail
  refine HR0.out.mono ?_
  rintro e w1 ⟨qs, A1, n1, c1, rfl, hq, hr1, hn1, hb1⟩
  have Hq := Lib.hid hq
  have Hr := Lib.hid hr1
  have Hb1 := Lib.hid hb1
  clear hq hr1 hb1 HR0
  go_wp2_with fail
  go_loopw [3, 10] (fun v i wr => ∃ (j : Nat) (out : List Sp), j ≤ n1 ∧ i = .int .i64 j ∧ Hid (Mrg qs j out) ∧ Hid (wr.ownsRow w1.heap.size 33 2 v out.length (flatS out)) ∧ Hid (Below w1.heap.size w1 wr)) (fun _ i _ => n1 - (intOf i).toNat)
  case atStart => exact ⟨0, [], Nat.zero_le _, rfl, Mrg.start qs, World.ownsRow_nil _ _ _ _, Below.refl _ _⟩
  case round =>
    obtain ⟨j, out, hj, rfl, HM, Hown, Hbr⟩ := hrel
    by_cases hjn : j < n1
    · have hjl : j < qs.length := by rw [← Hr.out.1]; exact hjn
      have HR := Lib.hid (Hr.out.below Hbr.out)
      obtain ⟨g, o, rfl, hg, hc⟩ := HR.out.2 (by omega)
      obtain ⟨x0, x1⟩ := hc j hjl
      have HP : Hid ((∀ r q, out = r ++ [q] → q.2 < qs[j].1) → Mrg qs (j + 1) (out ++ [qs[j]])) := Mrg.put Hq.out HM.out hjl
      have HG : Hid (∀ r f t, out = r ++ [(f, t)] → qs[j].1 ≤ t → Mrg qs (j + 1) (r ++ [(f, max t qs[j].2)])) := fun r f t e h => by subst e; exact Mrg.glue Hq.out HM.out hjl h
      have Hlen : Hid (out.length ≤ j) := HM.out.len
      generalize qs[j] = s at x0 x1 HP HG
      obtain ⟨s0, s1⟩ := s
      have x0 : wr.cell? ⟨g, o + j * 2, none⟩ = some (.int .i64 s0) := x0
      have x1 : wr.cell? ⟨g, o + j * 2 + 1, none⟩ = some (.int .i64 s1) := x1
      have hj0 : (0 : Int) ≤ (j : Int) := by omega
      have hj1 : (j : Int) < (n1 : Int) := by omega
      have hws := Hbr.out.size
      have hgw : g < wr.heap.size := by omega
      clear hc hjl HM HR
      rcases snocS out with rfl | ⟨r, ⟨f, t⟩, rfl⟩
      · have HP2 : Hid (Mrg qs (j + 1) ([] ++ [(s0, s1)])) := HP.out (fun r q e => by simp at e)
        clear HP HG Hlen
        have Hown : Hid (wr.ownsRow w1.heap.size 33 2 u3 0 (flatS [])) := Hown
        obtain ⟨A3, c3, rfl, _, _⟩ := ownF Hown.out
        go_wp2_with fail
        go_quiet (fail)
        have p0 := box_at0 wr s0 s1 33 nq
        have p1 := box_at1 wr s0 s1 33 nq
        have Hb2 := Lib.hid (box_below Hbr.out hws (.cells #[.int .i64 s0, .int .i64 s1] 33) nq)
        have Hown2 : Hid (((wr.alloc (.cells #[.int .i64 s0, .int .i64 s1] 33)).drewN nq).ownsRow w1.heap.size 33 2 (.slice A3 0 c3) 0 (flatS [])) := Hown.out.alloc _
        have hz : ((wr.alloc (.cells #[.int .i64 s0, .int .i64 s1] 33)).drewN nq).heap.size = wr.heap.size + 1 := by show (wr.alloc _).heap.size = _; simp
        generalize (wr.alloc (.cells #[.int .i64 s0, .int .i64 s1] 33)).drewN nq = w2 at p0 p1 Hb2 Hown2 hz ⊢
        clear x0 x1
        go_wp2_with (at_builtin; refine wpList_append_own _ rfl (.tmp 29) (.tmp 31) 22 rfl w1.heap.size 33 i (.agg #[.int .i64 0, .int .i64 0]) 2 16 Try.underlying22 hi hz0 hz1 hz2 rfl (by decide) _ _ _ rfl (Hown2.out.alloc _) ⟨wr.heap.size + 1, 0, none⟩ 1 1 [.int .i64 s0, .int .i64 s1] rfl rfl (two_at _ s0 s1 _ _ hz.symm) (two_one s0 s1) (by simp only [maxLen]; omega) (by omega) (by simp; omega) ?_; intro v3 w3 hown3 hg3 _; obtain ⟨A2, c2, rfl, _, _⟩ := ownF hown3; have Hb3 := Lib.hid ((Hb2.out.alloc (by omega) _).grown hg3 (by simp; omega) (fun q hq => (Hown2.out.lt q hq).1)); have Hown3 := Lib.hid hown3; clear hown3 hg3)
        go_roundw
        case rel => exact ⟨j + 1, [] ++ [(s0, s1)], by omega, by go_num, HP2, Hown3, Hb3⟩
        case measure => simp [intOf]; omega
      · have Hown2 : Hid (wr.ownsRow w1.heap.size 33 2 u3 (r.length + 1) (flatS (r ++ [(f, t)]))) := by
          have h := Hown.out
          rw [show (r ++ [(f, t)]).length = r.length + 1 by simp] at h
          exact h
        obtain ⟨gr, cO, rfl, hcO, hcm2, hgr, q1⟩ := last_S Hown2.out
        have q1 : wr.cell? ⟨gr, r.length * 2 + 1, none⟩ = some (.int .i64 t) := q1
        have hgr2 : gr < wr.heap.size := (Hown2.out.lt gr rfl).2
        have hgr3 : ¬ gr = wr.heap.size := by omega
        have Hlr : Hid (r.length ≤ 200) := by
          have h := Hlen.out
          rw [List.length_append] at h
          show _ ≤ _
          omega
        obtain ⟨k, hk⟩ : ∃ k, k = r.length := ⟨_, rfl⟩
        rw [← hk] at Hown2 hcO q1 Hlr ⊢
        have Hk := Lib.hid hk
        have hk0 : (0 : Int) ≤ (k : Int) := by omega
        have hk1 : (k : Int) < (k : Int) + 1 := by omega
        have hkl := Hlr.out
        clear Hown hk Hlen
        by_cases hts : t < s0
        · have HP2 : Hid (Mrg qs (j + 1) ((r ++ [(f, t)]) ++ [(s0, s1)])) := HP.out (fun r' q e => by obtain ⟨_, rfl⟩ := snoc_inj e; exact hts)
          clear HP HG
          go_wp2_with fail
          go_quiet (fail)
          have p0 := box_at0 wr s0 s1 33 nq
          have p1 := box_at1 wr s0 s1 33 nq
          have Hb2 := Lib.hid (box_below Hbr.out hws (.cells #[.int .i64 s0, .int .i64 s1] 33) nq)
          have Hown3 : Hid (((wr.alloc (.cells #[.int .i64 s0, .int .i64 s1] 33)).drewN nq).ownsRow w1.heap.size 33 2 (.slice (some ⟨gr, 0, none⟩) (k + 1) cO) (k + 1) (flatS (r ++ [(f, t)]))) := Hown2.out.alloc _
          have hz : ((wr.alloc (.cells #[.int .i64 s0, .int .i64 s1] 33)).drewN nq).heap.size = wr.heap.size + 1 := by show (wr.alloc _).heap.size = _; simp
          generalize (wr.alloc (.cells #[.int .i64 s0, .int .i64 s1] 33)).drewN nq = w2 at p0 p1 Hb2 Hown3 hz ⊢
          clear x0 x1 q1
          go_wp2_with (at_builtin; refine wpList_append_own _ rfl (.tmp 29) (.tmp 31) 22 rfl w1.heap.size 33 i (.agg #[.int .i64 0, .int .i64 0]) 2 16 Try.underlying22 hi hz0 hz1 hz2 rfl (by decide) _ _ _ rfl (Hown3.out.alloc _) ⟨wr.heap.size + 1, 0, none⟩ 1 1 [.int .i64 s0, .int .i64 s1] rfl rfl (two_at _ s0 s1 _ _ hz.symm) (two_one s0 s1) (by simp only [maxLen]; omega) (by omega) (by simp; omega) ?_; intro v3 w3 hown3 hg3 _; obtain ⟨A2, c2, rfl, _, _⟩ := ownF hown3; have Hb3 := Lib.hid ((Hb2.out.alloc (by omega) _).grown hg3 (by simp; omega) (fun q hq => (Hown3.out.lt q hq).1)); have Hown4 := Lib.hid hown3; clear hown3 hg3)
          go_roundw
          case rel =>
            refine ⟨j + 1, (r ++ [(f, t)]) ++ [(s0, s1)], by omega, by go_num, HP2, ?_, Hb3⟩
            have h := Hown4.out
            rw [flatS_snoc (r ++ [(f, t)]), show ((r ++ [(f, t)]) ++ [(s0, s1)]).length = r.length + 1 + 1 by simp, ← Hk.out]
            exact h
          case measure => simp [intOf]; omega
        · have hts2 : s0 ≤ t := by omega
          have HP2 : Hid (Mrg qs (j + 1) (r ++ [(f, max t s1)])) := HG.out r f t rfl hts2
          clear HP HG
          go_wp2_with fail
          go_quiet (fail)
          have p1 := box_at1 wr s0 s1 33 nq
          have Hb2 := Lib.hid (box_below Hbr.out hws (.cells #[.int .i64 s0, .int .i64 s1] 33) nq)
          have Hown3 : Hid (((wr.alloc (.cells #[.int .i64 s0, .int .i64 s1] 33)).drewN nq).ownsRow w1.heap.size 33 2 (.slice (some ⟨gr, 0, none⟩) (k + 1) cO) (k + 1) (flatS (r ++ [(f, t)]))) := Hown2.out.alloc _
          generalize (wr.alloc (.cells #[.int .i64 s0, .int .i64 s1] 33)).drewN nq = w2 at p1 Hb2 Hown3 ⊢
          have q2 : w2.cell? ⟨gr, k * 2 + 1, none⟩ = some (.int .i64 t) := by
            have h := Hown3.out
            rw [Hk.out] at h ⊢
            obtain ⟨gr', c', he, _, _, _, h1⟩ := last_S h
            cases he
            exact h1
          have hf := World.ownsRow.frozenAt Hown3.out (k * 2 + 1)
          clear x0 x1 q1
          go_wp2_with fail
          go_region
          go_wp2_with fail
          go_roundw
          case rel =>
            have h := (World.ownsRow.stored Hown3.out (k * 2 + 1) (.int .i64 (max t s1))).1
            rw [Hk.out, flatS_set] at h
            refine ⟨j + 1, r ++ [(f, max t s1)], by omega, by go_num, HP2, ?_, Lib.hid ((Hb2.out.setCell (by show _ ≤ gr; exact hgr) _).drew)⟩
            rw [show (r ++ [(f, max t s1)]).length = r.length + 1 by simp, Hk.out]
            exact h
          case measure => simp [intOf]; omega
    · obtain rfl : j = n1 := by omega
      have HM2 : Hid (Mrg qs qs.length out) := by have h := HM.out; rwa [Hr.out.1] at h
      have Hfin := Lib.hid (Mrg.fin Hq.out HM2.out)
      clear HM HM2
      obtain ⟨m, hm⟩ : ∃ m, m = out.length := ⟨_, rfl⟩
      have hml : m ≤ 200 := by have h := Hfin.out.2; have h2 := Hn.out; omega
      rw [← hm] at Hown
      have Hm := Lib.hid hm
      clear hm
      obtain ⟨A3, c3, rfl, _, _⟩ := ownF Hown.out
      have Hrd := Lib.hid (RdS.own Hown.out Hm.out)
      have Hbf := Lib.hid (Hb1.out.trans (Hbr.out.mono Hb1.out.size))
      go_wp2_with fail
      go_ret
      exact ⟨_, _, _, rfl, by rw [← Hfin.out.1]; exact Hrd.out, hml, Hbf.out⟩
end Go.Proofs.Ytikpcpkclecciaa
