/- Contract of the document's Of (spans). -/
import Derived.Test.YtikpcpkclecciaaSpU
import Derived.Deep.AppendLies
namespace Go.Proofs.Ytikpcpkclecciaa
open Go.RowKit

def spC (s : Sp) : List Value := [.int .i64 s.1, .int .i64 s.2]
def flatS (ps : List Sp) : List Value := ps.flatMap spC
theorem flatS_len (ps : List Sp) : (flatS ps).length = ps.length * 2 := by
  induction ps with
  | nil => rfl
  | cons p ps ih => simp [flatS, spC] at ih ⊢; omega
theorem flatS_snoc (ps : List Sp) (p : Sp) : flatS (ps ++ [p]) = flatS ps ++ spC p := by simp [flatS]
theorem flatS_at (r : List Sp) (q : Sp) (j : Nat) : (flatS (r ++ [q]))[r.length * 2 + j]? = (spC q)[j]? := by
  rw [flatS_snoc, List.getElem?_append_right (by rw [flatS_len]; omega), flatS_len]
  congr 1
  omega
theorem flatS_set (r : List Sp) (f t t' : Int) : (flatS (r ++ [(f, t)])).set (r.length * 2 + 1) (.int .i64 t') = flatS (r ++ [(f, t')]) := by
  rw [flatS_snoc, flatS_snoc, List.set_append_right _ _ (by rw [flatS_len]; omega), flatS_len, show r.length * 2 + 1 - r.length * 2 = 1 by omega]
  simp [spC]
theorem flatS_get : ∀ (ps : List Sp) (i j : Nat) (hi : i < ps.length), j < 2 → (flatS ps)[i * 2 + j]? = (spC ps[i])[j]?
  | p :: ps, 0, j, _, hj => by
    rw [show flatS (p :: ps) = spC p ++ flatS ps from rfl, Nat.zero_mul, Nat.zero_add, List.getElem?_append_left (by simp [spC]; omega)]
    rfl
  | p :: ps, i + 1, j, hi, hj => by
    rw [show flatS (p :: ps) = spC p ++ flatS ps from rfl, List.getElem?_append_right (by simp [spC]; omega), show (i + 1) * 2 + j - (spC p).length = i * 2 + j by simp [spC]; omega]
    exact flatS_get ps i j (by simpa using hi) hj
theorem RdS.own {w : World} {B n c : Nat} {A : Option Addr} {ps : List Sp} (h : w.ownsRow B 33 2 (.slice A n c) n (flatS ps)) (hn : n = ps.length) : RdS w w.heap.size A n ps := by
  refine ⟨hn, fun h0 => ?_⟩
  have h' := h
  rcases h'.2 with ⟨_, hz⟩ | ⟨g, cap, cur, he, _, hg, _⟩
  · omega
  · cases he
    refine ⟨g, 0, rfl, lt_of_block hg, fun i hi => ⟨?_, ?_⟩⟩
    · rw [Nat.zero_add, h.cellAt (i * 2) (by omega)]; exact flatS_get ps i 0 hi (by omega)
    · rw [Nat.zero_add, h.cellAt (i * 2 + 1) (by omega)]; exact flatS_get ps i 1 hi (by omega)
theorem Try.infoS : (Try.prog.info? 33).map (fun i => (i.zero, i.size, i.bytes)) = some (some (.agg #[.int .i64 0, .int .i64 0]), 2, 16) := by kernel_rfl
theorem two_at (w : World) (x y : Int) (t : TypeId) (b : Nat) (hb : b = w.heap.size) : ∀ j u, ([.int .i64 x, .int .i64 y] : List Value)[j]? = some u → (w.alloc (.cells #[.int .i64 x, .int .i64 y] t)).cell? ((⟨b, 0, none⟩ : Addr).add j) = some u := by
  subst hb
  intro j u hu
  have hadd : (⟨w.heap.size, 0, none⟩ : Addr).add j = ⟨w.heap.size, j, none⟩ := by unfold Addr.add; split <;> simp_all
  rw [hadd, cell_blk (heap_alloc_new w _), List.getElem?_toArray]
  exact hu
theorem two_one (x y : Int) : ∀ u ∈ ([.int .i64 x, .int .i64 y] : List Value), u.oneCell' = true := by
  intro u hu
  simp at hu
  rcases hu with rfl | rfl <;> rfl
theorem ownF {w : World} {base n s : Nat} {e : TypeId} {v : Value} {xs : List Value} (h : w.ownsRow base e s v n xs) : ∃ A c, v = .slice A n c ∧ n ≤ c ∧ c ≤ maxLen := by
  rcases h.2 with ⟨rfl, rfl⟩ | ⟨g, cap, cur, rfl, _, _, h1, h2, _⟩
  · exact ⟨none, 0, rfl, Nat.le_refl _, Nat.zero_le _⟩
  · exact ⟨_, cap, rfl, h1, h2⟩
theorem last_S {w : World} {B : Nat} {v : Value} {r : List Sp} {q : Sp} (h : w.ownsRow B 33 2 v (r.length + 1) (flatS (r ++ [q]))) : ∃ gr c, v = .slice (some ⟨gr, 0, none⟩) (r.length + 1) c ∧ r.length + 1 ≤ c ∧ c ≤ maxLen ∧ B ≤ gr ∧
    w.cell? ⟨gr, r.length * 2 + 1, none⟩ = some (.int .i64 q.2) := by
  have h' := h
  rcases h'.2 with ⟨_, h0⟩ | ⟨gr, c, cur, rfl, hb, _, h1, h2, _⟩
  · omega
  · refine ⟨gr, c, rfl, h1, h2, hb, ?_⟩
    rw [h.cellAt (r.length * 2 + 1) (by omega)]; exact flatS_at r q 1
theorem outS_len (out : List Sp) (e e' : Int) (b : Bool) : (outS out e e' b).length ≤ out.length + 1 := by
  cases b
  · rw [outS_no]; omega
  · rcases snocS out with rfl | ⟨r, ⟨f, t⟩, rfl⟩
    · rw [outS_nil]; simp
    · by_cases h : t = e
      · subst h; rw [outS_join]; simp
      · rw [outS_new r (q := (f, t)) h]; simp
theorem ofS_len (a b : List Sp) (what : Int) (es : List Int) : ∀ i, (ofS a b what es i).length ≤ i
  | 0 => Nat.le_refl _
  | i + 1 => Nat.le_trans (outS_len _ _ _ _) (Nat.succ_le_succ (ofS_len a b what es i))
theorem endsOf_take (es : List Int) (l : List Sp) (j : Nat) (h : j < l.length) : endsOf es (l.take (j + 1)) = putI (putI (endsOf es (l.take j)) (clS l[j].1)) (clS l[j].2) := by
  unfold endsOf
  rw [List.take_succ_eq_append_getElem h, List.foldl_append]
  rfl
theorem endsOf_len : ∀ (l : List Sp) (es : List Int), (endsOf es l).length ≤ es.length + 2 * l.length
  | [], es => by simp [endsOf]
  | s :: l, es => by
    show (endsOf (putI (putI es (clS s.1)) (clS s.2)) l).length ≤ _
    have h1 := endsOf_len l (putI (putI es (clS s.1)) (clS s.2))
    have h2 := putI_len (putI es (clS s.1)) (clS s.2)
    have h3 := putI_len es (clS s.1)
    simp
    omega

set_option maxRecDepth 10000 in
set_option maxHeartbeats 2000000 in
theorem ROf_any (A1 A2 : Option Addr) (n1 n2 c1 c2 : Nat) (a b : List Sp) (what : Int) (w : World) (hr1 : RdS w w.heap.size A1 n1 a) (hr2 : RdS w w.heap.size A2 n2 b) (h1 : n1 ≤ 200) (h2 : n2 ≤ 200) (hw : what = 1 ∨ what = 2 ∨ what = 3) :
    Calls Try.prog 18 #[.slice A1 n1 c1, .slice A2 n2 c2, .int .i64 what] w fun e w' => ∃ v, e = .returned v ∧ w'.ownsRow w.heap.size 33 2 v (refS a b what).length (flatS (refS a b what)) ∧ Below w.heap.size w w' := by
  obtain ⟨i, hi, hz0, hz1, hz2⟩ := info_parts Try.infoS
  have H1 := Lib.hid hr1
  have H2 := Lib.hid hr2
  have HW := Lib.hid hw
  clear hr1 hr2 hw
  go_enter Try.func18, Try.ntmps18
  go_wp2_with fail
  go_loopw [7, 8] (fun v i wr => ∃ j : Nat, j ≤ n1 ∧ i = .int .i64 j ∧ Hid (wr.ownsRow w.heap.size 3 1 v (endsOf [] (a.take j)).length ((endsOf [] (a.take j)).map (Value.int .i64))) ∧ Hid (Below w.heap.size w wr)) (fun _ i _ => n1 - (intOf i).toNat)
  case atStart => exact ⟨0, Nat.zero_le _, rfl, World.ownsRow_nil _ _ _ _, Below.refl _ _⟩
  case round =>
    obtain ⟨j, hj, rfl, Hown, Hbr⟩ := hrel
    by_cases hjn : j < n1
    · have hjl : j < a.length := by rw [← H1.out.1]; exact hjn
      have Hr := Lib.hid (H1.out.below Hbr.out)
      obtain ⟨g, o, rfl, hg, hc⟩ := Hr.out.2 (by omega)
      obtain ⟨x0, x1⟩ := hc j hjl
      have Hst := Lib.hid (endsOf_take [] a j hjl)
      have hlen := endsOf_len (a.take j) []
      rw [List.length_take, List.length_nil] at hlen
      obtain ⟨q, hq⟩ : ∃ q, q = a[j] := ⟨_, rfl⟩
      rw [← hq] at x0 x1 Hst
      have hj0 : (0 : Int) ≤ (j : Int) := by omega
      have hj1 : (j : Int) < (n1 : Int) := by omega
      clear hc hjl hq
      generalize endsOf [] (a.take j) = es at Hown Hst hlen
      go_wp2_with fail
      refine (RPut_any _ _ es q.1 w.heap.size _ Hown.out Hbr.out.size (by omega)).mono ?_
      rintro e w1 ⟨v1, rfl, hown1, hb1⟩
      have x0 := (hb1.cell (p := ⟨g, o + j * 2, none⟩) (by show g < _; have := Hbr.out.size; omega)).trans x0
      have x1 := (hb1.cell (p := ⟨g, o + j * 2 + 1, none⟩) (by show g < _; have := Hbr.out.size; omega)).trans x1
      have Hb1 := Lib.hid (Hbr.out.trans (hb1.mono Hbr.out.size))
      have hlen2 := putI_len es (clS q.1)
      clear hb1
      go_wp2_with fail
      refine (RPut_any _ _ _ q.2 w.heap.size _ hown1 Hb1.out.size (by omega)).mono ?_
      rintro e w2 ⟨v2, rfl, hown2, hb2⟩
      rw [← Hst.out] at hown2
      have Hown2 := Lib.hid hown2
      have Hb2 := Lib.hid (Hb1.out.trans (hb2.mono Hb1.out.size))
      clear hown2 hb2 hown1
      go_wp2_with fail
      go_roundw
      case rel => exact ⟨j + 1, by omega, by go_num, Hown2, Hb2⟩
      case measure => simp [intOf]; omega
    · obtain rfl : j = n1 := by omega
      have Hown0 := Hown
      have Hown : Hid (wr.ownsRow w.heap.size 3 1 u7 (endsOf [] a).length ((endsOf [] a).map (Value.int .i64))) := by
        have h := Hown0.out
        rwa [List.take_of_length_le (by rw [← H1.out.1]; exact Nat.le_refl _)] at h
      clear Hown0
      go_wp2_with fail
      go_loopw [7, 9] (fun v i wq => ∃ j2 : Nat, j2 ≤ n2 ∧ i = .int .i64 j2 ∧ Hid (wq.ownsRow w.heap.size 3 1 v (endsOf (endsOf [] a) (b.take j2)).length ((endsOf (endsOf [] a) (b.take j2)).map (Value.int .i64))) ∧ Hid (Below w.heap.size w wq)) (fun _ i _ => n2 - (intOf i).toNat)
      case atStart => exact ⟨0, Nat.zero_le _, rfl, Hown, Hbr⟩
      case round =>
        obtain ⟨j2, hj2, rfl, Hown2, Hbr2⟩ := hrel
        have hle1 := endsOf_len a []
        rw [List.length_nil, ← H1.out.1] at hle1
        clear Hown Hbr
        by_cases hjn2 : j2 < n2
        · have hjl : j2 < b.length := by rw [← H2.out.1]; exact hjn2
          have Hr := Lib.hid (H2.out.below Hbr2.out)
          obtain ⟨g, o, rfl, hg, hc⟩ := Hr.out.2 (by omega)
          obtain ⟨x0, x1⟩ := hc j2 hjl
          have Hst := Lib.hid (endsOf_take (endsOf [] a) b j2 hjl)
          have hlen := endsOf_len (b.take j2) (endsOf [] a)
          rw [List.length_take] at hlen
          obtain ⟨q, hq⟩ : ∃ q, q = b[j2] := ⟨_, rfl⟩
          rw [← hq] at x0 x1 Hst
          have hj0 : (0 : Int) ≤ (j2 : Int) := by omega
          have hj1 : (j2 : Int) < (n2 : Int) := by omega
          clear hc hjl hq
          generalize endsOf (endsOf [] a) (b.take j2) = es at Hown2 Hst hlen
          go_wp2_with fail
          refine (RPut_any _ _ es q.1 w.heap.size _ Hown2.out Hbr2.out.size (by omega)).mono ?_
          rintro e w1 ⟨v1, rfl, hown1, hb1⟩
          have x0 := (hb1.cell (p := ⟨g, o + j2 * 2, none⟩) (by show g < _; have := Hbr2.out.size; omega)).trans x0
          have x1 := (hb1.cell (p := ⟨g, o + j2 * 2 + 1, none⟩) (by show g < _; have := Hbr2.out.size; omega)).trans x1
          have Hb1 := Lib.hid (Hbr2.out.trans (hb1.mono Hbr2.out.size))
          have hlen2 := putI_len es (clS q.1)
          clear hb1
          go_wp2_with fail
          refine (RPut_any _ _ _ q.2 w.heap.size _ hown1 Hb1.out.size (by omega)).mono ?_
          rintro e w2 ⟨v2, rfl, hown2, hb2⟩
          rw [← Hst.out] at hown2
          have Hown3 := Lib.hid hown2
          have Hb2 := Lib.hid (Hb1.out.trans (hb2.mono Hb1.out.size))
          clear hown2 hb2 hown1
          go_wp2_with fail
          go_roundw
          case rel => exact ⟨j2 + 1, by omega, by go_num, Hown3, Hb2⟩
          case measure => simp [intOf]; omega
        · obtain rfl : j2 = n2 := by omega
          have HownE : Hid (wr.ownsRow w.heap.size 3 1 u7 (endsOf (endsOf [] a) b).length ((endsOf (endsOf [] a) b).map (Value.int .i64))) := by
            have h := Hown2.out
            rwa [List.take_of_length_le (by rw [← H2.out.1]; exact Nat.le_refl _)] at h
          have hlenE := endsOf_len b (endsOf [] a)
          rw [← H2.out.1] at hlenE
          have Href := Lib.hid (show refS a b what = ofS a b what (endsOf (endsOf [] a) b) ((endsOf (endsOf [] a) b).length - 1) from rfl)
          generalize endsOf (endsOf [] a) b = E at HownE hlenE Href
          have hE1000 : E.length ≤ 1000 := by omega
          clear Hown2 hlenE hle1
          obtain ⟨nE, hnE⟩ : ∃ nE, nE = E.length := ⟨_, rfl⟩
          rw [← hnE] at HownE Href hE1000
          have HnE := Lib.hid hnE
          clear hnE
          rcases ownForm HownE.out with ⟨rfl, rfl⟩ | ⟨gE, cE, rfl, hgE1, hgE2, hnc, hcm⟩
          · have Hout := Lib.hid (show refS a b what = [] from Href.out)
            go_wp2_with fail
            go_loopw [10, 11] (fun v i wq => wq = wr ∧ i = .int .i64 0 ∧ v = .slice none 0 0) (fun _ _ _ => 0)
            case atStart => exact ⟨rfl, rfl, rfl⟩
            case round =>
              obtain ⟨rfl, rfl, rfl⟩ := hrel
              go_wp2_with fail
              go_ret
              refine ⟨_, rfl, ?_, Hbr2.out⟩
              rw [Hout.out]
              exact World.ownsRow_nil _ _ _ _
          · obtain ⟨wE, hwE⟩ : ∃ x, x = wr := ⟨_, rfl⟩
            subst hwE
            have hadd : ∀ k, (⟨gE, 0, none⟩ : Addr).add k = ⟨gE, k, none⟩ := fun k => by unfold Addr.add; split <;> simp_all
            have HRE := Lib.hid (RdI.own HownE.out)
            have HcE : Hid (∀ k, k < nE → wE.cell? ⟨gE, k, none⟩ = some (.int .i64 (E.getD k 0))) := by
              intro k hk
              obtain ⟨ad, he, _, hc⟩ := HRE.out.cellAt hk
              cases he
              rw [hadd] at hc
              rw [hc, List.getD_eq_getElem?_getD, List.getElem?_eq_getElem (by rw [HRE.out.1]; exact hk)]
              rfl
            have HB2 := Lib.hid Hbr2.out.size
            clear hadd HRE
            go_wp2_with fail
            go_loopw [10, 11] (fun v i wq => ∃ j3 : Nat, (j3 = 0 ∨ j3 + 1 ≤ nE) ∧ i = .int .i64 j3 ∧ Hid (wq.ownsRow wE.heap.size 33 2 v (ofS a b what E j3).length (flatS (ofS a b what E j3))) ∧ Hid (Below wE.heap.size wE wq)) (fun _ i _ => nE - (intOf i).toNat)
            case atStart => exact ⟨0, .inl rfl, rfl, World.ownsRow_nil _ _ _ _, Below.refl _ _⟩
            case round =>
              obtain ⟨j3, hj3, rfl, Hown3, Hbr3⟩ := hrel
              by_cases hjE : j3 + 1 < nE
              · have x0 := (Hbr3.out.cell (p := ⟨gE, j3, none⟩) hgE2).trans (HcE.out j3 (by omega))
                have x1 := (Hbr3.out.cell (p := ⟨gE, j3 + 1, none⟩) hgE2).trans (HcE.out (j3 + 1) hjE)
                have Hst := Lib.hid (show ofS a b what E (j3 + 1) = outS (ofS a b what E j3) (E.getD j3 0) (E.getD (j3 + 1) 0) (opS what (hasB a (E.getD j3 0)) (hasB b (E.getD j3 0))) from rfl)
                generalize E.getD j3 0 = en at x0 Hst
                generalize E.getD (j3 + 1) 0 = en' at x1 Hst
                have Hol := Lib.hid (ofS_len a b what E j3)
                generalize ofS a b what E j3 = out at Hown3 Hst Hol
                have HR1 := Lib.hid ((H1.out.below (Hbr2.out.trans (Hbr3.out.mono Hbr2.out.size))))
                have HR2 := Lib.hid ((H2.out.below (Hbr2.out.trans (Hbr3.out.mono Hbr2.out.size))))
                obtain ⟨x, hx⟩ : ∃ x, x = hasB a en := ⟨_, rfl⟩
                obtain ⟨y, hy⟩ : ∃ y, y = hasB b en := ⟨_, rfl⟩
                rw [← hx, ← hy] at Hst
                have HH1 : Hid (∀ w0 : World, RdS w0 w.heap.size A1 j a → Calls Try.prog 17 #[.slice A1 j c1, .int .i64 en] w0 fun e w' => e = .returned (.bool x) ∧ w0 = w') := fun w0 h => by rw [hx]; exact RHas_any A1 j c1 a en w.heap.size w0 h (by omega)
                have HH2 : Hid (∀ w0 : World, RdS w0 w.heap.size A2 j2 b → Calls Try.prog 17 #[.slice A2 j2 c2, .int .i64 en] w0 fun e w' => e = .returned (.bool y) ∧ w0 = w') := fun w0 h => by rw [hy]; exact RHas_any A2 j2 c2 b en w.heap.size w0 h (by omega)
                obtain ⟨z, hz⟩ : ∃ z, z = opS what x y := ⟨_, rfl⟩
                rw [← hz] at Hst
                obtain ⟨z1, hz1⟩ : ∃ z1, z1 = (if what = 2 then x && y else x || y) := ⟨_, rfl⟩
                have Hz := Lib.hid hz
                have Hz1 := Lib.hid hz1
                have hj0 : (0 : Int) ≤ (j3 : Int) := by omega
                have hj1 : (j3 : Int) < (nE : Int) := by omega
                have hj2 : (j3 : Int) + 1 < (nE : Int) := by omega
                clear hx hy hz hz1
                go_wp2_with fail
                refine (HH1.out _ HR1.out).mono ?_
                rintro e w3 ⟨rfl, rfl⟩
                go_upto_region 18 with (go_at_call 17; refine (HH2.out _ HR2.out).mono ?_; rintro e w4 ⟨rfl, rfl⟩)
                go_cut [14] (fun s14 wx => s14 = .bool (x || y) ∧ wx = wr)
                case first =>
                  cases x
                  all_goals
                    go_wp2_with fail
                    go_meet
                    exact ⟨rfl, rfl⟩
                case rest =>
                  obtain ⟨rfl, rfl⟩ := hcut
                  go_upto_if 80 with fail
                  go_cut [14] (fun s14 wx => s14 = .bool z1 ∧ wx = wc)
                  case first =>
                    rcases HW.out with rfl | rfl | rfl
                    all_goals
                      cases x
                      all_goals
                        go_wp2_with fail
                        have h1 := Hz1.out
                        go_meet
                        exact ⟨by rw [h1]; rfl, rfl⟩
                  case rest =>
                    obtain ⟨rfl, rfl⟩ := hcut
                    go_upto_if 86 with fail
                    go_cut [14] (fun s14 wx => s14 = .bool z ∧ wx = wc)
                    case first =>
                      rcases HW.out with rfl | rfl | rfl
                      all_goals
                        cases x
                        all_goals
                          go_wp2_with fail
                          have h1 := Hz1.out
                          have h2 := Hz.out
                          go_meet
                          exact ⟨by rw [h2]; first | rfl | (rw [h1]; rfl), rfl⟩
                    case rest =>
                      obtain ⟨rfl, rfl⟩ := hcut
                      cases z
                      · have Hst2 := Lib.hid (Hst.out.trans (outS_no _ _ _))
                        go_wp2_with fail
                        go_roundw
                        case rel => exact ⟨j3 + 1, .inr (by omega), by go_num, by rw [Hst2.out]; exact Hown3.out, Hbr3⟩
                        case measure => simp [intOf]; omega
                      · have hs1 : IntKind.i64.wrap ((j3 : Int) + 1) = (j3 : Int) + 1 := IntWalk.i64_in _ (by omega)
                        have hs2 : ((j3 : Int) + 1).toNat = j3 + 1 := by omega
                        have hs3 : (0 : Int) ≤ (j3 : Int) + 1 := by omega
                        have Hb5 := Lib.hid (show Below wE.heap.size wE wc.drew from Hbr3.out.drew)
                        rcases snocS out with rfl | ⟨r, ⟨f, t⟩, rfl⟩
                        · have Hst2 := Lib.hid (Hst.out.trans (outS_nil _ _))
                          have Hown5 : Hid (wc.drew.ownsRow wE.heap.size 33 2 u10 0 (flatS [])) := Hown3
                          obtain ⟨AO, cO, rfl, _, hcO⟩ := ownF Hown5.out
                          clear Hown3
                          go_wp2_with fail
                          go_quiet (fail)
                          have x0 : (wc.drewN nq).cell? ⟨gE, j3, none⟩ = some (.int .i64 en) := x0
                          have x1 : (wc.drewN nq).cell? ⟨gE, j3 + 1, none⟩ = some (.int .i64 en') := x1
                          have Hown4 : Hid ((wc.drewN nq).ownsRow wE.heap.size 33 2 (.slice AO 0 cO) 0 (flatS [])) := Hown5
                          have Hb4 : Hid (Below wE.heap.size wE (wc.drewN nq)) := ⟨Hbr3.out.os, Hbr3.out.tape, Hbr3.out.output, Hbr3.out.size, Hbr3.out.block⟩
                          generalize wc.drewN nq = wq at x0 x1 Hown4 Hb4 ⊢
                          have ag : (Value.slice AO 0 cO).ownBlock ≠ some gE := fun q => by have := (Hown4.out.lt gE q).1; omega
                          have lg : gE < wq.heap.size := by have := Hb4.out.size; omega
                          go_wp2_with fail
                          go_region_held3 (fun w' => w'.cell? ⟨gE, j3, none⟩ = some (.int .i64 en) ∧ w'.cell? ⟨gE, j3 + 1, none⟩ = some (.int .i64 en'))
                            (first
                              | go_keep
                              | (go_split_ands
                                 refine ⟨?_, ?_⟩
                                 · (rw [hgrow.cell_far _ (by simp; omega) (Ne.symm ag)]; assumption)
                                 · (rw [hgrow.cell_far _ (by simp; omega) (Ne.symm ag)]; assumption)))
                            ((refine step_append_lies _ (by rfl) _ _ _ (by rfl) wE.heap.size 33 i _ 2 16 Try.underlying22 hi hz0 hz1 hz2 rfl (by omega) (.slice AO 0 cO) _ _ (by rfl) ((Hown4.out.alloc _).drew)
                                ⟨wq.heap.size, 0, none⟩ 1 1 [.int .i64 en, .int .i64 en'] (by rfl) (by rfl) (World.news_of_block (cs := #[.int .i64 en, .int .i64 en']) (t := 33) (fr := (0, 0)) (heap_alloc_new wq _)) (by simp [Value.oneCell'])
                                (by omega) (by simp only [maxLen]; omega) (by omega) (by have := Hb4.out.size; simp; omega) (wq.heap.size + 1) (by simp) ?_; intro gg cap w6 hown6 hgrow hat hlt))
                          have Hb6 := Lib.hid (((Hb4.out.alloc Hb4.out.size _).drew).grown hgrow (by have := Hb4.out.size; simp; omega) (fun q hq => (Hown4.out.lt q hq).1))
                          have Hown6 := Lib.hid hown6
                          clear hown6 hgrow x0 x1
                          go_wp2_with fail
                          go_roundw
                          case rel => exact ⟨j3 + 1, .inr (by omega), by go_num, by rw [Hst2.out]; exact Hown6.out, Hb6⟩
                          case measure => simp [intOf]; omega
                        · have Hown6 : Hid (wc.ownsRow wE.heap.size 33 2 u10 (r.length + 1) (flatS (r ++ [(f, t)]))) := by
                            have h := Hown3.out
                            rw [show (r ++ [(f, t)]).length = r.length + 1 by simp] at h
                            exact h
                          obtain ⟨gr, cO, rfl, hcO, hcm2, hgr, q1⟩ := last_S Hown6.out
                          have q1 : wc.cell? ⟨gr, r.length * 2 + 1, none⟩ = some (.int .i64 t) := q1
                          have Hlr : Hid (r.length ≤ 2000) := by have h := Hol.out; rw [List.length_append] at h; show _ ≤ _; omega
                          obtain ⟨k, hk⟩ : ∃ k, k = r.length := ⟨_, rfl⟩
                          rw [← hk] at Hown6 hcO q1 Hlr ⊢
                          have Hk := Lib.hid hk
                          have hk0 : (0 : Int) ≤ (k : Int) := by omega
                          have hk1 : (k : Int) < (k : Int) + 1 := by omega
                          have hkl := Hlr.out
                          clear Hown3 hk
                          by_cases hte : t = en
                          · have hbe : ((t : Int) == en) = true := by simpa using hte
                            have Hst2 := Lib.hid (show ofS a b what E (j3 + 1) = r ++ [(f, en')] by rw [Hst.out, hte, outS_join])
                            have Hf := Lib.hid (World.ownsRow.frozenAt Hown6.out (k * 2 + 1))
                            clear hte
                            go_wp2_with fail
                            go_quiet (fail)
                            have x1 : (wc.drewN nq).cell? ⟨gE, j3 + 1, none⟩ = some (.int .i64 en') := x1
                            have q1 : (wc.drewN nq).cell? ⟨gr, k * 2 + 1, none⟩ = some (.int .i64 t) := q1
                            have hf : (wc.drewN nq).frozen? ⟨gr, k * 2 + 1, none⟩ = false := Hf.out
                            have Hown7 : Hid ((wc.drewN nq).ownsRow wE.heap.size 33 2 (.slice (some ⟨gr, 0, none⟩) (k + 1) cO) (k + 1) (flatS (r ++ [(f, t)]))) := Hown6
                            have Hb7 : Hid (Below wE.heap.size wE (wc.drewN nq)) := ⟨Hbr3.out.os, Hbr3.out.tape, Hbr3.out.output, Hbr3.out.size, Hbr3.out.block⟩
                            generalize wc.drewN nq = wq at x1 q1 hf Hown7 Hb7 ⊢
                            go_wp2_with fail
                            go_roundw
                            case rel =>
                              have h := (World.ownsRow.stored Hown7.out (k * 2 + 1) (.int .i64 en')).1
                              rw [Hk.out, flatS_set] at h
                              refine ⟨j3 + 1, .inr (by omega), by go_num, ?_, Lib.hid (Hb7.out.setCell (by show _ ≤ gr; exact hgr) _)⟩
                              rw [Hst2.out, show (r ++ [(f, en')]).length = r.length + 1 by simp, Hk.out]
                              exact h
                            case measure => simp [intOf]; omega
                          · have hbe : ((t : Int) == en) = false := by simpa using hte
                            have Hst2 := Lib.hid (show ofS a b what E (j3 + 1) = r ++ [(f, t), (en, en')] by rw [Hst.out, outS_new r (q := (f, t)) hte])
                            clear hte
                            go_wp2_with fail
                            go_quiet (fail)
                            have x0 : (wc.drewN nq).cell? ⟨gE, j3, none⟩ = some (.int .i64 en) := x0
                            have x1 : (wc.drewN nq).cell? ⟨gE, j3 + 1, none⟩ = some (.int .i64 en') := x1
                            have Hown4 : Hid ((wc.drewN nq).ownsRow wE.heap.size 33 2 (.slice (some ⟨gr, 0, none⟩) (k + 1) cO) (k + 1) (flatS (r ++ [(f, t)]))) := Hown6
                            have Hb4 : Hid (Below wE.heap.size wE (wc.drewN nq)) := ⟨Hbr3.out.os, Hbr3.out.tape, Hbr3.out.output, Hbr3.out.size, Hbr3.out.block⟩
                            generalize wc.drewN nq = wq at x0 x1 Hown4 Hb4 ⊢
                            have ag : (Value.slice (some ⟨gr, 0, none⟩) (k + 1) cO).ownBlock ≠ some gE := fun q => by have := (Hown4.out.lt gE q).1; omega
                            have lg : gE < wq.heap.size := by have := Hb4.out.size; omega
                            go_wp2_with fail
                            go_region_held3 (fun w' => w'.cell? ⟨gE, j3, none⟩ = some (.int .i64 en) ∧ w'.cell? ⟨gE, j3 + 1, none⟩ = some (.int .i64 en'))
                              (first
                                | go_keep
                                | (go_split_ands
                                   refine ⟨?_, ?_⟩
                                   · (rw [hgrow.cell_far _ (by simp; omega) (Ne.symm ag)]; assumption)
                                   · (rw [hgrow.cell_far _ (by simp; omega) (Ne.symm ag)]; assumption)))
                              ((refine step_append_lies _ (by rfl) _ _ _ (by rfl) wE.heap.size 33 i _ 2 16 Try.underlying22 hi hz0 hz1 hz2 rfl (by omega) (.slice (some ⟨gr, 0, none⟩) (k + 1) cO) _ _ (by rfl) ((Hown4.out.alloc _).drew)
                                  ⟨wq.heap.size, 0, none⟩ 1 1 [.int .i64 en, .int .i64 en'] (by rfl) (by rfl) (World.news_of_block (cs := #[.int .i64 en, .int .i64 en']) (t := 33) (fr := (0, 0)) (heap_alloc_new wq _)) (by simp [Value.oneCell'])
                                  (by omega) (by simp only [maxLen]; omega) (by omega) (by have := Hb4.out.size; simp; omega) (wq.heap.size + 1) (by simp) ?_; intro gg cap w6 hown6 hgrow hat hlt))
                            have Hb6 := Lib.hid (((Hb4.out.alloc Hb4.out.size _).drew).grown hgrow (by have := Hb4.out.size; simp; omega) (fun q hq => (Hown4.out.lt q hq).1))
                            have Hown6 := Lib.hid hown6
                            clear hown6 hgrow x0 x1
                            go_wp2_with fail
                            go_roundw
                            case rel =>
                              have h := Hown6.out
                              refine ⟨j3 + 1, .inr (by omega), by go_num, ?_, Hb6⟩
                              rw [Hst2.out, show r ++ [(f, t), (en, en')] = (r ++ [(f, t)]) ++ [(en, en')] by simp, flatS_snoc (r ++ [(f, t)]), show ((r ++ [(f, t)]) ++ [(en, en')]).length = r.length + 1 + 1 by simp, ← Hk.out]
                              exact h
                            case measure => simp [intOf]; omega
              · have hjf : ofS a b what E j3 = refS a b what := by
                  rw [Href.out]
                  congr 1
                  rcases hj3 with h | h <;> omega
                rw [hjf] at Hown3
                have Hfin := Lib.hid (ownBs Hown3.out HB2.out)
                have Hbf := Lib.hid (Hbr2.out.trans (Hbr3.out.mono HB2.out))
                clear hjf
                go_wp2_with fail
                go_ret
                exact ⟨_, rfl, Hfin.out, Hbf.out⟩

end Go.Proofs.Ytikpcpkclecciaa
