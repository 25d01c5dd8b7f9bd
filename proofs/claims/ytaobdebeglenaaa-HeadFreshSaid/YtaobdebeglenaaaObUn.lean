/- Contract of package objmap's Unpack. -/
import Derived.Test.YtaobdebeglenaaaObPk
import Derived.BigQuiet
import Derived.Deep.QuietTactic
namespace Go.Proofs.Ytaobdebeglenaaa
open Go.RowKit

theorem cntU_pack {r : List Int} (h : IsRow r) : cntU (packR r) = r.length := by
  have hl := h.1
  have e0 : (packR r).getD 0 0 = UInt8.ofNat (r.length / 256) := rfl
  have e1 : (packR r).getD 1 0 = UInt8.ofNat (r.length % 256) := rfl
  unfold cntU
  rw [e0, e1, ofNat_toNat (by omega), ofNat_toNat (by omega)]
  omega
theorem unO_far {b : List UInt8} (h : b.length ≠ 2 + (cntU b + 3) / 4) : unO b = none := by
  cases e : unO b with
  | none => rfl
  | some r =>
    obtain ⟨h1, h2⟩ := unO_some.1 e
    rw [← h2, packR_len, cntU_pack h1] at h
    exact absurd rfl h
theorem unO_eq {b : List UInt8} (h : packO (canU b) = b) : unO b = some (canU b) := by
  have h1 : canU b = rowO (canU b) := by
    have h2 : canU (packO (canU b)) = rowO (canU b) := canU_pack (rowO_is _)
    rwa [h] at h2
  have h3 : IsRow (canU b) := by rw [h1]; exact rowO_is _
  exact unO_some.2 ⟨h3, by rw [← packO_self h3]; exact h⟩
theorem unO_ne {b : List UInt8} (h : packO (canU b) ≠ b) : unO b = none := by
  cases e : unO b with
  | none => rfl
  | some r =>
    obtain ⟨h1, h2⟩ := unO_some.1 e
    have h3 : canU b = r := by rw [← h2]; exact canU_pack h1
    rw [h3, packO_self h1] at h
    exact absurd h2 h
set_option maxRecDepth 10000 in
theorem bEqual_any (A A' : Option Addr) (n c n' c' : Nat) (l l' : List UInt8) (B B' : Nat) (w : World) (hr : Rd w B A n l) (hr' : Rd w B' A' n' l') :
    Calls Try.prog 108 #[.slice A n c, .slice A' n' c'] w fun e w' => e = .returned (.bool (decide (l = l'))) ∧ w = w' := by
  have h1 := str_any (c := c) hr
  have h2 := str_any (c := c') hr'
  go_enter Try.func108, Try.ntmps108
  go_wp2
  go_ret
  refine ⟨?_, rfl⟩
  rw [show decide (l = l') = (l == l') by rw [Bool.eq_iff_iff]; simp]
  rfl
theorem quad_step (b : List UInt8) {j : Nat} (hj : j + 2 < b.length) : (List.range (4 * (j + 1))).map (stU b) = (List.range (4 * j)).map (stU b) ++ quadU (b[j + 2].toNat) := by
  have hb : ∀ e, e < 4 → (b.getD (2 + (4 * j + e) / 4) 0).toNat = b[j + 2].toNat := fun e he => by
    rw [show 2 + (4 * j + e) / 4 = j + 2 by omega, List.getD_eq_getElem?_getD, List.getElem?_eq_getElem hj]; rfl
  have s : ∀ e, e < 4 → stU b (4 * j + e) = ((b[j + 2].toNat / 4 ^ e % 4 : Nat) : Int) := fun e he => by
    unfold stU
    rw [hb e he, show (4 * j + e) % 4 = e by omega]
  rw [show 4 * (j + 1) = 4 * j + 1 + 1 + 1 + 1 by omega, List.range_succ, List.range_succ, List.range_succ, List.range_succ]
  simp only [List.map_append, List.map_cons, List.map_nil, List.append_assoc, List.cons_append, List.nil_append]
  rw [s 1 (by omega), s 2 (by omega), s 3 (by omega), show stU b (4 * j) = _ from s 0 (by omega)]
  unfold quadU
  simp
theorem mkI0 (k : Nat) (p : Int) (hp : p = (k : Int)) (hk : k ≤ 1000000) (w : World) : (Instr.makeSlice 24 (.int .i64 0) (.int .i64 p)).run Try.prog w = .ok (.slice (some ⟨w.heap.size, 0, none⟩) 0 k) (w.alloc (.cells (madeCells #[.int .i64 0] k) 3)) := by
  obtain ⟨i, hi, hz0, hz1, hz2⟩ := info_parts Try.infoI
  exact run_mk (P := Try.prog) Try.underlying24 hi hz0 hz1 (by omega) 0 k p hp (Nat.zero_le _) (by omega) w

set_option maxRecDepth 10000 in
set_option maxHeartbeats 4000000 in
theorem Unpack_any (A : Option Addr) (n c : Nat) (b : List UInt8) (w : World) (hr : Rd w w.heap.size A n b) (hn : n ≤ 10000) (hnc : n ≤ c) :
    Calls Try.prog 103 #[.slice A n c] w (UnP w b) := by
  have Hr := Lib.hid hr
  clear hr
  by_cases h2 : 2 ≤ n
  · obtain ⟨ad, rfl, hadB, hc0⟩ := Hr.out.cellAt (k := 0) (by omega)
    obtain ⟨ad', he, _, hc1⟩ := Hr.out.cellAt (k := 1) (by omega)
    cases he
    have ha0 : ad.add 0 = ad := by simp [Addr.add]
    rw [ha0] at hc0
    have hl0 : 0 < b.length := by rw [Hr.out.1]; omega
    have hl1 : 1 < b.length := by rw [Hr.out.1]; omega
    have Hcnt := Lib.hid (show cntU b = 256 * b[0].toNat + b[1].toNat by
      unfold cntU
      rw [List.getD_eq_getElem?_getD, List.getElem?_eq_getElem hl0, List.getD_eq_getElem?_getD, List.getElem?_eq_getElem hl1]; rfl)
    have hb0 : b[0].toNat < 256 := b[0].toNat_lt
    have hb1 : b[1].toNat < 256 := b[1].toNat_lt
    replace hc0 : w.cell? ad = some (.int .u8 (b[0].toNat : Int)) := hc0
    replace hc1 : w.cell? (ad.add 1) = some (.int .u8 (b[1].toNat : Int)) := hc1
    generalize b[0].toNat = B0 at *
    generalize b[1].toNat = B1 at *
    obtain ⟨N, hN⟩ : ∃ N, N = cntU b := ⟨_, rfl⟩
    rw [← hN] at Hcnt
    have HN := Lib.hid hN
    have hNb : N ≤ 70000 := by have := Hcnt.out; omega
    obtain ⟨p, hp⟩ : ∃ p : Int, p = (B0 : Int) * 256 := ⟨_, rfl⟩
    have hc2 : w.cell? ⟨ad.block, ad.off + 1, none⟩ = some (.int .u8 (B1 : Int)) := by
      have e : ad.add 1 = ⟨ad.block, ad.off + 1, none⟩ := by unfold Addr.add; simp
      rw [← e]; exact hc1
    have hwa : IntKind.i64.wrap (B0 : Int) = (B0 : Int) := IntWalk.i64_in _ (by omega)
    have hwb : IntKind.i64.wrap (B1 : Int) = (B1 : Int) := IntWalk.i64_in _ (by omega)
    have hw1 : IntKind.i64.wrap ((B0 : Int) * 256) = p := by rw [IntWalk.i64_in _ (by omega)]; exact hp.symm
    have hw2 : bits .or .i64 p (B1 : Int) = (N : Int) := by rw [hp, or_byte B0 B1 (by omega) hb1]; have := Hcnt.out; omega
    have Hp := Lib.hid hp
    have hh0 : (0 : Int) < (n : Int) := by omega
    have hh1 : (1 : Int) < (n : Int) := by omega
    have hh2 : ¬ (n : Int) < 2 := by omega
    have hh3 : 0 < n := by omega
    have hh4 : 1 < n := by omega
    clear hN hp ha0 hl0 hl1
    go_enter Try.func103, Try.ntmps103
    go_wp2_with fail
    go_quiet (fail)
    have Hr3 : Hid (Rd (w.drewN nq) w.heap.size (some ad) n b) := Hr.out.drewN nq
    have Hb3 : Hid (Below w.heap.size w (w.drewN nq)) := ⟨rfl, rfl, rfl, Nat.le_refl _, fun _ _ => rfl⟩
    generalize w.drewN nq = w3 at Hr3 Hb3 ⊢
    clear hc0 hc1 hc2 hw1 hw2 hwa hwb Hcnt Hp
    have Hr4 := Lib.hid (Hr3.out.more Hb3.out.size)
    clear Hr3
    have HS := Lib.hid (packedSize_any N w3 (by omega))
    obtain ⟨C, hC⟩ : ∃ C, C = 2 + (N + 3) / 4 := ⟨_, rfl⟩
    rw [← hC] at HS
    have HC := Lib.hid hC
    clear hC
    by_cases hnC : n = C
    · have hne : ((n : Int) != (C : Int)) = false := by simp [hnC]
      have HnC := Lib.hid (show n - 2 = (N + 3) / 4 by have := HC.out; omega)
      clear hnC
      go_upto_region 6 with (go_at_call 88; refine HS.out.mono ?_; rintro e w' ⟨rfl, rfl⟩)
      go_cut [5] (fun s5 wx => s5 = .slice (some ⟨w3.heap.size, 0, none⟩) 0 (4 * (n - 2)) ∧ Hid (wx.ownsRow w3.heap.size 3 1 (.slice (some ⟨w3.heap.size, 0, none⟩) 0 (4 * (n - 2))) 0 []) ∧ Hid (Below w3.heap.size w3 wx))
      case first =>
        have hmk := fun W : World => mkI0 (4 * (n - 2)) (4 * ((n - 2 : Nat) : Int)) (by omega) (by omega) W
        have Ho := Lib.hid (World.ownsRow_made (base := w3.heap.size) (e := 3) (size := 1) w3 (madeCells #[.int .i64 0] (4 * (n - 2))) (4 * (n - 2)) (Nat.le_refl _) (by simp only [maxLen]; omega) (by rw [size_madeCells, Nat.mul_one]))
        have Hb := Lib.hid ((Below.refl w3.heap.size w3).alloc (Nat.le_refl _) (.cells (madeCells #[.int .i64 0] (4 * (n - 2))) 3))
        by_cases hc3 : c = 2
        · have hn2 : n = 2 := by omega
          subst hc3
          subst hn2
          have hmk0 := fun W : World => mkI0 0 0 rfl (by omega) W
          clear hmk
          go_wp2_with fail
          go_meet
          exact ⟨rfl, Ho, Hb⟩
        · go_wp2_with fail
          go_meet
          exact ⟨rfl, Ho, Hb⟩
      case rest =>
        obtain ⟨rfl, Ho, Hb5⟩ := hcut
        go_upto_region 7 with fail
        go_cut [32, 33, 34] (fun s32 s33 s34 wx => wx = wc ∧ s33 = .int .i64 ((n - 2 : Nat) : Int) ∧ s34 = .int .i64 0 ∧ ∃ AD c2, s32 = .slice AD (n - 2) c2 ∧ Hid (∀ j (hj : j + 2 < b.length), ∃ a, AD = some a ∧ a.block < w3.heap.size ∧ w3.cell? (a.add j) = some (bv (b[j + 2]))))
        case first =>
          by_cases hc3 : c = 2
          · subst hc3
            have Hno : Hid (∀ j (hj : j + 2 < b.length), ∃ a, some ad = some a ∧ a.block < w3.heap.size ∧ w3.cell? (a.add j) = some (bv (b[j + 2]))) := fun j hj => absurd hj (by rw [Hr4.out.1]; omega)
            have hn2 : n = 2 := by omega
            subst hn2
            go_wp2_with fail
            go_meet
            exact ⟨rfl, rfl, rfl, some ad, 0, rfl, Hno⟩
          · have Hyes : Hid (∀ j (hj : j + 2 < b.length), ∃ a, some (⟨ad.block, ad.off + 2, none⟩ : Addr) = some a ∧ a.block < w3.heap.size ∧ w3.cell? (a.add j) = some (bv (b[j + 2]))) := fun j hj => by
              obtain ⟨ad', he, hB, hc⟩ := Hr4.out.cellAt (k := j + 2) (by rw [← Hr4.out.1]; exact hj)
              cases he
              have e1 : (⟨ad.block, ad.off + 2, none⟩ : Addr) = ad.add 2 := by unfold Addr.add; simp
              rw [e1]
              refine ⟨_, rfl, by rw [addB]; exact hB, ?_⟩
              rw [addadd, show 2 + j = j + 2 by omega]
              exact hc
            go_wp2_with fail
            go_meet
            exact ⟨rfl, rfl, rfl, _, _, rfl, Hyes⟩
        case rest =>
          obtain ⟨rfl, rfl, rfl, AD, c2, rfl, Had⟩ := hcut
          obtain ⟨V0, hV0⟩ : ∃ V0, V0 = Value.slice (some ⟨w3.heap.size, 0, none⟩) 0 (4 * (n - 2)) := ⟨_, rfl⟩
          rw [← hV0] at Ho ⊢
          clear hV0
          obtain ⟨M, hM⟩ : ∃ M, M = n - 2 := ⟨_, rfl⟩
          rw [← hM] at HnC ⊢
          have HM := Lib.hid hM
          have hM5 : M ≤ 10000 := by omega
          clear hM hne hh0 hh1 hh2 hh3 hh4
          have Hlen := Lib.hid Hr4.out.1
          go_wp2_with fail
          go_loopw [5, 34] (fun v i wr => ∃ j : Nat, j ≤ M ∧ i = .int .i64 (j : Int) ∧ Hid (wr.ownsRow w3.heap.size 3 1 v (4 * j) (((List.range (4 * j)).map (stU b)).map (Value.int .i64))) ∧ Hid (Below w3.heap.size w3 wr)) (fun _ i _ => M - (intOf i).toNat)
          case atStart => exact ⟨0, Nat.zero_le _, rfl, Ho, Hb5⟩
          case round =>
            obtain ⟨j, hj, rfl, Hown, Hbr⟩ := hrel
            have hws := Hbr.out.size
            by_cases hjM : j < M
            · have hj0 : (0 : Int) ≤ (j : Int) := by omega
              have hj1 : (j : Int) < (M : Int) := by omega
              have hjb : j + 2 < b.length := by rw [Hlen.out]; have := HM.out; omega
              obtain ⟨a, rfl, hab, hcell0⟩ := Had.out j hjb
              have hcell : wr.cell? (a.add j) = some (.int .u8 (b[j + 2].toNat : Int)) := (Hbr.out.cell (by rw [addB]; exact hab)).trans hcell0
              have hX : b[j + 2].toNat < 256 := b[j + 2].toNat_lt
              have Hst := Lib.hid (quad_step b hjb)
              generalize b[j + 2].toNat = X at hcell hX Hst
              obtain ⟨A4, c4, rfl, _, _⟩ := ownI Hown.out
              have HU := Lib.hid (unpackByte_any w3.heap.size X (4 * j) c4 A4 _ wr hX (by omega) Hown.out hws)
              rw [← Hst.out] at HU
              clear hcell0 hjb
              go_wp2_with (go_at_call 107; refine HU.out.mono ?_; rintro e w' ⟨A5, c5, rfl, hown5, hb5⟩; have Hown5 := Lib.hid hown5; have Hb5' := Lib.hid (Hbr.out.trans hb5); clear hown5 hb5)
              go_roundw
              case rel => exact ⟨j + 1, by omega, by go_num, Hown5, Hb5'⟩
              case measure => simp [intOf]; omega
            · obtain rfl : j = M := by omega
              obtain ⟨A4, c4, rfl, hnc4, hcm4⟩ := ownI Hown.out
              have hNM : N ≤ 4 * j := by have := HnC.out; omega
              have Hrd := Lib.hid ((RdI.own Hown.out).take hNM)
              have Hnw : Hid (NewA wr 3 w3.heap.size A4 N) := fun hN => NewA.own Hown.out (by omega)
              have Hcan := Lib.hid (show (((List.range (4 * j)).map (stU b)).take N) = canU b by
                unfold canU
                rw [← List.map_take, List.take_range, Hlen.out, ← HN.out, ← HM.out]
              )
              rw [Hcan.out] at Hrd
              have hN0 : (0 : Int) ≤ (N : Int) := by omega
              have hN4 : (N : Int) ≤ (c4 : Int) := by omega
              have Hpb := Lib.hid (fun (w0 : World) (h : RdI w0 w0.heap.size A4 N (canU b)) => Pack_any A4 N N (canU b) w0 h (by omega))
              have Hbw := Lib.hid (Hb3.out.trans (Hbr.out.mono Hb3.out.size))
              have Hyes : Hid (packO (canU b) = b → unO b = some (canU b)) := unO_eq
              have Hnot : Hid (packO (canU b) ≠ b → unO b = none) := unO_ne
              have Hrb := Lib.hid ((Hr4.out.below Hbr.out).more hws)
              clear Hown Hcan Had Ho Hb5
              generalize canU b = l at *
              go_wp2_with fail
              refine (Hpb.out wr Hrd.out).mono ?_
              rintro e w5 ⟨A6, n6, c6, rfl, hr6, hn6, hb6⟩
              have HE := Lib.hid (bEqual_any A6 (some ad) n6 c6 n c (packO l) b _ _ w5 hr6 (Hrb.out.below hb6))
              have Hb6 := Lib.hid (Hbw.out.trans (hb6.mono Hbw.out.size))
              have Hrl := Lib.hid ((Hrd.out.below hb6).more hb6.size)
              replace Hnw := Lib.hid (Hnw.out.to hb6)
              clear hr6 hb6 Hpb
              by_cases hpb : packO l = b
              · rw [decide_eq_true hpb] at HE
                have Hres := Lib.hid (Hyes.out hpb)
                clear hpb Hyes Hnot
                go_wp2_with (go_at_call 108; refine HE.out.mono ?_; rintro e w' ⟨rfl, rfl⟩)
                exact bodyPost_ret (v := .tuple #[.slice A4 N N, .bool true]) (by simp [results, Try.results103, go_sem]) rfl ⟨A4, N, N, by rw [Hres.out]; rfl, by rw [Hres.out]; exact Hrl.out, ⟨by omega, Hnw.out.less Hb3.out.size⟩, Hb6.out⟩
              · rw [decide_eq_false hpb] at HE
                have Hres := Lib.hid (Hnot.out hpb)
                clear hpb Hyes Hnot
                go_wp2_with (go_at_call 108; refine HE.out.mono ?_; rintro e w' ⟨rfl, rfl⟩)
                exact bodyPost_ret (v := .tuple #[.slice none 0 0, .bool false]) (by simp [results, Try.results103, go_sem]) rfl ⟨none, 0, 0, by rw [Hres.out]; rfl, by rw [Hres.out]; exact RdI.nil, ⟨by omega, NewA.nil _ _ _ _⟩, Hb6.out⟩
    · have hne : ((n : Int) != (C : Int)) = true := by simpa using fun h : (n : Int) = C => hnC (by omega)
      have Hno := Lib.hid (unO_far (b := b) (by rw [Hr4.out.1, ← HN.out]; have := HC.out; omega))
      clear hnC
      go_wp2_with (go_at_call 88; refine HS.out.mono ?_; rintro e w' ⟨rfl, rfl⟩)
      exact bodyPost_ret (v := .tuple #[.slice none 0 0, .bool false]) (by simp [results, Try.results103, go_sem]) rfl ⟨none, 0, 0, by rw [Hno.out]; rfl, by rw [Hno.out]; exact RdI.nil, ⟨by omega, NewA.nil _ _ _ _⟩, Hb3.out⟩
  · have Hno := Lib.hid (unO_short (b := b) (by rw [Hr.out.1]; exact h2))
    have hh2 : (n : Int) < 2 := by omega
    go_enter Try.func103, Try.ntmps103
    go_wp2_with fail
    exact bodyPost_ret (v := .tuple #[.slice none 0 0, .bool false]) (by simp [results, Try.results103, go_sem]) rfl ⟨none, 0, 0, by rw [Hno.out]; rfl, by rw [Hno.out]; exact RdI.nil, ⟨by omega, NewA.nil _ _ _ _⟩, Below.refl _ _⟩

theorem PUnpack (A : Option Addr) (n c : Nat) (b : List UInt8) (w : World) (hr : Rd w w.heap.size A n b) (hn : n ≤ 1000) (hnc : n ≤ c) : Calls Try.prog 103 #[.slice A n c] w (UnP w b) :=
  Unpack_any A n c b w hr (by omega) hnc
end Go.Proofs.Ytaobdebeglenaaa
