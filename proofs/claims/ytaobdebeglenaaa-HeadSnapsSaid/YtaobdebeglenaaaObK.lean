/- Contract of the document's Pack (maps of objects' states). -/
import Derived.Test.YtaobdebeglenaaaObS
namespace Go.Proofs.Ytaobdebeglenaaa
open Go.RowKit

theorem quads_bv (r : List Int) (q : Nat) : (quads r (q + 1)).map bv = (quads r q).map bv ++ [.int .u8 (quadN r q : Int)] := by
  rw [quads_succ, List.map_append, List.map_cons, List.map_nil, bv_ofNat, Nat.mod_eq_of_lt (quad_lt r q)]
theorem byte_src (w : World) (x : Int) (t : TypeId) (b : Nat) (hb : b = w.heap.size) : 0 < 1 → ∃ ad, some (⟨b, 0, none⟩ : Addr) = some ad ∧ ∀ j u, ([Value.int .u8 x])[j]? = some u → (w.alloc (.cells #[.int .u8 x] t)).cell? (ad.add j) = some u := fun _ =>
  ⟨_, rfl, by subst hb; exact one_new w _ t⟩

set_option maxRecDepth 10000 in
set_option maxHeartbeats 2000000 in
theorem RPack_any (A : Option Addr) (n c : Nat) (m : List Int) (w : World) (hr : RdI w w.heap.size A n m) (hn : n ≤ 100000) :
    Calls Try.prog 57 #[.slice A n c] w (Out w (packO m)) := by
  obtain ⟨inf, hi, hz0, hz1, hz2⟩ := info_parts Try.infoB
  have HR := Lib.hid (RRow_any A n c m w hr hn)
  clear hr
  have Hl := Lib.hid (rowO_len m)
  have Hpk := Lib.hid (show packO m = packR (rowO m) from rfl)
  rw [Hpk.out]
  clear Hpk
  generalize rowO m = r at HR Hl ⊢
  obtain ⟨L, hL⟩ : ∃ L, L = r.length := ⟨_, rfl⟩
  have hL5 : L ≤ 512 := by rw [hL]; exact Hl.out
  have HL := Lib.hid hL
  clear hL Hl
  go_enter Try.func57, Try.ntmps57
  go_wp2_with fail
  refine HR.out.mono ?_
  rintro e w1 ⟨v, rfl, hown, hb⟩
  rw [← HL.out] at hown
  have Hown := Lib.hid hown
  have Hb := Lib.hid hb
  clear hown hb HR
  obtain ⟨A3, c3, rfl, _, _⟩ := ownI Hown.out
  have Hrd := Lib.hid (RdI.own Hown.out)
  have Hhd : Hid ([UInt8.ofNat (L / 256), UInt8.ofNat (L % 256)].map bv = [.int .u8 ((L : Int) / 256), .int .u8 ((L : Int) % 256)]) := by
    show _ = _
    simp only [List.map_cons, List.map_nil, bv_ofNat]
    rw [show ((L / 256 % 256 : Nat) : Int) = (L : Int) / 256 by omega, show ((L % 256 % 256 : Nat) : Int) = (L : Int) % 256 by omega]
  have Hown0 : Hid ((w1.alloc (.cells #[.int .u8 ((L : Int) / 256), .int .u8 ((L : Int) % 256)] 5)).ownsRow w1.heap.size 5 1 (.slice (some ⟨w1.heap.size, 0, none⟩) 2 2) 2 [.int .u8 ((L : Int) / 256), .int .u8 ((L : Int) % 256)]) :=
    World.ownsRow_lit w1 #[.int .u8 ((L : Int) / 256), .int .u8 ((L : Int) % 256)] 2 (Nat.le_refl _) (by decide) rfl
  have Hb0 := Lib.hid ((Below.refl w1.heap.size w1).alloc (Nat.le_refl _) (.cells #[.int .u8 ((L : Int) / 256), .int .u8 ((L : Int) % 256)] 5))
  go_upto_region 3 with fail
  generalize w1.alloc (.cells #[.int .u8 ((L : Int) / 256), .int .u8 ((L : Int) % 256)] 5) = w2 at Hown0 Hb0 ⊢
  rw [← Hhd.out] at Hown0
  go_wp2_with fail
  go_loopw [4, 5] (fun v i wr => ∃ (q I : Nat), I ≤ L + 3 ∧ Hid (I = 4 * q) ∧ i = .int .i64 (I : Int) ∧ Hid (wr.ownsRow w1.heap.size 5 1 v (2 + q) (([UInt8.ofNat (L / 256), UInt8.ofNat (L % 256)]).map bv ++ (quads r q).map bv)) ∧ Hid (Below w1.heap.size w1 wr)) (fun _ i _ => L + 4 - (intOf i).toNat)
  case atStart => exact ⟨0, 0, Nat.zero_le _, rfl, rfl, by rw [show quads r 0 = [] from rfl, List.map_nil, List.append_nil]; exact Hown0, Hb0⟩
  case round =>
    obtain ⟨q, I, hIL, HI, rfl, Hown2, Hbr⟩ := hrel
    by_cases hlt : I < L
    · have hI0 : (0 : Int) ≤ (I : Int) := by omega
      have hI1 : (I : Int) < (L : Int) := by omega
      have hrr := Hrd.out.below Hbr.out
      have HG0 := Lib.hid (RGet_any A3 L c3 r (I : Int) w1.heap.size wr hrr (by omega))
      have HG1 := Lib.hid (RGet_any A3 L c3 r ((I : Int) + 1) w1.heap.size wr hrr (by omega))
      have HG2 := Lib.hid (RGet_any A3 L c3 r ((I : Int) + 2) w1.heap.size wr hrr (by omega))
      have HG3 := Lib.hid (RGet_any A3 L c3 r ((I : Int) + 3) w1.heap.size wr hrr (by omega))
      rw [show (I : Int) = ((4 * q : Nat) : Int) by rw [HI.out]] at HG0 HG1 HG2 HG3
      rw [show ((4 * q : Nat) : Int) + 1 = ((4 * q + 1 : Nat) : Int) by omega, getO_nat] at HG1
      rw [show ((4 * q : Nat) : Int) + 2 = ((4 * q + 2 : Nat) : Int) by omega, getO_nat] at HG2
      rw [show ((4 * q : Nat) : Int) + 3 = ((4 * q + 3 : Nat) : Int) by omega, getO_nat] at HG3
      rw [getO_nat] at HG0
      have hs0 := gN_st r (4 * q)
      have hs1 := gN_st r (4 * q + 1)
      have hs2 := gN_st r (4 * q + 2)
      have hs3 := gN_st r (4 * q + 3)
      have hQ := quad_eq r q
      have hQ2 := quad_lt r q
      have Hst := Lib.hid (quads_bv r q)
      generalize quadN r q = Q at hQ hQ2 Hst
      generalize gN r (4 * q) = x0 at *
      generalize gN r (4 * q + 1) = x1 at *
      generalize gN r (4 * q + 2) = x2 at *
      generalize gN r (4 * q + 3) = x3 at *
      rw [show ((4 * q : Nat) : Int) = (I : Int) by rw [HI.out]] at HG0
      rw [show ((4 * q + 1 : Nat) : Int) = (I : Int) + 1 by rw [HI.out]; omega] at HG1
      rw [show ((4 * q + 2 : Nat) : Int) = (I : Int) + 2 by rw [HI.out]; omega] at HG2
      rw [show ((4 * q + 3 : Nat) : Int) = (I : Int) + 3 by rw [HI.out]; omega] at HG3
      have HQ := Lib.hid hQ
      have a0 : 0 ≤ x0 ∧ x0 ≤ 2 := by unfold St at hs0; omega
      have a1 : 0 ≤ x1 ∧ x1 ≤ 2 := by unfold St at hs1; omega
      have a2 : 0 ≤ x2 ∧ x2 ≤ 2 := by unfold St at hs2; omega
      have a3 : 0 ≤ x3 ∧ x3 ≤ 2 := by unfold St at hs3; omega
      obtain ⟨b0, c0⟩ := a0
      obtain ⟨b1, c1⟩ := a1
      obtain ⟨b2, c2⟩ := a2
      obtain ⟨b3, c3'⟩ := a3
      clear hs0 hs1 hs2 hs3 hQ hrr
      go_upto_region 6 with fail
      go_cut [6] (fun s6 wx => s6 = .int .i64 (Q : Int) ∧ wx = wr)
      case first =>
        go_wp2_with fail
        refine HG0.out.mono ?_
        rintro e5 w5 ⟨rfl, rfl⟩
        go_wp2_with fail
        refine HG1.out.mono ?_
        rintro e6 w6 ⟨rfl, rfl⟩
        go_wp2_with fail
        refine HG2.out.mono ?_
        rintro e7 w7 ⟨rfl, rfl⟩
        go_wp2_with fail
        refine HG3.out.mono ?_
        rintro e8 w8 ⟨rfl, rfl⟩
        go_wp2_with fail
        go_meet
        exact ⟨by rw [HQ.out], rfl⟩
      case rest =>
        obtain ⟨rfl, rfl⟩ := hcut
        have hq0 : (0 : Int) ≤ (Q : Int) := by omega
        have hq1 : (Q : Int) < 256 := by omega
        have hws := Hbr.out.size
        have hqs : q ≤ 600 := by have := HI.out; omega
        obtain ⟨A4, c4, rfl, _, _⟩ := ownI Hown2.out
        go_wp2_with (at_builtin; refine wpList_append_rd rfl (.tmp 45) (.tmp 48) 39 rfl w1.heap.size 5 inf (.int .u8 0) 1 Try.underlying39 hi hz0 hz1 hz2 rfl _ _ _ rfl (Hown2.out.alloc _) (some ⟨wc.heap.size, 0, none⟩) 1 1 [.int .u8 (Q : Int)] rfl rfl (byte_src wc (Q : Int) _ _ rfl) (by intro u hu; simp at hu; subst hu; rfl) (by simp only [maxLen]; omega) (by omega) (by simp; omega) ?_; intro v2 w2 hown2 hg2; have Hb2 := Lib.hid ((Hbr.out.alloc hws _).grown hg2 (by simp; omega) (fun q hq => (Hown2.out.lt q hq).1)); have Hown3 := Lib.hid hown2; clear hown2 hg2)
        go_roundw
        case rel => exact ⟨q + 1, I + 4, by omega, Lib.hid (by have := HI.out; omega), by go_num, by rw [Hst.out, ← List.append_assoc, show 2 + (q + 1) = 2 + q + 1 by omega]; exact Hown3, Hb2⟩
        case measure => simp [intOf]; omega
    · have hI1 : ¬ (I : Int) < (L : Int) := by omega
      have Hq := Lib.hid (show q = (L + 3) / 4 by have := HI.out; omega)
      have Hfin : Hid (wr.ownsRow w.heap.size 5 1 u4 (2 + q) ((packR r).map bv)) := by
        have h := ownBs Hown2.out Hb.out.size
        have e : (packR r).map bv = ([UInt8.ofNat (L / 256), UInt8.ofNat (L % 256)]).map bv ++ (quads r q).map bv := by
          unfold packR
          rw [← HL.out, ← Hq.out]
          rfl
        show wr.ownsRow _ _ _ _ _ _
        rw [e]
        exact h
      have Hbf := Lib.hid (Hb.out.trans (Hbr.out.mono Hb.out.size))
      clear Hown2 Hq HI
      go_wp2_with fail
      go_ret
      exact Out.mk Hfin.out Hbf.out
end Go.Proofs.Ytaobdebeglenaaa
