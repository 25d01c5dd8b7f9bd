/- Contract of package objmap's Pack. -/
import Derived.Test.YtaobdebeglenaaaObT
namespace Go.Proofs.Ytaobdebeglenaaa
open Go.RowKit

/-- what a call tells: bytes that can be read, in new memory -/
def GivesB (f : Nat) (xs : Array Value) (w : World) (l : List UInt8) : Prop :=
  Calls Try.prog f xs w fun e w' => ∃ A n c, e = .returned (.slice A n c) ∧ Rd w' w'.heap.size A n l ∧ (n ≤ c ∧ c ≤ 9223372036854775807 ∧ NewA w' 5 w.heap.size A n) ∧ Below w.heap.size w w'
theorem givesB {f : Nat} {xs : Array Value} {w : World} {l : List UInt8} (h : Calls Try.prog f xs w (Out w l)) : GivesB f xs w l :=
  h.mono fun e w' q => by
    obtain ⟨A, c, h1, h2, h3, h4, h5⟩ := q
    have h6 : c ≤ 9223372036854775807 := by simpa [maxLen] using h3
    exact ⟨A, _, c, h1, Rd.own h4, ⟨h2, h6, NewA.own h4⟩, h5⟩
theorem mkB (k : Nat) (p : Int) (hp : p = (k : Int)) (hk : k ≤ 1000000) (w : World) : (Instr.makeSlice 39 (.int .i64 0) (.int .i64 p)).run Try.prog w = .ok (.slice (some ⟨w.heap.size, 0, none⟩) 0 k) (w.alloc (.cells (madeCells #[.int .u8 0] k) 5)) := by
  obtain ⟨i, hi, hz0, hz1, hz2⟩ := info_parts Try.infoB
  exact run_mk (P := Try.prog) Try.underlying39 hi hz0 hz1 (by omega) 0 k p hp (Nat.zero_le _) (by omega) w

theorem two_src (w : World) (x y : Int) (t : TypeId) (b : Nat) (hb : b = w.heap.size) : 0 < 2 → ∃ ad, some (⟨b, 0, none⟩ : Addr) = some ad ∧ ∀ j u, ([Value.int .u8 x, Value.int .u8 y])[j]? = some u → (w.alloc (.cells #[.int .u8 x, .int .u8 y] t)).cell? (ad.add j) = some u := fun _ =>
  ⟨_, rfl, fun j u hu => by
    subst hb
    have hadd : (⟨w.heap.size, 0, none⟩ : Addr).add j = ⟨w.heap.size, j, none⟩ := by unfold Addr.add; split <;> simp_all
    rw [hadd, cell_of_row _ w.heap.size j #[.int .u8 x, .int .u8 y] t (0, 0) (heap_alloc_new w _)]
    simpa using hu⟩

set_option maxRecDepth 10000 in
set_option maxHeartbeats 2000000 in
theorem Pack_any (A : Option Addr) (n c : Nat) (m : List Int) (w : World) (hr : RdI w w.heap.size A n m) (hn : n ≤ 100000) : GivesB 54 #[.slice A n c] w (packO m) := by
  obtain ⟨inf, hi, hz0, hz1, hz2⟩ := info_parts Try.infoB
  have HC := Lib.hid (canon_gives A n c m w hr hn)
  clear hr
  have Hl := Lib.hid (rowO_len m)
  have Hpk := Lib.hid (show packO m = packR (rowO m) from rfl)
  rw [Hpk.out]
  clear Hpk
  generalize rowO m = r at HC Hl ⊢
  go_enter Try.func54, Try.ntmps54
  go_wp2_with fail
  refine HC.out.mono ?_
  rintro e w1 ⟨A3, L, c3, rfl, hrd, ⟨hL6, _⟩, hb⟩
  have Hrd := Lib.hid hrd
  have Hb := Lib.hid hb
  have hL5 : L ≤ 512 := by rw [← hrd.1]; exact Hl.out
  have HL := Lib.hid hrd.1
  have HS := Lib.hid (packedSize_any L w1 (by omega))
  have hmk := fun W : World => mkB (2 + (L + 3) / 4) ((2 + (L + 3) / 4 : Nat) : Int) rfl (by omega) W
  obtain ⟨C, hC⟩ : ∃ C, C = 2 + (L + 3) / 4 := ⟨_, rfl⟩
  rw [← hC] at HS hmk
  have hC6 : C ≤ 1000 := by omega
  clear hrd hb HC hC hL6
  have Hown0 := Lib.hid (World.ownsRow_made (base := w1.heap.size) (e := 5) (size := 1) w1 (madeCells #[.int .u8 0] C) C (Nat.le_refl _) (by simp only [maxLen]; omega) (by rw [size_madeCells, Nat.mul_one]))
  have Hb0 := Lib.hid ((Below.refl w1.heap.size w1).alloc (Nat.le_refl _) (.cells (madeCells #[.int .u8 0] C) 5))
  go_upto_region 3 with (go_at_call 88; refine HS.out.mono ?_; rintro e w' ⟨rfl, rfl⟩)
  have Hne := Lib.hid (show w1.heap.size < (w1.alloc (.cells (madeCells #[.int .u8 0] C) 5)).heap.size by simp)
  generalize w1.alloc (.cells (madeCells #[.int .u8 0] C) 5) = w2 at Hown0 Hb0 Hne ⊢
  have hws2 := Hne.out
  have Hhd : Hid ([UInt8.ofNat (L / 256), UInt8.ofNat (L % 256)].map bv = [.int .u8 ((L : Int) / 256), .int .u8 ((L : Int) % 256)]) := by
    show _ = _
    simp only [List.map_cons, List.map_nil, bv_ofNat]
    rw [show ((L / 256 % 256 : Nat) : Int) = (L : Int) / 256 by omega, show ((L % 256 % 256 : Nat) : Int) = (L : Int) % 256 by omega]
  go_wp2_with (at_builtin; refine wpList_append_rd rfl (.tmp 11) (.tmp 19) 39 rfl w1.heap.size 5 inf (.int .u8 0) 1 Try.underlying39 hi hz0 hz1 hz2 rfl _ _ _ rfl (Hown0.out.alloc _) (some ⟨w2.heap.size, 0, none⟩) 2 2 [.int .u8 ((L : Int) / 256), .int .u8 ((L : Int) % 256)] rfl rfl (two_src w2 _ _ _ _ rfl) (by intro u hu; simp at hu; rcases hu with rfl | rfl <;> rfl) (by simp only [maxLen]; omega) (by omega) (by simp; omega) ?_; intro v2 w3 hown2 hg2; have Hb2 := Lib.hid ((Hb0.out.alloc (by omega) _).grown hg2 (by simp; omega) (fun q hq => (Hown0.out.lt q hq).1)); have Hown2 := Lib.hid hown2; clear hown2 hg2)
  rw [List.nil_append, ← Hhd.out] at Hown2
  clear Hown0 Hb0 Hne hws2 hmk HS
  go_loopw [3, 4] (fun v i wr => ∃ (q I : Nat), I ≤ L + 3 ∧ Hid (I = 4 * q) ∧ i = .int .i64 (I : Int) ∧ Hid (wr.ownsRow w1.heap.size 5 1 v (2 + q) (([UInt8.ofNat (L / 256), UInt8.ofNat (L % 256)]).map bv ++ (quads r q).map bv)) ∧ Hid (Below w1.heap.size w1 wr)) (fun _ i _ => L + 4 - (intOf i).toNat)
  case atStart => exact ⟨0, 0, Nat.zero_le _, rfl, rfl, by rw [show quads r 0 = [] from rfl, List.map_nil, List.append_nil]; exact Hown2, Hb2⟩
  case round =>
    obtain ⟨q, I, hIL, HI, rfl, Hown3, Hbr⟩ := hrel
    by_cases hlt : I < L
    · have hI0 : (0 : Int) ≤ (I : Int) := by omega
      have hI1 : (I : Int) < (L : Int) := by omega
      have HP := Lib.hid (packByte_any A3 L c3 q r w1.heap.size wr (Hrd.out.below Hbr.out) (by omega) (by have := HI.out; omega))
      rw [← HI.out] at HP
      have Hst := Lib.hid (quads_bv r q)
      generalize quadN r q = Q at HP Hst
      have hws := Hbr.out.size
      have hqs : q ≤ 600 := by have := HI.out; omega
      obtain ⟨A4, c4, rfl, _, _⟩ := ownsRow_form Hown3.out
      go_wp2_with (first
        | (go_at_call 89; refine HP.out.mono ?_; rintro e w' ⟨rfl, rfl⟩)
        | (at_builtin; refine wpList_append_rd rfl (.tmp 27) (.tmp 31) 39 rfl w1.heap.size 5 inf (.int .u8 0) 1 Try.underlying39 hi hz0 hz1 hz2 rfl _ _ _ rfl (Hown3.out.alloc _) (some ⟨wr.heap.size, 0, none⟩) 1 1 [.int .u8 (Q : Int)] rfl rfl (byte_src wr (Q : Int) _ _ rfl) (by intro u hu; simp at hu; subst hu; rfl) (by simp only [maxLen]; omega) (by omega) (by simp; omega) ?_; intro v2 w2 hown2 hg2; have Hb2 := Lib.hid ((Hbr.out.alloc hws _).grown hg2 (by simp; omega) (fun q hq => (Hown3.out.lt q hq).1)); have Hown3 := Lib.hid hown2; clear hown2 hg2))
      go_roundw
      case rel => exact ⟨q + 1, I + 4, by omega, Lib.hid (by have := HI.out; omega), by go_num, by rw [Hst.out, ← List.append_assoc, show 2 + (q + 1) = 2 + q + 1 by omega]; exact Hown3, Hb2⟩
      case measure => simp [intOf]; omega
    · have hI1 : ¬ (I : Int) < (L : Int) := by omega
      have Hq := Lib.hid (show q = (L + 3) / 4 by have := HI.out; omega)
      have Hfin : Hid (wr.ownsRow w.heap.size 5 1 u3 (2 + q) ((packR r).map bv)) := by
        have h := ownBs Hown3.out Hb.out.size
        have e : (packR r).map bv = ([UInt8.ofNat (L / 256), UInt8.ofNat (L % 256)]).map bv ++ (quads r q).map bv := by
          unfold packR
          rw [HL.out, ← Hq.out]
          rfl
        show wr.ownsRow _ _ _ _ _ _
        rw [e]
        exact h
      have Hbf := Lib.hid (Hb.out.trans (Hbr.out.mono Hb.out.size))
      have hq6 : q ≤ 600 := by have := HI.out; omega
      obtain ⟨A4, c4, rfl, hnc, hcm⟩ := ownsRow_form Hfin.out
      have hcm : c4 ≤ 9223372036854775807 := by simpa [maxLen] using hcm
      have Hrf := Lib.hid (Rd.own Hfin.out)
      have Hnw := Lib.hid (NewA.own Hfin.out)
      clear Hown3 Hq HI Hfin
      go_wp2_with fail
      go_ret
      exact ⟨A4, 2 + q, c4, rfl, Hrf.out, ⟨hnc, hcm, Hnw.out⟩, Hbf.out⟩

theorem PPack (A : Option Addr) (n c : Nat) (m : List Int) (w : World) (hr : RdI w w.heap.size A n m) (hn : n ≤ 3000) : GivesB 54 #[.slice A n c] w (packO m) :=
  Pack_any A n c m w hr (by omega)
end Go.Proofs.Ytaobdebeglenaaa
