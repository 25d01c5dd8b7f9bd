/- The walk of FrameOwn. -/
import Derived.Test.YthidmajlmehopaaDoorFrLaw
import Derived.Test.YthidmajlmehopaaDoorFrX
namespace Go.Proofs.YthidmajlmehopaaDoor
open Go.ChangeShapes Go.WideShapes Go.ChangeAt Go.RowKit

set_option maxHeartbeats 1000000 in
theorem FrameOwn_core (A : Option Addr) (n c : Nat) (l : List UInt8) (more : Int) (W : World) (hr : Rd W W.heap.size A n l) (ht : Tb W) (hn : n ≤ 500) :
    Calls Tryd.prog 8 #[.slice A n c, .int .i64 more] W (Yes W) := by
  have hl := hr.1
  have Hr := Lib.hid hr
  have Ht := Lib.hid ht
  have Hs := Lib.hid ht.size
  obtain ⟨L, hL⟩ : ∃ L, L = n + 12 := ⟨_, rfl⟩
  have hLb : L ≤ 512 := by omega
  have HL := Lib.hid hL
  obtain ⟨F, hF⟩ : ∃ F, F = mkF 1 l := ⟨_, rfl⟩
  have hFx : nxE F = 0 := by have := nx_mk 1 l [] (by omega); rw [List.append_nil] at this; rw [hF]; exact this
  have hFc : cntF F = n := by have := cnt_mk 1 l [] (by omega); rw [List.append_nil] at this; rw [hF, this, hl]
  have HF := Lib.hid hF
  have HFx := Lib.hid hFx
  have HFc := Lib.hid hFc
  have HFl : Hid (F.length = L) := by rw [hF]; show (mkF 1 l).length = L; rw [mkF_length, hl]; exact hL.symm
  clear hr ht hL hl hF hFx hFc
  go_enter Tryd.func8, Tryd.ntmps8
  go_wp2_with (go_at_call 9; refine (awake_any W Ht.out).mono ?_; rintro e w1 ⟨rfl, hb1⟩; have Hb1 := Lib.hid hb1; clear hb1)
  refine (MakeL 1 1 A n c L l _ rfl (by decide) HL.out (by omega) ((Hr.out.below Hb1.out).more Hb1.out.size) (Ht.out.below Hb1.out Hs.out)).mono ?_
  rintro e w2 ⟨g, cf, rfl, hcf, hmf, hown2, hg, hb2⟩
  rw [← HF.out] at hown2
  have hr2 := Rd.own hown2
  have hcv := str_any (c := cf) hr2
  have Hr2 := Lib.hid hr2
  have Hb2 := Lib.hid (Hb1.out.trans (hb2.mono Hb1.out.size))
  have hmf2 : cf ≤ 9223372036854775807 := by simpa [maxLen] using hmf
  clear hown2 hb2 hg hmf hr2
  go_wp2_with fail
  refine (Next_yes _ L cf F _ Hr2.out (by omega) hcf hmf2 (Ht.out.below Hb2.out Hs.out) HFx.out).mono ?_
  rintro e w3 ⟨A3, c3, A4, c4, m3, m4, hm3, hm4, rfl, hown3, hc3, hm3', _, _, _, hb3⟩
  rw [HFc.out] at hm3
  obtain ⟨kd, hkd⟩ : ∃ x, x = ((F.getD 1 0).toNat : Int) := ⟨_, rfl⟩
  rw [← hkd]
  have hown3' : ∃ xs : List UInt8, w3.ownsRow w2.heap.size 5 1 (.slice A3 m3 c3) m3 (xs.map bv) := ⟨_, hown3⟩
  have Hown3 := Lib.hid hown3'
  have Hb3 := Lib.hid hb3
  have hm3b : m3 ≤ 500 := by omega
  clear hkd hm3 hm4 hown3 hown3' hb3 hm3' hcv hc3
  go_wp2_with fail
  go_loopw [13] (fun i wr => ∃ j : Nat, j ≤ m3 ∧ i = .int .i64 j ∧ (∃ xs : List UInt8, Hid (wr.ownsRow w2.heap.size 5 1 (.slice A3 m3 c3) m3 (xs.map bv))) ∧ Hid (Below w2.heap.size w2 wr)) (fun i _ => m3 - (intOf i).toNat)
  case atStart => exact ⟨0, Nat.zero_le _, rfl, Hown3.out, Hb3⟩
  case round =>
    obtain ⟨j, hj, rfl, ⟨xs, Hown⟩, Hb⟩ := hrel
    by_cases hlt : j < m3
    · obtain ⟨g3, hA3, hg3⟩ : ∃ g3, A3 = some ⟨g3, 0, none⟩ ∧ w2.heap.size ≤ g3 := by
        rcases Hown.out.2 with ⟨hv, h0⟩ | ⟨g, cap, cur, hv, hg, _⟩
        · omega
        · injection hv with hv1 _ _
          exact ⟨g, hv1, hg⟩
      subst hA3
      have hxl : xs.length = m3 := by have := Hown.out.1; simpa using this
      obtain ⟨x, hx⟩ : ∃ x, x = xs[j]'(by omega) := ⟨_, rfl⟩
      have hcell : wr.cell? ⟨g3, j, none⟩ = some (.int .u8 (x.toNat : Int)) := by
        rw [Hown.out.cellAt j (by omega), List.getElem?_map, List.getElem?_eq_getElem (by omega), ← hx]; rfl
      have hfr := Hown.out.frozenAt j
      have hxb := x.toNat_lt
      obtain ⟨y, hy, _⟩ := xor_turn x 255 (by decide) (by decide)
      have hst := (Hown.out.stored j (.int .u8 (y.toNat : Int))).1
      have hset : (xs.map bv).set j (.int .u8 (y.toNat : Int)) = (xs.set j y).map bv := by rw [List.map_set]; rfl
      rw [hset] at hst
      have Hst := Lib.hid hst
      have Hb4 := Lib.hid (Hb.out.setCell (p := ⟨g3, j, none⟩) hg3 (.int .u8 (y.toNat : Int)))
      have hy2 : bits .xor .u8 (x.toNat : Int) 255 = (y.toNat : Int) := hy
      clear hy hst hset hx hxl hg3 Hown3
      go_wp2_with fail
      go_roundw
      case rel => exact ⟨j + 1, by omega, by go_num, ⟨_, Hst⟩, Hb4⟩
      case measure => simp [intOf]; omega
    · have Hb5 := Lib.hid (Hb2.out.trans (Hb.out.mono Hb2.out.size))
      have Ht5 := Lib.hid (Ht.out.below Hb5.out Hs.out)
      have Hr5 := Lib.hid (Hr2.out.below Hb.out)
      clear Hown3 Hown
      by_cases hmo : more.tmod 4 = 0
      · have h1 : (more.tmod 4 != 0) = false := by simpa using hmo
        clear hmo
        have hmk := mk8192 wr
        go_wp2_with fail
        refine (big_ok wr Ht5.out).mono ?_
        rintro e w6 ⟨A6, c6, rfl, hb6⟩
        have hcv6 := str_any (c := cf) (Hr5.out.below (hb6.mono Hb.out.size))
        have Hb6 := Lib.hid (Hb5.out.trans (hb6.mono Hb5.out.size))
        clear hb6 hmk
        go_wp2_with fail
        go_ret
        exact ⟨rfl, Hb6.out⟩
      · have h1 : (more.tmod 4 != 0) = true := by simpa using hmo
        clear hmo
        have hmk := mk8193 wr
        go_wp2_with fail
        refine (big_lim wr).mono ?_
        rintro e w6 ⟨rfl, hb6⟩
        have hcv6 := str_any (c := cf) (Hr5.out.below (hb6.mono Hb.out.size))
        have Hb6 := Lib.hid (Hb5.out.trans (hb6.mono Hb5.out.size))
        clear hb6 hmk
        go_wp2_with fail
        go_ret
        exact ⟨rfl, Hb6.out⟩

set_option maxHeartbeats 1000000 in
theorem FrameOwn_big (A : Option Addr) (n c : Nat) (more : Int) (W : World) (ht : Tb W) (hn : 500 < n) :
    Calls Tryd.prog 8 #[.slice A n c, .int .i64 more] W (Yes W) := by
  have Ht := Lib.hid ht
  clear ht
  go_enter Tryd.func8, Tryd.ntmps8
  go_wp2_with (go_at_call 9; refine (awake_any W Ht.out).mono ?_; rintro e w1 ⟨rfl, hb1⟩; have Hb1 := Lib.hid hb1; clear hb1)
  go_ret
  exact ⟨rfl, Hb1.out⟩

theorem FrameOwn_walk {H : Type} {enc : TypeId × Value → H} (W : World) (base : Nat) {v0 v1 : Value} {d0 : DataW H} {p0 : List MemPlace} {d1 : DataW H} {p1 : List MemPlace}
    (k0 : Value.okWide Tryd.prog W .any base 22 v0) (h0 : DataW.Trod enc Tryd.prog W 0 (fun _ => true) true 22 v0 d0 p0) (k1 : Value.okWide Tryd.prog W .any base 3 v1) (h1 : DataW.Trod enc Tryd.prog W 0 (fun _ => true) true 3 v1 d1 p1) (ht : Tb W) :
    Calls Tryd.prog 8 #[v0, v1] W (Yes W) := by
  obtain ⟨A, n, c, l, rfl, hr, _, _, _⟩ := ar_bytes' k0 h0
  obtain ⟨z, rfl, _⟩ := ar_int Tryd.underlying3 k1 h1
  by_cases hn : n ≤ 500
  · exact FrameOwn_core A n c l z W hr ht hn
  · exact FrameOwn_big A n c z W ht (by omega)
end Go.Proofs.YthidmajlmehopaaDoor
