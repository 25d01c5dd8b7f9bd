/- Contracts: the document's Next and Whole. -/
import Derived.Test.YtfabcmohaikfoaaDoorFrE
import Derived.Test.YtfabcmohaikfoaaDoorWireS
import Derived.IntWalk
namespace Go.Proofs.YtfabcmohaikfoaaDoor
open Go.RowKit

/-- the document's Next refuses with the error x -/
def RNo (w : World) (x : Int) (e : Ending) (w' : World) : Prop := e = .returned (.tuple #[.int .i64 0, .slice none 0 0, .int .i64 0, .int .i64 x]) ∧ Below w.heap.size w w'
/-- the document's Next found a frame -/
def RYes (w : World) (B : Nat) (l : List UInt8) (e : Ending) (w' : World) : Prop :=
  ∃ A1 c1 m1, m1 = cntF l ∧ e = .returned (.tuple #[.int .i64 ((l.getD 1 0).toNat : Int), .slice A1 m1 c1, .int .i64 ((m1 : Int) + 12), .int .i64 0]) ∧
    Rd w' B A1 m1 ((l.drop 8).take m1) ∧ Below w.heap.size w w' ∧ m1 ≤ c1 ∧ c1 ≤ 9223372036854775807

set_option maxRecDepth 10000 in
set_option maxHeartbeats 1000000 in
theorem rn_no1 (A : Option Addr) (n c : Nat) (w : World) (h8 : n < 8) :
    Calls Tryd.prog 28 #[.slice A n c] w (RNo w 10) := by
  go_enter Tryd.func28, Tryd.ntmps28
  go_wp2_with fail
  exact bodyPost_ret (v := .tuple #[.int .i64 0, .slice none 0 0, .int .i64 0, .int .i64 10]) (by simp [results, Tryd.results28, go_sem]) rfl ⟨rfl, Below.refl _ _⟩

set_option maxRecDepth 10000 in
set_option maxHeartbeats 1000000 in
theorem rn_no2 (A : Option Addr) (n c : Nat) (l : List UInt8) (B : Nat) (w : World) (hr : Rd w B A n l) (h8 : 8 ≤ n) (h0 : l.getD 0 0 ≠ 90) :
    Calls Tryd.prog 28 #[.slice A n c] w (RNo w 11) := by
  obtain ⟨ad, rfl, _, hcell⟩ := hr.cellAt (k := 0) (by omega)
  have hl := hr.1
  have h1 : ((l[0]'(by omega)).toNat : Int) ≠ 90 := by
    intro h
    apply h0
    rw [List.getD_eq_getElem?_getD, List.getElem?_eq_getElem (by omega), Option.getD_some, ← UInt8.toNat_inj]
    simp; omega
  obtain ⟨x, hx⟩ : ∃ x : Int, x = ((l[0]'(by omega)).toNat : Int) := ⟨_, rfl⟩
  have hc0 : w.cell? ad = some (.int .u8 x) := by
    have : ad.add 0 = ad := by simp [Addr.add]
    rw [this] at hcell; rw [hcell, hx]; rfl
  rw [← hx] at h1
  have hne : (x != 90) = true := by simpa using h1
  clear hcell hx h1 hr hl
  go_enter Tryd.func28, Tryd.ntmps28
  go_wp2_with fail
  exact bodyPost_ret (v := .tuple #[.int .i64 0, .slice none 0 0, .int .i64 0, .int .i64 11]) (by simp [results, Tryd.results28, go_sem]) rfl ⟨rfl, Below.refl _ _⟩

set_option maxRecDepth 10000 in
set_option maxHeartbeats 1000000 in
theorem rn_no3 (ad : Addr) (n c : Nat) (l : List UInt8) (w : World) (hr : Rd w w.heap.size (some ad) n l) (h8 : 8 ≤ n) (hc : n ≤ c) (hm : c ≤ 9223372036854775807) (h0 : l.getD 0 0 = 90) (h1 : (l.drop 4).take 4 ≠ tail4 (crc (l.take 4))) :
    Calls Tryd.prog 28 #[.slice (some ad) n c] w (RNo w 20) := by
  have hl := hr.1
  have Hr1 := Lib.hid (hr.take (k := 4) (by omega))
  have Hr2 := Lib.hid (show Rd w w.heap.size (some ⟨ad.block, ad.off + 4, none⟩) 4 ((l.drop 4).take 4) from hr.sub 4 4 (by omega))
  obtain ⟨ad0, he, _, hcell⟩ := hr.cellAt (k := 0) (by omega)
  cases he
  have hc0 : w.cell? ad = some (.int .u8 90) := by
    have : ad.add 0 = ad := by simp [Addr.add]
    rw [this] at hcell
    rw [hcell]
    rw [List.getD_eq_getElem?_getD, List.getElem?_eq_getElem (by omega), Option.getD_some] at h0
    rw [h0]; rfl
  clear hr hcell h0 hl
  obtain ⟨X, hX⟩ : ∃ X, X = (l.drop 4).take 4 := ⟨_, rfl⟩
  obtain ⟨Y, hY⟩ : ∃ Y, Y = tail4 (crc (l.take 4)) := ⟨_, rfl⟩
  rw [← hX] at Hr2
  rw [← hX, ← hY] at h1
  have hne : (X == Y) = false := by simpa using h1
  have hne2 : (X != Y) = true := by simpa using h1
  have HY := Lib.hid hY
  have hcv := str_any (w := w.drew) (c := c - 4) Hr2.out
  clear hX hY h1
  have hc4 : (4 : Int) ≤ (c : Int) := by omega
  have hc8 : (8 : Int) ≤ (c : Int) := by omega
  have hcn4 : ¬ c = 4 := by omega
  go_enter Tryd.func28, Tryd.ntmps28
  go_upto_region 5 with fail
  go_cut [22] (fun s wx => s = .bool true ∧ Hid (Below w.heap.size w wx))
  case first =>
    go_region_with (go_at_call 46; refine (Tail_any (some ad) 4 c (l.take 4) w.heap.size _ (by exact Hr1.out) (by omega)).mono ?_; intro e w1 h1; obtain ⟨A3, c3, rfl, hr3, hb3⟩ := h1.to (m := 4) rfl; rw [← HY.out] at hr3; have hcv3 := str_any (c := c3) hr3; have hcv2 := str_any (c := c - 4) (Hr2.out.below (undrew hb3)); have Hb3 := Lib.hid (show Below w.heap.size w w1 from undrew hb3); clear hr3 hb3 h1)
    all_goals
      go_wp2_with fail
      go_meet
      exact ⟨rfl, Hb3⟩
  case rest =>
    obtain ⟨rfl, Hbc⟩ := hcut
    go_wp2_with fail
    exact bodyPost_ret (v := .tuple #[.int .i64 0, .slice none 0 0, .int .i64 0, .int .i64 20]) (by simp [results, Tryd.results28, go_sem]) rfl ⟨rfl, Hbc.out⟩

theorem belowDrewN {B : Nat} {a w : World} (h : Below B a w) (n : Nat) : Below B a (w.drewN n) := ⟨h.os, h.tape, h.output, h.size, h.block⟩
/-- what the document's Next tells of the bytes l -/
def RNextP (w : World) (B : Nat) (l : List UInt8) (e : Ending) (w' : World) : Prop := (nxE l = 0 → RYes w B l e w') ∧ (nxE l ≠ 0 → RNo w (nxE l) e w')
theorem RNextP.no {w : World} {B : Nat} {l : List UInt8} {x : Int} {e : Ending} {w' : World} (h : RNo w x e w') (hx : nxE l = x) (h0 : x ≠ 0) : RNextP w B l e w' := ⟨fun h1 => absurd (hx.symm.trans h1) h0, fun _ => hx ▸ h⟩

set_option maxRecDepth 10000 in
set_option maxHeartbeats 2000000 in
theorem rn_rest (ad : Addr) (n c : Nat) (b0 b1 b2 b3 : UInt8) (t l : List UInt8) (k : Nat) (w : World) (hle : l = b0 :: b1 :: b2 :: b3 :: t) (hk : k = 256 * b2.toNat + b3.toNat) (B : Nat) (hadB : ad.block < B) (hr : Rd w w.heap.size (some ad) n l) (h8 : 8 ≤ n) (hn : n ≤ 137438953400) (hc : n ≤ c) (hm : c ≤ 9223372036854775807)
    (h0 : b0 = 90) (h1 : tail4 (crc (l.take 4)) = (l.drop 4).take 4) :
    Calls Tryd.prog 28 #[.slice (some ad) n c] w (fun e w' => RNextP w B l e w') := by
  have hl := hr.1
  have Hr := Lib.hid hr
  have Hr1 := Lib.hid (hr.take (k := 4) (by omega))
  have Hr2 := Lib.hid (show Rd w w.heap.size (some ⟨ad.block, ad.off + 4, none⟩) 4 ((l.drop 4).take 4) from hr.sub 4 4 (by omega))
  have hk2 : k ≤ 65535 := by have := b2.toNat_lt; have := b3.toNat_lt; omega
  have Hk := Lib.hid hk
  have hcellf : ∀ j (x : UInt8), j < n → l[j]? = some x → w.cell? (ad.add j) = some (.int .u8 (x.toNat : Int)) := by
    intro j x hj hx
    obtain ⟨ad0, he, _, hcell⟩ := hr.cellAt (k := j) hj
    cases he
    rw [hcell]
    rw [List.getElem?_eq_getElem (by omega)] at hx
    rw [Option.some.inj hx]; rfl
  have hc0 : w.cell? ad = some (.int .u8 90) := by
    have h := hcellf 0 b0 (by omega) (by rw [hle]; rfl)
    rw [h0] at h
    exact h
  have Hc1 := Lib.hid (show w.cell? ⟨ad.block, ad.off + 1, none⟩ = some (.int .u8 (b1.toNat : Int)) from hcellf 1 b1 (by omega) (by rw [hle]; rfl))
  have Hc2 := Lib.hid (show w.cell? ⟨ad.block, ad.off + 2, none⟩ = some (.int .u8 (b2.toNat : Int)) from hcellf 2 b2 (by omega) (by rw [hle]; rfl))
  have Hc3 := Lib.hid (show w.cell? ⟨ad.block, ad.off + 3, none⟩ = some (.int .u8 (b3.toNat : Int)) from hcellf 3 b3 (by omega) (by rw [hle]; rfl))
  have hadw : ad.block < w.heap.size := World.block_lt_of_cell? w ad hc0
  have Hl := Lib.hid hl
  have hcnt : cntF l = k := by rw [hle, hk]; rfl
  have hb1 : (l.getD 1 0) = b1 := by rw [hle]; rfl
  have hnx := nx_after (l := l) (by omega) (by rw [hle]; exact h0) h1
  rw [hcnt, hl] at hnx
  have Hcnt := Lib.hid hcnt
  have Hb1k := Lib.hid hb1
  have Hnx := Lib.hid hnx
  have H1 := Lib.hid h1
  obtain ⟨X, hX⟩ : ∃ X, X = (l.drop 4).take 4 := ⟨_, rfl⟩
  have HX := Lib.hid hX
  rw [← hX] at Hr2
  have hcv := str_any (w := w.drew) (c := c - 4) Hr2.out
  have hb1l := b1.toNat_lt
  have hb2l := b2.toNat_lt
  have hb3l := b3.toNat_lt
  clear hr hcellf h1 h0 hl hle hk hcnt hb1 hnx hX
  have hc4 : (4 : Int) ≤ (c : Int) := by omega
  have hc8 : (8 : Int) ≤ (c : Int) := by omega
  have hcn4 : ¬ c = 4 := by omega
  have hcn8 : (8 : Int) ≤ (n : Int) := by omega
  go_enter Tryd.func28, Tryd.ntmps28
  go_upto_region 5 with fail
  go_cut [22] (fun s wx => s = .bool false ∧ Hid (Below w.heap.size w wx))
  case first =>
    go_region_with (go_at_call 46; refine (Tail_any (some ad) 4 c (l.take 4) w.heap.size _ (by exact Hr1.out) (by omega)).mono ?_; intro e w1 h1; obtain ⟨A3, c3, rfl, hr3, hb3⟩ := h1.to (m := 4) rfl; rw [H1.out, ← HX.out] at hr3; have hcv3 := str_any (c := c3) hr3; have hcv2 := str_any (c := c - 4) (Hr2.out.below (undrew hb3)); have Hb3 := Lib.hid (show Below w.heap.size w w1 from undrew hb3); clear hr3 hb3 h1)
    all_goals
      go_wp2_with fail
      go_meet
      exact ⟨rfl, Hb3⟩
  case rest =>
    obtain ⟨rfl, Hbc⟩ := hcut
    clear hcv
    go_upto_region 7 with fail
    have hc2 := (Hbc.out.cell (p := ⟨ad.block, ad.off + 2, none⟩) hadw).trans Hc2.out
    have hc3 := (Hbc.out.cell (p := ⟨ad.block, ad.off + 3, none⟩) hadw).trans Hc3.out
    go_cut [6] (fun s wx => s = .int .i64 k ∧ Hid (Below w.heap.size w wx))
    case first =>
      go_quiet (fail)
      go_wp2_with fail
      go_meet
      exact ⟨by rw [Hk.out]; go_num, belowDrewN Hbc.out _⟩
    case rest =>
      obtain ⟨rfl, Hbd⟩ := hcut
      clear hc2 hc3 Hbc
      have hc1 := (Hbd.out.cell (p := ⟨ad.block, ad.off + 1, none⟩) hadw).trans Hc1.out
      by_cases hk3 : 8192 < k
      · go_wp2_with fail
        exact bodyPost_ret (v := .tuple #[.int .i64 0, .slice none 0 0, .int .i64 0, .int .i64 11]) (by simp [results, Tryd.results28, go_sem]) rfl (RNextP.no ⟨rfl, Hbd.out⟩ (by rw [Hnx.out, if_pos hk3]) (by decide))
      · by_cases hs : n < k + 12
        · go_wp2_with fail
          exact bodyPost_ret (v := .tuple #[.int .i64 0, .slice none 0 0, .int .i64 0, .int .i64 10]) (by simp [results, Tryd.results28, go_sem]) rfl (RNextP.no ⟨rfl, Hbd.out⟩ (by rw [Hnx.out, if_neg hk3, if_pos (by omega)]) (by decide))
        · have hk8 : (8 : Int) + (k : Int) ≤ (c : Int) := by omega
          have hk12 : (12 : Int) + (k : Int) ≤ (c : Int) := by omega
          have hcn1 : ¬ c = 8 + k := by omega
          have hcn9 : ¬ c = 8 := by omega
          have hr5 : Rd w w.heap.size (some ⟨ad.block, ad.off + 8, none⟩) k ((l.drop 8).take k) := Hr.out.sub 8 k (by omega)
          have hr6 : Rd w w.heap.size (some (ad.add (8 + k))) (12 + k - (8 + k)) ((l.drop (8 + k)).take 4) := by
            have h := Hr.out.sub (8 + k) 4 (by omega)
            rwa [show 12 + k - (8 + k) = 4 by omega]
          have Hr5 := Lib.hid hr5
          have Hr5c := Lib.hid ((hr5.below Hbd.out).more Hbd.out.size)
          obtain ⟨X2, hX2⟩ : ∃ X, X = (l.drop (8 + k)).take 4 := ⟨_, rfl⟩
          obtain ⟨Tl, hTl⟩ : ∃ X, X = tail4 (crc ((l.drop 8).take k)) := ⟨_, rfl⟩
          rw [← hX2] at hr6
          have HX2 := Lib.hid hX2
          have HTl := Lib.hid hTl
          have Hr6 := Lib.hid hr6
          have Hr6c := Lib.hid ((hr6.below Hbd.out).more Hbd.out.size)
          clear hr5 hr6 hX2 hTl
          by_cases hd : Tl = X2
          · have HYX := Lib.hid hd
            skip
            have hcv := str_any (w := wc.drew) (c := c - (8 + k)) Hr6c.out
            clear hd
            have hz0 : 8 + k - 8 = k := by omega
            go_upto_region 13 with fail
            rw [hz0]
            clear hz0
            have hz1 : IntKind.i64.wrap ((8 : Int) + (k : Int)) = 8 + (k : Int) := IntWalk.i64_in _ (by omega)
            have hz2 : IntKind.i64.wrap ((12 : Int) + (k : Int)) = 12 + (k : Int) := IntWalk.i64_in _ (by omega)
            have hz3 : (0 : Int) ≤ 8 + (k : Int) := by omega
            have hz4 : (0 : Int) ≤ 12 + (k : Int) := by omega
            have hz5 : ((8 : Int) + (k : Int)).toNat = 8 + k := by omega
            have hz6 : ((12 : Int) + (k : Int)).toNat = 12 + k := by omega
            have hz7 : (8 : Int) + (k : Int) ≤ 12 + (k : Int) := by omega
            go_cut [54] (fun s wx => s = .bool false ∧ Hid (Below w.heap.size w wx))
            case first =>
              go_region_with (go_at_call 46; go_must (refine (Tail_any (some ⟨ad.block, ad.off + 8, none⟩) k (c - 8) ((l.drop 8).take k) wc.heap.size _ (by exact Hr5c.out) (by omega)).mono ?_; intro e w1 h1; obtain ⟨A3, c3, rfl, hr3, hb3⟩ := h1.to (m := 4) rfl; rw [← HTl.out, HYX.out] at hr3; have hcv3 := str_any (c := c3) hr3; have hcv2 := str_any (c := c - (8 + k)) ((Hr6.out.below Hbd.out).more Hbd.out.size |>.below (undrew hb3)); have Hb3 := Lib.hid (show Below w.heap.size w w1 from Hbd.out.trans (undrew (hb3.mono Hbd.out.size))); clear hr3 hb3 h1))
              all_goals
                go_wp2_with fail
                go_meet
                exact ⟨rfl, Hb3⟩
            case rest =>
              obtain ⟨rfl, Hbf⟩ := hcut
              have hc1 := (Hbf.out.cell (p := ⟨ad.block, ad.off + 1, none⟩) hadw).trans Hc1.out
              go_wp2_with fail
              have hz : nxE l = 0 := by rw [Hnx.out, if_neg hk3, if_neg hs, if_neg (fun e => e (by rw [← HX2.out, ← HTl.out, HYX.out]))]
              refine bodyPost_ret (v := .tuple #[.int .i64 (b1.toNat : Int), .slice (some ⟨ad.block, ad.off + 8, none⟩) k (c - 8), .int .i64 ((k : Int) + 12), .int .i64 0]) (by simp [results, Tryd.results28, go_sem]) rfl ⟨fun _ => ?_, fun h => absurd hz h⟩
              have h5 := (Hr5.out.below Hbf.out).narrow (B' := B) hadB
              exact ⟨_, _, k, Hcnt.out.symm, by rw [Hb1k.out], h5, Hbf.out, by omega, by omega⟩
          · have HYX := Lib.hid hd
            have hne : (X2 == Tl) = false := by simpa using fun e => HYX.out e.symm
            have hne2 : (X2 != Tl) = true := by simpa using fun e => HYX.out e.symm
            have hcv := str_any (w := wc.drew) (c := c - (8 + k)) Hr6c.out
            clear hd
            have hz0 : 8 + k - 8 = k := by omega
            go_upto_region 13 with fail
            rw [hz0]
            clear hz0
            have hz1 : IntKind.i64.wrap ((8 : Int) + (k : Int)) = 8 + (k : Int) := IntWalk.i64_in _ (by omega)
            have hz2 : IntKind.i64.wrap ((12 : Int) + (k : Int)) = 12 + (k : Int) := IntWalk.i64_in _ (by omega)
            have hz3 : (0 : Int) ≤ 8 + (k : Int) := by omega
            have hz4 : (0 : Int) ≤ 12 + (k : Int) := by omega
            have hz5 : ((8 : Int) + (k : Int)).toNat = 8 + k := by omega
            have hz6 : ((12 : Int) + (k : Int)).toNat = 12 + k := by omega
            have hz7 : (8 : Int) + (k : Int) ≤ 12 + (k : Int) := by omega
            go_cut [54] (fun s wx => s = .bool true ∧ Hid (Below w.heap.size w wx))
            case first =>
              go_region_with (go_at_call 46; go_must (refine (Tail_any (some ⟨ad.block, ad.off + 8, none⟩) k (c - 8) ((l.drop 8).take k) wc.heap.size _ (by exact Hr5c.out) (by omega)).mono ?_; intro e w1 h1; obtain ⟨A3, c3, rfl, hr3, hb3⟩ := h1.to (m := 4) rfl; rw [← HTl.out] at hr3; have hcv3 := str_any (c := c3) hr3; have hcv2 := str_any (c := c - (8 + k)) ((Hr6.out.below Hbd.out).more Hbd.out.size |>.below (undrew hb3)); have Hb3 := Lib.hid (show Below w.heap.size w w1 from Hbd.out.trans (undrew (hb3.mono Hbd.out.size))); clear hr3 hb3 h1))
              all_goals
                go_wp2_with fail
                go_meet
                exact ⟨rfl, Hb3⟩
            case rest =>
              obtain ⟨rfl, Hbf⟩ := hcut
              have hc1 := (Hbf.out.cell (p := ⟨ad.block, ad.off + 1, none⟩) hadw).trans Hc1.out
              go_wp2_with fail
              exact bodyPost_ret (v := .tuple #[.int .i64 0, .slice none 0 0, .int .i64 0, .int .i64 20]) (by simp [results, Tryd.results28, go_sem]) rfl (RNextP.no ⟨rfl, Hbf.out⟩ (by rw [Hnx.out, if_neg hk3, if_neg hs, if_pos (fun e => HYX.out (by rw [HTl.out, HX2.out, e]))]) (by decide))
end Go.Proofs.YtfabcmohaikfoaaDoor
