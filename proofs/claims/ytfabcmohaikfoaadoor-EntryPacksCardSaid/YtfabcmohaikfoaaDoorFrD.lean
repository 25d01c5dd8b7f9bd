/- Contracts: the first frame of some bytes (the program's cut). -/
import Derived.Test.YtfabcmohaikfoaaDoorFrC
import Derived.Test.YtfabcmohaikfoaaDoorWireE
namespace Go.Proofs.YtfabcmohaikfoaaDoor
open Go.RowKit

/-- 's[j:k]' -/
theorem Rd.sub {w : World} {B n : Nat} {ad : Addr} {l : List UInt8} (h : Rd w B (some ad) n l) (j k : Nat) (hjk : j + k ≤ n) : Rd w B (some (ad.add j)) k ((l.drop j).take k) := by
  have hl := h.1
  refine ⟨by rw [List.length_take, List.length_drop]; omega, fun hk => ?_⟩
  obtain ⟨ad', he, hb, hc⟩ := h.2 (by omega)
  cases he
  refine ⟨_, rfl, by rw [addB]; exact hb, fun i hi => ?_⟩
  rw [List.length_take, List.length_drop] at hi
  rw [addadd, List.getElem_take, List.getElem_drop]
  exact hc _ _
set_option maxRecDepth 10000 in
theorem rnum1 (g : Nat) (b1 b2 b3 : UInt8) (w : World) (h : Rdr w g [b1, b2, b3] 0) :
    Calls Tryd.prog 42 #[.pointer (some ⟨g, 0, none⟩), .int .i64 1] w fun x w' => x = .returned (.int .i64 (b1.toNat : Int)) ∧ Rdr w' g [b2, b3] 0 ∧ w.grownBy w' (some g) :=
  (RNum_ok g _ 1 w h (show (1 : Nat) ≤ 3 by decide)).mono fun e w' h => by
    have h1 : fitW 1 = 1 := by decide
    rw [h1] at h
    simpa [decB] using h
set_option maxRecDepth 10000 in
theorem rnum2 (g : Nat) (b2 b3 : UInt8) (w : World) (h : Rdr w g [b2, b3] 0) :
    Calls Tryd.prog 42 #[.pointer (some ⟨g, 0, none⟩), .int .i64 2] w fun x w' => x = .returned (.int .i64 ((256 * b2.toNat + b3.toNat : Nat) : Int)) ∧ w.grownBy w' (some g) :=
  (RNum_ok g _ 2 w h (show (2 : Nat) ≤ 2 by decide)).mono fun e w' h => by
    have h1 : fitW 2 = 2 := by decide
    rw [h1] at h
    refine ⟨h.1.trans ?_, h.2.2⟩
    have e : decB (List.take 2 [b2, b3]) = 256 * b2.toNat + b3.toNat := by simp [decB]; omega
    rw [e]

theorem undrew {B : Nat} {w w' : World} (h : Below B w.drew w') : Below B w w' := (Below.refl B w).drew.trans h

theorem undrewN {B q : Nat} {w w' : World} (h : Below B (w.drewN q) w') : Below B w w' := ⟨h.os, h.tape, h.output, h.size, h.block⟩
theorem Rd.from {w : World} {B n : Nat} {ad : Addr} {l : List UInt8} (h : Rd w B (some ad) n l) (j : Nat) (hj : j ≤ n) : Rd w B (some (ad.add j)) (n - j) (l.drop j) := by
  have h2 := h.sub j (n - j) (by omega)
  rwa [List.take_of_length_le (by rw [List.length_drop, h.1]; exact Nat.le_refl _)] at h2
theorem Rd.narrow {w : World} {B B' n : Nat} {ad : Addr} {l : List UInt8} (h : Rd w B (some ad) n l) (hb : ad.block < B') : Rd w B' (some ad) n l := by
  refine ⟨h.1, fun hn => ?_⟩
  obtain ⟨a, he, _, hc⟩ := h.2 hn
  cases he
  exact ⟨ad, rfl, hb, hc⟩
theorem nx_after {l : List UInt8} (h8 : 8 ≤ l.length) (h0 : l.getD 0 0 = 90) (h1 : tail4 (crc (l.take 4)) = (l.drop 4).take 4) :
    nxE l = if 8192 < cntF l then 11 else if l.length < cntF l + 12 then 10 else if (l.drop (8 + cntF l)).take 4 ≠ tail4 (crc ((l.drop 8).take (cntF l))) then 20 else 0 := by
  unfold nxE
  rw [if_neg (by omega), if_neg (by simp only [h0, ne_eq, not_true_eq_false, not_false_eq_true]), if_neg (by simp only [h1, ne_eq, not_true_eq_false, not_false_eq_true])]

/-- cut refuses with the error x -/
def No4 (w : World) (x : Int) (e : Ending) (w' : World) : Prop := e = .returned (.tuple #[.int .i64 0, .slice none 0 0, .slice none 0 0, .int .i64 x]) ∧ Below w.heap.size w w'

set_option maxRecDepth 10000 in
set_option maxHeartbeats 1000000 in
theorem cut_no1 (A : Option Addr) (n c : Nat) (w : World) (h8 : n < 8) :
    Calls Tryd.prog 40 #[.slice A n c] w (No4 w 10) := by
  go_enter Tryd.func40, Tryd.ntmps40
  go_wp2_with fail
  exact bodyPost_ret (v := .tuple #[.int .i64 0, .slice none 0 0, .slice none 0 0, .int .i64 10]) (by simp [results, Tryd.results40, go_sem]) rfl ⟨rfl, Below.refl _ _⟩

set_option maxRecDepth 10000 in
set_option maxHeartbeats 1000000 in
theorem cut_no2 (A : Option Addr) (n c : Nat) (l : List UInt8) (B : Nat) (w : World) (hr : Rd w B A n l) (h8 : 8 ≤ n) (h0 : l.getD 0 0 ≠ 90) :
    Calls Tryd.prog 40 #[.slice A n c] w (No4 w 11) := by
  obtain ⟨ad, rfl, _, hcell⟩ := hr.cellAt (k := 0) (by omega)
  have hl := hr.1
  have h1 : ((l[0]'(by omega)).toNat : Int) ≠ 90 := by
    intro h
    apply h0
    rw [List.getD_eq_getElem?_getD, List.getElem?_eq_getElem (by omega), Option.getD_some, ← UInt8.toNat_inj]
    simp; omega
  obtain ⟨x, hx⟩ : ∃ x : Int, x = ((l[0]'(by omega)).toNat : Int) := ⟨_, rfl⟩
  have hc0 : w.cell? ad = some (.int .u8 x) := by
    have : ad.add 0 = ad := by simp [Addr.add]
    rw [this] at hcell; rw [hcell, hx]; rfl
  rw [← hx] at h1
  have hne : (x != 90) = true := by simpa using h1
  clear hcell hx h1 hr hl
  go_enter Tryd.func40, Tryd.ntmps40
  go_wp2_with fail
  exact bodyPost_ret (v := .tuple #[.int .i64 0, .slice none 0 0, .slice none 0 0, .int .i64 11]) (by simp [results, Tryd.results40, go_sem]) rfl ⟨rfl, Below.refl _ _⟩

set_option maxRecDepth 10000 in
set_option maxHeartbeats 300000 in
theorem cut_no3 (ad : Addr) (n c : Nat) (l : List UInt8) (w : World) (hr : Rd w w.heap.size (some ad) n l) (h8 : 8 ≤ n) (hc : n ≤ c) (hm : c ≤ 9223372036854775807) (ht : Tb w) (h0 : l.getD 0 0 = 90) (h1 : (l.drop 4).take 4 ≠ tail4 (crc (l.take 4))) :
    Calls Tryd.prog 40 #[.slice (some ad) n c] w (No4 w 20) := by
  have hl := hr.1
  have hcell := hr.sub 0 1 (by omega)
  have Hr1 := Lib.hid (hr.take (k := 4) (by omega))
  have Hr2 := Lib.hid (hr.sub 4 4 (by omega))
  have Ht := Lib.hid ht
  have hb : decide (tail4 (crc (l.take 4)) = (l.drop 4).take 4) = false := decide_eq_false (fun h => h1 h.symm)
  have Hb := Lib.hid hb
  obtain ⟨ad0, he, _, hcell⟩ := hr.cellAt (k := 0) (by omega)
  cases he
  have hc0 : w.cell? ad = some (.int .u8 90) := by
    have : ad.add 0 = ad := by simp [Addr.add]
    rw [this] at hcell
    rw [hcell]
    rw [List.getD_eq_getElem?_getD, List.getElem?_eq_getElem (by omega), Option.getD_some] at h0
    rw [h0]; rfl
  clear hr hcell ht h1 h0 hb hl
  have hc4 : (4 : Int) ≤ (c : Int) := by omega
  have hc8 : (8 : Int) ≤ (c : Int) := by omega
  have hcn4 : ¬ c = 4 := by omega
  go_enter Tryd.func40, Tryd.ntmps40
  go_wp2_with fail
  go_region_held3 (fun w' => True) (go_keep) (first | (go_at_call 57; refine (hasSum_any _ _ 4 _ 4 _ (l.take 4) ((l.drop 4).take 4) _ (by exact Hr1.out) (by exact Hr2.out) (by omega) (by exact Ht.out)).mono ?_; rintro e w1 ⟨rfl, hb1⟩; rw [Hb.out]))
  go_wp2_with fail
  exact bodyPost_ret (v := .tuple #[.int .i64 0, .slice none 0 0, .slice none 0 0, .int .i64 20]) (by simp [results, Tryd.results40, go_sem]) rfl ⟨rfl, undrew hb1⟩

/-- cut finds a frame -/
def Yes4 (w : World) (B : Nat) (l : List UInt8) (e : Ending) (w' : World) : Prop :=
  ∃ A1 c1 A2 c2, e = .returned (.tuple #[.int .i64 ((l.getD 1 0).toNat : Int), .slice A1 (cntF l) c1, .slice A2 (l.length - (cntF l + 12)) c2, .int .i64 0]) ∧
    Rd w' B A1 (cntF l) ((l.drop 8).take (cntF l)) ∧ Rd w' B A2 (l.length - (cntF l + 12)) (l.drop (cntF l + 12)) ∧ l.length - (cntF l + 12) ≤ c2 ∧ c2 ≤ 9223372036854775807 ∧ Below w.heap.size w w'

/-- what cut tells of the bytes l -/
def CutP (w : World) (B : Nat) (l : List UInt8) (e : Ending) (w' : World) : Prop := (nxE l = 0 → Yes4 w B l e w') ∧ (nxE l ≠ 0 → No4 w (nxE l) e w')
theorem CutP.no {w : World} {B : Nat} {l : List UInt8} {x : Int} {e : Ending} {w' : World} (h : No4 w x e w') (hx : nxE l = x) (h0 : x ≠ 0) : CutP w B l e w' := ⟨fun h1 => absurd (hx.symm.trans h1) h0, fun _ => hx ▸ h⟩

set_option maxRecDepth 10000 in
set_option maxHeartbeats 1000000 in
theorem cut_rest (ad : Addr) (n c : Nat) (b0 b1 b2 b3 : UInt8) (t l : List UInt8) (k : Nat) (w : World) (hle : l = b0 :: b1 :: b2 :: b3 :: t) (hk : k = 256 * b2.toNat + b3.toNat) (B : Nat) (hadB : ad.block < B) (hr : Rd w w.heap.size (some ad) n l) (h8 : 8 ≤ n) (hn : n ≤ 137438953400) (hc : n ≤ c) (hm : c ≤ 9223372036854775807) (ht : Tb w)
    (h0 : b0 = 90) (h1 : tail4 (crc (l.take 4)) = (l.drop 4).take 4) :
    Calls Tryd.prog 40 #[.slice (some ad) n c] w (fun e w' => CutP w B l e w') := by
  have hl := hr.1
  have Hr := Lib.hid hr
  have Hr1 := Lib.hid (hr.take (k := 4) (by omega))
  have Hr2 := Lib.hid (hr.sub 4 4 (by omega))
  have hr3 : Rd w w.heap.size (some (ad.add 1)) 3 [b1, b2, b3] := by
    have h := hr.sub 1 3 (by omega)
    rw [hle] at h
    exact h
  have Hr3 := Lib.hid hr3
  have Ht := Lib.hid ht
  have Hb := Lib.hid (decide_eq_true h1)
  have hk2 : k ≤ 65535 := by have := b2.toNat_lt; have := b3.toNat_lt; omega
  have Hk := Lib.hid hk
  obtain ⟨ad0, he, _, hcell⟩ := hr.cellAt (k := 0) (by omega)
  cases he
  have hc0 : w.cell? ad = some (.int .u8 90) := by
    have : ad.add 0 = ad := by simp [Addr.add]
    rw [this] at hcell
    rw [hcell]
    subst hle
    subst h0
    rfl
  have Hl := Lib.hid hl
  have hcnt : cntF l = k := by rw [hle, hk]; rfl
  have hb1 : (l.getD 1 0) = b1 := by rw [hle]; rfl
  have hnx := nx_after (l := l) (by omega) (by rw [hle]; exact h0) h1
  rw [hcnt, hl] at hnx
  have Hcnt := Lib.hid hcnt
  have Hb1k := Lib.hid hb1
  have Hnx := Lib.hid hnx
  clear hr hr3 hcell ht h1 h0 hl hle hk hcnt hb1 hnx
  have hc4 : (4 : Int) ≤ (c : Int) := by omega
  have hc8 : (8 : Int) ≤ (c : Int) := by omega
  have hcn4 : ¬ c = 4 := by omega
  have hcn1 : ¬ c = 1 := by omega
  go_enter Tryd.func40, Tryd.ntmps40
  go_wp2_with fail
  go_region_held3 (fun w' => True) (go_keep) (first | (go_at_call 57; refine (hasSum_any _ _ 4 _ 4 _ (l.take 4) ((l.drop 4).take 4) _ (by exact Hr1.out) (by exact Hr2.out) (by omega) (by exact Ht.out)).mono ?_; rintro e w1 ⟨rfl, hb1⟩; rw [Hb.out]))
  have Hb1 := Lib.hid (show Below w.heap.size w w1 from undrew hb1)
  clear hb1
  go_wp2_with fail
  refine (Read_any _ 3 _ [b1, b2, b3] _ ((Hr3.out.below Hb1.out).more Hb1.out.size) (by omega)).mono ?_
  rintro e w2 ⟨g, rfl, hR2, hg2, hb2⟩
  have Hb2 := Lib.hid (Hb1.out.trans (hb2.mono Hb1.out.size))
  have Hg := Lib.hid (Nat.le_trans Hb1.out.size hg2)
  have HR2 := Lib.hid hR2
  clear hR2 hg2 hb2
  go_wp2_with fail
  refine (rnum1 g b1 b2 b3 _ HR2.out).mono ?_
  rintro e w3 ⟨rfl, hR3, hg3⟩
  have Hb3 := Lib.hid (Hb2.out.grown hg3 Hb2.out.size (fun q hq => by injection hq with hq; have := Hg.out; omega))
  have HR3 := Lib.hid hR3
  clear hR3 hg3
  go_wp2_with fail
  refine (rnum2 g b2 b3 _ HR3.out).mono ?_
  rintro e w4 ⟨rfl, hg4⟩
  have Hb4 := Lib.hid (Hb3.out.grown hg4 Hb3.out.size (fun q hq => by injection hq with hq; have := Hg.out; omega))
  clear hg4
  rw [← Hk.out]
  by_cases hk3 : 8192 < k
  · go_wp2_with fail
    exact bodyPost_ret (v := .tuple #[.int .i64 0, .slice none 0 0, .slice none 0 0, .int .i64 11]) (by simp [results, Tryd.results40, go_sem]) rfl (CutP.no ⟨rfl, Hb4.out⟩ (by rw [Hnx.out, if_pos hk3]) (by decide))
  · by_cases hcn8 : c = 8
    · have hs : (n : Int) - 8 < (k : Int) + 4 := by omega
      go_wp2_with fail
      exact bodyPost_ret (v := .tuple #[.int .i64 0, .slice none 0 0, .slice none 0 0, .int .i64 10]) (by simp [results, Tryd.results40, go_sem]) rfl (CutP.no ⟨rfl, Hb4.out⟩ (by rw [Hnx.out, if_neg hk3, if_pos (by omega)]) (by decide))
    · by_cases hs : n < k + 12
      · go_wp2_with fail
        exact bodyPost_ret (v := .tuple #[.int .i64 0, .slice none 0 0, .slice none 0 0, .int .i64 10]) (by simp [results, Tryd.results40, go_sem]) rfl (CutP.no ⟨rfl, Hb4.out⟩ (by rw [Hnx.out, if_neg hk3, if_pos (by omega)]) (by decide))
      · have hk8 : (k : Int) ≤ ((c - 8 : Nat) : Int) := by omega
        have hk84 : (k : Int) + 4 ≤ ((n - 8 : Nat) : Int) := by omega
        have hk9 : (k : Int) + 4 ≤ ((c - 8 : Nat) : Int) := by omega
        have hcn : ¬ c - 8 = k := by omega
        have hr5 : Rd w w.heap.size (some ⟨ad.block, ad.off + 8, none⟩) k ((l.drop 8).take k) := Hr.out.sub 8 k (by omega)
        have hr6 : Rd w w.heap.size (some ⟨ad.block, ad.off + 8 + k, none⟩) 4 ((l.drop (8 + k)).take 4) := by
          have h := Hr.out.sub (8 + k) 4 (by omega)
          have e : ad.add (8 + k) = ⟨ad.block, ad.off + 8 + k, none⟩ := by unfold Addr.add; rw [if_neg (by omega), Nat.add_assoc]
          rwa [e] at h
        have Hr5 := Lib.hid hr5
        have Hr6 := Lib.hid hr6
        clear hr5 hr6
        go_wp2_with fail
        by_cases hcc : c - 8 = k + 4
        · have hcs : c = k + 12 := by omega
          have hr7 : Rd w w.heap.size (some ⟨ad.block, ad.off + 8, none⟩) (n - 8 - (k + 4)) (l.drop (k + 12)) := by
            exact ⟨by rw [List.length_drop, Hl.out]; omega, fun h => by omega⟩
          have Hr7 := Lib.hid hr7
          clear hr7
          by_cases hd : tail4 (crc ((l.drop 8).take k)) = (l.drop (8 + k)).take 4
          · have Hdec := Lib.hid (decide_eq_true hd)
            have Hd := Lib.hid hd
            clear hd
            go_quiet (fail)
            go_wp2_with fail
            refine (hasSum_any _ _ k _ 4 _ ((l.drop 8).take k) ((l.drop (8 + k)).take 4) _ (by exact (Hr5.out.below Hb4.out).more Hb4.out.size) (by exact (Hr6.out.below Hb4.out).more Hb4.out.size) (by omega) (by have h := Ht.out.below Hb4.out Ht.out.size; exact h)).mono ?_
            rintro e w6 ⟨rfl, hb6⟩
            rw [Hdec.out]
            go_wp2_with fail
            have hb7 : Below w.heap.size w w6 := Hb4.out.trans (undrewN (hb6.mono Hb4.out.size))
            have hz : nxE l = 0 := by rw [Hnx.out, if_neg hk3, if_neg hs, if_neg (fun e => e Hd.out.symm)]
            refine bodyPost_ret (v := .tuple #[.int .i64 (b1.toNat : Int), .slice (some ⟨ad.block, ad.off + 8, none⟩) k (k + 4), .slice (some ⟨ad.block, ad.off + 8, none⟩) (n - 8 - (k + 4)) (k + 4 - (k + 4)), .int .i64 0]) (by simp [results, Tryd.results40, go_sem]) rfl ⟨fun _ => ?_, fun h => absurd hz h⟩
            have e1 : n - 8 - (k + 4) = l.length - (cntF l + 12) := by rw [Hl.out, Hcnt.out]; omega
            have h7 := (Hr7.out.below hb7).narrow (B' := B) hadB
            have h5 := (Hr5.out.below hb7).narrow (B' := B) hadB
            have e3 : k + 12 = cntF l + 12 := by rw [Hcnt.out]
            have e4 : k = cntF l := Hcnt.out.symm
            refine ⟨some ⟨ad.block, ad.off + 8, none⟩, (k + 4), some ⟨ad.block, ad.off + 8, none⟩, (k + 4 - (k + 4)), ?_, ?_, ?_, ?_, ?_, hb7⟩
            · rw [Hb1k.out, ← e1, ← e4]
            · rw [e4] at h5; exact h5
            · rw [e1, e3] at h7; exact h7
            · rw [← e1]; omega
            · omega
          · have Hdec := Lib.hid (decide_eq_false hd)
            have Hd := Lib.hid hd
            clear hd
            go_quiet (fail)
            go_wp2_with fail
            refine (hasSum_any _ _ k _ 4 _ ((l.drop 8).take k) ((l.drop (8 + k)).take 4) _ (by exact (Hr5.out.below Hb4.out).more Hb4.out.size) (by exact (Hr6.out.below Hb4.out).more Hb4.out.size) (by omega) (by have h := Ht.out.below Hb4.out Ht.out.size; exact h)).mono ?_
            rintro e w6 ⟨rfl, hb6⟩
            rw [Hdec.out]
            go_wp2_with fail
            exact bodyPost_ret (v := .tuple #[.int .i64 0, .slice none 0 0, .slice none 0 0, .int .i64 20]) (by simp [results, Tryd.results40, go_sem]) rfl (CutP.no ⟨rfl, Hb4.out.trans (undrewN (hb6.mono Hb4.out.size))⟩ (by rw [Hnx.out, if_neg hk3, if_neg hs, if_pos (fun e => Hd.out e.symm)]) (by decide))
        · skip
          have hr7 : Rd w w.heap.size (some ⟨ad.block, ad.off + 8 + (k + 4), none⟩) (n - 8 - (k + 4)) (l.drop (k + 12)) := by
            have h := Hr.out.from (k + 12) (by omega)
            have e : ad.add (k + 12) = ⟨ad.block, ad.off + 8 + (k + 4), none⟩ := by unfold Addr.add; rw [if_neg (by omega)]; congr 1; omega
            rw [e, show n - (k + 12) = n - 8 - (k + 4) by omega] at h
            exact h
          have Hr7 := Lib.hid hr7
          clear hr7
          by_cases hd : tail4 (crc ((l.drop 8).take k)) = (l.drop (8 + k)).take 4
          · have Hdec := Lib.hid (decide_eq_true hd)
            have Hd := Lib.hid hd
            clear hd
            go_quiet (fail)
            go_wp2_with fail
            refine (hasSum_any _ _ k _ 4 _ ((l.drop 8).take k) ((l.drop (8 + k)).take 4) _ (by exact (Hr5.out.below Hb4.out).more Hb4.out.size) (by exact (Hr6.out.below Hb4.out).more Hb4.out.size) (by omega) (by have h := Ht.out.below Hb4.out Ht.out.size; exact h)).mono ?_
            rintro e w6 ⟨rfl, hb6⟩
            rw [Hdec.out]
            go_wp2_with fail
            have hb7 : Below w.heap.size w w6 := Hb4.out.trans (undrewN (hb6.mono Hb4.out.size))
            have hz : nxE l = 0 := by rw [Hnx.out, if_neg hk3, if_neg hs, if_neg (fun e => e Hd.out.symm)]
            refine bodyPost_ret (v := .tuple #[.int .i64 (b1.toNat : Int), .slice (some ⟨ad.block, ad.off + 8, none⟩) k (c - 8), .slice (some ⟨ad.block, ad.off + 8 + (k + 4), none⟩) (n - 8 - (k + 4)) (c - 8 - (k + 4)), .int .i64 0]) (by simp [results, Tryd.results40, go_sem]) rfl ⟨fun _ => ?_, fun h => absurd hz h⟩
            have e1 : n - 8 - (k + 4) = l.length - (cntF l + 12) := by rw [Hl.out, Hcnt.out]; omega
            have h7 := (Hr7.out.below hb7).narrow (B' := B) hadB
            have h5 := (Hr5.out.below hb7).narrow (B' := B) hadB
            have e3 : k + 12 = cntF l + 12 := by rw [Hcnt.out]
            have e4 : k = cntF l := Hcnt.out.symm
            refine ⟨some ⟨ad.block, ad.off + 8, none⟩, (c - 8), some ⟨ad.block, ad.off + 8 + (k + 4), none⟩, (c - 8 - (k + 4)), ?_, ?_, ?_, ?_, ?_, hb7⟩
            · rw [Hb1k.out, ← e1, ← e4]
            · rw [e4] at h5; exact h5
            · rw [e1, e3] at h7; exact h7
            · rw [← e1]; omega
            · omega
          · have Hdec := Lib.hid (decide_eq_false hd)
            have Hd := Lib.hid hd
            clear hd
            go_quiet (fail)
            go_wp2_with fail
            refine (hasSum_any _ _ k _ 4 _ ((l.drop 8).take k) ((l.drop (8 + k)).take 4) _ (by exact (Hr5.out.below Hb4.out).more Hb4.out.size) (by exact (Hr6.out.below Hb4.out).more Hb4.out.size) (by omega) (by have h := Ht.out.below Hb4.out Ht.out.size; exact h)).mono ?_
            rintro e w6 ⟨rfl, hb6⟩
            rw [Hdec.out]
            go_wp2_with fail
            exact bodyPost_ret (v := .tuple #[.int .i64 0, .slice none 0 0, .slice none 0 0, .int .i64 20]) (by simp [results, Tryd.results40, go_sem]) rfl (CutP.no ⟨rfl, Hb4.out.trans (undrewN (hb6.mono Hb4.out.size))⟩ (by rw [Hnx.out, if_neg hk3, if_neg hs, if_pos (fun e => Hd.out e.symm)]) (by decide))

set_option maxRecDepth 10000 in
/-- cut of any bytes -/
theorem cut_any (A : Option Addr) (n c : Nat) (l : List UInt8) (B : Nat) (w : World) (hr : Rd w B A n l) (hB : B ≤ w.heap.size) (hn : n ≤ 137438953400) (hc : n ≤ c) (hm : c ≤ 9223372036854775807) (ht : Tb w) :
    Calls Tryd.prog 40 #[.slice A n c] w (CutP w B l) := by
  have hl := hr.1
  by_cases h8 : n < 8
  · exact (cut_no1 A n c w h8).mono fun e w' h => CutP.no h (nx_short (by omega)) (by decide)
  · by_cases h0 : l.getD 0 0 = 90
    · obtain ⟨ad, rfl, hadB, _⟩ := hr.cellAt (k := 0) (by omega)
      by_cases h1 : tail4 (crc (l.take 4)) = (l.drop 4).take 4
      · match l, hl, h0, h1, hr with
        | b0 :: b1 :: b2 :: b3 :: t, hl, h0, h1, hr => exact cut_rest ad n c b0 b1 b2 b3 t _ _ w rfl rfl B hadB (hr.more hB) (by omega) hn hc hm ht h0 h1
        | [_, _, _], hl, _, _, _ => simp at hl; omega
        | [_, _], hl, _, _, _ => simp at hl; omega
        | [_], hl, _, _, _ => simp at hl; omega
        | [], hl, _, _, _ => simp at hl; omega
      · have hnx : nxE l = 20 := by
          unfold nxE
          rw [if_neg (by omega), if_neg (by simp only [h0, ne_eq, not_true_eq_false, not_false_eq_true]), if_pos (fun e => h1 e.symm)]
        exact (cut_no3 ad n c l w (hr.more hB) (by omega) hc hm ht h0 (fun e => h1 e.symm)).mono fun e w' h => CutP.no h hnx (by decide)
    · have hnx : nxE l = 11 := by
        unfold nxE
        rw [if_neg (by omega), if_pos h0]
      exact (cut_no2 A n c l B w hr (by omega) h0).mono fun e w' h => CutP.no h hnx (by decide)
end Go.Proofs.YtfabcmohaikfoaaDoor
