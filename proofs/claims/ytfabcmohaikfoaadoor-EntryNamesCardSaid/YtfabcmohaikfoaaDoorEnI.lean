/- Package entry: Unpack. Written by wip/genu7.py. -/
import Derived.Test.YtfabcmohaikfoaaDoorEnH
namespace Go.Proofs.YtfabcmohaikfoaaDoor
open Go.RowKit

/-- what Unpack tells -/
def UnP7 (w : World) (b : List UInt8) (r : Ending) (w' : World) : Prop :=
  ∃ A c, r = .returned (.tuple #[eV (un7 b).s (un7 b).o (un7 b).k (un7 b).f (un7 b).l (un7 b).p A (un7 b).d.length c, .int .i64 (unE7 b)]) ∧ Hid (Rd w' w'.heap.size A (un7 b).d.length (un7 b).d) ∧ (un7 b).d.length ≤ c ∧ c ≤ 9223372036854775807 ∧ Hid (Below w.heap.size w w')
theorem UnP7.no {w w' : World} {b : List UInt8} {E : Int} (h : unE7 b = E) (h0 : E ≠ 0) (hb : Hid (Below w.heap.size w w')) : UnP7 w b (.returned (.tuple #[eV 0 0 0 0 0 0 none 0 0, .int .i64 E])) w' := by
  unfold UnP7
  rw [un_no (by rw [h]; exact h0), h]
  exact ⟨none, 0, rfl, Rd.nil, Nat.le_refl _, Nat.zero_le _, hb⟩
theorem un_next {b : List UInt8} (h : nxE b ≠ 0) : unE7 b = nxE b := by unfold unE7; rw [if_pos h]
theorem un_rest {b : List UInt8} (h : nxE b = 0) (h2 : b.length ≠ cntF b + 12) : unE7 b = 11 := by unfold unE7; rw [if_neg (by rw [h]; simp), if_pos h2]
theorem un_body {b : List UInt8} (h : nxE b = 0) (h2 : b.length = cntF b + 12) (h3 : ebE7 (bodyF b) ≠ 0) : unE7 b = ebE7 (bodyF b) := by unfold unE7; rw [if_neg (by rw [h]; simp), if_neg (by rw [h2]; simp), if_pos h3]
theorem un_may {b : List UInt8} (h : nxE b = 0) (h2 : b.length = cntF b + 12) (h3 : ebE7 (bodyF b) = 0) : unE7 b = if May7 (ofB7 (kindF b) (bodyF b)) ∧ cln7 (ofB7 (kindF b) (bodyF b)) = ofB7 (kindF b) (bodyF b) then 0 else 70 := by unfold unE7; rw [if_neg (by rw [h]; simp), if_neg (by rw [h2]; simp), if_neg (by rw [h3]; simp)]
theorem cln_iff (e : En) : cln7 e = e ↔ (e.f = (cln7 e).f ∧ e.l = (cln7 e).l ∧ e.p = (cln7 e).p ∧ e.d = (cln7 e).d) :=
  ⟨fun h => by rw [h]; exact ⟨rfl, rfl, rfl, rfl⟩, fun ⟨h1, h2, h3, h4⟩ => En.ext_of rfl rfl rfl h1.symm h2.symm h3.symm h4.symm⟩
theorem UnP7.yes {w w' : World} {b : List UInt8} {X : En} {A : Option Addr} {c : Nat} (hX : ofB7 (kindF b) (bodyF b) = X) (h : unE7 b = 0) (hr : Hid (Rd w' w'.heap.size A X.d.length X.d)) (hc : X.d.length ≤ c) (hm : c ≤ 9223372036854775807) (hb : Hid (Below w.heap.size w w')) :
    UnP7 w b (.returned (.tuple #[eV X.s X.o X.k X.f X.l X.p A X.d.length c, .int .i64 0])) w' := by
  have e : un7 b = X := by unfold un7; rw [if_pos h, hX]
  unfold UnP7
  rw [e, h]
  exact ⟨A, c, rfl, hr, hc, hm, hb⟩

set_option maxRecDepth 10000 in
set_option maxHeartbeats 4000000 in
theorem Unpack7_no (A : Option Addr) (n c : Nat) (b : List UInt8) (w : World) (hr : Rd w w.heap.size A n b) (hn : n ≤ 100000) (hc : n ≤ c) (hm : c ≤ 9223372036854775807) (ht : T7 w) (hx : nxE b ≠ 0) :
    Calls Tryd.prog 15 #[.slice A n c] w (UnP7 w b) := by
  obtain ⟨E, hE⟩ : ∃ E, E = nxE b := ⟨_, rfl⟩
  have hE0 : ¬ E = 0 := by rw [hE]; exact hx
  have hE1 : (E != 0) = true := by simpa using hE0
  have HN0 := Lib.hid (fun (w1 : World) (h1 : Rd w1 w1.heap.size A n b) (h2 : Tb w1) => Next_no A n c b w1 h1 (by omega) hc hm h2 hx)
  have HE := Lib.hid (show unE7 b = E by rw [un_next hx, hE])
  rw [← hE] at HN0
  have Hr := Lib.hid hr
  have Ht := Lib.hid ht
  clear hr ht hE hx
  go_enter Tryd.func15, Tryd.ntmps15
  go_upto_region 1 with fail
  have HZ := Lib.hid (heap_alloc_new w (.cells #[.int .i64 0, .int .i64 0, .int .i64 0, .int .i64 0, .int .i64 0, .int .i64 0, .slice none 0 0] 24))
  have HB := al7 w (.cells #[.int .i64 0, .int .i64 0, .int .i64 0, .int .i64 0, .int .i64 0, .int .i64 0, .slice none 0 0] 24)
  replace Hr := Lib.hid ((Hr.out.below HB.out).more HB.out.size)
  generalize w.alloc (.cells #[.int .i64 0, .int .i64 0, .int .i64 0, .int .i64 0, .int .i64 0, .int .i64 0, .slice none 0 0] 24) = w1 at HZ HB Hr ⊢
  obtain ⟨Z, hZ⟩ : ∃ Z, Z = w.heap.size := ⟨_, rfl⟩
  have HZ0 := Lib.hid (show w.heap.size ≤ Z by omega)
  rw [← hZ] at HZ ⊢
  clear hZ
  have HN := Lib.hid (HN0.out w1 Hr.out (Ht.out.to HB.out).1)
  go_wp2_with fail
  refine HN.out.mono ?_
  rintro r w2 ⟨rfl, hb⟩
  have Hbx := Lib.hid hb
  replace HZ := Lib.hid ((hb.block Z (lt_of_block HZ.out)).trans HZ.out)
  replace HB := bel7 HB Hbx
  clear hb Hbx HN HN0 Hr
  obtain ⟨z0, z1, z2, z3, z4, z5, z6⟩ := ents_of HZ.out
  have y0 := free_blk HZ.out 0
  have y1 := free_blk HZ.out 1
  have y2 := free_blk HZ.out 2
  have y3 := free_blk HZ.out 3
  have y4 := free_blk HZ.out 4
  have y5 := free_blk HZ.out 5
  have y6 := free_blk HZ.out 6
  go_wp2_with fail
  have P9 := Lib.hid (put7_blk HZ.out (.int .i64 0) (.int .i64 0) (.int .i64 0) (.int .i64 0) (.int .i64 0) (.int .i64 0) (.slice none 0 0))
  have B9 := Lib.hid (put7_below (w := w2) (B := w.heap.size) HZ0.out (.int .i64 0) (.int .i64 0) (.int .i64 0) (.int .i64 0) (.int .i64 0) (.int .i64 0) (.slice none 0 0))
  have HB9 := Lib.hid (HB.out.trans B9.out)
  change bodyPost _ _ _ _ _ (put7 w2 Z (.int .i64 0) (.int .i64 0) (.int .i64 0) (.int .i64 0) (.int .i64 0) (.int .i64 0) (.slice none 0 0))
  generalize put7 w2 Z (.int .i64 0) (.int .i64 0) (.int .i64 0) (.int .i64 0) (.int .i64 0) (.int .i64 0) (.slice none 0 0) = w99 at P9 HB9 ⊢
  clear z0 z1 z2 z3 z4 z5 z6 y0 y1 y2 y3 y4 y5 y6 B9
  obtain ⟨z0, z1, z2, z3, z4, z5, z6⟩ := ents_of P9.out
  exact bodyPost_ret (v := .tuple #[eV 0 0 0 0 0 0 none 0 0, .int .i64 E]) (by simp [results, Tryd.results15, go_sem, z0, z1, z2, z3, z4, z5, z6]) rfl (UnP7.no (HE.out) (by first | assumption | decide) HB9)

set_option maxRecDepth 10000 in
set_option maxHeartbeats 4000000 in
theorem Unpack7_rest (A : Option Addr) (n c : Nat) (b : List UInt8) (w : World) (hr : Rd w w.heap.size A n b) (hn : n ≤ 100000) (hc : n ≤ c) (hm : c ≤ 9223372036854775807) (ht : T7 w) (hx : nxE b = 0) (h2 : b.length ≠ cntF b + 12) :
    Calls Tryd.prog 15 #[.slice A n c] w (UnP7 w b) := by
  have HN0 := Lib.hid (fun (w1 : World) (h1 : Rd w1 w1.heap.size A n b) (h2 : Tb w1) => Next_yes A n c b w1 h1 (by omega) hc hm h2 hx)
  have HE := Lib.hid (un_rest hx h2)
  have Hpos := Lib.hid (show 0 < b.length - (cntF b + 12) by have := (nx_ok_len hx).2.2; omega)
  have Hr := Lib.hid hr
  have Ht := Lib.hid ht
  clear hr ht hx h2
  go_enter Tryd.func15, Tryd.ntmps15
  go_upto_region 1 with fail
  have HZ := Lib.hid (heap_alloc_new w (.cells #[.int .i64 0, .int .i64 0, .int .i64 0, .int .i64 0, .int .i64 0, .int .i64 0, .slice none 0 0] 24))
  have HB := al7 w (.cells #[.int .i64 0, .int .i64 0, .int .i64 0, .int .i64 0, .int .i64 0, .int .i64 0, .slice none 0 0] 24)
  replace Hr := Lib.hid ((Hr.out.below HB.out).more HB.out.size)
  generalize w.alloc (.cells #[.int .i64 0, .int .i64 0, .int .i64 0, .int .i64 0, .int .i64 0, .int .i64 0, .slice none 0 0] 24) = w1 at HZ HB Hr ⊢
  obtain ⟨Z, hZ⟩ : ∃ Z, Z = w.heap.size := ⟨_, rfl⟩
  have HZ0 := Lib.hid (show w.heap.size ≤ Z by omega)
  rw [← hZ] at HZ ⊢
  clear hZ
  have HN := Lib.hid (HN0.out w1 Hr.out (Ht.out.to HB.out).1)
  go_wp2_with fail
  refine HN.out.mono ?_
  rintro r w2 ⟨A1, c1, A2, c2, m1, m2, hm1, hm2, rfl, hr1, hc1, hk1, hr2, hc2, hk2, hb⟩
  have Hbx := Lib.hid hb
  replace HZ := Lib.hid ((hb.block Z (lt_of_block HZ.out)).trans HZ.out)
  replace HB := bel7 HB Hbx
  have hp : (0 : Int) < (m2 : Int) := by have := Hpos.out; omega
  clear hb Hbx HN HN0 Hr hr1 hr2 hm1 hm2 hk1 hk2 Hpos
  obtain ⟨z0, z1, z2, z3, z4, z5, z6⟩ := ents_of HZ.out
  have y0 := free_blk HZ.out 0
  have y1 := free_blk HZ.out 1
  have y2 := free_blk HZ.out 2
  have y3 := free_blk HZ.out 3
  have y4 := free_blk HZ.out 4
  have y5 := free_blk HZ.out 5
  have y6 := free_blk HZ.out 6
  go_wp2_with fail
  have P9 := Lib.hid (put7_blk HZ.out (.int .i64 0) (.int .i64 0) (.int .i64 0) (.int .i64 0) (.int .i64 0) (.int .i64 0) (.slice none 0 0))
  have B9 := Lib.hid (put7_below (w := w2) (B := w.heap.size) HZ0.out (.int .i64 0) (.int .i64 0) (.int .i64 0) (.int .i64 0) (.int .i64 0) (.int .i64 0) (.slice none 0 0))
  have HB9 := Lib.hid (HB.out.trans B9.out)
  change bodyPost _ _ _ _ _ (put7 w2 Z (.int .i64 0) (.int .i64 0) (.int .i64 0) (.int .i64 0) (.int .i64 0) (.int .i64 0) (.slice none 0 0))
  generalize put7 w2 Z (.int .i64 0) (.int .i64 0) (.int .i64 0) (.int .i64 0) (.int .i64 0) (.int .i64 0) (.slice none 0 0) = w99 at P9 HB9 ⊢
  clear z0 z1 z2 z3 z4 z5 z6 y0 y1 y2 y3 y4 y5 y6 B9
  obtain ⟨z0, z1, z2, z3, z4, z5, z6⟩ := ents_of P9.out
  exact bodyPost_ret (v := .tuple #[eV 0 0 0 0 0 0 none 0 0, .int .i64 11]) (by simp [results, Tryd.results15, go_sem, z0, z1, z2, z3, z4, z5, z6]) rfl (UnP7.no (HE.out) (by first | assumption | decide) HB9)

set_option maxRecDepth 10000 in
/-- a frame whose body is read -/
theorem Unpack7_next (A : Option Addr) (n c : Nat) (b : List UInt8) (w1 : World) (hr : Rd w1 w1.heap.size A n b) (hn : n ≤ 100000) (hc : n ≤ c) (hm : c ≤ 9223372036854775807) (ht : Tb w1) (hx : nxE b = 0) (h2 : b.length = cntF b + 12) :
    Calls Tryd.prog 25 #[.slice A n c] w1 fun r w' => ∃ A1 m1 c1 A2 c2, r = .returned (.tuple #[.int .i64 (kindF b), .slice A1 m1 c1, .slice A2 0 c2, .int .i64 0]) ∧ Hid (Rd w' w'.heap.size A1 m1 (bodyF b)) ∧ m1 ≤ 100000 ∧ m1 ≤ c1 ∧ c1 ≤ 9223372036854775807 ∧ c2 ≤ 9223372036854775807 ∧ Below w1.heap.size w1 w' :=
  (Next_yes A n c b w1 hr (by omega) hc hm ht hx).mono fun r w' ⟨A1, c1, A2, c2, m1, m2, hm1, hm2, e, hr1, hc1, hk1, hr2, hc2, hk2, hb⟩ => by
    have h0 : m2 = 0 := by omega
    subst h0
    have hl := (nx_ok_len hx).2.1
    refine ⟨A1, m1, c1, A2, c2, e, ?_, by omega, hc1, by simpa [maxLen] using hk1, by simpa [maxLen] using hk2, hb⟩
    exact Rd.own hr1

set_option maxRecDepth 10000 in
set_option maxHeartbeats 4000000 in
theorem Unpack7_bad (A : Option Addr) (n c : Nat) (b : List UInt8) (w : World) (hr : Rd w w.heap.size A n b) (hn : n ≤ 100000) (hc : n ≤ c) (hm : c ≤ 9223372036854775807) (ht : T7 w) (hx : nxE b = 0) (h2 : b.length = cntF b + 12) (h3 : ebE7 (bodyF b) ≠ 0) :
    Calls Tryd.prog 15 #[.slice A n c] w (UnP7 w b) := by
  have HN0 := Lib.hid (fun (w1 : World) (h1 : Rd w1 w1.heap.size A n b) (ht1 : Tb w1) => Unpack7_next A n c b w1 h1 hn hc hm ht1 hx h2)
  obtain ⟨E, hE⟩ : ∃ E, E = ebE7 (bodyF b) := ⟨_, rfl⟩
  obtain ⟨kd, hkd⟩ : ∃ kd, kd = kindF b := ⟨_, rfl⟩
  obtain ⟨X, hX⟩ : ∃ X, X = ofB7 kd (bodyF b) := ⟨_, rfl⟩
  have hE0 : ¬ E = 0 := by rw [hE]; exact h3
  have hE1 : (E != 0) = true := by simpa using hE0
  have HE := Lib.hid (show unE7 b = E by rw [un_body hx h2 h3, hE])
  have HU0 : Hid (∀ (A1 : Option Addr) (m1 c1 : Nat) (w1 : World), Rd w1 w1.heap.size A1 m1 (bodyF b) → m1 ≤ 100000 → Calls Tryd.prog 26 #[.int .i64 kd, .slice A1 m1 c1] w1 fun r w' => ∃ A c, r = .returned (.tuple #[eV X.s X.o kd X.f X.l X.p A X.d.length c, .int .i64 E]) ∧ Below w1.heap.size w1 w') := fun A1 m1 c1 w1 h1 hm1 =>
    (uBody7 kd A1 m1 c1 (bodyF b) w1 h1 hm1).mono fun r w' ⟨A, c, e, _, _, _, h⟩ => ⟨A, c, by rw [hE, hX]; exact e, h.out⟩
  rw [← hkd] at HN0
  have Hr := Lib.hid hr
  have Ht := Lib.hid ht
  clear hr ht hx h2 h3 hE hkd hX
  go_enter Tryd.func15, Tryd.ntmps15
  go_upto_region 1 with fail
  have HZ := Lib.hid (heap_alloc_new w (.cells #[.int .i64 0, .int .i64 0, .int .i64 0, .int .i64 0, .int .i64 0, .int .i64 0, .slice none 0 0] 24))
  have HB := al7 w (.cells #[.int .i64 0, .int .i64 0, .int .i64 0, .int .i64 0, .int .i64 0, .int .i64 0, .slice none 0 0] 24)
  replace Hr := Lib.hid ((Hr.out.below HB.out).more HB.out.size)
  generalize w.alloc (.cells #[.int .i64 0, .int .i64 0, .int .i64 0, .int .i64 0, .int .i64 0, .int .i64 0, .slice none 0 0] 24) = w1 at HZ HB Hr ⊢
  obtain ⟨Z, hZ⟩ : ∃ Z, Z = w.heap.size := ⟨_, rfl⟩
  have HZ0 := Lib.hid (show w.heap.size ≤ Z by omega)
  rw [← hZ] at HZ ⊢
  clear hZ
  have HN := Lib.hid (HN0.out w1 Hr.out (Ht.out.to HB.out).1)
  go_wp2_with fail
  refine HN.out.mono ?_
  rintro r w2 ⟨A1, m1, c1, A2, c2, rfl, hr1, hm1, hc1, hk1, hk2, hb⟩
  have Hbx := Lib.hid hb
  replace HZ := Lib.hid ((hb.block Z (lt_of_block HZ.out)).trans HZ.out)
  replace HB := bel7 HB Hbx
  clear hb Hbx HN HN0 Hr
  have HU := Lib.hid (HU0.out A1 m1 c1 w2 hr1.out hm1)
  go_wp2_with fail
  refine HU.out.mono ?_
  rintro r w3 ⟨A3, c3, rfl, hb⟩
  have Hbx := Lib.hid hb
  replace HZ := Lib.hid ((hb.block Z (lt_of_block HZ.out)).trans HZ.out)
  replace HB := bel7 HB Hbx
  clear hb Hbx HU HU0
  go_upto_region 7 with fail
  have Ha := al7 w3 (.cells #[.int .i64 X.s, .int .i64 X.o, .int .i64 kd, .int .i64 X.f, .int .i64 X.l, .int .i64 X.p, .slice A3 X.d.length c3] 24)
  replace HZ := Lib.hid ((Ha.out.block Z (lt_of_block HZ.out)).trans HZ.out)
  replace HB := bel7 HB Ha
  clear Ha
  generalize w3.alloc (.cells #[.int .i64 X.s, .int .i64 X.o, .int .i64 kd, .int .i64 X.f, .int .i64 X.l, .int .i64 X.p, .slice A3 X.d.length c3] 24) = w4 at HZ HB ⊢
  obtain ⟨z0, z1, z2, z3, z4, z5, z6⟩ := ents_of HZ.out
  have y0 := free_blk HZ.out 0
  have y1 := free_blk HZ.out 1
  have y2 := free_blk HZ.out 2
  have y3 := free_blk HZ.out 3
  have y4 := free_blk HZ.out 4
  have y5 := free_blk HZ.out 5
  have y6 := free_blk HZ.out 6
  go_wp2_with fail
  have P9 := Lib.hid (put7_blk HZ.out (.int .i64 0) (.int .i64 0) (.int .i64 0) (.int .i64 0) (.int .i64 0) (.int .i64 0) (.slice none 0 0))
  have B9 := Lib.hid (put7_below (w := w4) (B := w.heap.size) HZ0.out (.int .i64 0) (.int .i64 0) (.int .i64 0) (.int .i64 0) (.int .i64 0) (.int .i64 0) (.slice none 0 0))
  have HB9 := Lib.hid (HB.out.trans B9.out)
  change bodyPost _ _ _ _ _ (put7 w4 Z (.int .i64 0) (.int .i64 0) (.int .i64 0) (.int .i64 0) (.int .i64 0) (.int .i64 0) (.slice none 0 0))
  generalize put7 w4 Z (.int .i64 0) (.int .i64 0) (.int .i64 0) (.int .i64 0) (.int .i64 0) (.int .i64 0) (.slice none 0 0) = w99 at P9 HB9 ⊢
  clear z0 z1 z2 z3 z4 z5 z6 y0 y1 y2 y3 y4 y5 y6 B9
  obtain ⟨z0, z1, z2, z3, z4, z5, z6⟩ := ents_of P9.out
  exact bodyPost_ret (v := .tuple #[eV 0 0 0 0 0 0 none 0 0, .int .i64 E]) (by simp [results, Tryd.results15, go_sem, z0, z1, z2, z3, z4, z5, z6]) rfl (UnP7.no (HE.out) (by first | assumption | decide) HB9)

theorem own_blk7 {w : World} {B e n c m : Nat} {A : Option Addr} {xs : List Value} (h : w.ownsRow B e 1 (.slice A n c) m xs) : ∀ ad, A = some ad → B ≤ ad.block := by
  intro ad e
  subst e
  rcases h.2 with ⟨h, _⟩ | ⟨g, cap, cur, h1, h2, _⟩
  · cases h
  · cases h1; exact h2

set_option maxRecDepth 10000 in
set_option maxHeartbeats 4000000 in
theorem Unpack7_ok (A : Option Addr) (n c : Nat) (b : List UInt8) (w : World) (hr : Rd w w.heap.size A n b) (hn : n ≤ 100000) (hc : n ≤ c) (hm : c ≤ 9223372036854775807) (ht : T7 w) (hx : nxE b = 0) (h2 : b.length = cntF b + 12) (h3 : ebE7 (bodyF b) = 0) :
    Calls Tryd.prog 15 #[.slice A n c] w (UnP7 w b) := by
  have HN0 := Lib.hid (fun (w1 : World) (h1 : Rd w1 w1.heap.size A n b) (ht1 : Tb w1) => Unpack7_next A n c b w1 h1 hn hc hm ht1 hx h2)
  obtain ⟨kd, hkd⟩ : ∃ kd, kd = kindF b := ⟨_, rfl⟩
  obtain ⟨S, O, F, L, P, D, hX⟩ : ∃ S O F L P D, ofB7 kd (bodyF b) = ⟨S, O, kd, F, L, P, D⟩ := ⟨_, _, _, _, _, _, rfl⟩
  have hD : D.length ≤ 128 := by
    have : D = (ofB7 kd (bodyF b)).d := by rw [hX]
    rw [this]; exact rB_le _
  have HE := Lib.hid (show unE7 b = if May7 ⟨S, O, kd, F, L, P, D⟩ ∧ cln7 ⟨S, O, kd, F, L, P, D⟩ = ⟨S, O, kd, F, L, P, D⟩ then 0 else 70 by rw [un_may hx h2 h3, ← hkd, hX])
  obtain ⟨dn, hdn⟩ : ∃ dn, dn = D.length := ⟨_, rfl⟩
  have hdn2 : dn ≤ 128 := by rw [hdn]; exact hD
  have HU0 : Hid (∀ (A1 : Option Addr) (m1 c1 : Nat) (w1 : World), Rd w1 w1.heap.size A1 m1 (bodyF b) → m1 ≤ 100000 → Calls Tryd.prog 26 #[.int .i64 kd, .slice A1 m1 c1] w1 fun r w' => ∃ A c, r = .returned (.tuple #[eV S O kd F L P A dn c, .int .i64 0]) ∧ Hid (Rd w' w'.heap.size A dn D) ∧ dn ≤ c ∧ c ≤ maxLen ∧ Below w1.heap.size w1 w') := fun A1 m1 c1 w1 h1 hm1 =>
    (uBody7 kd A1 m1 c1 (bodyF b) w1 h1 hm1).mono fun r w' q => by
      obtain ⟨A, c, e, q1, q2, q3, h⟩ := q
      rw [hX, h3] at e
      rw [hX] at q1 q2
      rw [hdn]
      exact ⟨A, c, e, q1, q2, q3, h.out⟩
  have HX := Lib.hid (show ofB7 (kindF b) (bodyF b) = ⟨S, O, kd, F, L, P, D⟩ by rw [← hkd, hX])
  obtain ⟨e, he⟩ : ∃ e, e = cln7 ⟨S, O, kd, F, L, P, D⟩ := ⟨_, rfl⟩
  have hes : e.s = S := by rw [he]; rfl
  have heo : e.o = O := by rw [he]; rfl
  have hek : e.k = kd := by rw [he]; rfl
  obtain ⟨f, hf⟩ : ∃ f, f = e.f := ⟨_, rfl⟩
  obtain ⟨l, hl⟩ : ∃ l, l = e.l := ⟨_, rfl⟩
  obtain ⟨p, hp⟩ : ∃ p, p = e.p := ⟨_, rfl⟩
  obtain ⟨dd, hdd⟩ : ∃ dd, dd = e.d := ⟨_, rfl⟩
  obtain ⟨m, hmm⟩ : ∃ m, m = dd.length := ⟨_, rfl⟩
  have HC1 : Hid (∀ (A3 : Option Addr) (c3 : Nat) (w1 : World), Rd w1 w1.heap.size A3 dn D → T7 w1 → Calls Tryd.prog 13 #[eV S O kd F L P A3 dn c3] w1 fun x w' => ∃ A c, x = .returned (eV S O kd f l p A m c) ∧ Hid (w'.ownsRow w1.heap.size 5 1 (.slice A m c) m (dd.map bv)) ∧ m ≤ c ∧ c ≤ maxLen ∧ Below w1.heap.size w1 w') := fun A3 c3 w1 h1 ht1 =>
    (Clean7 S O kd F L P A3 dn c3 D w1 h1 (by omega) ht1).mono fun x w' q => by
      obtain ⟨A, c, q0, q1, q2, q3, q4⟩ := q
      rw [← he] at q0 q1 q2
      rw [hes, heo, hek, ← hf, ← hl, ← hp, ← hdd, ← hmm] at q0
      rw [← hdd, ← hmm] at q1 q2
      exact ⟨A, c, q0, q1, q2, q3, q4.out⟩
  have HI := Lib.hid (show cln7 ⟨S, O, kd, F, L, P, D⟩ = ⟨S, O, kd, F, L, P, D⟩ ↔ (F = f ∧ L = l ∧ P = p ∧ D = dd) by rw [cln_iff, ← he, ← hf, ← hl, ← hp, ← hdd])
  have Hdn := Lib.hid hdn
  have Hmm := Lib.hid hmm
  rw [← hkd] at HN0
  have Hr := Lib.hid hr
  have Ht := Lib.hid ht
  clear hr ht hx h2 h3 hkd hX he hes heo hek hf hl hp hdd hmm hdn hD hn hc hm
  go_enter Tryd.func15, Tryd.ntmps15
  go_upto_region 1 with fail
  have HZ := Lib.hid (heap_alloc_new w (.cells #[.int .i64 0, .int .i64 0, .int .i64 0, .int .i64 0, .int .i64 0, .int .i64 0, .slice none 0 0] 24))
  have HB := al7 w (.cells #[.int .i64 0, .int .i64 0, .int .i64 0, .int .i64 0, .int .i64 0, .int .i64 0, .slice none 0 0] 24)
  replace Hr := Lib.hid ((Hr.out.below HB.out).more HB.out.size)
  generalize w.alloc (.cells #[.int .i64 0, .int .i64 0, .int .i64 0, .int .i64 0, .int .i64 0, .int .i64 0, .slice none 0 0] 24) = w1 at HZ HB Hr ⊢
  obtain ⟨Z, hZ⟩ : ∃ Z, Z = w.heap.size := ⟨_, rfl⟩
  have HZ0 := Lib.hid (show w.heap.size ≤ Z by omega)
  rw [← hZ] at HZ ⊢
  clear hZ
  have HN := Lib.hid (HN0.out w1 Hr.out (Ht.out.to HB.out).1)
  go_wp2_with fail
  refine HN.out.mono ?_
  rintro r w2 ⟨A1, m1, c1, A2, c2, rfl, hr1, hm1, hc1, hk1, hk2, hb⟩
  have Hbx := Lib.hid hb
  replace HZ := Lib.hid ((hb.block Z (lt_of_block HZ.out)).trans HZ.out)
  replace HB := bel7 HB Hbx
  clear hb Hbx HN HN0 Hr
  have HU := Lib.hid (HU0.out A1 m1 c1 w2 hr1.out hm1)
  go_wp2_with fail
  refine HU.out.mono ?_
  rintro r w3 ⟨A3, c3, rfl, HD3, hq3, hk3, hb⟩
  have Hbx := Lib.hid hb
  replace HZ := Lib.hid ((hb.block Z (lt_of_block HZ.out)).trans HZ.out)
  replace HB := bel7 HB Hbx
  clear hb Hbx HU HU0 hr1
  have hk3' : c3 ≤ 9223372036854775807 := by simpa [maxLen] using hk3
  go_upto_region 7 with fail
  have HX4 := Lib.hid (heap_alloc_new w3 (.cells #[.int .i64 S, .int .i64 O, .int .i64 kd, .int .i64 F, .int .i64 L, .int .i64 P, .slice A3 dn c3] 24))
  have Ha := al7 w3 (.cells #[.int .i64 S, .int .i64 O, .int .i64 kd, .int .i64 F, .int .i64 L, .int .i64 P, .slice A3 dn c3] 24)
  replace HZ := Lib.hid ((Ha.out.block Z (lt_of_block HZ.out)).trans HZ.out)
  replace HB := bel7 HB Ha
  replace HD3 := Lib.hid ((HD3.out.below Ha.out).more Ha.out.size)
  clear Ha
  generalize w3.alloc (.cells #[.int .i64 S, .int .i64 O, .int .i64 kd, .int .i64 F, .int .i64 L, .int .i64 P, .slice A3 dn c3] 24) = w4 at HX4 HZ HB HD3 ⊢
  obtain ⟨xb, hxb⟩ : ∃ xb, xb = w3.heap.size := ⟨_, rfl⟩
  rw [← hxb] at HX4 ⊢
  clear hxb
  have a0 := (ents_of HX4.out).1
  have a1 := (ents_of HX4.out).2.1
  have a2 := (ents_of HX4.out).2.2.1
  have a3 := (ents_of HX4.out).2.2.2.1
  have a4 := (ents_of HX4.out).2.2.2.2.1
  have a5 := (ents_of HX4.out).2.2.2.2.2.1
  have a6 := (ents_of HX4.out).2.2.2.2.2.2
  have hz4 := Lib.hid (lt_of_block HZ.out)
  have HC := Lib.hid (HC1.out A3 c3 w4 HD3.out (Ht.out.to HB.out))
  go_wp2_with fail
  refine HC.out.mono ?_
  rintro r w5 ⟨A5, c5, rfl, HD5, hq5, hk5, hb⟩
  have Hbx := Lib.hid hb
  replace HZ := Lib.hid ((hb.block Z (lt_of_block HZ.out)).trans HZ.out)
  replace HB := bel7 HB Hbx
  replace HX4 := Lib.hid ((hb.block xb (lt_of_block HX4.out)).trans HX4.out)
  replace HD3 := Lib.hid ((HD3.out.below hb).more hb.size)
  have HR5 := Lib.hid (Rd.own HD5.out)
  clear hb Hbx HC HC1 a0 a1 a2 a3 a4 a5 a6
  have hk5' : c5 ≤ 9223372036854775807 := by simpa [maxLen] using hk5
  have HN5 := Lib.hid (show ∀ ad, (A5 : Option Addr) = some ad → w4.heap.size ≤ ad.block from own_blk7 HD5.out)
  have HZ4 := Lib.hid (show Z < w4.heap.size by exact hz4.out)
  go_upto_region 10 with fail
  have HC6 := Lib.hid (heap_alloc_new w5 (.cells #[.int .i64 S, .int .i64 O, .int .i64 kd, .int .i64 f, .int .i64 l, .int .i64 p, .slice A5 m c5] 24))
  have Ha := al7 w5 (.cells #[.int .i64 S, .int .i64 O, .int .i64 kd, .int .i64 f, .int .i64 l, .int .i64 p, .slice A5 m c5] 24)
  replace HZ := Lib.hid ((Ha.out.block Z (lt_of_block HZ.out)).trans HZ.out)
  replace HX4 := Lib.hid ((Ha.out.block xb (lt_of_block HX4.out)).trans HX4.out)
  replace HB := bel7 HB Ha
  replace HD3 := Lib.hid ((HD3.out.below Ha.out).more Ha.out.size)
  replace HR5 := Lib.hid ((HR5.out.below Ha.out).more Ha.out.size)
  clear Ha HD5
  generalize w5.alloc (.cells #[.int .i64 S, .int .i64 O, .int .i64 kd, .int .i64 f, .int .i64 l, .int .i64 p, .slice A5 m c5] 24) = w6 at HC6 HX4 HZ HB HD3 HR5 ⊢
  obtain ⟨cb, hcb⟩ : ∃ cb, cb = w5.heap.size := ⟨_, rfl⟩
  rw [← hcb] at HC6 ⊢
  clear hcb
  have a0 := (ents_of HX4.out).1
  have a1 := (ents_of HX4.out).2.1
  have a2 := (ents_of HX4.out).2.2.1
  have a3 := (ents_of HX4.out).2.2.2.1
  have a4 := (ents_of HX4.out).2.2.2.2.1
  have a5 := (ents_of HX4.out).2.2.2.2.2.1
  have a6 := (ents_of HX4.out).2.2.2.2.2.2
  have HK := Lib.hid (Check7 S O kd F L P A3 dn c3 D Hdn.out.symm w6)
  by_cases hM : May7 ⟨S, O, kd, F, L, P, D⟩
  · have He7 := Lib.hid (show may7E ⟨S, O, kd, F, L, P, D⟩ = 0 by unfold may7E; rw [if_pos hM])
    rw [He7.out] at HK
    go_wp2_with fail
    refine HK.out.mono ?_
    rintro r w7 ⟨rfl, hb0⟩
    have hb := hb0.out
    have Hbx := Lib.hid hb
    replace HZ := Lib.hid ((hb.block Z (lt_of_block HZ.out)).trans HZ.out)
    replace HB := bel7 HB Hbx
    replace HX4 := Lib.hid ((hb.block xb (lt_of_block HX4.out)).trans HX4.out)
    replace HC6 := Lib.hid ((hb.block cb (lt_of_block HC6.out)).trans HC6.out)
    replace HD3 := Lib.hid ((HD3.out.below hb).more hb.size)
    replace HR5 := Lib.hid ((HR5.out.below hb).more hb.size)
    clear hb hb0 Hbx HK a0 a1 a2 a3 a4 a5 a6 He7
    have a0 := (ents_of HX4.out).1
    have a1 := (ents_of HX4.out).2.1
    have a2 := (ents_of HX4.out).2.2.1
    have a3 := (ents_of HX4.out).2.2.2.1
    have a4 := (ents_of HX4.out).2.2.2.2.1
    have a5 := (ents_of HX4.out).2.2.2.2.2.1
    have a6 := (ents_of HX4.out).2.2.2.2.2.2
    have b0 := (ents_of HC6.out).1
    have b1 := (ents_of HC6.out).2.1
    have b2 := (ents_of HC6.out).2.2.1
    have b3 := (ents_of HC6.out).2.2.2.1
    have b4 := (ents_of HC6.out).2.2.2.2.1
    have b5 := (ents_of HC6.out).2.2.2.2.2.1
    have b6 := (ents_of HC6.out).2.2.2.2.2.2
    have HS := Lib.hid (same7 S O kd F L P A3 dn c3 D S O kd f l p A5 m c5 dd w7 HD3.out HR5.out)
    by_cases hI : F = f ∧ L = l ∧ P = p ∧ D = dd
    · rw [decide_eq_true hI] at HS
      have HI1 := Lib.hid hI
      have HM1 := Lib.hid hM
      clear hI hM
      go_wp2_with fail
      refine HS.out.mono ?_
      rintro r w8 ⟨rfl, hb0⟩
      have hb := hb0.out
      have Hbx := Lib.hid hb
      replace HZ := Lib.hid ((hb.block Z (lt_of_block HZ.out)).trans HZ.out)
      replace HB := bel7 HB Hbx
      replace HC6 := Lib.hid ((hb.block cb (lt_of_block HC6.out)).trans HC6.out)
      replace HR5 := Lib.hid ((HR5.out.below hb).more hb.size)
      clear hb hb0 Hbx HS a0 a1 a2 a3 a4 a5 a6 b0 b1 b2 b3 b4 b5 b6 HX4 HD3
      have Hfin := Lib.hid (show unE7 b = 0 by rw [HE.out, if_pos ⟨HM1.out, HI.out.2 HI1.out⟩])
      obtain ⟨rfl, rfl, rfl, rfl⟩ := HI1.out
      have hmd := Lib.hid (show m = dn by rw [Hmm.out, Hdn.out])
      have Hne := Lib.hid hk5'
      have b0 := (ents_of HC6.out).1
      have b1 := (ents_of HC6.out).2.1
      have b2 := (ents_of HC6.out).2.2.1
      have b3 := (ents_of HC6.out).2.2.2.1
      have b4 := (ents_of HC6.out).2.2.2.2.1
      have b5 := (ents_of HC6.out).2.2.2.2.2.1
      have b6 := (ents_of HC6.out).2.2.2.2.2.2
      obtain ⟨z0, z1, z2, z3, z4, z5, z6⟩ := ents_of HZ.out
      have y0 := free_blk HZ.out 0
      have y1 := free_blk HZ.out 1
      have y2 := free_blk HZ.out 2
      have y3 := free_blk HZ.out 3
      have y4 := free_blk HZ.out 4
      have y5 := free_blk HZ.out 5
      have y6 := free_blk HZ.out 6
      go_wp2_with fail
      have P9 := Lib.hid (put7_blk HZ.out (.int .i64 S) (.int .i64 O) (.int .i64 kd) (.int .i64 F) (.int .i64 L) (.int .i64 P) (.slice A5 m c5))
      have B9 := Lib.hid (put7_below (w := w8) (B := w.heap.size) HZ0.out (.int .i64 S) (.int .i64 O) (.int .i64 kd) (.int .i64 F) (.int .i64 L) (.int .i64 P) (.slice A5 m c5))
      have HB9 := Lib.hid (HB.out.trans B9.out)
      have HR9 := Lib.hid (HR5.out.gb7 (put7_grown w8 Z (.int .i64 S) (.int .i64 O) (.int .i64 kd) (.int .i64 F) (.int .i64 L) (.int .i64 P) (.slice A5 m c5)) (fun ad e => by have := HN5.out ad e; have := HZ4.out; omega))
      change bodyPost _ _ _ _ _ (put7 w8 Z (.int .i64 S) (.int .i64 O) (.int .i64 kd) (.int .i64 F) (.int .i64 L) (.int .i64 P) (.slice A5 m c5))
      generalize put7 w8 Z (.int .i64 S) (.int .i64 O) (.int .i64 kd) (.int .i64 F) (.int .i64 L) (.int .i64 P) (.slice A5 m c5) = w99 at P9 HB9 HR9 ⊢
      clear z0 z1 z2 z3 z4 z5 z6 y0 y1 y2 y3 y4 y5 y6 B9
      obtain ⟨z0, z1, z2, z3, z4, z5, z6⟩ := ents_of P9.out
      exact bodyPost_ret (v := .tuple #[eV S O kd F L P A5 m c5, .int .i64 0]) (by simp [results, Tryd.results15, go_sem, z0, z1, z2, z3, z4, z5, z6]) rfl (by
        rw [Hmm.out]
        exact UnP7.yes HX.out Hfin.out (by rw [← Hmm.out]; exact HR9) (by rw [← Hmm.out]; exact hq5) hk5' HB9)
    · rw [decide_eq_false hI] at HS
      have Hfin := Lib.hid (show unE7 b = 70 by rw [HE.out, if_neg (fun q => hI (HI.out.1 q.2))])
      clear hI hM
      go_wp2_with fail
      refine HS.out.mono ?_
      rintro r w8 ⟨rfl, hb0⟩
      have hb := hb0.out
      have Hbx := Lib.hid hb
      replace HZ := Lib.hid ((hb.block Z (lt_of_block HZ.out)).trans HZ.out)
      replace HB := bel7 HB Hbx
      clear hb hb0 Hbx HS a0 a1 a2 a3 a4 a5 a6 b0 b1 b2 b3 b4 b5 b6 HX4 HD3 HC6 HR5
      obtain ⟨z0, z1, z2, z3, z4, z5, z6⟩ := ents_of HZ.out
      have y0 := free_blk HZ.out 0
      have y1 := free_blk HZ.out 1
      have y2 := free_blk HZ.out 2
      have y3 := free_blk HZ.out 3
      have y4 := free_blk HZ.out 4
      have y5 := free_blk HZ.out 5
      have y6 := free_blk HZ.out 6
      go_wp2_with fail
      have P9 := Lib.hid (put7_blk HZ.out (.int .i64 0) (.int .i64 0) (.int .i64 0) (.int .i64 0) (.int .i64 0) (.int .i64 0) (.slice none 0 0))
      have B9 := Lib.hid (put7_below (w := w8) (B := w.heap.size) HZ0.out (.int .i64 0) (.int .i64 0) (.int .i64 0) (.int .i64 0) (.int .i64 0) (.int .i64 0) (.slice none 0 0))
      have HB9 := Lib.hid (HB.out.trans B9.out)
      change bodyPost _ _ _ _ _ (put7 w8 Z (.int .i64 0) (.int .i64 0) (.int .i64 0) (.int .i64 0) (.int .i64 0) (.int .i64 0) (.slice none 0 0))
      generalize put7 w8 Z (.int .i64 0) (.int .i64 0) (.int .i64 0) (.int .i64 0) (.int .i64 0) (.int .i64 0) (.slice none 0 0) = w99 at P9 HB9 ⊢
      clear z0 z1 z2 z3 z4 z5 z6 y0 y1 y2 y3 y4 y5 y6 B9
      obtain ⟨z0, z1, z2, z3, z4, z5, z6⟩ := ents_of P9.out
      exact bodyPost_ret (v := .tuple #[eV 0 0 0 0 0 0 none 0 0, .int .i64 70]) (by simp [results, Tryd.results15, go_sem, z0, z1, z2, z3, z4, z5, z6]) rfl (UnP7.no (Hfin.out) (by first | assumption | decide) HB9)
  · have He7 := Lib.hid (show may7E ⟨S, O, kd, F, L, P, D⟩ = 70 by unfold may7E; rw [if_neg hM])
    rw [He7.out] at HK
    have Hfin := Lib.hid (show unE7 b = 70 by rw [HE.out, if_neg (fun q => hM q.1)])
    clear hM
    go_wp2_with fail
    refine HK.out.mono ?_
    rintro r w7 ⟨rfl, hb0⟩
    have hb := hb0.out
    have Hbx := Lib.hid hb
    replace HZ := Lib.hid ((hb.block Z (lt_of_block HZ.out)).trans HZ.out)
    replace HB := bel7 HB Hbx
    clear hb hb0 Hbx HK a0 a1 a2 a3 a4 a5 a6 He7 HX4 HC6 HD3 HR5
    obtain ⟨z0, z1, z2, z3, z4, z5, z6⟩ := ents_of HZ.out
    have y0 := free_blk HZ.out 0
    have y1 := free_blk HZ.out 1
    have y2 := free_blk HZ.out 2
    have y3 := free_blk HZ.out 3
    have y4 := free_blk HZ.out 4
    have y5 := free_blk HZ.out 5
    have y6 := free_blk HZ.out 6
    go_wp2_with fail
    have P9 := Lib.hid (put7_blk HZ.out (.int .i64 0) (.int .i64 0) (.int .i64 0) (.int .i64 0) (.int .i64 0) (.int .i64 0) (.slice none 0 0))
    have B9 := Lib.hid (put7_below (w := w7) (B := w.heap.size) HZ0.out (.int .i64 0) (.int .i64 0) (.int .i64 0) (.int .i64 0) (.int .i64 0) (.int .i64 0) (.slice none 0 0))
    have HB9 := Lib.hid (HB.out.trans B9.out)
    change bodyPost _ _ _ _ _ (put7 w7 Z (.int .i64 0) (.int .i64 0) (.int .i64 0) (.int .i64 0) (.int .i64 0) (.int .i64 0) (.slice none 0 0))
    generalize put7 w7 Z (.int .i64 0) (.int .i64 0) (.int .i64 0) (.int .i64 0) (.int .i64 0) (.int .i64 0) (.slice none 0 0) = w99 at P9 HB9 ⊢
    clear z0 z1 z2 z3 z4 z5 z6 y0 y1 y2 y3 y4 y5 y6 B9
    obtain ⟨z0, z1, z2, z3, z4, z5, z6⟩ := ents_of P9.out
    exact bodyPost_ret (v := .tuple #[eV 0 0 0 0 0 0 none 0 0, .int .i64 70]) (by simp [results, Tryd.results15, go_sem, z0, z1, z2, z3, z4, z5, z6]) rfl (UnP7.no (Hfin.out) (by first | assumption | decide) HB9)

set_option maxRecDepth 10000 in
theorem Unpack7 (A : Option Addr) (n c : Nat) (b : List UInt8) (w : World) (hr : Rd w w.heap.size A n b) (hn : n ≤ 100000) (hc : n ≤ c) (hm : c ≤ 9223372036854775807) (ht : T7 w) :
    Calls Tryd.prog 15 #[.slice A n c] w (UnP7 w b) := by
  by_cases hx : nxE b = 0
  · by_cases h2 : b.length = cntF b + 12
    · by_cases h3 : ebE7 (bodyF b) = 0
      · exact Unpack7_ok A n c b w hr hn hc hm ht hx h2 h3
      · exact Unpack7_bad A n c b w hr hn hc hm ht hx h2 h3
    · exact Unpack7_rest A n c b w hr hn hc hm ht hx h2
  · exact Unpack7_no A n c b w hr hn hc hm ht hx

end Go.Proofs.YtfabcmohaikfoaaDoor
