/- The document's Unpack. Written by wip/genu7c.py. -/
import Derived.Test.YtfabcmohaikfoaaDoorEnI
import Derived.Test.YtfabcmohaikfoaaDoorFrG
import Derived.Test.YtfabcmohaikfoaaDoorWireRC
namespace Go.Proofs.YtfabcmohaikfoaaDoor
open Go.RowKit

def Ref7 (w : World) (R B : Nat) (s : List UInt8 × Int) : Prop := Ref w R B (clr s.1 s.2) s.2
set_option maxRecDepth 10000 in
theorem RNum7 (R B : Nat) (s : List UInt8 × Int) (width : Int) (w : World) (h : Ref7 w R B s) :
    Calls Tryd.prog 29 #[.pointer (some ⟨R, 0, none⟩), .int .i64 width] w fun r w' => r = .returned (.int .i64 (rN7 s width)) ∧ Ref7 w' R B (rS7 s width) ∧ w.grownBy w' (some R) := RfNum_any R B s.1 s.2 width w h
set_option maxRecDepth 10000 in
theorem RBlob7 (R B : Nat) (s : List UInt8 × Int) (m : Int) (w : World) (h : Ref7 w R B s) :
    Calls Tryd.prog 30 #[.pointer (some ⟨R, 0, none⟩), .int .i64 m] w fun r w' => OutB w R B (rB7 s m) r w' ∧ Ref7 w' R B (rT7 s m) := RfBlob_any R B s.1 s.2 m w h
set_option maxRecDepth 10000 in
theorem REnd7 (R B : Nat) (s : List UInt8 × Int) (w : World) (h : Ref7 w R B s) :
    Calls Tryd.prog 31 #[.pointer (some ⟨R, 0, none⟩)] w fun r w' => r = .returned (.int .i64 (endE s.2 s.1.length)) ∧ w.grownBy w' (some R) := (RfEnd_any R B s.1 s.2 w h).mono fun _ _ q => ⟨q.1, q.2.2⟩
theorem Ref7.past {w : World} {R B H : Nat} {s : List UInt8 × Int} (h : Ref7 w R B s) (hR : R < H) (i : Nat) (u : Value) : Ref7 (w.setCell ⟨H, i, none⟩ u) R B s := by
  obtain ⟨A, n, c, h1, h2, h3, h4, h5⟩ := h
  exact ⟨A, n, c, (Below.heap_setCell w ⟨H, i, none⟩ u R (by show R ≠ H; omega)).trans h1, h2, h3, h4.keep fun q hq => World.cell?_setCell_other w _ _ _ (fun e => by subst e; dsimp only at hq; omega), h5⟩
theorem Ref7.below {w w' : World} {R B : Nat} {s : List UInt8 × Int} (h : Ref7 w R B s) (hb : Below w.heap.size w w') : Ref7 w' R B s := by
  obtain ⟨A, n, c, h1, h2, h3, h4, h5⟩ := h
  have hl := lt_of_block h1
  exact ⟨A, n, c, (hb.block R hl).trans h1, h2, h3, h4.keep fun q hq => hb.cell (by omega), h5⟩

set_option maxRecDepth 10000 in
set_option maxHeartbeats 4000000 in
theorem RUnpack7_no (A : Option Addr) (n c : Nat) (b : List UInt8) (w : World) (hr : Rd w w.heap.size A n b) (hn : n ≤ 100000) (hc : n ≤ c) (hm : c ≤ 9223372036854775807) (hx : nxE b ≠ 0) :
    Calls Tryd.prog 16 #[.slice A n c] w (UnP7 w b) := by
  obtain ⟨E, hE⟩ : ∃ E, E = nxE b := ⟨_, rfl⟩
  have hE0 : ¬ E = 0 := by rw [hE]; exact hx
  have hE1 : (E != 0) = true := by simpa using hE0
  have HN0 : Hid (∀ w1 : World, Rd w1 w1.heap.size A n b → Calls Tryd.prog 28 #[.slice A n c] w1 fun r w' => r = .returned (.tuple #[.int .i64 0, .slice none 0 0, .int .i64 0, .int .i64 E]) ∧ Below w1.heap.size w1 w') := fun w1 h1 =>
    (rn_any A n c b _ w1 h1 (Nat.le_refl _) (by omega) hc hm).mono fun r w' q => by rw [hE]; exact q.2 hx
  have HE := Lib.hid (show unE7 b = E by rw [un_next hx, hE])
  have Hr := Lib.hid hr
  clear hr hE hx
  go_enter Tryd.func16, Tryd.ntmps16
  go_upto_region 1 with fail
  have HZ := Lib.hid (heap_alloc_new w (.cells #[.int .i64 0, .int .i64 0, .int .i64 0, .int .i64 0, .int .i64 0, .int .i64 0, .slice none 0 0] 24))
  have HB := al7 w (.cells #[.int .i64 0, .int .i64 0, .int .i64 0, .int .i64 0, .int .i64 0, .int .i64 0, .slice none 0 0] 24)
  replace Hr := Lib.hid ((Hr.out.below HB.out).more HB.out.size)
  generalize w.alloc (.cells #[.int .i64 0, .int .i64 0, .int .i64 0, .int .i64 0, .int .i64 0, .int .i64 0, .slice none 0 0] 24) = w1 at HZ HB Hr ⊢
  obtain ⟨Z, hZ⟩ : ∃ Z, Z = w.heap.size := ⟨_, rfl⟩
  have HZ0 := Lib.hid (show w.heap.size ≤ Z by omega)
  rw [← hZ] at HZ ⊢
  clear hZ
  have HN := Lib.hid (HN0.out w1 Hr.out)
  go_wp2_with fail
  refine HN.out.mono ?_
  rintro r w2 ⟨rfl, hb⟩
  have Hbx := Lib.hid hb
  replace HZ := Lib.hid ((hb.block Z (lt_of_block HZ.out)).trans HZ.out)
  replace HB := bel7 HB Hbx
  clear hb Hbx HN HN0 Hr
  obtain ⟨z0, z1, z2, z3, z4, z5, z6⟩ := ents_of HZ.out
  have y0 := free_blk HZ.out 0
  have y1 := free_blk HZ.out 1
  have y2 := free_blk HZ.out 2
  have y3 := free_blk HZ.out 3
  have y4 := free_blk HZ.out 4
  have y5 := free_blk HZ.out 5
  have y6 := free_blk HZ.out 6
  go_wp2_with fail
  have P9 := Lib.hid (put7_blk HZ.out (.int .i64 0) (.int .i64 0) (.int .i64 0) (.int .i64 0) (.int .i64 0) (.int .i64 0) (.slice none 0 0))
  have B9 := Lib.hid (put7_below (w := w2) (B := w.heap.size) HZ0.out (.int .i64 0) (.int .i64 0) (.int .i64 0) (.int .i64 0) (.int .i64 0) (.int .i64 0) (.slice none 0 0))
  have HB9 := Lib.hid (HB.out.trans B9.out)
  change bodyPost _ _ _ _ _ (put7 w2 Z (.int .i64 0) (.int .i64 0) (.int .i64 0) (.int .i64 0) (.int .i64 0) (.int .i64 0) (.slice none 0 0))
  generalize put7 w2 Z (.int .i64 0) (.int .i64 0) (.int .i64 0) (.int .i64 0) (.int .i64 0) (.int .i64 0) (.slice none 0 0) = w99 at P9 HB9 ⊢
  clear z0 z1 z2 z3 z4 z5 z6 y0 y1 y2 y3 y4 y5 y6 B9
  obtain ⟨z0, z1, z2, z3, z4, z5, z6⟩ := ents_of P9.out
  exact bodyPost_ret (v := .tuple #[eV 0 0 0 0 0 0 none 0 0, .int .i64 E]) (by simp [results, Tryd.results16, go_sem, z0, z1, z2, z3, z4, z5, z6]) rfl (UnP7.no (HE.out) (by first | assumption | decide) HB9)

set_option maxRecDepth 10000 in
theorem RUnpack7_next (A : Option Addr) (n c : Nat) (b : List UInt8) (B : Nat) (w1 : World) (hr : Rd w1 B A n b) (hB : B ≤ w1.heap.size) (hn : n ≤ 100000) (hc : n ≤ c) (hm : c ≤ 9223372036854775807) (hx : nxE b = 0) :
    Calls Tryd.prog 28 #[.slice A n c] w1 fun r w' => ∃ A1 m1 c1, r = .returned (.tuple #[.int .i64 (kindF b), .slice A1 m1 c1, .int .i64 ((m1 : Int) + 12), .int .i64 0]) ∧ m1 = cntF b ∧ Hid (Rd w' B A1 m1 (bodyF b)) ∧ m1 ≤ c1 ∧ c1 ≤ 9223372036854775807 ∧ Below w1.heap.size w1 w' :=
  (rn_any A n c b B w1 hr hB (by omega) hc hm).mono fun r w' q => by
    obtain ⟨A1, c1, m1, hm1, e, h1, h2, h3, h4⟩ := q.1 hx
    refine ⟨A1, m1, c1, e, hm1, ?_, h3, h4, h2⟩
    subst hm1
    exact h1

set_option maxRecDepth 10000 in
set_option maxHeartbeats 4000000 in
theorem RUnpack7_rest (A : Option Addr) (n c : Nat) (b : List UInt8) (w : World) (hr : Rd w w.heap.size A n b) (hn : n ≤ 100000) (hc : n ≤ c) (hm : c ≤ 9223372036854775807) (hx : nxE b = 0) (h2 : b.length ≠ cntF b + 12) :
    Calls Tryd.prog 16 #[.slice A n c] w (UnP7 w b) := by
  have HN0 := Lib.hid (fun (w1 : World) (h1 : Rd w1 w1.heap.size A n b) => RUnpack7_next A n c b _ w1 h1 (Nat.le_refl _) hn hc hm hx)
  have HE := Lib.hid (un_rest hx h2)
  have Hne := Lib.hid (show ¬ n = cntF b + 12 by rw [← hr.1]; exact h2)
  have Hr := Lib.hid hr
  obtain ⟨kd, hkd⟩ : ∃ kd, kd = kindF b := ⟨_, rfl⟩
  rw [← hkd] at HN0
  clear hr hx h2 hkd
  go_enter Tryd.func16, Tryd.ntmps16
  go_upto_region 1 with fail
  have HZ := Lib.hid (heap_alloc_new w (.cells #[.int .i64 0, .int .i64 0, .int .i64 0, .int .i64 0, .int .i64 0, .int .i64 0, .slice none 0 0] 24))
  have HB := al7 w (.cells #[.int .i64 0, .int .i64 0, .int .i64 0, .int .i64 0, .int .i64 0, .int .i64 0, .slice none 0 0] 24)
  replace Hr := Lib.hid ((Hr.out.below HB.out).more HB.out.size)
  generalize w.alloc (.cells #[.int .i64 0, .int .i64 0, .int .i64 0, .int .i64 0, .int .i64 0, .int .i64 0, .slice none 0 0] 24) = w1 at HZ HB Hr ⊢
  obtain ⟨Z, hZ⟩ : ∃ Z, Z = w.heap.size := ⟨_, rfl⟩
  have HZ0 := Lib.hid (show w.heap.size ≤ Z by omega)
  rw [← hZ] at HZ ⊢
  clear hZ
  have HN := Lib.hid (HN0.out w1 Hr.out)
  go_wp2_with fail
  refine HN.out.mono ?_
  rintro r w2 ⟨A1, m1, c1, rfl, hm1, hr1, hc1, hk1, hb⟩
  have Hbx := Lib.hid hb
  replace HZ := Lib.hid ((hb.block Z (lt_of_block HZ.out)).trans HZ.out)
  replace HB := bel7 HB Hbx
  have hp : ¬ ((m1 : Int) + 12 = (n : Int)) := by have := Hne.out; omega
  have hp2 : (((m1 : Int) + 12) != (n : Int)) = true := by simpa using hp
  clear hb Hbx HN HN0 Hr hr1 hm1 hk1 hc1 Hne
  obtain ⟨z0, z1, z2, z3, z4, z5, z6⟩ := ents_of HZ.out
  have y0 := free_blk HZ.out 0
  have y1 := free_blk HZ.out 1
  have y2 := free_blk HZ.out 2
  have y3 := free_blk HZ.out 3
  have y4 := free_blk HZ.out 4
  have y5 := free_blk HZ.out 5
  have y6 := free_blk HZ.out 6
  go_wp2_with fail
  have P9 := Lib.hid (put7_blk HZ.out (.int .i64 0) (.int .i64 0) (.int .i64 0) (.int .i64 0) (.int .i64 0) (.int .i64 0) (.slice none 0 0))
  have B9 := Lib.hid (put7_below (w := w2) (B := w.heap.size) HZ0.out (.int .i64 0) (.int .i64 0) (.int .i64 0) (.int .i64 0) (.int .i64 0) (.int .i64 0) (.slice none 0 0))
  have HB9 := Lib.hid (HB.out.trans B9.out)
  change bodyPost _ _ _ _ _ (put7 w2 Z (.int .i64 0) (.int .i64 0) (.int .i64 0) (.int .i64 0) (.int .i64 0) (.int .i64 0) (.slice none 0 0))
  generalize put7 w2 Z (.int .i64 0) (.int .i64 0) (.int .i64 0) (.int .i64 0) (.int .i64 0) (.int .i64 0) (.slice none 0 0) = w99 at P9 HB9 ⊢
  clear z0 z1 z2 z3 z4 z5 z6 y0 y1 y2 y3 y4 y5 y6 B9
  obtain ⟨z0, z1, z2, z3, z4, z5, z6⟩ := ents_of P9.out
  exact bodyPost_ret (v := .tuple #[eV 0 0 0 0 0 0 none 0 0, .int .i64 11]) (by simp [results, Tryd.results16, go_sem, z0, z1, z2, z3, z4, z5, z6]) rfl (UnP7.no (HE.out) (by first | assumption | decide) HB9)

/-- bytes below B stay where a block from B on is written -/
theorem rd_gb7 {w w' : World} {B g n : Nat} {A : Option Addr} {l : List UInt8} (h : Rd w B A n l) (hg : w.grownBy w' (some g)) (hB : B ≤ g) : Rd w' B A n l := by
  refine ⟨h.1, fun hn => ?_⟩
  obtain ⟨ad, e, hb, hc⟩ := h.2 hn
  refine ⟨ad, e, hb, fun j hj => ?_⟩
  refine (World.cell?_of_block ?_).trans (hc j hj)
  rw [addB]
  have hl := World.block_lt_of_cell? w _ (hc j hj)
  rw [addB] at hl
  exact hg.block _ hl fun q => by have := Option.some.inj q; omega

set_option maxRecDepth 10000 in
set_option maxHeartbeats 8000000 in
theorem RUnpack7_bad (A : Option Addr) (n c : Nat) (b : List UInt8) (w : World) (hr : Rd w w.heap.size A n b) (hn : n ≤ 100000) (hc : n ≤ c) (hm : c ≤ 9223372036854775807) (hx : nxE b = 0) (h2 : b.length = cntF b + 12) (h3 : ebE7 (bodyF b) ≠ 0) :
    Calls Tryd.prog 16 #[.slice A n c] w (UnP7 w b) := by
  have HN0 := Lib.hid (fun (w1 : World) (h1 : Rd w1 w.heap.size A n b) (hB : w.heap.size ≤ w1.heap.size) => RUnpack7_next A n c b _ w1 h1 hB hn hc hm hx)
  obtain ⟨kd, hkd⟩ : ∃ kd, kd = kindF b := ⟨_, rfl⟩
  obtain ⟨s0, e0⟩ : ∃ s, s = (bodyF b, (0 : Int)) := ⟨_, rfl⟩
  obtain ⟨s1, e1⟩ : ∃ s, s = rS7 s0 6 := ⟨_, rfl⟩
  obtain ⟨x0, f0⟩ : ∃ x, x = rN7 s0 6 := ⟨_, rfl⟩
  obtain ⟨s2, e2⟩ : ∃ s, s = rS7 s1 1 := ⟨_, rfl⟩
  obtain ⟨x1, f1⟩ : ∃ x, x = rN7 s1 1 := ⟨_, rfl⟩
  obtain ⟨s3, e3⟩ : ∃ s, s = rS7 s2 2 := ⟨_, rfl⟩
  obtain ⟨x2, f2⟩ : ∃ x, x = rN7 s2 2 := ⟨_, rfl⟩
  obtain ⟨s4, e4⟩ : ∃ s, s = rS7 s3 2 := ⟨_, rfl⟩
  obtain ⟨x3, f3⟩ : ∃ x, x = rN7 s3 2 := ⟨_, rfl⟩
  obtain ⟨s5, e5⟩ : ∃ s, s = rS7 s4 1 := ⟨_, rfl⟩
  obtain ⟨x4, f4⟩ : ∃ x, x = rN7 s4 1 := ⟨_, rfl⟩
  obtain ⟨D, f5⟩ : ∃ x, x = rB7 s5 128 := ⟨_, rfl⟩
  obtain ⟨s6, e6⟩ : ∃ s, s = rT7 s5 128 := ⟨_, rfl⟩
  obtain ⟨E, f6⟩ : ∃ E, E = endE s6.2 s6.1.length := ⟨_, rfl⟩
  have Hx : Hid (ofB7 (kindF b) (bodyF b) = ⟨x0, x1, kd, x2, x3, x4, D⟩ ∧ ebE7 (bodyF b) = E) := by
    subst f0 f1 f2 f3 f4 f5 f6 e1 e2 e3 e4 e5 e6 e0 hkd; exact ⟨rfl, rfl⟩
  have HD := Lib.hid (show D.length ≤ 128 by rw [f5]; exact rB_le _)
  have hC0 := Lib.hid (fun (g : Nat) (w1 : World) (h : Ref7 w1 g w.heap.size s0) => RNum7 g w.heap.size s0 6 w1 h)
  rw [← e1, ← f0] at hC0
  have hC1 := Lib.hid (fun (g : Nat) (w1 : World) (h : Ref7 w1 g w.heap.size s1) => RNum7 g w.heap.size s1 1 w1 h)
  rw [← e2, ← f1] at hC1
  have hC2 := Lib.hid (fun (g : Nat) (w1 : World) (h : Ref7 w1 g w.heap.size s2) => RNum7 g w.heap.size s2 2 w1 h)
  rw [← e3, ← f2] at hC2
  have hC3 := Lib.hid (fun (g : Nat) (w1 : World) (h : Ref7 w1 g w.heap.size s3) => RNum7 g w.heap.size s3 2 w1 h)
  rw [← e4, ← f3] at hC3
  have hC4 := Lib.hid (fun (g : Nat) (w1 : World) (h : Ref7 w1 g w.heap.size s4) => RNum7 g w.heap.size s4 1 w1 h)
  rw [← e5, ← f4] at hC4
  have hC5 := Lib.hid (fun (g : Nat) (w1 : World) (h : Ref7 w1 g w.heap.size s5) => RBlob7 g w.heap.size s5 128 w1 h)
  rw [← e6, ← f5] at hC5
  have hC6 := Lib.hid (fun (g : Nat) (w1 : World) (h : Ref7 w1 g w.heap.size s6) => REnd7 g w.heap.size s6 w1 h)
  rw [← f6] at hC6
  have Hs0 := Lib.hid (show clr s0.1 s0.2 = bodyF b ∧ s0.2 = 0 by rw [e0]; exact ⟨clr_0 _, rfl⟩)
  have hE0 : ¬ E = 0 := by rw [← Hx.out.2]; exact h3
  have hE1 : (E != 0) = true := by simpa using hE0
  have HE := Lib.hid (show unE7 b = E by rw [un_body hx h2 h3, Hx.out.2])
  have Hm := Lib.hid (show n = cntF b + 12 by rw [← hr.1]; exact h2)
  rw [← hkd] at HN0
  have Hr0 := Lib.hid hr
  have Hr := Lib.hid hr
  clear hr e0 e1 e2 e3 e4 e5 e6 f0 f1 f2 f3 f4 f5 f6 hkd hx h2 h3 hc hm hn
  go_enter Tryd.func16, Tryd.ntmps16
  go_upto_region 1 with fail
  have HZ := Lib.hid (heap_alloc_new w (.cells #[.int .i64 0, .int .i64 0, .int .i64 0, .int .i64 0, .int .i64 0, .int .i64 0, .slice none 0 0] 24))
  have HB := al7 w (.cells #[.int .i64 0, .int .i64 0, .int .i64 0, .int .i64 0, .int .i64 0, .int .i64 0, .slice none 0 0] 24)
  replace Hr := Lib.hid ((Hr.out.below HB.out).more HB.out.size)
  generalize w.alloc (.cells #[.int .i64 0, .int .i64 0, .int .i64 0, .int .i64 0, .int .i64 0, .int .i64 0, .slice none 0 0] 24) = w1 at HZ HB Hr ⊢
  obtain ⟨Z, hZ⟩ : ∃ Z, Z = w.heap.size := ⟨_, rfl⟩
  have HZ0 := Lib.hid (show w.heap.size ≤ Z by omega)
  rw [← hZ] at HZ ⊢
  clear hZ
  have HN := Lib.hid (HN0.out w1 (Hr0.out.below HB.out) HB.out.size)
  go_wp2_with fail
  refine HN.out.mono ?_
  rintro r w2 ⟨A1, m1, c1, rfl, hm1, hr1, hc1, hk1, hb⟩
  have Hbx := Lib.hid hb
  replace HZ := Lib.hid ((hb.block Z (lt_of_block HZ.out)).trans HZ.out)
  replace HB := bel7 HB Hbx
  clear hb Hbx HN HN0 Hr Hr0
  have hp : (m1 : Int) + 12 = (n : Int) := by have := Hm.out; omega
  rw [hp]
  have hp2 : ((n : Int) != (n : Int)) = false := by simp
  clear hp hm1
  go_upto_region 7 with fail
  have HRb := Lib.hid (heap_alloc_new w2 (.cells #[.slice A1 m1 c1, .int .i64 0] 48))
  have Ha := al7 w2 (.cells #[.slice A1 m1 c1, .int .i64 0] 48)
  have HR : Hid (Ref7 (w2.alloc (.cells #[.slice A1 m1 c1, .int .i64 0] 48)) w2.heap.size w.heap.size s0) := by
    refine ⟨A1, m1, c1, ?_, hc1, hk1, ?_, HB.out.size⟩
    · rw [Hs0.out.2]; exact HRb.out
    · rw [Hs0.out.1]; exact hr1.out.below (Ha.out.mono HB.out.size)
  have Hzg := Lib.hid (show Z < w2.heap.size from lt_of_block HZ.out)
  have Hg0 := Lib.hid HB.out.size
  replace HZ := Lib.hid ((Ha.out.block Z (lt_of_block HZ.out)).trans HZ.out)
  replace HB := bel7 HB Ha
  have Hgs := Lib.hid (show w2.heap.size < (w2.alloc (.cells #[.slice A1 m1 c1, .int .i64 0] 48)).heap.size by simp)
  clear Ha HRb Hs0 hr1
  generalize w2.alloc (.cells #[.slice A1 m1 c1, .int .i64 0] 48) = w3 at HR HZ HB Hgs ⊢
  obtain ⟨g, hge⟩ : ∃ g, g = w2.heap.size := ⟨_, rfl⟩
  rw [← hge] at HR Hzg Hg0 Hgs ⊢
  clear hge hp2
  go_upto_region 8 with fail
  have HH := Lib.hid (heap_alloc_new w3 (.cells #[.int .i64 0, .int .i64 0, .int .i64 kd, .int .i64 0, .int .i64 0, .int .i64 0, .slice none 0 0] 24))
  have Ha := al7 w3 (.cells #[.int .i64 0, .int .i64 0, .int .i64 kd, .int .i64 0, .int .i64 0, .int .i64 0, .slice none 0 0] 24)
  replace HZ := Lib.hid ((Ha.out.block Z (lt_of_block HZ.out)).trans HZ.out)
  replace HB := bel7 HB Ha
  replace HR := Lib.hid (HR.out.below Ha.out)
  clear Ha
  generalize w3.alloc (.cells #[.int .i64 0, .int .i64 0, .int .i64 kd, .int .i64 0, .int .i64 0, .int .i64 0, .slice none 0 0] 24) = w4 at HH HZ HB HR ⊢
  obtain ⟨H, hH⟩ : ∃ H, H = w3.heap.size := ⟨_, rfl⟩
  have HgH := Lib.hid (show g < H by rw [hH]; exact Hgs.out)
  have HH0 := Lib.hid (show w.heap.size ≤ H by have := Hg0.out; have := HgH.out; omega)
  rw [← hH] at HH ⊢
  clear hH Hgs
  go_wp2_with fail
  refine (hC0.out g _ HR.out).mono ?_
  rintro r wa ⟨rfl, hr, hg⟩
  replace HR := Lib.hid hr
  replace HH := Lib.hid (gb7 hg (by have := HgH.out; omega) HH.out)
  replace HZ := Lib.hid (gb7 hg (by have := Hzg.out; omega) HZ.out)
  replace HB := below_gb7 HB hg Hg0.out
  clear hr hg hC0
  have k0 := (ents_of HH.out).1
  have y0 := free_blk HH.out 0
  go_upto_region 9 with fail
  have HG := Lib.hid (gset7 wa H 0 (.int .i64 x0))
  replace HH := Lib.hid (show (wa.setCell ⟨H, 0, none⟩ (.int .i64 x0)).heap[H]? = some (.cells #[.int .i64 x0, .int .i64 0, .int .i64 kd, .int .i64 0, .int .i64 0, .int .i64 0, .slice none 0 0] 24 (0, 0)) from set_blk HH.out 0 _)
  replace HZ := Lib.hid (gb7 HG.out (by have := HgH.out; have := Hzg.out; omega) HZ.out)
  replace HB := below_gb7 HB HG.out HH0.out
  replace HR := Lib.hid (HR.out.past HgH.out 0 (.int .i64 x0))
  clear k0 y0 HG
  generalize wa.setCell ⟨H, 0, none⟩ (.int .i64 x0) = w5 at HH HZ HB HR ⊢
  go_wp2_with fail
  refine (hC1.out g _ HR.out).mono ?_
  rintro r wa ⟨rfl, hr, hg⟩
  replace HR := Lib.hid hr
  replace HH := Lib.hid (gb7 hg (by have := HgH.out; omega) HH.out)
  replace HZ := Lib.hid (gb7 hg (by have := Hzg.out; omega) HZ.out)
  replace HB := below_gb7 HB hg Hg0.out
  clear hr hg hC1
  have k1 := (ents_of HH.out).2.1
  have y1 := free_blk HH.out 1
  go_upto_region 10 with fail
  have HG := Lib.hid (gset7 wa H 1 (.int .i64 x1))
  replace HH := Lib.hid (show (wa.setCell ⟨H, 1, none⟩ (.int .i64 x1)).heap[H]? = some (.cells #[.int .i64 x0, .int .i64 x1, .int .i64 kd, .int .i64 0, .int .i64 0, .int .i64 0, .slice none 0 0] 24 (0, 0)) from set_blk HH.out 1 _)
  replace HZ := Lib.hid (gb7 HG.out (by have := HgH.out; have := Hzg.out; omega) HZ.out)
  replace HB := below_gb7 HB HG.out HH0.out
  replace HR := Lib.hid (HR.out.past HgH.out 1 (.int .i64 x1))
  clear k1 y1 HG
  generalize wa.setCell ⟨H, 1, none⟩ (.int .i64 x1) = w6 at HH HZ HB HR ⊢
  go_wp2_with fail
  refine (hC2.out g _ HR.out).mono ?_
  rintro r wa ⟨rfl, hr, hg⟩
  replace HR := Lib.hid hr
  replace HH := Lib.hid (gb7 hg (by have := HgH.out; omega) HH.out)
  replace HZ := Lib.hid (gb7 hg (by have := Hzg.out; omega) HZ.out)
  replace HB := below_gb7 HB hg Hg0.out
  clear hr hg hC2
  have k3 := (ents_of HH.out).2.2.2.1
  have y3 := free_blk HH.out 3
  go_upto_region 11 with fail
  have HG := Lib.hid (gset7 wa H 3 (.int .i64 x2))
  replace HH := Lib.hid (show (wa.setCell ⟨H, 3, none⟩ (.int .i64 x2)).heap[H]? = some (.cells #[.int .i64 x0, .int .i64 x1, .int .i64 kd, .int .i64 x2, .int .i64 0, .int .i64 0, .slice none 0 0] 24 (0, 0)) from set_blk HH.out 3 _)
  replace HZ := Lib.hid (gb7 HG.out (by have := HgH.out; have := Hzg.out; omega) HZ.out)
  replace HB := below_gb7 HB HG.out HH0.out
  replace HR := Lib.hid (HR.out.past HgH.out 3 (.int .i64 x2))
  clear k3 y3 HG
  generalize wa.setCell ⟨H, 3, none⟩ (.int .i64 x2) = w7 at HH HZ HB HR ⊢
  go_wp2_with fail
  refine (hC3.out g _ HR.out).mono ?_
  rintro r wa ⟨rfl, hr, hg⟩
  replace HR := Lib.hid hr
  replace HH := Lib.hid (gb7 hg (by have := HgH.out; omega) HH.out)
  replace HZ := Lib.hid (gb7 hg (by have := Hzg.out; omega) HZ.out)
  replace HB := below_gb7 HB hg Hg0.out
  clear hr hg hC3
  have k4 := (ents_of HH.out).2.2.2.2.1
  have y4 := free_blk HH.out 4
  go_upto_region 12 with fail
  have HG := Lib.hid (gset7 wa H 4 (.int .i64 x3))
  replace HH := Lib.hid (show (wa.setCell ⟨H, 4, none⟩ (.int .i64 x3)).heap[H]? = some (.cells #[.int .i64 x0, .int .i64 x1, .int .i64 kd, .int .i64 x2, .int .i64 x3, .int .i64 0, .slice none 0 0] 24 (0, 0)) from set_blk HH.out 4 _)
  replace HZ := Lib.hid (gb7 HG.out (by have := HgH.out; have := Hzg.out; omega) HZ.out)
  replace HB := below_gb7 HB HG.out HH0.out
  replace HR := Lib.hid (HR.out.past HgH.out 4 (.int .i64 x3))
  clear k4 y4 HG
  generalize wa.setCell ⟨H, 4, none⟩ (.int .i64 x3) = w8 at HH HZ HB HR ⊢
  go_wp2_with fail
  refine (hC4.out g _ HR.out).mono ?_
  rintro r wa ⟨rfl, hr, hg⟩
  replace HR := Lib.hid hr
  replace HH := Lib.hid (gb7 hg (by have := HgH.out; omega) HH.out)
  replace HZ := Lib.hid (gb7 hg (by have := Hzg.out; omega) HZ.out)
  replace HB := below_gb7 HB hg Hg0.out
  clear hr hg hC4
  have k5 := (ents_of HH.out).2.2.2.2.2.1
  have y5 := free_blk HH.out 5
  go_upto_region 13 with fail
  have HG := Lib.hid (gset7 wa H 5 (.int .i64 x4))
  replace HH := Lib.hid (show (wa.setCell ⟨H, 5, none⟩ (.int .i64 x4)).heap[H]? = some (.cells #[.int .i64 x0, .int .i64 x1, .int .i64 kd, .int .i64 x2, .int .i64 x3, .int .i64 x4, .slice none 0 0] 24 (0, 0)) from set_blk HH.out 5 _)
  replace HZ := Lib.hid (gb7 HG.out (by have := HgH.out; have := Hzg.out; omega) HZ.out)
  replace HB := below_gb7 HB HG.out HH0.out
  replace HR := Lib.hid (HR.out.past HgH.out 5 (.int .i64 x4))
  clear k5 y5 HG
  generalize wa.setCell ⟨H, 5, none⟩ (.int .i64 x4) = w9 at HH HZ HB HR ⊢
  obtain ⟨dn, hdn⟩ : ∃ dn, dn = D.length := ⟨_, rfl⟩
  have hdn2 : dn ≤ 128 := by rw [hdn]; exact HD.out
  have Hdn := Lib.hid hdn
  clear hdn HD
  go_wp2_with fail
  refine (hC5.out g _ HR.out).mono ?_
  rintro r wa ⟨⟨AD, cD, rfl, hd1, hd2, hd3, hg⟩, hr⟩
  rw [← Hdn.out] at hd1 hd3 ⊢
  replace HR := Lib.hid hr
  replace HH := Lib.hid (gb7 hg (by have := HgH.out; omega) HH.out)
  replace HZ := Lib.hid (gb7 hg (by have := Hzg.out; omega) HZ.out)
  replace HB := below_gb7 HB hg Hg0.out
  have HDr := Lib.hid hd3
  clear hr hg hC5 hd3
  have k6 := (ents_of HH.out).2.2.2.2.2.2
  have y6 := free_blk HH.out 6
  go_upto_region 14 with fail
  have HG := Lib.hid (gset7 wa H 6 (.slice AD dn cD))
  replace HH := Lib.hid (show (wa.setCell ⟨H, 6, none⟩ (.slice AD dn cD)).heap[H]? = some (.cells #[.int .i64 x0, .int .i64 x1, .int .i64 kd, .int .i64 x2, .int .i64 x3, .int .i64 x4, .slice AD dn cD] 24 (0, 0)) from set_blk HH.out 6 _)
  replace HZ := Lib.hid (gb7 HG.out (by have := HgH.out; have := Hzg.out; omega) HZ.out)
  replace HB := below_gb7 HB HG.out HH0.out
  replace HR := Lib.hid (HR.out.past HgH.out 6 (.slice AD dn cD))
  replace HDr := Lib.hid (rd_gb7 HDr.out HG.out HH0.out)
  clear k6 y6 HG
  generalize wa.setCell ⟨H, 6, none⟩ (.slice AD dn cD) = w10 at HH HZ HB HR HDr ⊢
  go_wp2_with fail
  refine (hC6.out g _ HR.out).mono ?_
  rintro r w11 ⟨rfl, hg⟩
  replace HH := Lib.hid (gb7 hg (by have := HgH.out; omega) HH.out)
  replace HZ := Lib.hid (gb7 hg (by have := Hzg.out; omega) HZ.out)
  replace HDr := Lib.hid (rd_gb7 HDr.out hg Hg0.out)
  replace HB := below_gb7 HB hg Hg0.out
  clear hg hC6 HR
  obtain ⟨z0, z1, z2, z3, z4, z5, z6⟩ := ents_of HZ.out
  have y0 := free_blk HZ.out 0
  have y1 := free_blk HZ.out 1
  have y2 := free_blk HZ.out 2
  have y3 := free_blk HZ.out 3
  have y4 := free_blk HZ.out 4
  have y5 := free_blk HZ.out 5
  have y6 := free_blk HZ.out 6
  go_wp2_with fail
  have P9 := Lib.hid (put7_blk HZ.out (.int .i64 0) (.int .i64 0) (.int .i64 0) (.int .i64 0) (.int .i64 0) (.int .i64 0) (.slice none 0 0))
  have B9 := Lib.hid (put7_below (w := w11) (B := w.heap.size) HZ0.out (.int .i64 0) (.int .i64 0) (.int .i64 0) (.int .i64 0) (.int .i64 0) (.int .i64 0) (.slice none 0 0))
  have HB9 := Lib.hid (HB.out.trans B9.out)
  change bodyPost _ _ _ _ _ (put7 w11 Z (.int .i64 0) (.int .i64 0) (.int .i64 0) (.int .i64 0) (.int .i64 0) (.int .i64 0) (.slice none 0 0))
  generalize put7 w11 Z (.int .i64 0) (.int .i64 0) (.int .i64 0) (.int .i64 0) (.int .i64 0) (.int .i64 0) (.slice none 0 0) = w99 at P9 HB9 ⊢
  clear z0 z1 z2 z3 z4 z5 z6 y0 y1 y2 y3 y4 y5 y6 B9
  obtain ⟨z0, z1, z2, z3, z4, z5, z6⟩ := ents_of P9.out
  exact bodyPost_ret (v := .tuple #[eV 0 0 0 0 0 0 none 0 0, .int .i64 E]) (by simp [results, Tryd.results16, go_sem, z0, z1, z2, z3, z4, z5, z6]) rfl (UnP7.no (HE.out) (by first | assumption | decide) HB9)

set_option maxRecDepth 10000 in
set_option maxHeartbeats 8000000 in
theorem RUnpack7_ok (A : Option Addr) (n c : Nat) (b : List UInt8) (w : World) (hr : Rd w w.heap.size A n b) (hn : n ≤ 100000) (hc : n ≤ c) (hm : c ≤ 9223372036854775807) (hx : nxE b = 0) (h2 : b.length = cntF b + 12) (h3 : ebE7 (bodyF b) = 0) :
    Calls Tryd.prog 16 #[.slice A n c] w (UnP7 w b) := by
  have HN0 := Lib.hid (fun (w1 : World) (h1 : Rd w1 w.heap.size A n b) (hB : w.heap.size ≤ w1.heap.size) => RUnpack7_next A n c b _ w1 h1 hB hn hc hm hx)
  obtain ⟨kd, hkd⟩ : ∃ kd, kd = kindF b := ⟨_, rfl⟩
  obtain ⟨s0, e0⟩ : ∃ s, s = (bodyF b, (0 : Int)) := ⟨_, rfl⟩
  obtain ⟨s1, e1⟩ : ∃ s, s = rS7 s0 6 := ⟨_, rfl⟩
  obtain ⟨x0, f0⟩ : ∃ x, x = rN7 s0 6 := ⟨_, rfl⟩
  obtain ⟨s2, e2⟩ : ∃ s, s = rS7 s1 1 := ⟨_, rfl⟩
  obtain ⟨x1, f1⟩ : ∃ x, x = rN7 s1 1 := ⟨_, rfl⟩
  obtain ⟨s3, e3⟩ : ∃ s, s = rS7 s2 2 := ⟨_, rfl⟩
  obtain ⟨x2, f2⟩ : ∃ x, x = rN7 s2 2 := ⟨_, rfl⟩
  obtain ⟨s4, e4⟩ : ∃ s, s = rS7 s3 2 := ⟨_, rfl⟩
  obtain ⟨x3, f3⟩ : ∃ x, x = rN7 s3 2 := ⟨_, rfl⟩
  obtain ⟨s5, e5⟩ : ∃ s, s = rS7 s4 1 := ⟨_, rfl⟩
  obtain ⟨x4, f4⟩ : ∃ x, x = rN7 s4 1 := ⟨_, rfl⟩
  obtain ⟨D, f5⟩ : ∃ x, x = rB7 s5 128 := ⟨_, rfl⟩
  obtain ⟨s6, e6⟩ : ∃ s, s = rT7 s5 128 := ⟨_, rfl⟩
  obtain ⟨E, f6⟩ : ∃ E, E = endE s6.2 s6.1.length := ⟨_, rfl⟩
  have Hx : Hid (ofB7 (kindF b) (bodyF b) = ⟨x0, x1, kd, x2, x3, x4, D⟩ ∧ ebE7 (bodyF b) = E) := by
    subst f0 f1 f2 f3 f4 f5 f6 e1 e2 e3 e4 e5 e6 e0 hkd; exact ⟨rfl, rfl⟩
  have HD := Lib.hid (show D.length ≤ 128 by rw [f5]; exact rB_le _)
  have hC0 := Lib.hid (fun (g : Nat) (w1 : World) (h : Ref7 w1 g w.heap.size s0) => RNum7 g w.heap.size s0 6 w1 h)
  rw [← e1, ← f0] at hC0
  have hC1 := Lib.hid (fun (g : Nat) (w1 : World) (h : Ref7 w1 g w.heap.size s1) => RNum7 g w.heap.size s1 1 w1 h)
  rw [← e2, ← f1] at hC1
  have hC2 := Lib.hid (fun (g : Nat) (w1 : World) (h : Ref7 w1 g w.heap.size s2) => RNum7 g w.heap.size s2 2 w1 h)
  rw [← e3, ← f2] at hC2
  have hC3 := Lib.hid (fun (g : Nat) (w1 : World) (h : Ref7 w1 g w.heap.size s3) => RNum7 g w.heap.size s3 2 w1 h)
  rw [← e4, ← f3] at hC3
  have hC4 := Lib.hid (fun (g : Nat) (w1 : World) (h : Ref7 w1 g w.heap.size s4) => RNum7 g w.heap.size s4 1 w1 h)
  rw [← e5, ← f4] at hC4
  have hC5 := Lib.hid (fun (g : Nat) (w1 : World) (h : Ref7 w1 g w.heap.size s5) => RBlob7 g w.heap.size s5 128 w1 h)
  rw [← e6, ← f5] at hC5
  have hC6 := Lib.hid (fun (g : Nat) (w1 : World) (h : Ref7 w1 g w.heap.size s6) => REnd7 g w.heap.size s6 w1 h)
  rw [← f6] at hC6
  have Hs0 := Lib.hid (show clr s0.1 s0.2 = bodyF b ∧ s0.2 = 0 by rw [e0]; exact ⟨clr_0 _, rfl⟩)
  have hE0 : E = 0 := by rw [← Hx.out.2]; exact h3
  rw [hE0] at hC6
  have HE := Lib.hid (show unE7 b = if May7 ⟨x0, x1, kd, x2, x3, x4, D⟩ ∧ cln7 ⟨x0, x1, kd, x2, x3, x4, D⟩ = ⟨x0, x1, kd, x2, x3, x4, D⟩ then 0 else 70 by rw [un_may hx h2 h3, Hx.out.1])
  clear hE0
  have Hm := Lib.hid (show n = cntF b + 12 by rw [← hr.1]; exact h2)
  rw [← hkd] at HN0
  have Hr0 := Lib.hid hr
  have Hr := Lib.hid hr
  clear hr e0 e1 e2 e3 e4 e5 e6 f0 f1 f2 f3 f4 f5 f6 hkd hx h2 h3 hc hm hn
  go_enter Tryd.func16, Tryd.ntmps16
  go_upto_region 1 with fail
  have HZ := Lib.hid (heap_alloc_new w (.cells #[.int .i64 0, .int .i64 0, .int .i64 0, .int .i64 0, .int .i64 0, .int .i64 0, .slice none 0 0] 24))
  have HB := al7 w (.cells #[.int .i64 0, .int .i64 0, .int .i64 0, .int .i64 0, .int .i64 0, .int .i64 0, .slice none 0 0] 24)
  replace Hr := Lib.hid ((Hr.out.below HB.out).more HB.out.size)
  generalize w.alloc (.cells #[.int .i64 0, .int .i64 0, .int .i64 0, .int .i64 0, .int .i64 0, .int .i64 0, .slice none 0 0] 24) = w1 at HZ HB Hr ⊢
  obtain ⟨Z, hZ⟩ : ∃ Z, Z = w.heap.size := ⟨_, rfl⟩
  have HZ0 := Lib.hid (show w.heap.size ≤ Z by omega)
  rw [← hZ] at HZ ⊢
  clear hZ
  have HN := Lib.hid (HN0.out w1 (Hr0.out.below HB.out) HB.out.size)
  go_wp2_with fail
  refine HN.out.mono ?_
  rintro r w2 ⟨A1, m1, c1, rfl, hm1, hr1, hc1, hk1, hb⟩
  have Hbx := Lib.hid hb
  replace HZ := Lib.hid ((hb.block Z (lt_of_block HZ.out)).trans HZ.out)
  replace HB := bel7 HB Hbx
  clear hb Hbx HN HN0 Hr Hr0
  have hp : (m1 : Int) + 12 = (n : Int) := by have := Hm.out; omega
  rw [hp]
  have hp2 : ((n : Int) != (n : Int)) = false := by simp
  clear hp hm1
  go_upto_region 7 with fail
  have HRb := Lib.hid (heap_alloc_new w2 (.cells #[.slice A1 m1 c1, .int .i64 0] 48))
  have Ha := al7 w2 (.cells #[.slice A1 m1 c1, .int .i64 0] 48)
  have HR : Hid (Ref7 (w2.alloc (.cells #[.slice A1 m1 c1, .int .i64 0] 48)) w2.heap.size w.heap.size s0) := by
    refine ⟨A1, m1, c1, ?_, hc1, hk1, ?_, HB.out.size⟩
    · rw [Hs0.out.2]; exact HRb.out
    · rw [Hs0.out.1]; exact hr1.out.below (Ha.out.mono HB.out.size)
  have Hzg := Lib.hid (show Z < w2.heap.size from lt_of_block HZ.out)
  have Hg0 := Lib.hid HB.out.size
  replace HZ := Lib.hid ((Ha.out.block Z (lt_of_block HZ.out)).trans HZ.out)
  replace HB := bel7 HB Ha
  have Hgs := Lib.hid (show w2.heap.size < (w2.alloc (.cells #[.slice A1 m1 c1, .int .i64 0] 48)).heap.size by simp)
  clear Ha HRb Hs0 hr1
  generalize w2.alloc (.cells #[.slice A1 m1 c1, .int .i64 0] 48) = w3 at HR HZ HB Hgs ⊢
  obtain ⟨g, hge⟩ : ∃ g, g = w2.heap.size := ⟨_, rfl⟩
  rw [← hge] at HR Hzg Hg0 Hgs ⊢
  clear hge hp2
  go_upto_region 8 with fail
  have HH := Lib.hid (heap_alloc_new w3 (.cells #[.int .i64 0, .int .i64 0, .int .i64 kd, .int .i64 0, .int .i64 0, .int .i64 0, .slice none 0 0] 24))
  have Ha := al7 w3 (.cells #[.int .i64 0, .int .i64 0, .int .i64 kd, .int .i64 0, .int .i64 0, .int .i64 0, .slice none 0 0] 24)
  replace HZ := Lib.hid ((Ha.out.block Z (lt_of_block HZ.out)).trans HZ.out)
  replace HB := bel7 HB Ha
  replace HR := Lib.hid (HR.out.below Ha.out)
  clear Ha
  generalize w3.alloc (.cells #[.int .i64 0, .int .i64 0, .int .i64 kd, .int .i64 0, .int .i64 0, .int .i64 0, .slice none 0 0] 24) = w4 at HH HZ HB HR ⊢
  obtain ⟨H, hH⟩ : ∃ H, H = w3.heap.size := ⟨_, rfl⟩
  have HgH := Lib.hid (show g < H by rw [hH]; exact Hgs.out)
  have HH0 := Lib.hid (show w.heap.size ≤ H by have := Hg0.out; have := HgH.out; omega)
  rw [← hH] at HH ⊢
  clear hH Hgs
  go_wp2_with fail
  refine (hC0.out g _ HR.out).mono ?_
  rintro r wa ⟨rfl, hr, hg⟩
  replace HR := Lib.hid hr
  replace HH := Lib.hid (gb7 hg (by have := HgH.out; omega) HH.out)
  replace HZ := Lib.hid (gb7 hg (by have := Hzg.out; omega) HZ.out)
  replace HB := below_gb7 HB hg Hg0.out
  clear hr hg hC0
  have k0 := (ents_of HH.out).1
  have y0 := free_blk HH.out 0
  go_upto_region 9 with fail
  have HG := Lib.hid (gset7 wa H 0 (.int .i64 x0))
  replace HH := Lib.hid (show (wa.setCell ⟨H, 0, none⟩ (.int .i64 x0)).heap[H]? = some (.cells #[.int .i64 x0, .int .i64 0, .int .i64 kd, .int .i64 0, .int .i64 0, .int .i64 0, .slice none 0 0] 24 (0, 0)) from set_blk HH.out 0 _)
  replace HZ := Lib.hid (gb7 HG.out (by have := HgH.out; have := Hzg.out; omega) HZ.out)
  replace HB := below_gb7 HB HG.out HH0.out
  replace HR := Lib.hid (HR.out.past HgH.out 0 (.int .i64 x0))
  clear k0 y0 HG
  generalize wa.setCell ⟨H, 0, none⟩ (.int .i64 x0) = w5 at HH HZ HB HR ⊢
  go_wp2_with fail
  refine (hC1.out g _ HR.out).mono ?_
  rintro r wa ⟨rfl, hr, hg⟩
  replace HR := Lib.hid hr
  replace HH := Lib.hid (gb7 hg (by have := HgH.out; omega) HH.out)
  replace HZ := Lib.hid (gb7 hg (by have := Hzg.out; omega) HZ.out)
  replace HB := below_gb7 HB hg Hg0.out
  clear hr hg hC1
  have k1 := (ents_of HH.out).2.1
  have y1 := free_blk HH.out 1
  go_upto_region 10 with fail
  have HG := Lib.hid (gset7 wa H 1 (.int .i64 x1))
  replace HH := Lib.hid (show (wa.setCell ⟨H, 1, none⟩ (.int .i64 x1)).heap[H]? = some (.cells #[.int .i64 x0, .int .i64 x1, .int .i64 kd, .int .i64 0, .int .i64 0, .int .i64 0, .slice none 0 0] 24 (0, 0)) from set_blk HH.out 1 _)
  replace HZ := Lib.hid (gb7 HG.out (by have := HgH.out; have := Hzg.out; omega) HZ.out)
  replace HB := below_gb7 HB HG.out HH0.out
  replace HR := Lib.hid (HR.out.past HgH.out 1 (.int .i64 x1))
  clear k1 y1 HG
  generalize wa.setCell ⟨H, 1, none⟩ (.int .i64 x1) = w6 at HH HZ HB HR ⊢
  go_wp2_with fail
  refine (hC2.out g _ HR.out).mono ?_
  rintro r wa ⟨rfl, hr, hg⟩
  replace HR := Lib.hid hr
  replace HH := Lib.hid (gb7 hg (by have := HgH.out; omega) HH.out)
  replace HZ := Lib.hid (gb7 hg (by have := Hzg.out; omega) HZ.out)
  replace HB := below_gb7 HB hg Hg0.out
  clear hr hg hC2
  have k3 := (ents_of HH.out).2.2.2.1
  have y3 := free_blk HH.out 3
  go_upto_region 11 with fail
  have HG := Lib.hid (gset7 wa H 3 (.int .i64 x2))
  replace HH := Lib.hid (show (wa.setCell ⟨H, 3, none⟩ (.int .i64 x2)).heap[H]? = some (.cells #[.int .i64 x0, .int .i64 x1, .int .i64 kd, .int .i64 x2, .int .i64 0, .int .i64 0, .slice none 0 0] 24 (0, 0)) from set_blk HH.out 3 _)
  replace HZ := Lib.hid (gb7 HG.out (by have := HgH.out; have := Hzg.out; omega) HZ.out)
  replace HB := below_gb7 HB HG.out HH0.out
  replace HR := Lib.hid (HR.out.past HgH.out 3 (.int .i64 x2))
  clear k3 y3 HG
  generalize wa.setCell ⟨H, 3, none⟩ (.int .i64 x2) = w7 at HH HZ HB HR ⊢
  go_wp2_with fail
  refine (hC3.out g _ HR.out).mono ?_
  rintro r wa ⟨rfl, hr, hg⟩
  replace HR := Lib.hid hr
  replace HH := Lib.hid (gb7 hg (by have := HgH.out; omega) HH.out)
  replace HZ := Lib.hid (gb7 hg (by have := Hzg.out; omega) HZ.out)
  replace HB := below_gb7 HB hg Hg0.out
  clear hr hg hC3
  have k4 := (ents_of HH.out).2.2.2.2.1
  have y4 := free_blk HH.out 4
  go_upto_region 12 with fail
  have HG := Lib.hid (gset7 wa H 4 (.int .i64 x3))
  replace HH := Lib.hid (show (wa.setCell ⟨H, 4, none⟩ (.int .i64 x3)).heap[H]? = some (.cells #[.int .i64 x0, .int .i64 x1, .int .i64 kd, .int .i64 x2, .int .i64 x3, .int .i64 0, .slice none 0 0] 24 (0, 0)) from set_blk HH.out 4 _)
  replace HZ := Lib.hid (gb7 HG.out (by have := HgH.out; have := Hzg.out; omega) HZ.out)
  replace HB := below_gb7 HB HG.out HH0.out
  replace HR := Lib.hid (HR.out.past HgH.out 4 (.int .i64 x3))
  clear k4 y4 HG
  generalize wa.setCell ⟨H, 4, none⟩ (.int .i64 x3) = w8 at HH HZ HB HR ⊢
  go_wp2_with fail
  refine (hC4.out g _ HR.out).mono ?_
  rintro r wa ⟨rfl, hr, hg⟩
  replace HR := Lib.hid hr
  replace HH := Lib.hid (gb7 hg (by have := HgH.out; omega) HH.out)
  replace HZ := Lib.hid (gb7 hg (by have := Hzg.out; omega) HZ.out)
  replace HB := below_gb7 HB hg Hg0.out
  clear hr hg hC4
  have k5 := (ents_of HH.out).2.2.2.2.2.1
  have y5 := free_blk HH.out 5
  go_upto_region 13 with fail
  have HG := Lib.hid (gset7 wa H 5 (.int .i64 x4))
  replace HH := Lib.hid (show (wa.setCell ⟨H, 5, none⟩ (.int .i64 x4)).heap[H]? = some (.cells #[.int .i64 x0, .int .i64 x1, .int .i64 kd, .int .i64 x2, .int .i64 x3, .int .i64 x4, .slice none 0 0] 24 (0, 0)) from set_blk HH.out 5 _)
  replace HZ := Lib.hid (gb7 HG.out (by have := HgH.out; have := Hzg.out; omega) HZ.out)
  replace HB := below_gb7 HB HG.out HH0.out
  replace HR := Lib.hid (HR.out.past HgH.out 5 (.int .i64 x4))
  clear k5 y5 HG
  generalize wa.setCell ⟨H, 5, none⟩ (.int .i64 x4) = w9 at HH HZ HB HR ⊢
  obtain ⟨dn, hdn⟩ : ∃ dn, dn = D.length := ⟨_, rfl⟩
  have hdn2 : dn ≤ 128 := by rw [hdn]; exact HD.out
  have Hdn := Lib.hid hdn
  clear hdn HD
  go_wp2_with fail
  refine (hC5.out g _ HR.out).mono ?_
  rintro r wa ⟨⟨AD, cD, rfl, hd1, hd2, hd3, hg⟩, hr⟩
  rw [← Hdn.out] at hd1 hd3 ⊢
  replace HR := Lib.hid hr
  replace HH := Lib.hid (gb7 hg (by have := HgH.out; omega) HH.out)
  replace HZ := Lib.hid (gb7 hg (by have := Hzg.out; omega) HZ.out)
  replace HB := below_gb7 HB hg Hg0.out
  have HDr := Lib.hid hd3
  clear hr hg hC5 hd3
  have k6 := (ents_of HH.out).2.2.2.2.2.2
  have y6 := free_blk HH.out 6
  go_upto_region 14 with fail
  have HG := Lib.hid (gset7 wa H 6 (.slice AD dn cD))
  replace HH := Lib.hid (show (wa.setCell ⟨H, 6, none⟩ (.slice AD dn cD)).heap[H]? = some (.cells #[.int .i64 x0, .int .i64 x1, .int .i64 kd, .int .i64 x2, .int .i64 x3, .int .i64 x4, .slice AD dn cD] 24 (0, 0)) from set_blk HH.out 6 _)
  replace HZ := Lib.hid (gb7 HG.out (by have := HgH.out; have := Hzg.out; omega) HZ.out)
  replace HB := below_gb7 HB HG.out HH0.out
  replace HR := Lib.hid (HR.out.past HgH.out 6 (.slice AD dn cD))
  replace HDr := Lib.hid (rd_gb7 HDr.out HG.out HH0.out)
  clear k6 y6 HG
  generalize wa.setCell ⟨H, 6, none⟩ (.slice AD dn cD) = w10 at HH HZ HB HR HDr ⊢
  go_wp2_with fail
  refine (hC6.out g _ HR.out).mono ?_
  rintro r w11 ⟨rfl, hg⟩
  replace HH := Lib.hid (gb7 hg (by have := HgH.out; omega) HH.out)
  replace HZ := Lib.hid (gb7 hg (by have := Hzg.out; omega) HZ.out)
  replace HDr := Lib.hid (rd_gb7 HDr.out hg Hg0.out)
  replace HB := below_gb7 HB hg Hg0.out
  clear hg hC6 HR
  obtain ⟨e, he⟩ : ∃ e, e = cln7 ⟨x0, x1, kd, x2, x3, x4, D⟩ := ⟨_, rfl⟩
  have hes : e.s = x0 := by rw [he]; rfl
  have heo : e.o = x1 := by rw [he]; rfl
  have hek : e.k = kd := by rw [he]; rfl
  obtain ⟨f, hf⟩ : ∃ f, f = e.f := ⟨_, rfl⟩
  obtain ⟨l, hl⟩ : ∃ l, l = e.l := ⟨_, rfl⟩
  obtain ⟨p, hp⟩ : ∃ p, p = e.p := ⟨_, rfl⟩
  obtain ⟨dd, hdd⟩ : ∃ dd, dd = e.d := ⟨_, rfl⟩
  have HC1 : Hid (∀ (w1 : World), Rd w1 w1.heap.size AD dn D → Calls Tryd.prog 14 #[eV x0 x1 kd x2 x3 x4 AD dn cD] w1 fun x w' => ∃ A m c, x = .returned (eV x0 x1 kd f l p A m c) ∧ Hid (Rd w' w'.heap.size A m dd) ∧ Below w1.heap.size w1 w') := fun w1 h1 =>
    (RClean7 x0 x1 kd x2 x3 x4 AD dn cD D w1 h1 hd1 hd2).mono fun x w' q => by
      obtain ⟨A, m, c, q0, q1, q2, q3, q4, q5⟩ := q
      rw [← he] at q0 q2
      rw [hes, heo, hek, ← hf, ← hl, ← hp] at q0
      rw [← hdd] at q2
      exact ⟨A, m, c, q0, q2, q5.out⟩
  have He := Lib.hid (show cln7 ⟨x0, x1, kd, x2, x3, x4, D⟩ = ⟨x0, x1, kd, f, l, p, dd⟩ by rw [← he]; exact En.ext_of hes heo hek hf.symm hl.symm hp.symm hdd.symm)
  clear he hes heo hek hf hl hp hdd
  have HW10 := Lib.hid HB.out.size
  have a0 := (ents_of HH.out).1
  have a1 := (ents_of HH.out).2.1
  have a2 := (ents_of HH.out).2.2.1
  have a3 := (ents_of HH.out).2.2.2.1
  have a4 := (ents_of HH.out).2.2.2.2.1
  have a5 := (ents_of HH.out).2.2.2.2.2.1
  have a6 := (ents_of HH.out).2.2.2.2.2.2
  have HM := Lib.hid (RMay7 x0 x1 kd x2 x3 x4 AD dn cD D Hdn.out.symm w11)
  by_cases hM : May7 ⟨x0, x1, kd, x2, x3, x4, D⟩
  · rw [decide_eq_true hM] at HM
    have HM1 := Lib.hid hM
    clear hM
    go_wp2_with fail
    refine HM.out.mono ?_
    rintro r w12 ⟨rfl, hb0⟩
    have hb := hb0.out
    have Hbx := Lib.hid hb
    replace HZ := Lib.hid ((hb.block Z (lt_of_block HZ.out)).trans HZ.out)
    replace HB := bel7 HB Hbx
    replace HH := Lib.hid ((hb.block H (lt_of_block HH.out)).trans HH.out)
    replace HDr := Lib.hid (HDr.out.below (hb.mono HW10.out))
    clear hb hb0 Hbx HM a0 a1 a2 a3 a4 a5 a6
    have a0 := (ents_of HH.out).1
    have a1 := (ents_of HH.out).2.1
    have a2 := (ents_of HH.out).2.2.1
    have a3 := (ents_of HH.out).2.2.2.1
    have a4 := (ents_of HH.out).2.2.2.2.1
    have a5 := (ents_of HH.out).2.2.2.2.2.1
    have a6 := (ents_of HH.out).2.2.2.2.2.2
    have HDx := Lib.hid (HDr.out.more HB.out.size)
    have HH0' := Lib.hid (lt_of_block HH.out)
    go_upto_region 18 with fail
    by_cases hI : cln7 ⟨x0, x1, kd, x2, x3, x4, D⟩ = ⟨x0, x1, kd, x2, x3, x4, D⟩
    · have HS1 := Lib.hid (decide_eq_true hI)
      have Hfin := Lib.hid (show unE7 b = 0 by rw [HE.out, if_pos ⟨HM1.out, hI⟩])
      rw [He.out] at HS1
      clear hI
      go_region_with (first
        | (go_at_call 14; refine (HC1.out _ (by exact HDx.out)).mono ?_; rintro x w13 ⟨A5, m5, c5, rfl, HR5, hb⟩; have HBc : Hid (Below w12.heap.size w12 w13) := ⟨hb.os, hb.tape, hb.output, hb.size, hb.block⟩; have HB3 := bel7 HB HBc; have HZ3 := Lib.hid ((HBc.out.block Z (lt_of_block HZ.out)).trans HZ.out); have HH3 := Lib.hid ((HBc.out.block H HH0'.out).trans HH.out); have HD3 := Lib.hid (HDr.out.below (HBc.out.mono HB.out.size)); have e0 := (ents_of HH3.out).1; have e1 := (ents_of HH3.out).2.1; have e2 := (ents_of HH3.out).2.2.1; have e3 := (ents_of HH3.out).2.2.2.1; have e4 := (ents_of HH3.out).2.2.2.2.1; have e5 := (ents_of HH3.out).2.2.2.2.2.1; have e6 := (ents_of HH3.out).2.2.2.2.2.2; clear hb)
        | (go_at_call 12; refine (RSame7 x0 x1 kd f l p A5 m5 c5 dd x0 x1 kd x2 x3 x4 AD dn cD D _ (by exact HR5.out) (by exact HD3.out.more HB3.out.size)).mono ?_; rw [HS1.out]; rintro x w14 ⟨rfl, hb⟩; have HBd : Hid (Below w13.heap.size w13 w14) := ⟨hb.out.os, hb.out.tape, hb.out.output, hb.out.size, hb.out.block⟩; have HB4 := bel7 HB3 HBd; have HZ4 := Lib.hid ((HBd.out.block Z (lt_of_block HZ3.out)).trans HZ3.out); have HH4 := Lib.hid ((HBd.out.block H (lt_of_block HH3.out)).trans HH3.out); have HD4 := Lib.hid (HD3.out.below (HBd.out.mono HB3.out.size)); clear hb))
      all_goals
        have d0 := (ents_of HH4.out).1
        have d1 := (ents_of HH4.out).2.1
        have d2 := (ents_of HH4.out).2.2.1
        have d3 := (ents_of HH4.out).2.2.2.1
        have d4 := (ents_of HH4.out).2.2.2.2.1
        have d5 := (ents_of HH4.out).2.2.2.2.2.1
        have d6 := (ents_of HH4.out).2.2.2.2.2.2
        obtain ⟨z0, z1, z2, z3, z4, z5, z6⟩ := ents_of HZ4.out
        have y0 := free_blk HZ4.out 0
        have y1 := free_blk HZ4.out 1
        have y2 := free_blk HZ4.out 2
        have y3 := free_blk HZ4.out 3
        have y4 := free_blk HZ4.out 4
        have y5 := free_blk HZ4.out 5
        have y6 := free_blk HZ4.out 6
        go_wp2_with fail
        have P9 := Lib.hid (put7_blk HZ4.out (.int .i64 x0) (.int .i64 x1) (.int .i64 kd) (.int .i64 x2) (.int .i64 x3) (.int .i64 x4) (.slice AD dn cD))
        have B9 := Lib.hid (put7_below (w := w14) (B := w.heap.size) HZ0.out (.int .i64 x0) (.int .i64 x1) (.int .i64 kd) (.int .i64 x2) (.int .i64 x3) (.int .i64 x4) (.slice AD dn cD))
        have HB9 := Lib.hid (HB4.out.trans B9.out)
        have HR9 := Lib.hid ((rd_gb7 HD4.out (put7_grown w14 Z (.int .i64 x0) (.int .i64 x1) (.int .i64 kd) (.int .i64 x2) (.int .i64 x3) (.int .i64 x4) (.slice AD dn cD)) HZ0.out).more HB9.out.size)
        change bodyPost _ _ _ _ _ (put7 w14 Z (.int .i64 x0) (.int .i64 x1) (.int .i64 kd) (.int .i64 x2) (.int .i64 x3) (.int .i64 x4) (.slice AD dn cD))
        generalize put7 w14 Z (.int .i64 x0) (.int .i64 x1) (.int .i64 kd) (.int .i64 x2) (.int .i64 x3) (.int .i64 x4) (.slice AD dn cD) = w99 at P9 HB9 HR9 ⊢
        clear z0 z1 z2 z3 z4 z5 z6 y0 y1 y2 y3 y4 y5 y6 B9
        obtain ⟨z0, z1, z2, z3, z4, z5, z6⟩ := ents_of P9.out
        exact bodyPost_ret (v := .tuple #[eV x0 x1 kd x2 x3 x4 AD dn cD, .int .i64 0]) (by simp [results, Tryd.results16, go_sem, z0, z1, z2, z3, z4, z5, z6]) rfl (by
          rw [Hdn.out]
          exact UnP7.yes Hx.out.1 Hfin.out (by rw [← Hdn.out]; exact HR9) (by rw [← Hdn.out]; exact hd1) hd2 HB9)
    · have HS1 := Lib.hid (decide_eq_false hI)
      have Hfin := Lib.hid (show unE7 b = 70 by rw [HE.out, if_neg (fun q => hI q.2)])
      rw [He.out] at HS1
      clear hI
      go_region_with (first
        | (go_at_call 14; refine (HC1.out _ (by exact HDx.out)).mono ?_; rintro x w13 ⟨A5, m5, c5, rfl, HR5, hb⟩; have HBc : Hid (Below w12.heap.size w12 w13) := ⟨hb.os, hb.tape, hb.output, hb.size, hb.block⟩; have HB3 := bel7 HB HBc; have HZ3 := Lib.hid ((HBc.out.block Z (lt_of_block HZ.out)).trans HZ.out); have HH3 := Lib.hid ((HBc.out.block H HH0'.out).trans HH.out); have HD3 := Lib.hid (HDr.out.below (HBc.out.mono HB.out.size)); have e0 := (ents_of HH3.out).1; have e1 := (ents_of HH3.out).2.1; have e2 := (ents_of HH3.out).2.2.1; have e3 := (ents_of HH3.out).2.2.2.1; have e4 := (ents_of HH3.out).2.2.2.2.1; have e5 := (ents_of HH3.out).2.2.2.2.2.1; have e6 := (ents_of HH3.out).2.2.2.2.2.2; clear hb)
        | (go_at_call 12; refine (RSame7 x0 x1 kd f l p A5 m5 c5 dd x0 x1 kd x2 x3 x4 AD dn cD D _ (by exact HR5.out) (by exact HD3.out.more HB3.out.size)).mono ?_; rw [HS1.out]; rintro x w14 ⟨rfl, hb⟩; have HBd : Hid (Below w13.heap.size w13 w14) := ⟨hb.out.os, hb.out.tape, hb.out.output, hb.out.size, hb.out.block⟩; have HB4 := bel7 HB3 HBd; have HZ4 := Lib.hid ((HBd.out.block Z (lt_of_block HZ3.out)).trans HZ3.out); have HH4 := Lib.hid ((HBd.out.block H (lt_of_block HH3.out)).trans HH3.out); have HD4 := Lib.hid (HD3.out.below (HBd.out.mono HB3.out.size)); clear hb))
      all_goals
        replace HZ := HZ4
        replace HB := HB4
        obtain ⟨z0, z1, z2, z3, z4, z5, z6⟩ := ents_of HZ.out
        have y0 := free_blk HZ.out 0
        have y1 := free_blk HZ.out 1
        have y2 := free_blk HZ.out 2
        have y3 := free_blk HZ.out 3
        have y4 := free_blk HZ.out 4
        have y5 := free_blk HZ.out 5
        have y6 := free_blk HZ.out 6
        go_wp2_with fail
        have P9 := Lib.hid (put7_blk HZ.out (.int .i64 0) (.int .i64 0) (.int .i64 0) (.int .i64 0) (.int .i64 0) (.int .i64 0) (.slice none 0 0))
        have B9 := Lib.hid (put7_below (w := w14) (B := w.heap.size) HZ0.out (.int .i64 0) (.int .i64 0) (.int .i64 0) (.int .i64 0) (.int .i64 0) (.int .i64 0) (.slice none 0 0))
        have HB9 := Lib.hid (HB.out.trans B9.out)
        change bodyPost _ _ _ _ _ (put7 w14 Z (.int .i64 0) (.int .i64 0) (.int .i64 0) (.int .i64 0) (.int .i64 0) (.int .i64 0) (.slice none 0 0))
        generalize put7 w14 Z (.int .i64 0) (.int .i64 0) (.int .i64 0) (.int .i64 0) (.int .i64 0) (.int .i64 0) (.slice none 0 0) = w99 at P9 HB9 ⊢
        clear z0 z1 z2 z3 z4 z5 z6 y0 y1 y2 y3 y4 y5 y6 B9
        obtain ⟨z0, z1, z2, z3, z4, z5, z6⟩ := ents_of P9.out
        exact bodyPost_ret (v := .tuple #[eV 0 0 0 0 0 0 none 0 0, .int .i64 70]) (by simp [results, Tryd.results16, go_sem, z0, z1, z2, z3, z4, z5, z6]) rfl (UnP7.no (Hfin.out) (by first | assumption | decide) HB9)
  · rw [decide_eq_false hM] at HM
    have Hfin := Lib.hid (show unE7 b = 70 by rw [HE.out, if_neg (fun q => hM q.1)])
    clear hM
    go_wp2_with fail
    refine HM.out.mono ?_
    rintro r w12 ⟨rfl, hb0⟩
    have hb := hb0.out
    have Hbx := Lib.hid hb
    replace HZ := Lib.hid ((hb.block Z (lt_of_block HZ.out)).trans HZ.out)
    replace HB := bel7 HB Hbx
    replace HH := Lib.hid ((hb.block H (lt_of_block HH.out)).trans HH.out)
    clear hb hb0 Hbx HM a0 a1 a2 a3 a4 a5 a6
    have a0 := (ents_of HH.out).1
    have a1 := (ents_of HH.out).2.1
    have a2 := (ents_of HH.out).2.2.1
    have a3 := (ents_of HH.out).2.2.2.1
    have a4 := (ents_of HH.out).2.2.2.2.1
    have a5 := (ents_of HH.out).2.2.2.2.2.1
    have a6 := (ents_of HH.out).2.2.2.2.2.2
    go_upto_region 18 with fail
    go_quiet (fail)
    have HZ1 : Hid ((w12.drewN nq).heap[Z]? = some (.cells #[.int .i64 0, .int .i64 0, .int .i64 0, .int .i64 0, .int .i64 0, .int .i64 0, .slice none 0 0] 24 (0, 0))) := HZ
    have HB1 : Hid (Below w.heap.size w (w12.drewN nq)) := belowDrewN HB.out nq
    clear a0 a1 a2 a3 a4 a5 a6 HH HZ HB HDr
    generalize w12.drewN nq = w13 at HZ1 HB1 ⊢
    have HZ := HZ1
    have HB := HB1
    obtain ⟨z0, z1, z2, z3, z4, z5, z6⟩ := ents_of HZ.out
    have y0 := free_blk HZ.out 0
    have y1 := free_blk HZ.out 1
    have y2 := free_blk HZ.out 2
    have y3 := free_blk HZ.out 3
    have y4 := free_blk HZ.out 4
    have y5 := free_blk HZ.out 5
    have y6 := free_blk HZ.out 6
    go_wp2_with fail
    have P9 := Lib.hid (put7_blk HZ.out (.int .i64 0) (.int .i64 0) (.int .i64 0) (.int .i64 0) (.int .i64 0) (.int .i64 0) (.slice none 0 0))
    have B9 := Lib.hid (put7_below (w := w13) (B := w.heap.size) HZ0.out (.int .i64 0) (.int .i64 0) (.int .i64 0) (.int .i64 0) (.int .i64 0) (.int .i64 0) (.slice none 0 0))
    have HB9 := Lib.hid (HB.out.trans B9.out)
    change bodyPost _ _ _ _ _ (put7 w13 Z (.int .i64 0) (.int .i64 0) (.int .i64 0) (.int .i64 0) (.int .i64 0) (.int .i64 0) (.slice none 0 0))
    generalize put7 w13 Z (.int .i64 0) (.int .i64 0) (.int .i64 0) (.int .i64 0) (.int .i64 0) (.int .i64 0) (.slice none 0 0) = w99 at P9 HB9 ⊢
    clear z0 z1 z2 z3 z4 z5 z6 y0 y1 y2 y3 y4 y5 y6 B9
    obtain ⟨z0, z1, z2, z3, z4, z5, z6⟩ := ents_of P9.out
    exact bodyPost_ret (v := .tuple #[eV 0 0 0 0 0 0 none 0 0, .int .i64 70]) (by simp [results, Tryd.results16, go_sem, z0, z1, z2, z3, z4, z5, z6]) rfl (UnP7.no (Hfin.out) (by first | assumption | decide) HB9)

set_option maxRecDepth 10000 in
theorem RUnpack7 (A : Option Addr) (n c : Nat) (b : List UInt8) (w : World) (hr : Rd w w.heap.size A n b) (hn : n ≤ 100000) (hc : n ≤ c) (hm : c ≤ 9223372036854775807) :
    Calls Tryd.prog 16 #[.slice A n c] w (UnP7 w b) := by
  by_cases hx : nxE b = 0
  · by_cases h2 : b.length = cntF b + 12
    · by_cases h3 : ebE7 (bodyF b) = 0
      · exact RUnpack7_ok A n c b w hr hn hc hm hx h2 h3
      · exact RUnpack7_bad A n c b w hr hn hc hm hx h2 h3
    · exact RUnpack7_rest A n c b w hr hn hc hm hx h2
  · exact RUnpack7_no A n c b w hr hn hc hm hx
end Go.Proofs.YtfabcmohaikfoaaDoor
