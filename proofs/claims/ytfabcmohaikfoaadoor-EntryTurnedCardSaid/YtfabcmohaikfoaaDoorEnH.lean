/- Package entry: unpackBody. Written by wip/genh7.py. -/
import Derived.Test.YtfabcmohaikfoaaDoorEnG
import Derived.Test.YtfabcmohaikfoaaDoorWireRF
namespace Go.Proofs.YtfabcmohaikfoaaDoor
open Go.RowKit

/-- a reader stays where a later block is written -/
theorem Rdr.past {w : World} {g H : Nat} {l : List UInt8} {e : Int} (h : Rdr w g l e) (hg : g < H) (i : Nat) (u : Value) : Rdr (w.setCell ⟨H, i, none⟩ u) g l e := by
  obtain ⟨A, n, c, h1, h2, h3, h4⟩ := h
  exact ⟨A, n, c, (Below.heap_setCell w ⟨H, i, none⟩ u g (by show g ≠ H; omega)).trans h1, h2, h3, h4.keep fun q hq => World.cell?_setCell_other w _ _ _ (fun e => by subst e; dsimp only at hq; omega)⟩
set_option maxRecDepth 10000 in
theorem PNum7 (g : Nat) (s : List UInt8 × Int) (width : Int) (w : World) (h : Rdr w g s.1 s.2) :
    Calls Tryd.prog 42 #[.pointer (some ⟨g, 0, none⟩), .int .i64 width] w fun r w' => r = .returned (.int .i64 (rN7 s width)) ∧ Rdr w' g (rS7 s width).1 (rS7 s width).2 ∧ w.grownBy w' (some g) := RNum_any g s.1 s.2 width w h
set_option maxRecDepth 10000 in
theorem PBlob7 (g : Nat) (s : List UInt8 × Int) (m : Int) (w : World) (h : Rdr w g s.1 s.2) :
    Calls Tryd.prog 43 #[.pointer (some ⟨g, 0, none⟩), .int .i64 m] w fun r w' => OutGN w g (rB7 s m) r w' ∧ Rdr w' g (rT7 s m).1 (rT7 s m).2 := RBlobN_any g s.1 s.2 m w h
set_option maxRecDepth 10000 in
theorem PEnd7 (g : Nat) (s : List UInt8 × Int) (w : World) (h : Rdr w g s.1 s.2) :
    Calls Tryd.prog 44 #[.pointer (some ⟨g, 0, none⟩)] w fun r w' => r = .returned (.int .i64 (endE s.2 s.1.length)) ∧ w.grownBy w' (some g) := (End_any g s.1 s.2 w h).mono fun _ _ q => ⟨q.1, q.2.2⟩
/-- bytes that lie elsewhere stay where block g is written -/
theorem Rd.gb7 {w w' : World} {g n : Nat} {A : Option Addr} {l : List UInt8} (h : Rd w w.heap.size A n l) (hg : w.grownBy w' (some g)) (hA : ∀ ad, A = some ad → ad.block ≠ g) : Rd w' w'.heap.size A n l := by
  refine ⟨h.1, fun hn => ?_⟩
  obtain ⟨ad, e, hb, hc⟩ := h.2 hn
  refine ⟨ad, e, Nat.lt_of_lt_of_le hb hg.size, fun j hj => ?_⟩
  refine (World.cell?_of_block ?_).trans (hc j hj)
  rw [addB]
  exact hg.block _ hb fun q => hA ad e (Option.some.inj q)
theorem put7_grown (w : World) (z : Nat) (v0 v1 v2 v3 v4 v5 v6 : Value) : w.grownBy (put7 w z v0 v1 v2 v3 v4 v5 v6) (some z) :=
  grownBy_trans (grownBy_trans (grownBy_trans (grownBy_trans (grownBy_trans (grownBy_trans (gset7 w z 0 v0) (gset7 _ z 1 v1)) (gset7 _ z 2 v2)) (gset7 _ z 3 v3)) (gset7 _ z 4 v4)) (gset7 _ z 5 v5)) (gset7 _ z 6 v6)
/-- what unpackBody tells -/
def UnB (w : World) (k : Int) (b : List UInt8) (r : Ending) (w' : World) : Prop :=
  ∃ A c, r = .returned (.tuple #[eV (ofB7 k b).s (ofB7 k b).o k (ofB7 k b).f (ofB7 k b).l (ofB7 k b).p A (ofB7 k b).d.length c, .int .i64 (ebE7 b)]) ∧ Hid (Rd w' w'.heap.size A (ofB7 k b).d.length (ofB7 k b).d) ∧ (ofB7 k b).d.length ≤ c ∧ c ≤ maxLen ∧ Hid (Below w.heap.size w w')
theorem rB_le (s : List UInt8 × Int) : (rB7 s 128).length ≤ 128 := by
  unfold rB7 rdBlob
  split
  · simp
  · split
    · simp
    · rename_i h
      have := (cntE_0 (Classical.not_not.1 h)).2.1
      dsimp only
      rw [List.length_take]
      omega

set_option maxRecDepth 10000 in
set_option maxHeartbeats 4000000 in
theorem uBody7 (k : Int) (A : Option Addr) (n c : Nat) (b : List UInt8) (w : World) (hr : Rd w w.heap.size A n b) (hn : n ≤ 100000) :
    Calls Tryd.prog 26 #[.int .i64 k, .slice A n c] w (UnB w k b) := by
  obtain ⟨s0, e0⟩ : ∃ s, s = (b, (0 : Int)) := ⟨_, rfl⟩
  obtain ⟨s1, e1⟩ : ∃ s, s = rS7 s0 6 := ⟨_, rfl⟩
  obtain ⟨x0, f0⟩ : ∃ x, x = rN7 s0 6 := ⟨_, rfl⟩
  obtain ⟨s2, e2⟩ : ∃ s, s = rS7 s1 1 := ⟨_, rfl⟩
  obtain ⟨x1, f1⟩ : ∃ x, x = rN7 s1 1 := ⟨_, rfl⟩
  obtain ⟨s3, e3⟩ : ∃ s, s = rS7 s2 2 := ⟨_, rfl⟩
  obtain ⟨x2, f2⟩ : ∃ x, x = rN7 s2 2 := ⟨_, rfl⟩
  obtain ⟨s4, e4⟩ : ∃ s, s = rS7 s3 2 := ⟨_, rfl⟩
  obtain ⟨x3, f3⟩ : ∃ x, x = rN7 s3 2 := ⟨_, rfl⟩
  obtain ⟨s5, e5⟩ : ∃ s, s = rS7 s4 1 := ⟨_, rfl⟩
  obtain ⟨x4, f4⟩ : ∃ x, x = rN7 s4 1 := ⟨_, rfl⟩
  obtain ⟨D, f5⟩ : ∃ x, x = rB7 s5 128 := ⟨_, rfl⟩
  obtain ⟨s6, e6⟩ : ∃ s, s = rT7 s5 128 := ⟨_, rfl⟩
  obtain ⟨E, f6⟩ : ∃ E, E = endE s6.2 s6.1.length := ⟨_, rfl⟩
  have Hx : Hid (ofB7 k b = ⟨x0, x1, k, x2, x3, x4, D⟩ ∧ ebE7 b = E) := by
    subst f0 f1 f2 f3 f4 f5 f6 e1 e2 e3 e4 e5 e6 e0; exact ⟨rfl, rfl⟩
  have HU : Hid (∀ r w', (∃ A c, r = .returned (.tuple #[eV x0 x1 k x2 x3 x4 A D.length c, .int .i64 E]) ∧ Hid (Rd w' w'.heap.size A D.length D) ∧ D.length ≤ c ∧ c ≤ maxLen ∧ Hid (Below w.heap.size w w')) → UnB w k b r w') := fun r w' q => by
    unfold UnB
    rw [Hx.out.1, Hx.out.2]
    exact q
  have HD := Lib.hid (show D.length ≤ 128 by rw [f5]; exact rB_le _)
  have hC0 := Lib.hid (fun (g : Nat) (w1 : World) (h : Rdr w1 g s0.1 s0.2) => PNum7 g s0 6 w1 h)
  rw [← e1, ← f0] at hC0
  have hC1 := Lib.hid (fun (g : Nat) (w1 : World) (h : Rdr w1 g s1.1 s1.2) => PNum7 g s1 1 w1 h)
  rw [← e2, ← f1] at hC1
  have hC2 := Lib.hid (fun (g : Nat) (w1 : World) (h : Rdr w1 g s2.1 s2.2) => PNum7 g s2 2 w1 h)
  rw [← e3, ← f2] at hC2
  have hC3 := Lib.hid (fun (g : Nat) (w1 : World) (h : Rdr w1 g s3.1 s3.2) => PNum7 g s3 2 w1 h)
  rw [← e4, ← f3] at hC3
  have hC4 := Lib.hid (fun (g : Nat) (w1 : World) (h : Rdr w1 g s4.1 s4.2) => PNum7 g s4 1 w1 h)
  rw [← e5, ← f4] at hC4
  have hC5 := Lib.hid (fun (g : Nat) (w1 : World) (h : Rdr w1 g s5.1 s5.2) => PBlob7 g s5 128 w1 h)
  rw [← e6, ← f5] at hC5
  have hC6 := Lib.hid (fun (g : Nat) (w1 : World) (h : Rdr w1 g s6.1 s6.2) => PEnd7 g s6 w1 h)
  rw [← f6] at hC6
  have Hs0 := Lib.hid (show s0.1 = b ∧ s0.2 = 0 by rw [e0]; exact ⟨rfl, rfl⟩)
  have Hr := Lib.hid hr
  refine Calls.mono ?_ (fun r w' q => HU.out r w' q)
  clear hr e0 e1 e2 e3 e4 e5 e6 f0 f1 f2 f3 f4 f5 f6 HU Hx
  go_enter Tryd.func26, Tryd.ntmps26
  go_upto_region 1 with fail
  have HZ := Lib.hid (heap_alloc_new w (.cells #[.int .i64 0, .int .i64 0, .int .i64 0, .int .i64 0, .int .i64 0, .int .i64 0, .slice none 0 0] 24))
  have HB := al7 w (.cells #[.int .i64 0, .int .i64 0, .int .i64 0, .int .i64 0, .int .i64 0, .int .i64 0, .slice none 0 0] 24)
  replace Hr := Lib.hid ((Hr.out.below HB.out).more HB.out.size)
  generalize w.alloc (.cells #[.int .i64 0, .int .i64 0, .int .i64 0, .int .i64 0, .int .i64 0, .int .i64 0, .slice none 0 0] 24) = w1 at HZ HB Hr ⊢
  obtain ⟨Z, hZ⟩ : ∃ Z, Z = w.heap.size := ⟨_, rfl⟩
  have HZ0 := Lib.hid (show w.heap.size ≤ Z by omega)
  rw [← hZ] at HZ ⊢
  clear hZ
  go_wp2_with fail
  refine (Read_any A n c b w1 Hr.out (by omega)).mono ?_
  rintro r w2 ⟨g, rfl, hr2, hg2, hb2⟩
  have HR : Hid (Rdr w2 g s0.1 s0.2) := by rw [Hs0.out.1, Hs0.out.2]; exact hr2
  have Hzg := Lib.hid (show Z < g by have := lt_of_block HZ.out; omega)
  have Hg0 := Lib.hid (show w.heap.size ≤ g by have := HB.out.size; omega)
  have Hglt : Hid (g < w2.heap.size) := by
    obtain ⟨_, _, _, h, _⟩ := hr2
    exact lt_of_block h
  replace HZ := Lib.hid ((hb2.block Z (lt_of_block HZ.out)).trans HZ.out)
  replace HB := bel7 HB (Lib.hid hb2)
  clear hr2 hg2 hb2 Hr Hs0
  go_upto_region 3 with fail
  have HH := Lib.hid (heap_alloc_new w2 (.cells #[.int .i64 0, .int .i64 0, .int .i64 k, .int .i64 0, .int .i64 0, .int .i64 0, .slice none 0 0] 24))
  have Ha := al7 w2 (.cells #[.int .i64 0, .int .i64 0, .int .i64 k, .int .i64 0, .int .i64 0, .int .i64 0, .slice none 0 0] 24)
  replace HZ := Lib.hid ((Ha.out.block Z (lt_of_block HZ.out)).trans HZ.out)
  replace HB := bel7 HB Ha
  replace HR := Lib.hid (Rdr.below HR.out Ha.out)
  clear Ha
  generalize w2.alloc (.cells #[.int .i64 0, .int .i64 0, .int .i64 k, .int .i64 0, .int .i64 0, .int .i64 0, .slice none 0 0] 24) = w3 at HH HZ HB HR ⊢
  obtain ⟨H, hH⟩ : ∃ H, H = w2.heap.size := ⟨_, rfl⟩
  have HgH := Lib.hid (show g < H by rw [hH]; exact Hglt.out)
  have HH0 := Lib.hid (show w.heap.size ≤ H by have := Hg0.out; have := HgH.out; omega)
  rw [← hH] at HH ⊢
  clear hH Hglt
  go_wp2_with fail
  refine (hC0.out g _ HR.out).mono ?_
  rintro r wa ⟨rfl, hr, hg⟩
  replace HR := Lib.hid hr
  replace HH := Lib.hid (gb7 hg (by have := HgH.out; omega) HH.out)
  replace HZ := Lib.hid (gb7 hg (by have := Hzg.out; omega) HZ.out)
  replace HB := below_gb7 HB hg Hg0.out
  clear hr hg hC0
  have k0 := (ents_of HH.out).1
  have y0 := free_blk HH.out 0
  go_upto_region 4 with fail
  have HG := Lib.hid (gset7 wa H 0 (.int .i64 x0))
  replace HH := Lib.hid (show (wa.setCell ⟨H, 0, none⟩ (.int .i64 x0)).heap[H]? = some (.cells #[.int .i64 x0, .int .i64 0, .int .i64 k, .int .i64 0, .int .i64 0, .int .i64 0, .slice none 0 0] 24 (0, 0)) from set_blk HH.out 0 _)
  replace HZ := Lib.hid (gb7 HG.out (by have := HgH.out; have := Hzg.out; omega) HZ.out)
  replace HB := below_gb7 HB HG.out HH0.out
  replace HR := Lib.hid (HR.out.past HgH.out 0 (.int .i64 x0))
  clear k0 y0 HG
  generalize wa.setCell ⟨H, 0, none⟩ (.int .i64 x0) = w4 at HH HZ HB HR ⊢
  go_wp2_with fail
  refine (hC1.out g _ HR.out).mono ?_
  rintro r wa ⟨rfl, hr, hg⟩
  replace HR := Lib.hid hr
  replace HH := Lib.hid (gb7 hg (by have := HgH.out; omega) HH.out)
  replace HZ := Lib.hid (gb7 hg (by have := Hzg.out; omega) HZ.out)
  replace HB := below_gb7 HB hg Hg0.out
  clear hr hg hC1
  have k1 := (ents_of HH.out).2.1
  have y1 := free_blk HH.out 1
  go_upto_region 5 with fail
  have HG := Lib.hid (gset7 wa H 1 (.int .i64 x1))
  replace HH := Lib.hid (show (wa.setCell ⟨H, 1, none⟩ (.int .i64 x1)).heap[H]? = some (.cells #[.int .i64 x0, .int .i64 x1, .int .i64 k, .int .i64 0, .int .i64 0, .int .i64 0, .slice none 0 0] 24 (0, 0)) from set_blk HH.out 1 _)
  replace HZ := Lib.hid (gb7 HG.out (by have := HgH.out; have := Hzg.out; omega) HZ.out)
  replace HB := below_gb7 HB HG.out HH0.out
  replace HR := Lib.hid (HR.out.past HgH.out 1 (.int .i64 x1))
  clear k1 y1 HG
  generalize wa.setCell ⟨H, 1, none⟩ (.int .i64 x1) = w5 at HH HZ HB HR ⊢
  go_wp2_with fail
  refine (hC2.out g _ HR.out).mono ?_
  rintro r wa ⟨rfl, hr, hg⟩
  replace HR := Lib.hid hr
  replace HH := Lib.hid (gb7 hg (by have := HgH.out; omega) HH.out)
  replace HZ := Lib.hid (gb7 hg (by have := Hzg.out; omega) HZ.out)
  replace HB := below_gb7 HB hg Hg0.out
  clear hr hg hC2
  have k3 := (ents_of HH.out).2.2.2.1
  have y3 := free_blk HH.out 3
  go_upto_region 6 with fail
  have HG := Lib.hid (gset7 wa H 3 (.int .i64 x2))
  replace HH := Lib.hid (show (wa.setCell ⟨H, 3, none⟩ (.int .i64 x2)).heap[H]? = some (.cells #[.int .i64 x0, .int .i64 x1, .int .i64 k, .int .i64 x2, .int .i64 0, .int .i64 0, .slice none 0 0] 24 (0, 0)) from set_blk HH.out 3 _)
  replace HZ := Lib.hid (gb7 HG.out (by have := HgH.out; have := Hzg.out; omega) HZ.out)
  replace HB := below_gb7 HB HG.out HH0.out
  replace HR := Lib.hid (HR.out.past HgH.out 3 (.int .i64 x2))
  clear k3 y3 HG
  generalize wa.setCell ⟨H, 3, none⟩ (.int .i64 x2) = w6 at HH HZ HB HR ⊢
  go_wp2_with fail
  refine (hC3.out g _ HR.out).mono ?_
  rintro r wa ⟨rfl, hr, hg⟩
  replace HR := Lib.hid hr
  replace HH := Lib.hid (gb7 hg (by have := HgH.out; omega) HH.out)
  replace HZ := Lib.hid (gb7 hg (by have := Hzg.out; omega) HZ.out)
  replace HB := below_gb7 HB hg Hg0.out
  clear hr hg hC3
  have k4 := (ents_of HH.out).2.2.2.2.1
  have y4 := free_blk HH.out 4
  go_upto_region 7 with fail
  have HG := Lib.hid (gset7 wa H 4 (.int .i64 x3))
  replace HH := Lib.hid (show (wa.setCell ⟨H, 4, none⟩ (.int .i64 x3)).heap[H]? = some (.cells #[.int .i64 x0, .int .i64 x1, .int .i64 k, .int .i64 x2, .int .i64 x3, .int .i64 0, .slice none 0 0] 24 (0, 0)) from set_blk HH.out 4 _)
  replace HZ := Lib.hid (gb7 HG.out (by have := HgH.out; have := Hzg.out; omega) HZ.out)
  replace HB := below_gb7 HB HG.out HH0.out
  replace HR := Lib.hid (HR.out.past HgH.out 4 (.int .i64 x3))
  clear k4 y4 HG
  generalize wa.setCell ⟨H, 4, none⟩ (.int .i64 x3) = w7 at HH HZ HB HR ⊢
  go_wp2_with fail
  refine (hC4.out g _ HR.out).mono ?_
  rintro r wa ⟨rfl, hr, hg⟩
  replace HR := Lib.hid hr
  replace HH := Lib.hid (gb7 hg (by have := HgH.out; omega) HH.out)
  replace HZ := Lib.hid (gb7 hg (by have := Hzg.out; omega) HZ.out)
  replace HB := below_gb7 HB hg Hg0.out
  clear hr hg hC4
  have k5 := (ents_of HH.out).2.2.2.2.2.1
  have y5 := free_blk HH.out 5
  go_upto_region 8 with fail
  have HG := Lib.hid (gset7 wa H 5 (.int .i64 x4))
  replace HH := Lib.hid (show (wa.setCell ⟨H, 5, none⟩ (.int .i64 x4)).heap[H]? = some (.cells #[.int .i64 x0, .int .i64 x1, .int .i64 k, .int .i64 x2, .int .i64 x3, .int .i64 x4, .slice none 0 0] 24 (0, 0)) from set_blk HH.out 5 _)
  replace HZ := Lib.hid (gb7 HG.out (by have := HgH.out; have := Hzg.out; omega) HZ.out)
  replace HB := below_gb7 HB HG.out HH0.out
  replace HR := Lib.hid (HR.out.past HgH.out 5 (.int .i64 x4))
  clear k5 y5 HG
  generalize wa.setCell ⟨H, 5, none⟩ (.int .i64 x4) = w8 at HH HZ HB HR ⊢
  obtain ⟨dn, hdn⟩ : ∃ dn, dn = D.length := ⟨_, rfl⟩
  have hdn2 : dn ≤ 128 := by rw [hdn]; exact HD.out
  have Hdn := Lib.hid hdn
  clear hdn HD
  go_wp2_with fail
  refine (hC5.out g _ HR.out).mono ?_
  rintro r wa ⟨⟨AD, cD, rfl, hd1, hd2, hd3, hg, hd4⟩, hr⟩
  rw [← Hdn.out] at hd1 hd3 ⊢
  replace HR := Lib.hid hr
  have Hgl := Lib.hid (show g < w8.heap.size by have := lt_of_block HH.out; have := HgH.out; omega)
  have HHl := Lib.hid (lt_of_block HH.out)
  replace HH := Lib.hid (gb7 hg (by have := HgH.out; omega) HH.out)
  replace HZ := Lib.hid (gb7 hg (by have := Hzg.out; omega) HZ.out)
  replace HB := below_gb7 HB hg Hg0.out
  have HAD := Lib.hid (show ∀ ad, AD = some ad → ad.block ≠ g ∧ ad.block ≠ H ∧ ad.block ≠ Z from fun ad e => by have := hd4 ad e; have := Hgl.out; have := HHl.out; have := Hzg.out; omega)
  have HDr := Lib.hid hd3
  have hd2' : cD ≤ 9223372036854775807 := by simpa [maxLen] using hd2
  clear hr hg hC5 hd3 hd4
  have k6 := (ents_of HH.out).2.2.2.2.2.2
  have y6 := free_blk HH.out 6
  go_upto_region 9 with fail
  have HG := Lib.hid (gset7 wa H 6 (.slice AD dn cD))
  replace HH := Lib.hid (show (wa.setCell ⟨H, 6, none⟩ (.slice AD dn cD)).heap[H]? = some (.cells #[.int .i64 x0, .int .i64 x1, .int .i64 k, .int .i64 x2, .int .i64 x3, .int .i64 x4, .slice AD dn cD] 24 (0, 0)) from set_blk HH.out 6 _)
  replace HZ := Lib.hid (gb7 HG.out (by have := HgH.out; have := Hzg.out; omega) HZ.out)
  replace HB := below_gb7 HB HG.out HH0.out
  replace HR := Lib.hid (HR.out.past HgH.out 6 (.slice AD dn cD))
  replace HDr := Lib.hid (HDr.out.gb7 HG.out fun ad e => (HAD.out ad e).2.1)
  clear k6 y6 HG
  generalize wa.setCell ⟨H, 6, none⟩ (.slice AD dn cD) = w9 at HH HZ HB HR HDr ⊢
  have c0 := (ents_of HH.out).1
  have c1 := (ents_of HH.out).2.1
  have c2 := (ents_of HH.out).2.2.1
  have c3 := (ents_of HH.out).2.2.2.1
  have c4 := (ents_of HH.out).2.2.2.2.1
  have c5 := (ents_of HH.out).2.2.2.2.2.1
  have c6 := (ents_of HH.out).2.2.2.2.2.2
  go_region_with (go_at_call 44; refine (hC6.out g _ (by exact HR.out)).mono ?_; rintro r wb ⟨rfl, hg⟩; have hg' : w9.grownBy wb (some g) := ⟨hg.os, hg.tape, hg.output, hg.size, hg.block⟩; have HH2 := Lib.hid (gb7 hg' (by have := HgH.out; omega) HH.out); have HZ2 := Lib.hid (gb7 hg' (by have := Hzg.out; omega) HZ.out); have HB2 := below_gb7 HB hg' Hg0.out; have HD2 := Lib.hid (HDr.out.gb7 hg' fun ad e => (HAD.out ad e).1); clear hg hg'; obtain ⟨d0, d1, d2, d3, d4, d5, d6⟩ := ents_of HH2.out; obtain ⟨z0, z1, z2, z3, z4, z5, z6⟩ := ents_of HZ2.out; have y0 := free_blk HZ2.out 0; have y1 := free_blk HZ2.out 1; have y2 := free_blk HZ2.out 2; have y3 := free_blk HZ2.out 3; have y4 := free_blk HZ2.out 4; have y5 := free_blk HZ2.out 5; have y6 := free_blk HZ2.out 6)
  all_goals
    have P9 := Lib.hid (put7_blk HZ2.out (.int .i64 x0) (.int .i64 x1) (.int .i64 k) (.int .i64 x2) (.int .i64 x3) (.int .i64 x4) (.slice AD dn cD))
    have B9 := Lib.hid (put7_below (w := wb) (B := w.heap.size) HZ0.out (.int .i64 x0) (.int .i64 x1) (.int .i64 k) (.int .i64 x2) (.int .i64 x3) (.int .i64 x4) (.slice AD dn cD))
    have HB9 := Lib.hid (HB2.out.trans B9.out)
    have HD9 := Lib.hid (HD2.out.gb7 (put7_grown wb Z (.int .i64 x0) (.int .i64 x1) (.int .i64 k) (.int .i64 x2) (.int .i64 x3) (.int .i64 x4) (.slice AD dn cD)) fun ad e => (HAD.out ad e).2.2)
    clear B9 c0 c1 c2 c3 c4 c5 c6 d0 d1 d2 d3 d4 d5 d6 z0 z1 z2 z3 z4 z5 z6 y0 y1 y2 y3 y4 y5 y6 HB2 HD2 HZ2 HH2 HB HDr HZ HH HR hC6 HAD
    change Exit.then _ _ _ _ (put7 wb Z (.int .i64 x0) (.int .i64 x1) (.int .i64 k) (.int .i64 x2) (.int .i64 x3) (.int .i64 x4) (.slice AD dn cD))
    generalize put7 wb Z (.int .i64 x0) (.int .i64 x1) (.int .i64 k) (.int .i64 x2) (.int .i64 x3) (.int .i64 x4) (.slice AD dn cD) = w99 at P9 HB9 HD9 ⊢
    obtain ⟨z0, z1, z2, z3, z4, z5, z6⟩ := ents_of P9.out
    go_wp2_with fail
    exact bodyPost_ret (v := .tuple #[eV x0 x1 k x2 x3 x4 AD dn cD, .int .i64 E]) (by simp [results, Tryd.results26, go_sem, z0, z1, z2, z3, z4, z5, z6]) rfl ⟨AD, cD, by rw [← Hdn.out], by rw [← Hdn.out]; exact HD9, by rw [← Hdn.out]; exact hd1, hd2, HB9⟩
end Go.Proofs.YtfabcmohaikfoaaDoor
