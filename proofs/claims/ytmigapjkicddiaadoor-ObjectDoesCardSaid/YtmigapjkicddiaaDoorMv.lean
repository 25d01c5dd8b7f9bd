/- The document's Do, where it isn't refused. -/
import Derived.Test.YtmigapjkicddiaaDoorMu
import Derived.Test.YtmigapjkicddiaaDoorMi
import Derived.Deep.CutBlock
import Derived.Deep.Cut

namespace Go.Proofs.YtmigapjkicddiaaDoor
open Go.RowKit

/-- what the document's Do tells -/
def DoR (w : World) (r : Oj × Bool × Bool × Int) (e : Ending) (w' : World) : Prop :=
  ∃ v, e = .returned (.tuple #[v, .bool r.2.1, .bool r.2.2.1, .int .i64 r.2.2.2]) ∧ Hid (OjAt w' r.1 v) ∧ Hid (Below w.heap.size w w')
section
variable {w : World} {B n z : Nat} {A A1 A2 : Option Addr} {n1 c1 n2 c2 : Nat} {s : Int} {t : TypeId}
theorem Rd.setO {l : List UInt8} (h : Rd w B A n l) (hz : w.heap[z]? = some (.cells #[.slice A1 n1 c1, .slice A2 n2 c2, .int .i64 s] t (0, 0))) (k : Nat) (v : Value) : Rd (w.setCell ⟨z, k, none⟩ v) B A n l :=
  ⟨h.1, fun h0 => by
    obtain ⟨ad, e, hb, hc⟩ := h.2 h0
    refine ⟨ad, e, hb, fun j hj => ?_⟩
    have h1 := hc j hj
    rw [World.cell?_setCell_far _ ⟨z, k, none⟩ _ _ (obj_ne hz h1 (by simp [bv]) (by simp [bv]))]
    exact h1⟩
theorem RdK.setO {ks : List Ky} (h : RdK w B A n ks) (hz : w.heap[z]? = some (.cells #[.slice A1 n1 c1, .slice A2 n2 c2, .int .i64 s] t (0, 0))) (k : Nat) (v : Value) : RdK (w.setCell ⟨z, k, none⟩ v) B A n ks := by
  refine ⟨h.1, fun j hj => ?_⟩
  obtain ⟨g, o, Aj, nj, cj, h1, h2, h3, h4, h5, h6⟩ := h.2 j hj
  have hne : z ≠ g := obj_ne hz h3 (by simp) (by simp)
  exact ⟨g, o, Aj, nj, cj, h1, h2, (World.cell?_setCell_far _ ⟨z, k, none⟩ ⟨g, _, none⟩ _ hne).trans h3, (World.cell?_setCell_far _ ⟨z, k, none⟩ ⟨g, _, none⟩ _ hne).trans h4, h5.setO hz k v, h6⟩
end
/-- what an op of data makes, by what data tells -/
def datO (o : Oj) (t : Bool) (k : Int) : Option (List UInt8) → Oj × Bool × Bool × Int
  | none => (o, t, true, 2)
  | some d => (⟨d, o.keys, o.seq⟩, t || decide (k = 5), true, 0)
theorem step_dat (o : Oj) (t : Bool) (p : Opr) (h1 : 4 < p.k) (h2 : p.k ≤ 7) : stepO o t p = datO o t p.k (dataO o.data p) := by
  unfold stepO
  rw [if_neg (by omega), if_pos h2]
  cases dataO o.data p <;> rfl
/-- the switch's end: the boxed object, where nothing fails -/
structure EndD (w wx : World) (b z : Nat) (r : Oj × Bool × Bool × Int) (A1 : Option Addr) (n1 c1 : Nat) (A2 : Option Addr) (n2 c2 : Nat) (s2 : Int) (x y : Bool) : Prop where
  blk : wx.heap[b]? = some (.cells #[.slice A1 n1 c1, .slice A2 n2 c2, .int .i64 s2] 25 (0, 0))
  ok : r.2.2.2 = 0 → x = r.2.1 ∧ y = r.2.2.1 ∧ s2 = r.1.seq ∧ Rd wx wx.heap.size A1 n1 r.1.data ∧ n1 ≤ 9223372036854775807 ∧ RdK wx wx.heap.size A2 n2 r.1.keys
  zer : wx.heap[z]? = some (.cells #[.slice none 0 0, .slice none 0 0, .int .i64 0] 25 (0, 0))
  bel : Below w.heap.size w wx

set_option maxRecDepth 10000 in
set_option maxHeartbeats 8000000 in
theorem RDo8_yes (Ad : Option Addr) (nd cd : Nat) (Ak : Option Addr) (nk ck : Nat) (s : Int) (d : List UInt8) (ks : List Ky) (t : Bool) (k f n : Int) (X : List UInt8) (Ap : Option Addr) (np cp : Nat) (D : List UInt8) (B : Nat) (w : World) (hB : B ≤ w.heap.size) (hd : Rd w B Ad nd d) (hr : RdK w B Ak nk ks)
    (hD : Rd w B Ap np D) (hnp : np ≤ 9223372036854775807) (hX : X.length ≤ 9223372036854775807) (hm : mayO ⟨d, ks, s⟩ = true) (hk1 : 1 ≤ k) (hk2 : k ≤ 14) :
    Calls Tryd.prog 23 #[oV Ad nd cd Ak nk ck s, .bool t, pV k f n X Ap np cp] w (DoR w (doO ⟨d, ks, s⟩ t ⟨k, f, n, X, D⟩)) := by
  obtain ⟨O, hO⟩ : ∃ O, O = if t = true then (⟨d, ks, s⟩ : Oj) else oj0 := ⟨_, rfl⟩
  obtain ⟨r, hrr⟩ : ∃ r, r = stepO O t ⟨k, f, n, X, D⟩ := ⟨_, rfl⟩
  have HE := Lib.hid (show doO ⟨d, ks, s⟩ t ⟨k, f, n, X, D⟩ = endO r by rw [hrr, hO]; unfold doO; rw [if_pos ⟨hm, hk1, hk2⟩])
  rw [HE.out]
  clear HE
  have HO := Lib.hid hO
  have HR := Lib.hid hrr
  obtain ⟨m1, m2, _, _, _, _⟩ := (mayO_iff _).1 hm
  have Hn := Lib.hid (show nd ≤ 64 ∧ nk ≤ 120 by rw [← hd.1, ← hr.1]; exact ⟨m1, m2⟩)
  clear hO hrr m1 m2
  have HT := Lib.hid (three_objs w (.cells #[.slice Ad nd cd, .slice Ak nk ck, .int .i64 s] 25) (.cells #[.int .i64 k, .int .i64 f, .int .i64 n, .string ⟨X.toArray⟩, .slice Ap np cp] 38) (.cells #[.slice none 0 0, .slice none 0 0, .int .i64 0] 25))
  have Hr := Lib.hid (hr.below (HT.out.2.2.2.mono hB))
  have Hd := Lib.hid (hd.below (HT.out.2.2.2.mono hB))
  have HD := Lib.hid (hD.below (HT.out.2.2.2.mono hB))
  have HBw := Lib.hid hB
  have Hm := Lib.hid hm
  clear hr hd hD hB hm
  go_enter Tryd.func23, Tryd.ntmps23
  go_upto_region 1 with fail
  generalize ((w.alloc (.cells #[.slice Ad nd cd, .slice Ak nk ck, .int .i64 s] 25)).alloc (.cells #[.int .i64 k, .int .i64 f, .int .i64 n, .string ⟨X.toArray⟩, .slice Ap np cp] 38)).alloc (.cells #[.slice none 0 0, .slice none 0 0, .int .i64 0] 25) = w1 at HT Hr Hd HD ⊢
  obtain ⟨b2, hb2⟩ : ∃ b, b = w.heap.size + 1 := ⟨_, rfl⟩
  obtain ⟨b1, hb1⟩ : ∃ b, b = w.heap.size := ⟨_, rfl⟩
  obtain ⟨z, hze⟩ : ∃ z, z = w.heap.size + 2 := ⟨_, rfl⟩
  have Hh := Lib.hid HT.out.1
  have Hp := Lib.hid HT.out.2.1
  have Hz := Lib.hid HT.out.2.2.1
  have Hb := Lib.hid HT.out.2.2.2
  have Hbz := Lib.hid (show w.heap.size ≤ z ∧ w.heap.size ≤ b1 ∧ b1 ≠ z ∧ b2 ≠ z ∧ b2 ≠ b1 by omega)
  rw [← hze] at Hz ⊢
  rw [← hb2] at Hp ⊢
  rw [← hb1] at Hh ⊢
  clear HT hb1 hb2 hze
  obtain ⟨c0, c1, c2⟩ := objs_of Hh.out
  have HM := RMay8 Ad nd cd Ak nk ck s d ks B w1 Hd.out.1 Hr.out (Nat.le_trans HBw.out Hb.out.size)
  rw [Hm.out] at HM
  replace HM := Lib.hid HM
  go_wp2_with fail
  refine HM.out.mono ?_
  rintro e w2 ⟨rfl, hb⟩
  clear c0 c1 c2 HM Hm
  replace Hh := Lib.hid (blk8 Hh.out hb)
  replace Hp := Lib.hid (blk8 Hp.out hb)
  replace Hz := Lib.hid (blk8 Hz.out hb)
  have hBB := Nat.le_trans HBw.out Hb.out.size
  replace Hr := Lib.hid (Hr.out.below (hb.mono hBB))
  replace Hd := Lib.hid (Hd.out.below (hb.mono hBB))
  replace HD := Lib.hid (HD.out.below (hb.mono hBB))
  replace Hb := Lib.hid (Hb.out.trans (hb.mono Hb.out.size))
  clear hb hBB
  have p0 := (PAt.of Hp.out).c0
  go_upto_if 31 with fail
  clear p0
  go_cut [] (fun wx => ∃ Ad1 nd1 cd1 Ak1 nk1 ck1, Hid (wx.heap[b1]? = some (.cells #[.slice Ad1 nd1 cd1, .slice Ak1 nk1 ck1, .int .i64 O.seq] 25 (0, 0))) ∧ Hid (Rd wx B Ad1 nd1 O.data) ∧ Hid (RdK wx B Ak1 nk1 O.keys) ∧ Hid (nd1 ≤ 100000 ∧ nk1 ≤ 100000) ∧ Hid (Below w.heap.size w2 wx) ∧ Hid (wx.heap[b2]? = w2.heap[b2]?) ∧ Hid (wx.heap[z]? = w2.heap[z]?))
  case first =>
    obtain ⟨c0, c1, c2⟩ := objs_of Hh.out
    have f0 := free_blk Hh.out 0
    have f1 := free_blk Hh.out 1
    have f2 := free_blk Hh.out 2
    cases t
    · obtain rfl : O = oj0 := HO.out
      go_wp2_with fail
      go_meet
      exact ⟨none, 0, 0, none, 0, 0, put3_at Hh.out _ _ _, Rd.nil, RdK.nil _ _ _, ⟨by omega, by omega⟩, put3_below (Below.refl _ _) Hbz.out.2.1 _ _ _, put3_block Hbz.out.2.2.2.2 _ _ _, put3_block Hbz.out.2.2.1.symm _ _ _⟩
    · obtain rfl : O = ⟨d, ks, s⟩ := HO.out
      go_wp2_with fail
      go_meet
      exact ⟨Ad, nd, cd, Ak, nk, ck, Hh.out, Hd.out, Hr.out, ⟨by have := Hn.out; omega, by have := Hn.out; omega⟩, Below.refl _ _, rfl, rfl⟩
  case rest =>
    obtain ⟨Ad1, nd1, cd1, Ak1, nk1, ck1, H1, Hd1, Hr1, Hn1, hb, e2, ez⟩ := hcut
    replace Hp := Lib.hid (e2.out.trans Hp.out)
    replace Hz := Lib.hid (ez.out.trans Hz.out)
    replace HD := Lib.hid (HD.out.below (hb.out.mono HBw.out))
    replace Hb := Lib.hid (Hb.out.trans hb.out)
    clear e2 ez hb Hh Hr Hd Hn HO
    obtain ⟨d1, ks1, s1⟩ := O
    have p0 := (PAt.of Hp.out).c0
    go_upto_block 0 with fail
    clear p0
    go_cut [1, 11, 12] (fun u1 u11 u12 wx => ∃ A1 n1 c1 A2 n2 c2 s2 x y, u1 = .bool x ∧ u11 = .bool y ∧ u12 = .int .i64 r.2.2.2 ∧ EndD w wx b1 z r A1 n1 c1 A2 n2 c2 s2 x y)
    case first =>
      have HDs := Lib.hid HD.out.1
      have Hr2 := Lib.hid (Hr1.out.more (Nat.le_trans HBw.out Hb.out.size))
      have Hd2 := Lib.hid (Hd1.out.more (Nat.le_trans HBw.out Hb.out.size))
      have HD2 := Lib.hid (HD.out.more (Nat.le_trans HBw.out Hb.out.size))
      have HBc := Lib.hid (Nat.le_trans HBw.out Hb.out.size)
      have hk : k = 1 ∨ k = 2 ∨ k = 3 ∨ k = 4 ∨ k = 5 ∨ k = 6 ∨ k = 7 ∨ k = 8 ∨ k = 9 ∨ k = 10 ∨ k = 11 ∨ k = 12 ∨ k = 13 ∨ k = 14 := by omega
      clear hk1 hk2
      rcases hk with rfl | rfl | rfl | rfl | rfl | rfl | rfl | rfl | rfl | rfl | rfl | rfl | rfl | rfl
      · skip
        have p0 := (PAt.of Hp.out).c0
        have p1 := (PAt.of Hp.out).c1
        have p2 := (PAt.of Hp.out).c2
        have p3 := (PAt.of Hp.out).c3
        have p4 := (PAt.of Hp.out).c4
        obtain ⟨g0, g1, g2⟩ := objs_of H1.out
        have HG := Lib.hid (RGuard8 Ad1 nd1 cd1 Ak1 nk1 ck1 s1 d1 ks1 t 1 f n X Ap np cp D wc Hr2.out Hn1.out.2 HD2.out)
        have E1 := Lib.hid (show r.1 = (⟨d1, ks1, s1⟩ : Oj) ∧ r.2.1 = t ∧ r.2.2.1 = (guardO ⟨d1, ks1, s1⟩ t ⟨1, f, n, X, D⟩).1 ∧ r.2.2.2 = (guardO ⟨d1, ks1, s1⟩ t ⟨1, f, n, X, D⟩).2 by rw [HR.out]; exact ⟨rfl, rfl, rfl, rfl⟩)
        generalize guardO ⟨d1, ks1, s1⟩ t ⟨1, f, n, X, D⟩ = q at HG E1
        go_wp2_with fail
        refine HG.out.mono ?_
        rintro e w5 ⟨rfl, hb⟩
        have Hp5 := Lib.hid (blk8 Hp.out hb)
        have H5 := Lib.hid (blk8 H1.out hb)
        have Z5 := Lib.hid (blk8 Hz.out hb)
        have B5 := Lib.hid (Hb.out.trans (hb.mono Hb.out.size))
        clear p0 p1 p2 p3 p4 g0 g1 g2
        clear HG
        go_wp2_with fail
        go_meet
        exact ⟨Ad1, nd1, cd1, Ak1, nk1, ck1, s1, t, q.1, rfl, rfl, by rw [E1.out.2.2.2], ⟨H5.out, fun _ => ⟨E1.out.2.1.symm, E1.out.2.2.1.symm, by rw [E1.out.1], by rw [E1.out.1]; exact (Hd2.out.below hb).more hb.size, (by have := Hn1.out.1; omega), by rw [E1.out.1]; exact (Hr2.out.below hb).more hb.size⟩, Z5.out, B5.out⟩⟩
      · skip
        have p0 := (PAt.of Hp.out).c0
        have p1 := (PAt.of Hp.out).c1
        have p2 := (PAt.of Hp.out).c2
        have p3 := (PAt.of Hp.out).c3
        have p4 := (PAt.of Hp.out).c4
        obtain ⟨g0, g1, g2⟩ := objs_of H1.out
        have HG := Lib.hid (RGuard8 Ad1 nd1 cd1 Ak1 nk1 ck1 s1 d1 ks1 t 2 f n X Ap np cp D wc Hr2.out Hn1.out.2 HD2.out)
        have E1 := Lib.hid (show r.1 = (⟨d1, ks1, s1⟩ : Oj) ∧ r.2.1 = t ∧ r.2.2.1 = (guardO ⟨d1, ks1, s1⟩ t ⟨2, f, n, X, D⟩).1 ∧ r.2.2.2 = (guardO ⟨d1, ks1, s1⟩ t ⟨2, f, n, X, D⟩).2 by rw [HR.out]; exact ⟨rfl, rfl, rfl, rfl⟩)
        generalize guardO ⟨d1, ks1, s1⟩ t ⟨2, f, n, X, D⟩ = q at HG E1
        go_wp2_with fail
        refine HG.out.mono ?_
        rintro e w5 ⟨rfl, hb⟩
        have Hp5 := Lib.hid (blk8 Hp.out hb)
        have H5 := Lib.hid (blk8 H1.out hb)
        have Z5 := Lib.hid (blk8 Hz.out hb)
        have B5 := Lib.hid (Hb.out.trans (hb.mono Hb.out.size))
        clear p0 p1 p2 p3 p4 g0 g1 g2
        clear HG
        go_wp2_with fail
        go_meet
        exact ⟨Ad1, nd1, cd1, Ak1, nk1, ck1, s1, t, q.1, rfl, rfl, by rw [E1.out.2.2.2], ⟨H5.out, fun _ => ⟨E1.out.2.1.symm, E1.out.2.2.1.symm, by rw [E1.out.1], by rw [E1.out.1]; exact (Hd2.out.below hb).more hb.size, (by have := Hn1.out.1; omega), by rw [E1.out.1]; exact (Hr2.out.below hb).more hb.size⟩, Z5.out, B5.out⟩⟩
      · skip
        have p0 := (PAt.of Hp.out).c0
        have p1 := (PAt.of Hp.out).c1
        have p2 := (PAt.of Hp.out).c2
        have p3 := (PAt.of Hp.out).c3
        have p4 := (PAt.of Hp.out).c4
        obtain ⟨g0, g1, g2⟩ := objs_of H1.out
        have HG := Lib.hid (RGuard8 Ad1 nd1 cd1 Ak1 nk1 ck1 s1 d1 ks1 t 3 f n X Ap np cp D wc Hr2.out Hn1.out.2 HD2.out)
        have E1 := Lib.hid (show r.1 = (⟨d1, ks1, s1⟩ : Oj) ∧ r.2.1 = t ∧ r.2.2.1 = (guardO ⟨d1, ks1, s1⟩ t ⟨3, f, n, X, D⟩).1 ∧ r.2.2.2 = (guardO ⟨d1, ks1, s1⟩ t ⟨3, f, n, X, D⟩).2 by rw [HR.out]; exact ⟨rfl, rfl, rfl, rfl⟩)
        generalize guardO ⟨d1, ks1, s1⟩ t ⟨3, f, n, X, D⟩ = q at HG E1
        go_wp2_with fail
        refine HG.out.mono ?_
        rintro e w5 ⟨rfl, hb⟩
        have Hp5 := Lib.hid (blk8 Hp.out hb)
        have H5 := Lib.hid (blk8 H1.out hb)
        have Z5 := Lib.hid (blk8 Hz.out hb)
        have B5 := Lib.hid (Hb.out.trans (hb.mono Hb.out.size))
        clear p0 p1 p2 p3 p4 g0 g1 g2
        clear HG
        go_wp2_with fail
        go_meet
        exact ⟨Ad1, nd1, cd1, Ak1, nk1, ck1, s1, t, q.1, rfl, rfl, by rw [E1.out.2.2.2], ⟨H5.out, fun _ => ⟨E1.out.2.1.symm, E1.out.2.2.1.symm, by rw [E1.out.1], by rw [E1.out.1]; exact (Hd2.out.below hb).more hb.size, (by have := Hn1.out.1; omega), by rw [E1.out.1]; exact (Hr2.out.below hb).more hb.size⟩, Z5.out, B5.out⟩⟩
      · skip
        have p0 := (PAt.of Hp.out).c0
        have p1 := (PAt.of Hp.out).c1
        have p2 := (PAt.of Hp.out).c2
        have p3 := (PAt.of Hp.out).c3
        have p4 := (PAt.of Hp.out).c4
        obtain ⟨g0, g1, g2⟩ := objs_of H1.out
        have HG := Lib.hid (RGuard8 Ad1 nd1 cd1 Ak1 nk1 ck1 s1 d1 ks1 t 4 f n X Ap np cp D wc Hr2.out Hn1.out.2 HD2.out)
        have E1 := Lib.hid (show r.1 = (⟨d1, ks1, s1⟩ : Oj) ∧ r.2.1 = t ∧ r.2.2.1 = (guardO ⟨d1, ks1, s1⟩ t ⟨4, f, n, X, D⟩).1 ∧ r.2.2.2 = (guardO ⟨d1, ks1, s1⟩ t ⟨4, f, n, X, D⟩).2 by rw [HR.out]; exact ⟨rfl, rfl, rfl, rfl⟩)
        generalize guardO ⟨d1, ks1, s1⟩ t ⟨4, f, n, X, D⟩ = q at HG E1
        go_wp2_with fail
        refine HG.out.mono ?_
        rintro e w5 ⟨rfl, hb⟩
        have Hp5 := Lib.hid (blk8 Hp.out hb)
        have H5 := Lib.hid (blk8 H1.out hb)
        have Z5 := Lib.hid (blk8 Hz.out hb)
        have B5 := Lib.hid (Hb.out.trans (hb.mono Hb.out.size))
        clear p0 p1 p2 p3 p4 g0 g1 g2
        clear HG
        go_wp2_with fail
        go_meet
        exact ⟨Ad1, nd1, cd1, Ak1, nk1, ck1, s1, t, q.1, rfl, rfl, by rw [E1.out.2.2.2], ⟨H5.out, fun _ => ⟨E1.out.2.1.symm, E1.out.2.2.1.symm, by rw [E1.out.1], by rw [E1.out.1]; exact (Hd2.out.below hb).more hb.size, (by have := Hn1.out.1; omega), by rw [E1.out.1]; exact (Hr2.out.below hb).more hb.size⟩, Z5.out, B5.out⟩⟩
      · skip
        have p0 := (PAt.of Hp.out).c0
        have p1 := (PAt.of Hp.out).c1
        have p2 := (PAt.of Hp.out).c2
        have p3 := (PAt.of Hp.out).c3
        have p4 := (PAt.of Hp.out).c4
        obtain ⟨g0, g1, g2⟩ := objs_of H1.out
        have HG := Lib.hid (RData8_5 Ad1 nd1 cd1 d1 f n X Ap np cp D wc Hd2.out Hn1.out.1 HD2.out)
        obtain ⟨q, hq⟩ : ∃ q, q = dataO d1 ⟨5, f, n, X, D⟩ := ⟨_, rfl⟩
        have E1 := Lib.hid (show r = datO (⟨d1, ks1, s1⟩ : Oj) t 5 q by rw [HR.out, hq]; exact step_dat _ _ ⟨5, f, n, X, D⟩ (by show (4 : Int) < 5; decide) (by show (5 : Int) ≤ 7; decide))
        rw [← hq] at HG
        clear hq
        go_wp2_with fail
        refine HG.out.mono ?_
        rintro e w5 ⟨v5, rfl, ⟨A5, n5, c5, rfl, R5, hn5⟩, hb⟩
        have R5 := Lib.hid R5
        have K5 := Lib.hid ((Hr2.out.below hb).more hb.size)
        have Hp5 := Lib.hid (blk8 Hp.out hb)
        have H5 := Lib.hid (blk8 H1.out hb)
        have Z5 := Lib.hid (blk8 Hz.out hb)
        have B5 := Lib.hid (Hb.out.trans (hb.mono Hb.out.size))
        clear p0 p1 p2 p3 p4 g0 g1 g2
        clear HG hb
        obtain ⟨g0, g1, g2⟩ := objs_of H5.out
        have f0 := free_blk H5.out 0
        have P6 : Hid ((w5.setCell ⟨b1, 0, none⟩ (.slice A5 n5 c5)).heap[b1]? = some (.cells #[.slice A5 n5 c5, .slice Ak1 nk1 ck1, .int .i64 s1] 25 (0, 0))) := set_blk H5.out 0 _
        have Z6 := Lib.hid ((Below.heap_setCell w5 ⟨b1, 0, none⟩ (.slice A5 n5 c5) z Hbz.out.2.2.1.symm).trans Z5.out)
        have Hp6 := Lib.hid ((Below.heap_setCell w5 ⟨b1, 0, none⟩ (.slice A5 n5 c5) b2 Hbz.out.2.2.2.2).trans Hp5.out)
        have B6 := Lib.hid (B5.out.setCell (p := ⟨b1, 0, none⟩) Hbz.out.2.1 (.slice A5 n5 c5))
        have R6 := Lib.hid (R5.out.setO H5.out 0 (.slice A5 n5 c5))
        have K6 := Lib.hid (K5.out.setO H5.out 0 (.slice A5 n5 c5))
        have hsz : w5.heap.size = (w5.setCell ⟨b1, 0, none⟩ (.slice A5 n5 c5)).heap.size := by simp [World.setCell]
        rw [hsz] at R6 K6
        clear hsz R5 K5
        go_upto_region 19 with fail
        clear g0 g1 g2 f0
        generalize w5.setCell ⟨b1, 0, none⟩ (.slice A5 n5 c5) = w6 at P6 Z6 Hp6 B6 R6 K6 ⊢
        have p0 := (PAt.of Hp6.out).c0
        cases q with
        | none =>
          have E2 := Lib.hid (show r = ((⟨d1, ks1, s1⟩ : Oj), t, true, (2 : Int)) from E1.out)
          cases t
          · go_wp2_with fail
            go_meet
            exact ⟨A5, n5, c5, Ak1, nk1, ck1, s1, true, true, rfl, rfl, by rw [E2.out], ⟨P6.out, fun h => absurd h (by rw [E2.out]; exact (by decide : ¬ ((2 : Int) = 0))), Z6.out, B6.out⟩⟩
          · go_wp2_with fail
            go_meet
            exact ⟨A5, n5, c5, Ak1, nk1, ck1, s1, true, true, rfl, rfl, by rw [E2.out], ⟨P6.out, fun h => absurd h (by rw [E2.out]; exact (by decide : ¬ ((2 : Int) = 0))), Z6.out, B6.out⟩⟩
        | some x =>
          have E2 := Lib.hid (show r = ((⟨x, ks1, s1⟩ : Oj), t || decide ((5 : Int) = 5), true, (0 : Int)) from E1.out)
          cases t
          · go_wp2_with fail
            go_meet
            exact ⟨A5, n5, c5, Ak1, nk1, ck1, s1, true, true, rfl, rfl, by rw [E2.out], ⟨P6.out, fun _ => by rw [E2.out]; exact ⟨rfl, rfl, rfl, R6.out, hn5, K6.out⟩, Z6.out, B6.out⟩⟩
          · go_wp2_with fail
            go_meet
            exact ⟨A5, n5, c5, Ak1, nk1, ck1, s1, true, true, rfl, rfl, by rw [E2.out], ⟨P6.out, fun _ => by rw [E2.out]; exact ⟨rfl, rfl, rfl, R6.out, hn5, K6.out⟩, Z6.out, B6.out⟩⟩
      · skip
        have p0 := (PAt.of Hp.out).c0
        have p1 := (PAt.of Hp.out).c1
        have p2 := (PAt.of Hp.out).c2
        have p3 := (PAt.of Hp.out).c3
        have p4 := (PAt.of Hp.out).c4
        obtain ⟨g0, g1, g2⟩ := objs_of H1.out
        have HG := Lib.hid (RData8_6 Ad1 nd1 cd1 d1 f n X Ap np cp D wc Hd2.out Hn1.out.1)
        obtain ⟨q, hq⟩ : ∃ q, q = dataO d1 ⟨6, f, n, X, D⟩ := ⟨_, rfl⟩
        have E1 := Lib.hid (show r = datO (⟨d1, ks1, s1⟩ : Oj) t 6 q by rw [HR.out, hq]; exact step_dat _ _ ⟨6, f, n, X, D⟩ (by show (4 : Int) < 6; decide) (by show (6 : Int) ≤ 7; decide))
        rw [← hq] at HG
        clear hq
        go_wp2_with fail
        refine HG.out.mono ?_
        rintro e w5 ⟨v5, rfl, ⟨A5, n5, c5, rfl, R5, hn5⟩, hb⟩
        have R5 := Lib.hid R5
        have K5 := Lib.hid ((Hr2.out.below hb).more hb.size)
        have Hp5 := Lib.hid (blk8 Hp.out hb)
        have H5 := Lib.hid (blk8 H1.out hb)
        have Z5 := Lib.hid (blk8 Hz.out hb)
        have B5 := Lib.hid (Hb.out.trans (hb.mono Hb.out.size))
        clear p0 p1 p2 p3 p4 g0 g1 g2
        clear HG hb
        obtain ⟨g0, g1, g2⟩ := objs_of H5.out
        have f0 := free_blk H5.out 0
        have P6 : Hid ((w5.setCell ⟨b1, 0, none⟩ (.slice A5 n5 c5)).heap[b1]? = some (.cells #[.slice A5 n5 c5, .slice Ak1 nk1 ck1, .int .i64 s1] 25 (0, 0))) := set_blk H5.out 0 _
        have Z6 := Lib.hid ((Below.heap_setCell w5 ⟨b1, 0, none⟩ (.slice A5 n5 c5) z Hbz.out.2.2.1.symm).trans Z5.out)
        have Hp6 := Lib.hid ((Below.heap_setCell w5 ⟨b1, 0, none⟩ (.slice A5 n5 c5) b2 Hbz.out.2.2.2.2).trans Hp5.out)
        have B6 := Lib.hid (B5.out.setCell (p := ⟨b1, 0, none⟩) Hbz.out.2.1 (.slice A5 n5 c5))
        have R6 := Lib.hid (R5.out.setO H5.out 0 (.slice A5 n5 c5))
        have K6 := Lib.hid (K5.out.setO H5.out 0 (.slice A5 n5 c5))
        have hsz : w5.heap.size = (w5.setCell ⟨b1, 0, none⟩ (.slice A5 n5 c5)).heap.size := by simp [World.setCell]
        rw [hsz] at R6 K6
        clear hsz R5 K5
        go_upto_region 19 with fail
        clear g0 g1 g2 f0
        generalize w5.setCell ⟨b1, 0, none⟩ (.slice A5 n5 c5) = w6 at P6 Z6 Hp6 B6 R6 K6 ⊢
        have p0 := (PAt.of Hp6.out).c0
        cases q with
        | none =>
          have E2 := Lib.hid (show r = ((⟨d1, ks1, s1⟩ : Oj), t, true, (2 : Int)) from E1.out)
          cases t
          · go_wp2_with fail
            go_meet
            exact ⟨A5, n5, c5, Ak1, nk1, ck1, s1, false, true, rfl, rfl, by rw [E2.out], ⟨P6.out, fun h => absurd h (by rw [E2.out]; exact (by decide : ¬ ((2 : Int) = 0))), Z6.out, B6.out⟩⟩
          · go_wp2_with fail
            go_meet
            exact ⟨A5, n5, c5, Ak1, nk1, ck1, s1, true, true, rfl, rfl, by rw [E2.out], ⟨P6.out, fun h => absurd h (by rw [E2.out]; exact (by decide : ¬ ((2 : Int) = 0))), Z6.out, B6.out⟩⟩
        | some x =>
          have E2 := Lib.hid (show r = ((⟨x, ks1, s1⟩ : Oj), t || decide ((6 : Int) = 5), true, (0 : Int)) from E1.out)
          cases t
          · go_wp2_with fail
            go_meet
            exact ⟨A5, n5, c5, Ak1, nk1, ck1, s1, false, true, rfl, rfl, by rw [E2.out], ⟨P6.out, fun _ => by rw [E2.out]; exact ⟨rfl, rfl, rfl, R6.out, hn5, K6.out⟩, Z6.out, B6.out⟩⟩
          · go_wp2_with fail
            go_meet
            exact ⟨A5, n5, c5, Ak1, nk1, ck1, s1, true, true, rfl, rfl, by rw [E2.out], ⟨P6.out, fun _ => by rw [E2.out]; exact ⟨rfl, rfl, rfl, R6.out, hn5, K6.out⟩, Z6.out, B6.out⟩⟩
      · skip
        have p0 := (PAt.of Hp.out).c0
        have p1 := (PAt.of Hp.out).c1
        have p2 := (PAt.of Hp.out).c2
        have p3 := (PAt.of Hp.out).c3
        have p4 := (PAt.of Hp.out).c4
        obtain ⟨g0, g1, g2⟩ := objs_of H1.out
        have HG := Lib.hid (RData8_7 Ad1 nd1 cd1 d1 f n X Ap np cp D wc Hd2.out Hn1.out.1)
        obtain ⟨q, hq⟩ : ∃ q, q = dataO d1 ⟨7, f, n, X, D⟩ := ⟨_, rfl⟩
        have E1 := Lib.hid (show r = datO (⟨d1, ks1, s1⟩ : Oj) t 7 q by rw [HR.out, hq]; exact step_dat _ _ ⟨7, f, n, X, D⟩ (by show (4 : Int) < 7; decide) (by show (7 : Int) ≤ 7; decide))
        rw [← hq] at HG
        clear hq
        go_wp2_with fail
        refine HG.out.mono ?_
        rintro e w5 ⟨v5, rfl, ⟨A5, n5, c5, rfl, R5, hn5⟩, hb⟩
        have R5 := Lib.hid R5
        have K5 := Lib.hid ((Hr2.out.below hb).more hb.size)
        have Hp5 := Lib.hid (blk8 Hp.out hb)
        have H5 := Lib.hid (blk8 H1.out hb)
        have Z5 := Lib.hid (blk8 Hz.out hb)
        have B5 := Lib.hid (Hb.out.trans (hb.mono Hb.out.size))
        clear p0 p1 p2 p3 p4 g0 g1 g2
        clear HG hb
        obtain ⟨g0, g1, g2⟩ := objs_of H5.out
        have f0 := free_blk H5.out 0
        have P6 : Hid ((w5.setCell ⟨b1, 0, none⟩ (.slice A5 n5 c5)).heap[b1]? = some (.cells #[.slice A5 n5 c5, .slice Ak1 nk1 ck1, .int .i64 s1] 25 (0, 0))) := set_blk H5.out 0 _
        have Z6 := Lib.hid ((Below.heap_setCell w5 ⟨b1, 0, none⟩ (.slice A5 n5 c5) z Hbz.out.2.2.1.symm).trans Z5.out)
        have Hp6 := Lib.hid ((Below.heap_setCell w5 ⟨b1, 0, none⟩ (.slice A5 n5 c5) b2 Hbz.out.2.2.2.2).trans Hp5.out)
        have B6 := Lib.hid (B5.out.setCell (p := ⟨b1, 0, none⟩) Hbz.out.2.1 (.slice A5 n5 c5))
        have R6 := Lib.hid (R5.out.setO H5.out 0 (.slice A5 n5 c5))
        have K6 := Lib.hid (K5.out.setO H5.out 0 (.slice A5 n5 c5))
        have hsz : w5.heap.size = (w5.setCell ⟨b1, 0, none⟩ (.slice A5 n5 c5)).heap.size := by simp [World.setCell]
        rw [hsz] at R6 K6
        clear hsz R5 K5
        go_upto_region 19 with fail
        clear g0 g1 g2 f0
        generalize w5.setCell ⟨b1, 0, none⟩ (.slice A5 n5 c5) = w6 at P6 Z6 Hp6 B6 R6 K6 ⊢
        have p0 := (PAt.of Hp6.out).c0
        cases q with
        | none =>
          have E2 := Lib.hid (show r = ((⟨d1, ks1, s1⟩ : Oj), t, true, (2 : Int)) from E1.out)
          cases t
          · go_wp2_with fail
            go_meet
            exact ⟨A5, n5, c5, Ak1, nk1, ck1, s1, false, true, rfl, rfl, by rw [E2.out], ⟨P6.out, fun h => absurd h (by rw [E2.out]; exact (by decide : ¬ ((2 : Int) = 0))), Z6.out, B6.out⟩⟩
          · go_wp2_with fail
            go_meet
            exact ⟨A5, n5, c5, Ak1, nk1, ck1, s1, true, true, rfl, rfl, by rw [E2.out], ⟨P6.out, fun h => absurd h (by rw [E2.out]; exact (by decide : ¬ ((2 : Int) = 0))), Z6.out, B6.out⟩⟩
        | some x =>
          have E2 := Lib.hid (show r = ((⟨x, ks1, s1⟩ : Oj), t || decide ((7 : Int) = 5), true, (0 : Int)) from E1.out)
          cases t
          · go_wp2_with fail
            go_meet
            exact ⟨A5, n5, c5, Ak1, nk1, ck1, s1, false, true, rfl, rfl, by rw [E2.out], ⟨P6.out, fun _ => by rw [E2.out]; exact ⟨rfl, rfl, rfl, R6.out, hn5, K6.out⟩, Z6.out, B6.out⟩⟩
          · go_wp2_with fail
            go_meet
            exact ⟨A5, n5, c5, Ak1, nk1, ck1, s1, true, true, rfl, rfl, by rw [E2.out], ⟨P6.out, fun _ => by rw [E2.out]; exact ⟨rfl, rfl, rfl, R6.out, hn5, K6.out⟩, Z6.out, B6.out⟩⟩
      · skip
        have p0 := (PAt.of Hp.out).c0
        have p1 := (PAt.of Hp.out).c1
        have p2 := (PAt.of Hp.out).c2
        have p3 := (PAt.of Hp.out).c3
        have p4 := (PAt.of Hp.out).c4
        obtain ⟨g0, g1, g2⟩ := objs_of H1.out
        have f0 := free_blk H1.out 0
        have P6 : Hid ((wc.setCell ⟨b1, 0, none⟩ (.slice Ap np cp)).heap[b1]? = some (.cells #[.slice Ap np cp, .slice Ak1 nk1 ck1, .int .i64 s1] 25 (0, 0))) := set_blk H1.out 0 _
        have Z6 := Lib.hid ((Below.heap_setCell wc ⟨b1, 0, none⟩ (.slice Ap np cp) z Hbz.out.2.2.1.symm).trans Hz.out)
        have Hp6 := Lib.hid ((Below.heap_setCell wc ⟨b1, 0, none⟩ (.slice Ap np cp) b2 Hbz.out.2.2.2.2).trans Hp.out)
        have B6 := Lib.hid (Hb.out.setCell (p := ⟨b1, 0, none⟩) Hbz.out.2.1 (.slice Ap np cp))
        have R6 := Lib.hid (HD2.out.setO H1.out 0 (.slice Ap np cp))
        have K6 := Lib.hid (Hr2.out.setO H1.out 0 (.slice Ap np cp))
        have hsz : wc.heap.size = (wc.setCell ⟨b1, 0, none⟩ (.slice Ap np cp)).heap.size := by simp [World.setCell]
        have hle := Hb.out.size
        go_upto_region 25 with fail
        clear p0 p1 p2 p3 p4 g0 g1 g2 f0 hle
        have R7 := R6.out
        have K7 := K6.out
        rw [hsz] at R7 K7
        replace R7 := Lib.hid R7
        replace K7 := Lib.hid K7
        clear R6 K6 hsz
        generalize wc.setCell ⟨b1, 0, none⟩ (.slice Ap np cp) = w6 at P6 Z6 Hp6 B6 R7 K7 ⊢
        have p0 := (PAt.of Hp6.out).c0
        have p1 := (PAt.of Hp6.out).c1
        have p2 := (PAt.of Hp6.out).c2
        have p3 := (PAt.of Hp6.out).c3
        have p4 := (PAt.of Hp6.out).c4
        have E1 := Lib.hid (show r = ((⟨D, ks1, s1⟩ : Oj), true, true, if np > 64 then (2 : Int) else 0) by rw [HR.out, ← HDs.out]; rfl)
        by_cases h : 64 < np
        · have E2 := Lib.hid (show r = ((⟨D, ks1, s1⟩ : Oj), true, true, (2 : Int)) by rw [E1.out, if_pos (show np > 64 from h)])
          go_wp2_with fail
          go_meet
          exact ⟨Ap, np, cp, Ak1, nk1, ck1, s1, true, true, rfl, rfl, by rw [E2.out], ⟨P6.out, fun h => absurd h (by rw [E2.out]; exact (by decide : ¬ ((2 : Int) = 0))), Z6.out, B6.out⟩⟩
        · have E2 := Lib.hid (show r = ((⟨D, ks1, s1⟩ : Oj), true, true, (0 : Int)) by rw [E1.out, if_neg (show ¬ np > 64 from h)])
          go_wp2_with fail
          go_meet
          exact ⟨Ap, np, cp, Ak1, nk1, ck1, s1, true, true, rfl, rfl, by rw [E2.out], ⟨P6.out, fun _ => by rw [E2.out]; exact ⟨rfl, rfl, rfl, R7.out, hnp, K7.out⟩, Z6.out, B6.out⟩⟩
      · skip
        have p0 := (PAt.of Hp.out).c0
        have p1 := (PAt.of Hp.out).c1
        have p2 := (PAt.of Hp.out).c2
        have p3 := (PAt.of Hp.out).c3
        have p4 := (PAt.of Hp.out).c4
        obtain ⟨g0, g1, g2⟩ := objs_of H1.out
        have HG := Lib.hid (RKey8_9 Ad1 nd1 cd1 Ak1 nk1 ck1 s1 ks1 f n X Ap np cp D B wc HBc.out Hr1.out Hn1.out.2 hX HD.out hnp)
        have E1 := Lib.hid (show r = ((⟨d1, (setK ks1 X D).1, s1⟩ : Oj), true, true, (setK ks1 X D).2) by rw [HR.out]; rfl)
        generalize setK ks1 X D = q at HG E1
        go_wp2_with fail
        refine HG.out.mono ?_
        rintro e w5 ⟨A5, l5, c5, rfl, hor, hb⟩
        have K5 : Hid (RdK w5 w5.heap.size A5 l5 q.1) := by
          rcases hor with ⟨rfl, rfl, rfl, e1⟩ | ⟨vs, e1, e2, e3, own⟩
          · rw [e1]; exact (Hr2.out.below hb).more hb.size
          · rw [← e1]; exact RdK.own own e2 (fun p hp => ⟨((e3 p hp).1.below (hb.mono HBc.out)).more (Nat.le_trans HBc.out hb.size), (e3 p hp).2⟩)
        have R5 := Lib.hid ((Hd2.out.below hb).more hb.size)
        have Hp5 := Lib.hid (blk8 Hp.out hb)
        have H5 := Lib.hid (blk8 H1.out hb)
        have Z5 := Lib.hid (blk8 Hz.out hb)
        have B5 := Lib.hid (Hb.out.trans (hb.mono Hb.out.size))
        clear p0 p1 p2 p3 p4 g0 g1 g2
        clear HG hb hor
        obtain ⟨g0, g1, g2⟩ := objs_of H5.out
        have f0 := free_blk H5.out 0
        have f1 := free_blk H5.out 1
        have f2 := free_blk H5.out 2
        have hsz := put3_size w5 b1 (.slice Ad1 nd1 cd1) (.slice A5 l5 c5) (.int .i64 s1)
        have R6 := R5.out.putO H5.out (.slice Ad1 nd1 cd1) (.slice A5 l5 c5) (.int .i64 s1)
        have K6 := K5.out.putO H5.out (.slice Ad1 nd1 cd1) (.slice A5 l5 c5) (.int .i64 s1)
        rw [← hsz] at R6 K6
        replace R6 := Lib.hid R6
        replace K6 := Lib.hid K6
        clear hsz
        go_wp2_with fail
        go_meet
        exact ⟨Ad1, nd1, cd1, A5, l5, c5, s1, true, true, rfl, rfl, by rw [E1.out], ⟨put3_at H5.out _ _ _, fun _ => by rw [E1.out]; exact ⟨rfl, rfl, rfl, R6.out, (by have := Hn1.out.1; omega), K6.out⟩, (put3_block Hbz.out.2.2.1.symm _ _ _).trans Z5.out, put3_below B5.out Hbz.out.2.1 _ _ _⟩⟩
      · skip
        have p0 := (PAt.of Hp.out).c0
        have p1 := (PAt.of Hp.out).c1
        have p2 := (PAt.of Hp.out).c2
        have p3 := (PAt.of Hp.out).c3
        have p4 := (PAt.of Hp.out).c4
        obtain ⟨g0, g1, g2⟩ := objs_of H1.out
        have HG := Lib.hid (Rdrop8 Ad1 nd1 cd1 Ak1 nk1 ck1 s1 ks1 X B wc HBc.out Hr1.out Hn1.out.2)
        have E1 := Lib.hid (show r = ((⟨d1, dropK ks1 X, s1⟩ : Oj), t, true, (0 : Int)) by rw [HR.out]; rfl)
        go_wp2_with fail
        refine HG.out.mono ?_
        rintro e w5 ⟨A5, l5, c5, vs, rfl, e1, e2, e3, own, hb⟩
        have K5 : Hid (RdK w5 w5.heap.size A5 l5 (dropK ks1 X)) := by rw [← e1]; exact RdK.own own e2 (fun p hp => ⟨((e3 p hp).1.below (hb.mono HBc.out)).more (Nat.le_trans HBc.out hb.size), (e3 p hp).2⟩)
        have R5 := Lib.hid ((Hd2.out.below hb).more hb.size)
        have Hp5 := Lib.hid (blk8 Hp.out hb)
        have H5 := Lib.hid (blk8 H1.out hb)
        have Z5 := Lib.hid (blk8 Hz.out hb)
        have B5 := Lib.hid (Hb.out.trans (hb.mono Hb.out.size))
        clear p0 p1 p2 p3 p4 g0 g1 g2
        clear HG hb e1 e2 e3 own
        obtain ⟨g0, g1, g2⟩ := objs_of H5.out
        have f0 := free_blk H5.out 0
        have f1 := free_blk H5.out 1
        have f2 := free_blk H5.out 2
        have hsz := put3_size w5 b1 (.slice Ad1 nd1 cd1) (.slice A5 l5 c5) (.int .i64 s1)
        have R6 := R5.out.putO H5.out (.slice Ad1 nd1 cd1) (.slice A5 l5 c5) (.int .i64 s1)
        have K6 := K5.out.putO H5.out (.slice Ad1 nd1 cd1) (.slice A5 l5 c5) (.int .i64 s1)
        rw [← hsz] at R6 K6
        replace R6 := Lib.hid R6
        replace K6 := Lib.hid K6
        clear hsz
        go_wp2_with fail
        go_meet
        exact ⟨Ad1, nd1, cd1, A5, l5, c5, s1, t, true, rfl, rfl, by rw [E1.out], ⟨put3_at H5.out _ _ _, fun _ => by rw [E1.out]; exact ⟨rfl, rfl, rfl, R6.out, (by have := Hn1.out.1; omega), K6.out⟩, (put3_block Hbz.out.2.2.1.symm _ _ _).trans Z5.out, put3_below B5.out Hbz.out.2.1 _ _ _⟩⟩
      · skip
        have p0 := (PAt.of Hp.out).c0
        have p1 := (PAt.of Hp.out).c1
        have p2 := (PAt.of Hp.out).c2
        have p3 := (PAt.of Hp.out).c3
        have p4 := (PAt.of Hp.out).c4
        obtain ⟨g0, g1, g2⟩ := objs_of H1.out
        have HG := Lib.hid (RKey8_11 Ad1 nd1 cd1 Ak1 nk1 ck1 s1 d1 ks1 f n X Ap np cp B wc HBc.out Hr1.out Hn1.out.2 hX Hd1.out (by have := Hn1.out.1; omega))
        have E1 := Lib.hid (show r = ((⟨d1, (cloneK ks1 X d1).1, s1⟩ : Oj), true, true, (cloneK ks1 X d1).2) by rw [HR.out]; rfl)
        generalize cloneK ks1 X d1 = q at HG E1
        go_wp2_with fail
        refine HG.out.mono ?_
        rintro e w5 ⟨A5, l5, c5, rfl, hor, hb⟩
        have K5 : Hid (RdK w5 w5.heap.size A5 l5 q.1) := by
          rcases hor with ⟨rfl, rfl, rfl, e1⟩ | ⟨vs, e1, e2, e3, own⟩
          · rw [e1]; exact (Hr2.out.below hb).more hb.size
          · rw [← e1]; exact RdK.own own e2 (fun p hp => ⟨((e3 p hp).1.below (hb.mono HBc.out)).more (Nat.le_trans HBc.out hb.size), (e3 p hp).2⟩)
        have R5 := Lib.hid ((Hd2.out.below hb).more hb.size)
        have Hp5 := Lib.hid (blk8 Hp.out hb)
        have H5 := Lib.hid (blk8 H1.out hb)
        have Z5 := Lib.hid (blk8 Hz.out hb)
        have B5 := Lib.hid (Hb.out.trans (hb.mono Hb.out.size))
        clear p0 p1 p2 p3 p4 g0 g1 g2
        clear HG hb hor
        obtain ⟨g0, g1, g2⟩ := objs_of H5.out
        have f0 := free_blk H5.out 0
        have f1 := free_blk H5.out 1
        have f2 := free_blk H5.out 2
        have hsz := put3_size w5 b1 (.slice Ad1 nd1 cd1) (.slice A5 l5 c5) (.int .i64 s1)
        have R6 := R5.out.putO H5.out (.slice Ad1 nd1 cd1) (.slice A5 l5 c5) (.int .i64 s1)
        have K6 := K5.out.putO H5.out (.slice Ad1 nd1 cd1) (.slice A5 l5 c5) (.int .i64 s1)
        rw [← hsz] at R6 K6
        replace R6 := Lib.hid R6
        replace K6 := Lib.hid K6
        clear hsz
        go_wp2_with fail
        go_meet
        exact ⟨Ad1, nd1, cd1, A5, l5, c5, s1, true, true, rfl, rfl, by rw [E1.out], ⟨put3_at H5.out _ _ _, fun _ => by rw [E1.out]; exact ⟨rfl, rfl, rfl, R6.out, (by have := Hn1.out.1; omega), K6.out⟩, (put3_block Hbz.out.2.2.1.symm _ _ _).trans Z5.out, put3_below B5.out Hbz.out.2.1 _ _ _⟩⟩
      · skip
        have p0 := (PAt.of Hp.out).c0
        have p1 := (PAt.of Hp.out).c1
        have p2 := (PAt.of Hp.out).c2
        have p3 := (PAt.of Hp.out).c3
        have p4 := (PAt.of Hp.out).c4
        obtain ⟨g0, g1, g2⟩ := objs_of H1.out
        have f0 := free_blk H1.out 2
        have P6 : Hid ((wc.setCell ⟨b1, 2, none⟩ (.int .i64 n)).heap[b1]? = some (.cells #[.slice Ad1 nd1 cd1, .slice Ak1 nk1 ck1, .int .i64 n] 25 (0, 0))) := set_blk H1.out 2 _
        have Z6 := Lib.hid ((Below.heap_setCell wc ⟨b1, 2, none⟩ (.int .i64 n) z Hbz.out.2.2.1.symm).trans Hz.out)
        have Hp6 := Lib.hid ((Below.heap_setCell wc ⟨b1, 2, none⟩ (.int .i64 n) b2 Hbz.out.2.2.2.2).trans Hp.out)
        have B6 := Lib.hid (Hb.out.setCell (p := ⟨b1, 2, none⟩) Hbz.out.2.1 (.int .i64 n))
        have R6 := Lib.hid (Hd2.out.setO H1.out 2 (.int .i64 n))
        have K6 := Lib.hid (Hr2.out.setO H1.out 2 (.int .i64 n))
        have hsz : wc.heap.size = (wc.setCell ⟨b1, 2, none⟩ (.int .i64 n)).heap.size := by simp [World.setCell]
        have hle := Hb.out.size
        go_upto_region 36 with fail
        clear p0 p1 p2 p3 p4 g0 g1 g2 f0 hle
        have R7 := R6.out
        have K7 := K6.out
        rw [hsz] at R7 K7
        replace R7 := Lib.hid R7
        replace K7 := Lib.hid K7
        clear R6 K6 hsz
        generalize wc.setCell ⟨b1, 2, none⟩ (.int .i64 n) = w6 at P6 Z6 Hp6 B6 R7 K7 ⊢
        have p0 := (PAt.of Hp6.out).c0
        have p1 := (PAt.of Hp6.out).c1
        have p2 := (PAt.of Hp6.out).c2
        have p3 := (PAt.of Hp6.out).c3
        have p4 := (PAt.of Hp6.out).c4
        have E1 := Lib.hid (show r = ((⟨d1, ks1, n⟩ : Oj), true, true, if n < 0 ∨ n > 1099511627776 then (2 : Int) else 0) by rw [HR.out]; rfl)
        by_cases h : n < 0 ∨ 1099511627776 < n
        · have E2 := Lib.hid (show r = ((⟨d1, ks1, n⟩ : Oj), true, true, (2 : Int)) by rw [E1.out, if_pos h])
          rcases h with h | h
          · skip
            go_wp2_with fail
            go_meet
            exact ⟨Ad1, nd1, cd1, Ak1, nk1, ck1, n, true, true, rfl, rfl, by rw [E2.out], ⟨P6.out, fun h => absurd h (by rw [E2.out]; exact (by decide : ¬ ((2 : Int) = 0))), Z6.out, B6.out⟩⟩
          · skip
            have h1 : ¬ n < 0 := by omega
            go_wp2_with fail
            go_meet
            exact ⟨Ad1, nd1, cd1, Ak1, nk1, ck1, n, true, true, rfl, rfl, by rw [E2.out], ⟨P6.out, fun h => absurd h (by rw [E2.out]; exact (by decide : ¬ ((2 : Int) = 0))), Z6.out, B6.out⟩⟩
        · have E2 := Lib.hid (show r = ((⟨d1, ks1, n⟩ : Oj), true, true, (0 : Int)) by rw [E1.out, if_neg h])
          obtain ⟨h1, h2⟩ := not_or.1 h
          clear h
          go_wp2_with fail
          go_meet
          exact ⟨Ad1, nd1, cd1, Ak1, nk1, ck1, n, true, true, rfl, rfl, by rw [E2.out], ⟨P6.out, fun _ => by rw [E2.out]; exact ⟨rfl, rfl, rfl, R7.out, (by have := Hn1.out.1; omega), K7.out⟩, Z6.out, B6.out⟩⟩
      · skip
        have p0 := (PAt.of Hp.out).c0
        have p1 := (PAt.of Hp.out).c1
        have p2 := (PAt.of Hp.out).c2
        have p3 := (PAt.of Hp.out).c3
        have p4 := (PAt.of Hp.out).c4
        obtain ⟨g0, g1, g2⟩ := objs_of H1.out
        have E1 := Lib.hid (show r = ((⟨d1, ks1, s1⟩ : Oj), false, true, (0 : Int)) by rw [HR.out]; rfl)
        go_wp2_with fail
        go_meet
        exact ⟨Ad1, nd1, cd1, Ak1, nk1, ck1, s1, false, true, rfl, rfl, by rw [E1.out], ⟨H1.out, fun _ => by rw [E1.out]; exact ⟨rfl, rfl, rfl, Hd2.out, (by have := Hn1.out.1; omega), Hr2.out⟩, Hz.out, Hb.out⟩⟩
      · skip
        have p0 := (PAt.of Hp.out).c0
        have p1 := (PAt.of Hp.out).c1
        have p2 := (PAt.of Hp.out).c2
        have p3 := (PAt.of Hp.out).c3
        have p4 := (PAt.of Hp.out).c4
        obtain ⟨g0, g1, g2⟩ := objs_of H1.out
        have HG := Lib.hid (RAt8 Ad1 nd1 cd1 Ak1 nk1 ck1 s1 d1 ks1 X B wc Hd1.out (by have := Hn1.out.1; omega) Hr1.out HBc.out Hn1.out.2 hX)
        have E1 := Lib.hid (show r = ((⟨atK d1 ks1 X, ks1, s1⟩ : Oj), t, true, if (atK d1 ks1 X).length > 64 then (2 : Int) else 0) by rw [HR.out]; rfl)
        generalize atK d1 ks1 X = q at HG E1
        go_wp2_with fail
        refine HG.out.mono ?_
        rintro e w5 ⟨v5, rfl, ⟨A5, n5, c5, rfl, R5, hn5⟩, hb⟩
        have E2 := Lib.hid (show r = ((⟨q, ks1, s1⟩ : Oj), t, true, if n5 > 64 then (2 : Int) else 0) by rw [E1.out, R5.1])
        replace R5 := Lib.hid ((R5.below (hb.mono HBc.out)).more (Nat.le_trans HBc.out hb.size))
        have K5 := Lib.hid ((Hr2.out.below hb).more hb.size)
        have Hp5 := Lib.hid (blk8 Hp.out hb)
        have H5 := Lib.hid (blk8 H1.out hb)
        have Z5 := Lib.hid (blk8 Hz.out hb)
        have B5 := Lib.hid (Hb.out.trans (hb.mono Hb.out.size))
        clear p0 p1 p2 p3 p4 g0 g1 g2
        clear HG hb E1
        obtain ⟨g0, g1, g2⟩ := objs_of H5.out
        have f0 := free_blk H5.out 0
        have P6 : Hid ((w5.setCell ⟨b1, 0, none⟩ (.slice A5 n5 c5)).heap[b1]? = some (.cells #[.slice A5 n5 c5, .slice Ak1 nk1 ck1, .int .i64 s1] 25 (0, 0))) := set_blk H5.out 0 _
        have Z6 := Lib.hid ((Below.heap_setCell w5 ⟨b1, 0, none⟩ (.slice A5 n5 c5) z Hbz.out.2.2.1.symm).trans Z5.out)
        have B6 := Lib.hid (B5.out.setCell (p := ⟨b1, 0, none⟩) Hbz.out.2.1 (.slice A5 n5 c5))
        have R6 := R5.out.setO H5.out 0 (.slice A5 n5 c5)
        have K6 := K5.out.setO H5.out 0 (.slice A5 n5 c5)
        have hsz : w5.heap.size = (w5.setCell ⟨b1, 0, none⟩ (.slice A5 n5 c5)).heap.size := by simp [World.setCell]
        rw [hsz] at R6 K6
        replace R6 := Lib.hid R6
        replace K6 := Lib.hid K6
        clear hsz R5 K5
        go_upto_region 42 with fail
        clear g0 g1 g2 f0
        generalize w5.setCell ⟨b1, 0, none⟩ (.slice A5 n5 c5) = w6 at P6 Z6 B6 R6 K6 ⊢
        obtain ⟨g0, g1, g2⟩ := objs_of P6.out
        by_cases h : 64 < n5
        · have E3 := Lib.hid (show r = ((⟨q, ks1, s1⟩ : Oj), t, true, (2 : Int)) by rw [E2.out, if_pos (show n5 > 64 from h)])
          go_wp2_with fail
          go_meet
          exact ⟨A5, n5, c5, Ak1, nk1, ck1, s1, t, true, rfl, rfl, by rw [E3.out], ⟨P6.out, fun h => absurd h (by rw [E3.out]; exact (by decide : ¬ ((2 : Int) = 0))), Z6.out, B6.out⟩⟩
        · have E3 := Lib.hid (show r = ((⟨q, ks1, s1⟩ : Oj), t, true, (0 : Int)) by rw [E2.out, if_neg (show ¬ n5 > 64 from h)])
          go_wp2_with fail
          go_meet
          exact ⟨A5, n5, c5, Ak1, nk1, ck1, s1, t, true, rfl, rfl, by rw [E3.out], ⟨P6.out, fun _ => by rw [E3.out]; exact ⟨rfl, rfl, rfl, R6.out, hn5, K6.out⟩, Z6.out, B6.out⟩⟩
    case rest =>
      obtain ⟨A1, n1, c1, A2, n2, c2, s2, x, y, rfl, rfl, rfl, hE⟩ := hcut
      obtain ⟨ro, rx, ry, rc⟩ := r
      have HE := Lib.hid hE
      clear hE
      obtain ⟨z0, z1, z2⟩ := objs_of HE.out.zer
      have y0 := free_blk HE.out.zer 0
      have y1 := free_blk HE.out.zer 1
      have y2 := free_blk HE.out.zer 2
      by_cases hrc : rc = 0
      · subst hrc
        have hok := HE.out.ok rfl
        obtain ⟨rfl, rfl, rfl, q1, q2, q3⟩ := hok
        have Q1 := Lib.hid q1
        have Q2 := Lib.hid q2
        have Q3 := Lib.hid q3
        clear q1 q2 q3
        obtain ⟨g0, g1, g2⟩ := objs_of HE.out.blk
        have f0 := free_blk HE.out.blk 0
        have f1 := free_blk HE.out.blk 1
        have f2 := free_blk HE.out.blk 2
        obtain ⟨rd, rk, rs⟩ := ro
        cases x
        · have HEr := Lib.hid (show endO ((⟨rd, rk, rs⟩ : Oj), false, y, 0) = (oj0, false, y, 0) from rfl)
          have P5 := Lib.hid (put3_at HE.out.blk (.slice none 0 0) (.slice none 0 0) (.int .i64 0))
          have Z5 := Lib.hid ((put3_block Hbz.out.2.2.1.symm (.slice none 0 0) (.slice none 0 0) (.int .i64 0)).trans HE.out.zer)
          have B5 := Lib.hid (put3_below HE.out.bel Hbz.out.2.1 (.slice none 0 0) (.slice none 0 0) (.int .i64 0))
          go_upto_region 48 with fail
          clear z0 z1 z2 y0 y1 y2 g0 g1 g2 f0 f1 f2
          change Code.wp _ _ _ _ (put3 wc b1 (.slice none 0 0) (.slice none 0 0) (.int .i64 0))
          generalize put3 wc b1 (.slice none 0 0) (.slice none 0 0) (.int .i64 0) = w6 at P5 Z5 B5 ⊢
          obtain ⟨g0, g1, g2⟩ := objs_of P5.out
          obtain ⟨z0, z1, z2⟩ := objs_of Z5.out
          have y0 := free_blk Z5.out 0
          have y1 := free_blk Z5.out 1
          have y2 := free_blk Z5.out 2
          have P8 := Lib.hid (put3_at Z5.out (.slice none 0 0) (.slice none 0 0) (.int .i64 0))
          have B8 := Lib.hid (put3_below B5.out Hbz.out.1 (.slice none 0 0) (.slice none 0 0) (.int .i64 0) (z := z))
          go_wp2_with fail
          clear z0 z1 z2 y0 y1 y2 g0 g1 g2
          change bodyPost _ _ _ _ _ (put3 w6 z (.slice none 0 0) (.slice none 0 0) (.int .i64 0))
          generalize put3 w6 z (.slice none 0 0) (.slice none 0 0) (.int .i64 0) = w7 at P8 B8 ⊢
          obtain ⟨z0, z1, z2⟩ := objs_of P8.out
          exact bodyPost_ret (v := .tuple #[oV0, .bool false, .bool y, .int .i64 0]) (by simp [results, Tryd.results23, go_sem, z0, z1, z2]) rfl ⟨oV0, by rw [HEr.out], by rw [HEr.out]; exact (OjC.zero _).at, B8.out⟩
        · have HEr := Lib.hid (show endO ((⟨rd, rk, rs⟩ : Oj), true, y, 0) = (⟨rd, rk, rs⟩, true, y, 0) from rfl)
          have P8 := Lib.hid (put3_at HE.out.zer (.slice A1 n1 c1) (.slice A2 n2 c2) (.int .i64 rs))
          have B8 := Lib.hid (put3_below HE.out.bel Hbz.out.1 (.slice A1 n1 c1) (.slice A2 n2 c2) (.int .i64 rs) (z := z))
          have O8 := Lib.hid (show OjAt wc (⟨rd, rk, rs⟩ : Oj) (oV A1 n1 c1 A2 n2 c2 rs) from ⟨A1, n1, c1, A2, n2, c2, rfl, Q1.out, Q2.out, Q3.out⟩)
          have O9 : Hid (OjAt (put3 wc z (.slice A1 n1 c1) (.slice A2 n2 c2) (.int .i64 rs)) (⟨rd, rk, rs⟩ : Oj) (oV A1 n1 c1 A2 n2 c2 rs)) := ⟨A1, n1, c1, A2, n2, c2, rfl, by rw [put3_size]; exact Q1.out.putO HE.out.zer _ _ _, Q2.out, by rw [put3_size]; exact Q3.out.putO HE.out.zer _ _ _⟩
          clear O8
          go_wp2_with fail
          clear z0 z1 z2 y0 y1 y2 g0 g1 g2 f0 f1 f2
          change bodyPost _ _ _ _ _ (put3 wc z (.slice A1 n1 c1) (.slice A2 n2 c2) (.int .i64 rs))
          generalize put3 wc z (.slice A1 n1 c1) (.slice A2 n2 c2) (.int .i64 rs) = w7 at P8 B8 O9 ⊢
          obtain ⟨z0, z1, z2⟩ := objs_of P8.out
          exact bodyPost_ret (v := .tuple #[oV A1 n1 c1 A2 n2 c2 rs, .bool true, .bool y, .int .i64 0]) (by simp [results, Tryd.results23, go_sem, z0, z1, z2]) rfl ⟨_, by rw [HEr.out], by rw [HEr.out]; exact O9.out, B8.out⟩
      · have HEr := Lib.hid (show endO (ro, rx, ry, rc) = (oj0, false, false, rc) by unfold endO; rw [if_neg hrc])
        have P8 := Lib.hid (put3_at HE.out.zer (.slice none 0 0) (.slice none 0 0) (.int .i64 0))
        have B8 := Lib.hid (put3_below HE.out.bel Hbz.out.1 (.slice none 0 0) (.slice none 0 0) (.int .i64 0) (z := z))
        go_wp2_with fail
        clear z0 z1 z2 y0 y1 y2
        change bodyPost _ _ _ _ _ (put3 wc z (.slice none 0 0) (.slice none 0 0) (.int .i64 0))
        generalize put3 wc z (.slice none 0 0) (.slice none 0 0) (.int .i64 0) = w7 at P8 B8 ⊢
        obtain ⟨z0, z1, z2⟩ := objs_of P8.out
        exact bodyPost_ret (v := .tuple #[oV0, .bool false, .bool false, .int .i64 rc]) (by simp [results, Tryd.results23, go_sem, z0, z1, z2]) rfl ⟨oV0, by rw [HEr.out], by rw [HEr.out]; exact (OjC.zero _).at, B8.out⟩
end Go.Proofs.YtmigapjkicddiaaDoor
