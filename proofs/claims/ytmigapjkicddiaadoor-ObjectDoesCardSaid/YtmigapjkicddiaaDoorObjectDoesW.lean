/- The walk of ObjectDoes. -/
import Derived.Test.YtmigapjkicddiaaDoorMq
namespace Go.Proofs.YtmigapjkicddiaaDoor
open Go.ChangeShapes Go.WideShapes Go.ChangeAt Go.RowKit

set_option maxRecDepth 10000 in
set_option maxHeartbeats 4000000 in
theorem ObjectDoes_core (Ad : Option Addr) (nd cd : Nat) (Ak : Option Addr) (nk ck : Nat) (s : Int) (d : List UInt8) (ks : List Ky) (t : Bool) (k f n : Int) (X : List UInt8) (Ap : Option Addr) (np cp : Nat) (D : List UInt8) (W : World) (ht : Et W)
    (hd : Rd W W.heap.size Ad nd d) (hr : RdK W W.heap.size Ak nk ks) (hf : I64 f) (hD : Rd W W.heap.size Ap np D) (hnp : np ≤ cp) (hcp : cp ≤ 9223372036854775807) (hX : X.length ≤ 9223372036854775807) :
    Calls Tryd.prog 5 #[oV Ad nd cd Ak nk ck s, .bool t, pV k f n X Ap np cp] W (Yes W) := by
  have HT := Lib.hid (two_objs W (.cells #[.slice Ad nd cd, .slice Ak nk ck, .int .i64 s] 25) (.cells #[.int .i64 k, .int .i64 f, .int .i64 n, .string ⟨X.toArray⟩, .slice Ap np cp] 38))
  have HD1 : ∀ w, Hid (Below W.heap.size W w) → Calls Tryd.prog 22 #[oV Ad nd cd Ak nk ck s, .bool t, pV k f n X Ap np cp] w (DoX w (doO ⟨d, ks, s⟩ t ⟨k, f, n, X, D⟩)) := fun w hb =>
    (kDo Ad nd cd Ak nk ck s d ks t k f n X Ap np cp D W.heap.size w (ht.below hb.out ht.lt) hb.out.size (hd.below hb.out) (hr.below hb.out) hf (hD.below hb.out) hnp hcp hX).mono fun _ _ h => h.x
  have HD2 : ∀ w, Hid (Below W.heap.size W w) → Calls Tryd.prog 23 #[oV Ad nd cd Ak nk ck s, .bool t, pV k f n X Ap np cp] w (DoX w (doO ⟨d, ks, s⟩ t ⟨k, f, n, X, D⟩)) := fun w hb =>
    (RDo8 Ad nd cd Ak nk ck s d ks t k f n X Ap np cp D W.heap.size w hb.out.size (hd.below hb.out) (hr.below hb.out) (hD.below hb.out) (by omega) hX).mono fun _ _ h => h.x
  have HF : ∀ w, Hid (Below W.heap.size W w) → Calls Tryd.prog 10 #[oV Ad nd cd Ak nk ck s] w fun e w' => e = .returned (.bool (fewO ⟨d, ks, s⟩)) ∧ Hid (Below w.heap.size w w') := fun w hb =>
    few8 Ad nd cd Ak nk ck s d ks W.heap.size w hd.1 (hr.below hb.out) hb.out.size
  have HA : ∀ w, Hid (Below W.heap.size W w) → Calls Tryd.prog 9 #[] w fun e w' => e = .returned (.bool true) ∧ Hid (Et w') ∧ Hid (Below w.heap.size w w') := fun w hb => awake8 w (ht.below hb.out ht.lt)
  generalize doO ⟨d, ks, s⟩ t ⟨k, f, n, X, D⟩ = r at HD1 HD2
  generalize fewO ⟨d, ks, s⟩ = q1 at HF
  replace HD1 := Lib.hid HD1
  replace HD2 := Lib.hid HD2
  replace HF := Lib.hid HF
  replace HA := Lib.hid HA
  clear ht hd hr hf hD hnp hcp hX
  have hxs : (⟨X.toArray⟩ : ByteArray).size = X.length := by simp [ByteArray.size]
  go_enter Tryd.func5, Tryd.ntmps5
  go_upto_region 1 with fail
  generalize (W.alloc (.cells #[.slice Ad nd cd, .slice Ak nk ck, .int .i64 s] 25)).alloc (.cells #[.int .i64 k, .int .i64 f, .int .i64 n, .string ⟨X.toArray⟩, .slice Ap np cp] 38) = w1 at HT ⊢
  obtain ⟨b2, hb2⟩ : ∃ b, b = W.heap.size + 1 := ⟨_, rfl⟩
  obtain ⟨b1, hb1⟩ : ∃ b, b = W.heap.size := ⟨_, rfl⟩
  have H1 := Lib.hid HT.out.1
  have H2 := Lib.hid HT.out.2.1
  have HB := Lib.hid HT.out.2.2
  rw [← hb2] at H2 ⊢
  rw [← hb1] at H1 ⊢
  clear HT hb1 hb2
  go_wp2_with fail
  refine (HA.out _ HB).mono ?_
  rintro e w2 ⟨rfl, _, hb⟩
  replace H1 := Lib.hid (blk8 H1.out hb.out)
  replace H2 := Lib.hid (blk8 H2.out hb.out)
  replace HB := bel8 (Nat.le_refl _) HB hb.out
  clear hb
  obtain ⟨c0, c1, c2⟩ := objs_of H1.out
  go_wp2_with fail
  refine (HF.out _ HB).mono ?_
  rintro e w3 ⟨rfl, hb⟩
  replace H1 := Lib.hid (blk8 H1.out hb.out)
  replace H2 := Lib.hid (blk8 H2.out hb.out)
  replace HB := bel8 (Nat.le_refl _) HB hb.out
  clear hb c0 c1 c2
  obtain ⟨c0, c1, c2⟩ := objs_of H1.out
  have p0 := (PAt.of H2.out).c0
  have p1 := (PAt.of H2.out).c1
  have p2 := (PAt.of H2.out).c2
  have p3 := (PAt.of H2.out).c3
  have p4 := (PAt.of H2.out).c4
  cases q1
  · go_wp2_with fail
    go_ret
    exact ⟨rfl, HB.out⟩
  · by_cases hn : 3000 < np
    · have hn2 : (3000 : Int) < (np : Int) := by omega
      go_wp2_with fail
      go_ret
      exact ⟨rfl, HB.out⟩
    · have hn2 : ¬ (3000 : Int) < (np : Int) := by omega
      by_cases hx : 100 < X.length
      · have hx2 : (100 : Int) < (X.length : Int) := by omega
        go_wp2_with fail
        go_ret
        exact ⟨rfl, HB.out⟩
      · have hx2 : ¬ (100 : Int) < (X.length : Int) := by omega
        go_wp2_with fail
        refine (HD1.out _ HB).mono ?_
        rintro e w4 ⟨A4, n4, c4, K4, m4, k4, s4, rfl, E4, R4, Q4, L4, hb⟩
        replace H1 := Lib.hid (blk8 H1.out hb.out)
        replace H2 := Lib.hid (blk8 H2.out hb.out)
        replace HB := bel8 (Nat.le_refl _) HB hb.out
        clear hb c0 c1 c2 p0 p1 p2 p3 p4 hn hn2 hx hx2 hxs
        go_upto_region 8 with fail
        have hba := (Below.refl w4.heap.size w4).alloc (Nat.le_refl _) (.cells #[.slice A4 n4 c4, .slice K4 m4 k4, .int .i64 s4] 25)
        have H5 := Lib.hid (heap_alloc_new w4 (.cells #[.slice A4 n4 c4, .slice K4 m4 k4, .int .i64 s4] 25))
        replace H1 := Lib.hid (blk8 H1.out hba)
        replace H2 := Lib.hid (blk8 H2.out hba)
        replace HB := bel8 (Nat.le_refl _) HB hba
        replace R4 := Lib.hid ((R4.out.below hba).more hba.size)
        replace Q4 := Lib.hid ((Q4.out.below hba).more hba.size)
        clear hba
        generalize w4.alloc (.cells #[.slice A4 n4 c4, .slice K4 m4 k4, .int .i64 s4] 25) = w5 at H5 H1 H2 HB R4 Q4 ⊢
        generalize w4.heap.size = b5 at H5 ⊢
        obtain ⟨c0, c1, c2⟩ := objs_of H1.out
        have p0 := (PAt.of H2.out).c0
        have p1 := (PAt.of H2.out).c1
        have p2 := (PAt.of H2.out).c2
        have p3 := (PAt.of H2.out).c3
        have p4 := (PAt.of H2.out).c4
        go_wp2_with fail
        refine (HD2.out _ HB).mono ?_
        rintro e w6 ⟨A6, n6, c6, K6, m6, k6, s6, rfl, E6, R6, Q6, L6, hb⟩
        replace H5 := Lib.hid (blk8 H5.out hb.out)
        replace HB := bel8 (Nat.le_refl _) HB hb.out
        replace R4 := Lib.hid ((R4.out.below hb.out).more hb.out.size)
        replace Q4 := Lib.hid ((Q4.out.below hb.out).more hb.out.size)
        clear hb c0 c1 c2 p0 p1 p2 p3 p4
        go_upto_region 9 with fail
        have hba := (Below.refl w6.heap.size w6).alloc (Nat.le_refl _) (.cells #[.slice A6 n6 c6, .slice K6 m6 k6, .int .i64 s6] 25)
        have H7 := Lib.hid (heap_alloc_new w6 (.cells #[.slice A6 n6 c6, .slice K6 m6 k6, .int .i64 s6] 25))
        replace H5 := Lib.hid (blk8 H5.out hba)
        replace HB := bel8 (Nat.le_refl _) HB hba
        replace R4 := Lib.hid ((R4.out.below hba).more hba.size)
        replace Q4 := Lib.hid ((Q4.out.below hba).more hba.size)
        replace R6 := Lib.hid ((R6.out.below hba).more hba.size)
        replace Q6 := Lib.hid ((Q6.out.below hba).more hba.size)
        clear hba
        generalize w6.alloc (.cells #[.slice A6 n6 c6, .slice K6 m6 k6, .int .i64 s6] 25) = w7 at H7 H5 HB R4 Q4 R6 Q6 ⊢
        generalize w6.heap.size = b7 at H7 ⊢
        obtain ⟨c0, c1, c2⟩ := objs_of H5.out
        obtain ⟨g0, g1, g2⟩ := objs_of H7.out
        obtain ⟨⟨rd, rk, rs⟩, rx, ry, rc⟩ := r
        have HS := RSame8 A4 n4 c4 K4 m4 k4 s4 rd rk A6 n6 c6 K6 m6 k6 s6 rd rk w7 R4.out Q4.out R6.out Q6.out (by have := L4.out; omega) (by have := L6.out; omega)
        rw [decide_eq_true (show (⟨rd, rk, s4⟩ : Oj) = ⟨rd, rk, s6⟩ by rw [E4.out, E6.out])] at HS
        replace HS := Lib.hid HS
        go_wp2_with fail
        refine HS.out.mono ?_
        rintro e w8 ⟨rfl, hb⟩
        replace HB := bel8 (Nat.le_refl _) HB hb
        go_wp2_with fail
        go_ret
        exact ⟨rfl, HB.out⟩
set_option maxRecDepth 10000 in
theorem ObjectDoes_walk {H : Type} {enc : TypeId × Value → H} (W : World) (base : Nat) {v0 v1 v2 : Value} {d0 : DataW H} {p0 : List MemPlace} {d1 : DataW H} {p1 : List MemPlace} {d2 : DataW H} {p2 : List MemPlace}
    (k0 : Value.okWide Tryd.prog W .any base 25 v0) (h0 : DataW.Trod enc Tryd.prog W 0 (fun _ => true) true 25 v0 d0 p0) (k1 : Value.okWide Tryd.prog W .any base 4 v1) (h1 : DataW.Trod enc Tryd.prog W 0 (fun _ => true) true 4 v1 d1 p1) (k2 : Value.okWide Tryd.prog W .any base 38 v2) (h2 : DataW.Trod enc Tryd.prog W 0 (fun _ => true) true 38 v2 d2 p2) (ht : Et W) :
    Calls Tryd.prog 5 #[v0, v1, v2] W (Yes W) := by
  obtain ⟨Ad, nd, cd, Ak, nk, ck, s, d, ks, rfl, a1, a2, a3, a4, _, _⟩ := ar_object k0 h0
  obtain ⟨t, rfl, _⟩ := open_bool Tryd.underlying4 k1 h1
  obtain ⟨k, f, n, X, Ap, np, cp, D, rfl, e1, e2, e3, e4, _, e6, _⟩ := ar_op k2 h2
  exact ObjectDoes_core Ad nd cd Ak nk ck s d ks t k f n X Ap np cp D W ht a1 a4 e6 e2 e3 e4 e1
end Go.Proofs.YtmigapjkicddiaaDoor
