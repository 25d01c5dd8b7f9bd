/- Package object: drop, cloneData, restore. Package object: apply, kind by kind. Objects, plain: what may be may be behind an op. -/
import Derived.Test.YtmigapjkicddiaaDoorMl
import Derived.Test.YtmigapjkicddiaaDoorMj

namespace Go.Proofs.YtmigapjkicddiaaDoor
open Go.RowKit

set_option maxRecDepth 10000 in
theorem Parts.obe {w : World} {B M b : Nat} {o : Oj} {Ad Ak : Option Addr} {nd cd nk ck : Nat} {vs : List Kv} (h : Parts w B M o Ad nd cd Ak nk ck vs) (hb : w.heap[b]? = some (.cells #[.slice Ad nd cd, .slice Ak nk ck, .int .i64 o.seq] 25 (0, 0))) : ObE w b o := by
  have hd := own_rd8 h.dat
  exact ⟨Ad, nd, cd, Ak, nk, ck, hb, hd.1, hd.2, h.rdk⟩
theorem isAt_lt {ks : List Ky} {X : List UInt8} {j : Nat} (h : isAt ks X j = true) : j < ks.length := by
  rcases Nat.lt_or_ge j ks.length with h1 | h1
  · exact h1
  · unfold isAt at h; rw [List.getElem?_eq_none h1] at h; cases h
theorem forAt_lt {ks : List Ky} {X : List UInt8} {j : Nat} (h : forAt ks X j = true) : j < ks.length := by
  rcases Nat.lt_or_ge j ks.length with h1 | h1
  · exact h1
  · unfold forAt at h; rw [List.getElem?_eq_none h1] at h; cases h
set_option maxRecDepth 10000 in
set_option maxHeartbeats 1000000 in
theorem kDrop (b : Nat) (d : List UInt8) (ks : List Ky) (s : Int) (B M : Nat) (Ad Ak : Option Addr) (nd cd nk ck : Nat) (vs : List Kv) (X : List UInt8) (w : World) (hbB : B ≤ b) (hB : B ≤ w.heap.size)
    (hb : w.heap[b]? = some (.cells #[.slice Ad nd cd, .slice Ak nk ck, .int .i64 s] 25 (0, 0))) (hp : Parts w B M ⟨d, ks, s⟩ Ad nd cd Ak nk ck vs) (hn : nk ≤ 100000) (hs : Rise ks) :
    Calls Tryd.prog 52 #[.pointer (some ⟨b, 0, none⟩), .string ⟨X.toArray⟩] w fun e w' => e = .returned (.tuple #[]) ∧ Hid (ObE w' b ⟨d, dropK ks X, s⟩) ∧ Hid (Fr B w w') := by
  have HF := Lib.hid (kFind X Ak nk ck ks w.heap.size w hp.rdk (Nat.le_refl _) hn hs)
  have Hb := Lib.hid hb
  have Hp := Lib.hid hp
  have HB := Lib.hid hbB
  have HBw := Lib.hid hB
  have Hkl := Lib.hid (show ks.length = nk by have h := congrArg List.length hp.kys; rw [List.length_map, hp.vln] at h; exact h.symm)
  obtain ⟨z0, z1, z2⟩ := objs_of hb
  clear hb hp hbB hB
  go_enter Tryd.func52, Tryd.ntmps52
  go_wp2_with fail
  refine HF.out.mono ?_
  rintro e w2 ⟨j, rfl, HL, hb2⟩
  have Hb2 := Lib.hid hb2
  have Hbb := Lib.hid (blk8 Hb.out hb2)
  have Hp2 := Lib.hid (Hp.out.to hb2)
  have HG := Lib.hid (HL.out.dropped hs)
  clear HF hb2 z0 z1 z2
  obtain ⟨z0, z1, z2⟩ := objs_of Hbb.out
  cases hi : isAt ks X j
  · have He := Lib.hid (show dropK ks X = ks by rw [HG.out, hi]; rfl)
    clear HG hi
    go_wp2_with fail
    exact bodyPost_end (v := .tuple #[]) (by simp [results, Tryd.results52, go_sem]) rfl ⟨rfl, by rw [He.out]; exact Hp2.out.obe Hbb.out, Fr.of Hb2.out HBw.out⟩
  · have hjl := isAt_lt hi
    have hjn : j < nk := by rw [← Hkl.out]; exact hjl
    have He := Lib.hid (show dropK ks X = ks.take j ++ ks.drop (j + 1) by rw [HG.out, hi]; rfl)
    obtain ⟨g, rfl⟩ : ∃ g, Ak = some ⟨g, 0, none⟩ := by
      rcases Hp2.out.key.2 with ⟨h1, h2⟩ | ⟨g4, cap, cur, h1, _⟩
      · omega
      · injection h1 with h1 _ _; exact ⟨g4, h1⟩
    have HD := Lib.hid (fun x hx => kDelete vs j nk ck g B w2 Hp2.out.key Hp2.out.vln hn hjn x hx)
    have hwr : IntKind.i64.wrap ((j : Int) + 1) = (j : Int) + 1 := by rw [IntKind.wrap_i64]; omega
    clear HG hi hjl
    go_wp2_with fail
    refine (HD.out _ (by omega)).mono ?_
    rintro e w4 ⟨rfl, HO, Hg4⟩
    have Hbb4 := Lib.hid (blk_gr8 Hbb.out Hp2.out.key Hg4.out (by decide))
    have Hd4 := Lib.hid (own_gr8 Hp2.out.dat Hp2.out.key Hg4.out (by decide))
    have Hv4 : Hid (∀ p ∈ vs, w4.ownsRow M 5 1 (.slice p.A p.n p.c) p.n (p.k.val.map bv)) := fun p hp => own_gr8 (Hp2.out.val p hp) Hp2.out.key Hg4.out (by decide)
    have Hbel4 := Lib.hid ((Fr.of Hb2.out HBw.out).trans (fr_gr8 Hp2.out.key Hg4.out (Nat.le_refl B) (Nat.le_trans HBw.out Hb2.out.size)))
    clear z0 z1 z2 HD
    obtain ⟨z0, z1, z2⟩ := objs_of Hbb4.out
    have f1 := free_blk Hbb4.out 1
    go_wp2_with fail
    have hw7 : KPart (w4.setCell ⟨b, 1, none⟩ (.slice (some ⟨g, 0, none⟩) (nk - 1) ck)) B M (ks.take j ++ ks.drop (j + 1)) (some ⟨g, 0, none⟩) (nk - 1) ck (vs.take j ++ vs.drop (j + 1)) := by
      refine ⟨own_setb8 HO.out Hbb4.out (by decide) _ _, by rw [List.map_append, List.map_take, List.map_drop, Hp2.out.kys], by simp [Hp2.out.vln]; omega, fun p hp => ?_, fun p hp => ?_⟩
      · refine own_setb8 (Hv4.out p ?_) Hbb4.out (by decide) _ _
        rcases List.mem_append.1 hp with hp | hp
        · exact List.mem_of_mem_take hp
        · exact List.mem_of_mem_drop hp
      · refine Hp2.out.nam p ?_
        rcases List.mem_append.1 hp with hp | hp
        · exact List.mem_of_mem_take hp
        · exact List.mem_of_mem_drop hp
    have hd := own_rd8 (own_setb8 Hd4.out Hbb4.out (by decide) 1 (.slice (some ⟨g, 0, none⟩) (nk - 1) ck))
    exact bodyPost_end (v := .tuple #[]) (by simp [results, Tryd.results52, go_sem]) rfl ⟨rfl, by rw [He.out]; exact ⟨Ad, nd, cd, _, nk - 1, ck, set_blk Hbb4.out 1 _, hd.1, hd.2, hw7.rdk⟩, Hbel4.out.set Hbb4.out (by decide) HB.out 1 _⟩

set_option maxRecDepth 10000 in
set_option maxHeartbeats 1000000 in
theorem kCloneData (b : Nat) (d : List UInt8) (ks : List Ky) (s : Int) (B M : Nat) (Ad Ak : Option Addr) (nd cd nk ck : Nat) (vs : List Kv) (X : List UInt8) (w : World) (hbB : B ≤ b) (hB : B ≤ w.heap.size)
    (hb : w.heap[b]? = some (.cells #[.slice Ad nd cd, .slice Ak nk ck, .int .i64 s] 25 (0, 0))) (hp : Parts w B M ⟨d, ks, s⟩ Ad nd cd Ak nk ck vs) (hn : nk ≤ 120) (hs : Rise ks) (hX : X.length ≤ 9223372036854775807) :
    Calls Tryd.prog 53 #[.pointer (some ⟨b, 0, none⟩), .string ⟨X.toArray⟩] w (ApB w B b (decide ((cloneK ks X d).2 = 0)) ⟨d, (cloneK ks X d).1, s⟩) := by
  have HF := Lib.hid (kMatch X Ak nk ck ks w.heap.size w hp.rdk (Nat.le_refl _) (by omega) hs hX)
  have Hb := Lib.hid hb
  have Hp := Lib.hid hp
  have HB := Lib.hid hbB
  have HBw := Lib.hid hB
  obtain ⟨z0, z1, z2⟩ := objs_of hb
  clear hb hp hbB hB
  go_enter Tryd.func53, Tryd.ntmps53
  go_wp2_with fail
  refine HF.out.mono ?_
  rintro e w2 ⟨j, rfl, HL, hb2⟩
  have Hb2 := Lib.hid hb2
  have Hbb := Lib.hid (blk8 Hb.out hb2)
  have Hp2 := Lib.hid (Hp.out.to hb2)
  have HG := Lib.hid (HL.out.has hs)
  clear HF hb2 z0 z1 z2
  obtain ⟨z0, z1, z2⟩ := objs_of Hbb.out
  cases hi : forAt ks X j
  · have He := Lib.hid (show cloneK ks X d = setK ks X d by unfold cloneK; rw [HG.out, hi]; rfl)
    have HS := Lib.hid (kSetKey b d ks s B M Ad Ak nd cd nk ck vs X Ad nd cd d w2 HB.out (Nat.le_trans HBw.out Hb2.out.size) Hbb.out Hp2.out (fun _ _ _ h => Rd.own h) hn hs hX)
    clear HG hi
    go_wp2_with fail
    refine HS.out.mono ?_
    rintro e w4 ⟨rfl, H1, H2⟩
    go_wp2_with fail
    go_ret
    rw [He.out]
    exact ⟨rfl, H1, (Fr.of Hb2.out HBw.out).trans H2.out⟩
  · have He := Lib.hid (show cloneK ks X d = (ks, 0) by unfold cloneK; rw [HG.out, hi]; rfl)
    clear HG hi
    go_wp2_with fail
    go_ret
    rw [He.out]
    exact ⟨rfl, (fun _ => Hp2.out.obe Hbb.out), Fr.of Hb2.out HBw.out⟩

set_option maxRecDepth 10000 in
set_option maxHeartbeats 1000000 in
theorem kRestore (b : Nat) (d : List UInt8) (ks : List Ky) (s : Int) (B M : Nat) (Ad Ak : Option Addr) (nd cd nk ck : Nat) (vs : List Kv) (X : List UInt8) (w : World) (hbB : B ≤ b) (hB : B ≤ w.heap.size)
    (hb : w.heap[b]? = some (.cells #[.slice Ad nd cd, .slice Ak nk ck, .int .i64 s] 25 (0, 0))) (hp : Parts w B M ⟨d, ks, s⟩ Ad nd cd Ak nk ck vs) (hn : nk ≤ 100000) (hs : Rise ks) (hX : X.length ≤ 9223372036854775807) (hd64 : d.length ≤ 64) :
    Calls Tryd.prog 55 #[.pointer (some ⟨b, 0, none⟩), .string ⟨X.toArray⟩] w (ApB w B b (decide ((atK d ks X).length ≤ 64)) ⟨atK d ks X, ks, s⟩) := by
  have HF := Lib.hid (kMatch X Ak nk ck ks w.heap.size w hp.rdk (Nat.le_refl _) hn hs hX)
  have Hb := Lib.hid hb
  have Hp := Lib.hid hp
  have HB := Lib.hid hbB
  have HBw := Lib.hid hB
  have Hd64 := Lib.hid hd64
  obtain ⟨z0, z1, z2⟩ := objs_of hb
  clear hb hp hbB hB hd64
  go_enter Tryd.func55, Tryd.ntmps55
  go_wp2_with fail
  refine HF.out.mono ?_
  rintro e w2 ⟨j, rfl, HL, hb2⟩
  have Hb2 := Lib.hid hb2
  have Hbb := Lib.hid (blk8 Hb.out hb2)
  have Hp2 := Lib.hid (Hp.out.to hb2)
  have HG := Lib.hid (HL.out.at hs d)
  clear HF hb2 z0 z1 z2
  obtain ⟨z0, z1, z2⟩ := objs_of Hbb.out
  cases hi : forAt ks X j
  · have He := Lib.hid (show atK d ks X = d by rw [HG.out, hi]; rfl)
    have He2 := Lib.hid (show decide (d.length ≤ 64) = true from decide_eq_true Hd64.out)
    clear HG hi
    go_wp2_with fail
    go_ret
    rw [He.out, He2.out]
    exact ⟨rfl, (fun _ => Hp2.out.obe Hbb.out), Fr.of Hb2.out HBw.out⟩
  · have hjl := forAt_lt hi
    have hrk := Hp2.out.rdk
    have hjn : j < nk := by rw [← hrk.1]; exact hjl
    obtain ⟨g, o, Aj, nj, cj, rfl, hg, x0, x1, h5, h6, h7⟩ := hrk.2 j hjl
    have He := Lib.hid (show atK d ks X = ks[j].val by rw [HG.out, hi, List.getElem?_eq_getElem hjl]; rfl)
    have HS := Lib.hid (kSet b d ks s B M Ad _ nd cd nk ck vs Aj nj cj w2.heap.size ks[j].val w2 HB.out Hbb.out Hp2.out h5 (Nat.le_refl _) (Nat.le_trans HBw.out Hb2.out.size))
    have He2 := Lib.hid (show decide (ks[j].val.length ≤ 64) = decide (nj ≤ 64) by rw [h5.1])
    have hj0 : (0 : Int) ≤ (j : Int) := by omega
    have hj1 : (j : Int) < (nk : Int) := by omega
    clear HG hi h5 h6 h7 x0 hrk
    generalize ks[j] = k at HS He He2
    clear hjl
    go_wp2_with fail
    refine HS.out.mono ?_
    rintro e w4 ⟨rfl, H1, H2⟩
    go_wp2_with fail
    go_ret
    rw [He.out, He2.out]
    exact ⟨rfl, H1, (Fr.of Hb2.out HBw.out).trans H2.out⟩
end Go.Proofs.YtmigapjkicddiaaDoor

namespace Go.Proofs.YtmigapjkicddiaaDoor
open Go.RowKit

/-- what apply tells -/
def ApQ (w : World) (B b : Nat) (k : Int) (r : Oj × Bool × Bool × Int) (e : Ending) (w' : World) : Prop :=
  ∃ ok code, e = .returned (failV ok code) ∧ (ok = false → code ≠ 0) ∧ r.2.2.2 = (if ok = true then 0 else code) ∧ Hid (ok = true → ObE w' b (if k = 13 then oj0 else r.1)) ∧ Hid (Fr B w w')
theorem data5 (d : List UInt8) (f n : Int) (X D : List UInt8) : dataO d ⟨5, f, n, X, D⟩ = if partB f (D.length : Int) = true then some (wrO d f.toNat D) else none := by
  unfold dataO partB
  simp only [if_true]
  by_cases h : f < 0 ∨ f > 64 ∨ (D.length : Int) > 64 ∨ f + (D.length : Int) > 64
  · rw [if_pos h, if_neg (by simp; omega)]
  · rw [if_neg h, if_pos (by simp; omega)]
theorem data6 (d : List UInt8) (f n : Int) (X D : List UInt8) : dataO d ⟨6, f, n, X, D⟩ = if partB f n = true then some (zerJ d f.toNat n.toNat) else none := by
  unfold dataO partB
  simp only [show ¬ ((6 : Int) = 5) by decide, if_false, if_true]
  by_cases h : f < 0 ∨ f > 64 ∨ n < 0 ∨ n > 64 ∨ f + n > 64
  · rw [if_pos h, if_neg (by simp; omega)]
  · rw [if_neg h, if_pos (by simp; omega)]
theorem data7 (d : List UInt8) (f n : Int) (X D : List UInt8) : dataO d ⟨7, f, n, X, D⟩ = if partB 0 n = true then some (d.take n.toNat) else none := by
  unfold dataO partB
  simp only [show ¬ ((7 : Int) = 5) by decide, show ¬ ((7 : Int) = 6) by decide, if_false]
  by_cases h : n < 0 ∨ n > 64
  · rw [if_pos h, if_neg (by simp; omega)]
  · rw [if_neg h, if_pos (by simp; omega)]
theorem step_data {o : Oj} {t : Bool} {p : Opr} {q : Bool} {d : List UInt8} (h1 : 4 < p.k) (h2 : p.k ≤ 7) (h : dataO o.data p = if q = true then some d else none) :
    (stepO o t p).2.2.2 = (if q = true then 0 else 2) ∧ (q = true → (stepO o t p).1 = ⟨d, o.keys, o.seq⟩) := by
  unfold stepO
  rw [if_neg (by omega), if_pos h2, h]
  cases q
  · exact ⟨rfl, fun h => by cases h⟩
  · exact ⟨rfl, fun _ => rfl⟩

theorem setK_two (ks : List Ky) (X v : List UInt8) : (setK ks X v).2 = 0 ∨ (setK ks X v).2 = 2 := by
  unfold setK
  split
  · exact .inl rfl
  · exact .inr rfl


set_option maxRecDepth 10000 in
set_option maxHeartbeats 1000000 in
theorem kApply5 (b : Nat) (o : Oj) (t : Bool) (f n : Int) (X : List UInt8) (A : Option Addr) (np cp : Nat) (D : List UInt8) (B M : Nat) (Ad Ak : Option Addr) (nd cd nk ck : Nat) (vs : List Kv) (w : World) (hbB : B ≤ b) (hB : B ≤ w.heap.size)
    (hb : w.heap[b]? = some (.cells #[.slice Ad nd cd, .slice Ak nk ck, .int .i64 o.seq] 25 (0, 0))) (hp : Parts w B M o Ad nd cd Ak nk ck vs) (hm : mayO o = true) (hf : I64 f) (hD : Rd w B A np D) (hnp : np ≤ cp) (hcp : cp ≤ 9223372036854775807) (hX : X.length ≤ 9223372036854775807) :
    Calls Tryd.prog 37 #[.pointer (some ⟨b, 0, none⟩), .bool t, pV 5 f n X A np cp] w (ApQ w B b 5 (stepO o t ⟨5, f, n, X, D⟩)) := by
  have hu : I64 f ∧ np ≤ cp ∧ cp ≤ 9223372036854775807 ∧ X.length ≤ 9223372036854775807 := ⟨hf, hnp, hcp, hX⟩
  clear hu
  obtain ⟨d, ks, s⟩ := o
  obtain ⟨m1, m2, _, _, _, hs⟩ := (mayO_iff _).1 hm
  have hnk : nk ≤ 120 := by
    have h := congrArg List.length hp.kys
    rw [List.length_map, hp.vln] at h
    rw [h]; exact m2
  have hnd : nd ≤ 64 := by
    have h := hp.dat.1
    rw [List.length_map, Nat.mul_one] at h
    rw [← h]; exact m1
  have Hbx := Lib.hid ((Below.refl w.heap.size w).alloc (Nat.le_refl _) (.cells #[.int .i64 5, .int .i64 f, .int .i64 n, .string ⟨X.toArray⟩, .slice A np cp] 38))
  have Hpt := Lib.hid (PAt.of (heap_alloc_new w (.cells #[.int .i64 5, .int .i64 f, .int .i64 n, .string ⟨X.toArray⟩, .slice A np cp] 38)))
  have Hb := Lib.hid (blk8 hb Hbx.out)
  have Hp := Lib.hid (hp.to Hbx.out)
  have HD := Lib.hid (hD.below (Hbx.out.mono hB))
  have HB := Lib.hid hbB
  have HBw := Lib.hid (Nat.le_trans hB Hbx.out.size)
  have Hbel := Lib.hid (Fr.of Hbx.out hB)
  have Hdl := Lib.hid m1
  have HDl := Lib.hid hD.1
  clear hb hp hD hbB hB hm m1 m2 Hbx
  obtain ⟨r, hr⟩ : ∃ r, r = stepO ⟨d, ks, s⟩ t ⟨5, f, n, X, D⟩ := ⟨_, rfl⟩
  have HR := Lib.hid hr
  rw [← hr]
  clear hr
  go_enter Tryd.func37, Tryd.ntmps37
  go_upto_region 1 with fail
  generalize w.alloc (.cells #[.int .i64 5, .int .i64 f, .int .i64 n, .string ⟨X.toArray⟩, .slice A np cp] 38) = w1 at Hpt Hb Hp HD HBw Hbel ⊢
  obtain ⟨c, hc⟩ : ∃ c, c = w.heap.size := ⟨_, rfl⟩
  rw [← hc] at Hpt ⊢
  clear hc
  have p0 := Hpt.out.c0
  have p1 := Hpt.out.c1
  have p2 := Hpt.out.c2
  have p3 := Hpt.out.c3
  have p4 := Hpt.out.c4
  have HE := Lib.hid (show r.2.2.2 = (if partB f (np : Int) = true then 0 else 2) ∧ (partB f (np : Int) = true → r.1 = ⟨wrO d f.toNat D, ks, s⟩) by rw [HR.out, ← HDl.out]; exact step_data (by show (4 : Int) < 5; decide) (by show (5 : Int) ≤ 7; decide) (data5 d f n X D))
  have HC := Lib.hid (kWrite b d ks s f B M Ad Ak nd cd nk ck vs A np cp D w1 HB.out hf Hb.out Hp.out (HD.out.more HBw.out) hnp hcp hnd HBw.out)
  go_wp2_with fail
  refine HC.out.mono ?_
  rintro e w2 ⟨rfl, H1, H2⟩
  clear HC
  go_wp2_with fail
  refine (kReq _ _ _).mono ?_
  rintro e w3 ⟨rfl, hw⟩
  obtain rfl := hw.symm
  go_wp2_with fail
  go_ret
  refine ⟨_, 2, rfl, (fun _ => by decide), HE.out.1, fun h => ?_, Hbel.out.trans H2.out⟩
  rw [if_neg (by decide), HE.out.2 h]
  exact H1.out h


set_option maxRecDepth 10000 in
set_option maxHeartbeats 1000000 in
theorem kApply6 (b : Nat) (o : Oj) (t : Bool) (f n : Int) (X : List UInt8) (A : Option Addr) (np cp : Nat) (D : List UInt8) (B M : Nat) (Ad Ak : Option Addr) (nd cd nk ck : Nat) (vs : List Kv) (w : World) (hbB : B ≤ b) (hB : B ≤ w.heap.size)
    (hb : w.heap[b]? = some (.cells #[.slice Ad nd cd, .slice Ak nk ck, .int .i64 o.seq] 25 (0, 0))) (hp : Parts w B M o Ad nd cd Ak nk ck vs) (hm : mayO o = true) (hf : I64 f) (hD : Rd w B A np D) (hnp : np ≤ cp) (hcp : cp ≤ 9223372036854775807) (hX : X.length ≤ 9223372036854775807) :
    Calls Tryd.prog 37 #[.pointer (some ⟨b, 0, none⟩), .bool t, pV 6 f n X A np cp] w (ApQ w B b 6 (stepO o t ⟨6, f, n, X, D⟩)) := by
  have hu : I64 f ∧ np ≤ cp ∧ cp ≤ 9223372036854775807 ∧ X.length ≤ 9223372036854775807 := ⟨hf, hnp, hcp, hX⟩
  clear hu
  obtain ⟨d, ks, s⟩ := o
  obtain ⟨m1, m2, _, _, _, hs⟩ := (mayO_iff _).1 hm
  have hnk : nk ≤ 120 := by
    have h := congrArg List.length hp.kys
    rw [List.length_map, hp.vln] at h
    rw [h]; exact m2
  have hnd : nd ≤ 64 := by
    have h := hp.dat.1
    rw [List.length_map, Nat.mul_one] at h
    rw [← h]; exact m1
  have Hbx := Lib.hid ((Below.refl w.heap.size w).alloc (Nat.le_refl _) (.cells #[.int .i64 6, .int .i64 f, .int .i64 n, .string ⟨X.toArray⟩, .slice A np cp] 38))
  have Hpt := Lib.hid (PAt.of (heap_alloc_new w (.cells #[.int .i64 6, .int .i64 f, .int .i64 n, .string ⟨X.toArray⟩, .slice A np cp] 38)))
  have Hb := Lib.hid (blk8 hb Hbx.out)
  have Hp := Lib.hid (hp.to Hbx.out)
  have HD := Lib.hid (hD.below (Hbx.out.mono hB))
  have HB := Lib.hid hbB
  have HBw := Lib.hid (Nat.le_trans hB Hbx.out.size)
  have Hbel := Lib.hid (Fr.of Hbx.out hB)
  have Hdl := Lib.hid m1
  have HDl := Lib.hid hD.1
  clear hb hp hD hbB hB hm m1 m2 Hbx
  obtain ⟨r, hr⟩ : ∃ r, r = stepO ⟨d, ks, s⟩ t ⟨6, f, n, X, D⟩ := ⟨_, rfl⟩
  have HR := Lib.hid hr
  rw [← hr]
  clear hr
  go_enter Tryd.func37, Tryd.ntmps37
  go_upto_region 1 with fail
  generalize w.alloc (.cells #[.int .i64 6, .int .i64 f, .int .i64 n, .string ⟨X.toArray⟩, .slice A np cp] 38) = w1 at Hpt Hb Hp HD HBw Hbel ⊢
  obtain ⟨c, hc⟩ : ∃ c, c = w.heap.size := ⟨_, rfl⟩
  rw [← hc] at Hpt ⊢
  clear hc
  have p0 := Hpt.out.c0
  have p1 := Hpt.out.c1
  have p2 := Hpt.out.c2
  have p3 := Hpt.out.c3
  have p4 := Hpt.out.c4
  have HE := Lib.hid (show r.2.2.2 = (if partB f n = true then 0 else 2) ∧ (partB f n = true → r.1 = ⟨zerJ d f.toNat n.toNat, ks, s⟩) by rw [HR.out]; exact step_data (by show (4 : Int) < 6; decide) (by show (6 : Int) ≤ 7; decide) (data6 d f n X D))
  have HC := Lib.hid (kZero b d ks s f n B M Ad Ak nd cd nk ck vs w1 HB.out hf Hb.out Hp.out)
  go_wp2_with fail
  refine HC.out.mono ?_
  rintro e w2 ⟨rfl, H1, H2⟩
  clear HC
  go_wp2_with fail
  refine (kReq _ _ _).mono ?_
  rintro e w3 ⟨rfl, hw⟩
  obtain rfl := hw.symm
  go_wp2_with fail
  go_ret
  refine ⟨_, 2, rfl, (fun _ => by decide), HE.out.1, fun h => ?_, Hbel.out.trans H2.out⟩
  rw [if_neg (by decide), HE.out.2 h]
  exact H1.out h


set_option maxRecDepth 10000 in
set_option maxHeartbeats 1000000 in
theorem kApply7 (b : Nat) (o : Oj) (t : Bool) (f n : Int) (X : List UInt8) (A : Option Addr) (np cp : Nat) (D : List UInt8) (B M : Nat) (Ad Ak : Option Addr) (nd cd nk ck : Nat) (vs : List Kv) (w : World) (hbB : B ≤ b) (hB : B ≤ w.heap.size)
    (hb : w.heap[b]? = some (.cells #[.slice Ad nd cd, .slice Ak nk ck, .int .i64 o.seq] 25 (0, 0))) (hp : Parts w B M o Ad nd cd Ak nk ck vs) (hm : mayO o = true) (hf : I64 f) (hD : Rd w B A np D) (hnp : np ≤ cp) (hcp : cp ≤ 9223372036854775807) (hX : X.length ≤ 9223372036854775807) :
    Calls Tryd.prog 37 #[.pointer (some ⟨b, 0, none⟩), .bool t, pV 7 f n X A np cp] w (ApQ w B b 7 (stepO o t ⟨7, f, n, X, D⟩)) := by
  have hu : I64 f ∧ np ≤ cp ∧ cp ≤ 9223372036854775807 ∧ X.length ≤ 9223372036854775807 := ⟨hf, hnp, hcp, hX⟩
  clear hu
  obtain ⟨d, ks, s⟩ := o
  obtain ⟨m1, m2, _, _, _, hs⟩ := (mayO_iff _).1 hm
  have hnk : nk ≤ 120 := by
    have h := congrArg List.length hp.kys
    rw [List.length_map, hp.vln] at h
    rw [h]; exact m2
  have hnd : nd ≤ 64 := by
    have h := hp.dat.1
    rw [List.length_map, Nat.mul_one] at h
    rw [← h]; exact m1
  have Hbx := Lib.hid ((Below.refl w.heap.size w).alloc (Nat.le_refl _) (.cells #[.int .i64 7, .int .i64 f, .int .i64 n, .string ⟨X.toArray⟩, .slice A np cp] 38))
  have Hpt := Lib.hid (PAt.of (heap_alloc_new w (.cells #[.int .i64 7, .int .i64 f, .int .i64 n, .string ⟨X.toArray⟩, .slice A np cp] 38)))
  have Hb := Lib.hid (blk8 hb Hbx.out)
  have Hp := Lib.hid (hp.to Hbx.out)
  have HD := Lib.hid (hD.below (Hbx.out.mono hB))
  have HB := Lib.hid hbB
  have HBw := Lib.hid (Nat.le_trans hB Hbx.out.size)
  have Hbel := Lib.hid (Fr.of Hbx.out hB)
  have Hdl := Lib.hid m1
  have HDl := Lib.hid hD.1
  clear hb hp hD hbB hB hm m1 m2 Hbx
  obtain ⟨r, hr⟩ : ∃ r, r = stepO ⟨d, ks, s⟩ t ⟨7, f, n, X, D⟩ := ⟨_, rfl⟩
  have HR := Lib.hid hr
  rw [← hr]
  clear hr
  go_enter Tryd.func37, Tryd.ntmps37
  go_upto_region 1 with fail
  generalize w.alloc (.cells #[.int .i64 7, .int .i64 f, .int .i64 n, .string ⟨X.toArray⟩, .slice A np cp] 38) = w1 at Hpt Hb Hp HD HBw Hbel ⊢
  obtain ⟨c, hc⟩ : ∃ c, c = w.heap.size := ⟨_, rfl⟩
  rw [← hc] at Hpt ⊢
  clear hc
  have p0 := Hpt.out.c0
  have p1 := Hpt.out.c1
  have p2 := Hpt.out.c2
  have p3 := Hpt.out.c3
  have p4 := Hpt.out.c4
  have HE := Lib.hid (show r.2.2.2 = (if partB 0 n = true then 0 else 2) ∧ (partB 0 n = true → r.1 = ⟨d.take n.toNat, ks, s⟩) by rw [HR.out]; exact step_data (by show (4 : Int) < 7; decide) (by show (7 : Int) ≤ 7; decide) (data7 d f n X D))
  have HC := Lib.hid (kCut b d ks s n B M Ad Ak nd cd nk ck vs w1 HB.out Hb.out Hp.out)
  go_wp2_with fail
  refine HC.out.mono ?_
  rintro e w2 ⟨rfl, H1, H2⟩
  clear HC
  go_wp2_with fail
  refine (kReq _ _ _).mono ?_
  rintro e w3 ⟨rfl, hw⟩
  obtain rfl := hw.symm
  go_wp2_with fail
  go_ret
  refine ⟨_, 2, rfl, (fun _ => by decide), HE.out.1, fun h => ?_, Hbel.out.trans H2.out⟩
  rw [if_neg (by decide), HE.out.2 h]
  exact H1.out h


set_option maxRecDepth 10000 in
set_option maxHeartbeats 1000000 in
theorem kApply8 (b : Nat) (o : Oj) (t : Bool) (f n : Int) (X : List UInt8) (A : Option Addr) (np cp : Nat) (D : List UInt8) (B M : Nat) (Ad Ak : Option Addr) (nd cd nk ck : Nat) (vs : List Kv) (w : World) (hbB : B ≤ b) (hB : B ≤ w.heap.size)
    (hb : w.heap[b]? = some (.cells #[.slice Ad nd cd, .slice Ak nk ck, .int .i64 o.seq] 25 (0, 0))) (hp : Parts w B M o Ad nd cd Ak nk ck vs) (hm : mayO o = true) (hf : I64 f) (hD : Rd w B A np D) (hnp : np ≤ cp) (hcp : cp ≤ 9223372036854775807) (hX : X.length ≤ 9223372036854775807) :
    Calls Tryd.prog 37 #[.pointer (some ⟨b, 0, none⟩), .bool t, pV 8 f n X A np cp] w (ApQ w B b 8 (stepO o t ⟨8, f, n, X, D⟩)) := by
  have hu : I64 f ∧ np ≤ cp ∧ cp ≤ 9223372036854775807 ∧ X.length ≤ 9223372036854775807 := ⟨hf, hnp, hcp, hX⟩
  clear hu
  obtain ⟨d, ks, s⟩ := o
  obtain ⟨m1, m2, _, _, _, hs⟩ := (mayO_iff _).1 hm
  have hnk : nk ≤ 120 := by
    have h := congrArg List.length hp.kys
    rw [List.length_map, hp.vln] at h
    rw [h]; exact m2
  have hnd : nd ≤ 64 := by
    have h := hp.dat.1
    rw [List.length_map, Nat.mul_one] at h
    rw [← h]; exact m1
  have Hbx := Lib.hid ((Below.refl w.heap.size w).alloc (Nat.le_refl _) (.cells #[.int .i64 8, .int .i64 f, .int .i64 n, .string ⟨X.toArray⟩, .slice A np cp] 38))
  have Hpt := Lib.hid (PAt.of (heap_alloc_new w (.cells #[.int .i64 8, .int .i64 f, .int .i64 n, .string ⟨X.toArray⟩, .slice A np cp] 38)))
  have Hb := Lib.hid (blk8 hb Hbx.out)
  have Hp := Lib.hid (hp.to Hbx.out)
  have HD := Lib.hid (hD.below (Hbx.out.mono hB))
  have HB := Lib.hid hbB
  have HBw := Lib.hid (Nat.le_trans hB Hbx.out.size)
  have Hbel := Lib.hid (Fr.of Hbx.out hB)
  have Hdl := Lib.hid m1
  have HDl := Lib.hid hD.1
  clear hb hp hD hbB hB hm m1 m2 Hbx
  obtain ⟨r, hr⟩ : ∃ r, r = stepO ⟨d, ks, s⟩ t ⟨8, f, n, X, D⟩ := ⟨_, rfl⟩
  have HR := Lib.hid hr
  rw [← hr]
  clear hr
  go_enter Tryd.func37, Tryd.ntmps37
  go_upto_region 1 with fail
  generalize w.alloc (.cells #[.int .i64 8, .int .i64 f, .int .i64 n, .string ⟨X.toArray⟩, .slice A np cp] 38) = w1 at Hpt Hb Hp HD HBw Hbel ⊢
  obtain ⟨c, hc⟩ : ∃ c, c = w.heap.size := ⟨_, rfl⟩
  rw [← hc] at Hpt ⊢
  clear hc
  have p0 := Hpt.out.c0
  have p1 := Hpt.out.c1
  have p2 := Hpt.out.c2
  have p3 := Hpt.out.c3
  have p4 := Hpt.out.c4
  have HE := Lib.hid (show r.2.2.2 = (if decide (np ≤ 64) = true then 0 else 2) ∧ (decide (np ≤ 64) = true → r.1 = ⟨D, ks, s⟩) by
    rw [HR.out]
    refine ⟨?_, fun _ => rfl⟩
    show (if D.length > 64 then (2 : Int) else 0) = _
    rw [HDl.out]
    by_cases h : np ≤ 64
    · rw [if_neg (by omega), decide_eq_true h, if_pos rfl]
    · rw [if_pos (by omega), decide_eq_false h, if_neg (by decide)])
  have HC := Lib.hid (kSet b d ks s B M Ad Ak nd cd nk ck vs A np cp B D w1 HB.out Hb.out Hp.out HD.out HBw.out HBw.out)
  go_wp2_with fail
  refine HC.out.mono ?_
  rintro e w2 ⟨rfl, H1, H2⟩
  clear HC
  go_wp2_with fail
  refine (kReq _ _ _).mono ?_
  rintro e w3 ⟨rfl, hw⟩
  obtain rfl := hw.symm
  go_wp2_with fail
  go_ret
  refine ⟨_, 2, rfl, (fun _ => by decide), HE.out.1, fun h => ?_, Hbel.out.trans H2.out⟩
  rw [if_neg (by decide), HE.out.2 h]
  exact H1.out h


set_option maxRecDepth 10000 in
set_option maxHeartbeats 1000000 in
theorem kApply9 (b : Nat) (o : Oj) (t : Bool) (f n : Int) (X : List UInt8) (A : Option Addr) (np cp : Nat) (D : List UInt8) (B M : Nat) (Ad Ak : Option Addr) (nd cd nk ck : Nat) (vs : List Kv) (w : World) (hbB : B ≤ b) (hB : B ≤ w.heap.size)
    (hb : w.heap[b]? = some (.cells #[.slice Ad nd cd, .slice Ak nk ck, .int .i64 o.seq] 25 (0, 0))) (hp : Parts w B M o Ad nd cd Ak nk ck vs) (hm : mayO o = true) (hf : I64 f) (hD : Rd w B A np D) (hnp : np ≤ cp) (hcp : cp ≤ 9223372036854775807) (hX : X.length ≤ 9223372036854775807) :
    Calls Tryd.prog 37 #[.pointer (some ⟨b, 0, none⟩), .bool t, pV 9 f n X A np cp] w (ApQ w B b 9 (stepO o t ⟨9, f, n, X, D⟩)) := by
  have hu : I64 f ∧ np ≤ cp ∧ cp ≤ 9223372036854775807 ∧ X.length ≤ 9223372036854775807 := ⟨hf, hnp, hcp, hX⟩
  clear hu
  obtain ⟨d, ks, s⟩ := o
  obtain ⟨m1, m2, _, _, _, hs⟩ := (mayO_iff _).1 hm
  have hnk : nk ≤ 120 := by
    have h := congrArg List.length hp.kys
    rw [List.length_map, hp.vln] at h
    rw [h]; exact m2
  have hnd : nd ≤ 64 := by
    have h := hp.dat.1
    rw [List.length_map, Nat.mul_one] at h
    rw [← h]; exact m1
  have Hbx := Lib.hid ((Below.refl w.heap.size w).alloc (Nat.le_refl _) (.cells #[.int .i64 9, .int .i64 f, .int .i64 n, .string ⟨X.toArray⟩, .slice A np cp] 38))
  have Hpt := Lib.hid (PAt.of (heap_alloc_new w (.cells #[.int .i64 9, .int .i64 f, .int .i64 n, .string ⟨X.toArray⟩, .slice A np cp] 38)))
  have Hb := Lib.hid (blk8 hb Hbx.out)
  have Hp := Lib.hid (hp.to Hbx.out)
  have HD := Lib.hid (hD.below (Hbx.out.mono hB))
  have HB := Lib.hid hbB
  have HBw := Lib.hid (Nat.le_trans hB Hbx.out.size)
  have Hbel := Lib.hid (Fr.of Hbx.out hB)
  have Hdl := Lib.hid m1
  have HDl := Lib.hid hD.1
  clear hb hp hD hbB hB hm m1 m2 Hbx
  obtain ⟨r, hr⟩ : ∃ r, r = stepO ⟨d, ks, s⟩ t ⟨9, f, n, X, D⟩ := ⟨_, rfl⟩
  have HR := Lib.hid hr
  rw [← hr]
  clear hr
  go_enter Tryd.func37, Tryd.ntmps37
  go_upto_region 1 with fail
  generalize w.alloc (.cells #[.int .i64 9, .int .i64 f, .int .i64 n, .string ⟨X.toArray⟩, .slice A np cp] 38) = w1 at Hpt Hb Hp HD HBw Hbel ⊢
  obtain ⟨c, hc⟩ : ∃ c, c = w.heap.size := ⟨_, rfl⟩
  rw [← hc] at Hpt ⊢
  clear hc
  have p0 := Hpt.out.c0
  have p1 := Hpt.out.c1
  have p2 := Hpt.out.c2
  have p3 := Hpt.out.c3
  have p4 := Hpt.out.c4
  have HE := Lib.hid (show r.2.2.2 = (if decide ((setK ks X D).2 = 0) = true then 0 else 2) ∧ (decide ((setK ks X D).2 = 0) = true → r.1 = ⟨d, (setK ks X D).1, s⟩) by
    rw [HR.out]
    refine ⟨?_, fun _ => rfl⟩
    show (setK ks X D).2 = _
    rcases setK_two ks X D with h | h <;> rw [h] <;> rfl)
  have HC := Lib.hid (kSetKey b d ks s B M Ad Ak nd cd nk ck vs X A np cp D w1 HB.out HBw.out Hb.out Hp.out (fun wx hb _ _ => (HD.out.below hb).more (Nat.le_trans HBw.out hb.size)) hnk hs hX)
  go_wp2_with fail
  refine HC.out.mono ?_
  rintro e w2 ⟨rfl, H1, H2⟩
  clear HC
  go_wp2_with fail
  refine (kReq _ _ _).mono ?_
  rintro e w3 ⟨rfl, hw⟩
  obtain rfl := hw.symm
  go_wp2_with fail
  go_ret
  refine ⟨_, 2, rfl, (fun _ => by decide), HE.out.1, fun h => ?_, Hbel.out.trans H2.out⟩
  rw [if_neg (by decide), HE.out.2 h]
  exact H1.out h


set_option maxRecDepth 10000 in
set_option maxHeartbeats 1000000 in
theorem kApply11 (b : Nat) (o : Oj) (t : Bool) (f n : Int) (X : List UInt8) (A : Option Addr) (np cp : Nat) (D : List UInt8) (B M : Nat) (Ad Ak : Option Addr) (nd cd nk ck : Nat) (vs : List Kv) (w : World) (hbB : B ≤ b) (hB : B ≤ w.heap.size)
    (hb : w.heap[b]? = some (.cells #[.slice Ad nd cd, .slice Ak nk ck, .int .i64 o.seq] 25 (0, 0))) (hp : Parts w B M o Ad nd cd Ak nk ck vs) (hm : mayO o = true) (hf : I64 f) (hD : Rd w B A np D) (hnp : np ≤ cp) (hcp : cp ≤ 9223372036854775807) (hX : X.length ≤ 9223372036854775807) :
    Calls Tryd.prog 37 #[.pointer (some ⟨b, 0, none⟩), .bool t, pV 11 f n X A np cp] w (ApQ w B b 11 (stepO o t ⟨11, f, n, X, D⟩)) := by
  have hu : I64 f ∧ np ≤ cp ∧ cp ≤ 9223372036854775807 ∧ X.length ≤ 9223372036854775807 := ⟨hf, hnp, hcp, hX⟩
  clear hu
  obtain ⟨d, ks, s⟩ := o
  obtain ⟨m1, m2, _, _, _, hs⟩ := (mayO_iff _).1 hm
  have hnk : nk ≤ 120 := by
    have h := congrArg List.length hp.kys
    rw [List.length_map, hp.vln] at h
    rw [h]; exact m2
  have hnd : nd ≤ 64 := by
    have h := hp.dat.1
    rw [List.length_map, Nat.mul_one] at h
    rw [← h]; exact m1
  have Hbx := Lib.hid ((Below.refl w.heap.size w).alloc (Nat.le_refl _) (.cells #[.int .i64 11, .int .i64 f, .int .i64 n, .string ⟨X.toArray⟩, .slice A np cp] 38))
  have Hpt := Lib.hid (PAt.of (heap_alloc_new w (.cells #[.int .i64 11, .int .i64 f, .int .i64 n, .string ⟨X.toArray⟩, .slice A np cp] 38)))
  have Hb := Lib.hid (blk8 hb Hbx.out)
  have Hp := Lib.hid (hp.to Hbx.out)
  have HD := Lib.hid (hD.below (Hbx.out.mono hB))
  have HB := Lib.hid hbB
  have HBw := Lib.hid (Nat.le_trans hB Hbx.out.size)
  have Hbel := Lib.hid (Fr.of Hbx.out hB)
  have Hdl := Lib.hid m1
  have HDl := Lib.hid hD.1
  clear hb hp hD hbB hB hm m1 m2 Hbx
  obtain ⟨r, hr⟩ : ∃ r, r = stepO ⟨d, ks, s⟩ t ⟨11, f, n, X, D⟩ := ⟨_, rfl⟩
  have HR := Lib.hid hr
  rw [← hr]
  clear hr
  go_enter Tryd.func37, Tryd.ntmps37
  go_upto_region 1 with fail
  generalize w.alloc (.cells #[.int .i64 11, .int .i64 f, .int .i64 n, .string ⟨X.toArray⟩, .slice A np cp] 38) = w1 at Hpt Hb Hp HD HBw Hbel ⊢
  obtain ⟨c, hc⟩ : ∃ c, c = w.heap.size := ⟨_, rfl⟩
  rw [← hc] at Hpt ⊢
  clear hc
  have p0 := Hpt.out.c0
  have p1 := Hpt.out.c1
  have p2 := Hpt.out.c2
  have p3 := Hpt.out.c3
  have p4 := Hpt.out.c4
  have HE := Lib.hid (show r.2.2.2 = (if decide ((cloneK ks X d).2 = 0) = true then 0 else 2) ∧ (decide ((cloneK ks X d).2 = 0) = true → r.1 = ⟨d, (cloneK ks X d).1, s⟩) by
    rw [HR.out]
    refine ⟨?_, fun _ => rfl⟩
    show (cloneK ks X d).2 = _
    unfold cloneK
    split
    · rfl
    · rcases setK_two ks X d with h | h <;> rw [h] <;> rfl)
  have HC := Lib.hid (kCloneData b d ks s B M Ad Ak nd cd nk ck vs X w1 HB.out HBw.out Hb.out Hp.out hnk hs hX)
  go_wp2_with fail
  refine HC.out.mono ?_
  rintro e w2 ⟨rfl, H1, H2⟩
  clear HC
  go_wp2_with fail
  refine (kReq _ _ _).mono ?_
  rintro e w3 ⟨rfl, hw⟩
  obtain rfl := hw.symm
  go_wp2_with fail
  go_ret
  refine ⟨_, 2, rfl, (fun _ => by decide), HE.out.1, fun h => ?_, Hbel.out.trans H2.out⟩
  rw [if_neg (by decide), HE.out.2 h]
  exact H1.out h


set_option maxRecDepth 10000 in
set_option maxHeartbeats 1000000 in
theorem kApply12 (b : Nat) (o : Oj) (t : Bool) (f n : Int) (X : List UInt8) (A : Option Addr) (np cp : Nat) (D : List UInt8) (B M : Nat) (Ad Ak : Option Addr) (nd cd nk ck : Nat) (vs : List Kv) (w : World) (hbB : B ≤ b) (hB : B ≤ w.heap.size)
    (hb : w.heap[b]? = some (.cells #[.slice Ad nd cd, .slice Ak nk ck, .int .i64 o.seq] 25 (0, 0))) (hp : Parts w B M o Ad nd cd Ak nk ck vs) (hm : mayO o = true) (hf : I64 f) (hD : Rd w B A np D) (hnp : np ≤ cp) (hcp : cp ≤ 9223372036854775807) (hX : X.length ≤ 9223372036854775807) :
    Calls Tryd.prog 37 #[.pointer (some ⟨b, 0, none⟩), .bool t, pV 12 f n X A np cp] w (ApQ w B b 12 (stepO o t ⟨12, f, n, X, D⟩)) := by
  have hu : I64 f ∧ np ≤ cp ∧ cp ≤ 9223372036854775807 ∧ X.length ≤ 9223372036854775807 := ⟨hf, hnp, hcp, hX⟩
  clear hu
  obtain ⟨d, ks, s⟩ := o
  obtain ⟨m1, m2, _, _, _, hs⟩ := (mayO_iff _).1 hm
  have hnk : nk ≤ 120 := by
    have h := congrArg List.length hp.kys
    rw [List.length_map, hp.vln] at h
    rw [h]; exact m2
  have hnd : nd ≤ 64 := by
    have h := hp.dat.1
    rw [List.length_map, Nat.mul_one] at h
    rw [← h]; exact m1
  have Hbx := Lib.hid ((Below.refl w.heap.size w).alloc (Nat.le_refl _) (.cells #[.int .i64 12, .int .i64 f, .int .i64 n, .string ⟨X.toArray⟩, .slice A np cp] 38))
  have Hpt := Lib.hid (PAt.of (heap_alloc_new w (.cells #[.int .i64 12, .int .i64 f, .int .i64 n, .string ⟨X.toArray⟩, .slice A np cp] 38)))
  have Hb := Lib.hid (blk8 hb Hbx.out)
  have Hp := Lib.hid (hp.to Hbx.out)
  have HD := Lib.hid (hD.below (Hbx.out.mono hB))
  have HB := Lib.hid hbB
  have HBw := Lib.hid (Nat.le_trans hB Hbx.out.size)
  have Hbel := Lib.hid (Fr.of Hbx.out hB)
  have Hdl := Lib.hid m1
  have HDl := Lib.hid hD.1
  clear hb hp hD hbB hB hm m1 m2 Hbx
  obtain ⟨r, hr⟩ : ∃ r, r = stepO ⟨d, ks, s⟩ t ⟨12, f, n, X, D⟩ := ⟨_, rfl⟩
  have HR := Lib.hid hr
  rw [← hr]
  clear hr
  go_enter Tryd.func37, Tryd.ntmps37
  go_upto_region 1 with fail
  generalize w.alloc (.cells #[.int .i64 12, .int .i64 f, .int .i64 n, .string ⟨X.toArray⟩, .slice A np cp] 38) = w1 at Hpt Hb Hp HD HBw Hbel ⊢
  obtain ⟨c, hc⟩ : ∃ c, c = w.heap.size := ⟨_, rfl⟩
  rw [← hc] at Hpt ⊢
  clear hc
  have p0 := Hpt.out.c0
  have p1 := Hpt.out.c1
  have p2 := Hpt.out.c2
  have p3 := Hpt.out.c3
  have p4 := Hpt.out.c4
  have HE := Lib.hid (show r.2.2.2 = (if (decide (0 ≤ n) && decide (n ≤ 1099511627776)) = true then 0 else 2) ∧ ((decide (0 ≤ n) && decide (n ≤ 1099511627776)) = true → r.1 = ⟨d, ks, n⟩) by
    rw [HR.out]
    refine ⟨?_, fun _ => rfl⟩
    show (if n < 0 ∨ n > 1099511627776 then (2 : Int) else 0) = _
    by_cases h : n < 0 ∨ n > 1099511627776
    · rw [if_pos h, if_neg (by simp; omega)]
    · rw [if_neg h, if_pos (by simp; omega)])
  have HC := Lib.hid (kSetSeq b d ks s n B M Ad Ak nd cd nk ck vs w1 HB.out Hb.out Hp.out)
  go_wp2_with fail
  refine HC.out.mono ?_
  rintro e w2 ⟨rfl, H1, H2⟩
  clear HC
  go_wp2_with fail
  refine (kReq _ _ _).mono ?_
  rintro e w3 ⟨rfl, hw⟩
  obtain rfl := hw.symm
  go_wp2_with fail
  go_ret
  refine ⟨_, 2, rfl, (fun _ => by decide), HE.out.1, fun h => ?_, Hbel.out.trans H2.out⟩
  rw [if_neg (by decide), HE.out.2 h]
  exact H1.out h


set_option maxRecDepth 10000 in
set_option maxHeartbeats 1000000 in
theorem kApply14 (b : Nat) (o : Oj) (t : Bool) (f n : Int) (X : List UInt8) (A : Option Addr) (np cp : Nat) (D : List UInt8) (B M : Nat) (Ad Ak : Option Addr) (nd cd nk ck : Nat) (vs : List Kv) (w : World) (hbB : B ≤ b) (hB : B ≤ w.heap.size)
    (hb : w.heap[b]? = some (.cells #[.slice Ad nd cd, .slice Ak nk ck, .int .i64 o.seq] 25 (0, 0))) (hp : Parts w B M o Ad nd cd Ak nk ck vs) (hm : mayO o = true) (hf : I64 f) (hD : Rd w B A np D) (hnp : np ≤ cp) (hcp : cp ≤ 9223372036854775807) (hX : X.length ≤ 9223372036854775807) :
    Calls Tryd.prog 37 #[.pointer (some ⟨b, 0, none⟩), .bool t, pV 14 f n X A np cp] w (ApQ w B b 14 (stepO o t ⟨14, f, n, X, D⟩)) := by
  have hu : I64 f ∧ np ≤ cp ∧ cp ≤ 9223372036854775807 ∧ X.length ≤ 9223372036854775807 := ⟨hf, hnp, hcp, hX⟩
  clear hu
  obtain ⟨d, ks, s⟩ := o
  obtain ⟨m1, m2, _, _, _, hs⟩ := (mayO_iff _).1 hm
  have hnk : nk ≤ 120 := by
    have h := congrArg List.length hp.kys
    rw [List.length_map, hp.vln] at h
    rw [h]; exact m2
  have hnd : nd ≤ 64 := by
    have h := hp.dat.1
    rw [List.length_map, Nat.mul_one] at h
    rw [← h]; exact m1
  have Hbx := Lib.hid ((Below.refl w.heap.size w).alloc (Nat.le_refl _) (.cells #[.int .i64 14, .int .i64 f, .int .i64 n, .string ⟨X.toArray⟩, .slice A np cp] 38))
  have Hpt := Lib.hid (PAt.of (heap_alloc_new w (.cells #[.int .i64 14, .int .i64 f, .int .i64 n, .string ⟨X.toArray⟩, .slice A np cp] 38)))
  have Hb := Lib.hid (blk8 hb Hbx.out)
  have Hp := Lib.hid (hp.to Hbx.out)
  have HD := Lib.hid (hD.below (Hbx.out.mono hB))
  have HB := Lib.hid hbB
  have HBw := Lib.hid (Nat.le_trans hB Hbx.out.size)
  have Hbel := Lib.hid (Fr.of Hbx.out hB)
  have Hdl := Lib.hid m1
  have HDl := Lib.hid hD.1
  clear hb hp hD hbB hB hm m1 m2 Hbx
  obtain ⟨r, hr⟩ : ∃ r, r = stepO ⟨d, ks, s⟩ t ⟨14, f, n, X, D⟩ := ⟨_, rfl⟩
  have HR := Lib.hid hr
  rw [← hr]
  clear hr
  go_enter Tryd.func37, Tryd.ntmps37
  go_upto_region 1 with fail
  generalize w.alloc (.cells #[.int .i64 14, .int .i64 f, .int .i64 n, .string ⟨X.toArray⟩, .slice A np cp] 38) = w1 at Hpt Hb Hp HD HBw Hbel ⊢
  obtain ⟨c, hc⟩ : ∃ c, c = w.heap.size := ⟨_, rfl⟩
  rw [← hc] at Hpt ⊢
  clear hc
  have p0 := Hpt.out.c0
  have p1 := Hpt.out.c1
  have p2 := Hpt.out.c2
  have p3 := Hpt.out.c3
  have p4 := Hpt.out.c4
  have HE := Lib.hid (show r.2.2.2 = (if decide ((atK d ks X).length ≤ 64) = true then 0 else 2) ∧ (decide ((atK d ks X).length ≤ 64) = true → r.1 = ⟨atK d ks X, ks, s⟩) by
    rw [HR.out]
    refine ⟨?_, fun _ => rfl⟩
    show (if (atK d ks X).length > 64 then (2 : Int) else 0) = _
    by_cases h : (atK d ks X).length ≤ 64
    · rw [if_neg (by omega), decide_eq_true h, if_pos rfl]
    · rw [if_pos (by omega), decide_eq_false h, if_neg (by decide)])
  have HC := Lib.hid (kRestore b d ks s B M Ad Ak nd cd nk ck vs X w1 HB.out HBw.out Hb.out Hp.out (by omega) hs hX Hdl.out)
  go_wp2_with fail
  refine HC.out.mono ?_
  rintro e w2 ⟨rfl, H1, H2⟩
  clear HC
  go_wp2_with fail
  refine (kReq _ _ _).mono ?_
  rintro e w3 ⟨rfl, hw⟩
  obtain rfl := hw.symm
  go_wp2_with fail
  go_ret
  refine ⟨_, 2, rfl, (fun _ => by decide), HE.out.1, fun h => ?_, Hbel.out.trans H2.out⟩
  rw [if_neg (by decide), HE.out.2 h]
  exact H1.out h


set_option maxRecDepth 10000 in
set_option maxHeartbeats 1000000 in
theorem kApply1 (b : Nat) (o : Oj) (t : Bool) (f n : Int) (X : List UInt8) (A : Option Addr) (np cp : Nat) (D : List UInt8) (B M : Nat) (Ad Ak : Option Addr) (nd cd nk ck : Nat) (vs : List Kv) (w : World) (hbB : B ≤ b) (hB : B ≤ w.heap.size)
    (hb : w.heap[b]? = some (.cells #[.slice Ad nd cd, .slice Ak nk ck, .int .i64 o.seq] 25 (0, 0))) (hp : Parts w B M o Ad nd cd Ak nk ck vs) (hm : mayO o = true) (hf : I64 f) (hD : Rd w B A np D) (hnp : np ≤ cp) (hcp : cp ≤ 9223372036854775807) (hX : X.length ≤ 9223372036854775807) :
    Calls Tryd.prog 37 #[.pointer (some ⟨b, 0, none⟩), .bool t, pV 1 f n X A np cp] w (ApQ w B b 1 (stepO o t ⟨1, f, n, X, D⟩)) := by
  have hu : I64 f ∧ np ≤ cp ∧ cp ≤ 9223372036854775807 ∧ X.length ≤ 9223372036854775807 := ⟨hf, hnp, hcp, hX⟩
  clear hu
  obtain ⟨d, ks, s⟩ := o
  obtain ⟨m1, m2, _, _, _, hs⟩ := (mayO_iff _).1 hm
  have hnk : nk ≤ 120 := by
    have h := congrArg List.length hp.kys
    rw [List.length_map, hp.vln] at h
    rw [h]; exact m2
  have hnd : nd ≤ 64 := by
    have h := hp.dat.1
    rw [List.length_map, Nat.mul_one] at h
    rw [← h]; exact m1
  have Hbx := Lib.hid ((Below.refl w.heap.size w).alloc (Nat.le_refl _) (.cells #[.int .i64 1, .int .i64 f, .int .i64 n, .string ⟨X.toArray⟩, .slice A np cp] 38))
  have Hpt := Lib.hid (PAt.of (heap_alloc_new w (.cells #[.int .i64 1, .int .i64 f, .int .i64 n, .string ⟨X.toArray⟩, .slice A np cp] 38)))
  have Hb := Lib.hid (blk8 hb Hbx.out)
  have Hp := Lib.hid (hp.to Hbx.out)
  have HD := Lib.hid (hD.below (Hbx.out.mono hB))
  have HB := Lib.hid hbB
  have HBw := Lib.hid (Nat.le_trans hB Hbx.out.size)
  have Hbel := Lib.hid (Fr.of Hbx.out hB)
  have Hdl := Lib.hid m1
  have HDl := Lib.hid hD.1
  clear hb hp hD hbB hB hm m1 m2 Hbx
  obtain ⟨r, hr⟩ : ∃ r, r = stepO ⟨d, ks, s⟩ t ⟨1, f, n, X, D⟩ := ⟨_, rfl⟩
  have HR := Lib.hid hr
  rw [← hr]
  clear hr
  go_enter Tryd.func37, Tryd.ntmps37
  go_upto_region 1 with fail
  generalize w.alloc (.cells #[.int .i64 1, .int .i64 f, .int .i64 n, .string ⟨X.toArray⟩, .slice A np cp] 38) = w1 at Hpt Hb Hp HD HBw Hbel ⊢
  obtain ⟨c, hc⟩ : ∃ c, c = w.heap.size := ⟨_, rfl⟩
  rw [← hc] at Hpt ⊢
  clear hc
  have p0 := Hpt.out.c0
  have p1 := Hpt.out.c1
  have p2 := Hpt.out.c2
  have p3 := Hpt.out.c3
  have p4 := Hpt.out.c4
  have HE := Lib.hid (show r.2.2.2 = (if t = true then 0 else 90) ∧ r.1 = ⟨d, ks, s⟩ by rw [HR.out]; cases t <;> exact ⟨rfl, rfl⟩)
  go_wp2_with fail
  refine (kReq _ _ _).mono ?_
  rintro e w3 ⟨rfl, hw⟩
  obtain rfl := hw.symm
  go_wp2_with fail
  go_ret
  refine ⟨t, 90, rfl, (fun _ => by decide), HE.out.1, fun _ => ?_, Hbel.out⟩
  rw [if_neg (by decide), HE.out.2]
  exact Hp.out.obe Hb.out


set_option maxRecDepth 10000 in
set_option maxHeartbeats 1000000 in
theorem kApply2 (b : Nat) (o : Oj) (t : Bool) (f n : Int) (X : List UInt8) (A : Option Addr) (np cp : Nat) (D : List UInt8) (B M : Nat) (Ad Ak : Option Addr) (nd cd nk ck : Nat) (vs : List Kv) (w : World) (hbB : B ≤ b) (hB : B ≤ w.heap.size)
    (hb : w.heap[b]? = some (.cells #[.slice Ad nd cd, .slice Ak nk ck, .int .i64 o.seq] 25 (0, 0))) (hp : Parts w B M o Ad nd cd Ak nk ck vs) (hm : mayO o = true) (hf : I64 f) (hD : Rd w B A np D) (hnp : np ≤ cp) (hcp : cp ≤ 9223372036854775807) (hX : X.length ≤ 9223372036854775807) :
    Calls Tryd.prog 37 #[.pointer (some ⟨b, 0, none⟩), .bool t, pV 2 f n X A np cp] w (ApQ w B b 2 (stepO o t ⟨2, f, n, X, D⟩)) := by
  have hu : I64 f ∧ np ≤ cp ∧ cp ≤ 9223372036854775807 ∧ X.length ≤ 9223372036854775807 := ⟨hf, hnp, hcp, hX⟩
  clear hu
  obtain ⟨d, ks, s⟩ := o
  obtain ⟨m1, m2, _, _, _, hs⟩ := (mayO_iff _).1 hm
  have hnk : nk ≤ 120 := by
    have h := congrArg List.length hp.kys
    rw [List.length_map, hp.vln] at h
    rw [h]; exact m2
  have hnd : nd ≤ 64 := by
    have h := hp.dat.1
    rw [List.length_map, Nat.mul_one] at h
    rw [← h]; exact m1
  have Hbx := Lib.hid ((Below.refl w.heap.size w).alloc (Nat.le_refl _) (.cells #[.int .i64 2, .int .i64 f, .int .i64 n, .string ⟨X.toArray⟩, .slice A np cp] 38))
  have Hpt := Lib.hid (PAt.of (heap_alloc_new w (.cells #[.int .i64 2, .int .i64 f, .int .i64 n, .string ⟨X.toArray⟩, .slice A np cp] 38)))
  have Hb := Lib.hid (blk8 hb Hbx.out)
  have Hp := Lib.hid (hp.to Hbx.out)
  have HD := Lib.hid (hD.below (Hbx.out.mono hB))
  have HB := Lib.hid hbB
  have HBw := Lib.hid (Nat.le_trans hB Hbx.out.size)
  have Hbel := Lib.hid (Fr.of Hbx.out hB)
  have Hdl := Lib.hid m1
  have HDl := Lib.hid hD.1
  clear hb hp hD hbB hB hm m1 m2 Hbx
  obtain ⟨r, hr⟩ : ∃ r, r = stepO ⟨d, ks, s⟩ t ⟨2, f, n, X, D⟩ := ⟨_, rfl⟩
  have HR := Lib.hid hr
  rw [← hr]
  clear hr
  go_enter Tryd.func37, Tryd.ntmps37
  go_upto_region 1 with fail
  generalize w.alloc (.cells #[.int .i64 2, .int .i64 f, .int .i64 n, .string ⟨X.toArray⟩, .slice A np cp] 38) = w1 at Hpt Hb Hp HD HBw Hbel ⊢
  obtain ⟨c, hc⟩ : ∃ c, c = w.heap.size := ⟨_, rfl⟩
  rw [← hc] at Hpt ⊢
  clear hc
  have p0 := Hpt.out.c0
  have p1 := Hpt.out.c1
  have p2 := Hpt.out.c2
  have p3 := Hpt.out.c3
  have p4 := Hpt.out.c4
  have HE := Lib.hid (show r.2.2.2 = (if (!t) = true then 0 else 91) ∧ r.1 = ⟨d, ks, s⟩ by rw [HR.out]; cases t <;> exact ⟨rfl, rfl⟩)
  go_wp2_with fail
  refine (kReq _ _ _).mono ?_
  rintro e w3 ⟨rfl, hw⟩
  obtain rfl := hw.symm
  go_wp2_with fail
  go_ret
  refine ⟨!t, 91, rfl, (fun _ => by decide), HE.out.1, fun _ => ?_, Hbel.out⟩
  rw [if_neg (by decide), HE.out.2]
  exact Hp.out.obe Hb.out


set_option maxRecDepth 10000 in
set_option maxHeartbeats 1000000 in
theorem kApply3 (b : Nat) (o : Oj) (t : Bool) (f n : Int) (X : List UInt8) (A : Option Addr) (np cp : Nat) (D : List UInt8) (B M : Nat) (Ad Ak : Option Addr) (nd cd nk ck : Nat) (vs : List Kv) (w : World) (hbB : B ≤ b) (hB : B ≤ w.heap.size)
    (hb : w.heap[b]? = some (.cells #[.slice Ad nd cd, .slice Ak nk ck, .int .i64 o.seq] 25 (0, 0))) (hp : Parts w B M o Ad nd cd Ak nk ck vs) (hm : mayO o = true) (hf : I64 f) (hD : Rd w B A np D) (hnp : np ≤ cp) (hcp : cp ≤ 9223372036854775807) (hX : X.length ≤ 9223372036854775807) :
    Calls Tryd.prog 37 #[.pointer (some ⟨b, 0, none⟩), .bool t, pV 3 f n X A np cp] w (ApQ w B b 3 (stepO o t ⟨3, f, n, X, D⟩)) := by
  have hu : I64 f ∧ np ≤ cp ∧ cp ≤ 9223372036854775807 ∧ X.length ≤ 9223372036854775807 := ⟨hf, hnp, hcp, hX⟩
  clear hu
  obtain ⟨d, ks, s⟩ := o
  obtain ⟨m1, m2, _, _, _, hs⟩ := (mayO_iff _).1 hm
  have hnk : nk ≤ 120 := by
    have h := congrArg List.length hp.kys
    rw [List.length_map, hp.vln] at h
    rw [h]; exact m2
  have hnd : nd ≤ 64 := by
    have h := hp.dat.1
    rw [List.length_map, Nat.mul_one] at h
    rw [← h]; exact m1
  have Hbx := Lib.hid ((Below.refl w.heap.size w).alloc (Nat.le_refl _) (.cells #[.int .i64 3, .int .i64 f, .int .i64 n, .string ⟨X.toArray⟩, .slice A np cp] 38))
  have Hpt := Lib.hid (PAt.of (heap_alloc_new w (.cells #[.int .i64 3, .int .i64 f, .int .i64 n, .string ⟨X.toArray⟩, .slice A np cp] 38)))
  have Hb := Lib.hid (blk8 hb Hbx.out)
  have Hp := Lib.hid (hp.to Hbx.out)
  have HD := Lib.hid (hD.below (Hbx.out.mono hB))
  have HB := Lib.hid hbB
  have HBw := Lib.hid (Nat.le_trans hB Hbx.out.size)
  have Hbel := Lib.hid (Fr.of Hbx.out hB)
  have Hdl := Lib.hid m1
  have HDl := Lib.hid hD.1
  clear hb hp hD hbB hB hm m1 m2 Hbx
  obtain ⟨r, hr⟩ : ∃ r, r = stepO ⟨d, ks, s⟩ t ⟨3, f, n, X, D⟩ := ⟨_, rfl⟩
  have HR := Lib.hid hr
  rw [← hr]
  clear hr
  go_enter Tryd.func37, Tryd.ntmps37
  go_upto_region 1 with fail
  generalize w.alloc (.cells #[.int .i64 3, .int .i64 f, .int .i64 n, .string ⟨X.toArray⟩, .slice A np cp] 38) = w1 at Hpt Hb Hp HD HBw Hbel ⊢
  obtain ⟨c, hc⟩ : ∃ c, c = w.heap.size := ⟨_, rfl⟩
  rw [← hc] at Hpt ⊢
  clear hc
  have p0 := Hpt.out.c0
  have p1 := Hpt.out.c1
  have p2 := Hpt.out.c2
  have p3 := Hpt.out.c3
  have p4 := Hpt.out.c4
  have HE := Lib.hid (show r.2.2.2 = (if decide (getK ks X = some D) = true then 0 else 92) ∧ r.1 = ⟨d, ks, s⟩ by
    rw [HR.out]
    refine ⟨?_, rfl⟩
    show (guardO ⟨d, ks, s⟩ t ⟨3, f, n, X, D⟩).2 = _
    unfold guardO
    by_cases h : getK ks X = some D
    · simp [h]
    · simp [h])
  have HC := Lib.hid (kKeyIs b d ks s B M Ad Ak nd cd nk ck vs X A np cp D w1 Hb.out Hp.out (HD.out.more HBw.out) (by omega) hs)
  go_wp2_with fail
  refine HC.out.mono ?_
  rintro e w2 ⟨rfl, hb2⟩
  have Hb2 := Lib.hid hb2
  clear HC hb2
  go_wp2_with fail
  refine (kReq _ _ _).mono ?_
  rintro e w3 ⟨rfl, hw⟩
  obtain rfl := hw.symm
  go_wp2_with fail
  go_ret
  refine ⟨_, 92, rfl, (fun _ => by decide), HE.out.1, fun _ => ?_, Hbel.out.trans (Fr.of Hb2.out HBw.out)⟩
  rw [if_neg (by decide), HE.out.2]
  exact (Hp.out.to Hb2.out).obe (blk8 Hb.out Hb2.out)


set_option maxRecDepth 10000 in
set_option maxHeartbeats 1000000 in
theorem kApply4 (b : Nat) (o : Oj) (t : Bool) (f n : Int) (X : List UInt8) (A : Option Addr) (np cp : Nat) (D : List UInt8) (B M : Nat) (Ad Ak : Option Addr) (nd cd nk ck : Nat) (vs : List Kv) (w : World) (hbB : B ≤ b) (hB : B ≤ w.heap.size)
    (hb : w.heap[b]? = some (.cells #[.slice Ad nd cd, .slice Ak nk ck, .int .i64 o.seq] 25 (0, 0))) (hp : Parts w B M o Ad nd cd Ak nk ck vs) (hm : mayO o = true) (hf : I64 f) (hD : Rd w B A np D) (hnp : np ≤ cp) (hcp : cp ≤ 9223372036854775807) (hX : X.length ≤ 9223372036854775807) :
    Calls Tryd.prog 37 #[.pointer (some ⟨b, 0, none⟩), .bool t, pV 4 f n X A np cp] w (ApQ w B b 4 (stepO o t ⟨4, f, n, X, D⟩)) := by
  have hu : I64 f ∧ np ≤ cp ∧ cp ≤ 9223372036854775807 ∧ X.length ≤ 9223372036854775807 := ⟨hf, hnp, hcp, hX⟩
  clear hu
  obtain ⟨d, ks, s⟩ := o
  obtain ⟨m1, m2, _, _, _, hs⟩ := (mayO_iff _).1 hm
  have hnk : nk ≤ 120 := by
    have h := congrArg List.length hp.kys
    rw [List.length_map, hp.vln] at h
    rw [h]; exact m2
  have hnd : nd ≤ 64 := by
    have h := hp.dat.1
    rw [List.length_map, Nat.mul_one] at h
    rw [← h]; exact m1
  have Hbx := Lib.hid ((Below.refl w.heap.size w).alloc (Nat.le_refl _) (.cells #[.int .i64 4, .int .i64 f, .int .i64 n, .string ⟨X.toArray⟩, .slice A np cp] 38))
  have Hpt := Lib.hid (PAt.of (heap_alloc_new w (.cells #[.int .i64 4, .int .i64 f, .int .i64 n, .string ⟨X.toArray⟩, .slice A np cp] 38)))
  have Hb := Lib.hid (blk8 hb Hbx.out)
  have Hp := Lib.hid (hp.to Hbx.out)
  have HD := Lib.hid (hD.below (Hbx.out.mono hB))
  have HB := Lib.hid hbB
  have HBw := Lib.hid (Nat.le_trans hB Hbx.out.size)
  have Hbel := Lib.hid (Fr.of Hbx.out hB)
  have Hdl := Lib.hid m1
  have HDl := Lib.hid hD.1
  clear hb hp hD hbB hB hm m1 m2 Hbx
  obtain ⟨r, hr⟩ : ∃ r, r = stepO ⟨d, ks, s⟩ t ⟨4, f, n, X, D⟩ := ⟨_, rfl⟩
  have HR := Lib.hid hr
  rw [← hr]
  clear hr
  go_enter Tryd.func37, Tryd.ntmps37
  go_upto_region 1 with fail
  generalize w.alloc (.cells #[.int .i64 4, .int .i64 f, .int .i64 n, .string ⟨X.toArray⟩, .slice A np cp] 38) = w1 at Hpt Hb Hp HD HBw Hbel ⊢
  obtain ⟨c, hc⟩ : ∃ c, c = w.heap.size := ⟨_, rfl⟩
  rw [← hc] at Hpt ⊢
  clear hc
  have p0 := Hpt.out.c0
  have p1 := Hpt.out.c1
  have p2 := Hpt.out.c2
  have p3 := Hpt.out.c3
  have p4 := Hpt.out.c4
  have HE := Lib.hid (show r.2.2.2 = 0 ∧ r.1 = ⟨d, ks, s⟩ by rw [HR.out]; exact ⟨rfl, rfl⟩)
  go_wp2_with fail
  go_ret
  refine ⟨true, 0, rfl, (fun h => by cases h), HE.out.1, fun _ => ?_, Hbel.out⟩
  rw [if_neg (by decide), HE.out.2]
  exact Hp.out.obe Hb.out


set_option maxRecDepth 10000 in
set_option maxHeartbeats 1000000 in
theorem kApply10 (b : Nat) (o : Oj) (t : Bool) (f n : Int) (X : List UInt8) (A : Option Addr) (np cp : Nat) (D : List UInt8) (B M : Nat) (Ad Ak : Option Addr) (nd cd nk ck : Nat) (vs : List Kv) (w : World) (hbB : B ≤ b) (hB : B ≤ w.heap.size)
    (hb : w.heap[b]? = some (.cells #[.slice Ad nd cd, .slice Ak nk ck, .int .i64 o.seq] 25 (0, 0))) (hp : Parts w B M o Ad nd cd Ak nk ck vs) (hm : mayO o = true) (hf : I64 f) (hD : Rd w B A np D) (hnp : np ≤ cp) (hcp : cp ≤ 9223372036854775807) (hX : X.length ≤ 9223372036854775807) :
    Calls Tryd.prog 37 #[.pointer (some ⟨b, 0, none⟩), .bool t, pV 10 f n X A np cp] w (ApQ w B b 10 (stepO o t ⟨10, f, n, X, D⟩)) := by
  have hu : I64 f ∧ np ≤ cp ∧ cp ≤ 9223372036854775807 ∧ X.length ≤ 9223372036854775807 := ⟨hf, hnp, hcp, hX⟩
  clear hu
  obtain ⟨d, ks, s⟩ := o
  obtain ⟨m1, m2, _, _, _, hs⟩ := (mayO_iff _).1 hm
  have hnk : nk ≤ 120 := by
    have h := congrArg List.length hp.kys
    rw [List.length_map, hp.vln] at h
    rw [h]; exact m2
  have hnd : nd ≤ 64 := by
    have h := hp.dat.1
    rw [List.length_map, Nat.mul_one] at h
    rw [← h]; exact m1
  have Hbx := Lib.hid ((Below.refl w.heap.size w).alloc (Nat.le_refl _) (.cells #[.int .i64 10, .int .i64 f, .int .i64 n, .string ⟨X.toArray⟩, .slice A np cp] 38))
  have Hpt := Lib.hid (PAt.of (heap_alloc_new w (.cells #[.int .i64 10, .int .i64 f, .int .i64 n, .string ⟨X.toArray⟩, .slice A np cp] 38)))
  have Hb := Lib.hid (blk8 hb Hbx.out)
  have Hp := Lib.hid (hp.to Hbx.out)
  have HD := Lib.hid (hD.below (Hbx.out.mono hB))
  have HB := Lib.hid hbB
  have HBw := Lib.hid (Nat.le_trans hB Hbx.out.size)
  have Hbel := Lib.hid (Fr.of Hbx.out hB)
  have Hdl := Lib.hid m1
  have HDl := Lib.hid hD.1
  clear hb hp hD hbB hB hm m1 m2 Hbx
  obtain ⟨r, hr⟩ : ∃ r, r = stepO ⟨d, ks, s⟩ t ⟨10, f, n, X, D⟩ := ⟨_, rfl⟩
  have HR := Lib.hid hr
  rw [← hr]
  clear hr
  go_enter Tryd.func37, Tryd.ntmps37
  go_upto_region 1 with fail
  generalize w.alloc (.cells #[.int .i64 10, .int .i64 f, .int .i64 n, .string ⟨X.toArray⟩, .slice A np cp] 38) = w1 at Hpt Hb Hp HD HBw Hbel ⊢
  obtain ⟨c, hc⟩ : ∃ c, c = w.heap.size := ⟨_, rfl⟩
  rw [← hc] at Hpt ⊢
  clear hc
  have p0 := Hpt.out.c0
  have p1 := Hpt.out.c1
  have p2 := Hpt.out.c2
  have p3 := Hpt.out.c3
  have p4 := Hpt.out.c4
  have HE := Lib.hid (show r.2.2.2 = 0 ∧ r.1 = ⟨d, dropK ks X, s⟩ by rw [HR.out]; exact ⟨rfl, rfl⟩)
  have HC := Lib.hid (kDrop b d ks s B M Ad Ak nd cd nk ck vs X w1 HB.out HBw.out Hb.out Hp.out (by omega) hs)
  go_wp2_with fail
  refine HC.out.mono ?_
  rintro e w2 ⟨rfl, H1, H2⟩
  clear HC
  go_wp2_with fail
  go_ret
  refine ⟨true, 0, rfl, (fun h => by cases h), HE.out.1, fun _ => ?_, Hbel.out.trans H2.out⟩
  rw [if_neg (by decide), HE.out.2]
  exact H1.out


set_option maxRecDepth 10000 in
set_option maxHeartbeats 1000000 in
theorem kApply13 (b : Nat) (o : Oj) (t : Bool) (f n : Int) (X : List UInt8) (A : Option Addr) (np cp : Nat) (D : List UInt8) (B M : Nat) (Ad Ak : Option Addr) (nd cd nk ck : Nat) (vs : List Kv) (w : World) (hbB : B ≤ b) (hB : B ≤ w.heap.size)
    (hb : w.heap[b]? = some (.cells #[.slice Ad nd cd, .slice Ak nk ck, .int .i64 o.seq] 25 (0, 0))) (hp : Parts w B M o Ad nd cd Ak nk ck vs) (hm : mayO o = true) (hf : I64 f) (hD : Rd w B A np D) (hnp : np ≤ cp) (hcp : cp ≤ 9223372036854775807) (hX : X.length ≤ 9223372036854775807) :
    Calls Tryd.prog 37 #[.pointer (some ⟨b, 0, none⟩), .bool t, pV 13 f n X A np cp] w (ApQ w B b 13 (stepO o t ⟨13, f, n, X, D⟩)) := by
  have hu : I64 f ∧ np ≤ cp ∧ cp ≤ 9223372036854775807 ∧ X.length ≤ 9223372036854775807 := ⟨hf, hnp, hcp, hX⟩
  clear hu
  obtain ⟨d, ks, s⟩ := o
  obtain ⟨m1, m2, _, _, _, hs⟩ := (mayO_iff _).1 hm
  have hnk : nk ≤ 120 := by
    have h := congrArg List.length hp.kys
    rw [List.length_map, hp.vln] at h
    rw [h]; exact m2
  have hnd : nd ≤ 64 := by
    have h := hp.dat.1
    rw [List.length_map, Nat.mul_one] at h
    rw [← h]; exact m1
  have Hbx := Lib.hid ((Below.refl w.heap.size w).alloc (Nat.le_refl _) (.cells #[.int .i64 13, .int .i64 f, .int .i64 n, .string ⟨X.toArray⟩, .slice A np cp] 38))
  have Hpt := Lib.hid (PAt.of (heap_alloc_new w (.cells #[.int .i64 13, .int .i64 f, .int .i64 n, .string ⟨X.toArray⟩, .slice A np cp] 38)))
  have Hb := Lib.hid (blk8 hb Hbx.out)
  have Hp := Lib.hid (hp.to Hbx.out)
  have HD := Lib.hid (hD.below (Hbx.out.mono hB))
  have HB := Lib.hid hbB
  have HBw := Lib.hid (Nat.le_trans hB Hbx.out.size)
  have Hbel := Lib.hid (Fr.of Hbx.out hB)
  have Hdl := Lib.hid m1
  have HDl := Lib.hid hD.1
  clear hb hp hD hbB hB hm m1 m2 Hbx
  obtain ⟨r, hr⟩ : ∃ r, r = stepO ⟨d, ks, s⟩ t ⟨13, f, n, X, D⟩ := ⟨_, rfl⟩
  have HR := Lib.hid hr
  rw [← hr]
  clear hr
  go_enter Tryd.func37, Tryd.ntmps37
  go_upto_region 1 with fail
  generalize w.alloc (.cells #[.int .i64 13, .int .i64 f, .int .i64 n, .string ⟨X.toArray⟩, .slice A np cp] 38) = w1 at Hpt Hb Hp HD HBw Hbel ⊢
  obtain ⟨c, hc⟩ : ∃ c, c = w.heap.size := ⟨_, rfl⟩
  rw [← hc] at Hpt ⊢
  clear hc
  have p0 := Hpt.out.c0
  have p1 := Hpt.out.c1
  have p2 := Hpt.out.c2
  have p3 := Hpt.out.c3
  have p4 := Hpt.out.c4
  have HE := Lib.hid (show r.2.2.2 = 0 by rw [HR.out]; rfl)
  obtain ⟨z0, z1, z2⟩ := objs_of Hb.out
  have f0 := free_blk Hb.out 0
  have f1 := free_blk Hb.out 1
  have f2 := free_blk Hb.out 2
  go_wp2_with fail
  go_ret
  refine ⟨true, 0, rfl, (fun h => by cases h), HE.out, fun _ => ?_, Hbel.out.put Hb.out (by decide) HB.out _ _ _⟩
  rw [if_pos rfl]
  exact ⟨none, 0, 0, none, 0, 0, put3_at Hb.out _ _ _, Rd.nil, by omega, RdK.nil _ _ _⟩


set_option maxRecDepth 10000 in
set_option maxHeartbeats 1000000 in
theorem kApplyNo (b : Nat) (t : Bool) (k f n : Int) (X : List UInt8) (A : Option Addr) (np cp : Nat) (w : World) (hk : k < 1 ∨ 14 < k) :
    Calls Tryd.prog 37 #[.pointer (some ⟨b, 0, none⟩), .bool t, pV k f n X A np cp] w fun e w' => e = .returned (failV false 1) ∧ Below w.heap.size w w' := by
  have Hbx := Lib.hid ((Below.refl w.heap.size w).alloc (Nat.le_refl _) (.cells #[.int .i64 k, .int .i64 f, .int .i64 n, .string ⟨X.toArray⟩, .slice A np cp] 38))
  have Hpt := Lib.hid (PAt.of (heap_alloc_new w (.cells #[.int .i64 k, .int .i64 f, .int .i64 n, .string ⟨X.toArray⟩, .slice A np cp] 38)))
  have e1 : ¬ k = 1 := by omega
  have e2 : ¬ k = 2 := by omega
  have e3 : ¬ k = 3 := by omega
  have e4 : ¬ k = 4 := by omega
  have e5 : ¬ k = 5 := by omega
  have e6 : ¬ k = 6 := by omega
  have e7 : ¬ k = 7 := by omega
  have e8 : ¬ k = 8 := by omega
  have e9 : ¬ k = 9 := by omega
  have e10 : ¬ k = 10 := by omega
  have e11 : ¬ k = 11 := by omega
  have e12 : ¬ k = 12 := by omega
  have e13 : ¬ k = 13 := by omega
  have e14 : ¬ k = 14 := by omega
  clear hk
  go_enter Tryd.func37, Tryd.ntmps37
  go_upto_region 1 with fail
  generalize w.alloc (.cells #[.int .i64 k, .int .i64 f, .int .i64 n, .string ⟨X.toArray⟩, .slice A np cp] 38) = w1 at Hpt Hbx ⊢
  obtain ⟨c, hc⟩ : ∃ c, c = w.heap.size := ⟨_, rfl⟩
  rw [← hc] at Hpt ⊢
  clear hc
  have p0 := Hpt.out.c0
  go_wp2_with fail
  go_ret
  exact ⟨rfl, Hbx.out⟩

end Go.Proofs.YtmigapjkicddiaaDoor

namespace Go.Proofs.YtmigapjkicddiaaDoor
open Go.RowKit

theorem low_ex : ∀ (ks : List Ky) (X : List UInt8), Rise ks → ∃ j, Low ks X j
  | [], X, _ => ⟨0, by simp [Low]⟩
  | k :: r, X, h => by
    have h0 := List.pairwise_cons.1 h
    by_cases hk : Op.bytesLess k.name X = true
    · obtain ⟨j, h1, h2, h3⟩ := low_ex r X h0.2
      refine ⟨j + 1, by simp; omega, ?_, by simpa using h3⟩
      intro x hx
      simp only [List.take_succ_cons, List.mem_cons] at hx
      rcases hx with rfl | hx
      · exact hk
      · exact h2 x hx
    · refine ⟨0, by simp, by simp, fun x hx => ?_⟩
      simp only [List.drop_zero, List.mem_cons] at hx
      have hk := Bool.eq_false_iff.2 hk
      rcases hx with rfl | hx
      · exact hk
      · exact bl_ge_trans hk (bl_asym (h0.1 x hx))
/-- the keys of an object that may be -/
def okKs (ks : List Ky) : Prop := ks.length ≤ 120 ∧ (∀ k ∈ ks, okK k) ∧ Rise ks
theorem may_of (o : Oj) : mayO o = true ↔ o.data.length ≤ 64 ∧ 0 ≤ o.seq ∧ o.seq ≤ 1099511627776 ∧ okKs o.keys := by
  rw [mayO_iff]
  unfold okKs
  exact ⟨fun h => ⟨h.1, h.2.2.1, h.2.2.2.1, h.2.1, h.2.2.2.2⟩, fun h => ⟨h.1, h.2.2.2.1, h.2.1, h.2.2.1, h.2.2.2.2⟩⟩
theorem ok_drop {ks : List Ky} {X : List UInt8} (h : okKs ks) : okKs (dropK ks X) :=
  ⟨Nat.le_trans (List.length_filter_le _ _) h.1, fun k hk => h.2.1 k (List.mem_filter.1 hk).1, List.Pairwise.filter _ h.2.2⟩
theorem isAt_iff {ks : List Ky} {X : List UInt8} {j : Nat} : isAt ks X j = true ↔ ∃ h : j < ks.length, ks[j].name = X := by
  unfold isAt
  rcases Nat.lt_or_ge j ks.length with h | h
  · rw [List.getElem?_eq_getElem h]
    simp [h]
  · rw [List.getElem?_eq_none h]
    simp
    omega
theorem ok_put {ks : List Ky} {X v : List UInt8} (h : okKs ks) (hn : nameB X = true) (hv : v.length ≤ 2048) (hl : ks.length < 120 ∨ (getK ks X).isSome = true) : okKs (putK ks X v) := by
  obtain ⟨j, hj⟩ := low_ex ks X h.2.2
  have hg := hj.get h.2.2
  rw [hj.put h.2.2 v]
  have hjl := hj.1
  have hrise := h.2.2
  cases hi : isAt ks X j
  · rw [if_neg (by simp)]
    rw [hi, if_neg (by simp)] at hg
    have hne : ∀ k ∈ ks.drop j, ¬ k.name = X := by
      intro k hk e
      rcases Nat.lt_or_ge j ks.length with hl2 | hl2
      · rw [List.drop_eq_getElem_cons hl2] at hk
        rcases List.mem_cons.1 hk with rfl | hk
        · have := isAt_iff.2 ⟨hl2, e⟩
          rw [hi] at this
          cases this
        · exact hj.ne_after hrise k hk e
      · rw [List.drop_of_length_le hl2] at hk
        cases hk
    refine ⟨?_, ?_, ?_⟩
    · rw [hg] at hl
      simp at hl ⊢
      omega
    · intro k hk
      rcases List.mem_append.1 hk with hk | hk
      · exact h.2.1 k (List.mem_of_mem_take hk)
      · rcases List.mem_cons.1 hk with rfl | hk
        · exact ⟨hn, hv⟩
        · exact h.2.1 k (List.mem_of_mem_drop hk)
    · have gt : ∀ k ∈ ks.drop j, Op.bytesLess X k.name = true := fun k hk => by
        cases hx : Op.bytesLess X k.name
        · exact absurd (bl_tri _ _ (hj.2.2 k hk) hx) (hne k hk)
        · rfl
      refine List.pairwise_append.2 ⟨List.Pairwise.sublist (List.take_sublist _ _) hrise, List.pairwise_cons.2 ⟨gt, List.Pairwise.sublist (List.drop_sublist _ _) hrise⟩, ?_⟩
      intro a ha b hb
      have h1 := hj.2.1 a ha
      rcases List.mem_cons.1 hb with rfl | hb
      · exact h1
      · exact bl_trans _ _ _ h1 (gt b hb)
  · rw [if_pos rfl]
    obtain ⟨hl2, hx⟩ := isAt_iff.1 hi
    have gt : ∀ k ∈ ks.drop (j + 1), Op.bytesLess X k.name = true := fun k hk => by
      have := hrise.drop_gt hl2 k hk
      rwa [hx] at this
    refine ⟨?_, ?_, ?_⟩
    · have := h.1
      simp
      omega
    · intro k hk
      rcases List.mem_append.1 hk with hk | hk
      · exact h.2.1 k (List.mem_of_mem_take hk)
      · rcases List.mem_cons.1 hk with rfl | hk
        · exact ⟨hn, hv⟩
        · exact h.2.1 k (List.mem_of_mem_drop hk)
    · refine List.pairwise_append.2 ⟨List.Pairwise.sublist (List.take_sublist _ _) hrise, List.pairwise_cons.2 ⟨gt, List.Pairwise.sublist (List.drop_sublist _ _) hrise⟩, ?_⟩
      intro a ha b hb
      have h1 := hj.2.1 a ha
      rcases List.mem_cons.1 hb with rfl | hb
      · exact h1
      · exact bl_trans _ _ _ h1 (gt b hb)
theorem ok_set {ks : List Ky} {X v : List UInt8} (h : okKs ks) : okKs (setK ks X v).1 := by
  unfold setK
  split
  · rename_i q
    exact ok_put h q.1 q.2.1 q.2.2
  · exact h
theorem ok_clone {ks : List Ky} {X d : List UInt8} (h : okKs ks) : okKs (cloneK ks X d).1 := by
  unfold cloneK
  split
  · exact h
  · exact ok_set h
theorem data_len {d x : List UInt8} {p : Opr} (h : d.length ≤ 64) (hx : dataO d p = some x) : x.length ≤ 64 := by
  unfold dataO at hx
  split at hx
  · split at hx
    · cases hx
    · rename_i q
      obtain rfl := Option.some.inj hx
      unfold wrO
      rw [wrJ_len]
      simp only [not_or] at q
      omega
  · split at hx
    · split at hx
      · cases hx
      · obtain rfl := Option.some.inj hx
        rw [zerJ_len]
        exact h
    · split at hx
      · cases hx
      · obtain rfl := Option.some.inj hx
        rw [List.length_take]
        omega
/-- an op that fails not keeps what may be -/
theorem step_may {o : Oj} {t : Bool} {p : Opr} (h : mayO o = true) (he : (stepO o t p).2.2.2 = 0) : mayO (stepO o t p).1 = true := by
  have hm := (may_of o).1 h
  unfold stepO at he ⊢
  split at he
  · rw [if_pos (by assumption)]; exact h
  rw [if_neg (by assumption)]
  split at he
  · rw [if_pos (by assumption)]
    cases hd : dataO o.data p with
    | none => rw [hd] at he; exact absurd he (by decide : ¬ ((2 : Int) = 0))
    | some x => exact (may_of _).2 ⟨data_len hm.1 hd, hm.2.1, hm.2.2.1, hm.2.2.2⟩
  rw [if_neg (by assumption)]
  split at he
  · rw [if_pos (by assumption)]
    have he : (if p.data.length > 64 then (2 : Int) else 0) = 0 := he
    split at he
    · exact absurd he (by decide)
    · exact (may_of _).2 ⟨by show p.data.length ≤ 64; omega, hm.2.1, hm.2.2.1, hm.2.2.2⟩
  rw [if_neg (by assumption)]
  split at he
  · rw [if_pos (by assumption)]; exact (may_of _).2 ⟨hm.1, hm.2.1, hm.2.2.1, ok_set hm.2.2.2⟩
  rw [if_neg (by assumption)]
  split at he
  · rw [if_pos (by assumption)]; exact (may_of _).2 ⟨hm.1, hm.2.1, hm.2.2.1, ok_drop hm.2.2.2⟩
  rw [if_neg (by assumption)]
  split at he
  · rw [if_pos (by assumption)]; exact (may_of _).2 ⟨hm.1, hm.2.1, hm.2.2.1, ok_clone hm.2.2.2⟩
  rw [if_neg (by assumption)]
  split at he
  · rw [if_pos (by assumption)]
    have he : (if p.n < 0 ∨ p.n > 1099511627776 then (2 : Int) else 0) = 0 := he
    split at he
    · exact absurd he (by decide)
    · rename_i q
      simp only [not_or] at q
      exact (may_of _).2 ⟨hm.1, by show 0 ≤ p.n; omega, by show p.n ≤ 1099511627776; omega, hm.2.2.2⟩
  rw [if_neg (by assumption)]
  split at he
  · rw [if_pos (by assumption)]; exact h
  rw [if_neg (by assumption)]
  have he : (if (atK o.data o.keys p.name).length > 64 then (2 : Int) else 0) = 0 := he
  split at he
  · exact absurd he (by decide)
  · exact (may_of _).2 ⟨by show (atK o.data o.keys p.name).length ≤ 64; omega, hm.2.1, hm.2.2.1, hm.2.2.2⟩
/-- whatever Do tells may be -/
theorem do_may (o : Oj) (t : Bool) (p : Opr) : mayO (doO o t p).1 = true := by
  have h0 : mayO oj0 = true := by decide
  unfold doO
  by_cases q : mayO o = true ∧ 1 ≤ p.k ∧ p.k ≤ 14
  · rw [if_pos q]
    unfold endO
    have hO : mayO (if t = true then o else oj0) = true := by
      cases t
      · exact h0
      · exact q.1
    generalize (if t = true then o else oj0) = O at hO
    by_cases he : (stepO O t p).2.2.2 = 0
    · rw [if_pos he]
      show mayO (if (stepO O t p).2.1 = true then (stepO O t p).1 else oj0) = true
      split
      · exact step_may hO he
      · exact h0
    · rw [if_neg he]
      exact h0
  · rw [if_neg q]
    exact h0
end Go.Proofs.YtmigapjkicddiaaDoor
