/- Package object: what an op leaves in an object's block; set, setSeq, cut. Package object: zero. Package object: write. Package object: keyIs, setKey. Package object: Read. -/
import Derived.Test.YtmigapjkicddiaaDoorMk
import Derived.StillTailTactics
import Derived.Deep.DeepCutAuto
import Derived.Deep.Cut
import Derived.Deep.RegionHeld3

namespace Go.Proofs.YtmigapjkicddiaaDoor
open Go.RowKit

/-- keys in memory of the call's own, their values behind M -/
structure KPart (w : World) (B M : Nat) (ks : List Ky) (Ak : Option Addr) (nk ck : Nat) (vs : List Kv) : Prop where
  key : w.ownsRow B 48 2 (.slice Ak nk ck) nk (flatK vs)
  kys : vs.map Kv.k = ks
  vln : vs.length = nk
  val : ∀ p ∈ vs, w.ownsRow M 5 1 (.slice p.A p.n p.c) p.n (p.k.val.map bv)
  nam : ∀ p ∈ vs, p.k.name.length ≤ 9223372036854775807
section
variable {w w' : World} {B M : Nat} {ks : List Ky} {o : Oj} {Ad Ak : Option Addr} {nd cd nk ck : Nat} {vs : List Kv}
theorem Parts.kpart (h : Parts w B M o Ad nd cd Ak nk ck vs) : KPart w B M o.keys Ak nk ck vs := ⟨h.key, h.kys, h.vln, h.val, h.nam⟩
theorem KPart.to (h : KPart w B M ks Ak nk ck vs) (hb : Below w.heap.size w w') : KPart w' B M ks Ak nk ck vs := ⟨own_to8 h.key hb, h.kys, h.vln, fun p hp => own_to8 (h.val p hp) hb, h.nam⟩
set_option maxRecDepth 10000 in
theorem KPart.setb (h : KPart w B M ks Ak nk ck vs) {R : Nat} {cs : Array Value} (hR : w.heap[R]? = some (.cells cs 25 (0, 0))) (k : Nat) (u : Value) : KPart (w.setCell ⟨R, k, none⟩ u) B M ks Ak nk ck vs :=
  ⟨own_setb8 h.key hR (by decide) k u, h.kys, h.vln, fun p hp => own_setb8 (h.val p hp) hR (by decide) k u, h.nam⟩
theorem KPart.kv (h : KPart w B M ks Ak nk ck vs) : ∀ p ∈ vs, KvAt w w.heap.size p := fun p hp => by
  have h1 := own_len8 (h.val p hp)
  exact ⟨Rd.own (h.val p hp), by omega, h.nam p hp⟩
theorem KPart.rdk (h : KPart w B M ks Ak nk ck vs) : RdK w w.heap.size Ak nk ks := by
  rw [← h.kys]
  exact RdK.own h.key h.vln h.kv
end
/-- an object's value that can be read, and its data's room -/
def OjC (w : World) (o : Oj) (v : Value) : Prop :=
  ∃ Ad nd cd Ak nk ck, v = oV Ad nd cd Ak nk ck o.seq ∧ Rd w w.heap.size Ad nd o.data ∧ (nd ≤ cd ∧ cd ≤ 9223372036854775807) ∧ RdK w w.heap.size Ak nk o.keys
theorem OjC.at {w : World} {o : Oj} {v : Value} (h : OjC w o v) : OjAt w o v := by
  obtain ⟨Ad, nd, cd, Ak, nk, ck, h1, h2, h3, h4⟩ := h
  exact ⟨Ad, nd, cd, Ak, nk, ck, h1, h2, by omega, h4⟩
theorem OjC.to {w w' : World} {o : Oj} {v : Value} (h : OjC w o v) (hb : Below w.heap.size w w') : OjC w' o v := by
  obtain ⟨Ad, nd, cd, Ak, nk, ck, h1, h2, h3, h4⟩ := h
  exact ⟨Ad, nd, cd, Ak, nk, ck, h1, (h2.below hb).more hb.size, h3, (h4.below hb).more hb.size⟩
set_option maxRecDepth 10000 in
/-- block b holds an object that can be read -/
def ObE (w : World) (b : Nat) (o : Oj) : Prop :=
  ∃ Ad nd cd Ak nk ck, w.heap[b]? = some (.cells #[.slice Ad nd cd, .slice Ak nk ck, .int .i64 o.seq] 25 (0, 0)) ∧ Rd w w.heap.size Ad nd o.data ∧ (nd ≤ cd ∧ cd ≤ 9223372036854775807) ∧ RdK w w.heap.size Ak nk o.keys
set_option maxRecDepth 10000 in
/-- what lay below B is as it was, and so are the blocks of errors -/
def Fr (B : Nat) (w w' : World) : Prop := Below B w w' ∧ ∀ (x : Nat) (cs : Array Value), w.heap[x]? = some (.cells cs 28 (0, 0)) → w'.heap[x]? = some (.cells cs 28 (0, 0))
section
variable {B : Nat} {w w' w'' : World}
theorem Fr.refl (B : Nat) (w : World) : Fr B w w := ⟨Below.refl _ _, fun _ _ h => h⟩
theorem Fr.of (h : Below w.heap.size w w') (hB : B ≤ w.heap.size) : Fr B w w' := ⟨h.mono hB, fun _ _ hx => blk8 hx h⟩
theorem Fr.trans (h : Fr B w w') (h' : Fr B w' w'') : Fr B w w'' := ⟨h.1.trans h'.1, fun x cs hx => h'.2 x cs (h.2 x cs hx)⟩
theorem Fr.drew (B : Nat) (w : World) : Fr B w w.drew := ⟨below_drewN (Below.refl B w) 1, fun _ _ h => h⟩
set_option maxRecDepth 10000 in
theorem Fr.set {b : Nat} {t : TypeId} {cs : Array Value} (h : Fr B w w') (hb : w'.heap[b]? = some (.cells cs t (0, 0))) (hne : 28 ≠ t) (hB : B ≤ b) (k : Nat) (u : Value) : Fr B w (w'.setCell ⟨b, k, none⟩ u) :=
  ⟨h.1.setCell (p := ⟨b, k, none⟩) hB u, fun x cs' hx => (Below.heap_setCell w' ⟨b, k, none⟩ u x (cells_ne8 (h.2 x cs' hx) hb hne)).trans (h.2 x cs' hx)⟩
set_option maxRecDepth 10000 in
theorem Fr.row {g : Nat} {t : TypeId} {cs : Array Value} (h : Fr B w w') (hb : w'.heap[g]? = some (.cells cs t (0, 0))) (hne : 28 ≠ t) (hB : B ≤ g) (X : Array Value) : Fr B w (w'.setRow g X) :=
  ⟨below_setRow h.1 hB X, fun x cs' hx => (setRow_other w' g x X (cells_ne8 (h.2 x cs' hx) hb hne)).trans (h.2 x cs' hx)⟩
set_option maxRecDepth 10000 in
theorem Fr.put {z : Nat} {t : TypeId} {cs : Array Value} (h : Fr B w w') (hb : w'.heap[z]? = some (.cells cs t (0, 0))) (hne : 28 ≠ t) (hB : B ≤ z) (v0 v1 v2 : Value) : Fr B w (put3 w' z v0 v1 v2) := by
  refine ⟨put3_below h.1 hB v0 v1 v2, fun x cs' hx => ?_⟩
  have hg := cells_ne8 (h.2 x cs' hx) hb hne
  show (((w'.setCell ⟨z, 0, none⟩ v0).setCell ⟨z, 1, none⟩ v1).setCell ⟨z, 2, none⟩ v2).heap[x]? = _
  rw [Below.heap_setCell _ ⟨z, 2, none⟩ _ x hg, Below.heap_setCell _ ⟨z, 1, none⟩ _ x hg, Below.heap_setCell _ ⟨z, 0, none⟩ _ x hg]
  exact h.2 x cs' hx
end
/-- what an op on an object's block tells -/
def ApB (w : World) (B b : Nat) (ok : Bool) (o : Oj) (e : Ending) (w' : World) : Prop := e = .returned (.bool ok) ∧ Hid (ok = true → ObE w' b o) ∧ Hid (Fr B w w')
theorem part0 (n : Nat) : partB 0 (n : Int) = decide (n ≤ 64) := by
  unfold partB
  rw [Bool.eq_iff_iff]
  simp
  omega
set_option maxRecDepth 10000 in
theorem own_rd8 {w : World} {B n c : Nat} {A : Option Addr} {l : List UInt8} (h : w.ownsRow B 5 1 (.slice A n c) n (l.map bv)) : Rd w w.heap.size A n l ∧ n ≤ c ∧ c ≤ 9223372036854775807 := ⟨Rd.own h, own_len8 h⟩

set_option maxRecDepth 10000 in
set_option maxHeartbeats 1000000 in
theorem kSetSeq (b : Nat) (d : List UInt8) (ks : List Ky) (s n : Int) (B M : Nat) (Ad Ak : Option Addr) (nd cd nk ck : Nat) (vs : List Kv) (w : World) (hbB : B ≤ b)
    (hb : w.heap[b]? = some (.cells #[.slice Ad nd cd, .slice Ak nk ck, .int .i64 s] 25 (0, 0))) (hp : Parts w B M ⟨d, ks, s⟩ Ad nd cd Ak nk ck vs) :
    Calls Tryd.prog 54 #[.pointer (some ⟨b, 0, none⟩), .int .i64 n] w (ApB w B b (decide (0 ≤ n) && decide (n ≤ 1099511627776)) ⟨d, ks, n⟩) := by
  have HS := Lib.hid (kSeq n w)
  obtain ⟨q, hq⟩ : ∃ q, q = (decide (0 ≤ n) && decide (n ≤ 1099511627776)) := ⟨_, rfl⟩
  rw [← hq] at HS ⊢
  have Hb := Lib.hid hb
  have Hd := Lib.hid hp.dat
  have Hk := Lib.hid hp.kpart
  obtain ⟨z0, z1, z2⟩ := objs_of hb
  have f2 := free_blk hb 2
  have HB := Lib.hid hbB
  clear hq hb hp
  cases q
  · go_enter Tryd.func54, Tryd.ntmps54
    go_wp2_with fail
    refine HS.out.mono ?_
    rintro e w' ⟨rfl, hw⟩
    obtain rfl := hw.symm
    go_wp2_with fail
    go_ret
    exact ⟨rfl, (fun h => by cases h), Fr.refl _ _⟩
  · go_enter Tryd.func54, Tryd.ntmps54
    go_wp2_with fail
    refine HS.out.mono ?_
    rintro e w' ⟨rfl, hw⟩
    obtain rfl := hw.symm
    go_wp2_with fail
    go_ret
    have hd := own_rd8 (own_setb8 Hd.out Hb.out (by decide) 2 (.int .i64 n))
    exact ⟨rfl, (fun _ => ⟨Ad, nd, cd, Ak, nk, ck, set_blk Hb.out 2 _, hd.1, hd.2, (Hk.out.setb Hb.out 2 (.int .i64 n)).rdk⟩), (Fr.refl B w).set Hb.out (by decide) HB.out 2 _⟩

set_option maxRecDepth 10000 in
set_option maxHeartbeats 1000000 in
theorem kSet (b : Nat) (d : List UInt8) (ks : List Ky) (s : Int) (B M : Nat) (Ad Ak : Option Addr) (nd cd nk ck : Nat) (vs : List Kv) (A : Option Addr) (np cp L : Nat) (D : List UInt8) (w : World) (hbB : B ≤ b)
    (hb : w.heap[b]? = some (.cells #[.slice Ad nd cd, .slice Ak nk ck, .int .i64 s] 25 (0, 0))) (hp : Parts w B M ⟨d, ks, s⟩ Ad nd cd Ak nk ck vs) (hD : Rd w L A np D) (hL : L ≤ w.heap.size) (hB : B ≤ w.heap.size) :
    Calls Tryd.prog 50 #[.pointer (some ⟨b, 0, none⟩), .slice A np cp] w (ApB w B b (decide (np ≤ 64)) ⟨D, ks, s⟩) := by
  have HS := Lib.hid (kPart 0 np w ⟨by decide, by decide⟩)
  rw [part0] at HS
  have Hb := Lib.hid hb
  have Hk := Lib.hid hp.kpart
  have HB := Lib.hid hbB
  have HBw := Lib.hid hB
  by_cases h64 : np ≤ 64
  · have HC := Lib.hid ((kClone A np cp L D w hD hL (by omega)).mono fun _ _ h => h.out8 hD.1)
    rw [decide_eq_true h64] at HS ⊢
    clear hb hp hbB hD hL hB
    go_enter Tryd.func50, Tryd.ntmps50
    go_wp2_with fail
    refine HS.out.mono ?_
    rintro e w' ⟨rfl, hw⟩
    obtain rfl := hw.symm
    go_wp2_with fail
    refine HC.out.mono ?_
    rintro e w3 ⟨A3, c3, rfl, H3, hb3⟩
    have Hb3 := Lib.hid (blk8 Hb.out hb3.out)
    have Hk3 := Lib.hid (Hk.out.to hb3.out)
    obtain ⟨z0, z1, z2⟩ := objs_of Hb3.out
    have f0 := free_blk Hb3.out 0
    go_wp2_with fail
    go_ret
    have hd := own_rd8 (own_setb8 H3.out Hb3.out (by decide) 0 (.slice A3 np c3))
    exact ⟨rfl, (fun _ => ⟨A3, np, c3, Ak, nk, ck, set_blk Hb3.out 0 _, hd.1, hd.2, (Hk3.out.setb Hb3.out 0 (.slice A3 np c3)).rdk⟩), (Fr.of hb3.out HBw.out).set Hb3.out (by decide) HB.out 0 _⟩
  · rw [decide_eq_false h64] at HS ⊢
    clear hb hp hbB hD hL hB
    go_enter Tryd.func50, Tryd.ntmps50
    go_wp2_with fail
    refine HS.out.mono ?_
    rintro e w' ⟨rfl, hw⟩
    obtain rfl := hw.symm
    go_wp2_with fail
    go_ret
    exact ⟨rfl, (fun h => by cases h), Fr.refl _ _⟩
theorem own_cutB8 {w : World} {B n c m : Nat} {e : TypeId} {A : Option Addr} {d : List UInt8} (h : w.ownsRow B e 1 (.slice A n c) n (d.map bv)) (hm : m ≤ n) : w.ownsRow B e 1 (.slice A m c) m ((d.take m).map bv) := by
  have hl : d.length = n := by have := h.1; simp at this; omega
  rcases h.2 with ⟨h1, h2⟩ | ⟨g, cap, cur, h1, h2, h3, h4, h5, h6, h7⟩
  · obtain rfl : m = 0 := by omega
    cases h1
    exact ⟨rfl, .inl ⟨rfl, rfl⟩⟩
  · cases h1
    refine ⟨by simp; omega, .inr ⟨g, c, cur, rfl, h2, h3, by omega, h5, h6, ?_⟩⟩
    have : (cur.toList.take (n * 1)).take (m * 1) = (d.map bv).take (m * 1) := by rw [h7]
    rw [List.take_take, Nat.min_eq_left (by omega)] at this
    rw [this, List.map_take, Nat.mul_one]
set_option maxRecDepth 10000 in
set_option maxHeartbeats 1000000 in
theorem kCut (b : Nat) (d : List UInt8) (ks : List Ky) (s n : Int) (B M : Nat) (Ad Ak : Option Addr) (nd cd nk ck : Nat) (vs : List Kv) (w : World) (hbB : B ≤ b)
    (hb : w.heap[b]? = some (.cells #[.slice Ad nd cd, .slice Ak nk ck, .int .i64 s] 25 (0, 0))) (hp : Parts w B M ⟨d, ks, s⟩ Ad nd cd Ak nk ck vs) :
    Calls Tryd.prog 49 #[.pointer (some ⟨b, 0, none⟩), .int .i64 n] w (ApB w B b (partB 0 n) ⟨d.take n.toNat, ks, s⟩) := by
  have HS := Lib.hid (kPart 0 n w ⟨by decide, by decide⟩)
  have Hb := Lib.hid hb
  have Hd := Lib.hid hp.dat
  have Hk := Lib.hid hp.kpart
  have HB := Lib.hid hbB
  have hlen := own_len8 hp.dat
  have hnc := hlen.1
  have hcm := hlen.2
  by_cases hq : 0 ≤ n ∧ n ≤ 64
  · obtain ⟨h1, h2⟩ := hq
    obtain ⟨N, rfl⟩ := Int.eq_ofNat_of_zero_le h1
    have he : partB 0 (N : Int) = true := by rw [part0]; exact decide_eq_true (by omega)
    rw [he] at HS ⊢
    have Hl := Lib.hid (show d.length = nd by have := hp.dat.1; simp at this; omega)
    obtain ⟨z0, z1, z2⟩ := objs_of hb
    have f0 := free_blk hb 0
    rcases Nat.lt_or_ge nd N with hlt | hge
    · have Hdt := Lib.hid (show d = d.take N by rw [List.take_of_length_le (by rw [Hl.out]; omega)])
      clear hb hp hbB he h1
      go_enter Tryd.func49, Tryd.ntmps49
      go_wp2_with fail
      refine HS.out.mono ?_
      rintro e w' ⟨rfl, hw⟩
      obtain rfl := hw.symm
      go_upto_region 3 with fail
      go_still_tail 15, (by kernel_rfl)
      change wpList _ _ _ _ _ w.drew
      have Hd2 : Hid (w.drew.ownsRow B 5 1 (.slice Ad nd cd) nd (d.map bv)) := Hd.out
      have Hb2 : Hid (w.drew.heap[b]? = some (.cells #[.slice Ad nd cd, .slice Ak nk ck, .int .i64 s] 25 (0, 0))) := Hb.out
      have Hk2 : Hid (KPart w.drew B M ks Ak nk ck vs) := ⟨Hk.out.key, Hk.out.kys, Hk.out.vln, Hk.out.val, Hk.out.nam⟩
      have Hbe : Hid (Fr B w w.drew) := Fr.drew B w
      clear z0 z1 z2 f0 Hd Hb Hk HS
      generalize w.drew = w2 at Hd2 Hb2 Hk2 Hbe ⊢
      obtain ⟨z0, z1, z2⟩ := objs_of Hb2.out
      have f0 := free_blk Hb2.out 0
      go_wp2_with fail
      go_ret
      have hd := own_rd8 (own_setb8 Hd2.out Hb2.out (by decide) 0 (.slice Ad nd cd))
      exact ⟨rfl, (fun _ => ⟨Ad, nd, cd, Ak, nk, ck, set_blk Hb2.out 0 _, by show Rd _ _ _ _ (d.take N); rw [← Hdt.out]; exact hd.1, hd.2, (Hk2.out.setb Hb2.out 0 (.slice Ad nd cd)).rdk⟩), Hbe.out.set Hb2.out (by decide) HB.out 0 _⟩
    · have Hdm := Lib.hid (own_cutB8 hp.dat (m := N) hge)
      have hNc : (N : Int) ≤ (cd : Int) := by omega
      have hNl : ¬ nd < N := by omega
      have hNc2 : N ≤ cd := by omega
      have hN0 : (0 : Int) ≤ (N : Int) := by omega
      clear hb hp hbB he h1
      go_enter Tryd.func49, Tryd.ntmps49
      go_wp2_with fail
      refine HS.out.mono ?_
      rintro e w' ⟨rfl, hw⟩
      obtain rfl := hw.symm
      go_upto_region 3 with fail
      go_still_tail 15, (by kernel_rfl)
      change wpList _ _ _ _ _ w.drew
      have Hd2 : Hid (w.drew.ownsRow B 5 1 (.slice Ad N cd) N ((d.take N).map bv)) := Hdm.out
      have Hb2 : Hid (w.drew.heap[b]? = some (.cells #[.slice Ad nd cd, .slice Ak nk ck, .int .i64 s] 25 (0, 0))) := Hb.out
      have Hk2 : Hid (KPart w.drew B M ks Ak nk ck vs) := ⟨Hk.out.key, Hk.out.kys, Hk.out.vln, Hk.out.val, Hk.out.nam⟩
      have Hbe : Hid (Fr B w w.drew) := Fr.drew B w
      clear z0 z1 z2 f0 Hd Hdm Hb Hk HS
      generalize w.drew = w2 at Hd2 Hb2 Hk2 Hbe ⊢
      obtain ⟨z0, z1, z2⟩ := objs_of Hb2.out
      have f0 := free_blk Hb2.out 0
      go_wp2_with fail
      go_ret
      have hd := own_rd8 (own_setb8 Hd2.out Hb2.out (by decide) 0 (.slice Ad N cd))
      exact ⟨rfl, (fun _ => ⟨Ad, N, cd, Ak, nk, ck, set_blk Hb2.out 0 _, hd.1, hd.2, (Hk2.out.setb Hb2.out 0 (.slice Ad N cd)).rdk⟩), Hbe.out.set Hb2.out (by decide) HB.out 0 _⟩
  · have he : partB 0 n = false := by unfold partB; rw [Bool.eq_false_iff]; simp; omega
    rw [he] at HS ⊢
    clear hb hp hbB he
    go_enter Tryd.func49, Tryd.ntmps49
    go_wp2_with fail
    refine HS.out.mono ?_
    rintro e w' ⟨rfl, hw⟩
    obtain rfl := hw.symm
    go_wp2_with fail
    go_ret
    exact ⟨rfl, (fun h => by cases h), Fr.refl _ _⟩
end Go.Proofs.YtmigapjkicddiaaDoor

namespace Go.Proofs.YtmigapjkicddiaaDoor
open Go.RowKit

theorem own_row8 {w : World} {B n s g : Nat} {e : TypeId} {v : Value} {xs : List Value} {X : Array Value} (h : w.ownsRow B e s v n xs) (hne : ∀ k, v.ownBlock = some k → k ≠ g) : (w.setRow g X).ownsRow B e s v n xs := by
  refine ⟨h.1, ?_⟩
  rcases h.2 with h | ⟨g', cap, cur, h1, h2, h3, h4⟩
  · exact .inl h
  · exact .inr ⟨g', cap, cur, h1, h2, (setRow_other w g g' X (hne g' (by rw [h1]; rfl))).trans h3, h4⟩
theorem own_lo8 {w : World} {B n s g : Nat} {e : TypeId} {v : Value} {xs : List Value} (h : w.ownsRow B e s v n xs) (hg : g < B) : ∀ k, v.ownBlock = some k → k ≠ g := fun k hk => by
  have := (h.lt k hk).1
  omega
theorem own_ty8 {w : World} {B n s g : Nat} {e t : TypeId} {v : Value} {xs : List Value} {cs : Array Value} (h : w.ownsRow B e s v n xs) (hg : w.heap[g]? = some (.cells cs t (0, 0))) (hne : e ≠ t) : ∀ k, v.ownBlock = some k → k ≠ g := fun k hk => by
  rcases h.2 with ⟨h, _⟩ | ⟨g', cap, cur, h1, h2, h3, h4⟩
  · rw [h] at hk; cases hk
  · rw [h1] at hk
    injection hk with hk
    have hk : g' = k := hk
    subst hk
    exact cells_ne8 h3 hg hne
set_option maxRecDepth 10000 in
theorem KPart.row {w : World} {B M : Nat} {ks : List Ky} {Ak : Option Addr} {nk ck : Nat} {vs : List Kv} (h : KPart w B M ks Ak nk ck vs) {g : Nat} {cs : Array Value} (hg : w.heap[g]? = some (.cells cs 5 (0, 0))) (hM : g < M) (X : Array Value) : KPart (w.setRow g X) B M ks Ak nk ck vs :=
  ⟨own_row8 h.key (own_ty8 h.key hg (by decide)), h.kys, h.vln, fun p hp => own_row8 (h.val p hp) (own_lo8 (h.val p hp) hM), h.nam⟩
theorem zer_row (d : List UInt8) (cur : List Value) (F N L nd : Nat) (hd : d.length = nd) (hc : cur.take nd = d.map bv) (hL : F + L = min (F + N) nd) (hnd : nd ≤ cur.length) :
    (cur.take F ++ List.replicate L (Value.int IntKind.u8 0) ++ cur.drop (F + L)).take nd = (zerJ d F N).map bv := by
  apply List.ext_getElem
  · simp [zerJ]; omega
  intro i h1 h2
  have hi : i < nd := by simp [zerJ] at h2; omega
  have hci : cur[i]'(by omega) = bv (d[i]'(by omega)) := by
    have e : (cur.take nd)[i]'(by simp; omega) = (d.map bv)[i]'(by simp; omega) := by congr 1
    simpa using e
  rw [List.getElem_take, List.getElem_map]
  simp only [zerJ, List.getElem_map, List.getElem_range, List.getElem_append, List.getElem_take, List.getElem_drop, List.getElem_replicate, List.length_append, List.length_take, List.length_replicate]
  by_cases hF : F ≤ i ∧ i < F + N
  · rw [if_pos hF]
    (repeat' split) <;> first | rfl | (exfalso; omega)
  · rw [if_neg hF, byteO_lt (by omega), ← hci]
    (repeat' split) <;> first | rfl | (exfalso; omega) | (congr 1; omega)
theorem zer_none (d : List UInt8) (F N : Nat) (h : d.length ≤ F ∨ N = 0) : zerJ d F N = d := by
  rcases h with h | rfl
  · have e := zerJ_stop d F 0 N (by omega) (Nat.zero_le _)
    rw [zerJ_zero] at e
    exact e.symm
  · exact zerJ_zero d F
set_option maxRecDepth 10000 in
theorem clear_none8 (w : World) (ty : TypeId) (p : Option Addr) (c : Nat) : (Builtin.clear_ #[22] ty #[.slice p 0 c]).run Tryd.prog w = .ok (.tuple #[]) w := by
  cases p <;> simp [Builtin.clear_, run_underlying Tryd.underlying22]
set_option maxRecDepth 10000 in
theorem clear_row8 (w : World) (ty : TypeId) (g o L c : Nat) (cur : Array Value) (hg : w.heap[g]? = some (.cells cur 5 (0, 0))) (hL : 0 < L) (hfit : o + L ≤ cur.size) :
    (Builtin.clear_ #[22] ty #[.slice (some ⟨g, o, none⟩) L c]).run Tryd.prog w = .ok (.tuple #[]) (w.setRow g (cur.toList.take o ++ List.replicate L (Value.int IntKind.u8 0) ++ cur.toList.drop (o + L)).toArray) := by
  obtain ⟨i, hi, hz0, hz1, hz2⟩ := info_parts Tryd.infoB
  have hst := run_storeCells_at Tryd.prog g o 5 (List.replicate L (Value.int .u8 0)) 0 cur w hg (by simpa using hfit) (by intro v hv; rw [(List.mem_replicate.1 hv).2]; rfl)
  have hz : (Builtin.zeroCells (Value.int .u8 0).cells L).toList = List.replicate L (Value.int .u8 0) := by
    apply List.ext_getElem
    · simp [Builtin.zeroCells, Value.cells]
    · intro i h1 h2
      simp [Builtin.zeroCells, Value.cells, Nat.mod_one]
  obtain ⟨K, rfl⟩ : ∃ K, L = K + 1 := ⟨L - 1, by omega⟩
  simp only [Nat.add_zero, List.length_replicate] at hst
  simp only [Builtin.clear_]
  simp [run_underlying Tryd.underlying22, zeroValue, typeInfo, hi, hz0, hz, hst]

set_option maxRecDepth 10000 in
set_option maxHeartbeats 1000000 in
theorem kZero (b : Nat) (d : List UInt8) (ks : List Ky) (s f n : Int) (B M : Nat) (Ad Ak : Option Addr) (nd cd nk ck : Nat) (vs : List Kv) (w : World) (hbB : B ≤ b) (hf : I64 f)
    (hb : w.heap[b]? = some (.cells #[.slice Ad nd cd, .slice Ak nk ck, .int .i64 s] 25 (0, 0))) (hp : Parts w B M ⟨d, ks, s⟩ Ad nd cd Ak nk ck vs) :
    Calls Tryd.prog 48 #[.pointer (some ⟨b, 0, none⟩), .int .i64 f, .int .i64 n] w (ApB w B b (partB f n) ⟨zerJ d f.toNat n.toNat, ks, s⟩) := by
  have HS := Lib.hid (kPart f n w hf)
  have Hb := Lib.hid hb
  have Hd := Lib.hid hp.dat
  have Hk := Lib.hid hp.kpart
  have HB := Lib.hid hbB
  have hlen := own_len8 hp.dat
  have hnc := hlen.1
  have hcm := hlen.2
  have Hl := Lib.hid (show d.length = nd by have := hp.dat.1; simp at this; omega)
  by_cases hq : 0 ≤ f ∧ 0 ≤ n ∧ f + n ≤ 64
  · obtain ⟨h1, h2, h3⟩ := hq
    obtain ⟨F, rfl⟩ := Int.eq_ofNat_of_zero_le h1
    obtain ⟨N, rfl⟩ := Int.eq_ofNat_of_zero_le h2
    have he : partB (F : Int) (N : Int) = true := by unfold partB; simp; omega
    rw [he] at HS ⊢
    have hclr := clear_none8 w
    obtain ⟨z0, z1, z2⟩ := objs_of hb
    have hF0 : (0 : Int) ≤ (F : Int) := by omega
    have hwr : IntKind.i64.wrap ((F : Int) + (N : Int)) = (F : Int) + (N : Int) := by rw [IntKind.wrap_i64]; omega
    have hstay : ∀ (w2 : World), w2 = w → zerJ d F N = d → ApB w B b true ⟨zerJ d F N, ks, s⟩ (.returned (.bool true)) w2 := fun w2 e hz => by
      subst e
      have hd := own_rd8 hp.dat
      exact ⟨rfl, fun _ => ⟨Ad, nd, cd, Ak, nk, ck, hb, by rw [hz]; exact hd.1, hd.2, hp.rdk⟩, Fr.refl _ _⟩
    have Hstay := Lib.hid hstay
    rcases Nat.lt_or_ge F nd with hlt | hge
    · rcases Nat.eq_zero_or_pos N with hN | hN
      · subst hN
        have hz := Lib.hid (zer_none d F 0 (.inr rfl))
        have hFc : (F : Int) ≤ (cd : Int) := by omega
        have hFn : (F : Int) ≤ (nd : Int) := by omega
        have hFn2 : ¬ nd < F := by omega
        have hFc2 : ¬ cd = F := by omega
        clear hb hp hbB he hstay Hb Hd Hk
        go_enter Tryd.func48, Tryd.ntmps48
        go_wp2_with fail
        refine HS.out.mono ?_
        rintro e w' ⟨rfl, hw⟩
        obtain rfl := hw.symm
        go_wp2_with fail
        go_ret
        exact Hstay.out _ rfl hz.out
      · obtain ⟨g, cur, hg, hcl, hct, rfl, hBg⟩ : ∃ g cur, w.heap[g]? = some (.cells cur 5 (0, 0)) ∧ cur.size = cd ∧ cur.toList.take nd = d.map bv ∧ Ad = some ⟨g, 0, none⟩ ∧ B ≤ g := by
          rcases hp.dat.2 with ⟨_, h0⟩ | ⟨g, cap, cur, q1, q2, q3, q4, q5, q6, q7⟩
          · omega
          · cases q1
            exact ⟨g, cur, q3, by omega, by simpa using q7, rfl, q2⟩
        obtain ⟨L, hL⟩ : ∃ L, F + L = min (F + N) nd := ⟨min (F + N) nd - F, by omega⟩
        have hL0 : 0 < L := by omega
        have hcx : ∀ ty c, (Builtin.clear_ #[22] ty #[.slice (some ⟨g, F, none⟩) L c]).run Tryd.prog w = .ok (.tuple #[]) (w.setRow g (cur.toList.take F ++ List.replicate L (Value.int IntKind.u8 0) ++ cur.toList.drop (F + L)).toArray) := fun ty c => clear_row8 w ty g F L c cur hg hL0 (by omega)
        have hfin : ∀ w2, w2 = w.setRow g (cur.toList.take F ++ List.replicate L (Value.int IntKind.u8 0) ++ cur.toList.drop (F + L)).toArray → ApB w B b true ⟨zerJ d F N, ks, s⟩ (.returned (.bool true)) w2 := fun w2 e => by
          subst e
          have hgM : g < M := hp.dlt _ rfl
          have hdat : (w.setRow g (cur.toList.take F ++ List.replicate L (Value.int IntKind.u8 0) ++ cur.toList.drop (F + L)).toArray).ownsRow B 5 1 (.slice (some ⟨g, 0, none⟩) nd cd) nd ((zerJ d F N).map bv) := by
            refine own_shut8 (setRow_heap w g cur _ 5 _ hg) ?_ ?_ hBg hnc (by simp only [maxLen]; omega)
            · simp; omega
            · rw [Nat.mul_one]
              exact zer_row d cur.toList F N L nd Hl.out hct hL (by simp; omega)
          have hd := own_rd8 hdat
          have hbg : b ≠ g := fun e => by rw [e] at hb; exact absurd rfl (cells_ne8 hg hb (by decide))
          refine ⟨rfl, fun _ => ⟨_, nd, cd, Ak, nk, ck, (setRow_other w g b _ hbg).trans hb, hd.1, hd.2, (hp.kpart.row hg hgM _).rdk⟩, (Fr.refl B w).row hg (by decide) hBg _⟩
        obtain ⟨w7, hw7⟩ : ∃ w7, w7 = w.setRow g (cur.toList.take F ++ List.replicate L (Value.int IntKind.u8 0) ++ cur.toList.drop (F + L)).toArray := ⟨_, rfl⟩
        have Hfin := Lib.hid (hfin w7 hw7)
        rw [← hw7] at hcx
        have Hcx := Lib.hid hcx
        clear hw7
        have hFc : (F : Int) ≤ (cd : Int) := by omega
        have hFn : (F : Int) ≤ (nd : Int) := by omega
        have hFn2 : ¬ nd < F := by omega
        have hFc2 : ¬ cd = F := by omega
        rcases Nat.lt_or_ge nd (F + N) with h5 | h5
        · have hLn : L = nd - F := by omega
          have h5i : (nd : Int) < (F : Int) + (N : Int) := by omega
          subst hLn
          clear hb hp hbB he hstay Hb Hd Hk hfin hcx hg hcl hct hL hL0 Hstay
          have hcx := Hcx.out
          go_enter Tryd.func48, Tryd.ntmps48
          go_wp2_with fail
          refine HS.out.mono ?_
          rintro e w' ⟨rfl, hw⟩
          obtain rfl := hw.symm
          go_wp2_with fail
          go_ret
          exact Hfin.out
        · obtain rfl : N = L := by omega
          have h5i : ¬ (nd : Int) < (F : Int) + (N : Int) := by omega
          have h6 : (F : Int) + (N : Int) ≤ (cd : Int) := by omega
          have h7 : ((F : Int) + (N : Int)).toNat = F + N := by omega
          have h8 : F + N ≤ cd := by omega
          clear hb hp hbB he hstay Hb Hd Hk hfin hcx hg hcl hct hL hL0 Hstay
          have hcx := Hcx.out
          go_enter Tryd.func48, Tryd.ntmps48
          go_wp2_with fail
          refine HS.out.mono ?_
          rintro e w' ⟨rfl, hw⟩
          obtain rfl := hw.symm
          go_wp2_with fail
          go_ret
          exact Hfin.out
    · have hz := Lib.hid (zer_none d F N (.inl (by rw [Hl.out]; exact hge)))
      have hnF : ¬ ((F : Int) + (N : Int) < (nd : Int)) := by omega
      have hmx : ∀ x : Int, (if (nd : Int) < x then (nd : Int) else x) = min x (nd : Int) := fun x => by split <;> omega
      rcases Nat.lt_or_ge nd F with h5 | h5
      · have h5i : (nd : Int) < (F : Int) + (N : Int) := by omega
        clear hb hp hbB he hstay Hb Hd Hk hmx
        go_enter Tryd.func48, Tryd.ntmps48
        go_wp2_with fail
        refine HS.out.mono ?_
        rintro e w' ⟨rfl, hw⟩
        obtain rfl := hw.symm
        go_wp2_with fail
        all_goals
          go_ret
          exact Hstay.out _ rfl hz.out
      · obtain rfl : nd = F := by omega
        rcases Nat.eq_zero_or_pos N with hN | hN
        · subst hN
          clear hb hp hbB he hstay Hb Hd Hk hmx
          go_enter Tryd.func48, Tryd.ntmps48
          go_wp2_with fail
          refine HS.out.mono ?_
          rintro e w' ⟨rfl, hw⟩
          obtain rfl := hw.symm
          go_wp2_with fail
          all_goals
            go_ret
            exact Hstay.out _ rfl hz.out
        · have h5i : (nd : Int) < (nd : Int) + (N : Int) := by omega
          clear hb hp hbB he hstay Hb Hd Hk hmx
          go_enter Tryd.func48, Tryd.ntmps48
          go_wp2_with fail
          refine HS.out.mono ?_
          rintro e w' ⟨rfl, hw⟩
          obtain rfl := hw.symm
          go_wp2_with fail
          all_goals
            go_ret
            exact Hstay.out _ rfl hz.out
  · have he : partB f n = false := by unfold partB; rw [Bool.eq_false_iff]; simp; omega
    rw [he] at HS ⊢
    clear hb hp hbB he
    go_enter Tryd.func48, Tryd.ntmps48
    go_wp2_with fail
    refine HS.out.mono ?_
    rintro e w' ⟨rfl, hw⟩
    obtain rfl := hw.symm
    go_wp2_with fail
    go_ret
    exact ⟨rfl, (fun h => by cases h), Fr.refl _ _⟩
end Go.Proofs.YtmigapjkicddiaaDoor

namespace Go.Proofs.YtmigapjkicddiaaDoor
open Go.RowKit

theorem write_row (d D : List UInt8) (F L : Nat) (h1 : d.length ≤ L) (h2 : F + D.length ≤ L) :
    splice (splice (List.replicate L (bv 0)) 0 (d.map bv)) F (D.map bv) = (wrJ d F D D.length L).map bv := by
  apply List.ext_getElem
  · simp [splice, wrJ]; omega
  intro i q1 q2
  have hi : i < L := by simp [wrJ] at q2; exact q2
  rw [List.getElem_map]
  simp only [wrJ, List.getElem_map, List.getElem_range, splice, List.getElem_append, List.getElem_take, List.getElem_drop, List.getElem_replicate, List.length_append, List.length_take, List.length_replicate, List.length_map, List.length_drop]
  by_cases hF : F ≤ i ∧ i < F + D.length
  · rw [if_pos hF, byteO_lt (by omega)]
    (repeat' split) <;> first | rfl | (exfalso; omega) | (congr 2; omega)
  · rw [if_neg hF]
    by_cases hd : i < d.length
    · rw [byteO_lt hd]
      (repeat' split) <;> first | rfl | (exfalso; omega) | (congr 2; omega)
    · rw [byteO_ge (by omega)]
      (repeat' split) <;> first | rfl | (exfalso; omega) | (congr 2; omega)
theorem Rd.valsB {w : World} {B n : Nat} {A : Option Addr} {l : List UInt8} (h : Rd w B A n l) (hn : 0 < (l.map bv).length) : ∃ ad, A = some ad ∧ ad.block < B ∧ ∀ j v, (l.map bv)[j]? = some v → w.cell? (ad.add j) = some v := by
  have h1 : 0 < n := by rw [List.length_map, h.1] at hn; exact hn
  obtain ⟨ad, e, hb, _⟩ := h.2 h1
  obtain ⟨ad', e', hv⟩ := h.vals h1
  rw [e] at e'
  cases e'
  exact ⟨ad, e, hb, hv⟩

set_option maxRecDepth 10000 in
set_option maxHeartbeats 1000000 in
theorem kWrite (b : Nat) (d : List UInt8) (ks : List Ky) (s f : Int) (B M : Nat) (Ad Ak : Option Addr) (nd cd nk ck : Nat) (vs : List Kv) (A : Option Addr) (np cp : Nat) (D : List UInt8) (w : World) (hbB : B ≤ b) (hf : I64 f)
    (hb : w.heap[b]? = some (.cells #[.slice Ad nd cd, .slice Ak nk ck, .int .i64 s] 25 (0, 0))) (hp : Parts w B M ⟨d, ks, s⟩ Ad nd cd Ak nk ck vs) (hD : Rd w w.heap.size A np D) (hnp : np ≤ cp) (hcp : cp ≤ 9223372036854775807) (hnd : nd ≤ 64) (hB : B ≤ w.heap.size) :
    Calls Tryd.prog 47 #[.pointer (some ⟨b, 0, none⟩), .int .i64 f, .slice A np cp] w (ApB w B b (partB f np) ⟨wrO d f.toNat D, ks, s⟩) := by
  have HS := Lib.hid (kPart f np w hf)
  have Hb := Lib.hid hb
  have Hd := Lib.hid hp.dat
  have Hk := Lib.hid hp.kpart
  have HB := Lib.hid hbB
  have HBw := Lib.hid hB
  have HD := Lib.hid hD
  have hlen := own_len8 hp.dat
  have hnc := hlen.1
  have hcm := hlen.2
  have Hl := Lib.hid (show d.length = nd by have := hp.dat.1; simp at this; omega)
  have Hld := Lib.hid hD.1
  clear hp hD hB hlen hbB hb
  by_cases hq : 0 ≤ f ∧ f + np ≤ 64
  · obtain ⟨h1, h3⟩ := hq
    obtain ⟨F, rfl⟩ := Int.eq_ofNat_of_zero_le h1
    have he : partB (F : Int) (np : Int) = true := by unfold partB; simp; omega
    rw [he] at HS ⊢
    clear he
    have hwr : IntKind.i64.wrap ((F : Int) + (np : Int)) = (F : Int) + (np : Int) := by rw [IntKind.wrap_i64]; omega
    obtain ⟨L, hL⟩ : ∃ L, L = max nd (F + np) := ⟨_, rfl⟩
    have hmk := fun W : World => mkB8 L (by omega) W
    have HL := Lib.hid hL
    have hFL : (F : Int) ≤ (L : Int) := by omega
    have hF0 : (0 : Int) ≤ (F : Int) := by omega
    have hLb : L ≤ 64 := by omega
    have HW := Lib.hid (write_row d D F L (by rw [Hl.out]; omega) (by rw [Hld.out]; omega))
    have Hd2 := Lib.hid (show wrJ d F D D.length L = wrO d F D by unfold wrO; rw [Hl.out, Hld.out, hL])
    clear h1
    have goal : Calls Tryd.prog 47 #[.pointer (some ⟨b, 0, none⟩), .int .i64 (F : Int), .slice A np cp] w (ApB w B b true ⟨wrJ d F D D.length L, ks, s⟩) := by
      obtain ⟨z0, z1, z2⟩ := objs_of Hb.out
      have two : ((F : Int) + (np : Int) ≤ (nd : Int) ∧ nd = L) ∨ (nd < L ∧ (F : Int) + (np : Int) = (L : Int)) := by omega
      clear hL
      have rest : True := trivial
      rcases two with ⟨t1, t2⟩ | ⟨t1, t2⟩
      · have t3 := t2.symm
        clear t2
        subst t3
        go_enter Tryd.func47, Tryd.ntmps47
        go_wp2_with fail
        refine HS.out.mono ?_
        rintro e w' ⟨rfl, hw⟩
        obtain rfl := hw.symm
        go_upto_region 4 with fail
        have Hmc := Lib.hid (show madeCells #[.int .u8 0] L = (List.replicate L (bv 0)).toArray by apply Array.toList_inj.1; rw [toList_madeCells_one]; rfl)
        have Hown := Lib.hid (show (w.alloc (.cells (madeCells #[.int .u8 0] L) 5)).heap[w.heap.size]? = some (.cells (List.replicate L (bv 0)).toArray 5 (0, 0)) by rw [heap_alloc_new, Hmc.out])
        have Hb2 := Lib.hid ((Below.refl w.heap.size w).alloc (Nat.le_refl _) (.cells (madeCells #[.int .u8 0] L) 5))
        clear hmk Hmc z0 z1 z2
        generalize w.alloc (.cells (madeCells #[.int .u8 0] L) 5) = w2 at Hown Hb2 ⊢
        obtain ⟨g, hg⟩ : ∃ g, g = w.heap.size := ⟨_, rfl⟩
        rw [← hg] at Hown ⊢
        have Hg := Lib.hid hg
        clear hg
        have Hbb := Lib.hid (blk8 Hb.out Hb2.out)
        obtain ⟨z0, z1, z2⟩ := objs_of Hbb.out
        go_upto_region 5 with (refine wpList_copy_splice rfl (.tmp 24) (.tmp 28) 22 22 rfl 5 Tryd.underlying22 Tryd.sizeB _ _ _ _ _ _ rfl rfl g 0 _ _ Hown.out (d.map bv) (by rw [List.length_map, Hl.out]; have := HL.out; simp only [Nat.min_def]; split <;> omega) (fun h0 => by obtain ⟨ad, e1, e2, e3⟩ := ((Rd.own Hd.out).below Hb2.out).valsB h0; exact ⟨rfl, ad, e1, e3⟩) (by rw [List.length_map, Hl.out, List.length_replicate]; have := HL.out; omega) (bv_one _) w.heap.size w Hb2.out (by rw [Hg.out]; exact Nat.le_refl _) ?_; intro w3 H3 hb3)
        have Hb3 := Lib.hid hb3
        clear hb3
        by_cases hLF : L = F
        · have hnp0 := Lib.hid (show np = 0 by have := HL.out; omega)
          have hD0 := Lib.hid (show D = [] from List.eq_nil_of_length_eq_zero (by rw [Hld.out]; exact hnp0.out))
          subst hLF
          go_wp2_with (refine wpList_copy_splice rfl (.tmp 32) (.tmp 33) 22 22 rfl 5 Tryd.underlying22 Tryd.sizeB _ _ _ _ _ _ rfl rfl g L _ _ H3.out (D.map bv) (by rw [List.length_map, Hld.out, hnp0.out]; simp) (fun h0 => by rw [hD0.out] at h0; simp at h0) (by rw [List.length_map, Hld.out, length_splice _ _ _ (by rw [List.length_map, Hl.out, List.length_replicate]; have := HL.out; omega), List.length_replicate]; have := HL.out; omega) (bv_one _) w.heap.size w Hb3.out (by rw [Hg.out]; exact Nat.le_refl _) ?_; intro w4 H4 hb4; have Hb4 := Lib.hid hb4; clear hb4; have Hbb4 := Lib.hid (blk8 Hb.out Hb4.out); obtain ⟨y0, y1, y2⟩ := objs_of Hbb4.out; have f0 := free_blk Hbb4.out 0)
          go_ret
          have hlen4 : (splice (splice (List.replicate L (bv 0)) 0 (d.map bv)) L (D.map bv)).length = L := by rw [HW.out, List.length_map, wrJ_len]
          have hown : w4.ownsRow w.heap.size 5 1 (.slice (some ⟨g, 0, none⟩) L L) L ((wrJ d L D D.length L).map bv) := own_shut8 H4.out (by rw [hlen4, Nat.mul_one]) (by rw [Nat.mul_one, List.take_of_length_le (by rw [hlen4]; exact Nat.le_refl _), HW.out]) (Nat.le_of_eq Hg.out.symm) (Nat.le_refl _) (by simp only [maxLen]; omega)
          have hd := own_rd8 (own_setb8 hown Hbb4.out (by decide) 0 (.slice (some ⟨g, 0, none⟩) L L))
          exact ⟨rfl, (fun _ => ⟨_, L, L, Ak, nk, ck, set_blk Hbb4.out 0 _, hd.1, hd.2, ((Hk.out.to Hb4.out).setb Hbb4.out 0 (.slice (some ⟨g, 0, none⟩) L L)).rdk⟩), (Fr.of Hb4.out HBw.out).set Hbb4.out (by decide) HB.out 0 _⟩
        · skip
          go_wp2_with (refine wpList_copy_splice rfl (.tmp 32) (.tmp 33) 22 22 rfl 5 Tryd.underlying22 Tryd.sizeB _ _ _ _ _ _ rfl rfl g F _ _ H3.out (D.map bv) (by rw [List.length_map, Hld.out]; have := HL.out; simp only [Nat.min_def]; split <;> omega) (fun h0 => by obtain ⟨ad, e1, e2, e3⟩ := (HD.out.below Hb3.out).valsB h0; exact ⟨rfl, ad, e1, e3⟩) (by rw [List.length_map, Hld.out, length_splice _ _ _ (by rw [List.length_map, Hl.out, List.length_replicate]; have := HL.out; omega), List.length_replicate]; have := HL.out; omega) (bv_one _) w.heap.size w Hb3.out (by rw [Hg.out]; exact Nat.le_refl _) ?_; intro w4 H4 hb4; have Hb4 := Lib.hid hb4; clear hb4; have Hbb4 := Lib.hid (blk8 Hb.out Hb4.out); obtain ⟨y0, y1, y2⟩ := objs_of Hbb4.out; have f0 := free_blk Hbb4.out 0)
          go_ret
          have hlen4 : (splice (splice (List.replicate L (bv 0)) 0 (d.map bv)) F (D.map bv)).length = L := by rw [HW.out, List.length_map, wrJ_len]
          have hown : w4.ownsRow w.heap.size 5 1 (.slice (some ⟨g, 0, none⟩) L L) L ((wrJ d F D D.length L).map bv) := own_shut8 H4.out (by rw [hlen4, Nat.mul_one]) (by rw [Nat.mul_one, List.take_of_length_le (by rw [hlen4]; exact Nat.le_refl _), HW.out]) (Nat.le_of_eq Hg.out.symm) (Nat.le_refl _) (by simp only [maxLen]; omega)
          have hd := own_rd8 (own_setb8 hown Hbb4.out (by decide) 0 (.slice (some ⟨g, 0, none⟩) L L))
          exact ⟨rfl, (fun _ => ⟨_, L, L, Ak, nk, ck, set_blk Hbb4.out 0 _, hd.1, hd.2, ((Hk.out.to Hb4.out).setb Hbb4.out 0 (.slice (some ⟨g, 0, none⟩) L L)).rdk⟩), (Fr.of Hb4.out HBw.out).set Hbb4.out (by decide) HB.out 0 _⟩
      · have t4 : ¬ L ≤ nd := by omega
        clear t1
        go_enter Tryd.func47, Tryd.ntmps47
        go_wp2_with fail
        refine HS.out.mono ?_
        rintro e w' ⟨rfl, hw⟩
        obtain rfl := hw.symm
        go_upto_region 4 with fail
        have Hmc := Lib.hid (show madeCells #[.int .u8 0] L = (List.replicate L (bv 0)).toArray by apply Array.toList_inj.1; rw [toList_madeCells_one]; rfl)
        have Hown := Lib.hid (show (w.alloc (.cells (madeCells #[.int .u8 0] L) 5)).heap[w.heap.size]? = some (.cells (List.replicate L (bv 0)).toArray 5 (0, 0)) by rw [heap_alloc_new, Hmc.out])
        have Hb2 := Lib.hid ((Below.refl w.heap.size w).alloc (Nat.le_refl _) (.cells (madeCells #[.int .u8 0] L) 5))
        clear hmk Hmc z0 z1 z2
        generalize w.alloc (.cells (madeCells #[.int .u8 0] L) 5) = w2 at Hown Hb2 ⊢
        obtain ⟨g, hg⟩ : ∃ g, g = w.heap.size := ⟨_, rfl⟩
        rw [← hg] at Hown ⊢
        have Hg := Lib.hid hg
        clear hg
        have Hbb := Lib.hid (blk8 Hb.out Hb2.out)
        obtain ⟨z0, z1, z2⟩ := objs_of Hbb.out
        go_upto_region 5 with (refine wpList_copy_splice rfl (.tmp 24) (.tmp 28) 22 22 rfl 5 Tryd.underlying22 Tryd.sizeB _ _ _ _ _ _ rfl rfl g 0 _ _ Hown.out (d.map bv) (by rw [List.length_map, Hl.out]; have := HL.out; simp only [Nat.min_def]; split <;> omega) (fun h0 => by obtain ⟨ad, e1, e2, e3⟩ := ((Rd.own Hd.out).below Hb2.out).valsB h0; exact ⟨rfl, ad, e1, e3⟩) (by rw [List.length_map, Hl.out, List.length_replicate]; have := HL.out; omega) (bv_one _) w.heap.size w Hb2.out (by rw [Hg.out]; exact Nat.le_refl _) ?_; intro w3 H3 hb3)
        have Hb3 := Lib.hid hb3
        clear hb3
        by_cases hLF : L = F
        · have hnp0 := Lib.hid (show np = 0 by have := HL.out; omega)
          have hD0 := Lib.hid (show D = [] from List.eq_nil_of_length_eq_zero (by rw [Hld.out]; exact hnp0.out))
          subst hLF
          go_wp2_with (refine wpList_copy_splice rfl (.tmp 32) (.tmp 33) 22 22 rfl 5 Tryd.underlying22 Tryd.sizeB _ _ _ _ _ _ rfl rfl g L _ _ H3.out (D.map bv) (by rw [List.length_map, Hld.out, hnp0.out]; simp) (fun h0 => by rw [hD0.out] at h0; simp at h0) (by rw [List.length_map, Hld.out, length_splice _ _ _ (by rw [List.length_map, Hl.out, List.length_replicate]; have := HL.out; omega), List.length_replicate]; have := HL.out; omega) (bv_one _) w.heap.size w Hb3.out (by rw [Hg.out]; exact Nat.le_refl _) ?_; intro w4 H4 hb4; have Hb4 := Lib.hid hb4; clear hb4; have Hbb4 := Lib.hid (blk8 Hb.out Hb4.out); obtain ⟨y0, y1, y2⟩ := objs_of Hbb4.out; have f0 := free_blk Hbb4.out 0)
          go_ret
          have hlen4 : (splice (splice (List.replicate L (bv 0)) 0 (d.map bv)) L (D.map bv)).length = L := by rw [HW.out, List.length_map, wrJ_len]
          have hown : w4.ownsRow w.heap.size 5 1 (.slice (some ⟨g, 0, none⟩) L L) L ((wrJ d L D D.length L).map bv) := own_shut8 H4.out (by rw [hlen4, Nat.mul_one]) (by rw [Nat.mul_one, List.take_of_length_le (by rw [hlen4]; exact Nat.le_refl _), HW.out]) (Nat.le_of_eq Hg.out.symm) (Nat.le_refl _) (by simp only [maxLen]; omega)
          have hd := own_rd8 (own_setb8 hown Hbb4.out (by decide) 0 (.slice (some ⟨g, 0, none⟩) L L))
          exact ⟨rfl, (fun _ => ⟨_, L, L, Ak, nk, ck, set_blk Hbb4.out 0 _, hd.1, hd.2, ((Hk.out.to Hb4.out).setb Hbb4.out 0 (.slice (some ⟨g, 0, none⟩) L L)).rdk⟩), (Fr.of Hb4.out HBw.out).set Hbb4.out (by decide) HB.out 0 _⟩
        · skip
          go_wp2_with (refine wpList_copy_splice rfl (.tmp 32) (.tmp 33) 22 22 rfl 5 Tryd.underlying22 Tryd.sizeB _ _ _ _ _ _ rfl rfl g F _ _ H3.out (D.map bv) (by rw [List.length_map, Hld.out]; have := HL.out; simp only [Nat.min_def]; split <;> omega) (fun h0 => by obtain ⟨ad, e1, e2, e3⟩ := (HD.out.below Hb3.out).valsB h0; exact ⟨rfl, ad, e1, e3⟩) (by rw [List.length_map, Hld.out, length_splice _ _ _ (by rw [List.length_map, Hl.out, List.length_replicate]; have := HL.out; omega), List.length_replicate]; have := HL.out; omega) (bv_one _) w.heap.size w Hb3.out (by rw [Hg.out]; exact Nat.le_refl _) ?_; intro w4 H4 hb4; have Hb4 := Lib.hid hb4; clear hb4; have Hbb4 := Lib.hid (blk8 Hb.out Hb4.out); obtain ⟨y0, y1, y2⟩ := objs_of Hbb4.out; have f0 := free_blk Hbb4.out 0)
          go_ret
          have hlen4 : (splice (splice (List.replicate L (bv 0)) 0 (d.map bv)) F (D.map bv)).length = L := by rw [HW.out, List.length_map, wrJ_len]
          have hown : w4.ownsRow w.heap.size 5 1 (.slice (some ⟨g, 0, none⟩) L L) L ((wrJ d F D D.length L).map bv) := own_shut8 H4.out (by rw [hlen4, Nat.mul_one]) (by rw [Nat.mul_one, List.take_of_length_le (by rw [hlen4]; exact Nat.le_refl _), HW.out]) (Nat.le_of_eq Hg.out.symm) (Nat.le_refl _) (by simp only [maxLen]; omega)
          have hd := own_rd8 (own_setb8 hown Hbb4.out (by decide) 0 (.slice (some ⟨g, 0, none⟩) L L))
          exact ⟨rfl, (fun _ => ⟨_, L, L, Ak, nk, ck, set_blk Hbb4.out 0 _, hd.1, hd.2, ((Hk.out.to Hb4.out).setb Hbb4.out 0 (.slice (some ⟨g, 0, none⟩) L L)).rdk⟩), (Fr.of Hb4.out HBw.out).set Hbb4.out (by decide) HB.out 0 _⟩
    rw [Hd2.out] at goal
    exact goal
  · have he : partB f np = false := by unfold partB; rw [Bool.eq_false_iff]; simp; omega
    rw [he] at HS ⊢
    clear he
    go_enter Tryd.func47, Tryd.ntmps47
    go_wp2_with fail
    refine HS.out.mono ?_
    rintro e w' ⟨rfl, hw⟩
    obtain rfl := hw.symm
    go_wp2_with fail
    go_ret
    exact ⟨rfl, (fun h => by cases h), Fr.refl _ _⟩
end Go.Proofs.YtmigapjkicddiaaDoor

namespace Go.Proofs.YtmigapjkicddiaaDoor
open Go.RowKit

set_option maxRecDepth 10000 in
set_option maxHeartbeats 1000000 in
theorem kKeyIs (b : Nat) (d : List UInt8) (ks : List Ky) (s : Int) (B M : Nat) (Ad Ak : Option Addr) (nd cd nk ck : Nat) (vs : List Kv) (X : List UInt8) (A : Option Addr) (np cp : Nat) (D : List UInt8) (w : World)
    (hb : w.heap[b]? = some (.cells #[.slice Ad nd cd, .slice Ak nk ck, .int .i64 s] 25 (0, 0))) (hp : Parts w B M ⟨d, ks, s⟩ Ad nd cd Ak nk ck vs) (hD : Rd w w.heap.size A np D) (hn : nk ≤ 100000) (hs : Rise ks) :
    Calls Tryd.prog 46 #[.pointer (some ⟨b, 0, none⟩), .string ⟨X.toArray⟩, .slice A np cp] w fun e w' => e = .returned (.bool (decide (getK ks X = some D))) ∧ Below w.heap.size w w' := by
  have HF := Lib.hid (kFind X Ak nk ck ks w.heap.size w hp.rdk (Nat.le_refl _) hn hs)
  have Hr := Lib.hid hp.rdk
  have Hb := Lib.hid hb
  have HD := Lib.hid hD
  obtain ⟨z0, z1, z2⟩ := objs_of hb
  clear hb hp hD
  go_enter Tryd.func46, Tryd.ntmps46
  go_wp2_with fail
  refine HF.out.mono ?_
  rintro e w2 ⟨j, rfl, HL, hb2⟩
  have Hr2 := Lib.hid ((Hr.out.below hb2).more hb2.size)
  have HD2 := Lib.hid ((HD.out.below hb2).more hb2.size)
  have Hb2 := Lib.hid hb2
  have Hbb := Lib.hid (blk8 Hb.out hb2)
  have HG := Lib.hid (HL.out.get hs)
  clear HF Hr HD hb2 z0 z1 z2
  obtain ⟨z0, z1, z2⟩ := objs_of Hbb.out
  cases hi : isAt ks X j
  · have He := Lib.hid (show decide (getK ks X = some D) = false by rw [HG.out, hi]; simp)
    clear HG hi
    go_wp2_with fail
    go_ret
    exact ⟨by rw [He.out]; rfl, Hb2.out⟩
  · have hjl : j < ks.length := by
      rcases Nat.lt_or_ge j ks.length with h | h
      · exact h
      · unfold isAt at hi; rw [List.getElem?_eq_none h] at hi; cases hi
    obtain ⟨g, o, Aj, nj, cj, rfl, hg, x0, x1, h5, h6, h7⟩ := Hr2.out.2 j hjl
    have He := Lib.hid (show decide (getK ks X = some D) = decide (ks[j].val = D) by rw [HG.out, hi, List.getElem?_eq_getElem hjl]; simp)
    have hjn : j < nk := by rw [← Hr2.out.1]; exact hjl
    have HQ := Lib.hid (kEqual Aj A nj cj np cp ks[j].val D _ _ w2 h5 HD2.out)
    have hj0 : (0 : Int) ≤ (j : Int) := by omega
    have hj1 : (j : Int) < (nk : Int) := by omega
    clear HG hi h5 h6 h7 x0
    generalize ks[j] = k at HQ He
    clear hjl
    go_wp2_with fail
    refine HQ.out.mono ?_
    rintro e w' ⟨rfl, hw⟩
    obtain rfl := hw.symm
    go_wp2_with fail
    go_ret
    exact ⟨by rw [He.out]; rfl, Hb2.out⟩

theorem own_gr8 {w w' : World} {B B' n s m c : Nat} {A : Option Addr} {e t : TypeId} {v : Value} {xs ys : List Value} (h : w.ownsRow B e s v n xs) (ho : w.ownsRow B' t 2 (.slice A m c) m ys) (hg : w.grownBy w' (Value.ownBlock (.slice A m c))) (hne : e ≠ t) : w'.ownsRow B e s v n xs := by
  refine ⟨h.1, ?_⟩
  rcases h.2 with h | ⟨g, cap, cur, h1, h2, h3, h4⟩
  · exact .inl h
  · refine .inr ⟨g, cap, cur, h1, h2, (hg.block g (lt_of_block h3) ?_).trans h3, h4⟩
    rcases ho.2 with ⟨q, _⟩ | ⟨g', cap', cur', q, _, q3, _⟩
    · cases q; intro e; cases e
    · cases q; intro e; injection e with e; exact cells_ne8 h3 q3 hne e
theorem blk_gr8 {w w' : World} {B' b m c : Nat} {A : Option Addr} {t t' : TypeId} {cs : Array Value} {ys : List Value} (h : w.heap[b]? = some (.cells cs t' (0, 0))) (ho : w.ownsRow B' t 2 (.slice A m c) m ys) (hg : w.grownBy w' (Value.ownBlock (.slice A m c))) (hne : t' ≠ t) : w'.heap[b]? = some (.cells cs t' (0, 0)) := by
  refine (hg.block b (lt_of_block h) ?_).trans h
  rcases ho.2 with ⟨q, _⟩ | ⟨g', cap', cur', q, _, q3, _⟩
  · cases q; intro e; cases e
  · cases q; intro e; injection e with e; exact cells_ne8 h q3 hne e
theorem below_gr8 {w w' : World} {B B' m c : Nat} {A : Option Addr} {t : TypeId} {ys : List Value} (ho : w.ownsRow B' t 2 (.slice A m c) m ys) (hg : w.grownBy w' (Value.ownBlock (.slice A m c))) (hB : B ≤ B') (hw : B ≤ w.heap.size) : Below B w w' :=
  ⟨hg.os, hg.tape, hg.output, hg.size, fun k hk => hg.block k (Nat.lt_of_lt_of_le hk hw) (fun e => by
    rcases ho.2 with ⟨q, _⟩ | ⟨g', cap', cur', q, q2, q3, _⟩
    · cases q; cases e
    · cases q; injection e with e; have e : k = g' := e; omega)⟩
set_option maxRecDepth 10000 in
theorem fr_gr8 {w w' : World} {B B' m c : Nat} {A : Option Addr} {ys : List Value} (ho : w.ownsRow B' 48 2 (.slice A m c) m ys) (hg : w.grownBy w' (Value.ownBlock (.slice A m c))) (hB : B ≤ B') (hw : B ≤ w.heap.size) : Fr B w w' :=
  ⟨below_gr8 ho hg hB hw, fun _ _ hx => blk_gr8 hx ho hg (by decide)⟩
theorem flatK_put8 {vs : List Kv} {j : Nat} (h : j < vs.length) (q : Kv) (hn : q.k.name = vs[j].k.name) : (flatK vs).set (j * 2 + 1) (.slice q.A q.n q.c) = flatK (vs.set j q) := by
  rw [flatK_set h]
  have h1 : ∀ (us : List Kv) (i : Nat) (p p' : Kv), kvC p = kvC p' → flatK (us.set i p) = flatK (us.set i p') := by
    intro us
    induction us with
    | nil => intro i p p' _; rfl
    | cons u r ih =>
      intro i p p' hp
      cases i with
      | zero => show kvC p ++ flatK r = kvC p' ++ flatK r; rw [hp]
      | succ i => show kvC u ++ flatK (r.set i p) = kvC u ++ flatK (r.set i p'); rw [ih i p p' hp]
  apply h1
  show [Value.string ⟨(vs[j].k.name).toArray⟩, _] = [Value.string ⟨(q.k.name).toArray⟩, _]
  rw [hn]
/-- the keys' row and all beside it, at the place at which a key's value is set -/
structure AtKey (w wx : World) (B M b j : Nat) (X : List UInt8) (Ad : Option Addr) (nd cd : Nat) (d : List UInt8) (s : Int) (A1 : Option Addr) (n1 c1 : Nat) (us : List Kv) : Prop where
  blk : wx.heap[b]? = some (.cells #[.slice Ad nd cd, .slice A1 n1 c1, .int .i64 s] 25 (0, 0))
  key : wx.ownsRow B 48 2 (.slice A1 n1 c1) n1 (flatK us)
  len : us.length = n1
  jn : j < n1
  nam : ∀ (h : j < us.length), us[j].k.name = X
  val : ∀ p ∈ us, wx.ownsRow M 5 1 (.slice p.A p.n p.c) p.n (p.k.val.map bv)
  nms : ∀ p ∈ us, p.k.name.length ≤ 9223372036854775807
  dat : wx.ownsRow B 5 1 (.slice Ad nd cd) nd (d.map bv)
  bel : Fr B w wx
  siz : w.heap.size ≤ wx.heap.size
set_option maxRecDepth 10000 in
set_option maxHeartbeats 2000000 in
theorem kSetKey (b : Nat) (d : List UInt8) (ks : List Ky) (s : Int) (B M : Nat) (Ad Ak : Option Addr) (nd cd nk ck : Nat) (vs : List Kv) (X : List UInt8) (A : Option Addr) (np cp : Nat) (D : List UInt8) (w : World) (hbB : B ≤ b) (hB : B ≤ w.heap.size)
    (hb : w.heap[b]? = some (.cells #[.slice Ad nd cd, .slice Ak nk ck, .int .i64 s] 25 (0, 0))) (hp : Parts w B M ⟨d, ks, s⟩ Ad nd cd Ak nk ck vs) (hD : ∀ wx, Below B w wx → w.heap.size ≤ wx.heap.size → wx.ownsRow B 5 1 (.slice Ad nd cd) nd (d.map bv) → Rd wx wx.heap.size A np D) (hn : nk ≤ 120) (hs : Rise ks) (hX : X.length ≤ 9223372036854775807) :
    Calls Tryd.prog 51 #[.pointer (some ⟨b, 0, none⟩), .string ⟨X.toArray⟩, .slice A np cp] w (ApB w B b (decide ((setK ks X D).2 = 0)) ⟨d, (setK ks X D).1, s⟩) := by
  have HN := Lib.hid (kName X w hX)
  have HF := Lib.hid (kFind X Ak nk ck ks w.heap.size w hp.rdk (Nat.le_refl _) (by omega) hs)
  have HD := Lib.hid hD
  have HDl := Lib.hid (hD w (Below.refl _ _) (Nat.le_refl _) hp.dat).1
  have Hb := Lib.hid hb
  have Hp := Lib.hid hp
  have HB := Lib.hid hbB
  have HBw := Lib.hid hB
  have Hkl := Lib.hid (show ks.length = nk by have h := congrArg List.length hp.kys; rw [List.length_map, hp.vln] at h; exact h.symm)
  obtain ⟨z0, z1, z2⟩ := objs_of hb
  obtain ⟨r, hr⟩ : ∃ r, r = nameB X := ⟨_, rfl⟩
  rw [← hr] at HN
  have HR := Lib.hid hr
  clear hb hp hD hbB hB hr
  have hfalse : (nameB X = true ∧ np ≤ 2048 ∧ (nk < 120 ∨ (getK ks X).isSome = true) → False) → decide ((setK ks X D).2 = 0) = false := fun h => by
    unfold setK
    rw [if_neg (fun ⟨q1, q2, q3⟩ => h ⟨q1, by rw [← HDl.out]; exact q2, by rw [← Hkl.out]; exact q3⟩)]
    rfl
  have Hf := Lib.hid hfalse
  clear hfalse
  cases r
  · have He := Lib.hid (Hf.out fun ⟨q, _⟩ => by rw [← HR.out] at q; cases q)
    rw [He.out]
    go_enter Tryd.func51, Tryd.ntmps51
    go_wp2_with fail
    refine HN.out.mono ?_
    rintro e w' ⟨rfl, hw⟩
    obtain rfl := hw.symm
    go_wp2_with fail
    go_ret
    exact ⟨rfl, (fun h => by cases h), Fr.refl _ _⟩
  · by_cases h20 : np ≤ 2048
    · go_enter Tryd.func51, Tryd.ntmps51
      go_wp2_with fail
      refine HN.out.mono ?_
      rintro e w' ⟨rfl, hw⟩
      obtain rfl := hw.symm
      go_wp2_with fail
      refine HF.out.mono ?_
      rintro e w2 ⟨j, rfl, HL, hb2⟩
      have Hb2 := Lib.hid hb2
      have Hbb := Lib.hid (blk8 Hb.out hb2)
      have Hp2 := Lib.hid (Hp.out.to hb2)
      have HG := Lib.hid (HL.out.get hs)
      have HP := Lib.hid (HL.out.put hs D)
      clear HF HN hb2 z0 z1 z2
      obtain ⟨z0, z1, z2⟩ := objs_of Hbb.out
      go_upto_if 27 with fail
      go_cut [8] (fun s8 wx => s8 = .bool (isAt ks X j) ∧ ∃ A1 n1 c1 us, Hid (AtKey w wx B M b j X Ad nd cd d s A1 n1 c1 us) ∧ Hid ((us.map Kv.k).set j ⟨X, D⟩ = (setK ks X D).1 ∧ (setK ks X D).2 = 0))
      case first =>
        cases hi : isAt ks X j
        · rw [hi] at HP HG
          have Hi := Lib.hid hi
          have HG := Lib.hid (show getK ks X = none by rw [HG.out]; rfl)
          by_cases h120 : nk = 120
          · have He := Lib.hid (Hf.out fun ⟨_, _, q⟩ => by rw [HG.out] at q; rcases q with q | q; omega; cases q)
            subst h120
            go_wp2_with fail
            go_ret
            exact ⟨by rw [He.out]; rfl, (fun h => by rw [He.out] at h; cases h), Fr.of Hb2.out HBw.out⟩
          · have hne : ¬ ((nk : Int) = 120) := by omega
            have hj : j ≤ nk := by have := HL.out.1; rw [Hkl.out] at this; exact this
            have hset : setK ks X D = (putK ks X D, 0) := by
              unfold setK
              rw [if_pos ⟨HR.out.symm, by rw [HDl.out]; exact h20, .inl (by rw [Hkl.out]; omega)⟩]
            have Hset := Lib.hid hset
            clear hset h120 hi
            have Hbx := Lib.hid ((Below.refl w2.heap.size w2).alloc (Nat.le_refl _) (.cells #[.string ⟨X.toArray⟩, .slice none 0 0] 48))
            have hv := heap_alloc_new w2 (.cells #[.string ⟨X.toArray⟩, .slice none 0 0] 48)
            have Hp3 := Lib.hid (Hp2.out.to Hbx.out)
            have Hbb3 := Lib.hid (blk8 Hbb.out Hbx.out)
            have HI := Lib.hid (kInsert vs j nk ck w2.heap.size Ak X B (w2.alloc (.cells #[.string ⟨X.toArray⟩, .slice none 0 0] 48)) Hp3.out.key Hp3.out.vln (by omega) hj (Nat.le_trans HBw.out (Nat.le_trans Hb2.out.size Hbx.out.size)) hv (fun a ha => by have := (own_at8 Hp2.out.key a ha).2; omega))
            clear hv
            go_wp2_with fail
            refine HI.out.mono ?_
            rintro e w4 ⟨A4, c4, rfl, HO, Hg4⟩
            have Hbb4 := Lib.hid (blk_gr8 Hbb3.out Hp3.out.key Hg4.out (by decide))
            have Hd4 := Lib.hid (own_gr8 Hp3.out.dat Hp3.out.key Hg4.out (by decide))
            have Hv4 : Hid (∀ p ∈ vs, w4.ownsRow M 5 1 (.slice p.A p.n p.c) p.n (p.k.val.map bv)) := fun p hp => own_gr8 (Hp3.out.val p hp) Hp3.out.key Hg4.out (by decide)
            have Hbel4 := Lib.hid ((Fr.of (Hb2.out.trans (Hbx.out.mono Hb2.out.size)) HBw.out).trans (fr_gr8 Hp3.out.key Hg4.out (Nat.le_refl B) (Nat.le_trans HBw.out (Nat.le_trans Hb2.out.size Hbx.out.size))))
            have Hsz4 := Lib.hid (Nat.le_trans (Nat.le_trans Hb2.out.size Hbx.out.size) Hg4.out.size)
            clear z0 z1 z2 HI
            obtain ⟨z0, z1, z2⟩ := objs_of Hbb4.out
            have f1 := free_blk Hbb4.out 1
            go_wp2_with fail
            go_meet
            have hvl := Hp2.out.vln
            have hins : (vs.take j ++ kv0 X :: vs.drop j).length = nk + 1 := by simp [hvl]; omega
            refine ⟨by first | rfl | (rw [Hi.out]), A4, nk + 1, c4, vs.take j ++ kv0 X :: vs.drop j, ⟨set_blk Hbb4.out 1 _, own_setb8 HO.out Hbb4.out (by decide) _ _, hins, by omega, fun h => ?_, fun p hp => ?_, fun p hp => ?_, own_setb8 Hd4.out Hbb4.out (by decide) _ _, Hbel4.out.set Hbb4.out (by decide) HB.out 1 _, by simp [World.setCell]; exact Hsz4.out⟩, ?_, by rw [Hset.out]⟩
            · rw [List.getElem_append_right (by rw [List.length_take]; omega)]
              simp only [List.length_take, hvl, Nat.min_eq_left hj, Nat.sub_self, List.getElem_cons_zero]
              rfl
            · rcases List.mem_append.1 hp with hp | hp
              · exact own_setb8 (Hv4.out p (List.mem_of_mem_take hp)) Hbb4.out (by decide) _ _
              · rcases List.mem_cons.1 hp with rfl | hp
                · exact ⟨rfl, .inl ⟨rfl, rfl⟩⟩
                · exact own_setb8 (Hv4.out p (List.mem_of_mem_drop hp)) Hbb4.out (by decide) _ _
            · rcases List.mem_append.1 hp with hp | hp
              · exact Hp2.out.nam p (List.mem_of_mem_take hp)
              · rcases List.mem_cons.1 hp with rfl | hp
                · exact hX
                · exact Hp2.out.nam p (List.mem_of_mem_drop hp)
            · rw [Hset.out, HP.out, List.map_append, List.map_cons, List.map_take, List.map_drop, Hp2.out.kys]
              rw [List.set_append_right _ _ (by rw [List.length_take]; omega)]
              have h0 : j - (ks.take j).length = 0 := by rw [List.length_take, Hkl.out]; omega
              rw [h0]
              rfl
        · rw [hi] at HP HG
          have Hi := Lib.hid hi
          have hjl : j < ks.length := by
            rcases Nat.lt_or_ge j ks.length with h | h
            · exact h
            · unfold isAt at hi; rw [List.getElem?_eq_none h] at hi; cases hi
          have hset : setK ks X D = (putK ks X D, 0) := by
            unfold setK
            rw [if_pos ⟨HR.out.symm, by rw [HDl.out]; exact h20, .inr (by rw [HG.out, List.getElem?_eq_getElem hjl]; rfl)⟩]
          have Hset := Lib.hid hset
          have Hnm := Lib.hid (show ks[j].name = X by unfold isAt at hi; rw [List.getElem?_eq_getElem hjl] at hi; exact of_decide_eq_true hi)
          have Hjl := Lib.hid hjl
          clear hset hi
          go_wp2_with fail
          go_meet
          refine ⟨by first | rfl | (rw [Hi.out]), Ak, nk, ck, vs, ⟨Hbb.out, Hp2.out.key, Hp2.out.vln, by rw [← Hkl.out]; exact Hjl.out, fun h => ?_, Hp2.out.val, Hp2.out.nam, Hp2.out.dat, Fr.of Hb2.out HBw.out, Hb2.out.size⟩, ?_, by rw [Hset.out]⟩
          · have e : (vs.map Kv.k)[j]'(by simpa using h) = ks[j]'Hjl.out := by congr 1; exact Hp2.out.kys
            rw [← Hnm.out, ← e]
            simp
          · rw [Hset.out, HP.out, Hp2.out.kys]
            simp only [if_true]
            rw [List.set_eq_take_append_cons_drop, if_pos Hjl.out]
      case rest =>
        obtain ⟨rfl, A1, n1, c1, us, HA, Hst⟩ := hcut
        clear z0 z1 z2 HG HP HL Hp2 Hbb Hb2 Hf
        have hjn := HA.out.jn
        have hjl : j < us.length := by rw [HA.out.len]; exact hjn
        obtain ⟨g, rfl⟩ : ∃ g, A1 = some ⟨g, 0, none⟩ := by
          rcases HA.out.key.2 with ⟨h1, h2⟩ | ⟨g4, cap, cur, h1, _⟩
          · omega
          · injection h1 with h1 _ _; exact ⟨g4, h1⟩
        have hT1 := (objs_of HA.out.blk).2.1
        have hbl := lt_of_block HA.out.blk
        obtain ⟨gc, hgc, hBg⟩ := own_blk8 HA.out.key
        have Hbg := Lib.hid (show g ≠ b from cells_ne8 hgc HA.out.blk (by decide))
        have Hok := Lib.hid (show decide ((setK ks X D).2 = 0) = true by rw [Hst.out.2]; rfl)
        have HC := Lib.hid ((kClone A np cp wc.heap.size D wc.drew (show Rd wc.drew wc.heap.size A np D from HD.out wc HA.out.bel.1 HA.out.siz HA.out.dat) (Nat.le_refl _) (by omega)).mono fun _ _ h => h.out8 HDl.out)
        have HBg := Lib.hid hBg
        clear hgc hBg
        go_upto_region 8 with fail
        refine wp_region_held_drew (S := fun W => W.cell? ⟨b, 1, none⟩ = some (.slice (some ⟨g, 0, none⟩) n1 c1)) (by kernel_rfl) (show wc.drew.cell? ⟨b, 1, none⟩ = _ from hT1) (fun hS => ?_)
        refine wpAnyH_take (i := 0) (v := ?m0) rfl (by kernel_rfl) (by kernel_rfl) (by kernel_rfl) (fun _ _ _ h => h) (Or.inl ⟨by rfl, ?n0⟩) hS ?o0
        case n0 => (intro wy hSy; go_simp; try with_reducible rfl)
        simp only [Act.put]
        refine wpAnyH_take (i := 1) (v := ?m1) rfl (by kernel_rfl) (by kernel_rfl) (by kernel_rfl) (fun _ _ _ h => h) (Or.inl ⟨by rfl, ?n1⟩) hS ?o1
        case n1 => (intro wy hSy; go_simp; try with_reducible rfl)
        simp only [Act.put]
        refine wpAnyH_take (i := 2) (v := ?m2) rfl (by kernel_rfl) (by kernel_rfl) (by kernel_rfl) (fun _ _ _ h => h) (Or.inl ⟨by rfl, ?n2⟩) hS ?o2
        case n2 => (intro wy hSy; go_simp; try with_reducible rfl)
        simp only [Act.put]
        refine wpAnyH_take (i := 3) (v := ?m3) rfl (by kernel_rfl) (by kernel_rfl) (by kernel_rfl) (fun _ _ _ h => h) (Or.inl ⟨by rfl, ?n3⟩) hS ?o3
        case n3 => (intro wy hSy; go_simp; try with_reducible rfl)
        simp only [Act.put]
        refine wpAnyH_take (i := 4) (v := ?m4) rfl (by kernel_rfl) (by kernel_rfl) (by kernel_rfl) (fun _ _ _ h => h) (Or.inl ⟨by rfl, ?n4⟩) hS ?o4
        case n4 => (intro wy hSy; go_simp; try with_reducible rfl)
        simp only [Act.put]
        refine wpAnyH_take (i := 5) (v := ?m5) rfl (by kernel_rfl) (by kernel_rfl) (by kernel_rfl) (fun _ _ _ h => h) (Or.inl ⟨by rfl, ?n5⟩) hS ?o5
        case n5 => (intro wy hSy; go_simp; try with_reducible rfl)
        simp only [Act.put]
        refine wpAnyH_ready (rs := [6]) (by kernel_rfl) (by simp) ?_
        refine AllReadyH.cons rfl (fun K hK => ?_) AllReadyH.nil
        go_simp
        go_wp2_with (go_at_call 27; refine HC.out.mono ?_; rintro e w6 ⟨A6, c6, rfl, H6, hb6⟩)
        have Hb6 : Hid (Below wc.heap.size wc w6) := (below_drewN (Below.refl wc.heap.size wc) 1).trans hb6.out
        refine hK.out _ _ ?_ (fun hS => ?_)
        · exact (Hb6.out.cell (p := ⟨b, 1, none⟩) hbl).trans hT1
        clear hK K
        have HK6 := Lib.hid (own_to8 HA.out.key Hb6.out)
        have HB6 := Lib.hid (blk8 HA.out.blk Hb6.out)
        have HD6 := Lib.hid (own_to8 HA.out.dat Hb6.out)
        have H6c : Hid (w6.ownsRow wc.heap.size 5 1 (.slice A6 np c6) np (D.map bv)) := H6
        obtain ⟨gc, hgc, _⟩ := own_blk8 HK6.out
        have Hgc := Lib.hid hgc
        clear hgc
        have hcell := HK6.out.cellAt (j * 2 + 1) (by omega)
        rw [flatK_get us j 1 hjl (by omega)] at hcell
        replace hcell : w6.cell? ⟨g, j * 2 + 1, none⟩ = some (.slice us[j].A us[j].n us[j].c) := hcell
        have hfro := World.ownsRow.frozenAt HK6.out (j * 2 + 1)
        have hj0 : (0 : Int) ≤ (j : Int) := by omega
        have hj1 : (j : Int) < (n1 : Int) := by omega
        refine wpAnyH_take (i := 7) (v := ?m7) rfl (by kernel_rfl) (by kernel_rfl) (by kernel_rfl) (fun _ _ _ h => h) (Or.inl ⟨by rfl, ?n7⟩) hS ?o7
        case n7 => (intro wy hSy; go_simp; try with_reducible rfl)
        simp only [Act.put]
        refine wpAnyH_take (i := 8) (v := ?m8) rfl (by kernel_rfl) (by kernel_rfl) (by kernel_rfl) (fun _ _ _ h => h) (Or.inl ⟨by rfl, ?n8⟩) hS ?o8
        case n8 => (intro wy hSy; go_simp; try with_reducible rfl)
        simp only [Act.put]
        refine wpAnyH_ready (rs := [9]) (by kernel_rfl) (by simp) ?_
        refine AllReadyH.cons rfl (fun K hK => ?_) AllReadyH.nil
        go_simp
        refine hK.out _ _ ?_ (fun hS => ?_)
        · exact (World.cell?_setCell_far w6 ⟨g, j * 2 + 1, none⟩ ⟨b, 1, none⟩ _ Hbg.out).trans hS
        clear hK K
        refine wpAnyH_done (by kernel_rfl) ?_ _
        go_wp2_with fail
        go_ret
        have hw7 : KPart (w6.setCell ⟨g, j * 2 + 1, none⟩ (.slice A6 np c6)) B (min M wc.heap.size) (setK ks X D).1 (some ⟨g, 0, none⟩) n1 c1 (us.set j ⟨⟨X, D⟩, A6, np, c6⟩) := by
          refine ⟨?_, ?_, by rw [List.length_set]; exact HA.out.len, fun p hp => ?_, fun p hp => ?_⟩
          · have h := (World.ownsRow.stored HK6.out (j * 2 + 1) (.slice A6 np c6)).1
            rw [flatK_put8 hjl ⟨⟨X, D⟩, A6, np, c6⟩ (HA.out.nam hjl).symm] at h
            exact h
          · rw [List.map_set]; exact Hst.out.1
          · rcases List.mem_or_eq_of_mem_set hp with hp | rfl
            · exact own_base8 (own_setb8 (own_to8 (HA.out.val p hp) Hb6.out) Hgc.out (by decide) _ _) (Nat.min_le_left _ _)
            · exact own_base8 (own_setb8 H6c.out Hgc.out (by decide) _ _) (Nat.min_le_right _ _)
          · rcases List.mem_or_eq_of_mem_set hp with hp | rfl
            · exact HA.out.nms p hp
            · exact hX
        have hd := own_rd8 (own_setb8 HD6.out Hgc.out (by decide) (j * 2 + 1) (.slice A6 np c6))
        exact ⟨by rw [Hok.out]; rfl, (fun _ => ⟨Ad, nd, cd, _, n1, c1, (Below.heap_setCell w6 ⟨g, j * 2 + 1, none⟩ _ b Hbg.out.symm).trans HB6.out, hd.1, hd.2, hw7.rdk⟩), (HA.out.bel.trans (Fr.of Hb6.out (Nat.le_trans HBw.out HA.out.siz))).set Hgc.out (by decide) HBg.out (j * 2 + 1) _⟩
    · have He := Lib.hid (Hf.out fun ⟨_, q, _⟩ => h20 q)
      rw [He.out]
      go_enter Tryd.func51, Tryd.ntmps51
      go_wp2_with fail
      refine HN.out.mono ?_
      rintro e w' ⟨rfl, hw⟩
      obtain rfl := hw.symm
      go_wp2_with fail
      go_ret
      exact ⟨rfl, (fun h => by cases h), Fr.refl _ _⟩
end Go.Proofs.YtmigapjkicddiaaDoor

namespace Go.Proofs.YtmigapjkicddiaaDoor
open Go.RowKit

theorem read_row (d : List UInt8) (F N m k : Nat) (hm : (m = F ∧ F ≤ d.length) ∨ (m = d.length ∧ d.length < F)) (hk : k = Nat.min (d.length - m) N) :
    splice (List.replicate N (bv 0)) 0 (((d.drop m).take k).map bv) = ((List.range N).map fun i => byteO d (F + i)).map bv := by
  have hk2 : k ≤ d.length - m ∧ k ≤ N ∧ (k = d.length - m ∨ k = N) := by
    rw [hk]
    simp only [Nat.min_def]
    split <;> omega
  clear hk
  apply List.ext_getElem
  · simp [splice]; omega
  intro i q1 q2
  have hi : i < N := by simp at q2; exact q2
  rw [List.getElem_map, List.getElem_map, List.getElem_range]
  simp only [splice, List.getElem_append, List.getElem_take, List.getElem_drop, List.getElem_replicate, List.getElem_map, List.length_take, List.length_replicate, List.length_map, List.length_drop]
  by_cases hd : F + i < d.length
  · rw [byteO_lt hd]
    (repeat' split) <;> first | rfl | (exfalso; omega) | (congr 2; omega)
  · rw [byteO_ge (by omega)]
    (repeat' split) <;> first | rfl | (exfalso; omega) | (congr 2; omega)

set_option maxRecDepth 10000 in
set_option maxHeartbeats 1000000 in
theorem kRead (Ad : Option Addr) (nd cd : Nat) (Ak : Option Addr) (nk ck : Nat) (s f n : Int) (d : List UInt8) (w : World) (hd : Rd w w.heap.size Ad nd d) (hnc : nd ≤ cd) (_ : cd ≤ 9223372036854775807) (hf : I64 f) :
    Calls Tryd.prog 17 #[oV Ad nd cd Ak nk ck s, .int .i64 f, .int .i64 n] w (TellB w (readO d f n)) := by
  have Hb := Lib.hid ((Below.refl w.heap.size w).alloc (Nat.le_refl _) (.cells #[.slice Ad nd cd, .slice Ak nk ck, .int .i64 s] 25))
  have Hd := Lib.hid (hd.below Hb.out)
  have Hh := Lib.hid (heap_alloc_new w (.cells #[.slice Ad nd cd, .slice Ak nk ck, .int .i64 s] 25))
  have Hl := Lib.hid hd.1
  have HS := Lib.hid (fun w => kPart f n w hf)
  clear hd
  by_cases hq : 0 ≤ f ∧ 0 ≤ n ∧ f + n ≤ 64
  · obtain ⟨h1, h2, h3⟩ := hq
    obtain ⟨F, rfl⟩ := Int.eq_ofNat_of_zero_le h1
    obtain ⟨N, rfl⟩ := Int.eq_ofNat_of_zero_le h2
    have he : partB (F : Int) (N : Int) = true := by unfold partB; simp; omega
    rw [he] at HS
    have hN : N ≤ 64 := by omega
    have HF := Lib.hid (show readO d (F : Int) (N : Int) = (List.range N).map fun i => byteO d (F + i) by unfold readO; rw [if_neg (by omega)]; rfl)
    rw [HF.out]
    clear HF
    have hmk := fun W : World => mkB8 N (by omega) W
    have hF0 : (0 : Int) ≤ (F : Int) := by omega
    clear he h1 h2 h3
    have two : (F ≤ nd) ∨ (nd < F) := by omega
    have fin : ∀ (W w4 : World) (g : Nat) (k m : Nat), Below w.heap.size w W → w.heap.size ≤ g → w4.heap[g]? = some (.cells (splice (List.replicate N (bv 0)) 0 (((d.drop m).take k).map bv)).toArray 5 (0, 0)) → Below w.heap.size W w4 → ((m = F ∧ F ≤ d.length) ∨ (m = d.length ∧ d.length < F)) → k = Nat.min (d.length - m) N → TellB w ((List.range N).map fun i => byteO d (F + i)) (.returned (.slice (some ⟨g, 0, none⟩) N N)) w4 := by
      intro W w4 g k m hb hg hh hb4 hm hk
      have hrow := read_row d F N m k hm hk
      rw [hrow] at hh
      have hown : w4.ownsRow w.heap.size 5 1 (.slice (some ⟨g, 0, none⟩) N N) N (((List.range N).map fun i => byteO d (F + i)).map bv) := own_shut8 hh (by simp) (by rw [Nat.mul_one, List.take_of_length_le (by simp)]) hg (Nat.le_refl _) (by simp only [maxLen]; omega)
      exact ⟨_, rfl, ⟨_, N, N, rfl, Rd.own hown, by omega⟩, hb.trans hb4⟩
    have FIN := Lib.hid fin
    clear fin
    obtain ⟨m, hm⟩ : ∃ m, m = min F nd := ⟨_, rfl⟩
    rcases two with t1 | t1
    · obtain rfl : m = F := by omega
      obtain ⟨k, hk⟩ : ∃ k, k = Nat.min (nd - m) N := ⟨_, rfl⟩
      have Hk := Lib.hid hk
      have hks : k ≤ nd - m := by rw [hk]; exact Nat.min_le_left _ _
      have hkn : k ≤ N := by rw [hk]; exact Nat.min_le_right _ _
      have Hks := Lib.hid hks
      have Hkn := Lib.hid hkn
      have t2 : ¬ nd < m := by omega
      clear hm hk hks hkn
      go_enter Tryd.func17, Tryd.ntmps17
      go_wp2_with fail
      refine (HS.out _).mono ?_
      rintro e w' ⟨rfl, hw⟩
      obtain rfl := hw.symm
      generalize w.alloc (.cells #[.slice Ad nd cd, .slice Ak nk ck, .int .i64 s] 25) = w1 at Hb Hd Hh ⊢
      go_upto_region 4 with fail
      have Hmc := Lib.hid (show madeCells #[.int .u8 0] N = (List.replicate N (bv 0)).toArray by apply Array.toList_inj.1; rw [toList_madeCells_one]; rfl)
      have Hown := Lib.hid (show (w1.alloc (.cells (madeCells #[.int .u8 0] N) 5)).heap[w1.heap.size]? = some (.cells (List.replicate N (bv 0)).toArray 5 (0, 0)) by rw [heap_alloc_new, Hmc.out])
      have Hb2 := Lib.hid ((Below.refl w1.heap.size w1).alloc (Nat.le_refl _) (.cells (madeCells #[.int .u8 0] N) 5))
      clear hmk Hmc
      generalize w1.alloc (.cells (madeCells #[.int .u8 0] N) 5) = w2 at Hown Hb2 ⊢
      obtain ⟨g, hg⟩ : ∃ g, g = w1.heap.size := ⟨_, rfl⟩
      rw [← hg] at Hown ⊢
      have Hg := Lib.hid hg
      clear hg
      have Hbb := Lib.hid (blk8 Hh.out Hb2.out)
      obtain ⟨z0, z1, z2⟩ := objs_of Hbb.out
      go_wp2_with (refine wpList_copy_splice rfl (.tmp 14) (.tmp 22) 22 22 rfl 5 Tryd.underlying22 Tryd.sizeB _ _ _ _ _ _ rfl rfl g 0 _ _ Hown.out (((d.drop m).take k).map bv) (by rw [List.length_map, List.length_take, List.length_drop, Hl.out]; have := Hk.out; have := Hks.out; omega) (fun h0 => by obtain ⟨ad, e1, e2, e3⟩ := (((Hd.out.below (Hb2.out.mono Hb.out.size)).drop t1 hnc).take Hks.out).valsB h0; exact ⟨rfl, ad, e1, e3⟩) (by rw [List.length_map, List.length_take, List.length_drop, Hl.out, List.length_replicate]; have := Hkn.out; omega) (bv_one _) w.heap.size w1 (Hb2.out.mono Hb.out.size) (by rw [Hg.out]; exact Hb.out.size) ?_; intro w3 H3 hb3)
      all_goals go_ret
      all_goals exact FIN.out w1 w3 g k m Hb.out (by rw [Hg.out]; exact Hb.out.size) H3.out hb3 (.inl ⟨rfl, by rw [Hl.out]; exact t1⟩) (by rw [Hl.out]; exact Hk.out)
    · obtain rfl : m = nd := by omega
      obtain ⟨k, hk⟩ : ∃ k, k = Nat.min (m - m) N := ⟨_, rfl⟩
      have Hk := Lib.hid hk
      have hks : k ≤ m - m := by rw [hk]; exact Nat.min_le_left _ _
      have hkn : k ≤ N := by rw [hk]; exact Nat.min_le_right _ _
      have Hks := Lib.hid hks
      have Hkn := Lib.hid hkn
      obtain rfl : k = 0 := by rw [hk, Nat.sub_self]; exact Nat.zero_min _
      clear hm hk hks hkn Hks Hkn
      go_enter Tryd.func17, Tryd.ntmps17
      go_wp2_with fail
      refine (HS.out _).mono ?_
      rintro e w' ⟨rfl, hw⟩
      obtain rfl := hw.symm
      generalize w.alloc (.cells #[.slice Ad m cd, .slice Ak nk ck, .int .i64 s] 25) = w1 at Hb Hd Hh ⊢
      go_upto_region 4 with fail
      have Hmc := Lib.hid (show madeCells #[.int .u8 0] N = (List.replicate N (bv 0)).toArray by apply Array.toList_inj.1; rw [toList_madeCells_one]; rfl)
      have Hown := Lib.hid (show (w1.alloc (.cells (madeCells #[.int .u8 0] N) 5)).heap[w1.heap.size]? = some (.cells (List.replicate N (bv 0)).toArray 5 (0, 0)) by rw [heap_alloc_new, Hmc.out])
      have Hb2 := Lib.hid ((Below.refl w1.heap.size w1).alloc (Nat.le_refl _) (.cells (madeCells #[.int .u8 0] N) 5))
      clear hmk Hmc
      generalize w1.alloc (.cells (madeCells #[.int .u8 0] N) 5) = w2 at Hown Hb2 ⊢
      obtain ⟨g, hg⟩ : ∃ g, g = w1.heap.size := ⟨_, rfl⟩
      rw [← hg] at Hown ⊢
      have Hg := Lib.hid hg
      clear hg
      have Hbb := Lib.hid (blk8 Hh.out Hb2.out)
      obtain ⟨z0, z1, z2⟩ := objs_of Hbb.out
      go_wp2_with (refine wpList_copy_splice rfl (.tmp 14) (.tmp 22) 22 22 rfl 5 Tryd.underlying22 Tryd.sizeB _ _ _ _ _ _ rfl rfl g 0 _ _ Hown.out (((d.drop m).take 0).map bv) (by rw [List.length_map, List.length_take, List.length_drop, Hl.out]; simp) (fun h0 => by simp at h0) (by rw [List.length_map, List.length_take, List.length_drop, Hl.out, List.length_replicate]; simp) (bv_one _) w.heap.size w1 (Hb2.out.mono Hb.out.size) (by rw [Hg.out]; exact Hb.out.size) ?_; intro w3 H3 hb3)
      all_goals go_ret
      all_goals exact FIN.out w1 w3 g 0 m Hb.out (by rw [Hg.out]; exact Hb.out.size) H3.out hb3 (.inr ⟨Hl.out.symm, by rw [Hl.out]; exact t1⟩) (by rw [Hl.out]; exact Hk.out)
  · have he : partB f n = false := by unfold partB; rw [Bool.eq_false_iff]; simp; omega
    rw [he] at HS
    have HF := Lib.hid (show readO d f n = [] by unfold readO; rw [if_pos (by omega)])
    rw [HF.out]
    clear he HF
    go_enter Tryd.func17, Tryd.ntmps17
    go_wp2_with fail
    refine (HS.out _).mono ?_
    rintro e w' ⟨rfl, hw⟩
    obtain rfl := hw.symm
    go_wp2_with fail
    go_ret
    exact ⟨_, rfl, ⟨none, 0, 0, rfl, Rd.nil, by omega⟩, Hb.out⟩
end Go.Proofs.YtmigapjkicddiaaDoor
