/- Objects, plain: an object behind an op. Objects: contract of the document's Do where it is refused. Package object: isSeq, isPart, isName, matches, require, exists, continues; bytes.Equal, bytes.Clone, sameKey. Package object: isName, matches, the two closures of Get and At, sameKey. Package object: slices.IndexFunc at keys (two closures), Get, At. -/
import Derived.Test.YtmigapjkicddiaaDoorMh

namespace Go.Proofs.YtmigapjkicddiaaDoor

/-- what the op of a kind makes: the object, whether it is there, whether it goes on, the error -/
def stepO (o : Oj) (t : Bool) (p : Opr) : Oj × Bool × Bool × Int :=
  if p.k ≤ 4 then (o, t, (guardO o t p).1, (guardO o t p).2)
  else if p.k ≤ 7 then (match dataO o.data p with
    | none => (o, t, true, 2)
    | some d => (⟨d, o.keys, o.seq⟩, t || decide (p.k = 5), true, 0))
  else if p.k = 8 then (⟨p.data, o.keys, o.seq⟩, true, true, if p.data.length > 64 then 2 else 0)
  else if p.k = 9 then (⟨o.data, (setK o.keys p.name p.data).1, o.seq⟩, true, true, (setK o.keys p.name p.data).2)
  else if p.k = 10 then (⟨o.data, dropK o.keys p.name, o.seq⟩, t, true, 0)
  else if p.k = 11 then (⟨o.data, (cloneK o.keys p.name o.data).1, o.seq⟩, true, true, (cloneK o.keys p.name o.data).2)
  else if p.k = 12 then (⟨o.data, o.keys, p.n⟩, true, true, if p.n < 0 ∨ p.n > 1099511627776 then 2 else 0)
  else if p.k = 13 then (o, false, true, 0)
  else (⟨atK o.data o.keys p.name, o.keys, o.seq⟩, t, true, if (atK o.data o.keys p.name).length > 64 then 2 else 0)
/-- what is told of it -/
def endO (r : Oj × Bool × Bool × Int) : Oj × Bool × Bool × Int :=
  if r.2.2.2 = 0 then (if r.2.1 = true then r.1 else oj0, r.2.1, r.2.2.1, 0) else (oj0, false, false, r.2.2.2)
/-- an object behind an op -/
def doO (o : Oj) (t : Bool) (p : Opr) : Oj × Bool × Bool × Int :=
  if mayO o = true ∧ 1 ≤ p.k ∧ p.k ≤ 14 then endO (stepO (if t = true then o else oj0) t p) else (oj0, false, false, 1)
end Go.Proofs.YtmigapjkicddiaaDoor

namespace Go.Proofs.YtmigapjkicddiaaDoor
open Go.RowKit

set_option maxRecDepth 10000 in
set_option maxHeartbeats 8000000 in
theorem RDo8_no (Ad : Option Addr) (nd cd : Nat) (Ak : Option Addr) (nk ck : Nat) (s : Int) (d : List UInt8) (ks : List Ky) (t : Bool) (k f n : Int) (X : List UInt8) (Ap : Option Addr) (np cp : Nat) (D : List UInt8) (B : Nat) (w : World) (hB : B ≤ w.heap.size) (hd : d.length = nd) (hr : RdK w B Ak nk ks)
    (hno : ¬ (mayO ⟨d, ks, s⟩ = true ∧ 1 ≤ k ∧ k ≤ 14)) :
    Calls Tryd.prog 23 #[oV Ad nd cd Ak nk ck s, .bool t, pV k f n X Ap np cp] w fun e w' => e = .returned (.tuple #[oV0, .bool false, .bool false, .int .i64 1]) ∧ doO ⟨d, ks, s⟩ t ⟨k, f, n, X, D⟩ = (oj0, false, false, 1) ∧ Below w.heap.size w w' := by
  have He := Lib.hid (show doO ⟨d, ks, s⟩ t ⟨k, f, n, X, D⟩ = (oj0, false, false, 1) by unfold doO; rw [if_neg hno])
  have HT := Lib.hid (three_objs w (.cells #[.slice Ad nd cd, .slice Ak nk ck, .int .i64 s] 25) (.cells #[.int .i64 k, .int .i64 f, .int .i64 n, .string ⟨X.toArray⟩, .slice Ap np cp] 38) (.cells #[.slice none 0 0, .slice none 0 0, .int .i64 0] 25))
  have Hr := Lib.hid (hr.below (HT.out.2.2.2.mono hB))
  have HBw := Lib.hid hB
  have Hno := Lib.hid hno
  clear hr hB hno
  go_enter Tryd.func23, Tryd.ntmps23
  go_upto_region 1 with fail
  generalize ((w.alloc (.cells #[.slice Ad nd cd, .slice Ak nk ck, .int .i64 s] 25)).alloc (.cells #[.int .i64 k, .int .i64 f, .int .i64 n, .string ⟨X.toArray⟩, .slice Ap np cp] 38)).alloc (.cells #[.slice none 0 0, .slice none 0 0, .int .i64 0] 25) = w1 at HT Hr ⊢
  obtain ⟨b2, hb2⟩ : ∃ b, b = w.heap.size + 1 := ⟨_, rfl⟩
  obtain ⟨b1, hb1⟩ : ∃ b, b = w.heap.size := ⟨_, rfl⟩
  obtain ⟨z, hze⟩ : ∃ z, z = w.heap.size + 2 := ⟨_, rfl⟩
  have Hh := Lib.hid HT.out.1
  have Hp := Lib.hid HT.out.2.1
  have Hz := Lib.hid HT.out.2.2.1
  have Hb := Lib.hid HT.out.2.2.2
  have Hbz := Lib.hid (show w.heap.size ≤ z ∧ b1 < z by omega)
  rw [← hze] at Hz ⊢
  rw [← hb2] at Hp ⊢
  rw [← hb1] at Hh ⊢
  clear HT hb1 hb2 hze
  obtain ⟨c0, c1, c2⟩ := objs_of Hh.out
  have HM := Lib.hid (RMay8 Ad nd cd Ak nk ck s d ks B w1 hd Hr.out (Nat.le_trans HBw.out Hb.out.size))
  go_wp2_with fail
  refine HM.out.mono ?_
  rintro e w2 ⟨rfl, hb⟩
  replace Hp := Lib.hid (blk8 Hp.out hb)
  replace Hz := Lib.hid (blk8 Hz.out hb)
  replace Hb := Lib.hid (Hb.out.trans (hb.mono Hb.out.size))
  clear hb HM c0 c1 c2
  have p0 := (PAt.of Hp.out).c0
  obtain ⟨z0, z1, z2⟩ := objs_of Hz.out
  have y0 := free_blk Hz.out 0
  have y1 := free_blk Hz.out 1
  have y2 := free_blk Hz.out 2
  have P8 := Lib.hid (put3_at Hz.out (.slice none 0 0) (.slice none 0 0) (.int .i64 0))
  have B8 := Lib.hid (put3_below Hb.out Hbz.out.1 (.slice none 0 0) (.slice none 0 0) (.int .i64 0) (z := z))
  obtain ⟨g, hg⟩ : ∃ g, g = mayO ⟨d, ks, s⟩ := ⟨_, rfl⟩
  rw [← hg] at Hno ⊢
  clear hg
  have hways : g = false ∨ (g = true ∧ k < 1) ∨ (g = true ∧ 1 ≤ k ∧ 14 < k) := by
    have h := Hno.out
    cases g
    · exact .inl rfl
    · by_cases q : k < 1
      · exact .inr (.inl ⟨rfl, q⟩)
      · exact .inr (.inr ⟨rfl, by omega, Int.not_le.1 fun q2 => h ⟨rfl, by omega, q2⟩⟩)
  clear Hno
  rcases hways with rfl | ⟨rfl, q⟩ | ⟨rfl, q1, q2⟩
  all_goals
    go_wp2_with fail
    clear p0 z0 z1 z2 y0 y1 y2
    change bodyPost _ _ _ _ _ (put3 w2 z (.slice none 0 0) (.slice none 0 0) (.int .i64 0))
    generalize put3 w2 z (.slice none 0 0) (.slice none 0 0) (.int .i64 0) = w4 at P8 B8 ⊢
    obtain ⟨z0, z1, z2⟩ := objs_of P8.out
    exact bodyPost_ret (v := .tuple #[oV0, .bool false, .bool false, .int .i64 1]) (by simp [results, Tryd.results23, go_sem, z0, z1, z2]) rfl ⟨rfl, He.out, B8.out⟩
end Go.Proofs.YtmigapjkicddiaaDoor

namespace Go.Proofs.YtmigapjkicddiaaDoor
open Go.RowKit

set_option maxRecDepth 10000 in
set_option maxHeartbeats 400000 in
theorem kSeq (n : Int) (w : World) : Calls Tryd.prog 28 #[.int .i64 n] w fun e w' => e = .returned (.bool (decide (0 ≤ n) && decide (n ≤ 1099511627776))) ∧ w' = w := by
  by_cases h1 : 0 ≤ n
  · by_cases h2 : n ≤ 1099511627776
    all_goals
      go_enter Tryd.func28, Tryd.ntmps28
      go_wp2_with fail
      go_ret
      exact ⟨by simp [h1, h2], by first | rfl | trivial⟩
  · go_enter Tryd.func28, Tryd.ntmps28
    go_wp2_with fail
    go_ret
    exact ⟨by simp; omega, by first | rfl | trivial⟩
/-- may there be n bytes of data from f on? -/
def partB (f n : Int) : Bool := decide (0 ≤ f) && (decide (0 ≤ n) && decide (f + n ≤ 64))
set_option maxRecDepth 10000 in
set_option maxHeartbeats 400000 in
theorem kPart (f n : Int) (w : World) (hf : I64 f) : Calls Tryd.prog 32 #[.int .i64 f, .int .i64 n] w fun e w' => e = .returned (.bool (partB f n)) ∧ w' = w := by
  obtain ⟨_, hf2⟩ := hf
  obtain ⟨r, hr⟩ : ∃ r, r = partB f n := ⟨_, rfl⟩
  rw [← hr]
  have HR := Lib.hid hr
  clear hr
  by_cases h1 : 0 ≤ f
  · have hw : IntKind.i64.wrap (64 - f) = 64 - f := by rw [IntKind.wrap_i64]; omega
    by_cases h2 : 0 ≤ n
    · by_cases h3 : n ≤ 64 - f
      · have He := Lib.hid (show r = true by rw [HR.out]; unfold partB; simp [h1, h2]; omega)
        clear HR
        go_enter Tryd.func32, Tryd.ntmps32
        go_wp2_with fail
        go_ret
        exact ⟨by rw [He.out]; simp_all, by first | rfl | trivial⟩
      · have He := Lib.hid (show r = false by rw [HR.out]; unfold partB; simp [h1, h2]; omega)
        clear HR
        go_enter Tryd.func32, Tryd.ntmps32
        go_wp2_with fail
        go_ret
        exact ⟨by rw [He.out]; simp_all, by first | rfl | trivial⟩
    · have He := Lib.hid (show r = false by rw [HR.out]; unfold partB; simp [h2])
      clear HR
      go_enter Tryd.func32, Tryd.ntmps32
      go_wp2_with fail
      go_ret
      exact ⟨by rw [He.out]; simp_all, by first | rfl | trivial⟩
  · have He := Lib.hid (show r = false by rw [HR.out]; unfold partB; simp [h1])
    clear HR
    go_enter Tryd.func32, Tryd.ntmps32
    go_wp2_with fail
    go_ret
    exact ⟨by rw [He.out]; simp_all, by first | rfl | trivial⟩
set_option maxRecDepth 10000 in
/-- an error as a value -/
def failV (t : Bool) (e : Int) : Value := if t = true then .nilIface else .iface 82 (.agg #[.iface 28 (.int .i64 e)])
set_option maxRecDepth 10000 in
set_option maxHeartbeats 400000 in
theorem kReq (t : Bool) (e : Int) (w : World) : Calls Tryd.prog 45 #[.bool t, .int .i64 e] w fun ev w' => ev = .returned (failV t e) ∧ w' = w := by
  cases t
  all_goals
    go_enter Tryd.func45, Tryd.ntmps45
    go_wp2_with fail
    go_ret
    exact ⟨rfl, by first | rfl | trivial⟩
def existsB (t : Bool) (k : Int) : Bool := if k = 5 ∨ k = 8 ∨ k = 9 ∨ k = 11 ∨ k = 12 then true else if k = 13 then false else t
set_option maxRecDepth 10000 in
set_option maxHeartbeats 400000 in
theorem kExists (t : Bool) (k : Int) (w : World) : Calls Tryd.prog 39 #[.bool t, .int .i64 k] w fun ev w' => ev = .returned (.bool (existsB t k)) ∧ w' = w := by
  obtain ⟨r, hr⟩ : ∃ r, r = existsB t k := ⟨_, rfl⟩
  rw [← hr]
  have HR := Lib.hid hr
  clear hr
  by_cases hk : k = 5 ∨ k = 8 ∨ k = 9 ∨ k = 11 ∨ k = 12
  · have He := Lib.hid (show r = true by rw [HR.out]; unfold existsB; rw [if_pos hk])
    clear HR
    rcases hk with rfl | rfl | rfl | rfl | rfl
    all_goals
      go_enter Tryd.func39, Tryd.ntmps39
      go_wp2_with fail
      go_ret
      exact ⟨by first | (rw [He.out]; done) | (rw [He.out]; rfl), by first | rfl | trivial⟩
  · by_cases h13 : k = 13
    · have He := Lib.hid (show r = false by rw [HR.out]; unfold existsB; rw [if_neg hk, if_pos h13])
      clear HR hk
      subst h13
      go_enter Tryd.func39, Tryd.ntmps39
      go_wp2_with fail
      go_ret
      exact ⟨by first | (rw [He.out]; done) | (rw [He.out]; rfl), by first | rfl | trivial⟩
    · have He := Lib.hid (show r = t by rw [HR.out]; unfold existsB; rw [if_neg hk, if_neg h13])
      clear HR
      have k5 : ¬ k = 5 := fun h => hk (.inl h)
      have k8 : ¬ k = 8 := fun h => hk (.inr (.inl h))
      have k9 : ¬ k = 9 := fun h => hk (.inr (.inr (.inl h)))
      have k11 : ¬ k = 11 := fun h => hk (.inr (.inr (.inr (.inl h))))
      have k12 : ¬ k = 12 := fun h => hk (.inr (.inr (.inr (.inr h))))
      clear hk
      go_enter Tryd.func39, Tryd.ntmps39
      go_wp2_with fail
      go_ret
      exact ⟨by first | (rw [He.out]; done) | (rw [He.out]; rfl), by first | rfl | trivial⟩
set_option maxRecDepth 10000 in
set_option maxHeartbeats 1000000 in
theorem kGoes (Ad : Value) (Ak : Value) (s k f n : Int) (X : List UInt8) (v : Value) (w : World) :
    Calls Tryd.prog 40 #[.agg #[Ad, Ak, .int .i64 s], .agg #[.int .i64 k, .int .i64 f, .int .i64 n, .string ⟨X.toArray⟩, v]] w fun e w' => e = .returned (.bool (!decide (k = 4) || decide (s < n))) ∧ Below w.heap.size w w' := by
  have HT := Lib.hid (two_objs w (.cells #[Ad, Ak, .int .i64 s] 25) (.cells #[.int .i64 k, .int .i64 f, .int .i64 n, .string ⟨X.toArray⟩, v] 38))
  go_enter Tryd.func40, Tryd.ntmps40
  go_upto_region 1 with fail
  generalize (w.alloc (.cells #[Ad, Ak, .int .i64 s] 25)).alloc (.cells #[.int .i64 k, .int .i64 f, .int .i64 n, .string ⟨X.toArray⟩, v] 38) = w1 at HT ⊢
  have Hh := Lib.hid (objs_of HT.out.1)
  have Hp := Lib.hid (PAt.of HT.out.2.1)
  have Hb := Lib.hid HT.out.2.2
  obtain ⟨b2, hb2⟩ : ∃ b, b = w.heap.size + 1 := ⟨_, rfl⟩
  obtain ⟨b1, hb1⟩ : ∃ b, b = w.heap.size := ⟨_, rfl⟩
  rw [← hb2] at Hp ⊢
  rw [← hb1] at Hh ⊢
  clear HT hb1 hb2
  obtain ⟨c0, c1, c2⟩ := Hh.out
  have p0 := Hp.out.c0
  have p2 := Hp.out.c2
  by_cases k4 : k = 4
  · subst k4
    go_wp2_with fail
    go_ret
    exact ⟨by simp, Hb.out⟩
  · have He := Lib.hid (show (!decide (k = 4) || decide (s < n)) = true by simp [k4])
    go_wp2_with fail
    go_ret
    exact ⟨by first | (rw [He.out]; done) | (rw [He.out]; rfl) | simp_all, Hb.out⟩
theorem beq_dec8 (l l' : List UInt8) : (l == l') = decide (l = l') := by rw [Bool.eq_iff_iff]; simp

set_option maxRecDepth 10000 in
set_option maxHeartbeats 400000 in
theorem kEqual (A A' : Option Addr) (n c n' c' : Nat) (l l' : List UInt8) (B B' : Nat) (w : World) (hr : Rd w B A n l) (hr' : Rd w B' A' n' l') :
    Calls Tryd.prog 33 #[.slice A n c, .slice A' n' c'] w fun e w' => e = .returned (.bool (decide (l = l'))) ∧ w' = w := by
  have h1 := run_str (P := Tryd.prog) (c := c) Tryd.underlying22 Tryd.underlying5 Tryd.underlying9 hr
  have h2 := run_str (P := Tryd.prog) (c := c') Tryd.underlying22 Tryd.underlying5 Tryd.underlying9 hr'
  go_enter Tryd.func33, Tryd.ntmps33
  go_wp2
  go_ret
  refine ⟨?_, by first | rfl | trivial⟩
  rw [← beq_dec8]
  rfl
set_option maxRecDepth 10000 in
theorem own_nil8 (w : World) (B : Nat) : w.ownsRow B 5 1 (.slice none 0 0) 0 (([] : List UInt8).map bv) := ⟨rfl, .inl ⟨rfl, rfl⟩⟩

set_option maxRecDepth 10000 in
set_option maxHeartbeats 400000 in
theorem kClone (A : Option Addr) (n c B : Nat) (l : List UInt8) (w : World) (hr : Rd w B A n l) (hB : B ≤ w.heap.size) (hn : n ≤ 137438953400) :
    Calls Tryd.prog 27 #[.slice A n c] w fun e w' => Out w l e w' := by
  obtain ⟨i, hi, hz0, hz1, hz2⟩ := info_parts Tryd.infoB
  rcases A with _ | ad
  · have h0 : n = 0 := by
      rcases Nat.eq_zero_or_pos n with h | h
      · exact h
      · obtain ⟨_, hc, _⟩ := hr.2 h
        cases hc
    subst h0
    obtain rfl : l = [] := List.eq_nil_of_length_eq_zero hr.1
    have heq := Lib.run_eql_slice_nil (P := Tryd.prog) w 22 5 none 0 c 0 0 Tryd.underlying22
    go_enter Tryd.func27, Tryd.ntmps27
    go_wp2
    go_ret
    exact Out.mk (own_nil8 _ _) (Below.refl _ _)
  · have heq := Lib.run_eql_slice_nil (P := Tryd.prog) w 22 5 (some ad) n c 0 0 Tryd.underlying22
    have hown : (w.alloc (.cells #[] 5)).ownsRow w.heap.size 5 1 (.slice (some ⟨w.heap.size, 0, none⟩) 0 0) 0 (([] : List UInt8).map bv) := World.ownsRow_lit (base := w.heap.size) (e := 5) (size := 1) w #[] 0 (Nat.le_refl _) (by simp only [maxLen]; omega) rfl
    have Hown := Lib.hid hown
    clear hown
    go_enter Tryd.func27, Tryd.ntmps27
    go_wp2_with (at_builtin; refine wpList_append_rd rfl (.tmp 5) (.tmp 6) 22 rfl w.heap.size 5 i (.int .u8 0) 1 Tryd.underlying22 hi hz0 hz1 hz2 rfl _ 0 _ rfl Hown.out (some ad) n c (l.map bv) rfl (by rw [List.length_map, hr.1]) (hr.alloc hB _).src (bv_one _) (by simp only [maxLen]; omega) (by omega) (by simp) ?_; intro v3 w3 hown3 hg3)
    go_ret
    simp only [Nat.zero_add, List.map_nil, List.nil_append] at hown3
    exact Out.mk hown3 (((Below.refl _ w).alloc (Nat.le_refl _) _).grown hg3 (by simp) (fun q hq => (Hown.out.lt q hq).1))
end Go.Proofs.YtmigapjkicddiaaDoor

namespace Go.Proofs.YtmigapjkicddiaaDoor
open Go.RowKit

set_option maxRecDepth 10000 in
set_option maxHeartbeats 1000000 in
theorem kName (X : List UInt8) (w : World) (hX : X.length ≤ 9223372036854775807) :
    Calls Tryd.prog 29 #[.string ⟨X.toArray⟩] w fun e w' => e = .returned (.bool (nameB X)) ∧ w' = w := by
  have Hsz := Lib.hid (show (⟨X.toArray⟩ : ByteArray).size = X.length by simp [ByteArray.size])
  obtain ⟨v, hv⟩ : ∃ v, v = nameB X := ⟨_, rfl⟩
  rw [← hv]
  have HN := Lib.hid (show v = (decide (1 ≤ X.length ∧ X.length ≤ 12) && X.all nmB) from hv)
  clear hv
  go_enter Tryd.func29, Tryd.ntmps29
  go_wp2_with fail
  go_loopw [7] (fun iv wr => wr = w ∧ ∃ j : Nat, j ≤ X.length ∧ iv = .int .i64 j ∧ Hid ((X.take j).all nmB = true)) (fun iv _ => X.length - (intOf iv).toNat)
  case atStart => exact ⟨rfl, 0, Nat.zero_le _, rfl, rfl⟩
  case round =>
    obtain ⟨rfl, j, hj, rfl, Hj⟩ := hrel
    by_cases hlt : j < X.length
    · have Hst := Lib.hid (name_succ X j hlt)
      have Hin := Lib.hid (List.getElem_mem hlt)
      obtain ⟨r, hr⟩ : ∃ r, r = nmB X[j] := ⟨_, rfl⟩
      have Hv := Lib.hid (show ∀ h' : j < (⟨X.toArray⟩ : ByteArray).size, r = nmB ((⟨X.toArray⟩ : ByteArray)[j]'h') from fun _ => hr)
      have Hno := Lib.hid (show r = false → v = false from fun h => by
        rw [HN.out, show X.all nmB = false from List.all_eq_false.2 ⟨_, Hin.out, by rw [← hr, h]; simp⟩, Bool.and_false])
      rw [← hr] at Hst
      clear Hin hr
      go_wp2_with fail
      all_goals first
        | (have hr : r = false := Bool.eq_false_iff.2 fun h => by
             rw [Hv.out (by rw [Hsz.out]; exact hlt)] at h
             simp only [nmB, Bool.or_eq_true, decide_eq_true_eq] at h
             try simp only [bne_iff_ne, ne_eq] at *
             omega
           have He := Hno.out hr
           go_ret
           exact ⟨by first | (rw [He]; done) | (rw [He]; rfl), by first | rfl | trivial⟩)
        | (have hr : r = true := by
             rw [Hv.out (by rw [Hsz.out]; exact hlt)]
             simp only [nmB, Bool.or_eq_true, decide_eq_true_eq]
             try simp only [bne_eq_false_iff_eq] at *
             omega
           go_roundw
           case rel => exact ⟨by first | rfl | trivial, j + 1, by omega, by go_num, by show _ = _; rw [Hst.out, Hj.out, hr]; rfl⟩
           case measure => simp [intOf]; omega)
    · obtain rfl : j = X.length := by omega
      have He := Lib.hid (show v = decide (1 ≤ X.length ∧ X.length ≤ 12) by rw [HN.out]; have h := Hj.out; rw [List.take_length] at h; rw [h, Bool.and_true])
      by_cases h1 : 1 ≤ X.length
      · by_cases h2 : X.length ≤ 12
        · have Hf := Lib.hid (show v = true by rw [He.out]; simp [h1, h2])
          go_wp2_with fail
          go_ret
          exact ⟨by first | (rw [Hf.out]; done) | (rw [Hf.out]; rfl) | (rw [Hf.out]; simp; omega) | (rw [Hf.out]; simp; done), by first | rfl | trivial⟩
        · have Hf := Lib.hid (show v = false by rw [He.out]; simp [h2])
          go_wp2_with fail
          go_ret
          exact ⟨by first | (rw [Hf.out]; done) | (rw [Hf.out]; rfl) | (rw [Hf.out]; simp; omega) | (rw [Hf.out]; simp; done), by first | rfl | trivial⟩
      · have Hf := Lib.hid (show v = false by rw [He.out]; simp [h1])
        go_wp2_with fail
        go_ret
        exact ⟨by first | (rw [Hf.out]; done) | (rw [Hf.out]; rfl) | (rw [Hf.out]; simp; omega) | (rw [Hf.out]; simp; done), by first | rfl | trivial⟩

set_option maxRecDepth 10000 in
set_option maxHeartbeats 1000000 in
theorem kMatches (m X : List UInt8) (w : World) (hm : m.length ≤ 9223372036854775807) (hX : X.length ≤ 9223372036854775807) :
    Calls Tryd.prog 31 #[.string ⟨m.toArray⟩, .string ⟨X.toArray⟩] w fun e w' => e = .returned (.bool (forN m X)) ∧ Below w.heap.size w w' := by
  have Hm := Lib.hid (show (⟨m.toArray⟩ : ByteArray).size = m.length by simp [ByteArray.size])
  have HX := Lib.hid (show (⟨X.toArray⟩ : ByteArray).size = X.length by simp [ByteArray.size])
  have Hb := Lib.hid (Below.refl w.heap.size w)
  by_cases h0 : X = []
  · subst h0
    have He := Lib.hid (forN_nil (k := m) (n := []) rfl)
    obtain ⟨v, hv⟩ : ∃ v, v = forN m [] := ⟨_, rfl⟩
    rw [← hv] at He ⊢
    clear hv
    go_enter Tryd.func31, Tryd.ntmps31
    go_wp2_with fail
    go_quiet (fail)
    go_wp2_with fail
    go_ret
    exact ⟨by first | (rw [He.out]; done) | (rw [He.out]; rfl), below_drewN Hb.out _⟩
  · have hx0 : (X == []) = false := by simpa using h0
    have hxl : 0 < X.length := List.length_pos_iff.2 h0
    obtain ⟨v, hv⟩ : ∃ v, v = forN m X := ⟨_, rfl⟩
    rw [← hv]
    have Hv := Lib.hid hv
    clear hv
    by_cases hl : Op.bytesLess m X = true
    · have He := Lib.hid (show v = false by rw [Hv.out]; exact forN_no hl)
      clear Hv
      go_enter Tryd.func31, Tryd.ntmps31
      go_wp2_with fail
      go_quiet (fail)
      go_wp2_with fail
      go_ret
      exact ⟨by first | (rw [He.out]; done) | (rw [He.out]; rfl), below_drewN Hb.out _⟩
    · have hl2 : Op.bytesLess m X = false := by simpa using hl
      have hml : 0 < m.length := by
        rcases Nat.eq_zero_or_pos m.length with h | h
        · exfalso
          obtain rfl := List.eq_nil_of_length_eq_zero h
          obtain ⟨y, l, rfl⟩ := List.exists_cons_of_ne_nil h0
          exact absurd hl2 (by simp [Op.bytesLess])
        · exact h
      have hs1 : 0 < (⟨m.toArray⟩ : ByteArray).size := by rw [Hm.out]; exact hml
      have hs2 : 0 < (⟨X.toArray⟩ : ByteArray).size := by rw [HX.out]; exact hxl
      have Hf := Lib.hid (forN_at hl2 hxl hml hs1 hs2)
      rw [← Hv.out] at Hf
      have hf := Hf.out.symm
      clear Hv Hf
      cases v
      all_goals
        go_enter Tryd.func31, Tryd.ntmps31
        go_wp2_with fail
        go_quiet (fail)
        go_wp2_with fail
        go_ret
        exact ⟨by first | rfl | simp_all, below_drewN Hb.out _⟩
end Go.Proofs.YtmigapjkicddiaaDoor

namespace Go.Proofs.YtmigapjkicddiaaDoor
open Go.RowKit

theorem box_key (w : World) (x y : Value) (t : TypeId) : (w.alloc (.cells #[x, y] t)).cell? ⟨w.heap.size, 0, none⟩ = some x ∧ (w.alloc (.cells #[x, y] t)).cell? ⟨w.heap.size, 1, none⟩ = some y := by
  refine ⟨?_, ?_⟩ <;> (rw [cell_blk (heap_alloc_new w _)]; rfl)
theorem bel8 {w w1 w2 : World} {B : Nat} (hB : B ≤ w.heap.size) (h1 : Hid (Below B w w1)) (h2 : Below w1.heap.size w1 w2) : Hid (Below B w w2) := h1.out.trans (h2.mono (Nat.le_trans hB h1.out.size)) 


set_option maxRecDepth 10000 in
set_option maxHeartbeats 1000000 in
theorem kGet1 (p : Nat) (m X : List UInt8) (v : Value) (w : World) (hp : w.cell? ⟨p, 0, none⟩ = some (.string ⟨X.toArray⟩)) :
    Calls Tryd.prog 26 #[.agg #[.string ⟨m.toArray⟩, v], .pointer (some ⟨p, 0, none⟩)] w fun e w' => e = .returned (.bool (decide (m = X))) ∧ Below w.heap.size w w' := by
  have hb := (Below.refl w.heap.size w).alloc (Nat.le_refl _) (.cells #[.string ⟨m.toArray⟩, v] 48)
  have hp2 := (hb.cell (p := ⟨p, 0, none⟩) (World.block_lt_of_cell? w _ hp)).trans hp
  have c0 := (box_key w (.string ⟨m.toArray⟩) v 48).1
  have Hb := Lib.hid hb
  clear hb hp
  go_enter Tryd.func26, Tryd.ntmps26
  go_upto_region 1 with fail
  generalize w.alloc (.cells #[.string ⟨m.toArray⟩, v] 48) = w1 at Hb hp2 c0 ⊢
  by_cases hx : m = X
  · have hb : (m == X) = true := by simpa using hx
    have He := Lib.hid (show decide (m = X) = true from decide_eq_true hx)
    go_wp2_with fail
    go_ret
    exact ⟨by rw [He.out]; rfl, Hb.out⟩
  · have hb : (m == X) = false := by simpa using hx
    have He := Lib.hid (show decide (m = X) = false from decide_eq_false hx)
    go_wp2_with fail
    go_ret
    exact ⟨by rw [He.out]; rfl, Hb.out⟩
set_option maxRecDepth 10000 in
set_option maxHeartbeats 1000000 in
theorem kAt1 (p : Nat) (m X : List UInt8) (v : Value) (w : World) (hp : w.cell? ⟨p, 0, none⟩ = some (.string ⟨X.toArray⟩)) (hm : m.length ≤ 9223372036854775807) (hX : X.length ≤ 9223372036854775807) :
    Calls Tryd.prog 30 #[.agg #[.string ⟨m.toArray⟩, v], .pointer (some ⟨p, 0, none⟩)] w fun e w' => e = .returned (.bool (forN m X)) ∧ Below w.heap.size w w' := by
  have hb := (Below.refl w.heap.size w).alloc (Nat.le_refl _) (.cells #[.string ⟨m.toArray⟩, v] 48)
  have hp2 := (hb.cell (p := ⟨p, 0, none⟩) (World.block_lt_of_cell? w _ hp)).trans hp
  have c0 := (box_key w (.string ⟨m.toArray⟩) v 48).1
  have Hb := Lib.hid hb
  clear hb hp
  go_enter Tryd.func30, Tryd.ntmps30
  go_upto_region 1 with fail
  generalize w.alloc (.cells #[.string ⟨m.toArray⟩, v] 48) = w1 at Hb hp2 c0 ⊢
  have HM := Lib.hid (kMatches m X w1 hm hX)
  go_wp2_with fail
  refine HM.out.mono ?_
  rintro e w2 ⟨rfl, hb⟩
  have Hb2 := Lib.hid (Hb.out.trans (hb.mono Hb.out.size))
  clear hb
  go_wp2_with fail
  go_ret
  exact ⟨rfl, Hb2.out⟩
/-- the first place at which f holds, or -1 -/
def IdxP (ks : List Ky) (f : Ky → Bool) (z : Int) : Prop := (z = -1 ∧ ∀ k ∈ ks, f k = false) ∨ ∃ i : Nat, ∃ h : i < ks.length, z = i ∧ f ks[i] = true ∧ ∀ k ∈ ks.take i, f k = false


set_option maxRecDepth 10000 in
set_option maxHeartbeats 1000000 in
theorem kIdxGet (p : Nat) (X : List UInt8) (Ak : Option Addr) (nk ck : Nat) (ks : List Ky) (B : Nat) (w : World) (hr : RdK w B Ak nk ks) (hB : B ≤ w.heap.size) (hp : w.cell? ⟨p, 0, none⟩ = some (.string ⟨X.toArray⟩)) (hn : nk ≤ 100000) (hX : X.length ≤ 9223372036854775807) :
    Calls Tryd.prog 25 #[.slice Ak nk ck, .func (.func 26) #[] #[.pointer (some ⟨p, 0, none⟩)]] w fun e w' => ∃ z, e = .returned (.int .i64 z) ∧ Hid (IdxP ks (fun k => decide (k.name = X)) z) ∧ Below w.heap.size w w' := by
  have Hr0 := Lib.hid hr
  have Hp := Lib.hid hp
  have hpl := Lib.hid (World.block_lt_of_cell? w _ hp)
  have HBw := Lib.hid hB
  have HXl := Lib.hid hX
  clear hr hp hB hX
  go_enter Tryd.func25, Tryd.ntmps25
  go_wp2_with fail
  go_loopw [8, 5] (fun i _ wr => ∃ j : Nat, j ≤ nk ∧ i = .int .i64 j ∧ Hid (∀ k ∈ ks.take j, (decide (k.name = X)) = false) ∧ Hid (Below w.heap.size w wr)) (fun i _ _ => nk - (intOf i).toNat)
  case atStart => exact ⟨0, Nat.zero_le _, rfl, fun s h => by simp at h, Below.refl _ _⟩
  case round =>
    obtain ⟨j, hj, rfl, Hj, Hb⟩ := hrel
    by_cases hjn : j < nk
    · have Hr := Lib.hid (Hr0.out.below (Hb.out.mono HBw.out))
      have hjl : j < ks.length := by rw [Hr.out.1]; exact hjn
      obtain ⟨g, o, Aj, nj, cj, rfl, hg, x0, x1, h5, h6, h7⟩ := Hr.out.2 j hjl
      have Hf : Hid ((fun k : Ky => decide (k.name = X)) ks[j] = true → IdxP ks (fun k => decide (k.name = X)) j) := fun h => .inr ⟨j, hjl, rfl, h, Hj.out⟩
      have Hst := Lib.hid (List.take_succ_eq_append_getElem hjl)
      clear h5
      generalize ks[j] = s at x0 Hf Hst h7
      obtain ⟨m, v⟩ := s
      have x0 : wr.cell? ⟨g, o + j * 2, none⟩ = some (.string ⟨m.toArray⟩) := x0
      have hj0 : (0 : Int) ≤ (j : Int) := by omega
      have hj1 : (j : Int) < (nk : Int) := by omega
      have HN := Lib.hid (kGet1 p m X (.slice Aj nj cj) wr ((Hb.out.cell (p := ⟨p, 0, none⟩) hpl.out).trans Hp.out))
      clear hjl h7
      by_cases hx : (decide (m = X)) = true
      · have He := Lib.hid (Hf.out hx)
        rw [hx] at HN
        clear hx Hf
        go_wp2_with fail
        refine HN.out.mono ?_
        rintro e w2 ⟨rfl, hb2⟩
        have Hb2 := bel8 (Nat.le_refl _) Hb hb2
        clear hb2 x0 x1
        go_wp2_with fail
        go_ret
        exact ⟨_, rfl, He, Hb2.out⟩
      · replace hx := Bool.eq_false_iff.2 hx
        have Hj2 : Hid (∀ k ∈ ks.take (j + 1), (decide (k.name = X)) = false) := fun t ht => by
          rw [Hst.out] at ht
          rcases List.mem_append.1 ht with h | h
          · exact Hj.out t h
          · simp at h; subst h; exact hx
        rw [hx] at HN
        clear Hst Hf hx
        go_wp2_with fail
        refine HN.out.mono ?_
        rintro e w2 ⟨rfl, hb2⟩
        have Hb2 := bel8 (Nat.le_refl _) Hb hb2
        clear hb2 x0 x1
        go_wp2_with fail
        go_roundw
        case rel => exact ⟨j + 1, by omega, by go_num, Hj2, Hb2⟩
        case measure => simp [intOf]; omega
    · obtain rfl : j = nk := by omega
      have He := Lib.hid (show IdxP ks (fun k => decide (k.name = X)) (-1) from .inl ⟨rfl, by have h := Hj.out; rwa [List.take_of_length_le (by rw [Hr0.out.1]; exact Nat.le_refl _)] at h⟩)
      go_wp2_with fail
      go_ret
      exact ⟨_, rfl, He, Hb.out⟩


set_option maxRecDepth 10000 in
set_option maxHeartbeats 1000000 in
theorem kIdxAt (p : Nat) (X : List UInt8) (Ak : Option Addr) (nk ck : Nat) (ks : List Ky) (B : Nat) (w : World) (hr : RdK w B Ak nk ks) (hB : B ≤ w.heap.size) (hp : w.cell? ⟨p, 0, none⟩ = some (.string ⟨X.toArray⟩)) (hn : nk ≤ 100000) (hX : X.length ≤ 9223372036854775807) :
    Calls Tryd.prog 25 #[.slice Ak nk ck, .func (.func 30) #[] #[.pointer (some ⟨p, 0, none⟩)]] w fun e w' => ∃ z, e = .returned (.int .i64 z) ∧ Hid (IdxP ks (fun k => forN k.name X) z) ∧ Below w.heap.size w w' := by
  have Hr0 := Lib.hid hr
  have Hp := Lib.hid hp
  have hpl := Lib.hid (World.block_lt_of_cell? w _ hp)
  have HBw := Lib.hid hB
  have HXl := Lib.hid hX
  clear hr hp hB hX
  go_enter Tryd.func25, Tryd.ntmps25
  go_wp2_with fail
  go_loopw [8, 5] (fun i _ wr => ∃ j : Nat, j ≤ nk ∧ i = .int .i64 j ∧ Hid (∀ k ∈ ks.take j, (forN k.name X) = false) ∧ Hid (Below w.heap.size w wr)) (fun i _ _ => nk - (intOf i).toNat)
  case atStart => exact ⟨0, Nat.zero_le _, rfl, fun s h => by simp at h, Below.refl _ _⟩
  case round =>
    obtain ⟨j, hj, rfl, Hj, Hb⟩ := hrel
    by_cases hjn : j < nk
    · have Hr := Lib.hid (Hr0.out.below (Hb.out.mono HBw.out))
      have hjl : j < ks.length := by rw [Hr.out.1]; exact hjn
      obtain ⟨g, o, Aj, nj, cj, rfl, hg, x0, x1, h5, h6, h7⟩ := Hr.out.2 j hjl
      have Hf : Hid ((fun k : Ky => forN k.name X) ks[j] = true → IdxP ks (fun k => forN k.name X) j) := fun h => .inr ⟨j, hjl, rfl, h, Hj.out⟩
      have Hst := Lib.hid (List.take_succ_eq_append_getElem hjl)
      clear h5
      generalize ks[j] = s at x0 Hf Hst h7
      obtain ⟨m, v⟩ := s
      have x0 : wr.cell? ⟨g, o + j * 2, none⟩ = some (.string ⟨m.toArray⟩) := x0
      have hj0 : (0 : Int) ≤ (j : Int) := by omega
      have hj1 : (j : Int) < (nk : Int) := by omega
      have HN := Lib.hid (kAt1 p m X (.slice Aj nj cj) wr ((Hb.out.cell (p := ⟨p, 0, none⟩) hpl.out).trans Hp.out) h7 HXl.out)
      clear hjl h7
      by_cases hx : (forN m X) = true
      · have He := Lib.hid (Hf.out hx)
        rw [hx] at HN
        clear hx Hf
        go_wp2_with fail
        refine HN.out.mono ?_
        rintro e w2 ⟨rfl, hb2⟩
        have Hb2 := bel8 (Nat.le_refl _) Hb hb2
        clear hb2 x0 x1
        go_wp2_with fail
        go_ret
        exact ⟨_, rfl, He, Hb2.out⟩
      · replace hx := Bool.eq_false_iff.2 hx
        have Hj2 : Hid (∀ k ∈ ks.take (j + 1), (forN k.name X) = false) := fun t ht => by
          rw [Hst.out] at ht
          rcases List.mem_append.1 ht with h | h
          · exact Hj.out t h
          · simp at h; subst h; exact hx
        rw [hx] at HN
        clear Hst Hf hx
        go_wp2_with fail
        refine HN.out.mono ?_
        rintro e w2 ⟨rfl, hb2⟩
        have Hb2 := bel8 (Nat.le_refl _) Hb hb2
        clear hb2 x0 x1
        go_wp2_with fail
        go_roundw
        case rel => exact ⟨j + 1, by omega, by go_num, Hj2, Hb2⟩
        case measure => simp [intOf]; omega
    · obtain rfl : j = nk := by omega
      have He := Lib.hid (show IdxP ks (fun k => forN k.name X) (-1) from .inl ⟨rfl, by have h := Hj.out; rwa [List.take_of_length_le (by rw [Hr0.out.1]; exact Nat.le_refl _)] at h⟩)
      go_wp2_with fail
      go_ret
      exact ⟨_, rfl, He, Hb.out⟩


theorem getK_none {ks : List Ky} {X : List UInt8} (h : ∀ k ∈ ks, decide (k.name = X) = false) : getK ks X = none := by
  induction ks with
  | nil => rfl
  | cons k r ih =>
    have h1 : ¬ k.name = X := of_decide_eq_false (h k (by simp))
    simp only [getK, if_neg h1]
    exact ih fun q hq => h q (by simp [hq])
theorem getK_at {ks : List Ky} {X : List UInt8} : ∀ (i : Nat) (h : i < ks.length), decide (ks[i].name = X) = true → (∀ k ∈ ks.take i, decide (k.name = X) = false) → getK ks X = some ks[i].val := by
  induction ks with
  | nil => intro i h; simp at h
  | cons k r ih =>
    intro i h h1 h2
    cases i with
    | zero => exact if_pos (of_decide_eq_true h1)
    | succ i =>
      have h3 : ¬ k.name = X := of_decide_eq_false (h2 k (by simp))
      simp only [getK, if_neg h3]
      exact ih i (by simpa using h) h1 fun q hq => h2 q (by simp [hq])
theorem atK_none {d : List UInt8} {ks : List Ky} {X : List UInt8} (h : ∀ k ∈ ks, forN k.name X = false) : atK d ks X = d := by
  induction ks with
  | nil => rfl
  | cons k r ih =>
    have h1 := h k (by simp)
    simp only [atK, h1]
    exact ih fun q hq => h q (by simp [hq])
theorem atK_at {d : List UInt8} {ks : List Ky} {X : List UInt8} : ∀ (i : Nat) (h : i < ks.length), forN ks[i].name X = true → (∀ k ∈ ks.take i, forN k.name X = false) → atK d ks X = ks[i].val := by
  induction ks with
  | nil => intro i h; simp at h
  | cons k r ih =>
    intro i h h1 h2
    cases i with
    | zero => simp only [atK]; rw [if_pos (by simpa using h1)]; rfl
    | succ i =>
      have h3 := h2 k (by simp)
      simp only [atK, h3]
      exact ih i (by simpa using h) h1 fun q hq => h2 q (by simp [hq])
theorem box_str (w : World) (x : Value) (t : TypeId) : (w.alloc (.cells #[x] t)).cell? ⟨w.heap.size, 0, none⟩ = some x := by
  rw [cell_blk (heap_alloc_new w _)]; rfl
/-- what Get tells -/
def GetQ (w : World) (o : Option (List UInt8)) (e : Ending) (w' : World) : Prop :=
  ∃ v, e = .returned (.tuple #[v, .bool o.isSome]) ∧ RdV w' w'.heap.size v (o.getD []) ∧ Below w.heap.size w w'
theorem Out.rdv {w w' : World} {l : List UInt8} {e : Ending} (h : Out w l e w') : ∃ v, e = .returned v ∧ RdV w' w'.heap.size v l ∧ Below w.heap.size w w' := by
  obtain ⟨A, c, h1, h2, h3, h4, h5⟩ := h
  exact ⟨_, h1, ⟨A, _, c, rfl, Rd.own h4, by simp only [maxLen] at h3; omega⟩, h5⟩


set_option maxRecDepth 10000 in
set_option maxHeartbeats 2000000 in
theorem kGet (Ad : Option Addr) (nd cd : Nat) (Ak : Option Addr) (nk ck : Nat) (s : Int) (d : List UInt8) (ks : List Ky) (X : List UInt8) (B : Nat) (w : World) (hd : Rd w B Ad nd d) (hr : RdK w B Ak nk ks) (hB : B ≤ w.heap.size) (hn : nk ≤ 100000) (hX : X.length ≤ 9223372036854775807) (hv : ∀ k ∈ ks, k.val.length ≤ 1000000) :
    Calls Tryd.prog 12 #[oV Ad nd cd Ak nk ck s, .string ⟨X.toArray⟩] w (GetQ w (getK ks X)) := by
  have HT := Lib.hid (two_objs w (.cells #[.slice Ad nd cd, .slice Ak nk ck, .int .i64 s] 25) (.cells #[.string ⟨X.toArray⟩] 9))
  have Hr := Lib.hid (hr.below (HT.out.2.2.mono hB))
  have Hd := Lib.hid (hd.below (HT.out.2.2.mono hB))
  have HBw := Lib.hid (Nat.le_trans hB HT.out.2.2.size)
  have Hvs := Lib.hid hv
  clear hr hd hB hv
  go_enter Tryd.func12, Tryd.ntmps12
  go_upto_region 1 with fail
  generalize (w.alloc (.cells #[.slice Ad nd cd, .slice Ak nk ck, .int .i64 s] 25)).alloc (.cells #[.string ⟨X.toArray⟩] 9) = w1 at HT Hr Hd HBw ⊢
  obtain ⟨p, hp⟩ : ∃ b, b = w.heap.size + 1 := ⟨_, rfl⟩
  obtain ⟨b, hbe⟩ : ∃ b, b = w.heap.size := ⟨_, rfl⟩
  have Hh := Lib.hid (OAt.of HT.out.1)
  have Hp := Lib.hid (show w1.cell? ⟨w.heap.size + 1, 0, none⟩ = some (.string ⟨X.toArray⟩) by rw [cell_blk HT.out.2.1]; rfl)
  have Hb := Lib.hid HT.out.2.2
  rw [← hp] at Hp ⊢
  rw [← hbe] at Hh ⊢
  clear HT hp hbe
  have c1 := Hh.out.c1
  have HI := Lib.hid (kIdxGet p X Ak nk ck ks B w1 Hr.out HBw.out Hp.out hn hX)
  go_wp2_with fail
  refine HI.out.mono ?_
  rintro e w2 ⟨z, rfl, HZ, hb⟩
  have Hr2 := Lib.hid (Hr.out.below (hb.mono HBw.out))
  have Hd2 := Lib.hid (Hd.out.below (hb.mono HBw.out))
  have HB2 := Lib.hid (Nat.le_trans HBw.out hb.size)
  have Hh2 := Lib.hid (Hh.out.to hb)
  have Hb2 := Lib.hid (Hb.out.trans (hb.mono Hb.out.size))
  clear hb HI c1 Hr Hd HBw Hh Hp Hb
  have c0 := Hh2.out.c0
  have c1 := Hh2.out.c1
  rcases HZ.out with ⟨rfl, hno⟩ | ⟨i, hi, rfl, hyes, hno⟩
  · have He := Lib.hid (getK_none hno)
    clear HZ hno
    go_wp2_with fail
    exact bodyPost_ret (v := .tuple #[.slice none 0 0, .bool false]) (by simp [results, Tryd.results12, go_sem]) rfl ⟨_, by rw [He.out]; rfl, by rw [He.out]; exact ⟨_, _, _, rfl, Rd.nil, by omega⟩, Hb2.out⟩
  · have He := Lib.hid (getK_at i hi hyes hno)
    have hin : i < nk := by rw [← Hr2.out.1]; exact hi
    obtain ⟨g, o, Aj, nj, cj, rfl, hg, x0, x1, h5, h6, h7⟩ := Hr2.out.2 i hi
    have hvl := Hvs.out ks[i] (List.getElem_mem hi)
    rw [h5.1] at hvl
    have HC := Lib.hid (kClone Aj nj cj B ks[i].val w2 h5 HB2.out (by omega))
    clear HZ hno hyes h5 h7 x0
    generalize ks[i] = k at HC He
    clear hi hvl
    have hi0 : ¬ (i : Int) < 0 := by omega
    have hi1 : (0 : Int) ≤ (i : Int) := by omega
    have hi2 : (i : Int) < (nk : Int) := by omega
    go_wp2_with fail
    refine HC.out.mono ?_
    intro e w3 ho
    obtain ⟨v, rfl, hv, hb⟩ := ho.rdv
    obtain ⟨A3, n3, c3, rfl, hv, hv2⟩ := hv
    have Hv := Lib.hid (And.intro hv hv2)
    have Hb3 := Lib.hid (Hb2.out.trans (hb.mono Hb2.out.size))
    clear hb hv hv2 HC ho
    go_wp2_with fail
    exact bodyPost_ret (v := .tuple #[.slice A3 n3 c3, .bool true]) (by simp [results, Tryd.results12, go_sem]) rfl ⟨_, by rw [He.out]; rfl, by rw [He.out]; exact ⟨_, _, _, rfl, Hv.out.1, Hv.out.2⟩, Hb3.out⟩


set_option maxRecDepth 10000 in
set_option maxHeartbeats 2000000 in
theorem kAt (Ad : Option Addr) (nd cd : Nat) (Ak : Option Addr) (nk ck : Nat) (s : Int) (d : List UInt8) (ks : List Ky) (X : List UInt8) (B : Nat) (w : World) (hd : Rd w B Ad nd d) (hdn : nd ≤ 100000) (hr : RdK w B Ak nk ks) (hB : B ≤ w.heap.size) (hn : nk ≤ 100000) (hX : X.length ≤ 9223372036854775807) (hv : ∀ k ∈ ks, k.val.length ≤ 1000000) :
    Calls Tryd.prog 15 #[oV Ad nd cd Ak nk ck s, .string ⟨X.toArray⟩] w (TellB w (atK d ks X)) := by
  have HT := Lib.hid (two_objs w (.cells #[.slice Ad nd cd, .slice Ak nk ck, .int .i64 s] 25) (.cells #[.string ⟨X.toArray⟩] 9))
  have Hr := Lib.hid (hr.below (HT.out.2.2.mono hB))
  have Hd := Lib.hid (hd.below (HT.out.2.2.mono hB))
  have HBw := Lib.hid (Nat.le_trans hB HT.out.2.2.size)
  have Hvs := Lib.hid hv
  clear hr hd hB hv
  go_enter Tryd.func15, Tryd.ntmps15
  go_upto_region 1 with fail
  generalize (w.alloc (.cells #[.slice Ad nd cd, .slice Ak nk ck, .int .i64 s] 25)).alloc (.cells #[.string ⟨X.toArray⟩] 9) = w1 at HT Hr Hd HBw ⊢
  obtain ⟨p, hp⟩ : ∃ b, b = w.heap.size + 1 := ⟨_, rfl⟩
  obtain ⟨b, hbe⟩ : ∃ b, b = w.heap.size := ⟨_, rfl⟩
  have Hh := Lib.hid (OAt.of HT.out.1)
  have Hp := Lib.hid (show w1.cell? ⟨w.heap.size + 1, 0, none⟩ = some (.string ⟨X.toArray⟩) by rw [cell_blk HT.out.2.1]; rfl)
  have Hb := Lib.hid HT.out.2.2
  rw [← hp] at Hp ⊢
  rw [← hbe] at Hh ⊢
  clear HT hp hbe
  have c1 := Hh.out.c1
  have HI := Lib.hid (kIdxAt p X Ak nk ck ks B w1 Hr.out HBw.out Hp.out hn hX)
  go_wp2_with fail
  refine HI.out.mono ?_
  rintro e w2 ⟨z, rfl, HZ, hb⟩
  have Hr2 := Lib.hid (Hr.out.below (hb.mono HBw.out))
  have Hd2 := Lib.hid (Hd.out.below (hb.mono HBw.out))
  have HB2 := Lib.hid (Nat.le_trans HBw.out hb.size)
  have Hh2 := Lib.hid (Hh.out.to hb)
  have Hb2 := Lib.hid (Hb.out.trans (hb.mono Hb.out.size))
  clear hb HI c1 Hr Hd HBw Hh Hp Hb
  have c0 := Hh2.out.c0
  have c1 := Hh2.out.c1
  rcases HZ.out with ⟨rfl, hno⟩ | ⟨i, hi, rfl, hyes, hno⟩
  · have He := Lib.hid (atK_none (d := d) hno)
    clear HZ hno
    have HC := Lib.hid (kClone Ad nd cd B d w2 Hd2.out HB2.out (by omega))
    go_wp2_with fail
    refine HC.out.mono ?_
    intro e w3 ho
    obtain ⟨v, rfl, hv, hb⟩ := ho.rdv
    obtain ⟨A3, n3, c3, rfl, hv, hv2⟩ := hv
    have Hv := Lib.hid (And.intro hv hv2)
    have Hb3 := Lib.hid (Hb2.out.trans (hb.mono Hb2.out.size))
    clear hb hv hv2 HC ho
    go_wp2_with fail
    go_ret
    exact ⟨_, rfl, by rw [He.out]; exact ⟨_, _, _, rfl, Hv.out.1, Hv.out.2⟩, Hb3.out⟩
  · have He := Lib.hid (atK_at (d := d) i hi hyes hno)
    have hin : i < nk := by rw [← Hr2.out.1]; exact hi
    obtain ⟨g, o, Aj, nj, cj, rfl, hg, x0, x1, h5, h6, h7⟩ := Hr2.out.2 i hi
    have hvl := Hvs.out ks[i] (List.getElem_mem hi)
    rw [h5.1] at hvl
    have HC := Lib.hid (kClone Aj nj cj B ks[i].val w2 h5 HB2.out (by omega))
    clear HZ hno hyes h5 h7 x0
    generalize ks[i] = k at HC He
    clear hi hvl
    have hi0 : ¬ (i : Int) < 0 := by omega
    have hi1 : (0 : Int) ≤ (i : Int) := by omega
    have hi2 : (i : Int) < (nk : Int) := by omega
    go_wp2_with fail
    refine HC.out.mono ?_
    intro e w3 ho
    obtain ⟨v, rfl, hv, hb⟩ := ho.rdv
    obtain ⟨A3, n3, c3, rfl, hv, hv2⟩ := hv
    have Hv := Lib.hid (And.intro hv hv2)
    have Hb3 := Lib.hid (Hb2.out.trans (hb.mono Hb2.out.size))
    clear hb hv hv2 HC ho
    go_wp2_with fail
    go_ret
    exact ⟨_, rfl, by rw [He.out]; exact ⟨_, _, _, rfl, Hv.out.1, Hv.out.2⟩, Hb3.out⟩

end Go.Proofs.YtmigapjkicddiaaDoor
