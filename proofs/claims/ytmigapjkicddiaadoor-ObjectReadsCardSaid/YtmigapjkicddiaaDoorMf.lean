/- Objects: how they are read; contracts of the document's Name, Get, At, and of the laws' own few. Objects: contracts of the document's Get, and of the laws' own few. Objects: contracts of the document's May and At. Objects: contract of the document's At. Objects: contract of the document's Same. Objects: slices of keys of a call's own; an object's block, set cell by cell. -/
import Derived.Test.YtmigapjkicddiaaDoorMa
import Derived.Test.YtmigapjkicddiaaDoorMe
import Derived.Test.YtmigapjkicddiaaDoorMc
import Derived.BigQuiet

namespace Go.Proofs.YtmigapjkicddiaaDoor
open Go.RowKit

/-- keys that can be read -/
def RdK (w : World) (B : Nat) (A : Option Addr) (n : Nat) (ks : List Ky) : Prop :=
  ks.length = n ∧ ∀ j (h : j < ks.length), ∃ g o Aj nj cj, A = some ⟨g, o, none⟩ ∧ g < B ∧ w.cell? ⟨g, o + j * 2, none⟩ = some (.string ⟨ks[j].name.toArray⟩) ∧ w.cell? ⟨g, o + j * 2 + 1, none⟩ = some (.slice Aj nj cj) ∧
    Rd w B Aj nj ks[j].val ∧ nj ≤ 9223372036854775807 ∧ ks[j].name.length ≤ 9223372036854775807
theorem RdK.nil (w : World) (B : Nat) (A : Option Addr) : RdK w B A 0 [] := ⟨rfl, fun j h => by simp at h⟩
theorem RdK.below {w w' : World} {B : Nat} {A : Option Addr} {n : Nat} {ks : List Ky} (h : RdK w B A n ks) (hb : Below B w w') : RdK w' B A n ks := by
  refine ⟨h.1, fun j hj => ?_⟩
  obtain ⟨g, o, Aj, nj, cj, h1, h2, h3, h4, h5, h6⟩ := h.2 j hj
  exact ⟨g, o, Aj, nj, cj, h1, h2, (hb.cell h2).trans h3, (hb.cell h2).trans h4, h5.below hb, h6⟩
theorem RdK.more {w : World} {B B' : Nat} {A : Option Addr} {n : Nat} {ks : List Ky} (h : RdK w B A n ks) (hB : B ≤ B') : RdK w B' A n ks := by
  refine ⟨h.1, fun j hj => ?_⟩
  obtain ⟨g, o, Aj, nj, cj, h1, h2, h3, h4, h5, h6⟩ := h.2 j hj
  exact ⟨g, o, Aj, nj, cj, h1, by omega, h3, h4, h5.more hB, h6⟩
/-- an object's value -/
abbrev oV (Ad : Option Addr) (nd cd : Nat) (Ak : Option Addr) (nk ck : Nat) (s : Int) : Value := .agg #[.slice Ad nd cd, .slice Ak nk ck, .int .i64 s]
/-- block b holds an object -/
structure OAt (b : Nat) (d k : Value) (s : Int) (w : World) : Prop where
  c0 : w.cell? ⟨b, 0, none⟩ = some d
  c1 : w.cell? ⟨b, 1, none⟩ = some k
  c2 : w.cell? ⟨b, 2, none⟩ = some (.int .i64 s)
theorem OAt.box (w : World) (d k : Value) (s : Int) (t : TypeId) : OAt w.heap.size d k s (w.alloc (.cells #[d, k, .int .i64 s] t)) := by
  refine ⟨?_, ?_, ?_⟩ <;> (rw [cell_blk (heap_alloc_new w _)]; rfl)
theorem OAt.lt {b : Nat} {d k : Value} {s : Int} {w : World} (h : OAt b d k s w) : b < w.heap.size := World.block_lt_of_cell? w _ h.c0
theorem OAt.to {b : Nat} {d k : Value} {s : Int} {w w' : World} (h : OAt b d k s w) (hb : Below w.heap.size w w') : OAt b d k s w' := by
  have hl := h.lt
  exact ⟨(hb.cell hl).trans h.c0, (hb.cell hl).trans h.c1, (hb.cell hl).trans h.c2⟩

theorem name_succ (X : List UInt8) (j : Nat) (h : j < X.length) : (X.take (j + 1)).all nmB = ((X.take j).all nmB && nmB X[j]) := by
  rw [List.take_succ_eq_append_getElem h, List.all_append]
  simp
set_option maxRecDepth 10000 in
set_option maxHeartbeats 1000000 in
theorem RName8 (X : List UInt8) (w : World) (hX : X.length ≤ 9223372036854775807) :
    Calls Tryd.prog 24 #[.string ⟨X.toArray⟩] w fun e w' => e = .returned (.bool (nameB X)) ∧ w' = w := by
  have Hsz := Lib.hid (show (⟨X.toArray⟩ : ByteArray).size = X.length by simp [ByteArray.size])
  by_cases h1 : 1 ≤ X.length ∧ X.length ≤ 12
  · obtain ⟨h1, h2⟩ := h1
    have HN := Lib.hid (show nameB X = X.all nmB by unfold nameB; simp [h1, h2])
    go_enter Tryd.func24, Tryd.ntmps24
    go_wp2_with fail
    go_loopw [3] (fun iv wr => wr = w ∧ ∃ j : Nat, j ≤ X.length ∧ iv = .int .i64 j ∧ Hid ((X.take j).all nmB = true)) (fun iv _ => X.length - (intOf iv).toNat)
    case atStart => exact ⟨rfl, 0, Nat.zero_le _, rfl, rfl⟩
    case round =>
      obtain ⟨rfl, j, hj, rfl, Hj⟩ := hrel
      by_cases hlt : j < X.length
      · have Hst := Lib.hid (name_succ X j hlt)
        have Hin := Lib.hid (List.getElem_mem hlt)
        obtain ⟨r, hr⟩ : ∃ r, r = nmB X[j] := ⟨_, rfl⟩
        have Hv := Lib.hid (show ∀ h' : j < (⟨X.toArray⟩ : ByteArray).size, r = nmB ((⟨X.toArray⟩ : ByteArray)[j]'h') from fun _ => hr)
        have Hno := Lib.hid (show r = false → nameB X = false from fun h => by
          rw [HN.out, List.all_eq_false]
          exact ⟨_, Hin.out, by rw [← hr, h]; simp⟩)
        rw [← hr] at Hst
        clear Hin hr
        go_wp2_with fail
        all_goals first
          | (have hr : r = false := Bool.eq_false_iff.2 fun h => by
               rw [Hv.out (by rw [Hsz.out]; exact hlt)] at h
               simp only [nmB, Bool.or_eq_true, decide_eq_true_eq] at h
               try simp only [bne_iff_ne, ne_eq] at *
               omega
             have He := Hno.out hr
             go_ret
             exact ⟨by first | (rw [He]; done) | (rw [He]; rfl), by first | rfl | trivial⟩)
          | (have hr : r = true := by
               rw [Hv.out (by rw [Hsz.out]; exact hlt)]
               simp only [nmB, Bool.or_eq_true, decide_eq_true_eq]
               try simp only [bne_eq_false_iff_eq] at *
               omega
             go_roundw
             case rel => exact ⟨by first | rfl | trivial, j + 1, by omega, by go_num, by show _ = _; rw [Hst.out, Hj.out, hr]; rfl⟩
             case measure => simp [intOf]; omega)
      · obtain rfl : j = X.length := by omega
        have He := Lib.hid (show nameB X = true by rw [HN.out]; have h := Hj.out; rwa [List.take_length] at h)
        go_wp2_with fail
        go_ret
        exact ⟨by first | (rw [He.out]; done) | (rw [He.out]; rfl), by first | rfl | trivial⟩
  · have He := Lib.hid (show nameB X = false by unfold nameB; rw [decide_eq_false h1, Bool.false_and])
    go_enter Tryd.func24, Tryd.ntmps24
    go_wp2_with fail
    all_goals
      go_ret
      exact ⟨by first | (rw [He.out]; done) | (rw [He.out]; rfl), by first | rfl | trivial⟩
end Go.Proofs.YtmigapjkicddiaaDoor

namespace Go.Proofs.YtmigapjkicddiaaDoor
open Go.RowKit

/-- a slice of bytes that is told -/
def RdV (w : World) (B : Nat) (v : Value) (l : List UInt8) : Prop := ∃ A n c, v = .slice A n c ∧ Rd w B A n l ∧ n ≤ 9223372036854775807
theorem RdV.below {w w' : World} {B : Nat} {v : Value} {l : List UInt8} (h : RdV w B v l) (hb : Below B w w') : RdV w' B v l := by
  obtain ⟨A, n, c, h1, h2, h3⟩ := h
  exact ⟨A, n, c, h1, h2.below hb, h3⟩
theorem RdV.more {w : World} {B B' : Nat} {v : Value} {l : List UInt8} (h : RdV w B v l) (hB : B ≤ B') : RdV w B' v l := by
  obtain ⟨A, n, c, h1, h2, h3⟩ := h
  exact ⟨A, n, c, h1, h2.more hB, h3⟩
/-- what Get tells -/
def GetP (w : World) (B : Nat) (o : Option (List UInt8)) (e : Ending) (w' : World) : Prop :=
  ∃ v, e = .returned (.tuple #[v, .bool o.isSome]) ∧ RdV w B v (o.getD []) ∧ Below w.heap.size w w'

set_option maxRecDepth 10000 in
set_option maxHeartbeats 1000000 in
theorem RGet8 (Ad : Option Addr) (nd cd : Nat) (Ak : Option Addr) (nk ck : Nat) (s : Int) (ks : List Ky) (X : List UInt8) (B : Nat) (w : World) (hr : RdK w B Ak nk ks) (hB : B ≤ w.heap.size) (hn : nk ≤ 100000) :
    Calls Tryd.prog 13 #[oV Ad nd cd Ak nk ck s, .string ⟨X.toArray⟩] w (GetP w B (getK ks X)) := by
  have Hb := Lib.hid ((Below.refl w.heap.size w).alloc (Nat.le_refl _) (.cells #[.slice Ad nd cd, .slice Ak nk ck, .int .i64 s] 25))
  have Hr0 := Lib.hid hr
  have Hr := Lib.hid (hr.below (Hb.out.mono hB))
  have Hh := Lib.hid (OAt.box w (.slice Ad nd cd) (.slice Ak nk ck) s 25)
  clear hr hB
  go_enter Tryd.func13, Tryd.ntmps13
  go_upto_region 1 with fail
  generalize w.alloc (.cells #[.slice Ad nd cd, .slice Ak nk ck, .int .i64 s] 25) = w1 at Hb Hr Hh ⊢
  have c1 := Hh.out.c1
  obtain ⟨b, hbe⟩ : ∃ b, b = w.heap.size := ⟨_, rfl⟩
  rw [← hbe] at Hh c1 ⊢
  clear hbe
  go_wp2_with fail
  go_loopw [6] (fun i wr => wr = w1 ∧ ∃ j : Nat, j ≤ nk ∧ i = .int .i64 j ∧ Hid (getK ks X = getK (ks.drop j) X)) (fun i _ => nk - (intOf i).toNat)
  case atStart => exact ⟨rfl, 0, Nat.zero_le _, rfl, rfl⟩
  case round =>
    obtain ⟨rfl, j, hj, rfl, Hj⟩ := hrel
    by_cases hjn : j < nk
    · have hjl : j < ks.length := by rw [Hr.out.1]; exact hjn
      obtain ⟨g, o, Aj, nj, cj, rfl, hg, x0, x1, h5, h6, h7⟩ := Hr.out.2 j hjl
      obtain ⟨g', o', Aj', nj', cj', he', hg', y0, y1, k5, k6, k7⟩ := Hr0.out.2 j hjl
      injection he' with he'
      injection he' with e1 e2 e3
      subst e1 e2
      have e4 := ((Hb.out.cell (World.block_lt_of_cell? w _ y1)).trans y1).symm.trans x1
      injection e4 with e4
      injection e4 with e4 e5 e6
      subst e4 e5 e6
      have Hv := Lib.hid (show RdV w B (.slice Aj' nj' cj') ks[j].val from ⟨_, _, _, rfl, k5, k6⟩)
      have Hst := Lib.hid (getK_drop hjl X)
      clear y0 y1 k5 k6 k7 h5 h7 hg' e3
      generalize ks[j] = k at x0 Hv Hst
      have hj0 : (0 : Int) ≤ (j : Int) := by omega
      have hj1 : (j : Int) < (nk : Int) := by omega
      clear hjl
      by_cases hx : k.name = X
      · have He := Lib.hid (show getK ks X = some k.val by rw [Hj.out, Hst.out, if_pos hx])
        have hb : (k.name == X) = true := by simpa using hx
        go_wp2_with fail
        exact bodyPost_ret (v := .tuple #[.slice Aj' nj' cj', .bool true]) (by simp [results, Tryd.results13, go_sem]) rfl ⟨_, by rw [He.out]; rfl, by rw [He.out]; exact Hv.out, Hb.out⟩
      · have hb : (k.name == X) = false := by simpa using hx
        have Hj2 : Hid (getK ks X = getK (ks.drop (j + 1)) X) := by show _ = _; rw [Hj.out, Hst.out, if_neg hx]
        clear Hst
        go_wp2_with fail
        go_roundw
        case rel => exact ⟨by first | rfl | trivial, j + 1, by omega, by go_num, Hj2⟩
        case measure => simp [intOf]; omega
    · obtain rfl : j = nk := by omega
      have He := Lib.hid (show getK ks X = none by rw [Hj.out, List.drop_of_length_le (by rw [Hr.out.1]; exact Nat.le_refl _)]; rfl)
      go_wp2_with fail
      exact bodyPost_ret (v := .tuple #[.slice none 0 0, .bool false]) (by simp [results, Tryd.results13, go_sem]) rfl ⟨_, by rw [He.out]; rfl, by rw [He.out]; exact ⟨_, _, _, rfl, Rd.nil, by omega⟩, Hb.out⟩

set_option maxRecDepth 10000 in
set_option maxHeartbeats 1000000 in
theorem few8 (Ad : Option Addr) (nd cd : Nat) (Ak : Option Addr) (nk ck : Nat) (s : Int) (d : List UInt8) (ks : List Ky) (B : Nat) (w : World) (hd : d.length = nd) (hr : RdK w B Ak nk ks) (hB : B ≤ w.heap.size) :
    Calls Tryd.prog 10 #[oV Ad nd cd Ak nk ck s] w fun e w' => e = .returned (.bool (fewO ⟨d, ks, s⟩)) ∧ Below w.heap.size w w' := by
  have Hb := Lib.hid ((Below.refl w.heap.size w).alloc (Nat.le_refl _) (.cells #[.slice Ad nd cd, .slice Ak nk ck, .int .i64 s] 25))
  have Hr := Lib.hid (hr.below (Hb.out.mono hB))
  have Hh := Lib.hid (OAt.box w (.slice Ad nd cd) (.slice Ak nk ck) s 25)
  have HF := Lib.hid (show fewO ⟨d, ks, s⟩ = (decide (nd ≤ 200) && (decide (nk ≤ 200) && ks.all fun k => decide (k.val.length ≤ 3000) && decide (k.name.length ≤ 100))) by unfold fewO; rw [← hd, ← hr.1])
  clear hr hB hd
  by_cases h1 : nd ≤ 200
  · by_cases h2 : nk ≤ 200
    · rw [decide_eq_true h1, decide_eq_true h2, Bool.true_and, Bool.true_and] at HF
      go_enter Tryd.func10, Tryd.ntmps10
      go_upto_region 1 with fail
      generalize w.alloc (.cells #[.slice Ad nd cd, .slice Ak nk ck, .int .i64 s] 25) = w1 at Hb Hr Hh ⊢
      have c0 := Hh.out.c0
      have c1 := Hh.out.c1
      obtain ⟨b, hbe⟩ : ∃ b, b = w.heap.size := ⟨_, rfl⟩
      rw [← hbe] at Hh c0 c1 ⊢
      clear hbe
      go_wp2_with fail
      go_loopw [3] (fun i wr => wr = w1 ∧ ∃ j : Nat, j ≤ nk ∧ i = .int .i64 j ∧ Hid ((ks.take j).all (fun k => decide (k.val.length ≤ 3000) && decide (k.name.length ≤ 100)) = true)) (fun i _ => nk - (intOf i).toNat)
      case atStart => exact ⟨rfl, 0, Nat.zero_le _, rfl, rfl⟩
      case round =>
        obtain ⟨rfl, j, hj, rfl, Hj⟩ := hrel
        by_cases hjn : j < nk
        · have hjl : j < ks.length := by rw [Hr.out.1]; exact hjn
          obtain ⟨g, o, Aj, nj, cj, rfl, hg, x0, x1, h5, h6, h7⟩ := Hr.out.2 j hjl
          have Hst := Lib.hid (List.take_succ_eq_append_getElem hjl)
          have Hall := Lib.hid (List.getElem_mem hjl)
          have Hlen := Lib.hid h5.1
          clear h5
          generalize ks[j] = k at x0 Hst Hlen Hall h7
          have hj0 : (0 : Int) ≤ (j : Int) := by omega
          have hj1 : (j : Int) < (nk : Int) := by omega
          clear hjl
          have Hnm := Lib.hid (show (⟨k.name.toArray⟩ : ByteArray).size = k.name.length by simp [ByteArray.size])
          by_cases hx : nj ≤ 3000 ∧ k.name.length ≤ 100
          · obtain ⟨hx1, hx2⟩ := hx
            have Hj2 : Hid ((ks.take (j + 1)).all (fun k => decide (k.val.length ≤ 3000) && decide (k.name.length ≤ 100)) = true) := by
              show _ = _
              rw [Hst.out, List.all_append, Hj.out]
              simp [Hlen.out, hx1, hx2]
            clear Hst
            go_wp2_with fail
            go_roundw
            case rel => exact ⟨by first | rfl | trivial, j + 1, by omega, by go_num, Hj2⟩
            case measure => simp [intOf]; omega
          · have He := Lib.hid (show fewO ⟨d, ks, s⟩ = false by
              rw [HF.out, List.all_eq_false]
              exact ⟨k, Hall.out, by simp [Hlen.out]; omega⟩)
            go_wp2_with fail
            all_goals
              go_ret
              exact ⟨by first | (rw [He.out]; done) | (rw [He.out]; rfl), Hb.out⟩
        · obtain rfl : j = nk := by omega
          have He := Lib.hid (show fewO ⟨d, ks, s⟩ = true by rw [HF.out]; have h := Hj.out; rwa [List.take_of_length_le (by rw [Hr.out.1]; exact Nat.le_refl _)] at h)
          go_wp2_with fail
          go_ret
          exact ⟨by first | (rw [He.out]; done) | (rw [He.out]; rfl), Hb.out⟩
    · have He := Lib.hid (show fewO ⟨d, ks, s⟩ = false by rw [HF.out]; simp [h2])
      go_enter Tryd.func10, Tryd.ntmps10
      go_wp2_with fail
      all_goals
        go_ret
        exact ⟨by first | (rw [He.out]; done) | (rw [He.out]; rfl), Hb.out⟩
  · have He := Lib.hid (show fewO ⟨d, ks, s⟩ = false by rw [HF.out]; simp [h1])
    go_enter Tryd.func10, Tryd.ntmps10
    go_wp2_with fail
    all_goals
      go_ret
      exact ⟨by first | (rw [He.out]; done) | (rw [He.out]; rfl), Hb.out⟩
end Go.Proofs.YtmigapjkicddiaaDoor

namespace Go.Proofs.YtmigapjkicddiaaDoor
open Go.RowKit

set_option maxRecDepth 10000 in
set_option maxHeartbeats 2000000 in
theorem RMay8 (Ad : Option Addr) (nd cd : Nat) (Ak : Option Addr) (nk ck : Nat) (s : Int) (d : List UInt8) (ks : List Ky) (B : Nat) (w : World) (hd : d.length = nd) (hr : RdK w B Ak nk ks) (hB : B ≤ w.heap.size) :
    Calls Tryd.prog 11 #[oV Ad nd cd Ak nk ck s] w fun e w' => e = .returned (.bool (mayO ⟨d, ks, s⟩)) ∧ Below w.heap.size w w' := by
  have Hb := Lib.hid ((Below.refl w.heap.size w).alloc (Nat.le_refl _) (.cells #[.slice Ad nd cd, .slice Ak nk ck, .int .i64 s] 25))
  have Hr := Lib.hid (hr.below (Hb.out.mono hB))
  have Hh := Lib.hid (OAt.box w (.slice Ad nd cd) (.slice Ak nk ck) s 25)
  have HF := Lib.hid (show mayO ⟨d, ks, s⟩ = (decide (nd ≤ 64) && (decide (nk ≤ 120) && (decide (0 ≤ s) && (decide (s ≤ 1099511627776) && keysK none ks)))) by unfold mayO; rw [← hd, ← hr.1])
  clear hr hB hd
  by_cases h1 : nd ≤ 64 ∧ nk ≤ 120 ∧ 0 ≤ s ∧ s ≤ 1099511627776
  · obtain ⟨h1, h2, h3, h4⟩ := h1
    rw [decide_eq_true h1, decide_eq_true h2, decide_eq_true h3, decide_eq_true h4, Bool.true_and, Bool.true_and, Bool.true_and, Bool.true_and] at HF
    go_enter Tryd.func11, Tryd.ntmps11
    go_upto_region 1 with fail
    generalize w.alloc (.cells #[.slice Ad nd cd, .slice Ak nk ck, .int .i64 s] 25) = w1 at Hb Hr Hh ⊢
    have c0 := Hh.out.c0
    have c1 := Hh.out.c1
    have c2 := Hh.out.c2
    obtain ⟨b, hbe⟩ : ∃ b, b = w.heap.size := ⟨_, rfl⟩
    rw [← hbe] at Hh c0 c1 c2 ⊢
    clear hbe
    go_wp2_with fail
    go_loopw [3] (fun i wr => ∃ j : Nat, j ≤ nk ∧ i = .int .i64 j ∧ Hid (keysK none ks = keysK (prevK ks j) (ks.drop j)) ∧ Hid (∃ q, wr = w1.drewN q)) (fun i _ => nk - (intOf i).toNat)
    case atStart => exact ⟨0, Nat.zero_le _, rfl, rfl, 0, rfl⟩
    case round =>
      obtain ⟨j, hj, rfl, Hj, Hq⟩ := hrel
      have Gb := Lib.hid (show Below w.heap.size w wr by obtain ⟨q, rfl⟩ := Hq.out; exact below_drewN Hb.out q)
      have Gr := Lib.hid (show RdK wr B Ak nk ks by obtain ⟨q, rfl⟩ := Hq.out; exact Hr.out)
      have Gh := Lib.hid (show OAt b (.slice Ad nd cd) (.slice Ak nk ck) s wr by obtain ⟨q, rfl⟩ := Hq.out; exact ⟨Hh.out.c0, Hh.out.c1, Hh.out.c2⟩)
      clear c0 c1 c2 Hb Hr Hh
      have c1 := Gh.out.c1
      by_cases hjn : j < nk
      · have hjl : j < ks.length := by rw [Gr.out.1]; exact hjn
        obtain ⟨g, o, Aj, nj, cj, rfl, hg, x0, x1, h5, h6, h7⟩ := Gr.out.2 j hjl
        have Hst := Lib.hid (keysK_drop hjl)
        have Hlen := Lib.hid h5.1
        have Hpv : Hid (0 < j → ∃ q, prevK ks j = some q ∧ wr.cell? ⟨g, o + (j - 1) * 2, none⟩ = some (.string ⟨q.toArray⟩)) := fun h0 => by
          obtain ⟨g', o', _, _, _, he', _, y0, _⟩ := Gr.out.2 (j - 1) (by omega)
          injection he' with he'
          injection he' with e1 e2 e3
          subst e1 e2
          exact ⟨_, prevK_pos h0 (by omega), y0⟩
        have HN := Lib.hid (fun w => RName8 ks[j].name w h7)
        clear h5 h7
        generalize ks[j] = k at x0 Hst Hlen HN
        obtain ⟨m, v⟩ := k
        have hj0 : (0 : Int) ≤ (j : Int) := by omega
        have hj1 : (j : Int) < (nk : Int) := by omega
        clear hjl
        have hnl : v.length = nj := Hlen.out
        go_wp2_with fail
        refine (HN.out _).mono ?_
        rintro e w2 ⟨rfl, rfl⟩
        obtain ⟨r, hrn⟩ : ∃ r, r = nameB m := ⟨_, rfl⟩
        have Hst2 := Lib.hid (show keysK (prevK ks j) (ks.drop j) = ((r && (decide (nj ≤ 2048) && match prevK ks j with | none => true | some q => Op.bytesLess q m)) && keysK (prevK ks (j + 1)) (ks.drop (j + 1))) by
          rw [Hst.out, hrn, ← hnl]; rfl)
        rw [← hrn]
        clear Hst hrn Hlen hnl HN
        cases r
        · have He := Lib.hid (show mayO ⟨d, ks, s⟩ = false by rw [HF.out, Hj.out, Hst2.out, Bool.false_and, Bool.false_and])
          go_wp2_with fail
          go_quiet (fail)
          go_wp2_with fail
          go_ret
          exact ⟨by first | (rw [He.out]; done) | (rw [He.out]; rfl), below_drewN Gb.out _⟩
        · rw [Bool.true_and] at Hst2
          by_cases hv : nj ≤ 2048
          · rw [decide_eq_true hv, Bool.true_and] at Hst2
            have hv2 : decide (2048 < (nj : Int)) = false := decide_eq_false (by omega)
            rcases Nat.eq_zero_or_pos j with rfl | h0
            · have Hj2 : Hid (keysK none ks = keysK (prevK ks 1) (ks.drop 1)) := by show _ = _; rw [Hj.out, Hst2.out]; rfl
              go_wp2_with fail
              go_quiet (fail)
              go_wp2_with fail
              go_roundw
              case rel => exact ⟨1, by omega, rfl, Hj2, by obtain ⟨q, rfl⟩ := Hq.out; exact ⟨q + _, (drewN_add _ q _).symm⟩⟩
              case measure => simp [intOf]; omega
            · obtain ⟨q, hq, z0⟩ := Hpv.out h0
              have Hst3 := Lib.hid (show keysK (prevK ks j) (ks.drop j) = (Op.bytesLess q m && keysK (prevK ks (j + 1)) (ks.drop (j + 1))) by rw [Hst2.out, hq])
              obtain ⟨i, rfl⟩ : ∃ i, j = i + 1 := ⟨j - 1, by omega⟩
              rw [Nat.add_sub_cancel] at z0
              have hi0 : (0 : Int) ≤ (i : Int) := by omega
              have hi1 : (i : Int) < (nk : Int) := by omega
              have hi2 : decide (0 < (i : Int) + 1) = true := decide_eq_true (by omega)
              clear hq Hst2
              by_cases hl : Op.bytesLess q m = true
              · have Hj2 : Hid (keysK none ks = keysK (prevK ks (i + 1 + 1)) (ks.drop (i + 1 + 1))) := by show _ = _; rw [Hj.out, Hst3.out, hl, Bool.true_and]
                go_wp2_with fail
                go_quiet (fail)
                go_wp2_with fail
                go_roundw
                case rel => exact ⟨i + 1 + 1, by omega, by go_num, Hj2, by obtain ⟨q, rfl⟩ := Hq.out; exact ⟨q + _, (drewN_add _ q _).symm⟩⟩
                case measure => simp [intOf]; omega
              · have hl2 : Op.bytesLess q m = false := by simpa using hl
                have He := Lib.hid (show mayO ⟨d, ks, s⟩ = false by rw [HF.out, Hj.out, Hst3.out, hl2, Bool.false_and])
                go_wp2_with fail
                go_quiet (fail)
                go_wp2_with fail
                go_ret
                exact ⟨by first | (rw [He.out]; done) | (rw [He.out]; rfl), below_drewN Gb.out _⟩
          · have hv2 : decide (2048 < (nj : Int)) = true := decide_eq_true (by omega)
            have He := Lib.hid (show mayO ⟨d, ks, s⟩ = false by rw [HF.out, Hj.out, Hst2.out, decide_eq_false hv, Bool.false_and, Bool.false_and])
            go_wp2_with fail
            go_quiet (fail)
            go_wp2_with fail
            go_ret
            exact ⟨by first | (rw [He.out]; done) | (rw [He.out]; rfl), below_drewN Gb.out _⟩
      · obtain rfl : j = nk := by omega
        have He := Lib.hid (show mayO ⟨d, ks, s⟩ = true by rw [HF.out, Hj.out, List.drop_of_length_le (by rw [Gr.out.1]; exact Nat.le_refl _)]; rfl)
        go_wp2_with fail
        go_ret
        exact ⟨by first | (rw [He.out]; done) | (rw [He.out]; rfl), Gb.out⟩
  · have He := Lib.hid (show mayO ⟨d, ks, s⟩ = false by
      rw [HF.out]
      simp only [Bool.and_eq_false_iff, decide_eq_false_iff_not]
      omega)
    go_enter Tryd.func11, Tryd.ntmps11
    go_wp2_with fail
    all_goals
      go_ret
      exact ⟨by first | (rw [He.out]; done) | (rw [He.out]; rfl), Hb.out⟩
end Go.Proofs.YtmigapjkicddiaaDoor

namespace Go.Proofs.YtmigapjkicddiaaDoor
open Go.RowKit

theorem forN_no {k n : List UInt8} (h : Op.bytesLess k n = true) : forN k n = false := by unfold forN; rw [h]; rfl
theorem forN_nil {k n : List UInt8} (h : n.length = 0) : forN k n = false := by unfold forN; rw [h]; simp
theorem forN_nil2 {k n : List UInt8} (h : k.length = 0) : forN k n = false := by unfold forN; rw [h]; simp
theorem forN_at {k n : List UInt8} (h : Op.bytesLess k n = false) (hn : 0 < n.length) (hk : 0 < k.length) (h1 : 0 < (⟨k.toArray⟩ : ByteArray).size) (h2 : 0 < (⟨n.toArray⟩ : ByteArray).size) :
    forN k n = (((((⟨k.toArray⟩ : ByteArray)[0]'h1).toNat : Int)) == ((((⟨n.toArray⟩ : ByteArray)[0]'h2).toNat : Int))) := by
  have e1 : ((⟨k.toArray⟩ : ByteArray)[0]'h1) = k[0] := rfl
  have e2 : ((⟨n.toArray⟩ : ByteArray)[0]'h2) = n[0] := rfl
  unfold forN
  rw [h, decide_eq_true hn, decide_eq_true hk, e1, e2, List.getElem?_eq_getElem hk, List.getElem?_eq_getElem hn]
  simp only [Bool.not_false, Bool.true_and, Option.some.injEq]
  rw [Bool.eq_iff_iff, decide_eq_true_iff, beq_iff_eq, ← UInt8.toNat_inj]
  omega
/-- what At tells -/
def AtP (w : World) (B : Nat) (l : List UInt8) (e : Ending) (w' : World) : Prop :=
  ∃ v, e = .returned v ∧ RdV w B v l ∧ Below w.heap.size w w'

set_option maxRecDepth 10000 in
set_option maxHeartbeats 2000000 in
theorem RAt8 (Ad : Option Addr) (nd cd : Nat) (Ak : Option Addr) (nk ck : Nat) (s : Int) (d : List UInt8) (ks : List Ky) (X : List UInt8) (B : Nat) (w : World) (hd : Rd w B Ad nd d) (hdn : nd ≤ 9223372036854775807) (hr : RdK w B Ak nk ks) (hB : B ≤ w.heap.size) (hn : nk ≤ 100000) (hX : X.length ≤ 9223372036854775807) :
    Calls Tryd.prog 16 #[oV Ad nd cd Ak nk ck s, .string ⟨X.toArray⟩] w (AtP w B (atK d ks X)) := by
  have Hb := Lib.hid ((Below.refl w.heap.size w).alloc (Nat.le_refl _) (.cells #[.slice Ad nd cd, .slice Ak nk ck, .int .i64 s] 25))
  have Hr0 := Lib.hid hr
  have Hd0 := Lib.hid (show RdV w B (.slice Ad nd cd) d from ⟨_, _, _, rfl, hd, hdn⟩)
  have Hr := Lib.hid (hr.below (Hb.out.mono hB))
  have Hh := Lib.hid (OAt.box w (.slice Ad nd cd) (.slice Ak nk ck) s 25)
  have HX := Lib.hid (show (⟨X.toArray⟩ : ByteArray).size = X.length by simp [ByteArray.size])
  clear hr hB hd hdn
  go_enter Tryd.func16, Tryd.ntmps16
  go_upto_region 1 with fail
  generalize w.alloc (.cells #[.slice Ad nd cd, .slice Ak nk ck, .int .i64 s] 25) = w1 at Hb Hr Hh ⊢
  have c0 := Hh.out.c0
  have c1 := Hh.out.c1
  obtain ⟨b, hbe⟩ : ∃ b, b = w.heap.size := ⟨_, rfl⟩
  rw [← hbe] at Hh c0 c1 ⊢
  clear hbe
  go_wp2_with fail
  go_loopw [5] (fun i wr => ∃ j : Nat, j ≤ nk ∧ i = .int .i64 j ∧ Hid (atK d ks X = atK d (ks.drop j) X) ∧ Hid (∃ q, wr = w1.drewN q)) (fun i _ => nk - (intOf i).toNat)
  case atStart => exact ⟨0, Nat.zero_le _, rfl, rfl, 0, rfl⟩
  case round =>
    obtain ⟨j, hj, rfl, Hj, Hq⟩ := hrel
    have Gb := Lib.hid (show Below w.heap.size w wr by obtain ⟨q, rfl⟩ := Hq.out; exact below_drewN Hb.out q)
    have Gr := Lib.hid (show RdK wr B Ak nk ks by obtain ⟨q, rfl⟩ := Hq.out; exact Hr.out)
    have Gh := Lib.hid (show OAt b (.slice Ad nd cd) (.slice Ak nk ck) s wr by obtain ⟨q, rfl⟩ := Hq.out; exact ⟨Hh.out.c0, Hh.out.c1, Hh.out.c2⟩)
    clear c0 c1 Hb Hr Hh
    have c0 := Gh.out.c0
    have c1 := Gh.out.c1
    by_cases hjn : j < nk
    · have hjl : j < ks.length := by rw [Gr.out.1]; exact hjn
      obtain ⟨g, o, Aj, nj, cj, rfl, hg, x0, x1, h5, h6, h7⟩ := Gr.out.2 j hjl
      obtain ⟨g', o', Aj', nj', cj', he', hg', y0, y1, k5, k6, k7⟩ := Hr0.out.2 j hjl
      injection he' with he'
      injection he' with e1 e2 e3
      subst e1 e2
      have e4 := ((Gb.out.cell (World.block_lt_of_cell? w _ y1)).trans y1).symm.trans x1
      injection e4 with e4
      injection e4 with e4 e5 e6
      subst e4 e5 e6
      have Hv := Lib.hid (show RdV w B (.slice Aj' nj' cj') ks[j].val from ⟨_, _, _, rfl, k5, k6⟩)
      have Hst := Lib.hid (atK_drop (d := d) hjl X)
      have hml : ks[j].name.length ≤ 9223372036854775807 := h7
      clear y0 y1 k5 k6 k7 h5 h7 hg' e3
      generalize ks[j] = k at x0 Hv Hst hml
      obtain ⟨m, v⟩ := k
      have x0 : wr.cell? ⟨g, o + j * 2, none⟩ = some (.string ⟨m.toArray⟩) := x0
      have hml : m.length ≤ 9223372036854775807 := hml
      have Hm := Lib.hid (show (⟨m.toArray⟩ : ByteArray).size = m.length by simp [ByteArray.size])
      have hj0 : (0 : Int) ≤ (j : Int) := by omega
      have hj1 : (j : Int) < (nk : Int) := by omega
      clear hjl
      have Hno : Hid (forN m X = false → atK d ks X = atK d (ks.drop (j + 1)) X) := fun h => by rw [Hj.out, Hst.out, if_neg (by simp [h])]
      have Hyes : Hid (forN m X = true → atK d ks X = v) := fun h => by rw [Hj.out, Hst.out, if_pos h]
      clear Hst
      by_cases hl : Op.bytesLess m X = true
      · have Hj2 := Lib.hid (Hno.out (forN_no hl))
        clear Hno Hyes Hv
        go_wp2_with fail
        go_quiet (fail)
        go_wp2_with fail
        go_roundw
        case rel => exact ⟨j + 1, by omega, by go_num, Hj2, by obtain ⟨q, rfl⟩ := Hq.out; exact ⟨q + _, (drewN_add _ q _).symm⟩⟩
        case measure => simp [intOf]; omega
      · have hl2 : Op.bytesLess m X = false := by simpa using hl
        rcases Nat.eq_zero_or_pos X.length with h0 | h0
        · have Hj2 := Lib.hid (Hno.out (forN_nil h0))
          have h0' : decide (0 < (X.length : Int)) = false := decide_eq_false (by omega)
          clear Hno Hyes Hv
          go_wp2_with fail
          go_quiet (fail)
          go_wp2_with fail
          go_roundw
          case rel => exact ⟨j + 1, by omega, by go_num, Hj2, by obtain ⟨q, rfl⟩ := Hq.out; exact ⟨q + _, (drewN_add _ q _).symm⟩⟩
          case measure => simp [intOf]; omega
        · have h0' : decide (0 < (X.length : Int)) = true := decide_eq_true (by omega)
          rcases Nat.eq_zero_or_pos m.length with h2 | h2
          · have Hj2 := Lib.hid (Hno.out (forN_nil2 h2))
            have h2' : decide (0 < (m.length : Int)) = false := decide_eq_false (by omega)
            clear Hno Hyes Hv
            go_wp2_with fail
            go_quiet (fail)
            go_wp2_with fail
            go_roundw
            case rel => exact ⟨j + 1, by omega, by go_num, Hj2, by obtain ⟨q, rfl⟩ := Hq.out; exact ⟨q + _, (drewN_add _ q _).symm⟩⟩
            case measure => simp [intOf]; omega
          · have h2' : decide (0 < (m.length : Int)) = true := decide_eq_true (by omega)
            have hs1 : 0 < (⟨m.toArray⟩ : ByteArray).size := by rw [Hm.out]; exact h2
            have hs2 : 0 < (⟨X.toArray⟩ : ByteArray).size := by rw [HX.out]; exact h0
            have Hf := Lib.hid (forN_at hl2 h0 h2 hs1 hs2)
            obtain ⟨r, hr⟩ : ∃ r, r = forN m X := ⟨_, rfl⟩
            rw [← hr] at Hf Hno Hyes
            have hf := Hf.out.symm
            clear hr Hf
            cases r
            · have Hj2 := Lib.hid (Hno.out rfl)
              clear Hno Hyes Hv
              go_wp2_with fail
              go_quiet (fail)
              go_wp2_with fail
              go_roundw
              case rel => exact ⟨j + 1, by omega, by go_num, Hj2, by obtain ⟨q, rfl⟩ := Hq.out; exact ⟨q + _, (drewN_add _ q _).symm⟩⟩
              case measure => simp [intOf]; omega
            · have He := Lib.hid (Hyes.out rfl)
              clear Hno Hyes
              go_wp2_with fail
              go_quiet (fail)
              go_wp2_with fail
              go_ret
              exact ⟨_, rfl, by rw [He.out]; exact Hv.out, below_drewN Gb.out _⟩
    · obtain rfl : j = nk := by omega
      have He := Lib.hid (show atK d ks X = d by rw [Hj.out, List.drop_of_length_le (by rw [Gr.out.1]; exact Nat.le_refl _)]; rfl)
      go_wp2_with fail
      go_ret
      exact ⟨_, rfl, by rw [He.out]; exact Hd0.out, Gb.out⟩
end Go.Proofs.YtmigapjkicddiaaDoor

namespace Go.Proofs.YtmigapjkicddiaaDoor
open Go.RowKit

theorem two_objs (w : World) (o1 o2 : Obj) : ((w.alloc o1).alloc o2).heap[w.heap.size]? = some o1 ∧ ((w.alloc o1).alloc o2).heap[w.heap.size + 1]? = some o2 ∧ Below w.heap.size w ((w.alloc o1).alloc o2) := by
  refine ⟨?_, ?_, ((Below.refl w.heap.size w).alloc (Nat.le_refl _) o1).alloc (by simp) o2⟩
  · rw [Below.heap_alloc _ _ _ (by simp)]; exact heap_alloc_new w _
  · have h := heap_alloc_new (w.alloc o1) o2
    simpa using h
theorem OAt.of {b : Nat} {d k : Value} {s : Int} {t : TypeId} {w : World} (h : w.heap[b]? = some (.cells #[d, k, .int .i64 s] t (0, 0))) : OAt b d k s w := by
  refine ⟨?_, ?_, ?_⟩ <;> (rw [cell_blk h]; rfl)
theorem oj_eq (d : List UInt8) (ks : List Ky) (s : Int) (d' : List UInt8) (ks' : List Ky) (s' : Int) : ((⟨d, ks, s⟩ : Oj) = ⟨d', ks', s'⟩) ↔ (d = d' ∧ s = s' ∧ ks = ks') :=
  ⟨fun e => by cases e; exact ⟨rfl, rfl, rfl⟩, fun ⟨h1, h2, h3⟩ => by subst h1 h2 h3; rfl⟩

set_option maxRecDepth 10000 in
set_option maxHeartbeats 4000000 in
theorem RSame8 (Ad : Option Addr) (nd cd : Nat) (Ak : Option Addr) (nk ck : Nat) (s : Int) (d : List UInt8) (ks : List Ky) (Ad' : Option Addr) (nd' cd' : Nat) (Ak' : Option Addr) (nk' ck' : Nat) (s' : Int) (d' : List UInt8) (ks' : List Ky) (w : World)
    (hd : Rd w w.heap.size Ad nd d) (hr : RdK w w.heap.size Ak nk ks) (hd' : Rd w w.heap.size Ad' nd' d') (hr' : RdK w w.heap.size Ak' nk' ks') (hn : nk ≤ 100000) (hn' : nk' ≤ 100000) :
    Calls Tryd.prog 21 #[oV Ad nd cd Ak nk ck s, oV Ad' nd' cd' Ak' nk' ck' s'] w fun e w' => e = .returned (.bool (decide ((⟨d, ks, s⟩ : Oj) = ⟨d', ks', s'⟩))) ∧ Below w.heap.size w w' := by
  have HT := Lib.hid (two_objs w (.cells #[.slice Ad nd cd, .slice Ak nk ck, .int .i64 s] 25) (.cells #[.slice Ad' nd' cd', .slice Ak' nk' ck', .int .i64 s'] 25))
  have Hr := Lib.hid (hr.below HT.out.2.2)
  have Hr' := Lib.hid (hr'.below HT.out.2.2)
  have Hd := Lib.hid (hd.below HT.out.2.2)
  have Hd' := Lib.hid (hd'.below HT.out.2.2)
  obtain ⟨r, hrr⟩ : ∃ r, decide ((⟨d, ks, s⟩ : Oj) = ⟨d', ks', s'⟩) = r := ⟨_, rfl⟩
  have HR := Lib.hid (show r = decide (d = d' ∧ s = s' ∧ ks = ks') by rw [← hrr]; exact decide_eq_decide.2 (oj_eq _ _ _ _ _ _))
  rw [hrr]
  clear hr hr' hd hd' hrr
  go_enter Tryd.func21, Tryd.ntmps21
  go_upto_region 1 with fail
  generalize (w.alloc (.cells #[.slice Ad nd cd, .slice Ak nk ck, .int .i64 s] 25)).alloc (.cells #[.slice Ad' nd' cd', .slice Ak' nk' ck', .int .i64 s'] 25) = w1 at HT Hr Hr' Hd Hd' ⊢
  obtain ⟨b2, hb2⟩ : ∃ b, b = w.heap.size + 1 := ⟨_, rfl⟩
  obtain ⟨b1, hb1⟩ : ∃ b, b = w.heap.size := ⟨_, rfl⟩
  have Hh := Lib.hid (OAt.of HT.out.1)
  have Hh' := Lib.hid (OAt.of HT.out.2.1)
  have Hb := Lib.hid HT.out.2.2
  rw [← hb2] at Hh' ⊢
  rw [← hb1] at Hh ⊢
  clear HT hb1 hb2
  have c0 := Hh.out.c0
  have c1 := Hh.out.c1
  have c2 := Hh.out.c2
  have e0 := Hh'.out.c0
  have e1 := Hh'.out.c1
  have e2 := Hh'.out.c2
  have hs := str_any (c := cd) Hd.out
  have hs' := str_any (c := cd') Hd'.out
  by_cases hall : d = d' ∧ s = s' ∧ nk = nk'
  · obtain ⟨rfl, rfl, rfl⟩ := hall
    have HR2 := Lib.hid (show r = decide (ks = ks') by rw [HR.out]; exact decide_eq_decide.2 (by simp))
    clear HR
    go_wp2_with fail
    go_loopw [5] (fun i wr => ∃ j : Nat, j ≤ nk ∧ i = .int .i64 j ∧ Hid (ks.take j = ks'.take j) ∧ Hid (∃ q, wr = w1.drewN q)) (fun i _ => nk - (intOf i).toNat)
    case atStart => exact ⟨0, Nat.zero_le _, rfl, rfl, 0, rfl⟩
    case round =>
      obtain ⟨j, hj, rfl, Hj, Hq⟩ := hrel
      have Gb := Lib.hid (show Below w.heap.size w wr by obtain ⟨q, rfl⟩ := Hq.out; exact below_drewN Hb.out q)
      have Gr := Lib.hid (show RdK wr w.heap.size Ak nk ks by obtain ⟨q, rfl⟩ := Hq.out; exact Hr.out)
      have Gr' := Lib.hid (show RdK wr w.heap.size Ak' nk ks' by obtain ⟨q, rfl⟩ := Hq.out; exact Hr'.out)
      have Gh := Lib.hid (show OAt b1 (.slice Ad nd cd) (.slice Ak nk ck) s wr by obtain ⟨q, rfl⟩ := Hq.out; exact ⟨Hh.out.c0, Hh.out.c1, Hh.out.c2⟩)
      have Gh' := Lib.hid (show OAt b2 (.slice Ad' nd' cd') (.slice Ak' nk ck') s wr by obtain ⟨q, rfl⟩ := Hq.out; exact ⟨Hh'.out.c0, Hh'.out.c1, Hh'.out.c2⟩)
      clear c0 c1 c2 e0 e1 e2 hs hs' Hb Hr Hr' Hd Hd' Hh Hh'
      have c1 := Gh.out.c1
      have e1 := Gh'.out.c1
      by_cases hjn : j < nk
      · have hjl : j < ks.length := by rw [Gr.out.1]; exact hjn
        have hjl' : j < ks'.length := by rw [Gr'.out.1]; exact hjn
        obtain ⟨g, o, Aj, nj, cj, rfl, hg, x0, x1, h5, h6, h7⟩ := Gr.out.2 j hjl
        obtain ⟨g', o', Aj', nj', cj', rfl, hg', y0, y1, k5, k6, k7⟩ := Gr'.out.2 j hjl'
        have hv := fun q => str_any (c := cj) (h5.drewN q)
        have hv' := fun q => str_any (c := cj') (k5.drewN q)
        have Hyes : Hid (ks[j] = ks'[j] → ks.take (j + 1) = ks'.take (j + 1)) := fun h => by rw [List.take_succ_eq_append_getElem hjl, List.take_succ_eq_append_getElem hjl', Hj.out, h]
        have Hno : Hid (ks[j] ≠ ks'[j] → r = false) := fun h => by rw [HR2.out]; exact decide_eq_false (fun e => h (by subst e; rfl))
        clear h5 k5 h6 k6 h7 k7
        generalize ks[j] = k at x0 hv Hyes Hno
        generalize ks'[j] = k' at y0 hv' Hyes Hno
        obtain ⟨m, v⟩ := k
        obtain ⟨m', v'⟩ := k'
        have x0 : wr.cell? ⟨g, o + j * 2, none⟩ = some (.string ⟨m.toArray⟩) := x0
        have y0 : wr.cell? ⟨g', o' + j * 2, none⟩ = some (.string ⟨m'.toArray⟩) := y0
        have hj0 : (0 : Int) ≤ (j : Int) := by omega
        have hj1 : (j : Int) < (nk : Int) := by omega
        clear hjl hjl'
        by_cases hx : m = m'
        · subst hx
          by_cases hy : v = v'
          · subst hy
            have Hj2 := Lib.hid (Hyes.out rfl)
            clear Hyes Hno
            go_wp2_with fail
            go_quiet (fail)
            go_wp2_with fail
            go_roundw
            case rel => exact ⟨j + 1, by omega, by go_num, Hj2, by obtain ⟨q, rfl⟩ := Hq.out; exact ⟨q + _, (drewN_add _ q _).symm⟩⟩
            case measure => simp [intOf]; omega
          · have He := Lib.hid (Hno.out (fun e => hy (by cases e; rfl)))
            have hb : (v == v') = false := by simpa using hy
            clear Hyes Hno
            go_wp2_with fail
            go_quiet (fail)
            go_wp2_with fail
            go_ret
            exact ⟨by first | (rw [He.out]; done) | (rw [He.out]; rfl), below_drewN Gb.out _⟩
        · have He := Lib.hid (Hno.out (fun e => hx (by cases e; rfl)))
          have hb : (m == m') = false := by simpa using hx
          clear Hyes Hno
          go_wp2_with fail
          go_quiet (fail)
          go_wp2_with fail
          go_ret
          exact ⟨by first | (rw [He.out]; done) | (rw [He.out]; rfl), below_drewN Gb.out _⟩
      · obtain rfl : j = nk := by omega
        have He := Lib.hid (show r = true by
          rw [HR2.out]
          have h := Hj.out
          rw [List.take_of_length_le (by rw [Gr.out.1]; exact Nat.le_refl _), List.take_of_length_le (by rw [Gr'.out.1]; exact Nat.le_refl _)] at h
          exact decide_eq_true h)
        go_wp2_with fail
        go_ret
        exact ⟨by first | (rw [He.out]; done) | (rw [He.out]; rfl), Gb.out⟩
  · have He := Lib.hid (show r = false by
      rw [HR.out]
      exact decide_eq_false (fun ⟨h1, h2, h3⟩ => hall ⟨h1, h2, by rw [← Hr.out.1, ← Hr'.out.1, h3]⟩))
    clear HR
    by_cases h1 : d = d'
    · by_cases h2 : s = s'
      · have h3 : ¬ (nk : Int) = (nk' : Int) := fun h => hall ⟨h1, h2, by omega⟩
        subst h1 h2
        go_wp2_with fail
        go_ret
        exact ⟨by first | (rw [He.out]; done) | (rw [He.out]; rfl), Hb.out⟩
      · have h2' : (s == s') = false := by simpa using h2
        go_wp2_with fail
        go_ret
        exact ⟨by first | (rw [He.out]; done) | (rw [He.out]; rfl), Hb.out⟩
    · have h1' : (d == d') = false := by simpa using h1
      go_wp2_with fail
      go_ret
      exact ⟨by first | (rw [He.out]; done) | (rw [He.out]; rfl), Hb.out⟩
end Go.Proofs.YtmigapjkicddiaaDoor

namespace Go.Proofs.YtmigapjkicddiaaDoor
open Go.RowKit

/-- a key and where its value lies -/
structure Kv where
  k : Ky
  A : Option Addr
  n : Nat
  c : Nat
def kvC (p : Kv) : List Value := [.string ⟨p.k.name.toArray⟩, .slice p.A p.n p.c]
def flatK (vs : List Kv) : List Value := vs.flatMap kvC
theorem flatK_len (vs : List Kv) : (flatK vs).length = vs.length * 2 := by
  induction vs with
  | nil => rfl
  | cons p ps ih => simp [flatK, kvC] at ih ⊢; omega
theorem flatK_app (vs us : List Kv) : flatK (vs ++ us) = flatK vs ++ flatK us := by simp [flatK]
theorem flatK_get : ∀ (vs : List Kv) (i j : Nat) (hi : i < vs.length), j < 2 → (flatK vs)[i * 2 + j]? = (kvC vs[i])[j]?
  | p :: ps, 0, j, _, hj => by
    rw [show flatK (p :: ps) = kvC p ++ flatK ps from rfl, Nat.zero_mul, Nat.zero_add, List.getElem?_append_left (by simp [kvC]; omega)]
    rfl
  | p :: ps, i + 1, j, hi, hj => by
    rw [show flatK (p :: ps) = kvC p ++ flatK ps from rfl, List.getElem?_append_right (by simp [kvC]; omega), show (i + 1) * 2 + j - (kvC p).length = i * 2 + j by simp [kvC]; omega]
    exact flatK_get ps i j (by simpa using hi) hj
/-- a key's value lies below block B -/
def KvAt (w : World) (B : Nat) (p : Kv) : Prop := Rd w B p.A p.n p.k.val ∧ p.n ≤ 9223372036854775807 ∧ p.k.name.length ≤ 9223372036854775807
theorem KvAt.below {w w' : World} {B : Nat} {p : Kv} (h : KvAt w B p) (hb : Below B w w') : KvAt w' B p := ⟨h.1.below hb, h.2⟩
theorem KvAt.more {w : World} {B B' : Nat} {p : Kv} (h : KvAt w B p) (hB : B ≤ B') : KvAt w B' p := ⟨h.1.more hB, h.2⟩
set_option maxRecDepth 10000 in
theorem RdK.own {w : World} {B n c : Nat} {A : Option Addr} {vs : List Kv} (h : w.ownsRow B 48 2 (.slice A n c) n (flatK vs)) (hn : vs.length = n) (hv : ∀ p ∈ vs, KvAt w w.heap.size p) : RdK w w.heap.size A n (vs.map Kv.k) := by
  refine ⟨by rw [List.length_map]; exact hn, fun i hi => ?_⟩
  have hi' : i < vs.length := by simpa using hi
  have h' := h
  rcases h'.2 with ⟨_, hz⟩ | ⟨g, cap, cur, he, _, hg, _⟩
  · omega
  · cases he
    obtain ⟨h1, h2, h3⟩ := hv vs[i] (List.getElem_mem _)
    refine ⟨g, 0, (vs[i]).A, (vs[i]).n, (vs[i]).c, rfl, lt_of_block hg, ?_, ?_, ?_, h2, ?_⟩
    · rw [Nat.zero_add, h.cellAt (i * 2) (by omega)]; simpa [kvC] using flatK_get vs i 0 hi' (by omega)
    · rw [Nat.zero_add, h.cellAt (i * 2 + 1) (by omega)]; simpa [kvC] using flatK_get vs i 1 hi' (by omega)
    · simpa using h1
    · simpa using h3
set_option maxRecDepth 10000 in
theorem Tryd.infoK : (Tryd.prog.info? 48).map (fun i => (i.zero, i.size, i.bytes)) = some (some (.agg #[.string ⟨#[]⟩, .slice none 0 0]), 2, 40) := by kernel_rfl
theorem key_at (w : World) (x y : Value) (t : TypeId) (b : Nat) (hb : b = w.heap.size) : ∀ j u, ([x, y] : List Value)[j]? = some u → (w.alloc (.cells #[x, y] t)).cell? ((⟨b, 0, none⟩ : Addr).add j) = some u := by
  subst hb
  intro j u hu
  have hadd : (⟨w.heap.size, 0, none⟩ : Addr).add j = ⟨w.heap.size, j, none⟩ := by unfold Addr.add; split <;> simp_all
  rw [hadd, cell_blk (heap_alloc_new w _), List.getElem?_toArray]
  exact hu
theorem key_one (s : ByteArray) (A : Option Addr) (n c : Nat) : ∀ u ∈ ([.string s, .slice A n c] : List Value), u.oneCell' = true := by
  intro u hu
  simp at hu
  rcases hu with rfl | rfl <;> rfl
/-- an object's value and where its parts lie -/
def OjAt (w : World) (o : Oj) (v : Value) : Prop :=
  ∃ Ad nd cd Ak nk ck, v = oV Ad nd cd Ak nk ck o.seq ∧ Rd w w.heap.size Ad nd o.data ∧ nd ≤ 9223372036854775807 ∧ RdK w w.heap.size Ak nk o.keys
theorem OjAt.to {w w' : World} {o : Oj} {v : Value} (h : OjAt w o v) (hb : Below w.heap.size w w') : OjAt w' o v := by
  obtain ⟨Ad, nd, cd, Ak, nk, ck, h1, h2, h3, h4⟩ := h
  exact ⟨Ad, nd, cd, Ak, nk, ck, h1, (h2.below hb).more hb.size, h3, (h4.below hb).more hb.size⟩
abbrev oV0 : Value := oV none 0 0 none 0 0 0
theorem objs_of {w : World} {b : Nat} {t : TypeId} {v0 v1 v2 : Value} (h : w.heap[b]? = some (.cells #[v0, v1, v2] t (0, 0))) : w.cell? ⟨b, 0, none⟩ = some v0 ∧ w.cell? ⟨b, 1, none⟩ = some v1 ∧ w.cell? ⟨b, 2, none⟩ = some v2 := by
  refine ⟨?_, ?_, ?_⟩ <;> (rw [cell_blk h]; rfl)
/-- a block's three cells, set one by one -/
def put3 (w : World) (z : Nat) (v0 v1 v2 : Value) : World := ((w.setCell ⟨z, 0, none⟩ v0).setCell ⟨z, 1, none⟩ v1).setCell ⟨z, 2, none⟩ v2
theorem put3_at {w : World} {z : Nat} {t : TypeId} {a0 a1 a2 : Value} (h : w.heap[z]? = some (.cells #[a0, a1, a2] t (0, 0))) (v0 v1 v2 : Value) :
    (put3 w z v0 v1 v2).heap[z]? = some (.cells #[v0, v1, v2] t (0, 0)) := by
  have h0 : (w.setCell ⟨z, 0, none⟩ v0).heap[z]? = some (.cells #[v0, a1, a2] t (0, 0)) := set_blk h 0 v0
  have h1 : ((w.setCell ⟨z, 0, none⟩ v0).setCell ⟨z, 1, none⟩ v1).heap[z]? = some (.cells #[v0, v1, a2] t (0, 0)) := set_blk h0 1 v1
  have h2 : (((w.setCell ⟨z, 0, none⟩ v0).setCell ⟨z, 1, none⟩ v1).setCell ⟨z, 2, none⟩ v2).heap[z]? = some (.cells #[v0, v1, v2] t (0, 0)) := set_blk h1 2 v2
  exact h2
theorem put3_below {W w : World} {z B : Nat} (h : Below B W w) (hz : B ≤ z) (v0 v1 v2 : Value) : Below B W (put3 w z v0 v1 v2) :=
  ((h.setCell (p := ⟨z, 0, none⟩) hz v0).setCell (p := ⟨z, 1, none⟩) hz v1).setCell (p := ⟨z, 2, none⟩) hz v2
theorem own_set8 {w : World} {B n s : Nat} {e : TypeId} {v : Value} {xs : List Value} (h : w.ownsRow B e s v n xs) {p : Addr} (hp : p.block < B) (u : Value) : (w.setCell p u).ownsRow B e s v n xs := by
  refine ⟨h.1, ?_⟩
  rcases h.2 with h | ⟨g, cap, cur, h1, h2, h3, h4⟩
  · exact .inl h
  · exact .inr ⟨g, cap, cur, h1, h2, (Below.heap_setCell w p u g (by omega)).trans h3, h4⟩
theorem own_put3 {w : World} {B n s z : Nat} {e : TypeId} {v : Value} {xs : List Value} (h : w.ownsRow B e s v n xs) (hz : z < B) (v0 v1 v2 : Value) : (put3 w z v0 v1 v2).ownsRow B e s v n xs :=
  own_set8 (own_set8 (own_set8 h (p := ⟨z, 0, none⟩) hz v0) (p := ⟨z, 1, none⟩) hz v1) (p := ⟨z, 2, none⟩) hz v2
theorem own_base8 {w : World} {B B' n s : Nat} {e : TypeId} {v : Value} {xs : List Value} (h : w.ownsRow B' e s v n xs) (hB : B ≤ B') : w.ownsRow B e s v n xs := by
  refine ⟨h.1, ?_⟩
  rcases h.2 with h | ⟨g, cap, cur, h1, h2, h3, h4⟩
  · exact .inl h
  · exact .inr ⟨g, cap, cur, h1, Nat.le_trans hB h2, h3, h4⟩
set_option maxRecDepth 10000 in
/-- an object is told whose data is the argument's and whose keys lie in memory of their own; the values lie where they lay -/
def TellK (w : World) (B : Nat) (Ad : Option Addr) (nd cd : Nat) (s : Int) (ks : List Ky) (e : Ending) (w' : World) : Prop :=
  ∃ A l c, ∃ vs : List Kv, e = .returned (oV Ad nd cd A l c s) ∧ vs.map Kv.k = ks ∧ vs.length = l ∧ (∀ p ∈ vs, KvAt w B p) ∧ w'.ownsRow w.heap.size 48 2 (.slice A l c) l (flatK vs) ∧ Below w.heap.size w w'
/-- an object is told -/
def TellO (w : World) (o : Oj) (e : Ending) (w' : World) : Prop := ∃ v, e = .returned v ∧ OjAt w' o v ∧ Below w.heap.size w w'
theorem TellK.obj {w w' : World} {B : Nat} {Ad : Option Addr} {nd cd : Nat} {s : Int} {d : List UInt8} {ks : List Ky} {e : Ending} (h : TellK w B Ad nd cd s ks e w') (hB : B ≤ w.heap.size) (hd : Rd w w.heap.size Ad nd d) (hdn : nd ≤ 9223372036854775807) : TellO w ⟨d, ks, s⟩ e w' := by
  obtain ⟨A, l, c, vs, h1, h2, h3, h4, h5, h6⟩ := h
  have h := RdK.own h5 h3 (fun p hp => (((h4 p hp).more hB).below h6).more h6.size)
  rw [h2] at h
  exact ⟨_, h1, ⟨Ad, nd, cd, A, l, c, rfl, (hd.below h6).more h6.size, hdn, h⟩, h6⟩
def dropK (ks : List Ky) (X : List UInt8) : List Ky := ks.filter fun k => !(k.name == X)
theorem dropK_succ {ks : List Ky} {j : Nat} (h : j < ks.length) (X : List UInt8) : dropK (ks.take (j + 1)) X = dropK (ks.take j) X ++ (if ks[j].name = X then [] else [ks[j]]) := by
  unfold dropK
  rw [List.take_succ_eq_append_getElem h, List.filter_append]
  congr 1
  by_cases hx : ks[j].name = X
  · simp [hx]
  · simp [hx]
end Go.Proofs.YtmigapjkicddiaaDoor
