/- The law's helpers: Ints, strings of bytes, the document's examples (awake). -/
import Derived.Test.YtiopefndbamkhaaWireC
import Derived.BigQuiet
import Derived.Deep.QuietTactic
namespace Go.Proofs.Ytiopefndbamkhaa
open Go.RowKit

/-- string(b) of a slice that reads as l -/
theorem run_str {P : Program} {w : World} {src dst e : TypeId} {B n c : Nat} {A : Option Addr} {l : List UInt8} (hs : P.underlying src = some (.slice e)) (he : P.underlying e = some (.int .u8)) (hd : P.underlying dst = some .string)
    (hr : Rd w B A n l) : (convert src dst (.slice A n c)).run P w = .ok (.string ⟨l.toArray⟩) w := by
  rw [run_convert_bytes_string w src dst e A n c hs he hd]
  have hl := hr.1
  rcases A with _ | ad
  · have h0 : n = 0 := by
      rcases Nat.eq_zero_or_pos n with h | h
      · exact h
      · obtain ⟨_, hc, _⟩ := hr.2 h
        cases hc
    subst h0
    obtain rfl : l = [] := List.eq_nil_of_length_eq_zero hl
    rfl
  · have hsrc : ∀ j v, (l.map bv)[j]? = some v → w.cell? (ad.add j) = some v := by
      intro j v hv
      have hj : j < (l.map bv).length := (List.getElem?_eq_some_iff.1 hv).1
      obtain ⟨a', ha, hcell⟩ := hr.vals (by rw [List.length_map] at hj; omega)
      cases ha
      exact hcell j v hv
    have hlc := run_loadCells_list (P := P) w ad (l.map bv) hsrc
    rw [List.length_map, hl] at hlc
    have e1 : l.map bv = (l.map fun x => (x.toNat : Int)).map (Value.int .u8) := by simp [bv, Function.comp_def]
    rw [e1] at hlc
    rw [run_bytesToString w ad n c _ hlc]
    congr 2
    have e2 : ∀ (l : List UInt8) (s : ByteArray), (l.map fun x => (x.toNat : Int)).foldl (fun r n => r.push (UInt8.ofNat n.toNat)) s = ⟨s.data ++ l.toArray⟩ := by
      intro l
      induction l with
      | nil => intro s; simp
      | cons b l ih =>
        intro s
        rw [List.map_cons, List.foldl_cons, ih]
        simp [ByteArray.push]
    rw [e2]
    simp

set_option maxHeartbeats 400000 in
theorem Ints_any (A A' : Option Addr) (n c n' c' : Nat) (l l' : List Int) (B B' : Nat) (w : World) (hr : RdI w B A n l) (hr' : RdI w B' A' n' l') (hn : n ≤ 9223372036854775807) (hn' : n' ≤ 9223372036854775807) :
    Calls Try.prog 15 #[.slice A n c, .slice A' n' c'] w fun e w' => e = .returned (.bool (decide (l = l'))) ∧ ∃ q, w' = w.drewN q := by
  by_cases hlen : n = n'
  · subst hlen
    have hl := Lib.hid hr.1
    have hl' := Lib.hid hr'.1
    go_enter Try.func15, Try.ntmps15
    go_wp2
    go_loopw [5] (fun i wr => ∃ j : Nat, j ≤ n ∧ i = .int .i64 j ∧ l.take j = l'.take j ∧ ∃ q, wr = w.drewN q) (fun i _ => n - (intOf i).toNat)
    case atStart => exact ⟨0, Nat.zero_le _, rfl, rfl, 0, rfl⟩
    case round =>
      obtain ⟨j, hj, rfl, htk, q, rfl⟩ := hrel
      have Htk := Lib.hid htk
      clear htk
      by_cases hlt : j < n
      · obtain ⟨ad, rfl, _, hc⟩ := hr.cellAt hlt
        obtain ⟨ad', rfl, _, hc'⟩ := hr'.cellAt hlt
        have h1 : j < l.length := by rw [hl.out]; exact hlt
        have h2 : j < l'.length := by rw [hl'.out]; exact hlt
        have t1 : l.take (j + 1) = l.take j ++ [l[j]] := List.take_succ_eq_append_getElem h1
        have t2 : l'.take (j + 1) = l'.take j ++ [l'[j]] := List.take_succ_eq_append_getElem h2
        have Hne : Hid (l[j] ≠ l'[j] → l ≠ l') := fun h e => h (by subst e; rfl)
        obtain ⟨a, ha⟩ : ∃ a, a = l[j] := ⟨_, rfl⟩
        obtain ⟨b, hb⟩ : ∃ b, b = l'[j] := ⟨_, rfl⟩
        rw [← ha] at hc t1 Hne
        rw [← hb] at hc' t2 Hne
        have T1 := Lib.hid t1
        have T2 := Lib.hid t2
        have hj63 : (j : Int) < (n : Int) := by omega
        clear ha hb t1 t2 h1 h2 hr hr'
        by_cases hab : a = b
        · subst hab
          have hbb : (a != a) = false := by simp
          go_wp2
          go_quiet (fail)
          go_wp2
          go_roundw
          case rel => exact ⟨j + 1, by omega, by go_num, by rw [T1.out, T2.out, Htk.out], q + nq, rfl⟩
          case measure => simp [intOf]; omega
        · have hbb : (a != b) = true := by simpa using hab
          go_wp2
          go_quiet (fail)
          go_wp2
          rw [decide_eq_false (Hne.out hab)]
          go_ret
          exact ⟨rfl, q + nq, by rw [World.drewN_drewN]⟩
      · obtain rfl : j = n := by omega
        have heq : l = l' := by
          have h := Htk.out
          rwa [List.take_of_length_le (by rw [hl.out]; exact Nat.le_refl _), List.take_of_length_le (by rw [hl'.out]; exact Nat.le_refl _)] at h
        have Heq := Lib.hid heq
        clear heq hr hr'
        go_wp2
        go_ret
        exact ⟨by rw [decide_eq_true Heq.out]; rfl, _, rfl⟩
  · have hne : l ≠ l' := fun h => hlen (by rw [← hr.1, ← hr'.1, h])
    have hb : ((n : Int) != (n' : Int)) = true := by simpa using fun h => hlen (by omega)
    rw [decide_eq_false hne]
    clear hne
    go_enter Try.func15, Try.ntmps15
    go_wp2
    go_ret
    exact ⟨rfl, 0, rfl⟩
end Go.Proofs.Ytiopefndbamkhaa
