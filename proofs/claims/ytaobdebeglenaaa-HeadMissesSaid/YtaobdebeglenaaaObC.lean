/- Contract of the document's Changed (maps of objects' states). -/
import Derived.Test.YtaobdebeglenaaaObS
namespace Go.Proofs.Ytaobdebeglenaaa
open Go.RowKit

/-- slices of ints that can be read -/
def RdII (w : World) (B : Nat) (A : Option Addr) (n : Nat) (ll : List (List Int)) : Prop :=
  ll.length = n ∧ ∀ j (h : j < ll.length), ∃ ad Aj cj, A = some ad ∧ ad.block < B ∧ w.cell? (ad.add j) = some (.slice Aj (ll[j]).length cj) ∧ RdI w B Aj (ll[j]).length ll[j] ∧ (ll[j]).length ≤ 9223372036854775807
theorem RdII.below {w w' : World} {B : Nat} {A : Option Addr} {n : Nat} {ll : List (List Int)} (h : RdII w B A n ll) (hb : Below B w w') : RdII w' B A n ll := by
  refine ⟨h.1, fun j hj => ?_⟩
  obtain ⟨ad, Aj, cj, h1, h2, h3, h4, h5⟩ := h.2 j hj
  exact ⟨ad, Aj, cj, h1, h2, (hb.cell (by rw [addB]; exact h2)).trans h3, h4.below hb, h5⟩
theorem RdII.more {w : World} {B B' : Nat} {A : Option Addr} {n : Nat} {ll : List (List Int)} (h : RdII w B A n ll) (hB : B ≤ B') : RdII w B' A n ll := by
  refine ⟨h.1, fun j hj => ?_⟩
  obtain ⟨ad, Aj, cj, h1, h2, h3, h4, h5⟩ := h.2 j hj
  exact ⟨ad, Aj, cj, h1, by omega, h3, h4.more hB, h5⟩
theorem any_succ {α : Type} (p : α → Bool) (l : List α) (k : Nat) (h : k < l.length) : (l.take (k + 1)).any p = ((l.take k).any p || p l[k]) := by
  rw [List.take_succ_eq_append_getElem h, List.any_append]; simp

set_option maxRecDepth 10000 in
set_option maxHeartbeats 2000000 in
theorem RChanged_any (A1 A2 : Option Addr) (n1 n2 c1 c2 : Nat) (m : List Int) (ll : List (List Int)) (w : World) (hr1 : RdI w w.heap.size A1 n1 m) (hr2 : RdII w w.heap.size A2 n2 ll) (hn1 : n1 ≤ 9223372036854775807) (hn2 : n2 ≤ 9223372036854775806) :
    Calls Try.prog 66 #[.slice A1 n1 c1, .slice A2 n2 c2] w (OutI w (changedO m ll)) := by
  obtain ⟨inf, hi, hz0, hz1, hz2⟩ := info_parts Try.infoI
  have H1 := Lib.hid hr1
  have H2 := Lib.hid hr2
  clear hr1 hr2
  go_enter Try.func66, Try.ntmps66
  go_wp2_with fail
  go_loopw [5, 6] (fun v i wr => ∃ (j n : Nat), j ≤ 512 ∧ n ≤ j ∧ i = .int .i64 j ∧ Hid (n = (changedN m ll j).length) ∧ Hid (wr.ownsRow w.heap.size 3 1 v n ((changedN m ll j).map (Value.int .i64))) ∧ Hid (Below w.heap.size w wr)) (fun _ i _ => 512 - (intOf i).toNat)
  case atStart => exact ⟨0, 0, Nat.zero_le _, Nat.le_refl _, rfl, rfl, World.ownsRow_nil _ _ _ _, Below.refl _ _⟩
  case round =>
    obtain ⟨j, n, hj, hnj, rfl, Hn, Hown, Hbr⟩ := hrel
    by_cases hj5 : j < 512
    · have hj0 : (0 : Int) ≤ (j : Int) := by omega
      have hj1 : (j : Int) < 512 := by omega
      have HJ := Lib.hid hj5
      have Hst := Lib.hid (changedN_succ m ll j)
      have HG1 := Lib.hid (RGet_any A1 n1 c1 m j w.heap.size wr (H1.out.below Hbr.out) hn1)
      rw [getO_nat] at HG1
      obtain ⟨y, hy⟩ : ∃ y, y = gN m j := ⟨_, rfl⟩
      rw [← hy] at HG1
      have Hy := Lib.hid hy
      clear hy hj5
      obtain ⟨A3, c3, rfl, _, _⟩ := ownI Hown.out
      go_wp2_with fail
      go_loopw [7, 8] (fun b k wq => wq = wr ∧ ∃ k' : Nat, k' ≤ n2 ∧ k = .int .i64 k' ∧ ∃ z : Bool, b = .bool z ∧ Hid (z = (ll.take k').any fun l => dif m l j)) (fun _ k _ => n2 - (intOf k).toNat)
      case atStart => exact ⟨rfl, 0, Nat.zero_le _, rfl, false, rfl, rfl⟩
      case round =>
        obtain ⟨rfl, k, hk, rfl, z, rfl, Hz⟩ := hrel
        by_cases hkn : k < n2
        · have hkl : k < ll.length := by rw [H2.out.1]; exact hkn
          have hk0 : (0 : Int) ≤ (k : Int) := by omega
          have hk1 : (k : Int) < (n2 : Int) := by omega
          obtain ⟨ad, Aj, cj, rfl, hadB, hcell, hrd, hlen⟩ := (H2.out.below Hbr.out).2 k hkl
          have HG2 := Lib.hid (RGet_any Aj _ cj ll[k] j w.heap.size wr hrd hlen)
          rw [getO_nat] at HG2
          have Hs := Lib.hid (any_succ (fun l => dif m l j) ll k hkl)
          have Hd := Lib.hid (show dif m ll[k] j = (decide (gN ll[k] j = 1) || (decide (gN ll[k] j = 0) != decide (y = 0))) by rw [Hy.out]; rfl)
          obtain ⟨nk, hnk⟩ : ∃ nk, nk = (ll[k]).length := ⟨_, rfl⟩
          rw [← hnk] at hcell HG2
          generalize gN ll[k] j = x at HG2 Hd
          generalize dif m ll[k] j = d at Hs Hd
          clear hnk hlen hrd hkl
          cases z
          · by_cases a : x = 1
            · subst a
              go_wp2_with fail
              refine HG2.out.mono ?_
              rintro e5 w5 ⟨rfl, rfl⟩
              go_wp2_with fail
              go_roundw
              case rel => exact ⟨by first | rfl | trivial, k + 1, by omega, by go_num, true, by rfl, by show _ = _; rw [Hs.out, ← Hz.out, Hd.out]; rfl⟩
              case measure => simp [intOf]; omega
            · have a2 : (x == 1) = false := by simpa using a
              by_cases b : x = 0
              · subst b
                by_cases c : y = 0
                · subst c
                  go_wp2_with fail
                  refine HG2.out.mono ?_
                  rintro e5 w5 ⟨rfl, rfl⟩
                  go_wp2_with fail
                  refine HG1.out.mono ?_
                  rintro e6 w6 ⟨rfl, rfl⟩
                  go_wp2_with fail
                  go_roundw
                  case rel => exact ⟨by first | rfl | trivial, k + 1, by omega, by go_num, false, by rfl, by show _ = _; rw [Hs.out, ← Hz.out, Hd.out]; rfl⟩
                  case measure => simp [intOf]; omega
                · have c2 : (y == 0) = false := by simpa using c
                  go_wp2_with fail
                  refine HG2.out.mono ?_
                  rintro e5 w5 ⟨rfl, rfl⟩
                  go_wp2_with fail
                  refine HG1.out.mono ?_
                  rintro e6 w6 ⟨rfl, rfl⟩
                  go_wp2_with fail
                  go_roundw
                  case rel => exact ⟨by first | rfl | trivial, k + 1, by omega, by go_num, true, by rfl, by show _ = _; rw [Hs.out, ← Hz.out, Hd.out]; simp [c]⟩
                  case measure => simp [intOf]; omega
              · have b2 : (x == 0) = false := by simpa using b
                by_cases c : y = 0
                · subst c
                  go_wp2_with fail
                  refine HG2.out.mono ?_
                  rintro e5 w5 ⟨rfl, rfl⟩
                  go_wp2_with fail
                  refine HG1.out.mono ?_
                  rintro e6 w6 ⟨rfl, rfl⟩
                  go_wp2_with fail
                  go_roundw
                  case rel => exact ⟨by first | rfl | trivial, k + 1, by omega, by go_num, true, by rfl, by show _ = _; rw [Hs.out, ← Hz.out, Hd.out]; simp [a, b]⟩
                  case measure => simp [intOf]; omega
                · have c2 : (y == 0) = false := by simpa using c
                  go_wp2_with fail
                  refine HG2.out.mono ?_
                  rintro e5 w5 ⟨rfl, rfl⟩
                  go_wp2_with fail
                  refine HG1.out.mono ?_
                  rintro e6 w6 ⟨rfl, rfl⟩
                  go_wp2_with fail
                  go_roundw
                  case rel => exact ⟨by first | rfl | trivial, k + 1, by omega, by go_num, false, by rfl, by show _ = _; rw [Hs.out, ← Hz.out, Hd.out]; simp [a, b, c]⟩
                  case measure => simp [intOf]; omega
          · clear Hd
            go_wp2_with fail
            refine HG2.out.mono ?_
            rintro e5 w5 ⟨rfl, rfl⟩
            go_wp2_with fail
            go_roundw
            case rel => exact ⟨by first | rfl | trivial, k + 1, by omega, by go_num, true, by rfl, by show _ = _; rw [Hs.out, ← Hz.out]; rfl⟩
            case measure => simp [intOf]; omega
        · obtain rfl : k = n2 := by omega
          have Hch := Lib.hid (show z = chB m ll j by have h := Hz.out; rwa [List.take_of_length_le (by rw [H2.out.1]; exact Nat.le_refl _)] at h)
          have hws := Hbr.out.size
          have hnb : n ≤ 512 := by omega
          cases z
          · have Hs2 := Lib.hid (show changedN m ll (j + 1) = changedN m ll j by rw [Hst.out, ← Hch.out]; rfl)
            go_wp2_with fail
            go_roundw
            case rel => exact ⟨j + 1, n, HJ.out, by omega, by go_num, by rw [Hs2.out]; exact Hn, by rw [Hs2.out]; exact Hown, Hbr⟩
            case measure => have := HJ.out; simp [intOf]; omega
          · have Hs2 := Lib.hid (show changedN m ll (j + 1) = changedN m ll j ++ [(j : Int)] by rw [Hst.out, ← Hch.out]; rfl)
            have Hs3 := Lib.hid (show (changedN m ll j ++ [(j : Int)]).map (Value.int .i64) = (changedN m ll j).map (Value.int .i64) ++ [(j : Int)].map (Value.int .i64) from List.map_append)
            go_wp2_with (at_builtin; refine wpList_append_rd rfl (.tmp 41) (.tmp 43) 24 rfl w.heap.size 3 inf (.int .i64 0) 8 Try.underlying24 hi hz0 hz1 hz2 rfl _ _ _ rfl (Hown.out.alloc _) (some ⟨wr.heap.size, 0, none⟩) 1 1 ([(j : Int)].map (Value.int .i64)) rfl rfl (RdI_lit wr 3 [(j : Int)]).src (int_one _) (by simp only [maxLen]; omega) (by omega) (by simp; omega) ?_; intro v2 w2 hown2 hg2; have Hb2 := Lib.hid ((Hbr.out.alloc hws _).grown hg2 (by simp; omega) (fun q hq => (Hown.out.lt q hq).1)); have Hown2 := Lib.hid hown2; clear hown2 hg2)
            go_roundw
            case rel => exact ⟨j + 1, n + 1, HJ.out, by omega, by go_num, by show _ = _; rw [Hs2.out, List.length_append, ← Hn.out]; rfl, by rw [Hs2.out, Hs3.out]; exact Hown2, Hb2⟩
            case measure => have := HJ.out; simp [intOf]; omega
    · obtain rfl : j = 512 := by omega
      have Hfin : Hid (wr.ownsRow w.heap.size 3 1 u5 (changedO m ll).length ((changedO m ll).map (Value.int .i64))) := by have h := Hown.out; rw [Hn.out] at h; exact h
      clear Hown Hn
      go_wp2_with fail
      go_ret
      exact ⟨_, rfl, Hfin.out, Hbr.out⟩
end Go.Proofs.Ytaobdebeglenaaa
