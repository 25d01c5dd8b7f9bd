/- Contract of package objmap's Changed. -/
import Derived.Test.YtaobdebeglenaaaObY
namespace Go.Proofs.Ytaobdebeglenaaa
open Go.RowKit

def chg (x y : Int) : Bool := decide (y = 1) || (decide (y = 0) != decide (x = 0))
set_option maxRecDepth 10000 in
theorem wChanged (x y : Int) (w : World) : Calls Try.prog 98 #[.int .i64 x, .int .i64 y] w fun e w' => e = .returned (.bool (chg x y)) ∧ w = w' := by
  by_cases hy : y = 1
  · have Hm := Lib.hid (show chg x y = true by unfold chg; simp [hy])
    rw [Hm.out]
    subst hy
    go_enter Try.func98, Try.ntmps98
    go_wp2_with fail
    go_ret
    exact ⟨rfl, rfl⟩
  · have h1 : (y == 1) = false := by simpa using hy
    by_cases hy0 : y = 0
    · by_cases hx : x = 0
      · have Hm := Lib.hid (show chg x y = false by unfold chg; simp [hy0, hx])
        rw [Hm.out]
        subst hy0
        subst hx
        clear hy
        go_enter Try.func98, Try.ntmps98
        go_wp2_with fail
        go_ret
        exact ⟨rfl, rfl⟩
      · have Hm := Lib.hid (show chg x y = true by unfold chg; simp [hy0, hx])
        rw [Hm.out]
        subst hy0
        have h2 : (x == 0) = false := by simpa using hx
        clear hy hx
        go_enter Try.func98, Try.ntmps98
        go_wp2_with fail
        go_ret
        exact ⟨by first | rfl | simp [h2], rfl⟩
    · have h3 : (y == 0) = false := by simpa using hy0
      by_cases hx : x = 0
      · have Hm := Lib.hid (show chg x y = true by unfold chg; simp [hy0, hx])
        rw [Hm.out]
        subst hx
        clear hy hy0
        go_enter Try.func98, Try.ntmps98
        go_wp2_with fail
        go_ret
        exact ⟨by first | rfl | simp [h1, h3], rfl⟩
      · have Hm := Lib.hid (show chg x y = false by unfold chg; simp [hy, hy0, hx])
        rw [Hm.out]
        have h2 : (x == 0) = false := by simpa using hx
        clear hy hx hy0
        go_enter Try.func98, Try.ntmps98
        go_wp2_with fail
        go_ret
        exact ⟨by first | rfl | simp [h1, h2, h3], rfl⟩

/-- the marks: 512 Booleans in a block of their own -/
def MarkL (w : World) (B g : Nat) (l : List Bool) : Prop := w.ownsRow B 106 1 (.slice (some ⟨g, 0, none⟩) 512 512) 512 (l.map Value.bool)
theorem Try.infoArr : (Try.prog.info? 106).map (fun i => (i.zero, i.size, i.bytes)) = some (some (.agg (Array.replicate 512 (.bool false))), 512, 512) := by kernel_rfl
theorem zero_arr (w : World) : (zeroValue 106).run Try.prog w = .ok (.agg (Array.replicate 512 (.bool false))) w := by
  obtain ⟨i, hi, hz0, hz1, hz2⟩ := info_parts Try.infoArr
  simp [zeroValue, typeInfo, hi, hz0]
theorem mark_made (w : World) (Z : Array Value) (hZ : Z = Array.replicate 512 (.bool false)) : MarkL (w.alloc (.cells Z 106)) w.heap.size w.heap.size ((List.range 512).map fun _ => false) := by
  subst hZ
  refine ⟨by simp, .inr ⟨w.heap.size, 512, _, rfl, Nat.le_refl _, heap_alloc_new w _, Nat.le_refl _, by simp only [maxLen]; omega, by simp, ?_⟩⟩
  rw [List.map_const', List.length_range, List.map_replicate, Array.toList_replicate, Nat.mul_one, List.take_replicate, Nat.min_self]
theorem MarkL.heap {w : World} {B g : Nat} {l : List Bool} (h : MarkL w B g l) : w.heap[g]? = some (.cells (l.map Value.bool).toArray 106 (0, 0)) := by
  rcases h.2 with ⟨h', _⟩ | ⟨g', cap', cur, h', hb, hg, hnc, hcm, hcs, htake⟩
  · simp at h'
  · simp only [Value.slice.injEq, Option.some.injEq, Addr.mk.injEq, and_true, true_and] at h'
    obtain ⟨rfl, rfl⟩ := h'
    have e : (l.map Value.bool).toArray = cur := by
      apply Array.toList_inj.1
      rw [← htake]
      exact (List.take_of_length_le (by rw [Array.length_toList, hcs]; exact Nat.le_refl _))
    rw [e]
    exact hg
theorem idx_arr (l : List Bool) (j : Nat) (z : Bool) (hz : l[j]? = some z) (hj : j < 512) (w : World) : (Instr.index 106 (.agg (l.map Value.bool).toArray) (.int .i64 (j : Int))).run Try.prog w = .ok (.bool z) w := by
  have hs : (sizeOf 4).run Try.prog w = .ok 1 w := by
    obtain ⟨i, hi, hz0, hz1, hz2⟩ := info_parts Try.infoBo
    simp [sizeOf, typeInfo, hi, hz1]
  have hp : (part 4 (l.map Value.bool).toArray (j * 1)).run Try.prog w = .ok (.bool z) w := by
    have ha : (isAgg 4).run Try.prog w = .ok false w := by
      unfold isAgg
      rw [Sem.run_bind, run_underlying Try.underlying4 w]
      rfl
    unfold part
    rw [Sem.run_bind, ha]
    simp [hz]
  unfold Instr.index
  simp only [asIntOf, Sem.run_bind, Sem.run_pure, Result.andThen_ok, run_underlying Try.underlying106 w]
  rw [if_pos (by omega)]
  simp only [Sem.run_bind, hs, Result.andThen_ok, Int.toNat_natCast, hp]
/-- what stands in another block stays -/
theorem own_past {w : World} {B n s : Nat} {e : TypeId} {v : Value} {xs : List Value} (h : w.ownsRow B e s v n xs) (p : Addr) (u : Value) (hp : v.ownBlock ≠ some p.block) : (w.setCell p u).ownsRow B e s v n xs := by
  refine ⟨h.1, ?_⟩
  rcases h.2 with h | ⟨g, cap, cur, h1, h2, h3, h4⟩
  · exact .inl h
  · refine .inr ⟨g, cap, cur, h1, h2, ?_, h4⟩
    rw [heap_setCell_other w p g u (fun e => hp (by rw [h1, ← e]; rfl))]
    exact h3

theorem chg_far (m l : List Int) {n1 n2 k : Nat} (h1 : m.length = n1) (h2 : l.length = n2) (hk : farK n1 n2 ≤ k) : chg (gN m k) (gN l k) = false := by
  unfold farK at hk
  have z1 : gN m k = 0 := by
    by_cases q : 512 ≤ k
    · exact gN_high m q
    · exact gN_out m (by omega)
  have z2 : gN l k = 0 := by
    by_cases q : 512 ≤ k
    · exact gN_high l q
    · exact gN_out l (by omega)
  rw [z1, z2]; rfl
theorem mixA_far (z d : Nat → Bool) {K : Nat} (hK : ∀ k, K ≤ k → d k = false) (t : Nat) : mixA z (fun k => z k || d k) K t = (List.range t).map fun k => z k || d k := by
  unfold mixA
  refine List.map_congr_left fun k _ => ?_
  by_cases q : k < K
  · rw [if_pos q]
  · rw [if_neg q, hK k (by omega), Bool.or_false]

set_option maxRecDepth 10000 in
set_option maxHeartbeats 4000000 in
theorem PChanged (A1 A2 : Option Addr) (n1 n2 c1 c2 : Nat) (m : List Int) (ll : List (List Int)) (w : World) (hr : RdI w w.heap.size A1 n1 m) (hr2 : RdII w w.heap.size A2 n2 ll) (hn1 : n1 ≤ 3000) (hn2 : n2 ≤ 10) (h3 : ∀ l ∈ ll, l.length ≤ 3000) : GivesI 65 #[.slice A1 n1 c1, .slice A2 n2 c2] w (changedO m ll) := by
  obtain ⟨inf, hi, hz0, hz1, hz2⟩ := info_parts Try.infoI
  have eg : ∀ args w, (callFunc 98 args).run Try.prog w = .ok (.enter 98 args) w := enters_of Try.func98 (by kernel_rfl) rfl
  have Heg := Lib.hid eg
  have H1 := Lib.hid hr
  have H2 := Lib.hid hr2
  have H3 := Lib.hid h3
  have HsA : Hid ((Try.prog.info? 106).map (·.size) = some 512) := by
    obtain ⟨i, hi, _, hz1, _⟩ := info_parts Try.infoArr
    show _ = _
    rw [hi, ← hz1]; rfl
  clear hr hr2 h3 eg
  obtain ⟨Z, hZ⟩ : ∃ Z, Z = Array.replicate 512 (Value.bool false) := ⟨_, rfl⟩
  have hzv : ∀ w, (zeroValue 106).run Try.prog w = .ok (.agg Z) w := fun w => by rw [hZ]; exact zero_arr w
  have HZ := Lib.hid hZ
  clear hZ
  go_enter Try.func65, Try.ntmps65
  go_wp2_with fail
  obtain ⟨g, hg⟩ : ∃ g, g = w.heap.size := ⟨_, rfl⟩
  have Hmk := Lib.hid (mark_made w Z HZ.out)
  have Hb := Lib.hid ((Below.refl w.heap.size w).alloc (Nat.le_refl _) (.cells Z 106))
  have Hgb : Hid (w.heap.size ≤ g) := by show _ ≤ _; omega
  have Hmk : Hid (MarkL (w.alloc (.cells Z 106)) w.heap.size g ((List.range 512).map fun k => (ll.take 0).any (fun l => dif m l k))) := by rw [hg]; exact Hmk
  rw [← hg]
  clear hg hzv HZ
  generalize w.alloc (.cells Z 106) = w1 at Hmk Hb ⊢
  go_loopw [15] (fun i wr => ∃ j : Nat, j ≤ n2 ∧ i = .int .i64 j ∧ Hid (MarkL wr w.heap.size g ((List.range 512).map fun k => (ll.take j).any (fun l => dif m l k))) ∧ Hid (Below w.heap.size w wr)) (fun i _ => n2 - (intOf i).toNat)
  case atStart => exact ⟨0, Nat.zero_le _, rfl, Hmk, Hb⟩
  case round =>
    obtain ⟨j, hj, rfl, Hmr, Hbr⟩ := hrel
    by_cases hjt : j < n2
    · have hj0 : (0 : Int) ≤ (j : Int) := by omega
      have hj1 : (j : Int) < (n2 : Int) := by omega
      have hjl : j < ll.length := by rw [H2.out.1]; exact hjt
      obtain ⟨ad, Aj, cj, rfl, hadB, hcell, hrd, hlen⟩ := (H2.out.below Hbr.out).2 j hjl
      have hl3 : (ll[j]).length ≤ 3000 := H3.out _ (List.getElem_mem hjl)
      have hws := Hbr.out.size
      have HT := Lib.hid (together_B 98 Heg.out chg wChanged A1 Aj n1 (ll[j]).length c1 cj m ll[j] wr ((H1.out.below Hbr.out).more hws) (hrd.more hws) (by omega) (by omega))
      have Hfar : Hid (∀ k, farK n1 (ll[j]).length ≤ k → chg (gN m k) (gN ll[j] k) = false) := fun k hk => chg_far m ll[j] H1.out.1 rfl hk
      have Hs : Hid (∀ k, (ll.take (j + 1)).any (fun l => dif m l k) = ((ll.take j).any (fun l => dif m l k) || chg (gN m k) (gN ll[j] k))) := fun k => any_succ (fun l => dif m l k) ll j hjl
      have HK5 := Lib.hid (farK_le n1 (ll[j]).length)
      have hz : ∃ z : Nat → Bool, z = fun k => (ll.take j).any (fun l => dif m l k) := ⟨_, rfl⟩
      obtain ⟨z, hz⟩ := hz
      have hz2 : ∀ k, (ll.take j).any (fun l => dif m l k) = z k := fun k => by rw [hz]
      replace Hs : Hid (∀ k, (ll.take (j + 1)).any (fun l => dif m l k) = (z k || chg (gN m k) (gN ll[j] k))) := fun k => by rw [Hs.out, hz2]
      rw [← hz] at Hmr
      clear hz hz2
      obtain ⟨d, hd⟩ : ∃ d : Nat → Bool, d = fun k => chg (gN m k) (gN ll[j] k) := ⟨_, rfl⟩
      have hd2 : ∀ k, chg (gN m k) (gN ll[j] k) = d k := fun k => by rw [hd]
      replace Hs : Hid (∀ k, (ll.take (j + 1)).any (fun l => dif m l k) = (z k || d k)) := fun k => by rw [Hs.out, hd2]
      replace Hfar : Hid (∀ k, farK n1 (ll[j]).length ≤ k → d k = false) := fun k hk => by rw [← hd2]; exact Hfar.out k hk
      rw [← hd] at HT
      clear hd hd2
      generalize farK n1 (ll[j]).length = K at HT Hfar HK5
      generalize (ll[j]).length = nj at hcell HT
      have hk5 : K ≤ 512 := HK5.out
      clear hlen hrd hl3 hjl
      go_wp2_with fail
      refine HT.out.mono ?_
      rintro e w2 ⟨G, rfl, hown, hb2⟩
      have hGg : g < G ∧ g < wr.heap.size := by
        have h1 := (Hmr.out.lt g rfl).2
        have h2 := (hown.lt G rfl).1
        omega
      have Hne := Lib.hid (show G ≠ g by omega)
      have Hrow := Lib.hid hown
      have Hm2 : Hid (MarkL w2 w.heap.size g (mixA z (fun k => z k || d k) 0 512)) := by rw [mixA_zero]; exact ownTo Hmr.out hb2
      have Hb2 := Lib.hid (Hbr.out.trans (hb2.mono Hbr.out.size))
      clear hown hb2 HT hGg
      go_wp2_with fail
      go_loopw [23] (fun i wq => ∃ k : Nat, k ≤ K ∧ i = .int .i64 k ∧ Hid (wq.ownsRow wr.heap.size 4 1 (.slice (some ⟨G, 0, none⟩) K K) K (((List.range K).map d).map Value.bool)) ∧ Hid (MarkL wq w.heap.size g (mixA z (fun k => z k || d k) k 512)) ∧ Hid (Below w.heap.size w wq)) (fun i _ => K - (intOf i).toNat)
      case atStart => exact ⟨0, Nat.zero_le _, rfl, Hrow, Hm2, Hb2⟩
      case round =>
        obtain ⟨k, hk, rfl, Hrow3, Hm3, Hbq⟩ := hrel
        by_cases hkt : k < K
        · have hk0 : (0 : Int) ≤ (k : Int) := by omega
          have hk1 : (k : Int) < (K : Int) := by omega
          have hk2 : (k : Int) < 512 := by omega
          have hc1 : wr.cell? ⟨G, k, none⟩ = some (.bool (d k)) := by
            rw [Hrow3.out.cellAt k (by omega)]
            exact mapV_at (by rw [List.getElem?_map, List.getElem?_range hkt]; rfl)
          have hc2 : wr.cell? ⟨g, k, none⟩ = some (.bool (z k)) := by
            rw [World.ownsRow.cellAt Hm3.out k (by omega)]
            exact mapV_at (mixA_get _ _ (by omega))
          have hf := World.ownsRow.frozenAt Hm3.out k
          have Hset : Hid ((mixA z (fun k => z k || d k) k 512).set k (z k || d k) = mixA z (fun k => z k || d k) (k + 1) 512) := mixA_set z (fun k => z k || d k) k 512
          generalize d k = y at hc1 Hset
          generalize z k = x at hc2 Hset
          cases x
          · go_wp2_with fail
            go_roundw
            case rel =>
              have h := (World.ownsRow.stored Hm3.out k (.bool y)).1
              rw [mapV_set Value.bool, ← Bool.false_or y, Hset.out] at h
              exact ⟨k + 1, by omega, by go_num, own_past Hrow3.out _ _ (by simpa [Value.ownBlock] using Hne.out), h, Lib.hid (Hbq.out.setCell (by show _ ≤ g; exact Hgb.out) _)⟩
            case measure => simp [intOf]; omega
          · go_wp2_with fail
            go_roundw
            case rel =>
              have h := (World.ownsRow.stored Hm3.out k (.bool true)).1
              rw [mapV_set Value.bool, ← Bool.true_or y, Hset.out] at h
              exact ⟨k + 1, by omega, by go_num, own_past Hrow3.out _ _ (by simpa [Value.ownBlock] using Hne.out), h, Lib.hid (Hbq.out.setCell (by show _ ≤ g; exact Hgb.out) _)⟩
            case measure => simp [intOf]; omega
        · obtain rfl : k = K := by omega
          have Hm4 : Hid (MarkL wr w.heap.size g ((List.range 512).map fun k => (ll.take (j + 1)).any (fun l => dif m l k))) := by
            have h := Hm3.out
            rw [mixA_far z d Hfar.out] at h
            have e : (fun k => (ll.take (j + 1)).any (fun l => dif m l k)) = fun k => z k || d k := funext Hs.out
            rw [e]
            exact h
          clear Hm3 Hrow3
          go_wp2_with fail
          go_roundw
          case rel => exact ⟨j + 1, by omega, by go_num, Hm4, Hbq⟩
          case measure => simp [intOf]; omega
    · obtain rfl : j = n2 := by omega
      have Hm5 : Hid (MarkL wr w.heap.size g ((List.range 512).map (chB m ll))) := by
        have h := Hmr.out
        rw [List.take_of_length_le (by rw [H2.out.1]; exact Nat.le_refl _)] at h
        exact h
      have Hhp := Lib.hid Hm5.out.heap
      obtain ⟨L, hL⟩ : ∃ L, L = (List.range 512).map (chB m ll) := ⟨_, rfl⟩
      rw [← hL] at Hhp
      have HL : Hid (∀ k, k < 512 → L[k]? = some (chB m ll k)) := fun k hk => by rw [hL, List.getElem?_map, List.getElem?_range hk]; rfl
      have Hsz : Hid ((Try.prog.info? 106).map (·.size) = some (L.map Value.bool).toArray.size) := by
        show _ = _
        rw [HsA.out, hL]
        simp
      clear hL Hmr Hm5 H1 H2 H3 Heg
      go_wp2_with (refine wpList_load_row rfl 106 (.tmp 5) rfl g rfl 106 (L.map Value.bool).toArray (0, 0) _ Hhp.out Try.underlying106 rfl Hsz.out ?_)
      go_loopw [10, 39] (fun v i wq => ∃ (j n : Nat), j ≤ 512 ∧ n ≤ j ∧ i = .int .i64 j ∧ Hid (n = (changedN m ll j).length) ∧ Hid (wq.ownsRow w.heap.size 3 1 v n ((changedN m ll j).map (Value.int .i64))) ∧ Hid (Below w.heap.size w wq)) (fun _ i _ => 512 - (intOf i).toNat)
      case atStart => exact ⟨0, 0, Nat.zero_le _, Nat.le_refl _, rfl, rfl, World.ownsRow_nil _ _ _ _, Hbr⟩
      case round =>
        obtain ⟨j, n, hj, hnj, rfl, Hn, Hown, Hbq⟩ := hrel
        by_cases hj5 : j < 512
        · have hj0 : (0 : Int) ≤ (j : Int) := by omega
          have hj1 : (j : Int) < 512 := by omega
          have HJ := Lib.hid hj5
          have Hst := Lib.hid (changedN_succ m ll j)
          have hix := idx_arr L j (chB m ll j) (HL.out j hj5) hj5
          obtain ⟨x, hx⟩ : ∃ x, x = chB m ll j := ⟨_, rfl⟩
          rw [← hx] at hix
          have Hx := Lib.hid hx
          have hws := Hbq.out.size
          have hnb : n ≤ 512 := by omega
          obtain ⟨A3, c3, rfl, _, _⟩ := ownI Hown.out
          clear hx hj5
          cases x
          · have Hs2 := Lib.hid (show changedN m ll (j + 1) = changedN m ll j by rw [Hst.out, ← Hx.out]; rfl)
            go_wp2_with fail
            go_roundw
            case rel => exact ⟨j + 1, n, HJ.out, by omega, by go_num, by rw [Hs2.out]; exact Hn, by rw [Hs2.out]; exact Hown, Hbq⟩
            case measure => have := HJ.out; simp [intOf]; omega
          · have Hs2 := Lib.hid (show changedN m ll (j + 1) = changedN m ll j ++ [(j : Int)] by rw [Hst.out, ← Hx.out]; rfl)
            have Hs3 := Lib.hid (show (changedN m ll j ++ [(j : Int)]).map (Value.int .i64) = (changedN m ll j).map (Value.int .i64) ++ [(j : Int)].map (Value.int .i64) from List.map_append)
            go_wp2_with (at_builtin; refine wpList_append_rd rfl (.tmp 44) (.tmp 46) 24 rfl w.heap.size 3 inf (.int .i64 0) 8 Try.underlying24 hi hz0 hz1 hz2 rfl _ _ _ rfl (Hown.out.alloc _) (some ⟨wr.heap.size, 0, none⟩) 1 1 ([(j : Int)].map (Value.int .i64)) rfl rfl (RdI_lit wr 3 [(j : Int)]).src (int_one _) (by simp only [maxLen]; omega) (by omega) (by simp; omega) ?_; intro v2 w2 hown2 hg2; have Hb2 := Lib.hid ((Hbq.out.alloc hws _).grown hg2 (by simp; omega) (fun q hq => (Hown.out.lt q hq).1)); have Hown2 := Lib.hid hown2; clear hown2 hg2)
            go_roundw
            case rel => exact ⟨j + 1, n + 1, HJ.out, by omega, by go_num, by show _ = _; rw [Hs2.out, List.length_append, ← Hn.out]; rfl, by rw [Hs2.out, Hs3.out]; exact Hown2, Hb2⟩
            case measure => have := HJ.out; simp [intOf]; omega
        · obtain rfl : j = 512 := by omega
          obtain ⟨A3, c3, rfl, hnc, hcm⟩ := ownI Hown.out
          have Hrd := Lib.hid (RdI.own Hown.out)
          have Hnw := Lib.hid (NewA.own Hown.out)
          go_wp2_with fail
          go_ret
          exact ⟨A3, n, c3, rfl, Hrd.out, ⟨by omega, Hnw.out⟩, Hbq.out⟩
end Go.Proofs.Ytaobdebeglenaaa
