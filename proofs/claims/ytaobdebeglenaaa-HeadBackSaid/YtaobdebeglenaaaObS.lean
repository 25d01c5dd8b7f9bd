/- Contracts of the document's Set, Fresh, Merge (maps of objects' states). -/
import Derived.Test.YtaobdebeglenaaaObR
namespace Go.Proofs.Ytaobdebeglenaaa
open Go.RowKit

/-- the first j by g, the others by f -/
def mixF (f g : Nat → Int) (j t : Nat) : List Int := (List.range t).map fun k => if k < j then g k else f k
theorem mix_len (f g : Nat → Int) (j t : Nat) : (mixF f g j t).length = t := by simp [mixF]
theorem mix_zero (f g : Nat → Int) (t : Nat) : mixF f g 0 t = (List.range t).map f := by
  unfold mixF
  exact List.map_congr_left fun k _ => by rw [if_neg (by omega)]
theorem mix_all (f g : Nat → Int) (t : Nat) : mixF f g t t = (List.range t).map g := by
  unfold mixF
  exact List.map_congr_left fun k hk => by rw [if_pos (List.mem_range.1 hk)]
theorem mix_get (f g : Nat → Int) {j t : Nat} (h : j < t) : (mixF f g j t)[j]? = some (f j) := by
  unfold mixF
  rw [List.getElem?_map, List.getElem?_range h]
  simp
theorem mix_set (f g : Nat → Int) {j t : Nat} (_h : j < t) : (mixF f g j t).set j (g j) = mixF f g (j + 1) t := by
  refine List.ext_getElem (by simp [mix_len]) fun k h1 h2 => ?_
  rw [List.getElem_set]
  simp only [mixF, List.getElem_map, List.getElem_range]
  by_cases e : j = k
  · subst e; rw [if_pos rfl, if_pos (by omega)]
  · rw [if_neg e]
    by_cases q : k < j
    · rw [if_pos q, if_pos (by omega)]
    · rw [if_neg q, if_neg (by omega)]
theorem mix_same (f g : Nat → Int) {j t : Nat} (h : g j = f j) : mixF f g (j + 1) t = mixF f g j t := by
  unfold mixF
  refine List.map_congr_left fun k _ => ?_
  by_cases e : k = j
  · subst e; rw [if_pos (by omega), if_neg (by omega)]; exact h
  · by_cases q : k < j
    · rw [if_pos q, if_pos (by omega)]
    · rw [if_neg q, if_neg (by omega)]
theorem topF_same {f g : Nat → Int} (h : ∀ k, f k = 0 ↔ g k = 0) : ∀ n, topF f n = topF g n
  | 0 => rfl
  | n + 1 => by
    unfold topF
    rw [topF_same h n]
    by_cases q : f n = 0
    · rw [if_neg (by simpa using q), if_neg (by simpa using (h n).1 q)]
    · rw [if_pos q, if_pos (fun e => q ((h n).2 e))]
theorem fresh_top (m : List Int) : topF (freshF m) 512 = topF (gN m) 512 := topF_same (fun k => by
  unfold freshF
  have := gN_st m k
  unfold St at this
  split <;> omega) 512
theorem merge_top (o m : List Int) : topF (mergeF o m) 512 = topF (gN m) 512 := topF_same (fun k => by
  unfold mergeF
  have := gN_st m k
  unfold St at this
  split <;> omega) 512
theorem gN_pad (r : List Int) (d k : Nat) : gN (r ++ List.replicate d 0) k = gN r k := by
  have : (r ++ List.replicate d 0).getD k 0 = r.getD k 0 := by
    rw [List.getD_eq_getElem?_getD, List.getD_eq_getElem?_getD]
    by_cases h : k < r.length
    · rw [List.getElem?_append_left h]
    · rw [List.getElem?_append_right (by omega), List.getElem?_eq_none (l := r) (by omega), List.getElem?_replicate]
      split <;> rfl
  unfold gN
  rw [this]
theorem gN_setD {l : List Int} {i : Nat} {s : Int} (hl : i < l.length) (hi : i < 512) (h0 : 0 ≤ s) (h2 : s ≤ 2) (k : Nat) : gN (l.set i s) k = if k = i then s else gN l k := by
  have : (l.set i s).getD k 0 = if k = i then s else l.getD k 0 := by
    rw [List.getD_eq_getElem?_getD, List.getD_eq_getElem?_getD, List.getElem?_set]
    by_cases e : i = k
    · subst e; rw [if_pos rfl, if_pos hl, if_pos rfl]; rfl
    · rw [if_neg e, if_neg (Ne.symm e)]
  unfold gN
  rw [this]
  by_cases e : k = i
  · subst e; rw [if_pos rfl, if_pos rfl, if_pos ⟨hi, h0, h2⟩]
  · rw [if_neg e, if_neg e]
/-- the row with one state set, made short again -/
theorem set_row (m : List Int) (d i : Nat) (s : Int) (hi : i < 512) (hl : i < (rowO m ++ List.replicate d 0).length) (h0 : 0 ≤ s) (h2 : s ≤ 2) : rowO ((rowO m ++ List.replicate d 0).set i s) = setO m i s := by
  have hok : OkS i s := ⟨by omega, by omega, h0, h2⟩
  refine row_ext (rowO_is _) (setO_is _ _ _) fun k => ?_
  rw [gN_rowO, gN_setD hl hi h0 h2, gN_pad, gN_rowO, gN_setO hok]
  by_cases e : k = i
  · rw [if_pos e, if_pos (by omega)]
  · rw [if_neg e, if_neg (by omega)]

theorem map_at {l : List Int} {k : Nat} {x : Int} (h : l[k]? = some x) : (l.map (Value.int .i64))[k]? = some (.int .i64 x) := by rw [List.getElem?_map, h]; rfl
theorem map_set (l : List Int) (k : Nat) (x : Int) : (l.map (Value.int .i64)).set k (.int .i64 x) = (l.set k x).map (Value.int .i64) := by rw [List.map_set]

set_option maxRecDepth 10000 in
set_option maxHeartbeats 1000000 in
theorem RFresh_any (A : Option Addr) (n c : Nat) (m : List Int) (w : World) (hr : RdI w w.heap.size A n m) (hn : n ≤ 100000) :
    Calls Try.prog 60 #[.slice A n c] w (OutI w (freshO m)) := by
  have HR := Lib.hid (RRow_any A n c m w hr hn)
  clear hr
  have Htop := Lib.hid (fresh_top m)
  have Hfo := Lib.hid (show freshO m = mixF (gN m) (freshF m) (topF (gN m) 512) (topF (gN m) 512) by rw [mix_all]; unfold freshO rowF; rw [Htop.out])
  have Hro := Lib.hid (show rowO m = mixF (gN m) (freshF m) 0 (topF (gN m) 512) by rw [mix_zero]; rfl)
  have Ht5 := Lib.hid (topF_le (gN m) 512)
  rw [Hro.out] at HR
  rw [Hfo.out]
  clear Hro Hfo Htop
  generalize topF (gN m) 512 = t at HR Ht5 ⊢
  have ht5 : t ≤ 600 := by have := Ht5.out; omega
  clear Ht5
  go_enter Try.func60, Try.ntmps60
  go_wp2_with fail
  refine HR.out.mono ?_
  rintro e w1 ⟨v, rfl, hown, hb⟩
  rw [mix_len] at hown
  have Hown := Lib.hid hown
  have Hb := Lib.hid hb
  clear hown hb HR
  rcases ownForm Hown.out with ⟨rfl, rfl⟩ | ⟨g, cO, rfl, hg1, hg2, hnc, hcm⟩
  · go_wp2_with fail
    go_loopw [4] (fun i wq => wq = w1 ∧ i = .int .i64 0) (fun _ _ => 0)
    case atStart => exact ⟨rfl, rfl⟩
    case round =>
      obtain ⟨rfl, rfl⟩ := hrel
      go_wp2_with fail
      go_ret
      exact ⟨_, rfl, by rw [mix_len]; exact Hown.out, Hb.out⟩
  · go_wp2_with fail
    go_loopw [4] (fun i wq => ∃ j : Nat, j ≤ t ∧ i = .int .i64 j ∧ Hid (wq.ownsRow w.heap.size 3 1 (.slice (some ⟨g, 0, none⟩) t cO) t ((mixF (gN m) (freshF m) j t).map (Value.int .i64))) ∧ Hid (Below w.heap.size w wq)) (fun i _ => t - (intOf i).toNat)
    case atStart => exact ⟨0, Nat.zero_le _, rfl, Hown, Hb⟩
    case round =>
      obtain ⟨j, hj, rfl, Hown2, Hbr⟩ := hrel
      by_cases hjt : j < t
      · have hj0 : (0 : Int) ≤ (j : Int) := by omega
        have hj1 : (j : Int) < (t : Int) := by omega
        have hc : wr.cell? ⟨g, j, none⟩ = some (.int .i64 (gN m j)) := by rw [Hown2.out.cellAt j (by omega)]; exact map_at (mix_get _ _ hjt)
        have hf := World.ownsRow.frozenAt Hown2.out j
        have Hset := Lib.hid (mix_set (gN m) (freshF m) hjt)
        have Hsame : Hid (freshF m j = gN m j → mixF (gN m) (freshF m) (j + 1) t = mixF (gN m) (freshF m) j t) := mix_same _ _
        have Hfr := Lib.hid (show freshF m j = if gN m j = 1 then 2 else gN m j from rfl)
        generalize gN m j = x at hc Hsame Hfr
        by_cases hx : x = 1
        · subst hx
          have Hf2 := Lib.hid (show freshF m j = 2 from Hfr.out)
          rw [Hf2.out] at Hset
          go_wp2_with fail
          go_roundw
          case rel =>
            have h := (World.ownsRow.stored Hown2.out j (.int .i64 2)).1
            rw [map_set, Hset.out] at h
            exact ⟨j + 1, by omega, by go_num, h, Lib.hid (Hbr.out.setCell (by show _ ≤ g; exact hg1) _)⟩
          case measure => simp [intOf]; omega
        · have hbe : (x == 1) = false := by simpa using hx
          have Hm := Lib.hid (Hsame.out (by rw [Hfr.out, if_neg hx]))
          go_wp2_with fail
          go_roundw
          case rel => exact ⟨j + 1, by omega, by go_num, by rw [Hm.out]; exact Hown2, Hbr⟩
          case measure => simp [intOf]; omega
      · obtain rfl : j = t := by omega
        go_wp2_with fail
        go_ret
        exact ⟨_, rfl, by rw [mix_len]; exact Hown2.out, Hbr.out⟩

set_option maxRecDepth 10000 in
set_option maxHeartbeats 1000000 in
theorem RMerge_any (A1 A2 : Option Addr) (n1 n2 c1 c2 : Nat) (o m : List Int) (w : World) (hr1 : RdI w w.heap.size A1 n1 o) (hr : RdI w w.heap.size A2 n2 m) (hn1 : n1 ≤ 100000) (hn : n2 ≤ 100000) :
    Calls Try.prog 63 #[.slice A1 n1 c1, .slice A2 n2 c2] w (OutI w (mergeO o m)) := by
  have HR := Lib.hid (RRow_any A2 n2 c2 m w hr hn)
  have H1 := Lib.hid hr1
  clear hr hr1
  have Htop := Lib.hid (merge_top o m)
  have Hfo := Lib.hid (show mergeO o m = mixF (gN m) (mergeF o m) (topF (gN m) 512) (topF (gN m) 512) by rw [mix_all]; unfold mergeO rowF; rw [Htop.out])
  have Hro := Lib.hid (show rowO m = mixF (gN m) (mergeF o m) 0 (topF (gN m) 512) by rw [mix_zero]; rfl)
  have Ht5 := Lib.hid (topF_le (gN m) 512)
  rw [Hro.out] at HR
  rw [Hfo.out]
  clear Hro Hfo Htop
  generalize topF (gN m) 512 = t at HR Ht5 ⊢
  have ht5 : t ≤ 600 := by have := Ht5.out; omega
  clear Ht5
  go_enter Try.func63, Try.ntmps63
  go_wp2_with fail
  refine HR.out.mono ?_
  rintro e w1 ⟨v, rfl, hown, hb⟩
  rw [mix_len] at hown
  have Hown := Lib.hid hown
  have Hb := Lib.hid hb
  clear hown hb HR
  rcases ownForm Hown.out with ⟨rfl, rfl⟩ | ⟨g, cO, rfl, hg1, hg2, hnc, hcm⟩
  · go_wp2_with fail
    go_loopw [6] (fun i wq => wq = w1 ∧ i = .int .i64 0) (fun _ _ => 0)
    case atStart => exact ⟨rfl, rfl⟩
    case round =>
      obtain ⟨rfl, rfl⟩ := hrel
      go_wp2_with fail
      go_ret
      exact ⟨_, rfl, by rw [mix_len]; exact Hown.out, Hb.out⟩
  · go_wp2_with fail
    go_loopw [6] (fun i wq => ∃ j : Nat, j ≤ t ∧ i = .int .i64 j ∧ Hid (wq.ownsRow w.heap.size 3 1 (.slice (some ⟨g, 0, none⟩) t cO) t ((mixF (gN m) (mergeF o m) j t).map (Value.int .i64))) ∧ Hid (Below w.heap.size w wq)) (fun i _ => t - (intOf i).toNat)
    case atStart => exact ⟨0, Nat.zero_le _, rfl, Hown, Hb⟩
    case round =>
      obtain ⟨j, hj, rfl, Hown2, Hbr⟩ := hrel
      by_cases hjt : j < t
      · have hj0 : (0 : Int) ≤ (j : Int) := by omega
        have hj1 : (j : Int) < (t : Int) := by omega
        have hc : wr.cell? ⟨g, j, none⟩ = some (.int .i64 (gN m j)) := by rw [Hown2.out.cellAt j (by omega)]; exact map_at (mix_get _ _ hjt)
        have hf := World.ownsRow.frozenAt Hown2.out j
        have Hset := Lib.hid (mix_set (gN m) (mergeF o m) hjt)
        have Hsame : Hid (mergeF o m j = gN m j → mixF (gN m) (mergeF o m) (j + 1) t = mixF (gN m) (mergeF o m) j t) := mix_same _ _
        have Hfr := Lib.hid (show mergeF o m j = if gN m j = 2 ∧ gN o j = 1 then 1 else gN m j from rfl)
        have HG := Lib.hid (RGet_any A1 n1 c1 o j w.heap.size wr (H1.out.below Hbr.out) (by omega))
        rw [getO_nat] at HG
        generalize gN m j = x at hc Hsame Hfr
        generalize gN o j = y at HG Hfr
        by_cases hx : x = 2
        · subst hx
          by_cases hy : y = 1
          · subst hy
            have Hf2 := Lib.hid (show mergeF o m j = 1 by rw [Hfr.out, if_pos ⟨rfl, rfl⟩])
            rw [Hf2.out] at Hset
            go_wp2_with (go_at_call 33; refine HG.out.mono ?_; rintro e w' ⟨rfl, rfl⟩)
            go_roundw
            case rel =>
              have h := (World.ownsRow.stored Hown2.out j (.int .i64 1)).1
              rw [map_set, Hset.out] at h
              exact ⟨j + 1, by omega, by go_num, h, Lib.hid (Hbr.out.setCell (by show _ ≤ g; exact hg1) _)⟩
            case measure => simp [intOf]; omega
          · have hbe : (y == 1) = false := by simpa using hy
            have Hm := Lib.hid (Hsame.out (by rw [Hfr.out, if_neg (fun q => hy q.2)]))
            go_wp2_with (go_at_call 33; refine HG.out.mono ?_; rintro e w' ⟨rfl, rfl⟩)
            go_roundw
            case rel => exact ⟨j + 1, by omega, by go_num, by rw [Hm.out]; exact Hown2, Hbr⟩
            case measure => simp [intOf]; omega
        · have hbe : (x == 2) = false := by simpa using hx
          have Hm := Lib.hid (Hsame.out (by rw [Hfr.out, if_neg (fun q => hx q.1)]))
          go_wp2_with fail
          go_roundw
          case rel => exact ⟨j + 1, by omega, by go_num, by rw [Hm.out]; exact Hown2, Hbr⟩
          case measure => simp [intOf]; omega
      · obtain rfl : j = t := by omega
        go_wp2_with fail
        go_ret
        exact ⟨_, rfl, by rw [mix_len]; exact Hown2.out, Hbr.out⟩

end Go.Proofs.Ytaobdebeglenaaa
