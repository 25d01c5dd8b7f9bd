/- Contracts of package objmap: two maps gone through together; Merge, Changed. -/
import Derived.Test.YtaobdebeglenaaaObW
import Derived.Test.YtaobdebeglenaaaObC
import Derived.Shelf.Abstract
namespace Go.Proofs.Ytaobdebeglenaaa
open Go.RowKit

/-- the first j by g, the others by f -/
def mixA {α : Type} (f g : Nat → α) (j t : Nat) : List α := (List.range t).map fun k => if k < j then g k else f k
theorem mixA_all {α : Type} (f g : Nat → α) (t : Nat) : mixA f g t t = (List.range t).map g :=
  List.map_congr_left fun k hk => by rw [if_pos (List.mem_range.1 hk)]
theorem mixA_zero {α : Type} (f g : Nat → α) (t : Nat) : mixA f g 0 t = (List.range t).map f :=
  List.map_congr_left fun k _ => by rw [if_neg (by omega)]
theorem mixA_get {α : Type} (f g : Nat → α) {j t : Nat} (h : j < t) : (mixA f g j t)[j]? = some (f j) := by
  unfold mixA
  rw [List.getElem?_map, List.getElem?_range h]
  simp
theorem mixA_set {α : Type} (f g : Nat → α) (j t : Nat) : (mixA f g j t).set j (g j) = mixA f g (j + 1) t := by
  refine List.ext_getElem (by simp [mixA]) fun k h1 h2 => ?_
  rw [List.getElem_set]
  simp only [mixA, List.getElem_map, List.getElem_range]
  by_cases e : j = k
  · subst e; rw [if_pos rfl, if_pos (by omega)]
  · rw [if_neg e]
    by_cases q : k < j
    · rw [if_pos q, if_pos (by omega)]
    · rw [if_neg q, if_neg (by omega)]
theorem mapV_at {α : Type} {V : α → Value} {l : List α} {j : Nat} {x : α} (h : l[j]? = some x) : (l.map V)[j]? = some (V x) := by rw [List.getElem?_map, h]; rfl
theorem mapV_set {α : Type} (V : α → Value) (l : List α) (j : Nat) (x : α) : (l.map V).set j (V x) = (l.set j x).map V := by rw [List.map_set]
theorem Try.infoBo : (Try.prog.info? 4).map (fun i => (i.zero, i.size, i.bytes)) = some (some (.bool false), 1, 1) := by kernel_rfl
/-- how far two maps go -/
def farK (n1 n2 : Nat) : Nat := max (min n1 512) (min n2 512)
theorem farK_le (n1 n2 : Nat) : farK n1 n2 ≤ 512 := by unfold farK; omega

/-- a row that was just made -/
theorem own_madeI {f : Nat → Int} (w : World) (N : Nat) (hN : N ≤ 1000000) : (w.alloc (.cells (madeCells #[(Value.int .i64) (0 : Int)] N) 3)).ownsRow w.heap.size 3 1 (.slice (some ⟨w.heap.size, 0, none⟩) N N) N ((mixA (fun _ => (0 : Int)) f 0 N).map ((Value.int .i64))) := by
  refine ⟨by simp [mixA], .inr ⟨w.heap.size, N, _, rfl, Nat.le_refl _, heap_alloc_new w _, Nat.le_refl _, by simp only [maxLen]; omega, by rw [size_madeCells, Nat.mul_one], ?_⟩⟩
  rw [toList_madeCells_one, Nat.mul_one, mixA_zero, List.map_const', List.length_range, List.map_replicate, List.take_replicate, Nat.min_self]
theorem mkrI (k : Nat) (hk : k ≤ 1000000) (w : World) : (Instr.makeSlice 24 (.int .i64 (k : Int)) (.int .i64 (k : Int))).run Try.prog w = .ok (.slice (some ⟨w.heap.size, 0, none⟩) k k) (w.alloc (.cells (madeCells #[(Value.int .i64) (0 : Int)] k) 3)) := by
  obtain ⟨i, hi, hz0, hz1, hz2⟩ := info_parts Try.infoI
  exact run_mk (P := Try.prog) Try.underlying24 hi hz0 hz1 (by omega) k k k rfl (Nat.le_refl _) (by omega) w

set_option maxRecDepth 10000 in
set_option maxHeartbeats 2000000 in
theorem together_I (g : Nat) (eg : ∀ args w, (callFunc g args).run Try.prog w = .ok (.enter g args) w) (cl : Int → Int → Int) (hcl : ∀ (x y : Int) (w : World), Calls Try.prog g #[.int .i64 x, .int .i64 y] w fun e w' => e = .returned ((Value.int .i64) (cl x y)) ∧ w = w')
    (A1 A2 : Option Addr) (n1 n2 c1 c2 : Nat) (a b : List Int) (w : World) (hr1 : RdI w w.heap.size A1 n1 a) (hr2 : RdI w w.heap.size A2 n2 b) (hn1 : n1 ≤ 100000) (hn2 : n2 ≤ 100000) :
    Calls Try.prog 95 #[.slice A1 n1 c1, .slice A2 n2 c2, .func (.func g) #[] #[]] w fun e w' => ∃ G, e = .returned (.slice (some ⟨G, 0, none⟩) (farK n1 n2) (farK n1 n2)) ∧ w'.ownsRow w.heap.size 3 1 (.slice (some ⟨G, 0, none⟩) (farK n1 n2) (farK n1 n2)) (farK n1 n2) (((List.range (farK n1 n2)).map fun k => cl (gN a k) (gN b k)).map ((Value.int .i64))) ∧ Below w.heap.size w w' := by
  have Hr1 := Lib.hid hr1
  have Hr2 := Lib.hid hr2
  have Hcl := Lib.hid hcl
  have HS1 := Lib.hid (size_any A1 n1 c1 w (by omega))
  have HS2 := Lib.hid (size_any A2 n2 c2 w (by omega))
  have HK5 := Lib.hid (farK_le n1 n2)
  obtain ⟨K, hK⟩ : ∃ K, K = farK n1 n2 := ⟨_, rfl⟩
  rw [← hK]
  rw [← hK] at HK5
  unfold farK at hK
  generalize min n1 512 = s1 at HS1 hK
  generalize min n2 512 = s2 at HS2 hK
  have Hmx := Lib.hid (show s2 ≤ s1 ∧ K = s1 ∨ ¬ s2 ≤ s1 ∧ K = s2 by omega)
  clear hr1 hr2 hcl hK
  go_enter Try.func95, Try.ntmps95
  go_upto_region 1 with fail
  go_cut [7] (fun s7 wx => ∃ G, s7 = .slice (some ⟨G, 0, none⟩) K K ∧ Hid (wx.ownsRow w.heap.size 3 1 (.slice (some ⟨G, 0, none⟩) K K) K ((mixA (fun _ => (0 : Int)) (fun k => cl (gN a k) (gN b k)) 0 K).map ((Value.int .i64)))) ∧ Hid (Below w.heap.size w wx))
  case first =>
    rcases Hmx.out with ⟨h1, h2⟩ | ⟨h1, h2⟩
    · subst h2
      have hmk := fun W : World => mkrI K (by have := HK5.out; omega) W
      have h1 : (s2 : Int) ≤ (K : Int) := by omega
      go_wp2_with fail
      refine HS1.out.mono ?_
      rintro e w2 ⟨rfl, rfl⟩
      go_wp2_with fail
      refine HS2.out.mono ?_
      rintro e w3 ⟨rfl, rfl⟩
      go_wp2_with fail
      go_meet
      exact ⟨_, rfl, own_madeI w K (by have := HK5.out; omega), (Below.refl w.heap.size w).alloc (Nat.le_refl _) _⟩
    · subst h2
      have hmk := fun W : World => mkrI K (by have := HK5.out; omega) W
      have h1 : ¬ (K : Int) ≤ (s1 : Int) := by omega
      go_wp2_with fail
      refine HS1.out.mono ?_
      rintro e w2 ⟨rfl, rfl⟩
      go_wp2_with fail
      refine HS2.out.mono ?_
      rintro e w3 ⟨rfl, rfl⟩
      go_wp2_with fail
      go_meet
      exact ⟨_, rfl, own_madeI w K (by have := HK5.out; omega), (Below.refl w.heap.size w).alloc (Nat.le_refl _) _⟩
  case rest =>
    obtain ⟨G, rfl, Hown, Hb⟩ := hcut
    have Hgb : Hid (w.heap.size ≤ G) := (Hown.out.lt G rfl).1
    have hk5 : K ≤ 512 := HK5.out
    go_wp2_with fail
    go_loopw [17, 8] (fun i _ wq => ∃ j : Nat, j ≤ K ∧ i = .int .i64 j ∧ Hid (wq.ownsRow w.heap.size 3 1 (.slice (some ⟨G, 0, none⟩) K K) K ((mixA (fun _ => (0 : Int)) (fun k => cl (gN a k) (gN b k)) j K).map ((Value.int .i64)))) ∧ Hid (Below w.heap.size w wq)) (fun i _ _ => K - (intOf i).toNat)
    case atStart => exact ⟨0, Nat.zero_le _, rfl, Hown, Hb⟩
    case round =>
      obtain ⟨j, hj, rfl, Hown2, Hbr⟩ := hrel
      by_cases hjt : j < K
      · have hj0 : (0 : Int) ≤ (j : Int) := by omega
        have hj1 : (j : Int) < (K : Int) := by omega
        have hc : wr.cell? ⟨G, j, none⟩ = some ((Value.int .i64) (0 : Int)) := by rw [Hown2.out.cellAt j (by omega)]; exact mapV_at (mixA_get _ _ hjt)
        have hf := World.ownsRow.frozenAt Hown2.out j
        have Hset : Hid ((mixA (fun _ => (0 : Int)) (fun k => cl (gN a k) (gN b k)) j K).set j (cl (gN a j) (gN b j)) = mixA (fun _ => (0 : Int)) (fun k => cl (gN a k) (gN b k)) (j + 1) K) := mixA_set _ (fun k => cl (gN a k) (gN b k)) j K
        have HG1 := Lib.hid (Get_any A1 n1 c1 a j w.heap.size wr (Hr1.out.below Hbr.out) (by omega))
        have HG2 := Lib.hid (Get_any A2 n2 c2 b j w.heap.size wr (Hr2.out.below Hbr.out) (by omega))
        rw [getO_nat] at HG1 HG2
        have HC := Lib.hid (Hcl.out (gN a j) (gN b j) wr)
        generalize gN a j = x at HG1 Hset HC
        generalize gN b j = y at HG2 Hset HC
        generalize cl x y = z at Hset HC
        go_wp2_with fail
        refine HG1.out.mono ?_
        rintro e w2 ⟨rfl, rfl⟩
        go_wp2_with fail
        refine HG2.out.mono ?_
        rintro e w3 ⟨rfl, rfl⟩
        go_wp2_with (go_at_fn g; refine HC.out.mono ?_; rintro e w4 ⟨rfl, rfl⟩)
        go_roundw
        case rel =>
          have h := (World.ownsRow.stored Hown2.out j ((Value.int .i64) z)).1
          rw [mapV_set ((Value.int .i64)), Hset.out] at h
          exact ⟨j + 1, by omega, by go_num, h, Lib.hid (Hbr.out.setCell (by show _ ≤ G; exact Hgb.out) _)⟩
        case measure => simp [intOf]; omega
      · obtain rfl : j = K := by omega
        have Hall := Lib.hid (mixA_all (fun _ => ((0 : Int) : Int)) (fun k => cl (gN a k) (gN b k)) j)
        go_wp2_with fail
        go_ret
        exact ⟨G, rfl, by rw [← Hall.out]; exact Hown2.out, Hbr.out⟩

/-- a row that was just made -/
theorem own_madeB {f : Nat → Bool} (w : World) (N : Nat) (hN : N ≤ 1000000) : (w.alloc (.cells (madeCells #[(Value.bool) false] N) 4)).ownsRow w.heap.size 4 1 (.slice (some ⟨w.heap.size, 0, none⟩) N N) N ((mixA (fun _ => false) f 0 N).map ((Value.bool))) := by
  refine ⟨by simp [mixA], .inr ⟨w.heap.size, N, _, rfl, Nat.le_refl _, heap_alloc_new w _, Nat.le_refl _, by simp only [maxLen]; omega, by rw [size_madeCells, Nat.mul_one], ?_⟩⟩
  rw [toList_madeCells_one, Nat.mul_one, mixA_zero, List.map_const', List.length_range, List.map_replicate, List.take_replicate, Nat.min_self]
theorem mkrB (k : Nat) (hk : k ≤ 1000000) (w : World) : (Instr.makeSlice 107 (.int .i64 (k : Int)) (.int .i64 (k : Int))).run Try.prog w = .ok (.slice (some ⟨w.heap.size, 0, none⟩) k k) (w.alloc (.cells (madeCells #[(Value.bool) false] k) 4)) := by
  obtain ⟨i, hi, hz0, hz1, hz2⟩ := info_parts Try.infoBo
  exact run_mk (P := Try.prog) Try.underlying107 hi hz0 hz1 (by omega) k k k rfl (Nat.le_refl _) (by omega) w

set_option maxRecDepth 10000 in
set_option maxHeartbeats 2000000 in
theorem together_B (g : Nat) (eg : ∀ args w, (callFunc g args).run Try.prog w = .ok (.enter g args) w) (cl : Int → Int → Bool) (hcl : ∀ (x y : Int) (w : World), Calls Try.prog g #[.int .i64 x, .int .i64 y] w fun e w' => e = .returned ((Value.bool) (cl x y)) ∧ w = w')
    (A1 A2 : Option Addr) (n1 n2 c1 c2 : Nat) (a b : List Int) (w : World) (hr1 : RdI w w.heap.size A1 n1 a) (hr2 : RdI w w.heap.size A2 n2 b) (hn1 : n1 ≤ 100000) (hn2 : n2 ≤ 100000) :
    Calls Try.prog 97 #[.slice A1 n1 c1, .slice A2 n2 c2, .func (.func g) #[] #[]] w fun e w' => ∃ G, e = .returned (.slice (some ⟨G, 0, none⟩) (farK n1 n2) (farK n1 n2)) ∧ w'.ownsRow w.heap.size 4 1 (.slice (some ⟨G, 0, none⟩) (farK n1 n2) (farK n1 n2)) (farK n1 n2) (((List.range (farK n1 n2)).map fun k => cl (gN a k) (gN b k)).map ((Value.bool))) ∧ Below w.heap.size w w' := by
  have Hr1 := Lib.hid hr1
  have Hr2 := Lib.hid hr2
  have Hcl := Lib.hid hcl
  have HS1 := Lib.hid (size_any A1 n1 c1 w (by omega))
  have HS2 := Lib.hid (size_any A2 n2 c2 w (by omega))
  have HK5 := Lib.hid (farK_le n1 n2)
  obtain ⟨K, hK⟩ : ∃ K, K = farK n1 n2 := ⟨_, rfl⟩
  rw [← hK]
  rw [← hK] at HK5
  unfold farK at hK
  generalize min n1 512 = s1 at HS1 hK
  generalize min n2 512 = s2 at HS2 hK
  have Hmx := Lib.hid (show s2 ≤ s1 ∧ K = s1 ∨ ¬ s2 ≤ s1 ∧ K = s2 by omega)
  clear hr1 hr2 hcl hK
  go_enter Try.func97, Try.ntmps97
  go_upto_region 1 with fail
  go_cut [7] (fun s7 wx => ∃ G, s7 = .slice (some ⟨G, 0, none⟩) K K ∧ Hid (wx.ownsRow w.heap.size 4 1 (.slice (some ⟨G, 0, none⟩) K K) K ((mixA (fun _ => false) (fun k => cl (gN a k) (gN b k)) 0 K).map ((Value.bool)))) ∧ Hid (Below w.heap.size w wx))
  case first =>
    rcases Hmx.out with ⟨h1, h2⟩ | ⟨h1, h2⟩
    · subst h2
      have hmk := fun W : World => mkrB K (by have := HK5.out; omega) W
      have h1 : (s2 : Int) ≤ (K : Int) := by omega
      go_wp2_with fail
      refine HS1.out.mono ?_
      rintro e w2 ⟨rfl, rfl⟩
      go_wp2_with fail
      refine HS2.out.mono ?_
      rintro e w3 ⟨rfl, rfl⟩
      go_wp2_with fail
      go_meet
      exact ⟨_, rfl, own_madeB w K (by have := HK5.out; omega), (Below.refl w.heap.size w).alloc (Nat.le_refl _) _⟩
    · subst h2
      have hmk := fun W : World => mkrB K (by have := HK5.out; omega) W
      have h1 : ¬ (K : Int) ≤ (s1 : Int) := by omega
      go_wp2_with fail
      refine HS1.out.mono ?_
      rintro e w2 ⟨rfl, rfl⟩
      go_wp2_with fail
      refine HS2.out.mono ?_
      rintro e w3 ⟨rfl, rfl⟩
      go_wp2_with fail
      go_meet
      exact ⟨_, rfl, own_madeB w K (by have := HK5.out; omega), (Below.refl w.heap.size w).alloc (Nat.le_refl _) _⟩
  case rest =>
    obtain ⟨G, rfl, Hown, Hb⟩ := hcut
    have Hgb : Hid (w.heap.size ≤ G) := (Hown.out.lt G rfl).1
    have hk5 : K ≤ 512 := HK5.out
    go_wp2_with fail
    go_loopw [17, 8] (fun i _ wq => ∃ j : Nat, j ≤ K ∧ i = .int .i64 j ∧ Hid (wq.ownsRow w.heap.size 4 1 (.slice (some ⟨G, 0, none⟩) K K) K ((mixA (fun _ => false) (fun k => cl (gN a k) (gN b k)) j K).map ((Value.bool)))) ∧ Hid (Below w.heap.size w wq)) (fun i _ _ => K - (intOf i).toNat)
    case atStart => exact ⟨0, Nat.zero_le _, rfl, Hown, Hb⟩
    case round =>
      obtain ⟨j, hj, rfl, Hown2, Hbr⟩ := hrel
      by_cases hjt : j < K
      · have hj0 : (0 : Int) ≤ (j : Int) := by omega
        have hj1 : (j : Int) < (K : Int) := by omega
        have hc : wr.cell? ⟨G, j, none⟩ = some ((Value.bool) false) := by rw [Hown2.out.cellAt j (by omega)]; exact mapV_at (mixA_get _ _ hjt)
        have hf := World.ownsRow.frozenAt Hown2.out j
        have Hset : Hid ((mixA (fun _ => false) (fun k => cl (gN a k) (gN b k)) j K).set j (cl (gN a j) (gN b j)) = mixA (fun _ => false) (fun k => cl (gN a k) (gN b k)) (j + 1) K) := mixA_set _ (fun k => cl (gN a k) (gN b k)) j K
        have HG1 := Lib.hid (Get_any A1 n1 c1 a j w.heap.size wr (Hr1.out.below Hbr.out) (by omega))
        have HG2 := Lib.hid (Get_any A2 n2 c2 b j w.heap.size wr (Hr2.out.below Hbr.out) (by omega))
        rw [getO_nat] at HG1 HG2
        have HC := Lib.hid (Hcl.out (gN a j) (gN b j) wr)
        generalize gN a j = x at HG1 Hset HC
        generalize gN b j = y at HG2 Hset HC
        generalize cl x y = z at Hset HC
        go_wp2_with fail
        refine HG1.out.mono ?_
        rintro e w2 ⟨rfl, rfl⟩
        go_wp2_with fail
        refine HG2.out.mono ?_
        rintro e w3 ⟨rfl, rfl⟩
        go_wp2_with (go_at_fn g; refine HC.out.mono ?_; rintro e w4 ⟨rfl, rfl⟩)
        go_roundw
        case rel =>
          have h := (World.ownsRow.stored Hown2.out j ((Value.bool) z)).1
          rw [mapV_set ((Value.bool)), Hset.out] at h
          exact ⟨j + 1, by omega, by go_num, h, Lib.hid (Hbr.out.setCell (by show _ ≤ G; exact Hgb.out) _)⟩
        case measure => simp [intOf]; omega
      · obtain rfl : j = K := by omega
        have Hall := Lib.hid (mixA_all (fun _ => (false : Bool)) (fun k => cl (gN a k) (gN b k)) j)
        go_wp2_with fail
        go_ret
        exact ⟨G, rfl, by rw [← Hall.out]; exact Hown2.out, Hbr.out⟩

def mrg (x y : Int) : Int := if y = 2 ∧ x = 1 then 1 else y
set_option maxRecDepth 10000 in
theorem wMerge (x y : Int) (w : World) : Calls Try.prog 96 #[.int .i64 x, .int .i64 y] w fun e w' => e = .returned (.int .i64 (mrg x y)) ∧ w = w' := by
  by_cases hx : x = 1
  · subst hx
    by_cases hy : y = 2
    · subst hy
      go_enter Try.func96, Try.ntmps96
      go_wp2_with fail
      go_ret
      exact ⟨rfl, rfl⟩
    · have Hm := Lib.hid (show mrg 1 y = y by unfold mrg; rw [if_neg (fun h => hy h.1)])
      have hb : (y == 2) = false := by simpa using hy
      rw [Hm.out]
      clear hy
      go_enter Try.func96, Try.ntmps96
      go_wp2_with fail
      go_ret
      exact ⟨rfl, rfl⟩
  · have Hm := Lib.hid (show mrg x y = y by unfold mrg; rw [if_neg (fun h => hx h.2)])
    have hb : (x == 1) = false := by simpa using hx
    rw [Hm.out]
    clear hx
    go_enter Try.func96, Try.ntmps96
    go_wp2_with fail
    go_ret
    exact ⟨rfl, rfl⟩

theorem merge_far (o m : List Int) {n1 n2 : Nat} (h2 : m.length = n2) : topF (mergeF o m) (farK n1 n2) = topF (mergeF o m) 512 :=
  (topF_more (farK_le _ _) fun k hk => by
    have hz : gN m k = 0 := by
      unfold farK at hk
      by_cases q : 512 ≤ k
      · exact gN_high m q
      · exact gN_out m (by omega)
    unfold mergeF
    rw [hz]; rfl).symm

set_option maxRecDepth 10000 in
set_option maxHeartbeats 1000000 in
theorem PMerge (A1 A2 : Option Addr) (n1 n2 c1 c2 : Nat) (o m : List Int) (w : World) (hr : RdI w w.heap.size A1 n1 o) (hr2 : RdI w w.heap.size A2 n2 m) (hn1 : n1 ≤ 3000) (hn2 : n2 ≤ 3000) : GivesI 61 #[.slice A1 n1 c1, .slice A2 n2 c2] w (mergeO o m) := by
  have eg : ∀ args w, (callFunc 96 args).run Try.prog w = .ok (.enter 96 args) w := enters_of Try.func96 (by kernel_rfl) rfl
  have HT := Lib.hid (together_I 96 eg mrg wMerge A1 A2 n1 n2 c1 c2 o m w hr hr2 (by omega) (by omega))
  have Htop := Lib.hid (merge_far (n1 := n1) o m hr2.1)
  have HK := Lib.hid (farK_le n1 n2)
  have HT : Hid (Calls Try.prog 95 #[.slice A1 n1 c1, .slice A2 n2 c2, .func (.func 96) #[] #[]] w fun e w' => ∃ G, e = .returned (.slice (some ⟨G, 0, none⟩) (farK n1 n2) (farK n1 n2)) ∧ w'.ownsRow w.heap.size 3 1 (.slice (some ⟨G, 0, none⟩) (farK n1 n2) (farK n1 n2)) (farK n1 n2) (((List.range (farK n1 n2)).map (mergeF o m)).map (Value.int .i64)) ∧ Below w.heap.size w w') := HT.out
  have Hm : Hid (mergeO o m = rowF (mergeF o m)) := rfl
  rw [Hm.out]
  clear hr hr2 Hm eg
  generalize mergeF o m = f at HT Htop ⊢
  generalize farK n1 n2 = K at HT Htop HK
  go_enter Try.func61, Try.ntmps61
  go_wp2_with fail
  refine HT.out.mono ?_
  rintro e w1 ⟨G, rfl, hown, hb⟩
  have Hown := Lib.hid hown
  have Hb := Lib.hid hb
  have HR := Lib.hid (trim_any G K f w.heap.size w1 hown (by have := HK.out; omega))
  clear hown hb HT
  go_wp2_with (go_at_call 94; refine HR.out.mono ?_; rintro e w' ⟨rfl, rfl⟩)
  go_ret
  have h4 := topF_le f K
  have h5 := cut_rd Hown.out
  refine ⟨_, _, _, rfl, ?_, ⟨by have := HK.out; omega, NewA.cut Hown.out _⟩, Hb.out⟩
  rw [Htop.out] at h5 ⊢
  exact h5
end Go.Proofs.Ytaobdebeglenaaa
