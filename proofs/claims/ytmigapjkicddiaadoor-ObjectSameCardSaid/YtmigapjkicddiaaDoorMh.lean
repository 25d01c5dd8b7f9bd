/- Objects: the data behind an op, plain; contract of the document's data where it cuts. Objects: contract of the document's data where it lays noughts. Objects: contract of the document's data where it writes. Objects: contract of the document's key where it sets a key. Objects: contract of the document's key where it clones. -/
import Derived.Test.YtmigapjkicddiaaDoorMg

namespace Go.Proofs.YtmigapjkicddiaaDoor
open Go.RowKit

/-- the first L bytes, noughts where nothing is -/
def padO (d : List UInt8) (L : Nat) : List UInt8 := (List.range L).map fun i => byteO d i
theorem byteO_lt {d : List UInt8} {i : Nat} (h : i < d.length) : byteO d i = d[i] := by
  unfold byteO
  rw [List.getD_eq_getElem?_getD, List.getElem?_eq_getElem h]
  rfl
theorem byteO_ge {d : List UInt8} {i : Nat} (h : d.length ≤ i) : byteO d i = 0 := by
  unfold byteO
  rw [List.getD_eq_getElem?_getD, List.getElem?_eq_none h]
  rfl
theorem padO_self (d : List UInt8) : padO d d.length = d := by
  apply List.ext_getElem
  · simp [padO]
  intro i h1 h2
  simp only [padO, List.getElem_map, List.getElem_range]
  exact byteO_lt h2
theorem padO_succ {d : List UInt8} {L : Nat} (h : d.length ≤ L) : padO d (L + 1) = padO d L ++ [0] := by
  unfold padO
  rw [List.range_succ, List.map_append]
  simp [byteO_ge h]
/-- d with the first j bytes of D at place F, L bytes in all -/
def wrJ (d : List UInt8) (F : Nat) (D : List UInt8) (j L : Nat) : List UInt8 := (List.range L).map fun i => if F ≤ i ∧ i < F + j then byteO D (i - F) else byteO d i
theorem wrJ_len (d : List UInt8) (F : Nat) (D : List UInt8) (j L : Nat) : (wrJ d F D j L).length = L := by simp [wrJ]
theorem wrJ_zero (d : List UInt8) (F : Nat) (D : List UInt8) (L : Nat) : wrJ d F D 0 L = padO d L := by
  unfold wrJ padO
  apply List.map_congr_left
  intro i _
  rw [if_neg (by omega)]
theorem wrJ_set (d : List UInt8) (F : Nat) (D : List UInt8) (j L : Nat) : (wrJ d F D j L).set (F + j) (byteO D j) = wrJ d F D (j + 1) L := by
  apply List.ext_getElem
  · simp [wrJ]
  intro i h1 h2
  rw [List.getElem_set]
  simp only [wrJ, List.getElem_map, List.getElem_range]
  by_cases e : F + j = i
  · subst e; rw [if_pos rfl, if_pos (by omega), Nat.add_sub_cancel_left]
  · rw [if_neg e]
    by_cases hi : F ≤ i ∧ i < F + j
    · rw [if_pos hi, if_pos (by omega)]
    · rw [if_neg hi, if_neg (by omega)]
theorem wrJ_any (d : List UInt8) (F : Nat) (D : List UInt8) (j L i : Nat) (h : i < L) : ∃ x, (wrJ d F D j L)[i]? = some x := ⟨_, List.getElem?_eq_getElem (by rw [wrJ_len]; exact h)⟩
def wrO (d : List UInt8) (F : Nat) (D : List UInt8) : List UInt8 := wrJ d F D D.length (max d.length (F + D.length))
/-- d with j noughts at place F -/
def zerJ (d : List UInt8) (F j : Nat) : List UInt8 := (List.range d.length).map fun i => if F ≤ i ∧ i < F + j then 0 else byteO d i
theorem zerJ_len (d : List UInt8) (F j : Nat) : (zerJ d F j).length = d.length := by simp [zerJ]
theorem zerJ_zero (d : List UInt8) (F : Nat) : zerJ d F 0 = d := by
  conv => rhs; rw [← padO_self d]
  unfold zerJ padO
  apply List.map_congr_left
  intro i _
  rw [if_neg (by omega)]
theorem zerJ_set (d : List UInt8) (F j : Nat) : (zerJ d F j).set (F + j) 0 = zerJ d F (j + 1) := by
  apply List.ext_getElem
  · simp [zerJ]
  intro i h1 h2
  rw [List.getElem_set]
  simp only [zerJ, List.getElem_map, List.getElem_range]
  by_cases e : F + j = i
  · subst e; rw [if_pos rfl, if_pos (by omega)]
  · rw [if_neg e]
    by_cases hi : F ≤ i ∧ i < F + j
    · rw [if_pos hi, if_pos (by omega)]
    · rw [if_neg hi, if_neg (by omega)]
theorem zerJ_stop (d : List UInt8) (F j n : Nat) (h : d.length ≤ F + j) (hj : j ≤ n) : zerJ d F j = zerJ d F n := by
  unfold zerJ
  apply List.map_congr_left
  intro i hi
  have := List.mem_range.1 hi
  by_cases hc : F ≤ i ∧ i < F + j
  · rw [if_pos hc, if_pos (by omega)]
  · rw [if_neg hc, if_neg (by omega)]
theorem zerJ_any (d : List UInt8) (F j i : Nat) (h : i < d.length) : ∃ x, (zerJ d F j)[i]? = some x := ⟨_, List.getElem?_eq_getElem (by rw [zerJ_len]; exact h)⟩
def dataO (d : List UInt8) (p : Opr) : Option (List UInt8) :=
  if p.k = 5 then (if p.f < 0 ∨ p.f > 64 ∨ (p.data.length : Int) > 64 ∨ p.f + p.data.length > 64 then none else some (wrO d p.f.toNat p.data))
  else if p.k = 6 then (if p.f < 0 ∨ p.f > 64 ∨ p.n < 0 ∨ p.n > 64 ∨ p.f + p.n > 64 then none else some (zerJ d p.f.toNat p.n.toNat))
  else if p.n < 0 ∨ p.n > 64 then none else some (d.take p.n.toNat)
theorem own_g8 {w : World} {B n c : Nat} {e : TypeId} {A : Option Addr} {xs : List Value} (h : w.ownsRow B e 1 (.slice A n c) n xs) (hn : 0 < n) : ∃ g, A = some ⟨g, 0, none⟩ ∧ B ≤ g ∧ g < w.heap.size := by
  rcases h.2 with ⟨_, h0⟩ | ⟨g, cap, cur, hv, hb, hg, _⟩
  · omega
  · injection hv with h1 _ _
    exact ⟨g, h1, hb, lt_of_block hg⟩
/-- what data tells -/
def TellD (w : World) (o : Option (List UInt8)) (e : Ending) (w' : World) : Prop :=
  ∃ v, e = .returned (.tuple #[v, .bool o.isSome]) ∧ RdV w' w'.heap.size v (o.getD []) ∧ Below w.heap.size w w'

set_option maxRecDepth 10000 in
set_option maxHeartbeats 4000000 in
theorem RData8_7 (Ad : Option Addr) (nd cd : Nat) (d : List UInt8) (f n : Int) (X : List UInt8) (Ap : Option Addr) (np cp : Nat) (D : List UInt8) (w : World) (hd : Rd w w.heap.size Ad nd d) (hdn : nd ≤ 100000) :
    Calls Tryd.prog 42 #[.slice Ad nd cd, pV 7 f n X Ap np cp] w (TellD w (dataO d ⟨7, f, n, X, D⟩)) := by
  have Hb := Lib.hid ((Below.refl w.heap.size w).alloc (Nat.le_refl _) (.cells #[.int .i64 7, .int .i64 f, .int .i64 n, .string ⟨X.toArray⟩, .slice Ap np cp] 38))
  have Hp := Lib.hid (PAt.of (heap_alloc_new w (.cells #[.int .i64 7, .int .i64 f, .int .i64 n, .string ⟨X.toArray⟩, .slice Ap np cp] 38)))
  have Hd := Lib.hid ((hd.below Hb.out).more Hb.out.size)
  obtain ⟨inf, hi, hz0, hz1, hz2⟩ := info_parts Tryd.infoB
  clear hd
  go_enter Tryd.func42, Tryd.ntmps42
  go_upto_region 1 with fail
  generalize w.alloc (.cells #[.int .i64 7, .int .i64 f, .int .i64 n, .string ⟨X.toArray⟩, .slice Ap np cp] 38) = w1 at Hb Hp Hd ⊢
  obtain ⟨b, hbe⟩ : ∃ b, b = w.heap.size := ⟨_, rfl⟩
  rw [← hbe] at Hp ⊢
  clear hbe
  go_upto_region 3 with (at_builtin; refine wpList_append_rd rfl (.tmp 11) (.tmp 12) 22 rfl w1.heap.size 5 inf (.int .u8 0) 1 Tryd.underlying22 hi hz0 hz1 hz2 rfl _ 0 [] rfl (World.ownsRow_nil _ _ _ _) Ad nd cd (d.map bv) rfl (by rw [List.length_map, Hd.out.1]) Hd.out.src (bv_one _) (by simp only [maxLen]; omega) (by omega) (Nat.le_refl _) ?_; intro v2 w2 hown2 hg2; rw [Nat.zero_add, List.nil_append] at hown2; obtain ⟨A2, c2, rfl, hc2, hc3⟩ := ownF hown2; have Hb2 := Lib.hid ((Below.refl w1.heap.size w1).grown hg2 (Nat.le_refl _) (fun k hk => by have h : (none : Option Nat) = some k := hk; cases h)); have Hown := Lib.hid hown2; clear hown2 hg2)
  have Hp2 := Lib.hid (Hp.out.to Hb2.out)
  have p0 := Hp2.out.c0
  have p1 := Hp2.out.c1
  have p2 := Hp2.out.c2
  have Hbf := Lib.hid (Hb.out.trans (Hb2.out.mono Hb.out.size))
  have Hl := Lib.hid Hd.out.1
  clear Hp Hb2 Hb Hd
  by_cases hin : 0 ≤ n ∧ n ≤ 64
  · obtain ⟨h1, h2⟩ := hin
    obtain ⟨N, rfl⟩ := Int.eq_ofNat_of_zero_le h1
    have He := Lib.hid (show dataO d ⟨7, f, (N : Int), X, D⟩ = some (d.take N) by unfold dataO; simp; omega)
    by_cases hlt : N < nd
    · have hlt1 : (N : Int) < (nd : Int) := by omega
      have hNc : N ≤ c2 := by omega
      go_wp2_with fail
      exact bodyPost_ret (v := .tuple #[.slice A2 N c2, .bool true]) (by simp [results, Tryd.results42, go_sem]) rfl ⟨_, by rw [He.out]; rfl, ⟨A2, N, c2, rfl, by rw [He.out]; exact (Rd.own Hown.out).take (by omega), by omega⟩, Hbf.out⟩
    · have hlt1 : ¬ (N : Int) < (nd : Int) := by omega
      go_wp2_with fail
      exact bodyPost_ret (v := .tuple #[.slice A2 nd c2, .bool true]) (by simp [results, Tryd.results42, go_sem]) rfl ⟨_, by rw [He.out]; rfl, ⟨A2, nd, c2, rfl, by rw [He.out]; show Rd _ _ _ _ (d.take N); rw [List.take_of_length_le (by rw [Hl.out]; omega)]; exact Rd.own Hown.out, by omega⟩, Hbf.out⟩
  · have He := Lib.hid (show dataO d ⟨7, f, n, X, D⟩ = none by unfold dataO; simp; omega)
    go_wp2_with fail
    all_goals
      exact bodyPost_ret (v := .tuple #[.slice none 0 0, .bool false]) (by simp [results, Tryd.results42, go_sem]) rfl ⟨_, by rw [He.out]; rfl, ⟨none, 0, 0, rfl, by rw [He.out]; exact Rd.nil, by omega⟩, Hbf.out⟩
end Go.Proofs.YtmigapjkicddiaaDoor

namespace Go.Proofs.YtmigapjkicddiaaDoor
open Go.RowKit

set_option maxRecDepth 10000 in
set_option maxHeartbeats 8000000 in
theorem RData8_6 (Ad : Option Addr) (nd cd : Nat) (d : List UInt8) (f n : Int) (X : List UInt8) (Ap : Option Addr) (np cp : Nat) (D : List UInt8) (w : World) (hd : Rd w w.heap.size Ad nd d) (hdn : nd ≤ 100000) :
    Calls Tryd.prog 42 #[.slice Ad nd cd, pV 6 f n X Ap np cp] w (TellD w (dataO d ⟨6, f, n, X, D⟩)) := by
  have Hb := Lib.hid ((Below.refl w.heap.size w).alloc (Nat.le_refl _) (.cells #[.int .i64 6, .int .i64 f, .int .i64 n, .string ⟨X.toArray⟩, .slice Ap np cp] 38))
  have Hp := Lib.hid (PAt.of (heap_alloc_new w (.cells #[.int .i64 6, .int .i64 f, .int .i64 n, .string ⟨X.toArray⟩, .slice Ap np cp] 38)))
  have Hd := Lib.hid ((hd.below Hb.out).more Hb.out.size)
  obtain ⟨inf, hi, hz0, hz1, hz2⟩ := info_parts Tryd.infoB
  clear hd
  go_enter Tryd.func42, Tryd.ntmps42
  go_upto_region 1 with fail
  generalize w.alloc (.cells #[.int .i64 6, .int .i64 f, .int .i64 n, .string ⟨X.toArray⟩, .slice Ap np cp] 38) = w1 at Hb Hp Hd ⊢
  obtain ⟨b, hbe⟩ : ∃ b, b = w.heap.size := ⟨_, rfl⟩
  rw [← hbe] at Hp ⊢
  clear hbe
  go_upto_region 3 with (at_builtin; refine wpList_append_rd rfl (.tmp 11) (.tmp 12) 22 rfl w1.heap.size 5 inf (.int .u8 0) 1 Tryd.underlying22 hi hz0 hz1 hz2 rfl _ 0 [] rfl (World.ownsRow_nil _ _ _ _) Ad nd cd (d.map bv) rfl (by rw [List.length_map, Hd.out.1]) Hd.out.src (bv_one _) (by simp only [maxLen]; omega) (by omega) (Nat.le_refl _) ?_; intro v2 w2 hown2 hg2; rw [Nat.zero_add, List.nil_append] at hown2; obtain ⟨A2, c2, rfl, hc2, hc3⟩ := ownF hown2; have Hb2 := Lib.hid ((Below.refl w1.heap.size w1).grown hg2 (Nat.le_refl _) (fun k hk => by have h : (none : Option Nat) = some k := hk; cases h)); have Hown := Lib.hid hown2; clear hown2 hg2)
  have Hp2 := Lib.hid (Hp.out.to Hb2.out)
  have p0 := Hp2.out.c0
  have p1 := Hp2.out.c1
  have p2 := Hp2.out.c2
  have p4 := Hp2.out.c4
  have Hl := Lib.hid Hd.out.1
  have Hbf := Lib.hid (Hb.out.trans (Hb2.out.mono Hb.out.size))
  clear Hp Hd
  by_cases hin : 0 ≤ f ∧ f ≤ 64 ∧ 0 ≤ n ∧ n ≤ 64 ∧ f + n ≤ 64
  · obtain ⟨h1, h2, h3, h4, h5⟩ := hin
    obtain ⟨F, rfl⟩ := Int.eq_ofNat_of_zero_le h1
    obtain ⟨N, rfl⟩ := Int.eq_ofNat_of_zero_le h3
    have He := Lib.hid (show dataO d ⟨6, (F : Int), (N : Int), X, D⟩ = some (zerJ d F N) by
      unfold dataO
      rw [if_neg (by simp), if_pos rfl, if_neg (by show ¬ ((F : Int) < 0 ∨ (F : Int) > 64 ∨ (N : Int) < 0 ∨ (N : Int) > 64 ∨ (F : Int) + (N : Int) > 64); omega)]
      rfl)
    rw [← zerJ_zero d F] at Hown
    have Hown : Hid (w2.ownsRow w1.heap.size 5 1 (.slice A2 nd c2) nd ((zerJ d F 0).map bv)) := Hown
    go_wp2_with fail
    go_loopw [10] (fun i wr => ∃ j : Nat, j ≤ N ∧ i = .int .i64 ((F : Int) + (j : Int)) ∧ Hid (wr.ownsRow w1.heap.size 5 1 (.slice A2 nd c2) nd ((zerJ d F j).map bv)) ∧ Hid (Below w1.heap.size w1 wr)) (fun i _ => F + N - (intOf i).toNat)
    case atStart => exact ⟨0, Nat.zero_le _, by simp, Hown, Hb2⟩
    case round =>
      obtain ⟨j, hj, rfl, Hown2, Hbr⟩ := hrel
      have hbw := Lib.hid (Hb.out.trans (Hbr.out.mono Hb.out.size))
      obtain ⟨i, hij⟩ : ∃ i, i = F + j := ⟨_, rfl⟩
      have hij2 : (F : Int) + (j : Int) = (i : Int) := by omega
      rw [hij2]
      have Hij := Lib.hid hij
      have Hij2 := Lib.hid hij2
      clear hij hij2
      by_cases hjn : j < N
      · have hlt0 : (i : Int) < (F : Int) + (N : Int) := by have := Hij.out; omega
        have hdec : decide ((i : Int) < (F : Int) + (N : Int)) = true := decide_eq_true hlt0
        by_cases hid : i < nd
        · have hid1 : (i : Int) < (nd : Int) := by omega
          have hi0 : (0 : Int) ≤ (i : Int) := by omega
          obtain ⟨g, rfl, hg1, hg2⟩ := own_g8 Hown2.out (by omega)
          obtain ⟨x, hx⟩ := zerJ_any d F j i (by rw [Hl.out]; exact hid)
          have hc : wr.cell? ⟨g, i, none⟩ = some (bv x) := by rw [Hown2.out.cellAt i (by omega), List.getElem?_map, hx]; rfl
          have hc2 : wr.cell? ⟨g, i, none⟩ = some (.int .u8 (x.toNat : Int)) := hc
          have hf := World.ownsRow.frozenAt Hown2.out i
          have Hset := Lib.hid (zerJ_set d F j)
          rw [← Hij.out] at Hset
          have hji : j = i - F := by have := Hij.out; omega
          have hF : F ≤ i := by have := Hij.out; omega
          clear hc hx
          go_wp2_with fail
          go_roundw
          case rel =>
            have h := (World.ownsRow.stored Hown2.out i (bv 0)).1
            rw [← List.map_set, Hset.out] at h
            exact ⟨j + 1, by omega, by rw [← Hij2.out]; go_num, h, Lib.hid (Hbr.out.setCell (by show _ ≤ g; exact hg1) _)⟩
          case measure => simp [intOf]; omega
        · have hid1 : ¬ (i : Int) < (nd : Int) := by omega
          have Hst := Lib.hid (zerJ_stop d F j N (by rw [Hl.out]; have := Hij.out; omega) (by omega))
          go_wp2_with fail
          exact bodyPost_ret (v := .tuple #[.slice A2 nd c2, .bool true]) (by simp [results, Tryd.results42, go_sem]) rfl ⟨_, by rw [He.out]; rfl, ⟨A2, nd, c2, rfl, by rw [He.out]; show Rd _ _ _ _ (zerJ d F N); rw [← Hst.out]; exact Rd.own Hown2.out, by omega⟩, hbw.out⟩
      · obtain rfl : j = N := by omega
        have hlt0 : ¬ (i : Int) < (F : Int) + (j : Int) := by have := Hij.out; omega
        have hdec : decide ((i : Int) < (F : Int) + (j : Int)) = false := decide_eq_false hlt0
        go_wp2_with fail
        exact bodyPost_ret (v := .tuple #[.slice A2 nd c2, .bool true]) (by simp [results, Tryd.results42, go_sem]) rfl ⟨_, by rw [He.out]; rfl, ⟨A2, nd, c2, rfl, by rw [He.out]; exact Rd.own Hown2.out, by omega⟩, hbw.out⟩
  · have He := Lib.hid (show dataO d ⟨6, f, n, X, D⟩ = none by
      unfold dataO
      rw [if_neg (by simp), if_pos rfl, if_pos (by show f < 0 ∨ f > 64 ∨ n < 0 ∨ n > 64 ∨ f + n > 64; omega)])
    go_wp2_with fail
    all_goals
      exact bodyPost_ret (v := .tuple #[.slice none 0 0, .bool false]) (by simp [results, Tryd.results42, go_sem]) rfl ⟨_, by rw [He.out]; rfl, ⟨none, 0, 0, rfl, by rw [He.out]; exact Rd.nil, by omega⟩, Hbf.out⟩
end Go.Proofs.YtmigapjkicddiaaDoor

namespace Go.Proofs.YtmigapjkicddiaaDoor
open Go.RowKit

set_option maxRecDepth 10000 in
set_option maxHeartbeats 8000000 in
theorem RData8_5 (Ad : Option Addr) (nd cd : Nat) (d : List UInt8) (f n : Int) (X : List UInt8) (Ap : Option Addr) (np cp : Nat) (D : List UInt8) (w : World) (hd : Rd w w.heap.size Ad nd d) (hdn : nd ≤ 100000) (hD : Rd w w.heap.size Ap np D) :
    Calls Tryd.prog 42 #[.slice Ad nd cd, pV 5 f n X Ap np cp] w (TellD w (dataO d ⟨5, f, n, X, D⟩)) := by
  have Hb := Lib.hid ((Below.refl w.heap.size w).alloc (Nat.le_refl _) (.cells #[.int .i64 5, .int .i64 f, .int .i64 n, .string ⟨X.toArray⟩, .slice Ap np cp] 38))
  have Hp := Lib.hid (PAt.of (heap_alloc_new w (.cells #[.int .i64 5, .int .i64 f, .int .i64 n, .string ⟨X.toArray⟩, .slice Ap np cp] 38)))
  have Hd := Lib.hid ((hd.below Hb.out).more Hb.out.size)
  have HD := Lib.hid ((hD.below Hb.out).more Hb.out.size)
  obtain ⟨inf, hi, hz0, hz1, hz2⟩ := info_parts Tryd.infoB
  clear hd hD
  go_enter Tryd.func42, Tryd.ntmps42
  go_upto_region 1 with fail
  generalize w.alloc (.cells #[.int .i64 5, .int .i64 f, .int .i64 n, .string ⟨X.toArray⟩, .slice Ap np cp] 38) = w1 at Hb Hp Hd HD ⊢
  obtain ⟨b, hbe⟩ : ∃ b, b = w.heap.size := ⟨_, rfl⟩
  rw [← hbe] at Hp ⊢
  clear hbe
  go_upto_region 3 with (at_builtin; refine wpList_append_rd rfl (.tmp 11) (.tmp 12) 22 rfl w1.heap.size 5 inf (.int .u8 0) 1 Tryd.underlying22 hi hz0 hz1 hz2 rfl _ 0 [] rfl (World.ownsRow_nil _ _ _ _) Ad nd cd (d.map bv) rfl (by rw [List.length_map, Hd.out.1]) Hd.out.src (bv_one _) (by simp only [maxLen]; omega) (by omega) (Nat.le_refl _) ?_; intro v2 w2 hown2 hg2; rw [Nat.zero_add, List.nil_append] at hown2; obtain ⟨A2, c2, rfl, hc2, hc3⟩ := ownF hown2; have Hb2 := Lib.hid ((Below.refl w1.heap.size w1).grown hg2 (Nat.le_refl _) (fun k hk => by have h : (none : Option Nat) = some k := hk; cases h)); have Hown := Lib.hid hown2; clear hown2 hg2)
  have Hp2 := Lib.hid (Hp.out.to Hb2.out)
  have p0 := Hp2.out.c0
  have p1 := Hp2.out.c1
  have p2 := Hp2.out.c2
  have p4 := Hp2.out.c4
  have Hl := Lib.hid Hd.out.1
  have Hbf := Lib.hid (Hb.out.trans (Hb2.out.mono Hb.out.size))
  have HDl := Lib.hid HD.out.1
  clear Hd
  by_cases hin : 0 ≤ f ∧ f ≤ 64 ∧ (np : Int) ≤ 64 ∧ f + (np : Int) ≤ 64
  · obtain ⟨h1, h2, h4, h5⟩ := hin
    obtain ⟨F, rfl⟩ := Int.eq_ofNat_of_zero_le h1
    obtain ⟨L, hL⟩ : ∃ L, L = max nd (F + np) := ⟨_, rfl⟩
    have HL := Lib.hid hL
    have He := Lib.hid (show dataO d ⟨5, (F : Int), n, X, D⟩ = some (wrJ d F D np L) by
      unfold dataO
      rw [if_pos rfl, if_neg (by show ¬ ((F : Int) < 0 ∨ (F : Int) > 64 ∨ ((D.length : Nat) : Int) > 64 ∨ (F : Int) + ((D.length : Nat) : Int) > 64); rw [HDl.out]; omega)]
      unfold wrO
      rw [hL, HDl.out, Hl.out]
      rfl)
    clear hL
    have Hself := Lib.hid (padO_self d)
    rw [Hl.out] at Hself
    rw [← Hself.out] at Hown
    clear Hself
    go_wp2_with fail
    go_loopw [6] (fun v wr => ∃ (m : Nat) (A : Option Addr) (c : Nat), nd ≤ m ∧ m ≤ L ∧ v = .slice A m c ∧ Hid (wr.ownsRow w1.heap.size 5 1 v m ((padO d m).map bv)) ∧ Hid (Below w1.heap.size w1 wr)) (fun v _ => L - (match v with | .slice _ m _ => m | _ => 0))
    case atStart => exact ⟨nd, A2, c2, Nat.le_refl _, by have := HL.out; omega, rfl, Hown, Hb2⟩
    case round =>
      obtain ⟨m, A, c, hm1, hm2, rfl, Hown2, Hbr⟩ := hrel
      have hws := Hbr.out.size
      have hmL := HL.out
      by_cases hlt : m < F + np
      · have hlt1 : (m : Int) < (F : Int) + (np : Int) := by omega
        have Hps := Lib.hid (padO_succ (d := d) (L := m) (by rw [Hl.out]; exact hm1))
        go_wp2_with (at_builtin; refine wpList_append_own _ rfl (.tmp 57) (.tmp 58) 22 rfl w1.heap.size 5 inf (.int .u8 0) 1 1 Tryd.underlying22 hi hz0 hz1 hz2 rfl (by decide) _ m _ rfl (Hown2.out.alloc _) ⟨wr.heap.size, 0, none⟩ 1 1 [.int .u8 0] rfl rfl (one_new _ _ _) (by intro u hu; simp at hu; subst hu; rfl) (by simp only [maxLen]; omega) (by omega) (by simp; omega) ?_; intro v3 w3 hown3 hg3 _; obtain ⟨A3, c3, rfl, _, _⟩ := ownF hown3; have Hb3 := Lib.hid ((Hbr.out.alloc (by omega) _).grown hg3 (by simp; omega) (fun q hq => (Hown2.out.lt q hq).1)); have Hown3 := Lib.hid hown3; clear hown3 hg3)
        go_roundw
        case rel => exact ⟨m + 1, A3, c3, by omega, by omega, rfl, by show World.ownsRow _ _ _ _ _ _ _; rw [Hps.out, List.map_append]; exact Hown3.out, Hb3⟩
        case measure => simp; omega
      · have hlt1 : ¬ (m : Int) < (F : Int) + (np : Int) := by omega
        obtain rfl : m = L := by omega
        have hmF2 : F + np ≤ m := by omega
        have hm63 : m ≤ 200000 := by omega
        clear hmL
        have Hz := Lib.hid (wrJ_zero d F D m)
        rw [← Hz.out] at Hown2
        have Hown2 : Hid (wr.ownsRow w1.heap.size 5 1 (.slice A m c) m ((wrJ d F D 0 m).map bv)) := Hown2
        clear p0 p1 p2 p4 Hown Hz
        go_wp2_with fail
        generalize wr = w5 at Hown2 Hbr hws ⊢
        go_loopw [9] (fun i wr => ∃ j : Nat, j ≤ np ∧ i = .int .i64 j ∧ Hid (wr.ownsRow w1.heap.size 5 1 (.slice A m c) m ((wrJ d F D j m).map bv)) ∧ Hid (Below w1.heap.size w1 wr)) (fun i _ => np - (intOf i).toNat)
        case atStart => exact ⟨0, Nat.zero_le _, rfl, Hown2, Hbr⟩
        case round =>
          obtain ⟨j, hj, rfl, Hown3, Hbr3⟩ := hrel
          have Hp3 := Lib.hid (Hp.out.to Hbr3.out)
          have p0 := Hp3.out.c0
          have p4 := Hp3.out.c4
          by_cases hjn : j < np
          · have hj0 : (0 : Int) ≤ (j : Int) := by omega
            have hj1 : (j : Int) < (np : Int) := by omega
            have hwr : IntKind.i64.wrap ((F : Int) + (j : Int)) = ((F + j : Nat) : Int) := by rw [IntWalk.i64_in _ (by omega)]; omega
            have hlt1 : (F : Int) + (j : Int) < (m : Int) := by omega
            have hlt0 : (0 : Int) ≤ (F : Int) + (j : Int) := by omega
            have hFj : ((F : Int) + (j : Int)).toNat = F + j := by omega
            obtain ⟨ad, rfl, hab, hcell⟩ := (HD.out.below Hbr3.out).cellAt hjn
            have hy : byteO D j = D[j]'(by rw [HDl.out]; exact hjn) := byteO_lt _
            rw [← hy] at hcell
            have hcell2 : wr.cell? (ad.add j) = some (.int .u8 ((byteO D j).toNat : Int)) := hcell
            obtain ⟨g, rfl, hg1, hg2⟩ := own_g8 Hown3.out (by omega)
            obtain ⟨x, hx⟩ := wrJ_any d F D j m (F + j) (by omega)
            have hc : wr.cell? ⟨g, F + j, none⟩ = some (bv x) := by rw [Hown3.out.cellAt (F + j) (by omega), List.getElem?_map, hx]; rfl
            have hc2 : wr.cell? ⟨g, F + j, none⟩ = some (.int .u8 (x.toNat : Int)) := hc
            have hf := World.ownsRow.frozenAt Hown3.out (F + j)
            have Hset := Lib.hid (wrJ_set d F D j m)
            generalize byteO D j = y at hcell2 Hset
            clear hcell hy hc hx
            go_wp2_with fail
            go_roundw
            case rel =>
              have h := (World.ownsRow.stored Hown3.out (F + j) (bv y)).1
              rw [← List.map_set, Hset.out] at h
              exact ⟨j + 1, by omega, by go_num, h, Lib.hid (Hbr3.out.setCell (by show _ ≤ g; exact hg1) _)⟩
            case measure => simp [intOf]; omega
          · obtain rfl : j = np := by omega
            have hbw := Lib.hid (Hb.out.trans (Hbr3.out.mono Hb.out.size))
            by_cases hz : j = 0
            · subst hz
              have hmF : ¬ (m : Int) < (F : Int) := by omega
              go_wp2_with fail
              generalize wr = w6 at Hown3 Hbr3 hbw p0 p4 Hp3 ⊢
              go_loopw [6] (fun v wr => v = .slice A m c ∧ wr = w6) (fun _ _ => 0)
              case atStart => exact ⟨rfl, rfl⟩
              case round =>
                obtain ⟨rfl, rfl⟩ := hrel
                go_wp2_with fail
                exact bodyPost_ret (v := .tuple #[.slice A m c, .bool true]) (by simp [results, Tryd.results42, go_sem]) rfl ⟨_, by rw [He.out]; rfl, ⟨A, m, c, rfl, by rw [He.out]; exact Rd.own Hown3.out, by omega⟩, hbw.out⟩
            · have hzj : ((j : Int) == 0) = false := by simpa using hz
              go_wp2_with fail
              exact bodyPost_ret (v := .tuple #[.slice A m c, .bool true]) (by simp [results, Tryd.results42, go_sem]) rfl ⟨_, by rw [He.out]; rfl, ⟨A, m, c, rfl, by rw [He.out]; exact Rd.own Hown3.out, by omega⟩, hbw.out⟩
  · have He := Lib.hid (show dataO d ⟨5, f, n, X, D⟩ = none by
      unfold dataO
      rw [if_pos rfl, if_pos (by show f < 0 ∨ f > 64 ∨ ((D.length : Nat) : Int) > 64 ∨ f + ((D.length : Nat) : Int) > 64; rw [HDl.out]; omega)])
    go_wp2_with fail
    all_goals
      exact bodyPost_ret (v := .tuple #[.slice none 0 0, .bool false]) (by simp [results, Tryd.results42, go_sem]) rfl ⟨_, by rw [He.out]; rfl, ⟨none, 0, 0, rfl, by rw [He.out]; exact Rd.nil, by omega⟩, Hbf.out⟩
end Go.Proofs.YtmigapjkicddiaaDoor

namespace Go.Proofs.YtmigapjkicddiaaDoor
open Go.RowKit

theorem three_objs (w : World) (o1 o2 o3 : Obj) : (((w.alloc o1).alloc o2).alloc o3).heap[w.heap.size]? = some o1 ∧ (((w.alloc o1).alloc o2).alloc o3).heap[w.heap.size + 1]? = some o2 ∧ (((w.alloc o1).alloc o2).alloc o3).heap[w.heap.size + 2]? = some o3 ∧ Below w.heap.size w (((w.alloc o1).alloc o2).alloc o3) := by
  obtain ⟨h1, h2, h3⟩ := two_objs w o1 o2
  have hs : ((w.alloc o1).alloc o2).heap.size = w.heap.size + 2 := by simp
  refine ⟨?_, ?_, ?_, h3.alloc h3.size o3⟩
  · rw [Below.heap_alloc _ _ _ (by rw [hs]; omega)]; exact h1
  · rw [Below.heap_alloc _ _ _ (by rw [hs]; omega)]; exact h2
  · have h := heap_alloc_new ((w.alloc o1).alloc o2) o3
    rwa [hs] at h
theorem blk8 {w w' : World} {b : Nat} {o : Obj} (h : w.heap[b]? = some o) (hb : Below w.heap.size w w') : w'.heap[b]? = some o := (hb.block b (lt_of_block h)).trans h
set_option maxRecDepth 10000 in
/-- the keys are the argument's own, or they lie in memory of their own -/
def KeysOr (w w' : World) (B : Nat) (Ak : Option Addr) (nk ck : Nat) (ks : List Ky) (A : Option Addr) (l c : Nat) (ks' : List Ky) : Prop :=
  (A = Ak ∧ l = nk ∧ c = ck ∧ ks' = ks) ∨ ∃ vs : List Kv, vs.map Kv.k = ks' ∧ vs.length = l ∧ (∀ p ∈ vs, KvAt w B p) ∧ w'.ownsRow w.heap.size 48 2 (.slice A l c) l (flatK vs)
/-- is there a key that stands for the data as of that name? -/
def hasK (ks : List Ky) (X : List UInt8) : Bool := ks.any fun k => forN k.name X
/-- setting a key of that name: the keys, the error -/
def setK (ks : List Ky) (X v : List UInt8) : List Ky × Int :=
  if nameB X = true ∧ v.length ≤ 2048 ∧ (ks.length < 120 ∨ (getK ks X).isSome = true) then (putK ks X v, 0) else (ks, 2)
theorem Rd_back {w w' : World} {B n : Nat} {A : Option Addr} {l : List UInt8} (h : Rd w' B A n l) (hb : Below B w w') : Rd w B A n l := h.keep fun _ hp => (hb.cell hp).symm
theorem KvAt_back {w w' : World} {B : Nat} {p : Kv} (h : KvAt w' B p) (hb : Below B w w') : KvAt w B p := ⟨Rd_back h.1 hb, h.2⟩
/-- what key tells -/
def KeyP (w : World) (B : Nat) (Ad : Option Addr) (nd cd : Nat) (Ak : Option Addr) (nk ck : Nat) (s : Int) (ks : List Ky) (r : List Ky × Int) (e : Ending) (w' : World) : Prop :=
  ∃ A l c, e = .returned (.tuple #[oV Ad nd cd A l c s, .int .i64 r.2]) ∧ KeysOr w w' B Ak nk ck ks A l c r.1 ∧ Below w.heap.size w w'

set_option maxRecDepth 10000 in
set_option maxHeartbeats 8000000 in
theorem RKey8_9 (Ad : Option Addr) (nd cd : Nat) (Ak : Option Addr) (nk ck : Nat) (s : Int) (ks : List Ky) (f n : Int) (X : List UInt8) (Ap : Option Addr) (np cp : Nat) (D : List UInt8) (B : Nat) (w : World) (hB : B ≤ w.heap.size) (hr : RdK w B Ak nk ks) (hn : nk ≤ 100000) (hX : X.length ≤ 9223372036854775807) (hD : Rd w B Ap np D) (hDn : np ≤ 9223372036854775807) :
    Calls Tryd.prog 44 #[oV Ad nd cd Ak nk ck s, pV 9 f n X Ap np cp] w (KeyP w B Ad nd cd Ak nk ck s ks (setK ks X D)) := by
  have HT := Lib.hid (three_objs w (.cells #[.slice Ad nd cd, .slice Ak nk ck, .int .i64 s] 25) (.cells #[.int .i64 9, .int .i64 f, .int .i64 n, .string ⟨X.toArray⟩, .slice Ap np cp] 38) (.cells #[.slice none 0 0, .slice none 0 0, .int .i64 0] 25))
  have Hr0 := Lib.hid hr
  have Hr := Lib.hid (hr.below (HT.out.2.2.2.mono hB))
  have HD := Lib.hid (hD.below (HT.out.2.2.2.mono hB))
  have HBw := Lib.hid hB
  have Hkn := Lib.hid hr.1
  have HDl := Lib.hid hD.1
  clear hr hD hB
  go_enter Tryd.func44, Tryd.ntmps44
  go_upto_region 1 with fail
  generalize ((w.alloc (.cells #[.slice Ad nd cd, .slice Ak nk ck, .int .i64 s] 25)).alloc (.cells #[.int .i64 9, .int .i64 f, .int .i64 n, .string ⟨X.toArray⟩, .slice Ap np cp] 38)).alloc (.cells #[.slice none 0 0, .slice none 0 0, .int .i64 0] 25) = w1 at HT Hr HD ⊢
  obtain ⟨b2, hb2⟩ : ∃ b, b = w.heap.size + 1 := ⟨_, rfl⟩
  obtain ⟨b1, hb1⟩ : ∃ b, b = w.heap.size := ⟨_, rfl⟩
  obtain ⟨z, hze⟩ : ∃ z, z = w.heap.size + 2 := ⟨_, rfl⟩
  have Hh := Lib.hid HT.out.1
  have Hp := Lib.hid HT.out.2.1
  have Hz := Lib.hid HT.out.2.2.1
  have Hb := Lib.hid HT.out.2.2.2
  have Hbz := Lib.hid (show w.heap.size ≤ z ∧ b1 < z by omega)
  rw [← hze] at Hz ⊢
  rw [← hb2] at Hp ⊢
  rw [← hb1] at Hh ⊢
  clear HT hb1 hb2 hze
  obtain ⟨c0, c1, c2⟩ := objs_of Hh.out
  have p0 := (PAt.of Hp.out).c0
  have p3 := (PAt.of Hp.out).c3
  have p4 := (PAt.of Hp.out).c4
  have HG := Lib.hid (RGet8 Ad nd cd Ak nk ck s ks X B w1 Hr.out (Nat.le_trans HBw.out Hb.out.size) hn)
  go_wp2_with fail
  refine HG.out.mono ?_
  rintro e w2 ⟨v, rfl, ⟨Ag, ng, cg, rfl, _, _⟩, hb⟩
  replace Hh := Lib.hid (blk8 Hh.out hb)
  replace Hp := Lib.hid (blk8 Hp.out hb)
  replace Hz := Lib.hid (blk8 Hz.out hb)
  replace Hr := Lib.hid (Hr.out.below (hb.mono (Nat.le_trans HBw.out Hb.out.size)))
  replace HD := Lib.hid (HD.out.below (hb.mono (Nat.le_trans HBw.out Hb.out.size)))
  replace Hb := Lib.hid (Hb.out.trans (hb.mono Hb.out.size))
  clear hb HG c0 c1 c2 p0 p3 p4
  obtain ⟨c0, c1, c2⟩ := objs_of Hh.out
  have p0 := (PAt.of Hp.out).c0
  have p3 := (PAt.of Hp.out).c3
  have p4 := (PAt.of Hp.out).c4
  obtain ⟨is, his⟩ : ∃ is, is = (getK ks X).isSome := ⟨_, rfl⟩
  rw [← his]
  have His := Lib.hid his
  clear his
  go_wp2_with fail
  refine (RName8 X _ hX).mono ?_
  rintro e w' ⟨rfl, rfl⟩
  generalize w' = w2 at *
  obtain ⟨z0, z1, z2⟩ := objs_of Hz.out
  have y0 := free_blk Hz.out 0
  have y1 := free_blk Hz.out 1
  have y2 := free_blk Hz.out 2
  have hne : (z == b1) = false := by have := Hbz.out; simp; omega
  have hne2 : z ≠ b1 := by have := Hbz.out; omega
  have hzlt := Lib.hid (lt_of_block Hz.out)
  have P8 := Lib.hid (put3_at Hz.out (.slice Ad nd cd) (.slice Ak nk ck) (.int .i64 s))
  have B8 := Lib.hid (put3_below Hb.out Hbz.out.1 (.slice Ad nd cd) (.slice Ak nk ck) (.int .i64 s) (z := z))
  obtain ⟨g, hg⟩ : ∃ g, g = nameB X := ⟨_, rfl⟩
  rw [← hg]
  have Hg := Lib.hid hg
  clear hg
  by_cases hgood : g = true ∧ np ≤ 2048 ∧ (nk < 120 ∨ is = true)
  · obtain ⟨rfl, h2, h3⟩ := hgood
    have He := Lib.hid (show setK ks X D = (putK ks X D, 0) by
      unfold setK
      rw [if_pos ⟨Hg.out.symm, by rw [HDl.out]; exact h2, by rw [Hkn.out, ← His.out]; exact h3⟩])
    have HP := Lib.hid (RPut8 Ad nd cd Ak nk ck s Ap np cp ks X D B w2 (Nat.le_trans HBw.out Hb.out.size) Hr.out HD.out hDn hX hn)
    clear y0 y1 y2 z0 z1 z2 P8 B8
    rcases Nat.lt_or_ge nk 120 with h4 | h4
    · go_wp2_with fail
      refine HP.out.mono ?_
      rintro e w3 ⟨A5, l5, k5, vs, rfl, q1, q2, q3, q4, hb3⟩
      have Hz3 := Lib.hid (blk8 Hz.out hb3)
      have Hb3 := Lib.hid (Hb.out.trans (hb3.mono Hb.out.size))
      have Q4 := Lib.hid q4
      have Q3 := Lib.hid q3
      have hzs := Lib.hid hb3.size
      clear hb3 q4 q3 HP c0 c1 c2 p0 p3 p4
      obtain ⟨z0, z1, z2⟩ := objs_of Hz3.out
      have y0 := free_blk Hz3.out 0
      have y1 := free_blk Hz3.out 1
      have y2 := free_blk Hz3.out 2
      have P9 := Lib.hid (put3_at Hz3.out (.slice Ad nd cd) (.slice A5 l5 k5) (.int .i64 s))
      have B9 := Lib.hid (put3_below Hb3.out Hbz.out.1 (.slice Ad nd cd) (.slice A5 l5 k5) (.int .i64 s) (z := z))
      have O9 := Lib.hid (own_put3 Q4.out hzlt.out (.slice Ad nd cd) (.slice A5 l5 k5) (.int .i64 s) (z := z))
      go_wp2_with fail
      clear z0 z1 z2 y0 y1 y2
      change bodyPost _ _ _ _ _ (put3 w3 z (.slice Ad nd cd) (.slice A5 l5 k5) (.int .i64 s))
      generalize put3 w3 z (.slice Ad nd cd) (.slice A5 l5 k5) (.int .i64 s) = w4 at P9 B9 O9 ⊢
      obtain ⟨z0, z1, z2⟩ := objs_of P9.out
      exact bodyPost_ret (v := .tuple #[oV Ad nd cd A5 l5 k5 s, .int .i64 0]) (by simp [results, Tryd.results44, go_sem, z0, z1, z2]) rfl ⟨A5, l5, k5, by rw [He.out], by rw [He.out]; exact .inr ⟨vs, q1, q2, fun p hp => KvAt_back (Q3.out p hp) (Hb.out.mono HBw.out), own_base8 O9.out Hb.out.size⟩, B9.out⟩
    · obtain rfl : is = true := by rcases h3 with h3 | h3; omega; exact h3
      go_wp2_with fail
      refine HP.out.mono ?_
      rintro e w3 ⟨A5, l5, k5, vs, rfl, q1, q2, q3, q4, hb3⟩
      have Hz3 := Lib.hid (blk8 Hz.out hb3)
      have Hb3 := Lib.hid (Hb.out.trans (hb3.mono Hb.out.size))
      have Q4 := Lib.hid q4
      have Q3 := Lib.hid q3
      have hzs := Lib.hid hb3.size
      clear hb3 q4 q3 HP c0 c1 c2 p0 p3 p4
      obtain ⟨z0, z1, z2⟩ := objs_of Hz3.out
      have y0 := free_blk Hz3.out 0
      have y1 := free_blk Hz3.out 1
      have y2 := free_blk Hz3.out 2
      have P9 := Lib.hid (put3_at Hz3.out (.slice Ad nd cd) (.slice A5 l5 k5) (.int .i64 s))
      have B9 := Lib.hid (put3_below Hb3.out Hbz.out.1 (.slice Ad nd cd) (.slice A5 l5 k5) (.int .i64 s) (z := z))
      have O9 := Lib.hid (own_put3 Q4.out hzlt.out (.slice Ad nd cd) (.slice A5 l5 k5) (.int .i64 s) (z := z))
      go_wp2_with fail
      clear z0 z1 z2 y0 y1 y2
      change bodyPost _ _ _ _ _ (put3 w3 z (.slice Ad nd cd) (.slice A5 l5 k5) (.int .i64 s))
      generalize put3 w3 z (.slice Ad nd cd) (.slice A5 l5 k5) (.int .i64 s) = w4 at P9 B9 O9 ⊢
      obtain ⟨z0, z1, z2⟩ := objs_of P9.out
      exact bodyPost_ret (v := .tuple #[oV Ad nd cd A5 l5 k5 s, .int .i64 0]) (by simp [results, Tryd.results44, go_sem, z0, z1, z2]) rfl ⟨A5, l5, k5, by rw [He.out], by rw [He.out]; exact .inr ⟨vs, q1, q2, fun p hp => KvAt_back (Q3.out p hp) (Hb.out.mono HBw.out), own_base8 O9.out Hb.out.size⟩, B9.out⟩
  · have He := Lib.hid (show setK ks X D = (ks, 2) by
      unfold setK
      rw [if_neg (fun ⟨q1, q2, q3⟩ => hgood ⟨by rw [Hg.out]; exact q1, by rw [← HDl.out]; exact q2, by rw [Hkn.out, ← His.out] at q3; exact q3⟩)])
    have hways : g = false ∨ (g = true ∧ 2048 < np) ∨ (g = true ∧ np ≤ 2048 ∧ 120 ≤ nk ∧ is = false) := by
      cases g
      · exact .inl rfl
      · rcases Nat.lt_or_ge 2048 np with q | q
        · exact .inr (.inl ⟨rfl, q⟩)
        · refine .inr (.inr ⟨rfl, q, Nat.le_of_not_lt fun q2 => hgood ⟨rfl, q, .inl q2⟩, ?_⟩)
          cases is
          · rfl
          · exact absurd ⟨rfl, q, .inr rfl⟩ hgood
    clear hgood
    rcases hways with rfl | ⟨rfl, q⟩ | ⟨rfl, q1, q2, rfl⟩
    all_goals
      go_wp2_with fail
      clear c0 c1 c2 p0 p3 p4 z0 z1 z2 y0 y1 y2 hne hne2
      change bodyPost _ _ _ _ _ (put3 w2 z (.slice Ad nd cd) (.slice Ak nk ck) (.int .i64 s))
      generalize put3 w2 z (.slice Ad nd cd) (.slice Ak nk ck) (.int .i64 s) = w4 at P8 B8 ⊢
      obtain ⟨z0, z1, z2⟩ := objs_of P8.out
      exact bodyPost_ret (v := .tuple #[oV Ad nd cd Ak nk ck s, .int .i64 2]) (by simp [results, Tryd.results44, go_sem, z0, z1, z2]) rfl ⟨Ak, nk, ck, by rw [He.out], by rw [He.out]; exact .inl ⟨rfl, rfl, rfl, rfl⟩, B8.out⟩
end Go.Proofs.YtmigapjkicddiaaDoor

namespace Go.Proofs.YtmigapjkicddiaaDoor
open Go.RowKit

theorem hasK_drop {ks : List Ky} {j : Nat} (h : j < ks.length) (X : List UInt8) : hasK (ks.drop j) X = (forN ks[j].name X || hasK (ks.drop (j + 1)) X) := by
  rw [List.drop_eq_getElem_cons h]
  rfl
theorem less_pos {m X : List UInt8} (h : Op.bytesLess m X = false) (h0 : 0 < X.length) : 0 < m.length := by
  cases m with
  | nil =>
    cases X with
    | nil => simp at h0
    | cons x r => simp [Op.bytesLess] at h
  | cons a r => simp
/-- cloning the data under that name: the keys, the error -/
def cloneK (ks : List Ky) (X d : List UInt8) : List Ky × Int := if hasK ks X = true then (ks, 0) else setK ks X d

set_option maxRecDepth 10000 in
set_option maxHeartbeats 8000000 in
theorem RKey8_11 (Ad : Option Addr) (nd cd : Nat) (Ak : Option Addr) (nk ck : Nat) (s : Int) (d : List UInt8) (ks : List Ky) (f n : Int) (X : List UInt8) (Ap : Option Addr) (np cp : Nat) (B : Nat) (w : World) (hB : B ≤ w.heap.size) (hr : RdK w B Ak nk ks) (hn : nk ≤ 100000) (hX : X.length ≤ 9223372036854775807) (hD : Rd w B Ad nd d) (hDn : nd ≤ 9223372036854775807) :
    Calls Tryd.prog 44 #[oV Ad nd cd Ak nk ck s, pV 11 f n X Ap np cp] w (KeyP w B Ad nd cd Ak nk ck s ks (cloneK ks X d)) := by
  have HT := Lib.hid (three_objs w (.cells #[.slice Ad nd cd, .slice Ak nk ck, .int .i64 s] 25) (.cells #[.int .i64 11, .int .i64 f, .int .i64 n, .string ⟨X.toArray⟩, .slice Ap np cp] 38) (.cells #[.slice none 0 0, .slice none 0 0, .int .i64 0] 25))
  have Hr0 := Lib.hid hr
  have Hr := Lib.hid (hr.below (HT.out.2.2.2.mono hB))
  have HD := Lib.hid (hD.below (HT.out.2.2.2.mono hB))
  have HBw := Lib.hid hB
  have Hkn := Lib.hid hr.1
  have HDl := Lib.hid hD.1
  clear hr hD hB
  go_enter Tryd.func44, Tryd.ntmps44
  go_upto_region 1 with fail
  generalize ((w.alloc (.cells #[.slice Ad nd cd, .slice Ak nk ck, .int .i64 s] 25)).alloc (.cells #[.int .i64 11, .int .i64 f, .int .i64 n, .string ⟨X.toArray⟩, .slice Ap np cp] 38)).alloc (.cells #[.slice none 0 0, .slice none 0 0, .int .i64 0] 25) = w1 at HT Hr HD ⊢
  obtain ⟨b2, hb2⟩ : ∃ b, b = w.heap.size + 1 := ⟨_, rfl⟩
  obtain ⟨b1, hb1⟩ : ∃ b, b = w.heap.size := ⟨_, rfl⟩
  obtain ⟨z, hze⟩ : ∃ z, z = w.heap.size + 2 := ⟨_, rfl⟩
  have Hh := Lib.hid HT.out.1
  have Hp := Lib.hid HT.out.2.1
  have Hz := Lib.hid HT.out.2.2.1
  have Hb := Lib.hid HT.out.2.2.2
  have Hbz := Lib.hid (show w.heap.size ≤ z ∧ b1 < z by omega)
  rw [← hze] at Hz ⊢
  rw [← hb2] at Hp ⊢
  rw [← hb1] at Hh ⊢
  clear HT hb1 hb2 hze
  obtain ⟨c0, c1, c2⟩ := objs_of Hh.out
  have p0 := (PAt.of Hp.out).c0
  have p3 := (PAt.of Hp.out).c3
  have p4 := (PAt.of Hp.out).c4
  have HG := Lib.hid (RGet8 Ad nd cd Ak nk ck s ks X B w1 Hr.out (Nat.le_trans HBw.out Hb.out.size) hn)
  go_wp2_with fail
  refine HG.out.mono ?_
  rintro e w2 ⟨v, rfl, ⟨Ag, ng, cg, rfl, _, _⟩, hb⟩
  replace Hh := Lib.hid (blk8 Hh.out hb)
  replace Hp := Lib.hid (blk8 Hp.out hb)
  replace Hz := Lib.hid (blk8 Hz.out hb)
  replace Hr := Lib.hid (Hr.out.below (hb.mono (Nat.le_trans HBw.out Hb.out.size)))
  replace HD := Lib.hid (HD.out.below (hb.mono (Nat.le_trans HBw.out Hb.out.size)))
  replace Hb := Lib.hid (Hb.out.trans (hb.mono Hb.out.size))
  clear hb HG c0 c1 c2 p0 p3 p4
  obtain ⟨c0, c1, c2⟩ := objs_of Hh.out
  have p0 := (PAt.of Hp.out).c0
  have p3 := (PAt.of Hp.out).c3
  have p4 := (PAt.of Hp.out).c4
  obtain ⟨is, his⟩ : ∃ is, is = (getK ks X).isSome := ⟨_, rfl⟩
  rw [← his]
  have His := Lib.hid his
  clear his
  have HX := Lib.hid (show (⟨X.toArray⟩ : ByteArray).size = X.length by simp [ByteArray.size])
  go_wp2_with fail
  generalize w2 = w6 at *
  go_loopw [9] (fun i wr => ∃ j : Nat, j ≤ nk ∧ i = .int .i64 j ∧ Hid (hasK ks X = hasK (ks.drop j) X) ∧ Hid (∃ q, wr = w6.drewN q)) (fun i _ => nk - (intOf i).toNat)
  case atStart => exact ⟨0, Nat.zero_le _, rfl, rfl, 0, rfl⟩
  case round =>
    obtain ⟨j, hj, rfl, Hj, Hq⟩ := hrel
    have Hh' := Lib.hid (show wr.heap[b1]? = some (.cells #[.slice Ad nd cd, .slice Ak nk ck, .int .i64 s] 25 (0, 0)) by obtain ⟨q, rfl⟩ := Hq.out; exact Hh.out)
    have Hp' := Lib.hid (show wr.heap[b2]? = some (.cells #[.int .i64 11, .int .i64 f, .int .i64 n, .string ⟨X.toArray⟩, .slice Ap np cp] 38 (0, 0)) by obtain ⟨q, rfl⟩ := Hq.out; exact Hp.out)
    have Hz' := Lib.hid (show wr.heap[z]? = some (.cells #[.slice none 0 0, .slice none 0 0, .int .i64 0] 25 (0, 0)) by obtain ⟨q, rfl⟩ := Hq.out; exact Hz.out)
    have Hr' := Lib.hid (show RdK wr B Ak nk ks by obtain ⟨q, rfl⟩ := Hq.out; exact Hr.out)
    have HD' := Lib.hid (show Rd wr B Ad nd d by obtain ⟨q, rfl⟩ := Hq.out; exact HD.out)
    have Hb' := Lib.hid (show Below w.heap.size w wr by obtain ⟨q, rfl⟩ := Hq.out; exact below_drewN Hb.out q)
    clear c0 c1 c2 p0 p3 p4 Hh Hp Hz Hr HD Hb
    have Hh := Lib.hid Hh'.out
    have Hp := Lib.hid Hp'.out
    have Hz := Lib.hid Hz'.out
    have Hr := Lib.hid Hr'.out
    have HD := Lib.hid HD'.out
    have Hb := Lib.hid Hb'.out
    clear Hh' Hp' Hz' Hr' HD' Hb'
    obtain ⟨c0, c1, c2⟩ := objs_of Hh.out
    have p0 := (PAt.of Hp.out).c0
    have p3 := (PAt.of Hp.out).c3
    have p4 := (PAt.of Hp.out).c4
    by_cases hjn : j < nk
    · have hjl : j < ks.length := by rw [Hr.out.1]; exact hjn
      obtain ⟨g, o, Aj, nj, cj, rfl, hg, x0, x1, h5, h6, h7⟩ := Hr.out.2 j hjl
      have Hst := Lib.hid (hasK_drop hjl X)
      have hml : ks[j].name.length ≤ 9223372036854775807 := h7
      clear h5 h7 x1
      generalize ks[j] = k at x0 Hst hml
      obtain ⟨m, v⟩ := k
      have x0 : wr.cell? ⟨g, o + j * 2, none⟩ = some (.string ⟨m.toArray⟩) := x0
      have hml : m.length ≤ 9223372036854775807 := hml
      have Hm := Lib.hid (show (⟨m.toArray⟩ : ByteArray).size = m.length by simp [ByteArray.size])
      have hj0 : (0 : Int) ≤ (j : Int) := by omega
      have hj1 : (j : Int) < (nk : Int) := by omega
      clear hjl
      have Hno : Hid (forN m X = false → hasK ks X = hasK (ks.drop (j + 1)) X) := fun h => by rw [Hj.out, Hst.out]; simp [h]
      have Hyes : Hid (forN m X = true → hasK ks X = true) := fun h => by rw [Hj.out, Hst.out]; simp [h]
      clear Hst
      by_cases hl : Op.bytesLess m X = true
      · have Hj2 := Lib.hid (Hno.out (forN_no hl))
        clear Hno Hyes
        go_wp2_with fail
        go_quiet (fail)
        go_wp2_with fail
        go_roundw
        case rel => exact ⟨j + 1, by omega, by go_num, Hj2, by obtain ⟨q, rfl⟩ := Hq.out; exact ⟨q + _, (drewN_add _ q _).symm⟩⟩
        case measure => simp [intOf]; omega
      · have hl2 : Op.bytesLess m X = false := by simpa using hl
        rcases Nat.eq_zero_or_pos X.length with h0 | h0
        · have Hj2 := Lib.hid (Hno.out (forN_nil h0))
          have h0' : decide (0 < (X.length : Int)) = false := decide_eq_false (by omega)
          clear Hno Hyes
          go_wp2_with fail
          go_quiet (fail)
          go_wp2_with fail
          go_roundw
          case rel => exact ⟨j + 1, by omega, by go_num, Hj2, by obtain ⟨q, rfl⟩ := Hq.out; exact ⟨q + _, (drewN_add _ q _).symm⟩⟩
          case measure => simp [intOf]; omega
        · have h0' : decide (0 < (X.length : Int)) = true := decide_eq_true (by omega)
          have h2 : 0 < m.length := less_pos hl2 h0
          have hs1 : 0 < (⟨m.toArray⟩ : ByteArray).size := by rw [Hm.out]; exact h2
          have hs2 : 0 < (⟨X.toArray⟩ : ByteArray).size := by rw [HX.out]; exact h0
          have Hf := Lib.hid (forN_at hl2 h0 h2 hs1 hs2)
          obtain ⟨r, hr⟩ : ∃ r, r = forN m X := ⟨_, rfl⟩
          rw [← hr] at Hf Hno Hyes
          have hf := Hf.out.symm
          clear hr Hf
          cases r
          · have Hj2 := Lib.hid (Hno.out rfl)
            clear Hno Hyes
            go_wp2_with fail
            go_quiet (fail)
            go_wp2_with fail
            go_roundw
            case rel => exact ⟨j + 1, by omega, by go_num, Hj2, by obtain ⟨q, rfl⟩ := Hq.out; exact ⟨q + _, (drewN_add _ q _).symm⟩⟩
            case measure => simp [intOf]; omega
          · have Hy := Lib.hid (Hyes.out rfl)
            have He := Lib.hid (show cloneK ks X d = (ks, 0) by unfold cloneK; rw [Hy.out]; rfl)
            clear Hno Hyes Hy
            obtain ⟨z0, z1, z2⟩ := objs_of Hz.out
            have y0 := free_blk Hz.out 0
            have y1 := free_blk Hz.out 1
            have y2 := free_blk Hz.out 2
            have hne : (z == b1) = false := by have := Hbz.out; simp; omega
            have hne2 : z ≠ b1 := by have := Hbz.out; omega
            go_wp2_with fail
            go_quiet (fail)
            have P8 := Lib.hid (put3_at (w := wr.drewN nq) Hz.out (.slice Ad nd cd) (.slice (some ⟨g, o, none⟩) nk ck) (.int .i64 s))
            have B8 := Lib.hid (put3_below (below_drewN Hb.out nq) Hbz.out.1 (.slice Ad nd cd) (.slice (some ⟨g, o, none⟩) nk ck) (.int .i64 s) (z := z))
            go_wp2_with fail
            change bodyPost _ _ _ _ _ (put3 (wr.drewN nq) z (.slice Ad nd cd) (.slice (some ⟨g, o, none⟩) nk ck) (.int .i64 s))
            generalize put3 (wr.drewN nq) z (.slice Ad nd cd) (.slice (some ⟨g, o, none⟩) nk ck) (.int .i64 s) = w4 at P8 B8 ⊢
            clear z0 z1 z2
            obtain ⟨z0, z1, z2⟩ := objs_of P8.out
            exact bodyPost_ret (v := .tuple #[oV Ad nd cd (some ⟨g, o, none⟩) nk ck s, .int .i64 0]) (by simp [results, Tryd.results44, go_sem, z0, z1, z2]) rfl ⟨_, nk, ck, by rw [He.out], by rw [He.out]; exact .inl ⟨rfl, rfl, rfl, rfl⟩, B8.out⟩
    · obtain rfl : j = nk := by omega
      have Hz0 := Lib.hid (show hasK ks X = false by rw [Hj.out, List.drop_of_length_le (by rw [Hr.out.1]; exact Nat.le_refl _)]; rfl)
      go_wp2_with fail
      refine (RName8 X _ hX).mono ?_
      rintro e w' ⟨rfl, rfl⟩
      generalize w' = w2 at *
      obtain ⟨z0, z1, z2⟩ := objs_of Hz.out
      have y0 := free_blk Hz.out 0
      have y1 := free_blk Hz.out 1
      have y2 := free_blk Hz.out 2
      have hne : (z == b1) = false := by have := Hbz.out; simp; omega
      have hne2 : z ≠ b1 := by have := Hbz.out; omega
      have hzlt := Lib.hid (lt_of_block Hz.out)
      have P8 := Lib.hid (put3_at Hz.out (.slice Ad nd cd) (.slice Ak j ck) (.int .i64 s))
      have B8 := Lib.hid (put3_below Hb.out Hbz.out.1 (.slice Ad nd cd) (.slice Ak j ck) (.int .i64 s) (z := z))
      obtain ⟨g, hg⟩ : ∃ g, g = nameB X := ⟨_, rfl⟩
      rw [← hg]
      have Hg := Lib.hid hg
      clear hg
      by_cases hgood : g = true ∧ nd ≤ 2048 ∧ (j < 120 ∨ is = true)
      · obtain ⟨rfl, h2, h3⟩ := hgood
        have He := Lib.hid (show cloneK ks X d = (putK ks X d, 0) by
          unfold cloneK setK
          simp only [Hz0.out, Bool.false_eq_true, if_false]
          rw [if_pos ⟨Hg.out.symm, by rw [HDl.out]; exact h2, by rw [Hkn.out, ← His.out]; exact h3⟩])
        have HP := Lib.hid (RPut8 Ad nd cd Ak j ck s Ad nd cd ks X d B w2 (Nat.le_trans HBw.out Hb.out.size) Hr.out HD.out hDn hX hn)
        clear y0 y1 y2 z0 z1 z2 P8 B8
        rcases Nat.lt_or_ge j 120 with h4 | h4
        · go_wp2_with fail
          refine HP.out.mono ?_
          rintro e w3 ⟨A5, l5, k5, vs, rfl, q1, q2, q3, q4, hb3⟩
          have Hz3 := Lib.hid (blk8 Hz.out hb3)
          have Hb3 := Lib.hid (Hb.out.trans (hb3.mono Hb.out.size))
          have Q4 := Lib.hid q4
          have Q3 := Lib.hid q3
          have hzs := Lib.hid hb3.size
          clear hb3 q4 q3 HP c0 c1 c2 p0 p3 p4
          obtain ⟨z0, z1, z2⟩ := objs_of Hz3.out
          have y0 := free_blk Hz3.out 0
          have y1 := free_blk Hz3.out 1
          have y2 := free_blk Hz3.out 2
          have P9 := Lib.hid (put3_at Hz3.out (.slice Ad nd cd) (.slice A5 l5 k5) (.int .i64 s))
          have B9 := Lib.hid (put3_below Hb3.out Hbz.out.1 (.slice Ad nd cd) (.slice A5 l5 k5) (.int .i64 s) (z := z))
          have O9 := Lib.hid (own_put3 Q4.out hzlt.out (.slice Ad nd cd) (.slice A5 l5 k5) (.int .i64 s) (z := z))
          go_wp2_with fail
          clear z0 z1 z2 y0 y1 y2
          change bodyPost _ _ _ _ _ (put3 w3 z (.slice Ad nd cd) (.slice A5 l5 k5) (.int .i64 s))
          generalize put3 w3 z (.slice Ad nd cd) (.slice A5 l5 k5) (.int .i64 s) = w4 at P9 B9 O9 ⊢
          obtain ⟨z0, z1, z2⟩ := objs_of P9.out
          exact bodyPost_ret (v := .tuple #[oV Ad nd cd A5 l5 k5 s, .int .i64 0]) (by simp [results, Tryd.results44, go_sem, z0, z1, z2]) rfl ⟨A5, l5, k5, by rw [He.out], by rw [He.out]; exact .inr ⟨vs, q1, q2, fun p hp => KvAt_back (Q3.out p hp) (Hb.out.mono HBw.out), own_base8 O9.out Hb.out.size⟩, B9.out⟩
        · obtain rfl : is = true := by rcases h3 with h3 | h3; omega; exact h3
          go_wp2_with fail
          refine HP.out.mono ?_
          rintro e w3 ⟨A5, l5, k5, vs, rfl, q1, q2, q3, q4, hb3⟩
          have Hz3 := Lib.hid (blk8 Hz.out hb3)
          have Hb3 := Lib.hid (Hb.out.trans (hb3.mono Hb.out.size))
          have Q4 := Lib.hid q4
          have Q3 := Lib.hid q3
          have hzs := Lib.hid hb3.size
          clear hb3 q4 q3 HP c0 c1 c2 p0 p3 p4
          obtain ⟨z0, z1, z2⟩ := objs_of Hz3.out
          have y0 := free_blk Hz3.out 0
          have y1 := free_blk Hz3.out 1
          have y2 := free_blk Hz3.out 2
          have P9 := Lib.hid (put3_at Hz3.out (.slice Ad nd cd) (.slice A5 l5 k5) (.int .i64 s))
          have B9 := Lib.hid (put3_below Hb3.out Hbz.out.1 (.slice Ad nd cd) (.slice A5 l5 k5) (.int .i64 s) (z := z))
          have O9 := Lib.hid (own_put3 Q4.out hzlt.out (.slice Ad nd cd) (.slice A5 l5 k5) (.int .i64 s) (z := z))
          go_wp2_with fail
          clear z0 z1 z2 y0 y1 y2
          change bodyPost _ _ _ _ _ (put3 w3 z (.slice Ad nd cd) (.slice A5 l5 k5) (.int .i64 s))
          generalize put3 w3 z (.slice Ad nd cd) (.slice A5 l5 k5) (.int .i64 s) = w4 at P9 B9 O9 ⊢
          obtain ⟨z0, z1, z2⟩ := objs_of P9.out
          exact bodyPost_ret (v := .tuple #[oV Ad nd cd A5 l5 k5 s, .int .i64 0]) (by simp [results, Tryd.results44, go_sem, z0, z1, z2]) rfl ⟨A5, l5, k5, by rw [He.out], by rw [He.out]; exact .inr ⟨vs, q1, q2, fun p hp => KvAt_back (Q3.out p hp) (Hb.out.mono HBw.out), own_base8 O9.out Hb.out.size⟩, B9.out⟩
      · have He := Lib.hid (show cloneK ks X d = (ks, 2) by
          unfold cloneK setK
          simp only [Hz0.out, Bool.false_eq_true, if_false]
          rw [if_neg (fun ⟨q1, q2, q3⟩ => hgood ⟨by rw [Hg.out]; exact q1, by rw [← HDl.out]; exact q2, by rw [Hkn.out, ← His.out] at q3; exact q3⟩)])
        have hways : g = false ∨ (g = true ∧ 2048 < nd) ∨ (g = true ∧ nd ≤ 2048 ∧ 120 ≤ j ∧ is = false) := by
          cases g
          · exact .inl rfl
          · rcases Nat.lt_or_ge 2048 nd with q | q
            · exact .inr (.inl ⟨rfl, q⟩)
            · refine .inr (.inr ⟨rfl, q, Nat.le_of_not_lt fun q2 => hgood ⟨rfl, q, .inl q2⟩, ?_⟩)
              cases is
              · rfl
              · exact absurd ⟨rfl, q, .inr rfl⟩ hgood
        clear hgood
        rcases hways with rfl | ⟨rfl, q⟩ | ⟨rfl, q1, q2, rfl⟩
        all_goals
          go_wp2_with fail
          clear c0 c1 c2 p0 p3 p4 z0 z1 z2 y0 y1 y2 hne hne2
          change bodyPost _ _ _ _ _ (put3 w2 z (.slice Ad nd cd) (.slice Ak j ck) (.int .i64 s))
          generalize put3 w2 z (.slice Ad nd cd) (.slice Ak j ck) (.int .i64 s) = w4 at P8 B8 ⊢
          obtain ⟨z0, z1, z2⟩ := objs_of P8.out
          exact bodyPost_ret (v := .tuple #[oV Ad nd cd Ak j ck s, .int .i64 2]) (by simp [results, Tryd.results44, go_sem, z0, z1, z2]) rfl ⟨Ak, j, ck, by rw [He.out], by rw [He.out]; exact .inl ⟨rfl, rfl, rfl, rfl⟩, B8.out⟩
end Go.Proofs.YtmigapjkicddiaaDoor
