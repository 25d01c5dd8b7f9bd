/- Contract of slices.SortFunc at spans, under the order by where they begin (the library's contract laid at this seat). -/
import Derived.Test.YtikpcpkclecciaaSpE
import Derived.Shelf.SlSortCmp.NoneTotal
import Derived.Shelf.SlicesG.Cmp
import Derived.Shelf.Lay
import Derived.Ground.SlsfProg
import Derived.Ground.SlgcProg
namespace Go.Proofs.Ytikpcpkclecciaa
open Go.RowKit Go.Shelf
open Go.Sort hiding Below

shelf_lay_g SlLaysF0.n6 Slsf 6 at Try 30 as Try.sortSp
shelf_lay_g SlLaysC2.n5 Slgc 5 at Try 32 as Try.cmpSp

/-- which one begins first -/
abbrev cmpS (x y : Sp) : Int := Lib.compareInt x.1 y.1
theorem ltS (x y : Sp) : ltOf cmpS x y = decide (x.1 < y.1) := by
  unfold ltOf cmpS Lib.compareInt
  by_cases h1 : x.1 < y.1
  · simp [h1]
  · by_cases h2 : y.1 < x.1 <;> simp [h1, h2]
theorem swoS : SWO (ltOf cmpS) where
  irrefl x := by rw [ltS]; simp
  trans x y z h1 h2 := by rw [ltS] at *; simp at *; omega
  ntrans x y z h1 h2 := by rw [ltS] at *; simp at *; omega
set_option maxHeartbeats 1000000 in
theorem less_any (x y : Sp) (W : World) : Calls Try.prog 31 #[.agg #[.int .i64 x.1, .int .i64 x.2], .agg #[.int .i64 y.1, .int .i64 y.2]] W fun e w' => e = .returned (.int .i64 (cmpS x y)) ∧ ∃ q os', w' = grow (W.drewN q) os' := by
  have hcon := fun W' => AnyG.cmp_Compare_int Try.cmpSp x.1 y.1 W'
  change ∀ W', Calls Try.prog 32 _ _ _ at hcon
  show Calls Try.prog 31 _ W fun e w' => e = .returned (.int .i64 (Lib.compareInt x.1 y.1)) ∧ _
  generalize Lib.compareInt x.1 y.1 = r at hcon ⊢
  go_enter Try.func31, Try.ntmps31
  go_wp2_with (go_at_call 32; refine (hcon _).mono ?_; rintro e w' ⟨rfl, rfl⟩)
  go_ret
  exact ⟨rfl, 0, _, by rw [alloc_eq_grow, alloc_eq_grow, grow_grow]; rfl⟩
theorem get_bang (ps : List Sp) (i : Nat) (h : i < ps.length) : ps.toArray[i]! = ps[i] := by
  rw [getElem!_pos ps.toArray i (by simpa using h)]; simp
theorem holdsS {w : World} {B g n c : Nat} {ps : List Sp} (h : w.ownsRow B 33 2 (.slice (some ⟨g, 0, none⟩) n c) n (flatS ps)) (hn : n = ps.length) : HoldsK spC 2 w g 0 ps.toArray := by
  intro t ht
  rw [size_flatK, List.size_toArray] at ht
  have hi : t / 2 < ps.length := by omega
  refine ⟨?_, by rw [Nat.zero_add]; exact World.ownsRow.frozenAt h t⟩
  rw [Nat.zero_add, h.cellAt t (by omega), get_flatK _ _ _ _ (by simpa using ht), get_bang ps _ hi]
  have := flatS_get ps (t / 2) (t % 2) hi (by omega)
  rw [show t / 2 * 2 + t % 2 = t by omega] at this
  rw [this, List.getElem!_eq_getElem?_getD]
  rcases Nat.mod_two_eq_zero_or_one t with e | e <;> rw [e] <;> rfl
theorem below_sort {w : World} {B g n : Nat} {d : Array Sp} {os : Array Obj} (hg : B ≤ g) (hgw : g < w.heap.size) : Below B w (sortWorldK spC 2 w g 0 n d os) := by
  refine ⟨rfl, rfl, rfl, size_sortWorldK_c spC 2 w g 0 n d os, fun k hk => ?_⟩
  have hk2 : k < w.heap.size := by omega
  unfold sortWorldK
  rw [heap_grow_old _ _ (by rw [show (putRowK spC 2 (Sort.ahead w n) g 0 d).heap.size = w.heap.size from size_putRow _ _ _ _ _]; exact hk2)]
  unfold putRowK putRow mapBlock
  rw [Array.getElem?_modify, if_neg (by omega)]
  rfl
theorem rds_sort {w : World} {g : Nat} {d : Array Sp} {qs : List Sp} {n : Nat} (h : HoldsK spC 2 w g 0 d) (hq : d = qs.toArray) (hn : n = qs.length) (hg : g < w.heap.size) : RdS w w.heap.size (some ⟨g, 0, none⟩) n qs := by
  subst hq
  refine ⟨hn, fun _ => ⟨g, 0, rfl, hg, fun i hi => ?_⟩⟩
  have h0 := (h.cell (i := i) (c := 0) (by simpa using hi) (by omega)).1
  have h1 := (h.cell (i := i) (c := 1) (by simpa using hi) (by omega)).1
  rw [get_bang qs i hi] at h0 h1
  exact ⟨h0, h1⟩

/-- the row sorted by where the spans begin -/
theorem sort_own (A : Option Addr) (n c : Nat) (ps : List Sp) (B : Nat) (w : World) (hown : w.ownsRow B 33 2 (.slice A n c) n (flatS ps)) (hn : n = ps.length) (hl : n ≤ 1000) :
    Calls Try.prog 30 #[.slice A n c, .func (.func 31) #[] #[]] w fun e w' => e = .returned (.tuple #[]) ∧ ∃ qs : List Sp, qs.Perm ps ∧ (∀ i j (hi : i < qs.length) (hj : j < qs.length), i < j → qs[i].1 ≤ qs[j].1) ∧ RdS w' w'.heap.size A n qs ∧ Below B w w' := by
  by_cases h0 : n = 0
  · subst h0
    obtain rfl : ps = [] := List.eq_nil_of_length_eq_zero hn.symm
    have h := AnyF.slices_SortFunc_none (P := Try.prog) (ρ := Try.sortSp_ren) Try.sortSp A c (.func (.func 31) #[] #[]) w
    change Calls Try.prog 30 _ _ _ at h
    refine h.mono ?_
    rintro e w' ⟨rfl, rfl⟩
    exact ⟨rfl, [], List.Perm.refl _, fun i j hi => by simp at hi, RdS.nil _ _ _, Below.refl _ _⟩
  · rcases ownForm hown with ⟨_, h⟩ | ⟨g, c', he, hb, hg, _, _⟩
    · exact absurd h h0
    · cases he
      have eg : ∀ args w, (callFunc 31 args).run Try.prog w = .ok (.enter 31 args) w := enters_of Try.func31 (by kernel_rfl) rfl
      have hH := holdsS hown hn
      have hsz : ps.toArray.size = n := by simp [hn]
      have h := AnyQ.slices_SortFunc Try.sortSp 2 Try.isAgg33 Try.sizeOf33 spC (fun _ => rfl) (fun x v hv => by simp [spC] at hv; rcases hv with rfl | rfl <;> rfl) cmpS swoS 31 #[] g 0 c ps.toArray w eg (fun _ _ _ _ x y => less_any x y _) hH hg (by omega)
      rw [hsz] at h
      change Calls Try.prog 30 _ _ _ at h
      refine h.mono ?_
      rintro e w' ⟨rfl, d', m, os, hp, hs, rfl⟩
      obtain ⟨p1, _, p3⟩ := hp
      have hd' : d'.size = n := by rw [p1]; exact hsz
      refine ⟨rfl, d'.toList, ?_, fun i j hi hj hij => ?_, ?_, below_sort hb hg⟩
      · have e1 : d'.extract 0 n = d' := by rw [← hd']; exact Array.extract_size
        have e2 : ps.toArray.extract 0 n = ps.toArray := by rw [← hsz]; exact Array.extract_size
        rw [e1, e2] at p3
        exact p3
      · have hi' : i < d'.size := by simpa using hi
        have hj' : j < d'.size := by simpa using hj
        have := hs i j (Nat.zero_le _) hij (by rw [← hd']; exact hj')
        rw [ltS, getElem!_pos d' i hi', getElem!_pos d' j hj'] at this
        simp at this
        simpa using this
      · have hK := holdsK_sortWorldK_c spC 2 w g 0 ps.toArray d' m os hH hg p1
        have hlt : g < (sortWorldK spC 2 w g 0 m d' os).heap.size := Nat.lt_of_lt_of_le hg (size_sortWorldK_c spC 2 w g 0 m d' os)
        exact rds_sort hK (by simp) (by simp [hd']) hlt
end Go.Proofs.Ytikpcpkclecciaa
