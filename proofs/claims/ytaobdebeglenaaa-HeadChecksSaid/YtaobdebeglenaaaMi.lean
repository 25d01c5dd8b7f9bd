/- Package head: slices.DeleteFunc at snapshots, where just one of them is the one that is asked for. Package head: Drop. -/
import Derived.Test.YtaobdebeglenaaaMh

namespace Go.Proofs.Ytaobdebeglenaaa
open Go.RowKit

theorem set_off {α : Type} (A R : List α) (L i : Nat) (v : α) (h : A.length = L) : (A ++ R).set (L + i) v = A ++ R.set i v := by
  subst h
  rw [List.set_append_right _ _ (by omega), Nat.add_sub_cancel_left]
theorem set_off0 {α : Type} (A R : List α) (L : Nat) (v : α) (h : A.length = L) : (A ++ R).set L v = A ++ R.set 0 v := set_off A R L 0 v h
theorem flatN_put (us vr : List Sv) (p p' : Sv) (j : Nat) (hl : us.length = j) :
    (((flatN (us ++ p :: vr)).set (j * 3) (.int .i64 p'.s.id)).set (j * 3 + 1) (.int .i64 p'.s.size)).set (j * 3 + 2) (.slice p'.A p'.n p'.c) = flatN (us ++ p' :: vr) := by
  have h : (flatN us).length = j * 3 := by rw [flatN_len, hl]
  rw [flatN_app, flatN_app, set_off0 _ _ _ _ h, set_off _ _ _ _ _ h, set_off _ _ _ _ _ h]
  rfl
set_option maxRecDepth 10000 in
theorem own_put3 {w : World} {B g n c j : Nat} {us vr : List Sv} {p : Sv} (h : w.ownsRow B 52 3 (.slice (some ⟨g, 0, none⟩) n c) n (flatN (us ++ p :: vr))) (hl : us.length = j) (p' : Sv) :
    (((w.setCell ⟨g, j * 3, none⟩ (.int .i64 p'.s.id)).setCell ⟨g, j * 3 + 1, none⟩ (.int .i64 p'.s.size)).setCell ⟨g, j * 3 + 2, none⟩ (.slice p'.A p'.n p'.c)).ownsRow B 52 3 (.slice (some ⟨g, 0, none⟩) n c) n (flatN (us ++ p' :: vr)) ∧
      w.grownBy (((w.setCell ⟨g, j * 3, none⟩ (.int .i64 p'.s.id)).setCell ⟨g, j * 3 + 1, none⟩ (.int .i64 p'.s.size)).setCell ⟨g, j * 3 + 2, none⟩ (.slice p'.A p'.n p'.c)) (some g) := by
  obtain ⟨h1, g1⟩ := World.ownsRow.stored h (j * 3) (.int .i64 p'.s.id)
  obtain ⟨h2, g2⟩ := World.ownsRow.stored h1 (j * 3 + 1) (.int .i64 p'.s.size)
  obtain ⟨h3, g3⟩ := World.ownsRow.stored h2 (j * 3 + 2) (.slice p'.A p'.n p'.c)
  rw [flatN_put us vr p p' j hl] at h3
  exact ⟨h3, grownBy_trans (grownBy_trans g1 g2) g3⟩
theorem own_cut3 {w : World} {B g n m c : Nat} {e : TypeId} {us vr : List Sv} (h : w.ownsRow B e 3 (.slice (some ⟨g, 0, none⟩) n c) n (flatN (us ++ vr))) (hl : us.length = m) : w.ownsRow B e 3 (.slice (some ⟨g, 0, none⟩) m c) m (flatN us) := by
  have h0 := h.1
  rw [flatN_len, List.length_append] at h0
  refine ⟨by rw [flatN_len, hl], .inr ?_⟩
  rcases h.2 with ⟨q, _⟩ | ⟨g', cap, cur, h1, h2, h3, h4, h5, h6, h7⟩
  · cases q
  · cases h1
    refine ⟨g, c, cur, rfl, h2, h3, by omega, h5, h6, ?_⟩
    have : (cur.toList.take (n * 3)).take (m * 3) = (flatN (us ++ vr)).take (m * 3) := by rw [h7]
    rw [List.take_take, Nat.min_eq_left (by omega), flatN_app, List.take_left' (by rw [flatN_len, hl])] at this
    exact this
set_option maxRecDepth 10000 in
theorem run_clear1 (w : World) (ty : TypeId) (g o c : Nat) (hc0 : (w.cell? ⟨g, o, none⟩).isSome = true) (hc1 : (w.cell? ⟨g, o + 1, none⟩).isSome = true) (hc2 : (w.cell? ⟨g, o + 2, none⟩).isSome = true) (hf : ∀ j, w.frozen? ⟨g, j, none⟩ = false) :
    (Builtin.clear_ #[25] ty #[.slice (some ⟨g, o, none⟩) 1 c]).run Try.prog w = .ok (.tuple #[]) (((w.setCell ⟨g, o, none⟩ (.int .i64 0)).setCell ⟨g, o + 1, none⟩ (.int .i64 0)).setCell ⟨g, o + 2, none⟩ (.slice none 0 0)) := by
  have hst := run_storeCells_cells (P := Try.prog) g o [.int .i64 0, .int .i64 0, .slice none 0 0] 0 w (by
    intro j hj
    match j, hj with
    | 0, _ => simpa using hc0
    | 1, _ => simpa using hc1
    | 2, _ => simpa using hc2) (fun j _ => hf _) (by intro v hv; simp at hv; rcases hv with rfl | rfl | rfl <;> rfl)
  have hz : (Builtin.zeroCells (Value.agg #[.int .i64 0, .int .i64 0, .slice none 0 0]).cells 1).toList = [.int .i64 0, .int .i64 0, .slice none 0 0] := by kernel_rfl
  simp only [Nat.add_zero, World.setCells] at hst
  simp [Builtin.clear_, run_underlying Try.underlying25, hz, hst]

/-- the row while all behind the one is moved -/
def midN (va vr : List Sv) (vk : Sv) (q : Nat) : List Sv := va ++ vr.take q ++ (vk :: vr).drop q
theorem mid_next (va vr : List Sv) (vk : Sv) (q : Nat) (hq : q < vr.length) :
    ∃ y, midN va vr vk q = (va ++ vr.take q) ++ y :: vr.drop q ∧ midN va vr vk q = (va ++ vr.take q ++ [y]) ++ vr[q] :: vr.drop (q + 1) ∧ (va ++ vr.take q) ++ vr[q] :: vr.drop q = midN va vr vk (q + 1) := by
  have h1 : q < (vk :: vr).length := by simp; omega
  refine ⟨(vk :: vr)[q], ?_, ?_, ?_⟩
  · unfold midN
    rw [List.drop_eq_getElem_cons h1]
    rfl
  · unfold midN
    rw [List.drop_eq_getElem_cons h1, show (vk :: vr).drop (q + 1) = vr.drop q from rfl, List.drop_eq_getElem_cons hq]
    simp
  · unfold midN
    rw [List.take_succ_eq_append_getElem hq, show (vk :: vr).drop (q + 1) = vr.drop q from rfl]
    simp only [List.append_assoc, List.cons_append, List.nil_append]
theorem mid_end (va vr : List Sv) (vk : Sv) : ∃ y, midN va vr vk vr.length = (va ++ vr) ++ [y] := by
  unfold midN
  rw [List.take_length]
  have h1 : ((vk :: vr).drop vr.length).length = 1 := by simp
  obtain ⟨y, hy⟩ := List.length_eq_one_iff.1 h1
  exact ⟨y, by rw [hy]⟩

set_option maxRecDepth 10000 in
set_option maxHeartbeats 4000000 in
theorem delete6 (p : Nat) (x : Int) (g n c k : Nat) (va vr : List Sv) (vk : Sv) (w : World) (hp : w.cell? ⟨p, 0, none⟩ = some (.int .i64 x)) (hpg : p ≠ g) (hown : w.ownsRow 0 52 3 (.slice (some ⟨g, 0, none⟩) n c) n (flatN (va ++ vk :: vr))) (hx : SvsAt w 0 (va ++ vk :: vr))
    (hva : va.length = k) (hn : n = k + 1 + vr.length) (hn2 : n ≤ 12) (hc2 : c ≤ 9223372036854775807) (ha : ∀ q ∈ va, q.s.id ≠ x) (hk : vk.s.id = x) (hr : ∀ q ∈ vr, q.s.id ≠ x) :
    Calls Try.prog 62 #[.slice (some ⟨g, 0, none⟩) n c, .func (.func 71) #[] #[.pointer (some ⟨p, 0, none⟩)]] w fun e w' =>
      e = .returned (.slice (some ⟨g, 0, none⟩) (k + vr.length) c) ∧ Hid (w'.ownsRow 0 52 3 (.slice (some ⟨g, 0, none⟩) (k + vr.length) c) (k + vr.length) (flatN (va ++ vr))) ∧ Hid (w.grownBy w' (some g)) := by
  have hlen : (va ++ vk :: vr).length = n := by simp; omega
  have HR := RdN.own hown hlen hx.sv
  have hfi : findH ((va ++ vk :: vr).map Sv.s) x = k := by
    have hkl : k < ((va ++ vk :: vr).map Sv.s).length := by simp; omega
    refine findH_at hkl ?_ fun j hj => ?_
    · rw [List.getElem_map]
      subst hva
      simpa using hk
    · rw [List.getElem_map, List.getElem_append_left (by omega)]
      exact ha _ (List.getElem_mem _)
  have HI := Lib.hid (index6 p x (some ⟨g, 0, none⟩) n c _ w HR hp (by omega))
  rw [hfi] at HI
  have Hp := Lib.hid hp
  have Hown := Lib.hid hown
  have Hrr := Lib.hid hr
  have Hva := Lib.hid hva
  have Hn := Lib.hid hn
  have Hpg := Lib.hid hpg
  have hcn : n ≤ c := by
    rcases ownForm hown with ⟨q, _⟩ | ⟨_, _, q, _, _, h, _⟩
    · cases q
    · cases q; exact h
  have hkn : k < n := by omega
  clear hp hown hx hva hn ha hk hr hlen HR hfi hpg
  have hk0 : ((k : Int) == -1) = false := by simp
  go_enter Try.func62, Try.ntmps62
  go_wp2_with fail
  refine HI.out.mono ?_
  rintro e w1 ⟨rfl, hb⟩
  have Ho1 := Lib.hid (show w1.ownsRow 0 52 3 (.slice (some ⟨g, 0, none⟩) n c) n (flatN (midN va vr vk 0)) from by unfold midN; simpa using own_to Hown.out hb.out)
  have Hg1 := Lib.hid (grownBy_below hb.out (some g))
  have Hk1 := Lib.hid (show (k : Int) + 1 = ((k + 1 : Nat) : Int) by omega)
  clear hb HI Hown
  go_wp2_with fail
  go_loopw [5, 6] (fun iv jv wr => ∃ q I : Nat, Hid (I = k + q) ∧ I < n ∧ iv = .int .i64 (I : Int) ∧ jv = .int .i64 ((I : Int) + 1) ∧ Hid (wr.ownsRow 0 52 3 (.slice (some ⟨g, 0, none⟩) n c) n (flatN (midN va vr vk q))) ∧ Hid (w.grownBy wr (some g))) (fun iv _ _ => n - (intOf iv).toNat)
  case atStart => exact ⟨0, k, Nat.add_zero k |>.symm, hkn, rfl, rfl, Ho1, Hg1⟩
  case round =>
    obtain ⟨q, I, HI, hIn, rfl, rfl, Ho, Hg⟩ := hrel
    obtain ⟨J, hJ⟩ : ∃ J : Nat, J = I + 1 := ⟨_, rfl⟩
    have hJe : (I : Int) + 1 = (J : Int) := by omega
    rw [hJe]
    have HJ := Lib.hid hJ
    have Hcell := Lib.hid (Hg.out.cell Hp.out (fun e => Hpg.out (by simpa using e)))
    clear hJe hJ
    by_cases hJn : J < n
    · have hq : q < vr.length := by have := HI.out; have := Hn.out; have := HJ.out; omega
      obtain ⟨y, e1, e2, e3⟩ := mid_next va vr vk q hq
      have hneq := Hrr.out _ (List.getElem_mem hq)
      have E1 := Lib.hid e1
      have E3 := Lib.hid e3
      have hlq : (va ++ vr.take q).length = I := by rw [List.length_append, List.length_take, Hva.out]; have := HI.out; omega
      have Hlq := Lib.hid hlq
      have Ho2 := Ho.out
      rw [e2] at Ho2
      generalize vr[q] = v at hneq E3 Ho2
      obtain ⟨x0, x1, x2, _⟩ := own_at Ho2 (j := J) (by rw [List.length_append, hlq]; exact HJ.out.symm) hJn
      obtain ⟨⟨id, sz, mp⟩, Av, nv, cv⟩ := v
      have x0 : wr.cell? ⟨g, J * 3, none⟩ = some (.int .i64 id) := x0
      have x1 : wr.cell? ⟨g, J * 3 + 1, none⟩ = some (.int .i64 sz) := x1
      have x2 : wr.cell? ⟨g, J * 3 + 2, none⟩ = some (.slice Av nv cv) := x2
      have hneq : ¬ id = x := hneq
      have HN := fun (w8 : World) h8 => Lib.hid (num1_any p x id sz Av nv cv w8 h8)
      rw [decide_eq_false hneq] at HN
      have Hal := alB6 wr (.cells #[.int .i64 id, .int .i64 sz, .slice Av nv cv] 52)
      have Hsx := Lib.hid (SAt.box wr id sz (.slice Av nv cv) 52)
      have hJ0 : (0 : Int) ≤ (J : Int) := by omega
      have hJ1 : (J : Int) < (n : Int) := by omega
      clear e1 e2 e3 hlq hneq Ho2 hq
      go_upto_region 8 with fail
      have Ho8 := Lib.hid (own_to Ho.out Hal.out)
      have Hg8 := Lib.hid (grownBy_trans Hg.out (grownBy_below Hal.out (some g)))
      have Hc8 := Lib.hid ((Hal.out.cell (World.block_lt_of_cell? wr _ Hcell.out)).trans Hcell.out)
      generalize wr.alloc (.cells #[.int .i64 id, .int .i64 sz, .slice Av nv cv] 52) = w8 at Hsx Ho8 Hg8 Hc8 ⊢
      obtain ⟨sb, hsb⟩ : ∃ sb, sb = wr.heap.size := ⟨_, rfl⟩
      rw [← hsb] at Hsx ⊢
      clear hsb x0 x1 x2 Hal
      have s0 := Hsx.out.c0
      have s1 := Hsx.out.c1
      have s2 := Hsx.out.c2
      go_wp2_with fail
      refine (HN w8 Hc8.out).out.mono ?_
      rintro e w9 ⟨rfl, hb9⟩
      have Hs9 := Lib.hid (Hsx.out.to hb9.out)
      have Ho9 := Lib.hid (own_to Ho8.out hb9.out)
      have Hg9 := Lib.hid (grownBy_trans Hg8.out (grownBy_below hb9.out (some g)))
      clear s0 s1 s2 hb9 HN Hcell Hc8 Hsx Ho8 Hg8
      have s0 := Hs9.out.c0
      have s1 := Hs9.out.c1
      have s2 := Hs9.out.c2
      have Ho10 := Ho9.out
      rw [E1.out] at Ho10
      obtain ⟨t0, t1, t2, f2⟩ := own_at Ho10 Hlq.out hIn
      have f0 := World.ownsRow.frozenAt Ho10 (I * 3)
      have f1 := World.ownsRow.frozenAt Ho10 (I * 3 + 1)
      have hI0 : (0 : Int) ≤ (I : Int) := by omega
      have hI1 : (I : Int) < (n : Int) := by omega
      have HP := Lib.hid (own_put3 Ho10 Hlq.out ⟨⟨id, sz, mp⟩, Av, nv, cv⟩)
      clear Ho10
      go_wp2_with fail
      refine ⟨⟨q + 1, J, Lib.hid (by have := HI.out; have := HJ.out; omega), hJn, by congr 1; have := HJ.out; omega, rfl, ?_, ?_⟩, ?_⟩
      · have h := HP.out.1
        rw [E3.out] at h
        exact h
      · exact grownBy_trans Hg9.out HP.out.2
      · have := HJ.out
        simp [intOf]
        omega
    · have hIe : I = k + vr.length := by have := HI.out; have := HJ.out; have := Hn.out; omega
      have hq : q = vr.length := by have := HI.out; omega
      subst hq
      obtain ⟨y, e1⟩ := mid_end va vr vk
      have hlq : (va ++ vr).length = I := by rw [List.length_append, Hva.out, hIe]
      have Hlq := Lib.hid hlq
      have Ho2 := Ho.out
      rw [e1] at Ho2
      obtain ⟨t0, t1, t2, f2⟩ := own_at Ho2 hlq hIn
      have hf : ∀ j, wr.frozen? ⟨g, j, none⟩ = false := fun j => World.ownsRow.frozenAt Ho2 j
      have HP := Lib.hid (own_put3 Ho2 hlq ⟨⟨0, 0, []⟩, none, 0, 0⟩)
      have HIe := Lib.hid hIe
      have hnI : n - I = 1 := by have := HJ.out; omega
      have hcl : ∀ ty, (Builtin.clear_ #[25] ty #[.slice (some ⟨g, I * 3, none⟩) (n - I) (c - I)]).run Try.prog wr = .ok (.tuple #[]) (((wr.setCell ⟨g, I * 3, none⟩ (.int .i64 0)).setCell ⟨g, I * 3 + 1, none⟩ (.int .i64 0)).setCell ⟨g, I * 3 + 2, none⟩ (.slice none 0 0)) := fun ty => by
        rw [hnI]
        exact run_clear1 wr ty g (I * 3) (c - I) (by rw [t0]; rfl) (by rw [t1]; rfl) (by rw [t2]; rfl) hf
      have hI0 : (0 : Int) ≤ (I : Int) := by omega
      have hI1 : (I : Int) ≤ (n : Int) := by omega
      have hI2 : ¬ c = I := by omega
      have hJ1 : ¬ (J : Int) < (n : Int) := by omega
      clear e1 hlq Ho2 hIe hnI t0 t1 t2 f2 hf
      go_wp2_with fail
      go_ret
      refine ⟨by rw [← HIe.out]; rfl, ?_, grownBy_trans Hg.out HP.out.2⟩
      have h := own_cut3 HP.out.1 Hlq.out
      show World.ownsRow _ _ _ _ _ _ _
      rw [← HIe.out]
      exact h
end Go.Proofs.Ytaobdebeglenaaa

namespace Go.Proofs.Ytaobdebeglenaaa
open Go.RowKit

def DrQ (w : World) (g : Hd) (E : Int) (e : Ending) (w' : World) : Prop :=
  ∃ U C O sz Am nm cm As ns cs last seq, e = .returned (.tuple #[hV U C O sz Am nm cm As ns cs last seq, .int .i64 E]) ∧ Hid (HVl w' g U C O sz Am nm As ns last seq) ∧ Hid (ns ≤ cs ∧ cs ≤ 9223372036854775807) ∧ Hid (Below w.heap.size w w')
theorem sns_lt {U C O last : Int} : ∀ {a : Int} {l : List Sn}, snsP U C O last a l → ∀ s ∈ l, a < s.id
  | _, [], _, s, hs => by simp at hs
  | a, t :: r, h, s, hs => by
    obtain ⟨h1, h2, h3, h4⟩ := h
    rcases List.mem_cons.1 hs with rfl | hs
    · exact h1
    · have := sns_lt h4 s hs; omega
theorem sns_ne {U C O last : Int} {s : Sn} {R : List Sn} : ∀ {a : Int} {A : List Sn}, snsP U C O last a (A ++ s :: R) → (∀ q ∈ A, q.id ≠ s.id) ∧ ∀ q ∈ R, q.id ≠ s.id
  | a, [], h => ⟨fun q hq => by simp at hq, fun q hq => by have := sns_lt h.2.2.2 q hq; omega⟩
  | a, t :: A, h => by
    have ih := sns_ne (A := A) h.2.2.2
    refine ⟨fun q hq => ?_, ih.2⟩
    rcases List.mem_cons.1 hq with rfl | hq
    · have := sns_lt h.2.2.2 s (by simp); omega
    · exact ih.1 q hq
set_option maxRecDepth 10000 in
set_option maxHeartbeats 8000000 in
theorem Drop6 (U C O sz : Int) (Am : Option Addr) (nm cm : Nat) (As : Option Addr) (ns cs : Nat) (last seq x : Int) (m : List Int) (ss : List Sn) (w : World) (hm : RdI w w.heap.size Am nm m) (hr : RdN w w.heap.size As ns ss) (hn : nm ≤ 3000) (hs : ns ≤ 12) (hmm : ∀ s ∈ ss, s.map.length ≤ 3000) :
    HF 27 #[hV U C O sz Am nm cm As ns cs last seq, .int .i64 x] w (dropX ⟨U, C, O, sz, m, ss, last, seq⟩ x) (dropE ⟨U, C, O, sz, m, ss, last, seq⟩ x) := by
  have Hm := Lib.hid hm
  have Hr := Lib.hid hr
  have Hmm := Lib.hid hmm
  clear hm hr hmm
  show Calls _ _ _ _ (DrQ w _ _)
  go_enter Try.func27, Try.ntmps27
  go_upto_region 1 with fail
  have Hb := Lib.hid (((Below.refl w.heap.size w).alloc (Nat.le_refl _) (.cells #[.int .i64 U, .int .i64 C, .int .i64 O, .int .i64 sz, .slice Am nm cm, .slice As ns cs, .int .i64 last, .int .i64 seq] 27)).alloc (by simp) (.cells #[.int .i64 0, .int .i64 0, .int .i64 0, .int .i64 0, .slice none 0 0, .slice none 0 0, .int .i64 0, .int .i64 0] 27))
  have Hh := Lib.hid (show ((w.alloc (.cells #[.int .i64 U, .int .i64 C, .int .i64 O, .int .i64 sz, .slice Am nm cm, .slice As ns cs, .int .i64 last, .int .i64 seq] 27)).alloc (.cells #[.int .i64 0, .int .i64 0, .int .i64 0, .int .i64 0, .slice none 0 0, .slice none 0 0, .int .i64 0, .int .i64 0] 27)).heap[w.heap.size]? = some (.cells #[.int .i64 U, .int .i64 C, .int .i64 O, .int .i64 sz, .slice Am nm cm, .slice As ns cs, .int .i64 last, .int .i64 seq] 27 (0, 0)) from by
    rw [Below.heap_alloc _ _ _ (by simp)]; exact heap_alloc_new w _)
  have Hz := Lib.hid (heap_alloc_new (w.alloc (.cells #[.int .i64 U, .int .i64 C, .int .i64 O, .int .i64 sz, .slice Am nm cm, .slice As ns cs, .int .i64 last, .int .i64 seq] 27)) (.cells #[.int .i64 0, .int .i64 0, .int .i64 0, .int .i64 0, .slice none 0 0, .slice none 0 0, .int .i64 0, .int .i64 0] 27))
  generalize (w.alloc (.cells #[.int .i64 U, .int .i64 C, .int .i64 O, .int .i64 sz, .slice Am nm cm, .slice As ns cs, .int .i64 last, .int .i64 seq] 27)).alloc (.cells #[.int .i64 0, .int .i64 0, .int .i64 0, .int .i64 0, .slice none 0 0, .slice none 0 0, .int .i64 0, .int .i64 0] 27) = w1 at Hb Hh Hz ⊢
  replace Hz := Lib.hid (show w1.heap[w.heap.size + 1]? = some (.cells #[.int .i64 0, .int .i64 0, .int .i64 0, .int .i64 0, .slice none 0 0, .slice none 0 0, .int .i64 0, .int .i64 0] 27 (0, 0)) by have h := Hz.out; simpa using h)
  obtain ⟨b, hbe⟩ : ∃ b, b = w.heap.size := ⟨_, rfl⟩
  obtain ⟨z, hze⟩ : ∃ z, z = w.heap.size + 1 := ⟨_, rfl⟩
  have Hbz := Lib.hid (show w.heap.size ≤ b ∧ w.heap.size ≤ z ∧ b < z by omega)
  rw [← hze] at Hz ⊢
  rw [← hbe] at Hh ⊢
  clear hbe hze
  obtain ⟨c0, c1, c2, c3, c4, c5, c6, c7⟩ := heads_of Hh.out
  have HC := Lib.hid (Check6 U C O sz Am nm cm As ns cs last seq m ss w1 ((Hm.out.below Hb.out).more Hb.out.size) ((Hr.out.below Hb.out).more Hb.out.size) hn hs Hmm.out)
  by_cases hM : MayH ⟨U, C, O, sz, m, ss, last, seq⟩
  · have HE0 := Lib.hid (show mayE ⟨U, C, O, sz, m, ss, last, seq⟩ = 0 by unfold mayE; rw [if_pos hM])
    rw [HE0.out] at HC
    have HMay := Lib.hid hM
    have HDE := Lib.hid (show dropE ⟨U, C, O, sz, m, ss, last, seq⟩ x = if findH ss x < 0 then 182 else 0 by
      unfold dropE
      rw [if_pos hM])
    clear HE0 hM
    go_wp2_with fail
    refine HC.out.mono ?_
    rintro e w2 ⟨rfl, hb⟩
    replace Hh := blk_keep Hh hb
    replace Hz := blk_keep Hz hb
    replace Hb := belO6 Hb hb
    clear hb HC c0 c1 c2 c3 c4 c5 c6 c7
    obtain ⟨c0, c1, c2, c3, c4, c5, c6, c7⟩ := heads_of Hh.out
    have HFd := Lib.hid (Find6 U C O sz Am nm cm As ns cs last seq x ss w2 ((Hr.out.below Hb.out).more Hb.out.size) (by omega))
    have Hfr := Lib.hid (findH_range x ss)
    have Hfi := Lib.hid (fun k h => findH_id (x := x) (l := ss) (k := k) h)
    have HDX := Lib.hid (show dropX ⟨U, C, O, sz, m, ss, last, seq⟩ x = if dropE ⟨U, C, O, sz, m, ss, last, seq⟩ x = 0 then dropH ⟨U, C, O, sz, m, ss, last, seq⟩ (findH ss x).toNat else hd0 from rfl)
    obtain ⟨fk, hfk⟩ : ∃ fk, fk = findH ss x := ⟨_, rfl⟩
    rw [← hfk] at HFd HDE Hfr Hfi HDX
    clear hfk
    go_wp2_with fail
    refine HFd.out.mono ?_
    rintro e w3 ⟨rfl, hb⟩
    replace Hh := blk_keep Hh hb
    replace Hz := blk_keep Hz hb
    replace Hb := belO6 Hb hb
    clear hb HFd c0 c1 c2 c3 c4 c5 c6 c7
    by_cases g0 : fk < 0
    · have HE := Lib.hid (show dropE ⟨U, C, O, sz, m, ss, last, seq⟩ x = 182 by rw [HDE.out, if_pos g0])
      have HX := Lib.hid (show dropX ⟨U, C, O, sz, m, ss, last, seq⟩ x = hd0 by rw [HDX.out, if_neg (by rw [HE.out]; decide)])
      obtain ⟨z0, z1, z2, z3, z4, z5, z6, z7⟩ := heads_of Hz.out
      have y0 := free_blk Hz.out 0
      have y1 := free_blk Hz.out 1
      have y2 := free_blk Hz.out 2
      have y3 := free_blk Hz.out 3
      have y4 := free_blk Hz.out 4
      have y5 := free_blk Hz.out 5
      have y6 := free_blk Hz.out 6
      have y7 := free_blk Hz.out 7
      have P8 := Lib.hid (put8_at Hz.out (.int .i64 0) (.int .i64 0) (.int .i64 0) (.int .i64 0) (.slice none 0 0) (.slice none 0 0) (.int .i64 0) (.int .i64 0))
      have B8 := Lib.hid (put8_below Hb.out (by have := Hbz.out; omega) (.int .i64 0) (.int .i64 0) (.int .i64 0) (.int .i64 0) (.slice none 0 0) (.slice none 0 0) (.int .i64 0) (.int .i64 0) (z := z))
      go_wp2_with fail
      clear z0 z1 z2 z3 z4 z5 z6 z7 y0 y1 y2 y3 y4 y5 y6 y7 
      change bodyPost _ _ _ _ _ (put8 w3 z (.int .i64 0) (.int .i64 0) (.int .i64 0) (.int .i64 0) (.slice none 0 0) (.slice none 0 0) (.int .i64 0) (.int .i64 0))
      generalize put8 w3 z (.int .i64 0) (.int .i64 0) (.int .i64 0) (.int .i64 0) (.slice none 0 0) (.slice none 0 0) (.int .i64 0) (.int .i64 0) = wz at P8 B8 ⊢
      obtain ⟨z0, z1, z2, z3, z4, z5, z6, z7⟩ := heads_of P8.out
      exact bodyPost_ret (v := .tuple #[hV0, .int .i64 182]) (by simp [results, Try.results27, go_sem, z0, z1, z2, z3, z4, z5, z6, z7]) rfl ⟨0, 0, 0, 0, none, 0, 0, none, 0, 0, 0, 0, by rw [HE.out], by rw [HX.out]; exact HVl.zero wz, ⟨by omega, by omega⟩, B8⟩
    · have HE := Lib.hid (show dropE ⟨U, C, O, sz, m, ss, last, seq⟩ x = 0 by rw [HDE.out, if_neg g0])
      obtain ⟨k, rfl⟩ : ∃ k : Nat, fk = k := ⟨fk.toNat, by omega⟩
      have HX := Lib.hid (show dropX ⟨U, C, O, sz, m, ss, last, seq⟩ x = dropH ⟨U, C, O, sz, m, ss, last, seq⟩ k by rw [HDX.out, if_pos HE.out, Int.toNat_natCast])
      have Hsh := Lib.hid (dropH_short HMay.out k)
      have g0' : 0 ≤ (k : Int) := by omega
      have hkn : k < ns := by have := Hfr.out.2; have := Hr.out.1; omega
      clear HDX HDE g0
      obtain ⟨c0, c1, c2, c3, c4, c5, c6, c7⟩ := heads_of Hh.out
      have HCl := Lib.hid (clone6 U C O sz Am nm cm As ns cs last seq m ss w3 ((Hm.out.below Hb.out).more Hb.out.size) ((Hr.out.below Hb.out).more Hb.out.size) hn hs Hmm.out)
      go_wp2_with fail
      refine HCl.out.mono ?_
      rintro e w4 ⟨A4, c4', A5, c5', vs, rfl, K, HM, HO, HV, HX2, hb⟩
      have Hs2 := Lib.hid Hb.out.size
      replace Hz := blk_keep Hz hb
      replace Hb := belO6 Hb hb
      replace HM := Lib.hid (HM.out.less Hs2.out)
      replace HO := Lib.hid (own_less HO.out Hs2.out)
      replace HX2 : Hid (SvsAt w4 w.heap.size vs) := fun p hp => (HX2.out p hp).less Hs2.out
      clear hb HCl c0 c1 c2 c3 c4 c5 c6 c7 Hh Hs2
      have Hal := alB6 w4 (.cells #[.int .i64 U, .int .i64 C, .int .i64 O, .int .i64 sz, .slice A4 nm c4', .slice A5 ns c5', .int .i64 last, .int .i64 seq] 27)
      have Hnw := Lib.hid (heap_alloc_new w4 (.cells #[.int .i64 U, .int .i64 C, .int .i64 O, .int .i64 sz, .slice A4 nm c4', .slice A5 ns c5', .int .i64 last, .int .i64 seq] 27))
      obtain ⟨H, hH⟩ : ∃ H, H = w4.heap.size := ⟨_, rfl⟩
      obtain ⟨R, hR⟩ : ∃ R, R = z + H + 1 := ⟨_, rfl⟩
      have hzH : z < H := by rw [hH]; exact lt_of_block Hz.out
      go_upto_region 8 with fail
      rw [← hH] at Hnw ⊢
      have HA : Hid (At6 w (w4.alloc (.cells #[.int .i64 U, .int .i64 C, .int .i64 O, .int .i64 sz, .slice A4 nm c4', .slice A5 ns c5', .int .i64 last, .int .i64 seq] 27)) z R H (.int .i64 U) (.int .i64 C) (.int .i64 O) (.int .i64 sz) (.slice A4 nm c4') (.slice A5 ns c5') (.int .i64 last) (.int .i64 seq)) :=
        ⟨Hnw.out, (Hal.out.block z (lt_of_block Hz.out)).trans Hz.out, Hb.out.trans (Hal.out.mono Hb.out.size), by omega, by omega, by omega, Hbz.out.2.1, by have := Hbz.out; omega, by have := Hbz.out; omega⟩
      replace HM := Lib.hid (HM.out.to Hal.out)
      replace HO := Lib.hid (own_to HO.out Hal.out)
      replace HX2 := Lib.hid (HX2.out.to Hal.out)
      clear Hal Hnw Hb Hz hH hR
      generalize w4.alloc (.cells #[.int .i64 U, .int .i64 C, .int .i64 O, .int .i64 sz, .slice A4 nm c4', .slice A5 ns c5', .int .i64 last, .int .i64 seq] 27) = w4 at HA HM HO HX2 ⊢
      rcases ownForm HO.out with ⟨_, h0⟩ | ⟨g, c', he, _, hgs, _, _⟩
      · omega
      cases he
      have Hgs := Lib.hid hgs
      clear hgs
      -- the snapshots, parted at the one
      have hkv : k < vs.length := by rw [HV.out.2]; exact hkn
      obtain ⟨va, vk, vr0, rfl, hva⟩ : ∃ va vk vr, vs = va ++ vk :: vr ∧ va.length = k := ⟨vs.take k, vs[k], vs.drop (k + 1), by rw [List.getElem_cons_drop, List.take_append_drop], by rw [List.length_take]; omega⟩
      have hvl : (va ++ vk :: vr0).length = ns := HV.out.2
      have hss := HV.out.1
      subst hss
      have HLv := Lib.hid hva
      have hid : vk.s.id = x := by
        obtain ⟨h1, h2⟩ := Hfi.out k rfl
        rw [← h2]
        subst hva
        simp
      have Hne := Lib.hid (show (∀ q ∈ va, q.s.id ≠ x) ∧ ∀ q ∈ vr0, q.s.id ≠ x by
        have h := HMay.out.2.2.2.2.2
        simp only [List.map_append, List.map_cons] at h
        obtain ⟨h1, h2⟩ := sns_ne h
        rw [hid] at h1 h2
        exact ⟨fun q hq => h1 _ (List.mem_map_of_mem hq), fun q hq => h2 _ (List.mem_map_of_mem hq)⟩)
      have HL : Hid (∀ p ∈ va ++ vk :: vr0, p.s.map.length ≤ 3000) := fun p hp => Hmm.out _ (List.mem_map_of_mem hp)
      have Hmn := Lib.hid (show m.length ≤ 3000 by rw [Hm.out.1]; exact hn)
      have Hid6 := Lib.hid hid
      clear hid hva hkv HV Hfi Hfr HMay
      by_cases hk : k + 1 < ns
      · skip
        obtain ⟨vt, vr, rfl⟩ : ∃ a b, vr0 = a :: b := by
          cases vr0 with
          | nil => simp at hvl; have := HLv.out; omega
          | cons a b => exact ⟨a, b, rfl⟩
        have Hvl := Lib.hid (show ns = k + 1 + (vr.length + 1) by simp at hvl; have := HLv.out; omega)
        clear hvl
        have hk0 : (0 : Int) ≤ (k : Int) := by omega
        have hk1 : (k : Int) < (ns : Int) := by omega
        have hk2 : (k : Int) + 1 < (ns : Int) := by omega
        have k5 := (heads_of HA.out.hd).2.2.2.2.2.1
        go_upto_region 11 with fail
        have Hsh2 := Lib.hid (HX2.out vk (by simp))
        have Hnx := Lib.hid (HX2.out vt (by simp))
        have hLk := HL.out vk (by simp)
        have hLt := HL.out vt (by simp)
        have HMg := Lib.hid (PMerge vk.A vt.A vk.n vt.n vk.c vt.c vk.s.map vt.s.map w4.drew Hsh2.out.1 Hnx.out.1 (by have := Hsh2.out.1.1; omega) (by have := Hnx.out.1.1; omega))
        obtain ⟨x0, x1, x2, _⟩ := own_at (us := va) (p := vk) (vr := vt :: vr) HO.out HLv.out (by omega)
        obtain ⟨_, _, n2, f2⟩ := own_at (us := va ++ [vk]) (p := vt) (vr := vr) (j := k + 1) (by have h := HO.out; rwa [List.append_cons] at h) (by rw [List.length_append, HLv.out]; rfl) (by have := Hvl.out; omega)
        have Hn2 := Lib.hid (And.intro n2 f2)
        have H4s := Lib.hid HA.out.be.size
        go_region_with (go_at_call 61; refine HMg.out.mono ?_; rintro e w5 ⟨A9, n9, c9, rfl, r9, ⟨q9, nw9⟩, b9⟩; have HB9 : Hid (Below w4.heap.size w4 w5) := undrew1 b9; have HM9 : Hid (MapAt w5 w.heap.size A9 n9 (mergeO vk.s.map vt.s.map)) := ⟨r9, q9, nw9.less H4s.out⟩; have n3 := (HB9.out.cell (World.block_lt_of_cell? w4 _ Hn2.out.1)).trans Hn2.out.1; have f3 := (HB9.out.frozen (World.block_lt_of_cell? w4 _ Hn2.out.1)).trans Hn2.out.2; clear r9 q9 nw9 b9)
        all_goals
          have HOo := Lib.hid (own_to HO.out HB9.out)
          obtain ⟨vt2, hvt2⟩ : ∃ q : Sv, q = ⟨{ vt.s with map := mergeO vk.s.map vt.s.map }, A9, n9, c9⟩ := ⟨_, rfl⟩
          have Hp := Lib.hid (own_put (us := va ++ [vk]) (p := vt) (vr := vr) (j := k + 1) (by have h := HOo.out; rwa [List.append_cons] at h) (by rw [List.length_append, HLv.out]; rfl) A9 n9 c9 (mergeO vk.s.map vt.s.map))
          rw [← hvt2, ← List.append_cons] at Hp
          have Hvt2 := Lib.hid (show vt2.s = { vt.s with map := mergeO vk.s.map vt.s.map } by rw [hvt2])
          have HM9b : Hid (MapAt w5 w.heap.size vt2.A vt2.n vt2.s.map) := by rw [hvt2]; exact HM9
          have Hi2 := Lib.hid (show vt2.s.id ≠ x by rw [hvt2]; exact Hne.out.2 vt (by simp))
          have HX5 := Lib.hid ((HX2.out.to HB9.out).row HOo.out (by decide) Hp.out.2)
          have HM6 := Lib.hid ((HM.out.to HB9.out).row HOo.out (by decide) Hp.out.2)
          have HA6 := Lib.hid ((HA.out.to HB9.out).row HOo.out (Nat.le_refl _) (by decide) Hp.out.2)
          have HM9c := Lib.hid (HM9b.out.row HOo.out (by decide) Hp.out.2)
          have HO6 := Lib.hid Hp.out.1
          clear n2 f2 n3 f3 k5 x0 x1 x2 HMg Hn2 H4s hvt2 HM9 HM9b HOo Hp Hsh2 Hnx
          generalize w5.setCell ⟨g, (k + 1) * 3 + 2, none⟩ (.slice A9 n9 c9) = w6 at HX5 HM6 HA6 HM9c HO6 ⊢
          have HX6 : Hid (SvsAt w6 w.heap.size (va ++ vk :: vt2 :: vr)) := fun q hq => by
            rcases List.mem_append.1 hq with h | h
            · exact HX5.out q (by simp [h])
            · rcases List.mem_cons.1 h with rfl | h
              · exact HX5.out _ (by simp)
              · rcases List.mem_cons.1 h with rfl | h
                · exact HM9c.out
                · exact HX5.out q (by simp [h])
          have Hne2 := Lib.hid (show (∀ q ∈ va, q.s.id ≠ x) ∧ ∀ q ∈ vt2 :: vr, q.s.id ≠ x from ⟨Hne.out.1, fun q hq => by
            rcases List.mem_cons.1 hq with rfl | hq
            · exact Hi2.out
            · exact Hne.out.2 q (by simp [hq])⟩)
          clear HX5 HM9c Hi2
          have He5 := Lib.hid (show dropH ⟨U, C, O, sz, m, (va ++ vk :: vt :: vr).map Sv.s, last, seq⟩ k = ⟨U, C, O, sz, m, (va ++ vt2 :: vr).map Sv.s, last, seq⟩ by
            have h := drop_mid U C O sz last seq m (va.map Sv.s) (vr.map Sv.s) vk.s vt.s
            rw [List.length_map, HLv.out] at h
            rw [List.map_append, List.map_append, List.map_cons, List.map_cons, List.map_cons, h, Hvt2.out])
          obtain ⟨N, hN⟩ : ∃ N, N = k + (vt2 :: vr : List Sv).length := ⟨_, rfl⟩
          have HN := Lib.hid hN
          have HD : Hid (∀ (p : Nat) (w7 : World), Hid (Below w6.heap.size w6 w7) → w7.cell? ⟨p, 0, none⟩ = some (.int .i64 x) → Hid (p ≠ g) → Calls Try.prog 62 #[.slice (some ⟨g, 0, none⟩) ns c5', .func (.func 71) #[] #[.pointer (some ⟨p, 0, none⟩)]] w7 fun e w' =>
              e = .returned (.slice (some ⟨g, 0, none⟩) N c5') ∧ Hid (w'.ownsRow 0 52 3 (.slice (some ⟨g, 0, none⟩) N c5') N (flatN (va ++ vt2 :: vr))) ∧ Hid (w7.grownBy w' (some g))) := fun p w7 hb hc hpg => by
            rw [hN]
            exact delete6 p x g ns c5' k va (vt2 :: vr) vk w7 hc hpg.out (own_less (own_to HO6.out hb.out) (Nat.zero_le _)) (fun q hq => ((HX6.out.to hb.out) q hq).less (Nat.zero_le _)) HLv.out (by have := Hvl.out; simp; omega) hs K.out.2 Hne2.out.1 Hid6.out Hne2.out.2
          have Hg6 := Lib.hid (show g < w6.heap.size from (HO6.out.lt g rfl).2)
          clear hN
          have k5 := (heads_of HA6.out.hd).2.2.2.2.2.1
          go_wp2_with fail
          go_region_with (first
            | (go_at_call 39; refine (numd_any x _).mono ?_; rintro e w7 ⟨p, rfl, hp, hc, hb⟩; have HB7 : Hid (Below w6.heap.size w6 w7) := undrew6 hb; have k5b := (HB7.out.cell (World.block_lt_of_cell? w6 _ k5)).trans k5; have Hc := Lib.hid hc; have Hpg := Lib.hid (show p ≠ g by have := Hg6.out; have h : w6.heap.size ≤ p := hp; omega); clear hp hc hb)
            | (go_at_call 62; refine (HD.out p _ HB7 (by exact Hc.out) Hpg).mono ?_; rintro e w8 ⟨rfl, HO8, HG8⟩; have HO7 := Lib.hid (own_to HO6.out HB7.out); have HA8 := Lib.hid ((HA6.out.to HB7.out).row HO7.out (Nat.le_refl _) (by decide) HG8.out); have HM8 := Lib.hid ((HM6.out.to HB7.out).row HO7.out (by decide) HG8.out); have HX8 := Lib.hid ((HX6.out.to HB7.out).row HO7.out (by decide) HG8.out); have k5c := (heads_of HA8.out.hd).2.2.2.2.2.1; have y5c := free_blk HA8.out.hd 5; clear HO7 HG8))
          all_goals
            clear k5 k5b k5c y5c HD Hg6 HB7 Hc Hpg
            have HO9 := Lib.hid (own_setb HO8.out HA8.out.hd (by decide) 5 (.slice (some ⟨g, 0, none⟩) N c5'))
            have HM9 := Lib.hid (HM8.out.gb (grown_set w8 H 5 (.slice (some ⟨g, 0, none⟩) N c5')) HA8.out.hd (by decide))
            have HX9 := Lib.hid (HX8.out.gb (grown_set w8 H 5 (.slice (some ⟨g, 0, none⟩) N c5')) HA8.out.hd (by decide))
            have HA9 := Lib.hid (HA8.out.set5 (.slice (some ⟨g, 0, none⟩) N c5'))
            clear HO8 HM8 HX8 HA8
            generalize w8.setCell ⟨H, 5, none⟩ (.slice (some ⟨g, 0, none⟩) N c5') = w9 at HO9 HM9 HX9 HA9 ⊢
            obtain ⟨c0, c1, c2, c3, c4, c5, c6, c7⟩ := heads_of HA9.out.hd
            obtain ⟨z0, z1, z2, z3, z4, z5, z6, z7⟩ := heads_of HA9.out.rs
            have y0 := free_blk HA9.out.rs 0
            have y1 := free_blk HA9.out.rs 1
            have y2 := free_blk HA9.out.rs 2
            have y3 := free_blk HA9.out.rs 3
            have y4 := free_blk HA9.out.rs 4
            have y5 := free_blk HA9.out.rs 5
            have y6 := free_blk HA9.out.rs 6
            have y7 := free_blk HA9.out.rs 7
            have P8 := Lib.hid (put8_at HA9.out.rs (.int .i64 U) (.int .i64 C) (.int .i64 O) (.int .i64 sz) (.slice A4 nm c4') (.slice (some ⟨g, 0, none⟩) N c5') (.int .i64 last) (.int .i64 seq))
            have G8 := Lib.hid (put8_grown w9 z (.int .i64 U) (.int .i64 C) (.int .i64 O) (.int .i64 sz) (.slice A4 nm c4') (.slice (some ⟨g, 0, none⟩) N c5') (.int .i64 last) (.int .i64 seq))
            have B8 := Lib.hid (put8_below HA9.out.be HA9.out.z0 (.int .i64 U) (.int .i64 C) (.int .i64 O) (.int .i64 sz) (.slice A4 nm c4') (.slice (some ⟨g, 0, none⟩) N c5') (.int .i64 last) (.int .i64 seq) (z := z))
            have M8 := Lib.hid (HM9.out.gb G8.out HA9.out.rs (by decide))
            have X8 := Lib.hid (HX9.out.gb G8.out HA9.out.rs (by decide))
            have S8 := Lib.hid (own_gb HO9.out G8.out HA9.out.rs (by decide))
            go_wp2_with fail
            clear c0 c1 c2 c3 c4 c5 c6 c7 z0 z1 z2 z3 z4 z5 z6 z7 y0 y1 y2 y3 y4 y5 y6 y7 G8 HO9 HM9 HX9 HA9
            change bodyPost _ _ _ _ _ (put8 w9 z (.int .i64 U) (.int .i64 C) (.int .i64 O) (.int .i64 sz) (.slice A4 nm c4') (.slice (some ⟨g, 0, none⟩) N c5') (.int .i64 last) (.int .i64 seq))
            generalize put8 w9 z (.int .i64 U) (.int .i64 C) (.int .i64 O) (.int .i64 sz) (.slice A4 nm c4') (.slice (some ⟨g, 0, none⟩) N c5') (.int .i64 last) (.int .i64 seq) = wz at P8 B8 M8 X8 S8 ⊢
            obtain ⟨z0, z1, z2, z3, z4, z5, z6, z7⟩ := heads_of P8.out
            refine bodyPost_ret (v := .tuple #[hV U C O sz A4 nm c4' (some ⟨g, 0, none⟩) N c5' last seq, .int .i64 0]) (by simp [results, Try.results27, go_sem, z0, z1, z2, z3, z4, z5, z6, z7]) rfl ⟨U, C, O, sz, A4, nm, c4', some ⟨g, 0, none⟩, N, c5', last, seq, by rw [HE.out], ?_, ⟨by have := K.out.1; have := HN.out; have := Hvl.out; simp at *; omega, K.out.2⟩, B8⟩
            have hsh := Hsh.out
            rw [He5.out] at hsh
            rw [HX.out, He5.out]
            have h1 := M8.out.1.1
            have h2 := RdN.own S8.out (by rw [HN.out, List.length_append, HLv.out]) (fun q hq => X8.out.sv q (by
              rcases List.mem_append.1 hq with h | h
              · simp [h]
              · first | (simp at h; done) | (simp at h; simp [h])))
            refine ⟨rfl, M8.out.1, ?_, h2, ?_, hsh.2.2⟩
            · have h3 := hsh.1
              show nm ≤ 3000
              have h4 : (m).length ≤ 3000 := h3
              omega
            · have h3 := hsh.2.1
              have h4 : ((va ++ vt2 :: vr).map Sv.s).length ≤ 12 := h3
              have h5 := h2.1
              omega
      · skip
        obtain rfl : vr0 = [] := by
          cases vr0 with
          | nil => rfl
          | cons a b => simp at hvl; have := HLv.out; omega
        have Hvl := Lib.hid (show ns = k + 1 by simp at hvl; have := HLv.out; omega)
        clear hvl
        have hk0 : (0 : Int) ≤ (k : Int) := by omega
        have hk1 : (k : Int) < (ns : Int) := by omega
        have hk2 : ¬ (k : Int) + 1 < (ns : Int) := by omega
        have k5 := (heads_of HA.out.hd).2.2.2.2.2.1
        go_upto_region 11 with fail
        have Hsh2 := Lib.hid (HX2.out vk (by simp))
        have Hnx := Lib.hid (HM.out)
        have hLk := HL.out vk (by simp)
        have HMg := Lib.hid (PMerge vk.A A4 vk.n nm vk.c c4' vk.s.map m w4.drew Hsh2.out.1 Hnx.out.1 (by have := Hsh2.out.1.1; omega) (by have := Hnx.out.1.1; omega))
        obtain ⟨x0, x1, x2, _⟩ := own_at (us := va) (p := vk) (vr := []) HO.out HLv.out (by omega)
        have n2 := (heads_of HA.out.hd).2.2.2.2.1
        have f2 := free_blk HA.out.hd 4
        have Hn2 := Lib.hid (And.intro n2 f2)
        have H4s := Lib.hid HA.out.be.size
        go_region_with (go_at_call 61; refine HMg.out.mono ?_; rintro e w5 ⟨A9, n9, c9, rfl, r9, ⟨q9, nw9⟩, b9⟩; have HB9 : Hid (Below w4.heap.size w4 w5) := undrew1 b9; have HM9 : Hid (MapAt w5 w.heap.size A9 n9 (mergeO vk.s.map m)) := ⟨r9, q9, nw9.less H4s.out⟩; have n3 := (HB9.out.cell (World.block_lt_of_cell? w4 _ Hn2.out.1)).trans Hn2.out.1; have f3 := (HB9.out.frozen (World.block_lt_of_cell? w4 _ Hn2.out.1)).trans Hn2.out.2; clear r9 q9 nw9 b9)
        all_goals
          have HA5 := Lib.hid (HA.out.to HB9.out)
          have HG5 := Lib.hid (grown_set w5 H 4 (.slice A9 n9 c9))
          have HX6 := Lib.hid ((HX2.out.to HB9.out).gb HG5.out HA5.out.hd (by decide))
          have HM6 := Lib.hid (HM9.out.gb HG5.out HA5.out.hd (by decide))
          have HO6 := Lib.hid (own_setb (own_to HO.out HB9.out) HA5.out.hd (by decide) 4 (.slice A9 n9 c9))
          have HA6 := Lib.hid (HA5.out.set4 (.slice A9 n9 c9))
          clear n2 f2 n3 f3 k5 x0 x1 x2 HMg Hn2 H4s HA5 HG5 HM9 Hsh2 Hnx
          generalize w5.setCell ⟨H, 4, none⟩ (.slice A9 n9 c9) = w6 at HX6 HM6 HA6 HO6 ⊢
          have Hne2 := Hne
          have He5 := Lib.hid (show dropH ⟨U, C, O, sz, m, (va ++ [vk]).map Sv.s, last, seq⟩ k = ⟨U, C, O, sz, mergeO vk.s.map m, (va ++ []).map Sv.s, last, seq⟩ by
            have h := drop_last U C O sz last seq m (va.map Sv.s) vk.s
            rw [List.length_map, HLv.out] at h
            rw [List.append_nil, List.map_append, List.map_cons, List.map_nil, h])
          obtain ⟨N, hN⟩ : ∃ N, N = k + ([] : List Sv).length := ⟨_, rfl⟩
          have HN := Lib.hid hN
          have HD : Hid (∀ (p : Nat) (w7 : World), Hid (Below w6.heap.size w6 w7) → w7.cell? ⟨p, 0, none⟩ = some (.int .i64 x) → Hid (p ≠ g) → Calls Try.prog 62 #[.slice (some ⟨g, 0, none⟩) ns c5', .func (.func 71) #[] #[.pointer (some ⟨p, 0, none⟩)]] w7 fun e w' =>
              e = .returned (.slice (some ⟨g, 0, none⟩) N c5') ∧ Hid (w'.ownsRow 0 52 3 (.slice (some ⟨g, 0, none⟩) N c5') N (flatN (va ++ []))) ∧ Hid (w7.grownBy w' (some g))) := fun p w7 hb hc hpg => by
            rw [hN]
            exact delete6 p x g ns c5' k va ([]) vk w7 hc hpg.out (own_less (own_to HO6.out hb.out) (Nat.zero_le _)) (fun q hq => ((HX6.out.to hb.out) q hq).less (Nat.zero_le _)) HLv.out (by have := Hvl.out; simp; omega) hs K.out.2 Hne2.out.1 Hid6.out Hne2.out.2
          have Hg6 := Lib.hid (show g < w6.heap.size from (HO6.out.lt g rfl).2)
          clear hN
          have k5 := (heads_of HA6.out.hd).2.2.2.2.2.1
          go_wp2_with fail
          go_region_with (first
            | (go_at_call 39; refine (numd_any x _).mono ?_; rintro e w7 ⟨p, rfl, hp, hc, hb⟩; have HB7 : Hid (Below w6.heap.size w6 w7) := undrew6 hb; have k5b := (HB7.out.cell (World.block_lt_of_cell? w6 _ k5)).trans k5; have Hc := Lib.hid hc; have Hpg := Lib.hid (show p ≠ g by have := Hg6.out; have h : w6.heap.size ≤ p := hp; omega); clear hp hc hb)
            | (go_at_call 62; refine (HD.out p _ HB7 (by exact Hc.out) Hpg).mono ?_; rintro e w8 ⟨rfl, HO8, HG8⟩; have HO7 := Lib.hid (own_to HO6.out HB7.out); have HA8 := Lib.hid ((HA6.out.to HB7.out).row HO7.out (Nat.le_refl _) (by decide) HG8.out); have HM8 := Lib.hid ((HM6.out.to HB7.out).row HO7.out (by decide) HG8.out); have HX8 := Lib.hid ((HX6.out.to HB7.out).row HO7.out (by decide) HG8.out); have k5c := (heads_of HA8.out.hd).2.2.2.2.2.1; have y5c := free_blk HA8.out.hd 5; clear HO7 HG8))
          all_goals
            clear k5 k5b k5c y5c HD Hg6 HB7 Hc Hpg
            have HO9 := Lib.hid (own_setb HO8.out HA8.out.hd (by decide) 5 (.slice (some ⟨g, 0, none⟩) N c5'))
            have HM9 := Lib.hid (HM8.out.gb (grown_set w8 H 5 (.slice (some ⟨g, 0, none⟩) N c5')) HA8.out.hd (by decide))
            have HX9 := Lib.hid (HX8.out.gb (grown_set w8 H 5 (.slice (some ⟨g, 0, none⟩) N c5')) HA8.out.hd (by decide))
            have HA9 := Lib.hid (HA8.out.set5 (.slice (some ⟨g, 0, none⟩) N c5'))
            clear HO8 HM8 HX8 HA8
            generalize w8.setCell ⟨H, 5, none⟩ (.slice (some ⟨g, 0, none⟩) N c5') = w9 at HO9 HM9 HX9 HA9 ⊢
            obtain ⟨c0, c1, c2, c3, c4, c5, c6, c7⟩ := heads_of HA9.out.hd
            obtain ⟨z0, z1, z2, z3, z4, z5, z6, z7⟩ := heads_of HA9.out.rs
            have y0 := free_blk HA9.out.rs 0
            have y1 := free_blk HA9.out.rs 1
            have y2 := free_blk HA9.out.rs 2
            have y3 := free_blk HA9.out.rs 3
            have y4 := free_blk HA9.out.rs 4
            have y5 := free_blk HA9.out.rs 5
            have y6 := free_blk HA9.out.rs 6
            have y7 := free_blk HA9.out.rs 7
            have P8 := Lib.hid (put8_at HA9.out.rs (.int .i64 U) (.int .i64 C) (.int .i64 O) (.int .i64 sz) (.slice A9 n9 c9) (.slice (some ⟨g, 0, none⟩) N c5') (.int .i64 last) (.int .i64 seq))
            have G8 := Lib.hid (put8_grown w9 z (.int .i64 U) (.int .i64 C) (.int .i64 O) (.int .i64 sz) (.slice A9 n9 c9) (.slice (some ⟨g, 0, none⟩) N c5') (.int .i64 last) (.int .i64 seq))
            have B8 := Lib.hid (put8_below HA9.out.be HA9.out.z0 (.int .i64 U) (.int .i64 C) (.int .i64 O) (.int .i64 sz) (.slice A9 n9 c9) (.slice (some ⟨g, 0, none⟩) N c5') (.int .i64 last) (.int .i64 seq) (z := z))
            have M8 := Lib.hid (HM9.out.gb G8.out HA9.out.rs (by decide))
            have X8 := Lib.hid (HX9.out.gb G8.out HA9.out.rs (by decide))
            have S8 := Lib.hid (own_gb HO9.out G8.out HA9.out.rs (by decide))
            go_wp2_with fail
            clear c0 c1 c2 c3 c4 c5 c6 c7 z0 z1 z2 z3 z4 z5 z6 z7 y0 y1 y2 y3 y4 y5 y6 y7 G8 HO9 HM9 HX9 HA9
            change bodyPost _ _ _ _ _ (put8 w9 z (.int .i64 U) (.int .i64 C) (.int .i64 O) (.int .i64 sz) (.slice A9 n9 c9) (.slice (some ⟨g, 0, none⟩) N c5') (.int .i64 last) (.int .i64 seq))
            generalize put8 w9 z (.int .i64 U) (.int .i64 C) (.int .i64 O) (.int .i64 sz) (.slice A9 n9 c9) (.slice (some ⟨g, 0, none⟩) N c5') (.int .i64 last) (.int .i64 seq) = wz at P8 B8 M8 X8 S8 ⊢
            obtain ⟨z0, z1, z2, z3, z4, z5, z6, z7⟩ := heads_of P8.out
            refine bodyPost_ret (v := .tuple #[hV U C O sz A9 n9 c9 (some ⟨g, 0, none⟩) N c5' last seq, .int .i64 0]) (by simp [results, Try.results27, go_sem, z0, z1, z2, z3, z4, z5, z6, z7]) rfl ⟨U, C, O, sz, A9, n9, c9, some ⟨g, 0, none⟩, N, c5', last, seq, by rw [HE.out], ?_, ⟨by have := K.out.1; have := HN.out; have := Hvl.out; simp at *; omega, K.out.2⟩, B8⟩
            have hsh := Hsh.out
            rw [He5.out] at hsh
            rw [HX.out, He5.out]
            have h1 := M8.out.1.1
            have h2 := RdN.own S8.out (by rw [HN.out, List.length_append, HLv.out]) (fun q hq => X8.out.sv q (by
              rcases List.mem_append.1 hq with h | h
              · simp [h]
              · first | (simp at h; done) | (simp at h; simp [h])))
            refine ⟨rfl, M8.out.1, ?_, h2, ?_, hsh.2.2⟩
            · have h3 := hsh.1
              show n9 ≤ 3000
              have h4 : (mergeO vk.s.map m).length ≤ 3000 := h3
              omega
            · have h3 := hsh.2.1
              have h4 : ((va ++ []).map Sv.s).length ≤ 12 := h3
              have h5 := h2.1
              omega
  · have HE0 := Lib.hid (show mayE ⟨U, C, O, sz, m, ss, last, seq⟩ = 60 by unfold mayE; rw [if_neg hM])
    have HE := Lib.hid (show dropE ⟨U, C, O, sz, m, ss, last, seq⟩ x = 60 by unfold dropE; rw [if_neg hM])
    have HX := Lib.hid (show dropX ⟨U, C, O, sz, m, ss, last, seq⟩ x = hd0 by unfold dropX; rw [if_neg (by rw [HE.out]; decide)])
    rw [HE0.out] at HC
    clear HE0 hM
    go_wp2_with fail
    refine HC.out.mono ?_
    rintro e w2 ⟨rfl, hb⟩
    replace Hz := blk_keep Hz hb
    replace Hb := belO6 Hb hb
    clear hb HC c0 c1 c2 c3 c4 c5 c6 c7 Hh
    obtain ⟨z0, z1, z2, z3, z4, z5, z6, z7⟩ := heads_of Hz.out
    have y0 := free_blk Hz.out 0
    have y1 := free_blk Hz.out 1
    have y2 := free_blk Hz.out 2
    have y3 := free_blk Hz.out 3
    have y4 := free_blk Hz.out 4
    have y5 := free_blk Hz.out 5
    have y6 := free_blk Hz.out 6
    have y7 := free_blk Hz.out 7
    have P8 := Lib.hid (put8_at Hz.out (.int .i64 0) (.int .i64 0) (.int .i64 0) (.int .i64 0) (.slice none 0 0) (.slice none 0 0) (.int .i64 0) (.int .i64 0))
    have B8 := Lib.hid (put8_below Hb.out (by have := Hbz.out; omega) (.int .i64 0) (.int .i64 0) (.int .i64 0) (.int .i64 0) (.slice none 0 0) (.slice none 0 0) (.int .i64 0) (.int .i64 0) (z := z))
    go_wp2_with fail
    clear z0 z1 z2 z3 z4 z5 z6 z7 y0 y1 y2 y3 y4 y5 y6 y7 
    change bodyPost _ _ _ _ _ (put8 w2 z (.int .i64 0) (.int .i64 0) (.int .i64 0) (.int .i64 0) (.slice none 0 0) (.slice none 0 0) (.int .i64 0) (.int .i64 0))
    generalize put8 w2 z (.int .i64 0) (.int .i64 0) (.int .i64 0) (.int .i64 0) (.slice none 0 0) (.slice none 0 0) (.int .i64 0) (.int .i64 0) = wz at P8 B8 ⊢
    obtain ⟨z0, z1, z2, z3, z4, z5, z6, z7⟩ := heads_of P8.out
    exact bodyPost_ret (v := .tuple #[hV0, .int .i64 60]) (by simp [results, Try.results27, go_sem, z0, z1, z2, z3, z4, z5, z6, z7]) rfl ⟨0, 0, 0, 0, none, 0, 0, none, 0, 0, 0, 0, by rw [HE.out], by rw [HX.out]; exact HVl.zero wz, ⟨by omega, by omega⟩, B8⟩
end Go.Proofs.Ytaobdebeglenaaa
