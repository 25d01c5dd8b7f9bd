/- copy of slices whose elements have k cells, onto a row of the call's own; append of a make: laws for the walk. Package object: slices.Insert of one key. Package object: slices.Insert of one key in the middle, no room: a new row. Package object: slices.Insert of one key in the middle, in place. Package object: slices.Insert of one key, all roads; slices.Delete of one key. -/
import Derived.Test.YtmigapjkicddiaaDoorMj
import Derived.Laws.CopyOwn
import Derived.Lib.AppendZerosOnto
import Derived.Lib.Overlaps
import Derived.Deep.RegionLaw
import Derived.Deep.DeepCutAuto

namespace Go.Proofs.YtmigapjkicddiaaDoor
open Go.RowKit

theorem run_copy_row8 {P : Program} (w : World) (dT sT ty elem : TypeId) (g o dLen dCap : Nat) (a : Addr) (sLen sCap k m : Nat) (cur : Array Value) (t : TypeId) (cs : List Value)
    (hu : P.underlying dT = some (.slice elem)) (hs : (P.info? elem).map (·.size) = some k)
    (hg : w.heap[g]? = some (.cells cur t (0, 0))) (hm : m = Nat.min sLen dLen) (hn : cs.length = m * k)
    (hsrc : ∀ j v, cs[j]? = some v → w.cell? (a.add j) = some v) (hfit : o + cs.length ≤ cur.size) (h1 : ∀ v ∈ cs, v.oneCell' = true) :
    (Builtin.copy_ #[dT, sT] ty #[.slice (some ⟨g, o, none⟩) dLen dCap, .slice (some a) sLen sCap]).run P w =
      .ok (goInt m) (w.setRow g (cur.toList.take o ++ cs ++ cur.toList.drop (o + cs.length)).toArray) := by
  have hl := run_loadCells_list (P := P) w a cs hsrc
  have hst := run_storeCells_at P g o t cs 0 cur w hg (by simpa using hfit) h1
  cases hq : P.info? elem with
  | none => simp [hq] at hs
  | some i =>
    have hi : i.size = k := by simpa [hq] using hs
    simp [Builtin.copy_, run_underlying hu, Builtin.lenOf, Builtin.firstCells, sizeOf, typeInfo, hq, hi, ← hm, ← hn, hl, hst]
theorem wpList_copy_splice8 {P : Program} {w : World} {ops : Array Oper} {rest : List Oper} {o : Oper} {a : Act} {Q : Exit → Act → World → Prop} (hgd : o.guard = none) (d s : Operand) (dT sT : TypeId)
    (ho : o.op = .call { callee := .builtin .copy, args := #[d, s], argTypes := #[dT, sT] }) (elem : TypeId) (k m : Nat) (hu : P.underlying dT = some (.slice elem)) (hsz : (P.info? elem).map (·.size) = some k)
    (g off : Nat) (ad : Addr) (dLen dCap sLen sCap : Nat) (hd : a.eval d = .slice (some ⟨g, off, none⟩) dLen dCap) (hs : a.eval s = .slice (some ad) sLen sCap)
    (cur : List Value) (t : TypeId) (hg : w.heap[g]? = some (.cells cur.toArray t (0, 0))) (cs : List Value) (hm : m = Nat.min sLen dLen) (hn : cs.length = m * k)
    (hsrc : ∀ j v, cs[j]? = some v → w.cell? (ad.add j) = some v)
    (hfit : off + cs.length ≤ cur.length) (h1 : ∀ v ∈ cs, v.oneCell' = true)
    (h : ∀ w', Hid (w'.heap[g]? = some (.cells (splice cur off cs).toArray t (0, 0))) → Hid (w.grownBy w' (some g)) → wpList P ops Q rest (a.put o.dst (goInt m)) w') :
    wpList P ops Q (o :: rest) a w := by
  refine wpList_plain hgd fun K hK => ?_
  have hrun := run_copy_row8 (P := P) w dT sT o.type elem g off dLen dCap ad sLen sCap k m cur.toArray t cs hu hsz hg hm hn hsrc (by simpa using hfit) h1
  unfold Oper.wp
  simp [execOp, ho, resolve, invoke, builtin, hd, hs, hrun, Result.andThen]
  exact hK _ _ (h _ (show _ = _ by simpa [splice] using setRow_heap w g _ _ t _ hg) ⟨rfl, rfl, rfl, by simp [World.setRow], fun q _ hq => setRow_other w g q _ (fun e => hq (by rw [e]))⟩)
theorem step_copy_splice8 {P : Program} {ops : Array Oper} {o : Oper} {a : Act} {w : World} {K : Act → World → Prop} {Q : Exit → Act → World → Prop} {E : Prop} (hgd : o.guard = none) (d s : Operand) (dT sT : TypeId)
    (ho : o.op = .call { callee := .builtin .copy, args := #[d, s], argTypes := #[dT, sT] }) (elem : TypeId) (k m : Nat) (hu : P.underlying dT = some (.slice elem)) (hsz : (P.info? elem).map (·.size) = some k)
    (g off : Nat) (ad : Addr) (dLen dCap sLen sCap : Nat) (hd : a.eval d = .slice (some ⟨g, off, none⟩) dLen dCap) (hs : a.eval s = .slice (some ad) sLen sCap)
    (cur : List Value) (t : TypeId) (hg : w.heap[g]? = some (.cells cur.toArray t (0, 0))) (cs : List Value) (hm : m = Nat.min sLen dLen) (hn : cs.length = m * k)
    (hsrc : ∀ j v, cs[j]? = some v → w.cell? (ad.add j) = some v)
    (hfit : off + cs.length ≤ cur.length) (h1 : ∀ v ∈ cs, v.oneCell' = true)
    (h : ∀ w', Hid (w'.heap[g]? = some (.cells (splice cur off cs).toArray t (0, 0))) → Hid (w.grownBy w' (some g)) → K (a.put o.dst (goInt m)) w') :
    if Region.wanted o (yielded ops a.tmps) = true then Oper.wp P o a w K Q else E := by
  have hw : Region.wanted o (yielded ops a.tmps) = true := by simp [Region.wanted, hgd]
  rw [if_pos hw]
  have hrun := run_copy_row8 (P := P) w dT sT o.type elem g off dLen dCap ad sLen sCap k m cur.toArray t cs hu hsz hg hm hn hsrc (by simpa using hfit) h1
  unfold Oper.wp
  simp [execOp, ho, resolve, invoke, builtin, hd, hs, hrun, Result.andThen]
  exact h _ (show _ = _ by simpa [splice] using setRow_heap w g _ _ t _ hg) ⟨rfl, rfl, rfl, by simp [World.setRow], fun q _ hq => setRow_other w g q _ (fun e => hq (by rw [e]))⟩
theorem wpList_append_run8 {P : Program} (w : World) {ops : Array Oper} {rest : List Oper} {o : Oper} {a : Act} {Q : Exit → Act → World → Prop} (hgd : o.guard = none) (s x : Operand) (t tn : TypeId)
    (ho : o.op = .call { callee := .builtin .append, args := #[s, x], argTypes := #[t, tn] }) (vs vx : Value) (hs : a.eval s = vs) (hx : a.eval x = vx)
    (v' : Value) (w' : World) (hr : (Builtin.append_ #[t, tn] o.type #[vs, vx]).run P w = .ok v' w') (h : ∀ w1, Hid (w1 = w') → wpList P ops Q rest (a.put o.dst v') w1) : wpList P ops Q (o :: rest) a w :=
  Lib.wpList_append_run w hgd s x t tn ho vs vx hs hx v' w' hr (h w' rfl)
theorem grown_trans8 {w w' w'' : World} {r : Option Nat} (h : w.grownBy w' r) (h' : w'.grownBy w'' r) : w.grownBy w'' r :=
  ⟨h'.os.trans h.os, h'.tape.trans h.tape, h'.output.trans h.output, Nat.le_trans h.size h'.size, fun k hk hr => (h'.block k (Nat.lt_of_lt_of_le hk h.size) hr).trans (h.block k hk hr)⟩
theorem grown_drew8 {w w' : World} {r : Option Nat} (h : w.drew.grownBy w' r) : w.grownBy w' r := ⟨h.os, h.tape, h.output, h.size, h.block⟩
/-- writing into a row that lies behind all that was there -/
theorem grown_new8 {w w' w'' : World} {r : Option Nat} {g : Nat} (h : w.grownBy w' r) (h' : w'.grownBy w'' (some g)) (hg : w.heap.size ≤ g) : w.grownBy w'' r :=
  ⟨h'.os.trans h.os, h'.tape.trans h.tape, h'.output.trans h.output, Nat.le_trans h.size h'.size, fun k hk hr => (h'.block k (Nat.lt_of_lt_of_le hk h.size) (fun e => by injection e with e; omega)).trans (h.block k hk hr)⟩
/-- a row of the call's own, its cells laid open -/
theorem own_open8 {w : World} {B n c s : Nat} {g : Nat} {e : TypeId} {xs : List Value} (h : w.ownsRow B e s (.slice (some ⟨g, 0, none⟩) n c) n xs) : ∃ cur : List Value, w.heap[g]? = some (.cells cur.toArray e (0, 0)) ∧ cur.length = c * s ∧ cur.take (n * s) = xs ∧ B ≤ g ∧ n ≤ c ∧ c ≤ maxLen := by
  rcases h.2 with ⟨h1, _⟩ | ⟨g', cap, cur, h1, h2, h3, h4, h5, h6, h7⟩
  · cases h1
  · cases h1
    exact ⟨cur.toList, by simpa using h3, by simpa using h6, h7, h2, h4, h5⟩
theorem own_shut8 {w : World} {B n c s : Nat} {g : Nat} {e : TypeId} {xs cur : List Value} (hg : w.heap[g]? = some (.cells cur.toArray e (0, 0))) (hc : cur.length = c * s) (ht : cur.take (n * s) = xs) (hB : B ≤ g) (hn : n ≤ c) (hm : c ≤ maxLen) : w.ownsRow B e s (.slice (some ⟨g, 0, none⟩) n c) n xs := by
  refine ⟨?_, .inr ⟨g, c, cur.toArray, rfl, hB, hg, hn, hm, by simpa using hc, by simpa using ht⟩⟩
  rw [← ht, List.length_take, hc]
  have : n * s ≤ c * s := Nat.mul_le_mul_right _ hn
  omega
/-- what is put in the middle, by two copies -/
theorem splice_mid {α : Type} (L P R : List α) (v : List α) (L' : List α) (a : Nat) (ha : a = P.length) (hL : L = P ++ R ++ L') (hv : v.length ≤ L'.length) :
    (splice (splice L (a + v.length) R) a v).take (P.length + v.length + R.length) = P ++ v ++ R := by
  subst ha hL
  apply List.ext_getElem
  · simp [splice]; omega
  intro i h1 h2
  simp only [List.length_append] at h2
  rw [List.getElem_take]
  simp only [splice, List.getElem_append, List.getElem_take, List.getElem_drop, List.length_append, List.length_take, List.length_drop]
  (repeat' split) <;> first | rfl | (exfalso; omega) | (congr 1; omega)
theorem splice_two {α : Type} (P Z R : List α) (v : List α) (a : Nat) (ha : a = P.length) (hZ : v.length + R.length ≤ Z.length) :
    (splice (splice (P ++ Z) a v) (a + v.length) R).take (P.length + v.length + R.length) = P ++ v ++ R := by
  subst ha
  apply List.ext_getElem
  · simp [splice]; omega
  intro i h1 h2
  simp only [List.length_append] at h2
  rw [List.getElem_take]
  simp only [splice, List.getElem_append, List.getElem_take, List.getElem_drop, List.length_append, List.length_take, List.length_drop]
  (repeat' split) <;> first | rfl | (exfalso; omega) | (congr 1; omega)
end Go.Proofs.YtmigapjkicddiaaDoor

namespace Go.Proofs.YtmigapjkicddiaaDoor
open Go.RowKit

set_option maxRecDepth 10000 in
/-- what Insert tells -/
def InsP (w : World) (B : Nat) (A : Option Addr) (n c : Nat) (vs : List Kv) (e : Ending) (w' : World) : Prop :=
  ∃ A' c', e = .returned (.slice A' (n + 1) c') ∧ Hid (w'.ownsRow B 48 2 (.slice A' (n + 1) c') (n + 1) (flatK vs)) ∧ Hid (w.grownBy w' (Value.ownBlock (.slice A n c)))
def kv0 (X : List UInt8) : Kv := ⟨⟨X, []⟩, none, 0, 0⟩
set_option maxRecDepth 10000 in
theorem key_lit {w : World} {v : Nat} {X : List UInt8} (hv : w.heap[v]? = some (.cells #[.string ⟨X.toArray⟩, .slice none 0 0] 48 (0, 0))) : ∀ j u, (flatK [kv0 X])[j]? = some u → w.cell? ((⟨v, 0, none⟩ : Addr).add j) = some u := by
  intro j u hu
  have hadd : (⟨v, 0, none⟩ : Addr).add j = ⟨v, j, none⟩ := by unfold Addr.add; split <;> simp_all
  rw [hadd, cell_blk hv]
  match j, hu with
  | 0, hu => exact hu
  | 1, hu => exact hu
  | j + 2, hu => simp [flatK, kvC, kv0] at hu

set_option maxRecDepth 10000 in
set_option maxHeartbeats 2000000 in
theorem kInsert_end (us : List Kv) (n c v : Nat) (A : Option Addr) (X : List UInt8) (B : Nat) (w : World) (hown : w.ownsRow B 48 2 (.slice A n c) n (flatK us)) (hn : n ≤ 100000) (hB : B ≤ w.heap.size)
    (hv : w.heap[v]? = some (.cells #[.string ⟨X.toArray⟩, .slice none 0 0] 48 (0, 0))) :
    Calls Tryd.prog 62 #[.slice A n c, .int .i64 (n : Int), .slice (some ⟨v, 0, none⟩) 1 1] w (InsP w B A n c (us ++ [kv0 X])) := by
  obtain ⟨inf, hi, hz0, hz1, hz2⟩ := info_parts Tryd.infoK
  have Hown := Lib.hid hown
  have Hk := Lib.hid (key_lit hv)
  have hlen := own_len8 hown
  have hnc := hlen.1
  have hcm := hlen.2
  clear hown hv hlen
  rcases A with _ | ⟨g, o, sp⟩
  · go_enter Tryd.func62, Tryd.ntmps62
    go_wp2_with (at_builtin; refine wpList_append_own _ rfl (.tmp 23) (.tmp 24) 23 rfl B 48 inf (.agg #[.string ⟨#[]⟩, .slice none 0 0]) 2 40 Tryd.underlying23 hi hz0 hz1 hz2 rfl (by decide) _ n (flatK us) rfl Hown.out ⟨v, 0, none⟩ 1 1 (flatK [kv0 X]) rfl rfl Hk.out (flatK_one _) (by simp only [maxLen]; omega) (by omega) hB ?_; intro v3 w3 hown3 hg3 _; obtain ⟨A2, k2, rfl, _, _⟩ := ownF hown3; have Hown3 := Lib.hid hown3; have Hg3 := Lib.hid hg3; clear hown3 hg3)
    all_goals
      go_ret
      exact ⟨A2, k2, rfl, by rw [flatK_app]; exact Hown3, Hg3⟩
  · go_enter Tryd.func62, Tryd.ntmps62
    go_wp2_with (at_builtin; refine wpList_append_own _ rfl (.tmp 23) (.tmp 24) 23 rfl B 48 inf (.agg #[.string ⟨#[]⟩, .slice none 0 0]) 2 40 Tryd.underlying23 hi hz0 hz1 hz2 rfl (by decide) _ n (flatK us) rfl Hown.out ⟨v, 0, none⟩ 1 1 (flatK [kv0 X]) rfl rfl Hk.out (flatK_one _) (by simp only [maxLen]; omega) (by omega) hB ?_; intro v3 w3 hown3 hg3 _; obtain ⟨A2, k2, rfl, _, _⟩ := ownF hown3; have Hown3 := Lib.hid hown3; have Hg3 := Lib.hid hg3; clear hown3 hg3)
    all_goals
      go_ret
      exact ⟨A2, k2, rfl, by rw [flatK_app]; exact Hown3, Hg3⟩
end Go.Proofs.YtmigapjkicddiaaDoor

namespace Go.Proofs.YtmigapjkicddiaaDoor
open Go.RowKit

set_option maxRecDepth 10000 in
theorem Tryd.sizeK : (Tryd.prog.info? 48).map (·.size) = some 2 := by kernel_rfl
set_option maxRecDepth 10000 in
set_option maxHeartbeats 2000000 in
theorem kInsert_grow (us : List Kv) (j n c v g : Nat) (X : List UInt8) (B : Nat) (w : World) (hown : w.ownsRow B 48 2 (.slice (some ⟨g, 0, none⟩) n c) n (flatK us)) (hus : us.length = n) (hn : n ≤ 100000) (hj : j < n) (hc : c < n + 1) (hB : B ≤ w.heap.size)
    (hv : w.heap[v]? = some (.cells #[.string ⟨X.toArray⟩, .slice none 0 0] 48 (0, 0))) :
    Calls Tryd.prog 62 #[.slice (some ⟨g, 0, none⟩) n c, .int .i64 (j : Int), .slice (some ⟨v, 0, none⟩) 1 1] w (InsP w B (some ⟨g, 0, none⟩) n c (us.take j ++ kv0 X :: us.drop j)) := by
  obtain ⟨inf, hi, hz0, hz1, hz2⟩ := info_parts Tryd.infoK
  obtain ⟨cur, hg, hcl, hct, hBg, hnc, hcm⟩ := own_open8 hown
  obtain rfl : c = n := by omega
  have hgl := lt_of_block hg
  have hvl := lt_of_block hv
  have hat : ∀ (q : Nat) (u : Value), (flatK us)[q]? = some u → w.cell? ⟨g, q, none⟩ = some u := fun q u hq => by
    have hq2 : q < c * 2 := by have := (List.getElem?_eq_some_iff.1 hq).1; rw [flatK_len, hus] at this; exact this
    rw [hown.cellAt q hq2]; exact hq
  have hadd : ∀ (p o q : Nat), (⟨p, o, none⟩ : Addr).add q = ⟨p, o + q, none⟩ := fun p o q => by unfold Addr.add; split <;> simp_all
  have hfl : flatK us = flatK (us.take j) ++ flatK (us.drop j) := by rw [← flatK_app, List.take_append_drop]
  have hl1 : (flatK (us.take j)).length = j * 2 := by rw [flatK_len, List.length_take, hus]; congr 1; omega
  have hl2 : (flatK (us.drop j)).length = (c - j) * 2 := by rw [flatK_len, List.length_drop, hus]
  have hold : (Builtin.firstCells inf.size j (.slice (some ⟨g, 0, none⟩) j c)).run Tryd.prog w.drew = .ok (flatK (us.take j)).toArray w.drew := by
    rw [hz1]
    exact run_firstCells_some w.drew 2 j ⟨g, 0, none⟩ j c (flatK (us.take j)) hl1 (fun q u hq => by
      rw [hadd, Nat.zero_add]
      refine hat q u ?_
      rw [hfl, List.getElem?_append_left (List.getElem?_eq_some_iff.1 hq).1]; exact hq)
  have hik : j + (c + 1 - j) = c + 1 := by omega
  have hkk : (c : Int) + 1 - (j : Int) = ((c + 1 - j : Nat) : Int) := by omega
  obtain ⟨G, hG⟩ : ∃ G, G = grownCap w (c + 1) c 48 := ⟨_, rfl⟩
  have hGn : c + 1 ≤ G := by rw [hG]; exact grownCap_ge w _ _ _
  have hG63 : G ≤ maxLen := by rw [hG]; exact grownCap_le_maxLen w (c + 1) c 48 (by unfold maxLen; omega)
  obtain ⟨Z, hZ, hZl⟩ : ∃ Z : List Value, (flatK (us.take j)).toArray ++ Builtin.zeroCells (Value.agg #[.string ⟨#[]⟩, .slice none 0 0]).cells (c + 1 - j) ++ Builtin.zeroCells (Value.agg #[.string ⟨#[]⟩, .slice none 0 0]).cells (G - (c + 1)) = (flatK (us.take j) ++ Z).toArray ∧ Z.length = (G - j) * 2 := by
    refine ⟨(Builtin.zeroCells (Value.agg #[.string ⟨#[]⟩, .slice none 0 0]).cells (c + 1 - j)).toList ++ (Builtin.zeroCells (Value.agg #[.string ⟨#[]⟩, .slice none 0 0]).cells (G - (c + 1))).toList, by simp, ?_⟩
    simp [Builtin.zeroCells, Value.cells]
    omega
  have hrz : ∀ ty, (Builtin.append_ #[23, 3] ty #[.slice (some ⟨g, 0, none⟩) j c, .int .i64 ((c : Int) + 1 - (j : Int))]).run Tryd.prog w =
      .ok (.slice (some ⟨w.heap.size, 0, none⟩) (c + 1) G) (w.drew.alloc (.cells (flatK (us.take j) ++ Z).toArray 48)) := fun ty => by
    have h := Lib.run_append_grow_zeros w 23 3 ty 48 inf _ .i64 .i64 Tryd.underlying23 Tryd.underlying3 hi hz0 (some ⟨g, 0, none⟩) j c (flatK (us.take j)) hold (c + 1 - j) (by omega) (by omega) (by omega) (by omega) (by rw [hz2]; omega) (by rw [hz2, hik]; exact growslice_fits (by omega) (by omega))
    rw [hik, ← hG, hZ] at h
    rw [hkk]
    exact h
  have HG0 := Lib.hid (show ∀ w1, w1 = w.drew.alloc (.cells (flatK (us.take j) ++ Z).toArray 48) → w1.heap[w.heap.size]? = some (.cells (flatK (us.take j) ++ Z).toArray 48 (0, 0)) ∧ w.grownBy w1 (some g) ∧ (∀ j u, (flatK [kv0 X])[j]? = some u → w1.cell? ((⟨v, 0, none⟩ : Addr).add j) = some u) ∧ (∀ q u, (flatK us)[q]? = some u → w1.cell? ⟨g, q, none⟩ = some u) from fun w1 e => by
    subst e
    refine ⟨heap_alloc_new w.drew _, ⟨rfl, rfl, rfl, by simp, fun k hk _ => Below.heap_alloc w.drew _ k hk⟩, key_lit ((Below.heap_alloc w.drew _ v hvl).trans hv), fun q u hq => (World.cell?_alloc_lt w.drew _ ⟨g, q, none⟩ hgl).trans (hat q u hq)⟩)
  obtain ⟨z, hz⟩ : ∃ z, z = w.heap.size := ⟨_, rfl⟩
  have Hgz := Lib.hid (show g < z ∧ v < z ∧ B ≤ z ∧ w.heap.size ≤ z by omega)
  rw [← hz] at hrz HG0
  have Hat := Lib.hid hat
  have Hfl := Lib.hid (And.intro hl1 hl2)
  have Hfa := Lib.hid hfl
  have HZl := Lib.hid hZl
  have Hadd := Lib.hid hadd
  have Hus := Lib.hid hus
  have hG63b : G ≤ 9223372036854775807 := by simp only [maxLen] at hG63; omega
  have HGn := Lib.hid hGn
  have HG63 := Lib.hid hG63
  clear hat hl1 hl2 hfl hold hik hkk hG hZ hZl hadd hown hg hcl hct hnc hcm hgl hv hvl hz hG63 hus hz0 hz1 hz2
  have hGi : ¬ (G = j) := by omega
  obtain ⟨j1, hj1⟩ : ∃ j1, j1 = j + 1 := ⟨_, rfl⟩
  have Hj1 := Lib.hid hj1
  have hGim : ¬ (G = j1) := by omega
  have hj1c : j1 ≤ c + 1 := by omega
  have hj1i : (j1 : Int) ≤ (c : Int) + 1 := by omega
  have hj1z : (0 : Int) ≤ (j1 : Int) := by omega
  have hj1n : ((j1 : Int)).toNat = j1 := by omega
  have hci : ¬ (c = j) := by omega
  have hw1 : IntKind.i64.wrap ((j : Int) + 1) = (j1 : Int) := by rw [IntKind.wrap_i64]; omega
  clear hj1
  have hin : j ≤ c := by omega
  have hz2 : ¬ ((j : Int) = (c : Int)) := by omega
  go_enter Tryd.func62, Tryd.ntmps62
  go_wp2_with (first
    | (at_builtin; refine wpList_append_run8 _ rfl _ _ _ _ rfl _ _ rfl rfl _ _ (hrz _) ?_; intro w1 hw1; have Hw1 := Lib.hid (HG0.out w1 hw1.out); clear hw1)
    | (refine wpList_copy_splice8 rfl (.tmp 43) (.tmp 44) 23 23 rfl 48 2 1 Tryd.underlying23 Tryd.sizeK z (j * 2) ⟨v, 0, none⟩ _ _ _ _ rfl rfl _ _ Hw1.out.1 (flatK [kv0 X]) (by simp only [Nat.min_def]; split <;> omega) rfl Hw1.out.2.2.1 (by rw [List.length_append, Hfl.out.1, HZl.out]; show _ + 2 ≤ _; omega) (flatK_one _) ?_; intro w2 Hw2 Hg2))
  have Hsrc := Lib.hid (show ∀ q u, (flatK (us.drop j))[q]? = some u → w2.cell? ((⟨g, j * 2, none⟩ : Addr).add q) = some u from fun q u hq => by
    rw [Hadd.out]
    refine Hg2.out.cell (Hw1.out.2.2.2 (j * 2 + q) u ?_) (by intro e; injection e with e; have e : g = z := e; have := Hgz.out; omega)
    rw [Hfa.out, List.getElem?_append_right (by rw [Hfl.out.1]; omega), Hfl.out.1, Nat.add_sub_cancel_left]
    exact hq)
  go_simp
  go_cut [] (fun wx => Hid (wx.heap[z]? = some (.cells (splice (splice (flatK (us.take j) ++ Z) (j * 2) (flatK [kv0 X])) (j1 * 2) (flatK (us.drop j))).toArray 48 (0, 0))) ∧ Hid (w2.grownBy wx (some z)))
  case first =>
    refine wp_region_held_drew (S := fun _ => True) (by kernel_rfl) trivial (fun hS => ?_)
    refine wpAnyH_take (i := 0) (v := ?ma0) rfl (by kernel_rfl) (by kernel_rfl) (by kernel_rfl) (fun _ _ _ h => h) (Or.inl ⟨by rfl, ?na0⟩) hS ?oa0
    case na0 => (intro wy hSy; go_simp; try with_reducible rfl)
    simp only [Act.put]
    refine wpAnyH_take (i := 1) (v := ?ma1) rfl (by kernel_rfl) (by kernel_rfl) (by kernel_rfl) (fun _ _ _ h => h) (Or.inl ⟨by rfl, ?na1⟩) hS ?oa1
    case na1 => (intro wy hSy; go_simp; try with_reducible rfl)
    simp only [Act.put]
    refine wpAnyH_take (i := 2) (v := ?ma2) rfl (by kernel_rfl) (by kernel_rfl) (by kernel_rfl) (fun _ _ _ h => h) (Or.inl ⟨by rfl, ?na2⟩) hS ?oa2
    case na2 => (intro wy hSy; go_simp; try with_reducible rfl)
    simp only [Act.put]
    refine wpAnyH_take (i := 3) (v := ?ma3) rfl (by kernel_rfl) (by kernel_rfl) (by kernel_rfl) (fun _ _ _ h => h) (Or.inl ⟨by rfl, ?na3⟩) hS ?oa3
    case na3 => (intro wy hSy; go_simp; try with_reducible rfl)
    simp only [Act.put]
    refine wpAnyH_take (i := 5) (v := ?ma5) rfl (by kernel_rfl) (by kernel_rfl) (by kernel_rfl) (fun _ _ _ h => h) (Or.inl ⟨by rfl, ?na5⟩) hS ?oa5
    case na5 => (intro wy hSy; go_simp; try with_reducible rfl)
    simp only [Act.put]
    refine wpAnyH_take (i := 6) (v := ?ma6) rfl (by kernel_rfl) (by kernel_rfl) (by kernel_rfl) (fun _ _ _ h => h) (Or.inl ⟨by rfl, ?na6⟩) hS ?oa6
    case na6 => (intro wy hSy; go_simp; try with_reducible rfl)
    simp only [Act.put]
    refine wpAnyH_ready (rs := [4, 7]) (by kernel_rfl) (by simp) ?_
    refine AllReadyH.cons rfl (fun K hK => ?_) (AllReadyH.cons rfl (fun K hK => ?_) AllReadyH.nil)
    · skip
      go_simp
      refine hK.out _ _ ?_ (fun hS => ?_)
      · exact trivial
      clear hK K
      refine wpAnyH_ready (rs := [7]) (by kernel_rfl) (by simp) ?_
      refine AllReadyH.cons rfl (fun K hK => ?_) AllReadyH.nil
      go_simp
      refine hK.out _ _ ?_ (fun hS => ?_)
      · exact trivial
      clear hK K
      refine wpAnyH_ready (rs := [8]) (by kernel_rfl) (by simp) ?_
      refine AllReadyH.cons rfl (fun K hK => ?_) AllReadyH.nil
      refine step_copy_splice8 rfl (.tmp 50) (.tmp 53) 23 23 rfl 48 2 (c - j) Tryd.underlying23 Tryd.sizeK z (j1 * 2) ⟨g, j * 2, none⟩ (c + 1 - j1) (G - j1) (c - j) (c - j) (by simp [Act.eval]) (by simp [Act.eval]) _ _ (show w2.drew.heap[z]? = _ from Hw2.out) (flatK (us.drop j)) (by have := Hj1.out; simp only [Nat.min_def]; split <;> omega) Hfl.out.2 Hsrc.out (by rw [length_splice _ _ _ (by rw [List.length_append, Hfl.out.1, HZl.out]; show _ + 2 ≤ _; omega), List.length_append, Hfl.out.1, HZl.out, Hfl.out.2]; have := Hj1.out; omega) (flatK_one _) ?_
      intro w3 Hw3 Hg3
      refine hK.out _ _ ?_ (fun hS => ?_)
      · exact trivial
      clear hK K
      refine wpAnyH_done (by kernel_rfl) ?_ _
      go_wp2_with fail
      go_meet
      exact ⟨Hw3, grown_drew8 Hg3.out⟩
    · skip
      go_simp
      refine hK.out _ _ ?_ (fun hS => ?_)
      · exact trivial
      clear hK K
      refine wpAnyH_ready (rs := [4]) (by kernel_rfl) (by simp) ?_
      refine AllReadyH.cons rfl (fun K hK => ?_) AllReadyH.nil
      go_simp
      refine hK.out _ _ ?_ (fun hS => ?_)
      · exact trivial
      clear hK K
      refine wpAnyH_ready (rs := [8]) (by kernel_rfl) (by simp) ?_
      refine AllReadyH.cons rfl (fun K hK => ?_) AllReadyH.nil
      refine step_copy_splice8 rfl (.tmp 50) (.tmp 53) 23 23 rfl 48 2 (c - j) Tryd.underlying23 Tryd.sizeK z (j1 * 2) ⟨g, j * 2, none⟩ (c + 1 - j1) (G - j1) (c - j) (c - j) (by simp [Act.eval]) (by simp [Act.eval]) _ _ (show w2.drew.heap[z]? = _ from Hw2.out) (flatK (us.drop j)) (by have := Hj1.out; simp only [Nat.min_def]; split <;> omega) Hfl.out.2 Hsrc.out (by rw [length_splice _ _ _ (by rw [List.length_append, Hfl.out.1, HZl.out]; show _ + 2 ≤ _; omega), List.length_append, Hfl.out.1, HZl.out, Hfl.out.2]; have := Hj1.out; omega) (flatK_one _) ?_
      intro w3 Hw3 Hg3
      refine hK.out _ _ ?_ (fun hS => ?_)
      · exact trivial
      clear hK K
      refine wpAnyH_done (by kernel_rfl) ?_ _
      go_wp2_with fail
      go_meet
      exact ⟨Hw3, grown_drew8 Hg3.out⟩
  case rest =>
    obtain ⟨Hw3, Hg3⟩ := hcut
    have hE := Lib.hid (splice_two (flatK (us.take j)) Z (flatK (us.drop j)) (flatK [kv0 X]) (j * 2) Hfl.out.1.symm (by rw [HZl.out, Hfl.out.2]; show 2 + _ ≤ _; omega))
    go_wp2_with fail
    go_ret
    refine ⟨some ⟨z, 0, none⟩, G, rfl, ?_, ?_⟩
    · refine own_shut8 Hw3.out ?_ ?_ Hgz.out.2.2.1 HGn.out HG63.out
      · rw [length_splice, length_splice, List.length_append, Hfl.out.1, HZl.out]
        · omega
        · rw [List.length_append, Hfl.out.1, HZl.out]; show _ + 2 ≤ _; omega
        · rw [length_splice, List.length_append, Hfl.out.1, HZl.out, Hfl.out.2]
          · have := Hj1.out; omega
          · rw [List.length_append, Hfl.out.1, HZl.out]; show _ + 2 ≤ _; omega
      · have h := hE.out
        rw [Hfl.out.1, Hfl.out.2, show (flatK [kv0 X]).length = 2 from rfl, show j * 2 + 2 + (c - j) * 2 = (c + 1) * 2 by omega, show j * 2 + 2 = j1 * 2 by have := Hj1.out; omega] at h
        rw [h, flatK_app]
        show _ = flatK (us.take j) ++ (flatK [kv0 X] ++ flatK (us.drop j))
        rw [List.append_assoc]
    · exact grown_new8 (grown_new8 Hw1.out.2.1 Hg2.out Hgz.out.2.2.2) Hg3.out Hgz.out.2.2.2
end Go.Proofs.YtmigapjkicddiaaDoor

namespace Go.Proofs.YtmigapjkicddiaaDoor
open Go.RowKit

set_option maxRecDepth 10000 in
set_option maxHeartbeats 2000000 in
theorem kInsert_shift (us : List Kv) (j n c v g : Nat) (X : List UInt8) (B : Nat) (w : World) (hown : w.ownsRow B 48 2 (.slice (some ⟨g, 0, none⟩) n c) n (flatK us)) (hus : us.length = n) (hn : n ≤ 100000) (hj : j < n) (hc : n + 1 ≤ c)
    (hv : w.heap[v]? = some (.cells #[.string ⟨X.toArray⟩, .slice none 0 0] 48 (0, 0))) (hvg : v ≠ g) :
    Calls Tryd.prog 62 #[.slice (some ⟨g, 0, none⟩) n c, .int .i64 (j : Int), .slice (some ⟨v, 0, none⟩) 1 1] w (InsP w B (some ⟨g, 0, none⟩) n c (us.take j ++ kv0 X :: us.drop j)) := by
  obtain ⟨cur, hg, hcl, hct, hBg, hnc, hcm⟩ := own_open8 hown
  have hadd : ∀ (p o q : Nat), (⟨p, o, none⟩ : Addr).add q = ⟨p, o + q, none⟩ := fun p o q => by unfold Addr.add; split <;> simp_all
  have hfl : flatK us = flatK (us.take j) ++ flatK (us.drop j) := by rw [← flatK_app, List.take_append_drop]
  have hl1 : (flatK (us.take j)).length = j * 2 := by rw [flatK_len, List.length_take, hus]; congr 1; omega
  have hl2 : (flatK (us.drop j)).length = (n - j) * 2 := by rw [flatK_len, List.length_drop, hus]
  have hcur : cur = flatK (us.take j) ++ flatK (us.drop j) ++ cur.drop (n * 2) := by rw [← hfl, ← hct, List.take_append_drop]
  have hov : ∀ off lb cb, (callFunc 69 #[.slice (some ⟨v, 0, none⟩) 1 1, .slice (some ⟨g, off, none⟩) lb cb]).run Tryd.prog w = .ok (.value (.bool false)) w := fun off lb cb => by
    rw [run_callFunc_extern Tryd.func69 (by kernel_rfl) (by kernel_rfl) (by kernel_rfl) (e := Extern.SlicesOverlaps.overlaps #[23, 23] #[4]) (by kernel_rfl),
      Lib.run_overlaps_apart w 23 4 48 Tryd.underlying23 2 (fun w => by kernel_rfl) ⟨v, 0, none⟩ ⟨g, off, none⟩ 1 1 lb cb hvg 48 48 2 (c * 2) (by simp [World.shape?, hv]) (by simp [World.shape?, hg, hcl]) (by omega) (by simp [World.frozen?, hv]) (by simp [World.frozen?, hv])]
    rfl
  have Hsrc := Lib.hid (show ∀ q u, (flatK (us.drop j))[q]? = some u → w.drew.cell? ((⟨g, j * 2, none⟩ : Addr).add q) = some u from fun q u hq => by
    rw [hadd]
    have h2 : (flatK us)[j * 2 + q]? = some u := by rw [hfl, List.getElem?_append_right (by rw [hl1]; omega), hl1, Nat.add_sub_cancel_left]; exact hq
    have h3 : j * 2 + q < n * 2 := by have := (List.getElem?_eq_some_iff.1 h2).1; rw [flatK_len, hus] at this; exact this
    show w.cell? _ = _
    rw [hown.cellAt _ h3]; exact h2)
  have Hk := Lib.hid (key_lit hv)
  have Hg := Lib.hid hg
  have Hfl := Lib.hid (And.intro hl1 hl2)
  have Hcl := Lib.hid (And.intro hcl hcm)
  have Hcur := Lib.hid hcur
  have HB := Lib.hid hBg
  have Hvg := Lib.hid hvg
  have Hvl := Lib.hid (lt_of_block hv)
  have hc63 : c ≤ 9223372036854775807 := by simp only [maxLen] at hcm; omega
  clear hg hct hBg hnc hcm hadd hfl hl1 hl2 hcl hown hv hus hcur hvg
  obtain ⟨j1, hj1⟩ : ∃ j1, j1 = j + 1 := ⟨_, rfl⟩
  have Hj1 := Lib.hid hj1
  have hGim : ¬ (c = j1) := by omega
  have hj1c : j1 ≤ n + 1 := by omega
  have hj1i : (j1 : Int) ≤ (n : Int) + 1 := by omega
  have hj1z : (0 : Int) ≤ (j1 : Int) := by omega
  have hj1n : ((j1 : Int)).toNat = j1 := by omega
  have hw1 : IntKind.i64.wrap (j1 : Int) = (j1 : Int) := by rw [IntKind.wrap_i64]; omega
  have hji : (j : Int) ≤ (n : Int) + 1 := by omega
  have hw2 : (j : Int) + 1 = (j1 : Int) := by omega
  clear hj1
  have hci : ¬ (c = j) := by omega
  have hin : j ≤ n := by omega
  have hz2 : ¬ ((j : Int) = (n : Int)) := by omega
  go_enter Tryd.func62, Tryd.ntmps62
  go_upto_region 15 with (simp only [hov])
  go_cut [] (fun wx => Hid (wx.heap[g]? = some (.cells (splice cur (j1 * 2) (flatK (us.drop j))).toArray 48 (0, 0))) ∧ Hid (w.grownBy wx (some g)))
  case first =>
    refine wp_region_held_drew (S := fun _ => True) (by kernel_rfl) trivial (fun hS => ?_)
    refine wpAnyH_take (i := 0) (v := ?mb0) rfl (by kernel_rfl) (by kernel_rfl) (by kernel_rfl) (fun _ _ _ h => h) (Or.inl ⟨by rfl, ?nb0⟩) hS ?ob0
    case nb0 => (intro wy hSy; go_simp; try with_reducible rfl)
    simp only [Act.put]
    refine wpAnyH_take (i := 1) (v := ?mb1) rfl (by kernel_rfl) (by kernel_rfl) (by kernel_rfl) (fun _ _ _ h => h) (Or.inl ⟨by rfl, ?nb1⟩) hS ?ob1
    case nb1 => (intro wy hSy; go_simp; try with_reducible rfl)
    simp only [Act.put]
    refine wpAnyH_take (i := 2) (v := ?mb2) rfl (by kernel_rfl) (by kernel_rfl) (by kernel_rfl) (fun _ _ _ h => h) (Or.inl ⟨by rfl, ?nb2⟩) hS ?ob2
    case nb2 => (intro wy hSy; go_simp; try with_reducible rfl)
    simp only [Act.put]
    refine wpAnyH_take (i := 3) (v := ?mb3) rfl (by kernel_rfl) (by kernel_rfl) (by kernel_rfl) (fun _ _ _ h => h) (Or.inl ⟨by rfl, ?nb3⟩) hS ?ob3
    case nb3 => (intro wy hSy; go_simp; try with_reducible rfl)
    simp only [Act.put]
    refine wpAnyH_take (i := 5) (v := ?mb5) rfl (by kernel_rfl) (by kernel_rfl) (by kernel_rfl) (fun _ _ _ h => h) (Or.inl ⟨by rfl, ?nb5⟩) hS ?ob5
    case nb5 => (intro wy hSy; go_simp; try with_reducible rfl)
    simp only [Act.put]
    refine wpAnyH_take (i := 6) (v := ?mb6) rfl (by kernel_rfl) (by kernel_rfl) (by kernel_rfl) (fun _ _ _ h => h) (Or.inl ⟨by rfl, ?nb6⟩) hS ?ob6
    case nb6 => (intro wy hSy; go_simp; try with_reducible rfl)
    simp only [Act.put]
    refine wpAnyH_ready (rs := [4, 7]) (by kernel_rfl) (by simp) ?_
    refine AllReadyH.cons rfl (fun K hK => ?_) (AllReadyH.cons rfl (fun K hK => ?_) AllReadyH.nil)
    · skip
      go_simp
      refine hK.out _ _ ?_ (fun hS => ?_)
      · exact trivial
      clear hK K
      refine wpAnyH_ready (rs := [7]) (by kernel_rfl) (by simp) ?_
      refine AllReadyH.cons rfl (fun K hK => ?_) AllReadyH.nil
      go_simp
      refine hK.out _ _ ?_ (fun hS => ?_)
      · exact trivial
      clear hK K
      refine wpAnyH_ready (rs := [8]) (by kernel_rfl) (by simp) ?_
      refine AllReadyH.cons rfl (fun K hK => ?_) AllReadyH.nil
      refine step_copy_splice8 rfl (.tmp 73) (.tmp 76) 23 23 rfl 48 2 (n - j) Tryd.underlying23 Tryd.sizeK g (j1 * 2) ⟨g, j * 2, none⟩ (n + 1 - j1) (c - j1) (n + 1 - j) (c - j) (by simp [Act.eval]) (by simp [Act.eval]) _ _ (show w.drew.heap[g]? = _ from Hg.out) (flatK (us.drop j)) (by have := Hj1.out; simp only [Nat.min_def]; split <;> omega) Hfl.out.2 Hsrc.out (by rw [Hcl.out.1, Hfl.out.2]; have := Hj1.out; omega) (flatK_one _) ?_
      intro w3 Hw3 Hg3
      refine hK.out _ _ ?_ (fun hS => ?_)
      · exact trivial
      clear hK K
      refine wpAnyH_done (by kernel_rfl) ?_ _
      go_wp2_with fail
      go_meet
      exact ⟨Hw3, grown_drew8 Hg3.out⟩
    · skip
      go_simp
      refine hK.out _ _ ?_ (fun hS => ?_)
      · exact trivial
      clear hK K
      refine wpAnyH_ready (rs := [4]) (by kernel_rfl) (by simp) ?_
      refine AllReadyH.cons rfl (fun K hK => ?_) AllReadyH.nil
      go_simp
      refine hK.out _ _ ?_ (fun hS => ?_)
      · exact trivial
      clear hK K
      refine wpAnyH_ready (rs := [8]) (by kernel_rfl) (by simp) ?_
      refine AllReadyH.cons rfl (fun K hK => ?_) AllReadyH.nil
      refine step_copy_splice8 rfl (.tmp 73) (.tmp 76) 23 23 rfl 48 2 (n - j) Tryd.underlying23 Tryd.sizeK g (j1 * 2) ⟨g, j * 2, none⟩ (n + 1 - j1) (c - j1) (n + 1 - j) (c - j) (by simp [Act.eval]) (by simp [Act.eval]) _ _ (show w.drew.heap[g]? = _ from Hg.out) (flatK (us.drop j)) (by have := Hj1.out; simp only [Nat.min_def]; split <;> omega) Hfl.out.2 Hsrc.out (by rw [Hcl.out.1, Hfl.out.2]; have := Hj1.out; omega) (flatK_one _) ?_
      intro w3 Hw3 Hg3
      refine hK.out _ _ ?_ (fun hS => ?_)
      · exact trivial
      clear hK K
      refine wpAnyH_done (by kernel_rfl) ?_ _
      go_wp2_with fail
      go_meet
      exact ⟨Hw3, grown_drew8 Hg3.out⟩
  case rest =>
    obtain ⟨Hw3, Hg3⟩ := hcut
    have hE := Lib.hid (splice_mid cur (flatK (us.take j)) (flatK (us.drop j)) (flatK [kv0 X]) (cur.drop (n * 2)) (j * 2) Hfl.out.1.symm Hcur.out (by rw [List.length_drop, Hcl.out.1]; show 2 ≤ _; omega))
    have Hk3 : Hid (∀ j u, (flatK [kv0 X])[j]? = some u → wc.cell? ((⟨v, 0, none⟩ : Addr).add j) = some u) := fun q u hq => Hg3.out.cell (Hk.out q u hq) (by rw [addB]; intro e; injection e with e; exact Hvg.out e)
    have hlen := Lib.hid (show (splice cur (j1 * 2) (flatK (us.drop j))).length = c * 2 by
      rw [length_splice, Hcl.out.1]
      rw [Hcl.out.1, Hfl.out.2]
      have := Hj1.out
      omega)
    go_wp2_with (refine wpList_copy_splice8 rfl (.tmp 80) (.tmp 81) 23 23 rfl 48 2 1 Tryd.underlying23 Tryd.sizeK g (j * 2) ⟨v, 0, none⟩ _ _ _ _ rfl rfl _ _ Hw3.out (flatK [kv0 X]) (by simp only [Nat.min_def]; split <;> omega) rfl Hk3.out (by rw [hlen.out]; show _ + 2 ≤ _; omega) (flatK_one _) ?_; intro w4 Hw4 Hg4)
    go_ret
    refine ⟨some ⟨g, 0, none⟩, c, rfl, ?_, grown_trans8 Hg3.out Hg4.out⟩
    refine own_shut8 Hw4.out ?_ ?_ HB.out hc Hcl.out.2
    · rw [length_splice]
      · exact hlen.out
      · rw [hlen.out]; show _ + 2 ≤ _; omega
    · have h := hE.out
      rw [Hfl.out.1, Hfl.out.2, show (flatK [kv0 X]).length = 2 from rfl, show j * 2 + 2 + (n - j) * 2 = (n + 1) * 2 by omega, show j * 2 + 2 = j1 * 2 by have := Hj1.out; omega] at h
      rw [h, flatK_app]
      show _ = flatK (us.take j) ++ (flatK [kv0 X] ++ flatK (us.drop j))
      rw [List.append_assoc]
end Go.Proofs.YtmigapjkicddiaaDoor

namespace Go.Proofs.YtmigapjkicddiaaDoor
open Go.RowKit

set_option maxRecDepth 10000 in
theorem kInsert (us : List Kv) (j n c v : Nat) (A : Option Addr) (X : List UInt8) (B : Nat) (w : World) (hown : w.ownsRow B 48 2 (.slice A n c) n (flatK us)) (hus : us.length = n) (hn : n ≤ 100000) (hj : j ≤ n) (hB : B ≤ w.heap.size)
    (hv : w.heap[v]? = some (.cells #[.string ⟨X.toArray⟩, .slice none 0 0] 48 (0, 0))) (hvg : ∀ a, A = some a → v ≠ a.block) :
    Calls Tryd.prog 62 #[.slice A n c, .int .i64 (j : Int), .slice (some ⟨v, 0, none⟩) 1 1] w (InsP w B A n c (us.take j ++ kv0 X :: us.drop j)) := by
  rcases Nat.lt_or_ge j n with h | h
  · obtain ⟨g, rfl⟩ : ∃ g, A = some ⟨g, 0, none⟩ := by
      rcases hown.2 with ⟨h1, h2⟩ | ⟨g4, cap, cur, h1, _⟩
      · omega
      · injection h1 with h1 _ _; exact ⟨g4, h1⟩
    rcases Nat.lt_or_ge c (n + 1) with hc | hc
    · exact kInsert_grow us j n c v g X B w hown hus hn h hc hB hv
    · exact kInsert_shift us j n c v g X B w hown hus hn h hc hv (hvg _ rfl)
  · obtain rfl : j = n := by omega
    have h2 := kInsert_end us j c v A X B w hown hn hB hv
    rw [List.take_of_length_le (by omega), List.drop_of_length_le (by omega)]
    exact h2
theorem step_append_run8 {P : Program} {ops : Array Oper} {o : Oper} {a : Act} {w : World} {K : Act → World → Prop} {Q : Exit → Act → World → Prop} {E : Prop} (hgd : o.guard = none) (s x : Operand) (t tn : TypeId)
    (ho : o.op = .call { callee := .builtin .append, args := #[s, x], argTypes := #[t, tn] }) (vs vx : Value) (hs : a.eval s = vs) (hx : a.eval x = vx)
    (v' : Value) (w' : World) (hr : (Builtin.append_ #[t, tn] o.type #[vs, vx]).run P w = .ok v' w') (h : K (a.put o.dst v') w') :
    if Region.wanted o (yielded ops a.tmps) = true then Oper.wp P o a w K Q else E := by
  have hw : Region.wanted o (yielded ops a.tmps) = true := by simp [Region.wanted, hgd]
  rw [if_pos hw]
  exact Lib.wp_append_run w s x t tn ho vs vx hs hx v' w' hr h
theorem own_cut8 {w : World} {B n c m g : Nat} {e : TypeId} {us : List Kv} (h : w.ownsRow B e 2 (.slice (some ⟨g, 0, none⟩) n c) n (flatK us)) (hm : m ≤ n) : w.ownsRow B e 2 (.slice (some ⟨g, 0, none⟩) m c) m (flatK (us.take m)) := by
  obtain ⟨cur, hg, hcl, hct, hBg, hnc, hcm⟩ := own_open8 h
  refine own_shut8 hg hcl ?_ hBg (by omega) hcm
  have h1 : (cur.take (n * 2)).take (m * 2) = (flatK us).take (m * 2) := by rw [hct]
  rw [List.take_take, Nat.min_eq_left (by omega)] at h1
  rw [h1]
  have hul : us.length = n := by have := h.1; rw [flatK_len] at this; omega
  conv => lhs; rw [← List.take_append_drop m us, flatK_app]
  rw [List.take_left' (by rw [flatK_len, List.length_take, hul]; congr 1; omega)]
set_option maxRecDepth 10000 in
set_option maxHeartbeats 2000000 in
theorem kDelete (us : List Kv) (j n c g : Nat) (B : Nat) (w : World) (hown : w.ownsRow B 48 2 (.slice (some ⟨g, 0, none⟩) n c) n (flatK us)) (hus : us.length = n) (hn : n ≤ 100000) (hj : j < n) (x : Int) (hx : x = (j : Int) + 1) :
    Calls Tryd.prog 63 #[.slice (some ⟨g, 0, none⟩) n c, .int .i64 (j : Int), .int .i64 x] w fun e w' => e = .returned (.slice (some ⟨g, 0, none⟩) (n - 1) c) ∧ Hid (w'.ownsRow B 48 2 (.slice (some ⟨g, 0, none⟩) (n - 1) c) (n - 1) (flatK (us.take j ++ us.drop (j + 1)))) ∧ Hid (w.grownBy w' (some g)) := by
  obtain ⟨inf, hi, hz0, hz1, hz2⟩ := info_parts Tryd.infoK
  obtain ⟨j1, hj1⟩ : ∃ j1, j1 = j + 1 := ⟨_, rfl⟩
  obtain ⟨m, hm⟩ : ∃ m, m = n - 1 := ⟨_, rfl⟩
  obtain rfl : x = (j1 : Int) := by omega
  clear hx
  rw [← hj1, ← hm]
  have hlen := own_len8 hown
  have hadd : ∀ (p o q : Nat), (⟨p, o, none⟩ : Addr).add q = ⟨p, o + q, none⟩ := fun p o q => by unfold Addr.add; split <;> simp_all
  have hat : ∀ q u, (flatK (us.drop j1))[q]? = some u → w.drew.cell? ((if c = j1 then (⟨g, 0, none⟩ : Addr) else ⟨g, j1 * 2, none⟩).add q) = some u := fun q u hq => by
    have hfl : flatK us = flatK (us.take j1) ++ flatK (us.drop j1) := by rw [← flatK_app, List.take_append_drop]
    have hl1 : (flatK (us.take j1)).length = j1 * 2 := by rw [flatK_len, List.length_take, hus]; congr 1; omega
    have hl2 : (flatK (us.drop j1)).length = (n - j1) * 2 := by rw [flatK_len, List.length_drop, hus]
    have hq2 := (List.getElem?_eq_some_iff.1 hq).1
    rw [if_neg (by omega), hadd]
    show w.cell? _ = _
    rw [hown.cellAt _ (by omega), hfl, List.getElem?_append_right (by omega), hl1, Nat.add_sub_cancel_left]
    exact hq
  obtain ⟨w5, hr5, hown5, hg5⟩ := run_append_fits (P := Tryd.prog) w.drew B 23 23 48 inf 2 Tryd.underlying23 hi hz1 g j c (flatK (us.take j)) (show w.drew.ownsRow _ _ _ _ _ _ from own_cut8 hown (by omega)) (if c = j1 then (⟨g, 0, none⟩ : Addr) else ⟨g, j1 * 2, none⟩) (n - j1) (c - j1) (flatK (us.drop j1)) (by rw [flatK_len, List.length_drop, hus]) hat (flatK_one _) (by omega)
  rw [show j + (n - j1) = m by omega] at hr5 hown5
  have hr5b : (Builtin.append_ #[23, 23] 23 #[.slice (some ⟨g, 0, none⟩) j c, .slice (if c = j1 then some ⟨g, 0, none⟩ else some ⟨g, j1 * 2, none⟩) (n - j1) (c - j1)]).run Tryd.prog w.drew = .ok (.slice (some ⟨g, 0, none⟩) m c) w5 := by
    rw [← hr5]
    congr 3
    split <;> rfl
  obtain ⟨cur, hg, hcl, hct, hBg, hnc, hcm⟩ := own_open8 hown5
  have hg8 := own_blk8 hown5
  have hcell : ∀ q, q < 2 → (w5.cell? ⟨g, m * 2 + q, none⟩).isSome = true := fun q hq => by
    rw [cell_of_row w5 g _ _ _ _ hg]
    simp
    omega
  have hcx : ∀ ty, (Builtin.clear_ #[23] ty #[.slice (some ⟨g, m * 2, none⟩) (n - m) (c - m)]).run Tryd.prog w5 = .ok (.tuple #[]) ((w5.setCell ⟨g, m * 2, none⟩ (.string ⟨#[]⟩)).setCell ⟨g, m * 2 + 1, none⟩ (.slice none 0 0)) := fun ty => by
    rw [show n - m = 1 by omega]
    have hst := run_storeCells_cells (P := Tryd.prog) g (m * 2) [.string ⟨#[]⟩, .slice none 0 0] 0 w5 (by
      intro q hq
      have := hcell q (by simpa using hq)
      simpa using this) (fun q _ => World.ownsRow.frozenAt hown5 _) (by intro v hv; simp at hv; rcases hv with rfl | rfl <;> rfl)
    have hz : (Builtin.zeroCells (Value.agg #[.string ⟨#[]⟩, .slice none 0 0]).cells 1).toList = [.string ⟨#[]⟩, .slice none 0 0] := by kernel_rfl
    simp only [Nat.add_zero, World.setCells] at hst
    simp [Builtin.clear_, run_underlying Tryd.underlying23, hz, hst]
  have hfin : ∀ w7, w7 = (w5.setCell ⟨g, m * 2, none⟩ (.string ⟨#[]⟩)).setCell ⟨g, m * 2 + 1, none⟩ (.slice none 0 0) → w7.ownsRow B 48 2 (.slice (some ⟨g, 0, none⟩) m c) m (flatK (us.take j ++ us.drop j1)) ∧ w.grownBy w7 (some g) := fun w7 e => by
    subst e
    obtain ⟨o1, g1⟩ := World.ownsRow.stored hown5 (m * 2) (.string ⟨#[]⟩)
    obtain ⟨o2, g2⟩ := World.ownsRow.stored o1 (m * 2 + 1) (.slice none 0 0)
    have hxl : (flatK (us.take j) ++ flatK (us.drop j1)).length = m * 2 := hown5.1
    have e1 : ∀ a : Value, (flatK (us.take j) ++ flatK (us.drop j1)).set (m * 2) a = flatK (us.take j) ++ flatK (us.drop j1) := fun a => List.set_eq_of_length_le (by omega)
    have e2 : ∀ a : Value, (flatK (us.take j) ++ flatK (us.drop j1)).set (m * 2 + 1) a = flatK (us.take j) ++ flatK (us.drop j1) := fun a => List.set_eq_of_length_le (by omega)
    rw [e1, e2, ← flatK_app] at o2
    exact ⟨o2, grown_trans8 (grown_trans8 (grown_drew8 hg5) g1) g2⟩
  have Hfin := Lib.hid (hfin _ rfl)
  have Hcx := Lib.hid hcx
  have Hg5 := Lib.hid hg5
  have hmi : (m : Int) ≤ (n : Int) := by omega
  have hm0 : (0 : Int) ≤ (m : Int) := by omega
  have hnc2 : n ≤ c := hlen.1
  have hcm2 : c ≤ 9223372036854775807 := hlen.2
  have Hj1 := Lib.hid hj1
  have Hm := Lib.hid hm
  have hcm3 : ¬ (c = m) := by omega
  have hji : (j : Int) ≤ (j1 : Int) := by omega
  have hjn : (j : Int) ≤ (n : Int) := by omega
  have hjc : j ≤ c := by omega
  have hj1c : j1 ≤ n := by omega
  have hj1i : (j1 : Int) ≤ (n : Int) := by omega
  have hne : ¬ ((j : Int) = (j1 : Int)) := by omega
  clear hfin hr5 hcx hg5 hown5 hat hown hcell hg hcl hct hBg hnc hcm hg8 hi hz0 hz1 hz2 hadd hlen hus hj1 hm hj
  by_cases hcj : c = j1
  · have Hr5 := Lib.hid hr5b
    rw [if_pos hcj] at Hr5
    obtain rfl : n = c := by omega
    subst hcj
    rw [Nat.sub_self] at Hr5
    clear hr5b
    go_enter Tryd.func63, Tryd.ntmps63
    go_upto_region 5 with fail
    go_cut [0] (fun s0 wx => s0 = .slice (some ⟨g, 0, none⟩) m n ∧ wx = w5)
    case first =>
      refine wp_region_held_drew (S := fun _ => True) (by kernel_rfl) trivial (fun hS => ?_)
      refine wpAnyH_take (i := 0) (v := ?mp0) rfl (by kernel_rfl) (by kernel_rfl) (by kernel_rfl) (fun _ _ _ h => h) (Or.inl ⟨by rfl, ?np0⟩) hS ?op0
      case np0 => (intro wy hSy; go_simp; try with_reducible rfl)
      simp only [Act.put]
      refine wpAnyH_take (i := 1) (v := ?mp1) rfl (by kernel_rfl) (by kernel_rfl) (by kernel_rfl) (fun _ _ _ h => h) (Or.inl ⟨by rfl, ?np1⟩) hS ?op1
      case np1 => (intro wy hSy; go_simp; try with_reducible rfl)
      simp only [Act.put]
      refine wpAnyH_take (i := 3) (v := ?mp3) rfl (by kernel_rfl) (by kernel_rfl) (by kernel_rfl) (fun _ _ _ h => h) (Or.inl ⟨by rfl, ?np3⟩) hS ?op3
      case np3 => (intro wy hSy; go_simp; try with_reducible rfl)
      simp only [Act.put]
      refine wpAnyH_take (i := 4) (v := ?mp4) rfl (by kernel_rfl) (by kernel_rfl) (by kernel_rfl) (fun _ _ _ h => h) (Or.inl ⟨by rfl, ?np4⟩) hS ?op4
      case np4 => (intro wy hSy; go_simp; try with_reducible rfl)
      simp only [Act.put]
      refine wpAnyH_ready (rs := [2, 5]) (by kernel_rfl) (by simp) ?_
      refine AllReadyH.cons rfl (fun K hK => ?_) (AllReadyH.cons rfl (fun K hK => ?_) AllReadyH.nil)
      · skip
        go_simp
        refine hK.out _ _ ?_ (fun hS => ?_)
        · exact trivial
        clear hK K
        refine wpAnyH_ready (rs := [5]) (by kernel_rfl) (by simp) ?_
        refine AllReadyH.cons rfl (fun K hK => ?_) AllReadyH.nil
        go_simp
        refine hK.out _ _ ?_ (fun hS => ?_)
        · exact trivial
        clear hK K
        refine wpAnyH_ready (rs := [6]) (by kernel_rfl) (by simp) ?_
        refine AllReadyH.cons rfl (fun K hK => ?_) AllReadyH.nil
        refine step_append_run8 rfl (.tmp 22) (.tmp 25) 23 23 rfl _ _ rfl rfl _ _ Hr5.out ?_
        go_simp
        refine hK.out _ _ ?_ (fun hS => ?_)
        · exact trivial
        clear hK K
        refine wpAnyH_take (i := 7) (v := ?zp1) rfl (by kernel_rfl) (by kernel_rfl) (by kernel_rfl) (fun _ _ _ h => h) (Or.inl ⟨by rfl, ?yyp1⟩) hS ?xxp1
        case yyp1 => (intro wy hSy; go_simp; try with_reducible rfl)
        go_simp
        refine wpAnyH_done (by kernel_rfl) ?_ _
        go_wp2_with fail
        go_meet
        exact ⟨rfl, rfl⟩
      · skip
        go_simp
        refine hK.out _ _ ?_ (fun hS => ?_)
        · exact trivial
        clear hK K
        refine wpAnyH_ready (rs := [2]) (by kernel_rfl) (by simp) ?_
        refine AllReadyH.cons rfl (fun K hK => ?_) AllReadyH.nil
        go_simp
        refine hK.out _ _ ?_ (fun hS => ?_)
        · exact trivial
        clear hK K
        refine wpAnyH_ready (rs := [6]) (by kernel_rfl) (by simp) ?_
        refine AllReadyH.cons rfl (fun K hK => ?_) AllReadyH.nil
        refine step_append_run8 rfl (.tmp 22) (.tmp 25) 23 23 rfl _ _ rfl rfl _ _ Hr5.out ?_
        go_simp
        refine hK.out _ _ ?_ (fun hS => ?_)
        · exact trivial
        clear hK K
        refine wpAnyH_take (i := 7) (v := ?zp2) rfl (by kernel_rfl) (by kernel_rfl) (by kernel_rfl) (fun _ _ _ h => h) (Or.inl ⟨by rfl, ?yyp2⟩) hS ?xxp2
        case yyp2 => (intro wy hSy; go_simp; try with_reducible rfl)
        go_simp
        refine wpAnyH_done (by kernel_rfl) ?_ _
        go_wp2_with fail
        go_meet
        exact ⟨rfl, rfl⟩
    case rest =>
      obtain ⟨rfl, rfl⟩ := hcut
      have hcl := Hcx.out
      go_wp2_with fail
      go_ret
      exact ⟨rfl, Hfin.out.1, Hfin.out.2⟩
  · have Hr5 := Lib.hid hr5b
    rw [if_neg hcj] at Hr5
    clear hr5b
    go_enter Tryd.func63, Tryd.ntmps63
    go_upto_region 5 with fail
    go_cut [0] (fun s0 wx => s0 = .slice (some ⟨g, 0, none⟩) m c ∧ wx = w5)
    case first =>
      refine wp_region_held_drew (S := fun _ => True) (by kernel_rfl) trivial (fun hS => ?_)
      refine wpAnyH_take (i := 0) (v := ?mq0) rfl (by kernel_rfl) (by kernel_rfl) (by kernel_rfl) (fun _ _ _ h => h) (Or.inl ⟨by rfl, ?nq0⟩) hS ?oq0
      case nq0 => (intro wy hSy; go_simp; try with_reducible rfl)
      simp only [Act.put]
      refine wpAnyH_take (i := 1) (v := ?mq1) rfl (by kernel_rfl) (by kernel_rfl) (by kernel_rfl) (fun _ _ _ h => h) (Or.inl ⟨by rfl, ?nq1⟩) hS ?oq1
      case nq1 => (intro wy hSy; go_simp; try with_reducible rfl)
      simp only [Act.put]
      refine wpAnyH_take (i := 3) (v := ?mq3) rfl (by kernel_rfl) (by kernel_rfl) (by kernel_rfl) (fun _ _ _ h => h) (Or.inl ⟨by rfl, ?nq3⟩) hS ?oq3
      case nq3 => (intro wy hSy; go_simp; try with_reducible rfl)
      simp only [Act.put]
      refine wpAnyH_take (i := 4) (v := ?mq4) rfl (by kernel_rfl) (by kernel_rfl) (by kernel_rfl) (fun _ _ _ h => h) (Or.inl ⟨by rfl, ?nq4⟩) hS ?oq4
      case nq4 => (intro wy hSy; go_simp; try with_reducible rfl)
      simp only [Act.put]
      refine wpAnyH_ready (rs := [2, 5]) (by kernel_rfl) (by simp) ?_
      refine AllReadyH.cons rfl (fun K hK => ?_) (AllReadyH.cons rfl (fun K hK => ?_) AllReadyH.nil)
      · skip
        go_simp
        refine hK.out _ _ ?_ (fun hS => ?_)
        · exact trivial
        clear hK K
        refine wpAnyH_ready (rs := [5]) (by kernel_rfl) (by simp) ?_
        refine AllReadyH.cons rfl (fun K hK => ?_) AllReadyH.nil
        go_simp
        refine hK.out _ _ ?_ (fun hS => ?_)
        · exact trivial
        clear hK K
        refine wpAnyH_ready (rs := [6]) (by kernel_rfl) (by simp) ?_
        refine AllReadyH.cons rfl (fun K hK => ?_) AllReadyH.nil
        refine step_append_run8 rfl (.tmp 22) (.tmp 25) 23 23 rfl _ _ rfl rfl _ _ Hr5.out ?_
        go_simp
        refine hK.out _ _ ?_ (fun hS => ?_)
        · exact trivial
        clear hK K
        refine wpAnyH_take (i := 7) (v := ?zq1) rfl (by kernel_rfl) (by kernel_rfl) (by kernel_rfl) (fun _ _ _ h => h) (Or.inl ⟨by rfl, ?yyq1⟩) hS ?xxq1
        case yyq1 => (intro wy hSy; go_simp; try with_reducible rfl)
        go_simp
        refine wpAnyH_done (by kernel_rfl) ?_ _
        go_wp2_with fail
        go_meet
        exact ⟨rfl, rfl⟩
      · skip
        go_simp
        refine hK.out _ _ ?_ (fun hS => ?_)
        · exact trivial
        clear hK K
        refine wpAnyH_ready (rs := [2]) (by kernel_rfl) (by simp) ?_
        refine AllReadyH.cons rfl (fun K hK => ?_) AllReadyH.nil
        go_simp
        refine hK.out _ _ ?_ (fun hS => ?_)
        · exact trivial
        clear hK K
        refine wpAnyH_ready (rs := [6]) (by kernel_rfl) (by simp) ?_
        refine AllReadyH.cons rfl (fun K hK => ?_) AllReadyH.nil
        refine step_append_run8 rfl (.tmp 22) (.tmp 25) 23 23 rfl _ _ rfl rfl _ _ Hr5.out ?_
        go_simp
        refine hK.out _ _ ?_ (fun hS => ?_)
        · exact trivial
        clear hK K
        refine wpAnyH_take (i := 7) (v := ?zq2) rfl (by kernel_rfl) (by kernel_rfl) (by kernel_rfl) (fun _ _ _ h => h) (Or.inl ⟨by rfl, ?yyq2⟩) hS ?xxq2
        case yyq2 => (intro wy hSy; go_simp; try with_reducible rfl)
        go_simp
        refine wpAnyH_done (by kernel_rfl) ?_ _
        go_wp2_with fail
        go_meet
        exact ⟨rfl, rfl⟩
    case rest =>
      obtain ⟨rfl, rfl⟩ := hcut
      have hcl := Hcx.out
      go_wp2_with fail
      go_ret
      exact ⟨rfl, Hfin.out.1, Hfin.out.2⟩
end Go.Proofs.YtmigapjkicddiaaDoor
