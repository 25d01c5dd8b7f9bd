/- Plain consequences for the laws of layer 6: behind a snapshot nothing differs; dropped again it leaves what was there. No program. Plain: what a dropped snapshot knew is missed by no Diff over it. No program. -/
import Derived.Test.YtaobdebeglenaaaHdV
import Derived.Test.YtaobdebeglenaaaMa

namespace Go.Proofs.Ytaobdebeglenaaa

theorem freshO_len {m : List Int} (h : IsRow m) : (freshO m).length = m.length := by
  have e := rowF_len (gN m)
  unfold freshO
  rw [rowF_len, fresh_top, ← e]
  exact congrArg List.length (rowO_self h)
theorem merge_fresh {m : List Int} (h : IsRow m) : mergeO m (freshO m) = m := by
  refine row_ext (mergeO_is _ _) h fun k => ?_
  rw [gN_mergeO, gN_freshO]
  have := gN_st m k
  unfold St at this
  rcases this with e | e | e <;> rw [e] <;> decide
theorem changed_fresh (m : List Int) : changedO m [freshO m] = [] := by
  unfold changedO changedN
  rw [List.map_eq_nil_iff, List.filter_eq_nil_iff]
  intro k _
  rw [ch1, dif_st, gN_freshO]
  have := gN_st m k
  unfold St at this
  rcases this with e | e | e <;> rw [e] <;> decide
theorem sns_more {U C O l l' : Int} (hl : l ≤ l') : ∀ {a : Int} {ss : List Sn}, snsP U C O l a ss → snsP U C O l' a ss
  | _, [], _ => trivial
  | _, _ :: _, h => ⟨h.1, Int.le_trans h.2.1 hl, h.2.2.1, sns_more hl h.2.2.2⟩
theorem lastId_le {U C O l : Int} : ∀ {a : Int} {ss : List Sn}, a ≤ l → snsP U C O l a ss → lastId a ss ≤ l
  | _, [], h, _ => h
  | _, s :: r, _, h => show lastId s.id r ≤ l from lastId_le (a := s.id) (ss := r) h.2.1 h.2.2.2
theorem ids_lt {U C O l : Int} : ∀ {a : Int} {ss : List Sn}, snsP U C O l a ss → ∀ s ∈ ss, a < s.id ∧ s.id ≤ l
  | _, [], _, s, hs => by simp at hs
  | a, x :: r, h, s, hs => by
    rcases List.mem_cons.1 hs with rfl | hs
    · exact ⟨h.1, h.2.1⟩
    · have := ids_lt h.2.2.2 s hs
      exact ⟨Int.lt_trans h.1 this.1, this.2⟩
theorem snapE_0 {g : Hd} (h : snapE g = 0) : MayH g ∧ g.snaps.length < 4 ∧ g.last < 100 := by
  have hm := may_of_snap h
  refine ⟨hm, ?_⟩
  unfold snapE at h
  rw [if_pos hm] at h
  by_cases q : g.snaps.length ≥ 4 ∨ g.last ≥ 100
  · rw [if_pos q] at h; exact absurd h (by decide)
  · omega
theorem snap_may {g : Hd} (h : snapE g = 0) : MayH (snapH g) := by
  obtain ⟨hm, h4, h100⟩ := snapE_0 h
  obtain ⟨m1, ⟨m2, m2', m2r, m2l⟩, m3, m4, m5, m6⟩ := hm
  refine ⟨m1, ⟨m2, m2', freshO_is _, ?_⟩, ?_, ⟨?_, ?_⟩, m5, ?_⟩
  · show ((freshO g.map).length : Int) ≤ _
    rw [freshO_len m2r]; exact m2l
  · show (g.snaps ++ [_]).length ≤ 4
    simp; omega
  · show 0 ≤ g.last + 1; omega
  · show g.last + 1 ≤ 100; omega
  · show snsP g.u g.c g.o (g.last + 1) 0 (g.snaps ++ [⟨g.last + 1, g.size, g.map⟩])
    exact sns_snoc.2 ⟨sns_more (by omega) m6, by have := lastId_le m4.1 m6; show lastId 0 g.snaps < g.last + 1; omega, Int.le_refl _, ⟨m2, m2', m2r, m2l⟩⟩
theorem snap_find {g : Hd} (h : snapE g = 0) : findH (snapH g).snaps (g.last + 1) = g.snaps.length := by
  have hm := may_of_snap h
  refine findH_at (x := g.last + 1) (l := g.snaps ++ [⟨g.last + 1, g.size, g.map⟩]) (k := g.snaps.length) (by simp) (by simp) fun j hj => ?_
  have := (ids_lt hm.2.2.2.2.2 g.snaps[j] (List.getElem_mem hj)).2
  rw [List.getElem_append_left hj]
  omega
theorem snap_newest (g : Hd) : newestH (snapH g).snaps = g.last + 1 := lastId_snoc _ _ _
theorem snap_gone (g : Hd) : goneH (snapH g).snaps g.snaps.length = g.map := gone_split g.snaps [] _
theorem snap_dropE {g : Hd} (h : snapE g = 0) : dropE (snapH g) (g.last + 1) = 0 := by
  unfold dropE
  rw [if_pos (snap_may h), snap_find h, if_neg (by omega)]
theorem snap_drop {g : Hd} (h : snapE g = 0) : dropX (snapH g) (g.last + 1) = { g with last := g.last + 1 } := by
  obtain ⟨hm, _, _⟩ := snapE_0 h
  unfold dropX
  rw [if_pos (snap_dropE h), snap_find h]
  have e := drop_last g.u g.c g.o g.size (g.last + 1) g.seq (freshO g.map) g.snaps ⟨g.last + 1, g.size, g.map⟩
  show dropH ⟨g.u, g.c, g.o, g.size, freshO g.map, g.snaps ++ [⟨g.last + 1, g.size, g.map⟩], g.last + 1, g.seq⟩ (g.snaps.length : Int).toNat = _
  rw [Int.toNat_natCast, e, merge_fresh hm.2.1.2.2.1]
theorem snap_drop_may {g : Hd} (h : snapE g = 0) : MayH { g with last := g.last + 1 } := by
  obtain ⟨hm, _, _⟩ := snapE_0 h
  obtain ⟨m1, m2, m3, m4, m5, m6⟩ := hm
  exact ⟨m1, m2, m3, ⟨by show 0 ≤ g.last + 1; omega, by show g.last + 1 ≤ 100; omega⟩, m5, sns_more (show g.last ≤ g.last + 1 by omega) m6⟩
theorem snap_diffE {g : Hd} (h : snapE g = 0) : diffE (snapH g) (g.last + 1) 0 = 0 := by
  unfold diffE
  rw [if_pos (snap_may h), snap_find h, if_neg (by omega)]
theorem snap_diff {g : Hd} (h : snapE g = 0) : diffX (snapH g) (g.last + 1) 0 = [] := by
  unfold diffX
  rw [if_pos (snap_diffE h)]
  unfold diffH restH
  rw [snap_find h, Int.toNat_natCast, snap_gone, if_pos rfl]
  have e : (snapH g).snaps.drop (g.snaps.length + 1) = [] := by
    show (g.snaps ++ [_]).drop (g.snaps.length + 1) = []
    exact List.drop_eq_nil_of_le (by simp)
  rw [e]
  exact changed_fresh g.map
theorem mayE_0 {g : Hd} (h : MayH g) : mayE g = 0 := by unfold mayE; rw [if_pos h]
theorem mayE_n {g : Hd} (h : ¬ MayH g) : mayE g = 60 := by unfold mayE; rw [if_neg h]
theorem snapE_cases (g : Hd) : snapE g = 0 ∨ (snapE g = 60 ∧ mayE g = 60) ∨ (snapE g = 110 ∧ mayE g = 0) := by
  unfold snapE mayE
  by_cases h : MayH g
  · rw [if_pos h, if_pos h]
    by_cases q : g.snaps.length ≥ 4 ∨ g.last ≥ 100
    · rw [if_pos q]; exact .inr (.inr ⟨rfl, rfl⟩)
    · rw [if_neg q]; exact .inl rfl
  · rw [if_neg h, if_neg h]; exact .inr (.inl ⟨rfl, rfl⟩)
end Go.Proofs.Ytaobdebeglenaaa

namespace Go.Proofs.Ytaobdebeglenaaa

theorem miss_pt (x y z : List Int) (B T : List (List Int)) (o : Nat) :
    (chB x (B ++ mergeO y z :: T) o = true → chB x (B ++ y :: z :: T) o = true) ∧
    (chB x (B ++ y :: z :: T) o = true → chB x (B ++ mergeO y z :: T) o = false → (gN x o ≠ 0 → gN y o = 0) ∧ (gN x o = 0 → gN z o = 0 ∧ ∀ e ∈ T, gN e o = 0)) := by
  unfold chB
  simp only [List.any_append, List.any_cons, dif_st, gN_mergeO]
  have hx := gN_st x o
  have hy := gN_st y o
  have hz := gN_st z o
  have hT : gN x o = 0 → (T.any fun m => difS (gN x o) (gN m o)) = false → ∀ e ∈ T, gN e o = 0 := by
    intro h0 h e he
    have h2 : difS (gN x o) (gN e o) = false := by
      have := List.any_eq_false.1 h e he
      simpa using this
    rw [h0] at h2
    have h3 := gN_st e o
    unfold St at h3
    rcases h3 with q | q | q <;> rw [q] at h2 ⊢ <;> revert h2 <;> decide
  generalize (B.any fun m => difS (gN x o) (gN m o)) = b
  generalize hA : (T.any fun m => difS (gN x o) (gN m o)) = t at hT
  generalize gN x o = X at *
  generalize gN y o = Y at *
  generalize gN z o = Z at *
  unfold St at hx hy hz
  constructor
  · cases b <;> cases t <;> rcases hx with rfl | rfl | rfl <;> rcases hy with rfl | rfl | rfl <;> rcases hz with rfl | rfl | rfl <;> decide
  · intro h1 h2
    have ht : t = false := by
      cases t
      · rfl
      · simp at h2
    subst ht
    refine ⟨?_, fun h0 => ⟨?_, hT h0 rfl⟩⟩
    · revert h1 h2
      cases b <;> rcases hx with rfl | rfl | rfl <;> rcases hy with rfl | rfl | rfl <;> rcases hz with rfl | rfl | rfl <;> decide
    · revert h1 h2 h0
      cases b <;> rcases hx with rfl | rfl | rfl <;> rcases hy with rfl | rfl | rfl <;> rcases hz with rfl | rfl | rfl <;> decide
theorem mem_changed {x : List Int} {L : List (List Int)} {o : Int} : o ∈ changedO x L ↔ ∃ j : Nat, j < 512 ∧ o = (j : Int) ∧ chB x L j = true := by
  unfold changedO changedN
  rw [List.mem_map]
  constructor
  · rintro ⟨j, hj, rfl⟩
    obtain ⟨h1, h2⟩ := List.mem_filter.1 hj
    exact ⟨j, List.mem_range.1 h1, rfl, h2⟩
  · rintro ⟨j, h1, rfl, h2⟩
    exact ⟨j, List.mem_filter.2 ⟨List.mem_range.2 h1, h2⟩, rfl⟩
theorem miss_mem (x y z : List Int) (B T : List (List Int)) :
    (∀ o ∈ changedO x (B ++ mergeO y z :: T), o ∈ changedO x (B ++ y :: z :: T)) ∧
    (∀ o ∈ changedO x (B ++ y :: z :: T), o ∉ changedO x (B ++ mergeO y z :: T) → (getO x o ≠ 0 → getO y o = 0) ∧ (getO x o = 0 → getO z o = 0 ∧ ∀ e ∈ T, getO e o = 0)) := by
  constructor
  · intro o ho
    obtain ⟨j, h1, h2, h3⟩ := mem_changed.1 ho
    exact mem_changed.2 ⟨j, h1, h2, (miss_pt x y z B T j).1 h3⟩
  · intro o ho hn
    obtain ⟨j, h1, rfl, h3⟩ := mem_changed.1 ho
    have h4 : chB x (B ++ mergeO y z :: T) j = false := by
      cases q : chB x (B ++ mergeO y z :: T) j with
      | false => rfl
      | true => exact absurd (mem_changed.2 ⟨j, h1, rfl, q⟩) hn
    have h5 := (miss_pt x y z B T j).2 h3 h4
    simp only [getO_nat]
    exact h5

theorem mergeO_len {o m : List Int} (h : IsRow m) : (mergeO o m).length = m.length := by
  have e := rowF_len (gN m)
  unfold mergeO
  rw [rowF_len, merge_top, ← e]
  exact congrArg List.length (rowO_self h)
theorem split2 {α : Type} (l : List α) {a k : Nat} (hk : k < l.length) (hak : a < k) :
    ∃ va sa vb sk vr, l = va ++ sa :: (vb ++ sk :: vr) ∧ va.length = a ∧ a + 1 + vb.length = k ∧ l[a]? = some sa ∧ l[k]? = some sk := by
  have e1 : l = l.take a ++ l[a] :: l.drop (a + 1) := by rw [List.getElem_cons_drop, List.take_append_drop]
  have hk2 : k - (a + 1) < (l.drop (a + 1)).length := by rw [List.length_drop]; omega
  have e2 : l.drop (a + 1) = (l.drop (a + 1)).take (k - (a + 1)) ++ (l.drop (a + 1))[k - (a + 1)] :: (l.drop (a + 1)).drop (k - (a + 1) + 1) := by rw [List.getElem_cons_drop, List.take_append_drop]
  refine ⟨l.take a, l[a], (l.drop (a + 1)).take (k - (a + 1)), (l.drop (a + 1))[k - (a + 1)], (l.drop (a + 1)).drop (k - (a + 1) + 1), ?_, ?_, ?_, List.getElem?_eq_getElem (by omega), ?_⟩
  · conv => lhs; rw [e1, e2]
  · rw [List.length_take]; omega
  · rw [List.length_take, List.length_drop]; omega
  · rw [List.getElem_drop, List.getElem?_eq_getElem hk]
    congr 2
    omega
theorem ids_sorted {U C O l : Int} : ∀ {a : Int} {va : List Sn} {s : Sn} {r : List Sn}, snsP U C O l a (va ++ s :: r) → (∀ t ∈ va, t.id < s.id) ∧ (∀ t ∈ r, s.id < t.id)
  | a, [], s, r, h => ⟨fun t ht => by simp at ht, fun t ht => (ids_lt h.2.2.2 t ht).1⟩
  | a, x :: va, s, r, h => by
    obtain ⟨h1, h2⟩ := ids_sorted (va := va) (s := s) (r := r) h.2.2.2
    refine ⟨fun t ht => ?_, h2⟩
    rcases List.mem_cons.1 ht with rfl | ht
    · exact (ids_lt h.2.2.2 s (by simp)).1
    · exact h1 t ht
theorem find_in {va : List Sn} {s : Sn} {r : List Sn} {x : Int} (h : ∀ t ∈ va, t.id < x) (hs : s.id = x) : findH (va ++ s :: r) x = va.length :=
  findH_at (x := x) (l := va ++ s :: r) (k := va.length) (by simp) (by simp [hs]) fun j hj => by
    rw [List.getElem_append_left hj]
    have := h _ (List.getElem_mem hj)
    omega
/-- without one of them -/
theorem sns_del {U C O l : Int} {s t : Sn} {r : List Sn} {m : List Int} (hm : IsRow m) (hl : (m.length : Int) ≤ objH U C O t.size) : ∀ {a : Int} {va : List Sn}, snsP U C O l a (va ++ s :: t :: r) → snsP U C O l a (va ++ { t with map := m } :: r)
  | a, [], h => by
    obtain ⟨h1, h2, h3, h4, h5, h6, h7⟩ := h
    exact ⟨Int.lt_trans h1 h4, h5, ⟨h6.1, h6.2.1, hm, hl⟩, h7⟩
  | a, x :: va, h => ⟨h.1, h.2.1, h.2.2.1, sns_del hm hl h.2.2.2⟩
theorem at_split {l : List Sn} {k : Nat} {x : Int} (h : findH l x = k) : ∃ s, l[k]? = some s ∧ s.id = x := by
  obtain ⟨h1, h2⟩ := findH_id h
  exact ⟨l[k], List.getElem?_eq_getElem h1, h2⟩
theorem gone_in (va r : List Sn) (s : Sn) : goneH (va ++ s :: r) va.length = s.map := gone_split va r s
theorem misses {g : Hd} {f x : Int} (hm : MayH g) (hfx : f < x) (he : diffE g f 0 = 0) (hd : dropE g x = 0) :
    diffE (dropX g x) f 0 = 0 ∧ (∀ o ∈ diffX (dropX g x) f 0, o ∈ diffX g f 0) ∧
    (∀ o ∈ diffX g f 0, o ∉ diffX (dropX g x) f 0 → (getO (goneH g.snaps (findH g.snaps f).toNat) o ≠ 0 → getO (goneH g.snaps (findH g.snaps x).toNat) o = 0) ∧ (getO (goneH g.snaps (findH g.snaps f).toNat) o = 0 → getO g.map o = 0)) ∧
    ∃ a k : Nat, findH g.snaps f = a ∧ findH g.snaps x = k ∧ a < g.snaps.length ∧ k < g.snaps.length := by
  obtain ⟨a, ha⟩ : ∃ a : Nat, findH g.snaps f = a := by
    refine ⟨(findH g.snaps f).toNat, ?_⟩
    unfold diffE at he
    rw [if_pos hm] at he
    by_cases q : findH g.snaps f < 0 ∨ (0 : Int) ≠ 0 ∧ findH g.snaps 0 < findH g.snaps f
    · rw [if_pos q] at he; exact absurd he (by decide)
    · omega
  obtain ⟨k, hk⟩ : ∃ k : Nat, findH g.snaps x = k := by
    refine ⟨(findH g.snaps x).toNat, ?_⟩
    unfold dropE at hd
    rw [if_pos hm] at hd
    by_cases q : findH g.snaps x < 0
    · rw [if_pos q] at hd; exact absurd hd (by decide)
    · omega
  obtain ⟨sa', q1, q2⟩ := at_split ha
  obtain ⟨sk', q3, q4⟩ := at_split hk
  have hkl : k < g.snaps.length := (List.getElem?_eq_some_iff.1 q3).1
  have hal : a < g.snaps.length := (List.getElem?_eq_some_iff.1 q1).1
  have hak : a < k := by
    refine Nat.lt_of_not_le fun q => ?_
    rcases Nat.lt_or_eq_of_le q with q | q
    · obtain ⟨va, sk, vb, sa, vr, e, l1, l2, e1, e2⟩ := split2 g.snaps hal q
      rw [q3] at e1; rw [q1] at e2
      cases e1; cases e2
      have h6 := hm.2.2.2.2.2
      rw [e] at h6
      have := (ids_sorted h6).2 sa' (by simp)
      omega
    · subst q
      rw [q3] at q1
      cases q1
      omega
  obtain ⟨va, sa, vb, sk, vr, e, l1, l2, e1, e2⟩ := split2 g.snaps hkl hak
  rw [q1] at e1; rw [q3] at e2
  cases e1; cases e2
  obtain ⟨U, C, O, sz, m, snaps, last, seq⟩ := g
  dsimp only at *
  subst e
  obtain ⟨m1, m2, m3, m4, m5, m6⟩ := hm
  have hlt := (ids_sorted m6).1
  have hga : goneH (va ++ sa' :: (vb ++ sk' :: vr)) a = sa'.map := by rw [← l1]; exact gone_in va _ sa'
  have eK : va ++ sa' :: (vb ++ sk' :: vr) = (va ++ sa' :: vb) ++ sk' :: vr := by simp
  have lK : (va ++ sa' :: vb).length = k := by simp; omega
  have hgk : goneH (va ++ sa' :: (vb ++ sk' :: vr)) k = sk'.map := by rw [eK, ← lK]; exact gone_in _ _ sk'
  have hold : diffX ⟨U, C, O, sz, m, va ++ sa' :: (vb ++ sk' :: vr), last, seq⟩ f 0 = changedO sa'.map (vb.map Sn.map ++ sk'.map :: (vr.map Sn.map ++ [m])) := by
    unfold diffX
    rw [if_pos he]
    unfold diffH restH
    dsimp only
    rw [ha, Int.toNat_natCast, hga, if_pos rfl]
    have : (va ++ sa' :: (vb ++ sk' :: vr)).drop (a + 1) = vb ++ sk' :: vr := by rw [← l1, ← List.drop_drop]; simp
    rw [this]
    simp
  rw [hold, ha, hk, Int.toNat_natCast, Int.toNat_natCast, hga, hgk]
  cases vr with
  | nil =>
    have hnew : dropX ⟨U, C, O, sz, m, va ++ sa' :: (vb ++ [sk']), last, seq⟩ x = ⟨U, C, O, sz, mergeO sk'.map m, va ++ sa' :: vb, last, seq⟩ := by
      unfold dropX
      rw [if_pos hd]
      dsimp only
      rw [hk, Int.toNat_natCast, eK, ← lK]
      exact drop_last U C O sz last seq m (va ++ sa' :: vb) sk'
    have hfa : findH (va ++ sa' :: vb) f = a := by rw [← l1]; exact find_in (by rw [← q2]; exact hlt) q2
    have hmn : MayH ⟨U, C, O, sz, mergeO sk'.map m, va ++ sa' :: vb, last, seq⟩ := by
      refine ⟨m1, ⟨m2.1, m2.2.1, mergeO_is _ _, by show ((mergeO sk'.map m).length : Int) ≤ _; rw [mergeO_len m2.2.2.1]; exact m2.2.2.2⟩, ?_, m4, m5, ?_⟩
      · show (va ++ sa' :: vb).length ≤ 4
        have : (va ++ sa' :: (vb ++ [sk'])).length ≤ 4 := m3
        simp at this ⊢; omega
      · show snsP U C O last 0 (va ++ sa' :: vb)
        have h6 : snsP U C O last 0 (va ++ sa' :: (vb ++ [sk'])) := m6
        rw [eK] at h6
        exact (sns_app.1 h6).1
    have hE : diffE (dropX ⟨U, C, O, sz, m, va ++ sa' :: (vb ++ [sk']), last, seq⟩ x) f 0 = 0 := by
      rw [hnew]
      unfold diffE
      dsimp only
      rw [if_pos hmn, hfa, if_neg (by omega)]
    have hX : diffX (dropX ⟨U, C, O, sz, m, va ++ sa' :: (vb ++ [sk']), last, seq⟩ x) f 0 = changedO sa'.map (vb.map Sn.map ++ mergeO sk'.map m :: []) := by
      unfold diffX
      rw [if_pos hE, hnew]
      unfold diffH restH
      dsimp only
      rw [hfa, Int.toNat_natCast, if_pos rfl, ← l1, gone_in]
      have : (va ++ sa' :: vb).drop (va.length + 1) = vb := by rw [← List.drop_drop]; simp
      rw [this]
    rw [hX]
    have hM := miss_mem sa'.map sk'.map m (vb.map Sn.map) []
    refine ⟨hE, hM.1, fun o h1 h2 => ?_, a, k, rfl, rfl, hal, hkl⟩
    obtain ⟨h3, h4⟩ := hM.2 o h1 h2
    exact ⟨h3, fun q => (h4 q).1⟩
  | cons t vr =>
    have hnew : dropX ⟨U, C, O, sz, m, va ++ sa' :: (vb ++ sk' :: t :: vr), last, seq⟩ x = ⟨U, C, O, sz, m, (va ++ sa' :: vb) ++ { t with map := mergeO sk'.map t.map } :: vr, last, seq⟩ := by
      unfold dropX
      rw [if_pos hd]
      dsimp only
      rw [hk, Int.toNat_natCast, eK, ← lK]
      exact drop_mid U C O sz last seq m (va ++ sa' :: vb) vr sk' t
    have eN : (va ++ sa' :: vb) ++ { t with map := mergeO sk'.map t.map } :: vr = va ++ sa' :: (vb ++ { t with map := mergeO sk'.map t.map } :: vr) := by simp
    have hfa : findH ((va ++ sa' :: vb) ++ { t with map := mergeO sk'.map t.map } :: vr) f = a := by rw [eN, ← l1]; exact find_in (by rw [← q2]; exact hlt) q2
    have h6 : snsP U C O last 0 ((va ++ sa' :: vb) ++ sk' :: t :: vr) := by rw [← eK]; exact m6
    have htr : sizedP U C O t.size t.map := (sns_app.1 h6).2.2.2.2.2.2.1
    have hmn : MayH ⟨U, C, O, sz, m, (va ++ sa' :: vb) ++ { t with map := mergeO sk'.map t.map } :: vr, last, seq⟩ := by
      refine ⟨m1, m2, ?_, m4, m5, sns_del (mergeO_is _ _) (by rw [mergeO_len htr.2.2.1]; exact htr.2.2.2) h6⟩
      show ((va ++ sa' :: vb) ++ _ :: vr).length ≤ 4
      have : (va ++ sa' :: (vb ++ sk' :: t :: vr)).length ≤ 4 := m3
      simp at this ⊢; omega
    have hE : diffE (dropX ⟨U, C, O, sz, m, va ++ sa' :: (vb ++ sk' :: t :: vr), last, seq⟩ x) f 0 = 0 := by
      rw [hnew]
      unfold diffE
      dsimp only
      rw [if_pos hmn, hfa, if_neg (by omega)]
    have hX : diffX (dropX ⟨U, C, O, sz, m, va ++ sa' :: (vb ++ sk' :: t :: vr), last, seq⟩ x) f 0 = changedO sa'.map (vb.map Sn.map ++ mergeO sk'.map t.map :: (vr.map Sn.map ++ [m])) := by
      unfold diffX
      rw [if_pos hE, hnew]
      unfold diffH restH
      dsimp only
      rw [hfa, Int.toNat_natCast, if_pos rfl, eN, ← l1, gone_in]
      have : (va ++ sa' :: (vb ++ { t with map := mergeO sk'.map t.map } :: vr)).drop (va.length + 1) = vb ++ { t with map := mergeO sk'.map t.map } :: vr := by rw [← List.drop_drop]; simp
      rw [this]
      simp
    rw [hX]
    have hM := miss_mem sa'.map sk'.map t.map (vb.map Sn.map) (vr.map Sn.map ++ [m])
    have eO : vb.map Sn.map ++ sk'.map :: ((t :: vr).map Sn.map ++ [m]) = vb.map Sn.map ++ sk'.map :: t.map :: (vr.map Sn.map ++ [m]) := by simp
    rw [eO]
    refine ⟨hE, hM.1, fun o h1 h2 => ?_, a, k, rfl, rfl, hal, hkl⟩
    obtain ⟨h3, h4⟩ := hM.2 o h1 h2
    exact ⟨h3, fun q => (h4 q).2 m (by simp)⟩
end Go.Proofs.Ytaobdebeglenaaa
