/- Contract of the document's put: a rising row with one number more. -/
import Derived.Test.YtikpcpkclecciaaSpR
namespace Go.Proofs.Ytikpcpkclecciaa
open Go.RowKit

theorem Try.infoI : (Try.prog.info? 3).map (fun i => (i.zero, i.size, i.bytes)) = some (some (.int .i64 0), 1, 8) := by kernel_rfl
theorem ownForm {w : World} {base n s : Nat} {e : TypeId} {v : Value} {xs : List Value} (h : w.ownsRow base e s v n xs) : (v = .slice none 0 0 ∧ n = 0) ∨ ∃ g c, v = .slice (some ⟨g, 0, none⟩) n c ∧ base ≤ g ∧ g < w.heap.size ∧ n ≤ c ∧ c ≤ maxLen := by
  rcases h.2 with ⟨rfl, rfl⟩ | ⟨g, cap, cur, rfl, hb, hg, h1, h2, _⟩
  · exact .inl ⟨rfl, rfl⟩
  · exact .inr ⟨g, cap, rfl, hb, lt_of_block hg, h1, h2⟩
theorem ownPos {w : World} {base n s : Nat} {e : TypeId} {v : Value} {xs : List Value} (h : w.ownsRow base e s v n xs) (hn : 0 < n) : ∃ g c, v = .slice (some ⟨g, 0, none⟩) n c := by
  rcases ownForm h with ⟨_, h0⟩ | ⟨g, c, h0, _⟩
  · omega
  · exact ⟨g, c, h0⟩
theorem ownBs {w : World} {B B' n s : Nat} {e : TypeId} {v : Value} {xs : List Value} (h : w.ownsRow B e s v n xs) (hB : B' ≤ B) : w.ownsRow B' e s v n xs := by
  refine ⟨h.1, ?_⟩
  rcases h.2 with h | ⟨g, cap, cur, h1, h2, h3⟩
  · exact .inl h
  · exact .inr ⟨g, cap, cur, h1, Nat.le_trans hB h2, h3⟩
theorem ownTo {w w' : World} {B n s : Nat} {e : TypeId} {v : Value} {xs : List Value} (h : w.ownsRow B e s v n xs) (hb : Below w.heap.size w w') : w'.ownsRow B e s v n xs := by
  refine ⟨h.1, ?_⟩
  rcases h.2 with h | ⟨g, cap, cur, h1, h2, h3, h4⟩
  · exact .inl h
  · exact .inr ⟨g, cap, cur, h1, h2, (hb.block g (lt_of_block h3)).trans h3, h4⟩

theorem tw_len (l : List Int) (m : Int) : ∀ k, k ≤ l.length → (∀ x ∈ l.take k, x < m) → (∀ h : k < l.length, ¬ l[k] < m) → (l.takeWhile (fun x => decide (x < m))).length = k := by
  induction l with
  | nil => intro k hk _ _; simp at hk ⊢; omega
  | cons y l ih =>
    intro k hk h1 h2
    cases k with
    | zero =>
      have := h2 (by simp)
      simp at this
      simp only [List.takeWhile_cons, show ¬ y < m by omega, decide_false]
      rfl
    | succ k =>
      have hy := h1 y (by simp)
      simp only [List.takeWhile_cons, hy, decide_true, if_true, List.length_cons]
      rw [ih k (by simpa using hk) (fun x hx => h1 x (by simp [hx])) (fun h => h2 (by simpa using h))]

theorem RdI.src {w : World} {B n : Nat} {A : Option Addr} {l : List Int} (h : RdI w B A n l) : 0 < n → ∃ ad, A = some ad ∧ ∀ j u, (l.map (Value.int .i64))[j]? = some u → w.cell? (ad.add j) = some u := fun hn => by
  obtain ⟨ad, e, _, hc⟩ := h.2 hn
  refine ⟨ad, e, fun j u hu => ?_⟩
  rw [List.getElem?_map] at hu
  obtain ⟨z, hz, rfl⟩ := Option.map_eq_some_iff.1 hu
  obtain ⟨hj, rfl⟩ := List.getElem?_eq_some_iff.1 hz
  exact hc j hj
theorem RdI.drop0 {w : World} {B n g : Nat} {l : List Int} (h : RdI w B (some ⟨g, 0, none⟩) n l) (k : Nat) : RdI w B (some ⟨g, k, none⟩) (n - k) (l.drop k) := by
  refine ⟨by rw [List.length_drop, h.1], fun hn => ?_⟩
  obtain ⟨ad, e, hb, hc⟩ := h.2 (by omega)
  cases e
  refine ⟨_, rfl, hb, fun j hj => ?_⟩
  have h2 := hc (k + j) (by rw [List.length_drop] at hj; omega)
  have e1 : (⟨g, 0, none⟩ : Addr).add (k + j) = (⟨g, k, none⟩ : Addr).add j := by
    unfold Addr.add
    split <;> split <;> simp <;> omega
  rw [e1] at h2
  rw [h2, List.getElem_drop]
theorem int_one (l : List Int) : ∀ v ∈ l.map (Value.int .i64), v.oneCell' = true := by
  intro v hv
  obtain ⟨x, _, rfl⟩ := List.mem_map.1 hv
  rfl
theorem putI_len (l : List Int) (n : Int) : (putI l n).length ≤ l.length + 1 := by
  unfold putI
  dsimp only
  split
  · omega
  · simp; omega

set_option maxHeartbeats 1000000 in
theorem RPut_some (g n c : Nat) (es : List Int) (x : Int) (B : Nat) (w : World) (hown : w.ownsRow B 3 1 (.slice (some ⟨g, 0, none⟩) n c) n (es.map (Value.int .i64))) (hB : B ≤ w.heap.size) (hn : n ≤ 1000) (hnc : n ≤ c) (hc : c ≤ maxLen) :
    Calls Try.prog 25 #[.slice (some ⟨g, 0, none⟩) n c, .int .i64 x] w fun e w' => ∃ v', e = .returned v' ∧ w'.ownsRow B 3 1 v' (putI es (clS x)).length ((putI es (clS x)).map (Value.int .i64)) ∧ Below w.heap.size w w' := by
  obtain ⟨i, hi, hz0, hz1, hz2⟩ := info_parts Try.infoI
  have Hr := Lib.hid (RdI.own hown)
  have Hown := Lib.hid hown
  have hc2 : c ≤ 9223372036854775807 := by simpa [maxLen] using hc
  obtain ⟨m, hm⟩ : ∃ m, m = clS x := ⟨_, rfl⟩
  have Hm := Lib.hid hm
  rw [← hm]
  have hme : m = min (max x 0) 1099511627776 := hm
  have Hme := Lib.hid hme
  clear hown hm hme
  go_enter Try.func25, Try.ntmps25
  go_upto_region 1 with fail
  go_cut [1] (fun s1 wx => s1 = .int .i64 m ∧ wx = w)
  case first =>
    go_wp2_with fail
    all_goals
      have hmm := Hme.out
      go_meet
      exact ⟨by congr 1; omega, rfl⟩
  case rest =>
    obtain ⟨rfl, rfl⟩ := hcut
    go_wp2_with fail
    go_loopw [5] (fun k wr => wr = wc ∧ ∃ j : Nat, j ≤ n ∧ k = .int .i64 j ∧ Hid (∀ y ∈ es.take j, y < m)) (fun k _ => n - (intOf k).toNat)
    case atStart => exact ⟨rfl, 0, Nat.zero_le _, rfl, by intro y hy; simp at hy⟩
    case round =>
      obtain ⟨rfl, j, hj, rfl, Hj⟩ := hrel
      by_cases hjn : j < n
      · have hjl : j < es.length := by rw [Hr.out.1]; exact hjn
        obtain ⟨ad, he, _, hcell⟩ := Hr.out.cellAt hjn
        cases he
        have hadd : (⟨g, 0, none⟩ : Addr).add j = ⟨g, j, none⟩ := by unfold Addr.add; split <;> simp_all
        rw [hadd] at hcell
        obtain ⟨y, hy⟩ : ∃ y, y = es[j] := ⟨_, rfl⟩
        rw [← hy] at hcell
        have Hy := Lib.hid hy
        have Htk := Lib.hid (List.take_succ_eq_append_getElem hjl)
        have hj0 : (0 : Int) ≤ (j : Int) := by omega
        have hj1 : (j : Int) < (n : Int) := by omega
        clear hy hadd
        by_cases hlt : y < m
        · have Hj2 : Hid (∀ z ∈ es.take (j + 1), z < m) := by
            intro z hz
            rw [Htk.out] at hz
            rcases List.mem_append.1 hz with hz | hz
            · exact Hj.out z hz
            · simp at hz; rw [hz, ← Hy.out]; exact hlt
          go_wp2_with fail
          go_roundw
          case rel => exact ⟨by first | rfl | trivial, j + 1, by omega, by go_num, Hj2⟩
          case measure => simp [intOf]; omega
        · have Htw := Lib.hid (tw_len es m j (by omega) Hj.out (fun _ => by rw [← Hy.out]; exact hlt))
          by_cases heq : y = m
          · have Hp := Lib.hid (show putI es m = es by
              show (if es[(es.takeWhile (fun x => decide (x < m))).length]? = some m then _ else _) = es
              rw [Htw.out, List.getElem?_eq_getElem hjl, ← Hy.out, heq, if_pos rfl])
            subst heq
            go_wp2_with fail
            go_ret
            exact ⟨_, rfl, by rw [Hp.out, Hr.out.1]; exact Hown.out, Below.refl _ _⟩
          · have Hp := Lib.hid (show putI es m = es.take j ++ [m] ++ es.drop j by
              show (if es[(es.takeWhile (fun x => decide (x < m))).length]? = some m then _ else _) = _
              rw [Htw.out, List.getElem?_eq_getElem hjl, ← Hy.out, if_neg (by simpa using heq)])
            have hnm : ¬ y = m := heq
            have hjc : (j : Int) ≤ (c : Int) := by omega
            have hcj : ¬ c = j := by omega
            clear heq
            go_wp2_with (first
              | (at_builtin; refine wpList_append_rd rfl (.tmp 37) (.tmp 40) 35 rfl wr.heap.size 3 i (.int .i64 0) 8 Try.underlying35 hi hz0 hz1 hz2 rfl _ 0 _ rfl (World.ownsRow_nil wr wr.heap.size 3 1) (some ⟨g, 0, none⟩) j c ((es.take j).map (Value.int .i64)) rfl (by rw [List.length_map]; exact (Hr.out.take (by omega)).1) (Hr.out.take (by omega)).src (int_one _) (by simp only [maxLen]; omega) (by omega) (Nat.le_refl _) ?_; intro v1 w1 hown1 hg1; have Hb1 := Lib.hid ((Below.refl wr.heap.size wr).grown hg1 (Nat.le_refl _) (fun k q => by cases q)); have Hown1 := Lib.hid hown1; clear hown1 hg1)
              | (at_builtin; refine wpList_append_rd rfl (.tmp 42) (.tmp 44) 35 rfl wr.heap.size 3 i (.int .i64 0) 8 Try.underlying35 hi hz0 hz1 hz2 rfl _ _ _ rfl (Hown1.out.alloc _) (some ⟨w1.heap.size, 0, none⟩) 1 1 ([m].map (Value.int .i64)) rfl rfl (RdI_lit w1 3 [m]).src (int_one _) (by simp only [maxLen]; omega) (by omega) (by have := Hb1.out.size; simp; omega) ?_; intro v2 w2 hown2 hg2; have Hb2 := Lib.hid ((Hb1.out.alloc Hb1.out.size _).grown hg2 (by have := Hb1.out.size; simp; omega) (fun q hq => (Hown1.out.lt q hq).1)); have Hown2 := Lib.hid hown2; clear hown2 hg2)
              | (at_builtin; refine wpList_append_rd rfl (.tmp 46) (.tmp 49) 35 rfl wr.heap.size 3 i (.int .i64 0) 8 Try.underlying35 hi hz0 hz1 hz2 rfl _ _ _ rfl Hown2.out (some ⟨g, j, none⟩) (n - j) (c - j) ((es.drop j).map (Value.int .i64)) rfl (by rw [List.length_map]; exact (Hr.out.drop0 j).1) (((Hr.out.below Hb2.out).drop0 j)).src (int_one _) (by simp only [maxLen]; omega) (by omega) Hb2.out.size ?_; intro v3 w3 hown3 hg3; have Hb3 := Lib.hid (Hb2.out.grown hg3 Hb2.out.size (fun q hq => (Hown2.out.lt q hq).1)); have Hown3 := Lib.hid hown3; clear hown3 hg3))
            go_ret
            refine ⟨v3, rfl, ?_, Hb3.out⟩
            have h := ownBs Hown3.out hB
            rw [List.nil_append, Nat.zero_add] at h
            rw [Hp.out, List.map_append, List.map_append, List.length_append, List.length_append, List.length_take, List.length_drop, Hr.out.1, Nat.min_eq_left (by omega)]
            exact h
      · obtain rfl : j = n := by omega
        have hle : es.length = j := Hr.out.1
        have Hp := Lib.hid (show putI es m = es ++ [m] by
          have htw := tw_len es m j (by omega) Hj.out (fun h => by omega)
          show (if es[(es.takeWhile (fun x => decide (x < m))).length]? = some m then _ else _) = _
          rw [htw, List.getElem?_eq_none (by omega), if_neg (by simp), List.take_of_length_le (by omega), List.drop_eq_nil_of_le (by omega), List.append_nil])
        have hjc : (j : Int) ≤ (c : Int) := by omega
        clear hle
        by_cases hcj : c = j
        · subst hcj
          go_wp2_with (first
            | (at_builtin; refine wpList_append_rd rfl (.tmp 37) (.tmp 40) 35 rfl wr.heap.size 3 i (.int .i64 0) 8 Try.underlying35 hi hz0 hz1 hz2 rfl _ 0 _ rfl (World.ownsRow_nil wr wr.heap.size 3 1) (some ⟨g, 0, none⟩) c c (es.map (Value.int .i64)) rfl (by rw [List.length_map]; exact Hr.out.1) Hr.out.src (int_one _) (by simp only [maxLen]; omega) (by omega) (Nat.le_refl _) ?_; intro v1 w1 hown1 hg1; have Hb1 := Lib.hid ((Below.refl wr.heap.size wr).grown hg1 (Nat.le_refl _) (fun k q => by cases q)); have Hown1 := Lib.hid hown1; clear hown1 hg1)
            | (at_builtin; refine wpList_append_rd rfl (.tmp 42) (.tmp 44) 35 rfl wr.heap.size 3 i (.int .i64 0) 8 Try.underlying35 hi hz0 hz1 hz2 rfl _ _ _ rfl (Hown1.out.alloc _) (some ⟨w1.heap.size, 0, none⟩) 1 1 ([m].map (Value.int .i64)) rfl rfl (RdI_lit w1 3 [m]).src (int_one _) (by simp only [maxLen]; omega) (by omega) (by have := Hb1.out.size; simp; omega) ?_; intro v2 w2 hown2 hg2; have Hb2 := Lib.hid ((Hb1.out.alloc Hb1.out.size _).grown hg2 (by have := Hb1.out.size; simp; omega) (fun q hq => (Hown1.out.lt q hq).1)); have Hown2 := Lib.hid hown2; clear hown2 hg2)
            | (at_builtin; refine wpList_append_rd rfl (.tmp 46) (.tmp 49) 35 rfl wr.heap.size 3 i (.int .i64 0) 8 Try.underlying35 hi hz0 hz1 hz2 rfl _ _ _ rfl Hown2.out (some ⟨g, 0, none⟩) 0 0 [] rfl rfl (fun h => absurd h (by omega)) (by simp) (by simp only [maxLen]; omega) (by omega) Hb2.out.size ?_; intro v3 w3 hown3 hg3; have Hb3 := Lib.hid (Hb2.out.grown hg3 Hb2.out.size (fun q hq => (Hown2.out.lt q hq).1)); have Hown3 := Lib.hid hown3; clear hown3 hg3))
          go_ret
          refine ⟨v3, rfl, ?_, Hb3.out⟩
          have h := ownBs Hown3.out hB
          rw [List.nil_append, Nat.zero_add, List.append_nil, Nat.add_zero] at h
          rw [Hp.out, List.map_append, List.length_append, Hr.out.1]
          exact h
        · go_wp2_with (first
            | (at_builtin; refine wpList_append_rd rfl (.tmp 37) (.tmp 40) 35 rfl wr.heap.size 3 i (.int .i64 0) 8 Try.underlying35 hi hz0 hz1 hz2 rfl _ 0 _ rfl (World.ownsRow_nil wr wr.heap.size 3 1) (some ⟨g, 0, none⟩) j c (es.map (Value.int .i64)) rfl (by rw [List.length_map]; exact Hr.out.1) Hr.out.src (int_one _) (by simp only [maxLen]; omega) (by omega) (Nat.le_refl _) ?_; intro v1 w1 hown1 hg1; have Hb1 := Lib.hid ((Below.refl wr.heap.size wr).grown hg1 (Nat.le_refl _) (fun k q => by cases q)); have Hown1 := Lib.hid hown1; clear hown1 hg1)
            | (at_builtin; refine wpList_append_rd rfl (.tmp 42) (.tmp 44) 35 rfl wr.heap.size 3 i (.int .i64 0) 8 Try.underlying35 hi hz0 hz1 hz2 rfl _ _ _ rfl (Hown1.out.alloc _) (some ⟨w1.heap.size, 0, none⟩) 1 1 ([m].map (Value.int .i64)) rfl rfl (RdI_lit w1 3 [m]).src (int_one _) (by simp only [maxLen]; omega) (by omega) (by have := Hb1.out.size; simp; omega) ?_; intro v2 w2 hown2 hg2; have Hb2 := Lib.hid ((Hb1.out.alloc Hb1.out.size _).grown hg2 (by have := Hb1.out.size; simp; omega) (fun q hq => (Hown1.out.lt q hq).1)); have Hown2 := Lib.hid hown2; clear hown2 hg2)
            | (at_builtin; refine wpList_append_rd rfl (.tmp 46) (.tmp 49) 35 rfl wr.heap.size 3 i (.int .i64 0) 8 Try.underlying35 hi hz0 hz1 hz2 rfl _ _ _ rfl Hown2.out (some ⟨g, j, none⟩) 0 (c - j) [] rfl rfl (fun h => absurd h (by omega)) (by simp) (by simp only [maxLen]; omega) (by omega) Hb2.out.size ?_; intro v3 w3 hown3 hg3; have Hb3 := Lib.hid (Hb2.out.grown hg3 Hb2.out.size (fun q hq => (Hown2.out.lt q hq).1)); have Hown3 := Lib.hid hown3; clear hown3 hg3))
          go_ret
          refine ⟨v3, rfl, ?_, Hb3.out⟩
          have h := ownBs Hown3.out hB
          rw [List.nil_append, Nat.zero_add, List.append_nil, Nat.add_zero] at h
          rw [Hp.out, List.map_append, List.length_append, Hr.out.1]
          exact h


set_option maxHeartbeats 1000000 in
theorem RPut_nil (x : Int) (B : Nat) (w : World) (hB : B ≤ w.heap.size) :
    Calls Try.prog 25 #[.slice none 0 0, .int .i64 x] w fun e w' => ∃ v', e = .returned v' ∧ w'.ownsRow B 3 1 v' (putI [] (clS x)).length ((putI [] (clS x)).map (Value.int .i64)) ∧ Below w.heap.size w w' := by
  obtain ⟨i, hi, hz0, hz1, hz2⟩ := info_parts Try.infoI
  rw [putI_nil]
  obtain ⟨m, hm⟩ : ∃ m, m = clS x := ⟨_, rfl⟩
  rw [← hm]
  have hme : m = min (max x 0) 1099511627776 := hm
  have Hme := Lib.hid hme
  clear hm hme
  go_enter Try.func25, Try.ntmps25
  go_upto_region 1 with fail
  go_cut [1] (fun s1 wx => s1 = .int .i64 m ∧ wx = w)
  case first =>
    go_wp2_with fail
    all_goals
      have hmm := Hme.out
      go_meet
      exact ⟨by congr 1; omega, rfl⟩
  case rest =>
    obtain ⟨rfl, rfl⟩ := hcut
    go_wp2_with fail
    go_loopw [5] (fun k wr => wr = wc ∧ k = .int .i64 0) (fun _ _ => 0)
    case atStart => exact ⟨rfl, rfl⟩
    case round =>
      obtain ⟨rfl, rfl⟩ := hrel
      go_wp2_with (first
        | (at_builtin; refine wpList_append_rd rfl (.tmp 42) (.tmp 44) 35 rfl wr.heap.size 3 i (.int .i64 0) 8 Try.underlying35 hi hz0 hz1 hz2 rfl _ 0 _ rfl (World.ownsRow_nil _ wr.heap.size 3 1) (some ⟨wr.heap.size, 0, none⟩) 1 1 ([m].map (Value.int .i64)) rfl rfl (RdI_lit wr 3 [m]).src (int_one _) (by simp only [maxLen]; omega) (by omega) (by simp) ?_; intro v2 w2 hown2 hg2; have Hb2 := Lib.hid (((Below.refl wr.heap.size wr).alloc (Nat.le_refl _) _).grown hg2 (by simp) (fun q hq => by cases hq)); have Hown2 := Lib.hid hown2; clear hown2 hg2; obtain ⟨g2, c2, rfl⟩ := ownPos Hown2.out (by omega))
        | (at_builtin; refine wpList_append_rd rfl (.tmp 46) (.tmp 49) 35 rfl wr.heap.size 3 i (.int .i64 0) 8 Try.underlying35 hi hz0 hz1 hz2 rfl _ _ _ rfl Hown2.out none 0 0 [] rfl rfl (fun h => absurd h (by omega)) (by simp) (by simp only [maxLen]; omega) (by omega) Hb2.out.size ?_; intro v3 w3 hown3 hg3; have Hb3 := Lib.hid (Hb2.out.grown hg3 Hb2.out.size (fun q hq => (Hown2.out.lt q hq).1)); have Hown3 := Lib.hid hown3; clear hown3 hg3))
      go_ret
      exact ⟨v3, rfl, ownBs Hown3.out hB, Hb3.out⟩
/-- put of any row that the call owns -/
theorem RPut_any (v : Value) (n : Nat) (es : List Int) (x : Int) (B : Nat) (w : World) (hown : w.ownsRow B 3 1 v n (es.map (Value.int .i64))) (hB : B ≤ w.heap.size) (hn : n ≤ 1000) :
    Calls Try.prog 25 #[v, .int .i64 x] w fun e w' => ∃ v', e = .returned v' ∧ w'.ownsRow B 3 1 v' (putI es (clS x)).length ((putI es (clS x)).map (Value.int .i64)) ∧ Below w.heap.size w w' := by
  rcases ownForm hown with ⟨rfl, rfl⟩ | ⟨g, c, rfl, _, _, h1, h2⟩
  · have h0 := hown.1
    simp at h0
    subst h0
    exact RPut_nil x B w hB
  · exact RPut_some g n c es x B w hown hB hn h1 h2
end Go.Proofs.Ytikpcpkclecciaa
