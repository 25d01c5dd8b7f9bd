/- The document's Pack. Written by wip/genep.py. -/
import Derived.Test.YtfabcmohaikfoaaDoorEnD
import Derived.Test.YtfabcmohaikfoaaDoorEnE
import Derived.Test.YtfabcmohaikfoaaDoorFrC
namespace Go.Proofs.YtfabcmohaikfoaaDoor
open Go.RowKit

theorem pack_no {e : En} (h : ¬ May7 e) : pack7 e = [] := by unfold pack7; rw [if_neg h]
theorem pack_yes {e : En} (h : May7 e) : pack7 e = mkF e.k.toNat (bod7 (cln7 e)) := by unfold pack7; rw [if_pos h]
theorem blob_le7 (x : List UInt8) (h : x.length ≤ 128) : (blobB x).length ≤ 130 := by rw [blobB_length x (by omega)]; omega
set_option maxRecDepth 10000 in
set_option maxHeartbeats 2000000 in
theorem RPack7_no (S O K F L P : Int) (A : Option Addr) (n c : Nat) (d : List UInt8) (w : World) (hr : Rd w w.heap.size A n d) (h : ¬ May7 ⟨S, O, K, F, L, P, d⟩) :
    Calls Tryd.prog 18 #[eV S O K F L P A n c] w (Out w []) := by
  have hl := hr.1
  have Hb := al7 w (.cells #[.int .i64 S, .int .i64 O, .int .i64 K, .int .i64 F, .int .i64 L, .int .i64 P, .slice A n c] 24)
  have Hh := Lib.hid (EAt.box w S O K F L P A n c 24)
  have Hr := Lib.hid ((hr.below Hb.out).more Hb.out.size)
  clear hr
  go_enter Tryd.func18, Tryd.ntmps18
  go_upto_region 1 with fail
  generalize w.alloc (.cells #[.int .i64 S, .int .i64 O, .int .i64 K, .int .i64 F, .int .i64 L, .int .i64 P, .slice A n c] 24) = w1 at Hb Hh Hr ⊢
  obtain ⟨b, hbe⟩ : ∃ b, b = w.heap.size := ⟨_, rfl⟩
  rw [← hbe] at Hh ⊢
  clear hbe
  have c0 := Hh.out.c0
  have c1 := Hh.out.c1
  have c2 := Hh.out.c2
  have c3 := Hh.out.c3
  have c4 := Hh.out.c4
  have c5 := Hh.out.c5
  have c6 := Hh.out.c6
  have HM := Lib.hid (RMay7 S O K F L P A n c d hl w1)
  rw [decide_eq_false h] at HM
  clear Hr
  go_wp2_with fail
  refine HM.out.mono ?_
  rintro e w2 ⟨rfl, hb2⟩
  go_wp2_with fail
  go_ret
  exact Out.mk (World.ownsRow_nil _ _ _ _) (bel7 Hb hb2).out

set_option maxRecDepth 10000 in
set_option maxHeartbeats 3000000 in
theorem RPack7_yes (S O : Int) (k : Nat) (F L P : Int) (A : Option Addr) (n c : Nat) (d : List UInt8) (w : World) (hr : Rd w w.heap.size A n d) (hc : n ≤ c) (hm : c ≤ 9223372036854775807) (h : May7 ⟨S, O, (k : Int), F, L, P, d⟩) :
    Calls Tryd.prog 18 #[eV S O (k : Int) F L P A n c] w (Out w (mkF k (bod7 (cln7 ⟨S, O, (k : Int), F, L, P, d⟩)))) := by
  have Hl0 := Lib.hid hr.1
  have hk : k ≤ 255 := by have := may_kind h; dsimp only at this; omega
  have hD := cln_data h
  obtain ⟨e, he⟩ : ∃ e, e = cln7 ⟨S, O, (k : Int), F, L, P, d⟩ := ⟨_, rfl⟩
  have hes : e.s = S := by rw [he]; rfl
  have heo : e.o = O := by rw [he]; rfl
  have hek : e.k = (k : Int) := by rw [he]; rfl
  have HC1 : Hid (∀ w1 : World, Rd w1 w1.heap.size A n d → Calls Tryd.prog 14 #[eV S O (k : Int) F L P A n c] w1 fun x w' => ∃ A n c, x = .returned (eV S O (k : Int) e.f e.l e.p A n c) ∧ n = e.d.length ∧ Rd w' w'.heap.size A n e.d ∧ n ≤ c ∧ c ≤ 9223372036854775807 ∧ Hid (Below w1.heap.size w1 w')) := fun w1 h1 =>
    (RClean7 S O (k : Int) F L P A n c d w1 h1 hc hm).mono fun x w' q => by
      unfold RClnP at q
      rw [← he] at q
      rw [hes, heo, hek] at q
      exact q
  have He := Lib.hid (show bod7 e = numB 6 S ++ numB 1 O ++ numB 2 e.f ++ numB 2 e.l ++ numB 1 e.p ++ blobB e.d by unfold bod7; rw [hes, heo])
  have Hdl := Lib.hid (show e.d.length ≤ 128 by rw [he]; exact hD)
  have HMw := Lib.hid (decide_eq_true h)
  rw [← he]
  clear he hes heo hek h hD
  generalize e.f = f at HC1 He
  generalize e.l = l at HC1 He
  generalize e.p = p at HC1 He
  have Hb := al7 w (.cells #[.int .i64 S, .int .i64 O, .int .i64 (k : Int), .int .i64 F, .int .i64 L, .int .i64 P, .slice A n c] 24)
  have Hh := Lib.hid (EAt.box w S O (k : Int) F L P A n c 24)
  have Hr := Lib.hid ((hr.below Hb.out).more Hb.out.size)
  clear hr
  go_enter Tryd.func18, Tryd.ntmps18
  go_upto_region 1 with fail
  generalize w.alloc (.cells #[.int .i64 S, .int .i64 O, .int .i64 (k : Int), .int .i64 F, .int .i64 L, .int .i64 P, .slice A n c] 24) = w1 at Hb Hh Hr ⊢
  obtain ⟨b, hbe⟩ : ∃ b, b = w.heap.size := ⟨_, rfl⟩
  rw [← hbe] at Hh ⊢
  clear hbe
  have c0 := Hh.out.c0
  have c1 := Hh.out.c1
  have c2 := Hh.out.c2
  have c3 := Hh.out.c3
  have c4 := Hh.out.c4
  have c5 := Hh.out.c5
  have c6 := Hh.out.c6
  have HM := Lib.hid (RMay7 S O (k : Int) F L P A n c d Hl0.out w1)
  rw [HMw.out] at HM
  go_wp2_with fail
  refine HM.out.mono ?_
  rintro x w2 ⟨rfl, hb2⟩
  have Hr2 := Lib.hid ((Hr.out.below hb2.out).more hb2.out.size)
  have Hh2 := Lib.hid (Hh.out.to hb2.out)
  replace Hb := bel7 Hb hb2
  clear hb2 HM HMw Hr Hh c0 c1 c2 c3 c4 c5 c6
  have c0 := Hh2.out.c0
  have c1 := Hh2.out.c1
  have c2 := Hh2.out.c2
  have c3 := Hh2.out.c3
  have c4 := Hh2.out.c4
  have c5 := Hh2.out.c5
  have c6 := Hh2.out.c6
  have HC := Lib.hid (HC1.out w2 Hr2.out)
  go_wp2_with fail
  refine HC.out.mono ?_
  rintro x w3 ⟨A3, n3, c3', rfl, hn3, hr3, hc3, hm3, hb3⟩
  have Hr3 := Lib.hid hr3
  replace Hb := bel7 Hb hb3
  clear hb3 hr3 hn3 HC HC1 Hr2 Hh2 c0 c1 c2 c3 c4 c5 c6
  go_upto_region 5 with fail
  have Hh4 := Lib.hid (EAt.box w3 S O (k : Int) f l p A3 n3 c3' 24)
  have Hb4 := al7 w3 (.cells #[.int .i64 S, .int .i64 O, .int .i64 (k : Int), .int .i64 f, .int .i64 l, .int .i64 p, .slice A3 n3 c3'] 24)
  replace Hr3 := Lib.hid ((Hr3.out.below Hb4.out).more Hb4.out.size)
  replace Hb := bel7 Hb Hb4
  generalize w3.alloc (.cells #[.int .i64 S, .int .i64 O, .int .i64 (k : Int), .int .i64 f, .int .i64 l, .int .i64 p, .slice A3 n3 c3'] 24) = w4 at Hh4 Hb Hr3 ⊢
  obtain ⟨tm, htm⟩ : ∃ tm, tm = w3.heap.size := ⟨_, rfl⟩
  rw [← htm] at Hh4 ⊢
  clear htm Hb4
  have f1 : fitW 1 = 1 := by decide
  have f2 : fitW 2 = 2 := by decide
  have f6 : fitW 6 = 6 := by decide
  obtain ⟨inf, hi, hz0, hz1, hz2⟩ := info_parts Tryd.infoB
  have c0 := Hh4.out.c0
  go_wp2_with fail
  refine (RefNum_any 6 S _).mono ?_
  rintro x w5 ⟨rfl, hown, hb5⟩
  rw [f6] at hown ⊢
  have H5 := Lib.hid hown
  have K5 := Lib.hid hb5
  clear hown hb5 c0
  have c1 := (Hh4.out.to K5.out).c1
  go_wp2_with fail
  refine (RefNum_out 1 O _).mono ?_
  rintro x wx ⟨rfl, hra, hba⟩
  rw [f1] at hra ⊢
  have Hra := Lib.hid hra
  have HA := Lib.hid (ownsRow_below H5.out hba)
  have KA := Lib.hid (K5.out.trans (hba.mono K5.out.size))
  clear hra hba K5 H5 c1
  go_upto_region 7 with (at_builtin; refine wpList_append_rd rfl (.tmp 17) (.tmp 20) 22 rfl w4.heap.size 5 inf (.int .u8 0) 1 Tryd.underlying22 hi hz0 hz1 hz2 rfl _ 6 _ rfl HA.out (some ⟨w5.heap.size, 0, none⟩) 1 1 ((numB 1 O).map bv) rfl (by rw [List.length_map, Hra.out.1]) Hra.out.src (bv_one _) (by simp only [maxLen]; omega) (by omega) KA.out.size ?_; intro v6 w6 hown hg; obtain ⟨A6, k6, rfl, _, _⟩ := ownsRow_form hown; have H6 := Lib.hid hown; have K6 := Lib.hid (KA.out.grown hg KA.out.size (fun k hk => (HA.out.lt k hk).1)); clear hown hg)
  clear Hra HA KA
  have c3 := (Hh4.out.to K6.out).c3
  go_wp2_with fail
  refine (RefNum_out 2 f _).mono ?_
  rintro x wx ⟨rfl, hra, hba⟩
  rw [f2] at hra ⊢
  have Hra := Lib.hid hra
  have HA := Lib.hid (ownsRow_below H6.out hba)
  have KA := Lib.hid (K6.out.trans (hba.mono K6.out.size))
  clear hra hba K6 H6 c3
  go_upto_region 8 with (at_builtin; refine wpList_append_rd rfl (.tmp 22) (.tmp 25) 22 rfl w4.heap.size 5 inf (.int .u8 0) 1 Tryd.underlying22 hi hz0 hz1 hz2 rfl _ 7 _ rfl HA.out (some ⟨w6.heap.size, 0, none⟩) 2 2 ((numB 2 f).map bv) rfl (by rw [List.length_map, Hra.out.1]) Hra.out.src (bv_one _) (by simp only [maxLen]; omega) (by omega) KA.out.size ?_; intro v7 w7 hown hg; obtain ⟨A7, k7, rfl, _, _⟩ := ownsRow_form hown; have H7 := Lib.hid hown; have K7 := Lib.hid (KA.out.grown hg KA.out.size (fun k hk => (HA.out.lt k hk).1)); clear hown hg)
  clear Hra HA KA
  have c4 := (Hh4.out.to K7.out).c4
  go_wp2_with fail
  refine (RefNum_out 2 l _).mono ?_
  rintro x wx ⟨rfl, hra, hba⟩
  rw [f2] at hra ⊢
  have Hra := Lib.hid hra
  have HA := Lib.hid (ownsRow_below H7.out hba)
  have KA := Lib.hid (K7.out.trans (hba.mono K7.out.size))
  clear hra hba K7 H7 c4
  go_upto_region 9 with (at_builtin; refine wpList_append_rd rfl (.tmp 27) (.tmp 30) 22 rfl w4.heap.size 5 inf (.int .u8 0) 1 Tryd.underlying22 hi hz0 hz1 hz2 rfl _ 9 _ rfl HA.out (some ⟨w7.heap.size, 0, none⟩) 2 2 ((numB 2 l).map bv) rfl (by rw [List.length_map, Hra.out.1]) Hra.out.src (bv_one _) (by simp only [maxLen]; omega) (by omega) KA.out.size ?_; intro v8 w8 hown hg; obtain ⟨A8, k8, rfl, _, _⟩ := ownsRow_form hown; have H8 := Lib.hid hown; have K8 := Lib.hid (KA.out.grown hg KA.out.size (fun k hk => (HA.out.lt k hk).1)); clear hown hg)
  clear Hra HA KA
  have c5 := (Hh4.out.to K8.out).c5
  go_wp2_with fail
  refine (RefNum_out 1 p _).mono ?_
  rintro x wx ⟨rfl, hra, hba⟩
  rw [f1] at hra ⊢
  have Hra := Lib.hid hra
  have HA := Lib.hid (ownsRow_below H8.out hba)
  have KA := Lib.hid (K8.out.trans (hba.mono K8.out.size))
  clear hra hba K8 H8 c5
  go_upto_region 10 with (at_builtin; refine wpList_append_rd rfl (.tmp 32) (.tmp 35) 22 rfl w4.heap.size 5 inf (.int .u8 0) 1 Tryd.underlying22 hi hz0 hz1 hz2 rfl _ 11 _ rfl HA.out (some ⟨w8.heap.size, 0, none⟩) 1 1 ((numB 1 p).map bv) rfl (by rw [List.length_map, Hra.out.1]) Hra.out.src (bv_one _) (by simp only [maxLen]; omega) (by omega) KA.out.size ?_; intro v9 w9 hown hg; obtain ⟨A9, k9, rfl, _, _⟩ := ownsRow_form hown; have H9 := Lib.hid hown; have K9 := Lib.hid (KA.out.grown hg KA.out.size (fun k hk => (HA.out.lt k hk).1)); clear hown hg)
  clear Hra HA KA
  obtain ⟨lb, hlb⟩ : ∃ lb, lb = (blobB e.d).length := ⟨_, rfl⟩
  have hlb1 : lb ≤ 130 := by rw [hlb]; exact blob_le7 _ Hdl.out
  have Hlb := Lib.hid hlb
  clear hlb
  have c6 := (Hh4.out.to K9.out).c6
  have HB := Lib.hid (RefBlob_any A3 n3 c3' e.d w9 ((Hr3.out.below K9.out).more K9.out.size) hc3 hm3)
  go_wp2_with fail
  refine HB.out.mono ?_
  rintro x wx ⟨Ab, kb, rfl, hm1, hm2, hownb, hbb⟩
  rw [← Hlb.out] at hm1 hownb ⊢
  have Hra := Lib.hid (Rd.own hownb)
  have HA := Lib.hid (ownsRow_below H9.out hbb)
  have KA := Lib.hid (K9.out.trans (hbb.mono K9.out.size))
  clear hownb hbb hm1 hm2 HB H9 K9 c6
  go_upto_region 11 with (at_builtin; refine wpList_append_rd rfl (.tmp 37) (.tmp 40) 22 rfl w4.heap.size 5 inf (.int .u8 0) 1 Tryd.underlying22 hi hz0 hz1 hz2 rfl _ 12 _ rfl HA.out Ab lb kb ((blobB e.d).map bv) rfl (by rw [List.length_map, Hra.out.1]) Hra.out.src (bv_one _) (by simp only [maxLen]; omega) (by omega) KA.out.size ?_; intro v10 w10 hown hg; obtain ⟨A10, k10, rfl, _, _⟩ := ownsRow_form hown; have H10 := Lib.hid hown; have K10 := Lib.hid (KA.out.grown hg KA.out.size (fun k hk => (HA.out.lt k hk).1)); clear hown hg)
  clear Hra HA KA
  obtain ⟨m, hmm⟩ : ∃ m, m = 12 + lb := ⟨_, rfl⟩
  have hm142 : m ≤ 142 := by omega
  have Hrow : Hid (Rd w10 w10.heap.size A10 m (bod7 e)) := by
    have h := Rd.own (show w10.ownsRow w4.heap.size 5 1 (.slice A10 (12 + lb) k10) (12 + lb) ((bod7 e).map bv) from by
      rw [He.out]
      simpa only [List.map_append, List.append_assoc] using H10.out)
    rw [hmm]
    exact h
  have HX := Lib.hid (RefMake_ok k A10 m k10 (bod7 e) w10 hk (by omega) Hrow.out)
  have c2 := (Hh4.out.to K10.out).c2
  rw [← hmm]
  clear H10 Hrow hmm
  go_wp2_with fail
  refine HX.out.mono ?_
  rintro x w11 ⟨A11, k11, rfl, h1, h2, h3, h4⟩
  have Hfin := Lib.hid (Out.mk (ownsRow_base h3 (Nat.le_trans Hb.out.size K10.out.size)) ((Hb.out.trans (K10.out.mono Hb.out.size)).trans (h4.mono (Nat.le_trans Hb.out.size K10.out.size))))
  clear h1 h2 h3 h4 HX c2
  go_wp2_with fail
  go_ret
  exact Hfin.out

set_option maxRecDepth 10000 in
theorem RPack7 (S O K F L P : Int) (A : Option Addr) (n c : Nat) (d : List UInt8) (w : World) (hr : Rd w w.heap.size A n d) (hc : n ≤ c) (hm : c ≤ 9223372036854775807) :
    Calls Tryd.prog 18 #[eV S O K F L P A n c] w (Out w (pack7 ⟨S, O, K, F, L, P, d⟩)) := by
  by_cases h : May7 ⟨S, O, K, F, L, P, d⟩
  · have hk := may_kind h
    obtain ⟨k, rfl⟩ : ∃ k : Nat, K = k := ⟨K.toNat, by dsimp only at hk; omega⟩
    rw [pack_yes h]
    exact RPack7_yes S O k F L P A n c d w hr hc hm h
  · rw [pack_no h]
    exact RPack7_no S O K F L P A n c d w hr h
end Go.Proofs.YtfabcmohaikfoaaDoor
