/- Heads of images: contract of the document's Pack. -/
import Derived.Test.YtaobdebeglenaaaHdF
import Derived.Test.YtaobdebeglenaaaObK
import Derived.Test.YtaobdebeglenaaaMd
namespace Go.Proofs.Ytaobdebeglenaaa
open Go.RowKit

/-- a snapshot's bytes -/
def snB (s : Sn) : List UInt8 := numB 1 s.id ++ numB 2 s.size ++ blobB (packO s.map)
/-- a head's bytes -/
def headB (h : Hd) : List UInt8 := numB 1 h.u ++ numB 1 h.c ++ numB 1 h.o ++ numB 1 h.last ++ numB 2 h.size ++ numB 6 h.seq ++ blobB (packO h.map) ++ numB 1 h.snaps.length
def packH (h : Hd) : List UInt8 := headB h ++ h.snaps.flatMap snB
/-- what Pack tells -/
def packX (h : Hd) : List UInt8 := if MayH h then packH h else []
theorem blobB_le (x : List UInt8) : (blobB x).length ≤ 65537 := by simp [blobB, encB_length]; omega
theorem own_mono {w : World} {B B' n s : Nat} {e : TypeId} {v : Value} {xs : List Value} (h : w.ownsRow B e s v n xs) (hB : B' ≤ B) : w.ownsRow B' e s v n xs := by
  refine ⟨h.1, ?_⟩
  rcases h.2 with h | ⟨g, cap, cur, h1, h2, h3, h4⟩
  · exact .inl h
  · exact .inr ⟨g, cap, cur, h1, Nat.le_trans hB h2, h3, h4⟩

theorem three_of {w : World} {b : Nat} {t : TypeId} {v0 v1 v2 : Value} (h : w.heap[b]? = some (.cells #[v0, v1, v2] t (0, 0))) : w.cell? ⟨b, 0, none⟩ = some v0 ∧ w.cell? ⟨b, 1, none⟩ = some v1 ∧ w.cell? ⟨b, 2, none⟩ = some v2 := by
  refine ⟨?_, ?_, ?_⟩ <;> (rw [cell_blk h]; rfl)
theorem grown_kept {w w' : World} {B n s k : Nat} {e t : TypeId} {v : Value} {xs : List Value} {cs : Array Value} (h : w.ownsRow B e s v n xs) (hg : w.grownBy w' v.ownBlock) (hb : w.heap[k]? = some (.cells cs t (0, 0))) (hne : e ≠ t) : w'.heap[k]? = some (.cells cs t (0, 0)) := by
  refine (hg.block k (lt_of_block hb) fun he => ?_).trans hb
  rcases h.2 with ⟨rfl, _⟩ | ⟨g, cap, cur, rfl, _, hgb, _⟩
  · have he' : some k = (none : Option Nat) := he
    cases he'
  · have he' : some k = some g := he
    cases he'
    rw [hgb] at hb
    cases hb
    exact hne rfl
set_option maxRecDepth 10000 in
set_option maxHeartbeats 8000000 in
theorem RPack6 (U C O sz : Int) (Am : Option Addr) (nm cm : Nat) (As : Option Addr) (ns cs : Nat) (last seq : Int) (m : List Int) (ss : List Sn) (w : World) (hm : RdI w w.heap.size Am nm m) (hr : RdN w w.heap.size As ns ss) (hn : nm ≤ 100000) (hs : ns ≤ 100000) (hmm : ∀ s ∈ ss, s.map.length ≤ 100000) :
    Calls Try.prog 24 #[hV U C O sz Am nm cm As ns cs last seq] w (Out w (packX ⟨U, C, O, sz, m, ss, last, seq⟩)) := by
  have Hb := Lib.hid ((Below.refl w.heap.size w).alloc (Nat.le_refl _) (.cells #[.int .i64 U, .int .i64 C, .int .i64 O, .int .i64 sz, .slice Am nm cm, .slice As ns cs, .int .i64 last, .int .i64 seq] 27))
  have Hr := Lib.hid hr
  have Hm := Lib.hid hm
  have Hh := Lib.hid (HAt.box w U C O sz (.slice Am nm cm) (.slice As ns cs) last seq 27)
  have Hmm := Lib.hid hmm
  have Hlen := Lib.hid hr.1
  clear hr hm hmm
  go_enter Try.func24, Try.ntmps24
  go_upto_region 1 with fail
  generalize w.alloc (.cells #[.int .i64 U, .int .i64 C, .int .i64 O, .int .i64 sz, .slice Am nm cm, .slice As ns cs, .int .i64 last, .int .i64 seq] 27) = w1 at Hb Hh ⊢
  obtain ⟨b, hbe⟩ : ∃ b, b = w.heap.size := ⟨_, rfl⟩
  rw [← hbe] at Hh ⊢
  clear hbe
  have c0 := Hh.out.c0
  have c1 := Hh.out.c1
  have c2 := Hh.out.c2
  have c3 := Hh.out.c3
  have c4 := Hh.out.c4
  have c5 := Hh.out.c5
  have c6 := Hh.out.c6
  have c7 := Hh.out.c7
  go_wp2_with fail
  refine (RMay6 U C O sz Am nm cm As ns cs last seq m ss w1 ((Hm.out.below Hb.out).more Hb.out.size) ((Hr.out.below Hb.out).more Hb.out.size) hn hs Hmm.out).mono ?_
  rintro e w2 ⟨rfl, hb⟩
  replace Hh := Lib.hid (Hh.out.to hb)
  replace Hb := Lib.hid (Hb.out.trans (hb.mono Hb.out.size))
  clear hb c0 c1 c2 c3 c4 c5 c6 c7
  obtain ⟨my, hmy⟩ : ∃ my, my = decide (MayH ⟨U, C, O, sz, m, ss, last, seq⟩) := ⟨_, rfl⟩
  rw [← hmy]
  have Hmy := Lib.hid hmy
  clear hmy
  cases my
  · have He := Lib.hid (show packX ⟨U, C, O, sz, m, ss, last, seq⟩ = [] by unfold packX; rw [if_neg (by have h := Hmy.out; simpa using h)])
    go_wp2_with fail
    go_ret
    rw [He.out]
    exact Out.mk (World.ownsRow_nil _ _ _ _) Hb.out
  · have He := Lib.hid (show packX ⟨U, C, O, sz, m, ss, last, seq⟩ = packH ⟨U, C, O, sz, m, ss, last, seq⟩ by unfold packX; rw [if_pos (by have h := Hmy.out; simpa using h.symm)])
    have hns : ns ≤ 4 := by rw [← Hlen.out]; exact (show MayH ⟨U, C, O, sz, m, ss, last, seq⟩ by have h := Hmy.out; simpa using h.symm).2.2.1
    clear Hmy
    have f1 : fitW 1 = 1 := by decide
    have f2 : fitW 2 = 2 := by decide
    have f6 : fitW 6 = 6 := by decide
    obtain ⟨inf, hi, hz0, hz1, hz2⟩ := info_parts Try.infoB
    have Hmw := Lib.hid ((Hm.out.below Hb.out).more Hb.out.size)
    have Hrw := Lib.hid ((Hr.out.below Hb.out).more Hb.out.size)
    have H2 := Lib.hid (World.ownsRow_nil w2 w2.heap.size 5 1)
    have K2 := Lib.hid (Below.refl w2.heap.size w2)
    have c0 := (Hh.out.to K2.out).c0
    go_wp2_with fail
    refine (RefNum_out 1 U _).mono ?_
    rintro e wx ⟨rfl, hra, hba⟩
    rw [f1] at hra ⊢
    have Hra := Lib.hid hra
    have HA := Lib.hid (own_to H2.out hba)
    have KA := Lib.hid (K2.out.trans (hba.mono K2.out.size))
    clear hra hba K2 H2 c0
    go_upto_region 6 with (at_builtin; refine wpList_append_rd rfl (.tmp 11) (.tmp 15) 39 rfl w2.heap.size 5 inf (.int .u8 0) 1 Try.underlying39 hi hz0 hz1 hz2 rfl _ 0 _ rfl HA.out (some ⟨w2.heap.size, 0, none⟩) 1 1 ((numB 1 U).map bv) rfl (by rw [List.length_map, Hra.out.1]) Hra.out.src (bv_one _) (by simp only [maxLen]; omega) (by omega) KA.out.size ?_; intro v3 w3 hown hg; obtain ⟨A3, k3, rfl, _, _⟩ := ownI hown; have H3 := Lib.hid hown; have K3 := Lib.hid (KA.out.grown hg KA.out.size (fun k hk => (HA.out.lt k hk).1)); clear hown hg)
    clear Hra HA KA
    have c1 := (Hh.out.to K3.out).c1
    go_wp2_with fail
    refine (RefNum_out 1 C _).mono ?_
    rintro e wx ⟨rfl, hra, hba⟩
    rw [f1] at hra ⊢
    have Hra := Lib.hid hra
    have HA := Lib.hid (own_to H3.out hba)
    have KA := Lib.hid (K3.out.trans (hba.mono K3.out.size))
    clear hra hba K3 H3 c1
    go_upto_region 7 with (at_builtin; refine wpList_append_rd rfl (.tmp 17) (.tmp 21) 39 rfl w2.heap.size 5 inf (.int .u8 0) 1 Try.underlying39 hi hz0 hz1 hz2 rfl _ 1 _ rfl HA.out (some ⟨w3.heap.size, 0, none⟩) 1 1 ((numB 1 C).map bv) rfl (by rw [List.length_map, Hra.out.1]) Hra.out.src (bv_one _) (by simp only [maxLen]; omega) (by omega) KA.out.size ?_; intro v4 w4 hown hg; obtain ⟨A4, k4, rfl, _, _⟩ := ownI hown; have H4 := Lib.hid hown; have K4 := Lib.hid (KA.out.grown hg KA.out.size (fun k hk => (HA.out.lt k hk).1)); clear hown hg)
    clear Hra HA KA
    have c2 := (Hh.out.to K4.out).c2
    go_wp2_with fail
    refine (RefNum_out 1 O _).mono ?_
    rintro e wx ⟨rfl, hra, hba⟩
    rw [f1] at hra ⊢
    have Hra := Lib.hid hra
    have HA := Lib.hid (own_to H4.out hba)
    have KA := Lib.hid (K4.out.trans (hba.mono K4.out.size))
    clear hra hba K4 H4 c2
    go_upto_region 8 with (at_builtin; refine wpList_append_rd rfl (.tmp 23) (.tmp 27) 39 rfl w2.heap.size 5 inf (.int .u8 0) 1 Try.underlying39 hi hz0 hz1 hz2 rfl _ 2 _ rfl HA.out (some ⟨w4.heap.size, 0, none⟩) 1 1 ((numB 1 O).map bv) rfl (by rw [List.length_map, Hra.out.1]) Hra.out.src (bv_one _) (by simp only [maxLen]; omega) (by omega) KA.out.size ?_; intro v5 w5 hown hg; obtain ⟨A5, k5, rfl, _, _⟩ := ownI hown; have H5 := Lib.hid hown; have K5 := Lib.hid (KA.out.grown hg KA.out.size (fun k hk => (HA.out.lt k hk).1)); clear hown hg)
    clear Hra HA KA
    have c6 := (Hh.out.to K5.out).c6
    go_wp2_with fail
    refine (RefNum_out 1 last _).mono ?_
    rintro e wx ⟨rfl, hra, hba⟩
    rw [f1] at hra ⊢
    have Hra := Lib.hid hra
    have HA := Lib.hid (own_to H5.out hba)
    have KA := Lib.hid (K5.out.trans (hba.mono K5.out.size))
    clear hra hba K5 H5 c6
    go_upto_region 9 with (at_builtin; refine wpList_append_rd rfl (.tmp 29) (.tmp 32) 39 rfl w2.heap.size 5 inf (.int .u8 0) 1 Try.underlying39 hi hz0 hz1 hz2 rfl _ 3 _ rfl HA.out (some ⟨w5.heap.size, 0, none⟩) 1 1 ((numB 1 last).map bv) rfl (by rw [List.length_map, Hra.out.1]) Hra.out.src (bv_one _) (by simp only [maxLen]; omega) (by omega) KA.out.size ?_; intro v6 w6 hown hg; obtain ⟨A6, k6, rfl, _, _⟩ := ownI hown; have H6 := Lib.hid hown; have K6 := Lib.hid (KA.out.grown hg KA.out.size (fun k hk => (HA.out.lt k hk).1)); clear hown hg)
    clear Hra HA KA
    have c3 := (Hh.out.to K6.out).c3
    go_wp2_with fail
    refine (RefNum_out 2 sz _).mono ?_
    rintro e wx ⟨rfl, hra, hba⟩
    rw [f2] at hra ⊢
    have Hra := Lib.hid hra
    have HA := Lib.hid (own_to H6.out hba)
    have KA := Lib.hid (K6.out.trans (hba.mono K6.out.size))
    clear hra hba K6 H6 c3
    go_upto_region 10 with (at_builtin; refine wpList_append_rd rfl (.tmp 34) (.tmp 37) 39 rfl w2.heap.size 5 inf (.int .u8 0) 1 Try.underlying39 hi hz0 hz1 hz2 rfl _ 4 _ rfl HA.out (some ⟨w6.heap.size, 0, none⟩) 2 2 ((numB 2 sz).map bv) rfl (by rw [List.length_map, Hra.out.1]) Hra.out.src (bv_one _) (by simp only [maxLen]; omega) (by omega) KA.out.size ?_; intro v7 w7 hown hg; obtain ⟨A7, k7, rfl, _, _⟩ := ownI hown; have H7 := Lib.hid hown; have K7 := Lib.hid (KA.out.grown hg KA.out.size (fun k hk => (HA.out.lt k hk).1)); clear hown hg)
    clear Hra HA KA
    have c7 := (Hh.out.to K7.out).c7
    go_wp2_with fail
    refine (RefNum_out 6 seq _).mono ?_
    rintro e wx ⟨rfl, hra, hba⟩
    rw [f6] at hra ⊢
    have Hra := Lib.hid hra
    have HA := Lib.hid (own_to H7.out hba)
    have KA := Lib.hid (K7.out.trans (hba.mono K7.out.size))
    clear hra hba K7 H7 c7
    go_upto_region 11 with (at_builtin; refine wpList_append_rd rfl (.tmp 39) (.tmp 42) 39 rfl w2.heap.size 5 inf (.int .u8 0) 1 Try.underlying39 hi hz0 hz1 hz2 rfl _ 6 _ rfl HA.out (some ⟨w7.heap.size, 0, none⟩) 6 6 ((numB 6 seq).map bv) rfl (by rw [List.length_map, Hra.out.1]) Hra.out.src (bv_one _) (by simp only [maxLen]; omega) (by omega) KA.out.size ?_; intro v8 w8 hown hg; obtain ⟨A8, k8, rfl, _, _⟩ := ownI hown; have H8 := Lib.hid hown; have K8 := Lib.hid (KA.out.grown hg KA.out.size (fun k hk => (HA.out.lt k hk).1)); clear hown hg)
    clear Hra HA KA
    replace H8 := Lib.hid (show w8.ownsRow w2.heap.size 5 1 (.slice A8 12 k8) 12 ((numB 1 U ++ numB 1 C ++ numB 1 O ++ numB 1 last ++ numB 2 sz ++ numB 6 seq).map bv) from by simpa only [List.map_append, List.nil_append] using H8.out)
    have Hm8 := Lib.hid ((Hmw.out.below K8.out).more K8.out.size)
    have c4 := (Hh.out.to K8.out).c4
    obtain ⟨lp, hlp⟩ : ∃ lp, lp = (packO m).length := ⟨_, rfl⟩
    obtain ⟨lb, hlb⟩ : ∃ lb, lb = (blobB (packO m)).length := ⟨_, rfl⟩
    have hlb1 : lb ≤ 65537 := by rw [hlb]; exact blobB_le _
    have Hlp := Lib.hid hlp
    have Hlb := Lib.hid hlb
    clear hlp hlb
    have HP := Lib.hid (RPack_any Am nm cm m _ Hm8.out hn)
    go_wp2_with fail
    refine HP.out.mono ?_
    rintro e wx ⟨Ap, kp, rfl, hl1, hl2, hownp, hbp⟩
    rw [← Hlp.out] at hl1 hownp ⊢
    have HB := Lib.hid (RefBlob_any Ap lp kp (packO m) wx (Rd.own hownp) hl1 (by simpa [maxLen] using hl2))
    have HA0 := Lib.hid (own_to H8.out hbp)
    have KA0 := Lib.hid (K8.out.trans (hbp.mono K8.out.size))
    clear hownp hbp hl1 hl2 HP K8 H8 Hm8 c4
    go_wp2_with fail
    refine HB.out.mono ?_
    rintro e wy ⟨Ab, kb, rfl, hm1, hm2, hownb, hbb⟩
    rw [← Hlb.out] at hm1 hownb ⊢
    have Hra := Lib.hid (Rd.own hownb)
    have HA := Lib.hid (own_to HA0.out hbb)
    have KA := Lib.hid (KA0.out.trans (hbb.mono KA0.out.size))
    clear hownb hbb hm1 hm2 HB HA0 KA0
    go_upto_region 12 with (at_builtin; refine wpList_append_rd rfl (.tmp 44) (.tmp 48) 39 rfl w2.heap.size 5 inf (.int .u8 0) 1 Try.underlying39 hi hz0 hz1 hz2 rfl _ 12 _ rfl HA.out Ab lb kb ((blobB (packO m)).map bv) rfl (by rw [List.length_map, Hra.out.1]) Hra.out.src (bv_one _) (by simp only [maxLen]; omega) (by omega) KA.out.size ?_; intro v9 w9 hown hg; obtain ⟨A9, k9, rfl, _, _⟩ := ownI hown; have H9 := Lib.hid hown; have K9 := Lib.hid (KA.out.grown hg KA.out.size (fun k hk => (HA.out.lt k hk).1)); clear hown hg)
    clear Hra HA KA Hlp
    have c5 := (Hh.out.to K9.out).c5
    go_wp2_with fail
    refine (RefNum_out 1 (ns : Int) _).mono ?_
    rintro e wx ⟨rfl, hra, hba⟩
    rw [f1] at hra ⊢
    have Hra := Lib.hid hra
    have HA := Lib.hid (own_to H9.out hba)
    have KA := Lib.hid (K9.out.trans (hba.mono K9.out.size))
    clear hra hba K9 H9 c5
    go_upto_region 13 with (at_builtin; refine wpList_append_rd rfl (.tmp 50) (.tmp 54) 39 rfl w2.heap.size 5 inf (.int .u8 0) 1 Try.underlying39 hi hz0 hz1 hz2 rfl _ (12 + lb) _ rfl HA.out (some ⟨w9.heap.size, 0, none⟩) 1 1 ((numB 1 (ns : Int)).map bv) rfl (by rw [List.length_map, Hra.out.1]) Hra.out.src (bv_one _) (by simp only [maxLen]; omega) (by omega) KA.out.size ?_; intro v10 w10 hown hg; obtain ⟨A10, k10, rfl, _, _⟩ := ownI hown; have H10 := Lib.hid hown; have K10 := Lib.hid (KA.out.grown hg KA.out.size (fun k hk => (HA.out.lt k hk).1)); clear hown hg)
    clear Hra HA KA
    obtain ⟨hd, hhd⟩ : ∃ hd, hd = headB ⟨U, C, O, sz, m, ss, last, seq⟩ := ⟨_, rfl⟩
    have H0 := Lib.hid (show w10.ownsRow w2.heap.size 5 1 (.slice A10 (12 + lb + 1) k10) (12 + lb + 1) (hd.map bv) from by
      have h := H10.out
      rw [hhd]
      unfold headB
      simp only [List.map_append, Hlen.out] at h ⊢
      exact h)
    have Hfin := Lib.hid (show packH ⟨U, C, O, sz, m, ss, last, seq⟩ = hd ++ ss.flatMap snB by unfold packH; rw [hhd])
    clear H10 hhd Hlb
    go_wp2_with fail
    go_loopw [4, 5] (fun v iv wr => ∃ j : Nat, j ≤ ns ∧ iv = .int .i64 j ∧ (∃ q, q ≤ 70000 + 70000 * j ∧ Hid (wr.ownsRow w2.heap.size 5 1 v q ((hd ++ (ss.take j).flatMap snB).map bv))) ∧ Hid (Below w2.heap.size w2 wr)) (fun _ iv _ => ns - (intOf iv).toNat)
    case atStart => exact ⟨0, Nat.zero_le _, rfl, ⟨12 + lb + 1, by omega, by show World.ownsRow _ _ _ _ _ _ _; simpa using H0.out⟩, K10⟩
    case round =>
      obtain ⟨j, hj, rfl, ⟨q, hq, Hr0⟩, Kr⟩ := hrel
      have c5 := (Hh.out.to Kr.out).c5
      obtain ⟨A0, k0, rfl, _, _⟩ := ownI Hr0.out
      by_cases hjn : j < ns
      · have hjl : j < ss.length := by rw [Hlen.out]; exact hjn
        obtain ⟨g, o, Aj, nj, cj, rfl, hg, x0, x1, x2, h6, h7⟩ := Hrw.out.2 j hjl
        replace x0 := (Kr.out.cell (p := ⟨g, o + j * 3, none⟩) hg).trans x0
        replace x1 := (Kr.out.cell (p := ⟨g, o + j * 3 + 1, none⟩) hg).trans x1
        replace x2 := (Kr.out.cell (p := ⟨g, o + j * 3 + 2, none⟩) hg).trans x2
        have Hst := Lib.hid (List.take_succ_eq_append_getElem hjl)
        have Hln := Lib.hid (Hmm.out _ (List.getElem_mem hjl))
        have Hm6 := Lib.hid h6
        clear h6
        generalize ss[j] = s at x0 x1 Hst Hln Hm6
        have hnj : nj ≤ 100000 := by rw [← Hm6.out.1]; exact Hln.out
        have hj0 : (0 : Int) ≤ (j : Int) := by omega
        have hj1 : (j : Int) < (ns : Int) := by omega
        clear hjl
        obtain ⟨x, y, mp⟩ := s
        have x0 : wr.cell? ⟨g, o + j * 3, none⟩ = some (.int .i64 x) := x0
        have x1 : wr.cell? ⟨g, o + j * 3 + 1, none⟩ = some (.int .i64 y) := x1
        go_upto_region 17 with fail
        have Kc := Lib.hid (Kr.out.alloc Kr.out.size (.cells #[.int .i64 x, .int .i64 y, .slice Aj nj cj] 52))
        have Hc := Lib.hid (show (wr.alloc (.cells #[.int .i64 x, .int .i64 y, .slice Aj nj cj] 52)).ownsRow w2.heap.size 5 1 (.slice A0 q k0) q ((hd ++ (ss.take j).flatMap snB).map bv) from Hr0.out.alloc _)
        have S0 := Lib.hid (heap_alloc_new wr (.cells #[.int .i64 x, .int .i64 y, .slice Aj nj cj] 52))
        clear x0 x1 x2 c5
        obtain ⟨sb, hsbe⟩ : ∃ sb, sb = wr.heap.size := ⟨_, rfl⟩
        rw [← hsbe] at S0 ⊢
        clear hsbe
        obtain ⟨wc, hwc⟩ : ∃ wc, wc = wr.alloc (.cells #[.int .i64 x, .int .i64 y, .slice Aj nj cj] 52) := ⟨_, rfl⟩
        rw [← hwc] at Kc Hc S0 ⊢
        clear hwc
        have Hm6' : Hid (RdI w2 w2.heap.size Aj nj mp) := Hm6
        clear Hm6
        obtain ⟨s0, s1, s2⟩ := three_of S0.out
        go_wp2_with fail
        refine (RefNum_out 1 x _).mono ?_
        rintro e wx ⟨rfl, hra, hba⟩
        rw [f1] at hra ⊢
        have Hra := Lib.hid hra
        have HA := Lib.hid (own_to Hc.out hba)
        have KA := Lib.hid (Kc.out.trans (hba.mono Kc.out.size))
        have SA := Lib.hid ((hba.block sb (lt_of_block S0.out)).trans S0.out)
        clear hra hba Kc Hc S0 s0 s1 s2
        go_upto_region 18 with (at_builtin; refine wpList_append_rd rfl (.tmp 68) (.tmp 71) 39 rfl w2.heap.size 5 inf (.int .u8 0) 1 Try.underlying39 hi hz0 hz1 hz2 rfl _ q _ rfl HA.out (some ⟨wc.heap.size, 0, none⟩) 1 1 ((numB 1 x).map bv) rfl (by rw [List.length_map, Hra.out.1]) Hra.out.src (bv_one _) (by simp only [maxLen]; omega) (by omega) KA.out.size ?_; intro v21 w21 hown hg; have S0 := Lib.hid (grown_kept HA.out hg SA.out (by decide)); obtain ⟨A21, k21, rfl, _, _⟩ := ownI hown; have Hc := Lib.hid hown; have Kc := Lib.hid (KA.out.grown hg KA.out.size (fun k hk => (HA.out.lt k hk).1)); clear hown hg)
        clear Hra HA KA SA
        obtain ⟨s0, s1, s2⟩ := three_of S0.out
        go_wp2_with fail
        refine (RefNum_out 2 y _).mono ?_
        rintro e wx ⟨rfl, hra, hba⟩
        rw [f2] at hra ⊢
        have Hra := Lib.hid hra
        have HA := Lib.hid (own_to Hc.out hba)
        have KA := Lib.hid (Kc.out.trans (hba.mono Kc.out.size))
        have SA := Lib.hid ((hba.block sb (lt_of_block S0.out)).trans S0.out)
        clear hra hba Kc Hc S0 s0 s1 s2
        go_upto_region 19 with (at_builtin; refine wpList_append_rd rfl (.tmp 73) (.tmp 76) 39 rfl w2.heap.size 5 inf (.int .u8 0) 1 Try.underlying39 hi hz0 hz1 hz2 rfl _ (q + 1) _ rfl HA.out (some ⟨w21.heap.size, 0, none⟩) 2 2 ((numB 2 y).map bv) rfl (by rw [List.length_map, Hra.out.1]) Hra.out.src (bv_one _) (by simp only [maxLen]; omega) (by omega) KA.out.size ?_; intro v22 w22 hown hg; have S0 := Lib.hid (grown_kept HA.out hg SA.out (by decide)); obtain ⟨A22, k22, rfl, _, _⟩ := ownI hown; have Hc := Lib.hid hown; have Kc := Lib.hid (KA.out.grown hg KA.out.size (fun k hk => (HA.out.lt k hk).1)); clear hown hg)
        clear Hra HA KA SA
        obtain ⟨s0, s1, s2⟩ := three_of S0.out
        obtain ⟨lp, hlp⟩ : ∃ lp, lp = (packO mp).length := ⟨_, rfl⟩
        obtain ⟨l2, hlb⟩ : ∃ l2, l2 = (blobB (packO mp)).length := ⟨_, rfl⟩
        have hl2 : l2 ≤ 65537 := by rw [hlb]; exact blobB_le _
        have Hlp := Lib.hid hlp
        have Hlb := Lib.hid hlb
        clear hlp hlb
        have HP := Lib.hid (RPack_any Aj nj cj mp w22 ((Hm6'.out.below Kc.out).more Kc.out.size) hnj)
        go_wp2_with fail
        refine HP.out.mono ?_
        rintro e wx ⟨Aq, kq, rfl, hp1, hp2, hownp, hbp⟩
        rw [← Hlp.out] at hp1 hownp ⊢
        have HB := Lib.hid (RefBlob_any Aq lp kq (packO mp) wx (Rd.own hownp) hp1 (by simpa [maxLen] using hp2))
        have HA0 := Lib.hid (own_to Hc.out hbp)
        have KA0 := Lib.hid (Kc.out.trans (hbp.mono Kc.out.size))
        clear hownp hbp hp1 hp2 HP Kc Hc S0 s0 s1 s2
        go_wp2_with fail
        refine HB.out.mono ?_
        rintro e wy ⟨At, kt, rfl, hm1, hm2, hownb, hbb⟩
        rw [← Hlb.out] at hm1 hownb ⊢
        have Hra := Lib.hid (Rd.own hownb)
        have HA := Lib.hid (own_to HA0.out hbb)
        have KA := Lib.hid (KA0.out.trans (hbb.mono KA0.out.size))
        clear hownb hbb hm1 hm2 HB HA0 KA0
        go_wp2_with (at_builtin; refine wpList_append_rd rfl (.tmp 78) (.tmp 82) 39 rfl w2.heap.size 5 inf (.int .u8 0) 1 Try.underlying39 hi hz0 hz1 hz2 rfl _ (q + 1 + 2) _ rfl HA.out At l2 kt ((blobB (packO mp)).map bv) rfl (by rw [List.length_map, Hra.out.1]) Hra.out.src (bv_one _) (by simp only [maxLen]; omega) (by omega) KA.out.size ?_; intro v23 w23 hown hg; have Hc := Lib.hid hown; have Kc := Lib.hid (KA.out.grown hg KA.out.size (fun k hk => (HA.out.lt k hk).1)); clear hown hg)
        clear Hra HA KA Hlp
        go_roundw
        case rel =>
          refine ⟨j + 1, by omega, by go_num, ⟨q + 1 + 2 + l2, by omega, ?_⟩, Kc⟩
          have h := Hc.out
          show World.ownsRow _ _ _ _ _ _ _
          rw [Hst.out, List.flatMap_append, List.flatMap_cons, List.flatMap_nil, List.append_nil, ← List.append_assoc]
          unfold snB
          simp only [List.map_append, List.append_assoc] at h ⊢
          exact h
        case measure => simp [intOf]; omega
      · obtain rfl : j = ns := by omega
        go_wp2_with fail
        go_ret
        rw [He.out, Hfin.out]
        have h := own_mono Hr0.out Hb.out.size
        rw [List.take_of_length_le (by rw [Hlen.out]; exact Nat.le_refl _)] at h
        exact Out.mk h (Hb.out.trans (Kr.out.mono Hb.out.size))
end Go.Proofs.Ytaobdebeglenaaa
