/- Heads of images: contract of the document's Drop. -/
import Derived.Test.YtaobdebeglenaaaHdG
namespace Go.Proofs.Ytaobdebeglenaaa
open Go.RowKit

set_option maxRecDepth 10000 in
set_option maxHeartbeats 8000000 in
theorem RDrop6 (U C O sz : Int) (Am : Option Addr) (nm cm : Nat) (As : Option Addr) (ns cs : Nat) (last seq x : Int) (m : List Int) (ss : List Sn) (w : World) (hm : RdI w w.heap.size Am nm m) (hr : RdN w w.heap.size As ns ss) (hn : nm ≤ 100000) (hs : ns ≤ 1000) (hc : ns ≤ cs) (hcm : cs ≤ maxLen) (hmm : ∀ s ∈ ss, s.map.length ≤ 100000) :
    Calls Try.prog 28 #[hV U C O sz Am nm cm As ns cs last seq, .int .i64 x] w (DrP w ⟨U, C, O, sz, m, ss, last, seq⟩ x) := by
  have Hb := Lib.hid (((Below.refl w.heap.size w).alloc (Nat.le_refl _) (.cells #[.int .i64 U, .int .i64 C, .int .i64 O, .int .i64 sz, .slice Am nm cm, .slice As ns cs, .int .i64 last, .int .i64 seq] 27)).alloc (by simp) (.cells #[.int .i64 0, .int .i64 0, .int .i64 0, .int .i64 0, .slice none 0 0, .slice none 0 0, .int .i64 0, .int .i64 0] 27))
  have Hr := Lib.hid hr
  have Hm := Lib.hid hm
  have Hh := Lib.hid (show ((w.alloc (.cells #[.int .i64 U, .int .i64 C, .int .i64 O, .int .i64 sz, .slice Am nm cm, .slice As ns cs, .int .i64 last, .int .i64 seq] 27)).alloc (.cells #[.int .i64 0, .int .i64 0, .int .i64 0, .int .i64 0, .slice none 0 0, .slice none 0 0, .int .i64 0, .int .i64 0] 27)).heap[w.heap.size]? = some (.cells #[.int .i64 U, .int .i64 C, .int .i64 O, .int .i64 sz, .slice Am nm cm, .slice As ns cs, .int .i64 last, .int .i64 seq] 27 (0, 0)) from by
    rw [Below.heap_alloc _ _ _ (by simp)]; exact heap_alloc_new w _)
  have Hz := Lib.hid (heap_alloc_new (w.alloc (.cells #[.int .i64 U, .int .i64 C, .int .i64 O, .int .i64 sz, .slice Am nm cm, .slice As ns cs, .int .i64 last, .int .i64 seq] 27)) (.cells #[.int .i64 0, .int .i64 0, .int .i64 0, .int .i64 0, .slice none 0 0, .slice none 0 0, .int .i64 0, .int .i64 0] 27))
  have Hmm := Lib.hid hmm
  clear hr hm hmm
  go_enter Try.func28, Try.ntmps28
  go_upto_region 1 with fail
  generalize (w.alloc (.cells #[.int .i64 U, .int .i64 C, .int .i64 O, .int .i64 sz, .slice Am nm cm, .slice As ns cs, .int .i64 last, .int .i64 seq] 27)).alloc (.cells #[.int .i64 0, .int .i64 0, .int .i64 0, .int .i64 0, .slice none 0 0, .slice none 0 0, .int .i64 0, .int .i64 0] 27) = w1 at Hb Hh Hz ⊢
  replace Hz := Lib.hid (show w1.heap[w.heap.size + 1]? = some (.cells #[.int .i64 0, .int .i64 0, .int .i64 0, .int .i64 0, .slice none 0 0, .slice none 0 0, .int .i64 0, .int .i64 0] 27 (0, 0)) by have h := Hz.out; simpa using h)
  obtain ⟨b, hbe⟩ : ∃ b, b = w.heap.size := ⟨_, rfl⟩
  obtain ⟨z, hze⟩ : ∃ z, z = w.heap.size + 1 := ⟨_, rfl⟩
  have Hbz := Lib.hid (show w.heap.size ≤ b ∧ w.heap.size ≤ z ∧ b < z by omega)
  rw [← hze] at Hz ⊢
  rw [← hbe] at Hh ⊢
  clear hbe hze
  obtain ⟨c0, c1, c2, c3, c4, c5, c6, c7⟩ := heads_of Hh.out
  go_wp2_with fail
  refine (RMay6 U C O sz Am nm cm As ns cs last seq m ss w1 ((Hm.out.below Hb.out).more Hb.out.size) ((Hr.out.below Hb.out).more Hb.out.size) hn (by omega) Hmm.out).mono ?_
  rintro e w2 ⟨rfl, hb⟩
  replace Hh := Lib.hid ((hb.block b (lt_of_block Hh.out)).trans Hh.out)
  replace Hz := Lib.hid ((hb.block z (lt_of_block Hz.out)).trans Hz.out)
  replace Hb := Lib.hid (Hb.out.trans (hb.mono Hb.out.size))
  clear hb c0 c1 c2 c3 c4 c5 c6 c7
  obtain ⟨my, hmy⟩ : ∃ my, my = decide (MayH ⟨U, C, O, sz, m, ss, last, seq⟩) := ⟨_, rfl⟩
  rw [← hmy]
  have Hmy := Lib.hid hmy
  clear hmy
  obtain ⟨c0, c1, c2, c3, c4, c5, c6, c7⟩ := heads_of Hh.out
  obtain ⟨z0, z1, z2, z3, z4, z5, z6, z7⟩ := heads_of Hz.out
  have y0 := free_blk Hz.out 0
  have y1 := free_blk Hz.out 1
  have y2 := free_blk Hz.out 2
  have y3 := free_blk Hz.out 3
  have y4 := free_blk Hz.out 4
  have y5 := free_blk Hz.out 5
  have y6 := free_blk Hz.out 6
  have y7 := free_blk Hz.out 7
  have P8 := Lib.hid (put8_at Hz.out (.int .i64 0) (.int .i64 0) (.int .i64 0) (.int .i64 0) (.slice none 0 0) (.slice none 0 0) (.int .i64 0) (.int .i64 0))
  have B8 := Lib.hid (put8_below Hb.out (by have := Hbz.out; omega) (.int .i64 0) (.int .i64 0) (.int .i64 0) (.int .i64 0) (.slice none 0 0) (.slice none 0 0) (.int .i64 0) (.int .i64 0) (z := z))
  cases my
  · have He := Lib.hid (show dropE ⟨U, C, O, sz, m, ss, last, seq⟩ x = 60 by
      unfold dropE
      rw [if_neg (by have h := Hmy.out; simpa using h)])
    go_wp2_with fail
    clear c0 c1 c2 c3 c4 c5 c6 c7 z0 z1 z2 z3 z4 z5 z6 z7 y0 y1 y2 y3 y4 y5 y6 y7
    change bodyPost _ _ _ _ _ (put8 w2 z (.int .i64 0) (.int .i64 0) (.int .i64 0) (.int .i64 0) (.slice none 0 0) (.slice none 0 0) (.int .i64 0) (.int .i64 0))
    generalize put8 w2 z (.int .i64 0) (.int .i64 0) (.int .i64 0) (.int .i64 0) (.slice none 0 0) (.slice none 0 0) (.int .i64 0) (.int .i64 0) = w3 at P8 B8 ⊢
    obtain ⟨z0, z1, z2, z3, z4, z5, z6, z7⟩ := heads_of P8.out
    exact bodyPost_ret (v := .tuple #[hV0, .int .i64 60]) (by simp [results, Try.results28, go_sem, z0, z1, z2, z3, z4, z5, z6, z7]) rfl ⟨hV0, by rw [He.out], fun _ => rfl, fun h => absurd (He.out.symm.trans h) (by omega), B8.out⟩
  · have hmay := Lib.hid (show MayH ⟨U, C, O, sz, m, ss, last, seq⟩ by have h := Hmy.out; simpa using h.symm)
    clear z0 z1 z2 z3 z4 z5 z6 z7 y0 y1 y2 y3 y4 y5 y6 y7 P8 B8
    go_wp2_with fail
    refine (RFind_any U C O sz Am nm cm As ns cs last seq x ss w2.heap.size w2 ((Hr.out.below Hb.out).more Hb.out.size) (Nat.le_refl _) (by omega)).mono ?_
    rintro e w3 ⟨rfl, hb⟩
    replace Hh := Lib.hid ((hb.block b (lt_of_block Hh.out)).trans Hh.out)
    replace Hz := Lib.hid ((hb.block z (lt_of_block Hz.out)).trans Hz.out)
    replace Hb := Lib.hid (Hb.out.trans (hb.mono Hb.out.size))
    clear hb c0 c1 c2 c3 c4 c5 c6 c7
    have hfr := findH_range x ss
    have Hf := Lib.hid (show dropE ⟨U, C, O, sz, m, ss, last, seq⟩ x = if findH ss x < 0 then 182 else 0 by
      unfold dropE
      rw [if_pos hmay.out])
    have Hk : ∃ k0, k0 = findH ss x := ⟨_, rfl⟩
    obtain ⟨k0, hk0⟩ := Hk
    rw [← hk0] at hfr ⊢
    rw [← hk0] at Hf
    have Hk0 := Lib.hid hk0
    clear hk0
    have Hlen := Lib.hid Hr.out.1
    rw [Hlen.out] at hfr
    have P8 := Lib.hid (put8_at Hz.out (.int .i64 0) (.int .i64 0) (.int .i64 0) (.int .i64 0) (.slice none 0 0) (.slice none 0 0) (.int .i64 0) (.int .i64 0))
    have B8 := Lib.hid (put8_below Hb.out (by have := Hbz.out; omega) (.int .i64 0) (.int .i64 0) (.int .i64 0) (.int .i64 0) (.slice none 0 0) (.slice none 0 0) (.int .i64 0) (.int .i64 0) (z := z))
    by_cases g : k0 < 0
    · have He := Lib.hid (show dropE ⟨U, C, O, sz, m, ss, last, seq⟩ x = 182 by rw [Hf.out, if_pos g])
      obtain ⟨z0, z1, z2, z3, z4, z5, z6, z7⟩ := heads_of Hz.out
      have y0 := free_blk Hz.out 0
      have y1 := free_blk Hz.out 1
      have y2 := free_blk Hz.out 2
      have y3 := free_blk Hz.out 3
      have y4 := free_blk Hz.out 4
      have y5 := free_blk Hz.out 5
      have y6 := free_blk Hz.out 6
      have y7 := free_blk Hz.out 7
      go_wp2_with fail
      clear z0 z1 z2 z3 z4 z5 z6 z7 y0 y1 y2 y3 y4 y5 y6 y7
      change bodyPost _ _ _ _ _ (put8 w3 z (.int .i64 0) (.int .i64 0) (.int .i64 0) (.int .i64 0) (.slice none 0 0) (.slice none 0 0) (.int .i64 0) (.int .i64 0))
      generalize put8 w3 z (.int .i64 0) (.int .i64 0) (.int .i64 0) (.int .i64 0) (.slice none 0 0) (.slice none 0 0) (.int .i64 0) (.int .i64 0) = w4 at P8 B8 ⊢
      obtain ⟨z0, z1, z2, z3, z4, z5, z6, z7⟩ := heads_of P8.out
      exact bodyPost_ret (v := .tuple #[hV0, .int .i64 182]) (by simp [results, Try.results28, go_sem, z0, z1, z2, z3, z4, z5, z6, z7]) rfl ⟨hV0, by rw [He.out], fun _ => rfl, fun h => absurd (He.out.symm.trans h) (by omega), B8.out⟩
    · have He := Lib.hid (show dropE ⟨U, C, O, sz, m, ss, last, seq⟩ x = 0 by rw [Hf.out, if_neg g])
      clear P8 B8
      obtain ⟨k, rfl⟩ := Int.eq_ofNat_of_zero_le (show 0 ≤ k0 by omega)
      obtain ⟨va, vk, vr, gs, os, rfl, hva, hvn, Ha, Hkk, Hrr, rfl, hgs, Sa, Sk, Sr⟩ := Hr.out.split (k := k) (by omega)
      have hl : (va.map Sv.s).length = k := by rw [List.length_map, hva]
      have Hk1 := Lib.hid (show (findH (va.map Sv.s ++ vk.s :: vr.map Sv.s) x).toNat = (va.map Sv.s).length by rw [← Hk0.out, hl, Int.toNat_natCast])
      replace Ha := Lib.hid Ha
      replace Hkk := Lib.hid Hkk
      replace Hrr := Lib.hid Hrr
      replace Sa := Lib.hid (show ∀ j u, (flatN va)[j]? = some u → w3.cell? ⟨gs, os + j, none⟩ = some u from fun j u h => (Hb.out.cell (p := ⟨gs, os + j, none⟩) hgs).trans (Sa j u h))
      replace Sr := Lib.hid (show ∀ j u, (flatN vr)[j]? = some u → w3.cell? ⟨gs, os + (k + 1) * 3 + j, none⟩ = some u from fun j u h => (Hb.out.cell (p := ⟨gs, os + (k + 1) * 3 + j, none⟩) hgs).trans (Sr j u h))
      replace Sk := (Hb.out.cell (p := ⟨gs, os + k * 3 + 2, none⟩) hgs).trans Sk
      obtain ⟨r, hr⟩ : ∃ r, r = vr.length := ⟨_, rfl⟩
      rw [← hr] at hvn
      subst hvn
      have Hvr := Lib.hid hr
      have Hva := Lib.hid hva
      have Hgs := Lib.hid hgs
      clear hr hva hgs hl hfr g Hlen
      obtain ⟨c0, c1, c2, c3, c4, c5, c6, c7⟩ := heads_of Hh.out
      have hk0 : (0 : Int) ≤ (k : Int) := by omega
      have hk1 : (k : Int) < ((k + 1 + r : Nat) : Int) := by omega
      go_upto_region 9 with fail
      have Hfa := Lib.hid (show (flatN va).length = k * 3 by rw [flatN_len, Hva.out])
      have Hfr := Lib.hid (show (flatN vr).length = r * 3 by rw [flatN_len, Hvr.out])
      have Srca := Lib.hid (show ∀ j u, (flatN va)[j]? = some u → w3.cell? ((⟨gs, os, none⟩ : Addr).add j) = some u from fun j u h => by
        have e : (⟨gs, os, none⟩ : Addr).add j = ⟨gs, os + j, none⟩ := by unfold Addr.add; split <;> simp_all
        rw [e]; exact Sa.out j u h)
      obtain ⟨inf, hi, hz0, hz1, hz2⟩ := info_parts Try.infoN
      have hkc : k ≤ cs := by omega
      have hkc1 : (k : Int) ≤ (cs : Int) := by omega
      go_upto_region 10 with (at_builtin; refine wpList_append_own _ rfl (.tmp 27) (.tmp 31) 25 rfl w3.heap.size 52 inf (.agg #[.int .i64 0, .int .i64 0, .slice none 0 0]) 3 40 Try.underlying25 hi hz0 hz1 hz2 rfl (by decide) _ 0 [] rfl (World.ownsRow_nil _ _ _ _) ⟨gs, os, none⟩ k _ (flatN va) rfl Hfa.out Srca.out (flatN_one _) (by simp only [maxLen]; omega) (by omega) (Nat.le_refl _) ?_; intro v4 w4 hown4 hg4 _; rw [Nat.zero_add, List.nil_append] at hown4; obtain ⟨A4, c4', rfl, _, _⟩ := ownF hown4; have Hb34 := Lib.hid ((Below.refl w3.heap.size w3).grown hg4 (Nat.le_refl _) (fun k hk => by have h : (none : Option Nat) = some k := hk; cases h)); have Hown4 := Lib.hid hown4; clear hown4 hg4)
      clear c0 c1 c2 c3 c4 c5 c6 c7 Srca
      have Hh4 := Lib.hid ((Hb34.out.block b (lt_of_block Hh.out)).trans Hh.out)
      have Hz4 := Lib.hid ((Hb34.out.block z (lt_of_block Hz.out)).trans Hz.out)
      have Hb4 := Lib.hid (Hb.out.trans (Hb34.out.mono Hb.out.size))
      have Hb3b := Lib.hid (lt_of_block Hh.out)
      have Hb3z := Lib.hid (lt_of_block Hz.out)
      have Hs34 := Lib.hid Hb34.out.size
      have hgs3 := Lib.hid (show gs < w3.heap.size by have := Hgs.out; have := Hb.out.size; omega)
      have Srcr := Lib.hid (show ∀ j u, (flatN vr)[j]? = some u → w4.cell? ((⟨gs, os + (k + 1) * 3, none⟩ : Addr).add j) = some u from fun j u h => by
        have e : (⟨gs, os + (k + 1) * 3, none⟩ : Addr).add j = ⟨gs, os + (k + 1) * 3 + j, none⟩ := by unfold Addr.add; split <;> simp_all
        rw [e]; exact (Hb34.out.cell (p := ⟨gs, os + (k + 1) * 3 + j, none⟩) hgs3.out).trans (Sr.out j u h))
      clear Hh Hz Hb Sa Sr Sk
      obtain ⟨c0, c1, c2, c3, c4, c5, c6, c7⟩ := heads_of Hh4.out
      have hkr1 : k + 1 + r - (k + 1) = r := by omega
      go_cut [9] (fun s9 wx => ∃ A5 c5, s9 = .slice A5 (k + r) c5 ∧ Hid (wx.ownsRow w3.heap.size 52 3 (.slice A5 (k + r) c5) (k + r) (flatN va ++ flatN vr)) ∧ Hid (Below w3.heap.size w4 wx))
      case first =>
        by_cases hcz : cs = k + 1
        · have hr0 : r = 0 := by omega
          subst hcz hr0
          have hvr0 : vr = [] := List.eq_nil_of_length_eq_zero Hvr.out.symm
          go_wp2_with (at_builtin; refine wpList_append_own _ rfl (.tmp 33) (.tmp 38) 25 rfl w3.heap.size 52 inf (.agg #[.int .i64 0, .int .i64 0, .slice none 0 0]) 3 40 Try.underlying25 hi hz0 hz1 hz2 rfl (by decide) _ k (flatN va) rfl Hown4.out ⟨gs, os, none⟩ 0 _ [] rfl rfl (by intro j u hu; simp at hu) (by intro u hu; simp at hu) (by simp only [maxLen]; omega) (by omega) Hs34.out ?_; intro v5 w5 hown5 hg5 _; obtain ⟨A5, c5', rfl, _, _⟩ := ownF hown5; have Hb45 := Lib.hid ((Below.refl w3.heap.size w4).grown hg5 Hs34.out (fun k hk => (Hown4.out.lt k hk).1)); have Hown5 := Lib.hid hown5; clear hown5 hg5)
          go_meet
          exact ⟨A5, c5', rfl, by rw [hvr0]; exact Hown5, Hb45⟩
        · have hcz' : k + 1 < cs := by omega
          go_wp2_with (at_builtin; refine wpList_append_own _ rfl (.tmp 33) (.tmp 38) 25 rfl w3.heap.size 52 inf (.agg #[.int .i64 0, .int .i64 0, .slice none 0 0]) 3 40 Try.underlying25 hi hz0 hz1 hz2 rfl (by decide) _ k (flatN va) rfl Hown4.out ⟨gs, os + (k + 1) * 3, none⟩ r _ (flatN vr) rfl Hfr.out Srcr.out (flatN_one _) (by simp only [maxLen]; omega) (by omega) Hs34.out ?_; intro v5 w5 hown5 hg5 _; obtain ⟨A5, c5', rfl, _, _⟩ := ownF hown5; have Hb45 := Lib.hid ((Below.refl w3.heap.size w4).grown hg5 Hs34.out (fun k hk => (Hown4.out.lt k hk).1)); have Hown5 := Lib.hid hown5; clear hown5 hg5)
          go_meet
          exact ⟨A5, c5', rfl, Hown5, Hb45⟩
      case rest =>
        obtain ⟨A5, c5', rfl, Hown5, Hb45⟩ := hcut
        have Hh5 := Lib.hid ((Hb45.out.block b Hb3b.out).trans Hh4.out)
        have Hz5 := Lib.hid ((Hb45.out.block z Hb3z.out).trans Hz4.out)
        have Hb5 := Lib.hid (Hb4.out.trans (Hb45.out.mono (by have := Hbz.out; have := Hb3b.out; omega)))
        replace Hown5 := Lib.hid (show wc.ownsRow w3.heap.size 52 3 (.slice A5 (k + r) c5') (k + r) (flatN (va ++ vr)) from by rw [flatN_app]; exact Hown5.out)
        have hb5 := Lib.hid (lt_of_block Hh5.out)
        have hz5 := Lib.hid (lt_of_block Hz5.out)
        have Hnk := Lib.hid (show vk.n ≤ 100000 by rw [← Hkk.out.1.1]; exact Hmm.out _ (by simp))
        have hnk : vk.n ≤ 100000 := Hnk.out
        clear c0 c1 c2 c3 c4 c5 c6 c7 Hh4 Hz4 Hb4 Hb34 Hs34 hgs3 Srcr Hown4 Hb45 hkr1 Hfa Hfr hkc hkc1
        obtain ⟨q, hq⟩ : ∃ q, q = k + r := ⟨_, rfl⟩
        rw [← hq] at Hown5 ⊢
        obtain ⟨c0, c1, c2, c3, c4, c5, c6, c7⟩ := heads_of Hh5.out
        have HK := Lib.hid ((Hkk.out.1.below Hb5.out).more Hb5.out.size)
        rcases vr with _ | ⟨v1, vr⟩
        · have hr0 : r = 0 := Hvr.out
          have hqk : q = k := by omega
          clear hq
          subst hqk
          clear hr0
          have HM := Lib.hid (RMerge_any vk.A Am vk.n nm vk.c cm vk.s.map m wc HK.out ((Hm.out.below Hb5.out).more Hb5.out.size) hnk hn)
          have y4 := free_blk Hh5.out 4
          go_wp2_with fail
          refine HM.out.mono ?_
          rintro e w6 ⟨v7, rfl, hown7, hb7⟩
          obtain ⟨A7, c7', rfl, _, _⟩ := ownI hown7
          have Hown6 := Lib.hid hown7
          have Hh6 := Lib.hid ((hb7.block b hb5.out).trans Hh5.out)
          have Hz6 := Lib.hid ((hb7.block z hz5.out).trans Hz5.out)
          have Hb6 := Lib.hid (Hb5.out.trans (hb7.mono Hb5.out.size))
          have Hsn6 := Lib.hid (own_to Hown5.out hb7)
          clear hown7 hb7 HM c0 c1 c2 c3 c4 c5 c6 c7 y4 Hh5 Hz5 Hb5 Hown5
          obtain ⟨l7, hl7⟩ : ∃ l7, l7 = (mergeO vk.s.map m).length := ⟨_, rfl⟩
          rw [← hl7] at Hown6 ⊢
          have Hl7 := Lib.hid hl7
          clear hl7
          obtain ⟨c0, c1, c2, c3, c4, c5, c6, c7⟩ := heads_of Hh6.out
          have y4 := free_blk Hh6.out 4
          go_upto_region 14 with fail
          have Hh7 := Lib.hid (show (w6.setCell ⟨b, 4, none⟩ (.slice A7 l7 c7')).heap[b]? = some (.cells #[.int .i64 U, .int .i64 C, .int .i64 O, .int .i64 sz, .slice A7 l7 c7', _, .int .i64 last, .int .i64 seq] 27 (0, 0)) from set_blk Hh6.out 4 _)
          have Hz7 := Lib.hid ((Below.heap_setCell w6 ⟨b, 4, none⟩ (.slice A7 l7 c7') z (by have := Hbz.out; show z ≠ b; omega)).trans Hz6.out)
          have Hb7 := Lib.hid (Hb6.out.setCell (p := ⟨b, 4, none⟩) (by have := Hbz.out; show _ ≤ b; omega) (.slice A7 l7 c7'))
          have Hmp7 := Lib.hid (own_set Hown6.out (p := ⟨b, 4, none⟩) hb5.out (.slice A7 l7 c7'))
          have Hsn7 := Lib.hid (own_set Hsn6.out (p := ⟨b, 4, none⟩) Hb3b.out (.slice A7 l7 c7'))
          clear c0 c1 c2 c3 c4 c5 c6 c7 y4 Hh6 Hz6 Hb6 Hsn6 Hown6
          generalize w6.setCell ⟨b, 4, none⟩ (.slice A7 l7 c7') = w7 at Hh7 Hz7 Hb7 Hmp7 Hsn7 ⊢
          obtain ⟨c0, c1, c2, c3, c4, c5, c6, c7⟩ := heads_of Hh7.out
          have y5 := free_blk Hh7.out 5
          go_upto_region 15 with fail
          have Hh8 := Lib.hid (show (w7.setCell ⟨b, 5, none⟩ (.slice A5 q c5')).heap[b]? = some (.cells #[.int .i64 U, .int .i64 C, .int .i64 O, .int .i64 sz, .slice A7 l7 c7', .slice A5 q c5', .int .i64 last, .int .i64 seq] 27 (0, 0)) from set_blk Hh7.out 5 _)
          have Hz8 := Lib.hid ((Below.heap_setCell w7 ⟨b, 5, none⟩ (.slice A5 q c5') z (by have := Hbz.out; show z ≠ b; omega)).trans Hz7.out)
          have Hb8 := Lib.hid (Hb7.out.setCell (p := ⟨b, 5, none⟩) (by have := Hbz.out; show _ ≤ b; omega) (.slice A5 q c5'))
          have Hmp8 := Lib.hid (own_set Hmp7.out (p := ⟨b, 5, none⟩) hb5.out (.slice A5 q c5'))
          have Hsn8 := Lib.hid (own_set Hsn7.out (p := ⟨b, 5, none⟩) Hb3b.out (.slice A5 q c5'))
          clear c0 c1 c2 c3 c4 c5 c6 c7 y5 Hh7 Hz7 Hb7 Hsn7 Hmp7
          generalize w7.setCell ⟨b, 5, none⟩ (.slice A5 q c5') = w8 at Hh8 Hz8 Hb8 Hmp8 Hsn8 ⊢
          obtain ⟨c0, c1, c2, c3, c4, c5, c6, c7⟩ := heads_of Hh8.out
          obtain ⟨z0, z1, z2, z3, z4, z5, z6, z7⟩ := heads_of Hz8.out
          have y0 := free_blk Hz8.out 0
          have y1 := free_blk Hz8.out 1
          have y2 := free_blk Hz8.out 2
          have y3 := free_blk Hz8.out 3
          have y4 := free_blk Hz8.out 4
          have y5 := free_blk Hz8.out 5
          have y6 := free_blk Hz8.out 6
          have y7 := free_blk Hz8.out 7
          have P9 := Lib.hid (put8_at Hz8.out (.int .i64 U) (.int .i64 C) (.int .i64 O) (.int .i64 sz) (.slice A7 l7 c7') (.slice A5 q c5') (.int .i64 last) (.int .i64 seq))
          have B9 := Lib.hid (put8_below Hb8.out (by have := Hbz.out; omega) (.int .i64 U) (.int .i64 C) (.int .i64 O) (.int .i64 sz) (.slice A7 l7 c7') (.slice A5 q c5') (.int .i64 last) (.int .i64 seq) (z := z))
          have M9 := Lib.hid (own_put8 Hmp8.out hz5.out (.int .i64 U) (.int .i64 C) (.int .i64 O) (.int .i64 sz) (.slice A7 l7 c7') (.slice A5 q c5') (.int .i64 last) (.int .i64 seq))
          have S9 := Lib.hid (own_put8 Hsn8.out Hb3z.out (.int .i64 U) (.int .i64 C) (.int .i64 O) (.int .i64 sz) (.slice A7 l7 c7') (.slice A5 q c5') (.int .i64 last) (.int .i64 seq))
          go_wp2_with fail
          clear c0 c1 c2 c3 c4 c5 c6 c7 z0 z1 z2 z3 z4 z5 z6 z7 y0 y1 y2 y3 y4 y5 y6 y7
          change bodyPost _ _ _ _ _ (put8 w8 z (.int .i64 U) (.int .i64 C) (.int .i64 O) (.int .i64 sz) (.slice A7 l7 c7') (.slice A5 q c5') (.int .i64 last) (.int .i64 seq))
          generalize put8 w8 z (.int .i64 U) (.int .i64 C) (.int .i64 O) (.int .i64 sz) (.slice A7 l7 c7') (.slice A5 q c5') (.int .i64 last) (.int .i64 seq) = w9 at P9 B9 M9 S9 ⊢
          obtain ⟨z0, z1, z2, z3, z4, z5, z6, z7⟩ := heads_of P9.out
          refine bodyPost_ret (v := .tuple #[hV U C O sz A7 l7 c7' A5 q c5' last seq, .int .i64 0]) (by simp [results, Try.results28, go_sem, z0, z1, z2, z3, z4, z5, z6, z7]) rfl ⟨_, by rw [He.out], fun h => absurd He.out h, fun _ => ?_, B9.out⟩
          show HdAt w9 (dropH _ (findH (va.map Sv.s ++ vk.s :: []) x).toNat) _
          rw [show (findH (va.map Sv.s ++ vk.s :: []) x).toNat = (va.map Sv.s).length from Hk1.out]
          rw [show (List.map Sv.s va ++ vk.s :: List.map Sv.s []) = va.map Sv.s ++ [vk.s] from rfl, drop_last]
          refine ⟨A7, l7, c7', A5, q, c5', rfl, ?_, ?_, ?_⟩
          · have h := M9.out
            rw [Hl7.out] at h ⊢
            exact RdI.own h
          · rw [Hl7.out]
            exact Nat.le_trans (mergeO_is _ _).1 (by omega)
          · have h := S9.out
            rw [List.append_nil] at h
            exact RdN.own h Hva.out (fun p hp => (Ha.out p hp).to B9.out)
        · have hkq : k < q := by have := Hvr.out; simp at this; omega
          have He2 := Lib.hid (show dropE ⟨U, C, O, sz, m, List.map Sv.s va ++ vk.s :: v1.s :: List.map Sv.s vr, last, seq⟩ x = 0 from He.out)
          have hkq1 : (k : Int) < (q : Int) := by omega
          have Hq := Lib.hid hq
          clear hq
          have Hown5' := Hown5.out
          rcases Hown5'.2 with ⟨_, h0⟩ | ⟨g5, cap, cur, he, hge, hg5, hnc, hcm5, hcs, htake⟩
          · omega
          cases he
          have Hge := Lib.hid (show w3.heap.size ≤ g5 from hge)
          have Hg5 := Lib.hid (lt_of_block hg5)
          have x2 : wc.cell? ⟨g5, k * 3 + 2, none⟩ = some (.slice v1.A v1.n v1.c) := by
            rw [Hown5'.cellAt (k * 3 + 2) (by omega)]
            have h := flatN_get (va ++ v1 :: vr) k 2 (by simp [Hva.out]) (by omega)
            rw [h, List.getElem_append_right (by rw [Hva.out]; exact Nat.le_refl _)]
            simp [Hva.out, svC]
          have X2 := Lib.hid x2
          clear Hown5' hge hg5 hnc hcm5 hcs htake
          have hn1 : v1.n ≤ 100000 := by rw [← (Hrr.out v1 (by simp)).1.1]; exact Hmm.out _ (by simp)
          have H1 := Lib.hid (((Hrr.out v1 (by simp)).1.below Hb5.out).more Hb5.out.size)
          have HM := Lib.hid (RMerge_any vk.A v1.A vk.n v1.n vk.c v1.c vk.s.map v1.s.map wc HK.out H1.out hnk hn1)
          go_wp2_with fail
          refine HM.out.mono ?_
          rintro e w6 ⟨v7, rfl, hown7, hb7⟩
          obtain ⟨A7, c7', rfl, _, _⟩ := ownI hown7
          have Hown6 := Lib.hid hown7
          have Hh6 := Lib.hid ((hb7.block b hb5.out).trans Hh5.out)
          have Hz6 := Lib.hid ((hb7.block z hz5.out).trans Hz5.out)
          have Hb6 := Lib.hid (Hb5.out.trans (hb7.mono Hb5.out.size))
          have Hsn6 := Lib.hid (own_to Hown5.out hb7)
          replace x2 := (hb7.cell (p := ⟨g5, k * 3 + 2, none⟩) Hg5.out).trans X2.out
          have y2 := World.ownsRow.frozenAt Hsn6.out (k * 3 + 2)
          clear hown7 hb7 HM c0 c1 c2 c3 c4 c5 c6 c7 Hh5 Hz5 Hb5 Hown5
          obtain ⟨l7, hl7⟩ : ∃ l7, l7 = (mergeO vk.s.map v1.s.map).length := ⟨_, rfl⟩
          rw [← hl7] at Hown6 ⊢
          have Hl7 := Lib.hid hl7
          clear hl7
          go_upto_region 14 with fail
          have Hh7 := Lib.hid ((Below.heap_setCell w6 ⟨g5, k * 3 + 2, none⟩ (.slice A7 l7 c7') b (by have := Hge.out; have := Hb3b.out; show b ≠ g5; omega)).trans Hh6.out)
          have Hz7 := Lib.hid ((Below.heap_setCell w6 ⟨g5, k * 3 + 2, none⟩ (.slice A7 l7 c7') z (by have := Hge.out; have := Hb3z.out; show z ≠ g5; omega)).trans Hz6.out)
          have Hb7 := Lib.hid (Hb6.out.setCell (p := ⟨g5, k * 3 + 2, none⟩) (by have := Hge.out; have := Hb3b.out; have := Hbz.out; show _ ≤ g5; omega) (.slice A7 l7 c7'))
          have Hmp7 := Lib.hid (own_set Hown6.out (p := ⟨g5, k * 3 + 2, none⟩) Hg5.out (.slice A7 l7 c7'))
          have Hsn7 := Lib.hid (World.ownsRow.stored Hsn6.out (k * 3 + 2) (.slice A7 l7 c7')).1
          replace Hsn7 := Lib.hid (show (w6.setCell ⟨g5, k * 3 + 2, none⟩ (.slice A7 l7 c7')).ownsRow w3.heap.size 52 3 (.slice (some ⟨g5, 0, none⟩) q c5') q (flatN (va ++ ⟨{ v1.s with map := mergeO vk.s.map v1.s.map }, A7, l7, c7'⟩ :: vr)) by
            have h := Hsn7.out
            have e := flatN_set va vr v1 A7 l7 c7' (mergeO vk.s.map v1.s.map)
            rw [Hva.out] at e
            rw [e] at h
            exact h)
          clear x2 y2 Hh6 Hz6 Hb6 Hsn6 Hown6
          generalize w6.setCell ⟨g5, k * 3 + 2, none⟩ (.slice A7 l7 c7') = w7 at Hh7 Hz7 Hb7 Hmp7 Hsn7 ⊢
          obtain ⟨c0, c1, c2, c3, c4, c5, c6, c7⟩ := heads_of Hh7.out
          have y5 := free_blk Hh7.out 5
          go_upto_region 15 with fail
          have Hh8 := Lib.hid (show (w7.setCell ⟨b, 5, none⟩ (.slice (some ⟨g5, 0, none⟩) q c5')).heap[b]? = some (.cells #[.int .i64 U, .int .i64 C, .int .i64 O, .int .i64 sz, .slice Am nm cm, .slice (some ⟨g5, 0, none⟩) q c5', .int .i64 last, .int .i64 seq] 27 (0, 0)) from set_blk Hh7.out 5 _)
          have Hz8 := Lib.hid ((Below.heap_setCell w7 ⟨b, 5, none⟩ (.slice (some ⟨g5, 0, none⟩) q c5') z (by have := Hbz.out; show z ≠ b; omega)).trans Hz7.out)
          have Hb8 := Lib.hid (Hb7.out.setCell (p := ⟨b, 5, none⟩) (by have := Hbz.out; show _ ≤ b; omega) (.slice (some ⟨g5, 0, none⟩) q c5'))
          have Hmp8 := Lib.hid (own_set Hmp7.out (p := ⟨b, 5, none⟩) hb5.out (.slice (some ⟨g5, 0, none⟩) q c5'))
          have Hsn8 := Lib.hid (own_set Hsn7.out (p := ⟨b, 5, none⟩) Hb3b.out (.slice (some ⟨g5, 0, none⟩) q c5'))
          clear c0 c1 c2 c3 c4 c5 c6 c7 y5 Hh7 Hz7 Hb7 Hsn7 Hmp7
          generalize w7.setCell ⟨b, 5, none⟩ (.slice (some ⟨g5, 0, none⟩) q c5') = w8 at Hh8 Hz8 Hb8 Hmp8 Hsn8 ⊢
          obtain ⟨c0, c1, c2, c3, c4, c5, c6, c7⟩ := heads_of Hh8.out
          obtain ⟨z0, z1, z2, z3, z4, z5, z6, z7⟩ := heads_of Hz8.out
          have y0 := free_blk Hz8.out 0
          have y1 := free_blk Hz8.out 1
          have y2 := free_blk Hz8.out 2
          have y3 := free_blk Hz8.out 3
          have y4 := free_blk Hz8.out 4
          have y5 := free_blk Hz8.out 5
          have y6 := free_blk Hz8.out 6
          have y7 := free_blk Hz8.out 7
          have P9 := Lib.hid (put8_at Hz8.out (.int .i64 U) (.int .i64 C) (.int .i64 O) (.int .i64 sz) (.slice Am nm cm) (.slice (some ⟨g5, 0, none⟩) q c5') (.int .i64 last) (.int .i64 seq))
          have B9 := Lib.hid (put8_below Hb8.out (by have := Hbz.out; omega) (.int .i64 U) (.int .i64 C) (.int .i64 O) (.int .i64 sz) (.slice Am nm cm) (.slice (some ⟨g5, 0, none⟩) q c5') (.int .i64 last) (.int .i64 seq) (z := z))
          have M9 := Lib.hid (own_put8 Hmp8.out hz5.out (.int .i64 U) (.int .i64 C) (.int .i64 O) (.int .i64 sz) (.slice Am nm cm) (.slice (some ⟨g5, 0, none⟩) q c5') (.int .i64 last) (.int .i64 seq))
          have S9 := Lib.hid (own_put8 Hsn8.out Hb3z.out (.int .i64 U) (.int .i64 C) (.int .i64 O) (.int .i64 sz) (.slice Am nm cm) (.slice (some ⟨g5, 0, none⟩) q c5') (.int .i64 last) (.int .i64 seq))
          go_wp2_with fail
          clear c0 c1 c2 c3 c4 c5 c6 c7 z0 z1 z2 z3 z4 z5 z6 z7 y0 y1 y2 y3 y4 y5 y6 y7
          change bodyPost _ _ _ _ _ (put8 w8 z (.int .i64 U) (.int .i64 C) (.int .i64 O) (.int .i64 sz) (.slice Am nm cm) (.slice (some ⟨g5, 0, none⟩) q c5') (.int .i64 last) (.int .i64 seq))
          generalize put8 w8 z (.int .i64 U) (.int .i64 C) (.int .i64 O) (.int .i64 sz) (.slice Am nm cm) (.slice (some ⟨g5, 0, none⟩) q c5') (.int .i64 last) (.int .i64 seq) = w9 at P9 B9 M9 S9 ⊢
          obtain ⟨z0, z1, z2, z3, z4, z5, z6, z7⟩ := heads_of P9.out
          refine bodyPost_ret (v := .tuple #[hV U C O sz Am nm cm (some ⟨g5, 0, none⟩) q c5' last seq, .int .i64 0]) (by simp [results, Try.results28, go_sem, z0, z1, z2, z3, z4, z5, z6, z7]) rfl ⟨_, by rw [He2.out], fun h => absurd He2.out h, fun _ => ?_, B9.out⟩
          show HdAt w9 (dropH _ (findH (va.map Sv.s ++ vk.s :: v1.s :: vr.map Sv.s) x).toNat) _
          rw [show (findH (va.map Sv.s ++ vk.s :: v1.s :: vr.map Sv.s) x).toNat = (va.map Sv.s).length from Hk1.out]
          rw [drop_mid]
          refine ⟨Am, nm, cm, some ⟨g5, 0, none⟩, q, c5', rfl, (Hm.out.below B9.out).more B9.out.size, by omega, ?_⟩
          have h := RdN.own S9.out (by have h1 := Hvr.out; have h2 := Hq.out; simp [Hva.out] at h1 ⊢; omega) (fun p hp => by
            rcases List.mem_append.1 hp with hp | hp
            · exact (Ha.out p hp).to B9.out
            · rcases List.mem_cons.1 hp with hp | hp
              · subst hp
                refine ⟨?_, ?_⟩
                · have h := M9.out
                  rw [Hl7.out] at h
                  show RdI _ _ A7 l7 _
                  rw [Hl7.out]
                  exact RdI.own h
                · show l7 ≤ _
                  rw [Hl7.out]
                  exact Nat.le_trans (mergeO_is _ _).1 (by omega)
              · exact (Hrr.out p (List.mem_cons_of_mem _ hp)).to B9.out)
          rw [List.map_append, List.map_cons] at h
          exact h
end Go.Proofs.Ytaobdebeglenaaa
