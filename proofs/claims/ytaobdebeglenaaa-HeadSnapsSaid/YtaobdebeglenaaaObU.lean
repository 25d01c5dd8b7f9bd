/- Contract of the document's Unpack (maps of objects' states). -/
import Derived.Test.YtaobdebeglenaaaObK
import Derived.Deep.RegionWith
namespace Go.Proofs.Ytaobdebeglenaaa
open Go.RowKit

/-- what Unpack tells -/
def UnP (w : World) (b : List UInt8) (e : Ending) (w' : World) : Prop :=
  ∃ A n c, e = .returned (.tuple #[.slice A n c, .bool (unO b).isSome]) ∧ RdI w' w'.heap.size A n ((unO b).getD []) ∧ (n ≤ 9223372036854775807 ∧ NewA w' 3 w.heap.size A n) ∧ Below w.heap.size w w'
theorem unO_short {b : List UInt8} (h : ¬ 2 ≤ b.length) : unO b = none := by unfold unO; rw [if_neg (fun q => h q.1)]
theorem unO_form {b : List UInt8} (h : ¬ (IsRow (canU b) ∧ packR (canU b) = b)) : unO b = none := by unfold unO; rw [if_neg (fun q => h q.2)]
theorem unO_yes {b : List UInt8} (h2 : 2 ≤ b.length) (h : IsRow (canU b)) (hp : packR (canU b) = b) : unO b = some (canU b) := by unfold unO; rw [if_pos ⟨h2, h, hp⟩]
theorem undrewn {w w1 : World} {B q : Nat} (h : Below B (w.drewN q) w1) : Below B w w1 := ⟨h.os, h.tape, h.output, h.size, h.block⟩

theorem undrew1 {w w1 : World} (h : Below w.drew.heap.size w.drew w1) : Below w.heap.size w w1 := ⟨h.os, h.tape, h.output, h.size, h.block⟩

set_option maxRecDepth 10000 in
set_option maxHeartbeats 2000000 in
theorem RUnpack_any (A : Option Addr) (n c : Nat) (b : List UInt8) (w : World) (hr : Rd w w.heap.size A n b) (hn : n ≤ 10000) :
    Calls Try.prog 84 #[.slice A n c] w (UnP w b) := by
  obtain ⟨inf, hi, hz0, hz1, hz2⟩ := info_parts Try.infoI
  have Hr := Lib.hid hr
  clear hr
  by_cases h2 : 2 ≤ n
  · obtain ⟨ad, rfl, hadB, hc0⟩ := Hr.out.cellAt (k := 0) (by omega)
    obtain ⟨ad', he, _, hc1⟩ := Hr.out.cellAt (k := 1) (by omega)
    cases he
    have ha0 : ad.add 0 = ad := by simp [Addr.add]
    rw [ha0] at hc0
    have hl0 : 0 < b.length := by rw [Hr.out.1]; omega
    have hl1 : 1 < b.length := by rw [Hr.out.1]; omega
    have Hcnt := Lib.hid (show cntU b = 256 * b[0].toNat + b[1].toNat by
      unfold cntU
      rw [List.getD_eq_getElem?_getD, List.getElem?_eq_getElem hl0, List.getD_eq_getElem?_getD, List.getElem?_eq_getElem hl1]; rfl)
    have hb0 : b[0].toNat < 256 := b[0].toNat_lt
    have hb1 : b[1].toNat < 256 := b[1].toNat_lt
    replace hc0 : w.cell? ad = some (.int .u8 (b[0].toNat : Int)) := hc0
    replace hc1 : w.cell? (ad.add 1) = some (.int .u8 (b[1].toNat : Int)) := hc1
    generalize b[0].toNat = B0 at *
    generalize b[1].toNat = B1 at *
    obtain ⟨N, hN⟩ : ∃ N, N = cntU b := ⟨_, rfl⟩
    rw [← hN] at Hcnt
    have HN := Lib.hid hN
    have hNb : N ≤ 70000 := by have := Hcnt.out; omega
    obtain ⟨p, hp⟩ : ∃ p : Int, p = 256 * (B0 : Int) := ⟨_, rfl⟩
    have hc2 : w.cell? ⟨ad.block, ad.off + 1, none⟩ = some (.int .u8 (B1 : Int)) := by
      have e : ad.add 1 = ⟨ad.block, ad.off + 1, none⟩ := by unfold Addr.add; simp
      rw [← e]; exact hc1
    have hwa : IntKind.i64.wrap (B0 : Int) = (B0 : Int) := IntWalk.i64_in _ (by omega)
    have hwb : IntKind.i64.wrap (B1 : Int) = (B1 : Int) := IntWalk.i64_in _ (by omega)
    have hw1 : IntKind.i64.wrap (256 * (B0 : Int)) = p := by rw [IntWalk.i64_in _ (by omega)]; exact hp.symm
    have hw2 : IntKind.i64.wrap (p + (B1 : Int)) = (N : Int) := by rw [IntWalk.i64_in _ (by omega)]; have := Hcnt.out; omega
    have Hp := Lib.hid hp
    have hh0 : (0 : Int) < (n : Int) := by omega
    have hh1 : (1 : Int) < (n : Int) := by omega
    have hh2 : ¬ (n : Int) < 2 := by omega
    have hh3 : 0 < n := by omega
    have hh4 : 1 < n := by omega
    clear hN hp ha0 hl0 hl1
    go_enter Try.func84, Try.ntmps84
    go_wp2_with fail
    go_quiet (fail)
    have Hr3 : Hid (Rd (w.drewN nq) w.heap.size (some ad) n b) := Hr.out.drewN nq
    have Hb3 : Hid (Below w.heap.size w (w.drewN nq)) := ⟨rfl, rfl, rfl, Nat.le_refl _, fun _ _ => rfl⟩
    generalize w.drewN nq = w3 at Hr3 Hb3 ⊢
    clear hc0 hc1 hc2 hw1 hw2 hwa hwb Hcnt Hp
    have Hr4 := Lib.hid (Hr3.out.more Hb3.out.size)
    clear Hr3
    go_wp2_with fail
    go_loopw [5, 6] (fun v i wr => ∃ j : Nat, j ≤ N ∧ j ≤ 4 * (n - 2) ∧ i = .int .i64 j ∧ Hid (wr.ownsRow w3.heap.size 3 1 v j (((List.range j).map (stU b)).map (Value.int .i64))) ∧ Hid (Below w3.heap.size w3 wr)) (fun _ i _ => N - (intOf i).toNat)
    case atStart => exact ⟨0, Nat.zero_le _, Nat.zero_le _, rfl, World.ownsRow_nil _ _ _ _, Below.refl _ _⟩
    case round =>
      obtain ⟨j, hjN, hjn, rfl, Hown, Hbr⟩ := hrel
      have hj0 : (0 : Int) ≤ (j : Int) := by omega
      obtain ⟨K, hKe⟩ : ∃ K, K = 2 + j / 4 := ⟨_, rfl⟩
      have HK := Lib.hid hKe
      have hK : (2 : Int) + (j : Int) / 4 = (K : Int) := by omega
      have hK0 : (0 : Int) ≤ (K : Int) := by omega
      have hws := Hbr.out.size
      clear hKe
      by_cases hgo : j < N ∧ K < n
      · obtain ⟨g1, g2⟩ := hgo
        have hj1 : (j : Int) < (N : Int) := by omega
        have hK1 : (K : Int) < (n : Int) := by omega
        obtain ⟨ad', he, _, hc⟩ := (Hr4.out.below Hbr.out).cellAt g2
        cases he
        have hKl : K < b.length := by rw [Hr.out.1]; exact g2
        obtain ⟨E, hEe⟩ : ∃ E, E = j % 4 := ⟨_, rfl⟩
        have hE1 : (j : Int).tmod 4 = (E : Int) := by rw [Int.tmod_eq_emod_of_nonneg hj0]; omega
        have hE2 : (j : Int) % 4 = (E : Int) := by omega
        have hst : stU b j = ((b[K].toNat / 4 ^ E % 4 : Nat) : Int) := by
          unfold stU
          rw [← HK.out, ← hEe, List.getD_eq_getElem?_getD, List.getElem?_eq_getElem hKl]; rfl
        replace hc : wr.cell? (ad.add K) = some (.int .u8 (b[K].toNat : Int)) := hc
        have hc' : wr.cell? ⟨ad.block, ad.off + K, none⟩ = some (.int .u8 (b[K].toNat : Int)) := by
          have e : ad.add K = ⟨ad.block, ad.off + K, none⟩ := by
            unfold Addr.add
            rw [if_neg (by have := HK.out; omega)]
          rw [← e]; exact hc
        have hX : b[K].toNat < 256 := b[K].toNat_lt
        have Hst := Lib.hid (show (((List.range (j + 1)).map (stU b)).map (Value.int .i64)) = (((List.range j).map (stU b)).map (Value.int .i64)) ++ [stU b j].map (Value.int .i64) by rw [List.range_succ, List.map_append, List.map_append]; rfl)
        generalize stU b j = sj at hst Hst
        generalize b[K].toNat = X at hc hc' hst hX
        have Hsj := Lib.hid hst
        have HE := Lib.hid (show E ≤ 4 by omega)
        have HgN := Lib.hid g1
        have Hgn := Lib.hid (show j + 1 ≤ 4 * (n - 2) by have := HK.out; omega)
        clear hst hKl hEe g1 g2 hjn hjN
        go_wp2_with fail
        go_loopw [7, 8] (fun cv kv wq => wq = wr ∧ ∃ k y : Nat, k ≤ E ∧ kv = .int .i64 k ∧ cv = .int .i64 y ∧ Hid (y = X / 4 ^ k) ∧ y < 256) (fun _ kv _ => E - (intOf kv).toNat)
        case atStart => exact ⟨rfl, 0, X, Nat.zero_le _, rfl, rfl, by show X = X / 4 ^ 0; simp, hX⟩
        case round =>
          obtain ⟨rfl, k, y, hk, rfl, rfl, Hy, hy⟩ := hrel
          have hk0 : (0 : Int) ≤ (k : Int) := by omega
          have hy0 : (0 : Int) ≤ (y : Int) := by omega
          have hy1 : (y : Int) < 256 := by omega
          by_cases hkE : k < E
          · have hk1 : (k : Int) < (E : Int) := by omega
            obtain ⟨y2, hy2⟩ : ∃ y2, y2 = y / 4 := ⟨_, rfl⟩
            have hyd : (y : Int) / 4 = (y2 : Int) := by omega
            have Hy2 := Lib.hid (show y2 = X / 4 ^ (k + 1) by rw [hy2, Hy.out, Nat.div_div_eq_div_mul, Nat.pow_succ])
            have Hyl := Lib.hid (show y2 < 256 by omega)
            clear hy2
            go_wp2_with fail
            go_roundw
            case rel => exact ⟨by first | rfl | trivial, k + 1, y2, by omega, by go_num, by rfl, Hy2, Hyl.out⟩
            case measure => simp [intOf]; omega
          · obtain rfl : k = E := by omega
            obtain ⟨z, hz⟩ : ∃ z, z = y % 4 := ⟨_, rfl⟩
            have hym : (y : Int) % 4 = (z : Int) := by omega
            have hym2 : (y : Int).tmod 4 = (z : Int) := by rw [Int.tmod_eq_emod_of_nonneg hy0]; omega
            have Hz := Lib.hid (show sj = (z : Int) by rw [Hsj.out, hz, ← Hy.out])
            have hjb : j ≤ 40000 := by have := Hgn.out; omega
            clear hz
            obtain ⟨A3, c3, rfl, _, _⟩ := ownI Hown.out
            go_wp2_with (at_builtin; refine wpList_append_rd rfl (.tmp 50) (.tmp 53) 24 rfl w3.heap.size 3 inf (.int .i64 0) 8 Try.underlying24 hi hz0 hz1 hz2 rfl _ _ _ rfl (Hown.out.alloc _) (some ⟨wr.heap.size, 0, none⟩) 1 1 ([(z : Int)].map (Value.int .i64)) rfl rfl (RdI_lit wr 3 [(z : Int)]).src (int_one _) (by simp only [maxLen]; omega) (by omega) (by simp; omega) ?_; intro v2 w2 hown2 hg2; have Hb2 := Lib.hid ((Hbr.out.alloc hws _).grown hg2 (by simp; omega) (fun q hq => (Hown.out.lt q hq).1)); have Hown2 := Lib.hid hown2; clear hown2 hg2)
            go_roundw
            case rel => exact ⟨j + 1, HgN.out, Hgn.out, by go_num, by rw [Hst.out, Hz.out]; exact Hown2, Hb2⟩
            case measure => have := HgN.out; simp [intOf]; omega
      · have Hcan := Lib.hid (show canU b = (List.range j).map (stU b) by
          unfold canU
          congr 2
          rw [Hr.out.1, ← HN.out]
          have := HK.out
          omega)
        have Hg := Lib.hid hgo
        have hjb : j ≤ 40000 := by omega
        clear hgo hjn hjN
        go_upto_region 6 with fail
        go_cut [32] (fun s32 wx => s32 = .bool false ∧ wx = wr)
        case first =>
          by_cases g1 : (j : Int) < (N : Int)
          · have g2 : ¬ (K : Int) < (n : Int) := by have := Hg.out; omega
            go_wp2_with fail
            go_meet
            exact ⟨rfl, rfl⟩
          · go_wp2_with fail
            go_meet
            exact ⟨rfl, rfl⟩
        case rest =>
          obtain ⟨rfl, rfl⟩ := hcut
          rw [← Hcan.out] at Hown
          obtain ⟨A3, c3, rfl, _, _⟩ := ownI Hown.out
          have Hl := Lib.hid (RdI.own Hown.out)
          have Hnw := Lib.hid (NewA.own Hown.out)
          have Hlen := Lib.hid Hl.out.1
          have H2n : Hid (2 ≤ b.length) := by show _ ≤ _; rw [Hr.out.1]; exact h2
          have Hform : Hid (¬ (IsRow (canU b) ∧ packR (canU b) = b) → unO b = none) := unO_form
          have Hyes : Hid (IsRow (canU b) → packR (canU b) = b → unO b = some (canU b)) := unO_yes H2n.out
          have HM : Hid (∀ w0 : World, RdI w0 wc.heap.size A3 j (canU b) → Calls Try.prog 67 #[.slice A3 j c3] w0 fun e w' => e = .returned (.bool (decide (IsRow (canU b)))) ∧ w0 = w') := fun w0 h => RMay_any A3 j c3 _ _ w0 h (by omega)
          have HPk : Hid (∀ w0 : World, RdI w0 w0.heap.size A3 j (canU b) → Calls Try.prog 57 #[.slice A3 j c3] w0 (Out w0 (packO (canU b)))) := fun w0 h => RPack_any A3 j c3 _ w0 h (by omega)
          have Hbw := Lib.hid (Hb3.out.trans (Hbr.out.mono Hb3.out.size))
          have Hrb := Lib.hid ((Hr4.out.below Hbr.out).more Hbr.out.size)
          clear Hcan Hg Hown HK HN
          generalize canU b = l at Hl Hlen Hform Hyes HM HPk
          by_cases hrow : IsRow l
          · have HM2 : Hid (∀ w0 : World, RdI w0 wc.heap.size A3 j l → Calls Try.prog 67 #[.slice A3 j c3] w0 fun e w' => e = .returned (.bool true) ∧ w0 = w') := fun w0 h => by
              have q := HM.out w0 h
              rw [decide_eq_true hrow] at q
              exact q
            have HY2 : Hid (packR l = b → unO b = some l) := Hyes.out hrow
            have HF2 : Hid (packR l ≠ b → unO b = none) := fun q => Hform.out (fun z => q z.2)
            obtain ⟨P, hP⟩ : ∃ P, P = packR l := ⟨_, rfl⟩
            obtain ⟨m, hm⟩ : ∃ m, m = P.length := ⟨_, rfl⟩
            have HP2 : Hid (∀ w0 : World, RdI w0 w0.heap.size A3 j l → Calls Try.prog 57 #[.slice A3 j c3] w0 fun e w' => ∃ A c, e = .returned (.slice A m c) ∧ Rd w' w'.heap.size A m P ∧ Below w0.heap.size w0 w') := fun w0 h => (HPk.out w0 h).mono fun e w' q => by
              rw [packO_self hrow, ← hP] at q
              obtain ⟨A5, c5, he, _, _, hown, hb⟩ := q
              rw [← hm] at he hown
              exact ⟨A5, c5, he, Rd.own hown, hb⟩
            rw [← hP] at HY2 HF2
            clear HM HPk Hform Hyes hP hm hrow
            go_upto_region 14 with fail
            by_cases hpb : P = b
            · have Hres := Lib.hid (HY2.out hpb)
              have he1 : (P == b) = true := by simpa using hpb
              have he2 : (P != b) = false := by simpa using hpb
              clear hpb HY2 HF2
              go_cut [65] (fun s65 wx => s65 = .bool false ∧ Hid (Below wc.heap.size wc wx))
              case first =>
                have hcv := str_any (w := wc.drew) (c := c) Hrb.out
                go_region_with (first
                  | (go_at_call 67; refine (HM2.out _ (by exact Hl.out)).mono ?_; rintro e5 w5 ⟨rfl, rfl⟩)
                  | (go_at_call 57; refine (HP2.out _ (by exact Hl.out)).mono ?_; rintro e6 w6 ⟨A5, c5, rfl, hr5, hb5⟩; have hcv2 := str_any (c := c5) hr5; have hcv3 := str_any (c := c) (Hrb.out.below (undrew1 hb5)); have Hb6 := Lib.hid (show Below wc.heap.size wc w6 from undrew1 hb5); clear hr5 hb5))
                all_goals
                  go_wp2_with fail
                  go_meet
                  exact ⟨rfl, Hb6⟩
              case rest =>
                obtain ⟨rfl, Hbc⟩ := hcut
                go_wp2_with fail
                exact bodyPost_ret (v := .tuple #[.slice A3 j c3, .bool true]) (by simp [results, Try.results84, go_sem]) rfl ⟨A3, j, c3, by rw [Hres.out]; rfl, by rw [Hres.out]; exact (Hl.out.below Hbc.out).more Hbc.out.size, ⟨by omega, (Hnw.out.less Hb3.out.size).to Hbc.out⟩, Hbw.out.trans (Hbc.out.mono Hbw.out.size)⟩
            · have Hres := Lib.hid (HF2.out hpb)
              have he1 : (P == b) = false := by simpa using hpb
              have he2 : (P != b) = true := by simpa using hpb
              clear hpb HY2 HF2
              go_cut [65] (fun s65 wx => s65 = .bool true ∧ Hid (Below wc.heap.size wc wx))
              case first =>
                have hcv := str_any (w := wc.drew) (c := c) Hrb.out
                go_region_with (first
                  | (go_at_call 67; refine (HM2.out _ (by exact Hl.out)).mono ?_; rintro e5 w5 ⟨rfl, rfl⟩)
                  | (go_at_call 57; refine (HP2.out _ (by exact Hl.out)).mono ?_; rintro e6 w6 ⟨A5, c5, rfl, hr5, hb5⟩; have hcv2 := str_any (c := c5) hr5; have hcv3 := str_any (c := c) (Hrb.out.below (undrew1 hb5)); have Hb6 := Lib.hid (show Below wc.heap.size wc w6 from undrew1 hb5); clear hr5 hb5))
                all_goals
                  go_wp2_with fail
                  go_meet
                  exact ⟨rfl, Hb6⟩
              case rest =>
                obtain ⟨rfl, Hbc⟩ := hcut
                go_wp2_with fail
                exact bodyPost_ret (v := .tuple #[.slice none 0 0, .bool false]) (by simp [results, Try.results84, go_sem]) rfl ⟨none, 0, 0, by rw [Hres.out]; rfl, by rw [Hres.out]; exact RdI.nil, ⟨by omega, NewA.nil _ _ _ _⟩, Hbw.out.trans (Hbc.out.mono Hbw.out.size)⟩
          · have HM2 : Hid (∀ w0 : World, RdI w0 wc.heap.size A3 j l → Calls Try.prog 67 #[.slice A3 j c3] w0 fun e w' => e = .returned (.bool false) ∧ w0 = w') := fun w0 h => by
              have q := HM.out w0 h
              rw [decide_eq_false hrow] at q
              exact q
            have Hres := Lib.hid (Hform.out (fun z => hrow z.1))
            clear HM HPk Hform Hyes hrow
            go_upto_region 14 with fail
            go_cut [65] (fun s65 wx => s65 = .bool true ∧ Hid (Below wc.heap.size wc wx))
            case first =>
              go_quiet (first | (go_at_call 67; refine (HM2.out _ (by exact Hl.out)).mono ?_; rintro e5 w5 ⟨rfl, rfl⟩; exact ⟨rfl, _, rfl⟩))
              go_wp2_with fail
              go_meet
              exact ⟨rfl, ⟨rfl, rfl, rfl, Nat.le_refl _, fun _ _ => rfl⟩⟩
            case rest =>
              obtain ⟨rfl, Hbc⟩ := hcut
              go_wp2_with fail
              exact bodyPost_ret (v := .tuple #[.slice none 0 0, .bool false]) (by simp [results, Try.results84, go_sem]) rfl ⟨none, 0, 0, by rw [Hres.out]; rfl, by rw [Hres.out]; exact RdI.nil, ⟨by omega, NewA.nil _ _ _ _⟩, Hbw.out.trans (Hbc.out.mono Hbw.out.size)⟩
  · have Hno := Lib.hid (unO_short (b := b) (by rw [Hr.out.1]; exact h2))
    have hh2 : (n : Int) < 2 := by omega
    go_enter Try.func84, Try.ntmps84
    go_wp2_with fail
    exact bodyPost_ret (v := .tuple #[.slice none 0 0, .bool false]) (by simp [results, Try.results84, go_sem]) rfl ⟨none, 0, 0, by rw [Hno.out]; rfl, by rw [Hno.out]; exact RdI.nil, ⟨by omega, NewA.nil _ _ _ _⟩, Below.refl _ _⟩
end Go.Proofs.Ytaobdebeglenaaa
