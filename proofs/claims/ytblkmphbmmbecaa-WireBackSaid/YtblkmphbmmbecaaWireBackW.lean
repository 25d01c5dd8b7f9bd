/- The walk of WireBack. -/
import Derived.Test.YtblkmphbmmbecaaWireBO
namespace Go.Proofs.Ytblkmphbmmbecaa
open Go.ChangeShapes Go.WideShapes Go.ChangeAt Go.RowKit

theorem cell4_at {w : World} (ad : Addr) (k : Nat) (r : WRec) (h : Cell4 w ad k r) :
    w.cell? { block := (ad.add k).block, off := (ad.add k).off + 1 } = some (.int .i64 r.n) ∧ w.cell? { block := (ad.add k).block, off := (ad.add k).off + 2 } = some (.slice r.Ax r.nx r.cx) ∧ w.cell? { block := (ad.add k).block, off := (ad.add k).off + 3 } = some (.slice r.Az r.nz r.cz) := by
  have e : ∀ i : Nat, 0 < i → ({ block := (ad.add k).block, off := (ad.add k).off + i } : Addr) = ad.add (k + i) := fun i hi => by
    rw [← addadd]
    simp [Addr.add, Nat.ne_of_gt hi]
  refine ⟨?_, ?_, ?_⟩
  · rw [e 1 (by omega)]; exact h.2.1
  · rw [e 2 (by omega)]; exact h.2.2.1
  · rw [e 3 (by omega)]; exact h.2.2.2

/-- all that is put, one behind the other -/
def encs (rs : List WRec) : List UInt8 := rs.flatMap WRec.enc
theorem encs_take_succ (rs : List WRec) (j : Nat) (h : j < rs.length) : encs (rs.take (j + 1)) = encs (rs.take j) ++ rs[j].enc := by
  unfold encs
  rw [List.take_succ_eq_append_getElem h, List.flatMap_append]
  simp

set_option maxRecDepth 100000 in
set_option maxHeartbeats 8000000 in
theorem WireBack_core (A : Option Addr) (n c : Nat) (rs : List WRec) (W : World) (hr : RdW W W.heap.size A n rs) (hnc : n ≤ c) (_hc : c ≤ 9223372036854775807) :
    Calls Try.prog 5 #[.slice A n c] W (Yes W) := by
  by_cases hn : n ≤ 50
  · have hrl := Lib.hid hr.1
    have Hr := Lib.hid hr
    clear hr
    go_enter Try.func5, Try.ntmps5
    go_wp2_with (go_at_call 9; refine (awake_any _).mono ?_; rintro e w1 ⟨rfl, hb1⟩)
    have Hb1 := Lib.hid hb1
    clear hb1
    go_loopw [2, 4, 5, 6, 7] (fun z b i _ _ wr => z = .bool false ∧ ∃ j q : Nat, ∃ Ab : Option Addr, ∃ cb : Nat, j ≤ n ∧ i = .int .i64 j ∧ b = .slice Ab q cb ∧ q ≤ 3000 * j ∧ q ≤ cb ∧ cb ≤ 9223372036854775807 ∧ Rd wr wr.heap.size Ab q (encs (rs.take j)) ∧ (∀ r ∈ rs.take j, r.fit) ∧ Below W.heap.size W wr) (fun _ _ i _ _ _ => n - (intOf i).toNat)
    case atStart => exact ⟨rfl, 0, 0, none, 0, Nat.zero_le _, rfl, rfl, by omega, Nat.le_refl _, by omega, Rd.nil, by simp, Hb1.out⟩
    case round =>
      obtain ⟨rfl, j, q, Ab, cb, hj, rfl, rfl, hq, hqc, hcb, hrb, hfit, hb⟩ := hrel
      by_cases hlt : j < n
      · have hrl2 := hrl.out
        have hrw := Hr.out.below hb
        obtain ⟨ad, rfl, hadB, hcells⟩ := hrw.2.2 (by omega)
        obtain ⟨k0, k1, k2, k3⟩ := hcells j (by omega)
        have hok := Hr.out.2.1 _ (List.getElem_mem (show j < rs.length by omega))
        have hen := encs_take_succ rs j (by omega)
        have htk : rs.take (j + 1) = rs.take j ++ [rs[j]'(by omega)] := List.take_succ_eq_append_getElem _
        obtain ⟨r, hre⟩ : ∃ r, r = rs[j]'(by omega) := ⟨_, rfl⟩
        rw [← hre] at k0 k1 k2 k3 hok hen htk
        clear hre
        obtain ⟨m1, m2, m3⟩ := cell4_at ad (j * 4) r ⟨k0, k1, k2, k3⟩
        clear k1 k2 k3
        have Hok := Lib.hid hok
        have Hen := Lib.hid hen
        have Htk := Lib.hid htk
        have Hb := Lib.hid hb
        have Hrb := Lib.hid hrb
        have Hfit := Lib.hid hfit
        clear hok hen htk hb hrb hfit hrw hcells hrl2
        go_upto_region 11 with fail
        have hB2 := Box4.new wr 25 (.int .i64 r.wd) (.int .i64 r.n) (.slice r.Ax r.nx r.cx) (.slice r.Az r.nz r.cz)
        have hb2 : Below wr.heap.size wr (wr.alloc (.cells #[.int .i64 r.wd, .int .i64 r.n, .slice r.Ax r.nx r.cx, .slice r.Az r.nz r.cz] 25)) := (Below.refl _ _).alloc (Nat.le_refl _) _
        clear k0 m1 m2 m3
        generalize wr.alloc (.cells #[.int .i64 r.wd, .int .i64 r.n, .slice r.Ax r.nx r.cx, .slice r.Az r.nz r.cz] 25) = w2 at *
        obtain ⟨k0, k1, k2, k3⟩ := hB2.cells
        have HW2 := Lib.hid (Hb.out.trans (hb2.mono Hb.out.size))
        have Hok2 := Lib.hid (Hok.out.below HW2.out)
        have Hrb2 := Lib.hid ((Hrb.out.below hb2).more hb2.size)
        have HB2 := Lib.hid hB2
        have hbl := hB2.lt
        clear hB2 hb2 Hrb
        have hcx := Hok2.out.2.2.2.1
        have hcx2 := Hok2.out.2.2.2.2.1
        have hcz := Hok2.out.2.2.2.2.2.2.2.1
        have hcz2 := Hok2.out.2.2.2.2.2.2.2.2
        by_cases f1 : r.nx ≤ 1000
        · by_cases f2 : r.nz ≤ 200
          · by_cases f3 : 2 ≤ r.wd
            · by_cases f4 : r.wd ≤ 7
              · go_wp2_with fail
                go_loop [2, 7] (fun z i => z = .bool false ∧ ∃ k : Nat, k ≤ r.nz ∧ i = .int .i64 k ∧ ∀ y ∈ r.zs.take k, 0 ≤ y ∧ y ≤ 65535) (fun _ i => r.nz - (intOf i).toNat)
                case atStart => exact ⟨rfl, 0, Nat.zero_le _, rfl, by simp⟩
                case round =>
                  obtain ⟨rfl, k, hk, rfl, hall⟩ := hrel
                  have Hall := Lib.hid hall
                  clear hall
                  have hzl := Lib.hid Hok2.out.2.2.2.2.2.1.1
                  by_cases hkl : k < r.nz
                  · obtain ⟨az, haz, _, hc1⟩ := Hok2.out.2.2.2.2.2.1.cellAt hkl
                    have htz : r.zs.take (k + 1) = r.zs.take k ++ [r.zs[k]'(by rw [hzl.out]; exact hkl)] := List.take_succ_eq_append_getElem _
                    obtain ⟨y, hy⟩ : ∃ y, y = r.zs[k]'(by rw [hzl.out]; exact hkl) := ⟨_, rfl⟩
                    rw [← hy] at hc1 htz
                    have Htz := Lib.hid htz
                    clear htz hy
                    rw [haz] at k3
                    by_cases y0 : 0 ≤ y
                    · by_cases y1 : y ≤ 65535
                      · go_wp2_with fail
                        go_round
                        case rel =>
                          refine ⟨k + 1, by omega, by first | go_num | omega, fun u hu => ?_⟩
                          rw [Htz.out, List.mem_append, List.mem_singleton] at hu
                          rcases hu with hu | rfl
                          · exact Hall.out u hu
                          · exact ⟨y0, y1⟩
                        case measure => simp [intOf]; omega
                      · go_wp2_with fail
                        go_ret
                        exact ⟨rfl, HW2.out⟩
                    · go_wp2_with fail
                      go_ret
                      exact ⟨rfl, HW2.out⟩
                  · obtain rfl : k = r.nz := by omega
                    have hfit3 : r.fit := ⟨f1, f2, f3, f4, by have h := Hall.out; rwa [List.take_of_length_le (by rw [hzl.out]; exact Nat.le_refl _)] at h⟩
                    have Hfit3 := Lib.hid hfit3
                    have hlo : I64 r.low := by have h := r.low_bd; unfold I64; omega
                    have hlo2 : I64 (bits .and .i64 r.n 65535) := hlo
                    obtain ⟨L0, hL0⟩ : ∃ L0, L0 = encs (rs.take j) := ⟨_, rfl⟩
                    obtain ⟨La, hLa⟩ : ∃ La, La = (L0 ++ numB r.wd r.low).length := ⟨_, rfl⟩
                    obtain ⟨Lb, hLb⟩ : ∃ Lb, Lb = ((L0 ++ numB r.wd r.low) ++ blobB r.x).length := ⟨_, rfl⟩
                    obtain ⟨Lc, hLc⟩ : ∃ Lc, Lc = (((L0 ++ numB r.wd r.low) ++ blobB r.x) ++ numsB r.wd r.zs).length := ⟨_, rfl⟩
                    have hq0 : L0.length = q := by rw [hL0]; exact Hrb2.out.1
                    have hx0 := Hok2.out.2.2.1.1
                    have hz0 := Hok2.out.2.2.2.2.2.1.1
                    have hbd := (fitW_bd r.wd).2
                    have hb1 : La ≤ q + 7 := by rw [hLa, List.length_append, numB_length, hq0]; omega
                    have hb2 : Lb ≤ q + 1009 := by rw [hLb, List.length_append, ← hLa, blobB_length r.x (by omega)]; omega
                    have hb3 : Lc ≤ q + 2410 := by rw [hLc, List.length_append, ← hLb, numsB_length r.wd r.zs (by omega)]; have h := Nat.mul_le_mul (show r.zs.length ≤ 200 by omega) hbd; omega
                    have hrb0 := Hrb2.out
                    rw [← hL0] at hrb0
                    have Hrb0 := Lib.hid hrb0
                    have Hen2 : Hid (encs (rs.take (j + 1)) = ((L0 ++ numB r.wd r.low) ++ blobB r.x) ++ numsB r.wd r.zs) := by
                      show _ = _
                      rw [Hen.out, ← hL0, WRec.enc]
                      simp only [List.append_assoc]
                    have HLa := Lib.hid hLa
                    have HLb := Lib.hid hLb
                    have HLc := Lib.hid hLc
                    clear hL0 hLa hLb hLc hq0 hx0 hz0 hbd hrb0 hfit3 hlo Hall hzl
                    go_upto_region 18 with fail
                    go_region_held3 (fun w' => w'.cell? ⟨wr.heap.size, 0, none⟩ = some (.int .i64 r.wd) ∧ w'.cell? ⟨wr.heap.size, 1, none⟩ = some (.int .i64 r.n) ∧ w'.cell? ⟨wr.heap.size, 2, none⟩ = some (.slice r.Ax r.nx r.cx) ∧ w'.cell? ⟨wr.heap.size, 3, none⟩ = some (.slice r.Az r.nz r.cz)) (go_keep) (first
                      | (go_at_call 10; refine (Num_any Ab q cb L0 r.wd _ _ Hrb0.out.drew (by omega) hlo2).mono ?_; intro e w3 h3; obtain ⟨A3, c3, rfl, _, _, hr3, hb3⟩ := h3.at HLa.out; have hB3 := HB2.out.drew.below hb3 HB2.out.lt; obtain ⟨k0', k1', k2', k3'⟩ := hB3.cells; have HW3 := Lib.hid (HW2.out.drew.trans (hb3.mono HW2.out.size)); have HB3 := Lib.hid hB3; have Hr3 := Lib.hid hr3; clear h3 hb3 hB3 hr3)
                      | (go_at_call 12; refine (Blob_any A3 r.Ax La c3 r.nx r.cx _ r.x _ Hr3.out ((Hok.out.2.2.1.below HW3.out).more HW3.out.size) (by omega) hcx hcx2).mono ?_; intro e w4 h4; obtain ⟨A4, c4, rfl, _, _, hr4, hb4⟩ := h4.at HLb.out; have hB4 := HB3.out.below hb4 HB3.out.lt; obtain ⟨k0', k1', k2', k3'⟩ := hB4.cells; have HW4 := Lib.hid (HW3.out.trans (hb4.mono HW3.out.size)); have HB4 := Lib.hid hB4; have Hr4 := Lib.hid hr4; clear h4 hb4 hB4 hr4)
                      | (go_at_call 14; refine (Nums_any A4 r.Az Lb c4 r.nz r.cz _ r.zs r.wd _ Hr4.out ((Hok.out.2.2.2.2.2.1.below HW4.out).more HW4.out.size) Hok.out.2.2.2.2.2.2.1 (by omega) hcz hcz2).mono ?_; intro e w5 h5; obtain ⟨A5, c5, rfl, hc5, hm5, hr5, hb5⟩ := h5.at HLc.out; have hB5 := HB4.out.below hb5 HB4.out.lt; obtain ⟨k0', k1', k2', k3'⟩ := hB5.cells; have HW5 := Lib.hid (HW4.out.trans (hb5.mono HW4.out.size)); have Hr5 := Lib.hid hr5; clear h5 hb5 hB5 hr5))
                    all_goals
                      have hm6' : c5 ≤ 9223372036854775807 := by simpa [maxLen] using hm5
                      clear k0 k1 k2 k3
                      go_wp2_with fail
                      go_roundw
                      case rel =>
                        refine ⟨by first | rfl | trivial, j + 1, Lc, A5, c5, by omega, by go_num, rfl, by omega, hc5, hm6', by rw [Hen2.out]; exact Hr5.out, fun u hu => ?_, HW5.out⟩
                        rw [Htk.out, List.mem_append, List.mem_singleton] at hu
                        rcases hu with hu | rfl
                        · exact Hfit.out u hu
                        · exact Hfit3.out
                      case measure => simp [intOf]; omega
              · go_wp2_with fail
                go_ret
                exact ⟨rfl, HW2.out⟩
            · go_wp2_with fail
              go_ret
              exact ⟨rfl, HW2.out⟩
          · go_wp2_with fail
            go_ret
            exact ⟨rfl, HW2.out⟩
        · go_wp2_with fail
          go_ret
          exact ⟨rfl, HW2.out⟩
      · obtain rfl : j = n := by omega
        have hfitA : ∀ r ∈ rs, r.fit := by rwa [List.take_of_length_le (by rw [hrl.out]; exact Nat.le_refl _)] at hfit
        have hrbA : Rd wr wr.heap.size Ab q (encs rs) := by rwa [List.take_of_length_le (by rw [hrl.out]; exact Nat.le_refl _)] at hrb
        have HfitA := Lib.hid hfitA
        have Hb := Lib.hid hb
        clear hfitA hfit hrb hb
        go_wp2_with (go_at_call 16; refine (Read_any Ab q cb (encs rs) _ hrbA (by omega)).mono ?_; rintro e w2 ⟨g, rfl, hR, hg, hb2⟩)
        have hgW : W.heap.size ≤ g := Nat.le_trans Hb.out.size hg
        have HW2 := Lib.hid (Hb.out.trans (hb2.mono Hb.out.size))
        have HR2 := Lib.hid hR
        clear hR hg hb2 hrbA
        go_loopw [2, 9, 10] (fun z i _ wr => z = .bool false ∧ ∃ k : Nat, k ≤ j ∧ i = .int .i64 k ∧ Rdr wr g (encs (rs.drop k)) 0 ∧ Below W.heap.size W wr) (fun _ i _ _ => j - (intOf i).toNat)
        case atStart => exact ⟨rfl, 0, Nat.zero_le _, rfl, by simpa using HR2.out, HW2.out⟩
        case round =>
          obtain ⟨rfl, k, hk, rfl, hR3, hb3⟩ := hrel
          have HR3 := Lib.hid hR3
          have HW3 := Lib.hid hb3
          clear hR3 hb3
          by_cases hlt2 : k < j
          · have hrl2 := hrl.out
            have hrw := Hr.out.below HW3.out
            obtain ⟨ad, rfl, hadB, hcells⟩ := hrw.2.2 (by omega)
            obtain ⟨k0, k1, k2, k3⟩ := hcells k (by omega)
            have hok := Hr.out.2.1 _ (List.getElem_mem (show k < rs.length by omega))
            have hfr := HfitA.out _ (List.getElem_mem (show k < rs.length by omega))
            have hdr : encs (rs.drop k) = (rs[k]'(by omega)).enc ++ encs (rs.drop (k + 1)) := by
              rw [List.drop_eq_getElem_cons (show k < rs.length by omega)]
              unfold encs
              rw [List.flatMap_cons]
            obtain ⟨r, hre⟩ : ∃ r, r = rs[k]'(by omega) := ⟨_, rfl⟩
            rw [← hre] at k0 k1 k2 k3 hok hfr hdr
            clear hre
            obtain ⟨m1, m2, m3⟩ := cell4_at ad (k * 4) r ⟨k0, k1, k2, k3⟩
            clear k1 k2 k3
            have Hok := Lib.hid hok
            have hR5 := HR3.out
            rw [hdr, WRec.enc, List.append_assoc, List.append_assoc] at hR5
            obtain ⟨f1, f2, f3, f4, f5⟩ := hfr
            have hx0 := hok.2.2.1.1
            have hz0 := hok.2.2.2.2.2.1.1
            have Hrd1 := Lib.hid (rdNum_back r.wd r.low (blobB r.x ++ (numsB r.wd r.zs ++ encs (rs.drop (k + 1)))) ⟨f3, f4⟩ r.low_bd)
            have Hrd2 := Lib.hid (rdBlob_back r.x (numsB r.wd r.zs ++ encs (rs.drop (k + 1))) (by omega))
            have Hrd3 := Lib.hid (rdNums_back r.wd r.zs (encs (rs.drop (k + 1))) ⟨f3, f4⟩ (by omega) f5)
            have hcz := hok.2.2.2.2.2.2.2.1
            have hcz2 := hok.2.2.2.2.2.2.2.2
            have hcx2 := hok.2.2.2.2.1
            have hcx1 := hok.2.2.2.1
            have HR5 := Lib.hid hR5
            have hzb : r.zs.length ≤ 200 := by omega
            have hxb : r.x.length ≤ 1000 := by omega
            clear hok hdr hR5 f5 hx0 hz0 hrw hcells hrl2
            go_upto_region 24 with fail
            have hBb := Box4.new wr 25 (.int .i64 r.wd) (.int .i64 r.n) (.slice r.Ax r.nx r.cx) (.slice r.Az r.nz r.cz)
            have hbb : Below wr.heap.size wr (wr.alloc (.cells #[.int .i64 r.wd, .int .i64 r.n, .slice r.Ax r.nx r.cx, .slice r.Az r.nz r.cz] 25)) := (Below.refl _ _).alloc (Nat.le_refl _) _
            clear k0 m1 m2 m3
            generalize wr.alloc (.cells #[.int .i64 r.wd, .int .i64 r.n, .slice r.Ax r.nx r.cx, .slice r.Az r.nz r.cz] 25) = wb at *
            have hne : wr.heap.size ≠ g := HR5.out.ne
            have HWb := Lib.hid (HW3.out.trans (hbb.mono HW3.out.size))
            have HRb := Lib.hid (HR5.out.below hbb)
            have HBb := Lib.hid hBb
            clear hBb hbb
            -- REGION
            refine wp_region_held_drew (S := fun w' => wb.grownBy w' (some g)) (by kernel_rfl) ⟨rfl, rfl, rfl, Nat.le_refl _, fun _ _ _ => rfl⟩ (fun hS => ?_)
            refine wpAnyH_take (i := 0) (v := .pointer (some ⟨g, 0, none⟩)) rfl (by kernel_rfl) (by kernel_rfl) (by kernel_rfl) (fun _ _ _ h => h) (Or.inl ⟨by rfl, ?y0⟩) hS ?r0
            case y0 => (intro wy hSy; go_simp; try with_reducible rfl)
            change wpAnyH _ _ _ _ _ _ _ { tmps := #[.slice (some ad) j c, undef, .bool false, .bool true, .slice Ab q cb, .int .i64 (j : Int), u6, u7, .pointer (some ⟨g, 0, none⟩), .int .i64 (k : Int), .pointer (some ⟨wr.heap.size, 0, none⟩), .bool true, .bool true, .bool false, .slice (some ad) j c, .int .i64 (j : Int), .bool (decide ((50 : Int) < (j : Int))), .int .i64 (j : Int), .slice (some ad) j c, .int .i64 (j : Int), .bool false, u21, u22, u23, u24, u25, u26, u27, u28, u29, u30, u31, u32, u33, u34, u35, u36, u37, u38, u39, u40, u41, u42, u43, u44, u45, u46, u47, u48, u49, u50, u51, u52, u53, u54, u55, u56, u57, u58, u59, u60, u61, u62, u63, u64, u65, u66, u67, u68, u69, u70, u71, u72, u73, u74, u75, u76, u77, u78, u79, u80, u81, u82, .slice Ab q cb, .pointer (some ⟨g, 0, none⟩), .int .i64 (k : Int), .slice (some ad) j c, .int .i64 (j : Int), .bool true, u89, u90, .slice (some ad) j c, .int .i64 (k : Int), .pointer (some (ad.add (k * 4))), .agg #[.int .i64 r.wd, .int .i64 r.n, .slice r.Ax r.nx r.cx, .slice r.Az r.nz r.cz], .pointer (some ⟨g, 0, none⟩), u96, u97, u98, u99, u100, u101, u102, u103, u104, u105, u106, u107, u108, u109, u110, u111, u112, u113, u114, u115, u116, u117, u118, u119, u120, u121, undef, undef, undef, undef, undef, undef, undef, undef], defers := [] } _
            refine wpAnyH_take (i := 1) (v := .pointer (some ⟨wr.heap.size, 0, none⟩)) rfl (by kernel_rfl) (by kernel_rfl) (by kernel_rfl) (fun _ _ _ h => h) (Or.inl ⟨by rfl, ?y1⟩) hS ?r1
            case y1 => (intro wy hSy; go_simp; try with_reducible rfl)
            change wpAnyH _ _ _ _ _ _ _ { tmps := #[.slice (some ad) j c, undef, .bool false, .bool true, .slice Ab q cb, .int .i64 (j : Int), u6, u7, .pointer (some ⟨g, 0, none⟩), .int .i64 (k : Int), .pointer (some ⟨wr.heap.size, 0, none⟩), .bool true, .bool true, .bool false, .slice (some ad) j c, .int .i64 (j : Int), .bool (decide ((50 : Int) < (j : Int))), .int .i64 (j : Int), .slice (some ad) j c, .int .i64 (j : Int), .bool false, u21, u22, u23, u24, u25, u26, u27, u28, u29, u30, u31, u32, u33, u34, u35, u36, u37, u38, u39, u40, u41, u42, u43, u44, u45, u46, u47, u48, u49, u50, u51, u52, u53, u54, u55, u56, u57, u58, u59, u60, u61, u62, u63, u64, u65, u66, u67, u68, u69, u70, u71, u72, u73, u74, u75, u76, u77, u78, u79, u80, u81, u82, .slice Ab q cb, .pointer (some ⟨g, 0, none⟩), .int .i64 (k : Int), .slice (some ad) j c, .int .i64 (j : Int), .bool true, u89, u90, .slice (some ad) j c, .int .i64 (k : Int), .pointer (some (ad.add (k * 4))), .agg #[.int .i64 r.wd, .int .i64 r.n, .slice r.Ax r.nx r.cx, .slice r.Az r.nz r.cz], .pointer (some ⟨g, 0, none⟩), .pointer (some ⟨wr.heap.size, 0, none⟩), u97, u98, u99, u100, u101, u102, u103, u104, u105, u106, u107, u108, u109, u110, u111, u112, u113, u114, u115, u116, u117, u118, u119, u120, u121, undef, undef, undef, undef, undef, undef, undef, undef], defers := [] } _
            refine wpAnyH_take (i := 2) (v := .int .i64 r.wd) rfl (by kernel_rfl) (by kernel_rfl) (by kernel_rfl) (fun _ _ _ h => h) (Or.inl ⟨by rfl, ?y2⟩) hS ?r2
            case y2 => (intro wy hSy; obtain ⟨b0, b1, b2, b3⟩ := (HBb.out.grown hSy hne).cells; have hcx := str_any (c := r.cx) (Hok.out.2.2.1.below (HWb.out.grown hSy HWb.out.size (fun q hq => by injection hq with hq; omega))); go_simp; try with_reducible rfl)
            change wpAnyH _ _ _ _ _ _ _ { tmps := #[.slice (some ad) j c, undef, .bool false, .bool true, .slice Ab q cb, .int .i64 (j : Int), u6, u7, .pointer (some ⟨g, 0, none⟩), .int .i64 (k : Int), .pointer (some ⟨wr.heap.size, 0, none⟩), .bool true, .bool true, .bool false, .slice (some ad) j c, .int .i64 (j : Int), .bool (decide ((50 : Int) < (j : Int))), .int .i64 (j : Int), .slice (some ad) j c, .int .i64 (j : Int), .bool false, u21, u22, u23, u24, u25, u26, u27, u28, u29, u30, u31, u32, u33, u34, u35, u36, u37, u38, u39, u40, u41, u42, u43, u44, u45, u46, u47, u48, u49, u50, u51, u52, u53, u54, u55, u56, u57, u58, u59, u60, u61, u62, u63, u64, u65, u66, u67, u68, u69, u70, u71, u72, u73, u74, u75, u76, u77, u78, u79, u80, u81, u82, .slice Ab q cb, .pointer (some ⟨g, 0, none⟩), .int .i64 (k : Int), .slice (some ad) j c, .int .i64 (j : Int), .bool true, u89, u90, .slice (some ad) j c, .int .i64 (k : Int), .pointer (some (ad.add (k * 4))), .agg #[.int .i64 r.wd, .int .i64 r.n, .slice r.Ax r.nx r.cx, .slice r.Az r.nz r.cz], .pointer (some ⟨g, 0, none⟩), .pointer (some ⟨wr.heap.size, 0, none⟩), .int .i64 r.wd, u98, u99, u100, u101, u102, u103, u104, u105, u106, u107, u108, u109, u110, u111, u112, u113, u114, u115, u116, u117, u118, u119, u120, u121, undef, undef, undef, undef, undef, undef, undef, undef], defers := [] } _
            refine wpAnyH_take (i := 4) (v := .pointer (some ⟨wr.heap.size, 1, none⟩)) rfl (by kernel_rfl) (by kernel_rfl) (by kernel_rfl) (fun _ _ _ h => h) (Or.inl ⟨by rfl, ?y4⟩) hS ?r4
            case y4 => (intro wy hSy; go_simp; try with_reducible rfl)
            change wpAnyH _ _ _ _ _ _ _ { tmps := #[.slice (some ad) j c, undef, .bool false, .bool true, .slice Ab q cb, .int .i64 (j : Int), u6, u7, .pointer (some ⟨g, 0, none⟩), .int .i64 (k : Int), .pointer (some ⟨wr.heap.size, 0, none⟩), .bool true, .bool true, .bool false, .slice (some ad) j c, .int .i64 (j : Int), .bool (decide ((50 : Int) < (j : Int))), .int .i64 (j : Int), .slice (some ad) j c, .int .i64 (j : Int), .bool false, u21, u22, u23, u24, u25, u26, u27, u28, u29, u30, u31, u32, u33, u34, u35, u36, u37, u38, u39, u40, u41, u42, u43, u44, u45, u46, u47, u48, u49, u50, u51, u52, u53, u54, u55, u56, u57, u58, u59, u60, u61, u62, u63, u64, u65, u66, u67, u68, u69, u70, u71, u72, u73, u74, u75, u76, u77, u78, u79, u80, u81, u82, .slice Ab q cb, .pointer (some ⟨g, 0, none⟩), .int .i64 (k : Int), .slice (some ad) j c, .int .i64 (j : Int), .bool true, u89, u90, .slice (some ad) j c, .int .i64 (k : Int), .pointer (some (ad.add (k * 4))), .agg #[.int .i64 r.wd, .int .i64 r.n, .slice r.Ax r.nx r.cx, .slice r.Az r.nz r.cz], .pointer (some ⟨g, 0, none⟩), .pointer (some ⟨wr.heap.size, 0, none⟩), .int .i64 r.wd, u98, .pointer (some ⟨wr.heap.size, 1, none⟩), u100, u101, u102, u103, u104, u105, u106, u107, u108, u109, u110, u111, u112, u113, u114, u115, u116, u117, u118, u119, u120, u121, undef, undef, undef, undef, undef, undef, undef, undef], defers := [] } _
            refine wpAnyH_take (i := 5) (v := .int .i64 r.n) rfl (by kernel_rfl) (by kernel_rfl) (by kernel_rfl) (fun _ _ _ h => h) (Or.inl ⟨by rfl, ?y5⟩) hS ?r5
            case y5 => (intro wy hSy; obtain ⟨b0, b1, b2, b3⟩ := (HBb.out.grown hSy hne).cells; have hcx := str_any (c := r.cx) (Hok.out.2.2.1.below (HWb.out.grown hSy HWb.out.size (fun q hq => by injection hq with hq; omega))); go_simp; try with_reducible rfl)
            change wpAnyH _ _ _ _ _ _ _ { tmps := #[.slice (some ad) j c, undef, .bool false, .bool true, .slice Ab q cb, .int .i64 (j : Int), u6, u7, .pointer (some ⟨g, 0, none⟩), .int .i64 (k : Int), .pointer (some ⟨wr.heap.size, 0, none⟩), .bool true, .bool true, .bool false, .slice (some ad) j c, .int .i64 (j : Int), .bool (decide ((50 : Int) < (j : Int))), .int .i64 (j : Int), .slice (some ad) j c, .int .i64 (j : Int), .bool false, u21, u22, u23, u24, u25, u26, u27, u28, u29, u30, u31, u32, u33, u34, u35, u36, u37, u38, u39, u40, u41, u42, u43, u44, u45, u46, u47, u48, u49, u50, u51, u52, u53, u54, u55, u56, u57, u58, u59, u60, u61, u62, u63, u64, u65, u66, u67, u68, u69, u70, u71, u72, u73, u74, u75, u76, u77, u78, u79, u80, u81, u82, .slice Ab q cb, .pointer (some ⟨g, 0, none⟩), .int .i64 (k : Int), .slice (some ad) j c, .int .i64 (j : Int), .bool true, u89, u90, .slice (some ad) j c, .int .i64 (k : Int), .pointer (some (ad.add (k * 4))), .agg #[.int .i64 r.wd, .int .i64 r.n, .slice r.Ax r.nx r.cx, .slice r.Az r.nz r.cz], .pointer (some ⟨g, 0, none⟩), .pointer (some ⟨wr.heap.size, 0, none⟩), .int .i64 r.wd, u98, .pointer (some ⟨wr.heap.size, 1, none⟩), .int .i64 r.n, u101, u102, u103, u104, u105, u106, u107, u108, u109, u110, u111, u112, u113, u114, u115, u116, u117, u118, u119, u120, u121, undef, undef, undef, undef, undef, undef, undef, undef], defers := [] } _
            refine wpAnyH_take (i := 6) (v := (.int .i64 (bits .and .i64 r.n 65535))) rfl (by kernel_rfl) (by kernel_rfl) (by kernel_rfl) (fun _ _ _ h => h) (Or.inl ⟨by rfl, ?y6⟩) hS ?r6
            case y6 => (intro wy hSy; go_simp; try with_reducible rfl)
            change wpAnyH _ _ _ _ _ _ _ { tmps := #[.slice (some ad) j c, undef, .bool false, .bool true, .slice Ab q cb, .int .i64 (j : Int), u6, u7, .pointer (some ⟨g, 0, none⟩), .int .i64 (k : Int), .pointer (some ⟨wr.heap.size, 0, none⟩), .bool true, .bool true, .bool false, .slice (some ad) j c, .int .i64 (j : Int), .bool (decide ((50 : Int) < (j : Int))), .int .i64 (j : Int), .slice (some ad) j c, .int .i64 (j : Int), .bool false, u21, u22, u23, u24, u25, u26, u27, u28, u29, u30, u31, u32, u33, u34, u35, u36, u37, u38, u39, u40, u41, u42, u43, u44, u45, u46, u47, u48, u49, u50, u51, u52, u53, u54, u55, u56, u57, u58, u59, u60, u61, u62, u63, u64, u65, u66, u67, u68, u69, u70, u71, u72, u73, u74, u75, u76, u77, u78, u79, u80, u81, u82, .slice Ab q cb, .pointer (some ⟨g, 0, none⟩), .int .i64 (k : Int), .slice (some ad) j c, .int .i64 (j : Int), .bool true, u89, u90, .slice (some ad) j c, .int .i64 (k : Int), .pointer (some (ad.add (k * 4))), .agg #[.int .i64 r.wd, .int .i64 r.n, .slice r.Ax r.nx r.cx, .slice r.Az r.nz r.cz], .pointer (some ⟨g, 0, none⟩), .pointer (some ⟨wr.heap.size, 0, none⟩), .int .i64 r.wd, u98, .pointer (some ⟨wr.heap.size, 1, none⟩), .int .i64 r.n, (.int .i64 (bits .and .i64 r.n 65535)), u102, u103, u104, u105, u106, u107, u108, u109, u110, u111, u112, u113, u114, u115, u116, u117, u118, u119, u120, u121, undef, undef, undef, undef, undef, undef, undef, undef], defers := [] } _
            refine wpAnyH_ready (rs := [3]) (by kernel_rfl) (by simp) ?_
            refine AllReadyH.cons rfl (fun K hK => ?_) AllReadyH.nil
            go_simp
            go_wp2_with (go_at_call 17; refine (RNum_any g _ 0 r.wd _ HRb.out.drew).mono ?_; rintro e wn ⟨rfl, hRn, hgn⟩; rw [Hrd1.out] at hRn ⊢; have HRn := Lib.hid hRn; clear hRn)
            refine hK.out _ _ ?_ (fun hS => ?_)
            · exact grownBy_trans hS hgn
            clear hK K
            have HTn := Lib.hid (show wb.grownBy wn (some g) from hS)
            have HBn := Lib.hid (HBb.out.grown HTn.out hne)
            have HWn := Lib.hid (HWb.out.grown HTn.out HWb.out.size (fun q hq => by injection hq with hq; omega))
            clear hS hgn
            refine wpAnyH_strong (S' := fun w' => wn.grownBy w' (some g)) (fun w' h => grownBy_trans HTn.out h) _ _ _ _ ?_
            have hS : wn.grownBy wn (some g) := World.grownBy.refl _ _
            change wpAnyH _ _ _ _ _ _ _ { tmps := #[.slice (some ad) j c, undef, .bool false, .bool true, .slice Ab q cb, .int .i64 (j : Int), u6, u7, .pointer (some ⟨g, 0, none⟩), .int .i64 (k : Int), .pointer (some ⟨wr.heap.size, 0, none⟩), .bool true, .bool true, .bool false, .slice (some ad) j c, .int .i64 (j : Int), .bool (decide ((50 : Int) < (j : Int))), .int .i64 (j : Int), .slice (some ad) j c, .int .i64 (j : Int), .bool false, u21, u22, u23, u24, u25, u26, u27, u28, u29, u30, u31, u32, u33, u34, u35, u36, u37, u38, u39, u40, u41, u42, u43, u44, u45, u46, u47, u48, u49, u50, u51, u52, u53, u54, u55, u56, u57, u58, u59, u60, u61, u62, u63, u64, u65, u66, u67, u68, u69, u70, u71, u72, u73, u74, u75, u76, u77, u78, u79, u80, u81, u82, .slice Ab q cb, .pointer (some ⟨g, 0, none⟩), .int .i64 (k : Int), .slice (some ad) j c, .int .i64 (j : Int), .bool true, u89, u90, .slice (some ad) j c, .int .i64 (k : Int), .pointer (some (ad.add (k * 4))), .agg #[.int .i64 r.wd, .int .i64 r.n, .slice r.Ax r.nx r.cx, .slice r.Az r.nz r.cz], .pointer (some ⟨g, 0, none⟩), .pointer (some ⟨wr.heap.size, 0, none⟩), .int .i64 r.wd, .int .i64 (bits .and .i64 r.n 65535), .pointer (some ⟨wr.heap.size, 1, none⟩), .int .i64 r.n, (.int .i64 (bits .and .i64 r.n 65535)), u102, u103, u104, u105, u106, u107, u108, u109, u110, u111, u112, u113, u114, u115, u116, u117, u118, u119, u120, u121, undef, undef, undef, undef, undef, undef, undef, undef], defers := [] } _
            refine wpAnyH_take (i := 7) (v := (.bool false)) rfl (by kernel_rfl) (by kernel_rfl) (by kernel_rfl) (fun _ _ _ h => h) (Or.inl ⟨by rfl, ?y7⟩) hS ?r7
            case y7 => (intro wy hSy; go_simp)
            change wpAnyH _ _ _ _ _ _ _ { tmps := #[.slice (some ad) j c, undef, .bool false, .bool true, .slice Ab q cb, .int .i64 (j : Int), u6, u7, .pointer (some ⟨g, 0, none⟩), .int .i64 (k : Int), .pointer (some ⟨wr.heap.size, 0, none⟩), .bool true, .bool true, .bool false, .slice (some ad) j c, .int .i64 (j : Int), .bool (decide ((50 : Int) < (j : Int))), .int .i64 (j : Int), .slice (some ad) j c, .int .i64 (j : Int), .bool false, u21, u22, u23, u24, u25, u26, u27, u28, u29, u30, u31, u32, u33, u34, u35, u36, u37, u38, u39, u40, u41, u42, u43, u44, u45, u46, u47, u48, u49, u50, u51, u52, u53, u54, u55, u56, u57, u58, u59, u60, u61, u62, u63, u64, u65, u66, u67, u68, u69, u70, u71, u72, u73, u74, u75, u76, u77, u78, u79, u80, u81, u82, .slice Ab q cb, .pointer (some ⟨g, 0, none⟩), .int .i64 (k : Int), .slice (some ad) j c, .int .i64 (j : Int), .bool true, u89, u90, .slice (some ad) j c, .int .i64 (k : Int), .pointer (some (ad.add (k * 4))), .agg #[.int .i64 r.wd, .int .i64 r.n, .slice r.Ax r.nx r.cx, .slice r.Az r.nz r.cz], .pointer (some ⟨g, 0, none⟩), .pointer (some ⟨wr.heap.size, 0, none⟩), .int .i64 r.wd, .int .i64 (bits .and .i64 r.n 65535), .pointer (some ⟨wr.heap.size, 1, none⟩), .int .i64 r.n, (.int .i64 (bits .and .i64 r.n 65535)), (.bool false), u103, u104, u105, u106, u107, u108, u109, u110, u111, u112, u113, u114, u115, u116, u117, u118, u119, u120, u121, undef, undef, undef, undef, undef, undef, undef, undef], defers := [] } _
            refine wpAnyH_take (i := 8) (v := (.bool false)) rfl (by kernel_rfl) (by kernel_rfl) (by kernel_rfl) (fun _ _ _ h => h) (Or.inl ⟨by rfl, ?y8⟩) hS ?r8
            case y8 => (intro wy hSy; go_simp; try with_reducible rfl)
            change wpAnyH _ _ _ _ _ _ _ { tmps := #[.slice (some ad) j c, undef, .bool false, .bool true, .slice Ab q cb, .int .i64 (j : Int), u6, u7, .pointer (some ⟨g, 0, none⟩), .int .i64 (k : Int), .pointer (some ⟨wr.heap.size, 0, none⟩), .bool true, .bool true, .bool false, .slice (some ad) j c, .int .i64 (j : Int), .bool (decide ((50 : Int) < (j : Int))), .int .i64 (j : Int), .slice (some ad) j c, .int .i64 (j : Int), .bool false, u21, u22, u23, u24, u25, u26, u27, u28, u29, u30, u31, u32, u33, u34, u35, u36, u37, u38, u39, u40, u41, u42, u43, u44, u45, u46, u47, u48, u49, u50, u51, u52, u53, u54, u55, u56, u57, u58, u59, u60, u61, u62, u63, u64, u65, u66, u67, u68, u69, u70, u71, u72, u73, u74, u75, u76, u77, u78, u79, u80, u81, u82, .slice Ab q cb, .pointer (some ⟨g, 0, none⟩), .int .i64 (k : Int), .slice (some ad) j c, .int .i64 (j : Int), .bool true, u89, u90, .slice (some ad) j c, .int .i64 (k : Int), .pointer (some (ad.add (k * 4))), .agg #[.int .i64 r.wd, .int .i64 r.n, .slice r.Ax r.nx r.cx, .slice r.Az r.nz r.cz], .pointer (some ⟨g, 0, none⟩), .pointer (some ⟨wr.heap.size, 0, none⟩), .int .i64 r.wd, .int .i64 (bits .and .i64 r.n 65535), .pointer (some ⟨wr.heap.size, 1, none⟩), .int .i64 r.n, (.int .i64 (bits .and .i64 r.n 65535)), (.bool false), (.bool false), u104, u105, u106, u107, u108, u109, u110, u111, u112, u113, u114, u115, u116, u117, u118, u119, u120, u121, undef, undef, undef, undef, undef, undef, undef, undef], defers := [] } _
            refine wpAnyH_take (i := 9) (v := .pointer (some ⟨g, 0, none⟩)) rfl (by kernel_rfl) (by kernel_rfl) (by kernel_rfl) (fun _ _ _ h => h) (Or.inl ⟨by rfl, ?y9⟩) hS ?r9
            case y9 => (intro wy hSy; go_simp; try with_reducible rfl)
            change wpAnyH _ _ _ _ _ _ _ { tmps := #[.slice (some ad) j c, undef, .bool false, .bool true, .slice Ab q cb, .int .i64 (j : Int), u6, u7, .pointer (some ⟨g, 0, none⟩), .int .i64 (k : Int), .pointer (some ⟨wr.heap.size, 0, none⟩), .bool true, .bool true, .bool false, .slice (some ad) j c, .int .i64 (j : Int), .bool (decide ((50 : Int) < (j : Int))), .int .i64 (j : Int), .slice (some ad) j c, .int .i64 (j : Int), .bool false, u21, u22, u23, u24, u25, u26, u27, u28, u29, u30, u31, u32, u33, u34, u35, u36, u37, u38, u39, u40, u41, u42, u43, u44, u45, u46, u47, u48, u49, u50, u51, u52, u53, u54, u55, u56, u57, u58, u59, u60, u61, u62, u63, u64, u65, u66, u67, u68, u69, u70, u71, u72, u73, u74, u75, u76, u77, u78, u79, u80, u81, u82, .slice Ab q cb, .pointer (some ⟨g, 0, none⟩), .int .i64 (k : Int), .slice (some ad) j c, .int .i64 (j : Int), .bool true, u89, u90, .slice (some ad) j c, .int .i64 (k : Int), .pointer (some (ad.add (k * 4))), .agg #[.int .i64 r.wd, .int .i64 r.n, .slice r.Ax r.nx r.cx, .slice r.Az r.nz r.cz], .pointer (some ⟨g, 0, none⟩), .pointer (some ⟨wr.heap.size, 0, none⟩), .int .i64 r.wd, .int .i64 (bits .and .i64 r.n 65535), .pointer (some ⟨wr.heap.size, 1, none⟩), .int .i64 r.n, (.int .i64 (bits .and .i64 r.n 65535)), (.bool false), (.bool false), .pointer (some ⟨g, 0, none⟩), u105, u106, u107, u108, u109, u110, u111, u112, u113, u114, u115, u116, u117, u118, u119, u120, u121, undef, undef, undef, undef, undef, undef, undef, undef], defers := [] } _
            refine wpAnyH_take (i := 12) (v := .pointer (some ⟨wr.heap.size, 2, none⟩)) rfl (by kernel_rfl) (by kernel_rfl) (by kernel_rfl) (fun _ _ _ h => h) (Or.inl ⟨by rfl, ?y12⟩) hS ?r12
            case y12 => (intro wy hSy; go_simp; try with_reducible rfl)
            change wpAnyH _ _ _ _ _ _ _ { tmps := #[.slice (some ad) j c, undef, .bool false, .bool true, .slice Ab q cb, .int .i64 (j : Int), u6, u7, .pointer (some ⟨g, 0, none⟩), .int .i64 (k : Int), .pointer (some ⟨wr.heap.size, 0, none⟩), .bool true, .bool true, .bool false, .slice (some ad) j c, .int .i64 (j : Int), .bool (decide ((50 : Int) < (j : Int))), .int .i64 (j : Int), .slice (some ad) j c, .int .i64 (j : Int), .bool false, u21, u22, u23, u24, u25, u26, u27, u28, u29, u30, u31, u32, u33, u34, u35, u36, u37, u38, u39, u40, u41, u42, u43, u44, u45, u46, u47, u48, u49, u50, u51, u52, u53, u54, u55, u56, u57, u58, u59, u60, u61, u62, u63, u64, u65, u66, u67, u68, u69, u70, u71, u72, u73, u74, u75, u76, u77, u78, u79, u80, u81, u82, .slice Ab q cb, .pointer (some ⟨g, 0, none⟩), .int .i64 (k : Int), .slice (some ad) j c, .int .i64 (j : Int), .bool true, u89, u90, .slice (some ad) j c, .int .i64 (k : Int), .pointer (some (ad.add (k * 4))), .agg #[.int .i64 r.wd, .int .i64 r.n, .slice r.Ax r.nx r.cx, .slice r.Az r.nz r.cz], .pointer (some ⟨g, 0, none⟩), .pointer (some ⟨wr.heap.size, 0, none⟩), .int .i64 r.wd, .int .i64 (bits .and .i64 r.n 65535), .pointer (some ⟨wr.heap.size, 1, none⟩), .int .i64 r.n, (.int .i64 (bits .and .i64 r.n 65535)), (.bool false), (.bool false), .pointer (some ⟨g, 0, none⟩), u105, u106, .pointer (some ⟨wr.heap.size, 2, none⟩), u108, u109, u110, u111, u112, u113, u114, u115, u116, u117, u118, u119, u120, u121, undef, undef, undef, undef, undef, undef, undef, undef], defers := [] } _
            refine wpAnyH_take (i := 13) (v := .slice r.Ax r.nx r.cx) rfl (by kernel_rfl) (by kernel_rfl) (by kernel_rfl) (fun _ _ _ h => h) (Or.inl ⟨by rfl, ?y13⟩) hS ?r13
            case y13 => (intro wy hSy; obtain ⟨b0, b1, b2, b3⟩ := (HBn.out.grown hSy hne).cells; have hcx := str_any (c := r.cx) (Hok.out.2.2.1.below (HWn.out.grown hSy HWn.out.size (fun q hq => by injection hq with hq; omega))); go_simp; try with_reducible rfl)
            change wpAnyH _ _ _ _ _ _ _ { tmps := #[.slice (some ad) j c, undef, .bool false, .bool true, .slice Ab q cb, .int .i64 (j : Int), u6, u7, .pointer (some ⟨g, 0, none⟩), .int .i64 (k : Int), .pointer (some ⟨wr.heap.size, 0, none⟩), .bool true, .bool true, .bool false, .slice (some ad) j c, .int .i64 (j : Int), .bool (decide ((50 : Int) < (j : Int))), .int .i64 (j : Int), .slice (some ad) j c, .int .i64 (j : Int), .bool false, u21, u22, u23, u24, u25, u26, u27, u28, u29, u30, u31, u32, u33, u34, u35, u36, u37, u38, u39, u40, u41, u42, u43, u44, u45, u46, u47, u48, u49, u50, u51, u52, u53, u54, u55, u56, u57, u58, u59, u60, u61, u62, u63, u64, u65, u66, u67, u68, u69, u70, u71, u72, u73, u74, u75, u76, u77, u78, u79, u80, u81, u82, .slice Ab q cb, .pointer (some ⟨g, 0, none⟩), .int .i64 (k : Int), .slice (some ad) j c, .int .i64 (j : Int), .bool true, u89, u90, .slice (some ad) j c, .int .i64 (k : Int), .pointer (some (ad.add (k * 4))), .agg #[.int .i64 r.wd, .int .i64 r.n, .slice r.Ax r.nx r.cx, .slice r.Az r.nz r.cz], .pointer (some ⟨g, 0, none⟩), .pointer (some ⟨wr.heap.size, 0, none⟩), .int .i64 r.wd, .int .i64 (bits .and .i64 r.n 65535), .pointer (some ⟨wr.heap.size, 1, none⟩), .int .i64 r.n, (.int .i64 (bits .and .i64 r.n 65535)), (.bool false), (.bool false), .pointer (some ⟨g, 0, none⟩), u105, u106, .pointer (some ⟨wr.heap.size, 2, none⟩), .slice r.Ax r.nx r.cx, u109, u110, u111, u112, u113, u114, u115, u116, u117, u118, u119, u120, u121, undef, undef, undef, undef, undef, undef, undef, undef], defers := [] } _
            refine wpAnyH_take (i := 14) (v := .string ⟨r.x.toArray⟩) rfl (by kernel_rfl) (by kernel_rfl) (by kernel_rfl) (fun _ _ _ h => h) (Or.inl ⟨by rfl, ?y14⟩) hS ?r14
            case y14 => (intro wy hSy; obtain ⟨b0, b1, b2, b3⟩ := (HBn.out.grown hSy hne).cells; have hcx := str_any (c := r.cx) (Hok.out.2.2.1.below (HWn.out.grown hSy HWn.out.size (fun q hq => by injection hq with hq; omega))); go_simp; try with_reducible rfl)
            change wpAnyH _ _ _ _ _ _ _ { tmps := #[.slice (some ad) j c, undef, .bool false, .bool true, .slice Ab q cb, .int .i64 (j : Int), u6, u7, .pointer (some ⟨g, 0, none⟩), .int .i64 (k : Int), .pointer (some ⟨wr.heap.size, 0, none⟩), .bool true, .bool true, .bool false, .slice (some ad) j c, .int .i64 (j : Int), .bool (decide ((50 : Int) < (j : Int))), .int .i64 (j : Int), .slice (some ad) j c, .int .i64 (j : Int), .bool false, u21, u22, u23, u24, u25, u26, u27, u28, u29, u30, u31, u32, u33, u34, u35, u36, u37, u38, u39, u40, u41, u42, u43, u44, u45, u46, u47, u48, u49, u50, u51, u52, u53, u54, u55, u56, u57, u58, u59, u60, u61, u62, u63, u64, u65, u66, u67, u68, u69, u70, u71, u72, u73, u74, u75, u76, u77, u78, u79, u80, u81, u82, .slice Ab q cb, .pointer (some ⟨g, 0, none⟩), .int .i64 (k : Int), .slice (some ad) j c, .int .i64 (j : Int), .bool true, u89, u90, .slice (some ad) j c, .int .i64 (k : Int), .pointer (some (ad.add (k * 4))), .agg #[.int .i64 r.wd, .int .i64 r.n, .slice r.Ax r.nx r.cx, .slice r.Az r.nz r.cz], .pointer (some ⟨g, 0, none⟩), .pointer (some ⟨wr.heap.size, 0, none⟩), .int .i64 r.wd, .int .i64 (bits .and .i64 r.n 65535), .pointer (some ⟨wr.heap.size, 1, none⟩), .int .i64 r.n, (.int .i64 (bits .and .i64 r.n 65535)), (.bool false), (.bool false), .pointer (some ⟨g, 0, none⟩), u105, u106, .pointer (some ⟨wr.heap.size, 2, none⟩), .slice r.Ax r.nx r.cx, .string ⟨r.x.toArray⟩, u110, u111, u112, u113, u114, u115, u116, u117, u118, u119, u120, u121, undef, undef, undef, undef, undef, undef, undef, undef], defers := [] } _
            refine wpAnyH_ready (rs := [10]) (by kernel_rfl) (by simp) ?_
            refine AllReadyH.cons rfl (fun K hK => ?_) AllReadyH.nil
            go_simp
            go_wp2_with (go_at_call 19; refine (RBlob_any g _ 0 1000 _ HRn.out).mono ?_; intro e wo hq; rw [Hrd2.out] at hq; obtain ⟨⟨A7, c7, rfl, _, _, hr7, hgo⟩, hRo⟩ := hq; have hcv7 := str_any (c := c7) hr7; have HRo := Lib.hid hRo; clear hRo hr7)
            refine hK.out _ _ ?_ (fun hS => ?_)
            · exact grownBy_trans hS hgo
            clear hK K
            have HTo := Lib.hid (show wn.grownBy wo (some g) from hS)
            have HBo := Lib.hid (HBn.out.grown HTo.out hne)
            have HWo := Lib.hid (HWn.out.grown HTo.out HWn.out.size (fun q hq => by injection hq with hq; omega))
            clear hS hgo
            refine wpAnyH_strong (S' := fun w' => wo.grownBy w' (some g)) (fun w' h => grownBy_trans HTo.out h) _ _ _ _ ?_
            have hS : wo.grownBy wo (some g) := World.grownBy.refl _ _
            change wpAnyH _ _ _ _ _ _ _ { tmps := #[.slice (some ad) j c, undef, .bool false, .bool true, .slice Ab q cb, .int .i64 (j : Int), u6, u7, .pointer (some ⟨g, 0, none⟩), .int .i64 (k : Int), .pointer (some ⟨wr.heap.size, 0, none⟩), .bool true, .bool true, .bool false, .slice (some ad) j c, .int .i64 (j : Int), .bool (decide ((50 : Int) < (j : Int))), .int .i64 (j : Int), .slice (some ad) j c, .int .i64 (j : Int), .bool false, u21, u22, u23, u24, u25, u26, u27, u28, u29, u30, u31, u32, u33, u34, u35, u36, u37, u38, u39, u40, u41, u42, u43, u44, u45, u46, u47, u48, u49, u50, u51, u52, u53, u54, u55, u56, u57, u58, u59, u60, u61, u62, u63, u64, u65, u66, u67, u68, u69, u70, u71, u72, u73, u74, u75, u76, u77, u78, u79, u80, u81, u82, .slice Ab q cb, .pointer (some ⟨g, 0, none⟩), .int .i64 (k : Int), .slice (some ad) j c, .int .i64 (j : Int), .bool true, u89, u90, .slice (some ad) j c, .int .i64 (k : Int), .pointer (some (ad.add (k * 4))), .agg #[.int .i64 r.wd, .int .i64 r.n, .slice r.Ax r.nx r.cx, .slice r.Az r.nz r.cz], .pointer (some ⟨g, 0, none⟩), .pointer (some ⟨wr.heap.size, 0, none⟩), .int .i64 r.wd, .int .i64 (bits .and .i64 r.n 65535), .pointer (some ⟨wr.heap.size, 1, none⟩), .int .i64 r.n, (.int .i64 (bits .and .i64 r.n 65535)), (.bool false), (.bool false), .pointer (some ⟨g, 0, none⟩), .slice A7 r.x.length c7, u106, .pointer (some ⟨wr.heap.size, 2, none⟩), .slice r.Ax r.nx r.cx, .string ⟨r.x.toArray⟩, u110, u111, u112, u113, u114, u115, u116, u117, u118, u119, u120, u121, undef, undef, undef, undef, undef, undef, undef, undef], defers := [] } _
            refine wpAnyH_ready (rs := [11]) (by kernel_rfl) (by simp) ?_
            refine AllReadyH.cons rfl (fun K hK => ?_) AllReadyH.nil
            go_simp
            refine hK.out _ _ ?_ (fun _ => ?_)
            · exact hS
            clear hK K
            change wpAnyH _ _ _ _ _ _ _ { tmps := #[.slice (some ad) j c, undef, .bool false, .bool true, .slice Ab q cb, .int .i64 (j : Int), u6, u7, .pointer (some ⟨g, 0, none⟩), .int .i64 (k : Int), .pointer (some ⟨wr.heap.size, 0, none⟩), .bool true, .bool true, .bool false, .slice (some ad) j c, .int .i64 (j : Int), .bool (decide ((50 : Int) < (j : Int))), .int .i64 (j : Int), .slice (some ad) j c, .int .i64 (j : Int), .bool false, u21, u22, u23, u24, u25, u26, u27, u28, u29, u30, u31, u32, u33, u34, u35, u36, u37, u38, u39, u40, u41, u42, u43, u44, u45, u46, u47, u48, u49, u50, u51, u52, u53, u54, u55, u56, u57, u58, u59, u60, u61, u62, u63, u64, u65, u66, u67, u68, u69, u70, u71, u72, u73, u74, u75, u76, u77, u78, u79, u80, u81, u82, .slice Ab q cb, .pointer (some ⟨g, 0, none⟩), .int .i64 (k : Int), .slice (some ad) j c, .int .i64 (j : Int), .bool true, u89, u90, .slice (some ad) j c, .int .i64 (k : Int), .pointer (some (ad.add (k * 4))), .agg #[.int .i64 r.wd, .int .i64 r.n, .slice r.Ax r.nx r.cx, .slice r.Az r.nz r.cz], .pointer (some ⟨g, 0, none⟩), .pointer (some ⟨wr.heap.size, 0, none⟩), .int .i64 r.wd, .int .i64 (bits .and .i64 r.n 65535), .pointer (some ⟨wr.heap.size, 1, none⟩), .int .i64 r.n, (.int .i64 (bits .and .i64 r.n 65535)), (.bool false), (.bool false), .pointer (some ⟨g, 0, none⟩), .slice A7 r.x.length c7, .string ⟨r.x.toArray⟩, .pointer (some ⟨wr.heap.size, 2, none⟩), .slice r.Ax r.nx r.cx, .string ⟨r.x.toArray⟩, u110, u111, u112, u113, u114, u115, u116, u117, u118, u119, u120, u121, undef, undef, undef, undef, undef, undef, undef, undef], defers := [] } _
            refine wpAnyH_take (i := 15) (v := (.bool false)) rfl (by kernel_rfl) (by kernel_rfl) (by kernel_rfl) (fun _ _ _ h => h) (Or.inl ⟨by rfl, ?y15⟩) hS ?r15
            case y15 => (intro wy hSy; go_simp)
            change wpAnyH _ _ _ _ _ _ _ { tmps := #[.slice (some ad) j c, undef, .bool false, .bool true, .slice Ab q cb, .int .i64 (j : Int), u6, u7, .pointer (some ⟨g, 0, none⟩), .int .i64 (k : Int), .pointer (some ⟨wr.heap.size, 0, none⟩), .bool true, .bool true, .bool false, .slice (some ad) j c, .int .i64 (j : Int), .bool (decide ((50 : Int) < (j : Int))), .int .i64 (j : Int), .slice (some ad) j c, .int .i64 (j : Int), .bool false, u21, u22, u23, u24, u25, u26, u27, u28, u29, u30, u31, u32, u33, u34, u35, u36, u37, u38, u39, u40, u41, u42, u43, u44, u45, u46, u47, u48, u49, u50, u51, u52, u53, u54, u55, u56, u57, u58, u59, u60, u61, u62, u63, u64, u65, u66, u67, u68, u69, u70, u71, u72, u73, u74, u75, u76, u77, u78, u79, u80, u81, u82, .slice Ab q cb, .pointer (some ⟨g, 0, none⟩), .int .i64 (k : Int), .slice (some ad) j c, .int .i64 (j : Int), .bool true, u89, u90, .slice (some ad) j c, .int .i64 (k : Int), .pointer (some (ad.add (k * 4))), .agg #[.int .i64 r.wd, .int .i64 r.n, .slice r.Ax r.nx r.cx, .slice r.Az r.nz r.cz], .pointer (some ⟨g, 0, none⟩), .pointer (some ⟨wr.heap.size, 0, none⟩), .int .i64 r.wd, .int .i64 (bits .and .i64 r.n 65535), .pointer (some ⟨wr.heap.size, 1, none⟩), .int .i64 r.n, (.int .i64 (bits .and .i64 r.n 65535)), (.bool false), (.bool false), .pointer (some ⟨g, 0, none⟩), .slice A7 r.x.length c7, .string ⟨r.x.toArray⟩, .pointer (some ⟨wr.heap.size, 2, none⟩), .slice r.Ax r.nx r.cx, .string ⟨r.x.toArray⟩, (.bool false), u111, u112, u113, u114, u115, u116, u117, u118, u119, u120, u121, undef, undef, undef, undef, undef, undef, undef, undef], defers := [] } _
            refine wpAnyH_take (i := 16) (v := (.bool false)) rfl (by kernel_rfl) (by kernel_rfl) (by kernel_rfl) (fun _ _ _ h => h) (Or.inl ⟨by rfl, ?y16⟩) hS ?r16
            case y16 => (intro wy hSy; go_simp)
            change wpAnyH _ _ _ _ _ _ _ { tmps := #[.slice (some ad) j c, undef, .bool false, .bool true, .slice Ab q cb, .int .i64 (j : Int), u6, u7, .pointer (some ⟨g, 0, none⟩), .int .i64 (k : Int), .pointer (some ⟨wr.heap.size, 0, none⟩), .bool true, .bool true, .bool false, .slice (some ad) j c, .int .i64 (j : Int), .bool (decide ((50 : Int) < (j : Int))), .int .i64 (j : Int), .slice (some ad) j c, .int .i64 (j : Int), .bool false, u21, u22, u23, u24, u25, u26, u27, u28, u29, u30, u31, u32, u33, u34, u35, u36, u37, u38, u39, u40, u41, u42, u43, u44, u45, u46, u47, u48, u49, u50, u51, u52, u53, u54, u55, u56, u57, u58, u59, u60, u61, u62, u63, u64, u65, u66, u67, u68, u69, u70, u71, u72, u73, u74, u75, u76, u77, u78, u79, u80, u81, u82, .slice Ab q cb, .pointer (some ⟨g, 0, none⟩), .int .i64 (k : Int), .slice (some ad) j c, .int .i64 (j : Int), .bool true, u89, u90, .slice (some ad) j c, .int .i64 (k : Int), .pointer (some (ad.add (k * 4))), .agg #[.int .i64 r.wd, .int .i64 r.n, .slice r.Ax r.nx r.cx, .slice r.Az r.nz r.cz], .pointer (some ⟨g, 0, none⟩), .pointer (some ⟨wr.heap.size, 0, none⟩), .int .i64 r.wd, .int .i64 (bits .and .i64 r.n 65535), .pointer (some ⟨wr.heap.size, 1, none⟩), .int .i64 r.n, (.int .i64 (bits .and .i64 r.n 65535)), (.bool false), (.bool false), .pointer (some ⟨g, 0, none⟩), .slice A7 r.x.length c7, .string ⟨r.x.toArray⟩, .pointer (some ⟨wr.heap.size, 2, none⟩), .slice r.Ax r.nx r.cx, .string ⟨r.x.toArray⟩, (.bool false), (.bool false), u112, u113, u114, u115, u116, u117, u118, u119, u120, u121, undef, undef, undef, undef, undef, undef, undef, undef], defers := [] } _
            refine wpAnyH_take (i := 17) (v := (.bool false)) rfl (by kernel_rfl) (by kernel_rfl) (by kernel_rfl) (fun _ _ _ h => h) (Or.inl ⟨by rfl, ?y17⟩) hS ?r17
            case y17 => (intro wy hSy; go_simp; try with_reducible rfl)
            change wpAnyH _ _ _ _ _ _ _ { tmps := #[.slice (some ad) j c, undef, .bool false, .bool true, .slice Ab q cb, .int .i64 (j : Int), u6, u7, .pointer (some ⟨g, 0, none⟩), .int .i64 (k : Int), .pointer (some ⟨wr.heap.size, 0, none⟩), .bool true, .bool true, .bool false, .slice (some ad) j c, .int .i64 (j : Int), .bool (decide ((50 : Int) < (j : Int))), .int .i64 (j : Int), .slice (some ad) j c, .int .i64 (j : Int), .bool false, u21, u22, u23, u24, u25, u26, u27, u28, u29, u30, u31, u32, u33, u34, u35, u36, u37, u38, u39, u40, u41, u42, u43, u44, u45, u46, u47, u48, u49, u50, u51, u52, u53, u54, u55, u56, u57, u58, u59, u60, u61, u62, u63, u64, u65, u66, u67, u68, u69, u70, u71, u72, u73, u74, u75, u76, u77, u78, u79, u80, u81, u82, .slice Ab q cb, .pointer (some ⟨g, 0, none⟩), .int .i64 (k : Int), .slice (some ad) j c, .int .i64 (j : Int), .bool true, u89, u90, .slice (some ad) j c, .int .i64 (k : Int), .pointer (some (ad.add (k * 4))), .agg #[.int .i64 r.wd, .int .i64 r.n, .slice r.Ax r.nx r.cx, .slice r.Az r.nz r.cz], .pointer (some ⟨g, 0, none⟩), .pointer (some ⟨wr.heap.size, 0, none⟩), .int .i64 r.wd, .int .i64 (bits .and .i64 r.n 65535), .pointer (some ⟨wr.heap.size, 1, none⟩), .int .i64 r.n, (.int .i64 (bits .and .i64 r.n 65535)), (.bool false), (.bool false), .pointer (some ⟨g, 0, none⟩), .slice A7 r.x.length c7, .string ⟨r.x.toArray⟩, .pointer (some ⟨wr.heap.size, 2, none⟩), .slice r.Ax r.nx r.cx, .string ⟨r.x.toArray⟩, (.bool false), (.bool false), (.bool false), u113, u114, u115, u116, u117, u118, u119, u120, u121, undef, undef, undef, undef, undef, undef, undef, undef], defers := [] } _
            refine wpAnyH_take (i := 18) (v := .pointer (some ⟨g, 0, none⟩)) rfl (by kernel_rfl) (by kernel_rfl) (by kernel_rfl) (fun _ _ _ h => h) (Or.inl ⟨by rfl, ?y18⟩) hS ?r18
            case y18 => (intro wy hSy; go_simp; try with_reducible rfl)
            change wpAnyH _ _ _ _ _ _ _ { tmps := #[.slice (some ad) j c, undef, .bool false, .bool true, .slice Ab q cb, .int .i64 (j : Int), u6, u7, .pointer (some ⟨g, 0, none⟩), .int .i64 (k : Int), .pointer (some ⟨wr.heap.size, 0, none⟩), .bool true, .bool true, .bool false, .slice (some ad) j c, .int .i64 (j : Int), .bool (decide ((50 : Int) < (j : Int))), .int .i64 (j : Int), .slice (some ad) j c, .int .i64 (j : Int), .bool false, u21, u22, u23, u24, u25, u26, u27, u28, u29, u30, u31, u32, u33, u34, u35, u36, u37, u38, u39, u40, u41, u42, u43, u44, u45, u46, u47, u48, u49, u50, u51, u52, u53, u54, u55, u56, u57, u58, u59, u60, u61, u62, u63, u64, u65, u66, u67, u68, u69, u70, u71, u72, u73, u74, u75, u76, u77, u78, u79, u80, u81, u82, .slice Ab q cb, .pointer (some ⟨g, 0, none⟩), .int .i64 (k : Int), .slice (some ad) j c, .int .i64 (j : Int), .bool true, u89, u90, .slice (some ad) j c, .int .i64 (k : Int), .pointer (some (ad.add (k * 4))), .agg #[.int .i64 r.wd, .int .i64 r.n, .slice r.Ax r.nx r.cx, .slice r.Az r.nz r.cz], .pointer (some ⟨g, 0, none⟩), .pointer (some ⟨wr.heap.size, 0, none⟩), .int .i64 r.wd, .int .i64 (bits .and .i64 r.n 65535), .pointer (some ⟨wr.heap.size, 1, none⟩), .int .i64 r.n, (.int .i64 (bits .and .i64 r.n 65535)), (.bool false), (.bool false), .pointer (some ⟨g, 0, none⟩), .slice A7 r.x.length c7, .string ⟨r.x.toArray⟩, .pointer (some ⟨wr.heap.size, 2, none⟩), .slice r.Ax r.nx r.cx, .string ⟨r.x.toArray⟩, (.bool false), (.bool false), (.bool false), .pointer (some ⟨g, 0, none⟩), u114, u115, u116, u117, u118, u119, u120, u121, undef, undef, undef, undef, undef, undef, undef, undef], defers := [] } _
            refine wpAnyH_take (i := 19) (v := .pointer (some ⟨wr.heap.size, 0, none⟩)) rfl (by kernel_rfl) (by kernel_rfl) (by kernel_rfl) (fun _ _ _ h => h) (Or.inl ⟨by rfl, ?y19⟩) hS ?r19
            case y19 => (intro wy hSy; go_simp; try with_reducible rfl)
            change wpAnyH _ _ _ _ _ _ _ { tmps := #[.slice (some ad) j c, undef, .bool false, .bool true, .slice Ab q cb, .int .i64 (j : Int), u6, u7, .pointer (some ⟨g, 0, none⟩), .int .i64 (k : Int), .pointer (some ⟨wr.heap.size, 0, none⟩), .bool true, .bool true, .bool false, .slice (some ad) j c, .int .i64 (j : Int), .bool (decide ((50 : Int) < (j : Int))), .int .i64 (j : Int), .slice (some ad) j c, .int .i64 (j : Int), .bool false, u21, u22, u23, u24, u25, u26, u27, u28, u29, u30, u31, u32, u33, u34, u35, u36, u37, u38, u39, u40, u41, u42, u43, u44, u45, u46, u47, u48, u49, u50, u51, u52, u53, u54, u55, u56, u57, u58, u59, u60, u61, u62, u63, u64, u65, u66, u67, u68, u69, u70, u71, u72, u73, u74, u75, u76, u77, u78, u79, u80, u81, u82, .slice Ab q cb, .pointer (some ⟨g, 0, none⟩), .int .i64 (k : Int), .slice (some ad) j c, .int .i64 (j : Int), .bool true, u89, u90, .slice (some ad) j c, .int .i64 (k : Int), .pointer (some (ad.add (k * 4))), .agg #[.int .i64 r.wd, .int .i64 r.n, .slice r.Ax r.nx r.cx, .slice r.Az r.nz r.cz], .pointer (some ⟨g, 0, none⟩), .pointer (some ⟨wr.heap.size, 0, none⟩), .int .i64 r.wd, .int .i64 (bits .and .i64 r.n 65535), .pointer (some ⟨wr.heap.size, 1, none⟩), .int .i64 r.n, (.int .i64 (bits .and .i64 r.n 65535)), (.bool false), (.bool false), .pointer (some ⟨g, 0, none⟩), .slice A7 r.x.length c7, .string ⟨r.x.toArray⟩, .pointer (some ⟨wr.heap.size, 2, none⟩), .slice r.Ax r.nx r.cx, .string ⟨r.x.toArray⟩, (.bool false), (.bool false), (.bool false), .pointer (some ⟨g, 0, none⟩), .pointer (some ⟨wr.heap.size, 0, none⟩), u115, u116, u117, u118, u119, u120, u121, undef, undef, undef, undef, undef, undef, undef, undef], defers := [] } _
            refine wpAnyH_take (i := 20) (v := .int .i64 r.wd) rfl (by kernel_rfl) (by kernel_rfl) (by kernel_rfl) (fun _ _ _ h => h) (Or.inl ⟨by rfl, ?y20⟩) hS ?r20
            case y20 => (intro wy hSy; obtain ⟨b0, b1, b2, b3⟩ := (HBo.out.grown hSy hne).cells; have hcx := str_any (c := r.cx) (Hok.out.2.2.1.below (HWo.out.grown hSy HWo.out.size (fun q hq => by injection hq with hq; omega))); go_simp; try with_reducible rfl)
            change wpAnyH _ _ _ _ _ _ _ { tmps := #[.slice (some ad) j c, undef, .bool false, .bool true, .slice Ab q cb, .int .i64 (j : Int), u6, u7, .pointer (some ⟨g, 0, none⟩), .int .i64 (k : Int), .pointer (some ⟨wr.heap.size, 0, none⟩), .bool true, .bool true, .bool false, .slice (some ad) j c, .int .i64 (j : Int), .bool (decide ((50 : Int) < (j : Int))), .int .i64 (j : Int), .slice (some ad) j c, .int .i64 (j : Int), .bool false, u21, u22, u23, u24, u25, u26, u27, u28, u29, u30, u31, u32, u33, u34, u35, u36, u37, u38, u39, u40, u41, u42, u43, u44, u45, u46, u47, u48, u49, u50, u51, u52, u53, u54, u55, u56, u57, u58, u59, u60, u61, u62, u63, u64, u65, u66, u67, u68, u69, u70, u71, u72, u73, u74, u75, u76, u77, u78, u79, u80, u81, u82, .slice Ab q cb, .pointer (some ⟨g, 0, none⟩), .int .i64 (k : Int), .slice (some ad) j c, .int .i64 (j : Int), .bool true, u89, u90, .slice (some ad) j c, .int .i64 (k : Int), .pointer (some (ad.add (k * 4))), .agg #[.int .i64 r.wd, .int .i64 r.n, .slice r.Ax r.nx r.cx, .slice r.Az r.nz r.cz], .pointer (some ⟨g, 0, none⟩), .pointer (some ⟨wr.heap.size, 0, none⟩), .int .i64 r.wd, .int .i64 (bits .and .i64 r.n 65535), .pointer (some ⟨wr.heap.size, 1, none⟩), .int .i64 r.n, (.int .i64 (bits .and .i64 r.n 65535)), (.bool false), (.bool false), .pointer (some ⟨g, 0, none⟩), .slice A7 r.x.length c7, .string ⟨r.x.toArray⟩, .pointer (some ⟨wr.heap.size, 2, none⟩), .slice r.Ax r.nx r.cx, .string ⟨r.x.toArray⟩, (.bool false), (.bool false), (.bool false), .pointer (some ⟨g, 0, none⟩), .pointer (some ⟨wr.heap.size, 0, none⟩), .int .i64 r.wd, u116, u117, u118, u119, u120, u121, undef, undef, undef, undef, undef, undef, undef, undef], defers := [] } _
            refine wpAnyH_take (i := 22) (v := .pointer (some ⟨wr.heap.size, 3, none⟩)) rfl (by kernel_rfl) (by kernel_rfl) (by kernel_rfl) (fun _ _ _ h => h) (Or.inl ⟨by rfl, ?y22⟩) hS ?r22
            case y22 => (intro wy hSy; go_simp; try with_reducible rfl)
            change wpAnyH _ _ _ _ _ _ _ { tmps := #[.slice (some ad) j c, undef, .bool false, .bool true, .slice Ab q cb, .int .i64 (j : Int), u6, u7, .pointer (some ⟨g, 0, none⟩), .int .i64 (k : Int), .pointer (some ⟨wr.heap.size, 0, none⟩), .bool true, .bool true, .bool false, .slice (some ad) j c, .int .i64 (j : Int), .bool (decide ((50 : Int) < (j : Int))), .int .i64 (j : Int), .slice (some ad) j c, .int .i64 (j : Int), .bool false, u21, u22, u23, u24, u25, u26, u27, u28, u29, u30, u31, u32, u33, u34, u35, u36, u37, u38, u39, u40, u41, u42, u43, u44, u45, u46, u47, u48, u49, u50, u51, u52, u53, u54, u55, u56, u57, u58, u59, u60, u61, u62, u63, u64, u65, u66, u67, u68, u69, u70, u71, u72, u73, u74, u75, u76, u77, u78, u79, u80, u81, u82, .slice Ab q cb, .pointer (some ⟨g, 0, none⟩), .int .i64 (k : Int), .slice (some ad) j c, .int .i64 (j : Int), .bool true, u89, u90, .slice (some ad) j c, .int .i64 (k : Int), .pointer (some (ad.add (k * 4))), .agg #[.int .i64 r.wd, .int .i64 r.n, .slice r.Ax r.nx r.cx, .slice r.Az r.nz r.cz], .pointer (some ⟨g, 0, none⟩), .pointer (some ⟨wr.heap.size, 0, none⟩), .int .i64 r.wd, .int .i64 (bits .and .i64 r.n 65535), .pointer (some ⟨wr.heap.size, 1, none⟩), .int .i64 r.n, (.int .i64 (bits .and .i64 r.n 65535)), (.bool false), (.bool false), .pointer (some ⟨g, 0, none⟩), .slice A7 r.x.length c7, .string ⟨r.x.toArray⟩, .pointer (some ⟨wr.heap.size, 2, none⟩), .slice r.Ax r.nx r.cx, .string ⟨r.x.toArray⟩, (.bool false), (.bool false), (.bool false), .pointer (some ⟨g, 0, none⟩), .pointer (some ⟨wr.heap.size, 0, none⟩), .int .i64 r.wd, u116, .pointer (some ⟨wr.heap.size, 3, none⟩), u118, u119, u120, u121, undef, undef, undef, undef, undef, undef, undef, undef], defers := [] } _
            refine wpAnyH_take (i := 23) (v := .slice r.Az r.nz r.cz) rfl (by kernel_rfl) (by kernel_rfl) (by kernel_rfl) (fun _ _ _ h => h) (Or.inl ⟨by rfl, ?y23⟩) hS ?r23
            case y23 => (intro wy hSy; obtain ⟨b0, b1, b2, b3⟩ := (HBo.out.grown hSy hne).cells; have hcx := str_any (c := r.cx) (Hok.out.2.2.1.below (HWo.out.grown hSy HWo.out.size (fun q hq => by injection hq with hq; omega))); go_simp; try with_reducible rfl)
            change wpAnyH _ _ _ _ _ _ _ { tmps := #[.slice (some ad) j c, undef, .bool false, .bool true, .slice Ab q cb, .int .i64 (j : Int), u6, u7, .pointer (some ⟨g, 0, none⟩), .int .i64 (k : Int), .pointer (some ⟨wr.heap.size, 0, none⟩), .bool true, .bool true, .bool false, .slice (some ad) j c, .int .i64 (j : Int), .bool (decide ((50 : Int) < (j : Int))), .int .i64 (j : Int), .slice (some ad) j c, .int .i64 (j : Int), .bool false, u21, u22, u23, u24, u25, u26, u27, u28, u29, u30, u31, u32, u33, u34, u35, u36, u37, u38, u39, u40, u41, u42, u43, u44, u45, u46, u47, u48, u49, u50, u51, u52, u53, u54, u55, u56, u57, u58, u59, u60, u61, u62, u63, u64, u65, u66, u67, u68, u69, u70, u71, u72, u73, u74, u75, u76, u77, u78, u79, u80, u81, u82, .slice Ab q cb, .pointer (some ⟨g, 0, none⟩), .int .i64 (k : Int), .slice (some ad) j c, .int .i64 (j : Int), .bool true, u89, u90, .slice (some ad) j c, .int .i64 (k : Int), .pointer (some (ad.add (k * 4))), .agg #[.int .i64 r.wd, .int .i64 r.n, .slice r.Ax r.nx r.cx, .slice r.Az r.nz r.cz], .pointer (some ⟨g, 0, none⟩), .pointer (some ⟨wr.heap.size, 0, none⟩), .int .i64 r.wd, .int .i64 (bits .and .i64 r.n 65535), .pointer (some ⟨wr.heap.size, 1, none⟩), .int .i64 r.n, (.int .i64 (bits .and .i64 r.n 65535)), (.bool false), (.bool false), .pointer (some ⟨g, 0, none⟩), .slice A7 r.x.length c7, .string ⟨r.x.toArray⟩, .pointer (some ⟨wr.heap.size, 2, none⟩), .slice r.Ax r.nx r.cx, .string ⟨r.x.toArray⟩, (.bool false), (.bool false), (.bool false), .pointer (some ⟨g, 0, none⟩), .pointer (some ⟨wr.heap.size, 0, none⟩), .int .i64 r.wd, u116, .pointer (some ⟨wr.heap.size, 3, none⟩), .slice r.Az r.nz r.cz, u119, u120, u121, undef, undef, undef, undef, undef, undef, undef, undef], defers := [] } _
            refine wpAnyH_ready (rs := [21]) (by kernel_rfl) (by simp) ?_
            refine AllReadyH.cons rfl (fun K hK => ?_) AllReadyH.nil
            go_simp
            go_wp2_with (go_at_call 22; refine (RNums_any g _ 0 r.wd 200 _ HRo.out).mono ?_; intro e wp hq; rw [Hrd3.out] at hq; obtain ⟨⟨A8, c8, rfl, _, _, hr8, hgp⟩, hRp⟩ := hq; have HRp := Lib.hid hRp; have Hr8 := Lib.hid hr8; clear hRp hr8)
            refine hK.out _ _ ?_ (fun hS => ?_)
            · exact grownBy_trans hS hgp
            clear hK K
            have HTp := Lib.hid (show wo.grownBy wp (some g) from hS)
            have HBp := Lib.hid (HBo.out.grown HTp.out hne)
            have HWp := Lib.hid (HWo.out.grown HTp.out HWo.out.size (fun q hq => by injection hq with hq; omega))
            clear hS hgp
            refine wpAnyH_strong (S' := fun w' => wp.grownBy w' (some g)) (fun w' h => grownBy_trans HTp.out h) _ _ _ _ ?_
            have hS : wp.grownBy wp (some g) := World.grownBy.refl _ _
            change wpAnyH _ _ _ _ _ _ _ { tmps := #[.slice (some ad) j c, undef, .bool false, .bool true, .slice Ab q cb, .int .i64 (j : Int), u6, u7, .pointer (some ⟨g, 0, none⟩), .int .i64 (k : Int), .pointer (some ⟨wr.heap.size, 0, none⟩), .bool true, .bool true, .bool false, .slice (some ad) j c, .int .i64 (j : Int), .bool (decide ((50 : Int) < (j : Int))), .int .i64 (j : Int), .slice (some ad) j c, .int .i64 (j : Int), .bool false, u21, u22, u23, u24, u25, u26, u27, u28, u29, u30, u31, u32, u33, u34, u35, u36, u37, u38, u39, u40, u41, u42, u43, u44, u45, u46, u47, u48, u49, u50, u51, u52, u53, u54, u55, u56, u57, u58, u59, u60, u61, u62, u63, u64, u65, u66, u67, u68, u69, u70, u71, u72, u73, u74, u75, u76, u77, u78, u79, u80, u81, u82, .slice Ab q cb, .pointer (some ⟨g, 0, none⟩), .int .i64 (k : Int), .slice (some ad) j c, .int .i64 (j : Int), .bool true, u89, u90, .slice (some ad) j c, .int .i64 (k : Int), .pointer (some (ad.add (k * 4))), .agg #[.int .i64 r.wd, .int .i64 r.n, .slice r.Ax r.nx r.cx, .slice r.Az r.nz r.cz], .pointer (some ⟨g, 0, none⟩), .pointer (some ⟨wr.heap.size, 0, none⟩), .int .i64 r.wd, .int .i64 (bits .and .i64 r.n 65535), .pointer (some ⟨wr.heap.size, 1, none⟩), .int .i64 r.n, (.int .i64 (bits .and .i64 r.n 65535)), (.bool false), (.bool false), .pointer (some ⟨g, 0, none⟩), .slice A7 r.x.length c7, .string ⟨r.x.toArray⟩, .pointer (some ⟨wr.heap.size, 2, none⟩), .slice r.Ax r.nx r.cx, .string ⟨r.x.toArray⟩, (.bool false), (.bool false), (.bool false), .pointer (some ⟨g, 0, none⟩), .pointer (some ⟨wr.heap.size, 0, none⟩), .int .i64 r.wd, .slice A8 r.zs.length c8, .pointer (some ⟨wr.heap.size, 3, none⟩), .slice r.Az r.nz r.cz, u119, u120, u121, undef, undef, undef, undef, undef, undef, undef, undef], defers := [] } _
            refine wpAnyH_ready (rs := [24]) (by kernel_rfl) (by simp) ?_
            refine AllReadyH.cons rfl (fun K hK => ?_) AllReadyH.nil
            go_simp
            go_wp2_with (go_at_call 21; refine (Ints_any A8 r.Az r.zs.length c8 r.nz r.cz r.zs r.zs _ _ _ Hr8.out (Hok.out.2.2.2.2.2.1.below HWp.out) (by omega) (by omega)).mono ?_; rintro e wq ⟨rfl, qd, rfl⟩; rw [decide_eq_true rfl])
            refine hK.out _ _ ?_ (fun hS => ?_)
            · exact grownBy_drewN wp qd _
            clear hK K
            change wpAnyH _ _ _ _ _ _ _ { tmps := #[.slice (some ad) j c, undef, .bool false, .bool true, .slice Ab q cb, .int .i64 (j : Int), u6, u7, .pointer (some ⟨g, 0, none⟩), .int .i64 (k : Int), .pointer (some ⟨wr.heap.size, 0, none⟩), .bool true, .bool true, .bool false, .slice (some ad) j c, .int .i64 (j : Int), .bool (decide ((50 : Int) < (j : Int))), .int .i64 (j : Int), .slice (some ad) j c, .int .i64 (j : Int), .bool false, u21, u22, u23, u24, u25, u26, u27, u28, u29, u30, u31, u32, u33, u34, u35, u36, u37, u38, u39, u40, u41, u42, u43, u44, u45, u46, u47, u48, u49, u50, u51, u52, u53, u54, u55, u56, u57, u58, u59, u60, u61, u62, u63, u64, u65, u66, u67, u68, u69, u70, u71, u72, u73, u74, u75, u76, u77, u78, u79, u80, u81, u82, .slice Ab q cb, .pointer (some ⟨g, 0, none⟩), .int .i64 (k : Int), .slice (some ad) j c, .int .i64 (j : Int), .bool true, u89, u90, .slice (some ad) j c, .int .i64 (k : Int), .pointer (some (ad.add (k * 4))), .agg #[.int .i64 r.wd, .int .i64 r.n, .slice r.Ax r.nx r.cx, .slice r.Az r.nz r.cz], .pointer (some ⟨g, 0, none⟩), .pointer (some ⟨wr.heap.size, 0, none⟩), .int .i64 r.wd, .int .i64 (bits .and .i64 r.n 65535), .pointer (some ⟨wr.heap.size, 1, none⟩), .int .i64 r.n, (.int .i64 (bits .and .i64 r.n 65535)), (.bool false), (.bool false), .pointer (some ⟨g, 0, none⟩), .slice A7 r.x.length c7, .string ⟨r.x.toArray⟩, .pointer (some ⟨wr.heap.size, 2, none⟩), .slice r.Ax r.nx r.cx, .string ⟨r.x.toArray⟩, (.bool false), (.bool false), (.bool false), .pointer (some ⟨g, 0, none⟩), .pointer (some ⟨wr.heap.size, 0, none⟩), .int .i64 r.wd, .slice A8 r.zs.length c8, .pointer (some ⟨wr.heap.size, 3, none⟩), .slice r.Az r.nz r.cz, .bool true, u120, u121, undef, undef, undef, undef, undef, undef, undef, undef], defers := [] } _
            refine wpAnyH_take (i := 25) (v := (.bool false)) rfl (by kernel_rfl) (by kernel_rfl) (by kernel_rfl) (fun _ _ _ h => h) (Or.inl ⟨by rfl, ?y25⟩) hS ?r25
            case y25 => (intro wy hSy; go_simp)
            change wpAnyH _ _ _ _ _ _ _ { tmps := #[.slice (some ad) j c, undef, .bool false, .bool true, .slice Ab q cb, .int .i64 (j : Int), u6, u7, .pointer (some ⟨g, 0, none⟩), .int .i64 (k : Int), .pointer (some ⟨wr.heap.size, 0, none⟩), .bool true, .bool true, .bool false, .slice (some ad) j c, .int .i64 (j : Int), .bool (decide ((50 : Int) < (j : Int))), .int .i64 (j : Int), .slice (some ad) j c, .int .i64 (j : Int), .bool false, u21, u22, u23, u24, u25, u26, u27, u28, u29, u30, u31, u32, u33, u34, u35, u36, u37, u38, u39, u40, u41, u42, u43, u44, u45, u46, u47, u48, u49, u50, u51, u52, u53, u54, u55, u56, u57, u58, u59, u60, u61, u62, u63, u64, u65, u66, u67, u68, u69, u70, u71, u72, u73, u74, u75, u76, u77, u78, u79, u80, u81, u82, .slice Ab q cb, .pointer (some ⟨g, 0, none⟩), .int .i64 (k : Int), .slice (some ad) j c, .int .i64 (j : Int), .bool true, u89, u90, .slice (some ad) j c, .int .i64 (k : Int), .pointer (some (ad.add (k * 4))), .agg #[.int .i64 r.wd, .int .i64 r.n, .slice r.Ax r.nx r.cx, .slice r.Az r.nz r.cz], .pointer (some ⟨g, 0, none⟩), .pointer (some ⟨wr.heap.size, 0, none⟩), .int .i64 r.wd, .int .i64 (bits .and .i64 r.n 65535), .pointer (some ⟨wr.heap.size, 1, none⟩), .int .i64 r.n, (.int .i64 (bits .and .i64 r.n 65535)), (.bool false), (.bool false), .pointer (some ⟨g, 0, none⟩), .slice A7 r.x.length c7, .string ⟨r.x.toArray⟩, .pointer (some ⟨wr.heap.size, 2, none⟩), .slice r.Ax r.nx r.cx, .string ⟨r.x.toArray⟩, (.bool false), (.bool false), (.bool false), .pointer (some ⟨g, 0, none⟩), .pointer (some ⟨wr.heap.size, 0, none⟩), .int .i64 r.wd, .slice A8 r.zs.length c8, .pointer (some ⟨wr.heap.size, 3, none⟩), .slice r.Az r.nz r.cz, .bool true, (.bool false), u121, undef, undef, undef, undef, undef, undef, undef, undef], defers := [] } _
            refine wpAnyH_take (i := 26) (v := (.bool false)) rfl (by kernel_rfl) (by kernel_rfl) (by kernel_rfl) (fun _ _ _ h => h) (Or.inl ⟨by rfl, ?y26⟩) hS ?r26
            case y26 => (intro wy hSy; go_simp)
            change wpAnyH _ _ _ _ _ _ _ { tmps := #[.slice (some ad) j c, undef, .bool false, .bool true, .slice Ab q cb, .int .i64 (j : Int), u6, u7, .pointer (some ⟨g, 0, none⟩), .int .i64 (k : Int), .pointer (some ⟨wr.heap.size, 0, none⟩), .bool true, .bool true, .bool false, .slice (some ad) j c, .int .i64 (j : Int), .bool (decide ((50 : Int) < (j : Int))), .int .i64 (j : Int), .slice (some ad) j c, .int .i64 (j : Int), .bool false, u21, u22, u23, u24, u25, u26, u27, u28, u29, u30, u31, u32, u33, u34, u35, u36, u37, u38, u39, u40, u41, u42, u43, u44, u45, u46, u47, u48, u49, u50, u51, u52, u53, u54, u55, u56, u57, u58, u59, u60, u61, u62, u63, u64, u65, u66, u67, u68, u69, u70, u71, u72, u73, u74, u75, u76, u77, u78, u79, u80, u81, u82, .slice Ab q cb, .pointer (some ⟨g, 0, none⟩), .int .i64 (k : Int), .slice (some ad) j c, .int .i64 (j : Int), .bool true, u89, u90, .slice (some ad) j c, .int .i64 (k : Int), .pointer (some (ad.add (k * 4))), .agg #[.int .i64 r.wd, .int .i64 r.n, .slice r.Ax r.nx r.cx, .slice r.Az r.nz r.cz], .pointer (some ⟨g, 0, none⟩), .pointer (some ⟨wr.heap.size, 0, none⟩), .int .i64 r.wd, .int .i64 (bits .and .i64 r.n 65535), .pointer (some ⟨wr.heap.size, 1, none⟩), .int .i64 r.n, (.int .i64 (bits .and .i64 r.n 65535)), (.bool false), (.bool false), .pointer (some ⟨g, 0, none⟩), .slice A7 r.x.length c7, .string ⟨r.x.toArray⟩, .pointer (some ⟨wr.heap.size, 2, none⟩), .slice r.Ax r.nx r.cx, .string ⟨r.x.toArray⟩, (.bool false), (.bool false), (.bool false), .pointer (some ⟨g, 0, none⟩), .pointer (some ⟨wr.heap.size, 0, none⟩), .int .i64 r.wd, .slice A8 r.zs.length c8, .pointer (some ⟨wr.heap.size, 3, none⟩), .slice r.Az r.nz r.cz, .bool true, (.bool false), (.bool false), undef, undef, undef, undef, undef, undef, undef, undef], defers := [] } _
            refine wpAnyH_done (by kernel_rfl) ?_ _
            -- END
            go_wp2_with fail
            go_roundw
            case rel => exact ⟨by first | rfl | trivial, k + 1, by omega, by go_num, HRp.out.drewN qd, below_drewN HWp.out qd⟩
            case measure => simp [intOf]; omega
          · obtain rfl : k = j := by omega
            have hR4 := HR3.out
            rw [List.drop_of_length_le (by rw [hrl.out]; exact Nat.le_refl _)] at hR4
            have hl0 : leftN 0 (encs ([] : List WRec)).length = 0 := by decide
            have he0 : endE 0 (encs ([] : List WRec)).length = 0 := by decide
            have HR4 := Lib.hid hR4
            have Hl0 := Lib.hid hl0
            have He0 := Lib.hid he0
            clear hR4 hl0 he0
            go_wp2_with (first
              | (go_at_call 26; refine (Left_any g _ 0 _ HR4.out).mono ?_; rintro e w' ⟨rfl, rfl⟩; rw [Hl0.out])
              | (go_at_call 28; refine (End_any g _ 0 _ HR4.out).mono ?_; rintro e w5 ⟨rfl, _, hg5⟩; rw [He0.out]; have HW5 := Lib.hid (HW3.out.grown hg5 HW3.out.size (fun q hq => by injection hq with hq; omega))))
            go_ret
            exact ⟨rfl, HW5.out⟩
  · go_enter Try.func5, Try.ntmps5
    go_wp2_with (go_at_call 9; refine (awake_any _).mono ?_; rintro e w1 ⟨rfl, hb1⟩)
    go_ret
    exact ⟨rfl, hb1⟩

theorem WireBack_walk {H : Type} {enc : TypeId × Value → H} (W : World) (base : Nat) {v0 : Value} {d0 : DataW H} {p0 : List MemPlace}
    (k0 : Value.okWide Try.prog W .any base 51 v0) (h0 : DataW.Trod enc Try.prog W 0 (fun _ => true) true 51 v0 d0 p0) :
    Calls Try.prog 5 #[v0] W (Yes W) := by
  obtain ⟨A, n, c, rs, rfl, hr, hnc, hc⟩ := ar_wordss k0 h0
  exact WireBack_core A n c rs W hr hnc hc
end Go.Proofs.Ytblkmphbmmbecaa
