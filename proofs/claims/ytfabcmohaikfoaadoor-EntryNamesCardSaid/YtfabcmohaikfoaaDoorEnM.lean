/- Layer 7's examples: awake answers true. -/
import Derived.Test.YtfabcmohaikfoaaDoorEnJ
import Derived.Test.YtfabcmohaikfoaaDoorEnK
import Derived.Lib.SlBytesConst
namespace Go.Proofs.YtfabcmohaikfoaaDoor
open Go.RowKit

/-- the example -/
def exE : En := ⟨9, 2, 1, 5, 7, 0, [97, 98]⟩
theorem ex_may : May7 exE := by decide
theorem ex_cln : cln7 exE = ⟨9, 2, 1, 5, 0, 0, [97, 98]⟩ := by decide
theorem ex_len : (pack7 exE).length = 28 := by decide +kernel
theorem ex_name : (⟨(nameL 7).toArray⟩ : ByteArray) = ⟨#[101, 48, 48, 48, 48, 48, 48, 48, 48, 55]⟩ := by decide +kernel
set_option maxRecDepth 10000 in
theorem aw_pack (A : Option Addr) (c : Nat) (w : World) (hr : Rd w w.heap.size A 2 [97, 98]) (ht : T7 w) :
    Calls Tryd.prog 17 #[eV 9 2 1 5 7 0 A 2 c] w fun r w' => ∃ A c, r = .returned (.slice A 28 c) ∧ 28 ≤ c ∧ c ≤ 9223372036854775807 ∧ Hid (Rd w' w'.heap.size A 28 (pack7 exE)) ∧ Hid (Below w.heap.size w w') :=
  (Pack7 9 2 1 5 7 0 A 2 c [97, 98] w hr (by decide) ht).mono fun r w' q => by
    obtain ⟨A, c, h1, h2, h3, h4, h5⟩ := q
    have e : (pack7 ⟨9, 2, 1, 5, 7, 0, [97, 98]⟩).length = 28 := ex_len
    rw [e] at h1 h2 h4
    exact ⟨A, c, h1, h2, by simpa [maxLen] using h3, Rd.own h4, h5⟩
set_option maxRecDepth 10000 in
theorem aw_unpack (A : Option Addr) (c : Nat) (w : World) (hr : Rd w w.heap.size A 28 (pack7 exE)) (hc : 28 ≤ c) (hm : c ≤ 9223372036854775807) (ht : T7 w) :
    Calls Tryd.prog 15 #[.slice A 28 c] w fun r w' => ∃ A c, r = .returned (.tuple #[eV 9 2 1 5 0 0 A 2 c, .int .i64 0]) ∧ Hid (Rd w' w'.heap.size A 2 [97, 98]) ∧ Hid (Below w.heap.size w w') :=
  (Unpack7 A 28 c (pack7 exE) w hr (by decide) hc hm ht).mono fun r w' q => by
    obtain ⟨A, c, h1, h2, h3, h4, h5⟩ := q
    rw [(un_pack ex_may).2, (un_pack ex_may).1, ex_cln] at h1
    rw [(un_pack ex_may).2, ex_cln] at h2
    exact ⟨A, c, h1, h2, h5⟩
set_option maxRecDepth 10000 in
theorem aw_check (w : World) : Val7 11 #[eV 1 0 1 0 0 0 none 0 0] w (.int .i64 70) := Check7 1 0 1 0 0 0 none 0 0 [] rfl w

theorem Rd_litF7 (w : World) (t : TypeId) (m : Nat × Nat) (l : List UInt8) : Rd (w.alloc (.cells (l.map bv).toArray t m)) (w.heap.size + 1) (some ⟨w.heap.size, 0, none⟩) l.length l := by
  exact ⟨rfl, fun _ => ⟨_, rfl, Nat.lt_succ_self _, fun j hj => by
    have hadd : (⟨w.heap.size, 0, none⟩ : Addr).add j = ⟨w.heap.size, j, none⟩ := by unfold Addr.add; split <;> simp_all
    rw [hadd, cell_of_row _ w.heap.size j (l.map bv).toArray t m (heap_alloc_new w _)]
    simp [hj]⟩⟩
set_option maxRecDepth 10000 in
theorem lit_ab (w : World) : Rd (w.alloc (.cells #[.int .u8 97, .int .u8 98] 5 (2, 3))) (w.heap.size + 1) (some ⟨w.heap.size, 0, none⟩) 2 [97, 98] := Rd_litF7 w 5 (2, 3) [97, 98]
set_option maxRecDepth 10000 in
theorem conv_ab (w : World) : (convert 22 22 (.slice (some ⟨w.heap.size, 0, none⟩) 2 2)).run Tryd.prog (w.alloc (.cells #[.int .u8 97, .int .u8 98] 5)) = .ok (.slice (some ⟨w.heap.size, 0, none⟩) 2 2) (w.alloc (.cells #[.int .u8 97, .int .u8 98] 5 (2, 3))) :=
  Lib.run_convert_bytes_const (P := Tryd.prog) w 22 5 #[.int .u8 97, .int .u8 98] 2 2 Tryd.underlying22 Tryd.underlying5

set_option maxRecDepth 10000 in
set_option maxHeartbeats 2000000 in
theorem awake7 (w : World) (ht : T7 w) : Val7 9 #[] w (.bool true) := by
  have Ht := Lib.hid ht
  clear ht
  go_enter Tryd.func9, Tryd.ntmps9
  have kc := conv_ab w
  have Hlit := Lib.hid (lit_ab w)
  go_upto_region 2 with fail
  have Hb0 := al7 w (.cells #[.int .u8 97, .int .u8 98] 5 (2, 3))
  replace Hlit := Lib.hid (Hlit.out.more (show w.heap.size + 1 ≤ (w.alloc (.cells #[.int .u8 97, .int .u8 98] 5 (2, 3))).heap.size by simp))
  have hsz : (w.alloc (.cells #[.int .u8 97, .int .u8 98] 5 (2, 3))).heap.size = w.heap.size + 1 := by simp
  generalize w.alloc (.cells #[.int .u8 97, .int .u8 98] 5 (2, 3)) = w1 at Hb0 Hlit hsz ⊢
  have HE := Lib.hid (heap_alloc_new w1 (.cells #[.int .i64 9, .int .i64 2, .int .i64 1, .int .i64 5, .int .i64 7, .int .i64 0, .slice (some ⟨w.heap.size, 0, none⟩) 2 2] 24))
  have Ha := al7 w1 (.cells #[.int .i64 9, .int .i64 2, .int .i64 1, .int .i64 5, .int .i64 7, .int .i64 0, .slice (some ⟨w.heap.size, 0, none⟩) 2 2] 24)
  replace Hlit := Lib.hid ((Hlit.out.below Ha.out).more Ha.out.size)
  have HB := bel7 Hb0 Ha
  rw [hsz] at HE
  clear Ha Hb0 kc hsz
  generalize w1.alloc (.cells #[.int .i64 9, .int .i64 2, .int .i64 1, .int .i64 5, .int .i64 7, .int .i64 0, .slice (some ⟨w.heap.size, 0, none⟩) 2 2] 24) = w2 at HE HB Hlit ⊢
  generalize (some ⟨w.heap.size, 0, none⟩ : Option Addr) = A at HE Hlit ⊢
  obtain ⟨eb, heb⟩ : ∃ eb, eb = w.heap.size + 1 := ⟨_, rfl⟩
  rw [← heb] at HE ⊢
  clear heb
  obtain ⟨c0, c1, c2, c3, c4, c5, c6⟩ := ents_of HE.out
  have HP := Lib.hid (aw_pack A 2 w2 Hlit.out (Ht.out.to HB.out))
  go_wp2_with fail
  refine HP.out.mono ?_
  rintro r w3 ⟨A3, k3, rfl, h3, m3, Hr3, hb⟩
  replace HB := bel7 HB hb
  have HU := Lib.hid (aw_unpack A3 k3 w3 Hr3.out h3 m3 (Ht.out.to HB.out))
  clear hb HP c0 c1 c2 c3 c4 c5 c6 HE Hlit Hr3
  go_wp2_with fail
  refine HU.out.mono ?_
  rintro r w4 ⟨A4, k4, rfl, Hr4, hb⟩
  replace HB := bel7 HB hb
  clear hb HU
  go_upto_region 3 with fail
  have HE := Lib.hid (heap_alloc_new w4 (.cells #[.int .i64 9, .int .i64 2, .int .i64 1, .int .i64 5, .int .i64 0, .int .i64 0, .slice A4 2 k4] 24))
  have Ha := al7 w4 (.cells #[.int .i64 9, .int .i64 2, .int .i64 1, .int .i64 5, .int .i64 0, .int .i64 0, .slice A4 2 k4] 24)
  replace Hr4 := Lib.hid ((Hr4.out.below Ha.out).more Ha.out.size)
  replace HB := bel7 HB Ha
  clear Ha
  generalize w4.alloc (.cells #[.int .i64 9, .int .i64 2, .int .i64 1, .int .i64 5, .int .i64 0, .int .i64 0, .slice A4 2 k4] 24) = w5 at HE HB Hr4 ⊢
  obtain ⟨ub, hub⟩ : ∃ ub, ub = w4.heap.size := ⟨_, rfl⟩
  rw [← hub] at HE ⊢
  clear hub
  have HN := Lib.hid (Name7 7 w5 (Ht.out.to HB.out))
  rw [ex_name] at HN
  go_wp2_with fail
  refine HN.out.mono ?_
  rintro r w6 ⟨rfl, hb⟩
  replace HE := Lib.hid ((hb.out.block ub (lt_of_block HE.out)).trans HE.out)
  replace Hr4 := Lib.hid ((Hr4.out.below hb.out).more hb.out.size)
  replace HB := bel7 HB hb
  obtain ⟨c0, c1, c2, c3, c4, c5, c6⟩ := ents_of HE.out
  have hs := str_any (c := k4) Hr4.out
  have HC := Lib.hid (aw_check w6)
  clear hb HN
  go_wp2_with fail
  refine HC.out.mono ?_
  rintro r w7 ⟨rfl, hb⟩
  replace HB := bel7 HB hb
  go_wp2_with fail
  go_ret
  exact ⟨rfl, HB⟩
end Go.Proofs.YtfabcmohaikfoaaDoor
