/- Layer 8's example: awake answers true. -/
import Derived.Test.YtmigapjkicddiaaDoorMo
import Derived.Test.YtmigapjkicddiaaDoorMl
import Derived.Test.YtmigapjkicddiaaDoorMi
import Derived.Lib.SlBytesConst

namespace Go.Proofs.YtmigapjkicddiaaDoor
open Go.RowKit

def exK : Ky := ⟨[115, 48, 48, 49], [97, 98]⟩
theorem ex_do1 : doO ⟨[97, 98], [], 0⟩ true ⟨11, 0, 0, [115, 48, 48, 49], []⟩ = (⟨[97, 98], [exK], 0⟩, true, true, 0) := by decide +kernel
theorem ex_do2 : doO ⟨[97, 98], [exK], 0⟩ true ⟨5, 0, 0, [], [99]⟩ = (⟨[99, 98], [exK], 0⟩, true, true, 0) := by decide +kernel
theorem ex_at1 : atK [99, 98] [exK] [115, 48, 48, 49] = [97, 98] := by decide +kernel
theorem ex_at2 : atK [99, 98] [exK] [115, 48, 48, 50] = [99, 98] := by decide +kernel
theorem ex_read : readO [99, 98] 1 2 = [98, 0] := by decide +kernel
set_option maxRecDepth 10000 in
theorem aw_do (d D D' : List UInt8) (ks ks' : List Ky) (k : Int) (X : List UInt8) (Ad : Option Addr) (cd : Nat) (Ak : Option Addr) (nk ck : Nat) (Ap : Option Addr) (np cp : Nat) (w : World) (hg : Et w) (hd : Rd w w.heap.size Ad 2 d) (hr : RdK w w.heap.size Ak nk ks) (hD : Rd w w.heap.size Ap np D) (hnp : np ≤ cp) (hcp : cp ≤ 9223372036854775807) (hX : X.length ≤ 9223372036854775807)
    (he : doO ⟨d, ks, 0⟩ true ⟨k, 0, 0, X, D⟩ = (⟨D', ks', 0⟩, true, true, 0)) (hl : D'.length = 2) (hlk : ks'.length = 1) :
    Calls Tryd.prog 22 #[oV Ad 2 cd Ak nk ck 0, .bool true, pV k 0 0 X Ap np cp] w fun e w' => ∃ A c Ak' ck', e = .returned (.tuple #[oV A 2 c Ak' 1 ck' 0, .bool true, .bool true, .int .i64 0]) ∧ Hid (Rd w' w'.heap.size A 2 D') ∧ Hid (2 ≤ c ∧ c ≤ 9223372036854775807) ∧ Hid (RdK w' w'.heap.size Ak' 1 ks') ∧ Hid (Below w.heap.size w w') :=
  (kDo Ad 2 cd Ak nk ck 0 d ks true k 0 0 X Ap np cp D w.heap.size w hg (Nat.le_refl _) hd hr (by unfold I64; omega) hD hnp hcp hX).mono fun e w' q => by
    obtain ⟨v, h1, h2, h3⟩ := q
    rw [he] at h1 h2
    obtain ⟨A, nd, c, Ak', nk', ck', rfl, g1, g2, g3⟩ := h2.out
    obtain rfl : nd = 2 := by rw [← g1.1]; exact hl
    obtain rfl : nk' = 1 := by rw [← g3.1]; exact hlk
    exact ⟨A, c, Ak', ck', h1, g1, g2, g3, h3⟩
/-- an object's block holds no byte and no string -/
theorem obj_ne {w : World} {z : Nat} {t : TypeId} {p : Addr} {v : Value} {A1 A2 : Option Addr} {n1 c1 n2 c2 : Nat} {s : Int} (hz : w.heap[z]? = some (.cells #[.slice A1 n1 c1, .slice A2 n2 c2, .int .i64 s] t (0, 0))) (hp : w.cell? p = some v) (h1 : ∀ A n c, v ≠ .slice A n c) (h2 : ∀ x, v ≠ .int .i64 x) : z ≠ p.block := by
  intro e
  obtain ⟨b, i, sp⟩ := p
  obtain rfl : z = b := e
  obtain rfl : sp = none := World.cell?_spot hp
  rw [cell_blk hz] at hp
  rcases i with _ | _ | _ | i
  · exact h1 _ _ _ (Option.some.inj hp).symm
  · exact h1 _ _ _ (Option.some.inj hp).symm
  · exact h2 _ (Option.some.inj hp).symm
  · simp at hp
section
variable {w : World} {B n z : Nat} {A A1 A2 : Option Addr} {n1 c1 n2 c2 : Nat} {s : Int} {t : TypeId}
theorem Rd.putO {l : List UInt8} (h : Rd w B A n l) (hz : w.heap[z]? = some (.cells #[.slice A1 n1 c1, .slice A2 n2 c2, .int .i64 s] t (0, 0))) (v0 v1 v2 : Value) : Rd (put3 w z v0 v1 v2) B A n l :=
  ⟨h.1, fun h0 => by
    obtain ⟨ad, e, hb, hc⟩ := h.2 h0
    refine ⟨ad, e, hb, fun j hj => ?_⟩
    have h1 := hc j hj
    rw [put3_cell (obj_ne hz h1 (by simp [bv]) (by simp [bv]))]
    exact h1⟩
theorem RdK.putO {ks : List Ky} (h : RdK w B A n ks) (hz : w.heap[z]? = some (.cells #[.slice A1 n1 c1, .slice A2 n2 c2, .int .i64 s] t (0, 0))) (v0 v1 v2 : Value) : RdK (put3 w z v0 v1 v2) B A n ks := by
  refine ⟨h.1, fun j hj => ?_⟩
  obtain ⟨g, o, Aj, nj, cj, h1, h2, h3, h4, h5, h6⟩ := h.2 j hj
  have hne : z ≠ g := obj_ne hz h3 (by simp) (by simp)
  exact ⟨g, o, Aj, nj, cj, h1, h2, (put3_cell (p := ⟨g, _, none⟩) hne _ _ _).trans h3, (put3_cell (p := ⟨g, _, none⟩) hne _ _ _).trans h4, h5.putO hz _ _ _, h6⟩
end
theorem Rd_litF8 (w : World) (t : TypeId) (m : Nat × Nat) (l : List UInt8) : Rd (w.alloc (.cells (l.map bv).toArray t m)) (w.heap.size + 1) (some ⟨w.heap.size, 0, none⟩) l.length l := by
  exact ⟨rfl, fun _ => ⟨_, rfl, Nat.lt_succ_self _, fun j hj => by
    have hadd : (⟨w.heap.size, 0, none⟩ : Addr).add j = ⟨w.heap.size, j, none⟩ := by unfold Addr.add; split <;> simp_all
    rw [hadd, cell_of_row _ w.heap.size j (l.map bv).toArray t m (heap_alloc_new w _)]
    simp [hj]⟩⟩
set_option maxRecDepth 10000 in
theorem lit_ab8 (w : World) : Rd (w.alloc (.cells #[.int .u8 97, .int .u8 98] 5 (2, 3))) (w.heap.size + 1) (some ⟨w.heap.size, 0, none⟩) 2 [97, 98] := Rd_litF8 w 5 (2, 3) [97, 98]
set_option maxRecDepth 10000 in
theorem conv_ab8 (w : World) : (convert 22 22 (.slice (some ⟨w.heap.size, 0, none⟩) 2 2)).run Tryd.prog (w.alloc (.cells #[.int .u8 97, .int .u8 98] 5)) = .ok (.slice (some ⟨w.heap.size, 0, none⟩) 2 2) (w.alloc (.cells #[.int .u8 97, .int .u8 98] 5 (2, 3))) :=
  Lib.run_convert_bytes_const (P := Tryd.prog) w 22 5 #[.int .u8 97, .int .u8 98] 2 2 Tryd.underlying22 Tryd.underlying5
set_option maxRecDepth 10000 in
theorem lit_c8 (w : World) : Rd (w.alloc (.cells #[.int .u8 99] 5 (1, 2))) (w.heap.size + 1) (some ⟨w.heap.size, 0, none⟩) 1 [99] := Rd_litF8 w 5 (1, 2) [99]
set_option maxRecDepth 10000 in
theorem conv_c8 (w : World) : (convert 22 22 (.slice (some ⟨w.heap.size, 0, none⟩) 1 1)).run Tryd.prog (w.alloc (.cells #[.int .u8 99] 5)) = .ok (.slice (some ⟨w.heap.size, 0, none⟩) 1 1) (w.alloc (.cells #[.int .u8 99] 5 (1, 2))) :=
  Lib.run_convert_bytes_const (P := Tryd.prog) w 22 5 #[.int .u8 99] 1 1 Tryd.underlying22 Tryd.underlying5

set_option maxRecDepth 10000 in
set_option maxHeartbeats 2000000 in
theorem awake8 (w : World) (hg : Et w) : Calls Tryd.prog 9 #[] w fun e w' => e = .returned (.bool true) ∧ Hid (Et w') ∧ Hid (Below w.heap.size w w') := by
  have Hg := Lib.hid hg
  clear hg
  go_enter Tryd.func9, Tryd.ntmps9
  have kc := conv_ab8 w
  have Hlit := Lib.hid (lit_ab8 w)
  go_upto_region 2 with fail
  have Hb0 := Lib.hid ((Below.refl w.heap.size w).alloc (Nat.le_refl _) (.cells #[.int .u8 97, .int .u8 98] 5 (2, 3)))
  replace Hlit := Lib.hid (Hlit.out.more (show w.heap.size + 1 ≤ (w.alloc (.cells #[.int .u8 97, .int .u8 98] 5 (2, 3))).heap.size by simp))
  have hsz : (w.alloc (.cells #[.int .u8 97, .int .u8 98] 5 (2, 3))).heap.size = w.heap.size + 1 := by simp
  clear kc
  generalize w.alloc (.cells #[.int .u8 97, .int .u8 98] 5 (2, 3)) = w1 at Hb0 Hlit hsz ⊢
  have HE := Lib.hid (heap_alloc_new w1 (.cells #[.slice (some ⟨w.heap.size, 0, none⟩) 2 2, .slice none 0 0, .int .i64 0] 25))
  have Ha := (Below.refl w1.heap.size w1).alloc (Nat.le_refl _) (.cells #[.slice (some ⟨w.heap.size, 0, none⟩) 2 2, .slice none 0 0, .int .i64 0] 25)
  replace Hlit := Lib.hid ((Hlit.out.below Ha).more Ha.size)
  have HB := bel8 (Nat.le_refl _) Hb0 Ha
  rw [hsz] at HE
  have Heb := Lib.hid (show w.heap.size ≤ w.heap.size + 1 by omega)
  clear Ha Hb0 hsz
  generalize w1.alloc (.cells #[.slice (some ⟨w.heap.size, 0, none⟩) 2 2, .slice none 0 0, .int .i64 0] 25) = w2 at HE HB Hlit ⊢
  generalize (some ⟨w.heap.size, 0, none⟩ : Option Addr) = A at HE Hlit ⊢
  obtain ⟨eb, heb⟩ : ∃ eb, eb = w.heap.size + 1 := ⟨_, rfl⟩
  rw [← heb] at HE Heb ⊢
  clear heb
  obtain ⟨c0, c1, c2⟩ := objs_of HE.out
  have H1 := Lib.hid (aw_do [97, 98] [] [97, 98] [] [exK] 11 [115, 48, 48, 49] A 2 none 0 0 none 0 0 w2 (Hg.out.below HB.out Hg.out.lt) Hlit.out (RdK.nil _ _ _) Rd.nil (Nat.le_refl _) (by omega) (by decide) ex_do1 rfl rfl)
  go_wp2_with fail
  refine H1.out.mono ?_
  rintro e w3 ⟨A3, d3, K3, k3, rfl, Hr3, Hc3, Hk3, hb3⟩
  clear c0 c1 c2 H1 Hlit
  replace HE := Lib.hid (blk8 HE.out hb3.out)
  replace HB := bel8 (Nat.le_refl _) HB hb3.out
  clear hb3 Hc3
  obtain ⟨c0, c1, c2⟩ := objs_of HE.out
  have f0 := free_blk HE.out 0
  have f1 := free_blk HE.out 1
  have f2 := free_blk HE.out 2
  have P3 := Lib.hid (put3_at HE.out (.slice A3 2 d3) (.slice K3 1 k3) (.int .i64 0))
  have B3 := Lib.hid (put3_below HB.out Heb.out (.slice A3 2 d3) (.slice K3 1 k3) (.int .i64 0) (z := eb))
  have Hr4 := Lib.hid (Hr3.out.putO HE.out (.slice A3 2 d3) (.slice K3 1 k3) (.int .i64 0))
  have Hk4 := Lib.hid (Hk3.out.putO HE.out (.slice A3 2 d3) (.slice K3 1 k3) (.int .i64 0))
  clear Hr3 Hk3 HE HB
  go_upto_region 3 with fail
  clear c0 c1 c2 f0 f1 f2
  change Code.wp _ _ _ _ (put3 w3 eb (.slice A3 2 d3) (.slice K3 1 k3) (.int .i64 0))
  rw [← put3_size w3 eb (.slice A3 2 d3) (.slice K3 1 k3) (.int .i64 0)] at Hr4 Hk4
  generalize put3 w3 eb (.slice A3 2 d3) (.slice K3 1 k3) (.int .i64 0) = w4 at P3 B3 Hr4 Hk4 ⊢
  obtain ⟨c0, c1, c2⟩ := objs_of P3.out
  have kc := conv_c8 w4
  have Hlit := Lib.hid (lit_c8 w4)
  have hba := (Below.refl w4.heap.size w4).alloc (Nat.le_refl _) (.cells #[.int .u8 99] 5 (1, 2))
  have HE5 := Lib.hid (blk8 P3.out hba)
  have HB5 := bel8 (Nat.le_refl _) B3 hba
  replace Hr4 := Lib.hid ((Hr4.out.below hba).more hba.size)
  replace Hk4 := Lib.hid ((Hk4.out.below hba).more hba.size)
  have H2 := Lib.hid (aw_do [97, 98] [99] [99, 98] [exK] [exK] 5 [] A3 d3 K3 1 k3 (some ⟨w4.heap.size, 0, none⟩) 1 1 (w4.alloc (.cells #[.int .u8 99] 5 (1, 2))) (Hg.out.below HB5.out Hg.out.lt) Hr4.out Hk4.out (Hlit.out.more (by simp)) (Nat.le_refl _) (by omega) (by decide) ex_do2 rfl rfl)
  go_wp2_with fail
  refine H2.out.mono ?_
  rintro e w5 ⟨A5, d5, K5, k5, rfl, Hr5, Hc5, Hk5, hb5⟩
  clear c0 c1 c2 H2 Hlit kc P3 B3 Hr4 Hk4
  have HE6 := Lib.hid (blk8 HE5.out hb5.out)
  have HB6 := bel8 (Nat.le_refl _) HB5 hb5.out
  clear hb5 hba HE5 HB5
  obtain ⟨c0, c1, c2⟩ := objs_of HE6.out
  have f0 := free_blk HE6.out 0
  have f1 := free_blk HE6.out 1
  have f2 := free_blk HE6.out 2
  have P7 := Lib.hid (put3_at HE6.out (.slice A5 2 d5) (.slice K5 1 k5) (.int .i64 0))
  have B7 := Lib.hid (put3_below HB6.out Heb.out (.slice A5 2 d5) (.slice K5 1 k5) (.int .i64 0) (z := eb))
  have Hr7 := Lib.hid (Hr5.out.putO HE6.out (.slice A5 2 d5) (.slice K5 1 k5) (.int .i64 0))
  have Hk7 := Lib.hid (Hk5.out.putO HE6.out (.slice A5 2 d5) (.slice K5 1 k5) (.int .i64 0))
  clear Hr5 Hk5 HE6 HB6
  go_upto_region 4 with fail
  clear c0 c1 c2 f0 f1 f2
  change Code.wp _ _ _ _ (put3 w5 eb (.slice A5 2 d5) (.slice K5 1 k5) (.int .i64 0))
  rw [← put3_size w5 eb (.slice A5 2 d5) (.slice K5 1 k5) (.int .i64 0)] at Hr7 Hk7
  generalize put3 w5 eb (.slice A5 2 d5) (.slice K5 1 k5) (.int .i64 0) = w7 at P7 B7 Hr7 Hk7 ⊢
  obtain ⟨c0, c1, c2⟩ := objs_of P7.out
  have hs := str_any (c := d5) Hr7.out
  have hv : ∀ k ∈ [exK], k.val.length ≤ 1000000 := by decide
  have HA1 := Lib.hid (kAt A5 2 d5 K5 1 k5 0 [99, 98] [exK] [115, 48, 48, 49] w7.heap.size w7 Hr7.out (by omega) Hk7.out (Nat.le_refl _) (by omega) (by decide) hv)
  rw [ex_at1] at HA1
  have HV := Lib.hid hv
  clear hv
  go_wp2_with fail
  refine HA1.out.mono ?_
  rintro e w8 ⟨v, rfl, ⟨A8, n8, d8, rfl, Hr8, _⟩, hb8⟩
  obtain rfl : n8 = 2 := Hr8.1.symm
  clear c0 c1 c2 hs HA1
  have P8 := Lib.hid (blk8 P7.out hb8)
  have B8 := bel8 (Nat.le_refl _) B7 hb8
  have Hd8 := Lib.hid ((Hr7.out.below hb8).more hb8.size)
  have Hk8 := Lib.hid ((Hk7.out.below hb8).more hb8.size)
  obtain ⟨c0, c1, c2⟩ := objs_of P8.out
  have hs := str_any (c := d8) Hr8
  have HA1 := Lib.hid (kAt A5 2 d5 K5 1 k5 0 [99, 98] [exK] [115, 48, 48, 50] w8.heap.size w8 Hd8.out (by omega) Hk8.out (Nat.le_refl _) (by omega) (by decide) HV.out)
  rw [ex_at2] at HA1
  clear hb8 P7 B7 Hr7 Hk7 Hr8
  go_wp2_with fail
  refine HA1.out.mono ?_
  rintro e w9 ⟨v, rfl, ⟨A9, n9, d9, rfl, Hr9, _⟩, hb9⟩
  obtain rfl : n9 = 2 := Hr9.1.symm
  clear c0 c1 c2 hs HA1
  have P9 := Lib.hid (blk8 P8.out hb9)
  have B9 := bel8 (Nat.le_refl _) B8 hb9
  have Hd9 := Lib.hid ((Hd8.out.below hb9).more hb9.size)
  have Hk9 := Lib.hid ((Hk8.out.below hb9).more hb9.size)
  obtain ⟨c0, c1, c2⟩ := objs_of P9.out
  have hs := str_any (c := d9) Hr9
  have HA1 := Lib.hid (kRead A5 2 d5 K5 1 k5 0 1 2 [99, 98] w9 Hd9.out Hc5.out.1 Hc5.out.2 (by unfold I64; omega))
  rw [ex_read] at HA1
  clear hb9 P8 B8 Hd8 Hk8 Hr9
  go_wp2_with fail
  refine HA1.out.mono ?_
  rintro e w10 ⟨v, rfl, ⟨A10, n10, d10, rfl, Hr10, _⟩, hb10⟩
  obtain rfl : n10 = 2 := Hr10.1.symm
  clear c0 c1 c2 hs HA1
  have B10 := bel8 (Nat.le_refl _) B9 hb10
  have hs := str_any (c := d10) Hr10
  clear hb10 P9 B9 Hd9 Hk9 Hr10
  go_wp2_with fail
  go_ret
  exact ⟨rfl, Hg.out.below B10.out Hg.out.lt, B10⟩
end Go.Proofs.YtmigapjkicddiaaDoor
