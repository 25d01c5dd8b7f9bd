/- The walk of WireCut. -/
import Derived.Test.YtblkmphbmmbecaaWireM
import Derived.Test.YtblkmphbmmbecaaWireQ
import Derived.Test.YtblkmphbmmbecaaLaw
namespace Go.Proofs.Ytblkmphbmmbecaa
open Go.ChangeShapes Go.WideShapes Go.ChangeAt Go.RowKit

/-- block b of world w is a struct of four cells -/
def Box4 (w : World) (b : Nat) (t : TypeId) (c0 c1 c2 c3 : Value) : Prop := w.heap[b]? = some (.cells #[c0, c1, c2, c3] t (0, 0))
section
variable {w w' : World} {b B : Nat} {t : TypeId} {c0 c1 c2 c3 : Value}
theorem Box4.lt (h : Box4 w b t c0 c1 c2 c3) : b < w.heap.size := lt_of_block h
theorem Box4.cells (h : Box4 w b t c0 c1 c2 c3) : w.cell? ⟨b, 0, none⟩ = some c0 ∧ w.cell? ⟨b, 1, none⟩ = some c1 ∧ w.cell? ⟨b, 2, none⟩ = some c2 ∧ w.cell? ⟨b, 3, none⟩ = some c3 := by
  refine ⟨?_, ?_, ?_, ?_⟩ <;> rw [cell_blk h] <;> rfl
theorem Box4.below (h : Box4 w b t c0 c1 c2 c3) (hb : Below B w w') (hB : b < B) : Box4 w' b t c0 c1 c2 c3 := (hb.block b hB).trans h
theorem Box4.grown (h : Box4 w b t c0 c1 c2 c3) {g : Nat} (hg : w.grownBy w' (some g)) (hne : b ≠ g) : Box4 w' b t c0 c1 c2 c3 := (hg.block b h.lt (by simpa using hne)).trans h
theorem Box4.drew (h : Box4 w b t c0 c1 c2 c3) : Box4 w.drew b t c0 c1 c2 c3 := h
theorem Box4.new (w : World) (t : TypeId) (c0 c1 c2 c3 : Value) : Box4 (w.alloc (.cells #[c0, c1, c2, c3] t)) w.heap.size t c0 c1 c2 c3 := heap_alloc_new w _
end

theorem Out.at {w w' : World} {l : List UInt8} {e : Ending} (h : Out w l e w') {m : Nat} (hm : m = l.length) :
    ∃ A c, e = .returned (.slice A m c) ∧ m ≤ c ∧ c ≤ maxLen ∧ Rd w' w'.heap.size A m l ∧ Below w.heap.size w w' := by
  subst hm
  obtain ⟨A, c, he, h1, h2, hown, hb⟩ := h
  exact ⟨A, c, he, h1, h2, Rd.own hown, hb⟩

theorem and_rem (cut : Int) (L : Nat) (hL : 0 < L) : ∃ k : Nat, (bits .and .i64 cut 65535).tmod (L : Int) = (k : Int) ∧ k < L := by
  have h1 : 0 ≤ bits .and .i64 cut 65535 := by
    show 0 ≤ IntKind.i64.wrap ((BitVec.ofInt 64 cut &&& BitVec.ofInt 64 65535).toNat : Int)
    rw [IntKind.wrap_i64, BitVec.toNat_and]
    have h2 : (BitVec.ofInt 64 65535).toNat = 65535 := by decide
    rw [h2]
    have h3 : (BitVec.ofInt 64 cut).toNat &&& 65535 ≤ 65535 := Nat.and_le_right
    omega
  have h4 := Int.emod_nonneg (bits .and .i64 cut 65535) (show (L : Int) ≠ 0 by omega)
  have h5 := Int.emod_lt_of_pos (bits .and .i64 cut 65535) (show (0 : Int) < (L : Int) by omega)
  rw [Int.tmod_eq_emod_of_nonneg h1]
  exact ⟨((bits .and .i64 cut 65535) % (L : Int)).toNat, by omega, by omega⟩
theorem endE_10 (m : Nat) : endE 10 m = 10 := by simp [endE]
theorem leftN_10 (m : Nat) : leftN 10 m = 0 := by simp [leftN]

set_option maxHeartbeats 2000000 in
theorem WireCut_core (wd n : Int) (Ax : Option Addr) (nx cx : Nat) (x : List UInt8) (Az : Option Addr) (nz cz : Nat) (zs : List Int) (cut : Int) (W : World)
    (_hwd : I64 wd) (hn : I64 n) (hx : Rd W W.heap.size Ax nx x) (hnx : nx ≤ cx) (hcx : cx ≤ 9223372036854775807) (hz : RdI W W.heap.size Az nz zs) (hzs : ∀ z ∈ zs, I64 z) (hnz : nz ≤ cz) (hcz : cz ≤ 9223372036854775807) :
    Calls Try.prog 6 #[.agg #[.int .i64 wd, .int .i64 n, .slice Ax nx cx, .slice Az nz cz], .int .i64 cut] W (Yes W) := by
  have hB0 := Box4.new W 25 (.int .i64 wd) (.int .i64 n) (.slice Ax nx cx) (.slice Az nz cz)
  have hW0 : Below W.heap.size W (W.alloc (.cells #[.int .i64 wd, .int .i64 n, .slice Ax nx cx, .slice Az nz cz] 25)) := (Below.refl _ _).alloc (Nat.le_refl _) _
  have HB0 := Lib.hid hB0
  have HW0 := Lib.hid hW0
  have Hx := Lib.hid hx
  have Hz := Lib.hid hz
  have Hzs := Lib.hid hzs
  have hxl := hx.1
  have hzl := hz.1
  have Hxl := Lib.hid hxl
  have Hzl := Lib.hid hzl
  clear hB0 hW0 hx hz hzs hxl hzl
  by_cases h1 : nx ≤ 1000
  · by_cases h2 : nz ≤ 200
    · go_enter Try.func6, Try.ntmps6
      go_upto_region 6 with (go_at_call 9; refine (awake_any _).mono ?_; rintro e w1 ⟨rfl, hb1⟩; have hB1 := HB0.out.below hb1 (by simp); have hW1 := HW0.out.trans (hb1.mono (by simp)); obtain ⟨k0, k1, k2, k3⟩ := hB1.cells; have HB1 := Lib.hid hB1; have HW1 := Lib.hid hW1; clear hb1 hB1 hW1)
      obtain ⟨bl, hbl⟩ : ∃ bl, bl = (numB wd n ++ blobB x) ++ numsB wd zs := ⟨_, rfl⟩
      obtain ⟨L2, hL2⟩ : ∃ L2, L2 = (numB wd n ++ blobB x).length := ⟨_, rfl⟩
      obtain ⟨L, hL⟩ : ∃ L, L = bl.length := ⟨_, rfl⟩
      have hl2 : L2 ≤ 2000 := by rw [hL2, List.length_append, numB_length, blobB_length x (by have := Hxl.out; omega)]; have := Hxl.out; have := (fitW_bd wd).2; omega
      have HL2 := Lib.hid hL2
      have HL : Hid (L = ((numB wd n ++ blobB x) ++ numsB wd zs).length) := by rw [← hbl]; exact hL
      have hLpos : 0 < L := by rw [HL.out, List.length_append, numsB_length wd zs (by have := Hzl.out; omega)]; omega
      have hLle : L ≤ 20000 := by rw [HL.out, List.length_append, ← HL2.out, numsB_length wd zs (by have := Hzl.out; omega)]; have h := Nat.mul_le_mul (show zs.length ≤ 200 by have := Hzl.out; omega) (fitW_bd wd).2; omega
      clear hL2 hL
      have Hbl := Lib.hid hbl
      have hfw := fitW_bd wd
      clear hbl
      go_cut [6] (fun s wx => ∃ A c, s = .slice A L c ∧ L ≤ c ∧ c ≤ maxLen ∧ Hid (Rd wx wx.heap.size A L bl) ∧ Hid (Box4 wx W.heap.size 25 (.int .i64 wd) (.int .i64 n) (.slice Ax nx cx) (.slice Az nz cz)) ∧ Hid (Below W.heap.size W wx))
      case first =>
        go_region_held3 (fun w' => w'.cell? ⟨W.heap.size, 0, none⟩ = some (.int .i64 wd) ∧ w'.cell? ⟨W.heap.size, 1, none⟩ = some (.int .i64 n) ∧ w'.cell? ⟨W.heap.size, 2, none⟩ = some (.slice Ax nx cx) ∧ w'.cell? ⟨W.heap.size, 3, none⟩ = some (.slice Az nz cz)) (go_keep) (first
          | (go_at_call 10; refine (Num_nil wd n _ hn).mono ?_; rintro e w2 ⟨A2, c2, rfl, hr2, hb2⟩; have hB2 := HB1.out.drew.below hb2 HB1.out.lt; obtain ⟨k0', k1', k2', k3'⟩ := hB2.cells; have HW2 := Lib.hid (HW1.out.drew.trans (hb2.mono HW1.out.size)); have HB2 := Lib.hid hB2; have Hr2 := Lib.hid hr2; clear hb2 hB2 hr2)
          | (go_at_call 12; refine (Blob_any A2 Ax _ c2 nx cx _ x _ Hr2.out ((Hx.out.below HW2.out).more HW2.out.size) (by omega) hnx hcx).mono ?_; intro e w3 h3; obtain ⟨A3, c3, rfl, _, _, hr3, hb3⟩ := h3.at HL2.out; have hB3 := HB2.out.below hb3 HB2.out.lt; obtain ⟨k0', k1', k2', k3'⟩ := hB3.cells; have HW3 := Lib.hid (HW2.out.trans (hb3.mono HW2.out.size)); have HB3 := Lib.hid hB3; have Hr3 := Lib.hid hr3; clear hb3 hB3 hr3)
          | (go_at_call 14; refine (Nums_any A3 Az _ c3 nz cz _ zs wd _ Hr3.out ((Hz.out.below HW3.out).more HW3.out.size) Hzs.out (by omega) hnz hcz).mono ?_; intro e w4 h4; obtain ⟨A4, c4, rfl, hc4, hm4, hr4, hb4⟩ := h4.at HL.out; have hB4 := HB3.out.below hb4 HB3.out.lt; obtain ⟨k0', k1', k2', k3'⟩ := hB4.cells; have HW4 := Lib.hid (HW3.out.trans (hb4.mono HW3.out.size)); have HB4 := Lib.hid hB4; have Hr4 := Lib.hid hr4; clear hb4 hB4 hr4))
        all_goals
          go_wp2_with fail
          go_meet
          refine ⟨A4, c4, rfl, hc4, hm4, ?_, HB4, HW4⟩
          rw [Hbl.out]
          exact Hr4.out
      case rest =>
        obtain ⟨A, c, rfl, hc1, hc2, Hr, HB, HWc⟩ := hcut
        obtain ⟨k, hk, hkL⟩ := and_rem cut L hLpos
        have hcm : c ≤ 9223372036854775807 := by simpa [maxLen] using hc2
        obtain ⟨q0, q1, q2, q3⟩ := HB.out.cells
        have hchain := cut_chain wd n x zs k (by have := Hxl.out; omega) (by have := Hzl.out; omega) (by rw [← HL.out]; exact hkL)
        rw [← Hbl.out] at hchain
        have Hch := Lib.hid hchain
        clear hchain
        go_wp2_with (first
          | (go_at_call 16; refine (Read_any A k c (bl.take k) _ (Hr.out.take (Nat.le_of_lt hkL)) (by omega)).mono ?_; rintro e w5 ⟨g, rfl, hR5, hg5, hb5⟩; have hgW : W.heap.size ≤ g := Nat.le_trans HWc.out.size hg5; have hne : W.heap.size ≠ g := Nat.ne_of_lt (Nat.lt_of_lt_of_le HB.out.lt hg5); have hB5 := HB.out.below hb5 HB.out.lt; obtain ⟨k0', k1', k2', k3'⟩ := hB5.cells; have HW5 := Lib.hid (HWc.out.trans (hb5.mono HWc.out.size)); have HB5 := Lib.hid hB5; have HR5 := Lib.hid hR5; clear hb5 hB5 hR5 hg5)
          | (go_at_call 17; refine (RNum_any g (bl.take k) 0 wd _ HR5.out).mono ?_; rintro e w6 ⟨rfl, hR6, hg6⟩; have hB6 := HB5.out.grown hg6 hne; obtain ⟨k0', k1', k2', k3'⟩ := hB6.cells; have HW6 := Lib.hid (HW5.out.grown hg6 HW5.out.size (fun q hq => by injection hq with hq; omega)); have HB6 := Lib.hid hB6; have HR6 := Lib.hid hR6; clear hg6 hB6 hR6)
          | (go_at_call 19; refine (RBlob_any g _ _ 1000 _ HR6.out).mono ?_; rintro e w7 ⟨h7, hR7⟩; obtain ⟨A7, c7, rfl, _, _, _, hg7⟩ := h7; have hB7 := HB6.out.grown hg7 hne; obtain ⟨k0', k1', k2', k3'⟩ := hB7.cells; have HW7 := Lib.hid (HW6.out.grown hg7 HW6.out.size (fun q hq => by injection hq with hq; omega)); have HB7 := Lib.hid hB7; have HR7 := Lib.hid hR7; clear hg7 hB7 hR7)
          | (go_at_call 22; refine (RNums_any g _ _ wd 200 _ HR7.out).mono ?_; rintro e w8 ⟨h8, hR8⟩; obtain ⟨A8, c8, rfl, _, _, _, hg8⟩ := h8; rw [Hch.out] at hR8; have HW8 := Lib.hid (HW7.out.grown hg8 HW7.out.size (fun q hq => by injection hq with hq; omega)); have HR8 := Lib.hid hR8; clear hg8 hR8)
          | (go_at_call 27; refine (Err_any g _ 10 _ HR8.out).mono ?_; rintro e w' ⟨rfl, rfl⟩)
          | (go_at_call 28; refine (End_any g _ 10 _ HR8.out).mono ?_; rintro e w9 ⟨rfl, hR9, hg9⟩; rw [endE_10] at hR9 ⊢; have HW9 := Lib.hid (HW8.out.grown hg9 HW8.out.size (fun q hq => by injection hq with hq; omega)); have HR9 := Lib.hid hR9; clear hg9 hR9)
          | (go_at_call 26; refine (Left_any g _ 10 _ HR9.out).mono ?_; rintro e w' ⟨rfl, rfl⟩; rw [leftN_10]))
        go_ret
        exact ⟨rfl, HW9.out⟩
    · go_enter Try.func6, Try.ntmps6
      go_wp2_with (go_at_call 9; refine (awake_any _).mono ?_; rintro e w1 ⟨rfl, hb1⟩; have hB1 := HB0.out.below hb1 (by simp); have hW1 := HW0.out.trans (hb1.mono (by simp)); obtain ⟨k0, k1, k2, k3⟩ := hB1.cells; have HB1 := Lib.hid hB1; have HW1 := Lib.hid hW1; clear hb1 hB1 hW1)
      go_ret
      exact ⟨rfl, HW1.out⟩
  · go_enter Try.func6, Try.ntmps6
    go_wp2_with (go_at_call 9; refine (awake_any _).mono ?_; rintro e w1 ⟨rfl, hb1⟩; have hB1 := HB0.out.below hb1 (by simp); have hW1 := HW0.out.trans (hb1.mono (by simp)); obtain ⟨k0, k1, k2, k3⟩ := hB1.cells; have HB1 := Lib.hid hB1; have HW1 := Lib.hid hW1; clear hb1 hB1 hW1)
    go_ret
    exact ⟨rfl, HW1.out⟩

theorem ar_words {H : Type} {enc : TypeId × Value → H} {w : World} {base b0 : Nat} {spare : Nat → Bool} {held : Bool} {r : Reach} {v : Value} {d : DataW H} {ps : List MemPlace}
    (k : Value.okWide Try.prog w r b0 25 v) (h : DataW.Trod enc Try.prog w base spare held 25 v d ps) :
    ∃ wd n Ax nx cx x Az nz cz zs, v = .agg #[.int .i64 wd, .int .i64 n, .slice Ax nx cx, .slice Az nz cz] ∧ I64 wd ∧ I64 n ∧ Rd w w.heap.size Ax nx x ∧ nx ≤ cx ∧ cx ≤ 9223372036854775807 ∧
      RdI w w.heap.size Az nz zs ∧ (∀ z ∈ zs, I64 z) ∧ nz ≤ cz ∧ cz ≤ 9223372036854775807 := by
  obtain ⟨c0, c1, c2, c3, y0, y1, y2, y3, m, rfl, _, _, h0, h1, h2, h3⟩ := Go.Joins.open_agg4 Try.underlying25 (by kernel_rfl) (by kernel_rfl) k h
  obtain ⟨wd, e0, g0⟩ := op_int Try.underlying3 h0
  obtain ⟨n, e1, g1⟩ := op_int Try.underlying3 h1
  obtain ⟨Ax, nx, cx, x, e2, g2, g3, g4⟩ := op_bytes Try.underlying22 Try.underlying5 (by kernel_rfl) h2
  obtain ⟨Az, nz, cz, zs, e3, g5, g6, g7, g8⟩ := op_ints Try.underlying23 Try.underlying3 (by kernel_rfl) h3
  simp only [List.cons.injEq, and_true] at e0 e1 e2 e3
  subst e0 e1 e2 e3
  exact ⟨wd, n, Ax, nx, cx, x, Az, nz, cz, zs, rfl, g0, g1, g2, g3, g4, g5, g6, g7, g8⟩

theorem WireCut_walk {H : Type} {enc : TypeId × Value → H} (W : World) (base : Nat) {v0 v1 : Value} {d0 : DataW H} {p0 : List MemPlace} {d1 : DataW H} {p1 : List MemPlace}
    (k0 : Value.okWide Try.prog W .any base 25 v0) (h0 : DataW.Trod enc Try.prog W 0 (fun _ => true) true 25 v0 d0 p0) (k1 : Value.okWide Try.prog W .any base 3 v1) (h1 : DataW.Trod enc Try.prog W 0 (fun _ => true) true 3 v1 d1 p1) :
    Calls Try.prog 6 #[v0, v1] W (Yes W) := by
  obtain ⟨wd, n, Ax, nx, cx, x, Az, nz, cz, zs, rfl, g0, g1, g2, g3, g4, g5, g6, g7, g8⟩ := ar_words k0 h0
  obtain ⟨z, rfl, hz⟩ := ar_int Try.underlying3 k1 h1
  exact WireCut_core wd n Ax nx cx x Az nz cz zs z W g0 g1 g2 g3 g4 g5 g6 g7 g8
end Go.Proofs.Ytblkmphbmmbecaa
