/- Heads of images: what a reader's bytes are, plain; contract of the document's table. -/
import Derived.Test.YtaobdebeglenaaaHdK
import Derived.Test.YtaobdebeglenaaaMf
namespace Go.Proofs.Ytaobdebeglenaaa
open Go.RowKit

/-- a map out of a reader -/
def rdTab (l : List UInt8) (e : Int) : List Int × List UInt8 × Int :=
  if (rdBlob l e 200).2.2 ≠ 0 then ([], (rdBlob l e 200).2) else match unO (rdBlob l e 200).1 with
    | some m => (m, (rdBlob l e 200).2.1, 0)
    | none => ([], (rdBlob l e 200).2.1, 11)
theorem rdBlob_len (l : List UInt8) (e most : Int) : ((rdBlob l e most).1.length : Int) ≤ max most 0 := by
  unfold rdBlob
  split
  · simp; omega
  · split
    · simp; omega
    · rename_i h
      have h2 := (cntE_0 (Classical.not_not.1 h)).2.1
      simp only [List.length_take]
      omega
theorem Ref.below {w w' : World} {h B : Nat} {l : List UInt8} {e : Int} (k : Ref w h B l e) (hb : Below w.heap.size w w') : Ref w' h B l e := by
  obtain ⟨A, n, c, h1, h2, h3, h4, h5⟩ := k
  have hl := lt_of_block h1
  exact ⟨A, n, c, (hb.block h hl).trans h1, h2, h3, h4.below (hb.mono (by omega)), h5⟩
theorem Ref.lt6 {w : World} {h B : Nat} {l : List UInt8} {e : Int} (k : Ref w h B l e) : h < w.heap.size ∧ B ≤ h := by
  obtain ⟨A, n, c, h1, h2, h3, h4, h5⟩ := k
  exact ⟨lt_of_block h1, h5⟩
theorem grown_of {w w' : World} (hb : Below w.heap.size w w') (r : Option Nat) : w.grownBy w' r := ⟨hb.os, hb.tape, hb.output, hb.size, fun k hk _ => hb.block k hk⟩
theorem gb_keep {w w' : World} {R k : Nat} {o : Obj} (h : w.grownBy w' (some R)) (hk : k ≠ R) (ho : w.heap[k]? = some o) : w'.heap[k]? = some o :=
  (h.block k (lt_of_block ho) (fun e => hk (by simpa using e))).trans ho
theorem gb_below {w w' : World} {R B : Nat} (h : w.grownBy w' (some R)) (hR : B ≤ R) (hB : B ≤ w.heap.size) : Below B w w' :=
  ⟨h.os, h.tape, h.output, h.size, fun k hk => h.block k (by omega) (fun e => by simp at e; omega)⟩

/-- what table tells -/
def TbP (w : World) (h B : Nat) (l : List UInt8) (e : Int) (r : Ending) (w' : World) : Prop :=
  ∃ A n c, r = .returned (.slice A n c) ∧ RdI w' w'.heap.size A n (rdTab l e).1 ∧ (n ≤ 9223372036854775807 ∧ NewA w' 3 w.heap.size A n) ∧ Ref w' h B (clr (rdTab l e).2.1 (rdTab l e).2.2) (rdTab l e).2.2 ∧ w.grownBy w' (some h)
set_option maxRecDepth 10000 in
set_option maxHeartbeats 1000000 in
theorem RTable6 (h B : Nat) (l : List UInt8) (e : Int) (w : World) (H : Ref w h B (clr l e) e) :
    Calls Try.prog 47 #[.pointer (some ⟨h, 0, none⟩)] w (TbP w h B l e) := by
  have HB := Lib.hid (RfBlob_any h B l e 200 w H)
  have Hl := Lib.hid (rdBlob_len l e 200)
  unfold TbP
  have HD := Lib.hid (show rdTab l e = if (rdBlob l e 200).2.2 ≠ 0 then ([], (rdBlob l e 200).2) else match unO (rdBlob l e 200).1 with
    | some m => (m, (rdBlob l e 200).2.1, 0)
    | none => ([], (rdBlob l e 200).2.1, 11) from rfl)
  generalize rdBlob l e 200 = q at HB Hl HD
  obtain ⟨x, l1, e1⟩ := q
  dsimp only at HB Hl HD
  have Hx : Hid (x.length ≤ 200) := by have := Hl.out; show _ ≤ _; omega
  clear H Hl
  by_cases he : e1 = 0
  · subst he
    cases hu : unO x with
    | none =>
      have HR := Lib.hid (show rdTab l e = ([], l1, 11) by rw [HD.out, hu]; rfl)
      rw [HR.out]
      have Hu := Lib.hid hu
      clear HD HR hu
      go_enter Try.func47, Try.ntmps47
      go_wp2_with fail
      refine HB.out.mono ?_
      rintro r w1 ⟨⟨A, c, rfl, hqc, hcm, hrd, hg⟩, href⟩
      obtain ⟨A0, n0, c0, hx0⟩ := href
      have k1 := hx0.cell1
      have Hx0 := Lib.hid hx0
      have Hrd := Lib.hid hrd
      have Hg := Lib.hid hg
      clear hx0 hrd hg HB
      obtain ⟨n, hn⟩ : ∃ n, n = x.length := ⟨_, rfl⟩
      rw [← hn] at Hrd ⊢
      have Hn := Lib.hid hn
      have HU := Lib.hid (RUnpack_any A n c x w1 (Hrd.out.more (by have := Hx0.out.2.2.2.2; have := lt_of_block Hx0.out.1; omega)) (by have := Hx.out; omega))
      clear hn hqc hcm
      go_wp2_with fail
      refine HU.out.mono ?_
      rintro r w2 ⟨A2, n2, c2, rfl, hr2, hn2, hb2⟩
      rw [Hu.out] at hr2 ⊢
      have Href2 := Lib.hid (Ref.below ⟨A0, n0, c0, Hx0.out⟩ hb2)
      have Hg2 := Lib.hid (grownBy_trans Hg.out (grown_of hb2 (some h)))
      have Hr2 := Lib.hid hr2
      have hs2 : (none : Option (List Int)).isSome = false := rfl
      rw [hs2]
      clear hr2 hb2 k1 hs2
      have HF := Lib.hid (RefFail_any h B l1 0 11 w2 Href2.out)
      rw [failE_0] at HF
      go_wp2_with fail
      refine HF.out.mono ?_
      rintro r w3 ⟨rfl, href3, hg3⟩
      have Href3 := Lib.hid href3
      have Hg3 := Lib.hid (grownBy_trans Hg2.out hg3)
      have H0 : Hid (n2 = 0) := Hr2.out.1.symm
      clear href3 hg3
      go_wp2_with fail
      go_ret
      exact ⟨A2, n2, c2, rfl, by rw [H0.out]; exact RdI.nil, ⟨hn2.1, by rw [H0.out]; exact NewA.nil _ _ _ _⟩, Href3.out, Hg3.out⟩
    | some m =>
      have HR := Lib.hid (show rdTab l e = (m, l1, 0) by rw [HD.out, hu]; rfl)
      rw [HR.out]
      have Hu := Lib.hid hu
      clear HD HR hu
      go_enter Try.func47, Try.ntmps47
      go_wp2_with fail
      refine HB.out.mono ?_
      rintro r w1 ⟨⟨A, c, rfl, hqc, hcm, hrd, hg⟩, href⟩
      obtain ⟨A0, n0, c0, hx0⟩ := href
      have k1 := hx0.cell1
      have Hx0 := Lib.hid hx0
      have Hrd := Lib.hid hrd
      have Hg := Lib.hid hg
      clear hx0 hrd hg HB
      obtain ⟨n, hn⟩ : ∃ n, n = x.length := ⟨_, rfl⟩
      rw [← hn] at Hrd ⊢
      have Hn := Lib.hid hn
      have HU := Lib.hid (RUnpack_any A n c x w1 (Hrd.out.more (by have := Hx0.out.2.2.2.2; have := lt_of_block Hx0.out.1; omega)) (by have := Hx.out; omega))
      clear hn hqc hcm
      go_wp2_with fail
      refine HU.out.mono ?_
      rintro r w2 ⟨A2, n2, c2, rfl, hr2, hn2, hb2⟩
      rw [Hu.out] at hr2 ⊢
      have Href2 := Lib.hid (Ref.below ⟨A0, n0, c0, Hx0.out⟩ hb2)
      have Hg2 := Lib.hid (grownBy_trans Hg.out (grown_of hb2 (some h)))
      have Hr2 := Lib.hid hr2
      have hs2 : (some m).isSome = true := rfl
      rw [hs2]
      clear hr2 hb2 k1 hs2
      go_wp2_with fail
      go_ret
      exact ⟨A2, n2, c2, rfl, Hr2.out, ⟨hn2.1, hn2.2.less Hg.out.size⟩, Href2.out, Hg2.out⟩
  · have HR := Lib.hid (show rdTab l e = ([], l1, e1) by rw [HD.out, if_pos he])
    rw [HR.out]
    clear HD HR
    have hb1 : (e1 != 0) = true := by simpa using he
    clear he
    go_enter Try.func47, Try.ntmps47
    go_wp2_with fail
    refine HB.out.mono ?_
    rintro r w1 ⟨⟨A, c, rfl, hqc, hcm, hrd, hg⟩, href⟩
    obtain ⟨A0, n0, c0, hx0⟩ := href
    have k1 := hx0.cell1
    have Hx0 := Lib.hid hx0
    have Hg := Lib.hid hg
    clear hx0 hrd hg HB
    go_wp2_with fail
    go_ret
    exact ⟨none, 0, 0, rfl, RdI.nil, ⟨by omega, NewA.nil _ _ _ _⟩, ⟨A0, n0, c0, Hx0.out⟩, Hg.out⟩
end Go.Proofs.Ytaobdebeglenaaa
