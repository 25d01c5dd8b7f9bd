/- Heads of images, for the laws: heads that can be read, carried on; the forms of the contracts; the document's contracts in that form; how a head that is an argument is opened. -/
import Derived.Test.YtaobdebeglenaaaLaw
import Derived.Test.YtaobdebeglenaaaHdBP
import Derived.Test.YtaobdebeglenaaaHdD
import Derived.Test.YtaobdebeglenaaaHdH
import Derived.Test.YtaobdebeglenaaaHdS
import Derived.Test.YtaobdebeglenaaaMd
import Derived.Deep.Slices
namespace Go.Proofs.Ytaobdebeglenaaa
open Go.ChangeShapes Go.WideShapes Go.ChangeAt Go.RowKit Go.Joins

instance : Inhabited Sn := ⟨⟨0, 0, []⟩⟩
def hd0 : Hd := ⟨0, 0, 0, 0, [], [], 0, 0⟩
/-- a head's parts can be read, and are short -/
def HV (w : World) (g : Hd) (Am : Option Addr) (nm : Nat) (As : Option Addr) (ns : Nat) : Prop :=
  RdI w w.heap.size Am nm g.map ∧ nm ≤ 3000 ∧ RdN w w.heap.size As ns g.snaps ∧ ns ≤ 12 ∧ ∀ s ∈ g.snaps, s.map.length ≤ 3000
theorem HV.keep {w w' : World} {g : Hd} {Am : Option Addr} {nm : Nat} {As : Option Addr} {ns : Nat} (h : HV w g Am nm As ns) (hb : Below w.heap.size w w') : HV w' g Am nm As ns :=
  ⟨(h.1.below hb).more hb.size, h.2.1, (h.2.2.1.below hb).more hb.size, h.2.2.2.1, h.2.2.2.2⟩
theorem HV.zero (w : World) : HV w hd0 none 0 none 0 := ⟨RdI.nil, by omega, RdN.nil _ _ _, by omega, fun s hs => by simp [hd0] at hs⟩
/-- .. with its numbers as letters -/
def HVl (w : World) (g : Hd) (U C O sz : Int) (Am : Option Addr) (nm : Nat) (As : Option Addr) (ns : Nat) (last seq : Int) : Prop :=
  g = ⟨U, C, O, sz, g.map, g.snaps, last, seq⟩ ∧ HV w g Am nm As ns
section
variable {w w' : World} {g : Hd} {U C O sz last seq : Int} {Am As : Option Addr} {nm ns : Nat}
theorem HVl.keep (h : Hid (HVl w g U C O sz Am nm As ns last seq)) (hb : Hid (Below w.heap.size w w')) : Hid (HVl w' g U C O sz Am nm As ns last seq) := ⟨h.out.1, h.out.2.keep hb.out⟩
end
def VF (f : Nat) (xs : Array Value) (w : World) (v : Value) : Prop := Calls Try.prog f xs w fun e w' => e = .returned v ∧ Hid (Below w.heap.size w w')
set_option maxRecDepth 10000 in
/-- a head and an error -/
def HF (f : Nat) (xs : Array Value) (w : World) (g : Hd) (E : Int) : Prop :=
  Calls Try.prog f xs w fun e w' => ∃ U C O sz Am nm cm As ns cs last seq, e = .returned (.tuple #[hV U C O sz Am nm cm As ns cs last seq, .int .i64 E]) ∧ Hid (HVl w' g U C O sz Am nm As ns last seq) ∧ Hid (ns ≤ cs ∧ cs ≤ 9223372036854775807) ∧ Hid (Below w.heap.size w w')
set_option maxRecDepth 10000 in
/-- .. the document's: the room isn't told -/
def HR (f : Nat) (xs : Array Value) (w : World) (g : Hd) (E : Int) : Prop :=
  Calls Try.prog f xs w fun e w' => ∃ U C O sz Am nm cm As ns cs last seq, e = .returned (.tuple #[hV U C O sz Am nm cm As ns cs last seq, .int .i64 E]) ∧ Hid (HVl w' g U C O sz Am nm As ns last seq) ∧ Hid (Below w.heap.size w w')
def HF3 (f : Nat) (xs : Array Value) (w : World) (g : Hd) (I E : Int) : Prop :=
  Calls Try.prog f xs w fun e w' => ∃ U C O sz Am nm cm As ns cs last seq, e = .returned (.tuple #[hV U C O sz Am nm cm As ns cs last seq, .int .i64 I, .int .i64 E]) ∧ Hid (HVl w' g U C O sz Am nm As ns last seq) ∧ Hid (ns ≤ cs ∧ cs ≤ 9223372036854775807) ∧ Hid (Below w.heap.size w w')
def HR3 (f : Nat) (xs : Array Value) (w : World) (g : Hd) (I E : Int) : Prop :=
  Calls Try.prog f xs w fun e w' => ∃ U C O sz Am nm cm As ns cs last seq, e = .returned (.tuple #[hV U C O sz Am nm cm As ns cs last seq, .int .i64 I, .int .i64 E]) ∧ Hid (HVl w' g U C O sz Am nm As ns last seq) ∧ Hid (Below w.heap.size w w')
def IAt (w : World) (A : Option Addr) (n : Nat) (l : List Int) : Prop := RdI w w.heap.size A n l ∧ n ≤ 3000
theorem IAt.keep {w w' : World} {A : Option Addr} {n : Nat} {l : List Int} (h : Hid (IAt w A n l)) (hb : Hid (Below w.heap.size w w')) : Hid (IAt w' A n l) := ⟨(h.out.1.below hb.out).more hb.out.size, h.out.2⟩
def BAt (w : World) (A : Option Addr) (n c : Nat) (l : List UInt8) : Prop := Rd w w.heap.size A n l ∧ n ≤ c ∧ c ≤ 9223372036854775807 ∧ n ≤ 4000
theorem BAt.keep {w w' : World} {A : Option Addr} {n c : Nat} {l : List UInt8} (h : Hid (BAt w A n c l)) (hb : Hid (Below w.heap.size w w')) : Hid (BAt w' A n c l) := ⟨(h.out.1.below hb.out).more hb.out.size, h.out.2⟩
set_option maxRecDepth 10000 in
/-- numbers and an error -/
def DF (f : Nat) (xs : Array Value) (w : World) (l : List Int) (E : Int) : Prop :=
  Calls Try.prog f xs w fun e w' => ∃ A n c, e = .returned (.tuple #[.slice A n c, .int .i64 E]) ∧ Hid (IAt w' A n l) ∧ Hid (Below w.heap.size w w')
def BF (f : Nat) (xs : Array Value) (w : World) (l : List UInt8) : Prop :=
  Calls Try.prog f xs w fun e w' => ∃ A n c, e = .returned (.slice A n c) ∧ Hid (BAt w' A n c l) ∧ Hid (Below w.heap.size w w')
theorem belO6 {W w w' : World} (h : Hid (Below W.heap.size W w)) (hb : Hid (Below w.heap.size w w')) : Hid (Below W.heap.size W w') := h.out.trans (hb.out.mono h.out.size)

/-- what each call tells, plain -/
def mayE (g : Hd) : Int := if MayH g then 0 else 60
def newE (U C O sz : Int) : Int := if Lay U C O ∧ 0 ≤ sz ∧ sz ≤ 512 then 0 else 1
def newX (U C O sz : Int) : Hd := if newE U C O sz = 0 then ⟨U, C, O, sz, [], [], 0, 0⟩ else hd0
def unX (b : List UInt8) : Hd := if unE b = 0 then unHd b else hd0
def snapX (g : Hd) : Hd := if snapE g = 0 then snapH g else hd0
def snapI (g : Hd) : Int := if snapE g = 0 then g.last + 1 else 0
def dropX (g : Hd) (x : Int) : Hd := if dropE g x = 0 then dropH g (findH g.snaps x).toNat else hd0
def diffX (g : Hd) (f t : Int) : List Int := if diffE g f t = 0 then diffH g f t else []
theorem snB_le (s : Sn) : (snB s).length ≤ 205 := by
  unfold snB
  have := packO_le s.map
  rw [List.length_append, List.length_append, numB_length, numB_length, blobB_length _ (by omega)]
  have h1 : fitW 1 = 1 := by decide
  have h2 : fitW 2 = 2 := by decide
  omega
theorem snBs_le : ∀ l : List Sn, (l.flatMap snB).length ≤ 205 * l.length
  | [] => by simp
  | s :: l => by
    have h1 := snB_le s
    have h2 := snBs_le l
    rw [List.flatMap_cons, List.length_append, List.length_cons]
    omega
theorem packX_le (g : Hd) : (packX g).length ≤ 1100 := by
  unfold packX
  split
  · rename_i h
    have h4 := h.2.2.1
    have h5 := snBs_le g.snaps
    have h6 := packO_le g.map
    unfold packH headB
    simp only [List.length_append, numB_length]
    rw [blobB_length _ (by omega)]
    have h1 : fitW 1 = 1 := by decide
    have h2 : fitW 2 = 2 := by decide
    have h3 : fitW 6 = 6 := by decide
    omega
  · simp
theorem rows_of {h : Hd} (k : MayH h) : h.map.length ≤ 512 ∧ ∀ s ∈ h.snaps, s.map.length ≤ 512 := ⟨(ok_of k).1.2.2.2.2.2.2.1, fun s hs => ((ok_of k).2 s hs).2.2.2.2.1⟩
theorem HVl.of {w : World} {g : Hd} {Am nm cm As ns cs} {v : Value} (hv : v = hV g.u g.c g.o g.size Am nm cm As ns cs g.last g.seq) (h1 : RdI w w.heap.size Am nm g.map) (h2 : RdN w w.heap.size As ns g.snaps) (h3 : g.map.length ≤ 3000) (h4 : g.snaps.length ≤ 12) (h5 : ∀ s ∈ g.snaps, s.map.length ≤ 3000) :
    ∃ U C O sz Am nm cm As ns cs last seq, v = hV U C O sz Am nm cm As ns cs last seq ∧ Hid (HVl w g U C O sz Am nm As ns last seq) :=
  ⟨_, _, _, _, Am, nm, cm, As, ns, cs, _, _, hv, ⟨rfl, h1, by rw [← h1.1]; exact h3, h2, by rw [← h2.1]; exact h4, h5⟩⟩
theorem HVl.zero (w : World) : Hid (HVl w hd0 0 0 0 0 none 0 none 0 0 0) := ⟨rfl, HV.zero w⟩
theorem unHd_short (b : List UInt8) (h : MayH (unHd b)) : (unHd b).map.length ≤ 3000 ∧ (unHd b).snaps.length ≤ 12 ∧ ∀ s ∈ (unHd b).snaps, s.map.length ≤ 3000 := by
  obtain ⟨h1, h2⟩ := rows_of h
  exact ⟨by omega, by have := h.2.2.1; omega, fun s hs => by have := h2 s hs; omega⟩
theorem snapH_short {g : Hd} (h : MayH g) : (snapH g).map.length ≤ 3000 ∧ (snapH g).snaps.length ≤ 12 ∧ ∀ s ∈ (snapH g).snaps, s.map.length ≤ 3000 := by
  obtain ⟨h1, h2⟩ := rows_of h
  have h3 := (freshO_is g.map).1
  refine ⟨by show (freshO g.map).length ≤ 3000; omega, by show (g.snaps ++ [_]).length ≤ 12; have := h.2.2.1; simp; omega, fun s hs => ?_⟩
  rcases List.mem_append.1 (show s ∈ g.snaps ++ [_] from hs) with q | q
  · have := h2 s q; omega
  · simp at q; subst q; show g.map.length ≤ 3000; omega
theorem mergeO_short (o m : List Int) : (mergeO o m).length ≤ 3000 := by have := (mergeO_is o m).1; omega
theorem dropH_short {g : Hd} (h : MayH g) (k : Nat) : (dropH g k).map.length ≤ 3000 ∧ (dropH g k).snaps.length ≤ 12 ∧ ∀ s ∈ (dropH g k).snaps, s.map.length ≤ 3000 := by
  obtain ⟨h1, h2⟩ := rows_of h
  have h4 := h.2.2.1
  have hsnap : ∀ (l : List Sn), (∀ s ∈ l, s.map.length ≤ 512) → ∀ m, (∀ s ∈ (dropL l k m), s.map.length ≤ 3000) ∧ (dropL l k m).length ≤ l.length := by
    intro l hl m
    unfold dropL
    cases e : l.drop (k + 1) with
    | nil =>
      refine ⟨fun s hs => ?_, by simp; omega⟩
      have := hl s (List.mem_of_mem_take (by simpa using hs)); omega
    | cons x r =>
      have hx : ∀ y ∈ x :: r, y ∈ l := fun y hy => List.mem_of_mem_drop (by rw [e]; exact hy)
      have hlen : (x :: r).length = l.length - (k + 1) := by rw [← e, List.length_drop]
      refine ⟨fun s hs => ?_, by simp at hlen ⊢; omega⟩
      rcases List.mem_append.1 hs with q | q
      · have := hl s (List.mem_of_mem_take q); omega
      · rcases List.mem_cons.1 q with rfl | q
        · exact mergeO_short _ _
        · have := hl s (hx s (by simp [q])); omega
  unfold dropH
  split
  · obtain ⟨a, b⟩ := hsnap g.snaps h2 (goneH g.snaps k)
    exact ⟨by show g.map.length ≤ 3000; omega, by show (dropL _ _ _).length ≤ 12; omega, a⟩
  · refine ⟨mergeO_short _ _, by show (g.snaps.take k).length ≤ 12; rw [List.length_take]; omega, fun s hs => ?_⟩
    have := h2 s (List.mem_of_mem_take (show s ∈ g.snaps.take k from hs)); omega
theorem diffX_len (g : Hd) (f t : Int) : (diffX g f t).length ≤ 3000 := by
  unfold diffX
  split
  · unfold diffH changedO
    have := changedN_len (goneH g.snaps (findH g.snaps f).toNat) (restH g (findH g.snaps f).toNat f t) 512
    omega
  · simp
theorem may_of_snap {g : Hd} (h : snapE g = 0) : MayH g := by
  unfold snapE at h
  split at h
  · assumption
  · exact absurd h (by decide)
theorem may_of_drop {g : Hd} {x : Int} (h : dropE g x = 0) : MayH g := by
  unfold dropE at h
  split at h
  · assumption
  · exact absurd h (by decide)
theorem may_of_un {b : List UInt8} (h : unE b = 0) : MayH (unHd b) := (unE_inv h).1

section
variable {w : World} {g : Hd} {U C O sz last seq : Int} {Am As : Option Addr} {nm ns : Nat}
set_option maxRecDepth 10000 in
theorem rMay (cm cs : Nat) (h : Hid (HVl w g U C O sz Am nm As ns last seq)) : VF 12 #[hV U C O sz Am nm cm As ns cs last seq] w (.bool (decide (MayH g))) := by
  obtain ⟨e, h1, h2, h3, h4, h5⟩ := h.out
  have q := RMay6 U C O sz Am nm cm As ns cs last seq g.map g.snaps w h1 h3 (by omega) (by omega) (fun s hs => by have := h5 s hs; omega)
  rw [← e] at q
  exact q
set_option maxRecDepth 10000 in
theorem rFind (cm cs : Nat) (x : Int) (h : Hid (HVl w g U C O sz Am nm As ns last seq)) : VF 18 #[hV U C O sz Am nm cm As ns cs last seq, .int .i64 x] w (.int .i64 (findH g.snaps x)) := by
  obtain ⟨e, h1, h2, h3, h4, h5⟩ := h.out
  exact RFind_any U C O sz Am nm cm As ns cs last seq x g.snaps _ w h3 (Nat.le_refl _) (by omega)
set_option maxRecDepth 10000 in
theorem rNewest (cm cs : Nat) (h : Hid (HVl w g U C O sz Am nm As ns last seq)) : VF 20 #[hV U C O sz Am nm cm As ns cs last seq] w (.int .i64 (newestH g.snaps)) := by
  obtain ⟨e, h1, h2, h3, h4, h5⟩ := h.out
  exact RNewest_any U C O sz Am nm cm As ns cs last seq g.snaps _ w h3 (Nat.le_refl _) (by omega)
set_option maxRecDepth 10000 in
theorem rFew (cm cs : Nat) {ss : List Sn} (h : RdN w w.heap.size As ns ss) : VF 11 #[hV U C O sz Am nm cm As ns cs last seq] w (.bool (fewB nm ns ss)) :=
  few6 U C O sz Am nm cm As ns cs last seq ss _ w h (Nat.le_refl _)
set_option maxRecDepth 10000 in
theorem rPack (cm cs : Nat) (h : Hid (HVl w g U C O sz Am nm As ns last seq)) : BF 24 #[hV U C O sz Am nm cm As ns cs last seq] w (packX g) := by
  obtain ⟨e, h1, h2, h3, h4, h5⟩ := h.out
  have q := RPack6 U C O sz Am nm cm As ns cs last seq g.map g.snaps w h1 h3 (by omega) (by omega) (fun s hs => by have := h5 s hs; omega)
  rw [← e] at q
  refine q.mono fun e w' k => ?_
  obtain ⟨A, c, k1, k2, k3, k4, k5⟩ := k
  have k6 : c ≤ 9223372036854775807 := by simpa [maxLen] using k3
  exact ⟨A, _, c, k1, ⟨Rd.own k4, k2, k6, by have := packX_le g; omega⟩, k5⟩
set_option maxRecDepth 10000 in
theorem rSnap (cm cs : Nat) (h : Hid (HVl w g U C O sz Am nm As ns last seq)) : HR3 26 #[hV U C O sz Am nm cm As ns cs last seq] w (snapX g) (snapI g) (snapE g) := by
  obtain ⟨e, h1, h2, h3, h4, h5⟩ := h.out
  have q := RSnap6 U C O sz Am nm cm As ns cs last seq g.map g.snaps w h1 h3 (by omega) (by omega) (fun s hs => by have := h5 s hs; omega)
  rw [← e] at q
  refine q.mono fun e w' k => ?_
  obtain ⟨v, k1, k2, k3, k4⟩ := k
  by_cases hz : snapE g = 0
  · obtain ⟨Am', nm', cm', As', ns', cs', r1, r2, r3, r4⟩ := k3 hz
    obtain ⟨s1, s2, s3⟩ := snapH_short (may_of_snap hz)
    obtain ⟨a1, a2, a3, a4, a5, a6, a7, a8, a9, b1, b2, b3, c1, c2⟩ := HVl.of r1 r2 r4 s1 s2 s3
    subst c1
    exact ⟨a1, a2, a3, a4, a5, a6, a7, a8, a9, b1, b2, b3, k1, by unfold snapX; rw [if_pos hz]; exact c2, k4⟩
  · rw [k2 hz] at k1
    exact ⟨0, 0, 0, 0, none, 0, 0, none, 0, 0, 0, 0, k1, by unfold snapX; rw [if_neg hz]; exact HVl.zero w', k4⟩
set_option maxRecDepth 10000 in
theorem rDrop (cm cs : Nat) (x : Int) (h : Hid (HVl w g U C O sz Am nm As ns last seq)) (hk : Hid (ns ≤ cs ∧ cs ≤ 9223372036854775807)) : HR 28 #[hV U C O sz Am nm cm As ns cs last seq, .int .i64 x] w (dropX g x) (dropE g x) := by
  obtain ⟨e, h1, h2, h3, h4, h5⟩ := h.out
  have q := RDrop6 U C O sz Am nm cm As ns cs last seq x g.map g.snaps w h1 h3 (by omega) (by omega) hk.out.1 (by simp only [maxLen]; exact hk.out.2) (fun s hs => by have := h5 s hs; omega)
  rw [← e] at q
  refine q.mono fun e w' k => ?_
  obtain ⟨v, k1, k2, k3, k4⟩ := k
  by_cases hz : dropE g x = 0
  · obtain ⟨Am', nm', cm', As', ns', cs', r1, r2, r3, r4⟩ := k3 hz
    obtain ⟨s1, s2, s3⟩ := dropH_short (may_of_drop hz) (findH g.snaps x).toNat
    obtain ⟨a1, a2, a3, a4, a5, a6, a7, a8, a9, b1, b2, b3, c1, c2⟩ := HVl.of r1 r2 r4 s1 s2 s3
    subst c1
    exact ⟨a1, a2, a3, a4, a5, a6, a7, a8, a9, b1, b2, b3, k1, by unfold dropX; rw [if_pos hz]; exact c2, k4⟩
  · rw [k2 hz] at k1
    exact ⟨0, 0, 0, 0, none, 0, 0, none, 0, 0, 0, 0, k1, by unfold dropX; rw [if_neg hz]; exact HVl.zero w', k4⟩
set_option maxRecDepth 10000 in
theorem rDiff (cm cs : Nat) (f t : Int) (h : Hid (HVl w g U C O sz Am nm As ns last seq)) : DF 30 #[hV U C O sz Am nm cm As ns cs last seq, .int .i64 f, .int .i64 t] w (diffX g f t) (diffE g f t) := by
  obtain ⟨e, h1, h2, h3, h4, h5⟩ := h.out
  have q := RDiff6 U C O sz Am nm cm As ns cs last seq f t g.map g.snaps w h1 h3 (by omega) (by omega) (fun s hs => by have := h5 s hs; omega)
  rw [← e] at q
  refine q.mono fun e w' k => ?_
  obtain ⟨A, n, c, k1, k2, k3, k4⟩ := k
  exact ⟨A, n, c, k1, ⟨k2, by rw [← k2.1]; exact diffX_len g f t⟩, k4⟩
set_option maxRecDepth 10000 in
theorem rUnpack {A : Option Addr} {n c : Nat} {b : List UInt8} (h : Hid (BAt w A n c b)) : HR 22 #[.slice A n c] w (unX b) (unE b) := by
  obtain ⟨h1, h2, h3, h4⟩ := h.out
  refine (RUnpack6 A n c b w h1 h2 h3).mono fun e w' k => ?_
  obtain ⟨v, k1, k2, k3, k4⟩ := k
  by_cases hz : unE b = 0
  · obtain ⟨Am', nm', cm', As', ns', cs', r1, r2, r3, r4⟩ := k3 hz
    obtain ⟨s1, s2, s3⟩ := unHd_short b (may_of_un hz)
    obtain ⟨a1, a2, a3, a4, a5, a6, a7, a8, a9, b1, b2, b3, c1, c2⟩ := HVl.of r1 r2 r4 s1 s2 s3
    subst c1
    exact ⟨a1, a2, a3, a4, a5, a6, a7, a8, a9, b1, b2, b3, k1, by unfold unX; rw [if_pos hz]; exact c2, k4⟩
  · rw [k2 hz] at k1
    exact ⟨0, 0, 0, 0, none, 0, 0, none, 0, 0, 0, 0, k1, by unfold unX; rw [if_neg hz]; exact HVl.zero w', k4⟩
set_option maxRecDepth 10000 in
theorem rSame {U' C' O' sz' last' seq' : Int} {Am' As' : Option Addr} {nm' ns' : Nat} (cm cs cm' cs' : Nat) (h : Hid (HVl w g U C O sz Am nm As ns last seq)) (h' : Hid (HVl w g U' C' O' sz' Am' nm' As' ns' last' seq')) :
    VF 15 #[hV U C O sz Am nm cm As ns cs last seq, hV U' C' O' sz' Am' nm' cm' As' ns' cs' last' seq'] w (.bool true) := by
  obtain ⟨e, h1, h2, h3, h4, h5⟩ := h.out
  obtain ⟨e', h1', h2', h3', h4', h5'⟩ := h'.out
  have hn : nm' = nm := by rw [← h1.1, ← h1'.1]
  have hs : ns' = ns := by rw [← h3.1, ← h3'.1]
  subst hn hs
  have e2 := e.symm.trans e'
  injection e2 with a1 a2 a3 a4 a5 a6 a7 a8
  subst a1 a2 a3 a4 a7 a8
  exact RSame6 U C O sz Am Am' nm' cm cm' As As' ns' cs cs' last seq g.map g.snaps w h1 h3 h1' h3' (by omega) (by omega)
set_option maxRecDepth 10000 in
theorem rInts {A1 A2 : Option Addr} {n1 n2 : Nat} {a b : List Int} (c1 c2 : Nat) (h : Hid (IAt w A1 n1 a)) (k : Hid (IAt w A2 n2 b)) : VF 31 #[.slice A1 n1 c1, .slice A2 n2 c2] w (.bool (decide (a = b))) :=
  (Ints_any A1 A2 n1 c1 n2 c2 a b _ _ w h.out.1 k.out.1 (by have := h.out.2; omega) (by have := k.out.2; omega)).mono fun _ _ ⟨q, j, hj⟩ => ⟨q, by subst hj; exact ⟨rfl, rfl, rfl, Nat.le_refl _, fun _ _ => rfl⟩⟩
end

section
variable {H : Type} {enc : TypeId × Value → H} {w : World} {spare : Nat → Bool} {held : Bool} {base : Nat}
set_option maxRecDepth 10000 in
/-- a snapshot's three cells -/
theorem op_snap {fuel : Nat} {cs : List Value} {x : DataW H × List MemPlace} (h : DataW.trod enc Try.prog w base spare held fuel 52 cs = some x) :
    ∃ id sz A n c l, cs = [.int .i64 id, .int .i64 sz, .slice A n c] ∧ RdI w w.heap.size A n l ∧ n ≤ 9223372036854775807 := by
  obtain ⟨ys, n', _, _, hcl, hyl, hf⟩ := DataW.trod_struct Try.underlying52 h
  have hc3 : cs.length = 3 := hcl
  match cs, hc3 with
  | [v0, v1, v2], _ =>
    match ys, hyl with
    | [y0, y1, y2], _ =>
      obtain ⟨z0, e0, _⟩ := op_int Try.underlying3 (show DataW.trod enc Try.prog w base spare held n' 3 [v0] = some y0 from hf 0 _ rfl)
      obtain ⟨z1, e1, _⟩ := op_int Try.underlying3 (show DataW.trod enc Try.prog w base spare held n' 3 [v1] = some y1 from hf 1 _ rfl)
      obtain ⟨A, n, c, l, e2, k1, _, k2, k3⟩ := op_ints Try.underlying24 Try.underlying3 (by kernel_rfl) (show DataW.trod enc Try.prog w base spare held n' 24 [v2] = some y2 from hf 2 _ rfl)
      cases e0; cases e1; cases e2
      exact ⟨z0, z1, A, n, c, l, rfl, k1, by omega⟩
set_option maxRecDepth 10000 in
theorem op_snaps {fuel : Nat} {cs : List Value} {x : DataW H × List MemPlace} (h : DataW.trod enc Try.prog w base spare held fuel 25 cs = some x) :
    ∃ A n c ss, cs = [.slice A n c] ∧ RdN w w.heap.size A n ss ∧ n ≤ c ∧ c ≤ 9223372036854775807 := by
  rcases Go.Deep.open_slice Try.underlying25 h with ⟨hcs, _⟩ | ⟨a, len, cap, m, n, D, Pl, hcs, hb, hl, hm, hmm, _, hi⟩
  · exact ⟨none, 0, 0, [], hcs, RdN.nil _ _ _, Nat.le_refl _, by omega⟩
  · have hm : cap ≤ 9223372036854775807 := by simpa [maxLen] using hm
    have hlm : len ≤ m := by rw [hmm]; split <;> omega
    have hC : Try.prog.cellsOf 52 = 3 := by kernel_rfl
    have each : ∀ i, i < len → ∃ z : Sn × Option Addr × Nat × Nat, w.cell? (a.add (i * 3)) = some (.int .i64 z.1.id) ∧ w.cell? ((a.add (i * 3)).add 1) = some (.int .i64 z.1.size) ∧ w.cell? ((a.add (i * 3)).add 2) = some (.slice z.2.1 z.2.2.1 z.2.2.2) ∧ RdI w w.heap.size z.2.1 z.2.2.1 z.1.map ∧ z.2.2.1 ≤ 9223372036854775807 := fun i hi' => by
      obtain ⟨cs', h1, h2⟩ := hi i (by omega)
      rw [hC] at h1
      obtain ⟨_, hcl, hat⟩ := World.cells?_some h1
      obtain ⟨id, sz, A, n', c, l, e, k1, k2⟩ := op_snap h2
      subst e
      have q0 := hat 0 (by omega)
      have q1 := hat 1 (by omega)
      have q2 := hat 2 (by omega)
      rw [show (a.add (i * 3)).add 0 = a.add (i * 3) from by simp [Addr.add]] at q0
      exact ⟨(⟨id, sz, l⟩, A, n', c), q0, q1, q2, k1, k2⟩
    obtain ⟨Z, hZ⟩ := Go.Deep.choose_lt each
    refine ⟨some a, len, cap, (List.range len).map fun i => (Z i).1, hcs, ⟨by simp, fun i hi' => ?_⟩, hl, hm⟩
    simp only [List.length_map, List.length_range] at hi'
    have h2 := hZ i hi'
    have hs : a.spot = none := by
      have h1 := World.cell?_spot (hZ 0 (by omega)).1
      simpa [Addr.add] using h1
    obtain ⟨g, o, s⟩ := a
    obtain rfl : s = none := hs
    have hadd : ∀ o j, (⟨g, o, none⟩ : Addr).add j = ⟨g, o + j, none⟩ := fun o j => by unfold Addr.add; split <;> simp_all
    simp only [hadd] at h2
    simp only [List.getElem_map, List.getElem_range]
    exact ⟨g, o, (Z i).2.1, (Z i).2.2.1, (Z i).2.2.2, rfl, World.block_lt_of_cell? w _ h2.1, h2.1, h2.2.1, h2.2.2.1, h2.2.2.2.1, h2.2.2.2.2⟩
set_option maxRecDepth 10000 in
theorem ar_head {b0 : Nat} {r : Reach} {v : Value} {d : DataW H} {ps : List MemPlace} (k : Value.okWide Try.prog w r b0 27 v) (h : DataW.Trod enc Try.prog w base spare held 27 v d ps) :
    ∃ U C O sz Am nm cm As ns cs last seq m ss, v = hV U C O sz Am nm cm As ns cs last seq ∧ RdI w w.heap.size Am nm m ∧ RdN w w.heap.size As ns ss ∧ nm ≤ 9223372036854775807 ∧ ns ≤ cs ∧ cs ≤ 9223372036854775807 := by
  obtain ⟨cs, rfl, hsz⟩ := okWide_struct Try.underlying27 k
  obtain ⟨fuel, h⟩ := h
  have hC : Try.prog.cellsOf 27 = 8 := by kernel_rfl
  rw [hC] at hsz
  obtain ⟨l⟩ := cs
  match l, hsz with
  | [v0, v1, v2, v3, v4, v5, v6, v7], _ =>
    obtain ⟨ys, n', _, _, hcl, hyl, hf⟩ := DataW.trod_struct Try.underlying27 h
    match ys, hyl with
    | [y0, y1, y2, y3, y4, y5], _ =>
      have g0 : DataW.trod enc Try.prog w base spare held n' 23 [v0, v1, v2] = some y0 := hf 0 _ rfl
      obtain ⟨z3, e3, _⟩ := op_int Try.underlying3 (show DataW.trod enc Try.prog w base spare held n' 3 [v3] = some y1 from hf 1 _ rfl)
      obtain ⟨Am, nm, cm, m, e4, k1, _, k2, k3⟩ := op_ints Try.underlying24 Try.underlying3 (by kernel_rfl) (show DataW.trod enc Try.prog w base spare held n' 24 [v4] = some y2 from hf 2 _ rfl)
      obtain ⟨As, ns, cs, ss, e5, l1, l2, l3⟩ := op_snaps (show DataW.trod enc Try.prog w base spare held n' 25 [v5] = some y3 from hf 3 _ rfl)
      obtain ⟨z6, e6, _⟩ := op_int Try.underlying3 (show DataW.trod enc Try.prog w base spare held n' 3 [v6] = some y4 from hf 4 _ rfl)
      obtain ⟨z7, e7, _⟩ := op_int Try.underlying3 (show DataW.trod enc Try.prog w base spare held n' 3 [v7] = some y5 from hf 5 _ rfl)
      obtain ⟨xs, n2, _, _, _, hxl, hg⟩ := DataW.trod_struct Try.underlying23 g0
      match xs, hxl with
      | [x0, x1, x2], _ =>
        obtain ⟨z0, e0, _⟩ := op_int Try.underlying3 (show DataW.trod enc Try.prog w base spare held n2 3 [v0] = some x0 from hg 0 _ rfl)
        obtain ⟨z1, e1, _⟩ := op_int Try.underlying3 (show DataW.trod enc Try.prog w base spare held n2 3 [v1] = some x1 from hg 1 _ rfl)
        obtain ⟨z2, e2, _⟩ := op_int Try.underlying3 (show DataW.trod enc Try.prog w base spare held n2 3 [v2] = some x2 from hg 2 _ rfl)
        cases e0; cases e1; cases e2; cases e3; cases e4; cases e5; cases e6; cases e7
        exact ⟨z0, z1, z2, z3, Am, nm, cm, As, ns, cs, z6, z7, m, ss, rfl, k1, l1, by omega, l2, l3⟩
end
/-- what is short, as the laws ask it -/
theorem few_hv {w : World} {U C O sz last seq : Int} {Am As : Option Addr} {nm ns : Nat} {m : List Int} {ss : List Sn} (h1 : RdI w w.heap.size Am nm m) (h2 : RdN w w.heap.size As ns ss) (hf : fewB nm ns ss = true) :
    Hid (HVl w ⟨U, C, O, sz, m, ss, last, seq⟩ U C O sz Am nm As ns last seq) := by
  unfold fewB at hf
  simp only [Bool.and_eq_true, decide_eq_true_eq, List.all_eq_true] at hf
  obtain ⟨⟨f1, f2⟩, f3⟩ := hf
  exact ⟨rfl, h1, by omega, h2, by omega, fun s hs => by have : s.map.length ≤ 1000 := f3 s hs; show s.map.length ≤ 3000; omega⟩
end Go.Proofs.Ytaobdebeglenaaa
