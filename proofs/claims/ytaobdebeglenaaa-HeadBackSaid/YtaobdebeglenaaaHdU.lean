/- Heads of images: what bytes are, plain; contract of the document's Unpack. -/
import Derived.Test.YtaobdebeglenaaaHdT
import Derived.Test.YtaobdebeglenaaaHdF
namespace Go.Proofs.Ytaobdebeglenaaa
open Go.RowKit

def hN (s : List UInt8 × Int) (w : Int) : Int := (rdNum s.1 s.2 w).1
def hS (s : List UInt8 × Int) (w : Int) : List UInt8 × Int := (rdNum s.1 s.2 w).2
def tM (s : List UInt8 × Int) : List Int := (rdTab s.1 s.2).1
def tS (s : List UInt8 × Int) : List UInt8 × Int := (rdTab s.1 s.2).2
def fS (s : List UInt8 × Int) (x : Int) : List UInt8 × Int := (s.1, failE s.2 x)
def sS (s : List UInt8 × Int) : List UInt8 × Int := tS (hS (hS s 1) 2)
def sV (s : List UInt8 × Int) : Sn := ⟨hN s 1, hN (hS s 1) 2, tM (hS (hS s 1) 2)⟩
/-- some snapshots, as far as there is no error -/
def goN : Nat → List UInt8 × Int → List Sn → List Sn × (List UInt8 × Int)
  | 0, s, a => (a, s)
  | k + 1, s, a => if s.2 = 0 then goN k (sS s) (a ++ [sV s]) else (a, s)
/-- the reader behind the map -/
def s7 (b : List UInt8) : List UInt8 × Int := tS (hS (hS (hS (hS (hS (hS (b, 0) 1) 1) 1) 1) 2) 6)
def s9 (b : List UInt8) : List UInt8 × Int := if 4 < hN (s7 b) 1 then fS (hS (s7 b) 1) 11 else hS (s7 b) 1
def unG (b : List UInt8) : List Sn × (List UInt8 × Int) := goN (hN (s7 b) 1).toNat (s9 b) []
/-- the head that bytes are, if they are one -/
def unHd (b : List UInt8) : Hd :=
  ⟨hN (b, 0) 1, hN (hS (b, 0) 1) 1, hN (hS (hS (b, 0) 1) 1) 1, hN (hS (hS (hS (hS (b, 0) 1) 1) 1) 1) 2, tM (hS (hS (hS (hS (hS (hS (b, 0) 1) 1) 1) 1) 2) 6), (unG b).1, hN (hS (hS (hS (b, 0) 1) 1) 1) 1, hN (hS (hS (hS (hS (hS (b, 0) 1) 1) 1) 1) 2) 6⟩
def unE0 (b : List UInt8) : Int := endE (unG b).2.2 (unG b).2.1.length
def unE (b : List UInt8) : Int := if unE0 b ≠ 0 then unE0 b else if MayH (unHd b) then 0 else 60
/-- what Unpack tells -/
def UnP6 (w : World) (b : List UInt8) (r : Ending) (w' : World) : Prop :=
  ∃ v, r = .returned (.tuple #[v, .int .i64 (unE b)]) ∧ (unE b ≠ 0 → v = hV0) ∧ (unE b = 0 → HdAt w' (unHd b) v) ∧ Below w.heap.size w w'

def Ref6 (w : World) (R B : Nat) (s : List UInt8 × Int) : Prop := Ref w R B (clr s.1 s.2) s.2
theorem Num6 (R B : Nat) (s : List UInt8 × Int) (width : Int) (w : World) (h : Ref6 w R B s) :
    Calls Try.prog 46 #[.pointer (some ⟨R, 0, none⟩), .int .i64 width] w fun r w' => r = .returned (.int .i64 (hN s width)) ∧ Ref6 w' R B (hS s width) ∧ w.grownBy w' (some R) := RfNum_any R B s.1 s.2 width w h
theorem Fail6 (R B : Nat) (s : List UInt8 × Int) (x : Int) (w : World) (h : Ref6 w R B s) :
    Calls Try.prog 48 #[.pointer (some ⟨R, 0, none⟩), .int .i64 x] w fun r w' => r = .returned (.tuple #[]) ∧ Ref6 w' R B (fS s x) ∧ w.grownBy w' (some R) := RefFail_any R B s.1 s.2 x w h
theorem End6 (R B : Nat) (s : List UInt8 × Int) (w : World) (h : Ref6 w R B s) :
    Calls Try.prog 49 #[.pointer (some ⟨R, 0, none⟩)] w fun r w' => r = .returned (.int .i64 (endE s.2 s.1.length)) ∧ w.grownBy w' (some R) := (RfEnd_any R B s.1 s.2 w h).mono fun _ _ q => ⟨q.1, q.2.2⟩
theorem Tab6 (R B : Nat) (s : List UInt8 × Int) (w : World) (h : Ref6 w R B s) :
    Calls Try.prog 47 #[.pointer (some ⟨R, 0, none⟩)] w fun r w' => ∃ A n c, r = .returned (.slice A n c) ∧ RdI w' w'.heap.size A n (tM s) ∧ (n ≤ 9223372036854775807 ∧ NewA w' 3 w.heap.size A n) ∧ Ref6 w' R B (tS s) ∧ w.grownBy w' (some R) := RTable6 R B s.1 s.2 w h
theorem Ref6.set {w : World} {R B : Nat} {s : List UInt8 × Int} (h : Ref6 w R B s) (p : Addr) (hp : B ≤ p.block) (hR : p.block ≠ R) (u : Value) : Ref6 (w.setCell p u) R B s := by
  obtain ⟨A, n, c, h1, h2, h3, h4, h5⟩ := h
  exact ⟨A, n, c, (Below.heap_setCell w p u R (fun e => hR e.symm)).trans h1, h2, h3, h4.keep fun q hq => World.cell?_setCell_other w _ _ _ (fun e => by subst e; omega), h5⟩

theorem hN_nat (s : List UInt8 × Int) (w : Int) : ∃ N : Nat, hN s w = N := by
  unfold hN rdNum
  split
  · exact ⟨0, rfl⟩
  · split
    · exact ⟨0, rfl⟩
    · exact ⟨_, rfl⟩
theorem cells_ne {w : World} {g R : Nat} {e t : TypeId} {cur cs : Array Value} (h : w.heap[g]? = some (.cells cur e (0, 0))) (hR : w.heap[R]? = some (.cells cs t (0, 0))) (hne : e ≠ t) : g ≠ R := fun q => by
  subst q
  rw [hR] at h
  injection h with h
  injection h with _ h
  exact hne h.symm
/-- a row of the call's own stays where a block of another type is written -/
theorem own_gb {w w' : World} {B n s R : Nat} {e t : TypeId} {v : Value} {xs : List Value} {cs : Array Value} (h : w.ownsRow B e s v n xs) (hg : w.grownBy w' (some R)) (hR : w.heap[R]? = some (.cells cs t (0, 0))) (hne : e ≠ t) : w'.ownsRow B e s v n xs := by
  refine ⟨h.1, ?_⟩
  rcases h.2 with h | ⟨g, cap, cur, h1, h2, h3, h4⟩
  · exact .inl h
  · exact .inr ⟨g, cap, cur, h1, h2, gb_keep hg (cells_ne h3 hR hne) h3, h4⟩
theorem own_setb {w : World} {B n s R : Nat} {e t : TypeId} {v : Value} {xs : List Value} {cs : Array Value} (h : w.ownsRow B e s v n xs) (hR : w.heap[R]? = some (.cells cs t (0, 0))) (hne : e ≠ t) (k : Nat) (u : Value) : (w.setCell ⟨R, k, none⟩ u).ownsRow B e s v n xs := by
  refine ⟨h.1, ?_⟩
  rcases h.2 with h | ⟨g, cap, cur, h1, h2, h3, h4⟩
  · exact .inl h
  · exact .inr ⟨g, cap, cur, h1, h2, (Below.heap_setCell w ⟨R, k, none⟩ u g (cells_ne h3 hR hne)).trans h3, h4⟩
/-- a map in a block of its own -/
def MapAt (w : World) (L : Nat) (A : Option Addr) (n : Nat) (m : List Int) : Prop := RdI w w.heap.size A n m ∧ n ≤ 9223372036854775807 ∧ NewA w 3 L A n
theorem MapAt.grown {w w' : World} {L n : Nat} {A : Option Addr} {m : List Int} {r : Option Nat} (h : MapAt w L A n m) (hg : w.grownBy w' r) (hr : ∀ R, r = some R → ∃ cs t, w.heap[R]? = some (.cells cs t (0, 0)) ∧ 3 ≠ t) : MapAt w' L A n m := by
  have key : 0 < n → ∃ g o cur, A = some ⟨g, o, none⟩ ∧ L ≤ g ∧ w.heap[g]? = some (.cells cur 3 (0, 0)) ∧ w'.heap[g]? = w.heap[g]? := fun hn => by
    obtain ⟨g, o, cur, h1, h2, h3⟩ := h.2.2 hn
    refine ⟨g, o, cur, h1, h2, h3, hg.block g (lt_of_block h3) fun q => ?_⟩
    obtain ⟨cs, t, h4, h5⟩ := hr g q.symm
    exact cells_ne h3 h4 h5 rfl
  refine ⟨⟨h.1.1, fun hn => ?_⟩, h.2.1, fun hn => ?_⟩
  · obtain ⟨ad, e, hb, hc⟩ := h.1.2 hn
    obtain ⟨g, o, cur, h1, h2, h3, h4⟩ := key hn
    cases e.symm.trans h1
    refine ⟨_, e, Nat.lt_of_lt_of_le hb hg.size, fun j hj => ?_⟩
    refine (World.cell?_of_block ?_).trans (hc j hj)
    rw [addB]
    exact h4
  · obtain ⟨g, o, cur, h1, h2, h3, h4⟩ := key hn
    exact ⟨g, o, cur, h1, h2, h4.trans h3⟩
theorem MapAt.gb {w w' : World} {L R n : Nat} {A : Option Addr} {m : List Int} {cs : Array Value} {t : TypeId} (h : MapAt w L A n m) (hg : w.grownBy w' (some R)) (hR : w.heap[R]? = some (.cells cs t (0, 0))) (hne : 3 ≠ t) : MapAt w' L A n m :=
  h.grown hg fun g q => by cases q; exact ⟨cs, t, hR, hne⟩
theorem grown_set (w : World) (R k : Nat) (u : Value) : w.grownBy (w.setCell ⟨R, k, none⟩ u) (some R) :=
  ⟨rfl, rfl, rfl, by simp [World.setCell], fun g _ hne => Below.heap_setCell w ⟨R, k, none⟩ u g (fun q => hne (by rw [q]))⟩
theorem MapAt.to {w w' : World} {L n : Nat} {A : Option Addr} {m : List Int} (h : MapAt w L A n m) (hb : Below w.heap.size w w') : MapAt w' L A n m := ⟨(h.1.below hb).more hb.size, h.2.1, h.2.2.to hb⟩
theorem MapAt.row {w w' : World} {L B k s n : Nat} {e : TypeId} {v : Value} {xs : List Value} {A : Option Addr} {m : List Int} (h : MapAt w L A n m) (ho : w.ownsRow B e s v k xs) (hne : 3 ≠ e) (hg : w.grownBy w' v.ownBlock) : MapAt w' L A n m :=
  h.grown hg fun g q => by
    rcases ho.2 with ⟨rfl, _⟩ | ⟨g', cap, cur, rfl, _, h3, _⟩
    · cases q
    · cases q; exact ⟨cur, e, h3, hne⟩
/-- snapshots' maps -/
def SvsAt (w : World) (L : Nat) (vs : List Sv) : Prop := ∀ p ∈ vs, MapAt w L p.A p.n p.s.map
theorem three_blocks (w : World) (o1 o2 o3 : Obj) : (((w.alloc o1).alloc o2).alloc o3).heap[w.heap.size]? = some o1 ∧ (((w.alloc o1).alloc o2).alloc o3).heap[w.heap.size + 1]? = some o2 ∧ (((w.alloc o1).alloc o2).alloc o3).heap[w.heap.size + 1 + 1]? = some o3 ∧ Below w.heap.size w (((w.alloc o1).alloc o2).alloc o3) := by
  have s1 : (w.alloc o1).heap.size = w.heap.size + 1 := by simp
  have s2 : ((w.alloc o1).alloc o2).heap.size = w.heap.size + 1 + 1 := by simp
  refine ⟨?_, ?_, ?_, ?_⟩
  · rw [heap_alloc_old _ _ (by omega), heap_alloc_old _ _ (by omega)]; exact heap_alloc_new w o1
  · rw [heap_alloc_old _ _ (by omega), ← s1]; exact heap_alloc_new _ o2
  · rw [← s2]; exact heap_alloc_new _ o3
  · exact ((((Below.refl _ _).alloc (Nat.le_refl _) _).alloc (by simp) _).alloc (by simp; omega) _)
/-- the head's block, the result's, and what was there -/
structure At6 (W w : World) (Z R H : Nat) (v0 v1 v2 v3 v4 v5 v6 v7 : Value) : Prop where
  hd : w.heap[H]? = some (.cells #[v0, v1, v2, v3, v4, v5, v6, v7] 27 (0, 0))
  rs : w.heap[Z]? = some (.cells #[.int .i64 0, .int .i64 0, .int .i64 0, .int .i64 0, .slice none 0 0, .slice none 0 0, .int .i64 0, .int .i64 0] 27 (0, 0))
  be : Below W.heap.size W w
  zR : Z ≠ R
  zH : Z ≠ H
  hR : H ≠ R
  z0 : W.heap.size ≤ Z
  r0 : W.heap.size ≤ R
  h0 : W.heap.size ≤ H
theorem At6.gb {W w w' : World} {Z R H : Nat} {v0 v1 v2 v3 v4 v5 v6 v7 : Value} (h : At6 W w Z R H v0 v1 v2 v3 v4 v5 v6 v7) (hg : w.grownBy w' (some R)) : At6 W w' Z R H v0 v1 v2 v3 v4 v5 v6 v7 :=
  { h with hd := gb_keep hg h.hR h.hd, rs := gb_keep hg h.zR h.rs, be := h.be.grown hg h.be.size (fun k q => by cases q; exact h.r0) }
theorem At6.to {W w w' : World} {Z R H : Nat} {v0 v1 v2 v3 v4 v5 v6 v7 : Value} (h : At6 W w Z R H v0 v1 v2 v3 v4 v5 v6 v7) (hb : Below w.heap.size w w') : At6 W w' Z R H v0 v1 v2 v3 v4 v5 v6 v7 :=
  { h with hd := (hb.block _ (lt_of_block h.hd)).trans h.hd, rs := (hb.block _ (lt_of_block h.rs)).trans h.rs, be := h.be.trans (hb.mono h.be.size) }
theorem At6.row {W w w' : World} {Z R H B k s : Nat} {e : TypeId} {v : Value} {xs : List Value} {v0 v1 v2 v3 v4 v5 v6 v7 : Value} (h : At6 W w Z R H v0 v1 v2 v3 v4 v5 v6 v7) (ho : w.ownsRow B e s v k xs) (hB : W.heap.size ≤ B) (hne : e ≠ 27) (hg : w.grownBy w' v.ownBlock) : At6 W w' Z R H v0 v1 v2 v3 v4 v5 v6 v7 :=
  { h with hd := grown_kept ho hg h.hd hne, rs := grown_kept ho hg h.rs hne, be := h.be.grown hg h.be.size (fun k q => Nat.le_trans hB (ho.lt k q).1) }
theorem At6.set0 {W w : World} {Z R H : Nat} {v0 v1 v2 v3 v4 v5 v6 v7 : Value} (h : At6 W w Z R H v0 v1 v2 v3 v4 v5 v6 v7) (u : Value) : At6 W (w.setCell ⟨H, 0, none⟩ u) Z R H u v1 v2 v3 v4 v5 v6 v7 :=
  { h with hd := set_blk h.hd 0 u, rs := (Below.heap_setCell w ⟨H, 0, none⟩ u Z h.zH).trans h.rs, be := h.be.setCell (p := ⟨H, 0, none⟩) h.h0 u }
theorem At6.set1 {W w : World} {Z R H : Nat} {v0 v1 v2 v3 v4 v5 v6 v7 : Value} (h : At6 W w Z R H v0 v1 v2 v3 v4 v5 v6 v7) (u : Value) : At6 W (w.setCell ⟨H, 1, none⟩ u) Z R H v0 u v2 v3 v4 v5 v6 v7 :=
  { h with hd := set_blk h.hd 1 u, rs := (Below.heap_setCell w ⟨H, 1, none⟩ u Z h.zH).trans h.rs, be := h.be.setCell (p := ⟨H, 1, none⟩) h.h0 u }
theorem At6.set2 {W w : World} {Z R H : Nat} {v0 v1 v2 v3 v4 v5 v6 v7 : Value} (h : At6 W w Z R H v0 v1 v2 v3 v4 v5 v6 v7) (u : Value) : At6 W (w.setCell ⟨H, 2, none⟩ u) Z R H v0 v1 u v3 v4 v5 v6 v7 :=
  { h with hd := set_blk h.hd 2 u, rs := (Below.heap_setCell w ⟨H, 2, none⟩ u Z h.zH).trans h.rs, be := h.be.setCell (p := ⟨H, 2, none⟩) h.h0 u }
theorem At6.set3 {W w : World} {Z R H : Nat} {v0 v1 v2 v3 v4 v5 v6 v7 : Value} (h : At6 W w Z R H v0 v1 v2 v3 v4 v5 v6 v7) (u : Value) : At6 W (w.setCell ⟨H, 3, none⟩ u) Z R H v0 v1 v2 u v4 v5 v6 v7 :=
  { h with hd := set_blk h.hd 3 u, rs := (Below.heap_setCell w ⟨H, 3, none⟩ u Z h.zH).trans h.rs, be := h.be.setCell (p := ⟨H, 3, none⟩) h.h0 u }
theorem At6.set4 {W w : World} {Z R H : Nat} {v0 v1 v2 v3 v4 v5 v6 v7 : Value} (h : At6 W w Z R H v0 v1 v2 v3 v4 v5 v6 v7) (u : Value) : At6 W (w.setCell ⟨H, 4, none⟩ u) Z R H v0 v1 v2 v3 u v5 v6 v7 :=
  { h with hd := set_blk h.hd 4 u, rs := (Below.heap_setCell w ⟨H, 4, none⟩ u Z h.zH).trans h.rs, be := h.be.setCell (p := ⟨H, 4, none⟩) h.h0 u }
theorem At6.set5 {W w : World} {Z R H : Nat} {v0 v1 v2 v3 v4 v5 v6 v7 : Value} (h : At6 W w Z R H v0 v1 v2 v3 v4 v5 v6 v7) (u : Value) : At6 W (w.setCell ⟨H, 5, none⟩ u) Z R H v0 v1 v2 v3 v4 u v6 v7 :=
  { h with hd := set_blk h.hd 5 u, rs := (Below.heap_setCell w ⟨H, 5, none⟩ u Z h.zH).trans h.rs, be := h.be.setCell (p := ⟨H, 5, none⟩) h.h0 u }
theorem At6.set6 {W w : World} {Z R H : Nat} {v0 v1 v2 v3 v4 v5 v6 v7 : Value} (h : At6 W w Z R H v0 v1 v2 v3 v4 v5 v6 v7) (u : Value) : At6 W (w.setCell ⟨H, 6, none⟩ u) Z R H v0 v1 v2 v3 v4 v5 u v7 :=
  { h with hd := set_blk h.hd 6 u, rs := (Below.heap_setCell w ⟨H, 6, none⟩ u Z h.zH).trans h.rs, be := h.be.setCell (p := ⟨H, 6, none⟩) h.h0 u }
theorem At6.set7 {W w : World} {Z R H : Nat} {v0 v1 v2 v3 v4 v5 v6 v7 : Value} (h : At6 W w Z R H v0 v1 v2 v3 v4 v5 v6 v7) (u : Value) : At6 W (w.setCell ⟨H, 7, none⟩ u) Z R H v0 v1 v2 v3 v4 v5 v6 u :=
  { h with hd := set_blk h.hd 7 u, rs := (Below.heap_setCell w ⟨H, 7, none⟩ u Z h.zH).trans h.rs, be := h.be.setCell (p := ⟨H, 7, none⟩) h.h0 u }
theorem At6.past {W w : World} {Z R H : Nat} {v0 v1 v2 v3 v4 v5 v6 v7 : Value} (h : At6 W w Z R H v0 v1 v2 v3 v4 v5 v6 v7) (S k : Nat) (u : Value) (hH : S ≠ H) (hZ : S ≠ Z) (h0 : W.heap.size ≤ S) : At6 W (w.setCell ⟨S, k, none⟩ u) Z R H v0 v1 v2 v3 v4 v5 v6 v7 :=
  { h with hd := (Below.heap_setCell w ⟨S, k, none⟩ u H (Ne.symm hH)).trans h.hd, rs := (Below.heap_setCell w ⟨S, k, none⟩ u Z (Ne.symm hZ)).trans h.rs, be := h.be.setCell (p := ⟨S, k, none⟩) h0 u }
theorem Ref6.blk {w : World} {R B : Nat} {s : List UInt8 × Int} (h : Ref6 w R B s) : ∃ cs, w.heap[R]? = some (.cells cs 69 (0, 0)) := by
  obtain ⟨A, n, c, h1, _⟩ := h
  exact ⟨_, h1⟩
theorem Ref6.err {w : World} {R B : Nat} {s : List UInt8 × Int} (h : Ref6 w R B s) : w.cell? ⟨R, 1, none⟩ = some (.int .i64 s.2) := by
  obtain ⟨A, n, c, h1⟩ := h
  exact h1.cell1
theorem Ref6.to {w w' : World} {R B : Nat} {s : List UInt8 × Int} (h : Ref6 w R B s) (hb : Below w.heap.size w w') : Ref6 w' R B s := Ref.below h hb
theorem Ref6.row {w w' : World} {R B L k m : Nat} {s : List UInt8 × Int} {e : TypeId} {v : Value} {xs : List Value} (h : Ref6 w R B s) (ho : w.ownsRow L e m v k xs) (hB : B ≤ L) (hne : e ≠ 69) (hg : w.grownBy w' v.ownBlock) : Ref6 w' R B s := by
  obtain ⟨A, n, c, h1, h2, h3, h4, h5⟩ := h
  refine ⟨A, n, c, grown_kept ho hg h1 hne, h2, h3, h4.keep fun p hp => World.cell?_of_block (hg.block _ (by have := lt_of_block h1; omega) fun q => ?_), h5⟩
  have := (ho.lt _ q.symm).1
  omega
theorem tM_len (s : List UInt8 × Int) : (tM s).length ≤ 512 := by
  unfold tM rdTab
  split
  · simp
  · split
    · rename_i h; exact (unO_some.1 h).1.1
    · simp
theorem SvsAt.grown {w w' : World} {L : Nat} {vs : List Sv} {r : Option Nat} (h : SvsAt w L vs) (hg : w.grownBy w' r) (hr : ∀ R, r = some R → ∃ cs t, w.heap[R]? = some (.cells cs t (0, 0)) ∧ 3 ≠ t) : SvsAt w' L vs := fun p hp => (h p hp).grown hg hr
theorem SvsAt.gb {w w' : World} {L R : Nat} {vs : List Sv} {cs : Array Value} {t : TypeId} (h : SvsAt w L vs) (hg : w.grownBy w' (some R)) (hR : w.heap[R]? = some (.cells cs t (0, 0))) (hne : 3 ≠ t) : SvsAt w' L vs := fun p hp => (h p hp).gb hg hR hne
theorem SvsAt.to {w w' : World} {L : Nat} {vs : List Sv} (h : SvsAt w L vs) (hb : Below w.heap.size w w') : SvsAt w' L vs := fun p hp => (h p hp).to hb
theorem SvsAt.row {w w' : World} {L B k s : Nat} {vs : List Sv} {e : TypeId} {v : Value} {xs : List Value} (h : SvsAt w L vs) (ho : w.ownsRow B e s v k xs) (hne : 3 ≠ e) (hg : w.grownBy w' v.ownBlock) : SvsAt w' L vs := fun p hp => (h p hp).row ho hne hg
theorem SvsAt.sv {w : World} {L : Nat} {vs : List Sv} (h : SvsAt w L vs) : ∀ p ∈ vs, SvAt w p := fun p hp => ⟨(h p hp).1, (h p hp).2.1⟩
theorem put8_grown (w : World) (z : Nat) (v0 v1 v2 v3 v4 v5 v6 v7 : Value) : w.grownBy (put8 w z v0 v1 v2 v3 v4 v5 v6 v7) (some z) :=
  grownBy_trans (grownBy_trans (grownBy_trans (grownBy_trans (grownBy_trans (grownBy_trans (grownBy_trans (grown_set w z 0 v0) (grown_set _ z 1 v1)) (grown_set _ z 2 v2)) (grown_set _ z 3 v3)) (grown_set _ z 4 v4)) (grown_set _ z 5 v5)) (grown_set _ z 6 v6)) (grown_set _ z 7 v7)
theorem own_pastb {w : World} {B n s : Nat} {e : TypeId} {v : Value} {xs : List Value} (h : w.ownsRow B e s v n xs) (p : Addr) (u : Value) (hp : v.ownBlock ≠ some p.block) : (w.setCell p u).ownsRow B e s v n xs := by
  refine ⟨h.1, ?_⟩
  rcases h.2 with h | ⟨g, cap, cur, h1, h2, h3, h4⟩
  · exact .inl h
  · refine .inr ⟨g, cap, cur, h1, h2, ?_, h4⟩
    rw [heap_setCell_other w p g u (fun e => hp (by rw [h1, ← e]; rfl))]
    exact h3

set_option maxRecDepth 10000 in
set_option maxHeartbeats 16000000 in
theorem RUnpack6 (A : Option Addr) (n c : Nat) (b : List UInt8) (w : World) (hr : Rd w w.heap.size A n b) (hn : n ≤ c) (hc : c ≤ 9223372036854775807) :
    Calls Try.prog 22 #[.slice A n c] w (UnP6 w b) := by
  obtain ⟨s1, e1⟩ : ∃ s, s = hS (b, 0) 1 := ⟨_, rfl⟩
  obtain ⟨s2, e2⟩ : ∃ s, s = hS s1 1 := ⟨_, rfl⟩
  obtain ⟨s3, e3⟩ : ∃ s, s = hS s2 1 := ⟨_, rfl⟩
  obtain ⟨s4, e4⟩ : ∃ s, s = hS s3 1 := ⟨_, rfl⟩
  obtain ⟨s5, e5⟩ : ∃ s, s = hS s4 2 := ⟨_, rfl⟩
  obtain ⟨s6, e6⟩ : ∃ s, s = hS s5 6 := ⟨_, rfl⟩
  obtain ⟨s7', e7⟩ : ∃ s, s = tS s6 := ⟨_, rfl⟩
  obtain ⟨s8, e8⟩ : ∃ s, s = hS s7' 1 := ⟨_, rfl⟩
  obtain ⟨x0, f0⟩ : ∃ x, x = hN (b, 0) 1 := ⟨_, rfl⟩
  obtain ⟨x1, f1⟩ : ∃ x, x = hN s1 1 := ⟨_, rfl⟩
  obtain ⟨x2, f2⟩ : ∃ x, x = hN s2 1 := ⟨_, rfl⟩
  obtain ⟨x6, f6⟩ : ∃ x, x = hN s3 1 := ⟨_, rfl⟩
  obtain ⟨x3, f3⟩ : ∃ x, x = hN s4 2 := ⟨_, rfl⟩
  obtain ⟨x7, f7⟩ : ∃ x, x = hN s5 6 := ⟨_, rfl⟩
  obtain ⟨mp, f4⟩ : ∃ x, x = tM s6 := ⟨_, rfl⟩
  obtain ⟨N, f8⟩ := hN_nat s7' 1
  have Hhd : Hid (unHd b = ⟨x0, x1, x2, x3, mp, (unG b).1, x6, x7⟩) := by
    subst f0 f1 f2 f3 f4 f6 f7 e1 e2 e3 e4 e5 e6; rfl
  have H9 : Hid (unG b = goN N (if 4 < (N : Int) then fS s8 11 else s8) []) := by
    show _ = _
    unfold unG s9
    have h7 : s7 b = s7' := by subst e1 e2 e3 e4 e5 e6 e7; rfl
    rw [h7, f8, e8]; rfl
  have hC0 := Lib.hid (fun (R : Nat) (w1 : World) (h : Ref6 w1 R w.heap.size (b, 0)) => Num6 R w.heap.size (b, 0) 1 w1 h)
  have hC1 := Lib.hid (fun (R : Nat) (w1 : World) (h : Ref6 w1 R w.heap.size s1) => Num6 R w.heap.size s1 1 w1 h)
  have hC2 := Lib.hid (fun (R : Nat) (w1 : World) (h : Ref6 w1 R w.heap.size s2) => Num6 R w.heap.size s2 1 w1 h)
  have hC3 := Lib.hid (fun (R : Nat) (w1 : World) (h : Ref6 w1 R w.heap.size s3) => Num6 R w.heap.size s3 1 w1 h)
  have hC4 := Lib.hid (fun (R : Nat) (w1 : World) (h : Ref6 w1 R w.heap.size s4) => Num6 R w.heap.size s4 2 w1 h)
  have hC5 := Lib.hid (fun (R : Nat) (w1 : World) (h : Ref6 w1 R w.heap.size s5) => Num6 R w.heap.size s5 6 w1 h)
  have hC6 := Lib.hid (fun (R : Nat) (w1 : World) (h : Ref6 w1 R w.heap.size s6) => Tab6 R w.heap.size s6 w1 h)
  have hC7 := Lib.hid (fun (R : Nat) (w1 : World) (h : Ref6 w1 R w.heap.size s7') => Num6 R w.heap.size s7' 1 w1 h)
  rw [← e1, ← f0] at hC0
  rw [← e2, ← f1] at hC1
  rw [← e3, ← f2] at hC2
  rw [← e4, ← f6] at hC3
  rw [← e5, ← f3] at hC4
  rw [← e6, ← f7] at hC5
  rw [← e7, ← f4] at hC6
  rw [← e8, f8] at hC7
  have HE := Lib.hid (show unE b = if unE0 b ≠ 0 then unE0 b else if MayH (unHd b) then 0 else 60 from rfl)
  have HE0 := Lib.hid (show unE0 b = endE (unG b).2.2 (unG b).2.1.length from rfl)
  have Hmp0 : Hid (mp.length ≤ 512) := by rw [f4]; exact tM_len s6
  have Hr := Lib.hid hr
  clear hr e1 e2 e3 e4 e5 e6 e7 e8 f0 f1 f2 f3 f4 f6 f7 f8
  go_enter Try.func22, Try.ntmps22
  go_upto_region 3 with fail
  have HT := Lib.hid (three_blocks w (.cells #[.int .i64 0, .int .i64 0, .int .i64 0, .int .i64 0, .slice none 0 0, .slice none 0 0, .int .i64 0, .int .i64 0] 27) (.cells #[.slice A n c, .int .i64 0] 69) (.cells #[.int .i64 0, .int .i64 0, .int .i64 0, .int .i64 0, .slice none 0 0, .slice none 0 0, .int .i64 0, .int .i64 0] 27))
  generalize ((w.alloc (.cells #[.int .i64 0, .int .i64 0, .int .i64 0, .int .i64 0, .slice none 0 0, .slice none 0 0, .int .i64 0, .int .i64 0] 27)).alloc (.cells #[.slice A n c, .int .i64 0] 69)).alloc (.cells #[.int .i64 0, .int .i64 0, .int .i64 0, .int .i64 0, .slice none 0 0, .slice none 0 0, .int .i64 0, .int .i64 0] 27) = w0 at HT ⊢
  obtain ⟨H, hH⟩ : ∃ H, H = w.heap.size + 1 + 1 := ⟨_, rfl⟩
  obtain ⟨R, hR⟩ : ∃ R, R = w.heap.size + 1 := ⟨_, rfl⟩
  obtain ⟨Z, hZ⟩ : ∃ Z, Z = w.heap.size := ⟨_, rfl⟩
  have HA : Hid (At6 w w0 Z R H (.int .i64 0) (.int .i64 0) (.int .i64 0) (.int .i64 0) (.slice none 0 0) (.slice none 0 0) (.int .i64 0) (.int .i64 0)) :=
    ⟨by rw [hH]; exact HT.out.2.2.1, by rw [hZ]; exact HT.out.1, HT.out.2.2.2, by omega, by omega, by omega, by omega, by omega, by omega⟩
  have HR : Hid (Ref6 w0 R w.heap.size (b, 0)) := by
    refine ⟨A, n, c, by rw [hR]; exact HT.out.2.1, hn, hc, ?_, by omega⟩
    rw [show clr ((b, (0 : Int))).1 ((b, (0 : Int))).2 = b from clr_0 b]
    exact Hr.out.below HT.out.2.2.2
  rw [← hH, ← hR, ← hZ]
  clear hH hR hZ HT Hr
  go_wp2_with fail
  refine (hC0.out R _ HR.out).mono ?_
  rintro r wa ⟨rfl, hr, hg⟩
  have Ha := Lib.hid (HA.out.gb hg)
  have Hra := Lib.hid hr
  have k0 := (heads_of Ha.out.hd).1
  have y0 := free_blk Ha.out.hd 0
  clear HA HR hr hg
  go_upto_region 4 with fail
  have HA := Lib.hid (Ha.out.set0 (.int .i64 x0))
  have HR := Lib.hid (Hra.out.set ⟨H, 0, none⟩ Ha.out.h0 Ha.out.hR (.int .i64 x0))
  clear k0 y0 Ha Hra hC0
  generalize wa.setCell ⟨H, 0, none⟩ (.int .i64 x0) = w1 at HA HR ⊢
  go_wp2_with fail
  refine (hC1.out R _ HR.out).mono ?_
  rintro r wa ⟨rfl, hr, hg⟩
  have Ha := Lib.hid (HA.out.gb hg)
  have Hra := Lib.hid hr
  have k1 := (heads_of Ha.out.hd).2.1
  have y1 := free_blk Ha.out.hd 1
  clear HA HR hr hg
  go_upto_region 5 with fail
  have HA := Lib.hid (Ha.out.set1 (.int .i64 x1))
  have HR := Lib.hid (Hra.out.set ⟨H, 1, none⟩ Ha.out.h0 Ha.out.hR (.int .i64 x1))
  clear k1 y1 Ha Hra hC1
  generalize wa.setCell ⟨H, 1, none⟩ (.int .i64 x1) = w2 at HA HR ⊢
  go_wp2_with fail
  refine (hC2.out R _ HR.out).mono ?_
  rintro r wa ⟨rfl, hr, hg⟩
  have Ha := Lib.hid (HA.out.gb hg)
  have Hra := Lib.hid hr
  have k2 := (heads_of Ha.out.hd).2.2.1
  have y2 := free_blk Ha.out.hd 2
  clear HA HR hr hg
  go_upto_region 6 with fail
  have HA := Lib.hid (Ha.out.set2 (.int .i64 x2))
  have HR := Lib.hid (Hra.out.set ⟨H, 2, none⟩ Ha.out.h0 Ha.out.hR (.int .i64 x2))
  clear k2 y2 Ha Hra hC2
  generalize wa.setCell ⟨H, 2, none⟩ (.int .i64 x2) = w3 at HA HR ⊢
  go_wp2_with fail
  refine (hC3.out R _ HR.out).mono ?_
  rintro r wa ⟨rfl, hr, hg⟩
  have Ha := Lib.hid (HA.out.gb hg)
  have Hra := Lib.hid hr
  have k6 := (heads_of Ha.out.hd).2.2.2.2.2.2.1
  have y6 := free_blk Ha.out.hd 6
  clear HA HR hr hg
  go_upto_region 7 with fail
  have HA := Lib.hid (Ha.out.set6 (.int .i64 x6))
  have HR := Lib.hid (Hra.out.set ⟨H, 6, none⟩ Ha.out.h0 Ha.out.hR (.int .i64 x6))
  clear k6 y6 Ha Hra hC3
  generalize wa.setCell ⟨H, 6, none⟩ (.int .i64 x6) = w4 at HA HR ⊢
  go_wp2_with fail
  refine (hC4.out R _ HR.out).mono ?_
  rintro r wa ⟨rfl, hr, hg⟩
  have Ha := Lib.hid (HA.out.gb hg)
  have Hra := Lib.hid hr
  have k3 := (heads_of Ha.out.hd).2.2.2.1
  have y3 := free_blk Ha.out.hd 3
  clear HA HR hr hg
  go_upto_region 8 with fail
  have HA := Lib.hid (Ha.out.set3 (.int .i64 x3))
  have HR := Lib.hid (Hra.out.set ⟨H, 3, none⟩ Ha.out.h0 Ha.out.hR (.int .i64 x3))
  clear k3 y3 Ha Hra hC4
  generalize wa.setCell ⟨H, 3, none⟩ (.int .i64 x3) = w5 at HA HR ⊢
  go_wp2_with fail
  refine (hC5.out R _ HR.out).mono ?_
  rintro r wa ⟨rfl, hr, hg⟩
  have Ha := Lib.hid (HA.out.gb hg)
  have Hra := Lib.hid hr
  have k7 := (heads_of Ha.out.hd).2.2.2.2.2.2.2
  have y7 := free_blk Ha.out.hd 7
  clear HA HR hr hg
  go_upto_region 9 with fail
  have HA := Lib.hid (Ha.out.set7 (.int .i64 x7))
  have HR := Lib.hid (Hra.out.set ⟨H, 7, none⟩ Ha.out.h0 Ha.out.hR (.int .i64 x7))
  clear k7 y7 Ha Hra hC5
  generalize wa.setCell ⟨H, 7, none⟩ (.int .i64 x7) = w6 at HA HR ⊢
  have Hmp : Hid (mp.length ≤ 512) := Hmp0
  go_wp2_with fail
  refine (hC6.out R _ HR.out).mono ?_
  rintro r wa ⟨A4, n4, c4, rfl, hm, ⟨hn4, hnw⟩, hr, hg⟩
  have Ha := Lib.hid (HA.out.gb hg)
  have Hra := Lib.hid hr
  have Hma : Hid (MapAt wa w6.heap.size A4 n4 mp) := ⟨hm, hn4, hnw⟩
  have k4 := (heads_of Ha.out.hd).2.2.2.2.1
  have y4 := free_blk Ha.out.hd 4
  clear HA HR hr hg hm hn4 hnw
  go_upto_region 10 with fail
  have HA := Lib.hid (Ha.out.set4 (.slice A4 n4 c4))
  have HR := Lib.hid (Hra.out.set ⟨H, 4, none⟩ Ha.out.h0 Ha.out.hR (.slice A4 n4 c4))
  have HM := Lib.hid (Hma.out.gb (grown_set wa H 4 (.slice A4 n4 c4)) Ha.out.hd (by decide))
  clear k4 y4 Ha Hra hC6 Hma
  obtain ⟨L, hL⟩ : ∃ L, L = w6.heap.size := ⟨_, rfl⟩
  rw [← hL] at HM
  clear hL
  generalize wa.setCell ⟨H, 4, none⟩ (.slice A4 n4 c4) = w7 at HA HR HM ⊢
  go_wp2_with fail
  refine (hC7.out R _ HR.out).mono ?_
  rintro r w8 ⟨rfl, hr, hg⟩
  obtain ⟨csR, hcsR⟩ := HR.out.blk
  replace HA := Lib.hid (HA.out.gb hg)
  replace HM := Lib.hid (HM.out.gb hg hcsR (by decide))
  replace HR := Lib.hid hr
  clear hr hg hcsR hC7
  by_cases h4 : 4 < N
  · have h4' : (4 : Int) < (N : Int) := by omega
    rw [if_pos h4'] at H9
    obtain ⟨s, hs⟩ : ∃ s, s = fS s8 11 := ⟨_, rfl⟩
    have hse : s.2 ≠ 0 := by
      rw [hs]
      show failE s8.2 11 ≠ 0
      unfold failE
      split
      · decide
      · assumption
    have Hu : Hid (unG b = (([] : List Sv).map Sv.s, s)) := by
      show _ = _
      rw [H9.out, ← hs]
      obtain ⟨N', rfl⟩ : ∃ N', N = N' + 1 := ⟨N - 1, by omega⟩
      unfold goN
      rw [if_neg hse]; rfl
    have HF := Lib.hid (Fail6 R w.heap.size s8 11 w8 HR.out)
    rw [← hs] at HF
    obtain ⟨E1, hE1⟩ : ∃ E1, E1 = s.2 := ⟨_, rfl⟩
    have hE2 : (E1 == 0) = false := by rw [hE1]; simpa using hse
    have HE1' := Lib.hid hE1
    clear hs hse hE1
    go_wp2_with fail
    refine HF.out.mono ?_
    rintro r w9' ⟨rfl, hr, hg⟩
    obtain ⟨csR, hcsR⟩ := HR.out.blk
    replace HA := Lib.hid (HA.out.gb hg)
    replace HM := Lib.hid (HM.out.gb hg hcsR (by decide))
    replace HR := Lib.hid hr
    clear hr hg hcsR HF
    obtain ⟨vs, hvs⟩ : ∃ vs : List Sv, vs = [] := ⟨_, rfl⟩
    rw [← hvs] at Hu
    have HO : Hid (w9'.ownsRow w.heap.size 52 3 (.slice none 0 0) 0 (flatN vs)) := by rw [hvs]; exact World.ownsRow_nil _ _ _ _
    have HV : Hid (SvsAt w9' 0 vs) := by rw [hvs]; intro p hp; simp at hp
    have Hvl : Hid (vs.length = 0) := by rw [hvs]; rfl
    have Hsl : Hid (∀ p ∈ vs, p.s.map.length ≤ 512) := by rw [hvs]; intro p hp; simp at hp
    have k1 : w9'.cell? ⟨R, 1, none⟩ = some (.int .i64 E1) := by rw [HE1'.out]; exact HR.out.err
    clear hvs
    go_wp2_with fail
    go_loopw [7] (fun i wr => wr = w9' ∧ i = .int .i64 0) (fun _ _ => 0)
    case atStart => exact ⟨rfl, rfl⟩
    case round =>
      obtain ⟨rfl, rfl⟩ := hrel
      have h40 : (0 : Int) < (N : Int) := by omega
      go_upto_region 21 with fail
      clear k1
      go_wp2_with fail
      refine (End6 R w.heap.size s _ HR.out).mono ?_
      rintro r wb ⟨rfl, hg⟩
      obtain ⟨csR, hcsR⟩ := HR.out.blk
      replace HA := Lib.hid (HA.out.gb hg)
      replace HM := Lib.hid (HM.out.gb hg hcsR (by decide))
      replace HO := Lib.hid (own_gb HO.out hg hcsR (by decide))
      replace HV := Lib.hid (HV.out.gb hg hcsR (by decide))
      have HE1 := Lib.hid (show endE s.2 s.1.length = unE0 b by rw [HE0.out, Hu.out])
      rw [HE1.out]
      obtain ⟨E, hE⟩ : ∃ E, E = unE0 b := ⟨_, rfl⟩
      rw [← hE]
      have HE2 := Lib.hid hE
      clear hg hcsR HR hE HE1
      obtain ⟨z0, z1, z2, z3, z4, z5, z6, z7⟩ := heads_of HA.out.rs
      have y0 := free_blk HA.out.rs 0
      have y1 := free_blk HA.out.rs 1
      have y2 := free_blk HA.out.rs 2
      have y3 := free_blk HA.out.rs 3
      have y4 := free_blk HA.out.rs 4
      have y5 := free_blk HA.out.rs 5
      have y6 := free_blk HA.out.rs 6
      have y7 := free_blk HA.out.rs 7
      by_cases hE0 : E = 0
      · subst hE0
        have Hl4 := Lib.hid (show n4 ≤ 512 by rw [← HM.out.1.1]; exact Hmp.out)
        obtain ⟨c0, c1, c2, c3, c4', c5, c6, c7⟩ := heads_of HA.out.hd
        have hrn := RdN.own HO.out Hvl.out HV.out.sv
        have Hmm : Hid (∀ q ∈ vs.map Sv.s, q.map.length ≤ 100000) := by
          intro q hq
          obtain ⟨p, hp, rfl⟩ := List.mem_map.1 hq
          exact Nat.le_trans (Hsl.out p hp) (by decide)
        have HMy := Lib.hid (RMay6 x0 x1 x2 x3 A4 n4 c4 none 0 0 x6 x7 mp (vs.map Sv.s) wb HM.out.1 hrn (by have := Hl4.out; omega) (by omega) Hmm.out)
        have Hhd2 := Lib.hid (show unHd b = ⟨x0, x1, x2, x3, mp, vs.map Sv.s, x6, x7⟩ by rw [Hhd.out, Hu.out])
        rw [← Hhd2.out] at HMy
        have He2 := Lib.hid (show unE b = if MayH (unHd b) then 0 else 60 by rw [HE.out, ← HE2.out, if_neg (by simp)])
        clear hrn
        go_wp2_with fail
        refine HMy.out.mono ?_
        rintro r wd ⟨rfl, hb⟩
        replace HA := Lib.hid (HA.out.to hb)
        replace HM := Lib.hid (HM.out.to hb)
        replace HO := Lib.hid (own_to HO.out hb)
        replace HV := Lib.hid (HV.out.to hb)
        clear hb z0 z1 z2 z3 z4 z5 z6 z7 y0 y1 y2 y3 y4 y5 y6 y7 c0 c1 c2 c3 c4' c5 c6 c7 HMy
        obtain ⟨z0, z1, z2, z3, z4, z5, z6, z7⟩ := heads_of HA.out.rs
        obtain ⟨c0, c1, c2, c3, c4', c5, c6, c7⟩ := heads_of HA.out.hd
        have y0 := free_blk HA.out.rs 0
        have y1 := free_blk HA.out.rs 1
        have y2 := free_blk HA.out.rs 2
        have y3 := free_blk HA.out.rs 3
        have y4 := free_blk HA.out.rs 4
        have y5 := free_blk HA.out.rs 5
        have y6 := free_blk HA.out.rs 6
        have y7 := free_blk HA.out.rs 7
        by_cases hmay : MayH (unHd b)
        · have He := Lib.hid (show unE b = 0 by rw [He2.out, if_pos hmay])
          rw [decide_eq_true hmay]
          clear hmay
          have P8 := Lib.hid (put8_at HA.out.rs (.int .i64 x0) (.int .i64 x1) (.int .i64 x2) (.int .i64 x3) (.slice A4 n4 c4) (.slice none 0 0) (.int .i64 x6) (.int .i64 x7))
          have B8 := Lib.hid (put8_below HA.out.be HA.out.z0 (.int .i64 x0) (.int .i64 x1) (.int .i64 x2) (.int .i64 x3) (.slice A4 n4 c4) (.slice none 0 0) (.int .i64 x6) (.int .i64 x7))
          have G8 := Lib.hid (put8_grown wd Z (.int .i64 x0) (.int .i64 x1) (.int .i64 x2) (.int .i64 x3) (.slice A4 n4 c4) (.slice none 0 0) (.int .i64 x6) (.int .i64 x7))
          have hne : Z ≠ H := HA.out.zH
          go_wp2_with fail
          clear c0 c1 c2 c3 c4' c5 c6 c7 z0 z1 z2 z3 z4 z5 z6 z7 y0 y1 y2 y3 y4 y5 y6 y7
          change bodyPost _ _ _ _ _ (put8 wd Z (.int .i64 x0) (.int .i64 x1) (.int .i64 x2) (.int .i64 x3) (.slice A4 n4 c4) (.slice none 0 0) (.int .i64 x6) (.int .i64 x7))
          generalize put8 wd Z (.int .i64 x0) (.int .i64 x1) (.int .i64 x2) (.int .i64 x3) (.slice A4 n4 c4) (.slice none 0 0) (.int .i64 x6) (.int .i64 x7) = w9 at P8 B8 G8 ⊢
          replace HM := Lib.hid (HM.out.gb G8.out HA.out.rs (by decide))
          replace HO := Lib.hid (own_gb HO.out G8.out HA.out.rs (by decide))
          replace HV := Lib.hid (HV.out.gb G8.out HA.out.rs (by decide))
          obtain ⟨z0, z1, z2, z3, z4, z5, z6, z7⟩ := heads_of P8.out
          exact bodyPost_ret (v := .tuple #[hV x0 x1 x2 x3 A4 n4 c4 none 0 0 x6 x7, .int .i64 0]) (by simp [results, Try.results22, go_sem, z0, z1, z2, z3, z4, z5, z6, z7]) rfl ⟨_, by rw [He.out], fun h => absurd He.out h, fun _ => ⟨A4, n4, c4, none, 0, 0, by rw [Hhd2.out], by rw [Hhd2.out]; exact HM.out.1, HM.out.2.1, by rw [Hhd2.out]; exact RdN.own HO.out Hvl.out HV.out.sv⟩, B8.out⟩
        · have He := Lib.hid (show unE b = 60 by rw [He2.out, if_neg hmay])
          rw [decide_eq_false hmay]
          clear hmay
          have P8 := Lib.hid (put8_at HA.out.rs (.int .i64 0) (.int .i64 0) (.int .i64 0) (.int .i64 0) (.slice none 0 0) (.slice none 0 0) (.int .i64 0) (.int .i64 0))
          have B8 := Lib.hid (put8_below HA.out.be HA.out.z0 (.int .i64 0) (.int .i64 0) (.int .i64 0) (.int .i64 0) (.slice none 0 0) (.slice none 0 0) (.int .i64 0) (.int .i64 0))
          go_wp2_with fail
          clear c0 c1 c2 c3 c4' c5 c6 c7 z0 z1 z2 z3 z4 z5 z6 z7 y0 y1 y2 y3 y4 y5 y6 y7
          change bodyPost _ _ _ _ _ (put8 wd Z (.int .i64 0) (.int .i64 0) (.int .i64 0) (.int .i64 0) (.slice none 0 0) (.slice none 0 0) (.int .i64 0) (.int .i64 0))
          generalize put8 wd Z (.int .i64 0) (.int .i64 0) (.int .i64 0) (.int .i64 0) (.slice none 0 0) (.slice none 0 0) (.int .i64 0) (.int .i64 0) = w9 at P8 B8 ⊢
          obtain ⟨z0, z1, z2, z3, z4, z5, z6, z7⟩ := heads_of P8.out
          exact bodyPost_ret (v := .tuple #[hV0, .int .i64 60]) (by simp [results, Try.results22, go_sem, z0, z1, z2, z3, z4, z5, z6, z7]) rfl ⟨hV0, by rw [He.out], fun _ => rfl, fun h => absurd (He.out.symm.trans h) (by decide), B8.out⟩
      · have He := Lib.hid (show unE b = E by rw [HE.out, ← HE2.out, if_pos hE0])
        have hbe : (E != 0) = true := by simpa using hE0
        have HE3 := Lib.hid hE0
        clear hE0
        have P8 := Lib.hid (put8_at HA.out.rs (.int .i64 0) (.int .i64 0) (.int .i64 0) (.int .i64 0) (.slice none 0 0) (.slice none 0 0) (.int .i64 0) (.int .i64 0))
        have B8 := Lib.hid (put8_below HA.out.be HA.out.z0 (.int .i64 0) (.int .i64 0) (.int .i64 0) (.int .i64 0) (.slice none 0 0) (.slice none 0 0) (.int .i64 0) (.int .i64 0))
        go_wp2_with fail
        clear z0 z1 z2 z3 z4 z5 z6 z7 y0 y1 y2 y3 y4 y5 y6 y7
        change bodyPost _ _ _ _ _ (put8 wb Z (.int .i64 0) (.int .i64 0) (.int .i64 0) (.int .i64 0) (.slice none 0 0) (.slice none 0 0) (.int .i64 0) (.int .i64 0))
        generalize put8 wb Z (.int .i64 0) (.int .i64 0) (.int .i64 0) (.int .i64 0) (.slice none 0 0) (.slice none 0 0) (.int .i64 0) (.int .i64 0) = w9 at P8 B8 ⊢
        obtain ⟨z0, z1, z2, z3, z4, z5, z6, z7⟩ := heads_of P8.out
        exact bodyPost_ret (v := .tuple #[hV0, .int .i64 E]) (by simp [results, Try.results22, go_sem, z0, z1, z2, z3, z4, z5, z6, z7]) rfl ⟨hV0, by rw [He.out], fun _ => rfl, fun h => absurd (He.out.symm.trans h) HE3.out, B8.out⟩
  · have h4' : ¬ (4 : Int) < (N : Int) := by omega
    have hN4 : N ≤ 4 := by omega
    rw [if_neg h4'] at H9
    have HO : Hid (w8.ownsRow w.heap.size 52 3 (.slice none 0 0) 0 (flatN [])) := World.ownsRow_nil _ _ _ _
    have HV : Hid (SvsAt w8 0 []) := by intro p hp; simp at hp
    go_wp2_with fail
    go_loopw [7, 8] (fun i _ wr => ∃ (k : Nat) (s : List UInt8 × Int) (vs : List Sv) (As : Option Addr) (cs : Nat), k ≤ N ∧ i = .int .i64 (k : Int) ∧ Hid (vs.length = k) ∧ Hid (goN (N - k) s (vs.map Sv.s) = unG b) ∧ Hid (Ref6 wr R w.heap.size s) ∧ Hid (At6 w wr Z R H (.int .i64 x0) (.int .i64 x1) (.int .i64 x2) (.int .i64 x3) (.slice A4 n4 c4) (.slice As k cs) (.int .i64 x6) (.int .i64 x7)) ∧ Hid (MapAt wr L A4 n4 mp) ∧ Hid (wr.ownsRow w.heap.size 52 3 (.slice As k cs) k (flatN vs)) ∧ Hid (SvsAt wr 0 vs) ∧ Hid (∀ p ∈ vs, p.s.map.length ≤ 512)) (fun i _ _ => N - (intOf i).toNat)
    case atStart => exact ⟨0, s8, [], none, 0, Nat.zero_le _, rfl, rfl, by rw [Nat.sub_zero]; exact Lib.hid H9.out.symm, HR, HA, HM, HO, HV, by intro p hp; simp at hp⟩
    case round =>
      clear HA HR HM HO HV
      obtain ⟨k, s, vs, As, cs, hk, rfl, Hvl, Hgo, HR, HA, HM, HO, HV, Hsl⟩ := hrel
      have k1 := HR.out.err
      obtain ⟨E1, hE1⟩ : ∃ E1, E1 = s.2 := ⟨_, rfl⟩
      rw [← hE1] at k1
      have HE1' := Lib.hid hE1
      clear hE1
      by_cases hgo : k < N ∧ E1 = 0
      · obtain ⟨hkN, hE⟩ := hgo
        have hkN' : (k : Int) < (N : Int) := by omega
        subst hE
        obtain ⟨t1, d1⟩ : ∃ t, t = hS s 1 := ⟨_, rfl⟩
        obtain ⟨t2, d2⟩ : ∃ t, t = hS t1 2 := ⟨_, rfl⟩
        obtain ⟨t3, d3⟩ : ∃ t, t = tS t2 := ⟨_, rfl⟩
        obtain ⟨y0, d4⟩ : ∃ y, y = hN s 1 := ⟨_, rfl⟩
        obtain ⟨y1, d5⟩ : ∃ y, y = hN t1 2 := ⟨_, rfl⟩
        obtain ⟨ym, d6⟩ : ∃ y, y = tM t2 := ⟨_, rfl⟩
        have Hgo2 : Hid (goN (N - (k + 1)) t3 (vs.map Sv.s ++ [⟨y0, y1, ym⟩]) = unG b) := by
          have h := Hgo.out
          rw [show N - k = (N - (k + 1)) + 1 by omega] at h
          unfold goN at h
          rw [if_pos HE1'.out.symm] at h
          subst d1 d2 d3 d4 d5 d6
          exact h
        have Hym : Hid (ym.length ≤ 512) := by rw [d6]; exact tM_len t2
        have hD0 := Lib.hid (fun (w1 : World) (h : Ref6 w1 R w.heap.size s) => Num6 R w.heap.size s 1 w1 h)
        have hD1 := Lib.hid (fun (w1 : World) (h : Ref6 w1 R w.heap.size t1) => Num6 R w.heap.size t1 2 w1 h)
        have hD2 := Lib.hid (fun (w1 : World) (h : Ref6 w1 R w.heap.size t2) => Tab6 R w.heap.size t2 w1 h)
        rw [← d1, ← d4] at hD0
        rw [← d2, ← d5] at hD1
        rw [← d3, ← d6] at hD2
        clear d1 d2 d3 d4 d5 d6 Hgo HE1'
        go_upto_region 17 with fail
        obtain ⟨S, hS'⟩ : ∃ S, S = wr.heap.size := ⟨_, rfl⟩
        have hb0 := (Below.refl wr.heap.size wr).alloc (Nat.le_refl _) (.cells #[.int .i64 0, .int .i64 0, .slice none 0 0] 52)
        have HS : Hid ((wr.alloc (.cells #[.int .i64 0, .int .i64 0, .slice none 0 0] 52)).heap[S]? = some (.cells #[.int .i64 0, .int .i64 0, .slice none 0 0] 52 (0, 0))) := by rw [hS']; exact heap_alloc_new wr _
        have HnS : Hid ((Value.slice As k cs).ownBlock ≠ some S) := fun q => by have := (HO.out.lt S q).2; omega
        have HSR : Hid (S ≠ R ∧ S ≠ H ∧ S ≠ Z ∧ w.heap.size ≤ S) := by
          have h1 := lt_of_block HR.out.blk.choose_spec
          have h2 := lt_of_block HA.out.hd
          have h3 := lt_of_block HA.out.rs
          have h4 := HA.out.be.size
          refine ⟨?_, ?_, ?_, ?_⟩ <;> omega
        replace HA := Lib.hid (HA.out.to hb0)
        replace HR := Lib.hid (HR.out.to hb0)
        replace HM := Lib.hid (HM.out.to hb0)
        replace HO := Lib.hid (own_to HO.out hb0)
        replace HV := Lib.hid (HV.out.to hb0)
        rw [← hS']
        clear hb0 k1 hS'
        generalize wr.alloc (.cells #[.int .i64 0, .int .i64 0, .slice none 0 0] 52) = wa1 at HA HR HM HO HV HS ⊢
        go_wp2_with fail
        refine (hD0.out _ HR.out).mono ?_
        rintro r wb0 ⟨rfl, hr, hg⟩
        obtain ⟨csR, hcsR⟩ := HR.out.blk
        replace HA := Lib.hid (HA.out.gb hg)
        replace HM := Lib.hid (HM.out.gb hg hcsR (by decide))
        replace HO := Lib.hid (own_gb HO.out hg hcsR (by decide))
        replace HV := Lib.hid (HV.out.gb hg hcsR (by decide))
        replace HS := Lib.hid (gb_keep hg HSR.out.1 HS.out)
        replace HR := Lib.hid hr
        have k0 : wb0.cell? ⟨S, 0, none⟩ = some (.int .i64 0) := by rw [cell_blk HS.out]; rfl
        have fz0 := free_blk HS.out 0
        clear hr hg hcsR hD0
        go_upto_region 18 with fail
        replace HR := Lib.hid (HR.out.set ⟨S, 0, none⟩ HSR.out.2.2.2 HSR.out.1 (.int .i64 y0))
        replace HM := Lib.hid (HM.out.gb (grown_set wb0 S 0 (.int .i64 y0)) HS.out (by decide))
        replace HV := Lib.hid (HV.out.gb (grown_set wb0 S 0 (.int .i64 y0)) HS.out (by decide))
        replace HO := Lib.hid (own_pastb HO.out ⟨S, 0, none⟩ (.int .i64 y0) HnS.out)
        replace HA := Lib.hid (HA.out.past S 0 (.int .i64 y0) HSR.out.2.1 HSR.out.2.2.1 HSR.out.2.2.2)
        replace HS := Lib.hid (show (wb0.setCell ⟨S, 0, none⟩ (.int .i64 y0)).heap[S]? = some (.cells #[.int .i64 y0, .int .i64 0, .slice none 0 0] 52 (0, 0)) from set_blk HS.out 0 _)
        clear k0 fz0
        generalize wb0.setCell ⟨S, 0, none⟩ (.int .i64 y0) = wa2 at HA HR HM HO HV HS ⊢
        go_wp2_with fail
        refine (hD1.out _ HR.out).mono ?_
        rintro r wb1 ⟨rfl, hr, hg⟩
        obtain ⟨csR, hcsR⟩ := HR.out.blk
        replace HA := Lib.hid (HA.out.gb hg)
        replace HM := Lib.hid (HM.out.gb hg hcsR (by decide))
        replace HO := Lib.hid (own_gb HO.out hg hcsR (by decide))
        replace HV := Lib.hid (HV.out.gb hg hcsR (by decide))
        replace HS := Lib.hid (gb_keep hg HSR.out.1 HS.out)
        replace HR := Lib.hid hr
        have k1 : wb1.cell? ⟨S, 1, none⟩ = some (.int .i64 0) := by rw [cell_blk HS.out]; rfl
        have fz1 := free_blk HS.out 1
        clear hr hg hcsR hD1
        go_upto_region 19 with fail
        replace HR := Lib.hid (HR.out.set ⟨S, 1, none⟩ HSR.out.2.2.2 HSR.out.1 (.int .i64 y1))
        replace HM := Lib.hid (HM.out.gb (grown_set wb1 S 1 (.int .i64 y1)) HS.out (by decide))
        replace HV := Lib.hid (HV.out.gb (grown_set wb1 S 1 (.int .i64 y1)) HS.out (by decide))
        replace HO := Lib.hid (own_pastb HO.out ⟨S, 1, none⟩ (.int .i64 y1) HnS.out)
        replace HA := Lib.hid (HA.out.past S 1 (.int .i64 y1) HSR.out.2.1 HSR.out.2.2.1 HSR.out.2.2.2)
        replace HS := Lib.hid (show (wb1.setCell ⟨S, 1, none⟩ (.int .i64 y1)).heap[S]? = some (.cells #[.int .i64 y0, .int .i64 y1, .slice none 0 0] 52 (0, 0)) from set_blk HS.out 1 _)
        clear k1 fz1
        generalize wb1.setCell ⟨S, 1, none⟩ (.int .i64 y1) = wa3 at HA HR HM HO HV HS ⊢
        go_wp2_with fail
        refine (hD2.out _ HR.out).mono ?_
        rintro r wb2 ⟨A6, n6, c6, rfl, hm, ⟨hn6, hnw⟩, hr, hg⟩
        obtain ⟨csR, hcsR⟩ := HR.out.blk
        replace HA := Lib.hid (HA.out.gb hg)
        replace HM := Lib.hid (HM.out.gb hg hcsR (by decide))
        replace HO := Lib.hid (own_gb HO.out hg hcsR (by decide))
        replace HV := Lib.hid (HV.out.gb hg hcsR (by decide))
        replace HS := Lib.hid (gb_keep hg HSR.out.1 HS.out)
        replace HR := Lib.hid hr
        have HM6 : Hid (MapAt wb2 wa3.heap.size A6 n6 ym) := ⟨hm, hn6, hnw⟩
        clear hm hn6 hnw
        have k2 : wb2.cell? ⟨S, 2, none⟩ = some (.slice none 0 0) := by rw [cell_blk HS.out]; rfl
        have fz2 := free_blk HS.out 2
        clear hr hg hcsR hD2
        go_upto_region 20 with fail
        replace HM6 := Lib.hid (HM6.out.gb (grown_set wb2 S 2 (.slice A6 n6 c6)) HS.out (by decide))
        replace HR := Lib.hid (HR.out.set ⟨S, 2, none⟩ HSR.out.2.2.2 HSR.out.1 (.slice A6 n6 c6))
        replace HM := Lib.hid (HM.out.gb (grown_set wb2 S 2 (.slice A6 n6 c6)) HS.out (by decide))
        replace HV := Lib.hid (HV.out.gb (grown_set wb2 S 2 (.slice A6 n6 c6)) HS.out (by decide))
        replace HO := Lib.hid (own_pastb HO.out ⟨S, 2, none⟩ (.slice A6 n6 c6) HnS.out)
        replace HA := Lib.hid (HA.out.past S 2 (.slice A6 n6 c6) HSR.out.2.1 HSR.out.2.2.1 HSR.out.2.2.2)
        replace HS := Lib.hid (show (wb2.setCell ⟨S, 2, none⟩ (.slice A6 n6 c6)).heap[S]? = some (.cells #[.int .i64 y0, .int .i64 y1, .slice A6 n6 c6] 52 (0, 0)) from set_blk HS.out 2 _)
        clear k2 fz2
        generalize wb2.setCell ⟨S, 2, none⟩ (.slice A6 n6 c6) = wa4 at HA HR HM HO HV HS HM6 ⊢
        obtain ⟨inf, hi, hz0, hz1, hz2⟩ := info_parts Try.infoN
        have q5 := (heads_of HA.out.hd).2.2.2.2.2.1
        have f5 := free_blk HA.out.hd 5
        have b0 : wa4.cell? ⟨S, 0, none⟩ = some (.int .i64 y0) := by rw [cell_blk HS.out]; rfl
        have b1 : wa4.cell? ⟨S, 1, none⟩ = some (.int .i64 y1) := by rw [cell_blk HS.out]; rfl
        have b2 : wa4.cell? ⟨S, 2, none⟩ = some (.slice A6 n6 c6) := by rw [cell_blk HS.out]; rfl
        have hws : w.heap.size ≤ wa4.heap.size := HA.out.be.size
        have hk4 : k ≤ 4 := by omega
        have hbx := Lib.hid ((Below.refl wa4.heap.size wa4).alloc (Nat.le_refl _) (.cells #[.int .i64 y0, .int .i64 y1, .slice A6 n6 c6] 52))
        have HOx := Lib.hid (own_to HO.out hbx.out)
        have HAx := Lib.hid (HA.out.to hbx.out)
        have HRx := Lib.hid (HR.out.to hbx.out)
        have HMx := Lib.hid (HM.out.to hbx.out)
        have HM6x := Lib.hid (HM6.out.to hbx.out)
        have HVx := Lib.hid (HV.out.to hbx.out)
        clear HA HR HM HM6 HV hbx
        go_wp2_with (at_builtin; refine wpList_append_own _ rfl (.tmp 66) (.tmp 68) 25 rfl w.heap.size 52 inf (.agg #[.int .i64 0, .int .i64 0, .slice none 0 0]) 3 40 Try.underlying25 hi hz0 hz1 hz2 rfl (by decide) _ k (flatN vs) rfl (HO.out.alloc _) ⟨wa4.heap.size, 0, none⟩ 1 1 [.int .i64 y0, .int .i64 y1, .slice A6 n6 c6] rfl rfl (three_at _ _ _ _ _ _ rfl) (three_one _ _ _ _ _) (by simp only [maxLen]; omega) (by omega) (by simp; omega) ?_; intro v5 w5 hown5 hg5 _; obtain ⟨A5, c5', rfl, _, _⟩ := ownF hown5; have HA5 := Lib.hid (HAx.out.row HOx.out (Nat.le_refl _) (by decide) hg5); have HR5 := Lib.hid (HRx.out.row HOx.out (Nat.le_refl _) (by decide) hg5); have HM5 := Lib.hid (HMx.out.row HOx.out (by decide) hg5); have HM65 := Lib.hid (HM6x.out.row HOx.out (by decide) hg5); have HV5 := Lib.hid (HVx.out.row HOx.out (by decide) hg5); have HO5 := Lib.hid hown5; have q5' := (heads_of HA5.out.hd).2.2.2.2.2.1; have f5' := free_blk HA5.out.hd 5; clear hown5 hg5 HAx HRx HMx HM6x HVx HOx)
        go_roundw
        case rel =>
          have G := grown_set w5 H 5 (.slice A5 (k + 1) c5')
          refine ⟨k + 1, t3, vs ++ [⟨⟨y0, y1, ym⟩, A6, n6, c6⟩], A5, c5', by omega, by go_num, Lib.hid (by simp [Hvl.out]), ?_, HR5.out.set ⟨H, 5, none⟩ HA5.out.h0 HA5.out.hR _, HA5.out.set5 _, HM5.out.gb G HA5.out.hd (by decide), ?_, ?_, ?_⟩
          · show goN _ _ _ = _
            rw [List.map_append]
            exact Hgo2.out
          · have h := own_setb HO5.out HA5.out.hd (by decide) 5 (.slice A5 (k + 1) c5')
            rw [show flatN vs ++ [.int .i64 y0, .int .i64 y1, .slice A6 n6 c6] = flatN (vs ++ [⟨⟨y0, y1, ym⟩, A6, n6, c6⟩]) from by rw [flatN_app]; rfl] at h
            exact h
          · intro p hp
            rcases List.mem_append.1 hp with hp | hp
            · exact (HV5.out p hp).gb G HA5.out.hd (by decide)
            · simp at hp
              subst hp
              have h := HM65.out.gb G HA5.out.hd (by decide)
              exact ⟨h.1, h.2.1, h.2.2.less (Nat.zero_le _)⟩
          · intro p hp
            rcases List.mem_append.1 hp with hp | hp
            · exact Hsl.out p hp
            · simp at hp
              subst hp
              exact Hym.out
        case measure => simp [intOf]; omega
      · have Hu : Hid (unG b = (vs.map Sv.s, s)) := by
          have h := Hgo.out
          show _ = _
          rw [← h]
          by_cases hkN : k < N
          · rw [show N - k = (N - (k + 1)) + 1 by omega]
            unfold goN
            rw [if_neg (fun q => hgo ⟨hkN, by rw [HE1'.out]; exact q⟩)]
          · rw [show N - k = 0 by omega]
            rfl
        have Hng := Lib.hid hgo
        clear hgo Hgo
        go_upto_region 14 with fail
        go_cut [53] (fun s53 wx => s53 = .bool false ∧ wx = wr)
        case first =>
          by_cases hkN : k < N
          · have hkN' : (k : Int) < (N : Int) := by omega
            have hE2 : (E1 == 0) = false := by simpa using fun q => Hng.out ⟨hkN, q⟩
            go_wp2_with fail
            go_meet
            exact ⟨rfl, rfl⟩
          · have hkN' : ¬ (k : Int) < (N : Int) := by omega
            go_wp2_with fail
            go_meet
            exact ⟨rfl, rfl⟩
        case rest =>
          obtain ⟨rfl, rfl⟩ := hcut
          clear k1 HE1' Hng
          have hk4 : k ≤ 4 := by omega
          go_upto_region 21 with fail
          go_wp2_with fail
          refine (End6 R w.heap.size s _ HR.out).mono ?_
          rintro r wb ⟨rfl, hg⟩
          obtain ⟨csR, hcsR⟩ := HR.out.blk
          replace HA := Lib.hid (HA.out.gb hg)
          replace HM := Lib.hid (HM.out.gb hg hcsR (by decide))
          replace HO := Lib.hid (own_gb HO.out hg hcsR (by decide))
          replace HV := Lib.hid (HV.out.gb hg hcsR (by decide))
          have HE1 := Lib.hid (show endE s.2 s.1.length = unE0 b by rw [HE0.out, Hu.out])
          rw [HE1.out]
          obtain ⟨E, hE⟩ : ∃ E, E = unE0 b := ⟨_, rfl⟩
          rw [← hE]
          have HE2 := Lib.hid hE
          clear hg hcsR HR hE HE1
          obtain ⟨z0, z1, z2, z3, z4, z5, z6, z7⟩ := heads_of HA.out.rs
          have y0 := free_blk HA.out.rs 0
          have y1 := free_blk HA.out.rs 1
          have y2 := free_blk HA.out.rs 2
          have y3 := free_blk HA.out.rs 3
          have y4 := free_blk HA.out.rs 4
          have y5 := free_blk HA.out.rs 5
          have y6 := free_blk HA.out.rs 6
          have y7 := free_blk HA.out.rs 7
          by_cases hE0 : E = 0
          · subst hE0
            have Hl4 := Lib.hid (show n4 ≤ 512 by rw [← HM.out.1.1]; exact Hmp.out)
            obtain ⟨c0, c1, c2, c3, c4', c5, c6, c7⟩ := heads_of HA.out.hd
            have hrn := RdN.own HO.out Hvl.out HV.out.sv
            have Hmm : Hid (∀ q ∈ vs.map Sv.s, q.map.length ≤ 100000) := by
              intro q hq
              obtain ⟨p, hp, rfl⟩ := List.mem_map.1 hq
              exact Nat.le_trans (Hsl.out p hp) (by decide)
            have HMy := Lib.hid (RMay6 x0 x1 x2 x3 A4 n4 c4 As k cs x6 x7 mp (vs.map Sv.s) wb HM.out.1 hrn (by have := Hl4.out; omega) (by omega) Hmm.out)
            have Hhd2 := Lib.hid (show unHd b = ⟨x0, x1, x2, x3, mp, vs.map Sv.s, x6, x7⟩ by rw [Hhd.out, Hu.out])
            rw [← Hhd2.out] at HMy
            have He2 := Lib.hid (show unE b = if MayH (unHd b) then 0 else 60 by rw [HE.out, ← HE2.out, if_neg (by simp)])
            clear hrn
            go_wp2_with fail
            refine HMy.out.mono ?_
            rintro r wd ⟨rfl, hb⟩
            replace HA := Lib.hid (HA.out.to hb)
            replace HM := Lib.hid (HM.out.to hb)
            replace HO := Lib.hid (own_to HO.out hb)
            replace HV := Lib.hid (HV.out.to hb)
            clear hb z0 z1 z2 z3 z4 z5 z6 z7 y0 y1 y2 y3 y4 y5 y6 y7 c0 c1 c2 c3 c4' c5 c6 c7 HMy
            obtain ⟨z0, z1, z2, z3, z4, z5, z6, z7⟩ := heads_of HA.out.rs
            obtain ⟨c0, c1, c2, c3, c4', c5, c6, c7⟩ := heads_of HA.out.hd
            have y0 := free_blk HA.out.rs 0
            have y1 := free_blk HA.out.rs 1
            have y2 := free_blk HA.out.rs 2
            have y3 := free_blk HA.out.rs 3
            have y4 := free_blk HA.out.rs 4
            have y5 := free_blk HA.out.rs 5
            have y6 := free_blk HA.out.rs 6
            have y7 := free_blk HA.out.rs 7
            by_cases hmay : MayH (unHd b)
            · have He := Lib.hid (show unE b = 0 by rw [He2.out, if_pos hmay])
              rw [decide_eq_true hmay]
              clear hmay
              have P8 := Lib.hid (put8_at HA.out.rs (.int .i64 x0) (.int .i64 x1) (.int .i64 x2) (.int .i64 x3) (.slice A4 n4 c4) (.slice As k cs) (.int .i64 x6) (.int .i64 x7))
              have B8 := Lib.hid (put8_below HA.out.be HA.out.z0 (.int .i64 x0) (.int .i64 x1) (.int .i64 x2) (.int .i64 x3) (.slice A4 n4 c4) (.slice As k cs) (.int .i64 x6) (.int .i64 x7))
              have G8 := Lib.hid (put8_grown wd Z (.int .i64 x0) (.int .i64 x1) (.int .i64 x2) (.int .i64 x3) (.slice A4 n4 c4) (.slice As k cs) (.int .i64 x6) (.int .i64 x7))
              have hne : Z ≠ H := HA.out.zH
              go_wp2_with fail
              clear c0 c1 c2 c3 c4' c5 c6 c7 z0 z1 z2 z3 z4 z5 z6 z7 y0 y1 y2 y3 y4 y5 y6 y7
              change bodyPost _ _ _ _ _ (put8 wd Z (.int .i64 x0) (.int .i64 x1) (.int .i64 x2) (.int .i64 x3) (.slice A4 n4 c4) (.slice As k cs) (.int .i64 x6) (.int .i64 x7))
              generalize put8 wd Z (.int .i64 x0) (.int .i64 x1) (.int .i64 x2) (.int .i64 x3) (.slice A4 n4 c4) (.slice As k cs) (.int .i64 x6) (.int .i64 x7) = w9 at P8 B8 G8 ⊢
              replace HM := Lib.hid (HM.out.gb G8.out HA.out.rs (by decide))
              replace HO := Lib.hid (own_gb HO.out G8.out HA.out.rs (by decide))
              replace HV := Lib.hid (HV.out.gb G8.out HA.out.rs (by decide))
              obtain ⟨z0, z1, z2, z3, z4, z5, z6, z7⟩ := heads_of P8.out
              exact bodyPost_ret (v := .tuple #[hV x0 x1 x2 x3 A4 n4 c4 As k cs x6 x7, .int .i64 0]) (by simp [results, Try.results22, go_sem, z0, z1, z2, z3, z4, z5, z6, z7]) rfl ⟨_, by rw [He.out], fun h => absurd He.out h, fun _ => ⟨A4, n4, c4, As, k, cs, by rw [Hhd2.out], by rw [Hhd2.out]; exact HM.out.1, HM.out.2.1, by rw [Hhd2.out]; exact RdN.own HO.out Hvl.out HV.out.sv⟩, B8.out⟩
            · have He := Lib.hid (show unE b = 60 by rw [He2.out, if_neg hmay])
              rw [decide_eq_false hmay]
              clear hmay
              have P8 := Lib.hid (put8_at HA.out.rs (.int .i64 0) (.int .i64 0) (.int .i64 0) (.int .i64 0) (.slice none 0 0) (.slice none 0 0) (.int .i64 0) (.int .i64 0))
              have B8 := Lib.hid (put8_below HA.out.be HA.out.z0 (.int .i64 0) (.int .i64 0) (.int .i64 0) (.int .i64 0) (.slice none 0 0) (.slice none 0 0) (.int .i64 0) (.int .i64 0))
              go_wp2_with fail
              clear c0 c1 c2 c3 c4' c5 c6 c7 z0 z1 z2 z3 z4 z5 z6 z7 y0 y1 y2 y3 y4 y5 y6 y7
              change bodyPost _ _ _ _ _ (put8 wd Z (.int .i64 0) (.int .i64 0) (.int .i64 0) (.int .i64 0) (.slice none 0 0) (.slice none 0 0) (.int .i64 0) (.int .i64 0))
              generalize put8 wd Z (.int .i64 0) (.int .i64 0) (.int .i64 0) (.int .i64 0) (.slice none 0 0) (.slice none 0 0) (.int .i64 0) (.int .i64 0) = w9 at P8 B8 ⊢
              obtain ⟨z0, z1, z2, z3, z4, z5, z6, z7⟩ := heads_of P8.out
              exact bodyPost_ret (v := .tuple #[hV0, .int .i64 60]) (by simp [results, Try.results22, go_sem, z0, z1, z2, z3, z4, z5, z6, z7]) rfl ⟨hV0, by rw [He.out], fun _ => rfl, fun h => absurd (He.out.symm.trans h) (by decide), B8.out⟩
          · have He := Lib.hid (show unE b = E by rw [HE.out, ← HE2.out, if_pos hE0])
            have hbe : (E != 0) = true := by simpa using hE0
            have HE3 := Lib.hid hE0
            clear hE0
            have P8 := Lib.hid (put8_at HA.out.rs (.int .i64 0) (.int .i64 0) (.int .i64 0) (.int .i64 0) (.slice none 0 0) (.slice none 0 0) (.int .i64 0) (.int .i64 0))
            have B8 := Lib.hid (put8_below HA.out.be HA.out.z0 (.int .i64 0) (.int .i64 0) (.int .i64 0) (.int .i64 0) (.slice none 0 0) (.slice none 0 0) (.int .i64 0) (.int .i64 0))
            go_wp2_with fail
            clear z0 z1 z2 z3 z4 z5 z6 z7 y0 y1 y2 y3 y4 y5 y6 y7
            change bodyPost _ _ _ _ _ (put8 wb Z (.int .i64 0) (.int .i64 0) (.int .i64 0) (.int .i64 0) (.slice none 0 0) (.slice none 0 0) (.int .i64 0) (.int .i64 0))
            generalize put8 wb Z (.int .i64 0) (.int .i64 0) (.int .i64 0) (.int .i64 0) (.slice none 0 0) (.slice none 0 0) (.int .i64 0) (.int .i64 0) = w9 at P8 B8 ⊢
            obtain ⟨z0, z1, z2, z3, z4, z5, z6, z7⟩ := heads_of P8.out
            exact bodyPost_ret (v := .tuple #[hV0, .int .i64 E]) (by simp [results, Try.results22, go_sem, z0, z1, z2, z3, z4, z5, z6, z7]) rfl ⟨hV0, by rw [He.out], fun _ => rfl, fun h => absurd (He.out.symm.trans h) HE3.out, B8.out⟩
end Go.Proofs.Ytaobdebeglenaaa
