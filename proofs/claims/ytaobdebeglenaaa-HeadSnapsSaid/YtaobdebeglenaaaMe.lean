/- Contracts of package stripe's leaves: setBytes, rowBytes, Check, valid. Heads of images, plain (no program): what may be, where a snapshot stands, one more, one fewer, what differs. Contracts of the document's Has, put, Of, Clean, Many, Same (spans). Contract of the document's put: a rising row with one number more. Contracts of package stripe: place, valid, Place, Back; the document's May, place, Place, Back. Contracts of the document's May, place, Place, Back. Contracts of the document's Back. Contracts of the document's Objects, Room: byte by byte. Contracts of package stripe: Objects, Room. -/
import Derived.Test.YtaobdebeglenaaaRows
import Derived.Test.YtaobdebeglenaaaMd
import Derived.WalkLawsBesides
import Derived.Deep.DeepCutAuto
import Derived.Lib.Hide
import Derived.Deep.RegionHeld3
import Derived.BigQuiet
import Derived.Test.YtaobdebeglenaaaMa
import Derived.Test.YtaobdebeglenaaaMb

namespace Go.Proofs.Ytaobdebeglenaaa
open Go.RowKit

set_option maxRecDepth 10000 in
theorem set_any (U C O S : Int) (w : World) (hS : O * C = S) (h0 : 0 ≤ S) (h1 : S ≤ 512) :
    Calls Try.prog 102 #[.agg #[.int .i64 U, .int .i64 C, .int .i64 O]] w fun e w' => e = .returned (.int .i64 S) ∧ Below w.heap.size w w' := by
  go_enter Try.func102, Try.ntmps102
  go_wp2
  go_ret
  exact ⟨rfl, (Below.refl _ _).alloc (Nat.le_refl _) _⟩

/-- may a layout be? -/
def Lay (U C O : Int) : Prop := 1 ≤ U ∧ 1 ≤ C ∧ C ≤ 8 ∧ U ≤ O ∧ O ≤ 64 ∧ O % U = 0
instance (U C O : Int) : Decidable (Lay U C O) := by unfold Lay; exact inferInstance
def chk (U C O : Int) : Int := if Lay U C O then 0 else 1

set_option maxRecDepth 10000 in
set_option maxHeartbeats 1000000 in
theorem Check_any (U C O : Int) (w : World) :
    Calls Try.prog 35 #[.agg #[.int .i64 U, .int .i64 C, .int .i64 O]] w fun e w' => e = .returned (.int .i64 (chk U C O)) ∧ Below w.heap.size w w' := by
  unfold chk Lay
  by_cases h1 : 1 ≤ U
  · by_cases h2 : 1 ≤ C
    · by_cases h3 : C ≤ 8
      · by_cases h4 : U ≤ O
        · by_cases h5 : O ≤ 64
          · by_cases h6 : O % U = 0
            · go_enter Try.func35, Try.ntmps35
              go_wp2
              go_ret
              exact ⟨by simp [*], (Below.refl _ _).alloc (Nat.le_refl _) _⟩
            · go_enter Try.func35, Try.ntmps35
              go_wp2
              go_ret
              exact ⟨by simp [*], (Below.refl _ _).alloc (Nat.le_refl _) _⟩
          · go_enter Try.func35, Try.ntmps35
            go_wp2
            go_ret
            exact ⟨by simp [*], (Below.refl _ _).alloc (Nat.le_refl _) _⟩
        · go_enter Try.func35, Try.ntmps35
          go_wp2
          go_ret
          exact ⟨by simp [*], (Below.refl _ _).alloc (Nat.le_refl _) _⟩
      · go_enter Try.func35, Try.ntmps35
        go_wp2
        go_ret
        exact ⟨by simp [*], (Below.refl _ _).alloc (Nat.le_refl _) _⟩
    · go_enter Try.func35, Try.ntmps35
      go_wp2
      go_ret
      exact ⟨by simp [*], (Below.refl _ _).alloc (Nat.le_refl _) _⟩
  · go_enter Try.func35, Try.ntmps35
    go_wp2
    go_ret
    exact ⟨by simp [*], (Below.refl _ _).alloc (Nat.le_refl _) _⟩


/-- block b holds a layout -/
structure LayAt (b : Nat) (U C O : Int) (w : World) : Prop where
  c0 : w.cell? ⟨b, 0, none⟩ = some (.int .i64 U)
  c1 : w.cell? ⟨b, 1, none⟩ = some (.int .i64 C)
  c2 : w.cell? ⟨b, 2, none⟩ = some (.int .i64 O)
theorem LayAt.lt {b : Nat} {U C O : Int} {w : World} (h : LayAt b U C O w) : b < w.heap.size := World.block_lt_of_cell? w _ h.c0
theorem LayAt.below {b B : Nat} {U C O : Int} {w w' : World} (h : LayAt b U C O w) (hb : Below B w w') (hB : b < B) : LayAt b U C O w' :=
  ⟨(hb.cell hB).trans h.c0, (hb.cell hB).trans h.c1, (hb.cell hB).trans h.c2⟩
theorem LayAt.box (w : World) (U C O : Int) (t : TypeId) : LayAt w.heap.size U C O (w.alloc (.cells #[.int .i64 U, .int .i64 C, .int .i64 O] t)) := by
  refine ⟨?_, ?_, ?_⟩ <;> (rw [cell_blk (heap_alloc_new w _)]; rfl)
/-- what is asked of the worlds in a region that draws its order and calls what makes memory -/
theorem keepL {b B : Nat} {U C O : Int} {W0 W w1 : World} (h : W.cell? ⟨b, 0, none⟩ = some (.int .i64 U) ∧ W.cell? ⟨b, 1, none⟩ = some (.int .i64 C) ∧ W.cell? ⟨b, 2, none⟩ = some (.int .i64 O) ∧ Hid (Below B W0 W)) (hB : Hid (B ≤ W0.heap.size)) (hb : Below W.heap.size W w1) :
    w1.cell? ⟨b, 0, none⟩ = some (.int .i64 U) ∧ w1.cell? ⟨b, 1, none⟩ = some (.int .i64 C) ∧ w1.cell? ⟨b, 2, none⟩ = some (.int .i64 O) ∧ Hid (Below B W0 w1) := by
  obtain ⟨h0, h1, h2, h3⟩ := h
  have hl : LayAt b U C O W := ⟨h0, h1, h2⟩
  have hl1 := hl.below hb hl.lt
  exact ⟨hl1.c0, hl1.c1, hl1.c2, Lib.hid (h3.out.trans (hb.mono (Nat.le_trans hB.out h3.out.size)))⟩
theorem startL {b B : Nat} {U C O : Int} {W0 W : World} (h : Hid (LayAt b U C O W)) (hb : Hid (Below B W0 W)) :
    W.cell? ⟨b, 0, none⟩ = some (.int .i64 U) ∧ W.cell? ⟨b, 1, none⟩ = some (.int .i64 C) ∧ W.cell? ⟨b, 2, none⟩ = some (.int .i64 O) ∧ Hid (Below B W0 W) :=
  ⟨h.out.c0, h.out.c1, h.out.c2, hb⟩
theorem startD {b B : Nat} {U C O : Int} {W0 W : World} (h : Hid (LayAt b U C O W)) (hb : Hid (Below B W0 W)) :
    W.drew.cell? ⟨b, 0, none⟩ = some (.int .i64 U) ∧ W.drew.cell? ⟨b, 1, none⟩ = some (.int .i64 C) ∧ W.drew.cell? ⟨b, 2, none⟩ = some (.int .i64 O) ∧ Hid (Below B W0 W.drew) :=
  ⟨h.out.c0, h.out.c1, h.out.c2, Lib.hid (hb.out.drew)⟩
theorem bothL {b B : Nat} {U C O : Int} {W0 w : World} (h : w.cell? ⟨b, 0, none⟩ = some (.int .i64 U) ∧ w.cell? ⟨b, 1, none⟩ = some (.int .i64 C) ∧ w.cell? ⟨b, 2, none⟩ = some (.int .i64 O) ∧ Hid (Below B W0 w)) : Hid (LayAt b U C O w) ∧ Hid (Below B W0 w) := ⟨⟨h.1, h.2.1, h.2.2.1⟩, h.2.2.2⟩

end Go.Proofs.Ytaobdebeglenaaa

namespace Go.Proofs.Ytaobdebeglenaaa

/-- a snapshot -/
structure Sn where
  id : Int
  size : Int
  map : List Int
/-- a head -/
structure Hd where
  u : Int
  c : Int
  o : Int
  size : Int
  map : List Int
  snaps : List Sn
  last : Int
  seq : Int
instance : DecidableEq Sn := fun a b => by
  obtain ⟨a1, a2, a3⟩ := a
  obtain ⟨b1, b2, b3⟩ := b
  exact decidable_of_iff (a1 = b1 ∧ a2 = b2 ∧ a3 = b3) (by simp)
/-- how many objects an image of that size has -/
def objH (U C O n : Int) : Int := if Lay U C O ∧ 0 ≤ n ∧ n ≤ 512 then (mxO U.toNat C.toNat (O / U).toNat n.toNat : Nat) else 0
def sizedP (U C O size : Int) (m : List Int) : Prop := 0 ≤ size ∧ size ≤ 512 ∧ IsRow m ∧ (m.length : Int) ≤ objH U C O size
instance (U C O : Int) : Decidable (Lay U C O) := by unfold Lay; infer_instance
instance (U C O size : Int) (m : List Int) : Decidable (sizedP U C O size m) := by unfold sizedP; infer_instance
def snsP (U C O last : Int) : Int → List Sn → Prop
  | _, [] => True
  | a, s :: r => a < s.id ∧ s.id ≤ last ∧ sizedP U C O s.size s.map ∧ snsP U C O last s.id r
instance snsD (U C O last : Int) : ∀ (a : Int) (l : List Sn), Decidable (snsP U C O last a l)
  | _, [] => .isTrue trivial
  | a, s :: r => by
    have := snsD U C O last s.id r
    unfold snsP
    infer_instance
def MayH (h : Hd) : Prop := Lay h.u h.c h.o ∧ sizedP h.u h.c h.o h.size h.map ∧ h.snaps.length ≤ 4 ∧ (0 ≤ h.last ∧ h.last ≤ 100) ∧ (0 ≤ h.seq ∧ h.seq ≤ 1099511627776) ∧ snsP h.u h.c h.o h.last 0 h.snaps
instance (h : Hd) : Decidable (MayH h) := by unfold MayH; infer_instance
/-- the number of the last one of some -/
def lastId : Int → List Sn → Int
  | a, [] => a
  | _, s :: r => lastId s.id r
theorem lastId_snoc (s : Sn) : ∀ (a : Int) (l : List Sn), lastId a (l ++ [s]) = s.id
  | _, [] => rfl
  | _, x :: r => lastId_snoc s x.id r
theorem sns_snoc {U C O last : Int} {s : Sn} : ∀ {a : Int} {l : List Sn}, snsP U C O last a (l ++ [s]) ↔ snsP U C O last a l ∧ lastId a l < s.id ∧ s.id ≤ last ∧ sizedP U C O s.size s.map
  | a, [] => by simp [snsP, lastId]
  | a, x :: r => by
    show (a < x.id ∧ x.id ≤ last ∧ sizedP U C O x.size x.map ∧ snsP U C O last x.id (r ++ [s])) ↔ (a < x.id ∧ x.id ≤ last ∧ sizedP U C O x.size x.map ∧ snsP U C O last x.id r) ∧ lastId x.id r < s.id ∧ _
    rw [sns_snoc]
    constructor
    · rintro ⟨h1, h2, h3, h4, h5⟩; exact ⟨⟨h1, h2, h3, h4⟩, h5⟩
    · rintro ⟨⟨h1, h2, h3, h4⟩, h5⟩; exact ⟨h1, h2, h3, h4, h5⟩
theorem sns_app {U C O last : Int} {l2 : List Sn} : ∀ {a : Int} {l : List Sn}, snsP U C O last a (l ++ l2) ↔ snsP U C O last a l ∧ snsP U C O last (lastId a l) l2
  | a, [] => by simp [snsP, lastId]
  | a, x :: r => by
    show (a < x.id ∧ x.id ≤ last ∧ sizedP U C O x.size x.map ∧ snsP U C O last x.id (r ++ l2)) ↔ (a < x.id ∧ x.id ≤ last ∧ sizedP U C O x.size x.map ∧ snsP U C O last x.id r) ∧ snsP U C O last (lastId x.id r) l2
    rw [sns_app]
    constructor
    · rintro ⟨h1, h2, h3, h4, h5⟩; exact ⟨⟨h1, h2, h3, h4⟩, h5⟩
    · rintro ⟨⟨h1, h2, h3, h4⟩, h5⟩; exact ⟨h1, h2, h3, h4, h5⟩

/-- where a snapshot stands -/
def findH : List Sn → Int → Int
  | [], _ => -1
  | s :: r, x => if s.id = x then 0 else if findH r x < 0 then -1 else findH r x + 1
theorem findH_range (x : Int) : ∀ l : List Sn, -1 ≤ findH l x ∧ findH l x < l.length
  | [] => by simp [findH]
  | s :: r => by
    have := findH_range x r
    unfold findH
    split
    · simp
    · split <;> (simp; omega)
theorem findH_none {l : List Sn} {x : Int} (h : ∀ s ∈ l, s.id ≠ x) : findH l x = -1 := by
  induction l with
  | nil => rfl
  | cons s r ih =>
    unfold findH
    rw [if_neg (h s (by simp)), ih (fun t ht => h t (by simp [ht]))]
    rfl
theorem findH_at {x : Int} : ∀ {l : List Sn} {k : Nat} (h : k < l.length), l[k].id = x → (∀ j (hj : j < k), (l[j]'(by omega)).id ≠ x) → findH l x = k
  | s :: r, 0, _, he, _ => by
    unfold findH
    rw [if_pos (show s.id = x from he)]
    rfl
  | s :: r, k + 1, h, he, hn => by
    have h0 : s.id ≠ x := hn 0 (by omega)
    have ih : findH r x = k := findH_at (l := r) (k := k) (by simpa using h) he (fun j hj => hn (j + 1) (by omega))
    unfold findH
    rw [if_neg h0, ih, if_neg (by omega)]
    omega
theorem findH_id {x : Int} : ∀ {l : List Sn} {k : Nat}, findH l x = k → ∃ h : k < l.length, l[k].id = x
  | [], k, h => by simp [findH] at h
  | s :: r, k, h => by
    unfold findH at h
    split at h
    · rename_i e
      obtain rfl : k = 0 := by omega
      exact ⟨by simp, e⟩
    · split at h
      · omega
      · obtain ⟨j, hj⟩ : ∃ j : Nat, findH r x = j := ⟨(findH r x).toNat, by omega⟩
        obtain rfl : k = j + 1 := by omega
        obtain ⟨h1, h2⟩ := findH_id hj
        exact ⟨by simpa using h1, h2⟩
def newestH (l : List Sn) : Int := lastId 0 l

/-- one snapshot more -/
def snapH (h : Hd) : Hd := { h with last := h.last + 1, snaps := h.snaps ++ [⟨h.last + 1, h.size, h.map⟩], map := freshO h.map }
def snapE (h : Hd) : Int := if MayH h then (if h.snaps.length ≥ 4 ∨ h.last ≥ 100 then 110 else 0) else 60
/-- one fewer -/
def dropL (l : List Sn) (k : Nat) (gone : List Int) : List Sn := l.take k ++ (match l.drop (k + 1) with | [] => [] | s :: r => { s with map := mergeO gone s.map } :: r)
def goneH (l : List Sn) (k : Nat) : List Int := (l[k]?.map Sn.map).getD []
def dropH (h : Hd) (k : Nat) : Hd :=
  if k + 1 < h.snaps.length then { h with snaps := dropL h.snaps k (goneH h.snaps k) } else { h with snaps := h.snaps.take k, map := mergeO (goneH h.snaps k) h.map }
def dropE (h : Hd) (x : Int) : Int := if MayH h then (if findH h.snaps x < 0 then 182 else 0) else 60
/-- what differs -/
def diffE (h : Hd) (f t : Int) : Int := if MayH h then (if findH h.snaps f < 0 ∨ t ≠ 0 ∧ findH h.snaps t < findH h.snaps f then 182 else 0) else 60
def restH (h : Hd) (a : Nat) (_ t : Int) : List (List Int) :=
  if t = 0 then (h.snaps.drop (a + 1)).map Sn.map ++ [h.map] else ((h.snaps.take ((findH h.snaps t).toNat + 1)).drop (a + 1)).map Sn.map
def diffH (h : Hd) (f t : Int) : List Int := changedO (goneH h.snaps (findH h.snaps f).toNat) (restH h (findH h.snaps f).toNat f t)
end Go.Proofs.Ytaobdebeglenaaa

namespace Go.Proofs.Ytaobdebeglenaaa
open Go.RowKit

/-- the spans of a slice can be read, below block B -/
def RdS (w : World) (B : Nat) (A : Option Addr) (n : Nat) (ps : List Sp) : Prop :=
  n = ps.length ∧ (0 < n → ∃ g o, A = some ⟨g, o, none⟩ ∧ g < B ∧ ∀ i (hi : i < ps.length), w.cell? ⟨g, o + i * 2, none⟩ = some (.int .i64 (ps[i].1)) ∧ w.cell? ⟨g, o + i * 2 + 1, none⟩ = some (.int .i64 (ps[i].2)))
theorem RdS.nil (w : World) (B : Nat) (A : Option Addr) : RdS w B A 0 [] := ⟨rfl, fun h => absurd h (by omega)⟩
theorem RdS.below {w w' : World} {B : Nat} {A : Option Addr} {n : Nat} {ps : List Sp} (h : RdS w B A n ps) (hb : Below B w w') : RdS w' B A n ps := by
  refine ⟨h.1, fun h0 => ?_⟩
  obtain ⟨g, o, he, hg, hc⟩ := h.2 h0
  exact ⟨g, o, he, hg, fun i hi => ⟨(hb.cell hg).trans (hc i hi).1, (hb.cell hg).trans (hc i hi).2⟩⟩
theorem RdS.drewN {w : World} {B : Nat} {A : Option Addr} {n : Nat} {ps : List Sp} (h : RdS w B A n ps) (q : Nat) : RdS (w.drewN q) B A n ps := h
theorem RdS.more {w : World} {B B' : Nat} {A : Option Addr} {n : Nat} {ps : List Sp} (h : RdS w B A n ps) (hB : B ≤ B') : RdS w B' A n ps := by
  refine ⟨h.1, fun h0 => ?_⟩
  obtain ⟨g, o, he, hg, hc⟩ := h.2 h0
  exact ⟨g, o, he, Nat.lt_of_lt_of_le hg hB, hc⟩

theorem any_take_succ (ps : List Sp) (n : Int) (j : Nat) (h : j < ps.length) : (ps.take (j + 1)).any (fun s => inS s n) = ((ps.take j).any (fun s => inS s n) || inS ps[j] n) := by
  rw [List.take_succ_eq_append_getElem h, List.any_append]; simp

end Go.Proofs.Ytaobdebeglenaaa

namespace Go.Proofs.Ytaobdebeglenaaa
open Go.RowKit

theorem Try.infoI : (Try.prog.info? 3).map (fun i => (i.zero, i.size, i.bytes)) = some (some (.int .i64 0), 1, 8) := by kernel_rfl
theorem ownForm {w : World} {base n s : Nat} {e : TypeId} {v : Value} {xs : List Value} (h : w.ownsRow base e s v n xs) : (v = .slice none 0 0 ∧ n = 0) ∨ ∃ g c, v = .slice (some ⟨g, 0, none⟩) n c ∧ base ≤ g ∧ g < w.heap.size ∧ n ≤ c ∧ c ≤ maxLen := by
  rcases h.2 with ⟨rfl, rfl⟩ | ⟨g, cap, cur, rfl, hb, hg, h1, h2, _⟩
  · exact .inl ⟨rfl, rfl⟩
  · exact .inr ⟨g, cap, rfl, hb, lt_of_block hg, h1, h2⟩
theorem ownPos {w : World} {base n s : Nat} {e : TypeId} {v : Value} {xs : List Value} (h : w.ownsRow base e s v n xs) (hn : 0 < n) : ∃ g c, v = .slice (some ⟨g, 0, none⟩) n c := by
  rcases ownForm h with ⟨_, h0⟩ | ⟨g, c, h0, _⟩
  · omega
  · exact ⟨g, c, h0⟩
theorem ownBs {w : World} {B B' n s : Nat} {e : TypeId} {v : Value} {xs : List Value} (h : w.ownsRow B e s v n xs) (hB : B' ≤ B) : w.ownsRow B' e s v n xs := by
  refine ⟨h.1, ?_⟩
  rcases h.2 with h | ⟨g, cap, cur, h1, h2, h3⟩
  · exact .inl h
  · exact .inr ⟨g, cap, cur, h1, Nat.le_trans hB h2, h3⟩
theorem ownTo {w w' : World} {B n s : Nat} {e : TypeId} {v : Value} {xs : List Value} (h : w.ownsRow B e s v n xs) (hb : Below w.heap.size w w') : w'.ownsRow B e s v n xs := by
  refine ⟨h.1, ?_⟩
  rcases h.2 with h | ⟨g, cap, cur, h1, h2, h3, h4⟩
  · exact .inl h
  · exact .inr ⟨g, cap, cur, h1, h2, (hb.block g (lt_of_block h3)).trans h3, h4⟩

theorem tw_len (l : List Int) (m : Int) : ∀ k, k ≤ l.length → (∀ x ∈ l.take k, x < m) → (∀ h : k < l.length, ¬ l[k] < m) → (l.takeWhile (fun x => decide (x < m))).length = k := by
  induction l with
  | nil => intro k hk _ _; simp at hk ⊢; omega
  | cons y l ih =>
    intro k hk h1 h2
    cases k with
    | zero =>
      have := h2 (by simp)
      simp at this
      simp only [List.takeWhile_cons, show ¬ y < m by omega, decide_false]
      rfl
    | succ k =>
      have hy := h1 y (by simp)
      simp only [List.takeWhile_cons, hy, decide_true, if_true, List.length_cons]
      rw [ih k (by simpa using hk) (fun x hx => h1 x (by simp [hx])) (fun h => h2 (by simpa using h))]

theorem RdI.src {w : World} {B n : Nat} {A : Option Addr} {l : List Int} (h : RdI w B A n l) : 0 < n → ∃ ad, A = some ad ∧ ∀ j u, (l.map (Value.int .i64))[j]? = some u → w.cell? (ad.add j) = some u := fun hn => by
  obtain ⟨ad, e, _, hc⟩ := h.2 hn
  refine ⟨ad, e, fun j u hu => ?_⟩
  rw [List.getElem?_map] at hu
  obtain ⟨z, hz, rfl⟩ := Option.map_eq_some_iff.1 hu
  obtain ⟨hj, rfl⟩ := List.getElem?_eq_some_iff.1 hz
  exact hc j hj
theorem RdI.drop0 {w : World} {B n g : Nat} {l : List Int} (h : RdI w B (some ⟨g, 0, none⟩) n l) (k : Nat) : RdI w B (some ⟨g, k, none⟩) (n - k) (l.drop k) := by
  refine ⟨by rw [List.length_drop, h.1], fun hn => ?_⟩
  obtain ⟨ad, e, hb, hc⟩ := h.2 (by omega)
  cases e
  refine ⟨_, rfl, hb, fun j hj => ?_⟩
  have h2 := hc (k + j) (by rw [List.length_drop] at hj; omega)
  have e1 : (⟨g, 0, none⟩ : Addr).add (k + j) = (⟨g, k, none⟩ : Addr).add j := by
    unfold Addr.add
    split <;> split <;> simp <;> omega
  rw [e1] at h2
  rw [h2, List.getElem_drop]
theorem int_one (l : List Int) : ∀ v ∈ l.map (Value.int .i64), v.oneCell' = true := by
  intro v hv
  obtain ⟨x, _, rfl⟩ := List.mem_map.1 hv
  rfl
theorem putI_len (l : List Int) (n : Int) : (putI l n).length ≤ l.length + 1 := by
  unfold putI
  dsimp only
  split
  · omega
  · simp; omega

end Go.Proofs.Ytaobdebeglenaaa

namespace Go.Proofs.Ytaobdebeglenaaa
open Go.RowKit

theorem wrapN {n : Nat} (h : n ≤ 9223372036854775807) : IntKind.i64.wrap (n : Int) = n := IntWalk.i64_in _ (by omega)
theorem LN.u64 {u c m : Nat} (h : LN u c m) : u ≤ 64 := Nat.le_trans (Nat.le_mul_of_pos_right u h.m1) h.um
theorem LN.um1 {u c m : Nat} (h : LN u c m) : 1 ≤ u * m := Nat.mul_pos h.u1 h.m1
theorem LN.S1 {u c m : Nat} (h : LN u c m) : 1 ≤ u * m * c := Nat.mul_pos h.um1 h.c1
theorem LN.S512 {u c m : Nat} (h : LN u c m) : u * m * c ≤ 512 := Nat.mul_le_mul h.um h.c8
theorem LN.R1 {u c m : Nat} (h : LN u c m) : 1 ≤ u * c := Nat.mul_pos h.u1 h.c1
theorem LN.R512 {u c m : Nat} (h : LN u c m) : u * c ≤ 512 := Nat.mul_le_mul h.u64 h.c8
theorem Lay.num {U C O : Int} (h : Lay U C O) : ∃ u c m : Nat, U = u ∧ C = c ∧ O = (u * m : Nat) ∧ LN u c m := by
  obtain ⟨h1, h2, h3, h4, h5, h6⟩ := h
  obtain ⟨u, rfl⟩ := Int.eq_ofNat_of_zero_le (show 0 ≤ U by omega)
  obtain ⟨c, rfl⟩ := Int.eq_ofNat_of_zero_le (show 0 ≤ C by omega)
  obtain ⟨o, rfl⟩ := Int.eq_ofNat_of_zero_le (show 0 ≤ O by omega)
  have h7 : o % u = 0 := by exact_mod_cast h6
  have h8 : o = u * (o / u) := by have := Nat.div_add_mod o u; omega
  refine ⟨u, c, o / u, rfl, rfl, by rw [← h8], by omega, by omega, by omega, Nat.div_pos (by omega) (by omega), by rw [← h8]; omega⟩
theorem LN.lay {u c m : Nat} (h : LN u c m) : Lay (u : Int) (c : Int) ((u * m : Nat) : Int) := by
  have h1 := h.u1; have h2 := h.c1; have h3 := h.c8; have h4 := h.um
  have h5 : u ≤ u * m := Nat.le_mul_of_pos_right u h.m1
  refine ⟨by omega, by omega, by omega, by omega, by omega, ?_⟩
  have : u * m % u = 0 := Nat.mul_mod_right u m
  exact_mod_cast this
theorem pO_le {u c m : Nat} (h : LN u c m) (off : Nat) : pO u c m off ≤ off := by
  obtain ⟨s, row, col, x, hx, hc, hr, rfl⟩ := dig_of h off
  rw [pO_dig hx hc hr]
  unfold dig
  have h1 : s * c ≤ s * m * c := Nat.mul_le_mul_right _ (Nat.le_mul_of_pos_right s h.m1)
  have h2 : s * m * c ≤ (s * m + row) * c := Nat.mul_le_mul_right _ (Nat.le_add_right _ _)
  have h3 : (s * m + row) * c + col ≤ ((s * m + row) * c + col) * u := Nat.le_mul_of_pos_right _ h.u1
  omega
theorem pK_le {u c m : Nat} (h : LN u c m) (off : Nat) : pK u c m off ≤ 64 := by have := pK_lt h off; have := h.um; omega

/-- is an argument within its bounds? -/
def far (z : Int) : Bool := decide (0 ≤ z) && decide (z ≤ 1099511627776)

set_option maxRecDepth 10000 in
set_option maxHeartbeats 1000000 in
theorem valid_any (U C O : Int) (A : Option Addr) (n c : Nat) (l : List Int) (B : Nat) (w : World) (hr : RdI w B A n l) (hB : B ≤ w.heap.size) (hn : n ≤ 1000) :
    Calls Try.prog 101 #[.agg #[.int .i64 U, .int .i64 C, .int .i64 O], .slice A n c] w fun e w' => e = .returned (.bool (l.all far && decide (Lay U C O))) ∧ Below w.heap.size w w' := by
  have Hr := Lib.hid (hr.alloc hB (.cells #[.int .i64 U, .int .i64 C, .int .i64 O] 23))
  have Hl := Lib.hid hr.1
  clear hr
  go_enter Try.func101, Try.ntmps101
  go_wp2_with fail
  have HL := Lib.hid (LayAt.box w U C O 23)
  have Hb0 := Lib.hid ((Below.refl w.heap.size w).alloc (Nat.le_refl _) (.cells #[.int .i64 U, .int .i64 C, .int .i64 O] 23))
  generalize w.alloc (.cells #[.int .i64 U, .int .i64 C, .int .i64 O] 23) = w0 at Hr HL Hb0 ⊢
  go_loopw [9] (fun i wr => wr = w0 ∧ ∃ j : Nat, j ≤ n ∧ i = .int .i64 j ∧ Hid ((l.take j).all far = true)) (fun i _ => n - (intOf i).toNat)
  case atStart => exact ⟨rfl, 0, Nat.zero_le _, rfl, rfl⟩
  case round =>
    obtain ⟨rfl, j, hj, rfl, Hj⟩ := hrel
    have c0 := HL.out.c0
    have c1 := HL.out.c1
    have c2 := HL.out.c2
    by_cases hjn : j < n
    · obtain ⟨ad, rfl, _, hcell⟩ := Hr.out.cellAt hjn
      have hlj : j < l.length := by rw [Hl.out]; exact hjn
      obtain ⟨z, hz⟩ : ∃ z, z = l[j] := ⟨_, rfl⟩
      rw [← hz] at hcell
      have Hs := Lib.hid (show (l.take (j + 1)).all far = far z by rw [List.take_succ_eq_append_getElem hlj, List.all_append, Hj.out, ← hz]; simp)
      clear hz hlj
      by_cases hz0 : z < 0
      · have hf : far z = false := by unfold far; rw [decide_eq_false (by omega)]; rfl
        have Hno := Lib.hid (show (l.all far && decide (Lay U C O)) = false by rw [← List.take_append_drop (j + 1) l, List.all_append, Hs.out, hf]; rfl)
        clear hf
        go_wp2_with fail
        go_ret
        exact ⟨by rw [Hno.out]; rfl, Hb0.out⟩
      · by_cases hz1 : 1099511627776 < z
        · have hf : far z = false := by unfold far; rw [decide_eq_false (p := z ≤ 1099511627776) (by omega)]; simp
          have Hno := Lib.hid (show (l.all far && decide (Lay U C O)) = false by rw [← List.take_append_drop (j + 1) l, List.all_append, Hs.out, hf]; rfl)
          clear hf
          go_wp2_with fail
          go_ret
          exact ⟨by rw [Hno.out]; rfl, Hb0.out⟩
        · have hf : far z = true := by unfold far; rw [decide_eq_true (by omega), decide_eq_true (by omega)]; rfl
          have Hj1 := Lib.hid (Hs.out.trans hf)
          clear hf
          go_wp2_with fail
          go_roundw
          case rel => exact ⟨by first | rfl | trivial, j + 1, by omega, by go_num, Hj1⟩
          case measure => simp [intOf]; omega
    · obtain rfl : j = n := by omega
      have Hall := Lib.hid (show l.all far = true by have h := Hj.out; rwa [List.take_of_length_le (by rw [Hl.out]; exact Nat.le_refl _)] at h)
      go_wp2_with fail
      refine (Check_any U C O _).mono ?_
      rintro e w1 ⟨rfl, hb1⟩
      have Hb1 := Lib.hid (Hb0.out.trans (hb1.mono Hb0.out.size))
      by_cases hLay : Lay U C O
      · have hk : chk U C O = 0 := if_pos hLay
        rw [hk]
        have Hno := Lib.hid (show (l.all far && decide (Lay U C O)) = true by rw [Hall.out, decide_eq_true hLay]; rfl)
        clear hk hLay hb1
        go_wp2_with fail
        go_ret
        exact ⟨by rw [Hno.out]; rfl, Hb1.out⟩
      · have hk : chk U C O = 1 := if_neg hLay
        rw [hk]
        have Hno := Lib.hid (show (l.all far && decide (Lay U C O)) = false by rw [Hall.out, decide_eq_false hLay]; rfl)
        clear hk hLay hb1
        go_wp2_with fail
        go_ret
        exact ⟨by rw [Hno.out]; rfl, Hb1.out⟩

theorem lit1 (w : World) (t : TypeId) (x : Int) (b : Nat) (hb : b = w.heap.size) : RdI (w.alloc (.cells #[.int .i64 x] t)) (w.heap.size + 1) (some ⟨b, 0, none⟩) 1 [x] := by subst hb; exact RdI_lit w t [x]
theorem lit2 (w : World) (t : TypeId) (x y : Int) (b : Nat) (hb : b = w.heap.size) : RdI (w.alloc (.cells #[.int .i64 x, .int .i64 y] t)) (w.heap.size + 1) (some ⟨b, 0, none⟩) 2 [x, y] := by subst hb; exact RdI_lit w t [x, y]

theorem LayAt.to {b : Nat} {U C O : Int} {w w' : World} (h : LayAt b U C O w) (hb : Below w.heap.size w w') : LayAt b U C O w' := h.below hb h.lt
theorem LayAt.more {b : Nat} {U C O : Int} {w : World} (h : LayAt b U C O w) (o : Obj) : LayAt b U C O (w.alloc o) := h.to ((Below.refl _ _).alloc (Nat.le_refl _) o)
theorem bel1 {w w1 : World} {o : Obj} (h : Below (w.alloc o).heap.size (w.alloc o) w1) : Below w.heap.size w w1 :=
  ((Below.refl w.heap.size w).alloc (Nat.le_refl _) o).trans (h.mono (by simp))
theorem bel2 {w w1 : World} {o o' : Obj} (h : Below ((w.alloc o).alloc o').heap.size ((w.alloc o).alloc o') w1) : Below w.heap.size w w1 := bel1 (bel1 h)

theorem wrapEq (x : Int) : IntKind.i64.wrap x = wrap64 x := by rw [IntKind.wrap_i64]; unfold wrap64; omega
theorem wrap64N {n : Nat} (h : n ≤ 9223372036854775807) : wrap64 (n : Int) = n := by rw [← wrapEq]; exact wrapN h
theorem tdivN (a b : Nat) : (a : Int).tdiv (b : Int) = ((a / b : Nat) : Int) := (Int.ofNat_tdiv a b).symm
theorem tmodN (a b : Nat) : (a : Int).tmod (b : Int) = ((a % b : Nat) : Int) := (Int.ofNat_tmod a b).symm

end Go.Proofs.Ytaobdebeglenaaa

namespace Go.Proofs.Ytaobdebeglenaaa
open Go.RowKit

set_option maxRecDepth 10000 in
set_option maxHeartbeats 1000000 in
theorem May_any (U C O : Int) (w : World) :
    Calls Try.prog 14 #[.agg #[.int .i64 U, .int .i64 C, .int .i64 O]] w fun e w' => e = .returned (.bool (decide (Lay U C O))) ∧ Below w.heap.size w w' := by
  by_cases h1 : 1 ≤ U
  · by_cases h2 : 1 ≤ C
    · by_cases h3 : C ≤ 8
      · by_cases h4 : U ≤ O
        · by_cases h5 : O ≤ 64
          · by_cases h6 : O % U = 0
            · rw [decide_eq_true (show Lay U C O from ⟨h1, h2, h3, h4, h5, h6⟩)]
              go_enter Try.func14, Try.ntmps14
              go_wp2
              go_ret
              exact ⟨rfl, (Below.refl _ _).alloc (Nat.le_refl _) _⟩
            · rw [decide_eq_false (show ¬ Lay U C O from fun q => h6 q.2.2.2.2.2)]
              go_enter Try.func14, Try.ntmps14
              go_wp2
              go_ret
              exact ⟨by simp [*], (Below.refl _ _).alloc (Nat.le_refl _) _⟩
          · rw [decide_eq_false (show ¬ Lay U C O from fun q => h5 q.2.2.2.2.1)]
            go_enter Try.func14, Try.ntmps14
            go_wp2
            go_ret
            exact ⟨rfl, (Below.refl _ _).alloc (Nat.le_refl _) _⟩
        · rw [decide_eq_false (show ¬ Lay U C O from fun q => h4 q.2.2.2.1)]
          go_enter Try.func14, Try.ntmps14
          go_wp2
          go_ret
          exact ⟨rfl, (Below.refl _ _).alloc (Nat.le_refl _) _⟩
      · rw [decide_eq_false (show ¬ Lay U C O from fun q => h3 q.2.2.1)]
        go_enter Try.func14, Try.ntmps14
        go_wp2
        go_ret
        exact ⟨rfl, (Below.refl _ _).alloc (Nat.le_refl _) _⟩
    · rw [decide_eq_false (show ¬ Lay U C O from fun q => h2 q.2.1)]
      go_enter Try.func14, Try.ntmps14
      go_wp2
      go_ret
      exact ⟨rfl, (Below.refl _ _).alloc (Nat.le_refl _) _⟩
  · rw [decide_eq_false (show ¬ Lay U C O from fun q => h1 q.1)]
    go_enter Try.func14, Try.ntmps14
    go_wp2
    go_ret
    exact ⟨rfl, (Below.refl _ _).alloc (Nat.le_refl _) _⟩

set_option maxRecDepth 10000 in
set_option maxHeartbeats 1000000 in
theorem rplace_let (U C O off q1 q2 M r1 s1 o1 o2 o3 k1 k2 k3 k4 : Int) (w : World) (hU : U ≠ 0) (hC : C ≠ 0) (hM : M ≠ 0)
    (hq1 : wrap64 (off.tdiv U) = q1) (hq2 : wrap64 (O.tdiv U) = q2) (hM2 : IntKind.i64.wrap (q2 * C) = M) (hr1 : q1.tmod M = r1) (hs1 : IntKind.i64.wrap (q1.tdiv M) = s1) (ho1 : IntKind.i64.wrap (s1 * C) = o1) (ho2 : r1.tmod C = o2) (ho3 : IntKind.i64.wrap (o1 + o2) = o3)
    (hk1 : IntKind.i64.wrap (r1.tdiv C) = k1) (hk2 : IntKind.i64.wrap (k1 * U) = k2) (hk3 : off.tmod U = k3) (hk4 : IntKind.i64.wrap (k2 + k3) = k4) :
    Calls Try.prog 99 #[.agg #[.int .i64 U, .int .i64 C, .int .i64 O], .int .i64 off] w fun e w' => e = .returned (.tuple #[.int .i64 o3, .int .i64 k4]) ∧ Below w.heap.size w w' := by
  go_enter Try.func99, Try.ntmps99
  go_wp2_with fail
  have HL := Lib.hid (LayAt.box w U C O 23)
  have Hb0 := Lib.hid ((Below.refl w.heap.size w).alloc (Nat.le_refl _) (.cells #[.int .i64 U, .int .i64 C, .int .i64 O] 23))
  have HB := Lib.hid (Nat.le_refl w.heap.size)
  generalize w.alloc (.cells #[.int .i64 U, .int .i64 C, .int .i64 O] 23) = w0 at HL Hb0 ⊢
  go_region_held3 (fun w' => w'.cell? ⟨w.heap.size, 0, none⟩ = some (.int .i64 U) ∧ w'.cell? ⟨w.heap.size, 1, none⟩ = some (.int .i64 C) ∧ w'.cell? ⟨w.heap.size, 2, none⟩ = some (.int .i64 O) ∧ Hid (Below w.heap.size w w')) (first | exact keepL (by assumption) HB (by assumption) | exact startL HL Hb0 | exact startD HL Hb0) (fail)
  go_wp2_with fail
  exact bodyPost_ret (v := .tuple #[.int .i64 o3, .int .i64 k4]) (by simp [results, Try.results99, go_sem]) rfl ⟨rfl, Hb0.out.drew⟩

theorem LN.m64 {u c m : Nat} (h : LN u c m) : m ≤ 64 := Nat.le_trans (Nat.le_mul_of_pos_left m h.u1) h.um
theorem LN.M1 {u c m : Nat} (h : LN u c m) : 1 ≤ m * c := Nat.mul_pos h.m1 h.c1
theorem LN.M512 {u c m : Nat} (h : LN u c m) : m * c ≤ 512 := Nat.mul_le_mul h.m64 h.c8
theorem LN.each {u c m : Nat} (h : LN u c m) : u * m / u = m := Nat.mul_div_cancel_left m h.u1

theorem rplace_any (u c m off : Nat) (w : World) (h : LN u c m) (hoff : off ≤ 576460752303423488) :
    Calls Try.prog 99 #[.agg #[.int .i64 u, .int .i64 c, .int .i64 ((u * m : Nat) : Int)], .int .i64 off] w fun e w' => e = .returned (.tuple #[.int .i64 (pO u c m off), .int .i64 (pK u c m off)]) ∧ Below w.heap.size w w' := by
  have hu := h.u64
  have hc := h.c8
  have hm := h.m64
  have hM := h.M512
  have b1 : off / u ≤ off := Nat.div_le_self _ _
  have b2 : off / u / (m * c) ≤ off / u := Nat.div_le_self _ _
  have b3 : off / u % (m * c) < m * c := Nat.mod_lt _ h.M1
  have b4 : off / u / (m * c) * c ≤ off * 8 := Nat.mul_le_mul (by omega) hc
  have b5 : off / u % (m * c) % c < c := Nat.mod_lt _ h.c1
  have b6 : off / u % (m * c) / c ≤ off / u % (m * c) := Nat.div_le_self _ _
  have b7 : off / u % (m * c) / c * u ≤ 512 * 64 := Nat.mul_le_mul (by omega) hu
  have b8 : off % u < u := Nat.mod_lt _ h.u1
  unfold pO pK
  refine rplace_let (u : Int) (c : Int) ((u * m : Nat) : Int) (off : Int) ((off / u : Nat) : Int) (m : Int) ((m * c : Nat) : Int) ((off / u % (m * c) : Nat) : Int) ((off / u / (m * c) : Nat) : Int) ((off / u / (m * c) * c : Nat) : Int) ((off / u % (m * c) % c : Nat) : Int) _
    ((off / u % (m * c) / c : Nat) : Int) ((off / u % (m * c) / c * u : Nat) : Int) ((off % u : Nat) : Int) _ w (by have := h.u1; omega) (by have := h.c1; omega) (by have := h.M1; omega) ?_ ?_ ?_ ?_ ?_ ?_ ?_ ?_ ?_ ?_ ?_ ?_
  · rw [tdivN]; exact wrap64N (by omega)
  · rw [tdivN, h.each]; exact wrap64N (by omega)
  · rw [← Int.natCast_mul]; exact wrapN (by omega)
  · rw [tmodN]
  · rw [tdivN]; exact wrapN (by omega)
  · rw [← Int.natCast_mul]; exact wrapN (by omega)
  · rw [tmodN]
  · rw [← Int.natCast_add]; exact wrapN (by omega)
  · rw [tdivN]; exact wrapN (by omega)
  · rw [← Int.natCast_mul]; exact wrapN (by omega)
  · rw [tmodN]
  · rw [← Int.natCast_add]; exact wrapN (by omega)

end Go.Proofs.Ytaobdebeglenaaa

namespace Go.Proofs.Ytaobdebeglenaaa
open Go.RowKit

theorem LayAt.drewR {b : Nat} {U C O : Int} {w : World} (h : LayAt b U C O w) : LayAt b U C O w.drew := ⟨h.c0, h.c1, h.c2⟩

end Go.Proofs.Ytaobdebeglenaaa

namespace Go.Proofs.Ytaobdebeglenaaa
open Go.RowKit

set_option maxRecDepth 10000 in
set_option maxHeartbeats 1000000 in
theorem RObjects_ok (u c m n : Nat) (w : World) (h : LN u c m) (hn : n ≤ 512) :
    Calls Try.prog 68 #[.agg #[.int .i64 u, .int .i64 c, .int .i64 ((u * m : Nat) : Int)], .int .i64 n] w fun e w' => e = .returned (.int .i64 (mxO u c m n)) ∧ Below w.heap.size w w' := by
  have Hd := Lib.hid (decide_eq_true h.lay)
  have H := fun i (hi : i ≤ 512) w => Lib.hid (rplace_any u c m i w h (by omega))
  have Hle := Lib.hid (fun i => pO_le h i)
  generalize ((u * m : Nat) : Int) = O at Hd H ⊢
  clear h
  go_enter Try.func68, Try.ntmps68
  go_wp2_with fail
  refine (May_any u c O _).mono ?_
  rintro e w1 ⟨rfl, hb1⟩
  rw [Hd.out]
  have HL := Lib.hid ((LayAt.box w u c O 23).to hb1)
  have Hb1 := Lib.hid (bel1 hb1)
  clear hb1
  go_wp2_with fail
  go_loopw [6, 7] (fun x i wr => ∃ j : Nat, j ≤ n ∧ i = .int .i64 j ∧ x = .int .i64 (mxO u c m j) ∧ Hid (LayAt w.heap.size u c O wr) ∧ Hid (Below w.heap.size w wr) ∧ Hid (mxO u c m j ≤ j)) (fun _ i _ => n - (intOf i).toNat)
  case atStart => exact ⟨0, Nat.zero_le _, rfl, rfl, HL, Hb1, Nat.le_refl _⟩
  case round =>
    obtain ⟨j, hj, rfl, rfl, HLr, Hbr, Hm⟩ := hrel
    have c0 := HLr.out.c0
    have c1 := HLr.out.c1
    have c2 := HLr.out.c2
    have Hstep := Lib.hid (show mxO u c m (j + 1) = max (mxO u c m j) (pO u c m j + 1) from rfl)
    obtain ⟨x, hx⟩ : ∃ x, x = mxO u c m j := ⟨_, rfl⟩
    have hx1 : x ≤ 512 := by have := Hm.out; omega
    have hp1 : pO u c m j ≤ 512 := by have := Hle.out j; omega
    rw [← hx] at Hstep Hm ⊢
    by_cases hlt : j < n
    · go_wp2_with (go_at_call 99; refine (H j (by omega) _).out.mono ?_; rintro e w2 ⟨rfl, hb2⟩)
      all_goals
        have Hb2 := Lib.hid (Hbr.out.trans (hb2.mono Hbr.out.size))
        have HL2 := Lib.hid (HLr.out.to hb2)
        go_roundw
        case rel =>
          have hst := Hstep.out
          have hle := Hle.out j
          have hm := Hm.out
          exact ⟨j + 1, by omega, by go_num, by congr 1; omega, HL2, Hb2, by show _ ≤ _; omega⟩
        case measure => simp [intOf]; omega
    · obtain rfl : j = n := by omega
      go_wp2_with fail
      go_ret
      exact ⟨by rw [hx]; rfl, Hbr.out⟩

set_option maxRecDepth 10000 in
set_option maxHeartbeats 1000000 in
theorem RObjects_no (U C O n : Int) (w : World) (h : ¬ (Lay U C O ∧ 0 ≤ n ∧ n ≤ 512)) :
    Calls Try.prog 68 #[.agg #[.int .i64 U, .int .i64 C, .int .i64 O], .int .i64 n] w fun e w' => e = .returned (.int .i64 0) ∧ Below w.heap.size w w' := by
  by_cases hL : Lay U C O
  · have Hd := Lib.hid (decide_eq_true hL)
    by_cases h0 : 0 < n
    · have h5 : 512 < n := Int.not_le.1 fun q => h ⟨hL, by omega, q⟩
      clear hL h
      go_enter Try.func68, Try.ntmps68
      go_wp2_with fail
      refine (May_any U C O _).mono ?_
      rintro e w1 ⟨rfl, hb1⟩
      rw [Hd.out]
      have Hb1 := Lib.hid (bel1 hb1)
      clear hb1
      go_wp2_with fail
      go_loopw [6, 7] (fun x i wr => x = .int .i64 0 ∧ i = .int .i64 0 ∧ wr = w1) (fun _ _ _ => 0)
      case atStart => exact ⟨rfl, rfl, rfl⟩
      case round =>
        obtain ⟨rfl, rfl, rfl⟩ := hrel
        go_wp2_with fail
        go_ret
        exact ⟨rfl, Hb1.out⟩
    · clear hL h
      go_enter Try.func68, Try.ntmps68
      go_wp2_with fail
      refine (May_any U C O _).mono ?_
      rintro e w1 ⟨rfl, hb1⟩
      rw [Hd.out]
      have Hb1 := Lib.hid (bel1 hb1)
      clear hb1
      go_wp2_with fail
      go_loopw [6, 7] (fun x i wr => x = .int .i64 0 ∧ i = .int .i64 0 ∧ wr = w1) (fun _ _ _ => 0)
      case atStart => exact ⟨rfl, rfl, rfl⟩
      case round =>
        obtain ⟨rfl, rfl, rfl⟩ := hrel
        go_wp2_with fail
        go_ret
        exact ⟨rfl, Hb1.out⟩
  · have Hd := Lib.hid (decide_eq_false hL)
    clear hL h
    go_enter Try.func68, Try.ntmps68
    go_wp2_with fail
    refine (May_any U C O _).mono ?_
    rintro e w1 ⟨rfl, hb1⟩
    rw [Hd.out]
    have Hb1 := Lib.hid (bel1 hb1)
    clear hb1
    go_wp2_with fail
    go_loopw [6, 7] (fun x i wr => x = .int .i64 0 ∧ i = .int .i64 0 ∧ wr = w1) (fun _ _ _ => 0)
    case atStart => exact ⟨rfl, rfl, rfl⟩
    case round =>
      obtain ⟨rfl, rfl, rfl⟩ := hrel
      go_wp2_with fail
      go_ret
      exact ⟨rfl, Hb1.out⟩

/-- mxR, for any number in the place of the object -/
def mxRI (u c m : Nat) (ob : Int) : Nat → Nat
  | 0 => 0
  | i + 1 => if (pO u c m i : Int) = ob then max (mxRI u c m ob i) (pK u c m i + 1) else mxRI u c m ob i
theorem mxRI_nat (u c m ob : Nat) : ∀ n, mxRI u c m (ob : Int) n = mxR u c m ob n
  | 0 => rfl
  | n + 1 => by
    rw [mxRI, mxR, mxRI_nat u c m ob n]
    by_cases h : pO u c m n = ob
    · rw [if_pos h, if_pos (by omega)]
    · rw [if_neg h, if_neg (by omega)]
theorem mxRI_out {u c m : Nat} (ob : Int) : ∀ n, (∀ j, j < n → (pO u c m j : Int) ≠ ob) → mxRI u c m ob n = 0
  | 0, _ => rfl
  | n + 1, h => by rw [mxRI, if_neg (h n (by omega)), mxRI_out ob n (fun j q => h j (by omega))]
theorem mxRI_le {u c m : Nat} (hL : LN u c m) (ob : Int) : ∀ n, mxRI u c m ob n ≤ 64
  | 0 => by rw [mxRI]; omega
  | n + 1 => by
    have := mxRI_le hL ob n
    have h1 := pK_lt hL n
    have h2 := hL.um
    rw [mxRI]
    split <;> omega

end Go.Proofs.Ytaobdebeglenaaa

namespace Go.Proofs.Ytaobdebeglenaaa
open Go.RowKit

set_option maxRecDepth 10000 in
set_option maxHeartbeats 1000000 in
theorem Objects_let (U C O n S s1 r1 x1 u1 p1 m1 t1 : Int) (w : World) (hv : ([n].all far && decide (Lay U C O)) = true) (hn : n ≤ 512) (hS : O * C = S) (hS0 : 1 ≤ S) (hS1 : S ≤ 512) (hU : 1 ≤ U) (hU64 : U ≤ 64) (hr0 : 0 ≤ r1) (hrS : r1 ≤ 512)
    (hs1 : IntKind.i64.wrap (n.tdiv S) = s1) (hr1 : n.tmod S = r1) (hx1 : r1 + U - 1 = x1) (hu1 : x1 / U = u1) (hp1 : s1 * C = p1) (hp0 : 0 ≤ p1) (hp2 : p1 ≤ 4096) (hu0 : 0 ≤ u1) (hu2 : u1 ≤ 512) (hC0 : 1 ≤ C) (hC8 : C ≤ 8) (hm1 : min u1 C = m1) (ht1 : p1 + m1 = t1) :
    Calls Try.prog 70 #[.agg #[.int .i64 U, .int .i64 C, .int .i64 O], .int .i64 n] w fun e w' => e = .returned (.int .i64 t1) ∧ Below w.heap.size w w' := by
  have Hv := Lib.hid hv
  have HS := Lib.hid hS
  have HS0 := Lib.hid (show 0 ≤ S by omega)
  have hUn : U ≠ 0 := by omega
  have hSn : S ≠ 0 := by omega
  clear hv hS
  go_enter Try.func70, Try.ntmps70
  go_wp2_with fail
  refine (valid_any U C O _ 1 1 [n] _ _ (lit1 _ _ _ _ (by simp)) (by simp) (by omega)).mono ?_
  rintro e w1 ⟨rfl, hb1⟩
  rw [Hv.out]
  have HL := Lib.hid (((LayAt.box w U C O 23).more (.cells #[.int .i64 n] 3)).to hb1)
  have Hb1 := Lib.hid (bel2 hb1)
  have HB := Lib.hid (Nat.le_refl w.heap.size)
  clear hb1
  go_wp2_with fail
  go_region_held3 (fun w' => w'.cell? ⟨w.heap.size, 0, none⟩ = some (.int .i64 U) ∧ w'.cell? ⟨w.heap.size, 1, none⟩ = some (.int .i64 C) ∧ w'.cell? ⟨w.heap.size, 2, none⟩ = some (.int .i64 O) ∧ Hid (Below w.heap.size w w')) (first | exact keepL (by assumption) HB (by assumption) | exact startL HL Hb1 | exact startD HL Hb1) (first
    | (go_at_call 102; refine (set_any U C O S _ HS.out HS0.out hS1).mono ?_; rintro e w1 ⟨rfl, hb1⟩))
  obtain ⟨HL2, Hb2⟩ : Hid (LayAt w.heap.size U C O w1) ∧ Hid (Below w.heap.size w w1) := bothL (by assumption)
  clear HL Hb1
  have c0 := HL2.out.c0
  have c1 := HL2.out.c1
  go_wp2_with fail
  all_goals
    go_ret
    exact ⟨ret_int (by omega), Hb2.out⟩

theorem Objects_ok (u c m n : Nat) (w : World) (h : LN u c m) (hn : n ≤ 512) :
    Calls Try.prog 70 #[.agg #[.int .i64 u, .int .i64 c, .int .i64 ((u * m : Nat) : Int)], .int .i64 n] w fun e w' => e = .returned (.int .i64 (objs u c m n)) ∧ Below w.heap.size w w' := by
  have hS := h.S512
  have hu := h.u64
  have hc := h.c8
  have hu1 := h.u1
  have b1 : n / (u * m * c) ≤ n := Nat.div_le_self _ _
  have b2 : n % (u * m * c) < u * m * c := Nat.mod_lt _ h.S1
  have b3 : n / (u * m * c) * c ≤ 512 * 8 := Nat.mul_le_mul (by omega) hc
  have b4 : (n % (u * m * c) + u - 1) / u ≤ n % (u * m * c) + u - 1 := Nat.div_le_self _ _
  have b5 : (n % (u * m * c) + u - 1) / u ≤ 512 := by
    refine Nat.le_trans (Nat.div_le_div_right (c := u) (show _ ≤ 512 * u by have := Nat.mul_le_mul_left 512 hu1; have : n % (u * m * c) + u ≤ 512 * u + 1 - 1 + 0 ∨ u = 0 ∨ True := .inr (.inr trivial); omega)) ?_
    rw [Nat.mul_div_cancel _ hu1]
    exact Nat.le_refl _
  have hv : ([(n : Int)].all far && decide (Lay (u : Int) (c : Int) ((u * m : Nat) : Int))) = true := by
    rw [decide_eq_true h.lay]; simp [far]; omega
  unfold objs
  obtain ⟨z, hz⟩ : ∃ z, z = (n % (u * m * c) + u - 1) / u := ⟨_, rfl⟩
  rw [← hz] at b4 b5 ⊢
  refine Objects_let (u : Int) (c : Int) ((u * m : Nat) : Int) (n : Int) ((u * m * c : Nat) : Int) ((n / (u * m * c) : Nat) : Int) ((n % (u * m * c) : Nat) : Int) ((n % (u * m * c) + u - 1 : Nat) : Int) (z : Int) ((n / (u * m * c) * c : Nat) : Int) ((min z c : Nat) : Int) _ w
    hv (by omega) (by norm_cast) (by have := h.S1; omega) (by omega) (by omega) (by omega) (by omega) (by omega) ?_ ?_ (by omega) (by rw [hz]; norm_cast) (by norm_cast) (by omega) (by omega) (by omega) (by omega) (by have := h.c1; omega) (by omega) (by omega) (by omega)
  · rw [tdivN]; exact wrapN (by omega)
  · rw [tmodN]

set_option maxRecDepth 10000 in
set_option maxHeartbeats 1000000 in
theorem Objects_no (U C O n : Int) (w : World) (h : ¬ (Lay U C O ∧ 0 ≤ n ∧ n ≤ 512)) :
    Calls Try.prog 70 #[.agg #[.int .i64 U, .int .i64 C, .int .i64 O], .int .i64 n] w fun e w' => e = .returned (.int .i64 0) ∧ Below w.heap.size w w' := by
  by_cases hv : ([n].all far && decide (Lay U C O)) = true
  · have hn : 512 < n := by
      simp [far] at hv
      exact Int.not_le.1 fun q => h ⟨hv.2, hv.1.1, q⟩
    have Hv := Lib.hid hv
    clear h hv
    go_enter Try.func70, Try.ntmps70
    go_wp2_with fail
    refine (valid_any U C O _ 1 1 [n] _ _ (lit1 _ _ _ _ (by simp)) (by simp) (by omega)).mono ?_
    rintro e w1 ⟨rfl, hb1⟩
    rw [Hv.out]
    have Hb1 := Lib.hid (bel2 hb1)
    clear hb1
    go_wp2_with fail
    go_ret
    exact ⟨rfl, Hb1.out⟩
  · have Hv := Lib.hid (Bool.eq_false_iff.2 hv)
    clear h hv
    go_enter Try.func70, Try.ntmps70
    go_wp2_with fail
    refine (valid_any U C O _ 1 1 [n] _ _ (lit1 _ _ _ _ (by simp)) (by simp) (by omega)).mono ?_
    rintro e w1 ⟨rfl, hb1⟩
    rw [Hv.out]
    have Hb1 := Lib.hid (bel2 hb1)
    clear hb1
    go_wp2_with fail
    go_ret
    exact ⟨rfl, Hb1.out⟩

end Go.Proofs.Ytaobdebeglenaaa
