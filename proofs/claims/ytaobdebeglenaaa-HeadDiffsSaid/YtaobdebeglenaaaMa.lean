/- Words of my own: a slice of bytes that reads as a list, number encodings; nothing here speaks of a program. Maps of objects' states, plain (no program): states, the canonical map, set, fresh, merge, what changed, bytes. Plain facts on the encodings of numbers: order, and the greatest number. Plain consequences for the laws of layer 5: what changed goes through; behind a snapshot nothing is Dirty. No program. -/
import Derived.WalkKit
import Derived.WalkSpells
import Derived.Lib.Hide
import Derived.Laws.AppendOwnNone
import Derived.Deep.Draws

namespace Go.Proofs.Ytaobdebeglenaaa
open Go.RowKit

theorem ret_int {k : IntKind} {a b : Int} (h : a = b) : Ending.returned (.int k a) = .returned (.int k b) := by rw [h]

/-- one byte as a value -/
def bv (x : UInt8) : Value := .int .u8 (x.toNat : Int)

/-- In world w the slice of address A and length n reads as the bytes l, and its cells lie below block B. -/
def Rd (w : World) (B : Nat) (A : Option Addr) (n : Nat) (l : List UInt8) : Prop :=
  l.length = n ∧ (0 < n → ∃ ad, A = some ad ∧ ad.block < B ∧ ∀ j (h : j < l.length), w.cell? (ad.add j) = some (bv l[j]))

theorem addB (a : Addr) (n : Nat) : (a.add n).block = a.block := by unfold Addr.add; split <;> rfl
theorem addadd (a : Addr) (i j : Nat) : (a.add i).add j = a.add (i + j) := by
  unfold Addr.add
  by_cases hi : i = 0 <;> by_cases hj : j = 0 <;> simp [hi, hj, Nat.add_assoc]

section
variable {w w' : World} {B B' n : Nat} {A : Option Addr} {l : List UInt8}
theorem Rd.nil : Rd w B A 0 [] := ⟨rfl, fun h => absurd h (by omega)⟩
theorem Rd.keep (h : Rd w B A n l) (hk : ∀ p : Addr, p.block < B → w'.cell? p = w.cell? p) : Rd w' B A n l := by
  refine ⟨h.1, fun hn => ?_⟩
  obtain ⟨ad, e, hb, hc⟩ := h.2 hn
  exact ⟨ad, e, hb, fun j hj => (hk _ (by rw [addB]; exact hb)).trans (hc j hj)⟩
theorem Rd.more (h : Rd w B A n l) (hB : B ≤ B') : Rd w B' A n l := by
  refine ⟨h.1, fun hn => ?_⟩
  obtain ⟨ad, e, hb, hc⟩ := h.2 hn
  exact ⟨ad, e, by omega, hc⟩
theorem Rd.below (h : Rd w B A n l) (hb : Below B w w') : Rd w' B A n l := h.keep fun _ hp => hb.cell hp
theorem Rd.alloc (h : Rd w B A n l) (hB : B ≤ w.heap.size) (o : Obj) : Rd (w.alloc o) B A n l :=
  h.keep fun p hp => World.cell?_alloc_lt w o p (by omega)
theorem Rd.drewN (h : Rd w B A n l) (q : Nat) : Rd (w.drewN q) B A n l := h
theorem Rd.drew (h : Rd w B A n l) : Rd w.drew B A n l := h
theorem Rd.cellAt (h : Rd w B A n l) {k : Nat} (hk : k < n) : ∃ ad, A = some ad ∧ ad.block < B ∧ w.cell? (ad.add k) = some (bv (l[k]'(by rw [h.1]; exact hk))) := by
  obtain ⟨ad, e, hb, hc⟩ := h.2 (by omega)
  exact ⟨ad, e, hb, hc k (by rw [h.1]; exact hk)⟩
theorem Rd.vals (h : Rd w B A n l) (hn : 0 < n) : ∃ ad, A = some ad ∧ ∀ j v, (l.map bv)[j]? = some v → w.cell? (ad.add j) = some v := by
  obtain ⟨ad, e, hb, hc⟩ := h.2 hn
  refine ⟨ad, e, fun j v hv => ?_⟩
  rw [List.getElem?_map, Option.map_eq_some_iff] at hv
  obtain ⟨x, hx, rfl⟩ := hv
  obtain ⟨hj, rfl⟩ := List.getElem?_eq_some_iff.1 hx
  exact hc j hj
/-- 's[:k]' -/
theorem Rd.take (h : Rd w B A n l) {k : Nat} (hk : k ≤ n) : Rd w B A k (l.take k) := by
  refine ⟨by rw [List.length_take, h.1]; omega, fun hn => ?_⟩
  obtain ⟨ad, e, hb, hc⟩ := h.2 (by omega)
  refine ⟨ad, e, hb, fun j hj => ?_⟩
  rw [List.getElem_take]
  exact hc j _
/-- 's[k:]' -/
theorem Rd.drop (h : Rd w B A n l) {k cap : Nat} (hk : k ≤ n) (hc : n ≤ cap) : Rd w B (if cap = k then A else A.map (·.add k)) (n - k) (l.drop k) := by
  refine ⟨by rw [List.length_drop, h.1], fun hn => ?_⟩
  obtain ⟨ad, rfl, hb, hcell⟩ := h.2 (by omega)
  rw [if_neg (by omega)]
  refine ⟨ad.add k, rfl, by rw [addB]; exact hb, fun j hj => ?_⟩
  rw [addadd, List.getElem_drop]
  exact hcell _ _
end

/-- In world w the slice of address A and length n reads as the ints l, and its cells lie below block B. -/
def RdI (w : World) (B : Nat) (A : Option Addr) (n : Nat) (l : List Int) : Prop :=
  l.length = n ∧ (0 < n → ∃ ad, A = some ad ∧ ad.block < B ∧ ∀ j (h : j < l.length), w.cell? (ad.add j) = some (.int .i64 l[j]))
section
variable {w w' : World} {B B' n : Nat} {A : Option Addr} {l : List Int}
theorem RdI.nil : RdI w B A 0 [] := ⟨rfl, fun h => absurd h (by omega)⟩
theorem RdI.keep (h : RdI w B A n l) (hk : ∀ p : Addr, p.block < B → w'.cell? p = w.cell? p) : RdI w' B A n l := by
  refine ⟨h.1, fun hn => ?_⟩
  obtain ⟨ad, e, hb, hc⟩ := h.2 hn
  exact ⟨ad, e, hb, fun j hj => (hk _ (by rw [addB]; exact hb)).trans (hc j hj)⟩
theorem RdI.more (h : RdI w B A n l) (hB : B ≤ B') : RdI w B' A n l := by
  refine ⟨h.1, fun hn => ?_⟩
  obtain ⟨ad, e, hb, hc⟩ := h.2 hn
  exact ⟨ad, e, by omega, hc⟩
theorem RdI.below (h : RdI w B A n l) (hb : Below B w w') : RdI w' B A n l := h.keep fun _ hp => hb.cell hp
theorem RdI.alloc (h : RdI w B A n l) (hB : B ≤ w.heap.size) (o : Obj) : RdI (w.alloc o) B A n l :=
  h.keep fun p hp => World.cell?_alloc_lt w o p (by omega)
theorem RdI.drewN (h : RdI w B A n l) (q : Nat) : RdI (w.drewN q) B A n l := h
theorem RdI.cellAt (h : RdI w B A n l) {k : Nat} (hk : k < n) : ∃ ad, A = some ad ∧ ad.block < B ∧ w.cell? (ad.add k) = some (.int .i64 (l[k]'(by rw [h.1]; exact hk))) := by
  obtain ⟨ad, e, hb, hc⟩ := h.2 (by omega)
  exact ⟨ad, e, hb, hc k (by rw [h.1]; exact hk)⟩
theorem RdI.take (h : RdI w B A n l) {k : Nat} (hk : k ≤ n) : RdI w B A k (l.take k) := by
  refine ⟨by rw [List.length_take, h.1]; omega, fun hn => ?_⟩
  obtain ⟨ad, e, hb, hc⟩ := h.2 (by omega)
  refine ⟨ad, e, hb, fun j hj => ?_⟩
  rw [List.getElem_take]
  exact hc j _
end
theorem RdI.own {w : World} {base e n c : Nat} {A : Option Addr} {l : List Int} (h : w.ownsRow base e 1 (.slice A n c) n (l.map (Value.int .i64))) : RdI w w.heap.size A n l := by
  have h0 := h.1
  rw [List.length_map] at h0
  refine ⟨by omega, fun hn => ?_⟩
  rcases h.2 with ⟨_, hz⟩ | ⟨g, cap, cur, hv, _, hg, _⟩
  · omega
  · have hA : A = some ⟨g, 0, none⟩ := by injection hv
    subst hA
    refine ⟨_, rfl, lt_of_block hg, fun j hj => ?_⟩
    exact h.cells (g := g) rfl j _ (by rw [List.getElem?_map, List.getElem?_eq_getElem hj]; rfl)

theorem bv_one (l : List UInt8) : ∀ v ∈ l.map bv, v.oneCell' = true := by
  intro v hv
  obtain ⟨x, _, rfl⟩ := List.mem_map.1 hv
  rfl

/-- what the call owns reads as bytes -/
theorem Rd.own {w : World} {base e n c : Nat} {A : Option Addr} {l : List UInt8} (h : w.ownsRow base e 1 (.slice A n c) n (l.map bv)) : Rd w w.heap.size A n l := by
  have h0 := h.1
  rw [List.length_map] at h0
  refine ⟨by omega, fun hn => ?_⟩
  rcases h.2 with ⟨_, hz⟩ | ⟨g, cap, cur, hv, _, hg, _⟩
  · omega
  · have hA : A = some ⟨g, 0, none⟩ := by injection hv
    subst hA
    refine ⟨_, rfl, lt_of_block hg, fun j hj => ?_⟩
    exact h.cells (g := g) rfl j _ (by rw [List.getElem?_map, List.getElem?_eq_getElem hj]; rfl)

theorem run_mk {P : Program} {t e : TypeId} {i : TypeInfo} {z : Value} (ht : P.underlying t = some (.slice e)) (hi : P.info? e = some i) (hz : i.zero = some z)
    (hs : i.size = 1) (hby : i.bytes ≤ 8) (n c : Nat) (k : Int) (hk : k = (c : Int)) (hnc : n ≤ c) (hc : c ≤ 1099511627776) (w : World) :
    (Instr.makeSlice t (.int .i64 (n : Int)) (.int .i64 k)).run P w = .ok (.slice (some ⟨w.heap.size, 0, none⟩) n c) (w.alloc (.cells (madeCells z.cells c) e)) := by
  subst hk
  have hb : (i.bytes : Int) * (c : Int) ≤ 281474976710656 := by
    have : i.bytes * c ≤ 8 * 1099511627776 := Nat.mul_le_mul hby hc
    have h : ((i.bytes * c : Nat) : Int) ≤ 281474976710656 := by omega
    rwa [Int.natCast_mul] at h
  have hr := run_make (P := P) w t e i z ht hi hz .i64 .i64 n c (by omega) (by omega) hb (by omega)
  simpa only [Int.toNat_natCast, hs, Nat.mul_one] using hr

/-- copy of a slice that reads as l into a row that was just made -/
theorem run_copy_fresh {P : Program} {t ty e : TypeId} (ht : P.underlying t = some (.slice e)) (hs : (P.info? e).map (·.size) = some 1)
    (w : World) (cur : Array Value) (n c c' : Nat) (A : Option Addr) (l : List UInt8) (hc : cur.size = c) (hnc : n ≤ c) (hcm : c ≤ maxLen) (hr : Rd w w.heap.size A n l) :
    ∃ W, (Builtin.copy_ #[t, t] ty #[.slice (some ⟨w.heap.size, 0, none⟩) n c, .slice A n c']).run P (w.alloc (.cells cur e)) = .ok (.int .i64 n) W ∧
      W.ownsRow w.heap.size e 1 (.slice (some ⟨w.heap.size, 0, none⟩) n c) n (l.map bv) ∧ Below w.heap.size w W := by
  have hl := hr.1
  rcases Nat.eq_zero_or_pos n with h0 | h0
  · subst h0
    obtain rfl : l = [] := List.eq_nil_of_length_eq_zero hl
    refine ⟨_, run_copy_none (P := P) _ t t ty e _ _ 0 c 0 c' ht hs (by simp), ?_, (Below.refl _ _).alloc (Nat.le_refl _) _⟩
    have h := World.ownsRow_made (base := w.heap.size) (e := e) (size := 1) w cur c (Nat.le_refl _) hcm (by omega)
    simpa using h
  · obtain ⟨ad, rfl, hv⟩ := (hr.alloc (Nat.le_refl _) (.cells cur e)).vals h0
    have hg := heap_alloc_new w (.cells cur e)
    have hrun := run_copy_row (P := P) _ t t ty e w.heap.size 0 n c ad n c' cur e (l.map bv) ht hs hg (by simp [hl]) hv (by simp [hl]; omega) (bv_one l)
    rw [List.length_map, hl] at hrun
    refine ⟨_, hrun, ⟨by simp [hl], .inr ⟨_, c, _, rfl, Nat.le_refl _, setRow_heap _ _ cur _ e _ hg, hnc, hcm, ?_, ?_⟩⟩, ?_⟩
    · simp [hl]; omega
    · have hn : n = (l.map bv).length := by simp [hl]
      simp only [List.take_zero, List.nil_append, Nat.zero_add, Nat.mul_one]
      show List.take n (l.map bv ++ cur.toList.drop n) = l.map bv
      rw [hn, List.take_left' rfl]
    · exact ((Below.refl _ _).alloc (Nat.le_refl _) _).trans ⟨rfl, rfl, rfl, by simp [World.setRow], fun k hk => setRow_other _ _ k _ (by omega)⟩


/-- the width that a width argument counts as -/
def fitW (x : Int) : Nat := (min (max x 1) 7).toNat
theorem fitW_bd (x : Int) : 1 ≤ fitW x ∧ fitW x ≤ 7 := by unfold fitW; omega

/-- the bytes of m in w bytes, most significant first -/
def encB (w m : Nat) : List UInt8 := (List.range w).map fun i => UInt8.ofNat (m / 256 ^ (w - 1 - i))
theorem encB_length (w m : Nat) : (encB w m).length = w := by simp [encB]
/-- the number that a number argument counts as -/
def clampN (w : Nat) (x : Int) : Nat := (min (max x 0) ((256 : Int) ^ w - 1)).toNat
theorem encB_take_succ (w m k : Nat) (h : k < w) : (encB w m).take (k + 1) = (encB w m).take k ++ [UInt8.ofNat (m / 256 ^ (w - 1 - k))] := by
  rw [List.take_succ_eq_append_getElem (by rw [encB_length]; exact h)]
  simp [encB]
theorem bv_ofNat (n : Nat) : bv (UInt8.ofNat n) = .int .u8 ((n % 256 : Nat) : Int) := by simp [bv]
/-- the number that bytes encode, most significant first -/
def decB (l : List UInt8) : Nat := l.foldl (fun a b => a * 256 + b.toNat) 0
theorem decB_snoc (l : List UInt8) (b : UInt8) : decB (l ++ [b]) = decB l * 256 + b.toNat := by simp [decB]
theorem decB_take_succ (l : List UInt8) (k : Nat) (h : k < l.length) : decB (l.take (k + 1)) = decB (l.take k) * 256 + l[k].toNat := by
  rw [List.take_succ_eq_append_getElem h, decB_snoc]
theorem decB_lt_aux : ∀ (l : List UInt8) (a : Nat), l.foldl (fun a b => a * 256 + b.toNat) a < (a + 1) * 256 ^ l.length
  | [], a => by simp
  | b :: l, a => by
    have ih := decB_lt_aux l (a * 256 + b.toNat)
    have hb := b.toNat_lt
    have h1 : (a * 256 + b.toNat + 1) * 256 ^ l.length ≤ ((a + 1) * 256) * 256 ^ l.length := Nat.mul_le_mul_right _ (by omega)
    rw [List.foldl_cons, List.length_cons, Nat.pow_succ, Nat.mul_comm (256 ^ l.length) 256, ← Nat.mul_assoc]
    omega
theorem decB_lt (l : List UInt8) : decB l < 256 ^ l.length := by
  have := decB_lt_aux l 0
  simpa [decB] using this
theorem pow_byte (m e : Nat) : ((m / 256 ^ e % 256 : Nat) : Int) = (m : Int) / 2 ^ (8 * e) % 256 := by
  have h : (256 : Nat) ^ e = 2 ^ (8 * e) := by rw [Nat.pow_mul]
  rw [h]; simp
theorem or_byte (a d : Nat) (ha : a < 281474976710656) (hd : d < 256) : bits .or .i64 ((a : Int) * 256) (d : Int) = ((a * 256 + d : Nat) : Int) := by
  have e : ∀ n : Nat, n < 9223372036854775808 → (BitVec.ofInt 64 (n : Int)).toNat = n := fun n hn => by
    rw [BitVec.ofInt_natCast, BitVec.toNat_ofNat]; exact Nat.mod_eq_of_lt (by omega)
  have h1 : ((a : Int) * 256) = ((a * 256 : Nat) : Int) := by omega
  have h2 : a * 256 ||| d = a * 256 + d := by
    have := Nat.shiftLeft_add_eq_or_of_lt (i := 8) (b := d) (by omega) a
    rw [Nat.shiftLeft_eq] at this
    exact this.symm
  rw [h1]
  show IntKind.i64.wrap ((BitVec.ofInt 64 ((a * 256 : Nat) : Int) ||| BitVec.ofInt 64 (d : Int)).toNat : Int) = _
  rw [BitVec.toNat_or, e _ (by omega), e _ (by omega), IntKind.wrap_i64, h2]
  omega
theorem ownsRow_form {w : World} {base n : Nat} {e : TypeId} {v : Value} {xs : List Value} (h : w.ownsRow base e 1 v n xs) : ∃ A c, v = .slice A n c ∧ n ≤ c ∧ c ≤ maxLen := by
  rcases h.2 with ⟨rfl, rfl⟩ | ⟨g, cap, cur, rfl, _, _, h1, h2, _⟩
  · exact ⟨none, 0, rfl, Nat.le_refl _, by simp [maxLen]⟩
  · exact ⟨_, _, rfl, h1, h2⟩
theorem run_append_none {P : Program} {w : World} {base : Nat} {t ty e : TypeId} {i : TypeInfo} {v : Value} {n : Nat} {xs : List Value} (ht : P.underlying t = some (.slice e)) (hi : P.info? e = some i)
    (hown : w.ownsRow base e 1 v n xs) (c : Nat) : (Builtin.append_ #[t, t] ty #[v, .slice none 0 c]).run P w = .ok v w := by
  rcases hown.2 with ⟨rfl, _⟩ | ⟨g, cap, cur, rfl, _, _, hnc, _⟩
  · simp [Builtin.append_, run_underlying ht, sizeOf, typeInfo, hi, Builtin.lenOf, Builtin.firstCells]
  · simp [Builtin.append_, run_underlying ht, sizeOf, typeInfo, hi, Builtin.lenOf, Builtin.firstCells, hnc, storeCells]

/-- append onto a row of the call's own, of a slice (nil let in) that reads as 'news' -/
theorem wpList_append_rd {P : Program} {w : World} {ops : Array Oper} {rest : List Oper} {o : Oper} {a : Act} {Q : Exit → Act → World → Prop} (hgd : o.guard = none) (s x : Operand) (t : TypeId)
    (ho : o.op = .call { callee := .builtin .append, args := #[s, x], argTypes := #[t, t] })
    (base : Nat) (e : TypeId) (i : TypeInfo) (z : Value) (bytes : Nat) (ht : P.underlying t = some (.slice e)) (hi : P.info? e = some i) (hz : i.zero = some z)
    (hsize : i.size = 1) (hby : i.bytes = bytes) (hzs : z.cells.size = 1)
    (v : Value) (n : Nat) (xs : List Value) (hs : a.eval s = v) (hown : w.ownsRow base e 1 v n xs)
    (A : Option Addr) (m c : Nat) (news : List Value) (hx : a.eval x = .slice A m c) (hl : news.length = m) (hrd : 0 < m → ∃ ad, A = some ad ∧ ∀ j u, news[j]? = some u → w.cell? (ad.add j) = some u) (h1 : ∀ u ∈ news, u.oneCell' = true)
    (h63 : n + m ≤ maxLen) (hbytes : (n + m) * bytes ≤ 140737488355328) (hbase : base ≤ w.heap.size)
    (h : ∀ v' w', w'.ownsRow base e 1 v' (n + m) (xs ++ news) → w.grownBy w' v.ownBlock → wpList P ops Q rest (a.put o.dst v') w') : wpList P ops Q (o :: rest) a w := by
  rcases A with _ | ad
  · have hm : m = 0 := by
      rcases Nat.eq_zero_or_pos m with h0 | h0
      · exact h0
      · obtain ⟨ad, hc, _⟩ := hrd h0
        cases hc
    subst hm
    obtain rfl : news = [] := List.eq_nil_of_length_eq_zero hl
    refine wpList_plain hgd fun K hK => ?_
    have hrun := run_append_none (P := P) (ty := o.type) ht hi hown c
    unfold Oper.wp
    simp [execOp, ho, resolve, invoke, builtin, hs, hx, hrun, Result.andThen]
    exact hK _ _ (h v w (by simpa using hown) (World.grownBy.refl w _))
  · refine wpList_append_own w hgd s x t ho base e i z 1 bytes ht hi hz hsize hby hzs (by decide) v n xs hs hown ad m c news hx (by omega) (fun j u hu => ?_) h1 h63 hbytes hbase (fun v' w' h2 h3 _ => h v' w' h2 h3)
    have hj : j < news.length := (List.getElem?_eq_some_iff.1 hu).1
    obtain ⟨ad', hc, hcell⟩ := hrd (by omega)
    cases hc
    exact hcell j u hu
theorem Rd.src {w : World} {B n : Nat} {A : Option Addr} {l : List UInt8} (h : Rd w B A n l) : 0 < n → ∃ ad, A = some ad ∧ ∀ j u, (l.map bv)[j]? = some u → w.cell? (ad.add j) = some u := fun hn => h.vals hn
theorem mul_bd {a b A B : Nat} (ha : a ≤ A) (hb : b ≤ B) : 0 ≤ (a : Int) * (b : Int) ∧ (a : Int) * (b : Int) ≤ ((A * B : Nat) : Int) := by
  have h := Nat.mul_le_mul ha hb
  have e : (a : Int) * (b : Int) = ((a * b : Nat) : Int) := by simp
  rw [e]
  omega
theorem one_new (w : World) (x : Value) (t : TypeId) : ∀ j u, [x][j]? = some u → (w.alloc (.cells #[x] t)).cell? ((⟨w.heap.size, 0, none⟩ : Addr).add j) = some u := by
  intro j u hu
  match j, hu with
  | 0, hu => simp at hu; subst hu; simp [Addr.add]
theorem Rd_lit (w : World) (t : TypeId) (l : List UInt8) : Rd (w.alloc (.cells (l.map bv).toArray t)) (w.heap.size + 1) (some ⟨w.heap.size, 0, none⟩) l.length l :=
  ⟨rfl, fun _ => ⟨_, rfl, Nat.lt_succ_self _, fun j hj => by
    have hadd : (⟨w.heap.size, 0, none⟩ : Addr).add j = ⟨w.heap.size, j, none⟩ := by unfold Addr.add; split <;> simp_all
    rw [hadd, cell_of_row _ w.heap.size j (l.map bv).toArray t (0, 0) (heap_alloc_new w _)]
    simp [hj]⟩⟩
theorem RdI_lit (w : World) (t : TypeId) (l : List Int) : RdI (w.alloc (.cells (l.map (Value.int .i64)).toArray t)) (w.heap.size + 1) (some ⟨w.heap.size, 0, none⟩) l.length l :=
  ⟨rfl, fun _ => ⟨_, rfl, Nat.lt_succ_self _, fun j hj => by
    have hadd : (⟨w.heap.size, 0, none⟩ : Addr).add j = ⟨w.heap.size, j, none⟩ := by unfold Addr.add; split <;> simp_all
    rw [hadd, cell_of_row _ w.heap.size j (l.map (Value.int .i64)).toArray t (0, 0) (heap_alloc_new w _)]
    simp [hj]⟩⟩
end Go.Proofs.Ytaobdebeglenaaa

namespace Go.Proofs.Ytaobdebeglenaaa

/-- the state of object k -/
def gN (m : List Int) (k : Nat) : Int := if k < 512 ∧ 0 ≤ m.getD k 0 ∧ m.getD k 0 ≤ 2 then m.getD k 0 else 0
/-- .. of any number -/
def getO (m : List Int) (i : Int) : Int := if 0 ≤ i then gN m i.toNat else 0
def St (x : Int) : Prop := x = 0 ∨ x = 1 ∨ x = 2
theorem gN_st (m : List Int) (k : Nat) : St (gN m k) := by
  unfold gN St
  split <;> omega
theorem gN_high (m : List Int) {k : Nat} (h : 512 ≤ k) : gN m k = 0 := by
  unfold gN
  rw [if_neg (by omega)]
theorem gN_out (m : List Int) {k : Nat} (h : m.length ≤ k) : gN m k = 0 := by
  unfold gN
  rw [List.getD_eq_getElem?_getD, List.getElem?_eq_none h]
  split <;> rfl
theorem gN_nil (k : Nat) : gN [] k = 0 := gN_out [] (Nat.zero_le _)
theorem getO_neg (m : List Int) {i : Int} (h : i < 0) : getO m i = 0 := by unfold getO; rw [if_neg (by omega)]
theorem getO_nat (m : List Int) (k : Nat) : getO m k = gN m k := by unfold getO; rw [if_pos (by omega)]; rfl
theorem getO_out (m : List Int) {i : Int} (h : (m.length : Int) ≤ i) : getO m i = 0 := by
  unfold getO
  rw [if_pos (by omega), gN_out m (by omega)]
theorem getO_high (m : List Int) {i : Int} (h : 512 ≤ i) : getO m i = 0 := by
  unfold getO
  rw [if_pos (by omega), gN_high m (by omega)]

/-- what states may be: 0, 1, 2, and none from 512 on -/
def Sts (f : Nat → Int) : Prop := (∀ k, St (f k)) ∧ ∀ k, 512 ≤ k → f k = 0
theorem gN_sts (m : List Int) : Sts (gN m) := ⟨gN_st m, fun _ => gN_high m⟩
/-- how many states there are without those at the end that are None -/
def topF (f : Nat → Int) : Nat → Nat
  | 0 => 0
  | k + 1 => if f k ≠ 0 then k + 1 else topF f k
theorem topF_le (f : Nat → Int) : ∀ n, topF f n ≤ n
  | 0 => Nat.le_refl _
  | n + 1 => by
    unfold topF
    split
    · exact Nat.le_refl _
    · exact Nat.le_trans (topF_le f n) (Nat.le_succ n)
theorem topF_zero {f : Nat → Int} : ∀ {n k : Nat}, topF f n ≤ k → k < n → f k = 0
  | 0, _, _, h => by omega
  | n + 1, k, h, hk => by
    unfold topF at h
    split at h
    · omega
    · rename_i q
      by_cases e : k = n
      · subst e; simpa using q
      · exact topF_zero h (by omega)
theorem topF_last {f : Nat → Int} : ∀ {n : Nat}, 0 < topF f n → f (topF f n - 1) ≠ 0
  | 0, h => by simp [topF] at h
  | n + 1, h => by
    unfold topF at h ⊢
    split
    · rename_i q; rw [Nat.add_sub_cancel]; exact q
    · rename_i q
      rw [if_neg q] at h
      exact topF_last h
theorem topF_more {f : Nat → Int} {n : Nat} : ∀ {m : Nat}, n ≤ m → (∀ k, n ≤ k → f k = 0) → topF f m = topF f n
  | 0, h, _ => by obtain rfl : n = 0 := by omega
                  rfl
  | m + 1, h, hz => by
    by_cases e : n = m + 1
    · rw [e]
    · show (if f m ≠ 0 then m + 1 else topF f m) = _
      rw [if_neg (by simp [hz m (by omega)])]
      exact topF_more (by omega) hz
/-- the canonical map with these states -/
def rowF (f : Nat → Int) : List Int := (List.range (topF f 512)).map f
theorem rowF_len (f : Nat → Int) : (rowF f).length = topF f 512 := by simp [rowF]
theorem rowF_le (f : Nat → Int) : (rowF f).length ≤ 512 := by rw [rowF_len]; exact topF_le f 512
theorem rowF_getD (f : Nat → Int) (k : Nat) : (rowF f).getD k 0 = if k < topF f 512 then f k else 0 := by
  unfold rowF
  rw [List.getD_eq_getElem?_getD, List.getElem?_map]
  by_cases h : k < topF f 512
  · rw [List.getElem?_range h, if_pos h]; rfl
  · rw [if_neg h, List.getElem?_eq_none (by simpa using h)]; rfl
theorem gN_rowF {f : Nat → Int} (hf : Sts f) (k : Nat) : gN (rowF f) k = f k := by
  unfold gN
  rw [rowF_getD]
  by_cases h : k < topF f 512
  · have h2 := topF_le f 512
    have h3 := hf.1 k
    unfold St at h3
    rw [if_pos h, if_pos (by omega)]
  · rw [if_neg h]
    by_cases h2 : k < 512
    · rw [topF_zero (f := f) (n := 512) (by omega) h2]; split <;> rfl
    · rw [hf.2 k (by omega)]; split <;> rfl
/-- a canonical map -/
def IsRow (r : List Int) : Prop := r.length ≤ 512 ∧ (∀ x ∈ r, 0 ≤ x ∧ x ≤ 2) ∧ (r ≠ [] → r.getD (r.length - 1) 0 ≠ 0)
instance (r : List Int) : Decidable (IsRow r) := by unfold IsRow; infer_instance
theorem rowF_is {f : Nat → Int} (hf : Sts f) : IsRow (rowF f) := by
  refine ⟨rowF_le f, fun x hx => ?_, fun h => ?_⟩
  · unfold rowF at hx
    obtain ⟨k, _, rfl⟩ := List.mem_map.1 hx
    have := hf.1 k
    unfold St at this
    omega
  · have h0 : 0 < topF f 512 := by
      rw [← rowF_len]
      exact List.length_pos_iff.2 h
    rw [rowF_getD, rowF_len, if_pos (by omega)]
    exact topF_last h0
theorem row_gN {r : List Int} (h : IsRow r) (k : Nat) : gN r k = r.getD k 0 := by
  unfold gN
  by_cases q : k < r.length
  · have h1 := h.2.1 (r.getD k 0) (by rw [List.getD_eq_getElem?_getD, List.getElem?_eq_getElem q]; exact List.getElem_mem q)
    have := h.1
    rw [if_pos (by omega)]
  · rw [List.getD_eq_getElem?_getD, List.getElem?_eq_none (by omega)]
    split <;> rfl
theorem row_ext {r s : List Int} (hr : IsRow r) (hs : IsRow s) (h : ∀ k, gN r k = gN s k) : r = s := by
  have hd : ∀ k, r.getD k 0 = s.getD k 0 := fun k => by rw [← row_gN hr, ← row_gN hs, h]
  have key : ∀ {x y : List Int}, IsRow x → (∀ k, x.getD k 0 = y.getD k 0) → x.length ≤ y.length := fun {x y} hx hxy => by
    refine Nat.le_of_not_lt fun q => ?_
    have h1 := hx.2.2 (fun e => by rw [e] at q; simp at q)
    rw [hxy, List.getD_eq_getElem?_getD, List.getElem?_eq_none (by omega)] at h1
    exact h1 rfl
  have hl : r.length = s.length := Nat.le_antisymm (key hr hd) (key hs fun k => (hd k).symm)
  refine List.ext_getElem hl fun k h1 h2 => ?_
  have := hd k
  rwa [List.getD_eq_getElem?_getD, List.getElem?_eq_getElem h1, List.getD_eq_getElem?_getD, List.getElem?_eq_getElem h2] at this
/-- a canonical map with the states that are wanted is the one -/
theorem row_unique {r : List Int} {f : Nat → Int} (hr : IsRow r) (hf : Sts f) (h : ∀ k, gN r k = f k) : r = rowF f :=
  row_ext hr (rowF_is hf) fun k => by rw [h, gN_rowF hf]
theorem rowF_ext {f g : Nat → Int} (h : ∀ k, f k = g k) : rowF f = rowF g := by
  have : f = g := funext h
  rw [this]

/-- the canonical map of a map -/
def rowO (m : List Int) : List Int := rowF (gN m)
theorem gN_rowO (m : List Int) (k : Nat) : gN (rowO m) k = gN m k := gN_rowF (gN_sts m) k
theorem rowO_is (m : List Int) : IsRow (rowO m) := rowF_is (gN_sts m)
theorem rowO_self {m : List Int} (h : IsRow m) : rowO m = m := (row_unique h (gN_sts m) fun _ => rfl).symm
theorem rowO_len (m : List Int) : (rowO m).length ≤ 512 := rowF_le _

def setF (m : List Int) (i s : Int) (k : Nat) : Int := if (k : Int) = i then s else gN m k
def OkS (i s : Int) : Prop := 0 ≤ i ∧ i ≤ 511 ∧ 0 ≤ s ∧ s ≤ 2
instance (i s : Int) : Decidable (OkS i s) := by unfold OkS; infer_instance
def setO (m : List Int) (i s : Int) : List Int := if OkS i s then rowF (setF m i s) else rowO m
theorem setF_sts (m : List Int) {i s : Int} (h : OkS i s) : Sts (setF m i s) := by
  obtain ⟨h1, h2, h3, h4⟩ := h
  refine ⟨fun k => ?_, fun k hk => ?_⟩
  · unfold setF
    split
    · unfold St; omega
    · exact gN_st m k
  · unfold setF
    rw [if_neg (by omega), gN_high m hk]
theorem setO_is (m : List Int) (i s : Int) : IsRow (setO m i s) := by
  unfold setO
  split
  · rename_i h; exact rowF_is (setF_sts m h)
  · exact rowO_is m
theorem gN_setO {m : List Int} {i s : Int} (h : OkS i s) (k : Nat) : gN (setO m i s) k = if (k : Int) = i then s else gN m k := by
  unfold setO
  rw [if_pos h, gN_rowF (setF_sts m h)]
  rfl

def freshF (m : List Int) (k : Nat) : Int := if gN m k = 1 then 2 else gN m k
def freshO (m : List Int) : List Int := rowF (freshF m)
theorem freshF_sts (m : List Int) : Sts (freshF m) := by
  refine ⟨fun k => ?_, fun k hk => ?_⟩
  · unfold freshF
    split
    · exact .inr (.inr rfl)
    · exact gN_st m k
  · unfold freshF
    rw [gN_high m hk]; rfl
theorem freshO_is (m : List Int) : IsRow (freshO m) := rowF_is (freshF_sts m)
theorem gN_freshO (m : List Int) (k : Nat) : gN (freshO m) k = if gN m k = 1 then 2 else gN m k := gN_rowF (freshF_sts m) k

def mergeF (o m : List Int) (k : Nat) : Int := if gN m k = 2 ∧ gN o k = 1 then 1 else gN m k
def mergeO (o m : List Int) : List Int := rowF (mergeF o m)
theorem mergeF_sts (o m : List Int) : Sts (mergeF o m) := by
  refine ⟨fun k => ?_, fun k hk => ?_⟩
  · unfold mergeF
    split
    · exact .inr (.inl rfl)
    · exact gN_st m k
  · unfold mergeF
    rw [gN_high m hk]; rfl
theorem mergeO_is (o m : List Int) : IsRow (mergeO o m) := rowF_is (mergeF_sts o m)
theorem gN_mergeO (o m : List Int) (k : Nat) : gN (mergeO o m) k = if gN m k = 2 ∧ gN o k = 1 then 1 else gN m k := gN_rowF (mergeF_sts o m) k

/-- object k: by one map and another one -/
def dif (first m : List Int) (k : Nat) : Bool := decide (gN m k = 1) || (decide (gN m k = 0) != decide (gN first k = 0))
def chB (first : List Int) (rest : List (List Int)) (k : Nat) : Bool := rest.any fun m => dif first m k
def changedN (first : List Int) (rest : List (List Int)) (n : Nat) : List Int := ((List.range n).filter (chB first rest)).map Int.ofNat
def changedO (first : List Int) (rest : List (List Int)) : List Int := changedN first rest 512
theorem changedN_succ (first : List Int) (rest : List (List Int)) (n : Nat) : changedN first rest (n + 1) = if chB first rest n then changedN first rest n ++ [(n : Int)] else changedN first rest n := by
  unfold changedN
  rw [List.range_succ, List.filter_append]
  cases h : chB first rest n <;> simp [h]
theorem changedN_len (first : List Int) (rest : List (List Int)) : ∀ n, (changedN first rest n).length ≤ n
  | 0 => by simp [changedN]
  | n + 1 => by
    have := changedN_len first rest n
    rw [changedN_succ]
    split
    · simp; omega
    · omega
theorem changed_mem (first : List Int) (rest : List (List Int)) (k : Nat) (hk : k < 512) : decide ((k : Int) ∈ changedO first rest) = chB first rest k := by
  rw [Bool.eq_iff_iff, decide_eq_true_iff]
  unfold changedO changedN
  rw [List.mem_map]
  constructor
  · rintro ⟨j, hj, e⟩
    obtain rfl : j = k := by have e : (j : Int) = (k : Int) := e; omega
    exact (List.mem_filter.1 hj).2
  · intro h
    exact ⟨k, List.mem_filter.2 ⟨List.mem_range.2 hk, h⟩, rfl⟩

/-- four states in a byte -/
def quadN (r : List Int) (b : Nat) : Nat := (gN r (4 * b) + 4 * gN r (4 * b + 1) + 16 * gN r (4 * b + 2) + 64 * gN r (4 * b + 3)).toNat
theorem quad_eq (r : List Int) (b : Nat) : (quadN r b : Int) = gN r (4 * b) + 4 * gN r (4 * b + 1) + 16 * gN r (4 * b + 2) + 64 * gN r (4 * b + 3) := by
  unfold quadN
  have h0 := gN_st r (4 * b)
  have h1 := gN_st r (4 * b + 1)
  have h2 := gN_st r (4 * b + 2)
  have h3 := gN_st r (4 * b + 3)
  unfold St at *
  omega
theorem quad_lt (r : List Int) (b : Nat) : quadN r b < 256 := by
  have h := quad_eq r b
  have h0 := gN_st r (4 * b)
  have h1 := gN_st r (4 * b + 1)
  have h2 := gN_st r (4 * b + 2)
  have h3 := gN_st r (4 * b + 3)
  unfold St at *
  omega
def quads (r : List Int) (n : Nat) : List UInt8 := (List.range n).map fun b => UInt8.ofNat (quadN r b)
theorem quads_len (r : List Int) (n : Nat) : (quads r n).length = n := by simp [quads]
theorem quads_succ (r : List Int) (n : Nat) : quads r (n + 1) = quads r n ++ [UInt8.ofNat (quadN r n)] := by
  unfold quads
  rw [List.range_succ, List.map_append]
  rfl
/-- a canonical map's bytes -/
def packR (r : List Int) : List UInt8 := UInt8.ofNat (r.length / 256) :: UInt8.ofNat (r.length % 256) :: quads r ((r.length + 3) / 4)
def packO (m : List Int) : List UInt8 := packR (rowO m)
theorem packR_len (r : List Int) : (packR r).length = 2 + (r.length + 3) / 4 := by simp [packR, quads_len]; omega
theorem packO_self {m : List Int} (h : IsRow m) : packO m = packR m := by unfold packO; rw [rowO_self h]
/-- the map that bytes could be: so many states, as far as there are bytes -/
def cntU (b : List UInt8) : Nat := 256 * (b.getD 0 0).toNat + (b.getD 1 0).toNat
def stU (b : List UInt8) (i : Nat) : Int := ((b.getD (2 + i / 4) 0).toNat / 4 ^ (i % 4) % 4 : Nat)
def canU (b : List UInt8) : List Int := (List.range (min (cntU b) (4 * (b.length - 2)))).map (stU b)
/-- what bytes are -/
def unO (b : List UInt8) : Option (List Int) := if 2 ≤ b.length ∧ IsRow (canU b) ∧ packR (canU b) = b then some (canU b) else none
theorem ofNat_toNat {n : Nat} (h : n < 256) : (UInt8.ofNat n).toNat = n := by
  rw [UInt8.toNat_ofNat']
  exact Nat.mod_eq_of_lt h
theorem quad_at {x0 x1 x2 x3 : Int} (h0 : St x0) (h1 : St x1) (h2 : St x2) (h3 : St x3) {n : Nat} (hn : (n : Int) = x0 + 4 * x1 + 16 * x2 + 64 * x3) :
    ((n % 4 : Nat) : Int) = x0 ∧ ((n / 4 % 4 : Nat) : Int) = x1 ∧ ((n / 16 % 4 : Nat) : Int) = x2 ∧ ((n / 64 % 4 : Nat) : Int) = x3 := by
  unfold St at *
  omega
theorem canU_pack {r : List Int} (h : IsRow r) : canU (packR r) = r := by
  have hl := h.1
  have e0 : (packR r).getD 0 0 = UInt8.ofNat (r.length / 256) := rfl
  have e1 : (packR r).getD 1 0 = UInt8.ofNat (r.length % 256) := rfl
  have hc : cntU (packR r) = r.length := by
    unfold cntU
    rw [e0, e1, ofNat_toNat (by omega), ofNat_toNat (by omega)]
    omega
  have hm : min (cntU (packR r)) (4 * ((packR r).length - 2)) = r.length := by
    rw [hc, packR_len]; omega
  unfold canU
  rw [hm]
  refine List.ext_getElem (by simp) fun k h1 h2 => ?_
  rw [List.getElem_map, List.getElem_range]
  have eb : (packR r).getD (2 + k / 4) 0 = UInt8.ofNat (quadN r (k / 4)) := by
    have hq : k / 4 < (r.length + 3) / 4 := by omega
    show (UInt8.ofNat (r.length / 256) :: UInt8.ofNat (r.length % 256) :: quads r ((r.length + 3) / 4)).getD (2 + k / 4) 0 = _
    rw [show 2 + k / 4 = (k / 4) + 1 + 1 by omega, List.getD_cons_succ, List.getD_cons_succ]
    unfold quads
    rw [List.getD_eq_getElem?_getD, List.getElem?_map, List.getElem?_range hq]
    rfl
  unfold stU
  rw [eb, ofNat_toNat (quad_lt _ _)]
  obtain ⟨a0, a1, a2, a3⟩ := quad_at (gN_st r (4 * (k / 4))) (gN_st r (4 * (k / 4) + 1)) (gN_st r (4 * (k / 4) + 2)) (gN_st r (4 * (k / 4) + 3)) (quad_eq r (k / 4))
  have hg : gN r k = r[k] := by rw [row_gN h, List.getD_eq_getElem?_getD, List.getElem?_eq_getElem h2]; rfl
  rw [← hg]
  have hk : k = 4 * (k / 4) + k % 4 := by omega
  generalize quadN r (k / 4) = q at *
  generalize k / 4 = d at *
  have h4 : k % 4 < 4 := by omega
  generalize k % 4 = e at *
  subst hk
  match e, h4 with
  | 0, _ => simpa using a0
  | 1, _ => simpa using a1
  | 2, _ => exact a2
  | 3, _ => exact a3
/-- bytes are a map's just if they are what it packs to -/
theorem unO_some {b : List UInt8} {r : List Int} : unO b = some r ↔ IsRow r ∧ packR r = b := by
  unfold unO
  constructor
  · intro h
    split at h
    · rename_i q
      obtain rfl : canU b = r := by simpa using h
      exact q.2
    · cases h
  · rintro ⟨h1, rfl⟩
    rw [canU_pack h1, if_pos ⟨by rw [packR_len]; omega, h1, rfl⟩]
theorem unO_pack {r : List Int} (h : IsRow r) : unO (packR r) = some r := unO_some.2 ⟨h, rfl⟩
end Go.Proofs.Ytaobdebeglenaaa

namespace Go.Proofs.Ytaobdebeglenaaa

theorem encB_succ (w m : Nat) : encB (w + 1) m = UInt8.ofNat (m / 256 ^ w) :: encB w m := by
  unfold encB
  rw [List.range_succ_eq_map, List.map_cons, List.map_map]
  congr 1
  apply List.map_congr_left
  intro i hi
  have : i < w := by simpa using hi
  show UInt8.ofNat (m / 256 ^ (w + 1 - 1 - (i + 1))) = _
  congr 3
  omega

theorem bytesLess_encB : ∀ (w a b : Nat), Op.bytesLess (encB w a) (encB w b) = decide (a % 256 ^ w < b % 256 ^ w)
  | 0, a, b => by simp [encB, Op.bytesLess, Nat.mod_one]
  | w + 1, a, b => by
    rw [encB_succ, encB_succ]
    show (decide (UInt8.ofNat (a / 256 ^ w) < UInt8.ofNat (b / 256 ^ w)) || (UInt8.ofNat (a / 256 ^ w) == UInt8.ofNat (b / 256 ^ w) && Op.bytesLess (encB w a) (encB w b))) = _
    rw [bytesLess_encB w a b]
    have e : ∀ x : Nat, x % 256 ^ (w + 1) = (x / 256 ^ w % 256) * 256 ^ w + x % 256 ^ w := fun x => by
      rw [Nat.pow_succ, Nat.mod_mul, Nat.mul_comm, Nat.add_comm]
    have ha : a % 256 ^ w < 256 ^ w := Nat.mod_lt _ (Nat.pow_pos (by decide))
    have hb : b % 256 ^ w < 256 ^ w := Nat.mod_lt _ (Nat.pow_pos (by decide))
    rw [e a, e b]
    have h1 : (UInt8.ofNat (a / 256 ^ w) < UInt8.ofNat (b / 256 ^ w)) ↔ a / 256 ^ w % 256 < b / 256 ^ w % 256 := by
      rw [UInt8.lt_iff_toNat_lt]; simp
    have h2 : (UInt8.ofNat (a / 256 ^ w) == UInt8.ofNat (b / 256 ^ w)) = true ↔ a / 256 ^ w % 256 = b / 256 ^ w % 256 := by
      rw [beq_iff_eq, ← UInt8.toNat_inj]; simp
    rw [Bool.eq_iff_iff]
    simp only [Bool.or_eq_true, Bool.and_eq_true, decide_eq_true_eq, h1, h2]
    clear h1 h2 e
    generalize a / 256 ^ w % 256 = x at *
    generalize b / 256 ^ w % 256 = y at *
    generalize a % 256 ^ w = A at *
    generalize b % 256 ^ w = B at *
    generalize 256 ^ w = K at *
    constructor
    · rintro (h | ⟨rfl, h⟩)
      · have := Nat.mul_le_mul_right K (show x + 1 ≤ y from h)
        rw [Nat.add_mul, Nat.one_mul] at this
        omega
      · omega
    · intro h
      rcases Nat.lt_trichotomy x y with h3 | h3 | h3
      · exact .inl h3
      · subst h3; exact .inr ⟨rfl, by omega⟩
      · have := Nat.mul_le_mul_right K (show y + 1 ≤ x from h3)
        rw [Nat.add_mul, Nat.one_mul] at this
        omega

theorem encB_max (w : Nat) (h : 1 ≤ w ∧ w ≤ 7) : (encB w (256 ^ w - 1)).all (· == 255) = true := by
  obtain rfl | rfl | rfl | rfl | rfl | rfl | rfl : w = 1 ∨ w = 2 ∨ w = 3 ∨ w = 4 ∨ w = 5 ∨ w = 6 ∨ w = 7 := by omega
  all_goals decide

theorem clampN_lt (w : Nat) (x : Int) : clampN w x < 256 ^ w := by
  have hp : 0 < 256 ^ w := Nat.pow_pos (by decide)
  have he : ((256 : Int) ^ w) = ((256 ^ w : Nat) : Int) := by simp
  unfold clampN
  rw [he]
  omega

/-- of one width, a greater number has bytes that come later, or both have the greatest -/
theorem order_enc (w : Nat) (hw : 1 ≤ w ∧ w ≤ 7) (n m : Int) (_hn : 0 ≤ n) (hnm : n < m) :
    Op.bytesLess (encB w (clampN w n)) (encB w (clampN w m)) = true ∨
    (Op.bytesLess (encB w (clampN w n)) (encB w (clampN w m)) = false ∧ (encB w (clampN w n)).all (· == 255) = true ∧ encB w (clampN w n) = encB w (clampN w m)) := by
  have h1 := clampN_lt w n
  have h2 := clampN_lt w m
  rw [bytesLess_encB, Nat.mod_eq_of_lt h1, Nat.mod_eq_of_lt h2]
  have hp : 0 < 256 ^ w := Nat.pow_pos (by decide)
  have he : ((256 : Int) ^ w) = ((256 ^ w : Nat) : Int) := by simp
  by_cases h : clampN w n < clampN w m
  · exact .inl (by simpa using h)
  · right
    have e1 : clampN w n = 256 ^ w - 1 := by
      unfold clampN at h ⊢
      rw [he] at h ⊢
      omega
    have e2 : clampN w m = 256 ^ w - 1 := by
      unfold clampN at h ⊢
      rw [he] at h ⊢
      omega
    exact ⟨by simpa using h, by rw [e1]; exact encB_max w hw, by rw [e1, e2]⟩

theorem decB_foldl (l : List UInt8) : ∀ a : Nat, l.foldl (fun a b => a * 256 + b.toNat) a = a * 256 ^ l.length + decB l := by
  induction l with
  | nil => intro a; simp [decB]
  | cons b l ih =>
    intro a
    have h0 := ih (0 * 256 + b.toNat)
    have h1 : decB (b :: l) = (0 * 256 + b.toNat) * 256 ^ l.length + decB l := h0
    rw [List.foldl_cons, ih, h1, List.length_cons, Nat.pow_succ, Nat.add_mul, Nat.zero_mul, Nat.zero_add, Nat.mul_assoc, Nat.mul_comm 256, Nat.add_assoc]
theorem decB_cons (b : UInt8) (l : List UInt8) : decB (b :: l) = b.toNat * 256 ^ l.length + decB l := by
  have := decB_foldl l b.toNat
  rw [← this]
  show l.foldl (fun a b => a * 256 + b.toNat) (0 * 256 + b.toNat) = _
  rw [Nat.zero_mul, Nat.zero_add]
theorem decB_encB : ∀ (w m : Nat), decB (encB w m) = m % 256 ^ w
  | 0, m => by simp [encB, decB, Nat.mod_one]
  | w + 1, m => by
    rw [encB_succ, decB_cons, encB_length, decB_encB w m, Nat.pow_succ, Nat.mod_mul]
    have e : (UInt8.ofNat (m / 256 ^ w)).toNat = m / 256 ^ w % 256 := by simp
    rw [e, Nat.mul_comm, Nat.add_comm]
end Go.Proofs.Ytaobdebeglenaaa

namespace Go.Proofs.Ytaobdebeglenaaa

theorem ch1 (a b : List Int) (k : Nat) : chB a [b] k = dif a b k := by simp [chB]
theorem ch2 (a b c : List Int) (k : Nat) : chB a [b, c] k = (dif a b k || dif a c k) := by simp [chB]
/-- what differs, by states -/
def difS (x y : Int) : Bool := decide (y = 1) || (decide (y = 0) != decide (x = 0))
theorem dif_st (a b : List Int) (k : Nat) : dif a b k = difS (gN a k) (gN b k) := rfl
theorem through {x y z : Int} (hx : St x) (hy : St y) (hz : St z) :
    (difS x y || difS y z) = (difS x y || difS x z) ∧ (difS x (if z = 2 ∧ y = 1 then 1 else z) = true → (difS x y || difS y z) = true) ∧
    ((difS x y || difS y z) = true → difS x (if z = 2 ∧ y = 1 then 1 else z) = false → (decide (x = 0) && decide (z = 0)) = false → (!decide (x = 0) && decide (y = 0) && decide (z = 2)) = true) := by
  rcases hx with rfl | rfl | rfl <;> rcases hy with rfl | rfl | rfl <;> rcases hz with rfl | rfl | rfl <;> decide
theorem fresh_no {x : Int} (hx : St x) : (if x = 1 then 2 else x) ≠ 1 ∧ ((if x = 1 then 2 else x) = 0 ↔ x = 0) := by
  rcases hx with rfl | rfl | rfl <;> decide
/-- behind a snapshot nothing differs from itself -/
theorem fresh_self (m : List Int) : changedO (freshO m) [freshO m] = [] := by
  unfold changedO changedN
  rw [List.map_eq_nil_iff, List.filter_eq_nil_iff]
  intro k _
  rw [ch1, dif_st, gN_freshO]
  have := (fresh_no (gN_st m k)).1
  simp [difS, this]
theorem filter_one (n k : Nat) (hk : k < n) : ∀ {p : Nat → Bool}, (∀ j, p j = decide (j = k)) → (List.range n).filter p = [k] := by
  intro p hp
  obtain ⟨d, rfl⟩ : ∃ d, n = k + 1 + d := ⟨n - (k + 1), by omega⟩
  have h1 : (List.range k).filter p = [] := by
    rw [List.filter_eq_nil_iff]
    intro j hj
    rw [hp]
    have := List.mem_range.1 hj
    simp; omega
  rw [List.range_add, List.filter_append, List.range_succ, List.filter_append, h1]
  have h2 : ((List.range d).map fun x => k + 1 + x).filter p = [] := by
    rw [List.filter_eq_nil_iff]
    intro j hj
    obtain ⟨x, _, rfl⟩ := List.mem_map.1 hj
    rw [hp]
    simp; omega
  rw [h2]
  simp [hp]
theorem fresh_set (m : List Int) (k : Nat) (hk : k < 512) : changedO (freshO m) [setO (freshO m) k 1] = [(k : Int)] := by
  have hok : OkS (k : Int) 1 := ⟨by omega, by omega, by omega, by omega⟩
  unfold changedO changedN
  rw [filter_one 512 k hk]
  · rfl
  · intro j
    rw [ch1, dif_st, gN_setO hok, gN_freshO]
    have h := (fresh_no (gN_st m j)).1
    generalize (if gN m j = 1 then 2 else gN m j) = y at h ⊢
    by_cases e : j = k
    · subst e; simp [difS]
    · rw [if_neg (show ¬ (j : Int) = (k : Int) by omega)]
      simp [difS, h, e]
theorem set_get (m : List Int) (k : Nat) (s : Int) (hk : k < 512) (h0 : 0 ≤ s) (h2 : s ≤ 2) : getO (setO m k s) k = s := by
  rw [getO_nat, gN_setO ⟨by omega, by omega, h0, h2⟩, if_pos rfl]
theorem and_low (i : Int) : ∃ k : Nat, bits .and .i64 i 511 = (k : Int) ∧ k < 512 := by
  have h1 : 0 ≤ bits .and .i64 i 511 ∧ bits .and .i64 i 511 ≤ 511 := by
    show 0 ≤ IntKind.i64.wrap ((BitVec.ofInt 64 i &&& BitVec.ofInt 64 511).toNat : Int) ∧ IntKind.i64.wrap ((BitVec.ofInt 64 i &&& BitVec.ofInt 64 511).toNat : Int) ≤ 511
    rw [IntKind.wrap_i64, BitVec.toNat_and]
    have h2 : (BitVec.ofInt 64 511).toNat = 511 := by decide
    rw [h2]
    have h3 : (BitVec.ofInt 64 i).toNat &&& 511 ≤ 511 := Nat.and_le_right
    omega
  exact ⟨(bits .and .i64 i 511).toNat, by omega, by omega⟩
end Go.Proofs.Ytaobdebeglenaaa
