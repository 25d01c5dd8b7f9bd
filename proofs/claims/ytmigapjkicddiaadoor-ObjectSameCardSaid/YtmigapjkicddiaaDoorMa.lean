/- Words of my own: a slice of bytes that reads as a list, number encodings; nothing here speaks of a program. Objects, plain (no program): names, what may be, what a key holds, the data at places. -/
import Derived.WalkKit
import Derived.WalkSpells
import Derived.Lib.Hide
import Derived.Laws.AppendOwnNone
import Derived.Deep.Draws

namespace Go.Proofs.YtmigapjkicddiaaDoor
open Go.RowKit

theorem ret_int {k : IntKind} {a b : Int} (h : a = b) : Ending.returned (.int k a) = .returned (.int k b) := by rw [h]

/-- one byte as a value -/
def bv (x : UInt8) : Value := .int .u8 (x.toNat : Int)

/-- In world w the slice of address A and length n reads as the bytes l, and its cells lie below block B. -/
def Rd (w : World) (B : Nat) (A : Option Addr) (n : Nat) (l : List UInt8) : Prop :=
  l.length = n ∧ (0 < n → ∃ ad, A = some ad ∧ ad.block < B ∧ ∀ j (h : j < l.length), w.cell? (ad.add j) = some (bv l[j]))

theorem addB (a : Addr) (n : Nat) : (a.add n).block = a.block := by unfold Addr.add; split <;> rfl
theorem addadd (a : Addr) (i j : Nat) : (a.add i).add j = a.add (i + j) := by
  unfold Addr.add
  by_cases hi : i = 0 <;> by_cases hj : j = 0 <;> simp [hi, hj, Nat.add_assoc]

section
variable {w w' : World} {B B' n : Nat} {A : Option Addr} {l : List UInt8}
theorem Rd.nil : Rd w B A 0 [] := ⟨rfl, fun h => absurd h (by omega)⟩
theorem Rd.keep (h : Rd w B A n l) (hk : ∀ p : Addr, p.block < B → w'.cell? p = w.cell? p) : Rd w' B A n l := by
  refine ⟨h.1, fun hn => ?_⟩
  obtain ⟨ad, e, hb, hc⟩ := h.2 hn
  exact ⟨ad, e, hb, fun j hj => (hk _ (by rw [addB]; exact hb)).trans (hc j hj)⟩
theorem Rd.more (h : Rd w B A n l) (hB : B ≤ B') : Rd w B' A n l := by
  refine ⟨h.1, fun hn => ?_⟩
  obtain ⟨ad, e, hb, hc⟩ := h.2 hn
  exact ⟨ad, e, by omega, hc⟩
theorem Rd.below (h : Rd w B A n l) (hb : Below B w w') : Rd w' B A n l := h.keep fun _ hp => hb.cell hp
theorem Rd.alloc (h : Rd w B A n l) (hB : B ≤ w.heap.size) (o : Obj) : Rd (w.alloc o) B A n l :=
  h.keep fun p hp => World.cell?_alloc_lt w o p (by omega)
theorem Rd.drewN (h : Rd w B A n l) (q : Nat) : Rd (w.drewN q) B A n l := h
theorem Rd.drew (h : Rd w B A n l) : Rd w.drew B A n l := h
theorem Rd.cellAt (h : Rd w B A n l) {k : Nat} (hk : k < n) : ∃ ad, A = some ad ∧ ad.block < B ∧ w.cell? (ad.add k) = some (bv (l[k]'(by rw [h.1]; exact hk))) := by
  obtain ⟨ad, e, hb, hc⟩ := h.2 (by omega)
  exact ⟨ad, e, hb, hc k (by rw [h.1]; exact hk)⟩
theorem Rd.vals (h : Rd w B A n l) (hn : 0 < n) : ∃ ad, A = some ad ∧ ∀ j v, (l.map bv)[j]? = some v → w.cell? (ad.add j) = some v := by
  obtain ⟨ad, e, hb, hc⟩ := h.2 hn
  refine ⟨ad, e, fun j v hv => ?_⟩
  rw [List.getElem?_map, Option.map_eq_some_iff] at hv
  obtain ⟨x, hx, rfl⟩ := hv
  obtain ⟨hj, rfl⟩ := List.getElem?_eq_some_iff.1 hx
  exact hc j hj
/-- 's[:k]' -/
theorem Rd.take (h : Rd w B A n l) {k : Nat} (hk : k ≤ n) : Rd w B A k (l.take k) := by
  refine ⟨by rw [List.length_take, h.1]; omega, fun hn => ?_⟩
  obtain ⟨ad, e, hb, hc⟩ := h.2 (by omega)
  refine ⟨ad, e, hb, fun j hj => ?_⟩
  rw [List.getElem_take]
  exact hc j _
/-- 's[k:]' -/
theorem Rd.drop (h : Rd w B A n l) {k cap : Nat} (hk : k ≤ n) (hc : n ≤ cap) : Rd w B (if cap = k then A else A.map (·.add k)) (n - k) (l.drop k) := by
  refine ⟨by rw [List.length_drop, h.1], fun hn => ?_⟩
  obtain ⟨ad, rfl, hb, hcell⟩ := h.2 (by omega)
  rw [if_neg (by omega)]
  refine ⟨ad.add k, rfl, by rw [addB]; exact hb, fun j hj => ?_⟩
  rw [addadd, List.getElem_drop]
  exact hcell _ _
end

/-- In world w the slice of address A and length n reads as the ints l, and its cells lie below block B. -/
def RdI (w : World) (B : Nat) (A : Option Addr) (n : Nat) (l : List Int) : Prop :=
  l.length = n ∧ (0 < n → ∃ ad, A = some ad ∧ ad.block < B ∧ ∀ j (h : j < l.length), w.cell? (ad.add j) = some (.int .i64 l[j]))
section
variable {w w' : World} {B B' n : Nat} {A : Option Addr} {l : List Int}
theorem RdI.nil : RdI w B A 0 [] := ⟨rfl, fun h => absurd h (by omega)⟩
theorem RdI.keep (h : RdI w B A n l) (hk : ∀ p : Addr, p.block < B → w'.cell? p = w.cell? p) : RdI w' B A n l := by
  refine ⟨h.1, fun hn => ?_⟩
  obtain ⟨ad, e, hb, hc⟩ := h.2 hn
  exact ⟨ad, e, hb, fun j hj => (hk _ (by rw [addB]; exact hb)).trans (hc j hj)⟩
theorem RdI.more (h : RdI w B A n l) (hB : B ≤ B') : RdI w B' A n l := by
  refine ⟨h.1, fun hn => ?_⟩
  obtain ⟨ad, e, hb, hc⟩ := h.2 hn
  exact ⟨ad, e, by omega, hc⟩
theorem RdI.below (h : RdI w B A n l) (hb : Below B w w') : RdI w' B A n l := h.keep fun _ hp => hb.cell hp
theorem RdI.alloc (h : RdI w B A n l) (hB : B ≤ w.heap.size) (o : Obj) : RdI (w.alloc o) B A n l :=
  h.keep fun p hp => World.cell?_alloc_lt w o p (by omega)
theorem RdI.drewN (h : RdI w B A n l) (q : Nat) : RdI (w.drewN q) B A n l := h
theorem RdI.cellAt (h : RdI w B A n l) {k : Nat} (hk : k < n) : ∃ ad, A = some ad ∧ ad.block < B ∧ w.cell? (ad.add k) = some (.int .i64 (l[k]'(by rw [h.1]; exact hk))) := by
  obtain ⟨ad, e, hb, hc⟩ := h.2 (by omega)
  exact ⟨ad, e, hb, hc k (by rw [h.1]; exact hk)⟩
theorem RdI.take (h : RdI w B A n l) {k : Nat} (hk : k ≤ n) : RdI w B A k (l.take k) := by
  refine ⟨by rw [List.length_take, h.1]; omega, fun hn => ?_⟩
  obtain ⟨ad, e, hb, hc⟩ := h.2 (by omega)
  refine ⟨ad, e, hb, fun j hj => ?_⟩
  rw [List.getElem_take]
  exact hc j _
end
theorem RdI.own {w : World} {base e n c : Nat} {A : Option Addr} {l : List Int} (h : w.ownsRow base e 1 (.slice A n c) n (l.map (Value.int .i64))) : RdI w w.heap.size A n l := by
  have h0 := h.1
  rw [List.length_map] at h0
  refine ⟨by omega, fun hn => ?_⟩
  rcases h.2 with ⟨_, hz⟩ | ⟨g, cap, cur, hv, _, hg, _⟩
  · omega
  · have hA : A = some ⟨g, 0, none⟩ := by injection hv
    subst hA
    refine ⟨_, rfl, lt_of_block hg, fun j hj => ?_⟩
    exact h.cells (g := g) rfl j _ (by rw [List.getElem?_map, List.getElem?_eq_getElem hj]; rfl)

theorem bv_one (l : List UInt8) : ∀ v ∈ l.map bv, v.oneCell' = true := by
  intro v hv
  obtain ⟨x, _, rfl⟩ := List.mem_map.1 hv
  rfl

/-- what the call owns reads as bytes -/
theorem Rd.own {w : World} {base e n c : Nat} {A : Option Addr} {l : List UInt8} (h : w.ownsRow base e 1 (.slice A n c) n (l.map bv)) : Rd w w.heap.size A n l := by
  have h0 := h.1
  rw [List.length_map] at h0
  refine ⟨by omega, fun hn => ?_⟩
  rcases h.2 with ⟨_, hz⟩ | ⟨g, cap, cur, hv, _, hg, _⟩
  · omega
  · have hA : A = some ⟨g, 0, none⟩ := by injection hv
    subst hA
    refine ⟨_, rfl, lt_of_block hg, fun j hj => ?_⟩
    exact h.cells (g := g) rfl j _ (by rw [List.getElem?_map, List.getElem?_eq_getElem hj]; rfl)

theorem run_mk {P : Program} {t e : TypeId} {i : TypeInfo} {z : Value} (ht : P.underlying t = some (.slice e)) (hi : P.info? e = some i) (hz : i.zero = some z)
    (hs : i.size = 1) (hby : i.bytes ≤ 8) (n c : Nat) (k : Int) (hk : k = (c : Int)) (hnc : n ≤ c) (hc : c ≤ 1099511627776) (w : World) :
    (Instr.makeSlice t (.int .i64 (n : Int)) (.int .i64 k)).run P w = .ok (.slice (some ⟨w.heap.size, 0, none⟩) n c) (w.alloc (.cells (madeCells z.cells c) e)) := by
  subst hk
  have hb : (i.bytes : Int) * (c : Int) ≤ 281474976710656 := by
    have : i.bytes * c ≤ 8 * 1099511627776 := Nat.mul_le_mul hby hc
    have h : ((i.bytes * c : Nat) : Int) ≤ 281474976710656 := by omega
    rwa [Int.natCast_mul] at h
  have hr := run_make (P := P) w t e i z ht hi hz .i64 .i64 n c (by omega) (by omega) hb (by omega)
  simpa only [Int.toNat_natCast, hs, Nat.mul_one] using hr

/-- copy of a slice that reads as l into a row that was just made -/
theorem run_copy_fresh {P : Program} {t ty e : TypeId} (ht : P.underlying t = some (.slice e)) (hs : (P.info? e).map (·.size) = some 1)
    (w : World) (cur : Array Value) (n c c' : Nat) (A : Option Addr) (l : List UInt8) (hc : cur.size = c) (hnc : n ≤ c) (hcm : c ≤ maxLen) (hr : Rd w w.heap.size A n l) :
    ∃ W, (Builtin.copy_ #[t, t] ty #[.slice (some ⟨w.heap.size, 0, none⟩) n c, .slice A n c']).run P (w.alloc (.cells cur e)) = .ok (.int .i64 n) W ∧
      W.ownsRow w.heap.size e 1 (.slice (some ⟨w.heap.size, 0, none⟩) n c) n (l.map bv) ∧ Below w.heap.size w W := by
  have hl := hr.1
  rcases Nat.eq_zero_or_pos n with h0 | h0
  · subst h0
    obtain rfl : l = [] := List.eq_nil_of_length_eq_zero hl
    refine ⟨_, run_copy_none (P := P) _ t t ty e _ _ 0 c 0 c' ht hs (by simp), ?_, (Below.refl _ _).alloc (Nat.le_refl _) _⟩
    have h := World.ownsRow_made (base := w.heap.size) (e := e) (size := 1) w cur c (Nat.le_refl _) hcm (by omega)
    simpa using h
  · obtain ⟨ad, rfl, hv⟩ := (hr.alloc (Nat.le_refl _) (.cells cur e)).vals h0
    have hg := heap_alloc_new w (.cells cur e)
    have hrun := run_copy_row (P := P) _ t t ty e w.heap.size 0 n c ad n c' cur e (l.map bv) ht hs hg (by simp [hl]) hv (by simp [hl]; omega) (bv_one l)
    rw [List.length_map, hl] at hrun
    refine ⟨_, hrun, ⟨by simp [hl], .inr ⟨_, c, _, rfl, Nat.le_refl _, setRow_heap _ _ cur _ e _ hg, hnc, hcm, ?_, ?_⟩⟩, ?_⟩
    · simp [hl]; omega
    · have hn : n = (l.map bv).length := by simp [hl]
      simp only [List.take_zero, List.nil_append, Nat.zero_add, Nat.mul_one]
      show List.take n (l.map bv ++ cur.toList.drop n) = l.map bv
      rw [hn, List.take_left' rfl]
    · exact ((Below.refl _ _).alloc (Nat.le_refl _) _).trans ⟨rfl, rfl, rfl, by simp [World.setRow], fun k hk => setRow_other _ _ k _ (by omega)⟩


/-- the width that a width argument counts as -/
def fitW (x : Int) : Nat := (min (max x 1) 7).toNat
theorem fitW_bd (x : Int) : 1 ≤ fitW x ∧ fitW x ≤ 7 := by unfold fitW; omega

/-- the bytes of m in w bytes, most significant first -/
def encB (w m : Nat) : List UInt8 := (List.range w).map fun i => UInt8.ofNat (m / 256 ^ (w - 1 - i))
theorem encB_length (w m : Nat) : (encB w m).length = w := by simp [encB]
/-- the number that a number argument counts as -/
def clampN (w : Nat) (x : Int) : Nat := (min (max x 0) ((256 : Int) ^ w - 1)).toNat
theorem encB_take_succ (w m k : Nat) (h : k < w) : (encB w m).take (k + 1) = (encB w m).take k ++ [UInt8.ofNat (m / 256 ^ (w - 1 - k))] := by
  rw [List.take_succ_eq_append_getElem (by rw [encB_length]; exact h)]
  simp [encB]
theorem bv_ofNat (n : Nat) : bv (UInt8.ofNat n) = .int .u8 ((n % 256 : Nat) : Int) := by simp [bv]
/-- the number that bytes encode, most significant first -/
def decB (l : List UInt8) : Nat := l.foldl (fun a b => a * 256 + b.toNat) 0
theorem decB_snoc (l : List UInt8) (b : UInt8) : decB (l ++ [b]) = decB l * 256 + b.toNat := by simp [decB]
theorem decB_take_succ (l : List UInt8) (k : Nat) (h : k < l.length) : decB (l.take (k + 1)) = decB (l.take k) * 256 + l[k].toNat := by
  rw [List.take_succ_eq_append_getElem h, decB_snoc]
theorem decB_lt_aux : ∀ (l : List UInt8) (a : Nat), l.foldl (fun a b => a * 256 + b.toNat) a < (a + 1) * 256 ^ l.length
  | [], a => by simp
  | b :: l, a => by
    have ih := decB_lt_aux l (a * 256 + b.toNat)
    have hb := b.toNat_lt
    have h1 : (a * 256 + b.toNat + 1) * 256 ^ l.length ≤ ((a + 1) * 256) * 256 ^ l.length := Nat.mul_le_mul_right _ (by omega)
    rw [List.foldl_cons, List.length_cons, Nat.pow_succ, Nat.mul_comm (256 ^ l.length) 256, ← Nat.mul_assoc]
    omega
theorem decB_lt (l : List UInt8) : decB l < 256 ^ l.length := by
  have := decB_lt_aux l 0
  simpa [decB] using this
theorem pow_byte (m e : Nat) : ((m / 256 ^ e % 256 : Nat) : Int) = (m : Int) / 2 ^ (8 * e) % 256 := by
  have h : (256 : Nat) ^ e = 2 ^ (8 * e) := by rw [Nat.pow_mul]
  rw [h]; simp
theorem or_byte (a d : Nat) (ha : a < 281474976710656) (hd : d < 256) : bits .or .i64 ((a : Int) * 256) (d : Int) = ((a * 256 + d : Nat) : Int) := by
  have e : ∀ n : Nat, n < 9223372036854775808 → (BitVec.ofInt 64 (n : Int)).toNat = n := fun n hn => by
    rw [BitVec.ofInt_natCast, BitVec.toNat_ofNat]; exact Nat.mod_eq_of_lt (by omega)
  have h1 : ((a : Int) * 256) = ((a * 256 : Nat) : Int) := by omega
  have h2 : a * 256 ||| d = a * 256 + d := by
    have := Nat.shiftLeft_add_eq_or_of_lt (i := 8) (b := d) (by omega) a
    rw [Nat.shiftLeft_eq] at this
    exact this.symm
  rw [h1]
  show IntKind.i64.wrap ((BitVec.ofInt 64 ((a * 256 : Nat) : Int) ||| BitVec.ofInt 64 (d : Int)).toNat : Int) = _
  rw [BitVec.toNat_or, e _ (by omega), e _ (by omega), IntKind.wrap_i64, h2]
  omega
theorem ownsRow_form {w : World} {base n : Nat} {e : TypeId} {v : Value} {xs : List Value} (h : w.ownsRow base e 1 v n xs) : ∃ A c, v = .slice A n c ∧ n ≤ c ∧ c ≤ maxLen := by
  rcases h.2 with ⟨rfl, rfl⟩ | ⟨g, cap, cur, rfl, _, _, h1, h2, _⟩
  · exact ⟨none, 0, rfl, Nat.le_refl _, by simp [maxLen]⟩
  · exact ⟨_, _, rfl, h1, h2⟩
theorem run_append_none {P : Program} {w : World} {base : Nat} {t ty e : TypeId} {i : TypeInfo} {v : Value} {n : Nat} {xs : List Value} (ht : P.underlying t = some (.slice e)) (hi : P.info? e = some i)
    (hown : w.ownsRow base e 1 v n xs) (c : Nat) : (Builtin.append_ #[t, t] ty #[v, .slice none 0 c]).run P w = .ok v w := by
  rcases hown.2 with ⟨rfl, _⟩ | ⟨g, cap, cur, rfl, _, _, hnc, _⟩
  · simp [Builtin.append_, run_underlying ht, sizeOf, typeInfo, hi, Builtin.lenOf, Builtin.firstCells]
  · simp [Builtin.append_, run_underlying ht, sizeOf, typeInfo, hi, Builtin.lenOf, Builtin.firstCells, hnc, storeCells]

/-- append onto a row of the call's own, of a slice (nil let in) that reads as 'news' -/
theorem wpList_append_rd {P : Program} {w : World} {ops : Array Oper} {rest : List Oper} {o : Oper} {a : Act} {Q : Exit → Act → World → Prop} (hgd : o.guard = none) (s x : Operand) (t : TypeId)
    (ho : o.op = .call { callee := .builtin .append, args := #[s, x], argTypes := #[t, t] })
    (base : Nat) (e : TypeId) (i : TypeInfo) (z : Value) (bytes : Nat) (ht : P.underlying t = some (.slice e)) (hi : P.info? e = some i) (hz : i.zero = some z)
    (hsize : i.size = 1) (hby : i.bytes = bytes) (hzs : z.cells.size = 1)
    (v : Value) (n : Nat) (xs : List Value) (hs : a.eval s = v) (hown : w.ownsRow base e 1 v n xs)
    (A : Option Addr) (m c : Nat) (news : List Value) (hx : a.eval x = .slice A m c) (hl : news.length = m) (hrd : 0 < m → ∃ ad, A = some ad ∧ ∀ j u, news[j]? = some u → w.cell? (ad.add j) = some u) (h1 : ∀ u ∈ news, u.oneCell' = true)
    (h63 : n + m ≤ maxLen) (hbytes : (n + m) * bytes ≤ 140737488355328) (hbase : base ≤ w.heap.size)
    (h : ∀ v' w', w'.ownsRow base e 1 v' (n + m) (xs ++ news) → w.grownBy w' v.ownBlock → wpList P ops Q rest (a.put o.dst v') w') : wpList P ops Q (o :: rest) a w := by
  rcases A with _ | ad
  · have hm : m = 0 := by
      rcases Nat.eq_zero_or_pos m with h0 | h0
      · exact h0
      · obtain ⟨ad, hc, _⟩ := hrd h0
        cases hc
    subst hm
    obtain rfl : news = [] := List.eq_nil_of_length_eq_zero hl
    refine wpList_plain hgd fun K hK => ?_
    have hrun := run_append_none (P := P) (ty := o.type) ht hi hown c
    unfold Oper.wp
    simp [execOp, ho, resolve, invoke, builtin, hs, hx, hrun, Result.andThen]
    exact hK _ _ (h v w (by simpa using hown) (World.grownBy.refl w _))
  · refine wpList_append_own w hgd s x t ho base e i z 1 bytes ht hi hz hsize hby hzs (by decide) v n xs hs hown ad m c news hx (by omega) (fun j u hu => ?_) h1 h63 hbytes hbase (fun v' w' h2 h3 _ => h v' w' h2 h3)
    have hj : j < news.length := (List.getElem?_eq_some_iff.1 hu).1
    obtain ⟨ad', hc, hcell⟩ := hrd (by omega)
    cases hc
    exact hcell j u hu
theorem Rd.src {w : World} {B n : Nat} {A : Option Addr} {l : List UInt8} (h : Rd w B A n l) : 0 < n → ∃ ad, A = some ad ∧ ∀ j u, (l.map bv)[j]? = some u → w.cell? (ad.add j) = some u := fun hn => h.vals hn
theorem mul_bd {a b A B : Nat} (ha : a ≤ A) (hb : b ≤ B) : 0 ≤ (a : Int) * (b : Int) ∧ (a : Int) * (b : Int) ≤ ((A * B : Nat) : Int) := by
  have h := Nat.mul_le_mul ha hb
  have e : (a : Int) * (b : Int) = ((a * b : Nat) : Int) := by simp
  rw [e]
  omega
theorem one_new (w : World) (x : Value) (t : TypeId) : ∀ j u, [x][j]? = some u → (w.alloc (.cells #[x] t)).cell? ((⟨w.heap.size, 0, none⟩ : Addr).add j) = some u := by
  intro j u hu
  match j, hu with
  | 0, hu => simp at hu; subst hu; simp [Addr.add]
theorem Rd_lit (w : World) (t : TypeId) (l : List UInt8) : Rd (w.alloc (.cells (l.map bv).toArray t)) (w.heap.size + 1) (some ⟨w.heap.size, 0, none⟩) l.length l :=
  ⟨rfl, fun _ => ⟨_, rfl, Nat.lt_succ_self _, fun j hj => by
    have hadd : (⟨w.heap.size, 0, none⟩ : Addr).add j = ⟨w.heap.size, j, none⟩ := by unfold Addr.add; split <;> simp_all
    rw [hadd, cell_of_row _ w.heap.size j (l.map bv).toArray t (0, 0) (heap_alloc_new w _)]
    simp [hj]⟩⟩
theorem RdI_lit (w : World) (t : TypeId) (l : List Int) : RdI (w.alloc (.cells (l.map (Value.int .i64)).toArray t)) (w.heap.size + 1) (some ⟨w.heap.size, 0, none⟩) l.length l :=
  ⟨rfl, fun _ => ⟨_, rfl, Nat.lt_succ_self _, fun j hj => by
    have hadd : (⟨w.heap.size, 0, none⟩ : Addr).add j = ⟨w.heap.size, j, none⟩ := by unfold Addr.add; split <;> simp_all
    rw [hadd, cell_of_row _ w.heap.size j (l.map (Value.int .i64)).toArray t (0, 0) (heap_alloc_new w _)]
    simp [hj]⟩⟩
end Go.Proofs.YtmigapjkicddiaaDoor

namespace Go.Proofs.YtmigapjkicddiaaDoor

/-- a key -/
structure Ky where
  name : List UInt8
  val : List UInt8
instance : DecidableEq Ky := fun a b =>
  if h : a.name = b.name ∧ a.val = b.val then .isTrue (by cases a; cases b; simp_all) else .isFalse fun e => h (by subst e; exact ⟨rfl, rfl⟩)
/-- an object -/
structure Oj where
  data : List UInt8
  keys : List Ky
  seq : Int
instance : DecidableEq Oj := fun a b =>
  if h : a.data = b.data ∧ a.keys = b.keys ∧ a.seq = b.seq then .isTrue (by cases a; cases b; simp_all) else .isFalse fun e => h (by subst e; exact ⟨rfl, rfl, rfl⟩)
def oj0 : Oj := ⟨[], [], 0⟩
/-- a byte that a name may have -/
def nmB (x : UInt8) : Bool := decide ((x.toNat : Int) = 46) || decide (97 ≤ (x.toNat : Int) ∧ (x.toNat : Int) ≤ 122) || decide (48 ≤ (x.toNat : Int) ∧ (x.toNat : Int) ≤ 57)
def nameB (l : List UInt8) : Bool := decide (1 ≤ l.length ∧ l.length ≤ 12) && l.all nmB
/-- a key behind a key of that name -/
def stepK (p : Option (List UInt8)) (k : Ky) : Bool :=
  nameB k.name && (decide (k.val.length ≤ 2048) && match p with | none => true | some q => Op.bytesLess q k.name)
def keysK : Option (List UInt8) → List Ky → Bool
  | _, [] => true
  | p, k :: r => stepK p k && keysK (some k.name) r
def prevK (ks : List Ky) (j : Nat) : Option (List UInt8) := if j = 0 then none else (ks[j - 1]?).map Ky.name
theorem prevK_succ {ks : List Ky} {j : Nat} (h : j < ks.length) : prevK ks (j + 1) = some ks[j].name := by
  unfold prevK
  rw [if_neg (by omega), Nat.add_sub_cancel, List.getElem?_eq_getElem h]
  rfl
theorem prevK_pos {ks : List Ky} {j : Nat} (h0 : 0 < j) (h : j - 1 < ks.length) : prevK ks j = some ks[j - 1].name := by
  unfold prevK
  rw [if_neg (by omega), List.getElem?_eq_getElem h]
  rfl
theorem keysK_drop {ks : List Ky} {j : Nat} (h : j < ks.length) : keysK (prevK ks j) (ks.drop j) = (stepK (prevK ks j) ks[j] && keysK (prevK ks (j + 1)) (ks.drop (j + 1))) := by
  rw [List.drop_eq_getElem_cons h, prevK_succ h]
  rfl
def mayO (o : Oj) : Bool := decide (o.data.length ≤ 64) && (decide (o.keys.length ≤ 120) && (decide (0 ≤ o.seq) && (decide (o.seq ≤ 1099511627776) && keysK none o.keys)))
/-- what a key of that name holds, and whether there is one -/
def getK : List Ky → List UInt8 → Option (List UInt8)
  | [], _ => none
  | k :: r, n => if k.name = n then some k.val else getK r n
theorem getK_drop {ks : List Ky} {j : Nat} (h : j < ks.length) (n : List UInt8) : getK (ks.drop j) n = if ks[j].name = n then some ks[j].val else getK (ks.drop (j + 1)) n := by
  rw [List.drop_eq_getElem_cons h]
  rfl
/-- does a key stand for the data as of that name? -/
def forN (k n : List UInt8) : Bool := !Op.bytesLess k n && (decide (0 < n.length) && (decide (0 < k.length) && decide (k[0]? = n[0]?)))
def atK (d : List UInt8) : List Ky → List UInt8 → List UInt8
  | [], _ => d
  | k :: r, n => if forN k.name n = true then k.val else atK d r n
theorem atK_drop {d : List UInt8} {ks : List Ky} {j : Nat} (h : j < ks.length) (n : List UInt8) : atK d (ks.drop j) n = if forN ks[j].name n = true then ks[j].val else atK d (ks.drop (j + 1)) n := by
  rw [List.drop_eq_getElem_cons h]
  rfl
/-- the bytes at a place -/
def byteO (d : List UInt8) (i : Nat) : UInt8 := d.getD i 0
def readO (d : List UInt8) (f n : Int) : List UInt8 := if f < 0 ∨ n < 0 ∨ f > 64 ∨ n > 64 ∨ f + n > 64 then [] else (List.range n.toNat).map fun i => byteO d (f.toNat + i)
/-- few and short -/
def fewO (o : Oj) : Bool := decide (o.data.length ≤ 200) && (decide (o.keys.length ≤ 200) && o.keys.all fun k => decide (k.val.length ≤ 3000) && decide (k.name.length ≤ 100))
end Go.Proofs.YtmigapjkicddiaaDoor
