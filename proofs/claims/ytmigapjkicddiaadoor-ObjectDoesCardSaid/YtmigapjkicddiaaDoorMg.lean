/- Objects: contract of the document's drop. Objects: contract of the document's put. Objects: contract of the document's Read. Objects: ops; contract of the document's guard. -/
import Derived.Test.YtmigapjkicddiaaDoorMf

namespace Go.Proofs.YtmigapjkicddiaaDoor
open Go.RowKit

set_option maxRecDepth 10000 in
set_option maxHeartbeats 4000000 in
theorem Rdrop8 (Ad : Option Addr) (nd cd : Nat) (Ak : Option Addr) (nk ck : Nat) (s : Int) (ks : List Ky) (X : List UInt8) (B : Nat) (w : World) (hB : B ≤ w.heap.size) (hr : RdK w B Ak nk ks) (hn : nk ≤ 100000) :
    Calls Tryd.prog 43 #[oV Ad nd cd Ak nk ck s, .string ⟨X.toArray⟩] w (TellK w B Ad nd cd s (dropK ks X)) := by
  have HT := Lib.hid (two_objs w (.cells #[.slice Ad nd cd, .slice Ak nk ck, .int .i64 s] 25) (.cells #[.slice none 0 0, .slice none 0 0, .int .i64 0] 25))
  have Hr := Lib.hid hr
  have Hsz := Lib.hid (show ((w.alloc (.cells #[.slice Ad nd cd, .slice Ak nk ck, .int .i64 s] 25)).alloc (.cells #[.slice none 0 0, .slice none 0 0, .int .i64 0] 25)).heap.size = w.heap.size + 2 by simp)
  obtain ⟨inf, hi, hz0, hz1, hz2⟩ := info_parts Tryd.infoK
  clear hr
  go_enter Tryd.func43, Tryd.ntmps43
  go_upto_region 1 with fail
  generalize (w.alloc (.cells #[.slice Ad nd cd, .slice Ak nk ck, .int .i64 s] 25)).alloc (.cells #[.slice none 0 0, .slice none 0 0, .int .i64 0] 25) = w1 at HT Hsz ⊢
  obtain ⟨b, hbe⟩ : ∃ b, b = w.heap.size := ⟨_, rfl⟩
  obtain ⟨z, hze⟩ : ∃ z, z = w.heap.size + 1 := ⟨_, rfl⟩
  have Hbz := Lib.hid (show w.heap.size ≤ b ∧ w.heap.size ≤ z ∧ b < z ∧ z < w1.heap.size by have := Hsz.out; omega)
  have Hh := Lib.hid HT.out.1
  have Hz := Lib.hid HT.out.2.1
  have Hb := Lib.hid HT.out.2.2
  rw [← hze] at Hz ⊢
  rw [← hbe] at Hh ⊢
  clear hbe hze HT Hsz
  obtain ⟨c0, c1, c2⟩ := objs_of Hh.out
  go_wp2_with fail
  go_loopw [5, 6] (fun v i wr => ∃ (j : Nat) (vs : List Kv), j ≤ nk ∧ i = .int .i64 j ∧ Hid (vs.map Kv.k = dropK (ks.take j) X) ∧ Hid (vs.length ≤ j) ∧ Hid (∀ p ∈ vs, KvAt w B p) ∧ Hid (wr.ownsRow w1.heap.size 48 2 v vs.length (flatK vs)) ∧ Hid (Below w1.heap.size w1 wr)) (fun _ i _ => nk - (intOf i).toNat)
  case atStart => exact ⟨0, [], Nat.zero_le _, rfl, rfl, Nat.le_refl _, by intro p hp; simp at hp, World.ownsRow_nil _ _ _ _, Below.refl _ _⟩
  case round =>
    obtain ⟨j, vs, hj, rfl, Hvs, Hlen, Hkv, Hown, Hbr⟩ := hrel
    have Gh := Lib.hid ((Hbr.out.block b (lt_of_block Hh.out)).trans Hh.out)
    clear c0 c1 c2
    obtain ⟨c0, c1, c2⟩ := objs_of Gh.out
    by_cases hjn : j < nk
    · have hjl : j < ks.length := by rw [Hr.out.1]; exact hjn
      obtain ⟨g, o, Aj, nj, cj, rfl, hg, x0, x1, h5, h6, h7⟩ := Hr.out.2 j hjl
      have hbr := Lib.hid (Hb.out.trans (Hbr.out.mono Hb.out.size))
      replace x0 := (hbr.out.cell (p := ⟨g, o + j * 2, none⟩) (Nat.lt_of_lt_of_le hg hB)).trans x0
      replace x1 := (hbr.out.cell (p := ⟨g, o + j * 2 + 1, none⟩) (Nat.lt_of_lt_of_le hg hB)).trans x1
      have Hst := Lib.hid (dropK_succ hjl X)
      have Hk := Lib.hid (show KvAt w B ⟨ks[j], Aj, nj, cj⟩ from ⟨h5, h6, h7⟩)
      have hg2 : g < wr.heap.size := by have := hbr.out.size; omega
      clear h5 h7
      generalize ks[j] = k at x0 Hst Hk
      obtain ⟨m, u⟩ := k
      have x0 : wr.cell? ⟨g, o + j * 2, none⟩ = some (.string ⟨m.toArray⟩) := x0
      have hj0 : (0 : Int) ≤ (j : Int) := by omega
      have hj1 : (j : Int) < (nk : Int) := by omega
      have hln := Hlen.out
      have hws := Hbr.out.size
      clear hjl hbr
      by_cases hx : m = X
      · have Hvs2 := Lib.hid (show vs.map Kv.k = dropK (ks.take (j + 1)) X by rw [Hst.out, Hvs.out, if_pos hx, List.append_nil])
        have hb : (m == X) = true := by simpa using hx
        clear Hst Hvs Hk
        go_wp2_with fail
        go_roundw
        case rel => exact ⟨j + 1, vs, by omega, by go_num, Hvs2, by show _ ≤ _; omega, Hkv, Hown, Hbr⟩
        case measure => simp [intOf]; omega
      · have Hvs2 := Lib.hid (show (vs ++ [(⟨⟨m, u⟩, Aj, nj, cj⟩ : Kv)]).map Kv.k = dropK (ks.take (j + 1)) X by rw [Hst.out, List.map_append, Hvs.out, if_neg hx]; rfl)
        have hb : (m == X) = false := by simpa using hx
        have Hkv2 := Lib.hid (show ∀ p ∈ vs ++ [(⟨⟨m, u⟩, Aj, nj, cj⟩ : Kv)], KvAt w B p from fun p hp => by
          rcases List.mem_append.1 hp with hp | hp
          · exact Hkv.out p hp
          · simp at hp; subst hp; exact Hk.out)
        obtain ⟨A0, k0, rfl, _, _⟩ := ownF Hown.out
        obtain ⟨l0, hl0⟩ : ∃ l, l = vs.length := ⟨_, rfl⟩
        rw [← hl0] at Hown hln ⊢
        have Hl0 := Lib.hid hl0
        clear Hst Hvs Hk Hkv Hlen hl0
        go_wp2_with (at_builtin; refine wpList_append_own _ rfl (.tmp 22) (.tmp 28) 23 rfl w1.heap.size 48 inf (.agg #[.string ⟨#[]⟩, .slice none 0 0]) 2 40 Tryd.underlying23 hi hz0 hz1 hz2 rfl (by decide) _ l0 (flatK vs) rfl (Hown.out.alloc _) ⟨wr.heap.size, 0, none⟩ 1 1 [.string ⟨m.toArray⟩, .slice Aj nj cj] rfl rfl (key_at _ _ _ _ _ rfl) (key_one _ _ _ _) (by simp only [maxLen]; omega) (by omega) (by simp; omega) ?_; intro v3 w3 hown3 hg3 _; obtain ⟨A2, k2, rfl, _, _⟩ := ownF hown3; have Hb3 := Lib.hid ((Hbr.out.alloc (by omega) _).grown hg3 (by simp; omega) (fun q hq => (Hown.out.lt q hq).1)); have Hown3 := Lib.hid hown3; clear hown3 hg3)
        go_roundw
        case rel => exact ⟨j + 1, vs ++ [⟨⟨m, u⟩, Aj, nj, cj⟩], by omega, by go_num, Hvs2, by show _ ≤ _; simp; have := Hl0.out; omega, Hkv2, by show World.ownsRow _ _ _ _ _ _ _; rw [flatK_app, List.length_append, ← Hl0.out]; exact Hown3.out, Hb3⟩
        case measure => simp [intOf]; omega
    · obtain rfl : j = nk := by omega
      have Hvs2 := Lib.hid (show vs.map Kv.k = dropK ks X by rw [Hvs.out, List.take_of_length_le (by rw [Hr.out.1]; exact Nat.le_refl _)])
      obtain ⟨A0, k0, rfl, _, _⟩ := ownF Hown.out
      obtain ⟨l0, hl0⟩ : ∃ l, l = vs.length := ⟨_, rfl⟩
      rw [← hl0] at Hown ⊢
      have Hl0 := Lib.hid hl0
      clear Hvs hl0
      have Gz := Lib.hid ((Hbr.out.block z (lt_of_block Hz.out)).trans Hz.out)
      have y1 := free_blk Gh.out 1
      go_upto_region 8 with fail
      have Hbw := Lib.hid ((Hb.out.trans (Hbr.out.mono Hb.out.size)).setCell (p := ⟨b, 1, none⟩) (by have := Hbz.out; show _ ≤ b; omega) (.slice A0 l0 k0))
      have Hh3 := Lib.hid (show (wr.setCell ⟨b, 1, none⟩ (.slice A0 l0 k0)).heap[b]? = some (.cells #[.slice Ad nd cd, .slice A0 l0 k0, .int .i64 s] 25 (0, 0)) from set_blk Gh.out 1 _)
      have Hz3 := Lib.hid ((Below.heap_setCell wr ⟨b, 1, none⟩ (.slice A0 l0 k0) z (by have := Hbz.out; show z ≠ b; omega)).trans Gz.out)
      have Ho3 := Lib.hid (own_set8 Hown.out (p := ⟨b, 1, none⟩) (by have := Hbz.out; show b < _; omega) (.slice A0 l0 k0))
      clear c0 c1 c2 y1 Gh Gz Hown
      generalize wr.setCell ⟨b, 1, none⟩ (.slice A0 l0 k0) = w3 at Hbw Hh3 Hz3 Ho3 ⊢
      obtain ⟨c0, c1, c2⟩ := objs_of Hh3.out
      obtain ⟨z0, z1, z2⟩ := objs_of Hz3.out
      have y0 := free_blk Hz3.out 0
      have y1 := free_blk Hz3.out 1
      have y2 := free_blk Hz3.out 2
      have hne : (z == b) = false := by have := Hbz.out; simp; omega
      have hne2 : z ≠ b := by have := Hbz.out; omega
      have P9 := Lib.hid (put3_at Hz3.out (.slice Ad nd cd) (.slice A0 l0 k0) (.int .i64 s))
      have B9 := Lib.hid (put3_below Hbw.out (by have := Hbz.out; omega) (.slice Ad nd cd) (.slice A0 l0 k0) (.int .i64 s) (z := z))
      have O9 := Lib.hid (own_put3 Ho3.out (by have := Hbz.out; omega) (.slice Ad nd cd) (.slice A0 l0 k0) (.int .i64 s) (z := z))
      go_wp2_with fail
      clear c0 c1 c2 z0 z1 z2 y0 y1 y2 hne hne2
      change bodyPost _ _ _ _ _ (put3 w3 z (.slice Ad nd cd) (.slice A0 l0 k0) (.int .i64 s))
      generalize put3 w3 z (.slice Ad nd cd) (.slice A0 l0 k0) (.int .i64 s) = w4 at P9 B9 O9 ⊢
      obtain ⟨z0, z1, z2⟩ := objs_of P9.out
      exact bodyPost_ret (v := oV Ad nd cd A0 l0 k0 s) (by simp [results, Tryd.results43, go_sem, z0, z1, z2]) rfl ⟨_, _, _, _, rfl, Hvs2.out, Hl0.out.symm, Hkv.out, own_base8 O9.out Hb.out.size, B9.out⟩
end Go.Proofs.YtmigapjkicddiaaDoor

namespace Go.Proofs.YtmigapjkicddiaaDoor
open Go.RowKit

def newK (X v : List UInt8) (a : Bool × List Ky) (b : Bool) : Bool × List Ky := if b = true then (true, a.2 ++ [⟨X, v⟩]) else a
def putStep (X v : List UInt8) (a : Bool × List Ky) (k : Ky) : Bool × List Ky :=
  ((newK X v a (!Op.bytesLess k.name X && !a.1)).1, (newK X v a (!Op.bytesLess k.name X && !a.1)).2 ++ if k.name = X then [] else [k])
def putS (ks : List Ky) (X v : List UInt8) : Bool × List Ky := ks.foldl (putStep X v) (false, [])
def putK (ks : List Ky) (X v : List UInt8) : List Ky := (newK X v (putS ks X v) (!(putS ks X v).1)).2
theorem putS_succ {ks : List Ky} {j : Nat} (h : j < ks.length) (X v : List UInt8) : putS (ks.take (j + 1)) X v = putStep X v (putS (ks.take j) X v) ks[j] := by
  unfold putS
  rw [List.take_succ_eq_append_getElem h, List.foldl_append]
  rfl
set_option maxRecDepth 10000 in
set_option maxHeartbeats 8000000 in
theorem RPut8 (Ad : Option Addr) (nd cd : Nat) (Ak : Option Addr) (nk ck : Nat) (s : Int) (Av : Option Addr) (nv cv : Nat) (ks : List Ky) (X v : List UInt8) (B : Nat) (w : World) (hB : B ≤ w.heap.size) (hr : RdK w B Ak nk ks) (hv : Rd w B Av nv v) (hvn : nv ≤ 9223372036854775807)
    (hXn : X.length ≤ 9223372036854775807) (hn : nk ≤ 100000) :
    Calls Tryd.prog 60 #[oV Ad nd cd Ak nk ck s, .string ⟨X.toArray⟩, .slice Av nv cv] w (TellK w B Ad nd cd s (putK ks X v)) := by
  have HT := Lib.hid (two_objs w (.cells #[.slice Ad nd cd, .slice Ak nk ck, .int .i64 s] 25) (.cells #[.slice none 0 0, .slice none 0 0, .int .i64 0] 25))
  have Hr := Lib.hid hr
  have Hnew := Lib.hid (show KvAt w B (⟨⟨X, v⟩, Av, nv, cv⟩ : Kv) from ⟨hv, hvn, hXn⟩)
  have Hsz := Lib.hid (show ((w.alloc (.cells #[.slice Ad nd cd, .slice Ak nk ck, .int .i64 s] 25)).alloc (.cells #[.slice none 0 0, .slice none 0 0, .int .i64 0] 25)).heap.size = w.heap.size + 2 by simp)
  obtain ⟨inf, hi, hz0, hz1, hz2⟩ := info_parts Tryd.infoK
  clear hr hv
  go_enter Tryd.func60, Tryd.ntmps60
  go_upto_region 1 with fail
  generalize (w.alloc (.cells #[.slice Ad nd cd, .slice Ak nk ck, .int .i64 s] 25)).alloc (.cells #[.slice none 0 0, .slice none 0 0, .int .i64 0] 25) = w1 at HT Hsz ⊢
  obtain ⟨b, hbe⟩ : ∃ b, b = w.heap.size := ⟨_, rfl⟩
  obtain ⟨z, hze⟩ : ∃ z, z = w.heap.size + 1 := ⟨_, rfl⟩
  have Hbz := Lib.hid (show w.heap.size ≤ b ∧ w.heap.size ≤ z ∧ b < z ∧ z < w1.heap.size by have := Hsz.out; omega)
  have Hh := Lib.hid HT.out.1
  have Hz := Lib.hid HT.out.2.1
  have Hb := Lib.hid HT.out.2.2
  rw [← hze] at Hz ⊢
  rw [← hbe] at Hh ⊢
  clear hbe hze HT Hsz
  obtain ⟨c0, c1, c2⟩ := objs_of Hh.out
  go_wp2_with fail
  go_loopw [7, 8, 9] (fun o dn i wr => ∃ (j : Nat) (done : Bool) (vs : List Kv), j ≤ nk ∧ i = .int .i64 j ∧ dn = .bool done ∧ Hid ((done, vs.map Kv.k) = putS (ks.take j) X v) ∧ Hid (vs.length ≤ 2 * j) ∧ Hid (∀ p ∈ vs, KvAt w B p) ∧ Hid (wr.ownsRow w1.heap.size 48 2 o vs.length (flatK vs)) ∧ Hid (Below w1.heap.size w1 wr)) (fun _ _ i _ => nk - (intOf i).toNat)
  case atStart => exact ⟨0, false, [], Nat.zero_le _, rfl, rfl, rfl, Nat.le_refl _, by intro p hp; simp at hp, World.ownsRow_nil _ _ _ _, Below.refl _ _⟩
  case round =>
    obtain ⟨j, done, vs, hj, rfl, rfl, Hvs, Hlen, Hkv, Hown, Hbr⟩ := hrel
    have Gh := Lib.hid ((Hbr.out.block b (lt_of_block Hh.out)).trans Hh.out)
    clear c0 c1 c2
    obtain ⟨c0, c1, c2⟩ := objs_of Gh.out
    by_cases hjn : j < nk
    · have hjl : j < ks.length := by rw [Hr.out.1]; exact hjn
      obtain ⟨g, o, Aj, nj, cj, rfl, hg, x0, x1, h5, h6, h7⟩ := Hr.out.2 j hjl
      have hbr := Lib.hid (Hb.out.trans (Hbr.out.mono Hb.out.size))
      have Hx0 := Lib.hid x0
      have Hx1 := Lib.hid x1
      replace x0 := (hbr.out.cell (p := ⟨g, o + j * 2, none⟩) (Nat.lt_of_lt_of_le hg hB)).trans x0
      have Hst := Lib.hid (putS_succ hjl X v)
      have Hk := Lib.hid (show KvAt w B ⟨ks[j], Aj, nj, cj⟩ from ⟨h5, h6, h7⟩)
      have Hg := Lib.hid (Nat.lt_of_lt_of_le hg hB)
      clear h5 h7 x1
      generalize ks[j] = k at x0 Hx0 Hst Hk
      obtain ⟨m, u⟩ := k
      have x0 : wr.cell? ⟨g, o + j * 2, none⟩ = some (.string ⟨m.toArray⟩) := x0
      have hj0 : (0 : Int) ≤ (j : Int) := by omega
      have hj1 : (j : Int) < (nk : Int) := by omega
      have hln := Hlen.out
      have hws := Hbr.out.size
      clear hjl hbr
      obtain ⟨A0, k0, rfl, _, _⟩ := ownF Hown.out
      obtain ⟨l0, hl0⟩ : ∃ l, l = vs.length := ⟨_, rfl⟩
      rw [← hl0] at Hown hln ⊢
      have Hl0 := Lib.hid hl0
      clear hl0
      cases hl : Op.bytesLess m X
      · cases done
        · go_upto_region 9 with (at_builtin; refine wpList_append_own _ rfl (.tmp 29) (.tmp 33) 23 rfl w1.heap.size 48 inf (.agg #[.string ⟨#[]⟩, .slice none 0 0]) 2 40 Tryd.underlying23 hi hz0 hz1 hz2 rfl (by decide) _ l0 (flatK vs) rfl (Hown.out.alloc _) ⟨_, 0, none⟩ 1 1 [.string ⟨X.toArray⟩, .slice Av nv cv] rfl rfl (key_at _ _ _ _ _ rfl) (key_one _ _ _ _) (by simp only [maxLen]; omega) (by omega) (by simp; omega) ?_; intro v3 w3 hown3 hg3 _; obtain ⟨A2, k2, rfl, _, _⟩ := ownF hown3; have Hb3 := Lib.hid ((Hbr.out.alloc (by omega) _).grown hg3 (by simp; omega) (fun q hq => (Hown.out.lt q hq).1)); have Hown3 := Lib.hid hown3; clear hown3 hg3)
          have Hst2 := Lib.hid (show putS (ks.take (j + 1)) X v = (true, (vs ++ [(⟨⟨X, v⟩, Av, nv, cv⟩ : Kv)]).map Kv.k ++ if m = X then [] else [⟨m, u⟩]) by
            rw [Hst.out, ← Hvs.out]
            simp [putStep, newK, hl])
          have Hkv1 := Lib.hid (show ∀ p ∈ vs ++ [(⟨⟨X, v⟩, Av, nv, cv⟩ : Kv)], KvAt w B p from fun p hp => by
            rcases List.mem_append.1 hp with hp | hp
            · exact Hkv.out p hp
            · simp at hp; subst hp; exact Hnew.out)
          have Hl1 := Lib.hid (show l0 + 1 = (vs ++ [(⟨⟨X, v⟩, Av, nv, cv⟩ : Kv)]).length by rw [List.length_append, ← Hl0.out]; rfl)
          have Hown1 := Lib.hid (show w3.ownsRow w1.heap.size 48 2 (.slice A2 (l0 + 1) k2) (l0 + 1) (flatK (vs ++ [(⟨⟨X, v⟩, Av, nv, cv⟩ : Kv)])) by rw [flatK_app]; exact Hown3.out)
          have Hb1 := Lib.hid Hb3.out
          have hln1 : l0 + 1 ≤ 2 * j + 1 := by omega
          clear Hown3 Hb3 Hst Hvs Hl0 Hown Hbr Hlen Hkv hln hl c0 c1 c2 x0 Gh hws
          generalize vs ++ [(⟨⟨X, v⟩, Av, nv, cv⟩ : Kv)] = vs1 at Hst2 Hkv1 Hl1 Hown1
          generalize l0 + 1 = l1 at Hl1 Hown1 hln1 ⊢
          generalize (true : Bool) = dn1 at Hst2 ⊢
          have Gh1 := Lib.hid ((Hb1.out.block b (lt_of_block Hh.out)).trans Hh.out)
          have hbr := Lib.hid (Hb.out.trans (Hb1.out.mono Hb.out.size))
          have x0 := (hbr.out.cell (p := ⟨g, o + j * 2, none⟩) Hg.out).trans Hx0.out
          have x1 := (hbr.out.cell (p := ⟨g, o + j * 2 + 1, none⟩) Hg.out).trans Hx1.out
          have hg2 := Nat.lt_of_lt_of_le Hg.out hbr.out.size
          have hg2 : ¬ g = _ := Nat.ne_of_lt hg2
          have hws1 := Hb1.out.size
          clear Hx0 Hx1 hbr
          obtain ⟨c0, c1, c2⟩ := objs_of Gh1.out
          by_cases hx : m = X
          · have hb : (m == X) = true := by simpa using hx
            go_wp2_with fail
            go_roundw
            case rel => exact ⟨j + 1, _, vs1, by omega, by go_num, rfl, by show _ = _; rw [Hst2.out, if_pos hx, List.append_nil], by show _ ≤ _; have := Hl1.out; omega, Hkv1, by show World.ownsRow _ _ _ _ _ _ _; rw [← Hl1.out]; exact Hown1.out, Hb1⟩
            case measure => simp [intOf]; omega
          · have hb : (m == X) = false := by simpa using hx
            go_wp2_with (at_builtin; refine wpList_append_own _ rfl (.tmp 43) (.tmp 49) 23 rfl w1.heap.size 48 inf (.agg #[.string ⟨#[]⟩, .slice none 0 0]) 2 40 Tryd.underlying23 hi hz0 hz1 hz2 rfl (by decide) _ l1 (flatK vs1) rfl (Hown1.out.alloc _) ⟨_, 0, none⟩ 1 1 [.string ⟨m.toArray⟩, .slice Aj nj cj] rfl rfl (key_at _ _ _ _ _ rfl) (key_one _ _ _ _) (by simp only [maxLen]; omega) (by omega) (by simp; omega) ?_; intro v3 w3 hown3 hg3 _; obtain ⟨A2, k2, rfl, _, _⟩ := ownF hown3; have Hb3 := Lib.hid ((Hb1.out.alloc (by omega) _).grown hg3 (by simp; omega) (fun q hq => (Hown1.out.lt q hq).1)); have Hown3 := Lib.hid hown3; clear hown3 hg3)
            go_roundw
            case rel =>
              refine ⟨j + 1, _, vs1 ++ [(⟨⟨m, u⟩, Aj, nj, cj⟩ : Kv)], by omega, by go_num, rfl, ?_, ?_, ?_, ?_, Hb3⟩
              · show _ = _
                rw [Hst2.out, if_neg hx, List.map_append]
                rfl
              · show _ ≤ _
                rw [List.length_append, ← Hl1.out]
                simp
                omega
              · intro p hp
                rcases List.mem_append.1 hp with hp | hp
                · exact Hkv1.out p hp
                · simp at hp; subst hp; exact Hk.out
              · show World.ownsRow _ _ _ _ _ _ _
                rw [flatK_app, List.length_append, ← Hl1.out]
                exact Hown3.out
            case measure => simp [intOf]; omega
        · go_upto_region 9 with fail
          have Hst2 := Lib.hid (show putS (ks.take (j + 1)) X v = (true, vs.map Kv.k ++ if m = X then [] else [⟨m, u⟩]) by
            rw [Hst.out, ← Hvs.out]
            simp [putStep, newK])
          have Hkv1 := Lib.hid Hkv.out
          have Hl1 := Lib.hid Hl0.out
          have Hown1 := Lib.hid Hown.out
          have Hb1 := Lib.hid Hbr.out
          have hln1 : l0 ≤ 2 * j + 1 := by omega
          clear Hst Hvs Hl0 Hown Hbr Hlen Hkv hln hl c0 c1 c2 x0 Gh hws
          have Gh1 := Lib.hid ((Hb1.out.block b (lt_of_block Hh.out)).trans Hh.out)
          have hbr := Lib.hid (Hb.out.trans (Hb1.out.mono Hb.out.size))
          have x0 := (hbr.out.cell (p := ⟨g, o + j * 2, none⟩) Hg.out).trans Hx0.out
          have x1 := (hbr.out.cell (p := ⟨g, o + j * 2 + 1, none⟩) Hg.out).trans Hx1.out
          have hg2 := Nat.lt_of_lt_of_le Hg.out hbr.out.size
          have hg2 : ¬ g = _ := Nat.ne_of_lt hg2
          have hws1 := Hb1.out.size
          clear Hx0 Hx1 hbr
          obtain ⟨c0, c1, c2⟩ := objs_of Gh1.out
          by_cases hx : m = X
          · have hb : (m == X) = true := by simpa using hx
            go_wp2_with fail
            go_roundw
            case rel => exact ⟨j + 1, _, vs, by omega, by go_num, rfl, by show _ = _; rw [Hst2.out, if_pos hx, List.append_nil], by show _ ≤ _; have := Hl1.out; omega, Hkv1, by show World.ownsRow _ _ _ _ _ _ _; rw [← Hl1.out]; exact Hown1.out, Hb1⟩
            case measure => simp [intOf]; omega
          · have hb : (m == X) = false := by simpa using hx
            go_wp2_with (at_builtin; refine wpList_append_own _ rfl (.tmp 43) (.tmp 49) 23 rfl w1.heap.size 48 inf (.agg #[.string ⟨#[]⟩, .slice none 0 0]) 2 40 Tryd.underlying23 hi hz0 hz1 hz2 rfl (by decide) _ l0 (flatK vs) rfl (Hown1.out.alloc _) ⟨_, 0, none⟩ 1 1 [.string ⟨m.toArray⟩, .slice Aj nj cj] rfl rfl (key_at _ _ _ _ _ rfl) (key_one _ _ _ _) (by simp only [maxLen]; omega) (by omega) (by simp; omega) ?_; intro v3 w3 hown3 hg3 _; obtain ⟨A2, k2, rfl, _, _⟩ := ownF hown3; have Hb3 := Lib.hid ((Hb1.out.alloc (by omega) _).grown hg3 (by simp; omega) (fun q hq => (Hown1.out.lt q hq).1)); have Hown3 := Lib.hid hown3; clear hown3 hg3)
            go_roundw
            case rel =>
              refine ⟨j + 1, _, vs ++ [(⟨⟨m, u⟩, Aj, nj, cj⟩ : Kv)], by omega, by go_num, rfl, ?_, ?_, ?_, ?_, Hb3⟩
              · show _ = _
                rw [Hst2.out, if_neg hx, List.map_append]
                rfl
              · show _ ≤ _
                rw [List.length_append, ← Hl1.out]
                simp
                omega
              · intro p hp
                rcases List.mem_append.1 hp with hp | hp
                · exact Hkv1.out p hp
                · simp at hp; subst hp; exact Hk.out
              · show World.ownsRow _ _ _ _ _ _ _
                rw [flatK_app, List.length_append, ← Hl1.out]
                exact Hown3.out
            case measure => simp [intOf]; omega
      · go_upto_region 9 with fail
        have Hst2 := Lib.hid (show putS (ks.take (j + 1)) X v = (done, vs.map Kv.k ++ if m = X then [] else [⟨m, u⟩]) by
          rw [Hst.out, ← Hvs.out]
          simp [putStep, newK, hl])
        have Hkv1 := Lib.hid Hkv.out
        have Hl1 := Lib.hid Hl0.out
        have Hown1 := Lib.hid Hown.out
        have Hb1 := Lib.hid Hbr.out
        have hln1 : l0 ≤ 2 * j + 1 := by omega
        clear Hst Hvs Hl0 Hown Hbr Hlen Hkv hln hl c0 c1 c2 x0 Gh hws
        have Gh1 := Lib.hid ((Hb1.out.block b (lt_of_block Hh.out)).trans Hh.out)
        have hbr := Lib.hid (Hb.out.trans (Hb1.out.mono Hb.out.size))
        have x0 := (hbr.out.cell (p := ⟨g, o + j * 2, none⟩) Hg.out).trans Hx0.out
        have x1 := (hbr.out.cell (p := ⟨g, o + j * 2 + 1, none⟩) Hg.out).trans Hx1.out
        have hg2 := Nat.lt_of_lt_of_le Hg.out hbr.out.size
        have hg2 : ¬ g = _ := Nat.ne_of_lt hg2
        have hws1 := Hb1.out.size
        clear Hx0 Hx1 hbr
        obtain ⟨c0, c1, c2⟩ := objs_of Gh1.out
        by_cases hx : m = X
        · have hb : (m == X) = true := by simpa using hx
          go_wp2_with fail
          go_roundw
          case rel => exact ⟨j + 1, _, vs, by omega, by go_num, rfl, by show _ = _; rw [Hst2.out, if_pos hx, List.append_nil], by show _ ≤ _; have := Hl1.out; omega, Hkv1, by show World.ownsRow _ _ _ _ _ _ _; rw [← Hl1.out]; exact Hown1.out, Hb1⟩
          case measure => simp [intOf]; omega
        · have hb : (m == X) = false := by simpa using hx
          go_wp2_with (at_builtin; refine wpList_append_own _ rfl (.tmp 43) (.tmp 49) 23 rfl w1.heap.size 48 inf (.agg #[.string ⟨#[]⟩, .slice none 0 0]) 2 40 Tryd.underlying23 hi hz0 hz1 hz2 rfl (by decide) _ l0 (flatK vs) rfl (Hown1.out.alloc _) ⟨_, 0, none⟩ 1 1 [.string ⟨m.toArray⟩, .slice Aj nj cj] rfl rfl (key_at _ _ _ _ _ rfl) (key_one _ _ _ _) (by simp only [maxLen]; omega) (by omega) (by simp; omega) ?_; intro v3 w3 hown3 hg3 _; obtain ⟨A2, k2, rfl, _, _⟩ := ownF hown3; have Hb3 := Lib.hid ((Hb1.out.alloc (by omega) _).grown hg3 (by simp; omega) (fun q hq => (Hown1.out.lt q hq).1)); have Hown3 := Lib.hid hown3; clear hown3 hg3)
          go_roundw
          case rel =>
            refine ⟨j + 1, _, vs ++ [(⟨⟨m, u⟩, Aj, nj, cj⟩ : Kv)], by omega, by go_num, rfl, ?_, ?_, ?_, ?_, Hb3⟩
            · show _ = _
              rw [Hst2.out, if_neg hx, List.map_append]
              rfl
            · show _ ≤ _
              rw [List.length_append, ← Hl1.out]
              simp
              omega
            · intro p hp
              rcases List.mem_append.1 hp with hp | hp
              · exact Hkv1.out p hp
              · simp at hp; subst hp; exact Hk.out
            · show World.ownsRow _ _ _ _ _ _ _
              rw [flatK_app, List.length_append, ← Hl1.out]
              exact Hown3.out
          case measure => simp [intOf]; omega
    · obtain rfl : j = nk := by omega
      have Hvs2 := Lib.hid (show putS ks X v = (done, vs.map Kv.k) by rw [Hvs.out, List.take_of_length_le (by rw [Hr.out.1]; exact Nat.le_refl _)])
      have hln := Hlen.out
      have hws := Hbr.out.size
      obtain ⟨A0, k0, rfl, _, _⟩ := ownF Hown.out
      obtain ⟨l0, hl0⟩ : ∃ l, l = vs.length := ⟨_, rfl⟩
      rw [← hl0] at Hown hln ⊢
      have Hl0 := Lib.hid hl0
      clear hl0
      cases done
      · go_upto_region 13 with (at_builtin; refine wpList_append_own _ rfl (.tmp 53) (.tmp 57) 23 rfl w1.heap.size 48 inf (.agg #[.string ⟨#[]⟩, .slice none 0 0]) 2 40 Tryd.underlying23 hi hz0 hz1 hz2 rfl (by decide) _ l0 (flatK vs) rfl (Hown.out.alloc _) ⟨_, 0, none⟩ 1 1 [.string ⟨X.toArray⟩, .slice Av nv cv] rfl rfl (key_at _ _ _ _ _ rfl) (key_one _ _ _ _) (by simp only [maxLen]; omega) (by omega) (by simp; omega) ?_; intro v3 w3 hown3 hg3 _; obtain ⟨A2, k2, rfl, _, _⟩ := ownF hown3; have Hb3 := Lib.hid ((Hbr.out.alloc (by omega) _).grown hg3 (by simp; omega) (fun q hq => (Hown.out.lt q hq).1)); have Hown3 := Lib.hid hown3; clear hown3 hg3)
        have Hv1 := Lib.hid (show (vs ++ [(⟨⟨X, v⟩, Av, nv, cv⟩ : Kv)]).map Kv.k = putK ks X v by unfold putK; rw [Hvs2.out]; simp [newK])
        have Hkv1 := Lib.hid (show ∀ p ∈ vs ++ [(⟨⟨X, v⟩, Av, nv, cv⟩ : Kv)], KvAt w B p from fun p hp => by
          rcases List.mem_append.1 hp with hp | hp
          · exact Hkv.out p hp
          · simp at hp; subst hp; exact Hnew.out)
        have Hl1 := Lib.hid (show l0 + 1 = (vs ++ [(⟨⟨X, v⟩, Av, nv, cv⟩ : Kv)]).length by rw [List.length_append, ← Hl0.out]; rfl)
        have Hown1 := Lib.hid (show w3.ownsRow w1.heap.size 48 2 (.slice A2 (l0 + 1) k2) (l0 + 1) (flatK (vs ++ [(⟨⟨X, v⟩, Av, nv, cv⟩ : Kv)])) by rw [flatK_app]; exact Hown3.out)
        have Hb1 := Lib.hid Hb3.out
        clear Hvs c0 c1 c2 Gh Hown Hbr hws hln Hkv Hvs2 Hlen Hl0 Hown3 Hb3
        generalize vs ++ [(⟨⟨X, v⟩, Av, nv, cv⟩ : Kv)] = vs1 at Hv1 Hkv1 Hl1 Hown1
        generalize l0 + 1 = l1 at Hl1 Hown1 ⊢
        have Gh := Lib.hid ((Hb1.out.block b (lt_of_block Hh.out)).trans Hh.out)
        have Gz := Lib.hid ((Hb1.out.block z (lt_of_block Hz.out)).trans Hz.out)
        obtain ⟨c0, c1, c2⟩ := objs_of Gh.out
        have y1 := free_blk Gh.out 1
        go_upto_region 14 with fail
        have Hbw := Lib.hid ((Hb.out.trans (Hb1.out.mono Hb.out.size)).setCell (p := ⟨b, 1, none⟩) (by have := Hbz.out; show _ ≤ b; omega) (.slice A2 l1 k2))
        have Hh3 := Lib.hid (show (w3.setCell ⟨b, 1, none⟩ (.slice A2 l1 k2)).heap[b]? = some (.cells #[.slice Ad nd cd, .slice A2 l1 k2, .int .i64 s] 25 (0, 0)) from set_blk Gh.out 1 _)
        have Hz3 := Lib.hid ((Below.heap_setCell w3 ⟨b, 1, none⟩ (.slice A2 l1 k2) z (by have := Hbz.out; show z ≠ b; omega)).trans Gz.out)
        have Ho3 := Lib.hid (own_set8 Hown1.out (p := ⟨b, 1, none⟩) (by have := Hbz.out; show b < _; omega) (.slice A2 l1 k2))
        clear c0 c1 c2 y1 Gh Gz Hown1
        generalize w3.setCell ⟨b, 1, none⟩ (.slice A2 l1 k2) = w5 at Hbw Hh3 Hz3 Ho3 ⊢
        obtain ⟨c0, c1, c2⟩ := objs_of Hh3.out
        obtain ⟨z0, z1, z2⟩ := objs_of Hz3.out
        have y0 := free_blk Hz3.out 0
        have y1 := free_blk Hz3.out 1
        have y2 := free_blk Hz3.out 2
        have hne : (z == b) = false := by have := Hbz.out; simp; omega
        have hne2 : z ≠ b := by have := Hbz.out; omega
        have P9 := Lib.hid (put3_at Hz3.out (.slice Ad nd cd) (.slice A2 l1 k2) (.int .i64 s))
        have B9 := Lib.hid (put3_below Hbw.out (by have := Hbz.out; omega) (.slice Ad nd cd) (.slice A2 l1 k2) (.int .i64 s) (z := z))
        have O9 := Lib.hid (own_put3 Ho3.out (by have := Hbz.out; omega) (.slice Ad nd cd) (.slice A2 l1 k2) (.int .i64 s) (z := z))
        go_wp2_with fail
        clear c0 c1 c2 z0 z1 z2 y0 y1 y2 hne hne2
        change bodyPost _ _ _ _ _ (put3 w5 z (.slice Ad nd cd) (.slice A2 l1 k2) (.int .i64 s))
        generalize put3 w5 z (.slice Ad nd cd) (.slice A2 l1 k2) (.int .i64 s) = w4 at P9 B9 O9 ⊢
        obtain ⟨z0, z1, z2⟩ := objs_of P9.out
        exact bodyPost_ret (v := oV Ad nd cd A2 l1 k2 s) (by simp [results, Tryd.results60, go_sem, z0, z1, z2]) rfl ⟨_, _, _, _, rfl, Hv1.out, Hl1.out.symm, Hkv1.out, own_base8 O9.out Hb.out.size, B9.out⟩
      · go_upto_region 13 with fail
        have Hv1 := Lib.hid (show vs.map Kv.k = putK ks X v by unfold putK; rw [Hvs2.out]; rfl)
        have Hkv1 := Lib.hid Hkv.out
        have Hl1 := Lib.hid Hl0.out
        have Hown1 := Lib.hid Hown.out
        have Hb1 := Lib.hid Hbr.out
        clear Hvs c0 c1 c2 Gh Hown Hbr hws hln Hkv Hvs2 Hlen Hl0
        have Gh := Lib.hid ((Hb1.out.block b (lt_of_block Hh.out)).trans Hh.out)
        have Gz := Lib.hid ((Hb1.out.block z (lt_of_block Hz.out)).trans Hz.out)
        obtain ⟨c0, c1, c2⟩ := objs_of Gh.out
        have y1 := free_blk Gh.out 1
        go_upto_region 14 with fail
        have Hbw := Lib.hid ((Hb.out.trans (Hb1.out.mono Hb.out.size)).setCell (p := ⟨b, 1, none⟩) (by have := Hbz.out; show _ ≤ b; omega) (.slice A0 l0 k0))
        have Hh3 := Lib.hid (show (wr.setCell ⟨b, 1, none⟩ (.slice A0 l0 k0)).heap[b]? = some (.cells #[.slice Ad nd cd, .slice A0 l0 k0, .int .i64 s] 25 (0, 0)) from set_blk Gh.out 1 _)
        have Hz3 := Lib.hid ((Below.heap_setCell wr ⟨b, 1, none⟩ (.slice A0 l0 k0) z (by have := Hbz.out; show z ≠ b; omega)).trans Gz.out)
        have Ho3 := Lib.hid (own_set8 Hown1.out (p := ⟨b, 1, none⟩) (by have := Hbz.out; show b < _; omega) (.slice A0 l0 k0))
        clear c0 c1 c2 y1 Gh Gz Hown1
        generalize wr.setCell ⟨b, 1, none⟩ (.slice A0 l0 k0) = w5 at Hbw Hh3 Hz3 Ho3 ⊢
        obtain ⟨c0, c1, c2⟩ := objs_of Hh3.out
        obtain ⟨z0, z1, z2⟩ := objs_of Hz3.out
        have y0 := free_blk Hz3.out 0
        have y1 := free_blk Hz3.out 1
        have y2 := free_blk Hz3.out 2
        have hne : (z == b) = false := by have := Hbz.out; simp; omega
        have hne2 : z ≠ b := by have := Hbz.out; omega
        have P9 := Lib.hid (put3_at Hz3.out (.slice Ad nd cd) (.slice A0 l0 k0) (.int .i64 s))
        have B9 := Lib.hid (put3_below Hbw.out (by have := Hbz.out; omega) (.slice Ad nd cd) (.slice A0 l0 k0) (.int .i64 s) (z := z))
        have O9 := Lib.hid (own_put3 Ho3.out (by have := Hbz.out; omega) (.slice Ad nd cd) (.slice A0 l0 k0) (.int .i64 s) (z := z))
        go_wp2_with fail
        clear c0 c1 c2 z0 z1 z2 y0 y1 y2 hne hne2
        change bodyPost _ _ _ _ _ (put3 w5 z (.slice Ad nd cd) (.slice A0 l0 k0) (.int .i64 s))
        generalize put3 w5 z (.slice Ad nd cd) (.slice A0 l0 k0) (.int .i64 s) = w4 at P9 B9 O9 ⊢
        obtain ⟨z0, z1, z2⟩ := objs_of P9.out
        exact bodyPost_ret (v := oV Ad nd cd A0 l0 k0 s) (by simp [results, Tryd.results60, go_sem, z0, z1, z2]) rfl ⟨_, _, _, _, rfl, Hv1.out, Hl1.out.symm, Hkv1.out, own_base8 O9.out Hb.out.size, B9.out⟩
end Go.Proofs.YtmigapjkicddiaaDoor

namespace Go.Proofs.YtmigapjkicddiaaDoor
open Go.RowKit

/-- the first j bytes from place f on, behind them noughts -/
def rdJ (d : List UInt8) (f j n : Nat) : List UInt8 := (List.range n).map fun i => if i < j then byteO d (f + i) else 0
theorem rdJ_len (d : List UInt8) (f j n : Nat) : (rdJ d f j n).length = n := by simp [rdJ]
theorem rdJ_zero (d : List UInt8) (f n : Nat) : rdJ d f 0 n = List.replicate n 0 := by
  unfold rdJ
  simp only [Nat.not_lt_zero, if_false]
  rw [List.map_const', List.length_range]
theorem rdJ_all (d : List UInt8) (f n : Nat) : rdJ d f n n = (List.range n).map fun i => byteO d (f + i) := by
  unfold rdJ
  apply List.map_congr_left
  intro i hi
  rw [if_pos (List.mem_range.1 hi)]
theorem rdJ_set (d : List UInt8) (f j n : Nat) : (rdJ d f j n).set j (byteO d (f + j)) = rdJ d f (j + 1) n := by
  apply List.ext_getElem
  · simp [rdJ]
  intro i h1 h2
  rw [List.getElem_set]
  simp only [rdJ, List.getElem_map, List.getElem_range]
  by_cases e : j = i
  · subst e; rw [if_pos rfl, if_pos (by omega)]
  · rw [if_neg e]
    by_cases hi : i < j
    · rw [if_pos hi, if_pos (by omega)]
    · rw [if_neg hi, if_neg (by omega)]
theorem rdJ_get (d : List UInt8) (f j n i : Nat) (h : i < n) (hj : ¬ i < j) : (rdJ d f j n)[i]? = some 0 := by
  unfold rdJ
  rw [List.getElem?_map, List.getElem?_range h]
  simp [hj]
theorem rdJ_skip (d : List UInt8) (f j n : Nat) (h : d.length ≤ f + j) : rdJ d f (j + 1) n = rdJ d f j n := by
  unfold rdJ
  apply List.map_congr_left
  intro i _
  by_cases hi : i < j
  · rw [if_pos hi, if_pos (by omega)]
  · rw [if_neg hi]
    by_cases hi2 : i < j + 1
    · rw [if_pos hi2]
      unfold byteO
      rw [List.getD_eq_getElem?_getD, List.getElem?_eq_none (by omega)]
      rfl
    · rw [if_neg hi2]
set_option maxRecDepth 10000 in
theorem mkB8 (k : Nat) (hk : k ≤ 1000000) (w : World) : (Instr.makeSlice 22 (.int .i64 (k : Int)) (.int .i64 (k : Int))).run Tryd.prog w = .ok (.slice (some ⟨w.heap.size, 0, none⟩) k k) (w.alloc (.cells (madeCells #[.int .u8 0] k) 5)) := by
  obtain ⟨i, hi, hz0, hz1, hz2⟩ := info_parts Tryd.infoB
  exact run_mk (P := Tryd.prog) Tryd.underlying22 hi hz0 hz1 (by omega) k k k rfl (Nat.le_refl _) (by omega) w
set_option maxRecDepth 10000 in
theorem own_madeB (w : World) (N : Nat) (hN : N ≤ 1000000) : (w.alloc (.cells (madeCells #[.int .u8 0] N) 5)).ownsRow w.heap.size 5 1 (.slice (some ⟨w.heap.size, 0, none⟩) N N) N ((List.replicate N (0 : UInt8)).map bv) := by
  refine ⟨by simp, .inr ⟨w.heap.size, N, _, rfl, Nat.le_refl _, heap_alloc_new w _, Nat.le_refl _, by simp only [maxLen]; omega, by rw [size_madeCells, Nat.mul_one], ?_⟩⟩
  rw [toList_madeCells_one, Nat.mul_one, List.map_replicate, List.take_replicate, Nat.min_self]
  rfl
/-- bytes are told in memory of their own -/
def TellB (w : World) (l : List UInt8) (e : Ending) (w' : World) : Prop := ∃ v, e = .returned v ∧ RdV w' w'.heap.size v l ∧ Below w.heap.size w w'

set_option maxRecDepth 10000 in
set_option maxHeartbeats 4000000 in
theorem RRead8 (Ad : Option Addr) (nd cd : Nat) (Ak : Option Addr) (nk ck : Nat) (s f n : Int) (d : List UInt8) (w : World) (hd : Rd w w.heap.size Ad nd d) :
    Calls Tryd.prog 18 #[oV Ad nd cd Ak nk ck s, .int .i64 f, .int .i64 n] w (TellB w (readO d f n)) := by
  have Hb := Lib.hid ((Below.refl w.heap.size w).alloc (Nat.le_refl _) (.cells #[.slice Ad nd cd, .slice Ak nk ck, .int .i64 s] 25))
  have Hd := Lib.hid (hd.below Hb.out)
  have Hh := Lib.hid (OAt.box w (.slice Ad nd cd) (.slice Ak nk ck) s 25)
  have Hsz := Lib.hid (show (w.alloc (.cells #[.slice Ad nd cd, .slice Ak nk ck, .int .i64 s] 25)).heap.size = w.heap.size + 1 by simp)
  clear hd
  by_cases hin : 0 ≤ f ∧ 0 ≤ n ∧ f ≤ 64 ∧ n ≤ 64 ∧ f + n ≤ 64
  · obtain ⟨h1, h2, h3, h4, h5⟩ := hin
    obtain ⟨F, rfl⟩ := Int.eq_ofNat_of_zero_le h1
    obtain ⟨N, rfl⟩ := Int.eq_ofNat_of_zero_le h2
    have He := Lib.hid (show readO d (F : Int) (N : Int) = (List.range N).map fun i => byteO d (F + i) by
      unfold readO
      rw [if_neg (by omega)]
      rfl)
    have hmk := fun W : World => mkB8 N (by omega) W
    go_enter Tryd.func18, Tryd.ntmps18
    go_upto_region 1 with fail
    generalize w.alloc (.cells #[.slice Ad nd cd, .slice Ak nk ck, .int .i64 s] 25) = w1 at Hb Hd Hh Hsz ⊢
    obtain ⟨b, hbe⟩ : ∃ b, b = w.heap.size := ⟨_, rfl⟩
    rw [← hbe] at Hh ⊢
    clear hbe
    go_wp2_with fail
    have Hown := Lib.hid (own_madeB w1 N (by omega))
    have Hb2 := Lib.hid ((Below.refl w1.heap.size w1).alloc (Nat.le_refl _) (.cells (madeCells #[.int .u8 0] N) 5))
    rw [← rdJ_zero d F N] at Hown
    clear hmk
    generalize w1.alloc (.cells (madeCells #[.int .u8 0] N) 5) = w2 at Hown Hb2 ⊢
    obtain ⟨g, hg⟩ : ∃ g, g = w1.heap.size := ⟨_, rfl⟩
    have Hg := Lib.hid hg
    have Hown : Hid (w2.ownsRow w1.heap.size 5 1 (.slice (some ⟨g, 0, none⟩) N N) N ((rdJ d F 0 N).map bv)) := by rw [hg]; exact Hown
    rw [← hg]
    clear hg
    go_loopw [8] (fun i wr => ∃ j : Nat, j ≤ N ∧ i = .int .i64 j ∧ Hid (wr.ownsRow w1.heap.size 5 1 (.slice (some ⟨g, 0, none⟩) N N) N ((rdJ d F j N).map bv)) ∧ Hid (Below w1.heap.size w1 wr)) (fun i _ => N - (intOf i).toNat)
    case atStart => exact ⟨0, Nat.zero_le _, rfl, Hown, Hb2⟩
    case round =>
      obtain ⟨j, hj, rfl, Hown2, Hbr⟩ := hrel
      have c0 := (Hh.out.to Hbr.out).c0
      by_cases hjn : j < N
      · have hj0 : (0 : Int) ≤ (j : Int) := by omega
        have hj1 : (j : Int) < (N : Int) := by omega
        have hwr : IntKind.i64.wrap ((F : Int) + (j : Int)) = ((F + j : Nat) : Int) := by rw [IntWalk.i64_in _ (by omega)]; omega
        by_cases hlt : F + j < nd
        · have hlt1 : (F : Int) + (j : Int) < (nd : Int) := by omega
          have hlt0 : (0 : Int) ≤ (F : Int) + (j : Int) := by omega
          obtain ⟨ad, rfl, hab, hcell⟩ := ((Hd.out.more (by have := Hsz.out; omega)).below Hbr.out).cellAt hlt
          have hy : byteO d (F + j) = d[F + j]'(by rw [Hd.out.1]; exact hlt) := by
            unfold byteO
            rw [List.getD_eq_getElem?_getD, List.getElem?_eq_getElem]
            rfl
          rw [← hy] at hcell
          have hcell2 : wr.cell? (ad.add (F + j)) = some (.int .u8 ((byteO d (F + j)).toNat : Int)) := hcell
          have hc : wr.cell? ⟨g, j, none⟩ = some (.int .u8 0) := by
            rw [Hown2.out.cellAt j (by omega), List.getElem?_map, rdJ_get d F j N j hjn (by omega)]; rfl
          have hf := World.ownsRow.frozenAt Hown2.out j
          have Hset := Lib.hid (rdJ_set d F j N)
          generalize byteO d (F + j) = y at hcell2 Hset
          clear hcell hy
          have hFj : ((F : Int) + (j : Int)).toNat = F + j := by omega
          go_wp2_with fail
          go_roundw
          case rel =>
            have h := (World.ownsRow.stored Hown2.out j (bv y)).1
            rw [← List.map_set, Hset.out] at h
            exact ⟨j + 1, by omega, by go_num, h, Lib.hid (Hbr.out.setCell (by show _ ≤ g; exact Nat.le_of_eq Hg.out.symm) _)⟩
          case measure => simp [intOf]; omega
        · have hlt1 : ¬ (F : Int) + (j : Int) < (nd : Int) := by omega
          have Hsk := Lib.hid (rdJ_skip d F j N (by rw [Hd.out.1]; omega))
          go_wp2_with fail
          go_roundw
          case rel => exact ⟨j + 1, by omega, by go_num, by rw [Hsk.out]; exact Hown2, Hbr⟩
          case measure => simp [intOf]; omega
      · obtain rfl : j = N := by omega
        have Hall := Lib.hid (rdJ_all d F j)
        go_wp2_with fail
        go_ret
        have hbf := Hb.out.trans (Hbr.out.mono Hb.out.size)
        exact ⟨_, rfl, ⟨_, _, _, rfl, by rw [He.out, ← Hall.out]; exact Rd.own Hown2.out, by omega⟩, hbf⟩
  · have He := Lib.hid (show readO d f n = [] by
      unfold readO
      rw [if_pos (by omega)])
    go_enter Tryd.func18, Tryd.ntmps18
    go_wp2_with fail
    all_goals
      go_ret
      exact ⟨_, rfl, ⟨none, 0, 0, rfl, by rw [He.out]; exact Rd.nil, by omega⟩, Hb.out⟩
end Go.Proofs.YtmigapjkicddiaaDoor

namespace Go.Proofs.YtmigapjkicddiaaDoor
open Go.RowKit

/-- an op: Kind, Off, N, Name, Data -/
structure Opr where
  k : Int
  f : Int
  n : Int
  name : List UInt8
  data : List UInt8
/-- an op's value -/
abbrev pV (k f n : Int) (X : List UInt8) (A : Option Addr) (m c : Nat) : Value := .agg #[.int .i64 k, .int .i64 f, .int .i64 n, .string ⟨X.toArray⟩, .slice A m c]
/-- block b holds an op -/
structure PAt (b : Nat) (k f n : Int) (X : List UInt8) (v : Value) (w : World) : Prop where
  c0 : w.cell? ⟨b, 0, none⟩ = some (.int .i64 k)
  c1 : w.cell? ⟨b, 1, none⟩ = some (.int .i64 f)
  c2 : w.cell? ⟨b, 2, none⟩ = some (.int .i64 n)
  c3 : w.cell? ⟨b, 3, none⟩ = some (.string ⟨X.toArray⟩)
  c4 : w.cell? ⟨b, 4, none⟩ = some v
theorem PAt.of {b : Nat} {k f n : Int} {X : List UInt8} {v : Value} {t : TypeId} {w : World} (h : w.heap[b]? = some (.cells #[.int .i64 k, .int .i64 f, .int .i64 n, .string ⟨X.toArray⟩, v] t (0, 0))) : PAt b k f n X v w := by
  refine ⟨?_, ?_, ?_, ?_, ?_⟩ <;> (rw [cell_blk h]; rfl)
theorem PAt.to {b : Nat} {k f n : Int} {X : List UInt8} {v : Value} {w w' : World} (h : PAt b k f n X v w) (hb : Below w.heap.size w w') : PAt b k f n X v w' := by
  have hl : b < w.heap.size := World.block_lt_of_cell? w _ h.c0
  exact ⟨(hb.cell hl).trans h.c0, (hb.cell hl).trans h.c1, (hb.cell hl).trans h.c2, (hb.cell hl).trans h.c3, (hb.cell hl).trans h.c4⟩
def guardO (o : Oj) (t : Bool) (p : Opr) : Bool × Int :=
  if p.k = 1 then (if t = true then (true, 0) else (false, 90))
  else if p.k = 2 then (if t = true then (false, 91) else (true, 0))
  else if p.k = 3 then (if getK o.keys p.name = some p.data then (true, 0) else (false, 92))
  else if p.k = 4 then (decide (o.seq < p.n), 0)
  else (true, 0)

set_option maxRecDepth 10000 in
set_option maxHeartbeats 4000000 in
theorem RGuard8 (Ad : Option Addr) (nd cd : Nat) (Ak : Option Addr) (nk ck : Nat) (s : Int) (d : List UInt8) (ks : List Ky) (t : Bool) (k f n : Int) (X : List UInt8) (Ap : Option Addr) (np cp : Nat) (D : List UInt8) (w : World)
    (hr : RdK w w.heap.size Ak nk ks) (hn : nk ≤ 100000) (hD : Rd w w.heap.size Ap np D) :
    Calls Tryd.prog 41 #[oV Ad nd cd Ak nk ck s, .bool t, pV k f n X Ap np cp] w fun e w' => e = .returned (.tuple #[.bool (guardO ⟨d, ks, s⟩ t ⟨k, f, n, X, D⟩).1, .int .i64 (guardO ⟨d, ks, s⟩ t ⟨k, f, n, X, D⟩).2]) ∧ Below w.heap.size w w' := by
  have HT := Lib.hid (two_objs w (.cells #[.slice Ad nd cd, .slice Ak nk ck, .int .i64 s] 25) (.cells #[.int .i64 k, .int .i64 f, .int .i64 n, .string ⟨X.toArray⟩, .slice Ap np cp] 38))
  have Hr := Lib.hid ((hr.below HT.out.2.2).more HT.out.2.2.size)
  have HD := Lib.hid ((hD.below HT.out.2.2).more HT.out.2.2.size)
  clear hr hD
  obtain ⟨r, hrr⟩ : ∃ r, r = guardO ⟨d, ks, s⟩ t ⟨k, f, n, X, D⟩ := ⟨_, rfl⟩
  rw [← hrr]
  have HR := Lib.hid hrr
  clear hrr
  go_enter Tryd.func41, Tryd.ntmps41
  go_upto_region 1 with fail
  generalize (w.alloc (.cells #[.slice Ad nd cd, .slice Ak nk ck, .int .i64 s] 25)).alloc (.cells #[.int .i64 k, .int .i64 f, .int .i64 n, .string ⟨X.toArray⟩, .slice Ap np cp] 38) = w1 at HT Hr HD ⊢
  obtain ⟨b2, hb2⟩ : ∃ b, b = w.heap.size + 1 := ⟨_, rfl⟩
  obtain ⟨b1, hb1⟩ : ∃ b, b = w.heap.size := ⟨_, rfl⟩
  have Hh := Lib.hid (OAt.of HT.out.1)
  have Hp := Lib.hid (PAt.of HT.out.2.1)
  have Hb := Lib.hid HT.out.2.2
  rw [← hb2] at Hp ⊢
  rw [← hb1] at Hh ⊢
  clear HT hb1 hb2
  have c0 := Hh.out.c0
  have c1 := Hh.out.c1
  have c2 := Hh.out.c2
  have p0 := Hp.out.c0
  have p2 := Hp.out.c2
  have p3 := Hp.out.c3
  by_cases k1 : k = 1
  · subst k1
    cases t
    all_goals
      go_wp2_with fail
      refine bodyPost_ret (v := .tuple #[.bool r.1, .int .i64 r.2]) (by rw [HR.out]; simp [results, Tryd.results41, go_sem, guardO]) rfl ⟨rfl, Hb.out⟩
  · by_cases k2 : k = 2
    · subst k2
      cases t
      all_goals
        go_wp2_with fail
        refine bodyPost_ret (v := .tuple #[.bool r.1, .int .i64 r.2]) (by rw [HR.out]; simp [results, Tryd.results41, go_sem, guardO]) rfl ⟨rfl, Hb.out⟩
    · by_cases k3 : k = 3
      · subst k3
        have HG := Lib.hid (RGet8 Ad nd cd Ak nk ck s ks X w1.heap.size w1 Hr.out (Nat.le_refl _) hn)
        go_wp2_with fail
        refine HG.out.mono ?_
        rintro e w2 ⟨v, rfl, ⟨Av, nv, cv, rfl, hv, hvn⟩, hb⟩
        have Hp2 := Lib.hid (Hp.out.to hb)
        have Hb2 := Lib.hid (Hb.out.trans (hb.mono Hb.out.size))
        have hsv := str_any (c := cv) (hv.below hb)
        have hsD := str_any (c := cp) (HD.out.below hb)
        have HR2 := Lib.hid (show r = if getK ks X = some D then (true, 0) else (false, 92) by rw [HR.out]; simp [guardO])
        clear hv hvn hb HG c0 c1 c2 p0 p2 p3 HR
        have p4 := Hp2.out.c4
        cases ho : getK ks X with
        | none =>
          have He := Lib.hid (show r = (false, 92) by rw [HR2.out, ho]; simp)
          rw [ho] at hsv
          clear HR2 ho
          go_wp2_with fail
          refine bodyPost_ret (v := .tuple #[.bool r.1, .int .i64 r.2]) (by rw [He.out]; simp [results, Tryd.results41, go_sem]) rfl ⟨rfl, Hb2.out⟩
        | some l =>
          rw [ho] at hsv
          have hsv : (convert 22 9 (.slice Av nv cv)).run Tryd.prog w2 = .ok (.string ⟨l.toArray⟩) w2 := hsv
          by_cases hl : l = D
          · have He := Lib.hid (show r = (true, 0) by rw [HR2.out, ho, hl]; simp)
            subst hl
            clear HR2 ho
            go_wp2_with fail
            refine bodyPost_ret (v := .tuple #[.bool r.1, .int .i64 r.2]) (by rw [He.out]; simp [results, Tryd.results41, go_sem]) rfl ⟨rfl, Hb2.out⟩
          · have He := Lib.hid (show r = (false, 92) by rw [HR2.out, ho]; simp [hl])
            have hl2 : (l == D) = false := by simpa using hl
            clear HR2 ho
            go_wp2_with fail
            refine bodyPost_ret (v := .tuple #[.bool r.1, .int .i64 r.2]) (by rw [He.out]; simp [results, Tryd.results41, go_sem]) rfl ⟨rfl, Hb2.out⟩
      · by_cases k4 : k = 4
        · subst k4
          have He := Lib.hid (show r = (decide (s < n), 0) by rw [HR.out]; simp [guardO])
          clear HR
          go_wp2_with fail
          refine bodyPost_ret (v := .tuple #[.bool r.1, .int .i64 r.2]) (by rw [He.out]; simp [results, Tryd.results41, go_sem]) rfl ⟨rfl, Hb.out⟩
        · have He := Lib.hid (show r = (true, 0) by rw [HR.out]; simp [guardO, k1, k2, k3, k4])
          clear HR
          go_wp2_with fail
          refine bodyPost_ret (v := .tuple #[.bool r.1, .int .i64 r.2]) (by rw [He.out]; simp [results, Tryd.results41, go_sem]) rfl ⟨rfl, Hb.out⟩
end Go.Proofs.YtmigapjkicddiaaDoor
