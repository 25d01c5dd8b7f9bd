/- awake of layer 3 answers true, and changes nothing that was there. -/
import Derived.Test.YtbkdlpmaikilnaaStS
import Derived.Test.YtbkdlpmaikilnaaStO
namespace Go.Proofs.Ytbkdlpmaikilnaa
open Go.RowKit

theorem ln232 : LN 2 3 2 := ⟨by decide, by decide, by decide, by decide, by decide⟩
theorem aw_place (w : World) : Calls Try.prog 11 #[.agg #[.int .i64 2, .int .i64 3, .int .i64 4], .int .i64 7] w fun e w' => e = .returned (.tuple #[.int .i64 0, .int .i64 3]) ∧ Below w.heap.size w w' :=
  Place_ok 2 3 2 7 w ln232 (by decide)
theorem aw_check (w : World) : Calls Try.prog 13 #[.agg #[.int .i64 2, .int .i64 3, .int .i64 4]] w fun e w' => e = .returned (.int .i64 0) ∧ Below w.heap.size w w' :=
  Check_any 2 3 4 w
theorem aw_back (w : World) : Calls Try.prog 14 #[.agg #[.int .i64 2, .int .i64 3, .int .i64 4], .int .i64 0, .int .i64 3] w fun e w' => e = .returned (.int .i64 7) ∧ Below w.heap.size w w' :=
  Back_ok 2 3 2 0 3 w ln232 (by decide) (by decide)
theorem aw_objects (w : World) : Calls Try.prog 19 #[.agg #[.int .i64 2, .int .i64 3, .int .i64 4], .int .i64 13] w fun e w' => e = .returned (.int .i64 4) ∧ Below w.heap.size w w' :=
  Objects_ok 2 3 2 13 w ln232 (by decide)
theorem aw_room (w : World) : Calls Try.prog 21 #[.agg #[.int .i64 2, .int .i64 3, .int .i64 4], .int .i64 0, .int .i64 7] w fun e w' => e = .returned (.int .i64 3) ∧ Below w.heap.size w w' :=
  Room_ok 2 3 2 0 7 w ln232 (by decide) (by decide)
theorem aw_pieces (w : World) : Calls Try.prog 17 #[.agg #[.int .i64 2, .int .i64 3, .int .i64 4], .int .i64 1, .int .i64 4] w fun e w' => ∃ g c, e = .returned (.slice (some ⟨g, 0, none⟩) 3 c) ∧
    w'.cell? ⟨g, 4, none⟩ = some (.int .i64 1) ∧ w'.cell? ⟨g, 5, none⟩ = some (.int .i64 0) ∧ w'.cell? ⟨g, 6, none⟩ = some (.int .i64 2) ∧ w'.cell? ⟨g, 7, none⟩ = some (.int .i64 1) ∧ Below w.heap.size w w' :=
  (Pieces_ok 2 3 2 1 4 w ln232 (by decide) (by decide)).mono fun e w' h => by
    obtain ⟨v, h1, h2, h3⟩ := h
    obtain ⟨A, c, rfl, _, _, _⟩ := own_form h2
    have hr := RdP.own h2 rfl
    obtain ⟨g, rfl, hc⟩ := hr.2 (by decide)
    obtain ⟨q0, q1, q2, q3⟩ := hc 1 (by decide)
    exact ⟨g, c, h1, q0, q1, q2, q3, h3⟩

set_option maxHeartbeats 1000000 in
theorem awake_any (w : World) : Calls Try.prog 9 #[] w fun e w' => e = .returned (.bool true) ∧ Below w.heap.size w w' := by
  go_enter Try.func9, Try.ntmps9
  go_wp2_with fail
  have HL := LayAt.box w 2 3 4 23
  have Hb0 := Lib.hid ((Below.refl w.heap.size w).alloc (Nat.le_refl _) (.cells #[.int .i64 2, .int .i64 3, .int .i64 4] 23))
  refine (aw_place _).mono ?_
  rintro e w1 ⟨rfl, hb1⟩
  have c0 := cellK HL.c0 hb1
  have c1 := cellK HL.c1 hb1
  have c2 := cellK HL.c2 hb1
  have Hb1 := Lib.hid (Hb0.out.trans (hb1.mono Hb0.out.size))
  clear HL hb1 Hb0
  go_wp2_with fail
  refine (aw_pieces _).mono ?_
  rintro e w2 ⟨g, c, rfl, q0, q1, q2, q3, hb2⟩
  have c0 := cellK c0 hb2
  have c1 := cellK c1 hb2
  have c2 := cellK c2 hb2
  have Hb2 := Lib.hid (Hb1.out.trans (hb2.mono Hb1.out.size))
  clear hb2 Hb1
  go_wp2_with fail
  refine (aw_check _).mono ?_
  rintro e w3 ⟨rfl, hb3⟩
  have c0 := cellK c0 hb3
  have c1 := cellK c1 hb3
  have c2 := cellK c2 hb3
  have q0 := cellK q0 hb3
  have q1 := cellK q1 hb3
  have q2 := cellK q2 hb3
  have q3 := cellK q3 hb3
  have Hb3 := Lib.hid (Hb2.out.trans (hb3.mono Hb2.out.size))
  clear hb3 Hb2
  go_wp2_with fail
  refine (aw_back _).mono ?_
  rintro e w4 ⟨rfl, hb4⟩
  have c0 := cellK c0 hb4
  have c1 := cellK c1 hb4
  have c2 := cellK c2 hb4
  have q0 := cellK q0 hb4
  have q1 := cellK q1 hb4
  have q2 := cellK q2 hb4
  have q3 := cellK q3 hb4
  have Hb4 := Lib.hid (Hb3.out.trans (hb4.mono Hb3.out.size))
  clear hb4 Hb3
  go_wp2_with fail
  refine (aw_objects _).mono ?_
  rintro e w5 ⟨rfl, hb5⟩
  have c0 := cellK c0 hb5
  have c1 := cellK c1 hb5
  have c2 := cellK c2 hb5
  have Hb5 := Lib.hid (Hb4.out.trans (hb5.mono Hb4.out.size))
  clear hb5 Hb4
  go_wp2_with fail
  refine (aw_room _).mono ?_
  rintro e w6 ⟨rfl, hb6⟩
  have Hb6 := Lib.hid (Hb5.out.trans (hb6.mono Hb5.out.size))
  clear hb6 Hb5
  go_wp2_with fail
  go_ret
  exact ⟨rfl, Hb6.out⟩
end Go.Proofs.Ytbkdlpmaikilnaa
