/- The statements about layer 4: the examples of the chapter hold. -/
import Derived.Test.YtdhckbjebccdbabDoorParse
namespace Go.Proofs.YtdhckbjebccdbabDoor
open Go.RowKit

theorem dt_at (n y m d : Int) (h : okD y m d = true) (e : num y m d = n) : dayB n = true ∧ yr n = y ∧ mo n = m ∧ da n = d := by
  obtain ⟨hv, h0, h1⟩ := (okD_iff y m d).1 h
  subst e
  exact ⟨(dayB_iff _).2 ⟨h0, h1⟩, dt_of y m d hv h0⟩
theorem da_59 : dY 59 = 1900 ∧ dM 59 = 3 ∧ dD 59 = 1 ∧ dE 59 = 0 := by
  obtain ⟨a, b, c, d⟩ := dt_at 59 1900 3 1 (by decide) (by decide)
  simp [dY, dM, dD, dE, a, b, c, d]
theorem la_ex : laN 36554 1 = 36583 ∧ laE 36554 1 = 0 := by
  obtain ⟨a, b, c, d⟩ := dt_at 36554 2000 1 31 (by decide) (by decide)
  have e : lat 36554 1 = 36583 := by
    unfold lat mcount
    rw [b, c, d]; decide
  unfold laN laE
  rw [a, e]
  decide
theorem ye_ex : yeN 36583 36948 = 1 ∧ yeE 36583 36948 = 0 := by
  obtain ⟨a, b, c, d⟩ := dt_at 36583 2000 2 29 (by decide) (by decide)
  obtain ⟨a2, b2, c2, d2⟩ := dt_at 36948 2001 2 28 (by decide) (by decide)
  have e : lat 36583 12 = 36948 := by
    unfold lat mcount
    rw [b, c, d]; decide
  unfold yeN yeE yrs
  rw [a, a2, b, b2]
  simp [e]
theorem se_ex : seN 36584 = 2 ∧ prV 36584 = [50, 48, 48, 48, 45, 48, 51, 45, 48, 49] ∧ dE 36584 = 0 := by
  obtain ⟨a, b, c, d⟩ := dt_at 36584 2000 3 1 (by decide) (by decide)
  unfold seN prV dE txt
  rw [a, b, c, d]
  decide
theorem pa_ex : paN [50, 48, 48, 48, 45, 48, 50, 45, 50, 57] = 36583 ∧ paE [50, 48, 48, 48, 45, 48, 50, 45, 50, 57] = 0 := by decide

set_option maxRecDepth 100000 in
set_option maxHeartbeats 2000000 in
theorem awake_any (w : World) (hw : LaidC w) : Calls Tryd.prog 10 #[] w fun e w' => e = .returned (.bool true) ∧ Below w.heap.size w w' := by
  have HW := Lib.hid hw; clear hw
  have HQ := fun W => run_eql_date 1900 3 1 1900 3 1 W
  rw [show sameB 1900 3 1 1900 3 1 = true by decide] at HQ
  go_enter Tryd.func10, Tryd.ntmps10
  go_wp2_with fail
  refine (date_any 59 _ HW.out).mono ?_
  rw [da_59.1, da_59.2.1, da_59.2.2.1, da_59.2.2.2]
  rintro e w1 ⟨rfl, h1⟩
  have HB : Hid (BoxAt w w1.heap.size (w1.alloc (.cells #[.int .i64 1900, .int .i64 3, .int .i64 1] 23)) 1900 3 1) := ⟨by simp [go_sem], by simp [go_sem], by simp [go_sem], bel_trans h1 (bel_alloc (Below.refl _ _))⟩
  clear h1
  go_wp2_with fail
  refine (weekday_any 36584 _).mono ?_
  rw [show wdN 36584 = 3 by decide, show dE 36584 = 0 by decide]
  rintro e w2 ⟨rfl, h1⟩
  replace HB := Lib.hid (HB.out.below h1); clear h1
  go_wp2_with fail
  refine (later_any 36554 1 _ (HW.out.below HB.out.2.2.2)).mono ?_
  rw [la_ex.1, la_ex.2]
  rintro e w3 ⟨rfl, h1⟩
  replace HB := Lib.hid (HB.out.below h1); clear h1
  go_wp2_with fail
  refine (years_any 36583 36948 _ (HW.out.below HB.out.2.2.2) (by omega) (by omega)).mono ?_
  rw [ye_ex.1, ye_ex.2]
  rintro e w4 ⟨rfl, h1⟩
  replace HB := Lib.hid (HB.out.below h1); clear h1
  go_wp2_with fail
  refine (season_any 36584 _ (HW.out.below HB.out.2.2.2)).mono ?_
  rw [se_ex.1, se_ex.2.2]
  rintro e w5 ⟨rfl, h1⟩
  replace HB := Lib.hid (HB.out.below h1); clear h1
  go_wp2_with fail
  refine (print_any 36584 _ (HW.out.below HB.out.2.2.2)).mono ?_
  rw [se_ex.2.1, se_ex.2.2]
  rintro e w6 ⟨rfl, h1⟩
  replace HB := Lib.hid (HB.out.below h1); clear h1
  go_wp2_with fail
  refine (parse_any _ _ (HW.out.below HB.out.2.2.2) (by decide)).mono ?_
  rw [show paN (⟨#[50, 48, 48, 48, 45, 48, 50, 45, 50, 57]⟩ : ByteArray).data.toList = 36583 from pa_ex.1, show paE (⟨#[50, 48, 48, 48, 45, 48, 50, 45, 50, 57]⟩ : ByteArray).data.toList = 0 from pa_ex.2]
  rintro e w7 ⟨rfl, h1⟩
  replace HB := Lib.hid (HB.out.below h1); clear h1
  go_wp2_with fail
  refine (day_any 1900 3 1 _ (HW.out.below HB.out.2.2.2) (by omega) (by omega)).mono ?_
  rw [show dayN 1900 3 1 = 59 by decide, show dayEr 1900 3 1 = 0 by decide]
  rintro e w8 ⟨rfl, h1⟩
  replace HB := Lib.hid (HB.out.below h1); clear h1
  have c0 := HB.out.1
  have c1 := HB.out.2.1
  have c2 := HB.out.2.2.1
  have hs : (⟨[50, 48, 48, 48, 45, 48, 51, 45, 48, 49].toArray⟩ : ByteArray).toList = [50, 48, 48, 48, 45, 48, 51, 45, 48, 49] := by kernel_rfl
  unfold str
  go_wp2
  go_ret
  exact ⟨rfl, HB.out.2.2.2⟩
end Go.Proofs.YtdhckbjebccdbabDoor
