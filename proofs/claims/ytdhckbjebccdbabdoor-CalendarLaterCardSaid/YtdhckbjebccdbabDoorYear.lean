/- Package calendar: isDay, isLeap, elapsed, start, length. -/
import Derived.Test.YtdhckbjebccdbabDoorKit
import Derived.Test.YtdhckbjebccdbabDoorCal
namespace Go.Proofs.YtdhckbjebccdbabDoor
open Go.RowKit

def dayB (n : Int) : Bool := decide (0 ≤ n) && decide (n ≤ 100000)
theorem dayB_iff (n : Int) : dayB n = true ↔ 0 ≤ n ∧ n ≤ 100000 := by simp [dayB]
theorem dayB_not (n : Int) : dayB n = false ↔ n < 0 ∨ 100000 < n := by
  rw [Bool.eq_false_iff, ne_eq, dayB_iff]; omega

theorem isDay_any (n : Int) (w : World) : Calls Tryd.prog 27 #[.int .i64 n] w fun e w' => e = .returned (.bool (dayB n)) ∧ w = w' := by
  go_enter Tryd.func27, Tryd.ntmps27
  go_wp2
  all_goals
    go_ret
    refine ⟨ret_bool ?_, rfl⟩
    first | (simp [dayB, *]; done) | (simp [dayB, *]; omega)

/-- a leap year, as a test -/
def leapB (y : Int) : Bool := decide (lp y = 1)
theorem tmod_zero (y k : Int) : y.tmod k = 0 ↔ y % k = 0 := by
  rw [← Int.dvd_iff_tmod_eq_zero, ← Int.dvd_iff_emod_eq_zero]
theorem leapB_of (y : Int) (b : Bool) (h : b = true ↔ ((y % 4 = 0 ∧ ¬ y % 100 = 0) ∨ y % 400 = 0)) : b = leapB y := by
  rw [Bool.eq_iff_iff, h]
  unfold leapB lp
  split <;> simp_all

set_option maxHeartbeats 400000 in
theorem isLeap_any (y : Int) (w : World) (h0 : -9223372036854775808 ≤ y) (h1 : y ≤ 9223372036854775807) : Calls Tryd.prog 40 #[.int .i64 y] w fun e w' => e = .returned (.bool (leapB y)) ∧ w = w' := by
  have t4 := Lib.hid (tmod_zero y 4)
  have t1 := Lib.hid (tmod_zero y 100)
  have t0 := Lib.hid (tmod_zero y 400)
  have L := Lib.hid (leapB_of y)
  go_enter Tryd.func40, Tryd.ntmps40
  go_wp2
  all_goals
    go_ret
    refine ⟨ret_bool (L.out _ ?_), rfl⟩
    have a := t4.out
    have b := t1.out
    have c := t0.out
    simp_all

/-- what elapsed returns, for any year -/
def elW (y : Int) : Int := wrap64 (365 * wrap64 (y - 1) + (wrap64 (y - 1)).tdiv 4 - (wrap64 (y - 1)).tdiv 100 + (wrap64 (y - 1)).tdiv 400)
theorem elW_in (y : Int) (h0 : 1 ≤ y) (h1 : y ≤ 10000) : elW y = st y + 693595 := by
  unfold elW st
  rw [IntWalk.wrap64_in (y - 1) (by omega)]
  rw [Int.tdiv_eq_ediv_of_nonneg (by omega), Int.tdiv_eq_ediv_of_nonneg (by omega), Int.tdiv_eq_ediv_of_nonneg (by omega)]
  rw [IntWalk.wrap64_in _ (by omega)]
  omega
theorem elW_bd (y : Int) : -9223372036854775808 ≤ elW y ∧ elW y ≤ 9223372036854775807 := by unfold elW wrap64; omega
theorem elW_1900 : elW 1900 = 693595 := by rw [elW_in 1900 (by omega) (by omega), st_1900]; rfl
theorem w64_wrap (a : Int) : wrap64 (wrap64 a) = wrap64 a := by unfold wrap64; omega
theorem elW_of (z : Int) : wrap64 (wrap64 (wrap64 (wrap64 (365 * z) + wrap64 (z.tdiv 4)) - wrap64 (z.tdiv 100)) + wrap64 (z.tdiv 400)) = wrap64 (365 * z + z.tdiv 4 - z.tdiv 100 + z.tdiv 400) := by
  unfold wrap64; omega

theorem elapsed_any (y : Int) (w : World) (h0 : -9223372036854775808 ≤ y) (h1 : y ≤ 9223372036854775807) : Calls Tryd.prog 39 #[.int .i64 y] w fun e w' => e = .returned (.int .i64 (elW y)) ∧ w = w' := by
  go_enter Tryd.func39, Tryd.ntmps39
  go_wp2
  go_ret
  exact ⟨ret_int (elW_of _), rfl⟩

/-- what start returns, for any year -/
def stW (y : Int) : Int := wrap64 (elW y - 693595)
theorem stW_in (y : Int) (h0 : 1 ≤ y) (h1 : y ≤ 10000) : stW y = st y := by
  have := st_bd y h0 h1
  unfold stW
  rw [elW_in y h0 h1, IntWalk.wrap64_in _ (by omega)]; omega
theorem stW_bd (y : Int) : -9223372036854775808 ≤ stW y ∧ stW y ≤ 9223372036854775807 := by unfold stW wrap64; omega

theorem start_all (y : Int) (w : World) (h0 : -9223372036854775808 ≤ y) (h1 : y ≤ 9223372036854775807) : Calls Tryd.prog 28 #[.int .i64 y] w fun e w' => e = .returned (.int .i64 (stW y)) ∧ w = w' := by
  obtain ⟨b0, b1⟩ := elW_bd y
  have H := Lib.hid elW_1900
  have E := Lib.hid (elapsed_any y w h0 h1)
  have S : Hid (wrap64 (elW y - 693595) = stW y) := rfl
  generalize stW y = s at *
  generalize elW y = e at *
  go_enter Tryd.func28, Tryd.ntmps28
  go_wp2_with fail
  refine (E.out).mono ?_
  rintro e w' ⟨rfl, rfl⟩
  go_wp2_with fail
  refine (elapsed_any 1900 _ (by omega) (by omega)).mono ?_
  rw [H.out]
  rintro e w' ⟨rfl, rfl⟩
  go_wp2
  go_ret
  exact ⟨ret_int S.out, rfl⟩
theorem start_any (y : Int) (w : World) (h0 : 1 ≤ y) (h1 : y ≤ 10000) : Calls Tryd.prog 28 #[.int .i64 y] w fun e w' => e = .returned (.int .i64 (st y)) ∧ w = w' := by
  rw [← stW_in y h0 h1]; exact start_all y w (by omega) (by omega)

/-! the lengths of the months -/
def lensL : List Int := [31, 28, 31, 30, 31, 30, 31, 31, 30, 31, 30, 31]
def LaidC (w : World) : Prop := Lib.TabIs Tryd.prog w "internal/strconv.uint64pow10" .u64 Lib.pow10Tab ∧ Lib.TabIs Tryd.prog w "spile/calendar.lengths" .i64 lensL
theorem gPow : Tryd.prog.globalNamed "internal/strconv.uint64pow10" = some 1 := by kernel_rfl
theorem gLens : Tryd.prog.globalNamed "spile/calendar.lengths" = some 0 := by kernel_rfl
theorem LaidC.below {w w' : World} (h : LaidC w) (hb : Below w.heap.size w w') : LaidC w' :=
  ⟨tab_keep _ gPow (by rw [Lib.pow10Tab_length]; omega) h.1 hb, tab_keep _ gLens (by decide) h.2 hb⟩
theorem lens_at (y m : Int) (h1 : 1 ≤ m) (h2 : m ≤ 12) (h : m = 2 → lp y = 0) : lensL.getD (m - 1).toNat 0 = ml y m := by
  have hl := lp_01 y
  revert h
  apply cases12 (P := fun m => (m = 2 → lp y = 0) → lensL.getD (m - 1).toNat 0 = ml y m) h1 h2 <;> simp [lensL, ml]
  intro h; rw [h]; rfl

theorem length_leap (y : Int) (w : World) (h0 : -9223372036854775808 ≤ y) (h1 : y ≤ 9223372036854775807) (hl : Hid (leapB y = true)) :
    Calls Tryd.prog 29 #[.int .i64 y, .int .i64 2] w fun e w' => e = .returned (.int .i64 29) ∧ w = w' := by
  go_enter Tryd.func29, Tryd.ntmps29
  go_wp2_with (go_at_call 40; refine (isLeap_any _ _ h0 h1).mono ?_; rw [hl.out]; rintro e w' ⟨rfl, rfl⟩)
  go_ret
  exact ⟨rfl, rfl⟩
theorem length_feb (y : Int) (w : World) (h0 : -9223372036854775808 ≤ y) (h1 : y ≤ 9223372036854775807) (hl : Hid (leapB y = false)) (hc : w.cell? ⟨0, 1, none⟩ = some (.int .i64 28)) :
    Calls Tryd.prog 29 #[.int .i64 y, .int .i64 2] w fun e w' => e = .returned (.int .i64 28) ∧ w = w' := by
  go_enter Tryd.func29, Tryd.ntmps29
  go_wp2_with (go_at_call 40; refine (isLeap_any _ _ h0 h1).mono ?_; rw [hl.out]; rintro e w' ⟨rfl, rfl⟩)
  go_ret
  exact ⟨rfl, rfl⟩
theorem length_other (y m L : Int) (k : Nat) (w : World) (hm : Hid (m - 1 = k)) (hk : k < 12) (m1 : 1 ≤ m) (m2 : m ≤ 12) (h2 : (m == 2) = false) (hc : w.cell? ⟨0, m.toNat - 1, none⟩ = some (.int .i64 L)) :
    Calls Tryd.prog 29 #[.int .i64 y, .int .i64 m] w fun e w' => e = .returned (.int .i64 L) ∧ w = w' := by
  go_enter Tryd.func29, Tryd.ntmps29
  go_wp2
  go_ret
  exact ⟨rfl, rfl⟩
theorem length_any (y m : Int) (w : World) (h0 : -9223372036854775808 ≤ y) (h1 : y ≤ 9223372036854775807) (m1 : 1 ≤ m) (m2 : m ≤ 12) (hw : LaidC w) :
    Calls Tryd.prog 29 #[.int .i64 y, .int .i64 m] w fun e w' => e = .returned (.int .i64 (ml y m)) ∧ w = w' := by
  have hc := Lib.TabIs.cell hw.2 gLens (m - 1).toNat (by show _ < 12; omega)
  have hl := lp_01 y
  by_cases hm : m = 2
  · subst hm
    cases hb : leapB y with
    | true =>
      have : lp y = 1 := by simpa [leapB] using hb
      rw [show ml y 2 = 29 by unfold ml; rw [if_pos rfl]; omega]
      exact length_leap y w h0 h1 hb
    | false =>
      have : ¬ lp y = 1 := by simpa [leapB] using hb
      rw [lens_at y 2 m1 m2 (fun _ => by omega)] at hc
      rw [show ml y 2 = 28 by unfold ml; rw [if_pos rfl]; omega] at hc ⊢
      exact length_feb y w h0 h1 hb hc
  · rw [lens_at y m m1 m2 (fun h => absurd h hm), show (m - 1).toNat = m.toNat - 1 by omega] at hc
    exact length_other y m _ (m - 1).toNat w (by show _ = _; omega) (by omega) m1 m2 (by simpa using hm) hc
end Go.Proofs.YtdhckbjebccdbabDoor
