/- Package calendar: Date, Day. -/
import Derived.Test.YtdhckbjebccdbabDoorYear
namespace Go.Proofs.YtdhckbjebccdbabDoor
open Go.RowKit

/-- a date as a value -/
def dateV (y m d : Int) : Value := .agg #[.int .i64 y, .int .i64 m, .int .i64 d]

theorem date_no (n : Int) (w : World) (h : Hid (dayB n = false)) :
    Calls Tryd.prog 11 #[.int .i64 n] w fun e w' => e = .returned (.tuple #[.agg #[.int .i64 0, .int .i64 0, .int .i64 0], .int .i64 2]) ∧ Below w.heap.size w w' := by
  go_enter Tryd.func11, Tryd.ntmps11
  go_wp2_with (go_at_call 27; refine (isDay_any _ _).mono ?_; rw [h.out]; rintro e w' ⟨rfl, rfl⟩)
  go_returns
  exact ⟨rfl, bel_alloc (Below.refl _ _)⟩

set_option maxHeartbeats 1000000 in
theorem date_yes (n y m d : Int) (w : World) (hw : LaidC w) (h0 : 0 ≤ n) (h1 : n ≤ 100000) (hv : VD y m d) (hn : num y m d = n) :
    Calls Tryd.prog 11 #[.int .i64 n] w fun e w' => e = .returned (.tuple #[.agg #[.int .i64 y, .int .i64 m, .int .i64 d], .int .i64 0]) ∧ Below w.heap.size w w' := by
  have hd : Hid (dayB n = true) := (dayB_iff n).2 ⟨h0, h1⟩
  have hy := num_year y m d hv
  rw [hn] at hy
  obtain ⟨hy1, hy2⟩ := hy
  have hy0 : 1900 ≤ y := by
    apply Int.not_lt.1; intro hlt
    have := st_mono (y + 1) 1900 (by omega)
    rw [st_1900] at this; omega
  have hy9 : y ≤ 2173 := by
    apply Int.not_lt.1; intro hlt
    have := st_mono 2174 y (by omega)
    rw [st_2174] at this; omega
  have hg : 1900 + n / 366 ≤ y := by
    have g := st_guess n h0 h1
    apply Int.not_lt.1; intro hlt
    have := st_mono (y + 1) (1900 + n / 366) (by omega)
    omega
  have HY : Hid (∀ Y : Int, Y < y → st (Y + 1) ≤ n) := fun Y hY => by
    have := st_mono (Y + 1) y (by omega)
    omega
  have HC : Hid (∀ M : Int, 1 ≤ M → M < m → ml y M ≤ n - st y - cum y M) := fun M a b => by
    obtain ⟨_, _, _, _⟩ := hv
    have e := cum_succ y M a (by omega)
    have f := cum_mono y (M + 1) m (by omega) (by omega) (by omega)
    unfold num at hn
    omega
  have HS : Hid (∀ M : Int, 1 ≤ M → M < m → n - st y - cum y (M + 1) = n - st y - cum y M - ml y M) := fun M a b => by
    obtain ⟨_, _, _, _⟩ := hv
    have e := cum_succ y M a (by omega)
    omega
  have hd1 : n - st y - cum y m = d - 1 := by unfold num at hn; omega
  have HD := Lib.hid hd1
  have h1c := Lib.hid (cum_one y)
  obtain ⟨m1, m2, d1, d2⟩ := hv
  have HW := Lib.hid (hw.below (bel_alloc (o := .cells #[.int .i64 0, .int .i64 0, .int .i64 0] 23) (Below.refl _ _)))
  have HN := Lib.hid hn
  have HY1 := Lib.hid hy1
  have HB := st_bd y (by omega) (by omega)
  obtain ⟨sb0, sb1⟩ := HB
  clear hn hw hd1 hy1
  go_enter Tryd.func11, Tryd.ntmps11
  go_wp2_with (go_at_call 27; refine (isDay_any _ _).mono ?_; rw [hd.out]; rintro e w' ⟨rfl, hw⟩; subst hw)
  go_loop [4] (fun t => ∃ Y : Int, 1900 ≤ Y ∧ Y ≤ y ∧ t = .int .i64 Y) (fun t => (y - intOf t).toNat)
  case atStart => exact ⟨_, by omega, by omega, rfl⟩
  case round =>
    obtain ⟨Y, y1, y2, rfl⟩ := hrel
    by_cases hlt : Y < y
    · have hs := HY.out Y hlt
      clear hy2
      go_wp2_with (go_at_call 28; refine (start_any _ _ (by omega) (by omega)).mono ?_; rintro e w' ⟨rfl, hw⟩; subst hw)
      go_round
      case rel => exact ⟨Y + 1, by omega, by omega, rfl⟩
      case measure => simp [intOf]; omega
    · obtain rfl : Y = y := by omega
      clear hlt y1 y2
      go_wp2_with (go_at_call 28; refine (start_any _ _ (by omega) (by omega)).mono ?_; rintro e w' ⟨rfl, hw⟩; subst hw)
      go_loop [5, 6] (fun t r => ∃ M : Int, 1 ≤ M ∧ M ≤ m ∧ t = .int .i64 M ∧ 0 ≤ n - st Y - cum Y M ∧ n - st Y - cum Y M ≤ 366 ∧ r = .int .i64 (n - st Y - cum Y M)) (fun t _ => (m - intOf t).toNat)
      case atStart => exact ⟨1, by omega, by omega, rfl, by rw [h1c.out]; have := HY1.out; omega, by rw [h1c.out]; have := st_succ Y; have := lp_01 Y; omega, by rw [h1c.out]; go_num⟩
      case round =>
        obtain ⟨M, a1, a2, rfl, r0, r1, rfl⟩ := hrel
        have hml := ml_bd Y M
        obtain ⟨l0, l1⟩ := hml
        by_cases hlt : M < m
        · have hc := HC.out M a1 hlt
          have hs := Lib.hid (HS.out M a1 hlt)
          have HL := Lib.hid (fun W (h : LaidC W) => length_any Y M W (by omega) (by omega) a1 (by omega) h)
          generalize n - st Y - cum Y M = r at *
          generalize ml Y M = l at *
          go_wp2_with (go_at_call 29; refine (HL.out _ HW.out).mono ?_; rintro e w' ⟨rfl, hw⟩; subst hw)
          go_round
          case rel => exact ⟨M + 1, by omega, by omega, rfl, by rw [hs.out]; omega, by rw [hs.out]; omega, by rw [hs.out]⟩
          case measure => simp [intOf]; omega
        · obtain rfl : M = m := by omega
          have HL := Lib.hid (fun W (h : LaidC W) => length_any Y M W (by omega) (by omega) a1 (by omega) h)
          have hd := HD.out
          generalize n - st Y - cum Y M = r at *
          obtain rfl : r = d - 1 := hd
          clear hd hlt
          generalize ml Y M = l at *
          go_wp2_with (go_at_call 29; refine (HL.out _ HW.out).mono ?_; rintro e w' ⟨rfl, hw⟩; subst hw)
          go_returns
          exact ⟨by simp, bel_alloc (Below.refl _ _)⟩

/-- what Date returns -/
noncomputable def dY (n : Int) : Int := if dayB n = true then yr n else 0
noncomputable def dM (n : Int) : Int := if dayB n = true then mo n else 0
noncomputable def dD (n : Int) : Int := if dayB n = true then da n else 0
def dE (n : Int) : Int := if dayB n = true then 0 else 2

theorem date_any (n : Int) (w : World) (hw : LaidC w) :
    Calls Tryd.prog 11 #[.int .i64 n] w fun e w' => e = .returned (.tuple #[.agg #[.int .i64 (dY n), .int .i64 (dM n), .int .i64 (dD n)], .int .i64 (dE n)]) ∧ Below w.heap.size w w' := by
  cases h : dayB n with
  | false =>
    simp only [dY, dM, dD, dE, h, Bool.false_eq_true, if_false]
    exact date_no n w h
  | true =>
    simp only [dY, dM, dD, dE, h, if_true]
    obtain ⟨h0, h1⟩ := (dayB_iff n).1 h
    obtain ⟨a, b⟩ := dt_spec n h0
    exact date_yes n _ _ _ w hw h0 h1 a b
end Go.Proofs.YtdhckbjebccdbabDoor
