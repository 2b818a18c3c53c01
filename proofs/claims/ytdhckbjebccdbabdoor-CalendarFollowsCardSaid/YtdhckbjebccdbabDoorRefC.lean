/- The reference of layer 4: IsDay, leap, length, first, Of, Date, number, Weekday, Season. -/
import Derived.Test.YtdhckbjebccdbabDoorYears
import Derived.Deep.RegionHeld3
import Derived.Deep.DrawnRows
namespace Go.Proofs.YtdhckbjebccdbabDoor
open Go.RowKit

theorem refIsDay_any (n : Int) (w : World) : Calls Tryd.prog 30 #[.int .i64 n] w fun e w' => e = .returned (.bool (dayB n)) ∧ w = w' := by
  go_enter Tryd.func30, Tryd.ntmps30
  go_wp2
  all_goals
    go_ret
    refine ⟨ret_bool ?_, rfl⟩
    first | (simp [dayB, *]; done) | (simp [dayB, *]; omega)

theorem refLeap_any (y : Int) (w : World) (h0 : 0 ≤ y) (h1 : y ≤ 10000) : Calls Tryd.prog 42 #[.int .i64 y] w fun e w' => e = .returned (.bool (leapB y)) ∧ w = w' := by
  have L := Lib.hid (leapB_of y)
  go_enter Tryd.func42, Tryd.ntmps42
  go_wp2
  all_goals
    go_ret
    refine ⟨ret_bool (L.out _ ?_), rfl⟩
    simp_all

theorem refLength_leap (y : Int) (w : World) (h0 : 0 ≤ y) (h1 : y ≤ 10000) (hl : Hid (leapB y = true)) :
    Calls Tryd.prog 32 #[.int .i64 y, .int .i64 2] w fun e w' => e = .returned (.int .i64 29) ∧ Below w.heap.size w w' := by
  go_enter Tryd.func32, Tryd.ntmps32
  go_wp2_with (go_at_call 42; refine (refLeap_any _ _ h0 h1).mono ?_; rw [hl.out]; rintro e w' ⟨rfl, rfl⟩)
  go_ret
  exact ⟨rfl, Below.refl _ _⟩
theorem refLength_feb (y : Int) (w : World) (h0 : 0 ≤ y) (h1 : y ≤ 10000) (hl : Hid (leapB y = false)) :
    Calls Tryd.prog 32 #[.int .i64 y, .int .i64 2] w fun e w' => e = .returned (.int .i64 28) ∧ Below w.heap.size w w' := by
  go_enter Tryd.func32, Tryd.ntmps32
  go_wp2_with (go_at_call 42; refine (refLeap_any _ _ h0 h1).mono ?_; rw [hl.out]; rintro e w' ⟨rfl, rfl⟩)
  go_ret
  exact ⟨rfl, bel_alloc (Below.refl _ _)⟩
theorem refLength_other (y m : Int) (L : Int) (w : World) (m1 : 1 ≤ m) (m2 : m ≤ 12) (h2 : (m == 2) = false)
    (hc : ∀ W : World, (W.alloc (.cells #[.int .i64 31, .int .i64 28, .int .i64 31, .int .i64 30, .int .i64 31, .int .i64 30, .int .i64 31, .int .i64 31, .int .i64 30, .int .i64 31, .int .i64 30, .int .i64 31] 3)).cell? ⟨W.heap.size, m.toNat - 1, none⟩ = some (.int .i64 L)) :
    Calls Tryd.prog 32 #[.int .i64 y, .int .i64 m] w fun e w' => e = .returned (.int .i64 L) ∧ Below w.heap.size w w' := by
  go_enter Tryd.func32, Tryd.ntmps32
  go_wp2
  go_ret
  exact ⟨rfl, bel_alloc (Below.refl _ _)⟩
theorem refLength_any (y m : Int) (w : World) (h0 : 0 ≤ y) (h1 : y ≤ 10000) (m1 : 1 ≤ m) (m2 : m ≤ 12) :
    Calls Tryd.prog 32 #[.int .i64 y, .int .i64 m] w fun e w' => e = .returned (.int .i64 (ml y m)) ∧ Below w.heap.size w w' := by
  have hl := lp_01 y
  by_cases hm : m = 2
  · subst hm
    cases hb : leapB y with
    | true =>
      have : lp y = 1 := by simpa [leapB] using hb
      rw [show ml y 2 = 29 by unfold ml; rw [if_pos rfl]; omega]
      exact refLength_leap y w h0 h1 hb
    | false =>
      have : ¬ lp y = 1 := by simpa [leapB] using hb
      rw [show ml y 2 = 28 by unfold ml; rw [if_pos rfl]; omega]
      exact refLength_feb y w h0 h1 hb
  · refine refLength_other y m _ w m1 m2 (by simpa using hm) fun W => ?_
    rw [World.cell?_alloc_new, ← lens_at y m m1 m2 (fun h => absurd h hm)]
    apply cases12 (P := fun m => (#[.int .i64 31, .int .i64 28, .int .i64 31, .int .i64 30, .int .i64 31, .int .i64 30, .int .i64 31, .int .i64 31, .int .i64 30, .int .i64 31, .int .i64 30, .int .i64 31] : Array Value)[m.toNat - 1]? = some (.int .i64 (lensL.getD (m - 1).toNat 0))) m1 m2 <;> rfl

theorem refFirst_any (y : Int) (w : World) (h0 : 1 ≤ y) (h1 : y ≤ 10000) : Calls Tryd.prog 41 #[.int .i64 y] w fun e w' => e = .returned (.int .i64 (st y)) ∧ w = w' := by
  go_enter Tryd.func41, Tryd.ntmps41
  go_wp2
  go_ret
  exact ⟨ret_int (by unfold st; omega), rfl⟩

theorem three_read (w : World) (b : Nat) (u v x : Value) {a c d : Value} (h0 : w.cell? ⟨b, 0, none⟩ = some a) (h1 : w.cell? ⟨b, 1, none⟩ = some c) (h2 : w.cell? ⟨b, 2, none⟩ = some d) :
    (((w.setCell ⟨b, 0, none⟩ u).setCell ⟨b, 1, none⟩ v).setCell ⟨b, 2, none⟩ x).cell? ⟨b, 0, none⟩ = some u ∧
    (((w.setCell ⟨b, 0, none⟩ u).setCell ⟨b, 1, none⟩ v).setCell ⟨b, 2, none⟩ x).cell? ⟨b, 1, none⟩ = some v ∧
    (((w.setCell ⟨b, 0, none⟩ u).setCell ⟨b, 1, none⟩ v).setCell ⟨b, 2, none⟩ x).cell? ⟨b, 2, none⟩ = some x := by
  refine ⟨?_, ?_, ?_⟩
  · rw [World.cell?_setCell_other _ _ _ _ (by simp), World.cell?_setCell_other _ _ _ _ (by simp), World.cell?_setCell_same _ _ _ h0]
  · rw [World.cell?_setCell_other _ _ _ _ (by simp), World.cell?_setCell_same (u := c)]
    rw [World.cell?_setCell_other _ _ _ _ (by simp), h1]
  · rw [World.cell?_setCell_same (u := d)]
    rw [World.cell?_setCell_other _ _ _ _ (by simp), World.cell?_setCell_other _ _ _ _ (by simp), h2]

set_option maxHeartbeats 1000000 in
theorem refOf_yes (n y m d : Int) (w : World) (h0 : 0 ≤ n) (h1 : n ≤ 100000) (hv : VD y m d) (hn : num y m d = n) :
    Calls Tryd.prog 31 #[.int .i64 n] w fun e w' => e = .returned (.agg #[.int .i64 y, .int .i64 m, .int .i64 d]) ∧ Below w.heap.size w w' := by
  have hy := num_year y m d hv
  rw [hn] at hy
  obtain ⟨hy1, hy2⟩ := hy
  have hy0 : 1900 ≤ y := by
    apply Int.not_lt.1; intro hlt
    have := st_mono (y + 1) 1900 (by omega)
    rw [st_1900] at this; omega
  have hy9 : y ≤ 2173 := by
    apply Int.not_lt.1; intro hlt
    have := st_mono 2174 y (by omega)
    rw [st_2174] at this; omega
  have HY : Hid (∀ Y : Int, Y < y → st (Y + 1) ≤ n) := fun Y hY => by
    have := st_mono (Y + 1) y (by omega)
    omega
  have HC : Hid (∀ M : Int, 1 ≤ M → M < m → ml y M ≤ n - st y - cum y M) := fun M a b => by
    obtain ⟨_, _, _, _⟩ := hv
    have e := cum_succ y M a (by omega)
    have f := cum_mono y (M + 1) m (by omega) (by omega) (by omega)
    unfold num at hn
    omega
  have HS : Hid (∀ M : Int, 1 ≤ M → M < m → n - st y - cum y (M + 1) = n - st y - cum y M - ml y M) := fun M a b => by
    obtain ⟨_, _, _, _⟩ := hv
    have e := cum_succ y M a (by omega)
    omega
  have hd1 : n - st y - cum y m = d - 1 := by unfold num at hn; omega
  have HD := Lib.hid hd1
  have h1c := Lib.hid (cum_one y)
  obtain ⟨m1, m2, d1, d2⟩ := hv
  have HN := Lib.hid hn
  have HY1 := Lib.hid hy1
  have HB := st_bd y (by omega) (by omega)
  obtain ⟨sb0, sb1⟩ := HB
  clear hn hd1 hy1
  go_enter Tryd.func31, Tryd.ntmps31
  go_wp2
  go_loop [3] (fun t => ∃ Y : Int, 1900 ≤ Y ∧ Y ≤ y ∧ t = .int .i64 Y) (fun t => (y - intOf t).toNat)
  case atStart => exact ⟨_, by omega, by omega, rfl⟩
  case round =>
    obtain ⟨Y, y1, y2, rfl⟩ := hrel
    by_cases hlt : Y < y
    · have hs := HY.out Y hlt
      clear hy2
      go_wp2_with (go_at_call 41; refine (refFirst_any _ _ (by omega) (by omega)).mono ?_; rintro e w' ⟨rfl, hw⟩; subst hw)
      go_round
      case rel => exact ⟨Y + 1, by omega, by omega, rfl⟩
      case measure => simp [intOf]; omega
    · obtain rfl : Y = y := by omega
      clear hlt y1 y2
      go_wp2_with (go_at_call 41; refine (refFirst_any _ _ (by omega) (by omega)).mono ?_; rintro e w' ⟨rfl, hw⟩; subst hw)
      go_loopw [5, 4] (fun t r wr => ∃ M : Int, 1 ≤ M ∧ M ≤ m ∧ t = .int .i64 M ∧ 0 ≤ n - st Y - cum Y M ∧ n - st Y - cum Y M ≤ 366 ∧ r = .int .i64 (n - st Y - cum Y M) ∧ Hid (Below (w.alloc (.cells #[.int .i64 0, .int .i64 0, .int .i64 0] 23)).heap.size (w.alloc (.cells #[.int .i64 0, .int .i64 0, .int .i64 0] 23)) wr)) (fun t _ _ => (m - intOf t).toNat)
      case atStart => exact ⟨1, by omega, by omega, rfl, by rw [h1c.out]; have := HY1.out; omega, by rw [h1c.out]; have := st_succ Y; have := lp_01 Y; omega, by rw [h1c.out]; go_num, Below.refl _ _⟩
      case round =>
        obtain ⟨M, a1, a2, rfl, r0, r1, rfl, hb⟩ := hrel
        have hml := ml_bd Y M
        obtain ⟨l0, l1⟩ := hml
        have HL := Lib.hid (fun W => refLength_any Y M W (by omega) (by omega) a1 (by omega))
        by_cases hlt : M < m
        · have hc := HC.out M a1 hlt
          have hs := Lib.hid (HS.out M a1 hlt)
          generalize n - st Y - cum Y M = r at *
          generalize ml Y M = l at *
          go_wp2_with (go_at_call 32; refine (HL.out _).mono ?_; rintro e w2 ⟨rfl, h2⟩; replace hb := Lib.hid (bel_trans hb.out h2); clear h2)
          go_roundw
          case rel => exact ⟨M + 1, by omega, by omega, rfl, by rw [hs.out]; omega, by rw [hs.out]; omega, by rw [hs.out], hb⟩
          case measure => simp [intOf]; omega
        · obtain rfl : M = m := by omega
          have hd := HD.out
          generalize n - st Y - cum Y M = r at *
          obtain rfl : r = d - 1 := hd
          clear hlt
          generalize ml Y M = l at *
          go_wp2_with fail
          refine (HL.out _).mono ?_
          rintro e w2 ⟨rfl, h2⟩
          have hb2 := bel_trans hb.out h2
          have HB2 := Lib.hid hb2
          have c0 := (bcell hb2).1 w.heap.size 0 (by simp)
          have c1 := (bcell hb2).1 w.heap.size 1 (by simp)
          have c2 := (bcell hb2).1 w.heap.size 2 (by simp)
          have f0 := (bcell hb2).2 w.heap.size 0 (by simp)
          have f1 := (bcell hb2).2 w.heap.size 1 (by simp)
          have f2 := (bcell hb2).2 w.heap.size 2 (by simp)
          simp [go_sem] at c0 c1 c2 f0 f1 f2
          clear hb2 h2
          go_wp2
          obtain ⟨t0, t1, t2⟩ := three_read w2 w.heap.size (.int .i64 Y) (.int .i64 M) (.int .i64 d) c0 c1 c2
          refine bodyPost_ret (v := .agg #[.int .i64 Y, .int .i64 M, .int .i64 d]) (by simp [results, Tryd.results31, go_sem, t0, t1, t2]) rfl ?_
          exact ⟨rfl, (((bel_alloc HB2.out).setCell (Nat.le_refl _) _).setCell (Nat.le_refl _) _).setCell (Nat.le_refl _) _⟩

theorem refDate_any (n : Int) (w : World) :
    Calls Tryd.prog 12 #[.int .i64 n] w fun e w' => e = .returned (.tuple #[.agg #[.int .i64 (dY n), .int .i64 (dM n), .int .i64 (dD n)], .int .i64 (dE n)]) ∧ Below w.heap.size w w' := by
  cases h : dayB n with
  | false =>
    simp only [dY, dM, dD, dE, h, Bool.false_eq_true, if_false]
    have H := Lib.hid h
    clear h
    go_enter Tryd.func12, Tryd.ntmps12
    go_wp2_with (go_at_call 30; refine (refIsDay_any _ _).mono ?_; rw [H.out]; rintro e w' ⟨rfl, hw⟩; subst hw)
    go_returns
    exact ⟨rfl, bel_alloc (Below.refl _ _)⟩
  | true =>
    simp only [dY, dM, dD, dE, h, if_true]
    obtain ⟨h0, h1⟩ := (dayB_iff n).1 h
    obtain ⟨a, b⟩ := dt_spec n h0
    have HO := Lib.hid (fun W => refOf_yes n _ _ _ W h0 h1 a b)
    have H := Lib.hid h
    clear h a b
    generalize yr n = y at *
    generalize mo n = m at *
    generalize da n = d at *
    go_enter Tryd.func12, Tryd.ntmps12
    go_wp2_with (go_at_call 30; refine (refIsDay_any _ _).mono ?_; rw [H.out]; rintro e w' ⟨rfl, hw⟩; subst hw)
    refine (HO.out _).mono ?_
    rintro e w2 ⟨rfl, hb2⟩
    have HB2 := Lib.hid hb2
    have c0 := (bcell hb2).1 w.heap.size 0 (by simp)
    have c1 := (bcell hb2).1 w.heap.size 1 (by simp)
    have c2 := (bcell hb2).1 w.heap.size 2 (by simp)
    have f0 := (bcell hb2).2 w.heap.size 0 (by simp)
    have f1 := (bcell hb2).2 w.heap.size 1 (by simp)
    have f2 := (bcell hb2).2 w.heap.size 2 (by simp)
    simp [go_sem] at c0 c1 c2 f0 f1 f2
    clear hb2
    go_wp2
    obtain ⟨t0, t1, t2⟩ := three_read w2 w.heap.size (.int .i64 y) (.int .i64 m) (.int .i64 d) c0 c1 c2
    refine bodyPost_ret (v := .tuple #[.agg #[.int .i64 y, .int .i64 m, .int .i64 d], .int .i64 0]) (by simp [results, Tryd.results12, go_sem, t0, t1, t2]) rfl ?_
    exact ⟨rfl, (((bel_alloc HB2.out).setCell (Nat.le_refl _) _).setCell (Nat.le_refl _) _).setCell (Nat.le_refl _) _⟩

theorem refWeekday_any (n : Int) (w : World) :
    Calls Tryd.prog 16 #[.int .i64 n] w fun e w' => e = .returned (.tuple #[.int .i64 (wdN n), .int .i64 (dE n)]) ∧ Below w.heap.size w w' := by
  unfold wdN dE
  cases h : dayB n with
  | false =>
    have H := Lib.hid h
    go_enter Tryd.func16, Tryd.ntmps16
    go_wp2_with (go_at_call 30; refine (refIsDay_any _ _).mono ?_; rw [H.out]; rintro e w' ⟨rfl, rfl⟩)
    go_returns
    exact ⟨rfl, Below.refl _ _⟩
  | true =>
    have H := Lib.hid h
    obtain ⟨h0, h1⟩ := (dayB_iff n).1 h
    clear h
    go_enter Tryd.func16, Tryd.ntmps16
    go_wp2_with (go_at_call 30; refine (refIsDay_any _ _).mono ?_; rw [H.out]; rintro e w' ⟨rfl, hw⟩; subst hw)
    go_returns
    exact ⟨rfl, Below.refl _ _⟩

theorem field_month (y m d : Int) (W : World) : (Instr.field 23 (.agg #[.int .i64 y, .int .i64 m, .int .i64 d]) 1).run Tryd.prog W = .ok (.int .i64 m) W := by kernel_rfl

theorem refSeason_any (n : Int) (w : World) :
    Calls Tryd.prog 18 #[.int .i64 n] w fun e w' => e = .returned (.tuple #[.int .i64 (seN n), .int .i64 (dE n)]) ∧ Below w.heap.size w w' := by
  unfold seN dE
  cases h : dayB n with
  | false =>
    have H := Lib.hid h
    go_enter Tryd.func18, Tryd.ntmps18
    go_wp2_with (go_at_call 30; refine (refIsDay_any _ _).mono ?_; rw [H.out]; rintro e w' ⟨rfl, rfl⟩)
    go_returns
    exact ⟨rfl, Below.refl _ _⟩
  | true =>
    obtain ⟨h0, h1⟩ := (dayB_iff n).1 h
    obtain ⟨a, b⟩ := dt_spec n h0
    have HO := Lib.hid (fun W => refOf_yes n _ _ _ W h0 h1 a b)
    have H := Lib.hid h
    obtain ⟨m0, m1, _, _⟩ := a
    clear h b
    simp only [if_true]
    generalize yr n = y at *
    generalize mo n = m at *
    generalize da n = d at *
    go_enter Tryd.func18, Tryd.ntmps18
    go_wp2_with (go_at_call 30; refine (refIsDay_any _ _).mono ?_; rw [H.out]; rintro e w' ⟨rfl, hw⟩; subst hw)
    refine (HO.out _).mono ?_
    rintro e w2 ⟨rfl, hb2⟩
    have HB2 := Lib.hid hb2
    clear hb2
    have hfld := fun W => field_month y m d W
    go_wp2
    go_returns
    exact ⟨rfl, HB2.out⟩

end Go.Proofs.YtdhckbjebccdbabDoor
