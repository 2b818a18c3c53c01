/- Package calendar: Weekday, Season, Later, Years. -/
import Derived.Test.YtdhckbjebccdbabDoorDay
import Derived.Deep.RegionHeld3
import Derived.Deep.DrawnRows
import Derived.StillTailTactics
namespace Go.Proofs.YtdhckbjebccdbabDoor
open Go.RowKit
attribute [local go_sem ↓] Go.wp_at_zero Go.wp_at_succ

theorem still_tail {P : Program} {id : Nat} {Q : Exit → Act → World → Prop} {a : Act} {w : World} {l : List Oper} (n : Nat) (hm : P.follows .mixedOrders = true) (hB : Region.lexTailB .any l.toArray n = true)
    (h : wpStill P l.toArray w.drew (fun a' => wpList P l.toArray Q (l.drop n) a' w.drew) (l.take n) a) : (Code.region id l.toArray true).wp P Q a w :=
  wp_region_still_tail n hm hB h

def wdN (n : Int) : Int := if dayB n = true then n % 7 + 1 else 0
theorem weekday_any (n : Int) (w : World) :
    Calls Tryd.prog 15 #[.int .i64 n] w fun e w' => e = .returned (.tuple #[.int .i64 (wdN n), .int .i64 (dE n)]) ∧ Below w.heap.size w w' := by
  unfold wdN dE
  cases h : dayB n with
  | false =>
    have H := Lib.hid h
    go_enter Tryd.func15, Tryd.ntmps15
    go_wp2_with (go_at_call 27; refine (isDay_any _ _).mono ?_; rw [H.out]; rintro e w' ⟨rfl, rfl⟩)
    go_returns
    exact ⟨rfl, Below.refl _ _⟩
  | true =>
    have H := Lib.hid h
    obtain ⟨h0, h1⟩ := (dayB_iff n).1 h
    clear h
    go_enter Tryd.func15, Tryd.ntmps15
    go_wp2_with (go_at_call 27; refine (isDay_any _ _).mono ?_; rw [H.out]; rintro e w' ⟨rfl, hw⟩; subst hw)
    go_returns
    exact ⟨rfl, Below.refl _ _⟩

noncomputable def seN (n : Int) : Int := if dayB n = true then mo n % 12 / 3 + 1 else 0
theorem season_any (n : Int) (w : World) (hw : LaidC w) :
    Calls Tryd.prog 17 #[.int .i64 n] w fun e w' => e = .returned (.tuple #[.int .i64 (seN n), .int .i64 (dE n)]) ∧ Below w.heap.size w w' := by
  have HD := Lib.hid (date_any n w hw)
  have hs : (dE n = 2 ∧ seN n = 0) ∨ (dE n = 0 ∧ seN n = dM n % 12 / 3 + 1 ∧ 1 ≤ dM n ∧ dM n ≤ 12) := by
    unfold dE seN dM
    cases h : dayB n with
    | false => simp
    | true =>
      obtain ⟨h0, h1⟩ := (dayB_iff n).1 h
      obtain ⟨⟨a, b, _⟩, _⟩ := dt_spec n h0
      simp; omega
  generalize dY n = y at *
  generalize dM n = m at *
  generalize dD n = d at *
  generalize dE n = E at *
  generalize seN n = S at *
  rcases hs with ⟨rfl, rfl⟩ | ⟨rfl, rfl, m0, m1⟩
  · go_enter Tryd.func17, Tryd.ntmps17
    go_wp2_with fail
    refine HD.out.mono ?_
    rintro e w1 ⟨rfl, hb⟩
    have HB := Lib.hid hb; clear hb
    go_wp2
    go_returns
    exact ⟨rfl, bel_trans HB.out (bel_alloc (Below.refl _ _))⟩
  · go_enter Tryd.func17, Tryd.ntmps17
    go_wp2_with fail
    refine HD.out.mono ?_
    rintro e w1 ⟨rfl, hb⟩
    have HB := Lib.hid hb; clear hb
    go_wp2
    go_returns
    exact ⟨rfl, bel_trans HB.out (bel_alloc (Below.refl _ _))⟩

/-! ### Later -/
def monB (k : Int) : Bool := decide (-3600 ≤ k) && decide (k ≤ 3600)
theorem monB_iff (k : Int) : monB k = true ↔ -3600 ≤ k ∧ k ≤ 3600 := by simp [monB]
noncomputable def laN (n k : Int) : Int := if dayB n = true ∧ monB k = true ∧ dayB (lat n k) = true then lat n k else 0
noncomputable def laE (n k : Int) : Int := if dayB n = true ∧ monB k = true then (if dayB (lat n k) = true then 0 else 15) else 2

theorem later_no (n k y m d E : Int) (w : World) (HD : Hid (Calls Tryd.prog 11 #[.int .i64 n] w fun e w' => e = .returned (.tuple #[.agg #[.int .i64 y, .int .i64 m, .int .i64 d], .int .i64 E]) ∧ Below w.heap.size w w'))
    (h : E = 2 ∨ (E = 0 ∧ k < -3600) ∨ (E = 0 ∧ 3600 < k)) :
    Calls Tryd.prog 19 #[.int .i64 n, .int .i64 k] w fun e w' => e = .returned (.tuple #[.int .i64 0, .int .i64 2]) ∧ Below w.heap.size w w' := by
  rcases h with rfl | ⟨rfl, h⟩ | ⟨rfl, h⟩
  all_goals
    go_enter Tryd.func19, Tryd.ntmps19
    go_wp2_with fail
    refine HD.out.mono ?_
    rintro e w1 ⟨rfl, hb⟩
    have HB := Lib.hid hb; clear hb
    go_wp2
    go_returns
    exact ⟨rfl, bel_trans HB.out (bel_alloc (Below.refl _ _))⟩

set_option maxHeartbeats 1000000 in
theorem later_core (n k y m d N E Y M L : Int) (w : World) (hw : LaidC w) (HD : Hid (Calls Tryd.prog 11 #[.int .i64 n] w fun e w' => e = .returned (.tuple #[.agg #[.int .i64 y, .int .i64 m, .int .i64 d], .int .i64 0]) ∧ Below w.heap.size w w'))
    (k0 : -3600 ≤ k) (k1 : k ≤ 3600) (y0 : 1900 ≤ y) (y1 : y ≤ 2173) (m0 : 1 ≤ m) (m1 : m ≤ 12) (d0 : 1 ≤ d) (d1 : d ≤ 31)
    (hY : (12 * y + m - 1 + k) / 12 = Y) (hM : (12 * y + m - 1 + k) % 12 + 1 = M) (hL : ml Y M = L)
    (hE : (okD Y M (min d L) = true ∧ N = num Y M (min d L) ∧ E = 0) ∨ (okD Y M (min d L) = false ∧ N = 0 ∧ E = 15)) :
    Calls Tryd.prog 19 #[.int .i64 n, .int .i64 k] w fun e w' => e = .returned (.tuple #[.int .i64 N, .int .i64 E]) ∧ Below w.heap.size w w' := by
  have b1 : 1599 ≤ Y ∧ Y ≤ 2500 ∧ 1 ≤ M ∧ M ≤ 12 := by omega
  obtain ⟨y2, y3, m2, m3⟩ := b1
  have l := ml_bd Y M
  rw [hL] at l
  obtain ⟨l0, l1⟩ := l
  have HW := Lib.hid hw
  have HY := Lib.hid hY
  have HM := Lib.hid hM
  have HE := Lib.hid hE
  have HL := Lib.hid (fun W h => length_any Y M W (by omega) (by omega) m2 m3 h)
  rw [hL] at HL
  clear hw hY hM hL hE
  go_enter Tryd.func19, Tryd.ntmps19
  go_wp2_with fail
  refine HD.out.mono ?_
  rintro e w1 ⟨rfl, hb⟩
  have HB := Lib.hid hb; clear hb
  go_wp2
  rw [HY.out, HM.out]
  refine still_tail 9 (by kernel_rfl) (by kernel_rfl) ?_
  simp only [List.take_succ_cons, List.take_zero, List.drop_succ_cons, List.drop_zero]
  repeat still_step
  still_call ((HL.out _ (HW.out.below (bel_trans HB.out (bel_alloc (bel_drew _))))).mono fun _ _ h => ⟨h.1, h.2.symm⟩)
  repeat still_step
  refine wpStill_nil ?_
  go_wp2_with fail
  refine (day_any Y M (min d L) _ ?_ (by omega) (by omega)).mono ?_
  · exact HW.out.below (bel_trans HB.out (bel_alloc (bel_drew _)))
  rintro e w2 ⟨rfl, hb⟩
  have HC := Lib.hid (bel_trans HB.out (bel_alloc (bel_trans (bel_drew _) hb)))
  clear hb
  have he : (dayEr Y M (min d L) = 0 ∧ dayN Y M (min d L) = N ∧ E = 0) ∨ (dayEr Y M (min d L) = 1 ∧ N = 0 ∧ E = 15) := by
    unfold dayEr dayN
    rcases HE.out with ⟨g, rfl, rfl⟩ | ⟨g, rfl, rfl⟩ <;> simp [g]
  clear HE
  generalize dayEr Y M (min d L) = z at *
  generalize dayN Y M (min d L) = x at *
  rcases he with ⟨rfl, rfl, rfl⟩ | ⟨rfl, rfl, rfl⟩
  · go_wp2
    go_returns
    exact ⟨rfl, HC.out⟩
  · go_wp2
    go_returns
    exact ⟨rfl, HC.out⟩

theorem later_any (n k : Int) (w : World) (hw : LaidC w) :
    Calls Tryd.prog 19 #[.int .i64 n, .int .i64 k] w fun e w' => e = .returned (.tuple #[.int .i64 (laN n k), .int .i64 (laE n k)]) ∧ Below w.heap.size w w' := by
  have HD := date_any n w hw
  cases hb : dayB n with
  | false =>
    rw [show laN n k = 0 by simp [laN, hb], show laE n k = 2 by simp [laE, hb]]
    exact later_no n k _ _ _ _ w HD (.inl (by simp [dE, hb]))
  | true =>
    cases hk : monB k with
    | false =>
      rw [show laN n k = 0 by simp [laN, hk], show laE n k = 2 by simp [laE, hk]]
      refine later_no n k _ _ _ _ w HD (.inr ?_)
      have : ¬ (-3600 ≤ k ∧ k ≤ 3600) := by rw [← monB_iff, hk]; simp
      have e : dE n = 0 := by simp [dE, hb]
      omega
    | true =>
      obtain ⟨k0, k1⟩ := (monB_iff k).1 hk
      obtain ⟨n0, n1⟩ := (dayB_iff n).1 hb
      obtain ⟨⟨m0, m1, d0, d1⟩, _⟩ := dt_spec n n0
      have hl := ml_bd (yr n) (mo n)
      have hv := lat_vd n k n0
      simp only [dY, dM, dD, dE, hb, if_true] at HD
      refine later_core n k (yr n) (mo n) (da n) _ _ _ _ _ w hw HD k0 k1 (yr_ge n n0) (yr_le n n0 n1) m0 m1 d0 (by omega) rfl rfl rfl ?_
      have hok : okD ((12 * yr n + mo n - 1 + k) / 12) ((12 * yr n + mo n - 1 + k) % 12 + 1) (min (da n) (ml ((12 * yr n + mo n - 1 + k) / 12) ((12 * yr n + mo n - 1 + k) % 12 + 1))) = dayB (lat n k) := by
        rw [Bool.eq_iff_iff, okD_iff, dayB_iff]
        exact ⟨fun h => h.2, fun h => ⟨hv, h⟩⟩
      rw [hok]
      unfold laN laE
      cases hx : dayB (lat n k) with
      | true => left; simp [hb, hk]; rfl
      | false => right; simp [hb, hk]
end Go.Proofs.YtdhckbjebccdbabDoor
