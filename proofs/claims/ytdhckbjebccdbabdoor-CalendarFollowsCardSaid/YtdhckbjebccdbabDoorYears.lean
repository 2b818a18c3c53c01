/- Package calendar: Years. -/
import Derived.Test.YtdhckbjebccdbabDoorLater
namespace Go.Proofs.YtdhckbjebccdbabDoor
open Go.RowKit

noncomputable def yeN (n k : Int) : Int := if dayB n = true ∧ dayB k = true ∧ n ≤ k then yrs n k else 0
def yeE (n k : Int) : Int := if dayB n = true ∧ dayB k = true then (if n ≤ k then 0 else 5) else 2

theorem years_core (n k y m d E y2 m2 d2 E2 N X L Z : Int) (w : World)
    (HD : Hid (∀ W, Below w.heap.size w W → Calls Tryd.prog 11 #[.int .i64 n] W fun e w' => e = .returned (.tuple #[.agg #[.int .i64 y, .int .i64 m, .int .i64 d], .int .i64 E]) ∧ Below W.heap.size W w'))
    (HF : Hid (∀ W, Below w.heap.size w W → Calls Tryd.prog 11 #[.int .i64 k] W fun e w' => e = .returned (.tuple #[.agg #[.int .i64 y2, .int .i64 m2, .int .i64 d2], .int .i64 E2]) ∧ Below W.heap.size W w'))
    (HL : Hid (∀ W, Below w.heap.size w W → E = 0 → E2 = 0 → n ≤ k → Calls Tryd.prog 19 #[.int .i64 n, .int .i64 (12 * (y2 - y))] W fun e w' => e = .returned (.tuple #[.int .i64 L, .int .i64 Z]) ∧ Below W.heap.size W w'))
    (nb : -9223372036854775808 ≤ n ∧ n ≤ 9223372036854775807) (kb : -9223372036854775808 ≤ k ∧ k ≤ 9223372036854775807)
    (h : (E = 2 ∧ X = 2 ∧ N = 0) ∨ (E = 0 ∧ E2 = 2 ∧ X = 2 ∧ N = 0) ∨ (E = 0 ∧ E2 = 0 ∧ k < n ∧ X = 5 ∧ N = 0) ∨
      (E = 0 ∧ E2 = 0 ∧ n ≤ k ∧ X = 0 ∧ 0 ≤ y ∧ 0 ≤ y2 ∧ y ≤ 3000 ∧ y2 ≤ 3000 ∧ ((Z = 0 ∧ L ≤ k ∧ N = y2 - y) ∨ (Z = 0 ∧ k < L ∧ N = y2 - y - 1) ∨ (Z = 15 ∧ N = y2 - y - 1)))) :
    Calls Tryd.prog 21 #[.int .i64 n, .int .i64 k] w fun e w' => e = .returned (.tuple #[.int .i64 N, .int .i64 X]) ∧ Below w.heap.size w w' := by
  obtain ⟨nb0, nb1⟩ := nb
  obtain ⟨kb0, kb1⟩ := kb
  have H := Lib.hid h; clear h
  go_enter Tryd.func21, Tryd.ntmps21
  go_wp2_with fail
  refine (HD.out _ (Below.refl _ _)).mono ?_
  rintro e w1 ⟨rfl, hb⟩
  have HB := Lib.hid hb
  clear hb
  go_wp2_with fail
  refine (HF.out _ (bel_trans HB.out (bel_alloc (Below.refl _ _)))).mono ?_
  rintro e w2 ⟨rfl, hb⟩
  have hz : w1.heap.size + 1 ≤ w2.heap.size := by simpa using hb.size
  have c0 := (bcell hb).1 w1.heap.size 0 (by simp)
  simp [go_sem] at c0
  have g0 : ∀ o, (w2.alloc o).cell? ⟨w1.heap.size, 0, none⟩ = some (.int .i64 y) := fun o => by rw [World.cell?_alloc_lt w2 o _ (by show w1.heap.size < _; omega), c0]
  replace HB := Lib.hid (bel_trans HB.out (bel_alloc hb))
  clear hb c0
  rcases H.out with ⟨rfl, rfl, rfl⟩ | ⟨rfl, rfl, rfl, rfl⟩ | ⟨rfl, rfl, h, rfl, rfl⟩ | ⟨rfl, rfl, h, rfl, a, b, c, d, hh⟩
  · clear H
    go_wp2
    go_returns
    exact ⟨rfl, bel_trans HB.out (bel_alloc (Below.refl _ _))⟩
  · clear H
    go_wp2
    go_returns
    exact ⟨rfl, bel_trans HB.out (bel_alloc (Below.refl _ _))⟩
  · clear H
    go_wp2
    go_returns
    exact ⟨rfl, bel_trans HB.out (bel_alloc (Below.refl _ _))⟩
  · clear H
    have HH := Lib.hid hh; clear hh
    have HL2 := Lib.hid (fun W hW => HL.out W hW rfl rfl h); clear HL
    go_wp2_with fail
    refine (HL2.out _ (bel_trans HB.out (bel_alloc (Below.refl _ _)))).mono ?_
    rintro e w3 ⟨rfl, hb⟩
    replace HB := Lib.hid (bel_trans HB.out (bel_alloc hb))
    clear hb g0
    rcases HH.out with ⟨rfl, h1, rfl⟩ | ⟨rfl, h1, rfl⟩ | ⟨rfl, rfl⟩
    all_goals
      clear HH
      go_wp2
      go_returns
      exact ⟨rfl, HB.out⟩

theorem years_any (n k : Int) (w : World) (hw : LaidC w) (nb : -9223372036854775808 ≤ n ∧ n ≤ 9223372036854775807) (kb : -9223372036854775808 ≤ k ∧ k ≤ 9223372036854775807) :
    Calls Tryd.prog 21 #[.int .i64 n, .int .i64 k] w fun e w' => e = .returned (.tuple #[.int .i64 (yeN n k), .int .i64 (yeE n k)]) ∧ Below w.heap.size w w' := by
  refine years_core n k (dY n) (dM n) (dD n) (dE n) (dY k) (dM k) (dD k) (dE k) _ _ (laN n (12 * (dY k - dY n))) (laE n (12 * (dY k - dY n))) w (fun W hW => date_any n W (hw.below hW)) (fun W hW => date_any k W (hw.below hW))
    (fun W hW _ _ _ => later_any n _ W (hw.below hW)) nb kb ?_
  cases hb : dayB n with
  | false => left; simp [dE, hb, yeN, yeE]
  | true =>
    right
    cases hk : dayB k with
    | false => left; simp [dE, hb, hk, yeN, yeE]
    | true =>
      right
      by_cases h : n ≤ k
      · right
        obtain ⟨n0, n1⟩ := (dayB_iff n).1 hb
        obtain ⟨k0, k1⟩ := (dayB_iff k).1 hk
        have y1 := yr_ge n n0
        have y2 := yr_ge k k0
        have y3 := yr_le n n0 n1
        have y4 := yr_le k k0 k1
        have hle : yr n ≤ yr k := by
          have d' := day_year k k0
          have d := day_year n n0
          apply Int.not_lt.1; intro hlt
          have := st_mono (yr k + 1) (yr n) (by omega)
          omega
        have hl0 : n ≤ lat n (12 * (yr k - yr n)) := by
          by_cases e : yr k = yr n
          · rw [e, Int.sub_self, Int.mul_zero, lat_zero n n0]; exact Int.le_refl _
          · have := lat_lt n 0 (12 * (yr k - yr n)) n0 (by omega)
            rw [lat_zero n n0] at this; omega
        have hm : monB (12 * (yr k - yr n)) = true := (monB_iff _).2 (by omega)
        simp only [dE, dY, hb, hk, yeN, yeE, if_true, h, and_self, laN, laE, hm, true_and]
        refine ⟨by omega, by omega, by omega, by omega, ?_⟩
        unfold yrs
        cases hx : dayB (lat n (12 * (yr k - yr n))) with
        | true =>
          simp only [if_true, true_and]
          by_cases hq : lat n (12 * (yr k - yr n)) ≤ k
          · left; rw [if_pos hq]; exact ⟨hq, rfl⟩
          · right; left; rw [if_neg hq]; exact ⟨by omega, rfl⟩
        | false =>
          right; right
          have := (dayB_not _).1 hx
          have hq : ¬ lat n (12 * (yr k - yr n)) ≤ k := by omega
          exact ⟨by simp, by rw [if_neg hq]⟩
      · left; simp [dE, hb, hk, yeN, yeE, h]; omega
end Go.Proofs.YtdhckbjebccdbabDoor
