/- The reference of layer 2: a rule, a rounded quotient, a step. -/
import Derived.Test.YtigmpbipbkgnfaaDoorQuo
import Derived.Test.YtigmpbipbkgnfaaDoorMath2
namespace Go.Proofs.YtigmpbipbkgnfaaDoor
open Go.RowKit

theorem refIs_any (n : Int) (w : World) :
    Calls Tryd.prog 35 #[.int .i64 n] w fun e w' => e = .returned (.bool (isRuleB n)) ∧ w = w' := by
  go_enter Tryd.func35, Tryd.ntmps35
  go_wp2
  all_goals go_ret
  all_goals (refine ⟨ret_bool ?_, rfl⟩; unfold isRuleB; grind)

/-- by how much a quotient that was rounded down becomes greater -/
theorem roundQ_eq (rule q r b : Int) (h : 1 ≤ rule ∧ rule ≤ 4) (r0 : 0 ≤ r) (r1 : r < b) :
    roundQ rule q r b = if r = 0 ∨ rule = 1 then q else if rule = 2 ∨ b - r < r then q + 1 else if r < b - r then q else if rule = 3 ∨ q.tmod 2 ≠ 0 then q + 1 else q := by
  have hr : rule = 1 ∨ rule = 2 ∨ rule = 3 ∨ rule = 4 := by omega
  unfold roundQ
  rcases hr with rfl | rfl | rfl | rfl
  · have : moreB 1 q r b = false := rfl
    rw [this]; simp
  · have : moreB 2 q r b = decide (0 < r) := rfl
    rw [this]
    by_cases h0 : r = 0
    · simp [h0]
    · have : 0 < r := by omega
      simp [h0, this]
  · have : moreB 3 q r b = nearB r b true := rfl
    rw [this]; unfold nearB
    grind
  · have : moreB 4 q r b = nearB r b (q.tmod 2 != 0) := rfl
    rw [this]; unfold nearB
    generalize hx : q.tmod 2 = x
    grind

theorem refRound_any (rule q r b : Int) (w : World) (h : 1 ≤ rule ∧ rule ≤ 4) (q0 : -9223372036854775808 ≤ q) (q1 : q < 9223372036854775807) (r0 : 0 ≤ r) (b1 : b ≤ 9223372036854775807) (r1 : r < b) :
    Calls Tryd.prog 42 #[.int .i64 q, .int .i64 r, .int .i64 b, .int .i64 rule] w fun e w' => e = .returned (.int .i64 (roundQ rule q r b)) ∧ w = w' := by
  have H := Lib.hid (roundQ_eq rule q r b h r0 r1)
  generalize roundQ rule q r b = Q at *
  obtain ⟨h1, h2⟩ := h
  go_enter Tryd.func42, Tryd.ntmps42
  go_wp2
  all_goals go_ret
  all_goals (refine ⟨ret_int ?_, rfl⟩; rw [H.out]; clear H; grind)

set_option maxHeartbeats 1000000 in
theorem refQuotient_down (a b rule T M q r Q x : Int) (w : World) (hr : Hid (isRuleB rule = true)) (a0 : -128849018880000 ≤ a) (a1 : a ≤ 128849018880000) (b0 : 1 ≤ b) (b1 : b ≤ 128849018880000)
    (e1 : a.tdiv b = T) (e2 : a.tmod b = M) (t0 : -128849018880001 ≤ T) (t1 : T ≤ 128849018880001) (m0 : -128849018880000 ≤ M) (m1 : M ≤ 128849018880000)
    (p0 : -257698037760000 ≤ Q * b) (p1 : Q * b ≤ 257698037760000) (hx : a - Q * b = x)
    (hm : Hid ((0 ≤ M ∧ T = q ∧ M = r) ∨ (M < 0 ∧ T - 1 = q ∧ M + b = r)))
    (HR : Hid (∀ W, Calls Tryd.prog 42 #[.int .i64 q, .int .i64 r, .int .i64 b, .int .i64 rule] W fun e w' => e = .returned (.int .i64 Q) ∧ W = w')) :
    Calls Tryd.prog 36 #[.int .i64 a, .int .i64 b, .int .i64 rule] w fun e w' => e = .returned (.tuple #[.int .i64 Q, .int .i64 x, .int .i64 0]) ∧ Below w.heap.size w w' := by
  have ew1 : IntKind.i64.wrap T = T := IntWalk.i64_in _ ⟨by omega, by omega⟩
  have ew2 : IntKind.i64.wrap M = M := IntWalk.i64_in _ ⟨by omega, by omega⟩
  have hb : (b = 0) = False := by simp; omega
  go_enter Tryd.func36, Tryd.ntmps36
  go_wp2_with (go_at_call 35; refine (refIs_any _ _).mono ?_; rw [hr.out]; rintro e w' ⟨rfl, hw⟩; subst hw)
  go_region
  go_wp2_with fail
  · have hM : M < 0 := by assumption
    have e3 : T - 1 = q ∧ M + b = r := by
      rcases hm.out with h | h
      · omega
      · exact h.2
    rw [e3.1, e3.2]
    refine (HR.out _).mono ?_
    rintro e w1 ⟨rfl, hw⟩
    subst hw
    clear e3 hm
    go_wp2
    go_returns
    exact ⟨rfl, (Below.refl _ _).drew⟩
  · have hM : 0 ≤ M := by assumption
    have e3 : T = q ∧ M = r := by
      rcases hm.out with h | h
      · exact h.2
      · omega
    rw [e3.1, e3.2]
    refine (HR.out _).mono ?_
    rintro e w1 ⟨rfl, hw⟩
    subst hw
    clear e3 hm
    go_wp2
    go_returns
    exact ⟨rfl, (Below.refl _ _).drew⟩

theorem refQuotient_rule (a b rule : Int) (w : World) (hr : Hid (isRuleB rule = false)) :
    Calls Tryd.prog 36 #[.int .i64 a, .int .i64 b, .int .i64 rule] w fun e w' => e = .returned (.tuple #[.int .i64 0, .int .i64 0, .int .i64 1]) ∧ Below w.heap.size w w' := by
  go_enter Tryd.func36, Tryd.ntmps36
  go_wp2_with (go_at_call 35; refine (refIs_any _ _).mono ?_; rw [hr.out]; rintro e w' ⟨rfl, hw⟩; subst hw)
  go_returns
  exact ⟨rfl, Below.refl _ _⟩
theorem refQuotient_range (a b rule : Int) (w : World) (hr : Hid (isRuleB rule = true)) (h : a < -128849018880000 ∨ 128849018880000 < a ∨ b < 1 ∨ 128849018880000 < b) :
    Calls Tryd.prog 36 #[.int .i64 a, .int .i64 b, .int .i64 rule] w fun e w' => e = .returned (.tuple #[.int .i64 0, .int .i64 0, .int .i64 2]) ∧ Below w.heap.size w w' := by
  by_cases h1 : a < -128849018880000
  · clear h
    go_enter Tryd.func36, Tryd.ntmps36
    go_wp2_with (go_at_call 35; refine (refIs_any _ _).mono ?_; rw [hr.out]; rintro e w' ⟨rfl, hw⟩; subst hw)
    go_returns
    exact ⟨rfl, Below.refl _ _⟩
  by_cases h2 : 128849018880000 < a
  · clear h
    go_enter Tryd.func36, Tryd.ntmps36
    go_wp2_with (go_at_call 35; refine (refIs_any _ _).mono ?_; rw [hr.out]; rintro e w' ⟨rfl, hw⟩; subst hw)
    go_returns
    exact ⟨rfl, Below.refl _ _⟩
  by_cases h3 : b < 1
  · clear h
    go_enter Tryd.func36, Tryd.ntmps36
    go_wp2_with (go_at_call 35; refine (refIs_any _ _).mono ?_; rw [hr.out]; rintro e w' ⟨rfl, hw⟩; subst hw)
    go_returns
    exact ⟨rfl, Below.refl _ _⟩
  have h4 : 128849018880000 < b := by omega
  clear h
  go_enter Tryd.func36, Tryd.ntmps36
  go_wp2_with (go_at_call 35; refine (refIs_any _ _).mono ?_; rw [hr.out]; rintro e w' ⟨rfl, hw⟩; subst hw)
  go_returns
  exact ⟨rfl, Below.refl _ _⟩

theorem refQuotient_any (a b rule : Int) (w : World) :
    Calls Tryd.prog 36 #[.int .i64 a, .int .i64 b, .int .i64 rule] w fun e w' => e = .returned (.tuple #[.int .i64 (quoQ a b rule), .int .i64 (quoR a b rule), .int .i64 (quoE a b rule)]) ∧ Below w.heap.size w w' := by
  by_cases h : quoE a b rule = 0
  · obtain ⟨⟨r0, r1⟩, a0, a1, b0, b1⟩ := quoE_zero h
    have n := (near_of a b rule h).sum
    have m := quo_mul a b rule
    have eQ : quoQ a b rule = roundQ rule (a / b) (a % b) b := by unfold quoQ; rw [if_pos h]
    obtain ⟨t1, t2, t3⟩ := tdiv_down a b (by omega)
    have bd := div_bd a b b0 a0 a1
    have m0 := Int.emod_nonneg a (show b ≠ 0 by omega)
    have m1 := Int.emod_lt_of_pos a (show 0 < b by omega)
    rw [h]
    refine refQuotient_down a b rule (a.tdiv b) (a.tmod b) (a / b) (a % b) _ _ w ((isRuleB_iff rule).2 ⟨r0, r1⟩) a0 a1 b0 b1 rfl rfl (by omega) (by omega) (by omega) (by omega) m.1 m.2 (by omega) t3 (fun W => ?_)
    rw [eQ]
    exact refRound_any rule (a / b) (a % b) b W ⟨r0, r1⟩ (by omega) (by omega) m0 (by omega) m1
  · have e1 : quoQ a b rule = 0 := by unfold quoQ; rw [if_neg h]
    have e2 : quoR a b rule = 0 := by unfold quoR; rw [if_neg h]
    rw [e1, e2]
    cases hr : isRuleB rule with
    | false =>
      have e : quoE a b rule = 1 := by unfold quoE; rw [hr]; rfl
      rw [e]; exact refQuotient_rule a b rule w hr
    | true =>
      unfold quoE at h ⊢
      rw [hr, if_pos rfl] at h ⊢
      by_cases hg : -128849018880000 ≤ a ∧ a ≤ 128849018880000 ∧ isDivB b = true
      · rw [if_pos hg] at h; exact absurd rfl h
      · rw [if_neg hg]
        rw [isDivB_iff] at hg
        exact refQuotient_range a b rule w hr (by omega)


end Go.Proofs.YtigmpbipbkgnfaaDoor
