/- What follows from the definition of a rounded quotient. -/
import Derived.Test.YtdpkochkpcjioabDoorQuo
namespace Go.Proofs.YtdpkochkpcjioabDoor

theorem tmod2_iff (q : Int) : q.tmod 2 = 0 ↔ q % 2 = 0 := by
  constructor
  · intro h
    exact Int.emod_eq_zero_of_dvd (Int.dvd_of_tmod_eq_zero h)
  · intro h
    exact Int.tmod_eq_zero_of_dvd (Int.dvd_of_emod_eq_zero h)
theorem tmod2_ne (q : Int) : (q.tmod 2 != 0) = decide (q % 2 = 1) := by
  rw [Bool.eq_iff_iff, bne_iff_ne, ne_eq, tmod2_iff, decide_eq_true_eq]; omega

/-- a quotient and its rest -/
structure Near (a b rule q r : Int) : Prop where
  sum : q * b + r = a
  lo : -b < r
  hi : r < b
  down : rule = 1 → 0 ≤ r
  up : rule = 2 → r ≤ 0
  half : rule = 3 → 2 * r < b ∧ -b ≤ 2 * r
  even : rule = 4 → 2 * r ≤ b ∧ -b ≤ 2 * r ∧ (2 * r = b ∨ 2 * r = -b → q % 2 = 0)

theorem near_of (a b rule : Int) (h : quoE a b rule = 0) : Near a b rule (quoQ a b rule) (quoR a b rule) := by
  obtain ⟨⟨r0, r1⟩, a0, a1, b0, b1⟩ := quoE_zero h
  have m0 := Int.emod_nonneg a (show b ≠ 0 by omega)
  have m1 := Int.emod_lt_of_pos a (show 0 < b by omega)
  have e := Int.emod_add_mul_ediv a b
  unfold quoQ quoR
  rw [if_pos h, if_pos h, Int.mul_comm] at *
  generalize a / b = q at *
  generalize a % b = r at *
  unfold roundQ roundR
  have hr : rule = 1 ∨ rule = 2 ∨ rule = 3 ∨ rule = 4 := by omega
  rcases hr with rfl | rfl | rfl | rfl
  · have : moreB 1 q r b = false := rfl
    rw [this]
    exact ⟨by first | omega | (simp; done) | (simp; omega), by first | omega | (simp; done) | (simp; omega), by first | omega | (simp; done) | (simp; omega), by first | omega | (simp; done) | (simp; omega), by omega, by omega, by omega⟩
  · have : moreB 2 q r b = decide (0 < r) := rfl
    rw [this]
    by_cases hm : 0 < r
    · rw [decide_eq_true hm]
      simp only [if_true]
      exact ⟨by rw [Int.add_mul]; omega, by omega, by omega, by omega, by omega, by omega, by omega⟩
    · rw [decide_eq_false hm]
      exact ⟨by first | omega | (simp; done) | (simp; omega), by first | omega | (simp; done) | (simp; omega), by first | omega | (simp; done) | (simp; omega), by first | omega | (simp; done) | (simp; omega), by first | omega | (simp; done) | (simp; omega), by omega, by omega⟩
  · have : moreB 3 q r b = nearB r b true := rfl
    rw [this]
    by_cases hm : b ≤ 2 * r
    · rw [show nearB r b true = true by unfold nearB; rw [Bool.and_true, Bool.or_eq_true, decide_eq_true_eq, decide_eq_true_eq]; omega]
      simp only [if_true]
      exact ⟨by rw [Int.add_mul]; omega, by omega, by omega, by omega, by omega, by omega, by omega⟩
    · rw [show nearB r b true = false by unfold nearB; rw [Bool.and_true, Bool.or_eq_false_iff, decide_eq_false_iff_not, decide_eq_false_iff_not]; omega]
      exact ⟨by first | omega | (simp; done) | (simp; omega), by first | omega | (simp; done) | (simp; omega), by first | omega | (simp; done) | (simp; omega), by omega, by omega, by first | omega | (simp; done) | (simp; omega), by omega⟩
  · have : moreB 4 q r b = nearB r b (q.tmod 2 != 0) := rfl
    rw [this, tmod2_ne]
    by_cases hm : b < 2 * r ∨ b = 2 * r ∧ q % 2 = 1
    · rw [show nearB r b (decide (q % 2 = 1)) = true by unfold nearB; rw [Bool.or_eq_true, Bool.and_eq_true, decide_eq_true_eq, decide_eq_true_eq, decide_eq_true_eq]; omega]
      simp only [if_true]
      exact ⟨by rw [Int.add_mul]; omega, by omega, by omega, by omega, by omega, by omega, by omega⟩
    · rw [show nearB r b (decide (q % 2 = 1)) = false by unfold nearB; rw [Bool.or_eq_false_iff, Bool.and_eq_false_iff, decide_eq_false_iff_not, decide_eq_false_iff_not, decide_eq_false_iff_not]; omega]
      simp only [Bool.false_eq_true, if_false]
      exact ⟨by omega, by omega, by omega, by omega, by omega, by omega, by omega⟩

end Go.Proofs.YtdpkochkpcjioabDoor

