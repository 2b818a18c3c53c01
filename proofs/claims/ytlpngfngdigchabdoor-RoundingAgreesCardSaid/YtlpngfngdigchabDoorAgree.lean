/- A product by a factor of 1 is a quotient; a product rounded down is the proportion. -/
import Derived.Test.YtlpngfngdigchabDoorMath2
namespace Go.Proofs.YtlpngfngdigchabDoor
open Go.RowKit

theorem prodE_zero {a b c rule : Int} (h : prodE a b c rule = 0) : (1 ≤ rule ∧ rule ≤ 4) ∧ ofE a b c = 0 ∧ prodQ a b c rule = roundQ rule (ofQ a b c) (ofR a b c) c := by
  have e : prodQ a b c rule = roundQ rule (ofQ a b c) (ofR a b c) c := by unfold prodQ; rw [if_pos h]
  unfold prodE at h
  split at h
  · rename_i hr
    split at h
    · rename_i ho
      exact ⟨(isRuleB_iff rule).1 hr, ho, e⟩
    · rename_i ho; exact absurd h ho
  · omega

theorem prod_one {a c rule : Int} (h : prodE a 1 c rule = 0) : quoE a c rule = 0 ∧ prodQ a 1 c rule = quoQ a c rule := by
  obtain ⟨hr, ho, e⟩ := prodE_zero h
  obtain ⟨p1, p2, p3, p4, p5, p6, p7, p8, p9, p10⟩ := ofE_zero ho
  have hq : quoE a c rule = 0 := by
    unfold quoE; rw [(isRuleB_iff rule).2 hr, if_pos rfl, if_pos ⟨by omega, by omega, (isDivB_iff c).2 ⟨p3, p4⟩⟩]
  refine ⟨hq, ?_⟩
  unfold quoQ
  rw [if_pos hq, e, p5, p6, Int.mul_one]

theorem prod_down (a b c : Int) : prodQ a b c 1 = ofQ a b c ∧ prodE a b c 1 = ofE a b c := by
  have e : ∀ q r d, roundQ 1 q r d = q := fun q r d => by
    unfold roundQ
    have : moreB 1 q r d = false := rfl
    rw [this]; rfl
  have hr : isRuleB 1 = true := by decide
  by_cases ho : ofE a b c = 0
  · obtain ⟨p1, p2, p3, p4, p5, p6, p7, p8, p9, p10⟩ := ofE_zero ho
    have h : prodE a b c 1 = 0 := by
      unfold prodE; rw [hr, if_pos rfl, if_pos ho, e, p5, if_pos p8]
    refine ⟨?_, by rw [h, ho]⟩
    unfold prodQ; rw [if_pos h, e]
  · have h : prodE a b c 1 = ofE a b c := by unfold prodE; rw [hr, if_pos rfl, if_neg ho]
    refine ⟨?_, h⟩
    unfold prodQ ofQ; rw [h, if_neg ho, if_neg ho]

end Go.Proofs.YtlpngfngdigchabDoor
