/- The order of rounded quotients. -/
import Derived.Test.YtdpkochkpcjioabDoorMath2
namespace Go.Proofs.YtdpkochkpcjioabDoor

theorem mul_small (k b t : Int) (h : k * b + t = 0) (h1 : -b < t) (h2 : t < b) : k = 0 := by
  by_cases h0 : 0 < k
  · have := Int.mul_le_mul_of_nonneg_right (show 1 ≤ k by omega) (show 0 ≤ b by omega)
    omega
  · by_cases h3 : k < 0
    · have := Int.mul_le_mul_of_nonneg_right (show k ≤ -1 by omega) (show 0 ≤ b by omega)
      omega
    · omega

theorem quoE_rule {a b rule : Int} (h : quoE a b rule = 0) (n : Int) (hn : 1 ≤ n ∧ n ≤ 4) : quoE a b n = 0 := by
  obtain ⟨_, a0, a1, b0, b1⟩ := quoE_zero h
  unfold quoE; rw [(isRuleB_iff n).2 hn, if_pos rfl, if_pos ⟨a0, a1, (isDivB_iff b).2 ⟨b0, b1⟩⟩]

theorem roundQ_or (rule q r b : Int) (h : 0 ≤ r ∧ r < b) : roundQ rule q r b = q ∨ (0 < r ∧ roundQ rule q r b = q + 1) := by
  unfold roundQ
  split
  · rename_i hm
    exact .inr ⟨moreB_bd rule q r b h.1 h.2 hm, rfl⟩
  · exact .inl rfl

theorem nearB_mono (r s b : Int) (t : Bool) (h : r ≤ s) (hm : nearB r b t = true) : nearB s b t = true := by
  unfold nearB at *
  rw [Bool.or_eq_true, Bool.and_eq_true, decide_eq_true_eq, decide_eq_true_eq] at *
  by_cases h1 : b - s < s
  · exact .inl h1
  · rcases hm with hm | hm
    · omega
    · exact .inr ⟨by omega, hm.2⟩

theorem moreB_mono (rule q r s b : Int) (h0 : 1 ≤ rule ∧ rule ≤ 4) (h : r ≤ s) (hm : moreB rule q r b = true) : moreB rule q s b = true := by
  have hr : rule = 1 ∨ rule = 2 ∨ rule = 3 ∨ rule = 4 := by omega
  rcases hr with rfl | rfl | rfl | rfl
  · exact hm
  · have e : ∀ x, moreB 2 q x b = decide (0 < x) := fun x => rfl
    rw [e, decide_eq_true_eq] at *; omega
  · have e : ∀ x, moreB 3 q x b = nearB x b true := fun x => rfl
    rw [e] at *; exact nearB_mono r s b _ h hm
  · have e : ∀ x, moreB 4 q x b = nearB x b (q.tmod 2 != 0) := fun x => rfl
    rw [e] at *; exact nearB_mono r s b _ h hm

theorem quoQ_mono (a c b rule : Int) (h : a ≤ c) (h1 : quoE a b rule = 0) (h2 : quoE c b rule = 0) : quoQ a b rule ≤ quoQ c b rule := by
  obtain ⟨hr, a0, a1, b0, b1⟩ := quoE_zero h1
  have e1 := Int.emod_add_mul_ediv a b
  have e2 := Int.emod_add_mul_ediv c b
  have m0 := Int.emod_nonneg a (show b ≠ 0 by omega)
  have m1 := Int.emod_lt_of_pos a (show 0 < b by omega)
  have m2 := Int.emod_nonneg c (show b ≠ 0 by omega)
  have m3 := Int.emod_lt_of_pos c (show 0 < b by omega)
  have hle : a / b ≤ c / b := Int.ediv_le_ediv (by omega) h
  unfold quoQ
  rw [if_pos h1, if_pos h2]
  generalize a / b = q at *
  generalize a % b = r at *
  generalize c / b = q' at *
  generalize c % b = r' at *
  have o1 := roundQ_or rule q r b ⟨m0, m1⟩
  have o2 := roundQ_or rule q' r' b ⟨m2, m3⟩
  by_cases hlt : q < q'
  · omega
  · obtain rfl : q = q' := by omega
    unfold roundQ
    cases hm : moreB rule q r b with
    | false => simp only [Bool.false_eq_true, if_false]; split <;> omega
    | true => rw [moreB_mono rule q r r' b hr (by omega) hm]; exact Int.le_refl _

/-- how the rules compare -/
theorem quoQ_rules (a b rule : Int) (h : quoE a b rule = 0) :
    quoQ a b 1 ≤ quoQ a b rule ∧ quoQ a b rule ≤ quoQ a b 2 ∧ quoQ a b 2 - quoQ a b 1 ≤ 1 ∧ quoQ (-a) b 2 = -quoQ a b 1 ∧ quoE (-a) b 2 = 0 := by
  have g1 := quoE_rule h 1 (by omega)
  have g2 := quoE_rule h 2 (by omega)
  obtain ⟨hr, a0, a1, b0, b1⟩ := quoE_zero h
  have g3 : quoE (-a) b 2 = 0 := by
    unfold quoE; rw [(isRuleB_iff 2).2 (by omega), if_pos rfl, if_pos ⟨by omega, by omega, (isDivB_iff b).2 ⟨b0, b1⟩⟩]
  have n1 := near_of a b 1 g1
  have n3 := near_of (-a) b 2 g3
  have m0 := Int.emod_nonneg a (show b ≠ 0 by omega)
  have m1 := Int.emod_lt_of_pos a (show 0 < b by omega)
  have o := roundQ_or rule (a / b) (a % b) b ⟨m0, m1⟩
  have f1 : quoQ a b 1 = a / b := by unfold quoQ; rw [if_pos g1]; rfl
  have f2 : quoQ a b 2 = if 0 < a % b then a / b + 1 else a / b := by
    unfold quoQ; rw [if_pos g2]
    have e : moreB 2 (a / b) (a % b) b = decide (0 < a % b) := rfl
    unfold roundQ; rw [e]
    simp
  have f3 : quoQ a b rule = roundQ rule (a / b) (a % b) b := by unfold quoQ; rw [if_pos h]
  refine ⟨?_, ?_, ?_, ?_, g3⟩
  · rw [f1, f3]; omega
  · rw [f2, f3]; split <;> omega
  · rw [f1, f2]; split <;> omega
  · have s1 := n1.sum
    have s3 := n3.sum
    have d1 := n1.down rfl
    have d3 := n3.up rfl
    have l1 := n1.hi
    have l3 := n3.lo
    have := mul_small (quoQ (-a) b 2 + quoQ a b 1) b (quoR (-a) b 2 + quoR a b 1) (by rw [Int.add_mul]; omega) (by omega) (by omega)
    omega

/-- a multiple of the step stays -/
theorem quoQ_again (k b rule : Int) (h : quoE (k * b) b rule = 0) : quoQ (k * b) b rule = k := by
  have n := near_of (k * b) b rule h
  have s := n.sum
  have lo := n.lo
  have hi := n.hi
  generalize quoQ (k * b) b rule = q at *
  generalize quoR (k * b) b rule = r at *
  have := mul_small (q - k) b r (by rw [Int.sub_mul]; omega) lo hi
  omega

theorem quoE_cases (a b rule : Int) (hb : 1 ≤ b ∧ b ≤ 128849018880000) :
    quoE a b rule = 0 ∨ (quoE a b rule = 1 ∧ (rule < 1 ∨ 4 < rule)) ∨ (quoE a b rule = 2 ∧ (128849018880000 < a ∨ a < -128849018880000)) := by
  unfold quoE
  cases hr : isRuleB rule with
  | false =>
    right; left
    refine ⟨rfl, ?_⟩
    have : ¬ (1 ≤ rule ∧ rule ≤ 4) := fun h => by rw [(isRuleB_iff rule).2 h] at hr; cases hr
    omega
  | true =>
    rw [if_pos rfl]
    by_cases hg : -128849018880000 ≤ a ∧ a ≤ 128849018880000 ∧ isDivB b = true
    · rw [if_pos hg]; exact .inl rfl
    · rw [if_neg hg]
      rw [isDivB_iff] at hg
      exact .inr (.inr ⟨rfl, by omega⟩)

/-! ### totals -/
theorem near_sums (l : List Int) (b rule : Int) (h : ∀ x ∈ l, quoE x b rule = 0) : (l.map fun x => quoQ x b rule).sum * b + (l.map fun x => quoR x b rule).sum = l.sum := by
  induction l with
  | nil => simp
  | cons x l ih =>
    have := (near_of x b rule (h x (by simp))).sum
    have i := ih (fun y hy => h y (by simp [hy]))
    simp only [List.map_cons, List.sum_cons]
    rw [Int.add_mul]; omega
theorem rests_sign (l : List Int) (b rule : Int) (h : ∀ x ∈ l, quoE x b rule = 0) :
    (rule = 1 → 0 ≤ (l.map fun x => quoR x b rule).sum) ∧ (rule = 2 → (l.map fun x => quoR x b rule).sum ≤ 0) := by
  induction l with
  | nil => simp
  | cons x l ih =>
    have n := near_of x b rule (h x (by simp))
    have i := ih (fun y hy => h y (by simp [hy]))
    have n1 := n.down
    have n2 := n.up
    simp only [List.map_cons, List.sum_cons]
    exact ⟨fun e => by have := n1 e; have := i.1 e; omega, fun e => by have := n2 e; have := i.2 e; omega⟩

end Go.Proofs.YtdpkochkpcjioabDoor

