/- Rounded quotients of any numbers, as ratios: scaling, order, nearness. -/
import Derived.Test.YtdpkochkpcjioabDoorMath3
namespace Go.Proofs.YtdpkochkpcjioabDoor

/-- n divided by b, rounded by a rule -/
def rq (rule n b : Int) : Int := roundQ rule (n / b) (n % b) b

theorem scale_div (n b k : Int) (hb : 0 < b) (hk : 0 < k) : n * k / (b * k) = n / b ∧ n * k % (b * k) = n % b * k := by
  have e1 : n * k / (b * k) = n / b := Int.mul_ediv_mul_of_pos_left n b hk
  refine ⟨e1, ?_⟩
  have h1 := Int.emod_add_mul_ediv (n * k) (b * k)
  have h2 := Int.emod_add_mul_ediv n b
  rw [e1] at h1
  have h3 : (n % b + b * (n / b)) * k = n * k := by rw [h2]
  rw [Int.add_mul] at h3
  have h4 : b * (n / b) * k = b * k * (n / b) := by rw [Int.mul_assoc, Int.mul_comm (n / b) k, ← Int.mul_assoc]
  rw [h4] at h3
  omega
theorem nearB_scale (r b k : Int) (t : Bool) (hk : 0 < k) : nearB (r * k) (b * k) t = nearB r b t := by
  have e : b * k - r * k = (b - r) * k := (Int.sub_mul b r k).symm
  unfold nearB
  rw [e]
  have h1 : decide ((b - r) * k < r * k) = decide (b - r < r) := by
    by_cases h : b - r < r
    · rw [decide_eq_true h, decide_eq_true (Int.mul_lt_mul_of_pos_right h hk)]
    · rw [decide_eq_false h, decide_eq_false (by
        have := Int.mul_le_mul_of_nonneg_right (show r ≤ b - r by omega) (show 0 ≤ k by omega)
        omega)]
  have h2 : decide ((b - r) * k = r * k) = decide (b - r = r) := by
    by_cases h : b - r = r
    · rw [decide_eq_true h, decide_eq_true (by rw [h])]
    · rw [decide_eq_false h, decide_eq_false (fun hc => h (Int.eq_of_mul_eq_mul_right (by omega) hc))]
  rw [h1, h2]
theorem moreB_scale (rule q r b k : Int) (h0 : 1 ≤ rule ∧ rule ≤ 4) (hk : 0 < k) : moreB rule q (r * k) (b * k) = moreB rule q r b := by
  have hr : rule = 1 ∨ rule = 2 ∨ rule = 3 ∨ rule = 4 := by omega
  rcases hr with rfl | rfl | rfl | rfl
  · rfl
  · show decide (0 < r * k) = decide (0 < r)
    by_cases h : 0 < r
    · rw [decide_eq_true h, decide_eq_true (Int.mul_pos h hk)]
    · rw [decide_eq_false h, decide_eq_false (by
        have := Int.mul_le_mul_of_nonneg_right (show r ≤ 0 by omega) (show 0 ≤ k by omega)
        omega)]
  · exact nearB_scale r b k _ hk
  · exact nearB_scale r b k _ hk
theorem rq_scale (rule n b k : Int) (h0 : 1 ≤ rule ∧ rule ≤ 4) (hb : 0 < b) (hk : 0 < k) : rq rule (n * k) (b * k) = rq rule n b := by
  obtain ⟨e1, e2⟩ := scale_div n b k hb hk
  unfold rq roundQ
  rw [e1, e2, moreB_scale rule _ _ b k h0 hk]
theorem rq_mono1 (rule a c b : Int) (hr : 1 ≤ rule ∧ rule ≤ 4) (hb : 0 < b) (h : a ≤ c) : rq rule a b ≤ rq rule c b := by
  have e1 := Int.emod_add_mul_ediv a b
  have e2 := Int.emod_add_mul_ediv c b
  have m0 := Int.emod_nonneg a (show b ≠ 0 by omega)
  have m1 := Int.emod_lt_of_pos a hb
  have m2 := Int.emod_nonneg c (show b ≠ 0 by omega)
  have m3 := Int.emod_lt_of_pos c hb
  have hle : a / b ≤ c / b := Int.ediv_le_ediv hb h
  unfold rq
  generalize a / b = q at *
  generalize a % b = r at *
  generalize c / b = q' at *
  generalize c % b = r' at *
  have o1 := roundQ_or rule q r b ⟨m0, m1⟩
  have o2 := roundQ_or rule q' r' b ⟨m2, m3⟩
  by_cases hlt : q < q'
  · omega
  · obtain rfl : q = q' := by omega
    unfold roundQ
    cases hm : moreB rule q r b with
    | false => simp only [Bool.false_eq_true, if_false]; split <;> omega
    | true => rw [moreB_mono rule q r r' b hr (by omega) hm]; exact Int.le_refl _
/-- m / b ≤ n / c as ratios -/
theorem rq_mono (rule m b n c : Int) (hr : 1 ≤ rule ∧ rule ≤ 4) (hb : 0 < b) (hc : 0 < c) (h : m * c ≤ n * b) : rq rule m b ≤ rq rule n c := by
  rw [← rq_scale rule m b c hr hb hc, ← rq_scale rule n c b hr hc hb, Int.mul_comm c b]
  exact rq_mono1 rule _ _ _ hr (Int.mul_pos hb hc) h
theorem rq_near (rule n b : Int) (hb : 0 < b) : -b < rq rule n b * b - n ∧ rq rule n b * b - n < b := by
  have e := Int.emod_add_mul_ediv n b
  have m0 := Int.emod_nonneg n (show b ≠ 0 by omega)
  have m1 := Int.emod_lt_of_pos n hb
  rw [Int.mul_comm b] at e
  unfold rq
  rcases roundQ_or rule (n / b) (n % b) b ⟨m0, m1⟩ with h | ⟨h1, h⟩
  · rw [h]; omega
  · rw [h, Int.add_mul]; omega
theorem rq_rules (rule n b : Int) (hb : 0 < b) : rq 1 n b ≤ rq rule n b ∧ rq rule n b ≤ rq 2 n b := by
  have m0 := Int.emod_nonneg n (show b ≠ 0 by omega)
  have m1 := Int.emod_lt_of_pos n hb
  have e1 : rq 1 n b = n / b := by unfold rq roundQ; rw [show moreB 1 (n / b) (n % b) b = false from rfl]; rfl
  have e2 : rq 2 n b = if 0 < n % b then n / b + 1 else n / b := by
    unfold rq roundQ
    rw [show moreB 2 (n / b) (n % b) b = decide (0 < n % b) from rfl]
    by_cases h : 0 < n % b
    · rw [decide_eq_true h, if_pos rfl, if_pos h]
    · rw [decide_eq_false h, if_neg (by simp), if_neg h]
  rw [e1, e2]
  unfold rq
  rcases roundQ_or rule (n / b) (n % b) b ⟨m0, m1⟩ with h | ⟨h1, h⟩
  · rw [h]; split <;> omega
  · rw [h, if_pos h1]; omega
theorem rq_exact (rule k b : Int) (hb : 0 < b) : rq rule (k * b) b = k := by
  obtain ⟨h1, h2⟩ := rq_near rule (k * b) b hb
  have h3 := mul_small (rq rule (k * b) b - k) b (-(rq rule (k * b) b * b - k * b)) (by rw [Int.sub_mul]; omega) (by omega) (by omega)
  omega
theorem rq_nonneg (rule n b : Int) (hr : 1 ≤ rule ∧ rule ≤ 4) (hb : 0 < b) (h : 0 ≤ n) : 0 ≤ rq rule n b := by
  have := rq_mono1 rule (0 * b) n b hr hb (by omega)
  rw [rq_exact rule 0 b hb] at this
  exact this
theorem rq_floor (rule n b : Int) (hb : 0 < b) : n / b ≤ rq rule n b := by
  have m0 := Int.emod_nonneg n (show b ≠ 0 by omega)
  have m1 := Int.emod_lt_of_pos n hb
  unfold rq
  rcases roundQ_or rule (n / b) (n % b) b ⟨m0, m1⟩ with h | ⟨_, h⟩ <;> rw [h] <;> omega

/-- Product, as a rounded ratio -/
theorem prod_is (a b c rule : Int) (hr : 1 ≤ rule ∧ rule ≤ 4) (ha : isAm a = true) (hb : isAm b = true) (hc1 : 1 ≤ c) (hc2 : c ≤ 128849018880000) :
    prodE a b c rule = (if rq rule (a * b) c ≤ 128849018880000 then 0 else 15) ∧ prodQ a b c rule = (if rq rule (a * b) c ≤ 128849018880000 then rq rule (a * b) c else 0) := by
  have hc : isAm c = true := (isAm_iff c).2 ⟨by omega, hc2⟩
  have hE : ofE a b c = if a * b / c ≤ 128849018880000 then 0 else 15 := by
    unfold ofE
    rw [ha, hb, hc]
    simp only [Bool.and_self, if_true]
    rw [if_neg (by omega)]
  have hfl := rq_floor rule (a * b) c (by omega)
  have key : prodE a b c rule = (if rq rule (a * b) c ≤ 128849018880000 then 0 else 15) := by
    unfold prodE
    rw [(isRuleB_iff rule).2 hr, if_pos rfl, hE]
    by_cases h : a * b / c ≤ 128849018880000
    · rw [if_pos h, if_pos rfl]
      have h0 : ofE a b c = 0 := by rw [hE, if_pos h]
      obtain ⟨_, _, _, _, e1, e2, _⟩ := ofE_zero h0
      rw [e1, e2]; rfl
    · rw [if_neg h, if_neg (by omega), if_neg (by omega)]
  refine ⟨key, ?_⟩
  unfold prodQ
  rw [key]
  by_cases h : rq rule (a * b) c ≤ 128849018880000
  · rw [if_pos h, if_pos rfl, if_pos h]
    have hq : a * b / c ≤ 128849018880000 := by omega
    have h0 : ofE a b c = 0 := by rw [hE, if_pos hq]
    obtain ⟨_, _, _, _, e1, e2, _⟩ := ofE_zero h0
    rw [e1, e2]; rfl
  · rw [if_neg h, if_neg (by omega), if_neg h]
end Go.Proofs.YtdpkochkpcjioabDoor

