/- Package rounding: Quotient, Step, Product. -/
import Derived.Test.YtdpkochkpcjioabDoorRnd
import Derived.RegionTactic
import Derived.ChangeAlike
namespace Go.Proofs.YtdpkochkpcjioabDoor
open Go.RowKit

def roundQ (rule q r b : Int) : Int := if moreB rule q r b then q + 1 else q
def roundR (rule q r b : Int) : Int := if moreB rule q r b then r - b else r
def isRuleB (rule : Int) : Bool := decide (1 ≤ rule) && decide (rule ≤ 4)
def isDivB (b : Int) : Bool := decide (1 ≤ b) && decide (b ≤ 128849018880000)
theorem isRuleB_iff (n : Int) : isRuleB n = true ↔ 1 ≤ n ∧ n ≤ 4 := by simp [isRuleB]
theorem isDivB_iff (n : Int) : isDivB n = true ↔ 1 ≤ n ∧ n ≤ 128849018880000 := by simp [isDivB]

theorem round_any (rule q r b : Int) (w : World) (h1 : 1 ≤ rule) (h2 : rule ≤ 4) (q0 : -9223372036854775808 ≤ q) (q1 : q < 9223372036854775807) (hr0 : 0 ≤ r) (hb1 : b ≤ 9223372036854775807) (hlt : r < b) :
    Calls Tryd.prog 101 #[dvn q r b, .int .i64 rule] w fun e w' => e = .returned (.tuple #[.int .i64 (roundQ rule q r b), .int .i64 (roundR rule q r b)]) ∧ Below w.heap.size w w' := by
  have h : rule = 1 ∨ rule = 2 ∨ rule = 3 ∨ rule = 4 := by omega
  rcases h with rfl | rfl | rfl | rfl
  · have e : moreB 1 q r b = false := rfl
    unfold roundQ roundR; rw [e]
    exact round1_false q r b w q0 q1 hr0 hb1 hlt rfl
  · have e : moreB 2 q r b = decide (0 < r) := rfl
    unfold roundQ roundR; rw [e]
    cases ht : decide (0 < r) with
    | true => exact round2_true q r b w q0 q1 hr0 hb1 hlt ht
    | false => exact round2_false q r b w q0 q1 hr0 hb1 hlt ht
  · have e : moreB 3 q r b = nearB r b true := rfl
    unfold roundQ roundR; rw [e]
    cases ht : nearB r b true with
    | true => exact round3_true q r b w q0 q1 hr0 hb1 hlt ht
    | false => exact round3_false q r b w q0 q1 hr0 hb1 hlt ht
  · have e : moreB 4 q r b = nearB r b (q.tmod 2 != 0) := rfl
    unfold roundQ roundR; rw [e]
    cases ht : nearB r b (q.tmod 2 != 0) with
    | true => exact round4_true q r b w q0 q1 hr0 hb1 hlt ht
    | false => exact round4_false q r b w q0 q1 hr0 hb1 hlt ht

theorem isRule_any (n : Int) (w : World) :
    Calls Tryd.prog 99 #[.int .i64 n] w fun e w' => e = .returned (.bool (isRuleB n)) ∧ w = w' := by
  go_enter Tryd.func99, Tryd.ntmps99
  go_wp2
  all_goals go_ret
  all_goals (refine ⟨ret_bool ?_, rfl⟩; unfold isRuleB; grind)
/-- Go's division towards 0, turned into the one down -/
theorem tdiv_down (a b : Int) (hb : 0 < b) : -b < a.tmod b ∧ a.tmod b < b ∧
    ((0 ≤ a.tmod b ∧ a.tdiv b = a / b ∧ a.tmod b = a % b) ∨ (a.tmod b < 0 ∧ a.tdiv b - 1 = a / b ∧ a.tmod b + b = a % b)) := by
  have e := Int.tmod_add_mul_tdiv a b
  have lt := Int.tmod_lt_of_pos a hb
  have gt : -b < a.tmod b := by
    have := Int.tmod_lt_of_pos (-a) hb
    rw [Int.neg_tmod] at this; omega
  refine ⟨gt, lt, ?_⟩
  by_cases h : 0 ≤ a.tmod b
  · left
    have u := (Int.ediv_emod_unique (a := a) (b := b) (r := a.tmod b) (q := a.tdiv b) hb).2 ⟨e, h, lt⟩
    exact ⟨h, u.1.symm, u.2.symm⟩
  · right
    have u := (Int.ediv_emod_unique (a := a) (b := b) (r := a.tmod b + b) (q := a.tdiv b - 1) hb).2 ⟨by rw [Int.mul_sub]; omega, by omega, by omega⟩
    exact ⟨by omega, u.1.symm, u.2.symm⟩

theorem div_bd (a b : Int) (hb : 1 ≤ b) (h0 : -128849018880000 ≤ a) (h1 : a ≤ 128849018880000) : -128849018880000 ≤ a / b ∧ a / b ≤ 128849018880000 := by
  constructor
  · apply Int.le_ediv_of_mul_le (by omega)
    omega
  · have : a / b < 128849018880001 := by
      apply Int.ediv_lt_of_lt_mul (by omega)
      omega
    omega

/-- what Quotient returns -/
def quoE (a b rule : Int) : Int := if isRuleB rule then (if -128849018880000 ≤ a ∧ a ≤ 128849018880000 ∧ isDivB b = true then 0 else 2) else 1
def quoQ (a b rule : Int) : Int := if quoE a b rule = 0 then roundQ rule (a / b) (a % b) b else 0
def quoR (a b rule : Int) : Int := if quoE a b rule = 0 then roundR rule (a / b) (a % b) b else 0

theorem quoE_zero {a b rule : Int} (h : quoE a b rule = 0) : (1 ≤ rule ∧ rule ≤ 4) ∧ -128849018880000 ≤ a ∧ a ≤ 128849018880000 ∧ 1 ≤ b ∧ b ≤ 128849018880000 := by
  unfold quoE at h
  split at h
  · rename_i h1
    split at h
    · rename_i h2
      have := (isRuleB_iff rule).1 h1
      have := (isDivB_iff b).1 h2.2.2
      omega
    · omega
  · omega

theorem moreB_bd (rule q r b : Int) (hr0 : 0 ≤ r) (hlt : r < b) (h : moreB rule q r b = true) : 0 < r := by
  unfold moreB nearB at h
  split at h
  · cases h
  · split at h
    · simpa using h
    · split at h
      · simp at h; omega
      · simp at h; omega

theorem quo_bd (a b rule : Int) : -128849018880001 ≤ quoQ a b rule ∧ quoQ a b rule ≤ 128849018880001 ∧ -128849018880000 ≤ quoR a b rule ∧ quoR a b rule ≤ 128849018880000 := by
  unfold quoQ quoR
  by_cases h : quoE a b rule = 0
  · rw [if_pos h, if_pos h]
    obtain ⟨⟨r0, r1⟩, a0, a1, b0, b1⟩ := quoE_zero h
    have bd := div_bd a b b0 a0 a1
    have m0 := Int.emod_nonneg a (show b ≠ 0 by omega)
    have m1 := Int.emod_lt_of_pos a (show 0 < b by omega)
    unfold roundQ roundR
    split <;> omega
  · rw [if_neg h, if_neg h]; omega

/-- a quotient times its divisor is no more than twice an amount -/
theorem quo_mul (a b rule : Int) : -257698037760000 ≤ quoQ a b rule * b ∧ quoQ a b rule * b ≤ 257698037760000 := by
  unfold quoQ
  by_cases h : quoE a b rule = 0
  · rw [if_pos h]
    obtain ⟨⟨r0, r1⟩, a0, a1, b0, b1⟩ := quoE_zero h
    have m0 := Int.emod_nonneg a (show b ≠ 0 by omega)
    have m1 := Int.emod_lt_of_pos a (show 0 < b by omega)
    have e := Int.emod_add_mul_ediv a b
    rw [Int.mul_comm] at e
    unfold roundQ
    split
    · rw [Int.add_mul]; omega
    · omega
  · rw [if_neg h]; omega


/-- what Product returns -/
def prodE (a b c rule : Int) : Int :=
  if isRuleB rule then (if ofE a b c = 0 then (if roundQ rule (ofQ a b c) (ofR a b c) c ≤ 128849018880000 then 0 else 15) else ofE a b c) else 1
def prodQ (a b c rule : Int) : Int := if prodE a b c rule = 0 then roundQ rule (ofQ a b c) (ofR a b c) c else 0

theorem product_rule (a b c rule : Int) (w : World) (hr : Hid (isRuleB rule = false)) :
    Calls Tryd.prog 90 #[.int .i64 a, .int .i64 b, .int .i64 c, .int .i64 rule] w fun e w' => e = .returned (.tuple #[.int .i64 0, .int .i64 1]) ∧ Below w.heap.size w w' := by
  go_enter Tryd.func90, Tryd.ntmps90
  go_wp2_with (go_at_call 99; refine (isRule_any _ _).mono ?_; rw [hr.out]; rintro e w' ⟨rfl, rfl⟩)
  go_returns
  exact ⟨rfl, Below.refl _ _⟩
theorem product_err (a b c rule x : Int) (w : World) (hr : Hid (isRuleB rule = true)) (hx : (x != 0) = true) (q r : Int)
    (HOf : Hid (∀ W, Calls Tryd.prog 100 #[.int .i64 a, .int .i64 b, .int .i64 c] W fun e w' => e = .returned (.tuple #[.int .i64 q, .int .i64 r, .int .i64 x]) ∧ Below W.heap.size W w')) :
    Calls Tryd.prog 90 #[.int .i64 a, .int .i64 b, .int .i64 c, .int .i64 rule] w fun e w' => e = .returned (.tuple #[.int .i64 0, .int .i64 x]) ∧ Below w.heap.size w w' := by
  go_enter Tryd.func90, Tryd.ntmps90
  go_wp2_with (go_at_call 99; refine (isRule_any _ _).mono ?_; rw [hr.out]; rintro e w' ⟨rfl, rfl⟩)
  refine (HOf.out _).mono ?_
  rintro e w1 ⟨rfl, hb⟩
  have HB := Lib.hid hb; clear hb
  go_wp2
  go_returns
  exact ⟨rfl, HB.out⟩
theorem product_ok (a b c rule q r Q R : Int) (w : World) (hr : Hid (isRuleB rule = true)) (hq : Q ≤ 128849018880000)
    (HOf : Hid (∀ W, Calls Tryd.prog 100 #[.int .i64 a, .int .i64 b, .int .i64 c] W fun e w' => e = .returned (.tuple #[.int .i64 q, .int .i64 r, .int .i64 0]) ∧ Below W.heap.size W w'))
    (HR : Hid (∀ W, Calls Tryd.prog 101 #[dvn q r c, .int .i64 rule] W fun e w' => e = .returned (.tuple #[.int .i64 Q, .int .i64 R]) ∧ Below W.heap.size W w')) :
    Calls Tryd.prog 90 #[.int .i64 a, .int .i64 b, .int .i64 c, .int .i64 rule] w fun e w' => e = .returned (.tuple #[.int .i64 Q, .int .i64 0]) ∧ Below w.heap.size w w' := by
  go_enter Tryd.func90, Tryd.ntmps90
  go_wp2_with (go_at_call 99; refine (isRule_any _ _).mono ?_; rw [hr.out]; rintro e w' ⟨rfl, rfl⟩)
  refine (HOf.out _).mono ?_
  rintro e w1 ⟨rfl, hb⟩
  have HB := Lib.hid hb; clear hb
  go_wp2_with fail
  refine (HR.out _).mono ?_
  rintro e w2 ⟨rfl, hb⟩
  replace HB := Lib.hid (bel_trans HB.out hb); clear hb
  go_wp2
  go_returns
  exact ⟨rfl, HB.out⟩
theorem product_limit (a b c rule q r Q R : Int) (w : World) (hr : Hid (isRuleB rule = true)) (hq : 128849018880000 < Q)
    (HOf : Hid (∀ W, Calls Tryd.prog 100 #[.int .i64 a, .int .i64 b, .int .i64 c] W fun e w' => e = .returned (.tuple #[.int .i64 q, .int .i64 r, .int .i64 0]) ∧ Below W.heap.size W w'))
    (HR : Hid (∀ W, Calls Tryd.prog 101 #[dvn q r c, .int .i64 rule] W fun e w' => e = .returned (.tuple #[.int .i64 Q, .int .i64 R]) ∧ Below W.heap.size W w')) :
    Calls Tryd.prog 90 #[.int .i64 a, .int .i64 b, .int .i64 c, .int .i64 rule] w fun e w' => e = .returned (.tuple #[.int .i64 0, .int .i64 15]) ∧ Below w.heap.size w w' := by
  go_enter Tryd.func90, Tryd.ntmps90
  go_wp2_with (go_at_call 99; refine (isRule_any _ _).mono ?_; rw [hr.out]; rintro e w' ⟨rfl, rfl⟩)
  refine (HOf.out _).mono ?_
  rintro e w1 ⟨rfl, hb⟩
  have HB := Lib.hid hb; clear hb
  go_wp2_with fail
  refine (HR.out _).mono ?_
  rintro e w2 ⟨rfl, hb⟩
  replace HB := Lib.hid (bel_trans HB.out hb); clear hb
  go_wp2
  go_returns
  exact ⟨rfl, HB.out⟩

theorem ofE_zero {a b c : Int} (h : ofE a b c = 0) : (0 ≤ a ∧ a ≤ 128849018880000) ∧ (0 ≤ b ∧ b ≤ 128849018880000) ∧ 1 ≤ c ∧ c ≤ 128849018880000 ∧ ofQ a b c = a * b / c ∧ ofR a b c = a * b % c ∧ 0 ≤ a * b / c ∧ a * b / c ≤ 128849018880000 ∧ 0 ≤ a * b % c ∧ a * b % c < c := by
  have e1 : ofQ a b c = a * b / c := by unfold ofQ; rw [if_pos h]
  have e2 : ofR a b c = a * b % c := by unfold ofR; rw [if_pos h]
  unfold ofE at h
  split at h
  · rename_i h1
    simp only [Bool.and_eq_true, isAm_iff] at h1
    split at h
    · omega
    · split at h
      · rename_i hc hq
        exact ⟨h1.1.1, h1.1.2, by omega, by omega, e1, e2, Int.ediv_nonneg (Int.mul_nonneg h1.1.1.1 h1.1.2.1) h1.2.1, hq, Int.emod_nonneg _ hc, Int.emod_lt_of_pos _ (by omega)⟩
      · omega
  · omega

theorem product_any (a b c rule : Int) (w : World) :
    Calls Tryd.prog 90 #[.int .i64 a, .int .i64 b, .int .i64 c, .int .i64 rule] w fun e w' => e = .returned (.tuple #[.int .i64 (prodQ a b c rule), .int .i64 (prodE a b c rule)]) ∧ Below w.heap.size w w' := by
  unfold prodQ
  cases hr : isRuleB rule with
  | false =>
    have e : prodE a b c rule = 1 := by unfold prodE; rw [hr]; rfl
    rw [e]; exact product_rule a b c rule w hr
  | true =>
    by_cases ho : ofE a b c = 0
    · obtain ⟨r0, r1⟩ := (isRuleB_iff rule).1 hr
      obtain ⟨p1, p2, p3, p4, p5, p6, p7, p8, p9, p10⟩ := ofE_zero ho
      have HR : ∀ W, Calls Tryd.prog 101 #[dvn (ofQ a b c) (ofR a b c) c, .int .i64 rule] W fun e w' => e = .returned (.tuple #[.int .i64 (roundQ rule (ofQ a b c) (ofR a b c) c), .int .i64 (roundR rule (ofQ a b c) (ofR a b c) c)]) ∧ Below W.heap.size W w' :=
        fun W => round_any rule _ _ c W r0 r1 (by omega) (by omega) (by omega) (by omega) (by omega)
      have HO : ∀ W, Calls Tryd.prog 100 #[.int .i64 a, .int .i64 b, .int .i64 c] W fun e w' => e = .returned (.tuple #[.int .i64 (ofQ a b c), .int .i64 (ofR a b c), .int .i64 0]) ∧ Below W.heap.size W w' :=
        fun W => by have := of_any a b c W; rwa [ho] at this
      by_cases hq : roundQ rule (ofQ a b c) (ofR a b c) c ≤ 128849018880000
      · have e : prodE a b c rule = 0 := by unfold prodE; rw [hr, if_pos rfl, if_pos ho, if_pos hq]
        rw [e]; exact product_ok a b c rule _ _ _ _ w hr hq HO HR
      · have e : prodE a b c rule = 15 := by unfold prodE; rw [hr, if_pos rfl, if_pos ho, if_neg hq]
        rw [e]; exact product_limit a b c rule _ _ _ _ w hr (by omega) HO HR
    · have e : prodE a b c rule = ofE a b c := by unfold prodE; rw [hr, if_pos rfl, if_neg ho]
      rw [e, if_neg ho]; exact product_err a b c rule _ w hr (bneq ho) _ _ (fun W => of_any a b c W)

end Go.Proofs.YtdpkochkpcjioabDoor

