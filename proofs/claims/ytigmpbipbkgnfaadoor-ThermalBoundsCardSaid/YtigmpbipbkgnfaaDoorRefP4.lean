/- The reference of layer 2: Product. -/
import Derived.Test.YtigmpbipbkgnfaaDoorRefP3
import Derived.Test.YtigmpbipbkgnfaaDoorRefR
namespace Go.Proofs.YtigmpbipbkgnfaaDoor
open Go.RowKit

theorem refProduct_rule (a b c rule : Int) (w : World) (hr : Hid (isRuleB rule = false)) :
    Calls Tryd.prog 30 #[.int .i64 a, .int .i64 b, .int .i64 c, .int .i64 rule] w fun e w' => e = .returned (.tuple #[.int .i64 0, .int .i64 1]) ∧ Below w.heap.size w w' := by
  go_enter Tryd.func30, Tryd.ntmps30
  go_wp2_with (go_at_call 35; refine (refIs_any _ _).mono ?_; rw [hr.out]; rintro e w' ⟨rfl, hw⟩; subst hw)
  go_returns
  exact ⟨rfl, Below.refl _ _⟩
theorem refProduct_err (a b c rule x : Int) (w : World) (hr : Hid (isRuleB rule = true)) (hx : (x != 0) = true) (q r : Int)
    (HOf : Hid (∀ W, Calls Tryd.prog 41 #[.int .i64 a, .int .i64 b, .int .i64 c] W fun e w' => e = .returned (.tuple #[.int .i64 q, .int .i64 r, .int .i64 x]) ∧ Below W.heap.size W w')) :
    Calls Tryd.prog 30 #[.int .i64 a, .int .i64 b, .int .i64 c, .int .i64 rule] w fun e w' => e = .returned (.tuple #[.int .i64 0, .int .i64 x]) ∧ Below w.heap.size w w' := by
  go_enter Tryd.func30, Tryd.ntmps30
  go_wp2_with (go_at_call 35; refine (refIs_any _ _).mono ?_; rw [hr.out]; rintro e w' ⟨rfl, hw⟩; subst hw)
  refine (HOf.out _).mono ?_
  rintro e w1 ⟨rfl, hb⟩
  have HB := Lib.hid hb; clear hb
  go_wp2
  go_returns
  exact ⟨rfl, HB.out⟩
theorem refProduct_ok (a b c rule q r Q : Int) (w : World) (hr : Hid (isRuleB rule = true)) (hq : Q ≤ 128849018880000)
    (HOf : Hid (∀ W, Calls Tryd.prog 41 #[.int .i64 a, .int .i64 b, .int .i64 c] W fun e w' => e = .returned (.tuple #[.int .i64 q, .int .i64 r, .int .i64 0]) ∧ Below W.heap.size W w'))
    (HR : Hid (∀ W, Calls Tryd.prog 42 #[.int .i64 q, .int .i64 r, .int .i64 c, .int .i64 rule] W fun e w' => e = .returned (.int .i64 Q) ∧ W = w')) :
    Calls Tryd.prog 30 #[.int .i64 a, .int .i64 b, .int .i64 c, .int .i64 rule] w fun e w' => e = .returned (.tuple #[.int .i64 Q, .int .i64 0]) ∧ Below w.heap.size w w' := by
  go_enter Tryd.func30, Tryd.ntmps30
  go_wp2_with (go_at_call 35; refine (refIs_any _ _).mono ?_; rw [hr.out]; rintro e w' ⟨rfl, hw⟩; subst hw)
  refine (HOf.out _).mono ?_
  rintro e w1 ⟨rfl, hb⟩
  have HB := Lib.hid hb; clear hb
  go_wp2_with fail
  refine (HR.out _).mono ?_
  rintro e w2 ⟨rfl, hw⟩
  subst hw
  go_wp2
  go_returns
  exact ⟨rfl, HB.out⟩
theorem refProduct_limit (a b c rule q r Q : Int) (w : World) (hr : Hid (isRuleB rule = true)) (hq : 128849018880000 < Q)
    (HOf : Hid (∀ W, Calls Tryd.prog 41 #[.int .i64 a, .int .i64 b, .int .i64 c] W fun e w' => e = .returned (.tuple #[.int .i64 q, .int .i64 r, .int .i64 0]) ∧ Below W.heap.size W w'))
    (HR : Hid (∀ W, Calls Tryd.prog 42 #[.int .i64 q, .int .i64 r, .int .i64 c, .int .i64 rule] W fun e w' => e = .returned (.int .i64 Q) ∧ W = w')) :
    Calls Tryd.prog 30 #[.int .i64 a, .int .i64 b, .int .i64 c, .int .i64 rule] w fun e w' => e = .returned (.tuple #[.int .i64 0, .int .i64 15]) ∧ Below w.heap.size w w' := by
  go_enter Tryd.func30, Tryd.ntmps30
  go_wp2_with (go_at_call 35; refine (refIs_any _ _).mono ?_; rw [hr.out]; rintro e w' ⟨rfl, hw⟩; subst hw)
  refine (HOf.out _).mono ?_
  rintro e w1 ⟨rfl, hb⟩
  have HB := Lib.hid hb; clear hb
  go_wp2_with fail
  refine (HR.out _).mono ?_
  rintro e w2 ⟨rfl, hw⟩
  subst hw
  go_wp2
  go_returns
  exact ⟨rfl, HB.out⟩

theorem refProduct_any (a b c rule : Int) (w : World) :
    Calls Tryd.prog 30 #[.int .i64 a, .int .i64 b, .int .i64 c, .int .i64 rule] w fun e w' => e = .returned (.tuple #[.int .i64 (prodQ a b c rule), .int .i64 (prodE a b c rule)]) ∧ Below w.heap.size w w' := by
  unfold prodQ
  cases hr : isRuleB rule with
  | false =>
    have e : prodE a b c rule = 1 := by unfold prodE; rw [hr]; rfl
    rw [e]; exact refProduct_rule a b c rule w hr
  | true =>
    by_cases ho : ofE a b c = 0
    · have hrr := (isRuleB_iff rule).1 hr
      obtain ⟨p1, p2, p3, p4, p5, p6, p7, p8, p9, p10⟩ := ofE_zero ho
      have HR : ∀ W, Calls Tryd.prog 42 #[.int .i64 (ofQ a b c), .int .i64 (ofR a b c), .int .i64 c, .int .i64 rule] W fun e w' => e = .returned (.int .i64 (roundQ rule (ofQ a b c) (ofR a b c) c)) ∧ W = w' :=
        fun W => refRound_any rule _ _ c W hrr (by omega) (by omega) (by omega) (by omega) (by omega)
      have HO : ∀ W, Calls Tryd.prog 41 #[.int .i64 a, .int .i64 b, .int .i64 c] W fun e w' => e = .returned (.tuple #[.int .i64 (ofQ a b c), .int .i64 (ofR a b c), .int .i64 0]) ∧ Below W.heap.size W w' :=
        fun W => by have := R1.ofChecked_any a b c W; rwa [ho] at this
      by_cases hq : roundQ rule (ofQ a b c) (ofR a b c) c ≤ 128849018880000
      · have e : prodE a b c rule = 0 := by unfold prodE; rw [hr, if_pos rfl, if_pos ho, if_pos hq]
        rw [e]; exact refProduct_ok a b c rule _ _ _ w hr hq HO HR
      · have e : prodE a b c rule = 15 := by unfold prodE; rw [hr, if_pos rfl, if_pos ho, if_neg hq]
        rw [e]; exact refProduct_limit a b c rule _ _ _ w hr (by omega) HO HR
    · have e : prodE a b c rule = ofE a b c := by unfold prodE; rw [hr, if_pos rfl, if_neg ho]
      rw [e, if_neg ho]; exact refProduct_err a b c rule _ w hr (bneq ho) _ _ (fun W => R1.ofChecked_any a b c W)

end Go.Proofs.YtigmpbipbkgnfaaDoor
