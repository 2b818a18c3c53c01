/-
  The statement MixSteps of spile/spilelaw21 holds: for every input the call returns true, and each argument reads afterwards as it read before.
-/
import Derived.Test.YtfkcgdnpfngdkaaM2
import Derived.Below
import Derived.Carry
set_option linter.unusedVariables false
set_option linter.unusedSimpArgs false
namespace Go.Proofs.Ytfkcgdnpfngdkaa.mixSteps
open Go.ChangeShapes Go.WideShapes Go.ChangeAt Go.RowKit
open Go.ChangeMaps (open_string shut_string)
set_option linter.unusedVariables false

theorem draw_steps {A M a b : Int} (hA : 0 ≤ A) (ha : 0 ≤ a) (hb : 0 ≤ b) (hM : a + b ≤ M) (hz : M = 0 → A = 0) :
    -1 ≤ (A - A * a / M - (A - A * a / M) * b / (M - a)) - (A - A * (a + b) / M) ∧ (A - A * a / M - (A - A * a / M) * b / (M - a)) - (A - A * (a + b) / M) ≤ 1 := by
  by_cases z : M - a = 0
  · obtain rfl : a = M := by omega
    obtain rfl : b = 0 := by omega
    rw [Int.mul_zero, Int.zero_ediv, Int.add_zero]
    omega
  · have hM0 : M ≠ 0 := by omega
    have e1 := Int.ediv_mul_le (A * a) hM0
    have e2 := Int.lt_ediv_add_one_mul_self (A * a) (show 0 < M by omega)
    have e3 := Int.ediv_mul_le ((A - A * a / M) * b) z
    have e4 := Int.lt_ediv_add_one_mul_self ((A - A * a / M) * b) (show 0 < M - a by omega)
    have e5 := Int.ediv_mul_le (A * (a + b)) hM0
    have e6 := Int.lt_ediv_add_one_mul_self (A * (a + b)) (show 0 < M by omega)
    generalize A * a / M = q1 at *
    generalize (A - q1) * b / (M - a) = q2 at *
    generalize A * (a + b) / M = q3 at *
    have k1 := Int.mul_le_mul_of_nonneg_right (show (A - q1) * b ≤ (q2 + 1) * (M - a) by omega) ha
    have k2 := Int.mul_le_mul_of_nonneg_right (show q1 * (M - a) ≤ (A - q1) * a by rw [Int.mul_sub, Int.sub_mul]; omega) hb
    have k3 := Int.mul_le_mul_of_nonneg_right (show q2 * (M - a) ≤ (A - q1) * b by omega) ha
    have k4 := Int.mul_le_mul_of_nonneg_right (show (A - q1) * a ≤ q1 * (M - a) + M by rw [Int.mul_sub, Int.sub_mul]; rw [Int.add_mul] at e2; omega) hb
    have k5 := Int.mul_le_mul_of_nonneg_left (show b ≤ M - a by omega) (show 0 ≤ M by omega)
    have u : q1 * b ≤ (q2 + 1) * a := by
      refine Int.le_of_mul_le_mul_right (a := M - a) ?_ (by omega)
      have c1 : q1 * b * (M - a) = q1 * (M - a) * b := by rw [Int.mul_assoc, Int.mul_comm b, ← Int.mul_assoc]
      have c2 : (q2 + 1) * a * (M - a) = (q2 + 1) * (M - a) * a := by rw [Int.mul_assoc, Int.mul_comm a, ← Int.mul_assoc]
      have c3 : (A - q1) * b * a = (A - q1) * a * b := by rw [Int.mul_assoc, Int.mul_comm b, ← Int.mul_assoc]
      omega
    have l : q2 * a ≤ q1 * b + M := by
      refine Int.le_of_mul_le_mul_right (a := M - a) ?_ (by omega)
      have c1 : (q1 * b + M) * (M - a) = q1 * (M - a) * b + M * (M - a) := by rw [Int.add_mul, Int.mul_assoc, Int.mul_comm b, ← Int.mul_assoc]
      have c2 : q2 * a * (M - a) = q2 * (M - a) * a := by rw [Int.mul_assoc, Int.mul_comm a, ← Int.mul_assoc]
      have c3 : (A - q1) * b * a = (A - q1) * a * b := by rw [Int.mul_assoc, Int.mul_comm b, ← Int.mul_assoc]
      rw [Int.add_mul] at k4
      omega
    have x1 : (A - q1) * b = A * b - q1 * b := Int.sub_mul ..
    have x2 : q2 * (M - a) = q2 * M - q2 * a := Int.mul_sub ..
    have x3 : (q2 + 1) * (M - a) = q2 * M + M - (q2 * a + a) := by rw [Int.mul_sub, Int.add_mul, Int.add_mul]; omega
    have x4 : A * (a + b) = A * a + A * b := Int.mul_add ..
    have x5 : (q2 + 1) * a = q2 * a + a := by rw [Int.add_mul]; omega
    have x6 : (q1 + 1) * M = q1 * M + M := by rw [Int.add_mul]; omega
    have x7 : (q3 + 1) * M = q3 * M + M := by rw [Int.add_mul]; omega
    have lo : q1 + q2 ≤ q3 + 1 := by
      have : (q1 + q2) * M < (q3 + 2) * M := by rw [Int.add_mul, Int.add_mul]; omega
      have := Int.lt_of_mul_lt_mul_right this (by omega)
      omega
    have hi : q3 ≤ q1 + q2 + 1 := by
      have : q3 * M < (q1 + q2 + 2) * M := by rw [Int.add_mul, Int.add_mul]; omega
      have := Int.lt_of_mul_lt_mul_right this (by omega)
      omega
    omega
set_option maxHeartbeats 16000000 in
set_option maxRecDepth 100000 in
theorem bad1 (A M a b E : Int) (w : World) (hE : (E != 0) = true) (C1 : Hid (∀ W, Calls Try.prog 13 #[.agg #[.int .i64 A, .int .i64 M], .int .i64 a] W fun e w' => e = .returned (.tuple #[.agg #[.int .i64 0, .int .i64 0], .agg #[.int .i64 0, .int .i64 0], .int .i64 E]) ∧ Below W.heap.size W w')) :
    Calls Try.prog 9 #[.agg #[.int .i64 A, .int .i64 M], .int .i64 a, .int .i64 b] w fun e w' => e = .returned (.bool true) ∧ Below w.heap.size w w' := by
  have qz : ∀ W, (binOp .eql 24 (.agg #[.int .i64 0, .int .i64 0]) (.agg #[.int .i64 0, .int .i64 0])).run Try.prog W = .ok (.bool true) W := fun W => by rw [run_eql_liq]; simp [samP, samB]
  have HA := Lib.hid (fun W => awakeM_any W)
  have HB := Lib.hid (Below.refl w.heap.size w)
  have T0 := Lib.hid (Two.new w (.int .i64 A) (.int .i64 M) 24)
  replace HB := Lib.hid (bel_alloc (w := w) (o := .cells #[.int .i64 A, .int .i64 M] 24) (Below.refl _ _))
  obtain ⟨T00, T01, T02, T03, T04⟩ := T0.out
  go_enter Try.func9, Try.ntmps9
  go_wp2_with fail
  refine (HA.out _).mono ?_
  rintro e w4 ⟨rfl, h1⟩
  replace T0 := Lib.hid (T0.out.below h1)
  replace HB := Lib.hid (bel_trans HB.out h1); clear h1
  obtain ⟨T00, T01, T02, T03, T04⟩ := T0.out
  go_wp2_with fail
  refine (C1.out _).mono ?_
  rintro e w6 ⟨rfl, h1⟩
  replace T0 := Lib.hid (T0.out.below h1)
  replace HB := Lib.hid (bel_trans HB.out h1); clear h1
  have T1 := Lib.hid ((Two.new (w6) (.int .i64 0) (.int .i64 0) 24).alloc (.cells #[.int .i64 0, .int .i64 0] 24))
  have T2 := Lib.hid (two_new1 (w6) (.cells #[.int .i64 0, .int .i64 0] 24) (.int .i64 0) (.int .i64 0) 24)
  replace T0 := Lib.hid ((T0.out.alloc (.cells #[.int .i64 0, .int .i64 0] 24)).alloc (.cells #[.int .i64 0, .int .i64 0] 24))
  replace HB := Lib.hid (bel_trans HB.out (bel_alloc (bel_alloc (Below.refl _ (((w6).alloc (.cells #[.int .i64 0, .int .i64 0] 24)).alloc (.cells #[.int .i64 0, .int .i64 0] 24))))))
  obtain ⟨T00, T01, T02, T03, T04⟩ := T0.out
  obtain ⟨T10, T11, T12, T13, T14⟩ := T1.out
  obtain ⟨T20, T21, T22, T23, T24⟩ := T2.out
  go_wp2
  go_returns
  exact ⟨rfl, HB.out⟩
set_option maxHeartbeats 16000000 in
set_option maxRecDepth 100000 in
theorem bad2 (A M a b p q r s F : Int) (w : World) (hF : (F != 0) = true) (C1 : Hid (∀ W, Calls Try.prog 13 #[.agg #[.int .i64 A, .int .i64 M], .int .i64 a] W fun e w' => e = .returned (.tuple #[.agg #[.int .i64 p, .int .i64 q], .agg #[.int .i64 r, .int .i64 s], .int .i64 0]) ∧ Below W.heap.size W w')) (C2 : Hid (∀ W, Calls Try.prog 13 #[.agg #[.int .i64 r, .int .i64 s], .int .i64 b] W fun e w' => e = .returned (.tuple #[.agg #[.int .i64 0, .int .i64 0], .agg #[.int .i64 0, .int .i64 0], .int .i64 F]) ∧ Below W.heap.size W w')) :
    Calls Try.prog 9 #[.agg #[.int .i64 A, .int .i64 M], .int .i64 a, .int .i64 b] w fun e w' => e = .returned (.bool true) ∧ Below w.heap.size w w' := by
  have qz : ∀ W, (binOp .eql 24 (.agg #[.int .i64 0, .int .i64 0]) (.agg #[.int .i64 0, .int .i64 0])).run Try.prog W = .ok (.bool true) W := fun W => by rw [run_eql_liq]; simp [samP, samB]
  have HA := Lib.hid (fun W => awakeM_any W)
  have HB := Lib.hid (Below.refl w.heap.size w)
  have T0 := Lib.hid (Two.new w (.int .i64 A) (.int .i64 M) 24)
  replace HB := Lib.hid (bel_alloc (w := w) (o := .cells #[.int .i64 A, .int .i64 M] 24) (Below.refl _ _))
  obtain ⟨T00, T01, T02, T03, T04⟩ := T0.out
  go_enter Try.func9, Try.ntmps9
  go_wp2_with fail
  refine (HA.out _).mono ?_
  rintro e w12 ⟨rfl, h1⟩
  replace T0 := Lib.hid (T0.out.below h1)
  replace HB := Lib.hid (bel_trans HB.out h1); clear h1
  obtain ⟨T00, T01, T02, T03, T04⟩ := T0.out
  go_wp2_with fail
  refine (C1.out _).mono ?_
  rintro e w14 ⟨rfl, h1⟩
  replace T0 := Lib.hid (T0.out.below h1)
  replace HB := Lib.hid (bel_trans HB.out h1); clear h1
  have T1 := Lib.hid ((Two.new (w14) (.int .i64 p) (.int .i64 q) 24).alloc (.cells #[.int .i64 r, .int .i64 s] 24))
  have T2 := Lib.hid (two_new1 (w14) (.cells #[.int .i64 p, .int .i64 q] 24) (.int .i64 r) (.int .i64 s) 24)
  replace T0 := Lib.hid ((T0.out.alloc (.cells #[.int .i64 p, .int .i64 q] 24)).alloc (.cells #[.int .i64 r, .int .i64 s] 24))
  replace HB := Lib.hid (bel_trans HB.out (bel_alloc (bel_alloc (Below.refl _ (((w14).alloc (.cells #[.int .i64 p, .int .i64 q] 24)).alloc (.cells #[.int .i64 r, .int .i64 s] 24))))))
  obtain ⟨T00, T01, T02, T03, T04⟩ := T0.out
  obtain ⟨T10, T11, T12, T13, T14⟩ := T1.out
  obtain ⟨T20, T21, T22, T23, T24⟩ := T2.out
  go_wp2_with fail
  refine (C2.out _).mono ?_
  rintro e w17 ⟨rfl, h1⟩
  replace T0 := Lib.hid (T0.out.below h1)
  replace T1 := Lib.hid (T1.out.below h1)
  replace T2 := Lib.hid (T2.out.below h1)
  replace HB := Lib.hid (bel_trans HB.out h1); clear h1
  have T3 := Lib.hid ((Two.new (w17) (.int .i64 0) (.int .i64 0) 24).alloc (.cells #[.int .i64 0, .int .i64 0] 24))
  have T4 := Lib.hid (two_new1 (w17) (.cells #[.int .i64 0, .int .i64 0] 24) (.int .i64 0) (.int .i64 0) 24)
  replace T0 := Lib.hid ((T0.out.alloc (.cells #[.int .i64 0, .int .i64 0] 24)).alloc (.cells #[.int .i64 0, .int .i64 0] 24))
  replace T1 := Lib.hid ((T1.out.alloc (.cells #[.int .i64 0, .int .i64 0] 24)).alloc (.cells #[.int .i64 0, .int .i64 0] 24))
  replace T2 := Lib.hid ((T2.out.alloc (.cells #[.int .i64 0, .int .i64 0] 24)).alloc (.cells #[.int .i64 0, .int .i64 0] 24))
  replace HB := Lib.hid (bel_trans HB.out (bel_alloc (bel_alloc (Below.refl _ (((w17).alloc (.cells #[.int .i64 0, .int .i64 0] 24)).alloc (.cells #[.int .i64 0, .int .i64 0] 24))))))
  obtain ⟨T00, T01, T02, T03, T04⟩ := T0.out
  obtain ⟨T10, T11, T12, T13, T14⟩ := T1.out
  obtain ⟨T20, T21, T22, T23, T24⟩ := T2.out
  obtain ⟨T30, T31, T32, T33, T34⟩ := T3.out
  obtain ⟨T40, T41, T42, T43, T44⟩ := T4.out
  go_wp2
  go_returns
  exact ⟨rfl, HB.out⟩
set_option maxHeartbeats 16000000 in
set_option maxRecDepth 100000 in
theorem good (A M a b p q r s p2 q2 r2 s2 p3 q3 r3 : Int) (w : World) (wab : IntKind.i64.wrap (a + b) = a + b) (d0 : decide (M < a + b) = false) (wr : IntKind.i64.wrap (r2 - r3) = r2 - r3) (d1 : decide (-1 ≤ r2 - r3) = true) (d2 : decide (r2 - r3 ≤ 1) = true) (C1 : Hid (∀ W, Calls Try.prog 13 #[.agg #[.int .i64 A, .int .i64 M], .int .i64 a] W fun e w' => e = .returned (.tuple #[.agg #[.int .i64 p, .int .i64 q], .agg #[.int .i64 r, .int .i64 s], .int .i64 0]) ∧ Below W.heap.size W w')) (C2 : Hid (∀ W, Calls Try.prog 13 #[.agg #[.int .i64 r, .int .i64 s], .int .i64 b] W fun e w' => e = .returned (.tuple #[.agg #[.int .i64 p2, .int .i64 q2], .agg #[.int .i64 r2, .int .i64 s2], .int .i64 0]) ∧ Below W.heap.size W w')) (C3 : Hid (∀ W, Calls Try.prog 13 #[.agg #[.int .i64 A, .int .i64 M], .int .i64 (a + b)] W fun e w' => e = .returned (.tuple #[.agg #[.int .i64 p3, .int .i64 q3], .agg #[.int .i64 r3, .int .i64 s2], .int .i64 0]) ∧ Below W.heap.size W w')) :
    Calls Try.prog 9 #[.agg #[.int .i64 A, .int .i64 M], .int .i64 a, .int .i64 b] w fun e w' => e = .returned (.bool true) ∧ Below w.heap.size w w' := by
  have HA := Lib.hid (fun W => awakeM_any W)
  have HB := Lib.hid (Below.refl w.heap.size w)
  have T0 := Lib.hid (Two.new w (.int .i64 A) (.int .i64 M) 24)
  replace HB := Lib.hid (bel_alloc (w := w) (o := .cells #[.int .i64 A, .int .i64 M] 24) (Below.refl _ _))
  obtain ⟨T00, T01, T02, T03, T04⟩ := T0.out
  go_enter Try.func9, Try.ntmps9
  go_wp2_with fail
  refine (HA.out _).mono ?_
  rintro e w23 ⟨rfl, h1⟩
  replace T0 := Lib.hid (T0.out.below h1)
  replace HB := Lib.hid (bel_trans HB.out h1); clear h1
  obtain ⟨T00, T01, T02, T03, T04⟩ := T0.out
  go_wp2_with fail
  refine (C1.out _).mono ?_
  rintro e w25 ⟨rfl, h1⟩
  replace T0 := Lib.hid (T0.out.below h1)
  replace HB := Lib.hid (bel_trans HB.out h1); clear h1
  have T1 := Lib.hid ((Two.new (w25) (.int .i64 p) (.int .i64 q) 24).alloc (.cells #[.int .i64 r, .int .i64 s] 24))
  have T2 := Lib.hid (two_new1 (w25) (.cells #[.int .i64 p, .int .i64 q] 24) (.int .i64 r) (.int .i64 s) 24)
  replace T0 := Lib.hid ((T0.out.alloc (.cells #[.int .i64 p, .int .i64 q] 24)).alloc (.cells #[.int .i64 r, .int .i64 s] 24))
  replace HB := Lib.hid (bel_trans HB.out (bel_alloc (bel_alloc (Below.refl _ (((w25).alloc (.cells #[.int .i64 p, .int .i64 q] 24)).alloc (.cells #[.int .i64 r, .int .i64 s] 24))))))
  obtain ⟨T00, T01, T02, T03, T04⟩ := T0.out
  obtain ⟨T10, T11, T12, T13, T14⟩ := T1.out
  obtain ⟨T20, T21, T22, T23, T24⟩ := T2.out
  go_wp2_with fail
  refine (C2.out _).mono ?_
  rintro e w28 ⟨rfl, h1⟩
  replace T0 := Lib.hid (T0.out.below h1)
  replace T1 := Lib.hid (T1.out.below h1)
  replace T2 := Lib.hid (T2.out.below h1)
  replace HB := Lib.hid (bel_trans HB.out h1); clear h1
  have T3 := Lib.hid ((Two.new (w28) (.int .i64 p2) (.int .i64 q2) 24).alloc (.cells #[.int .i64 r2, .int .i64 s2] 24))
  have T4 := Lib.hid (two_new1 (w28) (.cells #[.int .i64 p2, .int .i64 q2] 24) (.int .i64 r2) (.int .i64 s2) 24)
  replace T0 := Lib.hid ((T0.out.alloc (.cells #[.int .i64 p2, .int .i64 q2] 24)).alloc (.cells #[.int .i64 r2, .int .i64 s2] 24))
  replace T1 := Lib.hid ((T1.out.alloc (.cells #[.int .i64 p2, .int .i64 q2] 24)).alloc (.cells #[.int .i64 r2, .int .i64 s2] 24))
  replace T2 := Lib.hid ((T2.out.alloc (.cells #[.int .i64 p2, .int .i64 q2] 24)).alloc (.cells #[.int .i64 r2, .int .i64 s2] 24))
  replace HB := Lib.hid (bel_trans HB.out (bel_alloc (bel_alloc (Below.refl _ (((w28).alloc (.cells #[.int .i64 p2, .int .i64 q2] 24)).alloc (.cells #[.int .i64 r2, .int .i64 s2] 24))))))
  obtain ⟨T00, T01, T02, T03, T04⟩ := T0.out
  obtain ⟨T10, T11, T12, T13, T14⟩ := T1.out
  obtain ⟨T20, T21, T22, T23, T24⟩ := T2.out
  obtain ⟨T30, T31, T32, T33, T34⟩ := T3.out
  obtain ⟨T40, T41, T42, T43, T44⟩ := T4.out
  go_wp2_with fail
  refine (C3.out _).mono ?_
  rintro e w31 ⟨rfl, h1⟩
  replace T0 := Lib.hid (T0.out.below h1)
  replace T1 := Lib.hid (T1.out.below h1)
  replace T2 := Lib.hid (T2.out.below h1)
  replace T3 := Lib.hid (T3.out.below h1)
  replace T4 := Lib.hid (T4.out.below h1)
  replace HB := Lib.hid (bel_trans HB.out h1); clear h1
  have T5 := Lib.hid ((Two.new (w31) (.int .i64 p3) (.int .i64 q3) 24).alloc (.cells #[.int .i64 r3, .int .i64 s2] 24))
  have T6 := Lib.hid (two_new1 (w31) (.cells #[.int .i64 p3, .int .i64 q3] 24) (.int .i64 r3) (.int .i64 s2) 24)
  replace T0 := Lib.hid ((T0.out.alloc (.cells #[.int .i64 p3, .int .i64 q3] 24)).alloc (.cells #[.int .i64 r3, .int .i64 s2] 24))
  replace T1 := Lib.hid ((T1.out.alloc (.cells #[.int .i64 p3, .int .i64 q3] 24)).alloc (.cells #[.int .i64 r3, .int .i64 s2] 24))
  replace T2 := Lib.hid ((T2.out.alloc (.cells #[.int .i64 p3, .int .i64 q3] 24)).alloc (.cells #[.int .i64 r3, .int .i64 s2] 24))
  replace T3 := Lib.hid ((T3.out.alloc (.cells #[.int .i64 p3, .int .i64 q3] 24)).alloc (.cells #[.int .i64 r3, .int .i64 s2] 24))
  replace T4 := Lib.hid ((T4.out.alloc (.cells #[.int .i64 p3, .int .i64 q3] 24)).alloc (.cells #[.int .i64 r3, .int .i64 s2] 24))
  replace HB := Lib.hid (bel_trans HB.out (bel_alloc (bel_alloc (Below.refl _ (((w31).alloc (.cells #[.int .i64 p3, .int .i64 q3] 24)).alloc (.cells #[.int .i64 r3, .int .i64 s2] 24))))))
  obtain ⟨T00, T01, T02, T03, T04⟩ := T0.out
  obtain ⟨T10, T11, T12, T13, T14⟩ := T1.out
  obtain ⟨T20, T21, T22, T23, T24⟩ := T2.out
  obtain ⟨T30, T31, T32, T33, T34⟩ := T3.out
  obtain ⟨T40, T41, T42, T43, T44⟩ := T4.out
  obtain ⟨T50, T51, T52, T53, T54⟩ := T5.out
  obtain ⟨T60, T61, T62, T63, T64⟩ := T6.out
  go_wp2
  go_returns
  exact ⟨rfl, HB.out⟩
theorem walk (A M a b : Int) (w : World) (_ : -9223372036854775808 ≤ A ∧ A ≤ 9223372036854775807) (_ : -9223372036854775808 ≤ M ∧ M ≤ 9223372036854775807) (_ : -9223372036854775808 ≤ a ∧ a ≤ 9223372036854775807) (_ : -9223372036854775808 ≤ b ∧ b ≤ 9223372036854775807) :
    Calls Try.prog 9 #[.agg #[.int .i64 A, .int .i64 M], .int .i64 a, .int .i64 b] w fun e w' => e = .returned (.bool true) ∧ Below w.heap.size w w' := by
  have C1 := fun W => mxDr_any A M a W
  by_cases h1 : drE A M a = 0
  · have C2 := fun W => mxDr_any (rsA A M a) (rsM A M a) b W
    by_cases h2 : drE (rsA A M a) (rsM A M a) b = 0
    · obtain ⟨hp, a0, a1⟩ := drE_zero.1 h1
      obtain ⟨hp2, b0, b1⟩ := drE_zero.1 h2
      obtain ⟨_, _, eA, eM⟩ := drV_ok h1
      have h3 : drE A M (a + b) = 0 := drE_zero.2 ⟨hp, by omega, by omega⟩
      obtain ⟨p1, p2, p3, p4, p5⟩ := plB_iff.1 hp
      have C3 := fun W => mxDr_any A M (a + b) W
      rw [h1] at C1
      rw [h2] at C2
      rw [h3] at C3
      have s := draw_steps (A := A) (M := M) (a := a) (b := b) p1 a0 b0 (by omega) p5
      have g := draw_bd hp (show 0 ≤ a + b by omega) (show a + b ≤ M by omega)
      obtain ⟨_, _, e3, e6⟩ := drV_ok h3
      obtain ⟨_, _, e4, e7⟩ := drV_ok h2

      have e5 : rsM (rsA A M a) (rsM A M a) b = rsM A M (a + b) := by omega
      rw [e5] at C2
      refine good A M a b _ _ _ _ _ _ _ _ _ _ _ w (wrap_in _ ⟨by omega, by omega⟩) (decide_eq_false (by omega)) (wrap_in _ ?_) (decide_eq_true ?_) (decide_eq_true ?_) (Lib.hid C1) (Lib.hid C2) (Lib.hid C3)
      · rw [e4, e3, eA, eM]; constructor <;> omega
      · rw [e4, e3, eA, eM]; omega
      · rw [e4, e3, eA, eM]; omega
    · rw [h1] at C1
      obtain ⟨y1, y2, y3, y4⟩ := drV_no h2
      rw [y1, y2, y3, y4] at C2
      exact bad2 A M a b _ _ _ _ _ w (by rw [bne_iff_ne]; exact h2) (Lib.hid C1) (Lib.hid C2)
  · obtain ⟨y1, y2, y3, y4⟩ := drV_no h1
    rw [y1, y2, y3, y4] at C1
    exact bad1 A M a b _ w (by rw [bne_iff_ne]; exact h1) (Lib.hid C1)

set_option maxRecDepth 100000 in
theorem lifted (os : Os) (started : os.Started) (H : Type) (enc : TypeId × Value → H) :
    ReturnsInHanded {} Try.checked os 9 .any (Rows.mixStepsSpec.pre6 enc Try.prog Try.f9 Rows.mixStepsRow.domain false) (Rows.mixStepsSpec.post enc Try.prog Try.f9 false true false false) := by
  refine returnsInHanded_of_change (C := Try.checked) own started (by kernel_rfl) Try.func9
    (ChangeSpec.witness6 (enc := enc) (C := Try.checked) false ⟨#[], #[.agg #[.int .i64 0, .int .i64 0], .int .i64 0, .int .i64 0], []⟩ 8 (by kernel_rfl) (by kernel_rfl) (by kernel_rfl) (by kernel_rfl)) ?_
  intro W base args ds gs before hval0 hW hcnd _
  have hval : ∀ (j : Nat) t v, Try.f9.params[j]? = some t → args[j]? = some v → Value.okWide Try.prog W .any base t v := hval0
  clear hval0
  have hW' := hW
  obtain ⟨p, q, hA0, hV, rfl, hfz, hnd⟩ := hW
  have hA : DataW.TrodAll enc Try.prog W 0 (fun _ => true) true Try.f9.params.toList args.toList ds p := hA0
  rw [Try.params9] at hA hval
  obtain ⟨v0, vs0, d0, ds0, p0, q0, hargs, rfl, rfl, h0, r0⟩ := trodAll_cons hA
  obtain ⟨v1, vs1, d1, ds1, p1, q1, rfl, rfl, rfl, h1, r1⟩ := trodAll_cons r0
  obtain ⟨v2, vs2, d2, ds2, p2, q2, rfl, rfl, rfl, h2, r2⟩ := trodAll_cons r1
  obtain ⟨rfl, rfl, rfl⟩ := trodAll_nil r2
  obtain rfl : args = #[v0, v1, v2] := by cases args; simp_all
  obtain ⟨rfl, rfl⟩ := trodVars_none hV
  have k0 := h0
  have lt0 : ∀ x ∈ p0, x.block < W.heap.size := by obtain ⟨m, hm⟩ := k0; exact DataW.trod_lt m _ _ _ hm
  have k1 := h1
  have lt1 : ∀ x ∈ p1, x.block < W.heap.size := by obtain ⟨m, hm⟩ := k1; exact DataW.trod_lt m _ _ _ hm
  have k2 := h2
  have lt2 : ∀ x ∈ p2, x.block < W.heap.size := by obtain ⟨m, hm⟩ := k2; exact DataW.trod_lt m _ _ _ hm
  obtain ⟨y0, m0, rfl, wy0, wm0⟩ := open_liq (hval 0 24 v0 rfl rfl) h0
  obtain ⟨a1, rfl, rfl, rfl, w1⟩ := open_int Try.underlying3 (hval 1 3 v1 rfl rfl) h1
  obtain ⟨a2, rfl, rfl, rfl, w2⟩ := open_int Try.underlying3 (hval 2 3 v2 rfl rfl) h2
  clear hA0
  refine (walk y0 m0 a1 a2 W wy0 wm0 (wf_bd w1) (wf_bd w2)).mono fun e W' ⟨he, bel⟩ => ?_
  subst he
  exact ⟨_, rfl, _, _, _, [], _, [], hW', trodAll_mk1 (shut_bool Try.underlying4 _), (trodAll_cons_mk (Below.trod laidOut (by kernel_rfl) (of_decide_eq_true (by kernel_rfl)) k0 bel lt0) (trodAll_cons_mk (Below.trod laidOut (by kernel_rfl) (of_decide_eq_true (by kernel_rfl)) k1 bel lt1) (trodAll_cons_mk (Below.trod laidOut (by kernel_rfl) (of_decide_eq_true (by kernel_rfl)) k2 bel lt2) trodAll_mk0))), rfl, bel.frame _, fun h => by cases h⟩

theorem over : Rows.mixStepsRow.holds Try.pinned (OpenSpec.ofChange Rows.mixStepsSpec) :=
  OpenClaim.holds_of_wide 9 Try.f9 rfl rfl rfl rfl rfl rfl rfl ⟨rfl, rfl, rfl, rfl, rfl⟩ rfl rfl rfl rfl rfl (by kernel_rfl) Try.func9 (by kernel_rfl)
    (of_decide_eq_true (by kernel_rfl)) (by unfold Func.isWrapper; first | (rw [if_pos (by decide +kernel)]; kernel_rfl) | (rw [if_neg (by decide +kernel)]; exact ⟨rfl, rfl⟩))
    (fun os started H enc _ => lifted os started H enc)

theorem proved : Rows.MixStepsSaid := over
#print axioms proved
end Go.Proofs.Ytfkcgdnpfngdkaa.mixSteps

