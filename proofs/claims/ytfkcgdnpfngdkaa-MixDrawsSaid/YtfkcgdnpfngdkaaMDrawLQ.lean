/-
  The statement MixDraws of spile/spilelaw21 holds: for every input the call returns true, and each argument reads afterwards as it read before.
-/
import Derived.Test.YtfkcgdnpfngdkaaM2
import Derived.Below
import Derived.Carry
set_option linter.unusedVariables false
set_option linter.unusedSimpArgs false
namespace Go.Proofs.Ytfkcgdnpfngdkaa.mixDraws
open Go.ChangeShapes Go.WideShapes Go.ChangeAt Go.RowKit
open Go.ChangeMaps (open_string shut_string)
set_option linter.unusedVariables false

theorem drawn_less {t : List (Int × Int)} (hD : DR t) {A M m p : Int} (g : LR t A M) (h0 : 0 ≤ m) (h1 : m ≤ M) (hp : 0 ≤ p) (hpM : p * M ≤ A * m) (hpA : p ≤ A) :
    LR t p m ∧ (sgN t p m : Int) ≤ sgN t A M := by
  have a0 := g.a0
  have a1 := g.a1
  have m1 := g.m1
  by_cases z : M = 0
  · have := g.zero hD z
    obtain rfl : m = 0 := by omega
    obtain rfl : p = 0 := by omega
    refine ⟨⟨by omega, by omega, by omega, by omega, by omega⟩, ?_⟩
    rw [sgN_dry]; omega
  have hM : 0 < M := by omega
  have at0 := (atD_bd hD (s := 10000) (by omega) (by omega)).2.2
  have L : LR t p m := by
    refine ⟨hp, by omega, h0, by omega, ?_⟩
    refine Int.le_of_mul_le_mul_right (a := M) ?_ hM
    have k1 := Int.mul_le_mul_of_nonneg_right hpM (show 0 ≤ atD t 10000 by omega)
    have k2 := Int.mul_le_mul_of_nonneg_right g.t h0
    have c1 : p * atD t 10000 * M = p * M * atD t 10000 := by rw [Int.mul_assoc, Int.mul_comm (atD t 10000), ← Int.mul_assoc]
    have c2 : A * m * atD t 10000 = A * atD t 10000 * m := by rw [Int.mul_assoc, Int.mul_comm m, ← Int.mul_assoc]
    have c3 : m * 10000 * M = M * 10000 * m := by rw [Int.mul_comm (m * 10000), Int.mul_comm m, ← Int.mul_assoc]
    omega
  refine ⟨L, ?_⟩
  by_cases zm : m = 0
  · have := L.zero hD zm
    rw [this, zm, sgN_dry]; omega
  have le := sgN_le t p m
  have sh := sgN_has hD L
  have b := at_sg hD p m
  refine (sgN_iff hD g z (by omega) (by omega)).1 ?_
  generalize (sgN t p m : Int) = k at *
  generalize atD t k = d at *
  refine Int.le_of_mul_le_mul_right (a := m) ?_ (by omega)
  have k1 := Int.mul_le_mul_of_nonneg_right sh (show 0 ≤ M by omega)
  have k2 := Int.mul_le_mul_of_nonneg_right hpM (show 0 ≤ d by omega)
  have c1 : M * k * m = m * k * M := by rw [Int.mul_comm (M * k), Int.mul_comm M, ← Int.mul_assoc]
  have c2 : p * d * M = p * M * d := by rw [Int.mul_assoc, Int.mul_comm d, ← Int.mul_assoc]
  have c3 : A * m * d = A * d * m := by rw [Int.mul_assoc, Int.mul_comm m, ← Int.mul_assoc]
  omega
theorem left_more {t : List (Int × Int)} (hD : DR t) {A M m p : Int} (g : LR t A M) (h0 : 0 ≤ m) (h1 : m ≤ M) (hpM : p * M ≤ A * m) (g2 : LR t (A - p) (M - m)) (z2 : M - m ≠ 0) :
    (sgN t A M : Int) ≤ sgN t (A - p) (M - m) := by
  have hM : 0 < M := by omega
  have le := sgN_le t A M
  have sh := sgN_has hD g
  have b := at_sg hD A M
  refine (sgN_iff hD g2 z2 (by omega) (by omega)).1 ?_
  generalize (sgN t A M : Int) = k at *
  generalize atD t k = d at *
  refine Int.le_of_mul_le_mul_right (a := M) ?_ hM
  have k1 := Int.mul_le_mul_of_nonneg_right sh (show 0 ≤ M - m by omega)
  have k2 := Int.mul_le_mul_of_nonneg_right (show A * (M - m) ≤ (A - p) * M by rw [Int.mul_sub, Int.sub_mul]; omega) (show 0 ≤ d by omega)
  have c1 : (M - m) * k * M = M * k * (M - m) := by rw [Int.mul_comm ((M - m) * k), Int.mul_comm (M - m), ← Int.mul_assoc]
  have c2 : (A - p) * d * M = (A - p) * M * d := by rw [Int.mul_assoc, Int.mul_comm d, ← Int.mul_assoc]
  have c3 : A * (M - m) * d = A * d * (M - m) := by rw [Int.mul_assoc, Int.mul_comm (M - m), ← Int.mul_assoc]
  omega
set_option maxHeartbeats 16000000 in
set_option maxRecDepth 100000 in
theorem long (a : Option Addr) (n cap : Nat) (A M m : Int) (l : List (Int × Int)) (w : World) (NV : Hid (Pts w (.slice a n cap) l)) (hf : fwB l.length = false) :
    Calls Try.prog 5 #[.slice a n cap, .agg #[.int .i64 A, .int .i64 M], .int .i64 m] w fun e w' => e = .returned (.bool true) ∧ Below w.heap.size w w' := by
  have HA := Lib.hid (fun W => awakeM_any W)
  have FW := Lib.hid (fun v W h => few_any v l W h)
  rw [hf] at FW
  have HB := Lib.hid (Below.refl w.heap.size w)
  have T0 := Lib.hid (Two.new w (.int .i64 A) (.int .i64 M) 24)
  replace HB := Lib.hid (bel_alloc (w := w) (o := .cells #[.int .i64 A, .int .i64 M] 24) (Below.refl _ _))
  replace NV := Lib.hid (NV.out.alloc (.cells #[.int .i64 A, .int .i64 M] 24))
  obtain ⟨T00, T01, T02, T03, T04⟩ := T0.out
  go_enter Try.func5, Try.ntmps5
  go_wp2_with fail
  refine (HA.out _).mono ?_
  rintro e w4 ⟨rfl, h1⟩
  replace NV := Lib.hid (NV.out.below h1)
  replace T0 := Lib.hid (T0.out.below h1)
  replace HB := Lib.hid (bel_trans HB.out h1); clear h1
  obtain ⟨T00, T01, T02, T03, T04⟩ := T0.out
  go_wp2_with fail
  refine (FW.out _ _ NV.out).mono ?_
  rintro e w90 ⟨rfl, hw⟩
  subst hw
  go_wp2
  go_returns
  exact ⟨rfl, HB.out⟩
set_option maxHeartbeats 16000000 in
set_option maxRecDepth 100000 in
theorem bad (a : Option Addr) (n cap : Nat) (A M m E : Int) (l : List (Int × Int)) (w : World) (NV : Hid (Pts w (.slice a n cap) l)) (hf : fwB l.length = true) (hE : (E != 0) = true) (C1 : Hid (∀ W, Calls Try.prog 13 #[.agg #[.int .i64 A, .int .i64 M], .int .i64 m] W fun e w' => e = .returned (.tuple #[.agg #[.int .i64 0, .int .i64 0], .agg #[.int .i64 0, .int .i64 0], .int .i64 E]) ∧ Below W.heap.size W w')) :
    Calls Try.prog 5 #[.slice a n cap, .agg #[.int .i64 A, .int .i64 M], .int .i64 m] w fun e w' => e = .returned (.bool true) ∧ Below w.heap.size w w' := by
  have qz : ∀ W, (binOp .eql 24 (.agg #[.int .i64 0, .int .i64 0]) (.agg #[.int .i64 0, .int .i64 0])).run Try.prog W = .ok (.bool true) W := fun W => by rw [run_eql_liq]; simp [samP, samB]
  have HA := Lib.hid (fun W => awakeM_any W)
  have FW := Lib.hid (fun v W h => few_any v l W h)
  rw [hf] at FW
  have HB := Lib.hid (Below.refl w.heap.size w)
  have T0 := Lib.hid (Two.new w (.int .i64 A) (.int .i64 M) 24)
  replace HB := Lib.hid (bel_alloc (w := w) (o := .cells #[.int .i64 A, .int .i64 M] 24) (Below.refl _ _))
  replace NV := Lib.hid (NV.out.alloc (.cells #[.int .i64 A, .int .i64 M] 24))
  obtain ⟨T00, T01, T02, T03, T04⟩ := T0.out
  go_enter Try.func5, Try.ntmps5
  go_wp2_with fail
  refine (HA.out _).mono ?_
  rintro e w9 ⟨rfl, h1⟩
  replace NV := Lib.hid (NV.out.below h1)
  replace T0 := Lib.hid (T0.out.below h1)
  replace HB := Lib.hid (bel_trans HB.out h1); clear h1
  obtain ⟨T00, T01, T02, T03, T04⟩ := T0.out
  go_wp2_with fail
  refine (FW.out _ _ NV.out).mono ?_
  rintro e w90 ⟨rfl, hw⟩
  subst hw
  go_wp2_with fail
  refine (C1.out _).mono ?_
  rintro e w11 ⟨rfl, h1⟩
  replace NV := Lib.hid (NV.out.below h1)
  replace T0 := Lib.hid (T0.out.below h1)
  replace HB := Lib.hid (bel_trans HB.out h1); clear h1
  have T1 := Lib.hid ((Two.new (w11) (.int .i64 0) (.int .i64 0) 24).alloc (.cells #[.int .i64 0, .int .i64 0] 24))
  have T2 := Lib.hid (two_new1 (w11) (.cells #[.int .i64 0, .int .i64 0] 24) (.int .i64 0) (.int .i64 0) 24)
  replace T0 := Lib.hid ((T0.out.alloc (.cells #[.int .i64 0, .int .i64 0] 24)).alloc (.cells #[.int .i64 0, .int .i64 0] 24))
  replace NV := Lib.hid ((NV.out.alloc (.cells #[.int .i64 0, .int .i64 0] 24)).alloc (.cells #[.int .i64 0, .int .i64 0] 24))
  replace HB := Lib.hid (bel_trans HB.out (bel_alloc (bel_alloc (Below.refl _ (((w11).alloc (.cells #[.int .i64 0, .int .i64 0] 24)).alloc (.cells #[.int .i64 0, .int .i64 0] 24))))))
  obtain ⟨T00, T01, T02, T03, T04⟩ := T0.out
  obtain ⟨T10, T11, T12, T13, T14⟩ := T1.out
  obtain ⟨T20, T21, T22, T23, T24⟩ := T2.out
  go_wp2
  go_returns
  exact ⟨rfl, HB.out⟩
set_option maxHeartbeats 16000000 in
set_option maxRecDepth 100000 in
theorem nos (a : Option Addr) (n cap : Nat) (A M m p r s F : Int) (l : List (Int × Int)) (w : World) (NV : Hid (Pts w (.slice a n cap) l)) (hf : fwB l.length = true) (q1 : decide (p < 0) = false) (q2 : decide (r < 0) = false) (w1 : IntKind.i64.wrap (p + r) = A) (w2 : IntKind.i64.wrap (m + s) = M) (C1 : Hid (∀ W, Calls Try.prog 13 #[.agg #[.int .i64 A, .int .i64 M], .int .i64 m] W fun e w' => e = .returned (.tuple #[.agg #[.int .i64 p, .int .i64 m], .agg #[.int .i64 r, .int .i64 s], .int .i64 0]) ∧ Below W.heap.size W w')) (hF : (F != 0) = true) (C2 : Hid (∀ W, Pts W (.slice a n cap) l → Calls Try.prog 23 #[.slice a n cap, .agg #[.int .i64 A, .int .i64 M]] W fun e w' => e = .returned (.tuple #[.int .i64 0, .int .i64 F]) ∧ Below W.heap.size W w')) :
    Calls Try.prog 5 #[.slice a n cap, .agg #[.int .i64 A, .int .i64 M], .int .i64 m] w fun e w' => e = .returned (.bool true) ∧ Below w.heap.size w w' := by
  have HA := Lib.hid (fun W => awakeM_any W)
  have FW := Lib.hid (fun v W h => few_any v l W h)
  rw [hf] at FW
  have HB := Lib.hid (Below.refl w.heap.size w)
  have T0 := Lib.hid (Two.new w (.int .i64 A) (.int .i64 M) 24)
  replace HB := Lib.hid (bel_alloc (w := w) (o := .cells #[.int .i64 A, .int .i64 M] 24) (Below.refl _ _))
  replace NV := Lib.hid (NV.out.alloc (.cells #[.int .i64 A, .int .i64 M] 24))
  obtain ⟨T00, T01, T02, T03, T04⟩ := T0.out
  go_enter Try.func5, Try.ntmps5
  go_wp2_with fail
  refine (HA.out _).mono ?_
  rintro e w17 ⟨rfl, h1⟩
  replace NV := Lib.hid (NV.out.below h1)
  replace T0 := Lib.hid (T0.out.below h1)
  replace HB := Lib.hid (bel_trans HB.out h1); clear h1
  obtain ⟨T00, T01, T02, T03, T04⟩ := T0.out
  go_wp2_with fail
  refine (FW.out _ _ NV.out).mono ?_
  rintro e w90 ⟨rfl, hw⟩
  subst hw
  go_wp2_with fail
  refine (C1.out _).mono ?_
  rintro e w19 ⟨rfl, h1⟩
  replace NV := Lib.hid (NV.out.below h1)
  replace T0 := Lib.hid (T0.out.below h1)
  replace HB := Lib.hid (bel_trans HB.out h1); clear h1
  have T1 := Lib.hid ((Two.new (w19) (.int .i64 p) (.int .i64 m) 24).alloc (.cells #[.int .i64 r, .int .i64 s] 24))
  have T2 := Lib.hid (two_new1 (w19) (.cells #[.int .i64 p, .int .i64 m] 24) (.int .i64 r) (.int .i64 s) 24)
  replace T0 := Lib.hid ((T0.out.alloc (.cells #[.int .i64 p, .int .i64 m] 24)).alloc (.cells #[.int .i64 r, .int .i64 s] 24))
  replace NV := Lib.hid ((NV.out.alloc (.cells #[.int .i64 p, .int .i64 m] 24)).alloc (.cells #[.int .i64 r, .int .i64 s] 24))
  replace HB := Lib.hid (bel_trans HB.out (bel_alloc (bel_alloc (Below.refl _ (((w19).alloc (.cells #[.int .i64 p, .int .i64 m] 24)).alloc (.cells #[.int .i64 r, .int .i64 s] 24))))))
  obtain ⟨T00, T01, T02, T03, T04⟩ := T0.out
  obtain ⟨T10, T11, T12, T13, T14⟩ := T1.out
  obtain ⟨T20, T21, T22, T23, T24⟩ := T2.out
  go_wp2_with fail
  refine (C2.out _ NV.out).mono ?_
  rintro e w22 ⟨rfl, h1⟩
  replace NV := Lib.hid (NV.out.below h1)
  replace T0 := Lib.hid (T0.out.below h1)
  replace T1 := Lib.hid (T1.out.below h1)
  replace T2 := Lib.hid (T2.out.below h1)
  replace HB := Lib.hid (bel_trans HB.out h1); clear h1
  obtain ⟨T00, T01, T02, T03, T04⟩ := T0.out
  obtain ⟨T10, T11, T12, T13, T14⟩ := T1.out
  obtain ⟨T20, T21, T22, T23, T24⟩ := T2.out
  go_wp2
  go_returns
  exact ⟨rfl, HB.out⟩
set_option maxHeartbeats 16000000 in
set_option maxRecDepth 100000 in
theorem fullA (a : Option Addr) (n cap : Nat) (A M m p r s S X Y H : Int) (l : List (Int × Int)) (w : World) (NV : Hid (Pts w (.slice a n cap) l)) (hf : fwB l.length = true) (q1 : decide (p < 0) = false) (q2 : decide (r < 0) = false) (w1 : IntKind.i64.wrap (p + r) = A) (w2 : IntKind.i64.wrap (m + s) = M) (C1 : Hid (∀ W, Calls Try.prog 13 #[.agg #[.int .i64 A, .int .i64 M], .int .i64 m] W fun e w' => e = .returned (.tuple #[.agg #[.int .i64 p, .int .i64 m], .agg #[.int .i64 r, .int .i64 s], .int .i64 0]) ∧ Below W.heap.size W w')) (C2 : Hid (∀ W, Pts W (.slice a n cap) l → Calls Try.prog 23 #[.slice a n cap, .agg #[.int .i64 A, .int .i64 M]] W fun e w' => e = .returned (.tuple #[.int .i64 S, .int .i64 0]) ∧ Below W.heap.size W w')) (C3 : Hid (∀ W, Pts W (.slice a n cap) l → Calls Try.prog 23 #[.slice a n cap, .agg #[.int .i64 p, .int .i64 m]] W fun e w' => e = .returned (.tuple #[.int .i64 X, .int .i64 0]) ∧ Below W.heap.size W w')) (d3 : decide (S < X) = false) (C4 : Hid (∀ W, Pts W (.slice a n cap) l → Calls Try.prog 23 #[.slice a n cap, .agg #[.int .i64 r, .int .i64 s]] W fun e w' => e = .returned (.tuple #[.int .i64 Y, .int .i64 H]) ∧ Below W.heap.size W w')) (h : (H != 0) = true) :
    Calls Try.prog 5 #[.slice a n cap, .agg #[.int .i64 A, .int .i64 M], .int .i64 m] w fun e w' => e = .returned (.bool true) ∧ Below w.heap.size w w' := by
  have HA := Lib.hid (fun W => awakeM_any W)
  have FW := Lib.hid (fun v W h => few_any v l W h)
  rw [hf] at FW
  have HB := Lib.hid (Below.refl w.heap.size w)
  have T0 := Lib.hid (Two.new w (.int .i64 A) (.int .i64 M) 24)
  replace HB := Lib.hid (bel_alloc (w := w) (o := .cells #[.int .i64 A, .int .i64 M] 24) (Below.refl _ _))
  replace NV := Lib.hid (NV.out.alloc (.cells #[.int .i64 A, .int .i64 M] 24))
  obtain ⟨T00, T01, T02, T03, T04⟩ := T0.out
  go_enter Try.func5, Try.ntmps5
  go_wp2_with fail
  refine (HA.out _).mono ?_
  rintro e w27 ⟨rfl, h1⟩
  replace NV := Lib.hid (NV.out.below h1)
  replace T0 := Lib.hid (T0.out.below h1)
  replace HB := Lib.hid (bel_trans HB.out h1); clear h1
  obtain ⟨T00, T01, T02, T03, T04⟩ := T0.out
  go_wp2_with fail
  refine (FW.out _ _ NV.out).mono ?_
  rintro e w90 ⟨rfl, hw⟩
  subst hw
  go_wp2_with fail
  refine (C1.out _).mono ?_
  rintro e w29 ⟨rfl, h1⟩
  replace NV := Lib.hid (NV.out.below h1)
  replace T0 := Lib.hid (T0.out.below h1)
  replace HB := Lib.hid (bel_trans HB.out h1); clear h1
  have T1 := Lib.hid ((Two.new (w29) (.int .i64 p) (.int .i64 m) 24).alloc (.cells #[.int .i64 r, .int .i64 s] 24))
  have T2 := Lib.hid (two_new1 (w29) (.cells #[.int .i64 p, .int .i64 m] 24) (.int .i64 r) (.int .i64 s) 24)
  replace T0 := Lib.hid ((T0.out.alloc (.cells #[.int .i64 p, .int .i64 m] 24)).alloc (.cells #[.int .i64 r, .int .i64 s] 24))
  replace NV := Lib.hid ((NV.out.alloc (.cells #[.int .i64 p, .int .i64 m] 24)).alloc (.cells #[.int .i64 r, .int .i64 s] 24))
  replace HB := Lib.hid (bel_trans HB.out (bel_alloc (bel_alloc (Below.refl _ (((w29).alloc (.cells #[.int .i64 p, .int .i64 m] 24)).alloc (.cells #[.int .i64 r, .int .i64 s] 24))))))
  obtain ⟨T00, T01, T02, T03, T04⟩ := T0.out
  obtain ⟨T10, T11, T12, T13, T14⟩ := T1.out
  obtain ⟨T20, T21, T22, T23, T24⟩ := T2.out
  go_wp2_with fail
  refine (C2.out _ NV.out).mono ?_
  rintro e w32 ⟨rfl, h1⟩
  replace NV := Lib.hid (NV.out.below h1)
  replace T0 := Lib.hid (T0.out.below h1)
  replace T1 := Lib.hid (T1.out.below h1)
  replace T2 := Lib.hid (T2.out.below h1)
  replace HB := Lib.hid (bel_trans HB.out h1); clear h1
  obtain ⟨T00, T01, T02, T03, T04⟩ := T0.out
  obtain ⟨T10, T11, T12, T13, T14⟩ := T1.out
  obtain ⟨T20, T21, T22, T23, T24⟩ := T2.out
  go_wp2_with fail
  refine (C3.out _ NV.out).mono ?_
  rintro e w34 ⟨rfl, h1⟩
  replace NV := Lib.hid (NV.out.below h1)
  replace T0 := Lib.hid (T0.out.below h1)
  replace T1 := Lib.hid (T1.out.below h1)
  replace T2 := Lib.hid (T2.out.below h1)
  replace HB := Lib.hid (bel_trans HB.out h1); clear h1
  obtain ⟨T00, T01, T02, T03, T04⟩ := T0.out
  obtain ⟨T10, T11, T12, T13, T14⟩ := T1.out
  obtain ⟨T20, T21, T22, T23, T24⟩ := T2.out
  go_wp2_with fail
  refine (C4.out _ NV.out).mono ?_
  rintro e w36 ⟨rfl, h1⟩
  replace NV := Lib.hid (NV.out.below h1)
  replace T0 := Lib.hid (T0.out.below h1)
  replace T1 := Lib.hid (T1.out.below h1)
  replace T2 := Lib.hid (T2.out.below h1)
  replace HB := Lib.hid (bel_trans HB.out h1); clear h1
  obtain ⟨T00, T01, T02, T03, T04⟩ := T0.out
  obtain ⟨T10, T11, T12, T13, T14⟩ := T1.out
  obtain ⟨T20, T21, T22, T23, T24⟩ := T2.out
  go_wp2
  go_returns
  exact ⟨rfl, HB.out⟩
set_option maxHeartbeats 16000000 in
set_option maxRecDepth 100000 in
theorem fullB (a : Option Addr) (n cap : Nat) (A M m p r s S X Y H : Int) (l : List (Int × Int)) (w : World) (NV : Hid (Pts w (.slice a n cap) l)) (hf : fwB l.length = true) (q1 : decide (p < 0) = false) (q2 : decide (r < 0) = false) (w1 : IntKind.i64.wrap (p + r) = A) (w2 : IntKind.i64.wrap (m + s) = M) (C1 : Hid (∀ W, Calls Try.prog 13 #[.agg #[.int .i64 A, .int .i64 M], .int .i64 m] W fun e w' => e = .returned (.tuple #[.agg #[.int .i64 p, .int .i64 m], .agg #[.int .i64 r, .int .i64 s], .int .i64 0]) ∧ Below W.heap.size W w')) (C2 : Hid (∀ W, Pts W (.slice a n cap) l → Calls Try.prog 23 #[.slice a n cap, .agg #[.int .i64 A, .int .i64 M]] W fun e w' => e = .returned (.tuple #[.int .i64 S, .int .i64 0]) ∧ Below W.heap.size W w')) (C3 : Hid (∀ W, Pts W (.slice a n cap) l → Calls Try.prog 23 #[.slice a n cap, .agg #[.int .i64 p, .int .i64 m]] W fun e w' => e = .returned (.tuple #[.int .i64 X, .int .i64 0]) ∧ Below W.heap.size W w')) (d3 : decide (S < X) = false) (C4 : Hid (∀ W, Pts W (.slice a n cap) l → Calls Try.prog 23 #[.slice a n cap, .agg #[.int .i64 r, .int .i64 s]] W fun e w' => e = .returned (.tuple #[.int .i64 Y, .int .i64 H]) ∧ Below W.heap.size W w')) (h : (H != 0) = false) (h2 : (s == 0) = true) :
    Calls Try.prog 5 #[.slice a n cap, .agg #[.int .i64 A, .int .i64 M], .int .i64 m] w fun e w' => e = .returned (.bool true) ∧ Below w.heap.size w w' := by
  have HA := Lib.hid (fun W => awakeM_any W)
  have FW := Lib.hid (fun v W h => few_any v l W h)
  rw [hf] at FW
  have HB := Lib.hid (Below.refl w.heap.size w)
  have T0 := Lib.hid (Two.new w (.int .i64 A) (.int .i64 M) 24)
  replace HB := Lib.hid (bel_alloc (w := w) (o := .cells #[.int .i64 A, .int .i64 M] 24) (Below.refl _ _))
  replace NV := Lib.hid (NV.out.alloc (.cells #[.int .i64 A, .int .i64 M] 24))
  obtain ⟨T00, T01, T02, T03, T04⟩ := T0.out
  go_enter Try.func5, Try.ntmps5
  go_wp2_with fail
  refine (HA.out _).mono ?_
  rintro e w41 ⟨rfl, h1⟩
  replace NV := Lib.hid (NV.out.below h1)
  replace T0 := Lib.hid (T0.out.below h1)
  replace HB := Lib.hid (bel_trans HB.out h1); clear h1
  obtain ⟨T00, T01, T02, T03, T04⟩ := T0.out
  go_wp2_with fail
  refine (FW.out _ _ NV.out).mono ?_
  rintro e w90 ⟨rfl, hw⟩
  subst hw
  go_wp2_with fail
  refine (C1.out _).mono ?_
  rintro e w43 ⟨rfl, h1⟩
  replace NV := Lib.hid (NV.out.below h1)
  replace T0 := Lib.hid (T0.out.below h1)
  replace HB := Lib.hid (bel_trans HB.out h1); clear h1
  have T1 := Lib.hid ((Two.new (w43) (.int .i64 p) (.int .i64 m) 24).alloc (.cells #[.int .i64 r, .int .i64 s] 24))
  have T2 := Lib.hid (two_new1 (w43) (.cells #[.int .i64 p, .int .i64 m] 24) (.int .i64 r) (.int .i64 s) 24)
  replace T0 := Lib.hid ((T0.out.alloc (.cells #[.int .i64 p, .int .i64 m] 24)).alloc (.cells #[.int .i64 r, .int .i64 s] 24))
  replace NV := Lib.hid ((NV.out.alloc (.cells #[.int .i64 p, .int .i64 m] 24)).alloc (.cells #[.int .i64 r, .int .i64 s] 24))
  replace HB := Lib.hid (bel_trans HB.out (bel_alloc (bel_alloc (Below.refl _ (((w43).alloc (.cells #[.int .i64 p, .int .i64 m] 24)).alloc (.cells #[.int .i64 r, .int .i64 s] 24))))))
  obtain ⟨T00, T01, T02, T03, T04⟩ := T0.out
  obtain ⟨T10, T11, T12, T13, T14⟩ := T1.out
  obtain ⟨T20, T21, T22, T23, T24⟩ := T2.out
  go_wp2_with fail
  refine (C2.out _ NV.out).mono ?_
  rintro e w46 ⟨rfl, h1⟩
  replace NV := Lib.hid (NV.out.below h1)
  replace T0 := Lib.hid (T0.out.below h1)
  replace T1 := Lib.hid (T1.out.below h1)
  replace T2 := Lib.hid (T2.out.below h1)
  replace HB := Lib.hid (bel_trans HB.out h1); clear h1
  obtain ⟨T00, T01, T02, T03, T04⟩ := T0.out
  obtain ⟨T10, T11, T12, T13, T14⟩ := T1.out
  obtain ⟨T20, T21, T22, T23, T24⟩ := T2.out
  go_wp2_with fail
  refine (C3.out _ NV.out).mono ?_
  rintro e w48 ⟨rfl, h1⟩
  replace NV := Lib.hid (NV.out.below h1)
  replace T0 := Lib.hid (T0.out.below h1)
  replace T1 := Lib.hid (T1.out.below h1)
  replace T2 := Lib.hid (T2.out.below h1)
  replace HB := Lib.hid (bel_trans HB.out h1); clear h1
  obtain ⟨T00, T01, T02, T03, T04⟩ := T0.out
  obtain ⟨T10, T11, T12, T13, T14⟩ := T1.out
  obtain ⟨T20, T21, T22, T23, T24⟩ := T2.out
  go_wp2_with fail
  refine (C4.out _ NV.out).mono ?_
  rintro e w50 ⟨rfl, h1⟩
  replace NV := Lib.hid (NV.out.below h1)
  replace T0 := Lib.hid (T0.out.below h1)
  replace T1 := Lib.hid (T1.out.below h1)
  replace T2 := Lib.hid (T2.out.below h1)
  replace HB := Lib.hid (bel_trans HB.out h1); clear h1
  obtain ⟨T00, T01, T02, T03, T04⟩ := T0.out
  obtain ⟨T10, T11, T12, T13, T14⟩ := T1.out
  obtain ⟨T20, T21, T22, T23, T24⟩ := T2.out
  go_wp2
  go_returns
  exact ⟨rfl, HB.out⟩
set_option maxHeartbeats 16000000 in
set_option maxRecDepth 100000 in
theorem fullC (a : Option Addr) (n cap : Nat) (A M m p r s S X Y H : Int) (l : List (Int × Int)) (w : World) (NV : Hid (Pts w (.slice a n cap) l)) (hf : fwB l.length = true) (q1 : decide (p < 0) = false) (q2 : decide (r < 0) = false) (w1 : IntKind.i64.wrap (p + r) = A) (w2 : IntKind.i64.wrap (m + s) = M) (C1 : Hid (∀ W, Calls Try.prog 13 #[.agg #[.int .i64 A, .int .i64 M], .int .i64 m] W fun e w' => e = .returned (.tuple #[.agg #[.int .i64 p, .int .i64 m], .agg #[.int .i64 r, .int .i64 s], .int .i64 0]) ∧ Below W.heap.size W w')) (C2 : Hid (∀ W, Pts W (.slice a n cap) l → Calls Try.prog 23 #[.slice a n cap, .agg #[.int .i64 A, .int .i64 M]] W fun e w' => e = .returned (.tuple #[.int .i64 S, .int .i64 0]) ∧ Below W.heap.size W w')) (C3 : Hid (∀ W, Pts W (.slice a n cap) l → Calls Try.prog 23 #[.slice a n cap, .agg #[.int .i64 p, .int .i64 m]] W fun e w' => e = .returned (.tuple #[.int .i64 X, .int .i64 0]) ∧ Below W.heap.size W w')) (d3 : decide (S < X) = false) (C4 : Hid (∀ W, Pts W (.slice a n cap) l → Calls Try.prog 23 #[.slice a n cap, .agg #[.int .i64 r, .int .i64 s]] W fun e w' => e = .returned (.tuple #[.int .i64 Y, .int .i64 H]) ∧ Below W.heap.size W w')) (h : (H != 0) = false) (h2 : (s == 0) = false) (h3 : decide (S ≤ Y) = true) :
    Calls Try.prog 5 #[.slice a n cap, .agg #[.int .i64 A, .int .i64 M], .int .i64 m] w fun e w' => e = .returned (.bool true) ∧ Below w.heap.size w w' := by
  have HA := Lib.hid (fun W => awakeM_any W)
  have FW := Lib.hid (fun v W h => few_any v l W h)
  rw [hf] at FW
  have HB := Lib.hid (Below.refl w.heap.size w)
  have T0 := Lib.hid (Two.new w (.int .i64 A) (.int .i64 M) 24)
  replace HB := Lib.hid (bel_alloc (w := w) (o := .cells #[.int .i64 A, .int .i64 M] 24) (Below.refl _ _))
  replace NV := Lib.hid (NV.out.alloc (.cells #[.int .i64 A, .int .i64 M] 24))
  obtain ⟨T00, T01, T02, T03, T04⟩ := T0.out
  go_enter Try.func5, Try.ntmps5
  go_wp2_with fail
  refine (HA.out _).mono ?_
  rintro e w55 ⟨rfl, h1⟩
  replace NV := Lib.hid (NV.out.below h1)
  replace T0 := Lib.hid (T0.out.below h1)
  replace HB := Lib.hid (bel_trans HB.out h1); clear h1
  obtain ⟨T00, T01, T02, T03, T04⟩ := T0.out
  go_wp2_with fail
  refine (FW.out _ _ NV.out).mono ?_
  rintro e w90 ⟨rfl, hw⟩
  subst hw
  go_wp2_with fail
  refine (C1.out _).mono ?_
  rintro e w57 ⟨rfl, h1⟩
  replace NV := Lib.hid (NV.out.below h1)
  replace T0 := Lib.hid (T0.out.below h1)
  replace HB := Lib.hid (bel_trans HB.out h1); clear h1
  have T1 := Lib.hid ((Two.new (w57) (.int .i64 p) (.int .i64 m) 24).alloc (.cells #[.int .i64 r, .int .i64 s] 24))
  have T2 := Lib.hid (two_new1 (w57) (.cells #[.int .i64 p, .int .i64 m] 24) (.int .i64 r) (.int .i64 s) 24)
  replace T0 := Lib.hid ((T0.out.alloc (.cells #[.int .i64 p, .int .i64 m] 24)).alloc (.cells #[.int .i64 r, .int .i64 s] 24))
  replace NV := Lib.hid ((NV.out.alloc (.cells #[.int .i64 p, .int .i64 m] 24)).alloc (.cells #[.int .i64 r, .int .i64 s] 24))
  replace HB := Lib.hid (bel_trans HB.out (bel_alloc (bel_alloc (Below.refl _ (((w57).alloc (.cells #[.int .i64 p, .int .i64 m] 24)).alloc (.cells #[.int .i64 r, .int .i64 s] 24))))))
  obtain ⟨T00, T01, T02, T03, T04⟩ := T0.out
  obtain ⟨T10, T11, T12, T13, T14⟩ := T1.out
  obtain ⟨T20, T21, T22, T23, T24⟩ := T2.out
  go_wp2_with fail
  refine (C2.out _ NV.out).mono ?_
  rintro e w60 ⟨rfl, h1⟩
  replace NV := Lib.hid (NV.out.below h1)
  replace T0 := Lib.hid (T0.out.below h1)
  replace T1 := Lib.hid (T1.out.below h1)
  replace T2 := Lib.hid (T2.out.below h1)
  replace HB := Lib.hid (bel_trans HB.out h1); clear h1
  obtain ⟨T00, T01, T02, T03, T04⟩ := T0.out
  obtain ⟨T10, T11, T12, T13, T14⟩ := T1.out
  obtain ⟨T20, T21, T22, T23, T24⟩ := T2.out
  go_wp2_with fail
  refine (C3.out _ NV.out).mono ?_
  rintro e w62 ⟨rfl, h1⟩
  replace NV := Lib.hid (NV.out.below h1)
  replace T0 := Lib.hid (T0.out.below h1)
  replace T1 := Lib.hid (T1.out.below h1)
  replace T2 := Lib.hid (T2.out.below h1)
  replace HB := Lib.hid (bel_trans HB.out h1); clear h1
  obtain ⟨T00, T01, T02, T03, T04⟩ := T0.out
  obtain ⟨T10, T11, T12, T13, T14⟩ := T1.out
  obtain ⟨T20, T21, T22, T23, T24⟩ := T2.out
  go_wp2_with fail
  refine (C4.out _ NV.out).mono ?_
  rintro e w64 ⟨rfl, h1⟩
  replace NV := Lib.hid (NV.out.below h1)
  replace T0 := Lib.hid (T0.out.below h1)
  replace T1 := Lib.hid (T1.out.below h1)
  replace T2 := Lib.hid (T2.out.below h1)
  replace HB := Lib.hid (bel_trans HB.out h1); clear h1
  obtain ⟨T00, T01, T02, T03, T04⟩ := T0.out
  obtain ⟨T10, T11, T12, T13, T14⟩ := T1.out
  obtain ⟨T20, T21, T22, T23, T24⟩ := T2.out
  go_wp2
  go_returns
  exact ⟨rfl, HB.out⟩
theorem walk (v : Value) (l : List (Int × Int)) (A M m : Int) (w : World) (hv : Pts w v l) (_ : -9223372036854775808 ≤ A ∧ A ≤ 9223372036854775807) (_ : -9223372036854775808 ≤ M ∧ M ≤ 9223372036854775807) (_ : -9223372036854775808 ≤ m ∧ m ≤ 9223372036854775807) :
    Calls Try.prog 5 #[v, .agg #[.int .i64 A, .int .i64 M], .int .i64 m] w fun e w' => e = .returned (.bool true) ∧ Below w.heap.size w w' := by
  obtain ⟨a, cap, rfl, hcap, hh⟩ := id hv
  cases hf : fwB l.length with
  | false => exact long a _ cap A M m l w hv hf
  | true =>
    have C1 := fun W => mxDr_any A M m W
    by_cases h1 : drE A M m = 0
    · obtain ⟨hp, m0, m1⟩ := drE_zero.1 h1
      obtain ⟨e1, e2, e3, e4⟩ := drV_ok h1
      rw [h1, e1, e2, e3, e4] at C1
      obtain ⟨p1, p2, p3, p4, p5⟩ := plB_iff.1 hp
      have b := draw_bd hp m0 m1
      have C2 := fun W h => alSt_any (.slice a l.length cap) l A M W h
      have q1 : decide (A * m / M < 0) = false := decide_eq_false (by omega)
      have q2 : decide (A - A * m / M < 0) = false := decide_eq_false (by omega)
      have w1 : IntKind.i64.wrap (A * m / M + (A - A * m / M)) = A := by rw [wrap_in _ ⟨by omega, by omega⟩]; omega
      have w2 : IntKind.i64.wrap (m + (M - m)) = M := by rw [wrap_in _ ⟨by omega, by omega⟩]; omega
      by_cases he : alE l A M = 0
      · obtain ⟨hD, g⟩ := alE_zero.1 he
        obtain ⟨g1, k1⟩ := drawn_less hD g m0 m1 b.1 b.2.2.1 b.2.1
        have C3 := fun W h => alSt_any (.slice a l.length cap) l (A * m / M) m W h
        have C4 := fun W h => alSt_any (.slice a l.length cap) l (A - A * m / M) (M - m) W h
        rw [show meE l A M = 0 by unfold meE; rw [if_pos he], (sgV_ok hD g).1] at C2
        rw [show meE l (A * m / M) m = 0 by unfold meE; rw [if_pos (alE_zero.2 ⟨hD, g1⟩)], (sgV_ok hD g1).1] at C3
        by_cases h4 : alE l (A - A * m / M) (M - m) = 0
        · obtain ⟨_, g2⟩ := alE_zero.1 h4
          have h4e : meE l (A - A * m / M) (M - m) = 0 := by unfold meE; rw [if_pos h4]
          by_cases z : M - m = 0
          · exact fullB a _ cap A M m _ _ _ _ _ _ _ l w hv hf q1 q2 w1 w2 (Lib.hid C1) (Lib.hid C2) (Lib.hid C3) (decide_eq_false (by omega)) (Lib.hid C4) (by rw [h4e]; rfl) (by simpa using z)
          · have k2 := left_more hD g m0 m1 b.2.2.1 g2 z
            rw [(sgV_ok hD g2).1] at C4
            exact fullC a _ cap A M m _ _ _ _ _ _ _ l w hv hf q1 q2 w1 w2 (Lib.hid C1) (Lib.hid C2) (Lib.hid C3) (decide_eq_false (by omega)) (Lib.hid C4) (by rw [h4e]; rfl) (by simpa using z) (decide_eq_true k2)
        · have h4e : meE l (A - A * m / M) (M - m) = 1 := by unfold meE; rw [if_neg h4]
          exact fullA a _ cap A M m _ _ _ _ _ _ _ l w hv hf q1 q2 w1 w2 (Lib.hid C1) (Lib.hid C2) (Lib.hid C3) (decide_eq_false (by omega)) (Lib.hid C4) (by rw [h4e]; rfl)
      · rw [show meE l A M = 1 by unfold meE; rw [if_neg he], show sgV l A M = 0 by unfold sgV; rw [if_neg he]] at C2
        exact nos a _ cap A M m _ _ _ 1 l w hv hf q1 q2 w1 w2 (Lib.hid C1) rfl (Lib.hid C2)
    · obtain ⟨y1, y2, y3, y4⟩ := drV_no h1
      rw [y1, y2, y3, y4] at C1
      exact bad a _ cap A M m _ l w hv hf (by rw [bne_iff_ne]; exact h1) (Lib.hid C1)

set_option maxRecDepth 100000 in
theorem lifted (os : Os) (started : os.Started) (H : Type) (enc : TypeId × Value → H) :
    ReturnsInHanded {} Try.checked os 5 .any (Rows.mixDrawsSpec.pre6 enc Try.prog Try.f5 Rows.mixDrawsRow.domain false) (Rows.mixDrawsSpec.post enc Try.prog Try.f5 false true false false) := by
  refine returnsInHanded_of_change (C := Try.checked) own started (by kernel_rfl) Try.func5
    (ChangeSpec.witness6 (enc := enc) (C := Try.checked) false ⟨#[], #[.slice none 0 0, .agg #[.int .i64 0, .int .i64 0], .int .i64 0], []⟩ 8 (by kernel_rfl) (by kernel_rfl) (by kernel_rfl) (by kernel_rfl)) ?_
  intro W base args ds gs before hval0 hW hcnd _
  have hval : ∀ (j : Nat) t v, Try.f5.params[j]? = some t → args[j]? = some v → Value.okWide Try.prog W .any base t v := hval0
  clear hval0
  have hW' := hW
  obtain ⟨p, q, hA0, hV, rfl, hfz, hnd⟩ := hW
  have hA : DataW.TrodAll enc Try.prog W 0 (fun _ => true) true Try.f5.params.toList args.toList ds p := hA0
  rw [Try.params5] at hA hval
  obtain ⟨v0, vs0, d0, ds0, p0, q0, hargs, rfl, rfl, h0, r0⟩ := trodAll_cons hA
  obtain ⟨v1, vs1, d1, ds1, p1, q1, rfl, rfl, rfl, h1, r1⟩ := trodAll_cons r0
  obtain ⟨v2, vs2, d2, ds2, p2, q2, rfl, rfl, rfl, h2, r2⟩ := trodAll_cons r1
  obtain ⟨rfl, rfl, rfl⟩ := trodAll_nil r2
  obtain rfl : args = #[v0, v1, v2] := by cases args; simp_all
  obtain ⟨rfl, rfl⟩ := trodVars_none hV
  have k0 := h0
  have lt0 : ∀ x ∈ p0, x.block < W.heap.size := by obtain ⟨m, hm⟩ := k0; exact DataW.trod_lt m _ _ _ hm
  have k1 := h1
  have lt1 : ∀ x ∈ p1, x.block < W.heap.size := by obtain ⟨m, hm⟩ := k1; exact DataW.trod_lt m _ _ _ hm
  have k2 := h2
  have lt2 : ∀ x ∈ p2, x.block < W.heap.size := by obtain ⟨m, hm⟩ := k2; exact DataW.trod_lt m _ _ _ hm
  obtain ⟨z0, w0⟩ := open_pts (hval 0 36 v0 rfl rfl) h0
  obtain ⟨y1, m1, rfl, wy1, wm1⟩ := open_liq (hval 1 24 v1 rfl rfl) h1
  obtain ⟨a2, rfl, rfl, rfl, w2⟩ := open_int Try.underlying3 (hval 2 3 v2 rfl rfl) h2
  clear hA0
  refine (walk v0 z0 y1 m1 a2 W w0 wy1 wm1 (wf_bd w2)).mono fun e W' ⟨he, bel⟩ => ?_
  subst he
  exact ⟨_, rfl, _, _, _, [], _, [], hW', trodAll_mk1 (shut_bool Try.underlying4 _), (trodAll_cons_mk (Below.trod laidOut (by kernel_rfl) (of_decide_eq_true (by kernel_rfl)) k0 bel lt0) (trodAll_cons_mk (Below.trod laidOut (by kernel_rfl) (of_decide_eq_true (by kernel_rfl)) k1 bel lt1) (trodAll_cons_mk (Below.trod laidOut (by kernel_rfl) (of_decide_eq_true (by kernel_rfl)) k2 bel lt2) trodAll_mk0))), rfl, bel.frame _, fun h => by cases h⟩

theorem over : Rows.mixDrawsRow.holds Try.pinned (OpenSpec.ofChange Rows.mixDrawsSpec) :=
  OpenClaim.holds_of_wide 5 Try.f5 rfl rfl rfl rfl rfl rfl rfl ⟨rfl, rfl, rfl, rfl, rfl⟩ rfl rfl rfl rfl rfl (by kernel_rfl) Try.func5 (by kernel_rfl)
    (of_decide_eq_true (by kernel_rfl)) (by unfold Func.isWrapper; first | (rw [if_pos (by decide +kernel)]; kernel_rfl) | (rw [if_neg (by decide +kernel)]; exact ⟨rfl, rfl⟩))
    (fun os started H enc _ => lifted os started H enc)

theorem proved : Rows.MixDrawsSaid := over
#print axioms proved
end Go.Proofs.Ytfkcgdnpfngdkaa.mixDraws

