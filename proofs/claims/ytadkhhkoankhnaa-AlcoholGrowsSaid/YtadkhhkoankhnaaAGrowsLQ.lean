/-
  The statement AlcoholGrows of spile/spilelaw20 holds: for every input the call returns true, and each argument reads afterwards as it read before.
-/
import Derived.Test.YtadkhhkoankhnaaM1
import Derived.Below
import Derived.Carry
set_option linter.unusedVariables false
set_option linter.unusedSimpArgs false
namespace Go.Proofs.Ytadkhhkoankhnaa.alcoholGrows
open Go.ChangeShapes Go.WideShapes Go.ChangeAt Go.RowKit
open Go.ChangeMaps (open_string shut_string)
set_option linter.unusedVariables false

theorem grows {l : List (Int × Int)} (h : DR l) {A M B K : Int} (g : LR l A M) (g2 : LR l B K) (hM : M ≠ 0) (hAB : A ≤ B) (hKM : K ≤ M) : (sgN l A M : Int) ≤ sgN l B K := by
  have le := sgN_le l A M
  by_cases z : K = 0
  · have := g2.zero h z
    have a0 := g.a0
    have a1 := g2.a0
    have : A = 0 := by omega
    subst this z
    have sh := sgN_has h g
    rw [Int.zero_mul] at sh
    have m0 := g.m0
    rcases Nat.eq_zero_or_pos (sgN l 0 M) with e | e
    · rw [e]; omega
    · have := Int.mul_pos (show 0 < M by omega) (show (0 : Int) < (sgN l 0 M : Int) by omega)
      omega
  · have sh := sgN_has h g
    have b := at_sg h A M
    refine (sgN_iff h g2 z (by omega) (by omega)).1 ?_
    have k1 := Int.mul_le_mul_of_nonneg_right hKM (show (0 : Int) ≤ (sgN l A M : Int) by omega)
    have k2 := Int.mul_le_mul_of_nonneg_right hAB (show 0 ≤ atD l (sgN l A M) by omega)
    omega
set_option maxHeartbeats 8000000 in
set_option maxRecDepth 100000 in
theorem long (a : Option Addr) (n cap : Nat) (A M p q : Int) (l : List (Int × Int)) (w : World) (NV : Hid (Pts w (.slice a n cap) l)) (hf : fwB l.length = false) (bp : 0 ≤ p ∧ p ≤ 4294967295) (bq : 0 ≤ q ∧ q ≤ 4294967295) :
    Calls Try.prog 13 #[.slice a n cap, .agg #[.int .i64 A, .int .i64 M], .int .u32 p, .int .u32 q] w fun e w' => e = .returned (.bool true) ∧ Below w.heap.size w w' := by
  have HA := Lib.hid (fun W => awakeA_any W)
  have FW := Lib.hid (fun v W h => few_any v l W h)
  rw [hf] at FW
  have HB := Lib.hid (Below.refl w.heap.size w)
  replace HB := Lib.hid (bel_alloc (w := w) (o := .cells #[.int .i64 A, .int .i64 M] 47) (Below.refl _ _))
  have T0 := Lib.hid (Two.new w (.int .i64 A) (.int .i64 M) 47)
  replace NV := Lib.hid (NV.out.alloc (.cells #[.int .i64 A, .int .i64 M] 47))
  obtain ⟨T00, T01, T02, T03, T04⟩ := T0.out
  go_enter Try.func13, Try.ntmps13
  go_wp2_with fail
  refine (HA.out _).mono ?_
  rintro e w4 ⟨rfl, h1⟩
  replace NV := Lib.hid (NV.out.below h1)
  replace T0 := Lib.hid (T0.out.below h1)
  replace HB := Lib.hid (bel_trans HB.out h1); clear h1
  obtain ⟨T00, T01, T02, T03, T04⟩ := T0.out
  go_wp2_with fail
  refine (FW.out _ _ NV.out).mono ?_
  rintro e w90 ⟨rfl, hw⟩
  subst hw
  go_wp2
  go_returns
  exact ⟨rfl, HB.out⟩
set_option maxHeartbeats 8000000 in
set_option maxRecDepth 100000 in
theorem bad (a : Option Addr) (n cap : Nat) (A M p q : Int) (l : List (Int × Int)) (w : World) (NV : Hid (Pts w (.slice a n cap) l)) (hf : fwB l.length = true) (bp : 0 ≤ p ∧ p ≤ 4294967295) (bq : 0 ≤ q ∧ q ≤ 4294967295)
    (C1 : Hid (∀ W, Pts W (.slice a n cap) l → Calls Try.prog 38 #[.slice a n cap, .agg #[.int .i64 A, .int .i64 M]] W fun e w' => e = .returned (.tuple #[.int .i64 0, .int .i64 1]) ∧ Below W.heap.size W w')) :
    Calls Try.prog 13 #[.slice a n cap, .agg #[.int .i64 A, .int .i64 M], .int .u32 p, .int .u32 q] w fun e w' => e = .returned (.bool true) ∧ Below w.heap.size w w' := by
  have HA := Lib.hid (fun W => awakeA_any W)
  have FW := Lib.hid (fun v W h => few_any v l W h)
  rw [hf] at FW
  have HB := Lib.hid (Below.refl w.heap.size w)
  replace HB := Lib.hid (bel_alloc (w := w) (o := .cells #[.int .i64 A, .int .i64 M] 47) (Below.refl _ _))
  have T0 := Lib.hid (Two.new w (.int .i64 A) (.int .i64 M) 47)
  replace NV := Lib.hid (NV.out.alloc (.cells #[.int .i64 A, .int .i64 M] 47))
  obtain ⟨T00, T01, T02, T03, T04⟩ := T0.out
  go_enter Try.func13, Try.ntmps13
  go_wp2_with fail
  refine (HA.out _).mono ?_
  rintro e w9 ⟨rfl, h1⟩
  replace NV := Lib.hid (NV.out.below h1)
  replace T0 := Lib.hid (T0.out.below h1)
  replace HB := Lib.hid (bel_trans HB.out h1); clear h1
  obtain ⟨T00, T01, T02, T03, T04⟩ := T0.out
  go_wp2_with fail
  refine (FW.out _ _ NV.out).mono ?_
  rintro e w90 ⟨rfl, hw⟩
  subst hw
  go_wp2_with fail
  refine (C1.out _ NV.out).mono ?_
  rintro e w11 ⟨rfl, h1⟩
  replace NV := Lib.hid (NV.out.below h1)
  replace T0 := Lib.hid (T0.out.below h1)
  replace HB := Lib.hid (bel_trans HB.out h1); clear h1
  go_wp2
  go_returns
  exact ⟨rfl, HB.out⟩
set_option maxHeartbeats 16000000 in
set_option maxRecDepth 100000 in
theorem bigwet (a : Option Addr) (n cap : Nat) (A M p q S R Q F : Int) (l : List (Int × Int)) (w : World) (NV : Hid (Pts w (.slice a n cap) l)) (hf : fwB l.length = true) (bp : 0 ≤ p ∧ p ≤ 4294967295) (bq : 0 ≤ q ∧ q ≤ 4294967295) (bA : 0 ≤ A ∧ A ≤ 10737418240000) (bM : 0 ≤ M ∧ M ≤ 128849018880000) (bS : 0 ≤ S ∧ S ≤ 10000) (d1 : decide (A + p ≤ 10737418240000) = false) (d3 : decide (128849018880000 < M + q) = true)
    (C1 : Hid (∀ W, Pts W (.slice a n cap) l → Calls Try.prog 38 #[.slice a n cap, .agg #[.int .i64 A, .int .i64 M]] W fun e w' => e = .returned (.tuple #[.int .i64 S, .int .i64 0]) ∧ Below W.heap.size W w'))
 :
    Calls Try.prog 13 #[.slice a n cap, .agg #[.int .i64 A, .int .i64 M], .int .u32 p, .int .u32 q] w fun e w' => e = .returned (.bool true) ∧ Below w.heap.size w w' := by
  have wp : IntKind.i64.wrap p = p := wrap_in _ ⟨by omega, by omega⟩
  have wq : IntKind.i64.wrap q = q := wrap_in _ ⟨by omega, by omega⟩
  have HA := Lib.hid (fun W => awakeA_any W)
  have FW := Lib.hid (fun v W h => few_any v l W h)
  rw [hf] at FW
  have HB := Lib.hid (Below.refl w.heap.size w)
  replace HB := Lib.hid (bel_alloc (w := w) (o := .cells #[.int .i64 A, .int .i64 M] 47) (Below.refl _ _))
  have T0 := Lib.hid (Two.new w (.int .i64 A) (.int .i64 M) 47)
  replace NV := Lib.hid (NV.out.alloc (.cells #[.int .i64 A, .int .i64 M] 47))
  obtain ⟨T00, T01, T02, T03, T04⟩ := T0.out
  go_enter Try.func13, Try.ntmps13
  go_wp2_with fail
  refine (HA.out _).mono ?_
  rintro e w15 ⟨rfl, h1⟩
  replace NV := Lib.hid (NV.out.below h1)
  replace T0 := Lib.hid (T0.out.below h1)
  replace HB := Lib.hid (bel_trans HB.out h1); clear h1
  obtain ⟨T00, T01, T02, T03, T04⟩ := T0.out
  go_wp2_with fail
  refine (FW.out _ _ NV.out).mono ?_
  rintro e w90 ⟨rfl, hw⟩
  subst hw
  go_wp2_with fail
  refine (C1.out _ NV.out).mono ?_
  rintro e w17 ⟨rfl, h1⟩
  replace NV := Lib.hid (NV.out.below h1)
  replace T0 := Lib.hid (T0.out.below h1)
  replace HB := Lib.hid (bel_trans HB.out h1); clear h1
  obtain ⟨T00, T01, T02, T03, T04⟩ := T0.out
  go_wp2
  go_returns
  exact ⟨rfl, HB.out⟩
set_option maxHeartbeats 16000000 in
set_option maxRecDepth 100000 in
theorem bigdry (a : Option Addr) (n cap : Nat) (A M p q S R Q F : Int) (l : List (Int × Int)) (w : World) (NV : Hid (Pts w (.slice a n cap) l)) (hf : fwB l.length = true) (bp : 0 ≤ p ∧ p ≤ 4294967295) (bq : 0 ≤ q ∧ q ≤ 4294967295) (bA : 0 ≤ A ∧ A ≤ 10737418240000) (bM : 0 ≤ M ∧ M ≤ 128849018880000) (bS : 0 ≤ S ∧ S ≤ 10000) (d1 : decide (A + p ≤ 10737418240000) = false) (d3 : decide (128849018880000 < M + q) = false) (d4 : (M == 0) = true)
    (C1 : Hid (∀ W, Pts W (.slice a n cap) l → Calls Try.prog 38 #[.slice a n cap, .agg #[.int .i64 A, .int .i64 M]] W fun e w' => e = .returned (.tuple #[.int .i64 S, .int .i64 0]) ∧ Below W.heap.size W w'))
 :
    Calls Try.prog 13 #[.slice a n cap, .agg #[.int .i64 A, .int .i64 M], .int .u32 p, .int .u32 q] w fun e w' => e = .returned (.bool true) ∧ Below w.heap.size w w' := by
  have wp : IntKind.i64.wrap p = p := wrap_in _ ⟨by omega, by omega⟩
  have wq : IntKind.i64.wrap q = q := wrap_in _ ⟨by omega, by omega⟩
  obtain rfl : M = 0 := by simpa using d4
  have HA := Lib.hid (fun W => awakeA_any W)
  have FW := Lib.hid (fun v W h => few_any v l W h)
  rw [hf] at FW
  have HB := Lib.hid (Below.refl w.heap.size w)
  replace HB := Lib.hid (bel_alloc (w := w) (o := .cells #[.int .i64 A, .int .i64 0] 47) (Below.refl _ _))
  have T0 := Lib.hid (Two.new w (.int .i64 A) (.int .i64 0) 47)
  replace NV := Lib.hid (NV.out.alloc (.cells #[.int .i64 A, .int .i64 0] 47))
  obtain ⟨T00, T01, T02, T03, T04⟩ := T0.out
  go_enter Try.func13, Try.ntmps13
  go_wp2_with fail
  refine (HA.out _).mono ?_
  rintro e w22 ⟨rfl, h1⟩
  replace NV := Lib.hid (NV.out.below h1)
  replace T0 := Lib.hid (T0.out.below h1)
  replace HB := Lib.hid (bel_trans HB.out h1); clear h1
  obtain ⟨T00, T01, T02, T03, T04⟩ := T0.out
  go_wp2_with fail
  refine (FW.out _ _ NV.out).mono ?_
  rintro e w90 ⟨rfl, hw⟩
  subst hw
  go_wp2_with fail
  refine (C1.out _ NV.out).mono ?_
  rintro e w24 ⟨rfl, h1⟩
  replace NV := Lib.hid (NV.out.below h1)
  replace T0 := Lib.hid (T0.out.below h1)
  replace HB := Lib.hid (bel_trans HB.out h1); clear h1
  obtain ⟨T00, T01, T02, T03, T04⟩ := T0.out
  go_wp2
  go_returns
  exact ⟨rfl, HB.out⟩
set_option maxHeartbeats 16000000 in
set_option maxRecDepth 100000 in
theorem bigall (a : Option Addr) (n cap : Nat) (A M p q S R Q F : Int) (l : List (Int × Int)) (w : World) (NV : Hid (Pts w (.slice a n cap) l)) (hf : fwB l.length = true) (bp : 0 ≤ p ∧ p ≤ 4294967295) (bq : 0 ≤ q ∧ q ≤ 4294967295) (bA : 0 ≤ A ∧ A ≤ 10737418240000) (bM : 0 ≤ M ∧ M ≤ 128849018880000) (bS : 0 ≤ S ∧ S ≤ 10000) (d1 : decide (A + p ≤ 10737418240000) = false) (d3 : decide (128849018880000 < M + q) = false) (d4 : (M == 0) = false) (d5 : decide (Q ≤ S) = true)
    (C1 : Hid (∀ W, Pts W (.slice a n cap) l → Calls Try.prog 38 #[.slice a n cap, .agg #[.int .i64 A, .int .i64 M]] W fun e w' => e = .returned (.tuple #[.int .i64 S, .int .i64 0]) ∧ Below W.heap.size W w'))
    (C3 : Hid (∀ W, Pts W (.slice a n cap) l → Calls Try.prog 38 #[.slice a n cap, .agg #[.int .i64 A, .int .i64 (M + q)]] W fun e w' => e = .returned (.tuple #[.int .i64 Q, .int .i64 0]) ∧ Below W.heap.size W w')) :
    Calls Try.prog 13 #[.slice a n cap, .agg #[.int .i64 A, .int .i64 M], .int .u32 p, .int .u32 q] w fun e w' => e = .returned (.bool true) ∧ Below w.heap.size w w' := by
  have wp : IntKind.i64.wrap p = p := wrap_in _ ⟨by omega, by omega⟩
  have wq : IntKind.i64.wrap q = q := wrap_in _ ⟨by omega, by omega⟩
  have HA := Lib.hid (fun W => awakeA_any W)
  have FW := Lib.hid (fun v W h => few_any v l W h)
  rw [hf] at FW
  have HB := Lib.hid (Below.refl w.heap.size w)
  replace HB := Lib.hid (bel_alloc (w := w) (o := .cells #[.int .i64 A, .int .i64 M] 47) (Below.refl _ _))
  have T0 := Lib.hid (Two.new w (.int .i64 A) (.int .i64 M) 47)
  replace NV := Lib.hid (NV.out.alloc (.cells #[.int .i64 A, .int .i64 M] 47))
  obtain ⟨T00, T01, T02, T03, T04⟩ := T0.out
  go_enter Try.func13, Try.ntmps13
  go_wp2_with fail
  refine (HA.out _).mono ?_
  rintro e w29 ⟨rfl, h1⟩
  replace NV := Lib.hid (NV.out.below h1)
  replace T0 := Lib.hid (T0.out.below h1)
  replace HB := Lib.hid (bel_trans HB.out h1); clear h1
  obtain ⟨T00, T01, T02, T03, T04⟩ := T0.out
  go_wp2_with fail
  refine (FW.out _ _ NV.out).mono ?_
  rintro e w90 ⟨rfl, hw⟩
  subst hw
  go_wp2_with fail
  refine (C1.out _ NV.out).mono ?_
  rintro e w31 ⟨rfl, h1⟩
  replace NV := Lib.hid (NV.out.below h1)
  replace T0 := Lib.hid (T0.out.below h1)
  replace HB := Lib.hid (bel_trans HB.out h1); clear h1
  obtain ⟨T00, T01, T02, T03, T04⟩ := T0.out
  go_wp2_with fail
  refine (C3.out _ NV.out).mono ?_
  rintro e w33 ⟨rfl, h1⟩
  replace NV := Lib.hid (NV.out.below h1)
  replace T0 := Lib.hid (T0.out.below h1)
  replace HB := Lib.hid (bel_trans HB.out h1); clear h1
  go_wp2
  go_returns
  exact ⟨rfl, HB.out⟩
set_option maxHeartbeats 16000000 in
set_option maxRecDepth 100000 in
theorem okwet (a : Option Addr) (n cap : Nat) (A M p q S R Q F : Int) (l : List (Int × Int)) (w : World) (NV : Hid (Pts w (.slice a n cap) l)) (hf : fwB l.length = true) (bp : 0 ≤ p ∧ p ≤ 4294967295) (bq : 0 ≤ q ∧ q ≤ 4294967295) (bA : 0 ≤ A ∧ A ≤ 10737418240000) (bM : 0 ≤ M ∧ M ≤ 128849018880000) (bS : 0 ≤ S ∧ S ≤ 10000) (d1 : decide (A + p ≤ 10737418240000) = true) (d2 : decide (R < S) = false) (d3 : decide (128849018880000 < M + q) = true)
    (C1 : Hid (∀ W, Pts W (.slice a n cap) l → Calls Try.prog 38 #[.slice a n cap, .agg #[.int .i64 A, .int .i64 M]] W fun e w' => e = .returned (.tuple #[.int .i64 S, .int .i64 0]) ∧ Below W.heap.size W w'))
    (C2 : Hid (∀ W, Pts W (.slice a n cap) l → Calls Try.prog 38 #[.slice a n cap, .agg #[.int .i64 (A + p), .int .i64 M]] W fun e w' => e = .returned (.tuple #[.int .i64 R, .int .i64 0]) ∧ Below W.heap.size W w')) :
    Calls Try.prog 13 #[.slice a n cap, .agg #[.int .i64 A, .int .i64 M], .int .u32 p, .int .u32 q] w fun e w' => e = .returned (.bool true) ∧ Below w.heap.size w w' := by
  have wp : IntKind.i64.wrap p = p := wrap_in _ ⟨by omega, by omega⟩
  have wq : IntKind.i64.wrap q = q := wrap_in _ ⟨by omega, by omega⟩
  have HA := Lib.hid (fun W => awakeA_any W)
  have FW := Lib.hid (fun v W h => few_any v l W h)
  rw [hf] at FW
  have HB := Lib.hid (Below.refl w.heap.size w)
  replace HB := Lib.hid (bel_alloc (w := w) (o := .cells #[.int .i64 A, .int .i64 M] 47) (Below.refl _ _))
  have T0 := Lib.hid (Two.new w (.int .i64 A) (.int .i64 M) 47)
  replace NV := Lib.hid (NV.out.alloc (.cells #[.int .i64 A, .int .i64 M] 47))
  obtain ⟨T00, T01, T02, T03, T04⟩ := T0.out
  go_enter Try.func13, Try.ntmps13
  go_wp2_with fail
  refine (HA.out _).mono ?_
  rintro e w37 ⟨rfl, h1⟩
  replace NV := Lib.hid (NV.out.below h1)
  replace T0 := Lib.hid (T0.out.below h1)
  replace HB := Lib.hid (bel_trans HB.out h1); clear h1
  obtain ⟨T00, T01, T02, T03, T04⟩ := T0.out
  go_wp2_with fail
  refine (FW.out _ _ NV.out).mono ?_
  rintro e w90 ⟨rfl, hw⟩
  subst hw
  go_wp2_with fail
  refine (C1.out _ NV.out).mono ?_
  rintro e w39 ⟨rfl, h1⟩
  replace NV := Lib.hid (NV.out.below h1)
  replace T0 := Lib.hid (T0.out.below h1)
  replace HB := Lib.hid (bel_trans HB.out h1); clear h1
  obtain ⟨T00, T01, T02, T03, T04⟩ := T0.out
  have T1 := Lib.hid (Two.new (w39) (.int .i64 (A + p)) (.int .i64 M) 47)
  replace NV := Lib.hid (NV.out.alloc (.cells #[.int .i64 (A + p), .int .i64 M] 47))
  replace T0 := Lib.hid (T0.out.alloc (.cells #[.int .i64 (A + p), .int .i64 M] 47))
  replace HB := Lib.hid (HB.out.alloc HB.out.size (.cells #[.int .i64 (A + p), .int .i64 M] 47))
  obtain ⟨T10, T11, T12, T13, T14⟩ := T1.out
  go_wp2_with fail
  refine (C2.out _ NV.out).mono ?_
  rintro e w43 ⟨rfl, h1⟩
  replace NV := Lib.hid (NV.out.below h1)
  replace T0 := Lib.hid (T0.out.below h1)
  replace T1 := Lib.hid (T1.out.below h1)
  replace HB := Lib.hid (bel_trans HB.out h1); clear h1
  obtain ⟨T00, T01, T02, T03, T04⟩ := T0.out
  obtain ⟨T10, T11, T12, T13, T14⟩ := T1.out
  go_wp2
  go_returns
  exact ⟨rfl, HB.out⟩
set_option maxHeartbeats 16000000 in
set_option maxRecDepth 100000 in
theorem okdry (a : Option Addr) (n cap : Nat) (A M p q S R Q F : Int) (l : List (Int × Int)) (w : World) (NV : Hid (Pts w (.slice a n cap) l)) (hf : fwB l.length = true) (bp : 0 ≤ p ∧ p ≤ 4294967295) (bq : 0 ≤ q ∧ q ≤ 4294967295) (bA : 0 ≤ A ∧ A ≤ 10737418240000) (bM : 0 ≤ M ∧ M ≤ 128849018880000) (bS : 0 ≤ S ∧ S ≤ 10000) (d1 : decide (A + p ≤ 10737418240000) = true) (d2 : decide (R < S) = false) (d3 : decide (128849018880000 < M + q) = false) (d4 : (M == 0) = true)
    (C1 : Hid (∀ W, Pts W (.slice a n cap) l → Calls Try.prog 38 #[.slice a n cap, .agg #[.int .i64 A, .int .i64 M]] W fun e w' => e = .returned (.tuple #[.int .i64 S, .int .i64 0]) ∧ Below W.heap.size W w'))
    (C2 : Hid (∀ W, Pts W (.slice a n cap) l → Calls Try.prog 38 #[.slice a n cap, .agg #[.int .i64 (A + p), .int .i64 M]] W fun e w' => e = .returned (.tuple #[.int .i64 R, .int .i64 0]) ∧ Below W.heap.size W w')) :
    Calls Try.prog 13 #[.slice a n cap, .agg #[.int .i64 A, .int .i64 M], .int .u32 p, .int .u32 q] w fun e w' => e = .returned (.bool true) ∧ Below w.heap.size w w' := by
  have wp : IntKind.i64.wrap p = p := wrap_in _ ⟨by omega, by omega⟩
  have wq : IntKind.i64.wrap q = q := wrap_in _ ⟨by omega, by omega⟩
  obtain rfl : M = 0 := by simpa using d4
  have HA := Lib.hid (fun W => awakeA_any W)
  have FW := Lib.hid (fun v W h => few_any v l W h)
  rw [hf] at FW
  have HB := Lib.hid (Below.refl w.heap.size w)
  replace HB := Lib.hid (bel_alloc (w := w) (o := .cells #[.int .i64 A, .int .i64 0] 47) (Below.refl _ _))
  have T0 := Lib.hid (Two.new w (.int .i64 A) (.int .i64 0) 47)
  replace NV := Lib.hid (NV.out.alloc (.cells #[.int .i64 A, .int .i64 0] 47))
  obtain ⟨T00, T01, T02, T03, T04⟩ := T0.out
  go_enter Try.func13, Try.ntmps13
  go_wp2_with fail
  refine (HA.out _).mono ?_
  rintro e w49 ⟨rfl, h1⟩
  replace NV := Lib.hid (NV.out.below h1)
  replace T0 := Lib.hid (T0.out.below h1)
  replace HB := Lib.hid (bel_trans HB.out h1); clear h1
  obtain ⟨T00, T01, T02, T03, T04⟩ := T0.out
  go_wp2_with fail
  refine (FW.out _ _ NV.out).mono ?_
  rintro e w90 ⟨rfl, hw⟩
  subst hw
  go_wp2_with fail
  refine (C1.out _ NV.out).mono ?_
  rintro e w51 ⟨rfl, h1⟩
  replace NV := Lib.hid (NV.out.below h1)
  replace T0 := Lib.hid (T0.out.below h1)
  replace HB := Lib.hid (bel_trans HB.out h1); clear h1
  obtain ⟨T00, T01, T02, T03, T04⟩ := T0.out
  have T1 := Lib.hid (Two.new (w51) (.int .i64 (A + p)) (.int .i64 0) 47)
  replace NV := Lib.hid (NV.out.alloc (.cells #[.int .i64 (A + p), .int .i64 0] 47))
  replace T0 := Lib.hid (T0.out.alloc (.cells #[.int .i64 (A + p), .int .i64 0] 47))
  replace HB := Lib.hid (HB.out.alloc HB.out.size (.cells #[.int .i64 (A + p), .int .i64 0] 47))
  obtain ⟨T10, T11, T12, T13, T14⟩ := T1.out
  go_wp2_with fail
  refine (C2.out _ NV.out).mono ?_
  rintro e w55 ⟨rfl, h1⟩
  replace NV := Lib.hid (NV.out.below h1)
  replace T0 := Lib.hid (T0.out.below h1)
  replace T1 := Lib.hid (T1.out.below h1)
  replace HB := Lib.hid (bel_trans HB.out h1); clear h1
  obtain ⟨T00, T01, T02, T03, T04⟩ := T0.out
  obtain ⟨T10, T11, T12, T13, T14⟩ := T1.out
  go_wp2
  go_returns
  exact ⟨rfl, HB.out⟩
set_option maxHeartbeats 16000000 in
set_option maxRecDepth 100000 in
theorem okall (a : Option Addr) (n cap : Nat) (A M p q S R Q F : Int) (l : List (Int × Int)) (w : World) (NV : Hid (Pts w (.slice a n cap) l)) (hf : fwB l.length = true) (bp : 0 ≤ p ∧ p ≤ 4294967295) (bq : 0 ≤ q ∧ q ≤ 4294967295) (bA : 0 ≤ A ∧ A ≤ 10737418240000) (bM : 0 ≤ M ∧ M ≤ 128849018880000) (bS : 0 ≤ S ∧ S ≤ 10000) (d1 : decide (A + p ≤ 10737418240000) = true) (d2 : decide (R < S) = false) (d3 : decide (128849018880000 < M + q) = false) (d4 : (M == 0) = false) (d5 : decide (Q ≤ S) = true)
    (C1 : Hid (∀ W, Pts W (.slice a n cap) l → Calls Try.prog 38 #[.slice a n cap, .agg #[.int .i64 A, .int .i64 M]] W fun e w' => e = .returned (.tuple #[.int .i64 S, .int .i64 0]) ∧ Below W.heap.size W w'))
    (C2 : Hid (∀ W, Pts W (.slice a n cap) l → Calls Try.prog 38 #[.slice a n cap, .agg #[.int .i64 (A + p), .int .i64 M]] W fun e w' => e = .returned (.tuple #[.int .i64 R, .int .i64 0]) ∧ Below W.heap.size W w'))
    (C3 : Hid (∀ W, Pts W (.slice a n cap) l → Calls Try.prog 38 #[.slice a n cap, .agg #[.int .i64 A, .int .i64 (M + q)]] W fun e w' => e = .returned (.tuple #[.int .i64 Q, .int .i64 0]) ∧ Below W.heap.size W w')) :
    Calls Try.prog 13 #[.slice a n cap, .agg #[.int .i64 A, .int .i64 M], .int .u32 p, .int .u32 q] w fun e w' => e = .returned (.bool true) ∧ Below w.heap.size w w' := by
  have wp : IntKind.i64.wrap p = p := wrap_in _ ⟨by omega, by omega⟩
  have wq : IntKind.i64.wrap q = q := wrap_in _ ⟨by omega, by omega⟩
  have HA := Lib.hid (fun W => awakeA_any W)
  have FW := Lib.hid (fun v W h => few_any v l W h)
  rw [hf] at FW
  have HB := Lib.hid (Below.refl w.heap.size w)
  replace HB := Lib.hid (bel_alloc (w := w) (o := .cells #[.int .i64 A, .int .i64 M] 47) (Below.refl _ _))
  have T0 := Lib.hid (Two.new w (.int .i64 A) (.int .i64 M) 47)
  replace NV := Lib.hid (NV.out.alloc (.cells #[.int .i64 A, .int .i64 M] 47))
  obtain ⟨T00, T01, T02, T03, T04⟩ := T0.out
  go_enter Try.func13, Try.ntmps13
  go_wp2_with fail
  refine (HA.out _).mono ?_
  rintro e w61 ⟨rfl, h1⟩
  replace NV := Lib.hid (NV.out.below h1)
  replace T0 := Lib.hid (T0.out.below h1)
  replace HB := Lib.hid (bel_trans HB.out h1); clear h1
  obtain ⟨T00, T01, T02, T03, T04⟩ := T0.out
  go_wp2_with fail
  refine (FW.out _ _ NV.out).mono ?_
  rintro e w90 ⟨rfl, hw⟩
  subst hw
  go_wp2_with fail
  refine (C1.out _ NV.out).mono ?_
  rintro e w63 ⟨rfl, h1⟩
  replace NV := Lib.hid (NV.out.below h1)
  replace T0 := Lib.hid (T0.out.below h1)
  replace HB := Lib.hid (bel_trans HB.out h1); clear h1
  obtain ⟨T00, T01, T02, T03, T04⟩ := T0.out
  have T1 := Lib.hid (Two.new (w63) (.int .i64 (A + p)) (.int .i64 M) 47)
  replace NV := Lib.hid (NV.out.alloc (.cells #[.int .i64 (A + p), .int .i64 M] 47))
  replace T0 := Lib.hid (T0.out.alloc (.cells #[.int .i64 (A + p), .int .i64 M] 47))
  replace HB := Lib.hid (HB.out.alloc HB.out.size (.cells #[.int .i64 (A + p), .int .i64 M] 47))
  obtain ⟨T10, T11, T12, T13, T14⟩ := T1.out
  go_wp2_with fail
  refine (C2.out _ NV.out).mono ?_
  rintro e w67 ⟨rfl, h1⟩
  replace NV := Lib.hid (NV.out.below h1)
  replace T0 := Lib.hid (T0.out.below h1)
  replace T1 := Lib.hid (T1.out.below h1)
  replace HB := Lib.hid (bel_trans HB.out h1); clear h1
  obtain ⟨T00, T01, T02, T03, T04⟩ := T0.out
  obtain ⟨T10, T11, T12, T13, T14⟩ := T1.out
  go_wp2_with fail
  refine (C3.out _ NV.out).mono ?_
  rintro e w70 ⟨rfl, h1⟩
  replace NV := Lib.hid (NV.out.below h1)
  replace T0 := Lib.hid (T0.out.below h1)
  replace T1 := Lib.hid (T1.out.below h1)
  replace HB := Lib.hid (bel_trans HB.out h1); clear h1
  go_wp2
  go_returns
  exact ⟨rfl, HB.out⟩
set_option maxHeartbeats 16000000 in
set_option maxRecDepth 100000 in
theorem nowet (a : Option Addr) (n cap : Nat) (A M p q S R Q F : Int) (l : List (Int × Int)) (w : World) (NV : Hid (Pts w (.slice a n cap) l)) (hf : fwB l.length = true) (bp : 0 ≤ p ∧ p ≤ 4294967295) (bq : 0 ≤ q ∧ q ≤ 4294967295) (bA : 0 ≤ A ∧ A ≤ 10737418240000) (bM : 0 ≤ M ∧ M ≤ 128849018880000) (bS : 0 ≤ S ∧ S ≤ 10000) (d1 : decide (A + p ≤ 10737418240000) = true) (d2 : (F == 0) = false) (d3 : decide (128849018880000 < M + q) = true)
    (C1 : Hid (∀ W, Pts W (.slice a n cap) l → Calls Try.prog 38 #[.slice a n cap, .agg #[.int .i64 A, .int .i64 M]] W fun e w' => e = .returned (.tuple #[.int .i64 S, .int .i64 0]) ∧ Below W.heap.size W w'))
    (C2 : Hid (∀ W, Pts W (.slice a n cap) l → Calls Try.prog 38 #[.slice a n cap, .agg #[.int .i64 (A + p), .int .i64 M]] W fun e w' => e = .returned (.tuple #[.int .i64 R, .int .i64 1]) ∧ Below W.heap.size W w'))
    (C4 : Hid (∀ W, Pts W (.slice a n cap) l → Calls Try.prog 36 #[.slice a n cap, .agg #[.int .i64 (A + p), .int .i64 M]] W fun e w' => e = .returned (.int .i64 F) ∧ Below W.heap.size W w')) :
    Calls Try.prog 13 #[.slice a n cap, .agg #[.int .i64 A, .int .i64 M], .int .u32 p, .int .u32 q] w fun e w' => e = .returned (.bool true) ∧ Below w.heap.size w w' := by
  have wp : IntKind.i64.wrap p = p := wrap_in _ ⟨by omega, by omega⟩
  have wq : IntKind.i64.wrap q = q := wrap_in _ ⟨by omega, by omega⟩
  have HA := Lib.hid (fun W => awakeA_any W)
  have FW := Lib.hid (fun v W h => few_any v l W h)
  rw [hf] at FW
  have HB := Lib.hid (Below.refl w.heap.size w)
  replace HB := Lib.hid (bel_alloc (w := w) (o := .cells #[.int .i64 A, .int .i64 M] 47) (Below.refl _ _))
  have T0 := Lib.hid (Two.new w (.int .i64 A) (.int .i64 M) 47)
  replace NV := Lib.hid (NV.out.alloc (.cells #[.int .i64 A, .int .i64 M] 47))
  obtain ⟨T00, T01, T02, T03, T04⟩ := T0.out
  go_enter Try.func13, Try.ntmps13
  go_wp2_with fail
  refine (HA.out _).mono ?_
  rintro e w74 ⟨rfl, h1⟩
  replace NV := Lib.hid (NV.out.below h1)
  replace T0 := Lib.hid (T0.out.below h1)
  replace HB := Lib.hid (bel_trans HB.out h1); clear h1
  obtain ⟨T00, T01, T02, T03, T04⟩ := T0.out
  go_wp2_with fail
  refine (FW.out _ _ NV.out).mono ?_
  rintro e w90 ⟨rfl, hw⟩
  subst hw
  go_wp2_with fail
  refine (C1.out _ NV.out).mono ?_
  rintro e w76 ⟨rfl, h1⟩
  replace NV := Lib.hid (NV.out.below h1)
  replace T0 := Lib.hid (T0.out.below h1)
  replace HB := Lib.hid (bel_trans HB.out h1); clear h1
  obtain ⟨T00, T01, T02, T03, T04⟩ := T0.out
  have T1 := Lib.hid (Two.new (w76) (.int .i64 (A + p)) (.int .i64 M) 47)
  replace NV := Lib.hid (NV.out.alloc (.cells #[.int .i64 (A + p), .int .i64 M] 47))
  replace T0 := Lib.hid (T0.out.alloc (.cells #[.int .i64 (A + p), .int .i64 M] 47))
  replace HB := Lib.hid (HB.out.alloc HB.out.size (.cells #[.int .i64 (A + p), .int .i64 M] 47))
  obtain ⟨T10, T11, T12, T13, T14⟩ := T1.out
  go_wp2_with fail
  refine (C2.out _ NV.out).mono ?_
  rintro e w80 ⟨rfl, h1⟩
  replace NV := Lib.hid (NV.out.below h1)
  replace T0 := Lib.hid (T0.out.below h1)
  replace T1 := Lib.hid (T1.out.below h1)
  replace HB := Lib.hid (bel_trans HB.out h1); clear h1
  obtain ⟨T00, T01, T02, T03, T04⟩ := T0.out
  obtain ⟨T10, T11, T12, T13, T14⟩ := T1.out
  go_wp2_with fail
  refine (C4.out _ NV.out).mono ?_
  rintro e w83 ⟨rfl, h1⟩
  replace NV := Lib.hid (NV.out.below h1)
  replace T0 := Lib.hid (T0.out.below h1)
  replace T1 := Lib.hid (T1.out.below h1)
  replace HB := Lib.hid (bel_trans HB.out h1); clear h1
  obtain ⟨T00, T01, T02, T03, T04⟩ := T0.out
  obtain ⟨T10, T11, T12, T13, T14⟩ := T1.out
  go_wp2
  go_returns
  exact ⟨rfl, HB.out⟩
set_option maxHeartbeats 16000000 in
set_option maxRecDepth 100000 in
theorem nodry (a : Option Addr) (n cap : Nat) (A M p q S R Q F : Int) (l : List (Int × Int)) (w : World) (NV : Hid (Pts w (.slice a n cap) l)) (hf : fwB l.length = true) (bp : 0 ≤ p ∧ p ≤ 4294967295) (bq : 0 ≤ q ∧ q ≤ 4294967295) (bA : 0 ≤ A ∧ A ≤ 10737418240000) (bM : 0 ≤ M ∧ M ≤ 128849018880000) (bS : 0 ≤ S ∧ S ≤ 10000) (d1 : decide (A + p ≤ 10737418240000) = true) (d2 : (F == 0) = false) (d3 : decide (128849018880000 < M + q) = false) (d4 : (M == 0) = true)
    (C1 : Hid (∀ W, Pts W (.slice a n cap) l → Calls Try.prog 38 #[.slice a n cap, .agg #[.int .i64 A, .int .i64 M]] W fun e w' => e = .returned (.tuple #[.int .i64 S, .int .i64 0]) ∧ Below W.heap.size W w'))
    (C2 : Hid (∀ W, Pts W (.slice a n cap) l → Calls Try.prog 38 #[.slice a n cap, .agg #[.int .i64 (A + p), .int .i64 M]] W fun e w' => e = .returned (.tuple #[.int .i64 R, .int .i64 1]) ∧ Below W.heap.size W w'))
    (C4 : Hid (∀ W, Pts W (.slice a n cap) l → Calls Try.prog 36 #[.slice a n cap, .agg #[.int .i64 (A + p), .int .i64 M]] W fun e w' => e = .returned (.int .i64 F) ∧ Below W.heap.size W w')) :
    Calls Try.prog 13 #[.slice a n cap, .agg #[.int .i64 A, .int .i64 M], .int .u32 p, .int .u32 q] w fun e w' => e = .returned (.bool true) ∧ Below w.heap.size w w' := by
  have wp : IntKind.i64.wrap p = p := wrap_in _ ⟨by omega, by omega⟩
  have wq : IntKind.i64.wrap q = q := wrap_in _ ⟨by omega, by omega⟩
  obtain rfl : M = 0 := by simpa using d4
  have HA := Lib.hid (fun W => awakeA_any W)
  have FW := Lib.hid (fun v W h => few_any v l W h)
  rw [hf] at FW
  have HB := Lib.hid (Below.refl w.heap.size w)
  replace HB := Lib.hid (bel_alloc (w := w) (o := .cells #[.int .i64 A, .int .i64 0] 47) (Below.refl _ _))
  have T0 := Lib.hid (Two.new w (.int .i64 A) (.int .i64 0) 47)
  replace NV := Lib.hid (NV.out.alloc (.cells #[.int .i64 A, .int .i64 0] 47))
  obtain ⟨T00, T01, T02, T03, T04⟩ := T0.out
  go_enter Try.func13, Try.ntmps13
  go_wp2_with fail
  refine (HA.out _).mono ?_
  rintro e w89 ⟨rfl, h1⟩
  replace NV := Lib.hid (NV.out.below h1)
  replace T0 := Lib.hid (T0.out.below h1)
  replace HB := Lib.hid (bel_trans HB.out h1); clear h1
  obtain ⟨T00, T01, T02, T03, T04⟩ := T0.out
  go_wp2_with fail
  refine (FW.out _ _ NV.out).mono ?_
  rintro e w90 ⟨rfl, hw⟩
  subst hw
  go_wp2_with fail
  refine (C1.out _ NV.out).mono ?_
  rintro e w91 ⟨rfl, h1⟩
  replace NV := Lib.hid (NV.out.below h1)
  replace T0 := Lib.hid (T0.out.below h1)
  replace HB := Lib.hid (bel_trans HB.out h1); clear h1
  obtain ⟨T00, T01, T02, T03, T04⟩ := T0.out
  have T1 := Lib.hid (Two.new (w91) (.int .i64 (A + p)) (.int .i64 0) 47)
  replace NV := Lib.hid (NV.out.alloc (.cells #[.int .i64 (A + p), .int .i64 0] 47))
  replace T0 := Lib.hid (T0.out.alloc (.cells #[.int .i64 (A + p), .int .i64 0] 47))
  replace HB := Lib.hid (HB.out.alloc HB.out.size (.cells #[.int .i64 (A + p), .int .i64 0] 47))
  obtain ⟨T10, T11, T12, T13, T14⟩ := T1.out
  go_wp2_with fail
  refine (C2.out _ NV.out).mono ?_
  rintro e w95 ⟨rfl, h1⟩
  replace NV := Lib.hid (NV.out.below h1)
  replace T0 := Lib.hid (T0.out.below h1)
  replace T1 := Lib.hid (T1.out.below h1)
  replace HB := Lib.hid (bel_trans HB.out h1); clear h1
  obtain ⟨T00, T01, T02, T03, T04⟩ := T0.out
  obtain ⟨T10, T11, T12, T13, T14⟩ := T1.out
  go_wp2_with fail
  refine (C4.out _ NV.out).mono ?_
  rintro e w98 ⟨rfl, h1⟩
  replace NV := Lib.hid (NV.out.below h1)
  replace T0 := Lib.hid (T0.out.below h1)
  replace T1 := Lib.hid (T1.out.below h1)
  replace HB := Lib.hid (bel_trans HB.out h1); clear h1
  obtain ⟨T00, T01, T02, T03, T04⟩ := T0.out
  obtain ⟨T10, T11, T12, T13, T14⟩ := T1.out
  go_wp2
  go_returns
  exact ⟨rfl, HB.out⟩
set_option maxHeartbeats 16000000 in
set_option maxRecDepth 100000 in
theorem noall (a : Option Addr) (n cap : Nat) (A M p q S R Q F : Int) (l : List (Int × Int)) (w : World) (NV : Hid (Pts w (.slice a n cap) l)) (hf : fwB l.length = true) (bp : 0 ≤ p ∧ p ≤ 4294967295) (bq : 0 ≤ q ∧ q ≤ 4294967295) (bA : 0 ≤ A ∧ A ≤ 10737418240000) (bM : 0 ≤ M ∧ M ≤ 128849018880000) (bS : 0 ≤ S ∧ S ≤ 10000) (d1 : decide (A + p ≤ 10737418240000) = true) (d2 : (F == 0) = false) (d3 : decide (128849018880000 < M + q) = false) (d4 : (M == 0) = false) (d5 : decide (Q ≤ S) = true)
    (C1 : Hid (∀ W, Pts W (.slice a n cap) l → Calls Try.prog 38 #[.slice a n cap, .agg #[.int .i64 A, .int .i64 M]] W fun e w' => e = .returned (.tuple #[.int .i64 S, .int .i64 0]) ∧ Below W.heap.size W w'))
    (C2 : Hid (∀ W, Pts W (.slice a n cap) l → Calls Try.prog 38 #[.slice a n cap, .agg #[.int .i64 (A + p), .int .i64 M]] W fun e w' => e = .returned (.tuple #[.int .i64 R, .int .i64 1]) ∧ Below W.heap.size W w'))
    (C4 : Hid (∀ W, Pts W (.slice a n cap) l → Calls Try.prog 36 #[.slice a n cap, .agg #[.int .i64 (A + p), .int .i64 M]] W fun e w' => e = .returned (.int .i64 F) ∧ Below W.heap.size W w'))
    (C3 : Hid (∀ W, Pts W (.slice a n cap) l → Calls Try.prog 38 #[.slice a n cap, .agg #[.int .i64 A, .int .i64 (M + q)]] W fun e w' => e = .returned (.tuple #[.int .i64 Q, .int .i64 0]) ∧ Below W.heap.size W w')) :
    Calls Try.prog 13 #[.slice a n cap, .agg #[.int .i64 A, .int .i64 M], .int .u32 p, .int .u32 q] w fun e w' => e = .returned (.bool true) ∧ Below w.heap.size w w' := by
  have wp : IntKind.i64.wrap p = p := wrap_in _ ⟨by omega, by omega⟩
  have wq : IntKind.i64.wrap q = q := wrap_in _ ⟨by omega, by omega⟩
  have HA := Lib.hid (fun W => awakeA_any W)
  have FW := Lib.hid (fun v W h => few_any v l W h)
  rw [hf] at FW
  have HB := Lib.hid (Below.refl w.heap.size w)
  replace HB := Lib.hid (bel_alloc (w := w) (o := .cells #[.int .i64 A, .int .i64 M] 47) (Below.refl _ _))
  have T0 := Lib.hid (Two.new w (.int .i64 A) (.int .i64 M) 47)
  replace NV := Lib.hid (NV.out.alloc (.cells #[.int .i64 A, .int .i64 M] 47))
  obtain ⟨T00, T01, T02, T03, T04⟩ := T0.out
  go_enter Try.func13, Try.ntmps13
  go_wp2_with fail
  refine (HA.out _).mono ?_
  rintro e w104 ⟨rfl, h1⟩
  replace NV := Lib.hid (NV.out.below h1)
  replace T0 := Lib.hid (T0.out.below h1)
  replace HB := Lib.hid (bel_trans HB.out h1); clear h1
  obtain ⟨T00, T01, T02, T03, T04⟩ := T0.out
  go_wp2_with fail
  refine (FW.out _ _ NV.out).mono ?_
  rintro e w90 ⟨rfl, hw⟩
  subst hw
  go_wp2_with fail
  refine (C1.out _ NV.out).mono ?_
  rintro e w106 ⟨rfl, h1⟩
  replace NV := Lib.hid (NV.out.below h1)
  replace T0 := Lib.hid (T0.out.below h1)
  replace HB := Lib.hid (bel_trans HB.out h1); clear h1
  obtain ⟨T00, T01, T02, T03, T04⟩ := T0.out
  have T1 := Lib.hid (Two.new (w106) (.int .i64 (A + p)) (.int .i64 M) 47)
  replace NV := Lib.hid (NV.out.alloc (.cells #[.int .i64 (A + p), .int .i64 M] 47))
  replace T0 := Lib.hid (T0.out.alloc (.cells #[.int .i64 (A + p), .int .i64 M] 47))
  replace HB := Lib.hid (HB.out.alloc HB.out.size (.cells #[.int .i64 (A + p), .int .i64 M] 47))
  obtain ⟨T10, T11, T12, T13, T14⟩ := T1.out
  go_wp2_with fail
  refine (C2.out _ NV.out).mono ?_
  rintro e w110 ⟨rfl, h1⟩
  replace NV := Lib.hid (NV.out.below h1)
  replace T0 := Lib.hid (T0.out.below h1)
  replace T1 := Lib.hid (T1.out.below h1)
  replace HB := Lib.hid (bel_trans HB.out h1); clear h1
  obtain ⟨T00, T01, T02, T03, T04⟩ := T0.out
  obtain ⟨T10, T11, T12, T13, T14⟩ := T1.out
  go_wp2_with fail
  refine (C4.out _ NV.out).mono ?_
  rintro e w113 ⟨rfl, h1⟩
  replace NV := Lib.hid (NV.out.below h1)
  replace T0 := Lib.hid (T0.out.below h1)
  replace T1 := Lib.hid (T1.out.below h1)
  replace HB := Lib.hid (bel_trans HB.out h1); clear h1
  obtain ⟨T00, T01, T02, T03, T04⟩ := T0.out
  obtain ⟨T10, T11, T12, T13, T14⟩ := T1.out
  go_wp2_with fail
  refine (C3.out _ NV.out).mono ?_
  rintro e w116 ⟨rfl, h1⟩
  replace NV := Lib.hid (NV.out.below h1)
  replace T0 := Lib.hid (T0.out.below h1)
  replace T1 := Lib.hid (T1.out.below h1)
  replace HB := Lib.hid (bel_trans HB.out h1); clear h1
  go_wp2
  go_returns
  exact ⟨rfl, HB.out⟩
theorem walk (v : Value) (l : List (Int × Int)) (A M p q : Int) (w : World) (hv : Pts w v l) (_ : -9223372036854775808 ≤ A ∧ A ≤ 9223372036854775807) (_ : -9223372036854775808 ≤ M ∧ M ≤ 9223372036854775807) (bp : 0 ≤ p ∧ p ≤ 4294967295) (bq : 0 ≤ q ∧ q ≤ 4294967295) :
    Calls Try.prog 13 #[v, .agg #[.int .i64 A, .int .i64 M], .int .u32 p, .int .u32 q] w fun e w' => e = .returned (.bool true) ∧ Below w.heap.size w w' := by
  have hv2 := Lib.hid hv
  obtain ⟨a, cap, rfl, _, _⟩ := hv.shape
  cases h : fwB l.length with
  | false => exact long a l.length cap A M p q l w hv2 h bp bq
  | true =>
    have C1 := fun W h => alSt_any (.slice a l.length cap) l A M W h
    by_cases he : alE l A M = 0
    · obtain ⟨hD, hL⟩ := alE_zero.1 he
      have le := sgN_le l A M
      have bA : 0 ≤ A ∧ A ≤ 10737418240000 := ⟨hL.a0, hL.a1⟩
      have bM : 0 ≤ M ∧ M ≤ 128849018880000 := ⟨hL.m0, hL.m1⟩
      have bS : 0 ≤ (sgN l A M : Int) ∧ (sgN l A M : Int) ≤ 10000 := ⟨by omega, by omega⟩
      rw [show sgV l A M = (sgN l A M : Int) by unfold sgV; rw [if_pos he], show meE l A M = 0 by unfold meE; rw [if_pos he]] at C1
      replace C1 := Lib.hid C1
      have tt := hL.t
      have C3 : ∀ _ : ¬ 128849018880000 < M + q, ∀ _ : M ≠ 0, ∀ W, Pts W (.slice a l.length cap) l → Calls Try.prog 38 #[.slice a l.length cap, .agg #[.int .i64 A, .int .i64 (M + q)]] W fun e w' => e = .returned (.tuple #[.int .i64 (sgN l A (M + q) : Nat), .int .i64 0]) ∧ Below W.heap.size W w' := fun g1 _ W h => by
        have := alSt_any (.slice a l.length cap) l A (M + q) W h
        have hL3 : LR l A (M + q) := ⟨bA.1, bA.2, by omega, by omega, by omega⟩
        have e3 := alE_zero.2 ⟨hD, hL3⟩
        rwa [show sgV l A (M + q) = (sgN l A (M + q) : Int) by unfold sgV; rw [if_pos e3], show meE l A (M + q) = 0 by unfold meE; rw [if_pos e3]] at this
      have k3 : ∀ _ : ¬ 128849018880000 < M + q, ∀ _ : M ≠ 0, (sgN l A (M + q) : Int) ≤ sgN l A M := fun g1 g2 => grows hD (A := A) (B := A) ⟨bA.1, bA.2, by omega, by omega, by omega⟩ hL (by omega) (Int.le_refl _) (by omega)
      have C2 := fun W h => alSt_any (.slice a l.length cap) l (A + p) M W h
      have C4 := fun W h => alChk_any (.slice a l.length cap) l (A + p) M W h
      by_cases g0 : A + p ≤ 10737418240000
      · by_cases he2 : alE l (A + p) M = 0
        · obtain ⟨_, hL2⟩ := alE_zero.1 he2
          rw [show sgV l (A + p) M = (sgN l (A + p) M : Int) by unfold sgV; rw [if_pos he2], show meE l (A + p) M = 0 by unfold meE; rw [if_pos he2]] at C2
          have k2 : (sgN l A M : Int) ≤ sgN l (A + p) M := by
            by_cases z : M = 0
            · have e1 := hL.zero hD z
              rw [z, e1, sgN_dry]; omega
            · exact grows hD hL hL2 z (by omega) (Int.le_refl _)
          by_cases g1 : 128849018880000 < M + q
          · exact okwet a l.length cap A M p q _ _ 0 0 l w hv2 h bp bq bA bM bS (decide_eq_true g0) (decide_eq_false (by omega)) (decide_eq_true g1) C1 (Lib.hid C2)
          · by_cases z : M = 0
            · exact okdry a l.length cap A M p q _ _ 0 0 l w hv2 h bp bq bA bM bS (decide_eq_true g0) (decide_eq_false (by omega)) (decide_eq_false g1) (by simpa using z) C1 (Lib.hid C2)
            · exact okall a l.length cap A M p q _ _ _ 0 l w hv2 h bp bq bA bM bS (decide_eq_true g0) (decide_eq_false (by omega)) (decide_eq_false g1) (by simpa using z) (decide_eq_true (k3 g1 z)) C1 (Lib.hid C2) (Lib.hid (C3 g1 z))
        · rw [show meE l (A + p) M = 1 by unfold meE; rw [if_neg he2]] at C2
          by_cases g1 : 128849018880000 < M + q
          · exact nowet a l.length cap A M p q _ _ 0 _ l w hv2 h bp bq bA bM bS (decide_eq_true g0) (by simpa using he2) (decide_eq_true g1) C1 (Lib.hid C2) (Lib.hid C4)
          · by_cases z : M = 0
            · exact nodry a l.length cap A M p q _ _ 0 _ l w hv2 h bp bq bA bM bS (decide_eq_true g0) (by simpa using he2) (decide_eq_false g1) (by simpa using z) C1 (Lib.hid C2) (Lib.hid C4)
            · exact noall a l.length cap A M p q _ _ _ _ l w hv2 h bp bq bA bM bS (decide_eq_true g0) (by simpa using he2) (decide_eq_false g1) (by simpa using z) (decide_eq_true (k3 g1 z)) C1 (Lib.hid C2) (Lib.hid C4) (Lib.hid (C3 g1 z))
      · by_cases g1 : 128849018880000 < M + q
        · exact bigwet a l.length cap A M p q _ 0 0 0 l w hv2 h bp bq bA bM bS (decide_eq_false g0) (decide_eq_true g1) C1
        · by_cases z : M = 0
          · exact bigdry a l.length cap A M p q _ 0 0 0 l w hv2 h bp bq bA bM bS (decide_eq_false g0) (decide_eq_false g1) (by simpa using z) C1
          · exact bigall a l.length cap A M p q _ 0 _ 0 l w hv2 h bp bq bA bM bS (decide_eq_false g0) (decide_eq_false g1) (by simpa using z) (decide_eq_true (k3 g1 z)) C1 (Lib.hid (C3 g1 z))
    · rw [show sgV l A M = 0 by unfold sgV; rw [if_neg he], show meE l A M = 1 by unfold meE; rw [if_neg he]] at C1
      exact bad a l.length cap A M p q l w hv2 h bp bq (Lib.hid C1)

set_option maxRecDepth 100000 in
theorem lifted (os : Os) (started : os.Started) (H : Type) (enc : TypeId × Value → H) :
    ReturnsInHanded {} Try.checked os 13 .any (Rows.alcoholGrowsSpec.pre6 enc Try.prog Try.f13 Rows.alcoholGrowsRow.domain false) (Rows.alcoholGrowsSpec.post enc Try.prog Try.f13 false true false false) := by
  refine returnsInHanded_of_change (C := Try.checked) own started (by kernel_rfl) Try.func13
    (ChangeSpec.witness6 (enc := enc) (C := Try.checked) false ⟨#[], #[.slice none 0 0, .agg #[.int .i64 0, .int .i64 0], .int .u32 0, .int .u32 0], []⟩ 8 (by kernel_rfl) (by kernel_rfl) (by kernel_rfl) (by kernel_rfl)) ?_
  intro W base args ds gs before hval0 hW hcnd _
  have hval : ∀ (j : Nat) t v, Try.f13.params[j]? = some t → args[j]? = some v → Value.okWide Try.prog W .any base t v := hval0
  clear hval0
  have hW' := hW
  obtain ⟨p, q, hA0, hV, rfl, hfz, hnd⟩ := hW
  have hA : DataW.TrodAll enc Try.prog W 0 (fun _ => true) true Try.f13.params.toList args.toList ds p := hA0
  rw [Try.params13] at hA hval
  obtain ⟨v0, vs0, d0, ds0, p0, q0, hargs, rfl, rfl, h0, r0⟩ := trodAll_cons hA
  obtain ⟨v1, vs1, d1, ds1, p1, q1, rfl, rfl, rfl, h1, r1⟩ := trodAll_cons r0
  obtain ⟨v2, vs2, d2, ds2, p2, q2, rfl, rfl, rfl, h2, r2⟩ := trodAll_cons r1
  obtain ⟨v3, vs3, d3, ds3, p3, q3, rfl, rfl, rfl, h3, r3⟩ := trodAll_cons r2
  obtain ⟨rfl, rfl, rfl⟩ := trodAll_nil r3
  obtain rfl : args = #[v0, v1, v2, v3] := by cases args; simp_all
  obtain ⟨rfl, rfl⟩ := trodVars_none hV
  have k0 := h0
  have lt0 : ∀ x ∈ p0, x.block < W.heap.size := by obtain ⟨m, hm⟩ := k0; exact DataW.trod_lt m _ _ _ hm
  have k1 := h1
  have lt1 : ∀ x ∈ p1, x.block < W.heap.size := by obtain ⟨m, hm⟩ := k1; exact DataW.trod_lt m _ _ _ hm
  have k2 := h2
  have lt2 : ∀ x ∈ p2, x.block < W.heap.size := by obtain ⟨m, hm⟩ := k2; exact DataW.trod_lt m _ _ _ hm
  have k3 := h3
  have lt3 : ∀ x ∈ p3, x.block < W.heap.size := by obtain ⟨m, hm⟩ := k3; exact DataW.trod_lt m _ _ _ hm
  obtain ⟨z0, w0⟩ := open_pts (hval 0 22 v0 rfl rfl) h0
  obtain ⟨y1, m1, rfl, wy1, wm1⟩ := open_liq (hval 1 47 v1 rfl rfl) h1
  obtain ⟨a2, rfl, rfl, rfl, w2⟩ := open_int Try.underlying56 (hval 2 56 v2 rfl rfl) h2
  obtain ⟨a3, rfl, rfl, rfl, w3⟩ := open_int Try.underlying56 (hval 3 56 v3 rfl rfl) h3
  clear hA0
  refine (walk v0 z0 y1 m1 a2 a3 W w0 wy1 wm1 (bounds_u32 w2) (bounds_u32 w3)).mono fun e W' ⟨he, bel⟩ => ?_
  subst he
  exact ⟨_, rfl, _, _, _, [], _, [], hW', trodAll_mk1 (shut_bool Try.underlying4 _), (trodAll_cons_mk (Below.trod laidOut (by kernel_rfl) (of_decide_eq_true (by kernel_rfl)) k0 bel lt0) (trodAll_cons_mk (Below.trod laidOut (by kernel_rfl) (of_decide_eq_true (by kernel_rfl)) k1 bel lt1) (trodAll_cons_mk (Below.trod laidOut (by kernel_rfl) (of_decide_eq_true (by kernel_rfl)) k2 bel lt2) (trodAll_cons_mk (Below.trod laidOut (by kernel_rfl) (of_decide_eq_true (by kernel_rfl)) k3 bel lt3) trodAll_mk0)))), rfl, bel.frame _, fun h => by cases h⟩

theorem over : Rows.alcoholGrowsRow.holds Try.pinned (OpenSpec.ofChange Rows.alcoholGrowsSpec) :=
  OpenClaim.holds_of_wide 13 Try.f13 rfl rfl rfl rfl rfl rfl rfl ⟨rfl, rfl, rfl, rfl, rfl⟩ rfl rfl rfl rfl rfl (by kernel_rfl) Try.func13 (by kernel_rfl)
    (of_decide_eq_true (by kernel_rfl)) (by unfold Func.isWrapper; first | (rw [if_pos (by decide +kernel)]; kernel_rfl) | (rw [if_neg (by decide +kernel)]; exact ⟨rfl, rfl⟩))
    (fun os started H enc _ => lifted os started H enc)

theorem proved : Rows.AlcoholGrowsSaid := over
#print axioms proved
end Go.Proofs.Ytadkhhkoankhnaa.alcoholGrows

