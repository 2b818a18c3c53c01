/-
  The statement AlcoholBounds of spile/spilelaw20 holds: for every input the call returns true, and each argument reads afterwards as it read before.
-/
import Derived.Test.YtadkhhkoankhnaaM1
import Derived.Below
import Derived.Carry
set_option linter.unusedVariables false
set_option linter.unusedSimpArgs false
namespace Go.Proofs.Ytadkhhkoankhnaa.alcoholBounds
open Go.ChangeShapes Go.WideShapes Go.ChangeAt Go.RowKit
open Go.ChangeMaps (open_string shut_string)
set_option linter.unusedVariables false

set_option maxHeartbeats 4000000 in
theorem long (a : Option Addr) (n cap : Nat) (A M : Int) (l : List (Int × Int)) (w : World) (NV : Hid (Pts w (.slice a n cap) l)) (hf : fwB l.length = false) :
    Calls Try.prog 12 #[.slice a n cap, .agg #[.int .i64 A, .int .i64 M]] w fun e w' => e = .returned (.bool true) ∧ Below w.heap.size w w' := by
  have HA := Lib.hid (fun W => awakeA_any W)
  have FW := Lib.hid (fun v W h => few_any v l W h)
  rw [hf] at FW
  have HB := Lib.hid (Below.refl w.heap.size w)
  replace HB := Lib.hid (bel_alloc (w := w) (o := .cells #[.int .i64 A, .int .i64 M] 47) (Below.refl _ _))
  have T0 := Lib.hid (Two.new w (.int .i64 A) (.int .i64 M) 47)
  replace NV := Lib.hid (NV.out.alloc (.cells #[.int .i64 A, .int .i64 M] 47))
  obtain ⟨T00, T01, T02, T03, T04⟩ := T0.out
  go_enter Try.func12, Try.ntmps12
  go_wp2_with fail
  refine (HA.out _).mono ?_
  rintro e w4 ⟨rfl, h1⟩
  replace NV := Lib.hid (NV.out.below h1)
  replace T0 := Lib.hid (T0.out.below h1)
  replace HB := Lib.hid (bel_trans HB.out h1); clear h1
  obtain ⟨T00, T01, T02, T03, T04⟩ := T0.out
  go_wp2_with fail
  refine (FW.out _ _ NV.out).mono ?_
  rintro e w90 ⟨rfl, hw⟩
  subst hw
  go_wp2
  go_returns
  exact ⟨rfl, HB.out⟩
set_option maxHeartbeats 8000000 in
theorem bad (a : Option Addr) (n cap : Nat) (A M : Int) (l : List (Int × Int)) (w : World) (NV : Hid (Pts w (.slice a n cap) l)) (hf : fwB l.length = true)
    (C1 : Hid (∀ W, Pts W (.slice a n cap) l → Calls Try.prog 38 #[.slice a n cap, .agg #[.int .i64 A, .int .i64 M]] W fun e w' => e = .returned (.tuple #[.int .i64 0, .int .i64 1]) ∧ Below W.heap.size W w'))
    (C2 : Hid (∀ W, Pts W (.slice a n cap) l → Calls Try.prog 40 #[.slice a n cap, .agg #[.int .i64 A, .int .i64 M]] W fun e w' => e = .returned (.tuple #[.int .i64 0, .int .i64 1]) ∧ Below W.heap.size W w'))
    (C3 : Hid (∀ W, Pts W (.slice a n cap) l → Calls Try.prog 44 #[.slice a n cap, .agg #[.int .i64 A, .int .i64 M]] W fun e w' => e = .returned (.tuple #[.int .i64 0, .int .i64 1]) ∧ Below W.heap.size W w')) :
    Calls Try.prog 12 #[.slice a n cap, .agg #[.int .i64 A, .int .i64 M]] w fun e w' => e = .returned (.bool true) ∧ Below w.heap.size w w' := by
  have HA := Lib.hid (fun W => awakeA_any W)
  have FW := Lib.hid (fun v W h => few_any v l W h)
  rw [hf] at FW
  have HB := Lib.hid (Below.refl w.heap.size w)
  replace HB := Lib.hid (bel_alloc (w := w) (o := .cells #[.int .i64 A, .int .i64 M] 47) (Below.refl _ _))
  have T0 := Lib.hid (Two.new w (.int .i64 A) (.int .i64 M) 47)
  replace NV := Lib.hid (NV.out.alloc (.cells #[.int .i64 A, .int .i64 M] 47))
  obtain ⟨T00, T01, T02, T03, T04⟩ := T0.out
  go_enter Try.func12, Try.ntmps12
  go_wp2_with fail
  refine (HA.out _).mono ?_
  rintro e w9 ⟨rfl, h1⟩
  replace NV := Lib.hid (NV.out.below h1)
  replace T0 := Lib.hid (T0.out.below h1)
  replace HB := Lib.hid (bel_trans HB.out h1); clear h1
  obtain ⟨T00, T01, T02, T03, T04⟩ := T0.out
  go_wp2_with fail
  refine (FW.out _ _ NV.out).mono ?_
  rintro e w90 ⟨rfl, hw⟩
  subst hw
  go_wp2_with fail
  refine (C1.out _ NV.out).mono ?_
  rintro e w11 ⟨rfl, h1⟩
  replace NV := Lib.hid (NV.out.below h1)
  replace T0 := Lib.hid (T0.out.below h1)
  replace HB := Lib.hid (bel_trans HB.out h1); clear h1
  obtain ⟨T00, T01, T02, T03, T04⟩ := T0.out
  go_wp2_with fail
  refine (C2.out _ NV.out).mono ?_
  rintro e w13 ⟨rfl, h1⟩
  replace NV := Lib.hid (NV.out.below h1)
  replace T0 := Lib.hid (T0.out.below h1)
  replace HB := Lib.hid (bel_trans HB.out h1); clear h1
  obtain ⟨T00, T01, T02, T03, T04⟩ := T0.out
  go_wp2_with fail
  refine (C3.out _ NV.out).mono ?_
  rintro e w15 ⟨rfl, h1⟩
  replace NV := Lib.hid (NV.out.below h1)
  replace T0 := Lib.hid (T0.out.below h1)
  replace HB := Lib.hid (bel_trans HB.out h1); clear h1
  go_wp2
  go_returns
  exact ⟨rfl, HB.out⟩
set_option maxHeartbeats 8000000 in
theorem dry (a : Option Addr) (n cap : Nat) (A D : Int) (l : List (Int × Int)) (w : World) (NV : Hid (Pts w (.slice a n cap) l)) (hf : fwB l.length = true)
    (C1 : Hid (∀ W, Pts W (.slice a n cap) l → Calls Try.prog 38 #[.slice a n cap, .agg #[.int .i64 A, .int .i64 0]] W fun e w' => e = .returned (.tuple #[.int .i64 0, .int .i64 0]) ∧ Below W.heap.size W w'))
    (C2 : Hid (∀ W, Pts W (.slice a n cap) l → Calls Try.prog 40 #[.slice a n cap, .agg #[.int .i64 A, .int .i64 0]] W fun e w' => e = .returned (.tuple #[.int .i64 0, .int .i64 0]) ∧ Below W.heap.size W w'))
    (C3 : Hid (∀ W, Pts W (.slice a n cap) l → Calls Try.prog 44 #[.slice a n cap, .agg #[.int .i64 A, .int .i64 0]] W fun e w' => e = .returned (.tuple #[.int .i64 0, .int .i64 0]) ∧ Below W.heap.size W w'))
    (C4 : Hid (∀ W, Pts W (.slice a n cap) l → Calls Try.prog 17 #[.slice a n cap, .int .i64 0] W fun e w' => e = .returned (.tuple #[.int .i64 D, .int .i64 0]) ∧ Below W.heap.size W w')) :
    Calls Try.prog 12 #[.slice a n cap, .agg #[.int .i64 A, .int .i64 0]] w fun e w' => e = .returned (.bool true) ∧ Below w.heap.size w w' := by
  have HA := Lib.hid (fun W => awakeA_any W)
  have FW := Lib.hid (fun v W h => few_any v l W h)
  rw [hf] at FW
  have HB := Lib.hid (Below.refl w.heap.size w)
  replace HB := Lib.hid (bel_alloc (w := w) (o := .cells #[.int .i64 A, .int .i64 0] 47) (Below.refl _ _))
  have T0 := Lib.hid (Two.new w (.int .i64 A) (.int .i64 0) 47)
  replace NV := Lib.hid (NV.out.alloc (.cells #[.int .i64 A, .int .i64 0] 47))
  obtain ⟨T00, T01, T02, T03, T04⟩ := T0.out
  go_enter Try.func12, Try.ntmps12
  go_wp2_with fail
  refine (HA.out _).mono ?_
  rintro e w19 ⟨rfl, h1⟩
  replace NV := Lib.hid (NV.out.below h1)
  replace T0 := Lib.hid (T0.out.below h1)
  replace HB := Lib.hid (bel_trans HB.out h1); clear h1
  obtain ⟨T00, T01, T02, T03, T04⟩ := T0.out
  go_wp2_with fail
  refine (FW.out _ _ NV.out).mono ?_
  rintro e w90 ⟨rfl, hw⟩
  subst hw
  go_wp2_with fail
  refine (C1.out _ NV.out).mono ?_
  rintro e w21 ⟨rfl, h1⟩
  replace NV := Lib.hid (NV.out.below h1)
  replace T0 := Lib.hid (T0.out.below h1)
  replace HB := Lib.hid (bel_trans HB.out h1); clear h1
  obtain ⟨T00, T01, T02, T03, T04⟩ := T0.out
  go_wp2_with fail
  refine (C2.out _ NV.out).mono ?_
  rintro e w23 ⟨rfl, h1⟩
  replace NV := Lib.hid (NV.out.below h1)
  replace T0 := Lib.hid (T0.out.below h1)
  replace HB := Lib.hid (bel_trans HB.out h1); clear h1
  obtain ⟨T00, T01, T02, T03, T04⟩ := T0.out
  go_wp2_with fail
  refine (C3.out _ NV.out).mono ?_
  rintro e w25 ⟨rfl, h1⟩
  replace NV := Lib.hid (NV.out.below h1)
  replace T0 := Lib.hid (T0.out.below h1)
  replace HB := Lib.hid (bel_trans HB.out h1); clear h1
  obtain ⟨T00, T01, T02, T03, T04⟩ := T0.out
  go_wp2_with fail
  refine (C4.out _ NV.out).mono ?_
  rintro e w27 ⟨rfl, h1⟩
  replace NV := Lib.hid (NV.out.below h1)
  replace T0 := Lib.hid (T0.out.below h1)
  replace HB := Lib.hid (bel_trans HB.out h1); clear h1
  obtain ⟨T00, T01, T02, T03, T04⟩ := T0.out
  go_wp2
  go_returns
  exact ⟨rfl, HB.out⟩
set_option maxHeartbeats 16000000 in
set_option maxRecDepth 100000 in
theorem good (a : Option Addr) (n cap : Nat) (A M S V X D N : Int) (l : List (Int × Int)) (w : World) (NV : Hid (Pts w (.slice a n cap) l)) (hf : fwB l.length = true)
    (C1 : Hid (∀ W, Pts W (.slice a n cap) l → Calls Try.prog 38 #[.slice a n cap, .agg #[.int .i64 A, .int .i64 M]] W fun e w' => e = .returned (.tuple #[.int .i64 S, .int .i64 0]) ∧ Below W.heap.size W w'))
    (C2 : Hid (∀ W, Pts W (.slice a n cap) l → Calls Try.prog 40 #[.slice a n cap, .agg #[.int .i64 A, .int .i64 M]] W fun e w' => e = .returned (.tuple #[.int .i64 V, .int .i64 0]) ∧ Below W.heap.size W w'))
    (C3 : Hid (∀ W, Pts W (.slice a n cap) l → Calls Try.prog 44 #[.slice a n cap, .agg #[.int .i64 A, .int .i64 M]] W fun e w' => e = .returned (.tuple #[.int .i64 X, .int .i64 0]) ∧ Below W.heap.size W w'))
    (C4 : Hid (∀ W, Pts W (.slice a n cap) l → Calls Try.prog 17 #[.slice a n cap, .int .i64 S] W fun e w' => e = .returned (.tuple #[.int .i64 D, .int .i64 0]) ∧ Below W.heap.size W w'))
    (C5 : Hid (S ≠ 10000 → ∀ W, Pts W (.slice a n cap) l → Calls Try.prog 17 #[.slice a n cap, .int .i64 (S + 1)] W fun e w' => e = .returned (.tuple #[.int .i64 N, .int .i64 0]) ∧ Below W.heap.size W w'))
    (bS : 0 ≤ S ∧ S ≤ 10000) (bV : 0 ≤ V ∧ V ≤ 2576980377) (hM : M ≠ 0) (p1 : 0 ≤ A * D ∧ A * D ≤ 2000000000000000000) (p2 : 0 ≤ M * S ∧ M * S ≤ 2000000000000000000) (p3 : 0 ≤ V * D ∧ V * D ≤ 2000000000000000000) (p4 : 0 ≤ (V + 1) * D ∧ (V + 1) * D ≤ 2000000000000000000) (p5 : 0 ≤ V * S ∧ V * S ≤ A) (p6 : 0 ≤ A ∧ A ≤ 2000000000000000000)
    (p7 : S ≠ 10000 → (0 ≤ A * N ∧ A * N ≤ 2000000000000000000) ∧ (0 ≤ M * (S + 1) ∧ M * (S + 1) ≤ 2000000000000000000) ∧ A * N < M * (S + 1))
    (k1 : M * S ≤ A * D) (k2 : V * D ≤ M) (k3 : M < (V + 1) * D) (k4 : X = A - V * S) :
    Calls Try.prog 12 #[.slice a n cap, .agg #[.int .i64 A, .int .i64 M]] w fun e w' => e = .returned (.bool true) ∧ Below w.heap.size w w' := by
  have d1 : decide (A * D < M * S) = false := decide_eq_false (by omega)
  have d2 : decide (M < V * D) = false := decide_eq_false (by omega)
  have d3 : decide ((V + 1) * D ≤ M) = false := decide_eq_false (by omega)
  have d4 : decide (X < 0) = false := decide_eq_false (by omega)
  have d5 : (X != A - V * S) = false := by rw [k4]; simp
  have d6 : decide (S < 0) = false := decide_eq_false (by omega)
  have d7 : decide (10000 < S) = false := decide_eq_false (by omega)
  have d8 : (M == 0) = false := by rw [beq_eq_false_iff_ne]; exact hM
  have HA := Lib.hid (fun W => awakeA_any W)
  have FW := Lib.hid (fun v W h => few_any v l W h)
  rw [hf] at FW
  have HB := Lib.hid (Below.refl w.heap.size w)
  replace HB := Lib.hid (bel_alloc (w := w) (o := .cells #[.int .i64 A, .int .i64 M] 47) (Below.refl _ _))
  have T0 := Lib.hid (Two.new w (.int .i64 A) (.int .i64 M) 47)
  replace NV := Lib.hid (NV.out.alloc (.cells #[.int .i64 A, .int .i64 M] 47))
  obtain ⟨T00, T01, T02, T03, T04⟩ := T0.out
  by_cases hS : S = 10000
  · subst hS
    clear C5 p7
    go_enter Try.func12, Try.ntmps12
    go_wp2_with fail
    refine (HA.out _).mono ?_
    rintro e w32 ⟨rfl, h1⟩
    replace NV := Lib.hid (NV.out.below h1)
    replace T0 := Lib.hid (T0.out.below h1)
    replace HB := Lib.hid (bel_trans HB.out h1); clear h1
    obtain ⟨T00, T01, T02, T03, T04⟩ := T0.out
    go_wp2_with fail
    refine (FW.out _ _ NV.out).mono ?_
    rintro e w90 ⟨rfl, hw⟩
    subst hw
    go_wp2_with fail
    refine (C1.out _ NV.out).mono ?_
    rintro e w34 ⟨rfl, h1⟩
    replace NV := Lib.hid (NV.out.below h1)
    replace T0 := Lib.hid (T0.out.below h1)
    replace HB := Lib.hid (bel_trans HB.out h1); clear h1
    obtain ⟨T00, T01, T02, T03, T04⟩ := T0.out
    go_wp2_with fail
    refine (C2.out _ NV.out).mono ?_
    rintro e w36 ⟨rfl, h1⟩
    replace NV := Lib.hid (NV.out.below h1)
    replace T0 := Lib.hid (T0.out.below h1)
    replace HB := Lib.hid (bel_trans HB.out h1); clear h1
    obtain ⟨T00, T01, T02, T03, T04⟩ := T0.out
    go_wp2_with fail
    refine (C3.out _ NV.out).mono ?_
    rintro e w38 ⟨rfl, h1⟩
    replace NV := Lib.hid (NV.out.below h1)
    replace T0 := Lib.hid (T0.out.below h1)
    replace HB := Lib.hid (bel_trans HB.out h1); clear h1
    obtain ⟨T00, T01, T02, T03, T04⟩ := T0.out
    go_wp2_with fail
    refine (C4.out _ NV.out).mono ?_
    rintro e w40 ⟨rfl, h1⟩
    replace NV := Lib.hid (NV.out.below h1)
    replace T0 := Lib.hid (T0.out.below h1)
    replace HB := Lib.hid (bel_trans HB.out h1); clear h1
    obtain ⟨T00, T01, T02, T03, T04⟩ := T0.out
    go_wp2
    go_returns
    exact ⟨rfl, HB.out⟩
  · have d9 : (S == 10000) = false := by rw [beq_eq_false_iff_ne]; exact hS
    obtain ⟨p7, p8, p9⟩ := p7 hS
    replace C5 := Lib.hid (C5.out hS)
    have d10 : decide (A * N < M * (S + 1)) = true := decide_eq_true p9
    go_enter Try.func12, Try.ntmps12
    go_wp2_with fail
    refine (HA.out _).mono ?_
    rintro e w42 ⟨rfl, h1⟩
    replace NV := Lib.hid (NV.out.below h1)
    replace T0 := Lib.hid (T0.out.below h1)
    replace HB := Lib.hid (bel_trans HB.out h1); clear h1
    obtain ⟨T00, T01, T02, T03, T04⟩ := T0.out
    go_wp2_with fail
    refine (FW.out _ _ NV.out).mono ?_
    rintro e w90 ⟨rfl, hw⟩
    subst hw
    go_wp2_with fail
    refine (C1.out _ NV.out).mono ?_
    rintro e w44 ⟨rfl, h1⟩
    replace NV := Lib.hid (NV.out.below h1)
    replace T0 := Lib.hid (T0.out.below h1)
    replace HB := Lib.hid (bel_trans HB.out h1); clear h1
    obtain ⟨T00, T01, T02, T03, T04⟩ := T0.out
    go_wp2_with fail
    refine (C2.out _ NV.out).mono ?_
    rintro e w46 ⟨rfl, h1⟩
    replace NV := Lib.hid (NV.out.below h1)
    replace T0 := Lib.hid (T0.out.below h1)
    replace HB := Lib.hid (bel_trans HB.out h1); clear h1
    obtain ⟨T00, T01, T02, T03, T04⟩ := T0.out
    go_wp2_with fail
    refine (C3.out _ NV.out).mono ?_
    rintro e w48 ⟨rfl, h1⟩
    replace NV := Lib.hid (NV.out.below h1)
    replace T0 := Lib.hid (T0.out.below h1)
    replace HB := Lib.hid (bel_trans HB.out h1); clear h1
    obtain ⟨T00, T01, T02, T03, T04⟩ := T0.out
    go_wp2_with fail
    refine (C4.out _ NV.out).mono ?_
    rintro e w50 ⟨rfl, h1⟩
    replace NV := Lib.hid (NV.out.below h1)
    replace T0 := Lib.hid (T0.out.below h1)
    replace HB := Lib.hid (bel_trans HB.out h1); clear h1
    obtain ⟨T00, T01, T02, T03, T04⟩ := T0.out
    go_wp2_with fail
    refine (C5.out _ NV.out).mono ?_
    rintro e w52 ⟨rfl, h1⟩
    replace NV := Lib.hid (NV.out.below h1)
    replace T0 := Lib.hid (T0.out.below h1)
    replace HB := Lib.hid (bel_trans HB.out h1); clear h1
    obtain ⟨T00, T01, T02, T03, T04⟩ := T0.out
    go_wp2
    go_returns
    exact ⟨rfl, HB.out⟩
theorem walk (v : Value) (l : List (Int × Int)) (A M : Int) (w : World) (hv : Pts w v l) (_ : -9223372036854775808 ≤ A ∧ A ≤ 9223372036854775807) (_ : -9223372036854775808 ≤ M ∧ M ≤ 9223372036854775807) :
    Calls Try.prog 12 #[v, .agg #[.int .i64 A, .int .i64 M]] w fun e w' => e = .returned (.bool true) ∧ Below w.heap.size w w' := by
  have hv2 := Lib.hid hv
  obtain ⟨a, cap, rfl, _, _⟩ := hv.shape
  cases h : fwB l.length with
  | false => exact long a l.length cap A M l w hv2 h
  | true =>
    have C1 := fun W h => alSt_any (.slice a l.length cap) l A M W h
    have C2 := fun W h => alVl_any (.slice a l.length cap) l A M W h
    have C3 := fun W h => alLo_any (.slice a l.length cap) l A M W h
    by_cases he : alE l A M = 0
    · obtain ⟨hD, hL⟩ := alE_zero.1 he
      have le := sgN_le l A M
      have C4 := fun W h => itDen_any (.slice a l.length cap) l (sgN l A M : Int) W h
      have e4 : denE l (sgN l A M : Int) = 0 := denE_zero.2 ⟨hD, by omega, by omega⟩
      rw [e4, denV_ok e4] at C4
      rw [show sgV l A M = (sgN l A M : Int) by unfold sgV; rw [if_pos he], show meE l A M = 0 by unfold meE; rw [if_pos he]] at C1
      rw [show vlV l A M = vlN l A M by unfold vlV; rw [if_pos he], show meE l A M = 0 by unfold meE; rw [if_pos he]] at C2
      rw [show loV l A M = A - vlN l A M * (sgN l A M : Int) by unfold loV; rw [if_pos he], show meE l A M = 0 by unfold meE; rw [if_pos he]] at C3
      by_cases hM : M = 0
      · have hA := hL.zero hD hM
        subst hM hA
        have v0 : vlN l 0 0 = 0 := by unfold vlN; rw [Int.zero_ediv]
        rw [sgN_dry] at C1 C3 C4
        rw [v0] at C2 C3
        exact dry a l.length cap 0 _ l w hv2 h (Lib.hid C1) (Lib.hid C2) (Lib.hid C3) (Lib.hid C4)
      · have sb := at_sg hD A M
        obtain ⟨v1, v2, v3, v4⟩ := vlN_bd hD hL
        have lb := lost_bd hD hL
        have sh := sgN_has hD hL
        obtain ⟨a0, a1, m0, m1, _⟩ := hL
        have hL : LR l A M := (alE_zero.1 he).2
        have p1 : 0 ≤ A * atD l (sgN l A M) := Int.mul_nonneg a0 (by omega)
        have p1' : A * atD l (sgN l A M) ≤ 10737418240000 * 120000 := Int.mul_le_mul a1 sb.2 (by omega) (by omega)
        have p2 : 0 ≤ M * (sgN l A M : Int) := Int.mul_nonneg m0 (by omega)
        have p3 : 0 ≤ vlN l A M * atD l (sgN l A M) := Int.mul_nonneg v1 (by omega)
        have p4 : (vlN l A M + 1) * atD l (sgN l A M) = vlN l A M * atD l (sgN l A M) + atD l (sgN l A M) := by rw [Int.add_mul, Int.one_mul]
        refine good a l.length cap A M (sgN l A M) (vlN l A M) _ _ (atD l ((sgN l A M : Int) + 1)) l w hv2 h (Lib.hid C1) (Lib.hid C2) (Lib.hid C3) (Lib.hid C4) (Lib.hid fun hS W hW => ?_) ⟨by omega, by omega⟩ ⟨v1, v4⟩ hM ⟨p1, by omega⟩ ⟨p2, by omega⟩ ⟨p3, by omega⟩ ⟨by omega, by omega⟩ lb ⟨a0, by omega⟩ (fun hS => ?_) sh v2 v3 rfl
        · have := itDen_any (.slice a l.length cap) l ((sgN l A M : Int) + 1) W hW
          have e5 : denE l ((sgN l A M : Int) + 1) = 0 := denE_zero.2 ⟨hD, by omega, by omega⟩
          rwa [e5, denV_ok e5] at this
        · have nb := (atD_bd hD (s := (sgN l A M : Int) + 1) (by omega) (by omega)).2.2
          have q1 : 0 ≤ A * atD l ((sgN l A M : Int) + 1) := Int.mul_nonneg a0 (by omega)
          have q1' : A * atD l ((sgN l A M : Int) + 1) ≤ 10737418240000 * 120000 := Int.mul_le_mul a1 nb.2 (by omega) (by omega)
          have q2 : 0 ≤ M * ((sgN l A M : Int) + 1) := Int.mul_nonneg m0 (by omega)
          have q2' : M * ((sgN l A M : Int) + 1) ≤ 128849018880000 * 10000 := Int.mul_le_mul m1 (by omega) (by omega) (by omega)
          have q3 := sgN_iff hD hL hM (s := (sgN l A M : Int) + 1) (by omega) (by omega)
          refine ⟨⟨q1, by omega⟩, ⟨q2, by omega⟩, ?_⟩
          rcases Int.lt_or_le (A * atD l ((sgN l A M : Int) + 1)) (M * ((sgN l A M : Int) + 1)) with g | g
          · exact g
          · have := q3.1 g; omega
    · rw [show sgV l A M = 0 by unfold sgV; rw [if_neg he], show meE l A M = 1 by unfold meE; rw [if_neg he]] at C1
      rw [show vlV l A M = 0 by unfold vlV; rw [if_neg he], show meE l A M = 1 by unfold meE; rw [if_neg he]] at C2
      rw [show loV l A M = 0 by unfold loV; rw [if_neg he], show meE l A M = 1 by unfold meE; rw [if_neg he]] at C3
      exact bad a l.length cap A M l w hv2 h (Lib.hid C1) (Lib.hid C2) (Lib.hid C3)

set_option maxRecDepth 100000 in
theorem lifted (os : Os) (started : os.Started) (H : Type) (enc : TypeId × Value → H) :
    ReturnsInHanded {} Try.checked os 12 .any (Rows.alcoholBoundsSpec.pre6 enc Try.prog Try.f12 Rows.alcoholBoundsRow.domain false) (Rows.alcoholBoundsSpec.post enc Try.prog Try.f12 false true false false) := by
  refine returnsInHanded_of_change (C := Try.checked) own started (by kernel_rfl) Try.func12
    (ChangeSpec.witness6 (enc := enc) (C := Try.checked) false ⟨#[], #[.slice none 0 0, .agg #[.int .i64 0, .int .i64 0]], []⟩ 8 (by kernel_rfl) (by kernel_rfl) (by kernel_rfl) (by kernel_rfl)) ?_
  intro W base args ds gs before hval0 hW hcnd _
  have hval : ∀ (j : Nat) t v, Try.f12.params[j]? = some t → args[j]? = some v → Value.okWide Try.prog W .any base t v := hval0
  clear hval0
  have hW' := hW
  obtain ⟨p, q, hA0, hV, rfl, hfz, hnd⟩ := hW
  have hA : DataW.TrodAll enc Try.prog W 0 (fun _ => true) true Try.f12.params.toList args.toList ds p := hA0
  rw [Try.params12] at hA hval
  obtain ⟨v0, vs0, d0, ds0, p0, q0, hargs, rfl, rfl, h0, r0⟩ := trodAll_cons hA
  obtain ⟨v1, vs1, d1, ds1, p1, q1, rfl, rfl, rfl, h1, r1⟩ := trodAll_cons r0
  obtain ⟨rfl, rfl, rfl⟩ := trodAll_nil r1
  obtain rfl : args = #[v0, v1] := by cases args; simp_all
  obtain ⟨rfl, rfl⟩ := trodVars_none hV
  have k0 := h0
  have lt0 : ∀ x ∈ p0, x.block < W.heap.size := by obtain ⟨m, hm⟩ := k0; exact DataW.trod_lt m _ _ _ hm
  have k1 := h1
  have lt1 : ∀ x ∈ p1, x.block < W.heap.size := by obtain ⟨m, hm⟩ := k1; exact DataW.trod_lt m _ _ _ hm
  obtain ⟨z0, w0⟩ := open_pts (hval 0 22 v0 rfl rfl) h0
  obtain ⟨y1, m1, rfl, wy1, wm1⟩ := open_liq (hval 1 47 v1 rfl rfl) h1
  clear hA0
  refine (walk v0 z0 y1 m1 W w0 wy1 wm1).mono fun e W' ⟨he, bel⟩ => ?_
  subst he
  exact ⟨_, rfl, _, _, _, [], _, [], hW', trodAll_mk1 (shut_bool Try.underlying4 _), (trodAll_cons_mk (Below.trod laidOut (by kernel_rfl) (of_decide_eq_true (by kernel_rfl)) k0 bel lt0) (trodAll_cons_mk (Below.trod laidOut (by kernel_rfl) (of_decide_eq_true (by kernel_rfl)) k1 bel lt1) trodAll_mk0)), rfl, bel.frame _, fun h => by cases h⟩

theorem over : Rows.alcoholBoundsRow.holds Try.pinned (OpenSpec.ofChange Rows.alcoholBoundsSpec) :=
  OpenClaim.holds_of_wide 12 Try.f12 rfl rfl rfl rfl rfl rfl rfl ⟨rfl, rfl, rfl, rfl, rfl⟩ rfl rfl rfl rfl rfl (by kernel_rfl) Try.func12 (by kernel_rfl)
    (of_decide_eq_true (by kernel_rfl)) (by unfold Func.isWrapper; first | (rw [if_pos (by decide +kernel)]; kernel_rfl) | (rw [if_neg (by decide +kernel)]; exact ⟨rfl, rfl⟩))
    (fun os started H enc _ => lifted os started H enc)

theorem proved : Rows.AlcoholBoundsSaid := over
#print axioms proved
end Go.Proofs.Ytadkhhkoankhnaa.alcoholBounds

