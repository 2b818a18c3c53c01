/-
  The statement AlcoholDoubles of spile/spilelaw20 holds: for every input the call returns true, and each argument reads afterwards as it read before.
-/
import Derived.Test.YtadkhhkoankhnaaM1
import Derived.Below
import Derived.Carry
set_option linter.unusedVariables false
set_option linter.unusedSimpArgs false
namespace Go.Proofs.Ytadkhhkoankhnaa.alcoholDoubles
open Go.ChangeShapes Go.WideShapes Go.ChangeAt Go.RowKit
open Go.ChangeMaps (open_string shut_string)
set_option linter.unusedVariables false

theorem dbl {l : List (Int × Int)} (h : DR l) {A M : Int} (g : LR l A M) (hA : A ≤ 5368709120000) (hM : M ≤ 64424509440000) :
    LR l (2 * A) (2 * M) ∧ sgN l (2 * A) (2 * M) = sgN l A M ∧ (vlN l (2 * A) (2 * M) = 2 * vlN l A M ∨ vlN l (2 * A) (2 * M) = 2 * vlN l A M + 1) := by
  have a0 := g.a0
  have m0 := g.m0
  have tt := g.t
  have g2 : LR l (2 * A) (2 * M) := ⟨by omega, by omega, by omega, by omega, by rw [Int.mul_assoc, Int.mul_assoc]; omega⟩
  have e : sgN l (2 * A) (2 * M) = sgN l A M := by
    by_cases z : M = 0
    · have := g.zero h z
      subst z this
      rfl
    · have sh := sgN_has h g
      refine sgN_is h g2 (by omega) (sgN_le l A M) (by rw [Int.mul_assoc, Int.mul_assoc]; omega) (fun hk => ?_)
      have := sgN_iff h g z (s := (sgN l A M : Int) + 1) (by omega) (by omega)
      rw [Int.mul_assoc, Int.mul_assoc]
      rcases Int.lt_or_le (A * atD l ((sgN l A M : Int) + 1)) (M * ((sgN l A M : Int) + 1)) with q | q
      · omega
      · have := this.1 q; omega
  refine ⟨g2, e, ?_⟩
  obtain ⟨v1, v2, v3, v4⟩ := vlN_bd h g
  have sb := at_sg h A M
  unfold vlN at *
  rw [e]
  generalize atD l (sgN l A M) = d at *
  generalize M / d = V at *
  have k1 : 2 * V ≤ 2 * M / d := (Int.le_ediv_iff_mul_le (by omega)).2 (by rw [Int.mul_assoc]; omega)
  have k2 : 2 * M / d < 2 * V + 2 := (Int.ediv_lt_iff_lt_mul (by omega)).2 (by rw [show (2 * V + 2) * d = 2 * ((V + 1) * d) by grind]; omega)
  omega
set_option maxHeartbeats 8000000 in
set_option maxRecDepth 100000 in
theorem long (a : Option Addr) (n cap : Nat) (A M : Int) (l : List (Int × Int)) (w : World) (NV : Hid (Pts w (.slice a n cap) l)) (hf : fwB l.length = false) :
    Calls Try.prog 14 #[.slice a n cap, .agg #[.int .i64 A, .int .i64 M]] w fun e w' => e = .returned (.bool true) ∧ Below w.heap.size w w' := by
  have HA := Lib.hid (fun W => awakeA_any W)
  have FW := Lib.hid (fun v W h => few_any v l W h)
  rw [hf] at FW
  have HB := Lib.hid (Below.refl w.heap.size w)
  replace HB := Lib.hid (bel_alloc (w := w) (o := .cells #[.int .i64 A, .int .i64 M] 47) (Below.refl _ _))
  have T0 := Lib.hid (Two.new w (.int .i64 A) (.int .i64 M) 47)
  replace NV := Lib.hid (NV.out.alloc (.cells #[.int .i64 A, .int .i64 M] 47))
  obtain ⟨T00, T01, T02, T03, T04⟩ := T0.out
  go_enter Try.func14, Try.ntmps14
  go_wp2_with fail
  refine (HA.out _).mono ?_
  rintro e w4 ⟨rfl, h1⟩
  replace NV := Lib.hid (NV.out.below h1)
  replace T0 := Lib.hid (T0.out.below h1)
  replace HB := Lib.hid (bel_trans HB.out h1); clear h1
  obtain ⟨T00, T01, T02, T03, T04⟩ := T0.out
  go_wp2_with fail
  refine (FW.out _ _ NV.out).mono ?_
  rintro e w90 ⟨rfl, hw⟩
  subst hw
  go_wp2
  go_returns
  exact ⟨rfl, HB.out⟩
set_option maxHeartbeats 8000000 in
set_option maxRecDepth 100000 in
theorem big1 (a : Option Addr) (n cap : Nat) (A M : Int) (l : List (Int × Int)) (w : World) (NV : Hid (Pts w (.slice a n cap) l)) (hf : fwB l.length = true) (d1 : decide (5368709120000 < A) = true) :
    Calls Try.prog 14 #[.slice a n cap, .agg #[.int .i64 A, .int .i64 M]] w fun e w' => e = .returned (.bool true) ∧ Below w.heap.size w w' := by
  have HA := Lib.hid (fun W => awakeA_any W)
  have FW := Lib.hid (fun v W h => few_any v l W h)
  rw [hf] at FW
  have HB := Lib.hid (Below.refl w.heap.size w)
  replace HB := Lib.hid (bel_alloc (w := w) (o := .cells #[.int .i64 A, .int .i64 M] 47) (Below.refl _ _))
  have T0 := Lib.hid (Two.new w (.int .i64 A) (.int .i64 M) 47)
  replace NV := Lib.hid (NV.out.alloc (.cells #[.int .i64 A, .int .i64 M] 47))
  obtain ⟨T00, T01, T02, T03, T04⟩ := T0.out
  go_enter Try.func14, Try.ntmps14
  go_wp2_with fail
  refine (HA.out _).mono ?_
  rintro e w9 ⟨rfl, h1⟩
  replace NV := Lib.hid (NV.out.below h1)
  replace T0 := Lib.hid (T0.out.below h1)
  replace HB := Lib.hid (bel_trans HB.out h1); clear h1
  obtain ⟨T00, T01, T02, T03, T04⟩ := T0.out
  go_wp2_with fail
  refine (FW.out _ _ NV.out).mono ?_
  rintro e w90 ⟨rfl, hw⟩
  subst hw
  go_wp2
  go_returns
  exact ⟨rfl, HB.out⟩
set_option maxHeartbeats 8000000 in
set_option maxRecDepth 100000 in
theorem big2 (a : Option Addr) (n cap : Nat) (A M : Int) (l : List (Int × Int)) (w : World) (NV : Hid (Pts w (.slice a n cap) l)) (hf : fwB l.length = true) (d1 : decide (5368709120000 < A) = false) (d2 : decide (64424509440000 < M) = true) :
    Calls Try.prog 14 #[.slice a n cap, .agg #[.int .i64 A, .int .i64 M]] w fun e w' => e = .returned (.bool true) ∧ Below w.heap.size w w' := by
  have HA := Lib.hid (fun W => awakeA_any W)
  have FW := Lib.hid (fun v W h => few_any v l W h)
  rw [hf] at FW
  have HB := Lib.hid (Below.refl w.heap.size w)
  replace HB := Lib.hid (bel_alloc (w := w) (o := .cells #[.int .i64 A, .int .i64 M] 47) (Below.refl _ _))
  have T0 := Lib.hid (Two.new w (.int .i64 A) (.int .i64 M) 47)
  replace NV := Lib.hid (NV.out.alloc (.cells #[.int .i64 A, .int .i64 M] 47))
  obtain ⟨T00, T01, T02, T03, T04⟩ := T0.out
  go_enter Try.func14, Try.ntmps14
  go_wp2_with fail
  refine (HA.out _).mono ?_
  rintro e w14 ⟨rfl, h1⟩
  replace NV := Lib.hid (NV.out.below h1)
  replace T0 := Lib.hid (T0.out.below h1)
  replace HB := Lib.hid (bel_trans HB.out h1); clear h1
  obtain ⟨T00, T01, T02, T03, T04⟩ := T0.out
  go_wp2_with fail
  refine (FW.out _ _ NV.out).mono ?_
  rintro e w90 ⟨rfl, hw⟩
  subst hw
  go_wp2
  go_returns
  exact ⟨rfl, HB.out⟩
set_option maxHeartbeats 8000000 in
set_option maxRecDepth 100000 in
theorem bad (a : Option Addr) (n cap : Nat) (A M : Int) (l : List (Int × Int)) (w : World) (NV : Hid (Pts w (.slice a n cap) l)) (hf : fwB l.length = true) (d1 : decide (5368709120000 < A) = false) (d2 : decide (64424509440000 < M) = false)
    (C1 : Hid (∀ W, Pts W (.slice a n cap) l → Calls Try.prog 38 #[.slice a n cap, .agg #[.int .i64 A, .int .i64 M]] W fun e w' => e = .returned (.tuple #[.int .i64 0, .int .i64 1]) ∧ Below W.heap.size W w'))
    (C2 : Hid (∀ W, Pts W (.slice a n cap) l → Calls Try.prog 40 #[.slice a n cap, .agg #[.int .i64 A, .int .i64 M]] W fun e w' => e = .returned (.tuple #[.int .i64 0, .int .i64 1]) ∧ Below W.heap.size W w')) :
    Calls Try.prog 14 #[.slice a n cap, .agg #[.int .i64 A, .int .i64 M]] w fun e w' => e = .returned (.bool true) ∧ Below w.heap.size w w' := by
  have HA := Lib.hid (fun W => awakeA_any W)
  have FW := Lib.hid (fun v W h => few_any v l W h)
  rw [hf] at FW
  have HB := Lib.hid (Below.refl w.heap.size w)
  replace HB := Lib.hid (bel_alloc (w := w) (o := .cells #[.int .i64 A, .int .i64 M] 47) (Below.refl _ _))
  have T0 := Lib.hid (Two.new w (.int .i64 A) (.int .i64 M) 47)
  replace NV := Lib.hid (NV.out.alloc (.cells #[.int .i64 A, .int .i64 M] 47))
  obtain ⟨T00, T01, T02, T03, T04⟩ := T0.out
  go_enter Try.func14, Try.ntmps14
  go_wp2_with fail
  refine (HA.out _).mono ?_
  rintro e w19 ⟨rfl, h1⟩
  replace NV := Lib.hid (NV.out.below h1)
  replace T0 := Lib.hid (T0.out.below h1)
  replace HB := Lib.hid (bel_trans HB.out h1); clear h1
  obtain ⟨T00, T01, T02, T03, T04⟩ := T0.out
  go_wp2_with fail
  refine (FW.out _ _ NV.out).mono ?_
  rintro e w90 ⟨rfl, hw⟩
  subst hw
  go_wp2_with fail
  refine (C1.out _ NV.out).mono ?_
  rintro e w21 ⟨rfl, h1⟩
  replace NV := Lib.hid (NV.out.below h1)
  replace T0 := Lib.hid (T0.out.below h1)
  replace HB := Lib.hid (bel_trans HB.out h1); clear h1
  obtain ⟨T00, T01, T02, T03, T04⟩ := T0.out
  go_wp2_with fail
  refine (C2.out _ NV.out).mono ?_
  rintro e w23 ⟨rfl, h1⟩
  replace NV := Lib.hid (NV.out.below h1)
  replace T0 := Lib.hid (T0.out.below h1)
  replace HB := Lib.hid (bel_trans HB.out h1); clear h1
  go_wp2
  go_returns
  exact ⟨rfl, HB.out⟩
set_option maxHeartbeats 16000000 in
set_option maxRecDepth 100000 in
theorem good (a : Option Addr) (n cap : Nat) (A M S V U : Int) (l : List (Int × Int)) (w : World) (NV : Hid (Pts w (.slice a n cap) l)) (hf : fwB l.length = true) (d1 : decide (5368709120000 < A) = false) (d2 : decide (64424509440000 < M) = false) (bA : 0 ≤ A ∧ A ≤ 5368709120000) (bM : 0 ≤ M ∧ M ≤ 64424509440000) (bV : 0 ≤ V ∧ V ≤ 2576980377) (hU : U = 2 * V ∨ U = 2 * V + 1)
    (C1 : Hid (∀ W, Pts W (.slice a n cap) l → Calls Try.prog 38 #[.slice a n cap, .agg #[.int .i64 A, .int .i64 M]] W fun e w' => e = .returned (.tuple #[.int .i64 S, .int .i64 0]) ∧ Below W.heap.size W w'))
    (C2 : Hid (∀ W, Pts W (.slice a n cap) l → Calls Try.prog 40 #[.slice a n cap, .agg #[.int .i64 A, .int .i64 M]] W fun e w' => e = .returned (.tuple #[.int .i64 V, .int .i64 0]) ∧ Below W.heap.size W w'))
    (C3 : Hid (∀ W, Pts W (.slice a n cap) l → Calls Try.prog 38 #[.slice a n cap, .agg #[.int .i64 (2 * A), .int .i64 (2 * M)]] W fun e w' => e = .returned (.tuple #[.int .i64 S, .int .i64 0]) ∧ Below W.heap.size W w'))
    (C4 : Hid (∀ W, Pts W (.slice a n cap) l → Calls Try.prog 40 #[.slice a n cap, .agg #[.int .i64 (2 * A), .int .i64 (2 * M)]] W fun e w' => e = .returned (.tuple #[.int .i64 U, .int .i64 0]) ∧ Below W.heap.size W w')) :
    Calls Try.prog 14 #[.slice a n cap, .agg #[.int .i64 A, .int .i64 M]] w fun e w' => e = .returned (.bool true) ∧ Below w.heap.size w w' := by
  rcases hU with rfl | rfl
  · have d3 : (2 * V == 2 * V) = true := by simp
    have HA := Lib.hid (fun W => awakeA_any W)
    have FW := Lib.hid (fun v W h => few_any v l W h)
    rw [hf] at FW
    have HB := Lib.hid (Below.refl w.heap.size w)
    replace HB := Lib.hid (bel_alloc (w := w) (o := .cells #[.int .i64 A, .int .i64 M] 47) (Below.refl _ _))
    have T0 := Lib.hid (Two.new w (.int .i64 A) (.int .i64 M) 47)
    replace NV := Lib.hid (NV.out.alloc (.cells #[.int .i64 A, .int .i64 M] 47))
    obtain ⟨T00, T01, T02, T03, T04⟩ := T0.out
    go_enter Try.func14, Try.ntmps14
    go_wp2_with fail
    refine (HA.out _).mono ?_
    rintro e w27 ⟨rfl, h1⟩
    replace NV := Lib.hid (NV.out.below h1)
    replace T0 := Lib.hid (T0.out.below h1)
    replace HB := Lib.hid (bel_trans HB.out h1); clear h1
    obtain ⟨T00, T01, T02, T03, T04⟩ := T0.out
    go_wp2_with fail
    refine (FW.out _ _ NV.out).mono ?_
    rintro e w90 ⟨rfl, hw⟩
    subst hw
    go_wp2_with fail
    refine (C1.out _ NV.out).mono ?_
    rintro e w29 ⟨rfl, h1⟩
    replace NV := Lib.hid (NV.out.below h1)
    replace T0 := Lib.hid (T0.out.below h1)
    replace HB := Lib.hid (bel_trans HB.out h1); clear h1
    obtain ⟨T00, T01, T02, T03, T04⟩ := T0.out
    go_wp2_with fail
    refine (C2.out _ NV.out).mono ?_
    rintro e w31 ⟨rfl, h1⟩
    replace NV := Lib.hid (NV.out.below h1)
    replace T0 := Lib.hid (T0.out.below h1)
    replace HB := Lib.hid (bel_trans HB.out h1); clear h1
    obtain ⟨T00, T01, T02, T03, T04⟩ := T0.out
    have T1 := Lib.hid (Two.new (w31) (.int .i64 (2 * A)) (.int .i64 (2 * M)) 47)
    replace NV := Lib.hid (NV.out.alloc (.cells #[.int .i64 (2 * A), .int .i64 (2 * M)] 47))
    replace T0 := Lib.hid (T0.out.alloc (.cells #[.int .i64 (2 * A), .int .i64 (2 * M)] 47))
    replace HB := Lib.hid (HB.out.alloc HB.out.size (.cells #[.int .i64 (2 * A), .int .i64 (2 * M)] 47))
    obtain ⟨T10, T11, T12, T13, T14⟩ := T1.out
    go_wp2_with fail
    refine (C3.out _ NV.out).mono ?_
    rintro e w35 ⟨rfl, h1⟩
    replace NV := Lib.hid (NV.out.below h1)
    replace T0 := Lib.hid (T0.out.below h1)
    replace T1 := Lib.hid (T1.out.below h1)
    replace HB := Lib.hid (bel_trans HB.out h1); clear h1
    obtain ⟨T10, T11, T12, T13, T14⟩ := T1.out
    go_wp2_with fail
    refine (C4.out _ NV.out).mono ?_
    rintro e w37 ⟨rfl, h1⟩
    replace NV := Lib.hid (NV.out.below h1)
    replace T0 := Lib.hid (T0.out.below h1)
    replace T1 := Lib.hid (T1.out.below h1)
    replace HB := Lib.hid (bel_trans HB.out h1); clear h1
    go_wp2
    go_returns
    exact ⟨rfl, HB.out⟩

  · have d3 : (2 * V + 1 == 2 * V) = false := by rw [beq_eq_false_iff_ne]; omega
    have HA := Lib.hid (fun W => awakeA_any W)
    have FW := Lib.hid (fun v W h => few_any v l W h)
    rw [hf] at FW
    have HB := Lib.hid (Below.refl w.heap.size w)
    replace HB := Lib.hid (bel_alloc (w := w) (o := .cells #[.int .i64 A, .int .i64 M] 47) (Below.refl _ _))
    have T0 := Lib.hid (Two.new w (.int .i64 A) (.int .i64 M) 47)
    replace NV := Lib.hid (NV.out.alloc (.cells #[.int .i64 A, .int .i64 M] 47))
    obtain ⟨T00, T01, T02, T03, T04⟩ := T0.out
    go_enter Try.func14, Try.ntmps14
    go_wp2_with fail
    refine (HA.out _).mono ?_
    rintro e w41 ⟨rfl, h1⟩
    replace NV := Lib.hid (NV.out.below h1)
    replace T0 := Lib.hid (T0.out.below h1)
    replace HB := Lib.hid (bel_trans HB.out h1); clear h1
    obtain ⟨T00, T01, T02, T03, T04⟩ := T0.out
    go_wp2_with fail
    refine (FW.out _ _ NV.out).mono ?_
    rintro e w90 ⟨rfl, hw⟩
    subst hw
    go_wp2_with fail
    refine (C1.out _ NV.out).mono ?_
    rintro e w43 ⟨rfl, h1⟩
    replace NV := Lib.hid (NV.out.below h1)
    replace T0 := Lib.hid (T0.out.below h1)
    replace HB := Lib.hid (bel_trans HB.out h1); clear h1
    obtain ⟨T00, T01, T02, T03, T04⟩ := T0.out
    go_wp2_with fail
    refine (C2.out _ NV.out).mono ?_
    rintro e w45 ⟨rfl, h1⟩
    replace NV := Lib.hid (NV.out.below h1)
    replace T0 := Lib.hid (T0.out.below h1)
    replace HB := Lib.hid (bel_trans HB.out h1); clear h1
    obtain ⟨T00, T01, T02, T03, T04⟩ := T0.out
    have T1 := Lib.hid (Two.new (w45) (.int .i64 (2 * A)) (.int .i64 (2 * M)) 47)
    replace NV := Lib.hid (NV.out.alloc (.cells #[.int .i64 (2 * A), .int .i64 (2 * M)] 47))
    replace T0 := Lib.hid (T0.out.alloc (.cells #[.int .i64 (2 * A), .int .i64 (2 * M)] 47))
    replace HB := Lib.hid (HB.out.alloc HB.out.size (.cells #[.int .i64 (2 * A), .int .i64 (2 * M)] 47))
    obtain ⟨T10, T11, T12, T13, T14⟩ := T1.out
    go_wp2_with fail
    refine (C3.out _ NV.out).mono ?_
    rintro e w49 ⟨rfl, h1⟩
    replace NV := Lib.hid (NV.out.below h1)
    replace T0 := Lib.hid (T0.out.below h1)
    replace T1 := Lib.hid (T1.out.below h1)
    replace HB := Lib.hid (bel_trans HB.out h1); clear h1
    obtain ⟨T10, T11, T12, T13, T14⟩ := T1.out
    go_wp2_with fail
    refine (C4.out _ NV.out).mono ?_
    rintro e w51 ⟨rfl, h1⟩
    replace NV := Lib.hid (NV.out.below h1)
    replace T0 := Lib.hid (T0.out.below h1)
    replace T1 := Lib.hid (T1.out.below h1)
    replace HB := Lib.hid (bel_trans HB.out h1); clear h1
    go_wp2
    go_returns
    exact ⟨rfl, HB.out⟩

theorem walk (v : Value) (l : List (Int × Int)) (A M : Int) (w : World) (hv : Pts w v l) (_ : -9223372036854775808 ≤ A ∧ A ≤ 9223372036854775807) (_ : -9223372036854775808 ≤ M ∧ M ≤ 9223372036854775807) :
    Calls Try.prog 14 #[v, .agg #[.int .i64 A, .int .i64 M]] w fun e w' => e = .returned (.bool true) ∧ Below w.heap.size w w' := by
  have hv2 := Lib.hid hv
  obtain ⟨a, cap, rfl, _, _⟩ := hv.shape
  cases h : fwB l.length with
  | false => exact long a l.length cap A M l w hv2 h
  | true =>
    by_cases g1 : 5368709120000 < A
    · exact big1 a l.length cap A M l w hv2 h (decide_eq_true g1)
    by_cases g2 : 64424509440000 < M
    · exact big2 a l.length cap A M l w hv2 h (decide_eq_false g1) (decide_eq_true g2)
    have C1 := fun W h => alSt_any (.slice a l.length cap) l A M W h
    have C2 := fun W h => alVl_any (.slice a l.length cap) l A M W h
    by_cases he : alE l A M = 0
    · obtain ⟨hD, hL⟩ := alE_zero.1 he
      obtain ⟨hL2, e1, e2⟩ := dbl hD hL (by omega) (by omega)
      have he2 := alE_zero.2 ⟨hD, hL2⟩
      have C3 := fun W h => alSt_any (.slice a l.length cap) l (2 * A) (2 * M) W h
      have C4 := fun W h => alVl_any (.slice a l.length cap) l (2 * A) (2 * M) W h
      rw [show sgV l A M = (sgN l A M : Int) by unfold sgV; rw [if_pos he], show meE l A M = 0 by unfold meE; rw [if_pos he]] at C1
      rw [show vlV l A M = vlN l A M by unfold vlV; rw [if_pos he], show meE l A M = 0 by unfold meE; rw [if_pos he]] at C2
      rw [show sgV l (2 * A) (2 * M) = (sgN l A M : Int) by unfold sgV; rw [if_pos he2, e1], show meE l (2 * A) (2 * M) = 0 by unfold meE; rw [if_pos he2]] at C3
      rw [show vlV l (2 * A) (2 * M) = vlN l (2 * A) (2 * M) by unfold vlV; rw [if_pos he2], show meE l (2 * A) (2 * M) = 0 by unfold meE; rw [if_pos he2]] at C4
      obtain ⟨v1, v2, v3, v4⟩ := vlN_bd hD hL
      exact good a l.length cap A M _ _ _ l w hv2 h (decide_eq_false g1) (decide_eq_false g2) ⟨hL.a0, by omega⟩ ⟨hL.m0, by omega⟩ ⟨v1, v4⟩ e2 (Lib.hid C1) (Lib.hid C2) (Lib.hid C3) (Lib.hid C4)
    · rw [show sgV l A M = 0 by unfold sgV; rw [if_neg he], show meE l A M = 1 by unfold meE; rw [if_neg he]] at C1
      rw [show vlV l A M = 0 by unfold vlV; rw [if_neg he], show meE l A M = 1 by unfold meE; rw [if_neg he]] at C2
      exact bad a l.length cap A M l w hv2 h (decide_eq_false g1) (decide_eq_false g2) (Lib.hid C1) (Lib.hid C2)

set_option maxRecDepth 100000 in
theorem lifted (os : Os) (started : os.Started) (H : Type) (enc : TypeId × Value → H) :
    ReturnsInHanded {} Try.checked os 14 .any (Rows.alcoholDoublesSpec.pre6 enc Try.prog Try.f14 Rows.alcoholDoublesRow.domain false) (Rows.alcoholDoublesSpec.post enc Try.prog Try.f14 false true false false) := by
  refine returnsInHanded_of_change (C := Try.checked) own started (by kernel_rfl) Try.func14
    (ChangeSpec.witness6 (enc := enc) (C := Try.checked) false ⟨#[], #[.slice none 0 0, .agg #[.int .i64 0, .int .i64 0]], []⟩ 8 (by kernel_rfl) (by kernel_rfl) (by kernel_rfl) (by kernel_rfl)) ?_
  intro W base args ds gs before hval0 hW hcnd _
  have hval : ∀ (j : Nat) t v, Try.f14.params[j]? = some t → args[j]? = some v → Value.okWide Try.prog W .any base t v := hval0
  clear hval0
  have hW' := hW
  obtain ⟨p, q, hA0, hV, rfl, hfz, hnd⟩ := hW
  have hA : DataW.TrodAll enc Try.prog W 0 (fun _ => true) true Try.f14.params.toList args.toList ds p := hA0
  rw [Try.params14] at hA hval
  obtain ⟨v0, vs0, d0, ds0, p0, q0, hargs, rfl, rfl, h0, r0⟩ := trodAll_cons hA
  obtain ⟨v1, vs1, d1, ds1, p1, q1, rfl, rfl, rfl, h1, r1⟩ := trodAll_cons r0
  obtain ⟨rfl, rfl, rfl⟩ := trodAll_nil r1
  obtain rfl : args = #[v0, v1] := by cases args; simp_all
  obtain ⟨rfl, rfl⟩ := trodVars_none hV
  have k0 := h0
  have lt0 : ∀ x ∈ p0, x.block < W.heap.size := by obtain ⟨m, hm⟩ := k0; exact DataW.trod_lt m _ _ _ hm
  have k1 := h1
  have lt1 : ∀ x ∈ p1, x.block < W.heap.size := by obtain ⟨m, hm⟩ := k1; exact DataW.trod_lt m _ _ _ hm
  obtain ⟨z0, w0⟩ := open_pts (hval 0 22 v0 rfl rfl) h0
  obtain ⟨y1, m1, rfl, wy1, wm1⟩ := open_liq (hval 1 47 v1 rfl rfl) h1
  clear hA0
  refine (walk v0 z0 y1 m1 W w0 wy1 wm1).mono fun e W' ⟨he, bel⟩ => ?_
  subst he
  exact ⟨_, rfl, _, _, _, [], _, [], hW', trodAll_mk1 (shut_bool Try.underlying4 _), (trodAll_cons_mk (Below.trod laidOut (by kernel_rfl) (of_decide_eq_true (by kernel_rfl)) k0 bel lt0) (trodAll_cons_mk (Below.trod laidOut (by kernel_rfl) (of_decide_eq_true (by kernel_rfl)) k1 bel lt1) trodAll_mk0)), rfl, bel.frame _, fun h => by cases h⟩

theorem over : Rows.alcoholDoublesRow.holds Try.pinned (OpenSpec.ofChange Rows.alcoholDoublesSpec) :=
  OpenClaim.holds_of_wide 14 Try.f14 rfl rfl rfl rfl rfl rfl rfl ⟨rfl, rfl, rfl, rfl, rfl⟩ rfl rfl rfl rfl rfl (by kernel_rfl) Try.func14 (by kernel_rfl)
    (of_decide_eq_true (by kernel_rfl)) (by unfold Func.isWrapper; first | (rw [if_pos (by decide +kernel)]; kernel_rfl) | (rw [if_neg (by decide +kernel)]; exact ⟨rfl, rfl⟩))
    (fun os started H enc _ => lifted os started H enc)

theorem proved : Rows.AlcoholDoublesSaid := over
#print axioms proved
end Go.Proofs.Ytadkhhkoankhnaa.alcoholDoubles

