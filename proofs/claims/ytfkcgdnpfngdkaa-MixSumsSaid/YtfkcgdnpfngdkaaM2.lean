/- Texts that the proofs of this seat share, one behind the other: MB, MC, QL, QKl, IB, IC, AB, AC, AD, ME, MF, MG, MD0, MD, MW, QO0, AE, QS0, QS, AO, MO. -/
import Derived.Test.YtfkcgdnpfngdkaaM1
import Derived.FnLit
import Derived.RangeFuncBox
import Derived.StillTail
import Derived.Deep.RegionHeld3
import Derived.Test.YtfkcgdnpfngdkaaRows
import Derived.ProofKit
import Derived.OpenShut
import Derived.ShutString
import Derived.ChangeOld
import Derived.Lib.SmallJoins
import Derived.MakeChecks
import Derived.Deep.Slices
import Derived.Deep.Fields
import Derived.ChangeSame
import Derived.Deep.SlicePairs
import Derived.Below
import Derived.Deep.QuietTactic
import Derived.BigQuiet

set_option linter.unusedVariables false
set_option linter.unusedSimpArgs false

/- Package mix: plain liquids; Draw. -/
namespace Go.Proofs.Ytfkcgdnpfngdkaa
open Go.RowKit

set_option maxHeartbeats 4000000 in
theorem mxPl_any (A M : Int) (w : World) :
    Calls Try.prog 26 #[.agg #[.int .i64 A, .int .i64 M]] w fun e w' => e = .returned (.bool (plB A M)) ∧ Below w.heap.size w w' := by
  have X := Lib.hid (bel_alloc (o := .cells #[.int .i64 A, .int .i64 M] 24) (Below.refl _ (w.alloc (.cells #[.int .i64 A, .int .i64 M] 24))))
  unfold plB
  by_cases h0 : A < 0
  · have d0 : decide (A < 0) = true := decide_eq_true h0
    rw [d0, Bool.true_or, Bool.true_or, Bool.true_or, Bool.not_true, Bool.false_and]
    clear h0
    go_enter Try.func26, Try.ntmps26
    go_wp2
    go_returns
    exact ⟨rfl, X.out⟩
  have d0 : decide (A < 0) = false := decide_eq_false h0
  by_cases h1 : 10737418240000 < A
  · have d1 : decide (10737418240000 < A) = true := decide_eq_true h1
    rw [d0, d1, Bool.false_or, Bool.true_or, Bool.true_or, Bool.not_true, Bool.false_and]
    clear h0 h1
    go_enter Try.func26, Try.ntmps26
    go_wp2
    go_returns
    exact ⟨rfl, X.out⟩
  have d1 : decide (10737418240000 < A) = false := decide_eq_false h1
  by_cases h2 : M < 0
  · have d2 : decide (M < 0) = true := decide_eq_true h2
    rw [d0, d1, d2, Bool.false_or, Bool.false_or, Bool.true_or, Bool.not_true, Bool.false_and]
    clear h0 h1 h2
    go_enter Try.func26, Try.ntmps26
    go_wp2
    go_returns
    exact ⟨rfl, X.out⟩
  have d2 : decide (M < 0) = false := decide_eq_false h2
  by_cases h3 : 128849018880000 < M
  · have d3 : decide (128849018880000 < M) = true := decide_eq_true h3
    rw [d0, d1, d2, d3, Bool.false_or, Bool.false_or, Bool.false_or, Bool.not_true, Bool.false_and]
    clear h0 h1 h2 h3
    go_enter Try.func26, Try.ntmps26
    go_wp2
    go_returns
    exact ⟨rfl, X.out⟩
  have d3 : decide (128849018880000 < M) = false := decide_eq_false h3
  rw [d0, d1, d2, d3, Bool.false_or, Bool.false_or, Bool.false_or, Bool.not_false, Bool.true_and]
  clear h0 h1 h2 h3
  by_cases h4 : A = 0
  · rw [decide_eq_true h4, Bool.true_or]
    have d4 : (A == 0) = true := by simpa using h4
    clear h4
    go_enter Try.func26, Try.ntmps26
    go_wp2
    go_returns
    exact ⟨rfl, X.out⟩
  · rw [decide_eq_false h4, Bool.false_or]
    have d4 : (A == 0) = false := by simpa using h4
    clear h4
    generalize hB : decide (0 < M) = B
    go_enter Try.func26, Try.ntmps26
    go_wp2
    go_returns
    exact ⟨rfl, X.out⟩
theorem two_new1 (w : World) (o : Obj) (x y : Value) (T : TypeId) : Two (w.heap.size + 1) ((w.alloc o).alloc (.cells #[x, y] T)) x y := by
  have := Two.new (w.alloc o) x y T
  rwa [World.size_alloc] at this
theorem two_new2 (w : World) (o o' : Obj) (x y : Value) (T : TypeId) : Two (w.heap.size + 1 + 1) (((w.alloc o).alloc o').alloc (.cells #[x, y] T)) x y := by
  have := Two.new ((w.alloc o).alloc o') x y T
  rwa [World.size_alloc, World.size_alloc] at this
theorem two_read2 (w : World) (b c : Nat) (u v x y : Value) {p q r s : Value} (hn : b ≠ c) (h0 : w.cell? ⟨b, 0, none⟩ = some p) (h1 : w.cell? ⟨b, 1, none⟩ = some q) (h2 : w.cell? ⟨c, 0, none⟩ = some r) (h3 : w.cell? ⟨c, 1, none⟩ = some s) :
    (((((w.setCell ⟨b, 0, none⟩ u).setCell ⟨b, 1, none⟩ v).setCell ⟨c, 0, none⟩ x).setCell ⟨c, 1, none⟩ y).cell? ⟨b, 0, none⟩ = some u ∧ ((((w.setCell ⟨b, 0, none⟩ u).setCell ⟨b, 1, none⟩ v).setCell ⟨c, 0, none⟩ x).setCell ⟨c, 1, none⟩ y).cell? ⟨b, 1, none⟩ = some v) ∧
    ((((w.setCell ⟨b, 0, none⟩ u).setCell ⟨b, 1, none⟩ v).setCell ⟨c, 0, none⟩ x).setCell ⟨c, 1, none⟩ y).cell? ⟨c, 0, none⟩ = some x ∧ ((((w.setCell ⟨b, 0, none⟩ u).setCell ⟨b, 1, none⟩ v).setCell ⟨c, 0, none⟩ x).setCell ⟨c, 1, none⟩ y).cell? ⟨c, 1, none⟩ = some y := by
  have hc0 : ((w.setCell ⟨b, 0, none⟩ u).setCell ⟨b, 1, none⟩ v).cell? ⟨c, 0, none⟩ = some r := by
    rw [World.cell?_setCell_other _ _ _ _ (by first | (simp; done) | (simp; omega)), World.cell?_setCell_other _ _ _ _ (by first | (simp; done) | (simp; omega))]; exact h2
  have hc1 : ((w.setCell ⟨b, 0, none⟩ u).setCell ⟨b, 1, none⟩ v).cell? ⟨c, 1, none⟩ = some s := by
    rw [World.cell?_setCell_other _ _ _ _ (by first | (simp; done) | (simp; omega)), World.cell?_setCell_other _ _ _ _ (by first | (simp; done) | (simp; omega))]; exact h3
  obtain ⟨b0, b1⟩ := two_read w b u v h0 h1
  obtain ⟨c0, c1⟩ := two_read ((w.setCell ⟨b, 0, none⟩ u).setCell ⟨b, 1, none⟩ v) c x y hc0 hc1
  refine ⟨⟨?_, ?_⟩, c0, c1⟩
  · rw [World.cell?_setCell_other _ _ _ _ (by first | (simp; done) | (simp; omega)), World.cell?_setCell_other _ _ _ _ (by first | (simp; done) | (simp; omega))]; exact b0
  · rw [World.cell?_setCell_other _ _ _ _ (by first | (simp; done) | (simp; omega)), World.cell?_setCell_other _ _ _ _ (by first | (simp; done) | (simp; omega))]; exact b1
set_option maxHeartbeats 8000000 in
set_option maxRecDepth 100000 in
theorem mxDr_bad (A M m : Int) (w : World) (hP : plB A M = false) :
    Calls Try.prog 13 #[.agg #[.int .i64 A, .int .i64 M], .int .i64 m] w fun e w' => e = .returned (.tuple #[.agg #[.int .i64 0, .int .i64 0], .agg #[.int .i64 0, .int .i64 0], .int .i64 1]) ∧ Below w.heap.size w w' := by
  have HP := Lib.hid (fun W => mxPl_any A M W)
  rw [hP] at HP
  clear hP
  have T0 := Lib.hid (((Two.new w (.int .i64 A) (.int .i64 M) 24).alloc (.cells #[.int .i64 0, .int .i64 0] 24)).alloc (.cells #[.int .i64 0, .int .i64 0] 24))
  have T1 := Lib.hid ((two_new1 w (.cells #[.int .i64 A, .int .i64 M] 24) (.int .i64 0) (.int .i64 0) 24).alloc (.cells #[.int .i64 0, .int .i64 0] 24))
  have T2 := Lib.hid (two_new2 w (.cells #[.int .i64 A, .int .i64 M] 24) (.cells #[.int .i64 0, .int .i64 0] 24) (.int .i64 0) (.int .i64 0) 24)
  have HB : Hid (Below w.heap.size w (((w.alloc (.cells #[.int .i64 A, .int .i64 M] 24)).alloc (.cells #[.int .i64 0, .int .i64 0] 24)).alloc (.cells #[.int .i64 0, .int .i64 0] 24))) := Lib.hid (bel_alloc (bel_alloc (bel_alloc (Below.refl _ _))))
  obtain ⟨b0, b1, b2, b3, b4⟩ := T0.out
  go_enter Try.func13, Try.ntmps13
  go_wp2_with fail
  refine (HP.out _).mono ?_
  rintro e w1 ⟨rfl, h1⟩
  clear b0 b1 b2 b3 b4
  replace T0 := Lib.hid (T0.out.below h1)
  replace T1 := Lib.hid (T1.out.below h1)
  replace T2 := Lib.hid (T2.out.below h1)
  replace HB := Lib.hid (bel_trans HB.out h1)
  clear h1
  obtain ⟨b0, b1, b2, b3, b4⟩ := T0.out
  obtain ⟨c0, c1, c2, c3, c4⟩ := T1.out
  obtain ⟨d0, d1, d2, d3, d4⟩ := T2.out
  go_wp2
  obtain ⟨⟨r0, r1⟩, r2, r3⟩ := two_read2 w1 (w.heap.size + 1) (w.heap.size + 1 + 1) (.int .i64 0) (.int .i64 0) (.int .i64 0) (.int .i64 0) (by omega) c0 c1 d0 d1
  have l1 : w.heap.size ≤ w.heap.size + 1 := by omega
  have l2 : w.heap.size ≤ w.heap.size + 1 + 1 := by omega
  generalize w.heap.size + 1 + 1 = D at *
  generalize w.heap.size + 1 = C at *
  refine bodyPost_ret (v := .tuple #[.agg #[.int .i64 0, .int .i64 0], .agg #[.int .i64 0, .int .i64 0], .int .i64 1]) (by simp [results, Try.results13, go_sem, r0, r1, r2, r3]) rfl ?_
  exact ⟨rfl, (((HB.out.setCell l1 _).setCell l1 _).setCell l2 _).setCell l2 _⟩
set_option maxHeartbeats 8000000 in
set_option maxRecDepth 100000 in
theorem mxDr_neg (A M m : Int) (w : World) (hP : plB A M = true) (h : m < 0) :
    Calls Try.prog 13 #[.agg #[.int .i64 A, .int .i64 M], .int .i64 m] w fun e w' => e = .returned (.tuple #[.agg #[.int .i64 0, .int .i64 0], .agg #[.int .i64 0, .int .i64 0], .int .i64 2]) ∧ Below w.heap.size w w' := by
  have HP := Lib.hid (fun W => mxPl_any A M W)
  rw [hP] at HP
  clear hP
  have T0 := Lib.hid (((Two.new w (.int .i64 A) (.int .i64 M) 24).alloc (.cells #[.int .i64 0, .int .i64 0] 24)).alloc (.cells #[.int .i64 0, .int .i64 0] 24))
  have T1 := Lib.hid ((two_new1 w (.cells #[.int .i64 A, .int .i64 M] 24) (.int .i64 0) (.int .i64 0) 24).alloc (.cells #[.int .i64 0, .int .i64 0] 24))
  have T2 := Lib.hid (two_new2 w (.cells #[.int .i64 A, .int .i64 M] 24) (.cells #[.int .i64 0, .int .i64 0] 24) (.int .i64 0) (.int .i64 0) 24)
  have HB : Hid (Below w.heap.size w (((w.alloc (.cells #[.int .i64 A, .int .i64 M] 24)).alloc (.cells #[.int .i64 0, .int .i64 0] 24)).alloc (.cells #[.int .i64 0, .int .i64 0] 24))) := Lib.hid (bel_alloc (bel_alloc (bel_alloc (Below.refl _ _))))
  obtain ⟨b0, b1, b2, b3, b4⟩ := T0.out
  go_enter Try.func13, Try.ntmps13
  go_wp2_with fail
  refine (HP.out _).mono ?_
  rintro e w1 ⟨rfl, h1⟩
  clear b0 b1 b2 b3 b4
  replace T0 := Lib.hid (T0.out.below h1)
  replace T1 := Lib.hid (T1.out.below h1)
  replace T2 := Lib.hid (T2.out.below h1)
  replace HB := Lib.hid (bel_trans HB.out h1)
  clear h1
  obtain ⟨b0, b1, b2, b3, b4⟩ := T0.out
  obtain ⟨c0, c1, c2, c3, c4⟩ := T1.out
  obtain ⟨d0, d1, d2, d3, d4⟩ := T2.out
  have q : decide (m < 0) = true := decide_eq_true h
  go_wp2
  obtain ⟨⟨r0, r1⟩, r2, r3⟩ := two_read2 w1 (w.heap.size + 1) (w.heap.size + 1 + 1) (.int .i64 0) (.int .i64 0) (.int .i64 0) (.int .i64 0) (by omega) c0 c1 d0 d1
  have l1 : w.heap.size ≤ w.heap.size + 1 := by omega
  have l2 : w.heap.size ≤ w.heap.size + 1 + 1 := by omega
  generalize w.heap.size + 1 + 1 = D at *
  generalize w.heap.size + 1 = C at *
  refine bodyPost_ret (v := .tuple #[.agg #[.int .i64 0, .int .i64 0], .agg #[.int .i64 0, .int .i64 0], .int .i64 2]) (by simp [results, Try.results13, go_sem, r0, r1, r2, r3]) rfl ?_
  exact ⟨rfl, (((HB.out.setCell l1 _).setCell l1 _).setCell l2 _).setCell l2 _⟩
set_option maxHeartbeats 8000000 in
set_option maxRecDepth 100000 in
theorem mxDr_short (A M m : Int) (w : World) (hP : plB A M = true) (h : 0 ≤ m) (g : M < m) :
    Calls Try.prog 13 #[.agg #[.int .i64 A, .int .i64 M], .int .i64 m] w fun e w' => e = .returned (.tuple #[.agg #[.int .i64 0, .int .i64 0], .agg #[.int .i64 0, .int .i64 0], .int .i64 17]) ∧ Below w.heap.size w w' := by
  have HP := Lib.hid (fun W => mxPl_any A M W)
  rw [hP] at HP
  clear hP
  have T0 := Lib.hid (((Two.new w (.int .i64 A) (.int .i64 M) 24).alloc (.cells #[.int .i64 0, .int .i64 0] 24)).alloc (.cells #[.int .i64 0, .int .i64 0] 24))
  have T1 := Lib.hid ((two_new1 w (.cells #[.int .i64 A, .int .i64 M] 24) (.int .i64 0) (.int .i64 0) 24).alloc (.cells #[.int .i64 0, .int .i64 0] 24))
  have T2 := Lib.hid (two_new2 w (.cells #[.int .i64 A, .int .i64 M] 24) (.cells #[.int .i64 0, .int .i64 0] 24) (.int .i64 0) (.int .i64 0) 24)
  have HB : Hid (Below w.heap.size w (((w.alloc (.cells #[.int .i64 A, .int .i64 M] 24)).alloc (.cells #[.int .i64 0, .int .i64 0] 24)).alloc (.cells #[.int .i64 0, .int .i64 0] 24))) := Lib.hid (bel_alloc (bel_alloc (bel_alloc (Below.refl _ _))))
  obtain ⟨b0, b1, b2, b3, b4⟩ := T0.out
  go_enter Try.func13, Try.ntmps13
  go_wp2_with fail
  refine (HP.out _).mono ?_
  rintro e w1 ⟨rfl, h1⟩
  clear b0 b1 b2 b3 b4
  replace T0 := Lib.hid (T0.out.below h1)
  replace T1 := Lib.hid (T1.out.below h1)
  replace T2 := Lib.hid (T2.out.below h1)
  replace HB := Lib.hid (bel_trans HB.out h1)
  clear h1
  obtain ⟨b0, b1, b2, b3, b4⟩ := T0.out
  obtain ⟨c0, c1, c2, c3, c4⟩ := T1.out
  obtain ⟨d0, d1, d2, d3, d4⟩ := T2.out
  have q : decide (m < 0) = false := decide_eq_false (by omega)
  have q2 : decide (M < m) = true := decide_eq_true g
  go_wp2
  obtain ⟨⟨r0, r1⟩, r2, r3⟩ := two_read2 w1 (w.heap.size + 1) (w.heap.size + 1 + 1) (.int .i64 0) (.int .i64 0) (.int .i64 0) (.int .i64 0) (by omega) c0 c1 d0 d1
  have l1 : w.heap.size ≤ w.heap.size + 1 := by omega
  have l2 : w.heap.size ≤ w.heap.size + 1 + 1 := by omega
  generalize w.heap.size + 1 + 1 = D at *
  generalize w.heap.size + 1 = C at *
  refine bodyPost_ret (v := .tuple #[.agg #[.int .i64 0, .int .i64 0], .agg #[.int .i64 0, .int .i64 0], .int .i64 17]) (by simp [results, Try.results13, go_sem, r0, r1, r2, r3]) rfl ?_
  exact ⟨rfl, (((HB.out.setCell l1 _).setCell l1 _).setCell l2 _).setCell l2 _⟩
set_option maxHeartbeats 8000000 in
set_option maxRecDepth 100000 in
theorem mxDr_ok (A M m : Int) (q f r : Int) (w : World) (hP : plB A M = true) (h : 0 ≤ m) (g : m ≤ M) (hA : 0 ≤ A ∧ A ≤ 10737418240000) (hM : M ≤ 128849018880000) (hq : 0 ≤ q ∧ q ≤ A) (HO : Hid (∀ W, Calls Try.prog 30 #[.int .i64 A, .int .i64 m, .int .i64 M] W fun e w' => e = .returned (.tuple #[.int .i64 q, .int .i64 r, .int .i64 f]) ∧ Below W.heap.size W w')) :
    Calls Try.prog 13 #[.agg #[.int .i64 A, .int .i64 M], .int .i64 m] w fun e w' => e = .returned (.tuple #[.agg #[.int .i64 q, .int .i64 m], .agg #[.int .i64 (A - q), .int .i64 (M - m)], .int .i64 0]) ∧ Below w.heap.size w w' := by
  have HP := Lib.hid (fun W => mxPl_any A M W)
  rw [hP] at HP
  clear hP
  have T0 := Lib.hid (((Two.new w (.int .i64 A) (.int .i64 M) 24).alloc (.cells #[.int .i64 0, .int .i64 0] 24)).alloc (.cells #[.int .i64 0, .int .i64 0] 24))
  have T1 := Lib.hid ((two_new1 w (.cells #[.int .i64 A, .int .i64 M] 24) (.int .i64 0) (.int .i64 0) 24).alloc (.cells #[.int .i64 0, .int .i64 0] 24))
  have T2 := Lib.hid (two_new2 w (.cells #[.int .i64 A, .int .i64 M] 24) (.cells #[.int .i64 0, .int .i64 0] 24) (.int .i64 0) (.int .i64 0) 24)
  have HB : Hid (Below w.heap.size w (((w.alloc (.cells #[.int .i64 A, .int .i64 M] 24)).alloc (.cells #[.int .i64 0, .int .i64 0] 24)).alloc (.cells #[.int .i64 0, .int .i64 0] 24))) := Lib.hid (bel_alloc (bel_alloc (bel_alloc (Below.refl _ _))))
  obtain ⟨b0, b1, b2, b3, b4⟩ := T0.out
  go_enter Try.func13, Try.ntmps13
  go_wp2_with fail
  refine (HP.out _).mono ?_
  rintro e w1 ⟨rfl, h1⟩
  clear b0 b1 b2 b3 b4
  replace T0 := Lib.hid (T0.out.below h1)
  replace T1 := Lib.hid (T1.out.below h1)
  replace T2 := Lib.hid (T2.out.below h1)
  replace HB := Lib.hid (bel_trans HB.out h1)
  clear h1
  obtain ⟨b0, b1, b2, b3, b4⟩ := T0.out
  obtain ⟨c0, c1, c2, c3, c4⟩ := T1.out
  obtain ⟨d0, d1, d2, d3, d4⟩ := T2.out
  have q1 : decide (m < 0) = false := decide_eq_false (by omega)
  have q2 : decide (M < m) = false := decide_eq_false (by omega)
  go_wp2_with fail
  refine (HO.out _).mono ?_
  rintro e w2 ⟨rfl, h1⟩
  clear b0 b1 b2 b3 b4 c0 c1 c2 c3 c4 d0 d1 d2 d3 d4
  replace T0 := Lib.hid (T0.out.below h1)
  replace T1 := Lib.hid (T1.out.below h1)
  replace T2 := Lib.hid (T2.out.below h1)
  replace HB := Lib.hid (bel_trans HB.out h1)
  clear h1
  obtain ⟨b0, b1, b2, b3, b4⟩ := T0.out
  obtain ⟨c0, c1, c2, c3, c4⟩ := T1.out
  obtain ⟨d0, d1, d2, d3, d4⟩ := T2.out
  obtain ⟨⟨r0, r1⟩, r2, r3⟩ := two_read2 w2 (w.heap.size + 1) (w.heap.size + 1 + 1) (.int .i64 q) (.int .i64 m) (.int .i64 (A - q)) (.int .i64 (M - m)) (by omega) c0 c1 d0 d1
  obtain ⟨⟨s0, s1⟩, s2, s3⟩ := two_read2 w2 (w.heap.size + 1 + 1) (w.heap.size + 1) (.int .i64 (A - q)) (.int .i64 (M - m)) (.int .i64 q) (.int .i64 m) (by omega) d0 d1 c0 c1
  have l1 : w.heap.size ≤ w.heap.size + 1 := by omega
  have l2 : w.heap.size ≤ w.heap.size + 1 + 1 := by omega
  have B1 := Lib.hid ((((HB.out.setCell (p := ⟨w.heap.size + 1, 0, none⟩) l1 (.int .i64 q)).setCell (p := ⟨w.heap.size + 1, 1, none⟩) l1 (.int .i64 m)).setCell (p := ⟨w.heap.size + 1 + 1, 0, none⟩) l2 (.int .i64 (A - q))).setCell (p := ⟨w.heap.size + 1 + 1, 1, none⟩) l2 (.int .i64 (M - m)))
  have B2 := Lib.hid ((((HB.out.setCell (p := ⟨w.heap.size + 1 + 1, 0, none⟩) l2 (.int .i64 (A - q))).setCell (p := ⟨w.heap.size + 1 + 1, 1, none⟩) l2 (.int .i64 (M - m))).setCell (p := ⟨w.heap.size + 1, 0, none⟩) l1 (.int .i64 q)).setCell (p := ⟨w.heap.size + 1, 1, none⟩) l1 (.int .i64 m))
  have R1 := Lib.hid (And.intro (And.intro r0 r1) (And.intro r2 r3))
  have R2 := Lib.hid (And.intro (And.intro s0 s1) (And.intro s2 s3))
  clear r0 r1 r2 r3 s0 s1 s2 s3
  go_wp2_with fail
  go_region
  all_goals go_wp2
  all_goals
    obtain ⟨⟨r0, r1⟩, r2, r3⟩ := R1.out
    obtain ⟨⟨s0, s1⟩, s2, s3⟩ := R2.out
    generalize w.heap.size + 1 + 1 = D at *
    generalize w.heap.size + 1 = C at *
    refine bodyPost_ret (v := .tuple #[.agg #[.int .i64 q, .int .i64 m], .agg #[.int .i64 (A - q), .int .i64 (M - m)], .int .i64 0]) (by simp [results, Try.results13, go_sem, r0, r1, r2, r3, s0, s1, s2, s3]) rfl ?_
    exact ⟨rfl, by first | exact B1.out | exact B2.out | exact bel_trans B1.out (bel_drew _) | exact bel_trans B2.out (bel_drew _) | exact bel_trans B1.out (bel_drewN _ _) | exact bel_trans B2.out (bel_drewN _ _)⟩
theorem mxDr_any (A M m : Int) (w : World) :
    Calls Try.prog 13 #[.agg #[.int .i64 A, .int .i64 M], .int .i64 m] w fun e w' => e = .returned (.tuple #[.agg #[.int .i64 (drA A M m), .int .i64 (drM A M m)], .agg #[.int .i64 (rsA A M m), .int .i64 (rsM A M m)], .int .i64 (drE A M m)]) ∧ Below w.heap.size w w' := by
  unfold drA drM rsA rsM
  cases hP : plB A M with
  | false =>
    have e : drE A M m = 1 := by unfold drE; rw [if_pos hP]
    rw [e]; exact mxDr_bad A M m w hP
  | true =>
    by_cases h : m < 0
    · have e : drE A M m = 2 := by unfold drE; rw [hP, if_neg (by simp), if_pos h]
      rw [e]; exact mxDr_neg A M m w hP h
    · by_cases g : M < m
      · have e : drE A M m = 17 := by unfold drE; rw [hP, if_neg (by simp), if_neg h, if_pos g]
        rw [e]; exact mxDr_short A M m w hP (by omega) g
      · have e : drE A M m = 0 := drE_zero.2 ⟨hP, by omega, by omega⟩
        rw [e]
        have b := draw_bd hP (show 0 ≤ m by omega) (show m ≤ M by omega)
        have p := plB_iff.1 hP
        have o := Lib.hid (fun W => of_any A m M W)
        rw [draw_of hP (by omega) (by omega)] at o
        exact mxDr_ok A M m _ _ _ w hP (by omega) (by omega) ⟨p.1, p.2.1⟩ p.2.2.2.1 ⟨b.1, b.2.1⟩ o
end Go.Proofs.Ytfkcgdnpfngdkaa

/- Package mix: the mixture of plain liquids; Sum. -/
namespace Go.Proofs.Ytfkcgdnpfngdkaa
open Go.RowKit

theorem Pts.other {W : World} {v : Value} {l : List (Int × Int)} (h : Pts W v l) (p : Addr) (hp : ∀ a n c, v = .slice (some a) n c → l.length = 0 ∨ a.block ≠ p.block) (z : Value) : Pts (W.setCell p z) v l := by
  obtain ⟨a, cap, rfl, hl, hh⟩ := h
  refine ⟨a, cap, rfl, hl, ?_⟩
  rcases hh with hh | ⟨b, off, rfl, hlt, hc⟩
  · exact .inl hh
  · rcases hp _ _ _ rfl with h0 | hn
    · exact .inl h0
    · refine .inr ⟨b, off, rfl, by simpa [World.setCell] using hlt, fun j hj => ?_⟩
      rw [World.cell?_setCell_other _ _ _ _ (by intro e; exact hn (by rw [e])), World.cell?_setCell_other _ _ _ _ (by intro e; exact hn (by rw [e]))]
      exact hc j hj
set_option maxHeartbeats 8000000 in
set_option maxRecDepth 100000 in
theorem mxMix_any (v : Value) (l : List (Int × Int)) (w : World) (hv : Pts w v l) (hn : l.length ≤ 8) (hp : allP l = true) :
    Calls Try.prog 27 #[v] w fun e w' => e = .returned (.agg #[.int .i64 (sm fA l), .int .i64 (sm fM l)]) ∧ Below w.heap.size w w' := by
  obtain ⟨a, cap, rfl, hcap, hh⟩ := hv
  have NV : Hid (Pts w (.slice a l.length cap) l) := ⟨a, cap, rfl, hcap, hh⟩
  have HBL : Hid (∀ b off n c, Value.slice a l.length cap = .slice (some ⟨b, off, none⟩) n c → l.length = 0 ∨ b < w.heap.size) := Lib.hid (by
    intro b off n c e
    simp only [Value.slice.injEq] at e
    rcases hh with h0 | ⟨b', off', e', hb, _⟩
    · exact .inl h0
    · rw [e.1] at e'; simp only [Option.some.injEq, Addr.mk.injEq] at e'; rw [e'.1]; exact .inr hb)
  clear hh hcap
  have HS := Lib.hid (sm_step fA l)
  have HT := Lib.hid (sm_step fM l)
  have FS := Lib.hid (sm_full fA l)
  have FT := Lib.hid (sm_full fM l)
  have HX := Lib.hid (fun k (hk : k < l.length) => plB_iff.1 (allP_at hp hk))
  have HY := Lib.hid (fun k => mix_bd (allP_take hp k))
  have HL := Lib.hid (fun k => List.length_take_le k l)
  generalize sm fA l = SA at *
  generalize sm fM l = SM at *
  generalize hN : l.length = n at *
  have HB : Hid (Below w.heap.size w ((w.alloc (.cells #[.int .i64 0, .int .i64 0] 24)).alloc (.cells #[.int .i64 0, .int .i64 0] 67))) := Lib.hid (bel_alloc (bel_alloc (Below.refl _ _)))
  have T0 : Hid (Two w.heap.size ((w.alloc (.cells #[.int .i64 0, .int .i64 0] 24)).alloc (.cells #[.int .i64 0, .int .i64 0] 67)) (.int .i64 0) (.int .i64 0)) := Lib.hid ((Two.new w _ _ _).alloc _)
  have T1 : Hid (Two (w.heap.size + 1) ((w.alloc (.cells #[.int .i64 0, .int .i64 0] 24)).alloc (.cells #[.int .i64 0, .int .i64 0] 67)) (.int .i64 0) (.int .i64 0)) := by
    have := Two.new (w.alloc (.cells #[.int .i64 0, .int .i64 0] 24)) (.int .i64 0) (.int .i64 0) 67
    rw [World.size_alloc] at this
    exact this
  replace NV : Hid (Pts ((w.alloc (.cells #[.int .i64 0, .int .i64 0] 24)).alloc (.cells #[.int .i64 0, .int .i64 0] 67)) (.slice a n cap) l) := Lib.hid ((NV.out.alloc _).alloc _)
  have qi0 : ∀ (u v : Value) (W : World), (Instr.index 67 (.agg #[u, v]) (.int .i64 0)).run Try.prog W = .ok u W := fun _ _ _ => by kernel_rfl
  have qi1 : ∀ (u v : Value) (W : World), (Instr.index 67 (.agg #[u, v]) (.int .i64 1)).run Try.prog W = .ok v W := fun _ _ _ => by kernel_rfl
  go_enter Try.func27, Try.ntmps27
  go_wp2_with fail
  go_loopw [10] (fun i wr => ∃ k : Nat, k ≤ n ∧ i = .int .i64 k ∧ Hid (Below w.heap.size w wr) ∧ Hid (Pts wr (.slice a n cap) l) ∧ Hid (Two w.heap.size wr (.int .i64 0) (.int .i64 0)) ∧ Hid (Two (w.heap.size + 1) wr (.int .i64 (sm fA (l.take k))) (.int .i64 (sm fM (l.take k))))) (fun i _ => n - (intOf i).toNat)
  case atStart => exact ⟨0, Nat.zero_le _, rfl, HB, NV, T0, T1⟩
  case round =>
    clear HB NV T0 T1
    obtain ⟨k, hk, rfl, HB, NV, T0, T1⟩ := hrel
    by_cases hlt : k < n
    · obtain ⟨b, off, rfl, hb, hc⟩ := NV.out.at (by omega)
      obtain ⟨c0, c1⟩ := hc k hlt
      clear hc
      have hbw : b < w.heap.size := by rcases HBL.out b off n cap rfl with h0 | h0 <;> omega
      have nb : ∀ j : Nat, ∀ a' n' c', Value.slice (some ⟨b, off, none⟩) n cap = .slice (some a') n' c' → l.length = 0 ∨ a'.block ≠ (⟨w.heap.size + 1, j, none⟩ : Addr).block := fun j a' n' c' e => by simp only [Value.slice.injEq, Option.some.injEq] at e; rw [← e.1]; exact .inr (by show b ≠ w.heap.size + 1; omega)
      clear HBL
      have x := HX.out k hlt
      have y := HY.out k
      have yl := HL.out k
      have S1 := Lib.hid (HS.out k hlt)
      have S2 := Lib.hid (HT.out k hlt)
      unfold fA at S1
      unfold fM at S2
      change Hid (sm fA (l.take (k + 1)) = sm fA (l.take k) + gX l k) at S1
      change Hid (sm fM (l.take (k + 1)) = sm fM (l.take k) + gR l k) at S2
      have bd : 0 ≤ sm fA (l.take k) ∧ sm fA (l.take k) ≤ 85899345920000 ∧ 0 ≤ sm fM (l.take k) ∧ sm fM (l.take k) ≤ 1030792151040000 := by omega
      clear y yl
      generalize gX l k = X at *
      generalize gR l k = Y at *
      generalize sm fA (l.take k) = S at *
      generalize sm fM (l.take k) = R at *
      have e1 : IntKind.i64.wrap (S + X) = S + X := wrap_in _ ⟨by omega, by omega⟩
      have e2 : IntKind.i64.wrap (R + Y) = R + Y := wrap_in _ ⟨by omega, by omega⟩
      have l9 : (k : Int) < (n : Int) := by omega
      have X1 : Hid (Below w.heap.size w (wr.alloc (.cells #[.int .i64 X, .int .i64 Y] 24))) := Lib.hid (bel_trans HB.out (bel_alloc (Below.refl _ _)))
      replace NV := Lib.hid (NV.out.alloc (.cells #[.int .i64 X, .int .i64 Y] 24))
      replace T0 := Lib.hid (T0.out.alloc (.cells #[.int .i64 X, .int .i64 Y] 24))
      replace T1 := Lib.hid (T1.out.alloc (.cells #[.int .i64 X, .int .i64 Y] 24))
      clear HB
      go_wp2_with fail
      go_loopw [19] (fun i wi => ((i = .int .i64 0 ∧ Hid (Two (w.heap.size + 1) wi (.int .i64 S) (.int .i64 R))) ∨ (i = .int .i64 1 ∧ Hid (Two (w.heap.size + 1) wi (.int .i64 (S + X)) (.int .i64 R))) ∨ (i = .int .i64 2 ∧ Hid (Two (w.heap.size + 1) wi (.int .i64 (S + X)) (.int .i64 (R + Y))))) ∧ Hid (Below w.heap.size w wi) ∧ Hid (Pts wi (.slice (some ⟨b, off, none⟩) n cap) l) ∧ Hid (Two w.heap.size wi (.int .i64 0) (.int .i64 0))) (fun i _ => 2 - (intOf i).toNat)
      case atStart => exact ⟨.inl ⟨rfl, T1⟩, X1, NV, T0⟩
      case round =>
        clear X1 NV T0 T1 c0 c1
        obtain ⟨hi, X1, NV, T0⟩ := hrel
        have ne1 : w.heap.size + 1 ≠ w.heap.size := by omega
        rcases hi with ⟨rfl, T1⟩ | ⟨rfl, T1⟩ | ⟨rfl, T1⟩
        · obtain ⟨t0, t1, t2, t3, t4⟩ := T1.out
          have N1 := Lib.hid (T1.out.set0 (.int .i64 (S + X)))
          have N0 := Lib.hid (T0.out.other ⟨w.heap.size + 1, 0, none⟩ ne1 (.int .i64 (S + X)))
          go_wp2
          go_roundw
          case rel => exact ⟨.inr (.inl ⟨by go_num, N1⟩), Lib.hid (X1.out.setCell (by show _ ≤ w.heap.size + 1; omega) _), Lib.hid (NV.out.other ⟨w.heap.size + 1, 0, none⟩ (nb 0) _), N0⟩
          case measure => simp [intOf]
        · obtain ⟨t0, t1, t2, t3, t4⟩ := T1.out
          have N1 := Lib.hid (T1.out.set1 (.int .i64 (R + Y)))
          have N0 := Lib.hid (T0.out.other ⟨w.heap.size + 1, 1, none⟩ ne1 (.int .i64 (R + Y)))
          go_wp2
          go_roundw
          case rel => exact ⟨.inr (.inr ⟨by go_num, N1⟩), Lib.hid (X1.out.setCell (by show _ ≤ w.heap.size + 1; omega) _), Lib.hid (NV.out.other ⟨w.heap.size + 1, 1, none⟩ (nb 1) _), N0⟩
          case measure => simp [intOf]
        · go_wp2
          go_roundw
          case rel => exact ⟨k + 1, by omega, by go_num, X1, NV, T0, by rw [S1.out, S2.out]; exact T1⟩
          case measure => simp [intOf]; omega
    · obtain rfl : k = n := by omega
      rw [FS.out, FT.out] at T1
      obtain ⟨t0, t1, t2, t3, t4⟩ := T1.out
      obtain ⟨z0, z1, z2, z3, z4⟩ := T0.out
      go_wp2
      obtain ⟨r0, r1⟩ := two_read wr w.heap.size (.int .i64 SA) (.int .i64 SM) z0 z1
      refine bodyPost_ret (v := .agg #[.int .i64 SA, .int .i64 SM]) (by simp [results, Try.results27, go_sem, r0, r1]) rfl ?_
      exact ⟨rfl, (HB.out.setCell (Nat.le_refl _) _).setCell (Nat.le_refl _) _⟩
set_option maxHeartbeats 8000000 in
set_option maxRecDepth 100000 in
theorem mxSu_long (a : Option Addr) (n cap : Nat) (w : World) (h : 8 < n) (hn : n ≤ 9223372036854775807) :
    Calls Try.prog 11 #[.slice a n cap] w fun e w' => e = .returned (.tuple #[.agg #[.int .i64 0, .int .i64 0], .int .i64 8]) ∧ Below w.heap.size w w' := by
  have q : decide (8 < (n : Int)) = true := decide_eq_true (by omega)
  have X := Lib.hid (bel_alloc (w := w) (o := .cells #[.int .i64 0, .int .i64 0] 24) (Below.refl _ _))
  go_enter Try.func11, Try.ntmps11
  go_wp2
  go_returns
  exact ⟨rfl, by go_grown⟩
set_option maxHeartbeats 16000000 in
set_option maxRecDepth 100000 in
theorem mxSu_bad (a : Option Addr) (n cap m : Nat) (l : List (Int × Int)) (w : World) (NV : Hid (Pts w (.slice a n cap) l)) (hn : n ≤ 8) (hm : m < n) (hp : Hid (∀ j, j < m → plB (gX l j) (gR l j) = true)) (hq : plB (gX l m) (gR l m) = false) :
    Calls Try.prog 11 #[.slice a n cap] w fun e w' => e = .returned (.tuple #[.agg #[.int .i64 0, .int .i64 0], .int .i64 1]) ∧ Below w.heap.size w w' := by
  have q : decide (8 < (n : Int)) = false := decide_eq_false (by omega)
  have X := Lib.hid (bel_alloc (w := w) (o := .cells #[.int .i64 0, .int .i64 0] 24) (Below.refl _ _))
  have T0 := Lib.hid (Two.new w (.int .i64 0) (.int .i64 0) 24)
  replace NV := Lib.hid (NV.out.alloc (.cells #[.int .i64 0, .int .i64 0] 24))
  go_enter Try.func11, Try.ntmps11
  go_wp2_with fail
  go_loopw [13] (fun i wr => ∃ k : Nat, k ≤ m ∧ i = .int .i64 k ∧ Hid (Below w.heap.size w wr) ∧ Hid (Pts wr (.slice a n cap) l) ∧ Hid (Two w.heap.size wr (.int .i64 0) (.int .i64 0))) (fun i _ => n - (intOf i).toNat)
  case atStart => exact ⟨0, Nat.zero_le _, rfl, X, NV, T0⟩
  case round =>
    clear X NV T0
    obtain ⟨k, hk, rfl, X, NV, T0⟩ := hrel
    by_cases hlt : k < m
    · have HP := Lib.hid (fun W => mxPl_any (gX l k) (gR l k) W)
      rw [hp.out k hlt] at HP
      have l9 : (k : Int) < (n : Int) := by omega
      obtain ⟨b, off, rfl, hb, hc⟩ := NV.out.at (by omega)
      obtain ⟨c0, c1⟩ := hc k (by omega)
      clear hc
      generalize gX l k = x at *
      generalize gR l k = y at *
      have P0 := Lib.hid (Two.new wr (.int .i64 x) (.int .i64 y) 24)
      replace X := Lib.hid (bel_trans X.out (bel_alloc (o := .cells #[.int .i64 x, .int .i64 y] 24) (Below.refl _ _)))
      replace NV := Lib.hid (NV.out.alloc (.cells #[.int .i64 x, .int .i64 y] 24))
      replace T0 := Lib.hid (T0.out.alloc (.cells #[.int .i64 x, .int .i64 y] 24))
      obtain ⟨p0, p1, _, _, _⟩ := P0.out
      go_wp2_with fail
      refine (HP.out _).mono ?_
      rintro e w3 ⟨rfl, hb⟩
      replace X := Lib.hid (bel_trans X.out hb)
      replace NV := Lib.hid (NV.out.below hb)
      replace T0 := Lib.hid (T0.out.below hb)
      clear hb
      go_wp2
      go_roundw
      case rel => exact ⟨k + 1, by omega, by go_num, X, NV, T0⟩
      case measure => simp [intOf]; omega
    · obtain rfl : k = m := by omega
      have HP := Lib.hid (fun W => mxPl_any (gX l k) (gR l k) W)
      rw [hq] at HP
      clear hp hq
      have l9 : (k : Int) < (n : Int) := by omega
      obtain ⟨b, off, rfl, hb, hc⟩ := NV.out.at (by omega)
      obtain ⟨c0, c1⟩ := hc k (by omega)
      clear hc
      generalize gX l k = x at *
      generalize gR l k = y at *
      have P0 := Lib.hid (Two.new wr (.int .i64 x) (.int .i64 y) 24)
      replace X := Lib.hid (bel_trans X.out (bel_alloc (o := .cells #[.int .i64 x, .int .i64 y] 24) (Below.refl _ _)))
      replace T0 := Lib.hid (T0.out.alloc (.cells #[.int .i64 x, .int .i64 y] 24))
      obtain ⟨p0, p1, _, _, _⟩ := P0.out
      go_wp2_with fail
      refine (HP.out _).mono ?_
      rintro e w3 ⟨rfl, hb⟩
      replace X := Lib.hid (bel_trans X.out hb)
      replace T0 := Lib.hid (T0.out.below hb)
      clear hb
      obtain ⟨z0, z1, z2, z3, z4⟩ := T0.out
      go_wp2
      obtain ⟨r0, r1⟩ := two_read w3 w.heap.size (.int .i64 0) (.int .i64 0) z0 z1
      refine bodyPost_ret (v := .tuple #[.agg #[.int .i64 0, .int .i64 0], .int .i64 1]) (by simp [results, Try.results11, go_sem, r0, r1]) rfl ?_
      exact ⟨rfl, (X.out.setCell (Nat.le_refl _) _).setCell (Nat.le_refl _) _⟩
set_option maxHeartbeats 16000000 in
set_option maxRecDepth 100000 in
theorem mxSu_over (a : Option Addr) (n cap : Nat) (l : List (Int × Int)) (w : World) (NV : Hid (Pts w (.slice a n cap) l)) (hn : n ≤ 8) (hl : Hid (l.length = n)) (ha : allP l = true) (hp : Hid (∀ j, j < n → plB (gX l j) (gR l j) = true)) (hB : plB (sm fA l) (sm fM l) = false) :
    Calls Try.prog 11 #[.slice a n cap] w fun e w' => e = .returned (.tuple #[.agg #[.int .i64 0, .int .i64 0], .int .i64 15]) ∧ Below w.heap.size w w' := by
  have q : decide (8 < (n : Int)) = false := decide_eq_false (by omega)
  have X := Lib.hid (bel_alloc (w := w) (o := .cells #[.int .i64 0, .int .i64 0] 24) (Below.refl _ _))
  have T0 := Lib.hid (Two.new w (.int .i64 0) (.int .i64 0) 24)
  replace NV := Lib.hid (NV.out.alloc (.cells #[.int .i64 0, .int .i64 0] 24))
  go_enter Try.func11, Try.ntmps11
  go_wp2_with fail
  go_loopw [13] (fun i wr => ∃ k : Nat, k ≤ n ∧ i = .int .i64 k ∧ Hid (Below w.heap.size w wr) ∧ Hid (Pts wr (.slice a n cap) l) ∧ Hid (Two w.heap.size wr (.int .i64 0) (.int .i64 0))) (fun i _ => n - (intOf i).toNat)
  case atStart => exact ⟨0, Nat.zero_le _, rfl, X, NV, T0⟩
  case round =>
    clear X NV T0
    obtain ⟨k, hk, rfl, X, NV, T0⟩ := hrel
    by_cases hlt : k < n
    · have HP := Lib.hid (fun W => mxPl_any (gX l k) (gR l k) W)
      rw [hp.out k hlt] at HP
      have l9 : (k : Int) < (n : Int) := by omega
      obtain ⟨b, off, rfl, hb, hc⟩ := NV.out.at (by omega)
      obtain ⟨c0, c1⟩ := hc k (by omega)
      clear hc
      generalize gX l k = x at *
      generalize gR l k = y at *
      have P0 := Lib.hid (Two.new wr (.int .i64 x) (.int .i64 y) 24)
      replace X := Lib.hid (bel_trans X.out (bel_alloc (o := .cells #[.int .i64 x, .int .i64 y] 24) (Below.refl _ _)))
      replace NV := Lib.hid (NV.out.alloc (.cells #[.int .i64 x, .int .i64 y] 24))
      replace T0 := Lib.hid (T0.out.alloc (.cells #[.int .i64 x, .int .i64 y] 24))
      obtain ⟨p0, p1, _, _, _⟩ := P0.out
      go_wp2_with fail
      refine (HP.out _).mono ?_
      rintro e w3 ⟨rfl, hb⟩
      replace X := Lib.hid (bel_trans X.out hb)
      replace NV := Lib.hid (NV.out.below hb)
      replace T0 := Lib.hid (T0.out.below hb)
      clear hb
      go_wp2
      go_roundw
      case rel => exact ⟨k + 1, by omega, by go_num, X, NV, T0⟩
      case measure => simp [intOf]; omega
    · obtain rfl : k = n := by omega
      have HM := Lib.hid (fun W h => mxMix_any (.slice a k cap) l W h (by rw [hl.out]; exact hn) ha)
      have HP := Lib.hid (fun W => mxPl_any (sm fA l) (sm fM l) W)
      rw [hB] at HP
      generalize sm fA l = x at *
      generalize sm fM l = y at *
      go_wp2_with fail
      refine (HM.out _ NV.out).mono ?_
      rintro e w3 ⟨rfl, hb⟩
      have P0 := Lib.hid (Two.new w3 (.int .i64 x) (.int .i64 y) 24)
      replace X := Lib.hid (bel_trans (bel_trans X.out hb) (bel_alloc (o := .cells #[.int .i64 x, .int .i64 y] 24) (Below.refl _ _)))
      replace T0 := Lib.hid ((T0.out.below hb).alloc (.cells #[.int .i64 x, .int .i64 y] 24))
      clear hb
      obtain ⟨p0, p1, _, _, _⟩ := P0.out
      go_wp2_with fail
      refine (HP.out _).mono ?_
      rintro e w4 ⟨rfl, hb⟩
      replace P0 := Lib.hid (P0.out.below hb)
      replace X := Lib.hid (bel_trans X.out hb)
      replace T0 := Lib.hid (T0.out.below hb)
      clear hb p0 p1
      obtain ⟨p0, p1, _, _, _⟩ := P0.out
      obtain ⟨z0, z1, z2, z3, z4⟩ := T0.out
      go_wp2
      obtain ⟨r0, r1⟩ := two_read w4 w.heap.size (.int .i64 0) (.int .i64 0) z0 z1
      refine bodyPost_ret (v := .tuple #[.agg #[.int .i64 0, .int .i64 0], .int .i64 15]) (by simp [results, Try.results11, go_sem, r0, r1]) rfl ?_
      exact ⟨rfl, (X.out.setCell (Nat.le_refl _) _).setCell (Nat.le_refl _) _⟩
set_option maxHeartbeats 16000000 in
set_option maxRecDepth 100000 in
theorem mxSu_ok (a : Option Addr) (n cap : Nat) (l : List (Int × Int)) (w : World) (NV : Hid (Pts w (.slice a n cap) l)) (hn : n ≤ 8) (hl : Hid (l.length = n)) (ha : allP l = true) (hp : Hid (∀ j, j < n → plB (gX l j) (gR l j) = true)) (hB : plB (sm fA l) (sm fM l) = true) :
    Calls Try.prog 11 #[.slice a n cap] w fun e w' => e = .returned (.tuple #[.agg #[.int .i64 (sm fA l), .int .i64 (sm fM l)], .int .i64 0]) ∧ Below w.heap.size w w' := by
  have q : decide (8 < (n : Int)) = false := decide_eq_false (by omega)
  have X := Lib.hid (bel_alloc (w := w) (o := .cells #[.int .i64 0, .int .i64 0] 24) (Below.refl _ _))
  have T0 := Lib.hid (Two.new w (.int .i64 0) (.int .i64 0) 24)
  replace NV := Lib.hid (NV.out.alloc (.cells #[.int .i64 0, .int .i64 0] 24))
  go_enter Try.func11, Try.ntmps11
  go_wp2_with fail
  go_loopw [13] (fun i wr => ∃ k : Nat, k ≤ n ∧ i = .int .i64 k ∧ Hid (Below w.heap.size w wr) ∧ Hid (Pts wr (.slice a n cap) l) ∧ Hid (Two w.heap.size wr (.int .i64 0) (.int .i64 0))) (fun i _ => n - (intOf i).toNat)
  case atStart => exact ⟨0, Nat.zero_le _, rfl, X, NV, T0⟩
  case round =>
    clear X NV T0
    obtain ⟨k, hk, rfl, X, NV, T0⟩ := hrel
    by_cases hlt : k < n
    · have HP := Lib.hid (fun W => mxPl_any (gX l k) (gR l k) W)
      rw [hp.out k hlt] at HP
      have l9 : (k : Int) < (n : Int) := by omega
      obtain ⟨b, off, rfl, hb, hc⟩ := NV.out.at (by omega)
      obtain ⟨c0, c1⟩ := hc k (by omega)
      clear hc
      generalize gX l k = x at *
      generalize gR l k = y at *
      have P0 := Lib.hid (Two.new wr (.int .i64 x) (.int .i64 y) 24)
      replace X := Lib.hid (bel_trans X.out (bel_alloc (o := .cells #[.int .i64 x, .int .i64 y] 24) (Below.refl _ _)))
      replace NV := Lib.hid (NV.out.alloc (.cells #[.int .i64 x, .int .i64 y] 24))
      replace T0 := Lib.hid (T0.out.alloc (.cells #[.int .i64 x, .int .i64 y] 24))
      obtain ⟨p0, p1, _, _, _⟩ := P0.out
      go_wp2_with fail
      refine (HP.out _).mono ?_
      rintro e w3 ⟨rfl, hb⟩
      replace X := Lib.hid (bel_trans X.out hb)
      replace NV := Lib.hid (NV.out.below hb)
      replace T0 := Lib.hid (T0.out.below hb)
      clear hb
      go_wp2
      go_roundw
      case rel => exact ⟨k + 1, by omega, by go_num, X, NV, T0⟩
      case measure => simp [intOf]; omega
    · obtain rfl : k = n := by omega
      have HM := Lib.hid (fun W h => mxMix_any (.slice a k cap) l W h (by rw [hl.out]; exact hn) ha)
      have HP := Lib.hid (fun W => mxPl_any (sm fA l) (sm fM l) W)
      rw [hB] at HP
      generalize hx : sm fA l = x at *
      generalize hy : sm fM l = y at *
      replace hx := Lib.hid hx
      replace hy := Lib.hid hy
      go_wp2_with fail
      refine (HM.out _ NV.out).mono ?_
      rintro e w3 ⟨rfl, hb⟩
      have P0 := Lib.hid (Two.new w3 (.int .i64 x) (.int .i64 y) 24)
      replace X := Lib.hid (bel_trans (bel_trans X.out hb) (bel_alloc (o := .cells #[.int .i64 x, .int .i64 y] 24) (Below.refl _ _)))
      replace T0 := Lib.hid ((T0.out.below hb).alloc (.cells #[.int .i64 x, .int .i64 y] 24))
      clear hb
      obtain ⟨p0, p1, _, _, _⟩ := P0.out
      go_wp2_with fail
      refine (HP.out _).mono ?_
      rintro e w4 ⟨rfl, hb⟩
      replace P0 := Lib.hid (P0.out.below hb)
      replace X := Lib.hid (bel_trans X.out hb)
      replace T0 := Lib.hid (T0.out.below hb)
      clear hb p0 p1
      obtain ⟨p0, p1, _, _, _⟩ := P0.out
      obtain ⟨z0, z1, z2, z3, z4⟩ := T0.out
      go_wp2
      obtain ⟨r0, r1⟩ := two_read w4 w.heap.size (.int .i64 x) (.int .i64 y) z0 z1
      refine bodyPost_ret (v := .tuple #[.agg #[.int .i64 x, .int .i64 y], .int .i64 0]) (by simp [results, Try.results11, go_sem, r0, r1]) rfl ?_
      exact ⟨by rw [hx.out, hy.out], (X.out.setCell (Nat.le_refl _) _).setCell (Nat.le_refl _) _⟩
theorem mxSu_any (v : Value) (l : List (Int × Int)) (w : World) (hv : Pts w v l) :
    Calls Try.prog 11 #[v] w fun e w' => e = .returned (.tuple #[.agg #[.int .i64 (suA l), .int .i64 (suM l)], .int .i64 (suE l)]) ∧ Below w.heap.size w w' := by
  obtain ⟨a, cap, rfl, hcap, hh⟩ := id hv
  unfold suA suM
  by_cases h : 8 < l.length
  · have e : suE l = 8 := by unfold suE; rw [if_pos h]
    rw [e]; exact mxSu_long a _ cap w h (by omega)
  · cases ha : allP l with
    | false =>
      have e : suE l = 1 := by unfold suE; rw [if_neg h, if_pos ha]
      obtain ⟨k, hk, h1, h2⟩ := allP_bad ha
      rw [e]; exact mxSu_bad a _ cap k l w hv (by omega) hk h2 h1
    | true =>
      cases hB : plB (sm fA l) (sm fM l) with
      | false =>
        have e : suE l = 15 := by unfold suE; rw [if_neg h, if_neg (by simp [ha]), if_pos hB]
        rw [e]; exact mxSu_over a _ cap l w hv (by omega) rfl ha (fun j hj => allP_at ha hj) hB
      | true =>
        have e : suE l = 0 := suE_zero.2 ⟨by omega, ha, hB⟩
        rw [e]; exact mxSu_ok a _ cap l w hv (by omega) rfl ha (fun j hj => allP_at ha hj) hB
end Go.Proofs.Ytfkcgdnpfngdkaa

/- Slices that read as lists of rows: copies. -/
namespace Go.Proofs.Ytfkcgdnpfngdkaa
open Go.RowKit Go.Sort

end Go.Proofs.Ytfkcgdnpfngdkaa

/- slices.IndexFunc, ContainsFunc, Index and Contains over liquids. -/
namespace Go.Proofs.Ytfkcgdnpfngdkaa
open Go.RowKit

theorem gx_mem {C : List (Int × Int)} {i : Nat} (hi : i < C.length) : (gX C i, gR C i) ∈ C := by
  have : (gX C i, gR C i) = C[i] := by simp [gX, gR, List.getD_eq_getElem?_getD, List.getElem?_eq_getElem hi]
  rw [this]; exact List.getElem_mem hi
theorem mem_gx {C : List (Int × Int)} {c : Int × Int} (h : c ∈ C) : ∃ i, i < C.length ∧ gX C i = c.1 ∧ gR C i = c.2 := by
  obtain ⟨i, hi, e⟩ := List.getElem_of_mem h
  exact ⟨i, hi, by simp [gX, List.getD_eq_getElem?_getD, List.getElem?_eq_getElem hi, e], by simp [gR, List.getD_eq_getElem?_getD, List.getElem?_eq_getElem hi, e]⟩
/-- the index of the first place at which p holds; -1 if there is none -/
def ixR (p : Nat → Bool) (n : Nat) : Int := if fst p n < n then (fst p n : Int) else -1
theorem ixR_at {p : Nat → Bool} {n k : Nat} (hk : k < n) (h1 : ∀ j, j < k → p j = false) (h2 : p k = true) : ixR p n = k := by
  unfold ixR
  rw [fst_is (by omega) h1 (fun _ => h2), if_pos hk]
theorem ixR_no {p : Nat → Bool} {n : Nat} (h1 : ∀ j, j < n → p j = false) : ixR p n = -1 := by
  unfold ixR
  rw [fst_is (Nat.le_refl _) h1 (fun h => by omega), if_neg (by omega)]
theorem ixR_iff (p : Nat → Bool) (n : Nat) : 0 ≤ ixR p n ↔ ∃ j, j < n ∧ p j = true := by
  unfold ixR
  obtain ⟨s1, s2⟩ := fst_spec p n
  by_cases h : fst p n < n
  · rw [if_pos h]
    exact ⟨fun _ => ⟨_, h, s2 h⟩, fun _ => by omega⟩
  · rw [if_neg h]
    refine ⟨fun h => by omega, ?_⟩
    rintro ⟨j, hj, e⟩
    rw [s1 j (by omega)] at e
    cases e
set_option maxHeartbeats 8000000 in
set_option maxRecDepth 100000 in
theorem idxg_some (f : Nat) (cb : Array Value) (p : Nat → Bool) (eg : ∀ args w, (callFunc f args).run Try.prog w = .ok (.enter f args) w)
    (b off n cap : Nat) (l : List (Int × Int)) (w : World) (n1 : n ≤ 1000) (hb : b < w.heap.size)
    (hc : Hid (∀ j, j < n → w.cell? ⟨b, off + j * 2, none⟩ = some (.int .i64 (gX l j)) ∧ w.cell? ⟨b, off + j * 2 + 1, none⟩ = some (.int .i64 (gR l j))))
    (hp : Hid (∀ j W, j < n → Below w.heap.size w W → Calls Try.prog f (#[.agg #[.int .i64 (gX l j), .int .i64 (gR l j)]] ++ cb) W fun e w' => e = .returned (.bool (p j)) ∧ Below W.heap.size W w')) :
    Calls Try.prog 66 #[.slice (some ⟨b, off, none⟩) n cap, .func (.func f) #[] cb] w fun e w' => e = .returned (.int .i64 (ixR p n)) ∧ Below w.heap.size w w' := by
  go_enter Try.func66, Try.ntmps66
  go_wp2_with fail
  go_loopw [5, 8] (fun _ i wr => ∃ k : Nat, k ≤ n ∧ i = .int .i64 k ∧ Hid (Below w.heap.size w wr) ∧ Hid (∀ j, j < k → p j = false)) (fun _ i _ => n - (intOf i).toNat)
  case atStart => exact ⟨0, Nat.zero_le _, rfl, Below.refl _ _, fun j hj => by omega⟩
  case round =>
    obtain ⟨k, hk, rfl, hB, ha⟩ := hrel
    by_cases hlt : k < n
    · have c0 : wr.cell? ⟨b, off + k * 2, none⟩ = some (.int .i64 (gX l k)) := by rw [(bcell hB.out).1 _ _ hb]; exact (hc.out k hlt).1
      have c1 : wr.cell? ⟨b, off + k * 2 + 1, none⟩ = some (.int .i64 (gR l k)) := by rw [(bcell hB.out).1 _ _ hb]; exact (hc.out k hlt).2
      have HP := Lib.hid (fun W (hW : Below wr.heap.size wr W) => hp.out k W hlt (bel_trans hB.out hW))
      cases hq : p k with
      | true =>
        have hBt := Lib.hid (ixR_at hlt ha.out hq)
        rw [hq] at HP
        clear hq
        generalize gX l k = x at *
        generalize gR l k = r at *
        go_wp2_with fail
        refine (HP.out _ (by first | exact Below.refl _ _ | exact bel_alloc (Below.refl _ _) | exact bel_drew _ | exact bel_alloc (bel_alloc (Below.refl _ _)))).mono ?_
        rintro e w2 ⟨rfl, gg⟩
        have X := Lib.hid (bel_trans hB.out gg); clear gg
        go_wp2
        go_returns
        exact ⟨by rw [hBt.out]; rfl, X.out⟩
      | false =>
        have ha2 : Hid (∀ j, j < k + 1 → p j = false) := fun j hj => by
          by_cases e : j = k
          · rw [e]; exact hq
          · exact ha.out j (by omega)
        rw [hq] at HP
        clear hq ha
        generalize gX l k = x at c0 HP
        generalize gR l k = r at c1 HP
        go_wp2_with fail
        refine (HP.out _ (by first | exact Below.refl _ _ | exact bel_alloc (Below.refl _ _) | exact bel_drew _ | exact bel_alloc (bel_alloc (Below.refl _ _)))).mono ?_
        rintro e w2 ⟨rfl, gg⟩
        have X := Lib.hid (bel_trans hB.out gg); clear gg
        go_wp2
        go_roundw
        case rel => exact ⟨k + 1, by omega, by go_num, X, ha2⟩
        case measure => simp [intOf]; omega
    · obtain rfl : k = n := by omega
      have hBf := Lib.hid (ixR_no ha.out)
      go_wp2
      go_returns
      exact ⟨by rw [hBf.out]; rfl, hB.out⟩
set_option maxHeartbeats 8000000 in
theorem idxg_nil (f : Value) (a : Option Addr) (cap : Nat) (p : Nat → Bool) (w : World) :
    Calls Try.prog 66 #[.slice a 0 cap, f] w fun e w' => e = .returned (.int .i64 (ixR p 0)) ∧ Below w.heap.size w w' := by
  have hBf : Hid (ixR p 0 = -1) := Lib.hid (ixR_no fun j hj => by omega)
  go_enter Try.func66, Try.ntmps66
  go_wp2_with fail
  go_loopw [5, 8] (fun _ i wr => i = .int .i64 0 ∧ Hid (Below w.heap.size w wr)) (fun _ _ _ => 0)
  case atStart => exact ⟨rfl, Below.refl _ _⟩
  case round =>
    obtain ⟨rfl, hB⟩ := hrel
    go_wp2
    go_returns
    exact ⟨by rw [hBf.out]; rfl, hB.out⟩
theorem cong_of (f : Value) (v : Value) (a : Option Addr) (n cap : Nat) (hv : v = .slice a n cap) (p : Nat → Bool) (B : Bool) (w : World)
    (HI : Hid (Calls Try.prog 66 #[v, f] w fun e w' => e = .returned (.int .i64 (ixR p n)) ∧ Below w.heap.size w w'))
    (hB : Hid (B = true ↔ ∃ j, j < n ∧ p j = true)) :
    Calls Try.prog 51 #[v, f] w fun e w' => e = .returned (.bool B) ∧ Below w.heap.size w w' := by
  subst hv
  have h : decide (0 ≤ ixR p n) = B := by
    rw [Bool.eq_iff_iff, decide_eq_true_eq, ixR_iff]; exact hB.out.symm
  clear hB
  generalize ixR p n = k at *
  subst h
  go_enter Try.func51, Try.ntmps51
  go_wp2_with fail
  refine HI.out.mono ?_
  rintro e w1 ⟨rfl, hb⟩
  have HB := Lib.hid hb; clear hb
  go_wp2
  all_goals
    go_ret
    exact ⟨by simp_all, HB.out⟩
/-- IndexFunc over a slice that reads as marks -/
theorem idxg_any (f : Nat) (cb : Array Value) (p : Nat → Bool) (eg : ∀ args w, (callFunc f args).run Try.prog w = .ok (.enter f args) w)
    (v : Value) (l : List (Int × Int)) (w : World) (n1 : l.length ≤ 1000) (hv : Pts w v l)
    (hp : Hid (∀ j W, j < l.length → Below w.heap.size w W → Calls Try.prog f (#[.agg #[.int .i64 (gX l j), .int .i64 (gR l j)]] ++ cb) W fun e w' => e = .returned (.bool (p j)) ∧ Below W.heap.size W w')) :
    Calls Try.prog 66 #[v, .func (.func f) #[] cb] w fun e w' => e = .returned (.int .i64 (ixR p l.length)) ∧ Below w.heap.size w w' := by
  obtain ⟨a, cap, rfl, hcap, hh⟩ := hv
  rcases hh with h0 | ⟨b, off, rfl, hb, hc⟩
  · rw [h0]; exact idxg_nil _ a cap p w
  · exact idxg_some f cb p eg b off _ cap l w n1 hb (Lib.hid hc) hp
end Go.Proofs.Ytfkcgdnpfngdkaa

/- Package interpolate: the density between two rows, and at a strength. -/
namespace Go.Proofs.Ytfkcgdnpfngdkaa
open Go.RowKit

set_option maxHeartbeats 4000000 in
theorem itBt_any (x0 r0 x1 r1 s : Int) (w : World) (hx0 : 0 ≤ x0) (hx : x0 < x1) (hx1 : x1 ≤ 10000) (hs0 : x0 ≤ s) (hs1 : s ≤ x1) (hr1 : 0 ≤ r1) (hr : r1 ≤ r0) (hr0 : r0 ≤ 120000) :
    Calls Try.prog 81 #[.agg #[.int .i64 x0, .int .i64 r0], .agg #[.int .i64 x1, .int .i64 r1], .int .i64 s] w fun e w' => e = .returned (.int .i64 (btD x0 r0 x1 r1 s)) ∧ Below w.heap.size w w' := by
  obtain ⟨q0, q1⟩ := half_bd (D := r0 - r1) (E := x1 - s) (L := x1 - x0) (by omega) (by omega) (by omega) (by omega)
  have P : 0 ≤ (r0 - r1) * (x1 - s) := Int.mul_nonneg (by omega) (by omega)
  have P1 : (r0 - r1) * (x1 - s) ≤ 120000 * 10000 := Int.mul_le_mul (by omega) (by omega) (by omega) (by omega)
  have e0 : btD x0 r0 x1 r1 s = r1 + (2 * (r0 - r1) * (x1 - s) + (x1 - x0)) / (2 * (x1 - x0)) := rfl
  rw [e0]
  have p2 : 2 * (r0 - r1) * (x1 - s) = 2 * ((r0 - r1) * (x1 - s)) := by rw [Int.mul_assoc]
  generalize hQ : (2 * (r0 - r1) * (x1 - s) + (x1 - x0)) / (2 * (x1 - x0)) = Q at *
  have w1 : IntKind.i64.wrap (x1 - x0) = x1 - x0 := wrap_in _ ⟨by omega, by omega⟩
  have w2 : IntKind.i64.wrap (r0 - r1) = r0 - r1 := wrap_in _ ⟨by omega, by omega⟩
  have w3 : IntKind.i64.wrap (2 * (r0 - r1)) = 2 * (r0 - r1) := wrap_in _ ⟨by omega, by omega⟩
  have w4 : IntKind.i64.wrap (x1 - s) = x1 - s := wrap_in _ ⟨by omega, by omega⟩
  have w5 : IntKind.i64.wrap (2 * (r0 - r1) * (x1 - s)) = 2 * (r0 - r1) * (x1 - s) := wrap_in _ ⟨by omega, by omega⟩
  have w6 : IntKind.i64.wrap (2 * (r0 - r1) * (x1 - s) + (x1 - x0)) = 2 * (r0 - r1) * (x1 - s) + (x1 - x0) := wrap_in _ ⟨by omega, by omega⟩
  have w7 : IntKind.i64.wrap (2 * (x1 - x0)) = 2 * (x1 - x0) := wrap_in _ ⟨by omega, by omega⟩
  have nz : ¬ 2 * (x1 - x0) = 0 := by omega
  have nz2 : (2 * (x1 - x0) == 0) = false := by rw [beq_eq_false_iff_ne]; exact nz
  have w8 : IntKind.i64.wrap ((2 * (r0 - r1) * (x1 - s) + (x1 - x0)).tdiv (2 * (x1 - x0))) = Q := by
    rw [Int.tdiv_eq_ediv_of_nonneg (by omega), hQ]; exact wrap_in _ ⟨by omega, by omega⟩
  have w9 : IntKind.i64.wrap (r1 + Q) = r1 + Q := wrap_in _ ⟨by omega, by omega⟩
  have nz3 : (x1 - x0 == 0) = false := by rw [beq_eq_false_iff_ne]; omega
  have nz4 : ¬ x1 - x0 = 0 := by omega
  have X : Hid (∀ m m2, Below w.heap.size w ((((w.alloc (.cells #[.int .i64 x0, .int .i64 r0] 53)).alloc (.cells #[.int .i64 x1, .int .i64 r1] 53)).drewN m).drewN m2)) := Lib.hid fun m m2 => bel_trans (bel_alloc (bel_alloc (Below.refl _ _))) (bel_drew2 _ _ _)
  go_enter Try.func81, Try.ntmps81
  go_wp2_with fail
  go_quiet (fail)
  go_wp2_with fail
  go_quiet (fail)
  go_wp2
  go_returns
  refine ⟨?_, X.out _ _⟩
  show Ending.returned (.int .i64 (wrap64 (r1 + (2 * ((r0 - r1) * (x1 - s)) + (x1 - x0)) / (2 * (x1 - x0))))) = _
  rw [← p2, hQ, IntWalk.wrap64_in _ ⟨by omega, by omega⟩]
set_option maxHeartbeats 4000000 in
theorem itA1_any (i q1 q2 b off n cap : Nat) (x : Int) (l : List (Int × Int)) (w : World) (hi : i + 1 < n) (n1 : n ≤ 1000) (c1 : w.cell? ⟨q1, 0, none⟩ = some (.slice (some ⟨b, off, none⟩) n cap)) (c2 : w.cell? ⟨q2, 0, none⟩ = some (.int .i64 x))
    (c3 : w.cell? ⟨b, off + (i + 1) * 2, none⟩ = some (.int .i64 (gX l (i + 1)))) :
    Calls Try.prog 80 #[.int .i64 i, .pointer (some ⟨q1, 0, none⟩), .pointer (some ⟨q2, 0, none⟩)] w fun e w' => e = .returned (.bool (decide (x ≤ gX l (i + 1)))) ∧ Below w.heap.size w w' := by
  have w1 : IntKind.i64.wrap ((i : Int) + 1) = ((i + 1 : Nat) : Int) := by rw [wrap_in _ ⟨by omega, by omega⟩]; omega
  have l0 : ((i + 1 : Nat) : Int) < (n : Int) := by omega
  have X1 : Hid (∀ m, Below w.heap.size w (w.drewN m)) := Lib.hid fun m => ⟨rfl, rfl, rfl, Nat.le_refl _, fun i hi => rfl⟩
  generalize gX l (i + 1) = y at *
  generalize i + 1 = j at *
  go_enter Try.func80, Try.ntmps80
  go_wp2_with fail
  go_quiet (fail)
  go_wp2
  go_returns
  exact ⟨rfl, X1.out _⟩
set_option maxHeartbeats 8000000 in
set_option maxRecDepth 100000 in
theorem itAt_anyW (v : Value) (l : List (Int × Int)) (x : Int) (w : World) (hv : Pts w v l) (h : WR l) (h0 : gX l 0 ≤ x) (h1 : x ≤ gX l (l.length - 1)) :
    Calls Try.prog 78 #[v, .int .i64 x] w fun e w' => e = .returned (.int .i64 (atD l x)) ∧ Below w.heap.size w w' := by
  have n0 := h.n0
  have n1 := h.n1
  obtain ⟨i1, i2, i3, i4⟩ := atI_specW h h0 h1
  have bt := fun W => itBt_any (gX l (atI l x - 1)) (gR l (atI l x - 1)) (gX l (atI l x)) (gR l (atI l x)) x W (h.b _ (by omega)).1 (h.lt (by omega) i2) (h.b _ i2).2.1 i3 i4 (by have := (h.b _ i2).2.2.1; omega) (h.ge (by omega) i2) (h.b _ (by omega)).2.2.2
  obtain ⟨a, cap, rfl, hl, hh⟩ := hv
  rcases hh with hh | ⟨b, off, rfl, hb, hc⟩
  · omega
  have hmf : ∀ (fn : Fn) (first cap : Array Value) (w : World), (Instr.makeFunc fn first cap).run Try.prog w = .ok (.func fn first cap) w := fun _ _ _ _ => rfl
  have HS : Hid (∀ W q1 q2, Below w.heap.size w W → Boxed W q1 36 (.slice (some ⟨b, off, none⟩) l.length cap) → Boxed W q2 3 (.int .i64 x) → Calls Try.prog 54 #[.int .i64 ((l.length - 2 : Nat) : Int), .func (.func 80) #[] #[.pointer (some ⟨q1, 0, none⟩), .pointer (some ⟨q2, 0, none⟩)]] W fun e w' => e = .returned (.int .i64 (fst (fun i => decide (x ≤ gX l (i + 1))) (l.length - 2) : Nat)) ∧ Below W.heap.size W w') := Lib.hid fun W q1 q2 hW h1 h2 =>
    search_bel 80 #[.pointer (some ⟨q1, 0, none⟩), .pointer (some ⟨q2, 0, none⟩)] (l.length - 2) (fun i => decide (x ≤ gX l (i + 1))) W (enters_of Try.func80 (by kernel_rfl) rfl) (by omega)
      (Lib.hid fun i W2 hi hW2 => itA1_any i q1 q2 b off l.length cap x l W2 (by omega) (by omega) (cell_bel h1.cell hW2) (cell_bel h2.cell hW2) (cell_bel (cell_bel (hc (i + 1) (by omega)).1 hW) hW2))
      (Lib.hid fun i j hij hj hp => by
        have := of_decide_eq_true hp
        have := h.le (show i + 1 ≤ j + 1 by omega) (by omega)
        exact decide_eq_true (by omega))
  have B0 := Lib.hid ((Boxed.new w 36 (.slice (some ⟨b, off, none⟩) l.length cap)).alloc (.cells #[.int .i64 x] 3))
  have B1 : Hid (Boxed ((w.alloc (.cells #[.slice (some ⟨b, off, none⟩) l.length cap] 36)).alloc (.cells #[.int .i64 x] 3)) (w.heap.size + 1) 3 (.int .i64 x)) := Lib.hid (by
    have := Boxed.new (w.alloc (.cells #[.slice (some ⟨b, off, none⟩) l.length cap] 36)) 3 (.int .i64 x)
    rwa [World.size_alloc] at this)
  have X0 : Hid (Below w.heap.size w ((w.alloc (.cells #[.slice (some ⟨b, off, none⟩) l.length cap] 36)).alloc (.cells #[.int .i64 x] 3))) := Lib.hid (bel_alloc (bel_alloc (Below.refl _ _)))
  have c0 := B0.out.cell
  have ek : atI l x = 1 + fst (fun i => decide (x ≤ gX l (i + 1))) (l.length - 2) := rfl
  have eD : atD l x = btD (gX l (atI l x - 1)) (gR l (atI l x - 1)) (gX l (atI l x)) (gR l (atI l x)) x := rfl
  rw [eD]
  have wn : IntKind.i64.wrap ((l.length : Int) - 2) = ((l.length - 2 : Nat) : Int) := by rw [wrap_in _ ⟨by omega, by omega⟩]; omega
  generalize atI l x = i at *
  obtain ⟨k, rfl⟩ : ∃ k, i = k + 1 := ⟨i - 1, by omega⟩
  rw [show fst (fun i => decide (x ≤ gX l (i + 1))) (l.length - 2) = k by omega] at HS
  rw [show k + 1 - 1 = k by omega] at *
  have wk : IntKind.i64.wrap (1 + (k : Int)) = ((k + 1 : Nat) : Int) := by rw [wrap_in _ ⟨by omega, by omega⟩]; omega
  have wk2 : IntKind.i64.wrap (((k + 1 : Nat) : Int) - 1) = (k : Int) := by rw [wrap_in _ ⟨by omega, by omega⟩]; omega
  have wk3 : IntKind.i64.wrap ((k : Int) + 1 - 1) = (k : Int) := by rw [wrap_in _ ⟨by omega, by omega⟩]; omega
  have l0 : (k : Int) < (l.length : Int) := by omega
  have l1 : ((k + 1 : Nat) : Int) < (l.length : Int) := by omega
  have HC : Hid (∀ W, Below w.heap.size w W → (W.cell? ⟨b, off + k * 2, none⟩ = some (.int .i64 (gX l k)) ∧ W.cell? ⟨b, off + k * 2 + 1, none⟩ = some (.int .i64 (gR l k))) ∧ (W.cell? ⟨b, off + (k + 1) * 2, none⟩ = some (.int .i64 (gX l (k + 1))) ∧ W.cell? ⟨b, off + (k + 1) * 2 + 1, none⟩ = some (.int .i64 (gR l (k + 1))))) := Lib.hid fun W hW => ⟨⟨cell_bel (hc k (by omega)).1 hW, cell_bel (hc k (by omega)).2 hW⟩, ⟨cell_bel (hc (k + 1) (by omega)).1 hW, cell_bel (hc (k + 1) (by omega)).2 hW⟩⟩
  replace bt := Lib.hid bt
  clear hc ek eD
  generalize gX l k = x0 at *
  generalize gR l k = r0 at *
  generalize gX l (k + 1) = x1 at *
  generalize gR l (k + 1) = r1 at *
  generalize l.length - 2 = nn at *
  generalize l.length = n at *
  generalize btD x0 r0 x1 r1 x = V at *
  generalize hk1 : k + 1 = k1 at *
  go_enter Try.func78, Try.ntmps78
  go_wp2_with fail
  refine (HS.out _ _ _ X0.out B0.out B1.out).mono ?_
  rintro e w1 ⟨rfl, gg⟩
  replace B0 := Lib.hid (bxd_below B0.out gg)
  replace B1 := Lib.hid (bxd_below B1.out gg)
  have X1 := Lib.hid (bel_trans X0.out gg); clear gg
  have c0 := B0.out.cell
  have c1 := B1.out.cell
  obtain ⟨⟨f0, f1⟩, f2, f3⟩ := HC.out _ X1.out
  go_wp2_with fail
  go_still_tail 10, (by kernel_rfl)
  change wpList _ _ _ _ _ w1.drew
  replace X1 := Lib.hid (bel_trans X1.out (bel_drew w1))
  generalize w1.drew = wq at *
  go_wp2_with fail
  refine (bt.out _).mono ?_
  rintro e w2 ⟨rfl, gg⟩
  replace X1 := Lib.hid (bel_trans X1.out gg); clear gg
  go_wp2
  go_returns
  exact ⟨rfl, X1.out⟩
theorem itAt_any (v : Value) (l : List (Int × Int)) (x : Int) (w : World) (hv : Pts w v l) (h : DR l) (h0 : 0 ≤ x) (h1 : x ≤ 10000) :
    Calls Try.prog 78 #[v, .int .i64 x] w fun e w' => e = .returned (.int .i64 (atD l x)) ∧ Below w.heap.size w w' :=
  itAt_anyW v l x w hv h.wr (by rw [h.z]; exact h0) (by rw [h.t]; exact h1)
end Go.Proofs.Ytfkcgdnpfngdkaa

/- Package interpolate: Density, Strength, Range. -/
namespace Go.Proofs.Ytfkcgdnpfngdkaa
open Go.RowKit

theorem itRt_any (v : Value) (l : List (Int × Int)) (w : World) (hv : Pts w v l) :
    Calls Try.prog 77 #[v] w fun e w' => e = .returned (.bool (dnE l == 0)) ∧ Below w.heap.size w w' := by
  have H := Lib.hid (dnChk_any v l w hv)
  generalize dnI l = I at *
  generalize dnE l = E at *
  go_enter Try.func77, Try.ntmps77
  go_wp2_with fail
  refine H.out.mono ?_
  rintro e w1 ⟨rfl, gg⟩
  have X := Lib.hid gg; clear gg
  go_wp2
  go_returns
  exact ⟨rfl, X.out⟩
theorem dnZ {l : List (Int × Int)} : ((dnE l == 0) = true ↔ DR l) := by rw [beq_iff_eq, dnE_zero]
set_option maxHeartbeats 4000000 in
theorem itDen_any (v : Value) (l : List (Int × Int)) (s : Int) (w : World) (hv : Pts w v l) :
    Calls Try.prog 70 #[v, .int .i64 s] w fun e w' => e = .returned (.tuple #[.int .i64 (denV l s), .int .i64 (denE l s)]) ∧ Below w.heap.size w w' := by
  have HR := Lib.hid (itRt_any v l w hv)
  by_cases he : dnE l = 0
  · have hD := dnE_zero.1 he
    rw [show (dnE l == 0) = true by simpa using he] at HR
    by_cases h0 : s < 0
    · have e1 : denE l s = 2 := by unfold denE; rw [if_neg (by omega), if_neg (by omega)]
      have e2 : denV l s = 0 := denV_no (by omega)
      rw [e1, e2]
      have d0 : decide (s < 0) = true := decide_eq_true h0
      go_enter Try.func70, Try.ntmps70
      go_wp2_with fail
      refine HR.out.mono ?_
      rintro e w1 ⟨rfl, gg⟩
      have X := Lib.hid gg; clear gg
      go_wp2
      go_returns
      exact ⟨rfl, X.out⟩
    · have d0 : decide (s < 0) = false := decide_eq_false h0
      by_cases h1 : 10000 < s
      · have e1 : denE l s = 2 := by unfold denE; rw [if_neg (by omega), if_neg (by omega)]
        have e2 : denV l s = 0 := denV_no (by omega)
        rw [e1, e2]
        have d1 : decide (10000 < s) = true := decide_eq_true h1
        go_enter Try.func70, Try.ntmps70
        go_wp2_with fail
        refine HR.out.mono ?_
        rintro e w1 ⟨rfl, gg⟩
        have X := Lib.hid gg; clear gg
        go_wp2
        go_returns
        exact ⟨rfl, X.out⟩
      · have e1 : denE l s = 0 := denE_zero.2 ⟨hD, by omega, by omega⟩
        have e2 : denV l s = atD l s := denV_ok e1
        have HC := Lib.hid (fun W (hW : Below w.heap.size w W) => itAt_any v l s W (hv.below hW) hD (by omega) (by omega))
        rw [e1, e2]
        have d1 : decide (10000 < s) = false := decide_eq_false h1
        clear e1 e2
        generalize atD l s = V at *
        go_enter Try.func70, Try.ntmps70
        go_wp2_with fail
        refine HR.out.mono ?_
        rintro e w1 ⟨rfl, gg⟩
        have X := Lib.hid gg; clear gg
        go_wp2_with fail
        refine (HC.out _ X.out).mono ?_
        rintro e w2 ⟨rfl, gg⟩
        replace X := Lib.hid (bel_trans X.out gg); clear gg
        go_wp2
        go_returns
        exact ⟨rfl, X.out⟩
  · have e1 : denE l s = 1 := by unfold denE; rw [if_pos he]
    have e2 : denV l s = 0 := denV_no (by omega)
    rw [e1, e2]
    rw [show (dnE l == 0) = false by simpa using he] at HR
    go_enter Try.func70, Try.ntmps70
    go_wp2_with fail
    refine HR.out.mono ?_
    rintro e w1 ⟨rfl, gg⟩
    have X := Lib.hid gg; clear gg
    go_wp2
    go_returns
    exact ⟨rfl, X.out⟩

end Go.Proofs.Ytfkcgdnpfngdkaa

/- Package alcohol. -/
namespace Go.Proofs.Ytfkcgdnpfngdkaa
open Go.RowKit

theorem alRt_any (v : Value) (l : List (Int × Int)) (w : World) (hv : Pts w v l) :
    Calls Try.prog 64 #[v] w fun e w' => e = .returned (.bool (dnE l == 0)) ∧ Below w.heap.size w w' := by
  have H := Lib.hid (dnChk_any v l w hv)
  generalize dnI l = I at *
  generalize dnE l = E at *
  go_enter Try.func64, Try.ntmps64
  go_wp2_with fail
  refine H.out.mono ?_
  rintro e w1 ⟨rfl, gg⟩
  have X := Lib.hid gg; clear gg
  go_wp2
  go_returns
  exact ⟨rfl, X.out⟩
def alO (A M : Int) : Bool := !decide (0 ≤ A ∧ A ≤ 10737418240000 ∧ 0 ≤ M ∧ M ≤ 128849018880000)
set_option maxHeartbeats 4000000 in
theorem alOut_any (A M : Int) (w : World) :
    Calls Try.prog 65 #[.agg #[.int .i64 A, .int .i64 M]] w fun e w' => e = .returned (.bool (alO A M)) ∧ Below w.heap.size w w' := by
  have X := Lib.hid (bel_alloc (o := .cells #[.int .i64 A, .int .i64 M] 24) (Below.refl _ (w.alloc (.cells #[.int .i64 A, .int .i64 M] 24))))
  have E : alO A M = (decide (A < 0) || decide (10737418240000 < A) || decide (M < 0) || decide (128849018880000 < M)) := by
    unfold alO
    rw [Bool.eq_iff_iff]
    simp only [Bool.not_eq_true', decide_eq_false_iff_not, Bool.or_eq_true, decide_eq_true_eq]
    omega
  rw [E]; clear E
  by_cases h0 : A < 0
  · have d0 : decide (A < 0) = true := decide_eq_true h0
    rw [d0, Bool.true_or, Bool.true_or, Bool.true_or]
    clear h0
    go_enter Try.func65, Try.ntmps65
    go_wp2
    go_returns
    exact ⟨rfl, X.out⟩
  have d0 : decide (A < 0) = false := decide_eq_false h0
  by_cases h1 : 10737418240000 < A
  · have d1 : decide (10737418240000 < A) = true := decide_eq_true h1
    rw [d0, d1, Bool.false_or, Bool.true_or, Bool.true_or]
    clear h0 h1
    go_enter Try.func65, Try.ntmps65
    go_wp2
    go_returns
    exact ⟨rfl, X.out⟩
  have d1 : decide (10737418240000 < A) = false := decide_eq_false h1
  by_cases h2 : M < 0
  · have d2 : decide (M < 0) = true := decide_eq_true h2
    rw [d0, d1, d2, Bool.false_or, Bool.false_or, Bool.true_or]
    clear h0 h1 h2
    go_enter Try.func65, Try.ntmps65
    go_wp2
    go_returns
    exact ⟨rfl, X.out⟩
  have d2 : decide (M < 0) = false := decide_eq_false h2
  rw [d0, d1, d2, Bool.false_or, Bool.false_or, Bool.false_or]
  clear h0 h1 h2
  generalize hB : decide (128849018880000 < M) = B
  go_enter Try.func65, Try.ntmps65
  go_wp2
  go_returns
  exact ⟨rfl, X.out⟩
set_option maxHeartbeats 4000000 in
theorem alHas_any (A M s d : Int) (w : World) (wa : IntKind.i64.wrap (A * d) = A * d) (wm : IntKind.i64.wrap (M * s) = M * s) (ba : -9223372036854775808 ≤ A * d ∧ A * d ≤ 9223372036854775807) (bm : -9223372036854775808 ≤ M * s ∧ M * s ≤ 9223372036854775807) :
    Calls Try.prog 56 #[.agg #[.int .i64 A, .int .i64 M], .int .i64 s, .int .i64 d] w fun e w' => e = .returned (.bool (decide (M * s ≤ A * d))) ∧ Below w.heap.size w w' := by
  have X := Lib.hid (bel_alloc (o := .cells #[.int .i64 A, .int .i64 M] 24) (Below.refl _ (w.alloc (.cells #[.int .i64 A, .int .i64 M] 24))))
  go_enter Try.func56, Try.ntmps56
  go_wp2
  go_returns
  exact ⟨rfl, X.out⟩
theorem alAt_any (v : Value) (l : List (Int × Int)) (s : Int) (w : World) (hv : Pts w v l) (h : DR l) (h0 : 0 ≤ s) (h1 : s ≤ 10000) :
    Calls Try.prog 57 #[v, .int .i64 s] w fun e w' => e = .returned (.int .i64 (atD l s)) ∧ Below w.heap.size w w' := by
  have H := Lib.hid (itDen_any v l s w hv)
  have e1 : denE l s = 0 := denE_zero.2 ⟨h, h0, h1⟩
  have e2 : denV l s = atD l s := denV_ok e1
  rw [e1, e2] at H
  clear e1 e2
  generalize atD l s = V at *
  go_enter Try.func57, Try.ntmps57
  go_wp2_with fail
  refine H.out.mono ?_
  rintro e w1 ⟨rfl, gg⟩
  have X := Lib.hid gg; clear gg
  go_wp2
  go_returns
  exact ⟨rfl, X.out⟩
set_option maxHeartbeats 16000000 in
set_option maxRecDepth 100000 in
theorem alChk_any (v : Value) (l : List (Int × Int)) (A M : Int) (w : World) (hv : Pts w v l) :
    Calls Try.prog 50 #[v, .agg #[.int .i64 A, .int .i64 M]] w fun e w' => e = .returned (.int .i64 (alE l A M)) ∧ Below w.heap.size w w' := by
  have HR := Lib.hid (fun W (hW : Below w.heap.size w W) => alRt_any v l W (hv.below hW))
  have HO := Lib.hid (fun W => alOut_any A M W)
  have T0 := Lib.hid (Two.new w (.int .i64 A) (.int .i64 M) 24)
  have X0 := Lib.hid (bel_alloc (w := w) (o := .cells #[.int .i64 A, .int .i64 M] 24) (Below.refl _ _))
  by_cases he : dnE l = 0
  · have hD := dnE_zero.1 he
    rw [show (dnE l == 0) = true by simpa using he] at HR
    by_cases ho : 0 ≤ A ∧ A ≤ 10737418240000 ∧ 0 ≤ M ∧ M ≤ 128849018880000
    · have eo : alO A M = false := by unfold alO; rw [decide_eq_true ho]; rfl
      rw [eo] at HO
      have HC := Lib.hid (fun W (hW : Below w.heap.size w W) => alAt_any v l 10000 W (hv.below hW) hD (by omega) (by omega))
      have ee : alE l A M = if M * 10000 < A * atD l 10000 then 10 else 0 := by unfold alE; rw [if_neg (by omega), if_pos ho]
      have bd := (atD_bd hD (s := 10000) (by omega) (by omega)).2.2
      have p1 : 0 ≤ A * atD l 10000 := Int.mul_nonneg ho.1 (by omega)
      have p2 : A * atD l 10000 ≤ 10737418240000 * 120000 := Int.mul_le_mul ho.2.1 bd.2 (by omega) (by omega)
      rw [ee]
      generalize atD l 10000 = d at *
      have wa : IntKind.i64.wrap (A * d) = A * d := wrap_in _ ⟨by omega, by omega⟩
      have wm : IntKind.i64.wrap (M * 10000) = M * 10000 := wrap_in _ ⟨by omega, by omega⟩
      clear ee
      by_cases hc : M * 10000 < A * d
      · rw [if_pos hc]
        have dc : decide (M * 10000 < A * d) = true := decide_eq_true hc
        go_enter Try.func50, Try.ntmps50
        go_wp2_with fail
        refine (HR.out _ X0.out).mono ?_
        rintro e w1 ⟨rfl, gg⟩
        replace T0 := Lib.hid (T0.out.below gg)
        have X := Lib.hid (bel_trans X0.out gg); clear gg
        obtain ⟨t0, t1, _, _, _⟩ := T0.out
        go_wp2_with fail
        refine (HO.out _).mono ?_
        rintro e w2 ⟨rfl, gg⟩
        replace T0 := Lib.hid (T0.out.below gg)
        replace X := Lib.hid (bel_trans X.out gg); clear gg
        replace T0 := Lib.hid (T0.out.below (bel_drew w2))
        replace X := Lib.hid (bel_trans X.out (bel_drew w2))
        obtain ⟨t0, t1, _, _, _⟩ := T0.out
        go_wp2_with fail
        go_region_held3 (fun w' => w'.cell? ⟨w.heap.size, 0, none⟩ = some (.int .i64 A) ∧ w'.cell? ⟨w.heap.size, 1, none⟩ = some (.int .i64 M)) (go_keep) (first
          | (go_at_call 57; (with_reducible refine (HC.out _ X.out).mono ?_); rintro e w3 ⟨rfl, gg⟩; replace T0 := Lib.hid (T0.out.below gg); replace X := Lib.hid (bel_trans X.out gg); obtain ⟨t0, t1, _, _, _⟩ := T0.out; clear gg))
        all_goals go_wp2
        all_goals go_returns
        all_goals exact ⟨rfl, X.out⟩
      · rw [if_neg hc]
        have dc : decide (M * 10000 < A * d) = false := decide_eq_false hc
        go_enter Try.func50, Try.ntmps50
        go_wp2_with fail
        refine (HR.out _ X0.out).mono ?_
        rintro e w1 ⟨rfl, gg⟩
        replace T0 := Lib.hid (T0.out.below gg)
        have X := Lib.hid (bel_trans X0.out gg); clear gg
        obtain ⟨t0, t1, _, _, _⟩ := T0.out
        go_wp2_with fail
        refine (HO.out _).mono ?_
        rintro e w2 ⟨rfl, gg⟩
        replace T0 := Lib.hid (T0.out.below gg)
        replace X := Lib.hid (bel_trans X.out gg); clear gg
        replace T0 := Lib.hid (T0.out.below (bel_drew w2))
        replace X := Lib.hid (bel_trans X.out (bel_drew w2))
        obtain ⟨t0, t1, _, _, _⟩ := T0.out
        go_wp2_with fail
        go_region_held3 (fun w' => w'.cell? ⟨w.heap.size, 0, none⟩ = some (.int .i64 A) ∧ w'.cell? ⟨w.heap.size, 1, none⟩ = some (.int .i64 M)) (go_keep) (first
          | (go_at_call 57; (with_reducible refine (HC.out _ X.out).mono ?_); rintro e w3 ⟨rfl, gg⟩; replace T0 := Lib.hid (T0.out.below gg); replace X := Lib.hid (bel_trans X.out gg); obtain ⟨t0, t1, _, _, _⟩ := T0.out; clear gg))
        all_goals go_wp2
        all_goals go_returns
        all_goals exact ⟨rfl, X.out⟩
    · have eo : alO A M = true := by unfold alO; rw [decide_eq_false ho]; rfl
      rw [eo] at HO
      have ee : alE l A M = 2 := by unfold alE; rw [if_neg (by omega), if_neg ho]
      rw [ee]
      go_enter Try.func50, Try.ntmps50
      go_wp2_with fail
      refine (HR.out _ X0.out).mono ?_
      rintro e w1 ⟨rfl, gg⟩
      replace T0 := Lib.hid (T0.out.below gg)
      have X := Lib.hid (bel_trans X0.out gg); clear gg
      obtain ⟨t0, t1, _, _, _⟩ := T0.out
      go_wp2_with fail
      refine (HO.out _).mono ?_
      rintro e w2 ⟨rfl, gg⟩
      replace X := Lib.hid (bel_trans X.out gg); clear gg
      go_wp2
      go_returns
      exact ⟨rfl, X.out⟩
  · have ee : alE l A M = 1 := by unfold alE; rw [if_pos he]
    rw [ee]
    rw [show (dnE l == 0) = false by simpa using he] at HR
    go_enter Try.func50, Try.ntmps50
    go_wp2_with fail
    refine (HR.out _ X0.out).mono ?_
    rintro e w1 ⟨rfl, gg⟩
    have X := Lib.hid (bel_trans X0.out gg); clear gg
    go_wp2
    go_returns
    exact ⟨rfl, X.out⟩
end Go.Proofs.Ytfkcgdnpfngdkaa

/- Package alcohol: strength, volume and what is reckoned from them. -/
namespace Go.Proofs.Ytfkcgdnpfngdkaa
open Go.RowKit

set_option maxHeartbeats 16000000 in
set_option maxRecDepth 100000 in
/-- whether a liquid has not the alcohol of the next strength -/
theorem alM1_any (i q1 q2 : Nat) (a : Option Addr) (n cap : Nat) (A M d : Int) (B : Bool) (w : World) (hi : i ≤ 10000)
    (c1 : w.cell? ⟨q1, 0, none⟩ = some (.int .i64 A)) (c2 : w.cell? ⟨q1, 1, none⟩ = some (.int .i64 M)) (c3 : w.cell? ⟨q2, 0, none⟩ = some (.slice a n cap)) (h1 : q1 < w.heap.size) (h2 : q2 < w.heap.size)
    (HA : Hid (∀ W, Below w.heap.size w W → Calls Try.prog 57 #[.slice a n cap, .int .i64 ((i : Int) + 1)] W fun e w' => e = .returned (.int .i64 d) ∧ Below W.heap.size W w'))
    (HH : Hid (∀ W, Calls Try.prog 56 #[.agg #[.int .i64 A, .int .i64 M], .int .i64 ((i : Int) + 1), .int .i64 d] W fun e w' => e = .returned (.bool B) ∧ Below W.heap.size W w')) :
    Calls Try.prog 55 #[.int .i64 i, .pointer (some ⟨q1, 0, none⟩), .pointer (some ⟨q2, 0, none⟩)] w fun e w' => e = .returned (.bool (!B)) ∧ Below w.heap.size w w' := by
  have wx : IntKind.i64.wrap ((i : Int) + 1) = (i : Int) + 1 := wrap_in _ ⟨by omega, by omega⟩
  have CE : Hid (∀ W, Below w.heap.size w W → W.cell? ⟨q1, 0, none⟩ = some (.int .i64 A) ∧ W.cell? ⟨q1, 1, none⟩ = some (.int .i64 M) ∧ W.cell? ⟨q2, 0, none⟩ = some (.slice a n cap)) := Lib.hid fun W hW => ⟨cell_bel c1 hW, cell_bel c2 hW, cell_bel c3 hW⟩
  have X := Lib.hid (bel_drew w)
  go_enter Try.func55, Try.ntmps55
  go_wp2_with fail
  go_region_held3 (fun w' => w'.cell? ⟨q1, 0, none⟩ = some (.int .i64 A) ∧ w'.cell? ⟨q1, 1, none⟩ = some (.int .i64 M) ∧ w'.cell? ⟨q2, 0, none⟩ = some (.slice a n cap)) (go_keep) (first
    | (go_at_call 57; (with_reducible refine (HA.out _ X.out).mono ?_); rintro e w3 ⟨rfl, gg⟩; replace X := Lib.hid (bel_trans X.out gg); obtain ⟨c1, c2, c3⟩ := CE.out w3 X.out; clear gg)
    | (go_at_call 56; (with_reducible refine (HH.out _).mono ?_); rintro e w4 ⟨rfl, gg⟩; replace X := Lib.hid (bel_trans X.out gg); obtain ⟨c1, c2, c3⟩ := CE.out w4 X.out; clear gg))
  all_goals go_wp2
  all_goals go_returns
  all_goals exact ⟨rfl, X.out⟩
set_option maxHeartbeats 8000000 in
set_option maxRecDepth 100000 in
theorem alMe_core (a : Option Addr) (n cap : Nat) (A M S D V : Int) (z : Bool) (w : World) (hD : 50000 ≤ D ∧ D ≤ 120000) (hV : Hid (M / D = V)) (hM : 0 ≤ M ∧ M ≤ 128849018880000) (hz : Hid (z = true ↔ A = 0 ∧ M = 0)) (hS : Hid (z = true → S = 0))
    (HC : Hid (∀ W, Below w.heap.size w W → Calls Try.prog 50 #[.slice a n cap, .agg #[.int .i64 A, .int .i64 M]] W fun e w' => e = .returned (.int .i64 0) ∧ Below W.heap.size W w'))
    (HS : Hid (∀ W q1 q2, Below w.heap.size w W → Two q1 W (.int .i64 A) (.int .i64 M) → Boxed W q2 36 (.slice a n cap) → z = false → Calls Try.prog 54 #[.int .i64 10000, .func (.func 55) #[] #[.pointer (some ⟨q1, 0, none⟩), .pointer (some ⟨q2, 0, none⟩)]] W fun e w' => e = .returned (.int .i64 S) ∧ Below W.heap.size W w'))
    (HA : Hid (∀ W, Below w.heap.size w W → Calls Try.prog 57 #[.slice a n cap, .int .i64 S] W fun e w' => e = .returned (.int .i64 D) ∧ Below W.heap.size W w')) :
    Calls Try.prog 40 #[.slice a n cap, .agg #[.int .i64 A, .int .i64 M]] w fun e w' => e = .returned (.tuple #[.int .i64 S, .int .i64 D, .int .i64 V, .bool true]) ∧ Below w.heap.size w w' := by
  have hmf : ∀ (fn : Fn) (first cap : Array Value) (w : World), (Instr.makeFunc fn first cap).run Try.prog w = .ok (.func fn first cap) w := fun _ _ _ _ => rfl
  have B0 := Lib.hid ((Boxed.new w 36 (.slice a n cap)).alloc (.cells #[.int .i64 A, .int .i64 M] 24))
  have T0 : Hid (Two (w.heap.size + 1) ((w.alloc (.cells #[.slice a n cap] 36)).alloc (.cells #[.int .i64 A, .int .i64 M] 24)) (.int .i64 A) (.int .i64 M)) := Lib.hid (by
    have := Two.new (w.alloc (.cells #[.slice a n cap] 36)) (.int .i64 A) (.int .i64 M) 24
    rwa [World.size_alloc] at this)
  have X : Hid (Below w.heap.size w ((w.alloc (.cells #[.slice a n cap] 36)).alloc (.cells #[.int .i64 A, .int .i64 M] 24))) := Lib.hid (bel_alloc (bel_alloc (Below.refl _ _)))
  have b0 := B0.out.cell
  obtain ⟨t0, t1, _, _, _⟩ := T0.out
  have nz : (D == 0) = false := by rw [beq_eq_false_iff_ne]; omega
  have nz2 : ¬ D = 0 := by omega
  have m0 : 0 ≤ M / D := Int.ediv_nonneg (by omega) (by omega)
  have m1 : M / D ≤ 128849018880000 := Int.le_trans (Int.ediv_le_self _ (by omega)) hM.2
  have wq : IntKind.i64.wrap (M.tdiv D) = M / D := by rw [Int.tdiv_eq_ediv_of_nonneg hM.1]; exact wrap_in _ ⟨by omega, by omega⟩
  have X9 : Hid (∀ W, Below w.heap.size w W → ∀ m, Below w.heap.size w (W.drewN m)) := Lib.hid fun W hW m => bel_trans hW (bel_drewN _ _)
  cases z with
  | true =>
    obtain ⟨rfl, rfl⟩ := hz.out.1 rfl
    obtain rfl := hS.out rfl
    have q1 : ∀ W, (binOp .neq 24 (.agg #[.int .i64 0, .int .i64 0]) (.agg #[.int .i64 0, .int .i64 0])).run Try.prog W = .ok (.bool false) W := fun W => by rw [run_neq_liq]; rfl
    go_enter Try.func40, Try.ntmps40
    go_wp2_with fail
    refine (HC.out _ X.out).mono ?_
    rintro e w1 ⟨rfl, gg⟩
    replace B0 := Lib.hid (bxd_below B0.out gg)
    replace T0 := Lib.hid (T0.out.below gg)
    replace X := Lib.hid (bel_trans X.out gg); clear gg
    have b0 := B0.out.cell
    obtain ⟨t0, t1, _, _, _⟩ := T0.out
    go_wp2_with fail
    refine (HA.out _ X.out).mono ?_
    rintro e w2 ⟨rfl, gg⟩
    replace T0 := Lib.hid (T0.out.below gg)
    replace X := Lib.hid (bel_trans X.out gg); clear gg
    obtain ⟨t0, t1, _, _, _⟩ := T0.out
    go_wp2_with fail
    go_quiet (fail)
    go_wp2
    go_returns
    exact ⟨by rw [← hV.out]; simp only [Int.zero_ediv], X9.out _ X.out _⟩
  | false =>
    have q0 : samP A M 0 0 = false := by
      cases h : samP A M 0 0 with
      | false => rfl
      | true =>
        simp only [samP, Bool.and_eq_true, beq_iff_eq] at h
        exact absurd (hz.out.2 h) (by simp)
    have q1 : ∀ W, (binOp .neq 24 (.agg #[.int .i64 A, .int .i64 M]) (.agg #[.int .i64 0, .int .i64 0])).run Try.prog W = .ok (.bool true) W := fun W => by rw [run_neq_liq, q0]; rfl
    clear q0
    go_enter Try.func40, Try.ntmps40
    go_wp2_with fail
    refine (HC.out _ X.out).mono ?_
    rintro e w1 ⟨rfl, gg⟩
    replace B0 := Lib.hid (bxd_below B0.out gg)
    replace T0 := Lib.hid (T0.out.below gg)
    replace X := Lib.hid (bel_trans X.out gg); clear gg
    have b0 := B0.out.cell
    obtain ⟨t0, t1, _, _, _⟩ := T0.out
    go_wp2_with fail
    refine (HS.out _ _ _ X.out T0.out B0.out (by trivial)).mono ?_
    rintro e w2 ⟨rfl, gg⟩
    replace B0 := Lib.hid (bxd_below B0.out gg)
    replace T0 := Lib.hid (T0.out.below gg)
    replace X := Lib.hid (bel_trans X.out gg); clear gg
    have b0 := B0.out.cell
    obtain ⟨t0, t1, _, _, _⟩ := T0.out
    go_wp2_with fail
    refine (HA.out _ X.out).mono ?_
    rintro e w3 ⟨rfl, gg⟩
    replace T0 := Lib.hid (T0.out.below gg)
    replace X := Lib.hid (bel_trans X.out gg); clear gg
    obtain ⟨t0, t1, _, _, _⟩ := T0.out
    go_wp2_with fail
    go_quiet (fail)
    go_wp2
    go_returns
    exact ⟨by rw [← hV.out], X9.out _ X.out _⟩
theorem alMe_bad (v : Value) (A M E : Int) (w : World) (hE : (E != 0) = true)
    (HC : Hid (∀ W, Below w.heap.size w W → Calls Try.prog 50 #[v, .agg #[.int .i64 A, .int .i64 M]] W fun e w' => e = .returned (.int .i64 E) ∧ Below W.heap.size W w')) (hv : ∃ a n cap, v = .slice a n cap) :
    Calls Try.prog 40 #[v, .agg #[.int .i64 A, .int .i64 M]] w fun e w' => e = .returned (.tuple #[.int .i64 0, .int .i64 0, .int .i64 0, .bool false]) ∧ Below w.heap.size w w' := by
  obtain ⟨a, n, cap, rfl⟩ := hv
  have B0 := Lib.hid ((Boxed.new w 36 (.slice a n cap)).alloc (.cells #[.int .i64 A, .int .i64 M] 24))
  have T0 : Hid (Two (w.heap.size + 1) ((w.alloc (.cells #[.slice a n cap] 36)).alloc (.cells #[.int .i64 A, .int .i64 M] 24)) (.int .i64 A) (.int .i64 M)) := Lib.hid (by
    have := Two.new (w.alloc (.cells #[.slice a n cap] 36)) (.int .i64 A) (.int .i64 M) 24
    rwa [World.size_alloc] at this)
  have X : Hid (Below w.heap.size w ((w.alloc (.cells #[.slice a n cap] 36)).alloc (.cells #[.int .i64 A, .int .i64 M] 24))) := Lib.hid (bel_alloc (bel_alloc (Below.refl _ _)))
  have b0 := B0.out.cell
  obtain ⟨t0, t1, _, _, _⟩ := T0.out
  go_enter Try.func40, Try.ntmps40
  go_wp2_with fail
  refine (HC.out _ X.out).mono ?_
  rintro e w1 ⟨rfl, gg⟩
  replace X := Lib.hid (bel_trans X.out gg); clear gg
  go_wp2
  go_returns
  exact ⟨rfl, X.out⟩
theorem alMe_any (v : Value) (l : List (Int × Int)) (A M : Int) (w : World) (hv : Pts w v l) :
    Calls Try.prog 40 #[v, .agg #[.int .i64 A, .int .i64 M]] w fun e w' => e = .returned (.tuple #[.int .i64 (sgV l A M), .int .i64 (dsV l A M), .int .i64 (vlV l A M), .bool (alE l A M == 0)]) ∧ Below w.heap.size w w' := by
  have hv2 := hv
  obtain ⟨a, cap, rfl, _, _⟩ := hv.shape
  by_cases he : alE l A M = 0
  · obtain ⟨hD, hL⟩ := alE_zero.1 he
    unfold sgV dsV vlV
    rw [if_pos he, if_pos he, if_pos he, he]
    have le := sgN_le l A M
    refine alMe_core a l.length cap A M (sgN l A M) _ _ (decide (A = 0 ∧ M = 0)) w (at_sg hD A M) (Lib.hid rfl) ⟨hL.m0, hL.m1⟩ (Lib.hid decide_eq_true_iff) (Lib.hid fun h => ?_) (Lib.hid fun W hW => ?_) (Lib.hid fun W q1 q2 hW T B hz => ?_) (Lib.hid fun W hW => alAt_any _ l _ W (hv2.below hW) hD (by omega) (by omega))
    · obtain ⟨rfl, rfl⟩ := of_decide_eq_true h
      rw [sgN_dry]; rfl
    · have := alChk_any _ l A M W (hv2.below hW)
      rwa [he] at this
    · have hz := of_decide_eq_false hz
      have e : sgN l A M = fst (sgP l A M) 10000 := by unfold sgN; rw [if_neg hz]
      rw [e]
      refine search_bel 55 #[.pointer (some ⟨q1, 0, none⟩), .pointer (some ⟨q2, 0, none⟩)] 10000 (sgP l A M) W (enters_of Try.func55 (by kernel_rfl) rfl) (by omega) (Lib.hid fun i W2 hi hW2 => ?_) (Lib.hid (sgP_mono hD hL.a0 hL.m0))
      obtain ⟨u0, u1, _, _, u2⟩ := T.below hW2
      have b := (atD_bd hD (s := (i : Int) + 1) (by omega) (by omega)).2.2
      have p0 : 0 ≤ A * atD l ((i : Int) + 1) := Int.mul_nonneg hL.a0 (by omega)
      have p1 : A * atD l ((i : Int) + 1) ≤ 10737418240000 * 120000 := Int.mul_le_mul hL.a1 b.2 (by omega) (by omega)
      have p2 : 0 ≤ M * ((i : Int) + 1) := Int.mul_nonneg hL.m0 (by omega)
      have p3 : M * ((i : Int) + 1) ≤ 128849018880000 * 10000 := Int.mul_le_mul hL.m1 (by omega) (by omega) (by omega)
      exact alM1_any i q1 q2 a l.length cap A M (atD l ((i : Int) + 1)) (decide (M * ((i : Int) + 1) ≤ A * atD l ((i : Int) + 1))) W2 (by omega) u0 u1 (cell_bel B.cell hW2) u2 (Nat.lt_of_lt_of_le B.lt hW2.size)
        (Lib.hid fun W3 hW3 => alAt_any _ l _ W3 (((hv2.below hW).below hW2).below hW3) hD (by omega) (by omega))
        (Lib.hid fun W3 => alHas_any A M _ _ W3 (wrap_in _ ⟨by omega, by omega⟩) (wrap_in _ ⟨by omega, by omega⟩) ⟨by omega, by omega⟩ ⟨by omega, by omega⟩)
  · unfold sgV dsV vlV
    rw [if_neg he, if_neg he, if_neg he, show (alE l A M == 0) = false by simpa using he]
    exact alMe_bad _ A M (alE l A M) w (by simpa using he) (Lib.hid fun W hW => alChk_any _ l A M W (hv2.below hW)) ⟨a, l.length, cap, rfl⟩
end Go.Proofs.Ytfkcgdnpfngdkaa

/- Package alcohol: Strength, Volume, Mass, Lost, Of. -/
namespace Go.Proofs.Ytfkcgdnpfngdkaa
open Go.RowKit

set_option maxHeartbeats 4000000 in
theorem alSt_any (v : Value) (l : List (Int × Int)) (A M : Int) (w : World) (hv : Pts w v l) :
    Calls Try.prog 23 #[v, .agg #[.int .i64 A, .int .i64 M]] w fun e w' => e = .returned (.tuple #[.int .i64 (sgV l A M), .int .i64 (meE l A M)]) ∧ Below w.heap.size w w' := by
  have HM := Lib.hid (fun W (hW : Below w.heap.size w W) => alMe_any v l A M W (hv.below hW))
  have T0 := Lib.hid (Two.new w (.int .i64 A) (.int .i64 M) 24)
  have X := Lib.hid (bel_alloc (w := w) (o := .cells #[.int .i64 A, .int .i64 M] 24) (Below.refl _ _))
  by_cases he : alE l A M = 0
  · have e1 : meE l A M = 0 := by unfold meE; rw [if_pos he]
    rw [show (alE l A M == 0) = true by simpa using he] at HM
    rw [e1]
    clear e1 he
    generalize sgV l A M = S at *
    generalize dsV l A M = D at *
    generalize vlV l A M = V at *
    go_enter Try.func23, Try.ntmps23
    go_wp2_with fail
    refine (HM.out _ X.out).mono ?_
    rintro e w1 ⟨rfl, gg⟩
    replace X := Lib.hid (bel_trans X.out gg); clear gg
    go_wp2
    go_returns
    exact ⟨rfl, X.out⟩
  · have e1 : meE l A M = 1 := by unfold meE; rw [if_neg he]
    have e2 : sgV l A M = 0 := by unfold sgV; rw [if_neg he]
    rw [show (alE l A M == 0) = false by simpa using he] at HM
    rw [e1]
    generalize sgV l A M = S at *
    generalize dsV l A M = D at *
    generalize vlV l A M = V at *
    rw [e2]
    go_enter Try.func23, Try.ntmps23
    go_wp2_with fail
    refine (HM.out _ X.out).mono ?_
    rintro e w1 ⟨rfl, gg⟩
    replace X := Lib.hid (bel_trans X.out gg); clear gg
    go_wp2
    go_returns
    exact ⟨rfl, X.out⟩

set_option maxHeartbeats 4000000 in
theorem alVl_any (v : Value) (l : List (Int × Int)) (A M : Int) (w : World) (hv : Pts w v l) :
    Calls Try.prog 36 #[v, .agg #[.int .i64 A, .int .i64 M]] w fun e w' => e = .returned (.tuple #[.int .i64 (vlV l A M), .int .i64 (meE l A M)]) ∧ Below w.heap.size w w' := by
  have HM := Lib.hid (fun W (hW : Below w.heap.size w W) => alMe_any v l A M W (hv.below hW))
  have T0 := Lib.hid (Two.new w (.int .i64 A) (.int .i64 M) 24)
  have X := Lib.hid (bel_alloc (w := w) (o := .cells #[.int .i64 A, .int .i64 M] 24) (Below.refl _ _))
  by_cases he : alE l A M = 0
  · have e1 : meE l A M = 0 := by unfold meE; rw [if_pos he]
    rw [show (alE l A M == 0) = true by simpa using he] at HM
    rw [e1]
    clear e1 he
    generalize sgV l A M = S at *
    generalize dsV l A M = D at *
    generalize vlV l A M = V at *
    go_enter Try.func36, Try.ntmps36
    go_wp2_with fail
    refine (HM.out _ X.out).mono ?_
    rintro e w1 ⟨rfl, gg⟩
    replace X := Lib.hid (bel_trans X.out gg); clear gg
    go_wp2
    go_returns
    exact ⟨rfl, X.out⟩
  · have e1 : meE l A M = 1 := by unfold meE; rw [if_neg he]
    have e2 : vlV l A M = 0 := by unfold vlV; rw [if_neg he]
    rw [show (alE l A M == 0) = false by simpa using he] at HM
    rw [e1]
    generalize sgV l A M = S at *
    generalize dsV l A M = D at *
    generalize vlV l A M = V at *
    rw [e2]
    go_enter Try.func36, Try.ntmps36
    go_wp2_with fail
    refine (HM.out _ X.out).mono ?_
    rintro e w1 ⟨rfl, gg⟩
    replace X := Lib.hid (bel_trans X.out gg); clear gg
    go_wp2
    go_returns
    exact ⟨rfl, X.out⟩

end Go.Proofs.Ytfkcgdnpfngdkaa

/- Package mix: what is right for a table. -/
namespace Go.Proofs.Ytfkcgdnpfngdkaa
open Go.RowKit

/-- a liquid is wrong for a table -/
def wrB (t l : List (Int × Int)) (j : Nat) : Bool := alE t (gX l j) (gR l j) != 0
def riE (t l : List (Int × Int)) : Int := if 8 < l.length then 8 else if dnE t ≠ 0 ∨ ∃ j, j < l.length ∧ wrB t l j = true then 1 else suE l
def riA (t l : List (Int × Int)) : Int := if riE t l = 0 then sm fA l else 0
def riM (t l : List (Int × Int)) : Int := if riE t l = 0 then sm fM l else 0
theorem alE_dry {t : List (Int × Int)} : alE t 0 0 = 0 ↔ dnE t = 0 := by
  rw [alE_zero, dnE_zero]
  exact ⟨fun h => h.1, fun h => ⟨h, ⟨by omega, by omega, by omega, by omega, by omega⟩⟩⟩
theorem alE_pl {t : List (Int × Int)} {A M : Int} (h : alE t A M = 0) : plB A M = true := by
  obtain ⟨hD, g⟩ := alE_zero.1 h
  exact plB_iff.2 ⟨g.a0, g.a1, g.m0, g.m1, g.zero hD⟩
theorem riE_zero {t l : List (Int × Int)} : riE t l = 0 ↔ l.length ≤ 8 ∧ DR t ∧ (∀ j, j < l.length → LR t (gX l j) (gR l j)) ∧ plB (sm fA l) (sm fM l) = true := by
  unfold riE
  by_cases h1 : 8 < l.length
  · rw [if_pos h1]; exact ⟨fun e => (by cases e), fun e => by omega⟩
  · rw [if_neg h1]
    by_cases h2 : dnE t ≠ 0 ∨ ∃ j, j < l.length ∧ wrB t l j = true
    · rw [if_pos h2]
      refine ⟨fun e => (by cases e), fun ⟨_, hD, hL, _⟩ => ?_⟩
      rcases h2 with h2 | ⟨j, hj, h2⟩
      · exact absurd (dnE_zero.2 hD) h2
      · unfold wrB at h2
        rw [alE_zero.2 ⟨hD, hL j hj⟩] at h2; cases h2
    · rw [if_neg h2, suE_zero]
      have hD : dnE t = 0 := by by_cases e : dnE t = 0; exact e; exact absurd (.inl e) h2
      have hL : ∀ j, j < l.length → LR t (gX l j) (gR l j) := fun j hj => by
        cases e : wrB t l j with
        | true => exact absurd (.inr ⟨j, hj, e⟩) h2
        | false => unfold wrB at e; simp at e; exact (alE_zero.1 e).2
      refine ⟨fun ⟨a, b, c⟩ => ⟨a, dnE_zero.1 hD, hL, c⟩, fun ⟨a, _, _, c⟩ => ⟨a, ?_, c⟩⟩
      rw [allP_iff]
      intro q hq
      obtain ⟨i, hi, e⟩ := List.getElem_of_mem hq
      have := alE_pl (alE_zero.2 ⟨dnE_zero.1 hD, hL i hi⟩)
      simpa [gX, gR, List.getD_eq_getElem?_getD, List.getElem?_eq_getElem hi, e] using this
theorem suV_ok {l : List (Int × Int)} (h : suE l = 0) : suA l = sm fA l ∧ suM l = sm fM l := by unfold suA suM; rw [if_pos h, if_pos h]; exact ⟨rfl, rfl⟩
/-- a box with one value -/
def Bx (b : Nat) (W : World) (v : Value) : Prop := W.cell? ⟨b, 0, none⟩ = some v ∧ b < W.heap.size
theorem Bx.below {b : Nat} {W W' : World} {v : Value} (h : Bx b W v) (hb : Below W.heap.size W W') : Bx b W' v := ⟨by rw [(bcell hb).1 _ _ h.2]; exact h.1, Nat.lt_of_lt_of_le h.2 hb.size⟩
theorem Bx.alloc {b : Nat} {W : World} {v : Value} (h : Bx b W v) (o : Obj) : Bx b (W.alloc o) v := h.below (bel_alloc (Below.refl _ _))
theorem Bx.new (W : World) (v : Value) (T : TypeId) : Bx W.heap.size (W.alloc (.cells #[v] T)) v := ⟨by simp [go_sem], by simp⟩
set_option maxHeartbeats 4000000 in
theorem mxRg_any (tv : Value) (t : List (Int × Int)) (q : Nat) (A M : Int) (W : World) (ht : Pts W tv t) (hq : Bx q W tv) :
    Calls Try.prog 49 (#[.agg #[.int .i64 A, .int .i64 M]] ++ #[.pointer (some ⟨q, 0, none⟩)]) W fun e w' => e = .returned (.bool (alE t A M != 0)) ∧ Below W.heap.size W w' := by
  have X := Lib.hid (bel_alloc (w := W) (o := .cells #[.int .i64 A, .int .i64 M] 24) (Below.refl _ _))
  have e0 := (hq.alloc (.cells #[.int .i64 A, .int .i64 M] 24)).1
  have T0 := Two.new W (.int .i64 A) (.int .i64 M) 24
  obtain ⟨t0, t1, _, _, _⟩ := T0
  have HC := Lib.hid (alChk_any tv t A M _ (ht.alloc (.cells #[.int .i64 A, .int .i64 M] 24)))
  show Calls Try.prog 49 #[.agg #[.int .i64 A, .int .i64 M], .pointer (some ⟨q, 0, none⟩)] W _
  generalize alE t A M = E at *
  have hne : q ≠ W.heap.size := by have := hq.2; omega
  go_enter Try.func49, Try.ntmps49
  go_wp2_with fail
  refine HC.out.mono ?_
  rintro e w1 ⟨rfl, h1⟩
  replace X := Lib.hid (bel_trans X.out h1); clear h1
  go_wp2
  go_returns
  exact ⟨rfl, X.out⟩
set_option maxHeartbeats 4000000 in
set_option maxRecDepth 100000 in
theorem mxRi_long (ta : Option Addr) (tn tc : Nat) (a : Option Addr) (n cap : Nat) (w : World) (h : 8 < n) (hn : n ≤ 9223372036854775807) :
    Calls Try.prog 35 #[(.slice ta tn tc), .slice a n cap] w fun e w' => e = .returned (.tuple #[.agg #[.int .i64 0, .int .i64 0], .int .i64 8]) ∧ Below w.heap.size w w' := by
  have q : decide (8 < (n : Int)) = true := decide_eq_true (by omega)
  go_enter Try.func35, Try.ntmps35
  go_wp2
  go_returns
  exact ⟨rfl, by go_grown⟩
set_option maxHeartbeats 16000000 in
set_option maxRecDepth 100000 in
theorem mxRi_table (ta : Option Addr) (tn tc : Nat) (t : List (Int × Int)) (a : Option Addr) (n cap : Nat) (l : List (Int × Int)) (hn : n ≤ 8) (hz : (alE t 0 0 != 0) = true) (w : World) (ht : Hid (Pts w (.slice ta tn tc) t)) (NV : Hid (Pts w (.slice a n cap) l)) (hl : Hid (l.length = n)) :
    Calls Try.prog 35 #[(.slice ta tn tc), .slice a n cap] w fun e w' => e = .returned (.tuple #[.agg #[.int .i64 0, .int .i64 0], .int .i64 1]) ∧ Below w.heap.size w w' := by
  have l1 : w.heap.size ≤ w.heap.size + 1 := by omega
  have T0 := Lib.hid (two_new1 w (.cells #[(.slice ta tn tc)] 36) (.int .i64 0) (.int .i64 0) 24)
  have BX := Lib.hid ((Bx.new w (.slice ta tn tc) 36).alloc (.cells #[.int .i64 0, .int .i64 0] 24))
  have TV := Lib.hid ((ht.out.alloc (.cells #[(.slice ta tn tc)] 36)).alloc (.cells #[.int .i64 0, .int .i64 0] 24))
  replace NV := Lib.hid ((NV.out.alloc (.cells #[(.slice ta tn tc)] 36)).alloc (.cells #[.int .i64 0, .int .i64 0] 24))
  have X : Hid (Below w.heap.size w ((w.alloc (.cells #[(.slice ta tn tc)] 36)).alloc (.cells #[.int .i64 0, .int .i64 0] 24))) := Lib.hid (bel_alloc (bel_alloc (Below.refl _ _)))
  have q : decide (8 < (n : Int)) = false := decide_eq_false (by omega)
  have hmf : ∀ (fn : Fn) (first cap : Array Value) (w : World), (Instr.makeFunc fn first cap).run Try.prog w = .ok (.func fn first cap) w := fun _ _ _ _ => rfl
  have eg : ∀ args w, (callFunc 49 args).run Try.prog w = .ok (.enter 49 args) w := enters_of Try.func49 (by kernel_rfl) rfl
  have HG := Lib.hid (fun W h g => mxRg_any (.slice ta tn tc) t w.heap.size 0 0 W h g)
  rw [hz] at HG
  change Hid (∀ W, Pts W (.slice ta tn tc) t → Bx w.heap.size W (.slice ta tn tc) → Calls Try.prog 49 #[.agg #[.int .i64 0, .int .i64 0], .pointer (some ⟨w.heap.size, 0, none⟩)] W _) at HG
  go_enter Try.func35, Try.ntmps35
  go_wp2_with fail
  refine (HG.out _ TV.out BX.out).mono ?_
  rintro e w1 ⟨rfl, h1⟩
  replace BX := Lib.hid (BX.out.below h1)
  replace TV := Lib.hid (TV.out.below h1)
  replace NV := Lib.hid (NV.out.below h1)
  replace T0 := Lib.hid (T0.out.below h1)
  replace X := Lib.hid (bel_trans X.out h1); clear h1
  obtain ⟨z0, z1, z2, z3, z4⟩ := T0.out
  go_wp2
  obtain ⟨r0, r1⟩ := two_read w1 (w.heap.size + 1) (.int .i64 0) (.int .i64 0) z0 z1
  refine bodyPost_ret (v := .tuple #[.agg #[.int .i64 0, .int .i64 0], .int .i64 1]) (by simp [results, Try.results35, go_sem, r0, r1]) rfl ?_
  exact ⟨rfl, (X.out.setCell l1 _).setCell l1 _⟩
set_option maxHeartbeats 16000000 in
set_option maxRecDepth 100000 in
theorem mxRi_bad (ta : Option Addr) (tn tc : Nat) (t : List (Int × Int)) (a : Option Addr) (n cap : Nat) (l : List (Int × Int)) (hn : n ≤ 8) (hz : (alE t 0 0 != 0) = false) (c : Bool) (h : c = true) (hc : Hid (c = true ↔ ∃ j, j < n ∧ wrB t l j = true)) (w : World) (ht : Hid (Pts w (.slice ta tn tc) t)) (NV : Hid (Pts w (.slice a n cap) l)) (hl : Hid (l.length = n)) :
    Calls Try.prog 35 #[(.slice ta tn tc), .slice a n cap] w fun e w' => e = .returned (.tuple #[.agg #[.int .i64 0, .int .i64 0], .int .i64 1]) ∧ Below w.heap.size w w' := by
  have l1 : w.heap.size ≤ w.heap.size + 1 := by omega
  have T0 := Lib.hid (two_new1 w (.cells #[(.slice ta tn tc)] 36) (.int .i64 0) (.int .i64 0) 24)
  have BX := Lib.hid ((Bx.new w (.slice ta tn tc) 36).alloc (.cells #[.int .i64 0, .int .i64 0] 24))
  have TV := Lib.hid ((ht.out.alloc (.cells #[(.slice ta tn tc)] 36)).alloc (.cells #[.int .i64 0, .int .i64 0] 24))
  replace NV := Lib.hid ((NV.out.alloc (.cells #[(.slice ta tn tc)] 36)).alloc (.cells #[.int .i64 0, .int .i64 0] 24))
  have X : Hid (Below w.heap.size w ((w.alloc (.cells #[(.slice ta tn tc)] 36)).alloc (.cells #[.int .i64 0, .int .i64 0] 24))) := Lib.hid (bel_alloc (bel_alloc (Below.refl _ _)))
  have q : decide (8 < (n : Int)) = false := decide_eq_false (by omega)
  have hmf : ∀ (fn : Fn) (first cap : Array Value) (w : World), (Instr.makeFunc fn first cap).run Try.prog w = .ok (.func fn first cap) w := fun _ _ _ _ => rfl
  have eg : ∀ args w, (callFunc 49 args).run Try.prog w = .ok (.enter 49 args) w := enters_of Try.func49 (by kernel_rfl) rfl
  have HG := Lib.hid (fun W h g => mxRg_any (.slice ta tn tc) t w.heap.size 0 0 W h g)
  rw [hz] at HG
  change Hid (∀ W, Pts W (.slice ta tn tc) t → Bx w.heap.size W (.slice ta tn tc) → Calls Try.prog 49 #[.agg #[.int .i64 0, .int .i64 0], .pointer (some ⟨w.heap.size, 0, none⟩)] W _) at HG
  go_enter Try.func35, Try.ntmps35
  go_wp2_with fail
  refine (HG.out _ TV.out BX.out).mono ?_
  rintro e w1 ⟨rfl, h1⟩
  replace BX := Lib.hid (BX.out.below h1)
  replace TV := Lib.hid (TV.out.below h1)
  replace NV := Lib.hid (NV.out.below h1)
  replace T0 := Lib.hid (T0.out.below h1)
  replace X := Lib.hid (bel_trans X.out h1); clear h1
  have HCo := Lib.hid (fun W (hW : Below w1.heap.size w1 W) => cong_of (.func (.func 49) #[] #[.pointer (some ⟨w.heap.size, 0, none⟩)]) _ a n cap rfl (wrB t l) c W (Lib.hid (by
    have := idxg_any 49 #[.pointer (some ⟨w.heap.size, 0, none⟩)] (wrB t l) eg (.slice a n cap) l W (by rw [hl.out]; omega) (NV.out.below hW) (Lib.hid fun j W2 hj hW2 => mxRg_any (.slice ta tn tc) t w.heap.size _ _ W2 ((TV.out.below hW).below hW2) ((BX.out.below hW).below hW2))
    rw [hl.out] at this
    exact this)) hc)
  go_wp2_with fail
  refine (HCo.out _ (Below.refl _ _)).mono ?_
  rintro e w2 ⟨rfl, h1⟩
  clear HCo
  replace NV := Lib.hid (NV.out.below h1)
  replace T0 := Lib.hid (T0.out.below h1)
  replace X := Lib.hid (bel_trans X.out h1); clear h1
  subst h
  obtain ⟨z0, z1, z2, z3, z4⟩ := T0.out
  go_wp2
  obtain ⟨r0, r1⟩ := two_read w2 (w.heap.size + 1) (.int .i64 0) (.int .i64 0) z0 z1
  refine bodyPost_ret (v := .tuple #[.agg #[.int .i64 0, .int .i64 0], .int .i64 1]) (by simp [results, Try.results35, go_sem, r0, r1]) rfl ?_
  exact ⟨rfl, (X.out.setCell l1 _).setCell l1 _⟩
set_option maxHeartbeats 16000000 in
set_option maxRecDepth 100000 in
theorem mxRi_sum (ta : Option Addr) (tn tc : Nat) (t : List (Int × Int)) (a : Option Addr) (n cap : Nat) (l : List (Int × Int)) (hn : n ≤ 8) (hz : (alE t 0 0 != 0) = false) (c : Bool) (h : c = false) (hc : Hid (c = true ↔ ∃ j, j < n ∧ wrB t l j = true)) (A M E : Int) (HS : Hid (∀ W, Pts W (.slice a n cap) l → Calls Try.prog 11 #[.slice a n cap] W fun e w' => e = .returned (.tuple #[.agg #[.int .i64 A, .int .i64 M], .int .i64 E]) ∧ Below W.heap.size W w')) (w : World) (ht : Hid (Pts w (.slice ta tn tc) t)) (NV : Hid (Pts w (.slice a n cap) l)) (hl : Hid (l.length = n)) :
    Calls Try.prog 35 #[(.slice ta tn tc), .slice a n cap] w fun e w' => e = .returned (.tuple #[.agg #[.int .i64 A, .int .i64 M], .int .i64 E]) ∧ Below w.heap.size w w' := by
  have l1 : w.heap.size ≤ w.heap.size + 1 := by omega
  have T0 := Lib.hid (two_new1 w (.cells #[(.slice ta tn tc)] 36) (.int .i64 0) (.int .i64 0) 24)
  have BX := Lib.hid ((Bx.new w (.slice ta tn tc) 36).alloc (.cells #[.int .i64 0, .int .i64 0] 24))
  have TV := Lib.hid ((ht.out.alloc (.cells #[(.slice ta tn tc)] 36)).alloc (.cells #[.int .i64 0, .int .i64 0] 24))
  replace NV := Lib.hid ((NV.out.alloc (.cells #[(.slice ta tn tc)] 36)).alloc (.cells #[.int .i64 0, .int .i64 0] 24))
  have X : Hid (Below w.heap.size w ((w.alloc (.cells #[(.slice ta tn tc)] 36)).alloc (.cells #[.int .i64 0, .int .i64 0] 24))) := Lib.hid (bel_alloc (bel_alloc (Below.refl _ _)))
  have q : decide (8 < (n : Int)) = false := decide_eq_false (by omega)
  have hmf : ∀ (fn : Fn) (first cap : Array Value) (w : World), (Instr.makeFunc fn first cap).run Try.prog w = .ok (.func fn first cap) w := fun _ _ _ _ => rfl
  have eg : ∀ args w, (callFunc 49 args).run Try.prog w = .ok (.enter 49 args) w := enters_of Try.func49 (by kernel_rfl) rfl
  have HG := Lib.hid (fun W h g => mxRg_any (.slice ta tn tc) t w.heap.size 0 0 W h g)
  rw [hz] at HG
  change Hid (∀ W, Pts W (.slice ta tn tc) t → Bx w.heap.size W (.slice ta tn tc) → Calls Try.prog 49 #[.agg #[.int .i64 0, .int .i64 0], .pointer (some ⟨w.heap.size, 0, none⟩)] W _) at HG
  go_enter Try.func35, Try.ntmps35
  go_wp2_with fail
  refine (HG.out _ TV.out BX.out).mono ?_
  rintro e w1 ⟨rfl, h1⟩
  replace BX := Lib.hid (BX.out.below h1)
  replace TV := Lib.hid (TV.out.below h1)
  replace NV := Lib.hid (NV.out.below h1)
  replace T0 := Lib.hid (T0.out.below h1)
  replace X := Lib.hid (bel_trans X.out h1); clear h1
  have HCo := Lib.hid (fun W (hW : Below w1.heap.size w1 W) => cong_of (.func (.func 49) #[] #[.pointer (some ⟨w.heap.size, 0, none⟩)]) _ a n cap rfl (wrB t l) c W (Lib.hid (by
    have := idxg_any 49 #[.pointer (some ⟨w.heap.size, 0, none⟩)] (wrB t l) eg (.slice a n cap) l W (by rw [hl.out]; omega) (NV.out.below hW) (Lib.hid fun j W2 hj hW2 => mxRg_any (.slice ta tn tc) t w.heap.size _ _ W2 ((TV.out.below hW).below hW2) ((BX.out.below hW).below hW2))
    rw [hl.out] at this
    exact this)) hc)
  go_wp2_with fail
  refine (HCo.out _ (Below.refl _ _)).mono ?_
  rintro e w2 ⟨rfl, h1⟩
  clear HCo
  replace NV := Lib.hid (NV.out.below h1)
  replace T0 := Lib.hid (T0.out.below h1)
  replace X := Lib.hid (bel_trans X.out h1); clear h1
  subst h
  go_wp2_with fail
  refine (HS.out _ NV.out).mono ?_
  rintro e w3 ⟨rfl, h1⟩
  replace T0 := Lib.hid (T0.out.below h1)
  replace X := Lib.hid (bel_trans X.out h1); clear h1
  obtain ⟨z0, z1, z2, z3, z4⟩ := T0.out
  go_wp2
  obtain ⟨r0, r1⟩ := two_read w3 (w.heap.size + 1) (.int .i64 A) (.int .i64 M) z0 z1
  refine bodyPost_ret (v := .tuple #[.agg #[.int .i64 A, .int .i64 M], .int .i64 E]) (by simp [results, Try.results35, go_sem, r0, r1]) rfl ?_
  exact ⟨rfl, (X.out.setCell l1 _).setCell l1 _⟩
theorem mxRi_any (tv v : Value) (t l : List (Int × Int)) (w : World) (ht : Pts w tv t) (hv : Pts w v l) :
    Calls Try.prog 35 #[tv, v] w fun e w' => e = .returned (.tuple #[.agg #[.int .i64 (riA t l), .int .i64 (riM t l)], .int .i64 (riE t l)]) ∧ Below w.heap.size w w' := by
  obtain ⟨a, cap, rfl, hcap, hh⟩ := id hv
  obtain ⟨ta, tc, rfl, _, _⟩ := id ht
  unfold riA riM
  by_cases h : 8 < l.length
  · have e : riE t l = 8 := by unfold riE; rw [if_pos h]
    rw [e]; exact mxRi_long ta _ tc a _ cap w h (by omega)
  · by_cases hd : dnE t = 0
    · have hz : (alE t 0 0 != 0) = false := by simpa using alE_dry.2 hd
      by_cases hj : ∃ j, j < l.length ∧ wrB t l j = true
      · have e : riE t l = 1 := by unfold riE; rw [if_neg h, if_pos (.inr hj)]
        rw [e]; exact mxRi_bad ta _ tc t a _ cap l (by omega) hz true rfl (Lib.hid ⟨fun _ => hj, fun _ => rfl⟩) w ht hv rfl
      · have e : riE t l = suE l := by unfold riE; rw [if_neg h, if_neg (fun g => g.elim (fun g => g hd) hj)]
        have := mxRi_sum ta _ tc t a _ cap l (by omega) hz false rfl (Lib.hid ⟨fun e => (by cases e), fun g => absurd g hj⟩) (suA l) (suM l) (suE l) (Lib.hid fun W hW => mxSu_any _ l W hW) w ht hv rfl
        rw [e]
        unfold suA suM at this
        exact this
    · have e : riE t l = 1 := by unfold riE; rw [if_neg h, if_pos (.inl hd)]
      rw [e]; exact mxRi_table ta _ tc t a _ cap l (by omega) (by simpa using fun g => hd (alE_dry.1 g)) w ht hv rfl
end Go.Proofs.Ytfkcgdnpfngdkaa

/- Package mix: Contraction and Between. -/
namespace Go.Proofs.Ytfkcgdnpfngdkaa
open Go.RowKit

def coV (t l : List (Int × Int)) : Int := if riE t l = 0 then sm (vlV t) l - vlV t (sm fA l) (sm fM l) else 0
def loB (t l : List (Int × Int)) : Nat → Int
  | 0 => 10000
  | k + 1 => if 0 < gR l k then min (loB t l k) (sgV t (gX l k) (gR l k)) else loB t l k
def hiB (t l : List (Int × Int)) : Nat → Int
  | 0 => 0
  | k + 1 => if 0 < gR l k then max (hiB t l k) (sgV t (gX l k) (gR l k)) else hiB t l k
def beE (t l : List (Int × Int)) : Int := if riE t l ≠ 0 then riE t l else if sm fM l = 0 then 9 else 0
def beL (t l : List (Int × Int)) : Int := if beE t l = 0 then loB t l l.length else 0
def beH (t l : List (Int × Int)) : Int := if beE t l = 0 then hiB t l l.length else 0
def beS (t l : List (Int × Int)) : Int := if beE t l = 0 then sgV t (sm fA l) (sm fM l) else 0
theorem mix_right {t l : List (Int × Int)} (h : riE t l = 0) : LR t (sm fA l) (sm fM l) := by
  obtain ⟨_, hD, hL, hP⟩ := riE_zero.1 h
  obtain ⟨p1, p2, p3, p4, _⟩ := plB_iff.1 hP
  refine ⟨p1, p2, p3, p4, ?_⟩
  have : ∀ m : List (Int × Int), (∀ q ∈ m, q.1 * atD t 10000 ≤ q.2 * 10000) → sm fA m * atD t 10000 ≤ sm fM m * 10000 := by
    intro m
    induction m with
    | nil => intro _; simp [sm]
    | cons q m ih =>
      intro hm
      have i := ih fun x hx => hm x (List.mem_cons_of_mem _ hx)
      have j := hm q List.mem_cons_self
      have e1 : sm fA (q :: m) = q.1 + sm fA m := by simp [sm, fA]
      have e2 : sm fM (q :: m) = q.2 + sm fM m := by simp [sm, fM]
      rw [e1, e2, Int.add_mul, Int.add_mul]
      omega
  refine this l fun q hq => ?_
  obtain ⟨i, hi, e⟩ := List.getElem_of_mem hq
  have := (hL i hi).t
  simpa [gX, gR, List.getD_eq_getElem?_getD, List.getElem?_eq_getElem hi, e] using this
theorem vlV_ok {t : List (Int × Int)} (hD : DR t) {A M : Int} (g : LR t A M) : vlV t A M = vlN t A M ∧ 0 ≤ vlV t A M ∧ vlV t A M ≤ 2576980377 := by
  have e : vlV t A M = vlN t A M := by unfold vlV; rw [if_pos (alE_zero.2 ⟨hD, g⟩)]
  rw [e]
  have := vlN_bd hD g
  exact ⟨rfl, this.1, this.2.2.2⟩
theorem sgV_ok {t : List (Int × Int)} (hD : DR t) {A M : Int} (g : LR t A M) : sgV t A M = sgN t A M ∧ 0 ≤ sgV t A M ∧ sgV t A M ≤ 10000 := by
  have e : sgV t A M = sgN t A M := by unfold sgV; rw [if_pos (alE_zero.2 ⟨hD, g⟩)]
  rw [e]
  have := sgN_le t A M
  exact ⟨rfl, by omega, by omega⟩
theorem row_lr {t l : List (Int × Int)} (h : riE t l = 0) {k : Nat} (hk : k < l.length) : LR t (gX l k) (gR l k) := (riE_zero.1 h).2.2.1 k hk
theorem vol_bd {t l : List (Int × Int)} (h : riE t l = 0) (k : Nat) : 0 ≤ sm (vlV t) (l.take k) ∧ sm (vlV t) (l.take k) ≤ 2576980377 * 8 := by
  obtain ⟨hn, hD, hL, _⟩ := riE_zero.1 h
  have := sm_bd (f := vlV t) (c := 2576980377) (l.take k) (fun q hq => by
    obtain ⟨i, hi, e⟩ := List.getElem_of_mem (List.mem_of_mem_take hq)
    have := (vlV_ok hD (hL i hi)).2
    simpa [gX, gR, List.getD_eq_getElem?_getD, List.getElem?_eq_getElem hi, e] using this)
  have hl := List.length_take_le' k l
  omega
set_option maxHeartbeats 8000000 in
set_option maxRecDepth 100000 in
theorem mxCo_err (tv v : Value) (E : Int) (w : World) (hE : (E != 0) = true)
    (HR : Hid (Calls Try.prog 35 #[tv, v] w fun e w' => e = .returned (.tuple #[.agg #[.int .i64 0, .int .i64 0], .int .i64 E]) ∧ Below w.heap.size w w')) :
    Calls Try.prog 19 #[tv, v] w fun e w' => e = .returned (.tuple #[.int .i64 0, .int .i64 E]) ∧ Below w.heap.size w w' := by
  go_enter Try.func19, Try.ntmps19
  go_wp2_with fail
  refine HR.out.mono ?_
  rintro e w1 ⟨rfl, h1⟩
  have X := Lib.hid (bel_trans h1 (bel_alloc (o := .cells #[.int .i64 0, .int .i64 0] 24) (Below.refl _ _))); clear h1
  go_wp2
  go_returns
  exact ⟨rfl, X.out⟩
set_option maxHeartbeats 16000000 in
set_option maxRecDepth 100000 in
theorem mxCo_ok (tv : Value) (a : Option Addr) (n cap : Nat) (t l : List (Int × Int)) (w : World) (ht : Hid (Pts w tv t)) (NV : Hid (Pts w (.slice a n cap) l)) (hl : Hid (l.length = n)) (hn : n ≤ 8) (A M S : Int) (hS : 0 ≤ S ∧ S ≤ 2576980377)
    (HR : Hid (Calls Try.prog 35 #[tv, .slice a n cap] w fun e w' => e = .returned (.tuple #[.agg #[.int .i64 A, .int .i64 M], .int .i64 0]) ∧ Below w.heap.size w w'))
    (HS : Hid (∀ W, Pts W tv t → Calls Try.prog 36 #[tv, .agg #[.int .i64 A, .int .i64 M]] W fun e w' => e = .returned (.tuple #[.int .i64 S, .int .i64 (meE t A M)]) ∧ Below W.heap.size W w'))
    (hv : Hid (∀ k, k < n → 0 ≤ vlV t (gX l k) (gR l k) ∧ vlV t (gX l k) (gR l k) ≤ 2576980377)) (hb : Hid (∀ k, 0 ≤ sm (vlV t) (l.take k) ∧ sm (vlV t) (l.take k) ≤ 20615843016)) (SA : Int) (hA : Hid (sm (vlV t) (l.take n) = SA)) :
    Calls Try.prog 19 #[tv, .slice a n cap] w fun e w' => e = .returned (.tuple #[.int .i64 (SA - S), .int .i64 0]) ∧ Below w.heap.size w w' := by
  generalize meE t A M = E0 at *
  go_enter Try.func19, Try.ntmps19
  go_wp2_with fail
  refine HR.out.mono ?_
  rintro e w1 ⟨rfl, h1⟩
  have X := Lib.hid (bel_trans h1 (bel_alloc (o := .cells #[.int .i64 A, .int .i64 M] 24) (Below.refl _ _)))
  have P0 := Lib.hid (Two.new w1 (.int .i64 A) (.int .i64 M) 24)
  replace ht := Lib.hid ((ht.out.below h1).alloc (.cells #[.int .i64 A, .int .i64 M] 24))
  replace NV := Lib.hid ((NV.out.below h1).alloc (.cells #[.int .i64 A, .int .i64 M] 24))
  clear h1 HR
  obtain ⟨p0, p1, _, _, _⟩ := P0.out
  go_wp2_with fail
  refine (HS.out _ ht.out).mono ?_
  rintro e w2 ⟨rfl, h1⟩
  replace X := Lib.hid (bel_trans X.out h1)
  replace ht := Lib.hid (ht.out.below h1)
  replace NV := Lib.hid (NV.out.below h1)
  clear h1 HS p0 p1 P0
  go_wp2_with fail
  go_loopw [10, 32] (fun s i wr => ∃ k : Nat, k ≤ n ∧ i = .int .i64 k ∧ s = .int .i64 (sm (vlV t) (l.take k)) ∧ Hid (Below w.heap.size w wr) ∧ Hid (Pts wr tv t) ∧ Hid (Pts wr (.slice a n cap) l)) (fun _ i _ => n - (intOf i).toNat)
  case atStart => exact ⟨0, Nat.zero_le _, rfl, rfl, X, ht, NV⟩
  case round =>
    clear X ht NV
    obtain ⟨k, hk, rfl, rfl, X, ht, NV⟩ := hrel
    by_cases hlt : k < n
    · have l9 : (k : Int) < (n : Int) := by omega
      have hs := Lib.hid (sm_step (vlV t) l k (by rw [hl.out]; exact hlt))
      have b1 := hb.out k
      have b2 := hv.out k hlt
      obtain ⟨b, off, rfl, hb, hc⟩ := NV.out.at (by omega)
      obtain ⟨c0, c1⟩ := hc k hlt
      clear hc
      have HV := Lib.hid (fun W h => alVl_any tv t (gX l k) (gR l k) W h)
      generalize meE t (gX l k) (gR l k) = E1 at *
      generalize vlV t (gX l k) (gR l k) = V at *
      generalize gX l k = x at *
      generalize gR l k = y at *
      generalize sm (vlV t) (l.take k) = SK at *
      have P0 := Lib.hid (Two.new wr (.int .i64 x) (.int .i64 y) 24)
      replace X := Lib.hid (bel_trans X.out (bel_alloc (o := .cells #[.int .i64 x, .int .i64 y] 24) (Below.refl _ _)))
      replace NV := Lib.hid (NV.out.alloc (.cells #[.int .i64 x, .int .i64 y] 24))
      replace ht := Lib.hid (ht.out.alloc (.cells #[.int .i64 x, .int .i64 y] 24))
      obtain ⟨p0, p1, _, _, _⟩ := P0.out
      have w1 : IntKind.i64.wrap (SK + V) = SK + V := wrap_in _ ⟨by omega, by omega⟩
      go_wp2_with fail
      refine (HV.out _ ht.out).mono ?_
      rintro e w3 ⟨rfl, h1⟩
      replace X := Lib.hid (bel_trans X.out h1)
      replace NV := Lib.hid (NV.out.below h1)
      replace ht := Lib.hid (ht.out.below h1)
      clear h1
      go_wp2
      go_roundw
      case rel => exact ⟨k + 1, by omega, by go_num, by rw [hs.out], X, ht, NV⟩
      case measure => simp [intOf]; omega
    · obtain rfl : k = n := by omega
      have b1 := hb.out k
      rw [hA.out] at b1
      rw [hA.out]
      have w1 : IntKind.i64.wrap (SA - S) = SA - S := wrap_in _ ⟨by omega, by omega⟩
      go_wp2
      go_returns
      exact ⟨rfl, X.out⟩
theorem mxCo_any (tv v : Value) (t l : List (Int × Int)) (w : World) (ht : Pts w tv t) (hv : Pts w v l) :
    Calls Try.prog 19 #[tv, v] w fun e w' => e = .returned (.tuple #[.int .i64 (coV t l), .int .i64 (riE t l)]) ∧ Below w.heap.size w w' := by
  have R := mxRi_any tv v t l w ht hv
  unfold coV
  by_cases h : riE t l = 0
  · unfold riA riM at R
    rw [h] at R ⊢
    obtain ⟨hn, hD, hL, _⟩ := riE_zero.1 h
    obtain ⟨a, cap, rfl, hcap, hh⟩ := id hv
    exact mxCo_ok tv a _ cap t l w ht hv rfl hn _ _ _ (vlV_ok hD (mix_right h)).2 R (Lib.hid fun W hW => alVl_any tv t _ _ W hW) (Lib.hid fun k hk => (vlV_ok hD (hL k hk)).2) (Lib.hid fun k => by have := vol_bd h k; omega) _ (by show _ = _; rw [sm_full])
  · have R' := R
    unfold riA riM at R'
    rw [if_neg h, if_neg h] at R'
    rw [if_neg h]
    exact mxCo_err tv v _ w (by rw [bne_iff_ne]; exact h) R'
end Go.Proofs.Ytfkcgdnpfngdkaa

/- Package mix: Between. -/
namespace Go.Proofs.Ytfkcgdnpfngdkaa
open Go.RowKit

set_option maxHeartbeats 32000000 in
set_option maxRecDepth 100000 in
theorem mxBe_err (tv : Value) (a : Option Addr) (n cap : Nat) (t l : List (Int × Int)) (w : World) (ht : Hid (Pts w tv t)) (NV : Hid (Pts w (.slice a n cap) l)) (E : Int) (hE : (E != 0) = true) (HR : Hid (∀ W, Pts W tv t → Pts W (.slice a n cap) l → Calls Try.prog 35 #[tv, .slice a n cap] W fun e w' => e = .returned (.tuple #[.agg #[.int .i64 0, .int .i64 0], .int .i64 E]) ∧ Below W.heap.size W w')) :
    Calls Try.prog 21 #[tv, .slice a n cap] w fun e w' => e = .returned (.tuple #[.agg #[.int .i64 0, .int .i64 0], .int .i64 0, .int .i64 E]) ∧ Below w.heap.size w w' := by
  have T0 := Lib.hid (Two.new w (.int .i64 0) (.int .i64 0) 41)
  have X := Lib.hid (bel_alloc (w := w) (o := .cells #[.int .i64 0, .int .i64 0] 41) (Below.refl _ _))
  replace ht := Lib.hid (ht.out.alloc (.cells #[.int .i64 0, .int .i64 0] 41))
  replace NV := Lib.hid (NV.out.alloc (.cells #[.int .i64 0, .int .i64 0] 41))
  go_enter Try.func21, Try.ntmps21
  go_wp2_with fail
  refine (HR.out _ ht.out NV.out).mono ?_
  rintro e w1 ⟨rfl, h1⟩
  have n1 : w.heap.size < w1.heap.size := by have := h1.size; rw [World.size_alloc] at this; omega
  have TW := Lib.hid (T0.out.below h1)
  have P7 := Lib.hid (Two.new w1 (.int .i64 0) (.int .i64 0) 24)
  replace X := Lib.hid (bel_trans (bel_trans X.out h1) (bel_alloc (o := .cells #[.int .i64 0, .int .i64 0] 24) (Below.refl _ _)))
  replace T0 := Lib.hid ((T0.out.below h1).alloc (.cells #[.int .i64 0, .int .i64 0] 24))
  replace ht := Lib.hid ((ht.out.below h1).alloc (.cells #[.int .i64 0, .int .i64 0] 24))
  replace NV := Lib.hid ((NV.out.below h1).alloc (.cells #[.int .i64 0, .int .i64 0] 24))
  clear h1
  clear TW n1
  go_upto_region 2 with fail
  generalize w1.alloc (.cells #[.int .i64 0, .int .i64 0] 24) = W1 at *
  obtain ⟨z0, z1, z2, z3, z4⟩ := T0.out
  go_wp2
  obtain ⟨r0, r1⟩ := two_read W1 w.heap.size (.int .i64 0) (.int .i64 0) z0 z1
  refine bodyPost_ret (v := .tuple #[.agg #[.int .i64 0, .int .i64 0], .int .i64 0, .int .i64 E]) (by simp [results, Try.results21, go_sem, r0, r1]) rfl ?_
  exact ⟨rfl, (X.out.setCell (Nat.le_refl _) _).setCell (Nat.le_refl _) _⟩
set_option maxHeartbeats 32000000 in
set_option maxRecDepth 100000 in
theorem mxBe_dry (tv : Value) (a : Option Addr) (n cap : Nat) (t l : List (Int × Int)) (w : World) (ht : Hid (Pts w tv t)) (NV : Hid (Pts w (.slice a n cap) l)) (A M : Int) (hM : (M == 0) = true) (HR : Hid (∀ W, Pts W tv t → Pts W (.slice a n cap) l → Calls Try.prog 35 #[tv, .slice a n cap] W fun e w' => e = .returned (.tuple #[.agg #[.int .i64 A, .int .i64 M], .int .i64 0]) ∧ Below W.heap.size W w')) :
    Calls Try.prog 21 #[tv, .slice a n cap] w fun e w' => e = .returned (.tuple #[.agg #[.int .i64 0, .int .i64 0], .int .i64 0, .int .i64 9]) ∧ Below w.heap.size w w' := by
  have T0 := Lib.hid (Two.new w (.int .i64 0) (.int .i64 0) 41)
  have X := Lib.hid (bel_alloc (w := w) (o := .cells #[.int .i64 0, .int .i64 0] 41) (Below.refl _ _))
  replace ht := Lib.hid (ht.out.alloc (.cells #[.int .i64 0, .int .i64 0] 41))
  replace NV := Lib.hid (NV.out.alloc (.cells #[.int .i64 0, .int .i64 0] 41))
  go_enter Try.func21, Try.ntmps21
  go_wp2_with fail
  refine (HR.out _ ht.out NV.out).mono ?_
  rintro e w1 ⟨rfl, h1⟩
  have n1 : w.heap.size < w1.heap.size := by have := h1.size; rw [World.size_alloc] at this; omega
  have TW := Lib.hid (T0.out.below h1)
  have P7 := Lib.hid (Two.new w1 (.int .i64 A) (.int .i64 M) 24)
  replace X := Lib.hid (bel_trans (bel_trans X.out h1) (bel_alloc (o := .cells #[.int .i64 A, .int .i64 M] 24) (Below.refl _ _)))
  replace T0 := Lib.hid ((T0.out.below h1).alloc (.cells #[.int .i64 A, .int .i64 M] 24))
  replace ht := Lib.hid ((ht.out.below h1).alloc (.cells #[.int .i64 A, .int .i64 M] 24))
  replace NV := Lib.hid ((NV.out.below h1).alloc (.cells #[.int .i64 A, .int .i64 M] 24))
  clear h1
  clear TW n1
  go_upto_region 2 with fail
  generalize w1.alloc (.cells #[.int .i64 A, .int .i64 M] 24) = W1 at *
  obtain ⟨z0, z1, z2, z3, z4⟩ := T0.out
  obtain ⟨p0, p1, _, _, _⟩ := P7.out
  go_wp2
  obtain ⟨r0, r1⟩ := two_read W1 w.heap.size (.int .i64 0) (.int .i64 0) z0 z1
  refine bodyPost_ret (v := .tuple #[.agg #[.int .i64 0, .int .i64 0], .int .i64 0, .int .i64 9]) (by simp [results, Try.results21, go_sem, r0, r1]) rfl ?_
  exact ⟨rfl, (X.out.setCell (Nat.le_refl _) _).setCell (Nat.le_refl _) _⟩
set_option maxHeartbeats 32000000 in
set_option maxRecDepth 100000 in
theorem mxBe_ok (tv : Value) (a : Option Addr) (n cap : Nat) (t l : List (Int × Int)) (w : World) (ht : Hid (Pts w tv t)) (NV : Hid (Pts w (.slice a n cap) l)) (hl : Hid (l.length = n)) (hn : n ≤ 8) (A M S E0 LO HI : Int) (hM : (M == 0) = false) (HR : Hid (∀ W, Pts W tv t → Pts W (.slice a n cap) l → Calls Try.prog 35 #[tv, .slice a n cap] W fun e w' => e = .returned (.tuple #[.agg #[.int .i64 A, .int .i64 M], .int .i64 0]) ∧ Below W.heap.size W w'))
    (HS : Hid (∀ W, Pts W tv t → Calls Try.prog 23 #[tv, .agg #[.int .i64 A, .int .i64 M]] W fun e w' => e = .returned (.tuple #[.int .i64 S, .int .i64 E0]) ∧ Below W.heap.size W w'))
    (hlo : Hid (loB t l n = LO)) (hhi : Hid (hiB t l n = HI)) :
    Calls Try.prog 21 #[tv, .slice a n cap] w fun e w' => e = .returned (.tuple #[.agg #[.int .i64 LO, .int .i64 HI], .int .i64 S, .int .i64 0]) ∧ Below w.heap.size w w' := by
  have HT0 := Lib.hid ht.out
  have NV0 := Lib.hid NV.out
  have T0 := Lib.hid (Two.new w (.int .i64 0) (.int .i64 0) 41)
  have X := Lib.hid (bel_alloc (w := w) (o := .cells #[.int .i64 0, .int .i64 0] 41) (Below.refl _ _))
  replace ht := Lib.hid (ht.out.alloc (.cells #[.int .i64 0, .int .i64 0] 41))
  replace NV := Lib.hid (NV.out.alloc (.cells #[.int .i64 0, .int .i64 0] 41))
  go_enter Try.func21, Try.ntmps21
  go_wp2_with fail
  refine (HR.out _ ht.out NV.out).mono ?_
  rintro e w1 ⟨rfl, h1⟩
  have n1 : w.heap.size < w1.heap.size := by have := h1.size; rw [World.size_alloc] at this; omega
  have TW := Lib.hid (T0.out.below h1)
  have P7 := Lib.hid (Two.new w1 (.int .i64 A) (.int .i64 M) 24)
  replace X := Lib.hid (bel_trans (bel_trans X.out h1) (bel_alloc (o := .cells #[.int .i64 A, .int .i64 M] 24) (Below.refl _ _)))
  replace T0 := Lib.hid ((T0.out.below h1).alloc (.cells #[.int .i64 A, .int .i64 M] 24))
  replace ht := Lib.hid ((ht.out.below h1).alloc (.cells #[.int .i64 A, .int .i64 M] 24))
  replace NV := Lib.hid ((NV.out.below h1).alloc (.cells #[.int .i64 A, .int .i64 M] 24))
  clear h1
  obtain ⟨p0, p1, _, _, _⟩ := P7.out
  have P9 : Hid (Two (w1.heap.size + 1) ((w1.alloc (.cells #[.int .i64 A, .int .i64 M] 24)).alloc (.cells #[.int .i64 10000, .int .i64 0] 41)) (.int .i64 (loB t l 0)) (.int .i64 (hiB t l 0))) := Lib.hid (two_new1 w1 (.cells #[.int .i64 A, .int .i64 M] 24) (.int .i64 10000) (.int .i64 0) 41)
  replace P7 := Lib.hid (P7.out.alloc (.cells #[.int .i64 10000, .int .i64 0] 41))
  replace X := Lib.hid (bel_trans X.out (bel_alloc (o := .cells #[.int .i64 10000, .int .i64 0] 41) (Below.refl _ _)))
  replace T0 := Lib.hid (T0.out.alloc (.cells #[.int .i64 10000, .int .i64 0] 41))
  replace ht := Lib.hid (ht.out.alloc (.cells #[.int .i64 10000, .int .i64 0] 41))
  replace NV := Lib.hid (NV.out.alloc (.cells #[.int .i64 10000, .int .i64 0] 41))
  go_wp2_with fail
  clear p0 p1
  generalize w1.heap.size = g at *
  go_loopw [33] (fun i wr => ∃ k : Nat, k ≤ n ∧ i = .int .i64 k ∧ Hid (Below w.heap.size w wr) ∧ Hid (Two w.heap.size wr (.int .i64 0) (.int .i64 0)) ∧ Hid (Two g wr (.int .i64 A) (.int .i64 M)) ∧ Hid (Two (g + 1) wr (.int .i64 (loB t l k)) (.int .i64 (hiB t l k)))) (fun i _ => n - (intOf i).toNat)
  case atStart => exact ⟨0, Nat.zero_le _, rfl, X, T0, P7, P9⟩
  case round =>
    clear X ht NV T0 P7 P9
    obtain ⟨k, hk, rfl, X, T0, P7, P9⟩ := hrel
    have ht := Lib.hid (HT0.out.below X.out)
    have NV := Lib.hid (NV0.out.below X.out)
    by_cases hlt : k < n
    · have l9 : (k : Int) < (n : Int) := by omega
      have sl : loB t l (k + 1) = if 0 < gR l k then min (loB t l k) (sgV t (gX l k) (gR l k)) else loB t l k := rfl
      have sh : hiB t l (k + 1) = if 0 < gR l k then max (hiB t l k) (sgV t (gX l k) (gR l k)) else hiB t l k := rfl
      obtain ⟨b, off, rfl, hb, hc⟩ := NV.out.at (by omega)
      obtain ⟨c0, c1⟩ := hc k hlt
      clear hc
      have HV := Lib.hid (fun W h => alSt_any tv t (gX l k) (gR l k) W h)
      generalize meE t (gX l k) (gR l k) = E1 at *
      generalize sgV t (gX l k) (gR l k) = V at *
      generalize gX l k = x at *
      generalize gR l k = y at *
      have Q0 := Lib.hid (Two.new wr (.int .i64 x) (.int .i64 y) 24)
      replace X := Lib.hid (bel_trans X.out (bel_alloc (o := .cells #[.int .i64 x, .int .i64 y] 24) (Below.refl _ _)))
      replace NV := Lib.hid (NV.out.alloc (.cells #[.int .i64 x, .int .i64 y] 24))
      replace ht := Lib.hid (ht.out.alloc (.cells #[.int .i64 x, .int .i64 y] 24))
      replace T0 := Lib.hid (T0.out.alloc (.cells #[.int .i64 x, .int .i64 y] 24))
      replace P7 := Lib.hid (P7.out.alloc (.cells #[.int .i64 x, .int .i64 y] 24))
      replace P9 := Lib.hid (P9.out.alloc (.cells #[.int .i64 x, .int .i64 y] 24))
      obtain ⟨p0, p1, _, _, _⟩ := Q0.out
      by_cases hy : 0 < y
      · rw [if_pos hy] at sl sh
        replace sl := Lib.hid sl
        replace sh := Lib.hid sh
        have d : decide (0 < y) = true := decide_eq_true hy
        go_wp2_with fail
        refine (HV.out _ ht.out).mono ?_
        rintro e w3 ⟨rfl, h1⟩
        replace X := Lib.hid (bel_trans X.out h1)
        replace NV := Lib.hid (NV.out.below h1)
        replace ht := Lib.hid (ht.out.below h1)
        replace T0 := Lib.hid (T0.out.below h1)
        replace P7 := Lib.hid (P7.out.below h1)
        replace P9 := Lib.hid (P9.out.below h1)
        clear h1 p0 p1 c0 c1
        generalize loB t l k = L0 at *
        generalize hiB t l k = H0 at *
        obtain ⟨q0, q1, q2, q3, q4⟩ := P9.out
        have n2 : g + 1 ≠ w.heap.size := by omega
        have n3 : g + 1 ≠ g := by omega
        have n4 : w.heap.size ≤ g + 1 := by omega
        have NT := Lib.hid ((T0.out.other ⟨g + 1, 0, none⟩ n2 (.int .i64 (min L0 V))).other ⟨g + 1, 1, none⟩ n2 (.int .i64 (max H0 V)))
        have N7 := Lib.hid ((P7.out.other ⟨g + 1, 0, none⟩ n3 (.int .i64 (min L0 V))).other ⟨g + 1, 1, none⟩ n3 (.int .i64 (max H0 V)))
        have N9 := Lib.hid ((P9.out.set0 (.int .i64 (min L0 V))).set1 (.int .i64 (max H0 V)))
        have NX := Lib.hid ((X.out.setCell (p := ⟨g + 1, 0, none⟩) n4 (.int .i64 (min L0 V))).setCell (p := ⟨g + 1, 1, none⟩) n4 (.int .i64 (max H0 V)))
        go_wp2
        go_roundw
        case rel => exact ⟨k + 1, by omega, by go_num, NX, NT, N7, by rw [sl.out, sh.out]; exact N9⟩
        case measure => simp [intOf]; omega
      · rw [if_neg hy] at sl sh
        have d : decide (0 < y) = false := decide_eq_false hy
        replace sl := Lib.hid sl
        replace sh := Lib.hid sh
        go_wp2
        go_roundw
        case rel => exact ⟨k + 1, by omega, by go_num, X, T0, P7, by rw [sl.out, sh.out]; exact P9⟩
        case measure => simp [intOf]; omega
    · obtain rfl : k = n := by omega
      rw [hlo.out, hhi.out] at P9
      obtain ⟨p0, p1, _, _, _⟩ := P7.out
      go_wp2_with fail
      refine (HS.out _ ht.out).mono ?_
      rintro e w3 ⟨rfl, h1⟩
      replace X := Lib.hid (bel_trans X.out h1)
      replace T0 := Lib.hid (T0.out.below h1)
      replace P9 := Lib.hid (P9.out.below h1)
      clear h1 p0 p1
      obtain ⟨q0, q1, q2, q3, q4⟩ := P9.out
      obtain ⟨z0, z1, z2, z3, z4⟩ := T0.out
      go_wp2
      obtain ⟨r0, r1⟩ := two_read w3 w.heap.size (.int .i64 LO) (.int .i64 HI) z0 z1
      refine bodyPost_ret (v := .tuple #[.agg #[.int .i64 LO, .int .i64 HI], .int .i64 S, .int .i64 0]) (by simp [results, Try.results21, go_sem, r0, r1]) rfl ?_
      exact ⟨rfl, (X.out.setCell (Nat.le_refl _) _).setCell (Nat.le_refl _) _⟩
theorem mxBe_any (tv v : Value) (t l : List (Int × Int)) (w : World) (ht : Pts w tv t) (hv : Pts w v l) :
    Calls Try.prog 21 #[tv, v] w fun e w' => e = .returned (.tuple #[.agg #[.int .i64 (beL t l), .int .i64 (beH t l)], .int .i64 (beS t l), .int .i64 (beE t l)]) ∧ Below w.heap.size w w' := by
  obtain ⟨a, cap, rfl, hcap, hh⟩ := id hv
  have R := Lib.hid (fun W h1 h2 => mxRi_any tv (.slice a l.length cap) t l W h1 h2)
  unfold beL beH beS
  by_cases h : riE t l = 0
  · unfold riA riM at R
    rw [h] at R
    by_cases hM : sm fM l = 0
    · have e : beE t l = 9 := by unfold beE; rw [if_neg (by omega), if_pos hM]
      rw [e]
      exact mxBe_dry tv a _ cap t l w ht hv _ _ (by simpa using hM) R
    · have e : beE t l = 0 := by unfold beE; rw [if_neg (by omega), if_neg hM]
      rw [e]
      exact mxBe_ok tv a _ cap t l w ht hv rfl (riE_zero.1 h).1 _ _ _ _ _ _ (by simpa using hM) R (Lib.hid fun W hW => alSt_any tv t _ _ W hW) rfl rfl
  · have e : beE t l = riE t l := by unfold beE; rw [if_pos h]
    unfold riA riM at R
    rw [if_neg h, if_neg h] at R
    rw [e, if_neg h, if_neg h, if_neg h]
    exact mxBe_err tv a _ cap t l w ht hv _ (by rw [bne_iff_ne]; exact h) R
end Go.Proofs.Ytfkcgdnpfngdkaa

/- Rows of liquids of the call's own; parts of parts. -/
namespace Go.Proofs.Ytfkcgdnpfngdkaa
open Go.RowKit

theorem row_belB {W W' : World} {B n size : Nat} {e : TypeId} {v : Value} {xs : List Value} (h : W.ownsRow B e size v n xs) (hb : Below W.heap.size W W') : W'.ownsRow B e size v n xs := by
  obtain ⟨h1, h2⟩ := h
  refine ⟨h1, ?_⟩
  rcases h2 with ⟨h2, h3⟩ | ⟨g, cap, cur, h2, hg, hh, r⟩
  · exact .inl ⟨h2, h3⟩
  · refine .inr ⟨g, cap, cur, h2, hg, ?_, r⟩
    rw [hb.block _ (Array.getElem?_eq_some_iff.1 hh).1]
    exact hh
def OwnL (w : World) (B : Nat) (v : Value) (l : List (Int × Int)) : Prop := w.ownsRow B 24 2 v l.length (flat l)
theorem OwnL.pts {w : World} {B : Nat} {v : Value} {l : List (Int × Int)} (h : OwnL w B v l) : Pts w v l := by
  have h' := h
  obtain ⟨_, h2⟩ := h
  rcases h2 with ⟨rfl, hn⟩ | ⟨g, cap, cur, rfl, hg, hh, hc, hm, hs, ht⟩
  · exact ⟨none, 0, by rw [hn], by omega, .inl hn⟩
  · have hlt : g < w.heap.size := (Array.getElem?_eq_some_iff.1 hh).1
    unfold maxLen at hm
    refine ⟨_, cap, rfl, ⟨hc, by omega⟩, .inr ⟨g, 0, rfl, hlt, fun j hj => ?_⟩⟩
    have hcell := World.ownsRow.cells h' (g := g) rfl
    have hf := flat_at l j hj
    have c0 := hcell _ _ hf.1
    have c1 := hcell _ _ hf.2
    rw [Go.WideShapes.add_plain] at c0 c1
    exact ⟨c0, by rw [Nat.add_assoc]; exact c1⟩
theorem flat_set (l : List (Int × Int)) (k : Nat) (x y : Int) : ((flat l).set (k * 2) (.int .i64 x)).set (k * 2 + 1) (.int .i64 y) = flat (l.set k (x, y)) := by
  induction l generalizing k with
  | nil => simp [flat]
  | cons q l ih =>
    cases k with
    | zero => simp [flat]
    | succ k =>
      rw [show (k + 1) * 2 = k * 2 + 1 + 1 by omega]
      simp only [flat, List.set_cons_succ]
      rw [ih]
theorem OwnL.put {w : World} {B g n cap : Nat} {l : List (Int × Int)} (hn : l.length = n) (h : OwnL w B (.slice (some ⟨g, 0, none⟩) n cap) l) (k : Nat) (x y : Int) : OwnL ((w.setCell ⟨g, k * 2, none⟩ (.int .i64 x)).setCell ⟨g, k * 2 + 1, none⟩ (.int .i64 y)) B (.slice (some ⟨g, 0, none⟩) n cap) (l.set k (x, y)) := by
  subst hn
  have h0 : w.ownsRow B 24 2 (.slice (some ⟨g, 0, none⟩) l.length cap) l.length (flat l) := h
  have h1 := (World.ownsRow.stored h0 (k * 2) (.int .i64 x)).1
  have h2 := (World.ownsRow.stored h1 (k * 2 + 1) (.int .i64 y)).1
  rw [flat_set] at h2
  unfold OwnL
  rw [List.length_set]
  exact h2
theorem OwnL.cell {W : World} {B g n cap : Nat} {L : List (Int × Int)} (hn : L.length = n) (O : OwnL W B (.slice (some ⟨g, 0, none⟩) n cap) L) {k : Nat} (hk : k < n) : ∃ z0 z1 : Int, W.cell? ⟨g, k * 2, none⟩ = some (.int .i64 z0) ∧ W.cell? ⟨g, k * 2 + 1, none⟩ = some (.int .i64 z1) ∧ W.frozen? ⟨g, k * 2, none⟩ = false ∧ W.frozen? ⟨g, k * 2 + 1, none⟩ = false ∧ B ≤ g := by
  obtain ⟨b', o', e, _, hcc⟩ := O.pts.at (by omega)
  simp only [Option.some.injEq, Addr.mk.injEq, and_true] at e
  obtain ⟨rfl, rfl⟩ := e
  have := hcc k hk
  simp only [Nat.zero_add] at this
  have hr : W.ownsRow B 24 2 (.slice (some ⟨g, 0, none⟩) n cap) L.length (flat L) := O
  rw [hn] at hr
  exact ⟨_, _, this.1, this.2, World.ownsRow.frozenAt hr _, World.ownsRow.frozenAt hr _, (World.ownsRow.lt hr g rfl).1⟩
theorem lq_info : (Try.prog.info? 24).map (fun i => (i.zero, i.size, i.bytes)) = some (some (.agg #[.int .i64 0, .int .i64 0]), 2, 16) := by kernel_rfl
theorem madeLq (n : Nat) : (madeCells (Value.agg #[.int .i64 0, .int .i64 0]).cells (n * 2)).toList = flat (List.replicate n ((0, 0) : Int × Int)) := by
  apply List.ext_getElem?
  intro i
  by_cases hi : i < n * 2
  · have h1 : ∃ j, j < n ∧ (i = j * 2 ∨ i = j * 2 + 1) := ⟨i / 2, by omega, by omega⟩
    obtain ⟨j, hj, e⟩ := h1
    have f := flat_at (List.replicate n ((0, 0) : Int × Int)) j (by simpa using hj)
    have g0 : gX (List.replicate n ((0, 0) : Int × Int)) j = 0 ∧ gR (List.replicate n ((0, 0) : Int × Int)) j = 0 := by
      simp [gX, gR, List.getD_eq_getElem?_getD, List.getElem?_replicate, hj]
    rw [g0.1, g0.2] at f
    rcases e with rfl | rfl
    · rw [f.1]
      simp [madeCells, Value.cells, hi]
    · rw [f.2]
      simp [madeCells, Value.cells, hi, show (j * 2 + 1) % 2 = 1 by omega]
  · rw [List.getElem?_eq_none (by simp [madeCells, Value.cells]; omega), List.getElem?_eq_none (by rw [flat_len]; simp; omega)]
/-- a row of liquids while it is filled -/
def filL (l : List (Int × Int)) (k : Nat) : List (Int × Int) := l.take k ++ List.replicate (l.length - k) (0, 0)
theorem filL_len (l : List (Int × Int)) (k : Nat) (h : k ≤ l.length) : (filL l k).length = l.length := by unfold filL; simp; omega
theorem filL_zero (l : List (Int × Int)) : filL l 0 = List.replicate l.length (0, 0) := by simp [filL]
theorem filL_all (l : List (Int × Int)) : filL l l.length = l := by simp [filL]
theorem filL_set (l : List (Int × Int)) (k : Nat) (h : k < l.length) : (filL l k).set k (gX l k, gR l k) = filL l (k + 1) := by
  unfold filL
  have e : (gX l k, gR l k) = l[k] := by simp [gX, gR, List.getD_eq_getElem?_getD, List.getElem?_eq_getElem h]
  rw [e, List.set_append_right _ _ (by simp; omega), List.take_succ_eq_append_getElem h, List.append_assoc]
  obtain ⟨d, hd⟩ : ∃ d, l.length = k + 1 + d := ⟨l.length - (k + 1), by omega⟩
  rw [show l.length - k = d + 1 by omega, show l.length - (k + 1) = d by omega, List.replicate_succ, show k - (l.take k).length = 0 by simp; omega]
  simp
theorem le_sum {l : List Int} (h : ∀ x ∈ l, 0 ≤ x) : ∀ x ∈ l, x ≤ l.sum := by
  induction l with
  | nil => intro x hx; cases hx
  | cons y l ih =>
    intro x hx
    have s := sum_nonneg l fun z hz => h z (List.mem_cons_of_mem _ hz)
    have y0 := h y List.mem_cons_self
    rw [List.sum_cons]
    rcases List.mem_cons.1 hx with rfl | hx
    · omega
    · have := ih (fun z hz => h z (List.mem_cons_of_mem _ hz)) x hx; omega
theorem divP_nn {a : Int} {ws : List Int} (h : divE a ws = 0) : ∀ x ∈ divP a ws, 0 ≤ x ∧ x ≤ a := by
  obtain ⟨ha, ht⟩ := divE_zero h
  obtain ⟨a0, a1⟩ := (isAm_iff a).1 ha
  have nn : ∀ x ∈ divP a ws, 0 ≤ x := by
    intro x hx
    obtain ⟨i, hi, rfl⟩ := List.getElem_of_mem hx
    have := give_bd (divL a ws) (divQ a ws) (divR a ws) a (fun j => by
      by_cases hj : j < (divQ a ws).length
      · have hm : (divQ a ws).getD j 0 ∈ divQ a ws := by simp [List.getD_eq_getElem?_getD, List.getElem?_eq_getElem hj]
        unfold divQ at hm
        obtain ⟨y, hy, e⟩ := List.mem_map.1 hm
        have := of_weight a y ws ha ht hy
        rw [show (divQ a ws).getD j 0 = a * y / ws.sum from by unfold divQ; exact e.symm]
        exact ⟨this.2.2.2.1, this.2.2.2.2.1⟩
      · rw [List.getD_eq_getElem?_getD, List.getElem?_eq_none (by omega)]; simp; exact a0) i
    unfold divP at hi ⊢
    simp only [if_pos h] at hi ⊢
    have e : ((give (divL a ws) (divQ a ws, divR a ws)).1)[i] = (give (divL a ws) (divQ a ws, divR a ws)).1.getD i 0 := by simp [List.getD_eq_getElem?_getD, List.getElem?_eq_getElem hi]
    rw [e]; exact this.1
  intro x hx
  have s := divP_sum a ws h
  have := le_sum nn x hx
  exact ⟨nn x hx, by omega⟩
/-- the parts of a mass that is not 0 are right weights -/
theorem div_again {A M : Int} {ws : List Int} (hP : plB A M = true) (hM : M ≠ 0) (h : divE M ws = 0) : divE A (divP M ws) = 0 := by
  obtain ⟨a0, a1, m0, m1, z⟩ := plB_iff.1 hP
  obtain ⟨ha, ht⟩ := divE_zero h
  obtain ⟨t1, t2, t3, t4, t5⟩ := totE_zero ht
  have hl := divP_len _ _ h
  have hs := divP_sum M ws h
  have nn := divP_nn h
  unfold divE totE
  rw [(isAm_iff A).2 ⟨a0, by omega⟩, if_pos rfl, if_neg (by omega), if_neg (by omega), hs, show (divP M ws).all isAm = true from List.all_eq_true.2 fun x hx => (isAm_iff x).2 ⟨(nn x hx).1, by have := (nn x hx).2; omega⟩, (isAm_iff M).2 ⟨m0, m1⟩]
  simp [hM]
theorem zip_at (a b : List Int) (k : Nat) (ha : k < a.length) (hb : k < b.length) : gX (a.zip b) k = a.getD k 0 ∧ gR (a.zip b) k = b.getD k 0 := by
  have hz : k < (a.zip b).length := by rw [List.length_zip]; omega
  simp [gX, gR, List.getD_eq_getElem?_getD, List.getElem?_eq_getElem hz, List.getElem?_eq_getElem ha, List.getElem?_eq_getElem hb, List.getElem_zip]
end Go.Proofs.Ytfkcgdnpfngdkaa

/- Package mix: Divide. -/
namespace Go.Proofs.Ytfkcgdnpfngdkaa
open Go.RowKit

set_option maxHeartbeats 4000000 in
set_option maxRecDepth 100000 in
theorem mxDv_bad (A M : Int) (v : Value) (w : World) (hP : plB A M = false) :
    Calls Try.prog 15 #[.agg #[.int .i64 A, .int .i64 M], v] w fun e w' => e = .returned (.tuple #[.slice none 0 0, .int .i64 1]) ∧ Below w.heap.size w w' := by
  have HP := Lib.hid (fun W => mxPl_any A M W)
  rw [hP] at HP
  have X := Lib.hid (bel_alloc (w := w) (o := .cells #[.int .i64 A, .int .i64 M] 24) (Below.refl _ _))
  go_enter Try.func15, Try.ntmps15
  go_wp2_with fail
  refine (HP.out _).mono ?_
  rintro e w1 ⟨rfl, h1⟩
  replace X := Lib.hid (bel_trans X.out h1); clear h1
  go_wp2
  go_returns
  exact ⟨rfl, X.out⟩
set_option maxHeartbeats 4000000 in
set_option maxRecDepth 100000 in
theorem mxDv_err (A M E : Int) (v : Value) (ws : List Int) (w : World) (hv : Ins w v ws) (hP : plB A M = true) (hE : (E != 0) = true) (hd : Hid (divE M ws = E)) :
    Calls Try.prog 15 #[.agg #[.int .i64 A, .int .i64 M], v] w fun e w' => e = .returned (.tuple #[.slice none 0 0, .int .i64 E]) ∧ Below w.heap.size w w' := by
  have HP := Lib.hid (fun W => mxPl_any A M W)
  rw [hP] at HP
  have T0 := Lib.hid (Two.new w (.int .i64 A) (.int .i64 M) 24)
  have X := Lib.hid (bel_alloc (w := w) (o := .cells #[.int .i64 A, .int .i64 M] 24) (Below.refl _ _))
  have HV := Lib.hid (hv.alloc (.cells #[.int .i64 A, .int .i64 M] 24))
  have HD := Lib.hid (fun W h => divide_any M v ws W h)
  rw [hd.out] at HD
  clear hv hd
  go_enter Try.func15, Try.ntmps15
  go_wp2_with fail
  refine (HP.out _).mono ?_
  rintro e w1 ⟨rfl, h1⟩
  replace T0 := Lib.hid (T0.out.below h1)
  replace HV := Lib.hid (HV.out.below h1)
  replace X := Lib.hid (bel_trans X.out h1); clear h1
  obtain ⟨t0, t1, t2, t3, t4⟩ := T0.out
  go_wp2_with fail
  refine (HD.out _ HV.out).mono ?_
  rintro e w2 ⟨u, rfl, _, h1⟩
  replace X := Lib.hid (bel_trans X.out h1); clear h1
  go_wp2
  go_returns
  exact ⟨rfl, X.out⟩
set_option maxHeartbeats 16000000 in
set_option maxRecDepth 100000 in
theorem mxDv_good (A M : Int) (v : Value) (ws ps qs : List Int) (n : Nat) (w : World) (hv : Ins w v ws) (hP : plB A M = true) (hn : n ≤ 64) (h1 : 0 < n) (hp : Hid (ps.length = n)) (hq : Hid (qs.length = n)) (hM : (M == 0) = false)
    (HD : Hid (∀ W, Ins W v ws → Calls Try.prog 33 #[.int .i64 M, v] W fun e w' => ∃ g c, e = .returned (.tuple #[.slice (some ⟨g, 0, none⟩) n c, .int .i64 0]) ∧ Own w' W.heap.size g n c ps ∧ Below W.heap.size W w'))
    (HE : Hid (∀ a cap W, Ins W (.slice a n cap) ps → Calls Try.prog 33 #[.int .i64 A, .slice a n cap] W fun e w' => ∃ g c, e = .returned (.tuple #[.slice (some ⟨g, 0, none⟩) n c, .int .i64 0]) ∧ Own w' W.heap.size g n c qs ∧ Below W.heap.size W w')) :
    Calls Try.prog 15 #[.agg #[.int .i64 A, .int .i64 M], v] w fun e w' => ∃ u, e = .returned (.tuple #[u, .int .i64 0]) ∧ Pts w' u (qs.zip ps) ∧ Below w.heap.size w w' := by
  obtain ⟨i0, hi, hz0, hz1, hz2⟩ := info_parts lq_info
  have HP := Lib.hid (fun W => mxPl_any A M W)
  rw [hP] at HP
  have HZ : Hid ((qs.zip ps).length = n) := by show _ = _; rw [List.length_zip, hp.out, hq.out]; omega
  have HZA := Lib.hid (fun k (hk : k < n) => zip_at qs ps k (by rw [hq.out]; exact hk) (by rw [hp.out]; exact hk))
  have T0 := Lib.hid (Two.new w (.int .i64 A) (.int .i64 M) 24)
  have X := Lib.hid (bel_alloc (w := w) (o := .cells #[.int .i64 A, .int .i64 M] 24) (Below.refl _ _))
  have HV := Lib.hid (hv.alloc (.cells #[.int .i64 A, .int .i64 M] 24))
  clear hv
  generalize hL : qs.zip ps = L at *
  clear hL
  go_enter Try.func15, Try.ntmps15
  go_wp2_with fail
  refine (HP.out _).mono ?_
  rintro e w1 ⟨rfl, hb⟩
  replace T0 := Lib.hid (T0.out.below hb)
  replace HV := Lib.hid (HV.out.below hb)
  replace X := Lib.hid (bel_trans X.out hb); clear hb
  obtain ⟨t0, t1, t2, t3, t4⟩ := T0.out
  go_wp2_with fail
  refine (HD.out _ HV.out).mono ?_
  rintro e w2 ⟨g1, c1, rfl, hu, hb⟩
  have O1 := Lib.hid hu
  have y1 := O1.out.lt
  clear t0 t1 t2 t3 t4 hu
  replace T0 := Lib.hid (T0.out.below hb)
  replace X := Lib.hid (bel_trans X.out hb); clear hb
  have Z2 : w.heap.size ≤ w2.heap.size := X.out.size
  obtain ⟨t0, t1, t2, t3, t4⟩ := T0.out
  go_upto_region 7 with (at_make; refine wpList_make_full _ rfl _ _ 22 rfl w2.heap.size 24 i0 (.agg #[.int .i64 0, .int .i64 0]) 2 Try.underlying22 hi hz0 hz1 .i64 .i64 _ _ n rfl rfl (by omega) (by omega) (by rw [hz2]; omega) (by unfold maxLen; omega) (Nat.le_refl _) ?_; intro w3 ho3 hg3)
  rw [madeLq] at ho3
  have hb3 : Below w2.heap.size w2 w3 := (Below.refl _ _).grown hg3 (Nat.le_refl _) (by simp)
  have O3 : Hid (OwnL w3 w2.heap.size (.slice (some ⟨w2.heap.size, 0, none⟩) n n) (filL L 0)) := Lib.hid (by
    show OwnL _ _ _ _
    rw [filL_zero, HZ.out]
    unfold OwnL
    rw [List.length_replicate]
    exact ho3)
  have G3 : w2.heap.size < w3.heap.size := (World.ownsRow.lt ho3 _ rfl).2
  clear ho3 hg3 t0 t1 t2 t3 t4
  replace T0 := Lib.hid (T0.out.below hb3)
  replace O1 := Lib.hid (O1.out.below hb3)
  replace X := Lib.hid (bel_trans X.out hb3)
  clear hb3 hi hz0 hz1 hz2
  generalize w2.heap.size = g at *
  obtain ⟨t0, t1, t2, t3, t4⟩ := T0.out
  have HU := Lib.hid (O1.out.ins (by omega))
  go_wp2_with fail
  refine (HE.out _ _ _ HU.out).mono ?_
  rintro e w4 ⟨g2, c2, rfl, hu, hb⟩
  have O2 := Lib.hid hu
  have y2 := O2.out.lt
  clear hu t0 t1 t2 t3 t4 HU T0 HP HD HE HV
  replace O1 := Lib.hid (O1.out.below hb)
  replace X := Lib.hid (bel_trans X.out hb)
  replace O3 : Hid (OwnL w4 g (.slice (some ⟨g, 0, none⟩) n n) (filL L 0)) := Lib.hid (row_belB O3.out hb)
  clear hb
  have n1 : g ≠ g1 := by omega
  have n2 : g ≠ g2 := by omega
  have z3 : w.heap.size ≤ g := Z2
  have z4 := y1.1
  generalize w1.heap.size = B1 at *
  generalize w3.heap.size = B2 at *
  clear y1 y2 G3 Z2
  go_wp2_with fail
  go_loopw [41] (fun i wr => ∃ k : Nat, k ≤ n ∧ i = .int .i64 k ∧ Hid (Below w.heap.size w wr) ∧ Hid (Own wr B1 g1 n c1 ps) ∧ Hid (Own wr B2 g2 n c2 qs) ∧ Hid (OwnL wr g (.slice (some ⟨g, 0, none⟩) n n) (filL L k))) (fun i _ => n - (intOf i).toNat)
  case atStart => exact ⟨0, Nat.zero_le _, rfl, X, O1, O2, O3⟩
  case round =>
    clear X O1 O2 O3
    obtain ⟨k, hk, rfl, X, O1, O2, O3⟩ := hrel
    by_cases hlt : k < n
    · have l9 : (k : Int) < (n : Int) := by omega
      have p0 := O1.out.cell k hlt
      have q0 := O2.out.cell k hlt
      have hl := filL_len L k (by rw [HZ.out]; omega)
      rw [HZ.out] at hl
      obtain ⟨z0, z1, s0, s1, s2, s3, _⟩ := OwnL.cell hl O3.out hlt
      have ez := HZA.out k hlt
      have es := filL_set L k (by rw [HZ.out]; exact hlt)
      rw [ez.1, ez.2] at es
      have N3 := Lib.hid (OwnL.put hl O3.out k (qs.getD k 0) (ps.getD k 0))
      rw [es] at N3
      clear es ez hl
      generalize ps.getD k 0 = y at *
      generalize qs.getD k 0 = x at *
      have N1 := Lib.hid ((O1.out.other ⟨g, k * 2, none⟩ n1 (.int .i64 x)).other ⟨g, k * 2 + 1, none⟩ n1 (.int .i64 y))
      have N2 := Lib.hid ((O2.out.other ⟨g, k * 2, none⟩ n2 (.int .i64 x)).other ⟨g, k * 2 + 1, none⟩ n2 (.int .i64 y))
      have NX := Lib.hid ((X.out.setCell (p := ⟨g, k * 2, none⟩) z3 (.int .i64 x)).setCell (p := ⟨g, k * 2 + 1, none⟩) z3 (.int .i64 y))
      go_wp2_with fail
      go_region
      all_goals go_wp2
      all_goals go_roundw
      all_goals try (case rel => exact ⟨k + 1, by omega, by go_num, by first | exact NX | exact Lib.hid (bel_trans NX.out (bel_drew _)) | exact Lib.hid (bel_trans NX.out (bel_drewN _ _)), Lib.hid N1.out, Lib.hid N2.out, Lib.hid N3.out⟩)
      all_goals (case measure => simp [intOf]; omega)
    · obtain rfl : k = n := by omega
      have ef := filL_all L
      rw [HZ.out] at ef
      rw [ef] at O3
      go_wp2
      go_returns
      exact ⟨_, rfl, OwnL.pts (by have := O3.out; exact this), X.out⟩
set_option maxHeartbeats 8000000 in
set_option maxRecDepth 100000 in
theorem mxDv_dry (A M : Int) (v : Value) (ws ps : List Int) (n : Nat) (w : World) (hv : Ins w v ws) (hP : plB A M = true) (hn : n ≤ 64) (h1 : 0 < n) (hM : (M == 0) = true)
    (HD : Hid (∀ W, Ins W v ws → Calls Try.prog 33 #[.int .i64 M, v] W fun e w' => ∃ g c, e = .returned (.tuple #[.slice (some ⟨g, 0, none⟩) n c, .int .i64 0]) ∧ Own w' W.heap.size g n c ps ∧ Below W.heap.size W w')) :
    Calls Try.prog 15 #[.agg #[.int .i64 A, .int .i64 M], v] w fun e w' => ∃ u, e = .returned (.tuple #[u, .int .i64 0]) ∧ Pts w' u (List.replicate n (0, 0)) ∧ Below w.heap.size w w' := by
  obtain ⟨i0, hi, hz0, hz1, hz2⟩ := info_parts lq_info
  have HP := Lib.hid (fun W => mxPl_any A M W)
  rw [hP] at HP
  have T0 := Lib.hid (Two.new w (.int .i64 A) (.int .i64 M) 24)
  have X := Lib.hid (bel_alloc (w := w) (o := .cells #[.int .i64 A, .int .i64 M] 24) (Below.refl _ _))
  have HV := Lib.hid (hv.alloc (.cells #[.int .i64 A, .int .i64 M] 24))
  clear hv
  go_enter Try.func15, Try.ntmps15
  go_wp2_with fail
  refine (HP.out _).mono ?_
  rintro e w1 ⟨rfl, hb⟩
  replace T0 := Lib.hid (T0.out.below hb)
  replace HV := Lib.hid (HV.out.below hb)
  replace X := Lib.hid (bel_trans X.out hb); clear hb
  obtain ⟨t0, t1, t2, t3, t4⟩ := T0.out
  go_wp2_with fail
  refine (HD.out _ HV.out).mono ?_
  rintro e w2 ⟨g1, c1, rfl, hu, hb⟩
  clear t0 t1 t2 t3 t4 hu
  replace T0 := Lib.hid (T0.out.below hb)
  replace X := Lib.hid (bel_trans X.out hb); clear hb
  go_upto_region 7 with (at_make; refine wpList_make_full _ rfl _ _ 22 rfl w2.heap.size 24 i0 (.agg #[.int .i64 0, .int .i64 0]) 2 Try.underlying22 hi hz0 hz1 .i64 .i64 _ _ n rfl rfl (by omega) (by omega) (by rw [hz2]; omega) (by unfold maxLen; omega) (Nat.le_refl _) ?_; intro w3 ho3 hg3)
  rw [madeLq] at ho3
  have hb3 : Below w2.heap.size w2 w3 := (Below.refl _ _).grown hg3 (Nat.le_refl _) (by simp)
  have O3 : Hid (OwnL w3 w2.heap.size (.slice (some ⟨w2.heap.size, 0, none⟩) n n) (List.replicate n (0, 0))) := Lib.hid (by
    show OwnL _ _ _ _
    unfold OwnL
    rw [List.length_replicate]
    exact ho3)
  clear ho3 hg3
  replace T0 := Lib.hid (T0.out.below hb3)
  replace X := Lib.hid (bel_trans X.out hb3)
  clear hb3 hi hz0 hz1 hz2
  generalize w2.heap.size = g at *
  obtain ⟨t0, t1, t2, t3, t4⟩ := T0.out
  go_wp2
  go_returns
  exact ⟨_, rfl, OwnL.pts O3.out, X.out⟩
theorem divide_own {a : Int} {ws : List Int} (h : divE a ws = 0) {v : Value} {w : World} (hv : Ins w v ws) :
    Calls Try.prog 33 #[.int .i64 a, v] w fun e w' => ∃ g c, e = .returned (.tuple #[.slice (some ⟨g, 0, none⟩) ws.length c, .int .i64 0]) ∧ Own w' w.heap.size g ws.length c (divP a ws) ∧ Below w.heap.size w w' := by
  have hv0 := hv
  obtain ⟨ad, cap, rfl, _⟩ := hv0
  exact divide_good a ad _ cap ws w (divE_zero h).1 rfl hv (divE_zero h).2
theorem mxDv_any (A M : Int) (v : Value) (ws : List Int) (w : World) (hv : Ins w v ws) :
    Calls Try.prog 15 #[.agg #[.int .i64 A, .int .i64 M], v] w fun e w' => ∃ u, e = .returned (.tuple #[u, .int .i64 (dvE A M ws)]) ∧ Pts w' u (dvL A M ws) ∧ Below w.heap.size w w' := by
  cases hP : plB A M with
  | false =>
    have e : dvE A M ws = 1 := by unfold dvE; rw [if_pos hP]
    refine (mxDv_bad A M v w hP).mono fun _ w' g => ⟨_, by rw [e]; exact g.1, ?_, g.2⟩
    unfold dvL; rw [e]; exact pts_nil w'
  | true =>
    have e : dvE A M ws = divE M ws := by unfold dvE; rw [hP, if_neg (by simp)]
    by_cases hd : divE M ws = 0
    · obtain ⟨t1, t2, _⟩ := totE_zero (divE_zero hd).2
      have hl := divP_len _ _ hd
      by_cases hM : M = 0
      · refine (mxDv_dry A M v ws (divP M ws) ws.length w hv hP t2 t1 (by simpa using hM) (Lib.hid fun W h => divide_own hd h)).mono ?_
        rintro _ w' ⟨u, rfl, hu, hb⟩
        refine ⟨u, by rw [e, hd], ?_, hb⟩
        unfold dvL; rw [e, hd, if_neg (by simp), if_pos hM]; exact hu
      · have ha := div_again hP hM hd
        have hl2 := divP_len _ _ ha
        refine (mxDv_good A M v ws (divP M ws) (divP A (divP M ws)) ws.length w hv hP t2 t1 hl (by show _ = _; omega) (by simpa using hM) (Lib.hid fun W h => divide_own hd h) (Lib.hid fun a cap W h => by have := divide_own ha h; rw [hl] at this; exact this)).mono ?_
        rintro _ w' ⟨u, rfl, hu, hb⟩
        refine ⟨u, by rw [e, hd], ?_, hb⟩
        unfold dvL; rw [e, hd, if_neg (by simp), if_neg hM]; exact hu
    · refine (mxDv_err A M _ v ws w hv hP (by rw [bne_iff_ne]; exact hd) rfl).mono fun _ w' g => ⟨_, by rw [e]; exact g.1, ?_, g.2⟩
      unfold dvL; rw [e, if_pos hd]; exact pts_nil w'
end Go.Proofs.Ytfkcgdnpfngdkaa

/- Package mix: the example. -/
namespace Go.Proofs.Ytfkcgdnpfngdkaa
open Go.RowKit

def mxT : List (Int × Int) := [(0, 100000), (10000, 80000)]
def mxL : List (Int × Int) := [(0, 10000000), (1000000, 8000000)]
theorem mxT_dr : DR mxT := dnE_zero.1 (by decide)
theorem mx_e0 : alE mxT 0 10000000 = 0 ∧ alE mxT 1000000 8000000 = 0 ∧ alE mxT 1000000 18000000 = 0 := by decide +kernel
theorem mx_s0 : sgN mxT 0 10000000 = 0 := sgN_is mxT_dr (alE_zero.1 mx_e0.1).2 (by decide) (by decide) (by decide +kernel) (fun _ => by decide +kernel)
theorem mx_s1 : sgN mxT 1000000 8000000 = 10000 := sgN_is mxT_dr (alE_zero.1 mx_e0.2.1).2 (by decide) (by decide) (by decide +kernel) (fun h => absurd h (by decide))
theorem mx_s2 : sgN mxT 1000000 18000000 = 5000 := sgN_is mxT_dr (alE_zero.1 mx_e0.2.2).2 (by decide) (by decide) (by decide +kernel) (fun _ => by decide +kernel)
theorem mx_v0 : sgV mxT 0 10000000 = 0 ∧ vlV mxT 0 10000000 = 100 := by
  unfold sgV vlV vlN
  rw [if_pos mx_e0.1, if_pos mx_e0.1, mx_s0]
  exact ⟨rfl, by decide +kernel⟩
theorem mx_v1 : sgV mxT 1000000 8000000 = 10000 ∧ vlV mxT 1000000 8000000 = 100 := by
  unfold sgV vlV vlN
  rw [if_pos mx_e0.2.1, if_pos mx_e0.2.1, mx_s1]
  exact ⟨rfl, by decide +kernel⟩
theorem mx_v2 : sgV mxT 1000000 18000000 = 5000 ∧ vlV mxT 1000000 18000000 = 200 := by
  unfold sgV vlV vlN
  rw [if_pos mx_e0.2.2, if_pos mx_e0.2.2, mx_s2]
  exact ⟨rfl, by decide +kernel⟩
theorem mx_ri : riE mxT mxL = 0 := riE_zero.2 ⟨by decide, mxT_dr, fun j hj => by
  rcases j with _ | _ | j
  · exact (alE_zero.1 mx_e0.1).2
  · exact (alE_zero.1 mx_e0.2.1).2
  · simp [mxL] at hj; omega, by decide +kernel⟩
theorem mx_sum : sm fA mxL = 1000000 ∧ sm fM mxL = 18000000 := by decide +kernel
theorem sm_two (f : Int → Int → Int) (a b c d : Int) : sm f [(a, b), (c, d)] = f a b + (f c d + 0) := rfl
theorem loB_two (t : List (Int × Int)) (a b c d : Int) (hb : 0 < b) (hd : 0 < d) : loB t [(a, b), (c, d)] 2 = min (min 10000 (sgV t a b)) (sgV t c d) := by
  have : loB t [(a, b), (c, d)] 2 = if 0 < d then min (if 0 < b then min 10000 (sgV t a b) else 10000) (sgV t c d) else (if 0 < b then min 10000 (sgV t a b) else 10000) := rfl
  rw [this, if_pos hd, if_pos hb]
theorem hiB_two (t : List (Int × Int)) (a b c d : Int) (hb : 0 < b) (hd : 0 < d) : hiB t [(a, b), (c, d)] 2 = max (max 0 (sgV t a b)) (sgV t c d) := by
  have : hiB t [(a, b), (c, d)] 2 = if 0 < d then max (if 0 < b then max 0 (sgV t a b) else 0) (sgV t c d) else (if 0 < b then max 0 (sgV t a b) else 0) := rfl
  rw [this, if_pos hd, if_pos hb]
theorem mx_co : coV mxT mxL = 0 := by
  unfold coV
  rw [if_pos mx_ri, mx_sum.1, mx_sum.2, mx_v2.2]
  rw [show sm (vlV mxT) mxL = _ from sm_two (vlV mxT) 0 10000000 1000000 8000000, mx_v0.2, mx_v1.2]; decide
theorem mx_be : beE mxT mxL = 0 ∧ beL mxT mxL = 0 ∧ beH mxT mxL = 10000 ∧ beS mxT mxL = 5000 := by
  have e : beE mxT mxL = 0 := by unfold beE; rw [mx_ri, mx_sum.2]; rfl
  refine ⟨e, ?_, ?_, ?_⟩
  · unfold beL
    rw [if_pos e]
    rw [show loB mxT mxL mxL.length = _ from loB_two mxT 0 10000000 1000000 8000000 (by decide) (by decide), mx_v0.1, mx_v1.1]; decide
  · unfold beH
    rw [if_pos e]
    rw [show hiB mxT mxL mxL.length = _ from hiB_two mxT 0 10000000 1000000 8000000 (by decide) (by decide), mx_v0.1, mx_v1.1]; decide
  · unfold beS
    rw [if_pos e, mx_sum.1, mx_sum.2, mx_v2.1]
theorem mx_dr : drE 1000 300 100 = 0 ∧ drA 1000 300 100 = 333 ∧ drM 1000 300 100 = 100 ∧ rsA 1000 300 100 = 667 ∧ rsM 1000 300 100 = 200 := by decide +kernel
theorem mx_dv : dvE 1000 300 [1, 2] = 0 ∧ dvL 1000 300 [1, 2] = [(333, 100), (667, 200)] := by decide +kernel
theorem pts_litT (T : TypeId) (w : World) (l : List (Int × Int)) (cs : List Value) (h : cs = flat l) (hn : l.length ≤ 1000) :
    Pts (w.alloc (.cells cs.toArray T)) (.slice (some ⟨w.heap.size, 0, none⟩) l.length l.length) l := by
  refine ⟨_, _, rfl, by omega, .inr ⟨w.heap.size, 0, rfl, by simp, fun j hj => ?_⟩⟩
  subst h
  have hf := flat_at l j hj
  have hl := flat_len l
  rw [World.cell?_alloc_new, World.cell?_alloc_new]
  simp only [Nat.zero_add]
  exact ⟨by simpa using hf.1, by simpa using hf.2⟩
set_option maxHeartbeats 32000000 in
set_option maxRecDepth 100000 in
theorem awakeM_any (w : World) : Calls Try.prog 10 #[] w fun e w' => e = .returned (.bool true) ∧ Below w.heap.size w w' := by
  have P0 := Lib.hid (pts_litT 53 w mxT (flat mxT) rfl (by decide))
  have HB : Hid (Below w.heap.size w (w.alloc (.cells (flat mxT).toArray 53))) := Lib.hid (bel_alloc (Below.refl _ _))
  have C1 := Lib.hid (fun W => mxDr_any 1000 300 100 W)
  rw [mx_dr.1, mx_dr.2.1, mx_dr.2.2.1, mx_dr.2.2.2.1, mx_dr.2.2.2.2] at C1
  have C2 := Lib.hid (fun v W h => mxDv_any 1000 300 v [1, 2] W h)
  rw [mx_dv.1, mx_dv.2] at C2
  have C3 := Lib.hid (fun v u W h g => mxCo_any v u mxT mxL W h g)
  rw [mx_ri, mx_co] at C3
  have C4 := Lib.hid (fun v u W h g => mxBe_any v u mxT mxL W h g)
  rw [mx_be.1, mx_be.2.1, mx_be.2.2.1, mx_be.2.2.2] at C4
  have q1 : ∀ W, (binOp .eql 24 (.agg #[.int .i64 333, .int .i64 100]) (.agg #[.int .i64 333, .int .i64 100])).run Try.prog W = .ok (.bool true) W := fun W => by rw [run_eql_liq]; rfl
  have q2 : ∀ W, (binOp .eql 24 (.agg #[.int .i64 667, .int .i64 200]) (.agg #[.int .i64 667, .int .i64 200])).run Try.prog W = .ok (.bool true) W := fun W => by rw [run_eql_liq]; rfl
  have q3 : ∀ W, (binOp .eql 41 (.agg #[.int .i64 0, .int .i64 10000]) (.agg #[.int .i64 0, .int .i64 10000])).run Try.prog W = .ok (.bool true) W := fun W => by rw [run_eql_bounds]; rfl
  go_enter Try.func10, Try.ntmps10
  go_wp2_with fail
  refine (C1.out _).mono ?_
  rintro e w1 ⟨rfl, h1⟩
  have oA : Obj := .cells #[.int .i64 333, .int .i64 100] 24
  replace P0 := Lib.hid (((P0.out.below h1).alloc (.cells #[.int .i64 333, .int .i64 100] 24)).alloc (.cells #[.int .i64 667, .int .i64 200] 24))
  replace HB := Lib.hid (bel_trans (bel_trans HB.out h1) (bel_alloc (bel_alloc (Below.refl _ ((w1.alloc (.cells #[.int .i64 333, .int .i64 100] 24)).alloc (.cells #[.int .i64 667, .int .i64 200] 24))))))
  have T1 := Lib.hid ((Two.new w1 (.int .i64 333) (.int .i64 100) 24).alloc (.cells #[.int .i64 667, .int .i64 200] 24))
  have T2 := Lib.hid (two_new1 w1 (.cells #[.int .i64 333, .int .i64 100] 24) (.int .i64 667) (.int .i64 200) 24)
  clear h1 oA
  go_upto_region 3 with fail
  generalize (w1.alloc (.cells #[.int .i64 333, .int .i64 100] 24)).alloc (.cells #[.int .i64 667, .int .i64 200] 24) = W1 at *
  generalize w1.heap.size = g1 at *
  have I2 := Lib.hid (ins_lit W1 [1, 2] [.int .i64 1, .int .i64 2] rfl (by decide))
  go_wp2_with fail
  refine (C2.out _ _ I2.out).mono ?_
  rintro e w2 ⟨u, rfl, hu, h1⟩
  have U := Lib.hid hu
  clear hu I2
  replace h1 := bel_alloc h1
  replace P0 := Lib.hid (P0.out.below h1)
  replace T1 := Lib.hid (T1.out.below h1)
  replace T2 := Lib.hid (T2.out.below h1)
  replace HB := Lib.hid (bel_trans HB.out h1)
  clear h1
  have L0 := Lib.hid (pts_litT 24 w2 mxL (flat mxL) rfl (by decide))
  replace P0 := Lib.hid (P0.out.alloc (.cells (flat mxL).toArray 24))
  replace T1 := Lib.hid (T1.out.alloc (.cells (flat mxL).toArray 24))
  replace T2 := Lib.hid (T2.out.alloc (.cells (flat mxL).toArray 24))
  replace U := Lib.hid (U.out.alloc (.cells (flat mxL).toArray 24))
  replace HB := Lib.hid (bel_trans HB.out (bel_alloc (Below.refl _ (w2.alloc (.cells (flat mxL).toArray 24)))))
  go_wp2_with fail
  refine (C3.out _ _ _ P0.out L0.out).mono ?_
  rintro e w3 ⟨rfl, h1⟩
  replace P0 := Lib.hid (P0.out.below h1)
  replace L0 := Lib.hid (L0.out.below h1)
  replace U := Lib.hid (U.out.below h1)
  replace T1 := Lib.hid (T1.out.below h1)
  replace T2 := Lib.hid (T2.out.below h1)
  replace HB := Lib.hid (bel_trans HB.out h1)
  clear h1
  go_wp2_with fail
  refine (C4.out _ _ _ P0.out L0.out).mono ?_
  rintro e w4 ⟨rfl, h1⟩
  have B9 := Lib.hid (Two.new w4 (.int .i64 0) (.int .i64 10000) 41)
  replace U := Lib.hid ((U.out.below h1).alloc (.cells #[.int .i64 0, .int .i64 10000] 41))
  replace T1 := Lib.hid ((T1.out.below h1).alloc (.cells #[.int .i64 0, .int .i64 10000] 41))
  replace T2 := Lib.hid ((T2.out.below h1).alloc (.cells #[.int .i64 0, .int .i64 10000] 41))
  replace HB := Lib.hid (bel_trans (bel_trans HB.out h1) (bel_alloc (Below.refl _ (w4.alloc (.cells #[.int .i64 0, .int .i64 10000] 41)))))
  clear h1 P0 L0 C1 C2 C3 C4
  go_upto_region 7 with fail
  generalize w4.alloc (.cells #[.int .i64 0, .int .i64 10000] 41) = W4 at *
  generalize w4.heap.size = g4 at *
  obtain ⟨x0, x1, _, _, _⟩ := T1.out
  obtain ⟨y0, y1, _, _, _⟩ := T2.out
  obtain ⟨z0, z1, _, _, _⟩ := B9.out
  obtain ⟨ua, uc, rfl, huc, huh⟩ := U.out
  obtain ⟨ub, uo, rfl, hub, huh⟩ : ∃ b off, ua = some ⟨b, off, none⟩ ∧ b < W4.heap.size ∧ ∀ j, j < 2 → W4.cell? ⟨b, off + j * 2, none⟩ = some (.int .i64 (gX [(333, 100), (667, 200)] j)) ∧ W4.cell? ⟨b, off + j * 2 + 1, none⟩ = some (.int .i64 (gR [(333, 100), (667, 200)] j)) := by
    rcases huh with h | h
    · cases h
    · exact h
  obtain ⟨v0, v1⟩ := huh 1 (by omega)
  have v2 : W4.cell? ⟨ub, uo + 2, none⟩ = some (.int .i64 667) := v0
  have v3 : W4.cell? ⟨ub, uo + 2 + 1, none⟩ = some (.int .i64 200) := v1
  have v4 : W4.cell? ⟨ub, uo + 3, none⟩ = some (.int .i64 200) := v1
  have v5 : W4.cell? ⟨ub, uo + 1 * 2, none⟩ = some (.int .i64 667) := v0
  have v6 : W4.cell? ⟨ub, uo + 1 * 2 + 1, none⟩ = some (.int .i64 200) := v1
  clear huh v0 v1
  go_quiet (fail)
  go_wp2
  go_returns
  exact ⟨rfl, by first | exact HB.out | exact bel_trans HB.out (bel_drewN _ _)⟩
end Go.Proofs.Ytfkcgdnpfngdkaa

/- How arguments are opened: slices of points. -/
namespace Go.Proofs.Ytfkcgdnpfngdkaa
open Go.ChangeShapes Go.WideShapes Go.ChangeAt Go.RowKit Go.Joins

theorem own : ownKnob Try.prog.godebug = none := by kernel_rfl
theorem laidOut : laidOutB Try.prog = true := by kernel_rfl
theorem wf_bd {n : Int} (h : (Lit.int .i64 n).wf = true) : -9223372036854775808 ≤ n ∧ n ≤ 9223372036854775807 := by
  have := bounds_i64 h
  omega
set_option maxRecDepth 100000 in
theorem open_pts_at {H : Type} {enc : TypeId × Value → H} {w : World} {base fuel : Nat} {spare : Nat → Bool} {held : Bool} {v : Value} {y : DataW H × List MemPlace} (hs : ∀ k, spare k = true)
    (hf : DataW.trod enc Try.prog w base spare held fuel 36 [v] = some y) :
    ∃ l : List (Int × Int), Pts w v l := by
  rcases Deep.open_slice_pairs Try.underlying36 Try.underlying53 (by kernel_rfl) rfl rfl (by kernel_rfl) (by kernel_rfl) hf with ⟨hcs, _⟩ | ⟨x, len0, cap0, m, n, V0, V1, D0, D1, P0, P1, hcs, _, hl, hm, hmm, _, hi⟩
  · simp only [List.cons.injEq, and_true] at hcs
    subst hcs
    exact ⟨[], none, 0, rfl, ⟨by simp, by omega⟩, .inl rfl⟩
  · simp only [List.cons.injEq, and_true] at hcs
    subst hcs
    unfold maxLen at hm
    rw [hs] at hmm
    simp only [if_true] at hmm
    subst hmm
    have hint : ∀ i, i < len0 → ∃ q : Int × Int, w.cell? (x.add (i * 2)) = some (.int .i64 q.1) ∧ w.cell? (x.add (i * 2 + 1)) = some (.int .i64 q.2) := by
      intro i hlt
      obtain ⟨h0, h1, h2, h3⟩ := hi i (by omega)
      obtain ⟨a, ea, _, _⟩ := DataW.trod_int (k := .i64) Try.underlying3 h2
      obtain ⟨b, eb, _, _⟩ := DataW.trod_int (k := .i64) Try.underlying3 h3
      simp only [List.cons.injEq, and_true] at ea eb
      exact ⟨(a, b), by rw [h0, ea], by rw [h1, eb]⟩
    let f : Nat → Int × Int := fun i => if hlt : i < len0 then (hint i hlt).choose else (0, 0)
    have hf2 : ∀ i, i < len0 → w.cell? (x.add (i * 2)) = some (.int .i64 (f i).1) ∧ w.cell? (x.add (i * 2 + 1)) = some (.int .i64 (f i).2) := by
      intro i hlt
      have := (hint i hlt).choose_spec
      simp only [f, dif_pos hlt]
      exact this
    have hlen : ((List.range len0).map f).length = len0 := by simp
    refine ⟨(List.range len0).map f, some x, m, by rw [hlen], by rw [hlen]; omega, ?_⟩
    rw [hlen]
    by_cases h0 : len0 = 0
    · exact .inl h0
    · right
      obtain ⟨b, off, spot⟩ := x
      have hspot : spot = none := by simpa [Addr.add] using World.cell?_spot (hf2 0 (by omega)).1
      subst hspot
      have hb := World.block_lt_of_cell? w _ (hf2 0 (by omega)).1
      refine ⟨b, off, rfl, by simpa [Addr.add] using hb, fun j hj => ?_⟩
      obtain ⟨g0, g1⟩ := hf2 j hj
      rw [Go.WideShapes.add_plain] at g0 g1
      unfold gX gR
      rw [List.getD_eq_getElem?_getD, List.getElem?_map, List.getElem?_range hj]
      exact ⟨g0, by rw [Nat.add_assoc]; exact g1⟩
set_option maxRecDepth 100000 in
theorem open_pts {H : Type} {enc : TypeId × Value → H} {w : World} {r : Reach} {b0 : Nat} {v : Value} {d : DataW H} {p : List MemPlace}
    (hv : Value.okWide Try.prog w r b0 36 v) (h : DataW.Trod enc Try.prog w 0 (fun _ => true) true 36 v d p) :
    ∃ l : List (Int × Int), Pts w v l := by
  obtain ⟨a0, len0, cap0, rfl⟩ := okWide_slice Try.underlying36 hv
  obtain ⟨fuel, hf⟩ := h
  exact open_pts_at (fun _ => rfl) hf
end Go.Proofs.Ytfkcgdnpfngdkaa

/- Package alcohol: the example. -/
namespace Go.Proofs.Ytfkcgdnpfngdkaa
open Go.RowKit

def alX : List (Int × Int) := [(0, 99820), (5000, 93016), (10000, 78924)]
theorem alX_dr : DR alX := dnE_zero.1 (by decide)
theorem alX_of : ofA alX 1000 4000 = 4000000 ∧ ofM alX 1000 4000 = 94377000 ∧ aofE alX 1000 4000 = 0 := by decide +kernel
theorem alX_e : alE alX 4000000 94377000 = 0 ∧ alE alX 4000000 100000000 = 0 := by decide +kernel
theorem alX_s1 : sgN alX 4000000 94377000 = 4000 := sgN_is alX_dr (alE_zero.1 alX_e.1).2 (by decide) (by decide) (by decide +kernel) (fun _ => by decide +kernel)
theorem alX_s2 : sgN alX 4000000 100000000 = 3786 := sgN_is alX_dr (alE_zero.1 alX_e.2).2 (by decide) (by decide) (by decide +kernel) (fun _ => by decide +kernel)
theorem alX_1 : sgV alX 4000000 94377000 = 4000 ∧ vlV alX 4000000 94377000 = 1000 ∧ meE alX 4000000 94377000 = 0 := by
  unfold sgV vlV meE vlN
  rw [if_pos alX_e.1, if_pos alX_e.1, if_pos alX_e.1, alX_s1]
  exact ⟨rfl, by decide +kernel, rfl⟩
theorem alX_2 : sgV alX 4000000 100000000 = 3786 ∧ vlV alX 4000000 100000000 = 1056 ∧ meE alX 4000000 100000000 = 0 := by
  unfold sgV vlV meE vlN
  rw [if_pos alX_e.2, if_pos alX_e.2, if_pos alX_e.2, alX_s2]
  exact ⟨rfl, by decide +kernel, rfl⟩
end Go.Proofs.Ytfkcgdnpfngdkaa

/- Layer 16: Few. -/
namespace Go.Proofs.Ytfkcgdnpfngdkaa
open Go.RowKit

def fwB (n : Nat) : Bool := decide (n ≤ 20) || (decide (128 < n) && decide (n ≤ 133))
theorem few_any (v : Value) (l : List (Int × Int)) (w : World) (hv : Pts w v l) :
    Calls Try.prog 18 #[v] w fun e w' => e = .returned (.bool (fwB l.length)) ∧ w' = w := by
  obtain ⟨a, cap, rfl, h1, h2⟩ := hv.shape
  by_cases q0 : l.length ≤ 20
  · go_enter Try.func18, Try.ntmps18
    go_wp2
    go_ret
    exact ⟨ret_bool (by simp [fwB, q0]), rfl⟩
  · by_cases q1 : 128 < l.length
    · go_enter Try.func18, Try.ntmps18
      go_wp2
      go_ret
      exact ⟨ret_bool (by rw [Bool.eq_iff_iff]; simp [fwB]; omega), rfl⟩
    · go_enter Try.func18, Try.ntmps18
      go_wp2
      go_ret
      exact ⟨ret_bool (by rw [Bool.eq_iff_iff]; simp [fwB]; omega), rfl⟩
theorem sam_eq {l m : List (Int × Int)} (hl : l.length = m.length) (h : ∀ j, j < l.length → samP (gX l j) (gR l j) (gX m j) (gR m j) = true) : l = m := by
  apply List.ext_getElem hl
  intro i h1 h2
  have := h i h1
  simp only [samP, Bool.and_eq_true, beq_iff_eq, gX, gR, List.getD_eq_getElem?_getD, List.getElem?_eq_getElem h1, List.getElem?_eq_getElem h2, Option.getD_some] at this
  exact Prod.ext this.1 this.2
end Go.Proofs.Ytfkcgdnpfngdkaa

/- The reference of layer 8: Same. -/
namespace Go.Proofs.Ytfkcgdnpfngdkaa
open Go.RowKit

end Go.Proofs.Ytfkcgdnpfngdkaa

/- How the arguments of a statement of layer 20 are opened. -/
namespace Go.Proofs.Ytfkcgdnpfngdkaa
open Go.ChangeShapes Go.WideShapes Go.ChangeAt Go.RowKit Go.Joins

set_option maxRecDepth 100000 in
theorem open_liq {H : Type} {enc : TypeId × Value → H} {w : World} {r : Reach} {b0 base : Nat} {spare : Nat → Bool} {held : Bool} {v : Value} {d : DataW H} {p : List MemPlace}
    (hv : Value.okWide Try.prog w r b0 24 v) (h : DataW.Trod enc Try.prog w base spare held 24 v d p) :
    ∃ k a : Int, v = .agg #[.int .i64 k, .int .i64 a] ∧ (-9223372036854775808 ≤ k ∧ k ≤ 9223372036854775807) ∧ (-9223372036854775808 ≤ a ∧ a ≤ 9223372036854775807) := by
  obtain ⟨v0, v1, y0, y1, n, rfl, _, _, h0, h1⟩ := open_agg2 Try.underlying24 (by kernel_rfl) (by kernel_rfl) hv h
  obtain ⟨a, ea, _, wa⟩ := DataW.trod_int (k := .i64) Try.underlying3 h0
  obtain ⟨b, eb, _, wb⟩ := DataW.trod_int (k := .i64) Try.underlying3 h1
  simp only [List.cons.injEq, and_true] at ea eb
  subst ea eb
  exact ⟨a, b, rfl, wf_bd wa, wf_bd wb⟩
end Go.Proofs.Ytfkcgdnpfngdkaa

/- How the arguments of a statement of layer 21 are opened. -/
namespace Go.Proofs.Ytfkcgdnpfngdkaa
open Go.ChangeShapes Go.WideShapes Go.ChangeAt Go.RowKit Go.Joins

set_option maxRecDepth 100000 in
theorem open_lqs_at {H : Type} {enc : TypeId × Value → H} {w : World} {base fuel : Nat} {spare : Nat → Bool} {held : Bool} {v : Value} {y : DataW H × List MemPlace} (hs : ∀ k, spare k = true)
    (hf : DataW.trod enc Try.prog w base spare held fuel 22 [v] = some y) :
    ∃ l : List (Int × Int), Pts w v l := by
  rcases Deep.open_slice_pairs Try.underlying22 Try.underlying24 (by kernel_rfl) rfl rfl (by kernel_rfl) (by kernel_rfl) hf with ⟨hcs, _⟩ | ⟨x, len0, cap0, m, n, V0, V1, D0, D1, P0, P1, hcs, _, hl, hm, hmm, _, hi⟩
  · simp only [List.cons.injEq, and_true] at hcs
    subst hcs
    exact ⟨[], none, 0, rfl, ⟨by simp, by omega⟩, .inl rfl⟩
  · simp only [List.cons.injEq, and_true] at hcs
    subst hcs
    unfold maxLen at hm
    rw [hs] at hmm
    simp only [if_true] at hmm
    subst hmm
    have hint : ∀ i, i < len0 → ∃ q : Int × Int, w.cell? (x.add (i * 2)) = some (.int .i64 q.1) ∧ w.cell? (x.add (i * 2 + 1)) = some (.int .i64 q.2) := by
      intro i hlt
      obtain ⟨h0, h1, h2, h3⟩ := hi i (by omega)
      obtain ⟨a, ea, _, _⟩ := DataW.trod_int (k := .i64) Try.underlying3 h2
      obtain ⟨b, eb, _, _⟩ := DataW.trod_int (k := .i64) Try.underlying3 h3
      simp only [List.cons.injEq, and_true] at ea eb
      exact ⟨(a, b), by rw [h0, ea], by rw [h1, eb]⟩
    let f : Nat → Int × Int := fun i => if hlt : i < len0 then (hint i hlt).choose else (0, 0)
    have hf2 : ∀ i, i < len0 → w.cell? (x.add (i * 2)) = some (.int .i64 (f i).1) ∧ w.cell? (x.add (i * 2 + 1)) = some (.int .i64 (f i).2) := by
      intro i hlt
      have := (hint i hlt).choose_spec
      simp only [f, dif_pos hlt]
      exact this
    have hlen : ((List.range len0).map f).length = len0 := by simp
    refine ⟨(List.range len0).map f, some x, m, by rw [hlen], by rw [hlen]; omega, ?_⟩
    rw [hlen]
    by_cases h0 : len0 = 0
    · exact .inl h0
    · right
      obtain ⟨b, off, spot⟩ := x
      have hspot : spot = none := by simpa [Addr.add] using World.cell?_spot (hf2 0 (by omega)).1
      subst hspot
      have hb := World.block_lt_of_cell? w _ (hf2 0 (by omega)).1
      refine ⟨b, off, rfl, by simpa [Addr.add] using hb, fun j hj => ?_⟩
      obtain ⟨g0, g1⟩ := hf2 j hj
      rw [Go.WideShapes.add_plain] at g0 g1
      unfold gX gR
      rw [List.getD_eq_getElem?_getD, List.getElem?_map, List.getElem?_range hj]
      exact ⟨g0, by rw [Nat.add_assoc]; exact g1⟩
set_option maxRecDepth 100000 in
theorem open_lqs {H : Type} {enc : TypeId × Value → H} {w : World} {r : Reach} {b0 : Nat} {v : Value} {d : DataW H} {p : List MemPlace}
    (hv : Value.okWide Try.prog w r b0 22 v) (h : DataW.Trod enc Try.prog w 0 (fun _ => true) true 22 v d p) :
    ∃ l : List (Int × Int), Pts w v l := by
  obtain ⟨a0, len0, cap0, rfl⟩ := okWide_slice Try.underlying22 hv
  obtain ⟨fuel, hf⟩ := h
  exact open_lqs_at (fun _ => rfl) hf
/-- a slice of integers -/
theorem open_intSlice {H : Type} {enc : TypeId × Value → H} {P : Program} {w : World} {r : Reach} {b0 : Nat} {t e : TypeId} {v : Value} {d : DataW H} {p : List MemPlace}
    (ht : P.underlying t = some (.slice e)) (he : P.underlying e = some (.int .i64)) (hC : P.cellsOf e = 1)
    (hv : Value.okWide P w r b0 t v) (h : DataW.Trod enc P w 0 (fun _ => true) true t v d p) :
    ∃ zs : List Int, Ins w v zs ∧ ∀ z ∈ zs, (Lit.int .i64 z).wf = true := by
  obtain ⟨a0, len0, cap0, rfl⟩ := okWide_slice ht hv
  obtain ⟨fuel, hf⟩ := h
  rcases open_ints ht he hC hf with ⟨hcs, _⟩ | ⟨x, l, c, zs, hcs, _, hl, hm, hz, _, hcell, hwz⟩
  · simp [Value.cells] at hcs
    obtain ⟨rfl, rfl, rfl⟩ := hcs
    exact ⟨[], ⟨none, 0, rfl, by simp, .inl rfl⟩, by simp⟩
  · simp [Value.cells] at hcs
    obtain ⟨rfl, rfl, rfl⟩ := hcs
    simp only [if_true] at hz
    unfold maxLen at hm
    refine ⟨zs.take len0, ⟨some x, cap0, by rw [List.length_take, Nat.min_eq_left (by omega)], by rw [List.length_take]; omega, ?_⟩, fun z hz => hwz z (List.mem_of_mem_take hz)⟩
    by_cases h0 : len0 = 0
    · left; rw [List.length_take]; omega
    · right
      obtain ⟨b, off, rfl, hc⟩ := ints_at hcell (by omega)
      have := hc 0 (by omega)
      refine ⟨b, off, rfl, World.block_lt_of_cell? w _ this, fun j hj => ?_⟩
      rw [List.length_take] at hj
      rw [hc j (by omega)]
      congr 2
      simp only [List.getD_eq_getElem?_getD, List.getElem?_take]
      rw [if_pos (by omega)]

end Go.Proofs.Ytfkcgdnpfngdkaa
