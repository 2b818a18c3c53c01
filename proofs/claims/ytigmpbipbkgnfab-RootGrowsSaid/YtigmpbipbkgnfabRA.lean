/- The statements about layer 6: the examples of the chapter hold. -/
import Derived.Test.YtigmpbipbkgnfabRV
namespace Go.Proofs.Ytigmpbipbkgnfab
open Go.RowKit

theorem ex_10 : dnQ 10 = 3 ∧ upR 10 = 4 ∧ rnE 10 = 0 ∧ sqB 10 = false := by
  have h : rt 10 = 3 := rt_of (by decide) (by decide) (by decide)
  have hc : ce 10 = 4 := by unfold ce; rw [h]; decide
  have hb : rnB 10 = true := by decide
  unfold dnQ upR rnE sqB
  rw [hb, h, hc]; decide
theorem ex_16 : sqB 16 = true := by
  have h : rt 16 = 4 := rt_of (by decide) (by decide) (by decide)
  have hc : ce 16 = 4 := by unfold ce; rw [h]; decide
  have hb : rnB 16 = true := by decide
  unfold sqB
  rw [hb, h, hc]; decide
theorem ex_half : hfL 5 (-3) = 4 ∧ hfH 5 (-3) = 4 ∧ hfE 5 (-3) = 0 := by
  have h : rt 16 = 4 := rt_of (by decide) (by decide) (by decide)
  have hc : ce 16 = 4 := by unfold ce; rw [h]; decide
  have hb : hfB 5 (-3) = true := by decide
  unfold hfL hfH hfE hcL hcH
  rw [hb, show (5 : Int) * 5 - -3 * -3 = 16 by decide, h, hc]; decide
theorem ex_chord : hfL 5 2 = 4 ∧ hfH 5 2 = 5 ∧ hfE 5 2 = 0 := by
  have h : rt 21 = 4 := rt_of (by decide) (by decide) (by decide)
  have hc : ce 21 = 5 := by unfold ce; rw [h]; decide
  have hb : hfB 5 2 = true := by decide
  unfold hfL hfH hfE hcL hcH
  rw [hb, show (5 : Int) * 5 - 2 * 2 = 21 by decide, h, hc]; decide
theorem ex_fold : fdQ 2 100 = 141 ∧ fdE 2 100 = 0 := by
  have h : rt 20000 = 141 := rt_of (by decide) (by decide) (by decide)
  have hb : fdB 2 100 = true := by decide
  unfold fdQ fdE
  rw [hb, show (2 : Int) * 100 * 100 = 20000 by decide, h]; decide

set_option maxRecDepth 100000 in
set_option maxHeartbeats 2000000 in
theorem awake_any (w : World) : Calls Try.prog 9 #[] w fun e w' => e = .returned (.bool true) ∧ Below w.heap.size w w' := by
  have HD := Lib.hid (fun W => down_any 10 W)
  have HU := Lib.hid (fun W => up_any 10 W)
  have HH := Lib.hid (fun W => half_any 5 (-3) W)
  have HC := Lib.hid (fun W => chord_any 5 2 W)
  have HF := Lib.hid (fun W => fold_any 2 100 W)
  have HS := Lib.hid (fun W => square_any 16 W)
  have HT := Lib.hid (fun W => square_any 10 W)
  rw [ex_10.1, ex_10.2.2.1] at HD
  rw [ex_10.2.1, ex_10.2.2.1] at HU
  rw [ex_half.1, ex_half.2.1, ex_half.2.2] at HH
  rw [ex_chord.1, ex_chord.2.1, ex_chord.2.2] at HC
  rw [ex_fold.1, ex_fold.2] at HF
  rw [ex_16] at HS
  rw [ex_10.2.2.2] at HT
  have Q1 : ∀ W, (binOp .eql 30 (.agg #[.int .i64 4, .int .i64 4]) (.agg #[.int .i64 4, .int .i64 4])).run Try.prog W = .ok (.bool true) W := fun W => by rw [run_eql_bounds]; rfl
  have Q2 : ∀ W, (binOp .eql 30 (.agg #[.int .i64 8, .int .i64 10]) (.agg #[.int .i64 8, .int .i64 10])).run Try.prog W = .ok (.bool true) W := fun W => by rw [run_eql_bounds]; rfl
  go_enter Try.func9, Try.ntmps9
  go_wp2_with fail
  refine (HD.out _).mono ?_
  rintro e w1 ⟨rfl, h1⟩
  have HB := Lib.hid h1; clear h1
  go_wp2_with fail
  refine (HU.out _).mono ?_
  rintro e w2 ⟨rfl, h1⟩
  replace HB := Lib.hid (bel_trans HB.out h1); clear h1
  go_wp2_with fail
  refine (HH.out _).mono ?_
  rintro e w3 ⟨rfl, h1⟩
  replace HB := Lib.hid ((bel_trans HB.out h1).alloc (bel_trans HB.out h1).size (.cells #[.int .i64 4, .int .i64 4] 30)); clear h1
  have T1 := Lib.hid (Two.new w3 (.int .i64 4) (.int .i64 4) 30)
  go_wp2_with fail
  refine (HC.out _).mono ?_
  rintro e w4 ⟨rfl, h1⟩
  replace T1 := Lib.hid ((T1.out.below h1).alloc (.cells #[.int .i64 8, .int .i64 10] 30))
  replace HB := Lib.hid ((bel_trans HB.out h1).alloc (bel_trans HB.out h1).size (.cells #[.int .i64 8, .int .i64 10] 30)); clear h1
  have T2 := Lib.hid (Two.new w4 (.int .i64 8) (.int .i64 10) 30)
  go_wp2_with fail
  refine (HF.out _).mono ?_
  rintro e w5 ⟨rfl, h1⟩
  replace T1 := Lib.hid (T1.out.below h1)
  replace T2 := Lib.hid (T2.out.below h1)
  replace HB := Lib.hid (bel_trans HB.out h1); clear h1
  obtain ⟨a0, a1, _, _, _⟩ := T1.out
  obtain ⟨b0, b1, _, _, _⟩ := T2.out
  go_wp2_with fail
  refine (HS.out _).mono ?_
  rintro e w6 ⟨rfl, h1⟩
  replace HB := Lib.hid (bel_trans HB.out h1); clear h1
  go_wp2_with fail
  refine (HT.out _).mono ?_
  rintro e w7 ⟨rfl, h1⟩
  replace HB := Lib.hid (bel_trans HB.out h1); clear h1
  go_wp2
  go_returns
  exact ⟨rfl, HB.out⟩
end Go.Proofs.Ytigmpbipbkgnfab
