/- The reference of layer 6: bounds. -/
import Derived.Test.YtigmpbipbkgnfabRRef
namespace Go.Proofs.Ytigmpbipbkgnfab
open Go.RowKit

set_option maxHeartbeats 2000000 in
theorem refBounds_any (r y : Int) (w : World) (h : hfB r y = true) :
    Calls Try.prog 27 #[.int .i64 r, .int .i64 y] w fun e w' => e = .returned (.agg #[.int .i64 (hcL r y), .int .i64 (hcH r y)]) ∧ Below w.heap.size w w' := by
  obtain ⟨⟨h0, h1⟩, y0, y1⟩ := (hfB_iff r y).1 h
  obtain ⟨⟨s0, s1⟩, t0, t1⟩ := hf_sq r y h
  by_cases hy : r < y ∨ y < -r
  · have e1 : hcL r y = 0 := by unfold hcL; rw [if_pos hy]
    have e2 : hcH r y = 0 := by unfold hcH; rw [if_pos hy]
    rw [e1, e2]
    have hy2 : r < y ∨ (y ≤ r ∧ y < -r) := by omega
    clear hy e1 e2
    rcases hy2 with hy | ⟨hy, hy2⟩
    all_goals
      go_enter Try.func27, Try.ntmps27
      go_wp2
      refine bodyPost_ret (v := .agg #[.int .i64 0, .int .i64 0]) (by simp [results, Try.results27, go_sem]) rfl ?_
      exact ⟨rfl, bel_alloc (Below.refl _ _)⟩
  · have e1 : hcL r y = rt (r * r - y * y) := by unfold hcL; rw [if_neg hy]
    have e2 : hcH r y = ce (r * r - y * y) := by unfold hcH; rw [if_neg hy]
    rw [e1, e2]
    have hq := sq_abs hy
    have HF := Lib.hid (fun W => refFloor_any (r * r - y * y) W hq (by omega))
    have HC := Lib.hid (fun W => refCeil_any (r * r - y * y) W hq (by omega))
    have hy1 : y ≤ r := by omega
    have hy2 : -r ≤ y := by omega
    generalize rt (r * r - y * y) = F at *
    generalize ce (r * r - y * y) = C at *
    clear e1 e2 hy h
    have T0 := Lib.hid (Two.new w (.int .i64 0) (.int .i64 0) 30)
    go_enter Try.func27, Try.ntmps27
    go_wp2_with fail
    refine (HF.out _).mono ?_
    rintro e w1 ⟨rfl, rfl⟩
    go_wp2_with fail
    refine (HC.out _).mono ?_
    rintro e w2 ⟨rfl, rfl⟩
    go_wp2
    refine bodyPost_ret (v := .agg #[.int .i64 F, .int .i64 C]) (by simp [results, Try.results27, go_sem]) rfl ?_
    exact ⟨rfl, bel_alloc (Below.refl _ _)⟩

set_option maxHeartbeats 2000000 in
theorem refHalf_any (r y : Int) (w : World) :
    Calls Try.prog 19 #[.int .i64 r, .int .i64 y] w fun e w' => e = .returned (.tuple #[.agg #[.int .i64 (hfL r y), .int .i64 (hfH r y)], .int .i64 (hfE r y)]) ∧ Below w.heap.size w w' := by
  cases h : hfB r y with
  | true =>
    have e1 : hfL r y = hcL r y := by unfold hfL; rw [if_pos h]
    have e2 : hfH r y = hcH r y := by unfold hfH; rw [if_pos h]
    have e3 : hfE r y = 0 := by unfold hfE; rw [if_pos h]
    rw [e1, e2, e3]
    have HB := Lib.hid (fun W => refBounds_any r y W h)
    obtain ⟨⟨h0, h1⟩, y0, y1⟩ := (hfB_iff r y).1 h
    generalize hcL r y = F at *
    generalize hcH r y = C at *
    clear e1 e2 e3 h
    have T0 := Lib.hid (Two.new w (.int .i64 0) (.int .i64 0) 30)
    go_enter Try.func19, Try.ntmps19
    go_wp2_with fail
    refine (HB.out _).mono ?_
    rintro e w1 ⟨rfl, gg⟩
    replace T0 := Lib.hid (T0.out.below gg)
    have X1 := Lib.hid (bel_alloc gg); clear gg
    obtain ⟨r0, r1, f0, f1, _⟩ := T0.out
    go_wp2
    obtain ⟨t0, t1⟩ := two_read _ w.heap.size (.int .i64 F) (.int .i64 C) r0 r1
    refine bodyPost_ret (v := .tuple #[.agg #[.int .i64 F, .int .i64 C], .int .i64 0]) (by simp [results, Try.results19, go_sem, t0, t1]) rfl ?_
    exact ⟨rfl, (X1.out.setCell (Nat.le_refl _) _).setCell (Nat.le_refl _) _⟩
  | false =>
    have hn : r < 0 ∨ (0 ≤ r ∧ 100000 < r) ∨ ((0 ≤ r ∧ r ≤ 100000) ∧ y < -100000) ∨ ((0 ≤ r ∧ r ≤ 100000) ∧ -100000 ≤ y ∧ 100000 < y) := by
      have : ¬ ((0 ≤ r ∧ r ≤ 100000) ∧ -100000 ≤ y ∧ y ≤ 100000) := fun hc => by rw [(hfB_iff r y).2 hc] at h; cases h
      omega
    have e1 : hfL r y = 0 := by unfold hfL; rw [if_neg (by rw [h]; simp)]
    have e2 : hfH r y = 0 := by unfold hfH; rw [if_neg (by rw [h]; simp)]
    have e3 : hfE r y = 2 := by unfold hfE; rw [if_neg (by rw [h]; simp)]
    rw [e1, e2, e3]
    clear e1 e2 e3 h
    rcases hn with hn | ⟨hn, hn2⟩ | ⟨⟨hn, hn2⟩, hn3⟩ | ⟨⟨hn, hn2⟩, hn3, hn4⟩
    all_goals
      go_enter Try.func19, Try.ntmps19
      go_wp2
      refine bodyPost_ret (v := .tuple #[.agg #[.int .i64 0, .int .i64 0], .int .i64 2]) (by simp [results, Try.results19, go_sem]) rfl ?_
      exact ⟨rfl, bel_alloc (Below.refl _ _)⟩

set_option maxHeartbeats 2000000 in
theorem refChord_any (r y : Int) (w : World) :
    Calls Try.prog 21 #[.int .i64 r, .int .i64 y] w fun e w' => e = .returned (.tuple #[.agg #[.int .i64 (2 * hfL r y), .int .i64 (2 * hfH r y)], .int .i64 (hfE r y)]) ∧ Below w.heap.size w w' := by
  have HB := Lib.hid (fun W => refHalf_any r y W)
  have hb : (0 ≤ hfL r y ∧ hfL r y ≤ 100000) ∧ 0 ≤ hfH r y ∧ hfH r y ≤ 100000 := by
    cases h : hfB r y with
    | true => have := hf_bd r y h; have := ((hfB_iff r y).1 h).1; omega
    | false =>
      have e1 : hfL r y = 0 := by unfold hfL; rw [if_neg (by rw [h]; simp)]
      have e2 : hfH r y = 0 := by unfold hfH; rw [if_neg (by rw [h]; simp)]
      omega
  generalize hfL r y = F at *
  generalize hfH r y = C at *
  generalize hfE r y = E at *
  obtain ⟨⟨b0, b1⟩, b2, b3⟩ := hb
  have T0 := Lib.hid (Two.new w (.int .i64 0) (.int .i64 0) 30)
  go_enter Try.func21, Try.ntmps21
  go_wp2_with fail
  refine (HB.out _).mono ?_
  rintro e w1 ⟨rfl, gg⟩
  replace T0 := Lib.hid ((T0.out.below gg).alloc (.cells #[.int .i64 F, .int .i64 C] 30))
  have X1 := Lib.hid (bel_trans (bel_alloc gg) (bel_alloc (Below.refl (w1.alloc (.cells #[.int .i64 F, .int .i64 C] 30)).heap.size _))); clear gg
  obtain ⟨r0, r1, f0, f1, hlt⟩ := T0.out
  go_wp2
  obtain ⟨t0, t1⟩ := two_read _ w.heap.size (.int .i64 (2 * F)) (.int .i64 (2 * C)) r0 r1
  refine bodyPost_ret (v := .tuple #[.agg #[.int .i64 (2 * F), .int .i64 (2 * C)], .int .i64 E]) (by simp [results, Try.results21, go_sem, t0, t1]) rfl ?_
  exact ⟨rfl, (X1.out.setCell (Nat.le_refl _) _).setCell (Nat.le_refl _) _⟩
end Go.Proofs.Ytigmpbipbkgnfab
