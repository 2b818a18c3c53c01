/- Package root: half chords, chords. -/
import Derived.Test.YtlofblpfohnooaaRT
import Derived.BigQuiet
import Derived.Deep.RegionWith
namespace Go.Proofs.Ytlofblpfohnooaa
open Go.RowKit

theorem field_low (a b : Int) (w : World) : (Instr.field 33 (.agg #[.int .i64 a, .int .i64 b]) 0).run Try.prog w = .ok (.int .i64 a) w := by kernel_rfl
theorem field_high (a b : Int) (w : World) : (Instr.field 33 (.agg #[.int .i64 a, .int .i64 b]) 1).run Try.prog w = .ok (.int .i64 b) w := by kernel_rfl

theorem hf_not {r y : Int} (h : hfB r y = false) : r < 0 ∨ (0 ≤ r ∧ 100000 < r) ∨ ((0 ≤ r ∧ r ≤ 100000) ∧ y < -100000) ∨ ((0 ≤ r ∧ r ≤ 100000) ∧ -100000 ≤ y ∧ 100000 < y) := by
  have : ¬ ((0 ≤ r ∧ r ≤ 100000) ∧ -100000 ≤ y ∧ y ≤ 100000) := fun hc => by rw [(hfB_iff r y).2 hc] at h; cases h
  omega
set_option maxHeartbeats 2000000 in
theorem half_any (r y : Int) (w : World) :
    Calls Try.prog 40 #[.int .i64 r, .int .i64 y] w fun e w' => e = .returned (.tuple #[.agg #[.int .i64 (hfL r y), .int .i64 (hfH r y)], .int .i64 (hfE r y)]) ∧ Below w.heap.size w w' := by
  have T0 := Lib.hid (Two.new w (.int .i64 0) (.int .i64 0) 33)
  cases h : hfB r y with
  | true =>
    obtain ⟨⟨h0, h1⟩, h2, h3⟩ := (hfB_iff r y).1 h
    have e3 : hfE r y = 0 := by unfold hfE; rw [if_pos h]
    by_cases hy : r < max y (-y)
    · have ho : r < y ∨ y < -r := by omega
      obtain ⟨e1, e2⟩ := hf_out r y ho
      rw [e1, e2, e3]
      clear e1 e2 e3 h ho
      go_enter Try.func40, Try.ntmps40
      go_wp2
      refine bodyPost_ret (v := .tuple #[.agg #[.int .i64 0, .int .i64 0], .int .i64 0]) (by simp [results, Try.results40, go_sem]) rfl ?_
      exact ⟨rfl, bel_alloc (Below.refl _ _)⟩
    · have ho : ¬ (r < y ∨ y < -r) := by omega
      have e1 : hfL r y = rt (r * r - y * y) := by unfold hfL hcL; rw [if_pos h, if_neg ho]
      have e2 : hfH r y = ce (r * r - y * y) := by unfold hfH hcH; rw [if_pos h, if_neg ho]
      obtain ⟨⟨p0, p1⟩, q0, q1⟩ := hf_sq r y h
      have hs := sq_abs ho
      have HB := Lib.hid (fun W => between_any (r * r - y * y) W hs (by omega))
      rw [e1, e2, e3]
      generalize rt (r * r - y * y) = F at *
      generalize ce (r * r - y * y) = C at *
      clear e1 e2 e3 h ho
      go_enter Try.func40, Try.ntmps40
      go_wp2_with fail
      refine (HB.out _).mono ?_
      rintro e w1 ⟨rfl, gg⟩
      replace T0 := Lib.hid (T0.out.below gg)
      have X1 := Lib.hid (bel_alloc gg); clear gg
      obtain ⟨r0, r1, f0, f1, hlt⟩ := T0.out
      go_wp2
      obtain ⟨t0, t1⟩ := two_read _ w.heap.size (.int .i64 F) (.int .i64 C) r0 r1
      refine bodyPost_ret (v := .tuple #[.agg #[.int .i64 F, .int .i64 C], .int .i64 0]) (by simp [results, Try.results40, go_sem, t0, t1]) rfl ?_
      exact ⟨rfl, (X1.out.setCell (Nat.le_refl _) _).setCell (Nat.le_refl _) _⟩
  | false =>
    have hn := hf_not h
    have e1 : hfL r y = 0 := by unfold hfL; rw [if_neg (by rw [h]; simp)]
    have e2 : hfH r y = 0 := by unfold hfH; rw [if_neg (by rw [h]; simp)]
    have e3 : hfE r y = 2 := by unfold hfE; rw [if_neg (by rw [h]; simp)]
    rw [e1, e2, e3]
    clear e1 e2 e3 h
    rcases hn with hn | ⟨hn, hn2⟩ | ⟨⟨hn, hn2⟩, hn3⟩ | ⟨⟨hn, hn2⟩, hn3, hn4⟩
    all_goals
      go_enter Try.func40, Try.ntmps40
      go_wp2
      refine bodyPost_ret (v := .tuple #[.agg #[.int .i64 0, .int .i64 0], .int .i64 2]) (by simp [results, Try.results40, go_sem]) rfl ?_
      exact ⟨rfl, bel_alloc (Below.refl _ _)⟩

set_option maxHeartbeats 2000000 in
theorem chord_any (r y : Int) (w : World) :
    Calls Try.prog 38 #[.int .i64 r, .int .i64 y] w fun e w' => e = .returned (.tuple #[.agg #[.int .i64 (2 * hfL r y), .int .i64 (2 * hfH r y)], .int .i64 (hfE r y)]) ∧ Below w.heap.size w w' := by
  have HB := Lib.hid (fun W => half_any r y W)
  have hb : (0 ≤ hfL r y ∧ hfL r y ≤ 100000) ∧ 0 ≤ hfH r y ∧ hfH r y ≤ 100000 := by
    cases h : hfB r y with
    | true => have := hf_bd r y h; have := ((hfB_iff r y).1 h).1; omega
    | false =>
      have e1 : hfL r y = 0 := by unfold hfL; rw [if_neg (by rw [h]; simp)]
      have e2 : hfH r y = 0 := by unfold hfH; rw [if_neg (by rw [h]; simp)]
      omega
  generalize hfL r y = F at *
  generalize hfH r y = C at *
  generalize hfE r y = E at *
  obtain ⟨⟨b0, b1⟩, b2, b3⟩ := hb
  have T0 := Lib.hid (Two.new w (.int .i64 0) (.int .i64 0) 33)
  go_enter Try.func38, Try.ntmps38
  go_wp2_with fail
  refine (HB.out _).mono ?_
  rintro e w1 ⟨rfl, gg⟩
  replace T0 := Lib.hid ((T0.out.below gg).alloc (.cells #[.int .i64 F, .int .i64 C] 33))
  have X1 := Lib.hid (bel_trans (bel_alloc gg) (bel_alloc (Below.refl (w1.alloc (.cells #[.int .i64 F, .int .i64 C] 33)).heap.size _))); clear gg
  obtain ⟨r0, r1, f0, f1, hlt⟩ := T0.out
  go_wp2
  obtain ⟨t0, t1⟩ := two_read _ w.heap.size (.int .i64 (2 * F)) (.int .i64 (2 * C)) r0 r1
  refine bodyPost_ret (v := .tuple #[.agg #[.int .i64 (2 * F), .int .i64 (2 * C)], .int .i64 E]) (by simp [results, Try.results38, go_sem, t0, t1]) rfl ?_
  exact ⟨rfl, (X1.out.setCell (Nat.le_refl _) _).setCell (Nat.le_refl _) _⟩
end Go.Proofs.Ytlofblpfohnooaa
