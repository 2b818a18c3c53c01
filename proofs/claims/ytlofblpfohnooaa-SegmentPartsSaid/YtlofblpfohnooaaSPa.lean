/- Package segment: lengths, heights, chords of a circle. -/
import Derived.Test.YtlofblpfohnooaaSChd
import Derived.Test.YtlofblpfohnooaaSRefA
import Derived.FnLit
namespace Go.Proofs.Ytlofblpfohnooaa
open Go.RowKit

theorem isLen_any (n : Int) (w : World) :
    Calls Try.prog 32 #[.int .i64 n] w fun e w' => e = .returned (.bool (lenB n)) ∧ w = w' := by
  go_enter Try.func32, Try.ntmps32
  go_wp2
  all_goals go_ret
  all_goals (refine ⟨ret_bool ?_, rfl⟩; unfold lenB; grind)
theorem isHt_any (n : Int) (w : World) :
    Calls Try.prog 24 #[.int .i64 n] w fun e w' => e = .returned (.bool (hB n)) ∧ w = w' := by
  go_enter Try.func24, Try.ntmps24
  go_wp2
  all_goals go_ret
  all_goals (refine ⟨ret_bool ?_, rfl⟩; unfold hB; grind)
theorem isRt_any (r c : Int) (w : World) :
    Calls Try.prog 27 #[.agg #[.int .i64 r, .int .i64 c]] w fun e w' => e = .returned (.bool (lenB r && lenB c)) ∧ Below w.heap.size w w' := by
  have H1 := Lib.hid (fun W => isLen_any r W)
  have H2 := Lib.hid (fun W => isLen_any c W)
  generalize lenB r = x at *
  generalize lenB c = y at *
  cases x with
  | true =>
    go_enter Try.func27, Try.ntmps27
    go_wp2_with fail
    refine (H1.out _).mono ?_
    rintro e w1 ⟨rfl, hw⟩
    subst hw
    go_wp2_with fail
    refine (H2.out _).mono ?_
    rintro e w1 ⟨rfl, hw⟩
    subst hw
    go_wp2
    go_returns
    exact ⟨rfl, bel_alloc (Below.refl _ _)⟩
  | false =>
    go_enter Try.func27, Try.ntmps27
    go_wp2_with fail
    refine (H1.out _).mono ?_
    rintro e w1 ⟨rfl, hw⟩
    subst hw
    go_wp2
    go_returns
    exact ⟨rfl, bel_alloc (Below.refl _ _)⟩

/-- a distance that lies above what root allows has no chord -/
theorem hf_min (r d : Int) (h0 : 0 ≤ r) (h1 : r ≤ 100000) (d0 : -100000 ≤ d) : hfL r (min d 100000) = hcL r d ∧ hfH r (min d 100000) = hcH r d := by
  have hb : hfB r (min d 100000) = true := (hfB_iff _ _).2 ⟨⟨h0, h1⟩, by omega, by omega⟩
  unfold hfL hfH
  rw [if_pos hb, if_pos hb]
  by_cases hd : d ≤ 100000
  · rw [show min d 100000 = d by omega]; exact ⟨rfl, rfl⟩
  · rw [show min d 100000 = 100000 by omega]
    have e1 : hcL r d = 0 := by unfold hcL; rw [if_pos (by omega)]
    have e2 : hcH r d = 0 := by unfold hcH; rw [if_pos (by omega)]
    rw [e1, e2]
    by_cases hr : r < 100000
    · unfold hcL hcH
      rw [if_pos (by omega), if_pos (by omega)]
      exact ⟨rfl, rfl⟩
    · obtain rfl : r = 100000 := by omega
      have z1 : rt 0 = 0 := rt_sq 0 (by omega)
      have z2 : ce 0 = 0 := ce_sq 0 (by omega)
      unfold hcL hcH
      rw [if_neg (by omega), if_neg (by omega), show (100000 : Int) * 100000 - 100000 * 100000 = 0 by decide, z1, z2]
      exact ⟨rfl, rfl⟩

set_option maxHeartbeats 2000000 in
theorem cChord_any (r c y : Int) (w : World) (h0 : 0 ≤ r) (h1 : r ≤ 100000) (c0 : 0 ≤ c) (c1 : c ≤ 100000) (y0 : 0 ≤ y) (y1 : y ≤ 200000) :
    Calls Try.prog 35 #[.agg #[.int .i64 r, .int .i64 c], .int .i64 y] w fun e w' => e = .returned (.agg #[.int .i64 (2 * hcL r (y - c)), .int .i64 (2 * hcH r (y - c))]) ∧ Below w.heap.size w w' := by
  have HC := Lib.hid (fun W => chord_any r (min (y - c) 100000) W)
  obtain ⟨m1, m2⟩ := hf_min r (y - c) h0 h1 (by omega)
  rw [m1, m2] at HC
  clear m1 m2
  generalize hcL r (y - c) = F at *
  generalize hcH r (y - c) = C at *
  generalize hfE r (min (y - c) 100000) = E at *
  have T0 : Hid (Two (w.heap.size + 1) ((w.alloc (.cells #[.int .i64 r, .int .i64 c] 48)).alloc (.cells #[.int .i64 0, .int .i64 0] 33)) (.int .i64 0) (.int .i64 0)) := by
    have := Two.new (w.alloc (.cells #[.int .i64 r, .int .i64 c] 48)) (.int .i64 0) (.int .i64 0) 33
    rwa [World.size_alloc] at this
  go_enter Try.func35, Try.ntmps35
  go_wp2_with fail
  refine (HC.out _).mono ?_
  rintro e w1 ⟨rfl, gg⟩
  replace T0 := Lib.hid ((T0.out.below gg).alloc (.cells #[.int .i64 (2 * F), .int .i64 (2 * C)] 33))
  have X1 := Lib.hid (bel_trans (bel_alloc (bel_alloc gg)) (bel_alloc (Below.refl (w1.alloc (.cells #[.int .i64 (2 * F), .int .i64 (2 * C)] 33)).heap.size _))); clear gg
  obtain ⟨r0, r1, f0, f1, hlt⟩ := T0.out
  go_wp2
  obtain ⟨t0, t1⟩ := two_read _ (w.heap.size + 1) (.int .i64 (2 * F)) (.int .i64 (2 * C)) r0 r1
  refine bodyPost_ret (v := .agg #[.int .i64 (2 * F), .int .i64 (2 * C)]) (by simp [results, Try.results35, go_sem, t0, t1]) rfl ?_
  exact ⟨rfl, (X1.out.setCell (p := ⟨w.heap.size + 1, 0, none⟩) (Nat.le_succ _) _).setCell (p := ⟨w.heap.size + 1, 1, none⟩) (Nat.le_succ _) _⟩

set_option maxHeartbeats 2000000 in
/-- the method value's function: bounds are added in place -/
theorem add_any (b : Nat) (pL pH oL oH : Int) (w : World) (h : Two b w (.int .i64 pL) (.int .i64 pH)) (a0 : 0 ≤ pL) (a1 : pL ≤ 4000000000000) (b0 : 0 ≤ pH) (b1 : pH ≤ 4000000000000) (c0 : 0 ≤ oL) (c1 : oL ≤ 4000000000000) (d0 : 0 ≤ oH) (d1 : oH ≤ 4000000000000) :
    Calls Try.prog 28 #[.pointer (some ⟨b, 0, none⟩), .agg #[.int .i64 oL, .int .i64 oH]] w fun e w' => e = .returned (.tuple #[]) ∧ ∃ w2, Below w.heap.size w w2 ∧ w' = (w2.setCell ⟨b, 0, none⟩ (.int .i64 (pL + oL))).setCell ⟨b, 1, none⟩ (.int .i64 (pH + oH)) := by
  obtain ⟨z0, z1, f0, f1, hb⟩ := h
  have hne : b ≠ w.heap.size := by omega
  have hne2 : w.heap.size ≠ b := by omega
  have wl : IntKind.i64.wrap (pL + oL) = pL + oL := wrap_in _ ⟨by omega, by omega⟩
  have wh : IntKind.i64.wrap (pH + oH) = pH + oH := wrap_in _ ⟨by omega, by omega⟩
  have HW : Hid (((((w.setCell ⟨b, 0, none⟩ (.int .i64 (pL + oL))).setCell ⟨b, 1, none⟩ (.int .i64 (pH + oH))).alloc (.cells #[.int .i64 oL, .int .i64 oH] 33)).drew.drew) = (((w.alloc (.cells #[.int .i64 oL, .int .i64 oH] 33)).drew.drew).setCell ⟨b, 0, none⟩ (.int .i64 (pL + oL))).setCell ⟨b, 1, none⟩ (.int .i64 (pH + oH))) := by
    show _ = (((w.alloc _).setCell ⟨b, 0, none⟩ _).setCell ⟨b, 1, none⟩ _).drew.drew
    rw [World.setCell_alloc_past _ _ _ _ hb, World.setCell_alloc_past _ _ _ _ (by simpa [World.setCell] using hb)]
  go_enter Try.func28, Try.ntmps28
  go_wp2_with fail
  go_region
  all_goals go_wp2_with fail
  all_goals go_region
  all_goals go_wp2
  all_goals go_end0
  all_goals exact ⟨rfl, _, bel_alloc (bel_trans (bel_drew _) (bel_drew _)), HW.out⟩
end Go.Proofs.Ytlofblpfohnooaa
