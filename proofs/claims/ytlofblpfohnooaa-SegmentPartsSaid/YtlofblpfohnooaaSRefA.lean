/- The reference of layers 6 and 7: roots, half chords, chords, strips. -/
import Derived.Test.YtlofblpfohnooaaTwo
import Derived.Test.YtlofblpfohnooaaRS
import Derived.Test.YtlofblpfohnooaaSM
import Derived.Deep.RegionWith
namespace Go.Proofs.Ytlofblpfohnooaa
open Go.RowKit

set_option maxHeartbeats 1000000 in
theorem refFloor_any (n : Int) (w : World) (h0 : 0 ≤ n) (h1 : n < 4611686018427387904) :
    Calls Try.prog 41 #[.int .i64 n] w fun e w' => e = .returned (.int .i64 (rt n)) ∧ w = w' := by
  have H0 := Lib.hid (RBit.start n h0 h1)
  go_enter Try.func41, Try.ntmps41
  go_wp2_with fail
  go_loopw [3, 4] (fun qq bb wr => ∃ (q bit : Int) (k : Nat), qq = .int .i64 q ∧ bb = .int .i64 bit ∧ w = wr ∧ Hid (RBit n q bit k)) (fun _ bb _ => (intOf bb).toNat)
  case atStart => exact ⟨0, 1073741824, 31, rfl, rfl, rfl, H0⟩
  case round =>
    obtain ⟨q, bit, k, rfl, rfl, rfl, H⟩ := hrel
    by_cases hb : 0 < bit
    · obtain ⟨q0, q1, p0, p1⟩ := H.out.bd hb
      have hb2 : bit ≤ 2147483647 := by omega
      by_cases hq : (q + bit) * (q + bit) ≤ n
      · obtain ⟨j, _, hj⟩ := H.out.up hb hq
        have HJ := Lib.hid hj
        clear hj
        go_wp2
        go_roundw
        case rel => exact ⟨q + bit, bit / 2, j, rfl, rfl, by first | rfl | trivial, HJ⟩
        case measure => simp [intOf]; omega
      · obtain ⟨j, _, hj⟩ := H.out.keep hb (by omega)
        have HJ := Lib.hid hj
        clear hj
        go_wp2
        go_roundw
        case rel => exact ⟨q, bit / 2, j, rfl, rfl, by first | rfl | trivial, HJ⟩
        case measure => simp [intOf]; omega
    · have hs := H.out.stop (by omega)
      clear H H0
      go_wp2
      go_returns
      exact ⟨by first | rfl | exact ret_int hs.symm, rfl⟩
theorem refCeil_any (n : Int) (w : World) (h0 : 0 ≤ n) (h1 : n ≤ 1125899906842624) :
    Calls Try.prog 42 #[.int .i64 n] w fun e w' => e = .returned (.int .i64 (ce n)) ∧ w = w' := by
  obtain ⟨⟨a0, a1⟩, _, a2, _⟩ := rn_facts n ((rnB_iff n).2 ⟨h0, h1⟩)
  have a3 : 0 ≤ rt n * rt n := Int.mul_nonneg a0 a0
  have HF := Lib.hid (fun W => refFloor_any n W h0 (by omega))
  have HC : Hid (ce n = if rt n * rt n < n then rt n + 1 else rt n) := rfl
  generalize ce n = C at *
  generalize rt n = r at *
  by_cases h : r * r < n
  · have hc := HC.out
    rw [if_pos h] at hc
    subst hc
    clear HC
    go_enter Try.func42, Try.ntmps42
    go_wp2_with fail
    refine (HF.out _).mono ?_
    rintro e w1 ⟨rfl, rfl⟩
    go_wp2
    go_returns
    exact ⟨rfl, rfl⟩
  · have hc := HC.out
    rw [if_neg h] at hc
    subst hc
    clear HC
    go_enter Try.func42, Try.ntmps42
    go_wp2_with fail
    refine (HF.out _).mono ?_
    rintro e w1 ⟨rfl, rfl⟩
    go_wp2
    go_returns
    exact ⟨rfl, rfl⟩
theorem refBounds_any (r y : Int) (w : World) (h0 : 0 ≤ r) (h1 : r ≤ 100000) (y0 : -200000 ≤ y) (y1 : y ≤ 200000) :
    Calls Try.prog 39 #[.int .i64 r, .int .i64 y] w fun e w' => e = .returned (.agg #[.int .i64 (hcL r y), .int .i64 (hcH r y)]) ∧ Below w.heap.size w w' := by
  have s0 : 0 ≤ r * r := Int.mul_nonneg h0 h0
  have s1 : r * r ≤ 10000000000 := by have := sq_mono h0 h1; omega
  have t0 : 0 ≤ y * y := by
    by_cases hy : 0 ≤ y
    · exact Int.mul_nonneg hy hy
    · rw [← Int.neg_mul_neg]; exact Int.mul_nonneg (by omega) (by omega)
  have t1 : y * y ≤ 40000000000 := by
    by_cases hy : 0 ≤ y
    · have := sq_mono hy y1; omega
    · have := sq_mono (show 0 ≤ -y by omega) (show -y ≤ 200000 by omega); rw [Int.neg_mul_neg] at this; omega
  by_cases hy : r < y ∨ y < -r
  · have e1 : hcL r y = 0 := by unfold hcL; rw [if_pos hy]
    have e2 : hcH r y = 0 := by unfold hcH; rw [if_pos hy]
    rw [e1, e2]
    have hy2 : r < y ∨ (y ≤ r ∧ y < -r) := by omega
    clear hy e1 e2
    rcases hy2 with hy | ⟨hy, hy2⟩
    all_goals
      go_enter Try.func39, Try.ntmps39
      go_wp2
      refine bodyPost_ret (v := .agg #[.int .i64 0, .int .i64 0]) (by simp [results, Try.results39, go_sem]) rfl ?_
      exact ⟨rfl, bel_alloc (Below.refl _ _)⟩
  · have e1 : hcL r y = rt (r * r - y * y) := by unfold hcL; rw [if_neg hy]
    have e2 : hcH r y = ce (r * r - y * y) := by unfold hcH; rw [if_neg hy]
    rw [e1, e2]
    have hq := sq_abs hy
    have HF := Lib.hid (fun W => refFloor_any (r * r - y * y) W hq (by omega))
    have HC := Lib.hid (fun W => refCeil_any (r * r - y * y) W hq (by omega))
    have hy1 : y ≤ r := by omega
    have hy2 : -r ≤ y := by omega
    generalize rt (r * r - y * y) = F at *
    generalize ce (r * r - y * y) = C at *
    clear e1 e2 hy
    have T0 := Lib.hid (Two.new w (.int .i64 0) (.int .i64 0) 33)
    go_enter Try.func39, Try.ntmps39
    go_wp2_with fail
    refine (HF.out _).mono ?_
    rintro e w1 ⟨rfl, rfl⟩
    go_wp2_with fail
    refine (HC.out _).mono ?_
    rintro e w2 ⟨rfl, rfl⟩
    go_wp2
    refine bodyPost_ret (v := .agg #[.int .i64 F, .int .i64 C]) (by simp [results, Try.results39, go_sem]) rfl ?_
    exact ⟨rfl, bel_alloc (Below.refl _ _)⟩


def lenB (n : Int) : Bool := decide (0 ≤ n) && decide (n ≤ 100000)
theorem lenB_iff (n : Int) : lenB n = true ↔ 0 ≤ n ∧ n ≤ 100000 := by simp [lenB]
theorem refLen_any (n : Int) (w : World) :
    Calls Try.prog 30 #[.int .i64 n] w fun e w' => e = .returned (.bool (lenB n)) ∧ w = w' := by
  go_enter Try.func30, Try.ntmps30
  go_wp2
  all_goals go_ret
  all_goals (refine ⟨ret_bool ?_, rfl⟩; unfold lenB; grind)

theorem refChd_any (r c y : Int) (w : World) (h0 : 0 ≤ r) (h1 : r ≤ 100000) (c0 : 0 ≤ c) (c1 : c ≤ 100000) (y0 : 0 ≤ y) (y1 : y ≤ 200000) :
    Calls Try.prog 36 #[.int .i64 r, .int .i64 c, .int .i64 y] w fun e w' => e = .returned (.agg #[.int .i64 (2 * hcL r (y - c)), .int .i64 (2 * hcH r (y - c))]) ∧ Below w.heap.size w w' := by
  have HB := Lib.hid (fun W => refBounds_any r (y - c) W h0 h1 (by omega) (by omega))
  have b := hc_le r (y - c) h0
  generalize hcL r (y - c) = F at *
  generalize hcH r (y - c) = C at *
  obtain ⟨b0, b1, b2⟩ := b
  have b3 : C ≤ 100000 := by omega
  have T0 := Lib.hid (Two.new w (.int .i64 0) (.int .i64 0) 33)
  go_enter Try.func36, Try.ntmps36
  go_wp2_with fail
  refine (HB.out _).mono ?_
  rintro e w1 ⟨rfl, gg⟩
  replace T0 := Lib.hid ((T0.out.below gg).alloc (.cells #[.int .i64 F, .int .i64 C] 33))
  have X1 := Lib.hid (bel_trans (bel_alloc gg) (bel_alloc (Below.refl (w1.alloc (.cells #[.int .i64 F, .int .i64 C] 33)).heap.size _))); clear gg
  obtain ⟨r0, r1, f0, f1, hlt⟩ := T0.out
  go_wp2
  obtain ⟨t0, t1⟩ := two_read _ w.heap.size (.int .i64 (2 * F)) (.int .i64 (2 * C)) r0 r1
  refine bodyPost_ret (v := .agg #[.int .i64 (2 * F), .int .i64 (2 * C)]) (by simp [results, Try.results36, go_sem, t0, t1]) rfl ?_
  exact ⟨rfl, (X1.out.setCell (Nat.le_refl _) _).setCell (Nat.le_refl _) _⟩
end Go.Proofs.Ytlofblpfohnooaa
