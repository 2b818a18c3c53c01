/- The reference of layer 6. -/
import Derived.Test.YtigmpbipbkgnfabTwo
import Derived.Test.YtigmpbipbkgnfabRS
namespace Go.Proofs.Ytigmpbipbkgnfab
open Go.RowKit

set_option maxHeartbeats 1000000 in
theorem refFloor_any (n : Int) (w : World) (h0 : 0 ≤ n) (h1 : n < 4611686018427387904) :
    Calls Try.prog 23 #[.int .i64 n] w fun e w' => e = .returned (.int .i64 (rt n)) ∧ w = w' := by
  have H0 := Lib.hid (RBit.start n h0 h1)
  go_enter Try.func23, Try.ntmps23
  go_wp2_with fail
  go_loopw [3, 4] (fun qq bb wr => ∃ (q bit : Int) (k : Nat), qq = .int .i64 q ∧ bb = .int .i64 bit ∧ w = wr ∧ Hid (RBit n q bit k)) (fun _ bb _ => (intOf bb).toNat)
  case atStart => exact ⟨0, 1073741824, 31, rfl, rfl, rfl, H0⟩
  case round =>
    obtain ⟨q, bit, k, rfl, rfl, rfl, H⟩ := hrel
    by_cases hb : 0 < bit
    · obtain ⟨q0, q1, p0, p1⟩ := H.out.bd hb
      have hb2 : bit ≤ 2147483647 := by omega
      by_cases hq : (q + bit) * (q + bit) ≤ n
      · obtain ⟨j, _, hj⟩ := H.out.up hb hq
        have HJ := Lib.hid hj
        clear hj
        go_wp2
        go_roundw
        case rel => exact ⟨q + bit, bit / 2, j, rfl, rfl, by first | rfl | trivial, HJ⟩
        case measure => simp [intOf]; omega
      · obtain ⟨j, _, hj⟩ := H.out.keep hb (by omega)
        have HJ := Lib.hid hj
        clear hj
        go_wp2
        go_roundw
        case rel => exact ⟨q, bit / 2, j, rfl, rfl, by first | rfl | trivial, HJ⟩
        case measure => simp [intOf]; omega
    · have hs := H.out.stop (by omega)
      clear H H0
      go_wp2
      go_returns
      exact ⟨by first | rfl | exact ret_int hs.symm, rfl⟩
theorem refCeil_any (n : Int) (w : World) (h0 : 0 ≤ n) (h1 : n ≤ 1125899906842624) :
    Calls Try.prog 24 #[.int .i64 n] w fun e w' => e = .returned (.int .i64 (ce n)) ∧ w = w' := by
  obtain ⟨⟨a0, a1⟩, _, a2, _⟩ := rn_facts n ((rnB_iff n).2 ⟨h0, h1⟩)
  have a3 : 0 ≤ rt n * rt n := Int.mul_nonneg a0 a0
  have HF := Lib.hid (fun W => refFloor_any n W h0 (by omega))
  have HC : Hid (ce n = if rt n * rt n < n then rt n + 1 else rt n) := rfl
  generalize ce n = C at *
  generalize rt n = r at *
  by_cases h : r * r < n
  · have hc := HC.out
    rw [if_pos h] at hc
    subst hc
    clear HC
    go_enter Try.func24, Try.ntmps24
    go_wp2_with fail
    refine (HF.out _).mono ?_
    rintro e w1 ⟨rfl, rfl⟩
    go_wp2
    go_returns
    exact ⟨rfl, rfl⟩
  · have hc := HC.out
    rw [if_neg h] at hc
    subst hc
    clear HC
    go_enter Try.func24, Try.ntmps24
    go_wp2_with fail
    refine (HF.out _).mono ?_
    rintro e w1 ⟨rfl, rfl⟩
    go_wp2
    go_returns
    exact ⟨rfl, rfl⟩
theorem refDown_any (n : Int) (w : World) :
    Calls Try.prog 11 #[.int .i64 n] w fun e w' => e = .returned (.tuple #[.int .i64 (dnQ n), .int .i64 (rnE n)]) ∧ w = w' := by
  cases h : rnB n with
  | true =>
    obtain ⟨h0, h1⟩ := (rnB_iff n).1 h
    have e1 : dnQ n = rt n := by unfold dnQ; rw [if_pos h]
    have e2 : rnE n = 0 := by unfold rnE; rw [if_pos h]
    rw [e1, e2]
    have HF := Lib.hid (fun W => refFloor_any n W h0 (by omega))
    generalize rt n = r at *
    clear e1 e2
    go_enter Try.func11, Try.ntmps11
    go_wp2_with fail
    refine (HF.out _).mono ?_
    rintro e w1 ⟨rfl, rfl⟩
    go_wp2
    go_returns
    exact ⟨rfl, rfl⟩
  | false =>
    have hn : n < 0 ∨ (0 ≤ n ∧ 1125899906842624 < n) := by
      have : ¬ (0 ≤ n ∧ n ≤ 1125899906842624) := fun hc => by rw [(rnB_iff n).2 hc] at h; cases h
      omega
    have e1 : dnQ n = 0 := by unfold dnQ; rw [if_neg (by rw [h]; simp)]
    have e2 : rnE n = 2 := by unfold rnE; rw [if_neg (by rw [h]; simp)]
    rw [e1, e2]
    clear e1 e2 h
    rcases hn with hn | ⟨hn, hn2⟩
    all_goals
      go_enter Try.func11, Try.ntmps11
      go_wp2
      go_returns
      exact ⟨rfl, rfl⟩
theorem refUp_any (n : Int) (w : World) :
    Calls Try.prog 13 #[.int .i64 n] w fun e w' => e = .returned (.tuple #[.int .i64 (upR n), .int .i64 (rnE n)]) ∧ w = w' := by
  cases h : rnB n with
  | true =>
    obtain ⟨h0, h1⟩ := (rnB_iff n).1 h
    have e1 : upR n = ce n := by unfold upR; rw [if_pos h]
    have e2 : rnE n = 0 := by unfold rnE; rw [if_pos h]
    rw [e1, e2]
    have HF := Lib.hid (fun W => refCeil_any n W h0 h1)
    generalize ce n = r at *
    clear e1 e2
    go_enter Try.func13, Try.ntmps13
    go_wp2_with fail
    refine (HF.out _).mono ?_
    rintro e w1 ⟨rfl, rfl⟩
    go_wp2
    go_returns
    exact ⟨rfl, rfl⟩
  | false =>
    have hn : n < 0 ∨ (0 ≤ n ∧ 1125899906842624 < n) := by
      have : ¬ (0 ≤ n ∧ n ≤ 1125899906842624) := fun hc => by rw [(rnB_iff n).2 hc] at h; cases h
      omega
    have e1 : upR n = 0 := by unfold upR; rw [if_neg (by rw [h]; simp)]
    have e2 : rnE n = 2 := by unfold rnE; rw [if_neg (by rw [h]; simp)]
    rw [e1, e2]
    clear e1 e2 h
    rcases hn with hn | ⟨hn, hn2⟩
    all_goals
      go_enter Try.func13, Try.ntmps13
      go_wp2
      go_returns
      exact ⟨rfl, rfl⟩
theorem refSquare_any (n : Int) (w : World) :
    Calls Try.prog 17 #[.int .i64 n] w fun e w' => e = .returned (.bool (sqB n)) ∧ w = w' := by
  cases h : rnB n with
  | true =>
    obtain ⟨h0, h1⟩ := (rnB_iff n).1 h
    have e1 : sqB n = decide (rt n = ce n) := by unfold sqB; rw [h]; rfl
    rw [e1]
    have HF := Lib.hid (fun W => refFloor_any n W h0 (by omega))
    have HG := Lib.hid (fun W => refCeil_any n W h0 h1)
    generalize ce n = c at *
    generalize rt n = r at *
    clear e1
    by_cases hq : r = c
    · have hq1 : (r == c) = true := by simpa using hq
      rw [decide_eq_true hq]
      clear hq
      go_enter Try.func17, Try.ntmps17
      go_wp2_with fail
      refine (HF.out _).mono ?_
      rintro e w1 ⟨rfl, rfl⟩
      go_wp2_with fail
      refine (HG.out _).mono ?_
      rintro e w1 ⟨rfl, rfl⟩
      go_wp2
      go_returns
      exact ⟨rfl, rfl⟩
    · have hq1 : (r == c) = false := by simpa using hq
      rw [decide_eq_false hq]
      clear hq
      go_enter Try.func17, Try.ntmps17
      go_wp2_with fail
      refine (HF.out _).mono ?_
      rintro e w1 ⟨rfl, rfl⟩
      go_wp2_with fail
      refine (HG.out _).mono ?_
      rintro e w1 ⟨rfl, rfl⟩
      go_wp2
      go_returns
      exact ⟨rfl, rfl⟩
  | false =>
    have hn : n < 0 ∨ (0 ≤ n ∧ 1125899906842624 < n) := by
      have : ¬ (0 ≤ n ∧ n ≤ 1125899906842624) := fun hc => by rw [(rnB_iff n).2 hc] at h; cases h
      omega
    have e1 : sqB n = false := by unfold sqB; rw [h]; rfl
    rw [e1]
    clear e1 h
    rcases hn with hn | ⟨hn, hn2⟩
    all_goals
      go_enter Try.func17, Try.ntmps17
      go_wp2
      go_returns
      exact ⟨rfl, rfl⟩
theorem refFold_any (n k : Int) (w : World) :
    Calls Try.prog 15 #[.int .i64 n, .int .i64 k] w fun e w' => e = .returned (.tuple #[.int .i64 (fdQ n k), .int .i64 (fdE n k)]) ∧ w = w' := by
  cases h : fdB n k with
  | true =>
    obtain ⟨⟨h0, h1⟩, h2, h3⟩ := (fdB_iff n k).1 h
    obtain ⟨_, _, _, _, _, _, ⟨m0, m1⟩, ⟨p0, p1⟩, _⟩ := fd_facts n k h
    have e1 : fdQ n k = rt (n * k * k) := by unfold fdQ; rw [if_pos h]
    have e2 : fdE n k = 0 := by unfold fdE; rw [if_pos h]
    rw [e1, e2]
    have HF := Lib.hid (fun W => refFloor_any (n * k * k) W p0 (by omega))
    generalize rt (n * k * k) = r at *
    clear e1 e2 h
    go_enter Try.func15, Try.ntmps15
    go_wp2_with fail
    refine (HF.out _).mono ?_
    rintro e w1 ⟨rfl, rfl⟩
    go_wp2
    go_returns
    exact ⟨rfl, rfl⟩
  | false =>
    have hn : n < 0 ∨ (0 ≤ n ∧ 1099511627776 < n) ∨ ((0 ≤ n ∧ n ≤ 1099511627776) ∧ k < 1) ∨ ((0 ≤ n ∧ n ≤ 1099511627776) ∧ 1 ≤ k ∧ 1000 < k) := by
      have : ¬ ((0 ≤ n ∧ n ≤ 1099511627776) ∧ 1 ≤ k ∧ k ≤ 1000) := fun hc => by rw [(fdB_iff n k).2 hc] at h; cases h
      omega
    have e1 : fdQ n k = 0 := by unfold fdQ; rw [if_neg (by rw [h]; simp)]
    have e2 : fdE n k = 2 := by unfold fdE; rw [if_neg (by rw [h]; simp)]
    rw [e1, e2]
    clear e1 e2 h
    rcases hn with hn | ⟨hn, hn2⟩ | ⟨⟨hn, hn2⟩, hn3⟩ | ⟨⟨hn, hn2⟩, hn3, hn4⟩
    all_goals
      go_enter Try.func15, Try.ntmps15
      go_wp2
      go_returns
      exact ⟨rfl, rfl⟩
end Go.Proofs.Ytigmpbipbkgnfab
