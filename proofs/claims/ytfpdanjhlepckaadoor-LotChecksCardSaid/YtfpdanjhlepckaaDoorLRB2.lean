/- The reference of layer 22: Shares. -/
import Derived.Test.YtfpdanjhlepckaaDoorLRA2
namespace Go.Proofs.YtfpdanjhlepckaaDoor
open Go.RowKit

set_option maxHeartbeats 4000000 in
theorem rlSh_long (a : Option Addr) (n cap : Nat) (w : World) (h : 32 < n) (hn : n ≤ 9223372036854775807) :
    Calls Tryd.prog 64 #[.slice a n cap] w fun e w' => e = .returned (.int .i64 12) ∧ Below w.heap.size w w' := by
  have q : decide (32 < (n : Int)) = true := decide_eq_true (by omega)
  go_enter Tryd.func64, Tryd.ntmps64
  go_wp2
  go_returns
  exact ⟨rfl, Below.refl _ _⟩
set_option maxHeartbeats 32000000 in
set_option maxRecDepth 100000 in
theorem rlSh_ok (a : Option Addr) (n cap : Nat) (s : List (Int × Int))  (w : World) (NV0 : Hid (Pts w (.slice a n cap) s)) (hn : n ≤ 32) (hp : Hid (∀ j, j < n → shB s j = false)) :
    Calls Tryd.prog 64 #[.slice a n cap] w fun e w' => e = .returned (.int .i64 0) ∧ Below w.heap.size w w' := by
  have q : decide (32 < (n : Int)) = false := decide_eq_false (by omega)
  go_enter Tryd.func64, Tryd.ntmps64
  go_wp2_with fail
  go_loopw [3] (fun i wr => ∃ k : Nat, k ≤ n ∧ i = .int .i64 k ∧ Hid (Below w.heap.size w wr)) (fun i _ => n - (intOf i).toNat)
  case atStart => exact ⟨0, Nat.zero_le _, rfl, Lib.hid (Below.refl _ _)⟩
  case round =>
    obtain ⟨k, hk, rfl, X⟩ := hrel
    have NV := Lib.hid (NV0.out.below X.out)
    by_cases hlt : k < n
    · have h0 := shB_false.1 (hp.out k hlt)
      unfold pvF at h0
      have l9 : (k : Int) < (n : Int) := by omega
      obtain ⟨b, off, rfl, hb, hc⟩ := NV.out.at (by omega)
      obtain ⟨c0, c1⟩ := hc k (by omega)
      by_cases hz : k = 0
      · clear hc
        subst hz
        rw [if_pos rfl] at h0
        simp only [Nat.zero_mul, Nat.add_zero] at c0 c1
        generalize gX s 0 = x at *
        generalize gR s 0 = y at *
        have l8 : (0 : Int) < (n : Int) := by omega
        have l7 : (0 : Nat) < n := by omega
        have d1 : decide (x < 1) = false := decide_eq_false (by omega)
        have d2 : decide (1073741824 < x) = false := decide_eq_false (by omega)
        have d3 : decide (y < 1) = false := decide_eq_false (by omega)
        have d4 : decide (10737418240000 < y) = false := decide_eq_false (by omega)
        go_wp2_with fail
        go_quiet (fail)
        rename_i nq
        go_wp2
        go_roundw
        case rel => exact ⟨1, by omega, by go_num, Lib.hid (bel_trans X.out (bel_drewN _ _))⟩
        case measure => simp [intOf]; omega
      · obtain ⟨j, rfl⟩ : ∃ j, k = j + 1 := ⟨k - 1, by omega⟩
        obtain ⟨e0, _⟩ := hc j (by omega)
        rw [if_neg (by omega), Nat.add_sub_cancel] at h0
        clear hc
        generalize gX s (j + 1) = x at *
        generalize gR s (j + 1) = y at *
        generalize gX s j = p at *
        have d1 : decide (x < 1) = false := decide_eq_false (by omega)
        have d2 : decide (1073741824 < x) = false := decide_eq_false (by omega)
        have d3 : decide (y < 1) = false := decide_eq_false (by omega)
        have d4 : decide (10737418240000 < y) = false := decide_eq_false (by omega)
        have d5 : decide (0 < (j : Int) + 1) = true := decide_eq_true (by omega)
        have d6 : decide (x ≤ p) = false := decide_eq_false (by omega)
        have wj : IntKind.i64.wrap (j : Int) = (j : Int) := wrap_in _ ⟨by omega, by omega⟩
        go_wp2_with fail
        go_quiet (fail)
        rename_i nq
        go_wp2
        go_roundw
        case rel => exact ⟨j + 1 + 1, by omega, by go_num, Lib.hid (bel_trans X.out (bel_drewN _ _))⟩
        case measure => simp [intOf]; omega
    · obtain rfl : k = n := by omega
      go_wp2
      go_returns
      exact ⟨rfl, X.out⟩
set_option maxHeartbeats 32000000 in
set_option maxRecDepth 100000 in
theorem rlSh_bad (a : Option Addr) (n cap : Nat) (s : List (Int × Int)) (m : Nat) (hm : m < n) (hq : shB s m = true) (w : World) (NV0 : Hid (Pts w (.slice a n cap) s)) (hn : n ≤ 32) (hp : Hid (∀ j, j < m → shB s j = false)) :
    Calls Tryd.prog 64 #[.slice a n cap] w fun e w' => e = .returned (.int .i64 10) ∧ Below w.heap.size w w' := by
  have q : decide (32 < (n : Int)) = false := decide_eq_false (by omega)
  go_enter Tryd.func64, Tryd.ntmps64
  go_wp2_with fail
  go_loopw [3] (fun i wr => ∃ k : Nat, k ≤ m ∧ i = .int .i64 k ∧ Hid (Below w.heap.size w wr)) (fun i _ => n - (intOf i).toNat)
  case atStart => exact ⟨0, Nat.zero_le _, rfl, Lib.hid (Below.refl _ _)⟩
  case round =>
    obtain ⟨k, hk, rfl, X⟩ := hrel
    have NV := Lib.hid (NV0.out.below X.out)
    by_cases hlt : k < m
    · have h0 := shB_false.1 (hp.out k hlt)
      unfold pvF at h0
      have l9 : (k : Int) < (n : Int) := by omega
      obtain ⟨b, off, rfl, hb, hc⟩ := NV.out.at (by omega)
      obtain ⟨c0, c1⟩ := hc k (by omega)
      by_cases hz : k = 0
      · clear hc
        subst hz
        rw [if_pos rfl] at h0
        simp only [Nat.zero_mul, Nat.add_zero] at c0 c1
        generalize gX s 0 = x at *
        generalize gR s 0 = y at *
        have l8 : (0 : Int) < (n : Int) := by omega
        have l7 : (0 : Nat) < n := by omega
        have d1 : decide (x < 1) = false := decide_eq_false (by omega)
        have d2 : decide (1073741824 < x) = false := decide_eq_false (by omega)
        have d3 : decide (y < 1) = false := decide_eq_false (by omega)
        have d4 : decide (10737418240000 < y) = false := decide_eq_false (by omega)
        go_wp2_with fail
        go_quiet (fail)
        rename_i nq
        go_wp2
        go_roundw
        case rel => exact ⟨1, by omega, by go_num, Lib.hid (bel_trans X.out (bel_drewN _ _))⟩
        case measure => simp [intOf]; omega
      · obtain ⟨j, rfl⟩ : ∃ j, k = j + 1 := ⟨k - 1, by omega⟩
        obtain ⟨e0, _⟩ := hc j (by omega)
        rw [if_neg (by omega), Nat.add_sub_cancel] at h0
        clear hc
        generalize gX s (j + 1) = x at *
        generalize gR s (j + 1) = y at *
        generalize gX s j = p at *
        have d1 : decide (x < 1) = false := decide_eq_false (by omega)
        have d2 : decide (1073741824 < x) = false := decide_eq_false (by omega)
        have d3 : decide (y < 1) = false := decide_eq_false (by omega)
        have d4 : decide (10737418240000 < y) = false := decide_eq_false (by omega)
        have d5 : decide (0 < (j : Int) + 1) = true := decide_eq_true (by omega)
        have d6 : decide (x ≤ p) = false := decide_eq_false (by omega)
        have wj : IntKind.i64.wrap (j : Int) = (j : Int) := wrap_in _ ⟨by omega, by omega⟩
        go_wp2_with fail
        go_quiet (fail)
        rename_i nq
        go_wp2
        go_roundw
        case rel => exact ⟨j + 1 + 1, by omega, by go_num, Lib.hid (bel_trans X.out (bel_drewN _ _))⟩
        case measure => simp [intOf]; omega
    · obtain rfl : k = m := by omega
      have l9 : (k : Int) < (n : Int) := by omega
      obtain ⟨b, off, rfl, hb, hc⟩ := NV.out.at (by omega)
      obtain ⟨c0, c1⟩ := hc k (by omega)
      clear hp
      rcases shB_true hq with h0 | h0 | h0 | h0 | h0
      · clear hc
        generalize gX s k = x at *
        generalize gR s k = y at *
        have d1 : decide (x < 1) = true := decide_eq_true (by omega)
        go_wp2_with fail
        go_quiet (fail)
        rename_i nq
        go_wp2
        go_returns
        exact ⟨rfl, bel_trans X.out (bel_drewN _ _)⟩
      · clear hc
        generalize gX s k = x at *
        generalize gR s k = y at *
        have d1 : decide (x < 1) = false := decide_eq_false (by omega)
        have d2 : decide (1073741824 < x) = true := decide_eq_true (by omega)
        go_wp2_with fail
        go_quiet (fail)
        rename_i nq
        go_wp2
        go_returns
        exact ⟨rfl, bel_trans X.out (bel_drewN _ _)⟩
      · clear hc
        generalize gX s k = x at *
        generalize gR s k = y at *
        have d1 : decide (x < 1) = false := decide_eq_false (by omega)
        have d2 : decide (1073741824 < x) = false := decide_eq_false (by omega)
        have d3 : decide (y < 1) = true := decide_eq_true (by omega)
        go_wp2_with fail
        go_quiet (fail)
        rename_i nq
        go_wp2
        go_returns
        exact ⟨rfl, bel_trans X.out (bel_drewN _ _)⟩
      · clear hc
        generalize gX s k = x at *
        generalize gR s k = y at *
        have d1 : decide (x < 1) = false := decide_eq_false (by omega)
        have d2 : decide (1073741824 < x) = false := decide_eq_false (by omega)
        have d3 : decide (y < 1) = false := decide_eq_false (by omega)
        have d4 : decide (10737418240000 < y) = true := decide_eq_true (by omega)
        go_wp2_with fail
        go_quiet (fail)
        rename_i nq
        go_wp2
        go_returns
        exact ⟨rfl, bel_trans X.out (bel_drewN _ _)⟩
      · cases k with
        | zero => omega
        | succ j =>
          obtain ⟨e0, _⟩ := hc j (by omega)
          rw [Nat.add_sub_cancel] at h0
          clear hc
          generalize gX s (j + 1) = x at *
          generalize gR s (j + 1) = y at *
          generalize gX s j = p at *
          have d1 : decide (x < 1) = false := decide_eq_false (by omega)
          have d2 : decide (1073741824 < x) = false := decide_eq_false (by omega)
          have d3 : decide (y < 1) = false := decide_eq_false (by omega)
          have d4 : decide (10737418240000 < y) = false := decide_eq_false (by omega)
          have d5 : decide (0 < (j : Int) + 1) = true := decide_eq_true (by omega)
          have d6 : decide (x ≤ p) = true := decide_eq_true (by omega)
          have wj : IntKind.i64.wrap (j : Int) = (j : Int) := wrap_in _ ⟨by omega, by omega⟩
          go_wp2_with fail
          go_quiet (fail)
          rename_i nq
          go_wp2
          go_returns
          exact ⟨rfl, bel_trans X.out (bel_drewN _ _)⟩
theorem rlSh_any (v : Value) (s : List (Int × Int)) (w : World) (hv : Pts w v s) :
    Calls Tryd.prog 64 #[v] w fun e w' => e = .returned (.int .i64 (rsF s)) ∧ Below w.heap.size w w' := by
  obtain ⟨a, cap, rfl, hcap, _⟩ := id hv
  unfold rsF
  by_cases h : 32 < s.length
  · rw [if_pos h]; exact rlSh_long a _ cap w h (by omega)
  · rw [if_neg h]
    cases hs : shO s with
    | true => rw [if_pos rfl]; exact rlSh_ok a _ cap s w hv (by omega) (Lib.hid (shO_iff.1 hs))
    | false =>
      rw [if_neg (by simp)]
      obtain ⟨k, hk, h1, h2⟩ := shO_false hs
      exact rlSh_bad a _ cap s k hk h1 w hv (by omega) h2
end Go.Proofs.YtfpdanjhlepckaaDoor

