/- The reference of layers 21 and 22: Plain, Plus, ID, Alcohol, Shares, One. -/
import Derived.Test.YtfpdanjhlepckaaDoorLTF
import Derived.BigQuiet
import Derived.Deep.RegionWith
namespace Go.Proofs.YtfpdanjhlepckaaDoor
open Go.RowKit

set_option maxHeartbeats 4000000 in
theorem rxPl_any (A M : Int) (w : World) :
    Calls Tryd.prog 44 #[.agg #[.int .i64 A, .int .i64 M]] w fun e w' => e = .returned (.bool (plB A M)) ∧ Below w.heap.size w w' := by
  have X := Lib.hid (bel_alloc (o := .cells #[.int .i64 A, .int .i64 M] 29) (Below.refl _ (w.alloc (.cells #[.int .i64 A, .int .i64 M] 29))))
  have E : plB A M = (decide (0 ≤ A) && decide (A ≤ 10737418240000) && decide (0 ≤ M) && decide (M ≤ 128849018880000) && (decide (0 < M) || (A == 0))) := by
    rw [Bool.eq_iff_iff, plB_iff]
    simp only [Bool.and_eq_true, Bool.or_eq_true, decide_eq_true_eq, beq_iff_eq]
    omega
  rw [E]; clear E
  by_cases g0 : ¬ (0 ≤ A)
  · have d0 : decide (0 ≤ A) = false := decide_eq_false g0
    simp only [d0, Bool.true_and, Bool.false_and]
    clear g0
    go_enter Tryd.func44, Tryd.ntmps44
    go_wp2
    go_returns
    exact ⟨rfl, X.out⟩
  have h0 : 0 ≤ A := Classical.not_not.1 g0
  have d0 : decide (0 ≤ A) = true := decide_eq_true h0
  clear g0
  by_cases g1 : ¬ (A ≤ 10737418240000)
  · have d1 : decide (A ≤ 10737418240000) = false := decide_eq_false g1
    simp only [d0, d1, Bool.true_and, Bool.false_and]
    clear h0 g1
    go_enter Tryd.func44, Tryd.ntmps44
    go_wp2
    go_returns
    exact ⟨rfl, X.out⟩
  have h1 : A ≤ 10737418240000 := Classical.not_not.1 g1
  have d1 : decide (A ≤ 10737418240000) = true := decide_eq_true h1
  clear g1
  by_cases g2 : ¬ (0 ≤ M)
  · have d2 : decide (0 ≤ M) = false := decide_eq_false g2
    simp only [d0, d1, d2, Bool.true_and, Bool.false_and]
    clear h0 h1 g2
    go_enter Tryd.func44, Tryd.ntmps44
    go_wp2
    go_returns
    exact ⟨rfl, X.out⟩
  have h2 : 0 ≤ M := Classical.not_not.1 g2
  have d2 : decide (0 ≤ M) = true := decide_eq_true h2
  clear g2
  by_cases g3 : ¬ (M ≤ 128849018880000)
  · have d3 : decide (M ≤ 128849018880000) = false := decide_eq_false g3
    simp only [d0, d1, d2, d3, Bool.true_and, Bool.false_and]
    clear h0 h1 h2 g3
    go_enter Tryd.func44, Tryd.ntmps44
    go_wp2
    go_returns
    exact ⟨rfl, X.out⟩
  have h3 : M ≤ 128849018880000 := Classical.not_not.1 g3
  have d3 : decide (M ≤ 128849018880000) = true := decide_eq_true h3
  clear g3
  simp only [d0, d1, d2, d3, Bool.true_and]
  clear h0 h1 h2 h3
  by_cases h4 : 0 < M
  · have d4 : decide (0 < M) = true := decide_eq_true h4
    simp only [d4, Bool.true_or]
    clear h4
    go_enter Tryd.func44, Tryd.ntmps44
    go_wp2
    go_returns
    exact ⟨rfl, X.out⟩
  · have d4 : decide (0 < M) = false := decide_eq_false h4
    simp only [d4, Bool.false_or]
    clear h4
    generalize hB : (A == 0) = B
    go_enter Tryd.func44, Tryd.ntmps44
    go_wp2
    go_returns
    exact ⟨rfl, X.out⟩
set_option maxHeartbeats 4000000 in
set_option maxRecDepth 100000 in
theorem rxPlus_any (a b p q : Int) (w : World) (wa : IntKind.i64.wrap (a + p) = a + p) (wb : IntKind.i64.wrap (b + q) = b + q) :
    Calls Tryd.prog 43 #[.agg #[.int .i64 a, .int .i64 b], .agg #[.int .i64 p, .int .i64 q]] w fun e w' => e = .returned (.agg #[.int .i64 (a + p), .int .i64 (b + q)]) ∧ Below w.heap.size w w' := by
  go_enter Tryd.func43, Tryd.ntmps43
  go_wp2
  go_returns
  exact ⟨rfl, by go_grown⟩
theorem rlId_any (n : Int) (w : World) :
    Calls Tryd.prog 35 #[.int .i64 n] w fun e w' => e = .returned (.bool (idB n)) ∧ w' = w := by
  unfold idB
  by_cases h : 1 ≤ n
  · have d : decide (1 ≤ n) = true := decide_eq_true h
    rw [d, Bool.true_and]
    clear h
    generalize hB : decide (n ≤ 1073741824) = B
    go_enter Tryd.func35, Tryd.ntmps35
    go_wp2
    go_returns
    exact ⟨rfl, rfl⟩
  · have d : decide (1 ≤ n) = false := decide_eq_false h
    rw [d, Bool.false_and]
    clear h
    go_enter Tryd.func35, Tryd.ntmps35
    go_wp2
    go_returns
    exact ⟨rfl, rfl⟩
set_option maxHeartbeats 16000000 in
set_option maxRecDepth 100000 in
theorem rlAl_any (v : Value) (s : List (Int × Int)) (w : World) (hv : Pts w v s) (hn : s.length ≤ 32) (h : shO s = true) :
    Calls Tryd.prog 65 #[v] w fun e w' => e = .returned (.int .i64 (sm fM s)) ∧ Below w.heap.size w w' := by
  obtain ⟨a, cap, rfl, hcap, hh⟩ := hv
  have NV0 : Hid (Pts w (.slice a s.length cap) s) := ⟨a, cap, rfl, hcap, hh⟩
  clear hh hcap
  have HS := Lib.hid (sm_step fM s)
  have FS := Lib.hid (sm_full fM s)
  have HY := Lib.hid (shO_bd h)
  have HX := Lib.hid (fun k hk => (shB_false.1 (shO_iff.1 h k hk)).2.2)
  clear h
  generalize sm fM s = T at *
  generalize hN : s.length = n at *
  go_enter Tryd.func65, Tryd.ntmps65
  go_wp2_with fail
  go_loopw [3, 4] (fun t i wr => ∃ k : Nat, k ≤ n ∧ i = .int .i64 k ∧ t = .int .i64 (sm fM (s.take k)) ∧ Hid (Below w.heap.size w wr)) (fun _ i _ => n - (intOf i).toNat)
  case atStart => exact ⟨0, Nat.zero_le _, rfl, rfl, Lib.hid (Below.refl _ _)⟩
  case round =>
    obtain ⟨k, hk, rfl, rfl, X⟩ := hrel
    have NV := Lib.hid (NV0.out.below X.out)
    by_cases hlt : k < n
    · have s1 := Lib.hid (HS.out k hlt)
      change Hid (sm fM (s.take (k + 1)) = sm fM (s.take k) + gR s k) at s1
      have y := HY.out k
      have x := HX.out k hlt
      have l9 : (k : Int) < (n : Int) := by omega
      obtain ⟨b, off, rfl, hb, hc⟩ := NV.out.at (by omega)
      obtain ⟨c0, c1⟩ := hc k (by omega)
      clear hc
      generalize gX s k = p at *
      generalize gR s k = r at *
      generalize sm fM (s.take k) = S at *
      have w1 : IntKind.i64.wrap (S + r) = S + r := wrap_in _ ⟨by omega, by omega⟩
      go_wp2
      go_roundw
      case rel => exact ⟨k + 1, by omega, by go_num, by rw [s1.out], X⟩
      case measure => simp [intOf]; omega
    · obtain rfl : k = n := by omega
      rw [FS.out]
      go_wp2
      go_returns
      exact ⟨rfl, X.out⟩
/-- the error of shares -/
def rsF (s : List (Int × Int)) : Int := if 32 < s.length then 12 else if shO s = true then 0 else 10
/-- the first condition that a share does not keep -/
theorem shB_true {s : List (Int × Int)} {k : Nat} (h : shB s k = true) : gX s k < 1 ∨ (1 ≤ gX s k ∧ 1073741824 < gX s k) ∨ ((1 ≤ gX s k ∧ gX s k ≤ 1073741824) ∧ gR s k < 1) ∨ ((1 ≤ gX s k ∧ gX s k ≤ 1073741824) ∧ 1 ≤ gR s k ∧ 10737418240000 < gR s k) ∨ ((1 ≤ gX s k ∧ gX s k ≤ 1073741824) ∧ 1 ≤ gR s k ∧ gR s k ≤ 10737418240000 ∧ 0 < k ∧ gX s k ≤ gX s (k - 1)) := by
  have h2 : ¬ shB s k = false := by rw [h]; simp
  rw [shB_false] at h2
  unfold pvF at h2
  by_cases k0 : k = 0
  · rw [if_pos k0] at h2; omega
  · rw [if_neg k0] at h2; omega
end Go.Proofs.YtfpdanjhlepckaaDoor

