/- Package gauge: isFrom, Check, times, Right, Differ. -/
import Derived.Test.YtdpkochkpcjioabDoorEig
import Derived.Test.YtdpkochkpcjioabDoorDPD
import Derived.BigQuiet
import Derived.Deep.RegionHeld3
namespace Go.Proofs.YtdpkochkpcjioabDoor
open Go.RowKit

theorem isFrom_any (n a b : Int) (w : World) :
    Calls Tryd.prog 43 #[.int .i64 n, .int .i64 a, .int .i64 b] w fun e w' => e = .returned (.bool (decide (a ≤ n) && decide (n ≤ b))) ∧ w' = w := by
  by_cases h : a ≤ n
  · have d : decide (a ≤ n) = true := decide_eq_true h
    generalize hB : decide (n ≤ b) = B
    go_enter Tryd.func43, Tryd.ntmps43
    go_wp2
    go_returns
    exact ⟨by first | rfl | simp_all, rfl⟩
  · have d : decide (a ≤ n) = false := decide_eq_false h
    go_enter Tryd.func43, Tryd.ntmps43
    go_wp2
    go_returns
    exact ⟨by first | rfl | simp_all, rfl⟩
/-- a reading that is right -/
def rdgB (d p h s : Int) : Bool := (decide (0 ≤ d) && decide (d ≤ 100000)) && (decide (0 ≤ p) && decide (p ≤ 200000)) && (decide (-400 ≤ h) && decide (h ≤ 600)) && (decide (0 ≤ s) && decide (s ≤ 10000))
def rdgE (d p h s : Int) : Int := if rdgB d p h s = true then 0 else 2
theorem rdgB_iff {d p h s : Int} : rdgB d p h s = true ↔ (0 ≤ d ∧ d ≤ 100000) ∧ (0 ≤ p ∧ p ≤ 200000) ∧ (-400 ≤ h ∧ h ≤ 600) ∧ 0 ≤ s ∧ s ≤ 10000 := by
  unfold rdgB
  simp only [Bool.and_eq_true, decide_eq_true_eq]
  omega
theorem rdgE_zero {d p h s : Int} : rdgE d p h s = 0 ↔ rdgB d p h s = true := by
  unfold rdgE
  split <;> simp_all
set_option maxHeartbeats 4000000 in
theorem gChk_core (d p h s V : Int) (b1 b2 b3 b4 : Bool) (w : World) (hV : V = if (b1 && b2 && b3 && b4) = true then 0 else 2)
    (H1 : Hid (∀ W, Calls Tryd.prog 43 #[.int .i64 d, .int .i64 0, .int .i64 100000] W fun e w' => e = .returned (.bool b1) ∧ w' = W))
    (H2 : Hid (∀ W, Calls Tryd.prog 43 #[.int .i64 p, .int .i64 0, .int .i64 200000] W fun e w' => e = .returned (.bool b2) ∧ w' = W))
    (H3 : Hid (∀ W, Calls Tryd.prog 43 #[.int .i64 h, .int .i64 (-400), .int .i64 600] W fun e w' => e = .returned (.bool b3) ∧ w' = W))
    (H4 : Hid (∀ W, Calls Tryd.prog 43 #[.int .i64 s, .int .i64 0, .int .i64 10000] W fun e w' => e = .returned (.bool b4) ∧ w' = W)) :
    Calls Tryd.prog 17 #[.agg #[.int .i64 d, .int .i64 p, .int .i64 h, .int .i64 s]] w fun e w' => e = .returned (.int .i64 V) ∧ Below w.heap.size w w' := by
  have Q0 := Lib.hid (Quad.new w (.int .i64 d) (.int .i64 p) (.int .i64 h) (.int .i64 s) 26)
  have X0 := Lib.hid (bel_alloc (w := w) (o := .cells #[.int .i64 d, .int .i64 p, .int .i64 h, .int .i64 s] 26) (Below.refl _ _))
  obtain ⟨q0, q1, q2, q3, _, _⟩ := Q0.out
  go_enter Tryd.func17, Tryd.ntmps17
  go_wp2_with fail
  refine (H1.out _).mono ?_
  rintro e w1 ⟨rfl, rfl⟩
  cases b1 with
  | false =>
    go_wp2
    go_returns
    exact ⟨by rw [hV]; rfl, X0.out⟩
  | true =>
    go_wp2_with fail
    refine (H2.out _).mono ?_
    rintro e w2 ⟨rfl, rfl⟩
    cases b2 with
    | false =>
      go_wp2
      go_returns
      exact ⟨by rw [hV]; rfl, X0.out⟩
    | true =>
      go_wp2_with fail
      refine (H3.out _).mono ?_
      rintro e w3 ⟨rfl, rfl⟩
      cases b3 with
      | false =>
        go_wp2
        go_returns
        exact ⟨by rw [hV]; rfl, X0.out⟩
      | true =>
        go_wp2_with fail
        refine (H4.out _).mono ?_
        rintro e w4 ⟨rfl, rfl⟩
        cases b4
        all_goals
          go_wp2
          go_returns
          exact ⟨by rw [hV]; rfl, X0.out⟩
theorem gChk_any (d p h s : Int) (w : World) :
    Calls Tryd.prog 17 #[.agg #[.int .i64 d, .int .i64 p, .int .i64 h, .int .i64 s]] w fun e w' => e = .returned (.int .i64 (rdgE d p h s)) ∧ Below w.heap.size w w' :=
  gChk_core d p h s _ _ _ _ _ w rfl (Lib.hid fun W => isFrom_any _ _ _ W) (Lib.hid fun W => isFrom_any _ _ _ W) (Lib.hid fun W => isFrom_any _ _ _ W) (Lib.hid fun W => isFrom_any _ _ _ W)
set_option maxHeartbeats 4000000 in
theorem gTimes_any (a b s : Int) (w : World) (h1 : -9223372036854775808 ≤ a * s ∧ a * s ≤ 9223372036854775807) (h2 : -9223372036854775808 ≤ b * s ∧ b * s ≤ 9223372036854775807) :
    Calls Tryd.prog 48 #[.agg #[.int .i64 a, .int .i64 b], .int .i64 s] w fun e w' => e = .returned (.agg #[.int .i64 (a * s), .int .i64 (b * s)]) ∧ Below w.heap.size w w' := by
  have w1 : IntKind.i64.wrap (a * s) = a * s := wrap_in _ h1
  have w2 : IntKind.i64.wrap (b * s) = b * s := wrap_in _ h2
  have T0 := Lib.hid ((Two.new w (.int .i64 a) (.int .i64 b) 30).alloc (.cells #[.int .i64 0, .int .i64 0] 30))
  have T1 := Two.new (w.alloc (.cells #[.int .i64 a, .int .i64 b] 30)) (.int .i64 0) (.int .i64 0) 30
  rw [World.size_alloc] at T1
  replace T1 := Lib.hid T1
  have X0 : Hid (Below w.heap.size w ((w.alloc (.cells #[.int .i64 a, .int .i64 b] 30)).alloc (.cells #[.int .i64 0, .int .i64 0] 30))) := Lib.hid (bel_alloc (bel_alloc (Below.refl _ _)))
  obtain ⟨t0, t1, _, _, _⟩ := T0.out
  obtain ⟨u0, u1, f0, f1, _⟩ := T1.out
  have T2 := Two.new (w.alloc (.cells #[.int .i64 a, .int .i64 b] 30)) (.int .i64 (a * s)) (.int .i64 (b * s)) 30
  rw [World.size_alloc] at T2
  obtain ⟨p0, p1, _, _, _⟩ := T2
  go_enter Tryd.func48, Tryd.ntmps48
  go_wp2
  refine bodyPost_ret (v := .agg #[.int .i64 (a * s), .int .i64 (b * s)]) (by simp [results, Tryd.results48, go_sem, w1, w2]) rfl ?_
  exact ⟨rfl, by first | exact bel_alloc (bel_alloc (Below.refl _ _)) | (rw [w1, w2]; exact bel_alloc (bel_alloc (Below.refl _ _)))⟩
end Go.Proofs.YtdpkochkpcjioabDoor

