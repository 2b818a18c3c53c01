/-
  The statement AlcoholChecks of spile/spilelaw20 holds: for every input the call returns true, and each argument reads afterwards as it read before.
-/
import Derived.Test.YtadkhhkoankhnaaM2
import Derived.Test.YtadkhhkoankhnaaM1
import Derived.Below
import Derived.Carry
set_option linter.unusedVariables false
set_option linter.unusedSimpArgs false
namespace Go.Proofs.Ytadkhhkoankhnaa.alcoholChecks
open Go.ChangeShapes Go.WideShapes Go.ChangeAt Go.RowKit
open Go.ChangeMaps (open_string shut_string)
set_option linter.unusedVariables false

set_option maxHeartbeats 8000000 in
set_option maxRecDepth 100000 in
theorem long (a : Option Addr) (n cap : Nat) (A M x s : Int) (l : List (Int × Int)) (w : World) (NV : Hid (Pts w (.slice a n cap) l)) (hf : fwB l.length = false) :
    Calls Try.prog 9 #[.slice a n cap, .agg #[.int .i64 A, .int .i64 M], .int .i64 x, .int .i64 s] w fun e w' => e = .returned (.bool true) ∧ Below w.heap.size w w' := by
  have HA := Lib.hid (fun W => awakeA_any W)
  have FW := Lib.hid (fun v W h => few_any v l W h)
  rw [hf] at FW
  have HB := Lib.hid (Below.refl w.heap.size w)
  replace HB := Lib.hid (bel_alloc (w := w) (o := .cells #[.int .i64 A, .int .i64 M] 47) (Below.refl _ _))
  have T0 := Lib.hid (Two.new w (.int .i64 A) (.int .i64 M) 47)
  replace NV := Lib.hid (NV.out.alloc (.cells #[.int .i64 A, .int .i64 M] 47))
  obtain ⟨T00, T01, T02, T03, T04⟩ := T0.out
  go_enter Try.func9, Try.ntmps9
  go_wp2_with fail
  refine (HA.out _).mono ?_
  rintro e w4 ⟨rfl, h1⟩
  replace NV := Lib.hid (NV.out.below h1)
  replace T0 := Lib.hid (T0.out.below h1)
  replace HB := Lib.hid (bel_trans HB.out h1); clear h1
  obtain ⟨T00, T01, T02, T03, T04⟩ := T0.out
  go_wp2_with fail
  refine (FW.out _ _ NV.out).mono ?_
  rintro e w90 ⟨rfl, hw⟩
  subst hw
  go_wp2
  go_returns
  exact ⟨rfl, HB.out⟩
set_option maxHeartbeats 16000000 in
set_option maxRecDepth 100000 in
theorem core (a : Option Addr) (n cap : Nat) (A M x s B K E1 E2 : Int) (l : List (Int × Int)) (w : World) (NV : Hid (Pts w (.slice a n cap) l)) (hf : fwB l.length = true)
    (C1 : Hid (∀ W, Pts W (.slice a n cap) l → Calls Try.prog 34 #[.slice a n cap, .int .i64 x, .int .i64 s] W fun e w' => e = .returned (.tuple #[.agg #[.int .i64 B, .int .i64 K], .int .i64 E1]) ∧ Below W.heap.size W w'))
    (C2 : Hid (∀ W, Pts W (.slice a n cap) l → Calls Try.prog 35 #[.slice a n cap, .int .i64 x, .int .i64 s] W fun e w' => e = .returned (.tuple #[.agg #[.int .i64 B, .int .i64 K], .int .i64 E1]) ∧ Below W.heap.size W w'))
    (C3 : Hid (∀ W, Pts W (.slice a n cap) l → Calls Try.prog 36 #[.slice a n cap, .agg #[.int .i64 A, .int .i64 M]] W fun e w' => e = .returned (.int .i64 E2) ∧ Below W.heap.size W w'))
    (C4 : Hid (∀ W, Pts W (.slice a n cap) l → Calls Try.prog 37 #[.slice a n cap, .agg #[.int .i64 A, .int .i64 M]] W fun e w' => e = .returned (.int .i64 E2) ∧ Below W.heap.size W w')) :
    Calls Try.prog 9 #[.slice a n cap, .agg #[.int .i64 A, .int .i64 M], .int .i64 x, .int .i64 s] w fun e w' => e = .returned (.bool true) ∧ Below w.heap.size w w' := by
  have q1 : ∀ W, (binOp .eql 47 (.agg #[.int .i64 B, .int .i64 K]) (.agg #[.int .i64 B, .int .i64 K])).run Try.prog W = .ok (.bool true) W := fun W => by rw [run_eql_liq]; simp [samP]
  have HA := Lib.hid (fun W => awakeA_any W)
  have FW := Lib.hid (fun v W h => few_any v l W h)
  rw [hf] at FW
  have HB := Lib.hid (Below.refl w.heap.size w)
  replace HB := Lib.hid (bel_alloc (w := w) (o := .cells #[.int .i64 A, .int .i64 M] 47) (Below.refl _ _))
  have T0 := Lib.hid (Two.new w (.int .i64 A) (.int .i64 M) 47)
  replace NV := Lib.hid (NV.out.alloc (.cells #[.int .i64 A, .int .i64 M] 47))
  obtain ⟨T00, T01, T02, T03, T04⟩ := T0.out
  go_enter Try.func9, Try.ntmps9
  go_wp2_with fail
  refine (HA.out _).mono ?_
  rintro e w9 ⟨rfl, h1⟩
  replace NV := Lib.hid (NV.out.below h1)
  replace T0 := Lib.hid (T0.out.below h1)
  replace HB := Lib.hid (bel_trans HB.out h1); clear h1
  obtain ⟨T00, T01, T02, T03, T04⟩ := T0.out
  go_wp2_with fail
  refine (FW.out _ _ NV.out).mono ?_
  rintro e w90 ⟨rfl, hw⟩
  subst hw
  go_wp2_with fail
  refine (C1.out _ NV.out).mono ?_
  rintro e w12 ⟨rfl, h1⟩
  replace NV := Lib.hid ((NV.out.below h1).alloc (.cells #[.int .i64 B, .int .i64 K] 47))
  replace T0 := Lib.hid ((T0.out.below h1).alloc (.cells #[.int .i64 B, .int .i64 K] 47))
  replace HB := Lib.hid ((bel_trans HB.out h1).alloc (bel_trans HB.out h1).size (.cells #[.int .i64 B, .int .i64 K] 47)); clear h1
  have T1 := Lib.hid (Two.new w12 (.int .i64 B) (.int .i64 K) 47)
  go_wp2_with fail
  refine (C2.out _ NV.out).mono ?_
  rintro e w13 ⟨rfl, h1⟩
  replace NV := Lib.hid ((NV.out.below h1).alloc (.cells #[.int .i64 B, .int .i64 K] 47))
  replace T0 := Lib.hid ((T0.out.below h1).alloc (.cells #[.int .i64 B, .int .i64 K] 47))
  replace T1 := Lib.hid ((T1.out.below h1).alloc (.cells #[.int .i64 B, .int .i64 K] 47))
  replace HB := Lib.hid ((bel_trans HB.out h1).alloc (bel_trans HB.out h1).size (.cells #[.int .i64 B, .int .i64 K] 47)); clear h1
  have T2 := Lib.hid (Two.new w13 (.int .i64 B) (.int .i64 K) 47)
  go_wp2_with fail
  replace NV := Lib.hid (NV.out.below (bel_drew (w13.alloc (.cells #[.int .i64 B, .int .i64 K] 47))))
  replace T0 := Lib.hid (T0.out.below (bel_drew (w13.alloc (.cells #[.int .i64 B, .int .i64 K] 47))))
  replace T1 := Lib.hid (T1.out.below (bel_drew (w13.alloc (.cells #[.int .i64 B, .int .i64 K] 47))))
  replace T2 := Lib.hid (T2.out.below (bel_drew (w13.alloc (.cells #[.int .i64 B, .int .i64 K] 47))))
  replace HB := Lib.hid (bel_trans HB.out (bel_drew (w13.alloc (.cells #[.int .i64 B, .int .i64 K] 47))))
  obtain ⟨T00, T01, T02, T03, T04⟩ := T0.out
  obtain ⟨T10, T11, T12, T13, T14⟩ := T1.out
  obtain ⟨T20, T21, T22, T23, T24⟩ := T2.out
  go_region_held3 (fun w' => w'.cell? ⟨w.heap.size, 0, none⟩ = some (.int .i64 A) ∧ w'.cell? ⟨w.heap.size, 1, none⟩ = some (.int .i64 M) ∧ w'.cell? ⟨w12.heap.size, 0, none⟩ = some (.int .i64 B) ∧ w'.cell? ⟨w12.heap.size, 1, none⟩ = some (.int .i64 K) ∧ w'.cell? ⟨w13.heap.size, 0, none⟩ = some (.int .i64 B) ∧ w'.cell? ⟨w13.heap.size, 1, none⟩ = some (.int .i64 K)) (go_keep) (first
    | (go_at_call 36; (with_reducible refine (C3.out _ NV.out).mono ?_); rintro e w83 ⟨rfl, h1⟩; replace NV := Lib.hid (NV.out.below h1); replace T0 := Lib.hid (T0.out.below h1); replace T1 := Lib.hid (T1.out.below h1); replace T2 := Lib.hid (T2.out.below h1); replace HB := Lib.hid (bel_trans HB.out h1); clear h1; obtain ⟨T00, T01, _, _, _⟩ := T0.out; obtain ⟨T10, T11, _, _, _⟩ := T1.out; obtain ⟨T20, T21, _, _, _⟩ := T2.out)
    | (go_at_call 37; (with_reducible refine (C4.out _ NV.out).mono ?_); rintro e w84 ⟨rfl, h1⟩; replace NV := Lib.hid (NV.out.below h1); replace T0 := Lib.hid (T0.out.below h1); replace T1 := Lib.hid (T1.out.below h1); replace T2 := Lib.hid (T2.out.below h1); replace HB := Lib.hid (bel_trans HB.out h1); clear h1; obtain ⟨T00, T01, _, _, _⟩ := T0.out; obtain ⟨T10, T11, _, _, _⟩ := T1.out; obtain ⟨T20, T21, _, _, _⟩ := T2.out))
  all_goals go_wp2
  all_goals go_returns
  all_goals exact ⟨rfl, HB.out⟩
theorem walk (v : Value) (l : List (Int × Int)) (A M x s : Int) (w : World) (hv : Pts w v l) (_ : -9223372036854775808 ≤ A ∧ A ≤ 9223372036854775807) (_ : -9223372036854775808 ≤ M ∧ M ≤ 9223372036854775807) (_ : -9223372036854775808 ≤ x ∧ x ≤ 9223372036854775807) (_ : -9223372036854775808 ≤ s ∧ s ≤ 9223372036854775807) :
    Calls Try.prog 9 #[v, .agg #[.int .i64 A, .int .i64 M], .int .i64 x, .int .i64 s] w fun e w' => e = .returned (.bool true) ∧ Below w.heap.size w w' := by
  have hv2 := Lib.hid hv
  obtain ⟨a, cap, rfl, _, _⟩ := hv.shape
  cases h : fwB l.length with
  | false => exact long a l.length cap A M x s l w hv2 h
  | true => exact core a l.length cap A M x s _ _ _ _ l w hv2 h (Lib.hid fun W h => alOf_any _ l x s W h) (Lib.hid fun W h => rlOf_any _ l x s W h) (Lib.hid fun W h => alChk_any _ l A M W h) (Lib.hid fun W h => rlChk_any _ l A M W h)

end Go.Proofs.Ytadkhhkoankhnaa.alcoholChecks

