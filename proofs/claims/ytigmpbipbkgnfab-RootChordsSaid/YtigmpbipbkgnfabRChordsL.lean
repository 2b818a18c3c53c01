/-
  The statement RootChords of spile/spilelaw06 holds: for every input the call returns true, and each argument reads afterwards as it read before.
-/
import Derived.Test.YtigmpbipbkgnfabRO
import Derived.Below
import Derived.Carry
namespace Go.Proofs.Ytigmpbipbkgnfab.rootChords
open Go.ChangeShapes Go.WideShapes Go.ChangeAt Go.RowKit
open Go.ChangeMaps (open_string shut_string)
set_option linter.unusedVariables false

theorem samB_self (a b : Int) : samB a b a b = true := by simp [samB]
set_option maxHeartbeats 2000000 in
theorem core (r y A B E C D : Int) (w : World)
    (H1 : Hid (∀ W, Calls Try.prog 18 #[.int .i64 r, .int .i64 y] W fun e w' => e = .returned (.tuple #[.agg #[.int .i64 A, .int .i64 B], .int .i64 E]) ∧ Below W.heap.size W w'))
    (H2 : Hid (∀ W, Calls Try.prog 19 #[.int .i64 r, .int .i64 y] W fun e w' => e = .returned (.tuple #[.agg #[.int .i64 A, .int .i64 B], .int .i64 E]) ∧ Below W.heap.size W w'))
    (H3 : Hid (∀ W, Calls Try.prog 20 #[.int .i64 r, .int .i64 y] W fun e w' => e = .returned (.tuple #[.agg #[.int .i64 C, .int .i64 D], .int .i64 E]) ∧ Below W.heap.size W w'))
    (H4 : Hid (∀ W, Calls Try.prog 21 #[.int .i64 r, .int .i64 y] W fun e w' => e = .returned (.tuple #[.agg #[.int .i64 C, .int .i64 D], .int .i64 E]) ∧ Below W.heap.size W w')) :
    Calls Try.prog 4 #[.int .i64 r, .int .i64 y] w fun e w' => e = .returned (.bool true) ∧ Below w.heap.size w w' := by
  have HA := Lib.hid (fun W => awake_any W)
  have Q1 : ∀ W, (binOp .eql 30 (.agg #[.int .i64 A, .int .i64 B]) (.agg #[.int .i64 A, .int .i64 B])).run Try.prog W = .ok (.bool true) W := fun W => by rw [run_eql_bounds, samB_self]
  have Q2 : ∀ W, (binOp .eql 30 (.agg #[.int .i64 C, .int .i64 D]) (.agg #[.int .i64 C, .int .i64 D])).run Try.prog W = .ok (.bool true) W := fun W => by rw [run_eql_bounds, samB_self]
  have HB := Lib.hid (Below.refl w.heap.size w)
  go_enter Try.func4, Try.ntmps4
  go_wp2_with fail
  refine (HA.out _).mono ?_
  rintro e w2 ⟨rfl, h1⟩
  replace HB := Lib.hid (bel_trans HB.out h1); clear h1
  go_wp2_with fail
  refine (H1.out _).mono ?_
  rintro e w3 ⟨rfl, h1⟩
  replace HB := Lib.hid ((bel_trans HB.out h1).alloc (bel_trans HB.out h1).size (.cells #[.int .i64 A, .int .i64 B] 30)); clear h1
  have T1 := Lib.hid (Two.new w3 (.int .i64 A) (.int .i64 B) 30)
  go_wp2_with fail
  refine (H2.out _).mono ?_
  rintro e w4 ⟨rfl, h1⟩
  replace T1 := Lib.hid ((T1.out.below h1).alloc (.cells #[.int .i64 A, .int .i64 B] 30))
  replace HB := Lib.hid ((bel_trans HB.out h1).alloc (bel_trans HB.out h1).size (.cells #[.int .i64 A, .int .i64 B] 30)); clear h1
  have T2 := Lib.hid (Two.new w4 (.int .i64 A) (.int .i64 B) 30)
  go_wp2_with fail
  refine (H3.out _).mono ?_
  rintro e w5 ⟨rfl, h1⟩
  replace T1 := Lib.hid ((T1.out.below h1).alloc (.cells #[.int .i64 C, .int .i64 D] 30))
  replace T2 := Lib.hid ((T2.out.below h1).alloc (.cells #[.int .i64 C, .int .i64 D] 30))
  replace HB := Lib.hid ((bel_trans HB.out h1).alloc (bel_trans HB.out h1).size (.cells #[.int .i64 C, .int .i64 D] 30)); clear h1
  have T3 := Lib.hid (Two.new w5 (.int .i64 C) (.int .i64 D) 30)
  go_wp2_with fail
  refine (H4.out _).mono ?_
  rintro e w6 ⟨rfl, h1⟩
  replace T1 := Lib.hid ((T1.out.below h1).alloc (.cells #[.int .i64 C, .int .i64 D] 30))
  replace T2 := Lib.hid ((T2.out.below h1).alloc (.cells #[.int .i64 C, .int .i64 D] 30))
  replace T3 := Lib.hid ((T3.out.below h1).alloc (.cells #[.int .i64 C, .int .i64 D] 30))
  replace HB := Lib.hid ((bel_trans HB.out h1).alloc (bel_trans HB.out h1).size (.cells #[.int .i64 C, .int .i64 D] 30)); clear h1
  have T4 := Lib.hid (Two.new w6 (.int .i64 C) (.int .i64 D) 30)
  obtain ⟨T10, T11, _, _, _⟩ := T1.out
  obtain ⟨T20, T21, _, _, _⟩ := T2.out
  obtain ⟨T30, T31, _, _, _⟩ := T3.out
  obtain ⟨T40, T41, _, _, _⟩ := T4.out
  go_wp2
  go_returns
  exact ⟨rfl, HB.out⟩
theorem walk (r y : Int) (w : World) (wn : -9223372036854775808 ≤ r ∧ r ≤ 9223372036854775807) (wk : -9223372036854775808 ≤ y ∧ y ≤ 9223372036854775807) :
    Calls Try.prog 4 #[.int .i64 r, .int .i64 y] w fun e w' => e = .returned (.bool true) ∧ Below w.heap.size w w' :=
  core r y (hfL r y) (hfH r y) (hfE r y) (2 * hfL r y) (2 * hfH r y) w (fun W => half_any r y W) (fun W => refHalf_any r y W) (fun W => chord_any r y W) (fun W => refChord_any r y W)

set_option maxRecDepth 100000 in
theorem lifted (os : Os) (started : os.Started) (H : Type) (enc : TypeId × Value → H) :
    ReturnsInHanded {} Try.checked os 4 .any (Rows.rootChordsSpec.pre6 enc Try.prog Try.f4 Rows.rootChordsRow.domain false) (Rows.rootChordsSpec.post enc Try.prog Try.f4 false true false false) := by
  refine returnsInHanded_of_change (C := Try.checked) own started (by kernel_rfl) Try.func4
    (ChangeSpec.witness6 (enc := enc) (C := Try.checked) false ⟨#[], #[.int .i64 0, .int .i64 0], []⟩ 8 (by kernel_rfl) (by kernel_rfl) (by kernel_rfl) (by kernel_rfl)) ?_
  intro W base args ds gs before hval0 hW hcnd _
  have hval : ∀ (j : Nat) t v, Try.f4.params[j]? = some t → args[j]? = some v → Value.okWide Try.prog W .any base t v := hval0
  clear hval0
  have hW' := hW
  obtain ⟨p, q, hA0, hV, rfl, hfz, hnd⟩ := hW
  have hA : DataW.TrodAll enc Try.prog W 0 (fun _ => true) true Try.f4.params.toList args.toList ds p := hA0
  rw [Try.params4] at hA hval
  obtain ⟨v0, vs0, d0, ds0, p0, q0, hargs, rfl, rfl, h0, r0⟩ := trodAll_cons hA
  obtain ⟨v1, vs1, d1, ds1, p1, q1, rfl, rfl, rfl, h1, r1⟩ := trodAll_cons r0
  obtain ⟨rfl, rfl, rfl⟩ := trodAll_nil r1
  obtain rfl : args = #[v0, v1] := by cases args; simp_all
  obtain ⟨rfl, rfl⟩ := trodVars_none hV
  have k0 := h0
  have lt0 : ∀ x ∈ p0, x.block < W.heap.size := by obtain ⟨m, hm⟩ := k0; exact DataW.trod_lt m _ _ _ hm
  have k1 := h1
  have lt1 : ∀ x ∈ p1, x.block < W.heap.size := by obtain ⟨m, hm⟩ := k1; exact DataW.trod_lt m _ _ _ hm
  obtain ⟨a0, rfl, rfl, rfl, w0⟩ := open_int Try.underlying3 (hval 0 3 v0 rfl rfl) h0
  obtain ⟨a1, rfl, rfl, rfl, w1⟩ := open_int Try.underlying3 (hval 1 3 v1 rfl rfl) h1
  clear hA0
  refine (walk a0 a1 W (wf_bd w0) (wf_bd w1)).mono fun e W' ⟨he, bel⟩ => ?_
  subst he
  exact ⟨_, rfl, _, _, _, [], _, [], hW', trodAll_mk1 (shut_bool Try.underlying4 _), (trodAll_cons_mk (Below.trod laidOut (by kernel_rfl) (of_decide_eq_true (by kernel_rfl)) k0 bel lt0) (trodAll_cons_mk (Below.trod laidOut (by kernel_rfl) (of_decide_eq_true (by kernel_rfl)) k1 bel lt1) trodAll_mk0)), rfl, bel.frame _, fun h => by cases h⟩

theorem over : Rows.rootChordsRow.holds Try.pinned (OpenSpec.ofChange Rows.rootChordsSpec) :=
  OpenClaim.holds_of_wide 4 Try.f4 rfl rfl rfl rfl rfl rfl rfl ⟨rfl, rfl, rfl, rfl, rfl⟩ rfl rfl rfl rfl rfl (by kernel_rfl) Try.func4 (by kernel_rfl)
    (of_decide_eq_true (by kernel_rfl)) (by unfold Func.isWrapper; first | (rw [if_pos (by decide +kernel)]; kernel_rfl) | (rw [if_neg (by decide +kernel)]; exact ⟨rfl, rfl⟩))
    (fun os started H enc _ => lifted os started H enc)

theorem proved : Rows.RootChordsSaid := over
#print axioms proved
end Go.Proofs.Ytigmpbipbkgnfab.rootChords
