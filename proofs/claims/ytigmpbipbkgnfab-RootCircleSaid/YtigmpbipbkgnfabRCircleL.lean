/-
  The statement RootCircle of spile/spilelaw06 holds: for every input the call returns true, and each argument reads afterwards as it read before.
-/
import Derived.Test.YtigmpbipbkgnfabRO
import Derived.Below
import Derived.Carry
namespace Go.Proofs.Ytigmpbipbkgnfab.rootCircle
open Go.ChangeShapes Go.WideShapes Go.ChangeAt Go.RowKit
open Go.ChangeMaps (open_string shut_string)
set_option linter.unusedVariables false

theorem samB_self (a b : Int) : samB a b a b = true := by simp [samB]
set_option maxHeartbeats 2000000 in
theorem no (r y E : Int) (w : World) (hE : (E == 0) = false) (hE2 : (E != 0) = true)
    (H1 : Hid (∀ W, Calls Try.prog 18 #[.int .i64 r, .int .i64 y] W fun e w' => e = .returned (.tuple #[.agg #[.int .i64 0, .int .i64 0], .int .i64 E]) ∧ Below W.heap.size W w'))
    (H2 : Hid (∀ W, Calls Try.prog 20 #[.int .i64 r, .int .i64 y] W fun e w' => e = .returned (.tuple #[.agg #[.int .i64 0, .int .i64 0], .int .i64 E]) ∧ Below W.heap.size W w')) :
    Calls Try.prog 8 #[.int .i64 r, .int .i64 y] w fun e w' => e = .returned (.bool true) ∧ Below w.heap.size w w' := by
  have HA := Lib.hid (fun W => awake_any W)
  have Q1 : ∀ W, (binOp .eql 30 (.agg #[.int .i64 0, .int .i64 0]) (.agg #[.int .i64 0, .int .i64 0])).run Try.prog W = .ok (.bool true) W := fun W => by rw [run_eql_bounds, samB_self]
  have HB := Lib.hid (Below.refl w.heap.size w)
  go_enter Try.func8, Try.ntmps8
  go_wp2_with fail
  refine (HA.out _).mono ?_
  rintro e w2 ⟨rfl, h1⟩
  replace HB := Lib.hid (bel_trans HB.out h1); clear h1
  go_wp2_with fail
  refine (H1.out _).mono ?_
  rintro e w3 ⟨rfl, h1⟩
  replace HB := Lib.hid ((bel_trans HB.out h1).alloc (bel_trans HB.out h1).size (.cells #[.int .i64 0, .int .i64 0] 30)); clear h1
  have T1 := Lib.hid (Two.new w3 (.int .i64 0) (.int .i64 0) 30)
  go_wp2_with fail
  refine (H2.out _).mono ?_
  rintro e w4 ⟨rfl, h1⟩
  replace T1 := Lib.hid ((T1.out.below h1).alloc (.cells #[.int .i64 0, .int .i64 0] 30))
  replace HB := Lib.hid ((bel_trans HB.out h1).alloc (bel_trans HB.out h1).size (.cells #[.int .i64 0, .int .i64 0] 30)); clear h1
  have T2 := Lib.hid (Two.new w4 (.int .i64 0) (.int .i64 0) 30)
  obtain ⟨T10, T11, _, _, _⟩ := T1.out
  obtain ⟨T20, T21, _, _, _⟩ := T2.out
  go_wp2
  go_returns
  exact ⟨rfl, HB.out⟩
set_option maxHeartbeats 4000000 in
theorem out (r y : Int) (w : World) (r0 : 0 ≤ r) (r1 : r ≤ 100000) (hy : r < y ∨ (y ≤ r ∧ y < -r))
    (H1 : Hid (∀ W, Calls Try.prog 18 #[.int .i64 r, .int .i64 y] W fun e w' => e = .returned (.tuple #[.agg #[.int .i64 0, .int .i64 0], .int .i64 0]) ∧ Below W.heap.size W w'))
    (H2 : Hid (∀ W, Calls Try.prog 20 #[.int .i64 r, .int .i64 y] W fun e w' => e = .returned (.tuple #[.agg #[.int .i64 0, .int .i64 0], .int .i64 0]) ∧ Below W.heap.size W w')) :
    Calls Try.prog 8 #[.int .i64 r, .int .i64 y] w fun e w' => e = .returned (.bool true) ∧ Below w.heap.size w w' := by
  have HA := Lib.hid (fun W => awake_any W)
  have Q1 : ∀ W, (binOp .eql 30 (.agg #[.int .i64 0, .int .i64 0]) (.agg #[.int .i64 0, .int .i64 0])).run Try.prog W = .ok (.bool true) W := fun W => by rw [run_eql_bounds, samB_self]
  have Q2 : ∀ W, (binOp .neq 30 (.agg #[.int .i64 0, .int .i64 0]) (.agg #[.int .i64 0, .int .i64 0])).run Try.prog W = .ok (.bool false) W := fun W => by rw [run_neq_bounds, samB_self]; rfl
  have HB := Lib.hid (Below.refl w.heap.size w)
  rcases hy with hy | ⟨hy, hy2⟩
  all_goals
    go_enter Try.func8, Try.ntmps8
    go_wp2_with fail
    refine (HA.out _).mono ?_
    rintro e w7 ⟨rfl, h1⟩
    replace HB := Lib.hid (bel_trans HB.out h1); clear h1
    go_wp2_with fail
    refine (H1.out _).mono ?_
    rintro e w8 ⟨rfl, h1⟩
    replace HB := Lib.hid ((bel_trans HB.out h1).alloc (bel_trans HB.out h1).size (.cells #[.int .i64 0, .int .i64 0] 30)); clear h1
    have T1 := Lib.hid (Two.new w8 (.int .i64 0) (.int .i64 0) 30)
    go_wp2_with fail
    refine (H2.out _).mono ?_
    rintro e w9 ⟨rfl, h1⟩
    replace T1 := Lib.hid ((T1.out.below h1).alloc (.cells #[.int .i64 0, .int .i64 0] 30))
    replace HB := Lib.hid ((bel_trans HB.out h1).alloc (bel_trans HB.out h1).size (.cells #[.int .i64 0, .int .i64 0] 30)); clear h1
    have T2 := Lib.hid (Two.new w9 (.int .i64 0) (.int .i64 0) 30)
    obtain ⟨T10, T11, _, _, _⟩ := T1.out
    obtain ⟨T20, T21, _, _, _⟩ := T2.out
    go_wp2
    go_returns
    exact ⟨rfl, HB.out⟩
set_option maxHeartbeats 4000000 in
theorem yes (r y a b : Int) (w : World) (r0 : 0 ≤ r) (r1 : r ≤ 100000) (y0 : y ≤ r) (y1 : -r ≤ y) (a0 : 0 ≤ a) (a1 : a ≤ 100000) (b0 : 0 ≤ b) (b1 : b ≤ 100000) (ab : b ≤ a + 1) (ba : a ≤ b)
    (p0 : 0 ≤ r * r) (p1 : r * r ≤ 10000000000) (p2 : 0 ≤ y * y) (p3 : y * y ≤ 10000000000) (p4 : 0 ≤ a * a) (p5 : a * a ≤ 10000000000) (p6 : 0 ≤ b * b) (p7 : b * b ≤ 10000000000)
    (g1 : a * a + y * y ≤ r * r) (g2 : r * r ≤ b * b + y * y)
    (H1 : Hid (∀ W, Calls Try.prog 18 #[.int .i64 r, .int .i64 y] W fun e w' => e = .returned (.tuple #[.agg #[.int .i64 a, .int .i64 b], .int .i64 0]) ∧ Below W.heap.size W w'))
    (H2 : Hid (∀ W, Calls Try.prog 20 #[.int .i64 r, .int .i64 y] W fun e w' => e = .returned (.tuple #[.agg #[.int .i64 (2 * a), .int .i64 (2 * b)], .int .i64 0]) ∧ Below W.heap.size W w')) :
    Calls Try.prog 8 #[.int .i64 r, .int .i64 y] w fun e w' => e = .returned (.bool true) ∧ Below w.heap.size w w' := by
  have HA := Lib.hid (fun W => awake_any W)
  have Q2 : ∀ W, (binOp .neq 30 (.agg #[.int .i64 (2 * a), .int .i64 (2 * b)]) (.agg #[.int .i64 (2 * a), .int .i64 (2 * b)])).run Try.prog W = .ok (.bool false) W := fun W => by rw [run_neq_bounds, samB_self]; rfl
  have HB := Lib.hid (Below.refl w.heap.size w)
  go_enter Try.func8, Try.ntmps8
  go_wp2_with fail
  refine (HA.out _).mono ?_
  rintro e w12 ⟨rfl, h1⟩
  replace HB := Lib.hid (bel_trans HB.out h1); clear h1
  go_wp2_with fail
  refine (H1.out _).mono ?_
  rintro e w13 ⟨rfl, h1⟩
  replace HB := Lib.hid ((bel_trans HB.out h1).alloc (bel_trans HB.out h1).size (.cells #[.int .i64 a, .int .i64 b] 30)); clear h1
  have T1 := Lib.hid (Two.new w13 (.int .i64 a) (.int .i64 b) 30)
  go_wp2_with fail
  refine (H2.out _).mono ?_
  rintro e w14 ⟨rfl, h1⟩
  replace T1 := Lib.hid ((T1.out.below h1).alloc (.cells #[.int .i64 (2 * a), .int .i64 (2 * b)] 30))
  replace HB := Lib.hid ((bel_trans HB.out h1).alloc (bel_trans HB.out h1).size (.cells #[.int .i64 (2 * a), .int .i64 (2 * b)] 30)); clear h1
  have T2 := Lib.hid (Two.new w14 (.int .i64 (2 * a)) (.int .i64 (2 * b)) 30)
  obtain ⟨T10, T11, _, _, _⟩ := T1.out
  obtain ⟨T20, T21, _, _, _⟩ := T2.out
  go_wp2
  go_returns
  exact ⟨ret_bool (decide_eq_true (by omega)), HB.out⟩
theorem walk (r y : Int) (w : World) (wn : -9223372036854775808 ≤ r ∧ r ≤ 9223372036854775807) (wk : -9223372036854775808 ≤ y ∧ y ≤ 9223372036854775807) :
    Calls Try.prog 8 #[.int .i64 r, .int .i64 y] w fun e w' => e = .returned (.bool true) ∧ Below w.heap.size w w' := by
  have H1 := fun W => half_any r y W
  have H2 := fun W => chord_any r y W
  cases h : hfB r y with
  | false =>
    have e1 : hfL r y = 0 := by unfold hfL; rw [if_neg (by rw [h]; simp)]
    have e2 : hfH r y = 0 := by unfold hfH; rw [if_neg (by rw [h]; simp)]
    have e3 : hfE r y = 2 := by unfold hfE; rw [if_neg (by rw [h]; simp)]
    rw [e1, e2, e3] at H1 H2
    exact no r y 2 w (by decide) (by decide) H1 H2
  | true =>
    obtain ⟨⟨r0, r1⟩, y0, y1⟩ := (hfB_iff r y).1 h
    have e3 : hfE r y = 0 := by unfold hfE; rw [if_pos h]
    by_cases hy : r < y ∨ y < -r
    · obtain ⟨e1, e2⟩ := hf_out r y hy
      rw [e1, e2, e3] at H1 H2
      exact out r y w r0 r1 (by omega) H1 H2
    · rw [e3] at H1 H2
      obtain ⟨b0, b1, b2, b3⟩ := hf_bd r y h
      obtain ⟨⟨p0, p1⟩, p2, p3⟩ := hf_sq r y h
      obtain ⟨⟨q0, q1⟩, q2, q3⟩ := hf_mul r y h
      obtain ⟨g1, g2⟩ := hf_circle r y h hy
      exact yes r y (hfL r y) (hfH r y) w r0 r1 (by omega) (by omega) b0 (by omega) (by omega) (by omega) b2 b1 p0 p1 p2 p3 q0 q1 q2 q3 g1 g2 H1 H2

set_option maxRecDepth 100000 in
theorem lifted (os : Os) (started : os.Started) (H : Type) (enc : TypeId × Value → H) :
    ReturnsInHanded {} Try.checked os 8 .any (Rows.rootCircleSpec.pre6 enc Try.prog Try.f8 Rows.rootCircleRow.domain false) (Rows.rootCircleSpec.post enc Try.prog Try.f8 false true false false) := by
  refine returnsInHanded_of_change (C := Try.checked) own started (by kernel_rfl) Try.func8
    (ChangeSpec.witness6 (enc := enc) (C := Try.checked) false ⟨#[], #[.int .i64 0, .int .i64 0], []⟩ 8 (by kernel_rfl) (by kernel_rfl) (by kernel_rfl) (by kernel_rfl)) ?_
  intro W base args ds gs before hval0 hW hcnd _
  have hval : ∀ (j : Nat) t v, Try.f8.params[j]? = some t → args[j]? = some v → Value.okWide Try.prog W .any base t v := hval0
  clear hval0
  have hW' := hW
  obtain ⟨p, q, hA0, hV, rfl, hfz, hnd⟩ := hW
  have hA : DataW.TrodAll enc Try.prog W 0 (fun _ => true) true Try.f8.params.toList args.toList ds p := hA0
  rw [Try.params8] at hA hval
  obtain ⟨v0, vs0, d0, ds0, p0, q0, hargs, rfl, rfl, h0, r0⟩ := trodAll_cons hA
  obtain ⟨v1, vs1, d1, ds1, p1, q1, rfl, rfl, rfl, h1, r1⟩ := trodAll_cons r0
  obtain ⟨rfl, rfl, rfl⟩ := trodAll_nil r1
  obtain rfl : args = #[v0, v1] := by cases args; simp_all
  obtain ⟨rfl, rfl⟩ := trodVars_none hV
  have k0 := h0
  have lt0 : ∀ x ∈ p0, x.block < W.heap.size := by obtain ⟨m, hm⟩ := k0; exact DataW.trod_lt m _ _ _ hm
  have k1 := h1
  have lt1 : ∀ x ∈ p1, x.block < W.heap.size := by obtain ⟨m, hm⟩ := k1; exact DataW.trod_lt m _ _ _ hm
  obtain ⟨a0, rfl, rfl, rfl, w0⟩ := open_int Try.underlying3 (hval 0 3 v0 rfl rfl) h0
  obtain ⟨a1, rfl, rfl, rfl, w1⟩ := open_int Try.underlying3 (hval 1 3 v1 rfl rfl) h1
  clear hA0
  refine (walk a0 a1 W (wf_bd w0) (wf_bd w1)).mono fun e W' ⟨he, bel⟩ => ?_
  subst he
  exact ⟨_, rfl, _, _, _, [], _, [], hW', trodAll_mk1 (shut_bool Try.underlying4 _), (trodAll_cons_mk (Below.trod laidOut (by kernel_rfl) (of_decide_eq_true (by kernel_rfl)) k0 bel lt0) (trodAll_cons_mk (Below.trod laidOut (by kernel_rfl) (of_decide_eq_true (by kernel_rfl)) k1 bel lt1) trodAll_mk0)), rfl, bel.frame _, fun h => by cases h⟩

theorem over : Rows.rootCircleRow.holds Try.pinned (OpenSpec.ofChange Rows.rootCircleSpec) :=
  OpenClaim.holds_of_wide 8 Try.f8 rfl rfl rfl rfl rfl rfl rfl ⟨rfl, rfl, rfl, rfl, rfl⟩ rfl rfl rfl rfl rfl (by kernel_rfl) Try.func8 (by kernel_rfl)
    (of_decide_eq_true (by kernel_rfl)) (by unfold Func.isWrapper; first | (rw [if_pos (by decide +kernel)]; kernel_rfl) | (rw [if_neg (by decide +kernel)]; exact ⟨rfl, rfl⟩))
    (fun os started H enc _ => lifted os started H enc)

theorem proved : Rows.RootCircleSaid := over
#print axioms proved
end Go.Proofs.Ytigmpbipbkgnfab.rootCircle
