/-
  The statement RootGrows of spile/spilelaw06 holds: for every input the call returns true, and each argument reads afterwards as it read before.
-/
import Derived.Test.YtigmpbipbkgnfabRO
import Derived.Below
import Derived.Carry
namespace Go.Proofs.Ytigmpbipbkgnfab.rootGrows
open Go.ChangeShapes Go.WideShapes Go.ChangeAt Go.RowKit
open Go.ChangeMaps (open_string shut_string)
set_option linter.unusedVariables false

theorem samB_self (a b : Int) : samB a b a b = true := by simp [samB]
set_option maxHeartbeats 2000000 in
theorem guards (r y m f : Int) (w : World) (h : m < 0 ∨ (0 ≤ m ∧ f < 0) ∨ ((0 ≤ m ∧ 0 ≤ f) ∧ 100000 < m) ∨ ((0 ≤ m ∧ 0 ≤ f) ∧ m ≤ 100000 ∧ 100000 < f) ∨ ((0 ≤ m ∧ 0 ≤ f) ∧ (m ≤ 100000 ∧ f ≤ 100000) ∧ 100000 < r) ∨ ((0 ≤ m ∧ 0 ≤ f) ∧ (m ≤ 100000 ∧ f ≤ 100000) ∧ r ≤ 100000 ∧ 100000 < y)) :
    Calls Try.prog 7 #[.int .i64 r, .int .i64 y, .int .i64 m, .int .i64 f] w fun e w' => e = .returned (.bool true) ∧ Below w.heap.size w w' := by
  have HA := Lib.hid (fun W => awake_any W)
  have HB := Lib.hid (Below.refl w.heap.size w)
  rcases h with h | ⟨h, h2⟩ | ⟨⟨h, h2⟩, h3⟩ | ⟨⟨h, h2⟩, h3, h4⟩ | ⟨⟨h, h2⟩, ⟨h3, h4⟩, h5⟩ | ⟨⟨h, h2⟩, ⟨h3, h4⟩, h5, h6⟩
  all_goals
    go_enter Try.func7, Try.ntmps7
    go_wp2_with fail
    refine (HA.out _).mono ?_
    rintro e w2 ⟨rfl, h1⟩
    replace HB := Lib.hid (bel_trans HB.out h1); clear h1
    go_wp2
    go_returns
    exact ⟨rfl, HB.out⟩
set_option maxHeartbeats 2000000 in
theorem no (r y m f E : Int) (w : World) (hE : (E == 0) = false) (hE2 : (E != 0) = true) (m0 : 0 ≤ m) (m1 : m ≤ 100000) (f0 : 0 ≤ f) (f1 : f ≤ 100000) (r1 : r ≤ 100000) (y1 : y ≤ 100000)
    (H1 : Hid (∀ W, Calls Try.prog 18 #[.int .i64 r, .int .i64 y] W fun e w' => e = .returned (.tuple #[.agg #[.int .i64 0, .int .i64 0], .int .i64 E]) ∧ Below W.heap.size W w')) :
    Calls Try.prog 7 #[.int .i64 r, .int .i64 y, .int .i64 m, .int .i64 f] w fun e w' => e = .returned (.bool true) ∧ Below w.heap.size w w' := by
  have HA := Lib.hid (fun W => awake_any W)
  have Q1 : ∀ W, (binOp .eql 30 (.agg #[.int .i64 0, .int .i64 0]) (.agg #[.int .i64 0, .int .i64 0])).run Try.prog W = .ok (.bool true) W := fun W => by rw [run_eql_bounds, samB_self]
  have HB := Lib.hid (Below.refl w.heap.size w)
  go_enter Try.func7, Try.ntmps7
  go_wp2_with fail
  refine (HA.out _).mono ?_
  rintro e w4 ⟨rfl, h1⟩
  replace HB := Lib.hid (bel_trans HB.out h1); clear h1
  go_wp2_with fail
  refine (H1.out _).mono ?_
  rintro e w5 ⟨rfl, h1⟩
  replace HB := Lib.hid ((bel_trans HB.out h1).alloc (bel_trans HB.out h1).size (.cells #[.int .i64 0, .int .i64 0] 30)); clear h1
  have T1 := Lib.hid (Two.new w5 (.int .i64 0) (.int .i64 0) 30)
  obtain ⟨T10, T11, _, _, _⟩ := T1.out
  go_wp2
  go_returns
  exact ⟨rfl, HB.out⟩
set_option maxRecDepth 100000 in
set_option maxHeartbeats 8000000 in
theorem yes (r y m f a b d0 d1 e1 c0 c1 e2 : Int) (w : World) (r0 : 0 ≤ r) (r1 : r ≤ 100000) (y0 : -100000 ≤ y) (y1 : y ≤ 100000) (m0 : 0 ≤ m) (m1 : m ≤ 100000) (f0 : 0 ≤ f) (f1 : f ≤ 100000)
    (a0 : 0 ≤ a) (ab : a ≤ b) (br : b ≤ r) (h1 : (e1 == 0) = false ∨ ((e1 == 0) = true ∧ a ≤ d0 ∧ b ≤ d1)) (h2 : (e2 != 0) = true ∨ ((e2 != 0) = false ∧ c0 ≤ a ∧ c1 ≤ b))
    (H1 : Hid (∀ W, Calls Try.prog 18 #[.int .i64 r, .int .i64 y] W fun e w' => e = .returned (.tuple #[.agg #[.int .i64 a, .int .i64 b], .int .i64 0]) ∧ Below W.heap.size W w'))
    (H2 : Hid (∀ W, Calls Try.prog 18 #[.int .i64 r, .int .i64 (-y)] W fun e w' => e = .returned (.tuple #[.agg #[.int .i64 a, .int .i64 b], .int .i64 0]) ∧ Below W.heap.size W w'))
    (H3 : Hid (∀ W, Calls Try.prog 18 #[.int .i64 r, .int .i64 0] W fun e w' => e = .returned (.tuple #[.agg #[.int .i64 r, .int .i64 r], .int .i64 0]) ∧ Below W.heap.size W w'))
    (H4 : Hid (∀ W, Calls Try.prog 18 #[.int .i64 (r + m), .int .i64 y] W fun e w' => e = .returned (.tuple #[.agg #[.int .i64 d0, .int .i64 d1], .int .i64 e1]) ∧ Below W.heap.size W w'))
    (H5 : Hid (∀ W, Calls Try.prog 18 #[.int .i64 r, .int .i64 (max y (-y) + f)] W fun e w' => e = .returned (.tuple #[.agg #[.int .i64 c0, .int .i64 c1], .int .i64 e2]) ∧ Below W.heap.size W w')) :
    Calls Try.prog 7 #[.int .i64 r, .int .i64 y, .int .i64 m, .int .i64 f] w fun e w' => e = .returned (.bool true) ∧ Below w.heap.size w w' := by
  have HA := Lib.hid (fun W => awake_any W)
  have Q1 : ∀ W, (binOp .neq 30 (.agg #[.int .i64 a, .int .i64 b]) (.agg #[.int .i64 a, .int .i64 b])).run Try.prog W = .ok (.bool false) W := fun W => by rw [run_neq_bounds, samB_self]; rfl
  have Q2 : ∀ W, (binOp .neq 30 (.agg #[.int .i64 r, .int .i64 r]) (.agg #[.int .i64 r, .int .i64 r])).run Try.prog W = .ok (.bool false) W := fun W => by rw [run_neq_bounds, samB_self]; rfl
  have hm0 : 0 ≤ max y (-y) := by omega
  have hm1 : max y (-y) ≤ 100000 := by omega
  have HB := Lib.hid (Below.refl w.heap.size w)
  have K2 := Lib.hid h2
  clear h2
  rcases h1 with h1 | ⟨h1, g1, g2⟩
  all_goals
    go_enter Try.func7, Try.ntmps7
    go_wp2_with fail
    refine (HA.out _).mono ?_
    rintro e w9 ⟨rfl, h1⟩
    replace HB := Lib.hid (bel_trans HB.out h1); clear h1
    go_wp2_with fail
    refine (H1.out _).mono ?_
    rintro e w10 ⟨rfl, h1⟩
    replace HB := Lib.hid ((bel_trans HB.out h1).alloc (bel_trans HB.out h1).size (.cells #[.int .i64 a, .int .i64 b] 30)); clear h1
    have T1 := Lib.hid (Two.new w10 (.int .i64 a) (.int .i64 b) 30)
    go_wp2_with fail
    refine (H2.out _).mono ?_
    rintro e w11 ⟨rfl, h1⟩
    replace T1 := Lib.hid ((T1.out.below h1).alloc (.cells #[.int .i64 a, .int .i64 b] 30))
    replace HB := Lib.hid ((bel_trans HB.out h1).alloc (bel_trans HB.out h1).size (.cells #[.int .i64 a, .int .i64 b] 30)); clear h1
    have T2 := Lib.hid (Two.new w11 (.int .i64 a) (.int .i64 b) 30)
    go_wp2_with fail
    refine (H3.out _).mono ?_
    rintro e w12 ⟨rfl, h1⟩
    replace T1 := Lib.hid ((T1.out.below h1).alloc (.cells #[.int .i64 r, .int .i64 r] 30))
    replace T2 := Lib.hid ((T2.out.below h1).alloc (.cells #[.int .i64 r, .int .i64 r] 30))
    replace HB := Lib.hid ((bel_trans HB.out h1).alloc (bel_trans HB.out h1).size (.cells #[.int .i64 r, .int .i64 r] 30)); clear h1
    have T3 := Lib.hid (Two.new w12 (.int .i64 r) (.int .i64 r) 30)
    obtain ⟨T10, T11, _, _, _⟩ := T1.out
    obtain ⟨T20, T21, _, _, _⟩ := T2.out
    obtain ⟨T30, T31, _, _, _⟩ := T3.out
    go_wp2_with fail
    refine (H4.out _).mono ?_
    rintro e w14 ⟨rfl, h1⟩
    replace T1 := Lib.hid ((T1.out.below h1).alloc (.cells #[.int .i64 d0, .int .i64 d1] 30))
    replace T2 := Lib.hid ((T2.out.below h1).alloc (.cells #[.int .i64 d0, .int .i64 d1] 30))
    replace T3 := Lib.hid ((T3.out.below h1).alloc (.cells #[.int .i64 d0, .int .i64 d1] 30))
    replace HB := Lib.hid ((bel_trans HB.out h1).alloc (bel_trans HB.out h1).size (.cells #[.int .i64 d0, .int .i64 d1] 30)); clear h1
    have T4 := Lib.hid (Two.new w14 (.int .i64 d0) (.int .i64 d1) 30)
    obtain ⟨T10, T11, _, _, _⟩ := T1.out
    obtain ⟨T20, T21, _, _, _⟩ := T2.out
    obtain ⟨T30, T31, _, _, _⟩ := T3.out
    obtain ⟨T40, T41, _, _, _⟩ := T4.out
    go_wp2_with fail
    refine (H5.out _).mono ?_
    rintro e w16 ⟨rfl, h1⟩
    replace T1 := Lib.hid ((T1.out.below h1).alloc (.cells #[.int .i64 c0, .int .i64 c1] 30))
    replace T2 := Lib.hid ((T2.out.below h1).alloc (.cells #[.int .i64 c0, .int .i64 c1] 30))
    replace T3 := Lib.hid ((T3.out.below h1).alloc (.cells #[.int .i64 c0, .int .i64 c1] 30))
    replace T4 := Lib.hid ((T4.out.below h1).alloc (.cells #[.int .i64 c0, .int .i64 c1] 30))
    replace HB := Lib.hid ((bel_trans HB.out h1).alloc (bel_trans HB.out h1).size (.cells #[.int .i64 c0, .int .i64 c1] 30)); clear h1
    have T5 := Lib.hid (Two.new w16 (.int .i64 c0) (.int .i64 c1) 30)
    obtain ⟨T10, T11, _, _, _⟩ := T1.out
    obtain ⟨T20, T21, _, _, _⟩ := T2.out
    obtain ⟨T30, T31, _, _, _⟩ := T3.out
    obtain ⟨T40, T41, _, _, _⟩ := T4.out
    obtain ⟨T50, T51, _, _, _⟩ := T5.out
    rcases K2.out with h2 | ⟨h2, g3, g4⟩
    · go_wp2
      go_returns
      exact ⟨by first | rfl | exact ret_bool (decide_eq_true (by omega)), HB.out⟩
    · go_wp2
      go_returns
      exact ⟨by first | rfl | exact ret_bool (decide_eq_true (by omega)), HB.out⟩
theorem hf_err (r y : Int) (h : hfB r y = false) : hfE r y = 2 ∧ hfL r y = 0 ∧ hfH r y = 0 := by
  unfold hfE hfL hfH
  rw [h]
  exact ⟨rfl, rfl, rfl⟩
theorem walk (r y m f : Int) (w : World) (wr : -9223372036854775808 ≤ r ∧ r ≤ 9223372036854775807) (wy : -9223372036854775808 ≤ y ∧ y ≤ 9223372036854775807) (wm : -9223372036854775808 ≤ m ∧ m ≤ 9223372036854775807) (wf : -9223372036854775808 ≤ f ∧ f ≤ 9223372036854775807) :
    Calls Try.prog 7 #[.int .i64 r, .int .i64 y, .int .i64 m, .int .i64 f] w fun e w' => e = .returned (.bool true) ∧ Below w.heap.size w w' := by
  by_cases hg : (0 ≤ m ∧ 0 ≤ f) ∧ (m ≤ 100000 ∧ f ≤ 100000) ∧ r ≤ 100000 ∧ y ≤ 100000
  · obtain ⟨⟨m0, f0⟩, ⟨m1, f1⟩, r1, y1⟩ := hg
    have H1 := fun W => half_any r y W
    cases h : hfB r y with
    | false =>
      obtain ⟨e1, e2, e3⟩ := hf_err r y h
      rw [e1, e2, e3] at H1
      exact no r y m f 2 w (by decide) (by decide) m0 m1 f0 f1 r1 y1 H1
    | true =>
      obtain ⟨⟨r0, _⟩, y0, _⟩ := (hfB_iff r y).1 h
      have ok : ∀ s z, hfB s z = true → hfE s z = 0 := fun s z hb => by unfold hfE; rw [if_pos hb]
      have H2 := fun W => half_any r (-y) W
      have H3 := fun W => half_any r 0 W
      obtain ⟨n1, n2, n3⟩ := hf_neg r y
      obtain ⟨z1, z2, z3⟩ := hf_zero r ⟨r0, r1⟩
      rw [ok _ _ h] at H1
      rw [n2, n3, ok _ _ (n1.trans h)] at H2
      rw [z2, z3, ok _ _ z1] at H3
      obtain ⟨b0, b1, b2, b3⟩ := hf_bd r y h
      refine yes r y m f (hfL r y) (hfH r y) (hfL (r + m) y) (hfH (r + m) y) (hfE (r + m) y) (hfL r (max y (-y) + f)) (hfH r (max y (-y) + f)) (hfE r (max y (-y) + f)) w r0 r1 y0 y1 m0 m1 f0 f1 b0 b1 b3 ?_ ?_ H1 H2 H3 (fun W => half_any _ _ W) (fun W => half_any _ _ W)
      · cases h2 : hfB (r + m) y with
        | false => left; rw [(hf_err _ _ h2).1]; decide
        | true =>
          right
          rw [ok _ _ h2]
          have := hf_wider r (r + m) y (by omega) h h2
          exact ⟨by decide, this.1, this.2⟩
      · cases h2 : hfB r (max y (-y) + f) with
        | false => left; rw [(hf_err _ _ h2).1]; decide
        | true =>
          right
          rw [ok _ _ h2]
          have := hf_further r y (max y (-y) + f) (by omega) h h2
          exact ⟨by decide, this.1, this.2⟩
  · exact guards r y m f w (by omega)

set_option maxRecDepth 100000 in
theorem lifted (os : Os) (started : os.Started) (H : Type) (enc : TypeId × Value → H) :
    ReturnsInHanded {} Try.checked os 7 .any (Rows.rootGrowsSpec.pre6 enc Try.prog Try.f7 Rows.rootGrowsRow.domain false) (Rows.rootGrowsSpec.post enc Try.prog Try.f7 false true false false) := by
  refine returnsInHanded_of_change (C := Try.checked) own started (by kernel_rfl) Try.func7
    (ChangeSpec.witness6 (enc := enc) (C := Try.checked) false ⟨#[], #[.int .i64 0, .int .i64 0, .int .i64 0, .int .i64 0], []⟩ 8 (by kernel_rfl) (by kernel_rfl) (by kernel_rfl) (by kernel_rfl)) ?_
  intro W base args ds gs before hval0 hW hcnd _
  have hval : ∀ (j : Nat) t v, Try.f7.params[j]? = some t → args[j]? = some v → Value.okWide Try.prog W .any base t v := hval0
  clear hval0
  have hW' := hW
  obtain ⟨p, q, hA0, hV, rfl, hfz, hnd⟩ := hW
  have hA : DataW.TrodAll enc Try.prog W 0 (fun _ => true) true Try.f7.params.toList args.toList ds p := hA0
  rw [Try.params7] at hA hval
  obtain ⟨v0, vs0, d0, ds0, p0, q0, hargs, rfl, rfl, h0, r0⟩ := trodAll_cons hA
  obtain ⟨v1, vs1, d1, ds1, p1, q1, rfl, rfl, rfl, h1, r1⟩ := trodAll_cons r0
  obtain ⟨v2, vs2, d2, ds2, p2, q2, rfl, rfl, rfl, h2, r2⟩ := trodAll_cons r1
  obtain ⟨v3, vs3, d3, ds3, p3, q3, rfl, rfl, rfl, h3, r3⟩ := trodAll_cons r2
  obtain ⟨rfl, rfl, rfl⟩ := trodAll_nil r3
  obtain rfl : args = #[v0, v1, v2, v3] := by cases args; simp_all
  obtain ⟨rfl, rfl⟩ := trodVars_none hV
  have k0 := h0
  have lt0 : ∀ x ∈ p0, x.block < W.heap.size := by obtain ⟨m, hm⟩ := k0; exact DataW.trod_lt m _ _ _ hm
  have k1 := h1
  have lt1 : ∀ x ∈ p1, x.block < W.heap.size := by obtain ⟨m, hm⟩ := k1; exact DataW.trod_lt m _ _ _ hm
  have k2 := h2
  have lt2 : ∀ x ∈ p2, x.block < W.heap.size := by obtain ⟨m, hm⟩ := k2; exact DataW.trod_lt m _ _ _ hm
  have k3 := h3
  have lt3 : ∀ x ∈ p3, x.block < W.heap.size := by obtain ⟨m, hm⟩ := k3; exact DataW.trod_lt m _ _ _ hm
  obtain ⟨a0, rfl, rfl, rfl, w0⟩ := open_int Try.underlying3 (hval 0 3 v0 rfl rfl) h0
  obtain ⟨a1, rfl, rfl, rfl, w1⟩ := open_int Try.underlying3 (hval 1 3 v1 rfl rfl) h1
  obtain ⟨a2, rfl, rfl, rfl, w2⟩ := open_int Try.underlying3 (hval 2 3 v2 rfl rfl) h2
  obtain ⟨a3, rfl, rfl, rfl, w3⟩ := open_int Try.underlying3 (hval 3 3 v3 rfl rfl) h3
  clear hA0
  refine (walk a0 a1 a2 a3 W (wf_bd w0) (wf_bd w1) (wf_bd w2) (wf_bd w3)).mono fun e W' ⟨he, bel⟩ => ?_
  subst he
  exact ⟨_, rfl, _, _, _, [], _, [], hW', trodAll_mk1 (shut_bool Try.underlying4 _), (trodAll_cons_mk (Below.trod laidOut (by kernel_rfl) (of_decide_eq_true (by kernel_rfl)) k0 bel lt0) (trodAll_cons_mk (Below.trod laidOut (by kernel_rfl) (of_decide_eq_true (by kernel_rfl)) k1 bel lt1) (trodAll_cons_mk (Below.trod laidOut (by kernel_rfl) (of_decide_eq_true (by kernel_rfl)) k2 bel lt2) (trodAll_cons_mk (Below.trod laidOut (by kernel_rfl) (of_decide_eq_true (by kernel_rfl)) k3 bel lt3) trodAll_mk0)))), rfl, bel.frame _, fun h => by cases h⟩

theorem over : Rows.rootGrowsRow.holds Try.pinned (OpenSpec.ofChange Rows.rootGrowsSpec) :=
  OpenClaim.holds_of_wide 7 Try.f7 rfl rfl rfl rfl rfl rfl rfl ⟨rfl, rfl, rfl, rfl, rfl⟩ rfl rfl rfl rfl rfl (by kernel_rfl) Try.func7 (by kernel_rfl)
    (of_decide_eq_true (by kernel_rfl)) (by unfold Func.isWrapper; first | (rw [if_pos (by decide +kernel)]; kernel_rfl) | (rw [if_neg (by decide +kernel)]; exact ⟨rfl, rfl⟩))
    (fun os started H enc _ => lifted os started H enc)

theorem proved : Rows.RootGrowsSaid := over
#print axioms proved
end Go.Proofs.Ytigmpbipbkgnfab.rootGrows
