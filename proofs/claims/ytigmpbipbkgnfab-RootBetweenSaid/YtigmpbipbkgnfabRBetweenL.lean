/-
  The statement RootBetween of spile/spilelaw06 holds: for every input the call returns true, and each argument reads afterwards as it read before.
-/
import Derived.Test.YtigmpbipbkgnfabRO
import Derived.Below
import Derived.Carry
namespace Go.Proofs.Ytigmpbipbkgnfab.rootBetween
open Go.ChangeShapes Go.WideShapes Go.ChangeAt Go.RowKit
open Go.ChangeMaps (open_string shut_string)
set_option linter.unusedVariables false

set_option maxHeartbeats 2000000 in
theorem no (n E : Int) (w : World) (hE : (E == 0) = false) (hE2 : (E != 0) = true)
    (H1 : Hid (∀ W, Calls Try.prog 10 #[.int .i64 n] W fun e w' => e = .returned (.tuple #[.int .i64 0, .int .i64 E]) ∧ Below W.heap.size W w'))
    (H2 : Hid (∀ W, Calls Try.prog 12 #[.int .i64 n] W fun e w' => e = .returned (.tuple #[.int .i64 0, .int .i64 E]) ∧ Below W.heap.size W w'))
    (H3 : Hid (∀ W, Calls Try.prog 16 #[.int .i64 n] W fun e w' => e = .returned (.bool false) ∧ Below W.heap.size W w')) :
    Calls Try.prog 5 #[.int .i64 n] w fun e w' => e = .returned (.bool true) ∧ Below w.heap.size w w' := by
  have HA := Lib.hid (fun W => awake_any W)
  have HB := Lib.hid (Below.refl w.heap.size w)
  go_enter Try.func5, Try.ntmps5
  go_wp2_with fail
  refine (HA.out _).mono ?_
  rintro e w2 ⟨rfl, h1⟩
  replace HB := Lib.hid (bel_trans HB.out h1); clear h1
  go_wp2_with fail
  refine (H1.out _).mono ?_
  rintro e w3 ⟨rfl, h1⟩
  replace HB := Lib.hid (bel_trans HB.out h1); clear h1
  go_wp2_with fail
  refine (H2.out _).mono ?_
  rintro e w4 ⟨rfl, h1⟩
  replace HB := Lib.hid (bel_trans HB.out h1); clear h1
  go_wp2_with fail
  refine (H3.out _).mono ?_
  rintro e w5 ⟨rfl, h1⟩
  replace HB := Lib.hid (bel_trans HB.out h1); clear h1
  go_wp2
  go_returns
  exact ⟨rfl, HB.out⟩
set_option maxHeartbeats 4000000 in
theorem yes (n a b : Int) (w : World) (a0 : 0 ≤ a) (a1 : a ≤ 33554432) (b0 : 0 ≤ b) (b1 : b ≤ 33554433) (g1 : a * a ≤ n) (g2 : n < (a + 1) * (a + 1)) (g3 : n ≤ b * b)
    (p0 : 0 ≤ a * a) (p1 : a * a ≤ 1125899906842624) (p2 : (a + 1) * (a + 1) ≤ 1125899973951489) (p3 : 0 ≤ b * b) (p4 : b * b ≤ 1125899973951489) (p5 : 0 ≤ (a + 1) * (a + 1))
    (h : ((a == b) = true ∧ (b == a) = true ∧ (b != a) = false ∧ (a * a == n) = true) ∨ ((a == b) = false ∧ (b == a) = false ∧ (b != a) = true ∧ (a * a == n) = false ∧ (b == a + 1) = true ∧ (b != a + 1) = false))
    (H1 : Hid (∀ W, Calls Try.prog 10 #[.int .i64 n] W fun e w' => e = .returned (.tuple #[.int .i64 a, .int .i64 0]) ∧ Below W.heap.size W w'))
    (H2 : Hid (∀ W, Calls Try.prog 12 #[.int .i64 n] W fun e w' => e = .returned (.tuple #[.int .i64 b, .int .i64 0]) ∧ Below W.heap.size W w'))
    (H3 : Hid (∀ W, Calls Try.prog 16 #[.int .i64 n] W fun e w' => e = .returned (.bool (a == b)) ∧ Below W.heap.size W w')) :
    Calls Try.prog 5 #[.int .i64 n] w fun e w' => e = .returned (.bool true) ∧ Below w.heap.size w w' := by
  have HA := Lib.hid (fun W => awake_any W)
  have HB := Lib.hid (Below.refl w.heap.size w)
  rcases h with ⟨h1, h2, h3, h4⟩ | ⟨h1, h2, h3, h4, h5, h6⟩
  · rw [h1] at H3
    go_enter Try.func5, Try.ntmps5
    go_wp2_with fail
    refine (HA.out _).mono ?_
    rintro e w7 ⟨rfl, h1⟩
    replace HB := Lib.hid (bel_trans HB.out h1); clear h1
    go_wp2_with fail
    refine (H1.out _).mono ?_
    rintro e w8 ⟨rfl, h1⟩
    replace HB := Lib.hid (bel_trans HB.out h1); clear h1
    go_wp2_with fail
    refine (H2.out _).mono ?_
    rintro e w9 ⟨rfl, h1⟩
    replace HB := Lib.hid (bel_trans HB.out h1); clear h1
    go_wp2_with fail
    refine (H3.out _).mono ?_
    rintro e w10 ⟨rfl, h1⟩
    replace HB := Lib.hid (bel_trans HB.out h1); clear h1
    go_wp2
    go_returns
    exact ⟨rfl, HB.out⟩
  · rw [h1] at H3
    go_enter Try.func5, Try.ntmps5
    go_wp2_with fail
    refine (HA.out _).mono ?_
    rintro e w11 ⟨rfl, h1⟩
    replace HB := Lib.hid (bel_trans HB.out h1); clear h1
    go_wp2_with fail
    refine (H1.out _).mono ?_
    rintro e w12 ⟨rfl, h1⟩
    replace HB := Lib.hid (bel_trans HB.out h1); clear h1
    go_wp2_with fail
    refine (H2.out _).mono ?_
    rintro e w13 ⟨rfl, h1⟩
    replace HB := Lib.hid (bel_trans HB.out h1); clear h1
    go_wp2_with fail
    refine (H3.out _).mono ?_
    rintro e w14 ⟨rfl, h1⟩
    replace HB := Lib.hid (bel_trans HB.out h1); clear h1
    go_wp2
    go_returns
    exact ⟨rfl, HB.out⟩
theorem walk (n : Int) (w : World) (wn : -9223372036854775808 ≤ n ∧ n ≤ 9223372036854775807) :
    Calls Try.prog 5 #[.int .i64 n] w fun e w' => e = .returned (.bool true) ∧ Below w.heap.size w w' := by
  have H1 := fun W => down_any n W
  have H2 := fun W => up_any n W
  have H3 := fun W => square_any n W
  cases h : rnB n with
  | false =>
    have e1 : dnQ n = 0 := by unfold dnQ; rw [if_neg (by rw [h]; simp)]
    have e2 : upR n = 0 := by unfold upR; rw [if_neg (by rw [h]; simp)]
    have e3 : rnE n = 2 := by unfold rnE; rw [if_neg (by rw [h]; simp)]
    have e4 : sqB n = false := by unfold sqB; rw [h]; rfl
    rw [e1, e3] at H1
    rw [e2, e3] at H2
    rw [e4] at H3
    exact no n 2 w (by decide) (by decide) H1 H2 H3
  | true =>
    have e1 : dnQ n = rt n := by unfold dnQ; rw [if_pos h]
    have e2 : upR n = ce n := by unfold upR; rw [if_pos h]
    have e3 : rnE n = 0 := by unfold rnE; rw [if_pos h]
    have e4 : sqB n = (rt n == ce n) := by unfold sqB; rw [h, Bool.eq_iff_iff]; simp
    rw [e1, e3] at H1
    rw [e2, e3] at H2
    rw [e4] at H3
    obtain ⟨⟨a0, a1⟩, b, g1, g2, g3, g4⟩ := rn_facts n h
    obtain ⟨b1, b0, p0, p1, p2, p3, p4⟩ := rn_sq n h
    refine yes n (rt n) (ce n) w a0 a1 b0 b1 g1 g2 g3 p0 p1 p2 p3 p4 (Int.mul_nonneg (by omega) (by omega)) ?_ H1 H2 H3
    by_cases hq : rt n = ce n
    · left
      have := g4.1 hq
      simp [← hq, this]
    · right
      have hn : ¬ rt n * rt n = n := fun hc => hq (g4.2 hc)
      have hc : ce n = rt n + 1 := by omega
      simp [hn, hc]
      omega

set_option maxRecDepth 100000 in
theorem lifted (os : Os) (started : os.Started) (H : Type) (enc : TypeId × Value → H) :
    ReturnsInHanded {} Try.checked os 5 .any (Rows.rootBetweenSpec.pre6 enc Try.prog Try.f5 Rows.rootBetweenRow.domain false) (Rows.rootBetweenSpec.post enc Try.prog Try.f5 false true false false) := by
  refine returnsInHanded_of_change (C := Try.checked) own started (by kernel_rfl) Try.func5
    (ChangeSpec.witness6 (enc := enc) (C := Try.checked) false ⟨#[], #[.int .i64 0], []⟩ 8 (by kernel_rfl) (by kernel_rfl) (by kernel_rfl) (by kernel_rfl)) ?_
  intro W base args ds gs before hval0 hW hcnd _
  have hval : ∀ (j : Nat) t v, Try.f5.params[j]? = some t → args[j]? = some v → Value.okWide Try.prog W .any base t v := hval0
  clear hval0
  have hW' := hW
  obtain ⟨p, q, hA0, hV, rfl, hfz, hnd⟩ := hW
  have hA : DataW.TrodAll enc Try.prog W 0 (fun _ => true) true Try.f5.params.toList args.toList ds p := hA0
  rw [Try.params5] at hA hval
  obtain ⟨v0, vs0, d0, ds0, p0, q0, hargs, rfl, rfl, h0, r0⟩ := trodAll_cons hA
  obtain ⟨rfl, rfl, rfl⟩ := trodAll_nil r0
  obtain rfl : args = #[v0] := by cases args; simp_all
  obtain ⟨rfl, rfl⟩ := trodVars_none hV
  have k0 := h0
  have lt0 : ∀ x ∈ p0, x.block < W.heap.size := by obtain ⟨m, hm⟩ := k0; exact DataW.trod_lt m _ _ _ hm
  obtain ⟨a0, rfl, rfl, rfl, w0⟩ := open_int Try.underlying3 (hval 0 3 v0 rfl rfl) h0
  clear hA0
  refine (walk a0 W (wf_bd w0)).mono fun e W' ⟨he, bel⟩ => ?_
  subst he
  exact ⟨_, rfl, _, _, _, [], _, [], hW', trodAll_mk1 (shut_bool Try.underlying4 _), (trodAll_cons_mk (Below.trod laidOut (by kernel_rfl) (of_decide_eq_true (by kernel_rfl)) k0 bel lt0) trodAll_mk0), rfl, bel.frame _, fun h => by cases h⟩

theorem over : Rows.rootBetweenRow.holds Try.pinned (OpenSpec.ofChange Rows.rootBetweenSpec) :=
  OpenClaim.holds_of_wide 5 Try.f5 rfl rfl rfl rfl rfl rfl rfl ⟨rfl, rfl, rfl, rfl, rfl⟩ rfl rfl rfl rfl rfl (by kernel_rfl) Try.func5 (by kernel_rfl)
    (of_decide_eq_true (by kernel_rfl)) (by unfold Func.isWrapper; first | (rw [if_pos (by decide +kernel)]; kernel_rfl) | (rw [if_neg (by decide +kernel)]; exact ⟨rfl, rfl⟩))
    (fun os started H enc _ => lifted os started H enc)

theorem proved : Rows.RootBetweenSaid := over
#print axioms proved
end Go.Proofs.Ytigmpbipbkgnfab.rootBetween
