/-
  The statement RootFolds of spile/spilelaw06 holds: for every input the call returns true, and each argument reads afterwards as it read before.
-/
import Derived.Test.YtigmpbipbkgnfabRO
import Derived.Below
import Derived.Carry
namespace Go.Proofs.Ytigmpbipbkgnfab.rootFolds
open Go.ChangeShapes Go.WideShapes Go.ChangeAt Go.RowKit
open Go.ChangeMaps (open_string shut_string)
set_option linter.unusedVariables false

theorem no (n k E : Int) (w : World) (hE : (E == 0) = false) (hE2 : (E != 0) = true)
    (H1 : Hid (∀ W, Calls Try.prog 14 #[.int .i64 n, .int .i64 k] W fun e w' => e = .returned (.tuple #[.int .i64 0, .int .i64 E]) ∧ Below W.heap.size W w')) :
    Calls Try.prog 6 #[.int .i64 n, .int .i64 k] w fun e w' => e = .returned (.bool true) ∧ Below w.heap.size w w' := by
  have HA := Lib.hid (fun W => awake_any W)
  have HB := Lib.hid (Below.refl w.heap.size w)
  go_enter Try.func6, Try.ntmps6
  go_wp2_with fail
  refine (HA.out _).mono ?_
  rintro e w2 ⟨rfl, h1⟩
  replace HB := Lib.hid (bel_trans HB.out h1); clear h1
  go_wp2_with fail
  refine (H1.out _).mono ?_
  rintro e w3 ⟨rfl, h1⟩
  replace HB := Lib.hid (bel_trans HB.out h1); clear h1
  go_wp2
  go_returns
  exact ⟨rfl, HB.out⟩
set_option maxHeartbeats 4000000 in
theorem yes (n k a b x : Int) (w : World) (k0 : 1 ≤ k) (k1 : k ≤ 1000) (n0 : 0 ≤ n) (n1 : n ≤ 1099511627776) (a0 : 0 ≤ a) (b0 : 0 ≤ b) (a1 : a ≤ 1048576) (b1 : b ≤ 1048576) (x0 : 0 ≤ x) (x1 : x ≤ 1048576000)
    (g1 : k * a ≤ x) (g2 : x ≤ k * b) (g3 : x * x ≤ n * k * k) (g4 : n * k * k < (x + 1) * (x + 1)) (p0 : 0 ≤ n * k) (p1 : n * k ≤ 1099511627776000) (p2 : 0 ≤ n * k * k) (p3 : n * k * k ≤ 1099511627776000000)
    (q0 : 0 ≤ k * a) (q1 : k * a ≤ 1048576000) (q2 : 0 ≤ k * b) (q3 : k * b ≤ 1048576000) (q4 : 0 ≤ x * x) (q5 : x * x ≤ 1099511627776000000) (q6 : 0 ≤ (x + 1) * (x + 1)) (q7 : (x + 1) * (x + 1) ≤ 1099511629873152001)
    (H1 : Hid (∀ W, Calls Try.prog 14 #[.int .i64 n, .int .i64 k] W fun e w' => e = .returned (.tuple #[.int .i64 x, .int .i64 0]) ∧ Below W.heap.size W w'))
    (H2 : Hid (∀ W, Calls Try.prog 10 #[.int .i64 n] W fun e w' => e = .returned (.tuple #[.int .i64 a, .int .i64 0]) ∧ Below W.heap.size W w'))
    (H3 : Hid (∀ W, Calls Try.prog 12 #[.int .i64 n] W fun e w' => e = .returned (.tuple #[.int .i64 b, .int .i64 0]) ∧ Below W.heap.size W w')) :
    Calls Try.prog 6 #[.int .i64 n, .int .i64 k] w fun e w' => e = .returned (.bool true) ∧ Below w.heap.size w w' := by
  have HA := Lib.hid (fun W => awake_any W)
  have HB := Lib.hid (Below.refl w.heap.size w)
  go_enter Try.func6, Try.ntmps6
  go_wp2_with fail
  refine (HA.out _).mono ?_
  rintro e w5 ⟨rfl, h1⟩
  replace HB := Lib.hid (bel_trans HB.out h1); clear h1
  go_wp2_with fail
  refine (H1.out _).mono ?_
  rintro e w6 ⟨rfl, h1⟩
  replace HB := Lib.hid (bel_trans HB.out h1); clear h1
  go_wp2_with fail
  refine (H2.out _).mono ?_
  rintro e w7 ⟨rfl, h1⟩
  replace HB := Lib.hid (bel_trans HB.out h1); clear h1
  go_wp2_with fail
  refine (H3.out _).mono ?_
  rintro e w8 ⟨rfl, h1⟩
  replace HB := Lib.hid (bel_trans HB.out h1); clear h1
  go_wp2
  go_returns
  exact ⟨rfl, HB.out⟩
theorem walk (n k : Int) (w : World) (wn : -9223372036854775808 ≤ n ∧ n ≤ 9223372036854775807) (wk : -9223372036854775808 ≤ k ∧ k ≤ 9223372036854775807) :
    Calls Try.prog 6 #[.int .i64 n, .int .i64 k] w fun e w' => e = .returned (.bool true) ∧ Below w.heap.size w w' := by
  have H1 := fun W => fold_any n k W
  have H2 := fun W => down_any n W
  have H3 := fun W => up_any n W
  cases h : fdB n k with
  | false =>
    have e1 : fdQ n k = 0 := by unfold fdQ; rw [if_neg (by rw [h]; simp)]
    have e2 : fdE n k = 2 := by unfold fdE; rw [if_neg (by rw [h]; simp)]
    rw [e1, e2] at H1
    exact no n k 2 w (by decide) (by decide) H1
  | true =>
    obtain ⟨⟨n0, n1⟩, k0, k1⟩ := (fdB_iff n k).1 h
    obtain ⟨hr, g1, g2, x0, g3, g4, ⟨p0, p1⟩, ⟨p2, p3⟩, x1, a1, b1⟩ := fd_facts n k h
    obtain ⟨⟨a0, _⟩, b, _⟩ := rn_facts n hr
    have e1 : fdQ n k = rt (n * k * k) := by unfold fdQ; rw [if_pos h]
    have e2 : fdE n k = 0 := by unfold fdE; rw [if_pos h]
    have e3 : dnQ n = rt n := by unfold dnQ; rw [if_pos hr]
    have e4 : upR n = ce n := by unfold upR; rw [if_pos hr]
    have e5 : rnE n = 0 := by unfold rnE; rw [if_pos hr]
    rw [e1, e2] at H1
    rw [e3, e5] at H2
    rw [e4, e5] at H3
    have b0 : 0 ≤ ce n := by omega
    have m1 : k * rt n ≤ 1000 * 1048576 := Int.mul_le_mul k1 a1 a0 (by omega)
    have m2 : k * ce n ≤ 1000 * 1048576 := Int.mul_le_mul k1 b1 b0 (by omega)
    have m3 := sq_mono (show 0 ≤ rt (n * k * k) + 1 by omega) (show rt (n * k * k) + 1 ≤ 1048576001 by omega)
    exact yes n k (rt n) (ce n) (rt (n * k * k)) w k0 k1 n0 n1 a0 b0 a1 b1 x0 x1 g1 g2 g3 g4 p0 p1 p2 p3 (Int.mul_nonneg (by omega) a0) (by omega) (Int.mul_nonneg (by omega) b0) (by omega) (Int.mul_nonneg x0 x0) (by omega) (Int.mul_nonneg (by omega) (by omega)) (by omega) H1 H2 H3

set_option maxRecDepth 100000 in
theorem lifted (os : Os) (started : os.Started) (H : Type) (enc : TypeId × Value → H) :
    ReturnsInHanded {} Try.checked os 6 .any (Rows.rootFoldsSpec.pre6 enc Try.prog Try.f6 Rows.rootFoldsRow.domain false) (Rows.rootFoldsSpec.post enc Try.prog Try.f6 false true false false) := by
  refine returnsInHanded_of_change (C := Try.checked) own started (by kernel_rfl) Try.func6
    (ChangeSpec.witness6 (enc := enc) (C := Try.checked) false ⟨#[], #[.int .i64 0, .int .i64 0], []⟩ 8 (by kernel_rfl) (by kernel_rfl) (by kernel_rfl) (by kernel_rfl)) ?_
  intro W base args ds gs before hval0 hW hcnd _
  have hval : ∀ (j : Nat) t v, Try.f6.params[j]? = some t → args[j]? = some v → Value.okWide Try.prog W .any base t v := hval0
  clear hval0
  have hW' := hW
  obtain ⟨p, q, hA0, hV, rfl, hfz, hnd⟩ := hW
  have hA : DataW.TrodAll enc Try.prog W 0 (fun _ => true) true Try.f6.params.toList args.toList ds p := hA0
  rw [Try.params6] at hA hval
  obtain ⟨v0, vs0, d0, ds0, p0, q0, hargs, rfl, rfl, h0, r0⟩ := trodAll_cons hA
  obtain ⟨v1, vs1, d1, ds1, p1, q1, rfl, rfl, rfl, h1, r1⟩ := trodAll_cons r0
  obtain ⟨rfl, rfl, rfl⟩ := trodAll_nil r1
  obtain rfl : args = #[v0, v1] := by cases args; simp_all
  obtain ⟨rfl, rfl⟩ := trodVars_none hV
  have k0 := h0
  have lt0 : ∀ x ∈ p0, x.block < W.heap.size := by obtain ⟨m, hm⟩ := k0; exact DataW.trod_lt m _ _ _ hm
  have k1 := h1
  have lt1 : ∀ x ∈ p1, x.block < W.heap.size := by obtain ⟨m, hm⟩ := k1; exact DataW.trod_lt m _ _ _ hm
  obtain ⟨a0, rfl, rfl, rfl, w0⟩ := open_int Try.underlying3 (hval 0 3 v0 rfl rfl) h0
  obtain ⟨a1, rfl, rfl, rfl, w1⟩ := open_int Try.underlying3 (hval 1 3 v1 rfl rfl) h1
  clear hA0
  refine (walk a0 a1 W (wf_bd w0) (wf_bd w1)).mono fun e W' ⟨he, bel⟩ => ?_
  subst he
  exact ⟨_, rfl, _, _, _, [], _, [], hW', trodAll_mk1 (shut_bool Try.underlying4 _), (trodAll_cons_mk (Below.trod laidOut (by kernel_rfl) (of_decide_eq_true (by kernel_rfl)) k0 bel lt0) (trodAll_cons_mk (Below.trod laidOut (by kernel_rfl) (of_decide_eq_true (by kernel_rfl)) k1 bel lt1) trodAll_mk0)), rfl, bel.frame _, fun h => by cases h⟩

theorem over : Rows.rootFoldsRow.holds Try.pinned (OpenSpec.ofChange Rows.rootFoldsSpec) :=
  OpenClaim.holds_of_wide 6 Try.f6 rfl rfl rfl rfl rfl rfl rfl ⟨rfl, rfl, rfl, rfl, rfl⟩ rfl rfl rfl rfl rfl (by kernel_rfl) Try.func6 (by kernel_rfl)
    (of_decide_eq_true (by kernel_rfl)) (by unfold Func.isWrapper; first | (rw [if_pos (by decide +kernel)]; kernel_rfl) | (rw [if_neg (by decide +kernel)]; exact ⟨rfl, rfl⟩))
    (fun os started H enc _ => lifted os started H enc)

theorem proved : Rows.RootFoldsSaid := over
#print axioms proved
end Go.Proofs.Ytigmpbipbkgnfab.rootFolds
