/-
  The statement ProportionExact of spile/spilelaw01 holds: for every input the call returns true, and each argument reads afterwards as it read before.
-/
import Derived.Test.YtlpngfngdigchaaAwake1
import Derived.Test.YtlpngfngdigchaaRef3
import Derived.Test.YtlpngfngdigchaaOpen
import Derived.Below
import Derived.Carry
namespace Go.Proofs.Ytlpngfngdigchaa.proportionExact
open Go.ChangeShapes Go.WideShapes Go.ChangeAt Go.RowKit
open Go.ChangeMaps (open_string shut_string)
set_option linter.unusedVariables false

theorem walk (a b c d : Int) (w : World) (wa : -9223372036854775808 ≤ a ∧ a ≤ 9223372036854775807) (wb : -9223372036854775808 ≤ b ∧ b ≤ 9223372036854775807) (wc : -9223372036854775808 ≤ c ∧ c ≤ 9223372036854775807) (wd : -9223372036854775808 ≤ d ∧ d ≤ 9223372036854775807) :
    Calls Try.prog 3 #[.agg #[.int .i64 a, .int .i64 b, .int .i64 c, .int .i64 d]] w fun e w' => e = .returned (.bool true) ∧ Below w.heap.size w w' := by
  clear wa wb wc wd
  have HOf := Lib.hid (of_any a b c)
  have HOc := Lib.hid (ofChecked_any a b c)
  have HUp := Lib.hid (up_any a b c)
  have HRu := Lib.hid (refUp_any a b c)
  have HCo := Lib.hid (compare_any a b c d)
  have HRc := Lib.hid (refCompare_any a b c d)
  generalize upQ (ofQ a b c) (ofR a b c) (ofE a b c) = u at *
  generalize upE (ofQ a b c) (ofR a b c) (ofE a b c) = g at *
  generalize ofQ a b c = q at *
  generalize ofR a b c = r at *
  generalize ofE a b c = x at *
  generalize cmpC a b c d = m at *
  generalize cmpE a b c d = k at *
  go_enter Try.func3, Try.ntmps3
  go_wp2_with fail
  refine (awake_any _).mono ?_
  rintro e w1 ⟨rfl, h1⟩
  have HB := Lib.hid (bel_alloc h1)
  have hs := fun o => (bcell h1).1 w.heap.size o (by simp)
  have z1 : w.heap.size < w1.heap.size := by have := h1.size; simp at this; omega
  clear h1
  have S0 : w1.cell? ⟨w.heap.size, 0, none⟩ = some (.int .i64 a) := by rw [hs]; simp [World.cell?_alloc_new]
  have S1 : w1.cell? ⟨w.heap.size, 1, none⟩ = some (.int .i64 b) := by rw [hs]; simp [World.cell?_alloc_new]
  have S2 : w1.cell? ⟨w.heap.size, 2, none⟩ = some (.int .i64 c) := by rw [hs]; simp [World.cell?_alloc_new]
  have S3 : w1.cell? ⟨w.heap.size, 3, none⟩ = some (.int .i64 d) := by rw [hs]; simp [World.cell?_alloc_new]
  clear hs
  go_wp2_with fail
  refine (HOf.out _).mono ?_
  rintro e w2 ⟨rfl, h1⟩
  replace HB := Lib.hid (bel_trans HB.out h1)
  replace S0 := ((bcell h1).1 w.heap.size 0 (by omega)).trans S0
  replace S1 := ((bcell h1).1 w.heap.size 1 (by omega)).trans S1
  replace S2 := ((bcell h1).1 w.heap.size 2 (by omega)).trans S2
  replace S3 := ((bcell h1).1 w.heap.size 3 (by omega)).trans S3
  replace z1 : w.heap.size < w2.heap.size := by have := h1.size; omega
  clear h1
  go_wp2_with fail
  refine (HOc.out _).mono ?_
  rintro e w3 ⟨rfl, h1⟩
  replace HB := Lib.hid (bel_trans HB.out h1)
  replace S0 := ((bcell h1).1 w.heap.size 0 (by omega)).trans S0
  replace S1 := ((bcell h1).1 w.heap.size 1 (by omega)).trans S1
  replace S2 := ((bcell h1).1 w.heap.size 2 (by omega)).trans S2
  replace S3 := ((bcell h1).1 w.heap.size 3 (by omega)).trans S3
  replace z1 : w.heap.size < w3.heap.size := by have := h1.size; omega
  clear h1
  go_wp2_with fail
  refine (HUp.out _).mono ?_
  rintro e w4 ⟨rfl, h1⟩
  replace HB := Lib.hid (bel_trans HB.out h1)
  replace S0 := ((bcell h1).1 w.heap.size 0 (by omega)).trans S0
  replace S1 := ((bcell h1).1 w.heap.size 1 (by omega)).trans S1
  replace S2 := ((bcell h1).1 w.heap.size 2 (by omega)).trans S2
  replace S3 := ((bcell h1).1 w.heap.size 3 (by omega)).trans S3
  replace z1 : w.heap.size < w4.heap.size := by have := h1.size; omega
  clear h1
  go_wp2_with fail
  refine (HRu.out _).mono ?_
  rintro e w5 ⟨rfl, h1⟩
  replace HB := Lib.hid (bel_trans HB.out h1)
  replace S0 := ((bcell h1).1 w.heap.size 0 (by omega)).trans S0
  replace S1 := ((bcell h1).1 w.heap.size 1 (by omega)).trans S1
  replace S2 := ((bcell h1).1 w.heap.size 2 (by omega)).trans S2
  replace S3 := ((bcell h1).1 w.heap.size 3 (by omega)).trans S3
  replace z1 : w.heap.size < w5.heap.size := by have := h1.size; omega
  clear h1
  go_wp2_with fail
  refine (HCo.out _).mono ?_
  rintro e w6 ⟨rfl, h1⟩
  replace HB := Lib.hid (bel_trans HB.out h1)
  replace S0 := ((bcell h1).1 w.heap.size 0 (by omega)).trans S0
  replace S1 := ((bcell h1).1 w.heap.size 1 (by omega)).trans S1
  replace S2 := ((bcell h1).1 w.heap.size 2 (by omega)).trans S2
  replace S3 := ((bcell h1).1 w.heap.size 3 (by omega)).trans S3
  clear h1 z1
  go_wp2_with fail
  refine (HRc.out _).mono ?_
  rintro e w7 ⟨rfl, h1⟩
  replace HB := Lib.hid (bel_trans HB.out h1)
  clear h1 S0 S1 S2 S3
  go_wp2
  go_ret
  exact ⟨rfl, HB.out⟩

set_option maxRecDepth 100000 in
theorem lifted (os : Os) (started : os.Started) (H : Type) (enc : TypeId × Value → H) :
    ReturnsInHanded {} Try.checked os 3 .any (Rows.proportionExactSpec.pre6 enc Try.prog Try.f3 Rows.proportionExactRow.domain false) (Rows.proportionExactSpec.post enc Try.prog Try.f3 false true false false) := by
  refine returnsInHanded_of_change (C := Try.checked) own started (by kernel_rfl) Try.func3
    (ChangeSpec.witness6 (enc := enc) (C := Try.checked) false ⟨#[], #[.agg #[.int .i64 0, .int .i64 0, .int .i64 0, .int .i64 0]], []⟩ 8 (by kernel_rfl) (by kernel_rfl) (by kernel_rfl) (by kernel_rfl)) ?_
  intro W base args ds gs before hval0 hW hcnd _
  have hval : ∀ (j : Nat) t v, Try.f3.params[j]? = some t → args[j]? = some v → Value.okWide Try.prog W .any base t v := hval0
  have hW' := hW
  obtain ⟨p, q, hA0, hV, rfl, hfz, hnd⟩ := hW
  have hA : DataW.TrodAll enc Try.prog W 0 (fun _ => true) true Try.f3.params.toList args.toList ds p := hA0
  rw [Try.params3] at hA hval
  obtain ⟨v0, vs0, d0, ds0, p0, q0, hargs, rfl, rfl, h0, r0⟩ := trodAll_cons hA
  obtain ⟨rfl, rfl, rfl⟩ := trodAll_nil r0
  obtain rfl : args = #[v0] := by cases args; simp_all
  obtain ⟨rfl, rfl⟩ := trodVars_none hV
  have k0 := h0
  have lt0 : ∀ x ∈ p0, x.block < W.heap.size := by obtain ⟨m, hm⟩ := k0; exact DataW.trod_lt m _ _ _ hm
  obtain ⟨z0, l0, rfl, b0⟩ := open_intArr Try.underlying22 Try.underlying3 (by kernel_rfl) (by kernel_rfl) (hval 0 22 v0 rfl rfl) h0
  obtain ⟨x0_0, x0_1, x0_2, x0_3, rfl⟩ := list_four l0
  clear hA0 hval0
  refine (walk x0_0 x0_1 x0_2 x0_3 W (wf_bd (b0 x0_0 (by simp))) (wf_bd (b0 x0_1 (by simp))) (wf_bd (b0 x0_2 (by simp))) (wf_bd (b0 x0_3 (by simp)))).mono fun e W' ⟨he, bel⟩ => ?_
  subst he
  exact ⟨_, rfl, _, _, _, [], _, [], hW', trodAll_mk1 (shut_bool Try.underlying4 _), (trodAll_cons_mk (Below.trod laidOut (by kernel_rfl) (of_decide_eq_true (by kernel_rfl)) k0 bel lt0) trodAll_mk0), rfl, bel.frame _, fun h => by cases h⟩

theorem over : Rows.proportionExactRow.holds Try.pinned (OpenSpec.ofChange Rows.proportionExactSpec) :=
  OpenClaim.holds_of_wide 3 Try.f3 rfl rfl rfl rfl rfl rfl rfl ⟨rfl, rfl, rfl, rfl, rfl⟩ rfl rfl rfl rfl rfl (by kernel_rfl) Try.func3 (by kernel_rfl)
    (of_decide_eq_true (by kernel_rfl)) (by unfold Func.isWrapper; first | (rw [if_pos (by decide +kernel)]; kernel_rfl) | (rw [if_neg (by decide +kernel)]; exact ⟨rfl, rfl⟩))
    (fun os started H enc _ => lifted os started H enc)

theorem proved : Rows.ProportionExactSaid := over
#print axioms proved
end Go.Proofs.Ytlpngfngdigchaa.proportionExact
