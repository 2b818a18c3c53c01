/-
  The statement ProportionOrder of spile/spilelaw01 holds: for every input the call returns true, and each argument reads afterwards as it read before.
-/
import Derived.Test.YtlpngfngdigchaaAwake1
import Derived.Test.YtlpngfngdigchaaRef3
import Derived.Test.YtlpngfngdigchaaOpen
import Derived.Below
import Derived.Carry
namespace Go.Proofs.Ytlpngfngdigchaa.proportionOrder
open Go.ChangeShapes Go.WideShapes Go.ChangeAt Go.RowKit
open Go.ChangeMaps (open_string shut_string)
set_option linter.unusedVariables false

theorem cmpE_symm (a b c d : Int) : cmpE a b c d = cmpE c d a b := by
  unfold cmpE
  cases isAm a <;> cases isAm b <;> cases isAm c <;> cases isAm d <;> simp
  by_cases h1 : b = 0 <;> by_cases h2 : d = 0 <;> simp [h1, h2]
theorem cmpE_ok {a b c d : Int} (h : cmpE a b c d = 0) : (0 ≤ a ∧ 1 ≤ b ∧ 0 ≤ c ∧ 1 ≤ d) ∧ isAm a = true ∧ isAm b = true ∧ isAm c = true ∧ isAm d = true := by
  unfold cmpE at h
  split at h
  · rename_i h1
    simp only [Bool.and_eq_true] at h1
    have ha := (isAm_iff a).1 h1.1.1.1
    have hb := (isAm_iff b).1 h1.1.1.2
    have hc := (isAm_iff c).1 h1.1.2
    have hd := (isAm_iff d).1 h1.2
    split at h
    · omega
    · split at h
      · omega
      · exact ⟨by omega, h1.1.1.1, h1.1.1.2, h1.1.2, h1.2⟩
  · omega
theorem cmpE_of {a b c d : Int} (h : 0 ≤ a ∧ 1 ≤ b ∧ 0 ≤ c ∧ 1 ≤ d) (ha : isAm a = true) (hb : isAm b = true) (hc : isAm c = true) (hd : isAm d = true) : cmpE a b c d = 0 := by
  unfold cmpE; rw [ha, hb, hc, hd]
  simp; omega
theorem cmpN_bd (p q : Int) : -1 ≤ cmpN p q ∧ cmpN p q ≤ 1 ∧ cmpN q p = -cmpN p q ∧ (cmpN p q ≤ 0 ↔ p ≤ q) ∧ (0 ≤ cmpN p q ↔ q ≤ p) := by
  unfold cmpN; grind
theorem ratio_trans (a b c d e f : Int) (hb : 1 ≤ b) (hd : 1 ≤ d) (hf : 1 ≤ f) (h1 : a * d ≤ c * b) (h2 : c * f ≤ e * d) : a * f ≤ e * b := by
  have t1 : a * d * f ≤ c * b * f := Int.mul_le_mul_of_nonneg_right h1 (by omega)
  have t2 : c * f * b ≤ e * d * b := Int.mul_le_mul_of_nonneg_right h2 (by omega)
  have t3 : a * f * d ≤ e * b * d := by
    have e1 : a * d * f = a * f * d := Int.mul_right_comm ..
    have e2 : c * b * f = c * f * b := Int.mul_right_comm ..
    have e3 : e * d * b = e * b * d := Int.mul_right_comm ..
    omega
  exact Int.le_of_mul_le_mul_right t3 (by omega)

/-- what one call of Compare says -/
def Cmp (a b c d m k : Int) : Prop := ∀ W, Calls Try.prog 13 #[.int .i64 a, .int .i64 b, .int .i64 c, .int .i64 d] W fun e w' => e = .returned (.tuple #[.int .i64 m, .int .i64 k]) ∧ Below W.heap.size W w'

set_option maxHeartbeats 2000000 in
theorem order_walk (x0 x1 x2 x3 x4 x5 a b c d e f g h : Int) (w : World) (C1 : Hid (Cmp x0 x1 x2 x3 a e)) (C2 : Hid (Cmp x2 x3 x0 x1 b f)) (C3 : Hid (Cmp x2 x3 x4 x5 c g)) (C4 : Hid (Cmp x0 x1 x4 x5 d h))
    (hc : Hid ((e ≠ 0 ∧ f = e ∧ a = 0 ∧ b = 0) ∨ (e = 0 ∧ f = 0 ∧ b = -a ∧ -1 ≤ a ∧ a ≤ 1 ∧ g ≠ 0 ∧ h = g) ∨ (e = 0 ∧ f = 0 ∧ g = 0 ∧ h = 0 ∧ b = -a ∧ -1 ≤ a ∧ a ≤ 1 ∧ (a ≤ 0 → c ≤ 0 → d ≤ 0) ∧ (0 ≤ a → 0 ≤ c → 0 ≤ d)))) :
    Calls Try.prog 7 #[.agg #[.int .i64 x0, .int .i64 x1, .int .i64 x2, .int .i64 x3, .int .i64 x4, .int .i64 x5]] w fun e w' => e = .returned (.bool true) ∧ Below w.heap.size w w' := by
  go_enter Try.func7, Try.ntmps7
  go_wp2_with fail
  refine (awake_any _).mono ?_
  rintro _ w1 ⟨rfl, h1⟩
  have HB := Lib.hid (bel_alloc h1)
  have hs := fun o => (bcell h1).1 w.heap.size o (by simp)
  have z1 : w.heap.size < w1.heap.size := by have := h1.size; simp at this; omega
  clear h1
  have S0 : w1.cell? ⟨w.heap.size, 0, none⟩ = some (.int .i64 x0) := by rw [hs]; simp [World.cell?_alloc_new]
  have S1 : w1.cell? ⟨w.heap.size, 1, none⟩ = some (.int .i64 x1) := by rw [hs]; simp [World.cell?_alloc_new]
  have S2 : w1.cell? ⟨w.heap.size, 2, none⟩ = some (.int .i64 x2) := by rw [hs]; simp [World.cell?_alloc_new]
  have S3 : w1.cell? ⟨w.heap.size, 3, none⟩ = some (.int .i64 x3) := by rw [hs]; simp [World.cell?_alloc_new]
  have S4 : w1.cell? ⟨w.heap.size, 4, none⟩ = some (.int .i64 x4) := by rw [hs]; simp [World.cell?_alloc_new]
  have S5 : w1.cell? ⟨w.heap.size, 5, none⟩ = some (.int .i64 x5) := by rw [hs]; simp [World.cell?_alloc_new]
  clear hs
  go_wp2_with fail
  refine (C1.out _).mono ?_
  rintro _ w2 ⟨rfl, h1⟩
  replace HB := Lib.hid (bel_trans HB.out h1)
  replace S0 := ((bcell h1).1 w.heap.size 0 (by omega)).trans S0
  replace S1 := ((bcell h1).1 w.heap.size 1 (by omega)).trans S1
  replace S2 := ((bcell h1).1 w.heap.size 2 (by omega)).trans S2
  replace S3 := ((bcell h1).1 w.heap.size 3 (by omega)).trans S3
  replace S4 := ((bcell h1).1 w.heap.size 4 (by omega)).trans S4
  replace S5 := ((bcell h1).1 w.heap.size 5 (by omega)).trans S5
  replace z1 : w.heap.size < w2.heap.size := by have := h1.size; omega
  clear h1
  go_wp2_with fail
  refine (C2.out _).mono ?_
  rintro _ w3 ⟨rfl, h1⟩
  replace HB := Lib.hid (bel_trans HB.out h1)
  replace S0 := ((bcell h1).1 w.heap.size 0 (by omega)).trans S0
  replace S1 := ((bcell h1).1 w.heap.size 1 (by omega)).trans S1
  replace S2 := ((bcell h1).1 w.heap.size 2 (by omega)).trans S2
  replace S3 := ((bcell h1).1 w.heap.size 3 (by omega)).trans S3
  replace S4 := ((bcell h1).1 w.heap.size 4 (by omega)).trans S4
  replace S5 := ((bcell h1).1 w.heap.size 5 (by omega)).trans S5
  replace z1 : w.heap.size < w3.heap.size := by have := h1.size; omega
  clear h1
  go_wp2_with fail
  refine (C3.out _).mono ?_
  rintro _ w4 ⟨rfl, h1⟩
  replace HB := Lib.hid (bel_trans HB.out h1)
  replace S0 := ((bcell h1).1 w.heap.size 0 (by omega)).trans S0
  replace S1 := ((bcell h1).1 w.heap.size 1 (by omega)).trans S1
  replace S4 := ((bcell h1).1 w.heap.size 4 (by omega)).trans S4
  replace S5 := ((bcell h1).1 w.heap.size 5 (by omega)).trans S5
  clear h1 S2 S3 z1
  go_wp2_with fail
  refine (C4.out _).mono ?_
  rintro _ w5 ⟨rfl, h1⟩
  replace HB := Lib.hid (bel_trans HB.out h1)
  clear h1 S0 S1 S4 S5
  rcases hc.out with ⟨h1, rfl, rfl, rfl⟩ | ⟨rfl, rfl, rfl, h1, h2, h3, rfl⟩ | ⟨rfl, rfl, rfl, rfl, rfl, h1, h2, h3, h4⟩
  · have hb := bneq h1
    clear hc h1
    go_wp2
    go_ret
    exact ⟨ret_bool (by simp), HB.out⟩
  · have hb := bneq h3
    clear hc h3
    go_wp2
    go_ret
    exact ⟨ret_bool (by simp), HB.out⟩
  · have H3 := Lib.hid h3
    have H4 := Lib.hid h4
    clear hc h3 h4
    go_wp2
    all_goals (go_ret; refine ⟨ret_bool ?_, HB.out⟩)
    all_goals (have q3 := H3.out; have q4 := H4.out; first | rfl | (simp only [Bool.and_eq_true, Bool.or_eq_true, decide_eq_true_eq]; omega) | (exfalso; omega) | (exfalso; simp_all; done) | (exfalso; simp_all; omega))

theorem walk (x0 x1 x2 x3 x4 x5 : Int) (w : World) (b0 : -9223372036854775808 ≤ x0 ∧ x0 ≤ 9223372036854775807) (b1 : -9223372036854775808 ≤ x1 ∧ x1 ≤ 9223372036854775807) (b2 : -9223372036854775808 ≤ x2 ∧ x2 ≤ 9223372036854775807) (b3 : -9223372036854775808 ≤ x3 ∧ x3 ≤ 9223372036854775807) (b4 : -9223372036854775808 ≤ x4 ∧ x4 ≤ 9223372036854775807) (b5 : -9223372036854775808 ≤ x5 ∧ x5 ≤ 9223372036854775807) :
    Calls Try.prog 7 #[.agg #[.int .i64 x0, .int .i64 x1, .int .i64 x2, .int .i64 x3, .int .i64 x4, .int .i64 x5]] w fun e w' => e = .returned (.bool true) ∧ Below w.heap.size w w' := by
  refine order_walk x0 x1 x2 x3 x4 x5 _ _ _ _ _ _ _ _ w (fun W => compare_any x0 x1 x2 x3 W) (fun W => compare_any x2 x3 x0 x1 W) (fun W => compare_any x2 x3 x4 x5 W) (fun W => compare_any x0 x1 x4 x5 W) ?_
  show _ ∨ _ ∨ _
  have s := cmpE_symm x0 x1 x2 x3
  by_cases h1 : cmpE x0 x1 x2 x3 = 0
  · right
    obtain ⟨⟨p0, p1, p2, p3⟩, i0, i1, i2, i3⟩ := cmpE_ok h1
    have ea : cmpC x0 x1 x2 x3 = cmpN (x0 * x3) (x2 * x1) := by unfold cmpC; rw [if_pos h1]
    have eb : cmpC x2 x3 x0 x1 = cmpN (x2 * x1) (x0 * x3) := by unfold cmpC; rw [if_pos (by rw [← s]; exact h1)]
    have bd := cmpN_bd (x0 * x3) (x2 * x1)
    by_cases h2 : cmpE x2 x3 x4 x5 = 0
    · right
      obtain ⟨⟨_, _, p4, p5⟩, _, _, i4, i5⟩ := cmpE_ok h2
      have h3 := cmpE_of ⟨p0, p1, p4, p5⟩ i0 i1 i4 i5
      have ec : cmpC x2 x3 x4 x5 = cmpN (x2 * x5) (x4 * x3) := by unfold cmpC; rw [if_pos h2]
      have ed : cmpC x0 x1 x4 x5 = cmpN (x0 * x5) (x4 * x1) := by unfold cmpC; rw [if_pos h3]
      have bc := cmpN_bd (x2 * x5) (x4 * x3)
      have bd' := cmpN_bd (x0 * x5) (x4 * x1)
      rw [ea, eb, ec, ed]
      refine ⟨h1, by rw [← s]; exact h1, h2, h3, bd.2.2.1, bd.1, bd.2.1, fun q1 q2 => ?_, fun q1 q2 => ?_⟩
      · rw [bd'.2.2.2.1]; rw [bd.2.2.2.1] at q1; rw [bc.2.2.2.1] at q2
        exact ratio_trans x0 x1 x2 x3 x4 x5 p1 p3 p5 q1 q2
      · rw [bd'.2.2.2.2]; rw [bd.2.2.2.2] at q1; rw [bc.2.2.2.2] at q2
        exact ratio_trans x4 x5 x2 x3 x0 x1 p5 p3 p1 q2 q1
    · left
      have h3 : cmpE x0 x1 x4 x5 = cmpE x2 x3 x4 x5 := by
        unfold cmpE; rw [i0, i1, i2, i3]
        simp only [Bool.true_and]
        cases isAm x4 <;> cases isAm x5 <;> simp
        by_cases q : x5 = 0 <;> simp [q] <;> omega
      rw [ea, eb]
      exact ⟨h1, by rw [← s]; exact h1, bd.2.2.1, bd.1, bd.2.1, h2, h3⟩
  · left
    exact ⟨h1, s.symm, by unfold cmpC; rw [if_neg h1], by unfold cmpC; rw [if_neg (by rw [← s]; exact h1)]⟩

set_option maxRecDepth 100000 in
theorem lifted (os : Os) (started : os.Started) (H : Type) (enc : TypeId × Value → H) :
    ReturnsInHanded {} Try.checked os 7 .any (Rows.proportionOrderSpec.pre6 enc Try.prog Try.f7 Rows.proportionOrderRow.domain false) (Rows.proportionOrderSpec.post enc Try.prog Try.f7 false true false false) := by
  refine returnsInHanded_of_change (C := Try.checked) own started (by kernel_rfl) Try.func7
    (ChangeSpec.witness6 (enc := enc) (C := Try.checked) false ⟨#[], #[.agg #[.int .i64 0, .int .i64 0, .int .i64 0, .int .i64 0, .int .i64 0, .int .i64 0]], []⟩ 8 (by kernel_rfl) (by kernel_rfl) (by kernel_rfl) (by kernel_rfl)) ?_
  intro W base args ds gs before hval0 hW hcnd _
  have hval : ∀ (j : Nat) t v, Try.f7.params[j]? = some t → args[j]? = some v → Value.okWide Try.prog W .any base t v := hval0
  have hW' := hW
  obtain ⟨p, q, hA0, hV, rfl, hfz, hnd⟩ := hW
  have hA : DataW.TrodAll enc Try.prog W 0 (fun _ => true) true Try.f7.params.toList args.toList ds p := hA0
  rw [Try.params7] at hA hval
  obtain ⟨v0, vs0, d0, ds0, p0, q0, hargs, rfl, rfl, h0, r0⟩ := trodAll_cons hA
  obtain ⟨rfl, rfl, rfl⟩ := trodAll_nil r0
  obtain rfl : args = #[v0] := by cases args; simp_all
  obtain ⟨rfl, rfl⟩ := trodVars_none hV
  have k0 := h0
  have lt0 : ∀ x ∈ p0, x.block < W.heap.size := by obtain ⟨m, hm⟩ := k0; exact DataW.trod_lt m _ _ _ hm
  obtain ⟨z0, l0, rfl, b0⟩ := open_intArr Try.underlying50 Try.underlying3 (by kernel_rfl) (by kernel_rfl) (hval 0 50 v0 rfl rfl) h0
  obtain ⟨x0_0, x0_1, x0_2, x0_3, x0_4, x0_5, rfl⟩ := list_six l0
  clear hA0 hval0
  refine (walk x0_0 x0_1 x0_2 x0_3 x0_4 x0_5 W (wf_bd (b0 x0_0 (by simp))) (wf_bd (b0 x0_1 (by simp))) (wf_bd (b0 x0_2 (by simp))) (wf_bd (b0 x0_3 (by simp))) (wf_bd (b0 x0_4 (by simp))) (wf_bd (b0 x0_5 (by simp)))).mono fun e W' ⟨he, bel⟩ => ?_
  subst he
  exact ⟨_, rfl, _, _, _, [], _, [], hW', trodAll_mk1 (shut_bool Try.underlying4 _), (trodAll_cons_mk (Below.trod laidOut (by kernel_rfl) (of_decide_eq_true (by kernel_rfl)) k0 bel lt0) trodAll_mk0), rfl, bel.frame _, fun h => by cases h⟩

theorem over : Rows.proportionOrderRow.holds Try.pinned (OpenSpec.ofChange Rows.proportionOrderSpec) :=
  OpenClaim.holds_of_wide 7 Try.f7 rfl rfl rfl rfl rfl rfl rfl ⟨rfl, rfl, rfl, rfl, rfl⟩ rfl rfl rfl rfl rfl (by kernel_rfl) Try.func7 (by kernel_rfl)
    (of_decide_eq_true (by kernel_rfl)) (by unfold Func.isWrapper; first | (rw [if_pos (by decide +kernel)]; kernel_rfl) | (rw [if_neg (by decide +kernel)]; exact ⟨rfl, rfl⟩))
    (fun os started H enc _ => lifted os started H enc)

theorem proved : Rows.ProportionOrderSaid := over
#print axioms proved
end Go.Proofs.Ytlpngfngdigchaa.proportionOrder
