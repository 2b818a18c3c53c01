/-
  The statement ProportionBack of spile/spilelaw01 holds: for every input the call returns true, and each argument reads afterwards as it read before.
-/
import Derived.Test.YtlpngfngdigchaaAwake1
import Derived.Test.YtlpngfngdigchaaRef3
import Derived.Test.YtlpngfngdigchaaOpen
import Derived.Below
import Derived.Carry
namespace Go.Proofs.Ytlpngfngdigchaa.proportionBack
open Go.ChangeShapes Go.WideShapes Go.ChangeAt Go.RowKit
open Go.ChangeMaps (open_string shut_string)
set_option linter.unusedVariables false

theorem add64_0 (x y : Int) (hx : 0 ≤ x) (hy : 0 ≤ y) (w : World) : (callFunc 16 #[.int .u64 x, .int .u64 y, .int .u64 0]).run Try.prog w =
    .ok (.value (.tuple #[.int .u64 (loW (x + y)), .int .u64 (hiW (x + y))])) w := by
  rw [run_callFunc_extern Try.func16 (by kernel_rfl) (by kernel_rfl) (by kernel_rfl) (e := add64Entry) (by kernel_rfl), run_add64 x y 0 hx hy (by omega) (by omega)]
  simp only [Result.andThen, Int.add_zero]
  rfl

theorem back_err (a b c x : Int) (w : World) (hx : (x != 0) = true)
    (HOf : Hid (∀ W, Calls Try.prog 9 #[.int .i64 a, .int .i64 b, .int .i64 c] W fun e w' => e = .returned (.tuple #[.int .i64 0, .int .i64 0, .int .i64 x]) ∧ Below W.heap.size W w'))
    (HUp : Hid (∀ W, Calls Try.prog 11 #[.int .i64 a, .int .i64 b, .int .i64 c] W fun e w' => e = .returned (.tuple #[.int .i64 0, .int .i64 x]) ∧ Below W.heap.size W w')) :
    Calls Try.prog 4 #[.int .i64 a, .int .i64 b, .int .i64 c] w fun e w' => e = .returned (.bool true) ∧ Below w.heap.size w w' := by
  go_enter Try.func4, Try.ntmps4
  go_wp2_with fail
  refine (awake_any _).mono ?_
  rintro e w1 ⟨rfl, h1⟩
  have HB := Lib.hid h1; clear h1
  go_wp2_with fail
  refine (HOf.out _).mono ?_
  rintro e w2 ⟨rfl, h1⟩
  replace HB := Lib.hid (bel_trans HB.out h1); clear h1
  go_wp2_with fail
  refine (HUp.out _).mono ?_
  rintro e w3 ⟨rfl, h1⟩
  replace HB := Lib.hid (bel_trans HB.out h1); clear h1
  go_wp2
  go_ret
  exact ⟨rfl, HB.out⟩

theorem back_ok (a b c q r u f : Int) (w : World) (a0 : 0 ≤ a) (a1 : a ≤ 128849018880000) (b0 : 0 ≤ b) (b1 : b ≤ 128849018880000) (c0 : 1 ≤ c) (c1 : c ≤ 128849018880000)
    (q0 : 0 ≤ q) (q1 : q ≤ 128849018880000) (r0 : 0 ≤ r) (r1 : r < c) (HE : Hid (q * c + r = a * b))
    (hf : Hid (f = 0 ∧ (u = q ∧ r = 0 ∨ u = q + 1 ∧ 0 < r) ∨ f = 15 ∧ q = 128849018880000 ∧ 0 < r))
    (HOf : Hid (∀ W, Calls Try.prog 9 #[.int .i64 a, .int .i64 b, .int .i64 c] W fun e w' => e = .returned (.tuple #[.int .i64 q, .int .i64 r, .int .i64 0]) ∧ Below W.heap.size W w'))
    (HUp : Hid (∀ W, Calls Try.prog 11 #[.int .i64 a, .int .i64 b, .int .i64 c] W fun e w' => e = .returned (.tuple #[.int .i64 u, .int .i64 f]) ∧ Below W.heap.size W w')) :
    Calls Try.prog 4 #[.int .i64 a, .int .i64 b, .int .i64 c] w fun e w' => e = .returned (.bool true) ∧ Below w.heap.size w w' := by
  go_enter Try.func4, Try.ntmps4
  go_wp2_with fail
  refine (awake_any _).mono ?_
  rintro e w1 ⟨rfl, h1⟩
  have HB := Lib.hid h1; clear h1
  go_wp2_with fail
  refine (HOf.out _).mono ?_
  rintro e w2 ⟨rfl, h1⟩
  replace HB := Lib.hid (bel_trans HB.out h1); clear h1
  go_wp2_with fail
  refine (HUp.out _).mono ?_
  rintro e w3 ⟨rfl, h1⟩
  replace HB := Lib.hid (bel_trans HB.out h1); clear h1
  have l0 := loW_nonneg (q * c)
  have hsum : Hid (loW (loW (q * c) + r) = loW (a * b) ∧ hiW (q * c) + hiW (loW (q * c) + r) = hiW (a * b)) := by
    show _ ∧ _
    rw [← HE.out]
    generalize q * c = p at *
    unfold loW hiW at *
    omega
  obtain ⟨g0, g1⟩ : 0 ≤ hiW (q * c) ∧ hiW (q * c) ≤ 9223372036854775807 := by
    have p0 : 0 ≤ q * c := Int.mul_nonneg q0 (by omega)
    have p1 : q * c ≤ 128849018880000 * 128849018880000 := Int.mul_le_mul q1 c1 (by omega) (by omega)
    unfold hiW; omega
  obtain ⟨g2, g3⟩ : 0 ≤ hiW (loW (q * c) + r) ∧ hiW (loW (q * c) + r) ≤ 1 := by
    have := loW_le (q * c)
    unfold hiW; omega
  have e1 := hsum.out.1
  have e2 : (hiW (q * c) + hiW (loW (q * c) + r) != hiW (a * b)) = false := by rw [hsum.out.2]; simp
  have hadd := add64_0 (loW (q * c)) r l0 r0
  rcases hf.out with ⟨rfl, ⟨rfl, rfl⟩ | ⟨rfl, hr⟩⟩ | ⟨rfl, rfl, hr⟩
  · clear hf hsum
    simp only [Int.add_zero] at e1 e2 hadd g2 g3
    go_wp2_with (first
      | (go_at_call 15; refine (mul64_int _ _ _ (by omega) (by omega) (by omega) (by omega)).mono ?_; rintro e w' ⟨rfl, rfl⟩))
    go_ret
    exact ⟨ret_bool (by rw [beq_iff_eq]; omega), HB.out⟩
  · clear hf hsum
    go_wp2_with (first
      | (go_at_call 15; refine (mul64_int _ _ _ (by omega) (by omega) (by omega) (by omega)).mono ?_; rintro e w' ⟨rfl, rfl⟩))
    go_ret
    exact ⟨ret_bool (by rw [beq_iff_eq]; omega), HB.out⟩
  · clear hf hsum
    go_wp2_with (first
      | (go_at_call 15; refine (mul64_int _ _ _ (by omega) (by omega) (by omega) (by omega)).mono ?_; rintro e w' ⟨rfl, rfl⟩))
    go_ret
    exact ⟨rfl, HB.out⟩

theorem walk (a b c : Int) (w : World) (wa : -9223372036854775808 ≤ a ∧ a ≤ 9223372036854775807) (wb : -9223372036854775808 ≤ b ∧ b ≤ 9223372036854775807) (wc : -9223372036854775808 ≤ c ∧ c ≤ 9223372036854775807) :
    Calls Try.prog 4 #[.int .i64 a, .int .i64 b, .int .i64 c] w fun e w' => e = .returned (.bool true) ∧ Below w.heap.size w w' := by
  clear wa wb wc
  by_cases hE : ofE a b c = 0
  · have hE' := hE
    unfold ofE at hE'
    split at hE'
    · rename_i h1
      simp only [Bool.and_eq_true, isAm_iff] at h1
      split at hE'
      · omega
      · split at hE'
        · rename_i hc hq
          have q0 := (ofQ_bd a b c).1
          have eq1 : ofQ a b c = a * b / c := by unfold ofQ; rw [if_pos hE]
          have er1 : ofR a b c = a * b % c := by unfold ofR; rw [if_pos hE]
          have r0 := Int.emod_nonneg (a * b) hc
          have r1 := Int.emod_lt_of_pos (a * b) (show 0 < c by omega)
          refine back_ok a b c (ofQ a b c) (ofR a b c) (upQ (ofQ a b c) (ofR a b c) 0) (upE (ofQ a b c) (ofR a b c) 0) w h1.1.1.1 h1.1.1.2 h1.1.2.1 h1.1.2.2 (by omega) h1.2.2 q0 (by omega) (by omega) (by omega) ?_ ?_
            (fun W => by have := of_any a b c W; rwa [hE] at this) (fun W => by have := up_any a b c W; rwa [hE] at this)
          · show _ = _
            have := Int.emod_add_mul_ediv (a * b) c
            rw [eq1, er1, Int.mul_comm]; omega
          · show _ ∨ _
            rw [eq1] at q0 ⊢
            rw [er1]
            generalize a * b / c = q at *
            generalize a * b % c = r at *
            unfold upQ upE
            grind
        · omega
    · omega
  · have eq1 : ofQ a b c = 0 := by unfold ofQ; rw [if_neg hE]
    have er1 : ofR a b c = 0 := by unfold ofR; rw [if_neg hE]
    have eu : upE 0 0 (ofE a b c) = ofE a b c := by unfold upE; rw [if_neg hE]
    have eu2 : upQ 0 0 (ofE a b c) = 0 := by unfold upQ; rw [eu, if_neg hE]
    exact back_err a b c (ofE a b c) w (bneq hE) (fun W => by have := of_any a b c W; rwa [eq1, er1] at this) (fun W => by have := up_any a b c W; rwa [eq1, er1, eu, eu2] at this)

set_option maxRecDepth 100000 in
theorem lifted (os : Os) (started : os.Started) (H : Type) (enc : TypeId × Value → H) :
    ReturnsInHanded {} Try.checked os 4 .any (Rows.proportionBackSpec.pre6 enc Try.prog Try.f4 Rows.proportionBackRow.domain false) (Rows.proportionBackSpec.post enc Try.prog Try.f4 false true false false) := by
  refine returnsInHanded_of_change (C := Try.checked) own started (by kernel_rfl) Try.func4
    (ChangeSpec.witness6 (enc := enc) (C := Try.checked) false ⟨#[], #[.int .i64 0, .int .i64 0, .int .i64 0], []⟩ 8 (by kernel_rfl) (by kernel_rfl) (by kernel_rfl) (by kernel_rfl)) ?_
  intro W base args ds gs before hval0 hW hcnd _
  have hval : ∀ (j : Nat) t v, Try.f4.params[j]? = some t → args[j]? = some v → Value.okWide Try.prog W .any base t v := hval0
  have hW' := hW
  obtain ⟨p, q, hA0, hV, rfl, hfz, hnd⟩ := hW
  have hA : DataW.TrodAll enc Try.prog W 0 (fun _ => true) true Try.f4.params.toList args.toList ds p := hA0
  rw [Try.params4] at hA hval
  obtain ⟨v0, vs0, d0, ds0, p0, q0, hargs, rfl, rfl, h0, r0⟩ := trodAll_cons hA
  obtain ⟨v1, vs1, d1, ds1, p1, q1, rfl, rfl, rfl, h1, r1⟩ := trodAll_cons r0
  obtain ⟨v2, vs2, d2, ds2, p2, q2, rfl, rfl, rfl, h2, r2⟩ := trodAll_cons r1
  obtain ⟨rfl, rfl, rfl⟩ := trodAll_nil r2
  obtain rfl : args = #[v0, v1, v2] := by cases args; simp_all
  obtain ⟨rfl, rfl⟩ := trodVars_none hV
  have k0 := h0
  have lt0 : ∀ x ∈ p0, x.block < W.heap.size := by obtain ⟨m, hm⟩ := k0; exact DataW.trod_lt m _ _ _ hm
  have k1 := h1
  have lt1 : ∀ x ∈ p1, x.block < W.heap.size := by obtain ⟨m, hm⟩ := k1; exact DataW.trod_lt m _ _ _ hm
  have k2 := h2
  have lt2 : ∀ x ∈ p2, x.block < W.heap.size := by obtain ⟨m, hm⟩ := k2; exact DataW.trod_lt m _ _ _ hm
  obtain ⟨a0, rfl, rfl, rfl, w0⟩ := open_int Try.underlying3 (hval 0 3 v0 rfl rfl) h0
  obtain ⟨a1, rfl, rfl, rfl, w1⟩ := open_int Try.underlying3 (hval 1 3 v1 rfl rfl) h1
  obtain ⟨a2, rfl, rfl, rfl, w2⟩ := open_int Try.underlying3 (hval 2 3 v2 rfl rfl) h2
  clear hA0 hval0
  refine (walk a0 a1 a2 W (wf_bd w0) (wf_bd w1) (wf_bd w2)).mono fun e W' ⟨he, bel⟩ => ?_
  subst he
  exact ⟨_, rfl, _, _, _, [], _, [], hW', trodAll_mk1 (shut_bool Try.underlying4 _), (trodAll_cons_mk (Below.trod laidOut (by kernel_rfl) (of_decide_eq_true (by kernel_rfl)) k0 bel lt0) (trodAll_cons_mk (Below.trod laidOut (by kernel_rfl) (of_decide_eq_true (by kernel_rfl)) k1 bel lt1) (trodAll_cons_mk (Below.trod laidOut (by kernel_rfl) (of_decide_eq_true (by kernel_rfl)) k2 bel lt2) trodAll_mk0))), rfl, bel.frame _, fun h => by cases h⟩

theorem over : Rows.proportionBackRow.holds Try.pinned (OpenSpec.ofChange Rows.proportionBackSpec) :=
  OpenClaim.holds_of_wide 4 Try.f4 rfl rfl rfl rfl rfl rfl rfl ⟨rfl, rfl, rfl, rfl, rfl⟩ rfl rfl rfl rfl rfl (by kernel_rfl) Try.func4 (by kernel_rfl)
    (of_decide_eq_true (by kernel_rfl)) (by unfold Func.isWrapper; first | (rw [if_pos (by decide +kernel)]; kernel_rfl) | (rw [if_neg (by decide +kernel)]; exact ⟨rfl, rfl⟩))
    (fun os started H enc _ => lifted os started H enc)

theorem proved : Rows.ProportionBackSaid := over
#print axioms proved
end Go.Proofs.Ytlpngfngdigchaa.proportionBack
