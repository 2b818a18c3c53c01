/-
  The statement RoundingSteps of spile/spilelaw02 holds: for every input the call returns true, and each argument reads afterwards as it read before. (The listed package variables hold what the program lays: the card ties them.)
-/
import Derived.Test.YtlpngfngdigchaaDoorAwake2
import Derived.Test.YtlpngfngdigchaaDoorMath3
import Derived.Test.YtlpngfngdigchaaDoorOpen
import Derived.Test.YtlpngfngdigchaaDoorCards
import Derived.Test.YtlpngfngdigchaaDoorTie
import Derived.Below
import Derived.Carry
import Derived.Lib.LaidTab
import Derived.Deep.DeepHandedRow
import Derived.SevenTiedPlain
namespace Go.Proofs.YtlpngfngdigchaaDoor.roundingSteps
open Go.ChangeShapes Go.WideShapes Go.ChangeAt Go.RowKit
open Go.ChangeMaps (open_string shut_string)
set_option linter.unusedVariables false

theorem steps_err (a s r0 r1 x : Int) (w : World) (hw : WordsIs w) (hx : (x != 0) = true)
    (HS : Hid (∀ W, Calls Tryd.prog 13 #[.int .i64 a, .int .i64 s, .int .i64 r0] W fun e w' => e = .returned (.tuple #[.int .i64 0, .int .i64 x]) ∧ Below W.heap.size W w')) :
    Calls Tryd.prog 8 #[.int .i64 a, .int .i64 s, .agg #[.int .i64 r0, .int .i64 r1]] w fun e w' => e = .returned (.bool true) ∧ Below w.heap.size w w' := by
  have HA := Lib.hid (awake_any _ (hw.alloc (.cells #[.int .i64 r0, .int .i64 r1] 39))); clear hw
  go_enter Tryd.func8, Tryd.ntmps8
  go_wp2_with fail
  refine HA.out.mono ?_
  rintro e w1 ⟨rfl, h1⟩
  have HB := Lib.hid (bel_alloc h1)
  have hs := fun o => (bcell h1).1 w.heap.size o (by simp)
  have z1 : w.heap.size < w1.heap.size := by have := h1.size; simp at this; omega
  clear h1
  have S0 : w1.cell? ⟨w.heap.size, 0, none⟩ = some (.int .i64 r0) := by rw [hs]; simp [World.cell?_alloc_new]
  have S1 : w1.cell? ⟨w.heap.size, 1, none⟩ = some (.int .i64 r1) := by rw [hs]; simp [World.cell?_alloc_new]
  clear hs
  go_wp2_with fail
  refine (HS.out _).mono ?_
  rintro e w2 ⟨rfl, h1⟩
  replace HB := Lib.hid (bel_trans HB.out h1)
  replace S0 := ((bcell h1).1 w.heap.size 0 (by omega)).trans S0
  replace S1 := ((bcell h1).1 w.heap.size 1 (by omega)).trans S1
  replace z1 : w.heap.size < w2.heap.size := by have := h1.size; omega
  clear h1
  go_wp2
  go_ret
  exact ⟨rfl, HB.out⟩

set_option maxHeartbeats 2000000 in
theorem steps_ok (a s r0 r1 x y f : Int) (w : World) (hw : WordsIs w) (s1 : 1 ≤ s) (s2 : s ≤ 128849018880000) (x0 : -257698037760000 ≤ x) (x1 : x ≤ 257698037760000) (ht : x.tmod s = 0) (hy : f = 0 → y = x)
    (hf : f = 0 ∨ (f = 1 ∧ (r1 < 1 ∨ 4 < r1)) ∨ (f = 2 ∧ (128849018880000 < x ∨ x < -128849018880000)))
    (HS : Hid (∀ W, Calls Tryd.prog 13 #[.int .i64 a, .int .i64 s, .int .i64 r0] W fun e w' => e = .returned (.tuple #[.int .i64 x, .int .i64 0]) ∧ Below W.heap.size W w'))
    (HT : Hid (∀ W, Calls Tryd.prog 13 #[.int .i64 x, .int .i64 s, .int .i64 r1] W fun e w' => e = .returned (.tuple #[.int .i64 y, .int .i64 f]) ∧ Below W.heap.size W w')) :
    Calls Tryd.prog 8 #[.int .i64 a, .int .i64 s, .agg #[.int .i64 r0, .int .i64 r1]] w fun e w' => e = .returned (.bool true) ∧ Below w.heap.size w w' := by
  have HA := Lib.hid (awake_any _ (hw.alloc (.cells #[.int .i64 r0, .int .i64 r1] 39))); clear hw
  go_enter Tryd.func8, Tryd.ntmps8
  go_wp2_with fail
  refine HA.out.mono ?_
  rintro e w1 ⟨rfl, h1⟩
  have HB := Lib.hid (bel_alloc h1)
  have hs := fun o => (bcell h1).1 w.heap.size o (by simp)
  have z1 : w.heap.size < w1.heap.size := by have := h1.size; simp at this; omega
  clear h1
  have S0 : w1.cell? ⟨w.heap.size, 0, none⟩ = some (.int .i64 r0) := by rw [hs]; simp [World.cell?_alloc_new]
  have S1 : w1.cell? ⟨w.heap.size, 1, none⟩ = some (.int .i64 r1) := by rw [hs]; simp [World.cell?_alloc_new]
  clear hs
  go_wp2_with fail
  refine (HS.out _).mono ?_
  rintro e w2 ⟨rfl, h1⟩
  replace HB := Lib.hid (bel_trans HB.out h1)
  replace S0 := ((bcell h1).1 w.heap.size 0 (by omega)).trans S0
  replace S1 := ((bcell h1).1 w.heap.size 1 (by omega)).trans S1
  replace z1 : w.heap.size < w2.heap.size := by have := h1.size; omega
  clear h1
  go_wp2_with fail
  refine (HT.out _).mono ?_
  rintro e w3 ⟨rfl, h1⟩
  replace HB := Lib.hid (bel_trans HB.out h1)
  replace S0 := ((bcell h1).1 w.heap.size 0 (by omega)).trans S0
  replace S1 := ((bcell h1).1 w.heap.size 1 (by omega)).trans S1
  replace z1 : w.heap.size < w3.heap.size := by have := h1.size; omega
  clear h1
  have e0 : IntKind.i64.wrap 0 = 0 := by decide
  rcases hf with rfl | ⟨rfl, hr⟩ | ⟨rfl, hr⟩
  · obtain rfl := hy rfl
    clear hy
    go_wp2
    go_ret
    exact ⟨rfl, HB.out⟩
  · clear hy
    rcases hr with hr | hr
    · go_wp2
      go_ret
      exact ⟨ret_bool (by simp; try omega), HB.out⟩
    · go_wp2
      all_goals go_ret
      all_goals exact ⟨ret_bool (by simp; try omega), HB.out⟩
  · clear hy
    rcases hr with hr | hr
    · go_wp2
      all_goals go_ret
      all_goals exact ⟨ret_bool (by simp; try omega), HB.out⟩
    · go_wp2
      all_goals go_ret
      all_goals exact ⟨ret_bool (by simp; try omega), HB.out⟩

theorem walk (a s r0 r1 : Int) (w : World) (wa : -9223372036854775808 ≤ a ∧ a ≤ 9223372036854775807) (wb : -9223372036854775808 ≤ s ∧ s ≤ 9223372036854775807) (wc : -9223372036854775808 ≤ r0 ∧ r0 ≤ 9223372036854775807) (wd : -9223372036854775808 ≤ r1 ∧ r1 ≤ 9223372036854775807) (hw : WordsIs w) :
    Calls Tryd.prog 8 #[.int .i64 a, .int .i64 s, .agg #[.int .i64 r0, .int .i64 r1]] w fun e w' => e = .returned (.bool true) ∧ Below w.heap.size w w' := by
  by_cases h : quoE a s r0 = 0
  · obtain ⟨hr, a0, a1, b0, b1⟩ := quoE_zero h
    have m := quo_mul a s r0
    refine steps_ok a s r0 r1 (quoQ a s r0 * s) (quoQ (quoQ a s r0 * s) s r1 * s) (quoE (quoQ a s r0 * s) s r1) w hw b0 b1 m.1 m.2 (Int.mul_tmod_left _ _) (fun e => by rw [quoQ_again _ _ _ e]) (quoE_cases _ s r1 ⟨b0, b1⟩) (fun W => ?_) (fun W => step_any _ s r1 W)
    have := step_any a s r0 W
    rwa [h] at this
  · refine steps_err a s r0 r1 (quoE a s r0) w hw (bneq h) (fun W => ?_)
    have := step_any a s r0 W
    have e1 : quoQ a s r0 = 0 := by unfold quoQ; rw [if_neg h]
    rwa [e1, Int.zero_mul] at this

set_option maxRecDepth 100000 in
theorem contract (H : Type) (enc : TypeId × Value → H) (W : World) (base : Nat) (args : Array Value) (ds gs : List (DataW H)) (before : List MemPlace)
    (hval : ∀ (j : Nat) t v, Tryd.f8.params[j]? = some t → args[j]? = some v → Value.okWide Tryd.prog W .any base t v)
    (hW : DataW.Whole enc Tryd.prog Tryd.f8.params.toList Rows.roundingStepsSpec.vars false W args.toList ds gs before) (hL : laidMetH Tryd.prog Rows.roundingStepsRow.laid W) :
    Calls Tryd.prog 8 args W fun e W' => ∃ v, e = .returned v ∧ Rows.roundingStepsSpec.post enc Tryd.prog Tryd.f8 false true false false W args v W' := by
  have hW' := hW
  obtain ⟨p, q, hA0, hV, rfl, hfz, hnd⟩ := hW
  have hA : DataW.TrodAll enc Tryd.prog W 0 (fun _ => true) true Tryd.f8.params.toList args.toList ds p := hA0
  rw [Tryd.params8] at hA hval
  obtain ⟨v0, vs0, d0, ds0, p0, q0, hargs, rfl, rfl, h0, r0⟩ := trodAll_cons hA
  obtain ⟨v1, vs1, d1, ds1, p1, q1, rfl, rfl, rfl, h1, r1⟩ := trodAll_cons r0
  obtain ⟨v2, vs2, d2, ds2, p2, q2, rfl, rfl, rfl, h2, r2⟩ := trodAll_cons r1
  obtain ⟨rfl, rfl, rfl⟩ := trodAll_nil r2
  obtain rfl : args = #[v0, v1, v2] := by cases args; simp_all
  obtain ⟨rfl, rfl⟩ := trodVars_none hV
  have k0 := h0
  have lt0 : ∀ x ∈ p0, x.block < W.heap.size := by obtain ⟨m, hm⟩ := k0; exact DataW.trod_lt m _ _ _ hm
  have k1 := h1
  have lt1 : ∀ x ∈ p1, x.block < W.heap.size := by obtain ⟨m, hm⟩ := k1; exact DataW.trod_lt m _ _ _ hm
  have k2 := h2
  have lt2 : ∀ x ∈ p2, x.block < W.heap.size := by obtain ⟨m, hm⟩ := k2; exact DataW.trod_lt m _ _ _ hm
  obtain ⟨a0, rfl, rfl, rfl, w0⟩ := open_int Tryd.underlying3 (hval 0 3 v0 rfl rfl) h0
  obtain ⟨a1, rfl, rfl, rfl, w1⟩ := open_int Tryd.underlying3 (hval 1 3 v1 rfl rfl) h1
  obtain ⟨z2, l2, rfl, b2⟩ := open_intArr Tryd.underlying39 Tryd.underlying3 (by kernel_rfl) (by kernel_rfl) (hval 2 39 v2 rfl rfl) h2
  obtain ⟨x2_0, x2_1, rfl⟩ := list_two l2
  clear hA0
  refine (walk a0 a1 x2_0 x2_1 W (wf_bd w0) (wf_bd w1) (wf_bd (b2 x2_0 (by simp))) (wf_bd (b2 x2_1 (by simp))) (words_of hL)).mono fun e W' ⟨he, bel⟩ => ?_
  subst he
  exact ⟨_, rfl, _, _, _, [], _, [], hW', trodAll_mk1 (shut_bool Tryd.underlying4 _), (trodAll_cons_mk (Below.trod laidOut (by kernel_rfl) (of_decide_eq_true (by kernel_rfl)) k0 bel lt0) (trodAll_cons_mk (Below.trod laidOut (by kernel_rfl) (of_decide_eq_true (by kernel_rfl)) k1 bel lt1) (trodAll_cons_mk (Below.trod laidOut (by kernel_rfl) (of_decide_eq_true (by kernel_rfl)) k2 bel lt2) trodAll_mk0))), rfl, bel.frame _, fun h => by cases h⟩

noncomputable def laidWorld (os : Os) : World :=
  { World.holding Tryd.prog os ⟨#[], #[], []⟩ with heap := (World.holding Tryd.prog os ⟨#[], #[], []⟩).heap.modify 0 fun
      | .cells _ t frozen => .cells (wordsL.map str).toArray t frozen
      | o => o }
theorem laid_met (os : Os) : laidMet Tryd.prog Rows.roundingStepsRow.laid ((laidWorld os).forCall (fun _ _ => 0) ⟨#[], #[.int .i64 0, .int .i64 0, .agg #[.int .i64 0, .int .i64 0]], []⟩).memory :=
  laidMet_of_run' 8 (by kernel_rfl) (by kernel_rfl)
theorem reads (os : Os) {H : Type} (enc : TypeId × Value → H) : ∃ places, DataW.whole enc Tryd.prog ((laidWorld os).forCall (fun _ _ => 0) ⟨#[], #[.int .i64 0, .int .i64 0, .agg #[.int .i64 0, .int .i64 0]], []⟩).memory Tryd.f8.params.toList Rows.roundingStepsSpec.vars false (#[.int .i64 0, .int .i64 0, .agg #[.int .i64 0, .int .i64 0]] : Array Value).toList 8 = some ([.lit (.int .i64 0), .lit (.int .i64 0), .agg [.lit (.int .i64 0), .lit (.int .i64 0)]], [], places) :=
  ⟨[], by kernel_rfl⟩

set_option maxRecDepth 100000 in
theorem lifted (os : Os) (started : os.Started) (H : Type) (enc : TypeId × Value → H) (F : Stop.Interp) :
    ReturnsInHanded {} Tryd.checked os 8 .any ((OpenSpec.ofChange Rows.roundingStepsSpec).preRow enc Tryd.prog Tryd.f8 Rows.roundingStepsRow.domain false Rows.roundingStepsRow.laid) (((OpenSpec.ofChange Rows.roundingStepsSpec).at F).post enc Tryd.prog Tryd.f8 false true false false) := by
  obtain ⟨places, hx⟩ := reads os enc
  refine returnsInHanded_of_row (C := Tryd.checked) (s := OpenSpec.ofChange Rows.roundingStepsSpec) own started (by kernel_rfl) Tryd.func8
    (witness_row_at (enc := enc) (C := Tryd.checked) false (laidWorld os) #[.int .i64 0, .int .i64 0, .agg #[.int .i64 0, .int .i64 0]] rfl (by kernel_rfl) (by kernel_rfl) (by kernel_rfl)
      (OpenSpec.preRow_of_cond 8 hx (by kernel_rfl) (fun k hk => by cases hk) (by kernel_rfl) (laid_met os))) ?_
  intro W base args ds gs before hval hW _ _ _ hL _ _
  exact contract H enc W base args ds gs before hval hW hL

theorem said : Rows.RoundingStepsSaid :=
  OpenClaim.holds_of_cond 8 Tryd.f8 rfl rfl rfl rfl rfl rfl rfl ⟨rfl, rfl, rfl, rfl, rfl⟩ rfl rfl rfl rfl rfl (by kernel_rfl) Tryd.func8 (by kernel_rfl)
    (of_decide_eq_true (by kernel_rfl)) (by unfold Func.isWrapper; first | (rw [if_pos (by decide +kernel)]; kernel_rfl) | (rw [if_neg (by decide +kernel)]; exact ⟨rfl, rfl⟩))
    (fun os started H enc _ F => by rw [OpenClaim.pre_eq_preRow]; exact lifted os started H enc F)

theorem plain (f : FuncId) (fn : Func) (hf : Tryd.pinned.checked.prog.funcNamed "spile/spilelaw02.RoundingSteps" = some f) (hfn : Tryd.pinned.checked.prog.funcs[f]? = some fn) :
    false = Tryd.pinned.checked.prog.looks [] ∧ ∀ (j : Nat) t, fn.params[j]? = some t → Tryd.pinned.checked.prog.wantsStandIn t = false := by
  obtain rfl : f = 8 := Option.some.inj ((show Tryd.prog.funcNamed "spile/spilelaw02.RoundingSteps" = some 8 by kernel_rfl).symm.trans hf) |>.symm
  obtain rfl : fn = Tryd.f8 := (Option.some.inj (Tryd.func8.symm.trans hfn)).symm
  refine ⟨by kernel_rfl, fun j t ht => ?_⟩
  rw [Tryd.params8] at ht
  rcases j with _ | _ | _ | j
  · obtain rfl : t = 3 := by simpa using ht.symm
    exact (show Tryd.prog.wantsStandIn 3 = false by kernel_rfl)
  · obtain rfl : t = 3 := by simpa using ht.symm
    exact (show Tryd.prog.wantsStandIn 3 = false by kernel_rfl)
  · obtain rfl : t = 39 := by simpa using ht.symm
    exact (show Tryd.prog.wantsStandIn 39 = false by kernel_rfl)
  · simp at ht

theorem proved : Rows.RoundingStepsCardSaid :=
  Claim7.holds_tied_plain_at .later [] _ _ _ _ said (fun _ h => by cases h) (by kernel_rfl) (fun _ h => by cases h) roundingSteps_row_tie rfl ⟨rfl, rfl⟩ (by kernel_rfl) rfl plain (by kernel_rfl)
#print axioms proved
end Go.Proofs.YtlpngfngdigchaaDoor.roundingSteps
