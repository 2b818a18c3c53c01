/-
  The statement ThermalOrder of spile/spilelaw05 holds: for every input the call returns true, and each argument reads afterwards as it read before. (The listed package variables hold what the program lays: the card ties them.)
-/
import Derived.Test.YtigmpbipbkgnfaaDoorTO
import Derived.Test.YtigmpbipbkgnfaaDoorCards
import Derived.Test.YtigmpbipbkgnfaaDoorTie
import Derived.Below
import Derived.Carry
import Derived.Lib.LaidTab
import Derived.Deep.DeepHandedRow
import Derived.SevenTiedPlain
namespace Go.Proofs.YtigmpbipbkgnfaaDoor.thermalOrder
open Go.ChangeShapes Go.WideShapes Go.ChangeAt Go.RowKit
open Go.ChangeMaps (open_string shut_string)
set_option linter.unusedVariables false

set_option maxHeartbeats 4000000 in
theorem guards (v m rise s t rule : Int) (w : World) (hw : WordsIs w) (h : m < 0 ∨ (0 ≤ m ∧ 128849018880000 < m) ∨ ((0 ≤ m ∧ m ≤ 128849018880000) ∧ 128849018880000 < v) ∨ ((0 ≤ m ∧ m ≤ 128849018880000) ∧ v ≤ 128849018880000 ∧ t < s)) :
    Calls Tryd.prog 6 #[.int .i64 v, .int .i64 m, .int .i64 rise, .agg #[.int .i64 s, .int .i64 t], .int .i64 rule] w fun e w' => e = .returned (.bool true) ∧ Below w.heap.size w w' := by
  have HA : Hid (∀ W, Below w.heap.size w W → _) := fun W h => awake_any W (hw.below h)
  have TS := Lib.hid (Two.new w (.int .i64 s) (.int .i64 t) 36)
  have HB := Lib.hid (bel_alloc (Below.refl (w.alloc (.cells #[.int .i64 s, .int .i64 t] 36)).heap.size _))
  clear hw
  rcases h with h | ⟨h, h2⟩ | ⟨⟨h, h2⟩, h3⟩ | ⟨⟨h, h2⟩, h3, h4⟩
  all_goals
    go_enter Tryd.func6, Tryd.ntmps6
    go_wp2_with fail
    refine (HA.out _ HB.out).mono ?_
    rintro e w2 ⟨rfl, h1⟩
    replace TS := Lib.hid (TS.out.below h1)
    replace HB := Lib.hid (bel_trans HB.out h1); clear h1
    obtain ⟨TS0, TS1, _, _, _⟩ := TS.out
    go_wp2
    go_returns
    exact ⟨rfl, HB.out⟩
/-- what a pair of errors and results is held to: E, F, G the errors; a greater heat gives B, a greater measure C -/
def Ord3 (E F G A B C : Int) : Prop := (E == 0) = false ∨ (E = 0 ∧ (F == 0) = false ∧ (G == 0) = false) ∨ (E = 0 ∧ F = 0 ∧ B ≤ A ∧ (G == 0) = false) ∨ (E = 0 ∧ (F == 0) = false ∧ G = 0 ∧ A ≤ C) ∨ (E = 0 ∧ F = 0 ∧ G = 0 ∧ B ≤ A ∧ A ≤ C)
theorem ord3 {E F G A B C : Int} (h1 : E = 0 → F = 0 → B ≤ A) (h2 : E = 0 → G = 0 → A ≤ C) : Ord3 E F G A B C := by
  unfold Ord3
  by_cases e : E = 0
  · right
    by_cases f : F = 0
    · by_cases g : G = 0
      · right; right; right; exact ⟨e, f, g, h1 e f, h2 e g⟩
      · right; left; exact ⟨e, f, h1 e f, by simpa using g⟩
    · by_cases g : G = 0
      · right; right; left; exact ⟨e, by simpa using f, g, h2 e g⟩
      · left; exact ⟨e, by simpa using f, by simpa using g⟩
  · left; simpa using e
set_option maxRecDepth 100000 in
set_option maxHeartbeats 40000000 in
theorem core (v m rise s t rule A E B F C G X E2 Y F2 Z G2 : Int) (w : World) (hw : WordsIs w) (m0 : 0 ≤ m) (m1 : m ≤ 128849018880000) (v0 : -9223372036854775808 ≤ v) (v1 : v ≤ 128849018880000) (st : s ≤ t)
    (k1 : Hid (Ord3 E F G A B C)) (k3 : Hid ((E2 == 0) = false ∨ (E2 = 0 ∧ (F2 == 0) = false ∧ (G2 == 0) = false) ∨ (E2 = 0 ∧ F2 = 0 ∧ X ≤ Y ∧ (G2 == 0) = false) ∨ (E2 = 0 ∧ (F2 == 0) = false ∧ G2 = 0 ∧ X ≤ Z) ∨ (E2 = 0 ∧ F2 = 0 ∧ G2 = 0 ∧ X ≤ Y ∧ X ≤ Z)))
    (H1 : Hid (∀ W, Below w.heap.size w W → Calls Tryd.prog 14 #[.int .i64 v, .int .i64 rise, .int .i64 s, .int .i64 rule] W fun e w' => e = .returned (.tuple #[.int .i64 A, .int .i64 E]) ∧ Below W.heap.size W w'))
    (H2 : Hid (∀ W, Below w.heap.size w W → Calls Tryd.prog 14 #[.int .i64 v, .int .i64 rise, .int .i64 t, .int .i64 rule] W fun e w' => e = .returned (.tuple #[.int .i64 B, .int .i64 F]) ∧ Below W.heap.size W w'))
    (H3 : Hid (∀ W, Below w.heap.size w W → Calls Tryd.prog 14 #[.int .i64 (v + m), .int .i64 rise, .int .i64 s, .int .i64 rule] W fun e w' => e = .returned (.tuple #[.int .i64 C, .int .i64 G]) ∧ Below W.heap.size W w'))
    (H4 : Hid (∀ W, Below w.heap.size w W → Calls Tryd.prog 12 #[.int .i64 v, .int .i64 rise, .int .i64 s, .int .i64 rule] W fun e w' => e = .returned (.tuple #[.int .i64 X, .int .i64 E2]) ∧ Below W.heap.size W w'))
    (H5 : Hid (∀ W, Below w.heap.size w W → Calls Tryd.prog 12 #[.int .i64 v, .int .i64 rise, .int .i64 t, .int .i64 rule] W fun e w' => e = .returned (.tuple #[.int .i64 Y, .int .i64 F2]) ∧ Below W.heap.size W w'))
    (H6 : Hid (∀ W, Below w.heap.size w W → Calls Tryd.prog 12 #[.int .i64 (v + m), .int .i64 rise, .int .i64 s, .int .i64 rule] W fun e w' => e = .returned (.tuple #[.int .i64 Z, .int .i64 G2]) ∧ Below W.heap.size W w')) :
    Calls Tryd.prog 6 #[.int .i64 v, .int .i64 m, .int .i64 rise, .agg #[.int .i64 s, .int .i64 t], .int .i64 rule] w fun e w' => e = .returned (.bool true) ∧ Below w.heap.size w w' := by
  have HA : Hid (∀ W, Below w.heap.size w W → _) := fun W h => awake_any W (hw.below h)
  have TS := Lib.hid (Two.new w (.int .i64 s) (.int .i64 t) 36)
  have HB := Lib.hid (bel_alloc (Below.refl (w.alloc (.cells #[.int .i64 s, .int .i64 t] 36)).heap.size _))
  clear hw
  rcases k1.out with a1 | ⟨rfl, a2, a3⟩ | ⟨rfl, rfl, a2, a3⟩ | ⟨rfl, a2, rfl, a3⟩ | ⟨rfl, rfl, rfl, a2, a3⟩
  all_goals
    clear k1
    go_enter Tryd.func6, Tryd.ntmps6
    go_wp2_with fail
    refine (HA.out _ HB.out).mono ?_
    rintro e w5 ⟨rfl, h1⟩
    replace TS := Lib.hid (TS.out.below h1)
    replace HB := Lib.hid (bel_trans HB.out h1); clear h1
    obtain ⟨TS0, TS1, _, _, _⟩ := TS.out
    go_wp2_with fail
    refine (H1.out _ HB.out).mono ?_
    rintro e w7 ⟨rfl, h1⟩
    replace TS := Lib.hid (TS.out.below h1)
    replace HB := Lib.hid (bel_trans HB.out h1); clear h1
    obtain ⟨TS0, TS1, _, _, _⟩ := TS.out
    go_wp2_with fail
    refine (H2.out _ HB.out).mono ?_
    rintro e w9 ⟨rfl, h1⟩
    replace TS := Lib.hid (TS.out.below h1)
    replace HB := Lib.hid (bel_trans HB.out h1); clear h1
    obtain ⟨TS0, TS1, _, _, _⟩ := TS.out
    go_wp2_with fail
    refine (H3.out _ HB.out).mono ?_
    rintro e w11 ⟨rfl, h1⟩
    replace TS := Lib.hid (TS.out.below h1)
    replace HB := Lib.hid (bel_trans HB.out h1); clear h1
    obtain ⟨TS0, TS1, _, _, _⟩ := TS.out
    go_wp2_with fail
    refine (H4.out _ HB.out).mono ?_
    rintro e w13 ⟨rfl, h1⟩
    replace TS := Lib.hid (TS.out.below h1)
    replace HB := Lib.hid (bel_trans HB.out h1); clear h1
    obtain ⟨TS0, TS1, _, _, _⟩ := TS.out
    go_wp2_with fail
    refine (H5.out _ HB.out).mono ?_
    rintro e w15 ⟨rfl, h1⟩
    replace TS := Lib.hid (TS.out.below h1)
    replace HB := Lib.hid (bel_trans HB.out h1); clear h1
    obtain ⟨TS0, TS1, _, _, _⟩ := TS.out
    go_wp2_with fail
    refine (H6.out _ HB.out).mono ?_
    rintro e w17 ⟨rfl, h1⟩
    replace TS := Lib.hid (TS.out.below h1)
    replace HB := Lib.hid (bel_trans HB.out h1); clear h1
    rcases k3.out with b1 | ⟨rfl, b2, b3⟩ | ⟨rfl, rfl, b2, b3⟩ | ⟨rfl, b2, rfl, b3⟩ | ⟨rfl, rfl, rfl, b2, b3⟩
    all_goals
      clear k3
      go_wp2
      go_returns
      exact ⟨by first | rfl | exact ret_bool (by simp; omega), HB.out⟩
theorem walk (v m rise s t rule : Int) (w : World) (w0 : -9223372036854775808 ≤ v ∧ v ≤ 9223372036854775807) (w1 : -9223372036854775808 ≤ m ∧ m ≤ 9223372036854775807) (w2 : -9223372036854775808 ≤ rise ∧ rise ≤ 9223372036854775807) (w3 : -9223372036854775808 ≤ s ∧ s ≤ 9223372036854775807) (w4 : -9223372036854775808 ≤ t ∧ t ≤ 9223372036854775807) (w5 : -9223372036854775808 ≤ rule ∧ rule ≤ 9223372036854775807) (hw : WordsIs w) :
    Calls Tryd.prog 6 #[.int .i64 v, .int .i64 m, .int .i64 rise, .agg #[.int .i64 s, .int .i64 t], .int .i64 rule] w fun e w' => e = .returned (.bool true) ∧ Below w.heap.size w w' := by
  by_cases hg : (0 ≤ m ∧ m ≤ 128849018880000) ∧ v ≤ 128849018880000 ∧ s ≤ t
  · obtain ⟨⟨m0, m1⟩, v1, st⟩ := hg
    refine core v m rise s t rule _ _ _ _ _ _ _ _ _ _ _ _ w hw m0 m1 w0.1 v1 st ?_ ?_ (fun W h => thTo_any v rise s rule W (hw.below h)) (fun W h => thTo_any v rise t rule W (hw.below h)) (fun W h => thTo_any (v + m) rise s rule W (hw.below h)) (fun W h => thAt_any v rise s rule W (hw.below h)) (fun W h => thAt_any v rise t rule W (hw.below h)) (fun W h => thAt_any (v + m) rise s rule W (hw.below h))
    · exact ord3 (fun h1 h2 => th_to_heat v rise s t rule st h1 h2) (fun h1 h2 => th_to_more v (v + m) rise s rule (by omega) h1 h2)
    · have h := @ord3 (atE v rise s rule) (atE v rise t rule) (atE (v + m) rise s rule) (-atQ v rise s rule) (-atQ v rise t rule) (atQ (v + m) rise s rule - 2 * atQ v rise s rule) (fun h1 h2 => by have := th_at_heat v rise s t rule st h1 h2; omega) (fun h1 h2 => by have := th_at_more v (v + m) rise s rule (by omega) h1 h2; omega)
      show _ ∨ _
      rcases h with a1 | ⟨a1, a2, a3⟩ | ⟨a1, a2, a3, a4⟩ | ⟨a1, a2, a3, a4⟩ | ⟨a1, a2, a3, a4, a5⟩
      · exact .inl a1
      · exact .inr (.inl ⟨a1, a2, a3⟩)
      · exact .inr (.inr (.inl ⟨a1, a2, by omega, a4⟩))
      · exact .inr (.inr (.inr (.inl ⟨a1, a2, a3, by omega⟩)))
      · exact .inr (.inr (.inr (.inr ⟨a1, a2, a3, by omega, by omega⟩)))
  · exact guards v m rise s t rule w hw (by omega)

set_option maxRecDepth 100000 in
theorem contract (H : Type) (enc : TypeId × Value → H) (W : World) (base : Nat) (args : Array Value) (ds gs : List (DataW H)) (before : List MemPlace)
    (hval : ∀ (j : Nat) t v, Tryd.f6.params[j]? = some t → args[j]? = some v → Value.okWide Tryd.prog W .any base t v)
    (hW : DataW.Whole enc Tryd.prog Tryd.f6.params.toList Rows.thermalOrderSpec.vars false W args.toList ds gs before) (hL : laidMetH Tryd.prog Rows.thermalOrderRow.laid W) :
    Calls Tryd.prog 6 args W fun e W' => ∃ v, e = .returned v ∧ Rows.thermalOrderSpec.post enc Tryd.prog Tryd.f6 false true false false W args v W' := by
  have hW' := hW
  obtain ⟨p, q, hA0, hV, rfl, hfz, hnd⟩ := hW
  have hA : DataW.TrodAll enc Tryd.prog W 0 (fun _ => true) true Tryd.f6.params.toList args.toList ds p := hA0
  rw [Tryd.params6] at hA hval
  obtain ⟨v0, vs0, d0, ds0, p0, q0, hargs, rfl, rfl, h0, r0⟩ := trodAll_cons hA
  obtain ⟨v1, vs1, d1, ds1, p1, q1, rfl, rfl, rfl, h1, r1⟩ := trodAll_cons r0
  obtain ⟨v2, vs2, d2, ds2, p2, q2, rfl, rfl, rfl, h2, r2⟩ := trodAll_cons r1
  obtain ⟨v3, vs3, d3, ds3, p3, q3, rfl, rfl, rfl, h3, r3⟩ := trodAll_cons r2
  obtain ⟨v4, vs4, d4, ds4, p4, q4, rfl, rfl, rfl, h4, r4⟩ := trodAll_cons r3
  obtain ⟨rfl, rfl, rfl⟩ := trodAll_nil r4
  obtain rfl : args = #[v0, v1, v2, v3, v4] := by cases args; simp_all
  obtain ⟨rfl, rfl⟩ := trodVars_none hV
  have k0 := h0
  have lt0 : ∀ x ∈ p0, x.block < W.heap.size := by obtain ⟨m, hm⟩ := k0; exact DataW.trod_lt m _ _ _ hm
  have k1 := h1
  have lt1 : ∀ x ∈ p1, x.block < W.heap.size := by obtain ⟨m, hm⟩ := k1; exact DataW.trod_lt m _ _ _ hm
  have k2 := h2
  have lt2 : ∀ x ∈ p2, x.block < W.heap.size := by obtain ⟨m, hm⟩ := k2; exact DataW.trod_lt m _ _ _ hm
  have k3 := h3
  have lt3 : ∀ x ∈ p3, x.block < W.heap.size := by obtain ⟨m, hm⟩ := k3; exact DataW.trod_lt m _ _ _ hm
  have k4 := h4
  have lt4 : ∀ x ∈ p4, x.block < W.heap.size := by obtain ⟨m, hm⟩ := k4; exact DataW.trod_lt m _ _ _ hm
  obtain ⟨a0, rfl, rfl, rfl, w0⟩ := open_int Tryd.underlying3 (hval 0 3 v0 rfl rfl) h0
  obtain ⟨a1, rfl, rfl, rfl, w1⟩ := open_int Tryd.underlying3 (hval 1 3 v1 rfl rfl) h1
  obtain ⟨a2, rfl, rfl, rfl, w2⟩ := open_int Tryd.underlying3 (hval 2 3 v2 rfl rfl) h2
  obtain ⟨z3, l3, rfl, b3⟩ := open_intArr Tryd.underlying36 Tryd.underlying3 (by kernel_rfl) (by kernel_rfl) (hval 3 36 v3 rfl rfl) h3
  obtain ⟨x3_0, x3_1, rfl⟩ := list_two l3
  obtain ⟨a4, rfl, rfl, rfl, w4⟩ := open_int Tryd.underlying3 (hval 4 3 v4 rfl rfl) h4
  clear hA0
  refine (walk a0 a1 a2 x3_0 x3_1 a4 W (wf_bd w0) (wf_bd w1) (wf_bd w2) (wf_bd (b3 x3_0 (by simp))) (wf_bd (b3 x3_1 (by simp))) (wf_bd w4) (words_of hL)).mono fun e W' ⟨he, bel⟩ => ?_
  subst he
  exact ⟨_, rfl, _, _, _, [], _, [], hW', trodAll_mk1 (shut_bool Tryd.underlying4 _), (trodAll_cons_mk (Below.trod laidOut (by kernel_rfl) (of_decide_eq_true (by kernel_rfl)) k0 bel lt0) (trodAll_cons_mk (Below.trod laidOut (by kernel_rfl) (of_decide_eq_true (by kernel_rfl)) k1 bel lt1) (trodAll_cons_mk (Below.trod laidOut (by kernel_rfl) (of_decide_eq_true (by kernel_rfl)) k2 bel lt2) (trodAll_cons_mk (Below.trod laidOut (by kernel_rfl) (of_decide_eq_true (by kernel_rfl)) k3 bel lt3) (trodAll_cons_mk (Below.trod laidOut (by kernel_rfl) (of_decide_eq_true (by kernel_rfl)) k4 bel lt4) trodAll_mk0))))), rfl, bel.frame _, fun h => by cases h⟩

noncomputable def laidWorld (os : Os) : World :=
  { World.holding Tryd.prog os ⟨#[], #[], []⟩ with heap := (World.holding Tryd.prog os ⟨#[], #[], []⟩).heap.modify 0 fun
      | .cells _ t frozen => .cells (wordsL.map str).toArray t frozen
      | o => o }
theorem laid_met (os : Os) : laidMet Tryd.prog Rows.thermalOrderRow.laid ((laidWorld os).forCall (fun _ _ => 0) ⟨#[], #[.int .i64 0, .int .i64 0, .int .i64 0, .agg #[.int .i64 0, .int .i64 0], .int .i64 0], []⟩).memory :=
  laidMet_of_run' 8 (by kernel_rfl) (by kernel_rfl)
theorem reads (os : Os) {H : Type} (enc : TypeId × Value → H) : ∃ places, DataW.whole enc Tryd.prog ((laidWorld os).forCall (fun _ _ => 0) ⟨#[], #[.int .i64 0, .int .i64 0, .int .i64 0, .agg #[.int .i64 0, .int .i64 0], .int .i64 0], []⟩).memory Tryd.f6.params.toList Rows.thermalOrderSpec.vars false (#[.int .i64 0, .int .i64 0, .int .i64 0, .agg #[.int .i64 0, .int .i64 0], .int .i64 0] : Array Value).toList 8 = some ([.lit (.int .i64 0), .lit (.int .i64 0), .lit (.int .i64 0), .agg [.lit (.int .i64 0), .lit (.int .i64 0)], .lit (.int .i64 0)], [], places) :=
  ⟨[], by kernel_rfl⟩

set_option maxRecDepth 100000 in
theorem lifted (os : Os) (started : os.Started) (H : Type) (enc : TypeId × Value → H) (F : Stop.Interp) :
    ReturnsInHanded {} Tryd.checked os 6 .any ((OpenSpec.ofChange Rows.thermalOrderSpec).preRow enc Tryd.prog Tryd.f6 Rows.thermalOrderRow.domain false Rows.thermalOrderRow.laid) (((OpenSpec.ofChange Rows.thermalOrderSpec).at F).post enc Tryd.prog Tryd.f6 false true false false) := by
  obtain ⟨places, hx⟩ := reads os enc
  refine returnsInHanded_of_row (C := Tryd.checked) (s := OpenSpec.ofChange Rows.thermalOrderSpec) own started (by kernel_rfl) Tryd.func6
    (witness_row_at (enc := enc) (C := Tryd.checked) false (laidWorld os) #[.int .i64 0, .int .i64 0, .int .i64 0, .agg #[.int .i64 0, .int .i64 0], .int .i64 0] rfl (by kernel_rfl) (by kernel_rfl) (by kernel_rfl)
      (OpenSpec.preRow_of_cond 8 hx (by kernel_rfl) (fun k hk => by cases hk) (by kernel_rfl) (laid_met os))) ?_
  intro W base args ds gs before hval hW _ _ _ hL _ _
  exact contract H enc W base args ds gs before hval hW hL

theorem said : Rows.ThermalOrderSaid :=
  OpenClaim.holds_of_cond 6 Tryd.f6 rfl rfl rfl rfl rfl rfl rfl ⟨rfl, rfl, rfl, rfl, rfl⟩ rfl rfl rfl rfl rfl (by kernel_rfl) Tryd.func6 (by kernel_rfl)
    (of_decide_eq_true (by kernel_rfl)) (by unfold Func.isWrapper; first | (rw [if_pos (by decide +kernel)]; kernel_rfl) | (rw [if_neg (by decide +kernel)]; exact ⟨rfl, rfl⟩))
    (fun os started H enc _ F => by rw [OpenClaim.pre_eq_preRow]; exact lifted os started H enc F)

theorem plain (f : FuncId) (fn : Func) (hf : Tryd.pinned.checked.prog.funcNamed "spile/spilelaw05.ThermalOrder" = some f) (hfn : Tryd.pinned.checked.prog.funcs[f]? = some fn) :
    false = Tryd.pinned.checked.prog.looks [] ∧ ∀ (j : Nat) t, fn.params[j]? = some t → Tryd.pinned.checked.prog.wantsStandIn t = false := by
  obtain rfl : f = 6 := Option.some.inj ((show Tryd.prog.funcNamed "spile/spilelaw05.ThermalOrder" = some 6 by kernel_rfl).symm.trans hf) |>.symm
  obtain rfl : fn = Tryd.f6 := (Option.some.inj (Tryd.func6.symm.trans hfn)).symm
  refine ⟨by kernel_rfl, fun j t ht => ?_⟩
  rw [Tryd.params6] at ht
  rcases j with _ | _ | _ | _ | _ | j
  · obtain rfl : t = 3 := by simpa using ht.symm
    exact (show Tryd.prog.wantsStandIn 3 = false by kernel_rfl)
  · obtain rfl : t = 3 := by simpa using ht.symm
    exact (show Tryd.prog.wantsStandIn 3 = false by kernel_rfl)
  · obtain rfl : t = 3 := by simpa using ht.symm
    exact (show Tryd.prog.wantsStandIn 3 = false by kernel_rfl)
  · obtain rfl : t = 36 := by simpa using ht.symm
    exact (show Tryd.prog.wantsStandIn 36 = false by kernel_rfl)
  · obtain rfl : t = 3 := by simpa using ht.symm
    exact (show Tryd.prog.wantsStandIn 3 = false by kernel_rfl)
  · simp at ht

theorem proved : Rows.ThermalOrderCardSaid :=
  Claim7.holds_tied_plain_at .later [] _ _ _ _ said (fun _ h => by cases h) (by kernel_rfl) (fun _ h => by cases h) thermalOrder_row_tie rfl ⟨rfl, rfl⟩ (by kernel_rfl) rfl plain (by kernel_rfl)
#print axioms proved
end Go.Proofs.YtigmpbipbkgnfaaDoor.thermalOrder
