/-
  The statement ThermalBack of spile/spilelaw05 holds: for every input the call returns true, and each argument reads afterwards as it read before. (The listed package variables hold what the program lays: the card ties them.)
-/
import Derived.Test.YtigmpbipbkgnfaaDoorTO
import Derived.Test.YtigmpbipbkgnfaaDoorCards
import Derived.Test.YtigmpbipbkgnfaaDoorTie
import Derived.Below
import Derived.Carry
import Derived.Lib.LaidTab
import Derived.Deep.DeepHandedRow
import Derived.SevenTiedPlain
namespace Go.Proofs.YtigmpbipbkgnfaaDoor.thermalBack
open Go.ChangeShapes Go.WideShapes Go.ChangeAt Go.RowKit
open Go.ChangeMaps (open_string shut_string)
set_option linter.unusedVariables false

set_option maxRecDepth 100000 in
set_option maxHeartbeats 4000000 in
theorem bkNone (v rise heat rule E F : Int) (w : World) (hw : WordsIs w) (e1 : (E == 0) = false) (e2 : (E != 0) = true) (f1 : (F == 0) = false) (f2 : (F != 0) = true)
    (H1 : Hid (∀ W, Below w.heap.size w W → Calls Tryd.prog 12 #[.int .i64 v, .int .i64 rise, .int .i64 heat, .int .i64 rule] W fun e w' => e = .returned (.tuple #[.int .i64 0, .int .i64 E]) ∧ Below W.heap.size W w'))
    (H2 : Hid (∀ W, Below w.heap.size w W → Calls Tryd.prog 14 #[.int .i64 v, .int .i64 rise, .int .i64 heat, .int .i64 rule] W fun e w' => e = .returned (.tuple #[.int .i64 0, .int .i64 F]) ∧ Below W.heap.size W w')) :
    Calls Tryd.prog 5 #[.int .i64 v, .int .i64 rise, .int .i64 heat, .int .i64 rule] w fun e w' => e = .returned (.bool true) ∧ Below w.heap.size w w' := by
  have HA : Hid (∀ W, Below w.heap.size w W → _) := fun W h => awake_any W (hw.below h)
  clear hw
  have HB := Lib.hid (Below.refl w.heap.size w)
  cases h1 : (heat == 200) <;> cases h2 : (rise == 0)
  all_goals
    go_enter Tryd.func5, Tryd.ntmps5
    go_wp2_with fail
    refine (HA.out _ HB.out).mono ?_
    rintro e w2 ⟨rfl, h1⟩
    replace HB := Lib.hid (bel_trans HB.out h1); clear h1
    go_wp2_with fail
    refine (H1.out _ HB.out).mono ?_
    rintro e w3 ⟨rfl, h1⟩
    replace HB := Lib.hid (bel_trans HB.out h1); clear h1
    go_wp2_with fail
    refine (H2.out _ HB.out).mono ?_
    rintro e w4 ⟨rfl, h1⟩
    replace HB := Lib.hid (bel_trans HB.out h1); clear h1
    go_wp2
    go_returns
    exact ⟨rfl, HB.out⟩
set_option maxRecDepth 100000 in
set_option maxHeartbeats 4000000 in
theorem bkSame (v rise heat rule : Int) (w : World) (hw : WordsIs w) (v0 : 0 ≤ v) (v1 : v ≤ 128849018880000) (hs : (heat == 200) = true ∨ ((heat == 200) = false ∧ (rise == 0) = true))
    (H1 : Hid (∀ W, Below w.heap.size w W → Calls Tryd.prog 12 #[.int .i64 v, .int .i64 rise, .int .i64 heat, .int .i64 rule] W fun e w' => e = .returned (.tuple #[.int .i64 v, .int .i64 0]) ∧ Below W.heap.size W w'))
    (H2 : Hid (∀ W, Below w.heap.size w W → Calls Tryd.prog 14 #[.int .i64 v, .int .i64 rise, .int .i64 heat, .int .i64 rule] W fun e w' => e = .returned (.tuple #[.int .i64 v, .int .i64 0]) ∧ Below W.heap.size W w')) :
    Calls Tryd.prog 5 #[.int .i64 v, .int .i64 rise, .int .i64 heat, .int .i64 rule] w fun e w' => e = .returned (.bool true) ∧ Below w.heap.size w w' := by
  have HA : Hid (∀ W, Below w.heap.size w W → _) := fun W h => awake_any W (hw.below h)
  clear hw
  have HB := Lib.hid (Below.refl w.heap.size w)
  rcases hs with h1 | ⟨h1, h2⟩
  all_goals
    go_enter Tryd.func5, Tryd.ntmps5
    go_wp2_with fail
    refine (HA.out _ HB.out).mono ?_
    rintro e w6 ⟨rfl, h1⟩
    replace HB := Lib.hid (bel_trans HB.out h1); clear h1
    go_wp2_with fail
    refine (H1.out _ HB.out).mono ?_
    rintro e w7 ⟨rfl, h1⟩
    replace HB := Lib.hid (bel_trans HB.out h1); clear h1
    go_wp2_with fail
    refine (H2.out _ HB.out).mono ?_
    rintro e w8 ⟨rfl, h1⟩
    replace HB := Lib.hid (bel_trans HB.out h1); clear h1
    go_wp2_with fail
    refine (H2.out _ HB.out).mono ?_
    rintro e w9 ⟨rfl, h1⟩
    replace HB := Lib.hid (bel_trans HB.out h1); clear h1
    go_wp2_with fail
    refine (H1.out _ HB.out).mono ?_
    rintro e w10 ⟨rfl, h1⟩
    replace HB := Lib.hid (bel_trans HB.out h1); clear h1
    go_wp2
    go_returns
    exact ⟨by first | rfl | exact ret_bool (by simp), HB.out⟩
set_option maxRecDepth 100000 in
set_option maxHeartbeats 8000000 in
theorem bkSome (v rise heat rule A E B F C G D I : Int) (w : World) (hw : WordsIs w) (v0 : 0 ≤ v) (v1 : v ≤ 128849018880000) (h1 : (heat == 200) = false) (h2 : (rise == 0) = false)
    (k1 : Hid (((E == 0) = false ∧ A = 0) ∨ (E = 0 ∧ G = 0 ∧ -4 ≤ C - v ∧ C - v ≤ 4) ∨ (E = 0 ∧ G = 15)))
    (k2 : Hid (((F == 0) = false ∧ B = 0) ∨ (F = 0 ∧ I = 0 ∧ -3 ≤ D - v ∧ D - v ≤ 3) ∨ (F = 0 ∧ I = 15)))
    (H1 : Hid (∀ W, Below w.heap.size w W → Calls Tryd.prog 12 #[.int .i64 v, .int .i64 rise, .int .i64 heat, .int .i64 rule] W fun e w' => e = .returned (.tuple #[.int .i64 A, .int .i64 E]) ∧ Below W.heap.size W w'))
    (H2 : Hid (∀ W, Below w.heap.size w W → Calls Tryd.prog 14 #[.int .i64 v, .int .i64 rise, .int .i64 heat, .int .i64 rule] W fun e w' => e = .returned (.tuple #[.int .i64 B, .int .i64 F]) ∧ Below W.heap.size W w'))
    (H3 : Hid (∀ W, Below w.heap.size w W → Calls Tryd.prog 14 #[.int .i64 A, .int .i64 rise, .int .i64 heat, .int .i64 rule] W fun e w' => e = .returned (.tuple #[.int .i64 C, .int .i64 G]) ∧ Below W.heap.size W w'))
    (H4 : Hid (∀ W, Below w.heap.size w W → Calls Tryd.prog 12 #[.int .i64 B, .int .i64 rise, .int .i64 heat, .int .i64 rule] W fun e w' => e = .returned (.tuple #[.int .i64 D, .int .i64 I]) ∧ Below W.heap.size W w')) :
    Calls Tryd.prog 5 #[.int .i64 v, .int .i64 rise, .int .i64 heat, .int .i64 rule] w fun e w' => e = .returned (.bool true) ∧ Below w.heap.size w w' := by
  have HA : Hid (∀ W, Below w.heap.size w W → _) := fun W h => awake_any W (hw.below h)
  clear hw
  have HB := Lib.hid (Below.refl w.heap.size w)
  rcases k1.out with ⟨e1, rfl⟩ | ⟨rfl, rfl, e1, e2⟩ | ⟨rfl, rfl⟩
  · rcases k2.out with ⟨f1, rfl⟩ | ⟨rfl, rfl, f1, f2⟩ | ⟨rfl, rfl⟩
    · go_enter Tryd.func5, Tryd.ntmps5
      go_wp2_with fail
      refine (HA.out _ HB.out).mono ?_
      rintro e w12 ⟨rfl, h1⟩
      replace HB := Lib.hid (bel_trans HB.out h1); clear h1
      go_wp2_with fail
      refine (H1.out _ HB.out).mono ?_
      rintro e w13 ⟨rfl, h1⟩
      replace HB := Lib.hid (bel_trans HB.out h1); clear h1
      go_wp2_with fail
      refine (H2.out _ HB.out).mono ?_
      rintro e w14 ⟨rfl, h1⟩
      replace HB := Lib.hid (bel_trans HB.out h1); clear h1
      go_wp2
      go_returns
      exact ⟨rfl, HB.out⟩
    all_goals
      go_enter Tryd.func5, Tryd.ntmps5
      go_wp2_with fail
      refine (HA.out _ HB.out).mono ?_
      rintro e w15 ⟨rfl, h1⟩
      replace HB := Lib.hid (bel_trans HB.out h1); clear h1
      go_wp2_with fail
      refine (H1.out _ HB.out).mono ?_
      rintro e w16 ⟨rfl, h1⟩
      replace HB := Lib.hid (bel_trans HB.out h1); clear h1
      go_wp2_with fail
      refine (H2.out _ HB.out).mono ?_
      rintro e w17 ⟨rfl, h1⟩
      replace HB := Lib.hid (bel_trans HB.out h1); clear h1
      go_wp2_with fail
      refine (H4.out _ HB.out).mono ?_
      rintro e w18 ⟨rfl, h1⟩
      replace HB := Lib.hid (bel_trans HB.out h1); clear h1
      go_wp2
      go_returns
      exact ⟨rfl, HB.out⟩
  all_goals
    rcases k2.out with ⟨f1, rfl⟩ | ⟨rfl, rfl, f1, f2⟩ | ⟨rfl, rfl⟩
    · go_enter Tryd.func5, Tryd.ntmps5
      go_wp2_with fail
      refine (HA.out _ HB.out).mono ?_
      rintro e w19 ⟨rfl, h1⟩
      replace HB := Lib.hid (bel_trans HB.out h1); clear h1
      go_wp2_with fail
      refine (H1.out _ HB.out).mono ?_
      rintro e w20 ⟨rfl, h1⟩
      replace HB := Lib.hid (bel_trans HB.out h1); clear h1
      go_wp2_with fail
      refine (H2.out _ HB.out).mono ?_
      rintro e w21 ⟨rfl, h1⟩
      replace HB := Lib.hid (bel_trans HB.out h1); clear h1
      go_wp2_with fail
      refine (H3.out _ HB.out).mono ?_
      rintro e w22 ⟨rfl, h1⟩
      replace HB := Lib.hid (bel_trans HB.out h1); clear h1
      go_wp2
      go_returns
      exact ⟨rfl, HB.out⟩
    all_goals
      go_enter Tryd.func5, Tryd.ntmps5
      go_wp2_with fail
      refine (HA.out _ HB.out).mono ?_
      rintro e w23 ⟨rfl, h1⟩
      replace HB := Lib.hid (bel_trans HB.out h1); clear h1
      go_wp2_with fail
      refine (H1.out _ HB.out).mono ?_
      rintro e w24 ⟨rfl, h1⟩
      replace HB := Lib.hid (bel_trans HB.out h1); clear h1
      go_wp2_with fail
      refine (H2.out _ HB.out).mono ?_
      rintro e w25 ⟨rfl, h1⟩
      replace HB := Lib.hid (bel_trans HB.out h1); clear h1
      go_wp2_with fail
      refine (H3.out _ HB.out).mono ?_
      rintro e w26 ⟨rfl, h1⟩
      replace HB := Lib.hid (bel_trans HB.out h1); clear h1
      go_wp2_with fail
      refine (H4.out _ HB.out).mono ?_
      rintro e w27 ⟨rfl, h1⟩
      replace HB := Lib.hid (bel_trans HB.out h1); clear h1
      go_wp2
      go_returns
      exact ⟨rfl, HB.out⟩
theorem walk (v rise heat rule : Int) (w : World) (w0 : -9223372036854775808 ≤ v ∧ v ≤ 9223372036854775807) (w1 : -9223372036854775808 ≤ rise ∧ rise ≤ 9223372036854775807) (w2 : -9223372036854775808 ≤ heat ∧ heat ≤ 9223372036854775807) (w3 : -9223372036854775808 ≤ rule ∧ rule ≤ 9223372036854775807) (hw : WordsIs w) :
    Calls Tryd.prog 5 #[.int .i64 v, .int .i64 rise, .int .i64 heat, .int .i64 rule] w fun e w' => e = .returned (.bool true) ∧ Below w.heap.size w w' := by
  have H1 := fun W (h : Below w.heap.size w W) => thAt_any v rise heat rule W (hw.below h)
  have H2 := fun W (h : Below w.heap.size w W) => thTo_any v rise heat rule W (hw.below h)
  by_cases hz : rdyE v rise heat rule = 0
  · obtain ⟨hr, hf, hv⟩ := rdy_ok hz
    by_cases hs : heat = 200 ∨ rise = 0
    · obtain ⟨a1, a2, a3, a4⟩ := th_same v rise heat rule hs hz
      rw [a1, a3] at H1
      rw [a2, a4] at H2
      refine bkSame v rise heat rule w hw hv.1 hv.2 ?_ H1 H2
      by_cases h : heat = 200
      · left; simp [h]
      · right; exact ⟨by simpa using h, by simp; omega⟩
    · refine bkSome v rise heat rule _ _ _ _ _ _ _ _ w hw hv.1 hv.2 (by simp; omega) (by simp; omega) ?_ ?_ H1 H2 (fun W h => thTo_any _ rise heat rule W (hw.below h)) (fun W h => thAt_any _ rise heat rule W (hw.below h))
      · show _ ∨ _
        by_cases h : atE v rise heat rule = 0
        · right
          rcases th_back1 v rise heat rule h with ⟨g1, g2, g3⟩ | g
          · left; exact ⟨h, g1, g2, g3⟩
          · right; exact ⟨h, g⟩
        · left; exact ⟨by simpa using h, at_none h⟩
      · show _ ∨ _
        by_cases h : toE v rise heat rule = 0
        · right
          rcases th_back2 v rise heat rule h with ⟨g1, g2, g3⟩ | g
          · left; exact ⟨h, g1, g2, g3⟩
          · right; exact ⟨h, g⟩
        · left; exact ⟨by simpa using h, to_none h⟩
  · have a1 : atE v rise heat rule ≠ 0 := fun h => hz (at_zero h).1
    have a2 : toE v rise heat rule ≠ 0 := fun h => hz (to_zero h).1
    rw [at_none a1] at H1
    rw [to_none a2] at H2
    exact bkNone v rise heat rule _ _ w hw (by simpa using a1) (by simpa using a1) (by simpa using a2) (by simpa using a2) H1 H2

set_option maxRecDepth 100000 in
theorem contract (H : Type) (enc : TypeId × Value → H) (W : World) (base : Nat) (args : Array Value) (ds gs : List (DataW H)) (before : List MemPlace)
    (hval : ∀ (j : Nat) t v, Tryd.f5.params[j]? = some t → args[j]? = some v → Value.okWide Tryd.prog W .any base t v)
    (hW : DataW.Whole enc Tryd.prog Tryd.f5.params.toList Rows.thermalBackSpec.vars false W args.toList ds gs before) (hL : laidMetH Tryd.prog Rows.thermalBackRow.laid W) :
    Calls Tryd.prog 5 args W fun e W' => ∃ v, e = .returned v ∧ Rows.thermalBackSpec.post enc Tryd.prog Tryd.f5 false true false false W args v W' := by
  have hW' := hW
  obtain ⟨p, q, hA0, hV, rfl, hfz, hnd⟩ := hW
  have hA : DataW.TrodAll enc Tryd.prog W 0 (fun _ => true) true Tryd.f5.params.toList args.toList ds p := hA0
  rw [Tryd.params5] at hA hval
  obtain ⟨v0, vs0, d0, ds0, p0, q0, hargs, rfl, rfl, h0, r0⟩ := trodAll_cons hA
  obtain ⟨v1, vs1, d1, ds1, p1, q1, rfl, rfl, rfl, h1, r1⟩ := trodAll_cons r0
  obtain ⟨v2, vs2, d2, ds2, p2, q2, rfl, rfl, rfl, h2, r2⟩ := trodAll_cons r1
  obtain ⟨v3, vs3, d3, ds3, p3, q3, rfl, rfl, rfl, h3, r3⟩ := trodAll_cons r2
  obtain ⟨rfl, rfl, rfl⟩ := trodAll_nil r3
  obtain rfl : args = #[v0, v1, v2, v3] := by cases args; simp_all
  obtain ⟨rfl, rfl⟩ := trodVars_none hV
  have k0 := h0
  have lt0 : ∀ x ∈ p0, x.block < W.heap.size := by obtain ⟨m, hm⟩ := k0; exact DataW.trod_lt m _ _ _ hm
  have k1 := h1
  have lt1 : ∀ x ∈ p1, x.block < W.heap.size := by obtain ⟨m, hm⟩ := k1; exact DataW.trod_lt m _ _ _ hm
  have k2 := h2
  have lt2 : ∀ x ∈ p2, x.block < W.heap.size := by obtain ⟨m, hm⟩ := k2; exact DataW.trod_lt m _ _ _ hm
  have k3 := h3
  have lt3 : ∀ x ∈ p3, x.block < W.heap.size := by obtain ⟨m, hm⟩ := k3; exact DataW.trod_lt m _ _ _ hm
  obtain ⟨a0, rfl, rfl, rfl, w0⟩ := open_int Tryd.underlying3 (hval 0 3 v0 rfl rfl) h0
  obtain ⟨a1, rfl, rfl, rfl, w1⟩ := open_int Tryd.underlying3 (hval 1 3 v1 rfl rfl) h1
  obtain ⟨a2, rfl, rfl, rfl, w2⟩ := open_int Tryd.underlying3 (hval 2 3 v2 rfl rfl) h2
  obtain ⟨a3, rfl, rfl, rfl, w3⟩ := open_int Tryd.underlying3 (hval 3 3 v3 rfl rfl) h3
  clear hA0
  refine (walk a0 a1 a2 a3 W (wf_bd w0) (wf_bd w1) (wf_bd w2) (wf_bd w3) (words_of hL)).mono fun e W' ⟨he, bel⟩ => ?_
  subst he
  exact ⟨_, rfl, _, _, _, [], _, [], hW', trodAll_mk1 (shut_bool Tryd.underlying4 _), (trodAll_cons_mk (Below.trod laidOut (by kernel_rfl) (of_decide_eq_true (by kernel_rfl)) k0 bel lt0) (trodAll_cons_mk (Below.trod laidOut (by kernel_rfl) (of_decide_eq_true (by kernel_rfl)) k1 bel lt1) (trodAll_cons_mk (Below.trod laidOut (by kernel_rfl) (of_decide_eq_true (by kernel_rfl)) k2 bel lt2) (trodAll_cons_mk (Below.trod laidOut (by kernel_rfl) (of_decide_eq_true (by kernel_rfl)) k3 bel lt3) trodAll_mk0)))), rfl, bel.frame _, fun h => by cases h⟩

noncomputable def laidWorld (os : Os) : World :=
  { World.holding Tryd.prog os ⟨#[], #[], []⟩ with heap := (World.holding Tryd.prog os ⟨#[], #[], []⟩).heap.modify 0 fun
      | .cells _ t frozen => .cells (wordsL.map str).toArray t frozen
      | o => o }
theorem laid_met (os : Os) : laidMet Tryd.prog Rows.thermalBackRow.laid ((laidWorld os).forCall (fun _ _ => 0) ⟨#[], #[.int .i64 0, .int .i64 0, .int .i64 0, .int .i64 0], []⟩).memory :=
  laidMet_of_run' 8 (by kernel_rfl) (by kernel_rfl)
theorem reads (os : Os) {H : Type} (enc : TypeId × Value → H) : ∃ places, DataW.whole enc Tryd.prog ((laidWorld os).forCall (fun _ _ => 0) ⟨#[], #[.int .i64 0, .int .i64 0, .int .i64 0, .int .i64 0], []⟩).memory Tryd.f5.params.toList Rows.thermalBackSpec.vars false (#[.int .i64 0, .int .i64 0, .int .i64 0, .int .i64 0] : Array Value).toList 8 = some ([.lit (.int .i64 0), .lit (.int .i64 0), .lit (.int .i64 0), .lit (.int .i64 0)], [], places) :=
  ⟨[], by kernel_rfl⟩

set_option maxRecDepth 100000 in
theorem lifted (os : Os) (started : os.Started) (H : Type) (enc : TypeId × Value → H) (F : Stop.Interp) :
    ReturnsInHanded {} Tryd.checked os 5 .any ((OpenSpec.ofChange Rows.thermalBackSpec).preRow enc Tryd.prog Tryd.f5 Rows.thermalBackRow.domain false Rows.thermalBackRow.laid) (((OpenSpec.ofChange Rows.thermalBackSpec).at F).post enc Tryd.prog Tryd.f5 false true false false) := by
  obtain ⟨places, hx⟩ := reads os enc
  refine returnsInHanded_of_row (C := Tryd.checked) (s := OpenSpec.ofChange Rows.thermalBackSpec) own started (by kernel_rfl) Tryd.func5
    (witness_row_at (enc := enc) (C := Tryd.checked) false (laidWorld os) #[.int .i64 0, .int .i64 0, .int .i64 0, .int .i64 0] rfl (by kernel_rfl) (by kernel_rfl) (by kernel_rfl)
      (OpenSpec.preRow_of_cond 8 hx (by kernel_rfl) (fun k hk => by cases hk) (by kernel_rfl) (laid_met os))) ?_
  intro W base args ds gs before hval hW _ _ _ hL _ _
  exact contract H enc W base args ds gs before hval hW hL

theorem said : Rows.ThermalBackSaid :=
  OpenClaim.holds_of_cond 5 Tryd.f5 rfl rfl rfl rfl rfl rfl rfl ⟨rfl, rfl, rfl, rfl, rfl⟩ rfl rfl rfl rfl rfl (by kernel_rfl) Tryd.func5 (by kernel_rfl)
    (of_decide_eq_true (by kernel_rfl)) (by unfold Func.isWrapper; first | (rw [if_pos (by decide +kernel)]; kernel_rfl) | (rw [if_neg (by decide +kernel)]; exact ⟨rfl, rfl⟩))
    (fun os started H enc _ F => by rw [OpenClaim.pre_eq_preRow]; exact lifted os started H enc F)

theorem plain (f : FuncId) (fn : Func) (hf : Tryd.pinned.checked.prog.funcNamed "spile/spilelaw05.ThermalBack" = some f) (hfn : Tryd.pinned.checked.prog.funcs[f]? = some fn) :
    false = Tryd.pinned.checked.prog.looks [] ∧ ∀ (j : Nat) t, fn.params[j]? = some t → Tryd.pinned.checked.prog.wantsStandIn t = false := by
  obtain rfl : f = 5 := Option.some.inj ((show Tryd.prog.funcNamed "spile/spilelaw05.ThermalBack" = some 5 by kernel_rfl).symm.trans hf) |>.symm
  obtain rfl : fn = Tryd.f5 := (Option.some.inj (Tryd.func5.symm.trans hfn)).symm
  refine ⟨by kernel_rfl, fun j t ht => ?_⟩
  rw [Tryd.params5] at ht
  rcases j with _ | _ | _ | _ | j
  · obtain rfl : t = 3 := by simpa using ht.symm
    exact (show Tryd.prog.wantsStandIn 3 = false by kernel_rfl)
  · obtain rfl : t = 3 := by simpa using ht.symm
    exact (show Tryd.prog.wantsStandIn 3 = false by kernel_rfl)
  · obtain rfl : t = 3 := by simpa using ht.symm
    exact (show Tryd.prog.wantsStandIn 3 = false by kernel_rfl)
  · obtain rfl : t = 3 := by simpa using ht.symm
    exact (show Tryd.prog.wantsStandIn 3 = false by kernel_rfl)
  · simp at ht

theorem proved : Rows.ThermalBackCardSaid :=
  Claim7.holds_tied_plain_at .later [] _ _ _ _ said (fun _ h => by cases h) (by kernel_rfl) (fun _ h => by cases h) thermalBack_row_tie rfl ⟨rfl, rfl⟩ (by kernel_rfl) rfl plain (by kernel_rfl)
#print axioms proved
end Go.Proofs.YtigmpbipbkgnfaaDoor.thermalBack
